import PyProof.Rows.All
import Wide.All
import OpenK.AllK
import Wide.FinOn
import Lean
import PyProof.EqAt
import PyProof.EqKinds
import PyProof.TupleCall
import PySem.Challenge.RW_leastrow_k81_no_change
set_option Elab.async false
set_option linter.all false
set_option maxRecDepth 100000
open PySem renaming Shared→AA,wpAny_bind→AB,starEach→AC,wpAny_pure→AD,wpAny→AE,model→AF,Program→AG,sizeLine→AH,World→AI,mainGlobals→AJ,FuncData→AK,wpAny_newObj_type→AL,compareOp→AM,wpAny_mono→AN,wpAny_loadPart_at→AO,wpAny_holding→AQ,behindInMarks→AR,bootBuiltins→AS,assignEach→AT,binaryOp→AU,wpAny_Call_Name_kw→AW,cLine→AX,wpAny_truthy_bool→AY,backTo→AZ,foldedSetIterable→Aa,sizeLine_eq→Ab,wpAny_field→Ac,codeAny_call_builtin→Ad,swapsWith→Ae,sysModules→Af,codeAny_mono→Ag,wpAny_standAt→Ah,attributeBase→Ai,wpAny_passesOwn→Aj,wpAny_callSpecial?_slot→Ak
open Inhabited renaming default→AV
open PySem.W renaming Frag→aB,kitOne→bO,fnOf→bW,keepIn→bZ,findIn→cN,kia_one→cX,nsIn→dD,mg_of→dF,codeIn→dL,specialIn→jI,clsIn→lS,callWith_K→mD,methodObj→nM,hasDictIn→nN,instObj→oS,lookIn→rH,typeIn→rJ,exmOne→rK,cellsFrom_some→vG
open List renaming length_map→aC,size_toArray→aG,replicate→aI,length_append→aJ,mem_append_right→aN,length_take→aV,range→bC,map_append→bD,getElem?_eq_some_iff→bE,mem_append→bF,getElem?_map→bK,mem_singleton→bP,getD→bQ,map_map→bU,mem_cons_of_mem→bV,length_cons→bX,map_cons→bY,replicate_succ→cB,mem_cons→cD,mem_append_left→cE,mem_cons_self→cG,mem_map→cH,length_drop→cO,mem_range→cR,append_nil→cS,filter_eq_self→cU,lookup_cons→cY,flatten_cons→dA,mem_of_getElem?→dE,all_eq_true→dI,nodup_append→dS,length_range→dU,filterMap_cons→dY,map_congr_left→dZ,take_of_length_le→eB,take_length→eI,take_add_one→eM,mem_flatMap→eV,find?_cons→fB,length_nil→fC,map_take→fG,map_drop→fH,length_replicate→fJ,getElem?_eq_none→fK,append_assoc→fN,nodup_nil→fS,map_nil→gB,getElem_mem→gC,drop_of_length_le→gS,flatMap_cons→gT,length_singleton→hU,getElem?_set_ne→hZ,eq_nil_of_length_eq_zero→iA,mem_of_mem_take→iB,mem_of_mem_drop→iC,nodup_cons→iN,length_reverse→jA,getElem?_append_left→jM,getElem?_set_self→kN,nil_append→kX,length_filter_le→lH,drop_zero→lQ,getElem?_range→mE,getElem_of_mem→mF,any_cons→nL,find?_eq_none→nO,foldl_append→oJ,map→oK,not_mem_nil→pI,take_subset→pJ,mem_filter→rM,of_mem_zip→rN,length_set→rO,getElem?_append_right→tE,foldl→tF,find?_range_eq_some→vH,getElem?_eq_getElem→vI,mem_singleton_self→xW,take_eq_take_iff→zW
open PySem.Heap renaming get?_push_of_some→aH,lt_size→aO,get?_push_size→bT,get?_update_other→cP,get?_update_self→eJ,get?_none_of_le→iD
open Int renaming emod_nonneg→aK,emod_lt_of_pos→aQ,toNat_natCast→cK,ne_of_gt→eG,zero_add→kY,fdiv_eq_ediv_of_nonneg→vF
open Nat renaming le_refl→aR,lt_of_lt_of_le→aY,ne_of_lt→bG,zero_le→bL,le_trans→bM,le_of_ble_eq_true→dH,le_of_lt→eE,lt_irrefl→eP,le_succ→gA,ne_of_gt→gE,min_eq_left→jB,succ_mul→jD,lt_of_le_of_lt→jK,add_sub_cancel_left→kM,pow_le_pow_right→mC,not_lt→oF,add_comm→oR,log2_le_self→rG,mul_comm→zX,le_of_eq→zY
open Bool renaming false_ne_true→aU,and_eq_true→aW,false_eq_true→eZ,eq_iff_iff→fD,true_and→gO,not_eq_true'→jY,decide_and→kZ,false_and→lR,or_eq_true→rP,beq_eq_decide_eq→zZ
open Option renaming some→bN,isSome_iff_exists→jN,map_eq_some_iff→vJ
open Array renaming length_toList→eU,getElem?_eq_some_iff→fR
open PySem.F renaming args_tuple_add_2→jL,entry_tuple_add→jZ,slot_tuple_add→kH,excBase_ValueError→rL,plainAttrs_list→tG
open PySem.W renaming isNs_of_in→aAa,mg_none_of→aAb,kitx_list→aBF,kitx_dict→aBG,plainGet→aBM,readsIn→aDn,findCls→aDo,mroIn→aFO,isFn→aGc
open List renaming take_succ_cons→aBH,flatMap_append→aBI,mem_filterMap→aDh,getElem?_take→aDi,mem_replicate→aDj,reverse_cons→aEi,any_eq_true→aFL,ext_getElem→aFM,range_succ→aGa,all_cons→aHS
open Nat renaming mul_le_mul_right→aBJ,lt_succ_of_lt→aFN,lt_succ_self→aGb,not_lt_zero→aHE,mul_le_mul→aHT,pow_succ→aJG,sub_zero→aJH
open Array renaming find?_toList→aBK,toList→aHW
open PySem.Heap renaming get?_update_ne→aBL,size_push→aHG
open Int renaming toNat_of_nonneg→aDk,natAbs_natCast→aEj,mul_nonneg→aHU
open Option renaming getD_none→aDl,getD_some→aDm,none→aHV,map→aJd
open Bool renaming and_false→aHF
open PySem renaming Value→BA,Shared→BB,Addr→BC,Around→BD,Heap→BE,Obj→BF,Stmt→BG,SetTable→BI
open PyProof.Rows renaming SortSt→BH
namespace L2
open PySem PySem.Spec PyProof.Rows
noncomputable abbrev Key:=Sum Int Str
noncomputable def tD:Key->BA->Bool
 |.inl k,v=>Value.isInt k v
 |.inr x,v=>Value.isStrOf x v
noncomputable def keyH(w:AI):Key->Int
 |.inl k=>hashInt k
 |.inr x=>hashStr w x
theorem eK:∀ {k:Key}{v:BA},tD k v=true->(∃i t,k=Sum.inl i/\v=Value.int i t)\/(∃x t,k=Sum.inr x/\v=Value.str x t)
 |.inl i,v,h=>by obtain⟨t,e⟩:=Value.isInt_shape (k:=i) (v:=v) h;exact .inl ⟨i,t,rfl,e⟩
 |.inr x,v,h=>by obtain⟨t,e⟩:=Value.isStrOf_shape (x:=x) (v:=v) h;exact .inr ⟨x,t,rfl,e⟩
theorem aBz(i:Int)(t:Tok):tD (.inl i) (.int i t)=true:=by simp[tD,Value.isInt]
theorem aAS(x:Str)(t:Tok):tD (.inr x) (.str x t)=true:=by simp[tD,Value.isStrOf]
theorem aHa(a b:Int):decide ((Sum.inl a:Key)=Sum.inl b)=(a==b):=by
 by_cases e:a=b
 ·subst e;simp
 ·have h:¬ (Sum.inl a:Key)=Sum.inl b:=λq=>e (Sum.inl.inj q)
  rw[decide_eq_false h];exact(beq_eq_false_iff_ne.mpr e).symm
theorem aHB(a b:Str):decide ((Sum.inr a:Key)=Sum.inr b)=decide (a=b):=by
 by_cases e:a=b
 ·subst e;simp
 ·have h:¬ (Sum.inr a:Key)=Sum.inr b:=λq=>e (Sum.inr.inj q)
  rw[decide_eq_false h,decide_eq_false e]
theorem aHd(a:Int)(b:Str):decide ((Sum.inl a:Key)=Sum.inr b)=false:=decide_eq_false λq=>nomatch q
theorem aHC(a:Str)(b:Int):decide ((Sum.inr a:Key)=Sum.inl b)=false:=decide_eq_false λq=>nomatch q
noncomputable def eX(prog:AG)(w:AI):PySem.KeyKind prog w Key where
 is:=tD
 hash:=keyH w
 inj:=λv a b ha hb=>by
  rcases eK ha with⟨i,t,rfl,rfl⟩|⟨x,t,rfl,rfl⟩
  ·rcases eK hb with⟨j,u,rfl,e⟩|⟨y,u,rfl,e⟩
   ·injection e with e1 _;rw[e1]
   ·exact nomatch e
  ·rcases eK hb with⟨j,u,rfl,e⟩|⟨y,u,rfl,e⟩
   ·exact nomatch e
   ·injection e with e1 _;rw[e1]
 byValue:=λk v h=>by rcases eK h with⟨i,t,rfl,rfl⟩|⟨x,t,rfl,rfl⟩<;>rfl
 pyHash:=λhv h=>by
  rcases eK hv with⟨i,t,rfl,rfl⟩|⟨x,t,rfl,rfl⟩
  ·exact wpAny_pyHash_int h
  ·exact wpAny_pyHash_str h
 eqBool:=λhu hv h=>by
  rcases eK hu with⟨i,t,rfl,rfl⟩|⟨x,t,rfl,rfl⟩
  ·rcases eK hv with⟨j,u,rfl,rfl⟩|⟨y,u,rfl,rfl⟩
   ·rw[aHa] at h;exact wpAny_eqBool_int h
   ·rw[aHd] at h;exact SeqAt.EqAt.int_str i t y u _ _ _ _ h
  ·rcases eK hv with⟨j,u,rfl,rfl⟩|⟨y,u,rfl,rfl⟩
   ·rw[aHC] at h;exact SeqAt.EqAt.str_int x t j u _ _ _ _ h
   ·rw[aHB] at h;exact wpAny_eqBool_str h
 «strs»:=λk x t v h=>by
  rcases eK h with⟨i,u,rfl,e⟩|⟨y,u,rfl,e⟩
  ·exact nomatch e
  ·injection e with e1 _
   subst e1;cases v<;>rfl
theorem vS(prog:AG)(w:AI)(i:Int)(t:Tok):(eX prog w).is (.inl i) (.int i t)=true:=aBz i t
theorem wZ(prog:AG)(w:AI)(x:Str)(t:Tok):(eX prog w).is (.inr x) (.str x t)=true:=aAS x t
inductive V where
 |non|bl (b:Bool)|int (i:Int)|str (x:Str)|byt (b:Array UInt8)|flt (b:UInt64)|ref (a:BC)|ty (n:String)
 deriving DecidableEq
noncomputable def RelV:V->BA->Prop
 |.non,u=>u=Value.none
 |.bl b,u=>u=Value.bool b
 |.int i,u=>∃t,u=Value.int i t
 |.str x,u=>∃t,u=Value.str x t
 |.byt b,u=>∃t,u=Value.bytes b t
 |.flt b,u=>∃t,u=Value.float b t
 |.ref a,u=>u=Value.ref a
 |.ty n,u=>u=Value.type n
abbrev Vals:List V->List BA->Prop:=Paired RelV
theorem Vals.length{xs:List V}{us:List BA}(r:Vals xs us):xs.length=us.length:=Paired.length r
theorem Vals.get:∀ {xs:List V}{us:List BA}{i:Nat}{x:V},Vals xs us->xs[i]? =some x->∃u,us[i]? =some u/\RelV x u
 |_,_,_,_,.nil,e=>by simp at e
 |_,_,0,_,.cons r _,e=>by simp at e;subst e;exact⟨_,rfl,r⟩
 |_,_,i+1,x,.cons _ t,e=>by obtain⟨u,h1,h2⟩:=Vals.get (i:=i) (x:=x) t (by simpa using e);exact⟨u,by simpa using h1,h2⟩
theorem Vals.set{x:V}{u:BA}(r:RelV x u):∀ {xs:List V}{us:List BA} (i:Nat),Vals xs us->Vals (xs.set i x) (us.set i u)
 |_,_,_,.nil=>.nil
 |_,_,0,.cons _ t=>.cons r t
 |_,_,i+1,.cons q t=>.cons q<|Vals.set r i t
theorem Vals.append:∀ {xs ys:List V}{us ws:List BA},Vals xs us->Vals ys ws->Vals (xs++ys) (us++ws)
 |_,_,_,_,.nil,s=>s
 |_,_,_,_,.cons r t,s=>.cons r<|Vals.append t s
theorem Vals.take:∀ {xs:List V}{us:List BA} (n:Nat),Vals xs us->Vals (xs.take n) (us.take n)
 |_,_,0,_=>.nil
 |_,_,_+1,.nil=>.nil
 |_,_,n+1,.cons r t=>.cons r<|Vals.take n t
theorem Vals.drop:∀ {xs:List V}{us:List BA} (n:Nat),Vals xs us->Vals (xs.drop n) (us.drop n)
 |_,_,0,r=>r
 |_,_,_+1,.nil=>.nil
 |_,_,n+1,.cons _ t=>Vals.drop n t
noncomputable def RelO:Option V->Option BA->Prop
 |some v,some u=>RelV v u
 |none,none=>True
 |_,_=>False
def KV{κ:Type}:List (κ×V)->List (κ×BA)->Prop:=Paired λ(p:κ×V) (q:κ×BA)=>p.1=q.1/\RelV p.2 q.2
noncomputable def kV:Key->V
 |.inl i=>.int i
 |.inr x=>.str x
inductive HO where
 /-- a list -/
 |lst (xs:List V)
 /-- a tuple (never changes) -/
 |tup (xs:List V)
 /-- a dict whose keys are ints and texts;one whose keys are tuples of ints and texts (the empty one is both) -/
 |dK (kvs:List (Key×V))|dT (kvs:List (List Key×V))
 /-- a set of ints:its members,its size -/
 |set (S:Int->Bool) (n:Nat)
 /-- an instance of the class at C,its dict at dx,its attributes -/
 |ins (C dx:BC) (fs:List (Str×V))
 /-- the dict of the instance at x -/
 |own (x:BC)
 /-- the dict of an exception -/
 |xd (fs:List (Str×V))
 /-- a bound method,f of x -/
 |met (f x:BC)
 /-- a range object lo,lo+1, .. below hi -/
 |rng (lo hi:Int)
 /-- a thing that is known to the object (the script;a dict while a loop walks it):read,never written while it is so -/
 |frz (o:BF) (u:HO)
 /-- a code object's table -/
 |tbl (ps:Array BA)
 /-- any other thing,by what is true of its one object (a def of one's own:SetO a S n:=HO.ext λh=> ..) -/
 |ext (φ:BE->Prop)
noncomputable abbrev Hp:=BC->Option HO
noncomputable def upd(H:Hp)(a:BC)(o:HO):Hp:=λb=>if b=a then some o else H b
theorem bA{H:Hp}{a:BC}{o:HO}:upd H a o a=some o:=by unfold upd;rw[if_pos rfl]
theorem aX{H:Hp}{a b:BC}{o:HO}(h:b≠a):upd H a o b=H b:=by unfold upd;rw[if_neg h]
theorem bS{H:Hp}{a b:BC}{o:HO}(h:H a=some o)(h':H b=none):a≠b:=by intro e;subst e;rw[h] at h';cases h'
def IsTupD(h:BE)(a:BC)(items:Array BA):Prop:=∃o,h.get? a=some o/\o.cls=.type "tuple"/\(∃n,o.data=.seq items n)/\o.dict=none
theorem IsTupD.tup{h:BE}{a:BC}{items:Array BA}(x:IsTupD h a items):IsTup h a items:=let ⟨o,e,c,d,_⟩:=x;⟨o,e,c,d⟩
theorem IsTupD.new(h:BE)(items:Array BA):IsTupD (h.push {cls:=.type "tuple",data:=.seq items}) h.objs.size items:=⟨_,bT _ rfl,rfl,⟨_,rfl⟩,rfl⟩
variable (P:AG)(w:AI)
noncomputable def ObjOk(H:Hp)(h:BE)(a:BC):HO->Prop
 |.lst xs=>xs.length<=AH/\∃ (its:List BA) (n:Nat),Vals xs its/\h.get? a=some {cls:=.type "list",data:=.seq its.toArray n}
 |.tup xs=>xs.length<=AH/\∃its:List BA,Vals xs its/\IsTupD h a its.toArray
 |.dK kvs=>kvs.length<=AH/\(a==Af)=false/\∃vs,KV kvs vs/\h.DictOf (eX P w) a vs
 |.dT kvs=>kvs.length<=AH/\(a==Af)=false/\∃xs:List (List Key×BC×BA),
   Paired (λ(p:List Key×V) (q:List Key×BC×BA)=>p.1=q.1/\H q.2.1=some (.tup<|p.1.map kV)/\RelV p.2 q.2.2) kvs xs/\
   ∃o es ep,h.get? a=some o/\o.ExactDict/\o.data=.dict es ep/\es.toList=xs.map (entryOfKey (tupleKind<|eX P w))/\(xs.map (·.1)).Nodup
 |.set S n=>h.SetOf (intKind P w) a S n
 |.ins C dx fs=>H dx=some (.own a)/\fs.length<=1000/\dx≠a/\h.get? a=some (oS C dx)/\
   ∃mA,h.Ns1 dx mA/\(∀f,RelO (fs.lookup f)<|mA f)/\PySem.Within mA (fs.map (·.1))
 |.own _=>∃o,h.get? a=some o
 |.xd fs=>∃mA,h.Ns1 a mA/\∀f,RelO (fs.lookup f)<|mA f
 |.rng lo hi=>∃t u v,h.get? a=some {cls:=.type "range",data:=.fields #[.int lo t,.int hi u,.int 1 v]}
 |.frz o u=>h.get? a=some o/\ObjOk H h a u
 |.tbl ps=>h.get? a=some {cls:=.none,data:=.fields ps}
 |.met f x=>h.get? a=some (nM (.ref f)<|.ref x)
 |.ext φ=>φ h/\(∃o,h.get? a=some o)/\∀h1 h2:BE,φ h1->(∀o,h1.get? a=some o->h2.get? a=some o)->φ h2
def HOk(H:Hp)(h:BE):Prop:=∀a o,H a=some o->ObjOk P w H h a o
variable {P:AG}{w:AI}{H H':Hp}{h h':BE}{a:BC}{o:HO}
theorem ObjOk.lt(x:ObjOk P w H h a o):a<h.objs.size:=by
 cases o with
 |lst xs=>obtain⟨_,_,_,_,e⟩:=x;exact aO e
 |tup xs=>obtain⟨_,_,_,p⟩:=x;exact p.tup.lt
 |dK kvs=>obtain⟨_,_,_,_,o,_,_,e,_⟩:=x;exact aO e
 |dT kvs=>obtain⟨_,_,_,_,o,_,_,e,_⟩:=x;exact aO e
 |set S n=>obtain⟨o,_,_,_,e,_⟩:=x;exact aO e
 |ins C dx fs=>obtain⟨_,_,_,e,_⟩:=x;exact aO e
 |own y=>obtain⟨_,e⟩:=x;exact aO e
 |xd fs=>obtain⟨_,⟨_,_,_,e,_⟩,_⟩:=x;exact aO e
 |rng lo hi=>obtain⟨_,_,_,e⟩:=x;exact aO e
 |frz ob u=>obtain⟨e,_⟩:=x;exact aO e
 |tbl ps=>exact aO (show h.get? a=some _ from x)
 |met f y=>exact aO (show h.get? a=some _ from x)
 |ext φ=>obtain⟨_,⟨_,e⟩,_⟩:=x;exact aO e
theorem Paired.mapP{α β:Type}{F G:α->β->Prop}:∀ {l₁:List α}{l₂:List β},Paired F l₁ l₂->(∀a b,F a b->G a b)->Paired G l₁ l₂
 |_,_,.nil,_=>.nil
 |_,_,.cons r t,f=>.cons (f _ _ r)<|Paired.mapP t f
theorem ObjOk.stay(x:ObjOk P w H h a o)(k:∀b u,(b=a\/H b=some (.own a))->h.get? b=some u->h'.get? b=some u)
  (ho:∀b,H b=some (.own a)->H' b=some (.own a)) (ht:∀b xs,H b=some (.tup xs)->H' b=some (.tup xs)):ObjOk P w H' h' a o:=by
 induction o with
 |lst xs=>obtain⟨z,its,n,r,e⟩:=x;exact⟨z,its,n,r,k _ _ (.inl rfl) e⟩
 |tup xs=>obtain⟨z,its,r,ob,e,c⟩:=x;exact⟨z,its,r,ob,k _ _ (.inl rfl) e,c⟩
 |dK kvs=>obtain⟨z,y,vs,r,ob,es,ep,e,c⟩:=x;exact⟨z,y,vs,r,ob,es,ep,k _ _ (.inl rfl) e,c⟩
 |dT kvs=>obtain⟨z,y,xs,r,ob,es,ep,e,c⟩:=x;exact⟨z,y,xs,Paired.mapP r λp q z=>⟨z.1,ht _ _ z.2.1,z.2.2⟩,ob,es,ep,k _ _ (.inl rfl) e,c⟩
 |set S n=>obtain⟨ob,es,ep,t,e,c⟩:=x;exact⟨ob,es,ep,t,k _ _ (.inl rfl) e,c⟩
 |ins C dx fs=>obtain⟨d,z,ne,e,mA,⟨od,es,ep,e2,c⟩,r⟩:=x;exact⟨ho _ d,z,ne,k _ _ (.inl rfl) e,mA,⟨od,es,ep,k _ _ (.inr d) e2,c⟩,r⟩
 |own y=>obtain⟨ob,e⟩:=x;exact⟨ob,k _ _ (.inl rfl) e⟩
 |xd fs=>obtain⟨mA,⟨od,es,ep,e,c⟩,r⟩:=x;exact⟨mA,⟨od,es,ep,k _ _ (.inl rfl) e,c⟩,r⟩
 |rng lo hi=>obtain⟨t,u,v,e⟩:=x;exact⟨t,u,v,k _ _ (.inl rfl) e⟩
 |frz ob u ih=>obtain⟨e,q⟩:=x;exact⟨k _ _ (.inl rfl) e,ih q⟩
 |tbl ps=>have e:h.get? a=some {cls:=.none,data:=.fields ps}:=x;show h'.get? a=some {cls:=.none,data:=.fields ps};exact k a _ (.inl rfl) e
 |met f y=>have e:h.get? a=some (nM (.ref f)<|.ref y):=x;show h'.get? a=some (nM (.ref f)<|.ref y);exact k a _ (.inl rfl) e
 |ext φ=>obtain⟨p,⟨o,e⟩,st⟩:=x;exact⟨st _ _ p λo q=>k _ _ (.inl rfl) q,⟨o,k _ _ (.inl rfl) e⟩,st⟩
theorem HOk.lt(x:HOk P w H h)(e:H a=some o):a<h.objs.size:=(x a o e).lt
theorem HOk.fresh(x:HOk P w H h)(e:h.objs.size<=a):H a=none:=by
 cases q:H a with
 |none=>rfl
 |some u=>exact absurd (aY (x.lt q) e)<|eP _
theorem HOk.kept(x:HOk P w H h)(k:∀b u,h.get? b=some u->h'.get? b=some u):HOk P w H h':=λa o e=>(x a o e).stay (λb u _ q=>k b u q) (λ_ q=>q) λ_ _ q=>q
theorem HOk.laid(x:HOk P w H h)(k:∀b u,h.get? b=some u->h'.get? b=some u)(hp:h.objs.size<=a)(new:ObjOk P w (upd H a o) h' a o):HOk P w (upd H a o) h':=λb u e=>by
 have hn:=x.fresh hp
 by_cases hb:b=a
 ·subst hb;rw[bA] at e;cases e;exact new
 ·rw[aX hb] at e;exact(x b u e).stay (λc v _ q=>k c v q) (λc q=>by rw[aX<|bS q hn];exact q) λc xs q=>by rw[aX<|bS q hn];exact q
def Rd(H:Hp)(a:BC)(u:HO):Prop:=H a=some u\/∃o,H a=some (.frz o u)
theorem Rd.of{u:HO}(h:H a=some u):Rd H a u:=.inl h
theorem Rd.ok{u:HO}(r:Rd H a u)(x:HOk P w H h):ObjOk P w H h a u:=by
 rcases r with r|⟨o,r⟩
 ·exact x a u r
 ·obtain⟨_,q⟩:=x a _ r;exact q
noncomputable def Mut:Option HO->Prop
 |some (.lst _)=>True
 |some (.dK _)=>True
 |some (.dT _)=>True
 |some (.set _ _)=>True
 |some (.ins _ _ _)=>True
 |some (.ext _)=>True
 |_=>False
variable {x e:BC}{o':HO}
theorem HOk.write(ok:HOk P w H h)(mu:Mut (H x))(he:e=x\/H e=some (.own x))(k:∀b u,b≠e->h.get? b=some u->h'.get? b=some u)(heo:∃u,h'.get? e=some u)
  (new:ObjOk P w (upd H x o') h' x o'):HOk P w (upd H x o') h':=λb u q=>by
 have nown:∀c y,H c=some (.own y)->c≠x:=λc y r z=>by subst z;rw[r] at mu;exact mu
 have ntup:∀c xs,H c=some (.tup xs)->c≠x:=λc xs r z=>by subst z;rw[r] at mu;exact mu
 by_cases hb:b=x
 ·subst hb;rw[bA] at q;cases q;exact new
 ·rw[aX hb] at q
  by_cases hbe:b=e
  ·have q':H b=some (.own x):=by
    rcases he with z|z
    ·exact absurd (hbe.trans z) hb
    ·rw[hbe];exact z
   rw[q] at q';cases q';obtain⟨v,hv⟩:=heo;exact⟨v,by rw[hbe];exact hv⟩
  ·refine(ok b u q).stay (λc v hc r=>k c v ?_ r) (λc r=>by rw[aX<|nown c b r];exact r) λc xs r=>by rw[aX<|ntup c xs r];exact r
   rcases hc with rfl|hc
   ·exact hbe
   ·rintro rfl
    rcases he with z|z
    ·exact nown c b hc z
    ·rw[hc] at z;cases z;exact hb rfl
structure Un(fs ex:List BC)(H H':Hp)(h h':BE):Prop where
 keep:∀b o,h.get? b=some o->H b=none->b∉fs->b∉ex->h'.get? b=some o
 slot:∀b o,h.get? b=some o->H b=none->b∈fs->b∉ex->∃sl,h'.get? b=some {o with slots:=sl}
 free:∀b o,h.get? b=some o->H b=none->b∉ex->H' b=none
 there:∀b o,h.get? b=some o->b∉ex->∃o',h'.get? b=some o'
 tups:∀b xs,H b=some (.tup xs)->H' b=some (.tup xs)
 frzs:∀b o u,H b=some (.frz o u)->H' b=some (.frz o u)
 tbls:∀b ps,H b=some (.tbl ps)->∃more,H' b=some (.tbl<|ps++more)
section
variable {fs fs' ex ex':List BC}{H H1 H2:Hp}{h h1 h2 h':BE}{a x e:BC}{o:HO}
theorem Un.any(u:Un fs ex H H1 h h1){b:BC}{ob:BF}(q:h.get? b=some ob)(n:H b=none)(hx:b∉ex):∃sl,h1.get? b=some {ob with slots:=sl}:=by
 by_cases hb:b∈fs
 ·exact u.slot b ob q n hb hx
 ·exact⟨ob.slots,u.keep b ob q n hb hx⟩
theorem Un.kept(k:∀b u,h.get? b=some u->h'.get? b=some u):Un fs ex H H h h':=
 ⟨λb ob q _ _ _=>k b ob q,λb ob q _ _ _=>⟨ob.slots,k b ob q⟩,λ_ _ _ n _=>n,λb ob q _=>⟨ob,k b ob q⟩,λ_ _ q=>q,λ_ _ _ q=>q,λ_ ps q=>⟨#[],by rw[q];simp⟩⟩
theorem Un.refl:Un fs ex H H h h:=Un.kept λ_ _ q=>q
theorem Un.laid(k:∀b u,h.get? b=some u->h'.get? b=some u)(hp:h.objs.size<=a)(hn:H a=none):Un fs ex H (upd H a o) h h' where
 keep:=λb u q _ _ _=>k b u q
 slot:=λb u q _ _ _=>⟨u.slots,k b u q⟩
 free:=λb u q n _=>by rw[aX (bG<|aY (aO q) hp)];exact n
 there:=λb u q _=>⟨u,k b u q⟩
 tups:=λb xs q=>by rw[aX<|bS q hn];exact q
 frzs:=λb u xs q=>by rw[aX<|bS q hn];exact q
 tbls:=λb ps q=>⟨#[],by rw[aX<|bS q hn,q];simp⟩
theorem Un.write(mu:Mut (H x))(he:e=x\/H e=some (.own x))(k:∀b u,b≠e->h.get? b=some u->h'.get? b=some u)(heo:∃u,h'.get? e=some u):Un fs ex H (upd H x o) h h':=by
 have hx:∀b,H b=none->b≠x:=λb n z=>by subst z;rw[n] at mu;exact mu
 have hb:∀b,H b=none->b≠e:=λb n z=>by
  subst z
  rcases he with r|r
  ·exact hx b n r
  ·rw[n] at r;cases r
 have hm:∀b u,H b=some u->¬ Mut (some u)->b≠x:=λb u q nm z=>by subst z;rw[q] at mu;exact nm mu
 refine ⟨fun b u q n _ _=>k b u (hb b n) q,fun b u q n _ _=>⟨u.slots,k b u (hb b n) q⟩,fun b u q n _=>by rw [aX (hx b n)]; exact n,fun b u q _=> ?_,
  λb xs q=>by rw[aX (hm b _ q λz=>z)];exact q,λb u xs q=>by rw[aX (hm b _ q λz=>z)];exact q,λb ps q=>⟨#[],by rw[aX (hm b _ q λz=>z),q];simp⟩⟩
 by_cases hbe:b=e
 ·subst hbe;exact heo
 ·exact⟨u,k b u hbe q⟩
end
noncomputable def trk(h:BE)(H:Hp):List BC:=(bC h.objs.size).filter λa=>(H a).isSome
noncomputable def tV(h:BE)(H:Hp):BE:=PySem.W.hideAll h<|trk h H
theorem aBp(h:BE)(H:Hp):(tV h H).objs.size=h.objs.size:=PySem.W.hideAll_size _ _
theorem aBT{b:BC}{o:BF}(e:h.get? b=some o)(n:H b=none):(tV h H).get? b=some o:=
 PySem.W.hideAll_get _ e λhm=>by have q:(H b).isSome=true:=(rM.mp hm).2;rw[n] at q;simp at q
theorem aFC{b:BC}{o:BF}(e:(tV h H).get? b=some o):h.get? b=some o/\H b=none:=by
 have e':h.get? b=some o:=PySem.W.of_hideAll (trk h H) e;refine⟨e', ?_⟩;cases q:H b with
 |none=>rfl
 |some x=>have hm:b∈trk h H:=rM.mpr ⟨cR.mpr<|aO e',by simp[q]⟩;have z:(tV h H).get? b=none:=PySem.W.hideAll_none (trk h H) hm;rw[z] at e;cases e
noncomputable def aFl(g h:BE)(L:BC):List (BC×BF):=(bC h.objs.size).filterMap λa=>if a=L\/(g.get? a).isSome=true then none else(h.get? a).map λo=>(a,o)
noncomputable def rest(g h:BE)(L d:BC):List (BC×BF):=(aFl g h L).filter λp=>decide<|p.1≠d
structure Mod(K:aB)(mg:Str->Option BA)(base:BE):Prop where
 kin:K.In base
 glob:base.Ns AJ mg
 blt:∃mb,base.Ns builtinsNs mb/\∀x:Str,x≠"__name__"->mb x=AS x
 nolimit:base.NoLimit
noncomputable def uX:HO->Prop
 |.lst _=>False
 |.dK _=>False
 |.ext _=>False
 |_=>True
structure Cx where
 prog:AG
 w:AI
 K:aB
 mg:Str->Option BA
 base:BE
 A:BD
 N:List Str
 s₀:AA
 H₀:Hp
 env:Env
 outer:List Env
 stack:List Env
 ex:List BC
 fn:Str->Bool
 calm:Bool
 pn:List (BC×BF)
 xe:BA->AA->Prop
 B₀:Hp:=H₀
 hB:∀b o,H₀ b=some o->uX o->B₀ b=some o:=by intro b o e _;exact e
noncomputable def frs(l:List Env):List BC:=l.filterMap (·.frame)
noncomputable abbrev Cx.fs(X:Cx):List BC:=frs X.outer
def Vis(sc:Scope)(x:Str):Prop:=sc.names.lookup x=some .local\/sc.names.lookup x=some .cell\/sc.names.lookup x=some .free
def Loc(sc:Scope)(x:Str):Prop:=sc.names.lookup x=some .local\/sc.names.lookup x=some .cell
def aJm(env:Env)(h:BE)(m:Str->Option BA)(x:Str)(u:BA):Prop:=
 (env.kindOf x=some .local/\m x=some u)\/((env.kindOf x=some .cell\/env.kindOf x=some .free)/\∃c,env.cells.lookup x=some c/\h.IsCell c (some u))
structure Cx.Ok(X:Cx):Prop where
 mod:Mod X.K X.mg X.base
 kind:X.env.scope.kind=.function
 glob:X.env.globals=AJ
 blt:X.env.builtins=builtinsNs
 above:X.s₀.heap.objs.size<=X.env.locals
 inj:∀x y c,X.env.cells.lookup x=some c->X.env.cells.lookup y=some c->x=y
 has:∀x,(X.env.kindOf x=some .cell\/X.env.kindOf x=some .free)->∃c,X.env.cells.lookup x=some c
 cab:∀x c,X.fn x=true->X.env.cells.lookup x=some c->X.s₀.heap.objs.size<=c
 hd:X.calm=true->X.A.handled=none
 frames:X.A.frames=some X.stack
 stk:X.stack=X.outer\/(X.stack=X.env::X.outer/\X.env.frame=some X.env.locals)
 exf:∀b∈X.ex,b≠X.env.locals/\∀x c,X.env.cells.lookup x=some c->c≠b
 bs:∀b o,X.base.get? b=some o->X.s₀.heap.get? b=some o/\X.H₀ b=none
 bsz:X.base.objs.size<=X.s₀.heap.objs.size
 noex:∀b o,X.base.get? b=some o->b∉X.ex
 exfs:∀b∈X.ex,b∉X.fs
 funs:X.s₀.heap.FunFrames X.base X.outer
 frf:∀b∈X.fs,X.H₀ b=none
structure Inv(X:Cx)(pins:List (BC×BF))(σ:List (Option V))(H:Hp)(s:AA):Prop where
 ok:X.Ok
 os:s.os=X.s₀.os
 bare:AllBare s.gens
 base:Un X.fs X.ex X.H₀ H X.s₀.heap s.heap
 loc:∃m,s.heap.Ns X.env.locals m/\∀ (i:Nat) (x:Str) (v:V),X.N[i]? =some x->σ[i]? =some (some v)->Vis X.env.scope x->∃u,RelV v u/\aJm X.env s.heap m x u
 cell:∀x c,X.env.cells.lookup x=some c->∃v,s.heap.IsCell c v
 free:H X.env.locals=none
 freeC:∀x c,X.env.cells.lookup x=some c->H c=none
 pin:∀p∈X.pn++pins,s.heap.get? p.1=some p.2/\H p.1=none/\p.1≠X.env.locals/\p.1∉X.fs/\∀v,p.2.data≠ .cell v
 hok:HOk X.prog X.w H s.heap
 len:σ.length=X.N.length
variable {X:Cx}{pins:List (BC×BF)}{σ:List (Option V)}{s:AA}
theorem Cx.Ok.nofr(ok:X.Ok){b:BC}{o:BF}(e:X.base.get? b=some o):b∉X.fs:=λhb=>by have:=(ok.funs.mem hb).1;rw[e] at this;cases this
theorem Inv.bs(I:Inv X pins σ H s):∀b o,X.base.get? b=some o->s.heap.get? b=some o/\H b=none:=λb o e=>⟨I.base.keep b o (I.ok.bs b o e).1 (I.ok.bs b o e).2 (I.ok.nofr e)<|I.ok.noex b o e,I.base.free b o (I.ok.bs b o e).1 (I.ok.bs b o e).2<|I.ok.noex b o e⟩
theorem Inv.bk(I:Inv X pins σ H s):∀b o,X.base.get? b=some o->s.heap.get? b=some o:=λb o e=>(I.bs b o e).1
theorem Inv.mod(I:Inv X pins σ H s):Mod X.K X.mg X.base:=I.ok.mod
theorem Inv.kIn(I:Inv X pins σ H s):X.K.In s.heap:=I.ok.mod.kin.keeps I.bk
theorem Inv.lt(I:Inv X pins σ H s):X.env.locals<s.heap.objs.size:=let ⟨_,hn,_⟩:=I.loc;hn.lt
theorem Inv.sz(I:Inv X pins σ H s):X.s₀.heap.objs.size<=s.heap.objs.size:=bM I.ok.above<|eE I.lt
theorem Inv.nofs(I:Inv X pins σ H s)(h:s.heap.objs.size<=a):a∉X.fs:=λhb=>by obtain⟨_,o,ho,_⟩:=I.ok.funs.mem hb;exact absurd (aY (aO ho)<|bM I.sz h)<|eP _
theorem Inv.cne(I:Inv X pins σ H s):∀x c,X.env.cells.lookup x=some c->c≠X.env.locals:=λx c e z=>by obtain⟨v,o,ho,hd⟩:=I.cell x c e;obtain⟨m,⟨o',es,ep,ho',hd',_⟩,_⟩:=I.loc;rw[z,ho'] at ho;cases ho;rw[hd'] at hd;cases hd
theorem Inv.funs(I:Inv X pins σ H s):s.heap.FunFrames X.base X.outer:=by
 have all:∀ (l:List Env),(∀b∈frs l,b∈X.fs)->X.s₀.heap.FunFrames X.base l->s.heap.FunFrames X.base l:=by
  intro l
  induction l with
  |nil=>intro _ _;trivial
  |cons env r ih=>
   intro hs hl;obtain⟨hk,⟨L,o,hf,hn,ho,hd⟩,hr⟩:=hl;have hL:L∈X.fs:=hs L (by unfold frs;rw[dY,hf];exact cG);obtain⟨sl,e⟩:=I.base.slot L o ho (I.ok.frf L hL) hL λz=>I.ok.exfs L z hL
   exact⟨hk,⟨L,_,hf,hn,e,hd⟩,ih (λb hb=>hs b<|by unfold frs;rw[dY,hf];exact bV _ hb) hr⟩
 exact all X.outer (λ_ hb=>hb) I.ok.funs
theorem Inv.stack(I:Inv X pins σ H s):s.heap.FunFrames X.base X.stack:=by
 rcases I.ok.stk with e|⟨e,hf⟩
 ·rw[e];exact I.funs
 ·rw[e];obtain⟨m,hn,_⟩:=I.loc;refine .cons (by rw[I.ok.kind];decide) hf hn ?_ I.funs;exact iD<|bM I.ok.bsz I.ok.above
theorem Inv.stkSub(I:Inv X pins σ H s):∀b∈frs X.stack,b∈X.env.locals::X.fs:=λb hb=>by
 rcases I.ok.stk with e|⟨e,hf⟩
 ·rw[e] at hb;exact bV _ hb
 ·rw[e] at hb;unfold frs at hb;rw[dY,hf] at hb;exact hb
theorem Inv.stkFree(I:Inv X pins σ H s):∀b∈frs X.stack,H b=none:=λb hb=>by
 rcases cD.mp (I.stkSub b hb) with e|hb
 ·rw[e];exact I.free
 ·obtain⟨_,o,ho,_⟩:=I.ok.funs.mem hb;exact I.base.free b o ho (I.ok.frf b hb) λz=>I.ok.exfs b z hb
theorem Inv.step{g':Array GenState}{t':Nat}{d':Drawn}{ch:List BC}(I:Inv X pins σ H s)
  (hch:∀b∈ch,(b∈X.ex\/X.s₀.heap.objs.size<=b)/\b≠X.env.locals/\(∀x c,X.env.cells.lookup x=some c->c≠b)/\∀p∈X.pn++pins,p.1≠b)
  (keep:∀b o,b≠X.env.locals->b∉X.fs->b∉ch->s.heap.get? b=some o->H b=none->h'.get? b=some o)
  (slot:∀b o,b≠X.env.locals->b∈X.fs->b∉ch->s.heap.get? b=some o->H b=none->∃sl,h'.get? b=some {o with slots:=sl}) (free:∀b o,b∉ch->s.heap.get? b=some o->H b=none->H' b=none)
  (there:∀b o,b∉ch->s.heap.get? b=some o->∃o',h'.get? b=some o')
  (tups:∀b xs,H b=some (.tup xs)->H' b=some (.tup xs)) (frzs:∀b o u,H b=some (.frz o u)->H' b=some (.frz o u)) (tbls:∀b ps,H b=some (.tbl ps)->∃more,H' b=some (.tbl<|ps++more))
  (ns:∀m,s.heap.Ns X.env.locals m->h'.Ns X.env.locals m) (hok:HOk X.prog X.w H' h') (hg:AllBare g'):
  Inv X pins σ H' {s with heap:=h',gens:=g',drawn:=d',toks:=t'}:=by
 have neL:∀b o,X.s₀.heap.get? b=some o->b≠X.env.locals:=λb o e=>bG<|aY (aO e) I.ok.above
 have neC:∀b o,X.s₀.heap.get? b=some o->b∉X.ex->b∉ch:=λb o e hx hb=>by
  rcases(hch b hb).1 with z|z
  ·exact hx z
  ·exact absurd (aY (aO e) z)<|eP _
 have cellK:∀x c,X.env.cells.lookup x=some c->∀v,s.heap.IsCell c v->h'.IsCell c v:=λx c e v ⟨o,ho,hd⟩=>by
  have nch:c∉ch:=λz=>(hch c z).2.2.1 x c e rfl
  by_cases hc:c∈X.fs
  ·obtain⟨sl,q⟩:=slot c o (I.cne x c e) hc nch ho<|I.freeC x c e;exact⟨_,q,hd⟩
  ·exact⟨o,keep c o (I.cne x c e) hc nch ho<|I.freeC x c e,hd⟩
 refine⟨I.ok,I.os,hg,⟨λb o e n hb hx=> ?_,λb o e n hb hx=> ?_,λb o e n hx=> ?_,λb o e hx=> ?_,λb xs e=>tups b xs<|I.base.tups b xs e,λb o xs e=>frzs b o xs<|I.base.frzs b o xs e,λb ps e=> ?_⟩, ?_,λx c e=> ?_, ?_,λx c e=> ?_,λp hp=> ?_,hok,I.len⟩
 ·exact keep b o (neL b o e) hb (neC b o e hx) (I.base.keep b o e n hb hx)<|I.base.free b o e n hx
 ·obtain⟨sl,e1⟩:=I.base.slot b o e n hb hx;obtain⟨sl',e2⟩:=slot b _ (neL b o e) hb (neC b o e hx) e1<|I.base.free b o e n hx;exact⟨sl',e2⟩
 ·obtain⟨o',e1⟩:=I.base.there b o e hx;exact free b o' (neC b o e hx) e1<|I.base.free b o e n hx
 ·obtain⟨o',e1⟩:=I.base.there b o e hx;exact there b o' (neC b o e hx) e1
 ·obtain⟨m1,e1⟩:=I.base.tbls b ps e;obtain⟨m2,e2⟩:=tbls b _ e1;exact⟨m1++m2,by rw[e2,Array.append_assoc]⟩
 ·obtain⟨m,hn,hl⟩:=I.loc;refine⟨m,ns m hn,λi x v e1 e2 e3=> ?_⟩;obtain⟨u,r,l⟩:=hl i x v e1 e2 e3;refine⟨u,r, ?_⟩
  rcases l with l|⟨k,c,e,z⟩
  ·exact .inl l
  ·exact .inr ⟨k,c,e,cellK x c e _ z⟩
 ·obtain⟨v,z⟩:=I.cell x c e;exact⟨v,cellK x c e v z⟩
 ·obtain⟨m,⟨o,_,_,ho,_⟩,_⟩:=I.loc;exact free _ o (λz=>(hch _ z).2.1 rfl) ho I.free
 ·obtain⟨v,o,ho,hd⟩:=I.cell x c e;exact free c o (λz=>(hch c z).2.2.1 x c e rfl) ho<|I.freeC x c e
 ·obtain⟨e,n,ne,nf,d⟩:=I.pin p hp;have nch:p.1∉ch:=λz=>(hch p.1 z).2.2.2 p hp rfl
  exact⟨keep p.1 p.2 ne nf nch e n,free p.1 p.2 nch e n,ne,nf,d⟩
theorem Inv.un{t':Nat}(I:Inv X pins σ H s)(u:Un X.fs [] H H' s.heap h')(hok:HOk X.prog X.w H' h'):Inv X pins σ H' {s with heap:=h',toks:=t'}:=by
 obtain⟨m,⟨o,es,ep,ho,r⟩,_⟩:=id I.loc;obtain⟨sl,hL⟩:=u.any ho I.free<|by simp
 exact I.step (g':=s.gens) (d':=s.drawn) (ch:=[]) (fun _ z=>nomatch z) (fun b o _ hb _ e n=>u.keep b o e n hb (by simp)) (fun b o _ hb _ e n=>u.slot b o e n hb (by simp)) (fun b o _ e n=>u.free b o e n (by simp)) (fun b o _ e=>u.there b o e (by simp)) u.tups u.frzs u.tbls (fun m' hm=>by
  obtain⟨o',es',ep',ho',r'⟩:=hm;rw[ho] at ho';cases ho'
  exact⟨_,es',ep',hL,r'⟩) hok I.bare
theorem Inv.call{g':Array GenState}{t':Nat}{d':Drawn}{ch:List BC}(I:Inv X pins σ H s)(u:Un (frs X.stack) ch H H' s.heap h')(hok:HOk X.prog X.w H' h')(hg:AllBare g')
  (hch:∀b∈ch,(b∈X.ex\/X.s₀.heap.objs.size<=b)/\b≠X.env.locals/\(∀x c,X.env.cells.lookup x=some c->c≠b)/\∀p∈X.pn++pins,p.1≠b):
  Inv X pins σ H' {s with heap:=h',gens:=g',drawn:=d',toks:=t'}:=by
 obtain⟨m,⟨o,es,ep,ho,r⟩,_⟩:=id I.loc;obtain⟨sl,hL⟩:=u.any ho I.free λz=>(hch _ z).2.1 rfl
 exact I.step (ch:=ch) hch (fun b o hL hb hc e n=>u.keep b o e n (fun z=>(cD.mp (I.stkSub b z)).elim hL hb) hc) (fun b o _ _ hc e n=>u.any e n hc) (fun b o hc e n=>u.free b o e n hc) (fun b o hc e=>u.there b o e hc) u.tups u.frzs u.tbls (fun m' hm=>by
  obtain⟨o',es',ep',ho',r'⟩:=hm;rw[ho] at ho';cases ho'
  exact⟨_,es',ep',hL,r'⟩) hok hg
theorem Inv.turned{t':Nat}{it:BC}(I:Inv X pins σ H s)(k:∀b o,b≠it->s.heap.get? b=some o->h'.get? b=some o)(hn:H it=none)(hL:it≠X.env.locals)
  (h1:it∈X.ex\/X.s₀.heap.objs.size<=it) (h2:∀x c,X.env.cells.lookup x=some c->c≠it) (h3:∀p∈X.pn++pins,p.1≠it):Inv X pins σ H {s with heap:=h',toks:=t'}:=by
 have nit:∀b u,H b=some u->b≠it:=λb u e z=>by rw[z,hn] at e;cases e
 refine I.step (g':=s.gens) (d':=s.drawn) (ch:=[it]) (λb hb=> ?_) (λb o _ _ hc e _=>k b o (λz=>hc<|by simp[z]) e) (λb o _ _ hc e _=>⟨o.slots,k b o (λz=>hc<|by simp[z]) e⟩) (λ_ _ _ _ n=>n)
  (λb o hc e=>⟨o,k b o (λz=>hc<|by simp[z]) e⟩) (λ_ _ e=>e) (λ_ _ _ e=>e) (λb ps e=>⟨#[],by rw[e];simp⟩) (λm hm=> ?_) (λb u e=> ?_) I.bare
 ·have e:b=it:=by simpa using hb
  subst e;exact⟨h1,hL,h2,h3⟩
 ·obtain⟨o,es,ep,ho,r⟩:=hm;exact⟨o,es,ep,k _ o (Ne.symm hL) ho,r⟩
 ·refine(I.hok b u e).stay (λc v hc q=>k c v ?_ q) (λ_ q=>q) λ_ _ q=>q
  rcases hc with z|z
  ·rw[z];exact nit b u e
  ·exact nit c _ z
theorem Inv.tok(I:Inv X pins σ H s)(t:Nat):Inv X pins σ H {s with toks:=t}:=I.un (h':=s.heap) (t':=t) Un.refl I.hok
theorem Inv.kept{t':Nat}(I:Inv X pins σ H s)(k:∀b u,s.heap.get? b=some u->h'.get? b=some u):Inv X pins σ H {s with heap:=h',toks:=t'}:=I.un (Un.kept k)<|I.hok.kept k
theorem Inv.laid{t':Nat}(I:Inv X pins σ H s)(k:∀b u,s.heap.get? b=some u->h'.get? b=some u)(hp:s.heap.objs.size<=a)(new:ObjOk X.prog X.w (upd H a o) h' a o):
  Inv X pins σ (upd H a o) {s with heap:=h',toks:=t'}:=I.un (Un.laid k hp<|I.hok.fresh hp)<|I.hok.laid k hp new
theorem Inv.write{t':Nat}(I:Inv X pins σ H s)(mu:Mut (H x))(he:e=x\/H e=some (.own x))(k:∀b u,b≠e->s.heap.get? b=some u->h'.get? b=some u)(heo:∃u,h'.get? e=some u)
  (new:ObjOk X.prog X.w (upd H x o) h' x o):Inv X pins σ (upd H x o) {s with heap:=h',toks:=t'}:=I.un (Un.write mu he k heo)<|I.hok.write mu he k heo new
theorem Inv.pins_of{pins':List (BC×BF)}(I:Inv X pins σ H s)(h:∀p∈pins',s.heap.get? p.1=some p.2/\H p.1=none/\p.1≠X.env.locals/\p.1∉X.fs/\∀v,p.2.data≠ .cell v):Inv X pins' σ H s:=
 ⟨I.ok,I.os,I.bare,I.base,I.loc,I.cell,I.free,I.freeC,λp hp=>(bF.mp hp).elim (λz=>I.pin p<|cE _ z)<|h p,I.hok,I.len⟩
theorem qK{N:List Str}(hN:N.Nodup){i j:Nat}{x:Str}(a:N[i]? =some x)(b:N[j]? =some x):i=j:=by obtain⟨h1,e1⟩:=bE.mp a;obtain⟨h2,e2⟩:=bE.mp b;exact(List.getElem_inj hN).mp<|e1.trans e2.symm
theorem aBx{M:Model}{A:BD}{E:BA->AA->Prop}{i:Nat}{x:Str}{v:V}{u:BA}{Q:Unit->AA->Prop}(I:Inv X pins σ H s)(hN:X.N.Nodup)(hi:X.N[i]? =some x)(hx:Loc X.env.scope x)(r:RelV v u)
  (h:∀s',Inv X pins (σ.set i (some v)) H s'->(∃a,Heap.SameBut a s.heap s'.heap/\(a=X.env.locals\/X.env.cells.lookup x=some a))->Q () s') (hf:X.fn x=true\/X.env.scope.names.lookup x=some .local:=by first|exact .inl rfl|exact .inr rfl|assumption):AE M A (storeName X.env x u) Q E s:=by
 obtain⟨m,hn,hl⟩:=id I.loc;have hcls:(X.env.scope.kind==.class||(X.env.scope.kind==.module&&X.env.locals !=X.env.globals))=false:=by rw[I.ok.kind];rfl
 have hiσ:i<σ.length:=by rw[I.len];exact(bE.mp hi).1
 have cne:=I.cne
 have tracked:∀ {a:BC}{h':BE},(∃o,s.heap.get? a=some o/\H a=none)->Heap.SameBut a s.heap h'->HOk X.prog X.w H h':=λ{a h'} ha hs b ob e=>by
  obtain⟨_,_,hfree⟩:=ha;refine(I.hok b ob e).stay (λc w' hc q=>(hs.2 c ?_).trans q) (λ_ q=>q) λ_ _ q=>q
  rintro rfl
  rcases hc with rfl|hc
  ·rw[hfree] at e;cases e
  ·rw[hfree] at hc;cases hc
 rcases hx with hk|hk
 ·refine wpAny_storeName_local hk hn (λh' hn' hs=> ?_) hcls;obtain⟨oL,_,_,hoL,_⟩:=id hn;refine h _ ⟨I.ok,I.os,I.bare,⟨λb o e n hb hx=> ?_,λb o e n hb hx=> ?_,I.base.free,λb o e hx=> ?_,I.base.tups,I.base.frzs,I.base.tbls⟩,⟨_,hn',λj y v' e1 e2 e3=> ?_⟩,λy c e=> ?_,I.free,I.freeC,λp hp=> ?_,tracked ⟨oL,hoL,I.free⟩ hs,by simpa using I.len⟩ ⟨_,hs,.inl rfl⟩
  ·exact(hs.2 b (bG<|aY (aO e) I.ok.above)).trans<|I.base.keep b o e n hb hx
  ·obtain⟨sl,e1⟩:=I.base.slot b o e n hb hx;exact⟨sl,(hs.2 b (bG<|aY (aO e) I.ok.above)).trans e1⟩
  ·obtain⟨o',e1⟩:=I.base.there b o e hx;exact⟨o',(hs.2 b (bG<|aY (aO e) I.ok.above)).trans e1⟩
  ·by_cases hj:j=i
   ·subst hj;rw[hi] at e1;cases e1;rw[kN hiσ] at e2;cases e2;exact⟨u,r,.inl ⟨hk,by simp⟩⟩
   ·rw[hZ<|Ne.symm hj] at e2;obtain⟨u',r',q⟩:=hl j y v' e1 e2 e3;refine⟨u',r', ?_⟩
    rcases q with⟨k,e⟩|⟨k,c,e,z⟩
    ·refine .inl ⟨k, ?_⟩;have:y≠x:=λe=>hj (qK hN e1<|e▸hi)
     simp[this,e]
    ·exact .inr ⟨k,c,e,z.sameBut hs<|cne y c e⟩
  ·obtain⟨w',z⟩:=I.cell y c e;exact⟨w',z.sameBut hs<|cne y c e⟩
  ·obtain⟨e,n,ne,nf,d⟩:=I.pin p hp;exact⟨(hs.2 p.1 ne).trans e,n,ne,nf,d⟩
 ·have hfn:X.fn x=true:=by
   rcases hf with z|z
   ·exact z
   ·rw[z] at hk;cases hk
  obtain⟨c,hc⟩:=I.ok.has x<|.inl hk;obtain⟨w',z⟩:=I.cell x c hc;refine wpAny_storeName_cell I.ok.kind hk hc z λh' hc' hs=> ?_;obtain⟨oc,hoc,hocd⟩:=id z;refine h {s with heap:=h'} ⟨I.ok,I.os,I.bare,⟨λb o e n hb hx=> ?_,λb o e n hb hx=> ?_,I.base.free,λb o e hx=> ?_,I.base.tups,I.base.frzs,I.base.tbls⟩,⟨m,hn.sameBut hs (Ne.symm<|cne x c hc),λj y v' e1 e2 e3=> ?_⟩,λy c' e=> ?_,I.free,I.freeC,λp hp=> ?_,tracked ⟨oc,hoc,I.freeC x c hc⟩ hs,by simpa using I.len⟩ ⟨c,hs,.inr hc⟩
  ·exact(hs.2 b<|bG (aY (aO e)<|I.ok.cab x c hfn hc)).trans<|I.base.keep b o e n hb hx
  ·obtain⟨sl,e1⟩:=I.base.slot b o e n hb hx;exact⟨sl,(hs.2 b<|bG (aY (aO e)<|I.ok.cab x c hfn hc)).trans e1⟩
  ·obtain⟨o',e1⟩:=I.base.there b o e hx;exact⟨o',(hs.2 b<|bG (aY (aO e)<|I.ok.cab x c hfn hc)).trans e1⟩
  ·by_cases hj:j=i
   ·subst hj;rw[hi] at e1;cases e1;rw[kN hiσ] at e2;cases e2;exact⟨u,r,.inr ⟨.inl hk,c,hc,hc'⟩⟩
   ·rw[hZ<|Ne.symm hj] at e2;obtain⟨u',r',q⟩:=hl j y v' e1 e2 e3;refine⟨u',r', ?_⟩
    rcases q with q|⟨k,c',e,z'⟩
    ·exact .inl q
    ·refine .inr ⟨k,c',e,z'.sameBut hs ?_⟩;rintro rfl;exact hj (qK hN e1<|I.ok.inj _ _ _ e hc▸hi)
  ·by_cases hcc:c'=c
   ·subst hcc;exact⟨_,hc'⟩
   ·obtain⟨w2,z2⟩:=I.cell y c' e;exact⟨w2,z2.sameBut hs hcc⟩
  ·obtain⟨e,n,ne,nf,d⟩:=I.pin p hp;refine⟨(hs.2 p.1 ?_).trans e,n,ne,nf,d⟩;intro q;rw[q,hoc] at e;have q':oc=p.2:=bN.inj e;exact d w' (by rw[<-q'];exact hocd)
theorem mY{M:Model}{A:BD}{E:BA->AA->Prop}{i:Nat}{x:Str}{v:V}{u:BA}{Q:Unit->AA->Prop}(I:Inv X pins σ H s)(hN:X.N.Nodup)(hi:X.N[i]? =some x)(hx:Loc X.env.scope x)(r:RelV v u)
  (h:∀s',Inv X pins (σ.set i (some v)) H s'->Q () s') (hf:X.fn x=true\/X.env.scope.names.lookup x=some .local:=by first|exact .inl rfl|exact .inr rfl|assumption):AE M A (storeName X.env x u) Q E s:=
 aBx I hN hi hx r (λs' I' _=>h s' I') hf
theorem Inv.call'{s':AA}{ch:List BC}(I:Inv X pins σ H s)(ho:s'.os=s.os)(u:Un (frs X.stack) ch H H' s.heap s'.heap)(hok:HOk X.prog X.w H' s'.heap)(hg:AllBare s'.gens)
  (hch:∀b∈ch,(b∈X.ex\/X.s₀.heap.objs.size<=b)/\b≠X.env.locals/\(∀x c,X.env.cells.lookup x=some c->c≠b)/\∀p∈X.pn++pins,p.1≠b):Inv X pins σ H' s':=by
 obtain⟨h',g',d',t',o'⟩:=s';have e:o'=s.os:=ho;subst e;exact I.call (g':=g') (t':=t') (d':=d') u hok hg hch
noncomputable abbrev XK:=BA->Option BC->Hp->Prop
noncomputable abbrev St:=List<|Option V
noncomputable abbrev VK:=V->Hp->Prop
noncomputable abbrev TE:=St->Hp->VK->Prop
noncomputable abbrev TT:=St->Hp->(Bool->Hp->Prop)->Prop
noncomputable abbrev TA:=St->Hp->(List V->Hp->Prop)->Prop
structure oP where
 nx:St->Hp->Prop
 rt:VK
 bk:St->Hp->Prop:=λ_ _=>False
 ct:St->Hp->Prop:=λ_ _=>False
noncomputable abbrev TS:=oP->St->Hp->Prop
def EP(X:Cx)(pins:List (BC×BF))(σ:St)(Q:VK)(u:BA)(s':AA):Prop:=∃v H',Inv X pins σ H' s'/\RelV v u/\Q v H'
def TP(X:Cx)(pins:List (BC×BF))(σ:St)(Q:Bool->Hp->Prop)(b:Bool)(s':AA):Prop:=∃H',Inv X pins σ H' s'/\Q b H'
def AP(X:Cx)(pins:List (BC×BF))(σ:St)(Q:List V->Hp->Prop)(us:List BA)(s':AA):Prop:=∃vs H',Inv X pins σ H' s'/\Vals vs us/\Q vs H'
def SP(X:Cx)(pins:List (BC×BF))(D:oP)(f:Flow)(s':AA):Prop:=
 match f with
 |.next=>∃σ' H',Inv X pins σ' H' s'/\D.nx σ' H'
 |.brk=>∃σ' H',Inv X pins σ' H' s'/\D.bk σ' H'
 |.cont=>∃σ' H',Inv X pins σ' H' s'/\D.ct σ' H'
 |.ret u=>∃v σ' H',Inv X pins σ' H' s'/\RelV v u/\D.rt v H'
def PE(X:Cx)(e:Expr)(t:TE):Prop:=
 ∀ (pins:List (BC×BF)) (s:AA) (σ:St) (H:Hp) (Q:VK),Inv X pins σ H s->t σ H Q->AE (AF X.prog X.w) X.A (eval e X.env) (EP X pins σ Q) X.xe s
def PT(X:Cx)(e:Expr)(t:TT):Prop:=
 ∀ (pins:List (BC×BF)) (s:AA) (σ:St) (H:Hp) (Q:Bool->Hp->Prop),Inv X pins σ H s->t σ H Q->AE (AF X.prog X.w) X.A (isTrue e X.env<|eval e X.env) (TP X pins σ Q) X.xe s
def PW(X:Cx)(e:Expr)(t:TT):Prop:=
 ∀ (whole:Sem BA) (pins:List (BC×BF)) (s:AA) (σ:St) (H:Hp) (Q:Bool->Hp->Prop),Inv X pins σ H s->t σ H Q->AE (AF X.prog X.w) X.A (isTrue e X.env whole) (TP X pins σ Q) X.xe s
theorem PW.pt{e:Expr}{t:TT}(h:PW X e t):PT X e t:=h _
def PA(X:Cx)(es:List Expr)(t:TA):Prop:=
 ∀ (pos:Pos) (pins:List (BC×BF)) (s:AA) (σ:St) (H:Hp) (Q:List V->Hp->Prop),Inv X pins σ H s->t σ H Q->AE (AF X.prog X.w) X.A (spliced (AZ pos<|AC es X.env)) (AP X pins σ Q) X.xe s
def PS(X:Cx)(st:BG)(t:TS):Prop:=
 ∀ (pins:List (BC×BF)) (s:AA) (σ:St) (H:Hp) (D:oP),Inv X pins σ H s->t D σ H->AE (AF X.prog X.w) X.A (exec st X.env) (SP X pins D) X.xe s
def PSs(X:Cx)(st:List BG)(t:TS):Prop:=
 ∀ (pins:List (BC×BF)) (s:AA) (σ:St) (H:Hp) (D:oP),Inv X pins σ H s->t D σ H->AE (AF X.prog X.w) X.A (execs st X.env) (SP X pins D) X.xe s
theorem thn{α:Type}{t:Sem α}{Q Q':α->AA->Prop}{M:Model}{A:BD}{E:BA->AA->Prop}(h:AE M A t Q E s)(hQ:∀a s,Q a s->Q' a s):AE M A t Q' E s:=AN h hQ λ_ _ x=>x
noncomputable def lM(i:Nat):TE:=λσ H Q=>∃v,σ[i]? =some (some v)/\Q v H
noncomputable def tC(v:V):TE:=λ_ H Q=>Q v H
theorem aHy{i:Nat}{x:Str}{pos:Pos}(hN:X.N[i]? =some x)(hv:Vis X.env.scope x)(hd:(x==("__debug__":Str))=false:=by decide)(hcd:(x==("__classdict__":Str))=false:=by decide):PE X (.Name x pos) (lM i):=by
 intro pins s σ H Q I h;obtain⟨v,e,h⟩:=h;obtain⟨m,hn,hl⟩:=I.loc;obtain⟨u,r,l⟩:=hl i x v hN e hv;have fin:EP X pins σ Q u s:=⟨v,H,I,r,h⟩
 rcases l with⟨hk,hm⟩|⟨hk,c,hc,hcell⟩
 ·exact wpAny_Name (wpAny_loadName_local I.ok.kind hk hn hm fin) hd
 ·rcases hk with hk|hk
  ·exact wpAny_Name (wpAny_loadName_cell I.ok.kind hk hc hcell fin) hd
  ·exact wpAny_Name (wpAny_loadName_free I.ok.kind hk hc hcell fin hcd) hd
theorem pe_int{i j pos}:PE X (.Constant (.int i) j pos) (tC<|.int i):=λ_ _ _ H _ I h=>wpAny_Constant_int ⟨.int i,H,I.tok _,⟨_,rfl⟩,h⟩
theorem pe_bl{b j pos}:PE X (.Constant (.bool b) j pos) (tC<|.bl b):=λ_ _ _ H _ I h=>Constant_bool ⟨.bl b,H,I,rfl,h⟩
theorem pe_non{j pos}:PE X (.Constant .none j pos) (tC .non):=λ_ _ _ H _ I h=>Constant_none ⟨.non,H,I,rfl,h⟩
theorem pe_str{x j pos}:PE X (.Constant (.str x) j pos) (tC<|.str x):=λ_ _ _ H _ I h=>Calls.Constant_str ⟨.str x,H,I.tok _,⟨_,rfl⟩,h⟩
def Gl(X:Cx)(x:Str):Prop:=X.env.kindOf x=some .globalImplicit
theorem mP{E:BA->AA->Prop}{σ:St}{x:Str}{u:BA}{pos:Pos}{Q:BA->AA->Prop}(I:Inv X pins σ H s)(hg:Gl X x)(hm:X.mg x=some u)(h:Q u s)
  (hd:(x==("__debug__":Str))=false:=by decide):AE (AF X.prog X.w) X.A (eval (.Name x pos) X.env) Q E s:=
 Calls.Name_function_global I.ok.kind hg (Calls.loadGlobal_global (by rw[I.ok.glob];exact I.mod.glob.keeps I.bk) hm h) hd
theorem kP{E:BA->AA->Prop}{σ:St}{x:Str}{u:BA}{pos:Pos}{Q:BA->AA->Prop}(I:Inv X pins σ H s)(hg:Gl X x)(hm:X.mg x=none)(hv:AS x=some u)(h:Q u s)
  (hn:x≠"__name__":=by decide) (hd:(x==("__debug__":Str))=false:=by decide):AE (AF X.prog X.w) X.A (eval (.Name x pos) X.env) Q E s:=by
 obtain⟨mb,h1,h2⟩:=I.mod.blt;exact Calls.Name_function_global I.ok.kind hg (Calls.loadGlobal_builtin (by rw[I.ok.glob];exact I.mod.glob.keeps I.bk) hm (by rw[I.ok.blt];exact h1.keeps I.bk) ((h2 x hn).trans hv) h) hd
theorem aAL{x:Str}{v:V}{u:BA}{pos:Pos}(hg:Gl X x)(hm:X.mg x=some u)(r:RelV v u)(hd:(x==("__debug__":Str))=false:=by decide):PE X (.Name x pos) (tC v):=
 λ_ _ _ H _ I h=>mP I hg hm ⟨v,H,I,r,h⟩ hd
theorem aEU{x:Str}{v:V}{u:BA}{pos:Pos}(hg:Gl X x)(hm:X.mg x=none)(hv:AS x=some u)(r:RelV v u)(hn:x≠"__name__":=by decide)(hd:(x==("__debug__":Str))=false:=by decide):PE X (.Name x pos) (tC v):=
 λ_ _ _ H _ I h=>kP I hg hm hv ⟨v,H,I,r,h⟩ hn hd
def t2I(ta tb:TE)(k:Int->Int->Hp->Prop):St->Hp->Prop:=λσ H=>ta σ H λx H1=>tb σ H1 λy H2=>∃i j,x=.int i/\y=.int j/\k i j H2
variable {a b:Expr}{ta tb:TE}{pos:Pos}
noncomputable def aFS(p:Int->Int->Bool)(ta tb:TE):TE:=λσ H Q=>t2I ta tb (λi j H2=>Q (.bl<|p i j) H2) σ H
noncomputable abbrev tLt:TE->TE->TE:=aFS λi j=>decide<|i<j
noncomputable abbrev tLe:TE->TE->TE:=aFS λi j=>decide<|i<=j
noncomputable abbrev tGt:TE->TE->TE:=aFS λi j=>decide<|j<i
noncomputable abbrev tGe:TE->TE->TE:=aFS λi j=>decide<|j<=i
noncomputable abbrev tEqI:TE->TE->TE:=aFS λi j=>decide<|i=j
noncomputable abbrev tNeI:TE->TE->TE:=aFS λi j=> !decide (i=j)
noncomputable def tB(t:TE):TT:=λσ H Q=>t σ H λx H1=>∃c,x=.bl c/\Q c H1
theorem aHm{e:Expr}{t:TE}(h:PE X e t)(he:∀whole,isTrue e X.env whole=(do let v <-whole;standAt e.pos;holding [v] (truthy v)):=by intro _;rfl):PT X e (tB t):=by intro pins s σ H Q I hw;refine isTrue_plain (thn (h pins s σ H _ I hw) λv s1 ⟨x,H1,I1,r1,q1⟩=> ?_)<|he _;obtain⟨d,rfl,q⟩:=q1;cases r1;exact AY ⟨H1,I1,q⟩
variable {tA tB':TT}{rest:List Expr}
noncomputable def tAnd(t u:TT):TT:=λσ H Q=>t σ H λc H1=>if c=true then u σ H1 Q else Q false H1
noncomputable def tOr(t u:TT):TT:=λσ H Q=>t σ H λc H1=>if c=true then Q true H1 else u σ H1 Q
noncomputable def tNot(t:TT):TT:=λσ H Q=>t σ H λc H1=>Q (!c) H1
theorem aEW(ha:PT X a tA):PW X (.BoolOp .And [a] pos) tA:=by
 intro wh pins s σ H Q I h;refine isTrue_and<|thn (ha pins s σ H Q I h) λc s1 e=> ?_;cases c with
 |true=>exact isTrue_and_nil e
 |false=>exact e
theorem aGT(ha:PT X a tA):PW X (.BoolOp .Or [a] pos) tA:=by
 intro wh pins s σ H Q I h;refine isTrue_or<|thn (ha pins s σ H Q I h) λc s1 e=> ?_;cases c with
 |false=>exact isTrue_or_nil e
 |true=>exact e
theorem aGA(ha:PT X a tA)(hb:PW X (.BoolOp .And (b::rest) pos) tB'):PW X (.BoolOp .And (a::b::rest) pos) (tAnd tA tB'):=by
 intro wh pins s σ H Q I h;refine isTrue_and<|thn (ha pins s σ H _ I h) λc s1 ⟨H1,I1,q1⟩=> ?_;cases c with
 |true=>exact hb wh pins s1 σ H1 Q I1 q1
 |false=>exact⟨H1,I1,q1⟩
theorem aIy(ha:PT X a tA)(hb:PW X (.BoolOp .Or (b::rest) pos) tB'):PW X (.BoolOp .Or (a::b::rest) pos) (tOr tA tB'):=by
 intro wh pins s σ H Q I h;refine isTrue_or<|thn (ha pins s σ H _ I h) λc s1 ⟨H1,I1,q1⟩=> ?_;cases c with
 |true=>exact⟨H1,I1,q1⟩
 |false=>exact hb wh pins s1 σ H1 Q I1 q1
theorem aGz(ha:PT X a tA):PT X (.UnaryOp .Not a pos) (tNot tA):=by intro pins s σ H Q I h;exact isTrue_not<|ha pins s σ H (λc H1=>Q (!c) H1) I h
noncomputable def aIw(ta tb:TE):TE:=λσ H Q=>ta σ H λx H1=>∃c,x=.bl c/\if c=true then tb σ H1 Q else Q (.bl false) H1
noncomputable def aIt(ta:TE):TE:=λσ H Q=>ta σ H λx H1=>∃c,x=.bl c/\Q (.bl<|!c) H1
theorem aGZ{op}{t:TE}(h:PE X a t):PE X (.BoolOp op [a] pos) t:=λpins s σ H Q I hw=>BoolOp_one<|h pins s σ H Q I hw
theorem aGH(ha:PE X a ta)(hb:PE X (.BoolOp .And (b::rest) pos) tb):PE X (.BoolOp .And (a::b::rest) pos) (aIw ta tb):=by
 intro pins s σ H Q I h;refine BoolOp_and<|thn (ha pins s σ H _ I h) λv s1 ⟨x,H1,I1,r1,q1⟩=> ?_;obtain⟨c,rfl,q1⟩:=q1;cases r1;refine AY ?_;cases c with
 |true=>exact hb pins s1 σ H1 Q I1 q1
 |false=>exact⟨.bl false,H1,I1,rfl,q1⟩
theorem aGJ(ha:PE X a ta):PE X (.UnaryOp .Not a pos) (aIt ta):=by intro pins s σ H Q I h;refine UnaryOp_<|thn (ha pins s σ H _ I h) λv s1 ⟨x,H1,I1,r1,q1⟩=> ?_;obtain⟨c,rfl,q1⟩:=q1;cases r1;exact not_of<|AY ⟨.bl<|!c,H1,I1,rfl,q1⟩
def SqL(K:aB)(H:Hp)(a:BC)(xs:List V):Prop:=
 Rd H a (.lst xs)\/
  ∃ (o:BF) (its:Array BA) (n:Nat),K.lookup a=some o/\o.cls=.type "list"/\o.dict=none/\o.data=.seq its n/\its.size<=AH/\Vals xs its.toList
def SqT(K:aB)(H:Hp)(a:BC)(xs:List V):Prop:=
 Rd H a (.tup xs)\/
  ∃ (o:BF) (its:Array BA) (n:Nat),K.lookup a=some o/\o.cls=.type "tuple"/\o.data=.seq its n/\its.size<=AH/\Vals xs its.toList
noncomputable def absV:BA->Option V
 |.none=>some .non
 |.bool b=>some<|.bl b
 |.int i _=>some<|.int i
 |.str x _=>some<|.str x
 |.bytes b _=>some<|.byt b
 |.float b _=>some<|.flt b
 |.ref a=>some<|.ref a
 |.type n=>some<|.ty n
 |_=>none
theorem RelV.abs{x:V}{u:BA}(r:RelV x u):absV u=some x:=by
 cases x with
 |non=>cases r;rfl
 |bl _=>cases r;rfl
 |int _=>obtain⟨t,rfl⟩:=r;rfl
 |str _=>obtain⟨t,rfl⟩:=r;rfl
 |byt _=>obtain⟨t,rfl⟩:=r;rfl
 |flt _=>obtain⟨t,rfl⟩:=r;rfl
 |ref _=>cases r;rfl
 |ty _=>cases r;rfl
theorem RelV.inj{x y:V}{u:BA}(r:RelV x u)(q:RelV y u):x=y:=bN.inj<|r.abs.symm.trans q.abs
theorem Vals.inj:∀ {xs ys:List V}{us:List BA},Vals xs us->Vals ys us->xs=ys
 |_,_,_,.nil,.nil=>rfl
 |_,_,_,.cons r t,.cons r' t'=>by rw[r.inj r',Vals.inj t t']
variable {σ:St}{a:BC}{xs ys:List V}
theorem SqL.of{K:aB}(h:H a=some (.lst xs)):SqL K H a xs:=.inl<|.inl h
theorem SqT.of{K:aB}(h:H a=some (.tup xs)):SqT K H a xs:=.inl<|.inl h
theorem Inv.list(I:Inv X pins σ H s)(h:SqL X.K H a xs):∃its:List BA,Vals xs its/\PlainL s.heap a its.toArray/\xs.length<=AH:=by
 rcases h with h|⟨o,its,n,hk,hc,hd,hs,hz,r⟩
 ·obtain⟨z,its,n,r,e⟩:=h.ok I.hok;exact⟨its,r,⟨_,n,e,rfl,rfl,rfl⟩,z⟩
 ·refine⟨its.toList,r,⟨o,n,I.kIn a o hk,hc,hd,by simpa using hs⟩, ?_⟩;have e:=r.length;simp only[eU] at e;omega
theorem Inv.tuple(I:Inv X pins σ H s)(h:SqT X.K H a xs):∃its:List BA,Vals xs its/\IsTup s.heap a its.toArray/\xs.length<=AH:=by
 rcases h with h|⟨o,its,n,hk,hc,hs,hz,r⟩
 ·obtain⟨z,its,r,p⟩:=h.ok I.hok;exact⟨its,r,p.tup,z⟩
 ·refine⟨its.toList,r,⟨o,I.kIn a o hk,hc,n,by simpa using hs⟩, ?_⟩;have e:=r.length;simp only[eU] at e;omega
theorem Inv.list_inj(I:Inv X pins σ H s)(h:SqL X.K H a xs)(h':SqL X.K H a ys):xs=ys:=by
 obtain⟨its,r,⟨o,n,e,_,_,d⟩,_⟩:=I.list h;obtain⟨its',r',⟨o',n',e',_,_,d'⟩,_⟩:=I.list h';rw[e] at e';cases e';rw[d] at d';injection d' with d1 _
 have:its=its':=by simpa using congrArg aHW d1
 subst this;exact r.inj r'
theorem Inv.tuple_inj(I:Inv X pins σ H s)(h:SqT X.K H a xs)(h':SqT X.K H a ys):xs=ys:=by
 obtain⟨its,r,⟨o,e,_,n,d⟩,_⟩:=I.tuple h;obtain⟨its',r',⟨o',e',_,n',d'⟩,_⟩:=I.tuple h';rw[e] at e';cases e';rw[d] at d';injection d' with d1 _
 have:its=its':=by simpa using congrArg aHW d1
 subst this;exact r.inj r'
noncomputable abbrev Cx.wish(X:Cx)(E:BA->AA->Prop):Cx:={X with xe:=E}
noncomputable abbrev Cx.nox(X:Cx):Cx:=X.wish λ_ _=>False
theorem Cx.Ok.wish(ok:X.Ok)(E:BA->AA->Prop):(X.wish E).Ok:=
 ⟨ok.mod,ok.kind,ok.glob,ok.blt,ok.above,ok.inj,ok.has,ok.cab,ok.hd,ok.frames,ok.stk,ok.exf,ok.bs,ok.bsz,ok.noex,ok.exfs,ok.funs,ok.frf⟩
theorem Cx.Ok.unwish{E:BA->AA->Prop}(ok:(X.wish E).Ok):X.Ok:=
 ⟨ok.mod,ok.kind,ok.glob,ok.blt,ok.above,ok.inj,ok.has,ok.cab,ok.hd,ok.frames,ok.stk,ok.exf,ok.bs,ok.bsz,ok.noex,ok.exfs,ok.funs,ok.frf⟩
variable {E:BA->AA->Prop}
theorem Inv.wish(I:Inv X pins σ H s)(E:BA->AA->Prop):Inv (X.wish E) pins σ H s:=⟨I.ok.wish E,I.os,I.bare,I.base,I.loc,I.cell,I.free,I.freeC,I.pin,I.hok,I.len⟩
theorem Inv.unwish(I:Inv (X.wish E) pins σ H s):Inv X pins σ H s:=⟨I.ok.unwish,I.os,I.bare,I.base,I.loc,I.cell,I.free,I.freeC,I.pin,I.hok,I.len⟩
theorem SP.unwish{D:oP}{f:Flow}{s':AA}(h:SP (X.wish E) pins D f s'):SP X pins D f s':=by
 cases f with
 |next=>obtain⟨σ',H',I,q⟩:=h;exact⟨σ',H',I.unwish,q⟩
 |brk=>obtain⟨σ',H',I,q⟩:=h;exact⟨σ',H',I.unwish,q⟩
 |cont=>obtain⟨σ',H',I,q⟩:=h;exact⟨σ',H',I.unwish,q⟩
 |ret u=>obtain⟨v,σ',H',I,r,q⟩:=h;exact⟨v,σ',H',I.unwish,r,q⟩
theorem PSs.nox{st:List BG}{t:TS}(h:PSs X.nox st t):PSs X st t:=λpins s σ H D I hw=>AN (h pins s σ H D (I.wish _) hw) (λ_ _ q=>q.unwish) λ_ _ z=>False.elim z
variable {st:BG}{rest:List BG}{t u:TS}{e:Expr}{te:TE}
noncomputable def aIC:TS:=λD σ H=>D.nx σ H
noncomputable def tSeq(t u:TS):TS:=λD σ H=>t {D with nx:=u D} σ H
theorem pss_nil:PSs X [] aIC:=λ_ _ σ H _ I h=>wpAny_execs_nil ⟨σ,H,I,h⟩
theorem aCl(h1:PS X st t)(h2:PSs X rest u):PSs X (st::rest) (tSeq t u):=by
 intro pins s σ H D I h;refine wpAny_execs_cons<|thn (h1 pins s σ H {D with nx:=u D} I h) λf s1 q=> ?_;cases f with
 |next=>obtain⟨σ',H',I',q⟩:=q;exact h2 pins s1 σ' H' D I' q
 |ret v=>exact q
 |brk=>exact q
 |cont=>exact q
theorem aED(h1:PS X st t):PSs X [st] t:=by
 intro pins s σ H D I h;refine wpAny_execs_cons<|thn (h1 pins s σ H D I h) λf s1 q=> ?_;cases f with
 |next=>exact wpAny_execs_nil q
 |ret v=>exact q
 |brk=>exact q
 |cont=>exact q
theorem Inv.quiet(I:Inv X pins σ H s):interactive X.env=false:=by simp[interactive,I.ok.kind]
noncomputable def aIM(te:TE):TS:=λD σ H=>te σ H λ_ H1=>D.nx σ H1
theorem pE(he:PE X e te)(hs:Ae e none pos.line X.env=pure false:=by rfl):PS X (.Expr e pos) (aIM te):=by intro pins s σ H D I h;exact wpAny_Expr_any (thn (he pins s σ H _ I h) λv s1 ⟨x,H1,I1,r1,q1⟩=>⟨σ,H1,I1,q1⟩) I.quiet hs
noncomputable def tRet(te:TE):TS:=λD σ H=>te σ H D.rt
theorem aDZ(he:PE X e te):PS X (.Return (some e) pos) (tRet te):=by intro pins s σ H D I h;exact wpAny_Return_some<|thn (he pins s σ H _ I h) λv s1 ⟨x,H1,I1,r1,q1⟩=>⟨x,σ,H1,I1,r1,q1⟩
noncomputable def tIfS(c:TT)(t u:TS):TS:=λD σ H=>c σ H λb H1=>if b=true then t D σ H1 else u D σ H1
theorem aIP{c:Expr}{a b:List BG}{tc:TT}(hc:PT X c tc)(ha:PSs X a t)(hb:PSs X b u):PS X (.If c a b pos) (tIfS tc t u):=by
 intro pins s σ H D I h;refine wpAny_If<|thn (hc pins s σ H _ I h) λd s1 ⟨H1,I1,q1⟩=> ?_;cases d with
 |true=>exact ha pins s1 σ H1 D I1 q1
 |false=>exact hb pins s1 σ H1 D I1 q1
noncomputable abbrev TG:=V->St->Hp->(St->Hp->Prop)->Prop
noncomputable abbrev TGs:=List V->St->Hp->(St->Hp->Prop)->Prop
def PG(X:Cx)(target:Expr)(t:TG):Prop:=
 ∀ (pins:List (BC×BF)) (s:AA) (σ:St) (H:Hp) (v:V) (u:BA) (Q:St->Hp->Prop),Inv X pins σ H s->RelV v u->t v σ H Q->
  AE (AF X.prog X.w) X.A (assign target X.env u) (λ_ s'=>∃σ' H',Inv X pins σ' H' s'/\Q σ' H') X.xe s
def PGs(X:Cx)(ts:List Expr)(t:TGs):Prop:=
 ∀ (pins:List (BC×BF)) (s:AA) (σ:St) (H:Hp) (vs:List V) (us:List BA) (Q:St->Hp->Prop),Inv X pins σ H s->Vals vs us->t vs σ H Q->
  AE (AF X.prog X.w) X.A (assignInOrder ((AT ts X.env).map (·.2)) us) (λ_ s'=>∃σ' H',Inv X pins σ' H' s'/\Q σ' H') X.xe s
noncomputable abbrev aHY:=V->V->V->Hp->(Hp->Prop)->Prop
def aJj(X:Cx)(t:aHY):Prop:=
 ∀ (pins:List (BC×BF)) (s:AA) (σ:St) (H:Hp) (o i v:V) (ov iv u:BA) (Q:Hp->Prop),Inv X pins σ H s->RelV o ov->RelV i iv->RelV v u->t o i v H Q->
  AE (AF X.prog X.w) X.A (setItem ov iv u) (λ_ s'=>∃H',Inv X pins σ H' s'/\Q H') X.xe s
noncomputable abbrev TIp:=V->V->Hp->VK->Prop
noncomputable def wX(i:Nat):TG:=λv σ H Q=>Q (σ.set i (some v)) H
theorem aAE{i:Nat}{x:Str}(hN:X.N.Nodup)(hi:X.N[i]? =some x)(hx:Loc X.env.scope x)(hf:X.fn x=true\/X.env.scope.names.lookup x=some .local:=by first|exact .inl rfl|exact .inr rfl|assumption):PG X (.Name x pos) (wX i):=by intro pins s σ H v u Q I r h;exact wpAny_assign_Name<|mY I hN hi hx r (λs' I'=>⟨_,H,I',h⟩) hf
noncomputable def aJh:TGs:=λvs σ H Q=>vs=[]/\Q σ H
noncomputable def aGr(t:TG)(u:TGs):TGs:=λvs σ H Q=>∃v r,vs=v::r/\t v σ H λσ' H'=>u r σ' H' Q
theorem gH:PGs X [] aJh:=by intro pins s σ H vs us Q I r h;obtain⟨e,h⟩:=h;subst e;cases r;exact assignInOrder_nil ⟨σ,H,I,h⟩
theorem cF{es:List Expr}{t:TG}{u:TGs}(h1:PG X e t)(h2:PGs X es u)
  (hs:(AT (e::es) X.env).map (·.2)=assign e X.env::(AT es X.env).map (·.2):=by rfl):PGs X (e::es) (aGr t u):=by
 intro pins s σ H vs us Q I r h;obtain⟨v,vr,e1,h⟩:=h;subst e1;cases r with
 |cons r rr=>rw[hs];refine assignInOrder_cons<|thn (h1 pins s σ H _ _ _ I r h) λ_ s1 ⟨σ1,H1,I1,q1⟩=> ?_;exact h2 pins s1 σ1 H1 _ _ Q I1 rr q1
noncomputable def gTup(K:aB)(n:Nat)(t:TGs):TG:=λv σ H Q=>∃a xs,v=.ref a/\SqT K H a xs/\xs.length=n/\t xs σ H Q
theorem aHw{es:List Expr}{k:Nat}{t:TGs}{n:Nat}(hc:X.calm=true)(h:PGs X es t)
  (hn:(AT es X.env).length=n:=by rfl) (hst:(AT es X.env).findIdx? (·.1)=none:=by rfl):PG X (.Tuple es k pos) (gTup X.K n t):=by
 intro pins s σ H v u Q I r hw;obtain⟨a,xs,e1,hq,hl,hw⟩:=hw;subst e1;cases r;obtain⟨its,rv,ht,hz⟩:=I.tuple hq;refine assign_Tuple_tuple (I.ok.hd hc) ht (by simp[hn,<-hl,rv.length]) hst λh' hx=> ?_
 have I1:Inv X pins σ H {s with heap:=h'}:=I.kept (t':=s.toks) λb o e=>hx b o (bG<|aO e) e
 exact h pins _ σ H xs _ Q I1 (by simpa using rv) hw
noncomputable def gSub(to ti:TE)(t:aHY):TG:=λv σ H Q=>to σ H λo H1=>ti σ H1 λi H2=>t o i v H2 λH3=>Q σ H3
theorem aHg{o i:Expr}{to ti:TE}{t:aHY}(ho:PE X o to)(hi:PE X i ti)(hs:aJj X t)
  (ha:∀v,assign (.Subscript o i pos) X.env v=(do
   let ov <-holding [v] (eval o X.env)
   let iv <-holding [v,ov] (eval i X.env)
   standAt pos
   holding [v,ov,iv] (setItem ov iv v)
   release [v,ov,iv] []):=by intro _;rfl):PG X (.Subscript o i pos) (gSub to ti t):=by
 intro pins s σ H v u Q I r h;rw[ha];refine AB (AQ<|thn (ho pins s σ H _ I h) λov s1 ⟨x,H1,I1,r1,q1⟩=> ?_);refine AB (AQ<|thn (hi pins s1 σ H1 _ I1 q1) λiv s2 ⟨y,H2,I2,r2,q2⟩=> ?_);refine AB (Ah<|AB (AQ<|thn (hs pins s2 σ H2 x y v ov iv u _ I2 r1 r2 r q2) λ_ s3 ⟨H3,I3,q3⟩=> ?_));exact wpAny_release ⟨σ,H3,I3,q3⟩
noncomputable def aJs(te:TE)(g:TG):TS:=λD σ H=>te σ H λx H1=>g x σ H1 D.nx
theorem aDq{tg:Expr}{g:TG}(he:PE X e te)(hg:PG X tg g)(hs:swapsWithSole [tg] e pos.line X.env=pure false:=by rfl)(hw:swappedStores [tg] e X.env=pure none:=by rfl)
  (h1:(AT [tg] X.env).map (·.2)=[assign tg X.env]:=by rfl):PS X (.Assign [tg] e pos) (aJs te g):=by
 intro pins s σ H D I h;refine wpAny_Assign_stores (thn (he pins s σ H _ I h) λv s1 ⟨x,H1,I1,r1,q1⟩=> ?_) hs hw;rw[h1];exact thn (hg pins s1 σ H1 x v _ I1 r1 q1) λ_ s2 q=>q
theorem aDO{i:Nat}{x:Str}{pos':Pos}(hN:X.N.Nodup)(hi:X.N[i]? =some x)(hx:Loc X.env.scope x)(he:PE X e te)(hs:Ae e (some<|.Name x pos') pos.line X.env=pure false:=by rfl)(hf:X.fn x=true\/X.env.scope.names.lookup x=some .local:=by first|exact .inl rfl|exact .inr rfl|assumption):
  PS X (.Assign [.Name x pos'] e pos) (aJs te<|wX i):=by
 intro pins s σ H D I h;refine wpAny_Assign_Name (thn (he pins s σ H _ I h) λv s1 ⟨y,H1,I1,r1,q1⟩=> ?_) hs;exact mY I1 hN hi hx r1 (λs2 I2=>⟨_,H1,I2,q1⟩) hf
structure It where
 go:Nat->Hp->Prop
 yld:Nat->Hp->V->Hp->Prop
 stop:Nat->Hp->Prop
def qR(X:Cx)(pins:List (BC×BF))(H:Hp)(b:BC):Prop:=
 H b=none/\b≠X.env.locals/\b∉X.fs/\(b∈X.ex\/X.s₀.heap.objs.size<=b)/\(∀x c,X.env.cells.lookup x=some c->c≠b)/\∀p∈X.pn++pins,p.1≠b
theorem Inv.fpOk{b:BC}(I:Inv X pins σ H s)(hb:s.heap.objs.size<=b)(hn:H' b=none):qR X pins H' b:=by
 refine⟨hn,gE<|aY I.lt hb,I.nofs hb,.inr<|bM I.sz hb,λx c e z=> ?_,λp hp z=> ?_⟩
 ·obtain⟨v,q⟩:=I.cell x c e;exact absurd (aY q.lt<|by rw[z];exact hb)<|eP _
 ·exact absurd (aY (aO (I.pin p hp).1)<|by rw[z];exact hb)<|eP _
structure zT(P:AG)(w:AI)(K:aB)(tg:Expr)(J:It)(fp:List BC)(it:BC)(tn:Nat->BE->Prop):Prop where
 mem:it∈fp
 obj:∀i h,tn i h->∀b∈fp,∃o,h.get? b=some o/\∀v,o.data≠ .cell v
 keep:∀i h h',tn i h->(∀b∈fp,∀o,h.get? b=some o->h'.get? b=some o)->tn i h'
 item:∀ (X:Cx),X.prog=P->X.w=w->X.K=K->X.calm=true->∀ (i:Nat) (pins:List (BC×BF)) (s:AA) (σ:St) (H:Hp) (E:BA->AA->Prop),Inv X pins σ H s->(∀b∈fp,qR X pins H b)->tn i s.heap->J.go i H->
  AE (AF P w) X.A (pyNext (.ref it)) (fun r s1=>∃u,r=some u∧
   AE (AF P w) X.A (letOwnedTupleGo tg (.ref it) u) (λ_ s2=>∃x H',Inv X pins σ H' s2/\RelV x u/\J.yld i H x H'/\tn (i+1) s2.heap/\∀b∈fp,H' b=none) E s1) E s
 done:∀ (X:Cx),X.prog=P->X.w=w->X.K=K->X.calm=true->∀ (i:Nat) (pins:List (BC×BF)) (s:AA) (σ:St) (H:Hp) (E:BA->AA->Prop),Inv X pins σ H s->(∀b∈fp,qR X pins H b)->tn i s.heap->J.stop i H->
  AE (AF P w) X.A (pyNext<|.ref it) (λr s1=>r=none/\Inv X pins σ H s1) E s
 self:∀ (A:BD) (i:Nat) (s:AA) (Q:BA->AA->Prop) (E:BA->AA->Prop),tn i s.heap->Q (.ref it) s->AE (AF P w) A (pyIter<|.ref it) Q E s
noncomputable abbrev TI:=St->Hp->(It->Hp->Prop)->Prop
def PIE(X:Cx)(pins:List (BC×BF))(σ:St)(tg:Expr)(R:It->Hp->Prop)(itv:BA)(s2:AA):Prop:=
 ∃ (it:BC) (fp:List BC) (tn:Nat->BE->Prop) (J:It) (H':Hp),itv=.ref it/\Inv X pins σ H' s2/\zT X.prog X.w X.K tg J fp it tn/\tn 0 s2.heap/\(∀b∈fp,qR X pins H' b)/\R J H'
def PI(X:Cx)(tg iter:Expr)(wi:TI):Prop:=
 ∀ (pins:List (BC×BF)) (s:AA) (σ:St) (H:Hp) (R:It->Hp->Prop),Inv X pins σ H s->wi σ H R->
  AE (AF X.prog X.w) X.A (eval iter X.env) (λv s1=>AE (AF X.prog X.w) X.A (pyIter v) (PIE X pins σ tg R) X.xe s1) X.xe s
theorem aEt{M:Model}{A:BD}{tg:Expr}{it:BC}{u:BA}{o:BF}{n:String}{vs:Array BA}{Q:Unit->AA->Prop}(ho:s.heap.get? it=some o)(hc:o.cls=.type n)(hd:o.data=.fields vs)
  (hn:["enumerate","zip","dict_itemiterator","dict_reverseitemiterator","odict_iterator","itertools.zip_longest","itertools.pairwise"].contains n=false) (hQ:Q () s):AE M A (letOwnedTupleGo tg (.ref it) u) Q E s:=by
 unfold letOwnedTupleGo
 cases tg<;>first
  |exact AD hQ
  | (cases u<;>first
    |exact AD hQ
    | (refine AB (wpAny_load ho ?_)
       rw[hc,hd];show AE M A (if(["enumerate","zip","dict_itemiterator","dict_reverseitemiterator","odict_iterator","itertools.zip_longest","itertools.pairwise"].contains n&&vs[0]? ==some (rawInt _))=true then _ else _) Q E s;rw[if_neg<|by intro h;rw[hn,lR] at h;cases h]
       exact AD hQ))
noncomputable def Itl(K:aB)(a:BC):It:=
 ⟨λi H=>∃xs x,SqL K H a xs/\xs[i]? =some x,λi H x H'=>H'=H/\∀xs,SqL K H a xs->xs[i]? =some x,λi H=>∃xs,SqL K H a xs/\xs.length<=i⟩
noncomputable def Itt(K:aB)(a:BC):It:=
 ⟨λi H=>∃xs x,SqT K H a xs/\xs[i]? =some x,λi H x H'=>H'=H/\∀xs,SqT K H a xs->xs[i]? =some x,λi H=>∃xs,SqT K H a xs/\xs.length<=i⟩
noncomputable def Itr(lo:Int)(n:Nat):It:=⟨λi _=>i<n,λi H x H'=>H'=H/\x=.int (lo+i),λi _=>n<=i⟩
theorem aAQ{K:aB}{tg:Expr}(a it:BC):zT P w K tg (Itl K a) [it] it (λi h=>h.IsListIter it a i) where
 mem:=by simp
 obj:=λi h st b hb=>by
  have e:b=it:=by simpa using hb
  subst e;obtain⟨o,e,c,d⟩:=st;exact⟨o,e,λv z=>by rw[d] at z;cases z⟩
 keep:=λi h h' st k=>st.at λo e=>k it (by simp) o e
 item:=by
  intro X hP hw hK hc i pins s σ H E I hf st hg;subst hP hw hK;obtain⟨xs,x,hq,hx⟩:=hg;obtain⟨its,rv,p,hz⟩:=I.list hq;obtain⟨u,hu,ru⟩:=rv.get hx;obtain⟨f0,f1,f2,f3,f4,f5⟩:=hf it (by simp);refine wpAny_pyNext_list_item st p.isList (x:=u) (by simpa using hu) λh' st' sb=> ?_
  have I1:Inv X pins σ H {s with heap:=h'}:=I.turned (t':=s.toks) (λb o hb e=>(sb.2 b hb).trans e) f0 f1 f3 f4 f5;obtain⟨o,e,c,d⟩:=id st';exact⟨u,rfl,aEt (s:={s with heap:=h'}) e c d (by decide) ⟨x,H,I1,ru,⟨rfl,λys hy=>by rw[I.list_inj hy hq];exact hx⟩,st',λb hb=>(hf b hb).1⟩⟩
 done:=by intro X hP hw hK hc i pins s σ H E I hf st hg;subst hP hw hK;obtain⟨xs,hq,hx⟩:=hg;obtain⟨its,rv,p,hz⟩:=I.list hq;obtain⟨f0,f1,f2,f3,f4,f5⟩:=hf it (by simp);have hl:=rv.length;exact wpAny_pyNext_list_end (I.ok.hd hc) st p.isList (by simp;omega) λh' eb=>⟨rfl,I.turned (t':=s.toks) (λb o hb e=>eb b o hb e) f0 f1 f3 f4 f5⟩
 self:=λ_ _ _ _ _ st h=>wpAny_pyIter_listiter st h
theorem zS{K:aB}{tg:Expr}(a it:BC):zT P w K tg (Itt K a) [it] it (λi h=>h.IsTupleIter it a i) where
 mem:=by simp
 obj:=λi h st b hb=>by
  have e:b=it:=by simpa using hb
  subst e;obtain⟨o,e,c,d⟩:=st;exact⟨o,e,λv z=>by rw[d] at z;cases z⟩
 keep:=λi h h' st k=>st.at λo e=>k it (by simp) o e
 item:=by
  intro X hP hw hK hc i pins s σ H E I hf st hg;subst hP hw hK;obtain⟨xs,x,hq,hx⟩:=hg;obtain⟨its,rv,p,hz⟩:=I.tuple hq;obtain⟨u,hu,ru⟩:=rv.get hx;obtain⟨f0,f1,f2,f3,f4,f5⟩:=hf it (by simp);refine wpAny_pyNext_tuple_item st (show s.heap.IsTuple a its.toArray from p) (x:=u) (by simpa using hu) λh' st' sb=> ?_
  have I1:Inv X pins σ H {s with heap:=h'}:=I.turned (t':=s.toks) (λb o hb e=>(sb.2 b hb).trans e) f0 f1 f3 f4 f5;obtain⟨o,e,c,d⟩:=id st';exact⟨u,rfl,aEt (s:={s with heap:=h'}) e c d (by decide) ⟨x,H,I1,ru,⟨rfl,λys hy=>by rw[I.tuple_inj hy hq];exact hx⟩,st',λb hb=>(hf b hb).1⟩⟩
 done:=by intro X hP hw hK hc i pins s σ H E I hf st hg;subst hP hw hK;obtain⟨xs,hq,hx⟩:=hg;obtain⟨its,rv,p,hz⟩:=I.tuple hq;obtain⟨f0,f1,f2,f3,f4,f5⟩:=hf it (by simp);have hl:=rv.length;exact wpAny_pyNext_tuple_end (I.ok.hd hc) st (show s.heap.IsTuple a its.toArray from p) (by simp;omega) λh' eb=>⟨rfl,I.turned (t':=s.toks) (λb o hb e=>eb b o hb e) f0 f1 f3 f4 f5⟩
 self:=λ_ _ _ _ _ st h=>wpAny_pyIter_tupleiter st h
theorem zH{K:aB}{tg:Expr}(it:BC)(lo:Int)(n:Nat):zT P w K tg (Itr lo n) [it] it (λi h=>IsRangeIter h it (lo+(i:Nat)*1) ((n:Int)-(i:Nat)) 1) where
 mem:=by simp
 obj:=λi h st b hb=>by
  have e:b=it:=by simpa using hb
  subst e
  exact ⟨_,st,fun v z=>by
   have z':Data.fields _=Data.cell v:=z
   cases z'⟩
 keep:=λi h h' st k=>k it (by simp) _ st
 item:=by
  intro X hP hw hK hc i pins s σ H E I hf st hg;subst hP hw hK;obtain⟨f0,f1,f2,f3,f4,f5⟩:=hf it (by simp);have W:=Walks.range (prog:=X.prog) (w:=X.w) (I.ok.hd hc) it lo 1 n;refine W.item i s _ _ hg st λv h' tk hv st' kk=> ?_
  obtain⟨t,rfl⟩:=hv;have I1:Inv X pins σ H {s with heap:=h',toks:=tk}:=I.turned (λb o hb e=>kk b o (by simpa using hb) e) f0 f1 f3 f4 f5;refine⟨_,rfl,aEt (s:={s with heap:=h',toks:=tk}) (n:="range_iterator") st' rfl rfl (by decide) ⟨.int<|lo+i,H,I1,⟨t, ?_⟩,⟨rfl,rfl⟩,st',λb hb=>(hf b hb).1⟩⟩;rw[Int.mul_one]
 done:=by intro X hP hw hK hc i pins s σ H E I hf st hg;subst hP hw hK;obtain⟨f0,f1,f2,f3,f4,f5⟩:=hf it (by simp);exact wpAny_pyNext_range_end (I.ok.hd hc) st (by have:n<=i:=hg;omega) λh' eb=>⟨rfl,I.turned (t':=s.toks) (λb o hb e=>eb b o hb e) f0 f1 f3 f4 f5⟩
 self:=λ_ _ _ _ _ st h=>wpAny_pyIter_rangeiter st h
variable {tg:Expr}
noncomputable def aIA(K:aB)(tl:TE):TI:=λσ H R=>tl σ H λx H1=>∃a,x=.ref a/\(∃xs,SqL K H1 a xs)/\R (Itl K a) H1
noncomputable def iTup(K:aB)(tl:TE):TI:=λσ H R=>tl σ H λx H1=>∃a,x=.ref a/\(∃xs,SqT K H1 a xs)/\R (Itt K a) H1
theorem aFm{l:Expr}{tl:TE}(hl:PE X l tl):PI X tg l (aIA X.K tl):=by
 intro pins s σ H R I h;refine thn (hl pins s σ H _ I h) λv s1 ⟨x,H1,I1,r1,q1⟩=> ?_
 obtain⟨a,e,⟨xs,hq⟩,q⟩:=q1;subst e;cases r1;obtain⟨its,rv,p,hz⟩:=I1.list hq;refine wpAny_pyIter_list p.isList ?_;refine⟨s1.heap.objs.size,[s1.heap.objs.size],_,_,H1,rfl,I1.kept (t':=s1.toks) λb o e=>aH _ e,aAQ a _,⟨_,bT _ rfl,rfl,rfl⟩,λb hb=> ?_,q⟩;have e:b=s1.heap.objs.size:=by simpa using hb
 subst e;exact I1.fpOk (aR _) (I1.hok.fresh<|aR _)
theorem aGC{l:Expr}{tl:TE}(hl:PE X l tl):PI X tg l (iTup X.K tl):=by
 intro pins s σ H R I h;refine thn (hl pins s σ H _ I h) λv s1 ⟨x,H1,I1,r1,q1⟩=> ?_
 obtain⟨a,e,⟨xs,hq⟩,q⟩:=q1;subst e;cases r1;obtain⟨its,rv,p,hz⟩:=I1.tuple hq;refine wpAny_pyIter_tuple (show s1.heap.IsTuple a its.toArray from p) ?_;refine⟨s1.heap.objs.size,[s1.heap.objs.size],_,_,H1,rfl,I1.kept (t':=s1.toks) λb o e=>aH _ e,zS a _,⟨_,bT _ rfl,rfl,rfl⟩,λb hb=> ?_,q⟩;have e:b=s1.heap.objs.size:=by simpa using hb
 subst e;exact I1.fpOk (aR _) (I1.hok.fresh<|aR _)
theorem vY{R:It->Hp->Prop}{lo hi:Int}{t u v:Tok}{tk:Nat}(I:Inv X pins σ H s)(h1: -(2^62)<=lo)(h2:lo<2^62)(h3: -(2^62)<=hi)(h4:hi<2^62)
  (q:R (Itr lo (hi-lo).toNat) H):AE (AF X.prog X.w) X.A (pyIter<|.ref s.heap.objs.size) (PIE X pins σ tg R) E {s with heap:=s.heap.push {cls:=.type "range",data:=.fields #[.int lo t,.int hi u,.int 1 v]},toks:=tk}:=by
 refine wpAny_pyIter_range (IsRange.new ..) (small_one h1 h2 h3 h4) ?_;have I1:Inv X pins σ H {s with heap:=s.heap.push {cls:=.type "range",data:=.fields #[.int lo t,.int hi u,.int 1 v]},toks:=tk}:=I.kept λb o e=>aH _ e
 refine ⟨(s.heap.push {cls:= .type "range",data:= .fields #[.int lo t, .int hi u, .int 1 v]}).objs.size,[(s.heap.push {cls:= .type "range",data:= .fields #[.int lo t, .int hi u, .int 1 v]}).objs.size],_,_,H,rfl,
  I1.kept (t':=tk) λb o e=>aH _ e,zH _ lo (hi-lo).toNat, ?_,λb hb=> ?_,q⟩
 ·have e1:lo+((0:Nat):Int)*1=lo:=by simp
  have e2:(((hi-lo).toNat:Nat):Int)-((0:Nat):Int)=Builtin.Range.rangeSize lo hi 1:=by rw[rangeSize_one];split<;>omega
  show IsRangeIter _ _ (lo+((0:Nat):Int)*1) ((((hi-lo).toNat:Nat):Int)-((0:Nat):Int)) 1;rw[e1,e2];exact bT _ rfl
 ·have e:b=(s.heap.push {cls:=.type "range",data:=.fields #[.int lo t,.int hi u,.int 1 v]}).objs.size:=by simpa using hb
  subst e;exact I1.fpOk (aR _) (I1.hok.fresh<|aR _)
noncomputable def aIx(ta:TA):TI:=λσ H R=>ta σ H λvs H1=>∃j:Int,vs=[.int j]/\ -(2^62)<=j/\j<2^62/\R (Itr 0 j.toNat) H1
noncomputable def aIF(ta:TA):TI:=λσ H R=>ta σ H λvs H1=>∃i j:Int,vs=[.int i,.int j]/\(-(2^62)<=i/\i<2^62/\ -(2^62)<=j/\j<2^62)/\R (Itr i (j-i).toNat) H1
theorem aBC{a:Expr}{ta:TA}{p:Pos}(hg:Gl X "range")(hm:X.mg "range"=none)(ha:PA X [a] ta)(hs:AC [a] X.env=[(false,eval a X.env)]:=by rfl):PI X tg (.Call (.Name "range" p) [a] [] pos) (aIx ta):=by
 intro pins s σ H R I h;refine Call_ (kP I hg hm boot_range<|PyProof.Rows.callWith_type1 (thn (ha pos pins s σ H _ I h) λus s1 ⟨vs,H1,I1,r1,q1⟩=> ?_) hs rfl);obtain⟨j,e,q1,q2,q⟩:=q1;subst e;cases r1 with
 |cons r rr=>cases rr;obtain⟨t,rfl⟩:=r;exact call_range_1 (vY I1 (by omega) (by omega) q1 q2<|by simpa using q)
theorem aBf{a:Expr}{ta:TA}{p:Pos}(hg:Gl X "range")(hm:X.mg "range"=none)(ha:PA X [a,b] ta)(hs:AC [a,b] X.env=[(false,eval a X.env),(false,eval b X.env)]:=by rfl)(hs2:AC [b] X.env=[(false,eval b X.env)]:=by rfl):
  PI X tg (.Call (.Name "range" p) [a,b] [] pos) (aIF ta):=by
 intro pins s σ H R I h;refine Call_<|kP I hg hm boot_range (PyProof.Rows.callWith_type1 (thn (ha pos pins s σ H _ I h) λus s1 ⟨vs,H1,I1,r1,q1⟩=> ?_) (by rw[hs,hs2])<|by rw[hs2];rfl);obtain⟨i,j,e,⟨q1,q2,q3,q4⟩,q⟩:=q1;subst e;cases r1 with
 |cons r rr=>
  cases rr with
  |cons r' rr=>cases rr;obtain⟨t,rfl⟩:=r;obtain⟨t',rfl⟩:=r';exact call_range_2<|vY I1 q1 q2 q3 q4 q
noncomputable def tFor(wi:TI)(g:TG)(tb:TS):TS:=λD σ H=>wi σ H λJ H1=>∃W:Nat->Nat->St->Hp->Prop,(∃m,W 0 m σ H1)/\∀i m σ H,W i m σ H->
 (J.stop i H/\D.nx σ H)\/(J.go i H/\∃N:St->Hp->Prop,(∀σ' H',N σ' H'->∃m',m'<m/\W (i+1) m' σ' H')/\∀x H',J.yld i H x H'->g x σ H' λσ2 H2=>tb {D with nx:=N,ct:=N,bk:=D.nx} σ2 H2)
noncomputable def kF(fp:List BC)(h:BE):List (BC×BF):=fp.filterMap λb=>(h.get? b).map λo=>(b,o)
theorem gL{fp:List BC}{b:BC}{o:BF}(hb:b∈fp)(e:h.get? b=some o):(b,o)∈kF fp h:=aDh.mpr ⟨b,hb,by rw[e];rfl⟩
theorem nW{fp:List BC}{p:BC×BF}(hp:p∈kF fp h):p.1∈fp/\h.get? p.1=some p.2:=by
 obtain⟨b,hb,e⟩:=aDh.mp hp;cases q:h.get? b with
 |none=>rw[q] at e;cases e
 |some o=>rw[q] at e;have e':(b,o)=p:=bN.inj e;subst e';exact⟨hb,q⟩
theorem Inv.pinned{fp:List BC}(I:Inv X pins σ H s)(hf:∀b∈fp,qR X pins H b)(ho:∀b∈fp,∃o,s.heap.get? b=some o/\∀v,o.data≠ .cell v):Inv X (pins++kF fp s.heap) σ H s:=
 I.pins_of λp hp=>(bF.mp hp).elim (λz=>I.pin p<|aN _ z) λz=>by obtain⟨hb,e⟩:=nW z;obtain⟨f0,f1,f2,_⟩:=hf p.1 hb;obtain⟨o,e',d⟩:=ho p.1 hb;rw[e] at e';cases e';exact⟨e,f0,f1,f2,d⟩
theorem Inv.unpinned{pl:List (BC×BF)}(I:Inv X (pins++pl) σ H s):Inv X pins σ H s:=I.pins_of λp hp=>I.pin p (aN _<|cE _ hp)
theorem aDp{iter:Expr}{body:List BG}{wi:TI}{g:TG}{tb:TS}(hp:PassesOwn (AF X.prog X.w) X.A X.env X.xe)(hc:X.calm=true)(hi:PI X tg iter wi)(hg:PG X tg g)(hb:PSs X body tb)
  (hs:∀x,Aa iter X.env x=pure x:=by intro _;rfl):PS X (.For tg iter body [] pos) (tFor wi g tb):=by
 intro pins s σ H D I h;refine wpAny_For (thn (hi pins s σ H _ I h) λv s1 h1=>thn h1 λitv s2 h2=> ?_) hs;obtain⟨it,fp,tn,J,H2,e,I2,T,st2,f2,W,⟨m0,w0⟩,turn⟩:=h2;subst e
 have stat:∀ {H':Hp},(∀b∈fp,H' b=none)->∀b∈fp,qR X pins H' b:=λhn b hb=>⟨hn b hb,(f2 b hb).2⟩
 refine codeAny_forLoop_any (λn s'=>∃i σ' H',Inv X pins σ' H' s'/\tn i s'.heap/\(∀b∈fp,H' b=none)/\W i n σ' H') ?_ m0 ⟨0,σ,H2,I2,st2,λb hb=>(f2 b hb).1,w0⟩;rintro n s3 ⟨i,σ3,H3,I3,st3,fr3,w3⟩
 rcases turn i n σ3 H3 w3 with⟨stop,qn⟩|⟨go,N,hN,step⟩
 ·refine Aj hp<|thn (T.done X rfl rfl rfl hc i pins s3 σ3 H3 X.xe I3 (stat fr3) st3 stop) λr s4 ⟨hr,I4⟩=> ?_;subst hr;exact wpAny_execs_nil ⟨σ3,H3,I4,qn⟩
 ·refine Aj hp<|thn (T.item X rfl rfl rfl hc i pins s3 σ3 H3 X.xe I3 (stat fr3) st3 go) λr s4 ⟨u,hr,h4⟩=> ?_;subst hr;refine Aj hp<|thn h4 λ_ s5 ⟨x,H5,I5,r5,y5,st5,fr5⟩=> ?_;have I5':=I5.pinned (stat fr5)<|T.obj _ _ st5;refine Aj hp<|thn (hg _ s5 σ3 H5 x u _ I5' r5<|step x H5 y5) λ_ s6 ⟨σ6,H6,I6,q6⟩=> ?_;refine Aj hp (thn (hb _ s6 σ6 H6 _ I6 q6) λf s7 q7=> ?_)
  have again:∀ {σ7:St}{H7:Hp},Inv X (pins++kF fp s5.heap) σ7 H7 s7->N σ7 H7->∃m,m<n/\∃i σ' H',Inv X pins σ' H' s7/\tn i s7.heap/\(∀b∈fp,H' b=none)/\W i m σ' H':=λ{σ7 H7} I7 n7=>by obtain⟨m',hm,w7⟩:=hN σ7 H7 n7;refine⟨m',hm,i+1,σ7,H7,I7.unpinned,T.keep _ _ _ st5 λb hb o e=>(I7.pin (b,o)<|aN _ (aN _<|gL hb e)).1,λb hb=> ?_,w7⟩;obtain⟨o,e,d⟩:=T.obj _ _ st5 b hb;exact(I7.pin (b,o)<|aN _ (aN _<|gL hb e)).2.1
  cases f with
  |next=>obtain⟨σ7,H7,I7,n7⟩:=q7;exact again I7 n7
  |cont=>obtain⟨σ7,H7,I7,n7⟩:=q7;exact again I7 n7
  |brk=>obtain⟨σ7,H7,I7,q7⟩:=q7;exact⟨σ7,H7,I7.unpinned,q7⟩
  |ret v=>obtain⟨x7,σ7,H7,I7,r7,q7⟩:=q7;exact⟨x7,σ7,H7,I7.unpinned,r7,q7⟩
noncomputable abbrev R2:=V->V->Hp->VK->Prop
def OpR(X:Cx)(f:BA->BA->Sem BA)(r:R2):Prop:=
 ∀ (pins:List (BC×BF)) (s:AA) (σ:St) (H:Hp) (x y:V) (v u:BA) (Q:VK),Inv X pins σ H s->RelV x v->RelV y u->r x y H Q->
  AE (AF X.prog X.w) X.A (f v u) (EP X pins σ Q) X.xe s
def UnR(X:Cx)(f:BA->Sem BA)(r:V->Hp->VK->Prop):Prop:=
 ∀ (pins:List (BC×BF)) (s:AA) (σ:St) (H:Hp) (x:V) (v:BA) (Q:VK),Inv X pins σ H s->RelV x v->r x H Q->
  AE (AF X.prog X.w) X.A (f v) (EP X pins σ Q) X.xe s
def jO(X:Cx)(f:BA)(r:List V->Hp->VK->Prop):Prop:=
 ∀ (pins:List (BC×BF)) (s:AA) (σ:St) (H:Hp) (xs:List V) (us:List BA) (Q:VK),Inv X pins σ H s->Vals xs us->r xs H Q->
  AE (AF X.prog X.w) X.A (call f us) (EP X pins σ Q) X.xe s
def TruR(X:Cx)(r:V->Hp->(Bool->Hp->Prop)->Prop):Prop:=
 ∀ (pins:List (BC×BF)) (s:AA) (σ:St) (H:Hp) (x:V) (v:BA) (Q:Bool->Hp->Prop),Inv X pins σ H s->RelV x v->r x H Q->
  AE (AF X.prog X.w) X.A (truthy v) (TP X pins σ Q) X.xe s
noncomputable def tOp(r:R2)(ta tb:TE):TE:=λσ H Q=>ta σ H λx H1=>tb σ H1 λy H2=>r x y H2 Q
noncomputable def tUn(r:V->Hp->VK->Prop)(ta:TE):TE:=λσ H Q=>ta σ H λx H1=>r x H1 Q
noncomputable def rI(C:Int->Int->Prop)(g:Int->Int->V):R2:=λx y H Q=>∃i j,x=.int i/\y=.int j/\C i j/\Q (g i j) H
noncomputable def rI0(g:Int->Int->V):R2:=λx y H Q=>∃i j,x=.int i/\y=.int j/\Q (g i j) H
def rU(g:Int->V):V->Hp->VK->Prop:=λx H Q=>∃i,x=.int i/\Q (g i) H
variable {a c:Expr}{tc:TE}
theorem aId(ha:PE X a ta)(hb:PE X b tb){R:V->V->Hp->Prop}(I:Inv X pins σ H s)
  (h:ta σ H λx H1=>tb σ H1 λy H2=>R x y H2) {Q:BA->AA->Prop}{f:BA->BA->Sem BA}
  (hf:∀v u s2 x y H2,Inv X pins σ H2 s2->RelV x v->RelV y u->R x y H2->AE (AF X.prog X.w) X.A (f v u) Q X.xe s2):
  AE (AF X.prog X.w) X.A (eval a X.env) (λv s₁=>AE (AF X.prog X.w) X.A (eval b X.env) (λu s₂=>AE (AF X.prog X.w) X.A (f v u) Q X.xe s₂) X.xe s₁) X.xe s:=by
 refine thn (ha pins s σ H _ I h) λv s1 ⟨x,H1,I1,r1,q1⟩=> ?_
 refine thn (hb pins s1 σ H1 _ I1 q1) λu s2 ⟨y,H2,I2,r2,q2⟩=> ?_
 exact hf v u s2 x y H2 I2 r1 r2 q2
theorem aIr{op:Operator}{r:R2}(ho:OpR X (AU op) r)(ha:PE X a ta)(hb:PE X b tb):PE X (.BinOp a op b pos) (tOp r ta tb):=by intro pins s σ H Q I h;exact wpAny_BinOp<|aId ha hb I h λv u s2 x y H2 I2 rx ry q=>ho pins s2 σ H2 x y v u Q I2 rx ry q
theorem aIW{op:UnaryOp}{r:V->Hp->VK->Prop}(ho:UnR X (unaryOp op) r)(ha:PE X a ta):PE X (.UnaryOp op a pos) (tUn r ta):=by intro pins s σ H Q I h;exact UnaryOp_<|thn (ha pins s σ H _ I h) λv s1 ⟨x,H1,I1,r1,q1⟩=>ho pins s1 σ H1 x v Q I1 r1 q1
theorem opI{f:BA->BA->Sem BA}{C:Int->Int->Prop}{g:Int->Int->Int}
  (rule:∀ (i j:Int) (t u:Tok) (s:AA) (Q:BA->AA->Prop) (E:BA->AA->Prop),C i j->Q (.int (g i j) s.toks) {s with toks:=s.toks+1}->AE (AF X.prog X.w) X.A (f (.int i t)<|.int j u) Q E s):
  OpR X f (rI C λi j=>.int<|g i j):=by
 intro pins s σ H x y v u Q I rx ry h;obtain⟨i,j,rfl,rfl,hc,q⟩:=h;obtain⟨t,rfl⟩:=rx;obtain⟨t',rfl⟩:=ry;exact rule i j t t' s _ _ hc ⟨.int<|g i j,H,I.tok _,⟨_,rfl⟩,q⟩
theorem aGe{f:BA->BA->Sem BA}{g:Int->Int->Int}
  (rule:∀ (i j:Int) (t u:Tok) (s:AA) (Q:BA->AA->Prop) (E:BA->AA->Prop),Q (.int (g i j) s.toks) {s with toks:=s.toks+1}->AE (AF X.prog X.w) X.A (f (.int i t)<|.int j u) Q E s):
  OpR X f (rI0 λi j=>.int<|g i j):=by
 intro pins s σ H x y v u Q I rx ry h;obtain⟨i,j,rfl,rfl,q⟩:=h;obtain⟨t,rfl⟩:=rx;obtain⟨t',rfl⟩:=ry;exact rule i j t t' s _ _ ⟨.int<|g i j,H,I.tok _,⟨_,rfl⟩,q⟩
theorem aHM{f:BA->BA->Sem BA}{g:Int->Int->Bool}
  (rule:∀ (i j:Int) (t u:Tok) (s:AA) (Q:BA->AA->Prop) (E:BA->AA->Prop),Q (.bool<|g i j) s->AE (AF X.prog X.w) X.A (f (.int i t)<|.int j u) Q E s):
  OpR X f (rI0 λi j=>.bl<|g i j):=by
 intro pins s σ H x y v u Q I rx ry h;obtain⟨i,j,rfl,rfl,q⟩:=h;obtain⟨t,rfl⟩:=rx;obtain⟨t',rfl⟩:=ry;exact rule i j t t' s _ _ ⟨.bl<|g i j,H,I,rfl,q⟩
def CDiv(i j:Int):Prop:=0<j/\j<1073741824
def CPow(i j:Int):Prop:=0<=j/\j<=1000000/\i.natAbs<2^64
theorem cW:OpR X (AU .Add) (rI0 λi j=>.int<|i+j):=aGe λ_ _ _ _ _ _ _ q=>add_int q
theorem iT:OpR X (AU .Sub) (rI0 λi j=>.int<|i-j):=aGe λ_ _ _ _ _ _ _ q=>sub_int q
theorem pD:OpR X (AU .FloorDiv) (rI CDiv λi j=>.int<|i / j):=opI λi j _ _ _ _ _ hc q=>by have h1:(0:Int)<j:=hc.1;have h2:j<1073741824:=hc.2;exact floordiv_int (by omega) (by rw[vF i<|by omega];exact q)<|.inl (PyProof.noPylong_small<|by omega)
theorem cJ:OpR X (AU .Mod) (rI (λ_ j=>0<j) λi j=>.int<|i%j):=opI λi j _ _ _ _ _ hc q=>by have h1:(0:Int)<j:=hc;exact mod_int' (by omega) (by rw[Int.fmod_eq_emod_of_nonneg i<|by omega];exact q)
theorem tT:OpR X (AU .Pow) (rI CPow λi j=>.int<|i^j.toNat):=opI λ_ _ _ _ _ _ _ hc q=>pow_int_small hc.1 hc.2.1 hc.2.2 q
theorem aHo:OpR X (AU .BitAnd) (rI0 λi j=>.int<|Builtin.bitAnd i j):=aGe λ_ _ _ _ _ _ _ q=>and_int q
theorem aIv:OpR X (AU .BitOr) (rI0 λi j=>.int<|Builtin.bitOr i j):=aGe λ_ _ _ _ _ _ _ q=>or_int q
theorem aHp:OpR X (AU .BitXor) (rI0 λi j=>.int<|Builtin.bitXor i j):=aGe λ_ _ _ _ _ _ _ q=>xor_int q
theorem unI{f:BA->Sem BA}{g:Int->Int}
  (rule:∀ (i:Int) (t:Tok) (s:AA) (Q:BA->AA->Prop) (E:BA->AA->Prop),Q (.int (g i) s.toks) {s with toks:=s.toks+1}->AE (AF X.prog X.w) X.A (f<|.int i t) Q E s):
  UnR X f (rU λi=>.int<|g i):=by
 intro pins s σ H x v Q I rx h;obtain⟨i,rfl,q⟩:=h;obtain⟨t,rfl⟩:=rx;exact rule i t s _ _ ⟨.int<|g i,H,I.tok _,⟨_,rfl⟩,q⟩
theorem aGU:UnR X (unaryOp .USub) (rU λi=>.int (-i)):=unI λ_ _ _ _ _ q=>neg_int q
noncomputable def aHJ:V->V->Bool
 |.non,.non=>true | .non,.int _=>true | .int _,.non=>true | .non,.bl _=>true | .bl _,.non=>true | .non,.str _=>true | .str _,.non=>true
 |.int _,.int _=>true | .bl _,.bl _=>true | .str _,.str _=>true | .byt _,.byt _=>true
 |.int _,.str _=>true | .str _,.int _=>true | .bl _,.str _=>true | .str _,.bl _=>true
 |_,_=>false
noncomputable def rEq:R2:=λx y H Q=>aHJ x y=true/\Q (.bl (decide<|x=y)) H
noncomputable def rNe:R2:=λx y H Q=>aHJ x y=true/\Q (.bl<|!decide (x=y)) H
theorem oV{i j:Int}:decide (V.int i=V.int j)=(i==j):=by rw[fD];simp
theorem aDt{i j:Bool}:decide (V.bl i=V.bl j)=(i==j):=by rw[fD];simp
theorem aAs{i j:Str}:decide (V.str i=V.str j)=(i==j):=by rw[fD];simp
theorem aAG{i j:Array UInt8}:decide (V.byt i=V.byt j)=(i.toList==j.toList):=by rw[fD];cases i;cases j;simp
theorem cZ{Q:VK}{k k':Bool}(I:Inv X pins σ H s)(q:Q (.bl k) H)(e:k=k'):EP X pins σ Q (.bool k') s:=by subst e;exact⟨.bl k,H,I,rfl,q⟩
theorem aIH:OpR X (AM .Eq) rEq:=by
 intro pins s σ H x y v u Q I rx ry h;obtain⟨hs,q⟩:=h;cases x with
 |non=>
  cases rx;cases y with
  |non=>cases ry;exact PySem.EqNone.eq_none_none (cZ I q<|by simp)
  |bl j=>cases ry;exact PySem.EqNone.eq_none_bool (cZ I q<|by simp)
  |int j=>obtain⟨t',rfl⟩:=ry;exact PySem.EqNone.eq_none_int (cZ I q<|by simp)
  |str j=>obtain⟨t',rfl⟩:=ry;exact PySem.EqNone.eq_none_str (cZ I q<|by simp)
  |_=>exact absurd (show false=true from hs) aU
 |bl i=>
  cases rx;cases y with
  |non=>cases ry;exact PySem.EqNone.eq_bool_none (cZ I q<|by simp)
  |bl j=>cases ry;exact eq_bool<|cZ I q aDt
  |str j=>obtain⟨t',rfl⟩:=ry;exact PySem.EqMixed.eq_bool_str (cZ I q<|by simp)
  |_=>exact absurd (show false=true from hs) aU
 |int i=>
  obtain⟨t,rfl⟩:=rx;cases y with
  |non=>cases ry;exact PySem.EqNone.eq_int_none (cZ I q<|by simp)
  |int j=>obtain⟨t',rfl⟩:=ry;exact eq_int<|cZ I q oV
  |str j=>obtain⟨t',rfl⟩:=ry;exact PySem.EqMixed.eq_int_str (cZ I q<|by simp)
  |_=>exact absurd (show false=true from hs) aU
 |str i=>
  obtain⟨t,rfl⟩:=rx;cases y with
  |non=>cases ry;exact PySem.EqNone.eq_str_none (cZ I q<|by simp)
  |bl j=>cases ry;exact PySem.EqMixed.eq_str_bool (cZ I q<|by simp)
  |int j=>obtain⟨t',rfl⟩:=ry;exact PySem.EqMixed.eq_str_int (cZ I q<|by simp)
  |str j=>obtain⟨t',rfl⟩:=ry;exact eq_str<|cZ I q aAs
  |_=>exact absurd (show false=true from hs) aU
 |byt i=>
  obtain⟨t,rfl⟩:=rx;cases y with
  |byt j=>obtain⟨t',rfl⟩:=ry;exact PySem.W.eq_bytes<|cZ I q aAG
  |_=>exact absurd (show false=true from hs) aU
 |_=>cases y<;>exact absurd (show false=true from hs) aU
theorem aIR:OpR X (AM .NotEq) rNe:=by
 intro pins s σ H x y v u Q I rx ry h;obtain⟨hs,q⟩:=h;cases x with
 |non=>
  cases rx;cases y with
  |non=>cases ry;exact PySem.EqNone.ne_none_none (cZ I q<|by simp)
  |bl j=>cases ry;exact PySem.EqNone.ne_none_bool (cZ I q<|by simp)
  |int j=>obtain⟨t',rfl⟩:=ry;exact PySem.EqNone.ne_none_int (cZ I q<|by simp)
  |str j=>obtain⟨t',rfl⟩:=ry;exact PySem.EqNone.ne_none_str (cZ I q<|by simp)
  |_=>exact absurd (show false=true from hs) aU
 |bl i=>
  cases rx;cases y with
  |non=>cases ry;exact PySem.EqNone.ne_bool_none (cZ I q<|by simp)
  |bl j=>cases ry;exact ne_bool (cZ I q<|congrArg not aDt)
  |str j=>obtain⟨t',rfl⟩:=ry;exact PySem.EqMixed.ne_bool_str (cZ I q<|by simp)
  |_=>exact absurd (show false=true from hs) aU
 |int i=>
  obtain⟨t,rfl⟩:=rx;cases y with
  |non=>cases ry;exact PySem.EqNone.ne_int_none (cZ I q<|by simp)
  |int j=>obtain⟨t',rfl⟩:=ry;exact ne_int (cZ I q<|congrArg not oV)
  |str j=>obtain⟨t',rfl⟩:=ry;exact PySem.EqMixed.ne_int_str (cZ I q<|by simp)
  |_=>exact absurd (show false=true from hs) aU
 |str i=>
  obtain⟨t,rfl⟩:=rx;cases y with
  |non=>cases ry;exact PySem.EqNone.ne_str_none (cZ I q<|by simp)
  |bl j=>cases ry;exact PySem.EqMixed.ne_str_bool (cZ I q<|by simp)
  |int j=>obtain⟨t',rfl⟩:=ry;exact PySem.EqMixed.ne_str_int (cZ I q<|by simp)
  |str j=>obtain⟨t',rfl⟩:=ry;exact ne_str (cZ I q<|congrArg not aAs)
  |_=>exact absurd (show false=true from hs) aU
 |byt i=>
  obtain⟨t,rfl⟩:=rx;cases y with
  |byt j=>obtain⟨t',rfl⟩:=ry;exact PySem.W.ne_bytes (cZ I q<|congrArg not aAG)
  |_=>exact absurd (show false=true from hs) aU
 |_=>cases y<;>exact absurd (show false=true from hs) aU
theorem pT:OpR X (AM .Lt) (rI0 λi j=>.bl (decide<|i<j)):=aHM λ_ _ _ _ _ _ _ q=>lt_int q
theorem aGj:OpR X (AM .LtE) (rI0 λi j=>.bl (decide<|i<=j)):=aHM λ_ _ _ _ _ _ _ q=>le_int q
theorem aEq:OpR X (AM .Gt) (rI0 λi j=>.bl (decide<|j<i)):=aHM λ_ _ _ _ _ _ _ q=>gt_int q
theorem aBP:OpR X (AM .GtE) (rI0 λi j=>.bl (decide<|j<=i)):=aHM λ_ _ _ _ _ _ _ q=>ge_int q
theorem aDu:OpR X (AM .Is) (λx y H Q=>y=.non/\Q (.bl (decide<|x=.non)) H):=by
 intro pins s σ H x y v u Q I rx ry h;obtain⟨rfl,q⟩:=h;cases ry;refine is_none_gen<|cZ I q ?_
 cases x<;>first
  |(cases rx;rfl)
  |(obtain⟨t,rfl⟩:=rx;rfl)
theorem aEQ:OpR X (AM .IsNot) (λx y H Q=>y=.non/\Q (.bl<|!decide (x=.non)) H):=by
 intro pins s σ H x y v u Q I rx ry h;obtain⟨rfl,q⟩:=h;cases ry;refine isnot_none_gen<|cZ I q ?_
 cases x<;>first
  |(cases rx;rfl)
  |(obtain⟨t,rfl⟩:=rx;rfl)
theorem OpR.or{f:BA->BA->Sem BA}{r r':R2}(h:OpR X f r)(h':OpR X f r'):OpR X f (λx y H Q=>r x y H Q\/r' x y H Q):=by
 intro pins s σ H x y v u Q I rx ry q
 rcases q with q|q
 ·exact h pins s σ H x y v u Q I rx ry q
 ·exact h' pins s σ H x y v u Q I rx ry q
theorem eD(b:Expr){op:CmpOp}(h:op≠ .In:=by decide)(h2:op≠ .NotIn:=by decide):AR op b=false:=by
 have e1:(op==CmpOp.In)=false:=by cases op<;>first|rfl|exact absurd rfl h
 have e2:(op==CmpOp.NotIn)=false:=by cases op<;>first|rfl|exact absurd rfl h2
 cases b<;>simp[AR,e1,e2]
theorem aFr{op:CmpOp}{r:R2}(ho:OpR X (AM op) r)(ha:PE X a ta)(hb:PE X b tb)(hm:AR op b=false):PE X (.Compare a [op] [b] pos) (tOp r ta tb):=by intro pins s σ H Q I h;exact wpAny_Compare1 (aId ha hb I h λv u s2 x y H2 I2 rx ry q=>ho pins s2 σ H2 x y v u Q I2 rx ry q) hm
noncomputable def aIJ(t:TE):TT:=λσ H Q=>t σ H λx H'=>∃k,x=.bl k/\Q k H'
theorem aAH{op:CmpOp}{r:R2}(ho:OpR X (AM op) r)(ha:PE X a ta)(hb:PE X b tb)(hm:AR op b=false):PT X (.Compare a [op] [b] pos) (aIJ<|tOp r ta tb):=by
 intro pins s σ H Q I h
 refine wpAny_isTrue_Compare1 (thn (ha pins s σ H _ I h) λv s1 ⟨x,H1,I1,r1,q1⟩=>thn (hb pins s1 σ H1 _ I1 q1) λu s2 ⟨y,H2,I2,r2,q2⟩=>thn (ho pins s2 σ H2 x y v u _ I2 r1 r2 q2) λc s3 ⟨z,H3,I3,r3,k,e,q3⟩=> ?_) hm
 subst e;cases r3;exact AY ⟨H3,I3,q3⟩
noncomputable def aGS(r r':R2)(ta tb tc:TE):TE:=λσ H Q=>ta σ H λx H1=>tb σ H1 λy H2=>r x y H2 λz H3=>∃k,z=.bl k/\
 (if k=true then tc σ H3 λw' H4=>r' y w' H4 Q else Q (.bl false) H3)
theorem aCa{op op':CmpOp}{r r':R2}(ho:OpR X (AM op) r)(ho':OpR X (AM op') r')(ha:PE X a ta)(hb:PE X b tb)(hc:PE X c tc)
  (hm:lastMarks [op,op'] [b,c]=false:=by with_unfolding_all rfl):PE X (.Compare a [op,op'] [b,c] pos) (aGS r r' ta tb tc):=by
 intro pins s σ H Q I h
 refine Compare_chain (thn (ha pins s σ H _ I h) λv s1 ⟨x,H1,I1,r1,q1⟩=>chain_link<|thn (hb pins s1 σ H1 _ I1 q1) λu s2 ⟨y,H2,I2,r2,q2⟩=>thn (ho pins s2 σ H2 x y v u _ I2 r1 r2 q2) λd s3 ⟨z,H3,I3,r3,k,e,q3⟩=> ?_) hm
 subst e;cases r3;refine AY ?_;cases k with
 |false=>exact ite_ff ⟨.bl false,H3,I3,rfl,q3⟩
 |true=>exact ite_tt (chain_last<|thn (hc pins s3 σ H3 _ I3 q3) λw' s4 ⟨z',H4,I4,r4,q4⟩=>ho' pins s4 σ H4 y z' u w' Q I4 r2 r4 q4)
def TruV(K:aB)(x:V)(H:Hp)(k:Bool):Prop:=
 match x with
 |.non=>k=false
 |.bl b=>k=b
 |.int i=>k=(i !=0)
 |.str y=>y.length<=AH/\k=((y.length:Int) !=0)
 |.byt y=>y.size<=AH/\k=((y.size:Int) !=0)
 |.ref p=>(∃xs,SqL K H p xs/\k= !xs.isEmpty)\/(∃xs,SqT K H p xs/\k= !xs.isEmpty)\/∃kvs,H p=some (.dK kvs)/\k= !kvs.isEmpty
 |_=>False
theorem zA{κ:Type}{kvs:List (κ×V)}{vs:List (κ×BA)}(r:KV kvs vs):(!vs.isEmpty)= !kvs.isEmpty:=by cases r<;>rfl
theorem qC{its:List BA}(r:Vals xs its):(!its.toArray.isEmpty)= !xs.isEmpty:=by cases r<;>simp
theorem rB:(AH:Nat)<2^63:=by rw[Ab];decide
theorem aHh:TruR X (λx H Q=>∃k,TruV X.K x H k/\Q k H):=by
 intro pins s σ H x v Q I rx h;obtain⟨k,e,q⟩:=h;have hl:=rB;have hs:AH=16777216:=Ab;cases x with
 |non=>cases rx;have e':k=false:=e;subst e';exact truthy_none ⟨H,I,q⟩
 |bl b=>cases rx;have e':k=b:=e;subst e';exact AY ⟨H,I,q⟩
 |int i=>obtain⟨t,rfl⟩:=rx;have e':k=(i !=0):=e;subst e';exact PySem.P.truthy_int ⟨H,I,q⟩
 |str y=>obtain⟨t,rfl⟩:=rx;obtain⟨hy,e'⟩:y.length<=AH/\k=((y.length:Int) !=0):=e;subst e';exact PySem.P.truthy_str (by omega) ⟨H,I.tok _,q⟩
 |byt y=>obtain⟨t,rfl⟩:=rx;obtain⟨hy,e'⟩:y.size<=AH/\k=((y.size:Int) !=0):=e;subst e';exact PySem.W.truthy_bytes (by omega) ⟨H,I.tok _,q⟩
 |ref p=>
  cases rx;have e':(∃xs,SqL X.K H p xs/\k= !xs.isEmpty)\/(∃xs,SqT X.K H p xs/\k= !xs.isEmpty)\/∃kvs,H p=some (.dK kvs)/\k= !kvs.isEmpty:=e
  rcases e' with⟨xs,hx,e'⟩|⟨xs,hx,e'⟩|⟨kvs,hx,e'⟩
  ·subst e';obtain⟨its,r,pl,hz⟩:=I.list hx;have hlen:=r.length;exact wpAny_truthy_list pl.isList (by simp only[aG];omega) ⟨H,I.tok _,by rw[qC r];exact q⟩
  ·subst e';obtain⟨its,r,pl,hz⟩:=I.tuple hx;have hlen:=r.length;exact truthy_tuple pl (by simp only[aG];omega) ⟨H,I.tok _,by rw[qC r];exact q⟩
  ·subst e';obtain⟨hz,hS,vs,r,m⟩:kvs.length<=AH/\(p==Af)=false/\∃vs,KV kvs vs/\s.heap.DictOf (eX X.prog X.w) p vs:=I.hok p _ hx;have hlen:kvs.length=vs.length:=Paired.length r;exact wpAny_truthy_dict hS m (by omega) ⟨H,I.tok _,by rw[zA r];exact q⟩
 |_=>exact(show False from e).elim
theorem sZ{x:V}{us:List BA}(r:Vals [x] us):∃u,us=[u]/\RelV x u:=by
 cases r with
 |cons r1 r2=>cases r2;exact⟨_,rfl,r1⟩
theorem xQ{x y:V}{us:List BA}(r:Vals [x,y] us):∃u w',us=[u,w']/\RelV x u/\RelV y w':=by
 cases r with
 |cons r1 r2=>
  cases r2 with
  |cons r3 r4=>cases r4;exact⟨_,_,rfl,r1,r3⟩
theorem aBn(hc:X.calm=true):jO X (.builtin "max") (λxs H Q=>∃i j,xs=[.int i,.int j]/\Q (.int (if j>i then j else i)) H):=by
 intro pins s σ H xs us Q I r h;obtain⟨i,j,rfl,q⟩:=h;obtain⟨u,w',rfl,⟨t,rfl⟩,⟨t',rfl⟩⟩:=xQ r;refine max_two_ints (I.ok.hd hc) λh' tk k=>⟨_,H,I.kept k, ?_,q⟩
 by_cases hj:j>i
 ·rw[if_pos hj,if_pos hj];exact⟨_,rfl⟩
 ·rw[if_neg hj,if_neg hj];exact⟨_,rfl⟩
theorem aBB(hc:X.calm=true):jO X (.builtin "min") (λxs H Q=>∃i j,xs=[.int i,.int j]/\Q (.int (if j<i then j else i)) H):=by
 intro pins s σ H xs us Q I r h;obtain⟨i,j,rfl,q⟩:=h;obtain⟨u,w',rfl,⟨t,rfl⟩,⟨t',rfl⟩⟩:=xQ r;refine min_two_ints (I.ok.hd hc) λh' tk k=>⟨_,H,I.kept k, ?_,q⟩
 by_cases hj:j<i
 ·rw[if_pos hj,if_pos hj];exact⟨_,rfl⟩
 ·rw[if_neg hj,if_neg hj];exact⟨_,rfl⟩
structure ObjM(h:BE)(x dx C:BC)(mA:Str->Option BA):Prop where
 obj:h.get? x=some (oS C dx)
 ns:h.Ns1 dx mA
 ne:dx≠x
theorem sM{dx:BC}{mA:Str->Option BA}(n:h.Ns1 dx mA):∃od,h.get? dx=some od/\∀name,rH name od=some (mA name):=by
 obtain⟨o,es,ep,ho,hd,hk,_,hm⟩:=n;refine⟨o,ho,λname=> ?_⟩;have e:=hm name;unfold nsFind findBy at e;rw[<-aBK] at e;unfold rH;rw[hd];dsimp only
 split
 ·rename_i y q;rw[q] at e;exact congrArg some e
 ·rename_i q;rw[q] at e
  have a:es.toList.any (·.refKey)=false:=by rw[List.any_eq_false];intro y hy;obtain⟨z,t,hkey⟩:=hk y<|Array.mem_toList_iff.mp hy;simp[DictEntry.refKey,hkey]
  have a':¬ es.toList.any (·.refKey)=true:=by rw[a];exact aU
  rw[if_neg a'];exact congrArg some e
theorem ObjM.look{dx C:BC}{mA:Str->Option BA}(I:ObjM h x dx C mA):∃od,PySem.W.InstAt h x (oS C dx) C (some od)/\∀name,rH name od=some (mA name):=
 let ⟨od,ho,hl⟩:=sM I.ns
 ⟨od,⟨I.obj,rfl,rfl,ho⟩,hl⟩
theorem RelO.some_of{v:V}{o:Option BA}(r:RelO (some v) o):∃u,o=some u/\RelV v u:=by
 cases o with
 |none=>exact(show False from r).elim
 |some u=>exact⟨u,rfl,r⟩
variable {a C dx:BC}{fs fs':List (Str×V)}
theorem aFo(hok:HOk P w H h)(e:H a=some (.ins C dx fs)):∃mA,ObjM h a dx C mA/\(∀f,RelO (fs.lookup f)<|mA f)/\PySem.Within mA (fs.map (·.1))/\fs.length<=1000/\H dx=some (.own a):=by obtain⟨d,z,ne,ob,mA,n,r,q⟩:=(show ObjOk P w H h a (.ins C dx fs) from hok a _ e);exact⟨mA,⟨ob,n,ne⟩,r,q,z,d⟩
structure Cls(K:aB)(C:BC):Prop where
 pg:aBM K C Str.empty=true
 hd:nN K C=true
 po:PySem.W.plainOver K C=true
 sa:cN K (.ref C) "__setattr__"=some (some<|.builtin "object.__setattr__")
theorem Cls.get{K:aB}(c:Cls K C)(f:Str):aBM K C f=true:=c.pg
def aJF(K:aB)(C:BC)(f:Str):Prop:=cN K (.ref C) f=some none
structure Con(K:aB)(C:BC)(f:Str)(v:V)(u:BA):Prop where
 at_:cN K (.ref C) f=some (some u)
 rel:RelV v u
 get:jI K u "__get__"=some none
 cp:PySem.W.copiedNames.contains f=false
structure Meth(K:aB)(C:BC)(m:Str)(f:BC):Prop where
 at_:cN K (.ref C) m=some (some<|.ref f)
 fn:aGc K (.ref f)=true
 kp:bZ K (.ref f)=true
variable {f:Str}{v:V}{A:BD}
theorem aAC{prog:AG}{env:Env}{Q:BA->AA->Prop}(hb:Ai e f env (eval e env)=eval e env)
  (h:AE (AF prog w) A (eval e env) (λo s₁=>AE (AF prog w) A (getAttr o f true) Q E s₁) E s):AE (AF prog w) A (eval (.Attribute e f pos) env) Q E s:=
 Attribute_any_ h (by rw[arm_eval_Attribute,hb])
variable {Q:BA->AA->Prop}{c:BA}{b:Bool}
inductive nF(K:aB)(H:Hp):V->BA->Prop where
 |non:nF K H .non (.type "NoneType")
 |bl (x:Bool):nF K H (.bl x) (.type "bool")
 |int (i:Int):nF K H (.int i) (.type "int")
 |str (x:Str):nF K H (.str x) (.type "str")
 |flt (x:UInt64):nF K H (.flt x) (.type "float")
 |lst {a:BC}{xs:List V} (e:H a=some (.lst xs)):nF K H (.ref a) (.type "list")
 |frz {a:BC}{o:BF}{xs:List V} (e:H a=some (.frz o<|.lst xs)):nF K H (.ref a) (.type "list")
 |tup {a:BC}{xs:List V} (e:H a=some (.tup xs)):nF K H (.ref a) (.type "tuple")
 |dK {a:BC}{kvs:List (Key×V)} (e:Rd H a (.dK kvs)):nF K H (.ref a) (.type "dict")
 |dT {a:BC}{kvs:List (List Key×V)} (e:H a=some (.dT kvs)):nF K H (.ref a) (.type "dict")
 |ins {a C dx:BC}{fs:List (Str×V)} (e:H a=some (.ins C dx fs)) (cl:Cls K C) (ha:cN K (.ref C) "__class__"=some (some<|.builtin "object.__class__"))
   (hn:jI K (.builtin "object.__class__") "__get__"=some (some<|.builtin "getset_descriptor.__get__")) (htk:PySem.W.takesIn K (.builtin "object.__class__")=some true)
   (hm:aFO K C (.type "object")=some true):nF K H (.ref a) (.ref C)
theorem aBo{x:V}{u t:BA}(I:Inv X pins σ H s)(rx:RelV x u)(ty:nF X.K H x t)(e:bO X.K t c=some b)(h:∀tk,Q (.bool b) {s with toks:=tk}):
  AE (AF X.prog X.w) A (call (.builtin "isinstance") [u,c]) Q E s:=by
 cases ty with
 |non=>cases(show u=Value.none from rx);exact cX PySem.W.kitx_none I.kIn True.intro e (λz=>nomatch z) h
 |bl y=>cases(show u=Value.bool y from rx);exact cX PySem.W.kitx_bool I.kIn True.intro e (λz=>nomatch z) h
 |int i=>obtain⟨t,q⟩:=(show ∃t,u=Value.int i t from rx);cases q;exact cX PySem.W.kitx_int I.kIn True.intro e (λz=>nomatch z) h
 |str y=>obtain⟨t,q⟩:=(show ∃t,u=Value.str y t from rx);cases q;exact cX PySem.W.kitx_str I.kIn True.intro e (λz=>nomatch z) h
 |flt y=>obtain⟨t,q⟩:=(show ∃t,u=Value.float y t from rx);cases q;exact cX PySem.W.kitx_float I.kIn True.intro e (λz=>nomatch z) h
 |@lst a xs ea=>cases(show u=Value.ref a from rx);obtain⟨_,_,n,_,h1⟩:=(show ObjOk X.prog X.w H s.heap a (.lst xs) from I.hok a _ ea);exact cX aBF I.kIn ⟨_,h1,rfl⟩ e (λz=>nomatch z) h
 |@frz a ob xs ea=>cases(show u=Value.ref a from rx);obtain⟨_,_,_,n,_,h1⟩:=(show ObjOk X.prog X.w H s.heap a (.frz ob<|.lst xs) from I.hok a _ ea);exact cX aBF I.kIn ⟨_,h1,rfl⟩ e (λz=>nomatch z) h
 |@tup a xs ea=>cases(show u=Value.ref a from rx);obtain⟨_,_,_,p⟩:=(show ObjOk X.prog X.w H s.heap a (.tup xs) from I.hok a _ ea);obtain⟨o,h1,h2,_⟩:=p;exact cX PySem.W.kitx_tuple I.kIn ⟨o,h1,h2⟩ e (λz=>nomatch z) h
 |@dK a kvs ea=>cases(show u=Value.ref a from rx);obtain⟨_,_,vs,_,p⟩:=(show ObjOk X.prog X.w H s.heap a (.dK kvs) from ea.ok I.hok);obtain⟨o,es,ep,h1,h2,_⟩:=p;exact cX aBG I.kIn ⟨o,h1,h2.1⟩ e (λz=>nomatch z) h
 |@dT a kvs ea=>cases(show u=Value.ref a from rx);obtain⟨_,_,xs,_,o,es,ep,h1,h2,_⟩:=(show ObjOk X.prog X.w H s.heap a (.dT kvs) from I.hok a _ ea);exact cX aBG I.kIn ⟨o,h1,h2.1⟩ e (λz=>nomatch z) h
 |@ins a C dx fs ea cl ha hn htk hm=>cases(show u=Value.ref a from rx);obtain⟨mA,O,_⟩:=aFo I.hok ea;obtain⟨od,J,_⟩:=O.look;exact cX (PySem.W.kitx_own (cl.get _) cl.hd ha hn htk hm) I.kIn J e (λz=>nomatch z) h
structure Room(k:Nat)(A:BD):Prop where
 hd:A.handled=none
 dp:A.depth+3*k+5<recursionLimit
 un:A.units+16*k+200<AX
 gd:A.guards=some []
theorem Room.mono{j k:Nat}(r:Room k A)(h:j<=k):Room j A:=⟨r.hd,by have:=r.dp;omega,by have:=r.un;omega,r.gd⟩
theorem Room.deeper{k:Nat}(r:Room (k+1) A)(env:Env):Room k (A.deeper env):=
 ⟨r.hd,by have:=r.dp;show A.depth+1+3*k+5<_;omega,by have:=r.un;show A.units+3+16*k+200<_;omega,r.gd⟩
theorem zK{us:List BA}{kw:List (Str×BA)}:(A.under<|.builtin "type.__call__" ⟨.ref C::us,kw⟩).depth=A.depth+1:=by first|rfl|simp[Around.under,Code.weight,Code.isCreation,Code.isGuard,Code.isCaller,Code.frames,Code.isFrame,guardIds]
theorem zQ{us:List BA}{kw:List (Str×BA)}:(A.under<|.builtin "type.__call__" ⟨.ref C::us,kw⟩).units=A.units+1:=by first|rfl|simp[Around.under,Code.cUnits,Code.frames,Code.isFrame]
theorem Room.make{k:Nat}(r:Room (k+1) A)(C:BC)(us:List BA)(kw:List (Str×BA)):Room k (A.under<|.builtin "type.__call__" ⟨.ref C::us,kw⟩):=
 ⟨r.hd,by have:=r.dp;rw[zK];omega,by have:=r.un;rw[zQ];omega,by rw[show(A.under<|.builtin "type.__call__" ⟨.ref C::us,kw⟩).guards=pushGuards (Code.builtin "type.__call__" ⟨.ref C::us,kw⟩).guards A.guards from rfl,r.gd];first|rfl|simp[Code.guards,Code.isGuard,guardIds,pushGuards]⟩
theorem Room.depth{k:Nat}(r:Room k A):A.depth<recursionLimit:=by have:=r.dp;omega
noncomputable def aIe:TA:=λ_ H Q=>Q [] H
noncomputable def aEl(ta:TE)(tr:TA):TA:=λσ H Q=>ta σ H λx H1=>tr σ H1 λxs H2=>Q (x::xs) H2
variable {es:List Expr}{t:TA}
theorem pa_nil:PA X [] aIe:=λ_ _ _ _ H Q I h=>Calls.spliced_nil ⟨[],H,I,.nil,h⟩
theorem gF(ha:PE X e te)(hr:PA X es t)(hs:AC (e::es) X.env=(false,eval e X.env)::AC es X.env:=by rfl):PA X (e::es) (aEl te t):=by intro pos pins s σ H Q I h;rw[hs];show AE _ _ (spliced ((false,eval e X.env)::AZ pos (AC es X.env))) _ _ s;refine Calls.spliced_cons<|thn (ha pins s σ H _ I h) λu s1 ⟨x,H1,I1,r1,q1⟩=> ?_;exact thn (hr pos pins s1 σ H1 _ I1 q1) λus s2 ⟨xs,H2,I2,r2,q2⟩=>⟨x::xs,H2,I2,.cons r1 r2,q2⟩
noncomputable def tTup(t:TA):TE:=λσ H Q=>t σ H λxs H1=>xs.length<=AH/\∀p,H1 p=none->Q (.ref p) (upd H1 p<|.tup xs)
noncomputable def tLst(t:TA):TE:=λσ H Q=>t σ H λxs H1=>xs.length<=AH/\∀p,H1 p=none->Q (.ref p) (upd H1 p<|.lst xs)
theorem aHx{x1}(h:PA X es t):PE X (.Tuple es x1 pos) (tTup t):=by intro pins s σ H Q I hq;refine wpAny_Tuple_spliced<|thn (h pos pins s σ H _ I hq) λus s1 ⟨xs,H1,I1,r,z,q⟩=>⟨by rw[<-r.length];exact z, ?_⟩;have hf:H1 s1.heap.objs.size=none:=I1.hok.fresh<|aR _;refine⟨.ref s1.heap.objs.size,upd H1 s1.heap.objs.size<|.tup xs,I1.laid (t':=s1.toks) (λb u e=>aH _ e) (aR _) ?_,rfl,q _ hf⟩;exact⟨z,us,r,IsTupD.new _ _⟩
theorem aHt(h:PA X es t):PE X (.List es pos) (tLst t):=by intro pins s σ H Q I hq;refine wpAny_List_spliced<|thn (h pos pins s σ H _ I hq) λus s1 ⟨xs,H1,I1,r,z,q⟩=>⟨by rw[<-r.length];exact z, ?_⟩;have hf:H1 s1.heap.objs.size=none:=I1.hok.fresh<|aR _;refine⟨.ref s1.heap.objs.size,upd H1 s1.heap.objs.size<|.lst xs,I1.laid (t':=s1.toks) (λb u e=>aH _ e) (aR _) ?_,rfl,q _ hf⟩;exact⟨z,us,0,r,bT _ rfl⟩
noncomputable abbrev Sp:=List V->Hp->VK->XK->Prop
noncomputable abbrev CXT:=List Env->Hp->AA->XK->BA->AA->Prop
structure Env0(P:AG)(w:AI)(K:aB)(mg:Str->Option BA)(base:BE)(A:BD)(outer:List Env)(s:AA)(H:Hp):Prop where
 frames:A.frames=some outer
 mod:Mod K mg base
 bs:∀b o,base.get? b=some o->s.heap.get? b=some o/\H b=none
 bsz:base.objs.size<=s.heap.objs.size
 funs:s.heap.FunFrames base outer
 frf:∀b∈frs outer,H b=none
 hok:HOk P w H s.heap
 bare:AllBare s.gens
def CE(outer:List Env)(P:AG)(w:AI)(H:Hp)(s:AA)(Q:VK)(u:BA)(s':AA):Prop:=
 ∃v H',s'.os=s.os/\AllBare s'.gens/\Un (frs outer) [] H H' s.heap s'.heap/\HOk P w H' s'.heap/\RelV v u/\Q v H'
def CR(CX:CXT)(outer:List Env)(P:AG)(w:AI)(H:Hp)(s:AA)(Q:VK)(E:XK)(r:Result)(s':AA):Prop:=
 match r with
 |.ok (.ret u)=>CE outer P w H s Q u s'
 |.ok _=>False
 |.error e=>CX outer H s E e s'
structure FnOk(P:AG)(w:AI)(K:aB)(mg:Str->Option BA)(base:BE)(CX:CXT)(k:Nat)(f:BC)(fd:AK)(ps:List Str)(sp:Sp):Prop where
 len:∀vs H Q E,sp vs H Q E->vs.length=ps.length
 run:∀ (A:BD) (outer:List Env) (s:AA) (H:Hp) (args:Args) (us:List BA) (vs:List V) (Q:VK) (E:XK),Room k A->Env0 P w K mg base A outer s H->BindsTo s fd args (ps.zip us)->Vals vs us->sp vs H Q E->
  codeAny (AF P w) A (.call (.ref f) args) (CR CX outer P w H s Q E) s
theorem Env0.make{K:aB}{mg:Str->Option BA}{base:BE}{outer:List Env}(e:Env0 P w K mg base A outer s H)(C:BC)(us:List BA)(kw:List (Str×BA)):
  Env0 P w K mg base (A.under<|.builtin "type.__call__" ⟨.ref C::us,kw⟩) outer s H:=⟨by first|exact e.frames|(simpa[Around.under,Code.envs,Code.isFrame,pushEnvs] using e.frames),e.mod,e.bs,e.bsz,e.funs,e.frf,e.hok,e.bare⟩
variable {s':AA}
theorem Inv.env0(I:Inv X pins σ H s):Env0 X.prog X.w X.K X.mg X.base X.A X.stack s H:=
 ⟨I.ok.frames,I.ok.mod,I.bs,bM I.ok.bsz I.sz,I.stack,I.stkFree,I.hok,I.bare⟩
theorem Inv.after{Q:VK}{u:BA}(I:Inv X pins σ H s)(h:CE X.stack X.prog X.w H s Q u s'):EP X pins σ Q u s':=by obtain⟨v,H',os,bare,un,hok,r,q⟩:=h;obtain⟨hh,g,d,t,os'⟩:=s';obtain rfl:os'=s.os:=os;exact⟨v,H',I.call (h':=hh) (g':=g) (d':=d) (t':=t) (ch:=[]) un hok bare (λb z=>absurd z<|by simp),r,q⟩
noncomputable def aJb(sp:Sp)(dvs:List V)(E:XK)(t:TA):TE:=λσ H Q=>t σ H λvs H1=>sp (vs++dvs) H1 Q E
def Binds(K:aB)(fd:AK)(ps:List Str)(ds:List BA):Prop:=
 ∀ (s:AA) (us:List BA),K.In s.heap->(us++ds).length=ps.length->BindsTo s fd ⟨us,[]⟩ (ps.zip<|us++ds)
theorem Binds.all{K:aB}{fd:AK}{ps:List Str}(h:∀us:List BA,us.length=ps.length->bindArgs fd ⟨us,[]⟩=pure (ps.zip us)):Binds K fd ps []:=λs us _ hl=>by rw[cS] at hl ⊢;exact .of_eq<|h us hl
def zU(CX:CXT)(X:Cx)(E:XK):Prop:=∀ (pins:List (BC×BF)) (σ:St) (H:Hp) (s:AA) (e:BA) (s':AA),Inv X pins σ H s->CX X.stack H s E e s'->X.xe e s'
variable {CX:CXT}{k:Nat}{f:BC}{fd:AK}{ps:List Str}{sp:Sp}{dvs:List V}{ds:List BA}{E:XK}{x m:Str}{p apos:Pos}{o:Expr}
theorem aGD{Q:VK}{us:List BA}{vs:List V}(F:FnOk X.prog X.w X.K X.mg X.base CX k f fd ps sp)(hr:Room k X.A)(hb:Binds X.K fd ps ds)(hd:Vals dvs ds)(hx:zU CX X E)
  (I:Inv X pins σ H s) (r:Vals vs us) (h:sp (vs++dvs) H Q E):AE (AF X.prog X.w) X.A (call (.ref f) us) (EP X pins σ Q) X.xe s:=by
 have r2:Vals (vs++dvs) (us++ds):=r.append hd;have hl:(us++ds).length=ps.length:=by rw[<-r2.length];exact F.len _ _ _ _ h
 refine wpAny_call<|Ag (F.run X.A X.stack s H ⟨us,[]⟩ (us++ds) (vs++dvs) Q E hr I.env0 (hb s us I.kIn hl) r2 h) λr s' hq=> ?_;cases r with
 |error e=>exact hx pins σ H s e s' I hq
 |ok fl=>
  cases fl with
  |ret u=>exact I.after hq
  |next=>exact False.elim hq
  |brk=>exact False.elim hq
  |cont=>exact False.elim hq
theorem aFc(F:FnOk X.prog X.w X.K X.mg X.base CX k f fd ps sp)(hr:Room k X.A)(hg:Gl X x)(hm:X.mg x=some (.ref f))(hk:bZ X.K (.ref f)=true)(hb:Binds X.K fd ps ds)(hd:Vals dvs ds)(hx:zU CX X E)
  (ha:PA X (e::es) t) (hdb:(x==("__debug__":Str))=false:=by decide) (he:AC (e::es) X.env=(false,eval e X.env)::AC es X.env:=by rfl) (hpl:(AZ pos<|AC es X.env).any (·.1)=false:=by rfl):
  PE X (.Call (.Name x p) (e::es) [] pos) (aJb sp dvs E t):=by
 intro pins s σ H Q I h;refine AW<|mP I hg hm ?_ hdb;refine mD (h₀:=X.base) I.ok.mod.kin hk (thn (ha pos pins s σ H _ I h) λus s1 ⟨vs,H1,I1,r,q⟩=>⟨I1.kIn, ?_⟩) he hpl;exact aGD F hr hb hd hx I1 r q
structure Mk(K:aB)(C f:BC):Prop where
 makes:PySem.W.makesIn K C=true
 init:cN K (.ref C) "__init__"=some (some<|.ref f)
 fn:aGc K (.ref f)=true
 kp:bZ K (.ref C)=true
section
variable {X:Cx}{CX:CXT}{k:Nat}{f C:BC}{fd:AK}{ps ks:List Str}{sp:Sp}{E:XK}{x m:Str}{p pos apos kpos:Pos}{e o:Expr}{es:List Expr}{kws:List Keyword}{te ta:TE}{t tk:TA}{nm:Option Str}
structure aJE(K:aB)(fd:AK)(ps ks:List Str)(g:List BA->List BA->List BA)(gV:List V->List V->List V):Prop where
 to:∀ (s:AA) (us ws:List BA),K.In s.heap->(g us ws).length=ps.length->BindsTo s fd ⟨us,ks.zip ws⟩ (ps.zip<|g us ws)
 rel:∀ {vs:List V}{us:List BA}{zs:List V}{ws:List BA},Vals vs us->Vals zs ws->Vals (gV vs zs) (g us ws)
variable {g:List BA->List BA->List BA}{gV:List V->List V->List V}
end
structure iI(N P:List Str)(sc:Scope):Prop where
 kind:sc.kind=.function
 co:sc.isCoroutine=false
 gen:sc.isGenerator=false
 nd:N.Nodup
 pre:N.take P.length=P
 par:∀x∈P,sc.names.lookup x=some .local\/sc.names.lookup x=some .cell
 nofree:∀y∈sc.names,y.2≠ .free
theorem sC{kindOf:Str->Option NameKind}{x:Str}:∀ {binds:List (Str×BA)}{m:Str->Option BA},(∀v,(x,v)∉binds)->bindL kindOf binds m x=m x
 |[],_,_=>rfl
 |(n,v)::r,m,h=>by
  unfold bindL;rw[sC λw hw=>h w<|bV _ hw]
  split
  ·have:x≠n:=by rintro rfl;exact h v cG
   simp[this]
  ·rfl
theorem sL{kindOf:Str->Option NameKind}{x:Str}:∀ {binds:List (Str×BA)}{m:Str->Option BA},(∀v,(x,v)∉binds)->bindC kindOf binds m x=m x
 |[],_,_=>rfl
 |(n,v)::r,m,h=>by
  unfold bindC;rw[sL λw hw=>h w<|bV _ hw]
  split
  ·rfl
  ·have:x≠n:=by rintro rfl;exact h v cG
   simp[this]
theorem sD{kindOf:Str->Option NameKind}{x:Str}{v:BA}:∀ {P:List Str}{vs:List BA}{i:Nat}{m:Str->Option BA},P.Nodup->P[i]? =some x->vs[i]? =some v->kindOf x=some .local->
  bindL kindOf (P.zip vs) m x=some v
 |[],_,_,_,_,h,_,_=>by simp at h
 |_::_,[],_,_,_,_,h,_=>by simp at h
 |p::P,w::vs,0,m,nd,h1,h2,hk=>by simp at h1 h2;subst h1;subst h2;show bindL kindOf ((p,w)::P.zip vs) m p=_;unfold bindL;rw[sC λv hv=>(iN.mp nd).1 (rN hv).1,if_pos hk];simp
 |p::P,w::vs,i+1,m,nd,h1,h2,hk=>by show bindL kindOf ((p,w)::P.zip vs) m x=_;unfold bindL;exact sD (i:=i) (iN.mp nd).2 (by simpa using h1) (by simpa using h2) hk
theorem sE{kindOf:Str->Option NameKind}{x:Str}{v:BA}:∀ {P:List Str}{vs:List BA}{i:Nat}{m:Str->Option BA},P.Nodup->P[i]? =some x->vs[i]? =some v->kindOf x≠some .local->
  bindC kindOf (P.zip vs) m x=some v
 |[],_,_,_,_,h,_,_=>by simp at h
 |_::_,[],_,_,_,_,h,_=>by simp at h
 |p::P,w::vs,0,m,nd,h1,h2,hk=>by simp at h1 h2;subst h1;subst h2;show bindC kindOf ((p,w)::P.zip vs) m p=_;unfold bindC;rw[sL λv hv=>(iN.mp nd).1 (rN hv).1,if_neg hk];simp
 |p::P,w::vs,i+1,m,nd,h1,h2,hk=>by show bindC kindOf ((p,w)::P.zip vs) m x=_;unfold bindC;exact sE (i:=i) (iN.mp nd).2 (by simpa using h1) (by simpa using h2) hk
noncomputable def start(N:List Str)(vs:List V):St:=vs.map some++aI (N.length-vs.length) none
noncomputable def kA(CX:CXT)(P:AG)(w:AI)(K:aB)(mg:Str->Option BA)(base:BE)(N:List Str)(qual:Str)(scope:Scope)(f:BC)(cd:BA)(A:BD)(outer:List Env)(s:AA)(H:Hp)(E:XK):Cx where
 prog:=P
 w:=w
 K:=K
 mg:=mg
 base:=base
 A:=A.deeper<|envOfC qual scope s.heap.objs.size f cd
 N:=N
 s₀:=s
 H₀:=H
 env:=envOfC qual scope s.heap.objs.size f cd
 outer:=outer
 stack:=envOfC qual scope s.heap.objs.size f cd::outer
 ex:=[]
 calm:=true
 fn:=λ_=>true
 pn:=[]
 xe:=λe s'=>AE (AF P w) (A.deeper<|envOfC qual scope s.heap.objs.size f cd) (leaving (envOfC qual scope s.heap.objs.size f cd) e) (λ_ s''=>CX outer H s E e s'') (λe' s''=>CX outer H s E e' s'') s'
theorem xD{sc:Scope}{n:Nat}(h:sc.names.lookup x=some .cell):∃c,(cellsFrom n sc.names []).lookup x=some c:=by have q:=vG sc.names n []<|.inl h;exact jN.mp q
theorem aBm{K:aB}{mg:Str->Option BA}{base:BE}{N:List Str}{qual:Str}{scope:Scope}{cd:BA}{outer:List Env}{s1:AA}{us:List BA}{vs:List V}
  (S:iI N ps scope) (hd:A.handled=none) (e0:Env0 P w K mg base A outer s H) (hl:vs.length=ps.length) (r:Vals vs us)
  (x:InCallC s s.heap.objs.size (bindL (envOfC qual scope s.heap.objs.size f cd).kindOf (ps.zip us) λ_=>none) (cellsFrom (s.heap.objs.size+1) scope.names []) (bindC (envOfC qual scope s.heap.objs.size f cd).kindOf (ps.zip us) λ_=>none) s1):
  Inv (kA CX P w K mg base N qual scope f cd A outer s H E) [] (start N vs) H s1:=by
 have hpl:ps.length<=N.length:=by have:=congrArg List.length S.pre;rw[aV] at this;omega
 obtain⟨h1,tk,rfl,hk⟩:=x.done;have noA:∀b:BC,b∉(kA CX P w K mg base N qual scope f cd A outer s H E).ex:=λb z=>absurd (show b∈([]:List BC) from z)<|by simp
 refine ⟨⟨e0.mod,S.kind,rfl,rfl,aR _,fun y z c h1 h2=> ?_,fun y hy=> ?_,fun y c _ h=> ?_,fun _=>hd,Around.frames_deeper e0.frames, .inr ⟨rfl,rfl⟩,fun b z=>absurd z (noA b),e0.bs,e0.bsz,fun b _ _=>noA b,fun b z=>absurd z (noA b),e0.funs,e0.frf⟩,
  rfl,e0.bare,Un.kept hk,⟨_,x.toInCall.ns,λi y v h1 h2 h3=> ?_⟩,λy c h=>⟨_,x.cell y c h⟩,e0.hok.fresh (aR _),λy c h=> ?_,λp hp=>absurd (show p∈([]:List (BC×BF)) from hp) (by simp),e0.hok.kept hk, ?_⟩
 ·exact name_of_addr x.apart (PySem.mem_of_lookup h1)<|PySem.mem_of_lookup h2
 ·have hy:scope.names.lookup y=some .cell\/scope.names.lookup y=some .free:=hy
  rcases hy with hy|hy
  ·exact xD hy
  ·exact absurd rfl (S.nofree _<|PySem.mem_of_lookup hy)
 ·exact eE (x.above y c<|PySem.mem_of_lookup h)
 ·have hi:i<vs.length:=by
   unfold start at h2
   by_cases hi:i<vs.length
   ·exact hi
   ·rw[tE<|by simpa using hi] at h2;rw[List.getElem?_replicate] at h2
    split at h2<;>cases h2
  have ha:vs[i]? =some v:=by
   unfold start at h2;rw[jM (by simpa using hi),bK] at h2;cases e:vs[i]? with
   |none=>rw[e] at h2;cases h2
   |some a=>rw[e] at h2;cases h2;rfl
  obtain⟨u,hu,rv⟩:=r.get ha
  have hp:ps[i]? =some y:=by rw[<-S.pre,List.getElem?_take_of_lt<|by omega];exact h1
  have ndP:ps.Nodup:=by rw[<-S.pre];exact S.nd.sublist<|List.take_sublist _ _
  refine⟨u,rv, ?_⟩
  rcases S.par y (dE hp) with k|k
  ·exact .inl ⟨k,sD ndP hp hu k⟩
  ·obtain⟨c,e⟩:=xD (n:=s.heap.objs.size+1) k;refine .inr ⟨.inl k,c,e, ?_⟩;have q:=x.cell y c e;rw[sE ndP hp hu<|by show scope.names.lookup y≠_;rw[k];decide] at q;exact q
 ·exact e0.hok.fresh<|eE (x.above y c<|PySem.mem_of_lookup h)
 ·unfold start;show _=N.length;rw[aJ,aC,fJ];omega
theorem aEn{K:aB}{mg:Str->Option BA}{base:BE}{name qual:Str}{params:Arguments}{body:List BG}{scope:Scope}{dV kV doc pm cdv ct oc:BA}{an od:Option BC}
  {osl:Array (Option BA)}{N ps:List Str}{sp:Sp} (lk:K.lookup f=some ⟨oc,od,.func<|bW name qual params body scope dV kV doc pm an cdv ct,osl⟩) (hcd:dL K cdv qual=true) (S:iI N ps scope)
  (len:∀vs H Q E,sp vs H Q E->vs.length=ps.length)
  (hbody:∀ (A:BD) (outer:List Env) (s:AA) (H:Hp) (vs:List V) (Q:VK) (E:XK),Room k (A.deeper (envOfC qual scope s.heap.objs.size f cdv))→sp vs H Q E→
   ∃t,PSs (kA CX P w K mg base N qual scope f cdv A outer s H E) body t/\t {nx:=λ_ H'=>Q .non H',rt:=Q} (start N vs) H):
  FnOk P w K mg base CX (k+1) f (bW name qual params body scope dV kV doc pm an cdv ct) ps sp:=by
 refine⟨len,λA outer s H args us vs Q E hr e0 hb r hsp=> ?_⟩;have hl:=len _ _ _ _ hsp;have KX:K.In s.heap:=e0.mod.kin.keeps λb o e=>(e0.bs b o e).1
 have lim:s.heap.NoLimit:=e0.mod.nolimit.keeps λb o e=>(e0.bs b o e).1
 have hkind:∀y∈ps.zip us,scope.names.lookup y.1=some .local\/(scope.names.lookup y.1=some .cell/\((cellsFrom (s.heap.objs.size+1) scope.names []).lookup y.1).isSome=true):=λ⟨n,v⟩ hy=>by
  rcases S.par n (rN hy).1 with q|q
  ·exact .inl q
  ·exact .inr ⟨q,vG _ _ _<|.inl q⟩
 refine codeAny_call_function hr.depth (KX _ _ lk) rfl S.co S.gen rfl (PySem.W.codeRec_of KX hcd)<|hb _ _ _ _ ?_;refine wpAny_newFunctionEnv_cells S.kind hkind λenv he s1 x=> ?_
 subst he;refine⟨lim.keeps x.toInCall.keep,codeAny_func ?_⟩;obtain⟨t,ht,hq⟩:=hbody A outer s H vs Q E (hr.deeper _) hsp;have I:Inv (kA CX P w K mg base N qual scope f cdv A outer s H E) [] (start N vs) H s1:=aBm S hr.hd e0 hl r x;refine AN (ht [] s1 (start N vs) H _ I hq) (λfl s' hs=> ?_) λe s' hs=>hs
 have fin:∀ {σ':St}{H':Hp}{v:V}{u:BA},Inv (kA CX P w K mg base N qual scope f cdv A outer s H E) [] σ' H' s'->RelV v u->Q v H'->CE outer P w H s Q u s':=
  λ{σ' H' v u} J rv q=>⟨v,H',J.os,J.bare,J.base,J.hok,rv,q⟩
 cases fl with
 |ret u=>obtain⟨v,σ',H',J,rv,q⟩:=hs;exact fin J rv q
 |next=>obtain⟨σ',H',J,q⟩:=hs;exact fin (v:=V.non) (u:=Value.none) J rfl q
 |brk=>obtain⟨_,_,_,q⟩:=hs;exact False.elim q
 |cont=>obtain⟨_,_,_,q⟩:=hs;exact False.elim q
section
variable {X:Cx}{x:Str}{p pos:Pos}{e:Expr}{es:List Expr}{t:TA}{id T:String}{r:List V->Hp->VK->Prop}
noncomputable def tCB(r:List V->Hp->VK->Prop)(t:TA):TE:=λσ H Q=>t σ H λvs H1=>r vs H1 Q
theorem mO(hc:jO X (.builtin id) r)(hg:Gl X x)(hm:X.mg x=none)(hv:AS x=some (.builtin id))(ha:PA X (e::es) t)(hn:x≠"__name__":=by decide)(hdb:(x==("__debug__":Str))=false:=by decide)
  (he:AC (e::es) X.env=(false,eval e X.env)::AC es X.env:=by rfl) (hpl:(AZ pos<|AC es X.env).any (·.1)=false:=by rfl):PE X (.Call (.Name x p) (e::es) [] pos) (tCB r t):=by
 intro pins s σ H Q I h;refine AW<|kP I hg hm hv ?_ hn hdb;exact PyProof.Rows.callWith_builtin1 (thn (ha pos pins s σ H _ I h) λus s1 ⟨vs,H1,I1,r1,q1⟩=>hc pins s1 σ H1 vs us Q I1 r1 q1) he hpl
theorem aBe(hc:jO X (.type T) r)(hg:Gl X x)(hm:X.mg x=none)(hv:AS x=some (.type T))(ha:PA X (e::es) t)(hn:x≠"__name__":=by decide)(hdb:(x==("__debug__":Str))=false:=by decide)
  (he:AC (e::es) X.env=(false,eval e X.env)::AC es X.env:=by rfl) (hpl:(AZ pos<|AC es X.env).any (·.1)=false:=by rfl):PE X (.Call (.Name x p) (e::es) [] pos) (tCB r t):=by
 intro pins s σ H Q I h;refine AW<|kP I hg hm hv ?_ hn hdb;exact PyProof.Rows.callWith_type1 (thn (ha pos pins s σ H _ I h) λus s1 ⟨vs,H1,I1,r1,q1⟩=>hc pins s1 σ H1 vs us Q I1 r1 q1) he hpl
end
end L2
namespace HT
open PySem PyProof.Rows
noncomputable def aIz:List Int->List Int->Bool
 |[],[]=>false
 |[],_::_=>true
 |_::_,[]=>false
 |x::xs,y::ys=>if x=y then aIz xs ys else decide (x<y)
section
open PySem.SeqAt
open PySem.AutoSeq1 (wpAny_loadPart')
open PySem.MeetsSeq PySem.MeetsSeq2 PySem.MeetsSeq3
end
variable {prog:AG}{w:AI}{A:BD}{E:BA->AA->Prop}{s:AA}
theorem cat_tup{t b:BC}{vs ws:List BA}{Q:BA->AA->Prop}(ht:IsTup s.heap t vs.toArray)(hb:IsTup s.heap b ws.toArray)(hv:vs≠[])
  (h1:ws=[]->Q (.ref t) s) (h2:ws≠[]->Q (.ref s.heap.objs.size) {s with heap:=s.heap.push {cls:=.type "tuple",data:=.seq (vs++ws).toArray}})
  (hsz:vs.length+ws.length<=AH):AE (AF prog w) A (AU .Add (.ref t)<|.ref b) Q E s:=by
 obtain⟨⟨cls,dd,data,sl⟩,ho,hc,n,hd⟩:=id ht;obtain⟨⟨cls2,dd2,data2,sl2⟩,ho2,hc2,n2,hd2⟩:=id hb;simp only at hc hd hc2 hd2;subst hc hd hc2 hd2;have e:vs.toArray++ws.toArray=(vs++ws).toArray:=by simp
 by_cases hw:ws=[]
 ·exact concat_meets ⟨_,ho,rfl⟩ ⟨_,ho2,rfl⟩ noFill_tuple_add seq_tuple_add kH jZ (jL _ _)
   (tuple_addW1 t b vs.toArray ws.toArray n n2 dd dd2 sl sl2 (by simpa using hv)<|by simp[hw]) ⟨ho,ho2,h1 hw⟩
 ·refine concat_meets ⟨_,ho,rfl⟩ ⟨_,ho2,rfl⟩ noFill_tuple_add seq_tuple_add kH jZ (jL _ _)
   (tuple_addW2 t b vs.toArray ws.toArray n n2 dd dd2 sl sl2 (by simpa using hv) (by simpa using hw)<|by rw[aG,aG];exact hsz) ⟨ho,ho2, ?_⟩
  rw[e];exact h2 hw
noncomputable def sIx(n d:Nat):Option Int->Nat
 |none=>d
 |some v=>if v<0 then(v+(n:Int)).toNat else min v.toNat n
theorem sIx_none(n d:Nat):sIx n d none=d:=rfl
theorem sIx_nat(n d k:Nat):sIx n d (some (k:Int))=min k n:=by show(if(k:Int)<0 then((k:Int)+(n:Int)).toNat else min (k:Int).toNat n)=min k n;rw[if_neg<|by omega,cK]
theorem aGP(n d:Nat)(hd:d<=n)(o:Option Int):sIx n d o<=n:=by
 cases o with
 |none=>exact hd
 |some v=>
  show(if v<0 then(v+(n:Int)).toNat else min v.toNat n)<=n
  by_cases hv:v<0
  ·rw[if_pos hv];omega
  ·rw[if_neg hv];exact Nat.min_le_right _ _
theorem aAi(v:Int)(n d:Nat):(if v<0 then max (v+(n:Int)) 0 else min v (n:Int))=((sIx n d (some v):Nat):Int):=by
 show(if v<0 then max (v+(n:Int)) 0 else min v (n:Int))=(((if v<0 then(v+(n:Int)).toNat else min v.toNat n):Nat):Int)
 by_cases hv:v<0
 ·simp only[if_pos hv];omega
 ·simp only[if_neg hv];omega
theorem zI(lo hi:Option Int)(n:Nat):Builtin.Slice.sliceAdjust lo hi 1 (n:Int)=(((sIx n 0 lo:Nat):Int),((sIx n n hi:Nat):Int)):=by
 have h1:¬ ((1:Int)<0):=by omega
 unfold Builtin.Slice.sliceAdjust;simp only[h1,if_false];refine Prod.ext ?_ ?_
 ·cases lo with
  |none=>rfl
  |some v=>exact aAi v n 0
 ·cases hi with
  |none=>rfl
  |some v=>exact aAi v n n
theorem zJ(i j:Nat):Builtin.Slice.slicePlaces (i:Int) (j:Int) 1=j-i:=by
 unfold Builtin.Slice.slicePlaces;have h1:(1:Int)>0:=by omega
 simp only[h1,if_true,Int.ediv_one]
 split<;>omega
theorem rA{v:BA}{o:Option Int}{Q:Option Int->AA->Prop}(p:IsPart v o)(h:Q o s):AE (AF prog w) A (Builtin.Slice.slicePartIndex v) Q E s:=by
 cases p with
 |none=>exact slicePart_none h
 |int i t=>exact slicePart_int h
theorem sliceApplied_gen{sl:BC}{vl vu:BA}{lo hi:Option Int}{n:Nat}{Q:Int×Int×Nat->AA->Prop}(hs:s.heap.IsSliceOf sl vl vu .none)(pl:IsPart vl lo)(pu:IsPart vu hi)
  (h:Q (((sIx n 0 lo:Nat):Int),1,sIx n n hi-sIx n 0 lo) s):AE (AF prog w) A (Builtin.Slice.sliceApplied (.ref sl)<|pure (n:Int)) Q E s:=by
 obtain⟨os,hos,hcs,hds⟩:=id hs;unfold Builtin.Slice.sliceApplied Builtin.Slice.sliceFields;refine AB<|AB (Ac hos hds (x:=vl) rfl<|AB (Ac hos hds (x:=vu) rfl<|AB (Ac hos hds (x:=.none) rfl<|AD ?_)));refine AB<|slicePart_none ?_;show AE _ _ (if((1:Int)==0)=true then _ else _) _ _ s;rw[if_neg<|by decide];refine AB<|rA pl (AB<|rA pu (AB<|AD ?_));show AE _ _ (match Builtin.Slice.sliceAdjust lo hi 1 (n:Int) with|(lo,hi)=>pure (lo,(1:Int),Builtin.Slice.slicePlaces lo hi 1)) _ _ s;rw[zI lo hi n];show AE _ _ (pure (((sIx n 0 lo:Nat):Int),(1:Int),Builtin.Slice.slicePlaces ((sIx n 0 lo:Nat):Int) ((sIx n n hi:Nat):Int) 1)) _ _ s;rw[zJ];exact AD h
theorem aBR(xs:Array BA)(i k:Nat):((bC k).filterMap λ(m:Nat)=>xs[((i:Int)+(m:Int)*1).toNat]?).toArray=((xs.toList.drop i).take k).toArray:=by
 have e:(λ(m:Nat)=>xs[((i:Int)+(m:Int)*1).toNat]?)=λm=>xs[i+m]? :=by
  funext m;have:((i:Int)+(m:Int)*1).toNat=i+m:=by omega
  rw[this]
 rw[e];have:=pick_run xs i k;rw[List.filterMap_map] at this;have e2:((λx=>xs[x]?) ∘ λx=>i+x)=λm=>xs[i+m]? :=rfl
 rw[e2] at this;rw[this]
theorem getItem_tuple_cut{t sl:BC}{items:Array BA}{vl vu:BA}{lo hi:Option Int}{Q:BA->AA->Prop}(ht:IsTup s.heap t items)(hs:s.heap.IsSliceOf sl vl vu .none)(pl:IsPart vl lo)(pu:IsPart vu hi)
  (hw:¬ (sIx items.size 0 lo=0/\sIx items.size items.size hi=items.size))
  (h:Q (.ref s.heap.objs.size) {s with heap:=s.heap.push {cls:=.type "tuple",data:=.seq ((items.toList.drop<|sIx items.size 0 lo).take<|sIx items.size items.size hi-sIx items.size 0 lo).toArray}})
  (hsz:items.size<=AH):AE (AF prog w) A (getItem (.ref t)<|.ref sl) Q E s:=by
 have htake:sizeOk (.seq ((items.toList.drop<|sIx items.size 0 lo).take<|sIx items.size items.size hi-sIx items.size 0 lo).toArray):=by show((items.toList.drop<|sIx items.size 0 lo).take<|sIx items.size items.size hi-sIx items.size 0 lo).toArray.size<=AH;rw[aG,aV,cO,eU];omega
 have hj:sIx items.size items.size hi<=items.size:=aGP _ _ (aR _) hi;obtain⟨os,hos,hcs,hds⟩:=id hs;have hTs:s.TypeIs (.ref sl) "slice":=⟨os,hos,hcs⟩;unfold getItem
 try with_reducible refine AQ ?_
 first|refine AB (AD ?_)|skip
 refine AB<|wpAny_sequenceKey ht.typeIs (by decide) ?_
 refine AB (Ak (name:=Str.ofString "__getitem__") ht.typeIs PyProof.Rows.slot_tuple_getitem
  (wpAny_call_entry PyProof.Rows.slot_tuple_getitem ht.typeIs entry_tuple_getitem ?_ (args_tuple_getitem _ _)))
 show AE _ _ (Builtin.Tuple.tupleItemsOf (.ref t)>>=_) _ _ s;refine AB<|tupleItemsOf_ ht ?_;refine AB<|wpAny_typeOf hTs ?_;rw[if_pos<|by decide];refine AB<|sliceApplied_gen hs pl pu ?_
 have hno:¬ ((((sIx items.size 0 lo:Nat):Int)==0&&(1:Int)==1&&(sIx items.size items.size hi-sIx items.size 0 lo)==items.size)=true):=by intro q;rw[aW,aW] at q;have q1:((sIx items.size 0 lo:Nat):Int)=0:=eq_of_beq q.1.1;have q2:sIx items.size items.size hi-sIx items.size 0 lo=items.size:=eq_of_beq q.2;exact hw ⟨by omega,by omega⟩
 show AE _ _ (if(((sIx items.size 0 lo:Nat):Int)==0&&(1:Int)==1&&(sIx items.size items.size hi-sIx items.size 0 lo)==items.size)=true then _ else _) _ _ s;rw[if_neg hno,aBR]
 first
  |exact AB (m:=Builtin.Tuple.tupleExact _) (AL (AD ⟨_,rfl,AD h⟩) htake)
  |exact AB (m:=Builtin.Tuple.tupleExact _) (AL (AB (AD<|AD ⟨_,rfl,AD h⟩)) htake)
  |exact AB (AB (m:=Builtin.Tuple.tupleExact _)<|AL (AD<|AD ⟨_,rfl,AD h⟩) htake)
  |exact AB (AB (m:=Builtin.Tuple.tupleExact _)<|AL (AD ⟨_,rfl,AD h⟩) htake)
end HT
namespace L2
open PySem PySem.Spec PyProof.Rows
noncomputable abbrev TO:=St->Hp->(Option Int->Hp->Prop)->Prop
def PO(X:Cx)(e:Option Expr)(t:TO):Prop:=
 ∀ (pins:List (BC×BF)) (s:AA) (σ:St) (H:Hp) (Q:Option Int->Hp->Prop),Inv X pins σ H s->t σ H Q->
  AE (AF X.prog X.w) X.A (evalPart e X.env) (λu s'=>∃o H',Inv X pins σ H' s'/\IsPart u o/\Q o H') X.xe s
noncomputable def aFB:TO:=λ_ H Q=>Q none H
noncomputable def aIs(t:TE):TO:=λσ H Q=>t σ H λx H1=>∃i,x=.int i/\Q (some i) H1
variable {X:Cx}{e:Expr}{te:TE}{lo hi:Option Expr}{tl th:TO}{pos p2:Pos}
theorem aFb:PO X none aFB:=by intro pins s σ H Q I h;rw[evalPart_none];exact AD ⟨none,H,I,.none,h⟩
theorem aFs(h:PE X e te):PO X (some e) (aIs te):=by
 intro pins s σ H Q I hw;rw[evalPart_some];refine thn (h pins s σ H _ I hw) λu s1 ⟨x,H1,I1,r1,q1⟩=> ?_
 obtain⟨i,rfl,q⟩:=q1;obtain⟨t,rfl⟩:=r1;exact⟨some i,H1,I1,.int i t,q⟩
def SlR(X:Cx)(r:V->Option Int->Option Int->Hp->VK->Prop):Prop:=
 ∀ (pins:List (BC×BF)) (s:AA) (σ:St) (H:Hp) (x:V) (v vl vu:BA) (lo hi:Option Int) (sl:BC) (Q:VK),Inv X pins σ H s->RelV x v->s.heap.IsSliceOf sl vl vu .none->IsPart vl lo->IsPart vu hi->r x lo hi H Q->
  ∃T id,typeLookup (.type T) "__getitem__"=pure (some<|.builtin id)/\s.TypeIs v T/\AE (AF X.prog X.w) X.A (getItem v<|.ref sl) (EP X pins σ Q) X.xe s
noncomputable def tSl(r:V->Option Int->Option Int->Hp->VK->Prop)(te:TE)(tl th:TO):TE:=λσ H Q=>te σ H λx H1=>tl σ H1 λl H2=>th σ H2 λu H3=>r x l u H3 Q
theorem qS{r:V->Option Int->Option Int->Hp->VK->Prop}(hr:SlR X r)(he:PE X e te)(hl:PO X lo tl)(hu:PO X hi th):PE X (.Subscript e (.Slice lo hi none p2) pos) (tSl r te tl th):=by
 intro pins s σ H Q I h;refine Subscript_<|thn (he pins s σ H _ I h) λv s1 ⟨x,H1,I1,r1,q1⟩=> ?_;refine wpAny_Slice<|thn (hl pins s1 σ H1 _ I1 q1) λvl s2 ⟨l,H2,I2,pl,q2⟩=>thn (hu pins s2 σ H2 _ I2 q2) λvu s3 ⟨u,H3,I3,pu,q3⟩=> ?_;rw[evalPart_none];refine AD ?_;have I4:Inv X pins σ H3 {s3 with heap:=s3.heap.push {cls:=.type "slice",data:=.fields #[vl,vu,.none]}}:=I3.kept (t':=s3.toks) λb ob q=>aH _ q
 obtain⟨T,id,hT,ht,hg⟩:=hr pins {s3 with heap:=s3.heap.push {cls:=.type "slice",data:=.fields #[vl,vu,.none]}} σ H3 x v vl vu l u s3.heap.objs.size Q I4 r1 (Heap.IsSliceOf.new ..) pl pu q3;show AE (AF X.prog X.w) X.A (subscriptTail e (.Slice lo hi none p2) v<|.ref s3.heap.objs.size) (EP X pins σ Q) X.xe {s3 with heap:=s3.heap.push {cls:=.type "slice",data:=.fields #[vl,vu,.none]}};exact tail_any (ops:=[.ref s3.heap.objs.size,v]) ht hT hg (by with_unfolding_all rfl)
noncomputable def rT(xs:List V)(lo hi:Option Int):List V:=(xs.drop<|HT.sIx xs.length 0 lo).take<|HT.sIx xs.length xs.length hi-HT.sIx xs.length 0 lo
theorem oH(xs:List V)(lo hi:Option Int):(rT xs lo hi).length<=xs.length:=by unfold rT;rw[aV,cO];omega
def rSlT(K:aB):V->Option Int->Option Int->Hp->VK->Prop:=λx lo hi H Q=>∃a xs,x=.ref a/\SqT K H a xs/\
 ¬ (HT.sIx xs.length 0 lo=0/\HT.sIx xs.length xs.length hi=xs.length)/\∀p,H p=none->Q (.ref p) (upd H p (.tup<|rT xs lo hi))
theorem aHn:SlR X (rSlT X.K):=by
 intro pins s σ H x v vl vu lo hi sl Q I rx hs pl pu h;obtain⟨a,xs,rfl,hx,hw,q⟩:=h;cases rx;obtain⟨its,r,ht,hz⟩:=I.tuple hx;have hlen:its.toArray.size=xs.length:=by rw[aG];exact r.length.symm
 refine⟨"tuple",_,PyProof.Rows.slot_tuple_getitem.lookup,ht.typeIs, ?_⟩;refine HT.getItem_tuple_cut ht hs pl pu (by rw[hlen];exact hw) ?_ (by rw[hlen];exact hz);rw[hlen];refine⟨.ref s.heap.objs.size,_,I.laid (t':=s.toks) (o:=.tup<|rT xs lo hi) (λb ob q=>aH _ q) (aR _) ?_,rfl,q _ (I.hok.fresh<|aR _)⟩;exact⟨bM (oH xs lo hi) hz,_,(r.drop<|HT.sIx xs.length 0 lo).take<|HT.sIx xs.length xs.length hi-HT.sIx xs.length 0 lo,IsTupD.new _ _⟩
noncomputable def aJc(K:aB):R2:=λx y H Q=>∃a b xs ys,x=.ref a/\y=.ref b/\SqT K H a xs/\SqT K H b ys/\xs≠[]/\xs.length+ys.length<=AH/\
 (ys=[]->Q (.ref a) H)/\(ys≠[]->∀p,H p=none->Q (.ref p) (upd H p (.tup<|xs++ys)))
theorem Vals.nil_iff{xs:List V}{us:List BA}(r:Vals xs us):us=[]↔xs=[]:=by
 cases r with
 |nil=>simp
 |cons _ _=>simp
theorem aFy:OpR X (AU .Add) (aJc X.K):=by intro pins s σ H x y v u Q I rx ry h;obtain⟨a,b,xs,ys,rfl,rfl,ha,hb,hx,hz,q1,q2⟩:=h;cases rx;cases ry;obtain⟨its,r1,p1,_⟩:=I.tuple ha;obtain⟨its2,r2,p2,_⟩:=I.tuple hb;refine HT.cat_tup p1 p2 (λz=>hx<|r1.nil_iff.mp z) (λz=>⟨.ref a,H,I,rfl,q1<|r2.nil_iff.mp z⟩) (λz=> ?_) (by rw[<-r1.length,<-r2.length];exact hz);refine⟨.ref s.heap.objs.size,_,I.laid (t':=s.toks) (o:=.tup<|xs++ys) (λb ob q=>aH _ q) (aR _) ?_,rfl,q2 (λw=>z<|r2.nil_iff.mpr w) _ (I.hok.fresh<|aR _)⟩;exact⟨by rw[aJ];exact hz,_,r1.append r2,IsTupD.new _ _⟩
noncomputable def ixN(n:Nat)(i:Int):Option Nat:=if 0<=i then(if i<n then some i.toNat else none) else if -(n:Int)<=i then some (i+n).toNat else none
noncomputable def atI{α:Type}(xs:List α)(i:Int):Option α:=(ixN xs.length i).bind λj=>xs[j]?
theorem aAe{n:Nat}{i:Int}{j:Nat}(h:ixN n i=some j):seqIndex? i n=some j/\j<n/\ -(n:Int)<=i/\i<n:=by
 unfold ixN at h
 by_cases h0:0<=i
 ·rw[if_pos h0] at h
  by_cases h1:i<n
  ·rw[if_pos h1] at h;have e:i.toNat=j:=bN.inj h;exact⟨by rw[seqIndex_of h0 h1,e],by omega,by omega,h1⟩
  ·rw[if_neg h1] at h;cases h
 ·rw[if_neg h0] at h
  by_cases h1: -(n:Int)<=i
  ·rw[if_pos h1] at h;have e:(i+n).toNat=j:=bN.inj h;exact⟨by rw[seqIndex_neg (by omega) h1,e],by omega,h1,by omega⟩
  ·rw[if_neg h1] at h;cases h
theorem aAK{α:Type}{xs:List α}{i:Int}{v:α}(h:atI xs i=some v):∃j,seqIndex? i xs.length=some j/\xs[j]? =some v/\j<xs.length/\ -(xs.length:Int)<=i/\i<xs.length:=by
 unfold atI at h;cases e:ixN xs.length i with
 |none=>rw[e] at h;cases h
 |some j=>rw[e] at h;obtain⟨h1,h2,h3,h4⟩:=aAe e;exact⟨j,h1,h,h2,h3,h4⟩
theorem uO{α:Type}{xs:List α}{j:Nat}{v:α}(h:xs[j]? =some v):atI xs (j:Int)=some v:=by
 have hj:j<xs.length:=(bE.mp h).1
 have e:ixN xs.length (j:Int)=some j:=by unfold ixN;rw[if_pos<|by omega,if_pos<|by omega];simp
 unfold atI;rw[e];exact h
theorem aCZ{α:Type}(xs:List α)(v:α):atI (xs++[v]) (-1)=some v:=by
 have hl:(xs++[v]).length=xs.length+1:=by simp
 have e:ixN (xs++[v]).length (-1)=some xs.length:=by unfold ixN;rw[hl,if_neg<|by decide,if_pos<|by omega];congr 1;omega
 unfold atI;rw[e];show(xs++[v])[xs.length]? =some v;simp
def jE(b:Expr):Prop:=∀o i,subscripted b false o i=operate [o,i] (getItem o i)
def IxR(X:Cx)(r:R2):Prop:=
 ∀ (value slice:Expr) (pins:List (BC×BF)) (s:AA) (σ:St) (H:Hp) (x y:V) (v u:BA) (Q:VK),Inv X pins σ H s->RelV x v->RelV y u->r x y H Q->
  subscripted slice false v u=operate [v,u] (getItem v u)->AE (AF X.prog X.w) X.A (subscriptTail value slice v u) (EP X pins σ Q) X.xe s
def MtR(X:Cx)(id:String)(r:V->List V->Hp->VK->Prop):Prop:=
 ∀ (pins:List (BC×BF)) (s:AA) (σ:St) (H:Hp) (x:V) (xs:List V) (v:BA) (us:List BA) (Q:VK),Inv X pins σ H s->RelV x v->Vals xs us->r x xs H Q->
  AE (AF X.prog X.w) X.A (call (.builtin id) (v::us)) (EP X pins σ Q) X.xe s
section
variable {X:Cx}{a b:Expr}{ta tb:TE}{pos:Pos}
theorem aBO{r:R2}(hr:IxR X r)(ha:PE X a ta)(hb:PE X b tb)(hs:jE b):PE X (.Subscript a b pos) (tOp r ta tb):=by intro pins s σ H Q I h;exact Subscript_ (aId ha hb I h λv u s2 x y H2 I2 rx ry q=>hr a b pins s2 σ H2 x y v u Q I2 rx ry q<|hs _ _)
noncomputable def rIxL(K:aB):R2:=λx y H Q=>∃p xs i v,x=.ref p/\y=.int i/\SqL K H p xs/\atI xs i=some v/\Q v H
noncomputable def rIxT(K:aB):R2:=λx y H Q=>∃p xs i v,x=.ref p/\y=.int i/\SqT K H p xs/\atI xs i=some v/\Q v H
theorem vD:IxR X (rIxL X.K):=by
 intro value slice pins s σ H x y v u Q I rx ry h hs;obtain⟨p,xs,i,z,rfl,rfl,hq,he,q⟩:=h;cases rx;obtain⟨t,rfl⟩:=ry;obtain⟨its,r,pl,hz⟩:=I.list hq;obtain⟨j,h1,h2,h3,h4,h5⟩:=aAK he;obtain⟨w,ew,rw'⟩:=r.get h2;have hl:=r.length;have hn:=rB;have fin:EP X pins σ Q w s:=⟨z,H,I,rw',q⟩
 by_cases h0:0<=i
 ·have hj:i.toNat=j:=by rw[seqIndex_of h0 h5] at h1;exact bN.inj h1
  exact item_listR pl.isList h0 (by omega) (by rw[hj];simpa using ew) fin hs
 ·have hj:(i+(its.toArray.size:Int)).toNat=j:=by rw[seqIndex_neg (by omega) h4] at h1;rw[aG,<-hl];exact bN.inj h1
  exact subscriptTail_builtinR (x:=w) pl.isList.typeIs slot_list_getitem.lookup
   (wpAny_getItem_list_neg (Q:=λr s'=>r=w/\EP X pins σ Q r s') pl.isList (by omega) (by rw[aG]<;>omega) (by omega) (by rw[hj];simpa using ew) ⟨rfl,fin⟩) hs
theorem aHr:IxR X (rIxT X.K):=by
 intro value slice pins s σ H x y v u Q I rx ry h hs;obtain⟨p,xs,i,z,rfl,rfl,hq,he,q⟩:=h;cases rx;obtain⟨t,rfl⟩:=ry;obtain⟨its,r,pl,hz⟩:=I.tuple hq;obtain⟨j,h1,h2,h3,h4,h5⟩:=aAK he;obtain⟨w,ew,rw'⟩:=r.get h2;have hl:=r.length;have hn:=rB;have fin:EP X pins σ Q w s:=⟨z,H,I,rw',q⟩
 exact subscriptTail_builtinR (x:=w) pl.typeIs slot_tuple_getitem.lookup
  (getItem_tuple (j:=j) (Q:=λr s'=>r=w/\EP X pins σ Q r s') pl (by omega) (by omega) (by rw[aG,<-hl];exact h1) (by simpa using ew) ⟨rfl,fin⟩) hs
theorem yS(its:List BA)(n j:Nat)(u:BA):Obj.mapSeq (·.setIfInBounds j u) {cls:=.type "list",data:=.seq its.toArray n}={cls:=.type "list",data:=.seq (its.set j u).toArray n}:=by simp[Obj.mapSeq]
theorem Inv.lst{pins:List (BC×BF)}{σ:St}{H:Hp}{s:AA}{p:BC}{xs:List V}(I:Inv X pins σ H s)(h:H p=some (.lst xs)):
  ∃ (its:List BA) (n:Nat),Vals xs its/\s.heap.get? p=some {cls:=.type "list",data:=.seq its.toArray n}/\xs.length<=AH:=by
 obtain⟨z,its,n,r,e⟩:=I.hok p _ h;exact⟨its,n,r,e,z⟩
theorem Inv.lstUpd{pins:List (BC×BF)}{σ:St}{H:Hp}{s:AA}{p:BC}{xs ys:List V}{its its':List BA}{n n':Nat}{f:BF->BF}(I:Inv X pins σ H s)(h:H p=some (.lst xs))
  (ho:s.heap.get? p=some {cls:=.type "list",data:=.seq its.toArray n}) (hf:f {cls:=.type "list",data:=.seq its.toArray n}={cls:=.type "list",data:=.seq its'.toArray n'}) (r:Vals ys its') (hz:ys.length<=AH) (t:Nat):
  Inv X pins σ (upd H p<|.lst ys) {s with heap:=s.heap.update p f,toks:=t}:=by
 have e:(s.heap.update p f).get? p=some {cls:=.type "list",data:=.seq its'.toArray n'}:=by rw[eJ f ho (by rw[hf]<;>rfl),hf]
 refine I.write (x:=p) (e:=p) (by rw[h];trivial) (.inl rfl) (λb u hb q=>(cP _ _<|Ne.symm hb).trans q) ⟨_,e⟩ ?_;exact⟨hz,its',n',r,e⟩
def aIS:V->V->V->Hp->(Hp->Prop)->Prop:=λo i v H Q=>∃p xs k j,o=.ref p/\i=.int k/\H p=some (.lst xs)/\ixN xs.length k=some j/\Q (upd H p (.lst<|xs.set j v))
theorem aCP:aJj X aIS:=by
 intro pins s σ H o i v ov iv u Q I ro ri rv h;obtain⟨p,xs,k,j,rfl,rfl,hp,hj,q⟩:=h;cases ro;obtain⟨t,rfl⟩:=ri;obtain⟨its,n,r,ho,hz⟩:=I.lst hp;obtain⟨h1,h2,h3,h4⟩:=aAe hj;have hl:=r.length;have hn:=rB
 have I':Inv X pins σ (upd H p (.lst<|xs.set j v)) {s with heap:=s.heap.update p (Obj.mapSeq (·.setIfInBounds j u))}:=
  I.lstUpd hp ho (yS its n j u) (r.set rv j) (by rw[rO];exact hz) s.toks
 by_cases h0:0<=k
 ·have hk:k.toNat=j:=by rw[seqIndex_of h0 h4] at h1;exact bN.inj h1
  exact PySem.W.ki_setAt ho h0 (by omega) (by rw[aG,<-hl];exact h4) (by rw[hk];exact⟨_,I',q⟩)
 ·have hk:(k+(its.toArray.size:Int)).toNat=j:=by rw[seqIndex_neg (by omega) h3] at h1;rw[aG,<-hl];exact bN.inj h1
  exact PySem.W.ki_setBack ho (by omega) (by rw[aG,<-hl];exact h3) (by omega) (by rw[hk];exact⟨_,I',q⟩)
theorem uS(lo hi:Option Int)(n:Nat):(sliceBounds lo hi none n).1=((HT.sIx n 0 lo:Nat):Int)/\(sliceBounds lo hi none n).2.1=((HT.sIx n n hi:Nat):Int)/\(sliceBounds lo hi none n).2.2=1:=by
 refine⟨?_, ?_,rfl⟩
 ·cases lo with
  |none=>simp[sliceBounds,HT.sIx]
  |some i=>
   simp only[sliceBounds,HT.sIx,aDl,show(1:Int)>0 by decide,if_true]
   by_cases h:i<0
   ·simp only[h,if_true]<;>omega
   ·simp only[h,if_false]<;>omega
 ·cases hi with
  |none=>simp[sliceBounds,HT.sIx]
  |some i=>
   simp only[sliceBounds,HT.sIx,aDl,show(1:Int)>0 by decide,if_true]
   by_cases h:i<0
   ·simp only[h,if_true]<;>omega
   ·simp only[h,if_false]<;>omega
theorem rV(its:List BA)(lo hi:Option Int):slicePick its.toArray lo hi none=((its.drop<|HT.sIx its.length 0 lo).take<|HT.sIx its.length its.length hi-HT.sIx its.length 0 lo).toArray:=by obtain⟨h1,h2,h3⟩:=uS lo hi its.toArray.size;unfold slicePick;rw[h1,h2,h3];simp only[sliceRange_one,pick_run,aG]<;>rfl
def rSlL(K:aB):V->Option Int->Option Int->Hp->VK->Prop:=λx lo hi H Q=>∃a xs,x=.ref a/\SqL K H a xs/\∀p,H p=none->Q (.ref p) (upd H p (.lst<|rT xs lo hi))
theorem aFF:SlR X (rSlL X.K):=by intro pins s σ H x v vl vu lo hi sl Q I rx hs pl pu h;obtain⟨a,xs,rfl,hx,q⟩:=h;cases rx;obtain⟨its,r,ht,hz⟩:=I.list hx;have hlen:=r.length;refine⟨"list",_,slot_list_getitem.lookup,ht.isList.typeIs, ?_⟩;refine wpAny_getItem_list_slice ht.isList hs pl pu .none (by simp) ?_ (by rw[aG]<;>omega);rw[rV,<-hlen];refine⟨.ref s.heap.objs.size,_,I.laid (t':=s.toks) (o:=.lst<|rT xs lo hi) (λb ob q=>aH _ q) (aR _) ?_,rfl,q _ (I.hok.fresh<|aR _)⟩;exact⟨bM (oH xs lo hi) hz,_,0,(r.drop<|HT.sIx xs.length 0 lo).take<|HT.sIx xs.length xs.length hi-HT.sIx xs.length 0 lo,bT _ rfl⟩
noncomputable def jT:V->Bool
 |.non=>true
 |.bl _=>true
 |.int _=>true
 |.str _=>true
 |_=>false
noncomputable def eqV:V->V->Bool
 |.non,.non=>true
 |.bl a,.bl b=>a==b
 |.bl a,.int b=>(if a then 1 else 0)==b
 |.int a,.bl b=>a==(if b then 1 else 0)
 |.int a,.int b=>a==b
 |.str a,.str b=>a==b
 |_,_=>false
theorem pW{A:BD}{s:AA}{y x:V}{u v:BA}(ry:RelV y u)(rx:RelV x v)(fy:jT y=true)(fx:jT x=true):SeqAt.EqAt A s u v (eqV y x):=by
 cases y with
 |non=>
  cases ry;cases x with
  |non=>cases rx;exact SeqAt.EqAt.same _
  |bl b=>cases rx;exact SeqAt.EqAt.none_bool b
  |int b=>obtain⟨t,rfl⟩:=rx;exact SeqAt.EqAt.none_int b t
  |str b=>obtain⟨t,rfl⟩:=rx;exact SeqAt.EqAt.none_str b t
  |_=>exact absurd (show false=true from fx) aU
 |bl a=>
  cases ry;cases x with
  |non=>cases rx;exact SeqAt.EqAt.bool_none a
  |bl b=>cases rx;exact SeqAt.EqAt.bool_bool a b
  |int b=>obtain⟨t,rfl⟩:=rx;exact SeqAt.EqAt.bool_int a b t
  |str b=>obtain⟨t,rfl⟩:=rx;exact SeqAt.EqAt.bool_str a b t
  |_=>exact absurd (show false=true from fx) aU
 |int a=>
  obtain⟨t',rfl⟩:=ry;cases x with
  |non=>cases rx;exact SeqAt.EqAt.int_none a t'
  |bl b=>cases rx;exact SeqAt.EqAt.int_bool a t' b
  |int b=>obtain⟨t,rfl⟩:=rx;exact SeqAt.EqAt.int_int a t' b t
  |str b=>obtain⟨t,rfl⟩:=rx;exact SeqAt.EqAt.int_str a t' b t
  |_=>exact absurd (show false=true from fx) aU
 |str a=>
  obtain⟨t',rfl⟩:=ry;cases x with
  |non=>cases rx;exact SeqAt.EqAt.str_none a t'
  |bl b=>cases rx;exact SeqAt.EqAt.str_bool a t' b
  |int b=>obtain⟨t,rfl⟩:=rx;exact SeqAt.EqAt.str_int a t' b t
  |str b=>obtain⟨t,rfl⟩:=rx;exact SeqAt.EqAt.str_str a t' b t
  |_=>exact absurd (show false=true from fx) aU
 |_=>exact absurd (show false=true from fy) aU
noncomputable def eqU(x:V)(u:BA):Bool:=match u with
 |.none=>eqV .non x
 |.bool b=>eqV (.bl b) x
 |.int i _=>eqV (.int i) x
 |.str z _=>eqV (.str z) x
 |_=>false
theorem aDx{x y:V}{u:BA}(r:RelV y u)(f:jT y=true):eqU x u=eqV y x:=by
 cases y with
 |non=>cases r;rfl
 |bl b=>cases r;rfl
 |int i=>obtain⟨t,rfl⟩:=r;rfl
 |str z=>obtain⟨t,rfl⟩:=r;rfl
 |_=>exact absurd (show false=true from f) aU
theorem uJ{x:V}:∀ {xs:List V}{us:List BA},Vals xs us->xs.all jT=true->us.any (eqU x)=xs.any λy=>eqV y x
 |_,_,.nil,_=>rfl
 |y::xs,u::us,.cons r t,f=>by rw[aHS,aW] at f;rw[nL,nL,aDx r f.1,uJ t f.2]
theorem pZ{A:BD}{s:AA}{x:V}{v:BA}(rx:RelV x v)(fx:jT x=true):∀ {xs:List V}{us:List BA},Vals xs us->xs.all jT=true->∀u∈us,SeqAt.EqAt A s u v (eqU x u)
 |_,_,.nil,_=>λu hu=>by cases hu
 |y::xs,u::us,.cons r t,f=>λu' hu=>by
  rw[aHS,aW] at f
  rcases cD.mp hu with rfl|hu
  ·rw[aDx r f.1];exact pW r rx f.1 fx
  ·exact pZ rx fx t f.2 u' hu
noncomputable def inV(x:V)(xs:List V):Bool:=xs.any λy=>eqV y x
noncomputable def rIn(K:aB)(neg:Bool):R2:=λx y H Q=>∃p xs,y=.ref p/\(SqL K H p xs\/SqT K H p xs)/\jT x=true/\xs.all jT=true/\Q (.bl (if neg then !inV x xs else inV x xs)) H
theorem sN:OpR X (AM .In) (rIn X.K false):=by
 intro pins s σ H x y v u Q I rx ry h;obtain⟨p,xs,rfl,hq,fx,fs,q⟩:=h;cases ry
 rcases hq with hq|hq
 ·obtain⟨its,r,pl,hz⟩:=I.list hq;refine SeqAt.in_listAt (eqU x) pl.isList (λw hw=>pZ rx fx r fs w<|by simpa using hw) ⟨.bl _,H,I,rfl, ?_⟩;rw[show its.toArray.any (eqU x)=its.any (eqU x) by simp,uJ r fs];exact q
 ·obtain⟨its,r,pl,hz⟩:=I.tuple hq;refine SeqAt.in_tupleAt (eqU x) pl (λw hw=>pZ rx fx r fs w<|by simpa using hw) ⟨.bl _,H,I,rfl, ?_⟩;rw[show its.toArray.any (eqU x)=its.any (eqU x) by simp,uJ r fs];exact q
theorem kD:jO X (.builtin "len") (λxs H Q=>∃p ys,xs=[.ref p]/\(SqL X.K H p ys\/SqT X.K H p ys)/\Q (.int ys.length) H):=by
 intro pins s σ H xs us Q I r h;obtain⟨p,ys,rfl,hq,q⟩:=h;obtain⟨u,rfl,rx⟩:=sZ r;cases rx;have hn:=rB
 rcases hq with hq|hq
 ·obtain⟨its,r',pl,hz⟩:=I.list hq;have hlen:=r'.length;exact Calls.call_len_list pl.isList (by simp only[aG]<;>omega) ⟨.int ys.length,H,I.tok _,⟨s.toks+1,by rw[aG,hlen]⟩,q⟩
 ·obtain⟨its,r',pl,hz⟩:=I.tuple hq;have hlen:=r'.length;exact len_tuple pl (by simp only[aG]<;>omega) ⟨.int ys.length,H,I.tok _,⟨s.toks+1,by rw[aG,hlen]⟩,q⟩
theorem mI:jO X (.type "list") (λxs H Q=>∃p ys,xs=[.ref p]/\(SqL X.K H p ys\/SqT X.K H p ys)/\∀l,H l=none->Q (.ref l) (upd H l<|.lst ys)):=by
 intro pins s σ H xs us Q I r h;obtain⟨p,ys,rfl,hq,q⟩:=h;obtain⟨u,rfl,rx⟩:=sZ r;cases rx
 have fin:∀ (its:List BA),Vals ys its->ys.length<=AH->∀ (h':BE) (c':Nat),(∀b o',s.heap.get? b=some o'->h'.get? b=some o')->
   h'.get? s.heap.objs.size=some {cls:=.type "list",dict:=none,data:=.seq its.toArray c',slots:= #[]}->EP X pins σ Q (.ref s.heap.objs.size) {s with heap:=h'}:=λits r' hz h' c' kp e=>
  ⟨.ref s.heap.objs.size,_,I.laid (t':=s.toks) kp (aR _) (show ObjOk X.prog X.w _ h' _ (.lst ys) from⟨hz,its,c',r',e⟩),rfl,q _ (I.hok.fresh<|aR _)⟩
 rcases hq with hq|hq
 ·obtain⟨its,r',pl,hz⟩:=I.list hq;have hlen:=r'.length;obtain⟨o,ho,hc,n,hd⟩:=pl.isList;exact call_list_seq p (.inl rfl) ho hc hd (λh' c' kp e=>fin its r' hz h' c' kp e) (by simp only[aG]<;>omega)
 ·obtain⟨its,r',pl,hz⟩:=I.tuple hq;have hlen:=r'.length;obtain⟨o,ho,hc,n,hd⟩:=pl;exact call_list_seq p (.inr rfl) ho hc hd (λh' c' kp e=>fin its r' hz h' c' kp e) (by simp only[aG]<;>omega)
theorem rW:jO X (.type "tuple") (λxs H Q=>∃p ys,xs=[.ref p]/\((SqL X.K H p ys/\∀l,H l=none->Q (.ref l) (upd H l<|.tup ys))\/(SqT X.K H p ys/\Q (.ref p) H))):=by
 intro pins s σ H xs us Q I r h;obtain⟨p,ys,rfl,h⟩:=h;obtain⟨u,rfl,rx⟩:=sZ r;cases rx
 rcases h with⟨hq,q⟩|⟨hq,q⟩
 ·obtain⟨its,r',pl,hz⟩:=I.list hq;have hlen:=r'.length;refine call_tuple_list pl.isList (λh' kp=> ?_) (by simp only[aG]<;>omega);have I1:Inv X pins σ H {s with heap:=h'}:=I.kept (t':=s.toks) kp
  have I2:Inv X pins σ (upd H h'.objs.size<|.tup ys) {s with heap:=h'.push {cls:=.type "tuple",data:=.seq its.toArray}}:=
   I1.laid (t':=s.toks) (λb o e=>aH _ e) (aR _) (show ObjOk X.prog X.w _ _ _ (.tup ys) from⟨hz,its,r',IsTupD.new _ _⟩)
  exact⟨.ref h'.objs.size,_,I2,rfl,q _ (I1.hok.fresh<|aR _)⟩
 ·obtain⟨its,r',pl,hz⟩:=I.tuple hq;exact call_tuple_same pl ⟨.ref p,H,I,rfl,q⟩
def tyV(K:aB)(T:String)(x:V)(H:Hp):Prop:=match x with
 |.str _=>T="str"
 |.int _=>T="int"
 |.ref p=>(T="list"/\∃xs,SqL K H p xs)\/(T="tuple"/\∃o,K.lookup p=some o/\o.cls=.type "tuple"/\o.dict=none)\/
   (T="dict"/\((∃kvs,H p=some (.dK kvs))\/∃kvs,H p=some (.dT kvs)))\/(T="set"/\∃S n,H p=some (.set S n))
 |_=>False
theorem aGQ{pins:List (BC×BF)}{σ:St}{H:Hp}{s:AA}{T:String}{x:V}{v:BA}(I:Inv X pins σ H s)(r:RelV x v)(ty:tyV X.K T x H):
  s.TypeIs v T/\∀a,v=.ref a->∃ob,s.heap.get? a=some ob/\ob.dict=none:=by
 cases x with
 |str z=>obtain⟨t,rfl⟩:=r;cases(show T="str" from ty);exact⟨typeIs_str s z t,λ_ e=>nomatch e⟩
 |int i=>obtain⟨t,rfl⟩:=r;cases(show T="int" from ty);exact⟨typeIs_int s i t,λ_ e=>nomatch e⟩
 |ref p=>
  cases r
  rcases ty with⟨rfl,xs,hq⟩|⟨rfl,o,hk,hc,hd⟩|⟨rfl,hk⟩|⟨rfl,S,n,hk⟩
  ·obtain⟨its,_,pl,_⟩:=I.list hq;refine⟨pl.isList.typeIs,λa e=> ?_⟩;cases e;obtain⟨o,n,e,c,hd,_⟩:=pl;exact⟨o,e,hd⟩
  ·refine⟨⟨o,I.kIn p o hk,hc⟩,λa e=> ?_⟩;cases e;exact⟨o,I.kIn _ o hk,hd⟩
  ·have z:∃o,s.heap.get? p=some o/\o.ExactDict:=by
    rcases hk with⟨kvs,hk⟩|⟨kvs,hk⟩
    ·obtain⟨_,_,_,_,o,_,_,e,ex,_⟩:=I.hok p _ hk;exact⟨o,e,ex⟩
    ·obtain⟨_,_,_,_,o,_,_,e,ex,_⟩:=I.hok p _ hk;exact⟨o,e,ex⟩
   obtain⟨o,e,ex⟩:=z;refine⟨⟨o,e,ex.1⟩,λa e2=> ?_⟩;cases e2;exact⟨o,e,ex.2.1⟩
  ·obtain⟨o,_,_,_,e,ex,_⟩:=I.hok p _ hk;refine⟨⟨o,e,ex.1⟩,λa e2=> ?_⟩;cases e2;exact⟨o,e,ex.2.1⟩
 |_=>exact False.elim ty
noncomputable def tBM(K:aB)(T:String)(r:V->List V->Hp->VK->Prop)(to:TE)(t:TA):TE:=λσ H Q=>to σ H λx H1=>tyV K T x H1/\t σ H1 λxs H2=>r x xs H2 Q
variable {o e:Expr}{es:List Expr}{to:TE}{t:TA}{name:Str}{apos cpos:Pos}{T id:String}{r:V->List V->Hp->VK->Prop}
theorem aGq(pa:PlainAttrs T)(slot:Slot T name id)(hty:typeOf (.builtin id)=pure (.type "method_descriptor"))(hm:MtR X id r)(ho:PE X o to)(ha:PA X (e::es) t)
  (hbase:Ai o name X.env (eval o X.env)=eval o X.env:=by rfl)
  (hfew:((AZ cpos (AC (e::es) X.env)).all (fun x=> !x.1) && (backToKw cpos (keywordEach [] X.env)).all (fun x=>x.1.isSome)
  &&decide ((e::es).length+([]:List Keyword).length+(if([]:List Keyword).isEmpty then 0 else 1)<30))=true:=by rfl)
  (hline:(apos.endLine==cpos.line)=true:=by rfl) (hs:AC (e::es) X.env=(false,eval e X.env)::AC es X.env:=by rfl) (hplain:(AZ cpos<|AC es X.env).any (·.1)=false:=by rfl):
  PE X (.Call (.Attribute o name apos) (e::es) [] cpos) (tBM X.K T r to t):=by
 intro pins s σ H Q I h;refine wpAny_Call_method_late hbase hfew hline rfl<|thn (ho pins s σ H _ I h) λv s1 ⟨x,H1,I1,r1,ty,q1⟩=> ?_;obtain⟨h1,h2⟩:=aGQ I1 r1 ty;refine⟨T,id,pa,slot,hty,h1,h2, ?_⟩;have hA:=ha cpos pins s1 σ H1 _ I1 q1;rw[hs] at hA ⊢;refine Calls.callWith_builtin (by show(false||(AZ cpos<|AC es X.env).any (·.1))=false;rw[hplain]<;>rfl)<|Calls.evalArgs_plain ?_;exact thn hA λus s2 ⟨vs,H2,I2,r2,q2⟩=>hm pins s2 σ H2 x vs v us Q I2 r1 r2 q2
/- xs.append(e),list.index on a module's tuple .. are MtR facts of 06m -/
end
def MtM(X:Cx)(id:String)(r:V->List V->Hp->VK->Prop):Prop:=
 ∀ (pins:List (BC×BF)) (s:AA) (σ:St) (H:Hp) (x:V) (xs:List V) (v:BA) (us:List BA) (Q:VK),Inv X pins σ H s->RelV x v->Vals xs us->r x xs H Q->
  AE (AF X.prog X.w) X.A (call (.builtin id) (v::us)) (EP X pins σ Q) X.xe s
theorem Vals.one:∀ {x:V}{us:List BA},Vals [x] us->∃u,us=[u]/\RelV x u
 |_,_,.cons r .nil=>⟨_,rfl,r⟩
theorem Vals.rep{xs:List V}{us:List BA}(h:Vals xs us):∀k:Nat,Vals (aI k xs).flatten (aI k us).flatten
 |0=>.nil
 |k+1=>by rw[cB,cB,dA,dA];exact Vals.append h<|Vals.rep h k
theorem nR(its:List BA):∀ (k:Nat) (acc:List BA),
  tF (λx1 x2=>x1++x2) acc.toArray (aI k its.toArray)=(acc++(aI k its).flatten).toArray
 |0,acc=>by simp
 |k+1,acc=>by
  have e:acc.toArray++its.toArray=(acc++its).toArray:=by simp
  have e2:(acc++its)++(aI k its).flatten=acc++(aI (k+1) its).flatten:=by rw[cB,dA,fN]
  rw[<-e2,<-nR its k (acc++its),<-e,cB,List.foldl_cons]
variable {pins:List (BC×BF)}{σ:St}{H:Hp}{s:AA}{l b:BC}{xs ys zs:List V}
theorem Inv.lset{its its':List BA}{n:Nat}{f:Array BA->Array BA}{t':Nat}(I:Inv X pins σ H s)(hH:H l=some (.lst xs))
  (e:s.heap.get? l=some {cls:=.type "list",data:=.seq its.toArray n}) (hf:f its.toArray=its'.toArray) (hv:Vals ys its') (hz:ys.length<=AH):
  Inv X pins σ (upd H l<|.lst ys) {s with heap:=s.heap.update l<|Obj.mapSeq f,toks:=t'}:=by
 have q:=PySem.IsL.update e f;rw[hf] at q;refine I.write (x:=l) (e:=l) (by rw[hH];exact trivial) (.inl rfl) (λb' u hb hu=>(cP s.heap (Obj.mapSeq f)<|Ne.symm hb).trans hu) ⟨_,q⟩ ?_;exact⟨hz,its',_,hv,q⟩
theorem Inv.lnew{its:List BA}{t':Nat}(I:Inv X pins σ H s)(hv:Vals ys its)(hz:ys.length<=AH):
  Inv X pins σ (upd H s.heap.objs.size<|.lst ys) {s with heap:=s.heap.push {cls:=.type "list",data:=.seq its.toArray},toks:=t'}:=
 I.laid (λ_ _ q=>aH _ q) (aR _) ⟨hz,its,0,hv,bT _ rfl⟩
theorem Inv.fresh(I:Inv X pins σ H s):H s.heap.objs.size=none:=I.hok.fresh<|aR _
theorem Inv.lstM(I:Inv X pins σ H s)(hH:H l=some (.lst xs)):xs.length<=AH/\∃ (its:List BA) (n:Nat),Vals xs its/\xs.length=its.length/\s.heap.get? l=some {cls:=.type "list",data:=.seq its.toArray n}:=by obtain⟨z,its,n,r,e⟩:=I.hok l _ hH;exact⟨z,its,n,r,r.length,e⟩
theorem wC{n:Nat}(h:n<=AH):Builtin.List.listTooLong n=false:=by unfold Builtin.List.listTooLong;exact decide_eq_false<|by omega
def aAx:V->List V->Hp->VK->Prop:=λx vs H Q=>∃l xs y,x=.ref l/\vs=[y]/\H l=some (.lst xs)/\xs.length<AH/\Q .non (upd H l (.lst<|xs++[y]))
theorem aBh:MtM X "list.append" aAx:=by intro pins s σ H x vs v us Q I rx rv h;obtain⟨l,xs,y,rfl,rfl,hH,hz,q⟩:=h;cases rx;obtain⟨u,rfl,ru⟩:=rv.one;obtain⟨z,its,n,r,hl,e⟩:=I.lstM hH;refine call_meets F.slot_list_append ⟨_,e,rfl⟩ F.entry_list_append (F.args_list_append_2 _ _) (PySem.list_append l its.toArray n u<|by rw[aG];omega) ⟨e, ?_⟩;refine⟨.non,_,I.lset (its':=its++[u]) hH e (by simp) (r.append<|.cons ru .nil) ?_,rfl,q⟩;rw[aJ,hU];omega
def aAo:V->List V->Hp->VK->Prop:=λx vs H Q=>∃l b xs zs,x=.ref l/\vs=[.ref b]/\H l=some (.lst xs)/\H b=some (.lst zs)/\xs.length+zs.length<=AH/\Q .non (upd H l (.lst<|xs++zs))
theorem aBl:MtM X "list.extend" aAo:=by
 intro pins s σ H x vs v us Q I rx rv h;obtain⟨l,b,xs,zs,rfl,rfl,hH,hB,hz,q⟩:=h;cases rx;obtain⟨u,rfl,ru⟩:=rv.one;cases ru;obtain⟨z,its,n,r,hl,e⟩:=I.lstM hH;obtain⟨z2,its2,n2,r2,hl2,e2⟩:=I.lstM hB;have hsz:its.toArray.size+its2.toArray.size<=AH:=by rw[aG,aG];omega
 have hlong:¬ (!its.toArray.isEmpty&&Builtin.List.listTooLong (its.toArray.size+its2.toArray.size))=true:=by rw[wC hsz,aHF];exact aU
 refine call_meets F.slot_list_extend ⟨_,e,rfl⟩ F.entry_list_extend (F.args_list_extend_2 _ _)
  (AutoSeq1.list_extend_list_list_0 l its.toArray n b its2.toArray n2 hlong (by rw[aG];omega)<|by omega) ⟨e,e2, ?_⟩
 refine⟨.non,_,I.lset (its':=its++its2) hH e (by simp) (r.append r2) ?_,rfl,q⟩;rw[aJ];omega
noncomputable def rCat:R2:=λx y H Q=>∃l b xs zs,x=.ref l/\y=.ref b/\H l=some (.lst xs)/\H b=some (.lst zs)/\xs.length+zs.length<=AH/\∀p,H p=none->Q (.ref p) (upd H p (.lst<|xs++zs))
theorem aGK:OpR X (AU .Add) rCat:=by
 intro pins s σ H x y v u Q I rx ry h;obtain⟨l,b,xs,zs,rfl,rfl,hH,hB,hz,q⟩:=h;cases rx;cases ry;obtain⟨z,its,n,r,hl,e⟩:=I.lstM hH;obtain⟨z2,its2,n2,r2,hl2,e2⟩:=I.lstM hB;refine PySem.P.add_list e e2 ?_ (by rw[aG,aG];omega);have ea:its.toArray++its2.toArray=(its++its2).toArray:=by simp
 rw[ea];exact⟨.ref _,_,I.lnew (t':=s.toks) (r.append r2) (by rw[aJ];omega),rfl,q _ I.fresh⟩
noncomputable def rRep:R2:=λx y H Q=>∃l k xs,x=.ref l/\y=.int k/\H l=some (.lst xs)/\ -(2^63)<=k/\k<2^63/\xs.length*k.toNat<=AH/\
 ∀p,H p=none->Q (.ref p) (upd H p<|.lst (aI k.toNat xs).flatten)
theorem tJ{α:Type}(xs:List α)(k:Nat):(aI k xs).flatten.length=k*xs.length:=by
 induction k with
 |zero=>simp
 |succ k ih=>rw[cB,dA,aJ,ih,jD,oR]
theorem aGv:OpR X (AU .Mult) rRep:=by
 intro pins s σ H x y v u Q I rx ry h;obtain⟨l,k,xs,rfl,rfl,hH,h1,h2,hz,q⟩:=h;cases rx;obtain⟨t,rfl⟩:=ry;obtain⟨z,its,n,r,hl,e⟩:=I.lstM hH;have hlen:its.toArray.size*k.toNat<=AH:=by rw[aG,<-hl];exact hz
 have hcap:¬ its.toArray.size*k.toNat>(2^63-1) / 8:=by
  have:(AH:Nat)<=(2^63-1) / 8:=by decide
  omega
 have hfit:¬ (!Builtin.List.listFitsIndex k)=true:=by rw[fitsIndex_both h1 h2];exact aU
 have hlong:¬ Builtin.List.listTooLong (its.toArray.size*k.toNat)=true:=by rw[wC hlen];exact aU
 have hnew:tF (λx1 x2=>x1++x2) #[] (aI (if its.toArray.isEmpty=true then 0 else k.toNat) its.toArray)=(aI k.toNat its).flatten.toArray:=by
  have f0:∀m:Nat,tF (λx1 x2=>x1++x2) #[] (aI m its.toArray)=(aI m its).flatten.toArray:=λm=>by have:=nR its m [];rw[kX] at this;exact this
  rw[f0];cases its with
  |nil=>simp
  |cons a r'=>rw[if_neg<|by simp]
 refine wpAny_binaryOp_repeat_ref (T:="list") (U:="int") (by decide) ⟨_,e,rfl⟩ (λs'=>typeIs_int s' k t) noFill_list_mul F.fills_int_mul F.slot_int_rmul repeat_list F.slot_int_index.lookup
  (call_meets F.slot_int_rmul (typeIs_int s k t) F.entry_int_rmul (F.args_int_rmul_2 _ _) (int___rmul___int_list k t l its.toArray n)
   ⟨e,rfl,⟨_,e,rfl⟩,call_meets F.slot_list_mul ⟨_,e,rfl⟩ F.entry_list_mul (F.args_list_mul_2 _ _) (AutoListH.list___mul___list_int_3 l its.toArray n k t hfit hcap hlong) ⟨e, ?_⟩⟩)
 rw[hnew];exact⟨.ref _,_,I.lnew (t':=s.toks) (r.rep k.toNat) (by rw[tJ,zX];exact hz),rfl,q _ I.fresh⟩
section
variable {prog:AG}{w:AI}{A:BD}{E:BA->AA->Prop}{s:AA}
set_option maxRecDepth 100000 in
end
section
variable {κ:Type}[DecidableEq κ]
noncomputable def lN(kvs:List (κ×V))(k:κ):Option V:=(kvs.find? λkv=>decide<|kv.1=k).map (·.2)
noncomputable def tP(kvs:List (κ×V))(k:κ)(v:V):List (κ×V):=
 if(kvs.any λkv=>decide<|kv.1=k)=true then kvs.map (λkv=>if kv.1=k then(kv.1,v) else kv) else kvs++[(k,v)]
theorem xS{p:κ×V}{r:List (κ×V)}{k:κ}(e:p.1=k):lN (p::r) k=some p.2:=by simp[lN,fB,e]
theorem xF{p:κ×V}{r:List (κ×V)}{k:κ}(e:¬ p.1=k):lN (p::r) k=lN r k:=by simp[lN,fB,e]
theorem vU(kvs:List (κ×V))(k:κ)(v:V):(tP kvs k v).length<=kvs.length+1:=by
 unfold tP
 split
 ·rw[aC];omega
 ·rw[aJ,bX,fC];omega
theorem KV.val{kvs:List (κ×V)}{vs:List (κ×BA)}(r:KV kvs vs)(k:κ):RelO (lN kvs k) (valueAt vs k):=by
 unfold KV at r
 induction r with
 |nil=>exact True.intro
 |@cons p q ps qs h t ih=>
  obtain⟨h1,h2⟩:=h
  by_cases e:p.1=k
  ·have e':q.1=k:=h1.symm.trans e;have b:valueAt (q::qs) k=some q.2:=by simp[valueAt,fB,e']
   rw[xS e,b];exact h2
  ·have e':¬ q.1=k:=λz=>e (h1.trans z)
   have b:valueAt (q::qs) k=valueAt qs k:=by simp[valueAt,fB,e']
   rw[xF e,b];exact ih
theorem KV.any{kvs:List (κ×V)}{vs:List (κ×BA)}(r:KV kvs vs)(k:κ):(kvs.any λkv=>decide<|kv.1=k)=vs.any λkv=>decide (kv.1=k):=by
 unfold KV at r
 induction r with
 |nil=>rfl
 |cons h t ih=>rw[nL,nL,ih,h.1]
theorem KV.repl{kvs:List (κ×V)}{vs:List (κ×BA)}(r:KV kvs vs)(k:κ){y:V}{u:BA}(ry:RelV y u):
  KV (kvs.map λkv=>if kv.1=k then(kv.1,y) else kv) (vs.map λkv=>if kv.1=k then(kv.1,u) else kv):=by
 unfold KV at r ⊢
 induction r with
 |nil=>exact .nil
 |@cons p q ps qs h t ih=>
  rw[bY,bY];refine .cons ?_ ih;obtain⟨h1,h2⟩:=h
  by_cases e:p.1=k
  ·rw[if_pos e,if_pos<|h1.symm.trans e];exact⟨h1,ry⟩
  ·rw[if_neg e,if_neg (λz=>e<|h1.trans z)];exact⟨h1,h2⟩
theorem KV.put{kvs:List (κ×V)}{vs:List (κ×BA)}(r:KV kvs vs)(k:κ){y:V}{u:BA}(ry:RelV y u):KV (tP kvs k y) (stored vs k u):=by
 unfold tP stored;rw[r.any k]
 by_cases e:(vs.any λkv=>decide<|kv.1=k)=true
 ·rw[if_pos e,if_pos e];exact r.repl k ry
 ·rw[if_neg e,if_neg e];exact Paired.snoc r ⟨rfl,ry⟩
end
theorem aEk{P:AG}{w:AI}{k:Key}{u:BA}(r:RelV (kV k) u):(eX P w).is k u=true:=by
 cases k with
 |inl i=>obtain⟨t,e⟩:=(show ∃t,u=Value.int i t from r);subst e;exact vS P w i t
 |inr x=>obtain⟨t,e⟩:=(show ∃t,u=Value.str x t from r);subst e;exact wZ P w x t
theorem sX{P:AG}{w:AI}:∀ {ks:List Key}{us:List BA},Vals (ks.map kV) us->ItemsAre (eX P w) ks us
 |[],_,r=>by rw[gB] at r;cases r;exact .nil
 |k::ks,_,r=>by
  rw[bY] at r;cases r with
  |cons h t=>exact .cons (aEk h)<|sX t
abbrev KT(H:Hp):List (List Key×V)->List (List Key×BC×BA)->Prop:=Paired λp q=>p.1=q.1/\H q.2.1=some (.tup<|p.1.map kV)/\RelV p.2 q.2.2
theorem KT.val{kvs:List (List Key×V)}{xs:List (List Key×BC×BA)}(r:KT H kvs xs)(k:List Key):RelO (lN kvs k) ((atKey xs k).map (·.2)):=by
 induction r with
 |nil=>exact True.intro
 |@cons p q ps qs h t ih=>
  obtain⟨h1,_,h2⟩:=h
  by_cases e:p.1=k
  ·have e':q.1=k:=h1.symm.trans e;have b:atKey (q::qs) k=some q.2:=by simp[atKey,fB,e']
   rw[xS e,b];exact h2
  ·have e':¬ q.1=k:=λz=>e (h1.trans z)
   have b:atKey (q::qs) k=atKey qs k:=by simp[atKey,fB,e']
   rw[xF e,b];exact ih
variable {P:AG}{w:AI}{h:BE}{a:BC}
theorem aGk{u:HO}(ok:HOk P w H h)(e:Rd H a u):ObjOk P w H h a u:=e.ok ok
theorem aEm{kvs:List (Key×V)}(ok:HOk P w H h)(e:Rd H a (.dK kvs)):kvs.length<=AH/\(a==Af)=false/\∃vs,KV kvs vs/\h.DictOf (eX P w) a vs:=
 show ObjOk P w H h a (.dK kvs) from aGk ok e
theorem aIV{kvs:List (Key×V)}(ok:HOk P w H h)(e:H a=some (.dK kvs)):kvs.length<=AH/\(a==Af)=false/\∃vs,KV kvs vs/\h.DictOf (eX P w) a vs:=aEm ok<|.inl e
theorem aDD{ks:List Key}(ok:HOk P w H h)(e:H a=some (.tup<|ks.map kV)):(tupleKind<|eX P w).is h ks a:=by obtain⟨_,its,r,o,h1,h2,⟨n,h3⟩,_⟩:=(show ObjOk P w H h a (.tup<|ks.map kV) from ok a _ e);exact⟨o,its.toArray,n,h1,h2,h3,by simpa using sX r⟩
theorem aGt{kvs:List (List Key×V)}(ok:HOk P w H h)(e:Rd H a (.dT kvs)):kvs.length<=AH/\(a==Af)=false/\
  ∃xs,KT H kvs xs/\h.DictOfH (tupleKind<|eX P w) a xs:=by
 obtain⟨z,y,xs,r,o,es,ep,h1,h2,h3,h4,h5⟩:=(show ObjOk P w H h a (.dT kvs) from aGk ok e);refine⟨z,y,xs,r,o,es,ep,h1,h2,h3,h4,λx hx=> ?_,h5⟩
 have all:∀ {l:List (List Key×V)}{m:List (List Key×BC×BA)},KT H l m->∀x∈m,(tupleKind<|eX P w).is h x.1 x.2.1:=by
  intro l m q
  induction q with
  |nil=>intro x hx;exact nomatch hx
  |@cons p q ps qs hq t ih=>
   intro x hx
   rcases cD.mp hx with e|hx
   ·subst e;exact aDD ok (by rw[<-hq.1];exact hq.2.1)
   ·exact ih x hx
 exact all r x hx
def DGet(H:Hp)(a:BC)(y:V)(r:Option V):Prop:=
 (∃kvs k,Rd H a (.dK kvs)/\y=kV k/\r=lN kvs k)\/∃kvs k b,Rd H a (.dT kvs)/\y=.ref b/\H b=some (.tup<|k.map kV)/\r=lN kvs k
theorem DGet.k{H:Hp}{a:BC}{kvs:List (Key×V)}{k:Key}(e:H a=some (.dK kvs)):DGet H a (kV k) (lN kvs k):=.inl ⟨kvs,k,.inl e,rfl,rfl⟩
variable {y v:V}{u r:BA}{o:Option V}{A:BD}{E:BA->AA->Prop}
theorem Inv.big(I:Inv X pins σ H s):Af<s.heap.objs.size:=by have h:AJ<s.heap.objs.size:=(I.mod.glob.keeps I.bk).lt;exact Nat.lt_trans (by decide) h
theorem aBA{Q:BA->AA->Prop}(hu:A.units+1<AX)(I:Inv X pins σ H s)(g:DGet H a y (some v))(ry:RelV y u)(h:∀w' s',Inv X pins σ H s'->RelV v w'->Q w' s'):
  AE (AF X.prog X.w) A (getItem (.ref a) u) Q E s:=by
 rcases g with⟨kvs,k,e,ey,l⟩|⟨kvs,k,b,e,ey,eb,l⟩
 ·subst ey;obtain⟨z,hd,vs,rel,dd⟩:=aEm I.hok e;obtain⟨w',hw,rw'⟩:=RelO.some_of (v:=v) (o:=valueAt vs k) (by rw[l];exact rel.val k);exact wpAny_getItem_of (aEk ry) dd.mapOf hw<|h w' _ (I.tok _) rw'
 ·subst ey;cases(show u=Value.ref b from ry);obtain⟨z,hd,xs,rel,dd⟩:=aGt I.hok e;obtain⟨w',hw,rw'⟩:=RelO.some_of (v:=v) (o:=(atKey xs k).map (·.2)) (by rw[l];exact rel.val k);obtain⟨p,hp,hp2⟩:=vJ.mp hw;refine wpAny_getItem_heap (tupleKind_room_in1 hu) (aDD I.hok eb) dd hp ?_;rw[hp2];exact h w' _ (I.tok _) rw'
theorem aFu{h':BE}{t':Nat}{ob:HO}(I:Inv X pins σ H s)(mu:Mut (H a))(hs:Heap.SameBut a s.heap h')(he:∃q,h'.get? a=some q)(new:ObjOk X.prog X.w (upd H a ob) h' a ob):
  Inv X pins σ (upd H a ob) {s with heap:=h',toks:=t'}:=
 I.write (x:=a) (e:=a) mu (.inl rfl) (λb q hb z=>(hs.2 b hb).trans z) he new
theorem aHc{H':Hp}{h':BE}{kvs:List (Key×V)}{vs:List (Key×BA)}(z:kvs.length<=AH)(hd:(a==Af)=false)(rel:KV kvs vs)(dd:h'.DictOf (eX P w) a vs):
  ObjOk P w H' h' a (.dK kvs):=⟨z,hd,vs,rel,dd⟩
def aIk(i:Expr):Prop:=∀ov iv,subscripted i false ov iv=operate [ov,iv] (getItem ov iv)
theorem aES{prog:AG}{env:Env}{value slice:Expr}{T id:String}{Q:BA->AA->Prop}
  (hl:typeLookup (.type T) "__getitem__"=pure (some<|.builtin id)) (hs:aIk slice)
  (h:AE (AF prog w) A (eval value env) (λo s₁=>AE (AF prog w) A (eval slice env) (λi s₂=>s₂.TypeIs o T/\AE (AF prog w) A (getItem o i) Q E s₂) E s₁) E s):
  AE (AF prog w) A (eval (.Subscript value slice pos) env) Q E s:=by
 refine Subscript_<|AN h (λo s₁ h₁=>AN h₁ (λi s₂ h₂=> ?_) λ_ _ x=>x) λ_ _ x=>x;obtain⟨hT,h₂⟩:=h₂;unfold subscriptTail;refine AB ?_;rw[getitemInPython_of_ne hT.not_modules];refine AB<|wpAny_specialOf hT hl ?_
 have fin:AE (AF prog w) A (subscripted slice false o i) (λr s₃=>AE (AF prog w) A (letTemporaryGo value o r>>=λ_=>pure r) Q E s₃) E s₂:=by rw[hs o i];exact wpAny_operating<|AN h₂ (λr s₃ h₃=>AB (wpAny_letTemporaryGo<|AD h₃)) λ_ _ x=>x
 first
  |exact AD (AB fin)
  |exact AB (AD<|AB fin)
  |exact AB fin
theorem wB(I:Inv X pins σ H s)(g:DGet H a y o):s.TypeIs (.ref a) "dict":=by
 rcases g with⟨kvs,k,e,_,_⟩|⟨kvs,k,b,e,_,_,_⟩
 ·obtain⟨_,_,vs,_,dd⟩:=aEm I.hok e;exact dd.typeIs
 ·obtain⟨_,_,xs,_,dd⟩:=aGt I.hok e;exact dd.typeIs
noncomputable def aID(td ty:TE):TE:=λσ H Q=>td σ H λx H1=>ty σ H1 λy H2=>∃a v,x=.ref a/\DGet H2 a y (some v)/\Q v H2
variable {o i value:Expr}{pos' tpos:Pos}{td ty tv:TE}
theorem aFv(hu:X.A.units+1<AX)(ho:PE X o td)(hi:PE X i ty)(hs:aIk i):PE X (.Subscript o i pos) (aID td ty):=by intro pins s σ H Q I h;refine aES PySem.F.slot_dict_getitem.lookup hs<|thn (ho pins s σ H _ I h) λu s1 ⟨x,H1,I1,rx,q1⟩=>thn (hi pins s1 σ H1 _ I1 q1) λiv s2 ⟨y,H2,I2,ry,a,v,ex,g,q2⟩=> ?_;subst ex;obtain rfl:u=Value.ref a:=rx;exact⟨wB I2 g,aBA hu I2 g ry λw' s3 I3 rw'=>⟨v,H2,I3,rw',q2⟩⟩
theorem aCq(h:BE)(hb:Af<h.objs.size):ObjOk P w H (h.push {cls:=.type "dict",data:=.dict #[]}) h.objs.size (.dK []):=
 ⟨bL _,beq_eq_false_iff_ne.mpr (Ne.symm<|bG hb),[],.nil,Heap.DictOf.new h⟩
noncomputable def yA:List (TE×TE)->St->Hp->(List (V×V)->Hp->Prop)->Prop
 |[],_,H,Q=>Q [] H
 |(tk,tv)::r,σ,H,Q=>tk σ H λx H1=>tv σ H1 λy H2=>yA r σ H2 λps H3=>Q ((x,y)::ps) H3
abbrev VV:List (V×V)->List (BA×BA)->Prop:=Paired λp q=>RelV p.1 q.1/\RelV p.2 q.2
def PPs(X:Cx)(pos:Pos)(keys:List (Option Expr))(values:List Expr)(trs:List (TE×TE)):Prop:=
 ∀ (pins:List (BC×BF)) (s:AA) (σ:St) (H:Hp) (Q:List (V×V)->Hp->Prop),Inv X pins σ H s->yA trs σ H Q->
  AE (AF X.prog X.w) X.A (evalPairs<|pairTrees keys values X.env pos) (λvs s'=>∃ps H',Inv X pins σ H' s'/\VV ps vs/\Q ps H') X.xe s
theorem aFE:PPs X pos [] [] []:=λpins s σ H Q I h=>pairTrees_nil_walk ⟨[],H,I,.nil,h⟩
theorem pV{k v:Expr}{ks:List (Option Expr)}{vs:List Expr}{tk:TE}{trs:List (TE×TE)}(hk:PE X k tk)(hv:PE X v tv)(hr:PPs X pos ks vs trs):
  PPs X pos (some k::ks) (v::vs) ((tk,tv)::trs):=λpins s σ H Q I h=>
 pairTrees_cons_walk (thn (hk pins s σ H _ I h) λu s1 ⟨x,H1,I1,rx,q1⟩=>thn (hv pins s1 σ H1 _ I1 q1) λw2 s2 ⟨y,H2,I2,ry,q2⟩=>thn (hr pins s2 σ H2 _ I2 q2) λws s3 ⟨ps,H3,I3,rel,q3⟩=>⟨(x,y)::ps,H3,I3,.cons ⟨rx,ry⟩ rel,q3⟩)
noncomputable def gU(kvs more:List (Key×V)):List (Key×V):=more.foldl (λacc kv=>tP acc kv.1 kv.2) kvs
theorem KV.merge:∀ {more:List (Key×V)}{rs:List (Key×BA)}{kvs:List (Key×V)}{vs:List (Key×BA)},KV more rs->KV kvs vs->KV (gU kvs more) (merged vs rs):=by
 intro more rs kvs vs r;unfold KV at r
 induction r generalizing kvs vs with
 |nil=>intro q;exact q
 |@cons p q ps qs h t ih=>
  intro r0
  have e:KV (tP kvs p.1 p.2) (stored vs q.1 q.2):=by have:=r0.put p.1 h.2;rw[<-h.1];exact this
  exact ih e
theorem lO:∀ (more kvs:List (Key×V)),(gU kvs more).length<=kvs.length+more.length
 |[],kvs=>by show kvs.length<=kvs.length+0;omega
 |p::r,kvs=>by have h1:=lO r<|tP kvs p.1 p.2;have h2:=vU kvs p.1 p.2;show(gU (tP kvs p.1 p.2) r).length<=_;rw[bX];omega
theorem pR{P:AG}{w:AI}:∀ {kvs:List (Key×V)}{ws:List (BA×BA)},VV (kvs.map λkv=>(kV kv.1,kv.2)) ws->∃rs,Carries (eX P w) ws rs/\KV kvs rs
 |[],_,r=>by rw[gB] at r;cases r;exact⟨[],True.intro,.nil⟩
 |p::kvs,_,r=>by
  rw[bY] at r;cases r with
  |@cons a b as bs h t=>obtain⟨rs,c,q⟩:=pR (P:=P) (w:=w) t;obtain⟨b1,b2⟩:=b;exact⟨(p.1,b2)::rs,⟨aEk h.1,rfl,c⟩,.cons ⟨rfl,h.2⟩ q⟩
noncomputable def aIN(trs:List (TE×TE)):TE:=λσ H Q=>∀p,H p=none->yA trs σ (upd H p<|.dK []) λps H2=>H2 p=some (.dK [])/\∃kvs:List (Key×V),ps=kvs.map (λkv=>(kV kv.1,kv.2))/\kvs.length<=15/\Q (.ref p) (upd H2 p (.dK<|gU [] kvs))
theorem aFa{keys:List (Option Expr)}{values:List Expr}{trs:List (TE×TE)}(h:PPs X pos keys values trs)(hall:keys.all (·.isSome)=true)(hl:keys.length=values.length)(h0:keys≠[])
  (h15:keys.length<=15):PE X (.Dict keys values pos) (aIN trs):=by
 intro pins s σ H Q I q;have hn:=I.hok.fresh<|aR s.heap.objs.size;have I1:=I.laid (a:=s.heap.objs.size) (o:=.dK []) (h':=s.heap.push {cls:=.type "dict",data:=.dict #[]}) (t':=s.toks) (λ_ _ q=>aH _ q) (aR _)<|aCq s.heap I.big;refine wpAny_Dict_walk (knd:=eX X.prog X.w) hall hl h0 h15<|thn (h pins _ σ _ _ I1<|q _ hn) λws s2 ⟨ps,H2,I2,rel,e,kvs,ep,lk,q2⟩=> ?_;subst ep;obtain⟨rs,c,rk⟩:=pR (P:=X.prog) (w:=X.w) rel;obtain⟨z,hd,vs0,r0,dd⟩:=aIV I2.hok e;cases r0;refine⟨rs,c,dd,λh' dd' hs=>⟨.ref s.heap.objs.size,_, ?_,rfl,q2⟩⟩
 have hz:(gU [] kvs).length<=AH:=by have h1:=lO kvs [];rw[fC] at h1;rw[Ab];omega
 have he:∃q,h'.get? s.heap.objs.size=some q:=let ⟨q,_,_,hq,_⟩:=dd';⟨q,hq⟩
 exact aFu I2 (by rw[e];exact True.intro) hs he<|aHc hz hd (rk.merge .nil) dd'
structure M1(X:Cx)(o:Expr)(m:Str)(apos:Pos)(e:Expr)(cpos:Pos):Prop where
 base:Ai o m X.env (eval o X.env)=eval o X.env
 few:((AZ cpos (AC [e] X.env)).all (fun x=> !x.1) && (backToKw cpos (keywordEach [] X.env)).all (fun x=>x.1.isSome)
 &&decide (([e]:List Expr).length+([]:List Keyword).length+(if([]:List Keyword).isEmpty then 0 else 1)<30))=true
 line:(apos.endLine==cpos.line)=true
 trees:AZ cpos (AC [e] X.env)=[(false,eval e X.env)]
structure M2(X:Cx)(o:Expr)(m:Str)(apos:Pos)(e f:Expr)(cpos:Pos):Prop where
 base:Ai o m X.env (eval o X.env)=eval o X.env
 few:((AZ cpos (AC [e,f] X.env)).all (fun x=> !x.1) && (backToKw cpos (keywordEach [] X.env)).all (fun x=>x.1.isSome)
 &&decide (([e,f]:List Expr).length+([]:List Keyword).length+(if([]:List Keyword).isEmpty then 0 else 1)<30))=true
 line:(apos.endLine==cpos.line)=true
 trees:AZ cpos (AC [e,f] X.env)=[(false,eval e X.env),(false,eval f X.env)]
end L2
namespace Att
open PySem PySem.W PySem.Calls PyProof.Rows
theorem oO{P:Params}{h:BE}:∀ (ns:List Int) (vs:List BA),WellAll P h vs (ns.map WData.int)->IntsAre vs ns:=by
 intro ns
 induction ns with
 |nil=>intro vs w;rw[gB] at w;cases w;exact .nil
 |cons n ns ih=>
  intro vs w;rw[bY] at w;cases w with
  |cons a b=>cases a;exact .cons _ _<|ih _ b
theorem aBk{l:OpenLaw}{n:Nat}(hn:l.most=some n){P:Params}{h:BE}{args:List WData}{vals:List BA}
  (hpre:l.row.toRowW.claim.pre args=true) (hwl:WellAll P h vals args):
  ∃a vs ns,vals=[Value.ref a]/\args=[WData.list<|ns.map WData.int]/\h.get? a=some {cls:=.type "list",data:=.seq vs.toArray}/\IntsAre vs ns/\ns.length<=n:=by
 have hsh:WShape.hasAll [] args [.list .int]=true:=(pre_splitW hpre).1;have hc:l.pre.holds [] {args:=args}=true:=(pre_splitW hpre).2;obtain⟨d,r,rfl,h1,h2⟩:=hasAllW_cons hsh;obtain rfl:=hasAllW_nil h2;obtain⟨xs,rfl,h3⟩:=hasW_list h1;obtain⟨ns,rfl⟩:=items_int h3
 have hlen:ns.length<=n:=by
  unfold OpenLaw.pre at hc
  have h4:(WTm.not<|.lt (.lit<|.int (n:Int)) (.len<|.arg 0)).holds [] {args:=[.list<|ns.map .int]}=true:=by have h4:=(holds_andW hc).1;rw[hn] at h4;exact h4
  have h5:=condW_of h4 (w_not<|w_lt w_lit (w_len_list<|w_arg rfl));rw[aC] at h5;refine Nat.le_of_not_lt λq=> ?_
  have q':(n:Int)<((ns.length:Nat):Int):=by omega
  first
   |(rw[decide_eq_true q'] at h5;exact absurd h5<|by decide)
   |(simp at h5;omega)
 cases hwl with
 |cons w1 w2=>
  cases w2;cases w1 with
  |list ho hall=>exact⟨_,_,ns,rfl,rfl,ho,oO ns _ hall,hlen⟩
theorem aAT(l:OpenLaw)(args:List WData):l.row.toRowW.claim.post args (.bool true) args=true:=
 postW_of (r:=l.row.toRowW) (X:=(true==true))
  (show WShape.has [] (.bool true) .bool=true by first|rfl|decide|simp[WShape.has,WShape.arms,WShape.armsAll])
  (show(WTm.eq .res (.lit<|.bool true)).value [] {args:=args,res:=some<|.bool true,after:=args}=some (.bool<|true==true) from w_eq_bool (w_res rfl) w_lit) rfl
theorem attach_call{l:OpenLaw}{n:Nat}{q:AG}{loose:List Str}{XP:(Str->Option BA)->BE->Prop}{YP:AI->BE->Prop}{d:DefRec}
  (hn:l.most=some n) (hdf:d.params.defaults=[])
  (call:∀ (w:AI) (s₀ s₁:AA) (mg mb:Str→Option BA) (fa:BC) (o:BF) (pm cd doc:BA) (a:BC) (vs:List BA) (ns:List Int),
   Ground q loose [] XP w s₀ mg mb s₁.heap->YP w s₁.heap->
   s₁.heap.get? fa=some o->o.data=.func (docDef d.name d.params d.body d.scope pm cd doc)->s₁.heap.CodeRec cd d.name->mg d.name=some (.ref fa)->
   s₁.heap.get? a=some {cls:=.type "list",data:=.seq vs.toArray}->IntsAre vs ns->ns.length<=n->s₁.gens= #[]->
   codeAny (AF l.prog w) callerA (.call (.ref fa) ⟨[.ref a],[]⟩) (λr s'=>r=.ok (.ret (.bool true))/\OldK s₁.heap s'.heap/\s'.os=s₁.os/\AllBare s'.gens) s₁):
  WalkO q loose XP YP l.row.toRowW d [] (λf vs=>PySem.call f vs):=by
 intro w s₀ s₁ mg mb G Y fa o pm cd doc dV kV ho hd hcd hD hmg hg args vals as hpre hlay hrd hwl hlo;obtain rfl:dV=.none:=Dflts.none hD hdf;obtain rfl:kV=.none:=Dflts.noKw hD;obtain⟨a,vs,ns,rfl,rfl,hobj,hints,hlen⟩:=aBk hn hpre hwl;refine enter_call<|Ag (call w s₀ s₁ mg mb fa o pm cd doc a vs ns G Y ho (fd_plain hd) hcd hmg hobj hints hlen hg) λr s' hq=> ?_;obtain⟨rfl,h2,h3,h4⟩:=hq;exact⟨.inl ⟨.bool true,.bool true,[],rfl,λ_=>rfl,.bool true,aAT l _,λ_=>⟨List.Pairwise.nil,λ_ hm=>(nomatch hm)⟩⟩,h2,h3,h4⟩
end Att
namespace L2
open PySem PySem.Spec PyProof.Rows
theorem sR:∀ {vs:List BA}{ns:List Int},IntsAre vs ns->Vals (ns.map V.int) vs
 |_,_,.nil=>.nil
 |_,_,.cons n t h=>.cons ⟨t,rfl⟩<|sR h
def aHK(H:Hp):Prop:=∀b,H b=none\/∃o xs,H b=some (.frz o<|.lst xs)
theorem aCv{P:AG}{w:AI}{K:aB}{mg mb:Str->Option BA}{CX:CXT}{k:Nat}{fa a:BC}{fd:AK}{x:Str}{sp:Sp}{s₁:AA}{vs:List BA}{ns:List Int}
  (KX:K.In s₁.heap) (hns:s₁.heap.Ns AJ mg) (hb:s₁.heap.Ns builtinsNs mb) (hbb:∀x:Str,x≠"__name__"->mb x=AS x) (hlim:s₁.heap.NoLimit) (hg:s₁.gens= #[])
  (ha:s₁.heap.get? a=some {cls:=.type "list",data:=.seq vs.toArray}) (hi:IntsAre vs ns) (hl:ns.length<=AH) (hr:Room k callerA)
  (F:∀base:BE,K.In base->base.Ns AJ mg->FnOk P w K mg base CX k fa fd [x] sp) (hbind:∀ (s:AA) (u:BA),BindsTo s fd ⟨[u],[]⟩ [(x,u)])
  (hsp:∀H:Hp,aHK H->SqL K H a (ns.map V.int)->sp [.ref a] H (λv _=>v=.bl true) λ_ _ _=>False)
  (hCX:∀H e s',CX [] H s₁ (λ_ _ _=>False) e s'->False):
  codeAny (AF P w) callerA (.call (.ref fa) ⟨[.ref a],[]⟩) (λr s'=>r=.ok (.ret<|.bool true)/\OldK s₁.heap s'.heap/\s'.os=s₁.os/\AllBare s'.gens) s₁:=by
 have rv:=sR hi;have lenV:=hi.length
 have core:∀H:Hp,aHK H->SqL K H a (ns.map V.int)->HOk P w H s₁.heap->(∀b,H b≠none->b=a)->(H a≠none->K.lookup a=none)->
   codeAny (AF P w) callerA (.call (.ref fa) ⟨[.ref a],[]⟩) (λr s'=>r=.ok (.ret<|.bool true)/\OldK s₁.heap s'.heap/\s'.os=s₁.os/\AllBare s'.gens) s₁:=by
  intro H hO hS hok hA hK;have base_of:∀ {b:BC}{o:BF},s₁.heap.get? b=some o->H b=none->(tV s₁.heap H).get? b=some o:=λe n=>aBT e n
  have noA:∀ {b:BC}{o:BF}{es:Array DictEntry}{ep:Nat},s₁.heap.get? b=some o->o.data=.dict es ep->H b=none:=λ{b o es ep} e d=>by
   cases q:H b with
   |none=>rfl
   |some u=>have e':b=a:=hA b (by rw[q];simp);subst e';rw[ha] at e;cases e;have d':Data.seq vs.toArray _=Data.dict es ep:=d;cases d'
  have nsK:∀ {b:BC}{m:Str->Option BA},s₁.heap.Ns b m->(tV s₁.heap H).Ns b m:=λ{b m} ⟨o,es,ep,e,d,r⟩=>⟨o,es,ep,base_of e<|noA e d,d,r⟩
  have hKb:K.In (tV s₁.heap H):=fun b o e=>base_of (KX b o e) (by
   cases q:H b with
   |none=>rfl
   |some u=>
    have e':b=a:=hA b (by rw[q];simp);subst e'
    rw[hK (by rw[q];simp)] at e;cases e)
  have hM:Mod K mg (tV s₁.heap H):=⟨hKb,nsK hns,⟨mb,nsK hb,hbb⟩,let ⟨mc,h1,h2⟩:=hlim;⟨mc,nsK h1,h2⟩⟩;have e0:Env0 P w K mg (tV s₁.heap H) callerA [] s₁ H:=⟨rfl,hM,λb o e=>aFC e,zY<|aBp _ _,trivial,λb hb=>absurd (show b∈([]:List BC) from hb)<|by simp,hok,.of_eq hg⟩;refine Ag ((F _ hKb<|nsK hns).run callerA [] s₁ H ⟨[.ref a],[]⟩ [.ref a] [.ref a] _ _ hr e0 (hbind s₁<|.ref a) (.cons rfl .nil)<|hsp H hO hS) λr s' h=> ?_
  cases r with
  |error e=>exact(hCX H e s' h).elim
  |ok fl=>
   cases fl with
   |next=>exact False.elim h
   |brk=>exact False.elim h
   |cont=>exact False.elim h
   |ret u=>
    obtain⟨v,H',os,bare,un,hok',r',q⟩:=h;have q':v=.bl true:=q;subst q';obtain rfl:u=Value.bool true:=r';refine⟨rfl,OldK.of_keep λb o e=> ?_,os,bare⟩;cases q:H b with
    |none=>exact un.keep b o e q (by intro z;exact absurd (show b∈([]:List BC) from z)<|by simp)<|by simp
    |some u=>
     rcases hO b with z|⟨ob,xs,z⟩
     ·rw[q] at z;cases z
     ·have z2:=un.frzs b ob _ z;obtain⟨e1,_⟩:=hok b _ z;obtain⟨e2,_⟩:=hok' b _ z2;rw[e] at e1;cases e1;exact e2
 cases hk:K.lookup a with
 |some o=>
  have e:=KX a o hk;rw[ha] at e;cases e;refine core (λ_=>none) (λ_=>.inl rfl) (.inr ⟨_,vs.toArray,_,hk,rfl,rfl,rfl,by rw[aG,lenV];exact hl,by simpa using rv⟩) (λb u z=>by have z':(none:Option HO)=some u:=z;cases z') (λb z=>absurd rfl z) λz=>absurd rfl z
 |none=>
  refine core (λb=>if b=a then some (.frz {cls:=.type "list",data:=.seq vs.toArray} (.lst<|ns.map V.int)) else none) (λb=> ?_) (.inl<|.inr ⟨{cls:=.type "list",data:=.seq vs.toArray},if_pos rfl⟩) (λb u z=> ?_) (λb z=> ?_) λ_=>hk
  ·by_cases hb:b=a
   ·exact .inr ⟨_,_,if_pos hb⟩
   ·exact .inl<|if_neg hb
  ·by_cases hb:b=a
   ·have z':=(if_pos hb).symm.trans z;cases z';subst hb;exact⟨ha,by rw[aC];exact hl,vs,_,rv,ha⟩
   ·have z':=(if_neg hb).symm.trans z;cases z'
  ·by_cases hb:b=a
   ·exact hb
   ·exact absurd (if_neg hb) z
noncomputable abbrev KOf{K:aB}{h:BE}(_:K.In h):aB:=K
theorem walk_of{l:PySem.W.OpenLaw}{n k:Nat}{q:AG}{loose:List Str}{XP:(Str->Option BA)->BE->Prop}{YP:AI->BE->Prop}{d:DefRec}{K:Params->aB}{CX:AI->CXT}{sp:AI->Sp}{x:Str}
  (hn:l.most=some n) (hn2:n<=AH) (hdf:d.params.defaults=[]) (hr:Room k callerA)
  (hY:∀ (w:AI) (h:BE),YP w h->(K w.params).In h)
  (F:∀ (w:AI) (mg:Str→Option BA) (fa:BC) (h:BE),(K w.params).In h→h.Ns AJ mg→mg d.name=some (.ref fa)→
   ∃fd:AK,(∀ (s:AA) (u:BA),BindsTo s fd ⟨[u],[]⟩ [(x,u)])/\
    ∀base:BE,(K w.params).In base->base.Ns AJ mg->FnOk l.prog w (K w.params) mg base (CX w) k fa fd [x] (sp w))
  (hsp:∀ (w:AI) (H:Hp) (a:BC) (ns:List Int),ns.length<=n->aHK H->SqL (K w.params) H a (ns.map V.int)->sp w [.ref a] H (λv _=>v=.bl true) λ_ _ _=>False)
  (hCX:∀ (w:AI) (H:Hp) (s:AA) (e:BA) (s':AA),CX w [] H s (λ_ _ _=>False) e s'->False):
  PySem.W.WalkO q loose XP YP l.row.toRowW d [] (λf vs=>PySem.call f vs):=by
 refine Att.attach_call hn hdf λw s₀ s₁ mg mb fa o pm cd doc a vs ns G Y ho hd hcd hmg hobj hints hlen hg=> ?_
 have KX:=hY w _ Y;obtain⟨fd,hb,hF⟩:=F w mg fa _ KX G.T.g hmg;exact aCv KX G.T.g G.T.b G.T.builtins G.T.nolimit hg hobj hints (bM hlen hn2) hr hF hb (λH hO hS=>hsp w H a ns hlen hO hS) λH e s'=>hCX w H s₁ e s'
noncomputable def aEN(s:BG)(j:Nat):BG:=match s with
 |.ClassDef _ _ _ body _ _ _ _ _ _ _=>body.getD j<|.Pass ⟨0,0,0,0⟩
 |_=> .Pass ⟨0,0,0,0⟩
noncomputable def dN(s:BG):Arguments:=match s with
 |.FunctionDef _ a _ _ _ _ _ _ _ _=>a
 |_=>{posonlyargs:=[],args:=[],vararg:=none,kwonlyargs:=[],kw_defaults:=[],kwarg:=none,defaults:=[]}
noncomputable def cQ(s:BG):List BG:=match s with
 |.FunctionDef _ _ b _ _ _ _ _ _ _=>b
 |_=>[]
noncomputable def aT(s:BG):Scope:=match s with
 |.FunctionDef _ _ _ _ _ _ sc _ _ _=>sc
 |_=>{kind:=.function,names:=[],isGenerator:=false,isCoroutine:=false}
noncomputable abbrev CX0:CXT:=λ_ _ _ _ _ _=>False
noncomputable abbrev E0:XK:=λ_ _ _=>False
theorem aIG{X:Cx}:zU CX0 X E0:=λ_ _ _ _ _ _ _ h=>h.elim
structure Fun(K:aB)(x qual:Str)(st:BG)(f:BC)(fd:AK):Prop where
 ex:∃ (oc:BA) (od:Option BC) (kV doc pm:BA) (an:Option BC) (cdv ct:BA) (osl:Array (Option BA)),
  fd=bW x qual (dN st) (cQ st) (aT st) .none kV doc pm an cdv ct/\K.lookup f=some ⟨oc,od,.func fd,osl⟩/\dL K cdv qual=true
 kp:bZ K (.ref f)=true
variable {P:AG}{w:AI}{K:aB}{mg:Str->Option BA}{base:BE}
theorem Fun.ok{x qual:Str}{st:BG}{f:BC}{fd:AK}{N ps:List Str}{k:Nat}{sp:Sp}(F:Fun K x qual st f fd)(S:iI N ps (aT st))(len:∀vs H Q E,sp vs H Q E->vs.length=ps.length)
  (hbody:∀ (cdv:BA) (A:BD) (outer:List Env) (s:AA) (H:Hp) (vs:List V) (Q:VK) (E:XK),Room k (A.deeper (envOfC qual (aT st) s.heap.objs.size f cdv))→sp vs H Q E→
   ∃t,PSs (kA CX0 P w K mg base N qual (aT st) f cdv A outer s H E).nox (cQ st) t/\t {nx:=λ_ H'=>Q .non H',rt:=Q} (start N vs) H):FnOk P w K mg base CX0 (k+1) f fd ps sp:=by
 obtain⟨oc,od,kV,doc,pm,an,cdv,ct,osl,rfl,lk,hcd⟩:=F.ex;refine aEn lk hcd S len λA outer s H vs Q E hr hsp=> ?_
 obtain⟨t,h,q⟩:=hbody cdv A outer s H vs Q E hr hsp;exact⟨t,h.nox,q⟩
theorem Fun.binds{x qual:Str}{st:BG}{f:BC}{fd:AK}{ps:List Str}(F:Fun K x qual st f fd)
  (h:∀ (kV doc pm:BA) (an:Option BC) (cdv ct:BA) (us:List BA),us.length=ps.length->bindArgs (bW x qual (dN st) (cQ st) (aT st) .none kV doc pm an cdv ct) ⟨us,[]⟩=pure (ps.zip us)):Binds K fd ps []:=by
 obtain⟨oc,od,kV,doc,pm,an,cdv,ct,osl,rfl,lk,hcd⟩:=F.ex;exact .all<|h kV doc pm an cdv ct
theorem yO{x qual:Str}{st:BG}{f:BC}{oc:BA}{od an:Option BC}{osl:Array (Option BA)}{kV doc pm cdv ct:BA}(l:K.lookup f=some ⟨oc,od,.func<|bW x qual (dN st) (cQ st) (aT st) .none kV doc pm an cdv ct,osl⟩)
  (c:dL K cdv qual=true) (k:bZ K (.ref f)=true):Fun K x qual st f (bW x qual (dN st) (cQ st) (aT st) .none kV doc pm an cdv ct):=⟨⟨oc,od,kV,doc,pm,an,cdv,ct,osl,rfl,l,c⟩,k⟩
theorem fP{n:Nat}(h:n<=10000):n<AH:=jK h<|by decide
variable {X:Cx}
theorem pv(i:Nat){x:Str}{pos:Pos}(hN:X.N[i]? =some x:=by rfl)(hv:Vis X.env.scope x:=by first|exact Or.inl rfl|exact Or.inr (Or.inl rfl)|exact Or.inr (Or.inr rfl))(hd:(x==("__debug__":Str))=false:=by decide)
  (hcd:(x==("__classdict__":Str))=false:=by decide):PE X (.Name x pos) (lM i):=aHy hN hv hd hcd
theorem aFX{A B:Prop}(h:B):if false=true then A else B:=by rw[if_neg aU];exact h
theorem aFW{A B:Prop}(h:A):if true=true then A else B:=by rw[if_pos rfl];exact h
def Same(H H':Hp):Prop:=∀b o,H b=some o->H' b=some o
theorem Same.refl(H:Hp):Same H H:=λ_ _ h=>h
theorem Same.trans{H H1 H2:Hp}(a:Same H H1)(b:Same H1 H2):Same H H2:=λc o h=>b c o<|a c o h
theorem Same.free{H H':Hp}(e:Same H H'){l:BC}(h:H' l=aHV):H l=aHV:=by
 cases q:H l with
 |none=>rfl
 |some o=>rw[e l o q] at h;cases h
theorem Same.seq{H H':Hp}{a:BC}{xs:List V}(e:Same H H')(h:SqL K H a xs):SqL K H' a xs:=by
 rcases h with(h|⟨o,h⟩)|h
 ·exact .inl (.inl<|e _ _ h)
 ·exact .inl<|.inr ⟨o,e _ _ h⟩
 ·exact .inr h
noncomputable def wE(X:Cx)(e:Expr):TE:=λσ H Q=>∀ (pins:List (BC×BF)) (s:AA),Inv X pins σ H s->AE (AF X.prog X.w) X.A (eval e X.env) (EP X pins σ Q) X.xe s
noncomputable def wT(X:Cx)(e:Expr):TT:=λσ H Q=>∀ (pins:List (BC×BF)) (s:AA),Inv X pins σ H s->AE (AF X.prog X.w) X.A (isTrue e X.env<|eval e X.env) (TP X pins σ Q) X.xe s
noncomputable def wW(X:Cx)(e:Expr):TT:=λσ H Q=>∀ (whole:Sem BA) (pins:List (BC×BF)) (s:AA),Inv X pins σ H s->AE (AF X.prog X.w) X.A (isTrue e X.env whole) (TP X pins σ Q) X.xe s
noncomputable def wA(X:Cx)(es:List Expr):TA:=λσ H Q=>∀ (pos:Pos) (pins:List (BC×BF)) (s:AA),Inv X pins σ H s->AE (AF X.prog X.w) X.A (spliced (AZ pos<|AC es X.env)) (AP X pins σ Q) X.xe s
noncomputable def wS(X:Cx)(st:BG):TS:=λD σ H=>∀ (pins:List (BC×BF)) (s:AA),Inv X pins σ H s->AE (AF X.prog X.w) X.A (exec st X.env) (SP X pins D) X.xe s
noncomputable def wSs(X:Cx)(sts:List BG):TS:=λD σ H=>∀ (pins:List (BC×BF)) (s:AA),Inv X pins σ H s->AE (AF X.prog X.w) X.A (execs sts X.env) (SP X pins D) X.xe s
noncomputable def wG(X:Cx)(tg:Expr):TG:=λv σ H Q=>∀ (pins:List (BC×BF)) (s:AA) (u:BA),Inv X pins σ H s->RelV v u->
  AE (AF X.prog X.w) X.A (assign tg X.env u) (λ_ s'=>∃σ' H',Inv X pins σ' H' s'/\Q σ' H') X.xe s
noncomputable def wI(X:Cx)(tg iter:Expr):TI:=λσ H R=>∀ (pins:List (BC×BF)) (s:AA),Inv X pins σ H s->
  AE (AF X.prog X.w) X.A (eval iter X.env) (λv s1=>AE (AF X.prog X.w) X.A (pyIter v) (PIE X pins σ tg R) X.xe s1) X.xe s
variable {e:Expr}{es:List Expr}{st:BG}{sts:List BG}{tg iter:Expr}{σ:St}{H:Hp}
theorem dX:PE X e (wE X e):=λpins s _ _ _ I h=>h pins s I
theorem aFU:PT X e (wT X e):=λpins s _ _ _ I h=>h pins s I
theorem aIa:PW X e (wW X e):=λw pins s _ _ _ I h=>h w pins s I
theorem uU:PA X es (wA X es):=λpos pins s _ _ _ I h=>h pos pins s I
theorem aJk:PS X st (wS X st):=λpins s _ _ _ I h=>h pins s I
theorem pss_w:PSs X sts (wSs X sts):=λpins s _ _ _ I h=>h pins s I
theorem aIc:PG X tg (wG X tg):=λpins s _ _ _ u _ I r h=>h pins s u I r
theorem aJf:PI X tg iter (wI X tg iter):=λpins s _ _ _ I h=>h pins s I
theorem PE.to{t:TE}{Q:VK}(h:PE X e t)(q:t σ H Q):wE X e σ H Q:=λpins s I=>h pins s σ H Q I q
theorem PT.to{t:TT}{Q:Bool->Hp->Prop}(h:PT X e t)(q:t σ H Q):wT X e σ H Q:=λpins s I=>h pins s σ H Q I q
theorem PW.to{t:TT}{Q:Bool->Hp->Prop}(h:PW X e t)(q:t σ H Q):wW X e σ H Q:=λw pins s I=>h w pins s σ H Q I q
theorem PA.to{t:TA}{Q:List V->Hp->Prop}(h:PA X es t)(q:t σ H Q):wA X es σ H Q:=λpos pins s I=>h pos pins s σ H Q I q
theorem PS.to{t:TS}{D:oP}(h:PS X st t)(q:t D σ H):wS X st D σ H:=λpins s I=>h pins s σ H D I q
theorem PSs.to{t:TS}{D:oP}(h:PSs X sts t)(q:t D σ H):wSs X sts D σ H:=λpins s I=>h pins s σ H D I q
theorem wE.imp{Q Q':VK}(h:wE X e σ H Q)(k:∀v H',Q v H'->Q' v H'):wE X e σ H Q':=λpins s I=>thn (h pins s I) λu s' ⟨v,H',I',r,q⟩=>⟨v,H',I',r,k v H' q⟩
theorem wT.imp{Q Q':Bool->Hp->Prop}(h:wT X e σ H Q)(k:∀v H',Q v H'->Q' v H'):wT X e σ H Q':=λpins s I=>thn (h pins s I) λu s' ⟨H',I',q⟩=>⟨H',I',k u H' q⟩
theorem wW.imp{Q Q':Bool->Hp->Prop}(h:wW X e σ H Q)(k:∀v H',Q v H'->Q' v H'):wW X e σ H Q':=λw pins s I=>thn (h w pins s I) λu s' ⟨H',I',q⟩=>⟨H',I',k u H' q⟩
theorem wA.imp{Q Q':List V->Hp->Prop}(h:wA X es σ H Q)(k:∀v H',Q v H'->Q' v H'):wA X es σ H Q':=λpos pins s I=>thn (h pos pins s I) λu s' ⟨v,H',I',r,q⟩=>⟨v,H',I',r,k v H' q⟩
theorem SP.imp{pins:List (BC×BF)}{D D':oP}{f:Flow}{s:AA}(h:SP X pins D f s)(k1:∀σ H,D.nx σ H->D'.nx σ H)(k2:∀v H,D.rt v H->D'.rt v H)(k3:∀σ H,D.bk σ H->D'.bk σ H)(k4:∀σ H,D.ct σ H->D'.ct σ H):SP X pins D' f s:=by
 cases f with
 |next=>obtain⟨σ',H',I,q⟩:=h;exact⟨σ',H',I,k1 _ _ q⟩
 |brk=>obtain⟨σ',H',I,q⟩:=h;exact⟨σ',H',I,k3 _ _ q⟩
 |cont=>obtain⟨σ',H',I,q⟩:=h;exact⟨σ',H',I,k4 _ _ q⟩
 |ret u=>obtain⟨v,σ',H',I,r,q⟩:=h;exact⟨v,σ',H',I,r,k2 _ _ q⟩
theorem wSs.imp{D D':oP}(h:wSs X sts D σ H)(k1:∀σ H,D.nx σ H->D'.nx σ H)(k2:∀v H,D.rt v H->D'.rt v H)(k3:∀σ H,D.bk σ H->D'.bk σ H)(k4:∀σ H,D.ct σ H->D'.ct σ H):wSs X sts D' σ H:=
 λpins s I=>thn (h pins s I) λf s' q=>q.imp k1 k2 k3 k4
theorem wG.imp{v:V}{Q Q':St->Hp->Prop}(h:wG X tg v σ H Q)(k:∀σ' H',Q σ' H'->Q' σ' H'):wG X tg v σ H Q':=λpins s u I r=>thn (h pins s u I r) λ_ s' ⟨σ',H',I',q⟩=>⟨σ',H',I',k _ _ q⟩
variable {pins:List (BC×BF)}{F:Hp}{s:AA}
theorem HOk.track{h:BE}{a:BC}{o:HO}(ok:HOk P w H h)(hn:H a=none)(new:ObjOk P w (upd H a o) h a o):HOk P w (upd H a o) h:=λb u e=>by
 by_cases hb:b=a
 ·subst hb;rw[bA] at e;cases e;exact new
 ·rw[aX hb] at e;exact(ok b u e).stay (λ_ _ _ q=>q) (λc q=>by rw[aX<|bS q hn];exact q) λc xs q=>by rw[aX<|bS q hn];exact q
theorem Inv.track{a:BC}{o:HO}(I:Inv X pins σ H s)(hn:H a=none)(h0:X.s₀.heap.objs.size<=a)(hL:a≠X.env.locals)(hc:∀x c,X.env.cells.lookup x=some c->c≠a)
  (hp:∀p∈X.pn++pins,p.1≠a) (new:ObjOk X.prog X.w (upd H a o) s.heap a o):Inv X pins σ (upd H a o) s:=by
 refine⟨I.ok,I.os,I.bare,⟨I.base.keep,I.base.slot,λb u e n hx=> ?_,I.base.there,λb xs e=> ?_,λb u xs e=> ?_,λb ps e=> ?_⟩,I.loc,I.cell, ?_,λx c e=> ?_,λp hp'=> ?_,I.hok.track hn new,I.len⟩
 ·rw[aX (bG<|aY (aO e) h0)];exact I.base.free b u e n hx
 ·have q:=I.base.tups b xs e;rw[aX<|bS q hn];exact q
 ·have q:=I.base.frzs b u xs e;rw[aX<|bS q hn];exact q
 ·obtain⟨m,q⟩:=I.base.tbls b ps e;exact⟨m,by rw[aX<|bS q hn];exact q⟩
 ·rw[aX<|Ne.symm hL];exact I.free
 ·rw[aX<|hc x c e];exact I.freeC x c e
 ·obtain⟨e,n,r⟩:=I.pin p hp';exact⟨e,by rw[aX<|hp p hp'];exact n,r⟩
noncomputable def aHQ:HO->Prop
 |.lst _=>True
 |.tup _=>True
 |.dK _=>True
 |.frz _ (.lst _)=>True
 |.frz _ (.dK _)=>True
 |.ext _=>True
 |_=>False
def Smp(H:Hp):Prop:=∀b o,H b=some o->aHQ o
theorem ObjOk.smp{h:BE}{a:BC}{o:HO}(z:aHQ o)(x:ObjOk P w H h a o):ObjOk P w F h a o:=by
 cases o with
 |lst xs=>exact x
 |tup xs=>exact x
 |dK kvs=>exact x
 |frz ob u=>cases u with
  |lst xs=>exact x
  |dK kvs=>exact x
  |_=>exact absurd z λq=>q
 |ext φ=>exact x
 |_=>exact absurd z λq=>q
theorem Smp.sub(h:Smp H)(s:Same F H):Smp F:=λb o e=>h b o<|s b o e
theorem Inv.less(I:Inv X pins σ H s)(hF:Same F H)(h0:Same X.B₀ F)(hs:Smp F):Inv X pins σ F s:=by
 refine⟨I.ok,I.os,I.bare,⟨I.base.keep,I.base.slot,λb u e n hx=>hF.free<|I.base.free b u e n hx,I.base.there,λb xs e=>h0 _ _<|X.hB _ _ e trivial,λb u xs e=>h0 _ _<|X.hB _ _ e trivial,λb ps e=>⟨#[], ?_⟩⟩,I.loc,I.cell,hF.free I.free,λx c e=>hF.free<|I.freeC x c e,λp hp=> ?_,λb o e=>(I.hok b o<|hF b o e).smp<|hs b o e,I.len⟩
 ·have q:=h0 _ _<|X.hB _ _ e trivial;rw[q];simp
 ·obtain⟨e,n,r⟩:=I.pin p hp;exact⟨e,hF.free n,r⟩
noncomputable def clo(cells:List (Str×BC)):List (Str×NameKind)->List (Str×BC)->List (Str×BC)
 |[],cs=>cs
 |(n,k)::r,cs=>clo cells r (if(k==NameKind.free)=true then(n,(cells.lookup n).getD 0)::cs else cs)
theorem lV{env:Env}:∀ (names:List (Str×NameKind)) (cs:List (Str×BC)),(∀y∈names,y.2=.free->∃c,env.cells.lookup y.1=some c)->
  (forIn names cs (λ(x:Str×NameKind) (r:List (Str×BC))=>if(x.2==NameKind.free)=true then(do let c <-cellOf env x.1;pure (ForInStep.yield ((x.1,c)::r))) else pure (ForInStep.yield r)):Sem (List<|Str×BC))=pure (clo env.cells names cs)
 |[],cs,_=>rfl
 |(n,k)::r,cs,h=>by
  rw[List.forIn_cons]
  by_cases hk:(k==NameKind.free)=true
  ·obtain⟨c,hc⟩:=h (n,k) cG (by simpa using hk)
   have e:cellOf env n=pure c:=by unfold cellOf;have hc':env.cells.lookup n=some c:=hc;rw[hc']
   simp only[hk,if_true,e,pure_bind,clo];have hc':env.cells.lookup n=some c:=hc;rw[hc'];exact lV r _ λy hy=>h y<|bV _ hy
  ·simp only[hk,eZ,if_false,pure_bind,clo];exact lV r _ λy hy=>h y<|bV _ hy
theorem pS{env:Env}{scope:Scope}(h:∀y∈scope.names,y.2=.free->∃c,env.cells.lookup y.1=some c):closureFor scope env=pure (clo env.cells scope.names []):=by simp only[closureFor];have e:=lV (env:=env) scope.names [] h;simp only[bind_pure] ;exact e
theorem xO(cells:List (Str×BC)):∀ (names:List (Str×NameKind)) (cs:List (Str×BC)) (x:Str) (c:BC),(clo cells names cs).lookup x=some c->cs.lookup x=some c\/((x,NameKind.free)∈names/\c=(cells.lookup x).getD 0)
 |[],cs,x,c,h=>.inl h
 |(n,k)::r,cs,x,c,h=>by
  rcases xO cells r _ x c h with q|⟨q1,q2⟩
  ·by_cases hk:(k==NameKind.free)=true
   ·rw[if_pos hk,cY] at q;have ek:k=.free:=by simpa using hk
    by_cases hx:(x==n)=true
    ·simp only[hx] at q;have e:x=n:=by simpa using hx
     subst e;exact .inr ⟨by rw[ek];exact cG,(bN.inj q).symm⟩
    ·have hx':(x==n)=false:=by simpa using hx
     simp only[hx'] at q;exact .inl q
   ·rw[if_neg hk] at q;exact .inl q
  ·exact .inr ⟨bV _ q1,q2⟩
theorem aAF(cells:List (Str×BC)):∀ (names:List (Str×NameKind)) (cs:List (Str×BC)) (x:Str),(x,NameKind.free)∈names\/(∃c,cs.lookup x=some c)->∃c,(clo cells names cs).lookup x=some c
 |[],cs,x,h=>h.elim (λz=>nomatch z) λz=>z
 |(n,k)::r,cs,x,h=>by
  refine aAF cells r _ x ?_
  by_cases hk:(k==NameKind.free)=true
  ·rw[if_pos hk]
   by_cases hx:(x==n)=true
   ·exact .inr ⟨(cells.lookup n).getD 0,by rw[cY];simp only[hx]⟩
   ·have hx':(x==n)=false:=by simpa using hx
    rcases h with q|⟨c,q⟩
    ·rcases cD.mp q with z|z
     ·cases z;exact absurd (by simp) hx
     ·exact .inl z
    ·exact .inr ⟨c,by rw[cY];simp only[hx'];exact q⟩
  ·rw[if_neg hk]
   rcases h with q|q
   ·rcases cD.mp q with z|z
    ·cases z;exact absurd rfl hk
    ·exact .inl z
   ·exact .inr q
theorem mW{env:Env}:∀ {names:List (Str × NameKind)} {x:Str},((names.map fun (n,k)=>if (k==NameKind.free && env.scope.kind== .function && env.kindOf n==some .cell) then (n,NameKind.cell) else (n,k)).lookup x=some .cell∨
   (names.map λ(n,k)=>if(k==NameKind.free&&env.scope.kind==.function&&env.kindOf n==some .cell) then(n,NameKind.cell) else(n,k)).lookup x=some .free)->names.lookup x=some .cell\/names.lookup x=some .free
 |[],x,h=>by simp at h
 |(n,k)::r,x,h=>by
  have ih:= @mW env r x;rw[bY] at h;rw[cY]
  by_cases hc:(k==NameKind.free&&env.scope.kind==.function&&env.kindOf n==some .cell)=true
  ·simp only[hc,if_true,cY] at h;cases hx:x==n with
   |true=>
    have hk:k=.free:=by have:=hc;simp only[aW,beq_iff_eq] at this;exact this.1.1
    exact .inr (by rw[hk])
   |false=>simp only[hx] at h ⊢;exact ih h
  ·have hc':(k==NameKind.free&&env.scope.kind==.function&&env.kindOf n==some .cell)=false:=by simpa using hc
   simp only[hc',eZ,if_false,cY] at h;cases hx:x==n with
   |true=>simp only[hx] at h ⊢;exact h
   |false=>simp only[hx] at h ⊢;exact ih h
theorem aBd{prog:AG}{A:BD}{R:Result->AA->Prop}{elt target:Expr}{ifs:List Expr}{scope:Scope}{pos:Pos}{it acc:BA}{env:Env}(Ξ:BA->AA->Prop)(hΞ:∀e s,Ξ e s->notedBy (AF prog w) A env (λe s'=>R (.error e) s') e s)(J:Nat->AA->Prop)
  (turn:∀n s,J n s→AE (AF prog w) A (pyNext it) (fun r s₁=>match r with
   |none=>R (.ok .next) s₁
   | some v=>AE (AF prog w) A (letOwnedTupleGo target it v) (fun _ s₂=>AE (AF prog w) A (assign target env v) (fun _ s₃=>
     AE (AF prog w) A (forIn ifs true fun c r=>if r=true then do let ok ← isTrue c env (eval c env); pure (ForInStep.yield ok) else pure (ForInStep.yield r)) (fun ok s₄=>
      if ok=true then AE (AF prog w) A (eval elt env) (λx s₅=>AE (AF prog w) A (call (.builtin "list.append") [acc,x]) (λ_ s₆=>∃m,m<n/\J m s₆) Ξ s₅) Ξ s₄
      else ∃m,m<n/\J m s₄) Ξ s₃) Ξ s₂) Ξ s₁) Ξ s)
  (n:Nat) (h:J n s):codeAny (AF prog w) A (.compLoop (.ListComp elt [⟨target,iter,ifs,0⟩] scope pos) 0 it acc env) R s:=by
 refine codeAny_loop rfl J (λn s hI=> ?_) n h;show AE _ A ((compTurn (.ListComp elt [⟨target,iter,ifs,0⟩] scope pos) 0 it acc env).onRaise λx=>do noteFrame x env;theTreesLotGoes x) _ _ s;refine wpAny_noted ?_;rw[compTurn_list];refine AB<|Ah (AB<|AN (turn n s hI) (λr s₁ h₁=> ?_) λe s z=>hΞ e s z);cases r with
 |none=>exact AD h₁
 |some v=>
  refine AB<|AN h₁ (λ_ s₂ h₂=> ?_) λe s z=>hΞ e s z;refine AB<|AN h₂ (λ_ s₃ h₃=> ?_) λe s z=>hΞ e s z;refine AB<|AN h₃ (λok s₄ h₄=> ?_) λe s z=>hΞ e s z;cases ok with
  |false=>exact AD ⟨rfl,h₄⟩
  |true=>exact AB (AB<|AN h₄ (λx s₅ h₅=>AB<|AN h₅ (λ_ s₆ h₆=>AD<|AD ⟨rfl,h₆⟩) λe s z=>hΞ e s z) λe s z=>hΞ e s z)
noncomputable def aHH(X:Cx)(ifs:List Expr):TT:=λσ H Q=>∀ (pins:List (BC×BF)) (s:AA),Inv X pins σ H s->
 AE (AF X.prog X.w) X.A (forIn ifs true λc r=>if r=true then do let ok <-isTrue c X.env (eval c X.env);pure (ForInStep.yield ok) else pure (ForInStep.yield r)) (TP X pins σ Q) X.xe s
theorem xL{Q:Bool->Hp->Prop}(h:Q true H):aHH X [] σ H Q:=λ_ _ I=>wpAny_tests_nil ⟨H,I,h⟩
theorem xU{c:Expr}{Q:Bool->Hp->Prop}(h:wT X c σ H Q):aHH X [c] σ H Q:=λpins s I=>wpAny_tests_one<|h pins s I
noncomputable def cxB(X:Cx)(N:List Str)(scope:Scope)(cl:List (Str×BC))(C:BC)(ex:List BC)(s:AA)(H:Hp):Cx:=
 {prog:=X.prog,w:=X.w,K:=X.K,mg:=X.mg,base:=X.base,A:=X.A,N:=N,s₀:=s,H₀:=H,env:=compEnvC scope cl C X.env,outer:=X.stack,stack:=X.stack,ex:=ex,fn:=λ_=>false,calm:=true,pn:=[],xe:=λ_ _=>False}
noncomputable def lJ(X:Cx)(N:List Str)(scope:Scope)(cl:List (Str×BC))(C:BC)(ex:List BC)(s:AA)(H:Hp)(ξ:BA->AA->Prop):Cx:={cxB X N scope cl C ex s H with xe:=ξ}
noncomputable def pM(cap:List (Option Nat))(σ:St):St:=cap.map λo=>o.bind λk=>(σ[k]?).join
noncomputable def jR(scope sc:Scope):Bool:=scope.names.all λy=>(!(y.2==NameKind.free)||sc.names.lookup y.1==some NameKind.cell)&&!(y.2==NameKind.cell)&&(!(y.2==NameKind.local)||scope.names.lookup y.1==some NameKind.local)
noncomputable def iZ(N M:List Str)(scope sc:Scope)(cap:List (Option Nat)):Bool:=cap.length==N.length&&(cap.zip N).all λy=>match y.1 with
 |none=>true
 |some k=>M[k]? ==some y.2&&sc.names.lookup y.2==some NameKind.cell&&scope.names.lookup y.2==some NameKind.free
theorem fY{env:Env}(hf:env.scope.kind=.function):∀ {names:List (Str×NameKind)}{x:Str},names.lookup x=some .free->env.kindOf x=some .cell->
  (names.map λ(n,k)=>if(k==NameKind.free&&env.scope.kind==.function&&env.kindOf n==some .cell) then(n,NameKind.cell) else(n,k)).lookup x=some .cell
 |[],x,h,_=>by simp at h
 |(n,k)::r,x,h,hc=>by
  rw[bY];cases hx:x==n with
  |true=>
   have e:x=n:=by simpa using hx
   subst e;rw[cY] at h;simp only[beq_self_eq_true] at h;have ek:k=.free:=bN.inj h;subst ek;have hb:(NameKind.free==NameKind.free&&env.scope.kind==.function&&env.kindOf x==some .cell)=true:=by rw[hf,hc];rfl
   show List.lookup x ((if(NameKind.free==NameKind.free&&env.scope.kind==.function&&env.kindOf x==some .cell)=true then(x,NameKind.cell) else(x,NameKind.free))::_)=_;rw[if_pos hb,cY];simp only[beq_self_eq_true]
  |false=>
   rw[cY] at h;simp only[hx] at h;have ih:=fY hf (names:=r) h hc
   by_cases hb:(k==NameKind.free&&env.scope.kind==.function&&env.kindOf n==some .cell)=true
   ·simp only[hb,if_true,cY,hx];exact ih
   ·have hb':(k==NameKind.free&&env.scope.kind==.function&&env.kindOf n==some .cell)=false:=by simpa using hb
    simp only[hb',eZ,if_false,cY,hx];exact ih
theorem Inv.low(I:Inv X pins σ H s):∀b∈frs X.stack,b<s.heap.objs.size:=λb hb=>by obtain⟨_,o,ho,_⟩:=I.stack.mem hb;exact aO ho
theorem aBc{elt:Expr}{ifs:List Expr}{scope:Scope}{pos:Pos}{N:List Str}{cap:List (Option Nat)}{g:TG}{tt:TT}{te:TE}{J:It}{fp:List BC}{it:BC}{tn:Nat->BE->Prop}{E:BA->AA->Prop}{sc:Scope}(ξ:List (Str×BC)->BC->BA->AA->Prop)(ξ':List (Str×BC)->BC->BA->Hp->AA->Prop)
  (hc:X.calm=true) (hsc:X.env.scope=sc) (hcn:jR scope sc=true) (hcap:iZ N X.N scope sc cap=true) (hk:scope.kind=.function)
  (I:Inv X pins σ H s) (T:zT X.prog X.w X.K tg J fp it tn) (st:tn 0 s.heap) (hfp:∀b∈fp,qR X pins H b)
  (hg:∀cl C,PG (lJ X N scope cl C fp s H<|ξ cl C) tg g) (ht:∀cl C pi s2 σ2 H2 Q,Inv (lJ X N scope cl C fp s H<|ξ cl C) pi σ2 H2 s2->tt σ2 H2 Q->AE (AF X.prog X.w) X.A (forIn ifs true λc r=>if r=true then do let ok <-isTrue c (compEnvC scope cl C X.env) (eval c<|compEnvC scope cl C X.env);pure (ForInStep.yield ok) else pure (ForInStep.yield r)) (TP (lJ X N scope cl C fp s H<|ξ cl C) pi σ2 Q) (ξ cl C) s2)
  (he:∀cl C,PE (lJ X N scope cl C fp s H<|ξ cl C) elt te) (W:Nat->Nat->List V->St->Hp->Prop) (m0:Nat) (w0:W 0 m0 [] (pM cap σ) H)
  (RR:BA->BC->Result->AA->Prop)
  (hξ:∀cl C e s',ξ cl C e s'->∃pi σb H',Inv (lJ X N scope cl C fp s H<|ξ cl C) pi σb H' s'/\ξ' cl C e H' s')
  (hx:∀cl D C e H' s',ξ' cl C e H' s'->H' C=none->X.s₀.heap.objs.size<=C->C≠X.env.locals->(∀x c,X.env.cells.lookup x=some c->c≠C)->(∀p∈X.pn++pins,p.1≠C)->C∉frs X.stack->(∃m,s'.heap.Ns C m)->Inv X pins σ H' s'->notedBy (AF X.prog X.w) X.A (compEnvC scope cl C X.env) (λe s''=>RR (.ref D) C (.error e) s'') e s')
  (turn:∀i m ys σb H2,W i m ys σb H2→
   (J.stop i H2/\∀D C s',H2 D=none->H2 C=none->D≠C->X.s₀.heap.objs.size<=C->C≠X.env.locals->(∀x c,X.env.cells.lookup x=some c->c≠C)->(∀p∈X.pn++pins,p.1≠C)->C∉frs X.stack->(∃m,s'.heap.Ns C m)->Inv X pins σ (upd H2 D<|.lst ys) s'->RR (.ref D) C (.ok .next) s')\/
   (J.go i H2∧ys.length<AH∧∃Nx:List V→St→Hp→Prop,(∀ys' σ' H',Nx ys' σ' H'→∃m',m'<m∧W (i+1) m' ys' σ' H')∧
    ∀x H',J.yld i H2 x H'->g x σb H' λσ2 H3=>tt σ2 H3 λb H4=>if b=true then te σ2 H4 λv H5=>Nx (ys++[v]) σ2 H5 else Nx ys σ2 H4)):
  AE (AF X.prog X.w) X.A (newList []) (fun acc s₃=>AE (AF X.prog X.w) X.A (newFunctionEnv scope X.env.globals (clo X.env.cells scope.names []) [] X.env.qual none .none (some X.env)) (fun cenv s₄=>
   codeAny (AF X.prog X.w) X.A (.compStart (.ListComp elt [⟨tg,iter,ifs,0⟩] scope pos) 0 (.ref it) acc {cenv with scope:=relabel scope X.env}) (RR acc cenv.locals) s₄) E s₃) E s:=by
 have nm:∀y∈scope.names,(y.2=NameKind.free->sc.names.lookup y.1=some NameKind.cell)/\y.2≠NameKind.cell/\(y.2=NameKind.local->scope.names.lookup y.1=some NameKind.local):=λy hy=>by have q:=dI.mp hcn y hy;simp only[aW,rP,jY,beq_eq_false_iff_ne,ne_eq,beq_iff_eq] at q;exact⟨λe=>q.1.1.resolve_left λz=>z e,q.1.2,λe=>q.2.resolve_left λz=>z e⟩
 have fre:∀y∈scope.names,y.2=.free->∃c,X.env.cells.lookup y.1=some c:=λy hy e=>I.ok.has y.1 (.inl<|by show X.env.scope.names.lookup y.1=_;rw[hsc];exact(nm y hy).1 e)
 generalize hcl:clo X.env.cells scope.names []=cl
 have csub:∀x c,cl.lookup x=some c->X.env.cells.lookup x=some c:=λx c e=>by
  rw[<-hcl] at e
  rcases xO _ _ _ _ _ e with z|⟨z1,z2⟩
  ·simp at z
  ·obtain⟨c',q⟩:=fre _ z1 rfl;rw[q] at z2;rw[q,z2];rfl
 have chas:∀x,((relabel scope X.env).names.lookup x=some .cell\/(relabel scope X.env).names.lookup x=some .free)->∃c,cl.lookup x=some c:=λx e=>by
  rcases mW e with z|z
  ·exact absurd rfl (nm _<|PySem.mem_of_lookup z).2.1
  ·rw[<-hcl];exact aAF _ _ _ _ (.inl<|PySem.mem_of_lookup z)
 have cexi:∀x c,cl.lookup x=some c->c<s.heap.objs.size:=λx c e=>by obtain⟨v,o,ho,_⟩:=I.cell x c<|csub x c e;exact aO ho
 have cexX:∀x c,X.env.cells.lookup x=some c->c<s.heap.objs.size:=λx c e=>by obtain⟨v,o,ho,_⟩:=I.cell x c e;exact aO ho
 have pexX:∀p∈X.pn++pins,p.1<s.heap.objs.size:=λp hp=>aO (I.pin p hp).1
 have flow:∀b∈fp,b<s.heap.objs.size:=λb hb=>by obtain⟨o,ho,_⟩:=T.obj 0 _ st b hb;exact aO ho
 have fstk:∀b∈fp,b∉frs X.stack:=λb hb z=>by
  obtain⟨_,f1,f2,_⟩:=hfp b hb
  rcases cD.mp (I.stkSub b z) with q|q
  ·exact f1 q
  ·exact f2 q
 have hkr:(relabel scope X.env).kind=.function:=hk;refine AL<|wpAny_newFunctionEnv (λy hy=>(nm y hy).2.1) (by intro y hy;simp at hy) (λh₁ hns₁ hsb₁=> ?_) hk;dsimp only at hns₁ hsb₁ ⊢;generalize hH2:s.heap.push {cls:=.type "list",dict:=none,data:=.seq ([]:List BA).toArray}=G2 at hns₁ hsb₁ ⊢;have hC:G2.objs.size=s.heap.objs.size+1:=by rw[<-hH2,aHG]
 have hDC:s.heap.objs.size≠G2.objs.size:=by rw[hC];exact bG<|aGb _
 have hCle:s.heap.objs.size<=G2.objs.size:=by rw[hC];exact gA _
 have neC:∀b,b<s.heap.objs.size->b≠G2.objs.size:=λb hb=>by rw[hC];exact bG<|aFN hb
 have old:∀b o,s.heap.get? b=some o->h₁.get? b=some o:=λb o e=>hsb₁.extBut b o (neC b<|aO e) (aH _<|hH2▸aH _ e)
 have hacc:h₁.get? s.heap.objs.size=some {cls:=.type "list",dict:=none,data:=.seq ([]:List BA).toArray}:=hsb₁.extBut _ _ hDC (aH _<|hH2▸bT _ rfl);have env_eq:({newEnv scope G2.objs.size X.env.globals cl X.env.qual none .none (some X.env) 0 with scope:=relabel scope X.env}:Env)=compEnvC scope cl G2.objs.size X.env:=rfl;generalize hDD:s.heap.objs.size=D at *;generalize hCC:G2.objs.size=C at *
 have okX:(lJ X N scope cl C fp s H<|ξ cl C).Ok:=by
  refine⟨I.mod,hkr,I.ok.glob,I.ok.blt, ?_,λx y c a b=>I.ok.inj x y c (csub x c a)<|csub y c b,chas,(λx c z=>nomatch z),λ_=>I.ok.hd hc,I.ok.frames,.inl rfl,λb hb=>⟨neC b<|flow b hb,λx c e=>(hfp b hb).2.2.2.2.1 x c<|csub x c e⟩,I.bs, ?_,λb o e hb=> ?_,fstk,I.stack,I.stkFree⟩
  ·show s.heap.objs.size<=C;rw[hDD];exact hCle
  ·exact bM I.ok.bsz I.sz
  ·rcases(hfp b hb).2.2.2.1 with z|z
   ·exact I.ok.noex b o e z
   ·exact absurd (aY (aO e)<|bM I.ok.bsz z)<|eP _
 have capE:∀ (i:Nat) (x:Str) (v:V),N[i]? =some x->(pM cap σ)[i]? =some (some v)->∃k:Nat,X.N[k]? =some x/\σ[k]? =some (some v)/\sc.names.lookup x=some .cell/\scope.names.lookup x=some .free:=λi x v e1 e2=>by
  unfold iZ at hcap;rw[aW] at hcap;unfold pM at e2;rw[bK] at e2;cases q:cap[i]? with
  |none=>rw[q] at e2;cases e2
  |some o=>
   rw[q] at e2;have e2:(o.bind λk=>(σ[k]?).join)=some v:=bN.inj e2;cases o with
   |none=>cases e2
   |some k=>
    have e2:(σ[k]?).join=some v:=e2
    have mz:(some k,x)∈cap.zip N:=by refine dE (i:=i) ?_;rw[List.getElem?_zip_eq_some];exact⟨q,e1⟩
    have z:=dI.mp hcap.2 _ mz;simp only[aW,beq_iff_eq] at z;refine⟨k,z.1.1, ?_,z.1.2,z.2⟩;cases w:σ[k]? with
    |none=>rw[w] at e2;cases e2
    |some o'=>rw[w] at e2;have e2:o'=some v:=e2;rw[e2]
 have I0:Inv (lJ X N scope cl C fp s H<|ξ cl C) [(D,{cls:=.type "list",dict:=none,data:=.seq ([]:List BA).toArray})] (pM cap σ) H {s with heap:=h₁,toks:=s.toks+([]:List (Str×BA)).length}:=by
  have dfree:H D=none:=I.hok.fresh<|zY hDD;refine⟨okX,rfl,I.bare,Un.kept old,⟨_,hns₁,λi x v e1 e2 e3=> ?_⟩,λx c e=> ?_,I.hok.fresh (by rw[hDD];exact hCle),λx c e=>I.freeC x c<|csub x c e,λp hp=> ?_,I.hok.kept old, ?_⟩
  ·obtain⟨k,q1,q2,q3,q4⟩:=capE i x v e1 e2;have q3':X.env.scope.names.lookup x=some .cell:=by rw[hsc];exact q3
   obtain⟨m,_,hl⟩:=I.loc;obtain⟨u,ru,lk⟩:=hl k x v q1 q2 (.inr<|.inl q3');refine⟨u,ru,.inr ⟨.inl<|fY I.ok.kind q4 q3', ?_⟩⟩
   rcases lk with⟨z,_⟩|⟨_,c,z,ic⟩
   ·have z':X.env.scope.names.lookup x=some .local:=z;rw[q3'] at z';cases z'
   ·obtain⟨c',hc'⟩:=chas x (.inl<|fY I.ok.kind q4 q3');have:=csub x c' hc';rw[z] at this;have ec:c=c':=bN.inj this;subst ec;obtain⟨o,ho,hd⟩:=ic;exact⟨c,hc',o,old c o ho,hd⟩
  ·obtain⟨v,o,ho,hd⟩:=I.cell x c<|csub x c e;exact⟨v,o,old c o ho,hd⟩
  ·have hp':p=(D,{cls:=.type "list",dict:=none,data:=.seq ([]:List BA).toArray}):=by simpa[lJ,cxB] using hp
   subst hp';refine⟨hacc,dfree,hDC,λz=> ?_,λv z=>by cases z⟩;have:=I.low D z;rw[hDD] at this;exact eP _ this
  ·show(pM cap σ).length=N.length;unfold iZ at hcap;rw[aW] at hcap;unfold pM;rw[aC];simpa using hcap.1
 have dlow:∀b,b<D->b≠D:=λb hb=>bG hb
 have loop:∀s₃:AA,s₃={s with heap:=h₁,toks:=s.toks+([]:List (Str×BA)).length}->
   codeAny (AF X.prog X.w) X.A (.compLoop (.ListComp elt [⟨tg,iter,ifs,0⟩] scope pos) 0 (.ref it) (.ref D)<|compEnvC scope cl C X.env) (RR (.ref D) C) s₃:=by
  rintro s₃ rfl
  refine aBd (ξ cl C) (λe s' z=> ?_) (λn s'=>∃ (i:Nat) (ys:List V) (σb:St) (H2:Hp) (its:List BA) (nn:Nat),Inv (lJ X N scope cl C fp s H<|ξ cl C) [(D,{cls:=.type "list",dict:=none,data:=.seq its.toArray nn})] σb H2 s'/\tn i s'.heap/\(∀b∈fp,H2 b=none)/\Vals ys its/\ys.length<=AH/\W i n ys σb H2) ?_ m0
   ⟨0,[],pM cap σ,H,[],0,I0,T.keep 0 _ _ st λb hb o e=>old b o e,λb hb=>(hfp b hb).1,.nil,bL _,w0⟩
  ·obtain⟨pi,σb,H',I',z'⟩:=hξ cl C e s' z;obtain⟨m4,ns4,_⟩:=id I'.loc;have J0:Inv X pins σ H' s':=I.call' (ch:=fp) I'.os I'.base I'.hok I'.bare λb hb=>⟨(hfp b hb).2.2.2.1,(hfp b hb).2.1,(hfp b hb).2.2.2.2.1,(hfp b hb).2.2.2.2.2⟩
   have hLD:X.env.locals<D:=by rw[<-hDD];exact I.lt
   exact hx cl D C e H' s' z' I'.free (bM I.sz<|by rw[hDD];exact hCle) (gE<|aY hLD hCle) (λx c e=>neC c<|cexX x c e) (λp hp=>neC _<|pexX p hp) (λz=>absurd (I.low C z)<|by rw[hDD];exact oF.mpr hCle) ⟨m4,ns4⟩ J0
  rintro n s3 ⟨i,ys,σ3,H3,its,nn,I3,st3,fr3,rv3,hlen,w3⟩
  have fpX:∀ {H':Hp}{its':List BA}{nn':Nat},(∀b∈fp,H' b=none)->∀b∈fp,qR (lJ X N scope cl C fp s H<|ξ cl C) [(D,{cls:=.type "list",dict:=none,data:=.seq its'.toArray nn'})] H' b:=λ{H' its' nn'} hn b hb=>by
   refine⟨hn b hb,neC b<|flow b hb,fstk b hb,.inl hb,λx c e=>(hfp b hb).2.2.2.2.1 x c<|csub x c e,λp hp=> ?_⟩
   have hp':p.1=D:=by have q:p∈([]:List (BC×BF))++[(D,{cls:=.type "list",dict:=none,data:=.seq its'.toArray nn'})]:=hp;rw[kX,bP] at q;rw[q]
   rw[hp'];exact Ne.symm (dlow b<|flow b hb)
  rcases turn i n ys σ3 H3 w3 with⟨stop,fin⟩|⟨go,hsz,Nx,hN,step⟩
  ·refine thn (T.done (lJ X N scope cl C fp s H<|ξ cl C) rfl rfl rfl rfl i _ s3 σ3 H3 (ξ cl C) I3 (fpX fr3) st3 stop) λr s4 ⟨hr,I4⟩=> ?_
   subst hr;obtain⟨m4,ns4,_⟩:=id I4.loc;have J0:Inv X pins σ H3 s4:=I.call' (ch:=fp) I4.os I4.base I4.hok I4.bare λb hb=>⟨(hfp b hb).2.2.2.1,(hfp b hb).2.1,(hfp b hb).2.2.2.2.1,(hfp b hb).2.2.2.2.2⟩
   obtain⟨pd,pn,_⟩:=I4.pin (D,_)<|aN _ cG;have hLD:X.env.locals<D:=by rw[<-hDD];exact I.lt
   refine fin D C s4 pn I4.free hDC (bM I.sz<|by rw[hDD];exact hCle) (gE<|aY hLD hCle) (λx c e=>neC c<|cexX x c e) (λp hp=>neC _<|pexX p hp) (λz=>absurd (I.low C z)<|by rw[hDD];exact oF.mpr hCle) ⟨m4,ns4⟩ ?_;refine J0.track pn (by rw[<-hDD];exact I.sz) (gE hLD) (λx c e=>dlow c<|cexX x c e) (λp hp=>dlow _<|pexX p hp) ?_;exact⟨hlen,its,nn,rv3,pd⟩
  ·refine thn (T.item (lJ X N scope cl C fp s H<|ξ cl C) rfl rfl rfl rfl i _ s3 σ3 H3 (ξ cl C) I3 (fpX fr3) st3 go) λr s4 ⟨u,hr,h4⟩=> ?_
   subst hr;refine thn h4 λ_ s5 ⟨x,H5,I5,r5,y5,st5,fr5⟩=> ?_
   have I5':=I5.pinned (fpX fr5)<|T.obj _ _ st5;refine thn (hg cl C _ s5 σ3 H5 x u _ I5' r5<|step x H5 y5) λ_ s6 ⟨σ6,H6,I6,q6⟩=> ?_
   refine thn (ht cl C _ s6 σ6 H6 _ I6 q6) λb s7 ⟨H7,I7,q7⟩=> ?_
   have tnK:∀ {σ7:St}{H7:Hp}{s7:AA},Inv (lJ X N scope cl C fp s H<|ξ cl C) ([(D,{cls:=.type "list",dict:=none,data:=.seq its.toArray nn})]++kF fp s5.heap) σ7 H7 s7->tn (i+1) s7.heap/\∀b∈fp,H7 b=none:=λ{σ7 H7 s7} I7=>by refine⟨T.keep _ _ _ st5 λb hb o e=>(I7.pin (b,o)<|aN _ (aN _<|gL hb e)).1,λb hb=> ?_⟩;obtain⟨o,e,d⟩:=T.obj _ _ st5 b hb;exact(I7.pin (b,o)<|aN _ (aN _<|gL hb e)).2.1
   cases b with
   |false=>have q7':Nx ys σ6 H7:=q7;obtain⟨m',hm,w7⟩:=hN _ _ _ q7';obtain⟨t7,f7⟩:=tnK I7;exact⟨m',hm,i+1,ys,σ6,H7,its,nn,I7.unpinned,t7,f7,rv3,hlen,w7⟩
   |true=>
    have q7':te σ6 H7 λv H5=>Nx (ys++[v]) σ6 H5:=q7
    refine thn (he cl C _ s7 σ6 H7 _ I7 q7') λy s8 ⟨v,H8,I8,r8,q8⟩=> ?_
    obtain⟨m',hm,w8⟩:=hN _ _ _ q8;obtain⟨pd,pn,pL,pf,pc⟩:=I8.pin (D,{cls:=.type "list",dict:=none,data:=.seq its.toArray nn}) (aN _<|cE _ cG);have hits:its.length=ys.length:=rv3.length.symm;refine wpAny_list_append_plain (items:=its.toArray) ⟨nn,pd⟩ (λh9 pl9 sb9=> ?_) (by rw[aG,hits];exact eE hsz);obtain⟨n9,e9⟩:=pl9
    have e9':h9.get? D=some {cls:=.type "list",dict:=none,data:=.seq (its++[y]).toArray n9}:=by rw[e9];simp
    have I8':Inv (lJ X N scope cl C fp s H<|ξ cl C) (kF fp s5.heap) σ6 H8 s8:=I8.pins_of λp hp=>I8.pin p (aN _<|aN _ hp)
    have I9:Inv (lJ X N scope cl C fp s H<|ξ cl C) (kF fp s5.heap) σ6 H8 {s8 with heap:=h9,toks:=s8.toks}:=I8'.turned (it:=D) (λb o hb e=>sb9.extBut b o hb e) pn hDC (.inr<|by rw[<-hDD];exact aR _) (λx c e=>dlow c<|cexi x c e) λp hp=>by
     have hp':p∈kF fp s5.heap:=by simpa[lJ,cxB] using hp
     exact dlow _<|flow _ (nW hp').1
    have tn9:tn (i+1) h9:=T.keep _ _ _ st5 λb hb o e=>(I9.pin (b,o) (aN _<|gL hb e)).1
    have fr9:∀b∈fp,H8 b=none:=λb hb=>by obtain⟨o,e,d⟩:=T.obj _ _ st5 b hb;exact(I9.pin (b,o) (aN _<|gL hb e)).2.1
    refine⟨m',hm,i+1,ys++[v],σ6,H8,its++[y],n9,I9.pins_of λp hp=> ?_,tn9,fr9,Vals.append rv3<|.cons r8 .nil,by rw[aJ];exact hsz,w8⟩;have hp':p=(D,{cls:=.type "list",dict:=none,data:=.seq (its++[y]).toArray n9}):=bP.mp hp;subst hp';exact⟨e9',pn,pL,pf,λv z=>by cases z⟩
 exact codeAny_compStart_list (loop _ rfl) (T.self _ 0 _ _ _ (T.keep 0 _ _ st λb hb o e=>old b o e)<|loop _ rfl)
theorem xM{elt:Expr}{ifs:List Expr}{scope:Scope}{pos:Pos}{N:List Str}{cap:List (Option Nat)}{g:TG}{tt:TT}{te:TE}{J:It}{fp:List BC}{it:BC}{tn:Nat->BE->Prop}{E:BA->AA->Prop}{sc:Scope}
  (hc:X.calm=true) (hsc:X.env.scope=sc) (hcn:jR scope sc=true) (hcap:iZ N X.N scope sc cap=true) (hk:scope.kind=.function)
  (I:Inv X pins σ H s) (T:zT X.prog X.w X.K tg J fp it tn) (st:tn 0 s.heap) (hfp:∀b∈fp,qR X pins H b)
  (hg:∀cl C,PG (cxB X N scope cl C fp s H) tg g) (ht:∀cl C pi s2 σ2 H2 Q,Inv (cxB X N scope cl C fp s H) pi σ2 H2 s2->tt σ2 H2 Q->AE (AF X.prog X.w) X.A (forIn ifs true λc r=>if r=true then do let ok <-isTrue c (compEnvC scope cl C X.env) (eval c<|compEnvC scope cl C X.env);pure (ForInStep.yield ok) else pure (ForInStep.yield r)) (TP (cxB X N scope cl C fp s H) pi σ2 Q) (λ_ _=>False) s2)
  (he:∀cl C,PE (cxB X N scope cl C fp s H) elt te) (W:Nat->Nat->List V->St->Hp->Prop) (m0:Nat) (w0:W 0 m0 [] (pM cap σ) H)
  (RR:BA->BC->Result->AA->Prop)
  (turn:∀i m ys σb H2,W i m ys σb H2→
   (J.stop i H2/\∀D C s',H2 D=none->H2 C=none->D≠C->X.s₀.heap.objs.size<=C->C≠X.env.locals->(∀x c,X.env.cells.lookup x=some c->c≠C)->(∀p∈X.pn++pins,p.1≠C)->C∉frs X.stack->(∃m,s'.heap.Ns C m)->Inv X pins σ (upd H2 D<|.lst ys) s'->RR (.ref D) C (.ok .next) s')\/
   (J.go i H2∧ys.length<AH∧∃Nx:List V→St→Hp→Prop,(∀ys' σ' H',Nx ys' σ' H'→∃m',m'<m∧W (i+1) m' ys' σ' H')∧
    ∀x H',J.yld i H2 x H'->g x σb H' λσ2 H3=>tt σ2 H3 λb H4=>if b=true then te σ2 H4 λv H5=>Nx (ys++[v]) σ2 H5 else Nx ys σ2 H4)):
  AE (AF X.prog X.w) X.A (newList []) (fun acc s₃=>AE (AF X.prog X.w) X.A (newFunctionEnv scope X.env.globals (clo X.env.cells scope.names []) [] X.env.qual none .none (some X.env)) (fun cenv s₄=>
   codeAny (AF X.prog X.w) X.A (.compStart (.ListComp elt [⟨tg,iter,ifs,0⟩] scope pos) 0 (.ref it) acc {cenv with scope:=relabel scope X.env}) (RR acc cenv.locals) s₄) E s₃) E s:=
 aBc (λ_ _ _ _=>False) (λ_ _ _ _ _=>False) hc hsc hcn hcap hk I T st hfp hg ht he W m0 w0 RR (λ_ _ _ _ z=>z.elim) (λ_ _ _ _ _ _ z=>z.elim) turn
end L2
namespace DL
open PySem PySem.Spec PyProof.Rows L2
noncomputable abbrev St:=L2.St
inductive D where
 |non|bl (b:Bool)|int (i:Int)|str (x:Str)|tup (ds:List D)|lst (ds:List D)|dic|scr (ns:List Int)|dki (ks:List Key) (ds:List D)|any (G:V->Hp->Prop)
mutual
noncomputable def Rep(K:aB)(H:Hp):D->V->Prop
 |.non,v=>v=.non
 |.bl b,v=>v=.bl b
 |.int i,v=>v=.int i
 |.str x,v=>v=.str x
 |.tup ds,v=>∃a xs,v=.ref a/\H a=some (.tup xs)/\RepL K H ds xs
 |.lst ds,v=>∃a xs,v=.ref a/\H a=some (.lst xs)/\RepL K H ds xs
 |.dic,v=>∃a,v=.ref a/\H a=some (.dK [])
 |.dki ks ds,v=>∃a xs,v=.ref a/\(∃ob,H a=some (.frz ob (.dK<|ks.zip xs)))/\ks.length=ds.length/\RepL K H ds xs
 |.scr ns,v=>∃a,v=.ref a/\SqL K H a (ns.map V.int)
 |.any G,v=>(∃a,v=.ref a)/\∀H',Same H H'->G v H'
noncomputable def RepL(K:aB)(H:Hp):List D->List V->Prop
 |[],xs=>xs=[]
 |d::ds,xs=>∃y ys,xs=y::ys/\Rep K H d y/\RepL K H ds ys
end
mutual
theorem Rep.mono{K:aB}{H H':Hp}(h:Same H H'):∀ {d:D}{v:V},Rep K H d v->Rep K H' d v
 |.non,_,r=>by simpa only[Rep] using r
 |.bl _,_,r=>by simpa only[Rep] using r
 |.int _,_,r=>by simpa only[Rep] using r
 |.str _,_,r=>by simpa only[Rep] using r
 |.tup ds,v,r=>by simp only[Rep] at r ⊢;obtain⟨a,xs,e,q,rl⟩:=r;exact⟨a,xs,e,h _ _ q,RepL.mono h rl⟩
 |.lst ds,v,r=>by simp only[Rep] at r ⊢;obtain⟨a,xs,e,q,rl⟩:=r;exact⟨a,xs,e,h _ _ q,RepL.mono h rl⟩
 |.dki ks ds,v,r=>by simp only[Rep] at r ⊢;obtain⟨a,xs,e,⟨ob,q⟩,l,rl⟩:=r;exact⟨a,xs,e,⟨ob,h _ _ q⟩,l,RepL.mono h rl⟩
 |.dic,v,r=>by simp only[Rep] at r ⊢;obtain⟨a,e,q⟩:=r;exact⟨a,e,h _ _ q⟩
 |.any G,v,r=>by simp only[Rep] at r ⊢;exact⟨r.1,λH2 s=>r.2 H2<|h.trans s⟩
 |.scr ns,v,r=>by simp only[Rep] at r ⊢;obtain⟨a,e,q⟩:=r;exact⟨a,e,h.seq q⟩
theorem RepL.mono{K:aB}{H H':Hp}(h:Same H H'):∀ {ds:List D}{xs:List V},RepL K H ds xs->RepL K H' ds xs
 |[],_,r=>by simpa only[RepL] using r
 |d::ds,xs,r=>by simp only[RepL] at r ⊢;obtain⟨y,ys,e,q,rl⟩:=r;exact⟨y,ys,e,Rep.mono h q,RepL.mono h rl⟩
end
theorem RepL.len{K:aB}{H:Hp}:∀ {ds:List D}{xs:List V},RepL K H ds xs->xs.length=ds.length
 |[],_,r=>by simp only[RepL] at r;rw[r];rfl
 |d::ds,xs,r=>by simp only[RepL] at r;obtain⟨y,ys,rfl,_,q⟩:=r;simp only[bX,RepL.len q]
theorem RepL.get{K:aB}{H:Hp}:∀ {ds:List D}{xs:List V}{i:Nat}{d:D},RepL K H ds xs->ds[i]? =some d->∃v,xs[i]? =some v/\Rep K H d v
 |[],_,i,d,r,e=>by simp at e
 |d'::ds,xs,i,d,r,e=>by
  simp only[RepL] at r;obtain⟨y,ys,rfl,q,rl⟩:=r;cases i with
  |zero=>simp at e;subst e;exact⟨y,rfl,q⟩
  |succ i=>
   have e':ds[i]? =some d:=by simpa using e
   obtain⟨v,h1,h2⟩:=RepL.get rl e';exact⟨v,by simpa using h1,h2⟩
theorem RepL.app{K:aB}{H:Hp}:∀ {ds es:List D}{xs ys:List V},RepL K H ds xs->RepL K H es ys->RepL K H (ds++es) (xs++ys)
 |[],es,xs,ys,r,q=>by simp only[RepL] at r;subst r;exact q
 |d::ds,es,xs,ys,r,q=>by simp only[RepL] at r;obtain⟨y,zs,rfl,a,rl⟩:=r;show RepL K H (d::(ds++es)) (y::(zs++ys));simp only[RepL];exact⟨y,_,rfl,a,RepL.app rl q⟩
theorem RepL.nil{K:aB}{H:Hp}:RepL K H [] []:=by simp only[RepL]
theorem RepL.cons{K:aB}{H:Hp}{d:D}{ds:List D}{x:V}{xs:List V}(a:Rep K H d x)(b:RepL K H ds xs):RepL K H (d::ds) (x::xs):=by simp only[RepL];exact⟨x,xs,rfl,a,b⟩
theorem RepL.one{K:aB}{H:Hp}{d:D}{x:V}(a:Rep K H d x):RepL K H [d] [x]:=.cons a .nil
theorem RepL.uncons{K:aB}{H:Hp}{d:D}{ds:List D}{xs:List V}(r:RepL K H (d::ds) xs):∃y ys,xs=y::ys/\Rep K H d y/\RepL K H ds ys:=by simpa only[RepL] using r
theorem RepL.take{K:aB}{H:Hp}:∀ {ds:List D}{xs:List V} (n:Nat),RepL K H ds xs->RepL K H (ds.take n) (xs.take n)
 |_,_,0,_=>by simp only[List.take_zero];exact .nil
 |[],xs,n+1,r=>by simp only[RepL] at r;subst r;exact .nil
 |d::ds,xs,n+1,r=>by obtain⟨y,ys,rfl,a,rl⟩:=r.uncons;simp only[aBH];exact .cons a<|RepL.take n rl
theorem RepL.drop{K:aB}{H:Hp}:∀ {ds:List D}{xs:List V} (n:Nat),RepL K H ds xs->RepL K H (ds.drop n) (xs.drop n)
 |_,_,0,r=>by simpa only[lQ] using r
 |[],xs,n+1,r=>by simp only[RepL] at r;subst r;exact .nil
 |d::ds,xs,n+1,r=>by obtain⟨y,ys,rfl,a,rl⟩:=r.uncons;simp only[List.drop_succ_cons];exact RepL.drop n rl
theorem RepL.ints{K:aB}{H:Hp}:∀ {ns:List Int}{xs:List V},RepL K H (ns.map D.int) xs->xs=ns.map V.int
 |[],xs,r=>by simpa only[gB,RepL] using r
 |n::ns,xs,r=>by rw[bY] at r;obtain⟨y,ys,rfl,a,rl⟩:=r.uncons;simp only[Rep] at a;rw[a,RepL.ints rl];rfl
theorem RepL.set{K:aB}{H:Hp}{d:D}{v:V}(q:Rep K H d v):∀ {ds:List D}{xs:List V} (i:Nat),RepL K H ds xs->RepL K H (ds.set i d) (xs.set i v)
 |[],xs,i,r=>by simp only[RepL] at r;subst r;exact .nil
 |d'::ds,xs,i,r=>by
  obtain⟨y,ys,rfl,a,rl⟩:=r.uncons;cases i with
  |zero=>exact .cons q rl
  |succ i=>exact .cons a<|RepL.set q i rl
inductive Slot where
 |un|val (d:D)|own (l:BC) (ds:List D)|gh (d:D) (G:V->Hp->Prop)|od (l:BC) (ks:List Key) (ds:List D)|ox (ls:List BC) (G:V->Hp->Hp->Prop)
noncomputable def Wr(l:BC):HO->Prop
 |.lst _=>True
 |.dK _=>True
 |.ext φ=>∃o:BF,φ=(λh=>h.get? l=some o)/\∀v,o.data≠ .cell v
 |_=>False
noncomputable def gK(K:aB)(F H:Hp):Slot->Option V->Prop
 |.un,_=>True
 |.val d,o=>∃v,o=some v/\Rep K F d v
 |.own l ds,o=>o=some (.ref l)/\F l=none/\∃xs,H l=some (.lst xs)/\RepL K F ds xs
 |.od l ks ds,o=>o=some (.ref l)/\F l=none/\∃xs,H l=some (.dK<|ks.zip xs)/\ks.length=ds.length/\RepL K F ds xs
 |.gh d G,o=>∃v,o=some v/\Rep K F d v/\∀F',Same F F'->G v F'
 |.ox ls G,o=>∃v,o=some v/\(∀l∈ls,F l=none/\∃ob,H l=some ob/\Wr l ob)/\∀F' H',Same F F'->(∀l∈ls,∀ob,H l=some ob->H' l=some ob)->G v F' H'
noncomputable def SlotsOk(K:aB)(F H:Hp):List Slot->St->Prop
 |[],σ=>σ=[]
 |z::zs,σ=>∃o r,σ=o::r/\gK K F H z o/\SlotsOk K F H zs r
noncomputable def fV:Slot->List BC
 |.own l _=>[l]
 |.od l _ _=>[l]
 |.ox ls _=>ls
 |_=>[]
noncomputable def cA(sd:List Slot):List BC:=sd.flatMap fV
theorem lW(z:Slot)(zs:List Slot):cA (z::zs)=fV z++cA zs:=rfl
structure StF(K:aB)(H₀ F H:Hp)(σ:St)(sd:List Slot):Prop where
 base:Same H₀ F
 sub:Same F H
 smp:Smp H
 slots:SlotsOk K F H sd σ
 nd:(cA sd).Nodup
variable {K:aB}{H₀ F F' H H':Hp}{σ:St}{sd:List Slot}
theorem SlotsOk.get:∀ {sd:List Slot}{σ:St}{i:Nat}{z:Slot},SlotsOk K F H sd σ->sd[i]? =some z->∃o,σ[i]? =some o/\gK K F H z o
 |[],_,_,_,_,e=>by simp at e
 |z'::zs,σ,i,z,h,e=>by
  obtain⟨o,r,rfl,a,b⟩:=h;cases i with
  |zero=>simp at e;subst e;exact⟨o,rfl,a⟩
  |succ i=>obtain⟨o',h1,h2⟩:=SlotsOk.get (i:=i) b (by simpa using e);exact⟨o',by simpa using h1,h2⟩
theorem SlotsOk.set{z:Slot}{o:Option V}(q:gK K F H z o):∀ {sd:List Slot}{σ:St} (i:Nat),SlotsOk K F H sd σ->SlotsOk K F H (sd.set i z) (σ.set i o)
 |[],_,_,h=>by have h:_=_:=h;subst h;rfl
 |z'::zs,σ,i,h=>by
  obtain⟨o',r,rfl,a,b⟩:=h;cases i with
  |zero=>exact⟨o,r,rfl,q,b⟩
  |succ i=>exact⟨o',_,rfl,a,SlotsOk.set q i b⟩
theorem SlotsOk.mono(hF:Same F F'):∀ {sd:List Slot}{σ:St},(∀l∈cA sd,F' l=none/\∀xs,H l=some xs->H' l=some xs)->SlotsOk K F H sd σ->SlotsOk K F' H' sd σ
 |[],_,_,h=>h
 |z::zs,σ,ho,h=>by
  obtain⟨o,r,rfl,a,b⟩:=h;refine⟨o,r,rfl, ?_,SlotsOk.mono hF (λl hl=>ho l ?_) b⟩
  ·cases z with
   |un=>trivial
   |val d=>obtain⟨v,e,q⟩:=a;exact⟨v,e,q.mono hF⟩
   |gh d G=>obtain⟨v,e,q,g⟩:=a;exact⟨v,e,q.mono hF,λF2 s2=>g F2<|hF.trans s2⟩
   |own l ds=>obtain⟨e,n,xs,q,rl⟩:=a;have:=ho l (by simp[lW,fV]);exact⟨e,this.1,xs,this.2 _ q,rl.mono hF⟩
   |od l ks ds=>obtain⟨e,n,xs,q,ln,rl⟩:=a;have:=ho l (by simp[lW,fV]);exact⟨e,this.1,xs,this.2 _ q,ln,rl.mono hF⟩
   |ox ls G=>
    obtain⟨v,e,h,g⟩:=a;have ho':∀l∈ls,F' l=none/\∀xs,H l=some xs->H' l=some xs:=λl hl=>ho l<|cE _ hl
    exact⟨v,e,λl hl=>⟨(ho' l hl).1,let ⟨ob,q,w⟩:=(h l hl).2;⟨ob,(ho' l hl).2 _ q,w⟩⟩,λF2 H2 s2 k=>g F2 H2 (hF.trans s2) λl hl ob q=>k l hl ob<|(ho' l hl).2 _ q⟩
  ·exact aN _ hl
theorem SlotsOk.owns:∀ {sd:List Slot}{σ:St}{l:BC},SlotsOk K F H sd σ->l∈cA sd->F l=none/\∃ob,H l=some ob/\Wr l ob
 |[],_,_,_,e=>by simp[cA] at e
 |z::zs,σ,l,h,e=>by
  obtain⟨o,r,rfl,a,b⟩:=h
  rcases bF.mp (show l∈fV z++cA zs from e) with e|e
  ·cases z with
   |un=>cases e
   |val d=>cases e
   |gh d G=>cases e
   |own l' ds=>rw[bP.mp e];obtain⟨_,n,xs,q,_⟩:=a;exact⟨n,_,q,trivial⟩
   |od l' ks ds=>rw[bP.mp e];obtain⟨_,n,xs,q,_⟩:=a;exact⟨n,_,q,trivial⟩
   |ox ls G=>obtain⟨v,_,h,_⟩:=a;exact h l e
  ·exact SlotsOk.owns b e
theorem StF.lay{p:BC}{o:HO}(S:StF K H₀ F H σ sd)(hp:H p=none)(ho:aHQ o):StF K H₀ (upd F p o) (upd H p o) σ sd/\Same F (upd F p o):=by
 have fp:F p=none:=S.sub.free hp;have s1:Same F (upd F p o):=λb u e=>by rw[aX<|bS e fp];exact e
 refine⟨⟨λb u e=>s1 _ _<|S.base _ _ e,λb u e=> ?_,λb u e=> ?_,S.slots.mono s1 λl hl=> ?_,S.nd⟩,s1⟩
 ·by_cases h:b=p
  ·subst h;rw[bA] at e ⊢;exact e
  ·rw[aX h] at e ⊢;exact S.sub _ _ e
 ·by_cases h:b=p
  ·subst h;rw[bA] at e;cases e;exact ho
  ·rw[aX h] at e;exact S.smp _ _ e
 ·obtain⟨n,xs,q,_⟩:=S.slots.owns hl;have hne:l≠p:=bS q hp;exact⟨by rw[aX hne];exact n,λys e=>by rw[aX hne];exact e⟩
theorem StF.layO{p:BC}{xs:List V}(S:StF K H₀ F H σ sd)(hp:H p=none):StF K H₀ F (upd H p<|.lst xs) σ sd/\F p=none/\p∉cA sd:=by
 have fp:F p=none:=S.sub.free hp;refine⟨⟨S.base,λb u e=> ?_,λb u e=> ?_,S.slots.mono (Same.refl _) λl hl=> ?_,S.nd⟩,fp,λhl=> ?_⟩
 ·rw[aX<|bS e fp];exact S.sub _ _ e
 ·by_cases h:b=p
  ·subst h;rw[bA] at e;cases e;trivial
  ·rw[aX h] at e;exact S.smp _ _ e
 ·obtain⟨n,ys,q,_⟩:=S.slots.owns hl;have hne:l≠p:=bS q hp;exact⟨n,λys e=>by rw[aX hne];exact e⟩
 ·obtain⟨n,ys,q,_⟩:=S.slots.owns hl;rw[hp] at q;cases q
theorem StF.freeze{p:BC}{xs:List V}(S:StF K H₀ F H σ sd)(hp:H p=some (.lst xs))(fp:F p=none)(ho:p∉cA sd):StF K H₀ (upd F p<|.lst xs) H σ sd/\Same F (upd F p<|.lst xs):=by
 have s1:Same F (upd F p<|.lst xs):=λb u e=>by rw[aX<|bS e fp];exact e
 refine⟨⟨λb u e=>s1 _ _<|S.base _ _ e,λb u e=> ?_,S.smp,S.slots.mono s1 λl hl=> ?_,S.nd⟩,s1⟩
 ·by_cases h:b=p
  ·subst h;rw[bA] at e;rw[hp];exact e
  ·rw[aX h] at e;exact S.sub _ _ e
 ·obtain⟨n,ys,q,_⟩:=S.slots.owns hl;have hne:l≠p:=λz=>ho (z▸hl)
  exact⟨by rw[aX hne];exact n,λys e=>e⟩
theorem SlotsOk.len:∀ {sd:List Slot}{σ:St},SlotsOk K F H sd σ->σ.length=sd.length
 |[],_,h=>by have h:_=_:=h;rw[h];rfl
 |z::zs,σ,h=>by obtain⟨o,r,rfl,_,b⟩:=h;simp[SlotsOk.len b]
inductive R where
 |val (d:D)|own (ds:List D)|bor (ds:List D)|pr (d:D) (ls:List D)|ox (G:V->List BC->Hp->Hp->Prop)
def LOk(K:aB)(F H:Hp)(sd:List Slot)(v:V)(ds:List D):Prop:=
 ∃l xs,v=.ref l/\H l=some (.lst xs)/\RepL K F ds xs/\(F l=some (.lst xs)\/Slot.own l ds∈sd)
noncomputable def ResOk(K:aB)(F H:Hp)(sd:List Slot):R->V->Prop
 |.val d,v=>Rep K F d v
 |.own ds,v=>∃l xs,v=.ref l/\F l=none/\H l=some (.lst xs)/\RepL K F ds xs/\l∉cA sd
 |.bor ds,v=>LOk K F H sd v ds
 |.pr d ls,v=>∃t l xs y,v=.ref t/\F t=some (.tup [y,.ref l])/\Rep K F d y/\F l=none/\H l=some (.lst xs)/\RepL K F ls xs/\l∉cA sd
 |.ox G,v=>∃ls:List BC,ls.Nodup/\(∀l∈ls,F l=none/\(∃ob,H l=some ob/\Wr l ob)/\l∉cA sd)/\∀F' H',Same F F'->(∀l∈ls,∀ob,H l=some ob->H' l=some ob)->G v ls F' H'
noncomputable def R.keeps:R->Prop
 |.own _=>False
 |.pr _ _=>False
 |.ox _=>False
 |_=>True
variable {r:R}{v:V}
theorem ResOk.keep(hr:r.keeps)(h:ResOk K F H sd r v)(S':StF K H₀ F' H' σ sd)(s:Same F F'):ResOk K F' H' sd r v:=by
 cases r with
 |val d=>exact Rep.mono s h
 |own ds=>exact hr.elim
 |pr d ls=>exact hr.elim
 |ox G=>exact hr.elim
 |bor ds=>
  obtain⟨l,xs,e,hl,rl,q⟩:=h
  rcases q with q|q
  ·exact⟨l,xs,e,S'.sub _ _<|s _ _ q,rl.mono s,.inl<|s _ _ q⟩
  ·obtain⟨i,hi⟩:=List.getElem?_of_mem q;obtain⟨o,_,e2,_,ys,h1,h2⟩:=S'.slots.get hi;exact⟨l,ys,e,h1,h2,.inr q⟩
structure PEd(X:Cx)(sd:List Slot)(e:Expr)(r:R):Prop where
 run:∀ (σ:St) (F H:Hp),StF X.K X.B₀ F H σ sd->
 wE X e σ H λv H'=>∃F',StF X.K X.B₀ F' H' σ sd/\Same F F'/\ResOk X.K F' H' sd r v
instance {X:Cx}{sd:List Slot}{e:Expr}{r:R}:CoeFun (PEd X sd e r) (fun _=>∀ (σ:St) (F H:Hp),StF X.K X.B₀ F H σ sd→
 wE X e σ H λv H'=>∃F',StF X.K X.B₀ F' H' σ sd/\Same F F'/\ResOk X.K F' H' sd r v):=⟨PEd.run⟩
structure PTd(X:Cx)(sd:List Slot)(e:Expr)(b:Bool):Prop where
 run:∀ (σ:St) (F H:Hp),StF X.K X.B₀ F H σ sd->
 wT X e σ H λc H'=>c=b/\∃F',StF X.K X.B₀ F' H' σ sd/\Same F F'
instance {X:Cx}{sd:List Slot}{e:Expr}{b:Bool}:CoeFun (PTd X sd e b) (fun _=>∀ (σ:St) (F H:Hp),StF X.K X.B₀ F H σ sd→
 wT X e σ H λc H'=>c=b/\∃F',StF X.K X.B₀ F' H' σ sd/\Same F F'):=⟨PTd.run⟩
structure PWd(X:Cx)(sd:List Slot)(e:Expr)(b:Bool):Prop where
 run:∀ (σ:St) (F H:Hp),StF X.K X.B₀ F H σ sd->
 wW X e σ H λc H'=>c=b/\∃F',StF X.K X.B₀ F' H' σ sd/\Same F F'
instance {X:Cx}{sd:List Slot}{e:Expr}{b:Bool}:CoeFun (PWd X sd e b) (fun _=>∀ (σ:St) (F H:Hp),StF X.K X.B₀ F H σ sd→
 wW X e σ H λc H'=>c=b/\∃F',StF X.K X.B₀ F' H' σ sd/\Same F F'):=⟨PWd.run⟩
inductive RsOk(K:aB)(F H:Hp)(sd:List Slot):List R->List V->Prop
 |nil:RsOk K F H sd [] []
 |cons {r v rs vs}:ResOk K F H sd r v->RsOk K F H sd rs vs->RsOk K F H sd (r::rs) (v::vs)
structure PAd(X:Cx)(sd:List Slot)(es:List Expr)(rs:List R):Prop where
 run:∀ (σ:St) (F H:Hp),StF X.K X.B₀ F H σ sd->
 wA X es σ H λvs H'=>∃F',StF X.K X.B₀ F' H' σ sd/\Same F F'/\RsOk X.K F' H' sd rs vs
instance {X:Cx}{sd:List Slot}{es:List Expr}{rs:List R}:CoeFun (PAd X sd es rs) (fun _=>∀ (σ:St) (F H:Hp),StF X.K X.B₀ F H σ sd→
 wA X es σ H λvs H'=>∃F',StF X.K X.B₀ F' H' σ sd/\Same F F'/\RsOk X.K F' H' sd rs vs):=⟨PAd.run⟩
structure gQ where
 nx:List Slot->Prop
 rt:R->Prop
 bk:List Slot->Prop:=λ_=>False
 ct:List Slot->Prop:=λ_=>False
def aBQ(K:aB)(H₀ H:Hp)(r:R)(v:V):Prop:=∃F,Same H₀ F/\Same F H/\Smp H/\ResOk K F H [] r v
noncomputable def lft(X:Cx)(F₀:Hp)(E:gQ):oP where
 nx:=λσ H=>∃sd F,StF X.K X.B₀ F H σ sd/\Same F₀ F/\E.nx sd
 rt:=λv H=>∃r,aBQ X.K X.B₀ H r v/\E.rt r
 bk:=λσ H=>∃sd F,StF X.K X.B₀ F H σ sd/\Same F₀ F/\E.bk sd
 ct:=λσ H=>∃sd F,StF X.K X.B₀ F H σ sd/\Same F₀ F/\E.ct sd
structure PSd(X:Cx)(sd:List Slot)(sts:List BG)(E:gQ):Prop where
 run:∀ (σ:St) (F H:Hp),StF X.K X.B₀ F H σ sd->wSs X sts (lft X F E) σ H
instance {X:Cx}{sd:List Slot}{sts:List BG}{E:gQ}:CoeFun (PSd X sd sts E) (λ_=>∀ (σ:St) (F H:Hp),StF X.K X.B₀ F H σ sd->wSs X sts (lft X F E) σ H):=⟨PSd.run⟩
structure PSd1(X:Cx)(sd:List Slot)(st:BG)(E:gQ):Prop where
 run:∀ (σ:St) (F H:Hp),StF X.K X.B₀ F H σ sd->wS X st (lft X F E) σ H
instance {X:Cx}{sd:List Slot}{st:BG}{E:gQ}:CoeFun (PSd1 X sd st E) (λ_=>∀ (σ:St) (F H:Hp),StF X.K X.B₀ F H σ sd->wS X st (lft X F E) σ H):=⟨PSd1.run⟩
variable {X:Cx}{e a b c:Expr}{es:List Expr}{pos:Pos}{ra rb:R}{d:D}{ds:List D}
theorem PEd.val(h:PEd X sd e (.own ds)):PEd X sd e (.val<|.lst ds):=.mk λσ F H S=>(h σ F H S).imp λv H' ⟨F',S',s,l,xs,e,n,q,rl,no⟩=>by obtain⟨S2,s2⟩:=S'.freeze q n no;refine⟨_,S2,s.trans s2, ?_⟩;show Rep _ _ _ _;simp only[Rep];exact⟨l,xs,e,bA,rl.mono s2⟩
theorem PEd.bor(h:PEd X sd e (.val<|.lst ds)):PEd X sd e (.bor ds):=.mk λσ F H S=>(h σ F H S).imp λv H' ⟨F',S',s,q⟩=>by have q:Rep _ _ _ _:=q;simp only[Rep] at q;obtain⟨l,xs,e,q,rl⟩:=q;exact⟨F',S',s,l,xs,e,S'.sub _ _ q,rl,.inl q⟩
theorem aDr(i:Nat){x:Str}(hs:sd[i]? =some (.val d))(h:PE X (.Name x pos) (lM i)):PEd X sd (.Name x pos) (.val d):= .mk fun σ F H S=>h.to (by
 obtain⟨o,h1,v,h2,q⟩:=S.slots.get hs
 exact⟨v,by rw[h1,h2],F,S,Same.refl _,q⟩)
theorem gZ(i:Nat){x:Str}{l:BC}(hs:sd[i]? =some (.own l ds))(h:PE X (.Name x pos) (lM i)):PEd X sd (.Name x pos) (.bor ds):= .mk fun σ F H S=>h.to (by
 obtain⟨o,h1,h2,n,xs,q,rl⟩:=S.slots.get hs
 exact⟨.ref l,by rw[h1,h2],F,S,Same.refl _,l,xs,rfl,q,rl,.inr (dE hs)⟩)
theorem aM{i j}:PEd X sd (.Constant (.int i) j pos) (.val<|.int i):=.mk λσ F H S=>pe_int.to ⟨F,S,Same.refl _,by simp only[ResOk,Rep]⟩
theorem wR{i j}:PEd X sd (.Constant (.bool i) j pos) (.val<|.bl i):=.mk λσ F H S=>pe_bl.to ⟨F,S,Same.refl _,by simp only[ResOk,Rep]⟩
theorem mB{j}:PEd X sd (.Constant .none j pos) (.val .non):=.mk λσ F H S=>pe_non.to ⟨F,S,Same.refl _,by simp only[ResOk,Rep]⟩
theorem eL{i j}:PEd X sd (.Constant (.str i) j pos) (.val<|.str i):=.mk λσ F H S=>pe_str.to ⟨F,S,Same.refl _,by simp only[ResOk,Rep]⟩
theorem aE:PAd X sd [] []:=.mk λσ F H S=>pa_nil.to ⟨F,S,Same.refl _,.nil⟩
theorem aA{rs:List R}(h1:PEd X sd e r)(h2:PAd X sd es rs)(hk:r.keeps:=by trivial)(hs:AC (e::es) X.env=(false,eval e X.env)::AC es X.env:=by rfl):PAd X sd (e::es) (r::rs):=.mk λσ F H S=>(gF dX uU hs).to<|(h1 σ F H S).imp λv H1 ⟨F1,S1,s1,q1⟩=>(h2 σ F1 H1 S1).imp λvs H2 ⟨F2,S2,s2,q2⟩=>⟨F2,S2,s1.trans s2,.cons (q1.keep hk S2 s2) q2⟩
theorem RsOk.vals{K:aB}{F H:Hp}:∀ {ds:List D}{vs:List V},RsOk K F H sd (ds.map R.val) vs->RepL K F ds vs
 |[],_,.nil=>.nil
 |_::_,_,.cons q t=>.cons q<|RsOk.vals t
theorem gY{x1}(h:PAd X sd es (ds.map R.val))(hl:ds.length<=10000):PEd X sd (.Tuple es x1 pos) (.val<|.tup ds):=.mk λσ F H S=>
 (aHx uU).to ((h σ F H S).imp fun vs H1 ⟨F1,S1,s1,q1⟩=>by
  have rl:=q1.vals;refine⟨by rw[rl.len];exact eE<|fP hl,λp hp=> ?_⟩;obtain⟨S2,s2⟩:=S1.lay (o:=.tup vs) hp trivial;refine⟨_,S2,s1.trans s2, ?_⟩;simp only[ResOk,Rep]
  exact⟨p,vs,rfl,bA,rl.mono s2⟩)
theorem kC(h:PAd X sd es (ds.map R.val))(hl:ds.length<=10000):PEd X sd (.List es pos) (.own ds):=.mk λσ F H S=>
 (aHt uU).to ((h σ F H S).imp fun vs H1 ⟨F1,S1,s1,q1⟩=>by
  have rl:=q1.vals;refine⟨by rw[rl.len];exact eE<|fP hl,λp hp=> ?_⟩;obtain⟨S2,fp,no⟩:=S1.layO (xs:=vs) hp
  exact⟨_,S2,s1,p,vs,rfl,fp,bA,rl,no⟩)
theorem nS{op:Operator}{r2:R2}(ho:OpR X (AU op) r2)(ha:PEd X sd a ra)(hb:PEd X sd b rb)(hk:ra.keeps)
  (h:∀ (σ:St) (F H:Hp) (v u:V) (Q:VK),StF X.K X.B₀ F H σ sd->ResOk X.K F H sd ra v->ResOk X.K F H sd rb u->(∀w F' H',StF X.K X.B₀ F' H' σ sd->Same F F'->ResOk X.K F' H' sd r w->Q w H')->r2 v u H Q):
  PEd X sd (.BinOp a op b pos) r:=.mk λσ F H S=>
 (aIr ho dX dX).to ((ha σ F H S).imp λv H1 ⟨F1,S1,s1,q1⟩=>(hb σ F1 H1 S1).imp λu H2 ⟨F2,S2,s2,q2⟩=>h σ F2 H2 v u _ S2 (q1.keep hk S2 s2) q2 λw F' H' S' s' q'=>⟨F',S',(s1.trans s2).trans s',q'⟩)
theorem vA{op:CmpOp}{r2:R2}(ho:OpR X (AM op) r2)(ha:PEd X sd a ra)(hb:PEd X sd b rb)(hk:ra.keeps)(hm:AR op b=false){k:Bool}
  (h:∀ (σ:St) (F H:Hp) (v u:V) (Q:VK),StF X.K X.B₀ F H σ sd->ResOk X.K F H sd ra v->ResOk X.K F H sd rb u->(∀F' H',StF X.K X.B₀ F' H' σ sd->Same F F'->Q (.bl k) H')->r2 v u H Q):
  PEd X sd (.Compare a [op] [b] pos) (.val<|.bl k):=.mk λσ F H S=>
 (aFr ho dX dX hm).to ((ha σ F H S).imp λv H1 ⟨F1,S1,s1,q1⟩=>(hb σ F1 H1 S1).imp λu H2 ⟨F2,S2,s2,q2⟩=>h σ F2 H2 v u _ S2 (q1.keep hk S2 s2) q2 λF' H' S' s'=>⟨F',S',(s1.trans s2).trans s',by simp only[ResOk,Rep]⟩)
theorem gI{k:Bool}(h:PEd X sd e (.val<|.bl k))(he:∀whole,isTrue e X.env whole=(do let v <-whole;standAt e.pos;holding [v] (truthy v)):=by intro _;rfl):PTd X sd e k:=.mk λσ F H S=>
 (aHm dX he).to ((h σ F H S).imp fun v H1 ⟨F1,S1,s1,q1⟩=>by
  simp only[ResOk,Rep] at q1
  exact⟨k,q1,rfl,F1,S1,s1⟩)
theorem gD{op:CmpOp}{r2:R2}(ho:OpR X (AM op) r2)(ha:PEd X sd a ra)(hb:PEd X sd b rb)(hk:ra.keeps)(hm:AR op b=false){k:Bool}
  (h:∀ (σ:St) (F H:Hp) (v u:V) (Q:VK),StF X.K X.B₀ F H σ sd->ResOk X.K F H sd ra v->ResOk X.K F H sd rb u->(∀F' H',StF X.K X.B₀ F' H' σ sd->Same F F'->Q (.bl k) H')->r2 v u H Q):
  PTd X sd (.Compare a [op] [b] pos) k:=.mk λσ F H S=>
 (aAH ho dX dX hm).to ((ha σ F H S).imp λv H1 ⟨F1,S1,s1,q1⟩=>(hb σ F1 H1 S1).imp λu H2 ⟨F2,S2,s2,q2⟩=>h σ F2 H2 v u _ S2 (q1.keep hk S2 s2) q2 λF' H' S' s'=>⟨k,rfl,rfl,F',S',(s1.trans s2).trans s'⟩)
variable {st:BG}{rest:List BG}{E:gQ}
theorem wS.imp{D D':oP}(h:wS X st D σ H)(k1:∀σ H,D.nx σ H->D'.nx σ H)(k2:∀v H,D.rt v H->D'.rt v H)(k3:∀σ H,D.bk σ H->D'.bk σ H)(k4:∀σ H,D.ct σ H->D'.ct σ H):wS X st D' σ H:=
 λpins s I=>thn (h pins s I) λf s' q=>q.imp k1 k2 k3 k4
theorem iK{k:Bool}(h:PTd X sd e k):PTd X sd (.UnaryOp .Not e pos) (!k):=.mk λσ F H S=>(aGz aFU).to<|(h σ F H S).imp λc H' ⟨e,q⟩=>⟨by rw[e],q⟩
theorem xR{k:Bool}(h:PTd X sd a k):PWd X sd (.BoolOp .And [a] pos) k:=.mk λσ F H S=>(aEW aFU).to<|h σ F H S
theorem pG{k:Bool}(h:PTd X sd a k):PWd X sd (.BoolOp .Or [a] pos) k:=.mk λσ F H S=>(aGT aFU).to<|h σ F H S
theorem tX{k j:Bool}(h:PTd X sd a k)(h2:k=true->PWd X sd (.BoolOp .And (b::es) pos) j):PWd X sd (.BoolOp .And (a::b::es) pos) (k&&j):=.mk λσ F H S=>
 (aGA aFU aIa).to ((h σ F H S).imp fun c H' ⟨e,F',S',s'⟩=>by
  subst e;cases c with
  |false=>exact aFX ⟨rfl,F',S',s'⟩
  |true=>exact aFW ((h2 rfl σ F' H' S').imp λc2 H2 ⟨e2,F2,S2,s2⟩=>⟨by rw[e2];rfl,F2,S2,s'.trans s2⟩))
theorem lU{k j:Bool}(h:PTd X sd a k)(h2:k=false->PWd X sd (.BoolOp .Or (b::es) pos) j):PWd X sd (.BoolOp .Or (a::b::es) pos) (k||j):=.mk λσ F H S=>
 (aIy aFU aIa).to ((h σ F H S).imp fun c H' ⟨e,F',S',s'⟩=>by
  subst e;cases c with
  |true=>exact aFW ⟨rfl,F',S',s'⟩
  |false=>exact aFX ((h2 rfl σ F' H' S').imp λc2 H2 ⟨e2,F2,S2,s2⟩=>⟨by rw[e2];rfl,F2,S2,s'.trans s2⟩))
theorem PWd.pt{k:Bool}(h:PWd X sd e k):PTd X sd e k:=.mk λσ F H S=>(aIa).pt.to<|h σ F H S
theorem uM{op}{r:R}(h:PEd X sd a r):PEd X sd (.BoolOp op [a] pos) r:=.mk λσ F H S=>(aGZ dX).to<|h σ F H S
theorem qE{k j:Bool}(h:PEd X sd a (.val<|.bl k))(h2:k=true->PEd X sd (.BoolOp .And (b::es) pos) (.val<|.bl j)):PEd X sd (.BoolOp .And (a::b::es) pos) (.val (.bl<|k&&j)):=.mk λσ F H S=>
 (aGH dX dX).to ((h σ F H S).imp fun v H' ⟨F',S',s',q⟩=>by
  simp only[ResOk,Rep] at q;subst q;refine⟨k,rfl, ?_⟩;cases k with
  |false=>exact aFX ⟨F',S',s',by simp only[ResOk,Rep,lR]⟩
  |true=>exact aFW ((h2 rfl σ F' H' S').imp λv2 H2 ⟨F2,S2,s2,q2⟩=>⟨F2,S2,s'.trans s2,by simpa only[gO] using q2⟩))
theorem qB{k:Bool}(h:PEd X sd a (.val<|.bl k)):PEd X sd (.UnaryOp .Not a pos) (.val (.bl<|!k)):=.mk λσ F H S=>
 (aGJ dX).to ((h σ F H S).imp fun v H' ⟨F',S',s',q⟩=>by
  simp only[ResOk,Rep] at q
  exact⟨k,q,F',S',s',by simp only[ResOk,Rep]⟩)
theorem cT{op:Operator}{g:Int->Int->Int}{i j:Int}(ho:OpR X (AU op) (rI0 λi j=>.int<|g i j))(ha:PEd X sd a (.val<|.int i))(hb:PEd X sd b (.val<|.int j)):PEd X sd (.BinOp a op b pos) (.val (.int<|g i j)):=
 nS ho ha hb trivial λσ F H v u Q S q1 q2 k=>by simp only[ResOk,Rep] at q1 q2;exact⟨i,j,q1,q2,k _ F H S (Same.refl _)<|by simp only[ResOk,Rep]⟩
theorem aZ{op:Operator}{g:Int->Int->Int}{C:Int->Int->Prop}{i j:Int}(ho:OpR X (AU op) (rI C λi j=>.int<|g i j))(ha:PEd X sd a (.val<|.int i))(hb:PEd X sd b (.val<|.int j))(hc:C i j):PEd X sd (.BinOp a op b pos) (.val (.int<|g i j)):=
 nS ho ha hb trivial λσ F H v u Q S q1 q2 k=>by simp only[ResOk,Rep] at q1 q2;exact⟨i,j,q1,q2,hc,k _ F H S (Same.refl _)<|by simp only[ResOk,Rep]⟩
theorem eO:OpR X (AU .Mult) (rI IntMulOk λi j=>.int<|i*j):=opI λ_ _ _ _ _ _ _ hc q=>mul_int q hc
theorem gP:OpR X (AU .FloorDiv) (rI (λ_ j=>0<j/\j.natAbs.log2<9000) λi j=>.int<|i / j):=opI λi j _ _ _ _ _ hc q=>by have h1:(0:Int)<j:=hc.1;exact floordiv_int (by omega) (by rw[vF i<|by omega];exact q) (.inl<|PyProof.noPylong_of_log2 hc.2)
theorem aEo{op:CmpOp}{g:Int->Int->Bool}{i j:Int}(ho:OpR X (AM op) (rI0 λi j=>.bl<|g i j))(ha:PEd X sd a (.val<|.int i))(hb:PEd X sd b (.val<|.int j))(hm:AR op b=false):PEd X sd (.Compare a [op] [b] pos) (.val (.bl<|g i j)):=
 vA ho ha hb trivial hm λσ F H v u Q S q1 q2 k=>by simp only[ResOk,Rep] at q1 q2;exact⟨i,j,q1,q2,k F H S<|Same.refl _⟩
theorem iO{op:CmpOp}{g:Int->Int->Bool}{i j:Int}(ho:OpR X (AM op) (rI0 λi j=>.bl<|g i j))(ha:PEd X sd a (.val<|.int i))(hb:PEd X sd b (.val<|.int j))(hm:AR op b=false):PTd X sd (.Compare a [op] [b] pos) (g i j):=
 gD ho ha hb trivial hm λσ F H v u Q S q1 q2 k=>by simp only[ResOk,Rep] at q1 q2;exact⟨i,j,q1,q2,k F H S<|Same.refl _⟩
noncomputable def flt:D->Option V
 |.non=>some .non
 |.bl b=>some<|.bl b
 |.int i=>some<|.int i
 |.str x=>some<|.str x
 |_=>none
theorem lD{x:V}(h:flt d=some x)(q:Rep K H d v):v=x:=by
 cases d with
 |non=>simp only[Rep] at q;simp only[flt] at h;rw[q];exact bN.inj h
 |bl=>simp only[Rep] at q;simp only[flt] at h;rw[q];exact bN.inj h
 |int=>simp only[Rep] at q;simp only[flt] at h;rw[q];exact bN.inj h
 |str=>simp only[Rep] at q;simp only[flt] at h;rw[q];exact bN.inj h
 |tup=>simp only[flt] at h;cases h
 |lst=>simp only[flt] at h;cases h
 |dic=>simp only[flt] at h;cases h
 |dki=>simp only[flt] at h;cases h
 |any=>simp only[flt] at h;cases h
 |scr=>simp only[flt] at h;cases h
theorem fQ{d1 d2:D}{x y:V}{k:Bool}(ha:PEd X sd a (.val d1))(hb:PEd X sd b (.val d2))(h1:flt d1=some x)(h2:flt d2=some y)(hs:aHJ x y=true)(hk:decide (x=y)=k):PTd X sd (.Compare a [.Eq] [b] pos) k:=
 gD aIH ha hb trivial (eD _) λσ F H v u Q S q1 q2 kk=>by have e1:=lD h1 q1;have e2:=lD h2 q2;subst e1 e2;exact⟨hs,by rw[hk];exact kk F H S<|Same.refl _⟩
theorem aFe{d1 d2:D}{x y:V}{k:Bool}(ha:PEd X sd a (.val d1))(hb:PEd X sd b (.val d2))(h1:flt d1=some x)(h2:flt d2=some y)(hs:aHJ x y=true)(hk:(!decide (x=y))=k):PTd X sd (.Compare a [.NotEq] [b] pos) k:=
 gD aIR ha hb trivial (eD _) λσ F H v u Q S q1 q2 kk=>by have e1:=lD h1 q1;have e2:=lD h2 q2;subst e1 e2;exact⟨hs,by rw[hk];exact kk F H S<|Same.refl _⟩
theorem iG{i j:Int}(ha:PEd X sd a (.val<|.int i))(hb:PEd X sd b (.val<|.int j)):PTd X sd (.Compare a [.Eq] [b] pos) (decide<|i=j):=fQ ha hb rfl rfl rfl (by rw[oV,zZ])
theorem aAM{i j:Int}(ha:PEd X sd a (.val<|.int i))(hb:PEd X sd b (.val<|.int j)):PTd X sd (.Compare a [.NotEq] [b] pos) (!decide (i=j)):=aFe ha hb rfl rfl rfl (by rw[oV,zZ])
theorem lY{n:Nat}(ha:PEd X sd a (.val<|.tup ds))(hb:PEd X sd b (.val<|.int (n:Int)))(hd:ds[n]? =some d)(hs:jE b):PEd X sd (.Subscript a b pos) (.val d):=.mk λσ F H S=>
 (aBO aHr dX dX hs).to ((ha σ F H S).imp fun v H1 ⟨F1,S1,s1,q1⟩=>(hb σ F1 H1 S1).imp fun u H2 ⟨F2,S2,s2,q2⟩=>by
  have q1:=Rep.mono s2 q1;simp only[ResOk,Rep] at q1 q2;obtain⟨p,xs,e1,hp,rl⟩:=q1;obtain⟨w,hw,rw'⟩:=rl.get hd
  exact⟨p,xs,(n:Int),w,e1,q2,.of (S2.sub _ _ hp),uO hw,F2,S2,s1.trans s2,rw'⟩)
theorem kG{n:Nat}(ha:PEd X sd a (.bor ds))(hb:PEd X sd b (.val<|.int (n:Int)))(hd:ds[n]? =some d)(hs:jE b):PEd X sd (.Subscript a b pos) (.val d):=.mk λσ F H S=>
 (aBO vD dX dX hs).to ((ha σ F H S).imp fun v H1 ⟨F1,S1,s1,q1⟩=>(hb σ F1 H1 S1).imp fun u H2 ⟨F2,S2,s2,q2⟩=>by
  obtain⟨p,xs,e1,hp,rl,_⟩:=ResOk.keep (r:=.bor ds) trivial q1 S2 s2;simp only[ResOk,Rep] at q2;obtain⟨w,hw,rw'⟩:=rl.get hd
  exact⟨p,xs,(n:Int),w,e1,q2,.of hp,uO hw,F2,S2,s1.trans s2,rw'⟩)
theorem aDY{ns:List Int}{n:Nat}{z:Int}(ha:PEd X sd a (.val<|.scr ns))(hb:PEd X sd b (.val<|.int (n:Int)))(hd:ns[n]? =some z)(hs:jE b):PEd X sd (.Subscript a b pos) (.val<|.int z):=.mk λσ F H S=>
 (aBO vD dX dX hs).to ((ha σ F H S).imp fun v H1 ⟨F1,S1,s1,q1⟩=>(hb σ F1 H1 S1).imp fun u H2 ⟨F2,S2,s2,q2⟩=>by
  have q1:=Rep.mono (s2.trans S2.sub) q1;simp only[ResOk,Rep] at q1 q2;obtain⟨p,e1,hp⟩:=q1
  exact⟨p,_,(n:Int),.int z,e1,q2,hp,uO (by rw[bK,hd];rfl),F2,S2,s1.trans s2,by simp only[ResOk,Rep]⟩)
theorem iW{x:Str}{p:Pos}{id:String}{rr:List V->Hp->VK->Prop}{rs:List R}(hc:jO X (.builtin id) rr)(hg:Gl X x)(hm:X.mg x=none)(hv:AS x=some (.builtin id))(ha:PAd X sd (e::es) rs)
  (h:∀ (σ:St) (F H:Hp) (vs:List V) (Q:VK),StF X.K X.B₀ F H σ sd->RsOk X.K F H sd rs vs->(∀w F' H',StF X.K X.B₀ F' H' σ sd->Same F F'->ResOk X.K F' H' sd r w->Q w H')->rr vs H Q)
  (hn:x≠"__name__":=by decide) (hdb:(x==("__debug__":Str))=false:=by decide) (he:AC (e::es) X.env=(false,eval e X.env)::AC es X.env:=by rfl) (hpl:(AZ pos<|AC es X.env).any (·.1)=false:=by rfl):
  PEd X sd (.Call (.Name x p) (e::es) [] pos) r:=.mk λσ F H S=>
 (mO hc hg hm hv uU hn hdb he hpl).to ((ha σ F H S).imp λvs H1 ⟨F1,S1,s1,q1⟩=>h σ F1 H1 vs _ S1 q1 λw F' H' S' s' q'=>⟨F',S',s1.trans s',q'⟩)
theorem nV{x:Str}{p:Pos}{T:String}{rr:List V->Hp->VK->Prop}{rs:List R}(hc:jO X (.type T) rr)(hg:Gl X x)(hm:X.mg x=none)(hv:AS x=some (.type T))(ha:PAd X sd (e::es) rs)
  (h:∀ (σ:St) (F H:Hp) (vs:List V) (Q:VK),StF X.K X.B₀ F H σ sd->RsOk X.K F H sd rs vs->(∀w F' H',StF X.K X.B₀ F' H' σ sd->Same F F'->ResOk X.K F' H' sd r w->Q w H')->rr vs H Q)
  (hn:x≠"__name__":=by decide) (hdb:(x==("__debug__":Str))=false:=by decide) (he:AC (e::es) X.env=(false,eval e X.env)::AC es X.env:=by rfl) (hpl:(AZ pos<|AC es X.env).any (·.1)=false:=by rfl):
  PEd X sd (.Call (.Name x p) (e::es) [] pos) r:=.mk λσ F H S=>
 (aBe hc hg hm hv uU hn hdb he hpl).to ((ha σ F H S).imp λvs H1 ⟨F1,S1,s1,q1⟩=>h σ F1 H1 vs _ S1 q1 λw F' H' S' s' q'=>⟨F',S',s1.trans s',q'⟩)
theorem jF{p:Pos}(hg:Gl X "len")(hm:X.mg "len"=none)(ha:PEd X sd e (.val<|.tup ds))(hst:AC [e] X.env=(false,eval e X.env)::AC [] X.env:=by rfl):PEd X sd (.Call (.Name "len" p) [e] [] pos) (.val<|.int ds.length):=
 iW (he:=hst) kD hg hm PySem.boot_len (aA ha aE trivial hst) λσ F H vs Q S q k=>by
  cases q with
  |cons q1 q2=>cases q2;simp only[ResOk,Rep] at q1;obtain⟨p,xs,rfl,hp,rl⟩:=q1;refine⟨p,xs,rfl,.inr (.of<|S.sub _ _ hp),k _ F H S (Same.refl _) ?_⟩;simp only[ResOk,Rep,rl.len]
theorem nD{p:Pos}(hg:Gl X "len")(hm:X.mg "len"=none)(ha:PEd X sd e (.bor ds))(hst:AC [e] X.env=(false,eval e X.env)::AC [] X.env:=by rfl):PEd X sd (.Call (.Name "len" p) [e] [] pos) (.val<|.int ds.length):=
 iW (he:=hst) kD hg hm PySem.boot_len (aA ha aE trivial hst) λσ F H vs Q S q k=>by
  cases q with
  |cons q1 q2=>cases q2;obtain⟨p,xs,rfl,hp,rl,_⟩:=q1;refine⟨p,xs,rfl,.inl<|.of hp,k _ F H S (Same.refl _) ?_⟩;simp only[ResOk,Rep,rl.len]
theorem tR{p:Pos}{ns:List Int}(hg:Gl X "len")(hm:X.mg "len"=none)(ha:PEd X sd e (.val<|.scr ns))(hst:AC [e] X.env=(false,eval e X.env)::AC [] X.env:=by rfl):PEd X sd (.Call (.Name "len" p) [e] [] pos) (.val<|.int ns.length):=
 iW (he:=hst) kD hg hm PySem.boot_len (aA ha aE trivial hst) λσ F H vs Q S q k=>by
  cases q with
  |cons q1 q2=>cases q2;have q1:=Rep.mono S.sub q1;simp only[Rep] at q1;obtain⟨p,rfl,hp⟩:=q1;refine⟨p,_,rfl,.inl hp,k _ F H S (Same.refl _) ?_⟩;simp only[ResOk,Rep,aC]
noncomputable def tyD:D->BA
 |.non=>.type "NoneType"
 |.bl _=>.type "bool"
 |.int _=>.type "int"
 |.str _=>.type "str"
 |.tup _=>.type "tuple"
 |.lst _=>.type "list"
 |.dic=>.type "dict"
 |.dki _ _=>.type "dict"
 |.any _=>.type "dict"
 |.scr _=>.type "list"
theorem aIE(h:∀ns,d≠ .scr ns)(hA:∀G,d≠ .any G)(q:Rep K H d v):nF K H v (tyD d):=by
 cases d with
 |non=>simp only[Rep] at q;subst q;exact .non
 |bl b=>simp only[Rep] at q;subst q;exact .bl b
 |int b=>simp only[Rep] at q;subst q;exact .int b
 |str b=>simp only[Rep] at q;subst q;exact .str b
 |tup ds=>simp only[Rep] at q;obtain⟨a,xs,rfl,h,_⟩:=q;exact .tup h
 |lst ds=>simp only[Rep] at q;obtain⟨a,xs,rfl,h,_⟩:=q;exact .lst h
 |dic=>simp only[Rep] at q;obtain⟨a,rfl,h⟩:=q;exact .dK<|.of h
 |dki ks ds=>simp only[Rep] at q;obtain⟨a,xs,rfl,h,_⟩:=q;exact .dK<|.inr h
 |scr ns=>exact absurd rfl<|h ns
 |any G=>exact absurd rfl<|hA G
theorem aBD:jO X (.builtin "isinstance") (λxs H Q=>∃x t n k,xs=[x,.ty n]/\nF X.K H x t/\bO X.K t (.type n)=some k/\Q (.bl k) H):=by intro pins s σ H xs us Q I r h;obtain⟨x,t,n,k,rfl,ty,e,q⟩:=h;obtain⟨u,u',rfl,ru,ru'⟩:=xQ r;cases(show u'=Value.type n from ru');exact aBo I ru ty e λtk=>⟨.bl k,H,I.tok tk,rfl,q⟩
theorem aAw{x:Str}{n:String}(hg:Gl X x)(hm:X.mg x=none)(hv:AS x=some (.type n))(hn:x≠"__name__":=by decide)(hd:(x==("__debug__":Str))=false:=by decide):PE X (.Name x pos) (tC<|.ty n):=aEU hg hm hv rfl hn hd
theorem nE{x:Str}{n:String}{p p2:Pos}{k:Bool}(hg:Gl X "isinstance")(hm:X.mg "isinstance"=none)(hgx:Gl X x)(hmx:X.mg x=none)(hv:AS x=some (.type n))(ha:PEd X sd e (.val d))(hd:∀ns,d≠ .scr ns)
  (hk:bO X.K (tyD d) (.type n)=some k) (hA:∀G,d≠ .any G:=by(intro _ h;cases h)) (hn:x≠"__name__":=by decide) (hdb:(x==("__debug__":Str))=false:=by decide)
  (he:AC (e::[.Name x p2]) X.env=(false,eval e X.env)::AC [.Name x p2] X.env:=by rfl) (hpl:(AZ pos<|AC [.Name x p2] X.env).any (·.1)=false:=by rfl) (hs2:AC [.Name x p2] X.env=(false,eval (.Name x p2) X.env)::AC [] X.env:=by rfl):
  PEd X sd (.Call (.Name "isinstance" p) [e, .Name x p2] [] pos) (.val<|.bl k):=.mk λσ F H S=>
 (mO aBD hg hm boot_isinstance (gF dX (gF (aAw hgx hmx hv hn hdb) pa_nil hs2) he) (by decide) (by decide) he hpl).to ((ha σ F H S).imp λv H1 ⟨F1,S1,s1,q1⟩=>by exact⟨v,tyD d,n,k,rfl,aIE hd hA<|Rep.mono S1.sub q1,hk,F1,S1,s1,by simp only[ResOk,Rep]⟩)
theorem cM(h:E.nx sd):PSd X sd [] E:=.mk λσ F H S=>pss_nil.to ⟨sd,F,S,Same.refl _,h⟩
theorem aD(h:PSd1 X sd st {E with nx:=λsd'=>PSd X sd' rest E}):PSd X sd (st::rest) E:=.mk λσ F H S=>
 (aCl aJk pss_w).to (wS.imp (h σ F H S) (fun σ' H' ⟨sd',F',S',s',q⟩=>(q σ' F' H' S').imp (fun σ2 H2 ⟨sd2,F2,S2,s2,q2⟩=>⟨sd2,F2,S2,s'.trans s2,q2⟩) (fun v H2 q2=>q2)
  (λσ2 H2 ⟨sd2,F2,S2,s2,q2⟩=>⟨sd2,F2,S2,s'.trans s2,q2⟩) λσ2 H2 ⟨sd2,F2,S2,s2,q2⟩=>⟨sd2,F2,S2,s'.trans s2,q2⟩) (λv H q=>q) (λσ H q=>q) λσ H q=>q)
theorem aP(h:PSd1 X sd st E):PSd X sd [st] E:=.mk λσ F H S=>(aED aJk).to<|h σ F H S
theorem cV(h:PEd X sd e r)(hr:match r with | .bor _=>False|_=>True)(hE:E.rt r):PSd1 X sd (.Return (some e) pos) E:=.mk λσ F H S=>
 (aDZ dX).to ((h σ F H S).imp fun v H' ⟨F',S',s',q⟩=>⟨r,⟨F',S'.base,S'.sub,S'.smp,by
  cases r with
  |val d=>exact q
  |own ds=>obtain⟨l,xs,a,b,c,d,_⟩:=q;exact⟨l,xs,a,b,c,d,by simp[cA]⟩
  |pr d ls=>obtain⟨t,l,xs,y,a,b,c,d,e,f,_⟩:=q;exact⟨t,l,xs,y,a,b,c,d,e,f,by simp[cA]⟩
  |ox G=>obtain⟨ls,nd,h,g⟩:=q;exact⟨ls,nd,λl hl=>⟨(h l hl).1,(h l hl).2.1,by simp[cA]⟩,g⟩
  |bor ds=>exact hr.elim⟩,hE⟩)
theorem iQ(i:Nat){x:Str}{p:Pos}{l:BC}(hs:sd[i]? =some (.own l ds))(h:PE X (.Name x p) (lM i))(hE:E.rt (.own ds)):PSd1 X sd (.Return (some<|.Name x p) pos) E:=.mk λσ F H S=>
 (aDZ h).to (by
  obtain⟨o,h1,h2,n,xs,q,rl⟩:=S.slots.get hs
  exact⟨.ref l,by rw[h1,h2],.own ds,⟨F,S.base,S.sub,S.smp,l,xs,rfl,n,q,rl,by simp[cA]⟩,hE⟩)
theorem dJ{k:Bool}{a o:List BG}(h:PTd X sd c k)(h1:k=true->PSd X sd a E)(h2:k=false->PSd X sd o E):PSd1 X sd (.If c a o pos) E:=.mk λσ F H S=>
 (aIP aFU pss_w pss_w).to ((h σ F H S).imp fun k' H' ⟨e,F',S',s'⟩=>by
  have up:∀ {sts:List BG},PSd X sd sts E->wSs X sts (lft X F E) σ H':=λh=>(h σ F' H' S').imp (λσ2 H2 ⟨sd2,F2,S2,s2,q2⟩=>⟨sd2,F2,S2,s'.trans s2,q2⟩) (λv H2 q2=>q2)
   (λσ2 H2 ⟨sd2,F2,S2,s2,q2⟩=>⟨sd2,F2,S2,s'.trans s2,q2⟩) λσ2 H2 ⟨sd2,F2,S2,s2,q2⟩=>⟨sd2,F2,S2,s'.trans s2,q2⟩
  subst e;cases k' with
  |true=>exact aFW (up<|h1 rfl)
  |false=>exact aFX (up (h2 rfl)))
theorem iM:∀ {sd:List Slot}{z:Slot} (i:Nat),(cA sd).Nodup->(∀l,l∈fV z->l∉cA sd\/(∃z',sd[i]? =some z'/\l∈fV z'))->(hz:(fV z).Nodup:=by simp[fV])->(cA<|sd.set i z).Nodup/\∀l,l∈cA (sd.set i z)->l∈cA sd\/l∈fV z
 |[],z,i,h,_,_=>⟨h,λl hl=>.inl hl⟩
 |z'::zs,z,0,h,hz,nz=>by
  show(fV z++cA zs).Nodup/\∀l,l∈fV z++cA zs->_;obtain⟨n1,n2,n3⟩:=dS.mp (show(fV z'++cA zs).Nodup from h);refine⟨dS.mpr ⟨nz,n2,λa ha b hb e=> ?_⟩,λl hl=> ?_⟩
  ·subst e
   rcases hz a ha with y|⟨z2,e2,y⟩
   ·exact y<|aN _ hb
   ·have:z'=z2:=by simpa using e2
    subst this;exact n3 a y a hb rfl
  ·rcases bF.mp hl with y|y
   ·exact .inr y
   ·exact .inl<|aN _ y
 |z'::zs,z,i+1,h,hz,nz=>by
  show(fV z'++cA (zs.set i z)).Nodup/\∀l,l∈fV z'++cA (zs.set i z)->_;obtain⟨n1,n2,n3⟩:=dS.mp (show(fV z'++cA zs).Nodup from h)
  obtain ⟨i1,i2⟩:=iM (sd:=zs) (z:=z) i n2 (fun l hl=>by
   rcases hz l hl with y|⟨z2,e2,y⟩
   ·exact .inl λq=>y<|aN _ q
   ·exact .inr ⟨z2,by simpa using e2,y⟩) nz
  refine⟨dS.mpr ⟨n1,i1,λa ha b hb e=> ?_⟩,λl hl=> ?_⟩
  ·subst e
   rcases i2 a hb with y|y
   ·exact n3 a ha a y rfl
   ·rcases hz a y with y|⟨z2,e2,y⟩
    ·exact y<|cE _ ha
    ·have m:a∈cA zs:=eV.mpr ⟨z2,dE (by simpa using e2),y⟩;exact n3 a ha a m rfl
  ·rcases bF.mp hl with y|y
   ·exact .inl<|cE _ y
   ·rcases i2 l y with y|y
    ·exact .inl<|aN _ y
    ·exact .inr y
theorem StF.set(S:StF K H₀ F H σ sd)(i:Nat)(q:Rep K F d v):StF K H₀ F H (σ.set i (some v)) (sd.set i<|.val d):=
 ⟨S.base,S.sub,S.smp,S.slots.set (z:=.val d) ⟨v,rfl,q⟩ i,(iM i S.nd λl e=>by simp[fV] at e).1⟩
theorem StF.setO{l:BC}{xs:List V}(S:StF K H₀ F H σ sd)(i:Nat)(n:F l=none)(h:H l=some (.lst xs))(q:RepL K F ds xs)(no:l∉cA sd):StF K H₀ F H (σ.set i (some<|.ref l)) (sd.set i<|.own l ds):=
 ⟨S.base,S.sub,S.smp,S.slots.set (z:=.own l ds) ⟨rfl,n,xs,h,q⟩ i,(iM i S.nd λl' e=>by rw[bP.mp e];exact .inl no).1⟩
theorem eW(i:Nat){x:Str}{p:Pos}(hN:X.N.Nodup)(hi:X.N[i]? =some x)(hx:Loc X.env.scope x)(h:PEd X sd e (.val d))(hE:E.nx (sd.set i<|.val d))(hs:Ae e (some<|.Name x p) pos.line X.env=pure false:=by rfl)
  (hf:X.fn x=true\/X.env.scope.names.lookup x=some .local:=by first|exact .inl rfl|exact .inr rfl|assumption):PSd1 X sd (.Assign [.Name x p] e pos) E:=.mk λσ F H S=>
 (aDO hN hi hx dX hs hf).to ((h σ F H S).imp λv H' ⟨F',S',s',q⟩=>⟨_,F',S'.set i q,s',hE⟩)
theorem kW(i:Nat){x:Str}{p:Pos}(hN:X.N.Nodup)(hi:X.N[i]? =some x)(hx:Loc X.env.scope x)(h:PEd X sd e (.own ds))(hE:∀l,E.nx (sd.set i<|.own l ds))(hs:Ae e (some<|.Name x p) pos.line X.env=pure false:=by rfl)
  (hf:X.fn x=true\/X.env.scope.names.lookup x=some .local:=by first|exact .inl rfl|exact .inr rfl|assumption):PSd1 X sd (.Assign [.Name x p] e pos) E:=.mk λσ F H S=>
 (aDO hN hi hx dX hs hf).to ((h σ F H S).imp λv H' ⟨F',S',s',l,xs,e,n,q,rl,no⟩=>⟨_,F',by subst e;exact S'.setO i n q rl no,s',hE l⟩)
noncomputable def Le:List Slot->List Slot->Prop
 |[],[]=>True
 |x::xs,y::ys=>(y=.un\/x=y)/\Le xs ys
 |_,_=>False
theorem Le.refl:∀ (sd:List Slot),Le sd sd
 |[]=>trivial
 |_::xs=>⟨.inr rfl,Le.refl xs⟩
theorem Le.own:∀ {sd sd':List Slot},Le sd sd'->(cA sd').Sublist (cA sd)
 |[],[],_=>List.Sublist.refl _
 |[],_::_,h=>h.elim
 |_::_,[],h=>h.elim
 |x::xs,y::ys,h=>by
  obtain⟨h1,h2⟩:=h;have ih:=Le.own h2
  rcases h1 with rfl|rfl
  ·exact ih.trans<|List.sublist_append_right _ _
  ·exact List.Sublist.append (List.Sublist.refl _) ih
theorem Le.slots{K:aB}{F H:Hp}:∀ {sd sd':List Slot}{σ:St},Le sd sd'->SlotsOk K F H sd σ->SlotsOk K F H sd' σ
 |[],[],_,_,h=>h
 |[],_::_,_,h,_=>h.elim
 |_::_,[],_,h,_=>h.elim
 |x::xs,y::ys,σ,h,q=>by
  obtain⟨h1,h2⟩:=h;obtain⟨o,r,rfl,a,b⟩:=q;refine⟨o,r,rfl, ?_,Le.slots h2 b⟩
  rcases h1 with rfl|rfl
  ·trivial
  ·exact a
theorem StF.le{sd':List Slot}(S:StF K H₀ F H σ sd)(h:Le sd sd'):StF K H₀ F H σ sd':=⟨S.base,S.sub,S.smp,h.slots S.slots,S.nd.sublist h.own⟩
theorem kQ{sd':List Slot}{sts:List BG}(h:Le sd sd')(q:PSd X sd' sts E):PSd X sd sts E:=.mk λσ F H S=>q σ F H<|S.le h
theorem aHs{F₀:Hp}{sts:List BG}(s:Same F₀ F)(h:wSs X sts (lft X F E) σ H):wSs X sts (lft X F₀ E) σ H:=
 h.imp (λσ2 H2 ⟨sd2,F2,S2,s2,q2⟩=>⟨sd2,F2,S2,s.trans s2,q2⟩) (λv H2 q2=>q2) (λσ2 H2 ⟨sd2,F2,S2,s2,q2⟩=>⟨sd2,F2,S2,s.trans s2,q2⟩) λσ2 H2 ⟨sd2,F2,S2,s2,q2⟩=>⟨sd2,F2,S2,s.trans s2,q2⟩
theorem iL:∀ (sd:List Slot) (i:Nat),Le sd (sd.set i .un)
 |[],_=>trivial
 |_::xs,0=>⟨.inl rfl,Le.refl xs⟩
 |_::xs,i+1=>⟨.inr rfl,iL xs i⟩
theorem kE:∀ {sd:List Slot}{i:Nat}{l:BC}{z:Slot},(cA sd).Nodup->sd[i]? =some z->l∈fV z->l∉cA (sd.set i .un)
 |[],_,_,_,_,e,_=>by simp at e
 |y::zs,0,l,z,h,e,hl=>by
  have:y=z:=by simpa using e
  subst this;obtain⟨n1,n2,n3⟩:=dS.mp (show(fV y++cA zs).Nodup from h);exact λhm=>n3 l hl l hm rfl
 |y::zs,i+1,l,z,h,e,hl=>by
  have e':zs[i]? =some z:=by simpa using e
  obtain⟨n1,n2,n3⟩:=dS.mp (show(fV y++cA zs).Nodup from h);have ml:l∈cA zs:=eV.mpr ⟨_,dE e',hl⟩;intro hm
  rcases bF.mp (show l∈fV y++cA (zs.set i .un) from hm) with q|q
  ·exact n3 l q l ml rfl
  ·exact kE n2 e' hl q
theorem nZ{i:Nat}{l:BC}(h:(cA sd).Nodup)(e:sd[i]? =some (.own l ds)):l∉cA (sd.set i .un):=kE h e<|xW l
theorem mH{i:Nat}{o:Option V}(h:σ[i]? =some o):σ.set i o=σ:=by obtain⟨hi,e⟩:=bE.mp h;rw[<-e];exact List.set_getElem_self hi
theorem lA(sd:List Slot)(i:Nat)(x y:Slot):(sd.set i x).set i y=sd.set i y:=by simp
theorem StF.wr{i:Nat}{l:BC}{ds':List D}{xs':List V}(S:StF K H₀ F H σ sd)(hs:sd[i]? =some (.own l ds))(rl:RepL K F ds' xs'):StF K H₀ F (upd H l<|.lst xs') σ (sd.set i<|.own l ds'):=by
 obtain⟨o,h1,h2,n,xs,q,_⟩:=S.slots.get hs;have no:=nZ S.nd hs;have S0:=S.le<|iL sd i;refine⟨S.base,λb u e=> ?_,λb u e=> ?_, ?_, ?_⟩
 ·rw[aX<|bS e n];exact S.sub _ _ e
 ·by_cases h:b=l
  ·subst h;rw[bA] at e;cases e;trivial
  ·rw[aX h] at e;exact S.smp _ _ e
 ·have q1:SlotsOk K F (upd H l<|.lst xs') (sd.set i .un) σ:=S0.slots.mono (Same.refl _) λl' hl=>by
   obtain⟨n',ys,q',_⟩:=S0.slots.owns hl;have hne:l'≠l:=λz=>no<|z▸hl
   exact⟨n',λys e=>by rw[aX hne];exact e⟩
  have q2:=q1.set (z:=.own l ds') (o:=some<|.ref l) ⟨rfl,n,xs',bA,rl⟩ i;rw[lA,mH<|by rw[h1,h2]] at q2;exact q2
 ·have:=iM (z:=Slot.own l ds') i S0.nd λl' e=>by rw[bP.mp e];exact .inl no
  rw[lA] at this;exact this.1
theorem kB(i:Nat){l:BC}{sts:List BG}(hs:sd[i]? =some (.own l ds))(h:PSd X (sd.set i (.val<|.lst ds)) sts E):PSd X sd sts E:=.mk λσ F H S=>by obtain⟨o,h1,h2,n,xs,q,rl⟩:=S.slots.get hs;have S0:=S.le<|iL sd i;obtain⟨S1,s1⟩:=S0.freeze q n<|nZ S.nd hs;have S2:=S1.set (d:=.lst ds) (v:=.ref l) i (by simp only[Rep];exact⟨l,xs,rfl,bA,rl.mono s1⟩);rw[lA,mH<|by rw[h1,h2]] at S2;exact aHs s1<|h σ _ H S2
theorem gJ(i:Nat){x:Str}{p ap cp:Pos}{l:BC}(hs:sd[i]? =some (.own l ds))(hx:PE X (.Name x p) (lM i))(h:PEd X sd e (.val d))(hl:ds.length<=10000)(hE:E.nx (sd.set i (.own l<|ds++[d])))
  (hst:AC (e::[]) X.env=(false,eval e X.env)::AC [] X.env:=by rfl)
  (hm:PE X (.Call (.Attribute (.Name x p) "append" ap) [e] [] cp) (tBM X.K "list" aAx (lM i)<|aEl (wE X e) aIe):=by exact aGq tG PySem.F.slot_list_append PySem.F.type_list_append aBh (pv _) (gF dX pa_nil))
  (hsw:Ae (.Call (.Attribute (.Name x p) "append" ap) [e] [] cp) none pos.line X.env=pure false:=by rfl):
  PSd1 X sd (.Expr (.Call (.Attribute (.Name x p) "append" ap) [e] [] cp) pos) E:=.mk λσ F H S=>
 (pE hm hsw).to (by
  obtain⟨o,h1,h2,n,xs,q,rl⟩:=S.slots.get hs;refine⟨.ref l,by rw[h1,h2],.inl ⟨rfl,xs,.of q⟩,(h σ F H S).imp λv H1 ⟨F1,S1,s1,q1⟩=> ?_⟩;obtain⟨o',h1',h2',n',xs',q',rl'⟩:=S1.slots.get hs
  exact⟨l,xs',v,rfl,rfl,q',by rw[rl'.len];exact fP hl,_,F1,S1.wr hs (rl'.app (.one q1)),s1,hE⟩)
theorem zP(i:Nat){x:Str}{p ap cp:Pos}{l:BC}{ds2:List D}(hs:sd[i]? =some (.own l ds))(hx:PE X (.Name x p) (lM i))(h:PEd X sd e (.val<|.lst ds2))(hl:ds.length+ds2.length<=10000)(hE:E.nx (sd.set i (.own l<|ds++ds2)))
  (hst:AC (e::[]) X.env=(false,eval e X.env)::AC [] X.env:=by rfl)
  (hm:PE X (.Call (.Attribute (.Name x p) "extend" ap) [e] [] cp) (tBM X.K "list" aAo (lM i)<|aEl (wE X e) aIe):=by exact aGq tG PySem.F.slot_list_extend PySem.F.type_list_extend aBl (pv _) (gF dX pa_nil))
  (hsw:Ae (.Call (.Attribute (.Name x p) "extend" ap) [e] [] cp) none pos.line X.env=pure false:=by rfl):
  PSd1 X sd (.Expr (.Call (.Attribute (.Name x p) "extend" ap) [e] [] cp) pos) E:=.mk λσ F H S=>
 (pE hm hsw).to (by
  obtain⟨o,h1,h2,n,xs,q,rl⟩:=S.slots.get hs;refine⟨.ref l,by rw[h1,h2],.inl ⟨rfl,xs,.of q⟩,(h σ F H S).imp λv H1 ⟨F1,S1,s1,q1⟩=> ?_⟩;obtain⟨o',h1',h2',n',xs',q',rl'⟩:=S1.slots.get hs;simp only[ResOk,Rep] at q1;obtain⟨b,zs,rfl,hb,rb⟩:=q1
  exact⟨l,b,xs',zs,rfl,rfl,q',S1.sub _ _ hb,by rw[rl'.len,rb.len];exact eE (fP hl),_,F1,S1.wr hs (rl'.app rb),s1,hE⟩)
noncomputable def spC(K:aB)(n:Nat)(C:List D->R->Prop):Sp:=λvs H Q _=>vs.length=n/\Smp H/\∃ds r,RepL K H ds vs/\C ds r/\∀v H',aBQ K H H' r v->Q v H'
noncomputable def spF(K:aB)(n:Nat)(C:List D->R->Prop):Sp:=λvs H Q _=>vs.length=n/\Smp H/\∃F ds r,Same F H/\RepL K F ds vs/\C ds r/\∀v F2 F3 H',Same F F2->Same F2 F3->Same F3 H'->Same H H'->Smp H'->(∀b o,H b=some o->F b=none->F3 b=none)->ResOk K F2 F3 [] r v->Q v H'
noncomputable def merge(F H:Hp):Hp:=λb=>match F b with
 |some o=>some o
 |none=>H b
theorem mQ:Same F (merge F H):=λb o e=>by unfold merge;rw[e]
theorem nK{b:BC}(h:F b=none):merge F H b=H b:=by unfold merge;rw[h]
theorem FnOk.framed{P:AG}{w:AI}{mg:Str->Option BA}{base:BE}{k n:Nat}{f:BC}{fd:AK}{ps:List Str}{C:List D->R->Prop}(G:FnOk P w K mg base CX0 k f fd ps (spC K n C)):FnOk P w K mg base CX0 k f fd ps (spF K n C):=by
 refine⟨λvs H Q E h=> ?_,λA outer s H args us vs Q E hr e0 hb rv h=> ?_⟩
 ·obtain⟨hl,sm,F,ds,r,sF,rl,c,_⟩:=h;exact G.len vs F (λ_ _=>True) E ⟨hl,sm.sub sF,ds,r,rl,c,λ_ _ _=>trivial⟩
 ·obtain⟨hl,sm,F,ds,r,sF,rl,c,q⟩:=h;have e1:Env0 P w K mg base A outer s F:=⟨e0.frames,e0.mod,λb o e=>⟨(e0.bs b o e).1,sF.free (e0.bs b o e).2⟩,e0.bsz,e0.funs,λb hb=>sF.free<|e0.frf b hb,λb o e=>(e0.hok b o<|sF b o e).smp (sm b o<|sF b o e),e0.bare⟩;refine Ag (G.run A outer s F args us vs (λv F3=>aBQ K F F3 r v) E hr e1 hb rv ⟨hl,sm.sub sF,ds,r,rl,c,λv H' z=>z⟩) λrr s' hrr=> ?_
  cases rr with
  |error e=>exact hrr
  |ok fl=>
   cases fl with
   |ret u=>
    obtain⟨v,F3,ho,ha,un,hk,ru,F2,s1,s2,sm3,res⟩:=hrr
    have keepF:∀b o,H b=some o->F b=none->F3 b=none:=λb o e n=>by
     have lt:=e0.hok.lt e;cases g:s.heap.get? b with
     |none=>
      exfalso;have ob:=e0.hok b o e;have z:=sm b o e;cases o with
      |lst xs=>obtain⟨_,_,_,_,g'⟩:=ob;rw[g] at g';cases g'
      |tup xs=>obtain⟨_,_,_,oo,g',_⟩:=ob;rw[g] at g';cases g'
      |dK kvs=>obtain⟨_,_,_,_,oo,_,_,g',_⟩:=ob;rw[g] at g';cases g'
      |frz o2 u2=>obtain⟨g',_⟩:=ob;rw[g] at g';cases g'
      |ext φ=>obtain⟨_,⟨oo,g'⟩,_⟩:=ob;rw[g] at g';cases g'
      |_=>exact z
     |some ob=>exact un.free b ob g n<|by simp
    have keepO:∀b o,H b=some o->F b=none->∀ob,s.heap.get? b=some ob->s'.heap.get? b=some ob:=λb o e n ob g=>un.keep b ob g n (λhb=>by have:=e0.frf b hb;rw[e] at this;cases this)<|by simp
    have sH:Same H (merge F3 H):=λb o e=>by
     cases g:F b with
     |none=>rw[nK<|keepF b o e g];exact e
     |some o'=>have:=sF b o' g;rw[e] at this;cases this;exact mQ _ _ (s2 _ _<|s1 _ _ g)
    have smM:Smp (merge F3 H):=λb o e=>by
     cases g:F3 b with
     |some o'=>have:=mQ (H:=H) b o' g;rw[e] at this;cases this;exact sm3 b o g
     |none=>rw[nK g] at e;exact sm b o e
    refine⟨v,merge F3 H,ho,ha,⟨λb o g n hb hx=>un.keep b o g (sF.free n) hb hx,λb o g n hb hx=>un.slot b o g (sF.free n) hb hx,λb o g n hx=> ?_,un.there,λb xs e=>sH _ _ e,λb o u e=>sH _ _ e,λb ps e=>⟨#[],by rw[sH _ _ e];simp⟩⟩,λb o e=> ?_,ru, ?_⟩
    ·rw[nK<|un.free b o g (sF.free n) hx];exact n
    ·have z:=smM b o e;cases g:F3 b with
     |some o'=>have:=mQ (H:=H) b o' g;rw[e] at this;cases this;exact(hk b o g).smp z
     |none=>
      rw[nK g] at e
      have n:F b=none:=by
       cases g2:F b with
       |none=>rfl
       |some o2=>rw[s2 _ _<|s1 _ _ g2] at g;cases g
      have st:=(e0.hok b o e).smp (F:=λ_=>none) z
      have:ObjOk P w (fun _=>none) s'.heap b o:=st.stay (fun b2 u hb2 gg=>by
       rcases hb2 with rfl|hb2
       ·exact keepO _ o e n u gg
       ·cases hb2) (λb2 hb2=>nomatch hb2) λb2 xs hb2=>nomatch hb2
      exact this.smp z
    ·exact q v F2 F3 (merge F3 H) s1 s2 mQ sH smM keepF res
   |_=>exact hrr
structure aS(P:AG)(w:AI)(K:aB)(mg:Str->Option BA)(base:BE)(x:Str)(k n:Nat)(C:List D->R->Prop):Prop where
 ex:∃ (f:BC) (fd:AK) (ps:List Str),mg x=some (.ref f)/\bZ K (.ref f)=true/\Binds K fd ps []/\FnOk P w K mg base CX0 k f fd ps (spC K n C)
theorem aEP{x:Str}{p:Pos}{k n:Nat}{C:List D->R->Prop}(G:aS X.prog X.w X.K X.mg X.base x k n C)(hr:Room k X.A)(hg:Gl X x)(ha:PAd X sd (e::es) (ds.map R.val))(hc:C ds r)(hb:match r with | .bor _=>False|_=>True)(hn:ds.length=n)
  (hdb:(x==("__debug__":Str))=false:=by decide) (he:AC (e::es) X.env=(false,eval e X.env)::AC es X.env:=by rfl) (hpl:(AZ pos<|AC es X.env).any (·.1)=false:=by rfl):
  PEd X sd (.Call (.Name x p) (e::es) [] pos) r:=.mk λσ F H S=>by
 obtain⟨f,fd,ps,hm,hk,bd,G⟩:=G.ex;refine(aFc (FnOk.framed G) hr hg hm hk bd .nil aIG uU hdb he hpl).to<|(ha σ F H S).imp λvs H1 ⟨F1,S1,s1,q1⟩=> ?_;have rl:=q1.vals;refine⟨by rw[cS,rl.len];exact hn,S1.smp,F1,ds,r,S1.sub,by rw[cS];exact rl,hc,λv F2 F3 H' s2 s3 s4 sH sm kp res=> ?_⟩
 have no:∀l,l∈cA sd->F2 l=none/\F3 l=none:=λl hl=>by obtain⟨n1,xs,q,_⟩:=S1.slots.owns hl;have n3:=kp l _ q n1;exact⟨s3.free n3,n3⟩
 refine⟨F2,⟨λb o e=>s2 _ _<|S1.base _ _ e,s3.trans s4,sm,S1.slots.mono s2 λl hl=>⟨(no l hl).1,λys e=>sH _ _ e⟩,S1.nd⟩,s1.trans s2, ?_⟩;cases r with
 |val d=>exact res
 |own ds'=>obtain⟨l,xs,e,n,q,rl',_⟩:=res;exact⟨l,xs,e,n,s4 _ _ q,rl',λhl=>by rw[(no l hl).2] at q;cases q⟩
 |pr d ls=>obtain⟨t,l,xs,y,e,f,g,n,q,rl',_⟩:=res;exact⟨t,l,xs,y,e,f,g,n,s4 _ _ q,rl',λhl=>by rw[(no l hl).2] at q;cases q⟩
 |ox G=>obtain⟨ls,nd,h,g⟩:=res;refine⟨ls,nd,λl hl=> ?_,λF' H'' sF k=>g F' H'' sF λl hl ob q=>k l hl ob<|s4 _ _ q⟩;obtain⟨n,⟨ob,q,w⟩,_⟩:=h l hl;exact⟨n,⟨ob,s4 _ _ q,w⟩,λhm=>by rw[(no l hm).2] at q;cases q⟩
 |bor ds'=>exact hb.elim
noncomputable def R.toD:R->D
 |.val d=>d
 |.own ds=>.lst ds
 |.bor ds=>.lst ds
 |.pr d ls=>.tup [d,.lst ls]
 |.ox _=>.non
noncomputable def init(n:Nat)(ds:List D):List Slot:=ds.map Slot.val++aI (n-ds.length) .un
theorem vN{K:aB}{F H:Hp}:∀n:Nat,SlotsOk K F H (aI n .un) (aI n none)
 |0=>rfl
 |n+1=>⟨none,aI n none,rfl,trivial,vN n⟩
theorem iX{K:aB}{F H:Hp}{m n:Nat}:∀ {ds:List D}{vs:List V},RepL K F ds vs->SlotsOk K F H (ds.map Slot.val++aI n .un) (vs.map some++aI n none)
 |[],vs,r=>by simp only[RepL] at r;subst r;exact vN n
 |d::ds,vs,r=>by obtain⟨y,ys,rfl,a,rl⟩:=r.uncons;exact⟨some y,_,rfl,⟨y,rfl,a⟩,iX (m:=m) rl⟩
theorem iS(n:Nat):∀ds:List D,cA (ds.map Slot.val++aI n .un)=[]
 |[]=>by
  induction n with
  |zero=>rfl
  |succ n ih=>exact ih
 |_::ds=>iS n ds
theorem aDV{P:AG}{w:AI}{mg:Str->Option BA}{base:BE}{x qual:Str}{f:BC}{fd:AK}{N ps:List Str}{k:Nat}{C:List D->R->Prop}(F:Fun K x qual st f fd)(S:iI N ps (aT st))
  (body:∀ (cdv:BA) (A:BD) (outer:List Env) (s:AA) (H:Hp) (E:XK),Room k (A.deeper (envOfC qual (aT st) s.heap.objs.size f cdv))→∀ds r,ds.length=ps.length→C ds r→
   PSd (kA CX0 P w K mg base N qual (aT st) f cdv A outer s H E).nox (init N.length ds) (cQ st) {nx:=λ_=>r=.val .non,rt:=λr'=>r'=r}):FnOk P w K mg base CX0 (k+1) f fd ps (spC K ps.length C):=by
 refine F.ok S (λvs H Q E h=>h.1) λcdv A outer s H vs Q E hr h=> ?_
 obtain⟨hl,sm,ds,r,rl,c,q⟩:=h;have hds:ds.length=ps.length:=by rw[<-rl.len];exact hl
 refine⟨_,pss_w, ?_⟩;have hlen:N.length-vs.length=N.length-ds.length:=by rw[rl.len]
 have S0:StF K H H H (L2.start N vs) (init N.length ds):=by
  refine⟨Same.refl _,Same.refl _,sm, ?_, ?_⟩
  ·unfold L2.start init;rw[hlen];exact iX (m:=0) rl
  ·unfold init;rw[iS];exact fS
 refine(body cdv A outer s H E hr ds r hds c (L2.start N vs) H H S0).imp ?_ ?_ (λ_ _ ⟨_,_,_,_,z⟩=>z) λ_ _ ⟨_,_,_,_,z⟩=>z
 ·rintro σ' H' ⟨sd',F',S',s',e⟩;have e:r=.val .non:=e;subst e;exact q .non H' ⟨F',S'.base,S'.sub,S'.smp,by simp only[ResOk,Rep]⟩
 ·rintro v H' ⟨r',ro,e⟩;have e:r'=r:=e;subst e;exact q v H' ro
theorem aGG{P:AG}{w:AI}{mg:Str->Option BA}{base:BE}{x qual:Str}{f:BC}{fd:AK}{N ps:List Str}{k:Nat}{C:List D->R->Prop}(F:Fun K x qual st f fd)(S:iI N ps (aT st))
  (hm:mg x=some (.ref f)) (hb:∀ (kV doc pm:BA) (an:Option BC) (cdv ct:BA) (us:List BA),us.length=ps.length->bindArgs (bW x qual (dN st) (cQ st) (aT st) .none kV doc pm an cdv ct) ⟨us,[]⟩=pure (ps.zip us))
  (body:∀ (cdv:BA) (A:BD) (outer:List Env) (s:AA) (H:Hp) (E:XK),Room k (A.deeper (envOfC qual (aT st) s.heap.objs.size f cdv))→∀ds r,ds.length=ps.length→C ds r→
   PSd (kA CX0 P w K mg base N qual (aT st) f cdv A outer s H E).nox (init N.length ds) (cQ st) {nx:=λ_=>r=.val .non,rt:=λr'=>r'=r}):aS P w K mg base x (k+1) ps.length C:=
 ⟨f,fd,ps,hm,F.kp,F.binds hb,aDV F S body⟩
variable {tg iter:Expr}
def ItD(K:aB)(F₁:Hp)(P:Hp->Hp->Prop)(J:It)(ds:List D):Prop:=∀ (F H:Hp),Same F₁ F->Same F H->Smp H->P F H->∀i,(i<ds.length->J.go i H)/\(ds.length<=i->J.stop i H)/\
 ∀x H' d,ds[i]? =some d->J.yld i H x H'->∃F',Same F F'/\Rep K F' d x/\∀H₀ σ sd,StF K H₀ F H σ sd->StF K H₀ F' H' σ sd
abbrev PT0:Hp->Hp->Prop:=λ_ _=>True
structure PId(X:Cx)(sd:List Slot)(P:Hp->Hp->Prop)(tg iter:Expr)(ds:List D):Prop where
 run:∀ (σ:St) (F H:Hp),StF X.K X.B₀ F H σ sd->
 wI X tg iter σ H λJ H1=>∃F1,StF X.K X.B₀ F1 H1 σ sd/\Same F F1/\ItD X.K F1 P J ds
instance {X:Cx}{sd:List Slot}{P:Hp→Hp→Prop}{tg iter:Expr}{ds:List D}:CoeFun (PId X sd P tg iter ds) (fun _=>∀ (σ:St) (F H:Hp),StF X.K X.B₀ F H σ sd→
 wI X tg iter σ H λJ H1=>∃F1,StF X.K X.B₀ F1 H1 σ sd/\Same F F1/\ItD X.K F1 P J ds):=⟨PId.run⟩
theorem _root_.L2.PI.to{wi:TI}{R:It->Hp->Prop}(h:PI X tg iter wi)(q:wi σ H R):wI X tg iter σ H R:=λpins s I=>h pins s σ H R I q
theorem fM(h:PEd X sd iter (.val<|.lst ds)):PId X sd PT0 tg iter ds:=.mk λσ F H S=>
 (aFm dX).to ((h σ F H S).imp fun v H1 ⟨F1,S1,s1,q1⟩=>by
  simp only[ResOk,Rep] at q1;obtain⟨l,xs,rfl,hl,rl⟩:=q1;refine⟨l,rfl,⟨xs,.of<|S1.sub _ _ hl⟩,F1,S1,s1,λF' H' sF sH sm _ i=> ?_⟩;have hl':=sH _ _<|sF _ _ hl;refine⟨λhi=>⟨xs,xs[i]'(by rw[rl.len];exact hi),.of hl',by simp[rl.len,hi]⟩,λhi=>⟨xs,.of hl',by rw[rl.len];exact hi⟩,λx H2 d hd y=> ?_⟩;obtain⟨rfl,y⟩:=y;obtain⟨v,hv,rv⟩:=rl.get hd;have:=y xs<|.of hl';rw[hv] at this;cases this
  exact⟨F',Same.refl _,rv.mono sF,λ_ _ _ S=>S⟩)
theorem lC(h:PEd X sd iter (.val<|.tup ds)):PId X sd PT0 tg iter ds:=.mk λσ F H S=>
 (aGC dX).to ((h σ F H S).imp fun v H1 ⟨F1,S1,s1,q1⟩=>by
  simp only[ResOk,Rep] at q1;obtain⟨l,xs,rfl,hl,rl⟩:=q1;refine⟨l,rfl,⟨xs,.of<|S1.sub _ _ hl⟩,F1,S1,s1,λF' H' sF sH sm _ i=> ?_⟩;have hl':=sH _ _<|sF _ _ hl;refine⟨λhi=>⟨xs,xs[i]'(by rw[rl.len];exact hi),.of hl',by simp[rl.len,hi]⟩,λhi=>⟨xs,.of hl',by rw[rl.len];exact hi⟩,λx H2 d hd y=> ?_⟩;obtain⟨rfl,y⟩:=y;obtain⟨v,hv,rv⟩:=rl.get hd;have:=y xs<|.of hl';rw[hv] at this;cases this
  exact⟨F',Same.refl _,rv.mono sF,λ_ _ _ S=>S⟩)
noncomputable def dO(lo:Int)(n:Nat):List D:=(bC n).map λ(k:Nat)=>D.int<|lo+(k:Int)
theorem dQ(lo:Int)(n:Nat):(dO lo n).length=n:=by simp[dO]
theorem dG{lo:Int}{n i:Nat}(h:(dO lo n)[i]? =some d):i<n/\d=.int (lo+(i:Int)):=by
 unfold dO at h;rw[bK] at h
 by_cases hi:i<n
 ·rw[mE hi] at h;exact⟨hi,(bN.inj h).symm⟩
 ·rw[fK<|by simpa using hi] at h;cases h
theorem sT{F₁:Hp}{lo:Int}{n:Nat}:ItD K F₁ PT0 (Itr lo n) (dO lo n):=λF H _ _ _ _ i=>by refine⟨λhi=>by rw[dQ] at hi;exact hi,λhi=>by rw[dQ] at hi;exact hi,λx H' d hd y=> ?_⟩;obtain⟨rfl,rfl⟩:=y;obtain⟨_,rfl⟩:=dG hd;exact⟨F,Same.refl _,by simp only[Rep],λ_ _ _ S=>S⟩
theorem gM{p:Pos}{n:Nat}(hg:Gl X "range")(hm:X.mg "range"=none)(h:PEd X sd a (.val<|.int (n:Int)))(hn:(n:Int)<2^62)(hs:AC [a] X.env=[(false,eval a X.env)]:=by rfl):PId X sd PT0 tg (.Call (.Name "range" p) [a] [] pos) (dO 0 n):=.mk λσ F H S=>
 (aBC hg hm uU hs).to ((aA h aE trivial hs σ F H S).imp fun vs H1 ⟨F1,S1,s1,q1⟩=>by
  cases q1 with
  |cons q1 q2=>
   cases q2;simp only[ResOk,Rep] at q1;subst q1
   exact⟨(n:Int),rfl,by omega,hn,F1,S1,s1,by rw[cK];exact sT⟩)
theorem qD{p:Pos}{lo:Int}{m:Int}(hg:Gl X "range")(hm:X.mg "range"=none)(ha:PEd X sd a (.val<|.int lo))(hb:PEd X sd b (.val<|.int m))(h1: -(2^62)<=lo/\lo<2^62)(h2: -(2^62)<=m/\m<2^62)(hs:AC [a,b] X.env=[(false,eval a X.env),(false,eval b X.env)]:=by rfl)(hs2:AC [b] X.env=[(false,eval b X.env)]:=by rfl):
  PId X sd PT0 tg (.Call (.Name "range" p) [a,b] [] pos) (dO lo (m-lo).toNat):=.mk λσ F H S=>
 (aBf hg hm uU hs hs2).to ((aA ha (aA hb aE trivial hs2) trivial (by rw [hs,hs2]) σ F H S).imp fun vs H1 ⟨F1,S1,s1,q1⟩=>by
  cases q1 with
  |cons q1 q2=>
   cases q2 with
   |cons q2 q3=>
    cases q3;simp only[ResOk,Rep] at q1 q2;subst q1 q2
    exact⟨lo,m,rfl,⟨h1.1,h1.2,h2.1,h2.2⟩,F1,S1,s1,sT⟩)
structure PGd(X:Cx)(sd:List Slot)(tg:Expr)(d:D)(sd':List Slot):Prop where
 run:∀ (σ:St) (F H:Hp) (v:V),StF X.K X.B₀ F H σ sd->Rep X.K F d v->wG X tg v σ H λσ' H'=>∃F',StF X.K X.B₀ F' H' σ' sd'/\Same F F'
instance {X:Cx}{sd:List Slot}{tg:Expr}{d:D}{sd':List Slot}:CoeFun (PGd X sd tg d sd') (λ_=>∀ (σ:St) (F H:Hp) (v:V),StF X.K X.B₀ F H σ sd->Rep X.K F d v->wG X tg v σ H λσ' H'=>∃F',StF X.K X.B₀ F' H' σ' sd'/\Same F F'):=⟨PGd.run⟩
theorem _root_.L2.PG.to{t:TG}{Q:St->Hp->Prop}(h:PG X tg t)(q:t v σ H Q):wG X tg v σ H Q:=λpins s u I r=>h pins s σ H v u Q I r q
theorem aCF(j:Nat)(h:PG X tg (wX j)):PGd X sd tg d (sd.set j<|.val d):=.mk λσ F H v S q=>h.to ⟨F,S.set j q,Same.refl _⟩
noncomputable def gNs:List Nat->TGs
 |[]=>aJh
 |j::js=>aGr (wX j)<|gNs js
noncomputable def uG:List Slot->List Nat->List D->List Slot
 |sd,j::js,d::ds=>uG (sd.set j<|.val d) js ds
 |sd,_,_=>sd
theorem yW{K:aB}{H₀ F H:Hp}{Q:St->Hp->Prop}:∀ {js:List Nat}{ds:List D}{vs:List V}{σ:St}{sd:List Slot},js.length=ds.length->RepL K F ds vs->StF K H₀ F H σ sd->(∀σ',StF K H₀ F H σ' (uG sd js ds)->Q σ' H)->gNs js vs σ H Q
 |[],[],vs,σ,sd,_,r,S,k=>by simp only[RepL] at r;exact⟨r,k σ S⟩
 |j::js,d::ds,vs,σ,sd,hl,r,S,k=>by obtain⟨y,ys,rfl,q,rl⟩:=r.uncons;exact⟨y,ys,rfl,yW (by simpa using hl) rl (S.set j q) k⟩
 |[],_::_,_,_,_,hl,_,_,_=>by simp at hl
 |_::_,[],_,_,_,hl,_,_,_=>by simp at hl
theorem iH{k:Nat}{js:List Nat}(hc:X.calm=true)(h:PGs X es (gNs js))(hl:js.length=ds.length)(hn:(AT es X.env).length=ds.length)(hst:(AT es X.env).findIdx? (·.1)=none:=by rfl):PGd X sd (.Tuple es k pos) (.tup ds) (uG sd js ds):=.mk λσ F H v S q=>
 (aHw hc h hn hst).to (by
  simp only[Rep] at q;obtain⟨a,xs,rfl,ha,rl⟩:=q
  exact⟨a,xs,rfl,.of (S.sub _ _ ha),rl.len,yW hl rl S λσ' S'=>⟨F,S',Same.refl _⟩⟩)
theorem rX{prog:AG}{w:AI}{A:BD}{E:BA->AA->Prop}{it t:BC}{items:Array BA}(hne:t≠it):∀ (n i:Nat) (s:AA) (Q:List BA->AA->Prop),s.heap.IsListIter it t i->s.heap.IsList t items->i+n<=items.size->
  (∀h',h'.IsListIter it t (i+n)->Heap.SameBut it s.heap h'->Q ((items.toList.drop i).take n) {s with heap:=h'})->AE (AF prog w) A (draw (.ref it) n) Q E s
 |0,i,s,Q,hit,_,_,hQ=>by show AE _ _ (pure []) Q E s;exact AD (by simpa using hQ s.heap hit (Heap.SameBut.refl ..))
 |n+1,i,s,Q,hit,ht,hle,hQ=>by
  have hlt:i<items.size:=by omega
  show AE _ _ (pyNext (.ref it)>>=_) Q E s;refine AB<|wpAny_pyNext_list_item hit ht (x:=items[i]) (by simp[hlt]) λh₁ hit₁ hs₁=> ?_;refine AB (AQ<|rX hne n (i+1) _ _ hit₁ (ht.extBut hs₁.extBut hne) (by omega) λh₂ hit₂ hs₂=>AD ?_);have hd:items.toList.drop i=items[i]::items.toList.drop (i+1):=by simp[List.drop_eq_getElem_cons,hlt]
  have:=hQ h₂ (by rw[show i+(n+1)=i+1+n by omega];exact hit₂)<|hs₁.trans hs₂;rw[hd,aBH] at this;exact this
theorem xI{prog:AG}{w:AI}{A:BD}{E:BA->AA->Prop}{s:AA}{t:BC}{items:Array BA}{Q:List BA->AA->Prop}(hh:A.handled=none)(ht:s.heap.IsList t items)
  (hQ:∀h',Heap.ExtBut s.heap.objs.size s.heap h'->Q items.toList {s with heap:=h'}):AE (AF prog w) A (unpackItems (.ref t) items.size none) Q E s:=by
 have hlt:t≠s.heap.objs.size:=by obtain⟨o,ho,_⟩:=ht;exact bG<|aO ho
 unfold unpackItems;refine AB ?_;unfold notIterableAtAll;refine AB<|wpAny_specialOf ht.typeIs slot_list_iter.lookup ?_;refine AD ?_;simp only[eZ,if_false];refine AB (AQ<|wpAny_pyIter_list ht ?_);refine AB (AQ<|rX hlt items.size 0 _ _ ⟨_,bT _ rfl,rfl,rfl⟩ (ht.at λo e=>aH _ e) (by omega) λh₁ hit₁ hs₁=> ?_)
 have hall:List.take items.size (List.drop 0 items.toList)=items.toList:=by rw[lQ];exact eB<|by simp
 rw[hall];rw[if_neg<|by simp];have ht₁:h₁.IsList t items:=(ht.at λo e=>aH _ e).extBut hs₁.extBut hlt;refine AB (AQ<|wpAny_pyNext_list_end hh hit₁ ht₁ (by simp) λh₂ he₂=> ?_);simp only[Option.isSome_none,eZ,if_false];exact AD (hQ h₂ λb o hb e=>he₂ b o hb (hs₁.extBut b o hb<|aH _ e))
noncomputable def gLst(K:aB)(n:Nat)(t:TGs):TG:=λv σ H Q=>∃a xs,v=.ref a/\SqL K H a xs/\xs.length=n/\t xs σ H Q
theorem aGN{k:Nat}{t:TGs}{n:Nat}(hc:X.calm=true)(h:PGs X es t)
  (hn:(AT es X.env).length=n:=by rfl) (hst:(AT es X.env).findIdx? (·.1)=none:=by rfl):PG X (.Tuple es k pos) (gLst X.K n t):=by
 intro pins s σ H v u Q I r hw;obtain⟨a,xs,e1,hq,hl,hw⟩:=hw;subst e1;cases r;obtain⟨its,rv,ht,hz⟩:=I.list hq;rw[PyProof.Rows.assign_Tuple];refine AB<|Ah ?_;unfold unpack;have e2:(AT es X.env).length=its.toArray.size:=by rw[hn,<-hl,rv.length];simp
 rw[e2,hst];refine AB (AQ<|xI (I.ok.hd hc) ht.isList λh' hx=> ?_);have I1:Inv X pins σ H {s with heap:=h'}:=I.kept (t':=s.toks) λb o e=>hx b o (bG<|aO e) e
 exact h pins _ σ H xs _ Q I1 (by simpa using rv) hw
theorem tZ{k:Nat}{js:List Nat}(hc:X.calm=true)(h:PGs X es (gNs js))(hl:js.length=ds.length)(hn:(AT es X.env).length=ds.length)(hst:(AT es X.env).findIdx? (·.1)=none:=by rfl):PGd X sd (.Tuple es k pos) (.lst ds) (uG sd js ds):=.mk λσ F H v S q=>
 (aGN hc h hn hst).to (by
  simp only[Rep] at q;obtain⟨a,xs,rfl,ha,rl⟩:=q
  exact⟨a,xs,rfl,.of (S.sub _ _ ha),rl.len,yW hl rl S λσ' S'=>⟨F,S',Same.refl _⟩⟩)
theorem lF{sd':List Slot}(h:PEd X sd e (.val d))(hg:PGd X sd tg d sd')(hE:E.nx sd')(hs:swapsWithSole [tg] e pos.line X.env=pure false:=by rfl)(hw:swappedStores [tg] e X.env=pure none:=by rfl)
  (h1:(AT [tg] X.env).map (·.2)=[assign tg X.env]:=by rfl):PSd1 X sd (.Assign [tg] e pos) E:=.mk λσ F H S=>
 (aDq dX aIc hs hw h1).to ((h σ F H S).imp λv H1 ⟨F1,S1,s1,q1⟩=>(hg σ F1 H1 v S1 q1).imp λσ' H' ⟨F',S',s'⟩=>⟨sd',F',S',s1.trans s',hE⟩)
theorem fO{body:List BG}{P:Hp->Hp->Prop}(Sd Td:Nat->List Slot)(hi:PId X sd P tg iter ds)(h0:Le sd (Sd 0))(hg:∀k d,ds[k]? =some d->PGd X (Sd k) tg d (Td k))
  (hb:∀k d,ds[k]? =some d->PSd X (Td k) body {E with nx:=λsd'=>Le sd' (Sd<|k+1),ct:=λsd'=>Le sd' (Sd<|k+1),bk:=E.nx}) (hE:E.nx (Sd ds.length)) (hP:∀k σ F H,StF X.K X.B₀ F H σ (Sd k)->P F H:=by intros;trivial)
  (hc:X.calm=true:=by rfl) (hp:PassesOwn (AF X.prog X.w) X.A X.env X.xe:=by exact PassesOwn.never) (hs:∀x,Aa iter X.env x=pure x:=by intro _;rfl):PSd1 X sd (.For tg iter body [] pos) E:=.mk λσ F H S=>
 (aDp hp hc aJf aIc pss_w hs).to (by
  intro pins s I;refine thn (hi σ F H S pins s I) λv s1 h1=>thn h1 λitv s2 h2=> ?_
  obtain⟨it,fp,tn,J,H2,e,I2,T,st2,f2,F1,S1,s1',itd⟩:=h2;refine⟨it,fp,tn,J,H2,e,I2,T,st2,f2, ?_⟩;refine⟨λi m σ' H'=>m=ds.length-i/\i<=ds.length/\∃F',StF X.K X.B₀ F' H' σ' (Sd i)/\Same F1 F',⟨ds.length,by simp,bL _,F1,S1.le h0,Same.refl _⟩, ?_⟩;rintro i m σ' H' ⟨rfl,hil,F',S',s'⟩;obtain⟨g1,g2,g3⟩:=itd F' H' s' S'.sub S'.smp (hP _ _ _ _ S') i
  by_cases hlt:i<ds.length
  ·refine .inr ⟨g1 hlt,λσ2 H2=>∃F2,StF X.K X.B₀ F2 H2 σ2 (Sd<|i+1)/\Same F1 F2,λσ2 H2 ⟨F2,S2,s2⟩=>⟨ds.length-(i+1),by omega,rfl,hlt,F2,S2,s2⟩,λx H2 y=> ?_⟩;have hd:ds[i]? =some ds[i]:=by simp[hlt]
   obtain⟨F2,s2,rp,up⟩:=g3 x H2 ds[i] hd y;refine(hg i _ hd σ' F2 H2 x (up _ _ _ S') rp).imp λσ3 H3 ⟨F3,S3,s3⟩=> ?_
   have base:Same F1 F3:=(s'.trans s2).trans s3;refine(hb i _ hd σ3 F3 H3 S3).imp ?_ ?_ ?_ ?_
   ·rintro σ4 H4 ⟨sd4,F4,S4,s4,le⟩;exact⟨F4,S4.le le,base.trans s4⟩
   ·exact λv H4 q=>q
   ·rintro σ4 H4 ⟨sd4,F4,S4,s4,q⟩;exact⟨sd4,F4,S4,(s1'.trans base).trans s4,q⟩
   ·rintro σ4 H4 ⟨sd4,F4,S4,s4,le⟩;exact⟨F4,S4.le le,base.trans s4⟩
  ·have e:i=ds.length:=by omega
   subst e
   exact .inl ⟨g2 (aR _),Sd ds.length,F',S',s1'.trans s',hE⟩)
theorem Inv.retrack{pins:List (BC×BF)}{σ:St}{H F:Hp}{s s':AA}(I0:Inv X pins σ H s):∀ (ls:List BC),ls.Nodup->(∀l∈ls,F l=none/\(∃xs,H l=some xs/\Wr l xs)/\∀o,s.heap.get? l=some o->s'.heap.get? l=some o)->Inv X pins σ F s'->Inv X pins σ (λb=>if b∈ls then H b else F b) s'
 |[],_,_,I=>by simpa using I
 |l::ls,nd,h,I=>by
  obtain⟨nl,nd'⟩:=iN.mp nd;have J:=Inv.retrack I0 ls nd' (λl' hl=>h l'<|bV _ hl) I;obtain⟨n,⟨xs,hx,wx⟩,kp⟩:=h l cG
  have e:(λb=>if b∈l::ls then H b else F b)=upd (λb=>if b∈ls then H b else F b) l xs:=by
   funext b;unfold upd
   by_cases hb:b=l
   ·subst hb;simp[hx]
   ·simp[hb]
  rw[e];have n':(λb=>if b∈ls then H b else F b) l=none:=by simp[nl,n]
  have ob:=I0.hok l _ hx;clear e;generalize (λb=>if b∈ls then H b else F b)=G at J n' ⊢;refine⟨J.ok,J.os,J.bare,⟨J.base.keep,J.base.slot,λb u g n0 hx0=> ?_,J.base.there,λb ys g=> ?_,λb u ys g=> ?_,λb ps g=> ?_⟩,J.loc,J.cell, ?_,λx c g=> ?_,λp hp=> ?_,J.hok.track n' ?_,J.len⟩
  ·have hb:b≠l:=λq=>by subst q;have:=I0.base.free b u g n0 hx0;rw[hx] at this;cases this
   rw[aX hb];exact J.base.free b u g n0 hx0
  ·have q:=J.base.tups b ys g;rw[aX<|bS q n'];exact q
  ·have q:=J.base.frzs b u ys g;rw[aX<|bS q n'];exact q
  ·obtain⟨m,q⟩:=J.base.tbls b ps g;exact⟨m,by rw[aX<|bS q n'];exact q⟩
  ·rw[aX λq=>by have:=I0.free;rw[q,hx] at this;cases this];exact J.free
  ·rw[aX λq=>by have:=I0.freeC x c g;rw[q,hx] at this;cases this];exact J.freeC x c g
  ·obtain⟨g,n0,rr⟩:=J.pin p hp;refine⟨g, ?_,rr⟩;rw[aX λq=>by have:=(I0.pin p hp).2.1;rw[q,hx] at this;cases this];exact n0
  ·cases xs with
   |lst xs=>obtain⟨z,its,nn,rv,ho⟩:=ob;exact⟨z,its,nn,rv,kp _ ho⟩
   |dK kvs=>obtain⟨z,y,vs,r,o,es,ep,e,c⟩:=ob;exact⟨z,y,vs,r,o,es,ep,kp _ e,c⟩
   |ext φ=>obtain⟨h1,⟨o1,h2⟩,h3⟩:=ob;exact⟨h3 _ _ h1 kp,⟨o1,kp _ h2⟩,h3⟩
   |_=>exact wx.elim
theorem aHu{P:AG}{w:AI}{h:BE}{l:BC}{xs:HO}(wx:Wr l xs)(q:H l=some xs)(ok:ObjOk P w H h l xs):∃ys o,H l=some ys/\Wr l ys/\h.get? l=some o/\∀v,o.data≠ .cell v:=by
 cases xs with
 |lst xs=>obtain⟨_,its,nn,_,ho⟩:=ok;exact⟨_,_,q,trivial,ho,λv z=>by cases z⟩
 |dK kvs=>obtain⟨_,_,_,_,o,es,ep,e,_,d,_⟩:=ok;exact⟨_,_,q,trivial,e,λv z=>by rw[d] at z;cases z⟩
 |ext φ=>obtain⟨o,e,n⟩:=id wx;subst e;exact⟨_,o,q,wx,ok.1,n⟩
 |_=>exact wx.elim
theorem aBU(S:StF X.K X.B₀ F H σ sd)(hr:match r with | .bor _=>False|_=>True)(h:wE X e σ F λv F3=>aBQ X.K F F3 r v):wE X e σ H λv H'=>∃F',StF X.K X.B₀ F' H' σ sd/\Same F F'/\ResOk X.K F' H' sd r v:=λpins s I=>by
 have I1:Inv X pins σ F s:=I.less S.sub S.base<|S.smp.sub S.sub
 have ob:∀l∈cA sd,∃xs o,H l=some xs/\Wr l xs/\s.heap.get? l=some o/\∀v,o.data≠ .cell v:=λl hl=>by obtain⟨n,xs,q,wx⟩:=S.slots.owns hl;exact aHu wx q<|I.hok l _ q
 have I2:Inv X (pins++kF (cA sd) s.heap) σ F s:=I1.pins_of λp hp=>(bF.mp hp).elim (λz=>I1.pin p<|aN _ z) λz=>by
  obtain⟨hb,g⟩:=nW z;obtain⟨xs,o,q,_,ho,hc⟩:=ob p.1 hb;rw[g] at ho;cases ho;refine⟨g,(S.slots.owns hb).1,λy=> ?_,λy=> ?_,hc⟩
  ·have:=I.free;rw[<-y,q] at this;cases this
  ·obtain⟨_,o',ho',_⟩:=I.ok.funs.mem y;have:=I.base.free p.1 o' ho' (I.ok.frf p.1 y) λz=>I.ok.exfs p.1 z y
   rw[q] at this;cases this
 refine thn (h _ s I2) λu s' ⟨v,F3,I3,rv,F2,s1,s2,sm3,res⟩=> ?_
 have kp:∀l∈cA sd,F3 l=none/\(∃xs,H l=some xs/\Wr l xs)/\∀o,s.heap.get? l=some o->s'.heap.get? l=some o:=λl hl=>by obtain⟨xs,o,q,wx,ho,_⟩:=ob l hl;have:=I3.pin (l,o)<|aN _ (aN _<|gL hl ho);exact⟨this.2.1,⟨xs,q,wx⟩,λo' g=>by rw[ho] at g;cases g;exact this.1⟩
 have I4:=Inv.retrack I (cA sd) S.nd kp I3.unpinned;refine⟨v,_,I4,rv,F2,⟨λb o g=>s1 _ _<|S.base _ _ g,λb o g=> ?_,λb o g=> ?_,S.slots.mono s1 λl hl=>⟨s2.free (kp l hl).1,λxs g=>by simpa[hl] using g⟩,S.nd⟩,s1, ?_⟩
 ·have g3:=s2 _ _ g;have:b∉cA sd:=λhb=>by rw[(kp b hb).1] at g3;cases g3
  simp[this,g3]
 ·by_cases hb:b∈cA sd
  ·simp[hb] at g;exact S.smp _ _ g
  ·simp[hb] at g;exact sm3 _ _ g
 ·cases r with
  |val d=>exact res
  |own ds'=>
   obtain⟨l,xs,e,n,q,rl',_⟩:=res;have:l∉cA sd:=λhl=>by rw[(kp l hl).1] at q;cases q
   exact⟨l,xs,e,n,by simp[this,q],rl',this⟩
  |pr d ls=>
   obtain⟨t,l,xs,y,e,f,g,n,q,rl',_⟩:=res;have:l∉cA sd:=λhl=>by rw[(kp l hl).1] at q;cases q
   exact⟨t,l,xs,y,e,f,g,n,by simp[this,q],rl',this⟩
  |ox G=>
   obtain⟨ls,nd,h,g⟩:=res
   have no:∀l∈ls,l∉cA sd:=λl hl hm=>by obtain⟨n,⟨ob,q,w⟩,_⟩:=h l hl;rw[(kp l hm).1] at q;cases q
   refine⟨ls,nd,λl hl=> ?_,λF' H' sF k=>g F' H' sF λl hl ob q=>k l hl ob<|by simp[no l hl,q]⟩;obtain⟨n,⟨ob,q,w⟩,_⟩:=h l hl;exact⟨n,⟨ob,by simp[no l hl,q],w⟩,no l hl⟩
  |bor ds'=>exact hr.elim
noncomputable def aGd:Option Slot->Slot
 |some (.val d)=>.val d
 |some (.ox [] G)=>.ox [] G
 |_=>.un
noncomputable def jC(cap:List (Option Nat))(sd:List Slot):List Slot:=cap.map λo=>match o with
 |none=>.un
 |some k=>aGd sd[k]?
theorem uI{K:aB}{F H F' H':Hp}{σ:St}(h:SlotsOk K F H sd σ)(s:Same F F'):∀cap:List (Option Nat),SlotsOk K F' H' (jC cap sd) (pM cap σ)
 |[]=>rfl
 |o::cap=>by
  refine⟨_,_,rfl, ?_,uI h s cap⟩;cases o with
  |none=>trivial
  |some k=>
   show gK K F' H' (aGd sd[k]?) _;cases q:sd[k]? with
   |none=>trivial
   |some z=>
    cases z with
    |un=>trivial
    |own l ds=>trivial
    |od l ks ds=>trivial
    |ox ls G=>
     cases ls with
     |cons a ls=>trivial
     |nil=>obtain⟨o,h1,v,h2,h3,h4⟩:=h.get q;subst h2;exact⟨v,by simp[h1],λl hl=>(nomatch hl),λF2 H2 s2 _=>h4 F2 H2 (s.trans s2) λl hl=>(nomatch hl)⟩
    |gh d G=>trivial
    |val d=>obtain⟨o,h1,v,h2,rv⟩:=h.get q;subst h2;exact⟨v,by simp[h1],rv.mono s⟩
theorem lX:∀ (cap:List (Option Nat)) (sd:List Slot),cA (jC cap sd)=[]
 |[],_=>rfl
 |o::cap,sd=>by
  have ih:=lX cap sd;cases o with
  |none=>exact ih
  |some k=>
   show cA (aGd sd[k]? ::jC cap sd)=[];cases q:sd[k]? with
   |none=>exact ih
   |some z=>
    cases z with
    |ox ls G=>cases ls<;>exact ih
    |_=>exact ih
noncomputable def unS:Slot->Slot
 |.own _ _=>.un
 |.od _ _ _=>.un
 |.ox [] G=>.ox [] G
 |.ox _ _=>.un
 |z=>z
noncomputable def unO(sd:List Slot):List Slot:=sd.map unS
theorem gN:∀sd:List Slot,cA (unO sd)=[]
 |[]=>rfl
 |.un::r=>gN r
 |.val _::r=>gN r
 |.gh _ _::r=>gN r
 |.own _ _::r=>gN r
 |.od _ _ _::r=>gN r
 |.ox [] _::r=>gN r
 |.ox (_::_) _::r=>gN r
theorem aCx(cap:List (Option Nat))(sd:List Slot):jC cap (unO sd)=jC cap sd:=by
 unfold jC;refine dZ λo _=> ?_
 cases o with
 |none=>rfl
 |some k=>
  show aGd (unO sd)[k]? =aGd sd[k]?;unfold unO;rw[bK];cases q:sd[k]? with
  |none=>rfl
  |some z=>
   cases z with
   |ox ls G=>cases ls<;>rfl
   |_=>rfl
theorem rY{K:aB}{F H H':Hp}:∀ {sd:List Slot}{σ:St},SlotsOk K F H sd σ->SlotsOk K F H' (unO sd) σ
 |[],_,h=>h
 |z::zs,σ,h=>by
  obtain⟨o,r,rfl,a,b⟩:=h;refine⟨o,r,rfl, ?_,rY b⟩;cases z with
  |un=>trivial
  |val d=>exact a
  |gh d G=>exact a
  |od l ks ds=>trivial
  |ox ls G=>
   cases ls with
   |cons a ls=>trivial
   |nil=>obtain⟨v,h2,h3,h4⟩:=a;exact⟨v,h2,λl hl=>(nomatch hl),λF2 H2 s2 _=>h4 F2 H2 s2 λl hl=>(nomatch hl)⟩
  |own l ds=>trivial
theorem jW{i:Nat}(p:D->Bool)(h:ds[i]? =some d):(ds.take<|i+1).filter p=(ds.take i).filter p++(if p d then[d] else[]):=by rw[eM,h,List.filter_append];cases hp:p d<;>simp[hp]
theorem aAm{elt:Expr}{ifs:List Expr}{scope:Scope}{N M:List Str}{cap:List (Option Nat)}{sc:Scope}{Tb:D->List Slot}(p:D->Bool)(f:D->D)
  (hi:PId X (unO sd) PT0 tg iter ds) (hl:ds.length<=10000)
  (hsc:X.env.scope=sc) (hcn:jR scope sc=true) (hM:X.N=M) (hcap:iZ N M scope sc cap=true) (hk:scope.kind=.function)
  (hg:∀cl C fp s H d,d∈ds->PGd (cxB X N scope cl C fp s H) (jC cap sd) tg d (Tb d))
  (hle:∀d,d∈ds->Le (Tb d) (jC cap sd))
  (ht:∀cl C fp s H d,d∈ds->(ifs=[]/\p d=true)\/∃c,ifs=[c]/\PTd (cxB X N scope cl C fp s H) (Tb d) c (p d))
  (he:∀cl C fp s H d,d∈ds->p d=true->PEd (cxB X N scope cl C fp s H) (Tb d) elt (.val<|f d))
  (hc:X.calm=true:=by rfl) (hs:∀x,Aa iter X.env x=pure x:=by intro _;rfl):
  PEd X sd (.ListComp elt [⟨tg,iter,ifs,0⟩] scope pos) (.own<|(ds.filter p).map f):=.mk λσ F H S=>by
 refine aBU S trivial ?_;have S0:StF X.K X.B₀ F F σ (unO sd):=⟨S.base,Same.refl _,S.smp.sub S.sub,rY S.slots,by rw[gN];exact fS⟩;intro pins s I
 have nm:∀y∈scope.names,(y.2=NameKind.free->sc.names.lookup y.1=some NameKind.cell)/\(y.2=NameKind.local->scope.names.lookup y.1=some NameKind.local):=λy hy=>by have q:=dI.mp hcn y hy;simp only[aW,rP,jY,beq_eq_false_iff_ne,ne_eq,beq_iff_eq] at q;exact⟨λe=>q.1.1.resolve_left λz=>z e,λe=>q.2.resolve_left λz=>z e⟩
 have fre:∀y∈scope.names,y.2=.free->∃c,X.env.cells.lookup y.1=some c:=λy hy e=>I.ok.has y.1 (.inl<|by show X.env.scope.names.lookup y.1=_;rw[hsc];exact(nm y hy).1 e)
 rw[eval_ListComp];refine wpAny_comprehension_free (use:=none) rfl hs (pS fre) hk (λy hy=>(nm y hy).2) ?_;refine thn (hi σ F F S0 pins s I) λv s1 h1=>thn h1 λitv s2 h2=> ?_
 obtain⟨it,fp,tn,J,H2,e,I2,T,st2,f2,F1,S1,s1',itd⟩:=h2;subst e
 have S1b:StF X.K H2 H2 H2 (pM cap σ) (jC cap sd):=⟨Same.refl _,Same.refl _,S1.smp,by
  have q:=uI (sd:=unO sd) (H':=H2) S1.slots S1.sub cap;rw[aCx] at q
  exact q,by rw[lX];exact fS⟩
 refine xM (N:=N) (cap:=cap) (g:=λv σ2 H3 Q=>∀cl C,wG (cxB X N scope cl C fp s2 H2) tg v σ2 H3 Q) (tt:=λσ2 H3 Q=>∀cl C,aHH (cxB X N scope cl C fp s2 H2) ifs σ2 H3 Q) (te:=λσ2 H3 Q=>∀cl C,wE (cxB X N scope cl C fp s2 H2) elt σ2 H3 Q)
  hc hsc hcn (by rw[hM];exact hcap) hk I2 T st2 f2 (λcl C pi s3 σ3 H3 v u Q I3 ru q=>q cl C pi s3 u I3 ru) (λcl C pi s3 σ3 H3 Q I3 q=>q cl C pi s3 I3) (λcl C pi s3 σ3 H3 Q I3 q=>q cl C pi s3 I3)
  (λi m ys σb H3=>m=ds.length-i/\i<=ds.length/\∃Fb,StF X.K H2 Fb H3 σb (jC cap sd)/\RepL X.K Fb (((ds.take i).filter p).map f) ys) ds.length
  ⟨by simp,bL _,H2,S1b,by simpa using RepL.nil⟩ _ ?_
 rintro i m ys σb H3 ⟨rfl,hil,Fb,Sb,rl⟩;have sF1:Same F1 Fb:=λb o g=>Sb.base _ _<|S1.sub _ _ g
 obtain⟨g1,g2,g3⟩:=itd Fb H3 sF1 Sb.sub Sb.smp trivial i
 by_cases hlt:i<ds.length
 ·have hd:ds[i]? =some ds[i]:=by simp[hlt]
  have hm:ds[i]∈ds:=gC hlt
  have ylen:ys.length<=i:=by rw[rl.len,aC];exact bM (lH _ _) (by simp;omega)
  refine .inr ⟨g1 hlt,fP<|by omega,λys' σ' H'=>∃Fb',StF X.K H2 Fb' H' σ' (jC cap sd)/\RepL X.K Fb' (((ds.take<|i+1).filter p).map f) ys',λys' σ' H' ⟨Fb',Sb',rl'⟩=>⟨ds.length-(i+1),by omega,rfl,hlt,Fb',Sb',rl'⟩,λx H4 y cl C=> ?_⟩;obtain⟨F4,s4,rp,up⟩:=g3 x H4 ds[i] hd y;refine(hg cl C fp s2 H2 _ hm σb F4 H4 x (up _ _ _ Sb) rp).imp λσ5 H5 ⟨F5,S5,s5⟩ cl2 C2=> ?_
  have rl5:=rl.mono<|s4.trans s5
  have fin:∀ (b:Bool) (H6:Hp) (F6:Hp),b=p ds[i]->StF X.K H2 F6 H6 σ5 (Tb ds[i])->Same F5 F6->if b=true then(∀cl C,wE (cxB X N scope cl C fp s2 H2) elt σ5 H6 λv H5=>∃Fb',StF X.K H2 Fb' H5 σ5 (jC cap sd)/\RepL X.K Fb' (((ds.take<|i+1).filter p).map f) (ys++[v])) else ∃Fb',StF X.K H2 Fb' H6 σ5 (jC cap sd)/\RepL X.K Fb' (((ds.take<|i+1).filter p).map f) ys:=λb H6 F6 eb S6 s6=>by
   rw[jW p hd,<-eb];cases b with
   |false=>exact aFX ⟨F6,S6.le<|hle _ hm,by simpa using rl5.mono s6⟩
   |true=>
    refine aFW λcl3 C3=>(he cl3 C3 fp s2 H2 _ hm eb.symm σ5 F6 H6 S6).imp λv H7 ⟨F7,S7,s7,q7⟩=>⟨F7,S7.le<|hle _ hm, ?_⟩
    simp only[if_true,bD,bY,gB];exact((rl5.mono s6).mono s7).app<|.one q7
  rcases ht cl2 C2 fp s2 H2 _ hm with⟨e1,e2⟩|⟨c,e1,q⟩
  ·subst e1;exact xL (fin true H5 F5 e2.symm S5<|Same.refl _)
  ·subst e1;exact xU<|(q σ5 F5 H5 S5).imp λb H6 ⟨eb,F6,S6,s6⟩=>fin b H6 F6 eb S6 s6
 ·have e:i=ds.length:=by omega
  subst e;refine .inl ⟨g2<|aR _,λD C s' hD hC hDC h0 hL hcc hpp hst ⟨m',ns'⟩ J'=>⟨m',ns',λh' sb=> ?_⟩⟩;have J2:Inv X pins σ (upd H3 D<|.lst ys) {s' with heap:=h',toks:=s'.toks}:=J'.turned (it:=C) (λb o hb g=>sb.extBut b o hb g) (by rw[aX<|Ne.symm hDC];exact hC) hL (.inr h0) hcc hpp;refine⟨.ref D,_,J2,rfl,Fb,λb o g=>Sb.base _ _ (S1.sub _ _<|s1' _ _ g),λb o g=> ?_,λb o g=> ?_,D,ys,rfl,Sb.sub.free hD,bA, ?_,by simp[cA]⟩
  ·have g3:=Sb.sub _ _ g;rw[aX<|bS g3 hD];exact g3
  ·by_cases hb:b=D
   ·subst hb;rw[bA] at g;cases g;trivial
   ·rw[aX hb] at g;exact Sb.smp _ _ g
  ·simpa using rl
noncomputable def isIB:D->Bool
 |.int _=>true
 |.bl _=>true
 |_=>false
noncomputable def isB:D->Bool
 |.bl _=>true
 |_=>false
noncomputable def isT:D->Bool
 |.tup _=>true
 |_=>false
noncomputable def isL:D->Bool
 |.lst _=>true
 |.scr _=>true
 |_=>false
theorem aFA(K:aB)(d:D):bO K (tyD d) (.type "int")=some (isIB d):=by cases d<;>with_unfolding_all rfl
theorem rF(K:aB)(d:D):bO K (tyD d) (.type "bool")=some (isB d):=by cases d<;>with_unfolding_all rfl
theorem aBi(K:aB)(d:D):bO K (tyD d) (.type "tuple")=some (isT d):=by cases d<;>with_unfolding_all rfl
theorem PEd.cast{r':R}(h:PEd X sd e r)(q:r=r'):PEd X sd e r':=q▸h
theorem iE{k:Bool}{x o:List BG}(h:PTd X sd c k)(hk:k=false)(h2:PSd X sd o E):PSd1 X sd (.If c x o pos) E:=dJ h (λe=>by rw[hk] at e;cases e) λ_=>h2
theorem iJ{k:Bool}{x o:List BG}(h:PTd X sd c k)(hk:k=true)(h2:PSd X sd x E):PSd1 X sd (.If c x o pos) E:=dJ h (λ_=>h2) λe=>by rw[hk] at e;cases e
theorem lB{d1 d2:List D}(ha:PEd X sd a (.bor d1))(hb:PEd X sd b (.bor d2))(hl:d1.length+d2.length<=10000):PEd X sd (.BinOp a .Add b pos) (.own<|d1++d2):=
 nS aGK ha hb trivial λσ F H v u Q S q1 q2 k=>by obtain⟨l,xs,e1,h1,r1,_⟩:=q1;obtain⟨m,ys,e2,h2,r2,_⟩:=q2;refine⟨l,m,xs,ys,e1,e2,h1,h2,by rw[r1.len,r2.len];exact eE<|fP hl,λp hp=> ?_⟩;obtain⟨S2,fp,no⟩:=S.layO (xs:=xs++ys) hp;exact k _ F _ S2 (Same.refl _) ⟨p,_,rfl,fp,bA,r1.app r2,no⟩
theorem fA{i:Int}(ha:PEd X sd a (.bor ds))(hb:PEd X sd b (.val<|.int i))(h0:0<=i)(hd:ds[i.toNat]? =some d)(hs:jE b):PEd X sd (.Subscript a b pos) (.val d):=by
 have e:i=(i.toNat:Int):=by omega
 rw[e] at hb;exact kG ha hb hd hs
theorem mU{i:Int}(ha:PEd X sd a (.val<|.tup ds))(hb:PEd X sd b (.val<|.int i))(h0:0<=i)(hd:ds[i.toNat]? =some d)(hs:jE b):PEd X sd (.Subscript a b pos) (.val d):=by
 have e:i=(i.toNat:Int):=by omega
 rw[e] at hb;exact lY ha hb hd hs
theorem aEV{ns:List Int}{i z:Int}(ha:PEd X sd a (.val<|.scr ns))(hb:PEd X sd b (.val<|.int i))(h0:0<=i)(hd:ns[i.toNat]? =some z)(hs:jE b):PEd X sd (.Subscript a b pos) (.val<|.int z):=by
 have e:i=(i.toNat:Int):=by omega
 rw[e] at hb;exact aDY ha hb hd hs
theorem qZ{i:Int}(h:i.natAbs<2^250):Builtin.Int.intBits i<=2^20:=by
 unfold Builtin.Int.intBits
 split
 ·exact bL _
 ·rename_i hz
  have hne:i.natAbs≠0:=by
   intro z;apply hz;have:i=0:=by omega
   subst this;rfl
  have:=(Nat.log2_lt hne).mpr h;have e:(250:Nat)+1<=2^20:=by decide
  omega
theorem rZ{i j:Int}(h1:i.natAbs<2^250)(h2:j.natAbs<2^250):IntMulOk i j:=.of_bits (qZ h1)<|qZ h2
noncomputable def most:Int:=1000*10^64
noncomputable def lI:Int->List Int->List Int
 |_,[]=>[]
 |x,n::ns=>(x%n)::lI (x / n) ns
theorem mM:∀ (x:Int) (ns:List Int),(lI x ns).length=ns.length
 |_,[]=>rfl
 |x,n::ns=>by simp[lI,mM]
def mV:List D->R->Prop:=λds r=>∃x ns,ds=[.int x,.lst<|ns.map D.int]/\(∀n∈ns,0<n/\n.natAbs.log2<9000)/\ns.length<=100/\r=.own ((lI x ns).map D.int)
noncomputable def cI:List (Int×Int):=[(2,2),(1,1),(1,2),(2,1),(1,3),(3,1),(2,3),(3,2),(1,4),(4,1),(1,5),(5,1),(1,6),(6,1)]
noncomputable def bR(p:Int×Int):D:=.tup [.int p.1,.int p.2]
def aHI:List D->R->Prop:=λds r=>∃ns:List Int,ds=[.scr ns]/\ns.length<=63/\r=.val (.bl true)
noncomputable def aFQ:Int->List Int->Int
 |x,[]=>x
 |x,n::ns=>aFQ (x / n) ns
theorem sQ:∀ (x:Int) (ns:List Int) (n:Int),aFQ x (ns++[n])=aFQ x ns / n
 |_,[],_=>rfl
 |x,m::ns,n=>sQ (x / m) ns n
theorem sG:∀ (x:Int) (ns:List Int) (n:Int),lI x (ns++[n])=lI x ns++[aFQ x ns%n]
 |_,[],_=>rfl
 |x,m::ns,n=>by show(x%m)::lI (x / m) (ns++[n])=_;rw[sG (x / m) ns n];rfl
theorem mL{ns:List Int}{k:Nat}(h:(ns.map D.int)[k]? =some d):k<ns.length/\d=.int (ns.getD k 0):=by
 rw[bK] at h;cases e:ns[k]? with
 |none=>rw[e] at h;cases h
 |some z=>rw[e] at h;refine⟨(bE.mp e).1, ?_⟩;rw[<-bN.inj h,bQ,e];rfl
theorem aHq{i j:Int}{a1 a2 b1:Nat}{p1 p2 p3:Pos}(h1:AC [Expr.Constant (.int i) a1 p1,Expr.Constant (.int j) a2 p2] X.env=(false,eval (Expr.Constant (.int i) a1 p1) X.env)::AC [Expr.Constant (.int j) a2 p2] X.env)
  (h2:AC [Expr.Constant (.int j) a2 p2] X.env=(false,eval (Expr.Constant (.int j) a2 p2) X.env)::AC [] X.env):PEd X sd (.Tuple [.Constant (.int i) a1 p1, .Constant (.int j) a2 p2] b1 p3) (.val<|bR (i,j)):=
 gY (ds:=[.int i,.int j]) (aA aM (aA aM aE trivial h2) trivial h1) (dH rfl)
theorem getD_mem{α:Type}{l:List α}{i:Nat}{d:α}(h:i<l.length):l.getD i d∈l:=by
 have e:l.getD i d=l[i]:=by simp[bQ,h]
 rw[e];exact gC h
theorem aCH(h:aHK H):Smp H:=λb o e=>by
 rcases h b with z|⟨o',xs,z⟩
 ·rw[z] at e;cases e
 ·rw[z] at e;cases e;trivial
theorem walkD{l:PySem.W.OpenLaw}{k:Nat}{x:Str}{q:AG}{loose:List Str}{XP:(Str->Option BA)->BE->Prop}{YP:AI->BE->Prop}{d:DefRec}{K:Params->aB}(hn:l.most=some 63)(hdf:d.params.defaults=[])
  (hr:Room k callerA) (hY:∀ (w:AI) (h:BE),YP w h->(K w.params).In h)
  (F:∀ (w:AI) (mg:Str→Option BA) (fa:BC) (h:BE),(K w.params).In h→h.Ns AJ mg→mg d.name=some (.ref fa)→
   ∃fd:AK,(∀ (s:AA) (u:BA),BindsTo s fd ⟨[u],[]⟩ [(x,u)])/\∀base:BE,(K w.params).In base->base.Ns AJ mg->FnOk l.prog w (K w.params) mg base CX0 k fa fd [x] (spC (K w.params) 1 aHI)):
  PySem.W.WalkO q loose XP YP l.row.toRowW d [] (λf vs=>PySem.call f vs):=
 L2.walk_of (n:=63) (k:=k) (x:=x) (CX:=λ_=>CX0) (sp:=λw=>spC (K w.params) 1 aHI) hn (by decide) hdf hr hY F
  (λw H a ns hl ho hS=>⟨rfl,aCH ho,[.scr ns],.val<|.bl true,.one (by simp only[Rep];exact⟨a,rfl,hS⟩),⟨ns,rfl,hl,rfl⟩,λv H' ⟨F,_,_,_,res⟩=>by simpa only[ResOk,Rep] using res⟩) λ_ _ _ _ _ z=>z
variable {pins:List (BC×BF)}{s:AA}{sts:List BG}
noncomputable abbrev reB(X:Cx)(B:Hp)(h:∀b o,X.H₀ b=some o->uX o->B b=some o):Cx:={X with B₀:=B,hB:=h}
theorem aFf{B:Hp}{hb:∀b o,X.H₀ b=some o->uX o->B b=some o}(I:Inv X pins σ H s):Inv (reB X B hb) pins σ H s:=
 ⟨⟨I.ok.mod,I.ok.kind,I.ok.glob,I.ok.blt,I.ok.above,I.ok.inj,I.ok.has,I.ok.cab,I.ok.hd,I.ok.frames,I.ok.stk,I.ok.exf,I.ok.bs,I.ok.bsz,I.ok.noex,I.ok.exfs,I.ok.funs,I.ok.frf⟩,I.os,I.bare,I.base,I.loc,I.cell,I.free,I.freeC,I.pin,I.hok,I.len⟩
theorem pA{B:Hp}{hb:∀b o,X.H₀ b=some o->uX o->B b=some o}(I:Inv (reB X B hb) pins σ H s):Inv X pins σ H s:=
 ⟨⟨I.ok.mod,I.ok.kind,I.ok.glob,I.ok.blt,I.ok.above,I.ok.inj,I.ok.has,I.ok.cab,I.ok.hd,I.ok.frames,I.ok.stk,I.ok.exf,I.ok.bs,I.ok.bsz,I.ok.noex,I.ok.exfs,I.ok.funs,I.ok.frf⟩,I.os,I.bare,I.base,I.loc,I.cell,I.free,I.freeC,I.pin,I.hok,I.len⟩
theorem aEM{B:Hp}{hb:∀b o,X.H₀ b=some o->uX o->B b=some o}{D:oP}(h:wSs (reB X B hb) sts D σ H):wSs X sts D σ H:=λpins s I=>thn (h pins s<|aFf I) λf s' q=>by
 cases f with
 |next=>obtain⟨σ',H',I',q⟩:=q;exact⟨σ',H',pA I',q⟩
 |brk=>obtain⟨σ',H',I',q⟩:=q;exact⟨σ',H',pA I',q⟩
 |cont=>obtain⟨σ',H',I',q⟩:=q;exact⟨σ',H',pA I',q⟩
 |ret u=>obtain⟨v,σ',H',I',r,q⟩:=q;exact⟨v,σ',H',pA I',r,q⟩
structure Lent(K:aB) where
 α:Type
 ad:α->BC
 own:α->List BC
 G:α->V->Hp->Hp->Prop
 hv:∀ {a:α}{v:V}{F H:Hp},G a v F H->v=.ref (ad a)
noncomputable def Lent.sl{K:aB}(Z:Lent K)(a:Z.α):Slot:=.ox (Z.own a)<|Z.G a
variable (Z:Lent K)
noncomputable def spL(n:Nat)(C:Z.α->List D->(Z.α->Prop)->Prop):Sp:=λvs H Q _=>vs.length=n/\∃ (v:V) (us:List V) (F:Hp) (a:Z.α) (ds:List D) (post:Z.α->Prop),vs=v::us/\Same F H/\(∀b,b∉Z.own a->H b=F b)/\Smp H/\gK K F H (Z.sl a) (some v)/\(Z.own a).Nodup/\RepL K F ds us/\C a ds post/\(∀a',post a'->Z.ad a'=Z.ad a)/\
 ∀H',(∃F' a',post a'/\Same F F'/\Same F' H'/\Smp H'/\gK K F' H' (Z.sl a') (some v)/\(Z.own a').Nodup)->Q .non H'
noncomputable def spM(n:Nat)(C:Z.α->List D->(Z.α->Prop)->Prop):Sp:=λvs H Q _=>vs.length=n/\Smp H/\∃ (v:V) (us:List V) (F:Hp) (a:Z.α) (ds:List D) (post:Z.α->Prop),vs=v::us/\Same F H/\gK K F H (Z.sl a) (some v)/\(Z.own a).Nodup/\RepL K F ds us/\C a ds post/\(∀a',post a'->Z.ad a'=Z.ad a)/\
 ∀F' H' a',post a'->Same F F'->Same F' H'->Smp H'->gK K F' H' (Z.sl a') (some v)->(Z.own a').Nodup->(∀b o,b∉Z.own a->H b=some o->H' b=some o)->(∀b o,b∉Z.own a->H b=some o->F b=none->F' b=none/\b∉Z.own a')->Q .non H'
open Classical in
noncomputable def qF(as:List BC)(F H:Hp):Hp:=λb=>if b∈as then H b else F b
open Classical in
noncomputable def iU(as:List BC)(F H:Hp):Hp:=λb=>if b∈as then F b else merge F H b
theorem jU{as:List BC}:Same F (iU as F H):=λb o e=>by
 unfold iU
 by_cases h:b∈as
 ·rw[if_pos h];exact e
 ·rw[if_neg h];exact mQ _ _ e
theorem mK{as:List BC}{b:BC}(hb:b∉as)(h:F b=none):iU as F H b=H b:=by unfold iU;rw[if_neg hb];exact nK h
theorem uD{as:List BC}{b:BC}(hb:b∈as):qF as F H b=H b:=by unfold qF;rw[if_pos hb]
theorem mG{as:List BC}{b:BC}(hb:b∉as):qF as F H b=F b:=by unfold qF;rw[if_neg hb]
theorem FnOk.framedL{P:AG}{w:AI}{Z:Lent K}{mg:Str->Option BA}{base:BE}{k n:Nat}{f:BC}{fd:AK}{ps:List Str}{C:Z.α->List D->(Z.α->Prop)->Prop}(G:FnOk P w K mg base CX0 k f fd ps (spL Z n C)):FnOk P w K mg base CX0 k f fd ps (spM Z n C):=by
 have res:∀ {F H:Hp}{a:Z.α}{v:V},Same F H->gK K F H (Z.sl a) (some v)->Same F (qF (Z.own a) F H)/\Same (qF (Z.own a) F H) H/\gK K F (qF (Z.own a) F H) (Z.sl a) (some v):=λ{F H a v} sF so=>by
  obtain⟨v',ev,ow,gg⟩:=so;refine⟨λb o e=> ?_,λb o e=> ?_,v',ev,λb hb=>⟨(ow b hb).1, ?_⟩,λF' H' s k=>gg F' H' s λb hb ob e=>k b hb ob<|by rw[uD hb];exact e⟩
  ·by_cases h:b∈Z.own a
   ·rw[(ow b h).1] at e;cases e
   ·rw[mG h];exact e
  ·by_cases h:b∈Z.own a
   ·rw[uD h] at e;exact e
   ·rw[mG h] at e;exact sF b o e
  ·rw[uD hb];exact(ow b hb).2
 refine⟨λvs H Q E h=> ?_,λA outer s H args us vs Q E hr e0 hb rv h=> ?_⟩
 ·obtain⟨hl,sm,v,us,F,a,ds,post,e,sF,so,nd,rl,c,hp,_⟩:=h;obtain⟨q1,q2,q3⟩:=res sF so;exact G.len vs (qF (Z.own a) F H) (λ_ _=>True) E ⟨hl,v,us,F,a,ds,post,e,q1,λb hb=>mG hb,sm.sub q2,q3,nd,rl,c,hp,λ_ _=>trivial⟩
 ·obtain⟨hl,sm,v,us',F,a,ds,post,ev,sF,so,nd,rl,c,hp,q⟩:=h;obtain⟨q1,sU,q3⟩:=res sF so;obtain⟨_,_,ow,_⟩:=id so;have nU:∀b,b∉Z.own a->F b=none->qF (Z.own a) F H b=none:=λb hbl n=>by rw[mG hbl];exact n
  have e1:Env0 P w K mg base A outer s (qF (Z.own a) F H):=⟨e0.frames,e0.mod,λb o e=>⟨(e0.bs b o e).1,sU.free (e0.bs b o e).2⟩,e0.bsz,e0.funs,λb hb=>sU.free<|e0.frf b hb,λb o e=>(e0.hok b o<|sU b o e).smp (sm b o<|sU b o e),e0.bare⟩;refine Ag (G.run A outer s (qF (Z.own a) F H) args us vs (λv3 F3=>v3=.non/\∃F' a',post a'/\Same F F'/\Same F' F3/\Smp F3/\gK K F' F3 (Z.sl a') (some v)/\(Z.own a').Nodup) E hr e1 hb rv ⟨hl,v,us',F,a,ds,post,ev,q1,λb hb=>mG hb,sm.sub sU,q3,nd,rl,c,hp,λH' z=>⟨rfl,z⟩⟩) λrr s' hrr=> ?_
  cases rr with
  |error e=>exact hrr
  |ok flw=>
   cases flw with
   |ret u=>
    obtain⟨v3,F3,ho,ha,un,hk,ru,e3,F2,a',pa,s1,s2,sm3,so3,nd3⟩:=hrr;subst e3
    have keepF:∀b o,b∉Z.own a->H b=some o->F b=none->F3 b=none:=λb o hbl e n=>by
     have lt:=e0.hok.lt e;cases g:s.heap.get? b with
     |none=>
      exfalso;have ob:=e0.hok b o e;have z:=sm b o e;cases o with
      |lst xs=>obtain⟨_,_,_,_,g'⟩:=ob;rw[g] at g';cases g'
      |tup xs=>obtain⟨_,_,_,oo,g',_⟩:=ob;rw[g] at g';cases g'
      |dK kvs=>obtain⟨_,_,_,_,oo,_,_,g',_⟩:=ob;rw[g] at g';cases g'
      |frz o2 u2=>obtain⟨g',_⟩:=ob;rw[g] at g';cases g'
      |ext φ=>obtain⟨_,⟨oo,g'⟩,_⟩:=ob;rw[g] at g';cases g'
      |_=>exact z
     |some ob=>exact un.free b ob g (nU b hbl n)<|by simp
    have keepO:∀b o,b∉Z.own a->H b=some o->F b=none->∀ob,s.heap.get? b=some ob->s'.heap.get? b=some ob:=λb o hbl e n ob g=>un.keep b ob g (nU b hbl n) (λhb=>by have:=e0.frf b hb;rw[e] at this;cases this)<|by simp
    have sH:∀b o,b∉Z.own a->H b=some o->iU (Z.own a) F3 H b=some o:=λb o hbl e=>by
     cases g:F b with
     |none=>rw[mK hbl<|keepF b o hbl e g];exact e
     |some o'=>have:=sF b o' g;rw[e] at this;cases this;exact jU _ _ (s2 _ _<|s1 _ _ g)
    have nl:∀ {b:BC}{o:HO},H b=some o->¬ Wr b o->b∉Z.own a:=λe no z=>by obtain⟨_,ob,g,wr⟩:=ow _ z;rw[e] at g;cases g;exact no wr
    have nn:∀ {b:BC},H b=none->b∉Z.own a:=λe z=>by obtain⟨_,ob,g,_⟩:=ow _ z;rw[e] at g;cases g
    have smM:Smp (iU (Z.own a) F3 H):=λb o e=>by
     by_cases hbl:b∈Z.own a
     ·unfold iU at e;rw[if_pos hbl] at e;exact sm3 _ o e
     ·cases g:F3 b with
      |some o'=>have:=jU (as:=Z.own a) (H:=H) b o' g;rw[e] at this;cases this;exact sm3 b o g
      |none=>rw[mK hbl g] at e;exact sm b o e
    have soM:gK K F2 (iU (Z.own a) F3 H) (Z.sl a') (some v):=by obtain⟨v',ev,ow3,gg⟩:=so3;refine⟨v',ev,λb hb=>⟨(ow3 b hb).1, ?_⟩,λF' H' s k=>gg F' H' s λb hb ob e=>k b hb ob<|jU _ _ e⟩;obtain⟨_,ob,g,wr⟩:=ow3 b hb;exact⟨ob,jU _ _ g,wr⟩
    refine⟨.non,iU (Z.own a) F3 H,ho,ha,⟨λb o g n hb hx=>un.keep b o g (sU.free n) hb hx,λb o g n hb hx=>un.slot b o g (sU.free n) hb hx,λb o g n hx=> ?_,un.there,λb xs e=>sH _ _ (nl e λz=>z) e,λb o u e=>sH _ _ (nl e λz=>z) e,λb ps e=>⟨#[],by rw[sH _ _ (nl e λz=>z) e];simp⟩⟩,λb o e=> ?_,ru, ?_⟩
    ·rw[mK (nn n)<|un.free b o g (sU.free n) hx];exact n
    ·have z:=smM b o e
     by_cases hbl:b∈Z.own a
     ·have e':F3 b=some o:=by unfold iU at e;rw[if_pos hbl] at e;exact e
      exact(hk b o e').smp z
     ·cases g:F3 b with
      |some o'=>have:=jU (as:=Z.own a) (H:=H) b o' g;rw[e] at this;cases this;exact(hk b o g).smp z
      |none=>
       rw[mK hbl g] at e
       have n:F b=none:=by
        cases g2:F b with
        |none=>rfl
        |some o2=>rw[s2 _ _<|s1 _ _ g2] at g;cases g
       have st:=(e0.hok b o e).smp (F:=λ_=>none) z
       have:ObjOk P w (fun _=>none) s'.heap b o:=st.stay (fun b2 u hb2 gg=>by
        rcases hb2 with rfl|hb2
        ·exact keepO _ o hbl e n u gg
        ·cases hb2) (λb2 hb2=>nomatch hb2) λb2 xs hb2=>nomatch hb2
       exact this.smp z
    ·refine q F2 (iU (Z.own a) F3 H) a' pa s1 (s2.trans jU) smM soM nd3 sH λb o hbl e n=> ?_
     have n3:=keepF b o hbl e n;refine⟨s2.free n3,λhb=> ?_⟩;obtain⟨_,_,ow3,_⟩:=so3;obtain⟨_,ob,g,_⟩:=ow3 b hb;rw[n3] at g;cases g
   |_=>exact hrr
theorem pY:∀ {sd:List Slot}{i:Nat}{z:Slot},(cA sd).Nodup->sd[i]? =some z->(fV z).Nodup
 |[],_,_,_,e=>by simp at e
 |y::zs,0,z,h,e=>by
  have:y=z:=by simpa using e
  subst this;exact(dS.mp (show(fV y++cA zs).Nodup from h)).1
 |y::zs,i+1,z,h,e=>pY (sd:=zs) (i:=i) (dS.mp (show(fV y++cA zs).Nodup from h)).2.1 (by simpa using e)
noncomputable def uL{K:aB}(Z:Lent K)(n:Nat)(a:Z.α)(ds:List D):List Slot:=Z.sl a::(ds.map Slot.val++aI (n-(ds.length+1)) .un)
mutual
noncomputable def deq:D->D->Bool
 |.non,.non=>true
 |.bl a,.bl b=>a==b
 |.bl a,.int b=>(if a then 1 else 0)==b
 |.int a,.bl b=>a==(if b then 1 else 0)
 |.int a,.int b=>a==b
 |.str a,.str b=>a==b
 |.tup a,.tup b=>gR a b
 |.lst a,.lst b=>gR a b
 |_,_=>false
noncomputable def gR:List D->List D->Bool
 |[],[]=>true
 |x::xs,y::ys=>deq x y&&gR xs ys
 |_,_=>false
end
mutual
noncomputable def pl:D->Bool
 |.dic=>false
 |.dki _ _=>false
 |.any _=>false
 |.scr _=>false
 |.tup ds=>plL ds
 |.lst ds=>plL ds
 |_=>true
noncomputable def plL:List D->Bool
 |[]=>true
 |d::ds=>pl d&&plL ds
end
mutual
noncomputable def dep:D->Nat
 |.tup ds=>jS ds+1
 |.lst ds=>jS ds+1
 |_=>0
noncomputable def jS:List D->Nat
 |[]=>0
 |d::ds=>max (dep d)<|jS ds
end
theorem uT:∀ {ds:List D}{i:Nat}{d:D},plL ds=true->ds[i]? =some d->pl d=true
 |[],i,d,_,e=>by simp at e
 |d'::ds,i,d,h,e=>by
  simp only[plL,aW] at h;cases i with
  |zero=>simp at e;subst e;exact h.1
  |succ i=>exact uT h.2 (by simpa using e)
theorem qM:∀ {ds:List D}{i:Nat}{d:D},ds[i]? =some d->dep d<=jS ds
 |[],i,d,e=>by simp at e
 |d'::ds,i,d,e=>by
  simp only[jS];cases i with
  |zero=>simp at e;subst e;exact Nat.le_max_left _ _
  |succ i=>exact bM (qM (i:=i)<|by simpa using e)<|Nat.le_max_right _ _
theorem deqL_iff:∀ {xs ys:List D},gR xs ys=true↔xs.length=ys.length/\∀ (j:Nat) (x y:D),xs[j]? =some x->ys[j]? =some y->deq x y=true
 |[],[]=>by simp[gR]
 |[],y::ys=>by simp[gR]
 |x::xs,[]=>by simp[gR]
 |x::xs,y::ys=>by
  simp only[gR,aW,bX,deqL_iff (xs:=xs) (ys:=ys)]
  constructor
  ·rintro⟨h1,h2,h3⟩;refine⟨by omega,λj a b ea eb=> ?_⟩;cases j with
   |zero=>simp at ea eb;subst ea eb;exact h1
   |succ j=>exact h3 j a b (by simpa using ea) (by simpa using eb)
  ·rintro⟨h1,h2⟩;exact⟨h2 0 x y rfl rfl,by omega,λj a b ea eb=>h2 (j+1) a b (by simpa using ea)<|by simpa using eb⟩
mutual
theorem qT{K:aB}{H:Hp}:∀ {d1 d2:D}{v:V},pl d1=true->Rep K H d1 v->Rep K H d2 v->pl d2=true->deq d1 d2=true
 |.non,d2,v,_,r1,r2,_=>by simp only[Rep] at r1;subst r1;cases d2<;>simp_all[Rep,deq]
 |.bl b,d2,v,_,r1,r2,_=>by simp only[Rep] at r1;subst r1;cases d2<;>simp_all[Rep,deq]
 |.int b,d2,v,_,r1,r2,_=>by simp only[Rep] at r1;subst r1;cases d2<;>simp_all[Rep,deq]
 |.str b,d2,v,_,r1,r2,_=>by simp only[Rep] at r1;subst r1;cases d2<;>simp_all[Rep,deq]
 |.dic,_,_,h,_,_,_=>by simp[pl] at h
 |.dki _ _,_,_,h,_,_,_=>by simp[pl] at h
 |.any _,_,_,h,_,_,_=>by simp[pl] at h
 |.scr _,_,_,h,_,_,_=>by simp[pl] at h
 |.tup ds,d2,v,p1,r1,r2,p2=>by
  simp only[Rep] at r1;obtain⟨a,xs,rfl,ha,rl⟩:=r1;cases d2 with
  |tup es=>simp only[Rep] at r2;obtain⟨a',xs',e,ha',rl'⟩:=r2;cases e;rw[ha] at ha';cases ha';simp only[deq];exact oB (by simpa[pl] using p1) rl rl' (by simpa[pl] using p2)
  |lst es=>simp only[Rep] at r2;obtain⟨a',xs',e,ha',rl'⟩:=r2;cases e;rw[ha] at ha';cases ha'
  |dic=>simp[pl] at p2
  |dki=>simp[pl] at p2
  |any=>simp[pl] at p2
  |scr=>simp[pl] at p2
  |_=>simp[Rep] at r2
 |.lst ds,d2,v,p1,r1,r2,p2=>by
  simp only[Rep] at r1;obtain⟨a,xs,rfl,ha,rl⟩:=r1;cases d2 with
  |lst es=>simp only[Rep] at r2;obtain⟨a',xs',e,ha',rl'⟩:=r2;cases e;rw[ha] at ha';cases ha';simp only[deq];exact oB (by simpa[pl] using p1) rl rl' (by simpa[pl] using p2)
  |tup es=>simp only[Rep] at r2;obtain⟨a',xs',e,ha',rl'⟩:=r2;cases e;rw[ha] at ha';cases ha'
  |dic=>simp[pl] at p2
  |dki=>simp[pl] at p2
  |any=>simp[pl] at p2
  |scr=>simp[pl] at p2
  |_=>simp[Rep] at r2
theorem oB{K:aB}{H:Hp}:∀ {ds es:List D}{xs:List V},plL ds=true->RepL K H ds xs->RepL K H es xs->plL es=true->gR ds es=true
 |[],es,xs,_,r1,r2,_=>by
  simp only[RepL] at r1;subst r1;cases es with
  |nil=>rfl
  |cons e es=>obtain⟨y,ys,z,_⟩:=r2.uncons;cases z
 |d::ds,es,xs,p1,r1,r2,p2=>by
  obtain⟨y,ys,rfl,a,rl⟩:=r1.uncons;cases es with
  |nil=>simp only[RepL] at r2;cases r2
  |cons e es=>obtain⟨y',ys',z,a',rl'⟩:=r2.uncons;cases z;simp only[plL,aW] at p1 p2;simp only[gR,aW];exact⟨qT p1.1 a a' p2.1,oB p1.2 rl rl' p2.2⟩
end
noncomputable def mR:D->Bool
 |.non=>true
 |.bl _=>true
 |.int _=>true
 |.str _=>true
 |_=>false
theorem oW(h:mR d=true)(r:Rep K H d v):jT v=true/\flt d=some v:=by cases d<;>simp_all[mR,Rep,jT,flt]
variable {P:AG}{w:AI}
theorem iP(hok:HOk P w H s.heap){u:BA}(r:Rep K H (.tup ds) v)(ru:RelV v u):∃a xs its,u=.ref a/\v=.ref a/\RepL K H ds xs/\Vals xs its/\s.heap.IsTuple a its.toArray:=by simp only[Rep] at r;obtain⟨a,xs,rfl,ha,rl⟩:=r;cases ru;obtain⟨_,its,rv,p⟩:=(show ObjOk P w H s.heap a (.tup xs) from hok a _ ha);exact⟨a,xs,its,rfl,rfl,rl,rv,p.tup⟩
theorem hW(hok:HOk P w H s.heap){u:BA}(r:Rep K H (.lst ds) v)(ru:RelV v u):∃a xs its,u=.ref a/\v=.ref a/\RepL K H ds xs/\Vals xs its/\s.heap.IsList a its.toArray:=by simp only[Rep] at r;obtain⟨a,xs,rfl,ha,rl⟩:=r;cases ru;obtain⟨_,its,n,rv,p⟩:=(show ObjOk P w H s.heap a (.lst xs) from hok a _ ha);exact⟨a,xs,its,rfl,rfl,rl,rv,_,p,rfl,n,rfl⟩
noncomputable def dAt(ds es:List D)(j:Nat):Bool:=match ds[j]?,es[j]? with
 |some x,some y=>deq x y
 |_,_=>false
theorem mS(ds es:List D):((bC<|min ds.length es.length).all (dAt ds es)&&ds.length==es.length)=gR ds es:=by
 rw[fD,deqL_iff,aW,dI,beq_iff_eq]
 constructor
 ·rintro⟨h1,h2⟩;refine⟨h2,λj x y ex ey=> ?_⟩;have hj:j<ds.length:=(bE.mp ex).1;have:=h1 j (cR.mpr<|by omega);unfold dAt at this;rw[ex,ey] at this;exact this
 ·rintro⟨h1,h2⟩;refine⟨λj hj=> ?_,h1⟩;have hj':=cR.mp hj;have e1:ds[j]? =some (ds[j]'(by omega)):=by simp
  have e2:es[j]? =some (es[j]'(by omega)):=by simp
  unfold dAt;rw[e1,e2];exact h2 j _ _ e1 e2
theorem oE{es:List D}(h:ds.length=es.length):(bC ds.length).all (dAt ds es)=gR ds es:=by have:=mS ds es;rw[h] at this ⊢;simpa using this
theorem qY{es:List D}(h:ds.length≠es.length):gR ds es=false:=by
 cases e:gR ds es with
 |false=>rfl
 |true=>exact absurd (deqL_iff.mp e).1 h
mutual
theorem zO(hok:HOk P w H s.heap):∀ (d1:D) {d2:D}{v1 v2:V}{u1 u2:BA}{A:BD},pl d1=true->pl d2=true->Rep K H d1 v1->Rep K H d2 v2->RelV v1 u1->RelV v2 u2->A.units+dep d1<AX->SeqAt.EqAt A s u1 u2 (deq d1 d2)
 |.tup ds,d2,v1,v2,u1,u2,A,p1,p2,r1,r2,ru1,ru2,hu=>by
  have hu':A.units<AX:=by omega
  obtain⟨a,xs,its,rfl,rfl,rl,rv,ht⟩:=iP hok r1 ru1;cases d2 with
  |non=>simp only[Rep] at r2;subst r2;cases ru2;exact SeqAt.EqAt.tuple_none ht hu'
  |bl b=>simp only[Rep] at r2;subst r2;cases ru2;exact SeqAt.EqAt.tuple_bool b ht hu'
  |int b=>simp only[Rep] at r2;subst r2;obtain⟨t,rfl⟩:=ru2;exact SeqAt.EqAt.tuple_int b t ht hu'
  |str b=>simp only[Rep] at r2;subst r2;obtain⟨t,rfl⟩:=ru2;exact SeqAt.EqAt.tuple_str b t ht hu'
  |dic=>simp[pl] at p2
  |dki=>simp[pl] at p2
  |any=>simp[pl] at p2
  |scr=>simp[pl] at p2
  |lst es=>obtain⟨b,ys,jts,rfl,rfl,rl2,rv2,hl2⟩:=hW hok r2 ru2;exact SeqAt.EqAt.tuple_list ht hl2 hu'
  |tup es=>
   obtain⟨b,ys,jts,rfl,e2,rl2,rv2,ht2⟩:=iP hok r2 ru2
   by_cases hab:a=b
   ·subst hab;have:=qT p1 r1 (e2▸r2) p2;rw[this];exact SeqAt.EqAt.same _
   ·simp only[deq];rw[<-mS];have l1:its.toArray.size=ds.length:=by rw[aG,<-rv.length,rl.len]
    have l2:jts.toArray.size=es.length:=by rw[aG,<-rv2.length,rl2.len]
    rw[<-l1,<-l2];simp only[pl] at p1 p2;simp only[dep] at hu;refine .of_refs hab<|.tuples ht ht2 hu' λj h1 h2=> ?_;exact lZ hok ds p1 p2 rl rl2 rv rv2 (A:=A.in1) (by show A.units+1+_<AX;omega) (by simp)<|by simp
 |.lst ds,d2,v1,v2,u1,u2,A,p1,p2,r1,r2,ru1,ru2,hu=>by
  have hu':A.units<AX:=by omega
  obtain⟨a,xs,its,rfl,rfl,rl,rv,ht⟩:=hW hok r1 ru1;cases d2 with
  |non=>simp only[Rep] at r2;subst r2;cases ru2;exact SeqAt.EqAt.list_none ht hu'
  |bl b=>simp only[Rep] at r2;subst r2;cases ru2;exact SeqAt.EqAt.list_bool b ht hu'
  |int b=>simp only[Rep] at r2;subst r2;obtain⟨t,rfl⟩:=ru2;exact SeqAt.EqAt.list_int b t ht hu'
  |str b=>simp only[Rep] at r2;subst r2;obtain⟨t,rfl⟩:=ru2;exact SeqAt.EqAt.list_str b t ht hu'
  |dic=>simp[pl] at p2
  |dki=>simp[pl] at p2
  |any=>simp[pl] at p2
  |scr=>simp[pl] at p2
  |tup es=>obtain⟨b,ys,jts,rfl,rfl,rl2,rv2,hl2⟩:=iP hok r2 ru2;exact SeqAt.EqAt.list_tuple ht hl2 hu'
  |lst es=>
   obtain⟨b,ys,jts,rfl,e2,rl2,rv2,ht2⟩:=hW hok r2 ru2
   by_cases hab:a=b
   ·subst hab;have:=qT p1 r1 (e2▸r2) p2;rw[this];exact SeqAt.EqAt.same _
   ·simp only[deq];have l1:its.toArray.size=ds.length:=by rw[aG,<-rv.length,rl.len]
    have l2:jts.toArray.size=es.length:=by rw[aG,<-rv2.length,rl2.len]
    simp only[pl] at p1 p2;simp only[dep] at hu
    by_cases hl:ds.length=es.length
    ·rw[<-oE hl,<-l1];refine .of_refs hab<|.lists ht ht2 (by rw[l1,l2,hl]) hu' λj h1 h2=> ?_;exact lZ hok ds p1 p2 rl rl2 rv rv2 (A:=A.in1) (by show A.units+1+_<AX;omega) (by simp)<|by simp
    ·rw[qY hl];exact .of_refs hab<|.lists_lengths ht ht2 (by rw[l1,l2];simpa using hl) hu'
 |.dic,_,_,_,_,_,_,p1,_,_,_,_,_,_=>by simp[pl] at p1
 |.dki _ _,_,_,_,_,_,_,p1,_,_,_,_,_,_=>by simp[pl] at p1
 |.any _,_,_,_,_,_,_,p1,_,_,_,_,_,_=>by simp[pl] at p1
 |.scr _,_,_,_,_,_,_,p1,_,_,_,_,_,_=>by simp[pl] at p1
 |.non,d2,v1,v2,u1,u2,A,p1,p2,r1,r2,ru1,ru2,hu=>by
  have hu':A.units<AX:=by omega
  simp only[Rep] at r1;subst r1;cases hf:mR d2 with
  |true=>obtain⟨h1,h2⟩:=oW hf r2;have:=pW (A:=A) (s:=s) ru1 ru2 rfl h1;cases d2<;>simp_all[mR,flt,Rep,deq,eqV]
  |false=>
   cases ru1;cases d2 with
   |tup es=>obtain⟨b,ys,jts,rfl,e2,rl2,rv2,ht2⟩:=iP hok r2 ru2;exact SeqAt.EqAt.none_tuple ht2 hu'
   |lst es=>obtain⟨b,ys,jts,rfl,e2,rl2,rv2,ht2⟩:=hW hok r2 ru2;exact SeqAt.EqAt.none_list ht2 hu'
   |dic=>simp[pl] at p2
   |dki=>simp[pl] at p2
   |any=>simp[pl] at p2
   |scr=>simp[pl] at p2
   |_=>simp[mR] at hf
 |.bl q,d2,v1,v2,u1,u2,A,p1,p2,r1,r2,ru1,ru2,hu=>by
  have hu':A.units<AX:=by omega
  simp only[Rep] at r1;subst r1;cases hf:mR d2 with
  |true=>obtain⟨h1,h2⟩:=oW hf r2;have:=pW (A:=A) (s:=s) ru1 ru2 rfl h1;cases d2<;>simp_all[mR,flt,Rep,deq,eqV]
  |false=>
   cases ru1;cases d2 with
   |tup es=>obtain⟨b,ys,jts,rfl,e2,rl2,rv2,ht2⟩:=iP hok r2 ru2;exact SeqAt.EqAt.bool_tuple q ht2 hu'
   |lst es=>obtain⟨b,ys,jts,rfl,e2,rl2,rv2,ht2⟩:=hW hok r2 ru2;exact SeqAt.EqAt.bool_list q ht2 hu'
   |dic=>simp[pl] at p2
   |dki=>simp[pl] at p2
   |any=>simp[pl] at p2
   |scr=>simp[pl] at p2
   |_=>simp[mR] at hf
 |.int q,d2,v1,v2,u1,u2,A,p1,p2,r1,r2,ru1,ru2,hu=>by
  have hu':A.units<AX:=by omega
  simp only[Rep] at r1;subst r1;cases hf:mR d2 with
  |true=>obtain⟨h1,h2⟩:=oW hf r2;have:=pW (A:=A) (s:=s) ru1 ru2 rfl h1;cases d2<;>simp_all[mR,flt,Rep,deq,eqV]
  |false=>
   obtain⟨t,rfl⟩:=ru1;cases d2 with
   |tup es=>obtain⟨b,ys,jts,rfl,e2,rl2,rv2,ht2⟩:=iP hok r2 ru2;exact SeqAt.EqAt.int_tuple q t ht2 hu'
   |lst es=>obtain⟨b,ys,jts,rfl,e2,rl2,rv2,ht2⟩:=hW hok r2 ru2;exact SeqAt.EqAt.int_list q t ht2 hu'
   |dic=>simp[pl] at p2
   |dki=>simp[pl] at p2
   |any=>simp[pl] at p2
   |scr=>simp[pl] at p2
   |_=>simp[mR] at hf
 |.str q,d2,v1,v2,u1,u2,A,p1,p2,r1,r2,ru1,ru2,hu=>by
  have hu':A.units<AX:=by omega
  simp only[Rep] at r1;subst r1;cases hf:mR d2 with
  |true=>obtain⟨h1,h2⟩:=oW hf r2;have:=pW (A:=A) (s:=s) ru1 ru2 rfl h1;cases d2<;>simp_all[mR,flt,Rep,deq,eqV]
  |false=>
   obtain⟨t,rfl⟩:=ru1;cases d2 with
   |tup es=>obtain⟨b,ys,jts,rfl,e2,rl2,rv2,ht2⟩:=iP hok r2 ru2;exact SeqAt.EqAt.str_tuple q t ht2 hu'
   |lst es=>obtain⟨b,ys,jts,rfl,e2,rl2,rv2,ht2⟩:=hW hok r2 ru2;exact SeqAt.EqAt.str_list q t ht2 hu'
   |dic=>simp[pl] at p2
   |dki=>simp[pl] at p2
   |any=>simp[pl] at p2
   |scr=>simp[pl] at p2
   |_=>simp[mR] at hf
theorem lZ(hok:HOk P w H s.heap):∀ (ds:List D) {es:List D}{xs ys:List V}{its jts:List BA}{j:Nat}{x y:BA}{A:BD},plL ds=true->plL es=true->RepL K H ds xs->RepL K H es ys->Vals xs its->Vals ys jts->A.units+jS ds<AX->its[j]? =some x->jts[j]? =some y->SeqAt.EqAt A s x y (dAt ds es j)
 |[],es,xs,ys,its,jts,j,x,y,A,_,_,r1,_,v1,_,_,e1,_=>by simp only[RepL] at r1;subst r1;cases v1;simp at e1
 |d::ds,es,xs,ys,its,jts,j,x,y,A,p1,p2,r1,r2,v1,v2,hu,e1,e2=>by
  obtain⟨a,as,rfl,ra,rl⟩:=r1.uncons;cases v1 with
  |cons va vas=>
   cases es with
   |nil=>simp only[RepL] at r2;subst r2;cases v2;simp at e2
   |cons e es=>
    obtain⟨b,bs,rfl,rb,rl2⟩:=r2.uncons;cases v2 with
    |cons vb vbs=>
     simp only[plL,aW] at p1 p2;simp only[jS] at hu;cases j with
     |zero=>simp at e1 e2;subst e1 e2;exact zO hok d p1.1 p2.1 ra rb va vb<|by omega
     |succ j=>exact lZ hok ds p1.2 p2.2 rl rl2 vas vbs (by omega) (by simpa using e1) (by simpa using e2)
end
theorem rc_D{d1 d2:D}{u:V}{x y:BA}{Q:BA->AA->Prop}(I:Inv X pins σ H s)(hs:(isT d1=true/\isT d2=true)\/(isL d1=true/\isL d2=true))(p1:pl d1=true)(p2:pl d2=true)(r1:Rep K H d1 v)(r2:Rep K H d2 u)(rx:RelV v x)(ry:RelV u y)
  (hu:X.A.units+dep d1+1<AX) (q:Q (.bool<|deq d1 d2) s):AE (AF X.prog X.w) X.A (AM .Eq x y) Q X.xe s:=by
 have hu':X.A.units<AX:=by omega
 rcases hs with⟨t1,t2⟩|⟨t1,t2⟩
 ·cases d1<;>first|(simp[isT] at t1;done)|skip
  cases d2<;>first|(simp[isT] at t2;done)|skip
  rename_i ds es;obtain⟨a,xs,its,rfl,rfl,rl,rv,ht⟩:=iP I.hok r1 rx;obtain⟨b,ys,jts,rfl,rfl,rl2,rv2,ht2⟩:=iP I.hok r2 ry;have l1:its.toArray.size=ds.length:=by rw[aG,<-rv.length,rl.len]
  have l2:jts.toArray.size=es.length:=by rw[aG,<-rv2.length,rl2.len]
  simp only[pl] at p1 p2;simp only[dep] at hu;simp only[deq] at q;rw[<-mS,<-l1,<-l2] at q;exact SeqAt.eq_tupleAt ht ht2 hu' (λj h1 h2=>lZ I.hok ds p1 p2 rl rl2 rv rv2 (A:=X.A.in1) (by show X.A.units+1+_<AX;omega) (by simp)<|by simp) q
 ·cases d1<;>first|(simp[isL] at t1;done)|(simp[pl] at p1;done)|skip
  cases d2<;>first|(simp[isL] at t2;done)|(simp[pl] at p2;done)|skip
  rename_i ds es;obtain⟨a,xs,its,rfl,rfl,rl,rv,ht⟩:=hW I.hok r1 rx;obtain⟨b,ys,jts,rfl,rfl,rl2,rv2,ht2⟩:=hW I.hok r2 ry;have l1:its.toArray.size=ds.length:=by rw[aG,<-rv.length,rl.len]
  have l2:jts.toArray.size=es.length:=by rw[aG,<-rv2.length,rl2.len]
  simp only[pl] at p1 p2;simp only[dep] at hu;simp only[deq] at q
  by_cases hl:ds.length=es.length
  ·rw[<-oE hl,<-l1] at q;exact SeqAt.eq_listAt ht ht2 (by rw[l1,l2,hl]) hu' (λj h1 h2=>lZ I.hok ds p1 p2 rl rl2 rv rv2 (A:=X.A.in1) (by show X.A.units+1+_<AX;omega) (by simp)<|by simp) q
  ·rw[qY hl] at q;exact SeqAt.eq_list_lengthsAt ht ht2 (by rw[l1,l2];simpa using hl) hu' q
theorem aIB{d1 d2:D}{u:V}{x y:BA}{Q:BA->AA->Prop}(I:Inv X pins σ H s)(hs:(isT d1=true/\isT d2=true)\/(isL d1=true/\isL d2=true))(p1:pl d1=true)(p2:pl d2=true)(r1:Rep K H d1 v)(r2:Rep K H d2 u)(rx:RelV v x)(ry:RelV u y)
  (hu:X.A.units+dep d1+1<AX) (q:Q (.bool<|!deq d1 d2) s):AE (AF X.prog X.w) X.A (AM .NotEq x y) Q X.xe s:=by
 have hu':X.A.units<AX:=by omega
 rcases hs with⟨t1,t2⟩|⟨t1,t2⟩
 ·cases d1<;>first|(simp[isT] at t1;done)|skip
  cases d2<;>first|(simp[isT] at t2;done)|skip
  rename_i ds es;obtain⟨a,xs,its,rfl,rfl,rl,rv,ht⟩:=iP I.hok r1 rx;obtain⟨b,ys,jts,rfl,rfl,rl2,rv2,ht2⟩:=iP I.hok r2 ry;have l1:its.toArray.size=ds.length:=by rw[aG,<-rv.length,rl.len]
  have l2:jts.toArray.size=es.length:=by rw[aG,<-rv2.length,rl2.len]
  simp only[pl] at p1 p2;simp only[dep] at hu;simp only[deq] at q;rw[<-mS,<-l1,<-l2] at q;exact SeqAt.RcNeAt.tuples ht ht2 hu' (λj h1 h2=>lZ I.hok ds p1 p2 rl rl2 rv rv2 (A:=X.A.in1) (by show X.A.units+1+_<AX;omega) (by simp)<|by simp) _ _ _ _ q
 ·cases d1<;>first|(simp[isL] at t1;done)|(simp[pl] at p1;done)|skip
  cases d2<;>first|(simp[isL] at t2;done)|(simp[pl] at p2;done)|skip
  rename_i ds es;obtain⟨a,xs,its,rfl,rfl,rl,rv,ht⟩:=hW I.hok r1 rx;obtain⟨b,ys,jts,rfl,rfl,rl2,rv2,ht2⟩:=hW I.hok r2 ry;have l1:its.toArray.size=ds.length:=by rw[aG,<-rv.length,rl.len]
  have l2:jts.toArray.size=es.length:=by rw[aG,<-rv2.length,rl2.len]
  simp only[pl] at p1 p2;simp only[dep] at hu;simp only[deq] at q
  by_cases hl:ds.length=es.length
  ·rw[<-oE hl,<-l1] at q;exact SeqAt.RcNeAt.lists ht ht2 (by rw[l1,l2,hl]) hu' (λj h1 h2=>lZ I.hok ds p1 p2 rl rl2 rv rv2 (A:=X.A.in1) (by show X.A.units+1+_<AX;omega) (by simp)<|by simp) _ _ _ _ q
  ·rw[qY hl] at q;exact SeqAt.RcNeAt.lists_lengths ht ht2 (by rw[l1,l2];simpa using hl) hu' _ _ _ _ q
theorem ResOk.rep(S:StF K H₀ F H σ sd)(hk:r.keeps)(q:ResOk K F H sd r v):Rep K H r.toD v:=by
 cases r with
 |val d=>exact Rep.mono S.sub q
 |own ds=>exact hk.elim
 |pr d ls=>exact hk.elim
 |ox G=>exact hk.elim
 |bor ds=>obtain⟨l,xs,e,hl,rl,_⟩:=q;simp only[R.toD,Rep];exact⟨l,xs,e,hl,rl.mono S.sub⟩
theorem aDP(K:aB)(d1 d2:D)(hs:(isT d1=true/\isT d2=true)\/(isL d1=true/\isL d2=true))(p1:pl d1=true)(p2:pl d2=true)(hu:X.A.units+dep d1+1<AX):OpR X (AM .Eq) (λx y H Q=>Rep K H d1 x/\Rep K H d2 y/\Q (.bl<|deq d1 d2) H):=by intro pins s σ H x y v u Q I rx ry h;obtain⟨h1,h2,q⟩:=h;exact rc_D I hs p1 p2 h1 h2 rx ry hu ⟨.bl<|deq d1 d2,H,I,rfl,q⟩
theorem aHA(K:aB)(d1 d2:D)(hs:(isT d1=true/\isT d2=true)\/(isL d1=true/\isL d2=true))(p1:pl d1=true)(p2:pl d2=true)(hu:X.A.units+dep d1+1<AX):OpR X (AM .NotEq) (λx y H Q=>Rep K H d1 x/\Rep K H d2 y/\Q (.bl<|!deq d1 d2) H):=by intro pins s σ H x y v u Q I rx ry h;obtain⟨h1,h2,q⟩:=h;exact aIB I hs p1 p2 h1 h2 rx ry hu ⟨.bl<|!deq d1 d2,H,I,rfl,q⟩
theorem aDE(ha:PEd X sd a ra)(hb:PEd X sd b rb)(ka:ra.keeps)(kb:rb.keeps)(hs:(isT ra.toD=true/\isT rb.toD=true)\/(isL ra.toD=true/\isL rb.toD=true))(p1:pl ra.toD=true)(p2:pl rb.toD=true)(hu:X.A.units+dep ra.toD+1<AX):PEd X sd (.Compare a [.Eq] [b] pos) (.val (.bl<|deq ra.toD rb.toD)):=
 vA (aDP X.K _ _ hs p1 p2 hu) ha hb ka (eD _) λσ F H v u Q S q1 q2 k=>⟨q1.rep S ka,q2.rep S kb,k F H S<|Same.refl _⟩
theorem tK(ha:PEd X sd a ra)(hb:PEd X sd b rb)(ka:ra.keeps)(kb:rb.keeps)(hs:(isT ra.toD=true/\isT rb.toD=true)\/(isL ra.toD=true/\isL rb.toD=true))(p1:pl ra.toD=true)(p2:pl rb.toD=true)(hu:X.A.units+dep ra.toD+1<AX):PTd X sd (.Compare a [.NotEq] [b] pos) (!deq ra.toD rb.toD):=
 gD (aHA X.K _ _ hs p1 p2 hu) ha hb ka (eD _) λσ F H v u Q S q1 q2 k=>⟨q1.rep S ka,q2.rep S kb,k F H S<|Same.refl _⟩
noncomputable def aHl(K:aB):R2:=λx y H Q=>∃a b ys,x=.ref a/\y=.ref b/\SqT K H a []/\SqT K H b ys/\Q (.ref b) H
theorem op_catT0:OpR X (AU .Add) (aHl X.K):=by
 intro pins s σ H x y v u Q I rx ry h;obtain⟨a,b,ys,rfl,rfl,ha,hb,q⟩:=h;cases rx;cases ry;obtain⟨its,r1,p1,_⟩:=I.tuple ha;obtain⟨its2,r2,p2,_⟩:=I.tuple hb;cases r1;obtain⟨⟨cls,dd,data,sl⟩,ho,hc,n,hd⟩:=id p1;obtain⟨⟨cls2,dd2,data2,sl2⟩,ho2,hc2,n2,hd2⟩:=id p2;simp only at hc hd hc2 hd2;subst hc hd hc2 hd2
 exact concat_meets ⟨_,ho,rfl⟩ ⟨_,ho2,rfl⟩ noFill_tuple_add seq_tuple_add kH jZ (jL _ _)
  (tuple_addW0 a b ([]:List BA).toArray its2.toArray n n2 dd dd2 sl sl2<|by simp) ⟨ho,ho2,⟨.ref b,H,I,rfl,q⟩⟩
theorem gG{d1 d2:List D}(ha:PEd X sd a (.val<|.tup d1))(hb:PEd X sd b (.val<|.tup d2))(hl:d1.length+d2.length<=10000):PEd X sd (.BinOp a .Add b pos) (.val (.tup<|d1++d2)):=
 nS (op_catT0.or aFy) ha hb trivial λσ F H v u Q S q1 q2 k=>by
  simp only[ResOk,Rep] at q1 q2;obtain⟨p,xs,e1,hp,rl⟩:=q1;obtain⟨q,ys,e2,hq,rl2⟩:=q2;cases d1 with
  |nil=>simp only[RepL] at rl;subst rl;refine .inl ⟨p,q,ys,e1,e2,.of<|S.sub _ _ hp,.of<|S.sub _ _ hq,k _ F H S (Same.refl _) ?_⟩;simp only[ResOk,Rep,kX];exact⟨q,ys,rfl,hq,rl2⟩
  |cons z zs=>
   refine .inr ⟨p,q,xs,ys,e1,e2,.of<|S.sub _ _ hp,.of<|S.sub _ _ hq, ?_,by rw[rl.len,rl2.len];exact eE<|fP hl,λhy=> ?_,λhy p2 hp2=> ?_⟩
   ·intro hx;subst hx;obtain⟨_,_,w,_⟩:=rl.uncons;cases w
   ·subst hy
    have:d2=[]:=by
     cases d2 with
     |nil=>rfl
     |cons w ws=>obtain⟨_,_,w,_⟩:=rl2.uncons;cases w
    subst this;refine k _ F H S (Same.refl _) ?_;simp only[ResOk,Rep,cS];exact⟨p,xs,rfl,hp,rl⟩
   ·obtain⟨S2,s2⟩:=S.lay (o:=.tup<|xs++ys) hp2 trivial;refine k _ _ _ S2 s2 ?_;simp only[ResOk,Rep];exact⟨p2,_,rfl,bA,(rl.app rl2).mono s2⟩
theorem aFJ(ha:PEd X sd a (.bor ds)):PEd X sd (.UnaryOp .Not a pos) (.val<|.bl ds.isEmpty):=.mk λσ F H S=>by
 intro pins s I;refine UnaryOp_<|thn (ha σ F H S pins s I) λv s1 ⟨x,H1,I1,r1,F1,S1,s1',q1⟩=> ?_;obtain⟨l,xs,rfl,hl,rl,_⟩:=q1;refine not_of<|thn (aHh pins s1 σ H1 (.ref l) v (λk H'=>k= !ds.isEmpty/\H'=H1) I1 r1 ⟨!ds.isEmpty,.inl ⟨xs,.of hl, ?_⟩,rfl,rfl⟩) λk s2 ⟨H2,I2,e1,e2⟩=> ?_
 ·have:=rl.len;cases xs<;>cases ds<;>simp_all
 ·subst e1 e2;exact⟨.bl<|!!ds.isEmpty,H2,I2,rfl,F1,S1,s1',by simp[ResOk,Rep]⟩
theorem lG{p:Pos}(hg:Gl X "tuple")(hm:X.mg "tuple"=none)(ha:PEd X sd e (.bor ds))(hst:AC [e] X.env=(false,eval e X.env)::AC [] X.env:=by rfl):PEd X sd (.Call (.Name "tuple" p) [e] [] pos) (.val<|.tup ds):=
 nV (he:=hst) rW hg hm PyProof.Rows.boot_tuple (aA ha aE trivial hst) λσ F H vs Q S q k=>by
  cases q with
  |cons q1 q2=>cases q2;obtain⟨p,xs,rfl,hp,rl,_⟩:=q1;refine⟨p,xs,rfl,.inl ⟨.of hp,λl hl=> ?_⟩⟩;obtain⟨S2,s2⟩:=S.lay (o:=.tup xs) hl trivial;refine k _ _ _ S2 s2 ?_;simp only[ResOk,Rep];exact⟨l,xs,rfl,bA,rl.mono s2⟩
noncomputable def Ite(K:aB)(a:BC):It:=
 ⟨λi H=>∃xs x,SqL K H a xs/\xs[i]? =some x,λi H x H'=>∃p v,x=.ref p/\H p=none/\H'=upd H p (.tup [.int i,v])/\∀xs,SqL K H a xs->xs[i]? =some v,λi H=>∃xs,SqL K H a xs/\xs.length<=i⟩
theorem aFK{h':BE}{t':Nat}{e it:BC}(I:Inv X pins σ H s)(k:∀b o,b≠e->b≠it->s.heap.get? b=some o->h'.get? b=some o)(f1:qR X pins H e)(f2:qR X pins H it):Inv X pins σ H {s with heap:=h',toks:=t'}:=by
 have nit:∀b u,H b=some u->b≠e/\b≠it:=λb u q=>⟨λz=>(by rw[z,f1.1] at q;cases q),λz=>(by rw[z,f2.1] at q;cases q)⟩
 have ne:∀b,b∉[e,it]->b≠e/\b≠it:=λb hc=>⟨λz=>hc (by simp[z]),λz=>hc<|by simp[z]⟩
 refine I.step (g':=s.gens) (d':=s.drawn) (ch:=[e,it]) (λb hb=> ?_) (λb o _ _ hc q _=>k b o (ne b hc).1 (ne b hc).2 q) (λb o _ _ hc q _=>⟨o.slots,k b o (ne b hc).1 (ne b hc).2 q⟩) (λ_ _ _ _ n=>n)
  (λb o hc q=>⟨o,k b o (ne b hc).1 (ne b hc).2 q⟩) (λ_ _ q=>q) (λ_ _ _ q=>q) (λb ps q=>⟨#[],by rw[q];simp⟩) (λm hm=> ?_) (λb u q=> ?_) I.bare
 ·rcases cD.mp hb with z|hb
  ·subst z;exact⟨f1.2.2.2.1,f1.2.1,f1.2.2.2.2.1,f1.2.2.2.2.2⟩
  ·have z:b=it:=by simpa using hb
   subst z;exact⟨f2.2.2.2.1,f2.2.1,f2.2.2.2.2.1,f2.2.2.2.2.2⟩
 ·obtain⟨o,es,ep,ho,r⟩:=hm;exact⟨o,es,ep,k _ o (Ne.symm f1.2.1) (Ne.symm f2.2.1) ho,r⟩
 ·refine(I.hok b u q).stay (λc v hc g=> ?_) (λ_ g=>g) λ_ _ g=>g
  rcases hc with z|z
  ·rw[z] at g ⊢;exact k b v (nit b u q).1 (nit b u q).2 g
  ·exact k c v (nit c _ z).1 (nit c _ z).2 g
theorem aBw{elts:List Expr}{kk:Nat}(a e it:BC)(hei:e≠it):zT P w K (.Tuple elts kk pos) (Ite K a) [e,it] e (λi h=>(∃old,IsEnum h e it i old)/\h.IsListIter it a i) where
 mem:=by simp
 obj:=λi h st b hb=>by
  obtain⟨⟨old,he⟩,hit⟩:=st
  rcases cD.mp hb with z|hb
  ·subst z;exact⟨_,he,λv z=>by cases z⟩
  ·have z:b=it:=by simpa using hb
   subst z;obtain⟨o,q,c,d⟩:=hit;exact⟨o,q,λv z=>by rw[d] at z;cases z⟩
 keep:=λi h h' st k=>by obtain⟨⟨old,he⟩,hit⟩:=st;exact⟨⟨old,k e (by simp) _ he⟩,hit.at λo q=>k it (by simp) o q⟩
 item:=by
  intro X hP hw hK hc i pins s σ H E I hf st hg;subst hP hw hK;obtain⟨⟨old,he⟩,hit⟩:=st;obtain⟨xs,x,hq,hx⟩:=hg;obtain⟨its,rv,p,hz⟩:=I.list hq;obtain⟨u,hu,ru⟩:=rv.get hx;have f1:=hf e (by simp);have f2:=hf it (by simp);refine wpAny_pyNext_enum_item he hit p.isList (x:=u) (by simpa using hu) hei λh1 heo hit1 ht1 hz1 hk1=> ?_
  refine⟨_,rfl,wpAny_letOwnedTupleGo_enum heo λh2 he2 hs2=> ?_⟩;have hs2:Heap.SameBut e h1 h2:=hs2;have esz:e<s.heap.objs.size:=aO he;have isz:it<s.heap.objs.size:=by obtain⟨_,q,_⟩:=hit;exact aO q
  have I1:Inv X pins σ H {s with heap:=h2,toks:=s.toks+1}:=aFK I (λb o h1' h2' q=>(hs2.2 b h1').trans<|hk1 b o h1' h2' q) f1 f2;have hn:H s.heap.objs.size=none:=I.hok.fresh<|aR _;have g2:h2.get? s.heap.objs.size=some {cls:=.type "tuple",data:=.seq #[.int i s.toks,u]}:=(hs2.2 _<|gE esz).trans ht1
  have I2:Inv X pins σ (upd H s.heap.objs.size<|.tup [.int i,x]) {s with heap:=h2,toks:=s.toks+1}:=by
   refine I1.track hn I.sz (gE I.lt) (λy c q=> ?_) (λy hy=> ?_) ⟨by show 2<=AH;decide,[.int i s.toks,u],.cons ⟨_,rfl⟩<|.cons ru .nil,⟨_,g2,rfl,⟨_,rfl⟩,rfl⟩⟩
   ·obtain⟨v,o,ho,_⟩:=I.cell y c q;exact bG<|aO ho
   ·exact bG<|aO (I.pin y hy).1
  refine⟨.ref s.heap.objs.size,_,I2,rfl,⟨_,x,rfl,hn,rfl,λys hy=>by rw[I.list_inj hy hq];exact hx⟩,⟨⟨u, ?_⟩, ?_⟩,λb hb=> ?_⟩
  ·have:((i+1:Nat):Int)=(i:Int)+1:=by push_cast;rfl
   rw[this];exact he2
  ·exact hit1.at λo q=>(hs2.2 it<|Ne.symm hei).trans q
  ·rcases cD.mp hb with z|hb
   ·subst z;rw[aX<|bG esz];exact f1.1
   ·have z:b=it:=by simpa using hb
    subst z;rw[aX<|bG isz];exact f2.1
 done:=by intro X hP hw hK hc i pins s σ H E I hf st hg;subst hP hw hK;obtain⟨⟨old,he⟩,hit⟩:=st;obtain⟨xs,hq,hx⟩:=hg;obtain⟨its,rv,p,hz⟩:=I.list hq;obtain⟨f0,f1,f2,f3,f4,f5⟩:=hf it (by simp);have hl:=rv.length;exact wpAny_pyNext_enum_end (I.ok.hd hc) he hit p.isList (by simp;omega) λh' eb=>⟨rfl,I.turned (t':=s.toks) (λb o hb q=>eb b o hb q) f0 f1 f3 f4 f5⟩
 self:=λ_ _ _ _ _ st h=>by obtain⟨⟨old,he⟩,_⟩:=st;exact wpAny_pyIter_enum he h
noncomputable def aIZ(K:aB)(ta:TA):TI:=λσ H R=>ta σ H λvs H1=>∃l,vs=[.ref l]/\(∃xs,SqL K H1 l xs)/\R (Ite K l) H1
theorem aEw{elts:List Expr}{kk:Nat}{tp:Pos}{ta:TA}{p:Pos}(hg:Gl X "enumerate")(hm:X.mg "enumerate"=none)(ha:PA X [a] ta)(hs:AC [a] X.env=[(false,eval a X.env)]:=by rfl):PI X (.Tuple elts kk tp) (.Call (.Name "enumerate" p) [a] [] pos) (aIZ X.K ta):=by
 intro pins s σ H R I h;refine Call_ (kP I hg hm boot_enumerate<|PyProof.Rows.callWith_type1 (thn (ha pos pins s σ H _ I h) λus s1 ⟨vs,H1,I1,r1,q1⟩=> ?_) hs rfl);obtain⟨l,rfl,⟨xs,hq⟩,q⟩:=q1;cases r1 with
 |cons r rr=>
  cases rr;cases r;obtain⟨its,rv,p,hz⟩:=I1.list hq;refine call_enumerate_list p.isList λh' he hit hsz hk=> ?_
  refine wpAny_pyIter_enum he ?_;have I2:Inv X pins σ H1 {s1 with heap:=h'}:=I1.kept (t':=s1.toks) hk;refine⟨s1.heap.objs.size+1,[s1.heap.objs.size+1,s1.heap.objs.size],_,Ite X.K l,H1,rfl,I2,aBw l _ _<|Nat.succ_ne_self _,⟨⟨_,he⟩,hit⟩,λb hb=> ?_,q⟩
  rcases cD.mp hb with z|hb
  ·subst z;exact I1.fpOk (gA _) (I1.hok.fresh<|gA _)
  ·have z:b=s1.heap.objs.size:=by simpa using hb
   subst z;exact I1.fpOk (aR _) (I1.hok.fresh<|aR _)
noncomputable def lP(ds:List D):List D:=(bC ds.length).map λ(i:Nat)=>D.tup [.int (i:Int),ds.getD i .non]
theorem jX(ds:List D):(lP ds).length=ds.length:=by simp[lP]
theorem jQ{i:Nat}(h:(lP ds)[i]? =some d):∃x,ds[i]? =some x/\d=.tup [.int (i:Int),x]:=by
 unfold lP at h;rw[bK] at h
 by_cases hi:i<ds.length
 ·rw[mE hi] at h;refine⟨ds[i],by simp[hi], ?_⟩;rw[<-bN.inj h];simp[bQ,hi]
 ·rw[fK<|by simpa using hi] at h;cases h
def LP(K:aB)(l:BC)(ds:List D):Hp->Hp->Prop:=λF H=>∃xs,H l=some (.lst xs)/\RepL K F ds xs
theorem aCJ{F₁:Hp}{l:BC}:ItD X.K F₁ (LP X.K l ds) (Ite X.K l) (lP ds):=λF H _ sH sm hP i=>by
 obtain⟨xs,hl,rl⟩:=hP;refine⟨λhi=> ?_,λhi=> ?_,λx H' d hd y=> ?_⟩
 ·rw[jX] at hi;exact⟨xs,xs[i]'(by rw[rl.len];exact hi),.of hl,by simp[rl.len,hi]⟩
 ·rw[jX] at hi;exact⟨xs,.of hl,by rw[rl.len];exact hi⟩
 ·obtain⟨p,v,rfl,hp,rfl,hv⟩:=y;obtain⟨z,hz,rfl⟩:=jQ hd;have hv:=hv xs<|.of hl;obtain⟨v',h1,rz⟩:=rl.get hz;rw[hv] at h1;cases h1;have fp:F p=none:=sH.free hp;have s1:Same F (upd F p<|.tup [.int i,v]):=λb u q=>by rw[aX<|bS q fp];exact q
  refine⟨upd F p<|.tup [.int i,v],s1, ?_,λH₀ σ sd S=>(S.lay (o:=.tup [.int i,v]) hp trivial).1⟩;simp only[Rep];exact⟨p,_,rfl,bA,.cons (by simp only[Rep]) (.one<|rz.mono s1)⟩
theorem qU{elts:List Expr}{kk:Nat}{tp p:Pos}(hg:Gl X "enumerate")(hm:X.mg "enumerate"=none)(ha:PEd X sd a (.val<|.lst ds))(hst:AC [a] X.env=[(false,eval a X.env)]:=by rfl):
  PId X sd PT0 (.Tuple elts kk tp) (.Call (.Name "enumerate" p) [a] [] pos) (lP ds):=.mk λσ F H S=>
 (aEw hg hm uU hst).to ((aA ha aE trivial (by rw [hst]; rfl) σ F H S).imp fun vs H1 ⟨F1,S1,s1,q1⟩=>by
  cases q1 with
  |cons q1 q2=>
   cases q2;simp only[ResOk,Rep] at q1;obtain⟨l,xs,rfl,hl,rl⟩:=q1;refine⟨l,rfl,⟨xs,.of<|S1.sub _ _ hl⟩,F1,S1,s1,λF' H' sF sH sm _ i=> ?_⟩
   exact aCJ (X:=X) (F₁:=F1) F' H' sF sH sm ⟨xs,sH _ _ (sF _ _ hl),rl.mono sF⟩ i)
theorem aFD{ns:List Int}{us:List BA}(r:Vals (ns.map V.int) us){i:Nat}{u:BA}(h:us[i]? =some u):i<ns.length/\∃t,u=.int (ns.getD i 0) t:=by
 have hl:=r.length;rw[aC] at hl;have hi:i<us.length:=(bE.mp h).1
 have e:(ns.map V.int)[i]? =some (.int<|ns.getD i 0):=by
  rw[bK];have:i<ns.length:=by omega
  simp[bQ,this]
 obtain⟨u',h1,t,h2⟩:=r.get e;rw[h] at h1;cases h1;exact⟨by omega,t,h2⟩
noncomputable def cutD(ds:List D)(lo hi:Option Int):List D:=(ds.drop<|HT.sIx ds.length 0 lo).take<|HT.sIx ds.length ds.length hi-HT.sIx ds.length 0 lo
theorem RepL.cut{xs:List V}(r:RepL K H ds xs)(lo hi:Option Int):RepL K H (cutD ds lo hi) (rT xs lo hi):=by unfold cutD rT;rw[r.len];exact(r.drop _).take _
def POd(X:Cx)(sd:List Slot)(e:Option Expr)(o:Option Int):Prop:=match e,o with
 |none,none=>True
 |some e,some i=>PEd X sd e (.val<|.int i)
 |_,_=>False
theorem jH{eo:Option Expr}{o:Option Int}(h:POd X sd eo o):∃t:TO,PO X eo t/\∀ (σ:St) (F H:Hp),StF X.K X.B₀ F H σ sd->∀Q:Option Int->Hp->Prop,(∀F' H',StF X.K X.B₀ F' H' σ sd->Same F F'->Q o H')->t σ H Q:=by
 cases eo with
 |none=>
  cases o with
  |none=>exact⟨_,aFb,λσ F H S Q k=>k F H S<|Same.refl _⟩
  |some i=>exact h.elim
 |some e=>
  cases o with
  |none=>exact h.elim
  |some i=>have h:PEd X sd e (.val<|.int i):=h;refine⟨_,aFs dX,λσ F H S Q k=>(h σ F H S).imp λv H1 ⟨F1,S1,s1,q1⟩=> ?_⟩;simp only[ResOk,Rep] at q1;exact⟨i,q1,k F1 H1 S1 s1⟩
theorem uE{lo hi:Option Expr}{ol oh:Option Int}{p2:Pos}(ha:PEd X sd a (.bor ds))(hl:POd X sd lo ol)(hh:POd X sd hi oh):PEd X sd (.Subscript a (.Slice lo hi none p2) pos) (.own<|cutD ds ol oh):=.mk λσ F H S=>by obtain⟨tl,pl,kl⟩:=jH hl;obtain⟨th,ph,kh⟩:=jH hh;refine(qS aFF dX pl ph).to<|(ha σ F H S).imp λv H1 ⟨F1,S1,s1,q1⟩=>kl σ F1 H1 S1 _ λF2 H2 S2 s2=>kh σ F2 H2 S2 _ λF3 H3 S3 s3=> ?_;obtain⟨l,xs,rfl,hl',rl,_⟩:=ResOk.keep (r:=.bor ds) trivial q1 S3<|s2.trans s3;refine⟨l,xs,rfl,.of hl',λp hp=> ?_⟩;obtain⟨S4,fp,no⟩:=S3.layO (xs:=rT xs ol oh) hp;exact⟨F3,S4,(s1.trans s2).trans s3,p,_,rfl,fp,bA,rl.cut ol oh,no⟩
theorem pK{lo hi:Option Expr}{ol oh:Option Int}{p2:Pos}(ha:PEd X sd a (.val<|.tup ds))(hl:POd X sd lo ol)(hh:POd X sd hi oh)(hn:¬ (HT.sIx ds.length 0 ol=0/\HT.sIx ds.length ds.length oh=ds.length)):PEd X sd (.Subscript a (.Slice lo hi none p2) pos) (.val (.tup<|cutD ds ol oh)):=.mk λσ F H S=>by obtain⟨tl,pl,kl⟩:=jH hl;obtain⟨th,ph,kh⟩:=jH hh;refine(qS aHn dX pl ph).to<|(ha σ F H S).imp λv H1 ⟨F1,S1,s1,q1⟩=>kl σ F1 H1 S1 _ λF2 H2 S2 s2=>kh σ F2 H2 S2 _ λF3 H3 S3 s3=> ?_;have q1:=Rep.mono (s2.trans s3) q1;simp only[Rep] at q1;obtain⟨l,xs,rfl,hl',rl⟩:=q1;refine⟨l,xs,rfl,.of<|S3.sub _ _ hl',by rw[rl.len];exact hn,λp hp=> ?_⟩;obtain⟨S4,s4⟩:=S3.lay (o:=.tup<|rT xs ol oh) hp trivial;refine⟨_,S4,((s1.trans s2).trans s3).trans s4, ?_⟩;simp only[ResOk,Rep];exact⟨p,_,rfl,bA,(rl.cut ol oh).mono s4⟩
theorem jJ{i:Int}(ha:PEd X sd a (.val<|.int i)):PEd X sd (.UnaryOp .USub a pos) (.val<|.int (-i)):=.mk λσ F H S=>
 (aIW aGU dX).to ((ha σ F H S).imp fun v H1 ⟨F1,S1,s1,q1⟩=>by
  simp only[ResOk,Rep] at q1
  exact⟨i,q1,F1,S1,s1,by simp only[ResOk,Rep]⟩)
theorem kR{body:List BG}{P:Hp->Hp->Prop}(Sd:Nat->List Slot->Prop)(hi:PId X sd P tg iter ds)(h0:∃sd0,Le sd sd0/\Sd 0 sd0)
  (hb:∀k d sdk,ds[k]? =some d->Sd k sdk->∃sdt,PGd X sdk tg d sdt/\PSd X sdt body {E with nx:=λsd'=>∃sd2,Le sd' sd2/\Sd (k+1) sd2,ct:=λsd'=>∃sd2,Le sd' sd2/\Sd (k+1) sd2,bk:=E.nx}) (hE:∀sdn,Sd ds.length sdn->E.nx sdn) (hP:∀k sdk σ F H,Sd k sdk->StF X.K X.B₀ F H σ sdk->P F H:=by intros;trivial)
  (hc:X.calm=true:=by rfl) (hp:PassesOwn (AF X.prog X.w) X.A X.env X.xe:=by exact PassesOwn.never) (hs:∀x,Aa iter X.env x=pure x:=by intro _;rfl):PSd1 X sd (.For tg iter body [] pos) E:=.mk λσ F H S=>
 (aDp hp hc aJf aIc pss_w hs).to (by
  intro pins s I;refine thn (hi σ F H S pins s I) λv s1 h1=>thn h1 λitv s2 h2=> ?_
  obtain⟨it,fp,tn,J,H2,e,I2,T,st2,f2,F1,S1,s1',itd⟩:=h2;refine⟨it,fp,tn,J,H2,e,I2,T,st2,f2, ?_⟩;obtain⟨sd0,le0,q0⟩:=h0;refine⟨λi m σ' H'=>m=ds.length-i/\i<=ds.length/\∃sdi F',StF X.K X.B₀ F' H' σ' sdi/\Same F1 F'/\Sd i sdi,⟨ds.length,by simp,bL _,sd0,F1,S1.le le0,Same.refl _,q0⟩, ?_⟩;rintro i m σ' H' ⟨rfl,hil,sdi,F',S',s',qi⟩;obtain⟨g1,g2,g3⟩:=itd F' H' s' S'.sub S'.smp (hP _ _ _ _ _ qi S') i
  by_cases hlt:i<ds.length
  ·refine .inr ⟨g1 hlt,λσ2 H2=>∃sd2 F2,StF X.K X.B₀ F2 H2 σ2 sd2/\Same F1 F2/\Sd (i+1) sd2,λσ2 H2 ⟨sd2,F2,S2,s2,q2⟩=>⟨ds.length-(i+1),by omega,rfl,hlt,sd2,F2,S2,s2,q2⟩,λx H2 y=> ?_⟩;have hd:ds[i]? =some ds[i]:=by simp[hlt]
   obtain⟨F2,s2,rp,up⟩:=g3 x H2 ds[i] hd y;obtain⟨sdt,hg,hbb⟩:=hb i _ sdi hd qi;refine(hg σ' F2 H2 x (up _ _ _ S') rp).imp λσ3 H3 ⟨F3,S3,s3⟩=> ?_
   have base:Same F1 F3:=(s'.trans s2).trans s3;refine(hbb σ3 F3 H3 S3).imp ?_ ?_ ?_ ?_
   ·rintro σ4 H4 ⟨sd4,F4,S4,s4,sd5,le,q5⟩;exact⟨sd5,F4,S4.le le,base.trans s4,q5⟩
   ·exact λv H4 q=>q
   ·rintro σ4 H4 ⟨sd4,F4,S4,s4,q⟩;exact⟨sd4,F4,S4,(s1'.trans base).trans s4,q⟩
   ·rintro σ4 H4 ⟨sd4,F4,S4,s4,sd5,le,q5⟩;exact⟨sd5,F4,S4.le le,base.trans s4,q5⟩
  ·have e:i=ds.length:=by omega
   subst e
   exact .inl ⟨g2 (aR _),sdi,F',S',s1'.trans s',hE sdi qi⟩)
noncomputable def fX(m:Nat):Nat->List (List Int)
 |0=>[[]]
 |k+1=>(fX m k).flatMap λs=>(bC m).map λ(w:Nat)=>s++[(w:Int)]
noncomputable def bH(s:List Int):D:=.tup<|s.map D.int
theorem nH:∀p∈cI,1<=p.1/\p.1<=6/\1<=p.2/\p.2<=6/\p.1*p.2<=6:=by decide+kernel
theorem qL:∀ (ws vs:List Int),gR (ws.map D.int) (vs.map D.int)=decide (ws=vs)
 |[],[]=>by simp[gR]
 |[],_::_=>by simp[gR]
 |_::_,[]=>by simp[gR]
 |w::ws,v::vs=>by
  simp only[bY,gR,deq,qL ws vs]
  by_cases h1:w=v<;>by_cases h2:ws=vs<;>simp[h1,h2]
theorem aCe(ws vs:List Int):deq (bH ws) (bH vs)=decide (ws=vs):=by unfold bH;simp only[deq,qL]
theorem mT:∀ws:List Int,plL (ws.map D.int)=true
 |[]=>rfl
 |w::ws=>by simp[plL,pl,mT ws]
theorem nX:∀ws:List Int,jS (ws.map D.int)=0
 |[]=>rfl
 |w::ws=>by simp[jS,dep,nX ws]
theorem aFp(ws:List Int):pl (bH ws)=true:=by simp[bH,pl,mT]
theorem aCM(ws:List Int):dep (bH ws)=1:=by simp[bH,dep,nX]
theorem xT:∀L:List (List Int),plL (L.map bH)=true
 |[]=>rfl
 |w::ws=>by simp[plL,aFp,xT ws]
theorem sK:∀L:List (List Int),jS (L.map bH)<=1
 |[]=>by simp[jS]
 |w::ws=>by have:=sK ws;simp only[bY,jS,aCM];omega
theorem vV:∀ (L M:List (List Int)),gR (L.map bH) (M.map bH)=decide (L=M)
 |[],[]=>by simp[gR]
 |[],_::_=>by simp[gR]
 |_::_,[]=>by simp[gR]
 |w::ws,v::vs=>by
  simp only[bY,gR,aCe,vV ws vs]
  by_cases h1:w=v<;>by_cases h2:ws=vs<;>simp[h1,h2]
theorem kI{i j:Int}(h1: -(2^64)<j)(h2:j<2^64):IntMulOk i j:=.of_right<|intBits_le_64 h1 h2
theorem uY:∀n:Nat,n<=6->([.int 1,.int 2,.int 4,.int 8,.int 16,.int 32,.int 64]:List D)[n]? =some (.int<|((2^n:Nat):Int)):=by
 intro n hn
 match n,hn with
 |0,_=>rfl
 |1,_=>rfl
 |2,_=>rfl
 |3,_=>rfl
 |4,_=>rfl
 |5,_=>rfl
 |6,_=>rfl
theorem iV{L:List (List Int)}{k:Nat}(h:(L.map bH)[k]? =some d):k<L.length/\d=bH (L.getD k []):=by
 rw[bK] at h;cases e:L[k]? with
 |none=>rw[e] at h;cases h
 |some z=>rw[e] at h;refine⟨(bE.mp e).1, ?_⟩;rw[<-bN.inj h,bQ,e];rfl
theorem qO{k1 k2 k3 kx:Str}{v1 v2 v3 vx:Int}{e1 e2 e3 ix:Expr}{j1 j2 j3:Nat}{p1 p2 p3 pd:Pos}(ho:cA sd=[])(h1:PEd X sd e1 (.val<|.int v1))(h2:PEd X sd e2 (.val<|.int v2))(h3:PEd X sd e3 (.val<|.int v3))(hi:PEd X sd ix (.val<|.str kx))
  (hv:lN (gU [] [((.inr k1:Key),V.int v1),(.inr k2,.int v2),(.inr k3,.int v3)]) (.inr kx)=some (.int vx)) (hu:X.A.units+1<AX) (hs:aIk ix):
  PEd X sd (.Subscript (.Dict [some<|.Constant (.str k1) j1 p1,some<|.Constant (.str k2) j2 p2,some<|.Constant (.str k3) j3 p3] [e1,e2,e3] pd) ix pos) (.val<|.int vx):=.mk λσ F H S=>
 (aFv hu (aFa (pV pe_str dX (pV pe_str dX (pV pe_str dX aFE))) rfl rfl (by simp) (by simp)) dX hs).to (by
  intro p hp;have fp:F p=none:=S.sub.free hp;obtain⟨S1,s1⟩:=S.lay (o:=.dK []) hp trivial;refine(h1 σ _ _ S1).imp λx1 H1 ⟨F1,T1,t1,q1⟩=>(h2 σ F1 H1 T1).imp λx2 H2 ⟨F2,T2,t2,q2⟩=>(h3 σ F2 H2 T2).imp λx3 H3 ⟨F3,T3,t3,q3⟩=> ?_
  simp only[ResOk,Rep] at q1 q2 q3;subst q1 q2 q3;have sF:Same (upd F p<|.dK []) F3:=(t1.trans t2).trans t3;have hp3:H3 p=some (.dK []):=T3.sub _ _<|sF _ _ bA;refine⟨hp3,[((.inr k1:Key),V.int v1),(.inr k2,.int v2),(.inr k3,.int v3)],rfl,by simp, ?_⟩;generalize gU [] [((.inr k1:Key),V.int v1),(.inr k2,.int v2),(.inr k3,.int v3)]=kvs at hv ⊢;have s5:Same F (upd F p<|.dK kvs):=λb u g=>by rw[aX<|bS g fp];exact g
  have T4:StF X.K X.B₀ (upd F p<|.dK kvs) (upd H3 p<|.dK kvs) σ sd:=by
   refine⟨λb u g=>s5 _ _<|S.base _ _ g,λb u g=> ?_,λb u g=> ?_,S.slots.mono s5 λl hl=> ?_,S.nd⟩
   ·by_cases hb:b=p
    ·subst hb;rw[bA] at g ⊢;exact g
    ·rw[aX hb] at g ⊢;exact T3.sub _ _ (sF _ _<|s1 _ _ g)
   ·by_cases hb:b=p
    ·subst hb;rw[bA] at g;cases g;trivial
    ·rw[aX hb] at g;exact T3.smp _ _ g
   ·rw[ho] at hl;cases hl
  refine(hi σ _ _ T4).imp λy H4 ⟨F4,T5,t5,q5⟩=> ?_
  simp only[ResOk,Rep] at q5;subst q5;have hp4:H4 p=some (.dK kvs):=T5.sub _ _<|t5 _ _ bA;refine⟨p,.int vx,rfl, ?_,F4,T5,s5.trans t5,by simp only[ResOk,Rep]⟩;have:=DGet.k (k:=(.inr kx:Key)) hp4;rw[hv] at this
  exact this)
theorem aAn{g:Str}{ad:BC}{xs:List V}{p:Pos}(hg:Gl X g)(hm:X.mg g=some (.ref ad))(hq:∀H,SqT X.K H ad xs)(ha:PEd X sd a (.val d))(hd:flt d=some v)(fv:jT v=true)(fx:xs.all jT=true)
  (hk:AR .In (.Name g p)=false:=by with_unfolding_all rfl) (hdb:(g==("__debug__":Str))=false:=by decide):PTd X sd (.Compare a [.In] [.Name g p] pos) (inV v xs):=.mk λσ F H S=>
 (aAH sN dX (aAL (v:= .ref ad) hg hm rfl hdb) hk).to ((ha σ F H S).imp fun x H1 ⟨F1,S1,s1,q1⟩=>by
  have e:=lD hd q1;subst e
  exact⟨ad,xs,rfl,.inr (hq H1),fv,fx,_,rfl,rfl,F1,S1,s1⟩)
theorem aCX{p:Pos}(hg:Gl X "list")(hm:X.mg "list"=none)(ha:PEd X sd e (.val<|.tup ds))(hst:AC [e] X.env=(false,eval e X.env)::AC [] X.env:=by rfl):PEd X sd (.Call (.Name "list" p) [e] [] pos) (.own ds):=
 nV (he:=hst) mI hg hm PyProof.Rows.boot_list (aA ha aE trivial hst) λσ F H vs Q S q k=>by
  cases q with
  |cons q1 q2=>cases q2;simp only[ResOk,Rep] at q1;obtain⟨p,xs,rfl,hp,rl⟩:=q1;refine⟨p,xs,rfl,.inr (.of<|S.sub _ _ hp),λl hl=> ?_⟩;obtain⟨S2,fp,no⟩:=S.layO (xs:=xs) hl;exact k _ F _ S2 (Same.refl _) ⟨l,xs,rfl,fp,bA,rl,no⟩
theorem pH{p:Pos}{i j:Int}(hg:Gl X "max")(hm:X.mg "max"=none)(ha:PEd X sd a (.val<|.int i))(hb:PEd X sd b (.val<|.int j))(hc:X.calm=true:=by rfl)(hst:AC [a,b] X.env=(false,eval a X.env)::AC [b] X.env:=by rfl)(hst2:AC [b] X.env=(false,eval b X.env)::AC [] X.env:=by rfl)(hpl:(AZ pos<|AC [b] X.env).any (·.1)=false:=by rfl):PEd X sd (.Call (.Name "max" p) [a,b] [] pos) (.val<|.int (if j>i then j else i)):=
 iW (he:=hst) (hpl:=hpl) (aBn hc) hg hm boot_max (aA ha (aA hb aE trivial hst2) trivial hst) λσ F H vs Q S q k=>by
  cases q with
  |cons q1 q2=>
   cases q2 with
   |cons q2 q3=>cases q3;simp only[ResOk,Rep] at q1 q2;subst q1 q2;exact⟨i,j,rfl,k _ F H S (Same.refl _)<|by simp only[ResOk,Rep]⟩
theorem aAp{p:Pos}{i j:Int}(hg:Gl X "min")(hm:X.mg "min"=none)(ha:PEd X sd a (.val<|.int i))(hb:PEd X sd b (.val<|.int j))(hc:X.calm=true:=by rfl)(hst:AC [a,b] X.env=(false,eval a X.env)::AC [b] X.env:=by rfl)(hst2:AC [b] X.env=(false,eval b X.env)::AC [] X.env:=by rfl)(hpl:(AZ pos<|AC [b] X.env).any (·.1)=false:=by rfl):PEd X sd (.Call (.Name "min" p) [a,b] [] pos) (.val<|.int (if j<i then j else i)):=
 iW (he:=hst) (hpl:=hpl) (aBB hc) hg hm boot_min (aA ha (aA hb aE trivial hst2) trivial hst) λσ F H vs Q S q k=>by
  cases q with
  |cons q1 q2=>
   cases q2 with
   |cons q2 q3=>cases q3;simp only[ResOk,Rep] at q1 q2;subst q1 q2;exact⟨i,j,rfl,k _ F H S (Same.refl _)<|by simp only[ResOk,Rep]⟩
theorem aBs(i:Nat){x:Str}{p tp:Pos}{ix:Expr}{l:BC}{n:Nat}(hs:sd[i]? =some (.own l ds))(hx:PE X (.Name x p) (lM i))(h:PEd X sd e (.val d))(hi:PEd X sd ix (.val<|.int (n:Int)))(hn:n<ds.length)(hE:E.nx (sd.set i (.own l<|ds.set n d)))
  (ha:∀v,assign (.Subscript (.Name x p) ix tp) X.env v=(do
   let ov <-holding [v] (eval (.Name x p) X.env)
   let iv <-holding [v,ov] (eval ix X.env)
   standAt tp
   holding [v,ov,iv] (setItem ov iv v)
   release [v,ov,iv] []):=by intro _;rfl)
  (hs1:swapsWithSole [.Subscript (.Name x p) ix tp] e pos.line X.env=pure false:=by rfl) (hw:swappedStores [.Subscript (.Name x p) ix tp] e X.env=pure none:=by rfl)
  (h1:(AT [.Subscript (.Name x p) ix tp] X.env).map (·.2)=[assign (.Subscript (.Name x p) ix tp) X.env]:=by rfl):PSd1 X sd (.Assign [.Subscript (.Name x p) ix tp] e pos) E:=.mk λσ F H S=>
 (aDq dX (aHg hx dX aCP ha) hs1 hw h1).to ((h σ F H S).imp fun v H1 ⟨F1,S1,s1,q1⟩=>by
  obtain⟨o,g1,g2,n1,xs,q,rl⟩:=S1.slots.get hs;refine⟨.ref l,by rw[g1,g2],(hi σ F1 H1 S1).imp λy H2 ⟨F2,S2,s2,q2⟩=> ?_⟩;simp only[ResOk,Rep] at q2;subst q2;obtain⟨o',g1',g2',n',xs',q',rl'⟩:=S2.slots.get hs;have lx:n<xs'.length:=by rw[rl'.len];exact hn
  refine⟨l,xs',(n:Int),n,rfl,rfl,q', ?_,_,F2,S2.wr hs<|rl'.set (Rep.mono s2 q1) n,s1.trans s2,hE⟩;unfold ixN
  rw[if_pos (by omega),if_pos (by omega),cK])
theorem aCD(i:Nat){elt:Expr}{ifs:List Expr}{scope:Scope}{N M:List Str}{cap:List (Option Nat)}{sc:Scope}{Tb:D->List Slot}{y:Str}{py spos:Pos}(p:D->Bool)(f:D->D)(ho:cA sd=[])
  (hN:X.N.Nodup) (hi:X.N[i]? =some y) (hy:X.env.scope.names.lookup y=some .local)
  (hsw:Ae (.ListComp elt [⟨tg,iter,ifs,0⟩] scope pos) (some<|.Name y py) spos.line X.env=pure true)
  (hit:PId X sd PT0 tg iter ds) (hl:ds.length<=10000)
  (hsc:X.env.scope=sc) (hcn:jR scope sc=true) (hM:X.N=M) (hcap:iZ N M scope sc cap=true) (hk:scope.kind=.function)
  (hg:∀cl C fp s H d,d∈ds->PGd (cxB X N scope cl C fp s H) (jC cap sd) tg d (Tb d))
  (hle:∀d,d∈ds->Le (Tb d) (jC cap sd))
  (ht:∀cl C fp s H d,d∈ds->(ifs=[]/\p d=true)\/∃c,ifs=[c]/\PTd (cxB X N scope cl C fp s H) (Tb d) c (p d))
  (he:∀cl C fp s H d,d∈ds->p d=true->PEd (cxB X N scope cl C fp s H) (Tb d) elt (.val<|f d))
  (hE:∀l,E.nx<|sd.set i (.own l<|(ds.filter p).map f))
  (hc:X.calm=true:=by rfl) (hs:∀x,Aa iter X.env x=pure x:=by intro _;rfl):
  PSd1 X sd (.Assign [.Name y py] (.ListComp elt [⟨tg,iter,ifs,0⟩] scope pos) spos) E:=.mk λσ F H S=>by
 intro pins s I
 have nm:∀y∈scope.names,(y.2=NameKind.free->sc.names.lookup y.1=some NameKind.cell)/\(y.2=NameKind.local->scope.names.lookup y.1=some NameKind.local):=λy hy=>by have q:=dI.mp hcn y hy;simp only[aW,rP,jY,beq_eq_false_iff_ne,ne_eq,beq_iff_eq] at q;exact⟨λe=>q.1.1.resolve_left λz=>z e,λe=>q.2.resolve_left λz=>z e⟩
 have fre:∀y∈scope.names,y.2=.free->∃c,X.env.cells.lookup y.1=some c:=λy hy e=>I.ok.has y.1 (.inl<|by show X.env.scope.names.lookup y.1=_;rw[hsc];exact(nm y hy).1 e)
 rw[exec_Assign_Name_used _ _ _ _ hsw];refine AB (Ah<|AB ?_);show AE _ X.A (do let _ <-comprehension (.ListComp elt [⟨tg,iter,ifs,0⟩] scope pos) scope X.env _ (newList []) false (eval iter X.env) (some<|assign (.Name y py) X.env)) _ _ s;refine AB<|AN (wpAny_comprehension_free (use:=some<|assign (.Name y py) X.env) (Q:=λ_ s'=>SP X pins (lft X F E) .next s') rfl hs (pS fre) hk (λy hy=>(nm y hy).2) ?_) (λ_ s' hq=>AD<|AD hq) λ_ _ e=>e;refine thn (hit σ F H S pins s I) λv s1 h1=>thn h1 λitv s2 h2=> ?_
 obtain⟨it,fp,tn,J,H2,e,I2,T,st2,f2,F1,S1,s1',itd⟩:=h2;subst e;have S1b:StF X.K H2 H2 H2 (pM cap σ) (jC cap sd):=⟨Same.refl _,Same.refl _,S1.smp,uI (H':=H2) S1.slots S1.sub cap,by rw[lX];exact fS⟩
 refine xM (N:=N) (cap:=cap) (g:=λv σ2 H3 Q=>∀cl C,wG (cxB X N scope cl C fp s2 H2) tg v σ2 H3 Q) (tt:=λσ2 H3 Q=>∀cl C,aHH (cxB X N scope cl C fp s2 H2) ifs σ2 H3 Q) (te:=λσ2 H3 Q=>∀cl C,wE (cxB X N scope cl C fp s2 H2) elt σ2 H3 Q)
  hc hsc hcn (by rw[hM];exact hcap) hk I2 T st2 f2 (λcl C pi s3 σ3 H3 v u Q I3 ru q=>q cl C pi s3 u I3 ru) (λcl C pi s3 σ3 H3 Q I3 q=>q cl C pi s3 I3) (λcl C pi s3 σ3 H3 Q I3 q=>q cl C pi s3 I3)
  (λi m ys σb H3=>m=ds.length-i/\i<=ds.length/\∃Fb,StF X.K H2 Fb H3 σb (jC cap sd)/\RepL X.K Fb (((ds.take i).filter p).map f) ys) ds.length
  ⟨by simp,bL _,H2,S1b,by simpa using RepL.nil⟩ _ ?_
 rintro i' m ys σb H3 ⟨rfl,hil,Fb,Sb,rl⟩;have sF1:Same F1 Fb:=λb o g=>Sb.base _ _<|S1.sub _ _ g
 obtain⟨g1,g2,g3⟩:=itd Fb H3 sF1 Sb.sub Sb.smp trivial i'
 by_cases hlt:i'<ds.length
 ·have hd:ds[i']? =some ds[i']:=by simp[hlt]
  have hm:ds[i']∈ds:=gC hlt
  have ylen:ys.length<=i':=by rw[rl.len,aC];exact bM (lH _ _) (by simp;omega)
  refine .inr ⟨g1 hlt,fP<|by omega,λys' σ' H'=>∃Fb',StF X.K H2 Fb' H' σ' (jC cap sd)/\RepL X.K Fb' (((ds.take<|i'+1).filter p).map f) ys',λys' σ' H' ⟨Fb',Sb',rl'⟩=>⟨ds.length-(i'+1),by omega,rfl,hlt,Fb',Sb',rl'⟩,λx H4 y cl C=> ?_⟩;obtain⟨F4,s4,rp,up⟩:=g3 x H4 ds[i'] hd y;refine(hg cl C fp s2 H2 _ hm σb F4 H4 x (up _ _ _ Sb) rp).imp λσ5 H5 ⟨F5,S5,s5⟩ cl2 C2=> ?_
  have rl5:=rl.mono<|s4.trans s5
  have fin:∀ (b:Bool) (H6:Hp) (F6:Hp),b=p ds[i']->StF X.K H2 F6 H6 σ5 (Tb ds[i'])->Same F5 F6->if b=true then(∀cl C,wE (cxB X N scope cl C fp s2 H2) elt σ5 H6 λv H5=>∃Fb',StF X.K H2 Fb' H5 σ5 (jC cap sd)/\RepL X.K Fb' (((ds.take<|i'+1).filter p).map f) (ys++[v])) else ∃Fb',StF X.K H2 Fb' H6 σ5 (jC cap sd)/\RepL X.K Fb' (((ds.take<|i'+1).filter p).map f) ys:=λb H6 F6 eb S6 s6=>by
   rw[jW p hd,<-eb];cases b with
   |false=>exact aFX ⟨F6,S6.le<|hle _ hm,by simpa using rl5.mono s6⟩
   |true=>
    refine aFW λcl3 C3=>(he cl3 C3 fp s2 H2 _ hm eb.symm σ5 F6 H6 S6).imp λv H7 ⟨F7,S7,s7,q7⟩=>⟨F7,S7.le<|hle _ hm, ?_⟩
    simp only[if_true,bD,bY,gB];exact((rl5.mono s6).mono s7).app<|.one q7
  rcases ht cl2 C2 fp s2 H2 _ hm with⟨e1,e2⟩|⟨c,e1,q⟩
  ·subst e1;exact xL (fin true H5 F5 e2.symm S5<|Same.refl _)
  ·subst e1;exact xU<|(q σ5 F5 H5 S5).imp λb H6 ⟨eb,F6,S6,s6⟩=>fin b H6 F6 eb S6 s6
 ·have e:i'=ds.length:=by omega
  subst e;refine .inl ⟨g2<|aR _,λD C s' hD hC hDC h0 hL hcc hpp hst ⟨m',ns'⟩ J'=> ?_⟩;have fbD:Fb D=none:=Sb.sub.free hD
  have S9:StF X.K X.B₀ Fb (upd H3 D<|.lst ys) σ sd:=by
   refine⟨λb o g=>sF1 _ _<|S1.base _ _ g,λb o g=> ?_,λb o g=> ?_,S1.slots.mono sF1 λl hl=> ?_,S1.nd⟩
   ·rw[aX<|bS g fbD];exact Sb.sub _ _ g
   ·by_cases hb:b=D
    ·subst hb;rw[bA] at g;cases g;trivial
    ·rw[aX hb] at g;exact Sb.smp _ _ g
   ·rw[ho] at hl;cases hl
  have S10:=S9.setO i fbD bA rl (by rw[ho];simp);obtain⟨oC,esC,epC,hoC,rC⟩:=id ns';have nC:(upd H3 D<|.lst ys) C=none:=by rw[aX<|Ne.symm hDC];exact hC
  have Jp:Inv X (pins++[(C,oC)]) σ (upd H3 D<|.lst ys) s':=J'.pins_of λq hq=>(bF.mp hq).elim (λz=>J'.pin q<|aN _ z) λz=>by
   have z:q=(C,oC):=by simpa using z
   subst z
   exact ⟨hoC,nC,hL,fun y=>hst (by
    rcases J'.ok.stk with e|⟨e,_⟩
    ·rw[e];exact y
    ·rw[e];unfold frs;rw[dY];cases X.env.frame with
     |none=>exact y
     |some fr=>exact bV _ y),λv z=>by rw[rC.1] at z;cases z⟩
  show AE _ X.A (assign (.Name y py) X.env<|.ref D) _ _ _;refine wpAny_assign_Name (mY (v:=.ref D) (u:=.ref D) Jp hN hi (.inl hy) rfl (λs3 J3=> ?_)<|.inr hy);have pC:=J3.pin (C,oC) (aN _<|aN _ cG);refine⟨m',⟨oC,esC,epC,pC.1,rC⟩,λh' sb=> ?_⟩;have J4:Inv X pins _ (upd H3 D<|.lst ys) s3:=J3.pins_of λq hq=>J3.pin q (aN _<|cE _ hq)
  have J5:Inv X pins _ (upd H3 D<|.lst ys) {s3 with heap:=h',toks:=s3.toks}:=J4.turned (it:=C) (λb o hb g=>sb.extBut b o hb g) nC hL (.inr h0) hcc hpp;refine⟨_,_,J5,_,Fb,S10,s1'.trans sF1, ?_⟩;have hE':=hE D;simpa using hE'
def stepNames:List Str:=["and","or","xor","add","take","copy","put","not","up","down"]
noncomputable def nm(k:Nat):Str:=stepNames.getD k "down"
noncomputable def fZ(k:Nat)(i j n:Int):D:=if k<6 then .tup [.str<|nm k,.int i,.int j] else if k=6 then .tup [.str<|nm k,.int i,.int n] else .tup [.str<|nm k,.int i]
noncomputable def aGi(k:Nat)(m a:Int):Int:=match k with
 |7=>m-1-a
 |8=>a*2%m
 |_=>a / 2
noncomputable def oM(k:Nat)(m a c:Int):Int:=match k with
 |0=>Builtin.bitAnd a c
 |1=>Builtin.bitOr a c
 |2=>Builtin.bitXor a c
 |3=>(a+c)%m
 |4=>(a-c)%m
 |_=>c
noncomputable def yB(k:Nat)(m a c n:Int):Int:=if k=6 then n else if 7<=k then aGi k m a else oM k m a c
noncomputable def bop(k:Nat)(h t:Int):Int:=match k with
 |0=>h*t
 |1=>if t>h then t else h
 |_=>(h+t)%2
noncomputable def pows:List Int:=[1,2,4,8,16,32,64]
noncomputable def sJ(k:Nat)(ps:List Int)(a c:Int):Int:=ps.foldl (λacc p=>acc+p*bop k (a / p%2) (c / p%2)) 0
theorem aCK:∀b,b<7->∀a,a<2^b->∀c,c<2^b->∀k,k<3->oM k 0 ((a:Nat):Int) ((c:Nat):Int)=sJ k (pows.take b) a c:=by decide+kernel
theorem aGw:∀k,k<10->decide (V.str (nm k)=V.str "and")=decide (k=0):=by decide+kernel
theorem aIX:∀k,k<10->decide (V.str (nm k)=V.str "or")=decide (k=1):=by decide+kernel
theorem aGO:∀k,k<10->decide (V.str (nm k)=V.str "xor")=decide (k=2):=by decide+kernel
theorem aGX:∀k,k<10->decide (V.str (nm k)=V.str "add")=decide (k=3):=by decide+kernel
theorem aEY:∀k,k<10->decide (V.str (nm k)=V.str "take")=decide (k=4):=by decide+kernel
theorem qJ:∀k,k<10->decide (V.str (nm k)=V.str "put")=decide (k=6):=by decide+kernel
theorem aGL:∀k,k<10->decide (V.str (nm k)=V.str "not")=decide (k=7):=by decide+kernel
theorem aIK:∀k,k<10->decide (V.str (nm k)=V.str "up")=decide (k=8):=by decide+kernel
theorem aAf:∀k,k<10->inV (V.str<|nm k) [V.str "not",V.str "up",V.str "down"]=decide (7<=k):=by decide+kernel
theorem aDW:∀k,k<10->inV (V.str<|nm k) [V.str "copy",V.str "add",V.str "take"]=decide (3<=k/\k<=5):=by decide+kernel
theorem aBX:∀b,b<7->∀a,a<2^b->∀c,c<2^b->∀k,k<3->0<=oM k 0 ((a:Nat):Int) ((c:Nat):Int)/\oM k 0 ((a:Nat):Int) ((c:Nat):Int)<((2^b:Nat):Int):=by decide+kernel
theorem aGu{k:Nat}(h:k<3)(m a c:Int):oM k m a c=oM k 0 a c:=by
 match k,h with
 |0,_=>rfl
 |1,_=>rfl
 |2,_=>rfl
theorem aCh{b k:Nat}{a c n:Int}(hb:b<7)(hk:k<10)(ha:0<=a/\a<((2^b:Nat):Int))(hc:0<=c/\c<((2^b:Nat):Int))(hn:0<=n/\n<((2^b:Nat):Int)):0<=yB k ((2^b:Nat):Int) a c n/\yB k ((2^b:Nat):Int) a c n<((2^b:Nat):Int):=by
 have ea:a=((a.toNat:Nat):Int):=by omega
 have ec:c=((c.toNat:Nat):Int):=by omega
 have la:a.toNat<2^b:=by have:=ha.2;generalize 2^b=q at *;omega
 have lc:c.toNat<2^b:=by have:=hc.2;generalize 2^b=q at *;omega
 have tab:∀k,k<3->0<=oM k ((2^b:Nat):Int) a c/\oM k ((2^b:Nat):Int) a c<((2^b:Nat):Int):=λk hk=>by rw[aGu hk,ea,ec];exact aBX b hb _ la _ lc k hk
 have mpos:(0:Int)<((2^b:Nat):Int):=by omega
 match k,hk with
 |0,_=>exact tab 0<|by decide
 |1,_=>exact tab 1<|by decide
 |2,_=>exact tab 2<|by decide
 |3,_=>exact⟨aK _<|eG mpos,aQ _ mpos⟩
 |4,_=>exact⟨aK _<|eG mpos,aQ _ mpos⟩
 |5,_=>exact hc
 |6,_=>exact hn
 |7,_=>show 0<=((2^b:Nat):Int)-1-a/\((2^b:Nat):Int)-1-a<((2^b:Nat):Int);generalize ((2^b:Nat):Int)=q at *;omega
 |8,_=>exact⟨aK _<|eG mpos,aQ _ mpos⟩
 |9,_=>show 0<=a / 2/\a / 2<((2^b:Nat):Int);generalize ((2^b:Nat):Int)=q at *;omega
theorem aIh{k1 k2 k3:Str}(h12:k1≠k2)(h13:k1≠k3)(h23:k2≠k3)(x y z:V):lN (gU [] [((.inr k1:Key),x),(.inr k2,y),(.inr k3,z)]) (.inr k1)=some x/\lN (gU [] [((.inr k1:Key),x),(.inr k2,y),(.inr k3,z)]) (.inr k2)=some y/\lN (gU [] [((.inr k1:Key),x),(.inr k2,y),(.inr k3,z)]) (.inr k3)=some z:=by
 have e:gU [] [((.inr k1:Key),x),(.inr k2,y),(.inr k3,z)]=[((.inr k1:Key),x),(.inr k2,y),(.inr k3,z)]:=by simp[gU,tP,h12,h13,h23]
 rw[e];simp[lN,fB,h12,h13,h23,h12.symm,h13.symm,h23.symm]
theorem aDy{i j:Int}(h1: -(2^64)<i)(h2:i<2^64):IntMulOk i j:=.of_left<|intBits_le_64 h1 h2
theorem aFg:∀p∈pows,0<p/\p<1073741824:=by decide+kernel
theorem RepL.strs{K:aB}{H:Hp}:∀ {ss:List Str}{xs:List V},RepL K H (ss.map D.str) xs->xs=ss.map V.str
 |[],xs,r=>by simpa only[gB,RepL] using r
 |n::ns,xs,r=>by rw[bY] at r;obtain⟨y,ys,rfl,a,rl⟩:=r.uncons;simp only[Rep] at a;rw[a,RepL.strs rl];rfl
theorem aEv{ss:List Str}(ha:PEd X sd a (.val d))(hb:PEd X sd b (.val (.tup<|ss.map D.str)))(hd:flt d=some v)(fv:jT v=true)(hk:AR .In b=false:=by with_unfolding_all rfl):PTd X sd (.Compare a [.In] [b] pos) (inV v<|ss.map V.str):=
 gD sN ha hb trivial hk λσ F H x u Q S q1 q2 k=>by have e:=lD hd q1;subst e;simp only[ResOk,Rep] at q2;obtain⟨p,xs,rfl,hp,rl⟩:=q2;rw[rl.strs] at hp;refine⟨p,_,rfl,.inr (.of<|S.sub _ _ hp),fv, ?_,k F H S<|Same.refl _⟩;rw[dI];intro y hy;obtain⟨z,_,rfl⟩:=cH.mp hy;rfl
theorem xB{h:BE}{a:BC}{its:Array BA}(p:PlainL h a its):h.IsList a its:=by obtain⟨o,n,h1,h2,h3,h4⟩:=p;exact⟨o,h1,h2,n,h4⟩
theorem aFI(hu:X.A.units+1<AX):OpR X (AM .NotEq) (λx y H Q=>∃p q xs,x=.ref p/\y=.ref q/\SqL X.K H p xs/\SqL X.K H q []/\Q (.bl<|!xs.isEmpty) H):=by
 intro pins s σ H x y v u Q I rx ry h;obtain⟨p,q,xs,rfl,rfl,h1,h2,k⟩:=h;obtain⟨its,rv,ht,_⟩:=I.list h1;obtain⟨jts,rv2,ht2,_⟩:=I.list h2;have ht:=xB ht;have ht2:=xB ht2;cases rx;cases ry;have l1:its.toArray.size=xs.length:=by rw[aG,<-rv.length]
 have l2:jts.toArray.size=0:=by rw[aG,<-rv2.length];rfl
 have kk:EP X pins σ Q (.bool<|!xs.isEmpty) s:=⟨.bl<|!xs.isEmpty,H,I,rfl,k⟩
 by_cases hl:xs=[]
 ·subst hl;refine SeqAt.RcNeAt.lists (e:=λ_=>true) ht ht2 (l1.trans l2.symm) (by omega) (λj h1 h2=>absurd h2<|by rw[l2];omega) _ _ _ _ ?_;rw[l1];exact kk
 ·have:(!xs.isEmpty)=true:=by cases xs with|nil=>exact absurd rfl hl|cons _ _=>rfl
  rw[this] at kk;exact SeqAt.RcNeAt.lists_lengths ht ht2 (by rw[l1,l2];cases xs with|nil=>exact absurd rfl hl|cons _ _=>simp) (by omega) _ _ _ _ kk
theorem aCs{ns:List Int}(hu:X.A.units+1<AX)(ha:PEd X sd a (.val<|.scr ns))(hb:PEd X sd b (.val<|.lst [])):PTd X sd (.Compare a [.NotEq] [b] pos) (!ns.isEmpty):=
 gD (aFI hu) ha hb trivial (eD _) λσ F H x u Q S q1 q2 k=>by
  have q1:Rep X.K F (.scr ns) x:=q1;have q1:=Rep.mono S.sub q1;simp only[ResOk,Rep] at q1 q2;obtain⟨p,rfl,hp⟩:=q1;obtain⟨q,xs,rfl,hq,rl⟩:=q2;have e:xs=[]:=by simpa only[RepL] using rl
  subst e;refine⟨p,q,ns.map V.int,rfl,rfl,hp,.of<|S.sub _ _ hq, ?_⟩
  ·have:(ns.map V.int).isEmpty=ns.isEmpty:=by cases ns<;>rfl
   rw[this];exact k F H S<|Same.refl _
theorem aBt{op op':CmpOp}{g g':Int->Int->Bool}{i j l:Int}(ho:OpR X (AM op) (rI0 λi j=>.bl<|g i j))(ho':OpR X (AM op') (rI0 λi j=>.bl<|g' i j))(ha:PEd X sd a (.val<|.int i))(hb:PEd X sd b (.val<|.int j))(hc:PEd X sd c (.val<|.int l))(hm:lastMarks [op,op'] [b,c]=false:=by with_unfolding_all rfl):PEd X sd (.Compare a [op,op'] [b,c] pos) (.val (.bl<|g i j&&g' j l)):=.mk λσ F H S=>
 (aCa ho ho' dX dX dX hm).to ((ha σ F H S).imp fun v H1 ⟨F1,S1,s1,q1⟩=>(hb σ F1 H1 S1).imp fun u H2 ⟨F2,S2,s2,q2⟩=>by
  simp only[ResOk,Rep] at q1 q2;refine⟨i,j,q1,q2,g i j,rfl, ?_⟩;cases hk:g i j with
  |true=>
   rw[if_pos rfl];refine(hc σ F2 H2 S2).imp λw H3 ⟨F3,S3,s3,q3⟩=> ?_
   simp only[ResOk,Rep] at q3;exact⟨j,l,q2,q3,F3,S3,s1.trans<|s2.trans s3,by simp only[ResOk,Rep,gO]⟩
  |false=>
   rw[if_neg<|by decide]
   exact⟨F2,S2,s1.trans s2,by simp only[ResOk,Rep,lR]⟩)
variable {o:Expr}
theorem PEd.ic{i j:Int}(h:PEd X sd e (.val<|.int i))(q:i=j):PEd X sd e (.val<|.int j):=q▸h
theorem rR{prog:AG}{A:BD}{E:BA->AA->Prop}{t sl:BC}{items:Array BA}{vl vu:BA}{lo hi:Option Int}{Q:BA->AA->Prop}(ht:IsTup s.heap t items)(hs:s.heap.IsSliceOf sl vl vu .none)(pl:IsPart vl lo)(pu:IsPart vu hi)
  (hw:HT.sIx items.size 0 lo=0/\HT.sIx items.size items.size hi=items.size) (h:Q (.ref t) s):AE (AF prog w) A (getItem (.ref t)<|.ref sl) Q E s:=by
 obtain⟨os,hos,hcs,hds⟩:=id hs;have hTs:s.TypeIs (.ref sl) "slice":=⟨os,hos,hcs⟩;unfold getItem
 try with_reducible refine AQ ?_
 first|refine AB (AD ?_)|skip
 refine AB<|wpAny_sequenceKey ht.typeIs (by decide) ?_
 refine AB (Ak (name:=Str.ofString "__getitem__") ht.typeIs PyProof.Rows.slot_tuple_getitem
  (wpAny_call_entry PyProof.Rows.slot_tuple_getitem ht.typeIs entry_tuple_getitem ?_ (args_tuple_getitem _ _)))
 show AE _ _ (Builtin.Tuple.tupleItemsOf (.ref t)>>=_) _ _ s;refine AB<|tupleItemsOf_ ht ?_;refine AB<|wpAny_typeOf hTs ?_;rw[if_pos<|by decide];refine AB<|HT.sliceApplied_gen hs pl pu ?_
 have yes:(((HT.sIx items.size 0 lo:Nat):Int)==0&&(1:Int)==1&&(HT.sIx items.size items.size hi-HT.sIx items.size 0 lo)==items.size)=true:=by rw[hw.1,hw.2];simp
 show AE _ _ (if(((HT.sIx items.size 0 lo:Nat):Int)==0&&(1:Int)==1&&(HT.sIx items.size items.size hi-HT.sIx items.size 0 lo)==items.size)=true then _ else _) _ _ s;rw[if_pos yes];refine AB ?_;unfold Builtin.Tuple.tupleIsExact;refine AB (wpAny_typeOf ht.typeIs<|AD ?_);rw[if_pos<|by decide];exact AB (wpAny_rule<|AD ⟨_,rfl,AD h⟩)
theorem aEB:SlR X (λx lo hi H Q=>∃a xs,x=.ref a/\SqT X.K H a xs/\(HT.sIx xs.length 0 lo=0/\HT.sIx xs.length xs.length hi=xs.length)/\Q (.ref a) H):=by
 intro pins s σ H x v vl vu lo hi sl Q I rx hs pl pu h;obtain⟨a,xs,rfl,hx,hw,q⟩:=h;cases rx;obtain⟨its,r,ht,hz⟩:=I.tuple hx;have hlen:its.toArray.size=xs.length:=by rw[aG];exact r.length.symm
 refine⟨"tuple",_,PyProof.Rows.slot_tuple_getitem.lookup,ht.typeIs,rR ht hs pl pu (by rw[hlen];exact hw) ⟨.ref a,H,I,rfl,q⟩⟩
theorem uK{lo hi:Option Expr}{ol oh:Option Int}{p2:Pos}(ha:PEd X sd a (.val<|.tup ds))(hl:POd X sd lo ol)(hh:POd X sd hi oh)(hw:HT.sIx ds.length 0 ol=0/\HT.sIx ds.length ds.length oh=ds.length):PEd X sd (.Subscript a (.Slice lo hi none p2) pos) (.val<|.tup ds):=.mk λσ F H S=>by obtain⟨tl,pl,kl⟩:=jH hl;obtain⟨th,ph,kh⟩:=jH hh;refine(qS aEB dX pl ph).to<|(ha σ F H S).imp λv H1 ⟨F1,S1,s1,q1⟩=>kl σ F1 H1 S1 _ λF2 H2 S2 s2=>kh σ F2 H2 S2 _ λF3 H3 S3 s3=> ?_;have q1:=Rep.mono (s2.trans s3) q1;simp only[Rep] at q1;obtain⟨l,xs,rfl,hl',rl⟩:=q1;refine⟨l,xs,rfl,.of<|S3.sub _ _ hl',by rw[rl.len];exact hw,F3,S3,(s1.trans s2).trans s3, ?_⟩;simp only[ResOk,Rep];exact⟨l,xs,rfl,hl',rl⟩
theorem qH{k:Nat}{p2:Pos}(ha:PEd X sd a (.val<|.tup ds))(hb:PEd X sd b (.val<|.int (k:Int))):PEd X sd (.Subscript a (.Slice none (some b) none p2) pos) (.val (.tup<|ds.take k)):=by
 by_cases h:k<ds.length
 ·have e:DL.cutD ds none (some (k:Int))=ds.take k:=by unfold DL.cutD;rw[HT.sIx_nat,HT.sIx_none,jB<|eE h];simp
  exact PEd.cast (pK (ol:=none) (oh:=some (k:Int)) ha trivial hb<|by rw[HT.sIx_nat,HT.sIx_none];omega) (by rw[e])
 ·rw[eB<|by omega];exact uK (ol:=none) (oh:=some (k:Int)) ha trivial hb (by rw[HT.sIx_nat,HT.sIx_none];omega)
theorem qQ{k:Nat}{p2:Pos}(ha:PEd X sd a (.val<|.tup ds))(hb:PEd X sd b (.val<|.int (k:Int))):PEd X sd (.Subscript a (.Slice (some b) none none p2) pos) (.val (.tup<|ds.drop k)):=by
 by_cases h:0<k/\0<ds.length
 ·have e:DL.cutD ds (some (k:Int)) none=ds.drop k:=by
   unfold DL.cutD;rw[HT.sIx_nat,HT.sIx_none]
   by_cases q:k<=ds.length
   ·rw[jB q];exact eB<|by simp
   ·rw[Nat.min_eq_right<|by omega,gS<|aR _,gS<|by omega];simp
  exact PEd.cast (pK (ol:=some (k:Int)) (oh:=none) ha hb trivial<|by rw[HT.sIx_nat,HT.sIx_none];omega) (by rw[e])
 ·have e:ds.drop k=ds:=by
   by_cases q:k=0
   ·rw[q];rfl
   ·have:ds=[]:=List.length_eq_zero_iff.mp (by omega);rw[this];simp
  rw[e];exact uK (ol:=some (k:Int)) (oh:=none) ha hb trivial (by rw[HT.sIx_nat,HT.sIx_none];omega)
mutual
noncomputable def noL:D->Bool
 |.tup ds=>aFT ds
 |.lst _=>false
 |.scr _=>false
 |.dic=>false
 |.dki _ _=>false
 |.any _=>false
 |_=>true
noncomputable def aFT:List D->Bool
 |[]=>true
 |d::ds=>noL d&&aFT ds
end
noncomputable def del(F:Hp)(l:BC):Hp:=λb=>if b=l then none else F b
theorem pX{l b:BC}(h:b≠l):del F l b=F b:=by unfold del;rw[if_neg h]
theorem vR{l:BC}:del F l l=none:=by unfold del;rw[if_pos rfl]
mutual
theorem Rep.del{K:aB}{F:Hp}{l:BC}{xs:List V}(hl:F l=some (.lst xs)):∀ {d:D}{v:V},noL d=true->Rep K F d v->Rep K (del F l) d v
 |.non,_,_,r=>by simpa only[Rep] using r
 |.bl _,_,_,r=>by simpa only[Rep] using r
 |.int _,_,_,r=>by simpa only[Rep] using r
 |.str _,_,_,r=>by simpa only[Rep] using r
 |.tup ds,v,h,r=>by
  simp only[Rep] at r ⊢;obtain⟨a,ys,e,q,rl⟩:=r
  have ne:a≠l:=λz=>by rw[z,hl] at q;cases q
  exact⟨a,ys,e,by rw[pX ne];exact q,RepL.del hl (by simpa only[noL] using h) rl⟩
 |.lst _,_,h,_=>by simp[noL] at h
 |.dic,_,h,_=>by simp[noL] at h
 |.dki _ _,_,h,_=>by simp[noL] at h
 |.any _,_,h,_=>by simp[noL] at h
 |.scr _,_,h,_=>by simp[noL] at h
theorem RepL.del{K:aB}{F:Hp}{l:BC}{xs:List V}(hl:F l=some (.lst xs)):∀ {ds:List D}{ys:List V},aFT ds=true->RepL K F ds ys->RepL K (del F l) ds ys
 |[],_,_,r=>by simpa only[RepL] using r
 |d::ds,ys,h,r=>by simp only[aFT,aW] at h;obtain⟨y,zs,rfl,a,rl⟩:=r.uncons;exact .cons (Rep.del hl h.1 a)<|RepL.del hl h.2 rl
end
theorem vX{K:aB}{F H:Hp}:∀ {sd:List Slot}{σ:St},σ.length=sd.length->(∀ (k:Nat) (z:Slot),sd[k]? =some z->∃o,σ[k]? =some o/\gK K F H z o)->SlotsOk K F H sd σ
 |[],[],_,_=>rfl
 |z::zs,o::r,hl,h=>by
  obtain⟨o',e,q⟩:=h 0 z rfl;have:o=o':=by simpa using e
  subst this
  exact ⟨o,r,rfl,q,vX (by simpa using hl) fun k z hz=>by
   obtain⟨o',e,q⟩:=h (k+1) z (by simpa using hz)
   exact⟨o',by simpa using e,q⟩⟩
 |[],_::_,hl,_=>by simp at hl
 |_::_,[],hl,_=>by simp at hl
noncomputable def okS:Slot->Bool
 |.own _ ds=>aFT ds
 |.od _ _ ds=>aFT ds
 |.ox _ _=>false
 |_=>true
def Oth(sd:List Slot)(i:Nat):Prop:=∀ (k:Nat) (z:Slot),k≠i->sd[k]? =some z->okS z=true
variable {i:Nat}{l:BC}{xs:List V}
theorem StF.lend(S:StF K H₀ F H σ sd)(hs:sd[i]? =some (.own l ds))(hx:H l=some (.lst xs)):StF K H₀ (upd F l<|.lst xs) H σ (sd.set i (.val<|.lst ds)):=by obtain⟨o,h1,h2,n,ys,q,rl⟩:=S.slots.get hs;rw[hx] at q;cases q;have S0:=S.le<|iL sd i;obtain⟨S1,s1⟩:=S0.freeze hx n<|nZ S.nd hs;have S2:=S1.set (d:=.lst ds) (v:=.ref l) i (by simp only[Rep];exact⟨l,xs,rfl,bA,rl.mono s1⟩);rw[lA,mH<|by rw[h1,h2]] at S2;exact S2
theorem StF.back(S:StF K H₀ F H σ sd)(hs:sd[i]? =some (.own l ds))(hx:H l=some (.lst xs))(ho:Oth sd i)(S':StF K H₀ F' H' σ (sd.set i (.val<|.lst ds)))(s:Same (upd F l<|.lst xs) F'):StF K H₀ (del F' l) H' σ sd/\Same F (del F' l)/\F' l=some (.lst xs):=by
 obtain⟨o,h1,h2,n,ys,q,rl⟩:=S.slots.get hs;rw[hx] at q;cases q;have fl:F' l=some (.lst xs):=s _ _ bA
 have sF:Same F (del F' l):=λb u e=>by have ne:b≠l:=bS e n;rw[pX ne];exact s _ _ (by rw[aX ne];exact e)
 refine⟨⟨λb u e=>sF _ _<|S.base _ _ e,λb u e=> ?_,S'.smp, ?_,S.nd⟩,sF,fl⟩
 ·by_cases h:b=l
  ·subst h;rw[vR] at e;cases e
  ·rw[pX h] at e;exact S'.sub _ _ e
 ·refine vX S.slots.len λk z hz=> ?_
  by_cases hk:k=i
  ·subst hk;rw[hs] at hz;cases hz;exact⟨o,h1,h2,vR,xs,S'.sub _ _ fl,rl.mono sF⟩
  ·obtain⟨o1,g1,g2⟩:=S.slots.get hz;obtain⟨o2,g3,g4⟩:=S'.slots.get (i:=k) (z:=z) (by rw[hZ<|Ne.symm hk];exact hz);rw[g1] at g3;cases g3;refine⟨o1,g1, ?_⟩;cases z with
   |un=>trivial
   |val d=>obtain⟨v,e,r⟩:=g2;exact⟨v,e,r.mono sF⟩
   |gh d G=>obtain⟨v,e,r,g⟩:=g2;exact⟨v,e,r.mono sF,λF2 s2=>g F2<|sF.trans s2⟩
   |own l' ds'=>
    obtain⟨e,n',ys,q',rl'⟩:=g4
    have ne:l'≠l:=λe2=>by rw[e2,fl] at n';cases n'
    exact⟨e,by rw[pX ne];exact n',ys,q',RepL.del fl (ho k _ hk hz) rl'⟩
   |od l' ks ds'=>
    obtain⟨e,n',ys,q',ln,rl'⟩:=g4
    have ne:l'≠l:=λe2=>by rw[e2,fl] at n';cases n'
    exact⟨e,by rw[pX ne];exact n',ys,q',ln,RepL.del fl (ho k _ hk hz) rl'⟩
   |ox ls G=>exact absurd (ho k _ hk hz) (by simp[okS])
theorem PTd.lend(i:Nat){k:Bool}(hs:sd[i]? =some (.own l ds))(ho:Oth sd i)(h:PTd X (sd.set i (.val<|.lst ds)) e k):PTd X sd e k:=.mk λσ F H S=>by
 obtain⟨o,h1,h2,n,xs,q,rl⟩:=S.slots.get hs;refine(h σ _ H<|S.lend hs q).imp λv H' ⟨e,F',S',s'⟩=> ?_
 obtain⟨S2,s2,fl⟩:=S.back hs q ho S' s';exact⟨e,del F' l,S2,s2⟩
theorem PTd.cast{k k':Bool}(h:PTd X sd e k)(q:k=k'):PTd X sd e k':=q▸h
noncomputable def aIo:List Slot->Nat->Bool
 |[],_=>true
 |_::zs,0=>zs.all okS
 |z::zs,i+1=>okS z&&aIo zs i
theorem aGl:∀ {sd:List Slot}{i:Nat},aIo sd i=true->Oth sd i
 |[],_,_,k,y,_,hz=>by simp at hz
 |z::zs,0,h,k,y,hk,hz=>by
  cases k with
  |zero=>exact absurd rfl hk
  |succ k=>exact dI.mp (show zs.all okS=true from h) _ (dE<|by simpa using hz)
 |z::zs,i+1,h,k,y,hk,hz=>by
  have h':(okS z&&aIo zs i)=true:=h;rw[aW] at h';cases k with
  |zero=>
   have:z=y:=by simpa using hz
   subst this;exact h'.1
  |succ k=>exact aGl h'.2 k y (λq=>hk<|by rw[q]) (by simpa using hz)
theorem aEK(ha:PEd X sd a ra)(hb:PEd X sd b rb)(ka:ra.keeps)(kb:rb.keeps)(hs:(isT ra.toD=true/\isT rb.toD=true)\/(isL ra.toD=true/\isL rb.toD=true))(p1:pl ra.toD=true)(p2:pl rb.toD=true)(hu:X.A.units+dep ra.toD+1<AX):PTd X sd (.Compare a [.Eq] [b] pos) (deq ra.toD rb.toD):=
 gD (aDP X.K _ _ hs p1 p2 hu) ha hb ka (eD _) λσ F H v u Q S q1 q2 k=>⟨q1.rep S ka,q2.rep S kb,k F H S<|Same.refl _⟩
theorem aAZ(hc:X.calm=true):jO X (.builtin "sum") (λxs H Q=>∃ (a:BC) (ns:List Int),xs=[.ref a]/\SqL X.K H a (ns.map V.int)/\Q (.int<|preSum (λi=>ns.getD i 0) ns.length) H):=by
 intro pins s σ H xs us Q I r h;obtain⟨a,ns,rfl,ha,q⟩:=h;obtain⟨u,rfl,ru⟩:=sZ r;cases ru;obtain⟨its,rv,p,hz⟩:=I.list ha;have hl:=rv.length;rw[aC] at hl;have isl:s.heap.IsList a its.toArray:=p.isList;have alt:a<s.heap.objs.size:=by obtain⟨o,ho,_⟩:=isl;exact aO ho
 refine call_sum_walkAnyS<|wpAny_pyIter_list isl ?_;refine⟨s.heap.objs.size,_,_,_,its.toArray.size,_,_,λi=>ns.getD i 0,rfl,(Walks.list (A:=X.A.in1) (I.ok.hd hc) s.heap.objs.size a (bG alt) its.toArray).toS,⟨⟨_,bT _ rfl,rfl,rfl⟩,isl.push _⟩,λb hb=> ?_,λi v hv=>(aFD rv<|by simpa using hv).2,λs' t' hm=> ?_⟩
 ·show b<(s.heap.push _).objs.size;rw[size_push']
  rcases cD.mp hb with e|hb
  ·rw[e];exact aGb _
  ·have e:b=a:=by simpa using hb
   rw[e];exact aFN alt
 ·rw[Moved.eq_with hm];have sz:its.toArray.size=ns.length:=by rw[aG,hl]
  rw[sz];refine⟨.int _,H,I.kept λb o g=>hm.heap b o (λhI=> ?_)<|aH _ g,⟨_,rfl⟩,q⟩;have e:b=s.heap.objs.size:=by simpa using hI
  exact absurd (aO g) (by rw[e];exact eP _)
theorem aAk{p:Pos}{ns:List Int}(hg:Gl X "sum")(hm:X.mg "sum"=none)(ha:PEd X sd e (.bor<|ns.map D.int))(hc:X.calm=true:=by rfl)(hst:AC [e] X.env=(false,eval e X.env)::AC [] X.env:=by rfl):PEd X sd (.Call (.Name "sum" p) [e] [] pos) (.val (.int<|preSum (λi=>ns.getD i 0) ns.length)):=
 iW (he:=hst) (aAZ hc) hg hm boot_sum (aA ha aE trivial hst) λσ F H vs Q S q k=>by
  cases q with
  |cons q1 q2=>cases q2;obtain⟨p,xs,rfl,hp,rl,_⟩:=q1;exact⟨p,ns,rfl,.of (by rw[<-rl.ints];exact hp),k _ F H S (Same.refl _)<|by simp only[ResOk,Rep]⟩
noncomputable abbrev SQ:=Nat×Int×Int×Int
noncomputable def sqD(q:SQ):D:=fZ q.1 q.2.1 q.2.2.1 q.2.2.2
structure vW(p:Int×Int)(q:SQ):Prop where
 sz:p∈cI
 k10:q.1<10
 i0:0<=q.2.1/\q.2.1<p.2
 j0:0<=q.2.2.1/\q.2.2.1<p.2
 n0:0<=q.2.2.2/\q.2.2.2<((2^p.1.toNat:Nat):Int)
theorem pw0(n:Nat):(0:Int)<((2^n:Nat):Int):=by have:0<2^n:=Nat.pow_pos (by decide);generalize 2^n=q at this ⊢;omega
noncomputable abbrev SK:=SQ×Int
noncomputable def skD(s:SK):D:=.tup [sqD s.1,.int s.2]
structure hX(p:Int×Int)(L:List SK):Prop where
 pos:0<L.length
 le:L.length<=8
 st:∀s∈L,vW p s.1/\1<=s.2/\s.2<=9
structure Fil(p:Int×Int)(ws:List Int):Prop where
 len:ws.length=p.2.toNat
 wd:∀w∈ws,0<=w/\w<((2^p.1.toNat:Nat):Int)
noncomputable def nwQ(p:Int×Int)(q:SQ)(ws:List Int):Int:=yB q.1 ((2^p.1.toNat:Nat):Int) (ws.getD q.2.1.toNat 0) (ws.getD q.2.2.1.toNat 0) q.2.2.2
noncomputable def onQ(p:Int×Int)(q:SQ)(ws:List Int):List Int:=ws.set q.2.1.toNat<|nwQ p q ws
noncomputable def fE(p:Int×Int)(L:List SK)(row:List Nat)(ws:List Int):List Int:=row.foldl (λf t=>onQ p (L.getD t AV).1 f) ws
theorem aFk{p:Int×Int}{q:SQ}{ws:List Int}(O:vW p q)(G:Fil p ws):0<=nwQ p q ws/\nwQ p q ws<((2^p.1.toNat:Nat):Int):=by obtain⟨h1,h2,h3,h4,h5⟩:=nH p O.sz;exact aCh (by omega) O.k10 (G.wd _ (getD_mem<|by have:=O.i0;rw[G.len];omega)) (G.wd _ (getD_mem<|by have:=O.j0;rw[G.len];omega)) O.n0
theorem aEx{p:Int×Int}{q:SQ}{ws:List Int}(O:vW p q)(G:Fil p ws):Fil p (onQ p q ws):=by
 refine⟨by unfold onQ;rw[rO];exact G.len,λw hw=> ?_⟩
 rcases List.mem_or_eq_of_mem_set hw with hw|rfl
 ·exact G.wd w hw
 ·exact aFk O G
theorem iY{p:Int×Int}{L:List SK}(S:hX p L):∀ (row:List Nat) (ws:List Int),(∀t∈row,t<L.length)->Fil p ws->Fil p (fE p L row ws)
 |[],ws,_,G=>G
 |t::row,ws,h,G=>by have ht:=h t cG;exact iY S row _ (λu hu=>h u<|bV _ hu)<|aEx (S.st _<|getD_mem ht).1 G
theorem sV(p:Int×Int)(L:List SK)(row:List Nat)(t:Nat)(ws:List Int):fE p L (row++[t]) ws=onQ p (L.getD t AV).1 (fE p L row ws):=by unfold fE;rw[oJ];rfl
theorem oY{p:Int×Int}(hp:p∈cI){ws:List Int}(h:ws∈fX (2^p.1.toNat) p.2.toNat):Fil p ws:=by
 have g:∀ (m k:Nat),∀s∈fX m k,s.length=k/\∀x∈s,0<=x/\x<(m:Int):=λm k=>by
  induction k with
  |zero=>
   intro s h;have:s=[]:=by simpa[fX] using h
   subst this;exact⟨rfl,λx hx=>by cases hx⟩
  |succ k ih=>
   intro s h;obtain⟨t,ht,hs⟩:=eV.mp h;obtain⟨w,hw,rfl⟩:=cH.mp hs;obtain⟨a,b⟩:=ih t ht;refine⟨by rw[aJ,a];rfl,λx hx=> ?_⟩
   rcases bF.mp hx with hx|hx
   ·exact b x hx
   ·have e:x=(w:Int):=by simpa using hx
    have:=cR.mp hw;omega
 obtain⟨a,b⟩:=g _ _ ws h;exact⟨a,b⟩
noncomputable def bB(row:List Nat):List D:=row.map λ(t:Nat)=>D.int (t:Int)
noncomputable def wL(L:List SK)(row:List Nat):List Int:=row.map λt=>(L.getD t AV).2
noncomputable def aJz(l:List Int):Int:=preSum (λi=>l.getD i 0) l.length
def uA:List D->R->Prop:=λds r=>∃ (L:List SK) (row:List Nat),(∀t∈row,t<L.length)/\row.length<=500/\ds=[.lst<|L.map skD,.tup<|bB row]/\r=.val (.int (aJz<|wL L row))
theorem wY{p:Pos}(hg:Gl X "list")(hm:X.mg "list"=none)(ha:PEd X sd e (.bor ds))(hst:AC [e] X.env=(false,eval e X.env)::AC [] X.env:=by rfl):PEd X sd (.Call (.Name "list" p) [e] [] pos) (.own ds):=
 nV (he:=hst) mI hg hm PyProof.Rows.boot_list (aA ha aE trivial hst) λσ F H vs Q S q k=>by
  cases q with
  |cons q1 q2=>cases q2;obtain⟨p,xs,rfl,hp,rl,_⟩:=q1;refine⟨p,xs,rfl,.inl<|.of hp,λl hl=> ?_⟩;obtain⟨S2,fp,no⟩:=S.layO (xs:=xs) hl;exact k _ F _ S2 (Same.refl _) ⟨l,xs,rfl,fp,bA,rl,no⟩
mutual
theorem mX:∀d:D,pl d=true->deq d d=true
 |.non,_=>rfl
 |.bl b,_=>by simp[deq]
 |.int i,_=>by simp[deq]
 |.str x,_=>by simp[deq]
 |.tup ds,h=>by simp only[deq];exact nY ds (by simpa only[pl] using h)
 |.lst ds,h=>by simp only[deq];exact nY ds (by simpa only[pl] using h)
 |.dic,h=>by simp[pl] at h
 |.dki _ _,h=>by simp[pl] at h
 |.any _,h=>by simp[pl] at h
 |.scr _,h=>by simp[pl] at h
theorem nY:∀ds:List D,plL ds=true->gR ds ds=true
 |[],_=>rfl
 |d::ds,h=>by simp only[plL,aW] at h;simp only[gR,aW];exact⟨mX d h.1,nY ds h.2⟩
end
theorem oZ{row:List Nat}{k:Nat}(h:(bB row)[k]? =some d):k<row.length/\d=.int ((row.getD k 0:Nat):Int):=by
 unfold bB at h;rw[bK] at h;cases e:row[k]? with
 |none=>rw[e] at h;cases h
 |some z=>rw[e] at h;refine⟨(bE.mp e).1, ?_⟩;rw[<-bN.inj h,bQ,e];rfl
theorem pQ{L:List SK}{t:Nat}(h:t<L.length):(L.map skD)[t]? =some (skD<|L.getD t AV):=by rw[bK];simp[bQ,h]
theorem xG{row:List Nat}{k:Nat}(h:k<row.length):row.take (k+1)=row.take k++[row.getD k 0]:=by rw[eM];simp[bQ,h]
theorem jG(L:List (List Int))(m:Nat):(L.flatMap λs=>(bC m).map λ(w:Nat)=>s++[(w:Int)]).length=L.length*m:=by
 induction L with
 |nil=>simp
 |cons s L ih=>rw[gT,aJ,ih,aC,dU,bX,jD,oR]
theorem lE:∀ (m k:Nat),(fX m k).length=m^k
 |_,0=>rfl
 |m,k+1=>by show((fX m k).flatMap _).length=_;rw[jG,lE m k,aJG]
theorem kS:∀ (m k:Nat),∀s∈fX m k,s.length=k
 |_,0,s,h=>by
  have:s=[]:=by simpa[fX] using h
  subst this;rfl
 |m,k+1,s,h=>by obtain⟨t,ht,hs⟩:=eV.mp h;obtain⟨w,_,rfl⟩:=cH.mp hs;rw[aJ,kS m k t ht];rfl
theorem oA:∀p∈cI,∀k,k<p.2.toNat->((2^p.1.toNat)^k)*2^p.1.toNat<=900:=by decide+kernel
noncomputable def gW(p:Int×Int)(L:List SK)(row:List Nat):List (List Int):=(fX (2^p.1.toNat) p.2.toNat).map λws=>fE p L row ws
def aDC:List D->R->Prop:=λds r=>∃p L row,p∈cI/\hX p L/\(∀t∈row,t<L.length)/\ds=[bR p,.lst<|L.map skD,.tup<|bB row]/\r=.val (.tup<|(gW p L row).map bH)
theorem aCA(p:Int×Int)(L:List SK)(row:List Nat):(gW p L row).length=(fX (2^p.1.toNat) p.2.toNat).length:=aC _
theorem aAP{p:Int×Int}(hp:p∈cI):(fX (2^p.1.toNat) p.2.toNat).length<=64:=by
 have:∀p∈cI,(2^p.1.toNat)^p.2.toNat<=64:=by decide+kernel
 rw[lE];exact this p hp
theorem aCt{L:List (List Int)}(h:d∈L.map bH):∃ws∈L,d=bH ws:=by obtain⟨ws,hw,rfl⟩:=cH.mp h;exact⟨ws,hw,rfl⟩
theorem aCV{p:Int×Int}(hp:p∈cI){L:List SK}(S:hX p L){row:List Nat}(h:∀t∈row,t<L.length):∀ws∈gW p L row,Fil p ws:=λws hw=>by obtain⟨v,hv,rfl⟩:=cH.mp hw;exact iY S row v h<|oY hp hv
noncomputable def zB:D->List Int
 |.tup ds=>ds.map λd=>match d with | .int i=>i|_=>0
 |_=>[]
theorem qA(ws:List Int):zB (bH ws)=ws:=by
 show(ws.map D.int).map _=ws;rw[bU]
 induction ws with
 |nil=>rfl
 |cons w ws ih=>rw[bY,ih];rfl
noncomputable def isN:D->Bool
 |.non=>true
 |_=>false
theorem uB(h:Rep K H d v):decide (v=.non)=isN d:=by
 cases d with
 |non=>simp only[Rep] at h;subst h;rfl
 |bl=>simp only[Rep] at h;subst h;rfl
 |int=>simp only[Rep] at h;subst h;rfl
 |str=>simp only[Rep] at h;subst h;rfl
 |tup=>simp only[Rep] at h;obtain⟨a,xs,rfl,_⟩:=h;rfl
 |lst=>simp only[Rep] at h;obtain⟨a,xs,rfl,_⟩:=h;rfl
 |dic=>simp only[Rep] at h;obtain⟨a,rfl,_⟩:=h;rfl
 |dki=>simp only[Rep] at h;obtain⟨a,xs,rfl,_⟩:=h;rfl
 |any=>simp only[Rep] at h;obtain⟨⟨a,rfl⟩,_⟩:=h;rfl
 |scr=>simp only[Rep] at h;obtain⟨a,rfl,_⟩:=h;rfl
theorem aAc(ha:PEd X sd a (.val d))(hb:PEd X sd b (.val .non)):PTd X sd (.Compare a [.Is] [b] pos) (isN d):=
 gD aDu ha hb trivial (eD _) λσ F H v u Q S q1 q2 k=>by simp only[ResOk,Rep] at q2;have q1:Rep _ _ _ _:=q1;exact⟨q2,by rw[uB q1];exact k F H S<|Same.refl _⟩
theorem xA(ha:PEd X sd a (.val d))(hb:PEd X sd b (.val .non)):PTd X sd (.Compare a [.IsNot] [b] pos) (!isN d):=
 gD aEQ ha hb trivial (eD _) λσ F H v u Q S q1 q2 k=>by simp only[ResOk,Rep] at q2;have q1:Rep _ _ _ _:=q1;exact⟨q2,by rw[uB q1];exact k F H S<|Same.refl _⟩
theorem aGB(ha:PEd X sd a (.val d))(hb:PEd X sd b (.val .non)):PEd X sd (.Compare a [.Is] [b] pos) (.val (.bl<|isN d)):=
 vA aDu ha hb trivial (eD _) λσ F H v u Q S q1 q2 k=>by simp only[ResOk,Rep] at q2;have q1:Rep _ _ _ _:=q1;exact⟨q2,by rw[uB q1];exact k F H S<|Same.refl _⟩
structure FunD(K:aB)(x qual:Str)(st:BG)(f:BC)(fd:AK):Prop where
 ex:∃ (oc:BA) (od:Option BC) (T:BC) (kV doc pm:BA) (an:Option BC) (cdv ct:BA) (osl:Array (Option BA)) (tc:BA) (td:Option BC) (n:Nat) (tsl:Array (Option BA)),
  fd=bW x qual (dN st) (cQ st) (aT st) (.ref T) kV doc pm an cdv ct/\K.lookup f=some ⟨oc,od,.func fd,osl⟩/\dL K cdv qual=true/\K.lookup T=some ⟨tc,td,.seq #[.none] n,tsl⟩
 kp:bZ K (.ref f)=true
theorem vE{p p2 q2:Pos}{n:Nat}(hg:Gl X "list")(hm:X.mg "list"=none)(hg2:Gl X "range")(hm2:X.mg "range"=none)(ha:PEd X sd e (.val<|.int (n:Int)))(h1:n<=10000)
  (hc:X.calm=true:=by rfl) (hst:AC [e] X.env=(false,eval e X.env)::AC [] X.env:=by rfl) (hst2:AC [.Call (.Name "range" p2) [e] [] q2] X.env=(false,eval (.Call (.Name "range" p2) [e] [] q2) X.env)::AC [] X.env:=by rfl):
  PEd X sd (.Call (.Name "list" p) [.Call (.Name "range" p2) [e] [] q2] [] pos) (.own<|dO 0 n):=.mk λσ F H S pins s I=>by
 refine AW<|kP I hg hm PyProof.Rows.boot_list ?_;refine PyProof.Rows.callWith_type1 ?_ hst2 rfl;rw[hst2];refine Calls.spliced_cons (AW<|kP I hg2 hm2 boot_range ?_);refine PyProof.Rows.callWith_type1 (thn ((gF (te:=wE X e) dX pa_nil hst) q2 pins s σ H (λus H1=>∃v F1,us=[v]/\StF X.K X.B₀ F1 H1 σ sd/\Same F F1/\ResOk X.K F1 H1 sd (.val<|.int (n:Int)) v) I<|(ha σ F H S).imp λv H1 ⟨F1,S1,s1,q1⟩=>⟨v,F1,rfl,S1,s1,q1⟩) λus s1 hus=> ?_) hst rfl;obtain⟨ws,H1,I1,rv,v,F1,rfl,S1,sF,q1⟩:=hus;obtain⟨u,rfl,ru⟩:=sZ rv;simp only[ResOk,Rep] at q1;subst q1;obtain⟨t,rfl⟩:=ru;refine call_range_1<|Calls.spliced_nil ?_;have hr:IsRange (s1.heap.push {cls:=.type "range",data:=.fields #[.int 0 s1.toks,.int (n:Int) t,.int 1<|s1.toks+1]}) s1.heap.objs.size 0 (n:Int) 1 s1.toks t (s1.toks+1):=IsRange.new ..
 have sz:Builtin.Range.rangeSize 0 (n:Int) 1=(n:Int):=by
  rw[rangeSize_one]
  split<;>omega
 refine call_list_range (I1.ok.hd hc) hr (small_one (by omega) (by omega) (by omega)<|by omega) sz (by omega) λh' tk acc c' kp g it=> ?_
 have kp2:∀b o,s1.heap.get? b=some o->h'.get? b=some o:=λb o g=>kp b o<|aH _ g
 have le:s1.heap.objs.size<=(s1.heap.push {cls:=.type "range",data:=.fields #[.int 0 s1.toks,.int (n:Int) t,.int 1<|s1.toks+1]}).objs.size:=by rw[size_push'];exact gA _
 generalize (s1.heap.push {cls:=.type "range",data:=.fields #[.int 0 s1.toks,.int (n:Int) t,.int 1<|s1.toks+1]}).objs.size=dd at g le;have hD:H1 dd=none:=I1.hok.fresh le;have ln:acc.toList.length=n:=by rw[eU];exact it.1
 have vl:Vals ((bC n).map λ(k:Nat)=>V.int<|0+(k:Int)) acc.toList:=by
  have g:∀ (l:List BA) (f:Nat->Int),(∀ (j:Nat) (v:BA),l[j]? =some v->∃t,v=.int (f j) t)->Vals ((bC l.length).map λ(k:Nat)=>V.int<|f k) l:=λl=>by
   induction l with
   |nil=>intro f _;exact .nil
   |cons x l ih=>intro f h;obtain⟨t,e⟩:=h 0 x rfl;rw[bX,List.range_succ_eq_map,bY,bU];exact .cons ⟨t,e⟩ (ih (λk=>f<|k+1) λj v hv=>h (j+1) v<|by simpa using hv)
  have:=g acc.toList (λk=>0+(k:Int)) λj v hv=>by obtain⟨t,e⟩:=it.2 j v (by rw[<-Array.getElem?_toList];exact hv);exact⟨t,by rw[e];congr 1;omega⟩
  rw[ln] at this;exact this
 have I3:Inv X pins σ (upd H1 dd<|.lst ((bC n).map λ(k:Nat)=>V.int<|0+(k:Int))) {s1 with heap:=h',toks:=tk}:=
  I1.laid kp2 le ⟨by rw[aC,dU];exact eE<|fP h1,acc.toList,c',vl,by simpa using g⟩
 obtain⟨S4,fp,no⟩:=S1.layO (xs:=(bC n).map λ(k:Nat)=>V.int<|0+(k:Int)) hD;refine⟨.ref dd,_,I3,rfl,F1,S4,sF,dd,_,rfl,fp,bA, ?_,no⟩
 have gg:∀ks:List Nat,RepL X.K F1 (ks.map λ(k:Nat)=>D.int<|0+(k:Int)) (ks.map λ(k:Nat)=>V.int<|0+(k:Int)):=λks=>by
  induction ks with
  |nil=>exact .nil
  |cons k ks ih=>exact .cons (by simp only[Rep]) ih
 exact gg _
theorem aIO{u d n c:Nat}(h:u+n<c)(hd:d+1<=n):u+d+1<c:=by omega
noncomputable def eY(p:Int×Int):List (List Int):=fX (2^p.1.toNat) p.2.toNat
noncomputable def unl(bs:List Nat)(a b:List Int):Bool:=bs.any λj=> !decide (a.getD j 0=b.getD j 0)
noncomputable def unK(bs:List Nat)(T U:List (List Int))(k:Nat):Bool:=unl bs (T.getD k [])<|U.getD k []
noncomputable def gX(bs:List Nat)(A T U:List (List Int)):Option (List Int):=((bC A.length).find? λk=>unK bs T U k).map λk=>A.getD k []
noncomputable def aGh:Option (List Int)->D
 |none=>.non
 |some ws=>bH ws
noncomputable def lkD:Option (List Nat)->D
 |none=>.non
 |some l=>.lst<|bB l
noncomputable def bxQ(n:Nat):Option (List Nat)->List Nat
 |none=>bC n
 |some l=>l
structure aEp(p:Int×Int)(T:List (List Int)):Prop where
 len:T.length=(eY p).length
 fil:∀ws∈T,Fil p ws
def qN(p:Int×Int)(o:Option (List Nat)):Prop:=∀l,o=some l->l.length<=100/\∀b∈l,b<p.2.toNat
theorem aIY{p:Int×Int}(hp:p∈cI){o:Option (List Nat)}(h:qN p o):(bxQ p.2.toNat o).length<=100/\∀b∈bxQ p.2.toNat o,b<p.2.toNat:=by
 cases o with
 |none=>obtain⟨h1,h2,h3,h4,h5⟩:=nH p hp;exact⟨by show(bC _).length<=100;rw[dU];omega,λb hb=>cR.mp hb⟩
 |some l=>exact h l rfl
theorem oX(bs:List Nat)(a b:List Int):(!decide ((bs.map λj=>a.getD j 0)=bs.map λj=>b.getD j 0))=unl bs a b:=by
 induction bs with
 |nil=>rfl
 |cons j bs ih=>
  show _=(!decide (a.getD j 0=b.getD j 0)||unl bs a b);rw[<-ih,bY,bY]
  by_cases h:a.getD j 0=b.getD j 0
  ·rw[h];simp
  ·simp[h]
theorem aBS(bs:List Nat)(a:List Int):unl bs a a=false:=by rw[<-oX];simp
theorem yJ{bs:List Nat}{A T U:List (List Int)}{k:Nat}(hk:k<A.length)(h:unK bs T U k=true)(hn:∀j,j<k->unK bs T U j=false):gX bs A T U=some (A.getD k []):=by
 unfold gX
 have:(bC A.length).find? (λk=>unK bs T U k)=some k:=by rw[vH];exact⟨h,cR.mpr hk,λj hj=>by rw[hn j hj];rfl⟩
 rw[this];rfl
theorem pU{bs:List Nat}{A T U:List (List Int)}(hn:∀j,j<A.length->unK bs T U j=false):gX bs A T U=none:=by unfold gX;rw[nO.mpr λk hk=>by rw[hn k<|cR.mp hk];simp];rfl
def aEh:List D->R->Prop:=λds r=>∃p o,p∈cI/\ds=[bR p,lkD o]/\r=.own (bB<|bxQ p.2.toNat o)
def xJ:List D->R->Prop:=λds r=>∃ (bs:List Nat) (ws:List Int),bs.length<=100/\(∀b∈bs,b<ws.length)/\ds=[.lst<|bB bs,bH ws]/\r=.own ((bs.map λj=>ws.getD j 0).map D.int)
def aDL:List D->R->Prop:=λds r=>∃p T U o,p∈cI/\aEp p T/\aEp p U/\qN p o/\ds=[bR p,.tup<|T.map bH,.tup<|U.map bH,lkD o]/\r=.val (aGh<|gX (bxQ p.2.toNat o) (eY p) T U)
theorem sI(n:Nat):dO 0 n=bB (bC n):=by
 unfold dO bB;refine dZ λk _=> ?_
 rw[kY]
theorem aAX(d:D)(ds:List D)(p1:pl d=true)(p2:plL ds=true)(hu:X.A.units+1+jS ds<AX):OpR X (AM .NotIn) (λx y H Q=>Rep X.K H (.lst ds) y/\Rep X.K H d x/\Q (.bl<|!ds.any λz=>deq z d) H):=by
 intro pins s σ H x y v u Q I rx ry h;obtain⟨hl,hd,k⟩:=h;obtain⟨a,xs,its,rfl,rfl,rl,rv,ht⟩:=hW I.hok hl ry
 have hat:∀ (j:Nat) (w:BA),its[j]? =some w->∃z v,ds[j]? =some z/\xs[j]? =some v/\Rep X.K H z v/\RelV v w:=λj w hw=>by
  have hj:j<its.length:=(bE.mp hw).1;have hx:j<xs.length:=by rw[Vals.length rv];exact hj
  have hd:j<ds.length:=by rw[<-rl.len];exact hx
  obtain⟨v,hv,rz⟩:=rl.get (i:=j) (d:=ds[j]) (by simp[hd])
  exact ⟨ds[j],v,by simp [hd],hv,rz,by
   have:=rv.get hv;obtain⟨w',hw',r⟩:=this;rw[hw] at hw';cases hw'
   exact r⟩
 have dc:=λw:BA=>Classical.propDecidable (∃ (j:Nat) (z:D),its[j]? =some w/\ds[j]? =some z/\deq z d=true)
 refine SeqAt.notIn_listAt (λw=> @decide _<|dc w) ht (λw hw=> ?_) ⟨.bl _,H,I,rfl, ?_⟩
 ·by_cases q:∃ (j:Nat) (z:D),its[j]? =some w/\ds[j]? =some z/\deq z d=true
  ·obtain⟨j,z,e1,e2,e3⟩:=q;obtain⟨z',v,f1,f2,f3,f4⟩:=hat j w e1;rw[e2] at f1;cases f1;have: @decide _ (dc w)=true:=by rw[decide_eq_true_eq];exact⟨j,z,e1,e2,e3⟩
   rw[this,<-e3];exact zO I.hok z (uT p2 e2) p1 f3 hd f4 rx (by have:=qM e2;show X.A.units+1+dep z<AX;omega)
  ·have hw':w∈its:=by simpa using hw
   obtain⟨j,hj,rfl⟩:=mF hw';obtain⟨z,v,f1,f2,f3,f4⟩:=hat j its[j] (by simp[hj])
   have e3:deq z d=false:=by
    cases h:deq z d with
    |false=>rfl
    |true=>exact(q ⟨j,z,by simp[hj],f1,h⟩).elim
   have: @decide _ (dc its[j])=false:=by rw[decide_eq_false_iff_not];exact q
   rw[this,<-e3];exact zO I.hok z (uT p2 f1) p1 f3 hd f4 rx (by have:=qM f1;show X.A.units+1+dep z<AX;omega)
 ·have e:its.toArray.any (λw=> @decide _<|dc w)=ds.any λz=>deq z d:=by
   rw[fD,List.any_toArray,aFL,aFL]
   constructor
   ·rintro⟨w,hw,q⟩;rw[decide_eq_true_eq] at q;obtain⟨j,z,e1,e2,e3⟩:=q;exact⟨z,dE e2,e3⟩
   ·rintro⟨z,hz,e3⟩;obtain⟨j,hj,rfl⟩:=mF hz;have hi:j<its.length:=by rw[<-Vals.length rv,rl.len];exact hj
    exact⟨its[j],gC hi,by rw[decide_eq_true_eq];exact⟨j,ds[j],by simp[hi],by simp[hj],e3⟩⟩
  rw[e];exact k
theorem aCQ(ha:PEd X sd a (.val d))(hb:PEd X sd b (.val<|.lst ds))(p1:pl d=true)(p2:plL ds=true)(hu:X.A.units+1+jS ds<AX)(hk:AR .NotIn b=false:=by with_unfolding_all rfl):PTd X sd (.Compare a [.NotIn] [b] pos) (!ds.any λz=>deq z d):=
 gD (aAX d ds p1 p2 hu) ha hb trivial hk λσ F H x u Q S q1 q2 k=>⟨Rep.mono S.sub q2,Rep.mono S.sub q1,k F H S<|Same.refl _⟩
variable {es:List D}
theorem RepL.atI{i:Int}(r:RepL K H ds xs)(h:L2.atI ds i=some d):∃v,L2.atI xs i=some v/\Rep K H d v:=by
 unfold L2.atI at h ⊢;rw[r.len];cases e:ixN ds.length i with
 |none=>rw[e] at h;cases h
 |some j=>rw[e] at h;exact r.get h
theorem nA{i:Int}(ha:PEd X sd a (.bor ds))(hb:PEd X sd b (.val<|.int i))(hd:atI ds i=some d)(hs:jE b):PEd X sd (.Subscript a b pos) (.val d):=.mk λσ F H S=>
 (aBO vD dX dX hs).to ((ha σ F H S).imp fun v H1 ⟨F1,S1,s1,q1⟩=>(hb σ F1 H1 S1).imp fun u H2 ⟨F2,S2,s2,q2⟩=>by
  obtain⟨p,xs,e1,hp,rl,_⟩:=ResOk.keep (r:=.bor ds) trivial q1 S2 s2;simp only[ResOk,Rep] at q2;obtain⟨w,hw,rw'⟩:=rl.atI hd
  exact⟨p,xs,i,w,e1,q2,.of hp,hw,F2,S2,s1.trans s2,rw'⟩)
variable {ls:List BC}{nss:List (List Int)}
theorem StF.reX{z z':Slot}{o:Option V}(S:StF K H₀ F H σ sd)(hs:sd[i]? =some z)(ho:σ[i]? =some o)(keep:∀b ob,b∉fV z->H b=some ob->H' b=some ob)(sm:Smp H')(q:gK K F H' z' o)(nd:(fV z').Nodup)(no:∀a∈fV z',a∈fV z\/a∉cA sd):StF K H₀ F H' σ (sd.set i z'):=by
 have S0:=S.le<|iL sd i;have mz:∀a∈fV z,a∈cA sd:=λa ha=>eV.mpr ⟨z,dE hs,ha⟩
 refine⟨S.base,λb u e=> ?_,sm, ?_, ?_⟩
 ·refine keep b u (λhb=> ?_)<|S.sub _ _ e;have:=(S.slots.owns<|mz b hb).1;rw[e] at this;cases this
 ·have q1:SlotsOk K F H' (sd.set i .un) σ:=S0.slots.mono (Same.refl _) λa ha=>⟨(S0.slots.owns ha).1,λob e=>keep a ob (λhb=>kE S.nd hs hb ha) e⟩
  have q2:=q1.set (z:=z') (o:=o) q i;rw[lA,mH ho] at q2;exact q2
 ·have:=iM (z:=z') i S0.nd (fun a ha=>by
   rcases no a ha with h|h
   ·exact .inl<|kE S.nd hs h
   ·exact .inl λhm=>h ((iL sd i).own.subset hm)) nd
  rw[lA] at this;exact this.1
noncomputable def exO(l:BC)(o:BF):HO:=.ext λh=>h.get? l=some o
theorem yP{h:BE}{o:BF}(g:h.get? l=some o):ObjOk P w H h l (exO l o):=⟨g,⟨o,g⟩,λ_ _ q k=>k _ q⟩
variable {ks:List (List Key)}
theorem xN{o:BF}(h:Smp H)(a:BC):Smp (upd H a<|exO a o):=λb u e=>by
 by_cases z:b=a
 ·subst z;rw[bA] at e;cases e;trivial
 ·rw[aX z] at e;exact h _ _ e
section
open PySem.SeqAt
open PySem.AutoSeq1 (wpAny_loadPart')
open PySem.MeetsSeq PySem.MeetsSeq2 PySem.MeetsSeq3
end
theorem zE(n:Nat):Builtin.Slice.sliceAdjust none none (-1) (n:Int)=((n:Int)-1, -1):=by unfold Builtin.Slice.sliceAdjust;simp
theorem zR(n:Nat):Builtin.Slice.slicePlaces ((n:Int)-1) (-1) (-1)=n:=by
 unfold Builtin.Slice.slicePlaces;simp
 split<;>omega
theorem aCN(xs:Array BA):((bC xs.size).filterMap λ(m:Nat)=>xs[(((xs.size:Nat):Int)-1+(m:Int)*(-1)).toNat]?).toArray=xs.toList.reverse.toArray:=by
 congr 1;apply List.ext_getElem?;intro i
 have e:(bC xs.size).filterMap (λ(m:Nat)=>xs[(((xs.size:Nat):Int)-1+(m:Int)*(-1)).toNat]?)=(bC xs.size).map λm=>xs.toList.getD (xs.size-1-m) Value.none:=by
  have g:∀l:List Nat,(∀m∈l,m<xs.size)->l.filterMap (λ(m:Nat)=>xs[(((xs.size:Nat):Int)-1+(m:Int)*(-1)).toNat]?)=l.map λm=>xs.toList.getD (xs.size-1-m) Value.none:=λl=>by
   induction l with
   |nil=>intro _;rfl
   |cons a l ih=>
    intro h;have ha:=h a cG;have en:(((xs.size:Nat):Int)-1+(a:Int)*(-1)).toNat=xs.size-1-a:=by omega
    have lt:xs.size-1-a<xs.size:=by omega
    rw[dY,en,Array.getElem?_eq_getElem lt,bY,ih λm hm=>h m<|bV _ hm];simp[bQ,lt]
  exact g _ λm hm=>cR.mp hm
 rw[e,bK]
 by_cases hi:i<xs.size
 ·rw[mE hi,List.getElem?_reverse<|by simpa using hi];have lt:xs.size-1-i<xs.size:=by omega
  simp[bQ,lt]
 ·rw[fK (by rw[dU];omega),fK<|by rw[jA,eU];omega];rfl
section
variable {prog:AG}{w:AI}{A:BD}{E:BA->AA->Prop}{s:AA}
open HT
theorem nQ{sl:BC}{t:Tok}{n:Nat}{Q:Int×Int×Nat->AA->Prop}(hs:s.heap.IsSliceOf sl .none .none (.int (-1) t))
  (h:Q ((n:Int)-1, -1,n) s):AE (AF prog w) A (Builtin.Slice.sliceApplied (.ref sl)<|pure (n:Int)) Q E s:=by
 obtain⟨os,hos,hcs,hds⟩:=id hs;unfold Builtin.Slice.sliceApplied Builtin.Slice.sliceFields;refine AB<|AB (Ac hos hds (x:=.none) rfl<|AB (Ac hos hds (x:=.none) rfl<|AB (Ac hos hds (x:=.int (-1) t) rfl<|AD ?_)));refine AB<|slicePart_int ?_;show AE _ _ (if((-1:Int)==0)=true then _ else _) _ _ s;rw[if_neg<|by decide];refine AB<|slicePart_none (AB<|slicePart_none (AB<|AD ?_));show AE _ _ (match Builtin.Slice.sliceAdjust none none (-1) (n:Int) with|(lo,hi)=>pure (lo,(-1:Int),Builtin.Slice.slicePlaces lo hi (-1))) _ _ s;rw[zE n];show AE _ _ (pure ((n:Int)-1,(-1:Int),Builtin.Slice.slicePlaces ((n:Int)-1) (-1) (-1))) _ _ s;rw[zR];exact AD h
theorem mZ{t sl:BC}{items:Array BA}{tk:Tok}{Q:BA->AA->Prop}(ht:IsTup s.heap t items)(hs:s.heap.IsSliceOf sl .none .none (.int (-1) tk))
  (h:Q (.ref s.heap.objs.size) {s with heap:=s.heap.push {cls:=.type "tuple",data:=.seq items.toList.reverse.toArray}})
  (hsz:items.size<=AH):AE (AF prog w) A (getItem (.ref t)<|.ref sl) Q E s:=by
 have htake:sizeOk (.seq items.toList.reverse.toArray):=by show items.toList.reverse.toArray.size<=AH;rw[aG,jA,eU];omega
 obtain⟨os,hos,hcs,hds⟩:=id hs;have hTs:s.TypeIs (.ref sl) "slice":=⟨os,hos,hcs⟩;unfold getItem
 try with_reducible refine AQ ?_
 first|refine AB (AD ?_)|skip
 refine AB<|wpAny_sequenceKey ht.typeIs (by decide) ?_
 refine AB (Ak (name:=Str.ofString "__getitem__") ht.typeIs PyProof.Rows.slot_tuple_getitem
  (wpAny_call_entry PyProof.Rows.slot_tuple_getitem ht.typeIs entry_tuple_getitem ?_ (args_tuple_getitem _ _)))
 show AE _ _ (Builtin.Tuple.tupleItemsOf (.ref t)>>=_) _ _ s;refine AB<|tupleItemsOf_ ht ?_;refine AB<|wpAny_typeOf hTs ?_;rw[if_pos<|by decide];refine AB<|nQ hs ?_;have hno:¬ (((((items.size:Nat):Int)-1)==0&&(-1:Int)==1&&items.size==items.size)=true):=by simp
 show AE _ _ (if((((items.size:Nat):Int)-1)==0&&(-1:Int)==1&&items.size==items.size)=true then _ else _) _ _ s;rw[if_neg hno,aCN]
 first
  |exact AB (m:=Builtin.Tuple.tupleExact _) (AL (AD ⟨_,rfl,AD h⟩) htake)
  |exact AB (m:=Builtin.Tuple.tupleExact _) (AL (AB (AD<|AD ⟨_,rfl,AD h⟩)) htake)
  |exact AB (AB (m:=Builtin.Tuple.tupleExact _)<|AL (AD<|AD ⟨_,rfl,AD h⟩) htake)
  |exact AB (AB (m:=Builtin.Tuple.tupleExact _)<|AL (AD ⟨_,rfl,AD h⟩) htake)
end
theorem aCU{us:List BA}(r:Vals xs us):Vals xs.reverse us.reverse:=by
 have g:∀ {xs:List V}{us:List BA}{ys:List V}{vs:List BA},Vals xs us->Vals ys vs->Vals (xs.reverseAux ys) (us.reverseAux vs):=λ{xs us ys vs} r=>by
  induction r generalizing ys vs with
  |nil=>intro h;exact h
  |cons a _ ih=>intro h;exact ih<|.cons a h
 exact g r .nil
theorem aAJ{K:aB}{H:Hp}:∀ {ds:List D}{xs:List V},RepL K H ds xs->RepL K H ds.reverse xs.reverse
 |[],xs,r=>by simp only[RepL] at r;subst r;exact .nil
 |d::ds,xs,r=>by obtain⟨x,xs,rfl,a,r⟩:=r.uncons;rw[aEi,aEi];exact(aAJ r).app<|.one a
variable {es:List Expr}
theorem aCg{te:TE}{tl th ts:TO}{lo hi:Option Expr}{k:Expr}{p2:Pos}(he:PE X e te)(hl:PO X lo tl)(hu:PO X hi th)(hs:PO X (some k) ts):PE X (.Subscript e (.Slice lo hi (some k) p2) pos) (λσ H Q=>te σ H λx H1=>tl σ H1 λl H2=>th σ H2 λu H3=>ts σ H3 λz H4=>∃a xs,x=.ref a/\SqT X.K H4 a xs/\l=none/\u=none/\z=some (-1)/\∀p,H4 p=none->Q (.ref p) (upd H4 p<|.tup xs.reverse)):=by
 intro pins s σ H Q I h;refine Subscript_<|thn (he pins s σ H _ I h) λv s1 ⟨x,H1,I1,r1,q1⟩=> ?_;refine wpAny_Slice<|thn (hl pins s1 σ H1 _ I1 q1) λvl s2 ⟨l,H2,I2,pl,q2⟩=>thn (hu pins s2 σ H2 _ I2 q2) λvu s3 ⟨u,H3,I3,pu,q3⟩=>thn (hs pins s3 σ H3 _ I3 q3) λvk s4 ⟨z,H4,I4,pk,q4⟩=> ?_;obtain⟨a,xs,rfl,hx,rfl,rfl,rfl,q⟩:=q4;have I5:Inv X pins σ H4 {s4 with heap:=s4.heap.push {cls:=.type "slice",data:=.fields #[vl,vu,vk]}}:=I4.kept (t':=s4.toks) λb ob q=>aH _ q
 cases r1;obtain⟨its,r,ht,hz⟩:=I5.tuple hx;have hlen:=r.length;have hsl:(s4.heap.push {cls:=.type "slice",data:=.fields #[vl,vu,vk]}).IsSliceOf s4.heap.objs.size vl vu vk:=Heap.IsSliceOf.new ..;cases pl;cases pu;cases pk with
 |int _ tk=>
 have hg:AE (AF X.prog X.w) X.A (getItem (.ref a)<|.ref s4.heap.objs.size) (EP X pins σ Q) X.xe {s4 with heap:=s4.heap.push {cls:=.type "slice",data:=.fields #[.none,.none,.int (-1) tk]}}:=by refine mZ ht hsl ?_ (by rw[aG];omega);refine⟨.ref _,_,I5.laid (t':=s4.toks) (o:=.tup xs.reverse) (λb ob q=>aH _ q) (aR _) ?_,rfl,q _ (I5.hok.fresh<|aR _)⟩;exact⟨by rw[jA];exact hz,_,aCU r,IsTupD.new _ _⟩
 show AE (AF X.prog X.w) X.A (subscriptTail e (.Slice lo hi (some k) p2) (.ref a)<|.ref s4.heap.objs.size) (EP X pins σ Q) X.xe {s4 with heap:=s4.heap.push {cls:=.type "slice",data:=.fields #[.none,.none,.int (-1) tk]}};exact tail_any (ops:=[.ref a,.ref s4.heap.objs.size]) ht.typeIs slot_tuple_getitem.lookup hg (by with_unfolding_all rfl)
theorem aFn{k:Expr}{p2:Pos}(ha:PEd X sd a (.val<|.tup ds))(hk:PEd X sd k (.val<|.int (-1))):PEd X sd (.Subscript a (.Slice none none (some k) p2) pos) (.val<|.tup ds.reverse):=.mk λσ F H S=>by obtain⟨tl,pl,kl⟩:=jH (X:=X) (sd:=sd) (eo:=none) (o:=none) trivial;obtain⟨tk,pk,kk⟩:=jH (X:=X) (sd:=sd) (eo:=some k) (o:=some (-1)) hk;refine(aCg dX pl pl pk).to<|(ha σ F H S).imp λv H1 ⟨F1,S1,s1,q1⟩=>kl σ F1 H1 S1 _ λF2 H2 S2 s2=>kl σ F2 H2 S2 _ λF3 H3 S3 s3=>kk σ F3 H3 S3 _ λF4 H4 S4 s4=> ?_;have q1:=Rep.mono ((s2.trans s3).trans s4) q1;simp only[Rep] at q1;obtain⟨l,xs,rfl,hl',rl⟩:=q1;refine⟨l,xs,rfl,.of<|S4.sub _ _ hl',rfl,rfl,rfl,λp hp=> ?_⟩;obtain⟨S5,s5⟩:=S4.lay (o:=.tup xs.reverse) hp trivial;refine⟨_,S5,(((s1.trans s2).trans s3).trans s4).trans s5, ?_⟩;simp only[ResOk,Rep];exact⟨p,_,rfl,bA,(aAJ rl).mono s5⟩
noncomputable def sY(h:BE)(a:BC):BE:=h.update a λo=>{o with data:=.freed}
noncomputable def rQ(h:BE)(S:List BC):BE:=S.foldl sY h
theorem wD(h:BE){a b:BC}(ne:b≠a):(sY h a).get? b=h.get? b:=cP _ _<|Ne.symm ne
theorem yH(h:BE)(a:BC):(sY h a).get? a=none:=by
 cases h;simp only[sY,Heap.update,Heap.get?,Array.getElem?_modify,if_true]
 split
 ·rfl
 ·rename_i hx;generalize hq:aJd _ _=q at hx ⊢;cases q with
  |none=>rfl
  |some o=>obtain⟨o',h1,h2⟩:=vJ.mp hq;exact(hx _ _ _<|by rw[<-h2]).elim
theorem jP:∀ {S:List BC}{h:BE}{a:BC},a∉S->(rQ h S).get? a=h.get? a
 |[],_,_,_=>rfl
 |b::S,h,a,hn=>by show(rQ (sY h b) S).get? a=_;rw[jP λz=>hn<|bV _ z,wD h (λz:a=b=>hn<|z▸cG)]
theorem uC:∀ {S:List BC}{h:BE}{a:BC},a∈S->(rQ h S).get? a=none
 |b::S,h,a,hm=>by
  show(rQ (sY h b) S).get? a=none
  by_cases hs:a∈S
  ·exact uC hs
  ·have e:a=b:=(cD.mp hm).resolve_right hs;subst e;rw[jP hs,yH]
theorem nG{S:List BC}{h:BE}{a:BC}{o:BF}(q:(rQ h S).get? a=some o):a∉S/\h.get? a=some o:=by
 have hn:a∉S:=λz=>by rw[uC z] at q;cases q
 exact⟨hn,by rw[jP hn] at q;exact q⟩
theorem sA{h base base':BE}:∀ {l:List Env},h.FunFrames base l->(∀b∈l.filterMap (·.frame),base'.get? b=none)->h.FunFrames base' l
 |[],_,_=>trivial
 |env::rest,hl,hb=>by
  obtain⟨hk,⟨L,o,hf,hn,ho,hd⟩,hr⟩:=hl;have e:(env::rest).filterMap (·.frame)=L::rest.filterMap (·.frame):=by rw[dY,hf]
  rw[e] at hb;exact⟨hk,⟨L,o,hf,hb L cG,ho,hd⟩,sA hr λb hm=>hb b<|bV _ hm⟩
theorem pN{h:BE}{a:BC}{o:HO}(x:ObjOk P w H h a o):∃ob,h.get? a=some ob:=by
 cases o with
 |lst xs=>obtain⟨_,_,_,_,e⟩:=x;exact⟨_,e⟩
 |tup xs=>obtain⟨_,_,_,ob,e,_⟩:=x;exact⟨_,e⟩
 |dK kvs=>obtain⟨_,_,_,_,o,_,_,e,_⟩:=x;exact⟨_,e⟩
 |dT kvs=>obtain⟨_,_,_,_,o,_,_,e,_⟩:=x;exact⟨_,e⟩
 |set S n=>obtain⟨o,_,_,_,e,_⟩:=x;exact⟨_,e⟩
 |ins C dx fs=>obtain⟨_,_,_,e,_⟩:=x;exact⟨_,e⟩
 |own y=>obtain⟨_,e⟩:=x;exact⟨_,e⟩
 |xd fs=>obtain⟨_,⟨_,_,_,e,_⟩,_⟩:=x;exact⟨_,e⟩
 |rng lo hi=>obtain⟨_,_,_,e⟩:=x;exact⟨_,e⟩
 |frz ob u=>obtain⟨e,_⟩:=x;exact⟨_,e⟩
 |tbl ps=>exact⟨_,(show h.get? a=some _ from x)⟩
 |met f y=>exact⟨_,(show h.get? a=some _ from x)⟩
 |ext φ=>obtain⟨_,⟨_,e⟩,_⟩:=x;exact⟨_,e⟩
structure Exc(h0 h:BE)(H:Hp)(a T:BC)(cls:BA):Prop where
 free:H a=none
 new:h0.get? a=none
 freeT:H T=none
 newT:h0.get? T=none
 obj:∃oe vs oT ts a0,h.get? a=some oe/\(oe.cls=cls/\vs[0]? =some a0)/\oe.data=.fields vs/\vs[1]? =some (.ref T)/\T≠a/\h.get? T=some oT/\oT.data=.fields ts/\ts[3]? =some .none
noncomputable def CX1(P:AG)(w:AI)(cls:BA):CXT:=λouter H s E e s'=>∃a T H',e=.ref a/\s'.os=s.os/\AllBare s'.gens/\Un (frs outer) [] H H' s.heap s'.heap/\HOk P w H' s'.heap/\Exc s.heap s'.heap H' a T cls/\E (.ref a) (some a) H'
variable {h':BE}{a T:BC}{cls a0:BA}{S:List BC}{E:XK}
theorem aEH(I:Inv X pins σ H s)(hex:X.ex=[])(hst:X.stack=X.env::X.outer/\X.env.frame=some X.env.locals)(hS:∀b∈S,H b=none/\X.s₀.heap.get? b=none)(ha:a∈S)(L:Heap.LeftW (rQ s.heap<|frs X.stack++S) X.stack a cls a0 s.heap h')(hE:E (.ref a) (some a) H):
  CX1 X.prog X.w cls X.outer X.H₀ X.s₀ E (.ref a) {s with heap:=h'}:=by
 obtain⟨k1,k2,⟨oe,vs,T,oT,ts,he,hc,hd,h1,hnT,hTe,hT,hdT,h3⟩,k4⟩:=L
 have fr:frs X.stack=X.env.locals::frs X.outer:=by unfold frs;rw[hst.1,dY,hst.2]
 have out:∀b o,X.s₀.heap.get? b=some o->b∉frs X.outer->b∉frs X.stack++S:=λb o q hb hm=>by
  rcases bF.mp hm with hm|hm
  ·rw[fr] at hm
   rcases cD.mp hm with e|hm
   ·have:=I.ok.above;have lt:=aO q;rw[e] at lt;exact absurd lt<|oF.mpr this
   ·exact hb hm
  ·rw[(hS b hm).2] at q;cases q
 have stay:∀b o,b∉frs X.stack++S->s.heap.get? b=some o->h'.get? b=some o:=λb o hb q=>k1 b o (by rw[jP hb];exact q)
 have nex:∀b,b∉X.ex:=λb hb=>by rw[hex] at hb;cases hb
 have slot:∀b o,X.s₀.heap.get? b=some o->X.H₀ b=none->b∈frs X.outer->∃sl,h'.get? b=some {o with slots:=sl}:=λb o q n hb=>by obtain⟨sl,q1⟩:=I.base.slot b o q n hb<|nex b;obtain⟨_,o',q2,nf⟩:=I.ok.funs.mem hb;rw[q] at q2;cases q2;obtain⟨sl2,q3⟩:=k4 b _ q1 nf;exact⟨sl2,q3⟩
 have tr:∀b u,H b=some u->b∉frs X.stack++S:=λb u e hm=>by
  rcases bF.mp hm with hm|hm
  ·rw[I.env0.frf b hm] at e;cases e
  ·rw[(hS b hm).1] at e;cases e
 have Tn:s.heap.get? T=none\/T∈S:=by
  by_cases hm:T∈frs X.stack++S
  ·rcases bF.mp hm with hm|hm
   ·obtain⟨_,o,q,nf⟩:=k2.mem hm;rw[hT] at q;cases q;exact(nf ts hdT).elim
   ·exact .inr hm
  ·rw[jP hm] at hnT;exact .inl hnT
 refine⟨a,T,H,rfl,I.os,I.bare,⟨λb o q n hb _=>stay b o (out b o q hb) (I.base.keep b o q n hb<|nex b),λb o q n hb _=>slot b o q n hb,λb o q n _=>I.base.free b o q n<|nex b,λb o q _=> ?_,I.base.tups,I.base.frzs,I.base.tbls⟩,λb u e=> ?_,⟨(hS a ha).1,(hS a ha).2, ?_, ?_,oe,vs,oT,ts,a0,he,hc,hd,h1,hTe,hT,hdT,h3⟩,hE⟩
 ·by_cases hb:b∈frs X.outer
  ·obtain⟨sl,q2⟩:=slot b o q (I.ok.frf b hb) hb;exact⟨_,q2⟩
  ·obtain⟨o1,q1⟩:=I.base.there b o q<|nex b;exact⟨o1,stay b o1 (out b o q hb) q1⟩
 ·refine(I.hok b u e).stay (λc v hc q=>stay c v ?_ q) (λ_ q=>q) λ_ _ q=>q
  rcases hc with z|z
  ·rw[z];exact tr b u e
  ·exact tr c _ z
 ·rcases Tn with q|q
  ·cases g:H T with
   |none=>rfl
   |some u=>obtain⟨ob,q2⟩:=pN<|I.hok T u g;rw[q] at q2;cases q2
  ·exact(hS T q).1
 ·rcases Tn with q|q
  ·cases g:X.s₀.heap.get? T with
   |none=>rfl
   |some o=>obtain⟨o1,q1⟩:=I.base.there T o g<|nex T;rw[q] at q1;cases q1
  ·exact(hS T q).2
end DL
namespace DL
open PySem PySem.Spec PySem.Calls PySem.W PyProof.Rows Builtin Builtin.Getset_descriptor Builtin.ObjectAttr
variable {prog:AG}{w:AI}{A:BD}{E:BA->AA->Prop}{h:BE}{g:Array GenState}{d:Drawn}{t:Nat}{os:OsState}{a C:BC}{K:Frag}
def ExA(a C:BC)(h:BE):Prop:=∃o,h.get? a=some o/\o.cls=.ref C
theorem ExA.type{M:Model}(I:ExA a C h):Looks M h (typeOf<|.ref a) (.ref C):=by obtain⟨o,h1,h2⟩:=I;exact h2▸(Looks.ld h1).andThen .now
theorem aGI{tp:BA}{R:Result->AA->Prop}{s:AA}(X:K.In s.heap)(I:ExA a C s.heap)(hm:mroIn K C (.type "object")=some true)
  (h:R (.ok (.ret<|.ref C)) s):codeAny (AF prog w) A (.call (.builtin "getset_descriptor.__get__") ⟨[.builtin "object.__class__",.ref a,tp],[]⟩) R s:=by
 obtain⟨hh,g,dr,t,os⟩:=s;have L0:=I.type (M:=AF prog w);have L1:=looks_mroIn (M:=AF prog w) X hm;refine Ad KF.slot_gs.plain KF.entry_gs<|KF.slot_gs.check _ _ _ _ _ _ _ _ KF.type_class (KF.args_gs _ _ _) ?_;unfold Builtin.«getset_descriptor.__get__» descrGet;rw[dga_obj];refine AB<|AD ?_;unfold descrGetter descrCheckInstance descrNameAndClass isInstance;simp only[KF.owner_class]
 repeat lk
 refine⟨Code.quiet_builtin _<|by decide+kernel,codeAny_builtin KF.entry_class ?_⟩;unfold Builtin.«object.__class__» shownTypeOf
 repeat lk
 exact h
theorem aCE{tk:Tok}{Q:Fin->AA->Prop}(X:K.In h)(I:ExA a C h)(ha:findIn K (.ref C) "__class__"=some (some<|.builtin "object.__class__"))(hm:mroIn K C (.type "object")=some true)
  (hq:Q (.done (.ret<|.ref C)) ⟨h,g,d,t,os⟩):AE (AF prog w) A (Builtin.«object.__getattribute__» ⟨[.ref a,.str "__class__" tk],[]⟩) Q E ⟨h,g,d,t,os⟩:=by
 have hT5:(⟨h,g,d,t,os⟩:AA).TypeIs (.builtin "object.__class__") "getset_descriptor":=F.typeOf_object_class;have f5:=F.typeOf_object_class;have f6:=F.slot_gs_get.lookup;have f7:=F.slot_gs_set.lookup;have L1:=looks_findIn (M:=AF prog w) X ha;obtain⟨o,hx,hc⟩:=id I
 repeat (any_goals (first|assumption|(with_reducible refine AO hx ?_;rw[hc])|with_reducible refine L1.at ?_|wp_step))
 refine aGI X I hm ?_
 repeat (any_goals (first|assumption|wp_step))
theorem xC{M:Model}{nameV:BA}{Q:Unit->AA->Prop}(X:K.In h)(I:ExA a C h)(hs:subIn K (.ref C) (.type "BaseException")=some true)(hq:Q () ⟨h,g,d,t,os⟩):
  AE M A (checkBuiltinCall "BaseException.__getattribute__" ⟨[.ref a,nameV],[]⟩) Q E ⟨h,g,d,t,os⟩:=by
 have hk:builtinKind "BaseException.__getattribute__"=some .slot:=by decide+kernel
 have hsplit:splitId "BaseException.__getattribute__"=some ("BaseException","__getattribute__"):=by decide+kernel
 have L1:=looks_subIn (M:=M) X hs;obtain⟨o,hx,hc⟩:=id I;have ha:=F.args_bexc_ga (.ref a) nameV;simp only[checkBuiltinCall,hk,hsplit];refine AB ?_;unfold isInstance
 repeat (first|(with_reducible refine AO hx ?_;rw[hc])|with_reducible refine L1.at ?_|wp_step)
 exact hq
theorem aFz{tk:Tok}{R:Result->AA->Prop}(X:K.In h)(I:ExA a C h)(ha:findIn K (.ref C) "__class__"=some (some<|.builtin "object.__class__"))(hm:mroIn K C (.type "object")=some true)(hs:subIn K (.ref C) (.type "BaseException")=some true)
  (hq:R (.ok (.ret<|.ref C)) ⟨h,g,d,t,os⟩):codeAny (AF prog w) A (.call (.builtin "BaseException.__getattribute__") ⟨[.ref a,.str "__class__" tk],[]⟩) R ⟨h,g,d,t,os⟩:=
 Ad F.attr_ValueError.ga.plain F.entry_bexc_ga (xC X I hs<|aCE X I ha hm hq)
theorem aIT{tk:Tok}{Q:BA->AA->Prop}(X:K.In h)(I:ExA a C h)(ha:findIn K (.ref C) "__class__"=some (some<|.builtin "object.__class__"))(hm:mroIn K C (.type "object")=some true)(hs:subIn K (.ref C) (.type "BaseException")=some true)
  (hg:findIn K (.ref C) "__getattribute__"=some (some<|.builtin "BaseException.__getattribute__")) (hn:findIn K (.ref C) "__getattr__"=some none)
  (hq:Q (.ref C) ⟨h,g,d,t,os⟩):AE (AF prog w) A (getAttrBy (.ref a) (.str "__class__" tk) false) Q E ⟨h,g,d,t,os⟩:=by
 have f3:=F.attr_ValueError.ga.bind<|.ref a;have hx2:(Value.builtin "BaseException.__getattribute__"==Value.builtin "object.__getattribute__")=false:=by decide+kernel
 have hx1:(onTheHeap (Value.ref C)&&Value.builtin "BaseException.__getattribute__"==Value.builtin "object.__getattribute__")=false:=by rw[hx2];rfl
 have L1:=looks_findIn (M:=AF prog w) X hg;have L2:=looks_findIn (M:=AF prog w) X hn;obtain⟨o,hx,hc⟩:=id I
 repeat (any_goals (first|assumption|(with_reducible refine AO hx ?_;rw[hc])|with_reducible refine L1.at ?_|with_reducible refine L2.at ?_|wp_step))
 refine aFz X I ha hm hs ?_
 repeat (any_goals (first|assumption|wp_step))
theorem aEJ{Q:Option BA->AA->Prop}(X:K.In h)(I:ExA a C h)(ha:findIn K (.ref C) "__class__"=some (some<|.builtin "object.__class__"))(hm:mroIn K C (.type "object")=some true)(hs:subIn K (.ref C) (.type "BaseException")=some true)
  (hg:findIn K (.ref C) "__getattribute__"=some (some<|.builtin "BaseException.__getattribute__")) (hn:findIn K (.ref C) "__getattr__"=some none)
  (hq:Q (some<|.ref C) ⟨h,g,d,t+1,os⟩):AE (AF prog w) A (getAttr? (.ref a) "__class__") Q E ⟨h,g,d,t,os⟩:=by
 unfold getAttr? getAttrBy?
 repeat (any_goals (first|assumption|with_reducible apply aIT X I ha hm hs hg hn|wp_step))
structure aGf(K:Frag)(C:BC):Prop where
 ha:findIn K (.ref C) "__class__"=some (some<|.builtin "object.__class__")
 hm:mroIn K C (.type "object")=some true
 hs:subIn K (.ref C) (.type "BaseException")=some true
 hg:findIn K (.ref C) "__getattribute__"=some (some<|.builtin "BaseException.__getattribute__")
 hn:findIn K (.ref C) "__getattr__"=some none
 hc:(clsIn K C).isSome=true
theorem aDa(x:aGf K C):KitX K (.ref a) (.ref C) (ExA a C) where
 ty:=λ_ _ _ I=>I.type
 it:=λ_ _ X _=>by
  obtain⟨cdD,hcD⟩:=jN.mp x.hc;unfold clsIn at hcD
  split at hcD
  ·rename_i c' d' cd' sl' ho;intro A' Q' E' s' k q;unfold isType loadHead;exact AB (wpAny_loadPart (k _ _<|X _ _ ho)<|AD q)
  ·cases hcD
 ne:=λh tp dd its n sl X htp=>by
  obtain⟨cdD,hcD⟩:=jN.mp x.hc;refine Bool.eq_false_iff.mpr λq=> ?_
  have e:C=tp:=Value.ref.inj<|beq_iff_eq.mp q;subst e;unfold clsIn at hcD
  split at hcD
  ·rename_i c' d' cd' sl' ho;have z:=(X _ _ ho).symm.trans htp;cases z
  ·cases hcD
 ca:=λ{prog w A E Q s} X I k=>by obtain⟨h,g,d,t,os⟩:=s;exact aEJ X I x.ha x.hm x.hs x.hg x.hn k
end DL
namespace DL
open PySem PySem.Spec PyProof.Rows L2
noncomputable def rS:List BA:=[.type "ValueError",.type "Exception",.type "BaseException",.type "object"]
variable {X:Cx}{sd:List Slot}{e a b c:Expr}{es:List Expr}{pos:Pos}{d:D}{ds:List D}{E:gQ}
structure PEx(X:Cx)(sd:List Slot)(e:Expr):Prop where
 run:∀ (σ:St) (F H:Hp),StF X.K X.B₀ F H σ sd->wE X e σ H (λ_ _=>False)
theorem aBb(h:PEx X sd e)(hs:Ae e none pos.line X.env=pure false:=by rfl):PSd1 X sd (.Expr e pos) E:=.mk λσ F H S=>(pE dX hs).to<|(h.run σ F H S).imp λ_ _ z=>z.elim
noncomputable def spX(K:aB)(n:Nat)(C:List D->Prop):Sp:=λvs H _ E=>vs.length=n/\Smp H/\∃ds,RepL K H ds vs/\C ds/\∀a H',Same H H'->Smp H'->E (.ref a) (some a) H'
theorem aEG{CX:CXT}{k:Nat}{f:BC}{fd:AK}{ps:List Str}{sp:Sp}{dvs:List V}{dws:List BA}{Ex:XK}{pins:List (BC×BF)}{σ:St}{H:Hp}{s:AA}{Q:VK}{us:List BA}{vs:List V}(F:FnOk X.prog X.w X.K X.mg X.base CX k f fd ps sp)(hr:Room k X.A)(hb:Binds X.K fd ps dws)(hd:Vals dvs dws)
  (I:Inv X pins σ H s) (r:Vals vs us) (h:sp (vs++dvs) H Q Ex) (hx:∀e s',CX X.stack H s Ex e s'->X.xe e s'):AE (AF X.prog X.w) X.A (call (.ref f) us) (EP X pins σ Q) X.xe s:=by
 have r2:Vals (vs++dvs) (us++dws):=r.append hd;have hl:(us++dws).length=ps.length:=by rw[<-r2.length];exact F.len _ _ _ _ h
 refine wpAny_call<|Ag (F.run X.A X.stack s H ⟨us,[]⟩ (us++dws) (vs++dvs) Q Ex hr I.env0 (hb s us I.kIn hl) r2 h) λr s' hq=> ?_;cases r with
 |error e=>exact hx e s' hq
 |ok fl=>
  cases fl with
  |ret u=>exact I.after hq
  |next=>exact False.elim hq
  |brk=>exact False.elim hq
  |cont=>exact False.elim hq
theorem aFH{cls:BA}{pins:List (BC×BF)}{σ:St}{F H:Hp}{s s':AA}{e:BA}(hex:X.ex=[])(I:Inv X pins σ H s)(S:StF X.K X.B₀ F H σ sd)(h:CX1 X.prog X.w cls X.stack H s (λ_ _ H'=>Same H H'/\Smp H') e s'):
  ∃a T H',e=.ref a/\Inv X pins σ H' s'/\StF X.K X.B₀ F H' σ sd/\Exc X.s₀.heap s'.heap H' a T cls/\∀p∈X.pn++pins,p.1≠a/\p.1≠T:=by
 obtain⟨a,T,H',rfl,os,bare,un,hok,x,sH,smH⟩:=h;have I2:Inv X pins σ H' s':=I.call' os un hok bare (λb z=>absurd z<|by simp)
 have fr:∀b,s.heap.get? b=none->X.s₀.heap.get? b=none:=λb q=>by
  cases g:X.s₀.heap.get? b with
  |none=>rfl
  |some o=>obtain⟨o1,q1⟩:=I.base.there b o g (λhb=>by rw[hex] at hb;cases hb);rw[q] at q1;cases q1
 have nw:∀b,s.heap.get? b=none->∀p∈X.pn++pins,p.1≠b:=λb q p hp z=>by have:=(I.pin p hp).1;rw[z,q] at this;cases this
 exact⟨a,T,H',rfl,I2,⟨S.base,S.sub.trans sH,smH,S.slots.mono (Same.refl _) λl hl=>⟨(S.slots.owns hl).1,λob e=>sH _ _ e⟩,S.nd⟩,⟨x.free,fr a x.new,x.freeT,fr T x.newT,x.obj⟩,λp hp=>⟨nw a x.new p hp,nw T x.newT p hp⟩⟩
variable {pins:List (BC×BF)}{σ:St}{F H:Hp}{s:AA}{h':BE}{S:List BC}
theorem qP{h:BE}{c:BC}{v:Option BA}(k:h.UpToSlots h')(z:h.IsCell c v):h'.IsCell c v:=by
 obtain⟨o,ho,hd⟩:=z;obtain⟨sl,q⟩:=k c o ho λvs e=>by rw[hd] at e;cases e
 exact⟨_,q,hd⟩
theorem aAq(I:Inv X pins σ H s)(hS:∀b∈S,H b=none/\X.s₀.heap.get? b=none/\∀p∈X.pn++pins,p.1≠b)(k1:Heap.StaysIn (rQ s.heap<|frs X.stack++S) h')(k4:s.heap.UpToSlots h'):Inv X pins σ H {s with heap:=h'}:=by
 have stay:∀b o,b∉frs X.stack++S->s.heap.get? b=some o->h'.get? b=some o:=λb o hb q=>k1 b o (by rw[jP hb];exact q)
 have out:∀b o,X.s₀.heap.get? b=some o->b∉X.fs->b∉frs X.stack++S:=λb o q hb hm=>by
  rcases bF.mp hm with hm|hm
  ·rcases cD.mp (I.stkSub b hm) with e|hm
   ·have lt:=aO q;rw[e] at lt;exact absurd lt<|oF.mpr I.ok.above
   ·exact hb hm
  ·rw[(hS b hm).2.1] at q;cases q
 have slot:∀b o,X.s₀.heap.get? b=some o->X.H₀ b=none->b∈X.fs->b∉X.ex->∃sl,h'.get? b=some {o with slots:=sl}:=λb o q n hb hx=>by obtain⟨sl,q1⟩:=I.base.slot b o q n hb hx;obtain⟨_,o',q2,nf⟩:=I.ok.funs.mem hb;rw[q] at q2;cases q2;obtain⟨sl2,q3⟩:=k4 b _ q1 nf;exact⟨sl2,q3⟩
 have tr:∀b u,H b=some u->b∉frs X.stack++S:=λb u e hm=>by
  rcases bF.mp hm with hm|hm
  ·rw[I.env0.frf b hm] at e;cases e
  ·rw[(hS b hm).1] at e;cases e
 obtain⟨m,hn,hl⟩:=id I.loc;refine⟨I.ok,I.os,I.bare,⟨λb o q n hb hx=>stay b o (out b o q hb)<|I.base.keep b o q n hb hx,slot,I.base.free,λb o q hx=> ?_,I.base.tups,I.base.frzs,I.base.tbls⟩,⟨m,k4.ns hn,λi x v e1 e2 e3=> ?_⟩,λx c e=> ?_,I.free,I.freeC,λp hp=> ?_,λb u e=> ?_,I.len⟩
 ·by_cases hb:b∈X.fs
  ·obtain⟨sl,q2⟩:=slot b o q (I.ok.frf b hb) hb hx;exact⟨_,q2⟩
  ·obtain⟨o1,q1⟩:=I.base.there b o q hx;exact⟨o1,stay b o1 (out b o q hb) q1⟩
 ·obtain⟨u,r,q⟩:=hl i x v e1 e2 e3;refine⟨u,r, ?_⟩
  rcases q with q|⟨k,c,e,z⟩
  ·exact .inl q
  ·exact .inr ⟨k,c,e,qP k4 z⟩
 ·obtain⟨v,z⟩:=I.cell x c e;exact⟨v,qP k4 z⟩
 ·obtain⟨e,n,ne,nf,d⟩:=I.pin p hp;refine⟨stay p.1 p.2 (λhm=> ?_) e,n,ne,nf,d⟩
  rcases bF.mp hm with hm|hm
  ·rcases cD.mp (I.stkSub _ hm) with z|z
   ·exact ne z
   ·exact nf z
  ·exact(hS _ hm).2.2 p hp rfl
 ·refine(I.hok b u e).stay (λc v hc q=>stay c v ?_ q) (λ_ q=>q) λ_ _ q=>q
  rcases hc with z|z
  ·rw[z];exact tr b u e
  ·exact tr c _ z
theorem aHe{ξ:BA->AA->Prop}{pn:List (BC×BF)}(I:Inv X pins σ H s)(S:StF X.K X.H₀ F H σ sd)(hpn:pn=X.pn++pins):Inv {X with H₀:=F,B₀:=F,hB:=λ_ _ e _=>e,xe:=ξ,pn:=pn} [] σ H s:=by
 have n0:∀b,F b=none->X.H₀ b=none:=λb n=>by
  cases q:X.H₀ b with
  |none=>rfl
  |some u=>rw[S.base _ _ q] at n;cases n
 have fn:∀b,H b=none->F b=none:=λb n=>S.sub.free n
 subst hpn
 refine ⟨⟨I.ok.mod,I.ok.kind,I.ok.glob,I.ok.blt,I.ok.above,I.ok.inj,I.ok.has,I.ok.cab,I.ok.hd,I.ok.frames,I.ok.stk,I.ok.exf,fun b o e=>⟨(I.ok.bs b o e).1,fn b (I.bs b o e).2⟩,I.ok.bsz,I.ok.noex,I.ok.exfs,I.ok.funs,fun b hb=> ?_⟩,I.os,I.bare,
  ⟨λb o q n hb hx=>I.base.keep b o q (n0 b n) hb hx,λb o q n hb hx=>I.base.slot b o q (n0 b n) hb hx,λb o q n hx=>I.base.free b o q (n0 b n) hx,I.base.there,λb xs e=>S.sub _ _ e,λb o u e=>S.sub _ _ e,λb ps e=>⟨#[],by rw[S.sub _ _ e];simp⟩⟩,I.loc,I.cell,I.free,I.freeC,λp hp=> ?_,I.hok,I.len⟩
 ·obtain⟨_,o,q,_⟩:=I.ok.funs.mem hb;exact fn b<|I.base.free b o q (I.ok.frf b hb) λhx=>I.ok.exfs b hx hb
 ·rw[cS] at hp;exact I.pin p hp
theorem aGV{ξ:BA->AA->Prop}{pn:List (BC×BF)}{pins':List (BC×BF)}{σ':St}{H':Hp}{s':AA}(I0:Inv X pins σ H s)(S:StF X.K X.H₀ F H σ sd)(hpn:pn=X.pn++pins)(I:Inv {X with H₀:=F,B₀:=F,hB:=λ_ _ e _=>e,xe:=ξ,pn:=pn} pins' σ' H' s'):Inv X pins σ' H' s':=by
 subst hpn;have nf:∀b o,X.s₀.heap.get? b=some o->X.H₀ b=none->b∉X.ex->F b=none:=λb o q n hx=>S.sub.free<|I0.base.free b o q n hx
 refine⟨I0.ok,I.os,I.bare,⟨λb o q n hb hx=>I.base.keep b o q (nf b o q n hx) hb hx,λb o q n hb hx=>I.base.slot b o q (nf b o q n hx) hb hx,λb o q n hx=>I.base.free b o q (nf b o q n hx) hx,I.base.there,λb xs e=>I.base.tups b xs<|S.base _ _ e,λb o u e=>I.base.frzs b o u<|S.base _ _ e,λb ps e=>I.base.tbls b ps<|S.base _ _ e⟩,I.loc,I.cell,I.free,I.freeC,λp hp=>I.pin p<|cE _ hp,I.hok,I.len⟩
theorem aCw{m:Str->Option BA}{j:Nat}{n:Str}{v:Option BA}{t':Nat}(I:Inv X pins σ H s)(hN:X.N.Nodup)(hj:X.N[j]? =some n)(hk:X.env.scope.names.lookup n=some .local)(hn:s.heap.Ns X.env.locals m)
  (hl:∀ (i:Nat) (x:Str) (v:V),X.N[i]? =some x->σ[i]? =some (some v)->Vis X.env.scope x->∃u,RelV v u/\aJm X.env s.heap m x u) (hn':h'.Ns X.env.locals (λx=>if x=n then v else m x)) (hs:Heap.SameBut X.env.locals s.heap h'):Inv X pins (σ.set j none) H {s with heap:=h',toks:=t'}:=by
 have cne:=I.cne;have hiσ:j<σ.length:=by rw[I.len];exact(bE.mp hj).1
 refine⟨I.ok,I.os,I.bare,⟨λb o e n hb hx=> ?_,λb o e n hb hx=> ?_,I.base.free,λb o e hx=> ?_,I.base.tups,I.base.frzs,I.base.tbls⟩,⟨_,hn',λi y v' e1 e2 e3=> ?_⟩,λy c e=> ?_,I.free,I.freeC,λp hp=> ?_,λb ob e=> ?_,by rw[rO];exact I.len⟩
 ·exact(hs.2 b (bG<|aY (aO e) I.ok.above)).trans<|I.base.keep b o e n hb hx
 ·obtain⟨sl,e1⟩:=I.base.slot b o e n hb hx;exact⟨sl,(hs.2 b (bG<|aY (aO e) I.ok.above)).trans e1⟩
 ·obtain⟨o',e1⟩:=I.base.there b o e hx;exact⟨o',(hs.2 b (bG<|aY (aO e) I.ok.above)).trans e1⟩
 ·by_cases hi:i=j
  ·subst hi;rw[kN hiσ] at e2;cases e2
  ·rw[hZ<|Ne.symm hi] at e2;obtain⟨u',r',q⟩:=hl i y v' e1 e2 e3;refine⟨u',r', ?_⟩
   rcases q with⟨k,e⟩|⟨k,c,e,z⟩
   ·refine .inl ⟨k, ?_⟩;have:y≠n:=λe=>hi (qK hN e1<|e▸hj)
    simp[this,e]
   ·exact .inr ⟨k,c,e,z.sameBut hs<|cne y c e⟩
 ·obtain⟨w',z⟩:=I.cell y c e;exact⟨w',z.sameBut hs<|cne y c e⟩
 ·obtain⟨e,n,ne,nf,d⟩:=I.pin p hp;exact⟨(hs.2 p.1 ne).trans e,n,ne,nf,d⟩
 ·refine(I.hok b ob e).stay (λc w' hc q=>(hs.2 c ?_).trans q) (λ_ q=>q) λ_ _ q=>q
  rintro rfl
  rcases hc with z|hc
  ·have:=I.free;rw[z,e] at this;cases this
  ·rw[I.free] at hc;cases hc
variable {a T:BC}{cls:BA}{M:Model}{A:BD}{Ex:BA->AA->Prop}
structure aFV(X:Cx)(pins:List (BC×BF))(σ:St)(H:Hp)(s:AA)(a T:BC)(cls fl:BA):Prop where
 inv:Inv X pins σ H s
 fa:H a=none/\X.s₀.heap.get? a=none/\∀p∈X.pn++pins,p.1≠a
 fT:H T=none/\X.s₀.heap.get? T=none/\∀p∈X.pn++pins,p.1≠T
 obj:∃oe vs oT ts a0,s.heap.get? a=some oe/\(oe.cls=cls/\vs[0]? =some a0)/\oe.data=.fields vs/\vs[1]? =some (.ref T)/\T≠a/\s.heap.get? T=some oT/\oT.data=.fields ts/\ts[3]? =some fl
theorem wN(h:aFV X pins σ H s a T cls fl):∀b∈[a,T],H b=none/\X.s₀.heap.get? b=none/\∀p∈X.pn++pins,p.1≠b:=λb hb=>by
 simp only[cD,pI,or_false] at hb
 rcases hb with rfl|rfl
 ·exact h.fa
 ·exact h.fT
theorem Inv.reB{H':Hp}(I:Inv X pins σ H s)(hn:∀b,H b=none->H' b=none)(h0:Same X.B₀ H')(ok:HOk X.prog X.w H' s.heap):Inv X pins σ H' s:=by
 refine⟨I.ok,I.os,I.bare,⟨I.base.keep,I.base.slot,λb u e n hx=>hn b<|I.base.free b u e n hx,I.base.there,λb xs e=>h0 _ _<|X.hB _ _ e trivial,λb u xs e=>h0 _ _<|X.hB _ _ e trivial,λb ps e=>⟨#[], ?_⟩⟩,I.loc,I.cell,hn _ I.free,λx c e=>hn _<|I.freeC x c e,λp hp=> ?_,ok,I.len⟩
 ·rw[h0 _ _<|X.hB _ _ e trivial];simp
 ·obtain⟨e,n,r⟩:=I.pin p hp;exact⟨e,hn _ n,r⟩
theorem StF.layW{K:aB}{H₀:Hp}{p:BC}{o:HO}(S:StF K H₀ F H σ sd)(hp:H p=none)(ho:aHQ o):StF K H₀ F (upd H p o) σ sd/\F p=none/\p∉cA sd:=by
 have fp:F p=none:=S.sub.free hp;refine⟨⟨S.base,λb u e=> ?_,λb u e=> ?_,S.slots.mono (Same.refl _) λl hl=> ?_,S.nd⟩,fp,λhl=> ?_⟩
 ·rw[aX<|bS e fp];exact S.sub _ _ e
 ·by_cases h:b=p
  ·subst h;rw[bA] at e;cases e;exact ho
  ·rw[aX h] at e;exact S.smp _ _ e
 ·obtain⟨n,ys,q,_⟩:=S.slots.owns hl;have hne:l≠p:=bS q hp;exact⟨n,λys e=>by rw[aX hne];exact e⟩
 ·obtain⟨n,ys,q,_⟩:=S.slots.owns hl;rw[hp] at q;cases q
theorem qG:fillsNumberSlot (.type "tuple") "mul"=pure false:=
 PySem.fillsNumberSlot_seq (id:="tuple.__mul__") (r:=some<|.builtin "tuple.__rmul__") F.slot_tuple_mul.lookup (by decide+kernel) F.slot_tuple_rmul.lookup (by decide+kernel)
theorem yK:seqRepeat? (.type "tuple")=pure (some<|.builtin "tuple.__mul__"):=by
 unfold seqRepeat?;rw[PySem.seqSlot_of (T:="tuple") (name:="__mul__") (id:="tuple.__mul__") F.slot_tuple_mul.lookup<|by decide+kernel,PySem.seqSlot_of (T:="tuple") (name:="__rmul__") (id:="tuple.__rmul__") F.slot_tuple_rmul.lookup<|by decide+kernel]
 first|rfl|kernel_rfl
theorem aBZ(a:Int)(t:Tok)(l:BC)(items:Array BA)(n:Nat)(d:Option BC)(sl:Array (Option BA)):
  Meets (Builtin.«int.__rmul__» ⟨[.int a t,.ref l],[]⟩) (λ_ R s=>s.heap.get? l=some {cls:=.type "tuple",dict:=d,data:=.seq items n,slots:=sl}/\R (.ok<|.ret Value.notImplemented) s):=
 .of_wp λprog w A R s h=>by obtain⟨hp,g,dd,tk,os⟩:=s;obtain⟨hl,h⟩:=h;wp_walk;exact⟨_,rfl,h⟩
theorem aEL(its:List BA)(k:Nat):tF (λx1 x2=>x1++x2) #[] (aI k its.toArray)=(aI k its).flatten.toArray:=by have:=nR its k [];rw[kX] at this;exact this
theorem aCc(l:BC)(items:Array BA)(n:Nat)(d:Option BC)(sl:Array (Option BA))(u:Tok):
  Meets (Builtin.«tuple.__mul__» ⟨[.ref l,.int ((1:Nat):Int) u],[]⟩) (λ_ R s=>s.heap.get? l=some {cls:=.type "tuple",dict:=d,data:=.seq items n,slots:=sl}/\R (.ok (.ret<|.ref l)) s):=
 .of_wp λprog w A R s h=>by
  obtain⟨hp,g,dd,tk,os⟩:=s;obtain⟨hl,h⟩:=h
  wp_walk using wpAny_loadPart' hl
  exact⟨_,rfl,h⟩
theorem aEC(l:BC)(its:List BA)(n:Nat)(d:Option BC)(sl:Array (Option BA))(k:Nat)(u:Tok)(h0:its≠[])(h1:k≠1)(hz:its.length*k<=1000):
  Meets (Builtin.«tuple.__mul__» ⟨[.ref l,.int (k:Int) u],[]⟩) (λ_ R s=>s.heap.get? l=some {cls:=.type "tuple",dict:=d,data:=.seq its.toArray n,slots:=sl}/\R (.ok (.ret<|.ref s.heap.objs.size)) {s with heap:=s.heap.push {cls:=.type "tuple",data:=.seq (aI k its).flatten.toArray}}):=
 .of_wp λprog w A R s h=>by
  obtain⟨hp,g,dd,tk,os⟩:=s;obtain⟨hl,h⟩:=h
  wp_walk using wpAny_loadPart' hl
  have s1:1<=its.length:=by
   cases its with
   |nil=>exact absurd rfl h0
   |cons _ _=>simp
  have k1000:k<=1000:=bM (by have:=aHT s1<|aR k;omega) hz
  have e0:its.toArray.isEmpty=false:=by
   cases its with
   |nil=>exact absurd rfl h0
   |cons _ _=>rfl
  have ln:(aI k its).flatten.length<=1000:=by rw[tJ,zX];exact hz
  rw[if_neg<|by simp;omega];refine AB<|tupleItemsOf_ ⟨_,hl,rfl,n,rfl⟩ ?_;dsimp only;rw[e0,if_neg<|by simp;omega]
  by_cases k0:k=0
  ·subst k0;rw[if_pos<|by simp];unfold Builtin.Tuple.tupleExact;exact AB (AL<|AD ⟨_,rfl,h⟩)
  ·rw[if_neg<|by simp;omega];have e1:((its.toArray.size:Nat):Int)*(k:Int)=((its.length*k:Nat):Int):=by rw[aG];push_cast;rfl
   rw[e1,if_neg<|by omega,if_neg (by unfold Builtin.Tuple.tupleTooMany;rw[Ab];simp;omega),cK,aEL];unfold Builtin.Tuple.tupleExact;refine AB<|AL (AD ⟨_,rfl,h⟩) ?_;show _<=AH;rw[Ab,aG];omega
noncomputable def aIU(K:aB):R2:=λx y H Q=>∃ (p:BC) (xs:List V) (k:Nat),x=.ref p/\y=.int (k:Int)/\SqT K H p xs/\xs≠[]/\xs.length*k<=1000/\(k=1->Q (.ref p) H)/\(k≠1->∀q,H q=none->Q (.ref q) (upd H q<|.tup (aI k xs).flatten))
theorem wF{xs:List V}{its:List BA}(r:Vals xs its):∀k:Nat,Vals (aI k xs).flatten (aI k its).flatten
 |0=>.nil
 |k+1=>by rw[cB,cB,dA,dA];exact r.append<|wF r k
variable {a:Expr}
theorem aEO:OpR X (AU .Mult) (aIU X.K):=by
 intro pins s σ H x y v u Q I rx ry h;obtain⟨p,xs,k,rfl,rfl,hq,hne,hz,q1,q2⟩:=h;cases rx;obtain⟨t,rfl⟩:=ry;obtain⟨its,r,pl,hsz⟩:=I.tuple hq;have hln:=r.length
 have ine:its≠[]:=λz=>by rw[z] at hln;exact hne<|iA hln
 obtain⟨⟨cls,dd,data,sl⟩,ho,hc,n,hd⟩:=id pl;simp only at hc hd;subst hc hd;have hT:s.TypeIs (.ref p) "tuple":=⟨_,ho,rfl⟩
 refine wpAny_binaryOp_repeat_ref (T:="tuple") (U:="int") (by decide) hT (λs'=>typeIs_int s' k t) qG F.fills_int_mul F.slot_int_rmul yK F.slot_int_index.lookup
  (call_meets F.slot_int_rmul (typeIs_int s k t) F.entry_int_rmul (F.args_int_rmul_2 _ _) (aBZ (k:Int) t p its.toArray n dd sl) ⟨ho,rfl,hT, ?_⟩)
 by_cases k1:k=1
 ·subst k1;exact call_meets F.slot_tuple_mul hT F.entry_tuple_mul (F.args_tuple_mul_2 _ _) (aCc p its.toArray n dd sl t) ⟨ho,.ref p,H,I,rfl,q1 rfl⟩
 ·refine call_meets F.slot_tuple_mul hT F.entry_tuple_mul (F.args_tuple_mul_2 _ _) (aEC p its n dd sl k t ine k1<|by rw[<-hln];exact hz) ⟨ho, ?_⟩;refine⟨.ref s.heap.objs.size,_,I.laid (t':=s.toks) (o:=.tup (aI k xs).flatten) (λb ob q=>aH _ q) (aR _) ?_,rfl,q2 k1 _ (I.hok.fresh<|aR _)⟩;exact⟨by rw[tJ,zX,Ab];omega,_,wF r k,IsTupD.new _ _⟩
theorem RepL.rep{K:aB}{H:Hp}{ds:List D}{xs:List V}(r:RepL K H ds xs):∀k:Nat,RepL K H (aI k ds).flatten (aI k xs).flatten
 |0=>.nil
 |k+1=>by rw[cB,cB,dA,dA];exact r.app<|RepL.rep r k
theorem aFj{k:Nat}(ha:PEd X sd a (.val<|.tup ds))(hb:PEd X sd b (.val<|.int (k:Int)))(hne:ds≠[])(hz:ds.length*k<=1000):PEd X sd (.BinOp a .Mult b pos) (.val<|.tup (aI k ds).flatten):=
 nS aEO ha hb trivial λσ F H v u Q S q1 q2 kk=>by
  simp only[ResOk,Rep] at q1 q2;subst q2;obtain⟨p,xs,rfl,hp,rl⟩:=q1;have ln:=rl.len;refine⟨p,xs,k,rfl,rfl,.of<|S.sub _ _ hp,λz=> ?_,by rw[ln];exact hz,λk1=> ?_,λk1 q hq=> ?_⟩
  ·rw[z] at ln;exact hne<|iA ln.symm
  ·subst k1;refine kk _ F H S (Same.refl _) ?_;simp only[ResOk,Rep];refine⟨p,xs,rfl,hp, ?_⟩;have e:(aI 1 ds).flatten=ds:=by simp
   rw[e];exact rl
  ·obtain⟨S2,s2⟩:=S.lay (o:=.tup (aI k xs).flatten) hq trivial;refine kk _ _ _ S2 s2 ?_;simp only[ResOk,Rep];exact⟨q,_,rfl,bA,(rl.rep k).mono s2⟩
theorem aAy{k:Nat}(ha:PEd X sd a (.bor ds))(hb:PEd X sd b (.val<|.int (k:Int)))(hk:k<=1000)(hz:ds.length*k<=1000):PEd X sd (.BinOp a .Mult b pos) (.own (aI k ds).flatten):=
 nS aGv ha hb trivial λσ F H v u Q S q1 q2 kk=>by simp only[ResOk,Rep] at q2;subst q2;obtain⟨l,xs,rfl,hl,rl,_⟩:=q1;refine⟨l,(k:Int),xs,rfl,rfl,hl,by omega,by omega,by rw[rl.len,cK,Ab];omega,λp hp=> ?_⟩;rw[cK];obtain⟨S2,fp,no⟩:=S.layO (xs:=(aI k xs).flatten) hp;exact kk _ F _ S2 (Same.refl _) ⟨p,_,rfl,fp,bA,rl.rep k,no⟩
theorem aCf{bs:List Bool}{its:List BA}{i:Nat}{v:BA}(r:Vals (bs.map V.bl) its)(h:its[i]? =some v):∃b,bs[i]? =some b/\v=.bool b:=by
 have hi:i<its.length:=(bE.mp h).1;have hl:=r.length;rw[aC] at hl;have hb:i<bs.length:=by omega
 obtain⟨u,h1,h2⟩:=r.get (i:=i) (x:=.bl bs[i]) (by simp[hb]);rw[h] at h1;cases h1;exact⟨bs[i],by simp[hb],h2⟩
theorem zG(bs:List Bool):((bC bs.length).all λi=>(bs[i]?).getD true)=bs.all id:=by
 apply fD.mpr;simp only[dI,cR,id_eq]
 constructor
 ·intro h b hb;obtain⟨i,hi,rfl⟩:=mF hb;have:=h i hi;simpa[hi] using this
 ·intro h i hi;have:=h bs[i]<|gC hi;simpa[hi] using this
theorem aBr(hc:X.calm=true):jO X (.builtin "all") (λxs H Q=>∃ (a:BC) (bs:List Bool),xs=[.ref a]/\SqL X.K H a (bs.map V.bl)/\Q (.bl<|bs.all id) H):=by
 intro pins s σ H xs us Q I r h;obtain⟨a,bs,rfl,ha,q⟩:=h;obtain⟨u,rfl,ru⟩:=sZ r;cases ru;obtain⟨its,rv,p,hz⟩:=I.list ha;have hl:=rv.length;rw[aC] at hl;have isl:s.heap.IsList a its.toArray:=p.isList;have alt:a<s.heap.objs.size:=by obtain⟨o,ho,_⟩:=isl;exact aO ho
 refine call_all_walk<|wpAny_pyIter_list isl ?_;refine⟨s.heap.objs.size,[s.heap.objs.size,a],[s.heap.objs.size],its.toArray.size,_,_,λi=>(bs[i]?).getD true,rfl,Walks.list (A:=X.A.in1) (I.ok.hd hc) _ a (bG alt) its.toArray,⟨⟨_,bT _ rfl,rfl,rfl⟩,isl.push _⟩,λi v s' Q' E' hP hQ=> ?_,λh' tk hk=> ?_⟩
 ·obtain⟨b,e,rfl⟩:=aCf rv (by simpa using hP);simp only[e,aDm] at hQ;exact AY hQ
 ·have e:((bC its.toArray.size).all λi=>(bs[i]?).getD true)=bs.all id:=by rw[aG,<-hl];exact zG bs
  rw[e]
  exact ⟨.bl (bs.all id),H,I.kept (t':=tk) fun b o g=>hk b o (fun z=>by
   have z:b=s.heap.objs.size:=by simpa using z
   exact absurd (aO g) (by rw[z];exact eP _)) (aH _ g),rfl,q⟩
theorem RepL.bls{K:aB}{H:Hp}:∀ {bs:List Bool}{xs:List V},RepL K H (bs.map D.bl) xs->xs=bs.map V.bl
 |[],xs,r=>by simpa only[gB,RepL] using r
 |n::ns,xs,r=>by rw[bY] at r;obtain⟨y,ys,rfl,a,rl⟩:=r.uncons;simp only[Rep] at a;rw[a,RepL.bls rl];rfl
theorem aFx{p:Pos}{bs:List Bool}(hg:Gl X "all")(hm:X.mg "all"=none)(ha:PEd X sd e (.bor<|bs.map D.bl))(hc:X.calm=true:=by rfl)(hst:AC [e] X.env=(false,eval e X.env)::AC [] X.env:=by rfl):PEd X sd (.Call (.Name "all" p) [e] [] pos) (.val (.bl<|bs.all id)):=
 iW (he:=hst) (aBr hc) hg hm boot_all (aA ha aE trivial hst) λσ F H vs Q S q k=>by
  cases q with
  |cons q1 q2=>cases q2;obtain⟨p,xs,rfl,hp,rl,_⟩:=q1;exact⟨p,bs,rfl,.of (by rw[<-rl.bls];exact hp),k _ F H S (Same.refl _)<|by simp only[ResOk,Rep]⟩
theorem tH{i j:Nat}{p2:Pos}(ha:PEd X sd a (.val<|.tup ds))(hb:PEd X sd b (.val<|.int (i:Int)))(hc:PEd X sd c (.val<|.int (j:Int))):PEd X sd (.Subscript a (.Slice (some b) (some c) none p2) pos) (.val<|.tup ((ds.drop i).take<|j-i)):=by
 have e:DL.cutD ds (some (i:Int)) (some (j:Int))=(ds.drop i).take (j-i):=by
  unfold DL.cutD;rw[HT.sIx_nat,HT.sIx_nat]
  by_cases q:i<=ds.length
  ·rw[jB q,zW];simp;omega
  ·rw[gS (show ds.length<=min i ds.length by omega),gS<|by omega];simp
 by_cases w:HT.sIx ds.length 0 (some (i:Int))=0/\HT.sIx ds.length ds.length (some (j:Int))=ds.length
 ·refine PEd.cast (uK (ol:=some (i:Int)) (oh:=some (j:Int)) ha hb hc w) ?_;rw[<-e];unfold DL.cutD;rw[w.1,w.2];simp
 ·exact PEd.cast (pK (ol:=some (i:Int)) (oh:=some (j:Int)) ha hb hc w) (by rw[e])
noncomputable abbrev Ch:=Nat×Nat×List Nat
noncomputable def chD(c:Ch):D:=.tup [.int (c.1:Int),.int (c.2.1:Int),.tup<|bB c.2.2]
noncomputable def wcQ(row:List Nat)(c:Ch):List Nat:=row.take c.1++c.2.2++row.drop (c.1+c.2.1)
noncomputable def kJ(L:List SK)(row:List Nat):Int:=aJz<|wL L row
noncomputable def iF(p:Int×Int)(L:List SK)(row:List Nat)(o:Option (List Nat)):List (List Int):=(eY p).map λws=>match o with
 |none=>fE p L row ws
 |some l=>l.map λj=>(fE p L row ws).getD j 0
noncomputable def oQ(row:List Nat)(c:Ch):Bool:=decide<|1<=c.2.1/\c.1+c.2.1<=row.length
noncomputable def hoQ(p:Int×Int)(L:List SK)(row:List Nat)(c:Ch)(o:Option (List Nat)):Bool:=oQ row c&&(decide (kJ L c.2.2<kJ L ((row.drop c.1).take c.2.1))&&decide (iF p L (wcQ row c) o=iF p L row o))
def RowOk(L:List SK)(row:List Nat):Prop:=∀t∈row,t<L.length
theorem RowOk.wc{L:List SK}{row:List Nat}{c:Ch}(h:RowOk L row)(hc:RowOk L c.2.2):RowOk L (wcQ row c):=λt ht=>by
 unfold wcQ at ht
 rcases bF.mp ht with ht|ht
 ·rcases bF.mp ht with ht|ht
  ·exact h t<|iB ht
  ·exact hc t ht
 ·exact h t<|iC ht
theorem aGM(row:List Nat)(c:Ch):(wcQ row c).length<=row.length+c.2.2.length:=by
 unfold wcQ;rw[aJ,aJ,aV,cO]
 by_cases h:c.1<=row.length
 ·omega
 ·omega
theorem zC{p:Int×Int}{L:List SK}{a b:List Nat}{o:Option (List Nat)}(h:iF p L b o=iF p L a o)(n:Nat):gX (bxQ n o) (eY p) (gW p L a) (gW p L b)=none:=by
 refine pU λk hk=> ?_
 have ga:(gW p L a).getD k []=fE p L a ((eY p).getD k []):=by unfold gW;show(oK _<|eY p).getD k []=_;simp[bQ,hk]
 have gb:(gW p L b).getD k []=fE p L b ((eY p).getD k []):=by unfold gW;show(oK _<|eY p).getD k []=_;simp[bQ,hk]
 unfold unK;rw[ga,gb];have e:=congrArg (λl=>l.getD k []) h;simp only[iF,bQ,bK,vI hk,Option.map_some,aDm] at e;have ek:(eY p).getD k []=(eY p)[k]:=by simp[bQ,hk]
 rw[ek];cases o with
 |none=>simp only at e;rw[e];exact aBS _ _
 |some l=>
  simp only at e;show unl l _ _=false;rw[<-oX];have e':(l.map λj=>(fE p L a (eY p)[k]).getD j 0)=l.map λj=>(fE p L b (eY p)[k]).getD j 0:=e.symm
  rw[e'];simp
def aEd:List D->R->Prop:=λds r=>∃ (L:List SK) (row:List Nat),RowOk L row/\row.length<=900/\ds=[.lst<|L.map skD,.tup<|bB row]/\r=.val (.bl true)
def wH:List D->R->Prop:=λds r=>∃ (row:List Nat) (i m:Nat),ds=[.tup<|bB row,.int (i:Int),.int (m:Int)]/\r=.val (.tup (bB<|(row.drop i).take m))
def pF:List D->R->Prop:=λds r=>∃ (row:List Nat) (c:Ch),row.length+c.2.2.length<=900/\ds=[.tup<|bB row,chD c]/\r=.val (.tup (bB<|wcQ row c))
structure Chn(p:Int×Int)(L:List SK)(o:Option (List Nat))(row:List Nat)(cs:List Ch)(rs:List (List Nat)):Prop where
 len:rs.length=cs.length+1
 hd:rs.getD 0 []=row
 st:∀i,i<cs.length->hoQ p L (rs.getD i []) (cs.getD i (0,0,[])) o=true/\rs.getD (i+1) []=wcQ (rs.getD i []) (cs.getD i (0,0,[]))
 ok:∀r∈rs,RowOk L r/\r.length<=8+9*cs.length
 pc:∀c∈cs,RowOk L c.2.2/\c.2.2.length<=9
theorem Chn.start{p:Int×Int}{L:List SK}{o:Option (List Nat)}{row:List Nat}(h:RowOk L row)(h8:row.length<=8):Chn p L o row [] [row]:=
 ⟨rfl,rfl,λi hi=>absurd hi<|aHE _,λr hr=>by rw[bP.mp hr];exact⟨h,by simpa using h8⟩,λc hc=>nomatch hc⟩
theorem iR{α:Type}(l m:List α)(d:α){i:Nat}(h:i<l.length):(l++m).getD i d=l.getD i d:=by simp[bQ,jM h]
theorem pO{α:Type}(l:List α)(x d:α):(l++[x]).getD l.length d=x:=by simp[bQ]
theorem Chn.more{p:Int×Int}{L:List SK}{o:Option (List Nat)}{row:List Nat}{cs:List Ch}{rs:List (List Nat)}{c:Ch}(C:Chn p L o row cs rs)(hc:RowOk L c.2.2)(h9:c.2.2.length<=9)(hh:hoQ p L (rs.getD cs.length []) c o=true):Chn p L o row (cs++[c]) (rs++[wcQ (rs.getD cs.length []) c]):=by
 have l1:=C.len;have mem:rs.getD cs.length []∈rs:=DL.getD_mem (by omega);obtain⟨ok1,ok2⟩:=C.ok _ mem;refine⟨by simp[l1],by rw[iR _ _ _<|by omega];exact C.hd,λi hi=> ?_,λr hr=> ?_,λx hx=> ?_⟩
 ·rw[aJ,hU] at hi
  by_cases q:i<cs.length
  ·rw[iR rs _ _<|by omega,iR cs _ _ q,iR rs _ _<|by omega];exact C.st i q
  ·have:i=cs.length:=by omega
   subst this;rw[iR rs _ _<|by omega,pO cs];refine⟨hh, ?_⟩;rw[<-l1,pO rs]
 ·rcases bF.mp hr with hr|hr
  ·obtain⟨a,b⟩:=C.ok r hr;exact⟨a,by rw[aJ,hU];omega⟩
  ·rw[bP.mp hr];refine⟨ok1.wc hc, ?_⟩;have:=aGM (rs.getD cs.length []) c;rw[aJ,hU];omega
 ·rcases bF.mp hx with hx|hx
  ·exact C.pc x hx
  ·rw[bP.mp hx];exact⟨hc,h9⟩
def tI:List D->R->Prop:=λds r=>∃p L o row cs rs m,p∈cI/\hX p L/\qN p o/\Chn p L o row cs rs/\cs.length<=30/\m<=cs.length/\ds=[bR p,.lst<|L.map skD,.tup<|bB row,.lst<|(cs.take m).map chD,lkD o]/\r=.val (.tup (bB<|rs.getD m []))
theorem aJa{G K:Prop}(h:K->G)(k:K):G:=h k
end DL
namespace DL
open PySem PySem.Spec PyProof.Rows L2
open PySem.W (KasT kas_sort kas_asc kas_desc kas_tail3 kas_descPart kas_count kas_place kas_bin kas_rev kas_ask kas_item kat_lt kat_cons kat_nil kat_yes kat_no kat_one kat_kind kat_run kat_snds KatTups)
open PySem.W (KasT kas_sort kas_asc kas_desc kas_tail3 kas_descPart kas_count kas_place kas_bin kas_rev)
open PySem.W (KasT kas_sort kas_asc kas_desc kas_tail3 kas_descPart kas_count kas_place kas_bin kas_rev kas_ask kas_item kat_lt kat_cons kat_nil kat_yes kat_no kat_one kat_kind kat_run kat_snds KatTups KatLex)
open PySem.W (kat_lt kat_cons kat_nil kat_yes kat_no kat_one kat_kind KatTups KatLex)
open PySem.W (kat_lt kat_kind KatTups KatLex)
section
open PySem.W PySem.Calls Att
end
section
open PySem.SeqAt
open PySem.AutoSeq1 (wpAny_loadPart')
open PySem.MeetsSeq PySem.MeetsSeq2 PySem.MeetsSeq3
end
open PySem.W (KasT kas_sort)
def FI(K:aB)(mg:Str->Option BA)(n:Str)(st:BG):Prop:=∃f fd,mg n=some (.ref f)/\Fun K n n st f fd
theorem FI.mk{K:aB}{h:BE}{mg:Str->Option BA}{n:Str}{st:BG}{od an:Option BC}{sl:Array (Option BA)}{oc kV dc pm cd ct:BA}{f:BC}(X:K.In h)(G:h.Ns AJ mg)(a:dD K AJ n=some (some<|.ref f))(l:K.lookup f=some ⟨oc,od,.func<|bW n n (dN st) (cQ st) (aT st) .none kV dc pm an cd ct,sl⟩)(c:dL K cd n=true)(k:bZ K (.ref f)=true):FI K mg n st:=⟨f,_,dF X G a,yO (st:=st) l c k⟩
variable {X:Cx}{sd:List Slot}{e a b c tg iter o:Expr}{es:List Expr}{pos:Pos}{r ra rb:R}{d:D}{ds:List D}{st:BG}{rest:List BG}{E:gQ}
structure aHO(dv:Array BA)(K:aB)(x qual:Str)(st:BG)(f:BC)(fd:AK):Prop where
 ex:∃ (oc:BA) (od:Option BC) (T:BC) (kV doc pm:BA) (an:Option BC) (cdv ct:BA) (osl:Array (Option BA)) (tc:BA) (td:Option BC) (n:Nat) (tsl:Array (Option BA)),
  fd=bW x qual (dN st) (cQ st) (aT st) (.ref T) kV doc pm an cdv ct/\K.lookup f=some ⟨oc,od,.func fd,osl⟩/\dL K cdv qual=true/\K.lookup T=some ⟨tc,td,.seq dv n,tsl⟩
 kp:bZ K (.ref f)=true
structure CalleeE(xs:List BA)(P:AG)(w:AI)(K:aB)(mg:Str->Option BA)(base:BE)(x:Str)(k n:Nat)(C:List D->R->Prop):Prop where
 ex:∃ (f:BC) (fd:AK) (ps:List Str),mg x=some (.ref f)/\bZ K (.ref f)=true/\Binds K fd ps []/\Binds K fd ps xs/\FnOk P w K mg base CX0 k f fd ps (spC K n C)
theorem CalleeE.full{xs:List BA}{P:AG}{w:AI}{K:aB}{mg:Str->Option BA}{base:BE}{x:Str}{k n:Nat}{C:List D->R->Prop}(G:CalleeE xs P w K mg base x k n C):aS P w K mg base x k n C:=by obtain⟨f,fd,ps,a,b,c,_,d⟩:=G.ex;exact⟨f,fd,ps,a,b,c,d⟩
theorem aAd{dv:Array BA}{xs:List BA}{P:AG}{w:AI}{K:aB}{mg:Str->Option BA}{base:BE}{x qual:Str}{f:BC}{fd:AK}{N ps:List Str}{k:Nat}{C:List D->R->Prop}(F:aHO dv K x qual st f fd)(S:iI N ps (aT st))
  (hm:mg x=some (.ref f)) (hb:∀ (s:AA) (T:BC) (o:BF) (nn:Nat) (kV doc pm:BA) (an:Option BC) (cdv ct:BA) (us:List BA),s.heap.get? T=some o->o.data=.seq dv nn->us.length=ps.length->BindsTo s (bW x qual (dN st) (cQ st) (aT st) (.ref T) kV doc pm an cdv ct) ⟨us,[]⟩ (ps.zip us))
  (hb2:∀ (s:AA) (T:BC) (o:BF) (nn:Nat) (kV doc pm:BA) (an:Option BC) (cdv ct:BA) (us:List BA),s.heap.get? T=some o->o.data=.seq dv nn->us.length+xs.length=ps.length->BindsTo s (bW x qual (dN st) (cQ st) (aT st) (.ref T) kV doc pm an cdv ct) ⟨us,[]⟩ (ps.zip<|us++xs))
  (body:∀ (cdv:BA) (A:BD) (outer:List Env) (s:AA) (H:Hp) (E:XK),Room k (A.deeper (envOfC qual (aT st) s.heap.objs.size f cdv))→∀ds r,ds.length=ps.length→C ds r→
   PSd (kA CX0 P w K mg base N qual (aT st) f cdv A outer s H E).nox (init N.length ds) (cQ st) {nx:=λ_=>r=.val .non,rt:=λr'=>r'=r}):CalleeE xs P w K mg base x (k+1) ps.length C:=by
 obtain⟨oc,od,T,kV,doc,pm,an,cdv,ct,osl,tc,td,n,tsl,rfl,lk,hcd,lT⟩:=F.ex;refine⟨f,bW x qual (dN st) (cQ st) (aT st) (.ref T) kV doc pm an cdv ct,ps,hm,F.kp,λs us KX hl=> ?_,λs us KX hl=> ?_, ?_⟩
 ·rw[cS] at hl ⊢;exact hb s T _ n kV doc pm an cdv ct us (KX T _ lT) rfl hl
 ·exact hb2 s T _ n kV doc pm an cdv ct us (KX T _ lT) rfl (by rw[<-hl,aJ])
 ·refine aEn lk hcd S (λvs H Q E h=>h.1) λA outer s H vs Q E hr h=> ?_
  obtain⟨hl,sm,ds,r,rl,c,q⟩:=h;have hds:ds.length=ps.length:=by rw[<-rl.len];exact hl
  refine⟨_,pss_w.nox, ?_⟩;have hlen:N.length-vs.length=N.length-ds.length:=by rw[rl.len]
  have S0:StF K H H H (L2.start N vs) (init N.length ds):=by
   refine⟨Same.refl _,Same.refl _,sm, ?_, ?_⟩
   ·unfold L2.start init;rw[hlen];exact iX (m:=0) rl
   ·unfold init;rw[iS];exact fS
  refine(body cdv A outer s H E hr ds r hds c (L2.start N vs) H H S0).imp ?_ ?_ (λ_ _ ⟨_,_,_,_,z⟩=>z) λ_ _ ⟨_,_,_,_,z⟩=>z
  ·rintro σ' H' ⟨sd',F',S',s',e⟩;have e:r=.val .non:=e;subst e;exact q .non H' ⟨F',S'.base,S'.sub,S'.smp,by simp only[ResOk,Rep]⟩
  ·rintro v H' ⟨r',ro,e⟩;have e:r'=r:=e;subst e;exact q v H' ro
theorem aEF{K:aB}{x qual:Str}{f T:BC}{oc kV doc pm cdv ct tc:BA}{od an td:Option BC}{osl tsl:Array (Option BA)}{n:Nat}{dv:Array BA}
  (l:K.lookup f=some ⟨oc,od,.func<|bW x qual (dN st) (cQ st) (aT st) (.ref T) kV doc pm an cdv ct,osl⟩) (c:dL K cdv qual=true) (k:bZ K (.ref f)=true) (t:K.lookup T=some ⟨tc,td,.seq dv n,tsl⟩):
  aHO dv K x qual st f (bW x qual (dN st) (cQ st) (aT st) (.ref T) kV doc pm an cdv ct):=⟨⟨_,_,_,_,_,_,_,_,_,_,_,_,_,_,rfl,l,c,t⟩,k⟩
variable {pins:List (BC×BF)}{σ:St}{H F:Hp}{s:AA}{a:BC}{cls:BA}
theorem tM{oe:BF}(I:Inv X pins σ H s)(hn:H a=none)(he:s.heap.get? a=some oe)(h0:X.s₀.heap.get? a=none)(hl:X.env.locals≠a)(hc:∀v,oe.data≠ .cell v)(hp:∀p∈X.pn++pins,p.1≠a):Inv X pins σ (upd H a<|exO a oe) s:=by
 have nn:∀ {b o},H b=some o->b≠a:=λe z=>by rw[z,hn] at e;cases e
 refine⟨I.ok,I.os,I.bare,⟨I.base.keep,I.base.slot,λb o e n hx=> ?_,I.base.there,λb xs e=> ?_,λb u xs e=> ?_,λb ps e=> ?_⟩,I.loc,I.cell, ?_,λx c e=> ?_,λp hp'=> ?_,λb u e=> ?_,I.len⟩
 ·rw[aX λz=>by rw[z,h0] at e;cases e];exact I.base.free b o e n hx
 ·have q:=I.base.tups b xs e;rw[aX<|nn q];exact q
 ·have q:=I.base.frzs b u xs e;rw[aX<|nn q];exact q
 ·obtain⟨m,q⟩:=I.base.tbls b ps e;exact⟨m,by rw[aX<|nn q];exact q⟩
 ·rw[aX hl];exact I.free
 ·have ne:c≠a:=λz=>by obtain⟨v,o,g,d⟩:=I.cell x c e;rw[z,he] at g;cases g;exact hc v d
  rw[aX ne];exact I.freeC x c e
 ·obtain⟨g,n,r⟩:=I.pin p hp';exact⟨g,by rw[aX<|hp p hp'];exact n,r⟩
 ·by_cases hb:b=a
  ·subst hb;rw[bA] at e;cases e;exact yP he
  ·rw[aX hb] at e;exact(I.hok b u e).stay (λc v _ q=>q) (λc q=>by rw[aX<|nn q];exact q) λc xs q=>by rw[aX<|nn q];exact q
theorem qX{C:BC}{cv:V}{u:BA}{k:Bool}(xc:aGf X.K C)(ru:∀u',RelV cv u'->u'=u)(hk:bO X.K (.ref C) u=some k):
  jO X (.builtin "isinstance") (λxs H Q=>(∃ad oe,xs=[.ref ad,cv]/\H ad=some (exO ad oe)/\oe.cls=.ref C)/\Q (.bl k) H):=by
 intro pins s σ H xs us Q I r h;obtain⟨⟨ad,oe,rfl,g,hc⟩,q⟩:=h;obtain⟨u1,u2,rfl,r1,r2⟩:=xQ r;cases(show u1=Value.ref ad from r1);have e:=ru u2 r2;subst e;exact cX (aDa xc) I.kIn ⟨oe,(I.hok ad _ g).1,hc⟩ hk (by intro q;cases q) λtk=>⟨.bl k,H,I.tok tk,rfl,q⟩
theorem aEZ:AS "ValueError"=some (.type "ValueError"):=by boot_by_name
noncomputable abbrev jV(C t:BC):BF:={cls:=.ref C,data:=.fields #[.ref t,.none,.none,.none,.bool false,.none]}
noncomputable abbrev aJD(us:List BA):BF:={cls:=.type "tuple",data:=.seq us.toArray}
noncomputable def hpE(h:BE)(C:BC)(us:List BA):BE:=(h.push<|aJD us).push<|jV C h.objs.size
section
variable {h:BE}{C N fI:BC}{us:List BA}{nm q:Str}{bs bm bmB:List BA}{hdct:Bool}{sn:List Str}{sub:List BA}{ab:Bool}{col:Option Bool}{dd:Option BC}{k0 k1 k2 k3 k5:Option BA}{B newId initId:String}{mN:Str->Option BA}{oI:BF}{prog:AG}{w:AI}{A:BD}{E:BA->AA->Prop}{g:Array GenState}{d:Drawn}{t:Nat}{os:OsState}
theorem nJ{b:BC}{o:BF}(e:h.get? b=some o):(hpE h C us).get? b=some o:=aH _<|aH _ e
theorem aDN:(hpE h C us).get? (h.objs.size+1)=some (jV C h.objs.size):=by
 have:=bT (h.push<|aJD us) (o:=jV C h.objs.size) rfl
 rwa[aHG] at this
theorem zM(F:ExcBaseFacts B newId initId bmB)(T:OwnTail h bmB bm){Q:Fin->AA->Prop}(hC:h.get? C=some (excClassObj nm q C N bs bm hdct sn sub ab col dd k0 k1 k2 k3 k5 newId))(hn:h.Ns N mN)(hi:mN "__init__"=some (.ref fI))(hf:PySem.W.Looks (AF prog w) (hpE h C us) (typeOf<|.ref fI) (.type "function"))
  (k:AE (AF prog w) A (call (.ref fI) (.ref (h.objs.size+1)::us)) (λr s'=>r=.none/\Q (.done<|.ret (.ref<|h.objs.size+1)) s') E ⟨hpE h C us,g,d,t,os⟩) (hl:us.length<=AH):
  AE (AF prog w) A (Builtin.«type.__call__» ⟨.ref C::us,[]⟩) Q E ⟨h,g,d,t,os⟩:=by
 repeat (first|with_reducible refine AO hC ?_|with_reducible refine wpAny_madeBy_exc hC ?_|wp_step)
 refine codeAny_call_builtin_code (Code.quiet_builtin _ F.quiet)<|wpAny_check_new_subT F T hC ?_;refine codeAny_exc_new_subT F T hC ?_ hl
 change AE _ _ _ _ _ (⟨hpE h C us,g,d,t,os⟩:AA)
 have c1:(hpE h C us).get? C=_:=nJ hC;have e1:(hpE h C us).get? (h.objs.size+1)=some (jV C h.objs.size):=aDN;have me:(Value.ref C::bm).contains (.ref C)=true:=by simp
 unfold isInstance
 repeat (first|with_reducible refine AO e1 ?_|(with_reducible refine wpAny_isSubtype_exc c1 ?_;rw[me])|wp_step)
 change AE _ _ (typeLookup (.ref C) _) _ _ _
 refine wpAny_typeLookup_tail c1 (hn.keeps λ_ _ e=>nJ e) (T.keeps λ_ _ e=>nJ e) F.mroIs F.init.lookup ?_;rw[hi];refine AQ<|AB ?_;unfold bindSpecial;refine AB<|hf.here (s:=⟨hpE h C us,g,d,t,os⟩) ?_;rw[if_pos<|by decide];refine AD (AB<|AN k (λr s' hr=> ?_) λ_ _ x=>x);obtain⟨rfl,hQ⟩:=hr
 wp_walk
 exact hQ
theorem aAR(F:ExcBaseFacts B newId initId bmB)(T:OwnTail h bmB bm){Q:BA->AA->Prop}(hC:h.get? C=some (excClassObj nm q C N bs bm hdct sn sub ab col dd k0 k1 k2 k3 k5 newId))(hn:h.Ns N mN)(hi:mN "__init__"=some (.ref fI))(hf:PySem.W.Looks (AF prog w) (hpE h C us) (typeOf<|.ref fI) (.type "function"))
  (k:AE (AF prog w) (A.under<|.builtin "type.__call__" ⟨.ref C::us,[]⟩) (call (.ref fI) (.ref (h.objs.size+1)::us)) (λr s'=>r=.none/\Q (.ref<|h.objs.size+1) s') E ⟨hpE h C us,g,d,t,os⟩) (hl:us.length<=AH):
  AE (AF prog w) A (call (.ref C) us) Q E ⟨h,g,d,t,os⟩:=by
 have f1:=tc_lookup;have f2:=tc_bind<|.ref C;have hT:(⟨h,g,d,t,os⟩:AA).TypeIs (.ref C) "type":=⟨_,hC,rfl⟩;refine wpAny_call<|codeAny_of_tree ?_
 change AE _ _ (callAny (.ref C) _) _ _ _
 repeat (any_goals (first|assumption|with_reducible refine AO hC ?_|wp_step))
 refine⟨rfl, ?_⟩;exact codeAny_call_builtin_at (Code.quiet_builtin _<|by decide+kernel) entry_typeCall (wpAny_check_type_call_sub hC<|zM F T hC hn hi hf k hl)
end
section
variable {h:BE}{C N e t0:BC}{v:BA}{nm q:Str}{bs bm bmB:List BA}{hdct:Bool}{sn:List Str}{sub:List BA}{ab:Bool}{col:Option Bool}{dd:Option BC}{k0 k1 k2 k3 k5:Option BA}{B newId initId:String}{prog:AG}{w:AI}{A:BD}{E:BA->AA->Prop}{g:Array GenState}{d:Drawn}{t:Nat}{os:OsState}
theorem yG(F:ExcBaseFacts B newId initId bmB)(T:OwnTail h bmB bm){Q:BA->AA->Prop}(hC:h.get? C=some (excClassObj nm q C N bs bm hdct sn sub ab col dd k0 k1 k2 k3 k5 newId))(he:h.get? e=some (jV C t0))
  (k:∀h',(∀b o,b≠e->h.get? b=some o->h'.get? b=some o)->h'.get? e=some (jV C h.objs.size)->Q .none ⟨h',g,d,t,os⟩):
  AE (AF prog w) A (call (.builtin initId) [.ref e,v]) Q E ⟨h,g,d,t,os⟩:=by
 refine wpAny_call (Ad F.init.plain F.initEntry<|wpAny_check_init_subT F T hC he rfl ?_)
 wp_walk
 refine k _ (λb o hb q=> ?_) ?_
 ·rw[cP _ _<|Ne.symm hb];exact aH _ q
 ·rw[eJ _ (aH _ he) rfl];rfl
end
section
open PySem.W Builtin Builtin.ObjectAttr
variable {prog:AG}{w:AI}{A:BD}{E:BA->AA->Prop}{s:AA}{K:Frag}{C CL x t1:BC}{v:BA}{name:Str}{cd:ClassData}
theorem xset{Q:Unit->AA->Prop}(X:K.In s.heap)(hx:s.heap.get? x=some (jV C t1))(hs:findIn K (.ref C) "__setattr__"=some (some<|.builtin "object.__setattr__"))(ha:findIn K (.ref C) name=some none)(hc:clsIn K C=some cd)(hm:cd.mro=.ref C::.ref CL::rS)(hd:cd.hasDict=true)
  (k:∀h' tk' dx,(∀b o,b≠x->s.heap.get? b=some o->h'.get? b=some o)->s.heap.get? dx=none->h'.get? x=some {jV C t1 with dict:=some dx}->h'.Ns1 dx (λy=>if y=name then some v else none)->Q () {s with heap:=h',toks:=tk'}):
  AE (AF prog w) A (setAttr (.ref x) name v) Q E s:=by
 have I:InstAt s.heap x (jV C t1) C none:=⟨hx,rfl,rfl,trivial⟩;refine set_plain X I hs ?_;have SF:=PySem.F.store_ValueError;have hM:Looks (AF prog w) s.heap (mroOf<|.ref C) cd.mro:=(looks_clsIn X hc).andThen .now;have sub:Looks (AF prog w) s.heap (isInstance (.ref x)<|.type "object") true:=I.type.andThen (looks_mroIn X<|by unfold mroIn;rw[hc,Option.bind_some,if_neg (by rw[hm];simp),hm];rfl);refine Ad SF.slot.plain SF.entry<|@check_slot (AF prog w) _ _ {s with toks:=s.toks+1} "object.__setattr__" "object" "__setattr__" (.ref x) [.str name s.toks,v] [] _ SF.kind SF.split sub (SF.args (.ref x) (.str name s.toks) v) ?_;rw[osa_eq,refuse_eq];refine AB (AB<|I.type.here (s:={s with toks:=s.toks+1}) (AB<|hM.here (s:={s with toks:=s.toks+1}) ?_));rw[hm,refuseLoop_ref,refuseLoop_ref,show refuseLoop (.ref x) "__setattr__" rS=pure () from SF.passes _];refine AD<|AB (I.type.here (s:={s with toks:=s.toks+1})<|AB ((looks_findIn X ha).here (s:={s with toks:=s.toks+1})<|AB ?_));refine AD ?_;show AE _ _ (storeInOwnDict _ _ _ _ _ _) _ _ _;refine AB (AD<|AB (AB<|wpAny_loadPart (s:={s with toks:=s.toks+1}) hx (AB<|(looks_clsIn X hc).here (s:={s with toks:=s.toks+1}) ?_)));rw[hd];show AE _ _ (alloc {cls:=.type "dict",data:=.dict #[]}>>=_) _ _ _;have x1:(s.heap.push {cls:=.type "dict",data:=.dict #[]}).get? x=some (jV C t1):=aH _ hx;have nx:x≠s.heap.objs.size:=bG<|aO hx;refine AB (wpAny_alloc'<|AB (wpAny_update' x1<|AD ?_))
 have gd:((s.heap.push {cls:=.type "dict",data:=.dict #[]}).update x λo=>{cls:=o.cls,dict:=some s.heap.objs.size,data:=o.data,slots:=o.slots}).get? s.heap.objs.size=some {cls:=.type "dict",data:=.dict #[]}:=
  (aBL _ _ _ _ nx.symm).trans (bT _ rfl)
 have gx:((s.heap.push {cls:=.type "dict",data:=.dict #[]}).update x λo=>{cls:=o.cls,dict:=some s.heap.objs.size,data:=o.data,slots:=o.slots}).get? x=some {jV C t1 with dict:=some s.heap.objs.size}:=eJ _ x1 rfl
 have ko:∀b o,b≠x->s.heap.get? b=some o->((s.heap.push {cls:=.type "dict",data:=.dict #[]}).update x λo=>{cls:=o.cls,dict:=some s.heap.objs.size,data:=o.data,slots:=o.slots}).get? b=some o:=λb o ne q=>(aBL _ _ _ _ ne).trans<|aH _ q
 generalize ((s.heap.push {cls:=.type "dict",data:=.dict #[]}).update x λo=>{cls:=o.cls,dict:=some s.heap.objs.size,data:=o.data,slots:=o.slots})=h1 at gd gx ko;have nd:h1.Ns s.heap.objs.size (λ_=>none):=⟨_, #[],_,gd,rfl,λe he=>absurd he<|by simp,λ_=>rfl⟩;show AE _ _ (storeInDict s.heap.objs.size _ _ _) _ _ _;unfold storeInDict newKeyGuard;refine AB<|AD (AB<|wpAny_nsSet1 (Heap.Ns1.of_empty nd) λh' hn' hs'=> ?_);obtain⟨oD,esD,epD,hoD,hdD,hcD⟩:=hn'.count<|Within.cons name v Within.nil;refine AB<|wpAny_lookBehind hoD (by rw[hdD];exact pastItsLine_dict (bM hcD<|by rw[bX,fC,Ab];omega)) ?_
 wp_walk
 exact k h' _ s.heap.objs.size (λb o ne q=>(hs'.2 b (bG<|aO q)).trans<|ko b o ne q) (iD<|aR _) ((hs'.2 x nx).trans gx) hn'
end
noncomputable def wV(acc:Str):List Str->Str
 |[]=>acc
 |z::zs=>wV (acc++z) zs
theorem vP:∀ (zs:List Str) (acc:Str),acc.length<=(wV acc zs).length
 |[],acc=>aR _
 |z::zs,acc=>bM (by rw[strLen_append];omega) (vP zs<|acc++z)
variable {a:Expr}
theorem aFd{i:Int}(h:PEd X sd e (.val<|.int i))(hi:i.natAbs.log2<1920):PEd X sd (.FormattedValue e (-1) none pos) (.val (.str<|toString i)):=.mk λσ F H S pins s I=>by refine wpAny_FormattedValue_plain (thn (h σ F H S pins s I) λv s1 ⟨x,H1,I1,r1,F1,S1,sF,q1⟩=> ?_);simp only[ResOk,Rep] at q1;subst q1;obtain⟨t,rfl⟩:=r1;refine wpAny_formatField_int hi ?_;exact⟨.str _,H1,I1.tok _,⟨_,rfl⟩,F1,S1,sF,by simp only[ResOk,Rep]⟩
structure PJ(X:Cx)(sd:List Slot)(es:List Expr)(zs:List Str):Prop where
 run:∀ (σ:St) (F H:Hp),StF X.K X.B₀ F H σ sd->∀ (pins:List (BC×BF)) (s:AA),Inv X pins σ H s->∀ (acc:Str) (Q:Str->AA->Prop),(wV acc zs).length<=AH->
  (∀s1 H1 F1,Inv X pins σ H1 s1->StF X.K X.B₀ F1 H1 σ sd->Same F F1->Q (wV acc zs) s1)->Joins (AF X.prog X.w) X.A X.xe (evalEach es X.env) acc Q s
theorem aGy:PJ X sd [] []:=⟨λσ F H S pins s I acc Q _ k=>k s H F I S<|Same.refl _⟩
theorem aAz{z:Str}{zs:List Str}(h:PEd X sd e (.val (.str z)))(t:PJ X sd es zs)(he:evalEach (e::es) X.env=eval e X.env::evalEach es X.env:=by rfl):PJ X sd (e::es) (z::zs):=⟨fun σ F H S pins s I acc Q hl k=>by
 rw[he];refine thn (h σ F H S pins s I) λv s1 ⟨x,H1,I1,r1,F1,S1,sF,q1⟩=> ?_
 simp only[ResOk,Rep] at q1;subst q1;obtain⟨u,rfl⟩:=r1
 refine⟨z,u,rfl,bM (vP zs (acc++z)) hl,t.run σ F1 H1 S1 pins s1 I1 (acc++z) Q hl λs2 H2 F2 I2 S2 s2'=>k s2 H2 F2 I2 S2 (sF.trans s2')⟩⟩
theorem aBa{e1 e2:Expr}{zs:List Str}(h:PJ X sd (e1::e2::es) zs)(hl:(wV Str.empty zs).length<=100000):PEd X sd (.JoinedStr (e1::e2::es) pos) (.val (.str<|wV Str.empty zs)):=.mk λσ F H S pins s I=>by
 have hz:(wV Str.empty zs).length<=AH:=by rw[Ab];omega
 refine wpAny_JoinedStr<|h.run σ F H S pins s I Str.empty _ hz λs1 H1 F1 I1 S1 sF=>⟨hz, ?_⟩;exact⟨.str _,H1,I1.tok _,⟨_,rfl⟩,F1,S1,sF,by simp only[ResOk,Rep]⟩
def AtG(fn:Str)(i:Int)(F:Hp)(dx:BC):Prop:=∃od u,F dx=some (exO dx od)/\RelV (.int i) u/\∀h:BE,h.get? dx=some od->h.Ns1 dx (λy=>if y=fn then some u else none)
noncomputable def vC(C t:BC)(y:Option (BC×Int)):BF:={jV C t with dict:=y.map (·.1)}
noncomputable def exZ(K:aB)(fn:Str)(C:BC):Lent K where
 α:=BC×BC×Option (BC×Int)
 ad x:=x.1
 own x:=[x.1]
 G x v F H:=v=.ref x.1/\H x.1=some (exO x.1<|vC C x.2.1 x.2.2)/\∀y,x.2.2=some y->AtG fn y.2 F y.1
 hv h:=h.1
theorem aHk{K:aB}{fn:Str}{C:BC}(a:(exZ K fn C).α)(v:V)(F H:Hp)(b:BC)(o:HO)(g:(exZ K fn C).G a v F H)(hb:b∈(exZ K fn C).own a)(e:H b=some o):¬ uX o:=by have hb:b=a.1:=bP.mp hb;subst hb;rw[g.2.1] at e;cases e;exact λz=>z
noncomputable def aHR(K:aB)(C CL fI:BC):Bool:=match K.lookup C with
 | some ⟨.type "type",_, .cls cd,sl⟩=>(match sl.toList with
  |[_,_,_,_,some<|.builtin n,_]=>cd.mro==.ref C::.ref CL::rS&&n=="ValueError.__new__"&&!cd.hasDel&&PySem.W.tailIn K rS (.ref CL::rS)&&PySem.W.nsOkIn K cd.ns&&dD K cd.ns "__init__"==some (some<|.ref fI)&&cd.hasDict
  |_=>false)
 |_=>false
theorem aEy{K:aB}{h:BE}{N:BC}{m:Str->Option BA}{n:Str}{v:BA}(X:K.In h)(G:h.Ns N m)(e:dD K N n=some (some v)):m n=some v:=by
 obtain⟨o,es,ep,ho,hd,_,hf⟩:=G;unfold dD at e
 split at e
 ·rename_i q;have w:=X _ _ q;rw[ho] at w;cases w;cases hd
  split at e
  ·rename_i he;cases e;rw[<-hf];unfold nsFind findBy;rw[<-aBK,he];rfl
  ·split at e<;>cases e
 ·cases e
theorem pB{K:aB}{h:BE}{C CL fI:BC}(X:K.In h)(q:aHR K C CL fI=true):
  ∃N nm q bs sn sub ab col dd k0 k1 k2 k3 k5 mN,h.get? C=some (excClassObj nm q C N bs (.ref CL::rS) true sn sub ab col dd k0 k1 k2 k3 k5 "ValueError.__new__")/\h.Ns N mN/\mN "__init__"=some (.ref fI)/\OwnTail h rS (.ref CL::rS)/\∃cd,lS K C=some cd/\cd.mro=.ref C::.ref CL::rS/\cd.hasDict=true:=by
 unfold aHR at q
 split at q
 ·rename_i dd cd sl ho
  split at q
  ·rename_i k0 k1 k2 k3 n k5 hs;simp only[aW,beq_iff_eq,jY] at q;obtain⟨⟨⟨⟨⟨⟨hm,rfl⟩,hdel⟩,ht⟩,hok⟩,hni⟩,hdi⟩:=q;have hcl:lS K C=some cd:=by unfold lS;rw[ho]
   refine⟨cd.ns,cd.name,cd.qualname,cd.bases,cd.slotNames,cd.subclasses,cd.abstract,cd.collection,dd,k0,k1,k2,k3,k5,_, ?_,.of_isNs<|aAa X hok,aEy X (.of_isNs<|aAa X hok) hni,PySem.W.tail_of_in X ht,cd,hcl,hm,hdi⟩;rw[X _ _ ho];obtain⟨nm,bs,mro,ns,qn,hd,sn,sub,ab,col,del⟩:=cd;dsimp only at hm hdel hdi;subst hm hdel hdi
   have hsl:sl= #[k0,k1,k2,k3,some<|.builtin "ValueError.__new__",k5]:=by obtain⟨l⟩:=sl;simp only at hs;rw[hs]
   subst hsl;rfl
  ·cases q
 ·cases q
structure XIn(K:aB)(mg:Str->Option BA)(fn:Str)(C CL fI:BC):Prop where
 ex:aHR K C CL fI=true
 sa:cN K (.ref C) "__setattr__"=some (some<|.builtin "object.__setattr__")
 fa:cN K (.ref C) fn=some none
 mgL:mg "LeastError"=some (.ref CL)
 ga:jI K (.ref CL) "__getattribute__"=some (some<|.builtin "type.__getattribute__")
 rd:aDn K CL (.type "type")=true
 fc:aDo K (.ref CL) (.type "type") "__init__"=some (.val<|.builtin "ValueError.__init__")
variable {e2:Expr}{p1 p2 ap cp:Pos}{z:Str}{fn:Str}{C CL fI a t:BC}
theorem aCr{pl:Sem Bool}(xi:XIn X.K X.mg fn C CL fI)(hs:sd[0]? =some ((exZ X.K fn C).sl (a,t,none)))(hx:PE X (.Name "self" p2) (lM 0))(hg:Gl X "LeastError")(he:PEd X sd e2 (.val<|.str z))(hE:∀t',E.nx (sd.set 0<|(exZ X.K fn C).sl (a,t',none)))
  (hst:AC (.Name "self" p2::[e2]) X.env=(false,eval (.Name "self" p2) X.env)::AC [e2] X.env:=by rfl) (hst2:AC [e2] X.env=(false,eval e2 X.env)::AC [] X.env:=by rfl) (hpl:(AZ cp<|AC [e2] X.env).any (·.1)=false:=by rfl)
  (hsw:Ae (.Call (.Attribute (.Name "LeastError" p1) "__init__" ap) [.Name "self" p2,e2] [] cp) none pos.line X.env=pure false:=by rfl)
  (ht:eval (.Call (.Attribute (.Name "LeastError" p1) "__init__" ap) [.Name "self" p2,e2] [] cp) X.env=(do
   let ov <-eval (.Name "LeastError" p1) X.env
   standAt ap.atName
   let (f,first) <-holding [ov] (getMethod ov "__init__" pl)
   callWith cp f first (AZ cp (AC [.Name "self" p2,e2] X.env)) (backToKw cp (keywordEach [] X.env))):=by rfl):
  PSd1 X sd (.Expr (.Call (.Attribute (.Name "LeastError" p1) "__init__" ap) [.Name "self" p2,e2] [] cp) pos) E:=.mk λσ F H S=>
 (pE dX hsw).to λpins s I=>by
  obtain⟨o0,h1,v,h2,ow,gg⟩:=S.slots.get hs;have g0:=(gg F H (Same.refl _) λ_ _ _ e=>e).1;subst h2 g0;refine PySem.W.methodCall_KW (pl:=pl) (mP I hg xi.mgL ?_) ht;refine PySem.W.method_cls I.kIn xi.ga<|PySem.W.cls_value I.kIn xi.rd xi.fc rfl ?_;have I':=I.tok<|s.toks+1;refine PyProof.Rows.callWith_builtin1 (thn ((gF hx (gF dX pa_nil hst2) hst) cp pins _ σ H (λvs H'=>∃u F1,vs=[.ref a,u]/\StF X.K X.B₀ F1 H' σ sd/\Same F F1) I' ⟨_,h1,(he σ F H S).imp λu H1 ⟨F1,S1,s1,q1⟩=>⟨u,F1,rfl,S1,s1⟩⟩) λus s1 ⟨vs,H1,I1,r1,u,F1,ev,S1,sF⟩=> ?_) hst hpl;subst ev;obtain⟨u1,u2,rfl,ru1,ru2⟩:=xQ r1;cases(show u1=Value.ref a from ru1);obtain⟨o1,g1,v',g2,ow1,gg1⟩:=S1.slots.get hs;have G1:=gg1 F1 H1 (Same.refl _) λ_ _ _ e=>e
  have ho:s1.heap.get? a=some (jV C t):=(I1.hok a _ G1.2.1).1;obtain⟨N,nm,q,bs,sn,sub,ab,col,dd,k0,k1,k2,k3,k5,mN,hC,_,_,T,_⟩:=pB I1.kIn xi.ex;obtain⟨hp,gs,dr,tk,os⟩:=s1;refine yG rL T hC ho λh' kk hn=> ?_
  have I2:=I1.write (x:=a) (e:=a) (o:=exO a<|jV C hp.objs.size) (t':=tk) (by rw[G1.2.1];exact True.intro) (.inl rfl) kk ⟨_,hn⟩<|yP hn;refine⟨.non,_,I2,rfl,_,F1,S1.reX (H':=upd H1 a (exO a<|jV C hp.objs.size)) (z':=(exZ X.K fn C).sl (a,hp.objs.size,none)) hs g1 (λb ob hb e=> ?_) (xN S1.smp a) ⟨v',g2,λb hb=> ?_,λF' H' s k=>⟨G1.1,k a (by simp[exZ]) _ bA,λy hy=>by cases hy⟩⟩ (by simp[fV,Lent.sl,exZ]) λb hb=>.inl hb,sF,hE _⟩
  ·rw[aX λz=>hb<|by rw[z];simp[fV,Lent.sl,exZ]];exact e
  ·have hb:b=a:=bP.mp hb;subst hb;exact⟨(ow1 _<|by simp[exZ]).1,_,bA,_,rfl,λv z=>by cases z⟩
theorem aDf{b:BC}{x y:HO}(ne:a≠b):upd (upd H a x) b y=upd (upd H b y) a x:=by
 funext c;unfold upd
 by_cases h1:c=a
 ·subst h1;simp[ne]
 ·simp[h1]
theorem aCk{i:Int}(xi:XIn X.K X.mg fn C CL fI)(hs:sd[0]? =some ((exZ X.K fn C).sl (a,t,none)))(hx:PE X (.Name "self" p2) (lM 0))(he:PEd X sd e2 (.val<|.int i))(hE:∀dx,E.nx (sd.set 0<|(exZ X.K fn C).sl (a,t,some (dx,i))))(hex:X.ex=[]:=by rfl)
  (hsw:Ae e2 (some<|.Attribute (.Name "self" p2) fn ap) pos.line X.env=pure false:=by rfl):
  PSd1 X sd (.Assign [.Attribute (.Name "self" p2) fn ap] e2 pos) E:=.mk λσ F H S pins s I=>by
 refine plainObj_wpAny_Assign_Attribute (thn (he σ F H S pins s I) λu s1 ⟨v,H1,I1,rv,F1,S1,sF,q1⟩=> ?_) hsw;simp only[ResOk,Rep] at q1;subst q1;obtain⟨o1,g1,v',g2,ow1,gg1⟩:=S1.slots.get hs;have G1:=gg1 F1 H1 (Same.refl _) λ_ _ _ e=>e
 have ev:=G1.1;subst g2 ev;refine thn (hx pins s1 σ H1 (λv H2=>v=.ref a/\H2=H1) I1 ⟨.ref a,g1,rfl,rfl⟩) λov s2 ⟨y,H2,I2,ry,e1,e2⟩=> ?_
 subst e1 e2;obtain rfl:ov=Value.ref a:=ry;have ho:s2.heap.get? a=some (jV C t):=(I2.hok a _ G1.2.1).1;obtain⟨N,nm,q,bs,sn,sub,ab,col,dd,k0,k1,k2,k3,k5,mN,_,_,_,_,cd,hc,hm,hd⟩:=pB I2.kIn xi.ex;refine xset I2.kIn ho xi.sa xi.fa hc hm hd λh' tk' dx kk nd hn ns=> ?_
 obtain⟨od,es,ep,hod,rest⟩:=ns
 have nda:dx≠a:=λz=>by rw[z,ho] at nd;cases nd
 have n0:H2 dx=none:=by
  cases g:H2 dx with
  |none=>rfl
  |some u=>obtain⟨ob,w⟩:=pN<|I2.hok dx u g;rw[nd] at w;cases w
 have I3:=I2.write (x:=a) (e:=a) (o:=exO a (vC C t<|some (dx,i))) (t':=tk') (by rw[G1.2.1];exact True.intro) (.inl rfl) kk ⟨_,hn⟩<|yP hn
 have nl:X.env.locals≠dx:=λz=>by obtain⟨m,⟨o,_,_,w,_⟩,_⟩:=I2.loc;rw[z,nd] at w;cases w
 have I4:=tM (a:=dx) I3 (by rw [aX nda]; exact n0) hod (by
  cases g:X.s₀.heap.get? dx with
  |none=>rfl
  |some o=>
   obtain⟨o1,w⟩:=I2.base.there dx o g (λhb=>by rw[hex] at hb;cases hb);rw[nd] at w
   cases w) nl (λv z=>by rw[rest.1] at z;cases z) λp hp z=>by
   have:=(I2.pin p hp).1;rw[z,nd] at this;cases this
 rw[aDf nda.symm] at I4;obtain⟨S2,s2'⟩:=S1.lay (o:=exO dx od) n0 trivial;refine⟨σ,_,I4,_,_,S2.reX (H':=upd (upd H2 dx<|exO dx od) a<|exO a (vC C t<|some (dx,i))) (z':=(exZ X.K fn C).sl (a,t,some (dx,i))) hs g1 (λb ob hb e=> ?_) (xN S2.smp a) ⟨_,rfl,λb hb=> ?_,λF' H' s k=>⟨rfl,k a (by simp[exZ]) _ bA,λy hy=> ?_⟩⟩ (by simp[fV,Lent.sl,exZ]) λb hb=>.inl hb,sF.trans s2',hE _⟩
 ·rw[aX λz=>hb<|by rw[z];simp[fV,Lent.sl,exZ]];exact e
 ·have hb:b=a:=bP.mp hb;subst hb;exact⟨by rw[aX nda.symm];exact(ow1 _<|by simp[exZ]).1,_,bA,_,rfl,λv z=>by cases z⟩
 ·have hy:some (dx,i)=some y:=hy;cases hy;exact⟨od,u,s _ _ bA,rv,λh hh=>⟨od,es,ep,hh,rest⟩⟩
def aIl{K:aB}(fn:Str)(C:BC):(exZ K fn C).α->List D->((exZ K fn C).α->Prop)->Prop:=λx ds post=>∃ (a t:BC) (i:Int),x=(a,t,none)/\(0<=i/\i<64)/\ds=[.int i]/\post=λx'=>∃t' dx,x'=(a,t',some (dx,i))
theorem aHf{P:AG}{w:AI}{K:aB}{Z:Lent K}{mg:Str->Option BA}{base:BE}{x qual:Str}{f:BC}{fd:AK}{N ps:List Str}{k:Nat}{C:Z.α->List D->(Z.α->Prop)->Prop}(F:Fun K x qual st f fd)(S:iI N ps (aT st))
  (body:∀ (cdv:BA) (A:BD) (outer:List Env) (s:AA) (H:Hp) (E:XK) (B:Hp) (hB:∀b o,H b=some o→uX o→B b=some o),Room k (A.deeper (envOfC qual (aT st) s.heap.objs.size f cdv))→∀a ds post,ds.length+1=ps.length→C a ds post→
   PSd (reB (kA CX0 P w K mg base N qual (aT st) f cdv A outer s H E).nox B hB) (uL Z N.length a ds) (cQ st) {nx:=λsd'=>∃a',post a'/\sd'[0]? =some (Z.sl a'),rt:=λ_=>False})
  (hw:∀ (a:Z.α) (v:V) (F H:Hp) (b:BC) (o:HO),Z.G a v F H->b∈Z.own a->H b=some o->¬ uX o):FnOk P w K mg base CX0 (k+1) f fd ps (spL Z ps.length C):=by
 refine F.ok S (λvs H Q E h=>h.1) λcdv A outer s H vs Q E hr h=> ?_
 obtain⟨hl,v,us,F0,a,ds,post,rfl,sF,hH,sm,so,nd,rl,c,hp,q⟩:=h;have hds:ds.length+1=ps.length:=by rw[<-rl.len];exact hl
 have hB:∀b o,H b=some o->uX o->F0 b=some o:=λb o e no=>by
  by_cases hbl:b∈Z.own a
  ·obtain⟨_,_,_,gg⟩:=so;exact absurd no<|hw a _ F0 H b o (gg F0 H (Same.refl _) λ_ _ _ e=>e) hbl e
  ·rw[<-hH b hbl];exact e
 refine⟨_,pss_w,aEM (B:=F0) (hb:=hB) ?_⟩;have hlen:N.length-(us.length+1)=N.length-(ds.length+1):=by rw[rl.len]
 have S0:StF K F0 F0 H (L2.start N (v::us)) (uL Z N.length a ds):=by
  refine⟨Same.refl _,sF,sm, ?_, ?_⟩
  ·unfold L2.start uL;show SlotsOk K F0 _ (_::_) (some v::(us.map some++aI (N.length-(us.length+1)) none));rw[hlen];exact⟨_,_,rfl,so,iX (m:=0) rl⟩
  ·unfold uL;rw[lW,iS,cS];exact nd
 refine(body cdv A outer s _ E F0 hB hr a ds post hds c (L2.start N (v::us)) F0 _ S0).imp ?_ ?_ (λ_ _ ⟨_,_,_,_,z⟩=>z) λ_ _ ⟨_,_,_,_,z⟩=>z
 ·rintro σ' H' ⟨sd',F',S',s',a',pa,hs⟩;obtain⟨o,h1,so'⟩:=S'.slots.get hs;obtain⟨v',rfl,ow',gg⟩:=so';have e1:=Z.hv<|gg F' H' (Same.refl _) λ_ _ _ e=>e;obtain⟨v0,ev,_,g0⟩:=so;cases ev;have e0:=Z.hv<|g0 F0 H (Same.refl _) λ_ _ _ e=>e;have evv:v'=v:=by rw[e1,e0,hp a' pa]
  subst evv;exact q H' ⟨F',a',pa,S'.base,S'.sub,S'.smp,⟨v',rfl,ow',gg⟩,pY S'.nd hs⟩
 ·rintro v' H' ⟨r',ro,e⟩;exact e.elim
structure PXn(X:Cx)(sd:List Slot)(e:Expr)(fn:Str)(C:BC)(i:Int):Prop where
 run:∀ (σ:St) (F H:Hp),StF X.K X.B₀ F H σ sd->wE X e σ H λv H'=>∃F' a t dx,v=.ref a/\X.s₀.heap.get? a=none/\StF X.K X.B₀ F' H' σ sd/\Same F F'/\F' a=none/\a∉cA sd/\H' a=some (exO a (vC C t<|some (dx,i)))/\AtG fn i F' dx
variable {p:Pos}{i:Int}{x:Str}{fd:AK}{ps:List Str}{k:Nat}
theorem vZ(xi:XIn X.K X.mg fn C CL fI)(hkp:bZ X.K (.ref C)=true)(hty:rJ X.K (.ref fI)=some (.type "function"))(G:FnOk X.prog X.w X.K X.mg X.base CX0 k fI fd ps (spL (exZ X.K fn C) 2<|aIl fn C))(hb:Binds X.K fd ps [])(hr:Room (k+1) X.A)(hg:Gl X x)(hm:X.mg x=some (.ref C))(ha:PEd X sd e (.val<|.int i))(hi:0<=i/\i<64)(hex:X.ex=[]:=by rfl)
  (hdb:(x==("__debug__":Str))=false:=by decide) (he:AC (e::[]) X.env=(false,eval e X.env)::AC [] X.env:=by rfl) (hpl:(AZ pos<|AC [] X.env).any (·.1)=false:=by rfl):
  PXn X sd (.Call (.Name x p) [e] [] pos) fn C i:=⟨fun σ F H S pins s I=>by
 refine AW<|mP I hg hm ?_ hdb;refine mD (h₀:=X.base) I.ok.mod.kin hkp (thn ((aA ha aE trivial he σ F H S) pos pins s I) λus s1 ⟨vs,H1,I1,r,F1,S1,s1',q1⟩=>⟨I1.kIn, ?_⟩) he hpl;have rl:RepL X.K F1 [.int i] vs:=q1.vals (ds:=[.int i]);obtain⟨N,nm,q,bs,sn,sub,ab,col,dd,k0,k1,k2,k3,k5,mN,hC,hN,hini,T,_⟩:=pB I1.kIn xi.ex
 have hl:us.length<=AH:=by rw[<-r.length,rl.len];show 1<=AH;rw[Ab];omega
 obtain⟨hp,gs,dr,tk,os⟩:=s1;have I2:Inv X pins σ H1 ⟨hpE hp C us,gs,dr,tk,os⟩:=I1.kept (t':=tk) λ_ _ e=>nJ e
 refine aAR rL T hC hN hini (PySem.W.looks_typeIn I2.kIn hty) ?_ hl;have nf:∀b,hp.objs.size<=b->hp.get? b=none:=λb h=>iD h
 have s0:X.s₀.heap.get? (hp.objs.size+1)=none:=by
  cases g:X.s₀.heap.get? (hp.objs.size+1) with
  |none=>rfl
  |some o=>obtain⟨o1,w⟩:=I1.base.there _ o g (λhb=>by rw[hex] at hb;cases hb);rw[nf _<|gA _] at w;cases w
 have I3:=tM (a:=hp.objs.size+1) (oe:=jV C hp.objs.size) I2 (I1.hok.fresh (gA _)) aDN s0 (fun z=>by
   have:=I1.lt;rw[z] at this
   exact absurd this (oF.mpr (gA _))) (λv z=>by cases z) λp hp' z=>by
   have:=(I1.pin p hp').1;rw[z,nf _<|gA _] at this;cases this
 have fr1:H1 (hp.objs.size+1)=none:=I1.hok.fresh<|gA _;obtain⟨S2,fF,no⟩:=S1.layW (p:=hp.objs.size+1) (o:=exO (hp.objs.size+1)<|jV C hp.objs.size) fr1 trivial
 have so:gK X.K F1 (upd H1 (hp.objs.size+1) (exO (hp.objs.size+1)<|jV C hp.objs.size)) ((exZ X.K fn C).sl (hp.objs.size+1,hp.objs.size,none)) (some (.ref<|hp.objs.size+1)):=
  ⟨_,rfl,fun b hb=>by
   have hb:b=hp.objs.size+1:=bP.mp hb;subst hb
   exact⟨fF,_,bA,_,rfl,λv z=>by cases z⟩,λF' H' s k=>⟨rfl,k _ (by simp[exZ]) _ bA,λy hy=>by cases hy⟩⟩
 have sp:spM (exZ X.K fn C) 2 (aIl fn C) (.ref (hp.objs.size+1)::vs) (upd H1 (hp.objs.size+1) (exO (hp.objs.size+1)<|jV C hp.objs.size)) (λv H'=>v=.non/\∃F' a t dx,V.ref (hp.objs.size+1)=.ref a/\X.s₀.heap.get? a=none/\StF X.K X.B₀ F' H' σ sd/\Same F F'/\F' a=none/\a∉cA sd/\H' a=some (exO a (vC C t<|some (dx,i)))/\AtG fn i F' dx) E0:=by
  refine⟨by rw[bX,rl.len];rfl,S2.smp,_,vs,F1,(hp.objs.size+1,hp.objs.size,none),[.int i],_,rfl,S2.sub,so,by simp[exZ],rl,⟨_,_,i,rfl,hi,rfl,rfl⟩, ?_, ?_⟩
  ·rintro a' ⟨t',dx,rfl⟩;rfl
  ·rintro F' H' a' ⟨t',dx,rfl⟩ s2 s3 sm so' nd kp kf;obtain⟨v',ev,ow',gg⟩:=so';have G:=gg F' H' (Same.refl _) λ_ _ _ e=>e
   refine⟨rfl,F',_,t',dx,rfl,s0,⟨λb o e=>s2 _ _<|S1.base _ _ e,s3,sm,S1.slots.mono s2 λb hb=> ?_,S1.nd⟩,s1'.trans s2,(ow' _<|by simp[exZ]).1,no,G.2.1,G.2.2 (dx,i) rfl⟩;obtain⟨n1,ob,e,_⟩:=S2.slots.owns hb
   have nb:b∉(exZ X.K fn C).own (hp.objs.size+1,hp.objs.size,none):=fun z=>no (by
    have:b=hp.objs.size+1:=bP.mp z;rw[<-this]
    exact hb)
   have nb':b≠hp.objs.size+1:=λz=>nb (by rw[z];simp[exZ])
   exact⟨(kf b ob nb e n1).1,λxs e'=>kp b xs nb<|by rw[aX nb'];exact e'⟩
 have hl2:(Value.ref (hp.objs.size+1)::us++[]).length=ps.length:=by rw[cS,bX,<-r.length,<-bX (a:=V.ref<|hp.objs.size+1)];exact(FnOk.framedL G).len _ _ _ _ sp
 refine wpAny_call<|Ag ((FnOk.framedL G).run _ X.stack _ _ ⟨Value.ref (hp.objs.size+1)::us,[]⟩ (Value.ref (hp.objs.size+1)::us++[]) (.ref (hp.objs.size+1)::vs) _ E0 (hr.make C us []) (I3.env0.make C us []) (hb _ (Value.ref (hp.objs.size+1)::us) I3.kIn hl2) (by rw[cS];exact .cons rfl r) sp) λrr s' hq=> ?_;cases rr with
 |error e=>exact hq.elim
 |ok fl=>
  cases fl with
  |ret u=>obtain⟨v,H',I4,rv,ev,q4⟩:=I3.after hq;subst ev;exact⟨rv,.ref<|hp.objs.size+1,H',I4,rfl,q4⟩
  |next=>exact False.elim hq
  |brk=>exact False.elim hq
  |cont=>exact False.elim hq⟩
variable {M:Model}{A:BD}{E:BA->AA->Prop}{base:BE}{env:Env}{outer:List Env}{L e:BC}{oe:BF}{vs:Array BA}{head:BA}{had:Bool}
structure Ent1(fs:List BC)(L e:BC)(oe:BF)(vs:Array BA)(h h':BE)(T:BC):Prop where
 keep:∀b o,b≠e->b∉fs->h.get? b=some o->h'.get? b=some o
 slot:∀b o,b≠e->h.get? b=some o->∃sl,h'.get? b=some {o with slots:=sl}
 at_:h'.get? e=some {oe with data:=.fields (vs.setIfInBounds 1<|.ref T)}
 ne:T≠e
 new:h.get? T=none
 tb:∃oT ts,h'.get? T=some oT/\oT.data=.fields ts/\ts[3]? =some (rawInt L)
theorem aDG{Q:Unit->AA->Prop}(hfr:A.frames=some (env::outer))(hl:s.heap.FunFrames base (env::outer))(hf:env.frame=some L)(he:s.heap.get? e=some oe)(hd:oe.data=.fields vs)(hz:1<vs.size)
  (k:∀h' T,Ent1 ((env::outer).filterMap (·.frame)) L e oe vs s.heap h' T->Q () {s with heap:=h'}):
  AE M A (do let a <-frameOf env;let pl <-entryPlaceOf L had;let b <-EntryCells.newEntry head a .none (rawInt L) .none pl;setField (.ref e) 1 b) Q E s:=by
 have nf:e∉(env::outer).filterMap (·.frame):=λhm=>by obtain⟨_,o,ho,hn⟩:=hl.mem hm;have:oe=o:=bN.inj<|he.symm.trans ho;exact hn vs<|this▸hd
 refine AB (wpAny_frameOf_fun hfr hl hf λh1 so=>AB<|wpAny_entryPlaceOf λpl hpl=> ?_);unfold EntryCells.newEntry newFields;refine AB (AL ?_<|hpl.sizeOk5 _ _ _ _ _);have e1:h1.get? e=some oe:=(so.2.1 e nf).trans he;generalize hts:([head,.ref L,.none,rawInt L,.none]++(if pl.isEmpty then aI 6 Value.none else pl)).toArray=ts
 have t3:ts[3]? =some (rawInt L):=by rw[<-hts];simp
 have e2:(h1.push {cls:=.type "traceback",dict:=none,data:=.fields ts}).get? e=some oe:=aH _ e1;have sz:h1.objs.size=s.heap.objs.size:=so.1;refine wpAny_setField e2 hd hz<|k _ h1.objs.size ⟨λb o ne nb q=> ?_,λb o ne q=> ?_, ?_,gE<|aO e1, ?_,{cls:=.type "traceback",dict:=none,data:=.fields ts},ts, ?_,rfl,t3⟩
 ·rw[cP _ _<|Ne.symm ne];exact aH _<|(so.2.1 b nb).trans q
 ·obtain⟨sl,w⟩:=so.2.2 b o q;refine⟨sl, ?_⟩;rw[cP _ _<|Ne.symm ne];exact aH _ w
 ·rw[eJ _ e2 (Obj.isFreed_of_fields<|Obj.data_mapFields hd _)];obtain⟨c,d,da,sl⟩:=oe;dsimp only at hd;subst hd;rfl
 ·rw[sz];exact iD<|aR _
 ·rw[cP _ _<|Ne.symm (gE<|aO e1)];exact bT h1 rfl
def DkI(fn:Str)(i:Int)(h:BE)(H:Hp)(a:BC):Prop:=∃oe dx,h.get? a=some oe/\oe.dict=some dx/\AtG fn i H dx
variable {Ex:BA->AA->Prop}{T:BC}{oT:BF}{ts:Array BA}
theorem aAO{fr:Option BC}{Q:Unit->AA->Prop}(he:s.heap.get? e=some oe)(hd:oe.data=.fields vs)(h1:vs[1]? =some (.ref T))(hT:s.heap.get? T=some oT)(hdT:oT.data=.fields ts)(hz:3<ts.size)
  (k:∀h',(∀b,b≠T->h'.get? b=s.heap.get? b)->(∃oT' ts',h'.get? T=some oT'/\oT'.data=.fields ts'/\ts'[3]? =some (fr.elim Value.none λf=>rawInt f))->Q () {s with heap:=h'}):
  AE M A (setFlight (.ref e) fr) Q Ex s:=by
 unfold setFlight;refine AB<|Ac he hd h1 ?_;rw[if_pos (show(Value.ref T !=Value.none)=true from by simp)];exact wpAny_setField hT hdT hz<|k _ (λb hb=>cP _ _<|Ne.symm hb) ⟨_,_,eJ _ hT (Obj.isFreed_of_fields<|Obj.data_mapFields hdT _),Obj.data_mapFields hdT _,by simp[hz]⟩
noncomputable def CX2(P:AG)(w:AI)(fn:Str)(C:BC)(i:Int):CXT:=λouter H s E e s'=>∃a T H',e=.ref a/\s'.os=s.os/\AllBare s'.gens/\Un (frs outer) [] H H' s.heap s'.heap/\HOk P w H' s'.heap/\Exc s.heap s'.heap H' a T (.ref C)/\E (.ref a) (some a) H'/\DkI fn i s'.heap H' a
variable {dx:BC}{E:XK}
theorem yI(I:Inv X pins σ H s)(hex:X.ex=[])(hst:X.stack=X.env::X.outer/\X.env.frame=some X.env.locals)(Ha:H a=none)(sa:X.s₀.heap.get? a=none)(he:s.heap.get? a=some (vC C t<|some (dx,i)))(ad:AtG fn i H dx)(hE:E (.ref a) (some a) H):
  AE (AF X.prog X.w) X.A (leaving X.env<|.ref a) (λ_ s''=>CX2 X.prog X.w fn C i X.outer X.H₀ X.s₀ E (.ref a) s'') Ex s:=by
 have fm:=I.ok.frames;rw[hst.1] at fm;have st:=I.stack;have fs:(X.env::X.outer).filterMap (·.frame)=frs X.stack:=by rw[hst.1];rfl
 rw[hst.1] at st;unfold leaving noteFrame;simp only[hst.2];refine AB (AB<|Ac he (vs:= #[.ref t,.none,.none,.none,.bool false,.none]) rfl (x:=.none) rfl ?_);rw[if_neg<|by decide];refine aDG fm st hst.2 he rfl (show 1<6 by decide) λh1 T Z=> ?_
 obtain⟨oT,ts,g1,g2,g3⟩:=Z.tb;refine aAO (s:={s with heap:=h1}) (vs:= #[.ref t,.ref T,.none,.none,.bool false,.none]) Z.at_ rfl rfl g1 g2 (fR.mp g3).1 λh2 k2 ⟨oT2,ts2,w1,w2,w3⟩=> ?_
 have Ta:T≠a:=Z.ne;have g2e:h2.get? a=some {vC C t (some (dx,i)) with data:=.fields #[.ref t,.ref T,.none,.none,.bool false,.none]}:=(k2 a<|Ne.symm Ta).trans Z.at_
 have nT:∀b o,s.heap.get? b=some o->b≠T:=λb o q z=>by rw[z,Z.new] at q;cases q
 have fu:Heap.FunFrames s.heap (rQ s.heap<|frs X.stack++[a]) X.stack:=sA I.env0.funs λb hb=>uC<|cE _ hb
 have na:∀b o,s.heap.get? b=some o->(∀vs,o.data≠ .fields vs)->b≠a:=λb o q nf z=>by rw[z,he] at q;cases q;exact nf _ rfl
 have up:∀b o,s.heap.get? b=some o->(∀vs,o.data≠ .fields vs)->∃sl,h2.get? b=some {o with slots:=sl}:=λb o q nf=>by obtain⟨sl,w⟩:=Z.slot b o (na b o q nf) q;exact⟨sl,(k2 b<|nT b o q).trans w⟩
 have L:Heap.LeftW (rQ s.heap<|frs X.stack++[a]) X.stack a (.ref C) (.ref t) s.heap h2:=by
  refine⟨λb o q=> ?_,fu.of_keeps λb o q nf=> ?_,⟨_,_,T,oT2,ts2,g2e,⟨rfl,rfl⟩,rfl,rfl, ?_,Ta,w1,w2,w3⟩,up⟩
  ·obtain⟨q1,q2⟩:=nG q;exact(k2 b<|nT b o q2).trans<|Z.keep b o (λz=>q1<|by simp[z]) (λz=>q1 (cE _<|fs▸z)) q2
  ·obtain⟨sl,w⟩:=up b o q nf;exact⟨_,w,rfl⟩
  ·cases g:(rQ s.heap<|frs X.stack++[a]).get? T with
   |none=>rfl
   |some o=>have:=(nG g).2;rw[Z.new] at this;cases this
 obtain⟨a',T',H',e',os,bare,un,hok,ex,eH⟩:=aEH (E:=λ_ _ H'=>H'=H/\True) I hex hst (S:=[a]) (λb hb=>by rw[bP.mp hb];exact⟨Ha,sa⟩) (xW a) L ⟨rfl,trivial⟩;cases e';cases eH.1;exact⟨a,T',_,rfl,os,bare,un,hok,ex,hE,_,dx,g2e,rfl,ad⟩
def aEc(X:Cx)(fn:Str)(C:BC)(i:Int)(sd:List Slot):Prop:=∀ (pins:List (BC×BF)) (σ:St) (F H:Hp) (s:AA) (a t dx:BC),Inv X pins σ H s->StF X.K X.B₀ F H σ sd->H a=none->X.s₀.heap.get? a=none->s.heap.get? a=some (vC C t<|some (dx,i))->AtG fn i F dx->X.xe (.ref a) s
theorem zL{e:Expr}{Ed:gQ}(xi:XIn X.K X.mg fn C CL fI)(h:PXn X sd e fn C i)(ht:aEc X fn C i sd)(hex:X.ex=[])(hc:X.calm=true:=by rfl):PSd1 X sd (.Raise (some e) none pos) Ed:=.mk λσ F H S pins s I=>by
 rw[arm_exec_Raise];simp only[evalOpt,aJd];refine AB<|Ah ?_;unfold raiseStmt;refine AB (AB<|AN (h.run σ F H S pins s I) (λv s1 ⟨u,H1,I1,r1,F1,a,t,dx,eu,n0,S1,s1',fa,na,ha,ad⟩=>AB (Ah<|AD ?_)) λ_ _ x=>x);subst eu;obtain rfl:v=Value.ref a:=r1;have he:s1.heap.get? a=some (vC C t<|some (dx,i)):=(I1.hok a _ ha).1;obtain⟨N,nm,q,bs,sn,sub,ab,col,dd,k0,k1,k2,k3,k5,mN,hC,_,_,T,_⟩:=pB I1.kIn xi.ex;have hcB:(Value.ref C::.ref CL::rS).contains (.type "BaseException")=true:=rfl;have hh:X.A.handled=none:=I1.ok.hd hc
 have I2:Inv X pins σ (λb=>if b=a then none else H1 b) s1:=by
  refine Inv.reB I1 (λb hb=> ?_) (λb o e=> ?_) λb o e=> ?_
  ·show(if b=a then none else H1 b)=none
   split
   ·rfl
   ·exact hb
  ·show(if b=a then none else H1 b)=some o;rw[if_neg λz=>by rw[z] at e;have:=S1.base _ _ e;rw[fa] at this;cases this];exact S1.sub _ _<|S1.base _ _ e
  ·have e:(if b=a then none else H1 b)=some o:=e
   split at e
   ·cases e
   ·exact(I1.hok b o e).smp<|S1.smp b o e
 have S2:StF X.K X.B₀ F1 (λb=>if b=a then none else H1 b) σ sd:=by
  refine⟨S1.base,λb o e=> ?_,λb o e=> ?_,S1.slots.mono (Same.refl _) λl hl=>⟨(S1.slots.owns hl).1,λob e=> ?_⟩,S1.nd⟩
  ·show(if b=a then none else H1 b)=some o;rw[if_neg λz=>by rw[z,fa] at e;cases e];exact S1.sub _ _ e
  ·have e:(if b=a then none else H1 b)=some o:=e
   split at e
   ·cases e
   ·exact S1.smp _ _ e
  ·show(if l=a then none else H1 l)=some ob;rw[if_neg λ(z:l=a)=>na<|by rw[<-z];exact hl];exact e
 obtain⟨hp,gs,dr,tk,os⟩:=s1;have hE:X.xe (.ref a) ⟨hp,gs,dr,tk,os⟩:=ht pins σ F1 _ _ a t dx I2 S2 (by show(if a=a then none else H1 a)=none;rw[if_pos rfl]) n0 he ad;have he:hp.get? a=some {cls:=.ref C,dict:=some dx,data:=.fields #[.ref t,.none,.none,.none,.bool false,.none]}:=he;have hC:hp.get? C=_:=hC
 repeat (first|with_reducible refine AO he ?_|with_reducible refine AO hC ?_|(with_reducible refine wpAny_isSubtype_exc hC ?_;rw[hcB])|wp_step)
 exact wpAny_raiseNew_none hh hE
variable {fl:BA}
theorem pP{h':BE}{b:BC}(hex:X.ex=[])(I:Inv X pins σ H s)(q:s.heap.get? b=none):H b=none/\X.s₀.heap.get? b=none/\∀p∈X.pn++pins,p.1≠b:=by
 refine⟨?_, ?_,λp hp z=> ?_⟩
 ·cases g:H b with
  |none=>rfl
  |some u=>obtain⟨ob,q2⟩:=pN<|I.hok b u g;rw[q] at q2;cases q2
 ·cases g:X.s₀.heap.get? b with
  |none=>rfl
  |some o=>obtain⟨o1,q1⟩:=I.base.there b o g (λhb=>by rw[hex] at hb;cases hb);rw[q] at q1;cases q1
 ·have:=(I.pin p hp).1;rw[z,q] at this;cases this
theorem yR{Q:Unit->AA->Prop}(hst:X.stack=X.env::X.outer/\X.env.frame=some X.env.locals)(hfr:A.frames=some X.stack)(hex:X.ex=[])(h:aFV X pins σ H s a T cls .none)(dk:DkI fn i s.heap H a)(k:∀h' T',aFV X pins σ H {s with heap:=h'} a T' cls (rawInt X.env.locals)->DkI fn i h' H a->Q () {s with heap:=h'}):
  AE M A (noteFrame (.ref a) X.env) Q Ex s:=by
 have hS:=wN h;obtain⟨oe,vs,oT,ts,a0,he,hc,hd,h1,hTe,hT,hdT,h3⟩:=h.obj;obtain⟨oe',dx,he',hdi,ad⟩:=dk;have e0:oe'=oe:=bN.inj<|he'.symm.trans he;subst e0;have I:=h.inv;have fm:=hfr;rw[hst.1] at fm;have st:=I.stack;rw[hst.1] at st;have fs:(X.env::X.outer).filterMap (·.frame)=frs X.stack:=by rw[hst.1];rfl
 have z3:3<ts.size:=(fR.mp h3).1;have z1:1<vs.size:=(fR.mp h1).1;have oth:∀b,b≠T->(s.heap.update T (Obj.mapFields (·.setIfInBounds 3 Value.none))).get? b=s.heap.get? b:=λb hb=>cP _ _<|Ne.symm hb
 have slf:(s.heap.update T (Obj.mapFields (·.setIfInBounds 3 Value.none))).get? T=some (oT.mapFields (·.setIfInBounds 3 Value.none)):=eJ _ hT (Obj.isFreed_of_fields<|Obj.data_mapFields hdT _)
 have nr:∀b o,s.heap.get? b=some o→(∀vs,o.data≠ .fields vs)→b≠T∧b≠a:=fun b o q nf=>⟨fun z=>by
  rw[z,hT] at q;cases q;exact nf _ hdT,λz=>by
  rw[z,he] at q;cases q
  exact nf _ hd⟩
 unfold noteFrame;simp only[hst.2];refine AB<|Ac he hd h1 ?_;rw[if_pos (show(Value.ref T !=Value.none)=true from by simp)];refine AB<|Ac hT hdT h3 ?_;rw[if_neg (show ¬ ((Value.none==rawInt X.env.locals)=true) from by simp[rawInt])];refine AB<|wpAny_setField hT hdT z3 ?_;refine aDG (s:={s with heap:=s.heap.update T (Obj.mapFields (·.setIfInBounds 3 Value.none))}) fm (st.of_keeps λb o q nf=>⟨o,(oth b (nr b o q nf).1).trans q,rfl⟩) hst.2 ((oth a<|Ne.symm hTe).trans he) hd z1 λh2 T' Z=> ?_
 have nT:s.heap.get? T'=none:=by rw[<-oth T' λz=>by have:=Z.new;rw[z] at this;exact nomatch this.symm.trans slf];exact Z.new
 obtain⟨oT',ts',w1,w2,w3⟩:=Z.tb
 have I2:=aAq I hS (h':=h2) (fun b o q=>by
  obtain⟨q1,q2⟩:=nG q
  exact Z.keep b o (λz=>q1 (by simp[z])) (λz=>q1 (cE _ (fs▸z))) ((oth b λz=>q1 (by simp[z])).trans q2)) (λb o q nf=>Z.slot b o (nr b o q nf).2 ((oth b (nr b o q nf).1).trans q))
 refine k h2 T' ⟨I2,h.fa,pP (h':=h2) hex I nT,_,_,oT',ts',a0,Z.at_,⟨hc.1,by rw[Array.getElem?_setIfInBounds_ne<|by decide];exact hc.2⟩,rfl,by simp[z1],Z.ne,w1,w2,w3⟩ ⟨_,dx,Z.at_,hdi,ad⟩
theorem nI{fr:Option BC}{Q:Unit->AA->Prop}(h:aFV X pins σ H s a T cls fl)(dk:DkI fn i s.heap H a)(k:∀h',aFV X pins σ H {s with heap:=h'} a T cls (fr.elim Value.none λf=>rawInt f)->DkI fn i h' H a->Q () {s with heap:=h'}):
  AE M A (setFlight (.ref a) fr) Q Ex s:=by
 have hS:=wN h;obtain⟨oe,vs,oT,ts,a0,he,hc,hd,h1,hTe,hT,hdT,h3⟩:=h.obj;obtain⟨oe',dx,he',hdi,ad⟩:=dk;have e0:oe'=oe:=bN.inj<|he'.symm.trans he;subst e0;refine aAO he hd h1 hT hdT (fR.mp h3).1 λh2 k2 ⟨oT2,ts2,w1,w2,w3⟩=> ?_
 have ea:h2.get? a=some oe':=(k2 a<|Ne.symm hTe).trans he;refine k h2 ⟨aAq h.inv hS (λb o q=> ?_) λb o q nf=>⟨o.slots,(k2 b λz=> ?_).trans q⟩,h.fa,h.fT,oe',vs,oT2,ts2,a0,ea,hc,hd,h1,hTe,w1,w2,w3⟩ ⟨oe',dx,ea,hdi,ad⟩
 ·obtain⟨q1,q2⟩:=nG q;exact(k2 b λz=>q1<|by simp[z]).trans q2
 ·rw[z,hT] at q;cases q;exact nf _ hdT
def exiG(fn:Str)(C:BC)(i:Int):V->Hp->Prop:=λv H=>∃a oe dx,v=.ref a/\H a=some (exO a oe)/\oe.cls=.ref C/\oe.dict=some dx/\(∃vs,oe.data=.fields vs)/\AtG fn i H dx
noncomputable def xP(fn:Str)(C:BC)(i:Int):D:=.any<|exiG fn C i
theorem AtG.mono{F':Hp}(h:AtG fn i F dx)(s:Same F F'):AtG fn i F' dx:=by obtain⟨od,u,e,r⟩:=h;exact⟨od,u,s _ _ e,r⟩
theorem StF.freezeO{K:aB}{H₀:Hp}{p:BC}{o:HO}(S:StF K H₀ F H σ sd)(hp:H p=some o)(ho:p∉cA sd):∃F',StF K H₀ F' H σ sd/\Same F F'/\F' p=some o:=by
 cases fp:F p with
 |some o'=>have:=S.sub _ _ fp;rw[hp] at this;cases this;exact⟨F,S,Same.refl _,fp⟩
 |none=>
  have s1:Same F (upd F p o):=λb u e=>by rw[aX<|bS e fp];exact e
  refine⟨upd F p o,⟨λb u e=>s1 _ _<|S.base _ _ e,λb u e=> ?_,S.smp,S.slots.mono s1 λl hl=>⟨?_,λob e=>e⟩,S.nd⟩,s1,bA⟩
  ·by_cases h:b=p
   ·subst h;rw[bA] at e;cases e;exact hp
   ·rw[aX h] at e;exact S.sub _ _ e
  ·rw[aX λz=>ho<|by rw[<-z];exact hl];exact(S.slots.owns hl).1
variable {E:gQ}
def zN(X:Cx)(fn:Str)(C:BC)(i:Int)(sd:List Slot):Prop:=∀ (pins:List (BC×BF)) (σ:St) (F H:Hp) (s:AA) (a T:BC),Inv X pins σ H s->StF X.K X.B₀ F H σ sd->Exc X.s₀.heap s.heap H a T (.ref C)->DkI fn i s.heap H a->(∀p∈X.pn++pins,p.1≠a/\p.1≠T)->X.xe (.ref a) s
theorem aCd{body suite:List BG}{b₀:BG}{xE n:Str}{np hpos:Pos}{CE:BC}(j:Nat)(hN:X.N.Nodup)(hj:X.N[j]? =some n)(hloc:X.env.scope.names.lookup n=some .local)(hg:Gl X xE)(hm:X.mg xE=some (.ref CE))(hmt:rK X.K (.ref C) (.ref CE)=some true)
  (hb:∀ (ξ:BA->AA->Prop) (pn:List (BC×BF)) (F:Hp),zN {X with H₀:=F,B₀:=F,hB:=λ_ _ e _=>e,xe:=ξ,pn:=pn} fn C i sd->PSd {X with H₀:=F,B₀:=F,hB:=λ_ _ e _=>e,xe:=ξ,pn:=pn} sd body {nx:=λ_=>False,rt:=λ_=>False})
  (hh:∀ (a:BC) (pn:List (BC×BF)),PSd {X with A:=X.A.mark (some<|.ref a),calm:=false,pn:=pn,xe:=λ_ _=>False} (sd.set j (.val<|xP fn C i)) (b₀::suite) {nx:=λsd'=>E.nx<|sd'.set j .un,rt:=λ_=>False})
  (how:cA sd=[]:=by rfl) (hB₀:X.B₀=X.H₀:=by rfl) (hex:X.ex=[]:=by rfl) (hst:X.stack=X.env::X.outer/\X.env.frame=some X.env.locals:=by exact⟨rfl,rfl⟩) (hdb:(xE==("__debug__":Str))=false:=by decide):
  PSd1 X sd (.Try body [.ExceptHandler (some<|.Name xE np) (some n) (b₀::suite) hpos] [] [] pos) E:=.mk λσ F H S pins s I=>by
 rw[hB₀] at S;obtain⟨ξ,hξ⟩:∃ξ:BA->AA->Prop,ξ=λe s'=>∃a T σ' F' H',e=.ref a/\Inv X pins σ' H' s'/\StF X.K F F' H' σ' sd/\Exc X.s₀.heap s'.heap H' a T (.ref C)/\DkI fn i s'.heap H' a/\∀p∈X.pn++pins,p.1≠a/\p.1≠T:=⟨_,rfl⟩
 have I':Inv {X with H₀:=F,B₀:=F,hB:=λ_ _ e _=>e,xe:=ξ,pn:=X.pn++pins} [] σ H s:=aHe I S rfl;have S':StF X.K F F H σ sd:=⟨Same.refl _,S.sub,S.smp,S.slots,S.nd⟩
 have tk:zN {X with H₀:=F,B₀:=F,hB:=λ_ _ e _=>e,xe:=ξ,pn:=X.pn++pins} fn C i sd:=λpins' σ' F' H' s' a T I2 S2 x2 d2 hp=>by show ξ _ _;rw[hξ];exact⟨a,T,σ',F',H',rfl,aGV I S rfl I2,S2,x2,d2,λp hp'=>hp p<|cE _ hp'⟩
 refine wpAny_Try_except<|AN (hb ξ (X.pn++pins) F tk σ F H S' [] s I') (λf s1 q=> ?_) λe s1 hx=> ?_
 ·cases f with
  |next=>obtain⟨_,_,_,_,_,_,_,z⟩:=q;exact z.elim
  |brk=>obtain⟨_,_,_,_,_,_,_,z⟩:=q;exact z.elim
  |cont=>obtain⟨_,_,_,_,_,_,_,z⟩:=q;exact z.elim
  |ret u=>obtain⟨_,_,_,_,_,_,_,z⟩:=q;exact z.elim
 ·have hx:ξ e s1:=hx;rw[hξ] at hx;obtain⟨a,T,σ1,F1,H1,rfl,I1,S1,x1,d1,hp⟩:=hx;have hd:aFV X pins σ1 H1 s1 a T (.ref C) .none:=⟨I1,⟨x1.free,x1.new,λp h=>(hp p h).1⟩,⟨x1.freeT,x1.newT,λp h=>(hp p h).2⟩,x1.obj⟩;refine yR hst I.ok.frames hex hd d1 λh2 T2 hd2 d2=> ?_
  refine nI hd2 d2 λh3 hd3 d3=> ?_
  have LT:PySem.W.Looks (AF X.prog X.w) h3 (typeOf<|.ref a) (.ref C):=by obtain⟨oe,vs,oT,ts,a0,he,hc,_⟩:=hd3.obj;exact hc.1▸(PySem.W.Looks.ld he).andThen .now
  refine wpAny_handleBy_cons (codeAny_handlers_test<|Calls.Name_function_global hd3.inv.ok.kind hg (Calls.loadGlobal_global (by rw[hd3.inv.ok.glob];exact hd3.inv.mod.glob.keeps hd3.inv.bk) hm<|(PySem.W.exm_one hd3.inv.kIn LT hmt).at ?_) hdb) (by intro q;cases q);refine codeAny_handlers_suite_as<|nI hd3 d3 λh4 hd4 d4=> ?_;obtain⟨oe,vs,oT,ts,a0,he,hc,hdt,_⟩:=hd4.obj;obtain⟨oe',dx,he',hdi,ad⟩:=d4;have e0:oe'=oe:=bN.inj<|he'.symm.trans he;subst e0
  have hl:X.env.locals≠a:=λz=>by obtain⟨m,⟨o,es,ep,ho,r,_⟩,_⟩:=hd4.inv.loc;rw[z] at ho;have:oe'=o:=bN.inj<|he.symm.trans ho;rw[<-this,hdt] at r;cases r
  have I5:=tM hd4.inv hd4.fa.1 he hd4.fa.2.1 hl (λv z=>by rw[hdt] at z;cases z) hd4.fa.2.2;have S1':StF X.K X.B₀ F1 H1 σ1 sd:=hB₀▸⟨λb o e=>S1.base _ _<|S.base _ _ e,S1.sub,S1.smp,S1.slots,S1.nd⟩
  obtain⟨od,u,hdx,ru⟩:=id ad;obtain⟨Fz,Sz,sz,fz⟩:=S1'.freezeO hdx (by rw[how];simp);have aF:AtG fn i Fz dx:=⟨od,u,fz,ru⟩;obtain⟨S5,s5⟩:=Sz.lay (o:=exO a oe') hd4.fa.1 trivial;refine mY (v:=.ref a) I5 hN hj (.inl hloc) rfl (λs6 I6=> ?_)<|.inr hloc
  have I7:Inv {X with A:=X.A.mark (some<|.ref a),calm:=false,pn:=X.pn++pins,xe:=λ_ _=>False} [] (σ1.set j (some<|.ref a)) (upd H1 a<|exO a oe') s6:=
   ⟨⟨I6.ok.mod,I6.ok.kind,I6.ok.glob,I6.ok.blt,I6.ok.above,I6.ok.inj,I6.ok.has,I6.ok.cab,λz=>(by cases z),I6.ok.frames,I6.ok.stk,I6.ok.exf,I6.ok.bs,I6.ok.bsz,I6.ok.noex,I6.ok.exfs,I6.ok.funs,I6.ok.frf⟩,I6.os,I6.bare,I6.base,I6.loc,I6.cell,I6.free,I6.freeC,λp hp=>by rw[cS] at hp;exact I6.pin p hp,I6.hok,I6.len⟩
  have S7:StF X.K X.B₀ (upd Fz a (exO a oe')) (upd H1 a (exO a oe')) (σ1.set j (some (.ref a))) (sd.set j (.val (xP fn C i))):=S5.set j (by
   simp only[xP,Rep]
   exact⟨⟨a,rfl⟩,λH' k=>⟨a,oe',dx,rfl,k _ _ bA,hc.1,hdi,⟨vs,hdt⟩,aF.mono (s5.trans k)⟩⟩)
  refine AN (hh a _ (σ1.set j (some<|.ref a)) _ _ S7 [] s6 I7) (λf s8 q=> ?_) λ_ _ z=>False.elim z
  cases f with
  |next=>
   obtain⟨σ8,H8,I8,sd8,F8,S8,s8',qn⟩:=q;have I9:Inv X pins σ8 H8 s8:=⟨I.ok,I8.os,I8.bare,I8.base,I8.loc,I8.cell,I8.free,I8.freeC,λp hp=>I8.pin p (by rw[cS];exact hp),I8.hok,I8.len⟩;obtain⟨m,hn,hl⟩:=id I9.loc;refine wpAny_nameGoes_keeps hloc hn (by rw[I9.ok.kind];rfl) λh9 v hn9 hs9=> ?_
   exact⟨σ8.set j none,H8,aCw I9 hN hj hloc hn hl hn9 hs9,sd8.set j .un,F8,⟨S8.base,S8.sub,S8.smp,S8.slots.set (z:=.un) (o:=none) trivial j,(iM (z:=.un) j S8.nd (λl hl=>by cases hl) fS).1⟩,λb o e=>s8' _ _<|s5 _ _ (sz _ _<|S1.base _ _ e),qn⟩
  |brk=>obtain⟨_,_,_,_,_,_,_,z⟩:=q;exact z.elim
  |cont=>obtain⟨_,_,_,_,_,_,_,z⟩:=q;exact z.elim
  |ret u=>obtain⟨_,_,_,_,_,_,_,z⟩:=q;exact z.elim
end DL
namespace DL
section
open PySem PySem.Spec PySem.Calls PySem.W PyProof.Rows Builtin Builtin.Getset_descriptor Builtin.ObjectAttr
variable {prog:AG}{w:AI}{A:BD}{E:BA->AA->Prop}{h:BE}{g:Array GenState}{d:Drawn}{t:Nat}{os:OsState}{a C:BC}{K:Frag}{ox od:BF}{name:Str}{v:BA}
theorem aIL{tk:Tok}{fi ex:Bool}{Q:BA->AA->Prop}(X:K.In h)(I:InstAt h a ox C (some od))(hf:findObj K C (some od) name=some (.value v))(hs:subIn K (.ref C) (.type "BaseException")=some true)
  (hg:findIn K (.ref C) "__getattribute__"=some (some<|.builtin "BaseException.__getattribute__")) (hn:findIn K (.ref C) "__getattr__"=some none) (hh:handedIn v=true)
  (hq:Q v ⟨h,g,d,t,os⟩):AE (AF prog w) A (getAttrBy (.ref a) (.str name tk) fi ex) Q E ⟨h,g,d,t,os⟩:=by
 have f3:=F.attr_ValueError.ga.bind<|.ref a;have hx0:(ex&&onTheHeap (Value.builtin "BaseException.__getattribute__"))=false:=by cases ex<;>rfl
 have hx2:(Value.builtin "BaseException.__getattribute__"==Value.builtin "object.__getattribute__")=false:=by decide+kernel
 have hx1:(onTheHeap (Value.ref C)&&Value.builtin "BaseException.__getattribute__"==Value.builtin "object.__getattribute__")=false:=by rw[hx2];rfl
 have L1:=looks_findIn (M:=AF prog w) X hg;have L2:=looks_findIn (M:=AF prog w) X hn;have hx:=I.at_;have hc:=I.cls;have EA:ExA a C h:=⟨ox,hx,hc⟩
 repeat (any_goals (first|assumption|(with_reducible refine AO hx ?_;rw[hc])|with_reducible refine L1.at ?_|with_reducible refine L2.at ?_|wp_step))
 refine Ad F.attr_ValueError.ga.plain F.entry_bexc_ga<|xC X EA hs ?_;refine AB (AD<|AB (AD<|AB (EA.type.at<|AB ((looks_find X I hf).at<|AD ?_))));show AE _ _ (handedOut v) _ _ _;rw[handedOut_of hh];exact AD hq
theorem aGR{Q:BA->AA->Prop}{ex:Bool}(X:K.In h)(I:InstAt h a ox C (some od))(hf:findObj K C (some od) name=some (.value v))(hs:subIn K (.ref C) (.type "BaseException")=some true)
  (hg:findIn K (.ref C) "__getattribute__"=some (some<|.builtin "BaseException.__getattribute__")) (hn:findIn K (.ref C) "__getattr__"=some none) (hh:handedIn v=true)
  (hq:Q v ⟨h,g,d,t+1,os⟩):AE (AF prog w) A (getAttr (.ref a) name ex) Q E ⟨h,g,d,t,os⟩:=by
 unfold getAttr;refine AB<|wpAny_mkText ?_;exact aIL X I hf hs hg hn hh hq
end
open PySem PySem.Spec PyProof.Rows L2
structure XAt(K:aB)(fn:Str)(C:BC):Prop where
 xc:aGf K C
 hd:nN K C=true
 fa:cN K (.ref C) fn=some none
theorem aAj{prog:AG}{w:AI}{A:BD}{Ex:BA->AA->Prop}{K:aB}{fn:Str}{C a dx:BC}{i:Int}{H:Hp}{s:AA}{oe:BF}{ex:Bool}{Q:BA->AA->Prop}(xa:XAt K fn C)(X:K.In s.heap)(he:s.heap.get? a=some oe)(hc:oe.cls=.ref C)(hd:oe.dict=some dx)(hf:∃vs,oe.data=.fields vs)(ad:AtG fn i H dx)(hok:∀o,H dx=some (exO dx o)->s.heap.get? dx=some o)
  (k:∀u,RelV (.int i) u->Q u {s with toks:=s.toks+1}):AE (AF prog w) A (getAttr (.ref a) fn ex) Q Ex s:=by
 obtain⟨od,u,e,ru,ns⟩:=ad;obtain⟨od',g1,g2⟩:=sM (ns s.heap<|hok od e);obtain⟨vs,hf⟩:=hf;obtain⟨t',rfl⟩:=ru;obtain⟨h,g,d,t,os⟩:=s;refine aGR X ⟨he,hc, ?_, ?_⟩ (PySem.W.findObj_own xa.hd xa.fa rfl<|by rw[g2,if_pos rfl]) xa.xc.hs xa.xc.hg xa.xc.hn rfl<|k _ ⟨t',rfl⟩
 ·unfold PySem.W.notCls;rw[hf]
 ·rw[hd];exact g1
variable {X:Cx}{sd:List Slot}{pos:Pos}{fn:Str}{C:BC}{i:Int}
theorem uR{K:aB}{H₀ F H:Hp}{σ:St}{j:Nat}(S:StF K H₀ F H σ sd)(hs:sd[j]? =some (.val<|xP fn C i)):∃ad oe dx,σ[j]? =some (some<|.ref ad)/\H ad=some (exO ad oe)/\oe.cls=.ref C/\oe.dict=some dx/\(∃vs,oe.data=.fields vs)/\AtG fn i H dx:=by obtain⟨o,h1,v,h2,h3⟩:=S.slots.get hs;simp only[xP,Rep] at h3;obtain⟨ad,oe,dx,rfl,g,c,dd,fl,at_⟩:=h3.2 H S.sub;subst h2;exact⟨ad,oe,dx,h1,g,c,dd,fl,at_⟩
theorem kO(j:Nat){CE:BC}{k:Bool}{y x:Str}{p p1 p2:Pos}(xc:aGf X.K C)(hg:Gl X "isinstance")(hm:X.mg "isinstance"=none)(hgx:Gl X x)(hmx:X.mg x=some (.ref CE))(hk:bO X.K (.ref C) (.ref CE)=some k)(hj:sd[j]? =some (.val<|xP fn C i))(hy:PE X (.Name y p1) (lM j))(hdb:(x==("__debug__":Str))=false:=by decide)
  (he:AC (.Name y p1::[.Name x p2]) X.env=(false,eval (.Name y p1) X.env)::AC [.Name x p2] X.env:=by rfl) (hpl:(AZ pos<|AC [.Name x p2] X.env).any (·.1)=false:=by rfl) (hs2:AC [.Name x p2] X.env=(false,eval (.Name x p2) X.env)::AC [] X.env:=by rfl):
  PEd X sd (.Call (.Name "isinstance" p) [.Name y p1, .Name x p2] [] pos) (.val<|.bl k):=.mk λσ F H S=>by
 obtain⟨ad,oe,dx,h1,g,c,_⟩:=uR S hj
 exact(mO (qX (cv:=.ref CE) xc (λu' r=>r) hk) hg hm boot_isinstance (gF hy (gF (aAL hgx hmx (v:=.ref CE) rfl hdb) pa_nil hs2) he) (by decide) (by decide) he hpl).to
  ⟨.ref ad,h1,⟨ad,oe,rfl,g,c⟩,F,S,Same.refl _,by simp only[ResOk,Rep]⟩
theorem aAY(j:Nat){k:Bool}{y x:Str}{n:String}{p p1 p2:Pos}(xc:aGf X.K C)(hg:Gl X "isinstance")(hm:X.mg "isinstance"=none)(hgx:Gl X x)(hmx:X.mg x=none)(hv:AS x=some (.type n))(hk:bO X.K (.ref C) (.type n)=some k)(hj:sd[j]? =some (.val<|xP fn C i))(hy:PE X (.Name y p1) (lM j))(hn:x≠"__name__":=by decide)(hdb:(x==("__debug__":Str))=false:=by decide)
  (he:AC (.Name y p1::[.Name x p2]) X.env=(false,eval (.Name y p1) X.env)::AC [.Name x p2] X.env:=by rfl) (hpl:(AZ pos<|AC [.Name x p2] X.env).any (·.1)=false:=by rfl) (hs2:AC [.Name x p2] X.env=(false,eval (.Name x p2) X.env)::AC [] X.env:=by rfl):
  PEd X sd (.Call (.Name "isinstance" p) [.Name y p1, .Name x p2] [] pos) (.val<|.bl k):=.mk λσ F H S=>by
 obtain⟨ad,oe,dx,h1,g,c,_⟩:=uR S hj
 exact(mO (qX (cv:=.ty n) xc (λu' r=>r) hk) hg hm boot_isinstance (gF hy (gF (aAw hgx hmx hv hn hdb) pa_nil hs2) he) (by decide) (by decide) he hpl).to
  ⟨.ref ad,h1,⟨ad,oe,rfl,g,c⟩,F,S,Same.refl _,by simp only[ResOk,Rep]⟩
theorem aGx(j:Nat){y:Str}{p1 ap:Pos}(xa:XAt X.K fn C)(hj:sd[j]? =some (.val<|xP fn C i))(hy:PE X (.Name y p1) (lM j))(hb:Ai (.Name y p1) fn X.env (eval (.Name y p1) X.env)=eval (.Name y p1) X.env:=by rfl):PEd X sd (.Attribute (.Name y p1) fn ap) (.val<|.int i):=.mk λσ F H S pins s I=>by obtain⟨ad,oe,dx,h1,g,c,dd,fl,at_⟩:=uR S hj;refine aAC hb<|thn (hy pins s σ H (λv H'=>v=.ref ad/\H'=H) I ⟨.ref ad,h1,rfl,rfl⟩) λu s1 ⟨v,H1,I1,rv,e1,e2⟩=> ?_;subst e1 e2;obtain rfl:u=Value.ref ad:=rv;exact aAj xa I1.kIn (I1.hok ad _ g).1 c dd fl at_ (λo e=>(I1.hok dx _ e).1) λu ru=>⟨.int i,H1,I1.tok _,ru,F,S,Same.refl _,by simp only[ResOk,Rep]⟩
theorem aGW{e:Expr}{ap:Pos}(xa:XAt X.K fn C)(h:PXn X sd e fn C i)(hb:Ai e fn X.env (eval e X.env)=eval e X.env:=by rfl):PEd X sd (.Attribute e fn ap) (.val<|.int i):=.mk λσ F H S pins s I=>by refine aAC hb (thn (h.run σ F H S pins s I) λu s1 ⟨v,H1,I1,rv,F1,a,t,dx,ev,n0,S1,s1',fa,na,ha,ad⟩=> ?_);subst ev;obtain rfl:u=Value.ref a:=rv;exact aAj xa I1.kIn (I1.hok a _ ha).1 rfl rfl ⟨_,rfl⟩ (ad.mono S1.sub) (λo e=>(I1.hok dx _ e).1) λu ru=>⟨.int i,H1,I1.tok _,ru,F1,S1,s1',by simp only[ResOk,Rep]⟩
structure mJ(P:AG)(w:AI)(K:aB)(mg:Str->Option BA)(base:BE)(x:Str)(k n:Nat)(Q:Int->List D->Prop)(fn:Str)(C:BC):Prop where
 ex:∃ (f:BC) (fd:AK) (ps:List Str),mg x=some (.ref f)/\bZ K (.ref f)=true/\Binds K fd ps []/\∀i,FnOk P w K mg base (CX2 P w fn C i) k f fd ps (spX K n<|Q i)
theorem aCm{e:Expr}{es:List Expr}{x:Str}{p:Pos}{k n:Nat}{ds:List D}{Q:Int->List D->Prop}(G:mJ X.prog X.w X.K X.mg X.base x k n Q fn C)(hr:Room k X.A)(hg:Gl X x)(ha:PAd X sd (e::es) (ds.map R.val))(hc:Q i ds)(hn:ds.length=n)(ht:zN X fn C i sd)(hex:X.ex=[]:=by rfl)
  (hdb:(x==("__debug__":Str))=false:=by decide) (he:AC (e::es) X.env=(false,eval e X.env)::AC es X.env:=by rfl) (hpl:(AZ pos<|AC es X.env).any (·.1)=false:=by rfl):
  PEx X sd (.Call (.Name x p) (e::es) [] pos):=⟨fun σ F H S pins s I=>by
 obtain⟨f,fd,ps,hm,hk,bd,G⟩:=G.ex;refine AW<|mP I hg hm ?_ hdb;refine mD (h₀:=X.base) I.ok.mod.kin hk (thn (ha σ F H S pos pins s I) λus s1 ⟨vs,H1,I1,r,F1,S1,s1',q⟩=>⟨I1.kIn, ?_⟩) he hpl;have rl:RepL X.K H1 ds vs:=q.vals.mono S1.sub
 refine aEG (dvs:=[]) (dws:=[]) (Q:=fun _ _=>False) (Ex:=fun _ _ H'=>Same H1 H'∧Smp H') (G i) hr bd .nil I1 r (by
  rw[cS]
  exact⟨by rw[rl.len];exact hn,S1.smp,ds,rl,hc,λa H' q1 q2=>⟨q1,q2⟩⟩) λe s' hcx=> ?_
 obtain⟨a,T,H',rfl,os,bare,un,hok,x,⟨sH,smH⟩,dk⟩:=hcx;obtain⟨a',T',H2,e2,I2,S2,x2,pn⟩:=aFH hex I1 S1 (e:=.ref a) (cls:=.ref C) ⟨a,T,H',rfl,os,bare,un,hok,x,sH,smH⟩;have I3:Inv X pins σ H' s':=I1.call' os un hok bare (λb z=>absurd z<|by simp);have fr:∀b,s1.heap.get? b=none->X.s₀.heap.get? b=none:=λb q=>(pP (h':=s1.heap) hex I1 q).2.1
 have nw:∀b,s1.heap.get? b=none->∀p∈X.pn++pins,p.1≠b:=λb q=>(pP (h':=s1.heap) hex I1 q).2.2
 exact ht pins σ F1 H' s' a T I3 ⟨S1.base,S1.sub.trans sH,smH,S1.slots.mono (Same.refl _) λl hl=>⟨(S1.slots.owns hl).1,λob e=>sH _ _ e⟩,S1.nd⟩ ⟨x.free,fr a x.new,x.freeT,fr T x.newT,x.obj⟩ dk λp hp=>⟨nw a x.new p hp,nw T x.newT p hp⟩⟩
variable {P:AG}{w:AI}{K:aB}{mg:Str->Option BA}{base:BE}{x qual:Str}{st:BG}{f:BC}{fd:AK}{N ps:List Str}{k:Nat}
theorem yC{scope:Scope}{cdv:BA}{A:BD}{outer:List Env}{s:AA}{H:Hp}{E:XK}(hE:∀a H',Same H H'->Smp H'->E (.ref a) (some a) H'):aEc (kA (CX2 P w fn C i) P w K mg base N qual scope f cdv A outer s H E) fn C i sd:=λpins σ F H' s' a t dx I S Ha sa he ad=>yI (X:=kA (CX2 P w fn C i) P w K mg base N qual scope f cdv A outer s H E) (E:=E) I rfl ⟨rfl,rfl⟩ Ha sa he (ad.mono S.sub)<|hE a H' (λb o e=>S.sub _ _<|S.base _ _ e) S.smp
theorem aCn{Q:Int->List D->Prop}(F:FunD K x qual st f fd)(S:iI N ps (aT st))(hm:mg x=some (.ref f))
  (hb:∀ (s:AA) (T:BC) (o:BF) (nn:Nat) (kV doc pm:BA) (an:Option BC) (cdv ct:BA) (us:List BA),s.heap.get? T=some o->o.data=.seq #[.none] nn->us.length=ps.length->BindsTo s (bW x qual (dN st) (cQ st) (aT st) (.ref T) kV doc pm an cdv ct) ⟨us,[]⟩ (ps.zip us))
  (body:∀ (i:Int) (cdv:BA) (A:BD) (outer:List Env) (s:AA) (H:Hp) (E:XK),Room k (A.deeper (envOfC qual (aT st) s.heap.objs.size f cdv))→(∀a H',Same H H'→Smp H'→E (.ref a) (some a) H')→∀ds,ds.length=ps.length→Q i ds→
   PSd (kA (CX2 P w fn C i) P w K mg base N qual (aT st) f cdv A outer s H E) (init N.length ds) (cQ st) {nx:=λ_=>False,rt:=λ_=>False}):mJ P w K mg base x (k+1) ps.length Q fn C:=by
 obtain⟨oc,od,T,kV,doc,pm,an,cdv,ct,osl,tc,td,n,tsl,rfl,lk,hcd,lT⟩:=F.ex;refine⟨f,bW x qual (dN st) (cQ st) (aT st) (.ref T) kV doc pm an cdv ct,ps,hm,F.kp,λs us KX hl=> ?_,λi=> ?_⟩
 ·rw[cS] at hl ⊢;exact hb s T _ n kV doc pm an cdv ct us (KX T _ lT) rfl hl
 refine aEn lk hcd S (λvs H Q E h=>h.1) λA outer s H vs Q E hr h=> ?_
 obtain⟨hl,sm,ds,rl,c,q⟩:=h;have hds:ds.length=ps.length:=by rw[<-rl.len];exact hl
 refine⟨_,pss_w, ?_⟩;have hlen:N.length-vs.length=N.length-ds.length:=by rw[rl.len]
 have S0:StF K H H H (L2.start N vs) (init N.length ds):=by
  refine⟨Same.refl _,Same.refl _,sm, ?_, ?_⟩
  ·unfold L2.start init;rw[hlen];exact iX (m:=0) rl
  ·unfold init;rw[iS];exact fS
 exact(body i cdv A outer s H E hr q ds hds c (L2.start N vs) H H S0).imp (λ_ _ ⟨_,_,_,_,z⟩=>z.elim) (λ_ _ ⟨_,_,z⟩=>z.elim) (λ_ _ ⟨_,_,_,_,z⟩=>z.elim) λ_ _ ⟨_,_,_,_,z⟩=>z.elim
end DL
namespace DL
open PySem PySem.Spec PyProof.Rows L2
theorem yD{p:Int×Int}{L:List SK}(hp:p∈cI)(S:hX p L){a b:List Nat}(ha:RowOk L a)(hb:RowOk L b){o:Option (List Nat)}(h:gX (bxQ p.2.toNat o) (eY p) (gW p L a) (gW p L b)=none):iF p L b o=iF p L a o:=by
 have un:∀k,k<(eY p).length->unK (bxQ p.2.toNat o) (gW p L a) (gW p L b) k=false:=λk hk=>by unfold gX at h;have:=nO.mp (Option.map_eq_none_iff.mp h) k<|cR.mpr hk;simpa using this
 refine aFM (by simp[iF]) λk h1 h2=> ?_
 have hk:k<(eY p).length:=by simpa[iF] using h1
 have u:=un k hk
 have gt:∀r:List Nat,(gW p L r).getD k []=fE p L r (eY p)[k]:=λr=>by unfold gW;show(oK _<|eY p).getD k []=_;simp[bQ,hk]
 unfold unK at u;rw[gt,gt,<-oX] at u;have e:((bxQ p.2.toNat o).map λj=>(fE p L a (eY p)[k]).getD j 0)=(bxQ p.2.toNat o).map λj=>(fE p L b (eY p)[k]).getD j 0:=by simpa using u
 simp only[iF,List.getElem_map];cases o with
 |some l=>exact e.symm
 |none=>
  have G:=oY hp<|gC hk;have l1:=(iY S a _ ha G).1;have l2:=(iY S b _ hb G).1
  have ex:∀x:List Int,x.length=p.2.toNat->((bxQ p.2.toNat none).map λj=>x.getD j 0)=x:=λx hx=>by unfold bxQ;rw[<-hx];exact aFM (by simp) λi h1 h2=>by simp[bQ,h2]
  rw[ex _ l1,ex _ l2] at e;exact e.symm
noncomputable abbrev ChZ:=Int×Int×List Nat
noncomputable def eA(c:ChZ):D:=.tup [.int c.1,.int c.2.1,.tup<|bB c.2.2]
noncomputable def wnZ(row:List Nat)(c:ChZ):Bool:=decide (0<=c.1)&&(decide (1<=c.2.1)&&decide (c.1+c.2.1<=(row.length:Int)))
noncomputable def wO(p:Int×Int)(L:List SK)(row:List Nat)(c:ChZ)(o:Option (List Nat)):Bool:=wnZ row c&&hoQ p L row (c.1.toNat,c.2.1.toNat,c.2.2) o
noncomputable def zCh(c:Ch):ChZ:=((c.1:Int),(c.2.1:Int),c.2.2)
theorem xX(p:Int×Int)(L:List SK)(row:List Nat)(c:Ch)(o:Option (List Nat)):wO p L row (zCh c) o=hoQ p L row c o:=by
 unfold wO
 have e:wnZ row (zCh c)=oQ row c:=by unfold wnZ oQ;rw[<-kZ,<-kZ];show decide ((0:Int)<=(c.1:Int)/\(1:Int)<=(c.2.1:Int)/\(c.1:Int)+(c.2.1:Int)<=(row.length:Int))=_;exact decide_eq_decide.mpr ⟨λq=>by omega,λq=>by omega⟩
 rw[e];show(oQ row c&&hoQ p L row ((c.1:Int).toNat,(c.2.1:Int).toNat,c.2.2) o)=_;rw[cK,cK];show(oQ row c&&hoQ p L row c o)=_;unfold hoQ;cases oQ row c<;>rfl
def aJl:List D->R->Prop:=λds r=>∃ (row:List Nat) (c:ChZ),ds=[.tup<|bB row,.int c.1,.int c.2.1]/\r=.val (.bl<|wnZ row c)
def aJu:List D->R->Prop:=λds r=>∃p L a b o,p∈cI/\hX p L/\RowOk L a/\RowOk L b/\qN p o/\ds=[bR p,.lst<|L.map skD,.tup<|bB a,.tup<|bB b,lkD o]/\r=.val (.bl (decide<|iF p L b o=iF p L a o))
def aIi:List D->R->Prop:=λds r=>∃p L row c o,p∈cI/\hX p L/\RowOk L row/\RowOk L c.2.2/\row.length<=450/\c.2.2.length<=400/\qN p o/\ds=[bR p,.lst<|L.map skD,.tup<|bB row,eA c,lkD o]/\r=.val (.bl<|wO p L row c o)
def XGo:Int->List D->Prop:=λi ds=>∃p L o row cs rs,∃m:Nat,∃bad:ChZ,∃rest:List D,p∈cI/\hX p L/\qN p o/\Chn p L o row cs rs/\cs.length<=30/\m<=cs.length/\RowOk L bad.2.2/\bad.2.2.length<=400/\wO p L (rs.getD m []) bad o=false/\i=(m:Int)/\ds=[bR p,.lst<|L.map skD,.tup<|bB row,.lst<|(cs.take m).map chD++[eA bad]++rest,lkD o]
def CRf:List D->R->Prop:=λds r=>∃i,XGo i ds/\r=.val (.int i)
structure aIm(K:aB)(mg:Str->Option BA)(CC CL CT CI CW CG:BC):Prop where
 le:mg "LeastError"=some (.ref CL)
 tg:mg "TooGreat"=some (.ref CG)
 nt:mg "NoText"=some (.ref CT)
 ns:mg "NoWish"=some (.ref CI)
 nw:mg "NoWindow"=some (.ref CW)
 nc:mg "NoChange"=some (.ref CC)
 ve:mg "ValueError"=none
 em:rK K (.ref CC) (.ref CL)=some true
 kv:bO K (.ref CC) (.type "ValueError")=some true
 kc:bO K (.ref CC) (.ref CC)=some true
 kt:bO K (.ref CC) (.ref CT)=some false
 ki:bO K (.ref CC) (.ref CI)=some false
 kw:bO K (.ref CC) (.ref CW)=some false
 kg:bO K (.ref CC) (.ref CG)=some false
 xa:XAt K "at" CC
structure aHZ(K:aB)(mg:Str->Option BA)(CC CL fI:BC):Prop where
 xi:XIn K mg "at" CC CL fI
 kp:bZ K (.ref CC)=true
 ty:rJ K (.ref fI)=some (.type "function")
 mc:mg "NoChange"=some (.ref CC)
theorem oG{row:List Nat}{a b:Int}{pc:List Nat}(h:¬ (0<=a/\1<=b/\a+b<=(row.length:Int))):wnZ row (a,b,pc)=false:=by unfold wnZ;rw[<-kZ,<-kZ];exact decide_eq_false h
noncomputable def bdS(far pl long:Int):List ChZ:=[(-1-far%3,1,[]),(long,1,[]),(long+1+far,2,[]),(pl,0,[]),(pl, -1-far%5,[]),(pl,long-pl+1+far%2,[]),(-long,long,[]),(-1,2,[])]
theorem aFG{row:List Nat}{far pl:Int}(h0:0<=far)(h1:0<=pl):∀c∈bdS far pl (row.length:Int),wnZ row c=false/\c.2.2=[]:=by
 have a3:=aK far (show(3:Int)≠0 by decide);have a5:=aK far (show(5:Int)≠0 by decide);have a2:=aK far (show(2:Int)≠0 by decide);intro c hc;unfold bdS at hc;simp only[cD,pI,or_false] at hc
 rcases hc with rfl|rfl|rfl|rfl|rfl|rfl|rfl|rfl
 ·exact⟨oG λz=>by omega,rfl⟩
 ·exact⟨oG λz=>by omega,rfl⟩
 ·exact⟨oG λz=>by omega,rfl⟩
 ·exact⟨oG λz=>by omega,rfl⟩
 ·exact⟨oG λz=>by omega,rfl⟩
 ·exact⟨oG λz=>by omega,rfl⟩
 ·exact⟨oG λz=>by omega,rfl⟩
 ·exact⟨oG λz=>by omega,rfl⟩
theorem tY{far pl long:Int}{i:Nat}(h:i<8):(bdS far pl long).getD i (0,0,[])∈bdS far pl long/\((bdS far pl long).map eA)[i]? =some (eA<|(bdS far pl long).getD i (0,0,[])):=by have hl:i<(bdS far pl long).length:=h;refine⟨getD_mem hl, ?_⟩;rw[bK];simp[bQ,hl]
noncomputable def bdP(far:Int)(th pc:List Nat):List Nat:=[th,th++th,th.reverse,pc++th].getD (far%4).toNat []
theorem aFq(far:Int)(th pc:List Nat):([.tup<|bB th,.tup<|bB th++bB th,.tup (bB th).reverse,.tup<|bB pc++bB th]:List D)[(far%4).toNat]? =some (.tup (bB<|bdP far th pc)):=by
 have h:(far%4).toNat<4:=by omega
 unfold bdP bB;generalize (far%4).toNat=i at h
 match i,h with
 |0,_=>rfl
 |1,_=>rw[<-bD];rfl
 |2,_=>rw[<-List.map_reverse];rfl
 |3,_=>show some (D.tup<|oK _ pc++oK _ th)=some (D.tup (oK _<|pc++th));rw[bD]
theorem aGF{L:List SK}{far:Int}{th pc:List Nat}(h1:RowOk L th)(h2:RowOk L pc)(l1:th.length<=190)(l2:pc.length<=9):RowOk L (bdP far th pc)/\(bdP far th pc).length<=400:=by
 have h:(far%4).toNat<4:=by omega
 unfold bdP;generalize (far%4).toNat=i at h
 match i,h with
 |0,_=>exact⟨h1,by show th.length<=400;omega⟩
 |1,_=>exact⟨λt ht=>by rcases bF.mp ht with q|q<;>exact h1 t q,by show(th++th).length<=400;rw[aJ];omega⟩
 |2,_=>exact⟨λt ht=>h1 t<|List.mem_reverse.mp ht,by show th.reverse.length<=400;rw[jA];omega⟩
 |3,_=>exact⟨λt ht=>by rcases bF.mp ht with q|q;exact h2 t q;exact h1 t q,by show(pc++th).length<=400;rw[aJ];omega⟩
theorem aFZ{α:Type}{us:List α}{n:Nat}(h:us.length=n+1):∃a r,us=a::r/\r.length=n:=by
 cases us with
 |nil=>cases h
 |cons a r=>exact⟨a,r,rfl,Nat.succ.inj h⟩
theorem aJv{α:Type}{us:List α}(h:us.length=1):∃a,us=[a]:=by obtain⟨a,r,rfl,h2⟩:=aFZ h;exact⟨a,by rw[iA h2]⟩
theorem aJB{α:Type}{us:List α}(h:us.length=2):∃a b,us=[a,b]:=by obtain⟨a,r,rfl,h2⟩:=aFZ h;obtain⟨b,rfl⟩:=aJv h2;exact⟨a,b,rfl⟩
theorem aJw{α:Type}{us:List α}(h:us.length=3):∃a b c,us=[a,b,c]:=by obtain⟨a,r,rfl,h2⟩:=aFZ h;obtain⟨b,c,rfl⟩:=aJB h2;exact⟨a,b,c,rfl⟩
theorem aJr{α:Type}{us:List α}(h:us.length=4):∃a b c d,us=[a,b,c,d]:=by obtain⟨a,r,rfl,h2⟩:=aFZ h;obtain⟨b,c,d,rfl⟩:=aJw h2;exact⟨a,b,c,d,rfl⟩
theorem aJn{α:Type}{us:List α}(h:us.length=5):∃a b c d e,us=[a,b,c,d,e]:=by obtain⟨a,r,rfl,h2⟩:=aFZ h;obtain⟨b,c,d,e,rfl⟩:=aJr h2;exact⟨a,b,c,d,e,rfl⟩
theorem len6{α:Type}{us:List α}(h:us.length=6):∃a b c d e f,us=[a,b,c,d,e,f]:=by obtain⟨a,r,rfl,h2⟩:=aFZ h;obtain⟨b,c,d,e,f,rfl⟩:=aJn h2;exact⟨a,b,c,d,e,f,rfl⟩
variable {X:Cx}{sd:List Slot}{e:Expr}{pos p:Pos}{d:D}{ds:List D}{E:gQ}{x:Str}
theorem pdv(i:Nat)(hs:sd[i]? =some (.val d):=by rfl)(h:PE X (.Name x pos) (lM i):=by exact pv _):PEd X sd (.Name x pos) (.val d):=aDr i hs h
theorem dR(i:Nat)(h:PEd X sd e (.val d))(hE:E.nx (sd.set i<|.val d))(hN:X.N.Nodup:=by assumption)(hi:X.N[i]? =some x:=by rfl)(hx:Loc X.env.scope x:=by first|exact Or.inl rfl|exact Or.inr rfl)(hs:Ae e (some<|.Name x p) pos.line X.env=pure false:=by rfl)
  (hf:X.fn x=true\/X.env.scope.names.lookup x=some .local:=by first|exact .inl rfl|exact .inr rfl|assumption):PSd1 X sd (.Assign [.Name x p] e pos) E:=eW i hN hi hx h hE hs hf
theorem nP(i:Nat)(h:PEd X sd e (.own ds))(hE:∀l,E.nx (sd.set i<|.own l ds))(hN:X.N.Nodup:=by assumption)(hi:X.N[i]? =some x:=by rfl)(hx:Loc X.env.scope x:=by first|exact Or.inl rfl|exact Or.inr rfl)(hs:Ae e (some<|.Name x p) pos.line X.env=pure false:=by rfl)
  (hf:X.fn x=true\/X.env.scope.names.lookup x=some .local:=by first|exact .inl rfl|exact .inr rfl|assumption):PSd1 X sd (.Assign [.Name x p] e pos) E:=kW i hN hi hx h hE hs hf
theorem pgn(i:Nat)(hN:X.N.Nodup:=by assumption)(hi:X.N[i]? =some x:=by rfl)(hx:Loc X.env.scope x:=by first|exact Or.inl rfl|exact Or.inr rfl)(hf:X.fn x=true\/X.env.scope.names.lookup x=some .local:=by first|exact .inl rfl|exact .inr rfl|assumption):PG X (.Name x pos) (wX i):=aAE hN hi hx hf
noncomputable abbrev tN(l:List Nat):D:=.tup<|bB l
noncomputable abbrev lK(L:List SK):D:=.lst<|L.map skD
noncomputable abbrev tL(l:List (List Int)):D:=.lst<|l.map bH
noncomputable abbrev s4(p:Int×Int)(L:List SK)(row:List Nat)(o:Option (List Nat))(r:List Slot):List Slot:=.val (bR p)::.val (lK L)::.val (tN row)::.val (lkD o)::r
noncomputable abbrev a4(p:Int×Int)(L:List SK)(row:List Nat)(o:Option (List Nat)):List D:=[bR p,lK L,tN row,lkD o]
noncomputable abbrev a5(p:Int×Int)(L:List SK)(row:List Nat)(o:Option (List Nat))(w:Nat):List D:=[bR p,lK L,tN row,lkD o,.int (w:Int)]
noncomputable abbrev rtE(r:R):gQ:={nx:=λ_=>r=.val .non,rt:=λr'=>r'=r}
theorem uN{k:Nat}{A:BD}(r:Room k A)(n:Nat)(h:n<=8:=by decide):A.units+n<AX:=by have:=r.un;omega
noncomputable def NB:R->Prop
 |.bor _=>False
 |_=>True
variable {c:Expr}{es:List Expr}{r:R}{rest:List BG}
theorem fW(h:PEd X sd e r)(hE:E.rt r:=by rfl)(hr:NB r:=by trivial):PSd1 X sd (.Return (some e) pos) E:=cV h (by cases r<;>first|trivial|exact hr) hE
theorem yF{x:List BG}(h:PTd X sd c false)(k:PSd X sd rest E):PSd X sd (.If c x [] pos::rest) E:=aD (iE h rfl<|cM k)
theorem pdc{k n:Nat}{C:List D->R->Prop}(G:aS X.prog X.w X.K X.mg X.base x k n C){j:Nat}(hr:Room j X.A)(ha:PAd X sd (e::es) (ds.map R.val))(hc:C ds r)(hj:k<=j:=by decide)(hg:Gl X x:=by rfl)(hb:NB r:=by trivial)(hn:ds.length=n:=by rfl)
  (hdb:(x==("__debug__":Str))=false:=by decide) (he:AC (e::es) X.env=(false,eval e X.env)::AC es X.env:=by rfl) (hpl:(AZ pos<|AC es X.env).any (·.1)=false:=by rfl):
  PEd X sd (.Call (.Name x p) (e::es) [] pos) r:=aEP G (hr.mono hj) hg ha hc (by cases r<;>first|trivial|exact hb) hn hdb he hpl
theorem pdx{a:Expr}{n j:Nat}{p1:Pos}(ha:PEd X sd a (.val<|.tup ds))(hd:ds[n]? =some d:=by rfl):PEd X sd (.Subscript a (.Constant (.int (n:Int)) j p1) pos) (.val d):=lY ha aM hd λ_ _=>rfl
theorem pdT{x1}(h:PAd X sd es (ds.map R.val))(hl:ds.length<=10000:=by exact dH rfl):PEd X sd (.Tuple es x1 pos) (.val<|.tup ds):=gY h hl
theorem pdL(h:PAd X sd es (ds.map R.val))(hl:ds.length<=10000:=by exact dH rfl):PEd X sd (.List es pos) (.own ds):=kC h hl
theorem pgN(i:Nat)(hN:X.N.Nodup:=by assumption)(hi:X.N[i]? =some x:=by rfl)(hx:Loc X.env.scope x:=by first|exact Or.inl rfl|exact Or.inr rfl)(hf:X.fn x=true\/X.env.scope.names.lookup x=some .local:=by first|exact .inl rfl|exact .inr rfl|assumption):PGd X sd (.Name x pos) d (sd.set i<|.val d):=aCF i<|aAE hN hi hx hf
theorem pdC{tg iter elt:Expr}{ifs:List Expr}{scope:Scope}{N M:List Str}{cap:List (Option Nat)}{sc:Scope}{Tb:D->List Slot}(p:D->Bool)(f:D->D)
  (hi:PId X (unO sd) PT0 tg iter ds) (hl:ds.length<=10000)
  (ht:∀cl C fp s H d,d∈ds->(ifs=[]/\p d=true)\/∃c,ifs=[c]/\PTd (cxB X N scope cl C fp s H) (Tb d) c (p d))
  (he:∀cl C fp s H d,d∈ds->p d=true->PEd (cxB X N scope cl C fp s H) (Tb d) elt (.val<|f d))
  (hg:∀cl C fp s H d,d∈ds->PGd (cxB X N scope cl C fp s H) (jC cap sd) tg d (Tb d):=by exact λ_ _ _ _ _ _ _=>pgN 0)
  (hle:∀d,d∈ds->Le (Tb d) (jC cap sd):=by intro _ _;repeat' (first|exact trivial|refine⟨.inr rfl, ?_⟩|refine⟨.inl rfl, ?_⟩))
  (hsc:X.env.scope=sc:=by rfl) (hcn:jR scope sc=true:=by decide+kernel) (hM:X.N=M:=by rfl) (hcap:iZ N M scope sc cap=true:=by decide+kernel) (hk:scope.kind=.function:=by rfl)
  (hc:X.calm=true:=by rfl) (hs:∀x,Aa iter X.env x=pure x:=by intro _;rfl):
  PEd X sd (.ListComp elt [⟨tg,iter,ifs,0⟩] scope pos) (.own<|(ds.filter p).map f):=aAm p f hi hl hsc hcn hM hcap hk hg hle ht he hc hs
theorem cC{P:AG}{w:AI}{K:aB}{mg:Str->Option BA}{base:BE}{st:BG}{N ps:List Str}{k:Nat}{C:List D->R->Prop}(F:FI K mg x st)
  (body:∀ (f:BC),N.Nodup→∀ (cdv:BA) (A:BD) (outer:List Env) (s:AA) (H:Hp) (E:XK),Room k (A.deeper (envOfC x (aT st) s.heap.objs.size f cdv))→∀ds r,ds.length=ps.length→C ds r→
   PSd (kA CX0 P w K mg base N x (aT st) f cdv A outer s H E).nox (init N.length ds) (cQ st) {nx:=λ_=>r=.val .non,rt:=λr'=>r'=r})
  (nd:N.Nodup:=by decide+kernel) (S:N.Nodup->iI N ps (aT st):=by exact λnd=>⟨rfl,rfl,rfl,nd,rfl,by decide+kernel,by decide+kernel⟩)
  (hb:∀ (kV doc pm:BA) (an:Option BC) (cdv ct:BA) (us:List BA),us.length=ps.length→bindArgs (bW x x (dN st) (cQ st) (aT st) .none kV doc pm an cdv ct) ⟨us,[]⟩=pure (ps.zip us):=by
   intro _ _ _ _ _ _ _ h
   first
   |(obtain⟨_,rfl⟩:=aJv h;rfl)
   |(obtain⟨_,_,rfl⟩:=aJB h;rfl)
   |(obtain⟨_,_,_,rfl⟩:=aJw h;rfl)
   |(obtain⟨_,_,_,_,rfl⟩:=aJr h;rfl)
   |(obtain⟨_,_,_,_,_,rfl⟩:=aJn h;rfl)
   |(obtain⟨_,_,_,_,_,_,rfl⟩:=len6 h;rfl)):aS P w K mg base x (k+1) ps.length C:=by
 obtain⟨f,fd,hm,F⟩:=F;exact aGG F (S nd) hm hb<|body f nd
def FID(K:aB)(mg:Str->Option BA)(n:Str)(st:BG):Prop:=∃f fd,mg n=some (.ref f)/\aHO #[.none] K n n st f fd
theorem FID.mk{K:aB}{h:BE}{mg:Str->Option BA}{n:Str}{st:BG}{od an td:Option BC}{sl ts:Array (Option BA)}{oc kV dc pm cd ct tc:BA}{f T:BC}{m:Nat}(X:K.In h)(G:h.Ns AJ mg)(a:dD K AJ n=some (some<|.ref f))(l:K.lookup f=some ⟨oc,od,.func<|bW n n (dN st) (cQ st) (aT st) (.ref T) kV dc pm an cd ct,sl⟩)(c:dL K cd n=true)(k:bZ K (.ref f)=true)(t:K.lookup T=some ⟨tc,td,.seq #[.none] m,ts⟩):FID K mg n st:=⟨f,_,dF X G a,aEF (st:=st) l c k t⟩
end DL
set_option maxHeartbeats 400000
namespace K81
open PySem PySem.Spec PyProof.Rows L2 DL
noncomputable def top(i:Nat):BG:=PySem.Challenge.pw_leastrow_k81_no_change.main.body.getD i<|.Pass ⟨0,0,0,0⟩
noncomputable abbrev aDw:BG:=top 8
noncomputable abbrev aEe:BG:=top 9
noncomputable abbrev wK:BG:=top 10
noncomputable abbrev aGm:BG:=top 11
noncomputable abbrev aAI:BG:=top 14
noncomputable abbrev wU:BG:=top 15
noncomputable abbrev wJ:BG:=top 16
noncomputable abbrev wP:BG:=top 18
noncomputable abbrev aAu:BG:=top 17
noncomputable abbrev tU:BG:=top 20
noncomputable abbrev yX:BG:=top 21
noncomputable abbrev aDF:BG:=top 22
noncomputable abbrev yY:BG:=top 24
noncomputable abbrev aEf:BG:=top 25
noncomputable abbrev rE:BG:=top 26
noncomputable abbrev aDv:BG:=top 27
noncomputable abbrev aDz:BG:=top 29
noncomputable abbrev vO:BG:=top 30
noncomputable abbrev aAB:BG:=top 32
noncomputable abbrev aDA:BG:=top 33
noncomputable abbrev aJA:BG:=top 34
noncomputable abbrev uZ:BG:=top 35
noncomputable abbrev aBN:BG:=top 37
noncomputable abbrev aAD:BG:=top 38
noncomputable abbrev aAg:BG:=top 39
noncomputable abbrev aDX:BG:=top 40
noncomputable abbrev sO:BG:=top 41
noncomputable abbrev aEa:BG:=top 42
noncomputable abbrev aJg:BG:=top 43
noncomputable abbrev aEg:BG:=top 45
noncomputable abbrev yV:BG:=top 44
noncomputable abbrev aEr:BG:=top 46
noncomputable abbrev yE:BG:=top 47
noncomputable abbrev tO:BG:=top 48
noncomputable abbrev yN:BG:=top 49
noncomputable abbrev tQ:BG:=top 50
noncomputable abbrev aAh:BG:=top 51
noncomputable abbrev aAr:BG:=top 52
noncomputable abbrev sW:BG:=top 53
noncomputable abbrev aIn:BG:=top 55
noncomputable abbrev aJy:BG:=top 54
noncomputable abbrev uF:BG:=top 56
noncomputable abbrev vK:BG:=aEN (top 5) 0
section
variable {P:AG}{w:AI}{K:aB}{mg:Str->Option BA}{base:BE}{f:BC}{fd:AK}
def aDS:List D->R->Prop:=λds r=>∃d,ds=[d]/\(Unit->∃i,d=.int i)/\r=.val (.bl true)
theorem aCY(F:FI K mg "is_whole" aDw)(zisinstance:mg "isinstance"=none)(zint:mg "int"=none)(zbool:mg "bool"=none):aS P w K mg base "is_whole" 1 1 aDS:=by
 refine cC (N:=["thing"]) (ps:=["thing"]) (k:=0) F λf nd cdv A outer s H E hr ds r hl c=> ?_
 obtain⟨d,rfl,hd,rfl⟩:=c;obtain⟨i,rfl⟩:=hd ();exact aP<|cV (PEd.cast (qE (nE rfl zisinstance rfl zint PyProof.Rows.boot_int (pdv 0) (λ_=>by simp) (aFA _<|.int i)) λ_=>uM (qB<|nE rfl zisinstance rfl zbool PyProof.Rows.boot_bool (pdv 0) (λ_=>by simp) (rF _<|.int i))) rfl) trivial rfl
theorem aHN{u d n c:Nat}(h:u+n<c)(hd:d+1<=n):u+d+1<c:=by omega
theorem aGo(q:SQ):pl (sqD q)=true:=by
 show pl (fZ _ _ _ _)=true;unfold fZ
 split
 ·rfl
 ·split<;>rfl
theorem aHi(q:SQ):dep (sqD q)=1:=by
 show dep (fZ _ _ _ _)=1;unfold fZ
 split
 ·rfl
 ·split<;>rfl
theorem uH{α:Type}(g:α->D)(h:∀a,pl (g a)=true):∀l:List α,plL (l.map g)=true
 |[]=>rfl
 |a::l=>by show(pl (g a)&&plL (l.map g))=true;rw[h a,uH g h l];rfl
theorem rD{α:Type}(g:α->D)(n:Nat)(h:∀a,dep (g a)<=n):∀l:List α,jS (l.map g)<=n
 |[]=>bL _
 |a::l=>Nat.max_le.mpr ⟨h a,rD g n h l⟩
noncomputable def twoT:D->List Slot->List Slot
 |.tup [x,y],r=>.val x::.val y::r
 |_,r=>.un::.un::r
def yZ:List D->R->Prop:=λds r=>∃p:Int×Int,ds=[bR p]/\0<=p.1/\p.1<=60/\r=.val (.int<|2^p.1.toNat)
theorem aDd(F:FI K mg "word_count" aEe)(zrange:mg "range"=none):aS P w K mg base "word_count" 1 1 yZ:=by
 refine cC (N:=["size","count","bit"]) (ps:=["size"]) (k:=0) F λf nd cdv A outer s H E hr ds r hl c=> ?_
 obtain⟨p,rfl,h0,h1,rfl⟩:=c;have ep:p.1=((p.1.toNat:Nat):Int):=by omega
 refine aD<|eW 1 nd rfl (Or.inl rfl) aM ?_;refine aD<|fO (ds:=dO 0 p.1.toNat) (λk=>[.val<|bR p,.val (.int<|2^k),.un]) (λk=>[.val<|bR p,.val (.int<|2^k),.val (.int<|0+(k:Int))]) (gM (n:=p.1.toNat) rfl zrange (PEd.cast (pdx (n:=0) (d:=.int p.1)<|pdv 0)<|by rw[<-ep])<|by omega) ⟨.inr rfl,.inr rfl,.inr rfl,trivial⟩ (λi d hd=> ?_) (λi d hd=> ?_) ?_
 ·obtain⟨_,rfl⟩:=dG hd;exact pgN 2
 ·refine aP<|eW 1 nd rfl (Or.inl rfl) (aZ eO (pdv 1) aM (kI (by decide)<|by decide)) ?_;exact⟨.inr rfl,.inr rfl,.inl rfl,trivial⟩
 ·refine aP<|cV (pdv 1) trivial ?_;rw[dQ]
def aGn:List D->R->Prop:=λds r=>∃ (L:List (List Int)) (m:Nat),ds=[.lst<|L.map bH,.int (m:Int)]/\L.length*m<=900/\m<=64/\(∀s∈L,s.length<=100)/\r=.own ((L.flatMap λs=>(bC m).map λ(w:Nat)=>s++[(w:Int)]).map bH)
abbrev nl0:List Str:=["starts","count","longer","start"]
theorem aER(F:FI K mg "with_each_word" wK)(zrange:mg "range"=none):aS P w K mg base "with_each_word" 1 2 aGn:=by
 refine cC (N:=nl0) (ps:=["starts","count"]) (k:=0) F λf nd cdv A outer s H E hr ds r hl c=> ?_
 obtain⟨L,m,rfl,hL,hm64,hs,rfl⟩:=c;have nd2:(["word","start"]:List Str).Nodup:=by decide+kernel
 refine aD<|kW 2 nd rfl (Or.inl rfl) (kC (ds:=[]) aE<|bL _) λl=> ?_;refine aD<|fO (ds:=L.map bH) (λk=>[.val<|tL L,.val<|.int (m:Int),.own l<|((L.take k).flatMap λs=>(bC m).map λ(w:Nat)=>s++[(w:Int)]).map bH,.un]) (λk=>[.val<|tL L,.val<|.int (m:Int),.own l<|((L.take k).flatMap λs=>(bC m).map λ(w:Nat)=>s++[(w:Int)]).map bH,.val (bH<|L.getD k [])]) (fM<|pdv 0) ⟨.inr rfl,.inr rfl,.inr rfl,.inr rfl,trivial⟩ (λk d hd=> ?_) (λk d hd=> ?_) ?_
 ·obtain⟨_,rfl⟩:=iV hd;exact pgN 3
 ·obtain⟨hk,rfl⟩:=iV hd;have hmem:L.getD k []∈L:=getD_mem hk
  have et:L.take (k+1)=L.take k++[L.getD k []]:=by rw[eM];simp[bQ,hk]
  have lk:(L.take k).length*m+m<=900:=by
   have h1:(L.take k).length+1<=L.length:=by rw[aV];omega
   have h2:=aBJ m h1;rw[jD] at h2;omega
  have comp:∀ {pos:Pos},PEd (kA CX0 P w K mg base nl0 "with_each_word" (aT wK) f cdv A outer s H E).nox [.val<|tL L,.val<|.int (m:Int),.own l<|((L.take k).flatMap λs=>(bC m).map λ(w:Nat)=>s++[(w:Int)]).map bH,.val (bH<|L.getD k [])] (match(cQ wK).getD 1 (.Pass ⟨0,0,0,0⟩) with | .For _ _ [.Expr (.Call _ [c] _ _) _] _ _=>c|_=> .Constant .none 0 ⟨0,0,0,0⟩) (.own (((dO 0 m).filter λ_=>true).map λd=>D.tup<|(L.getD k []).map D.int++[d])):=λ{pos}=>by
   refine pdC (N:=["word","start"]) (M:=nl0) (cap:=[none,some 3]) (sc:=aT wK) (Tb:=λd=>[.val d,.val (bH<|L.getD k [])]) (λ_=>true) (λd=>D.tup<|(L.getD k []).map D.int++[d]) (gM (n:=m) rfl zrange (pdv 1)<|by omega) (by rw[dQ];omega) (λcl C fp s H d _=>.inl ⟨rfl,rfl⟩) λcl C fp s H d _ _=> ?_
   refine gG (pdv 1) (pdT (ds:=[d])<|aA (pdv 0) aE) ?_;have:=hs _ hmem;simp only[aC,bX,fC];omega
  have ec:((dO 0 m).filter λ_=>true).map (λd=>D.tup<|(L.getD k []).map D.int++[d])=((bC m).map λ(w:Nat)=>L.getD k []++[(w:Int)]).map bH:=by
   rw[cU.mpr λ_ _=>rfl];unfold dO;rw[bU,bU];refine dZ λw _=> ?_
   simp[bH]
  refine aP<|zP 2 rfl (pv 2) (PEd.val<|comp (pos:=⟨0,0,0,0⟩)) ?_ ?_
  ·rw[aC,jG,ec,aC,aC,dU];omega
  ·refine⟨.inr rfl,.inr rfl,.inr ?_,.inl rfl,trivial⟩;rw[et,ec,aBI,bD];simp
 ·refine aP<|iQ 2 rfl (pv 2) ?_;show R.own _=R.own _;rw[aC,eI]
def aEs:List D->R->Prop:=λds r=>∃p,p∈cI/\ds=[bR p]/\r=.own ((fX (2^p.1.toNat) p.2.toNat).map bH)
theorem aEX(F:FI K mg "fillings" aGm)(zrange:mg "range"=none)(GC:aS P w K mg base "word_count" 1 1 yZ)(GE:aS P w K mg base "with_each_word" 1 2 aGn):aS P w K mg base "fillings" 2 1 aEs:=by
 refine cC (N:=["size","count","told","box"]) (ps:=["size"]) (k:=1) F λf nd cdv A outer s H E hr ds r hl c=> ?_
 obtain⟨p,hp,rfl,rfl⟩:=c;obtain⟨h1,h2,h3,h4,h5⟩:=nH p hp;have e2:p.2=((p.2.toNat:Nat):Int):=by omega
 have m64:2^p.1.toNat<=64:=by
  have:p.1.toNat<=6:=by omega
  exact bM (mC (by decide) this)<|by decide
 have ec:(2:Int)^p.1.toNat=((2^p.1.toNat:Nat):Int):=by push_cast;rfl
 refine aD<|eW 1 nd rfl (Or.inl rfl) (pdc (ds:=[bR p]) GC hr (aA (pdv 0) aE) ⟨p,rfl,by omega,by omega,rfl⟩) ?_;refine aD<|nP (ds:=[bH []]) 2 (pdL (ds:=[bH []])<|aA (gY (ds:=[]) aE<|bL _) aE) λl=> ?_;refine aD<|kR (ds:=dO 0 p.2.toNat) (λk sd=>∃l,sd=[.val<|bR p,.val (.int<|2^p.1.toNat),.own l<|(fX (2^p.1.toNat) k).map bH,.un]) (gM (n:=p.2.toNat) rfl zrange (PEd.cast (pdx (n:=1) (d:=.int p.2)<|pdv 0)<|by rw[<-e2])<|by omega) ⟨_,Le.refl _,l,rfl⟩ (λk d sdk hd hk=> ?_) λsdn hn=> ?_
 ·obtain⟨hk2,rfl⟩:=dG hd;obtain⟨l2,rfl⟩:=hk;refine⟨[.val<|bR p,.val (.int<|2^p.1.toNat),.own l2<|(fX (2^p.1.toNat) k).map bH,.val (.int<|0+(k:Int))],pgN 3, ?_⟩;refine kB 2 rfl ?_;refine aP (kW 2 nd rfl (Or.inl rfl) (pdc (ds:=[tL<|fX (2^p.1.toNat) k,.int ((2^p.1.toNat:Nat):Int)]) GE hr (aA (pdv 2)<|aA (PEd.cast (pdv 1)<|by rw[ec]) aE) ⟨fX (2^p.1.toNat) k,2^p.1.toNat,rfl, ?_,m64,λs hs=> ?_,rfl⟩) λl3=> ?_)
  ·rw[lE];exact oA p hp k hk2
  ·rw[kS _ _ s hs];omega
  ·exact⟨[.val<|bR p,.val (.int<|2^p.1.toNat),.own l3<|(fX (2^p.1.toNat)<|k+1).map bH,.un],⟨.inr rfl,.inr rfl,.inr rfl,.inl rfl,trivial⟩,l3,rfl⟩
 ·rw[dQ] at hn;obtain⟨l2,rfl⟩:=hn;exact aP<|iQ 2 rfl (pv 2) rfl
def aAv:List D->R->Prop:=λds r=>∃ (k:Nat) (m a:Int),ds=[.str<|nm k,.int m,.int a]/\7<=k/\k<10/\0<m/\r=.val (.int<|aGi k m a)
theorem aAV(F:FI K mg "word_by_itself" aAI):aS P w K mg base "word_by_itself" 1 3 aAv:=by
 refine cC (N:=["name","count","word"]) (ps:=["name","count","word"]) (k:=0) F λf nd cdv A outer s H E hr ds r hl c=> ?_
 obtain⟨k,m,a,rfl,h7,h10,hm0,rfl⟩:=c;refine aD<|dJ (k:=decide<|k=7) (fQ (pdv 0) eL rfl rfl rfl<|aGL k h10) (λh=> ?_) λh=>cM ?_
 ·have:k=7:=by simpa using h
  subst this;exact aP<|fW (cT iT (cT iT (pdv 1) aM)<|pdv 2)
 have n7:¬ k=7:=by simpa using h
 refine aD<|dJ (k:=decide<|k=8) (fQ (pdv 0) eL rfl rfl rfl<|aIK k h10) (λh=> ?_) λh=>cM ?_
 ·have:k=8:=by simpa using h
  subst this;exact aP (fW<|aZ cJ (aZ eO (pdv 2) aM (kI (by decide)<|by decide)) (pdv 1) hm0)
 have n8:¬ k=8:=by simpa using h
 have:k=9:=by omega
 subst this;exact aP (fW<|aZ pD (pdv 2) aM ⟨by decide,by decide⟩)
def xK:List D->R->Prop:=λds r=>∃ (k:Nat) (m a c:Int),ds=[.str<|nm k,.int m,.int a,.int c]/\k<6/\0<m/\r=.val (.int<|oM k m a c)
theorem yT(F:FI K mg "word_by_another" wU):aS P w K mg base "word_by_another" 1 4 xK:=by
 refine cC (N:=["name","count","word","other"]) (ps:=["name","count","word","other"]) (k:=0) F λf nd cdv A outer s H E hr ds r hl c=> ?_
 obtain⟨k,m,a,c,rfl,h6,hm0,rfl⟩:=c;have h10:k<10:=by omega
 refine aD<|dJ (k:=decide<|k=0) (fQ (pdv 0) eL rfl rfl rfl<|aGw k h10) (λh=> ?_) λh=>cM ?_
 ·have:k=0:=by simpa using h
  subst this;exact aP<|fW (cT aHo (pdv 2)<|pdv 3)
 have n0:¬ k=0:=by simpa using h
 refine aD<|dJ (k:=decide<|k=1) (fQ (pdv 0) eL rfl rfl rfl<|aIX k h10) (λh=> ?_) λh=>cM ?_
 ·have:k=1:=by simpa using h
  subst this;exact aP<|fW (cT aIv (pdv 2)<|pdv 3)
 have n1:¬ k=1:=by simpa using h
 refine aD<|dJ (k:=decide<|k=2) (fQ (pdv 0) eL rfl rfl rfl<|aGO k h10) (λh=> ?_) λh=>cM ?_
 ·have:k=2:=by simpa using h
  subst this;exact aP<|fW (cT aHp (pdv 2)<|pdv 3)
 have n2:¬ k=2:=by simpa using h
 refine aD<|dJ (k:=decide<|k=3) (fQ (pdv 0) eL rfl rfl rfl<|aGX k h10) (λh=> ?_) λh=>cM ?_
 ·have:k=3:=by simpa using h
  subst this;exact aP (fW<|aZ cJ (cT cW (pdv 2)<|pdv 3) (pdv 1) hm0)
 have n3:¬ k=3:=by simpa using h
 refine aD<|dJ (k:=decide<|k=4) (fQ (pdv 0) eL rfl rfl rfl<|aEY k h10) (λh=> ?_) λh=>cM ?_
 ·have:k=4:=by simpa using h
  subst this;exact aP (fW<|aZ cJ (cT iT (pdv 2)<|pdv 3) (pdv 1) hm0)
 have n4:¬ k=4:=by simpa using h
 have:k=5:=by omega
 subst this;exact aP (fW<|pdv 3)
structure aFP(p:Int×Int)(k:Nat)(i j n:Int)(ws:List Int):Prop where
 sz:p∈cI
 k10:k<10
 i0:0<=i/\i<p.2
 j0:0<=j/\j<p.2
 n0:0<=n/\n<((2^p.1.toNat:Nat):Int)
 len:ws.length=p.2.toNat
 wd:∀w∈ws,0<=w/\w<((2^p.1.toNat:Nat):Int)
noncomputable def qV(p:Int×Int)(k:Nat)(i j n:Int)(ws:List Int):Int:=yB k ((2^p.1.toNat:Nat):Int) (ws.getD i.toNat 0) (ws.getD j.toNat 0) n
def vM:List D->R->Prop:=λds r=>∃p k i j n ws,aFP p k i j n ws/\ds=[bR p,fZ k i j n,bH ws]/\r=.val (.int<|qV p k i j n ws)
theorem zD(n:Nat):(0:Int)<((2^n:Nat):Int):=by have:0<2^n:=Nat.pow_pos (by decide);generalize 2^n=q at this ⊢;omega
theorem uV{ws:List Int}{i:Int}{n:Nat}(h:ws.length=n)(h1:i<(n:Int))(h0:0<=i):(ws.map D.int)[i.toNat]? =some (.int<|ws.getD i.toNat 0):=by
 have:i.toNat<ws.length:=by omega
 simp[bQ,this]
theorem xZ(F:FI K mg "new_word" wJ)(byself:∃ad,mg "BY_ITSELF"=some (.ref ad)/\∀H:Hp,SqT K H ad [V.str "not",V.str "up",V.str "down"])(GC:aS P w K mg base "word_count" 1 1 yZ)(GI:aS P w K mg base "word_by_itself" 1 3 aAv)(GA:aS P w K mg base "word_by_another" 1 4 xK):aS P w K mg base "new_word" 2 3 vM:=by
 refine cC (N:=["size","step","filling","name","word"]) (ps:=["size","step","filling"]) (k:=1) F λf nd cdv A outer s H E hr ds r hl c=> ?_
 obtain⟨p,k,i,j,n,ws,O,rfl,rfl⟩:=c;obtain⟨h1,h2,h3,h4,h5⟩:=nH p O.sz;have hm0:=zD p.1.toNat;have ec:(2:Int)^p.1.toNat=((2^p.1.toNat:Nat):Int):=by push_cast;rfl
 have e2:p.2=((p.2.toNat:Nat):Int):=by omega
 obtain⟨ad,hB,hq⟩:=byself;have ai:(ws.map D.int)[i.toNat]? =some (.int<|ws.getD i.toNat 0):=uV O.len (by have:=O.i0.2;omega) O.i0.1;have aj:(ws.map D.int)[j.toNat]? =some (.int<|ws.getD j.toNat 0):=uV O.len (by have:=O.j0.2;omega) O.j0.1
 by_cases k6:k<6
 ·have es:fZ k i j n=.tup [.str<|nm k,.int i,.int j]:=by unfold fZ;rw[if_pos k6]
  rw[es];refine aD<|eW 3 nd rfl (Or.inl rfl) (pdx (n:=0)<|pdv 1) ?_;refine aD (iE (fQ (pdv 3) eL rfl rfl rfl<|qJ k O.k10) (by simp;omega)<|cM ?_);refine aD<|eW 4 nd rfl (Or.inl rfl) (mU (i:=i) (pdv 2) (pdx (n:=1)<|pdv 1) O.i0.1 ai λ_ _=>rfl) ?_;refine aD (iE (aAn rfl hB (λH=>hq H) (pdv 3) rfl rfl rfl) (by rw[aAf k O.k10];simp;omega)<|cM ?_);refine aP<|cV (pdc (ds:=[.str<|nm k,.int ((2^p.1.toNat:Nat):Int),.int<|ws.getD i.toNat 0,.int<|ws.getD j.toNat 0]) GA hr (aA (pdv 3)<|aA (PEd.cast (pdc (ds:=[bR p]) GC hr (aA (pdv 0) aE) ⟨p,rfl,by omega,by omega,rfl⟩)<|by rw[ec]) (aA (pdv 4)<|aA (mU (i:=j) (pdv 2) (pdx (n:=2)<|pdv 1) O.j0.1 aj λ_ _=>rfl) aE)) ⟨k,_,_,_,rfl,k6,hm0,rfl⟩) trivial ?_;unfold qV yB;rw[if_neg<|by omega,if_neg<|by omega]
 ·by_cases k6':k=6
  ·subst k6';have es:fZ 6 i j n=.tup [.str<|nm 6,.int i,.int n]:=rfl;rw[es];refine aD<|eW 3 nd rfl (Or.inl rfl) (pdx (n:=0)<|pdv 1) ?_;refine aD<|iJ (fQ (pdv 3) eL rfl rfl rfl<|qJ 6 O.k10) rfl ?_;exact aP<|fW (pdx (n:=2)<|pdv 1)
  ·have es:fZ k i j n=.tup [.str<|nm k,.int i]:=by unfold fZ;rw[if_neg k6,if_neg k6']
   rw[es];refine aD<|eW 3 nd rfl (Or.inl rfl) (pdx (n:=0)<|pdv 1) ?_;refine aD (iE (fQ (pdv 3) eL rfl rfl rfl<|qJ k O.k10) (by simp;omega)<|cM ?_);refine aD<|eW 4 nd rfl (Or.inl rfl) (mU (i:=i) (pdv 2) (pdx (n:=1)<|pdv 1) O.i0.1 ai λ_ _=>rfl) ?_;refine aD<|iJ (aAn rfl hB (λH=>hq H) (pdv 3) rfl rfl rfl) (by rw[aAf k O.k10];simp;omega) ?_;refine aP<|cV (pdc (ds:=[.str<|nm k,.int ((2^p.1.toNat:Nat):Int),.int<|ws.getD i.toNat 0]) GI hr (aA (pdv 3) (aA (PEd.cast (pdc (ds:=[bR p]) GC hr (aA (pdv 0) aE) ⟨p,rfl,by omega,by omega,rfl⟩)<|by rw[ec])<|aA (pdv 4) aE)) ⟨k,_,_,rfl,by omega,O.k10,hm0,rfl⟩) trivial ?_;unfold qV yB;rw[if_neg k6',if_pos<|by omega]
def vT:List D->R->Prop:=λds r=>∃k i j n,ds=[fZ k i j n]/\r=.val (.int i)
theorem uP(k:Nat)(i j n:Int):∃es,fZ k i j n=.tup (.str (nm k)::.int i::es):=by
 unfold fZ
 split
 ·exact⟨_,rfl⟩
 ·split
  ·exact⟨_,rfl⟩
  ·exact⟨_,rfl⟩
theorem yQ(F:FI K mg "written_box" wP):aS P w K mg base "written_box" 1 1 vT:=by
 refine cC (N:=["step"]) (ps:=["step"]) (k:=0) F λf nd cdv A outer s H E hr ds r hl c=> ?_
 obtain⟨k,i,j,n,rfl,rfl⟩:=c;obtain⟨es,e⟩:=uP k i j n;rw[e];exact aP<|fW (pdx (n:=1)<|pdv 0)
noncomputable def aGg(p:Int×Int)(k:Nat)(i j n:Int)(ws:List Int):List Int:=ws.set i.toNat<|qV p k i j n ws
def aAl:List D->R->Prop:=λds r=>∃p k i j n ws,aFP p k i j n ws/\ds=[bR p,fZ k i j n,bH ws]/\r=.val (bH<|aGg p k i j n ws)
theorem uW(ws:List Int){i:Nat}(h:i<ws.length):DL.cutD (ws.map D.int) none (some (i:Int))=(ws.take i).map D.int:=by
 unfold DL.cutD;have h1:HT.sIx (ws.map D.int).length 0 none=0:=rfl
 have h2:HT.sIx (ws.map D.int).length (ws.map D.int).length (some (i:Int))=i:=by rw[HT.sIx_nat,aC];omega
 rw[h1,h2,fG];simp
theorem xH(ws:List Int){i:Nat}(h:i<ws.length):DL.cutD (ws.map D.int) (some<|(i:Int)+1) none=(ws.drop<|i+1).map D.int:=by
 unfold DL.cutD;have e:((i:Int)+1)=((i+1:Nat):Int):=by push_cast;rfl
 have h1:HT.sIx (ws.map D.int).length 0 (some<|(i:Int)+1)=i+1:=by rw[e,HT.sIx_nat,aC];omega
 have h2:HT.sIx (ws.map D.int).length (ws.map D.int).length none=ws.length:=by rw[HT.sIx_none,aC]
 rw[h1,h2,fH,eB<|by rw[cO,aC];omega]
theorem aBg(F:FI K mg "step_on" aAu)(GB:aS P w K mg base "written_box" 1 1 vT)(GN:aS P w K mg base "new_word" 2 3 vM):aS P w K mg base "step_on" 3 3 aAl:=by
 refine cC (N:=["size","step","filling","box"]) (ps:=["size","step","filling"]) (k:=2) F λf nd cdv A outer s H E hr ds r hl c=> ?_
 obtain⟨p,k,i,j,n,ws,O,rfl,rfl⟩:=c;obtain⟨h1,h2,h3,h4,h5⟩:=nH p O.sz;have li:i.toNat<ws.length:=by have:=O.i0;rw[O.len];omega
 have ei:i=((i.toNat:Nat):Int):=by have:=O.i0;omega
 have l6:ws.length<=6:=by rw[O.len];omega
 refine aD<|dR (d:=.int ((i.toNat:Nat):Int)) 3 (PEd.cast (pdc (ds:=[fZ k i j n]) GB hr (aA (pdv 1) aE) ⟨k,i,j,n,rfl,rfl⟩)<|by rw[<-ei]) ?_;refine aP<|cV (PEd.cast (gG (gG (pK (ol:=none) (oh:=some ((i.toNat:Nat):Int)) (pdv 2) trivial (pdv 3) ?_) (pdT (ds:=[.int<|qV p k i j n ws])<|aA (pdc (ds:=[bR p,fZ k i j n,bH ws]) GN hr (aA (pdv 0) (aA (pdv 1)<|aA (pdv 2) aE)) ⟨p,k,i,j,n,ws,O,rfl,rfl⟩) aE) ?_) (pK (ol:=some<|((i.toNat:Nat):Int)+1) (oh:=none) (pdv 2) (cT cW (pdv 3) aM) trivial ?_) ?_) ?_) trivial rfl
 ·rw[HT.sIx_nat,aC];omega
 ·rw[uW ws li];simp only[aC,aV,bX,fC];omega
 ·have e:(((i.toNat:Nat):Int)+1)=((i.toNat+1:Nat):Int):=by push_cast;rfl
  rw[e,HT.sIx_nat,aC];omega
 ·rw[uW ws li,xH ws li];simp only[aJ,aC,aV,cO,bX,fC];omega
 ·rw[uW ws li,xH ws li];unfold bH aGg;rw[List.set_eq_take_append_cons_drop,if_pos li];simp
abbrev nl1:List Str:=["number","stock"]
theorem aBV(F:FI K mg "is_row" tU)(zall:mg "all"=none)(zlen:mg "len"=none)(GW:aS P w K mg base "is_whole" 1 1 aDS):aS P w K mg base "is_row" 2 2 aEd:=by
 refine cC (N:=["stock","numbers"]) (ps:=["stock","numbers"]) (k:=1) F λf nd cdv A outer s H E hr ds r hl c=> ?_
 obtain⟨L,row,hrow,hl9,rfl,rfl⟩:=c;have nd2:nl1.Nodup:=by decide+kernel
 refine aP<|cV (PEd.cast (aFx (bs:=row.map λ_=>true) rfl zall<|PEd.bor (PEd.val<|PEd.cast (pdC (ds:=bB row) (N:=nl1) (M:=["stock","numbers"]) (cap:=[none,some 0]) (sc:=aT tU) (Tb:=λd=>[.val d,.val<|lK L]) (λ_=>true) (λ_=>.bl true) (lC<|pdv 1) (by unfold bB;rw[aC];omega) (λcl C fp s H d hd=>.inl ⟨rfl,rfl⟩) λcl C fp s H d hd _=> ?_) ?_)) ?_) trivial rfl
 ·obtain⟨t,ht,rfl⟩:=cH.mp hd;have hn:=hrow t ht;refine PEd.cast (qE (k:=true) (j:=true) (pdc (ds:=[.int (t:Int)]) (r:=.val<|.bl true) GW hr (aA (pdv 0) aE) ⟨_,rfl,(λ_=>by simp),rfl⟩) λ_=>uM<|PEd.cast (aBt (g:=λi j=>decide<|i<=j) (g':=λi j=>decide<|i<j) aGj pT aM (pdv 0) (PEd.ic (nD rfl zlen (PEd.bor<|pdv 1))<|by rw[aC])) ?_) rfl;have h1:decide ((0:Int)<=(t:Int))=true:=decide_eq_true (by omega);have h2:decide ((t:Int)<(L.length:Int))=true:=decide_eq_true (by omega);rw[h1,h2];rfl
 ·rw[cU.mpr λ_ _=>rfl];unfold bB;rw[bU,bU];rfl
 ·congr 2;rw[dI];intro x hx;obtain⟨_,_,rfl⟩:=cH.mp hx;rfl
theorem aBW(F:FI K mg "price_of" yX)(zsum:mg "sum"=none):aS P w K mg base "price_of" 1 2 uA:=by
 refine cC (N:=["stock","row"]) (ps:=["stock","row"]) (k:=0) F λf nd cdv A outer s H E hr ds r hl c=> ?_
 obtain⟨L,row,hrow,hl2,rfl,rfl⟩:=c;have nd2:nl1.Nodup:=by decide+kernel
 have ec:((bB row).filter λ_=>true).map (λd=>match d with | .int t=>D.int (L.getD t.toNat AV).2|_=>.non)=(wL L row).map D.int:=by
  rw[cU.mpr λ_ _=>rfl];unfold bB wL;rw[bU,bU];refine dZ λt _=> ?_
  simp
 refine aP (fW<|aAk (ns:=wL L row) rfl zsum (PEd.bor<|PEd.val (PEd.cast (pdC (ds:=bB row) (N:=nl1) (M:=["stock","row"]) (cap:=[none,some 0]) (sc:=aT yX) (Tb:=λd=>[.val d,.val<|lK L]) (λ_=>true) (λd=>match d with | .int t=>D.int (L.getD t.toNat AV).2|_=>.non) (lC<|pdv 1) (by rw[show(bB row).length=row.length from aC _];omega) (λcl C fp s H d hd=>.inl ⟨rfl,rfl⟩) λcl C fp s H d hd _=> ?_)<|by rw[ec])));obtain⟨t,ht,rfl⟩:=cH.mp hd;have hn:=hrow t ht;exact pdx (n:=1) (ds:=[sqD (L.getD t AV).1,.int (L.getD t AV).2])<|kG (n:=t) (PEd.bor<|pdv 1) (pdv 0) (pQ hn) λ_ _=>rfl
def aDQ:List D->R->Prop:=λds r=>∃p L row ws,p∈cI/\hX p L/\(∀t∈row,t<L.length)/\Fil p ws/\ds=[bR p,.lst<|L.map skD,.tup<|bB row,bH ws]/\r=.val (bH<|fE p L row ws)
theorem aHD{p:Int×Int}{q:SQ}{ws:List Int}(O:vW p q)(G:Fil p ws):aFP p q.1 q.2.1 q.2.2.1 q.2.2.2 ws:=⟨O.sz,O.k10,O.i0,O.j0,O.n0,G.len,G.wd⟩
theorem aCz(F:FI K mg "row_on" aDF)(GS:aS P w K mg base "step_on" 3 3 aAl):aS P w K mg base "row_on" 4 4 aDQ:=by
 refine cC (N:=["size","stock","row","filling","made","number"]) (ps:=["size","stock","row","filling"]) (k:=3) F λf nd cdv A outer s H E hr ds r hl c=> ?_
 obtain⟨p,L,row,ws,hp,S,hrow,G,rfl,rfl⟩:=c;refine aD<|eW 4 nd rfl (Or.inl rfl) (pdv 3) ?_;refine aD<|fO (ds:=bB row) (λt=>[.val<|bR p,.val<|lK L,.val<|tN row,.val<|bH ws,.val (bH<|fE p L (row.take t) ws),.un]) (λt=>[.val<|bR p,.val<|lK L,.val<|tN row,.val<|bH ws,.val (bH<|fE p L (row.take t) ws),.val<|.int ((row.getD t 0:Nat):Int)]) (lC<|pdv 2) ⟨.inr rfl,.inr rfl,.inr rfl,.inr rfl,.inr rfl,.inr rfl,trivial⟩ (λt d hd=> ?_) (λt d hd=> ?_) ?_
 ·obtain⟨_,rfl⟩:=oZ hd;exact pgN 5
 ·obtain⟨ht,rfl⟩:=oZ hd;have hn:=hrow (row.getD t 0)<|DL.getD_mem ht;have G1:=iY S (row.take t) ws (λu hu=>hrow u<|pJ _ _ hu) G;refine aP<|dR (d:=bH<|fE p L (row.take<|t+1) ws) 4 (pdc (ds:=[bR p,sqD (L.getD (row.getD t 0) AV).1,bH<|fE p L (row.take t) ws]) GS hr (aA (pdv 0) (aA (pdx (n:=0) (ds:=[sqD (L.getD (row.getD t 0) AV).1,.int (L.getD (row.getD t 0) AV).2])<|kG (PEd.bor<|pdv 1) (pdv 5) (pQ hn) λ_ _=>rfl)<|aA (pdv 4) aE)) ⟨p,_,_,_,_,_,aHD (S.st _<|DL.getD_mem hn).1 G1,rfl,by rw[xG ht,sV];rfl⟩) ?_;exact⟨.inr rfl,.inr rfl,.inr rfl,.inr rfl,.inr rfl,.inl rfl,trivial⟩
 ·refine aP<|cV (pdv 4) trivial ?_;show R.val (bH<|fE p L (row.take (bB row).length) ws)=_;rw[show(bB row).length=row.length from aC _,eI]
abbrev nl2:List Str:=["size","stock","row"]
theorem aCp(F:FI K mg "table_of" yY)(ztuple:mg "tuple"=none)(GF:aS P w K mg base "fillings" 2 1 aEs)(GR:aS P w K mg base "row_on" 4 4 aDQ):aS P w K mg base "table_of" 5 3 aDC:=by
 refine cC (N:=nl2) (ps:=nl2) (k:=4) F λf nd cdv A outer s H E hr ds r hl c=> ?_
 obtain⟨p,L,row,hp,S,hrow,rfl,rfl⟩:=c;have nd2:(["filling","size","stock","row"]:List Str).Nodup:=by decide+kernel
 have f9:=aAP hp;have fp:∀w∈fX (2^p.1.toNat) p.2.toNat,Fil p w:=λw hw=>oY hp hw
 have et:gW p L row=(fX (2^p.1.toNat) p.2.toNat).map λws=>fE p L row ws:=rfl
 rw[et];refine aP<|fW (lG rfl ztuple<|PEd.bor (PEd.val<|PEd.cast (pdC (ds:=(fX (2^p.1.toNat) p.2.toNat).map bH) (N:=["filling","size","stock","row"]) (M:=nl2) (cap:=[none,some 0,some 1,some 2]) (sc:=aT yY) (Tb:=λd=>[.val d,.val<|bR p,.val<|lK L,.val<|tN row]) (λ_=>true) (λd=>bH (fE p L row<|zB d)) (fM (PEd.val<|pdc (ds:=[bR p]) GF hr (aA (pdv 0) aE) ⟨p,hp,rfl,rfl⟩)) (by rw[aC];omega) (λcl C fp s H d hd=>.inl ⟨rfl,rfl⟩) λcl C fp2 s H d hd _=> ?_) (?_:_=R.own (((fX (2^p.1.toNat) p.2.toNat).map λws=>fE p L row ws).map bH))))
 ·obtain⟨ws,hw,rfl⟩:=aCt hd;rw[qA];exact pdc (ds:=[bR p,lK L,tN row,bH ws]) GR hr (aA (pdv 1)<|aA (pdv 2) (aA (pdv 3)<|aA (pdv 0) aE)) ⟨p,L,row,ws,hp,S,hrow,fp ws hw,rfl,rfl⟩
 ·rw[cU.mpr λ_ _=>rfl,bU,bU];congr 1;refine dZ λws _=> ?_
  show bH (fE p L row (zB<|bH ws))=_;rw[qA];rfl
theorem aCR(F:FI K mg "boxes_looked_at" aEf)(zlist:mg "list"=none)(zrange:mg "range"=none):aS P w K mg base "boxes_looked_at" 1 2 aEh:=by
 refine cC (N:=["size","looked"]) (ps:=["size","looked"]) (k:=0) F λf nd cdv A outer s H E hr ds r hl c=> ?_
 obtain⟨p,o,hp,rfl,rfl⟩:=c;obtain⟨h1,h2,h3,h4,h5⟩:=nH p hp;have e2:p.2=((p.2.toNat:Nat):Int):=by omega
 cases o with
 |none=>exact aD<|iJ (aAc (d:=.non) (pdv 1) mB) rfl (aP<|cV (PEd.cast (vE (n:=p.2.toNat) rfl zlist rfl zrange (PEd.ic (pdx (n:=1) (d:=.int p.2)<|pdv 0) e2)<|by omega)<|by rw[sI];rfl) trivial rfl)
 |some l=>refine aD (iE (aAc (d:=.lst<|bB l) (pdv 1) mB) rfl<|cM ?_);exact aP (fW<|wY rfl zlist (PEd.bor<|pdv 1))
theorem yL(F:FI K mg "words_in" rE):aS P w K mg base "words_in" 1 2 xJ:=by
 refine cC (N:=["boxes","filling"]) (ps:=["boxes","filling"]) (k:=0) F λf nd cdv A outer s H E hr ds r hl c=> ?_
 obtain⟨bs,ws,hb,hw,rfl,rfl⟩:=c;have nd2:(["box","filling"]:List Str).Nodup:=by decide+kernel
 refine aP<|cV (PEd.cast (pdC (ds:=bB bs) (N:=["box","filling"]) (M:=["boxes","filling"]) (cap:=[none,some 1]) (sc:=aT rE) (Tb:=λd=>[.val d,.val<|bH ws]) (λ_=>true) (λd=>match d with | .int i=>D.int (ws.getD i.toNat 0)|_=>.non) (fM<|pdv 0) (by unfold bB;rw[aC];omega) (λcl C fp s H d hd=>.inl ⟨rfl,rfl⟩) λcl C fp s H d hd _=> ?_) ?_) trivial rfl
 ·obtain⟨b,hb2,rfl⟩:=cH.mp hd;have:=hw b hb2;exact lY (n:=b) (d:=.int<|ws.getD b 0) (pdv 1) (pdv 0) (by simp[bQ,this]) λ_ _=>rfl
 ·rw[cU.mpr λ_ _=>rfl];unfold bB;rw[bU,bU];rfl
abbrev nl3:List Str:=["size","one","other","looked","boxes","number","filling"]
theorem aCB(F:FID K mg "parts_at" aDv)(zenumerate:mg "enumerate"=none)(GB:aS P w K mg base "boxes_looked_at" 1 2 aEh)(GW:aS P w K mg base "words_in" 1 2 xJ)(GF:aS P w K mg base "fillings" 2 1 aEs):CalleeE [.none] P w K mg base "parts_at" 3 4 aDL:=by
 obtain⟨f,fd,hm,F⟩:=F;have nd:nl3.Nodup:=by decide+kernel
 refine aAd (N:=nl3) (ps:=["size","one","other","looked"]) (k:=2) F ⟨rfl,rfl,rfl,nd,rfl,by decide+kernel,by decide+kernel⟩ hm (λs T o nn _ _ _ _ _ _ us hT hS hl=>match us,hl with | [_,_,_,_],_=>BindsTo.of_defaults rfl hT hS rfl rfl) (λs T o nn _ _ _ _ _ _ us hT hS hl=>match us,hl with | [_,_,_],_=>BindsTo.of_defaults rfl hT hS rfl rfl) λcdv A outer s H E hr ds r hl c=> ?_
 obtain⟨p,T,U,o,hp,OT,OU,hlk,rfl,rfl⟩:=c;have hu:=uN hr 4;obtain⟨bl,bb⟩:=aIY hp hlk;refine aD<|nP (ds:=bB<|bxQ p.2.toNat o) 4 (pdc (ds:=[bR p,lkD o]) GB hr (aA (pdv 0)<|aA (pdv 3) aE) ⟨p,o,hp,rfl,rfl⟩) λl=>kB 4 rfl ?_;generalize bxQ p.2.toNat o=bs at bl bb;refine aD<|kR (ds:=lP<|(eY p).map bH) (λk sd=>(∀j,j<k->unK bs T U j=false)/\sd=[.val<|bR p,.val (.tup<|T.map bH),.val (.tup<|U.map bH),.val<|lkD o,.val (.lst<|bB bs),.un,.un]) (qU rfl zenumerate (PEd.val<|pdc (ds:=[bR p]) GF hr (aA (pdv 0) aE) ⟨p,hp,rfl,rfl⟩)) ⟨_,Le.refl _,λj hj=>by omega,rfl⟩ (λk d sdk hd hk=> ?_) λsdn hn=> ?_
 ·obtain⟨x,hx,rfl⟩:=jQ hd;obtain⟨hk2,rfl⟩:=iV hx;obtain⟨hn,rfl⟩:=hk;have kT:k<T.length:=by rw[OT.len];exact hk2
  have kU:k<U.length:=by rw[OU.len];exact hk2
  have fT:=OT.fil _<|getD_mem (d:=[]) kT;have fU:=OU.fil _<|getD_mem (d:=[]) kU;refine⟨[.val<|bR p,.val (.tup<|T.map bH),.val (.tup<|U.map bH),.val<|lkD o,.val (.lst<|bB bs),.val<|.int (k:Int),.val (bH<|(eY p).getD k [])],iH (js:=[5,6]) rfl (cF (pgn 5)<|cF (pgn 6) gH) rfl rfl, ?_⟩;have wd:∀ (V:List (List Int)),k<V.length->(V.map bH)[k]? =some (bH<|V.getD k []):=λV hV=>by simp[bQ,hV]
  refine aP<|dJ (k:=unK bs T U k) (PTd.cast (tK (ra:=.val (.lst<|(bs.map λj=>(T.getD k []).getD j 0).map D.int)) (rb:=.val (.lst<|(bs.map λj=>(U.getD k []).getD j 0).map D.int)) (PEd.val<|pdc (ds:=[.lst<|bB bs,bH<|T.getD k []]) GW hr (aA (pdv 4)<|aA (lY (n:=k) (d:=bH<|T.getD k []) (pdv 1) (pdv 5) (wd T kT) λ_ _=>rfl) aE) ⟨bs,T.getD k [],bl,λb hb=>by rw[fT.len];exact bb b hb,rfl,rfl⟩) (PEd.val<|pdc (ds:=[.lst<|bB bs,bH<|U.getD k []]) GW hr (aA (pdv 4)<|aA (lY (n:=k) (d:=bH<|U.getD k []) (pdv 2) (pdv 5) (wd U kU) λ_ _=>rfl) aE) ⟨bs,U.getD k [],bl,λb hb=>by rw[fU.len];exact bb b hb,rfl,rfl⟩) trivial trivial (.inr ⟨rfl,rfl⟩) (mT _) (mT _) (aIO hu<|by show jS _+1+1<=4;rw[nX];decide)) ?_) (λh=> ?_) λh=>cM ?_
  ·show(!gR _ _)=unl _ _ _;rw[qL,oX]
  ·refine aP<|cV (pdv 6) trivial ?_;show R.val _=R.val (aGh<|gX bs (eY p) T U);rw[yJ hk2 h hn];rfl
  ·refine⟨[.val<|bR p,.val (.tup<|T.map bH),.val (.tup<|U.map bH),.val<|lkD o,.val (.lst<|bB bs),.un,.un],⟨.inr rfl,.inr rfl,.inr rfl,.inr rfl,.inr rfl,.inl rfl,.inl rfl,trivial⟩,λj hj=> ?_,rfl⟩
   by_cases q:j<k
   ·exact hn j q
   ·have:j=k:=by omega
    subst this;exact h
 ·obtain⟨hn,rfl⟩:=hn;rw[jX,aC] at hn;refine aP<|cV mB trivial ?_;show R.val _=R.val (aGh<|gX bs (eY p) T U);rw[pU hn];rfl
abbrev nl4:List Str:=["row","place","many"]
theorem aCO(F:FI K mg "is_window" aDz)(zlen:mg "len"=none):aS P w K mg base "is_window" 1 3 aJl:=by
 refine cC (N:=nl4) (ps:=nl4) (k:=0) F λf nd cdv A outer s H E hr ds r hl c=> ?_
 obtain⟨row,⟨a,b,_⟩,rfl,rfl⟩:=c;exact aP (fW<|qE (k:=decide<|0<=a) (j:=decide (1<=b)&&decide (a+b<=(row.length:Int))) (aEo (g:=λi j=>decide<|j<=i) aBP (pdv 1) aM<|eD _) λ_=>qE (k:=decide<|1<=b) (j:=decide<|a+b<=(row.length:Int)) (aEo (g:=λi j=>decide<|j<=i) aBP (pdv 2) aM<|eD _) λ_=>uM (aEo (g:=λi j=>decide<|i<=j) aGj (cT cW (pdv 1)<|pdv 2) (PEd.ic (jF rfl zlen<|pdv 0)<|by unfold bB;rw[aC])<|eD _))
theorem zV(F:FI K mg "steps_at" vO):aS P w K mg base "steps_at" 1 3 wH:=by
 refine cC (N:=nl4) (ps:=nl4) (k:=0) F λf nd cdv A outer s H E hr ds r hl c=> ?_
 obtain⟨row,i,m,rfl,rfl⟩:=c;refine aP<|cV (tH (i:=i) (j:=i+m) (pdv 0) (pdv 1) (PEd.ic (cT cW (pdv 1)<|pdv 2)<|by omega)) trivial ?_;unfold bB;rw[kM,fG,fH]
theorem aBq(F:FI K mg "with_change" aAB):aS P w K mg base "with_change" 1 2 pF:=by
 refine cC (N:=["row","change","place"]) (ps:=["row","change"]) (k:=0) F λf nd cdv A outer s H E hr ds r hl c=> ?_
 obtain⟨row,c,hl9,rfl,rfl⟩:=c;refine aD<|dR (d:=.int (c.1:Int)) 2 (pdx (n:=0) (ds:=[.int (c.1:Int),.int (c.2.1:Int),.tup<|bB c.2.2])<|pdv 1) ?_;refine aP<|cV (PEd.cast (gG (gG (qH (k:=c.1) (pdv 0)<|pdv 2) (pdx (n:=2) (ds:=[.int (c.1:Int),.int (c.2.1:Int),.tup<|bB c.2.2])<|pdv 1) ?_) (qQ (k:=c.1+c.2.1) (pdv 0) (PEd.ic (cT cW (pdv 2) (pdx (n:=1) (ds:=[.int (c.1:Int),.int (c.2.1:Int),.tup<|bB c.2.2])<|pdv 1))<|by push_cast;rfl)) ?_) ?_) trivial rfl
 ·unfold bB;rw[aV,aC,aC];omega
 ·unfold bB;rw[aJ,aV,cO,aC,aC];omega
 ·unfold wcQ bB;rw[bD,bD,fG,fH]
theorem vL{p:Int×Int}(hp:p∈cI){L:List SK}(S:hX p L){row:List Nat}(h:∀t∈row,t<L.length):aEp p (gW p L row):=⟨aCA p L row,aCV hp S h⟩
abbrev nl5:List Str:=["size","stock","one","other","looked"]
theorem aDb(F:FI K mg "tells_the_same" aDA)(GT:aS P w K mg base "table_of" 5 3 aDC)(GP:CalleeE [.none] P w K mg base "parts_at" 3 4 aDL):aS P w K mg base "tells_the_same" 6 5 aJu:=by
 refine cC (N:=nl5) (ps:=nl5) (k:=5) F λf nd cdv A outer s H E hr ds r hl c=> ?_
 obtain⟨p,L,a,b,o,hp,S,ha,hb,hlk,rfl,rfl⟩:=c
 have e:decide (iF p L b o=iF p L a o)=isN (aGh (gX (bxQ p.2.toNat o) (eY p) (gW p L a)<|gW p L b)):=by
  cases h:gX (bxQ p.2.toNat o) (eY p) (gW p L a) (gW p L b) with
  |none=>exact decide_eq_true<|yD hp S ha hb h
  |some ws=>
   refine decide_eq_false λz=> ?_
   rw[zC z] at h;cases h
 exact aP<|cV (PEd.cast (aGB (d:=aGh (gX (bxQ p.2.toNat o) (eY p) (gW p L a)<|gW p L b)) (pdc (ds:=[bR p,.tup<|(gW p L a).map bH,.tup<|(gW p L b).map bH,lkD o]) GP.full hr (aA (pdv 0)<|aA (pdc (ds:=[bR p,lK L,tN a]) GT hr (aA (pdv 0) (aA (pdv 1)<|aA (pdv 2) aE)) ⟨p,L,a,hp,S,ha,rfl,rfl⟩) (aA (pdc (ds:=[bR p,lK L,tN b]) GT hr (aA (pdv 0) (aA (pdv 1)<|aA (pdv 3) aE)) ⟨p,L,b,hp,S,hb,rfl,rfl⟩)<|aA (pdv 4) aE)) ⟨p,gW p L a,gW p L b,o,hp,vL hp S ha,vL hp S hb,hlk,rfl,rfl⟩) mB)<|by rw[e]) trivial rfl
theorem aCj(F:FI K mg "may_be_made" aJA)(GP:aS P w K mg base "price_of" 1 2 uA)(GI:aS P w K mg base "is_row" 2 2 aEd)(GW:aS P w K mg base "is_window" 1 3 aJl)(GS:aS P w K mg base "steps_at" 1 3 wH)(GC:aS P w K mg base "with_change" 1 2 pF)(GT:aS P w K mg base "tells_the_same" 6 5 aJu):aS P w K mg base "may_be_made" 7 5 aIi:=by
 refine cC (N:=["size","stock","row","change","looked","piece"]) (ps:=["size","stock","row","change","looked"]) (k:=6) F λf nd cdv A outer s H E hr ds r hl c=> ?_
 obtain⟨p,L,row,⟨x,y,pc⟩,o,hp,S,hrow,hpc,hl1,hl2,hlk,rfl,rfl⟩:=c;simp only at hpc hl2;have cx:∀ {X:Cx}{sd:List Slot}{a:Expr}{n0:Nat}{p1 p2:Pos},PEd X sd a (.val<|eA (x,y,pc))->PEd X sd (.Subscript a (.Constant (.int 0) n0 p1) p2) (.val<|.int x):=λha=>pdx (n:=0) (ds:=[.int x,.int y,tN pc]) ha
 have cy:∀ {X:Cx}{sd:List Slot}{a:Expr}{n0:Nat}{p1 p2:Pos},PEd X sd a (.val<|eA (x,y,pc))->PEd X sd (.Subscript a (.Constant (.int 1) n0 p1) p2) (.val<|.int y):=λha=>pdx (n:=1) (ds:=[.int x,.int y,tN pc]) ha
 refine aD<|dR (d:=tN pc) 5 (pdx (n:=2) (ds:=[.int x,.int y,tN pc])<|pdv 3) ?_;unfold wO;cases hw:wnZ row (x,y,pc) with
 |false=>exact aD<|iJ (k:=true) (PWd.pt<|lU (k:=true) (j:=true) (iK (k:=false) (gI<|pdc (ds:=[tN row,.int x,.int y]) (r:=.val<|.bl false) GW hr (aA (pdv 2) (aA (cx<|pdv 3)<|aA (cy<|pdv 3) aE)) ⟨row,(x,y,pc),rfl,by rw[hw]⟩)) λh=>by cases h) rfl (aP<|fW wR)
 |true=>
  have hww:=hw;unfold wnZ at hww;simp only[aW,decide_eq_true_eq] at hww;obtain⟨w1,w2,w3⟩:=hww;obtain⟨i,rfl⟩:∃i:Nat,x=(i:Int):=⟨x.toNat,by omega⟩;obtain⟨n,rfl⟩:∃n:Nat,y=(n:Int):=⟨y.toNat,by omega⟩;simp only[cK,gO];have hb:oQ row (i,n,pc)=true:=decide_eq_true ⟨by show 1<=n;omega,by show i+n<=_;omega⟩;unfold hoQ;rw[hb,gO];refine yF (PWd.pt (lU (k:=false) (j:=false) (iK (k:=true) (gI<|pdc (ds:=[tN row,.int (i:Int),.int (n:Int)]) (r:=.val<|.bl true) GW hr (aA (pdv 2) (aA (cx<|pdv 3)<|aA (cy<|pdv 3) aE)) ⟨row,((i:Int),(n:Int),pc),rfl,by rw[hw]⟩)) λ_=>pG<|iK (k:=true) (gI<|pdc (ds:=[lK L,tN pc]) (r:=.val<|.bl true) GI hr (aA (pdv 1)<|aA (pdv 5) aE) ⟨L,pc,hpc,by omega,rfl,rfl⟩))) ?_;have hst:RowOk L ((row.drop i).take n):=λt ht=>hrow t (iC<|iB ht)
  have hsl:((row.drop i).take n).length<=450:=by rw[aV,cO];omega
  refine aD<|dJ (iO (g:=λi j=>decide<|j<=i) aBP (pdc (ds:=[lK L,tN pc]) (r:=.val (.int<|kJ L pc)) GP hr (aA (pdv 1)<|aA (pdv 5) aE) ⟨L,pc,hpc,by omega,rfl,rfl⟩) (pdc (ds:=[lK L,tN<|(row.drop i).take n]) (r:=.val<|.int (kJ L<|(row.drop i).take n)) GP hr (aA (pdv 1)<|aA (pdc (ds:=[tN row,.int (i:Int),.int (n:Int)]) GS hr (aA (pdv 2) (aA (cx<|pdv 3)<|aA (cy<|pdv 3) aE)) ⟨row,i,n,rfl,rfl⟩) aE) ⟨L,_,hst,by omega,rfl,rfl⟩)<|eD _) (λh=> ?_) λh=>cM ?_
  ·have h':=of_decide_eq_true h;refine aP<|cV wR trivial ?_;rw[decide_eq_false (show ¬ kJ L pc<kJ L ((row.drop i).take n) by omega)];rfl
  ·have h':=of_decide_eq_false h;rw[decide_eq_true (show kJ L pc<kJ L ((row.drop i).take n) by omega),gO];exact aP (fW<|pdc (ds:=[bR p,lK L,tN row,tN<|wcQ row (i,n,pc),lkD o]) (r:=.val<|.bl (decide<|iF p L (wcQ row (i,n,pc)) o=iF p L row o)) GT hr (aA (pdv 0) (aA (pdv 1)<|aA (pdv 2) (aA (pdc (ds:=[tN row,chD (i,n,pc)]) GC hr (aA (pdv 2)<|aA (pdv 3) aE) ⟨row,(i,n,pc),by show _+pc.length<=900;omega,rfl,rfl⟩)<|aA (pdv 4) aE))) ⟨p,L,row,wcQ row (i,n,pc),o,hp,S,hrow,hrow.wc hpc,hlk,rfl,rfl⟩)
abbrev nl6:List Str:=["self","at"]
theorem xV{CC CL:BC}(F:Fun K "__init__" "NoChange.__init__" vK f fd)(xi:XIn K mg "at" CC CL f):FnOk P w K mg base CX0 1 f fd nl6 (spL (exZ K "at" CC) 2<|aIl "at" CC):=by
 have nd:nl6.Nodup:=by decide+kernel
 refine aHf (Z:=exZ K "at" CC) (N:=nl6) (ps:=nl6) (k:=0) F ⟨rfl,rfl,rfl,nd,rfl,by decide+kernel,by decide+kernel⟩ (λcdv A outer s H E B hB hr a ds post hl c=> ?_) aHk;obtain⟨x,t,i,rfl,hi,rfl,rfl⟩:=c;have hlog:i.natAbs.log2<1920:=jK (rG _) (by omega);refine aD<|aCr (X:=reB (kA CX0 P w K mg base nl6 "NoChange.__init__" (aT vK) f cdv A outer s H E).nox B hB) xi rfl (pv 0) rfl (aBa (zs:=["no change that may be made at ",toString i]) (aAz eL<|aAz (aFd (pdv 1) hlog) aGy) ?_) λt'=> ?_
 ·have g:∀n,n<64->(wV Str.empty ["no change that may be made at ",toString ((n:Nat):Int)]).length<=100000:=by decide+kernel
  have:=g i.toNat<|by omega
  rwa[aDk hi.1] at this
 ·exact aP<|aCk xi rfl (pv 0) (pdv 1) λdx=>⟨_,⟨t',dx,rfl⟩,rfl⟩
theorem tW{cs:List Ch}{t:Nat}{d:D}(h:(cs.map chD)[t]? =some d):t<cs.length/\d=chD (cs.getD t (0,0,[])):=by
 rw[bK] at h
 by_cases hl:t<cs.length
 ·refine⟨hl, ?_⟩;simp[hl] at h;simp[bQ,hl,h]
 ·rw[fK<|by omega] at h;cases h
abbrev nl7:List Str:=["size","stock","row","changes","looked","made","at","change"]
abbrev nl8:List Str:=["size","stock","row","changes","looked"]
theorem yU(F:aHO #[.none] K "gone_through" "gone_through" uZ f fd)(zenumerate:mg "enumerate"=none)(hm:mg "gone_through"=some (.ref f))(GM:aS P w K mg base "may_be_made" 7 5 aIi)(GC:aS P w K mg base "with_change" 1 2 pF):CalleeE [.none] P w K mg base "gone_through" 8 5 tI:=by
 have nd:nl7.Nodup:=by decide+kernel
 refine aAd (N:=nl7) (ps:=nl8) (k:=7) F ⟨rfl,rfl,rfl,nd,rfl,by decide+kernel,by decide+kernel⟩ hm (λs T o nn _ _ _ _ _ _ us hT hS hl=>match us,hl with | [_,_,_,_,_],_=>BindsTo.of_defaults rfl hT hS rfl rfl) (λs T o nn _ _ _ _ _ _ us hT hS hl=>match us,hl with | [_,_,_,_],_=>BindsTo.of_defaults rfl hT hS rfl rfl) λcdv A outer s H E hr ds r hl c=> ?_
 obtain⟨p,L,o,row,cs,rs,m,hp,S,hlk,C,c30,hm,rfl,rfl⟩:=c;have l1:=C.len;have h0:=C.hd;refine aD<|dR (d:=tN<|rs.getD 0 []) 5 (PEd.cast (pdv 2)<|by rw[h0]) ?_;refine aD<|fO (ds:=lP<|(cs.take m).map chD) (λt=>[.val<|bR p,.val<|lK L,.val<|tN row,.val (.lst<|(cs.take m).map chD),.val<|lkD o,.val (tN<|rs.getD t []),.un,.un]) (λt=>[.val<|bR p,.val<|lK L,.val<|tN row,.val (.lst<|(cs.take m).map chD),.val<|lkD o,.val (tN<|rs.getD t []),.val<|.int (t:Int),.val (chD<|cs.getD t (0,0,[]))]) (qU rfl zenumerate<|pdv 3) (Le.refl _) (λt d hd=> ?_) (λt d hd=> ?_) ?_
 ·obtain⟨x,hx,rfl⟩:=jQ hd;obtain⟨ht,rfl⟩:=tW hx
  have e:(cs.take m).getD t (0,0,[])=cs.getD t (0,0,[]):=by rw[aV] at ht;simp only[bQ,aDi];rw[if_pos<|by omega]
  rw[e];exact iH (js:=[6,7]) (ds:=[.int (t:Int),chD<|cs.getD t (0,0,[])]) rfl (cF (pgn 6)<|cF (pgn 7) gH) rfl rfl
 ·obtain⟨x,hx,rfl⟩:=jQ hd;obtain⟨ht,_⟩:=tW hx;rw[aV] at ht;obtain⟨q1,q2⟩:=C.st t (by omega);obtain⟨k1,k2⟩:=C.ok (rs.getD t []) (DL.getD_mem<|by omega);obtain⟨m1,m2⟩:=C.pc (cs.getD t (0,0,[])) (DL.getD_mem<|by omega);refine yF (iK (k:=true) (gI<|pdc (ds:=[bR p,lK L,tN<|rs.getD t [],chD<|cs.getD t (0,0,[]),lkD o]) (r:=.val<|.bl true) GM hr (aA (pdv 0) (aA (pdv 1)<|aA (pdv 5) (aA (pdv 7)<|aA (pdv 4) aE))) ⟨p,L,_,zCh<|cs.getD t (0,0,[]),o,hp,S,k1,m1,by omega,by show(cs.getD t (0,0,[])).2.2.length<=400;omega,hlk,rfl,by rw[xX,q1]⟩)) ?_;refine aP<|dR (d:=tN<|rs.getD (t+1) []) 5 (pdc (ds:=[tN<|rs.getD t [],chD<|cs.getD t (0,0,[])]) GC hr (aA (pdv 5)<|aA (pdv 7) aE) ⟨_,_,by omega,rfl,by rw[q2]⟩) ?_;exact⟨.inr rfl,.inr rfl,.inr rfl,.inr rfl,.inr rfl,.inr rfl,.inl rfl,.inl rfl,trivial⟩
 ·rw[show(lP<|(cs.take m).map chD).length=m by rw[jX,aC,aV];omega];exact aP (fW<|pdv 5)
theorem aBu{CC CL fI:BC}{fdI:AK}(F:FID K mg "gone_through" uZ)(zenumerate:mg "enumerate"=none)(xm:aHZ K mg CC CL fI)(FI:Fun K "__init__" "NoChange.__init__" vK fI fdI)(GM:aS P w K mg base "may_be_made" 7 5 aIi)(GC:aS P w K mg base "with_change" 1 2 pF):CalleeE [.none] P w K mg base "gone_through" 8 5 tI/\mJ P w K mg base "gone_through" 8 5 XGo "at" CC:=by
 obtain⟨f,fd,hm,F⟩:=F;refine⟨yU F zenumerate hm GM GC, ?_⟩;have nd:nl7.Nodup:=by decide+kernel
 have bI:=FI.binds (ps:=nl6) λ_ _ _ _ _ _ us hl=>match us,hl with | [_,_],_=>rfl
 refine aCn (N:=nl7) (ps:=nl8) (k:=7) (st:=uZ) (qual:="gone_through") ⟨F.ex,F.kp⟩ ⟨rfl,rfl,rfl,nd,rfl,by decide+kernel,by decide+kernel⟩ hm (λs T o nn _ _ _ _ _ _ us hT hS hl=>match us,hl with | [_,_,_,_,_],_=>BindsTo.of_defaults rfl hT hS rfl rfl) λi cdv A outer s H E hr hE ds hl c=> ?_
 obtain⟨p,L,o,row,cs,rs,m,bad,rest,hp,S,hlk,C,c30,hm,bok,bl,hbad,rfl,rfl⟩:=c;have hr2:=hr.mono (show 2<=7 by decide);have l1:=C.len;have h0:=C.hd;have tl:((cs.take m).map chD).length=m:=by rw[aC,aV];omega
 refine aD<|dR (d:=tN<|rs.getD 0 []) 5 (PEd.cast (pdv 2)<|by rw[h0]) ?_;refine aD<|kR (ds:=lP<|(cs.take m).map chD++[eA bad]++rest) (λt sd=>t<=m/\sd=[.val<|bR p,.val<|lK L,.val<|tN row,.val (.lst<|(cs.take m).map chD++[eA bad]++rest),.val<|lkD o,.val (tN<|rs.getD t []),.un,.un]) (qU rfl zenumerate<|pdv 3) ⟨_,Le.refl _,bL _,rfl⟩ (λt d sdt hd ht=> ?_) (λsdn hn=> ?_) (hp:=PassesOwn.leaving)
 ·obtain⟨tm,rfl⟩:=ht;obtain⟨x,hx,rfl⟩:=jQ hd;obtain⟨k1,k2⟩:=C.ok (rs.getD t []) (DL.getD_mem<|by omega)
  by_cases q:t<m
  ·rw[fN,jM<|by rw[tl];exact q] at hx;obtain⟨ht,rfl⟩:=tW hx
   have e:(cs.take m).getD t (0,0,[])=cs.getD t (0,0,[]):=by simp only[bQ,aDi];rw[if_pos q]
   rw[e];obtain⟨q1,q2⟩:=C.st t (by omega);obtain⟨m1,m2⟩:=C.pc (cs.getD t (0,0,[])) (DL.getD_mem<|by omega);refine⟨_,iH (js:=[6,7]) (ds:=[.int (t:Int),chD<|cs.getD t (0,0,[])]) rfl (cF (pgn 6)<|cF (pgn 7) gH) rfl rfl, ?_⟩;refine yF (iK (k:=true) (gI<|pdc (ds:=[bR p,lK L,tN<|rs.getD t [],chD<|cs.getD t (0,0,[]),lkD o]) (r:=.val<|.bl true) GM hr (aA (pdv 0) (aA (pdv 1)<|aA (pdv 5) (aA (pdv 7)<|aA (pdv 4) aE))) ⟨p,L,_,zCh<|cs.getD t (0,0,[]),o,hp,S,k1,m1,by omega,by show(cs.getD t (0,0,[])).2.2.length<=400;omega,hlk,rfl,by rw[xX,q1]⟩)) ?_;refine aP<|dR (d:=tN<|rs.getD (t+1) []) 5 (pdc (ds:=[tN<|rs.getD t [],chD<|cs.getD t (0,0,[])]) GC hr (aA (pdv 5)<|aA (pdv 7) aE) ⟨_,_,by omega,rfl,by rw[q2]⟩) ?_;exact⟨[.val<|bR p,.val<|lK L,.val<|tN row,.val (.lst<|(cs.take m).map chD++[eA bad]++rest),.val<|lkD o,.val (tN<|rs.getD (t+1) []),.un,.un],⟨.inr rfl,.inr rfl,.inr rfl,.inr rfl,.inr rfl,.inr rfl,.inl rfl,.inl rfl,trivial⟩,by omega,rfl⟩
  ·have et:t=m:=by omega
   subst et
   have ex:x=eA bad:=by rw[fN,tE (by rw[tl];exact aR _),tl,Nat.sub_self] at hx;exact(bN.inj hx).symm
   subst ex;refine⟨_,iH (js:=[6,7]) (ds:=[.int (t:Int),eA bad]) rfl (cF (pgn 6)<|cF (pgn 7) gH) rfl rfl, ?_⟩;refine aD<|iJ (k:=true) (iK (k:=false) (gI<|pdc (ds:=[bR p,lK L,tN<|rs.getD t [],eA bad,lkD o]) (r:=.val<|.bl false) GM hr (aA (pdv 0) (aA (pdv 1)<|aA (pdv 5) (aA (pdv 7)<|aA (pdv 4) aE))) ⟨p,L,_,bad,o,hp,S,k1,bok,by omega,bl,hlk,rfl,by rw[hbad]⟩)) rfl ?_;exact aP<|zL xm.xi (vZ xm.xi xm.kp xm.ty (xV FI xm.xi) bI hr2 rfl xm.mc (pdv 6) ⟨by omega,by omega⟩) (yC hE) rfl
 ·exfalso;have:=hn.1;rw[jX,aJ,aJ,tl] at this;simp at this;omega
noncomputable def aHP(k:Int)(st:Int×Int)(j:Nat):Int×Int:=((st.1*st.1+48271*st.1+69621*(j:Int)+k)%2147483629,st.2*998244353+(st.1*st.1+48271*st.1+69621*(j:Int)+k)%2147483629*16807%2147483587)
noncomputable def kK(k x0:Int)(t:Nat):Int×Int:=(bC t).foldl (aHP k) (x0,0)
theorem sP(k x0:Int)(t:Nat):kK k x0 (t+1)=aHP k (kK k x0 t) t:=by unfold kK;rw[aGa,oJ];rfl
theorem aEA{k x0:Int}(h:0<=x0/\x0<2^40):∀t,0<=(kK k x0 t).1/\(kK k x0 t).1<2^40
 |0=>h
 |t+1=>by rw[sP];have h0:=aK ((kK k x0 t).1*(kK k x0 t).1+48271*(kK k x0 t).1+69621*(t:Int)+k) (show(2147483629:Int)≠0 by decide);have h1:=aQ ((kK k x0 t).1*(kK k x0 t).1+48271*(kK k x0 t).1+69621*(t:Int)+k) (show(0:Int)<2147483629 by decide);refine⟨h0, ?_⟩;show _%_<_;omega
noncomputable def x0D(ns:List Int)(k:Nat):Int:=if ns.isEmpty then(k:Int)*k+7*k+11 else(k:Int)*k+7*k+11+ns.getD (k%ns.length) 0%1000003*(2*(k:Int)+1)
noncomputable def bJ(ns:List Int)(k:Nat):Int:=if k<ns.length then ns.getD k 0%most*7919^15%most else(kK k (x0D ns k) 8).2%most
def qW:List D->R->Prop:=λds r=>∃ns k,ds=[.scr ns,.int ((k:Nat):Int)]/\k<=1000/\r=.val (.int<|bJ ns k)
abbrev nl9:List Str:=["_law_script","_law_k","_law_most","_law_x","_law_found","_law_j"]
theorem aDc(F:FI K mg "_law_draw" aBN)(zlen:mg "len"=none)(zrange:mg "range"=none):aS P w K mg base "_law_draw" 1 2 qW:=by
 refine cC (N:=nl9) (ps:=["_law_script","_law_k"]) (k:=0) F λf nd cdv A outer s H E hr ds r hl c=> ?_
 obtain⟨ns,k,rfl,hk,rfl⟩:=c;have hu:=uN hr 1
 have kk:((k:Nat):Int)*k<=1000000:=by
  have:k*k<=1000*1000:=aHT hk hk;have e:((k*k:Nat):Int)=(k:Int)*k:=by push_cast;rfl
  omega
 have kk0:0<=((k:Nat):Int)*k:=aHU (by omega) (by omega);refine aD<|eW 2 nd rfl (Or.inl rfl) (aZ eO aM (aZ tT aM aM ⟨by decide,by decide,by decide⟩) (rZ (by decide)<|by decide+kernel)) ?_;refine aD<|dJ (iO pT (pdv 1) (tR rfl zlen<|pdv 0)<|eD _) (λh=> ?_) λh=>cM ?_
 ·have h':k<ns.length:=by simpa using h
  refine aP<|cV (aZ cJ (aZ eO (aZ cJ (aDY (z:=ns.getD k 0) (pdv 0) (pdv 1) (by simp[h']) λ_ _=>rfl) (pdv 2)<|by decide+kernel) (aZ tT aM aM ⟨by decide,by decide,by decide⟩) (rZ ?_<|by decide+kernel)) (pdv 2)<|by decide+kernel) trivial ?_
  ·have h1:=aK (ns.getD k 0) (show most≠0 by decide+kernel);have h2:=aQ (ns.getD k 0) (show 0<most by decide+kernel);have h3:most<2^250:=by decide+kernel
   show(ns.getD k 0%most).natAbs<_;omega
  ·show R.val (.int _)=R.val (.int<|bJ ns k);unfold bJ;rw[if_pos h'];rfl
 have h':¬ k<ns.length:=by simpa using h
 have fin:∀x:Int,x=x0D ns k->0<=x/\x<2^40->PSd (kA CX0 P w K mg base nl9 "_law_draw" (aT aBN) f cdv A outer s H E).nox [.val<|.scr ns,.val<|.int k,.val<|.int most,.val<|.int x,.un,.un] ((cQ aBN).drop 4) (rtE<|R.val (.int<|bJ ns k)):=λx hx xr=>by
  have mr:=aEA (k:=(k:Int)) xr;refine aD<|eW 4 nd rfl (Or.inl rfl) aM ?_;refine aD<|fO (ds:=dO 0 8) (λt=>[.val<|.scr ns,.val<|.int k,.val<|.int most,.val<|.int (kK k x t).1,.val<|.int (kK k x t).2,.un]) (λt=>[.val<|.scr ns,.val<|.int k,.val<|.int most,.val<|.int (kK k x t).1,.val<|.int (kK k x t).2,.val (.int<|0+(t:Int))]) (gM (n:=8) rfl zrange aM<|by decide) ⟨.inr rfl,.inr rfl,.inr rfl,.inr rfl,.inr rfl,.inr rfl,trivial⟩ (λt d hd=> ?_) (λt d hd=> ?_) ?_
  ·obtain⟨_,rfl⟩:=dG hd;exact pgN 5
  ·obtain⟨ht,rfl⟩:=dG hd;obtain⟨a0,a1⟩:=mr t;have es:=sP k x t;generalize kK k x t=st at *;obtain⟨u,v⟩:=st;simp only at a0 a1;refine aD<|dR (d:=.int<|(u*u+48271*u+69621*(0+(t:Int))+k)%2147483629) 3 (aZ cJ (cT cW (cT cW (cT cW (aZ eO (pdv 3) (pdv 3) (kI (by omega)<|by omega))<|aZ eO aM (pdv 3) (kI (by omega)<|by omega))<|aZ eO aM (pdv 5) (kI (by omega)<|by omega))<|pdv 1) aM<|by decide) ?_;refine aP<|dR (d:=.int<|v*998244353+(u*u+48271*u+69621*(0+(t:Int))+k)%2147483629*16807%2147483587) 4 (cT cW (aZ eO (pdv 4) aM (kI (by decide)<|by decide)) (aZ cJ (aZ eO (pdv 3) aM (kI (by decide)<|by decide)) aM<|by decide)) ?_;refine⟨.inr rfl,.inr rfl,.inr rfl,.inr ?_,.inr ?_,.inl rfl,trivial⟩
   ·rw[es];unfold aHP;rw[kY]
   ·rw[es];unfold aHP;rw[kY]
  ·refine aP<|cV (aZ cJ (pdv 4) (pdv 2)<|by decide+kernel) trivial ?_;show R.val (.int<|(kK k x (dO 0 8).length).2%most)=R.val (.int<|bJ ns k);unfold bJ;rw[if_neg h',dQ,hx]
 refine aD<|dR (d:=.int<|(k:Int)*k+7*k+11) 3 (cT cW (cT cW (aZ eO (pdv 1) (pdv 1) (kI (by omega)<|by omega))<|aZ eO aM (pdv 1) (kI (by omega)<|by omega)) aM) ?_;refine aD<|dJ (aCs hu (pdv 0)<|PEd.val (kC (ds:=[]) aE<|bL _)) (λh2=> ?_) λh2=>cM ?_
 ·have h2':ns.isEmpty=false:=by simpa using h2
  have h3:ns.length>0:=by cases ns with|nil=>simp at h2'|cons _ _=>simp
  have em:((k:Nat):Int)%((ns.length:Nat):Int)=((k%ns.length:Nat):Int):=by omega
  have lt:k%ns.length<ns.length:=Nat.mod_lt _ h3;have hb1:=aK (ns.getD (k%ns.length) 0) (show(1000003:Int)≠0 by decide);have hb2:=aQ (ns.getD (k%ns.length) 0) (show(0:Int)<1000003 by decide);refine aP<|dR (d:=.int<|(k:Int)*k+7*k+11+ns.getD (k%ns.length) 0%1000003*(2*(k:Int)+1)) 3 (cT cW (pdv 3)<|aZ eO (aZ cJ (aEV (z:=ns.getD (k%ns.length) 0) (pdv 0) (aZ cJ (pdv 1) (tR rfl zlen<|pdv 0)<|by omega) (by rw[em];omega) (by rw[em,cK];simp[lt]) λ_ _=>rfl) aM<|by decide) (cT cW (aZ eO aM (pdv 1) (kI (by omega)<|by omega)) aM) (kI (by omega)<|by omega)) ?_;refine fin _ (by unfold x0D;rw[h2'];rfl) ?_;generalize ns.getD (k%ns.length) 0%1000003=y at *;have m1:y*(2*(k:Int)+1)<=1000003*2001:=Int.mul_le_mul (by omega) (by omega) (by omega) (by omega);have m0:0<=y*(2*(k:Int)+1):=aHU (by omega) (by omega);omega
 ·have h2':ns.isEmpty=true:=by simpa using h2
  exact fin _ (by unfold x0D;rw[h2'];rfl)<|by omega
theorem aBy(F:FI K mg "_law_digits" aAD):aS P w K mg base "_law_digits" 1 2 mV:=by
 refine cC (N:=["_law_x","_law_sizes","_law_found","_law_size"]) (ps:=["_law_x","_law_sizes"]) (k:=0) F λf nd cdv A outer s H E hr ds r hl c=> ?_
 obtain⟨x,ns,rfl,hp,hn,rfl⟩:=c;refine aD<|kW 2 nd rfl (Or.inl rfl) (kC (ds:=[]) aE<|bL _) λl=> ?_
 refine aD (fO (ds:=ns.map D.int) (fun k=>[.val (.int (aFQ x (ns.take k))), .val (.lst (ns.map D.int)), .own l ((lI x (ns.take k)).map D.int), .un]) (fun k=>[.val (.int (aFQ x (ns.take k))), .val (.lst (ns.map D.int)), .own l ((lI x (ns.take k)).map D.int), .val (.int (ns.getD k 0))])
  (fM (pdv 1)) ⟨.inr rfl,.inr rfl,.inr rfl,.inr rfl,trivial⟩ (λk d hd=> ?_) (λk d hd=> ?_) ?_)
 ·obtain⟨hk,rfl⟩:=mL hd;exact pgN 3
 ·obtain⟨hk,rfl⟩:=mL hd;have hm:ns.getD k 0∈ns:=by simp[bQ,hk]
  obtain⟨h1,h2⟩:=hp _ hm
  have et:ns.take (k+1)=ns.take k++[ns.getD k 0]:=by rw[eM];simp[bQ,hk]
  refine aD<|gJ 2 rfl (pv 2) (aZ cJ (pdv 0) (pdv 3) h1) ?_ ?_
  ·rw[aC,mM,aV];omega
  ·refine aP<|eW 0 nd rfl (Or.inl rfl) (aZ gP (pdv 0) (pdv 3) ⟨h1,h2⟩) ?_;refine⟨.inr ?_,.inr rfl,.inr ?_,.inl rfl,trivial⟩
   ·rw[et,sQ]
   ·rw[et,sG,bD];rfl
 ·refine aP<|iQ 2 rfl (pv 2) ?_;show R.own _=R.own _;rw[aC,eI]
noncomputable def smallS:List (Int×Int):=[(1,2),(2,1),(1,3),(2,2),(1,1),(3,1),(1,4),(2,2)]
noncomputable def smE(x:Int):Int×Int:=smallS.getD (x%8).toNat (2,2)
theorem xY:∀p∈smallS,p∈cI:=by decide+kernel
theorem aEE(c:Int):smE c∈cI:=by have h0:=aK c (show(8:Int)≠0 by decide);have h1:=aQ c (show(0:Int)<8 by decide);exact xY _ (DL.getD_mem<|by show _<8;omega)
def aJo:List D->R->Prop:=λds r=>∃c,ds=[.int c]/\r=.val (bR<|smE c)
theorem aBj(F:FI K mg "_law_small" aAg)(zlen:mg "len"=none):aS P w K mg base "_law_small" 1 1 aJo:=by
 refine cC (N:=["_law_number","_law_sizes"]) (ps:=["_law_number"]) (k:=0) F λf nd cdv A outer s H E hr ds r hl c=> ?_
 obtain⟨z,rfl,rfl⟩:=c;refine aD<|nP (ds:=[bR (1,2),bR (2,1),bR (1,3),bR (2,2),bR (1,1),bR (3,1),bR (1,4),bR (2,2)]) 1 (pdL (ds:=[bR (1,2),bR (2,1),bR (1,3),bR (2,2),bR (1,1),bR (3,1),bR (1,4),bR (2,2)]) ?_) λl=> ?_
 ·repeat' (first|exact aE|refine aA (aHq rfl rfl) ?_)
 have h0:=aK z (show(8:Int)≠0 by decide);have h1:=aQ z (show(0:Int)<8 by decide);refine aP (fW<|fA (i:=z%8) (d:=bR<|smE z) (gZ 1 rfl<|pv 1) (aZ (i:=z) (j:=8) cJ (pdv 0) (PEd.cast (nD rfl zlen (gZ 1 rfl<|pv 1)) rfl)<|by decide) h0 ?_ λ_ _=>rfl);show(smallS.map bR)[(z%8).toNat]? =_;rw[bK];unfold smE
 have hlt:(z%8).toNat<smallS.length:=by show _<8;omega
 simp[bQ,hlt]
noncomputable def kOf(x:Int):Nat:=(x%10).toNat
noncomputable def iOf(p:Int×Int)(x:Int):Int:=x / 10%60%p.2
noncomputable def jOf(p:Int×Int)(x:Int):Int:=x / 10 / 60%60%p.2
noncomputable def nOf(p:Int×Int)(x:Int):Int:=x / 10 / 60 / 60%64%((2^p.1.toNat:Nat):Int)
noncomputable def qI(p:Int×Int)(x:Int):D:=fZ (kOf x) (iOf p x) (jOf p x)<|nOf p x
def aDI:List D->R->Prop:=λds r=>∃x p,p∈cI/\ds=[.int x,bR p]/\r=.val (qI p x)
abbrev aHL:List Str:=["_law_x","_law_size"]
theorem aCi(F:FI K mg "_law_step" aDX)(GG:aS P w K mg base "_law_digits" 1 2 mV):aS P w K mg base "_law_step" 2 2 aDI:=by
 refine cC (N:=["_law_x","_law_size","_law_kind","_law_i","_law_j","_law_n","_law_words"]) (ps:=aHL) (k:=1) F λf nd cdv A outer s H E hr ds r hl c=> ?_
 obtain⟨x,p,hp,rfl,rfl⟩:=c;obtain⟨h1,h2,h3,h4,h5⟩:=nH p hp;have hm0:=zD p.1.toNat;have p20:(0:Int)<p.2:=by omega
 have d0:=aK x (show(10:Int)≠0 by decide);have d1:=aQ x (show(0:Int)<10 by decide)
 refine aD (lF (d:= .lst ((lI x [10,60,60,64]).map D.int)) (PEd.val (pdc (ds:=[.int x, .lst ([10,60,60,64].map D.int)]) GG hr (aA (pdv 0) (aA (PEd.val (pdL (ds:=[.int 10, .int 60, .int 60, .int 64]) (aA aM (aA aM (aA aM (aA aM aE)))))) aE)) ⟨_,[10,60,60,64],rfl,by decide,by decide,rfl⟩))
  (tZ (js:=[2,3,4,5]) rfl (cF (pgn 2) (cF (pgn 3) (cF (pgn 4) (cF (pgn 5) gH)))) rfl rfl) ?_)
 refine aD<|nP (ds:=stepNames.map D.str) 6 (pdL (ds:=[.str "and",.str "or",.str "xor",.str "add",.str "take",.str "copy",.str "put",.str "not",.str "up",.str "down"]) ?_) λl=> ?_
 ·repeat' (first|exact aE|refine aA eL ?_)
 have wk:(stepNames.map D.str)[(x%10).toNat]? =some (.str (nm<|kOf x)):=by
  rw[bK]
  have:(x%10).toNat<stepNames.length:=by show _<10;omega
  unfold nm kOf;simp[bQ,this]
 refine aD<|dJ (iO pT (pdv 2) aM<|eD _) (λh=> ?_) λh=>cM ?_
 ·have h':x%10<6:=by simpa using h
  have es:qI p x=.tup [.str (nm<|kOf x),.int<|iOf p x,.int<|jOf p x]:=by unfold qI fZ;rw[if_pos (show kOf x<6 by unfold kOf;omega)]
  rw[es];exact aP<|fW (pdT (ds:=[.str (nm<|kOf x),.int<|iOf p x,.int<|jOf p x])<|aA (fA (i:=x%10) (gZ 6 rfl<|pv 6) (pdv 2) d0 wk λ_ _=>rfl) (aA (aZ cJ (pdv 3) (pdx (n:=1) (d:=.int p.2)<|pdv 1) p20)<|aA (aZ cJ (pdv 4) (pdx (n:=1) (d:=.int p.2)<|pdv 1) p20) aE))
 have h':¬ x%10<6:=by simpa using h
 refine aD<|dJ (iG (pdv 2) aM) (λh2=> ?_) λh2=>cM ?_
 ·have h2':x%10=6:=by simpa using h2
  have es:qI p x=.tup [.str (nm<|kOf x),.int<|iOf p x,.int<|nOf p x]:=by unfold qI fZ;rw[if_neg (show ¬ kOf x<6 by unfold kOf;omega),if_pos (show kOf x=6 by unfold kOf;omega)]
  rw[es];refine aP<|fW (pdT (ds:=[.str (nm<|kOf x),.int<|iOf p x,.int<|nOf p x])<|aA (fA (i:=x%10) (gZ 6 rfl<|pv 6) (pdv 2) d0 wk λ_ _=>rfl) (aA (aZ cJ (pdv 3) (pdx (n:=1) (d:=.int p.2)<|pdv 1) p20)<|aA (aZ cJ (pdv 5) (fA (i:=p.1) (d:=.int ((2^p.1.toNat:Nat):Int)) (PEd.bor (PEd.val<|pdL (ds:=[.int 1,.int 2,.int 4,.int 8,.int 16,.int 32,.int 64]) ?_)) (pdx (n:=0)<|pdv 1) (by omega) (uY _<|by omega) λ_ _=>rfl) hm0) aE))
  repeat' (first|exact aE|refine aA aM ?_)
 have h2':¬ x%10=6:=by simpa using h2
 have es:qI p x=.tup [.str (nm<|kOf x),.int<|iOf p x]:=by unfold qI fZ;rw[if_neg (show ¬ kOf x<6 by unfold kOf;omega),if_neg (show ¬ kOf x=6 by unfold kOf;omega)]
 rw[es];exact aP (fW<|pdT (ds:=[.str (nm<|kOf x),.int<|iOf p x]) (aA (fA (i:=x%10) (gZ 6 rfl<|pv 6) (pdv 2) d0 wk λ_ _=>rfl)<|aA (aZ cJ (pdv 3) (pdx (n:=1) (d:=.int p.2)<|pdv 1) p20) aE))
noncomputable def stE(p:Int×Int)(x:Int):SQ:=(kOf x,iOf p x,jOf p x,nOf p x)
theorem aHv{p:Int×Int}(hp:p∈cI)(x:Int):vW p (stE p x):=by
 obtain⟨h1,h2,h3,h4,h5⟩:=nH p hp;have p20:(0:Int)<p.2:=by omega
 have m0:=pw0 p.1.toNat;have d0:=aK x (show(10:Int)≠0 by decide);have d1:=aQ x (show(0:Int)<10 by decide);exact⟨hp,by show(x%10).toNat<10;omega,⟨aK _<|eG p20,aQ _ p20⟩,⟨aK _<|eG p20,aQ _ p20⟩,⟨aK _<|eG m0,aQ _ m0⟩⟩
noncomputable def fwK(i:Nat):Nat:=[5,0,1].getD i 5
noncomputable def fwB(p:Int×Int)(h:Int):Int:=h / 4%p.2
noncomputable def fw0(p:Int×Int)(h:Int):List SK:=if h%4=1 then[((fwK (h / 64%3).toNat,fwB p h,fwB p h,0),9),((7,fwB p h,fwB p h,0),1)] else[]
noncomputable def fwP(x:Int):Int:=[1,2,1,9,2,1].getD (x%6).toNat 1
noncomputable def oN:D->D
 |.tup (x::_)=>x
 |_=>.non
noncomputable def fwN(p:Int×Int)(ns:List Int):Nat->List SK
 |0=>fw0 p<|bJ ns 1 / 3
 |t+1=>if((fwN p ns t).map skD |>.map oN).any (λz=>deq z<|sqD (stE p<|bJ ns (2+t) / 24)) then fwN p ns t else fwN p ns t++[(stE p<|bJ ns (2+t) / 24,fwP (bJ ns<|2+t))]
noncomputable def fwT(ns:List Int):Nat:=1+(bJ ns 1%3).toNat
theorem aHz(x:Int):1<=fwP x/\fwP x<=9:=by
 have h0:=aK x (show(6:Int)≠0 by decide);have h1:=aQ x (show(0:Int)<6 by decide);unfold fwP;have:(x%6).toNat<6:=by omega
 generalize (x%6).toNat=i at this
 match i,this with
 |0,_=>decide
 |1,_=>decide
 |2,_=>decide
 |3,_=>decide
 |4,_=>decide
 |5,_=>decide
theorem aDH(i:Nat)(h:i<3):fwK i<6:=by
 match i,h with
 |0,_=>decide
 |1,_=>decide
 |2,_=>decide
theorem aDR{p:Int×Int}(hp:p∈cI)(h:Int):(fw0 p h).length<=2/\∀s∈fw0 p h,vW p s.1/\1<=s.2/\s.2<=9:=by
 obtain⟨h1,h2,h3,h4,h5⟩:=nH p hp;have p20:(0:Int)<p.2:=by omega
 have m0:=pw0 p.1.toNat;have b0:0<=fwB p h/\fwB p h<p.2:=⟨aK _<|eG p20,aQ _ p20⟩;have r0:=aK (h / 64) (show(3:Int)≠0 by decide);have r1:=aQ (h / 64) (show(0:Int)<3 by decide);have kl:=aDH (h / 64%3).toNat (by omega);unfold fw0
 split
 ·refine⟨by simp,λs hs=> ?_⟩;simp only[cD,pI,or_false] at hs
  rcases hs with rfl|rfl
  ·exact⟨⟨hp,by show fwK _<10;omega,b0,b0,⟨Int.le_refl _,m0⟩⟩,by simp,by simp⟩
  ·exact⟨⟨hp,by show 7<10;decide,b0,b0,⟨Int.le_refl _,m0⟩⟩,by simp,by simp⟩
 ·exact⟨by simp,λs hs=>by cases hs⟩
theorem zF{p:Int×Int}(hp:p∈cI)(ns:List Int):∀t,(fwN p ns t).length<=2+t/\(0<t->0<(fwN p ns t).length)/\∀s∈fwN p ns t,vW p s.1/\1<=s.2/\s.2<=9
 |0=>⟨(aDR hp _).1,λh=>by omega,(aDR hp _).2⟩
 |t+1=>by
  obtain⟨a,b,c⟩:=zF hp ns t;unfold fwN
  split
  ·rename_i h;refine⟨by omega,λ_=> ?_,c⟩;cases e:fwN p ns t with
   |nil=>rw[e] at h;simp at h
   |cons _ _=>simp
  ·refine⟨by rw[aJ];simp;omega,λ_=>by rw[aJ];simp,λs hs=> ?_⟩
   rcases bF.mp hs with hs|hs
   ·exact c s hs
   ·rw[bP.mp hs];exact⟨aHv hp _,aHz _⟩
theorem aDB(ns:List Int):1<=fwT ns/\fwT ns<=3:=by have r0:=aK (bJ ns 1) (show(3:Int)≠0 by decide);have r1:=aQ (bJ ns 1) (show(0:Int)<3 by decide);unfold fwT;omega
theorem aIQ{p:Int×Int}(hp:p∈cI)(ns:List Int):hX p (fwN p ns<|fwT ns):=by obtain⟨a,b,c⟩:=zF hp ns<|fwT ns;have t:=aDB ns;exact⟨b<|by omega,by omega,c⟩
def aGp:List D->R->Prop:=λds r=>∃ns p,p∈cI/\ds=[.scr ns,.int 1,bR p,.int 3]/\r=.own ((fwN p ns<|fwT ns).map skD)
abbrev aIg:List Str:=["_law_script","_law_start","_law_size","_law_most","_law_stock","_law_head","_law_box","_law_k","_law_x","_law_step_here"]
theorem aET(F:FI K mg "_law_few" sO)(zrange:mg "range"=none)(GD:aS P w K mg base "_law_draw" 1 2 qW)(GT:aS P w K mg base "_law_step" 2 2 aDI):aS P w K mg base "_law_few" 3 4 aGp:=by
 refine cC (N:=aIg) (ps:=["_law_script","_law_start","_law_size","_law_most"]) (k:=2) F λf nd cdv A outer s H E hr ds r hl c=> ?_
 obtain⟨ns,p,hp,rfl,rfl⟩:=c;obtain⟨h1,h2,h3,h4,h5⟩:=nH p hp;have p20:(0:Int)<p.2:=by omega
 have hu:=uN hr 4;have hT:=aDB ns
 have fin:∀l4:BC,PSd (kA CX0 P w K mg base aIg "_law_few" (aT sO) f cdv A outer s H E).nox [.val<|.scr ns,.val<|.int 1,.val<|bR p,.val<|.int 3,.own l4<|(fwN p ns 0).map skD,.val (.int<|bJ ns 1 / 3),.un,.un,.un,.un] ((cQ sO).drop 3) {nx:=λ_=>R.own ((fwN p ns<|fwT ns).map skD)=.val .non,rt:=λr'=>r'=R.own ((fwN p ns<|fwT ns).map skD)}:=λl4=>by
  have eT:1+bJ ns 1%3=((fwT ns:Nat):Int):=by have r0:=aK (bJ ns 1) (show(3:Int)≠0 by decide);unfold fwT;omega
  refine aD<|fO (ds:=dO 0<|fwT ns) (λt=>[.val<|.scr ns,.val<|.int 1,.val<|bR p,.val<|.int 3,.own l4<|(fwN p ns t).map skD,.val (.int<|bJ ns 1 / 3),.un,.un,.un,.un]) (λt=>[.val<|.scr ns,.val<|.int 1,.val<|bR p,.val<|.int 3,.own l4<|(fwN p ns t).map skD,.val (.int<|bJ ns 1 / 3),.un,.val (.int<|0+(t:Int)),.un,.un]) (gM (n:=fwT ns) rfl zrange (PEd.ic (cT cW aM (aZ cJ (pdc (ds:=[.scr ns,.int ((1:Nat):Int)]) GD hr (aA (pdv 0)<|aA (pdv 1) aE) ⟨ns,1,rfl,by decide,rfl⟩) (pdv 3)<|by decide)) eT)<|by omega) (Le.refl _) (λt d hd=> ?_) (λt d hd=> ?_) ?_
  ·obtain⟨_,rfl⟩:=dG hd;exact pgN 7
  ·obtain⟨ht,rfl⟩:=dG hd;rw[kY];have ll:(fwN p ns t).length<=8:=bM (zF hp ns t).1 (by omega);refine aD<|dR (d:=.int (bJ ns<|2+t)) 8 (pdc (ds:=[.scr ns,.int ((2+t:Nat):Int)]) GD hr (aA (pdv 0)<|aA (PEd.ic (cT cW (cT cW (pdv 1) aM)<|pdv 7)<|by omega) aE) ⟨ns,2+t,rfl,by omega,rfl⟩) ?_;refine aD<|dR (d:=sqD (stE p<|bJ ns (2+t) / 24)) 9 (pdc (ds:=[.int<|bJ ns (2+t) / 24,bR p]) GT hr (aA (aZ gP (pdv 8) aM ⟨by decide,by decide⟩)<|aA (pdv 2) aE) ⟨_,p,hp,rfl,rfl⟩) ?_;have eN:fwN p ns (t+1)=if((fwN p ns t).map skD |>.map oN).any (λz=>deq z<|sqD (stE p<|bJ ns (2+t) / 24)) then fwN p ns t else fwN p ns t++[(stE p<|bJ ns (2+t) / 24,fwP (bJ ns<|2+t))]:=rfl
   rw[eN];generalize fwN p ns t=L at *;generalize bJ ns (2+t)=x;generalize stE p (x / 24)=q;have nd2:(["_law_one","_law_price_here"]:List Str).Nodup:=by decide+kernel
   have plc:plL ((L.map skD).map oN)=true/\jS ((L.map skD).map oN)<=1:=by rw[bU];exact⟨uH (λs:SK=>oN<|skD s) (λs=>aGo s.1) _,rD (λs:SK=>oN<|skD s) 1 (λs=>zY<|aHi s.1) _⟩
   have ef:((L.map skD).filter λ_=>true).map oN=(L.map skD).map oN:=by rw[cU.mpr λ_ _=>rfl]
   have x0:=aK x (show(6:Int)≠0 by decide);have x1:=aQ x (show(0:Int)<6 by decide)
   have px:([.int 1,.int 2,.int 1,.int 9,.int 2,.int 1]:List D)[(x%6).toNat]? =some (.int<|fwP x):=by
    unfold fwP;have:(x%6).toNat<6:=by omega
    generalize (x%6).toNat=i at this
    match i,this with
    |0,_=>rfl
    |1,_=>rfl
    |2,_=>rfl
    |3,_=>rfl
    |4,_=>rfl
    |5,_=>rfl
   refine aP<|dJ (k:= !((L.map skD).map oN).any λz=>deq z<|sqD q) (PTd.lend 4 rfl (aGl rfl) (aCQ (pdv 9) (PEd.val (PEd.cast (aAm (ds:=L.map skD) (N:=["_law_one","_law_price_here"]) (M:=aIg) (cap:=[none,none]) (sc:=aT sO) (Tb:=λd=>twoT d []) (λ_=>true) oN (fM<|pdv 4) (by rw[aC];omega) rfl (by decide+kernel) rfl (by decide+kernel) rfl (λcl C fp s H d hd=> ?_) (λd hd=> ?_) (λcl C fp s H d hd=>.inl ⟨rfl,rfl⟩) λcl C fp s H d hd _=> ?_)<|by rw[ef])) (aGo q) plc.1<|by have:=plc.2;show(A.deeper<|envOfC "_law_few" (aT sO) s.heap.objs.size f cdv).units+1+_<AX;omega)) (λh=> ?_) λh=> ?_
   ·obtain⟨s,_,rfl⟩:=cH.mp hd;exact iH (js:=[0,1]) rfl (cF (pgn 0)<|cF (pgn 1) gH) rfl rfl
   ·obtain⟨s,_,rfl⟩:=cH.mp hd;exact⟨.inl rfl,.inl rfl,trivial⟩
   ·obtain⟨s,_,rfl⟩:=cH.mp hd;exact(pdv 0)
   ·have h':((L.map skD).map oN).any (λz=>deq z<|sqD q)=false:=by simpa using h
    rw[h'];refine aP<|gJ (d:=skD (q,fwP x)) 4 rfl (pv 4) (pdT (ds:=[sqD q,.int<|fwP x]) (aA (pdv 9)<|aA (fA (i:=x%6) (PEd.bor (PEd.val<|pdL (ds:=[.int 1,.int 2,.int 1,.int 9,.int 2,.int 1]) ?_)) (aZ cJ (pdv 8) aM<|by decide) x0 px λ_ _=>rfl) aE)) (by rw[aC];omega) ?_
    ·repeat' (first|exact aE|refine aA aM ?_)
    refine⟨.inr rfl,.inr rfl,.inr rfl,.inr rfl,.inr ?_,.inr rfl,.inr rfl,.inl rfl,.inl rfl,.inl rfl,trivial⟩;simp only[eZ,if_false,bD];rfl
   ·have h':((L.map skD).map oN).any (λz=>deq z<|sqD q)=true:=by simpa using h
    rw[h'];exact cM ⟨.inr rfl,.inr rfl,.inr rfl,.inr rfl,.inr rfl,.inr rfl,.inr rfl,.inl rfl,.inl rfl,.inl rfl,trivial⟩
  ·rw[dQ];exact aP<|iQ 4 rfl (pv 4) rfl
 refine aD<|nP (ds:=[]) 4 (kC (ds:=[]) aE<|bL _) λl4=> ?_;refine aD<|dR (d:=.int<|bJ ns 1 / 3) 5 (aZ gP (pdc (ds:=[.scr ns,.int ((1:Nat):Int)]) GD hr (aA (pdv 0)<|aA (pdv 1) aE) ⟨ns,1,rfl,by decide,rfl⟩) (pdv 3) ⟨by decide,by decide⟩) ?_;have e0:fwN p ns 0=fw0 p (bJ ns 1 / 3):=rfl;rw[e0] at fin;generalize bJ ns 1 / 3=h at fin;refine aD<|dJ (iG (aZ cJ (pdv 5) aM<|by decide) aM) (λhh=> ?_) λhh=>cM ?_
 ·have h':h%4=1:=by simpa using hh
  have ef:(fw0 p h).map skD=[.tup [.tup [.str (nm<|fwK (h / 64%3).toNat),.int<|fwB p h,.int<|fwB p h],.int 9],.tup [.tup [.str "not",.int<|fwB p h],.int 1]]:=by
   have r0:=aK (h / 64) (show(3:Int)≠0 by decide);have r1:=aQ (h / 64) (show(0:Int)<3 by decide);have kl:=aDH (h / 64%3).toNat (by omega);unfold fw0;rw[if_pos h'];show[D.tup [fZ _ _ _ _,_],D.tup [fZ 7 _ _ _,_]]=_;have:fZ (fwK (h / 64%3).toNat) (fwB p h) (fwB p h) 0=.tup [.str (nm<|fwK (h / 64%3).toNat),.int<|fwB p h,.int<|fwB p h]:=by unfold fZ;rw[if_pos kl]
   rw[this];rfl
  rw[ef] at fin;refine aD<|dR (d:=.int<|fwB p h) 6 (aZ cJ (aZ gP (pdv 5) aM ⟨by decide,by decide⟩) (pdx (n:=1) (d:=.int p.2)<|pdv 2) p20) ?_;generalize fwB p h=b at *;have r0:=aK (h / 64) (show(3:Int)≠0 by decide);have r1:=aQ (h / 64) (show(0:Int)<3 by decide)
  have three:([.tup [.str "copy",.int b,.int b],.tup [.str "and",.int b,.int b],.tup [.str "or",.int b,.int b]]:List D)[(h / 64%3).toNat]? =some (.tup [.str (nm<|fwK (h / 64%3).toNat),.int b,.int b]):=by
   have:(h / 64%3).toNat<3:=by omega
   generalize (h / 64%3).toNat=i at this
   match i,this with
   |0,_=>rfl
   |1,_=>rfl
   |2,_=>rfl
  refine aP<|nP (ds:=[.tup [.tup [.str (nm<|fwK (h / 64%3).toNat),.int b,.int b],.int 9],.tup [.tup [.str "not",.int b],.int 1]]) 4 (pdL (ds:=[.tup [.tup [.str (nm<|fwK (h / 64%3).toNat),.int b,.int b],.int 9],.tup [.tup [.str "not",.int b],.int 1]]) (aA (pdT (ds:=[.tup [.str (nm<|fwK (h / 64%3).toNat),.int b,.int b],.int 9]) (aA (fA (i:=h / 64%3) (PEd.bor<|PEd.val (pdL (ds:=[.tup [.str "copy",.int b,.int b],.tup [.str "and",.int b,.int b],.tup [.str "or",.int b,.int b]])<|aA (pdT (ds:=[.str "copy",.int b,.int b])<|aA eL (aA (pdv 6)<|aA (pdv 6) aE)) (aA (pdT (ds:=[.str "and",.int b,.int b])<|aA eL (aA (pdv 6)<|aA (pdv 6) aE))<|aA (pdT (ds:=[.str "or",.int b,.int b])<|aA eL (aA (pdv 6)<|aA (pdv 6) aE)) aE))) (aZ cJ (aZ gP (pdv 5) aM ⟨by decide,by decide⟩) aM<|by decide) r0 three λ_ _=>rfl)<|aA aM aE))<|aA (pdT (ds:=[.tup [.str "not",.int b],.int 1]) (aA (pdT (ds:=[.str "not",.int b]) (aA eL<|aA (pdv 6) aE))<|aA aM aE)) aE)) λl4'=> ?_;exact kQ (sd':=[.val<|.scr ns,.val<|.int 1,.val<|bR p,.val<|.int 3,.own l4' [.tup [.tup [.str (nm<|fwK (h / 64%3).toNat),.int b,.int b],.int 9],.tup [.tup [.str "not",.int b],.int 1]],.val<|.int h,.un,.un,.un,.un]) ⟨.inr rfl,.inr rfl,.inr rfl,.inr rfl,.inr rfl,.inr rfl,.inl rfl,.inr rfl,.inr rfl,.inr rfl,trivial⟩<|fin l4'
 ·have h':¬ h%4=1:=by simpa using hh
  have ef:(fw0 p h).map skD=[]:=by unfold fw0;rw[if_neg h'];rfl
  rw[ef] at fin;exact fin l4
def aDM:List D->R->Prop:=λds r=>∃p k i j n ws,aFP p k i j n ws/\ds=[fZ k i j n,bR p,bH ws]/\r=.val (.int<|qV p k i j n ws)
theorem aFh{b k:Nat}{m a c:Int}(hb:b<7)(hk:k<3)(ha:0<=a/\a<((2^b:Nat):Int))(hc:0<=c/\c<((2^b:Nat):Int)):sJ k (pows.take b) a c=oM k m a c:=by
 have ea:a=((a.toNat:Nat):Int):=by omega
 have ec:c=((c.toNat:Nat):Int):=by omega
 have la:a.toNat<2^b:=by have:=ha.2;generalize 2^b=q at *;omega
 have lc:c.toNat<2^b:=by have:=hc.2;generalize 2^b=q at *;omega
 rw[aGu hk,ea,ec];exact(aCK b hb _ la _ lc k hk).symm
theorem aEI:∀k,k<3->∀h t:Int,lN (gU [] [((.inr "and":Key),V.int<|h*t),(.inr "or",.int (if t>h then t else h)),(.inr "xor",.int<|(h+t)%2)]) (.inr<|nm k)=some (.int<|bop k h t):=by
 intro k hk h t;obtain⟨v1,v2,v3⟩:=aIh (k1:="and") (k2:="or") (k3:="xor") (by decide+kernel) (by decide+kernel) (by decide+kernel) (V.int<|h*t) (V.int (if t>h then t else h)) (V.int<|(h+t)%2)
 match k,hk with
 |0,_=>exact v1
 |1,_=>exact v2
 |2,_=>exact v3
abbrev aJi:List Str:=["_law_step_here","_law_size","_law_filling"]
theorem aCb(F:FI K mg "_law_word" aEa)(zlen:mg "len"=none)(zmax:mg "max"=none):aS P w K mg base "_law_word" 1 3 aDM:=by
 refine cC (N:=["_law_step_here","_law_size","_law_filling","_law_powers","_law_most","_law_one","_law_other","_law_made","_law_power","_law_here","_law_there"]) (ps:=aJi) (k:=0) F λf nd cdv A outer s H E hr ds r hl c=> ?_
 obtain⟨p,k,i,j,n,ws,O,rfl,rfl⟩:=c;obtain⟨h1,h2,h3,h4,h5⟩:=nH p O.sz;have hm0:=zD p.1.toNat;have hu:=uN hr 1;have e2:p.2=((p.2.toNat:Nat):Int):=by omega
 have ai:(ws.map D.int)[i.toNat]? =some (.int<|ws.getD i.toNat 0):=uV O.len (by have:=O.i0.2;omega) O.i0.1;have aj:(ws.map D.int)[j.toNat]? =some (.int<|ws.getD j.toNat 0):=uV O.len (by have:=O.j0.2;omega) O.j0.1;have wi:=O.wd (ws.getD i.toNat 0) (DL.getD_mem<|by have:=O.i0;rw[O.len];omega);have wj:=O.wd (ws.getD j.toNat 0) (DL.getD_mem<|by have:=O.j0;rw[O.len];omega);refine aD<|nP (ds:=pows.map D.int) 3 (pdL (ds:=[.int 1,.int 2,.int 4,.int 8,.int 16,.int 32,.int 64]) ?_) λl=>kB 3 rfl ?_
 ·repeat' (first|exact aE|refine aA aM ?_)
 refine aD<|dR (d:=.int ((2^p.1.toNat:Nat):Int)) 4 (fA (i:=p.1) (PEd.bor<|pdv 3) (pdx (n:=0)<|pdv 1) (by omega) (uY _<|by omega) λ_ _=>rfl) ?_;obtain⟨es0,es1⟩:=uP k i j n;refine aD<|dR (d:=.int<|ws.getD i.toNat 0) 5 (mU (i:=i) (pdv 2) (pdx (n:=1) (ds:=.str (nm k)::.int i::es0) (PEd.cast (pdv 0)<|by rw[es1])) O.i0.1 ai λ_ _=>rfl) ?_;clear es1 es0
 by_cases k7:7<=k
 ·have es:fZ k i j n=.tup [.str<|nm k,.int i]:=by unfold fZ;rw[if_neg<|by omega,if_neg<|by omega]
  rw[es];refine aD<|iJ (iG (jF rfl zlen<|pdv 0) aM) rfl ?_;refine aP (fW<|qO (vx:=qV p k i j n ws) rfl (cT iT (cT iT (pdv 4) aM)<|pdv 5) (aZ cJ (aZ eO aM (pdv 5) (aDy (by decide)<|by decide)) (pdv 4) hm0) (aZ pD (pdv 5) aM ⟨by decide,by decide⟩) (pdx (n:=0)<|pdv 0) ?_ hu λ_ _=>rfl);obtain⟨v1,v2,v3⟩:=aIh (k1:="not") (k2:="up") (k3:="down") (by decide+kernel) (by decide+kernel) (by decide+kernel) (V.int<|((2^p.1.toNat:Nat):Int)-1-ws.getD i.toNat 0) (V.int<|2*ws.getD i.toNat 0%((2^p.1.toNat:Nat):Int)) (V.int<|ws.getD i.toNat 0 / 2);have k10:=O.k10
  rcases(by omega:k=7\/k=8\/k=9) with rfl|rfl|rfl
  ·exact v1
  ·refine Eq.trans v2 ?_;show some (V.int<|2*ws.getD i.toNat 0%_)=some (V.int<|ws.getD i.toNat 0*2%_);rw[Int.mul_comm]
  ·exact v3
 ·by_cases k6:k=6
  ·subst k6;have es:fZ 6 i j n=.tup [.str<|nm 6,.int i,.int n]:=rfl;rw[es];refine aD (iE (iG (jF rfl zlen<|pdv 0) aM) rfl<|cM ?_);refine aD<|iJ (fQ (pdx (n:=0)<|pdv 0) eL rfl rfl rfl<|qJ 6 O.k10) rfl ?_;exact aP<|fW (pdx (n:=2)<|pdv 0)
  ·have k6':k<6:=by omega
   have es:fZ k i j n=.tup [.str<|nm k,.int i,.int j]:=by unfold fZ;rw[if_pos k6']
   rw[es]
   have nwe:qV p k i j n ws=oM k ((2^p.1.toNat:Nat):Int) (ws.getD i.toNat 0) (ws.getD j.toNat 0):=by unfold qV yB;rw[if_neg k6,if_neg k7]
   rw[nwe];generalize ws.getD i.toNat 0=va at *;generalize ws.getD j.toNat 0=vc at *;refine aD (iE (iG (jF rfl zlen<|pdv 0) aM) rfl<|cM ?_);refine aD (iE (fQ (pdx (n:=0)<|pdv 0) eL rfl rfl rfl<|qJ k O.k10) (by simp;omega)<|cM ?_);refine aD<|dR (d:=.int vc) 6 (mU (i:=j) (pdv 2) (pdx (n:=2)<|pdv 0) O.j0.1 aj λ_ _=>rfl) ?_;refine aD<|dJ (k:=inV (V.str<|nm k) [V.str "copy",V.str "add",V.str "take"]) (aEv (ss:=["copy","add","take"]) (pdx (n:=0)<|pdv 0) (pdT (ds:=[.str "copy",.str "add",.str "take"])<|aA eL (aA eL<|aA eL aE)) rfl rfl) (λh=> ?_) λh=>cM ?_
   ·rw[aDW k O.k10] at h;have h':3<=k/\k<=5:=by simpa using h
    refine aP (fW<|qO (vx:=oM k ((2^p.1.toNat:Nat):Int) va vc) rfl (pdv 6) (aZ cJ (cT cW (pdv 5)<|pdv 6) (pdv 4) hm0) (aZ cJ (cT iT (pdv 5)<|pdv 6) (pdv 4) hm0) (pdx (n:=0)<|pdv 0) ?_ hu λ_ _=>rfl);obtain⟨v1,v2,v3⟩:=aIh (k1:="copy") (k2:="add") (k3:="take") (by decide+kernel) (by decide+kernel) (by decide+kernel) (V.int vc) (V.int<|(va+vc)%((2^p.1.toNat:Nat):Int)) (V.int<|(va-vc)%((2^p.1.toNat:Nat):Int))
    rcases(by omega:k=3\/k=4\/k=5) with rfl|rfl|rfl
    ·exact v2
    ·exact v3
    ·exact v1
   ·rw[aDW k O.k10] at h;have h':¬ (3<=k/\k<=5):=by simpa using h
    have k3:k<3:=by omega
    have bl:p.1.toNat<pows.length:=by show _<7;omega
    have e1:p.1=((p.1.toNat:Nat):Int):=by omega
    have cp:DL.cutD (pows.map D.int) none (some p.1)=(pows.take p.1.toNat).map D.int:=by rw[e1];exact uW pows bl
    refine aD<|eW 7 nd rfl (Or.inl rfl) aM ?_
    have it:∀ {X:Cx}{sd:List Slot}{tg a b:Expr}{q1 q2:Pos},PEd X sd a (.val (.lst<|pows.map D.int))->PEd X sd b (.val<|.int p.1)->PId X sd PT0 tg (.Subscript a (.Slice none (some b) none q1) q2) ((pows.take p.1.toNat).map D.int):=λha hb=>by rw[<-cp];exact fM (PEd.val<|uE (ol:=none) (oh:=some p.1) (PEd.bor ha) trivial hb)
    refine aD<|fO (ds:=(pows.take p.1.toNat).map D.int) (λt=>[.val<|.tup [.str<|nm k,.int i,.int j],.val<|bR p,.val<|bH ws,.val (.lst<|pows.map D.int),.val<|.int ((2^p.1.toNat:Nat):Int),.val<|.int va,.val<|.int vc,.val (.int<|sJ k ((pows.take p.1.toNat).take t) va vc),.un,.un,.un]) (λt=>[.val<|.tup [.str<|nm k,.int i,.int j],.val<|bR p,.val<|bH ws,.val (.lst<|pows.map D.int),.val<|.int ((2^p.1.toNat:Nat):Int),.val<|.int va,.val<|.int vc,.val (.int<|sJ k ((pows.take p.1.toNat).take t) va vc),.val (.int<|(pows.take p.1.toNat).getD t 0),.un,.un]) (it (pdv 3) (pdx (n:=0)<|pdv 1)) ⟨.inr rfl,.inr rfl,.inr rfl,.inr rfl,.inr rfl,.inr rfl,.inr rfl,.inr rfl,.inr rfl,.inr rfl,.inr rfl,trivial⟩ (λt d hd=> ?_) (λt d hd=> ?_) ?_
    ·obtain⟨_,rfl⟩:=mL hd;exact pgN 8
    ·obtain⟨ht,rfl⟩:=mL hd
     have et:(pows.take p.1.toNat).take (t+1)=(pows.take p.1.toNat).take t++[(pows.take p.1.toNat).getD t 0]:=by generalize pows.take p.1.toNat=Z at ht ⊢;rw[eM,List.getD_eq_getElem?_getD,vI ht];rfl
     have pm:(pows.take p.1.toNat).getD t 0∈pows:=pJ _ _<|DL.getD_mem ht;obtain⟨pp0,pp1⟩:=aFg _ pm;generalize (pows.take p.1.toNat).getD t 0=pw at *;have t0:=aK (vc / pw) (show(2:Int)≠0 by decide);have t1:=aQ (vc / pw) (show(0:Int)<2 by decide);refine aD<|dR (d:=.int<|va / pw%2) 9 (aZ cJ (aZ pD (pdv 5) (pdv 8) ⟨pp0,pp1⟩) aM<|by decide) ?_;refine aD<|dR (d:=.int<|vc / pw%2) 10 (aZ cJ (aZ pD (pdv 6) (pdv 8) ⟨pp0,pp1⟩) aM<|by decide) ?_;refine aP<|eW 7 nd rfl (Or.inl rfl) (cT cW (pdv 7)<|aZ eO (pdv 8) (qO (vx:=bop k (va / pw%2)<|vc / pw%2) rfl (aZ eO (pdv 9) (pdv 10) (kI (by omega)<|by omega)) (pH rfl zmax (pdv 9)<|pdv 10) (aZ cJ (cT cW (pdv 9)<|pdv 10) aM<|by decide) (pdx (n:=0)<|pdv 0) (aEI k k3 _ _) hu λ_ _=>rfl) (aDy (by omega)<|by omega)) ?_;refine⟨.inr rfl,.inr rfl,.inr rfl,.inr rfl,.inr rfl,.inr rfl,.inr rfl,.inr ?_,.inl rfl,.inl rfl,.inl rfl,trivial⟩;rw[et];unfold sJ;rw[oJ];rfl
    ·refine aP<|cV (pdv 7) trivial ?_;show R.val (.int<|sJ k ((pows.take p.1.toNat).take ((pows.take p.1.toNat).map D.int).length) va vc)=R.val (.int _);rw[aC,eI,aFh (by omega) k3 wi wj]
def aJp:List D->R->Prop:=λds r=>∃p k i j n ws,aFP p k i j n ws/\ds=[fZ k i j n,bR p,bH ws]/\r=.val (bH<|aGg p k i j n ws)
theorem aHb(F:FI K mg "_law_on" aJg)(zlist:mg "list"=none)(ztuple:mg "tuple"=none)(GW:aS P w K mg base "_law_word" 1 3 aDM):aS P w K mg base "_law_on" 2 3 aJp:=by
 refine cC (N:=["_law_step_here","_law_size","_law_filling","_law_found"]) (ps:=aJi) (k:=1) F λf nd cdv A outer s H E hr ds r hl c=> ?_
 obtain⟨p,k,i,j,n,ws,O,rfl,rfl⟩:=c;have ei:i=((i.toNat:Nat):Int):=by have:=O.i0;omega
 have li:i.toNat<ws.length:=by have:=O.i0;rw[O.len];omega
 obtain⟨es0,es1⟩:=uP k i j n;refine aD<|nP (ds:=ws.map D.int) 3 (aCX rfl zlist<|pdv 2) λl=> ?_;refine aD<|aBs 3 (n:=i.toNat) (d:=.int<|qV p k i j n ws) rfl (pv 3) (pdc (ds:=[fZ k i j n,bR p,bH ws]) GW hr (aA (pdv 0) (aA (pdv 1)<|aA (pdv 2) aE)) ⟨p,k,i,j,n,ws,O,rfl,rfl⟩) (lY (n:=1) (ds:=.str (nm k)::.int i::es0) (PEd.cast (pdv 0)<|by rw[es1]) aM (by rw[<-ei];rfl) λ_ _=>rfl) (by rw[aC];exact li) ?_;refine aP<|cV (lG rfl ztuple (gZ 3 rfl<|pv 3)) trivial ?_;show R.val (.tup<|(ws.map D.int).set i.toNat (.int<|qV p k i j n ws))=R.val (bH<|aGg p k i j n ws);unfold bH aGg;rw[List.map_set]
noncomputable def prs(L:List (List Int))(m:Nat):List D:=L.flatMap λs=>(bC m).map λ(w:Nat)=>D.tup [bH s,.int (w:Int)]
theorem aAN(L:List (List Int))(m:Nat):(prs L m).length=L.length*m:=by
 unfold prs
 induction L with
 |nil=>simp
 |cons s L ih=>rw[gT,aJ,ih,aC,dU,bX,jD,oR]
def aDU:List D->R->Prop:=λds r=>∃ (L:List (List Int)) (m:Nat),ds=[.lst<|L.map bH,.int (m:Int)]/\L.length*m<=900/\m<=64/\r=.own (prs L m)
theorem aDe(F:FI K mg "_law_pairs" aEg)(zrange:mg "range"=none):aS P w K mg base "_law_pairs" 1 2 aDU:=by
 refine cC (N:=["_law_found","_law_most","_law_pairs_here","_law_filling","_law_word_here"]) (ps:=["_law_found","_law_most"]) (k:=0) F λf nd cdv A outer s H E hr ds r hl c=> ?_
 obtain⟨L,m,rfl,hL,h64,rfl⟩:=c;refine aD<|kW 2 nd rfl (Or.inl rfl) (kC (ds:=[]) aE<|bL _) λl=> ?_;refine aD<|fO (ds:=L.map bH) (λk=>[.val<|tL L,.val<|.int (m:Int),.own l<|prs (L.take k) m,.un,.un]) (λk=>[.val<|tL L,.val<|.int (m:Int),.own l<|prs (L.take k) m,.val (bH<|L.getD k []),.un]) (fM<|pdv 0) ⟨.inr rfl,.inr rfl,.inr rfl,.inr rfl,.inr rfl,trivial⟩ (λk d hd=> ?_) (λk d hd=> ?_) ?_
 ·obtain⟨_,rfl⟩:=iV hd;exact pgN 3
 ·obtain⟨hk,rfl⟩:=iV hd
  have et:L.take (k+1)=L.take k++[L.getD k []]:=by rw[eM];simp[bQ,hk]
  have lk:(L.take k).length*m+m<=900:=by
   have h1:(L.take k).length+1<=L.length:=by rw[aV];omega
   have h2:=aBJ m h1;rw[jD] at h2;omega
  refine aP<|fO (ds:=dO 0 m) (λt=>[.val<|tL L,.val<|.int (m:Int),.own l (prs (L.take k) m++(bC t).map λ(w:Nat)=>D.tup [bH<|L.getD k [],.int (w:Int)]),.val (bH<|L.getD k []),.un]) (λt=>[.val<|tL L,.val<|.int (m:Int),.own l (prs (L.take k) m++(bC t).map λ(w:Nat)=>D.tup [bH<|L.getD k [],.int (w:Int)]),.val (bH<|L.getD k []),.val (.int<|0+(t:Int))]) (gM (n:=m) rfl zrange (pdv 1)<|by omega) ⟨.inr rfl,.inr rfl,.inr<|by simp,.inr rfl,.inr rfl,trivial⟩ (λt d hd=> ?_) (λt d hd=> ?_) ?_
  ·obtain⟨_,rfl⟩:=dG hd;exact pgN 4
  ·obtain⟨ht,rfl⟩:=dG hd;refine aP (gJ 2 (d:=.tup [bH<|L.getD k [],.int<|0+(t:Int)]) rfl (pv 2) (pdT (ds:=[bH<|L.getD k [],.int<|0+(t:Int)]) (aA (pdv 3)<|aA (pdv 4) aE)) ?_ ?_)
   ·rw[aJ,aAN,aC,dU];omega
   ·refine⟨.inr rfl,.inr rfl,.inr ?_,.inr rfl,.inl rfl,trivial⟩;rw[aGa,bD,fN];simp
  ·rw[dQ];refine⟨.inr rfl,.inr rfl,.inr ?_,.inl rfl,.inr rfl,trivial⟩;rw[et];unfold prs;rw[aBI];simp
 ·refine aP<|iQ 2 rfl (pv 2) ?_;show R.own _=R.own _;rw[aC,eI]
def aDT:List D->R->Prop:=λds r=>∃p,p∈cI/\ds=[bR p]/\r=.own ((fX (2^p.1.toNat) p.2.toNat).map bH)
theorem jG(L:List (List Int))(m:Nat):(L.flatMap λs=>(bC m).map λ(w:Nat)=>s++[(w:Int)]).length=L.length*m:=by
 induction L with
 |nil=>simp
 |cons s L ih=>rw[gT,aJ,ih,aC,dU,bX,jD,oR]
theorem lE:∀ (m k:Nat),(fX m k).length=m^k
 |_,0=>rfl
 |m,k+1=>by show((fX m k).flatMap _).length=_;rw[jG,lE m k,aJG]
theorem kS:∀ (m k:Nat),∀s∈fX m k,s.length=k
 |_,0,s,h=>by
  have:s=[]:=by simpa[fX] using h
  subst this;rfl
 |m,k+1,s,h=>by obtain⟨t,ht,hs⟩:=eV.mp h;obtain⟨w,_,rfl⟩:=cH.mp hs;rw[aJ,kS m k t ht];rfl
theorem oA:∀p∈cI,∀k,k<p.2.toNat->((2^p.1.toNat)^k)*2^p.1.toNat<=900:=by decide+kernel
noncomputable def prT(d:D):List Slot:=match d with
 |.tup [x,y]=>[.val x,.val y]
 |_=>[.un,.un]
noncomputable def prF(d:D):D:=match d with
 |.tup [.tup xs,y]=>.tup<|xs++[y]
 |_=>.non
theorem vB{L:List (List Int)}{m:Nat}{d:D}(h:d∈prs L m):∃s∈L,∃w:Nat,d=.tup [bH s,.int (w:Int)]:=by obtain⟨s,hs,h⟩:=eV.mp h;obtain⟨w,_,rfl⟩:=cH.mp h;exact⟨s,hs,w,rfl⟩
theorem aFt(L:List (List Int))(m:Nat):((prs L m).filter λ_=>true).map prF=(L.flatMap λs=>(bC m).map λ(w:Nat)=>s++[(w:Int)]).map bH:=by
 rw[cU.mpr λ_ _=>rfl];unfold prs
 induction L with
 |nil=>rfl
 |cons s L ih=>
  rw[gT,gT,bD,bD,ih,bU,bU];congr 1;refine dZ λw _=> ?_
  simp[prF,bH]
abbrev aJq:List Str:=["_law_size","_law_most","_law_found","_law_box"]
theorem aDg(F:FI K mg "_law_fillings" yV)(zrange:mg "range"=none)(GP:aS P w K mg base "_law_pairs" 1 2 aDU):aS P w K mg base "_law_fillings" 2 1 aDT:=by
 refine cC (N:=aJq) (ps:=["_law_size"]) (k:=1) F λf nd cdv A outer s H E hr ds r hl c=> ?_
 obtain⟨p,hp,rfl,rfl⟩:=c;obtain⟨h1,h2,h3,h4,h5⟩:=nH p hp;have e2:p.2=((p.2.toNat:Nat):Int):=by omega
 have nd2:(["_law_filling","_law_word_here"]:List Str).Nodup:=by decide+kernel
 have m64:2^p.1.toNat<=64:=by
  have:p.1.toNat<=6:=by omega
  exact bM (mC (by decide) this)<|by decide
 refine aD<|dR (d:=.int ((2^p.1.toNat:Nat):Int)) 1 (fA (i:=p.1) (PEd.bor (PEd.val<|pdL (ds:=[.int 1,.int 2,.int 4,.int 8,.int 16,.int 32,.int 64]) ?_)) (pdx (n:=0)<|pdv 0) (by omega) (uY _<|by omega) λ_ _=>rfl) ?_
 ·repeat' (first|exact aE|refine aA aM ?_)
 refine aD<|nP (ds:=[bH []]) 2 (pdL (ds:=[bH []])<|aA (gY (ds:=[]) aE<|bL _) aE) λl=> ?_;refine aD<|kR (ds:=dO 0 p.2.toNat) (λk sd=>∃l,sd=[.val<|bR p,.val<|.int ((2^p.1.toNat:Nat):Int),.own l<|(fX (2^p.1.toNat) k).map bH,.un]) (gM (n:=p.2.toNat) rfl zrange (PEd.cast (pdx (n:=1) (d:=.int p.2)<|pdv 0)<|by rw[<-e2])<|by omega) ⟨_,Le.refl _,l,rfl⟩ (λk d sdk hd hk=> ?_) λsdn hn=> ?_
 ·obtain⟨hk2,rfl⟩:=dG hd;obtain⟨l2,rfl⟩:=hk
  have hsm:(fX (2^p.1.toNat) k).length*2^p.1.toNat<=900:=by rw[lE];exact oA p hp k hk2
  refine⟨[.val<|bR p,.val<|.int ((2^p.1.toNat:Nat):Int),.own l2<|(fX (2^p.1.toNat) k).map bH,.val (.int<|0+(k:Int))],pgN 3, ?_⟩;refine kB 2 rfl ?_;refine aP<|aCD 2 (ds:=prs (fX (2^p.1.toNat) k)<|2^p.1.toNat) (N:=["_law_filling","_law_word_here"]) (M:=aJq) (cap:=[none,none]) (sc:=aT yV) (Tb:=prT) (λ_=>true) prF rfl nd rfl rfl rfl (fM (PEd.val<|pdc (ds:=[tL<|fX (2^p.1.toNat) k,.int ((2^p.1.toNat:Nat):Int)]) GP hr (aA (pdv 2)<|aA (pdv 1) aE) ⟨_,_,rfl,hsm,m64,rfl⟩)) (by rw[aAN];omega) rfl (by decide+kernel) rfl (by decide+kernel) rfl (λcl C fp s H d hd=> ?_) (λd hd=> ?_) (λcl C fp s H d _=>.inl ⟨rfl,rfl⟩) (λcl C fp s H d hd _=> ?_) λl3=> ?_
  ·obtain⟨s',_,w,rfl⟩:=vB hd;exact iH (js:=[0,1]) (ds:=[bH s',.int (w:Int)]) rfl (cF (pgn 0)<|cF (pgn 1) gH) rfl rfl
  ·obtain⟨s',_,w,rfl⟩:=vB hd;exact⟨.inl rfl,.inl rfl,trivial⟩
  ·obtain⟨s',hs',w,rfl⟩:=vB hd;have ls:=kS _ _ s' hs';exact gG (pdv 0) (pdT (ds:=[.int (w:Int)])<|aA (pdv 1) aE) (by simp only[aC,bX,fC];omega)
  ·refine⟨[.val<|bR p,.val<|.int ((2^p.1.toNat:Nat):Int),.own l3<|(fX (2^p.1.toNat)<|k+1).map bH,.un],⟨.inr rfl,.inr rfl,.inr ?_,.inl rfl,trivial⟩,l3,rfl⟩;rw[aFt];rfl
 ·rw[dQ] at hn;obtain⟨l2,rfl⟩:=hn;exact aP<|iQ 2 rfl (pv 2) rfl
noncomputable def rwE(x:Int)(n most:Nat):List Nat:=(lI (x / ((most+1:Nat):Int))<|aI (x%((most+1:Nat):Int)).toNat 840).map λd=>(d%(n:Int)).toNat
theorem aDJ(x:Int){n:Nat}(most:Nat)(h:0<n):(∀t∈rwE x n most,t<n)/\(rwE x n most).length<=most:=by
 have m0:(0:Int)<((most+1:Nat):Int):=by omega
 have r0:=aK x<|eG m0;have r1:=aQ x m0;refine⟨λt ht=> ?_, ?_⟩
 ·obtain⟨d,_,rfl⟩:=cH.mp ht;have q0:=aK d (show(n:Int)≠0 by omega);have q1:=aQ d (show(0:Int)<n by omega);omega
 ·unfold rwE;rw[aC,mM,fJ];omega
def aIf:List D->R->Prop:=λds r=>∃ (x:Int) (L:List SK) (most:Nat),0<L.length/\most<=8/\ds=[.int x,.lst<|L.map skD,.int (most:Int)]/\r=.val (.tup (bB<|rwE x L.length most))
abbrev aJe:List Str:=["_law_x","_law_stock","_law_most","_law_many"]
theorem aEz(F:FI K mg "_law_row" aEr)(ztuple:mg "tuple"=none)(zlen:mg "len"=none)(GG:aS P w K mg base "_law_digits" 1 2 mV):aS P w K mg base "_law_row" 2 3 aIf:=by
 refine cC (N:=aJe) (ps:=["_law_x","_law_stock","_law_most"]) (k:=1) F λf nd cdv A outer s H E hr ds r hl c=> ?_
 obtain⟨x,L,most,l0,m8,rfl,rfl⟩:=c;have nd2:(["_law_digit","_law_stock"]:List Str).Nodup:=by decide+kernel
 have n0:(0:Int)<(L.length:Int):=by omega
 have m0:(0:Int)<((most+1:Nat):Int):=by omega
 have r0:=aK x<|eG m0;have r1:=aQ x m0
 have ml:((most+1:Nat):Int).natAbs.log2<9000:=by rw[aEj];exact jK (rG _)<|by omega
 obtain⟨k,hk⟩:∃k:Nat,x%((most+1:Nat):Int)=(k:Int):=⟨(x%((most+1:Nat):Int)).toNat,by omega⟩;have k8:k<=8:=by omega
 have eR:rwE x L.length most=(lI (x / ((most+1:Nat):Int))<|aI k 840).map λd=>(d%(L.length:Int)).toNat:=by unfold rwE;rw[hk,cK]
 rw[eR];refine aD<|dR (d:=.int (k:Int)) 3 (PEd.ic (aZ cJ (pdv 0) (PEd.ic (cT cW (pdv 2) aM) (show _=((most+1:Nat):Int) by omega)) m0) hk) ?_
 have er:(aI k [D.int 840]).flatten=(aI k (840:Int)).map D.int:=by
  clear eR hk k8
  induction k with
  |zero=>rfl
  |succ k ih=>rw[cB,cB,dA,ih];rfl
 refine aP<|fW (lG rfl ztuple<|PEd.bor (PEd.val<|PEd.cast (pdC (ds:=(lI (x / ((most+1:Nat):Int))<|aI k 840).map D.int) (N:=["_law_digit","_law_stock"]) (M:=aJe) (cap:=[none,some 1]) (sc:=aT aEr) (Tb:=λd=>[.val d,.val<|lK L]) (λ_=>true) (λd=>match d with | .int i=>D.int (((i%(L.length:Int)).toNat:Nat):Int)|_=>.non) (fM (PEd.val<|pdc (ds:=[.int<|x / ((most+1:Nat):Int),.lst<|(aI k 840).map D.int]) GG hr (aA (aZ gP (pdv 0) (PEd.ic (cT cW (pdv 2) aM) (show _=((most+1:Nat):Int) by omega)) ⟨m0,ml⟩)<|aA (PEd.cast (PEd.val (aAy (ds:=[.int 840]) (k:=k) (PEd.bor<|PEd.val (pdL (ds:=[.int 840])<|aA aM aE)) (pdv 3) (by omega)<|by simp;omega))<|by rw[er]) aE) ⟨_,aI k 840,rfl,(λn hn=>by rw[(aDj.mp hn).2];exact⟨by decide,by decide⟩),by rw[fJ];omega,rfl⟩)) (by rw[aC,mM,fJ];omega) (λcl C fp s H d hd=>.inl ⟨rfl,rfl⟩) λcl C fp s H d hd _=> ?_) (?_:_=R.own (bB<|(lI (x / ((most+1:Nat):Int))<|aI k 840).map λd=>(d%(L.length:Int)).toNat))))
 ·obtain⟨z,_,rfl⟩:=cH.mp hd;have q0:=aK z<|eG n0;exact PEd.ic (aZ cJ (pdv 0) (PEd.ic (nD rfl zlen (PEd.bor<|pdv 1))<|by rw[aC]) n0) (aDk q0).symm
 ·rw[cU.mpr λ_ _=>rfl];unfold bB;rw[bU,bU];rfl
noncomputable def lkE(x:Int)(n:Nat):Option (List Nat):=if x%3=0 then none else some ((bC n).filter λb=>decide<|x / 3 / ((2^b:Nat):Int)%2=1)
theorem aGE{p:Int×Int}(hp:p∈cI)(x:Int):qN p (lkE x p.2.toNat):=by
 obtain⟨h1,h2,h3,h4,h5⟩:=nH p hp;intro l hl;unfold lkE at hl
 split at hl
 ·cases hl
 ·cases hl;refine⟨bM (lH _ _) (by simp;omega),λb hb=>cR.mp (rM.mp hb).1⟩
def aJx:List D->R->Prop:=λds r=>∃x p,p∈cI/\ds=[.int x,bR p]/\r=.val (lkD<|lkE x p.2.toNat)
theorem pow6:∀b,b<6->([.int 1,.int 2,.int 4,.int 8,.int 16,.int 32]:List D)[b]? =some (.int ((2^b:Nat):Int)):=by
 intro b hb
 match b,hb with
 |0,_=>rfl
 |1,_=>rfl
 |2,_=>rfl
 |3,_=>rfl
 |4,_=>rfl
 |5,_=>rfl
theorem aCy(F:FI K mg "_law_looked" yE)(zrange:mg "range"=none):aS P w K mg base "_law_looked" 1 2 aJx:=by
 refine cC (N:=aHL) (ps:=aHL) (k:=0) F λf nd cdv A outer s H E hr ds r hl c=> ?_
 obtain⟨c,p,hp,rfl,rfl⟩:=c;obtain⟨h1,h2,h3,h4,h5⟩:=nH p hp;have e2:p.2=((p.2.toNat:Nat):Int):=by omega
 have nd2:(["_law_box","_law_x"]:List Str).Nodup:=by decide+kernel
 refine aD<|dJ (iG (aZ cJ (pdv 0) aM<|by decide) aM) (λh=> ?_) λh=>cM ?_
 ·have h':c%3=0:=by simpa using h
  refine aP<|cV mB trivial ?_;unfold lkE;rw[if_pos h'];rfl
 ·have h':¬ c%3=0:=by simpa using h
  refine aP<|cV (PEd.val<|pdC (ds:=dO 0 p.2.toNat) (N:=["_law_box","_law_x"]) (M:=aHL) (cap:=[none,some 0]) (sc:=aT yE) (Tb:=λd=>[.val d,.val<|.int c]) (λd=>match d with | .int b=>decide (c / 3 / ((2^b.toNat:Nat):Int)%2=1)|_=>true) (λd=>d) (gM (n:=p.2.toNat) rfl zrange (PEd.ic (pdx (n:=1) (d:=.int p.2)<|pdv 1) e2)<|by omega) (by rw[dQ];omega) (λcl C fp s H d hd=> ?_) λcl C fp s H d hd _=>(pdv 0)) trivial ?_
  ·obtain⟨k,hk,rfl⟩:=cH.mp hd;have hk2:=cR.mp hk;have p0:=pw0 k;have p1:(2^k:Nat)<=64:=bM (mC (by decide) (show k<=6 by omega)) (by decide);refine .inr ⟨_,rfl, ?_⟩;show PTd _ _ _ (decide<|c / 3 / ((2^(0+(k:Int)).toNat:Nat):Int)%2=1);rw[kY,cK];refine iG (aZ cJ (aZ gP (aZ gP (pdv 1) aM ⟨by decide,by decide⟩) (kG (n:=k) (PEd.bor (PEd.val<|pdL (ds:=[.int 1,.int 2,.int 4,.int 8,.int 16,.int 32]) ?_)) (pdv 0) (pow6 k<|by omega) λ_ _=>rfl) ⟨p0, ?_⟩) aM<|by decide) aM
   ·repeat' (first|exact aE|refine aA aM ?_)
   ·rw[aEj];exact jK (bM (rG _) p1)<|by decide
  ·unfold lkE;rw[if_neg h',sI];show R.val (.lst _)=R.val (.lst<|bB _);congr 2;unfold bB;rw[List.map_id',List.filter_map];rfl
abbrev aIp:List Str:=["_law_stock","_law_row_here"]
theorem aAW(F:FI K mg "_law_price" tO)(zsum:mg "sum"=none):aS P w K mg base "_law_price" 1 2 uA:=by
 refine cC (N:=aIp) (ps:=aIp) (k:=0) F λf nd cdv A outer s H E hr ds r hl c=> ?_
 obtain⟨L,row,hrow,hl2,rfl,rfl⟩:=c;have nd2:(["_law_number","_law_stock"]:List Str).Nodup:=by decide+kernel
 have ec:((bB row).filter λ_=>true).map (λd=>match d with | .int t=>D.int (L.getD t.toNat AV).2|_=>.non)=(wL L row).map D.int:=by
  rw[cU.mpr λ_ _=>rfl];unfold bB wL;rw[bU,bU];refine dZ λt _=> ?_
  simp
 refine aP (fW<|aAk (ns:=wL L row) rfl zsum (PEd.bor<|PEd.val (PEd.cast (pdC (ds:=bB row) (N:=["_law_number","_law_stock"]) (M:=aIp) (cap:=[none,some 0]) (sc:=aT tO) (Tb:=λd=>[.val d,.val<|lK L]) (λ_=>true) (λd=>match d with | .int t=>D.int (L.getD t.toNat AV).2|_=>.non) (lC<|pdv 1) (by rw[show(bB row).length=row.length from aC _];omega) (λcl C fp s H d hd=>.inl ⟨rfl,rfl⟩) λcl C fp s H d hd _=> ?_)<|by rw[ec])));obtain⟨t,ht,rfl⟩:=cH.mp hd;have hn:=hrow t ht;exact pdx (n:=1) (ds:=[sqD (L.getD t AV).1,.int (L.getD t AV).2])<|kG (n:=t) (PEd.bor<|pdv 1) (pdv 0) (pQ hn) λ_ _=>rfl
noncomputable def eWE(o:Option (List Nat))(ws:List Int):List Int:=match o with
 |none=>ws
 |some l=>l.map λj=>ws.getD j 0
theorem aGY(p:Int×Int)(L:List SK)(row:List Nat)(o:Option (List Nat)):iF p L row o=(eY p).map λws=>eWE o (fE p L row ws):=by unfold iF eWE;cases o<;>rfl
def aDs:List D->R->Prop:=λds r=>∃p L row o,p∈cI/\hX p L/\RowOk L row/\qN p o/\ds=[bR p,.lst<|L.map skD,.tup<|bB row,lkD o]/\r=.own ((iF p L row o).map bH)
theorem aFw{p:Int×Int}{q:SQ}{ws:List Int}(O:vW p q)(G:Fil p ws):aFP p q.1 q.2.1 q.2.2.1 q.2.2.2 ws:=⟨O.sz,O.k10,O.i0,O.j0,O.n0,G.len,G.wd⟩
abbrev aJt:List Str:=["_law_size","_law_stock","_law_row_here","_law_looked_here","_law_ends_here","_law_filling","_law_number"]
theorem aCo(F:FI K mg "_law_ends" yN)(ztuple:mg "tuple"=none)(GO:aS P w K mg base "_law_on" 2 3 aJp)(GF:aS P w K mg base "_law_fillings" 2 1 aDT):aS P w K mg base "_law_ends" 3 4 aDs:=by
 refine cC (N:=aJt) (ps:=["_law_size","_law_stock","_law_row_here","_law_looked_here"]) (k:=2) F λf nd cdv A outer s H E hr ds r hl c=> ?_
 obtain⟨p,L,row,o,hp,S,hrow,hlk,rfl,rfl⟩:=c;have f9:(eY p).length<=64:=aAP hp;have nd2:(["_law_box","_law_filling"]:List Str).Nodup:=by decide+kernel
 rw[aGY];refine aD<|nP (ds:=[]) 4 (kC (ds:=[]) aE<|bL _) λl4=> ?_;refine aD<|fO (ds:=(eY p).map bH) (λt=>(s4 p L row o [.own l4<|(((eY p).take t).map λws=>eWE o<|fE p L row ws).map bH,.un,.un])) (λt=>(s4 p L row o [.own l4<|(((eY p).take t).map λws=>eWE o<|fE p L row ws).map bH,.val (bH<|(eY p).getD t []),.un])) (fM (PEd.val<|pdc (ds:=[bR p]) GF hr (aA (pdv 0) aE) ⟨p,hp,rfl,rfl⟩)) (Le.refl _) (λt d hd=> ?_) (λt d hd=> ?_) ?_
 ·obtain⟨_,rfl⟩:=iV hd;exact pgN 5
 ·obtain⟨ht,rfl⟩:=iV hd;have G:=oY hp (DL.getD_mem (d:=[]) ht)
  have et:(eY p).take (t+1)=(eY p).take t++[(eY p).getD t []]:=by rw[eM];simp[bQ,ht]
  rw[et];have tl:((eY p).take t).length<=64:=by rw[aV];omega
  generalize (eY p).take t=Z at tl;have G:Fil p ((eY p).getD t []):=G;generalize (eY p).getD t []=ws at G;refine aD<|fO (ds:=bB row) (λi=>(s4 p L row o [.own l4<|(Z.map λws=>eWE o<|fE p L row ws).map bH,.val (bH<|fE p L (row.take i) ws),.un])) (λi=>(s4 p L row o [.own l4<|(Z.map λws=>eWE o<|fE p L row ws).map bH,.val (bH<|fE p L (row.take i) ws),.val<|.int ((row.getD i 0:Nat):Int)])) (lC<|pdv 2) (Le.refl _) (λi d hd=> ?_) (λi d hd=> ?_) ?_
  ·obtain⟨_,rfl⟩:=oZ hd;exact pgN 6
  ·obtain⟨hi,rfl⟩:=oZ hd;have hn:=hrow (row.getD i 0)<|DL.getD_mem hi;have G1:=iY S (row.take i) ws (λu hu=>hrow u<|pJ _ _ hu) G;refine aP<|dR (d:=bH<|fE p L (row.take<|i+1) ws) 5 (pdc (ds:=[sqD (L.getD (row.getD i 0) AV).1,bR p,bH<|fE p L (row.take i) ws]) GO hr (aA (pdx (n:=0) (ds:=[sqD (L.getD (row.getD i 0) AV).1,.int (L.getD (row.getD i 0) AV).2])<|kG (PEd.bor<|pdv 1) (pdv 6) (pQ hn) λ_ _=>rfl) (aA (pdv 0)<|aA (pdv 5) aE)) ⟨p,_,_,_,_,_,aFw (S.st _<|DL.getD_mem hn).1 G1,rfl,by rw[xG hi,sV];rfl⟩) ?_;exact⟨.inr rfl,.inr rfl,.inr rfl,.inr rfl,.inr rfl,.inr rfl,.inl rfl,trivial⟩
  ·rw[show(bB row).length=row.length from aC _,eI];have G2:=iY S row ws hrow G;generalize hv:fE p L row ws=vs at G2
   have fin:∀us:List Int,us=eWE o vs->Slot.own l4 ((Z.map λws=>eWE o<|fE p L row ws).map bH++[bH us])=Slot.own l4 (((Z++[ws]).map λws=>eWE o<|fE p L row ws).map bH):=λus hus=>by rw[bD,bD,hus,<-hv];rfl
   cases o with
   |none=>refine aD (iE (xA (d:=.non) (pdv 3) mB) rfl<|cM ?_);refine aP<|gJ (d:=bH vs) 4 rfl (pv 4) (pdv 5) (by rw[aC,aC];omega) ?_;exact⟨.inr rfl,.inr rfl,.inr rfl,.inr rfl,.inr<|fin vs rfl,.inl rfl,.inr rfl,trivial⟩
   |some l=>
    obtain⟨ll,lb⟩:=hlk l rfl;refine aD<|iJ (xA (d:=.lst<|bB l) (pdv 3) mB) rfl (aP<|dR (d:=bH<|l.map λj=>vs.getD j 0) 5 (lG rfl ztuple<|PEd.bor (PEd.val<|PEd.cast (pdC (ds:=bB l) (N:=["_law_box","_law_filling"]) (M:=aJt) (cap:=[none,some 5]) (sc:=aT yN) (Tb:=λd=>[.val d,.val<|bH vs]) (λ_=>true) (λd=>match d with | .int i=>D.int (vs.getD i.toNat 0)|_=>.non) (fM<|pdv 3) (by unfold bB;rw[aC];omega) (λcl C fp s H d hd=>.inl ⟨rfl,rfl⟩) λcl C fp s H d hd _=> ?_) (?_:_=R.own ((l.map λj=>vs.getD j 0).map D.int)))) ?_)
    ·obtain⟨b,hb2,rfl⟩:=cH.mp hd;have:=lb b hb2;have:b<vs.length:=by rw[G2.len];exact this
     exact lY (n:=b) (d:=.int<|vs.getD b 0) (pdv 1) (pdv 0) (by simp[bQ,this]) λ_ _=>rfl
    ·rw[cU.mpr λ_ _=>rfl];unfold bB;rw[bU,bU];rfl
    ·refine aP<|gJ (d:=bH<|l.map λj=>vs.getD j 0) 4 rfl (pv 4) (pdv 5) (by rw[aC,aC];omega) ?_;exact⟨.inr rfl,.inr rfl,.inr rfl,.inr rfl,.inr<|fin _ rfl,.inl rfl,.inr rfl,trivial⟩
 ·rw[aC,eI];exact aP<|iQ 4 rfl (pv 4) rfl
def aAt:List D->R->Prop:=λds r=>∃row:List Nat,row.length<=900/\ds=[.tup<|bB row,.tup<|bB row]/\r=.val (.bl true)
theorem oU(l:List Nat):pl (.tup<|bB l)=true:=by
 show plL (l.map _)=true
 induction l with
 |nil=>rfl
 |cons a l ih=>exact ih
theorem vQ(l:List Nat):dep (.tup<|bB l)=1:=by
 show jS (l.map _)+1=1
 induction l with
 |nil=>rfl
 |cons a l ih=>show max 0 (jS<|l.map _)+1=1;omega
abbrev aHX:List Str:=["_law_found","_law_due"]
theorem aBE(F:FI K mg "_law_is_row" tQ)(zisinstance:mg "isinstance"=none)(ztuple:mg "tuple"=none)(zbool:mg "bool"=none):aS P w K mg base "_law_is_row" 1 2 aAt:=by
 refine cC (N:=aHX) (ps:=aHX) (k:=0) F λf nd cdv A outer s H E hr ds r hl c=> ?_
 obtain⟨row,hl9,rfl,rfl⟩:=c;have nd2:(["_law_number"]:List Str).Nodup:=by decide+kernel
 have hu:=uN hr 4;refine yF (PWd.pt<|lU (k:=false) (j:=false) (iK (k:=true) (gI<|PEd.cast (nE rfl zisinstance rfl ztuple PyProof.Rows.boot_tuple (pdv 0) (λ_=>by simp)<|aBi _ _) rfl)) λ_=>pG (PTd.cast (tK (ra:=.val (.tup<|bB row)) (rb:=.val (.tup<|bB row)) (pdv 0) (pdv 1) trivial trivial (.inl ⟨rfl,rfl⟩) (oU _) (oU _) (aHN hu<|by show dep (.tup _)+1<=4;rw[vQ];decide))<|by show(!deq (.tup _) (.tup _))=false;rw[mX _<|oU _];rfl)) ?_;refine aP<|cV (PEd.cast (aFJ (ds:=[]) (PEd.bor<|PEd.val (PEd.cast (pdC (ds:=bB row) (N:=["_law_number"]) (M:=aHX) (cap:=[none]) (sc:=aT tQ) (Tb:=λd=>[.val d]) (λ_=>false) (λd=>d) (lC<|pdv 0) (by unfold bB;rw[aC];omega) (λcl C fp s H d hd=> ?_) λcl C fp s H d _ _=>(pdv 0))<|by simp))) rfl) trivial rfl;obtain⟨t,_,rfl⟩:=cH.mp hd;exact .inr ⟨_,rfl,gI<|PEd.cast (nE rfl zisinstance rfl zbool PyProof.Rows.boot_bool (pdv 0) (λ_=>by simp)<|rF _ _) rfl⟩
noncomputable def mx1(n:Int):Int:=if n>1 then n else 1
noncomputable def dP(x:Int)(n:Nat):Int:=x / 4%840%mx1 (n:Int)
noncomputable def dM1(x:Int):Int:=1+x / 4 / 840%12%(x%4+1)
noncomputable def dM(x:Int)(n:Nat):Int:=if mx1 ((n:Int)-dP x n)<dM1 x then mx1 ((n:Int)-dP x n) else dM1 x
noncomputable def dC(x:Int):Int:=x / 4 / 840 / 12%10^12
noncomputable def dW(x:Int):Nat:=[0,1,2,8].getD (dC x%4).toNat 0
noncomputable def drE(x:Int)(L:List SK)(n:Nat):Ch:=if dC x%3=0/\(L.getD 0 AV).2=9/\1<L.length then((dP x n).toNat,1,aI (dC x / 3%10).toNat 1) else((dP x n).toNat,(dM x n).toNat,rwE (dC x) L.length<|dW x)
theorem uQ(n:Int):1<=mx1 n:=by
 unfold mx1
 split<;>omega
theorem aII(x:Int)(n:Nat):0<=dP x n:=aK _ (by have:=uQ (n:Int);omega)
theorem aFi(x:Int):1<=dM1 x:=by have k0:=aK x (show(4:Int)≠0 by decide);have:=aK (x / 4 / 840%12) (show x%4+1≠0 by omega);unfold dM1;omega
theorem aIu(x:Int)(n:Nat):1<=dM x n:=by
 unfold dM
 split
 ·exact uQ _
 ·exact aFi x
theorem aGs(x:Int):dW x<=8:=by
 have h0:=aK (dC x) (show(4:Int)≠0 by decide);have h1:=aQ (dC x) (show(0:Int)<4 by decide);unfold dW;have:(dC x%4).toNat<4:=by omega
 generalize (dC x%4).toNat=i at this
 match i,this with
 |0,_=>decide
 |1,_=>decide
 |2,_=>decide
 |3,_=>decide
theorem tS(x:Int)(L:List SK)(n:Nat)(h:0<L.length):RowOk L (drE x L n).2.2/\(drE x L n).2.2.length<=9:=by
 unfold drE
 split
 ·rename_i q;refine⟨λt ht=> ?_, ?_⟩
  ·rw[(aDj.mp ht).2];exact q.2.2
  ·have r1:=aQ (dC x / 3) (show(0:Int)<10 by decide);show(aI _ _).length<=9;rw[fJ];omega
 ·obtain⟨a,b⟩:=aDJ (dC x) (dW x) h;have:=aGs x;exact⟨a,bM b<|by omega⟩
def aIb:List D->R->Prop:=λds r=>∃ (x:Int) (p:Int×Int) (L:List SK) (row:List Nat),hX p L/\ds=[.int x,.lst<|L.map skD,.tup<|bB row]/\r=.val (chD<|drE x L row.length)
theorem ones(k:Nat):(aI k [D.int 1]).flatten=bB (aI k 1):=by
 unfold bB
 induction k with
 |zero=>rfl
 |succ k ih=>rw[cB,cB,dA,ih];rfl
theorem aAU(F:FI K mg "_law_drawn" aAh)(zlen:mg "len"=none)(zmax:mg "max"=none)(zmin:mg "min"=none)(GG:aS P w K mg base "_law_digits" 1 2 mV)(GR:aS P w K mg base "_law_row" 2 3 aIf):aS P w K mg base "_law_drawn" 3 3 aIb:=by
 refine cC (N:=["_law_x","_law_stock","_law_row_here","_law_kind","_law_place","_law_many","_law_piece"]) (ps:=["_law_x","_law_stock","_law_row_here"]) (k:=2) F λf nd cdv A outer s H E hr ds r hl c=> ?_
 obtain⟨x,p,L,row,S,rfl,rfl⟩:=c;have l0:=S.pos;have nrl:(bB row).length=row.length:=aC _;have k0:=aK x (show(4:Int)≠0 by decide);have k1:=aQ x (show(0:Int)<4 by decide)
 refine aD (lF (d:= .lst ((lI x [4,840,12,10^12]).map D.int)) (PEd.val (pdc (ds:=[.int x, .lst ([4,840,12,10^12].map D.int)]) GG hr (aA (pdv 0) (aA (PEd.val (pdL (ds:=[.int 4, .int 840, .int 12, .int (10^12)]) (aA aM (aA aM (aA aM (aA (PEd.ic (aZ tT (i:=10) (j:=12) aM aM ⟨by decide,by decide,by decide⟩) (show (10:Int)^(12:Int).toNat=(10:Int)^(12:Nat) from rfl)) aE)))))) aE)) ⟨_,[4,840,12,10^12],rfl,by decide,by decide,rfl⟩))
  (tZ (js:=[3,4,5,6]) rfl (cF (pgn 3) (cF (pgn 4) (cF (pgn 5) (cF (pgn 6) gH)))) rfl rfl) ?_)
 refine kQ (sd':=[.val<|.int x,.val<|lK L,.val<|tN row,.val (.int<|x%4),.val (.int<|x / 4%840),.val (.int<|x / 4 / 840%12),.val (.int<|dC x)]) (Le.refl _) ?_
 have four:([.int 1,.int 2,.int 3,.int 4]:List D)[(x%4).toNat]? =some (.int<|x%4+1):=by
  obtain⟨i,hi⟩:∃i:Nat,x%4=(i:Int):=⟨(x%4).toNat,by omega⟩;have i4:i<4:=by omega
  rw[hi,cK]
  match i,i4 with
  |0,_=>rfl
  |1,_=>rfl
  |2,_=>rfl
  |3,_=>rfl
 refine aD<|dR (d:=.int<|dM1 x) 5 (cT cW aM (aZ cJ (pdv 5) (fA (i:=x%4) (PEd.bor (PEd.val<|pdL (ds:=[.int 1,.int 2,.int 3,.int 4]) ?_)) (pdv 3) k0 four λ_ _=>rfl)<|by omega)) ?_
 ·repeat' (first|exact aE|refine aA aM ?_)
 refine aD<|dR (d:=.int<|dP x row.length) 4 (aZ cJ (pdv 4) (pH rfl zmax aM (PEd.ic (jF rfl zlen<|pdv 2)<|by rw[nrl]))<|by have:=uQ (row.length:Int);omega) ?_;refine aD<|dR (d:=.int<|dM x row.length) 5 (aAp rfl zmin (pdv 5)<|pH rfl zmax aM (cT iT (PEd.ic (jF rfl zlen<|pdv 2)<|by rw[nrl])<|pdv 4)) ?_;have pn:=aII x row.length;have mn:=aIu x row.length;have c0:(L.map skD)[0]? =some (skD<|L.getD 0 AV):=pQ l0;refine aD<|dJ (k:=decide (dC x%3=0)&&(decide ((L.getD 0 AV).2=9)&&decide ((1:Int)<(L.length:Int)))) (PWd.pt<|tX (iG (aZ cJ (pdv 6) aM<|by decide) aM) λ_=>tX (iG (pdx (n:=1) (ds:=[sqD (L.getD 0 AV).1,.int (L.getD 0 AV).2])<|kG (n:=0) (PEd.bor<|pdv 1) aM c0 λ_ _=>rfl) aM) λ_=>xR (iO (g:=λi j=>decide<|j<i) aEq (PEd.ic (nD rfl zlen (PEd.bor<|pdv 1))<|by rw[aC]) aM<|eD _)) (λh=> ?_) λh=>cM ?_
 ·simp only[aW,decide_eq_true_eq] at h
  have e:drE x L row.length=((dP x row.length).toNat,1,aI (dC x / 3%10).toNat 1):=by unfold drE;rw[if_pos ⟨h.1,h.2.1,by omega⟩]
  rw[e];have q0:=aK (dC x / 3) (show(10:Int)≠0 by decide);have q1:=aQ (dC x / 3) (show(0:Int)<10 by decide);exact aP<|fW (pdT (ds:=[.int (((dP x row.length).toNat:Nat):Int),.int ((1:Nat):Int),tN<|aI (dC x / 3%10).toNat 1])<|aA (PEd.ic (pdv 4)<|by omega) (aA aM<|aA (PEd.cast (aFj (ds:=[.int 1]) (k:=(dC x / 3%10).toNat) (pdT (ds:=[.int 1])<|aA aM aE) (PEd.ic (aZ cJ (aZ gP (pdv 6) aM ⟨by decide,by decide⟩) aM<|by decide)<|by omega) (by simp)<|by simp;omega)<|by rw[ones]) aE))
 ·have h':¬ (dC x%3=0/\(L.getD 0 AV).2=9/\1<L.length):=by simp only[Bool.and_eq_false_iff,decide_eq_false_iff_not] at h;omega
  have e:drE x L row.length=((dP x row.length).toNat,(dM x row.length).toNat,rwE (dC x) L.length<|dW x):=by unfold drE;rw[if_neg h']
  rw[e];have q0:=aK (dC x) (show(4:Int)≠0 by decide);have q1:=aQ (dC x) (show(0:Int)<4 by decide)
  have w4:([.int 0,.int 1,.int 2,.int 8]:List D)[(dC x%4).toNat]? =some (.int ((dW x:Nat):Int)):=by
   unfold dW;have:(dC x%4).toNat<4:=by omega
   generalize (dC x%4).toNat=i at this
   match i,this with
   |0,_=>rfl
   |1,_=>rfl
   |2,_=>rfl
   |3,_=>rfl
  refine aP<|fW (pdT (ds:=[.int (((dP x row.length).toNat:Nat):Int),.int (((dM x row.length).toNat:Nat):Int),tN (rwE (dC x) L.length<|dW x)])<|aA (PEd.ic (pdv 4)<|by omega) (aA (PEd.ic (pdv 5)<|by omega)<|aA (pdc (ds:=[.int<|dC x,lK L,.int ((dW x:Nat):Int)]) GR hr (aA (pdv 6) (aA (pdv 1)<|aA (fA (i:=dC x%4) (PEd.bor (PEd.val<|pdL (ds:=[.int 0,.int 1,.int 2,.int 8]) ?_)) (aZ cJ (pdv 6) aM<|by decide) q0 w4 λ_ _=>rfl) aE)) ⟨_,L,dW x,l0,aGs x,rfl,rfl⟩) aE))
  repeat' (first|exact aE|refine aA aM ?_)
def aIj:List D->R->Prop:=λds r=>∃p L row c o,p∈cI/\hX p L/\RowOk L row/\RowOk L c.2.2/\row.length<=450/\c.2.2.length<=400/\qN p o/\ds=[bR p,.lst<|L.map skD,.tup<|bB row,chD c,lkD o]/\r=.val (.bl<|hoQ p L row c o)
theorem aBv(F:FI K mg "_law_holds" aAr)(zlen:mg "len"=none)(GP:aS P w K mg base "_law_price" 1 2 uA)(GE:aS P w K mg base "_law_ends" 3 4 aDs):aS P w K mg base "_law_holds" 4 5 aIj:=by
 refine cC (N:=["_law_size","_law_stock","_law_row_here","_law_change","_law_looked_here","_law_place","_law_many","_law_piece","_law_other"]) (ps:=["_law_size","_law_stock","_law_row_here","_law_change","_law_looked_here"]) (k:=3) F λf nd cdv A outer s H E hr ds r hl c=> ?_
 obtain⟨p,L,row,c,o,hp,S,hrow,hpc,hl1,hl2,hlk,rfl,rfl⟩:=c;have hu:=uN hr 6;have nrl:(bB row).length=row.length:=aC _;refine aD<|lF (d:=chD c) (pdv 3) (iH (js:=[5,6,7]) (ds:=[.int (c.1:Int),.int (c.2.1:Int),.tup<|bB c.2.2]) rfl (cF (pgn 5) (cF (pgn 6)<|cF (pgn 7) gH)) rfl rfl) ?_;refine kQ (sd':=[.val<|bR p,.val<|lK L,.val (.tup<|bB row),.val<|chD c,.val<|lkD o,.val<|.int (c.1:Int),.val<|.int (c.2.1:Int),.val (.tup<|bB c.2.2),.un]) (Le.refl _) ?_;refine aD<|dJ (k:= !oQ row c) (PTd.cast (PWd.pt<|lU (iO (g:=λi j=>decide<|i<j) pT (pdv 5) aM<|eD _) λ_=>lU (iO (g:=λi j=>decide<|i<j) pT (pdv 6) aM<|eD _) λ_=>pG (iO (g:=λi j=>decide<|j<i) aEq (cT cW (pdv 5)<|pdv 6) (PEd.ic (jF rfl zlen<|pdv 2)<|by rw[nrl])<|eD _)) (?_:_= !oQ row c)) (λh=> ?_) λh=>cM ?_
 ·unfold oQ;rw[<-decide_not];simp only[<-Bool.decide_or];exact decide_eq_decide.mpr ⟨λq=>by omega,λq=>by omega⟩
 ·have h':oQ row c=false:=by simpa using h
  refine aP<|cV wR trivial ?_;unfold hoQ;rw[h'];rfl
 have hw:oQ row c=true:=by simpa using h
 have hst:RowOk L ((row.drop c.1).take c.2.1):=λt ht=>hrow t (iC<|iB ht)
 have hsl:((row.drop c.1).take c.2.1).length<=450:=by rw[aV,cO];omega
 refine aD<|dJ (iO (g:=λi j=>decide<|j<=i) aBP (pdc (ds:=[lK L,.tup<|bB c.2.2]) (r:=.val (.int<|kJ L c.2.2)) GP hr (aA (pdv 1)<|aA (pdv 7) aE) ⟨L,c.2.2,hpc,by omega,rfl,rfl⟩) (pdc (ds:=[lK L,.tup (bB<|(row.drop c.1).take c.2.1)]) (r:=.val<|.int (kJ L<|(row.drop c.1).take c.2.1)) GP hr (aA (pdv 1)<|aA (PEd.cast (tH (i:=c.1) (j:=c.1+c.2.1) (pdv 2) (pdv 5) (PEd.ic (cT cW (pdv 5)<|pdv 6)<|by push_cast;rfl))<|by unfold bB;rw[kM,fG,fH]) aE) ⟨L,_,hst,by omega,rfl,rfl⟩)<|eD _) (λh2=> ?_) λh2=>cM ?_
 ·have h2':kJ L ((row.drop c.1).take c.2.1)<=kJ L c.2.2:=by simpa using h2
  refine aP<|cV wR trivial ?_;unfold hoQ;rw[decide_eq_false (show ¬ kJ L c.2.2<kJ L ((row.drop c.1).take c.2.1) by omega),lR,aHF]
 have h2':¬ kJ L ((row.drop c.1).take c.2.1)<=kJ L c.2.2:=by simpa using h2
 refine aD<|dR (d:=.tup (bB<|wcQ row c)) 8 (PEd.cast (gG (gG (qH (k:=c.1) (pdv 2)<|pdv 5) (pdv 7) ?_) (qQ (k:=c.1+c.2.1) (pdv 2) (PEd.ic (cT cW (pdv 5)<|pdv 6)<|by push_cast;rfl)) ?_) ?_) ?_
 ·unfold bB;rw[aV,aC,aC];omega
 ·unfold bB;rw[aJ,aV,cO,aC,aC];omega
 ·unfold wcQ bB;rw[bD,bD,fG,fH]
 have eh:hoQ p L row c o=decide (iF p L (wcQ row c) o=iF p L row o):=by unfold hoQ;rw[hw,decide_eq_true (show kJ L c.2.2<kJ L ((row.drop c.1).take c.2.1) by omega),gO,gO]
 rw[eh];have pls:∀X:List (List Int),pl (.lst<|X.map bH)=true:=λX=>xT X
 have dps:∀X:List (List Int),dep (.lst<|X.map bH)<=3:=λX=>by have:=sK X;show jS _+1<=3;omega
 refine aP<|cV (PEd.cast (aDE (ra:=.val (.lst<|(iF p L (wcQ row c) o).map bH)) (rb:=.val (.lst<|(iF p L row o).map bH)) (PEd.val<|pdc (ds:=[bR p,lK L,.tup (bB<|wcQ row c),lkD o]) GE hr (aA (pdv 0)<|aA (pdv 1) (aA (pdv 8)<|aA (pdv 4) aE)) ⟨p,L,wcQ row c,o,hp,S,hrow.wc hpc,hlk,rfl,rfl⟩) (PEd.val<|pdc (ds:=(a4 p L row o)) GE hr (aA (pdv 0)<|aA (pdv 1) (aA (pdv 2)<|aA (pdv 4) aE)) ⟨p,L,row,o,hp,S,hrow,hlk,rfl,rfl⟩) trivial trivial (.inr ⟨rfl,rfl⟩) (pls _) (pls _) (aHN hu<|by have:=dps<|iF p L (wcQ row c) o;show dep (.lst _)+1<=6;omega))<|by show R.val (.bl<|gR _ _)=_;rw[vV]) trivial rfl
noncomputable def aFY(z:Int):Int:=if z<20 then z else 20
noncomputable def aFR(z:Int):Int:=if z>10 then z else 10
theorem PId.castN{X:Cx}{sd:List Slot}{Q:Hp->Hp->Prop}{tg iter:Expr}{lo:Int}{n m:Nat}(h:PId X sd Q tg iter (dO lo n))(e:n=m):PId X sd Q tg iter (dO lo m):=e▸h
noncomputable def hJ(rs:List (List Nat)):List D:=rs.map λr=>D.tup<|bB r
noncomputable def chN(p:Int×Int)(L:List SK)(o:Option (List Nat))(ns:List Int)(row:List Nat):Nat->List Ch×List (List Nat)
 |0=>([],[row])
 |t+1=>if hoQ p L ((chN p L o ns row t).2.getD (chN p L o ns row t).1.length []) (drE (bJ ns<|8+t) L ((chN p L o ns row t).2.getD (chN p L o ns row t).1.length []).length) o then((chN p L o ns row t).1++[drE (bJ ns<|8+t) L ((chN p L o ns row t).2.getD (chN p L o ns row t).1.length []).length],(chN p L o ns row t).2++[wcQ ((chN p L o ns row t).2.getD (chN p L o ns row t).1.length [])<|drE (bJ ns<|8+t) L ((chN p L o ns row t).2.getD (chN p L o ns row t).1.length []).length]) else chN p L o ns row t
noncomputable def chT(ns:List Int):Nat:=if 10<(if ns.length-8<20 then ns.length-8 else 20) then(if ns.length-8<20 then ns.length-8 else 20) else 10
theorem aDK(ns:List Int):chT ns<=20:=by
 unfold chT
 by_cases a:ns.length-8<20
 ·rw[if_pos a]
  split<;>omega
 ·rw[if_neg a];decide
theorem yM{p:Int×Int}{L:List SK}{o:Option (List Nat)}{ns:List Int}{row:List Nat}(h0:0<L.length)(h:RowOk L row)(h8:row.length<=8):∀t,Chn p L o row (chN p L o ns row t).1 (chN p L o ns row t).2/\(chN p L o ns row t).1.length<=t
 |0=>⟨Chn.start h h8,aR _⟩
 |t+1=>by
  obtain⟨a,b⟩:=yM (p:=p) (o:=o) (ns:=ns) h0 h h8 t;unfold chN
  split
  ·rename_i q;obtain⟨c1,c2⟩:=tS (bJ ns<|8+t) L ((chN p L o ns row t).2.getD (chN p L o ns row t).1.length []).length h0;exact⟨a.more c1 c2 q,by show(_++[_]).length<=_;rw[aJ];simp;omega⟩
  ·exact⟨a,by omega⟩
def aJC:List D->R->Prop:=λds r=>∃ns p L row o,ns.length<=63/\p∈cI/\hX p L/\RowOk L row/\row.length<=8/\qN p o/\ds=[.scr ns,.int 8,bR p,.lst<|L.map skD,.tup<|bB row,lkD o]/\r=.val (.tup [.lst<|(chN p L o ns row<|chT ns).1.map chD,.lst<|hJ (chN p L o ns row<|chT ns).2])
theorem aAA{rs:List (List Nat)}{i:Nat}(h:i<rs.length):(hJ rs)[i]? =some (.tup (bB<|rs.getD i [])):=by unfold hJ;rw[bK];simp[bQ,h]
theorem sS{rs:List (List Nat)}{n:Nat}(h:rs.length=n+1):atI (hJ rs) (-1)=some (.tup (bB<|rs.getD n [])):=by
 have hne:rs≠[]:=λz=>by rw[z] at h;simp at h
 have e:rs=rs.dropLast++[rs.getLast hne]:=(List.dropLast_concat_getLast hne).symm;have l1:rs.dropLast.length=n:=by rw[List.length_dropLast];omega
 have g:rs.getD n []=rs.getLast hne:=by rw[List.getLast_eq_getElem];simp[bQ,show n<rs.length by omega,h]
 rw[g]
 have e2:hJ rs=hJ rs.dropLast++[.tup (bB<|rs.getLast hne)]:=by
  unfold hJ
  conv=>lhs;rw[e]
  rw[bD];rfl
 rw[e2];exact aCZ _ _
theorem wQ(F:FI K mg "_law_changes" sW)(zlen:mg "len"=none)(zmax:mg "max"=none)(zmin:mg "min"=none)(zrange:mg "range"=none)(GD:aS P w K mg base "_law_draw" 1 2 qW)(GR:aS P w K mg base "_law_drawn" 3 3 aIb)(GH:aS P w K mg base "_law_holds" 4 5 aIj):aS P w K mg base "_law_changes" 5 6 aJC:=by
 refine cC (N:=["_law_script","_law_start","_law_size","_law_stock","_law_row_here","_law_looked_here","_law_changes_here","_law_rows","_law_k","_law_change","_law_place","_law_many","_law_piece"]) (ps:=["_law_script","_law_start","_law_size","_law_stock","_law_row_here","_law_looked_here"]) (k:=4) F λf nd cdv A outer s H E hr ds r hl c=> ?_
 obtain⟨ns,p,L,row,o,hns,hp,S,hrow,h8,hlk,rfl,rfl⟩:=c;have hT:=aDK ns;refine aD<|nP (ds:=([]:List Ch).map chD) 6 (kC (ds:=[]) aE<|bL _) λl6=> ?_;refine aD<|nP (ds:=hJ [row]) 7 (pdL (ds:=[.tup<|bB row])<|aA (pdv 4) aE) λl7=> ?_
 have eT:(8+aFR (aFY<|(ns.length:Int)-8)-8).toNat=chT ns:=by
  unfold aFR aFY chT
  by_cases a:ns.length-8<20
  ·have a':(ns.length:Int)-8<20:=by omega
   rw[if_pos a',if_pos a]
   by_cases b:10<ns.length-8
   ·rw[if_pos (show(ns.length:Int)-8>10 by omega),if_pos b];omega
   ·rw[if_neg (show ¬ (ns.length:Int)-8>10 by omega),if_neg b];rfl
  ·have a':¬ (ns.length:Int)-8<20:=by omega
   rw[if_neg a',if_neg a];decide
 have bnd: -(2^62:Int)<=8+aFR (aFY<|(ns.length:Int)-8)/\8+aFR (aFY<|(ns.length:Int)-8)<2^62:=by
  unfold aFR aFY
  constructor
  ·split<;>(split<;>omega)
  ·split<;>(split<;>omega)
 refine aD<|fO (ds:=dO 8<|chT ns) (λt=>[.val<|.scr ns,.val<|.int 8,.val<|bR p,.val<|lK L,.val (.tup<|bB row),.val<|lkD o,.own l6<|(chN p L o ns row t).1.map chD,.own l7<|hJ (chN p L o ns row t).2,.un,.un,.un,.un,.un]) (λt=>[.val<|.scr ns,.val<|.int 8,.val<|bR p,.val<|lK L,.val (.tup<|bB row),.val<|lkD o,.own l6<|(chN p L o ns row t).1.map chD,.own l7<|hJ (chN p L o ns row t).2,.val (.int<|8+(t:Int)),.un,.un,.un,.un]) (PId.castN (qD (lo:=8) (m:=8+aFR (aFY<|(ns.length:Int)-8)) rfl zrange (pdv 1) (cT cW (pdv 1) (pH rfl zmax aM<|aAp rfl zmin aM (cT iT (tR rfl zlen<|pdv 0)<|pdv 1))) ⟨by decide,by decide⟩ bnd) eT) (Le.refl _) (λt d hd=> ?_) (λt d hd=> ?_) ?_
 ·obtain⟨_,rfl⟩:=dG hd;exact pgN 8
 ·obtain⟨ht,rfl⟩:=dG hd;obtain⟨C,cl⟩:=yM (p:=p) (o:=o) (ns:=ns) S.pos hrow h8 t;have eN:chN p L o ns row (t+1)=if hoQ p L ((chN p L o ns row t).2.getD (chN p L o ns row t).1.length []) (drE (bJ ns<|8+t) L ((chN p L o ns row t).2.getD (chN p L o ns row t).1.length []).length) o then((chN p L o ns row t).1++[drE (bJ ns<|8+t) L ((chN p L o ns row t).2.getD (chN p L o ns row t).1.length []).length],(chN p L o ns row t).2++[wcQ ((chN p L o ns row t).2.getD (chN p L o ns row t).1.length [])<|drE (bJ ns<|8+t) L ((chN p L o ns row t).2.getD (chN p L o ns row t).1.length []).length]) else chN p L o ns row t:=rfl
  rw[eN];generalize chN p L o ns row t=X at C cl;obtain⟨cs,rs⟩:=X;simp only at C cl ⊢;have l1:=C.len;have la:=sS l1;obtain⟨k1,k2⟩:=C.ok (rs.getD cs.length []) (DL.getD_mem<|by omega);generalize hlr:rs.getD cs.length []=lr at la k1 k2 ⊢;have nlr:(bB lr).length=lr.length:=aC _;obtain⟨c1,c2⟩:=tS (bJ ns<|8+t) L lr.length S.pos;refine aD<|dR (d:=chD<|drE (bJ ns<|8+t) L lr.length) 9 (pdc (ds:=[.int (bJ ns<|8+t),lK L,.tup<|bB lr]) GR hr (aA (pdc (ds:=[.scr ns,.int ((8+t:Nat):Int)]) GD hr (aA (pdv 0)<|aA (PEd.ic (pdv 8)<|by push_cast;rfl) aE) ⟨ns,8+t,rfl,by omega,rfl⟩) (aA (pdv 3)<|aA (nA (i:= -1) (gZ 7 rfl<|pv 7) (jJ aM) la λ_ _=>rfl) aE)) ⟨_,p,L,lr,S,rfl,rfl⟩) ?_;generalize drE (bJ ns<|8+t) L lr.length=c at c1 c2 ⊢;refine aP<|dJ (k:=hoQ p L lr c o) (gI<|pdc (ds:=[bR p,lK L,.tup<|bB lr,chD c,lkD o]) (r:=.val (.bl<|hoQ p L lr c o)) GH hr (aA (pdv 2) (aA (pdv 3)<|aA (nA (i:= -1) (gZ 7 rfl<|pv 7) (jJ aM) la λ_ _=>rfl) (aA (pdv 9)<|aA (pdv 5) aE))) ⟨p,L,lr,c,o,hp,S,k1,c1,by omega,by omega,hlk,rfl,rfl⟩) (λh=> ?_) λh=> ?_
  ·rw[h];refine aD<|gJ (d:=chD c) 6 rfl (pv 6) (pdv 9) (by rw[aC];omega) ?_;refine aD<|lF (d:=chD c) (pdv 9) (iH (js:=[10,11,12]) (ds:=[.int (c.1:Int),.int (c.2.1:Int),.tup<|bB c.2.2]) rfl (cF (pgn 10) (cF (pgn 11)<|cF (pgn 12) gH)) rfl rfl) ?_;refine kQ (sd':=[.val<|.scr ns,.val<|.int 8,.val<|bR p,.val<|lK L,.val (.tup<|bB row),.val<|lkD o,.own l6<|cs.map chD++[chD c],.own l7<|hJ rs,.val (.int<|8+(t:Int)),.val<|chD c,.val<|.int (c.1:Int),.val<|.int (c.2.1:Int),.val (.tup<|bB c.2.2)]) (Le.refl _) ?_;refine aP (gJ (d:=.tup (bB<|wcQ lr c)) 7 rfl (pv 7) (PEd.cast (gG (gG (qH (k:=c.1) (nA (i:= -1) (gZ 7 rfl<|pv 7) (jJ aM) la λ_ _=>rfl)<|pdv 10) (pdv 12) ?_) (qQ (k:=c.1+c.2.1) (nA (i:= -1) (gZ 7 rfl<|pv 7) (jJ aM) la λ_ _=>rfl) (PEd.ic (cT cW (pdv 10)<|pdv 11)<|by push_cast;rfl)) ?_) ?_) (by unfold hJ;rw[aC];omega) ?_)
   ·unfold bB;rw[aV,aC,aC];omega
   ·unfold bB;rw[aJ,aV,cO,aC,aC];omega
   ·unfold wcQ bB;rw[bD,bD,fG,fH]
   ·refine⟨.inr rfl,.inr rfl,.inr rfl,.inr rfl,.inr rfl,.inr rfl,.inr ?_,.inr ?_,.inl rfl,.inl rfl,.inl rfl,.inl rfl,.inl rfl,trivial⟩
    ·simp only[if_true,bD];rfl
    ·simp only[if_true];unfold hJ;rw[bD];rfl
  ·rw[h];exact cM ⟨.inr rfl,.inr rfl,.inr rfl,.inr rfl,.inr rfl,.inr rfl,.inr rfl,.inr rfl,.inl rfl,.inl rfl,.inr rfl,.inr rfl,.inr rfl,trivial⟩
 ·rw[dQ];exact kB 6 rfl (kB 7 rfl<|aP (fW<|pdT (ds:=[.lst<|(chN p L o ns row<|chT ns).1.map chD,.lst<|hJ (chN p L o ns row<|chT ns).2]) (aA (pdv 6)<|aA (pdv 7) aE)))
theorem aCu{CC CL CT CI CW CG:BC}(F:FI K mg "_law_refusal" aIn)(zi:mg "isinstance"=none)(xk:aIm K mg CC CL CT CI CW CG)(GG:CalleeE [.none] P w K mg base "gone_through" 8 5 tI/\mJ P w K mg base "gone_through" 8 5 XGo "at" CC):aS P w K mg base "_law_refusal" 9 5 CRf:=by
 refine cC (N:=["_law_size","_law_stock","_law_row_here","_law_changes_here","_law_looked_here","_law_found","error"]) (ps:=["_law_size","_law_stock","_law_row_here","_law_changes_here","_law_looked_here"]) (k:=8) F λf nd cdv A outer s H E hr ds r hl c=> ?_
 obtain⟨i,hx,rfl⟩:=c;have hx':=hx;obtain⟨p,L,o,row,cs,rs,m,bad,rest,_,_,_,_,_,_,_,_,_,_,rfl⟩:=hx';have hu:=uN hr 8;refine aD<|dR (d:=.lst []) 5 (PEd.val (kC (ds:=[]) aE<|bL _)) ?_;refine aD<|aCd (fn:="at") (C:=CC) (i:=i) 6 nd rfl rfl rfl xk.le xk.em (λξ pn F0 tk=> ?_) λa pn=> ?_
 ·exact aP (aBb<|aCm (i:=i) (ds:=[bR p,lK L,tN row,.lst<|(cs.take m).map chD++[eA bad]++rest,lkD o]) GG.2 hr rfl (aA (pdv 0) (aA (pdv 1)<|aA (pdv 2) (aA (pdv 3)<|aA (pdv 4) aE))) hx rfl tk)
 ·refine aD<|dR (d:=.lst [.bl true,.bl true,.bl true]) 5 (PEd.val (pdL (ds:=[.bl true,.bl true,.bl true])<|aA (kO 6 xk.xa.xc rfl zi rfl xk.nc xk.kc rfl<|pv 6) (aA (aAY 6 xk.xa.xc rfl zi rfl xk.ve aEZ xk.kv rfl<|pv 6)<|aA (qB (k:=false) (kO 6 xk.xa.xc rfl zi rfl xk.nt xk.kt rfl<|pv 6)) aE))) ?_;refine aD<|dR (d:=.lst [.bl true,.bl true,.bl true,.bl true,.bl true]) 5 (PEd.val (lB (d1:=[.bl true,.bl true,.bl true]) (d2:=[.bl true,.bl true]) (PEd.bor<|pdv 5) (PEd.bor (PEd.val<|pdL (ds:=[.bl true,.bl true]) (aA (qB (k:=false) (kO 6 xk.xa.xc rfl zi rfl xk.ns xk.ki rfl<|pv 6))<|aA (qB (k:=false) (kO 6 xk.xa.xc rfl zi rfl xk.nw xk.kw rfl<|pv 6)) aE)))<|dH rfl)) ?_;refine aD<|dR (d:=.lst [.bl true,.bl true,.bl true,.bl true,.bl true,.bl true]) 5 (PEd.val (lB (d1:=[.bl true,.bl true,.bl true,.bl true,.bl true]) (d2:=[.bl true]) (PEd.bor<|pdv 5) (PEd.bor<|PEd.val (pdL (ds:=[.bl true])<|aA (qB (k:=false) (kO 6 xk.xa.xc rfl zi rfl xk.tg xk.kg rfl<|pv 6)) aE))<|dH rfl)) ?_;refine aP<|iJ (k:=true) (PTd.cast (aEK (ra:=.val<|.lst [.bl true,.bl true,.bl true,.bl true,.bl true,.bl true]) (rb:=.val<|.lst [.bl true,.bl true,.bl true,.bl true,.bl true,.bl true]) (pdv 5) (PEd.cast (PEd.val (aAy (ds:=[.bl true]) (k:=6) (PEd.bor<|PEd.val (pdL (ds:=[.bl true])<|aA wR aE)) aM (by decide)<|by decide)) rfl) trivial trivial (.inr ⟨rfl,rfl⟩) rfl rfl<|by show(A.deeper<|envOfC "_law_refusal" (aT aIn) s.heap.objs.size f cdv).units+dep (.lst [.bl true,.bl true,.bl true,.bl true,.bl true,.bl true])+1<AX;have:dep (.lst [.bl true,.bl true,.bl true,.bl true,.bl true,.bl true])<=2:=(by decide);omega) rfl) rfl (aP<|dR (d:=.int i) 5 (aGx 6 xk.xa rfl<|pv 6) ?_);exact aP (fW<|pdv 5)
noncomputable def bdC(kind far:Int)(L:List SK)(row:List Nat)(y:Int):Ch:=if kind<10/\0<row.length then((drE y L row.length).1,(drE y L row.length).2.1,bdP far ((row.drop (drE y L row.length).1).take (drE y L row.length).2.1) (drE y L row.length).2.2) else drE y L row.length
theorem aEb{L:List SK}{row:List Nat}(kind far y:Int)(h:RowOk L row)(h0:0<L.length)(hl:row.length<=190):RowOk L (bdC kind far L row y).2.2/\(bdC kind far L row y).2.2.length<=400:=by
 obtain⟨a,b⟩:=tS y L row.length h0;unfold bdC
 split
 ·exact aGF (λt ht=>h t (iC<|iB ht)) a (by rw[aV,cO];omega) b
 ·exact⟨a,by omega⟩
noncomputable def bdL(x:Int)(row:List Nat):List ChZ:=bdS (x / 12 / 840%10^9) (x / 12%840%((row.length+1:Nat):Int)) (row.length:Int)
noncomputable def bdF(ns:List Int)(p:Int×Int)(L:List SK)(row:List Nat)(o:Option (List Nat))(x:Int):Option Nat:=(bC 12).find? λk=> !hoQ p L row (bdC (x%12) (x / 12 / 840%10^9) L row (bJ ns<|30+k)) o
noncomputable def bdQ(ns:List Int)(p:Int×Int)(L:List SK)(row:List Nat)(o:Option (List Nat))(x:Int):ChZ:=if x%12<8 then(bdL x row).getD (x%12).toNat (0,0,[]) else match bdF ns p L row o x with
 |some k=>zCh<|bdC (x%12) (x / 12 / 840%10^9) L row (bJ ns<|30+k)
 |none=>(bdL x row).getD (x / 12 / 840%10^9%8).toNat (0,0,[])
theorem aIq{ns:List Int}{p:Int×Int}{L:List SK}{row:List Nat}{o:Option (List Nat)}(x:Int)(h:RowOk L row)(h0:0<L.length)(hl:row.length<=190):wO p L row (bdQ ns p L row o x) o=false/\RowOk L (bdQ ns p L row o x).2.2/\(bdQ ns p L row o x).2.2.length<=400:=by
 have f0:=aK (x / 12 / 840) (show(10^9:Int)≠0 by decide);have p0:=aK (x / 12%840) (show((row.length+1:Nat):Int)≠0 by omega);have k0:=aK x (show(12:Int)≠0 by decide)
 have sm:∀i,i<8->wO p L row ((bdL x row).getD i (0,0,[])) o=false/\RowOk L ((bdL x row).getD i (0,0,[])).2.2/\((bdL x row).getD i (0,0,[])).2.2.length<=400:=λi hi=>by obtain⟨q1,q2⟩:=aFG (row:=row) f0 p0 _ (tY hi).1;unfold wO bdL;rw[q1,q2];exact⟨rfl,(λt ht=>by cases ht),bL _⟩
 unfold bdQ
 split
 ·exact sm _<|by omega
 ·cases hf:bdF ns p L row o x with
  |none=>exact sm _<|by omega
  |some k=>have:=List.find?_some hf;exact⟨by rw[xX];simpa using this,aEb _ _ _ h h0 hl⟩
def CBd:List D->R->Prop:=λds r=>∃ns p L row o,p∈cI/\hX p L/\RowOk L row/\row.length<=190/\qN p o/\ds=[.scr ns,bR p,.lst<|L.map skD,.tup<|bB row,lkD o]/\r=.val (eA (bdQ ns p L row o<|bJ ns 28))
set_option maxHeartbeats 1000000 in
theorem aCS(F:FI K mg "_law_bad" aJy)(zlen:mg "len"=none)(zrange:mg "range"=none)(GD:aS P w K mg base "_law_draw" 1 2 qW)(GG:aS P w K mg base "_law_digits" 1 2 mV)(GR:aS P w K mg base "_law_drawn" 3 3 aIb)(GH:aS P w K mg base "_law_holds" 4 5 aIj):aS P w K mg base "_law_bad" 5 5 CBd:=by
 refine cC (N:=["_law_script","_law_size","_law_stock","_law_row_here","_law_looked_here","_law_kind","_law_place","_law_far","_law_long","_law_some","_law_k","_law_change","_law_there"]) (ps:=["_law_script","_law_size","_law_stock","_law_row_here","_law_looked_here"]) (k:=4) F λf nd cdv A outer s H E hr ds r hl c=> ?_
 obtain⟨ns,p,L,row,o,hp,S,hrow,h190,hlk,rfl,rfl⟩:=c;have nrl:(bB row).length=row.length:=aC _
 refine aD (lF (d:= .lst ((lI (bJ ns 28) [12,840,10^9]).map D.int)) (PEd.val (pdc (ds:=[.int (bJ ns 28), .lst ([12,840,10^9].map D.int)]) GG hr (aA (pdc (ds:=[.scr ns, .int ((28:Nat):Int)]) GD hr (aA (pdv 0) (aA aM aE)) ⟨ns,28,rfl,by decide,rfl⟩) (aA (PEd.val (pdL (ds:=[.int 12, .int 840, .int (10^9)]) (aA aM (aA aM (aA (PEd.ic (aZ tT (i:=10) (j:=9) aM aM ⟨by decide,by decide,by decide⟩) (show (10:Int)^(9:Int).toNat=(10:Int)^(9:Nat) from rfl)) aE))))) aE)) ⟨_,[12,840,10^9],rfl,by decide,by decide,rfl⟩))
  (tZ (js:=[5,6,7]) rfl (cF (pgn 5) (cF (pgn 6) (cF (pgn 7) gH))) rfl rfl) ?_)
 generalize bJ ns 28=x;have f0:=aK (x / 12 / 840) (show(10^9:Int)≠0 by decide);have k0:=aK x (show(12:Int)≠0 by decide);have k1:=aQ x (show(0:Int)<12 by decide);refine kQ (sd':=[.val<|.scr ns,.val<|bR p,.val<|lK L,.val (.tup<|bB row),.val<|lkD o,.val (.int<|x%12),.val (.int<|x / 12%840),.val (.int<|x / 12 / 840%10^9),.un,.un,.un,.un,.un]) (Le.refl _) ?_;refine aD<|dR (d:=.int (row.length:Int)) 8 (PEd.ic (jF rfl zlen<|pdv 3)<|by rw[nrl]) ?_;refine aD<|dR (d:=.int<|x / 12%840%((row.length+1:Nat):Int)) 6 (aZ cJ (pdv 6) (PEd.ic (cT cW (pdv 8) aM)<|by push_cast;rfl)<|by omega) ?_;have eS:bdL x row=bdS (x / 12 / 840%10^9) (x / 12%840%((row.length+1:Nat):Int)) (row.length:Int):=rfl;have eQ:bdQ ns p L row o x=if x%12<8 then(bdL x row).getD (x%12).toNat (0,0,[]) else match bdF ns p L row o x with|some k=>zCh (bdC (x%12) (x / 12 / 840%10^9) L row (bJ ns<|30+k))|none=>(bdL x row).getD (x / 12 / 840%10^9%8).toNat (0,0,[]):=rfl
 have eF:bdF ns p L row o x=(bC 12).find? λk=> !hoQ p L row (bdC (x%12) (x / 12 / 840%10^9) L row (bJ ns<|30+k)) o:=rfl
 rw[eQ];rw[eS];rw[eF];clear eS eQ eF;generalize x / 12 / 840%10^9=far at f0;generalize x / 12%840%((row.length+1:Nat):Int)=pl;generalize x%12=kind at k0 k1;refine aD<|dR (d:=.lst<|((bdS far pl (row.length:Int)).take 5).map eA) 9 (PEd.val (pdL (ds:=[.tup [.int (-1-far%3),.int 1,.tup []],.tup [.int (row.length:Int),.int 1,.tup []],.tup [.int<|(row.length:Int)+1+far,.int 2,.tup []],.tup [.int pl,.int 0,.tup []],.tup [.int pl,.int (-1-far%5),.tup []]])<|aA (pdT (ds:=[.int (-1-far%3),.int 1,.tup []])<|aA (cT iT (jJ aM) (aZ cJ (pdv 7) aM<|by decide)) (aA aM<|aA (gY (ds:=[]) aE<|bL _) aE)) (aA (pdT (ds:=[.int (row.length:Int),.int 1,.tup []])<|aA (pdv 8) (aA aM<|aA (gY (ds:=[]) aE<|bL _) aE))<|aA (pdT (ds:=[.int<|(row.length:Int)+1+far,.int 2,.tup []])<|aA (cT cW (cT cW (pdv 8) aM)<|pdv 7) (aA aM<|aA (gY (ds:=[]) aE<|bL _) aE)) (aA (pdT (ds:=[.int pl,.int 0,.tup []])<|aA (pdv 6) (aA aM<|aA (gY (ds:=[]) aE<|bL _) aE))<|aA (pdT (ds:=[.int pl,.int (-1-far%5),.tup []])<|aA (pdv 6) (aA (cT iT (jJ aM) (aZ cJ (pdv 7) aM<|by decide))<|aA (gY (ds:=[]) aE<|bL _) aE)) aE)))) ?_;refine aD<|dR (d:=.lst<|(bdS far pl (row.length:Int)).map eA) 9 (PEd.val (lB (d1:=((bdS far pl (row.length:Int)).take 5).map eA) (d2:=[.tup [.int pl,.int<|(row.length:Int)-pl+1+far%2,.tup []],.tup [.int (-(row.length:Int)),.int (row.length:Int),.tup []],.tup [.int (-1),.int 2,.tup []]]) (PEd.bor<|pdv 9) (PEd.bor<|PEd.val (pdL (ds:=[.tup [.int pl,.int<|(row.length:Int)-pl+1+far%2,.tup []],.tup [.int (-(row.length:Int)),.int (row.length:Int),.tup []],.tup [.int (-1),.int 2,.tup []]])<|aA (pdT (ds:=[.int pl,.int<|(row.length:Int)-pl+1+far%2,.tup []])<|aA (pdv 6) (aA (cT cW (cT cW (cT iT (pdv 8)<|pdv 6) aM) (aZ cJ (pdv 7) aM<|by decide))<|aA (gY (ds:=[]) aE<|bL _) aE)) (aA (pdT (ds:=[.int (-(row.length:Int)),.int (row.length:Int),.tup []])<|aA (jJ<|pdv 8) (aA (pdv 8)<|aA (gY (ds:=[]) aE<|bL _) aE))<|aA (pdT (ds:=[.int (-1),.int 2,.tup []])<|aA (jJ aM) (aA aM<|aA (gY (ds:=[]) aE<|bL _) aE)) aE)))<|dH rfl)) ?_;refine aD<|dJ (iO (g:=λi j=>decide<|i<j) pT (pdv 5) aM<|eD _) (λh=> ?_) λh=>cM ?_
 ·have h8:=of_decide_eq_true h;rw[if_pos h8];exact aP (fW<|fA (i:=kind) (PEd.bor<|pdv 9) (pdv 5) k0 (tY<|by omega).2 λ_ _=>rfl)
 have h8:=of_decide_eq_false h;rw[if_neg h8];refine aD<|kR (ds:=dO 30 12) (λt sd=>(∀j,j<t->(!hoQ p L row (bdC kind far L row (bJ ns<|30+j)) o)=false)/\sd=[.val<|.scr ns,.val<|bR p,.val<|lK L,.val (.tup<|bB row),.val<|lkD o,.val<|.int kind,.val<|.int pl,.val<|.int far,.val<|.int (row.length:Int),.val (.lst<|(bdS far pl (row.length:Int)).map eA),.un,.un,.un]) (qD (lo:=30) (m:=42) rfl zrange aM aM ⟨by decide,by decide⟩ ⟨by decide,by decide⟩) ⟨_,Le.refl _,λj hj=>absurd hj<|aHE _,rfl⟩ (λt d sdt hd ht=> ?_) λsdn hn=> ?_
 ·obtain⟨hn,rfl⟩:=ht;obtain⟨ht,rfl⟩:=dG hd;refine⟨_,pgN 10, ?_⟩;obtain⟨bok,bl⟩:=aEb (far:=far) (kind:=kind) (y:=bJ ns<|30+t) hrow S.pos h190;refine aD<|dR (d:=chD<|drE (bJ ns<|30+t) L row.length) 11 (pdc (ds:=[.int (bJ ns<|30+t),lK L,.tup<|bB row]) GR hr (aA (pdc (ds:=[.scr ns,.int ((30+t:Nat):Int)]) GD hr (aA (pdv 0)<|aA (PEd.ic (pdv 10)<|by push_cast;rfl) aE) ⟨ns,30+t,rfl,by omega,rfl⟩) (aA (pdv 2)<|aA (pdv 3) aE)) ⟨_,p,L,row,S,rfl,rfl⟩) ?_;have eC:bdC kind far L row (bJ ns<|30+t)=if kind<10/\0<row.length then((drE (bJ ns<|30+t) L row.length).1,(drE (bJ ns<|30+t) L row.length).2.1,bdP far ((row.drop (drE (bJ ns<|30+t) L row.length).1).take (drE (bJ ns<|30+t) L row.length).2.1) (drE (bJ ns<|30+t) L row.length).2.2) else drE (bJ ns<|30+t) L row.length:=rfl
  obtain⟨_,d9⟩:=tS (bJ ns<|30+t) L row.length S.pos
  have fnd:∀ (b:Bool),(!hoQ p L row (bdC kind far L row (bJ ns<|30+t)) o)=b->b=true->(bC 12).find? (λk=> !hoQ p L row (bdC kind far L row (bJ ns<|30+k)) o)=some t:=λb e hb=>by rw[vH];exact⟨by rw[e,hb],cR.mpr ht,λj hj=>by rw[hn j hj];rfl⟩
  generalize hcc:bdC kind far L row (bJ ns<|30+t)=cc at eC bok bl fnd;generalize drE (bJ ns<|30+t) L row.length=c at eC d9;refine aJa (K:=PSd _ [.val<|.scr ns,.val<|bR p,.val<|lK L,.val (.tup<|bB row),.val<|lkD o,.val<|.int kind,.val<|.int pl,.val<|.int far,.val<|.int (row.length:Int),.val (.lst<|(bdS far pl (row.length:Int)).map eA),.val (.int<|30+(t:Int)),.val<|chD cc,.un] _ _) (λkey=>aD (dJ (k:=decide (kind<10)&&decide (0<(row.length:Int))) (PWd.pt<|tX (k:=decide<|kind<10) (j:=decide<|0<(row.length:Int)) (iO (g:=λi j=>decide<|i<j) pT (pdv 5) aM<|eD _) λ_=>xR (iO (g:=λi j=>decide<|j<i) aEq (pdv 8) aM<|eD _)) (λh=> ?_) λh=>cM<|kQ (sd':=[.val<|.scr ns,.val<|bR p,.val<|lK L,.val (.tup<|bB row),.val<|lkD o,.val<|.int kind,.val<|.int pl,.val<|.int far,.val<|.int (row.length:Int),.val (.lst<|(bdS far pl (row.length:Int)).map eA),.val (.int<|30+(t:Int)),.val<|chD cc,.un]) ⟨.inr rfl,.inr rfl,.inr rfl,.inr rfl,.inr rfl,.inr rfl,.inr rfl,.inr rfl,.inr rfl,.inr rfl,.inr rfl,.inr (by rw[eC,if_neg λz=>by rw[decide_eq_true z.1,decide_eq_true (show(0:Int)<(row.length:Int) by omega)] at h;cases h]),.inr rfl,trivial⟩ key)) ?_
  ·rw[aW] at h;have hk:=of_decide_eq_true h.1;have hl0:=of_decide_eq_true h.2;rw[if_pos ⟨hk,by omega⟩] at eC;have cx:∀ {X:Cx}{sd:List Slot}{a:Expr}{n0:Nat}{p1 p2:Pos},PEd X sd a (.val<|chD c)->PEd X sd (.Subscript a (.Constant (.int 0) n0 p1) p2) (.val<|.int (c.1:Int)):=λha=>pdx (n:=0) (ds:=[.int (c.1:Int),.int (c.2.1:Int),.tup<|bB c.2.2]) ha
   have cy:∀ {X:Cx}{sd:List Slot}{a:Expr}{n0:Nat}{p1 p2:Pos},PEd X sd a (.val<|chD c)->PEd X sd (.Subscript a (.Constant (.int 1) n0 p1) p2) (.val<|.int (c.2.1:Int)):=λha=>pdx (n:=1) (ds:=[.int (c.1:Int),.int (c.2.1:Int),.tup<|bB c.2.2]) ha
   generalize hth:(row.drop c.1).take c.2.1=th at eC;have lth:(bB th).length<=190:=by unfold bB;rw[aC,<-hth,aV,cO];omega
   have lpc:(bB c.2.2).length<=9:=by unfold bB;rw[aC];exact d9
   refine aD<|dR (d:=.tup<|bB th) 12 (PEd.cast (tH (i:=c.1) (j:=c.1+c.2.1) (pdv 3) (cx<|pdv 11) (PEd.ic (cT cW (cx<|pdv 11) (cy<|pdv 11))<|by push_cast;rfl))<|by rw[kM,<-hth];unfold bB;rw[fG,fH]) ?_;refine aP<|dR (d:=chD cc) 11 (PEd.cast (pdT (ds:=[.int (c.1:Int),.int (c.2.1:Int),.tup (bB<|bdP far th c.2.2)])<|aA (cx<|pdv 11) (aA (cy<|pdv 11)<|aA (fA (i:=far%4) (PEd.bor (PEd.val<|pdL (ds:=[.tup<|bB th,.tup<|bB th++bB th,.tup (bB th).reverse,.tup<|bB c.2.2++bB th]) (aA (pdv 12)<|aA (gG (pdv 12) (pdv 12)<|by omega) (aA (aFn (pdv 12)<|jJ aM)<|aA (gG (pdx (n:=2) (ds:=[.int (c.1:Int),.int (c.2.1:Int),.tup<|bB c.2.2])<|pdv 11) (pdv 12)<|by omega) aE)))) (aZ cJ (pdv 7) aM<|by decide) (aK _<|by decide) (aFq far th c.2.2) λ_ _=>rfl) aE))<|by rw[eC];rfl) ?_;exact kQ (sd':=[.val<|.scr ns,.val<|bR p,.val<|lK L,.val (.tup<|bB row),.val<|lkD o,.val<|.int kind,.val<|.int pl,.val<|.int far,.val<|.int (row.length:Int),.val (.lst<|(bdS far pl (row.length:Int)).map eA),.val (.int<|30+(t:Int)),.val<|chD cc,.un]) ⟨.inr rfl,.inr rfl,.inr rfl,.inr rfl,.inr rfl,.inr rfl,.inr rfl,.inr rfl,.inr rfl,.inr rfl,.inr rfl,.inr rfl,.inl rfl,trivial⟩ key
  ·refine aP (dJ (k:= !hoQ p L row cc o) (iK (k:=hoQ p L row cc o) (gI<|pdc (ds:=[bR p,lK L,.tup<|bB row,chD cc,lkD o]) (r:=.val (.bl<|hoQ p L row cc o)) GH hr (aA (pdv 1) (aA (pdv 2)<|aA (pdv 3) (aA (pdv 11)<|aA (pdv 4) aE))) ⟨p,L,row,cc,o,hp,S,hrow,bok,by omega,bl,hlk,rfl,rfl⟩)) (λh=> ?_) λh=>cM ?_)
   ·rw[fnd _ rfl h];exact aP<|cV (PEd.cast (pdv 11)<|by rw[<-hcc];rfl) trivial rfl
   ·refine⟨[.val<|.scr ns,.val<|bR p,.val<|lK L,.val (.tup<|bB row),.val<|lkD o,.val<|.int kind,.val<|.int pl,.val<|.int far,.val<|.int (row.length:Int),.val (.lst<|(bdS far pl (row.length:Int)).map eA),.un,.un,.un],⟨.inr rfl,.inr rfl,.inr rfl,.inr rfl,.inr rfl,.inr rfl,.inr rfl,.inr rfl,.inr rfl,.inr rfl,.inl rfl,.inl rfl,.inl rfl,trivial⟩,λj hj=> ?_,rfl⟩
    by_cases e:j<t
    ·exact hn j e
    ·have:j=t:=by omega
     subst this;rw[hcc];exact h
 ·obtain⟨hn,rfl⟩:=hn;rw[dQ] at hn;rw[nO.mpr λk hk=>by rw[hn k<|cR.mp hk];simp];exact aP (fW<|fA (i:=far%8) (PEd.bor<|pdv 9) (aZ cJ (pdv 7) aM<|by decide) (aK _<|by decide) (tY<|by omega).2 λ_ _=>rfl)
theorem aEu(cs:List Ch)(m:Nat):DL.cutD (cs.map chD) none (some (m:Int))=(cs.take m).map chD:=by unfold DL.cutD;have h1:HT.sIx (cs.map chD).length 0 none=0:=rfl;rw[h1,HT.sIx_nat,fG,lQ,aJH,zW];omega
abbrev nl18:List Str:=["_law_script","_law_size","_law_stock","_law_row_here","_law_looked_here","_law_changes_here","_law_rows","_law_cut","_law_bad_here","_law_spoiled","_law_handed","_law_found"]
set_option maxHeartbeats 1000000 in
theorem aHj{CC CL CT CI CW CG fI:BC}{fdI:AK}(F:Fun K "law" "law" uF f fd)(zlist:mg "list"=none)(zlen:mg "len"=none)(zisinstance:mg "isinstance"=none)(zbool:mg "bool"=none)(xm:aHZ K mg CC CL fI)(xk:aIm K mg CC CL CT CI CW CG)(FI:Fun K "__init__" "NoChange.__init__" vK fI fdI)(GD:aS P w K mg base "_law_draw" 1 2 qW)(GM:aS P w K mg base "_law_small" 1 1 aJo)(GF:aS P w K mg base "_law_few" 3 4 aGp)(GR:aS P w K mg base "_law_row" 2 3 aIf)(GK:aS P w K mg base "_law_looked" 1 2 aJx)(GC:aS P w K mg base "_law_changes" 5 6 aJC)(GB:aS P w K mg base "_law_bad" 5 5 CBd)(GF2:aS P w K mg base "_law_refusal" 9 5 CRf)(GI:aS P w K mg base "_law_is_row" 1 2 aAt)(GT:CalleeE [.none] P w K mg base "gone_through" 8 5 tI/\mJ P w K mg base "gone_through" 8 5 XGo "at" CC):FnOk P w K mg base CX0 10 f fd ["_law_script"] (spC K 1 aHI):=by
 have nd:nl18.Nodup:=by decide+kernel
 refine aDV (N:=nl18) (ps:=["_law_script"]) (k:=9) F ⟨rfl,rfl,rfl,nd,rfl,by decide+kernel,by decide+kernel⟩ λcdv A outer s H E hr ds r hl c=> ?_
 obtain⟨ns,rfl,hns,rfl⟩:=c;have hr2:=hr.mono (show 2<=9 by decide);have hr8:=hr.mono (show 8<=9 by decide);have hu:=uN hr 6;have draw:∀ {sd:List Slot}{p1 p2 p3 p4:Pos}{j1:Nat} (k:Nat),k<=1000->sd[0]? =some (.val<|.scr ns)->PEd (kA CX0 P w K mg base nl18 "law" (aT uF) f cdv A outer s H E).nox sd (.Call (.Name "_law_draw" p1) [.Name "_law_script" p2, .Constant (.int (k:Int)) j1 p3] [] p4) (.val (.int<|bJ ns k)):=λk hk hs=>pdc (ds:=[.scr ns,.int (k:Int)]) GD hr (aA (aDr 0 hs<|pv 0)<|aA aM aE) ⟨ns,k,rfl,hk,rfl⟩
 refine aD<|dR (d:=bR (smE<|bJ ns 0)) 1 (pdc (ds:=[.int<|bJ ns 0]) GM hr (aA (draw 0 (by decide) rfl) aE) ⟨_,rfl,rfl⟩) ?_;have hp:=aEE<|bJ ns 0;generalize smE (bJ ns 0)=p at hp;refine aD<|nP (ds:=(fwN p ns<|fwT ns).map skD) 2 (pdc (ds:=[.scr ns,.int 1,bR p,.int 3]) GF hr (aA (pdv 0)<|aA aM (aA (pdv 1)<|aA aM aE)) ⟨ns,p,hp,rfl,rfl⟩) λl2=>kB 2 rfl ?_;have S:=aIQ hp ns;generalize fwN p ns (fwT ns)=L at S;refine aD<|dR (d:=tN<|rwE (bJ ns 5) L.length 8) 3 (pdc (ds:=[.int<|bJ ns 5,lK L,.int ((8:Nat):Int)]) GR hr2 (aA (draw 5 (by decide) rfl) (aA (pdv 2)<|aA aM aE)) ⟨_,L,8,S.pos,by decide,rfl,rfl⟩) ?_;obtain⟨hrow,h8⟩:=aDJ (bJ ns 5) 8 S.pos;generalize rwE (bJ ns 5) L.length 8=row at hrow h8;refine aD<|dR (d:=lkD<|lkE (bJ ns 6) p.2.toNat) 4 (pdc (ds:=[.int<|bJ ns 6,bR p]) GK hr (aA (draw 6 (by decide) rfl)<|aA (pdv 1) aE) ⟨_,p,hp,rfl,rfl⟩) ?_;have hlk:=aGE hp<|bJ ns 6;generalize lkE (bJ ns 6) p.2.toNat=o at hlk;refine aD<|lF (d:=.tup [.lst<|(chN p L o ns row<|chT ns).1.map chD,.lst<|hJ (chN p L o ns row<|chT ns).2]) (pdc (ds:=[.scr ns,.int 8,bR p,lK L,tN row,lkD o]) GC hr (aA (pdv 0)<|aA aM (aA (pdv 1)<|aA (pdv 2) (aA (pdv 3)<|aA (pdv 4) aE))) ⟨ns,p,L,row,o,hns,hp,S,hrow,h8,hlk,rfl,rfl⟩) (iH (js:=[5,6]) rfl (cF (pgn 5)<|cF (pgn 6) gH) rfl rfl) ?_;obtain⟨C,cl⟩:=yM (p:=p) (o:=o) (ns:=ns) S.pos hrow h8<|chT ns;have tl:=aDK ns;generalize chN p L o ns row (chT ns)=Y at C cl;obtain⟨cs,rs⟩:=Y;simp only at C cl;have l1:=C.len;have c30:cs.length<=30:=by omega
 have rl9:∀i,i<rs.length->(rs.getD i []).length<=900:=λi hi=>by have:=(C.ok (rs.getD i [])<|DL.getD_mem hi).2;omega
 have n0:(0:Int)<(rs.length:Int):=by omega
 have q0:=aK (bJ ns 7)<|eG n0;have q1:=aQ (bJ ns 7) n0;obtain⟨m,hm⟩:∃m:Nat,bJ ns 7%(rs.length:Int)=(m:Int):=⟨(bJ ns 7%(rs.length:Int)).toNat,by omega⟩;have ml:m<=cs.length:=by omega
 have la:=sS l1;have tk:cs.take cs.length=cs:=eI;refine kQ (sd':=[.val<|.scr ns,.val<|bR p,.val<|lK L,.val<|tN row,.val<|lkD o,.val (.lst<|cs.map chD),.val (.lst<|hJ rs),.un,.un,.un,.un,.un]) (Le.refl _) ?_;refine aD<|dR (d:=.int (m:Int)) 7 (PEd.ic (aZ cJ (draw 7 (by decide) rfl) (PEd.ic (nD rfl zlen (PEd.bor<|pdv 6))<|by unfold hJ;rw[aC]) n0) hm) ?_;obtain⟨rok,rl⟩:=C.ok (rs.getD m []) (DL.getD_mem<|by omega);have r190:(rs.getD m []).length<=190:=by omega
 obtain⟨b1,b2,b3⟩:=aIq (ns:=ns) (p:=p) (o:=o) (bJ ns 28) rok S.pos r190;refine aD<|dR (d:=eA (bdQ ns p L (rs.getD m []) o<|bJ ns 28)) 8 (pdc (ds:=[.scr ns,bR p,lK L,tN<|rs.getD m [],lkD o]) GB hr (aA (pdv 0) (aA (pdv 1)<|aA (pdv 2) (aA (kG (n:=m) (PEd.bor<|pdv 6) (pdv 7) (aAA<|by omega) λ_ _=>rfl)<|aA (pdv 4) aE))) ⟨ns,p,L,_,o,hp,S,rok,r190,hlk,rfl,rfl⟩) ?_;generalize bdQ ns p L (rs.getD m []) o (bJ ns 28)=bad at b1 b2 b3;have ls1:((cs.take m).map chD).length<=20:=by rw[aC,aV];omega
 have ls2:((cs.drop m).map chD).length<=20:=by rw[aC,cO];omega
 have ed:DL.cutD (cs.map chD) (some (m:Int)) none=(cs.drop m).map chD:=by unfold DL.cutD;rw[HT.sIx_none,HT.sIx_nat,aC,jB ml,fH,eB<|by simp]
 refine aD<|dR (d:=.lst<|(cs.take m).map chD++[eA bad]++((cs.drop m).map chD++[eA (0,0,[])])) 9 (PEd.val (PEd.cast (lB (d1:=(cs.take m).map chD++[eA bad]++(cs.drop m).map chD) (d2:=[eA (0,0,[])]) (PEd.bor<|PEd.val (lB (d1:=(cs.take m).map chD++[eA bad]) (d2:=(cs.drop m).map chD) (PEd.bor<|PEd.val (lB (d1:=(cs.take m).map chD) (d2:=[eA bad]) (PEd.bor<|PEd.val (PEd.cast (uE (ol:=none) (oh:=some (m:Int)) (PEd.bor<|pdv 5) trivial<|pdv 7)<|by rw[aEu])) (PEd.bor<|PEd.val (pdL (ds:=[eA bad])<|aA (pdv 8) aE))<|by show _+1<=10000;omega)) (PEd.bor<|PEd.val (PEd.cast (uE (ol:=some (m:Int)) (oh:=none) (PEd.bor<|pdv 5) (pdv 7) trivial)<|by rw[ed]))<|by rw[aJ];show _+1+_<=10000;omega)) (PEd.bor<|PEd.val (pdL (ds:=[eA (0,0,[])])<|aA (pdT (ds:=[.int 0,.int 0,.tup []])<|aA aM (aA aM<|aA (gY (ds:=[]) aE<|bL _) aE)) aE))<|by rw[aJ,aJ];show _+1+_+1<=10000;omega)<|by simp only[fN])) ?_;generalize hrest:(cs.drop m).map chD++[eA (0,0,[])]=rest
 have plZ:∀c:ChZ,pl (eA c)=true:=λc=>by show(true&&(true&&(pl (tN c.2.2)&&true)))=true;rw[oU];rfl
 have dpZ:∀c:ChZ,dep (eA c)<=2:=λc=>by show max 0 (max 0<|max (dep<|tN c.2.2) 0)+1<=2;rw[vQ];decide
 have plS:pl (.lst<|(cs.take m).map chD++[eA bad]++rest)=true:=by
  have e:(cs.take m).map chD++[eA bad]++rest=((cs.take m).map zCh++[bad]++((cs.drop m).map zCh++[(0,0,[])])).map eA:=by rw[<-hrest];simp only[bD,bU];rfl
  rw[e];exact uH eA plZ _
 have dpS:dep (.lst<|(cs.take m).map chD++[eA bad]++rest)<=3:=by
  have e:(cs.take m).map chD++[eA bad]++rest=((cs.take m).map zCh++[bad]++((cs.drop m).map zCh++[(0,0,[])])).map eA:=by rw[<-hrest];simp only[bD,bU];rfl
  rw[e];exact Nat.succ_le_succ<|rD eA 2 dpZ _
 have ecut:DL.cutD ((cs.take m).map chD++[eA bad]++rest) none (some (m:Int))=(cs.take m).map chD:=by
  unfold DL.cutD;have h1:HT.sIx ((cs.take m).map chD++[eA bad]++rest).length 0 none=0:=rfl;have hl:((cs.take m).map chD).length=m:=by rw[aC,aV];omega
  rw[h1,HT.sIx_nat,lQ,aJH,fN,jB<|by rw[aJ,hl];omega];rw[List.take_append_of_le_length (by rw[hl];exact aR _),eB<|by rw[hl];exact aR _]
 have hxg:XGo (m:Int) [bR p,lK L,tN row,.lst<|(cs.take m).map chD++[eA bad]++rest,lkD o]:=⟨p,L,o,row,cs,rs,m,bad,rest,hp,S,hlk,C,c30,ml,b2,b3,b1,rfl,rfl⟩;clear hrest b1 b2 b3;refine aD<|dR (d:=.lst<|(cs.take m).map chD++[eA bad]++rest) 10 (PEd.val<|wY rfl zlist (PEd.bor<|pdv 9)) ?_;refine aD<|dR (d:=.int (m:Int)) 11 (pdc (ds:=[bR p,lK L,tN row,.lst<|(cs.take m).map chD++[eA bad]++rest,lkD o]) GF2 hr (aA (pdv 1) (aA (pdv 2)<|aA (pdv 3) (aA (pdv 10)<|aA (pdv 4) aE))) ⟨_,hxg,rfl⟩) ?_;generalize hsp:(cs.take m).map chD++[eA bad]++rest=sp at plS dpS ecut;refine yF (PWd.pt<|lU (k:=false) (j:=false) (gI (nE rfl zisinstance rfl zbool PyProof.Rows.boot_bool (pdv 11) (λ_=>by simp)<|rF _ _)) λ_=>lU (k:=false) (j:=false) (PTd.cast (aAM (pdv 11)<|pdv 7)<|by simp) λ_=>pG (PTd.cast (tK (ra:=.val<|.lst sp) (rb:=.val<|.lst sp) (pdv 10) (pdv 9) trivial trivial (.inr ⟨rfl,rfl⟩) plS plS (aHN hu<|by show dep (.lst sp)+1<=6;omega))<|by show(!deq (.lst sp) (.lst sp))=false;rw[mX _ plS];rfl)) ?_;refine yF (iK (k:=true) (gI<|pdc (ds:=[tN<|rs.getD m [],tN<|rs.getD m []]) (r:=.val<|.bl true) GI hr (aA (pdc (ds:=[bR p,lK L,tN row,.lst<|(cs.take m).map chD,lkD o]) GT.1.full hr8 (aA (pdv 1) (aA (pdv 2)<|aA (pdv 3) (aA (PEd.val (PEd.cast (uE (ol:=none) (oh:=some (m:Int)) (PEd.bor<|pdv 10) trivial<|pdv 7)<|by rw[ecut]))<|aA (pdv 4) aE))) ⟨p,L,o,row,cs,rs,m,hp,S,hlk,C,c30,ml,rfl,rfl⟩)<|aA (kG (n:=m) (PEd.bor<|pdv 6) (pdv 7) (aAA<|by omega) λ_ _=>rfl) aE) ⟨_,rl9 _<|by omega,rfl,rfl⟩)) ?_;refine aD<|dR (d:=tN<|rs.getD cs.length []) 11 (pdc (ds:=[bR p,lK L,tN row,.lst<|(cs.take cs.length).map chD,lkD o]) GT.1.full hr8 (aA (pdv 1) (aA (pdv 2)<|aA (pdv 3) (aA (PEd.cast (pdv 5)<|by rw[tk])<|aA (pdv 4) aE))) ⟨p,L,o,row,cs,rs,cs.length,hp,S,hlk,C,c30,aR _,rfl,rfl⟩) ?_;have bI:=FI.binds (ps:=nl6) λ_ _ _ _ _ _ us hl=>match us,hl with | [_,_],_=>rfl
 refine yF (PTd.cast (aAM (aGW xk.xa<|vZ xm.xi xm.kp xm.ty (xV FI xm.xi) bI hr2 rfl xm.mc (cT cW (pdv 7) aM) ⟨by omega,by omega⟩)<|cT cW (pdv 7) aM)<|by simp) ?_;exact aP<|cV (PEd.cast (qE (k:=true) (j:=true) (pdc (ds:=[tN<|rs.getD cs.length [],tN<|rs.getD cs.length []]) (r:=.val<|.bl true) GI hr (aA (pdv 11)<|aA (nA (i:= -1) (PEd.bor<|pdv 6) (jJ aM) la λ_ _=>rfl) aE) ⟨_,rl9 _<|by omega,rfl,rfl⟩) λ_=>uM (PEd.cast (aDE (ra:=.val<|.lst sp) (rb:=.val<|.lst sp) (pdv 10) (pdv 9) trivial trivial (.inr ⟨rfl,rfl⟩) plS plS (aHN hu<|by show dep (.lst sp)+1<=6;omega))<|by show R.val (.bl (deq (.lst sp)<|.lst sp))=_;rw[mX _ plS])) rfl) trivial rfl
end
theorem wM{t1 t2 t3:Tok}:Vals [V.str "not",V.str "up",V.str "down"] (#[Value.str "not" t1,Value.str "up" t2,Value.str "down" t3]:Array BA).toList:=.cons ⟨_,rfl⟩ (.cons ⟨_,rfl⟩<|.cons ⟨_,rfl⟩ .nil)
theorem all_mk{P:AG}{w:AI}{K:aB}{h:BE}{mg:Str->Option BA}{fa:BC}(X:K.In h)(G:h.Ns AJ mg)(hfa:mg "law"=some (.ref fa))
  {odL anL:Option BC}{slL:Array (Option BA)}{ocL kVL dcL pmL cdL ctL:BA}{fL:BC}{fBY:BC}{dB:Option BC}{t1 t2 t3:Tok}{nB:Nat}{sB:Array (Option BA)}{CC CL CT CI CW CG fNI:BC}{cdy:ClassData}{odN anN:Option BC}{slN:Array (Option BA)}{ocN kVN dcN pmN cdN ctN:BA}
   (aL:dD K AJ "law"=some (some<|.ref fL)) (lL:K.lookup fL=some ⟨ocL,odL,.func<|bW "law" "law" (dN uF) (cQ uF) (aT uF) .none kVL dcL pmL anL cdL ctL,slL⟩) (cL:dL K cdL "law"=true) (kL:bZ K (.ref fL)=true) (zisinstance:mg "isinstance"=none) (zint:mg "int"=none) (zbool:mg "bool"=none) (zrange:mg "range"=none) (zall:mg "all"=none) (zlen:mg "len"=none) (zsum:mg "sum"=none) (ztuple:mg "tuple"=none) (zlist:mg "list"=none) (zenumerate:mg "enumerate"=none) (zmax:mg "max"=none) (zmin:mg "min"=none) (aBY:dD K AJ "BY_ITSELF"=some (some<|.ref fBY)) (lBY:K.lookup fBY=some ⟨.type "tuple",dB,.seq #[.str "not" t1,.str "up" t2,.str "down" t3] nB,sB⟩) (aCC:dD K AJ "NoChange"=some (some<|.ref CC)) (aCL:dD K AJ "LeastError"=some (some<|.ref CL)) (aCT:dD K AJ "NoText"=some (some<|.ref CT)) (aCI:dD K AJ "NoWish"=some (some<|.ref CI)) (aCW:dD K AJ "NoWindow"=some (some<|.ref CW)) (aCG:dD K AJ "TooGreat"=some (some<|.ref CG)) (nVE:dD K AJ "ValueError"=some none) (ya:cN K (.ref CC) "__class__"=some (some<|.builtin "object.__class__")) (ym:aFO K CC (.type "object")=some true) (ys:PySem.W.subIn K (.ref CC) (.type "BaseException")=some true) (yg:cN K (.ref CC) "__getattribute__"=some (some<|.builtin "BaseException.__getattribute__")) (yn:cN K (.ref CC) "__getattr__"=some none) (yc:lS K CC=some cdy) (yl:rK K (.ref CC) (.ref CL)=some true) (yv:bO K (.ref CC) (.type "ValueError")=some true) (y0:bO K (.ref CC) (.ref CC)=some true) (y1:bO K (.ref CC) (.ref CT)=some false) (y2:bO K (.ref CC) (.ref CI)=some false) (y3:bO K (.ref CC) (.ref CW)=some false) (y4:bO K (.ref CC) (.ref CG)=some false) (yd:nN K CC=true) (yt:cN K (.ref CC) "at"=some none) (yz:cN K (.ref CC) "__setattr__"=some (some<|.builtin "object.__setattr__")) (yi:cN K (.ref CC) "__init__"=some (some<|.ref fNI)) (yk:bZ K (.ref CC)=true) (yf:rJ K (.ref fNI)=some (.type "function")) (lNI:K.lookup fNI=some ⟨ocN,odN,.func<|bW "__init__" "NoChange.__init__" (dN vK) (cQ vK) (aT vK) .none kVN dcN pmN anN cdN ctN,slN⟩) (cNI:dL K cdN "NoChange.__init__"=true) (kNI:bZ K (.ref fNI)=true) (wg:jI K (.ref CL) "__getattribute__"=some (some<|.builtin "type.__getattribute__")) (wr:aDn K CL (.type "type")=true) (wf:aDo K (.ref CL) (.type "type") "__init__"=some (.val<|.builtin "ValueError.__init__")) (wj:aHR K CC CL fNI=true) (hWl:FI K mg "is_whole" aDw) (hC:FI K mg "word_count" aEe) (hEa:FI K mg "with_each_word" wK) (hFi:FI K mg "fillings" aGm) (hI:FI K mg "word_by_itself" aAI) (hA:FI K mg "word_by_another" wU) (hN:FI K mg "new_word" wJ) (hB:FI K mg "written_box" wP) (hS:FI K mg "step_on" aAu) (hIr:FI K mg "is_row" tU) (hP:FI K mg "price_of" yX) (hR:FI K mg "row_on" aDF) (hTa:FI K mg "table_of" yY) (hBo:FI K mg "boxes_looked_at" aEf) (hWi:FI K mg "words_in" rE) (hPa:FID K mg "parts_at" aDv) (hIw:FI K mg "is_window" aDz) (hSa:FI K mg "steps_at" vO) (hWc:FI K mg "with_change" aAB) (hSm:FI K mg "tells_the_same" aDA) (hMy:FI K mg "may_be_made" aJA) (hGt:FID K mg "gone_through" uZ) (hD:FI K mg "_law_draw" aBN) (hG:FI K mg "_law_digits" aAD) (hSl:FI K mg "_law_small" aAg) (hT:FI K mg "_law_step" aDX) (hFw:FI K mg "_law_few" sO) (hLw:FI K mg "_law_word" aEa) (hOn:FI K mg "_law_on" aJg) (hPp:FI K mg "_law_pairs" aEg) (hLf:FI K mg "_law_fillings" yV) (hRw:FI K mg "_law_row" aEr) (hLk:FI K mg "_law_looked" yE) (hPc:FI K mg "_law_price" tO) (hEs:FI K mg "_law_ends" yN) (hIe:FI K mg "_law_is_row" tQ) (hDw:FI K mg "_law_drawn" aAh) (hHo:FI K mg "_law_holds" aAr) (hCh:FI K mg "_law_changes" sW) (hRf:FI K mg "_law_refusal" aIn) (hBd:FI K mg "_law_bad" aJy):
  ∃fd:AK,(∀ (s:AA) (v:BA),BindsTo s fd ⟨[v],[]⟩ [("_law_script",v)])/\∀base:BE,K.In base->base.Ns AJ mg->FnOk P w K mg base CX0 10 fa fd ["_law_script"] (spC K 1 aHI):=by
 have e:=hfa.symm.trans<|dF X G aL;cases e;have byself:∃ad,mg "BY_ITSELF"=some (.ref ad)/\∀H:Hp,SqT K H ad [V.str "not",V.str "up",V.str "down"]:=⟨_,dF X G aBY,λH=>.inr ⟨_,_,_,lBY,rfl,rfl,dH rfl,wM⟩⟩;have xm:aHZ K mg CC CL fNI:=⟨⟨wj,yz,yt,dF X G aCL,wg,wr,wf⟩,yk,yf,dF X G aCC⟩;have xk:aIm K mg CC CL CT CI CW CG:=⟨dF X G aCL,dF X G aCG,dF X G aCT,dF X G aCI,dF X G aCW,dF X G aCC,aAb X G nVE,yl,yv,y0,y1,y2,y3,y4,⟨⟨ya,ym,ys,yg,yn,by rw[yc];rfl⟩,yd,yt⟩⟩;have nIF:=yO (st:=vK) lNI cNI kNI;have FL:=yO (st:=uF) lL cL kL;refine⟨bW "law" "law" (dN uF) (cQ uF) (aT uF) .none kVL dcL pmL anL cdL ctL,λs v=>.of_eq rfl,λbase _ _=> ?_⟩;have GWl:=aCY (P:=P) (w:=w) (base:=base) hWl zisinstance zint zbool;have GC:=aDd (P:=P) (w:=w) (base:=base) hC zrange;have GEa:=aER (P:=P) (w:=w) (base:=base) hEa zrange;have GFi:=aEX hFi zrange GC GEa;have GI:=aAV (P:=P) (w:=w) (base:=base) hI;have GA:=yT (P:=P) (w:=w) (base:=base) hA;have GN:=xZ hN byself GC GI GA;have GB:=yQ (P:=P) (w:=w) (base:=base) hB;have GS:=aBg hS GB GN;have GIr:=aBV hIr zall zlen GWl;have GP:=aBW (P:=P) (w:=w) (base:=base) hP zsum;have GR:=aCz hR GS;have GTa:=aCp hTa ztuple GFi GR;have GBo:=aCR (P:=P) (w:=w) (base:=base) hBo zlist zrange;have GWi:=yL (P:=P) (w:=w) (base:=base) hWi;have GPa:=aCB hPa zenumerate GBo GWi GFi;have GIw:=aCO (P:=P) (w:=w) (base:=base) hIw zlen;have GSa:=zV (P:=P) (w:=w) (base:=base) hSa;have GWc:=aBq (P:=P) (w:=w) (base:=base) hWc;have GSm:=aDb hSm GTa GPa;have GMy:=aCj hMy GP GIr GIw GSa GWc GSm;have GGt:=aBu hGt zenumerate xm nIF GMy GWc;have GD:=aDc (P:=P) (w:=w) (base:=base) hD zlen zrange;have GG:=aBy (P:=P) (w:=w) (base:=base) hG;have GSl:=aBj (P:=P) (w:=w) (base:=base) hSl zlen;have GT:=aCi hT GG;have GFw:=aET hFw zrange GD GT;have GLw:=aCb (P:=P) (w:=w) (base:=base) hLw zlen zmax;have GOn:=aHb hOn zlist ztuple GLw;have GPp:=aDe (P:=P) (w:=w) (base:=base) hPp zrange;have GLf:=aDg hLf zrange GPp;have GRw:=aEz hRw ztuple zlen GG;have GLk:=aCy (P:=P) (w:=w) (base:=base) hLk zrange;have GPc:=aAW (P:=P) (w:=w) (base:=base) hPc zsum;have GEs:=aCo hEs ztuple GOn GLf;have GIe:=aBE (P:=P) (w:=w) (base:=base) hIe zisinstance ztuple zbool;have GDw:=aAU hDw zlen zmax zmin GG GRw;have GHo:=aBv hHo zlen GPc GEs;have GCh:=wQ hCh zlen zmax zmin zrange GD GDw GHo;have GRf:=aCu hRf zisinstance xk GGt;have GBd:=aCS hBd zlen zrange GD GG GDw GHo;exact aHj FL zlist zlen zisinstance zbool xm xk nIF GD GSl GFw GRw GLk GCh GBd GRf GIe GGt
end K81
open PySem PySem.W PyProof.Rows
namespace PySem.W.Fast
theorem tw10160263762036631537:True:=trivial
theorem tw10243824938609311517:True:=trivial
theorem tw10339474794595770039:True:=trivial
theorem tw10485195951369521176:True:=trivial
theorem tw10848705779128436037:True:=trivial
theorem tw11069588254900004831:True:=trivial
theorem tw11199688754315177768:True:=trivial
theorem tw11373448052450323781:True:=trivial
theorem tw11390810161707475420:True:=trivial
theorem tw11390964834434493699:True:=trivial
theorem tw11495849819771656921:True:=trivial
theorem tw11554616802289666595:True:=trivial
theorem tw11754751677926021395:True:=trivial
theorem tw12208331381934992559:True:=trivial
theorem tw12270600029597153674:True:=trivial
theorem tw12333015369878261449:True:=trivial
theorem tw12383337272581100137:True:=trivial
theorem tw12448000994673775127:True:=trivial
theorem tw1248691648821389534:True:=trivial
theorem tw1266314197937602714:True:=trivial
theorem tw12929217318679914021:True:=trivial
theorem tw12998565547443362074:True:=trivial
theorem tw13007023762541980737:True:=trivial
theorem tw13145009168312058113:True:=trivial
theorem tw13451076344087005570:True:=trivial
theorem tw13713929087686358959:True:=trivial
theorem tw13810520249659287295:True:=trivial
theorem tw14190314734563618651:True:=trivial
theorem tw14568836479803467716:True:=trivial
theorem tw14588435114480869820:True:=trivial
theorem tw14784300127990526335:True:=trivial
theorem tw15453095478371480125:True:=trivial
theorem tw15673808139810123845:True:=trivial
theorem tw16607685926613959473:True:=trivial
theorem tw16816563983554399205:True:=trivial
theorem tw16914112992202740742:True:=trivial
theorem tw1749679747068420441:True:=trivial
theorem tw17961474348903661255:True:=trivial
theorem tw18045595463994651224:True:=trivial
theorem tw18089020577464751335:True:=trivial
theorem tw18292532913838402159:True:=trivial
theorem tw1898070403634243963:True:=trivial
theorem tw2399213006779644219:True:=trivial
theorem tw2695792116307302601:True:=trivial
theorem tw3048704291476957058:True:=trivial
theorem tw3816814512441881925:True:=trivial
theorem tw4461792333623258791:True:=trivial
theorem tw4478654510188088153:True:=trivial
theorem tw4690530835766493843:True:=trivial
theorem tw4698666201834922449:True:=trivial
theorem tw5247572580891829499:True:=trivial
theorem tw5292726620289932656:True:=trivial
theorem tw5998160861934256839:True:=trivial
theorem tw60161997969109974:True:=trivial
theorem tw604316112734246430:True:=trivial
theorem tw6240691871445920069:True:=trivial
theorem tw6253919060413276274:True:=trivial
theorem tw6456834641683952228:True:=trivial
theorem tw6628093996312644294:True:=trivial
theorem tw7106605871386632659:True:=trivial
theorem tw7124403975234890128:True:=trivial
theorem tw7238906861599286565:True:=trivial
theorem tw7640439402347003737:True:=trivial
theorem tw793105969505622566:True:=trivial
theorem tw8068780547564130686:True:=trivial
theorem tw8482225682534247975:True:=trivial
theorem tw8568026288387924634:True:=trivial
theorem tw8694767316416895908:True:=trivial
theorem tw8755621837713132439:True:=trivial
theorem tw9487978203650612754:True:=trivial
theorem tw9579827262347621936:True:=trivial
theorem tw9828862993918220107:True:=trivial
end PySem.W.Fast
set_option maxRecDepth 100000 in
set_option maxHeartbeats 0 in
theorem PySem.Challenge.cw_leastrow_k81_no_change_holds : PySem.Challenge.rw_leastrow_k81_no_change.Holds := by
 w_on;o_law;k_head;(case hw=>w_witness2)
 k_fill
 refine DL.walkD (l:=PySem.Challenge.rw_leastrow_k81_no_change) (k:=10) (x:="_law_script") rfl rfl ⟨rfl,by decide,by decide,rfl⟩ (λw h Y=>PySem.W.kIn_of Y) ?F
 case F=>
  intro w mg fa h KX G hmg;refine' K81.all_mk KX G hmg ?aL ?lL ?cL ?kL ?zisinstance ?zint ?zbool ?zrange ?zall ?zlen ?zsum ?ztuple ?zlist ?zenumerate ?zmax ?zmin ?aBY ?lBY ?aCC ?aCL ?aCT ?aCI ?aCW ?aCG ?nVE ?ya ?ym ?ys ?yg ?yn ?yc ?yl ?yv ?y0 ?y1 ?y2 ?y3 ?y4 ?yd ?yt ?yz ?yi ?yk ?yf ?lNI ?cNI ?kNI ?wg ?wr ?wf ?wj ..
  (case aL|lL|cL|kL|aBY|lBY|aCC|aCL|aCT|aCI|aCW|aCG|nVE|ya|ym|ys|yg|yn|yc|yd|yt|yz|yi|yk|yf|lNI|cNI|kNI|wg|wr|wf=>k_is);(case zisinstance|zint|zbool|zrange|zall|zlen|zsum|ztuple|zlist|zenumerate|zmax|zmin=>refine' aAb KX G ?a;(case a=>k_is));(case yl=>kts_exm);(case yv=>kit_is);(case y0=>kit_is);(case y1=>kit_is);(case y2=>kit_is);(case y3=>kit_is);(case y4=>kit_is);(case wj=>kernel_rfl)
  any_goals (refine' DL.FI.mk KX G ?a ?l ?c ?k;(case a|l|c|k=>k_is))
  any_goals (refine' DL.FID.mk KX G ?a ?l ?c ?k ?t;(case a|l|c|k|t=>k_is))
