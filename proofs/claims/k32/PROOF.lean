import PyProof.Rows.All
import Wide.All
import OpenK.AllK
import Wide.FinOn
import Lean
import PyProof.EqAt
import PyProof.EqKinds
import PyProof.TupleCall
import PySem.Challenge.RW_leastrow_k32_both_wishes
set_option Elab.async false
set_option linter.all false
set_option maxRecDepth 100000
open PySem.Heap renaming get?_push_of_some→aA,lt_size→aI,get?_push_size→aV,get?_update_other→cY,get?_update_self→fD,size_push→fE,size_update→oZ
open PySem.W renaming Frag→aB,nsIn→bK,keepIn→bL,fnOf→bQ,codeIn→bT,mg_of→bY,kitOne→cD,mg_none_of→dX,kia_one→eW,findIn→iB,kitAny→iC,excIn→nN,methodObj→sN,instObj→uK,lookIn→xW,exmOne→xX
open List renaming length_map→aD,mem_append_right→aG,mem_cons_of_mem→aM,mem_cons_self→aO,size_toArray→aQ,map_append→aR,mem_cons→aS,mem_append→aY,mem_map→bB,map_cons→bD,mem_append_left→bE,mem_map_of_mem→bM,range→bR,mem_range→bS,mem_singleton→bU,map_map→bX,getElem?_eq_some_iff→cG,getElem?_map→cI,length_range→cN,length_append→cR,not_mem_nil→cU,nodup_cons→cV,getD→dD,mem_of_getElem?→dE,nodup_append→dF,extract_eq_take_drop→dH,pairwise_map→dL,getElem?_eq_none→dN,append_nil→dR,length_cons→dS,pairwise_append→dW,replicate→eD,drop_eq_getElem_cons→eI,nodup_nil→eK,length_take→eN,mem_singleton_self→eV,lookup_cons→eY,filterMap_cons→eZ,all_eq_true→fH,getElem_mem→fI,getElem?_append_right→fN,take_of_length_le→fO,map_congr_left→fQ,mem_filter→fV,pairwise_cons→gD,map_nil→gE,take_add_one→gG,append_assoc→gH,getElem_of_mem→gK,mem_flatMap→gM,getElem?_append_left→gS,getElem?_eq_getElem→hR,length_pos_iff→iD,take_append_drop→iS,mem_of_mem_drop→jF,perm_ext_iff_of_nodup→jG,pairwise_iff_getElem→jM,getElem?_range→jP,forIn_cons→jS,length_filter_le→kS,perm_append_comm→kU,length_drop→lB,zipIdx_cons→lD,take_length→lE,nodup_range→lG,map_drop→lK,getElem?_set_ne→lP,range_succ→mE,length_nil→mG,filter_eq_self→mR,mem_filterMap→nH,forIn_nil→nI,find?_eq_none→nJ,nodup_iff_pairwise_ne→nK,filter_congr→nX,map_take→oA,any_eq_true→oX,pairwise_singleton→oY,getElem?_set_self→pE,pairwise_lt_range→pF,zipIdx_nil→pS,length_replicate→qL,map→qQ,mem_of_mem_take→qR,take_succ_cons→rA,append_of_mem→sP,zip_cons_cons→sQ,ext_getElem?→uA,getElem_inj→vC,length→xR,of_mem_zip→xZ,length_set→yG,nil_append→yH,dropLast_concat_getLast→yI
open Bool renaming false_eq_true→aK,and_eq_true→bN,false_ne_true→bV,not_true→fM,eq_iff_iff→gY,or_eq_true→iR,not_eq_true'→iY,false_and→jH,not_false→jZ,beq_eq_decide_eq→lA,and_false→qS,eq_false_iff→uB
open Nat renaming le_refl→aN,lt_of_lt_of_le→aP,le_of_ble_eq_true→aU,ne_of_lt→bH,zero_le→bO,lt_or_eq_of_le→cB,lt_of_le_of_lt→cE,le_trans→dO,le_of_lt→dP,lt_irrefl→eP,ne_of_gt→eQ,le_add_right→jN,lt_or_ge→kK,lt_succ_self→lM,le_succ→oB,not_lt→pT,succ_pos→pW,div_div_eq_div_mul→pX,sub_self→pY,min_eq_left→qM,pow_le_pow_right→qZ,mod_lt→tV,pow_succ→uF,lt_trans→uG,zero_add→uH,le_of_not_lt→xT
open Int renaming emod_lt_of_pos→bZ,emod_nonneg→cH,toNat_natCast→eE,ne_of_gt→jO,zero_add→kN
open Option renaming some→cA,isSome→eX,map_eq_some_iff→iF,map→mS,isSome_iff_exists→nR
open PySem.SetTable renaming runEnd→cK,bits→cQ,probe→dA,turns→eJ,below→fK,layClean→gP,insertAt→iO,leap→nL,slot→nM,grown→pG,tooFull→sR
open Array renaming toList_append→dQ,length_toList→eC,toList_extract→eH,getElem?_toList→fB,perm_iff_toList_perm→gO,toList_push→iT,mem_toList_iff→jC,size_extract→jT,getElem?_eq_none→jY,toList_reverse→lN,getElem?_eq_some_iff→mY,forIn_toList→nA,toList_inj→uI,toList_map→uJ,replicate→xU,getElem?_setIfInBounds→xV,getD_eq_getD_getElem?→yJ,getElem?_eq_none_iff→yR
open PySem.F renaming args_tuple_add_2→nQ,entry_tuple_add→nY,plainAttrs_list→nZ,slot_tuple_add→oQ,excBase_ValueError→xY
namespace L2
open PySem PySem.Spec PyProof.Rows
abbrev Key:=Sum Int Str
def vX:Key→Value→Bool
 | .inl k,v=>Value.isInt k v
 | .inr x,v=>Value.isStrOf x v
def keyH (w:World):Key→Int
 | .inl k=>hashInt k
 | .inr x=>hashStr w x
theorem gJ:∀ {k:Key} {v:Value},vX k v=true→(∃i t,k=Sum.inl i∧v=Value.int i t)∨(∃x t,k=Sum.inr x∧v=Value.str x t)
 | .inl i,v,h=>by obtain ⟨t,e⟩:=Value.isInt_shape (k:=i) (v:=v) h; exact .inl ⟨i,t,rfl,e⟩
 | .inr x,v,h=>by obtain ⟨t,e⟩:=Value.isStrOf_shape (x:=x) (v:=v) h; exact .inr ⟨x,t,rfl,e⟩
theorem keyIs_int (i:Int) (t:Tok):vX (.inl i) (.int i t)=true:=by simp [vX,Value.isInt]
theorem keyIs_str (x:Str) (t:Tok):vX (.inr x) (.str x t)=true:=by simp [vX,Value.isStrOf]
theorem key_ll (a b:Int):decide ((Sum.inl a:Key)=Sum.inl b)=(a==b):=by
 by_cases e:a=b
 ·subst e; simp
 ·have h:¬ (Sum.inl a:Key)=Sum.inl b:=fun q=>e (Sum.inl.inj q)
  rw [decide_eq_false h]; exact (beq_eq_false_iff_ne.mpr e).symm
theorem key_rr (a b:Str):decide ((Sum.inr a:Key)=Sum.inr b)=decide (a=b):=by
 by_cases e:a=b
 ·subst e; simp
 ·have h:¬ (Sum.inr a:Key)=Sum.inr b:=fun q=>e (Sum.inr.inj q)
  rw [decide_eq_false h,decide_eq_false e]
theorem key_lr (a:Int) (b:Str):decide ((Sum.inl a:Key)=Sum.inr b)=false:=decide_eq_false (fun q=>nomatch q)
theorem key_rl (a:Str) (b:Int):decide ((Sum.inr a:Key)=Sum.inl b)=false:=decide_eq_false (fun q=>nomatch q)
def gZ (prog:Program) (w:World):PySem.KeyKind prog w Key where
 is:=vX
 hash:=keyH w
 inj:=fun v a b ha hb=>by
  rcases gJ ha with ⟨i,t,rfl,rfl⟩ | ⟨x,t,rfl,rfl⟩
  ·rcases gJ hb with ⟨j,u,rfl,e⟩ | ⟨y,u,rfl,e⟩
   ·injection e with e1 _; rw [e1]
   ·exact nomatch e
  ·rcases gJ hb with ⟨j,u,rfl,e⟩ | ⟨y,u,rfl,e⟩
   ·exact nomatch e
   ·injection e with e1 _; rw [e1]
 byValue:=fun k v h=>by rcases gJ h with ⟨i,t,rfl,rfl⟩ | ⟨x,t,rfl,rfl⟩<;>rfl
 pyHash:=fun hv h=>by
  rcases gJ hv with ⟨i,t,rfl,rfl⟩ | ⟨x,t,rfl,rfl⟩
  ·exact wpAny_pyHash_int h
  ·exact wpAny_pyHash_str h
 eqBool:=fun hu hv h=>by
  rcases gJ hu with ⟨i,t,rfl,rfl⟩ | ⟨x,t,rfl,rfl⟩
  ·rcases gJ hv with ⟨j,u,rfl,rfl⟩ | ⟨y,u,rfl,rfl⟩
   ·rw [key_ll] at h; exact wpAny_eqBool_int h
   ·rw [key_lr] at h; exact SeqAt.EqAt.int_str i t y u _ _ _ _ h
  ·rcases gJ hv with ⟨j,u,rfl,rfl⟩ | ⟨y,u,rfl,rfl⟩
   ·rw [key_rl] at h; exact SeqAt.EqAt.str_int x t j u _ _ _ _ h
   ·rw [key_rr] at h; exact wpAny_eqBool_str h
 «strs»:=fun k x t v h=>by
  rcases gJ h with ⟨i,u,rfl,e⟩ | ⟨y,u,rfl,e⟩
  ·exact nomatch e
  ·injection e with e1 _
   subst e1; cases v<;>rfl
theorem mixKind_int (prog:Program) (w:World) (i:Int) (t:Tok):(gZ prog w).is (.inl i) (.int i t)=true:=keyIs_int i t
theorem mixKind_str (prog:Program) (w:World) (x:Str) (t:Tok):(gZ prog w).is (.inr x) (.str x t)=true:=keyIs_str x t
inductive V where
 | non | bl (b:Bool) | int (i:Int) | str (x:Str) | byt (b:Array UInt8) | flt (b:UInt64) | ref (a:Addr) | ty (n:String)
 deriving DecidableEq
def RelV:V→Value→Prop
 | .non,u=>u=Value.none
 | .bl b,u=>u=Value.bool b
 | .int i,u=>∃t,u=Value.int i t
 | .str x,u=>∃t,u=Value.str x t
 | .byt b,u=>∃t,u=Value.bytes b t
 | .flt b,u=>∃t,u=Value.float b t
 | .ref a,u=>u=Value.ref a
 | .ty n,u=>u=Value.type n
abbrev Vals:List V→List Value→Prop:=Paired RelV
theorem Vals.length {xs:List V} {us:List Value} (r:Vals xs us):xs.length=us.length:=Paired.length r
theorem Vals.get:∀ {xs:List V} {us:List Value} {i:Nat} {x:V},Vals xs us→xs[i]? =some x→∃u,us[i]? =some u∧RelV x u
 | _,_,_,_, .nil,e=>by simp at e
 | _,_,0,_, .cons r _,e=>by simp at e; subst e; exact ⟨_,rfl,r⟩
 | _,_,i+1,x, .cons _ t,e=>by obtain ⟨u,h1,h2⟩:=Vals.get (i:=i) (x:=x) t (by simpa using e); exact ⟨u,by simpa using h1,h2⟩
theorem Vals.set {x:V} {u:Value} (r:RelV x u):∀ {xs:List V} {us:List Value} (i:Nat),Vals xs us→Vals (xs.set i x) (us.set i u)
 | _,_,_, .nil=> .nil
 | _,_,0, .cons _ t=> .cons r t
 | _,_,i+1, .cons q t=> .cons q (Vals.set r i t)
theorem Vals.append:∀ {xs ys:List V} {us ws:List Value},Vals xs us→Vals ys ws→Vals (xs++ys) (us++ws)
 | _,_,_,_, .nil,s=>s
 | _,_,_,_, .cons r t,s=> .cons r (Vals.append t s)
theorem Vals.take:∀ {xs:List V} {us:List Value} (n:Nat),Vals xs us→Vals (xs.take n) (us.take n)
 | _,_,0,_=> .nil
 | _,_,_+1, .nil=> .nil
 | _,_,n+1, .cons r t=> .cons r (Vals.take n t)
theorem Vals.drop:∀ {xs:List V} {us:List Value} (n:Nat),Vals xs us→Vals (xs.drop n) (us.drop n)
 | _,_,0,r=>r
 | _,_,_+1, .nil=> .nil
 | _,_,n+1, .cons _ t=>Vals.drop n t
def RelO:Option V→Option Value→Prop
 | some v,some u=>RelV v u
 | none,none=>True
 | _,_=>False
def KV {κ:Type}:List (κ × V)→List (κ × Value)→Prop:=Paired fun (p:κ × V) (q:κ × Value)=>p.1=q.1∧RelV p.2 q.2
def kV:Key→V
 | .inl i=> .int i
 | .inr x=> .str x
inductive HO where
 /-- a list -/
 | lst (xs:List V)
 /-- a tuple (never changes) -/
 | tup (xs:List V)
 /-- a dict whose keys are ints and texts; one whose keys are tuples of ints and texts (the empty one is both) -/
 | dK (kvs:List (Key × V)) | dT (kvs:List (List Key × V))
 /-- a set of ints:its members,its size -/
 | set (S:Int→Bool) (n:Nat)
 /-- an instance of the class at C,its dict at dx,its attributes -/
 | ins (C dx:Addr) (fs:List (Str × V))
 /-- the dict of the instance at x -/
 | own (x:Addr)
 /-- the dict of an exception -/
 | xd (fs:List (Str × V))
 /-- a bound method,f of x -/
 | met (f x:Addr)
 /-- a range object lo,lo+1, .. below hi -/
 | rng (lo hi:Int)
 /-- a thing that is known to the object (the script; a dict while a loop walks it):read,never written while it is so -/
 | frz (o:Obj) (u:HO)
 /-- a code object's table -/
 | tbl (ps:Array Value)
 /-- any other thing,by what is true of its one object (a def of one's own:SetO a S n:=HO.ext fun h=> ..) -/
 | ext (φ:Heap→Prop)
abbrev Hp:=Addr→Option HO
def upd (H:Hp) (a:Addr) (o:HO):Hp:=fun b=>if b=a then some o else H b
theorem cS {H:Hp} {a:Addr} {o:HO}:upd H a o a=some o:=by unfold upd; rw [if_pos rfl]
theorem bW {H:Hp} {a b:Addr} {o:HO} (h:b≠a):upd H a o b=H b:=by unfold upd; rw [if_neg h]
theorem cP {H:Hp} {a b:Addr} {o:HO} (h:H a=some o) (h':H b=none):a≠b:=by intro e; subst e; rw [h] at h'; cases h'
def IsTupD (h:Heap) (a:Addr) (items:Array Value):Prop:=∃o,h.get? a=some o∧o.cls= .type "tuple"∧(∃n,o.data= .seq items n)∧o.dict=none
theorem IsTupD.tup {h:Heap} {a:Addr} {items:Array Value} (x:IsTupD h a items):IsTup h a items:=let ⟨o,e,c,d,_⟩:=x; ⟨o,e,c,d⟩
theorem IsTupD.new (h:Heap) (items:Array Value):IsTupD (h.push {cls:= .type "tuple",data:= .seq items}) h.objs.size items:=⟨_,aV _ rfl,rfl,⟨_,rfl⟩,rfl⟩
section
variable (P:Program) (w:World)
def ObjOk (H:Hp) (h:Heap) (a:Addr):HO→Prop
 | .lst xs=>xs.length≤sizeLine∧∃ (its:List Value) (n:Nat),Vals xs its∧h.get? a=some {cls:= .type "list",data:= .seq its.toArray n}
 | .tup xs=>xs.length≤sizeLine∧∃its:List Value,Vals xs its∧IsTupD h a its.toArray
 | .dK kvs=>kvs.length≤sizeLine∧(a==sysModules)=false∧∃vs,KV kvs vs∧h.DictOf (gZ P w) a vs
 | .dT kvs=>kvs.length≤sizeLine∧(a==sysModules)=false∧∃xs:List (List Key × Addr × Value),
   Paired (fun (p:List Key × V) (q:List Key × Addr × Value)=>p.1=q.1∧H q.2.1=some (.tup (p.1.map kV))∧RelV p.2 q.2.2) kvs xs∧
   ∃o es ep,h.get? a=some o∧o.ExactDict∧o.data= .dict es ep∧es.toList=xs.map (entryOfKey (tupleKind (gZ P w)))∧(xs.map (·.1)).Nodup
 | .set S n=>h.SetOf (intKind P w) a S n
 | .ins C dx fs=>H dx=some (.own a)∧fs.length≤1000∧dx≠a∧h.get? a=some (uK C dx)∧
   ∃mA,h.Ns1 dx mA∧(∀f,RelO (fs.lookup f) (mA f))∧PySem.Within mA (fs.map (·.1))
 | .own _=>∃o,h.get? a=some o
 | .xd fs=>∃mA,h.Ns1 a mA∧∀f,RelO (fs.lookup f) (mA f)
 | .rng lo hi=>∃t u v,h.get? a=some {cls:= .type "range",data:= .fields #[.int lo t, .int hi u, .int 1 v]}
 | .frz o u=>h.get? a=some o∧ObjOk H h a u
 | .tbl ps=>h.get? a=some {cls:= .none,data:= .fields ps}
 | .met f x=>h.get? a=some (sN (.ref f) (.ref x))
 | .ext φ=>φ h∧(∃o,h.get? a=some o)∧∀h1 h2:Heap,φ h1→(∀o,h1.get? a=some o→h2.get? a=some o)→φ h2
def HOk (H:Hp) (h:Heap):Prop:=∀a o,H a=some o→ObjOk P w H h a o
end
section
variable {P:Program} {w:World} {H H':Hp} {h h':Heap} {a:Addr} {o:HO}
theorem ObjOk.lt (x:ObjOk P w H h a o):a<h.objs.size:=by
 cases o with
 | lst xs=>obtain ⟨_,_,_,_,e⟩:=x; exact aI e
 | tup xs=>obtain ⟨_,_,_,p⟩:=x; exact p.tup.lt
 | dK kvs=>obtain ⟨_,_,_,_,o,_,_,e,_⟩:=x; exact aI e
 | dT kvs=>obtain ⟨_,_,_,_,o,_,_,e,_⟩:=x; exact aI e
 | set S n=>obtain ⟨o,_,_,_,e,_⟩:=x; exact aI e
 | ins C dx fs=>obtain ⟨_,_,_,e,_⟩:=x; exact aI e
 | own y=>obtain ⟨_,e⟩:=x; exact aI e
 | xd fs=>obtain ⟨_,⟨_,_,_,e,_⟩,_⟩:=x; exact aI e
 | rng lo hi=>obtain ⟨_,_,_,e⟩:=x; exact aI e
 | frz ob u=>obtain ⟨e,_⟩:=x; exact aI e
 | tbl ps=>exact aI (show h.get? a=some _ from x)
 | met f y=>exact aI (show h.get? a=some _ from x)
 | ext φ=>obtain ⟨_,⟨_,e⟩,_⟩:=x; exact aI e
theorem Paired.mapP {α β:Type} {F G:α→β→Prop}:∀ {l₁:List α} {l₂:List β},Paired F l₁ l₂→(∀a b,F a b→G a b)→Paired G l₁ l₂
 | _,_, .nil,_=> .nil
 | _,_, .cons r t,f=> .cons (f _ _ r) (Paired.mapP t f)
theorem ObjOk.stay (x:ObjOk P w H h a o) (k:∀b u,(b=a∨H b=some (.own a))→h.get? b=some u→h'.get? b=some u)
  (ho:∀b,H b=some (.own a)→H' b=some (.own a)) (ht:∀b xs,H b=some (.tup xs)→H' b=some (.tup xs)):ObjOk P w H' h' a o:=by
 induction o with
 | lst xs=>obtain ⟨z,its,n,r,e⟩:=x; exact ⟨z,its,n,r,k _ _ (.inl rfl) e⟩
 | tup xs=>obtain ⟨z,its,r,ob,e,c⟩:=x; exact ⟨z,its,r,ob,k _ _ (.inl rfl) e,c⟩
 | dK kvs=>obtain ⟨z,y,vs,r,ob,es,ep,e,c⟩:=x; exact ⟨z,y,vs,r,ob,es,ep,k _ _ (.inl rfl) e,c⟩
 | dT kvs=>obtain ⟨z,y,xs,r,ob,es,ep,e,c⟩:=x; exact ⟨z,y,xs,Paired.mapP r fun p q z=>⟨z.1,ht _ _ z.2.1,z.2.2⟩,ob,es,ep,k _ _ (.inl rfl) e,c⟩
 | set S n=>obtain ⟨ob,es,ep,t,e,c⟩:=x; exact ⟨ob,es,ep,t,k _ _ (.inl rfl) e,c⟩
 | ins C dx fs=>obtain ⟨d,z,ne,e,mA,⟨od,es,ep,e2,c⟩,r⟩:=x; exact ⟨ho _ d,z,ne,k _ _ (.inl rfl) e,mA,⟨od,es,ep,k _ _ (.inr d) e2,c⟩,r⟩
 | own y=>obtain ⟨ob,e⟩:=x; exact ⟨ob,k _ _ (.inl rfl) e⟩
 | xd fs=>obtain ⟨mA,⟨od,es,ep,e,c⟩,r⟩:=x; exact ⟨mA,⟨od,es,ep,k _ _ (.inl rfl) e,c⟩,r⟩
 | rng lo hi=>obtain ⟨t,u,v,e⟩:=x; exact ⟨t,u,v,k _ _ (.inl rfl) e⟩
 | frz ob u ih=>obtain ⟨e,q⟩:=x; exact ⟨k _ _ (.inl rfl) e,ih q⟩
 | tbl ps=>have e:h.get? a=some {cls:= .none,data:= .fields ps}:=x; show h'.get? a=some {cls:= .none,data:= .fields ps}; exact k a _ (.inl rfl) e
 | met f y=>have e:h.get? a=some (sN (.ref f) (.ref y)):=x; show h'.get? a=some (sN (.ref f) (.ref y)); exact k a _ (.inl rfl) e
 | ext φ=>obtain ⟨p,⟨o,e⟩,st⟩:=x; exact ⟨st _ _ p fun o q=>k _ _ (.inl rfl) q,⟨o,k _ _ (.inl rfl) e⟩,st⟩
theorem HOk.lt (x:HOk P w H h) (e:H a=some o):a<h.objs.size:=(x a o e).lt
theorem HOk.fresh (x:HOk P w H h) (e:h.objs.size≤a):H a=none:=by
 cases q:H a with
 | none=>rfl
 | some u=>exact absurd (aP (x.lt q) e) (eP _)
theorem HOk.kept (x:HOk P w H h) (k:∀b u,h.get? b=some u→h'.get? b=some u):HOk P w H h':=fun a o e=>(x a o e).stay (fun b u _ q=>k b u q) (fun _ q=>q) fun _ _ q=>q
theorem HOk.laid (x:HOk P w H h) (k:∀b u,h.get? b=some u→h'.get? b=some u) (hp:h.objs.size≤a) (new:ObjOk P w (upd H a o) h' a o):HOk P w (upd H a o) h':=fun b u e=>by
 have hn:=x.fresh hp
 by_cases hb:b=a
 ·subst hb; rw [cS] at e; cases e; exact new
 ·rw [bW hb] at e; exact (x b u e).stay (fun c v _ q=>k c v q) (fun c q=>by rw [bW (cP q hn)]; exact q) fun c xs q=>by rw [bW (cP q hn)]; exact q
end
def Rd (H:Hp) (a:Addr) (u:HO):Prop:=H a=some u∨∃o,H a=some (.frz o u)
theorem Rd.of {H:Hp} {a:Addr} {u:HO} (h:H a=some u):Rd H a u:= .inl h
theorem Rd.ok {P:Program} {w:World} {H:Hp} {h:Heap} {a:Addr} {u:HO} (r:Rd H a u) (x:HOk P w H h):ObjOk P w H h a u:=by
 rcases r with r | ⟨o,r⟩
 ·exact x a u r
 ·obtain ⟨_,q⟩:=x a _ r; exact q
def Mut:Option HO→Prop
 | some (.lst _)=>True
 | some (.dK _)=>True
 | some (.dT _)=>True
 | some (.set _ _)=>True
 | some (.ins _ _ _)=>True
 | some (.ext _)=>True
 | _=>False
section
variable {P:Program} {w:World} {H:Hp} {h h':Heap} {x e:Addr} {o':HO}
theorem HOk.write (ok:HOk P w H h) (mu:Mut (H x)) (he:e=x∨H e=some (.own x)) (k:∀b u,b≠e→h.get? b=some u→h'.get? b=some u) (heo:∃u,h'.get? e=some u)
  (new:ObjOk P w (upd H x o') h' x o'):HOk P w (upd H x o') h':=fun b u q=>by
 have nown:∀c y,H c=some (.own y)→c≠x:=fun c y r z=>by subst z; rw [r] at mu; exact mu
 have ntup:∀c xs,H c=some (.tup xs)→c≠x:=fun c xs r z=>by subst z; rw [r] at mu; exact mu
 by_cases hb:b=x
 ·subst hb; rw [cS] at q; cases q; exact new
 ·rw [bW hb] at q
  by_cases hbe:b=e
  ·have q':H b=some (.own x):=by
    rcases he with z | z
    ·exact absurd (hbe.trans z) hb
    ·rw [hbe]; exact z
   rw [q] at q'; cases q'; obtain ⟨v,hv⟩:=heo; exact ⟨v,by rw [hbe]; exact hv⟩
  ·refine (ok b u q).stay (fun c v hc r=>k c v ?_ r) (fun c r=>by rw [bW (nown c b r)]; exact r) fun c xs r=>by rw [bW (ntup c xs r)]; exact r
   rcases hc with rfl | hc
   ·exact hbe
   ·rintro rfl
    rcases he with z | z
    ·exact nown c b hc z
    ·rw [hc] at z; cases z; exact hb rfl
end
structure Un (fs ex:List Addr) (H H':Hp) (h h':Heap):Prop where
 keep:∀b o,h.get? b=some o→H b=none→b∉fs→b∉ex→h'.get? b=some o
 slot:∀b o,h.get? b=some o→H b=none→b∈fs→b∉ex→∃sl,h'.get? b=some {o with slots:=sl}
 free:∀b o,h.get? b=some o→H b=none→b∉ex→H' b=none
 there:∀b o,h.get? b=some o→b∉ex→∃o',h'.get? b=some o'
 tups:∀b xs,H b=some (.tup xs)→H' b=some (.tup xs)
 frzs:∀b o u,H b=some (.frz o u)→H' b=some (.frz o u)
 tbls:∀b ps,H b=some (.tbl ps)→∃more,H' b=some (.tbl (ps++more))
section
variable {fs fs' ex ex':List Addr} {H H1 H2:Hp} {h h1 h2 h':Heap} {a x e:Addr} {o:HO}
theorem Un.any (u:Un fs ex H H1 h h1) {b:Addr} {ob:Obj} (q:h.get? b=some ob) (n:H b=none) (hx:b∉ex):∃sl,h1.get? b=some {ob with slots:=sl}:=by
 by_cases hb:b∈fs
 ·exact u.slot b ob q n hb hx
 ·exact ⟨ob.slots,u.keep b ob q n hb hx⟩
theorem Un.kept (k:∀b u,h.get? b=some u→h'.get? b=some u):Un fs ex H H h h':=
 ⟨fun b ob q _ _ _=>k b ob q,fun b ob q _ _ _=>⟨ob.slots,k b ob q⟩,fun _ _ _ n _=>n,fun b ob q _=>⟨ob,k b ob q⟩,fun _ _ q=>q,fun _ _ _ q=>q,fun _ ps q=>⟨#[],by rw [q]; simp⟩⟩
theorem Un.refl:Un fs ex H H h h:=Un.kept fun _ _ q=>q
theorem Un.laid (k:∀b u,h.get? b=some u→h'.get? b=some u) (hp:h.objs.size≤a) (hn:H a=none):Un fs ex H (upd H a o) h h' where
 keep:=fun b u q _ _ _=>k b u q
 slot:=fun b u q _ _ _=>⟨u.slots,k b u q⟩
 free:=fun b u q n _=>by rw [bW (bH (aP (aI q) hp))]; exact n
 there:=fun b u q _=>⟨u,k b u q⟩
 tups:=fun b xs q=>by rw [bW (cP q hn)]; exact q
 frzs:=fun b u xs q=>by rw [bW (cP q hn)]; exact q
 tbls:=fun b ps q=>⟨#[],by rw [bW (cP q hn),q]; simp⟩
theorem Un.write (mu:Mut (H x)) (he:e=x∨H e=some (.own x)) (k:∀b u,b≠e→h.get? b=some u→h'.get? b=some u) (heo:∃u,h'.get? e=some u):Un fs ex H (upd H x o) h h':=by
 have hx:∀b,H b=none→b≠x:=fun b n z=>by subst z; rw [n] at mu; exact mu
 have hb:∀b,H b=none→b≠e:=fun b n z=>by
  subst z
  rcases he with r | r
  ·exact hx b n r
  ·rw [n] at r; cases r
 have hm:∀b u,H b=some u→¬ Mut (some u)→b≠x:=fun b u q nm z=>by subst z; rw [q] at mu; exact nm mu
 refine ⟨fun b u q n _ _=>k b u (hb b n) q,fun b u q n _ _=>⟨u.slots,k b u (hb b n) q⟩,fun b u q n _=>by rw [bW (hx b n)]; exact n,fun b u q _=> ?_,
  fun b xs q=>by rw [bW (hm b _ q fun z=>z)]; exact q,fun b u xs q=>by rw [bW (hm b _ q fun z=>z)]; exact q,fun b ps q=>⟨#[],by rw [bW (hm b _ q fun z=>z),q]; simp⟩⟩
 by_cases hbe:b=e
 ·subst hbe; exact heo
 ·exact ⟨u,k b u hbe q⟩
end
def trk (h:Heap) (H:Hp):List Addr:=(bR h.objs.size).filter fun a=>(H a).isSome
def hidT (h:Heap) (H:Hp):Heap:=PySem.W.hideAll h (trk h H)
theorem hidT_size (h:Heap) (H:Hp):(hidT h H).objs.size=h.objs.size:=PySem.W.hideAll_size _ _
theorem hidT_get {h:Heap} {H:Hp} {b:Addr} {o:Obj} (e:h.get? b=some o) (n:H b=none):(hidT h H).get? b=some o:=
 PySem.W.hideAll_get _ e fun hm=>by have q:(H b).isSome=true:=(fV.mp hm).2; rw [n] at q; simp at q
theorem of_hidT {h:Heap} {H:Hp} {b:Addr} {o:Obj} (e:(hidT h H).get? b=some o):h.get? b=some o∧H b=none:=by
 have e':h.get? b=some o:=PySem.W.of_hideAll (trk h H) e; refine ⟨e', ?_⟩; cases q:H b with
 | none=>rfl
 | some x=>have hm:b∈trk h H:=fV.mpr ⟨bS.mpr (aI e'),by simp [q]⟩; have z:(hidT h H).get? b=none:=PySem.W.hideAll_none (trk h H) hm; rw [z] at e; cases e
def allNews (g h:Heap) (L:Addr):List (Addr × Obj):=(bR h.objs.size).filterMap fun a=>if a=L∨(g.get? a).isSome=true then none else (h.get? a).map fun o=>(a,o)
def rest (g h:Heap) (L d:Addr):List (Addr × Obj):=(allNews g h L).filter fun p=>decide (p.1≠d)
structure Mod (K:aB) (mg:Str→Option Value) (base:Heap):Prop where
 kin:K.In base
 glob:base.Ns mainGlobals mg
 blt:∃mb,base.Ns builtinsNs mb∧∀x:Str,x≠"__name__"→mb x=bootBuiltins x
 nolimit:base.NoLimit
def Hard:HO→Prop
 | .lst _=>False
 | .ext _=>False
 | _=>True
structure Cx where
 prog:Program
 w:World
 K:aB
 mg:Str→Option Value
 base:Heap
 A:Around
 N:List Str
 s₀:Shared
 H₀:Hp
 env:Env
 outer:List Env
 stack:List Env
 ex:List Addr
 fn:Str→Bool
 calm:Bool
 pn:List (Addr × Obj)
 xe:Value→Shared→Prop
 B₀:Hp:=H₀
 hB:∀b o,H₀ b=some o→Hard o→B₀ b=some o:=by intro b o e _; exact e
def frs (l:List Env):List Addr:=l.filterMap (·.frame)
abbrev Cx.fs (X:Cx):List Addr:=frs X.outer
def Vis (sc:Scope) (x:Str):Prop:=sc.names.lookup x=some .local∨sc.names.lookup x=some .cell∨sc.names.lookup x=some .free
def Loc (sc:Scope) (x:Str):Prop:=sc.names.lookup x=some .local∨sc.names.lookup x=some .cell
def Look (env:Env) (h:Heap) (m:Str→Option Value) (x:Str) (u:Value):Prop:=
 (env.kindOf x=some .local∧m x=some u)∨((env.kindOf x=some .cell∨env.kindOf x=some .free)∧∃c,env.cells.lookup x=some c∧h.IsCell c (some u))
structure Cx.Ok (X:Cx):Prop where
 mod:Mod X.K X.mg X.base
 kind:X.env.scope.kind= .function
 glob:X.env.globals=mainGlobals
 blt:X.env.builtins=builtinsNs
 above:X.s₀.heap.objs.size≤X.env.locals
 inj:∀x y c,X.env.cells.lookup x=some c→X.env.cells.lookup y=some c→x=y
 has:∀x,(X.env.kindOf x=some .cell∨X.env.kindOf x=some .free)→∃c,X.env.cells.lookup x=some c
 cab:∀x c,X.fn x=true→X.env.cells.lookup x=some c→X.s₀.heap.objs.size≤c
 hd:X.calm=true→X.A.handled=none
 frames:X.A.frames=some X.stack
 stk:X.stack=X.outer∨(X.stack=X.env::X.outer∧X.env.frame=some X.env.locals)
 exf:∀b∈X.ex,b≠X.env.locals∧∀x c,X.env.cells.lookup x=some c→c≠b
 bs:∀b o,X.base.get? b=some o→X.s₀.heap.get? b=some o∧X.H₀ b=none
 bsz:X.base.objs.size≤X.s₀.heap.objs.size
 noex:∀b o,X.base.get? b=some o→b∉X.ex
 exfs:∀b∈X.ex,b∉X.fs
 funs:X.s₀.heap.FunFrames X.base X.outer
 frf:∀b∈X.fs,X.H₀ b=none
structure Inv (X:Cx) (pins:List (Addr × Obj)) (σ:List (Option V)) (H:Hp) (s:Shared):Prop where
 ok:X.Ok
 os:s.os=X.s₀.os
 bare:AllBare s.gens
 base:Un X.fs X.ex X.H₀ H X.s₀.heap s.heap
 loc:∃m,s.heap.Ns X.env.locals m∧∀ (i:Nat) (x:Str) (v:V),X.N[i]? =some x→σ[i]? =some (some v)→Vis X.env.scope x→∃u,RelV v u∧Look X.env s.heap m x u
 cell:∀x c,X.env.cells.lookup x=some c→∃v,s.heap.IsCell c v
 free:H X.env.locals=none
 freeC:∀x c,X.env.cells.lookup x=some c→H c=none
 pin:∀p∈X.pn++pins,s.heap.get? p.1=some p.2∧H p.1=none∧p.1≠X.env.locals∧p.1∉X.fs∧∀v,p.2.data≠ .cell v
 hok:HOk X.prog X.w H s.heap
 len:σ.length=X.N.length
section
variable {X:Cx} {pins:List (Addr × Obj)} {σ:List (Option V)} {H H':Hp} {s:Shared} {h':Heap}
theorem Cx.Ok.nofr (ok:X.Ok) {b:Addr} {o:Obj} (e:X.base.get? b=some o):b∉X.fs:=fun hb=>by have:=(ok.funs.mem hb).1; rw [e] at this; cases this
theorem Inv.bs (I:Inv X pins σ H s):∀b o,X.base.get? b=some o→s.heap.get? b=some o∧H b=none:=fun b o e=>⟨I.base.keep b o (I.ok.bs b o e).1 (I.ok.bs b o e).2 (I.ok.nofr e) (I.ok.noex b o e),I.base.free b o (I.ok.bs b o e).1 (I.ok.bs b o e).2 (I.ok.noex b o e)⟩
theorem Inv.bk (I:Inv X pins σ H s):∀b o,X.base.get? b=some o→s.heap.get? b=some o:=fun b o e=>(I.bs b o e).1
theorem Inv.mod (I:Inv X pins σ H s):Mod X.K X.mg X.base:=I.ok.mod
theorem Inv.kIn (I:Inv X pins σ H s):X.K.In s.heap:=I.ok.mod.kin.keeps I.bk
theorem Inv.lt (I:Inv X pins σ H s):X.env.locals<s.heap.objs.size:=let ⟨_,hn,_⟩:=I.loc; hn.lt
theorem Inv.sz (I:Inv X pins σ H s):X.s₀.heap.objs.size≤s.heap.objs.size:=dO I.ok.above (dP I.lt)
theorem Inv.nofs (I:Inv X pins σ H s) {a:Addr} (h:s.heap.objs.size≤a):a∉X.fs:=fun hb=>by obtain ⟨_,o,ho,_⟩:=I.ok.funs.mem hb; exact absurd (aP (aI ho) (dO I.sz h)) (eP _)
theorem Inv.cne (I:Inv X pins σ H s):∀x c,X.env.cells.lookup x=some c→c≠X.env.locals:=fun x c e z=>by obtain ⟨v,o,ho,hd⟩:=I.cell x c e; obtain ⟨m,⟨o',es,ep,ho',hd',_⟩,_⟩:=I.loc; rw [z,ho'] at ho; cases ho; rw [hd'] at hd; cases hd
theorem Inv.funs (I:Inv X pins σ H s):s.heap.FunFrames X.base X.outer:=by
 have all:∀ (l:List Env),(∀b∈frs l,b∈X.fs)→X.s₀.heap.FunFrames X.base l→s.heap.FunFrames X.base l:=by
  intro l
  induction l with
  | nil=>intro _ _; trivial
  | cons env r ih=>
   intro hs hl; obtain ⟨hk,⟨L,o,hf,hn,ho,hd⟩,hr⟩:=hl; have hL:L∈X.fs:=hs L (by unfold frs; rw [eZ,hf]; exact aO); obtain ⟨sl,e⟩:=I.base.slot L o ho (I.ok.frf L hL) hL fun z=>I.ok.exfs L z hL
   exact ⟨hk,⟨L,_,hf,hn,e,hd⟩,ih (fun b hb=>hs b (by unfold frs; rw [eZ,hf]; exact aM _ hb)) hr⟩
 exact all X.outer (fun _ hb=>hb) I.ok.funs
theorem Inv.stack (I:Inv X pins σ H s):s.heap.FunFrames X.base X.stack:=by
 rcases I.ok.stk with e | ⟨e,hf⟩
 ·rw [e]; exact I.funs
 ·rw [e]; obtain ⟨m,hn,_⟩:=I.loc; refine .cons (by rw [I.ok.kind]; decide) hf hn ?_ I.funs; exact Heap.get?_none_of_le (dO I.ok.bsz I.ok.above)
theorem Inv.stkSub (I:Inv X pins σ H s):∀b∈frs X.stack,b∈X.env.locals::X.fs:=fun b hb=>by
 rcases I.ok.stk with e | ⟨e,hf⟩
 ·rw [e] at hb; exact aM _ hb
 ·rw [e] at hb; unfold frs at hb; rw [eZ,hf] at hb; exact hb
theorem Inv.stkFree (I:Inv X pins σ H s):∀b∈frs X.stack,H b=none:=fun b hb=>by
 rcases aS.mp (I.stkSub b hb) with e | hb
 ·rw [e]; exact I.free
 ·obtain ⟨_,o,ho,_⟩:=I.ok.funs.mem hb; exact I.base.free b o ho (I.ok.frf b hb) fun z=>I.ok.exfs b z hb
theorem Inv.step {g':Array GenState} {t':Nat} {d':Drawn} {ch:List Addr} (I:Inv X pins σ H s)
  (hch:∀b∈ch,(b∈X.ex∨X.s₀.heap.objs.size≤b)∧b≠X.env.locals∧(∀x c,X.env.cells.lookup x=some c→c≠b)∧∀p∈X.pn++pins,p.1≠b)
  (keep:∀b o,b≠X.env.locals→b∉X.fs→b∉ch→s.heap.get? b=some o→H b=none→h'.get? b=some o)
  (slot:∀b o,b≠X.env.locals→b∈X.fs→b∉ch→s.heap.get? b=some o→H b=none→∃sl,h'.get? b=some {o with slots:=sl}) (free:∀b o,b∉ch→s.heap.get? b=some o→H b=none→H' b=none)
  (there:∀b o,b∉ch→s.heap.get? b=some o→∃o',h'.get? b=some o')
  (tups:∀b xs,H b=some (.tup xs)→H' b=some (.tup xs)) (frzs:∀b o u,H b=some (.frz o u)→H' b=some (.frz o u)) (tbls:∀b ps,H b=some (.tbl ps)→∃more,H' b=some (.tbl (ps++more)))
  (ns:∀m,s.heap.Ns X.env.locals m→h'.Ns X.env.locals m) (hok:HOk X.prog X.w H' h') (hg:AllBare g'):
  Inv X pins σ H' {s with heap:=h',gens:=g',drawn:=d',toks:=t'}:=by
 have neL:∀b o,X.s₀.heap.get? b=some o→b≠X.env.locals:=fun b o e=>bH (aP (aI e) I.ok.above)
 have neC:∀b o,X.s₀.heap.get? b=some o→b∉X.ex→b∉ch:=fun b o e hx hb=>by
  rcases (hch b hb).1 with z | z
  ·exact hx z
  ·exact absurd (aP (aI e) z) (eP _)
 have cellK:∀x c,X.env.cells.lookup x=some c→∀v,s.heap.IsCell c v→h'.IsCell c v:=fun x c e v ⟨o,ho,hd⟩=>by
  have nch:c∉ch:=fun z=>(hch c z).2.2.1 x c e rfl
  by_cases hc:c∈X.fs
  ·obtain ⟨sl,q⟩:=slot c o (I.cne x c e) hc nch ho (I.freeC x c e); exact ⟨_,q,hd⟩
  ·exact ⟨o,keep c o (I.cne x c e) hc nch ho (I.freeC x c e),hd⟩
 refine ⟨I.ok,I.os,hg,⟨fun b o e n hb hx=> ?_,fun b o e n hb hx=> ?_,fun b o e n hx=> ?_,fun b o e hx=> ?_,fun b xs e=>tups b xs (I.base.tups b xs e),fun b o xs e=>frzs b o xs (I.base.frzs b o xs e),fun b ps e=> ?_⟩, ?_,fun x c e=> ?_, ?_,fun x c e=> ?_,fun p hp=> ?_,hok,I.len⟩
 ·exact keep b o (neL b o e) hb (neC b o e hx) (I.base.keep b o e n hb hx) (I.base.free b o e n hx)
 ·obtain ⟨sl,e1⟩:=I.base.slot b o e n hb hx; obtain ⟨sl',e2⟩:=slot b _ (neL b o e) hb (neC b o e hx) e1 (I.base.free b o e n hx); exact ⟨sl',e2⟩
 ·obtain ⟨o',e1⟩:=I.base.there b o e hx; exact free b o' (neC b o e hx) e1 (I.base.free b o e n hx)
 ·obtain ⟨o',e1⟩:=I.base.there b o e hx; exact there b o' (neC b o e hx) e1
 ·obtain ⟨m1,e1⟩:=I.base.tbls b ps e; obtain ⟨m2,e2⟩:=tbls b _ e1; exact ⟨m1++m2,by rw [e2,Array.append_assoc]⟩
 ·obtain ⟨m,hn,hl⟩:=I.loc; refine ⟨m,ns m hn,fun i x v e1 e2 e3=> ?_⟩; obtain ⟨u,r,l⟩:=hl i x v e1 e2 e3; refine ⟨u,r, ?_⟩
  rcases l with l | ⟨k,c,e,z⟩
  ·exact .inl l
  ·exact .inr ⟨k,c,e,cellK x c e _ z⟩
 ·obtain ⟨v,z⟩:=I.cell x c e; exact ⟨v,cellK x c e v z⟩
 ·obtain ⟨m,⟨o,_,_,ho,_⟩,_⟩:=I.loc; exact free _ o (fun z=>(hch _ z).2.1 rfl) ho I.free
 ·obtain ⟨v,o,ho,hd⟩:=I.cell x c e; exact free c o (fun z=>(hch c z).2.2.1 x c e rfl) ho (I.freeC x c e)
 ·obtain ⟨e,n,ne,nf,d⟩:=I.pin p hp; have nch:p.1∉ch:=fun z=>(hch p.1 z).2.2.2 p hp rfl
  exact ⟨keep p.1 p.2 ne nf nch e n,free p.1 p.2 nch e n,ne,nf,d⟩
theorem Inv.un {t':Nat} (I:Inv X pins σ H s) (u:Un X.fs [] H H' s.heap h') (hok:HOk X.prog X.w H' h'):Inv X pins σ H' {s with heap:=h',toks:=t'}:=by
 obtain ⟨m,⟨o,es,ep,ho,r⟩,_⟩:=id I.loc; obtain ⟨sl,hL⟩:=u.any ho I.free (by simp)
 exact I.step (g':=s.gens) (d':=s.drawn) (ch:=[]) (fun _ z=>nomatch z) (fun b o _ hb _ e n=>u.keep b o e n hb (by simp)) (fun b o _ hb _ e n=>u.slot b o e n hb (by simp)) (fun b o _ e n=>u.free b o e n (by simp)) (fun b o _ e=>u.there b o e (by simp)) u.tups u.frzs u.tbls (fun m' hm=>by
  obtain ⟨o',es',ep',ho',r'⟩:=hm; rw [ho] at ho'; cases ho'
  exact ⟨_,es',ep',hL,r'⟩) hok I.bare
theorem Inv.call {g':Array GenState} {t':Nat} {d':Drawn} {ch:List Addr} (I:Inv X pins σ H s) (u:Un (frs X.stack) ch H H' s.heap h') (hok:HOk X.prog X.w H' h') (hg:AllBare g')
  (hch:∀b∈ch,(b∈X.ex∨X.s₀.heap.objs.size≤b)∧b≠X.env.locals∧(∀x c,X.env.cells.lookup x=some c→c≠b)∧∀p∈X.pn++pins,p.1≠b):
  Inv X pins σ H' {s with heap:=h',gens:=g',drawn:=d',toks:=t'}:=by
 obtain ⟨m,⟨o,es,ep,ho,r⟩,_⟩:=id I.loc; obtain ⟨sl,hL⟩:=u.any ho I.free fun z=>(hch _ z).2.1 rfl
 exact I.step (ch:=ch) hch (fun b o hL hb hc e n=>u.keep b o e n (fun z=>(aS.mp (I.stkSub b z)).elim hL hb) hc) (fun b o _ _ hc e n=>u.any e n hc) (fun b o hc e n=>u.free b o e n hc) (fun b o hc e=>u.there b o e hc) u.tups u.frzs u.tbls (fun m' hm=>by
  obtain ⟨o',es',ep',ho',r'⟩:=hm; rw [ho] at ho'; cases ho'
  exact ⟨_,es',ep',hL,r'⟩) hok hg
theorem Inv.turned {t':Nat} {it:Addr} (I:Inv X pins σ H s) (k:∀b o,b≠it→s.heap.get? b=some o→h'.get? b=some o) (hn:H it=none) (hL:it≠X.env.locals)
  (h1:it∈X.ex∨X.s₀.heap.objs.size≤it) (h2:∀x c,X.env.cells.lookup x=some c→c≠it) (h3:∀p∈X.pn++pins,p.1≠it):Inv X pins σ H {s with heap:=h',toks:=t'}:=by
 have nit:∀b u,H b=some u→b≠it:=fun b u e z=>by rw [z,hn] at e; cases e
 refine I.step (g':=s.gens) (d':=s.drawn) (ch:=[it]) (fun b hb=> ?_) (fun b o _ _ hc e _=>k b o (fun z=>hc (by simp [z])) e) (fun b o _ _ hc e _=>⟨o.slots,k b o (fun z=>hc (by simp [z])) e⟩) (fun _ _ _ _ n=>n)
  (fun b o hc e=>⟨o,k b o (fun z=>hc (by simp [z])) e⟩) (fun _ _ e=>e) (fun _ _ _ e=>e) (fun b ps e=>⟨#[],by rw [e]; simp⟩) (fun m hm=> ?_) (fun b u e=> ?_) I.bare
 ·have e:b=it:=by simpa using hb
  subst e; exact ⟨h1,hL,h2,h3⟩
 ·obtain ⟨o,es,ep,ho,r⟩:=hm; exact ⟨o,es,ep,k _ o (Ne.symm hL) ho,r⟩
 ·refine (I.hok b u e).stay (fun c v hc q=>k c v ?_ q) (fun _ q=>q) fun _ _ q=>q
  rcases hc with z | z
  ·rw [z]; exact nit b u e
  ·exact nit c _ z
theorem Inv.tok (I:Inv X pins σ H s) (t:Nat):Inv X pins σ H {s with toks:=t}:=I.un (h':=s.heap) (t':=t) Un.refl I.hok
theorem Inv.kept {t':Nat} (I:Inv X pins σ H s) (k:∀b u,s.heap.get? b=some u→h'.get? b=some u):Inv X pins σ H {s with heap:=h',toks:=t'}:=I.un (Un.kept k) (I.hok.kept k)
theorem Inv.laid {a:Addr} {o:HO} {t':Nat} (I:Inv X pins σ H s) (k:∀b u,s.heap.get? b=some u→h'.get? b=some u) (hp:s.heap.objs.size≤a) (new:ObjOk X.prog X.w (upd H a o) h' a o):
  Inv X pins σ (upd H a o) {s with heap:=h',toks:=t'}:=I.un (Un.laid k hp (I.hok.fresh hp)) (I.hok.laid k hp new)
theorem Inv.write {x e:Addr} {o:HO} {t':Nat} (I:Inv X pins σ H s) (mu:Mut (H x)) (he:e=x∨H e=some (.own x)) (k:∀b u,b≠e→s.heap.get? b=some u→h'.get? b=some u) (heo:∃u,h'.get? e=some u)
  (new:ObjOk X.prog X.w (upd H x o) h' x o):Inv X pins σ (upd H x o) {s with heap:=h',toks:=t'}:=I.un (Un.write mu he k heo) (I.hok.write mu he k heo new)
theorem Inv.pins_of {pins':List (Addr × Obj)} (I:Inv X pins σ H s) (h:∀p∈pins',s.heap.get? p.1=some p.2∧H p.1=none∧p.1≠X.env.locals∧p.1∉X.fs∧∀v,p.2.data≠ .cell v):Inv X pins' σ H s:=
 ⟨I.ok,I.os,I.bare,I.base,I.loc,I.cell,I.free,I.freeC,fun p hp=>(aY.mp hp).elim (fun z=>I.pin p (bE _ z)) (h p),I.hok,I.len⟩
theorem vH {N:List Str} (hN:N.Nodup) {i j:Nat} {x:Str} (a:N[i]? =some x) (b:N[j]? =some x):i=j:=by obtain ⟨h1,e1⟩:=cG.mp a; obtain ⟨h2,e2⟩:=cG.mp b; exact (vC hN).mp (e1.trans e2.symm)
theorem store_ok2 {M:Model} {A:Around} {E:Value→Shared→Prop} {i:Nat} {x:Str} {v:V} {u:Value} {Q:Unit→Shared→Prop} (I:Inv X pins σ H s) (hN:X.N.Nodup) (hi:X.N[i]? =some x) (hx:Loc X.env.scope x) (r:RelV v u)
  (h:∀s',Inv X pins (σ.set i (some v)) H s'→(∃a,Heap.SameBut a s.heap s'.heap∧(a=X.env.locals∨X.env.cells.lookup x=some a))→Q () s') (hf:X.fn x=true∨X.env.scope.names.lookup x=some .local:=by first | exact .inl rfl | exact .inr rfl | assumption):wpAny M A (storeName X.env x u) Q E s:=by
 obtain ⟨m,hn,hl⟩:=id I.loc; have hcls:(X.env.scope.kind== .class || (X.env.scope.kind== .module && X.env.locals !=X.env.globals))=false:=by rw [I.ok.kind]; rfl
 have hiσ:i<σ.length:=by rw [I.len]; exact (cG.mp hi).1
 have cne:=I.cne
 have tracked:∀ {a:Addr} {h':Heap},(∃o,s.heap.get? a=some o∧H a=none)→Heap.SameBut a s.heap h'→HOk X.prog X.w H h':=fun {a h'} ha hs b ob e=>by
  obtain ⟨_,_,hfree⟩:=ha; refine (I.hok b ob e).stay (fun c w' hc q=>(hs.2 c ?_).trans q) (fun _ q=>q) fun _ _ q=>q
  rintro rfl
  rcases hc with rfl | hc
  ·rw [hfree] at e; cases e
  ·rw [hfree] at hc; cases hc
 rcases hx with hk | hk
 ·refine wpAny_storeName_local hk hn (fun h' hn' hs=> ?_) hcls; obtain ⟨oL,_,_,hoL,_⟩:=id hn; refine h _ ⟨I.ok,I.os,I.bare,⟨fun b o e n hb hx=> ?_,fun b o e n hb hx=> ?_,I.base.free,fun b o e hx=> ?_,I.base.tups,I.base.frzs,I.base.tbls⟩,⟨_,hn',fun j y v' e1 e2 e3=> ?_⟩,fun y c e=> ?_,I.free,I.freeC,fun p hp=> ?_,tracked ⟨oL,hoL,I.free⟩ hs,by simpa using I.len⟩ ⟨_,hs, .inl rfl⟩
  ·exact (hs.2 b (bH (aP (aI e) I.ok.above))).trans (I.base.keep b o e n hb hx)
  ·obtain ⟨sl,e1⟩:=I.base.slot b o e n hb hx; exact ⟨sl,(hs.2 b (bH (aP (aI e) I.ok.above))).trans e1⟩
  ·obtain ⟨o',e1⟩:=I.base.there b o e hx; exact ⟨o',(hs.2 b (bH (aP (aI e) I.ok.above))).trans e1⟩
  ·by_cases hj:j=i
   ·subst hj; rw [hi] at e1; cases e1; rw [pE hiσ] at e2; cases e2; exact ⟨u,r, .inl ⟨hk,by simp⟩⟩
   ·rw [lP (Ne.symm hj)] at e2; obtain ⟨u',r',q⟩:=hl j y v' e1 e2 e3; refine ⟨u',r', ?_⟩
    rcases q with ⟨k,e⟩ | ⟨k,c,e,z⟩
    ·refine .inl ⟨k, ?_⟩; have:y≠x:=fun e=>hj (vH hN e1 (e▸hi))
     simp [this,e]
    ·exact .inr ⟨k,c,e,z.sameBut hs (cne y c e)⟩
  ·obtain ⟨w',z⟩:=I.cell y c e; exact ⟨w',z.sameBut hs (cne y c e)⟩
  ·obtain ⟨e,n,ne,nf,d⟩:=I.pin p hp; exact ⟨(hs.2 p.1 ne).trans e,n,ne,nf,d⟩
 ·have hfn:X.fn x=true:=by
   rcases hf with z | z
   ·exact z
   ·rw [z] at hk; cases hk
  obtain ⟨c,hc⟩:=I.ok.has x (.inl hk); obtain ⟨w',z⟩:=I.cell x c hc; refine wpAny_storeName_cell I.ok.kind hk hc z (fun h' hc' hs=> ?_); obtain ⟨oc,hoc,hocd⟩:=id z; refine h {s with heap:=h'} ⟨I.ok,I.os,I.bare,⟨fun b o e n hb hx=> ?_,fun b o e n hb hx=> ?_,I.base.free,fun b o e hx=> ?_,I.base.tups,I.base.frzs,I.base.tbls⟩,⟨m,hn.sameBut hs (Ne.symm (cne x c hc)),fun j y v' e1 e2 e3=> ?_⟩,fun y c' e=> ?_,I.free,I.freeC,fun p hp=> ?_,tracked ⟨oc,hoc,I.freeC x c hc⟩ hs,by simpa using I.len⟩ ⟨c,hs, .inr hc⟩
  ·exact (hs.2 b (bH (aP (aI e) (I.ok.cab x c hfn hc)))).trans (I.base.keep b o e n hb hx)
  ·obtain ⟨sl,e1⟩:=I.base.slot b o e n hb hx; exact ⟨sl,(hs.2 b (bH (aP (aI e) (I.ok.cab x c hfn hc)))).trans e1⟩
  ·obtain ⟨o',e1⟩:=I.base.there b o e hx; exact ⟨o',(hs.2 b (bH (aP (aI e) (I.ok.cab x c hfn hc)))).trans e1⟩
  ·by_cases hj:j=i
   ·subst hj; rw [hi] at e1; cases e1; rw [pE hiσ] at e2; cases e2; exact ⟨u,r, .inr ⟨.inl hk,c,hc,hc'⟩⟩
   ·rw [lP (Ne.symm hj)] at e2; obtain ⟨u',r',q⟩:=hl j y v' e1 e2 e3; refine ⟨u',r', ?_⟩
    rcases q with q | ⟨k,c',e,z'⟩
    ·exact .inl q
    ·refine .inr ⟨k,c',e,z'.sameBut hs ?_⟩; rintro rfl; exact hj (vH hN e1 (I.ok.inj _ _ _ e hc▸hi))
  ·by_cases hcc:c'=c
   ·subst hcc; exact ⟨_,hc'⟩
   ·obtain ⟨w2,z2⟩:=I.cell y c' e; exact ⟨w2,z2.sameBut hs hcc⟩
  ·obtain ⟨e,n,ne,nf,d⟩:=I.pin p hp; refine ⟨(hs.2 p.1 ?_).trans e,n,ne,nf,d⟩; intro q; rw [q,hoc] at e; have q':oc=p.2:=cA.inj e; exact d w' (by rw [← q']; exact hocd)
theorem rM {M:Model} {A:Around} {E:Value→Shared→Prop} {i:Nat} {x:Str} {v:V} {u:Value} {Q:Unit→Shared→Prop} (I:Inv X pins σ H s) (hN:X.N.Nodup) (hi:X.N[i]? =some x) (hx:Loc X.env.scope x) (r:RelV v u)
  (h:∀s',Inv X pins (σ.set i (some v)) H s'→Q () s') (hf:X.fn x=true∨X.env.scope.names.lookup x=some .local:=by first | exact .inl rfl | exact .inr rfl | assumption):wpAny M A (storeName X.env x u) Q E s:=
 store_ok2 I hN hi hx r (fun s' I' _=>h s' I') hf
theorem Inv.call' {s':Shared} {ch:List Addr} (I:Inv X pins σ H s) (ho:s'.os=s.os) (u:Un (frs X.stack) ch H H' s.heap s'.heap) (hok:HOk X.prog X.w H' s'.heap) (hg:AllBare s'.gens)
  (hch:∀b∈ch,(b∈X.ex∨X.s₀.heap.objs.size≤b)∧b≠X.env.locals∧(∀x c,X.env.cells.lookup x=some c→c≠b)∧∀p∈X.pn++pins,p.1≠b):Inv X pins σ H' s':=by
 obtain ⟨h',g',d',t',o'⟩:=s'; have e:o'=s.os:=ho; subst e; exact I.call (g':=g') (t':=t') (d':=d') u hok hg hch
end
abbrev XK:=Value→Option Addr→Hp→Prop
abbrev St:=List (Option V)
abbrev VK:=V→Hp→Prop
abbrev TE:=St→Hp→VK→Prop
abbrev TT:=St→Hp→(Bool→Hp→Prop)→Prop
abbrev TA:=St→Hp→(List V→Hp→Prop)→Prop
structure wY where
 nx:St→Hp→Prop
 rt:VK
 bk:St→Hp→Prop:=fun _ _=>False
 ct:St→Hp→Prop:=fun _ _=>False
abbrev TS:=wY→St→Hp→Prop
def EP (X:Cx) (pins:List (Addr × Obj)) (σ:St) (Q:VK) (u:Value) (s':Shared):Prop:=∃v H',Inv X pins σ H' s'∧RelV v u∧Q v H'
def TP (X:Cx) (pins:List (Addr × Obj)) (σ:St) (Q:Bool→Hp→Prop) (b:Bool) (s':Shared):Prop:=∃H',Inv X pins σ H' s'∧Q b H'
def AP (X:Cx) (pins:List (Addr × Obj)) (σ:St) (Q:List V→Hp→Prop) (us:List Value) (s':Shared):Prop:=∃vs H',Inv X pins σ H' s'∧Vals vs us∧Q vs H'
def SP (X:Cx) (pins:List (Addr × Obj)) (D:wY) (f:Flow) (s':Shared):Prop:=
 match f with
 | .next=>∃σ' H',Inv X pins σ' H' s'∧D.nx σ' H'
 | .brk=>∃σ' H',Inv X pins σ' H' s'∧D.bk σ' H'
 | .cont=>∃σ' H',Inv X pins σ' H' s'∧D.ct σ' H'
 | .ret u=>∃v σ' H',Inv X pins σ' H' s'∧RelV v u∧D.rt v H'
def PE (X:Cx) (e:Expr) (t:TE):Prop:=
 ∀ (pins:List (Addr × Obj)) (s:Shared) (σ:St) (H:Hp) (Q:VK),Inv X pins σ H s→t σ H Q→wpAny (model X.prog X.w) X.A (eval e X.env) (EP X pins σ Q) X.xe s
def PT (X:Cx) (e:Expr) (t:TT):Prop:=
 ∀ (pins:List (Addr × Obj)) (s:Shared) (σ:St) (H:Hp) (Q:Bool→Hp→Prop),Inv X pins σ H s→t σ H Q→wpAny (model X.prog X.w) X.A (isTrue e X.env (eval e X.env)) (TP X pins σ Q) X.xe s
def PW (X:Cx) (e:Expr) (t:TT):Prop:=
 ∀ (whole:Sem Value) (pins:List (Addr × Obj)) (s:Shared) (σ:St) (H:Hp) (Q:Bool→Hp→Prop),Inv X pins σ H s→t σ H Q→wpAny (model X.prog X.w) X.A (isTrue e X.env whole) (TP X pins σ Q) X.xe s
theorem PW.pt {X:Cx} {e:Expr} {t:TT} (h:PW X e t):PT X e t:=h _
def PA (X:Cx) (es:List Expr) (t:TA):Prop:=
 ∀ (pos:Pos) (pins:List (Addr × Obj)) (s:Shared) (σ:St) (H:Hp) (Q:List V→Hp→Prop),Inv X pins σ H s→t σ H Q→wpAny (model X.prog X.w) X.A (spliced (backTo pos (starEach es X.env))) (AP X pins σ Q) X.xe s
def PS (X:Cx) (st:Stmt) (t:TS):Prop:=
 ∀ (pins:List (Addr × Obj)) (s:Shared) (σ:St) (H:Hp) (D:wY),Inv X pins σ H s→t D σ H→wpAny (model X.prog X.w) X.A (exec st X.env) (SP X pins D) X.xe s
def PSs (X:Cx) (st:List Stmt) (t:TS):Prop:=
 ∀ (pins:List (Addr × Obj)) (s:Shared) (σ:St) (H:Hp) (D:wY),Inv X pins σ H s→t D σ H→wpAny (model X.prog X.w) X.A (execs st X.env) (SP X pins D) X.xe s
theorem thn {α:Type} {t:Sem α} {Q Q':α→Shared→Prop} {M:Model} {A:Around} {E:Value→Shared→Prop} {s:Shared} (h:wpAny M A t Q E s) (hQ:∀a s,Q a s→Q' a s):wpAny M A t Q' E s:=wpAny_mono h hQ fun _ _ x=>x
section
variable {X:Cx}
def pD (i:Nat):TE:=fun σ H Q=>∃v,σ[i]? =some (some v)∧Q v H
def tC (v:V):TE:=fun _ H Q=>Q v H
theorem pe_var {i:Nat} {x:Str} {pos:Pos} (hN:X.N[i]? =some x) (hv:Vis X.env.scope x) (hd:(x==("__debug__":Str))=false:=by decide) (hcd:(x==("__classdict__":Str))=false:=by decide):PE X (.Name x pos) (pD i):=by
 intro pins s σ H Q I h; obtain ⟨v,e,h⟩:=h; obtain ⟨m,hn,hl⟩:=I.loc; obtain ⟨u,r,l⟩:=hl i x v hN e hv; have fin:EP X pins σ Q u s:=⟨v,H,I,r,h⟩
 rcases l with ⟨hk,hm⟩ | ⟨hk,c,hc,hcell⟩
 ·exact wpAny_Name (wpAny_loadName_local I.ok.kind hk hn hm fin) hd
 ·rcases hk with hk | hk
  ·exact wpAny_Name (wpAny_loadName_cell I.ok.kind hk hc hcell fin) hd
  ·exact wpAny_Name (wpAny_loadName_free I.ok.kind hk hc hcell fin hcd) hd
theorem pe_int {i j pos}:PE X (.Constant (.int i) j pos) (tC (.int i)):=fun _ _ _ H _ I h=>wpAny_Constant_int ⟨.int i,H,I.tok _,⟨_,rfl⟩,h⟩
theorem pe_bl {b j pos}:PE X (.Constant (.bool b) j pos) (tC (.bl b)):=fun _ _ _ H _ I h=>Constant_bool ⟨.bl b,H,I,rfl,h⟩
theorem pe_non {j pos}:PE X (.Constant .none j pos) (tC .non):=fun _ _ _ H _ I h=>Constant_none ⟨.non,H,I,rfl,h⟩
theorem pe_str {x j pos}:PE X (.Constant (.str x) j pos) (tC (.str x)):=fun _ _ _ H _ I h=>Calls.Constant_str ⟨.str x,H,I.tok _,⟨_,rfl⟩,h⟩
def Gl (X:Cx) (x:Str):Prop:=X.env.kindOf x=some .globalImplicit
theorem uO {E:Value→Shared→Prop} {pins:List (Addr × Obj)} {s:Shared} {σ:St} {H:Hp} {x:Str} {u:Value} {pos:Pos} {Q:Value→Shared→Prop} (I:Inv X pins σ H s) (hg:Gl X x) (hm:X.mg x=some u) (h:Q u s)
  (hd:(x==("__debug__":Str))=false:=by decide):wpAny (model X.prog X.w) X.A (eval (.Name x pos) X.env) Q E s:=
 Calls.Name_function_global I.ok.kind hg (Calls.loadGlobal_global (by rw [I.ok.glob]; exact I.mod.glob.keeps I.bk) hm h) hd
theorem mQ {E:Value→Shared→Prop} {pins:List (Addr × Obj)} {s:Shared} {σ:St} {H:Hp} {x:Str} {u:Value} {pos:Pos} {Q:Value→Shared→Prop} (I:Inv X pins σ H s) (hg:Gl X x) (hm:X.mg x=none) (hv:bootBuiltins x=some u) (h:Q u s)
  (hn:x≠"__name__":=by decide) (hd:(x==("__debug__":Str))=false:=by decide):wpAny (model X.prog X.w) X.A (eval (.Name x pos) X.env) Q E s:=by
 obtain ⟨mb,h1,h2⟩:=I.mod.blt; exact Calls.Name_function_global I.ok.kind hg (Calls.loadGlobal_builtin (by rw [I.ok.glob]; exact I.mod.glob.keeps I.bk) hm (by rw [I.ok.blt]; exact h1.keeps I.bk) ((h2 x hn).trans hv) h) hd
theorem rJ {x:Str} {v:V} {u:Value} {pos:Pos} (hg:Gl X x) (hm:X.mg x=some u) (r:RelV v u) (hd:(x==("__debug__":Str))=false:=by decide):PE X (.Name x pos) (tC v):=
 fun _ _ _ H _ I h=>uO I hg hm ⟨v,H,I,r,h⟩ hd
theorem pe_bltn {x:Str} {v:V} {u:Value} {pos:Pos} (hg:Gl X x) (hm:X.mg x=none) (hv:bootBuiltins x=some u) (r:RelV v u) (hn:x≠"__name__":=by decide) (hd:(x==("__debug__":Str))=false:=by decide):PE X (.Name x pos) (tC v):=
 fun _ _ _ H _ I h=>mQ I hg hm hv ⟨v,H,I,r,h⟩ hn hd
def t2I (ta tb:TE) (k:Int→Int→Hp→Prop):St→Hp→Prop:=fun σ H=>ta σ H fun x H1=>tb σ H1 fun y H2=>∃i j,x= .int i∧y= .int j∧k i j H2
variable {a b:Expr} {ta tb:TE} {pos:Pos}
def tCmp (p:Int→Int→Bool) (ta tb:TE):TE:=fun σ H Q=>t2I ta tb (fun i j H2=>Q (.bl (p i j)) H2) σ H
abbrev tLt:TE→TE→TE:=tCmp fun i j=>decide (i<j)
abbrev tLe:TE→TE→TE:=tCmp fun i j=>decide (i≤j)
abbrev tGt:TE→TE→TE:=tCmp fun i j=>decide (j<i)
abbrev tGe:TE→TE→TE:=tCmp fun i j=>decide (j≤i)
abbrev tEqI:TE→TE→TE:=tCmp fun i j=>decide (i=j)
abbrev tNeI:TE→TE→TE:=tCmp fun i j=> !decide (i=j)
def tB (t:TE):TT:=fun σ H Q=>t σ H fun x H1=>∃c,x= .bl c∧Q c H1
theorem pt_val {e:Expr} {t:TE} (h:PE X e t) (he:∀whole,isTrue e X.env whole=(do let v ← whole; standAt e.pos; holding [v] (truthy v)):=by intro _; rfl):PT X e (tB t):=by intro pins s σ H Q I hw; refine isTrue_plain (thn (h pins s σ H _ I hw) fun v s1 ⟨x,H1,I1,r1,q1⟩=> ?_) (he _); obtain ⟨d,rfl,q⟩:=q1; cases r1; exact wpAny_truthy_bool ⟨H1,I1,q⟩
variable {tA tB':TT} {rest:List Expr}
def tAnd (t u:TT):TT:=fun σ H Q=>t σ H fun c H1=>if c=true then u σ H1 Q else Q false H1
def tOr (t u:TT):TT:=fun σ H Q=>t σ H fun c H1=>if c=true then Q true H1 else u σ H1 Q
def tNot (t:TT):TT:=fun σ H Q=>t σ H fun c H1=>Q (!c) H1
theorem pw_and1 (ha:PT X a tA):PW X (.BoolOp .And [a] pos) tA:=by
 intro wh pins s σ H Q I h; refine isTrue_and (thn (ha pins s σ H Q I h) fun c s1 e=> ?_); cases c with
 | true=>exact isTrue_and_nil e
 | false=>exact e
theorem pw_or1 (ha:PT X a tA):PW X (.BoolOp .Or [a] pos) tA:=by
 intro wh pins s σ H Q I h; refine isTrue_or (thn (ha pins s σ H Q I h) fun c s1 e=> ?_); cases c with
 | false=>exact isTrue_or_nil e
 | true=>exact e
theorem pw_and (ha:PT X a tA) (hb:PW X (.BoolOp .And (b::rest) pos) tB'):PW X (.BoolOp .And (a::b::rest) pos) (tAnd tA tB'):=by
 intro wh pins s σ H Q I h; refine isTrue_and (thn (ha pins s σ H _ I h) fun c s1 ⟨H1,I1,q1⟩=> ?_); cases c with
 | true=>exact hb wh pins s1 σ H1 Q I1 q1
 | false=>exact ⟨H1,I1,q1⟩
theorem pw_or (ha:PT X a tA) (hb:PW X (.BoolOp .Or (b::rest) pos) tB'):PW X (.BoolOp .Or (a::b::rest) pos) (tOr tA tB'):=by
 intro wh pins s σ H Q I h; refine isTrue_or (thn (ha pins s σ H _ I h) fun c s1 ⟨H1,I1,q1⟩=> ?_); cases c with
 | true=>exact ⟨H1,I1,q1⟩
 | false=>exact hb wh pins s1 σ H1 Q I1 q1
theorem pt_not (ha:PT X a tA):PT X (.UnaryOp .Not a pos) (tNot tA):=by intro pins s σ H Q I h; exact isTrue_not (ha pins s σ H (fun c H1=>Q (!c) H1) I h)
def tAndV (ta tb:TE):TE:=fun σ H Q=>ta σ H fun x H1=>∃c,x= .bl c∧if c=true then tb σ H1 Q else Q (.bl false) H1
def tNotV (ta:TE):TE:=fun σ H Q=>ta σ H fun x H1=>∃c,x= .bl c∧Q (.bl (!c)) H1
theorem pe_one {op} {t:TE} (h:PE X a t):PE X (.BoolOp op [a] pos) t:=fun pins s σ H Q I hw=>BoolOp_one (h pins s σ H Q I hw)
theorem pe_and (ha:PE X a ta) (hb:PE X (.BoolOp .And (b::rest) pos) tb):PE X (.BoolOp .And (a::b::rest) pos) (tAndV ta tb):=by
 intro pins s σ H Q I h; refine BoolOp_and (thn (ha pins s σ H _ I h) fun v s1 ⟨x,H1,I1,r1,q1⟩=> ?_); obtain ⟨c,rfl,q1⟩:=q1; cases r1; refine wpAny_truthy_bool ?_; cases c with
 | true=>exact hb pins s1 σ H1 Q I1 q1
 | false=>exact ⟨.bl false,H1,I1,rfl,q1⟩
theorem pe_not (ha:PE X a ta):PE X (.UnaryOp .Not a pos) (tNotV ta):=by intro pins s σ H Q I h; refine UnaryOp_ (thn (ha pins s σ H _ I h) fun v s1 ⟨x,H1,I1,r1,q1⟩=> ?_); obtain ⟨c,rfl,q1⟩:=q1; cases r1; exact not_of (wpAny_truthy_bool ⟨.bl (!c),H1,I1,rfl,q1⟩)
end
def SqL (K:aB) (H:Hp) (a:Addr) (xs:List V):Prop:=
 Rd H a (.lst xs)∨
  ∃ (o:Obj) (its:Array Value) (n:Nat),K.lookup a=some o∧o.cls= .type "list"∧o.dict=none∧o.data= .seq its n∧its.size≤sizeLine∧Vals xs its.toList
def SqT (K:aB) (H:Hp) (a:Addr) (xs:List V):Prop:=
 Rd H a (.tup xs)∨
  ∃ (o:Obj) (its:Array Value) (n:Nat),K.lookup a=some o∧o.cls= .type "tuple"∧o.data= .seq its n∧its.size≤sizeLine∧Vals xs its.toList
def absV:Value→Option V
 | .none=>some .non
 | .bool b=>some (.bl b)
 | .int i _=>some (.int i)
 | .str x _=>some (.str x)
 | .bytes b _=>some (.byt b)
 | .float b _=>some (.flt b)
 | .ref a=>some (.ref a)
 | .type n=>some (.ty n)
 | _=>none
theorem RelV.abs {x:V} {u:Value} (r:RelV x u):absV u=some x:=by
 cases x with
 | non=>cases r; rfl
 | bl _=>cases r; rfl
 | int _=>obtain ⟨t,rfl⟩:=r; rfl
 | str _=>obtain ⟨t,rfl⟩:=r; rfl
 | byt _=>obtain ⟨t,rfl⟩:=r; rfl
 | flt _=>obtain ⟨t,rfl⟩:=r; rfl
 | ref _=>cases r; rfl
 | ty _=>cases r; rfl
theorem RelV.inj {x y:V} {u:Value} (r:RelV x u) (q:RelV y u):x=y:=cA.inj (r.abs.symm.trans q.abs)
theorem Vals.inj:∀ {xs ys:List V} {us:List Value},Vals xs us→Vals ys us→xs=ys
 | _,_,_, .nil, .nil=>rfl
 | _,_,_, .cons r t, .cons r' t'=>by rw [r.inj r',Vals.inj t t']
section
variable {X:Cx} {pins:List (Addr × Obj)} {σ:St} {H:Hp} {s:Shared} {a:Addr} {xs ys:List V}
theorem SqL.of {K:aB} (h:H a=some (.lst xs)):SqL K H a xs:= .inl (.inl h)
theorem SqT.of {K:aB} (h:H a=some (.tup xs)):SqT K H a xs:= .inl (.inl h)
theorem Inv.list (I:Inv X pins σ H s) (h:SqL X.K H a xs):∃its:List Value,Vals xs its∧PlainL s.heap a its.toArray∧xs.length≤sizeLine:=by
 rcases h with h | ⟨o,its,n,hk,hc,hd,hs,hz,r⟩
 ·obtain ⟨z,its,n,r,e⟩:=h.ok I.hok; exact ⟨its,r,⟨_,n,e,rfl,rfl,rfl⟩,z⟩
 ·refine ⟨its.toList,r,⟨o,n,I.kIn a o hk,hc,hd,by simpa using hs⟩, ?_⟩; have e:=r.length; simp only [eC] at e; omega
theorem Inv.tuple (I:Inv X pins σ H s) (h:SqT X.K H a xs):∃its:List Value,Vals xs its∧IsTup s.heap a its.toArray∧xs.length≤sizeLine:=by
 rcases h with h | ⟨o,its,n,hk,hc,hs,hz,r⟩
 ·obtain ⟨z,its,r,p⟩:=h.ok I.hok; exact ⟨its,r,p.tup,z⟩
 ·refine ⟨its.toList,r,⟨o,I.kIn a o hk,hc,n,by simpa using hs⟩, ?_⟩; have e:=r.length; simp only [eC] at e; omega
theorem Inv.list_inj (I:Inv X pins σ H s) (h:SqL X.K H a xs) (h':SqL X.K H a ys):xs=ys:=by
 obtain ⟨its,r,⟨o,n,e,_,_,d⟩,_⟩:=I.list h; obtain ⟨its',r',⟨o',n',e',_,_,d'⟩,_⟩:=I.list h'; rw [e] at e'; cases e'; rw [d] at d'; injection d' with d1 _
 have:its=its':=by simpa using congrArg Array.toList d1
 subst this; exact r.inj r'
theorem Inv.tuple_inj (I:Inv X pins σ H s) (h:SqT X.K H a xs) (h':SqT X.K H a ys):xs=ys:=by
 obtain ⟨its,r,⟨o,e,_,n,d⟩,_⟩:=I.tuple h; obtain ⟨its',r',⟨o',e',_,n',d'⟩,_⟩:=I.tuple h'; rw [e] at e'; cases e'; rw [d] at d'; injection d' with d1 _
 have:its=its':=by simpa using congrArg Array.toList d1
 subst this; exact r.inj r'
end
abbrev Cx.wish (X:Cx) (E:Value→Shared→Prop):Cx:={X with xe:=E}
abbrev Cx.nox (X:Cx):Cx:=X.wish fun _ _=>False
theorem Cx.Ok.wish {X:Cx} (ok:X.Ok) (E:Value→Shared→Prop):(X.wish E).Ok:=
 ⟨ok.mod,ok.kind,ok.glob,ok.blt,ok.above,ok.inj,ok.has,ok.cab,ok.hd,ok.frames,ok.stk,ok.exf,ok.bs,ok.bsz,ok.noex,ok.exfs,ok.funs,ok.frf⟩
theorem Cx.Ok.unwish {X:Cx} {E:Value→Shared→Prop} (ok:(X.wish E).Ok):X.Ok:=
 ⟨ok.mod,ok.kind,ok.glob,ok.blt,ok.above,ok.inj,ok.has,ok.cab,ok.hd,ok.frames,ok.stk,ok.exf,ok.bs,ok.bsz,ok.noex,ok.exfs,ok.funs,ok.frf⟩
section
variable {X:Cx} {pins:List (Addr × Obj)} {σ:St} {H:Hp} {s:Shared} {E:Value→Shared→Prop}
theorem Inv.wish (I:Inv X pins σ H s) (E:Value→Shared→Prop):Inv (X.wish E) pins σ H s:=⟨I.ok.wish E,I.os,I.bare,I.base,I.loc,I.cell,I.free,I.freeC,I.pin,I.hok,I.len⟩
theorem Inv.unwish (I:Inv (X.wish E) pins σ H s):Inv X pins σ H s:=⟨I.ok.unwish,I.os,I.bare,I.base,I.loc,I.cell,I.free,I.freeC,I.pin,I.hok,I.len⟩
theorem SP.unwish {D:wY} {f:Flow} {s':Shared} (h:SP (X.wish E) pins D f s'):SP X pins D f s':=by
 cases f with
 | next=>obtain ⟨σ',H',I,q⟩:=h; exact ⟨σ',H',I.unwish,q⟩
 | brk=>obtain ⟨σ',H',I,q⟩:=h; exact ⟨σ',H',I.unwish,q⟩
 | cont=>obtain ⟨σ',H',I,q⟩:=h; exact ⟨σ',H',I.unwish,q⟩
 | ret u=>obtain ⟨v,σ',H',I,r,q⟩:=h; exact ⟨v,σ',H',I.unwish,r,q⟩
theorem PSs.nox {st:List Stmt} {t:TS} (h:PSs X.nox st t):PSs X st t:=fun pins s σ H D I hw=>wpAny_mono (h pins s σ H D (I.wish _) hw) (fun _ _ q=>q.unwish) fun _ _ z=>False.elim z
end
section
variable {X:Cx} {st:Stmt} {rest:List Stmt} {t u:TS} {e:Expr} {te:TE} {pos:Pos}
def tNext:TS:=fun D σ H=>D.nx σ H
def tSeq (t u:TS):TS:=fun D σ H=>t {D with nx:=u D} σ H
theorem pss_nil:PSs X [] tNext:=fun _ _ σ H _ I h=>wpAny_execs_nil ⟨σ,H,I,h⟩
theorem pss_cons (h1:PS X st t) (h2:PSs X rest u):PSs X (st::rest) (tSeq t u):=by
 intro pins s σ H D I h; refine wpAny_execs_cons (thn (h1 pins s σ H {D with nx:=u D} I h) fun f s1 q=> ?_); cases f with
 | next=>obtain ⟨σ',H',I',q⟩:=q; exact h2 pins s1 σ' H' D I' q
 | ret v=>exact q
 | brk=>exact q
 | cont=>exact q
theorem pss_one (h1:PS X st t):PSs X [st] t:=by
 intro pins s σ H D I h; refine wpAny_execs_cons (thn (h1 pins s σ H D I h) fun f s1 q=> ?_); cases f with
 | next=>exact wpAny_execs_nil q
 | ret v=>exact q
 | brk=>exact q
 | cont=>exact q
theorem Inv.quiet {pins:List (Addr × Obj)} {σ:St} {H:Hp} {s:Shared} (I:Inv X pins σ H s):interactive X.env=false:=by simp [interactive,I.ok.kind]
def tDrop (te:TE):TS:=fun D σ H=>te σ H fun _ H1=>D.nx σ H1
theorem ps_expr (he:PE X e te) (hs:swapsWith e none pos.line X.env=pure false:=by rfl):PS X (.Expr e pos) (tDrop te):=by intro pins s σ H D I h; exact wpAny_Expr_any (thn (he pins s σ H _ I h) fun v s1 ⟨x,H1,I1,r1,q1⟩=>⟨σ,H1,I1,q1⟩) I.quiet hs
def tRet (te:TE):TS:=fun D σ H=>te σ H D.rt
theorem ps_ret (he:PE X e te):PS X (.Return (some e) pos) (tRet te):=by intro pins s σ H D I h; exact wpAny_Return_some (thn (he pins s σ H _ I h) fun v s1 ⟨x,H1,I1,r1,q1⟩=>⟨x,σ,H1,I1,r1,q1⟩)
def tIfS (c:TT) (t u:TS):TS:=fun D σ H=>c σ H fun b H1=>if b=true then t D σ H1 else u D σ H1
theorem ps_if {c:Expr} {a b:List Stmt} {tc:TT} (hc:PT X c tc) (ha:PSs X a t) (hb:PSs X b u):PS X (.If c a b pos) (tIfS tc t u):=by
 intro pins s σ H D I h; refine wpAny_If (thn (hc pins s σ H _ I h) fun d s1 ⟨H1,I1,q1⟩=> ?_); cases d with
 | true=>exact ha pins s1 σ H1 D I1 q1
 | false=>exact hb pins s1 σ H1 D I1 q1
end
abbrev TG:=V→St→Hp→(St→Hp→Prop)→Prop
abbrev TGs:=List V→St→Hp→(St→Hp→Prop)→Prop
def PG (X:Cx) (target:Expr) (t:TG):Prop:=
 ∀ (pins:List (Addr × Obj)) (s:Shared) (σ:St) (H:Hp) (v:V) (u:Value) (Q:St→Hp→Prop),Inv X pins σ H s→RelV v u→t v σ H Q→
  wpAny (model X.prog X.w) X.A (assign target X.env u) (fun _ s'=>∃σ' H',Inv X pins σ' H' s'∧Q σ' H') X.xe s
def PGs (X:Cx) (ts:List Expr) (t:TGs):Prop:=
 ∀ (pins:List (Addr × Obj)) (s:Shared) (σ:St) (H:Hp) (vs:List V) (us:List Value) (Q:St→Hp→Prop),Inv X pins σ H s→Vals vs us→t vs σ H Q→
  wpAny (model X.prog X.w) X.A (assignInOrder ((assignEach ts X.env).map (·.2)) us) (fun _ s'=>∃σ' H',Inv X pins σ' H' s'∧Q σ' H') X.xe s
abbrev TSet:=V→V→V→Hp→(Hp→Prop)→Prop
def PSet (X:Cx) (t:TSet):Prop:=
 ∀ (pins:List (Addr × Obj)) (s:Shared) (σ:St) (H:Hp) (o i v:V) (ov iv u:Value) (Q:Hp→Prop),Inv X pins σ H s→RelV o ov→RelV i iv→RelV v u→t o i v H Q→
  wpAny (model X.prog X.w) X.A (setItem ov iv u) (fun _ s'=>∃H',Inv X pins σ H' s'∧Q H') X.xe s
abbrev TIp:=V→V→Hp→VK→Prop
section
variable {X:Cx} {pos:Pos}
def gName (i:Nat):TG:=fun v σ H Q=>Q (σ.set i (some v)) H
theorem dJ {i:Nat} {x:Str} (hN:X.N.Nodup) (hi:X.N[i]? =some x) (hx:Loc X.env.scope x) (hf:X.fn x=true∨X.env.scope.names.lookup x=some .local:=by first | exact .inl rfl | exact .inr rfl | assumption):PG X (.Name x pos) (gName i):=by intro pins s σ H v u Q I r h; exact wpAny_assign_Name (rM I hN hi hx r (fun s' I'=>⟨_,H,I',h⟩) hf)
def gNil:TGs:=fun vs σ H Q=>vs=[]∧Q σ H
def gCons (t:TG) (u:TGs):TGs:=fun vs σ H Q=>∃v r,vs=v::r∧t v σ H fun σ' H'=>u r σ' H' Q
theorem lR:PGs X [] gNil:=by intro pins s σ H vs us Q I r h; obtain ⟨e,h⟩:=h; subst e; cases r; exact assignInOrder_nil ⟨σ,H,I,h⟩
theorem fG {e:Expr} {es:List Expr} {t:TG} {u:TGs} (h1:PG X e t) (h2:PGs X es u)
  (hs:(assignEach (e::es) X.env).map (·.2)=assign e X.env::(assignEach es X.env).map (·.2):=by rfl):PGs X (e::es) (gCons t u):=by
 intro pins s σ H vs us Q I r h; obtain ⟨v,vr,e1,h⟩:=h; subst e1; cases r with
 | cons r rr=>rw [hs]; refine assignInOrder_cons (thn (h1 pins s σ H _ _ _ I r h) fun _ s1 ⟨σ1,H1,I1,q1⟩=> ?_); exact h2 pins s1 σ1 H1 _ _ Q I1 rr q1
def gTup (K:aB) (n:Nat) (t:TGs):TG:=fun v σ H Q=>∃a xs,v= .ref a∧SqT K H a xs∧xs.length=n∧t xs σ H Q
theorem pg_tup {es:List Expr} {k:Nat} {t:TGs} {n:Nat} (hc:X.calm=true) (h:PGs X es t)
  (hn:(assignEach es X.env).length=n:=by rfl) (hst:(assignEach es X.env).findIdx? (·.1)=none:=by rfl):PG X (.Tuple es k pos) (gTup X.K n t):=by
 intro pins s σ H v u Q I r hw; obtain ⟨a,xs,e1,hq,hl,hw⟩:=hw; subst e1; cases r; obtain ⟨its,rv,ht,hz⟩:=I.tuple hq; refine assign_Tuple_tuple (I.ok.hd hc) ht (by simp [hn,← hl,rv.length]) hst fun h' hx=> ?_
 have I1:Inv X pins σ H {s with heap:=h'}:=I.kept (t':=s.toks) fun b o e=>hx b o (bH (aI e)) e
 exact h pins _ σ H xs _ Q I1 (by simpa using rv) hw
def gSub (to ti:TE) (t:TSet):TG:=fun v σ H Q=>to σ H fun o H1=>ti σ H1 fun i H2=>t o i v H2 fun H3=>Q σ H3
theorem pg_sub {o i:Expr} {to ti:TE} {t:TSet} (ho:PE X o to) (hi:PE X i ti) (hs:PSet X t)
  (ha:∀v,assign (.Subscript o i pos) X.env v=(do
   let ov ← holding [v] (eval o X.env)
   let iv ← holding [v,ov] (eval i X.env)
   standAt pos
   holding [v,ov,iv] (setItem ov iv v)
   release [v,ov,iv] []):=by intro _; rfl):PG X (.Subscript o i pos) (gSub to ti t):=by
 intro pins s σ H v u Q I r h; rw [ha]; refine wpAny_bind (wpAny_holding (thn (ho pins s σ H _ I h) fun ov s1 ⟨x,H1,I1,r1,q1⟩=> ?_)); refine wpAny_bind (wpAny_holding (thn (hi pins s1 σ H1 _ I1 q1) fun iv s2 ⟨y,H2,I2,r2,q2⟩=> ?_)); refine wpAny_bind (wpAny_standAt (wpAny_bind (wpAny_holding (thn (hs pins s2 σ H2 x y v ov iv u _ I2 r1 r2 r q2) fun _ s3 ⟨H3,I3,q3⟩=> ?_)))); exact wpAny_release ⟨σ,H3,I3,q3⟩
def tAsg (te:TE) (g:TG):TS:=fun D σ H=>te σ H fun x H1=>g x σ H1 D.nx
theorem xN {tg e:Expr} {te:TE} {g:TG} (he:PE X e te) (hg:PG X tg g) (hs:swapsWithSole [tg] e pos.line X.env=pure false:=by rfl) (hw:swappedStores [tg] e X.env=pure none:=by rfl)
  (h1:(assignEach [tg] X.env).map (·.2)=[assign tg X.env]:=by rfl):PS X (.Assign [tg] e pos) (tAsg te g):=by
 intro pins s σ H D I h; refine wpAny_Assign_stores (thn (he pins s σ H _ I h) fun v s1 ⟨x,H1,I1,r1,q1⟩=> ?_) hs hw; rw [h1]; exact thn (hg pins s1 σ H1 x v _ I1 r1 q1) fun _ s2 q=>q
theorem ps_set {i:Nat} {x:Str} {e:Expr} {te:TE} {pos':Pos} (hN:X.N.Nodup) (hi:X.N[i]? =some x) (hx:Loc X.env.scope x) (he:PE X e te) (hs:swapsWith e (some (.Name x pos')) pos.line X.env=pure false:=by rfl) (hf:X.fn x=true∨X.env.scope.names.lookup x=some .local:=by first | exact .inl rfl | exact .inr rfl | assumption):
  PS X (.Assign [.Name x pos'] e pos) (tAsg te (gName i)):=by
 intro pins s σ H D I h; refine wpAny_Assign_Name (thn (he pins s σ H _ I h) fun v s1 ⟨y,H1,I1,r1,q1⟩=> ?_) hs; exact rM I1 hN hi hx r1 (fun s2 I2=>⟨_,H1,I2,q1⟩) hf
end
structure It where
 go:Nat→Hp→Prop
 yld:Nat→Hp→V→Hp→Prop
 stop:Nat→Hp→Prop
def sW (X:Cx) (pins:List (Addr × Obj)) (H:Hp) (b:Addr):Prop:=
 H b=none∧b≠X.env.locals∧b∉X.fs∧(b∈X.ex∨X.s₀.heap.objs.size≤b)∧(∀x c,X.env.cells.lookup x=some c→c≠b)∧∀p∈X.pn++pins,p.1≠b
theorem Inv.fpOk {X:Cx} {pins:List (Addr × Obj)} {σ:St} {H H':Hp} {s:Shared} {b:Addr} (I:Inv X pins σ H s) (hb:s.heap.objs.size≤b) (hn:H' b=none):sW X pins H' b:=by
 refine ⟨hn,eQ (aP I.lt hb),I.nofs hb, .inr (dO I.sz hb),fun x c e z=> ?_,fun p hp z=> ?_⟩
 ·obtain ⟨v,q⟩:=I.cell x c e; exact absurd (aP q.lt (by rw [z]; exact hb)) (eP _)
 ·exact absurd (aP (aI (I.pin p hp).1) (by rw [z]; exact hb)) (eP _)
structure yP (P:Program) (w:World) (K:aB) (tg:Expr) (J:It) (fp:List Addr) (it:Addr) (tn:Nat→Heap→Prop):Prop where
 mem:it∈fp
 obj:∀i h,tn i h→∀b∈fp,∃o,h.get? b=some o∧∀v,o.data≠ .cell v
 keep:∀i h h',tn i h→(∀b∈fp,∀o,h.get? b=some o→h'.get? b=some o)→tn i h'
 item:∀ (X:Cx),X.prog=P→X.w=w→X.K=K→X.calm=true→∀ (i:Nat) (pins:List (Addr × Obj)) (s:Shared) (σ:St) (H:Hp) (E:Value→Shared→Prop),Inv X pins σ H s→(∀b∈fp,sW X pins H b)→tn i s.heap→J.go i H→
  wpAny (model P w) X.A (pyNext (.ref it)) (fun r s1=>∃u,r=some u∧
   wpAny (model P w) X.A (letOwnedTupleGo tg (.ref it) u) (fun _ s2=>∃x H',Inv X pins σ H' s2∧RelV x u∧J.yld i H x H'∧tn (i+1) s2.heap∧∀b∈fp,H' b=none) E s1) E s
 done:∀ (X:Cx),X.prog=P→X.w=w→X.K=K→X.calm=true→∀ (i:Nat) (pins:List (Addr × Obj)) (s:Shared) (σ:St) (H:Hp) (E:Value→Shared→Prop),Inv X pins σ H s→(∀b∈fp,sW X pins H b)→tn i s.heap→J.stop i H→
  wpAny (model P w) X.A (pyNext (.ref it)) (fun r s1=>r=none∧Inv X pins σ H s1) E s
 self:∀ (A:Around) (i:Nat) (s:Shared) (Q:Value→Shared→Prop) (E:Value→Shared→Prop),tn i s.heap→Q (.ref it) s→wpAny (model P w) A (pyIter (.ref it)) Q E s
abbrev TI:=St→Hp→(It→Hp→Prop)→Prop
def PIE (X:Cx) (pins:List (Addr × Obj)) (σ:St) (tg:Expr) (R:It→Hp→Prop) (itv:Value) (s2:Shared):Prop:=
 ∃ (it:Addr) (fp:List Addr) (tn:Nat→Heap→Prop) (J:It) (H':Hp),itv= .ref it∧Inv X pins σ H' s2∧yP X.prog X.w X.K tg J fp it tn∧tn 0 s2.heap∧(∀b∈fp,sW X pins H' b)∧R J H'
def PI (X:Cx) (tg iter:Expr) (wi:TI):Prop:=
 ∀ (pins:List (Addr × Obj)) (s:Shared) (σ:St) (H:Hp) (R:It→Hp→Prop),Inv X pins σ H s→wi σ H R→
  wpAny (model X.prog X.w) X.A (eval iter X.env) (fun v s1=>wpAny (model X.prog X.w) X.A (pyIter v) (PIE X pins σ tg R) X.xe s1) X.xe s
theorem go_of {M:Model} {A:Around} {E:Value→Shared→Prop} {s:Shared} {tg:Expr} {it:Addr} {u:Value} {o:Obj} {n:String} {vs:Array Value} {Q:Unit→Shared→Prop} (ho:s.heap.get? it=some o) (hc:o.cls= .type n) (hd:o.data= .fields vs)
  (hn:["enumerate","zip","dict_itemiterator","dict_reverseitemiterator","odict_iterator","itertools.zip_longest","itertools.pairwise"].contains n=false) (hQ:Q () s):wpAny M A (letOwnedTupleGo tg (.ref it) u) Q E s:=by
 unfold letOwnedTupleGo
 cases tg<;>first
  | exact wpAny_pure hQ
  | (cases u<;>first
    | exact wpAny_pure hQ
    | (refine wpAny_bind (wpAny_load ho ?_)
       rw [hc,hd]; show wpAny M A (if (["enumerate","zip","dict_itemiterator","dict_reverseitemiterator","odict_iterator","itertools.zip_longest","itertools.pairwise"].contains n && vs[0]? ==some (rawInt _))=true then _ else _) Q E s; rw [if_neg (by intro h; rw [hn,jH] at h; cases h)]
       exact wpAny_pure hQ))
def Itl (K:aB) (a:Addr):It:=
 ⟨fun i H=>∃xs x,SqL K H a xs∧xs[i]? =some x,fun i H x H'=>H'=H∧∀xs,SqL K H a xs→xs[i]? =some x,fun i H=>∃xs,SqL K H a xs∧xs.length≤i⟩
def Itt (K:aB) (a:Addr):It:=
 ⟨fun i H=>∃xs x,SqT K H a xs∧xs[i]? =some x,fun i H x H'=>H'=H∧∀xs,SqT K H a xs→xs[i]? =some x,fun i H=>∃xs,SqT K H a xs∧xs.length≤i⟩
def Itr (lo:Int) (n:Nat):It:=⟨fun i _=>i<n,fun i H x H'=>H'=H∧x= .int (lo+i),fun i _=>n≤i⟩
theorem turn_list {P:Program} {w:World} {K:aB} {tg:Expr} (a it:Addr):yP P w K tg (Itl K a) [it] it (fun i h=>h.IsListIter it a i) where
 mem:=by simp
 obj:=fun i h st b hb=>by
  have e:b=it:=by simpa using hb
  subst e; obtain ⟨o,e,c,d⟩:=st; exact ⟨o,e,fun v z=>by rw [d] at z; cases z⟩
 keep:=fun i h h' st k=>st.at fun o e=>k it (by simp) o e
 item:=by
  intro X hP hw hK hc i pins s σ H E I hf st hg; subst hP hw hK; obtain ⟨xs,x,hq,hx⟩:=hg; obtain ⟨its,rv,p,hz⟩:=I.list hq; obtain ⟨u,hu,ru⟩:=rv.get hx; obtain ⟨f0,f1,f2,f3,f4,f5⟩:=hf it (by simp); refine wpAny_pyNext_list_item st p.isList (x:=u) (by simpa using hu) fun h' st' sb=> ?_
  have I1:Inv X pins σ H {s with heap:=h'}:=I.turned (t':=s.toks) (fun b o hb e=>(sb.2 b hb).trans e) f0 f1 f3 f4 f5; obtain ⟨o,e,c,d⟩:=id st'; exact ⟨u,rfl,go_of (s:={s with heap:=h'}) e c d (by decide) ⟨x,H,I1,ru,⟨rfl,fun ys hy=>by rw [I.list_inj hy hq]; exact hx⟩,st',fun b hb=>(hf b hb).1⟩⟩
 done:=by intro X hP hw hK hc i pins s σ H E I hf st hg; subst hP hw hK; obtain ⟨xs,hq,hx⟩:=hg; obtain ⟨its,rv,p,hz⟩:=I.list hq; obtain ⟨f0,f1,f2,f3,f4,f5⟩:=hf it (by simp); have hl:=rv.length; exact wpAny_pyNext_list_end (I.ok.hd hc) st p.isList (by simp; omega) fun h' eb=>⟨rfl,I.turned (t':=s.toks) (fun b o hb e=>eb b o hb e) f0 f1 f3 f4 f5⟩
 self:=fun _ _ _ _ _ st h=>wpAny_pyIter_listiter st h
theorem turn_tuple {P:Program} {w:World} {K:aB} {tg:Expr} (a it:Addr):yP P w K tg (Itt K a) [it] it (fun i h=>h.IsTupleIter it a i) where
 mem:=by simp
 obj:=fun i h st b hb=>by
  have e:b=it:=by simpa using hb
  subst e; obtain ⟨o,e,c,d⟩:=st; exact ⟨o,e,fun v z=>by rw [d] at z; cases z⟩
 keep:=fun i h h' st k=>st.at fun o e=>k it (by simp) o e
 item:=by
  intro X hP hw hK hc i pins s σ H E I hf st hg; subst hP hw hK; obtain ⟨xs,x,hq,hx⟩:=hg; obtain ⟨its,rv,p,hz⟩:=I.tuple hq; obtain ⟨u,hu,ru⟩:=rv.get hx; obtain ⟨f0,f1,f2,f3,f4,f5⟩:=hf it (by simp); refine wpAny_pyNext_tuple_item st (show s.heap.IsTuple a its.toArray from p) (x:=u) (by simpa using hu) fun h' st' sb=> ?_
  have I1:Inv X pins σ H {s with heap:=h'}:=I.turned (t':=s.toks) (fun b o hb e=>(sb.2 b hb).trans e) f0 f1 f3 f4 f5; obtain ⟨o,e,c,d⟩:=id st'; exact ⟨u,rfl,go_of (s:={s with heap:=h'}) e c d (by decide) ⟨x,H,I1,ru,⟨rfl,fun ys hy=>by rw [I.tuple_inj hy hq]; exact hx⟩,st',fun b hb=>(hf b hb).1⟩⟩
 done:=by intro X hP hw hK hc i pins s σ H E I hf st hg; subst hP hw hK; obtain ⟨xs,hq,hx⟩:=hg; obtain ⟨its,rv,p,hz⟩:=I.tuple hq; obtain ⟨f0,f1,f2,f3,f4,f5⟩:=hf it (by simp); have hl:=rv.length; exact wpAny_pyNext_tuple_end (I.ok.hd hc) st (show s.heap.IsTuple a its.toArray from p) (by simp; omega) fun h' eb=>⟨rfl,I.turned (t':=s.toks) (fun b o hb e=>eb b o hb e) f0 f1 f3 f4 f5⟩
 self:=fun _ _ _ _ _ st h=>wpAny_pyIter_tupleiter st h
theorem turn_range {P:Program} {w:World} {K:aB} {tg:Expr} (it:Addr) (lo:Int) (n:Nat):yP P w K tg (Itr lo n) [it] it (fun i h=>IsRangeIter h it (lo+(i:Nat) * 1) ((n:Int) - (i:Nat)) 1) where
 mem:=by simp
 obj:=fun i h st b hb=>by
  have e:b=it:=by simpa using hb
  subst e
  exact ⟨_,st,fun v z=>by
   have z':Data.fields _=Data.cell v:=z
   cases z'⟩
 keep:=fun i h h' st k=>k it (by simp) _ st
 item:=by
  intro X hP hw hK hc i pins s σ H E I hf st hg; subst hP hw hK; obtain ⟨f0,f1,f2,f3,f4,f5⟩:=hf it (by simp); have W:=Walks.range (prog:=X.prog) (w:=X.w) (I.ok.hd hc) it lo 1 n; refine W.item i s _ _ hg st fun v h' tk hv st' kk=> ?_
  obtain ⟨t,rfl⟩:=hv; have I1:Inv X pins σ H {s with heap:=h',toks:=tk}:=I.turned (fun b o hb e=>kk b o (by simpa using hb) e) f0 f1 f3 f4 f5; refine ⟨_,rfl,go_of (s:={s with heap:=h',toks:=tk}) (n:="range_iterator") st' rfl rfl (by decide) ⟨.int (lo+i),H,I1,⟨t, ?_⟩,⟨rfl,rfl⟩,st',fun b hb=>(hf b hb).1⟩⟩; rw [Int.mul_one]
 done:=by intro X hP hw hK hc i pins s σ H E I hf st hg; subst hP hw hK; obtain ⟨f0,f1,f2,f3,f4,f5⟩:=hf it (by simp); exact wpAny_pyNext_range_end (I.ok.hd hc) st (by have:n≤i:=hg; omega) fun h' eb=>⟨rfl,I.turned (t':=s.toks) (fun b o hb e=>eb b o hb e) f0 f1 f3 f4 f5⟩
 self:=fun _ _ _ _ _ st h=>wpAny_pyIter_rangeiter st h
section
variable {X:Cx} {tg:Expr}
def iList (K:aB) (tl:TE):TI:=fun σ H R=>tl σ H fun x H1=>∃a,x= .ref a∧(∃xs,SqL K H1 a xs)∧R (Itl K a) H1
def iTup (K:aB) (tl:TE):TI:=fun σ H R=>tl σ H fun x H1=>∃a,x= .ref a∧(∃xs,SqT K H1 a xs)∧R (Itt K a) H1
theorem pi_list {l:Expr} {tl:TE} (hl:PE X l tl):PI X tg l (iList X.K tl):=by
 intro pins s σ H R I h; refine thn (hl pins s σ H _ I h) fun v s1 ⟨x,H1,I1,r1,q1⟩=> ?_
 obtain ⟨a,e,⟨xs,hq⟩,q⟩:=q1; subst e; cases r1; obtain ⟨its,rv,p,hz⟩:=I1.list hq; refine wpAny_pyIter_list p.isList ?_; refine ⟨s1.heap.objs.size,[s1.heap.objs.size],_,_,H1,rfl,I1.kept (t':=s1.toks) fun b o e=>aA _ e,turn_list a _,⟨_,aV _ rfl,rfl,rfl⟩,fun b hb=> ?_,q⟩; have e:b=s1.heap.objs.size:=by simpa using hb
 subst e; exact I1.fpOk (aN _) (I1.hok.fresh (aN _))
theorem pi_tup {l:Expr} {tl:TE} (hl:PE X l tl):PI X tg l (iTup X.K tl):=by
 intro pins s σ H R I h; refine thn (hl pins s σ H _ I h) fun v s1 ⟨x,H1,I1,r1,q1⟩=> ?_
 obtain ⟨a,e,⟨xs,hq⟩,q⟩:=q1; subst e; cases r1; obtain ⟨its,rv,p,hz⟩:=I1.tuple hq; refine wpAny_pyIter_tuple (show s1.heap.IsTuple a its.toArray from p) ?_; refine ⟨s1.heap.objs.size,[s1.heap.objs.size],_,_,H1,rfl,I1.kept (t':=s1.toks) fun b o e=>aA _ e,turn_tuple a _,⟨_,aV _ rfl,rfl,rfl⟩,fun b hb=> ?_,q⟩; have e:b=s1.heap.objs.size:=by simpa using hb
 subst e; exact I1.fpOk (aN _) (I1.hok.fresh (aN _))
theorem range_it {pins:List (Addr × Obj)} {σ:St} {H:Hp} {s:Shared} {R:It→Hp→Prop} {E:Value→Shared→Prop} {lo hi:Int} {t u v:Tok} {tk:Nat} (I:Inv X pins σ H s) (h1: -(2^62)≤lo) (h2:lo<2^62) (h3: -(2^62)≤hi) (h4:hi<2^62)
  (q:R (Itr lo (hi - lo).toNat) H):wpAny (model X.prog X.w) X.A (pyIter (.ref s.heap.objs.size)) (PIE X pins σ tg R) E {s with heap:=s.heap.push {cls:= .type "range",data:= .fields #[.int lo t, .int hi u, .int 1 v]},toks:=tk}:=by
 refine wpAny_pyIter_range (IsRange.new ..) (small_one h1 h2 h3 h4) ?_; have I1:Inv X pins σ H {s with heap:=s.heap.push {cls:= .type "range",data:= .fields #[.int lo t, .int hi u, .int 1 v]},toks:=tk}:=I.kept fun b o e=>aA _ e
 refine ⟨(s.heap.push {cls:= .type "range",data:= .fields #[.int lo t, .int hi u, .int 1 v]}).objs.size,[(s.heap.push {cls:= .type "range",data:= .fields #[.int lo t, .int hi u, .int 1 v]}).objs.size],_,_,H,rfl,
  I1.kept (t':=tk) fun b o e=>aA _ e,turn_range _ lo (hi - lo).toNat, ?_,fun b hb=> ?_,q⟩
 ·have e1:lo+((0:Nat):Int) * 1=lo:=by simp
  have e2:(((hi - lo).toNat:Nat):Int) - ((0:Nat):Int)=Builtin.Range.rangeSize lo hi 1:=by rw [rangeSize_one]; split<;>omega
  show IsRangeIter _ _ (lo+((0:Nat):Int) * 1) ((((hi - lo).toNat:Nat):Int) - ((0:Nat):Int)) 1; rw [e1,e2]; exact aV _ rfl
 ·have e:b=(s.heap.push {cls:= .type "range",data:= .fields #[.int lo t, .int hi u, .int 1 v]}).objs.size:=by simpa using hb
  subst e; exact I1.fpOk (aN _) (I1.hok.fresh (aN _))
def iRng1 (ta:TA):TI:=fun σ H R=>ta σ H fun vs H1=>∃j:Int,vs=[.int j]∧ -(2^62)≤j∧j<2^62∧R (Itr 0 j.toNat) H1
theorem pi_range1 {a:Expr} {ta:TA} {p pos:Pos} (hg:Gl X "range") (hm:X.mg "range"=none) (ha:PA X [a] ta) (hs:starEach [a] X.env=[(false,eval a X.env)]:=by rfl):PI X tg (.Call (.Name "range" p) [a] [] pos) (iRng1 ta):=by
 intro pins s σ H R I h; refine Call_ (mQ I hg hm boot_range (PyProof.Rows.callWith_type1 (thn (ha pos pins s σ H _ I h) fun us s1 ⟨vs,H1,I1,r1,q1⟩=> ?_) hs rfl)); obtain ⟨j,e,q1,q2,q⟩:=q1; subst e; cases r1 with
 | cons r rr=>cases rr; obtain ⟨t,rfl⟩:=r; exact call_range_1 (range_it I1 (by omega) (by omega) q1 q2 (by simpa using q))
def tFor (wi:TI) (g:TG) (tb:TS):TS:=fun D σ H=>wi σ H fun J H1=>∃W:Nat→Nat→St→Hp→Prop,(∃m,W 0 m σ H1)∧∀i m σ H,W i m σ H→
 (J.stop i H∧D.nx σ H)∨(J.go i H∧∃N:St→Hp→Prop,(∀σ' H',N σ' H'→∃m',m'<m∧W (i+1) m' σ' H')∧∀x H',J.yld i H x H'→g x σ H' fun σ2 H2=>tb {D with nx:=N,ct:=N,bk:=D.nx} σ2 H2)
def lH (fp:List Addr) (h:Heap):List (Addr × Obj):=fp.filterMap fun b=>(h.get? b).map fun o=>(b,o)
theorem iU {fp:List Addr} {h:Heap} {b:Addr} {o:Obj} (hb:b∈fp) (e:h.get? b=some o):(b,o)∈lH fp h:=nH.mpr ⟨b,hb,by rw [e]; rfl⟩
theorem qF {fp:List Addr} {h:Heap} {p:Addr × Obj} (hp:p∈lH fp h):p.1∈fp∧h.get? p.1=some p.2:=by
 obtain ⟨b,hb,e⟩:=nH.mp hp; cases q:h.get? b with
 | none=>rw [q] at e; cases e
 | some o=>rw [q] at e; have e':(b,o)=p:=cA.inj e; subst e'; exact ⟨hb,q⟩
theorem Inv.pinned {pins:List (Addr × Obj)} {σ:St} {H:Hp} {s:Shared} {fp:List Addr} (I:Inv X pins σ H s) (hf:∀b∈fp,sW X pins H b) (ho:∀b∈fp,∃o,s.heap.get? b=some o∧∀v,o.data≠ .cell v):Inv X (pins++lH fp s.heap) σ H s:=
 I.pins_of fun p hp=>(aY.mp hp).elim (fun z=>I.pin p (aG _ z)) fun z=>by obtain ⟨hb,e⟩:=qF z; obtain ⟨f0,f1,f2,_⟩:=hf p.1 hb; obtain ⟨o,e',d⟩:=ho p.1 hb; rw [e] at e'; cases e'; exact ⟨e,f0,f1,f2,d⟩
theorem Inv.unpinned {pins pl:List (Addr × Obj)} {σ:St} {H:Hp} {s:Shared} (I:Inv X (pins++pl) σ H s):Inv X pins σ H s:=I.pins_of fun p hp=>I.pin p (aG _ (bE _ hp))
theorem ps_for {iter:Expr} {body:List Stmt} {wi:TI} {g:TG} {tb:TS} {pos:Pos} (hp:PassesOwn (model X.prog X.w) X.A X.env X.xe) (hc:X.calm=true) (hi:PI X tg iter wi) (hg:PG X tg g) (hb:PSs X body tb)
  (hs:∀x,foldedSetIterable iter X.env x=pure x:=by intro _; rfl):PS X (.For tg iter body [] pos) (tFor wi g tb):=by
 intro pins s σ H D I h; refine wpAny_For (thn (hi pins s σ H _ I h) fun v s1 h1=>thn h1 fun itv s2 h2=> ?_) hs; obtain ⟨it,fp,tn,J,H2,e,I2,T,st2,f2,W,⟨m0,w0⟩,turn⟩:=h2; subst e
 have stat:∀ {H':Hp},(∀b∈fp,H' b=none)→∀b∈fp,sW X pins H' b:=fun hn b hb=>⟨hn b hb,(f2 b hb).2⟩
 refine codeAny_forLoop_any (fun n s'=>∃i σ' H',Inv X pins σ' H' s'∧tn i s'.heap∧(∀b∈fp,H' b=none)∧W i n σ' H') ?_ m0 ⟨0,σ,H2,I2,st2,fun b hb=>(f2 b hb).1,w0⟩; rintro n s3 ⟨i,σ3,H3,I3,st3,fr3,w3⟩
 rcases turn i n σ3 H3 w3 with ⟨stop,qn⟩ | ⟨go,N,hN,step⟩
 ·refine wpAny_passesOwn hp (thn (T.done X rfl rfl rfl hc i pins s3 σ3 H3 X.xe I3 (stat fr3) st3 stop) fun r s4 ⟨hr,I4⟩=> ?_); subst hr; exact wpAny_execs_nil ⟨σ3,H3,I4,qn⟩
 ·refine wpAny_passesOwn hp (thn (T.item X rfl rfl rfl hc i pins s3 σ3 H3 X.xe I3 (stat fr3) st3 go) fun r s4 ⟨u,hr,h4⟩=> ?_); subst hr; refine wpAny_passesOwn hp (thn h4 fun _ s5 ⟨x,H5,I5,r5,y5,st5,fr5⟩=> ?_); have I5':=I5.pinned (stat fr5) (T.obj _ _ st5); refine wpAny_passesOwn hp (thn (hg _ s5 σ3 H5 x u _ I5' r5 (step x H5 y5)) fun _ s6 ⟨σ6,H6,I6,q6⟩=> ?_); refine wpAny_passesOwn hp (thn (hb _ s6 σ6 H6 _ I6 q6) fun f s7 q7=> ?_)
  have again:∀ {σ7:St} {H7:Hp},Inv X (pins++lH fp s5.heap) σ7 H7 s7→N σ7 H7→∃m,m<n∧∃i σ' H',Inv X pins σ' H' s7∧tn i s7.heap∧(∀b∈fp,H' b=none)∧W i m σ' H':=fun {σ7 H7} I7 n7=>by obtain ⟨m',hm,w7⟩:=hN σ7 H7 n7; refine ⟨m',hm,i+1,σ7,H7,I7.unpinned,T.keep _ _ _ st5 fun b hb o e=>(I7.pin (b,o) (aG _ (aG _ (iU hb e)))).1,fun b hb=> ?_,w7⟩; obtain ⟨o,e,d⟩:=T.obj _ _ st5 b hb; exact (I7.pin (b,o) (aG _ (aG _ (iU hb e)))).2.1
  cases f with
  | next=>obtain ⟨σ7,H7,I7,n7⟩:=q7; exact again I7 n7
  | cont=>obtain ⟨σ7,H7,I7,n7⟩:=q7; exact again I7 n7
  | brk=>obtain ⟨σ7,H7,I7,q7⟩:=q7; exact ⟨σ7,H7,I7.unpinned,q7⟩
  | ret v=>obtain ⟨x7,σ7,H7,I7,r7,q7⟩:=q7; exact ⟨x7,σ7,H7,I7.unpinned,r7,q7⟩
end
abbrev R2:=V→V→Hp→VK→Prop
def OpR (X:Cx) (f:Value→Value→Sem Value) (r:R2):Prop:=
 ∀ (pins:List (Addr × Obj)) (s:Shared) (σ:St) (H:Hp) (x y:V) (v u:Value) (Q:VK),Inv X pins σ H s→RelV x v→RelV y u→r x y H Q→
  wpAny (model X.prog X.w) X.A (f v u) (EP X pins σ Q) X.xe s
def pJ (X:Cx) (f:Value) (r:List V→Hp→VK→Prop):Prop:=
 ∀ (pins:List (Addr × Obj)) (s:Shared) (σ:St) (H:Hp) (xs:List V) (us:List Value) (Q:VK),Inv X pins σ H s→Vals xs us→r xs H Q→
  wpAny (model X.prog X.w) X.A (call f us) (EP X pins σ Q) X.xe s
def tOp (r:R2) (ta tb:TE):TE:=fun σ H Q=>ta σ H fun x H1=>tb σ H1 fun y H2=>r x y H2 Q
def rI (C:Int→Int→Prop) (g:Int→Int→V):R2:=fun x y H Q=>∃i j,x= .int i∧y= .int j∧C i j∧Q (g i j) H
def rI0 (g:Int→Int→V):R2:=fun x y H Q=>∃i j,x= .int i∧y= .int j∧Q (g i j) H
section
variable {X:Cx} {a b c:Expr} {ta tb tc:TE} {pos:Pos}
theorem binT (ha:PE X a ta) (hb:PE X b tb) {pins:List (Addr × Obj)} {s:Shared} {σ:St} {H:Hp} {R:V→V→Hp→Prop} (I:Inv X pins σ H s)
  (h:ta σ H fun x H1=>tb σ H1 fun y H2=>R x y H2) {Q:Value→Shared→Prop} {f:Value→Value→Sem Value}
  (hf:∀v u s2 x y H2,Inv X pins σ H2 s2→RelV x v→RelV y u→R x y H2→wpAny (model X.prog X.w) X.A (f v u) Q X.xe s2):
  wpAny (model X.prog X.w) X.A (eval a X.env) (fun v s₁=>wpAny (model X.prog X.w) X.A (eval b X.env) (fun u s₂=>wpAny (model X.prog X.w) X.A (f v u) Q X.xe s₂) X.xe s₁) X.xe s:=by
 refine thn (ha pins s σ H _ I h) fun v s1 ⟨x,H1,I1,r1,q1⟩=> ?_
 refine thn (hb pins s1 σ H1 _ I1 q1) fun u s2 ⟨y,H2,I2,r2,q2⟩=> ?_
 exact hf v u s2 x y H2 I2 r1 r2 q2
theorem pe_op {op:Operator} {r:R2} (ho:OpR X (binaryOp op) r) (ha:PE X a ta) (hb:PE X b tb):PE X (.BinOp a op b pos) (tOp r ta tb):=by intro pins s σ H Q I h; exact wpAny_BinOp (binT ha hb I h fun v u s2 x y H2 I2 rx ry q=>ho pins s2 σ H2 x y v u Q I2 rx ry q)
theorem opI {f:Value→Value→Sem Value} {C:Int→Int→Prop} {g:Int→Int→Int}
  (rule:∀ (i j:Int) (t u:Tok) (s:Shared) (Q:Value→Shared→Prop) (E:Value→Shared→Prop),C i j→Q (.int (g i j) s.toks) {s with toks:=s.toks+1}→wpAny (model X.prog X.w) X.A (f (.int i t) (.int j u)) Q E s):
  OpR X f (rI C fun i j=> .int (g i j)):=by
 intro pins s σ H x y v u Q I rx ry h; obtain ⟨i,j,rfl,rfl,hc,q⟩:=h; obtain ⟨t,rfl⟩:=rx; obtain ⟨t',rfl⟩:=ry; exact rule i j t t' s _ _ hc ⟨.int (g i j),H,I.tok _,⟨_,rfl⟩,q⟩
theorem opI0 {f:Value→Value→Sem Value} {g:Int→Int→Int}
  (rule:∀ (i j:Int) (t u:Tok) (s:Shared) (Q:Value→Shared→Prop) (E:Value→Shared→Prop),Q (.int (g i j) s.toks) {s with toks:=s.toks+1}→wpAny (model X.prog X.w) X.A (f (.int i t) (.int j u)) Q E s):
  OpR X f (rI0 fun i j=> .int (g i j)):=by
 intro pins s σ H x y v u Q I rx ry h; obtain ⟨i,j,rfl,rfl,q⟩:=h; obtain ⟨t,rfl⟩:=rx; obtain ⟨t',rfl⟩:=ry; exact rule i j t t' s _ _ ⟨.int (g i j),H,I.tok _,⟨_,rfl⟩,q⟩
theorem opB0 {f:Value→Value→Sem Value} {g:Int→Int→Bool}
  (rule:∀ (i j:Int) (t u:Tok) (s:Shared) (Q:Value→Shared→Prop) (E:Value→Shared→Prop),Q (.bool (g i j)) s→wpAny (model X.prog X.w) X.A (f (.int i t) (.int j u)) Q E s):
  OpR X f (rI0 fun i j=> .bl (g i j)):=by
 intro pins s σ H x y v u Q I rx ry h; obtain ⟨i,j,rfl,rfl,q⟩:=h; obtain ⟨t,rfl⟩:=rx; obtain ⟨t',rfl⟩:=ry; exact rule i j t t' s _ _ ⟨.bl (g i j),H,I,rfl,q⟩
theorem mM:OpR X (binaryOp .Add) (rI0 fun i j=> .int (i+j)):=opI0 fun _ _ _ _ _ _ _ q=>add_int q
theorem fP:OpR X (binaryOp .Mod) (rI (fun _ j=>0<j) fun i j=> .int (i%j)):=opI fun i j _ _ _ _ _ hc q=>by have h1:(0:Int)<j:=hc; exact mod_int' (by omega) (by rw [Int.fmod_eq_emod_of_nonneg i (by omega)]; exact q)
end
def scal:V→V→Bool
 | .non, .non=>true | .non, .int _=>true | .int _, .non=>true | .non, .bl _=>true | .bl _, .non=>true | .non, .str _=>true | .str _, .non=>true
 | .int _, .int _=>true | .bl _, .bl _=>true | .str _, .str _=>true | .byt _, .byt _=>true
 | .int _, .str _=>true | .str _, .int _=>true | .bl _, .str _=>true | .str _, .bl _=>true
 | _,_=>false
def rEq:R2:=fun x y H Q=>scal x y=true∧Q (.bl (decide (x=y))) H
def rNe:R2:=fun x y H Q=>scal x y=true∧Q (.bl (!decide (x=y))) H
theorem sC {i j:Int}:decide (V.int i=V.int j)=(i==j):=by rw [gY]; simp
theorem dec_bl {i j:Bool}:decide (V.bl i=V.bl j)=(i==j):=by rw [gY]; simp
theorem dec_str {i j:Str}:decide (V.str i=V.str j)=(i==j):=by rw [gY]; simp
theorem dec_byt {i j:Array UInt8}:decide (V.byt i=V.byt j)=(i.toList==j.toList):=by rw [gY]; cases i; cases j; simp
section
variable {X:Cx} {a b c:Expr} {ta tb tc:TE} {pos:Pos}
theorem fA {pins:List (Addr × Obj)} {σ:St} {H:Hp} {s:Shared} {Q:VK} {k k':Bool} (I:Inv X pins σ H s) (q:Q (.bl k) H) (e:k=k'):EP X pins σ Q (.bool k') s:=by subst e; exact ⟨.bl k,H,I,rfl,q⟩
theorem op_eq:OpR X (compareOp .Eq) rEq:=by
 intro pins s σ H x y v u Q I rx ry h; obtain ⟨hs,q⟩:=h; cases x with
 | non=>
  cases rx; cases y with
  | non=>cases ry; exact PySem.EqNone.eq_none_none (fA I q (by simp))
  | bl j=>cases ry; exact PySem.EqNone.eq_none_bool (fA I q (by simp))
  | int j=>obtain ⟨t',rfl⟩:=ry; exact PySem.EqNone.eq_none_int (fA I q (by simp))
  | str j=>obtain ⟨t',rfl⟩:=ry; exact PySem.EqNone.eq_none_str (fA I q (by simp))
  | _=>exact absurd (show false=true from hs) bV
 | bl i=>
  cases rx; cases y with
  | non=>cases ry; exact PySem.EqNone.eq_bool_none (fA I q (by simp))
  | bl j=>cases ry; exact eq_bool (fA I q dec_bl)
  | str j=>obtain ⟨t',rfl⟩:=ry; exact PySem.EqMixed.eq_bool_str (fA I q (by simp))
  | _=>exact absurd (show false=true from hs) bV
 | int i=>
  obtain ⟨t,rfl⟩:=rx; cases y with
  | non=>cases ry; exact PySem.EqNone.eq_int_none (fA I q (by simp))
  | int j=>obtain ⟨t',rfl⟩:=ry; exact eq_int (fA I q sC)
  | str j=>obtain ⟨t',rfl⟩:=ry; exact PySem.EqMixed.eq_int_str (fA I q (by simp))
  | _=>exact absurd (show false=true from hs) bV
 | str i=>
  obtain ⟨t,rfl⟩:=rx; cases y with
  | non=>cases ry; exact PySem.EqNone.eq_str_none (fA I q (by simp))
  | bl j=>cases ry; exact PySem.EqMixed.eq_str_bool (fA I q (by simp))
  | int j=>obtain ⟨t',rfl⟩:=ry; exact PySem.EqMixed.eq_str_int (fA I q (by simp))
  | str j=>obtain ⟨t',rfl⟩:=ry; exact eq_str (fA I q dec_str)
  | _=>exact absurd (show false=true from hs) bV
 | byt i=>
  obtain ⟨t,rfl⟩:=rx; cases y with
  | byt j=>obtain ⟨t',rfl⟩:=ry; exact PySem.W.eq_bytes (fA I q dec_byt)
  | _=>exact absurd (show false=true from hs) bV
 | _=>cases y<;>exact absurd (show false=true from hs) bV
theorem op_ne:OpR X (compareOp .NotEq) rNe:=by
 intro pins s σ H x y v u Q I rx ry h; obtain ⟨hs,q⟩:=h; cases x with
 | non=>
  cases rx; cases y with
  | non=>cases ry; exact PySem.EqNone.ne_none_none (fA I q (by simp))
  | bl j=>cases ry; exact PySem.EqNone.ne_none_bool (fA I q (by simp))
  | int j=>obtain ⟨t',rfl⟩:=ry; exact PySem.EqNone.ne_none_int (fA I q (by simp))
  | str j=>obtain ⟨t',rfl⟩:=ry; exact PySem.EqNone.ne_none_str (fA I q (by simp))
  | _=>exact absurd (show false=true from hs) bV
 | bl i=>
  cases rx; cases y with
  | non=>cases ry; exact PySem.EqNone.ne_bool_none (fA I q (by simp))
  | bl j=>cases ry; exact ne_bool (fA I q (congrArg not dec_bl))
  | str j=>obtain ⟨t',rfl⟩:=ry; exact PySem.EqMixed.ne_bool_str (fA I q (by simp))
  | _=>exact absurd (show false=true from hs) bV
 | int i=>
  obtain ⟨t,rfl⟩:=rx; cases y with
  | non=>cases ry; exact PySem.EqNone.ne_int_none (fA I q (by simp))
  | int j=>obtain ⟨t',rfl⟩:=ry; exact ne_int (fA I q (congrArg not sC))
  | str j=>obtain ⟨t',rfl⟩:=ry; exact PySem.EqMixed.ne_int_str (fA I q (by simp))
  | _=>exact absurd (show false=true from hs) bV
 | str i=>
  obtain ⟨t,rfl⟩:=rx; cases y with
  | non=>cases ry; exact PySem.EqNone.ne_str_none (fA I q (by simp))
  | bl j=>cases ry; exact PySem.EqMixed.ne_str_bool (fA I q (by simp))
  | int j=>obtain ⟨t',rfl⟩:=ry; exact PySem.EqMixed.ne_str_int (fA I q (by simp))
  | str j=>obtain ⟨t',rfl⟩:=ry; exact ne_str (fA I q (congrArg not dec_str))
  | _=>exact absurd (show false=true from hs) bV
 | byt i=>
  obtain ⟨t,rfl⟩:=rx; cases y with
  | byt j=>obtain ⟨t',rfl⟩:=ry; exact PySem.W.ne_bytes (fA I q (congrArg not dec_byt))
  | _=>exact absurd (show false=true from hs) bV
 | _=>cases y<;>exact absurd (show false=true from hs) bV
theorem op_lt:OpR X (compareOp .Lt) (rI0 fun i j=> .bl (decide (i<j))):=opB0 fun _ _ _ _ _ _ _ q=>lt_int q
theorem op_gt:OpR X (compareOp .Gt) (rI0 fun i j=> .bl (decide (j<i))):=opB0 fun _ _ _ _ _ _ _ q=>gt_int q
theorem op_isN:OpR X (compareOp .Is) (fun x y H Q=>y= .non∧Q (.bl (decide (x= .non))) H):=by
 intro pins s σ H x y v u Q I rx ry h; obtain ⟨rfl,q⟩:=h; cases ry; refine is_none_gen (fA I q ?_)
 cases x<;>first
  | (cases rx; rfl)
  | (obtain ⟨t,rfl⟩:=rx; rfl)
theorem op_notN:OpR X (compareOp .IsNot) (fun x y H Q=>y= .non∧Q (.bl (!decide (x= .non))) H):=by
 intro pins s σ H x y v u Q I rx ry h; obtain ⟨rfl,q⟩:=h; cases ry; refine isnot_none_gen (fA I q ?_)
 cases x<;>first
  | (cases rx; rfl)
  | (obtain ⟨t,rfl⟩:=rx; rfl)
theorem OpR.or {f:Value→Value→Sem Value} {r r':R2} (h:OpR X f r) (h':OpR X f r'):OpR X f (fun x y H Q=>r x y H Q∨r' x y H Q):=by
 intro pins s σ H x y v u Q I rx ry q
 rcases q with q | q
 ·exact h pins s σ H x y v u Q I rx ry q
 ·exact h' pins s σ H x y v u Q I rx ry q
theorem lI (b:Expr) {op:CmpOp} (h:op≠ .In:=by decide) (h2:op≠ .NotIn:=by decide):behindInMarks op b=false:=by
 have e1:(op==CmpOp.In)=false:=by cases op<;>first | rfl | exact absurd rfl h
 have e2:(op==CmpOp.NotIn)=false:=by cases op<;>first | rfl | exact absurd rfl h2
 cases b<;>simp [behindInMarks,e1,e2]
theorem pe_cmpR {op:CmpOp} {r:R2} (ho:OpR X (compareOp op) r) (ha:PE X a ta) (hb:PE X b tb) (hm:behindInMarks op b=false):PE X (.Compare a [op] [b] pos) (tOp r ta tb):=by intro pins s σ H Q I h; exact wpAny_Compare1 (binT ha hb I h fun v u s2 x y H2 I2 rx ry q=>ho pins s2 σ H2 x y v u Q I2 rx ry q) hm
def tTest (t:TE):TT:=fun σ H Q=>t σ H fun x H'=>∃k,x= .bl k∧Q k H'
theorem pt_cmpR {op:CmpOp} {r:R2} (ho:OpR X (compareOp op) r) (ha:PE X a ta) (hb:PE X b tb) (hm:behindInMarks op b=false):PT X (.Compare a [op] [b] pos) (tTest (tOp r ta tb)):=by
 intro pins s σ H Q I h
 refine wpAny_isTrue_Compare1 (thn (ha pins s σ H _ I h) fun v s1 ⟨x,H1,I1,r1,q1⟩=>thn (hb pins s1 σ H1 _ I1 q1) fun u s2 ⟨y,H2,I2,r2,q2⟩=>thn (ho pins s2 σ H2 x y v u _ I2 r1 r2 q2) fun c s3 ⟨z,H3,I3,r3,k,e,q3⟩=> ?_) hm
 subst e; cases r3; exact wpAny_truthy_bool ⟨H3,I3,q3⟩
theorem line63:(sizeLine:Nat)<2^63:=by rw [sizeLine_eq]; decide
theorem zZ {x:V} {us:List Value} (r:Vals [x] us):∃u,us=[u]∧RelV x u:=by
 cases r with
 | cons r1 r2=>cases r2; exact ⟨_,rfl,r1⟩
theorem vals2 {x y:V} {us:List Value} (r:Vals [x,y] us):∃u w',us=[u,w']∧RelV x u∧RelV y w':=by
 cases r with
 | cons r1 r2=>
  cases r2 with
  | cons r3 r4=>cases r4; exact ⟨_,_,rfl,r1,r3⟩
end
structure ObjM (h:Heap) (x dx C:Addr) (mA:Str→Option Value):Prop where
 obj:h.get? x=some (uK C dx)
 ns:h.Ns1 dx mA
 ne:dx≠x
theorem lookIn_ns {h:Heap} {dx:Addr} {mA:Str→Option Value} (n:h.Ns1 dx mA):∃od,h.get? dx=some od∧∀name,xW name od=some (mA name):=by
 obtain ⟨o,es,ep,ho,hd,hk,_,hm⟩:=n; refine ⟨o,ho,fun name=> ?_⟩; have e:=hm name; unfold nsFind findBy at e; rw [← Array.find?_toList] at e; unfold xW; rw [hd]; dsimp only
 split
 ·rename_i y q; rw [q] at e; exact congrArg some e
 ·rename_i q; rw [q] at e
  have a:es.toList.any (·.refKey)=false:=by rw [List.any_eq_false]; intro y hy; obtain ⟨z,t,hkey⟩:=hk y (jC.mp hy); simp [DictEntry.refKey,hkey]
  have a':¬ es.toList.any (·.refKey)=true:=by rw [a]; exact bV
  rw [if_neg a']; exact congrArg some e
theorem ObjM.look {h:Heap} {x dx C:Addr} {mA:Str→Option Value} (I:ObjM h x dx C mA):∃od,PySem.W.InstAt h x (uK C dx) C (some od)∧∀name,xW name od=some (mA name):=
 let ⟨od,ho,hl⟩:=lookIn_ns I.ns
 ⟨od,⟨I.obj,rfl,rfl,ho⟩,hl⟩
section
variable {P:Program} {w:World} {H H':Hp} {h h':Heap} {a C dx:Addr} {fs fs':List (Str × V)}
theorem ins_get (hok:HOk P w H h) (e:H a=some (.ins C dx fs)):∃mA,ObjM h a dx C mA∧(∀f,RelO (fs.lookup f) (mA f))∧PySem.Within mA (fs.map (·.1))∧fs.length≤1000∧H dx=some (.own a):=by obtain ⟨d,z,ne,ob,mA,n,r,q⟩:=(show ObjOk P w H h a (.ins C dx fs) from hok a _ e); exact ⟨mA,⟨ob,n,ne⟩,r,q,z,d⟩
end
structure Cls (K:aB) (C:Addr):Prop where
 pg:PySem.W.plainGet K C Str.empty=true
 hd:PySem.W.hasDictIn K C=true
 po:PySem.W.plainOver K C=true
 sa:iB K (.ref C) "__setattr__"=some (some (.builtin "object.__setattr__"))
theorem Cls.get {K:aB} {C:Addr} (c:Cls K C) (f:Str):PySem.W.plainGet K C f=true:=c.pg
structure Con (K:aB) (C:Addr) (f:Str) (v:V) (u:Value):Prop where
 at_:iB K (.ref C) f=some (some u)
 rel:RelV v u
 get:PySem.W.specialIn K u "__get__"=some none
 cp:PySem.W.copiedNames.contains f=false
structure Meth (K:aB) (C:Addr) (m:Str) (f:Addr):Prop where
 at_:iB K (.ref C) m=some (some (.ref f))
 fn:PySem.W.isFn K (.ref f)=true
 kp:bL K (.ref f)=true
section
variable {X:Cx} {pins:List (Addr × Obj)} {σ:St} {H:Hp} {s:Shared} {A:Around} {E:Value→Shared→Prop} {Q:Value→Shared→Prop} {c:Value} {b:Bool}
inductive sK (K:aB) (H:Hp):V→Value→Prop where
 | non:sK K H .non (.type "NoneType")
 | bl (x:Bool):sK K H (.bl x) (.type "bool")
 | int (i:Int):sK K H (.int i) (.type "int")
 | str (x:Str):sK K H (.str x) (.type "str")
 | flt (x:UInt64):sK K H (.flt x) (.type "float")
 | lst {a:Addr} {xs:List V} (e:H a=some (.lst xs)):sK K H (.ref a) (.type "list")
 | frz {a:Addr} {o:Obj} {xs:List V} (e:H a=some (.frz o (.lst xs))):sK K H (.ref a) (.type "list")
 | tup {a:Addr} {xs:List V} (e:H a=some (.tup xs)):sK K H (.ref a) (.type "tuple")
 | dK {a:Addr} {kvs:List (Key × V)} (e:Rd H a (.dK kvs)):sK K H (.ref a) (.type "dict")
 | dT {a:Addr} {kvs:List (List Key × V)} (e:H a=some (.dT kvs)):sK K H (.ref a) (.type "dict")
 | ins {a C dx:Addr} {fs:List (Str × V)} (e:H a=some (.ins C dx fs)) (cl:Cls K C) (ha:iB K (.ref C) "__class__"=some (some (.builtin "object.__class__")))
   (hn:PySem.W.specialIn K (.builtin "object.__class__") "__get__"=some (some (.builtin "getset_descriptor.__get__"))) (htk:PySem.W.takesIn K (.builtin "object.__class__")=some true)
   (hm:PySem.W.mroIn K C (.type "object")=some true):sK K H (.ref a) (.ref C)
theorem isinst_ok {x:V} {u t:Value} (I:Inv X pins σ H s) (rx:RelV x u) (ty:sK X.K H x t) (e:cD X.K t c=some b) (h:∀tk,Q (.bool b) {s with toks:=tk}):
  wpAny (model X.prog X.w) A (call (.builtin "isinstance") [u,c]) Q E s:=by
 cases ty with
 | non=>cases (show u=Value.none from rx); exact eW PySem.W.kitx_none I.kIn True.intro e (fun z=>nomatch z) h
 | bl y=>cases (show u=Value.bool y from rx); exact eW PySem.W.kitx_bool I.kIn True.intro e (fun z=>nomatch z) h
 | int i=>obtain ⟨t,q⟩:=(show ∃t,u=Value.int i t from rx); cases q; exact eW PySem.W.kitx_int I.kIn True.intro e (fun z=>nomatch z) h
 | str y=>obtain ⟨t,q⟩:=(show ∃t,u=Value.str y t from rx); cases q; exact eW PySem.W.kitx_str I.kIn True.intro e (fun z=>nomatch z) h
 | flt y=>obtain ⟨t,q⟩:=(show ∃t,u=Value.float y t from rx); cases q; exact eW PySem.W.kitx_float I.kIn True.intro e (fun z=>nomatch z) h
 | @lst a xs ea=>cases (show u=Value.ref a from rx); obtain ⟨_,_,n,_,h1⟩:=(show ObjOk X.prog X.w H s.heap a (.lst xs) from I.hok a _ ea); exact eW PySem.W.kitx_list I.kIn ⟨_,h1,rfl⟩ e (fun z=>nomatch z) h
 | @frz a ob xs ea=>cases (show u=Value.ref a from rx); obtain ⟨_,_,_,n,_,h1⟩:=(show ObjOk X.prog X.w H s.heap a (.frz ob (.lst xs)) from I.hok a _ ea); exact eW PySem.W.kitx_list I.kIn ⟨_,h1,rfl⟩ e (fun z=>nomatch z) h
 | @tup a xs ea=>cases (show u=Value.ref a from rx); obtain ⟨_,_,_,p⟩:=(show ObjOk X.prog X.w H s.heap a (.tup xs) from I.hok a _ ea); obtain ⟨o,h1,h2,_⟩:=p; exact eW PySem.W.kitx_tuple I.kIn ⟨o,h1,h2⟩ e (fun z=>nomatch z) h
 | @dK a kvs ea=>cases (show u=Value.ref a from rx); obtain ⟨_,_,vs,_,p⟩:=(show ObjOk X.prog X.w H s.heap a (.dK kvs) from ea.ok I.hok); obtain ⟨o,es,ep,h1,h2,_⟩:=p; exact eW PySem.W.kitx_dict I.kIn ⟨o,h1,h2.1⟩ e (fun z=>nomatch z) h
 | @dT a kvs ea=>cases (show u=Value.ref a from rx); obtain ⟨_,_,xs,_,o,es,ep,h1,h2,_⟩:=(show ObjOk X.prog X.w H s.heap a (.dT kvs) from I.hok a _ ea); exact eW PySem.W.kitx_dict I.kIn ⟨o,h1,h2.1⟩ e (fun z=>nomatch z) h
 | @ins a C dx fs ea cl ha hn htk hm=>cases (show u=Value.ref a from rx); obtain ⟨mA,O,_⟩:=ins_get I.hok ea; obtain ⟨od,J,_⟩:=O.look; exact eW (PySem.W.kitx_own (cl.get _) cl.hd ha hn htk hm) I.kIn J e (fun z=>nomatch z) h
end
structure Room (k:Nat) (A:Around):Prop where
 hd:A.handled=none
 dp:A.depth+3 * k+5<recursionLimit
 un:A.units+16 * k+200<cLine
 gd:A.guards=some []
theorem Room.mono {j k:Nat} {A:Around} (r:Room k A) (h:j≤k):Room j A:=⟨r.hd,by have:=r.dp; omega,by have:=r.un; omega,r.gd⟩
theorem Room.deeper {k:Nat} {A:Around} (r:Room (k+1) A) (env:Env):Room k (A.deeper env):=
 ⟨r.hd,by have:=r.dp; show A.depth+1+3 * k+5<_; omega,by have:=r.un; show A.units+3+16 * k+200<_; omega,r.gd⟩
theorem Room.depth {k:Nat} {A:Around} (r:Room k A):A.depth<recursionLimit:=by have:=r.dp; omega
def tNil:TA:=fun _ H Q=>Q [] H
def tCons (ta:TE) (tr:TA):TA:=fun σ H Q=>ta σ H fun x H1=>tr σ H1 fun xs H2=>Q (x::xs) H2
section
variable {X:Cx} {e:Expr} {es:List Expr} {te:TE} {t:TA} {pos:Pos}
theorem pa_nil:PA X [] tNil:=fun _ _ _ _ H Q I h=>Calls.spliced_nil ⟨[],H,I, .nil,h⟩
theorem gR (ha:PE X e te) (hr:PA X es t) (hs:starEach (e::es) X.env=(false,eval e X.env)::starEach es X.env:=by rfl):PA X (e::es) (tCons te t):=by intro pos pins s σ H Q I h; rw [hs]; show wpAny _ _ (spliced ((false,eval e X.env)::backTo pos (starEach es X.env))) _ _ s; refine Calls.spliced_cons (thn (ha pins s σ H _ I h) fun u s1 ⟨x,H1,I1,r1,q1⟩=> ?_); exact thn (hr pos pins s1 σ H1 _ I1 q1) fun us s2 ⟨xs,H2,I2,r2,q2⟩=>⟨x::xs,H2,I2, .cons r1 r2,q2⟩
def tTup (t:TA):TE:=fun σ H Q=>t σ H fun xs H1=>xs.length≤sizeLine∧∀p,H1 p=none→Q (.ref p) (upd H1 p (.tup xs))
def tLst (t:TA):TE:=fun σ H Q=>t σ H fun xs H1=>xs.length≤sizeLine∧∀p,H1 p=none→Q (.ref p) (upd H1 p (.lst xs))
theorem pe_tup {x1} (h:PA X es t):PE X (.Tuple es x1 pos) (tTup t):=by intro pins s σ H Q I hq; refine wpAny_Tuple_spliced (thn (h pos pins s σ H _ I hq) fun us s1 ⟨xs,H1,I1,r,z,q⟩=>⟨by rw [← r.length]; exact z, ?_⟩); have hf:H1 s1.heap.objs.size=none:=I1.hok.fresh (aN _); refine ⟨.ref s1.heap.objs.size,upd H1 s1.heap.objs.size (.tup xs),I1.laid (t':=s1.toks) (fun b u e=>aA _ e) (aN _) ?_,rfl,q _ hf⟩; exact ⟨z,us,r,IsTupD.new _ _⟩
theorem pe_lst (h:PA X es t):PE X (.List es pos) (tLst t):=by intro pins s σ H Q I hq; refine wpAny_List_spliced (thn (h pos pins s σ H _ I hq) fun us s1 ⟨xs,H1,I1,r,z,q⟩=>⟨by rw [← r.length]; exact z, ?_⟩); have hf:H1 s1.heap.objs.size=none:=I1.hok.fresh (aN _); refine ⟨.ref s1.heap.objs.size,upd H1 s1.heap.objs.size (.lst xs),I1.laid (t':=s1.toks) (fun b u e=>aA _ e) (aN _) ?_,rfl,q _ hf⟩; exact ⟨z,us,0,r,aV _ rfl⟩
end
abbrev Sp:=List V→Hp→VK→XK→Prop
abbrev CXT:=List Env→Hp→Shared→XK→Value→Shared→Prop
structure Env0 (P:Program) (w:World) (K:aB) (mg:Str→Option Value) (base:Heap) (A:Around) (outer:List Env) (s:Shared) (H:Hp):Prop where
 frames:A.frames=some outer
 mod:Mod K mg base
 bs:∀b o,base.get? b=some o→s.heap.get? b=some o∧H b=none
 bsz:base.objs.size≤s.heap.objs.size
 funs:s.heap.FunFrames base outer
 frf:∀b∈frs outer,H b=none
 hok:HOk P w H s.heap
 bare:AllBare s.gens
def CE (outer:List Env) (P:Program) (w:World) (H:Hp) (s:Shared) (Q:VK) (u:Value) (s':Shared):Prop:=
 ∃v H',s'.os=s.os∧AllBare s'.gens∧Un (frs outer) [] H H' s.heap s'.heap∧HOk P w H' s'.heap∧RelV v u∧Q v H'
def CR (CX:CXT) (outer:List Env) (P:Program) (w:World) (H:Hp) (s:Shared) (Q:VK) (E:XK) (r:Result) (s':Shared):Prop:=
 match r with
 | .ok (.ret u)=>CE outer P w H s Q u s'
 | .ok _=>False
 | .error e=>CX outer H s E e s'
structure FnOk (P:Program) (w:World) (K:aB) (mg:Str→Option Value) (base:Heap) (CX:CXT) (k:Nat) (f:Addr) (fd:FuncData) (ps:List Str) (sp:Sp):Prop where
 len:∀vs H Q E,sp vs H Q E→vs.length=ps.length
 run:∀ (A:Around) (outer:List Env) (s:Shared) (H:Hp) (args:Args) (us:List Value) (vs:List V) (Q:VK) (E:XK),Room k A→Env0 P w K mg base A outer s H→BindsTo s fd args (ps.zip us)→Vals vs us→sp vs H Q E→
  codeAny (model P w) A (.call (.ref f) args) (CR CX outer P w H s Q E) s
section
variable {X:Cx} {pins:List (Addr × Obj)} {σ:St} {H:Hp} {s s':Shared}
theorem Inv.env0 (I:Inv X pins σ H s):Env0 X.prog X.w X.K X.mg X.base X.A X.stack s H:=
 ⟨I.ok.frames,I.ok.mod,I.bs,dO I.ok.bsz I.sz,I.stack,I.stkFree,I.hok,I.bare⟩
theorem Inv.after {Q:VK} {u:Value} (I:Inv X pins σ H s) (h:CE X.stack X.prog X.w H s Q u s'):EP X pins σ Q u s':=by obtain ⟨v,H',os,bare,un,hok,r,q⟩:=h; obtain ⟨hh,g,d,t,os'⟩:=s'; obtain rfl:os'=s.os:=os; exact ⟨v,H',I.call (h':=hh) (g':=g) (d':=d) (t':=t) (ch:=[]) un hok bare (fun b z=>absurd z (by simp)),r,q⟩
end
def tCall (sp:Sp) (dvs:List V) (E:XK) (t:TA):TE:=fun σ H Q=>t σ H fun vs H1=>sp (vs++dvs) H1 Q E
def Binds (K:aB) (fd:FuncData) (ps:List Str) (ds:List Value):Prop:=
 ∀ (s:Shared) (us:List Value),K.In s.heap→(us++ds).length=ps.length→BindsTo s fd ⟨us,[]⟩ (ps.zip (us++ds))
theorem Binds.all {K:aB} {fd:FuncData} {ps:List Str} (h:∀us:List Value,us.length=ps.length→bindArgs fd ⟨us,[]⟩=pure (ps.zip us)):Binds K fd ps []:=fun s us _ hl=>by rw [dR] at hl ⊢; exact .of_eq (h us hl)
def Passes (CX:CXT) (X:Cx) (E:XK):Prop:=∀ (pins:List (Addr × Obj)) (σ:St) (H:Hp) (s:Shared) (e:Value) (s':Shared),Inv X pins σ H s→CX X.stack H s E e s'→X.xe e s'
section
variable {X:Cx} {CX:CXT} {k:Nat} {f C:Addr} {fd:FuncData} {ps:List Str} {sp:Sp} {dvs:List V} {ds:List Value} {E:XK} {x m:Str} {p pos apos:Pos} {e o:Expr} {es:List Expr} {ta:TE} {t:TA}
theorem run_fn {pins:List (Addr × Obj)} {σ:St} {H:Hp} {s:Shared} {Q:VK} {us:List Value} {vs:List V} (F:FnOk X.prog X.w X.K X.mg X.base CX k f fd ps sp) (hr:Room k X.A) (hb:Binds X.K fd ps ds) (hd:Vals dvs ds) (hx:Passes CX X E)
  (I:Inv X pins σ H s) (r:Vals vs us) (h:sp (vs++dvs) H Q E):wpAny (model X.prog X.w) X.A (call (.ref f) us) (EP X pins σ Q) X.xe s:=by
 have r2:Vals (vs++dvs) (us++ds):=r.append hd; have hl:(us++ds).length=ps.length:=by rw [← r2.length]; exact F.len _ _ _ _ h
 refine wpAny_call (codeAny_mono (F.run X.A X.stack s H ⟨us,[]⟩ (us++ds) (vs++dvs) Q E hr I.env0 (hb s us I.kIn hl) r2 h) fun r s' hq=> ?_); cases r with
 | error e=>exact hx pins σ H s e s' I hq
 | ok fl=>
  cases fl with
  | ret u=>exact I.after hq
  | next=>exact False.elim hq
  | brk=>exact False.elim hq
  | cont=>exact False.elim hq
theorem pe_call (F:FnOk X.prog X.w X.K X.mg X.base CX k f fd ps sp) (hr:Room k X.A) (hg:Gl X x) (hm:X.mg x=some (.ref f)) (hk:bL X.K (.ref f)=true) (hb:Binds X.K fd ps ds) (hd:Vals dvs ds) (hx:Passes CX X E)
  (ha:PA X (e::es) t) (hdb:(x==("__debug__":Str))=false:=by decide) (he:starEach (e::es) X.env=(false,eval e X.env)::starEach es X.env:=by rfl) (hpl:(backTo pos (starEach es X.env)).any (·.1)=false:=by rfl):
  PE X (.Call (.Name x p) (e::es) [] pos) (tCall sp dvs E t):=by
 intro pins s σ H Q I h; refine wpAny_Call_Name_kw (uO I hg hm ?_ hdb); refine PySem.W.callWith_K (h₀:=X.base) I.ok.mod.kin hk (thn (ha pos pins s σ H _ I h) fun us s1 ⟨vs,H1,I1,r,q⟩=>⟨I1.kIn, ?_⟩) he hpl; exact run_fn F hr hb hd hx I1 r q
structure Mk (K:aB) (C f:Addr):Prop where
 makes:PySem.W.makesIn K C=true
 init:iB K (.ref C) "__init__"=some (some (.ref f))
 fn:PySem.W.isFn K (.ref f)=true
 kp:bL K (.ref C)=true
end
section
variable {X:Cx} {CX:CXT} {k:Nat} {f C:Addr} {fd:FuncData} {ps ks:List Str} {sp:Sp} {E:XK} {x m:Str} {p pos apos kpos:Pos} {e o:Expr} {es:List Expr} {kws:List Keyword} {te ta:TE} {t tk:TA} {nm:Option Str}
structure KBinds (K:aB) (fd:FuncData) (ps ks:List Str) (g:List Value→List Value→List Value) (gV:List V→List V→List V):Prop where
 to:∀ (s:Shared) (us ws:List Value),K.In s.heap→(g us ws).length=ps.length→BindsTo s fd ⟨us,ks.zip ws⟩ (ps.zip (g us ws))
 rel:∀ {vs:List V} {us:List Value} {zs:List V} {ws:List Value},Vals vs us→Vals zs ws→Vals (gV vs zs) (g us ws)
variable {g:List Value→List Value→List Value} {gV:List V→List V→List V}
end
structure oI (N P:List Str) (sc:Scope):Prop where
 kind:sc.kind= .function
 co:sc.isCoroutine=false
 gen:sc.isGenerator=false
 nd:N.Nodup
 pre:N.take P.length=P
 par:∀x∈P,sc.names.lookup x=some .local∨sc.names.lookup x=some .cell
 nofree:∀y∈sc.names,y.2≠ .free
theorem zL {kindOf:Str→Option NameKind} {x:Str}:∀ {binds:List (Str × Value)} {m:Str→Option Value},(∀v,(x,v)∉binds)→bindL kindOf binds m x=m x
 | [],_,_=>rfl
 | (n,v)::r,m,h=>by
  unfold bindL; rw [zL fun w hw=>h w (aM _ hw)]
  split
  ·have:x≠n:=by rintro rfl; exact h v aO
   simp [this]
  ·rfl
theorem zJ {kindOf:Str→Option NameKind} {x:Str}:∀ {binds:List (Str × Value)} {m:Str→Option Value},(∀v,(x,v)∉binds)→bindC kindOf binds m x=m x
 | [],_,_=>rfl
 | (n,v)::r,m,h=>by
  unfold bindC; rw [zJ fun w hw=>h w (aM _ hw)]
  split
  ·rfl
  ·have:x≠n:=by rintro rfl; exact h v aO
   simp [this]
theorem yZ {kindOf:Str→Option NameKind} {x:Str} {v:Value}:∀ {P:List Str} {vs:List Value} {i:Nat} {m:Str→Option Value},P.Nodup→P[i]? =some x→vs[i]? =some v→kindOf x=some .local→
  bindL kindOf (P.zip vs) m x=some v
 | [],_,_,_,_,h,_,_=>by simp at h
 | _::_,[],_,_,_,_,h,_=>by simp at h
 | p::P,w::vs,0,m,nd,h1,h2,hk=>by simp at h1 h2; subst h1; subst h2; show bindL kindOf ((p,w)::P.zip vs) m p=_; unfold bindL; rw [zL fun v hv=>(cV.mp nd).1 (xZ hv).1,if_pos hk]; simp
 | p::P,w::vs,i+1,m,nd,h1,h2,hk=>by show bindL kindOf ((p,w)::P.zip vs) m x=_; unfold bindL; exact yZ (i:=i) (cV.mp nd).2 (by simpa using h1) (by simpa using h2) hk
theorem zX {kindOf:Str→Option NameKind} {x:Str} {v:Value}:∀ {P:List Str} {vs:List Value} {i:Nat} {m:Str→Option Value},P.Nodup→P[i]? =some x→vs[i]? =some v→kindOf x≠some .local→
  bindC kindOf (P.zip vs) m x=some v
 | [],_,_,_,_,h,_,_=>by simp at h
 | _::_,[],_,_,_,_,h,_=>by simp at h
 | p::P,w::vs,0,m,nd,h1,h2,hk=>by simp at h1 h2; subst h1; subst h2; show bindC kindOf ((p,w)::P.zip vs) m p=_; unfold bindC; rw [zJ fun v hv=>(cV.mp nd).1 (xZ hv).1,if_neg hk]; simp
 | p::P,w::vs,i+1,m,nd,h1,h2,hk=>by show bindC kindOf ((p,w)::P.zip vs) m x=_; unfold bindC; exact zX (i:=i) (cV.mp nd).2 (by simpa using h1) (by simpa using h2) hk
def start (N:List Str) (vs:List V):St:=vs.map some++eD (N.length - vs.length) none
def pA (CX:CXT) (P:Program) (w:World) (K:aB) (mg:Str→Option Value) (base:Heap) (N:List Str) (qual:Str) (scope:Scope) (f:Addr) (cd:Value) (A:Around) (outer:List Env) (s:Shared) (H:Hp) (E:XK):Cx where
 prog:=P
 w:=w
 K:=K
 mg:=mg
 base:=base
 A:=A.deeper (envOfC qual scope s.heap.objs.size f cd)
 N:=N
 s₀:=s
 H₀:=H
 env:=envOfC qual scope s.heap.objs.size f cd
 outer:=outer
 stack:=envOfC qual scope s.heap.objs.size f cd::outer
 ex:=[]
 calm:=true
 fn:=fun _=>true
 pn:=[]
 xe:=fun e s'=>wpAny (model P w) (A.deeper (envOfC qual scope s.heap.objs.size f cd)) (leaving (envOfC qual scope s.heap.objs.size f cd) e) (fun _ s''=>CX outer H s E e s'') (fun e' s''=>CX outer H s E e' s'') s'
theorem cell_has {sc:Scope} {n:Nat} {x:Str} (h:sc.names.lookup x=some .cell):∃c,(cellsFrom n sc.names []).lookup x=some c:=by have q:=PySem.W.cellsFrom_some sc.names n [] (.inl h); exact nR.mp q
theorem inv_start {CX:CXT} {P:Program} {w:World} {K:aB} {mg:Str→Option Value} {base:Heap} {N ps:List Str} {qual:Str} {scope:Scope} {f:Addr} {cd:Value} {A:Around} {outer:List Env} {s s1:Shared} {H:Hp} {E:XK} {us:List Value} {vs:List V}
  (S:oI N ps scope) (hd:A.handled=none) (e0:Env0 P w K mg base A outer s H) (hl:vs.length=ps.length) (r:Vals vs us)
  (x:InCallC s s.heap.objs.size (bindL (envOfC qual scope s.heap.objs.size f cd).kindOf (ps.zip us) fun _=>none) (cellsFrom (s.heap.objs.size+1) scope.names []) (bindC (envOfC qual scope s.heap.objs.size f cd).kindOf (ps.zip us) fun _=>none) s1):
  Inv (pA CX P w K mg base N qual scope f cd A outer s H E) [] (start N vs) H s1:=by
 have hpl:ps.length≤N.length:=by have:=congrArg xR S.pre; rw [eN] at this; omega
 obtain ⟨h1,tk,rfl,hk⟩:=x.done; have noA:∀b:Addr,b∉(pA CX P w K mg base N qual scope f cd A outer s H E).ex:=fun b z=>absurd (show b∈([]:List Addr) from z) (by simp)
 refine ⟨⟨e0.mod,S.kind,rfl,rfl,aN _,fun y z c h1 h2=> ?_,fun y hy=> ?_,fun y c _ h=> ?_,fun _=>hd,Around.frames_deeper e0.frames, .inr ⟨rfl,rfl⟩,fun b z=>absurd z (noA b),e0.bs,e0.bsz,fun b _ _=>noA b,fun b z=>absurd z (noA b),e0.funs,e0.frf⟩,
  rfl,e0.bare,Un.kept hk,⟨_,x.toInCall.ns,fun i y v h1 h2 h3=> ?_⟩,fun y c h=>⟨_,x.cell y c h⟩,e0.hok.fresh (aN _),fun y c h=> ?_,fun p hp=>absurd (show p∈([]:List (Addr × Obj)) from hp) (by simp),e0.hok.kept hk, ?_⟩
 ·exact name_of_addr x.apart (PySem.mem_of_lookup h1) (PySem.mem_of_lookup h2)
 ·have hy:scope.names.lookup y=some .cell∨scope.names.lookup y=some .free:=hy
  rcases hy with hy | hy
  ·exact cell_has hy
  ·exact absurd rfl (S.nofree _ (PySem.mem_of_lookup hy))
 ·exact dP (x.above y c (PySem.mem_of_lookup h))
 ·have hi:i<vs.length:=by
   unfold start at h2
   by_cases hi:i<vs.length
   ·exact hi
   ·rw [fN (by simpa using hi)] at h2; rw [List.getElem?_replicate] at h2
    split at h2<;>cases h2
  have ha:vs[i]? =some v:=by
   unfold start at h2; rw [gS (by simpa using hi),cI] at h2; cases e:vs[i]? with
   | none=>rw [e] at h2; cases h2
   | some a=>rw [e] at h2; cases h2; rfl
  obtain ⟨u,hu,rv⟩:=r.get ha
  have hp:ps[i]? =some y:=by rw [← S.pre,List.getElem?_take_of_lt (by omega)]; exact h1
  have ndP:ps.Nodup:=by rw [← S.pre]; exact S.nd.sublist (List.take_sublist _ _)
  refine ⟨u,rv, ?_⟩
  rcases S.par y (dE hp) with k | k
  ·exact .inl ⟨k,yZ ndP hp hu k⟩
  ·obtain ⟨c,e⟩:=cell_has (n:=s.heap.objs.size+1) k; refine .inr ⟨.inl k,c,e, ?_⟩; have q:=x.cell y c e; rw [zX ndP hp hu (by show scope.names.lookup y≠_; rw [k]; decide)] at q; exact q
 ·exact e0.hok.fresh (dP (x.above y c (PySem.mem_of_lookup h)))
 ·unfold start; show _=N.length; rw [cR,aD,qL]; omega
theorem fn_of {CX:CXT} {P:Program} {w:World} {K:aB} {mg:Str→Option Value} {base:Heap} {k:Nat} {f:Addr} {name qual:Str} {params:Arguments} {body:List Stmt} {scope:Scope} {dV kV doc pm cdv ct oc:Value} {an od:Option Addr}
  {osl:Array (Option Value)} {N ps:List Str} {sp:Sp} (lk:K.lookup f=some ⟨oc,od, .func (bQ name qual params body scope dV kV doc pm an cdv ct),osl⟩) (hcd:bT K cdv qual=true) (S:oI N ps scope)
  (len:∀vs H Q E,sp vs H Q E→vs.length=ps.length)
  (hbody:∀ (A:Around) (outer:List Env) (s:Shared) (H:Hp) (vs:List V) (Q:VK) (E:XK),Room k (A.deeper (envOfC qual scope s.heap.objs.size f cdv))→sp vs H Q E→
   ∃t,PSs (pA CX P w K mg base N qual scope f cdv A outer s H E) body t∧t {nx:=fun _ H'=>Q .non H',rt:=Q} (start N vs) H):
  FnOk P w K mg base CX (k+1) f (bQ name qual params body scope dV kV doc pm an cdv ct) ps sp:=by
 refine ⟨len,fun A outer s H args us vs Q E hr e0 hb r hsp=> ?_⟩; have hl:=len _ _ _ _ hsp; have KX:K.In s.heap:=e0.mod.kin.keeps fun b o e=>(e0.bs b o e).1
 have lim:s.heap.NoLimit:=e0.mod.nolimit.keeps fun b o e=>(e0.bs b o e).1
 have hkind:∀y∈ps.zip us,scope.names.lookup y.1=some .local∨(scope.names.lookup y.1=some .cell∧((cellsFrom (s.heap.objs.size+1) scope.names []).lookup y.1).isSome=true):=fun ⟨n,v⟩ hy=>by
  rcases S.par n (xZ hy).1 with q | q
  ·exact .inl q
  ·exact .inr ⟨q,PySem.W.cellsFrom_some _ _ _ (.inl q)⟩
 refine codeAny_call_function hr.depth (KX _ _ lk) rfl S.co S.gen rfl (PySem.W.codeRec_of KX hcd) (hb _ _ _ _ ?_); refine wpAny_newFunctionEnv_cells S.kind hkind fun env he s1 x=> ?_
 subst he; refine ⟨lim.keeps x.toInCall.keep,codeAny_func ?_⟩; obtain ⟨t,ht,hq⟩:=hbody A outer s H vs Q E (hr.deeper _) hsp; have I:Inv (pA CX P w K mg base N qual scope f cdv A outer s H E) [] (start N vs) H s1:=inv_start S hr.hd e0 hl r x; refine wpAny_mono (ht [] s1 (start N vs) H _ I hq) (fun fl s' hs=> ?_) fun e s' hs=>hs
 have fin:∀ {σ':St} {H':Hp} {v:V} {u:Value},Inv (pA CX P w K mg base N qual scope f cdv A outer s H E) [] σ' H' s'→RelV v u→Q v H'→CE outer P w H s Q u s':=
  fun {σ' H' v u} J rv q=>⟨v,H',J.os,J.bare,J.base,J.hok,rv,q⟩
 cases fl with
 | ret u=>obtain ⟨v,σ',H',J,rv,q⟩:=hs; exact fin J rv q
 | next=>obtain ⟨σ',H',J,q⟩:=hs; exact fin (v:=V.non) (u:=Value.none) J rfl q
 | brk=>obtain ⟨_,_,_,q⟩:=hs; exact False.elim q
 | cont=>obtain ⟨_,_,_,q⟩:=hs; exact False.elim q
section
variable {X:Cx} {x:Str} {p pos:Pos} {e:Expr} {es:List Expr} {t:TA} {id T:String} {r:List V→Hp→VK→Prop}
def tCB (r:List V→Hp→VK→Prop) (t:TA):TE:=fun σ H Q=>t σ H fun vs H1=>r vs H1 Q
theorem pP (hc:pJ X (.builtin id) r) (hg:Gl X x) (hm:X.mg x=none) (hv:bootBuiltins x=some (.builtin id)) (ha:PA X (e::es) t) (hn:x≠"__name__":=by decide) (hdb:(x==("__debug__":Str))=false:=by decide)
  (he:starEach (e::es) X.env=(false,eval e X.env)::starEach es X.env:=by rfl) (hpl:(backTo pos (starEach es X.env)).any (·.1)=false:=by rfl):PE X (.Call (.Name x p) (e::es) [] pos) (tCB r t):=by
 intro pins s σ H Q I h; refine wpAny_Call_Name_kw (mQ I hg hm hv ?_ hn hdb); exact PyProof.Rows.callWith_builtin1 (thn (ha pos pins s σ H _ I h) fun us s1 ⟨vs,H1,I1,r1,q1⟩=>hc pins s1 σ H1 vs us Q I1 r1 q1) he hpl
theorem pe_callTy (hc:pJ X (.type T) r) (hg:Gl X x) (hm:X.mg x=none) (hv:bootBuiltins x=some (.type T)) (ha:PA X (e::es) t) (hn:x≠"__name__":=by decide) (hdb:(x==("__debug__":Str))=false:=by decide)
  (he:starEach (e::es) X.env=(false,eval e X.env)::starEach es X.env:=by rfl) (hpl:(backTo pos (starEach es X.env)).any (·.1)=false:=by rfl):PE X (.Call (.Name x p) (e::es) [] pos) (tCB r t):=by
 intro pins s σ H Q I h; refine wpAny_Call_Name_kw (mQ I hg hm hv ?_ hn hdb); exact PyProof.Rows.callWith_type1 (thn (ha pos pins s σ H _ I h) fun us s1 ⟨vs,H1,I1,r1,q1⟩=>hc pins s1 σ H1 vs us Q I1 r1 q1) he hpl
end
end L2
namespace HT
open PySem PyProof.Rows
def lexLt:List Int→List Int→Bool
 | [],[]=>false
 | [],_::_=>true
 | _::_,[]=>false
 | x::xs,y::ys=>if x=y then lexLt xs ys else decide (x<y)
section
open PySem.SeqAt
open PySem.AutoSeq1 (wpAny_loadPart')
open PySem.MeetsSeq PySem.MeetsSeq2 PySem.MeetsSeq3
end
section
variable {prog:Program} {w:World} {A:Around} {E:Value→Shared→Prop} {s:Shared}
theorem cat_tup {t b:Addr} {vs ws:List Value} {Q:Value→Shared→Prop} (ht:IsTup s.heap t vs.toArray) (hb:IsTup s.heap b ws.toArray) (hv:vs≠[])
  (h1:ws=[]→Q (.ref t) s) (h2:ws≠[]→Q (.ref s.heap.objs.size) {s with heap:=s.heap.push {cls:= .type "tuple",data:= .seq (vs++ws).toArray}})
  (hsz:vs.length+ws.length≤sizeLine):wpAny (model prog w) A (binaryOp .Add (.ref t) (.ref b)) Q E s:=by
 obtain ⟨⟨cls,dd,data,sl⟩,ho,hc,n,hd⟩:=id ht; obtain ⟨⟨cls2,dd2,data2,sl2⟩,ho2,hc2,n2,hd2⟩:=id hb; simp only at hc hd hc2 hd2; subst hc hd hc2 hd2; have e:vs.toArray++ws.toArray=(vs++ws).toArray:=by simp
 by_cases hw:ws=[]
 ·exact concat_meets ⟨_,ho,rfl⟩ ⟨_,ho2,rfl⟩ noFill_tuple_add seq_tuple_add oQ nY (nQ _ _)
   (tuple_addW1 t b vs.toArray ws.toArray n n2 dd dd2 sl sl2 (by simpa using hv) (by simp [hw])) ⟨ho,ho2,h1 hw⟩
 ·refine concat_meets ⟨_,ho,rfl⟩ ⟨_,ho2,rfl⟩ noFill_tuple_add seq_tuple_add oQ nY (nQ _ _)
   (tuple_addW2 t b vs.toArray ws.toArray n n2 dd dd2 sl sl2 (by simpa using hv) (by simpa using hw) (by rw [aQ,aQ]; exact hsz)) ⟨ho,ho2, ?_⟩
  rw [e]; exact h2 hw
def sIx (n d:Nat):Option Int→Nat
 | none=>d
 | some v=>if v<0 then (v+(n:Int)).toNat else min v.toNat n
theorem sIx_none (n d:Nat):sIx n d none=d:=rfl
theorem sIx_nat (n d k:Nat):sIx n d (some (k:Int))=min k n:=by show (if (k:Int)<0 then ((k:Int)+(n:Int)).toNat else min (k:Int).toNat n)=min k n; rw [if_neg (by omega),eE]
end
end HT
namespace L2
open PySem PySem.Spec PyProof.Rows
abbrev TO:=St→Hp→(Option Int→Hp→Prop)→Prop
def PO (X:Cx) (e:Option Expr) (t:TO):Prop:=
 ∀ (pins:List (Addr × Obj)) (s:Shared) (σ:St) (H:Hp) (Q:Option Int→Hp→Prop),Inv X pins σ H s→t σ H Q→
  wpAny (model X.prog X.w) X.A (evalPart e X.env) (fun u s'=>∃o H',Inv X pins σ H' s'∧IsPart u o∧Q o H') X.xe s
def tNoPart:TO:=fun _ H Q=>Q none H
def tPart (t:TE):TO:=fun σ H Q=>t σ H fun x H1=>∃i,x= .int i∧Q (some i) H1
section
variable {X:Cx} {e:Expr} {te:TE} {lo hi:Option Expr} {tl th:TO} {pos p2:Pos}
theorem po_none:PO X none tNoPart:=by intro pins s σ H Q I h; rw [evalPart_none]; exact wpAny_pure ⟨none,H,I, .none,h⟩
theorem po_some (h:PE X e te):PO X (some e) (tPart te):=by
 intro pins s σ H Q I hw; rw [evalPart_some]; refine thn (h pins s σ H _ I hw) fun u s1 ⟨x,H1,I1,r1,q1⟩=> ?_
 obtain ⟨i,rfl,q⟩:=q1; obtain ⟨t,rfl⟩:=r1; exact ⟨some i,H1,I1, .int i t,q⟩
def SlR (X:Cx) (r:V→Option Int→Option Int→Hp→VK→Prop):Prop:=
 ∀ (pins:List (Addr × Obj)) (s:Shared) (σ:St) (H:Hp) (x:V) (v vl vu:Value) (lo hi:Option Int) (sl:Addr) (Q:VK),Inv X pins σ H s→RelV x v→s.heap.IsSliceOf sl vl vu .none→IsPart vl lo→IsPart vu hi→r x lo hi H Q→
  ∃T id,typeLookup (.type T) "__getitem__"=pure (some (.builtin id))∧s.TypeIs v T∧wpAny (model X.prog X.w) X.A (getItem v (.ref sl)) (EP X pins σ Q) X.xe s
def tSl (r:V→Option Int→Option Int→Hp→VK→Prop) (te:TE) (tl th:TO):TE:=fun σ H Q=>te σ H fun x H1=>tl σ H1 fun l H2=>th σ H2 fun u H3=>r x l u H3 Q
theorem pe_slice {r:V→Option Int→Option Int→Hp→VK→Prop} (hr:SlR X r) (he:PE X e te) (hl:PO X lo tl) (hu:PO X hi th):PE X (.Subscript e (.Slice lo hi none p2) pos) (tSl r te tl th):=by
 intro pins s σ H Q I h; refine Subscript_ (thn (he pins s σ H _ I h) fun v s1 ⟨x,H1,I1,r1,q1⟩=> ?_); refine wpAny_Slice (thn (hl pins s1 σ H1 _ I1 q1) fun vl s2 ⟨l,H2,I2,pl,q2⟩=>thn (hu pins s2 σ H2 _ I2 q2) fun vu s3 ⟨u,H3,I3,pu,q3⟩=> ?_); rw [evalPart_none]; refine wpAny_pure ?_; have I4:Inv X pins σ H3 {s3 with heap:=s3.heap.push {cls:= .type "slice",data:= .fields #[vl,vu, .none]}}:=I3.kept (t':=s3.toks) fun b ob q=>aA _ q
 obtain ⟨T,id,hT,ht,hg⟩:=hr pins {s3 with heap:=s3.heap.push {cls:= .type "slice",data:= .fields #[vl,vu, .none]}} σ H3 x v vl vu l u s3.heap.objs.size Q I4 r1 (Heap.IsSliceOf.new ..) pl pu q3; show wpAny (model X.prog X.w) X.A (subscriptTail e (.Slice lo hi none p2) v (.ref s3.heap.objs.size)) (EP X pins σ Q) X.xe {s3 with heap:=s3.heap.push {cls:= .type "slice",data:= .fields #[vl,vu, .none]}}; exact tail_any (ops:=[.ref s3.heap.objs.size,v]) ht hT hg (by with_unfolding_all rfl)
def cutV (xs:List V) (lo hi:Option Int):List V:=(xs.drop (HT.sIx xs.length 0 lo)).take (HT.sIx xs.length xs.length hi - HT.sIx xs.length 0 lo)
theorem cutV_length (xs:List V) (lo hi:Option Int):(cutV xs lo hi).length≤xs.length:=by unfold cutV; rw [eN,lB]; omega
def rCatT (K:aB):R2:=fun x y H Q=>∃a b xs ys,x= .ref a∧y= .ref b∧SqT K H a xs∧SqT K H b ys∧xs≠[]∧xs.length+ys.length≤sizeLine∧
 (ys=[]→Q (.ref a) H)∧(ys≠[]→∀p,H p=none→Q (.ref p) (upd H p (.tup (xs++ys))))
theorem Vals.nil_iff {xs:List V} {us:List Value} (r:Vals xs us):us=[]↔xs=[]:=by
 cases r with
 | nil=>simp
 | cons _ _=>simp
theorem op_catT:OpR X (binaryOp .Add) (rCatT X.K):=by intro pins s σ H x y v u Q I rx ry h; obtain ⟨a,b,xs,ys,rfl,rfl,ha,hb,hx,hz,q1,q2⟩:=h; cases rx; cases ry; obtain ⟨its,r1,p1,_⟩:=I.tuple ha; obtain ⟨its2,r2,p2,_⟩:=I.tuple hb; refine HT.cat_tup p1 p2 (fun z=>hx (r1.nil_iff.mp z)) (fun z=>⟨.ref a,H,I,rfl,q1 (r2.nil_iff.mp z)⟩) (fun z=> ?_) (by rw [← r1.length,← r2.length]; exact hz); refine ⟨.ref s.heap.objs.size,_,I.laid (t':=s.toks) (o:= .tup (xs++ys)) (fun b ob q=>aA _ q) (aN _) ?_,rfl,q2 (fun w=>z (r2.nil_iff.mpr w)) _ (I.hok.fresh (aN _))⟩; exact ⟨by rw [cR]; exact hz,_,r1.append r2,IsTupD.new _ _⟩
end
def ixN (n:Nat) (i:Int):Option Nat:=if 0≤i then (if i<n then some i.toNat else none) else if -(n:Int)≤i then some (i+n).toNat else none
def atI {α:Type} (xs:List α) (i:Int):Option α:=(ixN xs.length i).bind fun j=>xs[j]?
theorem ixN_seq {n:Nat} {i:Int} {j:Nat} (h:ixN n i=some j):seqIndex? i n=some j∧j<n∧ -(n:Int)≤i∧i<n:=by
 unfold ixN at h
 by_cases h0:0≤i
 ·rw [if_pos h0] at h
  by_cases h1:i<n
  ·rw [if_pos h1] at h; have e:i.toNat=j:=cA.inj h; exact ⟨by rw [seqIndex_of h0 h1,e],by omega,by omega,h1⟩
  ·rw [if_neg h1] at h; cases h
 ·rw [if_neg h0] at h
  by_cases h1: -(n:Int)≤i
  ·rw [if_pos h1] at h; have e:(i+n).toNat=j:=cA.inj h; exact ⟨by rw [seqIndex_neg (by omega) h1,e],by omega,h1,by omega⟩
  ·rw [if_neg h1] at h; cases h
theorem atI_get {α:Type} {xs:List α} {i:Int} {v:α} (h:atI xs i=some v):∃j,seqIndex? i xs.length=some j∧xs[j]? =some v∧j<xs.length∧ -(xs.length:Int)≤i∧i<xs.length:=by
 unfold atI at h; cases e:ixN xs.length i with
 | none=>rw [e] at h; cases h
 | some j=>rw [e] at h; obtain ⟨h1,h2,h3,h4⟩:=ixN_seq e; exact ⟨j,h1,h,h2,h3,h4⟩
theorem uQ {α:Type} {xs:List α} {j:Nat} {v:α} (h:xs[j]? =some v):atI xs (j:Int)=some v:=by
 have hj:j<xs.length:=(cG.mp h).1
 have e:ixN xs.length (j:Int)=some j:=by unfold ixN; rw [if_pos (by omega),if_pos (by omega)]; simp
 unfold atI; rw [e]; exact h
def oH (b:Expr):Prop:=∀o i,subscripted b false o i=operate [o,i] (getItem o i)
def IxR (X:Cx) (r:R2):Prop:=
 ∀ (value slice:Expr) (pins:List (Addr × Obj)) (s:Shared) (σ:St) (H:Hp) (x y:V) (v u:Value) (Q:VK),Inv X pins σ H s→RelV x v→RelV y u→r x y H Q→
  subscripted slice false v u=operate [v,u] (getItem v u)→wpAny (model X.prog X.w) X.A (subscriptTail value slice v u) (EP X pins σ Q) X.xe s
def MtR (X:Cx) (id:String) (r:V→List V→Hp→VK→Prop):Prop:=
 ∀ (pins:List (Addr × Obj)) (s:Shared) (σ:St) (H:Hp) (x:V) (xs:List V) (v:Value) (us:List Value) (Q:VK),Inv X pins σ H s→RelV x v→Vals xs us→r x xs H Q→
  wpAny (model X.prog X.w) X.A (call (.builtin id) (v::us)) (EP X pins σ Q) X.xe s
section
variable {X:Cx} {a b:Expr} {ta tb:TE} {pos:Pos}
theorem pe_ix {r:R2} (hr:IxR X r) (ha:PE X a ta) (hb:PE X b tb) (hs:oH b):PE X (.Subscript a b pos) (tOp r ta tb):=by intro pins s σ H Q I h; exact Subscript_ (binT ha hb I h fun v u s2 x y H2 I2 rx ry q=>hr a b pins s2 σ H2 x y v u Q I2 rx ry q (hs _ _))
def rIxL (K:aB):R2:=fun x y H Q=>∃p xs i v,x= .ref p∧y= .int i∧SqL K H p xs∧atI xs i=some v∧Q v H
def rIxT (K:aB):R2:=fun x y H Q=>∃p xs i v,x= .ref p∧y= .int i∧SqT K H p xs∧atI xs i=some v∧Q v H
theorem ix_list:IxR X (rIxL X.K):=by
 intro value slice pins s σ H x y v u Q I rx ry h hs; obtain ⟨p,xs,i,z,rfl,rfl,hq,he,q⟩:=h; cases rx; obtain ⟨t,rfl⟩:=ry; obtain ⟨its,r,pl,hz⟩:=I.list hq; obtain ⟨j,h1,h2,h3,h4,h5⟩:=atI_get he; obtain ⟨w,ew,rw'⟩:=r.get h2; have hl:=r.length; have hn:=line63; have fin:EP X pins σ Q w s:=⟨z,H,I,rw',q⟩
 by_cases h0:0≤i
 ·have hj:i.toNat=j:=by rw [seqIndex_of h0 h5] at h1; exact cA.inj h1
  exact item_listR pl.isList h0 (by omega) (by rw [hj]; simpa using ew) fin hs
 ·have hj:(i+(its.toArray.size:Int)).toNat=j:=by rw [seqIndex_neg (by omega) h4] at h1; rw [aQ,← hl]; exact cA.inj h1
  exact subscriptTail_builtinR (x:=w) pl.isList.typeIs slot_list_getitem.lookup
   (wpAny_getItem_list_neg (Q:=fun r s'=>r=w∧EP X pins σ Q r s') pl.isList (by omega) (by rw [aQ]<;>omega) (by omega) (by rw [hj]; simpa using ew) ⟨rfl,fin⟩) hs
theorem ix_tup:IxR X (rIxT X.K):=by
 intro value slice pins s σ H x y v u Q I rx ry h hs; obtain ⟨p,xs,i,z,rfl,rfl,hq,he,q⟩:=h; cases rx; obtain ⟨t,rfl⟩:=ry; obtain ⟨its,r,pl,hz⟩:=I.tuple hq; obtain ⟨j,h1,h2,h3,h4,h5⟩:=atI_get he; obtain ⟨w,ew,rw'⟩:=r.get h2; have hl:=r.length; have hn:=line63; have fin:EP X pins σ Q w s:=⟨z,H,I,rw',q⟩
 exact subscriptTail_builtinR (x:=w) pl.typeIs slot_tuple_getitem.lookup
  (getItem_tuple (j:=j) (Q:=fun r s'=>r=w∧EP X pins σ Q r s') pl (by omega) (by omega) (by rw [aQ,← hl]; exact h1) (by simpa using ew) ⟨rfl,fin⟩) hs
theorem mapSeq_set (its:List Value) (n j:Nat) (u:Value):Obj.mapSeq (·.setIfInBounds j u) {cls:= .type "list",data:= .seq its.toArray n}={cls:= .type "list",data:= .seq (its.set j u).toArray n}:=by simp [Obj.mapSeq]
theorem Inv.lst {pins:List (Addr × Obj)} {σ:St} {H:Hp} {s:Shared} {p:Addr} {xs:List V} (I:Inv X pins σ H s) (h:H p=some (.lst xs)):
  ∃ (its:List Value) (n:Nat),Vals xs its∧s.heap.get? p=some {cls:= .type "list",data:= .seq its.toArray n}∧xs.length≤sizeLine:=by
 obtain ⟨z,its,n,r,e⟩:=I.hok p _ h; exact ⟨its,n,r,e,z⟩
theorem Inv.lstUpd {pins:List (Addr × Obj)} {σ:St} {H:Hp} {s:Shared} {p:Addr} {xs ys:List V} {its its':List Value} {n n':Nat} {f:Obj→Obj} (I:Inv X pins σ H s) (h:H p=some (.lst xs))
  (ho:s.heap.get? p=some {cls:= .type "list",data:= .seq its.toArray n}) (hf:f {cls:= .type "list",data:= .seq its.toArray n}={cls:= .type "list",data:= .seq its'.toArray n'}) (r:Vals ys its') (hz:ys.length≤sizeLine) (t:Nat):
  Inv X pins σ (upd H p (.lst ys)) {s with heap:=s.heap.update p f,toks:=t}:=by
 have e:(s.heap.update p f).get? p=some {cls:= .type "list",data:= .seq its'.toArray n'}:=by rw [fD f ho (by rw [hf]<;>rfl),hf]
 refine I.write (x:=p) (e:=p) (by rw [h]; trivial) (.inl rfl) (fun b u hb q=>(cY _ _ (Ne.symm hb)).trans q) ⟨_,e⟩ ?_; exact ⟨hz,its',n',r,e⟩
def rSetL:V→V→V→Hp→(Hp→Prop)→Prop:=fun o i v H Q=>∃p xs k j,o= .ref p∧i= .int k∧H p=some (.lst xs)∧ixN xs.length k=some j∧Q (upd H p (.lst (xs.set j v)))
theorem set_list:PSet X rSetL:=by
 intro pins s σ H o i v ov iv u Q I ro ri rv h; obtain ⟨p,xs,k,j,rfl,rfl,hp,hj,q⟩:=h; cases ro; obtain ⟨t,rfl⟩:=ri; obtain ⟨its,n,r,ho,hz⟩:=I.lst hp; obtain ⟨h1,h2,h3,h4⟩:=ixN_seq hj; have hl:=r.length; have hn:=line63
 have I':Inv X pins σ (upd H p (.lst (xs.set j v))) {s with heap:=s.heap.update p (Obj.mapSeq (·.setIfInBounds j u))}:=
  I.lstUpd hp ho (mapSeq_set its n j u) (r.set rv j) (by rw [yG]; exact hz) s.toks
 by_cases h0:0≤k
 ·have hk:k.toNat=j:=by rw [seqIndex_of h0 h4] at h1; exact cA.inj h1
  exact PySem.W.ki_setAt ho h0 (by omega) (by rw [aQ,← hl]; exact h4) (by rw [hk]; exact ⟨_,I',q⟩)
 ·have hk:(k+(its.toArray.size:Int)).toNat=j:=by rw [seqIndex_neg (by omega) h3] at h1; rw [aQ,← hl]; exact cA.inj h1
  exact PySem.W.ki_setBack ho (by omega) (by rw [aQ,← hl]; exact h3) (by omega) (by rw [hk]; exact ⟨_,I',q⟩)
theorem slice_bounds (lo hi:Option Int) (n:Nat):(sliceBounds lo hi none n).1=((HT.sIx n 0 lo:Nat):Int)∧(sliceBounds lo hi none n).2.1=((HT.sIx n n hi:Nat):Int)∧(sliceBounds lo hi none n).2.2=1:=by
 refine ⟨?_, ?_,rfl⟩
 ·cases lo with
  | none=>simp [sliceBounds,HT.sIx]
  | some i=>
   simp only [sliceBounds,HT.sIx,Option.getD_none,show (1:Int)>0 by decide,if_true]
   by_cases h:i<0
   ·simp only [h,if_true]<;>omega
   ·simp only [h,if_false]<;>omega
 ·cases hi with
  | none=>simp [sliceBounds,HT.sIx]
  | some i=>
   simp only [sliceBounds,HT.sIx,Option.getD_none,show (1:Int)>0 by decide,if_true]
   by_cases h:i<0
   ·simp only [h,if_true]<;>omega
   ·simp only [h,if_false]<;>omega
theorem yN (its:List Value) (lo hi:Option Int):slicePick its.toArray lo hi none=((its.drop (HT.sIx its.length 0 lo)).take (HT.sIx its.length its.length hi - HT.sIx its.length 0 lo)).toArray:=by obtain ⟨h1,h2,h3⟩:=slice_bounds lo hi its.toArray.size; unfold slicePick; rw [h1,h2,h3]; simp only [sliceRange_one,pick_run,aQ]<;>rfl
def rSlL (K:aB):V→Option Int→Option Int→Hp→VK→Prop:=fun x lo hi H Q=>∃a xs,x= .ref a∧SqL K H a xs∧∀p,H p=none→Q (.ref p) (upd H p (.lst (cutV xs lo hi)))
theorem sl_list:SlR X (rSlL X.K):=by intro pins s σ H x v vl vu lo hi sl Q I rx hs pl pu h; obtain ⟨a,xs,rfl,hx,q⟩:=h; cases rx; obtain ⟨its,r,ht,hz⟩:=I.list hx; have hlen:=r.length; refine ⟨"list",_,slot_list_getitem.lookup,ht.isList.typeIs, ?_⟩; refine wpAny_getItem_list_slice ht.isList hs pl pu .none (by simp) ?_ (by rw [aQ]<;>omega); rw [yN,← hlen]; refine ⟨.ref s.heap.objs.size,_,I.laid (t':=s.toks) (o:= .lst (cutV xs lo hi)) (fun b ob q=>aA _ q) (aN _) ?_,rfl,q _ (I.hok.fresh (aN _))⟩; exact ⟨dO (cutV_length xs lo hi) hz,_,0,(r.drop (HT.sIx xs.length 0 lo)).take (HT.sIx xs.length xs.length hi - HT.sIx xs.length 0 lo),aV _ rfl⟩
def flatV:V→Bool
 | .non=>true
 | .bl _=>true
 | .int _=>true
 | .str _=>true
 | _=>false
def eqV:V→V→Bool
 | .non, .non=>true
 | .bl a, .bl b=>a==b
 | .bl a, .int b=>(if a then 1 else 0)==b
 | .int a, .bl b=>a==(if b then 1 else 0)
 | .int a, .int b=>a==b
 | .str a, .str b=>a==b
 | _,_=>false
theorem eqAt_V {A:Around} {s:Shared} {y x:V} {u v:Value} (ry:RelV y u) (rx:RelV x v) (fy:flatV y=true) (fx:flatV x=true):SeqAt.EqAt A s u v (eqV y x):=by
 cases y with
 | non=>
  cases ry; cases x with
  | non=>cases rx; exact SeqAt.EqAt.same _
  | bl b=>cases rx; exact SeqAt.EqAt.none_bool b
  | int b=>obtain ⟨t,rfl⟩:=rx; exact SeqAt.EqAt.none_int b t
  | str b=>obtain ⟨t,rfl⟩:=rx; exact SeqAt.EqAt.none_str b t
  | _=>exact absurd (show false=true from fx) bV
 | bl a=>
  cases ry; cases x with
  | non=>cases rx; exact SeqAt.EqAt.bool_none a
  | bl b=>cases rx; exact SeqAt.EqAt.bool_bool a b
  | int b=>obtain ⟨t,rfl⟩:=rx; exact SeqAt.EqAt.bool_int a b t
  | str b=>obtain ⟨t,rfl⟩:=rx; exact SeqAt.EqAt.bool_str a b t
  | _=>exact absurd (show false=true from fx) bV
 | int a=>
  obtain ⟨t',rfl⟩:=ry; cases x with
  | non=>cases rx; exact SeqAt.EqAt.int_none a t'
  | bl b=>cases rx; exact SeqAt.EqAt.int_bool a t' b
  | int b=>obtain ⟨t,rfl⟩:=rx; exact SeqAt.EqAt.int_int a t' b t
  | str b=>obtain ⟨t,rfl⟩:=rx; exact SeqAt.EqAt.int_str a t' b t
  | _=>exact absurd (show false=true from fx) bV
 | str a=>
  obtain ⟨t',rfl⟩:=ry; cases x with
  | non=>cases rx; exact SeqAt.EqAt.str_none a t'
  | bl b=>cases rx; exact SeqAt.EqAt.str_bool a t' b
  | int b=>obtain ⟨t,rfl⟩:=rx; exact SeqAt.EqAt.str_int a t' b t
  | str b=>obtain ⟨t,rfl⟩:=rx; exact SeqAt.EqAt.str_str a t' b t
  | _=>exact absurd (show false=true from fx) bV
 | _=>exact absurd (show false=true from fy) bV
theorem sA:pJ X (.builtin "len") (fun xs H Q=>∃p ys,xs=[.ref p]∧(SqL X.K H p ys∨SqT X.K H p ys)∧Q (.int ys.length) H):=by
 intro pins s σ H xs us Q I r h; obtain ⟨p,ys,rfl,hq,q⟩:=h; obtain ⟨u,rfl,rx⟩:=zZ r; cases rx; have hn:=line63
 rcases hq with hq | hq
 ·obtain ⟨its,r',pl,hz⟩:=I.list hq; have hlen:=r'.length; exact Calls.call_len_list pl.isList (by simp only [aQ]<;>omega) ⟨.int ys.length,H,I.tok _,⟨s.toks+1,by rw [aQ,hlen]⟩,q⟩
 ·obtain ⟨its,r',pl,hz⟩:=I.tuple hq; have hlen:=r'.length; exact len_tuple pl (by simp only [aQ]<;>omega) ⟨.int ys.length,H,I.tok _,⟨s.toks+1,by rw [aQ,hlen]⟩,q⟩
theorem call_list_of:pJ X (.type "list") (fun xs H Q=>∃p ys,xs=[.ref p]∧(SqL X.K H p ys∨SqT X.K H p ys)∧∀l,H l=none→Q (.ref l) (upd H l (.lst ys))):=by
 intro pins s σ H xs us Q I r h; obtain ⟨p,ys,rfl,hq,q⟩:=h; obtain ⟨u,rfl,rx⟩:=zZ r; cases rx
 have fin:∀ (its:List Value),Vals ys its→ys.length≤sizeLine→∀ (h':Heap) (c':Nat),(∀b o',s.heap.get? b=some o'→h'.get? b=some o')→
   h'.get? s.heap.objs.size=some {cls:= .type "list",dict:=none,data:= .seq its.toArray c',slots:= #[]}→EP X pins σ Q (.ref s.heap.objs.size) {s with heap:=h'}:=fun its r' hz h' c' kp e=>
  ⟨.ref s.heap.objs.size,_,I.laid (t':=s.toks) kp (aN _) (show ObjOk X.prog X.w _ h' _ (.lst ys) from ⟨hz,its,c',r',e⟩),rfl,q _ (I.hok.fresh (aN _))⟩
 rcases hq with hq | hq
 ·obtain ⟨its,r',pl,hz⟩:=I.list hq; have hlen:=r'.length; obtain ⟨o,ho,hc,n,hd⟩:=pl.isList; exact call_list_seq p (.inl rfl) ho hc hd (fun h' c' kp e=>fin its r' hz h' c' kp e) (by simp only [aQ]<;>omega)
 ·obtain ⟨its,r',pl,hz⟩:=I.tuple hq; have hlen:=r'.length; obtain ⟨o,ho,hc,n,hd⟩:=pl; exact call_list_seq p (.inr rfl) ho hc hd (fun h' c' kp e=>fin its r' hz h' c' kp e) (by simp only [aQ]<;>omega)
theorem yO:pJ X (.type "tuple") (fun xs H Q=>∃p ys,xs=[.ref p]∧((SqL X.K H p ys∧∀l,H l=none→Q (.ref l) (upd H l (.tup ys)))∨(SqT X.K H p ys∧Q (.ref p) H))):=by
 intro pins s σ H xs us Q I r h; obtain ⟨p,ys,rfl,h⟩:=h; obtain ⟨u,rfl,rx⟩:=zZ r; cases rx
 rcases h with ⟨hq,q⟩ | ⟨hq,q⟩
 ·obtain ⟨its,r',pl,hz⟩:=I.list hq; have hlen:=r'.length; refine call_tuple_list pl.isList (fun h' kp=> ?_) (by simp only [aQ]<;>omega); have I1:Inv X pins σ H {s with heap:=h'}:=I.kept (t':=s.toks) kp
  have I2:Inv X pins σ (upd H h'.objs.size (.tup ys)) {s with heap:=h'.push {cls:= .type "tuple",data:= .seq its.toArray}}:=
   I1.laid (t':=s.toks) (fun b o e=>aA _ e) (aN _) (show ObjOk X.prog X.w _ _ _ (.tup ys) from ⟨hz,its,r',IsTupD.new _ _⟩)
  exact ⟨.ref h'.objs.size,_,I2,rfl,q _ (I1.hok.fresh (aN _))⟩
 ·obtain ⟨its,r',pl,hz⟩:=I.tuple hq; exact call_tuple_same pl ⟨.ref p,H,I,rfl,q⟩
def tyV (K:aB) (T:String) (x:V) (H:Hp):Prop:=match x with
 | .str _=>T="str"
 | .int _=>T="int"
 | .ref p=>(T="list"∧∃xs,SqL K H p xs)∨(T="tuple"∧∃o,K.lookup p=some o∧o.cls= .type "tuple"∧o.dict=none)∨
   (T="dict"∧((∃kvs,H p=some (.dK kvs))∨∃kvs,H p=some (.dT kvs)))∨(T="set"∧∃S n,H p=some (.set S n))
 | _=>False
theorem tyV_is {pins:List (Addr × Obj)} {σ:St} {H:Hp} {s:Shared} {T:String} {x:V} {v:Value} (I:Inv X pins σ H s) (r:RelV x v) (ty:tyV X.K T x H):
  s.TypeIs v T∧∀a,v= .ref a→∃ob,s.heap.get? a=some ob∧ob.dict=none:=by
 cases x with
 | str z=>obtain ⟨t,rfl⟩:=r; cases (show T="str" from ty); exact ⟨typeIs_str s z t,fun _ e=>nomatch e⟩
 | int i=>obtain ⟨t,rfl⟩:=r; cases (show T="int" from ty); exact ⟨typeIs_int s i t,fun _ e=>nomatch e⟩
 | ref p=>
  cases r
  rcases ty with ⟨rfl,xs,hq⟩ | ⟨rfl,o,hk,hc,hd⟩ | ⟨rfl,hk⟩ | ⟨rfl,S,n,hk⟩
  ·obtain ⟨its,_,pl,_⟩:=I.list hq; refine ⟨pl.isList.typeIs,fun a e=> ?_⟩; cases e; obtain ⟨o,n,e,c,hd,_⟩:=pl; exact ⟨o,e,hd⟩
  ·refine ⟨⟨o,I.kIn p o hk,hc⟩,fun a e=> ?_⟩; cases e; exact ⟨o,I.kIn _ o hk,hd⟩
  ·have z:∃o,s.heap.get? p=some o∧o.ExactDict:=by
    rcases hk with ⟨kvs,hk⟩ | ⟨kvs,hk⟩
    ·obtain ⟨_,_,_,_,o,_,_,e,ex,_⟩:=I.hok p _ hk; exact ⟨o,e,ex⟩
    ·obtain ⟨_,_,_,_,o,_,_,e,ex,_⟩:=I.hok p _ hk; exact ⟨o,e,ex⟩
   obtain ⟨o,e,ex⟩:=z; refine ⟨⟨o,e,ex.1⟩,fun a e2=> ?_⟩; cases e2; exact ⟨o,e,ex.2.1⟩
  ·obtain ⟨o,_,_,_,e,ex,_⟩:=I.hok p _ hk; refine ⟨⟨o,e,ex.1⟩,fun a e2=> ?_⟩; cases e2; exact ⟨o,e,ex.2.1⟩
 | _=>exact False.elim ty
def tBM0 (K:aB) (T:String) (r:V→List V→Hp→VK→Prop) (to:TE):TE:=fun σ H Q=>to σ H fun x H1=>tyV K T x H1∧r x [] H1 Q
def tBM (K:aB) (T:String) (r:V→List V→Hp→VK→Prop) (to:TE) (t:TA):TE:=fun σ H Q=>to σ H fun x H1=>tyV K T x H1∧t σ H1 fun xs H2=>r x xs H2 Q
variable {o e:Expr} {es:List Expr} {to:TE} {t:TA} {name:Str} {apos cpos:Pos} {T id:String} {r:V→List V→Hp→VK→Prop}
theorem pe_bm0 (pa:PlainAttrs T) (slot:Slot T name id) (hty:typeOf (.builtin id)=pure (.type "method_descriptor")) (hm:MtR X id r) (ho:PE X o to)
  (hbase:attributeBase o name X.env (eval o X.env)=eval o X.env:=by rfl) (hline:(apos.endLine==cpos.line)=true:=by rfl):PE X (.Call (.Attribute o name apos) [] [] cpos) (tBM0 X.K T r to):=by
 intro pins s σ H Q I h; refine wpAny_Call_method0_late hbase hline (thn (ho pins s σ H _ I h) fun v s1 ⟨x,H1,I1,r1,ty,q1⟩=> ?_); obtain ⟨h1,h2⟩:=tyV_is I1 r1 ty; exact ⟨T,id,pa,slot,hty,h1,h2,Calls.callWith_builtin rfl (PySem.evalArgs_none (hm pins s1 σ H1 x [] v [] Q I1 r1 .nil q1))⟩
theorem pe_bm (pa:PlainAttrs T) (slot:Slot T name id) (hty:typeOf (.builtin id)=pure (.type "method_descriptor")) (hm:MtR X id r) (ho:PE X o to) (ha:PA X (e::es) t)
  (hbase:attributeBase o name X.env (eval o X.env)=eval o X.env:=by rfl)
  (hfew:((backTo cpos (starEach (e::es) X.env)).all (fun x=> !x.1) && (backToKw cpos (keywordEach [] X.env)).all (fun x=>x.1.isSome)
   && decide ((e::es).length+([]:List Keyword).length+(if ([]:List Keyword).isEmpty then 0 else 1)<30))=true:=by rfl)
  (hline:(apos.endLine==cpos.line)=true:=by rfl) (hs:starEach (e::es) X.env=(false,eval e X.env)::starEach es X.env:=by rfl) (hplain:(backTo cpos (starEach es X.env)).any (·.1)=false:=by rfl):
  PE X (.Call (.Attribute o name apos) (e::es) [] cpos) (tBM X.K T r to t):=by
 intro pins s σ H Q I h; refine wpAny_Call_method_late hbase hfew hline rfl (thn (ho pins s σ H _ I h) fun v s1 ⟨x,H1,I1,r1,ty,q1⟩=> ?_); obtain ⟨h1,h2⟩:=tyV_is I1 r1 ty; refine ⟨T,id,pa,slot,hty,h1,h2, ?_⟩; have hA:=ha cpos pins s1 σ H1 _ I1 q1; rw [hs] at hA ⊢; refine Calls.callWith_builtin (by show (false || (backTo cpos (starEach es X.env)).any (·.1))=false; rw [hplain]<;>rfl) (Calls.evalArgs_plain ?_); exact thn hA fun us s2 ⟨vs,H2,I2,r2,q2⟩=>hm pins s2 σ H2 x vs v us Q I2 r1 r2 q2
/- xs.append(e),list.index on a module's tuple .. are MtR facts of 06m -/
end
def MtM (X:Cx) (id:String) (r:V→List V→Hp→VK→Prop):Prop:=
 ∀ (pins:List (Addr × Obj)) (s:Shared) (σ:St) (H:Hp) (x:V) (xs:List V) (v:Value) (us:List Value) (Q:VK),Inv X pins σ H s→RelV x v→Vals xs us→r x xs H Q→
  wpAny (model X.prog X.w) X.A (call (.builtin id) (v::us)) (EP X pins σ Q) X.xe s
theorem Vals.one:∀ {x:V} {us:List Value},Vals [x] us→∃u,us=[u]∧RelV x u
 | _,_, .cons r .nil=>⟨_,rfl,r⟩
theorem Vals.zero:∀ {us:List Value},Vals [] us→us=[]
 | _, .nil=>rfl
section
variable {X:Cx} {pins:List (Addr × Obj)} {σ:St} {H:Hp} {s:Shared} {l b:Addr} {xs ys zs:List V}
theorem Inv.lset {its its':List Value} {n:Nat} {f:Array Value→Array Value} {t':Nat} (I:Inv X pins σ H s) (hH:H l=some (.lst xs))
  (e:s.heap.get? l=some {cls:= .type "list",data:= .seq its.toArray n}) (hf:f its.toArray=its'.toArray) (hv:Vals ys its') (hz:ys.length≤sizeLine):
  Inv X pins σ (upd H l (.lst ys)) {s with heap:=s.heap.update l (Obj.mapSeq f),toks:=t'}:=by
 have q:=PySem.IsL.update e f; rw [hf] at q; refine I.write (x:=l) (e:=l) (by rw [hH]; exact trivial) (.inl rfl) (fun b' u hb hu=>(cY s.heap (Obj.mapSeq f) (Ne.symm hb)).trans hu) ⟨_,q⟩ ?_; exact ⟨hz,its',_,hv,q⟩
theorem Inv.lnew {its:List Value} {t':Nat} (I:Inv X pins σ H s) (hv:Vals ys its) (hz:ys.length≤sizeLine):
  Inv X pins σ (upd H s.heap.objs.size (.lst ys)) {s with heap:=s.heap.push {cls:= .type "list",data:= .seq its.toArray},toks:=t'}:=
 I.laid (fun _ _ q=>aA _ q) (aN _) ⟨hz,its,0,hv,aV _ rfl⟩
theorem Inv.fresh (I:Inv X pins σ H s):H s.heap.objs.size=none:=I.hok.fresh (aN _)
theorem Inv.lstM (I:Inv X pins σ H s) (hH:H l=some (.lst xs)):xs.length≤sizeLine∧∃ (its:List Value) (n:Nat),Vals xs its∧xs.length=its.length∧s.heap.get? l=some {cls:= .type "list",data:= .seq its.toArray n}:=by obtain ⟨z,its,n,r,e⟩:=I.hok l _ hH; exact ⟨z,its,n,r,r.length,e⟩
theorem notLongL {n:Nat} (h:n≤sizeLine):Builtin.List.listTooLong n=false:=by unfold Builtin.List.listTooLong; exact decide_eq_false (by omega)
end
section
variable {X:Cx}
def rAppend:V→List V→Hp→VK→Prop:=fun x vs H Q=>∃l xs y,x= .ref l∧vs=[y]∧H l=some (.lst xs)∧xs.length<sizeLine∧Q .non (upd H l (.lst (xs++[y])))
theorem mt_append:MtM X "list.append" rAppend:=by intro pins s σ H x vs v us Q I rx rv h; obtain ⟨l,xs,y,rfl,rfl,hH,hz,q⟩:=h; cases rx; obtain ⟨u,rfl,ru⟩:=rv.one; obtain ⟨z,its,n,r,hl,e⟩:=I.lstM hH; refine call_meets F.slot_list_append ⟨_,e,rfl⟩ F.entry_list_append (F.args_list_append_2 _ _) (PySem.list_append l its.toArray n u (by rw [aQ]; omega)) ⟨e, ?_⟩; refine ⟨.non,_,I.lset (its':=its++[u]) hH e (by simp) (r.append (.cons ru .nil)) ?_,rfl,q⟩; rw [cR,List.length_singleton]; omega
def rExtend:V→List V→Hp→VK→Prop:=fun x vs H Q=>∃l b xs zs,x= .ref l∧vs=[.ref b]∧H l=some (.lst xs)∧H b=some (.lst zs)∧xs.length+zs.length≤sizeLine∧Q .non (upd H l (.lst (xs++zs)))
theorem mt_extend:MtM X "list.extend" rExtend:=by
 intro pins s σ H x vs v us Q I rx rv h; obtain ⟨l,b,xs,zs,rfl,rfl,hH,hB,hz,q⟩:=h; cases rx; obtain ⟨u,rfl,ru⟩:=rv.one; cases ru; obtain ⟨z,its,n,r,hl,e⟩:=I.lstM hH; obtain ⟨z2,its2,n2,r2,hl2,e2⟩:=I.lstM hB; have hsz:its.toArray.size+its2.toArray.size≤sizeLine:=by rw [aQ,aQ]; omega
 have hlong:¬ (!its.toArray.isEmpty && Builtin.List.listTooLong (its.toArray.size+its2.toArray.size))=true:=by rw [notLongL hsz,qS]; exact bV
 refine call_meets F.slot_list_extend ⟨_,e,rfl⟩ F.entry_list_extend (F.args_list_extend_2 _ _)
  (AutoSeq1.list_extend_list_list_0 l its.toArray n b its2.toArray n2 hlong (by rw [aQ]; omega) (by omega)) ⟨e,e2, ?_⟩
 refine ⟨.non,_,I.lset (its':=its++its2) hH e (by simp) (r.append r2) ?_,rfl,q⟩; rw [cR]; omega
def rClear:V→List V→Hp→VK→Prop:=fun x vs H Q=>∃l xs,x= .ref l∧vs=[]∧H l=some (.lst xs)∧Q .non (upd H l (.lst []))
theorem mt_clear:MtM X "list.clear" rClear:=by intro pins s σ H x vs v us Q I rx rv h; obtain ⟨l,xs,rfl,rfl,hH,q⟩:=h; cases rx; have hus:=rv.zero; subst hus; obtain ⟨z,its,n,r,hl,e⟩:=I.lstM hH; refine call_meets F.slot_list_clear ⟨_,e,rfl⟩ F.entry_list_clear (F.args_list_clear_1 _) (AutoSeq1.list_clear_list_0 l its.toArray n (by rw [aQ]; omega)) ⟨e, ?_⟩; exact ⟨.non,_,I.lset (its':=[]) (ys:=[]) hH e rfl .nil (bO _),rfl,q⟩
def rCat:R2:=fun x y H Q=>∃l b xs zs,x= .ref l∧y= .ref b∧H l=some (.lst xs)∧H b=some (.lst zs)∧xs.length+zs.length≤sizeLine∧∀p,H p=none→Q (.ref p) (upd H p (.lst (xs++zs)))
theorem op_cat:OpR X (binaryOp .Add) rCat:=by
 intro pins s σ H x y v u Q I rx ry h; obtain ⟨l,b,xs,zs,rfl,rfl,hH,hB,hz,q⟩:=h; cases rx; cases ry; obtain ⟨z,its,n,r,hl,e⟩:=I.lstM hH; obtain ⟨z2,its2,n2,r2,hl2,e2⟩:=I.lstM hB; refine PySem.P.add_list e e2 ?_ (by rw [aQ,aQ]; omega); have ea:its.toArray++its2.toArray=(its++its2).toArray:=by simp
 rw [ea]; exact ⟨.ref _,_,I.lnew (t':=s.toks) (r.append r2) (by rw [cR]; omega),rfl,q _ I.fresh⟩
end
section
variable {prog:Program} {w:World} {A:Around} {E:Value→Shared→Prop} {s:Shared}
set_option maxRecDepth 100000 in
end
theorem kV_is {P:Program} {w:World} {k:Key} {u:Value} (r:RelV (kV k) u):(gZ P w).is k u=true:=by
 cases k with
 | inl i=>obtain ⟨t,e⟩:=(show ∃t,u=Value.int i t from r); subst e; exact mixKind_int P w i t
 | inr x=>obtain ⟨t,e⟩:=(show ∃t,u=Value.str x t from r); subst e; exact mixKind_str P w x t
theorem yW {P:Program} {w:World}:∀ {ks:List Key} {us:List Value},Vals (ks.map kV) us→ItemsAre (gZ P w) ks us
 | [],_,r=>by rw [gE] at r; cases r; exact .nil
 | k::ks,_,r=>by
  rw [bD] at r; cases r with
  | cons h t=>exact .cons (kV_is h) (yW t)
abbrev KT (H:Hp):List (List Key × V)→List (List Key × Addr × Value)→Prop:=Paired fun p q=>p.1=q.1∧H q.2.1=some (.tup (p.1.map kV))∧RelV p.2 q.2.2
section
variable {P:Program} {w:World} {H:Hp} {h:Heap} {a:Addr}
theorem key_of {ks:List Key} (ok:HOk P w H h) (e:H a=some (.tup (ks.map kV))):(tupleKind (gZ P w)).is h ks a:=by obtain ⟨_,its,r,o,h1,h2,⟨n,h3⟩,_⟩:=(show ObjOk P w H h a (.tup (ks.map kV)) from ok a _ e); exact ⟨o,its.toArray,n,h1,h2,h3,by simpa using yW r⟩
end
abbrev VV:List (V × V)→List (Value × Value)→Prop:=Paired fun p q=>RelV p.1 q.1∧RelV p.2 q.2
structure M1 (X:Cx) (o:Expr) (m:Str) (apos:Pos) (e:Expr) (cpos:Pos):Prop where
 base:attributeBase o m X.env (eval o X.env)=eval o X.env
 few:((backTo cpos (starEach [e] X.env)).all (fun x=> !x.1) && (backToKw cpos (keywordEach [] X.env)).all (fun x=>x.1.isSome)
  && decide (([e]:List Expr).length+([]:List Keyword).length+(if ([]:List Keyword).isEmpty then 0 else 1)<30))=true
 line:(apos.endLine==cpos.line)=true
 trees:backTo cpos (starEach [e] X.env)=[(false,eval e X.env)]
structure M2 (X:Cx) (o:Expr) (m:Str) (apos:Pos) (e f:Expr) (cpos:Pos):Prop where
 base:attributeBase o m X.env (eval o X.env)=eval o X.env
 few:((backTo cpos (starEach [e,f] X.env)).all (fun x=> !x.1) && (backToKw cpos (keywordEach [] X.env)).all (fun x=>x.1.isSome)
  && decide (([e,f]:List Expr).length+([]:List Keyword).length+(if ([]:List Keyword).isEmpty then 0 else 1)<30))=true
 line:(apos.endLine==cpos.line)=true
 trees:backTo cpos (starEach [e,f] X.env)=[(false,eval e X.env),(false,eval f X.env)]
end L2
namespace Att
open PySem PySem.W PySem.Calls PyProof.Rows
theorem uE {P:Params} {h:Heap}:∀ (ns:List Int) (vs:List Value),WellAll P h vs (ns.map WData.int)→IntsAre vs ns:=by
 intro ns
 induction ns with
 | nil=>intro vs w; rw [gE] at w; cases w; exact .nil
 | cons n ns ih=>
  intro vs w; rw [bD] at w; cases w with
  | cons a b=>cases a; exact .cons _ _ (ih _ b)
theorem script_of {l:OpenLaw} {n:Nat} (hn:l.most=some n) {P:Params} {h:Heap} {args:List WData} {vals:List Value}
  (hpre:l.row.toRowW.claim.pre args=true) (hwl:WellAll P h vals args):
  ∃a vs ns,vals=[Value.ref a]∧args=[WData.list (ns.map WData.int)]∧h.get? a=some {cls:= .type "list",data:= .seq vs.toArray}∧IntsAre vs ns∧ns.length≤n:=by
 have hsh:WShape.hasAll [] args [.list .int]=true:=(pre_splitW hpre).1; have hc:l.pre.holds [] {args:=args}=true:=(pre_splitW hpre).2; obtain ⟨d,r,rfl,h1,h2⟩:=hasAllW_cons hsh; obtain rfl:=hasAllW_nil h2; obtain ⟨xs,rfl,h3⟩:=hasW_list h1; obtain ⟨ns,rfl⟩:=items_int h3
 have hlen:ns.length≤n:=by
  unfold OpenLaw.pre at hc
  have h4:(WTm.not (.lt (.lit (.int (n:Int))) (.len (.arg 0)))).holds [] {args:=[.list (ns.map .int)]}=true:=by have h4:=(holds_andW hc).1; rw [hn] at h4; exact h4
  have h5:=condW_of h4 (w_not (w_lt w_lit (w_len_list (w_arg rfl)))); rw [aD] at h5; refine xT fun q=> ?_
  have q':(n:Int)<((ns.length:Nat):Int):=by omega
  first
   | (rw [decide_eq_true q'] at h5; exact absurd h5 (by decide))
   | (simp at h5; omega)
 cases hwl with
 | cons w1 w2=>
  cases w2; cases w1 with
  | list ho hall=>exact ⟨_,_,ns,rfl,rfl,ho,uE ns _ hall,hlen⟩
theorem post_true (l:OpenLaw) (args:List WData):l.row.toRowW.claim.post args (.bool true) args=true:=
 postW_of (r:=l.row.toRowW) (X:=(true==true))
  (show WShape.has [] (.bool true) .bool=true by first | rfl | decide | simp [WShape.has,WShape.arms,WShape.armsAll])
  (show (WTm.eq .res (.lit (.bool true))).value [] {args:=args,res:=some (.bool true),after:=args}=some (.bool (true==true)) from w_eq_bool (w_res rfl) w_lit) rfl
theorem attach_call {l:OpenLaw} {n:Nat} {q:Program} {loose:List Str} {XP:(Str→Option Value)→Heap→Prop} {YP:World→Heap→Prop} {d:DefRec}
  (hn:l.most=some n) (hdf:d.params.defaults=[])
  (call:∀ (w:World) (s₀ s₁:Shared) (mg mb:Str→Option Value) (fa:Addr) (o:Obj) (pm cd doc:Value) (a:Addr) (vs:List Value) (ns:List Int),
   Ground q loose [] XP w s₀ mg mb s₁.heap→YP w s₁.heap→
   s₁.heap.get? fa=some o→o.data= .func (docDef d.name d.params d.body d.scope pm cd doc)→s₁.heap.CodeRec cd d.name→mg d.name=some (.ref fa)→
   s₁.heap.get? a=some {cls:= .type "list",data:= .seq vs.toArray}→IntsAre vs ns→ns.length≤n→s₁.gens= #[]→
   codeAny (model l.prog w) callerA (.call (.ref fa) ⟨[.ref a],[]⟩) (fun r s'=>r= .ok (.ret (.bool true))∧OldK s₁.heap s'.heap∧s'.os=s₁.os∧AllBare s'.gens) s₁):
  WalkO q loose XP YP l.row.toRowW d [] (fun f vs=>PySem.call f vs):=by
 intro w s₀ s₁ mg mb G Y fa o pm cd doc dV kV ho hd hcd hD hmg hg args vals as hpre hlay hrd hwl hlo; obtain rfl:dV= .none:=Dflts.none hD hdf; obtain rfl:kV= .none:=Dflts.noKw hD; obtain ⟨a,vs,ns,rfl,rfl,hobj,hints,hlen⟩:=script_of hn hpre hwl; refine enter_call (codeAny_mono (call w s₀ s₁ mg mb fa o pm cd doc a vs ns G Y ho (fd_plain hd) hcd hmg hobj hints hlen hg) fun r s' hq=> ?_); obtain ⟨rfl,h2,h3,h4⟩:=hq; exact ⟨.inl ⟨.bool true, .bool true,[],rfl,fun _=>rfl, .bool true,post_true l _,fun _=>⟨List.Pairwise.nil,fun _ hm=>(nomatch hm)⟩⟩,h2,h3,h4⟩
end Att
namespace L2
open PySem PySem.Spec PyProof.Rows
theorem zH:∀ {vs:List Value} {ns:List Int},IntsAre vs ns→Vals (ns.map V.int) vs
 | _,_, .nil=> .nil
 | _,_, .cons n t h=> .cons ⟨t,rfl⟩ (zH h)
def Only (H:Hp):Prop:=∀b,H b=none∨∃o xs,H b=some (.frz o (.lst xs))
theorem law_call {P:Program} {w:World} {K:aB} {mg mb:Str→Option Value} {CX:CXT} {k:Nat} {fa a:Addr} {fd:FuncData} {x:Str} {sp:Sp} {s₁:Shared} {vs:List Value} {ns:List Int}
  (KX:K.In s₁.heap) (hns:s₁.heap.Ns mainGlobals mg) (hb:s₁.heap.Ns builtinsNs mb) (hbb:∀x:Str,x≠"__name__"→mb x=bootBuiltins x) (hlim:s₁.heap.NoLimit) (hg:s₁.gens= #[])
  (ha:s₁.heap.get? a=some {cls:= .type "list",data:= .seq vs.toArray}) (hi:IntsAre vs ns) (hl:ns.length≤sizeLine) (hr:Room k callerA)
  (F:∀base:Heap,K.In base→base.Ns mainGlobals mg→FnOk P w K mg base CX k fa fd [x] sp) (hbind:∀ (s:Shared) (u:Value),BindsTo s fd ⟨[u],[]⟩ [(x,u)])
  (hsp:∀H:Hp,Only H→SqL K H a (ns.map V.int)→sp [.ref a] H (fun v _=>v= .bl true) fun _ _ _=>False)
  (hCX:∀H e s',CX [] H s₁ (fun _ _ _=>False) e s'→False):
  codeAny (model P w) callerA (.call (.ref fa) ⟨[.ref a],[]⟩) (fun r s'=>r= .ok (.ret (.bool true))∧OldK s₁.heap s'.heap∧s'.os=s₁.os∧AllBare s'.gens) s₁:=by
 have rv:=zH hi; have lenV:=hi.length
 have core:∀H:Hp,Only H→SqL K H a (ns.map V.int)→HOk P w H s₁.heap→(∀b,H b≠none→b=a)→(H a≠none→K.lookup a=none)→
   codeAny (model P w) callerA (.call (.ref fa) ⟨[.ref a],[]⟩) (fun r s'=>r= .ok (.ret (.bool true))∧OldK s₁.heap s'.heap∧s'.os=s₁.os∧AllBare s'.gens) s₁:=by
  intro H hO hS hok hA hK; have base_of:∀ {b:Addr} {o:Obj},s₁.heap.get? b=some o→H b=none→(hidT s₁.heap H).get? b=some o:=fun e n=>hidT_get e n
  have noA:∀ {b:Addr} {o:Obj} {es:Array DictEntry} {ep:Nat},s₁.heap.get? b=some o→o.data= .dict es ep→H b=none:=fun {b o es ep} e d=>by
   cases q:H b with
   | none=>rfl
   | some u=>have e':b=a:=hA b (by rw [q]; simp); subst e'; rw [ha] at e; cases e; have d':Data.seq vs.toArray _=Data.dict es ep:=d; cases d'
  have nsK:∀ {b:Addr} {m:Str→Option Value},s₁.heap.Ns b m→(hidT s₁.heap H).Ns b m:=fun {b m} ⟨o,es,ep,e,d,r⟩=>⟨o,es,ep,base_of e (noA e d),d,r⟩
  have hKb:K.In (hidT s₁.heap H):=fun b o e=>base_of (KX b o e) (by
   cases q:H b with
   | none=>rfl
   | some u=>
    have e':b=a:=hA b (by rw [q]; simp); subst e'
    rw [hK (by rw [q]; simp)] at e; cases e)
  have hM:Mod K mg (hidT s₁.heap H):=⟨hKb,nsK hns,⟨mb,nsK hb,hbb⟩,let ⟨mc,h1,h2⟩:=hlim; ⟨mc,nsK h1,h2⟩⟩; have e0:Env0 P w K mg (hidT s₁.heap H) callerA [] s₁ H:=⟨rfl,hM,fun b o e=>of_hidT e,Nat.le_of_eq (hidT_size _ _),trivial,fun b hb=>absurd (show b∈([]:List Addr) from hb) (by simp),hok, .of_eq hg⟩; refine codeAny_mono ((F _ hKb (nsK hns)).run callerA [] s₁ H ⟨[.ref a],[]⟩ [.ref a] [.ref a] _ _ hr e0 (hbind s₁ (.ref a)) (.cons rfl .nil) (hsp H hO hS)) fun r s' h=> ?_
  cases r with
  | error e=>exact (hCX H e s' h).elim
  | ok fl=>
   cases fl with
   | next=>exact False.elim h
   | brk=>exact False.elim h
   | cont=>exact False.elim h
   | ret u=>
    obtain ⟨v,H',os,bare,un,hok',r',q⟩:=h; have q':v= .bl true:=q; subst q'; obtain rfl:u=Value.bool true:=r'; refine ⟨rfl,OldK.of_keep fun b o e=> ?_,os,bare⟩; cases q:H b with
    | none=>exact un.keep b o e q (by intro z; exact absurd (show b∈([]:List Addr) from z) (by simp)) (by simp)
    | some u=>
     rcases hO b with z | ⟨ob,xs,z⟩
     ·rw [q] at z; cases z
     ·have z2:=un.frzs b ob _ z; obtain ⟨e1,_⟩:=hok b _ z; obtain ⟨e2,_⟩:=hok' b _ z2; rw [e] at e1; cases e1; exact e2
 cases hk:K.lookup a with
 | some o=>
  have e:=KX a o hk; rw [ha] at e; cases e; refine core (fun _=>none) (fun _=> .inl rfl) (.inr ⟨_,vs.toArray,_,hk,rfl,rfl,rfl,by rw [aQ,lenV]; exact hl,by simpa using rv⟩) (fun b u z=>by have z':(none:Option HO)=some u:=z; cases z') (fun b z=>absurd rfl z) fun z=>absurd rfl z
 | none=>
  refine core (fun b=>if b=a then some (.frz {cls:= .type "list",data:= .seq vs.toArray} (.lst (ns.map V.int))) else none) (fun b=> ?_) (.inl (.inr ⟨{cls:= .type "list",data:= .seq vs.toArray},if_pos rfl⟩)) (fun b u z=> ?_) (fun b z=> ?_) fun _=>hk
  ·by_cases hb:b=a
   ·exact .inr ⟨_,_,if_pos hb⟩
   ·exact .inl (if_neg hb)
  ·by_cases hb:b=a
   ·have z':=(if_pos hb).symm.trans z; cases z'; subst hb; exact ⟨ha,by rw [aD]; exact hl,vs,_,rv,ha⟩
   ·have z':=(if_neg hb).symm.trans z; cases z'
  ·by_cases hb:b=a
   ·exact hb
   ·exact absurd (if_neg hb) z
abbrev KOf {K:aB} {h:Heap} (_:K.In h):aB:=K
theorem walk_of {l:PySem.W.OpenLaw} {n k:Nat} {q:Program} {loose:List Str} {XP:(Str→Option Value)→Heap→Prop} {YP:World→Heap→Prop} {d:DefRec} {K:Params→aB} {CX:World→CXT} {sp:World→Sp} {x:Str}
  (hn:l.most=some n) (hn2:n≤sizeLine) (hdf:d.params.defaults=[]) (hr:Room k callerA)
  (hY:∀ (w:World) (h:Heap),YP w h→(K w.params).In h)
  (F:∀ (w:World) (mg:Str→Option Value) (fa:Addr) (h:Heap),(K w.params).In h→h.Ns mainGlobals mg→mg d.name=some (.ref fa)→
   ∃fd:FuncData,(∀ (s:Shared) (u:Value),BindsTo s fd ⟨[u],[]⟩ [(x,u)])∧
    ∀base:Heap,(K w.params).In base→base.Ns mainGlobals mg→FnOk l.prog w (K w.params) mg base (CX w) k fa fd [x] (sp w))
  (hsp:∀ (w:World) (H:Hp) (a:Addr) (ns:List Int),ns.length≤n→Only H→SqL (K w.params) H a (ns.map V.int)→sp w [.ref a] H (fun v _=>v= .bl true) fun _ _ _=>False)
  (hCX:∀ (w:World) (H:Hp) (s:Shared) (e:Value) (s':Shared),CX w [] H s (fun _ _ _=>False) e s'→False):
  PySem.W.WalkO q loose XP YP l.row.toRowW d [] (fun f vs=>PySem.call f vs):=by
 refine Att.attach_call hn hdf fun w s₀ s₁ mg mb fa o pm cd doc a vs ns G Y ho hd hcd hmg hobj hints hlen hg=> ?_
 have KX:=hY w _ Y; obtain ⟨fd,hb,hF⟩:=F w mg fa _ KX G.T.g hmg; exact law_call KX G.T.g G.T.b G.T.builtins G.T.nolimit hg hobj hints (dO hlen hn2) hr hF hb (fun H hO hS=>hsp w H a ns hlen hO hS) fun H e s'=>hCX w H s₁ e s'
def dY (s:Stmt):Arguments:=match s with
 | .FunctionDef _ a _ _ _ _ _ _ _ _=>a
 | _=>{posonlyargs:=[],args:=[],vararg:=none,kwonlyargs:=[],kw_defaults:=[],kwarg:=none,defaults:=[]}
def dG (s:Stmt):List Stmt:=match s with
 | .FunctionDef _ _ b _ _ _ _ _ _ _=>b
 | _=>[]
def bJ (s:Stmt):Scope:=match s with
 | .FunctionDef _ _ _ _ _ _ sc _ _ _=>sc
 | _=>{kind:= .function,names:=[],isGenerator:=false,isCoroutine:=false}
abbrev CX0:CXT:=fun _ _ _ _ _ _=>False
abbrev E0:XK:=fun _ _ _=>False
theorem pass0 {X:Cx}:Passes CX0 X E0:=fun _ _ _ _ _ _ _ h=>h.elim
structure Fun (K:aB) (x qual:Str) (st:Stmt) (f:Addr) (fd:FuncData):Prop where
 ex:∃ (oc:Value) (od:Option Addr) (kV doc pm:Value) (an:Option Addr) (cdv ct:Value) (osl:Array (Option Value)),
  fd=bQ x qual (dY st) (dG st) (bJ st) .none kV doc pm an cdv ct∧K.lookup f=some ⟨oc,od, .func fd,osl⟩∧bT K cdv qual=true
 kp:bL K (.ref f)=true
section
variable {P:Program} {w:World} {K:aB} {mg:Str→Option Value} {base:Heap}
theorem Fun.ok {x qual:Str} {st:Stmt} {f:Addr} {fd:FuncData} {N ps:List Str} {k:Nat} {sp:Sp} (F:Fun K x qual st f fd) (S:oI N ps (bJ st)) (len:∀vs H Q E,sp vs H Q E→vs.length=ps.length)
  (hbody:∀ (cdv:Value) (A:Around) (outer:List Env) (s:Shared) (H:Hp) (vs:List V) (Q:VK) (E:XK),Room k (A.deeper (envOfC qual (bJ st) s.heap.objs.size f cdv))→sp vs H Q E→
   ∃t,PSs (pA CX0 P w K mg base N qual (bJ st) f cdv A outer s H E).nox (dG st) t∧t {nx:=fun _ H'=>Q .non H',rt:=Q} (start N vs) H):FnOk P w K mg base CX0 (k+1) f fd ps sp:=by
 obtain ⟨oc,od,kV,doc,pm,an,cdv,ct,osl,rfl,lk,hcd⟩:=F.ex; refine fn_of lk hcd S len fun A outer s H vs Q E hr hsp=> ?_
 obtain ⟨t,h,q⟩:=hbody cdv A outer s H vs Q E hr hsp; exact ⟨t,h.nox,q⟩
theorem Fun.binds {x qual:Str} {st:Stmt} {f:Addr} {fd:FuncData} {ps:List Str} (F:Fun K x qual st f fd)
  (h:∀ (kV doc pm:Value) (an:Option Addr) (cdv ct:Value) (us:List Value),us.length=ps.length→bindArgs (bQ x qual (dY st) (dG st) (bJ st) .none kV doc pm an cdv ct) ⟨us,[]⟩=pure (ps.zip us)):Binds K fd ps []:=by
 obtain ⟨oc,od,kV,doc,pm,an,cdv,ct,osl,rfl,lk,hcd⟩:=F.ex; exact .all (h kV doc pm an cdv ct)
theorem gI {x qual:Str} {st:Stmt} {f:Addr} {oc:Value} {od an:Option Addr} {osl:Array (Option Value)} {kV doc pm cdv ct:Value} (l:K.lookup f=some ⟨oc,od, .func (bQ x qual (dY st) (dG st) (bJ st) .none kV doc pm an cdv ct),osl⟩)
  (c:bT K cdv qual=true) (k:bL K (.ref f)=true):Fun K x qual st f (bQ x qual (dY st) (dG st) (bJ st) .none kV doc pm an cdv ct):=⟨⟨oc,od,kV,doc,pm,an,cdv,ct,osl,rfl,l,c⟩,k⟩
end
theorem iA {n:Nat} (h:n≤1000):n<sizeLine:=cE h (by decide)
section
variable {X:Cx}
theorem pv (i:Nat) {x:Str} {pos:Pos} (hN:X.N[i]? =some x:=by rfl) (hv:Vis X.env.scope x:=by first | exact Or.inl rfl | exact Or.inr (Or.inl rfl) | exact Or.inr (Or.inr rfl)) (hd:(x==("__debug__":Str))=false:=by decide)
  (hcd:(x==("__classdict__":Str))=false:=by decide):PE X (.Name x pos) (pD i):=pe_var hN hv hd hcd
end
theorem iteF {A B:Prop} (h:B):if false=true then A else B:=by rw [if_neg bV]; exact h
theorem iteT {A B:Prop} (h:A):if true=true then A else B:=by rw [if_pos rfl]; exact h
def Same (H H':Hp):Prop:=∀b o,H b=some o→H' b=some o
theorem Same.refl (H:Hp):Same H H:=fun _ _ h=>h
theorem Same.trans {H H1 H2:Hp} (a:Same H H1) (b:Same H1 H2):Same H H2:=fun c o h=>b c o (a c o h)
theorem Same.free {H H':Hp} (e:Same H H') {l:Addr} (h:H' l=Option.none):H l=Option.none:=by
 cases q:H l with
 | none=>rfl
 | some o=>rw [e l o q] at h; cases h
theorem Same.seq {K:aB} {H H':Hp} {a:Addr} {xs:List V} (e:Same H H') (h:SqL K H a xs):SqL K H' a xs:=by
 rcases h with (h | ⟨o,h⟩) | h
 ·exact .inl (.inl (e _ _ h))
 ·exact .inl (.inr ⟨o,e _ _ h⟩)
 ·exact .inr h
def wE (X:Cx) (e:Expr):TE:=fun σ H Q=>∀ (pins:List (Addr × Obj)) (s:Shared),Inv X pins σ H s→wpAny (model X.prog X.w) X.A (eval e X.env) (EP X pins σ Q) X.xe s
def wT (X:Cx) (e:Expr):TT:=fun σ H Q=>∀ (pins:List (Addr × Obj)) (s:Shared),Inv X pins σ H s→wpAny (model X.prog X.w) X.A (isTrue e X.env (eval e X.env)) (TP X pins σ Q) X.xe s
def wW (X:Cx) (e:Expr):TT:=fun σ H Q=>∀ (whole:Sem Value) (pins:List (Addr × Obj)) (s:Shared),Inv X pins σ H s→wpAny (model X.prog X.w) X.A (isTrue e X.env whole) (TP X pins σ Q) X.xe s
def wA (X:Cx) (es:List Expr):TA:=fun σ H Q=>∀ (pos:Pos) (pins:List (Addr × Obj)) (s:Shared),Inv X pins σ H s→wpAny (model X.prog X.w) X.A (spliced (backTo pos (starEach es X.env))) (AP X pins σ Q) X.xe s
def wS (X:Cx) (st:Stmt):TS:=fun D σ H=>∀ (pins:List (Addr × Obj)) (s:Shared),Inv X pins σ H s→wpAny (model X.prog X.w) X.A (exec st X.env) (SP X pins D) X.xe s
def wSs (X:Cx) (sts:List Stmt):TS:=fun D σ H=>∀ (pins:List (Addr × Obj)) (s:Shared),Inv X pins σ H s→wpAny (model X.prog X.w) X.A (execs sts X.env) (SP X pins D) X.xe s
def wG (X:Cx) (tg:Expr):TG:=fun v σ H Q=>∀ (pins:List (Addr × Obj)) (s:Shared) (u:Value),Inv X pins σ H s→RelV v u→
  wpAny (model X.prog X.w) X.A (assign tg X.env u) (fun _ s'=>∃σ' H',Inv X pins σ' H' s'∧Q σ' H') X.xe s
def wI (X:Cx) (tg iter:Expr):TI:=fun σ H R=>∀ (pins:List (Addr × Obj)) (s:Shared),Inv X pins σ H s→
  wpAny (model X.prog X.w) X.A (eval iter X.env) (fun v s1=>wpAny (model X.prog X.w) X.A (pyIter v) (PIE X pins σ tg R) X.xe s1) X.xe s
section
variable {X:Cx} {e:Expr} {es:List Expr} {st:Stmt} {sts:List Stmt} {tg iter:Expr} {σ:St} {H:Hp}
theorem hX:PE X e (wE X e):=fun pins s _ _ _ I h=>h pins s I
theorem pt_w:PT X e (wT X e):=fun pins s _ _ _ I h=>h pins s I
theorem pw_w:PW X e (wW X e):=fun w pins s _ _ _ I h=>h w pins s I
theorem wF:PA X es (wA X es):=fun pos pins s _ _ _ I h=>h pos pins s I
theorem ps_w:PS X st (wS X st):=fun pins s _ _ _ I h=>h pins s I
theorem vT:PSs X sts (wSs X sts):=fun pins s _ _ _ I h=>h pins s I
theorem pg_w:PG X tg (wG X tg):=fun pins s _ _ _ u _ I r h=>h pins s u I r
theorem pi_w:PI X tg iter (wI X tg iter):=fun pins s _ _ _ I h=>h pins s I
theorem PE.to {t:TE} {Q:VK} (h:PE X e t) (q:t σ H Q):wE X e σ H Q:=fun pins s I=>h pins s σ H Q I q
theorem PT.to {t:TT} {Q:Bool→Hp→Prop} (h:PT X e t) (q:t σ H Q):wT X e σ H Q:=fun pins s I=>h pins s σ H Q I q
theorem PW.to {t:TT} {Q:Bool→Hp→Prop} (h:PW X e t) (q:t σ H Q):wW X e σ H Q:=fun w pins s I=>h w pins s σ H Q I q
theorem PA.to {t:TA} {Q:List V→Hp→Prop} (h:PA X es t) (q:t σ H Q):wA X es σ H Q:=fun pos pins s I=>h pos pins s σ H Q I q
theorem PS.to {t:TS} {D:wY} (h:PS X st t) (q:t D σ H):wS X st D σ H:=fun pins s I=>h pins s σ H D I q
theorem PSs.to {t:TS} {D:wY} (h:PSs X sts t) (q:t D σ H):wSs X sts D σ H:=fun pins s I=>h pins s σ H D I q
theorem wE.imp {Q Q':VK} (h:wE X e σ H Q) (k:∀v H',Q v H'→Q' v H'):wE X e σ H Q':=fun pins s I=>thn (h pins s I) fun u s' ⟨v,H',I',r,q⟩=>⟨v,H',I',r,k v H' q⟩
theorem wT.imp {Q Q':Bool→Hp→Prop} (h:wT X e σ H Q) (k:∀v H',Q v H'→Q' v H'):wT X e σ H Q':=fun pins s I=>thn (h pins s I) fun u s' ⟨H',I',q⟩=>⟨H',I',k u H' q⟩
theorem wW.imp {Q Q':Bool→Hp→Prop} (h:wW X e σ H Q) (k:∀v H',Q v H'→Q' v H'):wW X e σ H Q':=fun w pins s I=>thn (h w pins s I) fun u s' ⟨H',I',q⟩=>⟨H',I',k u H' q⟩
theorem wA.imp {Q Q':List V→Hp→Prop} (h:wA X es σ H Q) (k:∀v H',Q v H'→Q' v H'):wA X es σ H Q':=fun pos pins s I=>thn (h pos pins s I) fun u s' ⟨v,H',I',r,q⟩=>⟨v,H',I',r,k v H' q⟩
theorem SP.imp {pins:List (Addr × Obj)} {D D':wY} {f:Flow} {s:Shared} (h:SP X pins D f s) (k1:∀σ H,D.nx σ H→D'.nx σ H) (k2:∀v H,D.rt v H→D'.rt v H) (k3:∀σ H,D.bk σ H→D'.bk σ H) (k4:∀σ H,D.ct σ H→D'.ct σ H):SP X pins D' f s:=by
 cases f with
 | next=>obtain ⟨σ',H',I,q⟩:=h; exact ⟨σ',H',I,k1 _ _ q⟩
 | brk=>obtain ⟨σ',H',I,q⟩:=h; exact ⟨σ',H',I,k3 _ _ q⟩
 | cont=>obtain ⟨σ',H',I,q⟩:=h; exact ⟨σ',H',I,k4 _ _ q⟩
 | ret u=>obtain ⟨v,σ',H',I,r,q⟩:=h; exact ⟨v,σ',H',I,r,k2 _ _ q⟩
theorem wSs.imp {D D':wY} (h:wSs X sts D σ H) (k1:∀σ H,D.nx σ H→D'.nx σ H) (k2:∀v H,D.rt v H→D'.rt v H) (k3:∀σ H,D.bk σ H→D'.bk σ H) (k4:∀σ H,D.ct σ H→D'.ct σ H):wSs X sts D' σ H:=
 fun pins s I=>thn (h pins s I) fun f s' q=>q.imp k1 k2 k3 k4
theorem wG.imp {v:V} {Q Q':St→Hp→Prop} (h:wG X tg v σ H Q) (k:∀σ' H',Q σ' H'→Q' σ' H'):wG X tg v σ H Q':=fun pins s u I r=>thn (h pins s u I r) fun _ s' ⟨σ',H',I',q⟩=>⟨σ',H',I',k _ _ q⟩
end
section
variable {X:Cx} {pins:List (Addr × Obj)} {σ:St} {H F:Hp} {s:Shared}
theorem HOk.track {P:Program} {w:World} {h:Heap} {a:Addr} {o:HO} (ok:HOk P w H h) (hn:H a=none) (new:ObjOk P w (upd H a o) h a o):HOk P w (upd H a o) h:=fun b u e=>by
 by_cases hb:b=a
 ·subst hb; rw [cS] at e; cases e; exact new
 ·rw [bW hb] at e; exact (ok b u e).stay (fun _ _ _ q=>q) (fun c q=>by rw [bW (cP q hn)]; exact q) fun c xs q=>by rw [bW (cP q hn)]; exact q
theorem Inv.track {a:Addr} {o:HO} (I:Inv X pins σ H s) (hn:H a=none) (h0:X.s₀.heap.objs.size≤a) (hL:a≠X.env.locals) (hc:∀x c,X.env.cells.lookup x=some c→c≠a)
  (hp:∀p∈X.pn++pins,p.1≠a) (new:ObjOk X.prog X.w (upd H a o) s.heap a o):Inv X pins σ (upd H a o) s:=by
 refine ⟨I.ok,I.os,I.bare,⟨I.base.keep,I.base.slot,fun b u e n hx=> ?_,I.base.there,fun b xs e=> ?_,fun b u xs e=> ?_,fun b ps e=> ?_⟩,I.loc,I.cell, ?_,fun x c e=> ?_,fun p hp'=> ?_,I.hok.track hn new,I.len⟩
 ·rw [bW (bH (aP (aI e) h0))]; exact I.base.free b u e n hx
 ·have q:=I.base.tups b xs e; rw [bW (cP q hn)]; exact q
 ·have q:=I.base.frzs b u xs e; rw [bW (cP q hn)]; exact q
 ·obtain ⟨m,q⟩:=I.base.tbls b ps e; exact ⟨m,by rw [bW (cP q hn)]; exact q⟩
 ·rw [bW (Ne.symm hL)]; exact I.free
 ·rw [bW (hc x c e)]; exact I.freeC x c e
 ·obtain ⟨e,n,r⟩:=I.pin p hp'; exact ⟨e,by rw [bW (hp p hp')]; exact n,r⟩
def SmpO:HO→Prop
 | .lst _=>True
 | .tup _=>True
 | .dK _=>True
 | .frz _ (.lst _)=>True
 | .frz _ (.dK _)=>True
 | .ext _=>True
 | _=>False
def Smp (H:Hp):Prop:=∀b o,H b=some o→SmpO o
theorem ObjOk.smp {P:Program} {w:World} {h:Heap} {a:Addr} {o:HO} (z:SmpO o) (x:ObjOk P w H h a o):ObjOk P w F h a o:=by
 cases o with
 | lst xs=>exact x
 | tup xs=>exact x
 | dK kvs=>exact x
 | frz ob u=>cases u with
  | lst xs=>exact x
  | dK kvs=>exact x
  | _=>exact absurd z (fun q=>q)
 | ext φ=>exact x
 | _=>exact absurd z (fun q=>q)
theorem Smp.sub (h:Smp H) (s:Same F H):Smp F:=fun b o e=>h b o (s b o e)
theorem Inv.less (I:Inv X pins σ H s) (hF:Same F H) (h0:Same X.B₀ F) (hs:Smp F):Inv X pins σ F s:=by
 refine ⟨I.ok,I.os,I.bare,⟨I.base.keep,I.base.slot,fun b u e n hx=>hF.free (I.base.free b u e n hx),I.base.there,fun b xs e=>h0 _ _ (X.hB _ _ e trivial),fun b u xs e=>h0 _ _ (X.hB _ _ e trivial),fun b ps e=>⟨#[], ?_⟩⟩,I.loc,I.cell,hF.free I.free,fun x c e=>hF.free (I.freeC x c e),fun p hp=> ?_,fun b o e=>(I.hok b o (hF b o e)).smp (hs b o e),I.len⟩
 ·have q:=h0 _ _ (X.hB _ _ e trivial); rw [q]; simp
 ·obtain ⟨e,n,r⟩:=I.pin p hp; exact ⟨e,hF.free n,r⟩
end
def clo (cells:List (Str × Addr)):List (Str × NameKind)→List (Str × Addr)→List (Str × Addr)
 | [],cs=>cs
 | (n,k)::r,cs=>clo cells r (if (k==NameKind.free)=true then (n,(cells.lookup n).getD 0)::cs else cs)
theorem qT {env:Env}:∀ (names:List (Str × NameKind)) (cs:List (Str × Addr)),(∀y∈names,y.2= .free→∃c,env.cells.lookup y.1=some c)→
  (forIn names cs (fun (x:Str × NameKind) (r:List (Str × Addr))=>if (x.2==NameKind.free)=true then (do let c ← cellOf env x.1; pure (ForInStep.yield ((x.1,c)::r))) else pure (ForInStep.yield r)):Sem (List (Str × Addr)))=pure (clo env.cells names cs)
 | [],cs,_=>rfl
 | (n,k)::r,cs,h=>by
  rw [jS]
  by_cases hk:(k==NameKind.free)=true
  ·obtain ⟨c,hc⟩:=h (n,k) aO (by simpa using hk)
   have e:cellOf env n=pure c:=by unfold cellOf; have hc':env.cells.lookup n=some c:=hc; rw [hc']
   simp only [hk,if_true,e,pure_bind,clo]; have hc':env.cells.lookup n=some c:=hc; rw [hc']; exact qT r _ fun y hy=>h y (aM _ hy)
  ·simp only [hk,aK,if_false,pure_bind,clo]; exact qT r _ fun y hy=>h y (aM _ hy)
theorem oG {env:Env} {scope:Scope} (h:∀y∈scope.names,y.2= .free→∃c,env.cells.lookup y.1=some c):closureFor scope env=pure (clo env.cells scope.names []):=by simp only [closureFor]; have e:=qT (env:=env) scope.names [] h; simp only [bind_pure] ; exact e
theorem clo_look (cells:List (Str × Addr)):∀ (names:List (Str × NameKind)) (cs:List (Str × Addr)) (x:Str) (c:Addr),(clo cells names cs).lookup x=some c→cs.lookup x=some c∨((x,NameKind.free)∈names∧c=(cells.lookup x).getD 0)
 | [],cs,x,c,h=> .inl h
 | (n,k)::r,cs,x,c,h=>by
  rcases clo_look cells r _ x c h with q | ⟨q1,q2⟩
  ·by_cases hk:(k==NameKind.free)=true
   ·rw [if_pos hk,eY] at q; have ek:k= .free:=by simpa using hk
    by_cases hx:(x==n)=true
    ·simp only [hx] at q; have e:x=n:=by simpa using hx
     subst e; exact .inr ⟨by rw [ek]; exact aO,(cA.inj q).symm⟩
    ·have hx':(x==n)=false:=by simpa using hx
     simp only [hx'] at q; exact .inl q
   ·rw [if_neg hk] at q; exact .inl q
  ·exact .inr ⟨aM _ q1,q2⟩
theorem clo_has (cells:List (Str × Addr)):∀ (names:List (Str × NameKind)) (cs:List (Str × Addr)) (x:Str),(x,NameKind.free)∈names∨(∃c,cs.lookup x=some c)→∃c,(clo cells names cs).lookup x=some c
 | [],cs,x,h=>h.elim (fun z=>nomatch z) fun z=>z
 | (n,k)::r,cs,x,h=>by
  refine clo_has cells r _ x ?_
  by_cases hk:(k==NameKind.free)=true
  ·rw [if_pos hk]
   by_cases hx:(x==n)=true
   ·exact .inr ⟨(cells.lookup n).getD 0,by rw [eY]; simp only [hx]⟩
   ·have hx':(x==n)=false:=by simpa using hx
    rcases h with q | ⟨c,q⟩
    ·rcases aS.mp q with z | z
     ·cases z; exact absurd (by simp) hx
     ·exact .inl z
    ·exact .inr ⟨c,by rw [eY]; simp only [hx']; exact q⟩
  ·rw [if_neg hk]
   rcases h with q | q
   ·rcases aS.mp q with z | z
    ·cases z; exact absurd rfl hk
    ·exact .inl z
   ·exact .inr q
theorem sJ {env:Env}:∀ {names:List (Str × NameKind)} {x:Str},((names.map fun (n,k)=>if (k==NameKind.free && env.scope.kind== .function && env.kindOf n==some .cell) then (n,NameKind.cell) else (n,k)).lookup x=some .cell∨
   (names.map fun (n,k)=>if (k==NameKind.free && env.scope.kind== .function && env.kindOf n==some .cell) then (n,NameKind.cell) else (n,k)).lookup x=some .free)→names.lookup x=some .cell∨names.lookup x=some .free
 | [],x,h=>by simp at h
 | (n,k)::r,x,h=>by
  have ih:= @sJ env r x; rw [bD] at h; rw [eY]
  by_cases hc:(k==NameKind.free && env.scope.kind== .function && env.kindOf n==some .cell)=true
  ·simp only [hc,if_true,eY] at h; cases hx:x==n with
   | true=>
    have hk:k= .free:=by have:=hc; simp only [bN,beq_iff_eq] at this; exact this.1.1
    exact .inr (by rw [hk])
   | false=>simp only [hx] at h ⊢; exact ih h
  ·have hc':(k==NameKind.free && env.scope.kind== .function && env.kindOf n==some .cell)=false:=by simpa using hc
   simp only [hc',aK,if_false,eY] at h; cases hx:x==n with
   | true=>simp only [hx] at h ⊢; exact h
   | false=>simp only [hx] at h ⊢; exact ih h
theorem comp_loop {prog:Program} {w:World} {A:Around} {R:Result→Shared→Prop} {s:Shared} {elt target iter:Expr} {ifs:List Expr} {scope:Scope} {pos:Pos} {it acc:Value} {env:Env} (Ξ:Value→Shared→Prop) (hΞ:∀e s,Ξ e s→notedBy (model prog w) A env (fun e s'=>R (.error e) s') e s) (J:Nat→Shared→Prop)
  (turn:∀n s,J n s→wpAny (model prog w) A (pyNext it) (fun r s₁=>match r with
   | none=>R (.ok .next) s₁
   | some v=>wpAny (model prog w) A (letOwnedTupleGo target it v) (fun _ s₂=>wpAny (model prog w) A (assign target env v) (fun _ s₃=>
     wpAny (model prog w) A (forIn ifs true fun c r=>if r=true then do let ok ← isTrue c env (eval c env); pure (ForInStep.yield ok) else pure (ForInStep.yield r)) (fun ok s₄=>
      if ok=true then wpAny (model prog w) A (eval elt env) (fun x s₅=>wpAny (model prog w) A (call (.builtin "list.append") [acc,x]) (fun _ s₆=>∃m,m<n∧J m s₆) Ξ s₅) Ξ s₄
      else ∃m,m<n∧J m s₄) Ξ s₃) Ξ s₂) Ξ s₁) Ξ s)
  (n:Nat) (h:J n s):codeAny (model prog w) A (.compLoop (.ListComp elt [⟨target,iter,ifs,0⟩] scope pos) 0 it acc env) R s:=by
 refine codeAny_loop rfl J (fun n s hI=> ?_) n h; show wpAny _ A ((compTurn (.ListComp elt [⟨target,iter,ifs,0⟩] scope pos) 0 it acc env).onRaise (fun x=>do noteFrame x env; theTreesLotGoes x)) _ _ s; refine wpAny_noted ?_; rw [compTurn_list]; refine wpAny_bind (wpAny_standAt (wpAny_bind (wpAny_mono (turn n s hI) (fun r s₁ h₁=> ?_) fun e s z=>hΞ e s z))); cases r with
 | none=>exact wpAny_pure h₁
 | some v=>
  refine wpAny_bind (wpAny_mono h₁ (fun _ s₂ h₂=> ?_) fun e s z=>hΞ e s z); refine wpAny_bind (wpAny_mono h₂ (fun _ s₃ h₃=> ?_) fun e s z=>hΞ e s z); refine wpAny_bind (wpAny_mono h₃ (fun ok s₄ h₄=> ?_) fun e s z=>hΞ e s z); cases ok with
  | false=>exact wpAny_pure ⟨rfl,h₄⟩
  | true=>exact wpAny_bind (wpAny_bind (wpAny_mono h₄ (fun x s₅ h₅=>wpAny_bind (wpAny_mono h₅ (fun _ s₆ h₆=>wpAny_pure (wpAny_pure ⟨rfl,h₆⟩)) fun e s z=>hΞ e s z)) fun e s z=>hΞ e s z))
def wIfs (X:Cx) (ifs:List Expr):TT:=fun σ H Q=>∀ (pins:List (Addr × Obj)) (s:Shared),Inv X pins σ H s→
 wpAny (model X.prog X.w) X.A (forIn ifs true fun c r=>if r=true then do let ok ← isTrue c X.env (eval c X.env); pure (ForInStep.yield ok) else pure (ForInStep.yield r)) (TP X pins σ Q) X.xe s
theorem rP {X:Cx} {σ:St} {H:Hp} {Q:Bool→Hp→Prop} (h:Q true H):wIfs X [] σ H Q:=fun _ _ I=>wpAny_tests_nil ⟨H,I,h⟩
theorem vJ {X:Cx} {c:Expr} {σ:St} {H:Hp} {Q:Bool→Hp→Prop} (h:wT X c σ H Q):wIfs X [c] σ H Q:=fun pins s I=>wpAny_tests_one (h pins s I)
def cxB (X:Cx) (N:List Str) (scope:Scope) (cl:List (Str × Addr)) (C:Addr) (ex:List Addr) (s:Shared) (H:Hp):Cx:=
 {prog:=X.prog,w:=X.w,K:=X.K,mg:=X.mg,base:=X.base,A:=X.A,N:=N,s₀:=s,H₀:=H,env:=compEnvC scope cl C X.env,outer:=X.stack,stack:=X.stack,ex:=ex,fn:=fun _=>false,calm:=true,pn:=[],xe:=fun _ _=>False}
def kH (X:Cx) (N:List Str) (scope:Scope) (cl:List (Str × Addr)) (C:Addr) (ex:List Addr) (s:Shared) (H:Hp) (ξ:Value→Shared→Prop):Cx:={cxB X N scope cl C ex s H with xe:=ξ}
def tS (cap:List (Option Nat)) (σ:St):St:=cap.map fun o=>o.bind fun k=>(σ[k]?).join
def mD (scope sc:Scope):Bool:=scope.names.all fun y=>(!(y.2==NameKind.free) || sc.names.lookup y.1==some NameKind.cell) && !(y.2==NameKind.cell) && (!(y.2==NameKind.local) || scope.names.lookup y.1==some NameKind.local)
def kR (N M:List Str) (scope sc:Scope) (cap:List (Option Nat)):Bool:=cap.length==N.length && (cap.zip N).all fun y=>match y.1 with
 | none=>true
 | some k=>M[k]? ==some y.2 && sc.names.lookup y.2==some NameKind.cell && scope.names.lookup y.2==some NameKind.free
theorem jI {env:Env} (hf:env.scope.kind= .function):∀ {names:List (Str × NameKind)} {x:Str},names.lookup x=some .free→env.kindOf x=some .cell→
  (names.map fun (n,k)=>if (k==NameKind.free && env.scope.kind== .function && env.kindOf n==some .cell) then (n,NameKind.cell) else (n,k)).lookup x=some .cell
 | [],x,h,_=>by simp at h
 | (n,k)::r,x,h,hc=>by
  rw [bD]; cases hx:x==n with
  | true=>
   have e:x=n:=by simpa using hx
   subst e; rw [eY] at h; simp only [beq_self_eq_true] at h; have ek:k= .free:=cA.inj h; subst ek; have hb:(NameKind.free==NameKind.free && env.scope.kind== .function && env.kindOf x==some .cell)=true:=by rw [hf,hc]; rfl
   show List.lookup x ((if (NameKind.free==NameKind.free && env.scope.kind== .function && env.kindOf x==some .cell)=true then (x,NameKind.cell) else (x,NameKind.free))::_)=_; rw [if_pos hb,eY]; simp only [beq_self_eq_true]
  | false=>
   rw [eY] at h; simp only [hx] at h; have ih:=jI hf (names:=r) h hc
   by_cases hb:(k==NameKind.free && env.scope.kind== .function && env.kindOf n==some .cell)=true
   ·simp only [hb,if_true,eY,hx]; exact ih
   ·have hb':(k==NameKind.free && env.scope.kind== .function && env.kindOf n==some .cell)=false:=by simpa using hb
    simp only [hb',aK,if_false,eY,hx]; exact ih
theorem Inv.low {X:Cx} {pins:List (Addr × Obj)} {σ:St} {H:Hp} {s:Shared} (I:Inv X pins σ H s):∀b∈frs X.stack,b<s.heap.objs.size:=fun b hb=>by obtain ⟨_,o,ho,_⟩:=I.stack.mem hb; exact aI ho
theorem zO {X:Cx} {pins:List (Addr × Obj)} {σ:St} {H:Hp} {s:Shared} {elt tg iter:Expr} {ifs:List Expr} {scope:Scope} {pos:Pos} {N:List Str} {cap:List (Option Nat)} {g:TG} {tt:TT} {te:TE} {J:It} {fp:List Addr} {it:Addr} {tn:Nat→Heap→Prop} {E:Value→Shared→Prop} {sc:Scope} (ξ:List (Str × Addr)→Addr→Value→Shared→Prop) (ξ':List (Str × Addr)→Addr→Value→Hp→Shared→Prop)
  (hc:X.calm=true) (hsc:X.env.scope=sc) (hcn:mD scope sc=true) (hcap:kR N X.N scope sc cap=true) (hk:scope.kind= .function)
  (I:Inv X pins σ H s) (T:yP X.prog X.w X.K tg J fp it tn) (st:tn 0 s.heap) (hfp:∀b∈fp,sW X pins H b)
  (hg:∀cl C,PG (kH X N scope cl C fp s H (ξ cl C)) tg g) (ht:∀cl C pi s2 σ2 H2 Q,Inv (kH X N scope cl C fp s H (ξ cl C)) pi σ2 H2 s2→tt σ2 H2 Q→wpAny (model X.prog X.w) X.A (forIn ifs true fun c r=>if r=true then do let ok ← isTrue c (compEnvC scope cl C X.env) (eval c (compEnvC scope cl C X.env)); pure (ForInStep.yield ok) else pure (ForInStep.yield r)) (TP (kH X N scope cl C fp s H (ξ cl C)) pi σ2 Q) (ξ cl C) s2)
  (he:∀cl C,PE (kH X N scope cl C fp s H (ξ cl C)) elt te) (W:Nat→Nat→List V→St→Hp→Prop) (m0:Nat) (w0:W 0 m0 [] (tS cap σ) H)
  (RR:Value→Addr→Result→Shared→Prop)
  (hξ:∀cl C e s',ξ cl C e s'→∃pi σb H',Inv (kH X N scope cl C fp s H (ξ cl C)) pi σb H' s'∧ξ' cl C e H' s')
  (hx:∀cl D C e H' s',ξ' cl C e H' s'→H' C=none→X.s₀.heap.objs.size≤C→C≠X.env.locals→(∀x c,X.env.cells.lookup x=some c→c≠C)→(∀p∈X.pn++pins,p.1≠C)→C∉frs X.stack→(∃m,s'.heap.Ns C m)→Inv X pins σ H' s'→notedBy (model X.prog X.w) X.A (compEnvC scope cl C X.env) (fun e s''=>RR (.ref D) C (.error e) s'') e s')
  (turn:∀i m ys σb H2,W i m ys σb H2→
   (J.stop i H2∧∀D C s',H2 D=none→H2 C=none→D≠C→X.s₀.heap.objs.size≤C→C≠X.env.locals→(∀x c,X.env.cells.lookup x=some c→c≠C)→(∀p∈X.pn++pins,p.1≠C)→C∉frs X.stack→(∃m,s'.heap.Ns C m)→Inv X pins σ (upd H2 D (.lst ys)) s'→RR (.ref D) C (.ok .next) s')∨
   (J.go i H2∧ys.length<sizeLine∧∃Nx:List V→St→Hp→Prop,(∀ys' σ' H',Nx ys' σ' H'→∃m',m'<m∧W (i+1) m' ys' σ' H')∧
    ∀x H',J.yld i H2 x H'→g x σb H' fun σ2 H3=>tt σ2 H3 fun b H4=>if b=true then te σ2 H4 fun v H5=>Nx (ys++[v]) σ2 H5 else Nx ys σ2 H4)):
  wpAny (model X.prog X.w) X.A (newList []) (fun acc s₃=>wpAny (model X.prog X.w) X.A (newFunctionEnv scope X.env.globals (clo X.env.cells scope.names []) [] X.env.qual none .none (some X.env)) (fun cenv s₄=>
   codeAny (model X.prog X.w) X.A (.compStart (.ListComp elt [⟨tg,iter,ifs,0⟩] scope pos) 0 (.ref it) acc {cenv with scope:=relabel scope X.env}) (RR acc cenv.locals) s₄) E s₃) E s:=by
 have nm:∀y∈scope.names,(y.2=NameKind.free→sc.names.lookup y.1=some NameKind.cell)∧y.2≠NameKind.cell∧(y.2=NameKind.local→scope.names.lookup y.1=some NameKind.local):=fun y hy=>by have q:=fH.mp hcn y hy; simp only [bN,iR,iY,beq_eq_false_iff_ne,ne_eq,beq_iff_eq] at q; exact ⟨fun e=>q.1.1.resolve_left fun z=>z e,q.1.2,fun e=>q.2.resolve_left fun z=>z e⟩
 have fre:∀y∈scope.names,y.2= .free→∃c,X.env.cells.lookup y.1=some c:=fun y hy e=>I.ok.has y.1 (.inl (by show X.env.scope.names.lookup y.1=_; rw [hsc]; exact (nm y hy).1 e))
 generalize hcl:clo X.env.cells scope.names []=cl
 have csub:∀x c,cl.lookup x=some c→X.env.cells.lookup x=some c:=fun x c e=>by
  rw [← hcl] at e
  rcases clo_look _ _ _ _ _ e with z | ⟨z1,z2⟩
  ·simp at z
  ·obtain ⟨c',q⟩:=fre _ z1 rfl; rw [q] at z2; rw [q,z2]; rfl
 have chas:∀x,((relabel scope X.env).names.lookup x=some .cell∨(relabel scope X.env).names.lookup x=some .free)→∃c,cl.lookup x=some c:=fun x e=>by
  rcases sJ e with z | z
  ·exact absurd rfl (nm _ (PySem.mem_of_lookup z)).2.1
  ·rw [← hcl]; exact clo_has _ _ _ _ (.inl (PySem.mem_of_lookup z))
 have cexi:∀x c,cl.lookup x=some c→c<s.heap.objs.size:=fun x c e=>by obtain ⟨v,o,ho,_⟩:=I.cell x c (csub x c e); exact aI ho
 have cexX:∀x c,X.env.cells.lookup x=some c→c<s.heap.objs.size:=fun x c e=>by obtain ⟨v,o,ho,_⟩:=I.cell x c e; exact aI ho
 have pexX:∀p∈X.pn++pins,p.1<s.heap.objs.size:=fun p hp=>aI (I.pin p hp).1
 have flow:∀b∈fp,b<s.heap.objs.size:=fun b hb=>by obtain ⟨o,ho,_⟩:=T.obj 0 _ st b hb; exact aI ho
 have fstk:∀b∈fp,b∉frs X.stack:=fun b hb z=>by
  obtain ⟨_,f1,f2,_⟩:=hfp b hb
  rcases aS.mp (I.stkSub b z) with q | q
  ·exact f1 q
  ·exact f2 q
 have hkr:(relabel scope X.env).kind= .function:=hk; refine wpAny_newObj_type (wpAny_newFunctionEnv (fun y hy=>(nm y hy).2.1) (by intro y hy; simp at hy) (fun h₁ hns₁ hsb₁=> ?_) hk); dsimp only at hns₁ hsb₁ ⊢; generalize hH2:s.heap.push {cls:= .type "list",dict:=none,data:= .seq ([]:List Value).toArray}=G2 at hns₁ hsb₁ ⊢; have hC:G2.objs.size=s.heap.objs.size+1:=by rw [← hH2,fE]
 have hDC:s.heap.objs.size≠G2.objs.size:=by rw [hC]; exact bH (lM _)
 have hCle:s.heap.objs.size≤G2.objs.size:=by rw [hC]; exact oB _
 have neC:∀b,b<s.heap.objs.size→b≠G2.objs.size:=fun b hb=>by rw [hC]; exact bH (Nat.lt_succ_of_lt hb)
 have old:∀b o,s.heap.get? b=some o→h₁.get? b=some o:=fun b o e=>hsb₁.extBut b o (neC b (aI e)) (aA _ (hH2▸aA _ e))
 have hacc:h₁.get? s.heap.objs.size=some {cls:= .type "list",dict:=none,data:= .seq ([]:List Value).toArray}:=hsb₁.extBut _ _ hDC (aA _ (hH2▸aV _ rfl)); have env_eq:({newEnv scope G2.objs.size X.env.globals cl X.env.qual none .none (some X.env) 0 with scope:=relabel scope X.env}:Env)=compEnvC scope cl G2.objs.size X.env:=rfl; generalize hDD:s.heap.objs.size=D at *; generalize hCC:G2.objs.size=C at *
 have okX:(kH X N scope cl C fp s H (ξ cl C)).Ok:=by
  refine ⟨I.mod,hkr,I.ok.glob,I.ok.blt, ?_,fun x y c a b=>I.ok.inj x y c (csub x c a) (csub y c b),chas,(fun x c z=>nomatch z),fun _=>I.ok.hd hc,I.ok.frames, .inl rfl,fun b hb=>⟨neC b (flow b hb),fun x c e=>(hfp b hb).2.2.2.2.1 x c (csub x c e)⟩,I.bs, ?_,fun b o e hb=> ?_,fstk,I.stack,I.stkFree⟩
  ·show s.heap.objs.size≤C; rw [hDD]; exact hCle
  ·exact dO I.ok.bsz I.sz
  ·rcases (hfp b hb).2.2.2.1 with z | z
   ·exact I.ok.noex b o e z
   ·exact absurd (aP (aI e) (dO I.ok.bsz z)) (eP _)
 have capE:∀ (i:Nat) (x:Str) (v:V),N[i]? =some x→(tS cap σ)[i]? =some (some v)→∃k:Nat,X.N[k]? =some x∧σ[k]? =some (some v)∧sc.names.lookup x=some .cell∧scope.names.lookup x=some .free:=fun i x v e1 e2=>by
  unfold kR at hcap; rw [bN] at hcap; unfold tS at e2; rw [cI] at e2; cases q:cap[i]? with
  | none=>rw [q] at e2; cases e2
  | some o=>
   rw [q] at e2; have e2:(o.bind fun k=>(σ[k]?).join)=some v:=cA.inj e2; cases o with
   | none=>cases e2
   | some k=>
    have e2:(σ[k]?).join=some v:=e2
    have mz:(some k,x)∈cap.zip N:=by refine dE (i:=i) ?_; rw [List.getElem?_zip_eq_some]; exact ⟨q,e1⟩
    have z:=fH.mp hcap.2 _ mz; simp only [bN,beq_iff_eq] at z; refine ⟨k,z.1.1, ?_,z.1.2,z.2⟩; cases w:σ[k]? with
    | none=>rw [w] at e2; cases e2
    | some o'=>rw [w] at e2; have e2:o'=some v:=e2; rw [e2]
 have I0:Inv (kH X N scope cl C fp s H (ξ cl C)) [(D,{cls:= .type "list",dict:=none,data:= .seq ([]:List Value).toArray})] (tS cap σ) H {s with heap:=h₁,toks:=s.toks+([]:List (Str × Value)).length}:=by
  have dfree:H D=none:=I.hok.fresh (Nat.le_of_eq hDD); refine ⟨okX,rfl,I.bare,Un.kept old,⟨_,hns₁,fun i x v e1 e2 e3=> ?_⟩,fun x c e=> ?_,I.hok.fresh (by rw [hDD]; exact hCle),fun x c e=>I.freeC x c (csub x c e),fun p hp=> ?_,I.hok.kept old, ?_⟩
  ·obtain ⟨k,q1,q2,q3,q4⟩:=capE i x v e1 e2; have q3':X.env.scope.names.lookup x=some .cell:=by rw [hsc]; exact q3
   obtain ⟨m,_,hl⟩:=I.loc; obtain ⟨u,ru,lk⟩:=hl k x v q1 q2 (.inr (.inl q3')); refine ⟨u,ru, .inr ⟨.inl (jI I.ok.kind q4 q3'), ?_⟩⟩
   rcases lk with ⟨z,_⟩ | ⟨_,c,z,ic⟩
   ·have z':X.env.scope.names.lookup x=some .local:=z; rw [q3'] at z'; cases z'
   ·obtain ⟨c',hc'⟩:=chas x (.inl (jI I.ok.kind q4 q3')); have:=csub x c' hc'; rw [z] at this; have ec:c=c':=cA.inj this; subst ec; obtain ⟨o,ho,hd⟩:=ic; exact ⟨c,hc',o,old c o ho,hd⟩
  ·obtain ⟨v,o,ho,hd⟩:=I.cell x c (csub x c e); exact ⟨v,o,old c o ho,hd⟩
  ·have hp':p=(D,{cls:= .type "list",dict:=none,data:= .seq ([]:List Value).toArray}):=by simpa [kH,cxB] using hp
   subst hp'; refine ⟨hacc,dfree,hDC,fun z=> ?_,fun v z=>by cases z⟩; have:=I.low D z; rw [hDD] at this; exact eP _ this
  ·show (tS cap σ).length=N.length; unfold kR at hcap; rw [bN] at hcap; unfold tS; rw [aD]; simpa using hcap.1
 have dlow:∀b,b<D→b≠D:=fun b hb=>bH hb
 have loop:∀s₃:Shared,s₃={s with heap:=h₁,toks:=s.toks+([]:List (Str × Value)).length}→
   codeAny (model X.prog X.w) X.A (.compLoop (.ListComp elt [⟨tg,iter,ifs,0⟩] scope pos) 0 (.ref it) (.ref D) (compEnvC scope cl C X.env)) (RR (.ref D) C) s₃:=by
  rintro s₃ rfl
  refine comp_loop (ξ cl C) (fun e s' z=> ?_) (fun n s'=>∃ (i:Nat) (ys:List V) (σb:St) (H2:Hp) (its:List Value) (nn:Nat),Inv (kH X N scope cl C fp s H (ξ cl C)) [(D,{cls:= .type "list",dict:=none,data:= .seq its.toArray nn})] σb H2 s'∧tn i s'.heap∧(∀b∈fp,H2 b=none)∧Vals ys its∧ys.length≤sizeLine∧W i n ys σb H2) ?_ m0
   ⟨0,[],tS cap σ,H,[],0,I0,T.keep 0 _ _ st fun b hb o e=>old b o e,fun b hb=>(hfp b hb).1, .nil,bO _,w0⟩
  ·obtain ⟨pi,σb,H',I',z'⟩:=hξ cl C e s' z; obtain ⟨m4,ns4,_⟩:=id I'.loc; have J0:Inv X pins σ H' s':=I.call' (ch:=fp) I'.os I'.base I'.hok I'.bare fun b hb=>⟨(hfp b hb).2.2.2.1,(hfp b hb).2.1,(hfp b hb).2.2.2.2.1,(hfp b hb).2.2.2.2.2⟩
   have hLD:X.env.locals<D:=by rw [← hDD]; exact I.lt
   exact hx cl D C e H' s' z' I'.free (dO I.sz (by rw [hDD]; exact hCle)) (eQ (aP hLD hCle)) (fun x c e=>neC c (cexX x c e)) (fun p hp=>neC _ (pexX p hp)) (fun z=>absurd (I.low C z) (by rw [hDD]; exact pT.mpr hCle)) ⟨m4,ns4⟩ J0
  rintro n s3 ⟨i,ys,σ3,H3,its,nn,I3,st3,fr3,rv3,hlen,w3⟩
  have fpX:∀ {H':Hp} {its':List Value} {nn':Nat},(∀b∈fp,H' b=none)→∀b∈fp,sW (kH X N scope cl C fp s H (ξ cl C)) [(D,{cls:= .type "list",dict:=none,data:= .seq its'.toArray nn'})] H' b:=fun {H' its' nn'} hn b hb=>by
   refine ⟨hn b hb,neC b (flow b hb),fstk b hb, .inl hb,fun x c e=>(hfp b hb).2.2.2.2.1 x c (csub x c e),fun p hp=> ?_⟩
   have hp':p.1=D:=by have q:p∈([]:List (Addr × Obj))++[(D,{cls:= .type "list",dict:=none,data:= .seq its'.toArray nn'})]:=hp; rw [yH,bU] at q; rw [q]
   rw [hp']; exact Ne.symm (dlow b (flow b hb))
  rcases turn i n ys σ3 H3 w3 with ⟨stop,fin⟩ | ⟨go,hsz,Nx,hN,step⟩
  ·refine thn (T.done (kH X N scope cl C fp s H (ξ cl C)) rfl rfl rfl rfl i _ s3 σ3 H3 (ξ cl C) I3 (fpX fr3) st3 stop) fun r s4 ⟨hr,I4⟩=> ?_
   subst hr; obtain ⟨m4,ns4,_⟩:=id I4.loc; have J0:Inv X pins σ H3 s4:=I.call' (ch:=fp) I4.os I4.base I4.hok I4.bare fun b hb=>⟨(hfp b hb).2.2.2.1,(hfp b hb).2.1,(hfp b hb).2.2.2.2.1,(hfp b hb).2.2.2.2.2⟩
   obtain ⟨pd,pn,_⟩:=I4.pin (D,_) (aG _ aO); have hLD:X.env.locals<D:=by rw [← hDD]; exact I.lt
   refine fin D C s4 pn I4.free hDC (dO I.sz (by rw [hDD]; exact hCle)) (eQ (aP hLD hCle)) (fun x c e=>neC c (cexX x c e)) (fun p hp=>neC _ (pexX p hp)) (fun z=>absurd (I.low C z) (by rw [hDD]; exact pT.mpr hCle)) ⟨m4,ns4⟩ ?_; refine J0.track pn (by rw [← hDD]; exact I.sz) (eQ hLD) (fun x c e=>dlow c (cexX x c e)) (fun p hp=>dlow _ (pexX p hp)) ?_; exact ⟨hlen,its,nn,rv3,pd⟩
  ·refine thn (T.item (kH X N scope cl C fp s H (ξ cl C)) rfl rfl rfl rfl i _ s3 σ3 H3 (ξ cl C) I3 (fpX fr3) st3 go) fun r s4 ⟨u,hr,h4⟩=> ?_
   subst hr; refine thn h4 fun _ s5 ⟨x,H5,I5,r5,y5,st5,fr5⟩=> ?_
   have I5':=I5.pinned (fpX fr5) (T.obj _ _ st5); refine thn (hg cl C _ s5 σ3 H5 x u _ I5' r5 (step x H5 y5)) fun _ s6 ⟨σ6,H6,I6,q6⟩=> ?_
   refine thn (ht cl C _ s6 σ6 H6 _ I6 q6) fun b s7 ⟨H7,I7,q7⟩=> ?_
   have tnK:∀ {σ7:St} {H7:Hp} {s7:Shared},Inv (kH X N scope cl C fp s H (ξ cl C)) ([(D,{cls:= .type "list",dict:=none,data:= .seq its.toArray nn})]++lH fp s5.heap) σ7 H7 s7→tn (i+1) s7.heap∧∀b∈fp,H7 b=none:=fun {σ7 H7 s7} I7=>by refine ⟨T.keep _ _ _ st5 fun b hb o e=>(I7.pin (b,o) (aG _ (aG _ (iU hb e)))).1,fun b hb=> ?_⟩; obtain ⟨o,e,d⟩:=T.obj _ _ st5 b hb; exact (I7.pin (b,o) (aG _ (aG _ (iU hb e)))).2.1
   cases b with
   | false=>have q7':Nx ys σ6 H7:=q7; obtain ⟨m',hm,w7⟩:=hN _ _ _ q7'; obtain ⟨t7,f7⟩:=tnK I7; exact ⟨m',hm,i+1,ys,σ6,H7,its,nn,I7.unpinned,t7,f7,rv3,hlen,w7⟩
   | true=>
    have q7':te σ6 H7 fun v H5=>Nx (ys++[v]) σ6 H5:=q7
    refine thn (he cl C _ s7 σ6 H7 _ I7 q7') fun y s8 ⟨v,H8,I8,r8,q8⟩=> ?_
    obtain ⟨m',hm,w8⟩:=hN _ _ _ q8; obtain ⟨pd,pn,pL,pf,pc⟩:=I8.pin (D,{cls:= .type "list",dict:=none,data:= .seq its.toArray nn}) (aG _ (bE _ aO)); have hits:its.length=ys.length:=rv3.length.symm; refine wpAny_list_append_plain (items:=its.toArray) ⟨nn,pd⟩ (fun h9 pl9 sb9=> ?_) (by rw [aQ,hits]; exact dP hsz); obtain ⟨n9,e9⟩:=pl9
    have e9':h9.get? D=some {cls:= .type "list",dict:=none,data:= .seq (its++[y]).toArray n9}:=by rw [e9]; simp
    have I8':Inv (kH X N scope cl C fp s H (ξ cl C)) (lH fp s5.heap) σ6 H8 s8:=I8.pins_of fun p hp=>I8.pin p (aG _ (aG _ hp))
    have I9:Inv (kH X N scope cl C fp s H (ξ cl C)) (lH fp s5.heap) σ6 H8 {s8 with heap:=h9,toks:=s8.toks}:=I8'.turned (it:=D) (fun b o hb e=>sb9.extBut b o hb e) pn hDC (.inr (by rw [← hDD]; exact aN _)) (fun x c e=>dlow c (cexi x c e)) fun p hp=>by
     have hp':p∈lH fp s5.heap:=by simpa [kH,cxB] using hp
     exact dlow _ (flow _ (qF hp').1)
    have tn9:tn (i+1) h9:=T.keep _ _ _ st5 fun b hb o e=>(I9.pin (b,o) (aG _ (iU hb e))).1
    have fr9:∀b∈fp,H8 b=none:=fun b hb=>by obtain ⟨o,e,d⟩:=T.obj _ _ st5 b hb; exact (I9.pin (b,o) (aG _ (iU hb e))).2.1
    refine ⟨m',hm,i+1,ys++[v],σ6,H8,its++[y],n9,I9.pins_of fun p hp=> ?_,tn9,fr9,Vals.append rv3 (.cons r8 .nil),by rw [cR]; exact hsz,w8⟩; have hp':p=(D,{cls:= .type "list",dict:=none,data:= .seq (its++[y]).toArray n9}):=bU.mp hp; subst hp'; exact ⟨e9',pn,pL,pf,fun v z=>by cases z⟩
 exact codeAny_compStart_list (loop _ rfl) (T.self _ 0 _ _ _ (T.keep 0 _ _ st fun b hb o e=>old b o e) (loop _ rfl))
theorem vR {X:Cx} {pins:List (Addr × Obj)} {σ:St} {H:Hp} {s:Shared} {elt tg iter:Expr} {ifs:List Expr} {scope:Scope} {pos:Pos} {N:List Str} {cap:List (Option Nat)} {g:TG} {tt:TT} {te:TE} {J:It} {fp:List Addr} {it:Addr} {tn:Nat→Heap→Prop} {E:Value→Shared→Prop} {sc:Scope}
  (hc:X.calm=true) (hsc:X.env.scope=sc) (hcn:mD scope sc=true) (hcap:kR N X.N scope sc cap=true) (hk:scope.kind= .function)
  (I:Inv X pins σ H s) (T:yP X.prog X.w X.K tg J fp it tn) (st:tn 0 s.heap) (hfp:∀b∈fp,sW X pins H b)
  (hg:∀cl C,PG (cxB X N scope cl C fp s H) tg g) (ht:∀cl C pi s2 σ2 H2 Q,Inv (cxB X N scope cl C fp s H) pi σ2 H2 s2→tt σ2 H2 Q→wpAny (model X.prog X.w) X.A (forIn ifs true fun c r=>if r=true then do let ok ← isTrue c (compEnvC scope cl C X.env) (eval c (compEnvC scope cl C X.env)); pure (ForInStep.yield ok) else pure (ForInStep.yield r)) (TP (cxB X N scope cl C fp s H) pi σ2 Q) (fun _ _=>False) s2)
  (he:∀cl C,PE (cxB X N scope cl C fp s H) elt te) (W:Nat→Nat→List V→St→Hp→Prop) (m0:Nat) (w0:W 0 m0 [] (tS cap σ) H)
  (RR:Value→Addr→Result→Shared→Prop)
  (turn:∀i m ys σb H2,W i m ys σb H2→
   (J.stop i H2∧∀D C s',H2 D=none→H2 C=none→D≠C→X.s₀.heap.objs.size≤C→C≠X.env.locals→(∀x c,X.env.cells.lookup x=some c→c≠C)→(∀p∈X.pn++pins,p.1≠C)→C∉frs X.stack→(∃m,s'.heap.Ns C m)→Inv X pins σ (upd H2 D (.lst ys)) s'→RR (.ref D) C (.ok .next) s')∨
   (J.go i H2∧ys.length<sizeLine∧∃Nx:List V→St→Hp→Prop,(∀ys' σ' H',Nx ys' σ' H'→∃m',m'<m∧W (i+1) m' ys' σ' H')∧
    ∀x H',J.yld i H2 x H'→g x σb H' fun σ2 H3=>tt σ2 H3 fun b H4=>if b=true then te σ2 H4 fun v H5=>Nx (ys++[v]) σ2 H5 else Nx ys σ2 H4)):
  wpAny (model X.prog X.w) X.A (newList []) (fun acc s₃=>wpAny (model X.prog X.w) X.A (newFunctionEnv scope X.env.globals (clo X.env.cells scope.names []) [] X.env.qual none .none (some X.env)) (fun cenv s₄=>
   codeAny (model X.prog X.w) X.A (.compStart (.ListComp elt [⟨tg,iter,ifs,0⟩] scope pos) 0 (.ref it) acc {cenv with scope:=relabel scope X.env}) (RR acc cenv.locals) s₄) E s₃) E s:=
 zO (fun _ _ _ _=>False) (fun _ _ _ _ _=>False) hc hsc hcn hcap hk I T st hfp hg ht he W m0 w0 RR (fun _ _ _ _ z=>z.elim) (fun _ _ _ _ _ _ z=>z.elim) turn
end L2
namespace DL
open PySem PySem.Spec PyProof.Rows L2
abbrev St:=L2.St
inductive D where
 | non | bl (b:Bool) | int (i:Int) | str (x:Str) | tup (ds:List D) | lst (ds:List D) | dic | scr (ns:List Int) | dki (ks:List Key) (ds:List D) | any (G:V→Hp→Prop)
mutual
def Rep (K:aB) (H:Hp):D→V→Prop
 | .non,v=>v= .non
 | .bl b,v=>v= .bl b
 | .int i,v=>v= .int i
 | .str x,v=>v= .str x
 | .tup ds,v=>∃a xs,v= .ref a∧H a=some (.tup xs)∧RepL K H ds xs
 | .lst ds,v=>∃a xs,v= .ref a∧H a=some (.lst xs)∧RepL K H ds xs
 | .dic,v=>∃a,v= .ref a∧H a=some (.dK [])
 | .dki ks ds,v=>∃a xs,v= .ref a∧(∃ob,H a=some (.frz ob (.dK (ks.zip xs))))∧ks.length=ds.length∧RepL K H ds xs
 | .scr ns,v=>∃a,v= .ref a∧SqL K H a (ns.map V.int)
 | .any G,v=>(∃a,v= .ref a)∧∀H',Same H H'→G v H'
def RepL (K:aB) (H:Hp):List D→List V→Prop
 | [],xs=>xs=[]
 | d::ds,xs=>∃y ys,xs=y::ys∧Rep K H d y∧RepL K H ds ys
end
mutual
theorem Rep.mono {K:aB} {H H':Hp} (h:Same H H'):∀ {d:D} {v:V},Rep K H d v→Rep K H' d v
 | .non,_,r=>by simpa only [Rep] using r
 | .bl _,_,r=>by simpa only [Rep] using r
 | .int _,_,r=>by simpa only [Rep] using r
 | .str _,_,r=>by simpa only [Rep] using r
 | .tup ds,v,r=>by simp only [Rep] at r ⊢; obtain ⟨a,xs,e,q,rl⟩:=r; exact ⟨a,xs,e,h _ _ q,RepL.mono h rl⟩
 | .lst ds,v,r=>by simp only [Rep] at r ⊢; obtain ⟨a,xs,e,q,rl⟩:=r; exact ⟨a,xs,e,h _ _ q,RepL.mono h rl⟩
 | .dki ks ds,v,r=>by simp only [Rep] at r ⊢; obtain ⟨a,xs,e,⟨ob,q⟩,l,rl⟩:=r; exact ⟨a,xs,e,⟨ob,h _ _ q⟩,l,RepL.mono h rl⟩
 | .dic,v,r=>by simp only [Rep] at r ⊢; obtain ⟨a,e,q⟩:=r; exact ⟨a,e,h _ _ q⟩
 | .any G,v,r=>by simp only [Rep] at r ⊢; exact ⟨r.1,fun H2 s=>r.2 H2 (h.trans s)⟩
 | .scr ns,v,r=>by simp only [Rep] at r ⊢; obtain ⟨a,e,q⟩:=r; exact ⟨a,e,h.seq q⟩
theorem RepL.mono {K:aB} {H H':Hp} (h:Same H H'):∀ {ds:List D} {xs:List V},RepL K H ds xs→RepL K H' ds xs
 | [],_,r=>by simpa only [RepL] using r
 | d::ds,xs,r=>by simp only [RepL] at r ⊢; obtain ⟨y,ys,e,q,rl⟩:=r; exact ⟨y,ys,e,Rep.mono h q,RepL.mono h rl⟩
end
theorem RepL.len {K:aB} {H:Hp}:∀ {ds:List D} {xs:List V},RepL K H ds xs→xs.length=ds.length
 | [],_,r=>by simp only [RepL] at r; rw [r]; rfl
 | d::ds,xs,r=>by simp only [RepL] at r; obtain ⟨y,ys,rfl,_,q⟩:=r; simp only [dS,RepL.len q]
theorem RepL.get {K:aB} {H:Hp}:∀ {ds:List D} {xs:List V} {i:Nat} {d:D},RepL K H ds xs→ds[i]? =some d→∃v,xs[i]? =some v∧Rep K H d v
 | [],_,i,d,r,e=>by simp at e
 | d'::ds,xs,i,d,r,e=>by
  simp only [RepL] at r; obtain ⟨y,ys,rfl,q,rl⟩:=r; cases i with
  | zero=>simp at e; subst e; exact ⟨y,rfl,q⟩
  | succ i=>
   have e':ds[i]? =some d:=by simpa using e
   obtain ⟨v,h1,h2⟩:=RepL.get rl e'; exact ⟨v,by simpa using h1,h2⟩
theorem RepL.app {K:aB} {H:Hp}:∀ {ds es:List D} {xs ys:List V},RepL K H ds xs→RepL K H es ys→RepL K H (ds++es) (xs++ys)
 | [],es,xs,ys,r,q=>by simp only [RepL] at r; subst r; exact q
 | d::ds,es,xs,ys,r,q=>by simp only [RepL] at r; obtain ⟨y,zs,rfl,a,rl⟩:=r; show RepL K H (d::(ds++es)) (y::(zs++ys)); simp only [RepL]; exact ⟨y,_,rfl,a,RepL.app rl q⟩
theorem RepL.nil {K:aB} {H:Hp}:RepL K H [] []:=by simp only [RepL]
theorem RepL.cons {K:aB} {H:Hp} {d:D} {ds:List D} {x:V} {xs:List V} (a:Rep K H d x) (b:RepL K H ds xs):RepL K H (d::ds) (x::xs):=by simp only [RepL]; exact ⟨x,xs,rfl,a,b⟩
theorem RepL.one {K:aB} {H:Hp} {d:D} {x:V} (a:Rep K H d x):RepL K H [d] [x]:= .cons a .nil
theorem RepL.uncons {K:aB} {H:Hp} {d:D} {ds:List D} {xs:List V} (r:RepL K H (d::ds) xs):∃y ys,xs=y::ys∧Rep K H d y∧RepL K H ds ys:=by simpa only [RepL] using r
theorem RepL.take {K:aB} {H:Hp}:∀ {ds:List D} {xs:List V} (n:Nat),RepL K H ds xs→RepL K H (ds.take n) (xs.take n)
 | _,_,0,_=>by simp only [List.take_zero]; exact .nil
 | [],xs,n+1,r=>by simp only [RepL] at r; subst r; exact .nil
 | d::ds,xs,n+1,r=>by obtain ⟨y,ys,rfl,a,rl⟩:=r.uncons; simp only [rA]; exact .cons a (RepL.take n rl)
theorem RepL.drop {K:aB} {H:Hp}:∀ {ds:List D} {xs:List V} (n:Nat),RepL K H ds xs→RepL K H (ds.drop n) (xs.drop n)
 | _,_,0,r=>by simpa only [List.drop_zero] using r
 | [],xs,n+1,r=>by simp only [RepL] at r; subst r; exact .nil
 | d::ds,xs,n+1,r=>by obtain ⟨y,ys,rfl,a,rl⟩:=r.uncons; simp only [List.drop_succ_cons]; exact RepL.drop n rl
theorem RepL.ints {K:aB} {H:Hp}:∀ {ns:List Int} {xs:List V},RepL K H (ns.map D.int) xs→xs=ns.map V.int
 | [],xs,r=>by simpa only [gE,RepL] using r
 | n::ns,xs,r=>by rw [bD] at r; obtain ⟨y,ys,rfl,a,rl⟩:=r.uncons; simp only [Rep] at a; rw [a,RepL.ints rl]; rfl
theorem RepL.set {K:aB} {H:Hp} {d:D} {v:V} (q:Rep K H d v):∀ {ds:List D} {xs:List V} (i:Nat),RepL K H ds xs→RepL K H (ds.set i d) (xs.set i v)
 | [],xs,i,r=>by simp only [RepL] at r; subst r; exact .nil
 | d'::ds,xs,i,r=>by
  obtain ⟨y,ys,rfl,a,rl⟩:=r.uncons; cases i with
  | zero=>exact .cons q rl
  | succ i=>exact .cons a (RepL.set q i rl)
inductive Slot where
 | un | val (d:D) | own (l:Addr) (ds:List D) | gh (d:D) (G:V→Hp→Prop) | od (l:Addr) (ks:List Key) (ds:List D) | ox (ls:List Addr) (G:V→Hp→Hp→Prop)
def Wr (l:Addr):HO→Prop
 | .lst _=>True
 | .dK _=>True
 | .ext φ=>∃o:Obj,φ=(fun h=>h.get? l=some o)∧∀v,o.data≠ .cell v
 | _=>False
def oK (K:aB) (F H:Hp):Slot→Option V→Prop
 | .un,_=>True
 | .val d,o=>∃v,o=some v∧Rep K F d v
 | .own l ds,o=>o=some (.ref l)∧F l=none∧∃xs,H l=some (.lst xs)∧RepL K F ds xs
 | .od l ks ds,o=>o=some (.ref l)∧F l=none∧∃xs,H l=some (.dK (ks.zip xs))∧ks.length=ds.length∧RepL K F ds xs
 | .gh d G,o=>∃v,o=some v∧Rep K F d v∧∀F',Same F F'→G v F'
 | .ox ls G,o=>∃v,o=some v∧(∀l∈ls,F l=none∧∃ob,H l=some ob∧Wr l ob)∧∀F' H',Same F F'→(∀l∈ls,∀ob,H l=some ob→H' l=some ob)→G v F' H'
def SlotsOk (K:aB) (F H:Hp):List Slot→St→Prop
 | [],σ=>σ=[]
 | z::zs,σ=>∃o r,σ=o::r∧oK K F H z o∧SlotsOk K F H zs r
def iL:Slot→List Addr
 | .own l _=>[l]
 | .od l _ _=>[l]
 | .ox ls _=>ls
 | _=>[]
def cM (sd:List Slot):List Addr:=sd.flatMap iL
theorem vV (z:Slot) (zs:List Slot):cM (z::zs)=iL z++cM zs:=rfl
structure StF (K:aB) (H₀ F H:Hp) (σ:St) (sd:List Slot):Prop where
 base:Same H₀ F
 sub:Same F H
 smp:Smp H
 slots:SlotsOk K F H sd σ
 nd:(cM sd).Nodup
section
variable {K:aB} {H₀ F F' H H':Hp} {σ:St} {sd:List Slot}
theorem SlotsOk.get:∀ {sd:List Slot} {σ:St} {i:Nat} {z:Slot},SlotsOk K F H sd σ→sd[i]? =some z→∃o,σ[i]? =some o∧oK K F H z o
 | [],_,_,_,_,e=>by simp at e
 | z'::zs,σ,i,z,h,e=>by
  obtain ⟨o,r,rfl,a,b⟩:=h; cases i with
  | zero=>simp at e; subst e; exact ⟨o,rfl,a⟩
  | succ i=>obtain ⟨o',h1,h2⟩:=SlotsOk.get (i:=i) b (by simpa using e); exact ⟨o',by simpa using h1,h2⟩
theorem SlotsOk.set {z:Slot} {o:Option V} (q:oK K F H z o):∀ {sd:List Slot} {σ:St} (i:Nat),SlotsOk K F H sd σ→SlotsOk K F H (sd.set i z) (σ.set i o)
 | [],_,_,h=>by have h:_=_:=h; subst h; rfl
 | z'::zs,σ,i,h=>by
  obtain ⟨o',r,rfl,a,b⟩:=h; cases i with
  | zero=>exact ⟨o,r,rfl,q,b⟩
  | succ i=>exact ⟨o',_,rfl,a,SlotsOk.set q i b⟩
theorem SlotsOk.mono (hF:Same F F'):∀ {sd:List Slot} {σ:St},(∀l∈cM sd,F' l=none∧∀xs,H l=some xs→H' l=some xs)→SlotsOk K F H sd σ→SlotsOk K F' H' sd σ
 | [],_,_,h=>h
 | z::zs,σ,ho,h=>by
  obtain ⟨o,r,rfl,a,b⟩:=h; refine ⟨o,r,rfl, ?_,SlotsOk.mono hF (fun l hl=>ho l ?_) b⟩
  ·cases z with
   | un=>trivial
   | val d=>obtain ⟨v,e,q⟩:=a; exact ⟨v,e,q.mono hF⟩
   | gh d G=>obtain ⟨v,e,q,g⟩:=a; exact ⟨v,e,q.mono hF,fun F2 s2=>g F2 (hF.trans s2)⟩
   | own l ds=>obtain ⟨e,n,xs,q,rl⟩:=a; have:=ho l (by simp [vV,iL]); exact ⟨e,this.1,xs,this.2 _ q,rl.mono hF⟩
   | od l ks ds=>obtain ⟨e,n,xs,q,ln,rl⟩:=a; have:=ho l (by simp [vV,iL]); exact ⟨e,this.1,xs,this.2 _ q,ln,rl.mono hF⟩
   | ox ls G=>
    obtain ⟨v,e,h,g⟩:=a; have ho':∀l∈ls,F' l=none∧∀xs,H l=some xs→H' l=some xs:=fun l hl=>ho l (bE _ hl)
    exact ⟨v,e,fun l hl=>⟨(ho' l hl).1,let ⟨ob,q,w⟩:=(h l hl).2; ⟨ob,(ho' l hl).2 _ q,w⟩⟩,fun F2 H2 s2 k=>g F2 H2 (hF.trans s2) fun l hl ob q=>k l hl ob ((ho' l hl).2 _ q)⟩
  ·exact aG _ hl
theorem SlotsOk.owns:∀ {sd:List Slot} {σ:St} {l:Addr},SlotsOk K F H sd σ→l∈cM sd→F l=none∧∃ob,H l=some ob∧Wr l ob
 | [],_,_,_,e=>by simp [cM] at e
 | z::zs,σ,l,h,e=>by
  obtain ⟨o,r,rfl,a,b⟩:=h
  rcases aY.mp (show l∈iL z++cM zs from e) with e | e
  ·cases z with
   | un=>cases e
   | val d=>cases e
   | gh d G=>cases e
   | own l' ds=>rw [bU.mp e]; obtain ⟨_,n,xs,q,_⟩:=a; exact ⟨n,_,q,trivial⟩
   | od l' ks ds=>rw [bU.mp e]; obtain ⟨_,n,xs,q,_⟩:=a; exact ⟨n,_,q,trivial⟩
   | ox ls G=>obtain ⟨v,_,h,_⟩:=a; exact h l e
  ·exact SlotsOk.owns b e
theorem StF.lay {p:Addr} {o:HO} (S:StF K H₀ F H σ sd) (hp:H p=none) (ho:SmpO o):StF K H₀ (upd F p o) (upd H p o) σ sd∧Same F (upd F p o):=by
 have fp:F p=none:=S.sub.free hp; have s1:Same F (upd F p o):=fun b u e=>by rw [bW (cP e fp)]; exact e
 refine ⟨⟨fun b u e=>s1 _ _ (S.base _ _ e),fun b u e=> ?_,fun b u e=> ?_,S.slots.mono s1 fun l hl=> ?_,S.nd⟩,s1⟩
 ·by_cases h:b=p
  ·subst h; rw [cS] at e ⊢; exact e
  ·rw [bW h] at e ⊢; exact S.sub _ _ e
 ·by_cases h:b=p
  ·subst h; rw [cS] at e; cases e; exact ho
  ·rw [bW h] at e; exact S.smp _ _ e
 ·obtain ⟨n,xs,q,_⟩:=S.slots.owns hl; have hne:l≠p:=cP q hp; exact ⟨by rw [bW hne]; exact n,fun ys e=>by rw [bW hne]; exact e⟩
theorem StF.layO {p:Addr} {xs:List V} (S:StF K H₀ F H σ sd) (hp:H p=none):StF K H₀ F (upd H p (.lst xs)) σ sd∧F p=none∧p∉cM sd:=by
 have fp:F p=none:=S.sub.free hp; refine ⟨⟨S.base,fun b u e=> ?_,fun b u e=> ?_,S.slots.mono (Same.refl _) fun l hl=> ?_,S.nd⟩,fp,fun hl=> ?_⟩
 ·rw [bW (cP e fp)]; exact S.sub _ _ e
 ·by_cases h:b=p
  ·subst h; rw [cS] at e; cases e; trivial
  ·rw [bW h] at e; exact S.smp _ _ e
 ·obtain ⟨n,ys,q,_⟩:=S.slots.owns hl; have hne:l≠p:=cP q hp; exact ⟨n,fun ys e=>by rw [bW hne]; exact e⟩
 ·obtain ⟨n,ys,q,_⟩:=S.slots.owns hl; rw [hp] at q; cases q
theorem StF.freeze {p:Addr} {xs:List V} (S:StF K H₀ F H σ sd) (hp:H p=some (.lst xs)) (fp:F p=none) (ho:p∉cM sd):StF K H₀ (upd F p (.lst xs)) H σ sd∧Same F (upd F p (.lst xs)):=by
 have s1:Same F (upd F p (.lst xs)):=fun b u e=>by rw [bW (cP e fp)]; exact e
 refine ⟨⟨fun b u e=>s1 _ _ (S.base _ _ e),fun b u e=> ?_,S.smp,S.slots.mono s1 fun l hl=> ?_,S.nd⟩,s1⟩
 ·by_cases h:b=p
  ·subst h; rw [cS] at e; rw [hp]; exact e
  ·rw [bW h] at e; exact S.sub _ _ e
 ·obtain ⟨n,ys,q,_⟩:=S.slots.owns hl; have hne:l≠p:=fun z=>ho (z▸hl)
  exact ⟨by rw [bW hne]; exact n,fun ys e=>e⟩
theorem SlotsOk.len:∀ {sd:List Slot} {σ:St},SlotsOk K F H sd σ→σ.length=sd.length
 | [],_,h=>by have h:_=_:=h; rw [h]; rfl
 | z::zs,σ,h=>by obtain ⟨o,r,rfl,_,b⟩:=h; simp [SlotsOk.len b]
end
inductive R where
 | val (d:D) | own (ds:List D) | bor (ds:List D) | pr (d:D) (ls:List D) | ox (G:V→List Addr→Hp→Hp→Prop)
def LOk (K:aB) (F H:Hp) (sd:List Slot) (v:V) (ds:List D):Prop:=
 ∃l xs,v= .ref l∧H l=some (.lst xs)∧RepL K F ds xs∧(F l=some (.lst xs)∨Slot.own l ds∈sd)
def ResOk (K:aB) (F H:Hp) (sd:List Slot):R→V→Prop
 | .val d,v=>Rep K F d v
 | .own ds,v=>∃l xs,v= .ref l∧F l=none∧H l=some (.lst xs)∧RepL K F ds xs∧l∉cM sd
 | .bor ds,v=>LOk K F H sd v ds
 | .pr d ls,v=>∃t l xs y,v= .ref t∧F t=some (.tup [y, .ref l])∧Rep K F d y∧F l=none∧H l=some (.lst xs)∧RepL K F ls xs∧l∉cM sd
 | .ox G,v=>∃ls:List Addr,ls.Nodup∧(∀l∈ls,F l=none∧(∃ob,H l=some ob∧Wr l ob)∧l∉cM sd)∧∀F' H',Same F F'→(∀l∈ls,∀ob,H l=some ob→H' l=some ob)→G v ls F' H'
def R.keeps:R→Prop
 | .own _=>False
 | .pr _ _=>False
 | .ox _=>False
 | _=>True
section
variable {K:aB} {H₀ F F' H H':Hp} {σ:St} {sd:List Slot} {r:R} {v:V}
theorem ResOk.keep (hr:r.keeps) (h:ResOk K F H sd r v) (S':StF K H₀ F' H' σ sd) (s:Same F F'):ResOk K F' H' sd r v:=by
 cases r with
 | val d=>exact Rep.mono s h
 | own ds=>exact hr.elim
 | pr d ls=>exact hr.elim
 | ox G=>exact hr.elim
 | bor ds=>
  obtain ⟨l,xs,e,hl,rl,q⟩:=h
  rcases q with q | q
  ·exact ⟨l,xs,e,S'.sub _ _ (s _ _ q),rl.mono s, .inl (s _ _ q)⟩
  ·obtain ⟨i,hi⟩:=List.getElem?_of_mem q; obtain ⟨o,_,e2,_,ys,h1,h2⟩:=S'.slots.get hi; exact ⟨l,ys,e,h1,h2, .inr q⟩
end
structure PEd (X:Cx) (sd:List Slot) (e:Expr) (r:R):Prop where
 run:∀ (σ:St) (F H:Hp),StF X.K X.B₀ F H σ sd→
 wE X e σ H fun v H'=>∃F',StF X.K X.B₀ F' H' σ sd∧Same F F'∧ResOk X.K F' H' sd r v
instance {X:Cx} {sd:List Slot} {e:Expr} {r:R}:CoeFun (PEd X sd e r) (fun _=>∀ (σ:St) (F H:Hp),StF X.K X.B₀ F H σ sd→
 wE X e σ H fun v H'=>∃F',StF X.K X.B₀ F' H' σ sd∧Same F F'∧ResOk X.K F' H' sd r v):=⟨PEd.run⟩
structure PTd (X:Cx) (sd:List Slot) (e:Expr) (b:Bool):Prop where
 run:∀ (σ:St) (F H:Hp),StF X.K X.B₀ F H σ sd→
 wT X e σ H fun c H'=>c=b∧∃F',StF X.K X.B₀ F' H' σ sd∧Same F F'
instance {X:Cx} {sd:List Slot} {e:Expr} {b:Bool}:CoeFun (PTd X sd e b) (fun _=>∀ (σ:St) (F H:Hp),StF X.K X.B₀ F H σ sd→
 wT X e σ H fun c H'=>c=b∧∃F',StF X.K X.B₀ F' H' σ sd∧Same F F'):=⟨PTd.run⟩
structure PWd (X:Cx) (sd:List Slot) (e:Expr) (b:Bool):Prop where
 run:∀ (σ:St) (F H:Hp),StF X.K X.B₀ F H σ sd→
 wW X e σ H fun c H'=>c=b∧∃F',StF X.K X.B₀ F' H' σ sd∧Same F F'
instance {X:Cx} {sd:List Slot} {e:Expr} {b:Bool}:CoeFun (PWd X sd e b) (fun _=>∀ (σ:St) (F H:Hp),StF X.K X.B₀ F H σ sd→
 wW X e σ H fun c H'=>c=b∧∃F',StF X.K X.B₀ F' H' σ sd∧Same F F'):=⟨PWd.run⟩
inductive RsOk (K:aB) (F H:Hp) (sd:List Slot):List R→List V→Prop
 | nil:RsOk K F H sd [] []
 | cons {r v rs vs}:ResOk K F H sd r v→RsOk K F H sd rs vs→RsOk K F H sd (r::rs) (v::vs)
structure PAd (X:Cx) (sd:List Slot) (es:List Expr) (rs:List R):Prop where
 run:∀ (σ:St) (F H:Hp),StF X.K X.B₀ F H σ sd→
 wA X es σ H fun vs H'=>∃F',StF X.K X.B₀ F' H' σ sd∧Same F F'∧RsOk X.K F' H' sd rs vs
instance {X:Cx} {sd:List Slot} {es:List Expr} {rs:List R}:CoeFun (PAd X sd es rs) (fun _=>∀ (σ:St) (F H:Hp),StF X.K X.B₀ F H σ sd→
 wA X es σ H fun vs H'=>∃F',StF X.K X.B₀ F' H' σ sd∧Same F F'∧RsOk X.K F' H' sd rs vs):=⟨PAd.run⟩
structure jX where
 nx:List Slot→Prop
 rt:R→Prop
 bk:List Slot→Prop:=fun _=>False
 ct:List Slot→Prop:=fun _=>False
def RetOk (K:aB) (H₀ H:Hp) (r:R) (v:V):Prop:=∃F,Same H₀ F∧Same F H∧Smp H∧ResOk K F H [] r v
def lft (X:Cx) (F₀:Hp) (E:jX):wY where
 nx:=fun σ H=>∃sd F,StF X.K X.B₀ F H σ sd∧Same F₀ F∧E.nx sd
 rt:=fun v H=>∃r,RetOk X.K X.B₀ H r v∧E.rt r
 bk:=fun σ H=>∃sd F,StF X.K X.B₀ F H σ sd∧Same F₀ F∧E.bk sd
 ct:=fun σ H=>∃sd F,StF X.K X.B₀ F H σ sd∧Same F₀ F∧E.ct sd
structure PSd (X:Cx) (sd:List Slot) (sts:List Stmt) (E:jX):Prop where
 run:∀ (σ:St) (F H:Hp),StF X.K X.B₀ F H σ sd→wSs X sts (lft X F E) σ H
instance {X:Cx} {sd:List Slot} {sts:List Stmt} {E:jX}:CoeFun (PSd X sd sts E) (fun _=>∀ (σ:St) (F H:Hp),StF X.K X.B₀ F H σ sd→wSs X sts (lft X F E) σ H):=⟨PSd.run⟩
structure PSd1 (X:Cx) (sd:List Slot) (st:Stmt) (E:jX):Prop where
 run:∀ (σ:St) (F H:Hp),StF X.K X.B₀ F H σ sd→wS X st (lft X F E) σ H
instance {X:Cx} {sd:List Slot} {st:Stmt} {E:jX}:CoeFun (PSd1 X sd st E) (fun _=>∀ (σ:St) (F H:Hp),StF X.K X.B₀ F H σ sd→wS X st (lft X F E) σ H):=⟨PSd1.run⟩
section
variable {X:Cx} {sd:List Slot} {e a b c:Expr} {es:List Expr} {pos:Pos} {r ra rb:R} {d:D} {ds:List D}
theorem PEd.val (h:PEd X sd e (.own ds)):PEd X sd e (.val (.lst ds)):= .mk fun σ F H S=>(h σ F H S).imp fun v H' ⟨F',S',s,l,xs,e,n,q,rl,no⟩=>by obtain ⟨S2,s2⟩:=S'.freeze q n no; refine ⟨_,S2,s.trans s2, ?_⟩; show Rep _ _ _ _; simp only [Rep]; exact ⟨l,xs,e,cS,rl.mono s2⟩
theorem PEd.bor (h:PEd X sd e (.val (.lst ds))):PEd X sd e (.bor ds):= .mk fun σ F H S=>(h σ F H S).imp fun v H' ⟨F',S',s,q⟩=>by have q:Rep _ _ _ _:=q; simp only [Rep] at q; obtain ⟨l,xs,e,q,rl⟩:=q; exact ⟨F',S',s,l,xs,e,S'.sub _ _ q,rl, .inl q⟩
theorem aE (i:Nat) {x:Str} (hs:sd[i]? =some (.val d)) (h:PE X (.Name x pos) (pD i)):PEd X sd (.Name x pos) (.val d):= .mk fun σ F H S=>h.to (by
 obtain ⟨o,h1,v,h2,q⟩:=S.slots.get hs
 exact ⟨v,by rw [h1,h2],F,S,Same.refl _,q⟩)
theorem vA (i:Nat) {x:Str} {l:Addr} (hs:sd[i]? =some (.own l ds)) (h:PE X (.Name x pos) (pD i)):PEd X sd (.Name x pos) (.bor ds):= .mk fun σ F H S=>h.to (by
 obtain ⟨o,h1,h2,n,xs,q,rl⟩:=S.slots.get hs
 exact ⟨.ref l,by rw [h1,h2],F,S,Same.refl _,l,xs,rfl,q,rl, .inr (dE hs)⟩)
theorem bP {i j}:PEd X sd (.Constant (.int i) j pos) (.val (.int i)):= .mk fun σ F H S=>pe_int.to ⟨F,S,Same.refl _,by simp only [ResOk,Rep]⟩
theorem pd_bl {i j}:PEd X sd (.Constant (.bool i) j pos) (.val (.bl i)):= .mk fun σ F H S=>pe_bl.to ⟨F,S,Same.refl _,by simp only [ResOk,Rep]⟩
theorem eA {j}:PEd X sd (.Constant .none j pos) (.val .non):= .mk fun σ F H S=>pe_non.to ⟨F,S,Same.refl _,by simp only [ResOk,Rep]⟩
theorem pd_str {i j}:PEd X sd (.Constant (.str i) j pos) (.val (.str i)):= .mk fun σ F H S=>pe_str.to ⟨F,S,Same.refl _,by simp only [ResOk,Rep]⟩
theorem bF:PAd X sd [] []:= .mk fun σ F H S=>pa_nil.to ⟨F,S,Same.refl _, .nil⟩
theorem aH {rs:List R} (h1:PEd X sd e r) (h2:PAd X sd es rs) (hk:r.keeps:=by trivial) (hs:starEach (e::es) X.env=(false,eval e X.env)::starEach es X.env:=by rfl):PAd X sd (e::es) (r::rs):= .mk fun σ F H S=>(gR hX wF hs).to ((h1 σ F H S).imp fun v H1 ⟨F1,S1,s1,q1⟩=>(h2 σ F1 H1 S1).imp fun vs H2 ⟨F2,S2,s2,q2⟩=>⟨F2,S2,s1.trans s2, .cons (q1.keep hk S2 s2) q2⟩)
theorem RsOk.vals {K:aB} {F H:Hp}:∀ {ds:List D} {vs:List V},RsOk K F H sd (ds.map R.val) vs→RepL K F ds vs
 | [],_, .nil=> .nil
 | _::_,_, .cons q t=> .cons q (RsOk.vals t)
theorem xI {x1} (h:PAd X sd es (ds.map R.val)) (hl:ds.length≤1000):PEd X sd (.Tuple es x1 pos) (.val (.tup ds)):= .mk fun σ F H S=>
 (pe_tup wF).to ((h σ F H S).imp fun vs H1 ⟨F1,S1,s1,q1⟩=>by
  have rl:=q1.vals; refine ⟨by rw [rl.len]; exact dP (iA hl),fun p hp=> ?_⟩; obtain ⟨S2,s2⟩:=S1.lay (o:= .tup vs) hp trivial; refine ⟨_,S2,s1.trans s2, ?_⟩; simp only [ResOk,Rep]
  exact ⟨p,vs,rfl,cS,rl.mono s2⟩)
theorem eU (h:PAd X sd es (ds.map R.val)) (hl:ds.length≤1000):PEd X sd (.List es pos) (.own ds):= .mk fun σ F H S=>
 (pe_lst wF).to ((h σ F H S).imp fun vs H1 ⟨F1,S1,s1,q1⟩=>by
  have rl:=q1.vals; refine ⟨by rw [rl.len]; exact dP (iA hl),fun p hp=> ?_⟩; obtain ⟨S2,fp,no⟩:=S1.layO (xs:=vs) hp
  exact ⟨_,S2,s1,p,vs,rfl,fp,cS,rl,no⟩)
theorem pd_op2 {op:Operator} {r2:R2} (ho:OpR X (binaryOp op) r2) (ha:PEd X sd a ra) (hb:PEd X sd b rb) (hk:ra.keeps)
  (h:∀ (σ:St) (F H:Hp) (v u:V) (Q:VK),StF X.K X.B₀ F H σ sd→ResOk X.K F H sd ra v→ResOk X.K F H sd rb u→(∀w F' H',StF X.K X.B₀ F' H' σ sd→Same F F'→ResOk X.K F' H' sd r w→Q w H')→r2 v u H Q):
  PEd X sd (.BinOp a op b pos) r:= .mk fun σ F H S=>
 (pe_op ho hX hX).to ((ha σ F H S).imp fun v H1 ⟨F1,S1,s1,q1⟩=>(hb σ F1 H1 S1).imp fun u H2 ⟨F2,S2,s2,q2⟩=>h σ F2 H2 v u _ S2 (q1.keep hk S2 s2) q2 fun w F' H' S' s' q'=>⟨F',S',(s1.trans s2).trans s',q'⟩)
theorem pd_cmp2 {op:CmpOp} {r2:R2} (ho:OpR X (compareOp op) r2) (ha:PEd X sd a ra) (hb:PEd X sd b rb) (hk:ra.keeps) (hm:behindInMarks op b=false) {k:Bool}
  (h:∀ (σ:St) (F H:Hp) (v u:V) (Q:VK),StF X.K X.B₀ F H σ sd→ResOk X.K F H sd ra v→ResOk X.K F H sd rb u→(∀F' H',StF X.K X.B₀ F' H' σ sd→Same F F'→Q (.bl k) H')→r2 v u H Q):
  PEd X sd (.Compare a [op] [b] pos) (.val (.bl k)):= .mk fun σ F H S=>
 (pe_cmpR ho hX hX hm).to ((ha σ F H S).imp fun v H1 ⟨F1,S1,s1,q1⟩=>(hb σ F1 H1 S1).imp fun u H2 ⟨F2,S2,s2,q2⟩=>h σ F2 H2 v u _ S2 (q1.keep hk S2 s2) q2 fun F' H' S' s'=>⟨F',S',(s1.trans s2).trans s',by simp only [ResOk,Rep]⟩)
theorem kP {k:Bool} (h:PEd X sd e (.val (.bl k))) (he:∀whole,isTrue e X.env whole=(do let v ← whole; standAt e.pos; holding [v] (truthy v)):=by intro _; rfl):PTd X sd e k:= .mk fun σ F H S=>
 (pt_val hX he).to ((h σ F H S).imp fun v H1 ⟨F1,S1,s1,q1⟩=>by
  simp only [ResOk,Rep] at q1
  exact ⟨k,q1,rfl,F1,S1,s1⟩)
theorem jW {op:CmpOp} {r2:R2} (ho:OpR X (compareOp op) r2) (ha:PEd X sd a ra) (hb:PEd X sd b rb) (hk:ra.keeps) (hm:behindInMarks op b=false) {k:Bool}
  (h:∀ (σ:St) (F H:Hp) (v u:V) (Q:VK),StF X.K X.B₀ F H σ sd→ResOk X.K F H sd ra v→ResOk X.K F H sd rb u→(∀F' H',StF X.K X.B₀ F' H' σ sd→Same F F'→Q (.bl k) H')→r2 v u H Q):
  PTd X sd (.Compare a [op] [b] pos) k:= .mk fun σ F H S=>
 (pt_cmpR ho hX hX hm).to ((ha σ F H S).imp fun v H1 ⟨F1,S1,s1,q1⟩=>(hb σ F1 H1 S1).imp fun u H2 ⟨F2,S2,s2,q2⟩=>h σ F2 H2 v u _ S2 (q1.keep hk S2 s2) q2 fun F' H' S' s'=>⟨k,rfl,rfl,F',S',(s1.trans s2).trans s'⟩)
end
section
variable {X:Cx} {sd:List Slot} {e a b c:Expr} {es:List Expr} {pos:Pos} {r ra rb:R} {d:D} {ds:List D} {st:Stmt} {rest:List Stmt} {E:jX}
theorem wS.imp {D D':wY} {σ:St} {H:Hp} (h:wS X st D σ H) (k1:∀σ H,D.nx σ H→D'.nx σ H) (k2:∀v H,D.rt v H→D'.rt v H) (k3:∀σ H,D.bk σ H→D'.bk σ H) (k4:∀σ H,D.ct σ H→D'.ct σ H):wS X st D' σ H:=
 fun pins s I=>thn (h pins s I) fun f s' q=>q.imp k1 k2 k3 k4
theorem nF {k:Bool} (h:PTd X sd e k):PTd X sd (.UnaryOp .Not e pos) (!k):= .mk fun σ F H S=>(pt_not pt_w).to ((h σ F H S).imp fun c H' ⟨e,q⟩=>⟨by rw [e],q⟩)
theorem nT {k:Bool} (h:PTd X sd a k):PWd X sd (.BoolOp .And [a] pos) k:= .mk fun σ F H S=>(pw_and1 pt_w).to (h σ F H S)
theorem qC {k:Bool} (h:PTd X sd a k):PWd X sd (.BoolOp .Or [a] pos) k:= .mk fun σ F H S=>(pw_or1 pt_w).to (h σ F H S)
theorem iP {k j:Bool} (h:PTd X sd a k) (h2:k=true→PWd X sd (.BoolOp .And (b::es) pos) j):PWd X sd (.BoolOp .And (a::b::es) pos) (k && j):= .mk fun σ F H S=>
 (pw_and pt_w pw_w).to ((h σ F H S).imp fun c H' ⟨e,F',S',s'⟩=>by
  subst e; cases c with
  | false=>exact iteF ⟨rfl,F',S',s'⟩
  | true=>exact iteT ((h2 rfl σ F' H' S').imp fun c2 H2 ⟨e2,F2,S2,s2⟩=>⟨by rw [e2]; rfl,F2,S2,s'.trans s2⟩))
theorem qY {k j:Bool} (h:PTd X sd a k) (h2:k=false→PWd X sd (.BoolOp .Or (b::es) pos) j):PWd X sd (.BoolOp .Or (a::b::es) pos) (k || j):= .mk fun σ F H S=>
 (pw_or pt_w pw_w).to ((h σ F H S).imp fun c H' ⟨e,F',S',s'⟩=>by
  subst e; cases c with
  | true=>exact iteT ⟨rfl,F',S',s'⟩
  | false=>exact iteF ((h2 rfl σ F' H' S').imp fun c2 H2 ⟨e2,F2,S2,s2⟩=>⟨by rw [e2]; rfl,F2,S2,s'.trans s2⟩))
theorem PWd.pt {k:Bool} (h:PWd X sd e k):PTd X sd e k:= .mk fun σ F H S=>(pw_w).pt.to (h σ F H S)
theorem pd_one {op} {r:R} (h:PEd X sd a r):PEd X sd (.BoolOp op [a] pos) r:= .mk fun σ F H S=>(pe_one hX).to (h σ F H S)
theorem pd_and {k j:Bool} (h:PEd X sd a (.val (.bl k))) (h2:k=true→PEd X sd (.BoolOp .And (b::es) pos) (.val (.bl j))):PEd X sd (.BoolOp .And (a::b::es) pos) (.val (.bl (k && j))):= .mk fun σ F H S=>
 (pe_and hX hX).to ((h σ F H S).imp fun v H' ⟨F',S',s',q⟩=>by
  simp only [ResOk,Rep] at q; subst q; refine ⟨k,rfl, ?_⟩; cases k with
  | false=>exact iteF ⟨F',S',s',by simp only [ResOk,Rep,jH]⟩
  | true=>exact iteT ((h2 rfl σ F' H' S').imp fun v2 H2 ⟨F2,S2,s2,q2⟩=>⟨F2,S2,s'.trans s2,by simpa only [Bool.true_and] using q2⟩))
theorem pd_not {k:Bool} (h:PEd X sd a (.val (.bl k))):PEd X sd (.UnaryOp .Not a pos) (.val (.bl (!k))):= .mk fun σ F H S=>
 (pe_not hX).to ((h σ F H S).imp fun v H' ⟨F',S',s',q⟩=>by
  simp only [ResOk,Rep] at q
  exact ⟨k,q,F',S',s',by simp only [ResOk,Rep]⟩)
theorem pN {op:Operator} {g:Int→Int→Int} {i j:Int} (ho:OpR X (binaryOp op) (rI0 fun i j=> .int (g i j))) (ha:PEd X sd a (.val (.int i))) (hb:PEd X sd b (.val (.int j))):PEd X sd (.BinOp a op b pos) (.val (.int (g i j))):=
 pd_op2 ho ha hb trivial fun σ F H v u Q S q1 q2 k=>by simp only [ResOk,Rep] at q1 q2; exact ⟨i,j,q1,q2,k _ F H S (Same.refl _) (by simp only [ResOk,Rep])⟩
theorem dB {op:Operator} {g:Int→Int→Int} {C:Int→Int→Prop} {i j:Int} (ho:OpR X (binaryOp op) (rI C fun i j=> .int (g i j))) (ha:PEd X sd a (.val (.int i))) (hb:PEd X sd b (.val (.int j))) (hc:C i j):PEd X sd (.BinOp a op b pos) (.val (.int (g i j))):=
 pd_op2 ho ha hb trivial fun σ F H v u Q S q1 q2 k=>by simp only [ResOk,Rep] at q1 q2; exact ⟨i,j,q1,q2,hc,k _ F H S (Same.refl _) (by simp only [ResOk,Rep])⟩
theorem jU:OpR X (binaryOp .Mult) (rI IntMulOk fun i j=> .int (i * j)):=opI fun _ _ _ _ _ _ _ hc q=>mul_int q hc
theorem gQ:OpR X (binaryOp .FloorDiv) (rI (fun _ j=>0<j∧j.natAbs.log2<9000) fun i j=> .int (i / j)):=opI fun i j _ _ _ _ _ hc q=>by have h1:(0:Int)<j:=hc.1; exact floordiv_int (by omega) (by rw [Int.fdiv_eq_ediv_of_nonneg i (by omega)]; exact q) (.inl (PyProof.noPylong_of_log2 hc.2))
theorem ptd_cI {op:CmpOp} {g:Int→Int→Bool} {i j:Int} (ho:OpR X (compareOp op) (rI0 fun i j=> .bl (g i j))) (ha:PEd X sd a (.val (.int i))) (hb:PEd X sd b (.val (.int j))) (hm:behindInMarks op b=false):PTd X sd (.Compare a [op] [b] pos) (g i j):=
 jW ho ha hb trivial hm fun σ F H v u Q S q1 q2 k=>by simp only [ResOk,Rep] at q1 q2; exact ⟨i,j,q1,q2,k F H S (Same.refl _)⟩
def flt:D→Option V
 | .non=>some .non
 | .bl b=>some (.bl b)
 | .int i=>some (.int i)
 | .str x=>some (.str x)
 | _=>none
theorem uU {K:aB} {H:Hp} {d:D} {x v:V} (h:flt d=some x) (q:Rep K H d v):v=x:=by
 cases d with
 | non=>simp only [Rep] at q; simp only [flt] at h; rw [q]; exact cA.inj h
 | bl=>simp only [Rep] at q; simp only [flt] at h; rw [q]; exact cA.inj h
 | int=>simp only [Rep] at q; simp only [flt] at h; rw [q]; exact cA.inj h
 | str=>simp only [Rep] at q; simp only [flt] at h; rw [q]; exact cA.inj h
 | tup=>simp only [flt] at h; cases h
 | lst=>simp only [flt] at h; cases h
 | dic=>simp only [flt] at h; cases h
 | dki=>simp only [flt] at h; cases h
 | any=>simp only [flt] at h; cases h
 | scr=>simp only [flt] at h; cases h
theorem ptd_eqS {d1 d2:D} {x y:V} {k:Bool} (ha:PEd X sd a (.val d1)) (hb:PEd X sd b (.val d2)) (h1:flt d1=some x) (h2:flt d2=some y) (hs:scal x y=true) (hk:decide (x=y)=k):PTd X sd (.Compare a [.Eq] [b] pos) k:=
 jW op_eq ha hb trivial (lI _) fun σ F H v u Q S q1 q2 kk=>by have e1:=uU h1 q1; have e2:=uU h2 q2; subst e1 e2; exact ⟨hs,by rw [hk]; exact kk F H S (Same.refl _)⟩
theorem ptd_neS {d1 d2:D} {x y:V} {k:Bool} (ha:PEd X sd a (.val d1)) (hb:PEd X sd b (.val d2)) (h1:flt d1=some x) (h2:flt d2=some y) (hs:scal x y=true) (hk:(!decide (x=y))=k):PTd X sd (.Compare a [.NotEq] [b] pos) k:=
 jW op_ne ha hb trivial (lI _) fun σ F H v u Q S q1 q2 kk=>by have e1:=uU h1 q1; have e2:=uU h2 q2; subst e1 e2; exact ⟨hs,by rw [hk]; exact kk F H S (Same.refl _)⟩
theorem rY {i j:Int} (ha:PEd X sd a (.val (.int i))) (hb:PEd X sd b (.val (.int j))):PTd X sd (.Compare a [.Eq] [b] pos) (decide (i=j)):=ptd_eqS ha hb rfl rfl rfl (by rw [sC,lA])
theorem ptd_neI {i j:Int} (ha:PEd X sd a (.val (.int i))) (hb:PEd X sd b (.val (.int j))):PTd X sd (.Compare a [.NotEq] [b] pos) (!decide (i=j)):=ptd_neS ha hb rfl rfl rfl (by rw [sC,lA])
theorem ptd_neB {p q:Bool} (ha:PEd X sd a (.val (.bl p))) (hb:PEd X sd b (.val (.bl q))):PTd X sd (.Compare a [.NotEq] [b] pos) (!decide (p=q)):=ptd_neS ha hb rfl rfl rfl (by rw [dec_bl,lA])
theorem xJ {n:Nat} (ha:PEd X sd a (.val (.tup ds))) (hb:PEd X sd b (.val (.int (n:Int)))) (hd:ds[n]? =some d) (hs:oH b):PEd X sd (.Subscript a b pos) (.val d):= .mk fun σ F H S=>
 (pe_ix ix_tup hX hX hs).to ((ha σ F H S).imp fun v H1 ⟨F1,S1,s1,q1⟩=>(hb σ F1 H1 S1).imp fun u H2 ⟨F2,S2,s2,q2⟩=>by
  have q1:=Rep.mono s2 q1; simp only [ResOk,Rep] at q1 q2; obtain ⟨p,xs,e1,hp,rl⟩:=q1; obtain ⟨w,hw,rw'⟩:=rl.get hd
  exact ⟨p,xs,(n:Int),w,e1,q2, .of (S2.sub _ _ hp),uQ hw,F2,S2,s1.trans s2,rw'⟩)
theorem gX {n:Nat} (ha:PEd X sd a (.bor ds)) (hb:PEd X sd b (.val (.int (n:Int)))) (hd:ds[n]? =some d) (hs:oH b):PEd X sd (.Subscript a b pos) (.val d):= .mk fun σ F H S=>
 (pe_ix ix_list hX hX hs).to ((ha σ F H S).imp fun v H1 ⟨F1,S1,s1,q1⟩=>(hb σ F1 H1 S1).imp fun u H2 ⟨F2,S2,s2,q2⟩=>by
  obtain ⟨p,xs,e1,hp,rl,_⟩:=ResOk.keep (r:= .bor ds) trivial q1 S2 s2; simp only [ResOk,Rep] at q2; obtain ⟨w,hw,rw'⟩:=rl.get hd
  exact ⟨p,xs,(n:Int),w,e1,q2, .of hp,uQ hw,F2,S2,s1.trans s2,rw'⟩)
theorem pd_ixS {ns:List Int} {n:Nat} {z:Int} (ha:PEd X sd a (.val (.scr ns))) (hb:PEd X sd b (.val (.int (n:Int)))) (hd:ns[n]? =some z) (hs:oH b):PEd X sd (.Subscript a b pos) (.val (.int z)):= .mk fun σ F H S=>
 (pe_ix ix_list hX hX hs).to ((ha σ F H S).imp fun v H1 ⟨F1,S1,s1,q1⟩=>(hb σ F1 H1 S1).imp fun u H2 ⟨F2,S2,s2,q2⟩=>by
  have q1:=Rep.mono (s2.trans S2.sub) q1; simp only [ResOk,Rep] at q1 q2; obtain ⟨p,e1,hp⟩:=q1
  exact ⟨p,_,(n:Int), .int z,e1,q2,hp,uQ (by rw [cI,hd]; rfl),F2,S2,s1.trans s2,by simp only [ResOk,Rep]⟩)
theorem pd_callB {x:Str} {p:Pos} {id:String} {rr:List V→Hp→VK→Prop} {rs:List R} (hc:pJ X (.builtin id) rr) (hg:Gl X x) (hm:X.mg x=none) (hv:bootBuiltins x=some (.builtin id)) (ha:PAd X sd (e::es) rs)
  (h:∀ (σ:St) (F H:Hp) (vs:List V) (Q:VK),StF X.K X.B₀ F H σ sd→RsOk X.K F H sd rs vs→(∀w F' H',StF X.K X.B₀ F' H' σ sd→Same F F'→ResOk X.K F' H' sd r w→Q w H')→rr vs H Q)
  (hn:x≠"__name__":=by decide) (hdb:(x==("__debug__":Str))=false:=by decide) (he:starEach (e::es) X.env=(false,eval e X.env)::starEach es X.env:=by rfl) (hpl:(backTo pos (starEach es X.env)).any (·.1)=false:=by rfl):
  PEd X sd (.Call (.Name x p) (e::es) [] pos) r:= .mk fun σ F H S=>
 (pP hc hg hm hv wF hn hdb he hpl).to ((ha σ F H S).imp fun vs H1 ⟨F1,S1,s1,q1⟩=>h σ F1 H1 vs _ S1 q1 fun w F' H' S' s' q'=>⟨F',S',s1.trans s',q'⟩)
theorem tD {x:Str} {p:Pos} {T:String} {rr:List V→Hp→VK→Prop} {rs:List R} (hc:pJ X (.type T) rr) (hg:Gl X x) (hm:X.mg x=none) (hv:bootBuiltins x=some (.type T)) (ha:PAd X sd (e::es) rs)
  (h:∀ (σ:St) (F H:Hp) (vs:List V) (Q:VK),StF X.K X.B₀ F H σ sd→RsOk X.K F H sd rs vs→(∀w F' H',StF X.K X.B₀ F' H' σ sd→Same F F'→ResOk X.K F' H' sd r w→Q w H')→rr vs H Q)
  (hn:x≠"__name__":=by decide) (hdb:(x==("__debug__":Str))=false:=by decide) (he:starEach (e::es) X.env=(false,eval e X.env)::starEach es X.env:=by rfl) (hpl:(backTo pos (starEach es X.env)).any (·.1)=false:=by rfl):
  PEd X sd (.Call (.Name x p) (e::es) [] pos) r:= .mk fun σ F H S=>
 (pe_callTy hc hg hm hv wF hn hdb he hpl).to ((ha σ F H S).imp fun vs H1 ⟨F1,S1,s1,q1⟩=>h σ F1 H1 vs _ S1 q1 fun w F' H' S' s' q'=>⟨F',S',s1.trans s',q'⟩)
theorem gB {p:Pos} (hg:Gl X "len") (hm:X.mg "len"=none) (ha:PEd X sd e (.bor ds)) (hst:starEach [e] X.env=(false,eval e X.env)::starEach [] X.env:=by rfl):PEd X sd (.Call (.Name "len" p) [e] [] pos) (.val (.int ds.length)):=
 pd_callB (he:=hst) sA hg hm PySem.boot_len (aH ha bF trivial hst) fun σ F H vs Q S q k=>by
  cases q with
  | cons q1 q2=>cases q2; obtain ⟨p,xs,rfl,hp,rl,_⟩:=q1; refine ⟨p,xs,rfl, .inl (.of hp),k _ F H S (Same.refl _) ?_⟩; simp only [ResOk,Rep,rl.len]
theorem pd_lenS {p:Pos} {ns:List Int} (hg:Gl X "len") (hm:X.mg "len"=none) (ha:PEd X sd e (.val (.scr ns))) (hst:starEach [e] X.env=(false,eval e X.env)::starEach [] X.env:=by rfl):PEd X sd (.Call (.Name "len" p) [e] [] pos) (.val (.int ns.length)):=
 pd_callB (he:=hst) sA hg hm PySem.boot_len (aH ha bF trivial hst) fun σ F H vs Q S q k=>by
  cases q with
  | cons q1 q2=>cases q2; have q1:=Rep.mono S.sub q1; simp only [Rep] at q1; obtain ⟨p,rfl,hp⟩:=q1; refine ⟨p,_,rfl, .inl hp,k _ F H S (Same.refl _) ?_⟩; simp only [ResOk,Rep,aD]
def tyD:D→Value
 | .non=> .type "NoneType"
 | .bl _=> .type "bool"
 | .int _=> .type "int"
 | .str _=> .type "str"
 | .tup _=> .type "tuple"
 | .lst _=> .type "list"
 | .dic=> .type "dict"
 | .dki _ _=> .type "dict"
 | .any _=> .type "dict"
 | .scr _=> .type "list"
theorem ty_of {K:aB} {H:Hp} {d:D} {v:V} (h:∀ns,d≠ .scr ns) (hA:∀G,d≠ .any G) (q:Rep K H d v):sK K H v (tyD d):=by
 cases d with
 | non=>simp only [Rep] at q; subst q; exact .non
 | bl b=>simp only [Rep] at q; subst q; exact .bl b
 | int b=>simp only [Rep] at q; subst q; exact .int b
 | str b=>simp only [Rep] at q; subst q; exact .str b
 | tup ds=>simp only [Rep] at q; obtain ⟨a,xs,rfl,h,_⟩:=q; exact .tup h
 | lst ds=>simp only [Rep] at q; obtain ⟨a,xs,rfl,h,_⟩:=q; exact .lst h
 | dic=>simp only [Rep] at q; obtain ⟨a,rfl,h⟩:=q; exact .dK (.of h)
 | dki ks ds=>simp only [Rep] at q; obtain ⟨a,xs,rfl,h,_⟩:=q; exact .dK (.inr h)
 | scr ns=>exact absurd rfl (h ns)
 | any G=>exact absurd rfl (hA G)
theorem call_isin:pJ X (.builtin "isinstance") (fun xs H Q=>∃x t n k,xs=[x, .ty n]∧sK X.K H x t∧cD X.K t (.type n)=some k∧Q (.bl k) H):=by intro pins s σ H xs us Q I r h; obtain ⟨x,t,n,k,rfl,ty,e,q⟩:=h; obtain ⟨u,u',rfl,ru,ru'⟩:=vals2 r; cases (show u'=Value.type n from ru'); exact isinst_ok I ru ty e fun tk=>⟨.bl k,H,I.tok tk,rfl,q⟩
theorem pe_type {x:Str} {n:String} {pos:Pos} (hg:Gl X x) (hm:X.mg x=none) (hv:bootBuiltins x=some (.type n)) (hn:x≠"__name__":=by decide) (hd:(x==("__debug__":Str))=false:=by decide):PE X (.Name x pos) (tC (.ty n)):=pe_bltn hg hm hv rfl hn hd
theorem rU {x:Str} {n:String} {p p2:Pos} {k:Bool} (hg:Gl X "isinstance") (hm:X.mg "isinstance"=none) (hgx:Gl X x) (hmx:X.mg x=none) (hv:bootBuiltins x=some (.type n)) (ha:PEd X sd e (.val d)) (hd:∀ns,d≠ .scr ns)
  (hk:cD X.K (tyD d) (.type n)=some k) (hA:∀G,d≠ .any G:=by (intro _ h; cases h)) (hn:x≠"__name__":=by decide) (hdb:(x==("__debug__":Str))=false:=by decide)
  (he:starEach (e::[.Name x p2]) X.env=(false,eval e X.env)::starEach [.Name x p2] X.env:=by rfl) (hpl:(backTo pos (starEach [.Name x p2] X.env)).any (·.1)=false:=by rfl) (hs2:starEach [.Name x p2] X.env=(false,eval (.Name x p2) X.env)::starEach [] X.env:=by rfl):
  PEd X sd (.Call (.Name "isinstance" p) [e, .Name x p2] [] pos) (.val (.bl k)):= .mk fun σ F H S=>
 (pP call_isin hg hm boot_isinstance (gR hX (gR (pe_type hgx hmx hv hn hdb) pa_nil hs2) he) (by decide) (by decide) he hpl).to ((ha σ F H S).imp fun v H1 ⟨F1,S1,s1,q1⟩=>by exact ⟨v,tyD d,n,k,rfl,ty_of hd hA (Rep.mono S1.sub q1),hk,F1,S1,s1,by simp only [ResOk,Rep]⟩)
theorem eF (h:E.nx sd):PSd X sd [] E:= .mk fun σ F H S=>pss_nil.to ⟨sd,F,S,Same.refl _,h⟩
theorem bA (h:PSd1 X sd st {E with nx:=fun sd'=>PSd X sd' rest E}):PSd X sd (st::rest) E:= .mk fun σ F H S=>
 (pss_cons ps_w vT).to (wS.imp (h σ F H S) (fun σ' H' ⟨sd',F',S',s',q⟩=>(q σ' F' H' S').imp (fun σ2 H2 ⟨sd2,F2,S2,s2,q2⟩=>⟨sd2,F2,S2,s'.trans s2,q2⟩) (fun v H2 q2=>q2)
  (fun σ2 H2 ⟨sd2,F2,S2,s2,q2⟩=>⟨sd2,F2,S2,s'.trans s2,q2⟩) fun σ2 H2 ⟨sd2,F2,S2,s2,q2⟩=>⟨sd2,F2,S2,s'.trans s2,q2⟩) (fun v H q=>q) (fun σ H q=>q) fun σ H q=>q)
theorem bI (h:PSd1 X sd st E):PSd X sd [st] E:= .mk fun σ F H S=>(pss_one ps_w).to (h σ F H S)
theorem fS (h:PEd X sd e r) (hr:match r with | .bor _=>False | _=>True) (hE:E.rt r):PSd1 X sd (.Return (some e) pos) E:= .mk fun σ F H S=>
 (ps_ret hX).to ((h σ F H S).imp fun v H' ⟨F',S',s',q⟩=>⟨r,⟨F',S'.base,S'.sub,S'.smp,by
  cases r with
  | val d=>exact q
  | own ds=>obtain ⟨l,xs,a,b,c,d,_⟩:=q; exact ⟨l,xs,a,b,c,d,by simp [cM]⟩
  | pr d ls=>obtain ⟨t,l,xs,y,a,b,c,d,e,f,_⟩:=q; exact ⟨t,l,xs,y,a,b,c,d,e,f,by simp [cM]⟩
  | ox G=>obtain ⟨ls,nd,h,g⟩:=q; exact ⟨ls,nd,fun l hl=>⟨(h l hl).1,(h l hl).2.1,by simp [cM]⟩,g⟩
  | bor ds=>exact hr.elim⟩,hE⟩)
theorem iW (i:Nat) {x:Str} {p:Pos} {l:Addr} (hs:sd[i]? =some (.own l ds)) (h:PE X (.Name x p) (pD i)) (hE:E.rt (.own ds)):PSd1 X sd (.Return (some (.Name x p)) pos) E:= .mk fun σ F H S=>
 (ps_ret h).to (by
  obtain ⟨o,h1,h2,n,xs,q,rl⟩:=S.slots.get hs
  exact ⟨.ref l,by rw [h1,h2], .own ds,⟨F,S.base,S.sub,S.smp,l,xs,rfl,n,q,rl,by simp [cM]⟩,hE⟩)
theorem iN {k:Bool} {a o:List Stmt} (h:PTd X sd c k) (h1:k=true→PSd X sd a E) (h2:k=false→PSd X sd o E):PSd1 X sd (.If c a o pos) E:= .mk fun σ F H S=>
 (ps_if pt_w vT vT).to ((h σ F H S).imp fun k' H' ⟨e,F',S',s'⟩=>by
  have up:∀ {sts:List Stmt},PSd X sd sts E→wSs X sts (lft X F E) σ H':=fun h=>(h σ F' H' S').imp (fun σ2 H2 ⟨sd2,F2,S2,s2,q2⟩=>⟨sd2,F2,S2,s'.trans s2,q2⟩) (fun v H2 q2=>q2)
   (fun σ2 H2 ⟨sd2,F2,S2,s2,q2⟩=>⟨sd2,F2,S2,s'.trans s2,q2⟩) fun σ2 H2 ⟨sd2,F2,S2,s2,q2⟩=>⟨sd2,F2,S2,s'.trans s2,q2⟩
  subst e; cases k' with
  | true=>exact iteT (up (h1 rfl))
  | false=>exact iteF (up (h2 rfl)))
theorem jR:∀ {sd:List Slot} {z:Slot} (i:Nat),(cM sd).Nodup→(∀l,l∈iL z→l∉cM sd∨(∃z',sd[i]? =some z'∧l∈iL z'))→(hz:(iL z).Nodup:=by simp [iL])→(cM (sd.set i z)).Nodup∧∀l,l∈cM (sd.set i z)→l∈cM sd∨l∈iL z
 | [],z,i,h,_,_=>⟨h,fun l hl=> .inl hl⟩
 | z'::zs,z,0,h,hz,nz=>by
  show (iL z++cM zs).Nodup∧∀l,l∈iL z++cM zs→_; obtain ⟨n1,n2,n3⟩:=dF.mp (show (iL z'++cM zs).Nodup from h); refine ⟨dF.mpr ⟨nz,n2,fun a ha b hb e=> ?_⟩,fun l hl=> ?_⟩
  ·subst e
   rcases hz a ha with y | ⟨z2,e2,y⟩
   ·exact y (aG _ hb)
   ·have:z'=z2:=by simpa using e2
    subst this; exact n3 a y a hb rfl
  ·rcases aY.mp hl with y | y
   ·exact .inr y
   ·exact .inl (aG _ y)
 | z'::zs,z,i+1,h,hz,nz=>by
  show (iL z'++cM (zs.set i z)).Nodup∧∀l,l∈iL z'++cM (zs.set i z)→_; obtain ⟨n1,n2,n3⟩:=dF.mp (show (iL z'++cM zs).Nodup from h)
  obtain ⟨i1,i2⟩:=jR (sd:=zs) (z:=z) i n2 (fun l hl=>by
   rcases hz l hl with y | ⟨z2,e2,y⟩
   ·exact .inl fun q=>y (aG _ q)
   ·exact .inr ⟨z2,by simpa using e2,y⟩) nz
  refine ⟨dF.mpr ⟨n1,i1,fun a ha b hb e=> ?_⟩,fun l hl=> ?_⟩
  ·subst e
   rcases i2 a hb with y | y
   ·exact n3 a ha a y rfl
   ·rcases hz a y with y | ⟨z2,e2,y⟩
    ·exact y (bE _ ha)
    ·have m:a∈cM zs:=gM.mpr ⟨z2,dE (by simpa using e2),y⟩; exact n3 a ha a m rfl
  ·rcases aY.mp hl with y | y
   ·exact .inl (bE _ y)
   ·rcases i2 l y with y | y
    ·exact .inl (aG _ y)
    ·exact .inr y
theorem StF.set {K:aB} {H₀ F H:Hp} {σ:St} {v:V} (S:StF K H₀ F H σ sd) (i:Nat) (q:Rep K F d v):StF K H₀ F H (σ.set i (some v)) (sd.set i (.val d)):=
 ⟨S.base,S.sub,S.smp,S.slots.set (z:= .val d) ⟨v,rfl,q⟩ i,(jR i S.nd fun l e=>by simp [iL] at e).1⟩
theorem StF.setO {K:aB} {H₀ F H:Hp} {σ:St} {l:Addr} {xs:List V} (S:StF K H₀ F H σ sd) (i:Nat) (n:F l=none) (h:H l=some (.lst xs)) (q:RepL K F ds xs) (no:l∉cM sd):StF K H₀ F H (σ.set i (some (.ref l))) (sd.set i (.own l ds)):=
 ⟨S.base,S.sub,S.smp,S.slots.set (z:= .own l ds) ⟨rfl,n,xs,h,q⟩ i,(jR i S.nd fun l' e=>by rw [bU.mp e]; exact .inl no).1⟩
theorem iQ (i:Nat) {x:Str} {p:Pos} (hN:X.N.Nodup) (hi:X.N[i]? =some x) (hx:Loc X.env.scope x) (h:PEd X sd e (.val d)) (hE:E.nx (sd.set i (.val d))) (hs:swapsWith e (some (.Name x p)) pos.line X.env=pure false:=by rfl)
  (hf:X.fn x=true∨X.env.scope.names.lookup x=some .local:=by first | exact .inl rfl | exact .inr rfl | assumption):PSd1 X sd (.Assign [.Name x p] e pos) E:= .mk fun σ F H S=>
 (ps_set hN hi hx hX hs hf).to ((h σ F H S).imp fun v H' ⟨F',S',s',q⟩=>⟨_,F',S'.set i q,s',hE⟩)
theorem eB (i:Nat) {x:Str} {p:Pos} (hN:X.N.Nodup) (hi:X.N[i]? =some x) (hx:Loc X.env.scope x) (h:PEd X sd e (.own ds)) (hE:∀l,E.nx (sd.set i (.own l ds))) (hs:swapsWith e (some (.Name x p)) pos.line X.env=pure false:=by rfl)
  (hf:X.fn x=true∨X.env.scope.names.lookup x=some .local:=by first | exact .inl rfl | exact .inr rfl | assumption):PSd1 X sd (.Assign [.Name x p] e pos) E:= .mk fun σ F H S=>
 (ps_set hN hi hx hX hs hf).to ((h σ F H S).imp fun v H' ⟨F',S',s',l,xs,e,n,q,rl,no⟩=>⟨_,F',by subst e; exact S'.setO i n q rl no,s',hE l⟩)
def Le:List Slot→List Slot→Prop
 | [],[]=>True
 | x::xs,y::ys=>(y= .un∨x=y)∧Le xs ys
 | _,_=>False
theorem Le.refl:∀ (sd:List Slot),Le sd sd
 | []=>trivial
 | _::xs=>⟨.inr rfl,Le.refl xs⟩
theorem Le.own:∀ {sd sd':List Slot},Le sd sd'→(cM sd').Sublist (cM sd)
 | [],[],_=>List.Sublist.refl _
 | [],_::_,h=>h.elim
 | _::_,[],h=>h.elim
 | x::xs,y::ys,h=>by
  obtain ⟨h1,h2⟩:=h; have ih:=Le.own h2
  rcases h1 with rfl | rfl
  ·exact ih.trans (List.sublist_append_right _ _)
  ·exact List.Sublist.append (List.Sublist.refl _) ih
theorem Le.slots {K:aB} {F H:Hp}:∀ {sd sd':List Slot} {σ:St},Le sd sd'→SlotsOk K F H sd σ→SlotsOk K F H sd' σ
 | [],[],_,_,h=>h
 | [],_::_,_,h,_=>h.elim
 | _::_,[],_,h,_=>h.elim
 | x::xs,y::ys,σ,h,q=>by
  obtain ⟨h1,h2⟩:=h; obtain ⟨o,r,rfl,a,b⟩:=q; refine ⟨o,r,rfl, ?_,Le.slots h2 b⟩
  rcases h1 with rfl | rfl
  ·trivial
  ·exact a
theorem StF.le {K:aB} {H₀ F H:Hp} {σ:St} {sd':List Slot} (S:StF K H₀ F H σ sd) (h:Le sd sd'):StF K H₀ F H σ sd':=⟨S.base,S.sub,S.smp,h.slots S.slots,S.nd.sublist h.own⟩
theorem sU {sd':List Slot} {sts:List Stmt} (h:Le sd sd') (q:PSd X sd' sts E):PSd X sd sts E:= .mk fun σ F H S=>q σ F H (S.le h)
theorem lft_up {F₀ F:Hp} {E:jX} {σ:St} {H:Hp} {sts:List Stmt} (s:Same F₀ F) (h:wSs X sts (lft X F E) σ H):wSs X sts (lft X F₀ E) σ H:=
 h.imp (fun σ2 H2 ⟨sd2,F2,S2,s2,q2⟩=>⟨sd2,F2,S2,s.trans s2,q2⟩) (fun v H2 q2=>q2) (fun σ2 H2 ⟨sd2,F2,S2,s2,q2⟩=>⟨sd2,F2,S2,s.trans s2,q2⟩) fun σ2 H2 ⟨sd2,F2,S2,s2,q2⟩=>⟨sd2,F2,S2,s.trans s2,q2⟩
theorem iZ:∀ (sd:List Slot) (i:Nat),Le sd (sd.set i .un)
 | [],_=>trivial
 | _::xs,0=>⟨.inl rfl,Le.refl xs⟩
 | _::xs,i+1=>⟨.inr rfl,iZ xs i⟩
theorem jQ:∀ {sd:List Slot} {i:Nat} {l:Addr} {z:Slot},(cM sd).Nodup→sd[i]? =some z→l∈iL z→l∉cM (sd.set i .un)
 | [],_,_,_,_,e,_=>by simp at e
 | y::zs,0,l,z,h,e,hl=>by
  have:y=z:=by simpa using e
  subst this; obtain ⟨n1,n2,n3⟩:=dF.mp (show (iL y++cM zs).Nodup from h); exact fun hm=>n3 l hl l hm rfl
 | y::zs,i+1,l,z,h,e,hl=>by
  have e':zs[i]? =some z:=by simpa using e
  obtain ⟨n1,n2,n3⟩:=dF.mp (show (iL y++cM zs).Nodup from h); have ml:l∈cM zs:=gM.mpr ⟨_,dE e',hl⟩; intro hm
  rcases aY.mp (show l∈iL y++cM (zs.set i .un) from hm) with q | q
  ·exact n3 l q l ml rfl
  ·exact jQ n2 e' hl q
theorem tP {sd:List Slot} {i:Nat} {l:Addr} {ds:List D} (h:(cM sd).Nodup) (e:sd[i]? =some (.own l ds)):l∉cM (sd.set i .un):=jQ h e (eV l)
theorem pM {σ:St} {i:Nat} {o:Option V} (h:σ[i]? =some o):σ.set i o=σ:=by obtain ⟨hi,e⟩:=cG.mp h; rw [← e]; exact List.set_getElem_self hi
theorem nB (sd:List Slot) (i:Nat) (x y:Slot):(sd.set i x).set i y=sd.set i y:=by simp
theorem StF.wr {K:aB} {H₀ F H:Hp} {σ:St} {i:Nat} {l:Addr} {ds':List D} {xs':List V} (S:StF K H₀ F H σ sd) (hs:sd[i]? =some (.own l ds)) (rl:RepL K F ds' xs'):StF K H₀ F (upd H l (.lst xs')) σ (sd.set i (.own l ds')):=by
 obtain ⟨o,h1,h2,n,xs,q,_⟩:=S.slots.get hs; have no:=tP S.nd hs; have S0:=S.le (iZ sd i); refine ⟨S.base,fun b u e=> ?_,fun b u e=> ?_, ?_, ?_⟩
 ·rw [bW (cP e n)]; exact S.sub _ _ e
 ·by_cases h:b=l
  ·subst h; rw [cS] at e; cases e; trivial
  ·rw [bW h] at e; exact S.smp _ _ e
 ·have q1:SlotsOk K F (upd H l (.lst xs')) (sd.set i .un) σ:=S0.slots.mono (Same.refl _) fun l' hl=>by
   obtain ⟨n',ys,q',_⟩:=S0.slots.owns hl; have hne:l'≠l:=fun z=>no (z▸hl)
   exact ⟨n',fun ys e=>by rw [bW hne]; exact e⟩
  have q2:=q1.set (z:= .own l ds') (o:=some (.ref l)) ⟨rfl,n,xs',cS,rl⟩ i; rw [nB,pM (by rw [h1,h2])] at q2; exact q2
 ·have:=jR (z:=Slot.own l ds') i S0.nd fun l' e=>by rw [bU.mp e]; exact .inl no
  rw [nB] at this; exact this.1
theorem iE (i:Nat) {l:Addr} {sts:List Stmt} (hs:sd[i]? =some (.own l ds)) (h:PSd X (sd.set i (.val (.lst ds))) sts E):PSd X sd sts E:= .mk fun σ F H S=>by obtain ⟨o,h1,h2,n,xs,q,rl⟩:=S.slots.get hs; have S0:=S.le (iZ sd i); obtain ⟨S1,s1⟩:=S0.freeze q n (tP S.nd hs); have S2:=S1.set (d:= .lst ds) (v:= .ref l) i (by simp only [Rep]; exact ⟨l,xs,rfl,cS,rl.mono s1⟩); rw [nB,pM (by rw [h1,h2])] at S2; exact lft_up s1 (h σ _ H S2)
theorem eG (i:Nat) {x:Str} {p ap cp:Pos} {l:Addr} (hs:sd[i]? =some (.own l ds)) (hx:PE X (.Name x p) (pD i)) (h:PEd X sd e (.val d)) (hl:ds.length≤1000) (hE:E.nx (sd.set i (.own l (ds++[d]))))
  (hst:starEach (e::[]) X.env=(false,eval e X.env)::starEach [] X.env:=by rfl)
  (hm:PE X (.Call (.Attribute (.Name x p) "append" ap) [e] [] cp) (tBM X.K "list" rAppend (pD i) (tCons (wE X e) tNil)):=by exact pe_bm nZ PySem.F.slot_list_append PySem.F.type_list_append mt_append (pv _) (gR hX pa_nil))
  (hsw:swapsWith (.Call (.Attribute (.Name x p) "append" ap) [e] [] cp) none pos.line X.env=pure false:=by rfl):
  PSd1 X sd (.Expr (.Call (.Attribute (.Name x p) "append" ap) [e] [] cp) pos) E:= .mk fun σ F H S=>
 (ps_expr hm hsw).to (by
  obtain ⟨o,h1,h2,n,xs,q,rl⟩:=S.slots.get hs; refine ⟨.ref l,by rw [h1,h2], .inl ⟨rfl,xs, .of q⟩,(h σ F H S).imp fun v H1 ⟨F1,S1,s1,q1⟩=> ?_⟩; obtain ⟨o',h1',h2',n',xs',q',rl'⟩:=S1.slots.get hs
  exact ⟨l,xs',v,rfl,rfl,q',by rw [rl'.len]; exact iA hl,_,F1,S1.wr hs (rl'.app (.one q1)),s1,hE⟩)
theorem wL (i:Nat) {x:Str} {p ap cp:Pos} {l:Addr} {ds2:List D} (hs:sd[i]? =some (.own l ds)) (hx:PE X (.Name x p) (pD i)) (h:PEd X sd e (.val (.lst ds2))) (hl:ds.length+ds2.length≤1000) (hE:E.nx (sd.set i (.own l (ds++ds2))))
  (hst:starEach (e::[]) X.env=(false,eval e X.env)::starEach [] X.env:=by rfl)
  (hm:PE X (.Call (.Attribute (.Name x p) "extend" ap) [e] [] cp) (tBM X.K "list" rExtend (pD i) (tCons (wE X e) tNil)):=by exact pe_bm nZ PySem.F.slot_list_extend PySem.F.type_list_extend mt_extend (pv _) (gR hX pa_nil))
  (hsw:swapsWith (.Call (.Attribute (.Name x p) "extend" ap) [e] [] cp) none pos.line X.env=pure false:=by rfl):
  PSd1 X sd (.Expr (.Call (.Attribute (.Name x p) "extend" ap) [e] [] cp) pos) E:= .mk fun σ F H S=>
 (ps_expr hm hsw).to (by
  obtain ⟨o,h1,h2,n,xs,q,rl⟩:=S.slots.get hs; refine ⟨.ref l,by rw [h1,h2], .inl ⟨rfl,xs, .of q⟩,(h σ F H S).imp fun v H1 ⟨F1,S1,s1,q1⟩=> ?_⟩; obtain ⟨o',h1',h2',n',xs',q',rl'⟩:=S1.slots.get hs; simp only [ResOk,Rep] at q1; obtain ⟨b,zs,rfl,hb,rb⟩:=q1
  exact ⟨l,b,xs',zs,rfl,rfl,q',S1.sub _ _ hb,by rw [rl'.len,rb.len]; exact dP (iA hl),_,F1,S1.wr hs (rl'.app rb),s1,hE⟩)
def spC (K:aB) (n:Nat) (C:List D→R→Prop):Sp:=fun vs H Q _=>vs.length=n∧Smp H∧∃ds r,RepL K H ds vs∧C ds r∧∀v H',RetOk K H H' r v→Q v H'
def spF (K:aB) (n:Nat) (C:List D→R→Prop):Sp:=fun vs H Q _=>vs.length=n∧Smp H∧∃F ds r,Same F H∧RepL K F ds vs∧C ds r∧∀v F2 F3 H',Same F F2→Same F2 F3→Same F3 H'→Same H H'→Smp H'→(∀b o,H b=some o→F b=none→F3 b=none)→ResOk K F2 F3 [] r v→Q v H'
def tZ (F H:Hp):Hp:=fun b=>match F b with
 | some o=>some o
 | none=>H b
theorem uX {F H:Hp}:Same F (tZ F H):=fun b o e=>by unfold tZ; rw [e]
theorem uW {F H:Hp} {b:Addr} (h:F b=none):tZ F H b=H b:=by unfold tZ; rw [h]
theorem FnOk.framed {P:Program} {w:World} {K:aB} {mg:Str→Option Value} {base:Heap} {k n:Nat} {f:Addr} {fd:FuncData} {ps:List Str} {C:List D→R→Prop} (G:FnOk P w K mg base CX0 k f fd ps (spC K n C)):FnOk P w K mg base CX0 k f fd ps (spF K n C):=by
 refine ⟨fun vs H Q E h=> ?_,fun A outer s H args us vs Q E hr e0 hb rv h=> ?_⟩
 ·obtain ⟨hl,sm,F,ds,r,sF,rl,c,_⟩:=h; exact G.len vs F (fun _ _=>True) E ⟨hl,sm.sub sF,ds,r,rl,c,fun _ _ _=>trivial⟩
 ·obtain ⟨hl,sm,F,ds,r,sF,rl,c,q⟩:=h; have e1:Env0 P w K mg base A outer s F:=⟨e0.frames,e0.mod,fun b o e=>⟨(e0.bs b o e).1,sF.free (e0.bs b o e).2⟩,e0.bsz,e0.funs,fun b hb=>sF.free (e0.frf b hb),fun b o e=>(e0.hok b o (sF b o e)).smp (sm b o (sF b o e)),e0.bare⟩; refine codeAny_mono (G.run A outer s F args us vs (fun v F3=>RetOk K F F3 r v) E hr e1 hb rv ⟨hl,sm.sub sF,ds,r,rl,c,fun v H' z=>z⟩) fun rr s' hrr=> ?_
  cases rr with
  | error e=>exact hrr
  | ok fl=>
   cases fl with
   | ret u=>
    obtain ⟨v,F3,ho,ha,un,hk,ru,F2,s1,s2,sm3,res⟩:=hrr
    have keepF:∀b o,H b=some o→F b=none→F3 b=none:=fun b o e n=>by
     have lt:=e0.hok.lt e; cases g:s.heap.get? b with
     | none=>
      exfalso; have ob:=e0.hok b o e; have z:=sm b o e; cases o with
      | lst xs=>obtain ⟨_,_,_,_,g'⟩:=ob; rw [g] at g'; cases g'
      | tup xs=>obtain ⟨_,_,_,oo,g',_⟩:=ob; rw [g] at g'; cases g'
      | dK kvs=>obtain ⟨_,_,_,_,oo,_,_,g',_⟩:=ob; rw [g] at g'; cases g'
      | frz o2 u2=>obtain ⟨g',_⟩:=ob; rw [g] at g'; cases g'
      | ext φ=>obtain ⟨_,⟨oo,g'⟩,_⟩:=ob; rw [g] at g'; cases g'
      | _=>exact z
     | some ob=>exact un.free b ob g n (by simp)
    have keepO:∀b o,H b=some o→F b=none→∀ob,s.heap.get? b=some ob→s'.heap.get? b=some ob:=fun b o e n ob g=>un.keep b ob g n (fun hb=>by have:=e0.frf b hb; rw [e] at this; cases this) (by simp)
    have sH:Same H (tZ F3 H):=fun b o e=>by
     cases g:F b with
     | none=>rw [uW (keepF b o e g)]; exact e
     | some o'=>have:=sF b o' g; rw [e] at this; cases this; exact uX _ _ (s2 _ _ (s1 _ _ g))
    have smM:Smp (tZ F3 H):=fun b o e=>by
     cases g:F3 b with
     | some o'=>have:=uX (H:=H) b o' g; rw [e] at this; cases this; exact sm3 b o g
     | none=>rw [uW g] at e; exact sm b o e
    refine ⟨v,tZ F3 H,ho,ha,⟨fun b o g n hb hx=>un.keep b o g (sF.free n) hb hx,fun b o g n hb hx=>un.slot b o g (sF.free n) hb hx,fun b o g n hx=> ?_,un.there,fun b xs e=>sH _ _ e,fun b o u e=>sH _ _ e,fun b ps e=>⟨#[],by rw [sH _ _ e]; simp⟩⟩,fun b o e=> ?_,ru, ?_⟩
    ·rw [uW (un.free b o g (sF.free n) hx)]; exact n
    ·have z:=smM b o e; cases g:F3 b with
     | some o'=>have:=uX (H:=H) b o' g; rw [e] at this; cases this; exact (hk b o g).smp z
     | none=>
      rw [uW g] at e
      have n:F b=none:=by
       cases g2:F b with
       | none=>rfl
       | some o2=>rw [s2 _ _ (s1 _ _ g2)] at g; cases g
      have st:=(e0.hok b o e).smp (F:=fun _=>none) z
      have:ObjOk P w (fun _=>none) s'.heap b o:=st.stay (fun b2 u hb2 gg=>by
       rcases hb2 with rfl | hb2
       ·exact keepO _ o e n u gg
       ·cases hb2) (fun b2 hb2=>nomatch hb2) fun b2 xs hb2=>nomatch hb2
      exact this.smp z
    ·exact q v F2 F3 (tZ F3 H) s1 s2 uX sH smM keepF res
   | _=>exact hrr
structure dC (P:Program) (w:World) (K:aB) (mg:Str→Option Value) (base:Heap) (x:Str) (k n:Nat) (C:List D→R→Prop):Prop where
 ex:∃ (f:Addr) (fd:FuncData) (ps:List Str),mg x=some (.ref f)∧bL K (.ref f)=true∧Binds K fd ps []∧FnOk P w K mg base CX0 k f fd ps (spC K n C)
theorem dI {x:Str} {p:Pos} {k n:Nat} {C:List D→R→Prop} (G:dC X.prog X.w X.K X.mg X.base x k n C) (hr:Room k X.A) (hg:Gl X x) (ha:PAd X sd (e::es) (ds.map R.val)) (hc:C ds r) (hb:match r with | .bor _=>False | _=>True) (hn:ds.length=n)
  (hdb:(x==("__debug__":Str))=false:=by decide) (he:starEach (e::es) X.env=(false,eval e X.env)::starEach es X.env:=by rfl) (hpl:(backTo pos (starEach es X.env)).any (·.1)=false:=by rfl):
  PEd X sd (.Call (.Name x p) (e::es) [] pos) r:= .mk fun σ F H S=>by
 obtain ⟨f,fd,ps,hm,hk,bd,G⟩:=G.ex; refine (pe_call (FnOk.framed G) hr hg hm hk bd .nil pass0 wF hdb he hpl).to ((ha σ F H S).imp fun vs H1 ⟨F1,S1,s1,q1⟩=> ?_); have rl:=q1.vals; refine ⟨by rw [dR,rl.len]; exact hn,S1.smp,F1,ds,r,S1.sub,by rw [dR]; exact rl,hc,fun v F2 F3 H' s2 s3 s4 sH sm kp res=> ?_⟩
 have no:∀l,l∈cM sd→F2 l=none∧F3 l=none:=fun l hl=>by obtain ⟨n1,xs,q,_⟩:=S1.slots.owns hl; have n3:=kp l _ q n1; exact ⟨s3.free n3,n3⟩
 refine ⟨F2,⟨fun b o e=>s2 _ _ (S1.base _ _ e),s3.trans s4,sm,S1.slots.mono s2 fun l hl=>⟨(no l hl).1,fun ys e=>sH _ _ e⟩,S1.nd⟩,s1.trans s2, ?_⟩; cases r with
 | val d=>exact res
 | own ds'=>obtain ⟨l,xs,e,n,q,rl',_⟩:=res; exact ⟨l,xs,e,n,s4 _ _ q,rl',fun hl=>by rw [(no l hl).2] at q; cases q⟩
 | pr d ls=>obtain ⟨t,l,xs,y,e,f,g,n,q,rl',_⟩:=res; exact ⟨t,l,xs,y,e,f,g,n,s4 _ _ q,rl',fun hl=>by rw [(no l hl).2] at q; cases q⟩
 | ox G=>obtain ⟨ls,nd,h,g⟩:=res; refine ⟨ls,nd,fun l hl=> ?_,fun F' H'' sF k=>g F' H'' sF fun l hl ob q=>k l hl ob (s4 _ _ q)⟩; obtain ⟨n,⟨ob,q,w⟩,_⟩:=h l hl; exact ⟨n,⟨ob,s4 _ _ q,w⟩,fun hm=>by rw [(no l hm).2] at q; cases q⟩
 | bor ds'=>exact hb.elim
def R.toD:R→D
 | .val d=>d
 | .own ds=> .lst ds
 | .bor ds=> .lst ds
 | .pr d ls=> .tup [d, .lst ls]
 | .ox _=> .non
def init (n:Nat) (ds:List D):List Slot:=ds.map Slot.val++eD (n - ds.length) .un
theorem slots_un {K:aB} {F H:Hp}:∀n:Nat,SlotsOk K F H (eD n .un) (eD n none)
 | 0=>rfl
 | n+1=>⟨none,eD n none,rfl,trivial,slots_un n⟩
theorem qU {K:aB} {F H:Hp} {m n:Nat}:∀ {ds:List D} {vs:List V},RepL K F ds vs→SlotsOk K F H (ds.map Slot.val++eD n .un) (vs.map some++eD n none)
 | [],vs,r=>by simp only [RepL] at r; subst r; exact slots_un n
 | d::ds,vs,r=>by obtain ⟨y,ys,rfl,a,rl⟩:=r.uncons; exact ⟨some y,_,rfl,⟨y,rfl,a⟩,qU (m:=m) rl⟩
theorem qV (n:Nat):∀ds:List D,cM (ds.map Slot.val++eD n .un)=[]
 | []=>by
  induction n with
  | zero=>rfl
  | succ n ih=>exact ih
 | _::ds=>qV n ds
theorem def_fn {P:Program} {w:World} {K:aB} {mg:Str→Option Value} {base:Heap} {x qual:Str} {st:Stmt} {f:Addr} {fd:FuncData} {N ps:List Str} {k:Nat} {C:List D→R→Prop} (F:Fun K x qual st f fd) (S:oI N ps (bJ st))
  (body:∀ (cdv:Value) (A:Around) (outer:List Env) (s:Shared) (H:Hp) (E:XK),Room k (A.deeper (envOfC qual (bJ st) s.heap.objs.size f cdv))→∀ds r,ds.length=ps.length→C ds r→
   PSd (pA CX0 P w K mg base N qual (bJ st) f cdv A outer s H E).nox (init N.length ds) (dG st) {nx:=fun _=>r= .val .non,rt:=fun r'=>r'=r}):FnOk P w K mg base CX0 (k+1) f fd ps (spC K ps.length C):=by
 refine F.ok S (fun vs H Q E h=>h.1) fun cdv A outer s H vs Q E hr h=> ?_
 obtain ⟨hl,sm,ds,r,rl,c,q⟩:=h; have hds:ds.length=ps.length:=by rw [← rl.len]; exact hl
 refine ⟨_,vT, ?_⟩; have hlen:N.length - vs.length=N.length - ds.length:=by rw [rl.len]
 have S0:StF K H H H (L2.start N vs) (init N.length ds):=by
  refine ⟨Same.refl _,Same.refl _,sm, ?_, ?_⟩
  ·unfold L2.start init; rw [hlen]; exact qU (m:=0) rl
  ·unfold init; rw [qV]; exact eK
 refine (body cdv A outer s H E hr ds r hds c (L2.start N vs) H H S0).imp ?_ ?_ (fun _ _ ⟨_,_,_,_,z⟩=>z) fun _ _ ⟨_,_,_,_,z⟩=>z
 ·rintro σ' H' ⟨sd',F',S',s',e⟩; have e:r= .val .non:=e; subst e; exact q .non H' ⟨F',S'.base,S'.sub,S'.smp,by simp only [ResOk,Rep]⟩
 ·rintro v H' ⟨r',ro,e⟩; have e:r'=r:=e; subst e; exact q v H' ro
theorem gL {P:Program} {w:World} {K:aB} {mg:Str→Option Value} {base:Heap} {x qual:Str} {st:Stmt} {f:Addr} {fd:FuncData} {N ps:List Str} {k:Nat} {C:List D→R→Prop} (F:Fun K x qual st f fd) (S:oI N ps (bJ st))
  (hm:mg x=some (.ref f)) (hb:∀ (kV doc pm:Value) (an:Option Addr) (cdv ct:Value) (us:List Value),us.length=ps.length→bindArgs (bQ x qual (dY st) (dG st) (bJ st) .none kV doc pm an cdv ct) ⟨us,[]⟩=pure (ps.zip us))
  (body:∀ (cdv:Value) (A:Around) (outer:List Env) (s:Shared) (H:Hp) (E:XK),Room k (A.deeper (envOfC qual (bJ st) s.heap.objs.size f cdv))→∀ds r,ds.length=ps.length→C ds r→
   PSd (pA CX0 P w K mg base N qual (bJ st) f cdv A outer s H E).nox (init N.length ds) (dG st) {nx:=fun _=>r= .val .non,rt:=fun r'=>r'=r}):dC P w K mg base x (k+1) ps.length C:=
 ⟨f,fd,ps,hm,F.kp,F.binds hb,def_fn F S body⟩
end
section
variable {X:Cx} {sd:List Slot} {e a b c tg iter:Expr} {es:List Expr} {pos:Pos} {r ra rb:R} {d:D} {ds:List D} {st:Stmt} {rest:List Stmt} {E:jX}
def ItD (K:aB) (F₁:Hp) (P:Hp→Hp→Prop) (J:It) (ds:List D):Prop:=∀ (F H:Hp),Same F₁ F→Same F H→Smp H→P F H→∀i,(i<ds.length→J.go i H)∧(ds.length≤i→J.stop i H)∧
 ∀x H' d,ds[i]? =some d→J.yld i H x H'→∃F',Same F F'∧Rep K F' d x∧∀H₀ σ sd,StF K H₀ F H σ sd→StF K H₀ F' H' σ sd
abbrev PT0:Hp→Hp→Prop:=fun _ _=>True
structure PId (X:Cx) (sd:List Slot) (P:Hp→Hp→Prop) (tg iter:Expr) (ds:List D):Prop where
 run:∀ (σ:St) (F H:Hp),StF X.K X.B₀ F H σ sd→
 wI X tg iter σ H fun J H1=>∃F1,StF X.K X.B₀ F1 H1 σ sd∧Same F F1∧ItD X.K F1 P J ds
instance {X:Cx} {sd:List Slot} {P:Hp→Hp→Prop} {tg iter:Expr} {ds:List D}:CoeFun (PId X sd P tg iter ds) (fun _=>∀ (σ:St) (F H:Hp),StF X.K X.B₀ F H σ sd→
 wI X tg iter σ H fun J H1=>∃F1,StF X.K X.B₀ F1 H1 σ sd∧Same F F1∧ItD X.K F1 P J ds):=⟨PId.run⟩
theorem _root_.L2.PI.to {wi:TI} {σ:St} {H:Hp} {R:It→Hp→Prop} (h:PI X tg iter wi) (q:wi σ H R):wI X tg iter σ H R:=fun pins s I=>h pins s σ H R I q
theorem nV (h:PEd X sd iter (.val (.lst ds))):PId X sd PT0 tg iter ds:= .mk fun σ F H S=>
 (pi_list hX).to ((h σ F H S).imp fun v H1 ⟨F1,S1,s1,q1⟩=>by
  simp only [ResOk,Rep] at q1; obtain ⟨l,xs,rfl,hl,rl⟩:=q1; refine ⟨l,rfl,⟨xs, .of (S1.sub _ _ hl)⟩,F1,S1,s1,fun F' H' sF sH sm _ i=> ?_⟩; have hl':=sH _ _ (sF _ _ hl); refine ⟨fun hi=>⟨xs,xs[i]'(by rw [rl.len]; exact hi), .of hl',by simp [rl.len,hi]⟩,fun hi=>⟨xs, .of hl',by rw [rl.len]; exact hi⟩,fun x H2 d hd y=> ?_⟩; obtain ⟨rfl,y⟩:=y; obtain ⟨v,hv,rv⟩:=rl.get hd; have:=y xs (.of hl'); rw [hv] at this; cases this
  exact ⟨F',Same.refl _,rv.mono sF,fun _ _ _ S=>S⟩)
theorem pid_tup (h:PEd X sd iter (.val (.tup ds))):PId X sd PT0 tg iter ds:= .mk fun σ F H S=>
 (pi_tup hX).to ((h σ F H S).imp fun v H1 ⟨F1,S1,s1,q1⟩=>by
  simp only [ResOk,Rep] at q1; obtain ⟨l,xs,rfl,hl,rl⟩:=q1; refine ⟨l,rfl,⟨xs, .of (S1.sub _ _ hl)⟩,F1,S1,s1,fun F' H' sF sH sm _ i=> ?_⟩; have hl':=sH _ _ (sF _ _ hl); refine ⟨fun hi=>⟨xs,xs[i]'(by rw [rl.len]; exact hi), .of hl',by simp [rl.len,hi]⟩,fun hi=>⟨xs, .of hl',by rw [rl.len]; exact hi⟩,fun x H2 d hd y=> ?_⟩; obtain ⟨rfl,y⟩:=y; obtain ⟨v,hv,rv⟩:=rl.get hd; have:=y xs (.of hl'); rw [hv] at this; cases this
  exact ⟨F',Same.refl _,rv.mono sF,fun _ _ _ S=>S⟩)
def gW (lo:Int) (n:Nat):List D:=(bR n).map fun (k:Nat)=>D.int (lo+(k:Int))
theorem fY (lo:Int) (n:Nat):(gW lo n).length=n:=by simp [gW]
theorem gA {lo:Int} {n i:Nat} {d:D} (h:(gW lo n)[i]? =some d):i<n∧d= .int (lo+(i:Int)):=by
 unfold gW at h; rw [cI] at h
 by_cases hi:i<n
 ·rw [jP hi] at h; exact ⟨hi,(cA.inj h).symm⟩
 ·rw [dN (by simpa using hi)] at h; cases h
theorem itd_range {K:aB} {F₁:Hp} {lo:Int} {n:Nat}:ItD K F₁ PT0 (Itr lo n) (gW lo n):=fun F H _ _ _ _ i=>by refine ⟨fun hi=>by rw [fY] at hi; exact hi,fun hi=>by rw [fY] at hi; exact hi,fun x H' d hd y=> ?_⟩; obtain ⟨rfl,rfl⟩:=y; obtain ⟨_,rfl⟩:=gA hd; exact ⟨F,Same.refl _,by simp only [Rep],fun _ _ _ S=>S⟩
theorem iJ {p:Pos} {n:Nat} (hg:Gl X "range") (hm:X.mg "range"=none) (h:PEd X sd a (.val (.int (n:Int)))) (hn:(n:Int)<2^62) (hs:starEach [a] X.env=[(false,eval a X.env)]:=by rfl):PId X sd PT0 tg (.Call (.Name "range" p) [a] [] pos) (gW 0 n):= .mk fun σ F H S=>
 (pi_range1 hg hm wF hs).to ((aH h bF trivial hs σ F H S).imp fun vs H1 ⟨F1,S1,s1,q1⟩=>by
  cases q1 with
  | cons q1 q2=>
   cases q2; simp only [ResOk,Rep] at q1; subst q1
   exact ⟨(n:Int),rfl,by omega,hn,F1,S1,s1,by rw [eE]; exact itd_range⟩)
structure PGd (X:Cx) (sd:List Slot) (tg:Expr) (d:D) (sd':List Slot):Prop where
 run:∀ (σ:St) (F H:Hp) (v:V),StF X.K X.B₀ F H σ sd→Rep X.K F d v→wG X tg v σ H fun σ' H'=>∃F',StF X.K X.B₀ F' H' σ' sd'∧Same F F'
instance {X:Cx} {sd:List Slot} {tg:Expr} {d:D} {sd':List Slot}:CoeFun (PGd X sd tg d sd') (fun _=>∀ (σ:St) (F H:Hp) (v:V),StF X.K X.B₀ F H σ sd→Rep X.K F d v→wG X tg v σ H fun σ' H'=>∃F',StF X.K X.B₀ F' H' σ' sd'∧Same F F'):=⟨PGd.run⟩
theorem _root_.L2.PG.to {t:TG} {v:V} {σ:St} {H:Hp} {Q:St→Hp→Prop} (h:PG X tg t) (q:t v σ H Q):wG X tg v σ H Q:=fun pins s u I r=>h pins s σ H v u Q I r q
theorem fU (j:Nat) (h:PG X tg (gName j)):PGd X sd tg d (sd.set j (.val d)):= .mk fun σ F H v S q=>h.to ⟨F,S.set j q,Same.refl _⟩
def gNs:List Nat→TGs
 | []=>gNil
 | j::js=>gCons (gName j) (gNs js)
def setAll:List Slot→List Nat→List D→List Slot
 | sd,j::js,d::ds=>setAll (sd.set j (.val d)) js ds
 | sd,_,_=>sd
theorem gNs_ok {K:aB} {H₀ F H:Hp} {Q:St→Hp→Prop}:∀ {js:List Nat} {ds:List D} {vs:List V} {σ:St} {sd:List Slot},js.length=ds.length→RepL K F ds vs→StF K H₀ F H σ sd→(∀σ',StF K H₀ F H σ' (setAll sd js ds)→Q σ' H)→gNs js vs σ H Q
 | [],[],vs,σ,sd,_,r,S,k=>by simp only [RepL] at r; exact ⟨r,k σ S⟩
 | j::js,d::ds,vs,σ,sd,hl,r,S,k=>by obtain ⟨y,ys,rfl,q,rl⟩:=r.uncons; exact ⟨y,ys,rfl,gNs_ok (by simpa using hl) rl (S.set j q) k⟩
 | [],_::_,_,_,_,hl,_,_,_=>by simp at hl
 | _::_,[],_,_,_,hl,_,_,_=>by simp at hl
theorem qG {k:Nat} {js:List Nat} (hc:X.calm=true) (h:PGs X es (gNs js)) (hl:js.length=ds.length) (hn:(assignEach es X.env).length=ds.length) (hst:(assignEach es X.env).findIdx? (·.1)=none:=by rfl):PGd X sd (.Tuple es k pos) (.tup ds) (setAll sd js ds):= .mk fun σ F H v S q=>
 (pg_tup hc h hn hst).to (by
  simp only [Rep] at q; obtain ⟨a,xs,rfl,ha,rl⟩:=q
  exact ⟨a,xs,rfl, .of (S.sub _ _ ha),rl.len,gNs_ok hl rl S fun σ' S'=>⟨F,S',Same.refl _⟩⟩)
theorem yU {prog:Program} {w:World} {A:Around} {E:Value→Shared→Prop} {it t:Addr} {items:Array Value} (hne:t≠it):∀ (n i:Nat) (s:Shared) (Q:List Value→Shared→Prop),s.heap.IsListIter it t i→s.heap.IsList t items→i+n≤items.size→
  (∀h',h'.IsListIter it t (i+n)→Heap.SameBut it s.heap h'→Q ((items.toList.drop i).take n) {s with heap:=h'})→wpAny (model prog w) A (draw (.ref it) n) Q E s
 | 0,i,s,Q,hit,_,_,hQ=>by show wpAny _ _ (pure []) Q E s; exact wpAny_pure (by simpa using hQ s.heap hit (Heap.SameBut.refl ..))
 | n+1,i,s,Q,hit,ht,hle,hQ=>by
  have hlt:i<items.size:=by omega
  show wpAny _ _ (pyNext (.ref it)>>=_) Q E s; refine wpAny_bind (wpAny_pyNext_list_item hit ht (x:=items[i]) (by simp [hlt]) fun h₁ hit₁ hs₁=> ?_); refine wpAny_bind (wpAny_holding (yU hne n (i+1) _ _ hit₁ (ht.extBut hs₁.extBut hne) (by omega) fun h₂ hit₂ hs₂=>wpAny_pure ?_)); have hd:items.toList.drop i=items[i]::items.toList.drop (i+1):=by simp [eI,hlt]
  have:=hQ h₂ (by rw [show i+(n+1)=i+1+n by omega]; exact hit₂) (hs₁.trans hs₂); rw [hd,rA] at this; exact this
theorem unpack_list {prog:Program} {w:World} {A:Around} {E:Value→Shared→Prop} {s:Shared} {t:Addr} {items:Array Value} {Q:List Value→Shared→Prop} (hh:A.handled=none) (ht:s.heap.IsList t items)
  (hQ:∀h',Heap.ExtBut s.heap.objs.size s.heap h'→Q items.toList {s with heap:=h'}):wpAny (model prog w) A (unpackItems (.ref t) items.size none) Q E s:=by
 have hlt:t≠s.heap.objs.size:=by obtain ⟨o,ho,_⟩:=ht; exact bH (aI ho)
 unfold unpackItems; refine wpAny_bind ?_; unfold notIterableAtAll; refine wpAny_bind (wpAny_specialOf ht.typeIs slot_list_iter.lookup ?_); refine wpAny_pure ?_; simp only [aK,if_false]; refine wpAny_bind (wpAny_holding (wpAny_pyIter_list ht ?_)); refine wpAny_bind (wpAny_holding (yU hlt items.size 0 _ _ ⟨_,aV _ rfl,rfl,rfl⟩ (ht.at fun o e=>aA _ e) (by omega) fun h₁ hit₁ hs₁=> ?_))
 have hall:List.take items.size (List.drop 0 items.toList)=items.toList:=by rw [List.drop_zero]; exact fO (by simp)
 rw [hall]; rw [if_neg (by simp)]; have ht₁:h₁.IsList t items:=(ht.at fun o e=>aA _ e).extBut hs₁.extBut hlt; refine wpAny_bind (wpAny_holding (wpAny_pyNext_list_end hh hit₁ ht₁ (by simp) fun h₂ he₂=> ?_)); simp only [Option.isSome_none,aK,if_false]; exact wpAny_pure (hQ h₂ fun b o hb e=>he₂ b o hb (hs₁.extBut b o hb (aA _ e)))
def gLst (K:aB) (n:Nat) (t:TGs):TG:=fun v σ H Q=>∃a xs,v= .ref a∧SqL K H a xs∧xs.length=n∧t xs σ H Q
theorem pg_lst {k:Nat} {t:TGs} {n:Nat} (hc:X.calm=true) (h:PGs X es t)
  (hn:(assignEach es X.env).length=n:=by rfl) (hst:(assignEach es X.env).findIdx? (·.1)=none:=by rfl):PG X (.Tuple es k pos) (gLst X.K n t):=by
 intro pins s σ H v u Q I r hw; obtain ⟨a,xs,e1,hq,hl,hw⟩:=hw; subst e1; cases r; obtain ⟨its,rv,ht,hz⟩:=I.list hq; rw [PyProof.Rows.assign_Tuple]; refine wpAny_bind (wpAny_standAt ?_); unfold unpack; have e2:(assignEach es X.env).length=its.toArray.size:=by rw [hn,← hl,rv.length]; simp
 rw [e2,hst]; refine wpAny_bind (wpAny_holding (unpack_list (I.ok.hd hc) ht.isList fun h' hx=> ?_)); have I1:Inv X pins σ H {s with heap:=h'}:=I.kept (t':=s.toks) fun b o e=>hx b o (bH (aI e)) e
 exact h pins _ σ H xs _ Q I1 (by simpa using rv) hw
theorem pgd_lst {k:Nat} {js:List Nat} (hc:X.calm=true) (h:PGs X es (gNs js)) (hl:js.length=ds.length) (hn:(assignEach es X.env).length=ds.length) (hst:(assignEach es X.env).findIdx? (·.1)=none:=by rfl):PGd X sd (.Tuple es k pos) (.lst ds) (setAll sd js ds):= .mk fun σ F H v S q=>
 (pg_lst hc h hn hst).to (by
  simp only [Rep] at q; obtain ⟨a,xs,rfl,ha,rl⟩:=q
  exact ⟨a,xs,rfl, .of (S.sub _ _ ha),rl.len,gNs_ok hl rl S fun σ' S'=>⟨F,S',Same.refl _⟩⟩)
theorem psd_asg {sd':List Slot} (h:PEd X sd e (.val d)) (hg:PGd X sd tg d sd') (hE:E.nx sd') (hs:swapsWithSole [tg] e pos.line X.env=pure false:=by rfl) (hw:swappedStores [tg] e X.env=pure none:=by rfl)
  (h1:(assignEach [tg] X.env).map (·.2)=[assign tg X.env]:=by rfl):PSd1 X sd (.Assign [tg] e pos) E:= .mk fun σ F H S=>
 (xN hX pg_w hs hw h1).to ((h σ F H S).imp fun v H1 ⟨F1,S1,s1,q1⟩=>(hg σ F1 H1 v S1 q1).imp fun σ' H' ⟨F',S',s'⟩=>⟨sd',F',S',s1.trans s',hE⟩)
theorem jA {body:List Stmt} {P:Hp→Hp→Prop} (Sd Td:Nat→List Slot) (hi:PId X sd P tg iter ds) (h0:Le sd (Sd 0)) (hg:∀k d,ds[k]? =some d→PGd X (Sd k) tg d (Td k))
  (hb:∀k d,ds[k]? =some d→PSd X (Td k) body {E with nx:=fun sd'=>Le sd' (Sd (k+1)),ct:=fun sd'=>Le sd' (Sd (k+1)),bk:=E.nx}) (hE:E.nx (Sd ds.length)) (hP:∀k σ F H,StF X.K X.B₀ F H σ (Sd k)→P F H:=by intros; trivial)
  (hc:X.calm=true:=by rfl) (hp:PassesOwn (model X.prog X.w) X.A X.env X.xe:=by exact PassesOwn.never) (hs:∀x,foldedSetIterable iter X.env x=pure x:=by intro _; rfl):PSd1 X sd (.For tg iter body [] pos) E:= .mk fun σ F H S=>
 (ps_for hp hc pi_w pg_w vT hs).to (by
  intro pins s I; refine thn (hi σ F H S pins s I) fun v s1 h1=>thn h1 fun itv s2 h2=> ?_
  obtain ⟨it,fp,tn,J,H2,e,I2,T,st2,f2,F1,S1,s1',itd⟩:=h2; refine ⟨it,fp,tn,J,H2,e,I2,T,st2,f2, ?_⟩; refine ⟨fun i m σ' H'=>m=ds.length - i∧i≤ds.length∧∃F',StF X.K X.B₀ F' H' σ' (Sd i)∧Same F1 F',⟨ds.length,by simp,bO _,F1,S1.le h0,Same.refl _⟩, ?_⟩; rintro i m σ' H' ⟨rfl,hil,F',S',s'⟩; obtain ⟨g1,g2,g3⟩:=itd F' H' s' S'.sub S'.smp (hP _ _ _ _ S') i
  by_cases hlt:i<ds.length
  ·refine .inr ⟨g1 hlt,fun σ2 H2=>∃F2,StF X.K X.B₀ F2 H2 σ2 (Sd (i+1))∧Same F1 F2,fun σ2 H2 ⟨F2,S2,s2⟩=>⟨ds.length - (i+1),by omega,rfl,hlt,F2,S2,s2⟩,fun x H2 y=> ?_⟩; have hd:ds[i]? =some ds[i]:=by simp [hlt]
   obtain ⟨F2,s2,rp,up⟩:=g3 x H2 ds[i] hd y; refine (hg i _ hd σ' F2 H2 x (up _ _ _ S') rp).imp fun σ3 H3 ⟨F3,S3,s3⟩=> ?_
   have base:Same F1 F3:=(s'.trans s2).trans s3; refine (hb i _ hd σ3 F3 H3 S3).imp ?_ ?_ ?_ ?_
   ·rintro σ4 H4 ⟨sd4,F4,S4,s4,le⟩; exact ⟨F4,S4.le le,base.trans s4⟩
   ·exact fun v H4 q=>q
   ·rintro σ4 H4 ⟨sd4,F4,S4,s4,q⟩; exact ⟨sd4,F4,S4,(s1'.trans base).trans s4,q⟩
   ·rintro σ4 H4 ⟨sd4,F4,S4,s4,le⟩; exact ⟨F4,S4.le le,base.trans s4⟩
  ·have e:i=ds.length:=by omega
   subst e
   exact .inl ⟨g2 (aN _),Sd ds.length,F',S',s1'.trans s',hE⟩)
theorem Inv.retrack {pins:List (Addr × Obj)} {σ:St} {H F:Hp} {s s':Shared} (I0:Inv X pins σ H s):∀ (ls:List Addr),ls.Nodup→(∀l∈ls,F l=none∧(∃xs,H l=some xs∧Wr l xs)∧∀o,s.heap.get? l=some o→s'.heap.get? l=some o)→Inv X pins σ F s'→Inv X pins σ (fun b=>if b∈ls then H b else F b) s'
 | [],_,_,I=>by simpa using I
 | l::ls,nd,h,I=>by
  obtain ⟨nl,nd'⟩:=cV.mp nd; have J:=Inv.retrack I0 ls nd' (fun l' hl=>h l' (aM _ hl)) I; obtain ⟨n,⟨xs,hx,wx⟩,kp⟩:=h l aO
  have e:(fun b=>if b∈l::ls then H b else F b)=upd (fun b=>if b∈ls then H b else F b) l xs:=by
   funext b; unfold upd
   by_cases hb:b=l
   ·subst hb; simp [hx]
   ·simp [hb]
  rw [e]; have n':(fun b=>if b∈ls then H b else F b) l=none:=by simp [nl,n]
  have ob:=I0.hok l _ hx; clear e; generalize (fun b=>if b∈ls then H b else F b)=G at J n' ⊢; refine ⟨J.ok,J.os,J.bare,⟨J.base.keep,J.base.slot,fun b u g n0 hx0=> ?_,J.base.there,fun b ys g=> ?_,fun b u ys g=> ?_,fun b ps g=> ?_⟩,J.loc,J.cell, ?_,fun x c g=> ?_,fun p hp=> ?_,J.hok.track n' ?_,J.len⟩
  ·have hb:b≠l:=fun q=>by subst q; have:=I0.base.free b u g n0 hx0; rw [hx] at this; cases this
   rw [bW hb]; exact J.base.free b u g n0 hx0
  ·have q:=J.base.tups b ys g; rw [bW (cP q n')]; exact q
  ·have q:=J.base.frzs b u ys g; rw [bW (cP q n')]; exact q
  ·obtain ⟨m,q⟩:=J.base.tbls b ps g; exact ⟨m,by rw [bW (cP q n')]; exact q⟩
  ·rw [bW (fun q=>by have:=I0.free; rw [q,hx] at this; cases this)]; exact J.free
  ·rw [bW (fun q=>by have:=I0.freeC x c g; rw [q,hx] at this; cases this)]; exact J.freeC x c g
  ·obtain ⟨g,n0,rr⟩:=J.pin p hp; refine ⟨g, ?_,rr⟩; rw [bW (fun q=>by have:=(I0.pin p hp).2.1; rw [q,hx] at this; cases this)]; exact n0
  ·cases xs with
   | lst xs=>obtain ⟨z,its,nn,rv,ho⟩:=ob; exact ⟨z,its,nn,rv,kp _ ho⟩
   | dK kvs=>obtain ⟨z,y,vs,r,o,es,ep,e,c⟩:=ob; exact ⟨z,y,vs,r,o,es,ep,kp _ e,c⟩
   | ext φ=>obtain ⟨h1,⟨o1,h2⟩,h3⟩:=ob; exact ⟨h3 _ _ h1 kp,⟨o1,kp _ h2⟩,h3⟩
   | _=>exact wx.elim
theorem wr_obj {P:Program} {w:World} {H:Hp} {h:Heap} {l:Addr} {xs:HO} (wx:Wr l xs) (q:H l=some xs) (ok:ObjOk P w H h l xs):∃ys o,H l=some ys∧Wr l ys∧h.get? l=some o∧∀v,o.data≠ .cell v:=by
 cases xs with
 | lst xs=>obtain ⟨_,its,nn,_,ho⟩:=ok; exact ⟨_,_,q,trivial,ho,fun v z=>by cases z⟩
 | dK kvs=>obtain ⟨_,_,_,_,o,es,ep,e,_,d,_⟩:=ok; exact ⟨_,_,q,trivial,e,fun v z=>by rw [d] at z; cases z⟩
 | ext φ=>obtain ⟨o,e,n⟩:=id wx; subst e; exact ⟨_,o,q,wx,ok.1,n⟩
 | _=>exact wx.elim
theorem wE_frame {σ:St} {F H:Hp} (S:StF X.K X.B₀ F H σ sd) (hr:match r with | .bor _=>False | _=>True) (h:wE X e σ F fun v F3=>RetOk X.K F F3 r v):wE X e σ H fun v H'=>∃F',StF X.K X.B₀ F' H' σ sd∧Same F F'∧ResOk X.K F' H' sd r v:=fun pins s I=>by
 have I1:Inv X pins σ F s:=I.less S.sub S.base (S.smp.sub S.sub)
 have ob:∀l∈cM sd,∃xs o,H l=some xs∧Wr l xs∧s.heap.get? l=some o∧∀v,o.data≠ .cell v:=fun l hl=>by obtain ⟨n,xs,q,wx⟩:=S.slots.owns hl; exact wr_obj wx q (I.hok l _ q)
 have I2:Inv X (pins++lH (cM sd) s.heap) σ F s:=I1.pins_of fun p hp=>(aY.mp hp).elim (fun z=>I1.pin p (aG _ z)) fun z=>by
  obtain ⟨hb,g⟩:=qF z; obtain ⟨xs,o,q,_,ho,hc⟩:=ob p.1 hb; rw [g] at ho; cases ho; refine ⟨g,(S.slots.owns hb).1,fun y=> ?_,fun y=> ?_,hc⟩
  ·have:=I.free; rw [← y,q] at this; cases this
  ·obtain ⟨_,o',ho',_⟩:=I.ok.funs.mem y; have:=I.base.free p.1 o' ho' (I.ok.frf p.1 y) fun z=>I.ok.exfs p.1 z y
   rw [q] at this; cases this
 refine thn (h _ s I2) fun u s' ⟨v,F3,I3,rv,F2,s1,s2,sm3,res⟩=> ?_
 have kp:∀l∈cM sd,F3 l=none∧(∃xs,H l=some xs∧Wr l xs)∧∀o,s.heap.get? l=some o→s'.heap.get? l=some o:=fun l hl=>by obtain ⟨xs,o,q,wx,ho,_⟩:=ob l hl; have:=I3.pin (l,o) (aG _ (aG _ (iU hl ho))); exact ⟨this.2.1,⟨xs,q,wx⟩,fun o' g=>by rw [ho] at g; cases g; exact this.1⟩
 have I4:=Inv.retrack I (cM sd) S.nd kp I3.unpinned; refine ⟨v,_,I4,rv,F2,⟨fun b o g=>s1 _ _ (S.base _ _ g),fun b o g=> ?_,fun b o g=> ?_,S.slots.mono s1 fun l hl=>⟨s2.free (kp l hl).1,fun xs g=>by simpa [hl] using g⟩,S.nd⟩,s1, ?_⟩
 ·have g3:=s2 _ _ g; have:b∉cM sd:=fun hb=>by rw [(kp b hb).1] at g3; cases g3
  simp [this,g3]
 ·by_cases hb:b∈cM sd
  ·simp [hb] at g; exact S.smp _ _ g
  ·simp [hb] at g; exact sm3 _ _ g
 ·cases r with
  | val d=>exact res
  | own ds'=>
   obtain ⟨l,xs,e,n,q,rl',_⟩:=res; have:l∉cM sd:=fun hl=>by rw [(kp l hl).1] at q; cases q
   exact ⟨l,xs,e,n,by simp [this,q],rl',this⟩
  | pr d ls=>
   obtain ⟨t,l,xs,y,e,f,g,n,q,rl',_⟩:=res; have:l∉cM sd:=fun hl=>by rw [(kp l hl).1] at q; cases q
   exact ⟨t,l,xs,y,e,f,g,n,by simp [this,q],rl',this⟩
  | ox G=>
   obtain ⟨ls,nd,h,g⟩:=res
   have no:∀l∈ls,l∉cM sd:=fun l hl hm=>by obtain ⟨n,⟨ob,q,w⟩,_⟩:=h l hl; rw [(kp l hm).1] at q; cases q
   refine ⟨ls,nd,fun l hl=> ?_,fun F' H' sF k=>g F' H' sF fun l hl ob q=>k l hl ob (by simp [no l hl,q])⟩; obtain ⟨n,⟨ob,q,w⟩,_⟩:=h l hl; exact ⟨n,⟨ob,by simp [no l hl,q],w⟩,no l hl⟩
  | bor ds'=>exact hr.elim
def capS:Option Slot→Slot
 | some (.val d)=> .val d
 | some (.ox [] G)=> .ox [] G
 | _=> .un
def jL (cap:List (Option Nat)) (sd:List Slot):List Slot:=cap.map fun o=>match o with
 | none=> .un
 | some k=>capS sd[k]?
theorem rO {K:aB} {F H F' H':Hp} {σ:St} (h:SlotsOk K F H sd σ) (s:Same F F'):∀cap:List (Option Nat),SlotsOk K F' H' (jL cap sd) (tS cap σ)
 | []=>rfl
 | o::cap=>by
  refine ⟨_,_,rfl, ?_,rO h s cap⟩; cases o with
  | none=>trivial
  | some k=>
   show oK K F' H' (capS sd[k]?) _; cases q:sd[k]? with
   | none=>trivial
   | some z=>
    cases z with
    | un=>trivial
    | own l ds=>trivial
    | od l ks ds=>trivial
    | ox ls G=>
     cases ls with
     | cons a ls=>trivial
     | nil=>obtain ⟨o,h1,v,h2,h3,h4⟩:=h.get q; subst h2; exact ⟨v,by simp [h1],fun l hl=>(nomatch hl),fun F2 H2 s2 _=>h4 F2 H2 (s.trans s2) fun l hl=>(nomatch hl)⟩
    | gh d G=>trivial
    | val d=>obtain ⟨o,h1,v,h2,rv⟩:=h.get q; subst h2; exact ⟨v,by simp [h1],rv.mono s⟩
theorem mK:∀ (cap:List (Option Nat)) (sd:List Slot),cM (jL cap sd)=[]
 | [],_=>rfl
 | o::cap,sd=>by
  have ih:=mK cap sd; cases o with
  | none=>exact ih
  | some k=>
   show cM (capS sd[k]? ::jL cap sd)=[]; cases q:sd[k]? with
   | none=>exact ih
   | some z=>
    cases z with
    | ox ls G=>cases ls<;>exact ih
    | _=>exact ih
def unS:Slot→Slot
 | .own _ _=> .un
 | .od _ _ _=> .un
 | .ox [] G=> .ox [] G
 | .ox _ _=> .un
 | z=>z
def unO (sd:List Slot):List Slot:=sd.map unS
theorem iH:∀sd:List Slot,cM (unO sd)=[]
 | []=>rfl
 | .un::r=>iH r
 | .val _::r=>iH r
 | .gh _ _::r=>iH r
 | .own _ _::r=>iH r
 | .od _ _ _::r=>iH r
 | .ox [] _::r=>iH r
 | .ox (_::_) _::r=>iH r
theorem vM (cap:List (Option Nat)) (sd:List Slot):jL cap (unO sd)=jL cap sd:=by
 unfold jL; refine fQ fun o _=> ?_
 cases o with
 | none=>rfl
 | some k=>
  show capS (unO sd)[k]? =capS sd[k]?; unfold unO; rw [cI]; cases q:sd[k]? with
  | none=>rfl
  | some z=>
   cases z with
   | ox ls G=>cases ls<;>rfl
   | _=>rfl
theorem qE {K:aB} {F H H':Hp}:∀ {sd:List Slot} {σ:St},SlotsOk K F H sd σ→SlotsOk K F H' (unO sd) σ
 | [],_,h=>h
 | z::zs,σ,h=>by
  obtain ⟨o,r,rfl,a,b⟩:=h; refine ⟨o,r,rfl, ?_,qE b⟩; cases z with
  | un=>trivial
  | val d=>exact a
  | gh d G=>exact a
  | od l ks ds=>trivial
  | ox ls G=>
   cases ls with
   | cons a ls=>trivial
   | nil=>obtain ⟨v,h2,h3,h4⟩:=a; exact ⟨v,h2,fun l hl=>(nomatch hl),fun F2 H2 s2 _=>h4 F2 H2 s2 fun l hl=>(nomatch hl)⟩
  | own l ds=>trivial
theorem kG {ds:List D} {i:Nat} {d:D} (p:D→Bool) (h:ds[i]? =some d):(ds.take (i+1)).filter p=(ds.take i).filter p++(if p d then [d] else []):=by rw [gG,h,List.filter_append]; cases hp:p d<;>simp [hp]
theorem uZ {elt:Expr} {ifs:List Expr} {scope:Scope} {N M:List Str} {cap:List (Option Nat)} {sc:Scope} {Tb:D→List Slot} (p:D→Bool) (f:D→D)
  (hi:PId X (unO sd) PT0 tg iter ds) (hl:ds.length≤1000)
  (hsc:X.env.scope=sc) (hcn:mD scope sc=true) (hM:X.N=M) (hcap:kR N M scope sc cap=true) (hk:scope.kind= .function)
  (hg:∀cl C fp s H d,d∈ds→PGd (cxB X N scope cl C fp s H) (jL cap sd) tg d (Tb d))
  (hle:∀d,d∈ds→Le (Tb d) (jL cap sd))
  (ht:∀cl C fp s H d,d∈ds→(ifs=[]∧p d=true)∨∃c,ifs=[c]∧PTd (cxB X N scope cl C fp s H) (Tb d) c (p d))
  (he:∀cl C fp s H d,d∈ds→p d=true→PEd (cxB X N scope cl C fp s H) (Tb d) elt (.val (f d)))
  (hc:X.calm=true:=by rfl) (hs:∀x,foldedSetIterable iter X.env x=pure x:=by intro _; rfl):
  PEd X sd (.ListComp elt [⟨tg,iter,ifs,0⟩] scope pos) (.own ((ds.filter p).map f)):= .mk fun σ F H S=>by
 refine wE_frame S trivial ?_; have S0:StF X.K X.B₀ F F σ (unO sd):=⟨S.base,Same.refl _,S.smp.sub S.sub,qE S.slots,by rw [iH]; exact eK⟩; intro pins s I
 have nm:∀y∈scope.names,(y.2=NameKind.free→sc.names.lookup y.1=some NameKind.cell)∧(y.2=NameKind.local→scope.names.lookup y.1=some NameKind.local):=fun y hy=>by have q:=fH.mp hcn y hy; simp only [bN,iR,iY,beq_eq_false_iff_ne,ne_eq,beq_iff_eq] at q; exact ⟨fun e=>q.1.1.resolve_left fun z=>z e,fun e=>q.2.resolve_left fun z=>z e⟩
 have fre:∀y∈scope.names,y.2= .free→∃c,X.env.cells.lookup y.1=some c:=fun y hy e=>I.ok.has y.1 (.inl (by show X.env.scope.names.lookup y.1=_; rw [hsc]; exact (nm y hy).1 e))
 rw [eval_ListComp]; refine wpAny_comprehension_free (use:=none) rfl hs (oG fre) hk (fun y hy=>(nm y hy).2) ?_; refine thn (hi σ F F S0 pins s I) fun v s1 h1=>thn h1 fun itv s2 h2=> ?_
 obtain ⟨it,fp,tn,J,H2,e,I2,T,st2,f2,F1,S1,s1',itd⟩:=h2; subst e
 have S1b:StF X.K H2 H2 H2 (tS cap σ) (jL cap sd):=⟨Same.refl _,Same.refl _,S1.smp,by
  have q:=rO (sd:=unO sd) (H':=H2) S1.slots S1.sub cap; rw [vM] at q
  exact q,by rw [mK]; exact eK⟩
 refine vR (N:=N) (cap:=cap) (g:=fun v σ2 H3 Q=>∀cl C,wG (cxB X N scope cl C fp s2 H2) tg v σ2 H3 Q) (tt:=fun σ2 H3 Q=>∀cl C,wIfs (cxB X N scope cl C fp s2 H2) ifs σ2 H3 Q) (te:=fun σ2 H3 Q=>∀cl C,wE (cxB X N scope cl C fp s2 H2) elt σ2 H3 Q)
  hc hsc hcn (by rw [hM]; exact hcap) hk I2 T st2 f2 (fun cl C pi s3 σ3 H3 v u Q I3 ru q=>q cl C pi s3 u I3 ru) (fun cl C pi s3 σ3 H3 Q I3 q=>q cl C pi s3 I3) (fun cl C pi s3 σ3 H3 Q I3 q=>q cl C pi s3 I3)
  (fun i m ys σb H3=>m=ds.length - i∧i≤ds.length∧∃Fb,StF X.K H2 Fb H3 σb (jL cap sd)∧RepL X.K Fb (((ds.take i).filter p).map f) ys) ds.length
  ⟨by simp,bO _,H2,S1b,by simpa using RepL.nil⟩ _ ?_
 rintro i m ys σb H3 ⟨rfl,hil,Fb,Sb,rl⟩; have sF1:Same F1 Fb:=fun b o g=>Sb.base _ _ (S1.sub _ _ g)
 obtain ⟨g1,g2,g3⟩:=itd Fb H3 sF1 Sb.sub Sb.smp trivial i
 by_cases hlt:i<ds.length
 ·have hd:ds[i]? =some ds[i]:=by simp [hlt]
  have hm:ds[i]∈ds:=fI hlt
  have ylen:ys.length≤i:=by rw [rl.len,aD]; exact dO (kS _ _) (by simp; omega)
  refine .inr ⟨g1 hlt,iA (by omega),fun ys' σ' H'=>∃Fb',StF X.K H2 Fb' H' σ' (jL cap sd)∧RepL X.K Fb' (((ds.take (i+1)).filter p).map f) ys',fun ys' σ' H' ⟨Fb',Sb',rl'⟩=>⟨ds.length - (i+1),by omega,rfl,hlt,Fb',Sb',rl'⟩,fun x H4 y cl C=> ?_⟩; obtain ⟨F4,s4,rp,up⟩:=g3 x H4 ds[i] hd y; refine (hg cl C fp s2 H2 _ hm σb F4 H4 x (up _ _ _ Sb) rp).imp fun σ5 H5 ⟨F5,S5,s5⟩ cl2 C2=> ?_
  have rl5:=rl.mono (s4.trans s5)
  have fin:∀ (b:Bool) (H6:Hp) (F6:Hp),b=p ds[i]→StF X.K H2 F6 H6 σ5 (Tb ds[i])→Same F5 F6→if b=true then (∀cl C,wE (cxB X N scope cl C fp s2 H2) elt σ5 H6 fun v H5=>∃Fb',StF X.K H2 Fb' H5 σ5 (jL cap sd)∧RepL X.K Fb' (((ds.take (i+1)).filter p).map f) (ys++[v])) else ∃Fb',StF X.K H2 Fb' H6 σ5 (jL cap sd)∧RepL X.K Fb' (((ds.take (i+1)).filter p).map f) ys:=fun b H6 F6 eb S6 s6=>by
   rw [kG p hd,← eb]; cases b with
   | false=>exact iteF ⟨F6,S6.le (hle _ hm),by simpa using rl5.mono s6⟩
   | true=>
    refine iteT fun cl3 C3=>(he cl3 C3 fp s2 H2 _ hm eb.symm σ5 F6 H6 S6).imp fun v H7 ⟨F7,S7,s7,q7⟩=>⟨F7,S7.le (hle _ hm), ?_⟩
    simp only [if_true,aR,bD,gE]; exact ((rl5.mono s6).mono s7).app (.one q7)
  rcases ht cl2 C2 fp s2 H2 _ hm with ⟨e1,e2⟩ | ⟨c,e1,q⟩
  ·subst e1; exact rP (fin true H5 F5 e2.symm S5 (Same.refl _))
  ·subst e1; exact vJ ((q σ5 F5 H5 S5).imp fun b H6 ⟨eb,F6,S6,s6⟩=>fin b H6 F6 eb S6 s6)
 ·have e:i=ds.length:=by omega
  subst e; refine .inl ⟨g2 (aN _),fun D C s' hD hC hDC h0 hL hcc hpp hst ⟨m',ns'⟩ J'=>⟨m',ns',fun h' sb=> ?_⟩⟩; have J2:Inv X pins σ (upd H3 D (.lst ys)) {s' with heap:=h',toks:=s'.toks}:=J'.turned (it:=C) (fun b o hb g=>sb.extBut b o hb g) (by rw [bW (Ne.symm hDC)]; exact hC) hL (.inr h0) hcc hpp; refine ⟨.ref D,_,J2,rfl,Fb,fun b o g=>Sb.base _ _ (S1.sub _ _ (s1' _ _ g)),fun b o g=> ?_,fun b o g=> ?_,D,ys,rfl,Sb.sub.free hD,cS, ?_,by simp [cM]⟩
  ·have g3:=Sb.sub _ _ g; rw [bW (cP g3 hD)]; exact g3
  ·by_cases hb:b=D
   ·subst hb; rw [cS] at g; cases g; trivial
   ·rw [bW hb] at g; exact Sb.smp _ _ g
  ·simpa using rl
end
def isI:D→Bool
 | .int _=>true
 | _=>false
def isIB:D→Bool
 | .int _=>true
 | .bl _=>true
 | _=>false
def isB:D→Bool
 | .bl _=>true
 | _=>false
def isT:D→Bool
 | .tup _=>true
 | _=>false
def isL:D→Bool
 | .lst _=>true
 | .scr _=>true
 | _=>false
theorem kit_int (K:aB) (d:D):cD K (tyD d) (.type "int")=some (isIB d):=by cases d<;>with_unfolding_all rfl
theorem kit_bool (K:aB) (d:D):cD K (tyD d) (.type "bool")=some (isB d):=by cases d<;>with_unfolding_all rfl
theorem kit_tuple (K:aB) (d:D):cD K (tyD d) (.type "tuple")=some (isT d):=by cases d<;>with_unfolding_all rfl
theorem kit_list (K:aB) (d:D):cD K (tyD d) (.type "list")=some (isL d):=by cases d<;>with_unfolding_all rfl
section
variable {X:Cx} {sd:List Slot} {e a b c:Expr} {es:List Expr} {pos:Pos} {r ra rb:R} {d:D} {ds:List D} {st:Stmt} {rest:List Stmt} {E:jX}
theorem PEd.cast {r':R} (h:PEd X sd e r) (q:r=r'):PEd X sd e r':=q▸h
theorem fR {k:Bool} {x o:List Stmt} (h:PTd X sd c k) (hk:k=false) (h2:PSd X sd o E):PSd1 X sd (.If c x o pos) E:=iN h (fun e=>by rw [hk] at e; cases e) fun _=>h2
theorem oF {k:Bool} {x o:List Stmt} (h:PTd X sd c k) (hk:k=true) (h2:PSd X sd x E):PSd1 X sd (.If c x o pos) E:=iN h (fun _=>h2) fun e=>by rw [hk] at e; cases e
theorem uV {d1 d2:List D} (ha:PEd X sd a (.bor d1)) (hb:PEd X sd b (.bor d2)) (hl:d1.length+d2.length≤1000):PEd X sd (.BinOp a .Add b pos) (.own (d1++d2)):=
 pd_op2 op_cat ha hb trivial fun σ F H v u Q S q1 q2 k=>by obtain ⟨l,xs,e1,h1,r1,_⟩:=q1; obtain ⟨m,ys,e2,h2,r2,_⟩:=q2; refine ⟨l,m,xs,ys,e1,e2,h1,h2,by rw [r1.len,r2.len]; exact dP (iA hl),fun p hp=> ?_⟩; obtain ⟨S2,fp,no⟩:=S.layO (xs:=xs++ys) hp; exact k _ F _ S2 (Same.refl _) ⟨p,_,rfl,fp,cS,r1.app r2,no⟩
theorem hJ {i:Int} (ha:PEd X sd a (.bor ds)) (hb:PEd X sd b (.val (.int i))) (h0:0≤i) (hd:ds[i.toNat]? =some d) (hs:oH b):PEd X sd (.Subscript a b pos) (.val d):=by
 have e:i=(i.toNat:Int):=by omega
 rw [e] at hb; exact gX ha hb hd hs
end
theorem wM {i:Int} (h:i.natAbs<2^250):Builtin.Int.intBits i≤2^20:=by
 unfold Builtin.Int.intBits
 split
 ·exact bO _
 ·rename_i hz
  have hne:i.natAbs≠0:=by
   intro z; apply hz; have:i=0:=by omega
   subst this; rfl
  have:=(Nat.log2_lt hne).mpr h; have e:(250:Nat)+1≤2^20:=by decide
  omega
theorem iK {i j:Int} (h1:i.natAbs<2^250) (h2:j.natAbs<2^250):IntMulOk i j:= .of_bits (wM h1) (wM h2)
def most:Int:=1000 * 10^64
def yL:Int→List Int→List Int
 | _,[]=>[]
 | x,n::ns=>(x%n)::yL (x / n) ns
theorem wH:∀ (x:Int) (ns:List Int),(yL x ns).length=ns.length
 | _,[]=>rfl
 | x,n::ns=>by simp [yL,wH]
def dZ:List (Int × Int):=[(2,2),(1,1),(1,2),(2,1),(1,3),(3,1),(2,3),(3,2),(1,4),(4,1),(1,5),(5,1),(1,6),(6,1)]
def dM (p:Int × Int):D:= .tup [.int p.1, .int p.2]
def CLaw:List D→R→Prop:=fun ds r=>∃ns:List Int,ds=[.scr ns]∧ns.length≤63∧r= .val (.bl true)
def divL:Int→List Int→Int
 | x,[]=>x
 | x,n::ns=>divL (x / n) ns
theorem zV:∀ (x:Int) (ns:List Int) (n:Int),divL x (ns++[n])=divL x ns / n
 | _,[],_=>rfl
 | x,m::ns,n=>zV (x / m) ns n
theorem zR:∀ (x:Int) (ns:List Int) (n:Int),yL x (ns++[n])=yL x ns++[divL x ns%n]
 | _,[],_=>rfl
 | x,m::ns,n=>by show (x%m)::yL (x / m) (ns++[n])=_; rw [zR (x / m) ns n]; rfl
theorem pd_two {X:Cx} {sd:List Slot} {i j:Int} {a1 a2 b1:Nat} {p1 p2 p3:Pos} (h1:starEach [Expr.Constant (.int i) a1 p1,Expr.Constant (.int j) a2 p2] X.env=(false,eval (Expr.Constant (.int i) a1 p1) X.env)::starEach [Expr.Constant (.int j) a2 p2] X.env)
  (h2:starEach [Expr.Constant (.int j) a2 p2] X.env=(false,eval (Expr.Constant (.int j) a2 p2) X.env)::starEach [] X.env):PEd X sd (.Tuple [.Constant (.int i) a1 p1, .Constant (.int j) a2 p2] b1 p3) (.val (dM (i,j))):=
 xI (ds:=[.int i, .int j]) (aH bP (aH bP bF trivial h2) trivial h1) (aU rfl)
theorem getD_mem {α:Type} {l:List α} {i:Nat} {d:α} (h:i<l.length):l.getD i d∈l:=by
 have e:l.getD i d=l[i]:=by simp [dD,h]
 rw [e]; exact fI h
theorem smp_only {H:Hp} (h:Only H):Smp H:=fun b o e=>by
 rcases h b with z | ⟨o',xs,z⟩
 ·rw [z] at e; cases e
 ·rw [z] at e; cases e; trivial
theorem walkD {l:PySem.W.OpenLaw} {k:Nat} {x:Str} {q:Program} {loose:List Str} {XP:(Str→Option Value)→Heap→Prop} {YP:World→Heap→Prop} {d:DefRec} {K:Params→aB} (hn:l.most=some 63) (hdf:d.params.defaults=[])
  (hr:Room k callerA) (hY:∀ (w:World) (h:Heap),YP w h→(K w.params).In h)
  (F:∀ (w:World) (mg:Str→Option Value) (fa:Addr) (h:Heap),(K w.params).In h→h.Ns mainGlobals mg→mg d.name=some (.ref fa)→
   ∃fd:FuncData,(∀ (s:Shared) (u:Value),BindsTo s fd ⟨[u],[]⟩ [(x,u)])∧∀base:Heap,(K w.params).In base→base.Ns mainGlobals mg→FnOk l.prog w (K w.params) mg base CX0 k fa fd [x] (spC (K w.params) 1 CLaw)):
  PySem.W.WalkO q loose XP YP l.row.toRowW d [] (fun f vs=>PySem.call f vs):=
 L2.walk_of (n:=63) (k:=k) (x:=x) (CX:=fun _=>CX0) (sp:=fun w=>spC (K w.params) 1 CLaw) hn (by decide) hdf hr hY F
  (fun w H a ns hl ho hS=>⟨rfl,smp_only ho,[.scr ns], .val (.bl true), .one (by simp only [Rep]; exact ⟨a,rfl,hS⟩),⟨ns,rfl,hl,rfl⟩,fun v H' ⟨F,_,_,_,res⟩=>by simpa only [ResOk,Rep] using res⟩) fun _ _ _ _ _ z=>z
mutual
def deq:D→D→Bool
 | .non, .non=>true
 | .bl a, .bl b=>a==b
 | .bl a, .int b=>(if a then 1 else 0)==b
 | .int a, .bl b=>a==(if b then 1 else 0)
 | .int a, .int b=>a==b
 | .str a, .str b=>a==b
 | .tup a, .tup b=>mU a b
 | .lst a, .lst b=>mU a b
 | _,_=>false
def mU:List D→List D→Bool
 | [],[]=>true
 | x::xs,y::ys=>deq x y && mU xs ys
 | _,_=>false
end
mutual
def pl:D→Bool
 | .dic=>false
 | .dki _ _=>false
 | .any _=>false
 | .scr _=>false
 | .tup ds=>plL ds
 | .lst ds=>plL ds
 | _=>true
def plL:List D→Bool
 | []=>true
 | d::ds=>pl d && plL ds
end
mutual
def dep:D→Nat
 | .tup ds=>mV ds+1
 | .lst ds=>mV ds+1
 | _=>0
def mV:List D→Nat
 | []=>0
 | d::ds=>max (dep d) (mV ds)
end
theorem rW:∀ {ds:List D} {i:Nat} {d:D},plL ds=true→ds[i]? =some d→pl d=true
 | [],i,d,_,e=>by simp at e
 | d'::ds,i,d,h,e=>by
  simp only [plL,bN] at h; cases i with
  | zero=>simp at e; subst e; exact h.1
  | succ i=>exact rW h.2 (by simpa using e)
theorem pR:∀ {ds:List D} {i:Nat} {d:D},ds[i]? =some d→dep d≤mV ds
 | [],i,d,e=>by simp at e
 | d'::ds,i,d,e=>by
  simp only [mV]; cases i with
  | zero=>simp at e; subst e; exact Nat.le_max_left _ _
  | succ i=>exact dO (pR (i:=i) (by simpa using e)) (Nat.le_max_right _ _)
theorem deqL_iff:∀ {xs ys:List D},mU xs ys=true↔xs.length=ys.length∧∀ (j:Nat) (x y:D),xs[j]? =some x→ys[j]? =some y→deq x y=true
 | [],[]=>by simp [mU]
 | [],y::ys=>by simp [mU]
 | x::xs,[]=>by simp [mU]
 | x::xs,y::ys=>by
  simp only [mU,bN,dS,deqL_iff (xs:=xs) (ys:=ys)]
  constructor
  ·rintro ⟨h1,h2,h3⟩; refine ⟨by omega,fun j a b ea eb=> ?_⟩; cases j with
   | zero=>simp at ea eb; subst ea eb; exact h1
   | succ j=>exact h3 j a b (by simpa using ea) (by simpa using eb)
  ·rintro ⟨h1,h2⟩; exact ⟨h2 0 x y rfl rfl,by omega,fun j a b ea eb=>h2 (j+1) a b (by simpa using ea) (by simpa using eb)⟩
mutual
theorem wQ {K:aB} {H:Hp}:∀ {d1 d2:D} {v:V},pl d1=true→Rep K H d1 v→Rep K H d2 v→pl d2=true→deq d1 d2=true
 | .non,d2,v,_,r1,r2,_=>by simp only [Rep] at r1; subst r1; cases d2<;>simp_all [Rep,deq]
 | .bl b,d2,v,_,r1,r2,_=>by simp only [Rep] at r1; subst r1; cases d2<;>simp_all [Rep,deq]
 | .int b,d2,v,_,r1,r2,_=>by simp only [Rep] at r1; subst r1; cases d2<;>simp_all [Rep,deq]
 | .str b,d2,v,_,r1,r2,_=>by simp only [Rep] at r1; subst r1; cases d2<;>simp_all [Rep,deq]
 | .dic,_,_,h,_,_,_=>by simp [pl] at h
 | .dki _ _,_,_,h,_,_,_=>by simp [pl] at h
 | .any _,_,_,h,_,_,_=>by simp [pl] at h
 | .scr _,_,_,h,_,_,_=>by simp [pl] at h
 | .tup ds,d2,v,p1,r1,r2,p2=>by
  simp only [Rep] at r1; obtain ⟨a,xs,rfl,ha,rl⟩:=r1; cases d2 with
  | tup es=>simp only [Rep] at r2; obtain ⟨a',xs',e,ha',rl'⟩:=r2; cases e; rw [ha] at ha'; cases ha'; simp only [deq]; exact sZ (by simpa [pl] using p1) rl rl' (by simpa [pl] using p2)
  | lst es=>simp only [Rep] at r2; obtain ⟨a',xs',e,ha',rl'⟩:=r2; cases e; rw [ha] at ha'; cases ha'
  | dic=>simp [pl] at p2
  | dki=>simp [pl] at p2
  | any=>simp [pl] at p2
  | scr=>simp [pl] at p2
  | _=>simp [Rep] at r2
 | .lst ds,d2,v,p1,r1,r2,p2=>by
  simp only [Rep] at r1; obtain ⟨a,xs,rfl,ha,rl⟩:=r1; cases d2 with
  | lst es=>simp only [Rep] at r2; obtain ⟨a',xs',e,ha',rl'⟩:=r2; cases e; rw [ha] at ha'; cases ha'; simp only [deq]; exact sZ (by simpa [pl] using p1) rl rl' (by simpa [pl] using p2)
  | tup es=>simp only [Rep] at r2; obtain ⟨a',xs',e,ha',rl'⟩:=r2; cases e; rw [ha] at ha'; cases ha'
  | dic=>simp [pl] at p2
  | dki=>simp [pl] at p2
  | any=>simp [pl] at p2
  | scr=>simp [pl] at p2
  | _=>simp [Rep] at r2
theorem sZ {K:aB} {H:Hp}:∀ {ds es:List D} {xs:List V},plL ds=true→RepL K H ds xs→RepL K H es xs→plL es=true→mU ds es=true
 | [],es,xs,_,r1,r2,_=>by
  simp only [RepL] at r1; subst r1; cases es with
  | nil=>rfl
  | cons e es=>obtain ⟨y,ys,z,_⟩:=r2.uncons; cases z
 | d::ds,es,xs,p1,r1,r2,p2=>by
  obtain ⟨y,ys,rfl,a,rl⟩:=r1.uncons; cases es with
  | nil=>simp only [RepL] at r2; cases r2
  | cons e es=>obtain ⟨y',ys',z,a',rl'⟩:=r2.uncons; cases z; simp only [plL,bN] at p1 p2; simp only [mU,bN]; exact ⟨wQ p1.1 a a' p2.1,sZ p1.2 rl rl' p2.2⟩
end
def rK:D→Bool
 | .non=>true
 | .bl _=>true
 | .int _=>true
 | .str _=>true
 | _=>false
theorem uS {K:aB} {H:Hp} {d:D} {v:V} (h:rK d=true) (r:Rep K H d v):flatV v=true∧flt d=some v:=by cases d<;>simp_all [rK,Rep,flatV,flt]
section
variable {P:Program} {w:World} {K:aB} {H:Hp} {s:Shared}
theorem kI (hok:HOk P w H s.heap) {ds:List D} {v:V} {u:Value} (r:Rep K H (.tup ds) v) (ru:RelV v u):∃a xs its,u= .ref a∧v= .ref a∧RepL K H ds xs∧Vals xs its∧s.heap.IsTuple a its.toArray:=by simp only [Rep] at r; obtain ⟨a,xs,rfl,ha,rl⟩:=r; cases ru; obtain ⟨_,its,rv,p⟩:=(show ObjOk P w H s.heap a (.tup xs) from hok a _ ha); exact ⟨a,xs,its,rfl,rfl,rl,rv,p.tup⟩
theorem kE (hok:HOk P w H s.heap) {ds:List D} {v:V} {u:Value} (r:Rep K H (.lst ds) v) (ru:RelV v u):∃a xs its,u= .ref a∧v= .ref a∧RepL K H ds xs∧Vals xs its∧s.heap.IsList a its.toArray:=by simp only [Rep] at r; obtain ⟨a,xs,rfl,ha,rl⟩:=r; cases ru; obtain ⟨_,its,n,rv,p⟩:=(show ObjOk P w H s.heap a (.lst xs) from hok a _ ha); exact ⟨a,xs,its,rfl,rfl,rl,rv,_,p,rfl,n,rfl⟩
def dAt (ds es:List D) (j:Nat):Bool:=match ds[j]?,es[j]? with
 | some x,some y=>deq x y
 | _,_=>false
theorem rE (ds es:List D):((bR (min ds.length es.length)).all (dAt ds es) && ds.length==es.length)=mU ds es:=by
 rw [gY,deqL_iff,bN,fH,beq_iff_eq]
 constructor
 ·rintro ⟨h1,h2⟩; refine ⟨h2,fun j x y ex ey=> ?_⟩; have hj:j<ds.length:=(cG.mp ex).1; have:=h1 j (bS.mpr (by omega)); unfold dAt at this; rw [ex,ey] at this; exact this
 ·rintro ⟨h1,h2⟩; refine ⟨fun j hj=> ?_,h1⟩; have hj':=bS.mp hj; have e1:ds[j]? =some (ds[j]'(by omega)):=by simp
  have e2:es[j]? =some (es[j]'(by omega)):=by simp
  unfold dAt; rw [e1,e2]; exact h2 j _ _ e1 e2
theorem tN {ds es:List D} (h:ds.length=es.length):(bR ds.length).all (dAt ds es)=mU ds es:=by have:=rE ds es; rw [h] at this ⊢; simpa using this
theorem wV {ds es:List D} (h:ds.length≠es.length):mU ds es=false:=by
 cases e:mU ds es with
 | false=>rfl
 | true=>exact absurd (deqL_iff.mp e).1 h
mutual
theorem vI (hok:HOk P w H s.heap):∀ (d1:D) {d2:D} {v1 v2:V} {u1 u2:Value} {A:Around},pl d1=true→pl d2=true→Rep K H d1 v1→Rep K H d2 v2→RelV v1 u1→RelV v2 u2→A.units+dep d1<cLine→SeqAt.EqAt A s u1 u2 (deq d1 d2)
 | .tup ds,d2,v1,v2,u1,u2,A,p1,p2,r1,r2,ru1,ru2,hu=>by
  have hu':A.units<cLine:=by omega
  obtain ⟨a,xs,its,rfl,rfl,rl,rv,ht⟩:=kI hok r1 ru1; cases d2 with
  | non=>simp only [Rep] at r2; subst r2; cases ru2; exact SeqAt.EqAt.tuple_none ht hu'
  | bl b=>simp only [Rep] at r2; subst r2; cases ru2; exact SeqAt.EqAt.tuple_bool b ht hu'
  | int b=>simp only [Rep] at r2; subst r2; obtain ⟨t,rfl⟩:=ru2; exact SeqAt.EqAt.tuple_int b t ht hu'
  | str b=>simp only [Rep] at r2; subst r2; obtain ⟨t,rfl⟩:=ru2; exact SeqAt.EqAt.tuple_str b t ht hu'
  | dic=>simp [pl] at p2
  | dki=>simp [pl] at p2
  | any=>simp [pl] at p2
  | scr=>simp [pl] at p2
  | lst es=>obtain ⟨b,ys,jts,rfl,rfl,rl2,rv2,hl2⟩:=kE hok r2 ru2; exact SeqAt.EqAt.tuple_list ht hl2 hu'
  | tup es=>
   obtain ⟨b,ys,jts,rfl,e2,rl2,rv2,ht2⟩:=kI hok r2 ru2
   by_cases hab:a=b
   ·subst hab; have:=wQ p1 r1 (e2▸r2) p2; rw [this]; exact SeqAt.EqAt.same _
   ·simp only [deq]; rw [← rE]; have l1:its.toArray.size=ds.length:=by rw [aQ,← rv.length,rl.len]
    have l2:jts.toArray.size=es.length:=by rw [aQ,← rv2.length,rl2.len]
    rw [← l1,← l2]; simp only [pl] at p1 p2; simp only [dep] at hu; refine .of_refs hab (.tuples ht ht2 hu' fun j h1 h2=> ?_); exact qW hok ds p1 p2 rl rl2 rv rv2 (A:=A.in1) (by show A.units+1+_<cLine; omega) (by simp) (by simp)
 | .lst ds,d2,v1,v2,u1,u2,A,p1,p2,r1,r2,ru1,ru2,hu=>by
  have hu':A.units<cLine:=by omega
  obtain ⟨a,xs,its,rfl,rfl,rl,rv,ht⟩:=kE hok r1 ru1; cases d2 with
  | non=>simp only [Rep] at r2; subst r2; cases ru2; exact SeqAt.EqAt.list_none ht hu'
  | bl b=>simp only [Rep] at r2; subst r2; cases ru2; exact SeqAt.EqAt.list_bool b ht hu'
  | int b=>simp only [Rep] at r2; subst r2; obtain ⟨t,rfl⟩:=ru2; exact SeqAt.EqAt.list_int b t ht hu'
  | str b=>simp only [Rep] at r2; subst r2; obtain ⟨t,rfl⟩:=ru2; exact SeqAt.EqAt.list_str b t ht hu'
  | dic=>simp [pl] at p2
  | dki=>simp [pl] at p2
  | any=>simp [pl] at p2
  | scr=>simp [pl] at p2
  | tup es=>obtain ⟨b,ys,jts,rfl,rfl,rl2,rv2,hl2⟩:=kI hok r2 ru2; exact SeqAt.EqAt.list_tuple ht hl2 hu'
  | lst es=>
   obtain ⟨b,ys,jts,rfl,e2,rl2,rv2,ht2⟩:=kE hok r2 ru2
   by_cases hab:a=b
   ·subst hab; have:=wQ p1 r1 (e2▸r2) p2; rw [this]; exact SeqAt.EqAt.same _
   ·simp only [deq]; have l1:its.toArray.size=ds.length:=by rw [aQ,← rv.length,rl.len]
    have l2:jts.toArray.size=es.length:=by rw [aQ,← rv2.length,rl2.len]
    simp only [pl] at p1 p2; simp only [dep] at hu
    by_cases hl:ds.length=es.length
    ·rw [← tN hl,← l1]; refine .of_refs hab (.lists ht ht2 (by rw [l1,l2,hl]) hu' fun j h1 h2=> ?_); exact qW hok ds p1 p2 rl rl2 rv rv2 (A:=A.in1) (by show A.units+1+_<cLine; omega) (by simp) (by simp)
    ·rw [wV hl]; exact .of_refs hab (.lists_lengths ht ht2 (by rw [l1,l2]; simpa using hl) hu')
 | .dic,_,_,_,_,_,_,p1,_,_,_,_,_,_=>by simp [pl] at p1
 | .dki _ _,_,_,_,_,_,_,p1,_,_,_,_,_,_=>by simp [pl] at p1
 | .any _,_,_,_,_,_,_,p1,_,_,_,_,_,_=>by simp [pl] at p1
 | .scr _,_,_,_,_,_,_,p1,_,_,_,_,_,_=>by simp [pl] at p1
 | .non,d2,v1,v2,u1,u2,A,p1,p2,r1,r2,ru1,ru2,hu=>by
  have hu':A.units<cLine:=by omega
  simp only [Rep] at r1; subst r1; cases hf:rK d2 with
  | true=>obtain ⟨h1,h2⟩:=uS hf r2; have:=eqAt_V (A:=A) (s:=s) ru1 ru2 rfl h1; cases d2<;>simp_all [rK,flt,Rep,deq,eqV]
  | false=>
   cases ru1; cases d2 with
   | tup es=>obtain ⟨b,ys,jts,rfl,e2,rl2,rv2,ht2⟩:=kI hok r2 ru2; exact SeqAt.EqAt.none_tuple ht2 hu'
   | lst es=>obtain ⟨b,ys,jts,rfl,e2,rl2,rv2,ht2⟩:=kE hok r2 ru2; exact SeqAt.EqAt.none_list ht2 hu'
   | dic=>simp [pl] at p2
   | dki=>simp [pl] at p2
   | any=>simp [pl] at p2
   | scr=>simp [pl] at p2
   | _=>simp [rK] at hf
 | .bl q,d2,v1,v2,u1,u2,A,p1,p2,r1,r2,ru1,ru2,hu=>by
  have hu':A.units<cLine:=by omega
  simp only [Rep] at r1; subst r1; cases hf:rK d2 with
  | true=>obtain ⟨h1,h2⟩:=uS hf r2; have:=eqAt_V (A:=A) (s:=s) ru1 ru2 rfl h1; cases d2<;>simp_all [rK,flt,Rep,deq,eqV]
  | false=>
   cases ru1; cases d2 with
   | tup es=>obtain ⟨b,ys,jts,rfl,e2,rl2,rv2,ht2⟩:=kI hok r2 ru2; exact SeqAt.EqAt.bool_tuple q ht2 hu'
   | lst es=>obtain ⟨b,ys,jts,rfl,e2,rl2,rv2,ht2⟩:=kE hok r2 ru2; exact SeqAt.EqAt.bool_list q ht2 hu'
   | dic=>simp [pl] at p2
   | dki=>simp [pl] at p2
   | any=>simp [pl] at p2
   | scr=>simp [pl] at p2
   | _=>simp [rK] at hf
 | .int q,d2,v1,v2,u1,u2,A,p1,p2,r1,r2,ru1,ru2,hu=>by
  have hu':A.units<cLine:=by omega
  simp only [Rep] at r1; subst r1; cases hf:rK d2 with
  | true=>obtain ⟨h1,h2⟩:=uS hf r2; have:=eqAt_V (A:=A) (s:=s) ru1 ru2 rfl h1; cases d2<;>simp_all [rK,flt,Rep,deq,eqV]
  | false=>
   obtain ⟨t,rfl⟩:=ru1; cases d2 with
   | tup es=>obtain ⟨b,ys,jts,rfl,e2,rl2,rv2,ht2⟩:=kI hok r2 ru2; exact SeqAt.EqAt.int_tuple q t ht2 hu'
   | lst es=>obtain ⟨b,ys,jts,rfl,e2,rl2,rv2,ht2⟩:=kE hok r2 ru2; exact SeqAt.EqAt.int_list q t ht2 hu'
   | dic=>simp [pl] at p2
   | dki=>simp [pl] at p2
   | any=>simp [pl] at p2
   | scr=>simp [pl] at p2
   | _=>simp [rK] at hf
 | .str q,d2,v1,v2,u1,u2,A,p1,p2,r1,r2,ru1,ru2,hu=>by
  have hu':A.units<cLine:=by omega
  simp only [Rep] at r1; subst r1; cases hf:rK d2 with
  | true=>obtain ⟨h1,h2⟩:=uS hf r2; have:=eqAt_V (A:=A) (s:=s) ru1 ru2 rfl h1; cases d2<;>simp_all [rK,flt,Rep,deq,eqV]
  | false=>
   obtain ⟨t,rfl⟩:=ru1; cases d2 with
   | tup es=>obtain ⟨b,ys,jts,rfl,e2,rl2,rv2,ht2⟩:=kI hok r2 ru2; exact SeqAt.EqAt.str_tuple q t ht2 hu'
   | lst es=>obtain ⟨b,ys,jts,rfl,e2,rl2,rv2,ht2⟩:=kE hok r2 ru2; exact SeqAt.EqAt.str_list q t ht2 hu'
   | dic=>simp [pl] at p2
   | dki=>simp [pl] at p2
   | any=>simp [pl] at p2
   | scr=>simp [pl] at p2
   | _=>simp [rK] at hf
theorem qW (hok:HOk P w H s.heap):∀ (ds:List D) {es:List D} {xs ys:List V} {its jts:List Value} {j:Nat} {x y:Value} {A:Around},plL ds=true→plL es=true→RepL K H ds xs→RepL K H es ys→Vals xs its→Vals ys jts→A.units+mV ds<cLine→its[j]? =some x→jts[j]? =some y→SeqAt.EqAt A s x y (dAt ds es j)
 | [],es,xs,ys,its,jts,j,x,y,A,_,_,r1,_,v1,_,_,e1,_=>by simp only [RepL] at r1; subst r1; cases v1; simp at e1
 | d::ds,es,xs,ys,its,jts,j,x,y,A,p1,p2,r1,r2,v1,v2,hu,e1,e2=>by
  obtain ⟨a,as,rfl,ra,rl⟩:=r1.uncons; cases v1 with
  | cons va vas=>
   cases es with
   | nil=>simp only [RepL] at r2; subst r2; cases v2; simp at e2
   | cons e es=>
    obtain ⟨b,bs,rfl,rb,rl2⟩:=r2.uncons; cases v2 with
    | cons vb vbs=>
     simp only [plL,bN] at p1 p2; simp only [mV] at hu; cases j with
     | zero=>simp at e1 e2; subst e1 e2; exact vI hok d p1.1 p2.1 ra rb va vb (by omega)
     | succ j=>exact qW hok ds p1.2 p2.2 rl rl2 vas vbs (by omega) (by simpa using e1) (by simpa using e2)
end
end
section
variable {X:Cx} {sd:List Slot} {e a b c:Expr} {es:List Expr} {pos:Pos} {r ra rb:R} {d:D} {ds:List D} {st:Stmt} {rest:List Stmt} {E:jX}
theorem rc_D {pins:List (Addr × Obj)} {σ:St} {H:Hp} {s:Shared} {K:aB} {d1 d2:D} {v u:V} {x y:Value} {Q:Value→Shared→Prop} (I:Inv X pins σ H s) (hs:(isT d1=true∧isT d2=true)∨(isL d1=true∧isL d2=true)) (p1:pl d1=true) (p2:pl d2=true) (r1:Rep K H d1 v) (r2:Rep K H d2 u) (rx:RelV v x) (ry:RelV u y)
  (hu:X.A.units+dep d1+1<cLine) (q:Q (.bool (deq d1 d2)) s):wpAny (model X.prog X.w) X.A (compareOp .Eq x y) Q X.xe s:=by
 have hu':X.A.units<cLine:=by omega
 rcases hs with ⟨t1,t2⟩ | ⟨t1,t2⟩
 ·cases d1<;>first | (simp [isT] at t1; done) | skip
  cases d2<;>first | (simp [isT] at t2; done) | skip
  rename_i ds es; obtain ⟨a,xs,its,rfl,rfl,rl,rv,ht⟩:=kI I.hok r1 rx; obtain ⟨b,ys,jts,rfl,rfl,rl2,rv2,ht2⟩:=kI I.hok r2 ry; have l1:its.toArray.size=ds.length:=by rw [aQ,← rv.length,rl.len]
  have l2:jts.toArray.size=es.length:=by rw [aQ,← rv2.length,rl2.len]
  simp only [pl] at p1 p2; simp only [dep] at hu; simp only [deq] at q; rw [← rE,← l1,← l2] at q; exact SeqAt.eq_tupleAt ht ht2 hu' (fun j h1 h2=>qW I.hok ds p1 p2 rl rl2 rv rv2 (A:=X.A.in1) (by show X.A.units+1+_<cLine; omega) (by simp) (by simp)) q
 ·cases d1<;>first | (simp [isL] at t1; done) | (simp [pl] at p1; done) | skip
  cases d2<;>first | (simp [isL] at t2; done) | (simp [pl] at p2; done) | skip
  rename_i ds es; obtain ⟨a,xs,its,rfl,rfl,rl,rv,ht⟩:=kE I.hok r1 rx; obtain ⟨b,ys,jts,rfl,rfl,rl2,rv2,ht2⟩:=kE I.hok r2 ry; have l1:its.toArray.size=ds.length:=by rw [aQ,← rv.length,rl.len]
  have l2:jts.toArray.size=es.length:=by rw [aQ,← rv2.length,rl2.len]
  simp only [pl] at p1 p2; simp only [dep] at hu; simp only [deq] at q
  by_cases hl:ds.length=es.length
  ·rw [← tN hl,← l1] at q; exact SeqAt.eq_listAt ht ht2 (by rw [l1,l2,hl]) hu' (fun j h1 h2=>qW I.hok ds p1 p2 rl rl2 rv rv2 (A:=X.A.in1) (by show X.A.units+1+_<cLine; omega) (by simp) (by simp)) q
  ·rw [wV hl] at q; exact SeqAt.eq_list_lengthsAt ht ht2 (by rw [l1,l2]; simpa using hl) hu' q
theorem rc_Dn {pins:List (Addr × Obj)} {σ:St} {H:Hp} {s:Shared} {K:aB} {d1 d2:D} {v u:V} {x y:Value} {Q:Value→Shared→Prop} (I:Inv X pins σ H s) (hs:(isT d1=true∧isT d2=true)∨(isL d1=true∧isL d2=true)) (p1:pl d1=true) (p2:pl d2=true) (r1:Rep K H d1 v) (r2:Rep K H d2 u) (rx:RelV v x) (ry:RelV u y)
  (hu:X.A.units+dep d1+1<cLine) (q:Q (.bool (!deq d1 d2)) s):wpAny (model X.prog X.w) X.A (compareOp .NotEq x y) Q X.xe s:=by
 have hu':X.A.units<cLine:=by omega
 rcases hs with ⟨t1,t2⟩ | ⟨t1,t2⟩
 ·cases d1<;>first | (simp [isT] at t1; done) | skip
  cases d2<;>first | (simp [isT] at t2; done) | skip
  rename_i ds es; obtain ⟨a,xs,its,rfl,rfl,rl,rv,ht⟩:=kI I.hok r1 rx; obtain ⟨b,ys,jts,rfl,rfl,rl2,rv2,ht2⟩:=kI I.hok r2 ry; have l1:its.toArray.size=ds.length:=by rw [aQ,← rv.length,rl.len]
  have l2:jts.toArray.size=es.length:=by rw [aQ,← rv2.length,rl2.len]
  simp only [pl] at p1 p2; simp only [dep] at hu; simp only [deq] at q; rw [← rE,← l1,← l2] at q; exact SeqAt.RcNeAt.tuples ht ht2 hu' (fun j h1 h2=>qW I.hok ds p1 p2 rl rl2 rv rv2 (A:=X.A.in1) (by show X.A.units+1+_<cLine; omega) (by simp) (by simp)) _ _ _ _ q
 ·cases d1<;>first | (simp [isL] at t1; done) | (simp [pl] at p1; done) | skip
  cases d2<;>first | (simp [isL] at t2; done) | (simp [pl] at p2; done) | skip
  rename_i ds es; obtain ⟨a,xs,its,rfl,rfl,rl,rv,ht⟩:=kE I.hok r1 rx; obtain ⟨b,ys,jts,rfl,rfl,rl2,rv2,ht2⟩:=kE I.hok r2 ry; have l1:its.toArray.size=ds.length:=by rw [aQ,← rv.length,rl.len]
  have l2:jts.toArray.size=es.length:=by rw [aQ,← rv2.length,rl2.len]
  simp only [pl] at p1 p2; simp only [dep] at hu; simp only [deq] at q
  by_cases hl:ds.length=es.length
  ·rw [← tN hl,← l1] at q; exact SeqAt.RcNeAt.lists ht ht2 (by rw [l1,l2,hl]) hu' (fun j h1 h2=>qW I.hok ds p1 p2 rl rl2 rv rv2 (A:=X.A.in1) (by show X.A.units+1+_<cLine; omega) (by simp) (by simp)) _ _ _ _ q
  ·rw [wV hl] at q; exact SeqAt.RcNeAt.lists_lengths ht ht2 (by rw [l1,l2]; simpa using hl) hu' _ _ _ _ q
theorem ResOk.rep {K:aB} {H₀ F H:Hp} {σ:St} {v:V} (S:StF K H₀ F H σ sd) (hk:r.keeps) (q:ResOk K F H sd r v):Rep K H r.toD v:=by
 cases r with
 | val d=>exact Rep.mono S.sub q
 | own ds=>exact hk.elim
 | pr d ls=>exact hk.elim
 | ox G=>exact hk.elim
 | bor ds=>obtain ⟨l,xs,e,hl,rl,_⟩:=q; simp only [R.toD,Rep]; exact ⟨l,xs,e,hl,rl.mono S.sub⟩
theorem op_eqD (K:aB) (d1 d2:D) (hs:(isT d1=true∧isT d2=true)∨(isL d1=true∧isL d2=true)) (p1:pl d1=true) (p2:pl d2=true) (hu:X.A.units+dep d1+1<cLine):OpR X (compareOp .Eq) (fun x y H Q=>Rep K H d1 x∧Rep K H d2 y∧Q (.bl (deq d1 d2)) H):=by intro pins s σ H x y v u Q I rx ry h; obtain ⟨h1,h2,q⟩:=h; exact rc_D I hs p1 p2 h1 h2 rx ry hu ⟨.bl (deq d1 d2),H,I,rfl,q⟩
theorem op_neD (K:aB) (d1 d2:D) (hs:(isT d1=true∧isT d2=true)∨(isL d1=true∧isL d2=true)) (p1:pl d1=true) (p2:pl d2=true) (hu:X.A.units+dep d1+1<cLine):OpR X (compareOp .NotEq) (fun x y H Q=>Rep K H d1 x∧Rep K H d2 y∧Q (.bl (!deq d1 d2)) H):=by intro pins s σ H x y v u Q I rx ry h; obtain ⟨h1,h2,q⟩:=h; exact rc_Dn I hs p1 p2 h1 h2 rx ry hu ⟨.bl (!deq d1 d2),H,I,rfl,q⟩
theorem pd_eqD (ha:PEd X sd a ra) (hb:PEd X sd b rb) (ka:ra.keeps) (kb:rb.keeps) (hs:(isT ra.toD=true∧isT rb.toD=true)∨(isL ra.toD=true∧isL rb.toD=true)) (p1:pl ra.toD=true) (p2:pl rb.toD=true) (hu:X.A.units+dep ra.toD+1<cLine):PEd X sd (.Compare a [.Eq] [b] pos) (.val (.bl (deq ra.toD rb.toD))):=
 pd_cmp2 (op_eqD X.K _ _ hs p1 p2 hu) ha hb ka (lI _) fun σ F H v u Q S q1 q2 k=>⟨q1.rep S ka,q2.rep S kb,k F H S (Same.refl _)⟩
theorem ptd_neD (ha:PEd X sd a ra) (hb:PEd X sd b rb) (ka:ra.keeps) (kb:rb.keeps) (hs:(isT ra.toD=true∧isT rb.toD=true)∨(isL ra.toD=true∧isL rb.toD=true)) (p1:pl ra.toD=true) (p2:pl rb.toD=true) (hu:X.A.units+dep ra.toD+1<cLine):PTd X sd (.Compare a [.NotEq] [b] pos) (!deq ra.toD rb.toD):=
 jW (op_neD X.K _ _ hs p1 p2 hu) ha hb ka (lI _) fun σ F H v u Q S q1 q2 k=>⟨q1.rep S ka,q2.rep S kb,k F H S (Same.refl _)⟩
def rCatT0 (K:aB):R2:=fun x y H Q=>∃a b ys,x= .ref a∧y= .ref b∧SqT K H a []∧SqT K H b ys∧Q (.ref b) H
theorem op_catT0:OpR X (binaryOp .Add) (rCatT0 X.K):=by
 intro pins s σ H x y v u Q I rx ry h; obtain ⟨a,b,ys,rfl,rfl,ha,hb,q⟩:=h; cases rx; cases ry; obtain ⟨its,r1,p1,_⟩:=I.tuple ha; obtain ⟨its2,r2,p2,_⟩:=I.tuple hb; cases r1; obtain ⟨⟨cls,dd,data,sl⟩,ho,hc,n,hd⟩:=id p1; obtain ⟨⟨cls2,dd2,data2,sl2⟩,ho2,hc2,n2,hd2⟩:=id p2; simp only at hc hd hc2 hd2; subst hc hd hc2 hd2
 exact concat_meets ⟨_,ho,rfl⟩ ⟨_,ho2,rfl⟩ noFill_tuple_add seq_tuple_add oQ nY (nQ _ _)
  (tuple_addW0 a b ([]:List Value).toArray its2.toArray n n2 dd dd2 sl sl2 (by simp)) ⟨ho,ho2,⟨.ref b,H,I,rfl,q⟩⟩
theorem pd_catT {d1 d2:List D} (ha:PEd X sd a (.val (.tup d1))) (hb:PEd X sd b (.val (.tup d2))) (hl:d1.length+d2.length≤1000):PEd X sd (.BinOp a .Add b pos) (.val (.tup (d1++d2))):=
 pd_op2 (op_catT0.or op_catT) ha hb trivial fun σ F H v u Q S q1 q2 k=>by
  simp only [ResOk,Rep] at q1 q2; obtain ⟨p,xs,e1,hp,rl⟩:=q1; obtain ⟨q,ys,e2,hq,rl2⟩:=q2; cases d1 with
  | nil=>simp only [RepL] at rl; subst rl; refine .inl ⟨p,q,ys,e1,e2, .of (S.sub _ _ hp), .of (S.sub _ _ hq),k _ F H S (Same.refl _) ?_⟩; simp only [ResOk,Rep,yH]; exact ⟨q,ys,rfl,hq,rl2⟩
  | cons z zs=>
   refine .inr ⟨p,q,xs,ys,e1,e2, .of (S.sub _ _ hp), .of (S.sub _ _ hq), ?_,by rw [rl.len,rl2.len]; exact dP (iA hl),fun hy=> ?_,fun hy p2 hp2=> ?_⟩
   ·intro hx; subst hx; obtain ⟨_,_,w,_⟩:=rl.uncons; cases w
   ·subst hy
    have:d2=[]:=by
     cases d2 with
     | nil=>rfl
     | cons w ws=>obtain ⟨_,_,w,_⟩:=rl2.uncons; cases w
    subst this; refine k _ F H S (Same.refl _) ?_; simp only [ResOk,Rep,dR]; exact ⟨p,xs,rfl,hp,rl⟩
   ·obtain ⟨S2,s2⟩:=S.lay (o:= .tup (xs++ys)) hp2 trivial; refine k _ _ _ S2 s2 ?_; simp only [ResOk,Rep]; exact ⟨p2,_,rfl,cS,(rl.app rl2).mono s2⟩
theorem tO {p:Pos} (hg:Gl X "tuple") (hm:X.mg "tuple"=none) (ha:PEd X sd e (.bor ds)) (hst:starEach [e] X.env=(false,eval e X.env)::starEach [] X.env:=by rfl):PEd X sd (.Call (.Name "tuple" p) [e] [] pos) (.val (.tup ds)):=
 tD (he:=hst) yO hg hm PyProof.Rows.boot_tuple (aH ha bF trivial hst) fun σ F H vs Q S q k=>by
  cases q with
  | cons q1 q2=>cases q2; obtain ⟨p,xs,rfl,hp,rl,_⟩:=q1; refine ⟨p,xs,rfl, .inl ⟨.of hp,fun l hl=> ?_⟩⟩; obtain ⟨S2,s2⟩:=S.lay (o:= .tup xs) hl trivial; refine k _ _ _ S2 s2 ?_; simp only [ResOk,Rep]; exact ⟨l,xs,rfl,cS,rl.mono s2⟩
end
def Ite (K:aB) (a:Addr):It:=
 ⟨fun i H=>∃xs x,SqL K H a xs∧xs[i]? =some x,fun i H x H'=>∃p v,x= .ref p∧H p=none∧H'=upd H p (.tup [.int i,v])∧∀xs,SqL K H a xs→xs[i]? =some v,fun i H=>∃xs,SqL K H a xs∧xs.length≤i⟩
theorem inv_two {X:Cx} {pins:List (Addr × Obj)} {σ:St} {H:Hp} {s:Shared} {h':Heap} {t':Nat} {e it:Addr} (I:Inv X pins σ H s) (k:∀b o,b≠e→b≠it→s.heap.get? b=some o→h'.get? b=some o) (f1:sW X pins H e) (f2:sW X pins H it):Inv X pins σ H {s with heap:=h',toks:=t'}:=by
 have nit:∀b u,H b=some u→b≠e∧b≠it:=fun b u q=>⟨fun z=>(by rw [z,f1.1] at q; cases q),fun z=>(by rw [z,f2.1] at q; cases q)⟩
 have ne:∀b,b∉[e,it]→b≠e∧b≠it:=fun b hc=>⟨fun z=>hc (by simp [z]),fun z=>hc (by simp [z])⟩
 refine I.step (g':=s.gens) (d':=s.drawn) (ch:=[e,it]) (fun b hb=> ?_) (fun b o _ _ hc q _=>k b o (ne b hc).1 (ne b hc).2 q) (fun b o _ _ hc q _=>⟨o.slots,k b o (ne b hc).1 (ne b hc).2 q⟩) (fun _ _ _ _ n=>n)
  (fun b o hc q=>⟨o,k b o (ne b hc).1 (ne b hc).2 q⟩) (fun _ _ q=>q) (fun _ _ _ q=>q) (fun b ps q=>⟨#[],by rw [q]; simp⟩) (fun m hm=> ?_) (fun b u q=> ?_) I.bare
 ·rcases aS.mp hb with z | hb
  ·subst z; exact ⟨f1.2.2.2.1,f1.2.1,f1.2.2.2.2.1,f1.2.2.2.2.2⟩
  ·have z:b=it:=by simpa using hb
   subst z; exact ⟨f2.2.2.2.1,f2.2.1,f2.2.2.2.2.1,f2.2.2.2.2.2⟩
 ·obtain ⟨o,es,ep,ho,r⟩:=hm; exact ⟨o,es,ep,k _ o (Ne.symm f1.2.1) (Ne.symm f2.2.1) ho,r⟩
 ·refine (I.hok b u q).stay (fun c v hc g=> ?_) (fun _ g=>g) fun _ _ g=>g
  rcases hc with z | z
  ·rw [z] at g ⊢; exact k b v (nit b u q).1 (nit b u q).2 g
  ·exact k c v (nit c _ z).1 (nit c _ z).2 g
theorem turn_enum {P:Program} {w:World} {K:aB} {elts:List Expr} {kk:Nat} {pos:Pos} (a e it:Addr) (hei:e≠it):yP P w K (.Tuple elts kk pos) (Ite K a) [e,it] e (fun i h=>(∃old,IsEnum h e it i old)∧h.IsListIter it a i) where
 mem:=by simp
 obj:=fun i h st b hb=>by
  obtain ⟨⟨old,he⟩,hit⟩:=st
  rcases aS.mp hb with z | hb
  ·subst z; exact ⟨_,he,fun v z=>by cases z⟩
  ·have z:b=it:=by simpa using hb
   subst z; obtain ⟨o,q,c,d⟩:=hit; exact ⟨o,q,fun v z=>by rw [d] at z; cases z⟩
 keep:=fun i h h' st k=>by obtain ⟨⟨old,he⟩,hit⟩:=st; exact ⟨⟨old,k e (by simp) _ he⟩,hit.at fun o q=>k it (by simp) o q⟩
 item:=by
  intro X hP hw hK hc i pins s σ H E I hf st hg; subst hP hw hK; obtain ⟨⟨old,he⟩,hit⟩:=st; obtain ⟨xs,x,hq,hx⟩:=hg; obtain ⟨its,rv,p,hz⟩:=I.list hq; obtain ⟨u,hu,ru⟩:=rv.get hx; have f1:=hf e (by simp); have f2:=hf it (by simp); refine wpAny_pyNext_enum_item he hit p.isList (x:=u) (by simpa using hu) hei fun h1 heo hit1 ht1 hz1 hk1=> ?_
  refine ⟨_,rfl,wpAny_letOwnedTupleGo_enum heo fun h2 he2 hs2=> ?_⟩; have hs2:Heap.SameBut e h1 h2:=hs2; have esz:e<s.heap.objs.size:=aI he; have isz:it<s.heap.objs.size:=by obtain ⟨_,q,_⟩:=hit; exact aI q
  have I1:Inv X pins σ H {s with heap:=h2,toks:=s.toks+1}:=inv_two I (fun b o h1' h2' q=>(hs2.2 b h1').trans (hk1 b o h1' h2' q)) f1 f2; have hn:H s.heap.objs.size=none:=I.hok.fresh (aN _); have g2:h2.get? s.heap.objs.size=some {cls:= .type "tuple",data:= .seq #[.int i s.toks,u]}:=(hs2.2 _ (eQ esz)).trans ht1
  have I2:Inv X pins σ (upd H s.heap.objs.size (.tup [.int i,x])) {s with heap:=h2,toks:=s.toks+1}:=by
   refine I1.track hn I.sz (eQ I.lt) (fun y c q=> ?_) (fun y hy=> ?_) ⟨by show 2≤sizeLine; decide,[.int i s.toks,u], .cons ⟨_,rfl⟩ (.cons ru .nil),⟨_,g2,rfl,⟨_,rfl⟩,rfl⟩⟩
   ·obtain ⟨v,o,ho,_⟩:=I.cell y c q; exact bH (aI ho)
   ·exact bH (aI (I.pin y hy).1)
  refine ⟨.ref s.heap.objs.size,_,I2,rfl,⟨_,x,rfl,hn,rfl,fun ys hy=>by rw [I.list_inj hy hq]; exact hx⟩,⟨⟨u, ?_⟩, ?_⟩,fun b hb=> ?_⟩
  ·have:((i+1:Nat):Int)=(i:Int)+1:=by push_cast; rfl
   rw [this]; exact he2
  ·exact hit1.at fun o q=>(hs2.2 it (Ne.symm hei)).trans q
  ·rcases aS.mp hb with z | hb
   ·subst z; rw [bW (bH esz)]; exact f1.1
   ·have z:b=it:=by simpa using hb
    subst z; rw [bW (bH isz)]; exact f2.1
 done:=by intro X hP hw hK hc i pins s σ H E I hf st hg; subst hP hw hK; obtain ⟨⟨old,he⟩,hit⟩:=st; obtain ⟨xs,hq,hx⟩:=hg; obtain ⟨its,rv,p,hz⟩:=I.list hq; obtain ⟨f0,f1,f2,f3,f4,f5⟩:=hf it (by simp); have hl:=rv.length; exact wpAny_pyNext_enum_end (I.ok.hd hc) he hit p.isList (by simp; omega) fun h' eb=>⟨rfl,I.turned (t':=s.toks) (fun b o hb q=>eb b o hb q) f0 f1 f3 f4 f5⟩
 self:=fun _ _ _ _ _ st h=>by obtain ⟨⟨old,he⟩,_⟩:=st; exact wpAny_pyIter_enum he h
section
variable {X:Cx} {sd:List Slot} {e a b c tg iter:Expr} {es:List Expr} {pos:Pos} {r ra rb:R} {d:D} {ds:List D} {st:Stmt} {rest:List Stmt} {E:jX}
def iEnum (K:aB) (ta:TA):TI:=fun σ H R=>ta σ H fun vs H1=>∃l,vs=[.ref l]∧(∃xs,SqL K H1 l xs)∧R (Ite K l) H1
theorem pi_enum {elts:List Expr} {kk:Nat} {tp:Pos} {ta:TA} {p:Pos} (hg:Gl X "enumerate") (hm:X.mg "enumerate"=none) (ha:PA X [a] ta) (hs:starEach [a] X.env=[(false,eval a X.env)]:=by rfl):PI X (.Tuple elts kk tp) (.Call (.Name "enumerate" p) [a] [] pos) (iEnum X.K ta):=by
 intro pins s σ H R I h; refine Call_ (mQ I hg hm boot_enumerate (PyProof.Rows.callWith_type1 (thn (ha pos pins s σ H _ I h) fun us s1 ⟨vs,H1,I1,r1,q1⟩=> ?_) hs rfl)); obtain ⟨l,rfl,⟨xs,hq⟩,q⟩:=q1; cases r1 with
 | cons r rr=>
  cases rr; cases r; obtain ⟨its,rv,p,hz⟩:=I1.list hq; refine call_enumerate_list p.isList fun h' he hit hsz hk=> ?_
  refine wpAny_pyIter_enum he ?_; have I2:Inv X pins σ H1 {s1 with heap:=h'}:=I1.kept (t':=s1.toks) hk; refine ⟨s1.heap.objs.size+1,[s1.heap.objs.size+1,s1.heap.objs.size],_,Ite X.K l,H1,rfl,I2,turn_enum l _ _ (Nat.succ_ne_self _),⟨⟨_,he⟩,hit⟩,fun b hb=> ?_,q⟩
  rcases aS.mp hb with z | hb
  ·subst z; exact I1.fpOk (oB _) (I1.hok.fresh (oB _))
  ·have z:b=s1.heap.objs.size:=by simpa using hb
   subst z; exact I1.fpOk (aN _) (I1.hok.fresh (aN _))
def vP (ds:List D):List D:=(bR ds.length).map fun (i:Nat)=>D.tup [.int (i:Int),ds.getD i .non]
theorem tM (ds:List D):(vP ds).length=ds.length:=by simp [vP]
theorem zS {ds:List D} {i:Nat} {d:D} (h:(vP ds)[i]? =some d):∃x,ds[i]? =some x∧d= .tup [.int (i:Int),x]:=by
 unfold vP at h; rw [cI] at h
 by_cases hi:i<ds.length
 ·rw [jP hi] at h; refine ⟨ds[i],by simp [hi], ?_⟩; rw [← cA.inj h]; simp [dD,hi]
 ·rw [dN (by simpa using hi)] at h; cases h
def LP (K:aB) (l:Addr) (ds:List D):Hp→Hp→Prop:=fun F H=>∃xs,H l=some (.lst xs)∧RepL K F ds xs
theorem itd_enum {F₁:Hp} {l:Addr}:ItD X.K F₁ (LP X.K l ds) (Ite X.K l) (vP ds):=fun F H _ sH sm hP i=>by
 obtain ⟨xs,hl,rl⟩:=hP; refine ⟨fun hi=> ?_,fun hi=> ?_,fun x H' d hd y=> ?_⟩
 ·rw [tM] at hi; exact ⟨xs,xs[i]'(by rw [rl.len]; exact hi), .of hl,by simp [rl.len,hi]⟩
 ·rw [tM] at hi; exact ⟨xs, .of hl,by rw [rl.len]; exact hi⟩
 ·obtain ⟨p,v,rfl,hp,rfl,hv⟩:=y; obtain ⟨z,hz,rfl⟩:=zS hd; have hv:=hv xs (.of hl); obtain ⟨v',h1,rz⟩:=rl.get hz; rw [hv] at h1; cases h1; have fp:F p=none:=sH.free hp; have s1:Same F (upd F p (.tup [.int i,v])):=fun b u q=>by rw [bW (cP q fp)]; exact q
  refine ⟨upd F p (.tup [.int i,v]),s1, ?_,fun H₀ σ sd S=>(S.lay (o:= .tup [.int i,v]) hp trivial).1⟩; simp only [Rep]; exact ⟨p,_,rfl,cS, .cons (by simp only [Rep]) (.one (rz.mono s1))⟩
theorem pid_enum {elts:List Expr} {kk:Nat} {tp p:Pos} (hg:Gl X "enumerate") (hm:X.mg "enumerate"=none) (ha:PEd X sd a (.val (.lst ds))) (hst:starEach [a] X.env=[(false,eval a X.env)]:=by rfl):
  PId X sd PT0 (.Tuple elts kk tp) (.Call (.Name "enumerate" p) [a] [] pos) (vP ds):= .mk fun σ F H S=>
 (pi_enum hg hm wF hst).to ((aH ha bF trivial (by rw [hst]; rfl) σ F H S).imp fun vs H1 ⟨F1,S1,s1,q1⟩=>by
  cases q1 with
  | cons q1 q2=>
   cases q2; simp only [ResOk,Rep] at q1; obtain ⟨l,xs,rfl,hl,rl⟩:=q1; refine ⟨l,rfl,⟨xs, .of (S1.sub _ _ hl)⟩,F1,S1,s1,fun F' H' sF sH sm _ i=> ?_⟩
   exact itd_enum (X:=X) (F₁:=F1) F' H' sF sH sm ⟨xs,sH _ _ (sF _ _ hl),rl.mono sF⟩ i)
def cutD (ds:List D) (lo hi:Option Int):List D:=(ds.drop (HT.sIx ds.length 0 lo)).take (HT.sIx ds.length ds.length hi - HT.sIx ds.length 0 lo)
theorem RepL.cut {K:aB} {H:Hp} {xs:List V} (r:RepL K H ds xs) (lo hi:Option Int):RepL K H (cutD ds lo hi) (cutV xs lo hi):=by unfold cutD cutV; rw [r.len]; exact (r.drop _).take _
def POd (X:Cx) (sd:List Slot) (e:Option Expr) (o:Option Int):Prop:=match e,o with
 | none,none=>True
 | some e,some i=>PEd X sd e (.val (.int i))
 | _,_=>False
theorem uT {eo:Option Expr} {o:Option Int} (h:POd X sd eo o):∃t:TO,PO X eo t∧∀ (σ:St) (F H:Hp),StF X.K X.B₀ F H σ sd→∀Q:Option Int→Hp→Prop,(∀F' H',StF X.K X.B₀ F' H' σ sd→Same F F'→Q o H')→t σ H Q:=by
 cases eo with
 | none=>
  cases o with
  | none=>exact ⟨_,po_none,fun σ F H S Q k=>k F H S (Same.refl _)⟩
  | some i=>exact h.elim
 | some e=>
  cases o with
  | none=>exact h.elim
  | some i=>have h:PEd X sd e (.val (.int i)):=h; refine ⟨_,po_some hX,fun σ F H S Q k=>(h σ F H S).imp fun v H1 ⟨F1,S1,s1,q1⟩=> ?_⟩; simp only [ResOk,Rep] at q1; exact ⟨i,q1,k F1 H1 S1 s1⟩
theorem tI {lo hi:Option Expr} {ol oh:Option Int} {p2:Pos} (ha:PEd X sd a (.bor ds)) (hl:POd X sd lo ol) (hh:POd X sd hi oh):PEd X sd (.Subscript a (.Slice lo hi none p2) pos) (.own (cutD ds ol oh)):= .mk fun σ F H S=>by obtain ⟨tl,pl,kl⟩:=uT hl; obtain ⟨th,ph,kh⟩:=uT hh; refine (pe_slice sl_list hX pl ph).to ((ha σ F H S).imp fun v H1 ⟨F1,S1,s1,q1⟩=>kl σ F1 H1 S1 _ fun F2 H2 S2 s2=>kh σ F2 H2 S2 _ fun F3 H3 S3 s3=> ?_); obtain ⟨l,xs,rfl,hl',rl,_⟩:=ResOk.keep (r:= .bor ds) trivial q1 S3 (s2.trans s3); refine ⟨l,xs,rfl, .of hl',fun p hp=> ?_⟩; obtain ⟨S4,fp,no⟩:=S3.layO (xs:=cutV xs ol oh) hp; exact ⟨F3,S4,(s1.trans s2).trans s3,p,_,rfl,fp,cS,rl.cut ol oh,no⟩
theorem rX {body:List Stmt} {P:Hp→Hp→Prop} (Sd:Nat→List Slot→Prop) (hi:PId X sd P tg iter ds) (h0:∃sd0,Le sd sd0∧Sd 0 sd0)
  (hb:∀k d sdk,ds[k]? =some d→Sd k sdk→∃sdt,PGd X sdk tg d sdt∧PSd X sdt body {E with nx:=fun sd'=>∃sd2,Le sd' sd2∧Sd (k+1) sd2,ct:=fun sd'=>∃sd2,Le sd' sd2∧Sd (k+1) sd2,bk:=E.nx}) (hE:∀sdn,Sd ds.length sdn→E.nx sdn) (hP:∀k sdk σ F H,Sd k sdk→StF X.K X.B₀ F H σ sdk→P F H:=by intros; trivial)
  (hc:X.calm=true:=by rfl) (hp:PassesOwn (model X.prog X.w) X.A X.env X.xe:=by exact PassesOwn.never) (hs:∀x,foldedSetIterable iter X.env x=pure x:=by intro _; rfl):PSd1 X sd (.For tg iter body [] pos) E:= .mk fun σ F H S=>
 (ps_for hp hc pi_w pg_w vT hs).to (by
  intro pins s I; refine thn (hi σ F H S pins s I) fun v s1 h1=>thn h1 fun itv s2 h2=> ?_
  obtain ⟨it,fp,tn,J,H2,e,I2,T,st2,f2,F1,S1,s1',itd⟩:=h2; refine ⟨it,fp,tn,J,H2,e,I2,T,st2,f2, ?_⟩; obtain ⟨sd0,le0,q0⟩:=h0; refine ⟨fun i m σ' H'=>m=ds.length - i∧i≤ds.length∧∃sdi F',StF X.K X.B₀ F' H' σ' sdi∧Same F1 F'∧Sd i sdi,⟨ds.length,by simp,bO _,sd0,F1,S1.le le0,Same.refl _,q0⟩, ?_⟩; rintro i m σ' H' ⟨rfl,hil,sdi,F',S',s',qi⟩; obtain ⟨g1,g2,g3⟩:=itd F' H' s' S'.sub S'.smp (hP _ _ _ _ _ qi S') i
  by_cases hlt:i<ds.length
  ·refine .inr ⟨g1 hlt,fun σ2 H2=>∃sd2 F2,StF X.K X.B₀ F2 H2 σ2 sd2∧Same F1 F2∧Sd (i+1) sd2,fun σ2 H2 ⟨sd2,F2,S2,s2,q2⟩=>⟨ds.length - (i+1),by omega,rfl,hlt,sd2,F2,S2,s2,q2⟩,fun x H2 y=> ?_⟩; have hd:ds[i]? =some ds[i]:=by simp [hlt]
   obtain ⟨F2,s2,rp,up⟩:=g3 x H2 ds[i] hd y; obtain ⟨sdt,hg,hbb⟩:=hb i _ sdi hd qi; refine (hg σ' F2 H2 x (up _ _ _ S') rp).imp fun σ3 H3 ⟨F3,S3,s3⟩=> ?_
   have base:Same F1 F3:=(s'.trans s2).trans s3; refine (hbb σ3 F3 H3 S3).imp ?_ ?_ ?_ ?_
   ·rintro σ4 H4 ⟨sd4,F4,S4,s4,sd5,le,q5⟩; exact ⟨sd5,F4,S4.le le,base.trans s4,q5⟩
   ·exact fun v H4 q=>q
   ·rintro σ4 H4 ⟨sd4,F4,S4,s4,q⟩; exact ⟨sd4,F4,S4,(s1'.trans base).trans s4,q⟩
   ·rintro σ4 H4 ⟨sd4,F4,S4,s4,sd5,le,q5⟩; exact ⟨sd5,F4,S4.le le,base.trans s4,q5⟩
  ·have e:i=ds.length:=by omega
   subst e
   exact .inl ⟨g2 (aN _),sdi,F',S',s1'.trans s',hE sdi qi⟩)
end
def iM (m:Nat):Nat→List (List Int)
 | 0=>[[]]
 | k+1=>(iM m k).flatMap fun s=>(bR m).map fun (w:Nat)=>s++[(w:Int)]
def bG (s:List Int):D:= .tup (s.map D.int)
def numI (m:Int) (ws:List Int):Int:=ws.foldl (fun n w=>n * m+w) 0
def chkF (b k:Nat):Bool:=let L:=iM (2^b) k; L.length==2^(b * k) && (bR L.length).all fun i=>let f:=L.getD i []; f.length==k && f.all (fun w=>decide (0≤w) && decide (w<2^b)) && decide (numI (2^b) f=i) && (i==0 || HT.lexLt (L.getD (i - 1) []) f)
theorem chk14:∀p∈dZ,chkF p.1.toNat p.2.toNat=true:=by decide+kernel
theorem sz14:∀p∈dZ,1≤p.1∧p.1≤6∧1≤p.2∧p.2≤6∧p.1 * p.2≤6:=by decide+kernel
theorem fil_mem {m:Nat}:∀ {k:Nat} {ws:List Int},ws.length=k→(∀w∈ws,0≤w∧w<m)→ws∈iM m k
 | 0,ws,h,_=>by have:ws=[]:=List.length_eq_zero_iff.mp h; subst this; simp [iM]
 | k+1,ws,h,hw=>by
  have hne:ws≠[]:=by intro z; subst z; simp at h
  have e:ws=ws.dropLast++[ws.getLast hne]:=(yI hne).symm; have hl:=hw (ws.getLast hne) (List.getLast_mem hne); have ih:ws.dropLast∈iM m k:=fil_mem (by rw [List.length_dropLast,h]; rfl) fun w hm=>hw w (List.dropLast_subset _ hm)
  show ws∈(iM m k).flatMap fun s=>(bR m).map fun (w:Nat)=>s++[(w:Int)]
  refine gM.mpr ⟨_,ih,bB.mpr ⟨(ws.getLast hne).toNat,bS.mpr (by omega), ?_⟩⟩; have:(((ws.getLast hne).toNat:Nat):Int)=ws.getLast hne:=by omega
  rw [this]; exact e.symm
structure FilOk (b k:Nat):Prop where
 len:(iM (2^b) k).length=2^(b * k)
 at_:∀i,i<2^(b * k)→((iM (2^b) k).getD i []).length=k∧(∀w∈(iM (2^b) k).getD i [],0≤w∧w<2^b)∧numI (2^b) ((iM (2^b) k).getD i [])=i∧(i=0∨HT.lexLt ((iM (2^b) k).getD (i - 1) []) ((iM (2^b) k).getD i [])=true)
theorem fil_ok {b k:Nat} (h:chkF b k=true):FilOk b k:=by unfold chkF at h; simp only [bN,beq_iff_eq,fH,bS,decide_eq_true_eq,iR] at h; obtain ⟨h1,h2⟩:=h; refine ⟨h1,fun i hi=> ?_⟩; obtain ⟨⟨⟨a,b⟩,c⟩,d⟩:=h2 i (by omega); exact ⟨a,b,c,d⟩
theorem fil_at {b k:Nat} (h:FilOk b k) {ws:List Int} (hl:ws.length=k) (hw:∀w∈ws,0≤w∧w<((2^b:Nat):Int)):0≤numI (2^b) ws∧(numI (2^b) ws).toNat<2^(b * k)∧(iM (2^b) k).getD (numI (2^b) ws).toNat []=ws:=by
 have hm:=fil_mem hl hw; obtain ⟨i,hi,e⟩:=List.mem_iff_getElem.mp hm; have e':(iM (2^b) k).getD i []=ws:=by simp [dD,hi,e]
 rw [h.len] at hi; have hn:=(h.at_ i hi).2.2.1; rw [e'] at hn; rw [hn]; refine ⟨by omega,by simpa using hi, ?_⟩; simpa using e'
theorem deq_ints:∀ (ws vs:List Int),mU (ws.map D.int) (vs.map D.int)=decide (ws=vs)
 | [],[]=>by simp [mU]
 | [],_::_=>by simp [mU]
 | _::_,[]=>by simp [mU]
 | w::ws,v::vs=>by
  simp only [bD,mU,deq,deq_ints ws vs]
  by_cases h1:w=v<;>by_cases h2:ws=vs<;>simp [h1,h2]
theorem deq_tupI (ws vs:List Int):deq (bG ws) (bG vs)=decide (ws=vs):=by unfold bG; simp only [deq,deq_ints]
theorem plL_ints:∀ws:List Int,plL (ws.map D.int)=true
 | []=>rfl
 | w::ws=>by simp [plL,pl,plL_ints ws]
theorem yY:∀ws:List Int,mV (ws.map D.int)=0
 | []=>rfl
 | w::ws=>by simp [mV,dep,yY ws]
theorem qK (ws:List Int):pl (bG ws)=true:=by simp [bG,pl,plL_ints]
theorem dep_tupI (ws:List Int):dep (bG ws)=1:=by simp [bG,dep,yY]
theorem mL:∀L:List (List Int),plL (L.map bG)=true
 | []=>rfl
 | w::ws=>by simp [plL,qK,mL ws]
theorem kB:∀L:List (List Int),mV (L.map bG)≤1
 | []=>by simp [mV]
 | w::ws=>by have:=kB ws; simp only [bD,mV,dep_tupI]; omega
theorem mul64 {i j:Int} (h1: -(2^64)<j) (h2:j<2^64):IntMulOk i j:= .of_right (intBits_le_64 h1 h2)
theorem pow_tab:∀n:Nat,n≤6→([.int 1, .int 2, .int 4, .int 8, .int 16, .int 32, .int 64]:List D)[n]? =some (.int (((2^n:Nat):Int))):=by
 intro n hn
 match n,hn with
 | 0,_=>rfl
 | 1,_=>rfl
 | 2,_=>rfl
 | 3,_=>rfl
 | 4,_=>rfl
 | 5,_=>rfl
 | 6,_=>rfl
theorem jK {L:List (List Int)} {k:Nat} {d:D} (h:(L.map bG)[k]? =some d):k<L.length∧d=bG (L.getD k []):=by
 rw [cI] at h; cases e:L[k]? with
 | none=>rw [e] at h; cases h
 | some z=>rw [e] at h; refine ⟨(cG.mp e).1, ?_⟩; rw [← cA.inj h,dD,e]; rfl
section
variable {X:Cx} {sd:List Slot} {e a b c tg iter:Expr} {es:List Expr} {pos:Pos} {r ra rb:R} {d:D} {ds:List D} {st:Stmt} {rest:List Stmt} {E:jX}
theorem zI (i:Nat) {x:Str} {p tp:Pos} {ix:Expr} {l:Addr} {n:Nat} (hs:sd[i]? =some (.own l ds)) (hx:PE X (.Name x p) (pD i)) (h:PEd X sd e (.val d)) (hi:PEd X sd ix (.val (.int (n:Int)))) (hn:n<ds.length) (hE:E.nx (sd.set i (.own l (ds.set n d))))
  (ha:∀v,assign (.Subscript (.Name x p) ix tp) X.env v=(do
   let ov ← holding [v] (eval (.Name x p) X.env)
   let iv ← holding [v,ov] (eval ix X.env)
   standAt tp
   holding [v,ov,iv] (setItem ov iv v)
   release [v,ov,iv] []):=by intro _; rfl)
  (hs1:swapsWithSole [.Subscript (.Name x p) ix tp] e pos.line X.env=pure false:=by rfl) (hw:swappedStores [.Subscript (.Name x p) ix tp] e X.env=pure none:=by rfl)
  (h1:(assignEach [.Subscript (.Name x p) ix tp] X.env).map (·.2)=[assign (.Subscript (.Name x p) ix tp) X.env]:=by rfl):PSd1 X sd (.Assign [.Subscript (.Name x p) ix tp] e pos) E:= .mk fun σ F H S=>
 (xN hX (pg_sub hx hX set_list ha) hs1 hw h1).to ((h σ F H S).imp fun v H1 ⟨F1,S1,s1,q1⟩=>by
  obtain ⟨o,g1,g2,n1,xs,q,rl⟩:=S1.slots.get hs; refine ⟨.ref l,by rw [g1,g2],(hi σ F1 H1 S1).imp fun y H2 ⟨F2,S2,s2,q2⟩=> ?_⟩; simp only [ResOk,Rep] at q2; subst q2; obtain ⟨o',g1',g2',n',xs',q',rl'⟩:=S2.slots.get hs; have lx:n<xs'.length:=by rw [rl'.len]; exact hn
  refine ⟨l,xs',(n:Int),n,rfl,rfl,q', ?_,_,F2,S2.wr hs (rl'.set (Rep.mono s2 q1) n),s1.trans s2,hE⟩; unfold ixN
  rw [if_pos (by omega),if_pos (by omega),eE])
end
def stepNames:List Str:=["and","or","xor","add","take","copy","put","not","up","down"]
def nm (k:Nat):Str:=stepNames.getD k "down"
def selfW (k:Nat) (m a:Int):Int:=match k with
 | 7=>m - 1 - a
 | 8=>a * 2%m
 | _=>a / 2
def anoW (k:Nat) (m a c:Int):Int:=match k with
 | 0=>Builtin.bitAnd a c
 | 1=>Builtin.bitOr a c
 | 2=>Builtin.bitXor a c
 | 3=>(a+c)%m
 | 4=>(a - c)%m
 | _=>c
def newW (k:Nat) (m a c n:Int):Int:=if k=6 then n else if 7≤k then selfW k m a else anoW k m a c
section
variable {X:Cx} {sd:List Slot} {e a b c tg iter:Expr} {es:List Expr} {pos:Pos} {d:D}
theorem sV {i j:Int} (ha:PEd X sd a (.val (.int i))) (hb:PEd X sd b (.val (.int j))):PEd X sd (.Compare a [.Eq] [b] pos) (.val (.bl (decide (i=j)))):=
 pd_cmp2 op_eq ha hb trivial (lI _) fun σ F H v u Q S q1 q2 k=>by
  simp only [ResOk,Rep] at q1 q2; subst q1; subst q2; refine ⟨rfl, ?_⟩; have e:decide (V.int i=V.int j)=decide (i=j):=by rw [sC,lA]
  rw [e]; exact k F H S (Same.refl _)
end
section
variable {X:Cx} {sd:List Slot} {e a b c tg iter o:Expr} {es:List Expr} {pos:Pos} {r ra rb:R} {d:D} {ds:List D} {st:Stmt} {rest:List Stmt} {E:jX}
theorem PEd.ic {i j:Int} (h:PEd X sd e (.val (.int i))) (q:i=j):PEd X sd e (.val (.int j)):=q▸h
theorem PWd.cast {k k':Bool} (h:PWd X sd e k) (q:k=k'):PWd X sd e k':=q▸h
end
mutual
def noL:D→Bool
 | .tup ds=>rG ds
 | .lst _=>false
 | .scr _=>false
 | .dic=>false
 | .dki _ _=>false
 | .any _=>false
 | _=>true
def rG:List D→Bool
 | []=>true
 | d::ds=>noL d && rG ds
end
def del (F:Hp) (l:Addr):Hp:=fun b=>if b=l then none else F b
theorem del_ne {F:Hp} {l b:Addr} (h:b≠l):del F l b=F b:=by unfold del; rw [if_neg h]
theorem del_same {F:Hp} {l:Addr}:del F l l=none:=by unfold del; rw [if_pos rfl]
mutual
theorem Rep.del {K:aB} {F:Hp} {l:Addr} {xs:List V} (hl:F l=some (.lst xs)):∀ {d:D} {v:V},noL d=true→Rep K F d v→Rep K (del F l) d v
 | .non,_,_,r=>by simpa only [Rep] using r
 | .bl _,_,_,r=>by simpa only [Rep] using r
 | .int _,_,_,r=>by simpa only [Rep] using r
 | .str _,_,_,r=>by simpa only [Rep] using r
 | .tup ds,v,h,r=>by
  simp only [Rep] at r ⊢; obtain ⟨a,ys,e,q,rl⟩:=r
  have ne:a≠l:=fun z=>by rw [z,hl] at q; cases q
  exact ⟨a,ys,e,by rw [del_ne ne]; exact q,RepL.del hl (by simpa only [noL] using h) rl⟩
 | .lst _,_,h,_=>by simp [noL] at h
 | .dic,_,h,_=>by simp [noL] at h
 | .dki _ _,_,h,_=>by simp [noL] at h
 | .any _,_,h,_=>by simp [noL] at h
 | .scr _,_,h,_=>by simp [noL] at h
theorem RepL.del {K:aB} {F:Hp} {l:Addr} {xs:List V} (hl:F l=some (.lst xs)):∀ {ds:List D} {ys:List V},rG ds=true→RepL K F ds ys→RepL K (del F l) ds ys
 | [],_,_,r=>by simpa only [RepL] using r
 | d::ds,ys,h,r=>by simp only [rG,bN] at h; obtain ⟨y,zs,rfl,a,rl⟩:=r.uncons; exact .cons (Rep.del hl h.1 a) (RepL.del hl h.2 rl)
end
theorem slots_of {K:aB} {F H:Hp}:∀ {sd:List Slot} {σ:St},σ.length=sd.length→(∀ (k:Nat) (z:Slot),sd[k]? =some z→∃o,σ[k]? =some o∧oK K F H z o)→SlotsOk K F H sd σ
 | [],[],_,_=>rfl
 | z::zs,o::r,hl,h=>by
  obtain ⟨o',e,q⟩:=h 0 z rfl; have:o=o':=by simpa using e
  subst this
  exact ⟨o,r,rfl,q,slots_of (by simpa using hl) fun k z hz=>by
   obtain ⟨o',e,q⟩:=h (k+1) z (by simpa using hz)
   exact ⟨o',by simpa using e,q⟩⟩
 | [],_::_,hl,_=>by simp at hl
 | _::_,[],hl,_=>by simp at hl
def okS:Slot→Bool
 | .own _ ds=>rG ds
 | .od _ _ ds=>rG ds
 | .ox _ _=>false
 | _=>true
section
variable {X:Cx} {sd:List Slot} {e a b c tg iter o:Expr} {es:List Expr} {pos:Pos} {r ra rb:R} {d:D} {ds:List D} {st:Stmt} {rest:List Stmt} {E:jX}
theorem PTd.cast {k k':Bool} (h:PTd X sd e k) (q:k=k'):PTd X sd e k':=q▸h
theorem psd_move (i j:Nat) {x y:Str} {p q:Pos} {l:Addr} (hs:sd[j]? =some (.own l ds)) (hN:X.N.Nodup) (hi:X.N[i]? =some x) (hx:Loc X.env.scope x) (hy:PE X (.Name y q) (pD j)) (hE:E.nx ((sd.set j .un).set i (.own l ds))) (hsw:swapsWith (.Name y q) (some (.Name x p)) pos.line X.env=pure false:=by rfl)
  (hf:X.fn x=true∨X.env.scope.names.lookup x=some .local:=by first | exact .inl rfl | exact .inr rfl | assumption):PSd1 X sd (.Assign [.Name x p] (.Name y q) pos) E:= .mk fun σ F H S=>
 (ps_set hN hi hx hy hsw hf).to (by
  obtain ⟨o,h1,h2,n,xs,g,rl⟩:=S.slots.get hs
  exact ⟨.ref l,by rw [h1,h2],_,F,(S.le (iZ sd j)).setO i n g rl (tP S.nd hs),Same.refl _,hE⟩)
theorem ptd_eqD (ha:PEd X sd a ra) (hb:PEd X sd b rb) (ka:ra.keeps) (kb:rb.keeps) (hs:(isT ra.toD=true∧isT rb.toD=true)∨(isL ra.toD=true∧isL rb.toD=true)) (p1:pl ra.toD=true) (p2:pl rb.toD=true) (hu:X.A.units+dep ra.toD+1<cLine):PTd X sd (.Compare a [.Eq] [b] pos) (deq ra.toD rb.toD):=
 jW (op_eqD X.K _ _ hs p1 p2 hu) ha hb ka (lI _) fun σ F H v u Q S q1 q2 k=>⟨q1.rep S ka,q2.rep S kb,k F H S (Same.refl _)⟩
theorem call_intB:pJ X (.type "int") (fun xs H Q=>∃k,xs=[.bl k]∧Q (.int (if k then 1 else 0)) H):=by intro pins s σ H xs us Q I r h; obtain ⟨k,rfl,q⟩:=h; obtain ⟨u,rfl,ru⟩:=zZ r; cases (show u=Value.bool k from ru); exact call_int_bool ⟨.int _,H,I.kept fun b o g=>g,⟨_,rfl⟩,q⟩
theorem oD {p:Pos} {k:Bool} (hg:Gl X "int") (hm:X.mg "int"=none) (ha:PEd X sd e (.val (.bl k))) (hst:starEach [e] X.env=(false,eval e X.env)::starEach [] X.env:=by rfl):PEd X sd (.Call (.Name "int" p) [e] [] pos) (.val (.int (if k then 1 else 0))):=
 tD (he:=hst) call_intB hg hm PyProof.Rows.boot_int (aH ha bF trivial hst) fun σ F H vs Q S q kk=>by
  cases q with
  | cons q1 q2=>cases q2; simp only [ResOk,Rep] at q1; subst q1; exact ⟨k,rfl,kk _ F H S (Same.refl _) (by simp only [ResOk,Rep])⟩
theorem pd_slS {ns:List Int} {lo hi:Option Expr} {ol oh:Option Int} {p2:Pos} (ha:PEd X sd a (.val (.scr ns))) (hl:POd X sd lo ol) (hh:POd X sd hi oh):PEd X sd (.Subscript a (.Slice lo hi none p2) pos) (.own (DL.cutD (ns.map D.int) ol oh)):= .mk fun σ F H S=>by
 obtain ⟨tl,pl,kl⟩:=uT hl; obtain ⟨th,ph,kh⟩:=uT hh; refine (pe_slice sl_list hX pl ph).to ((ha σ F H S).imp fun v H1 ⟨F1,S1,s1,q1⟩=>kl σ F1 H1 S1 _ fun F2 H2 S2 s2=>kh σ F2 H2 S2 _ fun F3 H3 S3 s3=> ?_); have q1:=Rep.mono (s2.trans (s3.trans S3.sub)) q1; simp only [Rep] at q1; obtain ⟨l,rfl,hl'⟩:=q1; refine ⟨l,_,rfl,hl',fun p hp=> ?_⟩; obtain ⟨S4,fp,no⟩:=S3.layO (xs:=cutV (ns.map V.int) ol oh) hp
 have rl:RepL X.K F3 (ns.map D.int) (ns.map V.int):=by
  have g:∀l:List Int,RepL X.K F3 (l.map D.int) (l.map V.int):=fun l=>by
   induction l with
   | nil=>exact .nil
   | cons k l ih=>exact .cons (by simp only [Rep]) ih
  exact g ns
 exact ⟨F3,S4,(s1.trans s2).trans s3,p,_,rfl,fp,cS,rl.cut ol oh,no⟩
end
def oE (x:Int):Nat→Int
 | 0=>x
 | k+1=>(oE x k * oE x k+48271 * oE x k+(k:Int))%2147483647
def rQ (x:Int) (m:Nat):List Int:=(bR m).map fun (k:Nat)=>(oE x (k+1) * 40692+7 * (k:Int))%2147483399
def cO (c:Int) (m:Nat):List Int:=if c%2=1 then yL (c / 2) (eD m 2147483647) else (rQ (c / 2%2147483647+48271) (m+1)).drop 1
theorem gU (c:Int) (m:Nat):(cO c m).length=m:=by
 unfold cO
 split
 ·rw [wH,qL]
 ·simp [rQ]
theorem digL_rng:∀ (ns:List Int) (x:Int),(∀n∈ns,n=2147483647)→∀z∈yL x ns,0≤z∧z<2147483647
 | [],x,_,z,hz=>by cases hz
 | n::ns,x,h,z,hz=>by
  have en:=h n aO; subst en
  rcases aS.mp hz with rfl | hz
  ·exact ⟨cH _ (by decide),bZ _ (by decide)⟩
  ·exact digL_rng ns _ (fun n hn=>h n (aM _ hn)) z hz
theorem stream_rng (c:Int) (m:Nat):∀z∈cO c m,0≤z∧z<2147483647:=by
 unfold cO
 split
 ·exact digL_rng _ _ fun n hn=>(List.mem_replicate.mp hn).2
 ·intro z hz; have hz:=jF hz; obtain ⟨k,_,rfl⟩:=bB.mp hz; have h1:=cH (oE (c / 2%2147483647+48271) (k+1) * 40692+7 * (k:Int)) (show (2147483399:Int)≠0 by decide); have h2:=bZ (oE (c / 2%2147483647+48271) (k+1) * 40692+7 * (k:Int)) (show (0:Int)<2147483399 by decide); exact ⟨h1,by omega⟩
theorem sT (c:Int) {m i:Nat} (h:i<m):0≤(cO c m).getD i 0∧(cO c m).getD i 0<2147483647:=stream_rng c m _ (getD_mem (by rw [gU]; exact h))
theorem strN_rng (x:Int) (hx:0≤x∧x<2147600000):∀k,0≤oE x k∧oE x k<2147600000
 | 0=>hx
 | k+1=>by have h1:=cH (oE x k * oE x k+48271 * oE x k+(k:Int)) (show (2147483647:Int)≠0 by decide); have h2:=bZ (oE x k * oE x k+48271 * oE x k+(k:Int)) (show (0:Int)<2147483647 by decide); exact ⟨h1,by show _%_<_; omega⟩
theorem strE_snoc (x:Int) (m:Nat):rQ x (m+1)=rQ x m++[(oE x (m+1) * 40692+7 * (m:Int))%2147483399]:=by unfold rQ; rw [mE,aR]; rfl
def CCell:List D→R→Prop:=fun ds r=>∃ (ns:List Int) (k:Nat),ds=[.scr ns, .int (k:Int)]∧k≤1000∧r= .val (.int (ns.getD k 0))
def uL:List D→R→Prop:=fun ds r=>∃ (c:Int) (m:Nat),ds=[.int c, .int (m:Int)]∧m≤200∧r= .own ((cO c m).map D.int)
def sizesB:List (Int × Int):=[(2,2),(1,2),(2,1),(1,3),(3,1),(1,4),(4,1),(1,1),(2,3),(3,2),(1,5),(5,1),(1,6),(6,1)]
def wK (c:Int):Int × Int:=sizesB.getD (c%14).toNat (2,2)
theorem sizesB_sub:∀p∈sizesB,p∈dZ:=by decide+kernel
theorem sizeB_mem (c:Int):wK c∈dZ:=by have h0:=cH c (show (14:Int)≠0 by decide); have h1:=bZ c (show (0:Int)<14 by decide); exact sizesB_sub _ (getD_mem (by show _<14; omega))
def CSizeB:List D→R→Prop:=fun ds r=>∃c,ds=[.int c]∧r= .val (dM (wK c))
def CTwo:List D→R→Prop:=fun ds r=>∃k:Int,ds=[.int k]∧0≤k∧k≤6∧r= .val (.int ((2^k.toNat:Nat):Int))
abbrev SQ:=Nat × Int × Int × Int
structure SqOk (p:Int × Int) (q:SQ):Prop where
 sz:p∈dZ
 k10:q.1<10
 i0:0≤q.2.1∧q.2.1<p.2
 j0:0≤q.2.2.1∧q.2.2.1<p.2
 n0:0≤q.2.2.2∧q.2.2.2<((2^p.1.toNat:Nat):Int)
abbrev SK:=SQ × Int
structure StkOk (p:Int × Int) (L:List SK):Prop where
 pos:0<L.length
 le:L.length≤8
 st:∀s∈L,SqOk p s.1∧1≤s.2∧s.2≤9
structure Fil (p:Int × Int) (ws:List Int):Prop where
 len:ws.length=p.2.toNat
 wd:∀w∈ws,0≤w∧w<((2^p.1.toNat:Nat):Int)
def nwQ (p:Int × Int) (q:SQ) (ws:List Int):Int:=newW q.1 ((2^p.1.toNat:Nat):Int) (ws.getD q.2.1.toNat 0) (ws.getD q.2.2.1.toNat 0) q.2.2.2
def onQ (p:Int × Int) (q:SQ) (ws:List Int):List Int:=ws.set q.2.1.toNat (nwQ p q ws)
def rowQ (p:Int × Int) (L:List SK) (row:List Nat) (ws:List Int):List Int:=row.foldl (fun f t=>onQ p (L.getD t default).1 f) ws
theorem mB {p:Int × Int} (hp:p∈dZ) {ws:List Int} (h:ws∈iM (2^p.1.toNat) p.2.toNat):Fil p ws:=by
 have g:∀ (m k:Nat),∀s∈iM m k,s.length=k∧∀x∈s,0≤x∧x<(m:Int):=fun m k=>by
  induction k with
  | zero=>
   intro s h; have:s=[]:=by simpa [iM] using h
   subst this; exact ⟨rfl,fun x hx=>by cases hx⟩
  | succ k ih=>
   intro s h; obtain ⟨t,ht,hs⟩:=gM.mp h; obtain ⟨w,hw,rfl⟩:=bB.mp hs; obtain ⟨a,b⟩:=ih t ht; refine ⟨by rw [cR,a]; rfl,fun x hx=> ?_⟩
   rcases aY.mp hx with hx | hx
   ·exact b x hx
   ·have e:x=(w:Int):=by simpa using hx
    have:=bS.mp hw; omega
 obtain ⟨a,b⟩:=g _ _ ws h; exact ⟨a,b⟩
def CFilB:List D→R→Prop:=fun ds r=>∃ws vs:List Int,ds=[bG ws,bG vs]∧ws.length≤100∧r= .val (.bl (decide (ws=vs)))
def prcL (L:List SK) (row:List Nat):List Int:=row.map fun t=>(L.getD t default).2
def sumI (l:List Int):Int:=preSum (fun i=>l.getD i 0) l.length
section
variable {X:Cx} {sd:List Slot} {e a b c tg iter o:Expr} {es:List Expr} {pos:Pos} {r ra rb:R} {d:D} {ds:List D} {st:Stmt} {rest:List Stmt} {E:jX}
theorem wB {p:Pos} (hg:Gl X "list") (hm:X.mg "list"=none) (ha:PEd X sd e (.bor ds)) (hst:starEach [e] X.env=(false,eval e X.env)::starEach [] X.env:=by rfl):PEd X sd (.Call (.Name "list" p) [e] [] pos) (.own ds):=
 tD (he:=hst) call_list_of hg hm PyProof.Rows.boot_list (aH ha bF trivial hst) fun σ F H vs Q S q k=>by
  cases q with
  | cons q1 q2=>cases q2; obtain ⟨p,xs,rfl,hp,rl,_⟩:=q1; refine ⟨p,xs,rfl, .inl (.of hp),fun l hl=> ?_⟩; obtain ⟨S2,fp,no⟩:=S.layO (xs:=xs) hl; exact k _ F _ S2 (Same.refl _) ⟨l,xs,rfl,fp,cS,rl,no⟩
end
mutual
theorem deq_refl:∀d:D,pl d=true→deq d d=true
 | .non,_=>rfl
 | .bl b,_=>by simp [deq]
 | .int i,_=>by simp [deq]
 | .str x,_=>by simp [deq]
 | .tup ds,h=>by simp only [deq]; exact tH ds (by simpa only [pl] using h)
 | .lst ds,h=>by simp only [deq]; exact tH ds (by simpa only [pl] using h)
 | .dic,h=>by simp [pl] at h
 | .dki _ _,h=>by simp [pl] at h
 | .any _,h=>by simp [pl] at h
 | .scr _,h=>by simp [pl] at h
theorem tH:∀ds:List D,plL ds=true→mU ds ds=true
 | [],_=>rfl
 | d::ds,h=>by simp only [plL,bN] at h; simp only [mU,bN]; exact ⟨deq_refl d h.1,tH ds h.2⟩
end
def ItAt (tp:Bool) (h:Heap) (it src:Addr) (i:Nat):Prop:=match tp with
 | true=>h.IsTupleIter it src i
 | false=>h.IsListIter it src i
def SqAt (tp:Bool) (h:Heap) (src:Addr) (xs:Array Value):Prop:=match tp with
 | true=>h.IsTuple src xs
 | false=>h.IsList src xs
theorem ItAt.ex {tp:Bool} {h:Heap} {it src:Addr} {i:Nat} (x:ItAt tp h it src i):∃o,h.get? it=some o∧∀v,o.data≠ .cell v:=by
 cases tp with
 | true=>obtain ⟨o,e,_,d⟩:=(show h.IsTupleIter it src i from x); exact ⟨o,e,fun v z=>by rw [d] at z; cases z⟩
 | false=>obtain ⟨o,e,_,d⟩:=(show h.IsListIter it src i from x); exact ⟨o,e,fun v z=>by rw [d] at z; cases z⟩
theorem ItAt.keep {tp:Bool} {h h':Heap} {it src:Addr} {i:Nat} (x:ItAt tp h it src i) (k:∀o,h.get? it=some o→h'.get? it=some o):ItAt tp h' it src i:=by
 cases tp with
 | true=>exact Heap.IsTupleIter.at (show h.IsTupleIter it src i from x) k
 | false=>exact Heap.IsListIter.at (show h.IsListIter it src i from x) k
theorem SqAt.keep {tp:Bool} {h h':Heap} {src:Addr} {xs:Array Value} (x:SqAt tp h src xs) (k:∀o,h.get? src=some o→h'.get? src=some o):SqAt tp h' src xs:=by
 cases tp with
 | true=>exact Heap.IsTuple.at (show h.IsTuple src xs from x) k
 | false=>exact Heap.IsList.at (show h.IsList src xs from x) k
theorem SqAt.lt {tp:Bool} {h:Heap} {src:Addr} {xs:Array Value} (x:SqAt tp h src xs):src<h.objs.size:=by
 cases tp with
 | true=>obtain ⟨o,e,_⟩:=(show h.IsTuple src xs from x); exact aI e
 | false=>obtain ⟨o,e,_⟩:=(show h.IsList src xs from x); exact aI e
section
variable {prog:Program} {w:World} {A:Around} {E:Value→Shared→Prop} {s:Shared}
theorem nxT_item {it t:Addr} {i:Nat} {items:Array Value} {x:Value} {Q:Value→Shared→Prop} (hit:s.heap.IsTupleIter it t i) (hl:s.heap.IsTuple t items) (hx:items[i]? =some x) (hQ:∀h',h'.IsTupleIter it t (i+1)→Heap.SameBut it s.heap h'→Q x {s with heap:=h'}):wpAny (model prog w) A (Builtin.SmallTypes.nextOf (.ref it)) Q E s:=by unfold Builtin.SmallTypes.nextOf; obtain ⟨o,ho,hc,hd⟩:=id hit; obtain ⟨ol,hol,_,nl,hdl⟩:=hl; refine wpAny_bind (wpAny_callSpecial?_slot (name:=Str.ofString "__next__") hit.typeIs F.slot_tuple_iterator_next (wpAny_call_entry F.slot_tuple_iterator_next hit.typeIs F.entry_tuple_iterator_next ?_ (F.args_tuple_iterator_next_1 _))); show wpAny _ _ (field (.ref it) 0>>=fun l=>if (l==Value.none)=true then _ else field (.ref it) 1>>=_) _ _ s; refine wpAny_bind (wpAny_field ho hd (x:= .ref t) rfl ?_); rw [if_neg (by exact bV)]; refine wpAny_bind (wpAny_field ho hd (x:= .int i 0) rfl (show wpAny _ _ (seqItems? (.ref t)>>=_) _ _ s from wpAny_bind (wpAny_seqItems hol hdl ?_))); simp only [eE,hx]; refine wpAny_bind (wpAny_setField ho hd (by simp) (wpAny_pure ⟨x,rfl,wpAny_pure (hQ _ ⟨_,fD _ ho (Obj.isFreed_of_fields (Obj.data_mapFields hd _)),(Obj.cls_mapFields ..).trans hc, ?_⟩ (Heap.SameBut.update ..))⟩)); rw [Obj.data_mapFields hd]; simp [rawInt]
theorem nxT_end {it t:Addr} {i:Nat} {items:Array Value} {Q:Value→Shared→Prop} (hh:A.handled=none) (hit:s.heap.IsTupleIter it t i) (hl:s.heap.IsTuple t items) (hx:items[i]? =none)
  (hE:∀h' e,Heap.ExtBut it s.heap h'→(∃o,h'.get? e=some o∧o.cls= .type "StopIteration")→E (.ref e) {s with heap:=h'}):wpAny (model prog w) A (Builtin.SmallTypes.nextOf (.ref it)) Q E s:=by
 unfold Builtin.SmallTypes.nextOf; obtain ⟨o,ho,hc,hd⟩:=id hit; obtain ⟨ol,hol,_,nl,hdl⟩:=hl; refine wpAny_bind (wpAny_callSpecial?_slot (name:=Str.ofString "__next__") hit.typeIs F.slot_tuple_iterator_next (wpAny_call_entry F.slot_tuple_iterator_next hit.typeIs F.entry_tuple_iterator_next ?_ (F.args_tuple_iterator_next_1 _))); show wpAny _ _ (field (.ref it) 0>>=fun l=>if (l==Value.none)=true then _ else field (.ref it) 1>>=_) _ _ s; refine wpAny_bind (wpAny_field ho hd (x:= .ref t) rfl ?_); rw [if_neg (by exact bV)]; refine wpAny_bind (wpAny_field ho hd (x:= .int i 0) rfl (show wpAny _ _ (seqItems? (.ref t)>>=_) _ _ s from wpAny_bind (wpAny_seqItems hol hdl ?_))); simp only [eE,hx]; refine wpAny_bind (wpAny_rule (wpAny_bind (wpAny_setField ho hd (by simp) (show wpAny _ _ (newExc (.type "StopIteration") []>>=_) _ _ _ from wpAny_bind ?_)))); simp only [newExc,newTuple]; refine wpAny_bind (wpAny_newObj_type (wpAny_bind (m:=firstArgMember _ _) (wpAny_of_eq (a:=Value.none) (by first | rfl | (simp only [firstArgMember]; rfl)) (wpAny_newObj_type ?_ (by size_fits)))) (by size_fits)); simp only [raiseNew]; refine wpAny_bind (wpAny_handled ?_); rw [show A.in1.handled=none from hh]; exact wpAny_bind (wpAny_pure (wpAny_throw (hE _ _ (((Heap.SameBut.update ..).extBut.push _).push _) ⟨_,aV _ rfl,rfl⟩)))
theorem nx_item {tp:Bool} {it t:Addr} {i:Nat} {items:Array Value} {x:Value} {Q:Value→Shared→Prop} (hit:ItAt tp s.heap it t i) (hl:SqAt tp s.heap t items) (hx:items[i]? =some x) (hQ:∀h',ItAt tp h' it t (i+1)→Heap.SameBut it s.heap h'→Q x {s with heap:=h'}):wpAny (model prog w) A (Builtin.SmallTypes.nextOf (.ref it)) Q E s:=by
 cases tp with
 | true=>exact nxT_item hit hl hx hQ
 | false=>exact wpAny_nextOf_list_item hit hl hx hQ
theorem nx_end {tp:Bool} {it t:Addr} {i:Nat} {items:Array Value} {Q:Value→Shared→Prop} (hh:A.handled=none) (hit:ItAt tp s.heap it t i) (hl:SqAt tp s.heap t items) (hx:items[i]? =none)
  (hE:∀h' e,Heap.ExtBut it s.heap h'→(∃o,h'.get? e=some o∧o.cls= .type "StopIteration")→E (.ref e) {s with heap:=h'}):wpAny (model prog w) A (Builtin.SmallTypes.nextOf (.ref it)) Q E s:=by
 cases tp with
 | true=>exact nxT_end hh hit hl hx hE
 | false=>exact wpAny_nextOf_list_end hh hit hl hx hE
theorem zz_item {p1 p2:Bool} {z TI TO i1 i2 l1 l2:Addr} {k1 k2:Nat} {xs ys:Array Value} {x y a b:Value} {Q:Value→Shared→Prop} (D:ZipApart z TI TO i1 i2 l1 l2)
  (hz:IsZip s.heap z TI TO .none) (hTI:IsPair s.heap TI (.ref i1) (.ref i2)) (hTO:IsPair s.heap TO a b) (h1:ItAt p1 s.heap i1 l1 k1) (h2:ItAt p2 s.heap i2 l2 k2) (hl1:SqAt p1 s.heap l1 xs) (hl2:SqAt p2 s.heap l2 ys) (hx:xs[k1]? =some x) (hy:ys[k2]? =some y)
  (hQ:∀h',IsZip h' z TI TO (rawInt s.heap.objs.size)→IsPair h' TO x y→ItAt p1 h' i1 l1 (k1+1)→ItAt p2 h' i2 l2 (k2+1)→IsPair h' s.heap.objs.size x y→h'.objs.size=s.heap.objs.size+1→(∀c o,c≠z→c≠TO→c≠i1→c≠i2→s.heap.get? c=some o→h'.get? c=some o)→Q (.ref s.heap.objs.size) {s with heap:=h'}):
  wpAny (model prog w) A (Builtin.«zip.__next__» ⟨[.ref z],[]⟩) (fun fin s'=>∃v,fin= .done (.ret v)∧Q v s') E s:=by
 refine (show wpAny _ _ (field (.ref z) 2>>=fun _=>field (.ref z) 3>>=_) _ _ _ from wpAny_bind (wpAny_field hz rfl (x:= .bool false) rfl (wpAny_bind (wpAny_field hz rfl (x:= .ref TI) rfl (wpAny_bind (wpAny_seqItems hTI rfl ?_)))))); refine (show wpAny _ _ (Builtin.SmallTypes.ownedTupleIsFree (.ref z)>>=_) _ _ _ from wpAny_bind ?_); unfold Builtin.SmallTypes.ownedTupleIsFree; refine wpAny_bind (wpAny_field hz rfl (x:= .none) rfl (wpAny_pure ?_)); simp only [if_true]; refine wpAny_bind (wpAny_rule (wpAny_bind (wpAny_field hz rfl (x:= .ref TO) rfl (wpAny_bind (wpAny_setField_rec hz (by simp) fun g1 hz1 s1=> ?_)))))
 replace hz1:IsZip g1 z TI TO .ellipsis:=hz1
 refine wpAny_bind ?_; simp only [lD,pS,jS,nI]; have s1':=s1.extBut; refine wpAny_bind (wpAny_bind (wpAny_onRaise (show wpAny _ _ (Builtin.SmallTypes.nextOf (.ref i1)>>=_) _ _ _ from wpAny_bind (nx_item (h1.keep fun o e=>s1' _ _ D.i1z e) (hl1.keep fun o e=>s1' _ _ D.l1z e) hx fun g2 n1 s2=>wpAny_pure ?_)))); have s2':=s2.extBut; have o2:IsPair g2 TO a b:=s2' _ _ D.TOi1 (s1' _ _ D.TOz hTO); refine wpAny_bind (wpAny_seqItems o2 rfl (wpAny_bind (wpAny_updateSeq_pair o2 fun g3 o3 s3=>wpAny_bind (wpAny_letGo (wpAny_pure ?_)))))
 replace o3:IsPair g3 TO x b:=o3
 have s3':=s3.extBut; refine wpAny_bind (wpAny_bind (wpAny_onRaise (show wpAny _ _ (Builtin.SmallTypes.nextOf (.ref i2)>>=_) _ _ _ from wpAny_bind (nx_item (h2.keep fun o e=>s3' _ _ D.TOi2.symm (s2' _ _ D.i12.symm (s1' _ _ D.i2z e))) (hl2.keep fun o e=>s3' _ _ D.l2TO (s2' _ _ D.l2i1 (s1' _ _ D.l2z e))) hy fun g4 n2 s4=>wpAny_pure ?_)))); have s4':=s4.extBut; have o4:IsPair g4 TO x b:=s4' _ _ D.TOi2 o3; refine wpAny_bind (wpAny_seqItems o4 rfl (wpAny_bind (wpAny_updateSeq_pair o4 fun g5 o5 s5=>wpAny_bind (wpAny_letGo (wpAny_pure (wpAny_pure ?_))))))
 replace o5:IsPair g5 TO x y:=o5
 have s5':=s5.extBut; refine wpAny_bind (wpAny_seqItems o5 rfl (wpAny_bind (wpAny_newTuple ?_))); have sz:g5.objs.size=s.heap.objs.size:=by rw [s5.1,s4.1,s3.1,s2.1,s1.1]
 have z5:IsZip g5 z TI TO .ellipsis:=s5' _ _ D.TOz.symm (s4' _ _ D.i2z.symm (s3' _ _ D.TOz.symm (s2' _ _ D.i1z.symm hz1))); have k5:∀c o,c≠z→c≠TO→c≠i1→c≠i2→s.heap.get? c=some o→g5.get? c=some o:=fun c o c1 c2 c3 c4 e=>s5' _ _ c2 (s4' _ _ c4 (s3' _ _ c2 (s2' _ _ c3 (s1' _ _ c1 e))))
 have m1:ItAt p1 g5 i1 l1 (k1+1):=n1.keep fun o e=>s5' _ _ D.TOi1.symm (s4' _ _ D.i12 (s3' _ _ D.TOi1.symm e))
 have m2:ItAt p2 g5 i2 l2 (k2+1):=n2.keep fun o e=>s5' _ _ D.TOi2.symm e
 have zlt:z<g5.objs.size:=aI z5; refine (show wpAny _ _ (Builtin.SmallTypes.ownedTupleHandOut (.ref z) (.ref g5.objs.size)>>=_) _ _ _ from wpAny_bind ?_); unfold Builtin.SmallTypes.ownedTupleHandOut; refine wpAny_bind (wpAny_setField_rec (show IsZip (g5.push {cls:= .type "tuple",data:= .seq #[x,y]}) z TI TO .ellipsis from aA _ z5) (by simp) fun g7 z7 s7=> ?_)
 replace z7:IsZip g7 z TI TO (rawInt g5.objs.size):=z7
 refine wpAny_setField_rec z7 (by simp) fun g8 z8 s8=> ?_
 replace z8:IsZip g8 z TI TO (rawInt g5.objs.size):=z8
 have up:∀c o,c≠z→g5.get? c=some o→g8.get? c=some o:=fun c o c1 e=>s8.extBut _ _ c1 (s7.extBut _ _ c1 (aA _ e))
 have t8:IsPair g8 g5.objs.size x y:=s8.extBut _ _ (eQ zlt) (s7.extBut _ _ (eQ zlt) (aV _ rfl)); have q8:g8.objs.size=g5.objs.size+1:=by rw [s8.1,s7.1,fE]
 rw [sz] at z8 t8 q8; refine wpAny_pure ⟨_,rfl,show Q (.ref g5.objs.size) _ from ?_⟩; rw [sz]; exact hQ g8 z8 (up _ _ D.TOz o5) (m1.keep fun o e=>up _ o D.i1z e) (m2.keep fun o e=>up _ o D.i2z e) t8 q8 fun c o c1 c2 c3 c4 e=>up c o c1 (k5 c o c1 c2 c3 c4 e)
theorem zz_end {p1 p2:Bool} {z TI TO i1 i2 l1 l2:Addr} {k1 k2:Nat} {xs ys:Array Value} {a b:Value} {Q:Fin→Shared→Prop} (hh:A.handled=none) (D:ZipApart z TI TO i1 i2 l1 l2)
  (hz:IsZip s.heap z TI TO .none) (hTI:IsPair s.heap TI (.ref i1) (.ref i2)) (hTO:IsPair s.heap TO a b) (h1:ItAt p1 s.heap i1 l1 k1) (h2:ItAt p2 s.heap i2 l2 k2) (hl1:SqAt p1 s.heap l1 xs) (hl2:SqAt p2 s.heap l2 ys) (hend:xs[k1]? =none∨ys[k2]? =none)
  (hE:∀h' e,(∀c o,c≠z→c≠TO→c≠i1→c≠i2→s.heap.get? c=some o→h'.get? c=some o)→(∃o,h'.get? e=some o∧o.cls= .type "StopIteration")→E (.ref e) {s with heap:=h'}):
  wpAny (model prog w) A (Builtin.«zip.__next__» ⟨[.ref z],[]⟩) Q E s:=by
 refine (show wpAny _ _ (field (.ref z) 2>>=fun _=>field (.ref z) 3>>=_) _ _ _ from wpAny_bind (wpAny_field hz rfl (x:= .bool false) rfl (wpAny_bind (wpAny_field hz rfl (x:= .ref TI) rfl (wpAny_bind (wpAny_seqItems hTI rfl ?_)))))); refine (show wpAny _ _ (Builtin.SmallTypes.ownedTupleIsFree (.ref z)>>=_) _ _ _ from wpAny_bind ?_); unfold Builtin.SmallTypes.ownedTupleIsFree; refine wpAny_bind (wpAny_field hz rfl (x:= .none) rfl (wpAny_pure ?_)); simp only [if_true]; refine wpAny_bind (wpAny_rule (wpAny_bind (wpAny_field hz rfl (x:= .ref TO) rfl (wpAny_bind (wpAny_setField_rec hz (by simp) fun g1 hz1 s1=> ?_)))))
 replace hz1:IsZip g1 z TI TO .ellipsis:=hz1
 refine wpAny_bind ?_; simp only [lD,pS,jS,nI]; have s1':=s1.extBut; refine wpAny_bind (wpAny_bind (wpAny_onRaise (show wpAny _ _ (Builtin.SmallTypes.nextOf (.ref i1)>>=_) _ _ _ from ?_))); cases hx:xs[k1]? with
 | none=>
  refine wpAny_bind (nx_end hh (h1.keep fun o e=>s1' _ _ D.i1z e) (hl1.keep fun o e=>s1' _ _ D.l1z e) hx fun g2 e s2 he=> ?_); obtain ⟨oe,hoe,hce⟩:=he; have z2:IsZip g2 z TI TO .ellipsis:=s2 _ _ D.i1z.symm hz1; have ne:e≠z:=fun x=>by subst x; rw [z2] at hoe; cases hoe; simp at hce
  exact wpAny_setField_rec z2 (by simp) fun g3 _ s3=>hE g3 e (fun c o c1 _ c3 _ x=>s3.extBut _ _ c1 (s2 _ _ c3 (s1' _ _ c1 x))) ⟨oe,s3.extBut _ _ ne hoe,hce⟩
 | some x=>
  have hy:ys[k2]? =none:=by
   rcases hend with h | h
   ·rw [hx] at h; cases h
   ·exact h
  refine wpAny_bind (nx_item (h1.keep fun o e=>s1' _ _ D.i1z e) (hl1.keep fun o e=>s1' _ _ D.l1z e) hx fun g2 n1 s2=>wpAny_pure ?_); have s2':=s2.extBut; have o2:IsPair g2 TO a b:=s2' _ _ D.TOi1 (s1' _ _ D.TOz hTO); refine wpAny_bind (wpAny_seqItems o2 rfl (wpAny_bind (wpAny_updateSeq_pair o2 fun g3 o3 s3=>wpAny_bind (wpAny_letGo (wpAny_pure ?_))))); have s3':=s3.extBut; refine wpAny_bind (wpAny_bind (wpAny_onRaise (show wpAny _ _ (Builtin.SmallTypes.nextOf (.ref i2)>>=_) _ _ _ from wpAny_bind (nx_end hh (h2.keep fun o e=>s3' _ _ D.TOi2.symm (s2' _ _ D.i12.symm (s1' _ _ D.i2z e))) (hl2.keep fun o e=>s3' _ _ D.l2TO (s2' _ _ D.l2i1 (s1' _ _ D.l2z e))) hy fun g4 e s4 he=> ?_)))); obtain ⟨oe,hoe,hce⟩:=he; have z4:IsZip g4 z TI TO .ellipsis:=s4 _ _ D.i2z.symm (s3' _ _ D.TOz.symm (s2' _ _ D.i1z.symm hz1)); have ne:e≠z:=fun x=>by subst x; rw [z4] at hoe; cases hoe; simp at hce
  exact wpAny_setField_rec z4 (by simp) fun g5 _ s5=>hE g5 e (fun c o c1 c2 c3 c4 x=>s5.extBut _ _ c1 (s4 _ _ c4 (s3' _ _ c2 (s2' _ _ c3 (s1' _ _ c1 x))))) ⟨oe,s5.extBut _ _ ne hoe,hce⟩
theorem zzN_item {p1 p2:Bool} {z TI TO i1 i2 l1 l2:Addr} {k1 k2:Nat} {xs ys:Array Value} {x y a b:Value} {Q:Option Value→Shared→Prop} (D:ZipApart z TI TO i1 i2 l1 l2)
  (hz:IsZip s.heap z TI TO .none) (hTI:IsPair s.heap TI (.ref i1) (.ref i2)) (hTO:IsPair s.heap TO a b) (h1:ItAt p1 s.heap i1 l1 k1) (h2:ItAt p2 s.heap i2 l2 k2) (hl1:SqAt p1 s.heap l1 xs) (hl2:SqAt p2 s.heap l2 ys) (hx:xs[k1]? =some x) (hy:ys[k2]? =some y)
  (hQ:∀h',IsZip h' z TI TO (rawInt s.heap.objs.size)→IsPair h' TO x y→ItAt p1 h' i1 l1 (k1+1)→ItAt p2 h' i2 l2 (k2+1)→IsPair h' s.heap.objs.size x y→h'.objs.size=s.heap.objs.size+1→(∀c o,c≠z→c≠TO→c≠i1→c≠i2→s.heap.get? c=some o→h'.get? c=some o)→Q (some (.ref s.heap.objs.size)) {s with heap:=h'}):
  wpAny (model prog w) A (pyNext (.ref z)) Q E s:=by
 have hT:s.TypeIs (.ref z) "zip":=⟨_,hz,rfl⟩; unfold pyNext; exact wpAny_bind (wpAny_attempt (wpAny_callSpecial?_slot (name:=Str.ofString "__next__") hT F.slot_zip_next (wpAny_call_entry F.slot_zip_next hT F.entry_zip_next (zz_item D hz hTI hTO h1 h2 hl1 hl2 hx hy fun h' a1 a2 a3 a4 a5 a6 a7=>wpAny_pure (hQ h' a1 a2 a3 a4 a5 a6 a7)) (F.args_zip_next_1 _))))
theorem zzN_end {p1 p2:Bool} {z TI TO i1 i2 l1 l2:Addr} {k1 k2:Nat} {xs ys:Array Value} {a b:Value} {Q:Option Value→Shared→Prop} (hh:A.handled=none) (D:ZipApart z TI TO i1 i2 l1 l2)
  (hz:IsZip s.heap z TI TO .none) (hTI:IsPair s.heap TI (.ref i1) (.ref i2)) (hTO:IsPair s.heap TO a b) (h1:ItAt p1 s.heap i1 l1 k1) (h2:ItAt p2 s.heap i2 l2 k2) (hl1:SqAt p1 s.heap l1 xs) (hl2:SqAt p2 s.heap l2 ys) (hend:xs[k1]? =none∨ys[k2]? =none)
  (hQ:∀h',(∀c o,c≠z→c≠TO→c≠i1→c≠i2→s.heap.get? c=some o→h'.get? c=some o)→Q none {s with heap:=h'}):wpAny (model prog w) A (pyNext (.ref z)) Q E s:=by
 have hT:s.TypeIs (.ref z) "zip":=⟨_,hz,rfl⟩; unfold pyNext; refine wpAny_bind (wpAny_attempt (wpAny_callSpecial?_slot (name:=Str.ofString "__next__") hT F.slot_zip_next (wpAny_call_entry F.slot_zip_next hT F.entry_zip_next (zz_end hh D hz hTI hTO h1 h2 hl1 hl2 hend fun h' e hk he=> ?_) (F.args_zip_next_1 _)))); obtain ⟨o,ho,hc⟩:=he; exact wpAny_bind (wpAny_isInstance (T:="StopIteration") (b:=true) ⟨o,ho,hc⟩ isSubtype_stop (wpAny_pure (hQ _ hk)))
end
theorem inv_ch {X:Cx} {pins:List (Addr × Obj)} {σ:St} {H:Hp} {s:Shared} {h':Heap} {t':Nat} {ch:List Addr} (I:Inv X pins σ H s) (k:∀b o,b∉ch→s.heap.get? b=some o→h'.get? b=some o) (f:∀b∈ch,sW X pins H b):Inv X pins σ H {s with heap:=h',toks:=t'}:=by
 have nit:∀b u,H b=some u→b∉ch:=fun b u q hb=>by rw [(f b hb).1] at q; cases q
 refine I.step (g':=s.gens) (d':=s.drawn) (ch:=ch) (fun b hb=> ?_) (fun b o _ _ hc q _=>k b o hc q) (fun b o _ _ hc q _=>⟨o.slots,k b o hc q⟩) (fun _ _ _ _ n=>n) (fun b o hc q=>⟨o,k b o hc q⟩) (fun _ _ q=>q) (fun _ _ _ q=>q) (fun b ps q=>⟨#[],by rw [q]; simp⟩) (fun m hm=> ?_) (fun b u q=> ?_) I.bare
 ·have z:=f b hb; exact ⟨z.2.2.2.1,z.2.1,z.2.2.2.2.1,z.2.2.2.2.2⟩
 ·obtain ⟨o,es,ep,ho,r⟩:=hm; exact ⟨o,es,ep,k _ o (fun hb=>(f _ hb).2.1 rfl) ho,r⟩
 ·refine (I.hok b u q).stay (fun c v hc g=> ?_) (fun _ g=>g) fun _ _ g=>g
  rcases hc with z | z
  ·rw [z] at g ⊢; exact k b v (nit b u q) g
  ·exact k c v (nit c _ z) g
def SqB (tp:Bool) (K:aB) (H:Hp) (a:Addr) (xs:List V):Prop:=match tp with
 | true=>SqT K H a xs
 | false=>SqL K H a xs
theorem tJ {X:Cx} {pins:List (Addr × Obj)} {σ:St} {H:Hp} {s:Shared} {tp:Bool} {a:Addr} {xs:List V} (I:Inv X pins σ H s) (h:SqB tp X.K H a xs):∃its:List Value,Vals xs its∧SqAt tp s.heap a its.toArray:=by
 cases tp with
 | true=>obtain ⟨its,rv,p,_⟩:=I.tuple (show SqT X.K H a xs from h); exact ⟨its,rv,p⟩
 | false=>obtain ⟨its,rv,p,_⟩:=I.list (show SqL X.K H a xs from h); exact ⟨its,rv,p.isList⟩
theorem sqB_inj {X:Cx} {pins:List (Addr × Obj)} {σ:St} {H:Hp} {s:Shared} {tp:Bool} {a:Addr} {xs ys:List V} (I:Inv X pins σ H s) (h:SqB tp X.K H a xs) (g:SqB tp X.K H a ys):xs=ys:=by
 cases tp with
 | true=>exact I.tuple_inj h g
 | false=>exact I.list_inj h g
def Itz (p1 p2:Bool) (K:aB) (a b:Addr):It:=
 ⟨fun i H=>∃xs ys x y,SqB p1 K H a xs∧SqB p2 K H b ys∧xs[i]? =some x∧ys[i]? =some y,fun i H v H'=>∃p x y,v= .ref p∧H p=none∧H'=upd H p (.tup [x,y])∧(∀xs,SqB p1 K H a xs→xs[i]? =some x)∧∀ys,SqB p2 K H b ys→ys[i]? =some y,fun i H=>∃xs ys,SqB p1 K H a xs∧SqB p2 K H b ys∧(xs.length≤i∨ys.length≤i)⟩
theorem turn_zip {P:Program} {w:World} {K:aB} {elts:List Expr} {kk:Nat} {pos:Pos} {p1 p2:Bool} (a b z TI TO i1 i2:Addr) (D:ZipApart z TI TO i1 i2 a b):yP P w K (.Tuple elts kk pos) (Itz p1 p2 K a b) [z,TO,i1,i2,TI] z (fun i h=>IsZip h z TI TO .none∧IsPair h TI (.ref i1) (.ref i2)∧(∃c d,IsPair h TO c d)∧ItAt p1 h i1 a i∧ItAt p2 h i2 b i) where
 mem:=by simp
 obj:=fun i h st c hc=>by
  obtain ⟨hz,hTI,⟨x,y,hTO⟩,h1,h2⟩:=st; simp only [aS,cU,or_false] at hc
  rcases hc with rfl | rfl | rfl | rfl | rfl
  ·exact ⟨_,hz,fun v q=>by cases q⟩
  ·exact ⟨_,hTO,fun v q=>by cases q⟩
  ·exact h1.ex
  ·exact h2.ex
  ·exact ⟨_,hTI,fun v q=>by cases q⟩
 keep:=fun i h h' st k=>by obtain ⟨hz,hTI,⟨x,y,hTO⟩,h1,h2⟩:=st; exact ⟨k z (by simp) _ hz,k TI (by simp) _ hTI,⟨x,y,k TO (by simp) _ hTO⟩,h1.keep fun o q=>k i1 (by simp) o q,h2.keep fun o q=>k i2 (by simp) o q⟩
 item:=by
  intro X hP hw hK hc i pins s σ H E I hf st hg; subst hP hw hK; obtain ⟨hz,hTI,⟨c,d,hTO⟩,h1,h2⟩:=st; obtain ⟨xs,ys,x,y,qx,qy,ex,ey⟩:=hg; obtain ⟨its,rv,sx⟩:=tJ I qx; obtain ⟨jts,rw',sy⟩:=tJ I qy; obtain ⟨u,hu,ru⟩:=rv.get ex; obtain ⟨v,hv,rv'⟩:=rw'.get ey; refine zzN_item D hz hTI hTO h1 h2 sx sy (x:=u) (y:=v) (by simpa using hu) (by simpa using hv) fun g1 z1 o1 n1 n2 t1 sz1 k1=> ?_
  refine ⟨_,rfl,wpAny_letOwnedTupleGo_zip z1 fun g2 z2 s2=> ?_⟩; have s2':=s2.extBut
  have lt:∀b∈[z,TO,i1,i2,TI],b<s.heap.objs.size:=fun b hb=>by
   simp only [aS,cU,or_false] at hb
   rcases hb with rfl | rfl | rfl | rfl | rfl
   ·exact aI hz
   ·exact aI hTO
   ·obtain ⟨_,q,_⟩:=h1.ex; exact aI q
   ·obtain ⟨_,q,_⟩:=h2.ex; exact aI q
   ·exact aI hTI
  have I1:Inv X pins σ H {s with heap:=g2}:=inv_ch (t':=s.toks) (ch:=[z,TO,i1,i2]) I (fun b o hb q=>by
   simp only [aS,cU,or_false,not_or] at hb
   exact s2' _ _ hb.1 (k1 b o hb.1 hb.2.1 hb.2.2.1 hb.2.2.2 q)) fun b hb=>hf b (by simp only [aS,cU,or_false] at hb ⊢; rcases hb with q | q | q | q<;>simp [q])
  have hn:H s.heap.objs.size=none:=I.hok.fresh (aN _); have t2:g2.get? s.heap.objs.size=some {cls:= .type "tuple",data:= .seq #[u,v]}:=s2' _ _ (eQ (lt z (by simp))) t1
  have I2:Inv X pins σ (upd H s.heap.objs.size (.tup [x,y])) {s with heap:=g2}:=by
   refine I1.track hn I.sz (eQ I.lt) (fun y c q=> ?_) (fun y hy=> ?_) ⟨by show 2≤sizeLine; decide,[u,v], .cons ru (.cons rv' .nil),⟨_,t2,rfl,⟨_,rfl⟩,rfl⟩⟩
   ·obtain ⟨v,o,ho,_⟩:=I.cell y c q; exact bH (aI ho)
   ·exact bH (aI (I.pin y hy).1)
  refine ⟨.ref s.heap.objs.size,_,I2,rfl,⟨_,x,y,rfl,hn,rfl,fun zs hz=>by rw [sqB_inj I hz qx]; exact ex,fun zs hz=>by rw [sqB_inj I hz qy]; exact ey⟩,⟨z2,s2' _ _ D.TIz (k1 _ _ D.TIz D.TITO D.TIi1 D.TIi2 hTI),⟨_,_,s2' _ _ D.TOz o1⟩,n1.keep fun o q=>s2' _ _ D.i1z q,n2.keep fun o q=>s2' _ _ D.i2z q⟩,fun b hb=> ?_⟩; rw [bW (bH (lt b hb))]; exact (hf b hb).1
 done:=by
  intro X hP hw hK hc i pins s σ H E I hf st hg; subst hP hw hK; obtain ⟨hz,hTI,⟨c,d,hTO⟩,h1,h2⟩:=st; obtain ⟨xs,ys,qx,qy,hl⟩:=hg; obtain ⟨its,rv,sx⟩:=tJ I qx; obtain ⟨jts,rw',sy⟩:=tJ I qy; have l1:=rv.length; have l2:=rw'.length
  refine zzN_end (I.ok.hd hc) D hz hTI hTO h1 h2 sx sy (by
   rcases hl with q | q
   ·left; simp; omega
   ·right; simp
    omega) fun h' k=>⟨rfl, ?_⟩
  exact inv_ch (t':=s.toks) (ch:=[z,TO,i1,i2]) I (fun b o hb q=>by
   simp only [aS,cU,or_false,not_or] at hb
   exact k b o hb.1 hb.2.1 hb.2.2.1 hb.2.2.2 q) fun b hb=>hf b (by simp only [aS,cU,or_false] at hb ⊢; rcases hb with q | q | q | q<;>simp [q])
 self:=fun _ _ _ _ _ st h=>by obtain ⟨hz,_⟩:=st; exact wpAny_pyIter_zip hz h
def itO (tp:Bool) (l:Addr):Obj:=match tp with
 | true=>{cls:= .type "tuple_iterator",data:= .fields #[.ref l, .int 0 0]}
 | false=>{cls:= .type "list_iterator",data:= .fields #[.ref l, .int 0 0]}
theorem vN {tp:Bool} {h:Heap} {it l:Addr} (e:h.get? it=some (itO tp l)):ItAt tp h it l 0:=by
 cases tp with
 | true=>exact ⟨_,e,rfl,rfl⟩
 | false=>exact ⟨_,e,rfl,rfl⟩
theorem vG (tp:Bool) (l:Addr):(itO tp l).isFreed=false:=by cases tp<;>rfl
section
variable {prog:Program} {w:World} {A:Around} {E:Value→Shared→Prop} {s:Shared}
theorem pyI {tp:Bool} {l:Addr} {xs:Array Value} {Q:Value→Shared→Prop} (h:SqAt tp s.heap l xs) (hQ:Q (.ref s.heap.objs.size) {s with heap:=s.heap.push (itO tp l)}):wpAny (model prog w) A (pyIter (.ref l)) Q E s:=by
 cases tp with
 | true=>exact wpAny_pyIter_tuple h hQ
 | false=>exact wpAny_pyIter_list h hQ
end
abbrev zA (p:Bool) (h:Heap) (l:Addr):Heap:=h.push (itO p l)
abbrev zB (p q:Bool) (h:Heap) (l m:Addr):Heap:=(zA p h l).push (itO q m)
abbrev zC (p q:Bool) (h:Heap) (l m:Addr):Heap:=(zB p q h l m).push {cls:= .type "tuple",data:= .seq #[.ref h.objs.size, .ref (zA p h l).objs.size]}
abbrev zD (p q:Bool) (h:Heap) (l m:Addr):Heap:=(zC p q h l m).push {cls:= .type "tuple",data:= .seq #[.none, .none]}
abbrev zE (p q:Bool) (h:Heap) (l m:Addr):Heap:=(zD p q h l m).push {cls:= .type "zip",data:= .fields #[.none, .bool false, .bool false, .ref (zB p q h l m).objs.size, .ref (zC p q h l m).objs.size]}
theorem new_zz (p q:Bool) (l m:Addr) (xs ys:Array Value):Meets (Builtin.«zip.__new__» ⟨[.type "zip", .ref l, .ref m],[]⟩) (fun _ R s=>SqAt p s.heap l xs∧SqAt q s.heap m ys∧R (.ok (.ret (.ref (zD p q s.heap l m).objs.size))) {s with heap:=zE p q s.heap l m}):=
 .of_wp fun prog w A R s h=>by
  obtain ⟨hp,g,d,tk,os⟩:=s; obtain ⟨a1,a2,h⟩:=h; have hsub:=sub_zip; have b1:SqAt p (Shared.heap ⟨hp,g,d,tk,os⟩) l xs:=a1; have b2:SqAt q (Shared.heap ⟨hp.push (itO p l),g,d,tk,os⟩) m ys:=SqAt.keep a2 fun o e=>aA _ e
  wp_walk using pyI b1,pyI b2
  exact ⟨_,rfl,h⟩
section
variable {prog:Program} {w:World} {A:Around} {E:Value→Shared→Prop} {s:Shared}
theorem call_zz {p q:Bool} {l m:Addr} {xs ys:Array Value} {Q:Value→Shared→Prop} (a1:SqAt p s.heap l xs) (a2:SqAt q s.heap m ys)
  (h:∀h',IsZip h' (s.heap.objs.size+4) (s.heap.objs.size+2) (s.heap.objs.size+3) .none→IsPair h' (s.heap.objs.size+2) (.ref s.heap.objs.size) (.ref (s.heap.objs.size+1))→IsPair h' (s.heap.objs.size+3) .none .none→ItAt p h' s.heap.objs.size l 0→ItAt q h' (s.heap.objs.size+1) m 0→(∀c o,s.heap.get? c=some o→h'.get? c=some o)→Q (.ref (s.heap.objs.size+4)) {s with heap:=h'}):
  wpAny (model prog w) A (call (.type "zip") [.ref l, .ref m]) Q E s:=by
 refine callType_new F.called_zip (by decide) (F.typeCall_zip_2 _ _) (F.newCall_zip_2 _ _) (fun obj=>F.args_object_init_3 obj _ _) F.entry_zip_new (new_zz p q l m xs ys) ⟨a1,a2, ?_⟩; have z1:(zA p s.heap l).objs.size=s.heap.objs.size+1:=fE ..; have z2:(zB p q s.heap l m).objs.size=s.heap.objs.size+2:=by rw [fE,z1]
 have z3:(zC p q s.heap l m).objs.size=s.heap.objs.size+3:=by rw [fE,z2]
 have z4:(zD p q s.heap l m).objs.size=s.heap.objs.size+4:=by rw [fE,z3]
 have g5:(zE p q s.heap l m).get? (zD p q s.heap l m).objs.size=some _:=aV _ rfl; have g4:(zE p q s.heap l m).get? (zC p q s.heap l m).objs.size=some _:=aA _ (aV _ rfl); have g3:(zE p q s.heap l m).get? (zB p q s.heap l m).objs.size=some _:=aA _ (aA _ (aV _ rfl)); have g2:(zE p q s.heap l m).get? (zA p s.heap l).objs.size=some (itO q m):=aA _ (aA _ (aA _ (aV _ (vG q m)))); have g1:(zE p q s.heap l m).get? s.heap.objs.size=some (itO p l):=aA _ (aA _ (aA _ (aA _ (aV _ (vG p l))))); show _∧_; rw [z2,z3,z4] at g5; rw [z1,z2] at g3; rw [z3] at g4; rw [z1] at g2; rw [z4]; exact ⟨⟨_,g5,rfl⟩,h _ g5 g3 g4 (vN g1) (vN g2) fun c o x=>aA _ (aA _ (aA _ (aA _ (aA _ x))))⟩
end
section
variable {X:Cx} {sd:List Slot} {e a b c tg iter:Expr} {es:List Expr} {pos:Pos} {r ra rb:R} {d:D} {ds:List D} {st:Stmt} {rest:List Stmt} {E:jX}
theorem pi_zip {elts:List Expr} {kk:Nat} {tp:Pos} {ta:TA} {p:Pos} {p1 p2:Bool} (hg:Gl X "zip") (hm:X.mg "zip"=none) (ha:PA X [a,b] ta) (hs:starEach [a,b] X.env=[(false,eval a X.env),(false,eval b X.env)]:=by rfl) (hs2:starEach [b] X.env=[(false,eval b X.env)]:=by rfl):
  PI X (.Tuple elts kk tp) (.Call (.Name "zip" p) [a,b] [] pos) (fun σ H R=>ta σ H fun vs H1=>∃l m,vs=[.ref l, .ref m]∧(∃xs,SqB p1 X.K H1 l xs)∧(∃ys,SqB p2 X.K H1 m ys)∧R (Itz p1 p2 X.K l m) H1):=by
 intro pins s σ H R I h; refine Call_ (mQ I hg hm PyProof.Rows.boot_zip (PyProof.Rows.callWith_type1 (thn (ha pos pins s σ H _ I h) fun us s1 ⟨vs,H1,I1,r1,q1⟩=> ?_) (by rw [hs,hs2]) (by rw [hs2]; rfl))); obtain ⟨l,m,rfl,⟨xs,qx⟩,⟨ys,qy⟩,k⟩:=q1; cases r1 with
 | cons r rr=>
  cases rr with
  | cons r2 rr2=>
   cases rr2; cases r; cases r2; obtain ⟨its,rv,sx⟩:=tJ I1 qx; obtain ⟨jts,rw',sy⟩:=tJ I1 qy; refine call_zz sx sy fun h' a1 a2 a3 a4 a5 kp=>wpAny_pyIter_zip a1 ?_
   have I2:Inv X pins σ H1 {s1 with heap:=h'}:=I1.kept (t':=s1.toks) kp; have lx:=sx.lt; have ly:=sy.lt
   have ap:ZipApart (s1.heap.objs.size+4) (s1.heap.objs.size+2) (s1.heap.objs.size+3) s1.heap.objs.size (s1.heap.objs.size+1) l m:=by
    refine ⟨?_, ?_, ?_, ?_, ?_, ?_, ?_, ?_, ?_, ?_, ?_, ?_, ?_, ?_, ?_, ?_, ?_, ?_⟩
    all_goals first | (exact bH (by omega)) | (exact eQ (by omega)) | (exact bH lx) | (exact bH ly) | (exact bH (aP lx (jN _ _))) | (exact bH (aP ly (jN _ _)))
   refine ⟨s1.heap.objs.size+4,_,_,Itz p1 p2 X.K l m,H1,rfl,I2,turn_zip l m _ _ _ _ _ ap,⟨a1,a2,⟨_,_,a3⟩,a4,a5⟩,fun b hb=> ?_,k⟩
   have hb2:s1.heap.objs.size≤b:=by
    simp only [aS,cU,or_false] at hb
    rcases hb with rfl | rfl | rfl | rfl | rfl<;>omega
   exact I1.fpOk hb2 (I1.hok.fresh hb2)
def vW (ds es:List D):List D:=(bR (min ds.length es.length)).map fun (i:Nat)=>D.tup [ds.getD i .non,es.getD i .non]
theorem rB (ds es:List D):(vW ds es).length=min ds.length es.length:=by simp [vW]
theorem jV {ds es:List D} {i:Nat} {d:D} (h:(vW ds es)[i]? =some d):∃x y,ds[i]? =some x∧es[i]? =some y∧d= .tup [x,y]:=by
 unfold vW at h; rw [cI] at h
 by_cases hi:i<min ds.length es.length
 ·rw [jP hi] at h; have h1:i<ds.length:=by omega
  have h2:i<es.length:=by omega
  refine ⟨ds[i],es[i],by simp [h1],by simp [h2], ?_⟩; rw [← cA.inj h]; simp [dD,h1,h2]
 ·rw [dN (by simpa using hi)] at h; cases h
def seqD (tp:Bool) (ds:List D):D:=match tp with
 | true=> .tup ds
 | false=> .lst ds
theorem rD {K:aB} {F:Hp} {tp:Bool} {ds:List D} {v:V} (h:Rep K F (seqD tp ds) v):∃a xs,v= .ref a∧RepL K F ds xs∧∀ {F' H:Hp},Same F F'→Same F' H→SqB tp K H a xs:=by
 cases tp with
 | true=>simp only [seqD,Rep] at h; obtain ⟨a,xs,e,ha,rl⟩:=h; exact ⟨a,xs,e,rl,fun s1 s2=> .of (s2 _ _ (s1 _ _ ha))⟩
 | false=>simp only [seqD,Rep] at h; obtain ⟨a,xs,e,ha,rl⟩:=h; exact ⟨a,xs,e,rl,fun s1 s2=> .of (s2 _ _ (s1 _ _ ha))⟩
theorem uY {elts:List Expr} {kk:Nat} {tp p:Pos} {es2:List D} (p1 p2:Bool) (hg:Gl X "zip") (hm:X.mg "zip"=none) (ha:PEd X sd a (.val (seqD p1 ds))) (hb:PEd X sd b (.val (seqD p2 es2))) (hst:starEach [a,b] X.env=[(false,eval a X.env),(false,eval b X.env)]:=by rfl) (hst2:starEach [b] X.env=[(false,eval b X.env)]:=by rfl):
  PId X sd PT0 (.Tuple elts kk tp) (.Call (.Name "zip" p) [a,b] [] pos) (vW ds es2):= .mk fun σ F H S=>
 (pi_zip (p1:=p1) (p2:=p2) hg hm wF hst hst2).to ((aH ha (aH hb bF trivial (by rw [hst2]; rfl)) trivial (by rw [hst,hst2]) σ F H S).imp fun vs H1 ⟨F1,S1,s1,q1⟩=>by
  cases q1 with
  | cons q1 q2=>
   cases q2 with
   | cons q2 q3=>
    cases q3; obtain ⟨l,xs,rfl,rx,sx⟩:=rD (show Rep _ _ _ _ from q1); obtain ⟨m,ys,rfl,ry,sy⟩:=rD (show Rep _ _ _ _ from q2); refine ⟨l,m,rfl,⟨xs,sx (Same.refl _) S1.sub⟩,⟨ys,sy (Same.refl _) S1.sub⟩,F1,S1,s1,fun F' H' sF sH sm _ i=>⟨fun hi=> ?_,fun hi=> ?_,fun x H2 d hd y=> ?_⟩⟩
    ·rw [rB] at hi; exact ⟨xs,ys,xs[i]'(by rw [rx.len]; omega),ys[i]'(by rw [ry.len]; omega),sx sF sH,sy sF sH,by simp,by simp⟩
    ·rw [rB] at hi; refine ⟨xs,ys,sx sF sH,sy sF sH, ?_⟩; rw [rx.len,ry.len]; omega
    ·obtain ⟨q,u,v,rfl,hq,rfl,hu,hv⟩:=y; obtain ⟨du,dv,e1,e2,rfl⟩:=jV hd; have hu:=hu xs (sx sF sH); have hv:=hv ys (sy sF sH); obtain ⟨u',h1,ru⟩:=rx.get e1; obtain ⟨v',h2,rv⟩:=ry.get e2; rw [hu] at h1; rw [hv] at h2; cases h1; cases h2; have fq:F' q=none:=sH.free hq; have s2:Same F' (upd F' q (.tup [u,v])):=fun b o g=>by rw [bW (cP g fq)]; exact g
     refine ⟨upd F' q (.tup [u,v]),s2, ?_,fun H₀ σ sd S=>(S.lay (o:= .tup [u,v]) hq trivial).1⟩; simp only [Rep]
     exact ⟨q,_,rfl,cS, .cons ((ru.mono sF).mono s2) (.one ((rv.mono sF).mono s2))⟩)
end
theorem pH (L:List (List Int)) (m:Nat):(L.flatMap fun s=>(bR m).map fun (w:Nat)=>s++[(w:Int)]).length=L.length * m:=by
 induction L with
 | nil=>simp
 | cons s L ih=>rw [List.flatMap_cons,cR,ih,aD,cN,dS,Nat.succ_mul,Nat.add_comm]
theorem rS:∀ (m k:Nat),(iM m k).length=m^k
 | _,0=>rfl
 | m,k+1=>by show ((iM m k).flatMap _).length=_; rw [pH,rS m k,uF]
theorem vS:∀ (m k:Nat),∀s∈iM m k,s.length=k
 | _,0,s,h=>by
  have:s=[]:=by simpa [iM] using h
  subst this; rfl
 | m,k+1,s,h=>by obtain ⟨t,ht,hs⟩:=gM.mp h; obtain ⟨w,_,rfl⟩:=bB.mp hs; rw [cR,vS m k t ht]; rfl
theorem zK:∀p∈dZ,∀k,k<p.2.toNat→((2^p.1.toNat)^k) * 2^p.1.toNat≤900:=by decide+kernel
theorem kO {p:Int × Int} (hp:p∈dZ):(iM (2^p.1.toNat) p.2.toNat).length≤64:=by
 have:∀p∈dZ,(2^p.1.toNat)^p.2.toNat≤64:=by decide+kernel
 rw [rS]; exact this p hp
theorem mem_tups {L:List (List Int)} {d:D} (h:d∈L.map bG):∃ws∈L,d=bG ws:=by obtain ⟨ws,hw,rfl⟩:=bB.mp h; exact ⟨ws,hw,rfl⟩
def intsOf:D→List Int
 | .tup ds=>ds.map fun d=>match d with | .int i=>i | _=>0
 | _=>[]
theorem xP (ws:List Int):intsOf (bG ws)=ws:=by
 show (ws.map D.int).map _=ws; rw [bX]
 induction ws with
 | nil=>rfl
 | cons w ws ih=>rw [bD,ih]; rfl
section
variable {X:Cx} {sd:List Slot} {e a b c tg iter o:Expr} {es:List Expr} {pos:Pos} {r ra rb:R} {d:D} {ds:List D} {st:Stmt} {rest:List Stmt} {E:jX}
def isN:D→Bool
 | .non=>true
 | _=>false
theorem rep_isN {K:aB} {H:Hp} {d:D} {v:V} (h:Rep K H d v):decide (v= .non)=isN d:=by
 cases d with
 | non=>simp only [Rep] at h; subst h; rfl
 | bl=>simp only [Rep] at h; subst h; rfl
 | int=>simp only [Rep] at h; subst h; rfl
 | str=>simp only [Rep] at h; subst h; rfl
 | tup=>simp only [Rep] at h; obtain ⟨a,xs,rfl,_⟩:=h; rfl
 | lst=>simp only [Rep] at h; obtain ⟨a,xs,rfl,_⟩:=h; rfl
 | dic=>simp only [Rep] at h; obtain ⟨a,rfl,_⟩:=h; rfl
 | dki=>simp only [Rep] at h; obtain ⟨a,xs,rfl,_⟩:=h; rfl
 | any=>simp only [Rep] at h; obtain ⟨⟨a,rfl⟩,_⟩:=h; rfl
 | scr=>simp only [Rep] at h; obtain ⟨a,rfl,_⟩:=h; rfl
theorem gF (ha:PEd X sd a (.val d)) (hb:PEd X sd b (.val .non)):PTd X sd (.Compare a [.Is] [b] pos) (isN d):=
 jW op_isN ha hb trivial (lI _) fun σ F H v u Q S q1 q2 k=>by simp only [ResOk,Rep] at q2; have q1:Rep _ _ _ _:=q1; exact ⟨q2,by rw [rep_isN q1]; exact k F H S (Same.refl _)⟩
theorem iV (ha:PEd X sd a (.val d)) (hb:PEd X sd b (.val .non)):PTd X sd (.Compare a [.IsNot] [b] pos) (!isN d):=
 jW op_notN ha hb trivial (lI _) fun σ F H v u Q S q1 q2 k=>by simp only [ResOk,Rep] at q2; have q1:Rep _ _ _ _:=q1; exact ⟨q2,by rw [rep_isN q1]; exact k F H S (Same.refl _)⟩
theorem pd_isN (ha:PEd X sd a (.val d)) (hb:PEd X sd b (.val .non)):PEd X sd (.Compare a [.Is] [b] pos) (.val (.bl (isN d))):=
 pd_cmp2 op_isN ha hb trivial (lI _) fun σ F H v u Q S q1 q2 k=>by simp only [ResOk,Rep] at q2; have q1:Rep _ _ _ _:=q1; exact ⟨q2,by rw [rep_isN q1]; exact k F H S (Same.refl _)⟩
structure FunD (K:aB) (x qual:Str) (st:Stmt) (f:Addr) (fd:FuncData):Prop where
 ex:∃ (oc:Value) (od:Option Addr) (T:Addr) (kV doc pm:Value) (an:Option Addr) (cdv ct:Value) (osl:Array (Option Value)) (tc:Value) (td:Option Addr) (n:Nat) (tsl:Array (Option Value)),
  fd=bQ x qual (dY st) (dG st) (bJ st) (.ref T) kV doc pm an cdv ct∧K.lookup f=some ⟨oc,od, .func fd,osl⟩∧bT K cdv qual=true∧K.lookup T=some ⟨tc,td, .seq #[.none] n,tsl⟩
 kp:bL K (.ref f)=true
structure CalleeD (P:Program) (w:World) (K:aB) (mg:Str→Option Value) (base:Heap) (x:Str) (k n:Nat) (C:List D→R→Prop):Prop where
 ex:∃ (f:Addr) (fd:FuncData) (ps:List Str),mg x=some (.ref f)∧bL K (.ref f)=true∧Binds K fd ps []∧Binds K fd ps [.none]∧FnOk P w K mg base CX0 k f fd ps (spC K n C)
end
theorem u_of' {u d n c:Nat} (h:u+n<c) (hd:d+1≤n):u+d+1<c:=by omega
def bC (p:Int × Int):List (List Int):=iM (2^p.1.toNat) p.2.toNat
def optD:Option (List Int)→D
 | none=> .non
 | some ws=>bG ws
structure TabOk (p:Int × Int) (T:List (List Int)):Prop where
 len:T.length=(bC p).length
 fil:∀ws∈T,Fil p ws
theorem qJ {p:Int × Int}:0<(bC p).length:=by unfold bC; rw [rS]; exact Nat.pow_pos (Nat.pow_pos (by decide))
theorem sD {cs:List Int} {k:Nat} {d:D} (h:(cs.map D.int)[k]? =some d):k<cs.length∧d= .int (cs.getD k 0):=by rw [cI] at h; obtain ⟨x,hx,rfl⟩:=iF.mp h; have hk:k<cs.length:=(cG.mp hx).1; refine ⟨hk, ?_⟩; rw [dD,hx]; rfl
theorem ints_at' {V:List Int} {k:Nat} (h:k<V.length):(V.map D.int)[k]? =some (.int (V.getD k 0)):=by simp [dD,h]
theorem oJ {V:List (List Int)} {k:Nat} (h:k<V.length):(V.map bG)[k]? =some (bG (V.getD k [])):=by simp [dD,h]
theorem take_snoc {α:Type} {L:List α} {k:Nat} (d:α) (h:k<L.length):L.take (k+1)=L.take k++[L.getD k d]:=by rw [gG]; simp [dD,h]
section
variable {X:Cx} {sd:List Slot} {e a b c tg iter o:Expr} {es:List Expr} {pos:Pos} {r ra rb:R} {d:D} {ds:List D} {st:Stmt} {rest:List Stmt} {E:jX}
def Itr3 (lo c:Int) (n:Nat):It:=⟨fun i _=>i<n,fun i H x H'=>H'=H∧x= .int (lo+(i:Nat) * c),fun i _=>n≤i⟩
theorem turn_range3 {P:Program} {w:World} {K:aB} {tg:Expr} (it:Addr) (lo c:Int) (n:Nat):yP P w K tg (Itr3 lo c n) [it] it (fun i h=>IsRangeIter h it (lo+(i:Nat) * c) ((n:Int) - (i:Nat)) c) where
 mem:=by simp
 obj:=fun i h st b hb=>by
  have e:b=it:=by simpa using hb
  subst e
  exact ⟨_,st,fun v z=>by
   have z':Data.fields _=Data.cell v:=z
   cases z'⟩
 keep:=fun i h h' st k=>k it (by simp) _ st
 item:=by
  intro X hP hw hK hc i pins s σ H E I hf st hg; subst hP hw hK; obtain ⟨f0,f1,f2,f3,f4,f5⟩:=hf it (by simp); have W:=Walks.range (prog:=X.prog) (w:=X.w) (I.ok.hd hc) it lo c n; refine W.item i s _ _ hg st fun v h' tk hv st' kk=> ?_
  obtain ⟨t,rfl⟩:=hv; have I1:Inv X pins σ H {s with heap:=h',toks:=tk}:=I.turned (fun b o hb e=>kk b o (by simpa using hb) e) f0 f1 f3 f4 f5; exact ⟨_,rfl,go_of (s:={s with heap:=h',toks:=tk}) (n:="range_iterator") st' rfl rfl (by decide) ⟨.int (lo+(i:Nat) * c),H,I1,⟨t,rfl⟩,⟨rfl,rfl⟩,st',fun b hb=>(hf b hb).1⟩⟩
 done:=by intro X hP hw hK hc i pins s σ H E I hf st hg; subst hP hw hK; obtain ⟨f0,f1,f2,f3,f4,f5⟩:=hf it (by simp); exact wpAny_pyNext_range_end (I.ok.hd hc) st (by have:n≤i:=hg; omega) fun h' eb=>⟨rfl,I.turned (t':=s.toks) (fun b o hb e=>eb b o hb e) f0 f1 f3 f4 f5⟩
 self:=fun _ _ _ _ _ st h=>wpAny_pyIter_rangeiter st h
def iRng3 (ta:TA):TI:=fun σ H R=>ta σ H fun vs H1=>∃i j c:Int,vs=[.int i, .int j, .int c]∧(0≤i∧i<1000000∧0≤j∧j<1000000∧1≤c∧c<1000000)∧R (Itr3 i c (Builtin.Range.rangeSize i j c).toNat) H1
theorem range_it3 {pins:List (Addr × Obj)} {σ:St} {H:Hp} {s:Shared} {R:It→Hp→Prop} {E:Value→Shared→Prop} {lo hi c:Int} {t u v:Tok} {tk:Nat} (I:Inv X pins σ H s) (hs:Builtin.Range.small lo hi c=true)
  (q:R (Itr3 lo c (Builtin.Range.rangeSize lo hi c).toNat) H):wpAny (model X.prog X.w) X.A (pyIter (.ref s.heap.objs.size)) (PIE X pins σ tg R) E {s with heap:=s.heap.push {cls:= .type "range",data:= .fields #[.int lo t, .int hi u, .int c v]},toks:=tk}:=by
 refine wpAny_pyIter_range (IsRange.new ..) hs ?_; have I1:Inv X pins σ H {s with heap:=s.heap.push {cls:= .type "range",data:= .fields #[.int lo t, .int hi u, .int c v]},toks:=tk}:=I.kept fun b o e=>aA _ e
 refine ⟨(s.heap.push {cls:= .type "range",data:= .fields #[.int lo t, .int hi u, .int c v]}).objs.size,[(s.heap.push {cls:= .type "range",data:= .fields #[.int lo t, .int hi u, .int c v]}).objs.size],_,_,H,rfl,
  I1.kept (t':=tk) fun b o e=>aA _ e,turn_range3 _ lo c (Builtin.Range.rangeSize lo hi c).toNat, ?_,fun b hb=> ?_,q⟩
 ·have e1:lo+((0:Nat):Int) * c=lo:=by simp
  have e2:(((Builtin.Range.rangeSize lo hi c).toNat:Nat):Int) - ((0:Nat):Int)=Builtin.Range.rangeSize lo hi c:=by rw [← rangeSize_toNat]; omega
  show IsRangeIter _ _ (lo+((0:Nat):Int) * c) ((((Builtin.Range.rangeSize lo hi c).toNat:Nat):Int) - ((0:Nat):Int)) c; rw [e1,e2]; exact aV _ rfl
 ·have e:b=(s.heap.push {cls:= .type "range",data:= .fields #[.int lo t, .int hi u, .int c v]}).objs.size:=by simpa using hb
  subst e; exact I1.fpOk (aN _) (I1.hok.fresh (aN _))
def oN (lo c:Int) (n:Nat):List D:=(bR n).map fun (k:Nat)=>D.int (lo+(k:Int) * c)
theorem tR (lo c:Int) (n:Nat):(oN lo c n).length=n:=by simp [oN]
theorem rang3_get {lo c:Int} {n i:Nat} {d:D} (h:(oN lo c n)[i]? =some d):i<n∧d= .int (lo+(i:Int) * c):=by
 unfold oN at h; rw [cI] at h
 by_cases hi:i<n
 ·rw [jP hi] at h; exact ⟨hi,(cA.inj h).symm⟩
 ·rw [dN (by simpa using hi)] at h; cases h
theorem itd_range3 {K:aB} {F₁:Hp} {lo c:Int} {n:Nat}:ItD K F₁ PT0 (Itr3 lo c n) (oN lo c n):=fun F H _ _ _ _ i=>by refine ⟨fun hi=>by rw [tR] at hi; exact hi,fun hi=>by rw [tR] at hi; exact hi,fun x H' d hd y=> ?_⟩; obtain ⟨rfl,rfl⟩:=y; obtain ⟨_,rfl⟩:=rang3_get hd; exact ⟨F,Same.refl _,by simp only [Rep],fun _ _ _ S=>S⟩
theorem small3 {i j c:Int} (h:0≤i∧i<1000000∧0≤j∧j<1000000∧1≤c∧c<1000000):Builtin.Range.small i j c=true:=by
 have e:Builtin.Range.rangeSize i j c=if i<j then (j - i - 1) / c+1 else 0:=by unfold Builtin.Range.rangeSize; rw [if_pos (by omega)]
 have h1:0≤Builtin.Range.rangeSize i j c∧Builtin.Range.rangeSize i j c≤1000000:=by
  rw [e]
  split
  ·have a1:=Int.ediv_nonneg (show 0≤j - i - 1 by omega) (show 0≤c by omega); have a2:=Int.ediv_le_self c (show 0≤j - i - 1 by omega); omega
  ·omega
 unfold Builtin.Range.small; generalize Builtin.Range.rangeSize i j c=z at h1; simp only [Builtin.Range.rangeFitsLong,bN,iR,decide_eq_true_eq,beq_iff_eq,show c>0 by omega,if_true]; omega
theorem pi_range3 {ta:TA} {p:Pos} (hg:Gl X "range") (hm:X.mg "range"=none) (ha:PA X [a,b,c] ta) (hs:starEach [a,b,c] X.env=[(false,eval a X.env),(false,eval b X.env),(false,eval c X.env)]:=by rfl) (hs2:starEach [b,c] X.env=[(false,eval b X.env),(false,eval c X.env)]:=by rfl):
  PI X tg (.Call (.Name "range" p) [a,b,c] [] pos) (iRng3 ta):=by
 intro pins s σ H R I h; refine Call_ (mQ I hg hm boot_range (PyProof.Rows.callWith_type1 (thn (ha pos pins s σ H _ I h) fun us s1 ⟨vs,H1,I1,r1,q1⟩=> ?_) (by rw [hs,hs2]) (by rw [hs2]; rfl))); obtain ⟨i,j,k,e,hb,q⟩:=q1; subst e; cases r1 with
 | cons r rr=>
  cases rr with
  | cons r' rr=>
   cases rr with
   | cons r2 rr=>cases rr; obtain ⟨t,rfl⟩:=r; obtain ⟨t',rfl⟩:=r'; obtain ⟨t2,rfl⟩:=r2; exact call_range_3 (by omega) (range_it3 I1 (small3 hb) q) (Or.inl (PyProof.noPylong_small (by omega)))
theorem pid_range3 {p:Pos} {i j k:Int} (hg:Gl X "range") (hm:X.mg "range"=none) (ha:PEd X sd a (.val (.int i))) (hb:PEd X sd b (.val (.int j))) (hc:PEd X sd c (.val (.int k))) (h:0≤i∧i<1000000∧0≤j∧j<1000000∧1≤k∧k<1000000)
  (hs:starEach [a,b,c] X.env=[(false,eval a X.env),(false,eval b X.env),(false,eval c X.env)]:=by rfl) (hs2:starEach [b,c] X.env=[(false,eval b X.env),(false,eval c X.env)]:=by rfl) (hs3:starEach [c] X.env=[(false,eval c X.env)]:=by rfl):
  PId X sd PT0 tg (.Call (.Name "range" p) [a,b,c] [] pos) (oN i k (Builtin.Range.rangeSize i j k).toNat):= .mk fun σ F H S=>
 (pi_range3 hg hm wF hs hs2).to ((aH ha (aH hb (aH hc bF trivial hs3) trivial (by rw [hs2,hs3])) trivial (by rw [hs,hs2]) σ F H S).imp fun vs H1 ⟨F1,S1,s1,q1⟩=>by
  cases q1 with
  | cons q1 q2=>
   cases q2 with
   | cons q2 q3=>
    cases q3 with
    | cons q3 q4=>
     cases q4; simp only [ResOk,Rep] at q1 q2 q3; subst q1 q2 q3
     exact ⟨i,j,k,rfl,h,F1,S1,s1,itd_range3⟩)
theorem op_notInD (d:D) (ds:List D) (p1:pl d=true) (p2:plL ds=true) (hu:X.A.units+1+mV ds<cLine):OpR X (compareOp .NotIn) (fun x y H Q=>Rep X.K H (.lst ds) y∧Rep X.K H d x∧Q (.bl (!ds.any fun z=>deq z d)) H):=by
 intro pins s σ H x y v u Q I rx ry h; obtain ⟨hl,hd,k⟩:=h; obtain ⟨a,xs,its,rfl,rfl,rl,rv,ht⟩:=kE I.hok hl ry
 have hat:∀ (j:Nat) (w:Value),its[j]? =some w→∃z v,ds[j]? =some z∧xs[j]? =some v∧Rep X.K H z v∧RelV v w:=fun j w hw=>by
  have hj:j<its.length:=(cG.mp hw).1; have hx:j<xs.length:=by rw [Vals.length rv]; exact hj
  have hd:j<ds.length:=by rw [← rl.len]; exact hx
  obtain ⟨v,hv,rz⟩:=rl.get (i:=j) (d:=ds[j]) (by simp [hd])
  exact ⟨ds[j],v,by simp [hd],hv,rz,by
   have:=rv.get hv; obtain ⟨w',hw',r⟩:=this; rw [hw] at hw'; cases hw'
   exact r⟩
 have dc:=fun w:Value=>Classical.propDecidable (∃ (j:Nat) (z:D),its[j]? =some w∧ds[j]? =some z∧deq z d=true)
 refine SeqAt.notIn_listAt (fun w=> @decide _ (dc w)) ht (fun w hw=> ?_) ⟨.bl _,H,I,rfl, ?_⟩
 ·by_cases q:∃ (j:Nat) (z:D),its[j]? =some w∧ds[j]? =some z∧deq z d=true
  ·obtain ⟨j,z,e1,e2,e3⟩:=q; obtain ⟨z',v,f1,f2,f3,f4⟩:=hat j w e1; rw [e2] at f1; cases f1; have: @decide _ (dc w)=true:=by rw [decide_eq_true_eq]; exact ⟨j,z,e1,e2,e3⟩
   rw [this,← e3]; exact vI I.hok z (rW p2 e2) p1 f3 hd f4 rx (by have:=pR e2; show X.A.units+1+dep z<cLine; omega)
  ·have hw':w∈its:=by simpa using hw
   obtain ⟨j,hj,rfl⟩:=gK hw'; obtain ⟨z,v,f1,f2,f3,f4⟩:=hat j its[j] (by simp [hj])
   have e3:deq z d=false:=by
    cases h:deq z d with
    | false=>rfl
    | true=>exact (q ⟨j,z,by simp [hj],f1,h⟩).elim
   have: @decide _ (dc its[j])=false:=by rw [decide_eq_false_iff_not]; exact q
   rw [this,← e3]; exact vI I.hok z (rW p2 f1) p1 f3 hd f4 rx (by have:=pR f1; show X.A.units+1+dep z<cLine; omega)
 ·have e:its.toArray.any (fun w=> @decide _ (dc w))=ds.any fun z=>deq z d:=by
   rw [gY,List.any_toArray,oX,oX]
   constructor
   ·rintro ⟨w,hw,q⟩; rw [decide_eq_true_eq] at q; obtain ⟨j,z,e1,e2,e3⟩:=q; exact ⟨z,dE e2,e3⟩
   ·rintro ⟨z,hz,e3⟩; obtain ⟨j,hj,rfl⟩:=gK hz; have hi:j<its.length:=by rw [← Vals.length rv,rl.len]; exact hj
    exact ⟨its[j],fI hi,by rw [decide_eq_true_eq]; exact ⟨j,ds[j],by simp [hi],by simp [hj],e3⟩⟩
  rw [e]; exact k
theorem ptd_ninD (ha:PEd X sd a (.val d)) (hb:PEd X sd b (.val (.lst ds))) (p1:pl d=true) (p2:plL ds=true) (hu:X.A.units+1+mV ds<cLine) (hk:behindInMarks .NotIn b=false:=by with_unfolding_all rfl):PTd X sd (.Compare a [.NotIn] [b] pos) (!ds.any fun z=>deq z d):=
 jW (op_notInD d ds p1 p2 hu) ha hb trivial hk fun σ F H x u Q S q1 q2 k=>⟨Rep.mono S.sub q2,Rep.mono S.sub q1,k F H S (Same.refl _)⟩
end
def byT (w:World):Bool:=w.params.followText "set-order"
def tabR (led:Bool) (m mv:Nat) (ks:List Nat):SetTable:={mask:=m,place:=ks.toArray,dummies:= #[],finger:=0,led:=led,moves:=mv,plain:=true}
def tabK (led:Bool) (ks:List Nat):SetTable:=if ks.length<5 then tabR led 7 0 ks else tabR led 31 1 ks
structure SmS (w:World) (o:Obj) (ks:List Nat):Prop where
 ex:∃ (es:List (Int × Value)) (ep:Nat),o={cls:= .type "set",dict:=none,data:= .set es.toArray ep (tabK (!byT w) ks)}∧es.map (·.1)=ks.map Int.ofNat∧∀e∈es,∃t,e.2= .int e.1 t
theorem insAt {α:Type} (l:List α) (p:Nat) (y:α):iO l.toArray p y=(l.take p++y::l.drop p).toArray:=by unfold iO; apply uI.mp; simp; exact fO (by simp)
section
variable {prog:Program} {w:World} {A:Around} {s:Shared}
abbrev nW (w:World):Obj:={cls:= .type "set",dict:=none,data:= .set #[] 0 (tabK (!byT w) [])}
theorem newK {E:Value→Shared→Prop} (a:Value) {Q₁:Value→Shared→Prop} (h:Q₁ (.ref s.heap.objs.size) {s with heap:=s.heap.push (nW w)}):
  codeAny (model prog w) A (.call (.builtin "set.__new__") ⟨[.type "set",a],[]⟩) (wants Q₁ E) s:=by
 refine codeAny_of_tree ?_; refine wpAny_bind (m:=checkBuiltinCall "set.__new__" _) (wpAny_of_eq (F.newCall_set_1 a) (wpAny_pure ⟨plainId_quiet F.plain_set_new _,codeAny_builtin F.entry_set_new ?_⟩)); rw [Around.under_plainId F.plain_set_new]; unfold Builtin.«set.__new__» Builtin.Frozenset.newClass; have q:=sub_set_self; obtain ⟨hp,g,d,tk,os⟩:=s; dsimp only
 wp_walk
 refine wpAny_askSetting (wpAny_pure ?_); dsimp only; simp only [newObj]; refine wpAny_bind (wpAny_alloc (wpAny_pure (wpAny_pure ?_))); exact h
theorem sub_lst_set:isSubtype (.type "list") (.type "set")=pure false:=by rw [isSubtype_type]; kernel_rfl
theorem sub_lst_fz:isSubtype (.type "list") (.type "frozenset")=pure false:=by rw [isSubtype_type]; kernel_rfl
end
theorem slot_sit_next:PySem.Slot "set_iterator" "__next__" "set_iterator.__next__":=
 .of (owner:="set_iterator") (n:="__next__") (by rw [typeLookup_type,builtinLookup_eq_fast]; kernel_rfl) (by decide+kernel) (by decide+kernel) (by decide+kernel) (by first | exact .inl (by decide+kernel) | exact .inr (by decide+kernel)) (by rw [isSubtype_type]; kernel_rfl)
theorem wU:entryFor table "set_iterator.__next__"=some Builtin.«set_iterator.__next__»:=entryFor_of_tree (by kernel_rfl)
theorem yK (a:Value):argsOk "set_iterator.__next__" ⟨[a],[]⟩:=by unfold argsOk; kernel_rfl
theorem qP:PySem.Slot "set_iterator" "__iter__" "set_iterator.__iter__":=
 .of (owner:="set_iterator") (n:="__iter__") (by rw [typeLookup_type,builtinLookup_eq_fast]; kernel_rfl) (by decide+kernel) (by decide+kernel) (by decide+kernel) (by first | exact .inl (by decide+kernel) | exact .inr (by decide+kernel)) (by rw [isSubtype_type]; kernel_rfl)
theorem wN:entryFor table "set_iterator.__iter__"=some Builtin.«dict_keyiterator.__iter__»:=entryFor_alias (id':="dict_keyiterator.__iter__") (by kernel_rfl) rfl (by decide+kernel) (by kernel_rfl)
theorem yM (a:Value):argsOk "set_iterator.__iter__" ⟨[a],[]⟩:=by unfold argsOk; kernel_rfl
theorem entry_seti:entryFor table "set.__iter__"=some Builtin.«frozenset.__iter__»:=entryFor_alias (id':="frozenset.__iter__") (by kernel_rfl) rfl (by decide+kernel) (by kernel_rfl)
def pB (w:World) (S:Addr) (ep:Nat) (es:List (Int × Value)):List (Int × Value):=if byT w then (pickOrder (w.params.setOrder S ep) es.toArray).toList else es
theorem tW {α:Type}:∀ (l:List α) (i:Nat) (h:i<l.length),(l[i]::l.eraseIdx i).Perm l
 | [],_,h=>by simp at h
 | a::l,0,_=> .refl _
 | a::l,i+1,h=>by show (l[i]'(by simpa using h)::a::l.eraseIdx i).Perm (a::l); exact (List.Perm.swap a _ _).trans (.cons a (tW l i (by simpa using h)))
theorem pick_go {α:Type} (f:Nat→Nat):∀ (n k:Nat) (left:List α) (out:Array α),left.length=n→(pickOrder.go f n k left out).toList.Perm (out.toList++left)
 | 0,_,left,out,h=>by have:left=[]:=List.eq_nil_of_length_eq_zero h; subst this; rw [dR]; exact List.Perm.refl _
 | n+1,k,left,out,h=>by have hlt:f k%left.length<left.length:=tV _ (by omega); unfold pickOrder.go; rw [hR hlt]; dsimp only; refine (pick_go f n (k+1) _ _ (by rw [List.length_eraseIdx_of_lt hlt]; omega)).trans ?_; rw [iT,gH]; exact List.Perm.append_left _ (tW left _ hlt)
theorem yX {w:World} {S:Addr} {ep:Nat} (es:List (Int × Value)):(pB w S ep es).Perm es:=by
 unfold pB
 split
 ·have:=pick_go (w.params.setOrder S ep) es.toArray.size 0 es.toArray.toList #[] (by simp); simpa [pickOrder] using this
 ·exact List.Perm.refl _
def stK (w:World) (ks:List Nat) (i:Nat):Nat:=if byT w then 0 else match i with
 | 0=>0
 | j+1=>ks.getD j 0+1
def itK (w:World) (S:Addr) (ks:List Nat) (ep i:Nat):Obj:={cls:= .type "set_iterator",data:= .fields #[rawInt (stK w ks i),rawInt i, .ref S,rawInt ks.length,rawInt ep]}
section
variable {prog:Program} {w:World} {A:Around} {E:Value→Shared→Prop} {s:Shared}
theorem zM {I S:Addr} {ks:List Nat} {ep i:Nat} (h:s.heap.get? I=some (itK w S ks ep i)):s.TypeIs (.ref I) "set_iterator":=⟨_,h,rfl⟩
theorem selfK {I S:Addr} {ks:List Nat} {ep i:Nat} {Q:Value→Shared→Prop} (hI:s.heap.get? I=some (itK w S ks ep i)) (h:Q (.ref I) s):wpAny (model prog w) A (pyIter (.ref I)) Q E s:=by have hT:=zM hI; refine wpAny_pyIter_slot hT qP (wpAny_call_entry qP hT wN ?_ (yM _)); exact wpAny_pure ⟨_,rfl,"set_iterator",_,hT,slot_sit_next.lookup,h⟩
theorem hintK {r:Addr} {Q:Bool→Shared→Prop} (hT:s.TypeIs (.ref r) "set") (h:Q false s):wpAny (model prog w) A (Builtin.List.listLengthHint (.ref r)) Q E s:=by
 unfold Builtin.List.listLengthHint; refine wpAny_bind (wpAny_specialOf hT F.slot_set_len.lookup ?_); generalize q:("set.__len__":String)=i0
 wp_delta
 rw [show splitId i0=some ("set","__len__") from by subst q; decide+kernel]; subst q; refine wpAny_bind (wpAny_isInstance (T:="set") (b:=true) hT sub_set_self (wpAny_ite_split (fun z=>absurd z (by decide)) fun _=> ?_)); refine wpAny_ite_split (fun _=>wpAny_bind (wpAny_typeOf hT (wpAny_pure h))) (fun z=>absurd (by decide+kernel) z)
end
theorem ints_of:∀ {ns:List Int} {vs:List Value},Vals (ns.map V.int) vs→IntsAre vs ns
 | [],_, .nil=> .nil
 | n::ns,_::_, .cons r t=>by obtain ⟨k,rfl⟩:=r; exact .cons n k (ints_of t)
def gV (K:aB) (F0:Hp) (d:D):V→Hp→Prop:=fun v F=>Rep K F0 d v∧Same F0 F
section
variable {X:Cx} {sd:List Slot} {e a b c tg iter o:Expr} {es:List Expr} {pos:Pos} {r ra rb:R} {d:D} {ds:List D} {st:Stmt} {rest:List Stmt} {E:jX}
theorem Inv.retrack2 {pins:List (Addr × Obj)} {σ0 σ:St} {H F:Hp} {s s':Shared} (I0:Inv X pins σ0 H s):∀ (ls:List Addr),ls.Nodup→(∀l∈ls,F l=none∧(∃xs,H l=some xs∧Wr l xs)∧∀o,s.heap.get? l=some o→s'.heap.get? l=some o)→Inv X pins σ F s'→Inv X pins σ (fun b=>if b∈ls then H b else F b) s'
 | [],_,_,I=>by simpa using I
 | l::ls,nd,h,I=>by
  obtain ⟨nl,nd'⟩:=cV.mp nd; have J:=Inv.retrack2 I0 ls nd' (fun l' hl=>h l' (aM _ hl)) I; obtain ⟨n,⟨xs,hx,wx⟩,kp⟩:=h l aO
  have e:(fun b=>if b∈l::ls then H b else F b)=upd (fun b=>if b∈ls then H b else F b) l xs:=by
   funext b; unfold upd
   by_cases hb:b=l
   ·subst hb; simp [hx]
   ·simp [hb]
  rw [e]; have n':(fun b=>if b∈ls then H b else F b) l=none:=by simp [nl,n]
  have ob:=I0.hok l _ hx; clear e; generalize (fun b=>if b∈ls then H b else F b)=G at J n' ⊢; refine ⟨J.ok,J.os,J.bare,⟨J.base.keep,J.base.slot,fun b u g n0 hx0=> ?_,J.base.there,fun b ys g=> ?_,fun b u ys g=> ?_,fun b ps g=> ?_⟩,J.loc,J.cell, ?_,fun x c g=> ?_,fun p hp=> ?_,J.hok.track n' ?_,J.len⟩
  ·have hb:b≠l:=fun q=>by subst q; have:=I0.base.free b u g n0 hx0; rw [hx] at this; cases this
   rw [bW hb]; exact J.base.free b u g n0 hx0
  ·have q:=J.base.tups b ys g; rw [bW (cP q n')]; exact q
  ·have q:=J.base.frzs b u ys g; rw [bW (cP q n')]; exact q
  ·obtain ⟨m,q⟩:=J.base.tbls b ps g; exact ⟨m,by rw [bW (cP q n')]; exact q⟩
  ·rw [bW (fun q=>by have:=I0.free; rw [q,hx] at this; cases this)]; exact J.free
  ·rw [bW (fun q=>by have:=I0.freeC x c g; rw [q,hx] at this; cases this)]; exact J.freeC x c g
  ·obtain ⟨g,n0,rr⟩:=J.pin p hp; refine ⟨g, ?_,rr⟩; rw [bW (fun q=>by have:=(I0.pin p hp).2.1; rw [q,hx] at this; cases this)]; exact n0
  ·cases xs with
   | lst xs=>obtain ⟨z,its,nn,rv,ho⟩:=ob; exact ⟨z,its,nn,rv,kp _ ho⟩
   | dK kvs=>obtain ⟨z,y,vs,r,o,es,ep,e,c⟩:=ob; exact ⟨z,y,vs,r,o,es,ep,kp _ e,c⟩
   | ext φ=>obtain ⟨h1,⟨o1,h2⟩,h3⟩:=ob; exact ⟨h3 _ _ h1 kp,⟨o1,kp _ h2⟩,h3⟩
   | _=>exact wx.elim
theorem psd_setCO (i:Nat) {elt:Expr} {ifs:List Expr} {scope:Scope} {N M:List Str} {cap:List (Option Nat)} {sc:Scope} {Tb:D→List Slot} {y:Str} {py spos:Pos} (p:D→Bool) (f:D→D)
  (hN:X.N.Nodup) (hi:X.N[i]? =some y) (hy:X.env.scope.names.lookup y=some .local)
  (hsw:swapsWith (.ListComp elt [⟨tg,iter,ifs,0⟩] scope pos) (some (.Name y py)) spos.line X.env=pure true)
  (hit:PId X (unO sd) PT0 tg iter ds) (hl:ds.length≤1000)
  (hsc:X.env.scope=sc) (hcn:mD scope sc=true) (hM:X.N=M) (hcap:kR N M scope sc cap=true) (hk:scope.kind= .function)
  (hg:∀cl C fp s H d,d∈ds→PGd (cxB X N scope cl C fp s H) (jL cap sd) tg d (Tb d))
  (hle:∀d,d∈ds→Le (Tb d) (jL cap sd))
  (ht:∀cl C fp s H d,d∈ds→(ifs=[]∧p d=true)∨∃c,ifs=[c]∧PTd (cxB X N scope cl C fp s H) (Tb d) c (p d))
  (he:∀cl C fp s H d,d∈ds→p d=true→PEd (cxB X N scope cl C fp s H) (Tb d) elt (.val (f d)))
  (hE:∀l,E.nx (sd.set i (.own l ((ds.filter p).map f))))
  (hc:X.calm=true:=by rfl) (hs:∀x,foldedSetIterable iter X.env x=pure x:=by intro _; rfl):
  PSd1 X sd (.Assign [.Name y py] (.ListComp elt [⟨tg,iter,ifs,0⟩] scope pos) spos) E:= .mk fun σ F H S=>by
 intro pins0 s I0; have I1:Inv X pins0 σ F s:=I0.less S.sub S.base (S.smp.sub S.sub)
 have ob:∀l∈cM sd,∃xs o,H l=some xs∧Wr l xs∧s.heap.get? l=some o∧∀v,o.data≠ .cell v:=fun l hl=>by obtain ⟨n,xs,q,wx⟩:=S.slots.owns hl; exact wr_obj wx q (I0.hok l _ q)
 have I:Inv X (pins0++lH (cM sd) s.heap) σ F s:=I1.pins_of fun p hp=>(aY.mp hp).elim (fun z=>I1.pin p (aG _ z)) fun z=>by
  obtain ⟨hb,g⟩:=qF z; obtain ⟨xs,o,q,_,ho,hc⟩:=ob p.1 hb; rw [g] at ho; cases ho; refine ⟨g,(S.slots.owns hb).1,fun y=> ?_,fun y=> ?_,hc⟩
  ·have:=I0.free; rw [← y,q] at this; cases this
  ·obtain ⟨_,o',ho',_⟩:=I0.ok.funs.mem y; have:=I0.base.free p.1 o' ho' (I0.ok.frf p.1 y) fun z=>I0.ok.exfs p.1 z y
   rw [q] at this; cases this
 have hpins:∀ (s':Shared) (σ':St) (F3:Hp),Inv X (pins0++lH (cM sd) s.heap) σ' F3 s'→∀l∈cM sd,F3 l=none∧(∃xs,H l=some xs∧Wr l xs)∧∀o,s.heap.get? l=some o→s'.heap.get? l=some o:=fun s' σ' F3 I3 l hl=>by obtain ⟨xs,o,q,wx,ho,_⟩:=ob l hl; have:=I3.pin (l,o) (aG _ (aG _ (iU hl ho))); exact ⟨this.2.1,⟨xs,q,wx⟩,fun o' g=>by rw [ho] at g; cases g; exact this.1⟩
 have S0:StF X.K X.B₀ F F σ (unO sd):=⟨S.base,Same.refl _,S.smp.sub S.sub,qE S.slots,by rw [iH]; exact eK⟩; have hpe:∃pins,pins=pins0++lH (cM sd) s.heap:=⟨_,rfl⟩; obtain ⟨pins,hpe⟩:=hpe; rw [← hpe] at I hpins
 have nm:∀y∈scope.names,(y.2=NameKind.free→sc.names.lookup y.1=some NameKind.cell)∧(y.2=NameKind.local→scope.names.lookup y.1=some NameKind.local):=fun y hy=>by have q:=fH.mp hcn y hy; simp only [bN,iR,iY,beq_eq_false_iff_ne,ne_eq,beq_iff_eq] at q; exact ⟨fun e=>q.1.1.resolve_left fun z=>z e,fun e=>q.2.resolve_left fun z=>z e⟩
 have fre:∀y∈scope.names,y.2= .free→∃c,X.env.cells.lookup y.1=some c:=fun y hy e=>I.ok.has y.1 (.inl (by show X.env.scope.names.lookup y.1=_; rw [hsc]; exact (nm y hy).1 e))
 rw [exec_Assign_Name_used _ _ _ _ hsw]; refine wpAny_bind (wpAny_standAt (wpAny_bind ?_)); show wpAny _ X.A (do let _ ← comprehension (.ListComp elt [⟨tg,iter,ifs,0⟩] scope pos) scope X.env _ (newList []) false (eval iter X.env) (some (assign (.Name y py) X.env))) _ _ s; refine wpAny_bind (wpAny_mono (wpAny_comprehension_free (use:=some (assign (.Name y py) X.env)) (Q:=fun _ s'=>SP X pins0 (lft X F E) .next s') rfl hs (oG fre) hk (fun y hy=>(nm y hy).2) ?_) (fun _ s' hq=>wpAny_pure (wpAny_pure hq)) fun _ _ e=>e); refine thn (hit σ F F S0 pins s I) fun v s1 h1=>thn h1 fun itv s2 h2=> ?_
 obtain ⟨it,fp,tn,J,H2,e,I2,T,st2,f2,F1,S1,s1',itd⟩:=h2; subst e
 have S1b:StF X.K H2 H2 H2 (tS cap σ) (jL cap sd):=⟨Same.refl _,Same.refl _,S1.smp,by
  have q:=rO (sd:=unO sd) (H':=H2) S1.slots S1.sub cap; rw [vM] at q
  exact q,by rw [mK]; exact eK⟩
 refine vR (N:=N) (cap:=cap) (g:=fun v σ2 H3 Q=>∀cl C,wG (cxB X N scope cl C fp s2 H2) tg v σ2 H3 Q) (tt:=fun σ2 H3 Q=>∀cl C,wIfs (cxB X N scope cl C fp s2 H2) ifs σ2 H3 Q) (te:=fun σ2 H3 Q=>∀cl C,wE (cxB X N scope cl C fp s2 H2) elt σ2 H3 Q)
  hc hsc hcn (by rw [hM]; exact hcap) hk I2 T st2 f2 (fun cl C pi s3 σ3 H3 v u Q I3 ru q=>q cl C pi s3 u I3 ru) (fun cl C pi s3 σ3 H3 Q I3 q=>q cl C pi s3 I3) (fun cl C pi s3 σ3 H3 Q I3 q=>q cl C pi s3 I3)
  (fun i m ys σb H3=>m=ds.length - i∧i≤ds.length∧∃Fb,StF X.K H2 Fb H3 σb (jL cap sd)∧RepL X.K Fb (((ds.take i).filter p).map f) ys) ds.length
  ⟨by simp,bO _,H2,S1b,by simpa using RepL.nil⟩ _ ?_
 rintro i' m ys σb H3 ⟨rfl,hil,Fb,Sb,rl⟩; have sF1:Same F1 Fb:=fun b o g=>Sb.base _ _ (S1.sub _ _ g)
 obtain ⟨g1,g2,g3⟩:=itd Fb H3 sF1 Sb.sub Sb.smp trivial i'
 by_cases hlt:i'<ds.length
 ·have hd:ds[i']? =some ds[i']:=by simp [hlt]
  have hm:ds[i']∈ds:=fI hlt
  have ylen:ys.length≤i':=by rw [rl.len,aD]; exact dO (kS _ _) (by simp; omega)
  refine .inr ⟨g1 hlt,iA (by omega),fun ys' σ' H'=>∃Fb',StF X.K H2 Fb' H' σ' (jL cap sd)∧RepL X.K Fb' (((ds.take (i'+1)).filter p).map f) ys',fun ys' σ' H' ⟨Fb',Sb',rl'⟩=>⟨ds.length - (i'+1),by omega,rfl,hlt,Fb',Sb',rl'⟩,fun x H4 y cl C=> ?_⟩; obtain ⟨F4,s4,rp,up⟩:=g3 x H4 ds[i'] hd y; refine (hg cl C fp s2 H2 _ hm σb F4 H4 x (up _ _ _ Sb) rp).imp fun σ5 H5 ⟨F5,S5,s5⟩ cl2 C2=> ?_
  have rl5:=rl.mono (s4.trans s5)
  have fin:∀ (b:Bool) (H6:Hp) (F6:Hp),b=p ds[i']→StF X.K H2 F6 H6 σ5 (Tb ds[i'])→Same F5 F6→if b=true then (∀cl C,wE (cxB X N scope cl C fp s2 H2) elt σ5 H6 fun v H5=>∃Fb',StF X.K H2 Fb' H5 σ5 (jL cap sd)∧RepL X.K Fb' (((ds.take (i'+1)).filter p).map f) (ys++[v])) else ∃Fb',StF X.K H2 Fb' H6 σ5 (jL cap sd)∧RepL X.K Fb' (((ds.take (i'+1)).filter p).map f) ys:=fun b H6 F6 eb S6 s6=>by
   rw [kG p hd,← eb]; cases b with
   | false=>exact iteF ⟨F6,S6.le (hle _ hm),by simpa using rl5.mono s6⟩
   | true=>
    refine iteT fun cl3 C3=>(he cl3 C3 fp s2 H2 _ hm eb.symm σ5 F6 H6 S6).imp fun v H7 ⟨F7,S7,s7,q7⟩=>⟨F7,S7.le (hle _ hm), ?_⟩
    simp only [if_true,aR,bD,gE]; exact ((rl5.mono s6).mono s7).app (.one q7)
  rcases ht cl2 C2 fp s2 H2 _ hm with ⟨e1,e2⟩ | ⟨c,e1,q⟩
  ·subst e1; exact rP (fin true H5 F5 e2.symm S5 (Same.refl _))
  ·subst e1; exact vJ ((q σ5 F5 H5 S5).imp fun b H6 ⟨eb,F6,S6,s6⟩=>fin b H6 F6 eb S6 s6)
 ·have e:i'=ds.length:=by omega
  subst e; refine .inl ⟨g2 (aN _),fun D C s' hD hC hDC h0 hL hcc hpp hst ⟨m',ns'⟩ J'=> ?_⟩; have fbD:Fb D=none:=Sb.sub.free hD; have nOw:∀l∈cM sd,(upd H3 D (.lst ys)) l=none:=fun l hl=>(hpins _ _ _ J' l hl).1
  have dOw:D∉cM sd:=fun hl=>by have:=nOw D hl; rw [cS] at this; cases this
  have S9:StF X.K X.B₀ Fb (fun b=>if b∈cM sd then H b else (upd H3 D (.lst ys)) b) σ sd:=by
   refine ⟨fun b o g=>sF1 _ _ (S1.base _ _ g),fun b o g=> ?_,fun b o g=> ?_,S.slots.mono (s1'.trans sF1) fun l hl=> ?_,S.nd⟩
   ·have nb:b∉cM sd:=fun hb=>by have:=nOw b hb; rw [bW (cP g fbD)] at this; rw [Sb.sub _ _ g] at this; cases this
    show (if b∈cM sd then H b else _)=_; rw [if_neg nb,bW (cP g fbD)]; exact Sb.sub _ _ g
   ·by_cases hb:b∈cM sd
    ·simp only [hb,if_true] at g; exact S.smp _ _ g
    ·simp only [hb,if_false] at g
     by_cases hb:b=D
     ·subst hb; rw [cS] at g; cases g; trivial
     ·rw [bW hb] at g; exact Sb.smp _ _ g
   ·have:=nOw l hl; rw [bW (show l≠D from fun q=>dOw (q▸hl))] at this; refine ⟨Sb.sub.free this,fun xs g=> ?_⟩; show (if l∈cM sd then H l else _)=_; rw [if_pos hl]; exact g
  have S10:=S9.setO i fbD (by show (if D∈cM sd then _ else _)=_; rw [if_neg dOw]; exact cS) rl dOw; obtain ⟨oC,esC,epC,hoC,rC⟩:=id ns'; have nC:(upd H3 D (.lst ys)) C=none:=by rw [bW (Ne.symm hDC)]; exact hC
  have Jp:Inv X (pins++[(C,oC)]) σ (upd H3 D (.lst ys)) s':=J'.pins_of fun q hq=>(aY.mp hq).elim (fun z=>J'.pin q (aG _ z)) fun z=>by
   have z:q=(C,oC):=by simpa using z
   subst z
   exact ⟨hoC,nC,hL,fun y=>hst (by
    rcases J'.ok.stk with e | ⟨e,_⟩
    ·rw [e]; exact y
    ·rw [e]; unfold frs; rw [eZ]; cases X.env.frame with
     | none=>exact y
     | some fr=>exact aM _ y),fun v z=>by rw [rC.1] at z; cases z⟩
  show wpAny _ X.A (assign (.Name y py) X.env (.ref D)) _ _ _; refine wpAny_assign_Name (rM (v:= .ref D) (u:= .ref D) Jp hN hi (.inl hy) rfl (fun s3 J3=> ?_) (.inr hy)); have pC:=J3.pin (C,oC) (aG _ (aG _ aO)); refine ⟨m',⟨oC,esC,epC,pC.1,rC⟩,fun h' sb=> ?_⟩; have J4:Inv X pins _ (upd H3 D (.lst ys)) s3:=J3.pins_of fun q hq=>J3.pin q (aG _ (bE _ hq))
  have J5:Inv X pins _ (upd H3 D (.lst ys)) {s3 with heap:=h',toks:=s3.toks}:=J4.turned (it:=C) (fun b o hb g=>sb.extBut b o hb g) nC hL (.inr h0) hcc hpp; have J6:Inv X pins0 _ (upd H3 D (.lst ys)) {s3 with heap:=h',toks:=s3.toks}:=J5.pins_of fun q hq=>J5.pin q (aG _ (by rw [hpe]; exact bE _ hq))
  have J7:=Inv.retrack2 I0 (cM sd) S.nd (hpins _ _ _ J5) J6; refine ⟨_,_,J7,_,Fb,S10,s1'.trans sF1, ?_⟩; have hE':=hE D; simpa using hE'
end
theorem xK:∀ {sd:List Slot} {i:Nat} {z:Slot},(cM sd).Nodup→sd[i]? =some z→(iL z).Nodup
 | [],_,_,_,e=>by simp at e
 | y::zs,0,z,h,e=>by
  have:y=z:=by simpa using e
  subst this; exact (dF.mp (show (iL y++cM zs).Nodup from h)).1
 | y::zs,i+1,z,h,e=>xK (sd:=zs) (i:=i) (dF.mp (show (iL y++cM zs).Nodup from h)).2.1 (by simpa using e)
section
variable {K:aB} {H₀ F F' H H':Hp} {σ:St} {sd:List Slot} {i:Nat} {l:Addr} {ls:List Addr} {nss:List (List Int)}
theorem StF.setX {as:List Addr} {G:V→Hp→Hp→Prop} {v:V} (S:StF K H₀ F H σ sd) (i:Nat) (q:oK K F H (.ox as G) (some v)) (nd:as.Nodup) (no:∀a∈as,a∉cM sd):StF K H₀ F H (σ.set i (some v)) (sd.set i (.ox as G)):=
 ⟨S.base,S.sub,S.smp,S.slots.set (z:= .ox as G) q i,(jR (z:= .ox as G) i S.nd (fun l e=> .inl (no l e)) nd).1⟩
theorem StF.reX {z z':Slot} {o:Option V} (S:StF K H₀ F H σ sd) (hs:sd[i]? =some z) (ho:σ[i]? =some o) (keep:∀b ob,b∉iL z→H b=some ob→H' b=some ob) (sm:Smp H') (q:oK K F H' z' o) (nd:(iL z').Nodup) (no:∀a∈iL z',a∈iL z∨a∉cM sd):StF K H₀ F H' σ (sd.set i z'):=by
 have S0:=S.le (iZ sd i); have mz:∀a∈iL z,a∈cM sd:=fun a ha=>gM.mpr ⟨z,dE hs,ha⟩
 refine ⟨S.base,fun b u e=> ?_,sm, ?_, ?_⟩
 ·refine keep b u (fun hb=> ?_) (S.sub _ _ e); have:=(S.slots.owns (mz b hb)).1; rw [e] at this; cases this
 ·have q1:SlotsOk K F H' (sd.set i .un) σ:=S0.slots.mono (Same.refl _) fun a ha=>⟨(S0.slots.owns ha).1,fun ob e=>keep a ob (fun hb=>jQ S.nd hs hb ha) e⟩
  have q2:=q1.set (z:=z') (o:=o) q i; rw [nB,pM ho] at q2; exact q2
 ·have:=jR (z:=z') i S0.nd (fun a ha=>by
   rcases no a ha with h | h
   ·exact .inl (jQ S.nd hs h)
   ·exact .inl fun hm=>h ((iZ sd i).own.subset hm)) nd
  rw [nB] at this; exact this.1
def inF (F H:Hp) (as:List Addr):Hp:=fun b=>if b∈as then H b else F b
theorem inF_in {as:List Addr} {b:Addr} (h:b∈as):inF F H as b=H b:=if_pos h
theorem inF_ni {as:List Addr} {b:Addr} (h:b∉as):inF F H as b=F b:=if_neg h
theorem inF_sub {as:List Addr} (h:∀a∈as,F a=none):Same F (inF F H as):=fun b u e=>by rw [inF_ni (fun hb=>by rw [h b hb] at e; cases e)]; exact e
theorem StF.inN (S:StF K H₀ F H σ sd) (h0:∀a∈l::ls,F a=none) (no:∀a∈l::ls,a∉cM sd):StF K H₀ (inF F H (l::ls)) H σ sd∧Same F (inF F H (l::ls)):=by
 have s1:=inF_sub (H:=H) h0; refine ⟨⟨fun b u e=>s1 _ _ (S.base _ _ e),fun b u e=> ?_,S.smp,S.slots.mono s1 fun a ha=>⟨?_,fun ob e=>e⟩,S.nd⟩,s1⟩
 ·by_cases h:b∈l::ls
  ·rw [inF_in h] at e; exact e
  ·rw [inF_ni h] at e; exact S.sub _ _ e
 ·rw [inF_ni (fun hb=>no a hb ha)]; exact (S.slots.owns ha).1
def uD (F:Hp):List Addr→Hp
 | []=>F
 | a::as=>del (uD F as) a
theorem qI:∀ {as:List Addr} {a:Addr},a∈as→uD F as a=none
 | b::as,a,h=>by
  show del (uD F as) b a=none
  by_cases e:a=b
  ·subst e; exact del_same
  ·rw [del_ne e]; exact qI ((aS.mp h).resolve_left e)
theorem kQ:∀ {as:List Addr} {a:Addr},a∉as→uD F as a=F a
 | [],_,_=>rfl
 | b::as,a,h=>by show del (uD F as) b a=F a; rw [del_ne (show a≠b from fun e=>h (e▸aO))]; exact kQ fun z=>h (aM _ z)
theorem Rep.delN {d:D} {v:V} (hn:noL d=true) (r:Rep K F d v):∀ {as:List Addr},as.Nodup→(∀a∈as,∃xs,F a=some (.lst xs))→Rep K (uD F as) d v
 | [],_,_=>r
 | a::as,nd,h=>by obtain ⟨n1,n2⟩:=cV.mp nd; obtain ⟨xs,e⟩:=h a aO; exact Rep.del (xs:=xs) (by rw [kQ n1]; exact e) hn (Rep.delN hn r n2 fun b hb=>h b (aM _ hb))
theorem RepL.delN {ds:List D} {vs:List V} (hn:rG ds=true) (r:RepL K F ds vs):∀ {as:List Addr},as.Nodup→(∀a∈as,∃xs,F a=some (.lst xs))→RepL K (uD F as) ds vs
 | [],_,_=>r
 | a::as,nd,h=>by obtain ⟨n1,n2⟩:=cV.mp nd; obtain ⟨xs,e⟩:=h a aO; exact RepL.del (xs:=xs) (by rw [kQ n1]; exact e) hn (RepL.delN hn r n2 fun b hb=>h b (aM _ hb))
def okN:Slot→Bool
 | .ox as _=>as.isEmpty
 | z=>okS z
def OthN (sd:List Slot) (i:Nat):Prop:=∀ (k:Nat) (z:Slot),k≠i→sd[k]? =some z→okN z=true
def othN:List Slot→Nat→Bool
 | [],_=>true
 | _::zs,0=>zs.all okN
 | z::zs,i+1=>okN z && othN zs i
theorem zG:∀ {sd:List Slot} {i:Nat},othN sd i=true→OthN sd i
 | [],_,_,k,y,_,hz=>by simp at hz
 | z::zs,0,h,k,y,hk,hz=>by
  cases k with
  | zero=>exact absurd rfl hk
  | succ k=>exact fH.mp (show zs.all okN=true from h) _ (dE (by simpa using hz))
 | z::zs,i+1,h,k,y,hk,hz=>by
  have h':(okN z && othN zs i)=true:=h; rw [bN] at h'; cases k with
  | zero=>
   have:z=y:=by simpa using hz
   subst this; exact h'.1
  | succ k=>exact zG h'.2 k y (fun q=>hk (by rw [q])) (by simpa using hz)
end
section
variable {X:Cx} {sd:List Slot} {e a b c tg iter o:Expr} {es:List Expr} {pos:Pos} {r ra rb:R} {d:D} {ds:List D} {st:Stmt} {rest:List Stmt} {E:jX} {l:Addr} {ls:List Addr} {nss:List (List Int)} {ns:List Int}
theorem smp_upd {H:Hp} {xs:List V} (h:Smp H) (a:Addr):Smp (upd H a (.lst xs)):=fun b u e=>by
 by_cases z:b=a
 ·subst z; rw [cS] at e; cases e; trivial
 ·rw [bW z] at e; exact h _ _ e
def isA (a:Addr):Slot:= .ox [] fun v _ _=>v= .ref a
theorem isA_get {K:aB} {H₀ F H:Hp} {σ:St} {j:Nat} {a:Addr} (S:StF K H₀ F H σ sd) (hs:sd[j]? =some (isA a)):σ[j]? =some (some (.ref a)):=by
 obtain ⟨o,h1,v,h2,h3,h4⟩:=S.slots.get hs; have e:=h4 F H (Same.refl _) fun _ _ _ q=>q
 subst e h2; exact h1
end
theorem noLs_int:∀ns:List Int,rG (ns.map D.int)=true
 | []=>rfl
 | n::ns=>by show (true && rG (ns.map D.int))=true; rw [noLs_int ns]; rfl
def InD (K:aB) (F H:Hp):List Addr→List (List D)→Prop
 | [],[]=>True
 | a::as,ds::dss=>(∃xs,H a=some (.lst xs)∧RepL K F ds xs)∧InD K F H as dss
 | _,_=>False
section
variable {K:aB} {F F' H H':Hp}
theorem InD.len:∀ {as:List Addr} {dss:List (List D)},InD K F H as dss→as.length=dss.length
 | [],[],_=>rfl
 | [],_::_,h=>h.elim
 | _::_,[],h=>h.elim
 | _::as,_::dss,h=>by rw [dS,dS,InD.len h.2]
theorem InD.of:∀ {as:List Addr} {dss:List (List D)},InD K F H as dss→∀a∈as,∃xs,H a=some (.lst xs)
 | [],[],_,a,ha=>by cases ha
 | [],_::_,h,_,_=>h.elim
 | _::_,[],h,_,_=>h.elim
 | b::as,_::dss,h,a,ha=>by
  rcases aS.mp ha with rfl | ha
  ·exact ⟨h.1.choose,h.1.choose_spec.1⟩
  ·exact InD.of h.2 a ha
theorem InD.mono:∀ {as:List Addr} {dss:List (List D)},InD K F F as dss→Same F F'→InD K F' F' as dss
 | [],[],_,_=>trivial
 | [],_::_,h,_=>h.elim
 | _::_,[],h,_=>h.elim
 | _::as,_::dss,h,s=>by obtain ⟨⟨xs,e,r⟩,h2⟩:=h; exact ⟨⟨xs,s _ _ e,r.mono s⟩,InD.mono h2 s⟩
theorem InD.app:∀ {as bs:List Addr} {dss ess:List (List D)},InD K F H as dss→InD K F H bs ess→InD K F H (as++bs) (dss++ess)
 | [],bs,[],ess,_,h=>h
 | [],_,_::_,_,h,_=>h.elim
 | _::_,_,[],_,h,_=>h.elim
 | a::as,bs,_::dss,ess,h,g=>⟨h.1,InD.app h.2 g⟩
theorem InD.out {cs:List Addr} {Fb:Hp}:∀ {as:List Addr} {dss:List (List D)},InD K Fb Fb as dss→(∀es∈dss,rG es=true)→cs.Nodup→(∀a∈cs,∃xs,Fb a=some (.lst xs))→Same (uD Fb cs) F'→(∀a∈as,∀ob,Fb a=some ob→H' a=some ob)→InD K F' H' as dss
 | [],[],_,_,_,_,_,_=>trivial
 | [],_::_,h,_,_,_,_,_=>h.elim
 | _::_,[],h,_,_,_,_,_=>h.elim
 | a::as,es::dss,h,hn,nd,fx,s,k=>by obtain ⟨⟨xs,e,r⟩,h2⟩:=h; exact ⟨⟨xs,k a aO _ e,(RepL.delN (hn es aO) r nd fx).mono s⟩,InD.out h2 (fun x hx=>hn x (aM _ hx)) nd fx s fun b hb=>k b (aM _ hb)⟩
end
def GD (K:aB) (l:Addr) (ls:List Addr) (dss:List (List D)):V→Hp→Hp→Prop:=fun v F H=>v= .ref l∧H l=some (.lst (ls.map V.ref))∧InD K F H ls dss
section
variable {K:aB} {H₀ F F' H H':Hp} {σ:St} {sd:List Slot} {i:Nat} {l:Addr} {ls:List Addr} {dss:List (List D)}
theorem InD.mono2:∀ {as:List Addr} {dss:List (List D)},InD K F H as dss→Same F F'→(∀a∈as,∀ob,H a=some ob→H' a=some ob)→InD K F' H' as dss
 | [],[],_,_,_=>trivial
 | [],_::_,h,_,_=>h.elim
 | _::_,[],h,_,_=>h.elim
 | a::as,_::dss,h,s,k=>by obtain ⟨⟨xs,e,r⟩,h2⟩:=h; exact ⟨⟨xs,k a aO _ e,r.mono s⟩,InD.mono2 h2 s fun b hb=>k b (aM _ hb)⟩
theorem InD.get:∀ {as:List Addr} {dss:List (List D)} {t:Nat} {a:Addr},InD K F H as dss→as[t]? =some a→∃ds xs,dss[t]? =some ds∧H a=some (.lst xs)∧RepL K F ds xs
 | [],[],t,a,_,e=>by simp at e
 | [],_::_,_,_,h,_=>h.elim
 | _::_,[],_,_,h,_=>h.elim
 | b::as,ds::dss,0,a,h,e=>by
  have:b=a:=by simpa using e
  subst this; obtain ⟨⟨xs,e1,r⟩,_⟩:=h; exact ⟨ds,xs,rfl,e1,r⟩
 | b::as,ds::dss,t+1,a,h,e=>by obtain ⟨ms,xs,e1,e2⟩:=InD.get (t:=t) h.2 (by simpa using e); exact ⟨ms,xs,by simpa using e1,e2⟩
theorem InD.set:∀ {as:List Addr} {dss:List (List D)} {t:Nat} {a:Addr} {es:List D} {ys:List V},as.Nodup→InD K F H as dss→as[t]? =some a→RepL K F es ys→InD K F (upd H a (.lst ys)) as (dss.set t es)
 | [],[],t,a,_,_,_,_,e,_=>by simp at e
 | [],_::_,_,_,_,_,_,h,_,_=>h.elim
 | _::_,[],_,_,_,_,_,h,_,_=>h.elim
 | b::as,ds::dss,0,a,es,ys,nd,h,e,r=>by
  have:b=a:=by simpa using e
  subst this; refine ⟨⟨ys,cS,r⟩,h.2.mono2 (Same.refl _) fun c hc ob q=> ?_⟩; rw [bW (show c≠b from fun z=>(cV.mp nd).1 (z▸hc))]; exact q
 | b::as,ds::dss,t+1,a,es,ys,nd,h,e,r=>by
  have e':as[t]? =some a:=by simpa using e
  obtain ⟨⟨xs,e1,r1⟩,h2⟩:=h; refine ⟨⟨xs, ?_,r1⟩,InD.set (cV.mp nd).2 h2 e' r⟩; rw [bW (show b≠a from fun z=>(cV.mp nd).1 (z▸dE e'))]; exact e1
end
def tQ (f:Nat→Bool) (A:List (List Int)):Option (List Int):=((bR A.length).find? f).map fun k=>A.getD k []
theorem first_some {f:Nat→Bool} {A:List (List Int)} {k:Nat} (hk:k<A.length) (h:f k=true) (hn:∀j,j<k→f j=false):tQ f A=some (A.getD k []):=by
 unfold tQ
 have:(bR A.length).find? f=some k:=by rw [List.find?_range_eq_some]; exact ⟨h,bS.mpr hk,fun j hj=>by rw [hn j hj]; rfl⟩
 rw [this]; rfl
theorem vL {f:Nat→Bool} {A:List (List Int)} (hn:∀j,j<A.length→f j=false):tQ f A=none:=by unfold tQ; rw [nJ.mpr fun k hk=>by rw [hn k (bS.mp hk)]; simp]; rfl
theorem plL_map' {α:Type} (f:α→D) (h:∀a,pl (f a)=true):∀l:List α,plL (l.map f)=true
 | []=>rfl
 | a::l=>by show (pl (f a) && plL (l.map f))=true; rw [h a,plL_map' f h l]; rfl
theorem zU {α:Type} (f:α→D) (n:Nat) (h:∀a,dep (f a)≤n):∀l:List α,mV (l.map f)≤n
 | []=>bO _
 | a::l=>Nat.max_le.mpr ⟨h a,zU f n h l⟩
def wsD:Option (List (List Int))→D
 | none=> .non
 | some L=> .lst (L.map bG)
def WsOk (p:Int × Int) (o:Option (List (List Int))):Prop:=∀L,o=some L→0<L.length∧L.length≤100∧∀ws∈L,Fil p ws
structure WishOk (p:Int × Int) (w:List (Option (List (List Int)))):Prop where
 len:w.length=(bC p).length
 ok:∀o∈w,WsOk p o
theorem oS {w:List (Option (List (List Int)))} {k:Nat} (h:k<w.length):(w.map wsD)[k]? =some (wsD (w.getD k none)):=by simp [dD,h]
theorem kA {w:List (Option (List (List Int)))} {k:Nat} {d:D} (h:(w.map wsD)[k]? =some d):k<w.length∧d=wsD (w.getD k none):=by
 have hk:k<w.length:=by have:=(cG.mp h).1; simpa using this
 rw [oS hk] at h; exact ⟨hk,(cA.inj h).symm⟩
theorem isN_ws (o:Option (List (List Int))):isN (wsD o)=o.isNone:=by cases o<;>rfl
theorem isN_opt (o:Option (List Int)):isN (optD o)=o.isNone:=by cases o<;>rfl
theorem pl_ws (o:Option (List (List Int))):pl (wsD o)=true:=by
 cases o with
 | none=>rfl
 | some L=>exact mL L
theorem dep_ws (o:Option (List (List Int))):dep (wsD o)≤2:=by
 cases o with
 | none=>exact bO _
 | some L=>exact Nat.succ_le_succ (kB L)
theorem tG (w:List (Option (List (List Int)))):plL (w.map wsD)=true:=plL_map' wsD pl_ws w
theorem qD (w:List (Option (List (List Int)))):mV (w.map wsD)≤2:=zU wsD 2 dep_ws w
def sX (c:Int):Int:=[c / 4%7,c / 4%8,c / 4%10,c / 4%14].getD (c%4).toNat 0
def CSmall:List D→R→Prop:=fun ds r=>∃c,ds=[.int c]∧r= .val (dM (wK (sX c)))
def zP (n:Int):Nat→Int
 | 0=>n
 | t+1=>zP n t / 2
def nG (n:Int) (A:List (List Int)):Nat→List (List Int)
 | 0=>[]
 | t+1=>nG n A t++if decide (zP n t%2=1) then [A.getD t []] else []
def someQ (n:Int) (A:List (List Int)):List (List Int):=nG n A A.length
theorem vE (n:Int) (A:List (List Int)):∀t,t≤A.length→(nG n A t).length≤t∧∀ws∈nG n A t,ws∈A
 | 0,_=>⟨aN _,fun ws h=>by cases h⟩
 | t+1,h=>by
  obtain ⟨a,b⟩:=vE n A t (by omega); unfold nG
  split
  ·refine ⟨by rw [cR]; exact Nat.succ_le_succ a,fun ws hw=> ?_⟩
   rcases aY.mp hw with hw | hw
   ·exact b ws hw
   ·have:ws=A.getD t []:=by simpa using hw
    rw [this]; exact getD_mem (by omega)
  ·rw [dR]; exact ⟨by omega,b⟩
def CSome:List D→R→Prop:=fun ds r=>∃ (n:Int) (A:List (List Int)),A.length≤100∧ds=[.int n, .lst (A.map bG)]∧r= .own ((someQ n A).map bG)
def mI (x:Int):Int:=[(1:Int),2,3,5,7,1000].getD (x / 4%6).toNat 0
def f0N (x:Int) (A:List (List Int)):Nat:=(Builtin.Range.rangeSize (x / 24%(A.length:Int)) (A.length:Int) (mI x)).toNat
def f0Q (x:Int) (A:List (List Int)):List (List Int):=(bR (f0N x A)).map fun (k:Nat)=>A.getD (x / 24%(A.length:Int)+(k:Int) * mI x).toNat []
def f1Q (x y z:Int) (A:List (List Int)):List (List Int):=if decide (1<x%4) then someQ ((x / 4%64 * 2147483647+y) * 2147483647+z) A else f0Q x A
def f2Q (x y z:Int) (A:List (List Int)):List (List Int):=if (f1Q x y z A).isEmpty then [A.getD (y%(A.length:Int)).toNat []] else f1Q x y z A
def elQ (x y z:Int) (A:List (List Int)):Option (List (List Int)):=if decide (x%4=0) then none else some (f2Q x y z A)
theorem qH (x:Int):1≤mI x∧mI x≤1000:=by
 have a1:=cH (x / 4) (show (6:Int)≠0 by decide); have a2:=bZ (x / 4) (show (0:Int)<6 by decide); unfold mI; generalize x / 4%6=z at a1 a2; have:z=0∨z=1∨z=2∨z=3∨z=4∨z=5:=by omega
 rcases this with rfl | rfl | rfl | rfl | rfl | rfl<;>decide
theorem zY {x:Int} {A:List (List Int)} (hA:0<A.length) {k:Nat} (hk:k<f0N x A):0≤x / 24%(A.length:Int)+(k:Int) * mI x∧x / 24%(A.length:Int)+(k:Int) * mI x<(A.length:Int):=by
 have a1:=cH (x / 24) (show (A.length:Int)≠0 by omega); have a2:=bZ (x / 24) (show (0:Int)<(A.length:Int) by omega); obtain ⟨s1,s2⟩:=qH x; unfold f0N Builtin.Range.rangeSize at hk; generalize x / 24%(A.length:Int)=a at a1 a2 hk; generalize mI x=c at s1 s2 hk; rw [if_pos (by omega),if_pos a2] at hk
 have b1:(k:Int)≤((A.length:Int) - a - 1) / c:=by have:=Int.ediv_nonneg (show 0≤(A.length:Int) - a - 1 by omega) (show 0≤c by omega); omega
 have b2:=Int.mul_le_mul_of_nonneg_right b1 (show 0≤c by omega); have b3:=Int.ediv_mul_le ((A.length:Int) - a - 1) (show c≠0 by omega); have b4:=Int.mul_nonneg (show 0≤(k:Int) by omega) (show 0≤c by omega); omega
theorem f0N_le {x:Int} {A:List (List Int)} (hA:0<A.length):f0N x A≤A.length:=by have a1:=cH (x / 24) (show (A.length:Int)≠0 by omega); have a2:=bZ (x / 24) (show (0:Int)<(A.length:Int) by omega); have:=rangeSize_toNat_le (x / 24%(A.length:Int)) (A.length:Int) (mI x); unfold f0N; omega
theorem f1_ok {x y z:Int} {A:List (List Int)} (hA:0<A.length):(f1Q x y z A).length≤A.length∧∀ws∈f1Q x y z A,ws∈A:=by
 unfold f1Q
 split
 ·exact vE _ A _ (aN _)
 ·refine ⟨by unfold f0Q; rw [aD,cN]; exact f0N_le hA,fun ws hw=> ?_⟩; obtain ⟨k,hk,rfl⟩:=bB.mp hw; have:=zY hA (bS.mp hk); exact getD_mem (by omega)
theorem f2_ok {x y z:Int} {A:List (List Int)} (hA:0<A.length):0<(f2Q x y z A).length∧(f2Q x y z A).length≤A.length∧∀ws∈f2Q x y z A,ws∈A:=by
 obtain ⟨a,b⟩:=f1_ok (x:=x) (y:=y) (z:=z) hA; unfold f2Q
 split
 ·have a1:=cH y (show (A.length:Int)≠0 by omega); have a2:=bZ y (show (0:Int)<(A.length:Int) by omega); refine ⟨Nat.zero_lt_one,hA,fun ws hw=> ?_⟩; have:ws=A.getD (y%(A.length:Int)).toNat []:=by simpa using hw
  rw [this]; exact getD_mem (by omega)
 ·rename_i h; refine ⟨?_,a,b⟩; cases q:f1Q x y z A with
  | nil=>rw [q] at h; exact (h rfl).elim
  | cons _ _=>exact pW _
def tX (c:Int) (A:List (List Int)):List (Option (List (List Int))):=(bR A.length).map fun t=>elQ ((cO c (3 * A.length)).getD (3 * t) 0) ((cO c (3 * A.length)).getD (3 * t+1) 0) ((cO c (3 * A.length)).getD (3 * t+2) 0) A
def CWish:List D→R→Prop:=fun ds r=>∃ (c:Int) (A:List (List Int)),0<A.length∧A.length≤64∧ds=[.int c, .lst (A.map bG)]∧r= .own ((tX c A).map wsD)
def CCopyW:List D→R→Prop:=fun ds r=>∃w:List (Option (List (List Int))),w.length≤100∧ds=[.lst (w.map wsD)]∧r= .own (w.map wsD)
def sG (c:Int) (A:List (List Int)) (t:Nat):List (Option (List (List Int))):=(bR t).map fun t=>elQ ((cO c (3 * A.length)).getD (3 * t) 0) ((cO c (3 * A.length)).getD (3 * t+1) 0) ((cO c (3 * A.length)).getD (3 * t+2) 0) A
theorem wishN_succ (c:Int) (A:List (List Int)) (t:Nat):sG c A (t+1)=sG c A t++[elQ ((cO c (3 * A.length)).getD (3 * t) 0) ((cO c (3 * A.length)).getD (3 * t+1) 0) ((cO c (3 * A.length)).getD (3 * t+2) 0) A]:=by unfold sG; rw [mE,aR]; rfl
def uC (w:List (Option (List (List Int)))) (T:List (List Int)) (k:Nat):Bool:=match w.getD k none with
 | none=>false
 | some L=> !decide (T.getD k []∈L)
def jD (w:List (Option (List (List Int)))) (A T:List (List Int)):Option (List Int):=tQ (uC w T) A
def CMiss:List D→R→Prop:=fun ds r=>∃p w T,p∈dZ∧WishOk p w∧TabOk p T∧ds=[dM p, .lst (w.map wsD), .tup (T.map bG)]∧r= .val (optD (jD w (bC p) T))
def CDoes:List D→R→Prop:=fun ds r=>∃p w T,p∈dZ∧WishOk p w∧TabOk p T∧ds=[dM p, .lst (w.map wsD), .tup (T.map bG)]∧r= .val (.bl (jD w (bC p) T).isNone)
theorem vU (L:List (List Int)) (t:List Int):((L.map bG).any fun z=>deq z (bG t))=decide (t∈L):=by
 induction L with
 | nil=>simp
 | cons a L ih=>
  rw [bD,List.any_cons,ih,deq_tupI]
  by_cases h:t=a
  ·simp [h]
  ·have h2:¬ a=t:=fun q=>h q.symm
   simp [h,h2]
theorem cut3 {xs:List Int} {i:Nat} (h:i+3≤xs.length):DL.cutD (xs.map D.int) (some (i:Int)) (some ((i+3:Nat):Int))=[.int (xs.getD i 0), .int (xs.getD (i+1) 0), .int (xs.getD (i+2) 0)]:=by
 unfold DL.cutD; rw [HT.sIx_nat,HT.sIx_nat,aD,qM (by omega),qM (by omega),show i+3 - i=3 by omega]; have l0:i<(xs.map D.int).length:=by rw [aD]; omega
 have l1:i+1<(xs.map D.int).length:=by rw [aD]; omega
 have l2:i+1+1<(xs.map D.int).length:=by rw [aD]; omega
 rw [eI l0,eI l1,eI l2]; have e0:i<xs.length:=by omega
 have e1:i+1<xs.length:=by omega
 have e2:i+2<xs.length:=by omega
 simp [dD,e0,e1,e2]
theorem deqL_nil (L:List (List Int)):mU (L.map bG) []=L.isEmpty:=by cases L<;>rfl
section
variable {X:Cx} {sd:List Slot} {e a b c:Expr} {pos:Pos} {ds:List D}
theorem yV (ds:List D) (k:Nat):DL.cutD ds none (some (k:Int))=ds.take k:=by
 unfold DL.cutD; rw [HT.sIx_nat,HT.sIx_none]
 by_cases h:k≤ds.length
 ·rw [qM h]; simp
 ·rw [Nat.min_eq_right (by omega),fO (show ds.length≤k by omega)]; simp
theorem zN (ds:List D) (k:Nat):DL.cutD ds (some (k:Int)) none=ds.drop k:=by
 unfold DL.cutD; rw [HT.sIx_nat,HT.sIx_none]
 by_cases q:k≤ds.length
 ·rw [qM q]; exact fO (by simp)
 ·rw [Nat.min_eq_right (by omega),List.drop_of_length_le (aN _),List.drop_of_length_le (by omega)]; simp
end
theorem cut_set {α:Type} (l:List α) (t:Nat) (a:α):(l.set t a).take t++(l.set t a).drop (t+1)=l.take t++l.drop (t+1):=by rw [List.take_set_of_le (aN _),List.drop_set_of_lt (lM _)]
structure TurnOk (n:Nat) (τ:List Nat):Prop where
 len:τ.length=n
 lt:∀b∈τ,b<n
 mem:∀b,b<n→b∈τ
 nd:τ.Nodup
structure SqN (n:Nat) (q:SQ):Prop where
 k10:q.1<10
 i0:0≤q.2.1∧q.2.1<n
 j0:0≤q.2.2.1∧q.2.2.1<n
theorem srt_keep (h:Heap) (vs:List Value) (out:Array Value):(∀b x,h.get? b=some x→(sortedAll h vs out).get? b=some x)∧∃n,(sortedAll h vs out).get? (h.objs.size+1)=some (seqObj "list" out n):=by
 have hsz:((h.push (seqObj "list" #[] 0)).update h.objs.size (Obj.mapSeq (·++vs.toArray))).objs.size=h.objs.size+1:=by rw [oZ,size_push']
 have hoL:(((h.push (seqObj "list" #[] 0)).update h.objs.size (Obj.mapSeq (·++vs.toArray))).push (seqObj "list" vs.toArray 0)).get? (h.objs.size+1)=some (seqObj "list" vs.toArray 0):=by rw [← hsz]; exact aV _ rfl
 constructor
 ·intro b x g; have lt:=aI g; have n1:h.objs.size≠b:=fun z=>absurd lt (by rw [z]; exact eP _)
  have n2:h.objs.size+1≠b:=fun z=>absurd lt (by rw [← z]; exact pT.mpr (oB _))
  unfold sortedAll sortedHeap; rw [cY _ _ n2]; refine aA _ (aA _ ?_); rw [cY _ _ n2]; refine aA _ ?_; rw [cY _ _ n1]; exact aA _ g
 ·obtain ⟨n1,g1⟩:∃n1,((((h.push (seqObj "list" #[] 0)).update h.objs.size (Obj.mapSeq (·++vs.toArray))).push (seqObj "list" vs.toArray 0)).update (h.objs.size+1) (Obj.mapSeq fun _=> #[])).get? (h.objs.size+1)=some (seqObj "list" #[] n1):=⟨_,get?_update_seq hoL (fun _=> #[])⟩; exact ⟨_,get?_update_seq (aA _ (aA _ g1)) (fun _=>out)⟩
def exO (l:Addr) (o:Obj):HO:= .ext (fun h=>h.get? l=some o)
def TDo (P:Program) (w:World) (F:Hp) (l:Addr) (o:Obj) (kvs:List (List Key × V)):Prop:=
 kvs.length≤sizeLine∧(l==sysModules)=false∧∃xs,KT F kvs xs∧∃es ep,o.ExactDict∧o.data= .dict es ep∧es.toList=xs.map (entryOfKey (tupleKind (gZ P w)))∧(xs.map (·.1)).Nodup
def kD:Key→D
 | .inl i=> .int i
 | .inr x=> .str x
theorem rep_keys {K:aB} {F:Hp}:∀ {k:List Key} {xs:List V},RepL K F (k.map kD) xs→xs=k.map kV
 | [],xs,r=>by simpa only [gE,RepL] using r
 | a::k,xs,r=>by
  rw [bD] at r; obtain ⟨y,ys,rfl,q,rl⟩:=r.uncons; rw [rep_keys rl,bD]; congr 1; cases a with
  | inl i=>simp only [kD,Rep] at q; exact q
  | inr x=>simp only [kD,Rep] at q; exact q
def Gt (P:Program) (w:World) (K:aB) (l:Addr) (ks:List (List Key)) (ds:List D):V→Hp→Hp→Prop:=fun v F H=>v= .ref l∧∃o xs,H l=some (exO l o)∧(∀v,o.data≠ .cell v)∧RepL K F ds xs∧ks.length=ds.length∧TDo P w F l o (ks.zip xs)
def odT (P:Program) (w:World) (K:aB) (l:Addr) (ks:List (List Key)) (ds:List D):Slot:= .ox [l] (Gt P w K l ks ds)
theorem xB:∀ {sd:List Slot} {i:Nat} {z:Slot},(cM sd).Nodup→sd[i]? =some z→(iL z).Nodup
 | [],_,_,_,e=>by simp at e
 | y::zs,0,z,h,e=>by
  have:y=z:=by simpa using e
  subst this; exact (dF.mp (show (iL y++cM zs).Nodup from h)).1
 | y::zs,i+1,z,h,e=>xB (sd:=zs) (i:=i) (dF.mp (show (iL y++cM zs).Nodup from h)).2.1 (by simpa using e)
section
variable {K:aB} {H₀ F F' H H':Hp} {σ:St} {sd:List Slot} {i:Nat} {l:Addr} {P:Program} {w:World} {ks:List (List Key)} {ds:List D}
theorem StF.reT {z z':Slot} {o:Option V} (S:StF K H₀ F H σ sd) (hs:sd[i]? =some z) (ho:σ[i]? =some o) (keep:∀b ob,b∉iL z→H b=some ob→H' b=some ob) (sm:Smp H') (q:oK K F H' z' o) (nd:(iL z').Nodup) (no:∀a∈iL z',a∈iL z∨a∉cM sd):StF K H₀ F H' σ (sd.set i z'):=by
 have S0:=S.le (iZ sd i); have mz:∀a∈iL z,a∈cM sd:=fun a ha=>gM.mpr ⟨z,dE hs,ha⟩
 refine ⟨S.base,fun b u e=> ?_,sm, ?_, ?_⟩
 ·refine keep b u (fun hb=> ?_) (S.sub _ _ e); have:=(S.slots.owns (mz b hb)).1; rw [e] at this; cases this
 ·have q1:SlotsOk K F H' (sd.set i .un) σ:=S0.slots.mono (Same.refl _) fun a ha=>⟨(S0.slots.owns ha).1,fun ob e=>keep a ob (fun hb=>jQ S.nd hs hb ha) e⟩
  have q2:=q1.set (z:=z') (o:=o) q i; rw [nB,pM ho] at q2; exact q2
 ·have:=jR (z:=z') i S0.nd (fun a ha=>by
   rcases no a ha with h | h
   ·exact .inl (jQ S.nd hs h)
   ·exact .inl fun hm=>h ((iZ sd i).own.subset hm)) nd
  rw [nB] at this; exact this.1
end
def Gf (P:Program) (w:World) (K:aB) (ks:List (List Key)) (ds:List D):V→Hp→Hp→Prop:=fun v F _=>∃l o xs,v= .ref l∧F l=some (exO l o)∧RepL K F ds xs∧ks.length=ds.length∧TDo P w F l o (ks.zip xs)
def odF (P:Program) (w:World) (K:aB) (ks:List (List Key)) (ds:List D):Slot:= .ox [] (Gf P w K ks ds)
section
variable {X:Cx} {sd:List Slot} {e a b c:Expr} {pos:Pos} {d:D} {ds:List D} {ks:List (List Key)} {k:List Key} {st:Stmt} {E:jX} {l:Addr} {ls:List Addr} {dss:List (List D)}
theorem psd_retX (i:Nat) {x:Str} {p:Pos} {as:List Addr} {G:V→Hp→Hp→Prop} {G':V→List Addr→Hp→Hp→Prop} (hs:sd[i]? =some (.ox as G)) (hx:PE X (.Name x p) (pD i)) (hG:∀v F H,G v F H→G' v as F H) (hE:E.rt (.ox G')):PSd1 X sd (.Return (some (.Name x p)) pos) E:= .mk fun σ F H S=>
 (ps_ret hx).to (by
  obtain ⟨o,h1,v,h2,h3,h4⟩:=S.slots.get hs
  exact ⟨v,by rw [h1,h2], .ox G',⟨F,S.base,S.sub,S.smp,as,xB S.nd hs,fun l hl=>⟨(h3 l hl).1,(h3 l hl).2,by simp [cM]⟩,fun F' H' s k=>hG _ _ _ (h4 F' H' s k)⟩,hE⟩)
end
def mH (p:Int × Int) (ws:List Int):Nat:=(numI (2^p.1.toNat) ws).toNat
theorem num_ok {p:Int × Int} (hp:p∈dZ) {ws:List Int} (G:Fil p ws):numI (2^p.1.toNat) ws=(mH p ws:Int)∧mH p ws<(bC p).length∧(bC p).getD (mH p ws) []=ws:=by have h:=fil_ok (chk14 p hp); obtain ⟨a,b,c⟩:=fil_at h G.len G.wd; refine ⟨by unfold mH; omega, ?_,c⟩; show _<(iM _ _).length; rw [h.len]; exact b
theorem tU {p:Int × Int} (hp:p∈dZ) {i:Nat} (hi:i<(bC p).length):mH p ((bC p).getD i [])=i:=by
 have h:=fil_ok (chk14 p hp); have hi':i<2^(p.1.toNat * p.2.toNat):=by rw [← h.len]; exact hi
 have:=(h.at_ i hi').2.2.1; unfold mH; show (numI (2^p.1.toNat) ((iM (2^p.1.toNat) p.2.toNat).getD i [])).toNat=i; rw [this]; exact eE i
def LtAt (A:Around) (s:Shared) (x y:Value) (b:Bool):Prop:=∀ (prog:Program) (w:World) (E:Value→Shared→Prop) (Q:Value→Shared→Prop),Q (.bool b) s→wpAny (model prog w) A (richCompare .Lt x y) Q E s
inductive LexV (A:Around) (s:Shared) (fin:Bool):List (Value × Value)→Bool→Prop
 | nil:LexV A s fin [] fin
 | eq {x y:Value} {r:List (Value × Value)} {b:Bool}:SeqAt.EqAt A.in1 s x y true→LexV A s fin r b→LexV A s fin ((x,y)::r) b
 | lt {x y:Value} {r:List (Value × Value)} {b:Bool}:SeqAt.EqAt A.in1 s x y false→LtAt A.in1 s x y b→LexV A s fin ((x,y)::r) b
section
open PySem.SeqAt
open PySem.AutoSeq1 (wpAny_loadPart')
open PySem.MeetsSeq PySem.MeetsSeq2 PySem.MeetsSeq3
end
mutual
def dlt:D→D→Bool
 | .int a, .int b=>decide (a<b)
 | .tup a, .tup b=>dltL a b
 | _,_=>false
def dltL:List D→List D→Bool
 | [],[]=>false
 | [],_::_=>true
 | _::_,[]=>false
 | d::ds,e::es=>if deq d e=true then dltL ds es else dlt d e
end
mutual
def cmp2:D→D→Bool
 | .int _, .int _=>true
 | .tup a, .tup b=>cmpL a b
 | _,_=>false
def cmpL:List D→List D→Bool
 | [],_=>true
 | _::_,[]=>true
 | d::ds,e::es=>cmp2 d e && cmpL ds es
end
section
variable {prog:Program} {w:World} {A:Around} {E:Value→Shared→Prop} {s:Shared}
open HT
end
section
variable {X:Cx} {sd:List Slot} {e a b c:Expr} {pos:Pos} {d:D} {ds:List D}
theorem op_inDL (d:D) (ds:List D) (p1:pl d=true) (p2:plL ds=true) (hu:X.A.units+1+mV ds<cLine):OpR X (compareOp .In) (fun x y H Q=>Rep X.K H (.lst ds) y∧Rep X.K H d x∧Q (.bl (ds.any fun z=>deq z d)) H):=by
 intro pins s σ H x y v u Q I rx ry h; obtain ⟨hl,hd,k⟩:=h; obtain ⟨a,xs,its,rfl,rfl,rl,rv,ht⟩:=kE I.hok hl ry
 have hat:∀ (j:Nat) (w:Value),its[j]? =some w→∃z v,ds[j]? =some z∧xs[j]? =some v∧Rep X.K H z v∧RelV v w:=fun j w hw=>by
  have hj:j<its.length:=(cG.mp hw).1; have hx:j<xs.length:=by rw [Vals.length rv]; exact hj
  have hd:j<ds.length:=by rw [← rl.len]; exact hx
  obtain ⟨v,hv,rz⟩:=rl.get (i:=j) (d:=ds[j]) (by simp [hd])
  exact ⟨ds[j],v,by simp [hd],hv,rz,by
   have:=rv.get hv; obtain ⟨w',hw',r⟩:=this; rw [hw] at hw'; cases hw'
   exact r⟩
 have dc:=fun w:Value=>Classical.propDecidable (∃ (j:Nat) (z:D),its[j]? =some w∧ds[j]? =some z∧deq z d=true)
 refine SeqAt.in_listAt (fun w=> @decide _ (dc w)) ht (fun w hw=> ?_) ⟨.bl _,H,I,rfl, ?_⟩
 ·by_cases q:∃ (j:Nat) (z:D),its[j]? =some w∧ds[j]? =some z∧deq z d=true
  ·obtain ⟨j,z,e1,e2,e3⟩:=q; obtain ⟨z',v,f1,f2,f3,f4⟩:=hat j w e1; rw [e2] at f1; cases f1; have: @decide _ (dc w)=true:=by rw [decide_eq_true_eq]; exact ⟨j,z,e1,e2,e3⟩
   rw [this,← e3]; exact vI I.hok z (rW p2 e2) p1 f3 hd f4 rx (by have:=pR e2; show X.A.units+1+dep z<cLine; omega)
  ·have hw':w∈its:=by simpa using hw
   obtain ⟨j,hj,rfl⟩:=gK hw'; obtain ⟨z,v,f1,f2,f3,f4⟩:=hat j its[j] (by simp [hj])
   have e3:deq z d=false:=by
    cases h:deq z d with
    | false=>rfl
    | true=>exact (q ⟨j,z,by simp [hj],f1,h⟩).elim
   have: @decide _ (dc its[j])=false:=by rw [decide_eq_false_iff_not]; exact q
   rw [this,← e3]; exact vI I.hok z (rW p2 f1) p1 f3 hd f4 rx (by have:=pR f1; show X.A.units+1+dep z<cLine; omega)
 ·have e:its.toArray.any (fun w=> @decide _ (dc w))=ds.any fun z=>deq z d:=by
   rw [gY,List.any_toArray,oX,oX]
   constructor
   ·rintro ⟨w,hw,q⟩; rw [decide_eq_true_eq] at q; obtain ⟨j,z,e1,e2,e3⟩:=q; exact ⟨z,dE e2,e3⟩
   ·rintro ⟨z,hz,e3⟩; obtain ⟨j,hj,rfl⟩:=gK hz; have hi:j<its.length:=by rw [← Vals.length rv,rl.len]; exact hj
    exact ⟨its[j],fI hi,by rw [decide_eq_true_eq]; exact ⟨j,ds[j],by simp [hi],by simp [hj],e3⟩⟩
  rw [e]; exact k
theorem pQ (ha:PEd X sd a (.val d)) (hb:PEd X sd b (.val (.lst ds))) (p1:pl d=true) (p2:plL ds=true) (hu:X.A.units+1+mV ds<cLine) (hk:behindInMarks .In b=false:=by with_unfolding_all rfl):PTd X sd (.Compare a [.In] [b] pos) (ds.any fun z=>deq z d):=
 jW (op_inDL d ds p1 p2 hu) ha hb trivial hk fun σ F H x u Q S q1 q2 k=>⟨Rep.mono S.sub q2,Rep.mono S.sub q1,k F H S (Same.refl _)⟩
end
def kY (ws:List Int):List Key:=ws.map Sum.inl
theorem kY_D (ws:List Int):D.tup ((kY ws).map kD)=bG ws:=by unfold kY bG; rw [bX]; rfl
def shp {α β:Type} (n:β) (g:α→β):List Bool→List α→List β
 | [],_=>[]
 | false::m,as=>n::shp n g m as
 | true::m,[]=>n::shp n g m []
 | true::m,a::as=>g a::shp n g m as
theorem uR {α β:Type} (n:β) (g:α→β):∀ (m:List Bool) (as:List α),(shp n g m as).length=m.length
 | [],_=>rfl
 | false::m,as=>by simp [shp,uR n g m as]
 | true::m,[]=>by simp [shp,uR n g m []]
 | true::m,a::as=>by simp [shp,uR n g m as]
theorem shp_t {α β:Type} (n:β) (g:α→β):∀ {m:List Bool} {as:List α} {t:Nat},as.length=m.count true→m[t]? =some true→∃a,as[(m.take t).count true]? =some a∧(shp n g m as)[t]? =some (g a)
 | [],_,t,_,h=>by simp at h
 | false::m,as,0,_,h=>by simp at h
 | false::m,as,t+1,hl,h=>by obtain ⟨a,h1,h2⟩:=shp_t n g (m:=m) (as:=as) (t:=t) (by simpa using hl) (by simpa using h); exact ⟨a,by simpa using h1,by simpa [shp] using h2⟩
 | true::m,[],t,hl,_=>by simp at hl
 | true::m,a::as,0,_,_=>⟨a,by simp,by simp [shp]⟩
 | true::m,b::as,t+1,hl,h=>by obtain ⟨a,h1,h2⟩:=shp_t n g (m:=m) (as:=as) (t:=t) (by simpa using hl) (by simpa using h); exact ⟨a,by simpa using h1,by simpa [shp] using h2⟩
theorem qA {α β:Type} (n:β) (g:α→β):∀ (m:List Bool) (as:List α),shp n g (m++[false]) as=shp n g m as++[n]
 | [],as=>by cases as<;>rfl
 | false::m,as=>by simp [shp,qA n g m as]
 | true::m,[]=>by simp [shp,qA n g m []]
 | true::m,a::as=>by simp [shp,qA n g m as]
theorem tT {α β:Type} (n:β) (g:α→β) (a:α):∀ (m:List Bool) (as:List α),as.length=m.count true→shp n g (m++[true]) (as++[a])=shp n g m as++[g a]
 | [],[],_=>rfl
 | [],b::as,h=>by simp at h
 | false::m,as,h=>by simp [shp,tT n g a m as (by simpa using h)]
 | true::m,[],h=>by simp at h
 | true::m,b::as,h=>by simp [shp,tT n g a m as (by simpa using h)]
theorem vB {α β γ:Type} (n:β) (g:α→β) (k:γ→α):∀ (m:List Bool) (as:List γ),shp n g m (as.map k)=shp n (g ∘ k) m as
 | [],_=>rfl
 | false::m,as=>by simp [shp,vB n g k m as]
 | true::m,[]=>by have:=vB n g k m []; simp only [gE] at this; simp [shp,this]
 | true::m,a::as=>by simp [shp,vB n g k m as]
theorem shp_opt {α β:Type} (n:β) (g:α→β) (k:Option α→β) (h0:k none=n) (h1:∀a,k (some a)=g a):∀os:List (Option α),shp n g (os.map eX) (os.filterMap id)=os.map k
 | []=>rfl
 | none::os=>by simp [shp,shp_opt n g k h0 h1 os,h0]
 | some a::os=>by simp [shp,shp_opt n g k h0 h1 os,h1]
theorem uN {α:Type}:∀os:List (Option α),(os.filterMap id).length=(os.map eX).count true
 | []=>rfl
 | none::os=>by simpa using uN os
 | some a::os=>by simp [uN os]
def GO (K:aB) (m:List Bool) (l:Addr) (ls:List Addr) (dss:List (List D)):V→Hp→Hp→Prop:=fun v F H=>v= .ref l∧H l=some (.lst (shp V.non V.ref m ls))∧InD K F H ls dss
def oO (K:aB) (m:List Bool) (l:Addr) (ls:List Addr) (dss:List (List D)):Slot:= .ox (l::ls) (GO K m l ls dss)
def ooR (K:aB) (m:List Bool) (dss:List (List D)):R:= .ox fun v as F H=>∃l ls,as=l::ls∧GO K m l ls dss v F H
section
variable {K:aB} {H₀ F F' H H':Hp} {σ:St} {sd:List Slot} {i:Nat} {l:Addr} {ls:List Addr} {dss:List (List D)} {m:List Bool}
theorem tL (S:StF K H₀ F H σ sd) (hs:sd[i]? =some (oO K m l ls dss)):σ[i]? =some (some (.ref l))∧(∀a∈l::ls,F a=none)∧H l=some (.lst (shp V.non V.ref m ls))∧InD K F H ls dss∧(l::ls).Nodup:=by
 obtain ⟨o,h1,v,h2,h3,h4⟩:=S.slots.get hs; obtain ⟨e,q1,q2⟩:=h4 F H (Same.refl _) fun _ _ _ q=>q
 subst e h2; exact ⟨h1,fun a ha=>(h3 a ha).1,q1,q2,xK S.nd hs⟩
theorem oO_mk (hF:∀a∈l::ls,F a=none) (h1:H l=some (.lst (shp V.non V.ref m ls))) (h2:InD K F H ls dss):oK K F H (oO K m l ls dss) (some (.ref l)):=by
 refine ⟨.ref l,rfl,fun a ha=>⟨hF a ha, ?_⟩,fun F' H' s k=>⟨rfl,k _ aO _ h1,h2.mono2 s fun a ha=>k a (aM _ ha)⟩⟩
 rcases aS.mp ha with rfl | ha
 ·exact ⟨_,h1,trivial⟩
 ·obtain ⟨xs,e⟩:=h2.of a ha; exact ⟨.lst xs,e,trivial⟩
theorem uM {G:Hp}:∀ {m:List Bool} {as:List Addr} {dss:List (List D)},InD K G G as dss→RepL K G (shp D.non D.lst m dss) (shp V.non V.ref m as)
 | [],_,_,_=> .nil
 | false::m,as,dss,h=> .cons (by simp only [Rep]) (uM (m:=m) h)
 | true::m,[],[],h=> .cons (by simp only [Rep]) (uM (m:=m) h)
 | true::m,[],_::_,h=>h.elim
 | true::m,_::_,[],h=>h.elim
 | true::m,a::as,ds::dss,h=>by obtain ⟨⟨xs,e,r⟩,h2⟩:=h; refine .cons ?_ (uM (m:=m) h2); simp only [Rep]; exact ⟨a,xs,rfl,e,r⟩
theorem rep_inO (h0:∀a∈l::ls,F a=none) (h1:H l=some (.lst (shp V.non V.ref m ls))) (h2:InD K F H ls dss):Rep K (inF F H (l::ls)) (.lst (shp D.non D.lst m dss)) (.ref l):=by
 simp only [Rep]; refine ⟨l,_,rfl, ?_,uM (h2.mono2 (inF_sub h0) fun a ha ob e=> ?_)⟩
 ·rw [inF_in aO]; exact h1
 ·rw [inF_in (aM _ ha)]; exact e
theorem StF.lendO (S:StF K H₀ F H σ sd) (hs:sd[i]? =some (oO K m l ls dss)):StF K H₀ (inF F H (l::ls)) H σ (sd.set i (.val (.lst (shp D.non D.lst m dss)))):=by
 obtain ⟨h1,h2,h3,h4,h5⟩:=tL S hs; have S0:=S.le (iZ sd i); obtain ⟨S1,s1⟩:=S0.inN h2 fun a ha=>jQ S.nd hs ha
 have S2:=S1.set (d:= .lst (shp D.non D.lst m dss)) (v:= .ref l) i (rep_inO h2 h3 h4); rw [nB,pM h1] at S2; exact S2
theorem StF.backO (S:StF K H₀ F H σ sd) (hs:sd[i]? =some (oO K m l ls dss)) (ho:OthN sd i) (S':StF K H₀ F' H' σ (sd.set i (.val (.lst (shp D.non D.lst m dss))))) (s:Same (inF F H (l::ls)) F'):
  StF K H₀ (uD F' (l::ls)) H' σ sd∧Same F (uD F' (l::ls))∧(l::ls).Nodup∧(∀a∈l::ls,∃xs,F' a=some (.lst xs)):=by
 obtain ⟨h1,h2,h3,h4,h5⟩:=tL S hs; have fl:∀a∈l::ls,∀ob,H a=some ob→F' a=some ob:=fun a ha ob e=>s _ _ (by rw [inF_in ha]; exact e)
 have fx:∀a∈l::ls,∃xs,F' a=some (.lst xs):=fun a ha=>by
  rcases aS.mp ha with rfl | ha'
  ·exact ⟨_,fl _ ha _ h3⟩
  ·obtain ⟨xs,e⟩:=h4.of a ha'; exact ⟨xs,fl _ ha _ e⟩
 have sF:Same F (uD F' (l::ls)):=fun b u e=>by
  have nb:b∉l::ls:=fun hb=>by rw [h2 b hb] at e; cases e
  rw [kQ nb]; exact s _ _ (by rw [inF_ni nb]; exact e)
 refine ⟨⟨fun b u e=>sF _ _ (S.base _ _ e),fun b u e=> ?_,S'.smp, ?_,S.nd⟩,sF,h5,fx⟩
 ·by_cases h:b∈l::ls
  ·rw [qI h] at e; cases e
  ·rw [kQ h] at e; exact S'.sub _ _ e
 ·refine slots_of S.slots.len fun k z hz=> ?_
  by_cases hk:k=i
  ·subst hk; rw [hs] at hz; cases hz; exact ⟨_,h1,oO_mk (fun a ha=>qI ha) (S'.sub _ _ (fl _ aO _ h3)) (h4.mono2 sF fun a ha ob e=>S'.sub _ _ (fl _ (aM _ ha) _ e))⟩
  ·obtain ⟨o1,g1,g2⟩:=S.slots.get hz; obtain ⟨o2,g3,g4⟩:=S'.slots.get (i:=k) (z:=z) (by rw [lP (Ne.symm hk)]; exact hz); rw [g1] at g3; cases g3; refine ⟨o1,g1, ?_⟩; cases z with
   | un=>trivial
   | val d=>obtain ⟨v,e,r⟩:=g2; exact ⟨v,e,r.mono sF⟩
   | gh d G=>obtain ⟨v,e,r,g⟩:=g2; exact ⟨v,e,r.mono sF,fun F2 s2=>g F2 (sF.trans s2)⟩
   | own l' ds'=>
    obtain ⟨e,n',ys,q',rl'⟩:=g4
    have ne:l'∉l::ls:=fun hb=>by obtain ⟨xs,e2⟩:=fx l' hb; rw [e2] at n'; cases n'
    exact ⟨e,by rw [kQ ne]; exact n',ys,q',RepL.delN (ho k _ hk hz) rl' h5 fx⟩
   | od l' ks ds'=>
    obtain ⟨e,n',ys,q',ln,rl'⟩:=g4
    have ne:l'∉l::ls:=fun hb=>by obtain ⟨xs,e2⟩:=fx l' hb; rw [e2] at n'; cases n'
    exact ⟨e,by rw [kQ ne]; exact n',ys,q',ln,RepL.delN (ho k _ hk hz) rl' h5 fx⟩
   | ox as G=>have e0:as=[]:=List.isEmpty_iff.mp (ho k _ hk hz); subst e0; obtain ⟨v,e,_,g⟩:=g2; exact ⟨v,e,fun a ha=>(by cases ha),fun F2 H2 s2 _=>g F2 H2 (sF.trans s2) fun a ha=>(by cases ha)⟩
end
section
variable {X:Cx} {sd:List Slot} {e a b c tg iter o:Expr} {es:List Expr} {pos:Pos} {r ra rb:R} {d:D} {ds:List D} {st:Stmt} {rest:List Stmt} {E:jX} {l:Addr} {ls:List Addr} {dss:List (List D)} {m:List Bool}
theorem PTd.lendO (i:Nat) {k:Bool} (hs:sd[i]? =some (oO X.K m l ls dss)) (ho:OthN sd i) (h:PTd X (sd.set i (.val (.lst (shp D.non D.lst m dss)))) e k):PTd X sd e k:= .mk fun σ F H S=>by
 refine (h σ _ H (S.lendO hs)).imp fun v H' ⟨e,F',S',s'⟩=> ?_
 obtain ⟨S2,s2,_⟩:=S.backO hs ho S' s'; exact ⟨e,_,S2,s2⟩
theorem PEd.lendO (i:Nat) (hs:sd[i]? =some (oO X.K m l ls dss)) (ho:OthN sd i) (hf:noL d=true) (h:PEd X (sd.set i (.val (.lst (shp D.non D.lst m dss)))) e (.val d)):PEd X sd e (.val d):= .mk fun σ F H S=>by
 refine (h σ _ H (S.lendO hs)).imp fun v H' ⟨F',S',s',res⟩=> ?_
 obtain ⟨S2,s2,nd,fx⟩:=S.backO hs ho S' s'; exact ⟨_,S2,s2,Rep.delN hf res nd fx⟩
theorem psd_setOO (i:Nat) {x:Str} {p:Pos} (hN:X.N.Nodup) (hi:X.N[i]? =some x) (hx:Loc X.env.scope x) (h:PEd X sd e (ooR X.K m dss)) (hE:∀l ls,E.nx (sd.set i (oO X.K m l ls dss))) (hs:swapsWith e (some (.Name x p)) pos.line X.env=pure false:=by rfl)
  (hf:X.fn x=true∨X.env.scope.names.lookup x=some .local:=by first | exact .inl rfl | exact .inr rfl | assumption):PSd1 X sd (.Assign [.Name x p] e pos) E:= .mk fun σ F H S=>
 (ps_set hN hi hx hX hs hf).to ((h σ F H S).imp fun v H' ⟨F',S',s',as,nd,q,g⟩=>by
  obtain ⟨l,ls,rfl,rfl,g1,g2⟩:=g F' H' (Same.refl _) fun _ _ _ z=>z
  exact ⟨_,F',S'.setX i (oO_mk (fun a ha=>(q a ha).1) g1 g2) nd fun a ha=>(q a ha).2.2,s',hE l ls⟩)
theorem StF.wrO {K:aB} {H₀ F H:Hp} {σ:St} {i t:Nat} {a:Addr} {es:List D} {ys:List V} (S:StF K H₀ F H σ sd) (hs:sd[i]? =some (oO K m l ls dss)) (ht:ls[t]? =some a) (r:RepL K F es ys):StF K H₀ F (upd H a (.lst ys)) σ (sd.set i (oO K m l ls (dss.set t es))):=by
 obtain ⟨g1,g2,g3,g4,g5⟩:=tL S hs; obtain ⟨n1,n2⟩:=cV.mp g5; have ma:=dE ht; refine S.reX (z':=oO K m l ls (dss.set t es)) hs g1 (fun b ob hb q=> ?_) (smp_upd S.smp a) (oO_mk g2 ?_ (g4.set n2 ht r)) g5 fun b hb=> .inl hb
 ·rw [bW (show b≠a from fun z=>hb (z▸aM _ ma))]; exact q
 ·rw [bW (show l≠a from fun z=>n1 (z▸ma))]; exact g3
theorem pd_compO {elt:Expr} {ifs:List Expr} {scope:Scope} {N M:List Str} {cap:List (Option Nat)} {sc:Scope} {Tb:D→List Slot} (p:D→Bool) (f:D→Option (List D)) (hfl:∀d es,f d=some es→rG es=true)
  (hi:PId X (unO sd) PT0 tg iter ds) (hl:ds.length≤1000)
  (hsc:X.env.scope=sc) (hcn:mD scope sc=true) (hM:X.N=M) (hcap:kR N M scope sc cap=true) (hk:scope.kind= .function)
  (hg:∀cl C fp s H d,d∈ds→PGd (cxB X N scope cl C fp s H) (jL cap sd) tg d (Tb d))
  (hle:∀d,d∈ds→Le (Tb d) (jL cap sd))
  (ht:∀cl C fp s H d,d∈ds→(ifs=[]∧p d=true)∨∃c,ifs=[c]∧PTd (cxB X N scope cl C fp s H) (Tb d) c (p d))
  (he:∀cl C fp s H d,d∈ds→p d=true→PEd (cxB X N scope cl C fp s H) (Tb d) elt (match f d with | none=> .val .non | some es=> .own es))
  (hc:X.calm=true:=by rfl) (hs:∀x,foldedSetIterable iter X.env x=pure x:=by intro _; rfl):
  PEd X sd (.ListComp elt [⟨tg,iter,ifs,0⟩] scope pos) (ooR X.K (((ds.filter p).map f).map eX) (((ds.filter p).map f).filterMap id)):= .mk fun σ F H S=>by
 refine wE_frame S trivial ?_; have S0:StF X.K X.B₀ F F σ (unO sd):=⟨S.base,Same.refl _,S.smp.sub S.sub,qE S.slots,by rw [iH]; exact eK⟩; intro pins s I
 have nm:∀y∈scope.names,(y.2=NameKind.free→sc.names.lookup y.1=some NameKind.cell)∧(y.2=NameKind.local→scope.names.lookup y.1=some NameKind.local):=fun y hy=>by have q:=fH.mp hcn y hy; simp only [bN,iR,iY,beq_eq_false_iff_ne,ne_eq,beq_iff_eq] at q; exact ⟨fun e=>q.1.1.resolve_left fun z=>z e,fun e=>q.2.resolve_left fun z=>z e⟩
 have fre:∀y∈scope.names,y.2= .free→∃c,X.env.cells.lookup y.1=some c:=fun y hy e=>I.ok.has y.1 (.inl (by show X.env.scope.names.lookup y.1=_; rw [hsc]; exact (nm y hy).1 e))
 rw [eval_ListComp]; refine wpAny_comprehension_free (use:=none) rfl hs (oG fre) hk (fun y hy=>(nm y hy).2) ?_; refine thn (hi σ F F S0 pins s I) fun v s1 h1=>thn h1 fun itv s2 h2=> ?_
 obtain ⟨it,fp,tn,J,H2,e,I2,T,st2,f2,F1,S1,s1',itd⟩:=h2; subst e
 have S1b:StF X.K H2 H2 H2 (tS cap σ) (jL cap sd):=⟨Same.refl _,Same.refl _,S1.smp,by
  have q:=rO (sd:=unO sd) (H':=H2) S1.slots S1.sub cap; rw [vM] at q
  exact q,by rw [mK]; exact eK⟩
 refine vR (N:=N) (cap:=cap) (g:=fun v σ2 H3 Q=>∀cl C,wG (cxB X N scope cl C fp s2 H2) tg v σ2 H3 Q) (tt:=fun σ2 H3 Q=>∀cl C,wIfs (cxB X N scope cl C fp s2 H2) ifs σ2 H3 Q) (te:=fun σ2 H3 Q=>∀cl C,wE (cxB X N scope cl C fp s2 H2) elt σ2 H3 Q)
  hc hsc hcn (by rw [hM]; exact hcap) hk I2 T st2 f2 (fun cl C pi s3 σ3 H3 v u Q I3 ru q=>q cl C pi s3 u I3 ru) (fun cl C pi s3 σ3 H3 Q I3 q=>q cl C pi s3 I3) (fun cl C pi s3 σ3 H3 Q I3 q=>q cl C pi s3 I3)
  (fun i m ys σb H3=>m=ds.length - i∧i≤ds.length∧∃Fb as,StF X.K H2 Fb H3 σb (jL cap sd)∧ys=shp V.non V.ref ((((ds.take i).filter p).map f).map eX) as∧as.Nodup∧(∀a∈as,H2 a=none)∧InD X.K Fb Fb as ((((ds.take i).filter p).map f).filterMap id)) ds.length
  ⟨by simp,bO _,H2,[],S1b,rfl,eK,fun a ha=>(by cases ha),(show InD X.K H2 H2 [] [] from trivial)⟩ _ ?_
 rintro i m ys σb H3 ⟨rfl,hil,Fb,as,Sb,rfl,nda,fra,rl⟩; have sF1:Same F1 Fb:=fun b o g=>Sb.base _ _ (S1.sub _ _ g)
 obtain ⟨g1,g2,g3⟩:=itd Fb H3 sF1 Sb.sub Sb.smp trivial i
 by_cases hlt:i<ds.length
 ·have hd:ds[i]? =some ds[i]:=by simp [hlt]
  have hm:ds[i]∈ds:=fI hlt; have cnt:as.length=((((ds.take i).filter p).map f).map eX).count true:=by rw [rl.len,uN]
  have ylen:(shp V.non V.ref ((((ds.take i).filter p).map f).map eX) as).length≤i:=by rw [uR,aD,aD]; exact dO (kS _ _) (by simp; omega)
  refine .inr ⟨g1 hlt,iA (by omega),fun ys' σ' H'=>∃Fb' as',StF X.K H2 Fb' H' σ' (jL cap sd)∧ys'=shp V.non V.ref ((((ds.take (i+1)).filter p).map f).map eX) as'∧as'.Nodup∧(∀a∈as',H2 a=none)∧InD X.K Fb' Fb' as' ((((ds.take (i+1)).filter p).map f).filterMap id),fun ys' σ' H' ⟨Fb',as',q⟩=>⟨ds.length - (i+1),by omega,rfl,hlt,Fb',as',q⟩,fun x H4 y cl C=> ?_⟩; obtain ⟨F4,s4,rp,up⟩:=g3 x H4 ds[i] hd y; refine (hg cl C fp s2 H2 _ hm σb F4 H4 x (up _ _ _ Sb) rp).imp fun σ5 H5 ⟨F5,S5,s5⟩ cl2 C2=> ?_
  have rl5:=rl.mono (s4.trans s5)
  have fin:∀ (b:Bool) (H6:Hp) (F6:Hp),b=p ds[i]→StF X.K H2 F6 H6 σ5 (Tb ds[i])→Same F5 F6→if b=true then (∀cl C,wE (cxB X N scope cl C fp s2 H2) elt σ5 H6 fun v H5=>∃Fb' as',StF X.K H2 Fb' H5 σ5 (jL cap sd)∧(shp V.non V.ref ((((ds.take i).filter p).map f).map eX) as++[v])=shp V.non V.ref ((((ds.take (i+1)).filter p).map f).map eX) as'∧as'.Nodup∧(∀a∈as',H2 a=none)∧InD X.K Fb' Fb' as' ((((ds.take (i+1)).filter p).map f).filterMap id)) else ∃Fb' as',StF X.K H2 Fb' H6 σ5 (jL cap sd)∧shp V.non V.ref ((((ds.take i).filter p).map f).map eX) as=shp V.non V.ref ((((ds.take (i+1)).filter p).map f).map eX) as'∧as'.Nodup∧(∀a∈as',H2 a=none)∧InD X.K Fb' Fb' as' ((((ds.take (i+1)).filter p).map f).filterMap id):=fun b H6 F6 eb S6 s6=>by
   rw [kG p hd,← eb]; cases b with
   | false=>exact iteF ⟨F6,as,S6.le (hle _ hm),by simp,nda,fra,by simpa using rl5.mono s6⟩
   | true=>
    have he':=he cl C fp s2 H2 _ hm eb.symm; have rl6:=rl5.mono s6; simp only [if_true,aR,bD,gE,List.filterMap_append]; cases hf:f ds[i] with
    | none=>
     intro cl3 C3; have he3:=he cl3 C3 fp s2 H2 _ hm eb.symm; rw [hf] at he3; refine (he3 σ5 F6 H6 S6).imp fun v H7 ⟨F7,S7,s7,q⟩=> ?_
     simp only [ResOk,Rep] at q; subst q; exact ⟨F7,as,S7.le (hle _ hm),(qA V.non V.ref _ as).symm,nda,fra,by simpa using rl6.mono s7⟩
    | some es0=>
     intro cl3 C3; have he3:=he cl3 C3 fp s2 H2 _ hm eb.symm; rw [hf] at he3; refine (he3 σ5 F6 H6 S6).imp fun v H7 ⟨F7,S7,s7,l,xs,e,n,q,rlx,no⟩=> ?_
     subst e; obtain ⟨S8,s8⟩:=S7.freeze q n no; have rl7:=rl6.mono s7
     have nl:l∉as:=fun hm=>by obtain ⟨xs',e⟩:=rl7.of l hm; rw [n] at e; cases e
     refine ⟨_,as++[l],S8.le (hle _ hm),(tT V.non V.ref l _ as cnt).symm, ?_,fun a ha=> ?_, ?_⟩
     ·rw [dF]; refine ⟨nda,by simp,fun b hb c hc e=> ?_⟩; rw [bU.mp hc] at e; subst e; exact nl hb
     ·rcases aY.mp ha with ha | ha
      ·exact fra a ha
      ·rw [bU.mp ha]; cases g:H2 l with
       | none=>rfl
       | some o=>have:=s7 _ _ (s6 _ _ (s5 _ _ (s4 _ _ (Sb.base _ _ g)))); rw [n] at this; cases this
     ·exact (rl7.mono s8).app ⟨⟨xs,cS,rlx.mono s8⟩,trivial⟩
  rcases ht cl2 C2 fp s2 H2 _ hm with ⟨e1,e2⟩ | ⟨c,e1,q⟩
  ·subst e1; exact rP (fin true H5 F5 e2.symm S5 (Same.refl _))
  ·subst e1; exact vJ ((q σ5 F5 H5 S5).imp fun b H6 ⟨eb,F6,S6,s6⟩=>fin b H6 F6 eb S6 s6)
 ·have e:i=ds.length:=by omega
  subst e; refine .inl ⟨g2 (aN _),fun D C s' hD hC hDC h0 hL hcc hpp hst ⟨m',ns'⟩ J'=>⟨m',ns',fun h' sb=> ?_⟩⟩; have J2:Inv X pins σ (upd H3 D (.lst (shp V.non V.ref ((((ds.take ds.length).filter p).map f).map eX) as))) {s' with heap:=h',toks:=s'.toks}:=J'.turned (it:=C) (fun b o hb g=>sb.extBut b o hb g) (by rw [bW (Ne.symm hDC)]; exact hC) hL (.inr h0) hcc hpp; have fx:∀a∈as,∃xs,Fb a=some (.lst xs):=rl.of
  have neD:∀a∈as,a≠D:=fun a ha=>by obtain ⟨xs,e⟩:=fx a ha; exact cP (Sb.sub _ _ e) hD
  have rl':InD X.K Fb Fb as (((ds.filter p).map f).filterMap id):=by simpa using rl
  refine ⟨.ref D,_,J2,rfl,uD Fb as,fun b o g=> ?_,fun b o g=> ?_,smp_upd Sb.smp D,D::as,cV.mpr ⟨fun hm=>neD D hm rfl,nda⟩,fun a ha=> ?_,fun F' H' sF k=>⟨D,as,rfl,rfl,by rw [k D aO _ cS,lE], ?_⟩⟩
  ·have g2:=S1.sub _ _ (s1' _ _ g); rw [kQ (fun hm=>by rw [fra b hm] at g2; cases g2)]; exact Sb.base _ _ g2
  ·have nb:b∉as:=fun hm=>by rw [qI hm] at g; cases g
   rw [kQ nb] at g; have g3:=Sb.sub _ _ g; rw [bW (cP g3 hD)]; exact g3
  ·rcases aS.mp ha with rfl | ha
   ·refine ⟨?_,⟨_,cS,trivial⟩,by simp [cM]⟩
    by_cases hm:a∈as
    ·exact qI hm
    ·rw [kQ hm]; exact Sb.sub.free hD
   ·obtain ⟨xs,e⟩:=fx a ha; exact ⟨qI ha,⟨.lst xs,by rw [bW (neD a ha)]; exact Sb.sub _ _ e,trivial⟩,by simp [cM]⟩
  ·refine rl'.out (fun es he=> ?_) nda fx sF fun a ha ob e=>k a (aM _ ha) ob (by rw [bW (neD a ha)]; exact Sb.sub _ _ e)
   obtain ⟨o,ho,rfl⟩:=nH.mp he; obtain ⟨d,_,hd⟩:=bB.mp ho; exact hfl d _ hd
end
def mkM (W:List (Option (List (List Int)))):List Bool:=W.map eX
def mkL (W:List (Option (List (List Int)))):List (List D):=(W.filterMap id).map (qQ bG)
theorem qX (W:List (Option (List (List Int)))):shp D.non D.lst (mkM W) (mkL W)=W.map wsD:=by unfold mkM mkL; rw [vB]; exact shp_opt _ _ wsD rfl (fun _=>rfl) W
theorem mk_cnt (W:List (Option (List (List Int)))):(mkL W).length=(mkM W).count true:=by unfold mkM mkL; rw [aD,uN]
theorem opt_mkM (W:List (Option (List (List Int)))):(W.map (mS (qQ bG))).map eX=mkM W:=by
 unfold mkM; rw [bX]; refine fQ fun o _=> ?_
 cases o<;>rfl
theorem opt_mkL:∀W:List (Option (List (List Int))),(W.map (mS (qQ bG))).filterMap id=mkL W
 | []=>rfl
 | none::W=>by have:=opt_mkL W; simpa [mkL] using this
 | some L::W=>by have:=opt_mkL W; simpa [mkL] using this
def yS (h:Heap) (a:Addr):Heap:=h.update a fun o=>{o with data:= .freed}
def qN (h:Heap) (S:List Addr):Heap:=S.foldl yS h
theorem cutH1_other (h:Heap) {a b:Addr} (ne:b≠a):(yS h a).get? b=h.get? b:=cY _ _ (Ne.symm ne)
theorem cutH1_self (h:Heap) (a:Addr):(yS h a).get? a=none:=by
 cases h; simp only [yS,Heap.update,Heap.get?,Array.getElem?_modify,if_true]
 split
 ·rfl
 ·rename_i hx; generalize hq:mS _ _=q at hx ⊢; cases q with
  | none=>rfl
  | some o=>obtain ⟨o',h1,h2⟩:=iF.mp hq; exact (hx _ _ _ (by rw [← h2])).elim
theorem mO:∀ {S:List Addr} {h:Heap} {a:Addr},a∉S→(qN h S).get? a=h.get? a
 | [],_,_,_=>rfl
 | b::S,h,a,hn=>by show (qN (yS h b) S).get? a=_; rw [mO fun z=>hn (aM _ z),cutH1_other h (fun z:a=b=>hn (z▸aO))]
theorem lQ:∀ {S:List Addr} {h:Heap} {a:Addr},a∈S→(qN h S).get? a=none
 | b::S,h,a,hm=>by
  show (qN (yS h b) S).get? a=none
  by_cases hs:a∈S
  ·exact lQ hs
  ·have e:a=b:=(aS.mp hm).resolve_right hs; subst e; rw [mO hs,cutH1_self]
theorem pK {S:List Addr} {h:Heap} {a:Addr} {o:Obj} (q:(qN h S).get? a=some o):a∉S∧h.get? a=some o:=by
 have hn:a∉S:=fun z=>by rw [lQ z] at q; cases q
 exact ⟨hn,by rw [mO hn] at q; exact q⟩
theorem qB {h base base':Heap}:∀ {l:List Env},h.FunFrames base l→(∀b∈l.filterMap (·.frame),base'.get? b=none)→h.FunFrames base' l
 | [],_,_=>trivial
 | env::rest,hl,hb=>by
  obtain ⟨hk,⟨L,o,hf,hn,ho,hd⟩,hr⟩:=hl; have e:(env::rest).filterMap (·.frame)=L::rest.filterMap (·.frame):=by rw [eZ,hf]
  rw [e] at hb; exact ⟨hk,⟨L,o,hf,hb L aO,ho,hd⟩,qB hr fun b hm=>hb b (aM _ hm)⟩
theorem vO {P:Program} {w:World} {H:Hp} {h:Heap} {a:Addr} {o:HO} (x:ObjOk P w H h a o):∃ob,h.get? a=some ob:=by
 cases o with
 | lst xs=>obtain ⟨_,_,_,_,e⟩:=x; exact ⟨_,e⟩
 | tup xs=>obtain ⟨_,_,_,ob,e,_⟩:=x; exact ⟨_,e⟩
 | dK kvs=>obtain ⟨_,_,_,_,o,_,_,e,_⟩:=x; exact ⟨_,e⟩
 | dT kvs=>obtain ⟨_,_,_,_,o,_,_,e,_⟩:=x; exact ⟨_,e⟩
 | set S n=>obtain ⟨o,_,_,_,e,_⟩:=x; exact ⟨_,e⟩
 | ins C dx fs=>obtain ⟨_,_,_,e,_⟩:=x; exact ⟨_,e⟩
 | own y=>obtain ⟨_,e⟩:=x; exact ⟨_,e⟩
 | xd fs=>obtain ⟨_,⟨_,_,_,e,_⟩,_⟩:=x; exact ⟨_,e⟩
 | rng lo hi=>obtain ⟨_,_,_,e⟩:=x; exact ⟨_,e⟩
 | frz ob u=>obtain ⟨e,_⟩:=x; exact ⟨_,e⟩
 | tbl ps=>exact ⟨_,(show h.get? a=some _ from x)⟩
 | met f y=>exact ⟨_,(show h.get? a=some _ from x)⟩
 | ext φ=>obtain ⟨_,⟨_,e⟩,_⟩:=x; exact ⟨_,e⟩
structure Exc (h0 h:Heap) (H:Hp) (a T:Addr) (cls:Value):Prop where
 free:H a=none
 new:h0.get? a=none
 freeT:H T=none
 newT:h0.get? T=none
 obj:∃oe vs oT ts a0,h.get? a=some oe∧(oe.cls=cls∧vs[0]? =some a0)∧oe.data= .fields vs∧vs[1]? =some (.ref T)∧T≠a∧h.get? T=some oT∧oT.data= .fields ts∧ts[3]? =some .none
def CX1 (P:Program) (w:World) (cls:Value):CXT:=fun outer H s E e s'=>∃a T H',e= .ref a∧s'.os=s.os∧AllBare s'.gens∧Un (frs outer) [] H H' s.heap s'.heap∧HOk P w H' s'.heap∧Exc s.heap s'.heap H' a T cls∧E (.ref a) (some a) H'
section
variable {X:Cx} {pins:List (Addr × Obj)} {σ:St} {H:Hp} {s:Shared} {h':Heap} {a T:Addr} {cls a0:Value} {S:List Addr} {E:XK}
theorem left_cx (I:Inv X pins σ H s) (hex:X.ex=[]) (hst:X.stack=X.env::X.outer∧X.env.frame=some X.env.locals) (hS:∀b∈S,H b=none∧X.s₀.heap.get? b=none) (ha:a∈S) (L:Heap.LeftW (qN s.heap (frs X.stack++S)) X.stack a cls a0 s.heap h') (hE:E (.ref a) (some a) H):
  CX1 X.prog X.w cls X.outer X.H₀ X.s₀ E (.ref a) {s with heap:=h'}:=by
 obtain ⟨k1,k2,⟨oe,vs,T,oT,ts,he,hc,hd,h1,hnT,hTe,hT,hdT,h3⟩,k4⟩:=L
 have fr:frs X.stack=X.env.locals::frs X.outer:=by unfold frs; rw [hst.1,eZ,hst.2]
 have out:∀b o,X.s₀.heap.get? b=some o→b∉frs X.outer→b∉frs X.stack++S:=fun b o q hb hm=>by
  rcases aY.mp hm with hm | hm
  ·rw [fr] at hm
   rcases aS.mp hm with e | hm
   ·have:=I.ok.above; have lt:=aI q; rw [e] at lt; exact absurd lt (pT.mpr this)
   ·exact hb hm
  ·rw [(hS b hm).2] at q; cases q
 have stay:∀b o,b∉frs X.stack++S→s.heap.get? b=some o→h'.get? b=some o:=fun b o hb q=>k1 b o (by rw [mO hb]; exact q)
 have nex:∀b,b∉X.ex:=fun b hb=>by rw [hex] at hb; cases hb
 have slot:∀b o,X.s₀.heap.get? b=some o→X.H₀ b=none→b∈frs X.outer→∃sl,h'.get? b=some {o with slots:=sl}:=fun b o q n hb=>by obtain ⟨sl,q1⟩:=I.base.slot b o q n hb (nex b); obtain ⟨_,o',q2,nf⟩:=I.ok.funs.mem hb; rw [q] at q2; cases q2; obtain ⟨sl2,q3⟩:=k4 b _ q1 nf; exact ⟨sl2,q3⟩
 have tr:∀b u,H b=some u→b∉frs X.stack++S:=fun b u e hm=>by
  rcases aY.mp hm with hm | hm
  ·rw [I.env0.frf b hm] at e; cases e
  ·rw [(hS b hm).1] at e; cases e
 have Tn:s.heap.get? T=none∨T∈S:=by
  by_cases hm:T∈frs X.stack++S
  ·rcases aY.mp hm with hm | hm
   ·obtain ⟨_,o,q,nf⟩:=k2.mem hm; rw [hT] at q; cases q; exact (nf ts hdT).elim
   ·exact .inr hm
  ·rw [mO hm] at hnT; exact .inl hnT
 refine ⟨a,T,H,rfl,I.os,I.bare,⟨fun b o q n hb _=>stay b o (out b o q hb) (I.base.keep b o q n hb (nex b)),fun b o q n hb _=>slot b o q n hb,fun b o q n _=>I.base.free b o q n (nex b),fun b o q _=> ?_,I.base.tups,I.base.frzs,I.base.tbls⟩,fun b u e=> ?_,⟨(hS a ha).1,(hS a ha).2, ?_, ?_,oe,vs,oT,ts,a0,he,hc,hd,h1,hTe,hT,hdT,h3⟩,hE⟩
 ·by_cases hb:b∈frs X.outer
  ·obtain ⟨sl,q2⟩:=slot b o q (I.ok.frf b hb) hb; exact ⟨_,q2⟩
  ·obtain ⟨o1,q1⟩:=I.base.there b o q (nex b); exact ⟨o1,stay b o1 (out b o q hb) q1⟩
 ·refine (I.hok b u e).stay (fun c v hc q=>stay c v ?_ q) (fun _ q=>q) fun _ _ q=>q
  rcases hc with z | z
  ·rw [z]; exact tr b u e
  ·exact tr c _ z
 ·rcases Tn with q | q
  ·cases g:H T with
   | none=>rfl
   | some u=>obtain ⟨ob,q2⟩:=vO (I.hok T u g); rw [q] at q2; cases q2
  ·exact (hS T q).1
 ·rcases Tn with q | q
  ·cases g:X.s₀.heap.get? T with
   | none=>rfl
   | some o=>obtain ⟨o1,q1⟩:=I.base.there T o g (nex T); rw [q] at q1; cases q1
  ·exact (hS T q).2
theorem leave_new {args:List Value} {Ex:Value→Shared→Prop} (I:Inv X pins σ H s) (hex:X.ex=[]) (hst:X.stack=X.env::X.outer∧X.env.frame=some X.env.locals) (m:Heap.MadeExcOf s.heap h' a cls args) (hE:E (.ref a) (some a) H):
  wpAny (model X.prog X.w) X.A (leaving X.env (.ref a)) (fun _ s''=>CX1 X.prog X.w cls X.outer X.H₀ X.s₀ E (.ref a) s'') Ex {s with heap:=h'}:=by
 obtain ⟨t,he,ht,_⟩:=m.there; have I':Inv X pins σ H {s with heap:=h'}:=I.kept (t':=s.toks) m.keeps
 have Ha:H a=none:=by
  cases g:H a with
  | none=>rfl
  | some u=>obtain ⟨ob,q⟩:=vO (I.hok a u g); rw [m.new] at q; cases q
 have sa:X.s₀.heap.get? a=none:=by
  cases g:X.s₀.heap.get? a with
  | none=>rfl
  | some o=>obtain ⟨o1,q1⟩:=I.base.there a o g (fun hb=>by rw [hex] at hb; cases hb); rw [m.new] at q1; cases q1
 have hS:∀b∈[a],H b=none∧X.s₀.heap.get? b=none:=fun b hb=>by rw [bU.mp hb]; exact ⟨Ha,sa⟩
 have fu:Heap.FunFrames h' (qN h' (frs X.stack++[a])) X.stack:=qB I'.env0.funs fun b hb=>lQ (bE _ hb)
 have fm:=I'.ok.frames; rw [hst.1] at fm; have fu2:=fu; rw [hst.1] at fu2; refine wpAny_leaving_firstW (base:=qN h' (frs X.stack++[a])) fm (by rw [hst.1]; exact fu2) hst.2 he (fun b o q=>(pK q).2) (lQ (aG _ (eV a))) rfl rfl rfl fun h'' L=> ?_
 rw [← hst.1] at L; exact left_cx I' hex hst hS (eV a) L hE
end
end DL
namespace DL
open PySem PySem.Spec PySem.Calls PySem.W PyProof.Rows Builtin Builtin.Getset_descriptor Builtin.ObjectAttr
section
variable {prog:Program} {w:World} {A:Around} {E:Value→Shared→Prop} {h:Heap} {g:Array GenState} {d:Drawn} {t:Nat} {os:OsState} {a C:Addr} {K:Frag}
def ExA (a C:Addr) (h:Heap):Prop:=∃o,h.get? a=some o∧o.cls= .ref C
theorem ExA.type {M:Model} {h:Heap} (I:ExA a C h):Looks M h (typeOf (.ref a)) (.ref C):=by obtain ⟨o,h1,h2⟩:=I; exact h2▸(Looks.ld h1).andThen .now
theorem xc_get {tp:Value} {R:Result→Shared→Prop} {s:Shared} (X:K.In s.heap) (I:ExA a C s.heap) (hm:mroIn K C (.type "object")=some true)
  (h:R (.ok (.ret (.ref C))) s):codeAny (model prog w) A (.call (.builtin "getset_descriptor.__get__") ⟨[.builtin "object.__class__", .ref a,tp],[]⟩) R s:=by
 obtain ⟨hh,g,dr,t,os⟩:=s; have L0:=I.type (M:=model prog w); have L1:=looks_mroIn (M:=model prog w) X hm; refine codeAny_call_builtin KF.slot_gs.plain KF.entry_gs (KF.slot_gs.check _ _ _ _ _ _ _ _ KF.type_class (KF.args_gs _ _ _) ?_); unfold Builtin.«getset_descriptor.__get__» descrGet; rw [dga_obj]; refine wpAny_bind (wpAny_pure ?_); unfold descrGetter descrCheckInstance descrNameAndClass isInstance; simp only [KF.owner_class]
 repeat lk
 refine ⟨Code.quiet_builtin _ (by decide+kernel),codeAny_builtin KF.entry_class ?_⟩; unfold Builtin.«object.__class__» shownTypeOf
 repeat lk
 exact h
theorem xc_entry {tk:Tok} {Q:Fin→Shared→Prop} (X:K.In h) (I:ExA a C h) (ha:findIn K (.ref C) "__class__"=some (some (.builtin "object.__class__"))) (hm:mroIn K C (.type "object")=some true)
  (hq:Q (.done (.ret (.ref C))) ⟨h,g,d,t,os⟩):wpAny (model prog w) A (Builtin.«object.__getattribute__» ⟨[.ref a, .str "__class__" tk],[]⟩) Q E ⟨h,g,d,t,os⟩:=by
 have hT5:(⟨h,g,d,t,os⟩:Shared).TypeIs (.builtin "object.__class__") "getset_descriptor":=F.typeOf_object_class; have f5:=F.typeOf_object_class; have f6:=F.slot_gs_get.lookup; have f7:=F.slot_gs_set.lookup; have L1:=looks_findIn (M:=model prog w) X ha; obtain ⟨o,hx,hc⟩:=id I
 repeat (any_goals (first | assumption | (with_reducible refine wpAny_loadPart_at hx ?_; rw [hc]) | with_reducible refine L1.at ?_ | wp_step))
 refine xc_get X I hm ?_
 repeat (any_goals (first | assumption | wp_step))
theorem xc_check {M:Model} {nameV:Value} {Q:Unit→Shared→Prop} (X:K.In h) (I:ExA a C h) (hs:subIn K (.ref C) (.type "BaseException")=some true) (hq:Q () ⟨h,g,d,t,os⟩):
  wpAny M A (checkBuiltinCall "BaseException.__getattribute__" ⟨[.ref a,nameV],[]⟩) Q E ⟨h,g,d,t,os⟩:=by
 have hk:builtinKind "BaseException.__getattribute__"=some .slot:=by decide+kernel
 have hsplit:splitId "BaseException.__getattribute__"=some ("BaseException","__getattribute__"):=by decide+kernel
 have L1:=looks_subIn (M:=M) X hs; obtain ⟨o,hx,hc⟩:=id I; have ha:=F.args_bexc_ga (.ref a) nameV; simp only [checkBuiltinCall,hk,hsplit]; refine wpAny_bind ?_; unfold isInstance
 repeat (first | (with_reducible refine wpAny_loadPart_at hx ?_; rw [hc]) | with_reducible refine L1.at ?_ | wp_step)
 exact hq
theorem xc_call {tk:Tok} {R:Result→Shared→Prop} (X:K.In h) (I:ExA a C h) (ha:findIn K (.ref C) "__class__"=some (some (.builtin "object.__class__"))) (hm:mroIn K C (.type "object")=some true) (hs:subIn K (.ref C) (.type "BaseException")=some true)
  (hq:R (.ok (.ret (.ref C))) ⟨h,g,d,t,os⟩):codeAny (model prog w) A (.call (.builtin "BaseException.__getattribute__") ⟨[.ref a, .str "__class__" tk],[]⟩) R ⟨h,g,d,t,os⟩:=
 codeAny_call_builtin F.attr_ValueError.ga.plain F.entry_bexc_ga (xc_check X I hs (xc_entry X I ha hm hq))
theorem xc_by {tk:Tok} {Q:Value→Shared→Prop} (X:K.In h) (I:ExA a C h) (ha:findIn K (.ref C) "__class__"=some (some (.builtin "object.__class__"))) (hm:mroIn K C (.type "object")=some true) (hs:subIn K (.ref C) (.type "BaseException")=some true)
  (hg:findIn K (.ref C) "__getattribute__"=some (some (.builtin "BaseException.__getattribute__"))) (hn:findIn K (.ref C) "__getattr__"=some none)
  (hq:Q (.ref C) ⟨h,g,d,t,os⟩):wpAny (model prog w) A (getAttrBy (.ref a) (.str "__class__" tk) false) Q E ⟨h,g,d,t,os⟩:=by
 have f3:=F.attr_ValueError.ga.bind (.ref a); have hx2:(Value.builtin "BaseException.__getattribute__"==Value.builtin "object.__getattribute__")=false:=by decide+kernel
 have hx1:(onTheHeap (Value.ref C) && Value.builtin "BaseException.__getattribute__"==Value.builtin "object.__getattribute__")=false:=by rw [hx2]; rfl
 have L1:=looks_findIn (M:=model prog w) X hg; have L2:=looks_findIn (M:=model prog w) X hn; obtain ⟨o,hx,hc⟩:=id I
 repeat (any_goals (first | assumption | (with_reducible refine wpAny_loadPart_at hx ?_; rw [hc]) | with_reducible refine L1.at ?_ | with_reducible refine L2.at ?_ | wp_step))
 refine xc_call X I ha hm hs ?_
 repeat (any_goals (first | assumption | wp_step))
theorem xc_attr {Q:Option Value→Shared→Prop} (X:K.In h) (I:ExA a C h) (ha:findIn K (.ref C) "__class__"=some (some (.builtin "object.__class__"))) (hm:mroIn K C (.type "object")=some true) (hs:subIn K (.ref C) (.type "BaseException")=some true)
  (hg:findIn K (.ref C) "__getattribute__"=some (some (.builtin "BaseException.__getattribute__"))) (hn:findIn K (.ref C) "__getattr__"=some none)
  (hq:Q (some (.ref C)) ⟨h,g,d,t+1,os⟩):wpAny (model prog w) A (getAttr? (.ref a) "__class__") Q E ⟨h,g,d,t,os⟩:=by
 unfold getAttr? getAttrBy?
 repeat (any_goals (first | assumption | with_reducible apply xc_by X I ha hm hs hg hn | wp_step))
structure XCls (K:Frag) (C:Addr):Prop where
 ha:findIn K (.ref C) "__class__"=some (some (.builtin "object.__class__"))
 hm:mroIn K C (.type "object")=some true
 hs:subIn K (.ref C) (.type "BaseException")=some true
 hg:findIn K (.ref C) "__getattribute__"=some (some (.builtin "BaseException.__getattribute__"))
 hn:findIn K (.ref C) "__getattr__"=some none
 hc:(clsIn K C).isSome=true
theorem kitx_exc (x:XCls K C):KitX K (.ref a) (.ref C) (ExA a C) where
 ty:=fun _ _ _ I=>I.type
 it:=fun _ _ X _=>by
  obtain ⟨cdD,hcD⟩:=nR.mp x.hc; unfold clsIn at hcD
  split at hcD
  ·rename_i c' d' cd' sl' ho; intro A' Q' E' s' k q; unfold isType loadHead; exact wpAny_bind (wpAny_loadPart (k _ _ (X _ _ ho)) (wpAny_pure q))
  ·cases hcD
 ne:=fun h tp dd its n sl X htp=>by
  obtain ⟨cdD,hcD⟩:=nR.mp x.hc; refine uB.mpr fun q=> ?_
  have e:C=tp:=Value.ref.inj (beq_iff_eq.mp q); subst e; unfold clsIn at hcD
  split at hcD
  ·rename_i c' d' cd' sl' ho; have z:=(X _ _ ho).symm.trans htp; cases z
  ·cases hcD
 ca:=fun {prog w A E Q s} X I k=>by obtain ⟨h,g,d,t,os⟩:=s; exact xc_attr X I x.ha x.hm x.hs x.hg x.hn k
end
end DL
namespace DL
open PySem PySem.Spec PyProof.Rows L2
def bmVE:List Value:=[.type "ValueError", .type "Exception", .type "BaseException", .type "object"]
theorem exc_of_in {K:aB} {h:Heap} {C:Addr} {bmB:List Value} {newId:String} (X:K.In h) (q:nN K C bmB newId=true):
  ∃bm N nm q bs hdct sn sub ab col dd k0 k1 k2 k3 k5 mN,h.get? C=some (excClassObj nm q C N bs bm hdct sn sub ab col dd k0 k1 k2 k3 k5 newId)∧h.Ns N mN∧mN "__init__"=none∧OwnTail h bmB bm:=by
 unfold nN at q
 split at q
 ·rename_i dd cd sl ho
  split at q
  ·rename_i C' bm k0 k1 k2 k3 n k5 hm hs; simp only [bN,beq_iff_eq,iY] at q; obtain ⟨⟨⟨⟨⟨rfl,rfl⟩,hdel⟩,ht⟩,hok⟩,hni⟩:=q; obtain ⟨nm,bs,mro,ns,qn,hd,sn,sub,ab,col,del⟩:=cd; dsimp only at hm hdel hok hni; subst hm hdel
   have hsl:sl= #[k0,k1,k2,k3,some (.builtin n),k5]:=by obtain ⟨l⟩:=sl; simp only at hs; rw [hs]
   subst hsl; exact ⟨bm,ns,nm,qn,bs,hd,sn,sub,ab,col,dd,k0,k1,k2,k3,k5,_,X _ _ ho, .of_isNs (PySem.W.isNs_of_in X hok),PySem.W.nsMap_none_of_in X hok hni,PySem.W.tail_of_in X ht⟩
  ·cases q
 ·cases q
def Takes (X:Cx) (cls:Value) (sd:List Slot):Prop:=∀ (pins:List (Addr × Obj)) (σ:St) (F H:Hp) (s:Shared) (a T:Addr),Inv X pins σ H s→StF X.K X.B₀ F H σ sd→Exc X.s₀.heap s.heap H a T cls→(∀p∈X.pn++pins,p.1≠a∧p.1≠T)→X.xe (.ref a) s
def TakesNew (X:Cx) (cls:Value) (sd:List Slot):Prop:=∀ (pins:List (Addr × Obj)) (σ:St) (F H:Hp) (s:Shared) (h':Heap) (a:Addr) (args:List Value),Inv X pins σ H s→StF X.K X.B₀ F H σ sd→Heap.MadeExcOf s.heap h' a cls args→X.xe (.ref a) {s with heap:=h'}
section
variable {P:Program} {w:World} {K:aB} {mg:Str→Option Value} {base:Heap} {N:List Str} {qual:Str} {scope:Scope} {f:Addr} {cdv:Value} {A:Around} {outer:List Env} {s:Shared} {H:Hp} {E:XK} {cls:Value} {sd:List Slot}
theorem takes_defN (hE:∀a H',Same H H'→Smp H'→E (.ref a) (some a) H'):TakesNew (pA (CX1 P w cls) P w K mg base N qual scope f cdv A outer s H E) cls sd:=fun pins σ F H' s' h' a args I S m=>leave_new (X:=pA (CX1 P w cls) P w K mg base N qual scope f cdv A outer s H E) (E:=E) I rfl ⟨rfl,rfl⟩ m (hE a H' (fun b o e=>S.sub _ _ (S.base _ _ e)) S.smp)
end
section
variable {X:Cx} {sd:List Slot} {e a b c:Expr} {es:List Expr} {pos:Pos} {d:D} {ds:List D} {E:jX}
theorem psd_raise {x:Str} {np cpos:Pos} {C:Addr} (hg:Gl X x) (hm:X.mg x=some (.ref C)) (hx:nN X.K C bmVE "ValueError.__new__"=true) (ht:TakesNew X (.ref C) sd) (he:PAd X sd (e::es) (ds.map R.val)) (hl:ds.length≤1000)
  (hc:X.calm=true:=by rfl) (hdb:(x==("__debug__":Str))=false:=by decide) (hst:starEach (e::es) X.env=(false,eval e X.env)::starEach es X.env:=by rfl) (hpl:(backTo cpos (starEach es X.env)).any (·.1)=false:=by rfl):
  PSd1 X sd (.Raise (some (.Call (.Name x np) (e::es) [] cpos)) none pos) E:= .mk fun σ F H S pins s I=>by
 obtain ⟨bm,Nn,nm,q,bs,hdct,sn,sub,ab,col,dd,k0,k1,k2,k3,k5,mN,hC,hN,hni,T⟩:=exc_of_in (h:=X.base) I.ok.mod.kin hx
 refine wpAny_Raise_call_subT (C:=C) (nm:=nm) (q:=q) (N:=Nn) (bs:=bs) (bm:=bm) (hdct:=hdct) (sn:=sn) (sub:=sub) (ab:=ab) (col:=col) (dd:=dd) (k0:=k0) (k1:=k1) (k2:=k2) (k3:=k3) (k5:=k5) (bmB:=bmVE)
  xY (mN:=mN) (T.hasType xY.hasBase) (I.ok.hd hc) (by rw [hst]; show (false || (backTo cpos (starEach es X.env)).any (·.1))=false; rw [hpl]; rfl) hni (uO I hg hm ⟨rfl, ?_⟩ hdb)
 have hA:=he σ F H S cpos pins s I; rw [hst] at hA ⊢; refine Calls.evalArgs_plain (wpAny_mono hA (fun us s2 ⟨vs,H2,I2,r2,F2,S2,s2',q2⟩=> ?_) fun _ _ y=>y)
 have lv:us.length≤sizeLine:=by rw [← r2.length,q2.vals.len]; exact dP (iA hl)
 exact ⟨rfl,lv,I2.bk _ _ hC,hN.keeps I2.bk,T.keeps I2.bk,fun h' e m=>ht pins σ F2 H2 s2 h' e us I2 S2 m⟩
structure PEx (X:Cx) (sd:List Slot) (e:Expr):Prop where
 run:∀ (σ:St) (F H:Hp),StF X.K X.B₀ F H σ sd→wE X e σ H (fun _ _=>False)
theorem psd_retE (h:PEx X sd e):PSd1 X sd (.Return (some e) pos) E:= .mk fun σ F H S=>(ps_ret hX).to ((h.run σ F H S).imp fun _ _ z=>z.elim)
def spX (K:aB) (n:Nat) (C:List D→Prop):Sp:=fun vs H _ E=>vs.length=n∧Smp H∧∃ds,RepL K H ds vs∧C ds∧∀a H',Same H H'→Smp H'→E (.ref a) (some a) H'
structure oM (P:Program) (w:World) (K:aB) (mg:Str→Option Value) (base:Heap) (x:Str) (k n:Nat) (C:List D→Prop) (cls:Value) (dvs:List V) (dws:List Value):Prop where
 ex:∃ (f:Addr) (fd:FuncData) (ps:List Str),mg x=some (.ref f)∧bL K (.ref f)=true∧Binds K fd ps dws∧Vals dvs dws∧FnOk P w K mg base (CX1 P w cls) k f fd ps (spX K n C)
theorem run_fnX {CX:CXT} {k:Nat} {f:Addr} {fd:FuncData} {ps:List Str} {sp:Sp} {dvs:List V} {dws:List Value} {Ex:XK} {pins:List (Addr × Obj)} {σ:St} {H:Hp} {s:Shared} {Q:VK} {us:List Value} {vs:List V} (F:FnOk X.prog X.w X.K X.mg X.base CX k f fd ps sp) (hr:Room k X.A) (hb:Binds X.K fd ps dws) (hd:Vals dvs dws)
  (I:Inv X pins σ H s) (r:Vals vs us) (h:sp (vs++dvs) H Q Ex) (hx:∀e s',CX X.stack H s Ex e s'→X.xe e s'):wpAny (model X.prog X.w) X.A (call (.ref f) us) (EP X pins σ Q) X.xe s:=by
 have r2:Vals (vs++dvs) (us++dws):=r.append hd; have hl:(us++dws).length=ps.length:=by rw [← r2.length]; exact F.len _ _ _ _ h
 refine wpAny_call (codeAny_mono (F.run X.A X.stack s H ⟨us,[]⟩ (us++dws) (vs++dvs) Q Ex hr I.env0 (hb s us I.kIn hl) r2 h) fun r s' hq=> ?_); cases r with
 | error e=>exact hx e s' hq
 | ok fl=>
  cases fl with
  | ret u=>exact I.after hq
  | next=>exact False.elim hq
  | brk=>exact False.elim hq
  | cont=>exact False.elim hq
end
section
variable {P:Program} {w:World} {K:aB} {mg:Str→Option Value} {base:Heap} {x qual:Str} {st:Stmt} {f:Addr} {fd:FuncData} {N ps:List Str} {k:Nat} {C:List D→Prop} {cls:Value}
theorem fn_x {oc:Value} {od:Option Addr} {osl:Array (Option Value)} {dV kV doc pm cdv ct:Value} {an:Option Addr} (lk:K.lookup f=some ⟨oc,od, .func (bQ x qual (dY st) (dG st) (bJ st) dV kV doc pm an cdv ct),osl⟩) (hcd:bT K cdv qual=true) (S:oI N ps (bJ st))
  (body:∀ (A:Around) (outer:List Env) (s:Shared) (H:Hp) (E:XK),Room k (A.deeper (envOfC qual (bJ st) s.heap.objs.size f cdv))→(∀a H',Same H H'→Smp H'→E (.ref a) (some a) H')→∀ds,ds.length=ps.length→C ds→
   PSd (pA (CX1 P w cls) P w K mg base N qual (bJ st) f cdv A outer s H E) (init N.length ds) (dG st) {nx:=fun _=>False,rt:=fun _=>False}):
  FnOk P w K mg base (CX1 P w cls) (k+1) f (bQ x qual (dY st) (dG st) (bJ st) dV kV doc pm an cdv ct) ps (spX K ps.length C):=by
 refine fn_of lk hcd S (fun vs H Q E h=>h.1) fun A outer s H vs Q E hr h=> ?_
 obtain ⟨hl,sm,ds,rl,c,q⟩:=h; have hds:ds.length=ps.length:=by rw [← rl.len]; exact hl
 refine ⟨_,vT, ?_⟩; have hlen:N.length - vs.length=N.length - ds.length:=by rw [rl.len]
 have S0:StF K H H H (L2.start N vs) (init N.length ds):=by
  refine ⟨Same.refl _,Same.refl _,sm, ?_, ?_⟩
  ·unfold L2.start init; rw [hlen]; exact qU (m:=0) rl
  ·unfold init; rw [qV]; exact eK
 exact (body A outer s H E hr q ds hds c (L2.start N vs) H H S0).imp (fun _ _ ⟨_,_,_,_,z⟩=>z.elim) (fun _ _ ⟨_,_,z⟩=>z.elim) (fun _ _ ⟨_,_,_,_,z⟩=>z.elim) fun _ _ ⟨_,_,_,_,z⟩=>z.elim
theorem def_okX (F:Fun K x qual st f fd) (S:oI N ps (bJ st)) (hm:mg x=some (.ref f)) (hb:∀ (kV doc pm:Value) (an:Option Addr) (cdv ct:Value) (us:List Value),us.length=ps.length→bindArgs (bQ x qual (dY st) (dG st) (bJ st) .none kV doc pm an cdv ct) ⟨us,[]⟩=pure (ps.zip us))
  (body:∀ (cdv:Value) (A:Around) (outer:List Env) (s:Shared) (H:Hp) (E:XK),Room k (A.deeper (envOfC qual (bJ st) s.heap.objs.size f cdv))→(∀a H',Same H H'→Smp H'→E (.ref a) (some a) H')→∀ds,ds.length=ps.length→C ds→
   PSd (pA (CX1 P w cls) P w K mg base N qual (bJ st) f cdv A outer s H E) (init N.length ds) (dG st) {nx:=fun _=>False,rt:=fun _=>False}):oM P w K mg base x (k+1) ps.length C cls [] []:=by
 have hbd:=F.binds hb; obtain ⟨oc,od,kV,doc,pm,an,cdv,ct,osl,rfl,lk,hcd⟩:=F.ex; exact ⟨f,_,ps,hm,F.kp,hbd, .nil,fn_x lk hcd S (body cdv)⟩
end
section
variable {X:Cx} {pins:List (Addr × Obj)} {σ:St} {F H:Hp} {s:Shared} {h':Heap} {S:List Addr} {sd:List Slot}
theorem wC {h h':Heap} {c:Addr} {v:Option Value} (k:h.UpToSlots h') (z:h.IsCell c v):h'.IsCell c v:=by
 obtain ⟨o,ho,hd⟩:=z; obtain ⟨sl,q⟩:=k c o ho fun vs e=>by rw [hd] at e; cases e
 exact ⟨_,q,hd⟩
theorem inv_rec (I:Inv X pins σ H s) (hS:∀b∈S,H b=none∧X.s₀.heap.get? b=none∧∀p∈X.pn++pins,p.1≠b) (k1:Heap.StaysIn (qN s.heap (frs X.stack++S)) h') (k4:s.heap.UpToSlots h'):Inv X pins σ H {s with heap:=h'}:=by
 have stay:∀b o,b∉frs X.stack++S→s.heap.get? b=some o→h'.get? b=some o:=fun b o hb q=>k1 b o (by rw [mO hb]; exact q)
 have out:∀b o,X.s₀.heap.get? b=some o→b∉X.fs→b∉frs X.stack++S:=fun b o q hb hm=>by
  rcases aY.mp hm with hm | hm
  ·rcases aS.mp (I.stkSub b hm) with e | hm
   ·have lt:=aI q; rw [e] at lt; exact absurd lt (pT.mpr I.ok.above)
   ·exact hb hm
  ·rw [(hS b hm).2.1] at q; cases q
 have slot:∀b o,X.s₀.heap.get? b=some o→X.H₀ b=none→b∈X.fs→b∉X.ex→∃sl,h'.get? b=some {o with slots:=sl}:=fun b o q n hb hx=>by obtain ⟨sl,q1⟩:=I.base.slot b o q n hb hx; obtain ⟨_,o',q2,nf⟩:=I.ok.funs.mem hb; rw [q] at q2; cases q2; obtain ⟨sl2,q3⟩:=k4 b _ q1 nf; exact ⟨sl2,q3⟩
 have tr:∀b u,H b=some u→b∉frs X.stack++S:=fun b u e hm=>by
  rcases aY.mp hm with hm | hm
  ·rw [I.env0.frf b hm] at e; cases e
  ·rw [(hS b hm).1] at e; cases e
 obtain ⟨m,hn,hl⟩:=id I.loc; refine ⟨I.ok,I.os,I.bare,⟨fun b o q n hb hx=>stay b o (out b o q hb) (I.base.keep b o q n hb hx),slot,I.base.free,fun b o q hx=> ?_,I.base.tups,I.base.frzs,I.base.tbls⟩,⟨m,k4.ns hn,fun i x v e1 e2 e3=> ?_⟩,fun x c e=> ?_,I.free,I.freeC,fun p hp=> ?_,fun b u e=> ?_,I.len⟩
 ·by_cases hb:b∈X.fs
  ·obtain ⟨sl,q2⟩:=slot b o q (I.ok.frf b hb) hb hx; exact ⟨_,q2⟩
  ·obtain ⟨o1,q1⟩:=I.base.there b o q hx; exact ⟨o1,stay b o1 (out b o q hb) q1⟩
 ·obtain ⟨u,r,q⟩:=hl i x v e1 e2 e3; refine ⟨u,r, ?_⟩
  rcases q with q | ⟨k,c,e,z⟩
  ·exact .inl q
  ·exact .inr ⟨k,c,e,wC k4 z⟩
 ·obtain ⟨v,z⟩:=I.cell x c e; exact ⟨v,wC k4 z⟩
 ·obtain ⟨e,n,ne,nf,d⟩:=I.pin p hp; refine ⟨stay p.1 p.2 (fun hm=> ?_) e,n,ne,nf,d⟩
  rcases aY.mp hm with hm | hm
  ·rcases aS.mp (I.stkSub _ hm) with z | z
   ·exact ne z
   ·exact nf z
  ·exact (hS _ hm).2.2 p hp rfl
 ·refine (I.hok b u e).stay (fun c v hc q=>stay c v ?_ q) (fun _ q=>q) fun _ _ q=>q
  rcases hc with z | z
  ·rw [z]; exact tr b u e
  ·exact tr c _ z
theorem inv_h0 {ξ:Value→Shared→Prop} {pn:List (Addr × Obj)} (I:Inv X pins σ H s) (S:StF X.K X.H₀ F H σ sd) (hpn:pn=X.pn++pins):Inv {X with H₀:=F,B₀:=F,hB:=fun _ _ e _=>e,xe:=ξ,pn:=pn} [] σ H s:=by
 have n0:∀b,F b=none→X.H₀ b=none:=fun b n=>by
  cases q:X.H₀ b with
  | none=>rfl
  | some u=>rw [S.base _ _ q] at n; cases n
 have fn:∀b,H b=none→F b=none:=fun b n=>S.sub.free n
 subst hpn
 refine ⟨⟨I.ok.mod,I.ok.kind,I.ok.glob,I.ok.blt,I.ok.above,I.ok.inj,I.ok.has,I.ok.cab,I.ok.hd,I.ok.frames,I.ok.stk,I.ok.exf,fun b o e=>⟨(I.ok.bs b o e).1,fn b (I.bs b o e).2⟩,I.ok.bsz,I.ok.noex,I.ok.exfs,I.ok.funs,fun b hb=> ?_⟩,I.os,I.bare,
  ⟨fun b o q n hb hx=>I.base.keep b o q (n0 b n) hb hx,fun b o q n hb hx=>I.base.slot b o q (n0 b n) hb hx,fun b o q n hx=>I.base.free b o q (n0 b n) hx,I.base.there,fun b xs e=>S.sub _ _ e,fun b o u e=>S.sub _ _ e,fun b ps e=>⟨#[],by rw [S.sub _ _ e]; simp⟩⟩,I.loc,I.cell,I.free,I.freeC,fun p hp=> ?_,I.hok,I.len⟩
 ·obtain ⟨_,o,q,_⟩:=I.ok.funs.mem hb; exact fn b (I.base.free b o q (I.ok.frf b hb) (fun hx=>I.ok.exfs b hx hb))
 ·rw [dR] at hp; exact I.pin p hp
theorem inv_h1 {ξ:Value→Shared→Prop} {pn:List (Addr × Obj)} {pins':List (Addr × Obj)} {σ':St} {H':Hp} {s':Shared} (I0:Inv X pins σ H s) (S:StF X.K X.H₀ F H σ sd) (hpn:pn=X.pn++pins) (I:Inv {X with H₀:=F,B₀:=F,hB:=fun _ _ e _=>e,xe:=ξ,pn:=pn} pins' σ' H' s'):Inv X pins σ' H' s':=by
 subst hpn; have nf:∀b o,X.s₀.heap.get? b=some o→X.H₀ b=none→b∉X.ex→F b=none:=fun b o q n hx=>S.sub.free (I0.base.free b o q n hx)
 refine ⟨I0.ok,I.os,I.bare,⟨fun b o q n hb hx=>I.base.keep b o q (nf b o q n hx) hb hx,fun b o q n hb hx=>I.base.slot b o q (nf b o q n hx) hb hx,fun b o q n hx=>I.base.free b o q (nf b o q n hx) hx,I.base.there,fun b xs e=>I.base.tups b xs (S.base _ _ e),fun b o u e=>I.base.frzs b o u (S.base _ _ e),fun b ps e=>I.base.tbls b ps (S.base _ _ e)⟩,I.loc,I.cell,I.free,I.freeC,fun p hp=>I.pin p (bE _ hp),I.hok,I.len⟩
theorem inv_gone {m:Str→Option Value} {j:Nat} {n:Str} {v:Option Value} {t':Nat} (I:Inv X pins σ H s) (hN:X.N.Nodup) (hj:X.N[j]? =some n) (hk:X.env.scope.names.lookup n=some .local) (hn:s.heap.Ns X.env.locals m)
  (hl:∀ (i:Nat) (x:Str) (v:V),X.N[i]? =some x→σ[i]? =some (some v)→Vis X.env.scope x→∃u,RelV v u∧Look X.env s.heap m x u) (hn':h'.Ns X.env.locals (fun x=>if x=n then v else m x)) (hs:Heap.SameBut X.env.locals s.heap h'):Inv X pins (σ.set j none) H {s with heap:=h',toks:=t'}:=by
 have cne:=I.cne; have hiσ:j<σ.length:=by rw [I.len]; exact (cG.mp hj).1
 refine ⟨I.ok,I.os,I.bare,⟨fun b o e n hb hx=> ?_,fun b o e n hb hx=> ?_,I.base.free,fun b o e hx=> ?_,I.base.tups,I.base.frzs,I.base.tbls⟩,⟨_,hn',fun i y v' e1 e2 e3=> ?_⟩,fun y c e=> ?_,I.free,I.freeC,fun p hp=> ?_,fun b ob e=> ?_,by rw [yG]; exact I.len⟩
 ·exact (hs.2 b (bH (aP (aI e) I.ok.above))).trans (I.base.keep b o e n hb hx)
 ·obtain ⟨sl,e1⟩:=I.base.slot b o e n hb hx; exact ⟨sl,(hs.2 b (bH (aP (aI e) I.ok.above))).trans e1⟩
 ·obtain ⟨o',e1⟩:=I.base.there b o e hx; exact ⟨o',(hs.2 b (bH (aP (aI e) I.ok.above))).trans e1⟩
 ·by_cases hi:i=j
  ·subst hi; rw [pE hiσ] at e2; cases e2
  ·rw [lP (Ne.symm hi)] at e2; obtain ⟨u',r',q⟩:=hl i y v' e1 e2 e3; refine ⟨u',r', ?_⟩
   rcases q with ⟨k,e⟩ | ⟨k,c,e,z⟩
   ·refine .inl ⟨k, ?_⟩; have:y≠n:=fun e=>hi (vH hN e1 (e▸hj))
    simp [this,e]
   ·exact .inr ⟨k,c,e,z.sameBut hs (cne y c e)⟩
 ·obtain ⟨w',z⟩:=I.cell y c e; exact ⟨w',z.sameBut hs (cne y c e)⟩
 ·obtain ⟨e,n,ne,nf,d⟩:=I.pin p hp; exact ⟨(hs.2 p.1 ne).trans e,n,ne,nf,d⟩
 ·refine (I.hok b ob e).stay (fun c w' hc q=>(hs.2 c ?_).trans q) (fun _ q=>q) fun _ _ q=>q
  rintro rfl
  rcases hc with z | hc
  ·have:=I.free; rw [z,e] at this; cases this
  ·rw [I.free] at hc; cases hc
end
section
variable {X:Cx} {pins:List (Addr × Obj)} {σ:St} {F H:Hp} {s:Shared} {sd:List Slot} {a T:Addr} {cls:Value} {M:Model} {A:Around} {Ex:Value→Shared→Prop}
structure xM (X:Cx) (pins:List (Addr × Obj)) (σ:St) (H:Hp) (s:Shared) (a T:Addr) (cls fl:Value):Prop where
 inv:Inv X pins σ H s
 fa:H a=none∧X.s₀.heap.get? a=none∧∀p∈X.pn++pins,p.1≠a
 fT:H T=none∧X.s₀.heap.get? T=none∧∀p∈X.pn++pins,p.1≠T
 obj:∃oe vs oT ts a0,s.heap.get? a=some oe∧(oe.cls=cls∧vs[0]? =some a0)∧oe.data= .fields vs∧vs[1]? =some (.ref T)∧T≠a∧s.heap.get? T=some oT∧oT.data= .fields ts∧ts[3]? =some fl
theorem wD (h:xM X pins σ H s a T cls fl):∀b∈[a,T],H b=none∧X.s₀.heap.get? b=none∧∀p∈X.pn++pins,p.1≠b:=fun b hb=>by
 simp only [aS,cU,or_false] at hb
 rcases hb with rfl | rfl
 ·exact h.fa
 ·exact h.fT
theorem zF {Q:Unit→Shared→Prop} (hst:X.stack=X.env::X.outer∧X.env.frame=some X.env.locals) (hfr:A.frames=some X.stack) (hex:X.ex=[]) (h:xM X pins σ H s a T cls .none) (k:∀h' T',xM X pins σ H {s with heap:=h'} a T' cls (rawInt X.env.locals)→Q () {s with heap:=h'}):
  wpAny M A (noteFrame (.ref a) X.env) Q Ex s:=by
 have hS:=wD h; obtain ⟨oe,vs,oT,ts,a0,he,hc,hd,h1,hTe,hT,hdT,h3⟩:=h.obj; have I:=h.inv; have fu:Heap.FunFrames s.heap (qN s.heap (frs X.stack++[a,T])) X.stack:=qB I.env0.funs fun b hb=>lQ (bE _ hb)
 have fm:=hfr; rw [hst.1] at fm; have fu2:=fu; rw [hst.1] at fu2; have ca:(qN s.heap (frs X.stack++[a,T])).get? a=none:=lQ (aG _ (by simp)); have cT:(qN s.heap (frs X.stack++[a,T])).get? T=none:=lQ (aG _ (by simp)); refine wpAny_noteFrame_onW (base:=qN s.heap (frs X.stack++[a,T])) (cls:=cls) (a0:=a0) fm (by rw [hst.1]; exact fu2) hst.2 ⟨oe,vs,T,oT,ts,he,hc,hd,h1,cT,hTe,hT,hdT,h3⟩ (fun b o q=>(pK q).2) ca fun h' L=> ?_
 rw [← hst.1] at L; obtain ⟨k1,k2,⟨oe',vs',T',oT',ts',he',hc',hd',h1',hnT',hTe',hT',hdT',h3'⟩,k4⟩:=L; have I2:=inv_rec I hS k1 k4
 have Tn:s.heap.get? T'=none∨T'∈[a,T]:=by
  by_cases hm:T'∈frs X.stack++[a,T]
  ·rcases aY.mp hm with hm | hm
   ·obtain ⟨_,o,q,nf⟩:=k2.mem hm; rw [hT'] at q; cases q; exact (nf ts' hdT').elim
   ·exact .inr hm
  ·rw [mO hm] at hnT'; exact .inl hnT'
 refine k h' T' ⟨I2,h.fa, ?_,oe',vs',oT',ts',a0,he',hc',hd',h1',hTe',hT',hdT',h3'⟩
 rcases Tn with q | q
 ·refine ⟨?_, ?_,fun p hp z=> ?_⟩
  ·cases g:H T' with
   | none=>rfl
   | some u=>obtain ⟨ob,q2⟩:=vO (I.hok T' u g); rw [q] at q2; cases q2
  ·cases g:X.s₀.heap.get? T' with
   | none=>rfl
   | some o=>obtain ⟨o1,q1⟩:=I.base.there T' o g (fun hb=>by rw [hex] at hb; cases hb); rw [q] at q1; cases q1
  ·have:=(I.pin p hp).1; rw [z,q] at this; cases this
 ·exact hS T' q
theorem nD {fl:Value} {fr:Option Addr} {Q:Unit→Shared→Prop} (hst:X.stack=X.env::X.outer∧X.env.frame=some X.env.locals) (h:xM X pins σ H s a T cls fl) (k:∀h',xM X pins σ H {s with heap:=h'} a T cls (fr.elim Value.none fun f=>rawInt f)→Q () {s with heap:=h'}):
  wpAny M A (setFlight (.ref a) fr) Q Ex s:=by
 have hS:=wD h; obtain ⟨oe,vs,oT,ts,a0,he,hc,hd,h1,hTe,hT,hdT,h3⟩:=h.obj; have I:=h.inv; have hsz3:3<ts.size:=(mY.mp h3).1
 have other:∀b,b≠T→(s.heap.update T (Obj.mapFields (·.setIfInBounds 3 (fr.elim Value.none fun f=>rawInt f)))).get? b=s.heap.get? b:=
  fun b hb=>cY _ _ (Ne.symm hb)
 have noRecord:∀b o,s.heap.get? b=some o→(∀vs,o.data≠ .fields vs)→b≠T:=fun b o hb hnf q=>by rw [q,hT] at hb; injection hb with hb; subst hb; exact hnf ts hdT
 unfold setFlight; refine wpAny_bind (wpAny_field he hd h1 ?_); rw [if_pos (show (Value.ref T !=Value.none)=true from by simp)]; refine wpAny_setField hT hdT hsz3 (k _ ⟨inv_rec I hS (fun b o q=> ?_) (fun b o q nf=>⟨o.slots,(other b (noRecord b o q nf)).trans q⟩),h.fa,h.fT,oe,vs,_,_,a0,(other a (Ne.symm hTe)).trans he,hc,hd,h1,hTe,fD _ hT (Obj.isFreed_of_fields (Obj.data_mapFields hdT _)),Obj.data_mapFields hdT _,by simp [hsz3]⟩); obtain ⟨q1,q2⟩:=pK q; exact (other b fun z=>q1 (aG _ (by simp [z]))).trans q2
end
section
variable {X:Cx} {sd:List Slot} {pos:Pos} {E:jX} {cls:Value}
theorem psd_try {body suite:List Stmt} {b₀:Stmt} {xE n:Str} {np hpos:Pos} {CE:Addr} (j:Nat) (hN:X.N.Nodup) (hj:X.N[j]? =some n) (hloc:X.env.scope.names.lookup n=some .local) (hg:Gl X xE) (hm:X.mg xE=some (.ref CE)) (hmt:xX X.K cls (.ref CE)=some true)
  (hb:∀ (ξ:Value→Shared→Prop) (pn:List (Addr × Obj)) (F:Hp),Takes {X with H₀:=F,B₀:=F,hB:=fun _ _ e _=>e,xe:=ξ,pn:=pn} cls sd→PSd {X with H₀:=F,B₀:=F,hB:=fun _ _ e _=>e,xe:=ξ,pn:=pn} sd body {nx:=fun _=>False,rt:=fun _=>False})
  (hh:∀ (a:Addr) (oe:Obj) (pn:List (Addr × Obj)),(a,oe)∈pn→oe.cls=cls→PSd {X with A:=X.A.mark (some (.ref a)),calm:=false,pn:=pn,xe:=fun _ _=>False} (sd.set j (isA a)) (b₀::suite) {nx:=fun sd'=>E.nx (sd'.set j .un),rt:=fun _=>False})
  (hB₀:X.B₀=X.H₀:=by rfl) (hex:X.ex=[]:=by rfl) (hst:X.stack=X.env::X.outer∧X.env.frame=some X.env.locals:=by exact ⟨rfl,rfl⟩) (hdb:(xE==("__debug__":Str))=false:=by decide):
  PSd1 X sd (.Try body [.ExceptHandler (some (.Name xE np)) (some n) (b₀::suite) hpos] [] [] pos) E:= .mk fun σ F H S pins s I=>by
 rw [hB₀] at S; obtain ⟨ξ,hξ⟩:∃ξ:Value→Shared→Prop,ξ=fun e s'=>∃a T σ' F' H',e= .ref a∧Inv X pins σ' H' s'∧StF X.K F F' H' σ' sd∧Exc X.s₀.heap s'.heap H' a T cls∧∀p∈X.pn++pins,p.1≠a∧p.1≠T:=⟨_,rfl⟩
 have I':Inv {X with H₀:=F,B₀:=F,hB:=fun _ _ e _=>e,xe:=ξ,pn:=X.pn++pins} [] σ H s:=inv_h0 I S rfl; have S':StF X.K F F H σ sd:=⟨Same.refl _,S.sub,S.smp,S.slots,S.nd⟩
 have tk:Takes {X with H₀:=F,B₀:=F,hB:=fun _ _ e _=>e,xe:=ξ,pn:=X.pn++pins} cls sd:=fun pins' σ' F' H' s' a T I2 S2 x2 hp=>by show ξ _ _; rw [hξ]; exact ⟨a,T,σ',F',H',rfl,inv_h1 I S rfl I2,S2,x2,fun p hp'=>hp p (bE _ hp')⟩
 refine wpAny_Try_except (wpAny_mono (hb ξ (X.pn++pins) F tk σ F H S' [] s I') (fun f s1 q=> ?_) fun e s1 hx=> ?_)
 ·cases f with
  | next=>obtain ⟨_,_,_,_,_,_,_,z⟩:=q; exact z.elim
  | brk=>obtain ⟨_,_,_,_,_,_,_,z⟩:=q; exact z.elim
  | cont=>obtain ⟨_,_,_,_,_,_,_,z⟩:=q; exact z.elim
  | ret u=>obtain ⟨_,_,_,_,_,_,_,z⟩:=q; exact z.elim
 ·have hx:ξ e s1:=hx; rw [hξ] at hx; obtain ⟨a,T,σ1,F1,H1,rfl,I1,S1,x1,hp⟩:=hx; have hd:xM X pins σ1 H1 s1 a T cls .none:=⟨I1,⟨x1.free,x1.new,fun p h=>(hp p h).1⟩,⟨x1.freeT,x1.newT,fun p h=>(hp p h).2⟩,x1.obj⟩; refine zF hst I.ok.frames hex hd fun h2 T2 hd2=> ?_
  refine nD hst hd2 fun h3 hd3=> ?_
  have LT:PySem.W.Looks (model X.prog X.w) h3 (typeOf (.ref a)) cls:=by obtain ⟨oe,vs,oT,ts,a0,he,hc,_⟩:=hd3.obj; exact hc.1▸(PySem.W.Looks.ld he).andThen .now
  refine wpAny_handleBy_cons (codeAny_handlers_test (Calls.Name_function_global hd3.inv.ok.kind hg (Calls.loadGlobal_global (by rw [hd3.inv.ok.glob]; exact hd3.inv.mod.glob.keeps hd3.inv.bk) hm ((PySem.W.exm_one hd3.inv.kIn LT hmt).at ?_)) hdb)) (by intro q; cases q); refine codeAny_handlers_suite_as (nD hst hd3 fun h4 hd4=> ?_); obtain ⟨oe,vs,oT,ts,a0,he,hc,hdt,_⟩:=hd4.obj
  have fsub:∀b∈X.fs,b∈frs X.stack:=fun b hb=>by unfold frs; rw [hst.1,eZ,hst.2]; exact aM _ hb
  have I5:=hd4.inv.pins_of (pins':=pins++[(a,oe)]) fun p hp=>by
   rcases aY.mp hp with hp | hp
   ·exact hd4.inv.pin p (aG _ hp)
   ·rw [bU.mp hp]; refine ⟨he,hd4.fa.1,fun z=> ?_,fun z=> ?_,fun v z=>by rw [hdt] at z; cases z⟩
    ·obtain ⟨m,⟨o,es,ep,ho,r,_⟩,_⟩:=hd4.inv.loc; rw [← z] at ho; have:oe=o:=cA.inj (he.symm.trans ho); rw [← this,hdt] at r; cases r
    ·obtain ⟨_,o,q,nf⟩:=hd4.inv.stack.mem (fsub a z); have:oe=o:=cA.inj (he.symm.trans q); rw [← this] at nf; exact nf vs hdt
  refine rM (v:= .ref a) I5 hN hj (.inl hloc) rfl (fun s6 I6=> ?_) (.inr hloc)
  have I7:Inv {X with A:=X.A.mark (some (.ref a)),calm:=false,pn:=X.pn++(pins++[(a,oe)]),xe:=fun _ _=>False} [] (σ1.set j (some (.ref a))) H1 s6:=
   ⟨⟨I6.ok.mod,I6.ok.kind,I6.ok.glob,I6.ok.blt,I6.ok.above,I6.ok.inj,I6.ok.has,I6.ok.cab,fun z=>(by cases z),I6.ok.frames,I6.ok.stk,I6.ok.exf,I6.ok.bs,I6.ok.bsz,I6.ok.noex,I6.ok.exfs,I6.ok.funs,I6.ok.frf⟩,I6.os,I6.bare,I6.base,I6.loc,I6.cell,I6.free,I6.freeC,fun p hp=>by rw [dR] at hp; exact I6.pin p hp,I6.hok,I6.len⟩
  have S1':StF X.K X.B₀ F1 H1 σ1 sd:=hB₀▸⟨fun b o e=>S1.base _ _ (S.base _ _ e),S1.sub,S1.smp,S1.slots,S1.nd⟩; have S7:StF X.K X.B₀ F1 H1 (σ1.set j (some (.ref a))) (sd.set j (isA a)):=S1'.setX j ⟨.ref a,rfl,fun b hb=>(by cases hb),fun _ _ _ _=>rfl⟩ eK fun b hb=>by cases hb
  refine wpAny_mono (hh a oe _ (by simp) hc.1 (σ1.set j (some (.ref a))) F1 H1 S7 [] s6 I7) (fun f s8 q=> ?_) fun _ _ z=>False.elim z
  cases f with
  | next=>
   obtain ⟨σ8,H8,I8,sd8,F8,S8,s8',qn⟩:=q
   have I9:Inv X pins σ8 H8 s8:=⟨I.ok,I8.os,I8.bare,I8.base,I8.loc,I8.cell,I8.free,I8.freeC,fun p hp=>I8.pin p (by
    rw [dR]
    rcases aY.mp hp with hp | hp
    ·exact bE _ hp
    ·exact aG _ (bE _ hp)),I8.hok,I8.len⟩
   obtain ⟨m,hn,hl⟩:=id I9.loc; refine wpAny_nameGoes_keeps hloc hn (by rw [I9.ok.kind]; rfl) fun h9 v hn9 hs9=> ?_
   exact ⟨σ8.set j none,H8,inv_gone I9 hN hj hloc hn hl hn9 hs9,sd8.set j .un,F8,⟨S8.base,S8.sub,S8.smp,S8.slots.set (z:= .un) (o:=none) trivial j,(jR (z:= .un) j S8.nd (fun l hl=>by cases hl) eK).1⟩,fun b o e=>s8' _ _ (S1.base _ _ e),qn⟩
  | brk=>obtain ⟨_,_,_,_,_,_,_,z⟩:=q; exact z.elim
  | cont=>obtain ⟨_,_,_,_,_,_,_,z⟩:=q; exact z.elim
  | ret u=>obtain ⟨_,_,_,_,_,_,_,z⟩:=q; exact z.elim
end
section
variable {X:Cx} {sd:List Slot} {e a b c:Expr} {es:List Expr} {pos:Pos} {d:D} {ds:List D} {E:jX}
theorem vY {ad C:Addr} {oe:Obj} {cv:V} {u:Value} {k:Bool} (hp:(ad,oe)∈X.pn) (hc:oe.cls= .ref C) (xc:XCls X.K C) (ru:∀u',RelV cv u'→u'=u) (hk:cD X.K (.ref C) u=some k):
  pJ X (.builtin "isinstance") (fun xs H Q=>xs=[.ref ad,cv]∧Q (.bl k) H):=by
 intro pins s σ H xs us Q I r h; obtain ⟨rfl,q⟩:=h; obtain ⟨u1,u2,rfl,r1,r2⟩:=vals2 r; cases (show u1=Value.ref ad from r1); have e:=ru u2 r2; subst e; exact eW (kitx_exc xc) I.kIn ⟨oe,(I.pin _ (bE _ hp)).1,hc⟩ hk (by intro q; cases q) fun tk=>⟨.bl k,H,I.tok tk,rfl,q⟩
theorem pd_isinX (j:Nat) {ad C CE:Addr} {oe:Obj} {k:Bool} {y x:Str} {p p1 p2:Pos} (hp:(ad,oe)∈X.pn) (hc:oe.cls= .ref C) (xc:XCls X.K C) (hg:Gl X "isinstance") (hm:X.mg "isinstance"=none) (hgx:Gl X x) (hmx:X.mg x=some (.ref CE)) (hk:cD X.K (.ref C) (.ref CE)=some k) (hj:sd[j]? =some (isA ad)) (hy:PE X (.Name y p1) (pD j)) (hdb:(x==("__debug__":Str))=false:=by decide)
  (he:starEach (.Name y p1::[.Name x p2]) X.env=(false,eval (.Name y p1) X.env)::starEach [.Name x p2] X.env:=by rfl) (hpl:(backTo pos (starEach [.Name x p2] X.env)).any (·.1)=false:=by rfl) (hs2:starEach [.Name x p2] X.env=(false,eval (.Name x p2) X.env)::starEach [] X.env:=by rfl):
  PEd X sd (.Call (.Name "isinstance" p) [.Name y p1, .Name x p2] [] pos) (.val (.bl k)):= .mk fun σ F H S=>
 (pP (vY (cv:= .ref CE) hp hc xc (fun u' r=>r) hk) hg hm boot_isinstance (gR hy (gR (rJ hgx hmx (v:= .ref CE) rfl hdb) pa_nil hs2) he) (by decide) (by decide) he hpl).to
  ⟨.ref ad,isA_get S hj,rfl,F,S,Same.refl _,by simp only [ResOk,Rep]⟩
theorem pd_isinXB (j:Nat) {ad C:Addr} {oe:Obj} {k:Bool} {y x:Str} {n:String} {p p1 p2:Pos} (hp:(ad,oe)∈X.pn) (hc:oe.cls= .ref C) (xc:XCls X.K C) (hg:Gl X "isinstance") (hm:X.mg "isinstance"=none) (hgx:Gl X x) (hmx:X.mg x=none) (hv:bootBuiltins x=some (.type n)) (hk:cD X.K (.ref C) (.type n)=some k) (hj:sd[j]? =some (isA ad)) (hy:PE X (.Name y p1) (pD j)) (hn:x≠"__name__":=by decide) (hdb:(x==("__debug__":Str))=false:=by decide)
  (he:starEach (.Name y p1::[.Name x p2]) X.env=(false,eval (.Name y p1) X.env)::starEach [.Name x p2] X.env:=by rfl) (hpl:(backTo pos (starEach [.Name x p2] X.env)).any (·.1)=false:=by rfl) (hs2:starEach [.Name x p2] X.env=(false,eval (.Name x p2) X.env)::starEach [] X.env:=by rfl):
  PEd X sd (.Call (.Name "isinstance" p) [.Name y p1, .Name x p2] [] pos) (.val (.bl k)):= .mk fun σ F H S=>
 (pP (vY (cv:= .ty n) hp hc xc (fun u' r=>r) hk) hg hm boot_isinstance (gR hy (gR (pe_type hgx hmx hv hn hdb) pa_nil hs2) he) (by decide) (by decide) he hpl).to
  ⟨.ref ad,isA_get S hj,rfl,F,S,Same.refl _,by simp only [ResOk,Rep]⟩
def spS (K:aB) (n:Nat) (G:V→Hp→Prop) (C:List D→Prop):Sp:=fun vs H _ E=>vs.length=n∧Smp H∧∃v us ds,vs=v::us∧G v H∧RepL K H ds us∧C ds∧∀a H',Same H H'→Smp H'→E (.ref a) (some a) H'
structure CalleeS (P:Program) (w:World) (K:aB) (mg:Str→Option Value) (base:Heap) (x:Str) (k n:Nat) (G:V→Hp→Prop) (C:List D→Prop) (cls:Value):Prop where
 ex:∃ (f:Addr) (fd:FuncData) (ps:List Str),mg x=some (.ref f)∧bL K (.ref f)=true∧Binds K fd ps []∧FnOk P w K mg base (CX1 P w cls) k f fd ps (spS K n G C)
structure PSh (X:Cx) (sd:List Slot) (e:Expr) (G:V→Hp→Prop):Prop where
 run:∀ (σ:St) (F H:Hp),StF X.K X.B₀ F H σ sd→wE X e σ H fun v H'=>∃F',StF X.K X.B₀ F' H' σ sd∧Same F F'∧G v F'
end
section
variable {X:Cx} {pins:List (Addr × Obj)} {σ:St} {F H:Hp} {s:Shared} {sd:List Slot} {a T:Addr} {cls fl:Value} {E:XK}
theorem cx_of (hex:X.ex=[]) (h:xM X pins σ H s a T cls .none) (hE:E (.ref a) (some a) H):CX1 X.prog X.w cls X.outer X.H₀ X.s₀ E (.ref a) s:=by have I:=h.inv; have b:=I.base; rw [hex] at b; exact ⟨a,T,H,rfl,I.os,I.bare,b,I.hok,⟨h.fa.1,h.fa.2.1,h.fT.1,h.fT.2.1,h.obj⟩,hE⟩
theorem leave_any {Ex:Value→Shared→Prop} (hex:X.ex=[]) (hst:X.stack=X.env::X.outer∧X.env.frame=some X.env.locals) (h:xM X pins σ H s a T cls fl) (hE:E (.ref a) (some a) H):
  wpAny (model X.prog X.w) X.A (leaving X.env (.ref a)) (fun _ s''=>CX1 X.prog X.w cls X.outer X.H₀ X.s₀ E (.ref a) s'') Ex s:=by
 by_cases e:fl=rawInt X.env.locals
 ·subst e; obtain ⟨oe,vs,oT,ts,a0,he,hc,hd,h1,hTe,hT,hdT,h3⟩:=h.obj; unfold leaving; refine wpAny_bind (wpAny_noteFrame_inFlight hst.2 he hd h1 hT hdT h3 ?_); exact nD hst h fun h' h2=>cx_of hex h2 hE
 ·have hS:=wD h; obtain ⟨oe,vs,oT,ts,a0,he,hc,hd,h1,hTe,hT,hdT,h3⟩:=h.obj; have hsz3:3<ts.size:=(mY.mp h3).1; have vs1:1<vs.size:=(mY.mp h1).1; have I:=h.inv; have other:∀b,b≠T→(s.heap.update T (Obj.mapFields (·.setIfInBounds 3 Value.none))).get? b=s.heap.get? b:=fun b hb=>cY _ _ (Ne.symm hb)
  have noRecord:∀b o,s.heap.get? b=some o→(∀vs,o.data≠ .fields vs)→b≠T:=fun b o hb hnf q=>by rw [q,hT] at hb; injection hb with hb; subst hb; exact hnf ts hdT
  have I2:Inv X pins σ H {s with heap:=s.heap.update T (Obj.mapFields (·.setIfInBounds 3 Value.none))}:=inv_rec I hS (fun b o q=>by
   obtain ⟨q1,q2⟩:=pK q
   exact (other b fun z=>q1 (aG _ (by simp [z]))).trans q2) (fun b o q nf=>⟨o.slots,(other b (noRecord b o q nf)).trans q⟩)
  have he2:(s.heap.update T (Obj.mapFields (·.setIfInBounds 3 Value.none))).get? a=some oe:=(other a (Ne.symm hTe)).trans he; have hS2:∀b∈[a,T],H b=none∧X.s₀.heap.get? b=none:=fun b hb=>⟨(hS b hb).1,(hS b hb).2.1⟩
  obtain ⟨h2,eh⟩:∃h2,h2=s.heap.update T (Obj.mapFields (·.setIfInBounds 3 Value.none)):=⟨_,rfl⟩; rw [← eh] at I2 he2; have fu:Heap.FunFrames h2 (qN h2 (frs X.stack++[a,T])) X.stack:=qB I2.env0.funs fun b hb=>lQ (bE _ hb)
  have fm:=I.ok.frames; rw [hst.1] at fm; have fu2:=fu; rw [hst.1] at fu2; have ca:(qN h2 (frs X.stack++[a,T])).get? a=none:=lQ (aG _ (by simp)); unfold leaving noteFrame; rw [hst.2]; refine wpAny_bind (wpAny_bind (wpAny_field he hd h1 ?_)); rw [if_pos (show (Value.ref T !=Value.none)=true from by simp)]; refine wpAny_bind (wpAny_field hT hdT h3 ?_); rw [if_neg (by simpa using e)]; refine wpAny_bind (wpAny_setField hT hdT hsz3 ?_); rw [← eh]; refine wpAny_newEntryW (base:=qN h2 (frs X.stack++[a,T])) fm (by rw [hst.1]; exact fu2) hst.2 he2 (fun b o q=>(pK q).2) ca hd vs1 hc.2 fun h' L=> ?_
  rw [← hst.1,hc.1] at L; exact left_cx I2 hex hst hS2 (by simp) L hE
def TakesA (X:Cx) (cls:Value) (sd:List Slot):Prop:=∀ (pins:List (Addr × Obj)) (σ:St) (F H:Hp) (s:Shared) (a T:Addr) (fl:Value),xM X pins σ H s a T cls fl→StF X.K X.B₀ F H σ sd→X.xe (.ref a) s
end
section
variable {P:Program} {w:World} {K:aB} {mg:Str→Option Value} {base:Heap} {N:List Str} {qual:Str} {scope:Scope} {f:Addr} {cdv:Value} {A:Around} {outer:List Env} {s:Shared} {H:Hp} {E:XK} {cls:Value} {sd:List Slot}
theorem takes_defA (hE:∀a H',Same H H'→Smp H'→E (.ref a) (some a) H'):TakesA (pA (CX1 P w cls) P w K mg base N qual scope f cdv A outer s H E) cls sd:=fun pins σ F H' s' a T fl h S=>leave_any (X:=pA (CX1 P w cls) P w K mg base N qual scope f cdv A outer s H E) (E:=E) rfl ⟨rfl,rfl⟩ h (hE a H' (fun b o e=>S.sub _ _ (S.base _ _ e)) S.smp)
end
section
variable {X:Cx} {pins:List (Addr × Obj)} {σ:St} {F H:Hp} {s s':Shared} {sd:List Slot} {cls:Value} {e tg iter:Expr} {es:List Expr} {pos:Pos} {ds:List D} {Old:Addr→Prop} {E:jX}
structure ExcO (Old:Addr→Prop) (h:Heap) (H:Hp) (a T:Addr) (cls:Value):Prop where
 free:H a=none
 new:¬ Old a
 freeT:H T=none
 newT:¬ Old T
 obj:∃oe vs oT ts a0,h.get? a=some oe∧(oe.cls=cls∧vs[0]? =some a0)∧oe.data= .fields vs∧vs[1]? =some (.ref T)∧T≠a∧h.get? T=some oT∧oT.data= .fields ts∧ts[3]? =some .none
def TakesO (X:Cx) (Old:Addr→Prop) (cls:Value) (sd:List Slot):Prop:=∀ (pins:List (Addr × Obj)) (σ:St) (F H:Hp) (s:Shared) (a T:Addr),Inv X pins σ H s→StF X.K X.B₀ F H σ sd→ExcO Old s.heap H a T cls→(∀p∈X.pn++pins,p.1≠a∧p.1≠T)→X.xe (.ref a) s
def There (X:Cx) (Old:Addr→Prop):Prop:=∀ (pins:List (Addr × Obj)) (σ:St) (H:Hp) (s:Shared),Inv X pins σ H s→∀b,Old b→∃o,s.heap.get? b=some o
def Ent (X:Cx):Addr→Prop:=fun b=>∃o,X.s₀.heap.get? b=some o
theorem there_ent (hex:X.ex=[]):There X (Ent X):=fun pins σ H s I b ⟨o,g⟩=>I.base.there b o g (fun hb=>by rw [hex] at hb; cases hb)
theorem Takes.o (h:Takes X cls sd):TakesO X (Ent X) cls sd:=fun pins σ F H s a T I S x hp=>
 h pins σ F H s a T I S ⟨x.free,by
  cases g:X.s₀.heap.get? a with
  | none=>rfl
  | some o=>exact (x.new ⟨o,g⟩).elim,x.freeT,by
  cases g:X.s₀.heap.get? T with
  | none=>rfl
  | some o=>exact (x.newT ⟨o,g⟩).elim,x.obj⟩ hp
theorem px_callO {x:Str} {p:Pos} {k n:Nat} {C:List D→Prop} {dvs:List V} {dws:List Value} {dds:List D} (G:oM X.prog X.w X.K X.mg X.base x k n C cls dvs dws) (hh:There X Old) (hr:Room k X.A) (hg:Gl X x) (ha:PAd X sd (e::es) (ds.map R.val)) (hdv:∀H,RepL X.K H dds dvs) (hc:C (ds++dds)) (hn:ds.length+dds.length=n) (ht:TakesO X Old cls sd)
  (hdb:(x==("__debug__":Str))=false:=by decide) (he:starEach (e::es) X.env=(false,eval e X.env)::starEach es X.env:=by rfl) (hpl:(backTo pos (starEach es X.env)).any (·.1)=false:=by rfl):
  PEx X sd (.Call (.Name x p) (e::es) [] pos):=⟨fun σ F H S pins s I=>by
 obtain ⟨f,fd,ps,hm,hk,bd,hd,G⟩:=G.ex; refine wpAny_Call_Name_kw (uO I hg hm ?_ hdb); refine PySem.W.callWith_K (h₀:=X.base) I.ok.mod.kin hk (thn (ha σ F H S pos pins s I) fun us s1 ⟨vs,H1,I1,r,F1,S1,s1',q⟩=>⟨I1.kIn, ?_⟩) he hpl; have rl:RepL X.K H1 (ds++dds) (vs++dvs):=(q.vals.mono S1.sub).app (hdv H1); refine run_fnX (Q:=fun _ _=>False) (Ex:=fun _ _ H'=>Same H1 H'∧Smp H') G hr bd hd I1 r ⟨by rw [rl.len,cR]; exact hn,S1.smp,ds++dds,rl,hc,fun a H' q1 q2=>⟨q1,q2⟩⟩ fun e s' hcx=> ?_
 obtain ⟨a,T,H',rfl,os,bare,un,hok,x,sH,smH⟩:=hcx; have I2:Inv X pins σ H' s':=I1.call' os un hok bare (fun b z=>absurd z (by simp))
 have nO:∀b,s1.heap.get? b=none→¬ Old b:=fun b q z=>by obtain ⟨o,g⟩:=hh pins σ H1 s1 I1 b z; rw [q] at g; cases g
 have nw:∀b,s1.heap.get? b=none→∀p∈X.pn++pins,p.1≠b:=fun b q p hp z=>by have:=(I1.pin p hp).1; rw [z,q] at this; cases this
 exact ht pins σ F1 H' s' a T I2 ⟨S1.base,S1.sub.trans sH,smH,S1.slots.mono (Same.refl _) fun l hl=>⟨(S1.slots.owns hl).1,fun ob e=>sH _ _ e⟩,S1.nd⟩ ⟨x.free,nO a x.new,x.freeT,nO T x.newT,x.obj⟩ fun p hp=>⟨nw a x.new p hp,nw T x.newT p hp⟩⟩
theorem inv_xe {ξ ζ:Value→Shared→Prop} {pi:List (Addr × Obj)} (I:Inv {X with xe:=ξ} pi σ H s):Inv {X with xe:=ζ} pi σ H s:=
 ⟨⟨I.ok.mod,I.ok.kind,I.ok.glob,I.ok.blt,I.ok.above,I.ok.inj,I.ok.has,I.ok.cab,I.ok.hd,I.ok.frames,I.ok.stk,I.ok.exf,I.ok.bs,I.ok.bsz,I.ok.noex,I.ok.exfs,I.ok.funs,I.ok.frf⟩,I.os,I.bare,I.base,I.loc,I.cell,I.free,I.freeC,I.pin,I.hok,I.len⟩
theorem nd_ns {h h':Heap} {C:Addr} {m:Str→Option Value} (n:h.Ns C m):∃o,h.get? C=some o∧(∀vs,o.data≠ .fields vs)∧(∀v,o.data≠ .cell v)∧(h'.get? C=some o→h'.Ns C m):=by obtain ⟨o,es,ep,ho,r,q⟩:=n; exact ⟨o,ho,fun vs z=>(by rw [r] at z; cases z),fun v z=>(by rw [r] at z; cases z),fun g=>⟨o,es,ep,g,r,q⟩⟩
theorem px_comp {elt:Expr} {scope:Scope} {N M:List Str} {cap:List (Option Nat)} {sc:Scope} {Tb:D→List Slot} (f:D→D) (n:Nat) (hn:n<ds.length)
  (hi:PId X sd PT0 tg iter ds) (hl:ds.length≤1000) (hsc:X.env.scope=sc) (hcn:mD scope sc=true) (hM:X.N=M) (hcap:kR N M scope sc cap=true) (hk:scope.kind= .function)
  (hg:∀cl C fp s H ξ d,d∈ds→PGd (kH X N scope cl C fp s H ξ) (jL cap sd) tg d (Tb d))
  (hle:∀d,d∈ds→Le (Tb d) (jL cap sd))
  (he:∀cl C fp s H ξ k d,ds[k]? =some d→k<n→PEd (kH X N scope cl C fp s H ξ) (Tb d) elt (.val (f d)))
  (hx:∀cl C fp s H ξ Old d,ds[n]? =some d→There (kH X N scope cl C fp s H ξ) Old→TakesO (kH X N scope cl C fp s H ξ) Old cls (Tb d)→PEx (kH X N scope cl C fp s H ξ) (Tb d) elt)
  (ht:TakesA X cls sd) (hex:X.ex=[]:=by rfl) (hst:X.stack=X.env::X.outer∧X.env.frame=some X.env.locals:=by exact ⟨rfl,rfl⟩)
  (hc:X.calm=true:=by rfl) (hs:∀x,foldedSetIterable iter X.env x=pure x:=by intro _; rfl):
  PEx X sd (.ListComp elt [⟨tg,iter,[],0⟩] scope pos):=⟨fun σ F H S pins s I=>by
 have nm:∀y∈scope.names,(y.2=NameKind.free→sc.names.lookup y.1=some NameKind.cell)∧(y.2=NameKind.local→scope.names.lookup y.1=some NameKind.local):=fun y hy=>by have q:=fH.mp hcn y hy; simp only [bN,iR,iY,beq_eq_false_iff_ne,ne_eq,beq_iff_eq] at q; exact ⟨fun e=>q.1.1.resolve_left fun z=>z e,fun e=>q.2.resolve_left fun z=>z e⟩
 have fre:∀y∈scope.names,y.2= .free→∃c,X.env.cells.lookup y.1=some c:=fun y hy e=>I.ok.has y.1 (.inl (by show X.env.scope.names.lookup y.1=_; rw [hsc]; exact (nm y hy).1 e))
 rw [eval_ListComp]; refine wpAny_comprehension_free (use:=none) rfl hs (oG fre) hk (fun y hy=>(nm y hy).2) ?_; refine thn (hi σ F H S pins s I) fun v s1 h1=>thn h1 fun itv s2 h2=> ?_
 obtain ⟨it,fp,tn,J,H2,e,I2,T,st2,f2,F1,S1,s1',itd⟩:=h2; subst e; have S1b:StF X.K H2 H2 H2 (tS cap σ) (jL cap sd):=⟨Same.refl _,Same.refl _,S1.smp,rO (H':=H2) S1.slots S1.sub cap,by rw [mK]; exact eK⟩; obtain ⟨Old,hO⟩:∃Old:Addr→Prop,Old=fun b=>(∃o,s2.heap.get? b=some o)∧b∉fp:=⟨_,rfl⟩
 obtain ⟨ξ,hξ⟩:∃ξ:List (Str × Addr)→Addr→Value→Shared→Prop,ξ=fun cl C e s'=>∃a T pi σb H',e= .ref a∧Inv (kH X N scope cl C fp s2 H2 fun _ _=>False) pi σb H' s'∧Same H2 H'∧Smp H'∧ExcO Old s'.heap H' a T cls:=⟨_,rfl⟩
 have hth:∀cl C,There (kH X N scope cl C fp s2 H2 (ξ cl C)) Old:=fun cl C pi σ' H' s' I' b hb=>by rw [hO] at hb; obtain ⟨⟨o,g⟩,nf⟩:=hb; exact I'.base.there b o g nf
 have htk:∀cl C sdb,TakesO (kH X N scope cl C fp s2 H2 (ξ cl C)) Old cls sdb:=fun cl C sdb pi σ' F' H' s' a T I' S' x' _=>by show ξ cl C _ _; rw [hξ]; exact ⟨a,T,pi,σ',H',rfl,inv_xe (X:=cxB X N scope cl C fp s2 H2) I',fun b o q=>S'.sub _ _ (S'.base _ _ q),S'.smp,x'⟩
 refine zO ξ (fun cl C e H' s'=>∃a T,e= .ref a∧Same H2 H'∧Smp H'∧ExcO Old s'.heap H' a T cls) (N:=N) (cap:=cap) (g:=fun v σ2 H3 Q=>∀cl C,wG (kH X N scope cl C fp s2 H2 (ξ cl C)) tg v σ2 H3 Q) (tt:=fun σ2 H3 Q=>∀cl C,wIfs (kH X N scope cl C fp s2 H2 (ξ cl C)) [] σ2 H3 Q) (te:=fun σ2 H3 Q=>∀cl C,wE (kH X N scope cl C fp s2 H2 (ξ cl C)) elt σ2 H3 Q)
  hc hsc hcn (by rw [hM]; exact hcap) hk I2 T st2 f2 (fun cl C pi s3 σ3 H3 v u Q I3 ru q=>q cl C pi s3 u I3 ru) (fun cl C pi s3 σ3 H3 Q I3 q=>q cl C pi s3 I3) (fun cl C pi s3 σ3 H3 Q I3 q=>q cl C pi s3 I3)
  (fun i m ys σb H3=>m=ds.length - i∧i≤n∧∃Fb,StF X.K H2 Fb H3 σb (jL cap sd)∧RepL X.K Fb ((ds.take i).map f) ys) ds.length
  ⟨by simp,bO _,H2,S1b,by simpa using RepL.nil⟩ _ (fun cl C e s' z=> ?_) (fun cl D C e H' s' z hC h0 hL hcc hpp hfs hns J'=> ?_) ?_
 ·rw [hξ] at z; obtain ⟨a,T,pi,σb,H',e1,I',q1,q2,q3⟩:=z; exact ⟨pi,σb,H',inv_xe (X:=cxB X N scope cl C fp s2 H2) I',a,T,e1,q1,q2,q3⟩
 ·obtain ⟨a,T',rfl,sH,smH,x⟩:=z; obtain ⟨m,ns⟩:=hns; have S':StF X.K X.B₀ F1 H' σ sd:=⟨S1.base,S1.sub.trans sH,smH,S1.slots.mono (Same.refl _) fun l hl=>⟨(S1.slots.owns hl).1,fun ob e=>sH _ _ e⟩,S1.nd⟩; obtain ⟨oC,gC,nfC,ncC,_⟩:=nd_ns (h':=s'.heap) ns
  have fsub:∀b∈X.fs,b∈frs X.stack:=fun b hb=>by unfold frs; rw [hst.1,eZ,hst.2]; exact aM _ hb
  have Jp:Inv X (pins++[(C,oC)]) σ H' s':=J'.pins_of fun p hp=>by
   rcases aY.mp hp with hp | hp
   ·exact J'.pin p (aG _ hp)
   ·rw [bU.mp hp]; exact ⟨gC,hC,hL,fun z=>hfs (fsub C z),ncC⟩
  have isO:∀b o,s2.heap.get? b=some o→b∉fp→Old b:=fun b o g nf=>by rw [hO]; exact ⟨⟨o,g⟩,nf⟩
  have nS:∀b,¬ Old b→X.s₀.heap.get? b=none:=fun b nb=>by
   cases g:X.s₀.heap.get? b with
   | none=>rfl
   | some o=>
    obtain ⟨o1,q1⟩:=I2.base.there b o g (fun hb=>by rw [hex] at hb; cases hb); refine (nb (isO b o1 q1 fun hb=> ?_)).elim
    rcases (f2 b hb).2.2.2.1 with z | z
    ·rw [hex] at z; cases z
    ·exact absurd (aI g) (pT.mpr z)
  have nP:∀b,¬ Old b→∀p∈X.pn++pins,p.1≠b:=fun b nb p hp z=>nb (z▸isO p.1 p.2 (I2.pin p hp).1 fun hb=>(f2 p.1 hb).2.2.2.2.2 p hp rfl)
  obtain ⟨oe,vs,oT,ts,a0,he',hc',hd',h1',hTe,hT',hdT',h3'⟩:=x.obj
  have nCa:C≠a:=fun z=>by rw [z,he'] at gC; exact nfC vs (cA.inj gC▸hd')
  have nCT:C≠T':=fun z=>by rw [z,hT'] at gC; exact nfC ts (cA.inj gC▸hdT')
  have pall:∀b,¬ Old b→C≠b→∀p∈X.pn++(pins++[(C,oC)]),p.1≠b:=fun b nb nc p hp=>by
   rw [← gH] at hp
   rcases aY.mp hp with hp | hp
   ·exact nP b nb p hp
   ·rw [bU.mp hp]; exact nc
  have hd0:xM X (pins++[(C,oC)]) σ H' s' a T' cls .none:=⟨Jp,⟨x.free,nS a x.new,pall a x.new nCa⟩,⟨x.freeT,nS T' x.newT,pall T' x.newT nCT⟩,x.obj⟩; show wpAny _ _ (noteFrame (.ref a) X.env) _ _ _; refine zF hst J'.ok.frames hex hd0 fun h3 T3 hd3=> ?_
  obtain ⟨p1,p2,_⟩:=hd3.inv.pin (C,oC) (aG _ (aG _ (eV _))); obtain ⟨oC',gC',_,_,up⟩:=nd_ns (h':=h3) ns; rw [gC] at gC'; cases gC'; refine ⟨m,up p1,fun h4 sb cenv hce=> ?_⟩; have J4:Inv X pins σ H' {({s' with heap:=h3}:Shared) with heap:=h4,toks:=s'.toks}:=(hd3.inv.pins_of (pins':=pins) fun p hp=>hd3.inv.pin p (aG _ (bE _ hp))).turned (it:=C) (fun b o hb g=>sb.extBut b o hb g) p2 hL (.inr h0) hcc hpp; obtain ⟨oe3,vs3,oT3,ts3,a03,he3,hc3,hd3',h13,hTe3,hT3,hdT3,h33⟩:=hd3.obj; have nCT3:C≠T3:=hd3.fT.2.2 (C,oC) (aG _ (aG _ (eV _))); have he4:h4.get? a=some oe3:=sb.extBut a oe3 (Ne.symm nCa) he3; have hT4:h4.get? T3=some oT3:=sb.extBut T3 oT3 (Ne.symm nCT3) hT3; have sub:∀p∈X.pn++pins,p∈X.pn++(pins++[(C,oC)]):=fun p hp=>by rw [← gH]; exact bE _ hp
  have hd4:xM X pins σ H' {s' with heap:=h4} a T3 cls (rawInt X.env.locals):=⟨J4,⟨hd3.fa.1,hd3.fa.2.1,fun p hp=>hd3.fa.2.2 p (sub p hp)⟩,⟨hd3.fT.1,hd3.fT.2.1,fun p hp=>hd3.fT.2.2 p (sub p hp)⟩,oe3,vs3,oT3,ts3,a03,he4,hc3,hd3',h13,hTe3,hT4,hdT3,h33⟩; unfold PySem.passOn; refine wpAny_bind (wpAny_field he4 hd3' h13 ?_); rw [if_neg (by simp)]; refine wpAny_bind (nD hst hd4 fun h5 hd5=> ?_); exact wpAny_throw (ht pins σ F1 H' _ a T3 _ hd5 S')
 ·rintro i m ys σb H3 ⟨rfl,hil,Fb,Sb,rl⟩; have sF1:Same F1 Fb:=fun b o g=>Sb.base _ _ (S1.sub _ _ g)
  obtain ⟨g1,g2,g3⟩:=itd Fb H3 sF1 Sb.sub Sb.smp trivial i; have hlt:i<ds.length:=by omega
  have hd:ds[i]? =some ds[i]:=by simp [hlt]
  have hm:ds[i]∈ds:=fI hlt
  have ylen:ys.length≤i:=by rw [rl.len,aD,eN]; omega
  refine .inr ⟨g1 hlt,iA (by omega),fun ys' σ' H'=>i<n∧∃Fb',StF X.K H2 Fb' H' σ' (jL cap sd)∧RepL X.K Fb' ((ds.take (i+1)).map f) ys',fun ys' σ' H' ⟨hin,Fb',Sb',rl'⟩=>⟨ds.length - (i+1),by omega,rfl,hin,Fb',Sb',rl'⟩,fun x H4 y cl C=> ?_⟩; obtain ⟨F4,s4,rp,up⟩:=g3 x H4 ds[i] hd y; refine (hg cl C fp s2 H2 _ _ hm σb F4 H4 x (up _ _ _ Sb) rp).imp fun σ5 H5 ⟨F5,S5,s5⟩ cl2 C2=>rP (iteT fun cl3 C3=> ?_)
  by_cases hin:i<n
  ·refine (he cl3 C3 fp s2 H2 _ i _ hd hin σ5 F5 H5 S5).imp fun v H7 ⟨F7,S7,s7,q7⟩=>⟨hin,F7,S7.le (hle _ hm), ?_⟩
   rw [gG,hd,aR]; exact ((rl.mono (s4.trans s5)).mono s7).app (.one q7)
  ·have:i=n:=by omega
   subst this
   exact ((hx cl3 C3 fp s2 H2 _ Old _ hd (hth cl3 C3) (htk cl3 C3 _)).run σ5 F5 H5 S5).imp fun _ _ z=>z.elim⟩
theorem psd_asgE (h:PEx X sd e) (hs:swapsWithSole [tg] e pos.line X.env=pure false:=by rfl) (hw:swappedStores [tg] e X.env=pure none:=by rfl) (h1:(assignEach [tg] X.env).map (·.2)=[assign tg X.env]:=by rfl):PSd1 X sd (.Assign [tg] e pos) E:= .mk fun σ F H S=>(xN hX pg_w hs hw h1).to ((h.run σ F H S).imp fun _ _ z=>z.elim)
end
def GI (K:aB) (l:Addr) (ks:List Key) (ls:List Addr) (dss:List (List D)):V→Hp→Hp→Prop:=fun v F H=>v= .ref l∧H l=some (.dK (ks.zip (ls.map V.ref)))∧ks.length=ls.length∧InD K F H ls dss
section
variable {K:aB} {H₀ F F' H H':Hp} {σ:St} {sd:List Slot} {i:Nat} {l:Addr} {ks:List Key} {ls:List Addr} {dss:List (List D)}
theorem smp_updO {o:HO} (h:Smp H) (a:Addr) (z:SmpO o):Smp (upd H a o):=fun b u e=>by
 by_cases q:b=a
 ·subst q; rw [cS] at e; cases e; exact z
 ·rw [bW q] at e; exact h _ _ e
end
def GW (K:aB) (m:List Bool) (l0 l:Addr) (ls:List Addr) (dss:List (List D)):V→Hp→Hp→Prop:=fun v F H=>v= .ref l0∧H l0=some (.lst [.ref l, .int 0])∧H l=some (.lst (shp V.non V.ref m ls))∧InD K F H ls dss
def oW (K:aB) (m:List Bool) (l0 l:Addr) (ls:List Addr) (dss:List (List D)):Slot:= .ox (l0::l::ls) (GW K m l0 l ls dss)
def wR (K:aB) (m:List Bool) (dss:List (List D)):R:= .ox fun v as F H=>∃l0 l ls,as=l0::l::ls∧GW K m l0 l ls dss v F H
section
variable {X:Cx} {sd:List Slot} {e a b c ix:Expr} {es:List Expr} {pos:Pos} {d:D} {ds:List D} {E:jX} {l:Addr} {ls:List Addr} {dss:List (List D)} {m:List Bool}
theorem psd_setixW (i:Nat) {x:Str} {p tp p2:Pos} {j:Nat} {l0:Addr} (hs:sd[i]? =some (.own l0 [.non, .int 0])) (hx:PE X (.Name x p) (pD i)) (h:PEd X sd e (ooR X.K m dss)) (hE:∀l ls,E.nx (sd.set i (oW X.K m l0 l ls dss)))
  (ha:∀v,assign (.Subscript (.Name x p) (.Constant (.int 0) j p2) tp) X.env v=(do
   let ov ← holding [v] (eval (.Name x p) X.env)
   let iv ← holding [v,ov] (eval (.Constant (.int 0) j p2) X.env)
   standAt tp
   holding [v,ov,iv] (setItem ov iv v)
   release [v,ov,iv] []):=by intro _; rfl)
  (hs1:swapsWithSole [.Subscript (.Name x p) (.Constant (.int 0) j p2) tp] e pos.line X.env=pure false:=by rfl) (hw:swappedStores [.Subscript (.Name x p) (.Constant (.int 0) j p2) tp] e X.env=pure none:=by rfl)
  (h1:(assignEach [.Subscript (.Name x p) (.Constant (.int 0) j p2) tp] X.env).map (·.2)=[assign (.Subscript (.Name x p) (.Constant (.int 0) j p2) tp) X.env]:=by rfl):PSd1 X sd (.Assign [.Subscript (.Name x p) (.Constant (.int 0) j p2) tp] e pos) E:= .mk fun σ F H S=>
 (xN hX (pg_sub hx pe_int set_list ha) hs1 hw h1).to ((h σ F H S).imp fun v H1 ⟨F1,S1,s1,as,nd,q,g⟩=>by
  obtain ⟨l,ls,rfl,rfl,g1,g2⟩:=g F1 H1 (Same.refl _) fun _ _ _ z=>z
  obtain ⟨o,k1,k2,n1,xs,q0,rl⟩:=S1.slots.get hs
  have ex:xs=[.non, .int 0]:=by obtain ⟨y,ys,rfl,r1,rl⟩:=rl.uncons; obtain ⟨z,zs,rfl,r2,rl⟩:=rl.uncons; simp only [Rep,RepL] at r1 r2 rl; rw [r1,r2,rl]
  subst ex; have ow:l0∈cM sd:=gM.mpr ⟨_,dE hs,eV l0⟩; have nl:∀b∈l::ls,b≠l0:=fun b hb z=>(q b hb).2.2 (z▸ow)
  refine ⟨.ref l0,by rw [k1,k2],l0,_,(0:Int),0,rfl,rfl,q0,rfl,_,F1,S1.reT (z':=oW X.K m l0 l ls dss) hs (by rw [k1,k2]) (fun b ob hb e=> ?_) (smp_updO S1.smp l0 trivial) ⟨.ref l0,rfl,fun b hb=> ?_,fun F' H' sF k=> ?_⟩ (cV.mpr ⟨fun z=>nl l0 z rfl,nd⟩) (fun b hb=> ?_),s1,hE l ls⟩
  ·rw [bW (show b≠l0 from fun z=>hb (z▸eV l0))]; exact e
  ·rcases aS.mp hb with rfl | hb
   ·exact ⟨n1,_,cS,trivial⟩
   ·obtain ⟨f1,⟨ob,f2,f3⟩,_⟩:=q b hb; exact ⟨f1,ob,by rw [bW (nl b hb)]; exact f2,f3⟩
  ·refine ⟨rfl,k l0 aO _ cS,k l (by simp) _ (by rw [bW (nl l aO)]; exact g1),g2.mono2 sF fun b hb ob e=>k b (by simp [hb]) ob (by rw [bW (nl b (aM _ hb))]; exact e)⟩
  ·rcases aS.mp hb with rfl | hb
   ·exact .inl (eV _)
   ·exact .inr (q b hb).2.2)
theorem psd_unW (i j:Nat) {k:Nat} {tp:Pos} (hc:X.calm=true) (hg:PGs X es (gNs [i,j])) (h:PEd X sd e (wR X.K m dss)) (hE:∀l ls,E.nx ((sd.set i (oO X.K m l ls dss)).set j (.val (.int 0))))
  (hn:(assignEach es X.env).length=2:=by rfl) (hst:(assignEach es X.env).findIdx? (·.1)=none:=by rfl)
  (hs:swapsWithSole [.Tuple es k tp] e pos.line X.env=pure false:=by rfl) (hw:swappedStores [.Tuple es k tp] e X.env=pure none:=by rfl)
  (h1:(assignEach [.Tuple es k tp] X.env).map (·.2)=[assign (.Tuple es k tp) X.env]:=by rfl):PSd1 X sd (.Assign [.Tuple es k tp] e pos) E:= .mk fun σ F H S=>
 (xN hX (pg_lst hc hg hn hst) hs hw h1).to ((h σ F H S).imp fun v H1 ⟨F1,S1,s1,as,nd,q,g⟩=>by
  obtain ⟨l0,l,ls,rfl,rfl,g0,g1,g2⟩:=g F1 H1 (Same.refl _) fun _ _ _ z=>z
  have nd2:=(cV.mp nd).2; have S2:=S1.setX i (oO_mk (K:=X.K) (m:=m) (fun b hb=>(q b (aM _ hb)).1) g1 g2) nd2 fun b hb=>(q b (aM _ hb)).2.2
  exact ⟨l0,_,rfl, .of g0,rfl, .ref l,_,rfl, .int 0,_,rfl,rfl,_,F1,S2.set (d:= .int 0) (v:= .int 0) j (by simp only [Rep]),s1,hE l ls⟩)
theorem sub_oO (i:Nat) {x:Str} {p p4:Pos} {n:Nat} {σ:St} {F H:Hp} (S:StF X.K X.B₀ F H σ sd) (hs:sd[i]? =some (oO X.K m l ls dss)) (hx:PE X (.Name x p) (pD i)) (hi:PEd X sd ix (.val (.int (n:Int)))) (hm:m[n]? =some true) (hcnt:dss.length=m.count true) (hpx:oH ix):
  wE X (.Subscript (.Name x p) ix p4) σ H fun v H'=>∃ad F',v= .ref ad∧ls[(m.take n).count true]? =some ad∧StF X.K X.B₀ F' H' σ sd∧Same F F':=(pe_ix ix_list hx hX hpx).to (by
 obtain ⟨h1,h2,h3,h4,h5⟩:=tL S hs; refine ⟨.ref l,h1,(hi σ F H S).imp fun u H2 ⟨F2,S2,s2,q2⟩=> ?_⟩; simp only [ResOk,Rep] at q2; obtain ⟨g1,g2,g3,g4,g5⟩:=tL S2 hs; obtain ⟨ad,e1,e2⟩:=shp_t V.non V.ref (m:=m) (as:=ls) (t:=n) (by rw [g4.len]; exact hcnt) hm
 exact ⟨l,_,(n:Int), .ref ad,rfl,q2, .of g3,uQ e2,ad,F2,rfl,e1,S2,s2⟩)
theorem psd_clrAtO (i:Nat) {x:Str} {p p4 ap cp:Pos} {n:Nat} (hs:sd[i]? =some (oO X.K m l ls dss)) (hx:PE X (.Name x p) (pD i)) (hi:PEd X sd ix (.val (.int (n:Int)))) (hm:m[n]? =some true) (hcnt:dss.length=m.count true) (hpx:oH ix) (hE:E.nx (sd.set i (oO X.K m l ls (dss.set ((m.take n).count true) []))))
  (hmt:PE X (.Call (.Attribute (.Subscript (.Name x p) ix p4) "clear" ap) [] [] cp) (tBM0 X.K "list" rClear (wE X (.Subscript (.Name x p) ix p4))):=by exact pe_bm0 nZ PySem.F.slot_list_clear PySem.F.type_list_clear mt_clear hX)
  (hsw:swapsWith (.Call (.Attribute (.Subscript (.Name x p) ix p4) "clear" ap) [] [] cp) none pos.line X.env=pure false:=by rfl):
  PSd1 X sd (.Expr (.Call (.Attribute (.Subscript (.Name x p) ix p4) "clear" ap) [] [] cp) pos) E:= .mk fun σ F H S=>
 (ps_expr hmt hsw).to ((sub_oO i S hs hx hi hm hcnt hpx).imp fun v H1 ⟨ad,F1,ev,ha,S1,s1⟩=>by
  subst ev; obtain ⟨g1,g2,g3,g4,g5⟩:=tL S1 hs; obtain ⟨ms,xs,e1,e2,_⟩:=g4.get ha; have S2:=S1.wrO (es:=[]) (ys:=[]) hs ha .nil
  exact ⟨.inl ⟨rfl,_, .of e2⟩,ad,_,rfl,rfl,e2,_,F1,S2,s1,hE⟩)
theorem psd_tryN {body:List Stmt} {h₀:ExceptHandler} {hs:List ExceptHandler} (hb:PSd X sd body E) (hxe:X.xe=(fun _ _=>False):=by rfl):PSd1 X sd (.Try body (h₀::hs) [] [] pos) E:= .mk fun σ F H S pins s I=>by
 have h:=hb σ F H S pins s I; rw [hxe] at h; refine wpAny_Try_except (wpAny_mono h (fun f s1 q=> ?_) fun _ _ z=>z.elim); cases f with
 | next=>obtain ⟨σ',H',I',q⟩:=q; exact pss_nil pins s1 σ' H' (lft X F E) I' q
 | brk=>exact q
 | cont=>exact q
 | ret u=>exact q
theorem yT:∀ {cs:List Addr} {its:List Value},Vals (cs.map V.ref) its→its=cs.map Value.ref
 | [],_,h=>by cases h; rfl
 | a::cs,_,h=>by
  cases h with
  | cons r rv=>rw [yT rv,bD]; cases (show _=Value.ref a from r); rfl
theorem call_isinXT {ad C:Addr} {oe:Obj} {cs:List Addr} {k:Bool} (hp:(ad,oe)∈X.pn) (hc:oe.cls= .ref C) (xc:XCls X.K C) (hk:iC X.K (.ref C) (cs.map Value.ref)=some k):
  pJ X (.builtin "isinstance") (fun xs H Q=>∃tp,xs=[.ref ad, .ref tp]∧H tp=some (.tup (cs.map V.ref))∧Q (.bl k) H):=by
 intro pins s σ H xs us Q I r h; obtain ⟨tp,rfl,ht,q⟩:=h; obtain ⟨u1,u2,rfl,r1,r2⟩:=vals2 r; cases (show u1=Value.ref ad from r1); cases (show u2=Value.ref tp from r2); obtain ⟨_,its,rv,⟨cls,dd,data,sl⟩,g,c,⟨n,hd⟩,hdd⟩:=I.hok tp _ ht; simp only at c hd hdd; subst c hd hdd; have ei:=yT rv; subst ei; exact PySem.W.kia_tup (kitx_exc xc) I.kIn ⟨oe,(I.pin _ (bE _ hp)).1,hc⟩ g hk (by intro q; cases q) fun tk=>⟨.bl k,H,I.tok tk,rfl,q⟩
theorem pd_isinXT (j:Nat) {ad C C1 C2 C3 C4:Addr} {oe:Obj} {k:Bool} {y x1 x2 x3 x4:Str} {x0:Nat} {p p0 p1 p2 p3 p4 tp:Pos} (hp:(ad,oe)∈X.pn) (hc:oe.cls= .ref C) (xc:XCls X.K C) (hg:Gl X "isinstance") (hm:X.mg "isinstance"=none)
  (g1:Gl X x1) (m1:X.mg x1=some (.ref C1)) (g2:Gl X x2) (m2:X.mg x2=some (.ref C2)) (g3:Gl X x3) (m3:X.mg x3=some (.ref C3)) (g4:Gl X x4) (m4:X.mg x4=some (.ref C4)) (hk:iC X.K (.ref C) [.ref C1, .ref C2, .ref C3, .ref C4]=some k) (hj:sd[j]? =some (isA ad)) (hy:PE X (.Name y p0) (pD j))
  (d1:(x1==("__debug__":Str))=false:=by decide) (d2:(x2==("__debug__":Str))=false:=by decide) (d3:(x3==("__debug__":Str))=false:=by decide) (d4:(x4==("__debug__":Str))=false:=by decide)
  (s1:starEach [.Name x1 p1, .Name x2 p2, .Name x3 p3, .Name x4 p4] X.env=(false,eval (.Name x1 p1) X.env)::starEach [.Name x2 p2, .Name x3 p3, .Name x4 p4] X.env:=by rfl) (s2:starEach [.Name x2 p2, .Name x3 p3, .Name x4 p4] X.env=(false,eval (.Name x2 p2) X.env)::starEach [.Name x3 p3, .Name x4 p4] X.env:=by rfl)
  (s3:starEach [.Name x3 p3, .Name x4 p4] X.env=(false,eval (.Name x3 p3) X.env)::starEach [.Name x4 p4] X.env:=by rfl) (s4:starEach [.Name x4 p4] X.env=(false,eval (.Name x4 p4) X.env)::starEach [] X.env:=by rfl)
  (he:starEach (.Name y p0::[.Tuple [.Name x1 p1, .Name x2 p2, .Name x3 p3, .Name x4 p4] x0 tp]) X.env=(false,eval (.Name y p0) X.env)::starEach [.Tuple [.Name x1 p1, .Name x2 p2, .Name x3 p3, .Name x4 p4] x0 tp] X.env:=by rfl)
  (hpl:(backTo pos (starEach [.Tuple [.Name x1 p1, .Name x2 p2, .Name x3 p3, .Name x4 p4] x0 tp] X.env)).any (·.1)=false:=by rfl)
  (hs2:starEach [.Tuple [.Name x1 p1, .Name x2 p2, .Name x3 p3, .Name x4 p4] x0 tp] X.env=(false,eval (.Tuple [.Name x1 p1, .Name x2 p2, .Name x3 p3, .Name x4 p4] x0 tp) X.env)::starEach [] X.env:=by rfl):
  PEd X sd (.Call (.Name "isinstance" p) [.Name y p0, .Tuple [.Name x1 p1, .Name x2 p2, .Name x3 p3, .Name x4 p4] x0 tp] [] pos) (.val (.bl k)):= .mk fun σ F H S=>
 (pP (call_isinXT (cs:=[C1,C2,C3,C4]) hp hc xc hk) hg hm boot_isinstance (gR hy (gR (pe_tup (gR (rJ g1 m1 (v:= .ref C1) rfl d1) (gR (rJ g2 m2 (v:= .ref C2) rfl d2) (gR (rJ g3 m3 (v:= .ref C3) rfl d3) (gR (rJ g4 m4 (v:= .ref C4) rfl d4) pa_nil s4) s3) s2) s1)) pa_nil hs2) he) (by decide) (by decide) he hpl).to
  ⟨.ref ad,isA_get S hj,by show 4≤sizeLine; decide,fun q hq=>by
   obtain ⟨S2,s2⟩:=S.lay (o:= .tup [.ref C1, .ref C2, .ref C3, .ref C4]) hq trivial
   exact ⟨q,rfl,cS,_,S2,s2,by simp only [ResOk,Rep]⟩⟩
end
abbrev Wnt:=List (Option Int)
abbrev Exs:=List (List Int × Wnt)
def bw:Option Int→Option Int→Option (Option Int)
 | none,b=>some b
 | some x,none=>some (some x)
 | some x,some y=>if y=x then some (some x) else none
structure EOk (p:Int × Int) (E:Exs):Prop where
 fil:∀x∈E,x.1∈bC p
 len:∀x∈E,x.2.length=p.2.toNat
 wd:∀x∈E,∀b w,x.2.getD b none=some w→0≤w∧w<((2^p.1.toNat:Nat):Int)
structure GOk (n:Nat) (E:Exs) (t:Nat) (G:List (List Int) × List Wnt):Prop where
 nd:G.1.Nodup
 ln:G.1.length=G.2.length
 mem:∀f,f∈G.1↔∃i,i<t∧(E.getD i ([],[])).1=f
 wl:∀u∈G.2,u.length=n
 has:∀i,i<t→∀b w,b<n→(E.getD i ([],[])).2.getD b none=some w→(G.2.getD (G.1.idxOf (E.getD i ([],[])).1) []).getD b none=some w
 from_:∀f∈G.1,∀b w,b<n→(G.2.getD (G.1.idxOf f) []).getD b none=some w→∃i,i<t∧(E.getD i ([],[])).1=f∧(E.getD i ([],[])).2.getD b none=some w
theorem boot_veK:bootBuiltins "ValueError"=some (.type "ValueError"):=by boot_by_name
structure Xk34 (K:aB) (mg:Str→Option Value) (CN:Addr):Prop where
 xc:XCls K CN
 ex:nN K CN bmVE "ValueError.__new__"=true
 le:∃C:Addr,mg "LeastError"=some (.ref C)∧xX K (.ref CN) (.ref C)=some true
 nw:mg "NoWish"=some (.ref CN)∧cD K (.ref CN) (.ref CN)=some true
 ve:mg "ValueError"=none∧cD K (.ref CN) (.type "ValueError")=some true
 nc:∃C:Addr,mg "NoChange"=some (.ref C)∧cD K (.ref CN) (.ref C)=some false
 nt:∃C:Addr,mg "NoText"=some (.ref C)∧cD K (.ref CN) (.ref C)=some false
 nd:∃C:Addr,mg "NoWindow"=some (.ref C)∧cD K (.ref CN) (.ref C)=some false
 tg:∃C:Addr,mg "TooGreat"=some (.ref C)∧cD K (.ref CN) (.ref C)=some false
theorem kit_any4 {K:aB} {t a b c d:Value} (h1:cD K t a=some false) (h2:cD K t b=some false) (h3:cD K t c=some false) (h4:cD K t d=some false):iC K t [a,b,c,d]=some false:=by rw [iC.eq_def]; simp only [h1]; rw [iC.eq_def]; simp only [h2]; rw [iC.eq_def]; simp only [h3]; rw [iC.eq_def]; simp only [h4]; rw [iC.eq_def]
def choR:Option (List (List Int))→R
 | none=> .val .non
 | some c=> .own (c.map bG)
structure DOk (L:List (Nat × Int)) (T:List Nat × List (List Int)):Prop where
 nd:T.1.Nodup
 ln:T.1.length=T.2.length
 mem:∀b,b∈T.1↔∃w,(b,w)∈L
 val:∀b∈T.1,∀w,w∈T.2.getD (T.1.idxOf b) []↔(b,w)∈L
 le:T.2.length≤L.length∧∀l∈T.2,l.length≤L.length
theorem shp_set {α β:Type} (n:β) (g:α→β) (a:α):∀ {m:List Bool} {as:List α} {t:Nat},as.length=m.count true→m[t]? =some true→shp n g m (as.set ((m.take t).count true) a)=(shp n g m as).set t (g a)
 | [],_,t,_,h=>by simp at h
 | false::m,as,0,_,h=>by simp at h
 | true::m,[],0,h,_=>by simp at h
 | true::m,b::as,0,_,_=>rfl
 | false::m,as,t+1,hl,h=>by
  have hl:as.length=m.count true:=by simpa using hl
  have e:((false::m).take (t+1)).count true=(m.take t).count true:=by simp
  rw [e]; show n::shp n g m _=n::(shp n g m as).set t (g a); rw [shp_set n g a hl (by simpa using h)]
 | true::m,[],t+1,h,_=>by simp at h
 | true::m,b::as,t+1,hl,h=>by
  have hl:as.length=m.count true:=by simpa using hl
  have e:((true::m).take (t+1)).count true=(m.take t).count true+1:=by simp
  rw [e]; show g b::shp n g m _=g b::(shp n g m as).set t (g a); rw [← shp_set n g a hl (by simpa using h)]
abbrev Ch:=Nat × Nat × List Nat
def wcQ (row:List Nat) (c:Ch):List Nat:=row.take c.1++c.2.2++row.drop (c.1+c.2.1)
def prcI (L:List SK) (row:List Nat):Int:=sumI (prcL L row)
def endQ (p:Int × Int) (L:List SK) (row:List Nat) (o:Option (List Nat)):List (List Int):=(bC p).map fun ws=>match o with
 | none=>rowQ p L row ws
 | some l=>l.map fun j=>(rowQ p L row ws).getD j 0
def winB (row:List Nat) (c:Ch):Bool:=decide (1≤c.2.1∧c.1+c.2.1≤row.length)
def hoQ (p:Int × Int) (L:List SK) (row:List Nat) (c:Ch) (o:Option (List Nat)):Bool:=winB row c && (decide (prcI L c.2.2<prcI L ((row.drop c.1).take c.2.1)) && decide (endQ p L (wcQ row c) o=endQ p L row o))
def RowOk (L:List SK) (row:List Nat):Prop:=∀t∈row,t<L.length
structure Chn (p:Int × Int) (L:List SK) (o:Option (List Nat)) (row:List Nat) (cs:List Ch) (rs:List (List Nat)):Prop where
 len:rs.length=cs.length+1
 hd:rs.getD 0 []=row
 st:∀i,i<cs.length→hoQ p L (rs.getD i []) (cs.getD i (0,0,[])) o=true∧rs.getD (i+1) []=wcQ (rs.getD i []) (cs.getD i (0,0,[]))
 ok:∀r∈rs,RowOk L r∧r.length≤8+9 * cs.length
 pc:∀c∈cs,RowOk L c.2.2∧c.2.2.length≤9
theorem byKey {G K:Prop} (h:K→G) (k:K):G:=h k
theorem wO {a b:List Nat} {j:Nat} (ha:∀x∈a,x<j) (hb:∀x∈b,j≤x):∀ (fuel lo hi:Nat),hi - lo≤fuel→lo≤a.length→a.length≤hi→hi≤(a++b).length→fK.go (a++b).toArray j fuel lo hi=a.length
 | 0,lo,hi,h1,h2,h3,h4=>by unfold fK.go; omega
 | fuel+1,lo,hi,h1,h2,h3,h4=>by
  unfold fK.go
  by_cases hlt:lo<hi
  ·rw [if_pos hlt]; have hm:(lo+hi) / 2<hi:=by omega
   have hl:(lo+hi) / 2<(a++b).length:=by omega
   have hl2:(lo+hi) / 2<a.length+b.length:=by rw [← cR]; exact hl
   have e:(a++b).toArray.getD ((lo+hi) / 2) j=(a++b)[(lo+hi) / 2]:=by simp [Array.getD,hl2]
   dsimp only; rw [e]
   by_cases hc:(lo+hi) / 2<a.length
   ·have:(a++b)[(lo+hi) / 2]<j:=by rw [List.getElem_append_left hc]; exact ha _ (fI hc)
    rw [if_pos this]; exact wO ha hb fuel _ _ (by omega) (by omega) h3 h4
   ·have hb':j≤(a++b)[(lo+hi) / 2]:=by rw [List.getElem_append_right (by omega)]; exact hb _ (fI _)
    rw [if_neg (by omega)]; exact wO ha hb fuel _ _ (by omega) h2 (by omega) (by omega)
  ·rw [if_neg hlt]; omega
theorem mP {a b:List Nat} {j:Nat} (ha:∀x∈a,x<j) (hb:∀x∈b,j≤x):fK (a++b).toArray j=a.length:=by unfold fK; rw [aQ]; exact wO ha hb _ _ _ (by omega) (bO _) (by simp) (aN _)
theorem vK (j:Nat):∀ {xs:List Nat},xs.Pairwise (·<·)→∃a b,xs=a++b∧(∀x∈a,x<j)∧∀x∈b,j≤x
 | [],_=>⟨[],[],rfl,(fun x h=>by cases h),fun x h=>by cases h⟩
 | x::xs,h=>by
  obtain ⟨h1,h2⟩:=gD.mp h
  by_cases hx:x<j
  ·obtain ⟨a,b,e,ha,hb⟩:=vK j h2; refine ⟨x::a,b,by rw [e]; rfl,fun y hy=> ?_,hb⟩
   rcases aS.mp hy with rfl | hy
   ·exact hx
   ·exact ha y hy
  ·refine ⟨[],x::xs,rfl,(fun y h=>by cases h),fun y hy=> ?_⟩
   rcases aS.mp hy with rfl | hy
   ·omega
   ·have:=h1 y hy; omega
def qO (m:Nat) (p:SetTable.Probe):SetTable.Probe:=if p.more>0 then {p with j:=p.j+1,more:=p.more - 1} else {p with j:=(nL m p.i p.perturb).1,more:=cK m (nL m p.i p.perturb).1 - (nL m p.i p.perturb).1,i:=(nL m p.i p.perturb).1,perturb:=(nL m p.i p.perturb).2}
theorem adv_eq (t:SetTable) (p:SetTable.Probe):t.advance p=qO t.mask p:=rfl
def at0 (m i q:Nat):SetTable.Probe:={j:=i,more:=cK m i - i,i:=i,perturb:=q,dummy:=none}
def pr (m:Nat) (h:Int):Nat→SetTable.Probe
 | 0=>at0 m (cQ h%(m+1)) (cQ h)
 | n+1=>qO m (pr m h n)
theorem sI (m:Nat) (h:Int):∀n,(pr m h n).dummy=none
 | 0=>rfl
 | n+1=>by
  show (qO m (pr m h n)).dummy=none; unfold qO
  split
  ·exact sI m h n
  ·exact sI m h n
def lp (m:Nat) (h:Int):Nat→Nat
 | 0=>cQ h%(m+1)
 | k+1=>(lp m h k * 5+1+cQ h / 32^k / 32)%(m+1)
theorem run_le (m i:Nat):cK m i - i≤9:=by
 unfold cK
 split<;>omega
theorem sY (m:Nat) (h:Int) (n i q:Nat) (e:pr m h n=at0 m i q):∀r,r≤cK m i - i→pr m h (n+r)={at0 m i q with j:=i+r,more:=cK m i - i - r}
 | 0,_=>e
 | r+1,hr=>by have ih:=sY m h n i q e r (by omega); show qO m (pr m h (n+r))=_; rw [ih]; unfold qO; rw [if_pos (by show cK m i - i - r>0; omega)]; rfl
theorem pr_leap (m:Nat) (h:Int):∀k,∃n,n≤10 * k∧pr m h n=at0 m (lp m h k) (cQ h / 32^k)
 | 0=>⟨0,aN _,by show at0 _ _ _=_; rw [Nat.pow_zero,Nat.div_one]; rfl⟩
 | k+1=>by
  obtain ⟨n,hn,e⟩:=pr_leap m h k; have r9:=run_le m (lp m h k); have e2:=sY m h n _ _ e _ (aN _); refine ⟨n+(cK m (lp m h k) - lp m h k)+1,by omega, ?_⟩; show qO m (pr m h _)=_; rw [e2]; unfold qO; rw [if_neg (by show ¬ (cK m (lp m h k) - lp m h k - (cK m (lp m h k) - lp m h k)>0); omega)]; show at0 m _ _=at0 m _ _; have z:cQ h / 32^(k+1)=cQ h / 32^k / 32:=by rw [uF,pX]
  rw [z]; rfl
def itM (m:Nat):Nat→Nat→Nat
 | 0,i=>i
 | q+1,i=>(itM m q i * 5+1)%(m+1)
theorem bits_lt (h:Int):cQ h<2^64:=by unfold cQ; have h1:=cH h (show ((2:Int)^64)≠0 by decide); have h2:=bZ h (show (0:Int)<2^64 by decide); omega
theorem lp_late (m:Nat) (h:Int):∀q,lp m h (13+q)=itM m q (lp m h 13)
 | 0=>rfl
 | q+1=>by
  show (lp m h (13+q) * 5+1+cQ h / 32^(13+q) / 32)%(m+1)=(itM m q (lp m h 13) * 5+1)%(m+1); rw [lp_late m h q]
  have z:cQ h / 32^(13+q)=0:=by refine Nat.div_eq_of_lt (aP (bits_lt h) ?_); exact dO (show 2^64≤32^13 by decide) (qZ (by decide) (jN _ _))
  rw [z]
theorem lp_lt (m:Nat) (h:Int):∀k,lp m h k<m+1
 | 0=>tV _ (pW _)
 | k+1=>tV _ (pW _)
def okM (m:Nat):Prop:=m=7∨m=31∨m=63∨m=127∨m=255
def orb (m:Nat):Nat→List Nat→List Nat
 | 0,l=>l
 | n+1,l=>orb m n (((l.headD 0) * 5+1)%(m+1)::l)
theorem uP (m:Nat) (b:Nat):∀ (a i:Nat),itM m (b+a) i=itM m a (itM m b i)
 | 0,_=>rfl
 | a+1,i=>by show (itM m (b+a) i * 5+1)%(m+1)=(itM m a (itM m b i) * 5+1)%(m+1); rw [uP m b a i]
theorem orb_mem (m:Nat):∀ (n k:Nat) (l:List Nat),(∀x∈l,∃q,q≤k∧itM m q 0=x)→l.headD 0=itM m k 0→∀x∈orb m n l,∃q,q≤k+n∧itM m q 0=x
 | 0,k,l,h,_,x,hx=>h x hx
 | n+1,k,l,h,hd,x,hx=>by
  have e:((l.headD 0) * 5+1)%(m+1)=itM m (k+1) 0:=by rw [hd]; rfl
  obtain ⟨q,q1,q2⟩:=orb_mem m n (k+1) (((l.headD 0) * 5+1)%(m+1)::l) (fun y hy=>by
   rcases aS.mp hy with z | z
   ·exact ⟨k+1,aN _,by rw [z,e]⟩
   ·obtain ⟨q,q1,q2⟩:=h y z
    exact ⟨q,by omega,q2⟩) e x hx
  exact ⟨q,by omega,q2⟩
def covB (m:Nat):Bool:=((bR (m+1)).all fun e=>(orb m m [0]).contains e) && itM m (m+1) 0==0
theorem covAt {m:Nat} (h:covB m=true) {i e:Nat} (hi:i<m+1) (he:e<m+1):∃q,q<m+1∧itM m q i=e:=by
 simp only [covB,bN,beq_iff_eq] at h; obtain ⟨h1,h2⟩:=h
 have at0:∀e,e<m+1→∃q,q≤m∧itM m q 0=e:=fun e he=>by have:=fH.mp h1 e (bS.mpr he); obtain ⟨q,q1,q2⟩:=orb_mem m m 0 [0] (fun x hx=>⟨0,aN _,by rw [bU.mp hx]; rfl⟩) rfl e (List.contains_iff_mem.mp this); exact ⟨q,by omega,q2⟩
 obtain ⟨a,a1,a2⟩:=at0 i hi; obtain ⟨b,b1,b2⟩:=at0 e he
 by_cases z:a≤b
 ·refine ⟨b - a,by omega, ?_⟩; rw [← a2,← uP,show a+(b - a)=b by omega]; exact b2
 ·refine ⟨b+(m+1) - a,by omega, ?_⟩; rw [← a2,← uP,show a+(b+(m+1) - a)=(m+1)+b by omega,uP,h2]; exact b2
theorem cov {m:Nat} (hm:okM m) {i e:Nat} (hi:i<m+1) (he:e<m+1):∃q,q<m+1∧itM m q i=e:=by
 rcases hm with rfl | rfl | rfl | rfl | rfl
 ·exact covAt (by decide+kernel) hi he
 ·exact covAt (by decide+kernel) hi he
 ·exact covAt (by decide+kernel) hi he
 ·exact covAt (by decide+kernel) hi he
 ·exact covAt (by decide+kernel) hi he
theorem xH {m:Nat} (hm:okM m) (h:Int) {e:Nat} (he:e<m+1):∃k n,k<m+14∧lp m h k=e∧n≤10 * k∧(pr m h n).j=e:=by obtain ⟨q,hq,eq⟩:=cov hm (lp_lt m h 13) he; obtain ⟨n,hn,en⟩:=pr_leap m h (13+q); refine ⟨13+q,n,by omega,by rw [lp_late]; exact eq,hn, ?_⟩; rw [en,lp_late,eq]; rfl
def pbQ (m:Nat) (p:SetTable.Probe):Prop:=p.j≤m∧p.j+p.more≤m∧p.i<m+1
theorem pbQ_at {m:Nat} (i:Nat) (q:Nat) (d:Option Nat) (hi:i<m+1):pbQ m {j:=i,more:=cK m i - i,i:=i,perturb:=q,dummy:=d}:=by
 refine ⟨by show i≤m; omega, ?_,hi⟩; show i+(cK m i - i)≤m; unfold cK
 split<;>omega
theorem pbQ_adv {m:Nat} {p:SetTable.Probe} (h:pbQ m p):pbQ m (qO m p):=by
 obtain ⟨h1,h2,h3⟩:=h; unfold qO
 split
 ·exact ⟨by show p.j+1≤m; omega,by show p.j+1+(p.more - 1)≤m; omega,h3⟩
 ·exact pbQ_at _ _ _ (tV _ (pW _))
theorem pr_Q {m:Nat} (h:Int):∀n:Nat,pbQ m (pr m h n)
 | 0=>pbQ_at _ _ _ (tV _ (pW _))
 | n+1=>pbQ_adv (pr_Q h n)
abbrev eR:=Nat × List Key × Addr
structure TabT (hs:List Key→Int) (t:SetTable) (es:Array (Int × Value)) (T:List eR):Prop where
 om:okM t.mask
 pl:t.place=(T.map (·.1)).toArray
 en:es=(T.map fun r=>(hs r.2.1,Value.ref r.2.2)).toArray
 du:t.dummies= #[]
 rs:(T.map (·.1)).Pairwise (·<·)
 lt:∀r∈T,r.1≤t.mask
 rc:∀r∈T,∃n,(pr t.mask (hs r.2.1) n).j=r.1∧∀i,i<n→(pr t.mask (hs r.2.1) i).j∈T.map (·.1)
 kn:(T.map (·.2.1)).Nodup
section
variable {hs:List Key→Int} {t:SetTable} {es:Array (Int × Value)} {T:List eR}
theorem TabT.slot_live (X:TabT hs t es T) {A B:List eR} {r:eR} (e:T=A++r::B):t.slot r.1= .live A.length:=by
 have h:=X.rs; rw [e,aR,bD] at h; obtain ⟨_,h2,h3⟩:=dW.mp h
 have hb:=mP (a:=A.map (·.1)) (b:=r.1::B.map (·.1)) (j:=r.1) (fun x hx=>h3 x hx r.1 aO) fun x hx=>by
  rcases aS.mp hx with rfl | hx
  ·exact aN _
  ·exact dP ((gD.mp h2).1 x hx)
 unfold nM; rw [X.pl,e,aR,bD,hb]; simp
theorem TabT.slot_empty (X:TabT hs t es T) {j:Nat} (h:j∉T.map (·.1)):t.slot j= .empty:=by
 obtain ⟨a,b,e,ha,hb⟩:=vK j X.rs; have hbl:=mP ha hb; unfold nM; rw [X.pl,X.du,e,hbl]
 have hn:((a++b).toArray[a.length]? ==some j)=false:=by
  cases b with
  | nil=>simp
  | cons y b=>
   have:y≠j:=fun z=>h (by rw [e,← z]; simp)
   simp [this]
 dsimp only; rw [hn]; rfl
theorem mem_cutT {j:Nat} (h:j∈T.map (·.1)):∃A r B,T=A++r::B∧r.1=j:=by obtain ⟨r,hr,e⟩:=bB.mp h; obtain ⟨A,B,q⟩:=sP hr; exact ⟨A,r,B,q,e⟩
theorem TabT.same_row (X:TabT hs t es T) {r r':eR} (h:r∈T) (h':r'∈T) (e:r.1=r'.1):r=r':=by
 obtain ⟨A,B,q⟩:=sP h; have hp:=X.rs; rw [q,aR,bD] at hp; obtain ⟨_,h2,h3⟩:=dW.mp hp; rw [q] at h'
 rcases aY.mp h' with z | z
 ·have:=h3 r'.1 (bM z) r.1 aO; omega
 ·rcases aS.mp z with z | z
  ·exact z.symm
  ·have:=(gD.mp h2).1 r'.1 (bM z); omega
theorem go_spec (X:TabT hs t es T) {hashAt:Nat→Int} (hh:∀A r B,T=A++r::B→hashAt A.length=hs r.2.1) (h:Int):∀ (fuel n e:Nat),n≤e→e - n<fuel→(pr t.mask h e).j∉T.map (·.1)→
  ∃k,n≤k∧k≤e∧(∀i,n≤i→i<k→(pr t.mask h i).j∈T.map (·.1)∧∀r∈T,r.1=(pr t.mask h i).j→hs r.2.1≠h)∧
   (((pr t.mask h k).j∉T.map (·.1)∧dA.go t hashAt h fuel (pr t.mask h n)=some (.empty (pr t.mask h k).j none))∨
    ∃A r B,T=A++r::B∧r.1=(pr t.mask h k).j∧hs r.2.1=h∧dA.go t hashAt h fuel (pr t.mask h n)=some (.candidate (pr t.mask h k).j A.length (pr t.mask h (k+1))))
 | 0,n,e,h1,h2,h3=>by omega
 | fuel+1,n,e,h1,h2,h3=>by
  by_cases hm:(pr t.mask h n).j∈T.map (·.1)
  ·obtain ⟨A,r,B,q,er⟩:=mem_cutT hm; have hl:=X.slot_live q; rw [er] at hl
   have hlt:n<e:=by
    rcases cB h1 with z | z
    ·exact z
    ·rw [z] at hm; exact absurd hm h3
   by_cases hq:hs r.2.1=h
   ·refine ⟨n,aN _,h1,(fun i a b=>by omega), .inr ⟨A,r,B,q,er,hq, ?_⟩⟩; unfold dA.go; rw [hl]; simp only; rw [hh A r B q,hq]; simp; rfl
   ·obtain ⟨k,k1,k2,k3,k4⟩:=go_spec X hh h fuel (n+1) e hlt (by omega) h3; refine ⟨k,by omega,k2,fun i a b=> ?_, ?_⟩
    ·rcases cB a with z | z
     ·exact k3 i z b
     ·subst z; refine ⟨hm,fun r' hr' e'=> ?_⟩; have:r'=r:=X.same_row hr' (by rw [q]; simp) (e'.trans er.symm); rw [this]; exact hq
    ·have st:dA.go t hashAt h (fuel+1) (pr t.mask h n)=dA.go t hashAt h fuel (pr t.mask h (n+1)):=by
      conv=>lhs; unfold dA.go
      rw [hl]; simp only; rw [hh A r B q,if_neg (by simpa using hq)]; rfl
     rw [st]; exact k4
  ·refine ⟨n,aN _,h1,(fun i a b=>by omega), .inl ⟨hm, ?_⟩⟩; unfold dA.go; rw [X.slot_empty hm]; simp only; rw [sI]
theorem TabT.room (X:TabT hs t es T) (hl:T.length≤t.mask) (h:Int):∃e,e<10 * eJ t.mask∧(pr t.mask h e).j∉T.map (·.1)∧∀i,i<e→(pr t.mask h i).j∈T.map (·.1):=by
 have ex:∃j,j<t.mask+1∧j∉T.map (·.1):=by
  refine Classical.byContradiction fun hn=> ?_
  have all:∀j∈bR (t.mask+1),j∈T.map (·.1):=fun j hj=>Classical.byContradiction fun z=>hn ⟨j,bS.mp hj,z⟩
  have:=(lG (n:=t.mask+1)).length_le_of_subset all; rw [cN,aD] at this; omega
 obtain ⟨j,hj,hn⟩:=ex; obtain ⟨k,n,h1,h2,h3,h4⟩:=xH X.om h hj; have:∃e,(pr t.mask h e).j∉T.map (·.1):=⟨n,by rw [h4]; exact hn⟩
 obtain ⟨e,he,hmin⟩:∃e,(pr t.mask h e).j∉T.map (·.1)∧∀i,i<e→¬ (pr t.mask h i).j∉T.map (·.1):=by
  refine Classical.byContradiction fun z=> ?_
  have noall:∀m,∀i,i<m→¬ (pr t.mask h i).j∉T.map (·.1):=fun m=>by
   induction m with
   | zero=>intro i hi; omega
   | succ m ih=>
    intro i hi hc
    rcases cB (Nat.le_of_lt_succ hi) with q | q
    ·exact ih i q hc
    ·subst q; exact z ⟨i,hc,ih⟩
  obtain ⟨e,he⟩:=this; exact noall (e+1) e (lM _) he
 refine ⟨e, ?_,he,fun i hi=>Classical.byContradiction fun z=>hmin i hi z⟩; have:e≤n:=xT fun z=>hmin n z (by rw [h4]; exact hn)
 unfold eJ; omega
theorem TabT.ahead (X:TabT hs t es T) {r:eR} (hr:r∈T) {e:Nat} (he:(pr t.mask (hs r.2.1) e).j∉T.map (·.1)):∃n,n<e∧(pr t.mask (hs r.2.1) n).j=r.1:=by
 obtain ⟨n,h1,h2⟩:=X.rc r hr; refine ⟨n,Nat.lt_of_not_le fun z=> ?_,h1⟩
 rcases cB z with q | q
 ·exact he (h2 e q)
 ·subst q; exact he (by rw [h1]; exact bM hr)
theorem cutT {T:List eR} (h:(T.map (·.1)).Pairwise (·<·)) {j:Nat} (hj:j∉T.map (·.1)):∃A B,T=A++B∧(∀r∈A,r.1<j)∧∀r∈B,j<r.1:=by
 obtain ⟨a,b,e,ha,hb⟩:=vK j h; refine ⟨T.take a.length,T.drop a.length,(iS _ _).symm,fun r hr=> ?_,fun r hr=> ?_⟩
 ·have:r.1∈(T.take a.length).map (·.1):=bM hr; rw [oA,e,List.take_left] at this; exact ha _ this
 ·have h1:r.1∈(T.drop a.length).map (·.1):=bM hr; rw [lK,e,List.drop_left] at h1; have h2:=hb _ h1
  rcases cB h2 with q | q
  ·exact q
  ·exact absurd (bM (jF hr)) (by rw [q] at hj; exact hj)
theorem TabT.put (X:TabT hs t es T) {j:Nat} {k:List Key} {a:Addr} (hj:j∉T.map (·.1)) (hm:j≤t.mask) (hk:k∉T.map (·.2.1)) (hr:∃n,(pr t.mask (hs k) n).j=j∧∀i,i<n→(pr t.mask (hs k) i).j∈T.map (·.1)) (b:Bool):
  ∃A B,T=A++B∧TabT hs {(t.put j).1 with plain:=b} (iO es (t.put j).2 (hs k, .ref a)) (A++(j,k,a)::B):=by
 obtain ⟨A,B,e,hA,hB⟩:=cutT X.rs hj
 have hbl:fK t.place j=A.length:=by rw [X.pl,e,aR]; rw [mP (a:=A.map (·.1)) (b:=B.map (·.1)) (fun x hx=>by obtain ⟨r,hr,rfl⟩:=bB.mp hx; exact hA r hr) fun x hx=>by obtain ⟨r,hr,rfl⟩:=bB.mp hx; exact dP (hB r hr)]; rw [aD]
 have e1:(t.put j).2=A.length:=hbl
 have e2:(t.put j).1.place=((A++(j,k,a)::B).map (·.1)).toArray:=by show iO t.place (fK t.place j) j=_; rw [hbl,X.pl,insAt,e]; congr 1; rw [aR,aR,bD,List.take_left' (by rw [aD]),List.drop_left' (by rw [aD])]
 have e3:(t.put j).1.dummies= #[]:=by show (if SetTable.has t.dummies j then _ else t.dummies)= #[]; rw [X.du]; rfl
 have mem:∀ {x:Nat},x∈T.map (·.1)→x∈(A++(j,k,a)::B).map (·.1):=fun {x} hx=>by
  rw [e,aR] at hx; rw [aR,bD]
  rcases aY.mp hx with z | z
  ·exact bE _ z
  ·exact aG _ (aM _ z)
 have rows:∀ {r:eR},r∈A++(j,k,a)::B→r=(j,k,a)∨r∈T:=fun {r} hr=>by
  rcases aY.mp hr with z | z
  ·exact .inr (by rw [e]; exact bE _ z)
  ·rcases aS.mp z with z | z
   ·exact .inl z
   ·exact .inr (by rw [e]; exact aG _ z)
 refine ⟨A,B,e,X.om,e2, ?_,e3, ?_,fun r hr'=> ?_,fun r hr'=> ?_, ?_⟩
 ·rw [e1,X.en,insAt,e]; congr 1; rw [aR,aR,bD,List.take_left' (by rw [aD]),List.drop_left' (by rw [aD])]
 ·have hp:=X.rs; rw [e,aR] at hp; obtain ⟨p1,p2,p3⟩:=dW.mp hp; rw [aR,bD]; refine dW.mpr ⟨p1,gD.mpr ⟨fun x hx=> ?_,p2⟩,fun x hx y hy=> ?_⟩
  ·obtain ⟨r,hr,rfl⟩:=bB.mp hx; exact hB r hr
  ·obtain ⟨r,hrA,rfl⟩:=bB.mp hx
   rcases aS.mp hy with hy | hy
   ·rw [show y=j from hy]; exact hA r hrA
   ·exact p3 _ (bM hrA) y hy
 ·rcases rows hr' with rfl | z
  ·exact hm
  ·exact X.lt r z
 ·rcases rows hr' with rfl | z
  ·obtain ⟨n,q1,q2⟩:=hr; exact ⟨n,q1,fun i hi=>mem (q2 i hi)⟩
  ·obtain ⟨n,q1,q2⟩:=X.rc r z; exact ⟨n,q1,fun i hi=>mem (q2 i hi)⟩
 ·have hn:=X.kn; rw [e,aR] at hn hk; obtain ⟨n1,n2,n3⟩:=dF.mp hn; rw [aR,bD]; refine dF.mpr ⟨n1,cV.mpr ⟨fun z=>hk (aG _ z),n2⟩,fun x hx y hy=> ?_⟩
  rcases aS.mp hy with rfl | hy
  ·exact fun z=>hk (bE _ (z▸hx))
  ·exact n3 x hx y hy
def emp (ow:Array (Option Nat)) (j:Nat):Prop:=(ow.getD j (some 0)).isNone=true
theorem pr_next {m:Nat} {h:Int} {n c:Nat} (e:pr m h n=at0 m (lp m h c) (cQ h / 32^c)):pr m h (n+(cK m (lp m h c) - lp m h c)+1)=at0 m (lp m h (c+1)) (cQ h / 32^(c+1)):=by
 have e2:=sY m h n _ _ e _ (aN _); show qO m (pr m h _)=_; rw [e2]; unfold qO; rw [if_neg (by show ¬ (cK m (lp m h c) - lp m h c - (cK m (lp m h c) - lp m h c)>0); omega)]; show at0 m _ _=at0 m _ _; have z:cQ h / 32^(c+1)=cQ h / 32^c / 32:=by rw [uF,pX]
 rw [z]; rfl
theorem zW {m:Nat} {ow:Array (Option Nat)} (h:Int):∀ (fuel c n k:Nat),pr m h n=at0 m (lp m h c) (cQ h / 32^c)→c≤k→k - c<fuel→emp ow (lp m h k)→
  ∃j n',gP.free m ow fuel (lp m h c) (cQ h / 32^c)=some j∧n≤n'∧(pr m h n').j=j∧emp ow j∧∀i,n≤i→i<n'→¬ emp ow (pr m h i).j
 | 0,c,n,k,e,h1,h2,h3=>by omega
 | fuel+1,c,n,k,e,h1,h2,h3=>by
  have rl:lp m h c≤cK m (lp m h c):=by
   unfold cK
   split<;>omega
  cases hf:(bR (cK m (lp m h c)+1 - lp m h c)).find? fun x=>(ow.getD (lp m h c+x) (some 0)).isNone with
  | some x=>
   have hx:=List.find?_some hf; have hm:=bS.mp (List.mem_of_find?_eq_some hf); refine ⟨lp m h c+x,n+x, ?_,by omega, ?_,hx,fun i i1 i2 hc=> ?_⟩
   ·unfold gP.free; rw [hf]
   ·rw [sY m h n _ _ e x (by omega)]
   ·have er:=sY m h n _ _ e (i - n) (by omega); rw [show n+(i - n)=i by omega] at er; rw [er] at hc; obtain ⟨l1,l2,el,hl⟩:=List.find?_eq_some_iff_append.mp hf |>.2
    have hmem:(i - n)∈l1:=by
     have hp:(l1++x::l2).Pairwise (·<·):=el▸pF; have hin:(i - n)∈l1++x::l2:=el▸bS.mpr (by omega)
     rcases aY.mp hin with z | z
     ·exact z
     ·rcases aS.mp z with z | z
      ·omega
      ·have:=(gD.mp (dW.mp hp).2.1).1 _ z; omega
    have:=hl _ hmem; have hc':(ow.getD (lp m h c+(i - n)) (some 0)).isNone=true:=hc; simp only [hc',fM,aK] at this
  | none=>
   have hno:∀x,x<cK m (lp m h c)+1 - lp m h c→¬ emp ow (lp m h c+x):=fun x hx hc=>by have:=nJ.mp hf x (bS.mpr hx); exact this hc
   have hlt:c<k:=by
    rcases cB h1 with z | z
    ·exact z
    ·subst z; exact absurd h3 (by have:=hno 0 (by omega); rwa [Nat.add_zero] at this)
   obtain ⟨j,n',a1,a2,a3,a4,a5⟩:=zW h fuel (c+1) _ k (pr_next e) hlt (by omega) h3; refine ⟨j,n', ?_,by omega,a3,a4,fun i i1 i2 hc=> ?_⟩
   ·unfold gP.free; rw [hf]; have z:cQ h / 32^(c+1)=cQ h / 32^c / 32:=by rw [uF,pX]
    rw [z] at a1; exact a1
   ·by_cases hi:i<n+(cK m (lp m h c) - lp m h c)+1
    ·have er:=sY m h n _ _ e (i - n) (by omega); rw [show n+(i - n)=i by omega] at er; rw [er] at hc; exact hno (i - n) (by omega) hc
    ·exact a5 i (by omega) i2 hc
end
theorem emp_iff {ow:Array (Option Nat)} {j:Nat}:emp ow j↔ow[j]? =some none:=by
 unfold emp; rw [yJ]; cases h:ow[j]? with
 | none=>simp
 | some o=>cases o<;>simp
structure LI (m:Nat) (ow:Array (Option Nat)) (dn:List Int):Prop where
 sz:ow.size=m+1
 at_:∀ (x:Nat) (h:Int),dn[x]? =some h→∃j,ow[j]? =some (some x)∧∃n,(pr m h n).j=j∧∀i,i<n→ow[(pr m h i).j]? ≠some none
 lt:∀ (j x:Nat),ow[j]? =some (some x)→x<dn.length
 un:∀ (j j' x:Nat),ow[j]? =some (some x)→ow[j']? =some (some x)→j=j'
theorem LI.nil (m:Nat):LI m (xU (m+1) none) []:=by
 refine ⟨by simp,fun x h e=>by simp at e,fun j x e=> ?_,fun j j' x e _=> ?_⟩
 ·rw [Array.getElem?_replicate] at e
  split at e<;>simp at e
 ·rw [Array.getElem?_replicate] at e
  split at e<;>simp at e
theorem LI.free {m:Nat} {ow:Array (Option Nat)} {dn:List Int} (L:LI m ow dn) (hl:dn.length≤m):∃j,j<m+1∧ow[j]? =some none:=by
 refine Classical.byContradiction fun hn=> ?_
 have all:∀j,j<m+1→∃x,ow[j]? =some (some x):=fun j hj=>by
  have hs:j<ow.size:=by rw [L.sz]; exact hj
  cases h:ow[j]? with
  | none=>rw [yR] at h; omega
  | some o=>
   cases o with
   | none=>exact absurd ⟨j,hj,h⟩ hn
   | some x=>exact ⟨x,rfl⟩
 have nd:((bR (m+1)).map fun j=>((ow[j]?).getD none).getD 0).Nodup:=by rw [nK,dL]; refine List.Pairwise.imp_of_mem ?_ (nK.mp (lG (n:=m+1))); intro a b ha hb hab hc; obtain ⟨x,hx⟩:=all a (bS.mp ha); obtain ⟨y,hy⟩:=all b (bS.mp hb); rw [hx,hy] at hc; have hc:x=y:=hc; subst hc; exact hab (L.un a b x hx hy)
 have sub:∀y∈(bR (m+1)).map (fun j=>((ow[j]?).getD none).getD 0),y∈bR dn.length:=fun y hy=>by obtain ⟨j,hj,rfl⟩:=bB.mp hy; obtain ⟨x,hx⟩:=all j (bS.mp hj); rw [hx]; exact bS.mpr (L.lt j x hx)
 have:=nd.length_le_of_subset sub; rw [aD,cN,cN] at this; omega
def layS (m:Nat) (acc:Option (Array (Option Nat) × Nat)) (h:Int):Option (Array (Option Nat) × Nat):=do
 let (owner,k) ← acc
 let j ← gP.free m owner (eJ m) (cQ h%(m+1)) (cQ h)
 pure (owner.setIfInBounds j (some k),k+1)
theorem LI.step {m:Nat} (hm:okM m) {ow:Array (Option Nat)} {dn:List Int} (L:LI m ow dn) (hl:dn.length≤m) (h:Int):∃ow',layS m (some (ow,dn.length)) h=some (ow',(dn++[h]).length)∧LI m ow' (dn++[h]):=by
 obtain ⟨e,he,h0⟩:=L.free hl; obtain ⟨k,n,k1,k2,k3,k4⟩:=xH hm h he; obtain ⟨j,n',f1,f2,f3,f4,f5⟩:=zW (ow:=ow) h (eJ m) 0 0 k (by show at0 _ _ _=_; rw [Nat.pow_zero,Nat.div_one]; rfl) (bO _) (by unfold eJ; omega) (by rw [k2]; exact emp_iff.mpr h0); rw [Nat.pow_zero,Nat.div_one] at f1; have hj:=emp_iff.mp f4
 have hjs:j<ow.size:=by
  rcases kK j ow.size with z | z
  ·exact z
  ·rw [jY z] at hj; cases hj
 have g:∀i,(ow.setIfInBounds j (some dn.length))[i]? =if j=i then some (some dn.length) else ow[i]? :=fun i=>by
  rw [xV]
  by_cases z:j=i
  ·rw [if_pos z,if_pos z,if_pos (z▸hjs)]
  ·rw [if_neg z,if_neg z]
 refine ⟨ow.setIfInBounds j (some dn.length), ?_,by simpa using L.sz,fun x h' hx=> ?_,fun i x hi=> ?_,fun i i' x hi hi'=> ?_⟩
 ·unfold layS; have f1':gP.free m ow (eJ m) (cQ h%(m+1)) (cQ h)=some j:=f1; simp only [Option.bind_eq_bind,Option.bind_some,f1',Option.pure_def]; simp
 ·rcases kK x dn.length with z | z
  ·rw [gS z] at hx; obtain ⟨i,i1,n1,i2,i3⟩:=L.at_ x h' hx; refine ⟨i, ?_,n1,i2,fun a ha=> ?_⟩
   ·rw [g,if_neg (fun q=>by rw [q] at hj; rw [hj] at i1; cases i1)]; exact i1
   ·rw [g]
    split
    ·simp
    ·exact i3 a ha
  ·rw [fN z] at hx
   have:x=dn.length:=by
    rcases cB z with q | q
    ·rw [dN (by simp; omega)] at hx; cases hx
    ·exact q.symm
   subst this; rw [pY] at hx; have:h=h':=by simpa using hx
   subst this; refine ⟨j,by rw [g,if_pos rfl],n',f3,fun a ha=> ?_⟩; rw [g]
   split
   ·simp
   ·exact fun q=>f5 a (bO _) ha (emp_iff.mpr q)
 ·rw [g] at hi; rw [cR]
  split at hi
  ·have:dn.length=x:=by simpa using hi
   simp; omega
  ·have:=L.lt i x hi; omega
 ·rw [g] at hi hi'
  split at hi
  ·rename_i q1
   split at hi'
   ·rename_i q2; rw [← q1,← q2]
   ·have e1:dn.length=x:=by simpa using hi
    have:=L.lt i' x hi'; omega
  ·split at hi'
   ·have e1:dn.length=x:=by simpa using hi'
    have:=L.lt i x hi; omega
   ·exact L.un i i' x hi hi'
theorem LI.fold {m:Nat} (hm:okM m):∀ (hl dn:List Int) (ow:Array (Option Nat)),LI m ow dn→(dn++hl).length≤m+1→∃ow',hl.foldl (layS m) (some (ow,dn.length))=some (ow',(dn++hl).length)∧LI m ow' (dn++hl)
 | [],dn,ow,L,_=>⟨ow,by simp,by simpa using L⟩
 | h::hl,dn,ow,L,hlen=>by obtain ⟨ow1,e1,L1⟩:=L.step hm (by simp at hlen; omega) h; obtain ⟨ow2,e2,L2'⟩:=LI.fold hm hl (dn++[h]) ow1 L1 (by simpa using hlen); refine ⟨ow2, ?_,by simpa using L2'⟩; rw [List.foldl_cons,e1,e2]; simp
theorem lay_clean {m:Nat} (hm:okM m) (hl:List Int) (h:hl.length≤m+1):∃ow,gP m hl.toArray=some ow∧LI m ow hl:=by
 obtain ⟨ow,e,L⟩:=LI.fold hm hl [] _ (LI.nil m) (by simpa using h); refine ⟨ow, ?_,by simpa using L⟩; have e':hl.foldl (layS m) (some (xU (m+1) none,0))=some (ow,hl.length):=by simpa using e
 unfold gP; rw [List.foldl_toArray]; show mS (·.1) (hl.foldl (layS m) (some (xU (m+1) none,0)))=some ow; rw [e']; rfl
def gT (hs:List Key→Int) (r:eR):Int × Value:=(hs r.2.1,Value.ref r.2.2)
def oR (T:List eR) (p:Nat × Nat):eR:=(p.1,(T.getD p.2 (0,[],0)).2)
theorem fm_rows (hs:List Key→Int) (T:List eR):∀ (lv:List (Nat × Nat)),(∀p∈lv,p.2<T.length)→(lv.map (·.2)).filterMap (fun i=>(T.map (gT hs))[i]?)=(lv.map (oR T)).map (gT hs)
 | [],_=>rfl
 | p::lv,h=>by have hp:=h p aO; rw [bD,eZ,cI,hR hp]; dsimp only [Option.map_some]; rw [fm_rows hs T lv fun q hq=>h q (aM _ hq),bD,bD]; congr 1; unfold gT oR; simp [dD,hp]
section
variable {hs:List Key→Int} {t:SetTable} {es:Array (Int × Value)} {T:List eR}
theorem laid_ok {m:Nat} (hm:okM m) (hl:T.length≤m+1) (kn:(T.map (·.2.1)).Nodup) (fg mv:Nat) (ld pn:Bool):
  ∃ (t':SetTable) (ord:Array Nat) (T':List eR),SetTable.laid m fg mv ld pn ((T.map (gT hs)).toArray.map (·.1))=some (t',ord)∧t'.mask=m∧t'.moves=mv∧t'.led=ld∧t'.plain=pn∧
   TabT hs t' (ord.filterMap ((T.map (gT hs)).toArray[·]?)) T'∧T'.length=T.length∧(T'.map (·.2)).Perm (T.map (·.2)):=by
 have eh:(T.map (gT hs)).toArray.map (·.1)=(T.map fun r=>hs r.2.1).toArray:=by rw [List.map_toArray,bX]; rfl
 obtain ⟨ow,e,L⟩:=lay_clean hm (T.map fun r=>hs r.2.1) (by rw [aD]; exact hl); obtain ⟨lv,hlv⟩:∃lv,lv=(bR (m+1)).filterMap fun j=>(ow.getD j none).map (j,·):=⟨_,rfl⟩
 have gd:∀j,ow.getD j none=(ow[j]?).getD none:=fun j=>yJ ..
 have memlv:∀p:Nat × Nat,p∈lv↔ow[p.1]? =some (some p.2):=fun p=>by
  rw [hlv,nH]
  constructor
  ·rintro ⟨j,hj,q⟩; rw [gd] at q; cases h:ow[j]? with
   | none=>rw [h] at q; simp at q
   | some o=>
    rw [h] at q; cases o with
    | none=>simp at q
    | some x=>
     have:(j,x)=p:=by simpa using q
     rw [← this]; exact h
  ·intro h
   have hs':p.1<ow.size:=by
    rcases kK p.1 ow.size with z | z
    ·exact z
    ·rw [jY z] at h; cases h
   refine ⟨p.1,bS.mpr (by rw [← L.sz]; exact hs'), ?_⟩; rw [gd,h]; rfl
 have lt2:∀p∈lv,p.2<T.length:=fun p hp=>by
  have:=L.lt p.1 p.2 ((memlv p).mp hp)
  rwa [aD] at this
 have rs:(lv.map (·.1)).Pairwise (·<·):=by rw [hlv,dL]; refine List.Pairwise.filterMap _ ?_ (pF (n:=m+1)); intro a b hab x hx y hy; obtain ⟨u,_,e1⟩:=iF.mp hx; obtain ⟨v,_,e2⟩:=iF.mp hy; rw [← e1,← e2]; exact hab
 have nd2:(lv.map (·.2)).Nodup:=by rw [nK,dL]; have:=dL.mp rs; refine List.Pairwise.imp_of_mem ?_ this; intro a b ha hb hab hc; have h1:=(memlv a).mp ha; have h2:=(memlv b).mp hb; rw [hc] at h1; have:=L.un a.1 b.1 b.2 h1 h2; omega
 have perm:(lv.map (·.2)).Perm (bR T.length):=by
  refine (jG nd2 lG).mpr fun x=>⟨fun hx=> ?_,fun hx=> ?_⟩
  ·obtain ⟨p,hp,rfl⟩:=bB.mp hx; exact bS.mpr (lt2 p hp)
  ·have hx':=bS.mp hx; obtain ⟨j,hj,_⟩:=L.at_ x (hs (T[x]).2.1) (by rw [cI,hR hx']; rfl); exact bB.mpr ⟨(j,x),(memlv (j,x)).mpr hj,rfl⟩
 have len:(lv.map (oR T)).length=T.length:=by rw [aD,← aD (f:=(·.2)) (as:=lv),perm.length_eq,cN]
 have fst:(lv.map (oR T)).map (·.1)=lv.map (·.1):=by rw [bX]; rfl
 have snd:((lv.map (oR T)).map (·.2)).Perm (T.map (·.2)):=by
  have e1:(lv.map (oR T)).map (·.2)=(lv.map (·.2)).map fun i=>(T.getD i (0,[],0)).2:=by rw [bX,bX]; rfl
  rw [e1]; refine (perm.map _).trans (List.Perm.of_eq ?_); apply List.ext_getElem
  ·simp
  ·intro i h1 h2; have hi:i<T.length:=by simpa using h2
   simp [dD,hi]
 refine ⟨{mask:=m,place:=(lv.map (·.1)).toArray,dummies:= #[],finger:=fg,led:=ld,moves:=mv,plain:=pn},(lv.map (·.2)).toArray,lv.map (oR T), ?_,rfl,rfl,rfl,rfl,⟨hm, ?_, ?_,rfl, ?_,fun r hr=> ?_,fun r hr=> ?_, ?_⟩,len,snd⟩
 ·unfold SetTable.laid; rw [eh,e]; simp only [Option.bind_eq_bind,Option.bind_some,Option.pure_def]; rw [← hlv]
 ·show (lv.map (·.1)).toArray=_; rw [fst]
 ·have:=fm_rows hs T lv lt2; show Array.filterMap _ (lv.map (·.2)).toArray=((lv.map (oR T)).map (gT hs)).toArray; rw [← this]; simp
 ·rw [fst]; exact rs
 ·obtain ⟨p,hp,rfl⟩:=bB.mp hr; have h:=(memlv p).mp hp
  have hs':p.1<ow.size:=by
   rcases kK p.1 ow.size with z | z
   ·exact z
   ·rw [jY z] at h; cases h
  rw [L.sz] at hs'; show p.1≤m; omega
 ·obtain ⟨p,hp,rfl⟩:=bB.mp hr; have h:=(memlv p).mp hp; have hi:=lt2 p hp; have ek:(oR T p).2.1=(T[p.2]).2.1:=by unfold oR; simp [dD,hi]
  obtain ⟨j,hj,n,n1,n2⟩:=L.at_ p.2 (hs (T[p.2]).2.1) (by rw [cI,hR hi]; rfl); have:j=p.1:=L.un j p.1 p.2 hj h; subst this; rw [ek]; refine ⟨n,n1,fun i hin=> ?_⟩; have occ:=n2 i hin; show (pr m (hs (T[p.2]).2.1) i).j∈_; rw [fst]; have hq:=(pr_Q (m:=m) (hs (T[p.2]).2.1) i).1; have hb:(pr m (hs (T[p.2]).2.1) i).j<ow.size:=by rw [L.sz]; omega
  cases ho:ow[(pr m (hs (T[p.2]).2.1) i).j]? with
  | none=>rw [yR] at ho; omega
  | some o=>
   cases o with
   | none=>exact absurd ho occ
   | some x=>exact bB.mpr ⟨(_,x),(memlv (_,x)).mpr ho,rfl⟩
 ·have e1:(lv.map (oR T)).map (·.2.1)=((lv.map (oR T)).map (·.2)).map (·.1):=by simp only [bX]; rfl
  have e2:T.map (·.2.1)=(T.map (·.2)).map (·.1):=by rw [bX]; rfl
  rw [e1]; rw [e2] at kn; exact (snd.map _).nodup_iff.mpr kn
end
section
variable {prog:Program} {w:World} {A:Around} {E:Value→Shared→Prop} {s:Shared}
abbrev tK (prog:Program) (w:World):=tupleKind (gZ prog w)
theorem class_scalar {d:Nat} {v:Value} (h:carriedByValue v=true):ofAClassStatement d v=pure false:=by cases v<;>first | rfl | (cases d<;>rfl) | (simp [carriedByValue] at h)
theorem classT {x:Addr} {k:List Key} {Q:Bool→Shared→Prop} (hx:(tK prog w).is s.heap k x) (h:Q false s):wpAny (model prog w) A (ofAClassStatement 8 (.ref x)) Q E s:=by
 have hk:IsTupleKey (gZ prog w) s.heap k x:=hx; have hT:=hk.typeIs; obtain ⟨o,items,n,ho,hc,hd,hi⟩:=hk; unfold ofAClassStatement; refine wpAny_bind (wpAny_typeOf hT ?_); dsimp only; refine wpAny_bind (wpAny_pure ?_); simp only [fM,aK,if_false]; refine wpAny_bind (wpAny_seqItems ho hd ?_); dsimp only; refine wpAny_bind ?_; rw [← nA]; refine wpAny_forIn_list _ (fun rest r s'=>r.1=none∧s'=s∧∀v∈rest,carriedByValue v=true) _ ?_ ?_ _ _ ⟨rfl,rfl,hi.byValue⟩
 ·rintro v rest r s' ⟨hr,rfl,hall⟩; rw [class_scalar (hall v aO)]; refine wpAny_bind (wpAny_pure ?_); simp only [aK,if_false]; exact wpAny_pure ⟨rfl,rfl,fun u hu'=>hall u (aM _ hu')⟩
 ·rintro ⟨r1,r2⟩ s' ⟨hr,rfl,_⟩; simp only at hr; subst hr; exact wpAny_pure h
theorem seenT {x:Addr} {k:List Key} {stored:List Value} {Q:Bool→Shared→Prop} (hx:(tK prog w).is s.heap k x) (hs:∀v∈stored,∃k' b,v= .ref b∧(tK prog w).is s.heap k' b) (h:Q false s):wpAny (model prog w) A (searchCouldBeSeen (.ref x) stored) Q E s:=by
 unfold searchCouldBeSeen; refine wpAny_bind ?_; refine wpAny_forIn_list _ (fun rest r s'=>r.1=none∧s'=s∧∀v∈rest,∃k' b,v= .ref b∧(tK prog w).is s.heap k' b) _ ?_ ?_ _ _ ⟨rfl,rfl,hs⟩
 ·rintro v rest r s' ⟨hr,rfl,hall⟩; obtain ⟨k',b,rfl,hb⟩:=hall v aO; have nx:∀u∈rest,∃k' b,u= .ref b∧(tK prog w).is s'.heap k' b:=fun u hu=>hall u (aM _ hu)
  dsimp only
  by_cases hxb:(x==b)=true
  ·rw [hxb]; simp only [Bool.true_or,if_true]; exact wpAny_pure ⟨rfl,rfl,nx⟩
  ·have hxb:(x==b)=false:=by simpa using hxb
   rw [hxb]; simp only [carriedByValue,jH,Bool.or_self,aK,if_false]; refine wpAny_bind ((tK prog w).quiet hx ?_); simp only [fM,aK,if_false]; refine wpAny_bind ((tK prog w).quiet hb ?_); simp only [fM,aK,if_false]; refine wpAny_bind (classT hx ?_); simp only [aK,if_false]; refine wpAny_bind (classT hb ?_); simp only [aK,if_false]; exact wpAny_pure ⟨rfl,rfl,nx⟩
 ·rintro ⟨r1,r2⟩ s' ⟨hr,rfl,_⟩; simp only at hr; subst hr; exact wpAny_pure h
theorem searchT {a x:Addr} {o:Obj} {kx:List Key} {T:List eR} {t:SetTable} {es:Array (Int × Value)} {ep:Nat} {Q:SetFound→Shared→Prop} (hu:A.units<cLine) (ho:s.heap.get? a=some o) (hd:o.data= .set es ep t) (X:TabT (tK prog w).hash t es T) (fit:t.fits es.size=true)
  (hx:(tK prog w).is s.heap kx x) (hk:∀r∈T,(tK prog w).is s.heap r.2.1 r.2.2) {e:Nat} (he:(pr t.mask ((tK prog w).hash kx) e).j∉T.map (·.1)) (hl:∀i,i<e→(pr t.mask ((tK prog w).hash kx) i).j∈T.map (·.1)) (h10:e<10 * eJ t.mask)
  (q1:kx∈T.map (·.2.1)→Q (.there none) s) (q2:kx∉T.map (·.2.1)→Q (.free (pr t.mask ((tK prog w).hash kx) e).j false) s):∀ (fuel n:Nat) (stand:Option SetTable.Probe),stand.getD (t.probeStart ((tK prog w).hash kx))=pr t.mask ((tK prog w).hash kx) n→n≤e→e - n<fuel→(∀r∈T,r.2.1=kx→∃i,n≤i∧i<e∧(pr t.mask ((tK prog w).hash kx) i).j=r.1)→
   wpAny (model prog w) A (setSearchFrom a (.ref x) ((tK prog w).hash kx) true fuel stand) Q E s
 | 0,n,stand,e1,h1,h2,h3=>by omega
 | fuel+1,n,stand,e1,h1,h2,h3=>by
  unfold setSearchFrom; refine wpAny_bind (wpAny_setState_of ho hd fit ?_); dsimp only
  have gw:t.gaveWay=false:=by
   unfold SetTable.gaveWay
   rcases X.om with q | q | q | q | q<;>rw [q]<;>rfl
  rw [gw]; simp only [aK,if_false]
  have hAt:∀B r C,T=B++r::C→es[B.length]? =some ((tK prog w).hash r.2.1,Value.ref r.2.2):=fun B r C q=>by rw [X.en,q]; simp
  rw [e1]; generalize hf:t.probe _ ((tK prog w).hash kx) (pr t.mask ((tK prog w).hash kx) n)=met; obtain ⟨F,hF,hf⟩:∃F:Nat→Int,(∀i,F i=((es[i]?).map (·.1)).getD 0)∧t.probe F ((tK prog w).hash kx) (pr t.mask ((tK prog w).hash kx) n)=met:=⟨_,fun i=>rfl,hf⟩; unfold dA at hf
  obtain ⟨k,k1,k2,k3,k4⟩:=go_spec X (hashAt:=F) (fun B r C q=>by
   have:=hAt B r C q; rw [hF,this]
   rfl) ((tK prog w).hash kx) (10 * eJ t.mask) n e h1 (by omega) he
  rcases k4 with ⟨hm,hg⟩ | ⟨B,r,C,eT,hj,hh,hg⟩
  ·rw [hg] at hf; subst hf; dsimp only
   have ke:k=e:=by
    rcases cB k2 with z | z
    ·exact absurd (hl k z) hm
    ·exact z
   subst ke; refine wpAny_pure (q2 fun hc=> ?_); obtain ⟨r,hr,er⟩:=bB.mp hc; obtain ⟨i,i1,i2,i3⟩:=h3 r hr er; exact (k3 i i1 i2).2 r hr i3.symm (by rw [er])
  ·rw [hg] at hf; subst hf; dsimp only; have hr:r∈T:=by rw [eT]; simp
   have hei:=hAt B r C eT; have hsl:=X.slot_live eT; rw [hj] at hsl; have sm:t.sameMemory t.moves t.mask=some true:=by unfold SetTable.sameMemory; simp
   have hke:k<e:=by
    rcases cB k2 with z | z
    ·exact z
    ·subst z; exact absurd (hj▸bM hr) he
   cases hled:t.led with
   | true=>
    simp only [fM,aK,if_false]; rw [hei]; dsimp only; refine wpAny_bind (wpAny_holding ((tK prog w).eqBool hu (hk r hr) hx ?_)); refine wpAny_bind (wpAny_setState_of ho hd fit ?_); dsimp only
    by_cases hkx:r.2.1=kx
    ·rw [decide_eq_true hkx]; simp only [Bool.and_self,if_true]; exact wpAny_pure (q1 (hkx▸bM hr))
    ·rw [decide_eq_false hkx]; simp only [qS,aK,if_false]; rw [sm]; dsimp only; rw [if_pos rfl,hsl]; dsimp only; rw [hei]; dsimp only; refine wpAny_bind (wpAny_isSame_ref_self ?_); refine wpAny_bind (wpAny_pure ?_); simp only [if_true]; refine searchT hu ho hd X fit hx hk he hl h10 q1 q2 fuel (k+1) (some _) rfl (by omega) (by omega) fun r' hr' e'=> ?_
     obtain ⟨i,i1,i2,i3⟩:=h3 r' hr' e'; refine ⟨i, ?_,i2,i3⟩
     rcases kK i k with z | z
     ·exact absurd (by rw [e']) ((k3 i i1 z).2 r' hr' i3.symm)
     ·rcases cB z with z | z
      ·exact z
      ·exfalso; subst z; have:r'=r:=X.same_row hr' hr (i3.symm.trans hj.symm); rw [this] at e'; exact hkx e'
   | false=>
    simp only [jZ,if_true]; refine wpAny_bind (seenT hx (fun v hv=> ?_) ?_)
    ·obtain ⟨p,hp,rfl⟩:=bB.mp hv
     have hp':p∈es.toList:=by have:=jC.mp hp; exact jC.mpr (Array.mem_filter.mp this).1
     rw [X.en] at hp'; obtain ⟨r2,h2',rfl⟩:=bB.mp (by simpa using hp':p∈T.map fun r=>((tK prog w).hash r.2.1,Value.ref r.2.2)); exact ⟨r2.2.1,r2.2.2,rfl,hk r2 h2'⟩
    simp only [aK,if_false]; rw [hei]; dsimp only; refine wpAny_bind (wpAny_holding ((tK prog w).eqBool hu (hk r hr) hx ?_)); refine wpAny_bind (wpAny_setState_of ho hd fit ?_); dsimp only
    by_cases hkx:r.2.1=kx
    ·rw [decide_eq_true hkx]; simp only [Bool.and_self,if_true]; exact wpAny_pure (q1 (hkx▸bM hr))
    ·rw [decide_eq_false hkx]; simp only [qS,aK,if_false]; rw [sm]; dsimp only; rw [if_pos rfl,hsl]; dsimp only; rw [hei]; dsimp only; refine wpAny_bind (wpAny_isSame_ref_self ?_); refine wpAny_bind (wpAny_pure ?_); simp only [if_true]; refine searchT hu ho hd X fit hx hk he hl h10 q1 q2 fuel (k+1) (some _) rfl (by omega) (by omega) fun r' hr' e'=> ?_
     obtain ⟨i,i1,i2,i3⟩:=h3 r' hr' e'; refine ⟨i, ?_,i2,i3⟩
     rcases kK i k with z | z
     ·exact absurd (by rw [e']) ((k3 i i1 z).2 r' hr' i3.symm)
     ·rcases cB z with z | z
      ·exact z
      ·exfalso; subst z; have:r'=r:=X.same_row hr' hr (i3.symm.trans hj.symm); rw [this] at e'; exact hkx e'
def hbvB:Value→Bool
 | .none | .bool _ | .int .. =>true
 | .float bits _=>(Float64.hash? bits).isSome
 | _=>false
theorem hbv_scalar (d:Nat) {v:Value} (h:carriedByValue v=true):hashByValue d v=pure (hbvB v):=by cases v<;>first | rfl | (cases d<;>rfl) | (simp [carriedByValue] at h)
theorem int_items {ks:List Key} {vs:List Value} (h:ItemsAre (gZ prog w) ks vs):(∀k∈ks,∃i,k=Sum.inl i)→∀v∈vs,∃i t,v= .int i t:=by
 induction h with
 | nil=>intro _ v hv; simp at hv
 | @cons k v ks vs h1 _ ih=>
  intro hk u hu
  rcases aS.mp hu with rfl | hu
  ·obtain ⟨i,rfl⟩:=hk k aO
   rcases gJ (show vX (Sum.inl i) u=true from h1) with ⟨i',t,e,rfl⟩ | ⟨x,t,e,_⟩
   ·exact ⟨i',t,rfl⟩
   ·cases e
  ·exact ih (fun z hz=>hk z (aM _ hz)) u hu
theorem hbvT {x:Addr} {k:List Key} {Q:Bool→Shared→Prop} (hx:(tK prog w).is s.heap k x) (h:∀b,((∀z∈k,∃i,z=Sum.inl i)→b=true)→Q b s):wpAny (model prog w) A (hashByValue 8 (.ref x)) Q E s:=by
 have hk:IsTupleKey (gZ prog w) s.heap k x:=hx; have hT:=hk.typeIs; obtain ⟨o,items,n,ho,hc,hd,hi⟩:=hk; unfold hashByValue; refine wpAny_bind (wpAny_specialOf hT F.slot_tuple_hash.lookup ?_); dsimp only; refine wpAny_bind (wpAny_seqItems ho hd ?_); dsimp only [Option.getD]; refine wpAny_bind ?_; rw [← nA]; have h0:(∀z∈k,∃i,z=Sum.inl i)→∀v∈items.toList,∃i t,v=Value.int i t:=int_items hi; refine wpAny_forIn_list _ (fun rest r s'=>s'=s∧r.1=none∧(∀v∈rest,carriedByValue v=true)∧((∀z∈k,∃i,z=Sum.inl i)→∀v∈rest,∃i t,v=Value.int i t)) _ ?_ ?_ _ _ ⟨rfl,rfl,hi.byValue,h0⟩
 ·rintro v rest r s' ⟨rfl,hr,hall,hint⟩; have hb:=hbv_scalar 7 (hall v aO)
  have hb2:(∀z∈k,∃i,z=Sum.inl i)→hbvB v=true:=fun z=>by obtain ⟨i,t,rfl⟩:=hint z v aO; rfl
  generalize hbvB v=b at hb hb2; rw [hb]; refine wpAny_bind (wpAny_pure ?_); cases b with
  | true=>simp only [fM,aK,if_false]; exact wpAny_pure ⟨rfl,rfl,fun u hu'=>hall u (aM _ hu'),fun z u hu'=>hint z u (aM _ hu')⟩
  | false=>simp only [jZ,if_true]; exact wpAny_pure (wpAny_pure (h _ hb2))
 ·rintro ⟨r1,r2⟩ s' ⟨rfl,hr,_⟩; simp only at hr; subst hr; exact wpAny_pure (h _ fun _=>rfl)
def SzT (m n:Nat):Prop:=(m=7→n≤4)∧(m=31→n≤18)∧m≠63∧m≠255
theorem SzT.fit {m n:Nat} (z:SzT m n) (om:okM m) (h:n≤72):n≤m:=by
 obtain ⟨s1,s2,s3,s4⟩:=z
 rcases om with q | q | q | q | q
 ·have:=s1 q; omega
 ·have:=s2 q; omega
 ·exact absurd q s3
 ·omega
 ·exact absurd q s4
def SetT (prog:Program) (w:World) (ip:Bool) (o:Obj) (T:List eR):Prop:=∃ (es:Array (Int × Value)) (ep:Nat) (t:SetTable),o={cls:= .type "set",dict:=none,data:= .set es ep t}∧TabT (tK prog w).hash t es T∧SzT t.mask T.length∧t.led= !byT w∧(ip=true→t.plain=true)
theorem TabT.size {hs:List Key→Int} {t:SetTable} {es:Array (Int × Value)} {T:List eR} (X:TabT hs t es T):es.size=T.length:=by rw [X.en]; simp
theorem TabT.fill {hs:List Key→Int} {t:SetTable} {es:Array (Int × Value)} {T:List eR} (X:TabT hs t es T):t.fill=T.length:=by unfold SetTable.fill; rw [X.pl,X.du]; simp
theorem TabT.fit {hs:List Key→Int} {t:SetTable} {es:Array (Int × Value)} {T:List eR} (X:TabT hs t es T) (hl:T.length≤t.mask):t.fits es.size=true:=by
 have e1:=X.size; have e2:=X.fill; have e3:t.place.size=T.length:=by rw [X.pl]; simp
 unfold SetTable.fits; simp only [bN,beq_iff_eq,decide_eq_true_eq]; exact ⟨by rw [e3,e1],by rw [e2]; exact hl⟩
theorem relayT {a:Addr} {o:Obj} {es:Array (Int × Value)} {ep:Nat} {t:SetTable} {T:List eR} {Q:Unit→Shared→Prop} (ho:s.heap.get? a=some o) (ho':o={cls:= .type "set",dict:=none,data:= .set es ep t}) (X:TabT (tK prog w).hash t es T) {n m m':Nat} (hl:T.length=n) (hm:t.mask=m) (nm:n≤m) (om:okM m') (nm':n≤m') (n9:n≤1000) (m9:m'≤1000) (sa:SetTable.sizeAbove (pG n)=m'+1)
  (h:∀ (es':Array (Int × Value)) (ep':Nat) (t':SetTable) (T':List eR) (h':Heap),Heap.SameBut a s.heap h'→h'.get? a=some {cls:= .type "set",dict:=none,data:= .set es' ep' t'}→TabT (tK prog w).hash t' es' T'→t'.mask=m'→t'.led=t.led→t'.plain=t.plain→T'.length=n→(T'.map (·.2)).Perm (T.map (·.2))→Q () {s with heap:=h'}):
  wpAny (model prog w) A (setRelay a (pG n)) Q E s:=by
 subst ho'; have fit:=X.fit (by omega); obtain ⟨t',ord,T',e1,m1,_,ld1,pn1,X',l',p'⟩:=laid_ok (hs:=(tK prog w).hash) (T:=T) (m:=m') om (by omega) X.kn t.finger (t.movedTo m') t.led t.plain; have ee:es=(T.map (gT (tK prog w).hash)).toArray:=X.en; unfold setRelay; refine wpAny_bind (wpAny_setState_of ho rfl fit ?_); dsimp only; rw [sa,sizeLine_eq]; rw [if_neg (show ¬ (m'+1>16777216) by omega)]; refine wpAny_bind ?_
 have rl:t.relaid (es.map (·.1)) (pG n)=some (t',ord):=by unfold SetTable.relaid; rw [sa,ee]; exact e1
 rw [rl,ee]
 have sz:(ord.filterMap ((T.map (gT (tK prog w).hash)).toArray[·]?)).size=(T.map (gT (tK prog w).hash)).toArray.size:=by rw [X'.size,l']; simp
 show wpAny _ _ (if ((ord.filterMap ((T.map (gT (tK prog w).hash)).toArray[·]?)).size !=(T.map (gT (tK prog w).hash)).toArray.size)=true then _ else _) _ _ _; rw [sz]; simp only [bne_self_eq_false,aK,if_false]; refine wpAny_pure ?_; dsimp only; refine wpAny_storeSet_of ho rfl ?_ (by rw [sz,sizeLine_eq]; simp; omega); have g1:=fD (Obj.putSet (ord.filterMap ((T.map (gT (tK prog w).hash)).toArray[·]?)) t') ho (by rw [putSet_of _ _ rfl]; rfl); rw [putSet_of _ _ rfl] at g1; exact h _ _ _ T' _ (Heap.SameBut.update s.heap a _) g1 X' m1 ld1 pn1 (by omega) p'
theorem addHT {a x:Addr} {o:Obj} {kx:List Key} {T:List eR} {ip:Bool} {Q:Bool→Shared→Prop} (hip:ip=true→∀z∈kx,∃i,z=Sum.inl i) (hu:A.units<cLine) (hl:T.length≤72) (ho:s.heap.get? a=some o) (S:SetT prog w ip o T) (hk:∀r∈T,(tK prog w).is s.heap r.2.1 r.2.2) (hx:(tK prog w).is s.heap kx x)
  (h:∀ (b:Bool) (h':Heap) (o':Obj) (tk:Nat) (T':List eR),Heap.SameBut a s.heap h'→h'.get? a=some o'→SetT prog w ip o' T'→(∀p,p∈T'.map (·.2)→p=(kx,x)∨p∈T.map (·.2))→(∀k,k∈T'.map (·.2.1)↔k=kx∨k∈T.map (·.2.1))→Q b {s with heap:=h',toks:=tk}):wpAny (model prog w) A (setAddHashed a (.ref x) ((tK prog w).hash kx)) Q E s:=by
 have S0:=S; obtain ⟨es,ep,t,rfl,X,h7,hled,hpl0⟩:=S
 have lm:T.length≤t.mask:=by
  obtain ⟨s1,s2,s3,s4⟩:=h7
  rcases X.om with q | q | q | q | q
  ·have:=s1 q; omega
  ·have:=s2 q; omega
  ·exact absurd q s3
  ·omega
  ·exact absurd q s4
 have fit:=X.fit lm; generalize htk:s.toks=tk; unfold setAddHashed setAddHashedIn; have es0:s={s with toks:=tk}:=by rw [← htk]
 rw [es0]; refine wpAny_holding (wpAny_bind (wpAny_setState_of (s:={s with toks:=tk}) ho rfl fit ?_)); dsimp only; have bs:byScan (.ref x) es=false:=rfl; rw [bs]; simp only [aK,if_false]; obtain ⟨e,e1,e2,e3⟩:=X.room lm ((tK prog w).hash kx); unfold setSearch; refine wpAny_bind (searchT (s:={s with toks:=tk}) hu ho rfl X fit hx hk e2 e3 e1 (fun hm=> ?_) (fun hm=> ?_) 100000 0 none rfl (bO _) ?_ fun r hr er=> ?_)
 ·dsimp only; refine wpAny_pure (h false s.heap _ _ T (Heap.SameBut.refl a s.heap) ho S0 (fun p hp=> .inr hp) fun k=>⟨fun z=> .inr z,fun z=> ?_⟩)
  rcases z with rfl | z
  ·exact hm
  ·exact z
 ·dsimp only; refine wpAny_bind (wpAny_setState_of (s:={s with toks:=tk}) ho rfl fit ?_); dsimp only; generalize hj:(pr t.mask ((tK prog w).hash kx) e).j=j; rw [hj] at e2; have jm:j≤t.mask:=hj▸(pr_Q (m:=t.mask) ((tK prog w).hash kx) e).1
  rcases hp:t.put j with ⟨t1,p⟩
  have fin:∀b:Bool,(ip=true→b=true)→wpAny (model prog w) A (do
    storeSet a (iO es p ((tK prog w).hash kx, .ref x)) {t1 with plain:=b}
    if (!false && sR {t1 with plain:=b})=true then setRelay a (pG (es.size+1))
    return true) Q E {s with toks:=tk}:=fun b hbt=>by
   obtain ⟨B,C,eT,X2⟩:=X.put (a:=x) e2 jm hm ⟨e,hj,e3⟩ b; rw [hp] at X2; generalize hT2:B++(j,kx,x)::C=T2 at X2
   have mk1:({t1 with plain:=b}:SetTable).mask=t.mask:=by
    have:t1=(t.put j).1:=by rw [hp]
    rw [this]; rfl
   have ld2:({t1 with plain:=b}:SetTable).led= !byT w:=by
    have:t1=(t.put j).1:=by rw [hp]
    rw [this]; exact hled
   have pn2:ip=true→({t1 with plain:=b}:SetTable).plain=true:=hbt; generalize ({t1 with plain:=b}:SetTable)=t2 at X2 mk1 ld2 pn2 ⊢; dsimp only at X2; generalize hes2:iO es p ((tK prog w).hash kx,Value.ref x)=es2 at X2 ⊢
   have l2:T2.length=T.length+1:=by rw [← hT2,eT]; simp; omega
   have rw1:∀p,p∈T2.map (·.2)→p=(kx,x)∨p∈T.map (·.2):=fun p hp=>by
    rw [← hT2] at hp; rw [eT]; simp only [aR,bD,aY,aS] at hp ⊢
    rcases hp with z | z | z
    ·exact .inr (.inl z)
    ·exact .inl z
    ·exact .inr (.inr z)
   have kw1:∀k,k∈T2.map (·.2.1)↔k=kx∨k∈T.map (·.2.1):=fun k=>by
    rw [← hT2,eT]; simp only [aR,bD,aY,aS]
    constructor
    ·rintro (z | z | z)
     ·exact .inr (.inl z)
     ·exact .inl z
     ·exact .inr (.inr z)
    ·rintro (z | z | z)
     ·exact .inr (.inl z)
     ·exact .inl z
     ·exact .inr (.inr z)
   refine wpAny_bind (wpAny_storeSet_of (s:={s with toks:=tk}) ho rfl ?_ (by rw [X2.size,sizeLine_eq]; omega)); have g1:=fD (Obj.putSet es2 t2) ho (by rw [putSet_of _ _ rfl]; rfl); rw [putSet_of _ _ rfl] at g1
   have tf:sR t2=decide (T2.length * 5≥t.mask * 3):=by unfold sR; rw [X2.fill,mk1]
   rw [tf]
   by_cases hc:T2.length * 5≥t.mask * 3
   ·rw [decide_eq_true hc]; simp only [jZ,Bool.and_self,if_true]; obtain ⟨s1,s2,s3,s4⟩:=h7
    rcases X.om with q | q | q | q | q
    ·have:=s1 q
     have ln:T2.length=5:=by rw [q] at hc; omega
     have sn:es.size+1=5:=by rw [X.size]; omega
     rw [sn]; refine wpAny_bind (relayT (n:=5) (m:=7) (m':=31) (s:={s with heap:=s.heap.update a (Obj.putSet es2 t2),toks:=tk}) g1 rfl X2 ln (by rw [mk1,q]) (by decide) (.inr (.inl rfl)) (by decide) (by decide) (by decide) (by decide+kernel) fun es' ep' t' T' h' sb g2 X' m' ld' pn' l' pm=>wpAny_pure ?_); refine h true h' _ tk T' ((Heap.SameBut.update s.heap a _).trans sb) g2 ⟨es',ep',t',rfl,X',⟨fun z=>by omega,fun z=>by omega,by omega,by omega⟩,ld'.trans ld2,fun z=>pn'.trans (pn2 z)⟩ (fun p hp=>rw1 p (pm.mem_iff.mp hp)) fun k=> ?_
     have pk:(T'.map (·.2.1)).Perm (T2.map (·.2.1)):=by have:=pm.map (·.1); rw [bX,bX] at this; exact this
     rw [pk.mem_iff]; exact kw1 k
    ·have:=s2 q
     have ln:T2.length=19:=by rw [q] at hc; omega
     have sn:es.size+1=19:=by rw [X.size]; omega
     rw [sn]; refine wpAny_bind (relayT (n:=19) (m:=31) (m':=127) (s:={s with heap:=s.heap.update a (Obj.putSet es2 t2),toks:=tk}) g1 rfl X2 ln (by rw [mk1,q]) (by decide) (.inr (.inr (.inr (.inl rfl)))) (by decide) (by decide) (by decide) (by decide+kernel) fun es' ep' t' T' h' sb g2 X' m' ld' pn' l' pm=>wpAny_pure ?_); refine h true h' _ tk T' ((Heap.SameBut.update s.heap a _).trans sb) g2 ⟨es',ep',t',rfl,X',⟨fun z=>by omega,fun z=>by omega,by omega,by omega⟩,ld'.trans ld2,fun z=>pn'.trans (pn2 z)⟩ (fun p hp=>rw1 p (pm.mem_iff.mp hp)) fun k=> ?_
     have pk:(T'.map (·.2.1)).Perm (T2.map (·.2.1)):=by have:=pm.map (·.1); rw [bX,bX] at this; exact this
     rw [pk.mem_iff]; exact kw1 k
    ·exact absurd q s3
    ·rw [q] at hc; omega
    ·exact absurd q s4
   ·rw [decide_eq_false hc]; simp only [qS,aK,if_false]; refine wpAny_bind (wpAny_pure (wpAny_pure ?_)); refine h true _ _ tk T2 (Heap.SameBut.update s.heap a _) g1 ⟨es2,_,t2,rfl,X2,⟨fun z=>by rw [mk1] at z; rw [z] at hc; omega,fun z=>by rw [mk1] at z; rw [z] at hc; omega,by rw [mk1]; exact h7.2.2.1,by rw [mk1]; exact h7.2.2.2⟩,ld2,pn2⟩ rw1 kw1
  cases hpl:t1.plain with
  | true=>
   simp only [hpl,if_true]; refine wpAny_bind (hbvT (s:={s with toks:=tk}) hx fun b hb=> ?_); cases b with
   | true=>
    simp only [if_true]; have:=fin true fun _=>rfl
    rw [show ({t1 with plain:=true}:SetTable)=t1 by rw [← hpl]] at this; exact this
   | false=>simp only [aK,if_false]; exact fin false fun z=>hb (hip z)
  | false=>
   simp only [hpl,aK,if_false]; refine wpAny_bind (wpAny_pure ?_); simp only [if_true]
   have:=fin false fun z=>by
    have e:t1.plain=t.plain:=by
     have:t1=(t.put j).1:=by rw [hp]
     rw [this]; rfl
    rw [e,hpl0 z] at hpl; cases hpl
   rw [show ({t1 with plain:=false}:SetTable)=t1 by rw [← hpl]] at this; exact this
 ·have:eJ t.mask≤1000:=by rcases X.om with q | q | q | q | q<;>rw [q]<;>decide
  omega
 ·obtain ⟨n,n1,n2⟩:=X.ahead hr (e:=e) (by rw [er]; exact e2); rw [er] at n2; exact ⟨n,bO _,n1,n2⟩
theorem addT {a x:Addr} {o:Obj} {kx:List Key} {T:List eR} {ip:Bool} {Q:Bool→Shared→Prop} (hip:ip=true→∀z∈kx,∃i,z=Sum.inl i) (hu:A.units<cLine) (hl:T.length≤72) (ho:s.heap.get? a=some o) (S:SetT prog w ip o T) (hk:∀r∈T,(tK prog w).is s.heap r.2.1 r.2.2) (hx:(tK prog w).is s.heap kx x)
  (h:∀ (b:Bool) (h':Heap) (o':Obj) (tk:Nat) (T':List eR),Heap.SameBut a s.heap h'→h'.get? a=some o'→SetT prog w ip o' T'→(∀p,p∈T'.map (·.2)→p=(kx,x)∨p∈T.map (·.2))→(∀k,k∈T'.map (·.2.1)↔k=kx∨k∈T.map (·.2.1))→Q b {s with heap:=h',toks:=tk}):wpAny (model prog w) A (setAdd a (.ref x)) Q E s:=by
 unfold setAdd; refine wpAny_holding (wpAny_bind ((tK prog w).pyHash hu hx ?_)); exact addHT (s:={s with toks:=s.toks+(tK prog w).draws kx}) hip hu hl ho S hk hx h
end
theorem tab_len {T:List eR} {vs:List (List Key)} {n:Nat} (nd:(T.map (·.2.1)).Nodup) (h:∀k,k∈T.map (·.2.1)↔k∈vs) (hn:vs.length≤n):T.length≤n:=by
 have:=nd.length_le_of_subset fun k hk=>(h k).mp hk
 rw [aD] at this; omega
section
variable {prog:Program} {w:World} {A:Around} {s:Shared}
theorem nU {h h':Heap} {x:Addr} {k:List Key} (hx:(tK prog w).is h k x) (kp:∀o,h.get? x=some o→h'.get? x=some o):(tK prog w).is h' k x:=by obtain ⟨o,items,n,ho,hc,hd,hi⟩:=(show IsTupleKey (gZ prog w) h k x from hx); exact (show IsTupleKey (gZ prog w) h' k x from ⟨o,items,n,kp _ ho,hc,hd,hi⟩)
theorem SetT.nd {ip:Bool} {o:Obj} {T:List eR} (S:SetT prog w ip o T):(T.map (·.2.1)).Nodup:=by obtain ⟨es,ep,t,_,X,_,_,_⟩:=S; exact X.kn
theorem loopT {R:Result→Shared→Prop} {I S:Addr} {fp wr:List Addr} {n:Nat} {P:Nat→Value→Prop} {St:Nat→Heap→Prop} (hu:A.in1.units<cLine) (W:Walks prog w A.in1 I fp wr n P St) (hSf:S∉fp) (vs:List (List Key)) {ip:Bool} (hip:ip=true→∀k∈vs,∀z∈k,∃i,z=Sum.inl i) (hn:vs.length=n) (h16:n≤72) (h0:Heap)
  (hval:∀i v,P i v→∃x,v= .ref x∧x≠S∧x∉wr∧(tK prog w).is h0 (vs.getD i []) x):∀ (m i:Nat) (s:Shared) (o:Obj) (T:List eR),n - i=m→i≤n→St i s.heap→s.heap.get? S=some o→SetT prog w ip o T→(∀k,k∈T.map (·.2.1)↔k∈vs.take i)→(∀p∈T.map (·.2),p.2≠S∧p.2∉wr∧(tK prog w).is h0 p.1 p.2∧∃i,P i (.ref p.2)∧vs.getD i []=p.1)→(∀b x,b≠S→b∉wr→h0.get? b=some x→s.heap.get? b=some x)→
   (∀h' tk o' T',(∀b x,b≠S→b∉wr→s.heap.get? b=some x→h'.get? b=some x)→h'.get? S=some o'→SetT prog w ip o' T'→(∀k,k∈T'.map (·.2.1)↔k∈vs)→(∀p∈T'.map (·.2),∃i,P i (.ref p.2)∧vs.getD i []=p.1)→R (.ok (.ret .none)) {s with heap:=h',toks:=tk})→
   codeAny (model prog w) A (.builtin "set.update.loop" ⟨[.ref S, .ref I],[]⟩) R s:=by
 have hSw:S∉wr:=fun h=>hSf (W.sub _ h)
 intro m
 induction m with
 | zero=>
  intro i s o T hm hi st ho sm kt rt k0 k; have e:i=n:=by omega
  subst e; refine codeAny_builtin F.entry_set_update_loop ?_; rw [Around.under_plainId F.plain_set_update_loop]; refine wpAny_bind (W.done s _ _ st fun h' tk kp=>wpAny_pure ?_); rw [← hn,lE] at kt; exact k h' tk o T (fun b x _ hb g=>kp b x hb g) (kp S o hSw ho) sm kt fun p hp=>(rt p hp).2.2.2
 | succ m ih=>
  intro i s o T hm hi st ho sm kt rt k0 k; have hlt:i<n:=by omega
  have hlt':i<vs.length:=by omega
  refine codeAny_builtin F.entry_set_update_loop ?_; rw [Around.under_plainId F.plain_set_update_loop]; refine wpAny_bind (W.item i s _ _ hlt st fun v h' tk hP st' kp=> ?_); obtain ⟨x,rfl,xS,xw,hx⟩:=hval i v hP; have vi:vs.getD i []=vs[i]:=by simp [dD,hlt']
  have tk1:vs.take (i+1)=vs.take i++[vs.getD i []]:=by rw [gG,vi]; simp [hlt']
  have k1:∀b x,b≠S→b∉wr→h0.get? b=some x→h'.get? b=some x:=fun b x h1 h2 g=>kp b x h2 (k0 b x h1 h2 g)
  have tl:T.length≤72:=tab_len sm.nd kt (by rw [eN]; omega); refine wpAny_bind (wpAny_holding (addT (s:={s with heap:=h',toks:=tk}) (fun z=>hip z _ (by rw [vi]; exact fI hlt')) hu tl (kp S o hSw ho) sm (fun r hr=> ?_) (nU hx fun o g=>k1 x o xS xw g) fun b h2 o2 tk2 T2 sb g2 sm2 rt2 kt2=> ?_))
  ·obtain ⟨q1,q2,q3,_⟩:=rt r.2 (bM hr); exact nU q3 fun o g=>k1 _ o q1 q2 g
  ·refine wpAny_pure ⟨plainId_quiet F.plain_set_update_loop _,ih (i+1) _ o2 T2 (by omega) hlt (W.frame _ _ _ st' fun b hb x g=> ?_) g2 sm2 (fun k=> ?_) (fun p hp=> ?_) (fun b x h1 h3 g=> ?_) fun h3 tk3 o3 T3 kp3 g3 sm4 kt4 rt4=> ?_⟩
   ·rw [sb.2 b fun z=>hSf (z▸hb)]; exact g
   ·rw [kt2,kt,tk1,aY,bU]; exact ⟨fun z=>z.symm,fun z=>z.symm⟩
   ·rcases rt2 p hp with rfl | z
    ·exact ⟨xS,xw,hx,i,hP,rfl⟩
    ·exact rt p z
   ·rw [sb.2 b h1]; exact k1 b x h1 h3 g
   ·refine k h3 tk3 o3 T3 (fun b x h1 h2 g=>kp3 b x h1 h2 ?_) g3 sm4 kt4 rt4; rw [sb.2 b h1]; exact kp b x h2 g
theorem setT0 {ip:Bool}:SetT prog w ip (nW w) []:=⟨#[],0,tabK (!byT w) [],rfl,⟨.inl rfl,rfl,rfl,rfl,List.Pairwise.nil,fun r h=>(by cases h),fun r h=>(by cases h),eK⟩,⟨fun _=>bO _,fun _=>bO _,by show (7:Nat)≠63; decide,by show (7:Nat)≠255; decide⟩,rfl,fun _=>rfl⟩
theorem initT {R:Result→Shared→Prop} {S l:Addr} {items:Array Value} (hu:A.in1.in1.units<cLine) (vs:List (List Key)) {ip:Bool} (hip:ip=true→∀k∈vs,∀z∈k,∃i,z=Sum.inl i) (hn:vs.length=items.size) (h16:items.size≤72) (hi:∀ (i:Nat) (v:Value),items[i]? =some v→∃x,v= .ref x∧x≠S∧(tK prog w).is s.heap (vs.getD i []) x) (hh:A.handled=none)
  (ho:s.heap.get? S=some (nW w)) (ht:s.heap.IsList l items)
  (k:∀h' tk o' T',(∀b x,b≠S→s.heap.get? b=some x→h'.get? b=some x)→h'.get? S=some o'→SetT prog w ip o' T'→(∀k,k∈T'.map (·.2.1)↔k∈vs)→(∀p∈T'.map (·.2),∃i:Nat,items[i]? =some (.ref p.2)∧vs.getD i []=p.1)→R (.ok (.ret .none)) {s with heap:=h',toks:=tk}):
  wpAny (model prog w) A.in1 (Builtin.«set.__init__» ⟨[.ref S, .ref l],[]⟩) (fun fin s'=>match fin with | .done f=>R (.ok f) s' | .again c'=>c'.quiet=true∧codeAny (model prog w) A c' R s') (fun e s'=>R (.error e) s') s:=by
 obtain ⟨ol,hol,hcl,nl,hdl⟩:=id ht; obtain ⟨ocls,odict,odata,oslots⟩:=ol; simp only at hcl hdl; subst hcl hdl; have q1:=sub_lst_set; have q2:=sub_lst_fz; have q3:(Value.type "list"==Value.type "dict")=false:=by decide
 have hT:Shared.TypeIs s (.ref S) "set":=⟨_,ho,rfl⟩
 have hSl:S≠l:=fun z=>by rw [z,hol] at ho; have q:(Value.type "list")=Value.type "set":=congrArg Obj.cls (cA.inj ho); exact absurd q (by decide)
 unfold Builtin.«set.__init__» noKeywords Builtin.Frozenset.updateFrom; generalize pI:pyIter=PI
 wp_walk
 subst pI; refine wpAny_pyIter_list (show s.heap.IsList l items from ht) (wpAny_bind (wpAny_runValue ?_)); have lS:l<s.heap.objs.size:=aI hol; have sS:S<s.heap.objs.size:=aI ho; refine loopT (n:=items.size) (P:=fun i v=>items[i]? =some v) hu (Walks.list (A:=A.in1.in1) (by simpa using hh) s.heap.objs.size l (bH lS) items) (fun z=> ?_) vs hip hn h16 s.heap (fun i v hv=> ?_) (items.size - 0) 0 _ (nW w) [] rfl (bO _) ⟨⟨_,aV _ rfl,rfl,rfl⟩,ht.push _⟩ (aA _ ho) setT0 (fun k=>by simp) (fun p hp=>by cases hp) (fun b x h1 h2 g=>aA _ g) fun h' tk o' T' kp g sm kt rt=> ?_
 ·rcases aS.mp z with z | z
  ·exact bH sS z
  ·exact hSl (by simpa using z)
 ·obtain ⟨x,e,xS,hx⟩:=hi i v hv; obtain ⟨o,_,_,hxo,_⟩:=(show IsTupleKey (gZ prog w) s.heap _ x from hx); exact ⟨x,e,xS,fun z=>absurd (aI hxo) (by rw [show x=s.heap.objs.size by simpa using z]; exact eP _),hx⟩
 ·refine wpAny_pure (wpAny_pure (k h' tk o' T' (fun b x h1 g=>kp b x h1 (fun z=> ?_) (aA _ g)) g sm kt rt)); have z:b=s.heap.objs.size:=by simpa using z
  exact absurd (aI g) (by rw [z]; exact eP _)
theorem callT {E:Value→Shared→Prop} {Q:Value→Shared→Prop} {l:Addr} {items:Array Value} (hu:A.units+8<cLine) (vs:List (List Key)) {ip:Bool} (hip:ip=true→∀k∈vs,∀z∈k,∃i,z=Sum.inl i) (hn:vs.length=items.size) (h16:items.size≤72) (hi:∀ (i:Nat) (v:Value),items[i]? =some v→∃x,v= .ref x∧(tK prog w).is s.heap (vs.getD i []) x) (hh:A.handled=none) (ht:s.heap.IsList l items)
  (k:∀h' tk o' T',(∀b x,s.heap.get? b=some x→h'.get? b=some x)→h'.get? s.heap.objs.size=some o'→SetT prog w ip o' T'→(∀k,k∈T'.map (·.2.1)↔k∈vs)→(∀p∈T'.map (·.2),∃i:Nat,items[i]? =some (.ref p.2)∧vs.getD i []=p.1)→Q (.ref s.heap.objs.size) {s with heap:=h',toks:=tk}):
  wpAny (model prog w) A (call (.type "set") [.ref l]) Q E s:=by
 obtain ⟨c,tl,m1⟩:=F.called_set.mro; have m2:=F.called_set.made; have m3:=F.called_set.sub; refine wpAny_call (codeAny_of_tree (show wpAny _ _ (callAny (.type "set") _) _ _ _ from ?_)); refine wpAny_pure ⟨Code.quiet_builtin _ (by decide+kernel),codeAny_builtin F.entry_type_call ?_⟩; rw [Around.under_plain (weight_type_call_type "set" [Value.ref l] []) rfl]; have m4:=F.called_set.notType; have m5:=F.called_set.canCreate; have m6:=F.typeCall_set_1 (.ref l)
 repeat (any_goals (first | assumption | wp_step))
 refine codeAny_mono (newK (.ref l) (E:=E) (Q₁:=fun ob s1=>ob= .ref s.heap.objs.size∧s1={s with heap:=s.heap.push (nW w)}) ⟨rfl,rfl⟩) fun r s1 hr=> ?_
 cases r with
 | error e=>exact hr
 | ok fl=>
  cases fl with
  | ret ob=>
   obtain ⟨rfl,rfl⟩:=hr; have ho:(s.heap.push (nW w)).get? s.heap.objs.size=some (nW w):=aV _ rfl; have hT:Shared.TypeIs {s with heap:=s.heap.push (nW w)} (.ref s.heap.objs.size) "set":=⟨_,ho,rfl⟩; have m7:=F.called_set.init.lookup; have m8:=F.called_set.init.bind (.ref s.heap.objs.size)
   repeat (any_goals (first | assumption | wp_step))
   refine codeAny_mono (codeAny_call_builtin (R:=wants (fun r s2=>r= .none∧∃h' tk o' T',s2={s with heap:=h',toks:=tk}∧(∀b x,s.heap.get? b=some x→h'.get? b=some x)∧h'.get? s.heap.objs.size=some o'∧SetT prog w ip o' T'∧(∀k,k∈T'.map (·.2.1)↔k∈vs)∧(∀p∈T'.map (·.2),∃i:Nat,items[i]? =some (.ref p.2)∧vs.getD i []=p.1)) E) F.called_set.init.plain F.entry_set_init (check_set_init_1 hT ?_)) fun r2 s2 hr2=> ?_
   ·refine initT (s:={s with heap:=s.heap.push (nW w)}) (by simp only [Around.in1]; omega) vs hip hn h16 (fun i v hv=> ?_) (by simpa using hh) ho (ht.push _) fun h' tk o' T' kp g sm kt rt=> ?_
    ·obtain ⟨x,e,hx⟩:=hi i v hv; obtain ⟨o,_,_,hxo,_⟩:=(show IsTupleKey (gZ prog w) s.heap _ x from hx); exact ⟨x,e,bH (aI hxo),nU hx fun o g=>aA _ g⟩
    ·exact ⟨rfl,h',tk,o',T',rfl,fun b x gx=>kp b x (bH (aI gx)) (aA _ gx),g,sm,kt,rt⟩
   ·cases r2 with
    | error e=>exact hr2
    | ok fl2=>
     cases fl2 with
     | ret r=>
      obtain ⟨rfl,h',tk,o',T',rfl,kp,g,sm,kt,rt⟩:=hr2
      repeat (any_goals (first | assumption | wp_step))
      exact k _ _ _ _ kp g sm kt rt
     | _=>exact hr2.elim
  | _=>exact hr.elim
end
structure TabU (hs:List Key→Int) (t:SetTable) (es:Array (Int × Value)) (T:List eR) (ds:List Nat):Prop where
 om:okM t.mask
 pl:t.place=(T.map (·.1)).toArray
 en:es=(T.map fun r=>(hs r.2.1,Value.ref r.2.2)).toArray
 du:t.dummies=ds.toArray
 rs:(T.map (·.1)).Pairwise (·<·)
 dr:ds.Pairwise (·<·)
 dj:∀d∈ds,d∉T.map (·.1)
 lt:∀r∈T,r.1≤t.mask
 rc:∀r∈T,∃n,(pr t.mask (hs r.2.1) n).j=r.1∧∀i,i<n→(pr t.mask (hs r.2.1) i).j∈T.map (·.1)++ds
 kn:(T.map (·.2.1)).Nodup
theorem TabT.U {hs:List Key→Int} {t:SetTable} {es:Array (Int × Value)} {T:List eR} (X:TabT hs t es T):TabU hs t es T []:=
 ⟨X.om,X.pl,X.en,X.du,X.rs,List.Pairwise.nil,(fun d h=>by cases h),X.lt,(fun r hr=>by simpa using X.rc r hr),X.kn⟩
section
variable {hs:List Key→Int} {t:SetTable} {es:Array (Int × Value)} {T:List eR} {ds:List Nat}
theorem TabU.slot_live (X:TabU hs t es T ds) {A B:List eR} {r:eR} (e:T=A++r::B):t.slot r.1= .live A.length:=by
 have h:=X.rs; rw [e,aR,bD] at h; obtain ⟨_,h2,h3⟩:=dW.mp h
 have hb:=mP (a:=A.map (·.1)) (b:=r.1::B.map (·.1)) (j:=r.1) (fun x hx=>h3 x hx r.1 aO) fun x hx=>by
  rcases aS.mp hx with rfl | hx
  ·exact aN _
  ·exact dP ((gD.mp h2).1 x hx)
 unfold nM; rw [X.pl,e,aR,bD,hb]; simp
theorem no_live (X:TabU hs t es T ds) {j:Nat} (h:j∉T.map (·.1)):(t.place[fK t.place j]? ==some j)=false:=by
 obtain ⟨a,b,e,ha,hb⟩:=vK j X.rs; have hbl:=mP ha hb; rw [X.pl,e,hbl]; cases b with
 | nil=>simp
 | cons y b=>
  have:y≠j:=fun z=>h (by rw [e,← z]; simp)
  simp [this]
theorem has_iff {xs:List Nat} (hp:xs.Pairwise (·<·)) (j:Nat):SetTable.has xs.toArray j=decide (j∈xs):=by
 obtain ⟨a,b,e,ha,hb⟩:=vK j hp; have hbl:=mP ha hb; unfold SetTable.has; rw [e,hbl]; cases b with
 | nil=>
  have:j∉a:=fun z=>eP _ (ha j z)
  simp [this]
 | cons y b=>
  have na:j∉a:=fun z=>eP _ (ha j z)
  by_cases z:y=j
  ·subst z; simp
  ·have nb:j∉b:=fun w=>by rw [e] at hp; have h1:=(gD.mp (dW.mp hp).2.1).1 j w; have h2:=hb y aO; omega
   simp [z,na,nb,Ne.symm z]
theorem TabU.slot_dummy (X:TabU hs t es T ds) {j:Nat} (h:j∈ds):t.slot j= .dummy:=by have h1:=no_live X (X.dj j h); unfold nM; dsimp only; rw [h1,X.du,has_iff X.dr]; simp [h]
theorem TabU.slot_empty (X:TabU hs t es T ds) {j:Nat} (h:j∉T.map (·.1)++ds):t.slot j= .empty:=by
 have h1:=no_live X (fun z=>h (bE _ z)); unfold nM; dsimp only; rw [h1,X.du,has_iff X.dr]; have:j∉ds:=fun z=>h (aG _ z)
 simp [this]
theorem TabU.same_row (X:TabU hs t es T ds) {r r':eR} (h:r∈T) (h':r'∈T) (e:r.1=r'.1):r=r':=by
 obtain ⟨A,B,q⟩:=sP h; have hp:=X.rs; rw [q,aR,bD] at hp; obtain ⟨_,h2,h3⟩:=dW.mp hp; rw [q] at h'
 rcases aY.mp h' with z | z
 ·have:=h3 r'.1 (bM z) r.1 aO; omega
 ·rcases aS.mp z with z | z
  ·exact z.symm
  ·have:=(gD.mp h2).1 r'.1 (bM z); omega
def prd (m:Nat) (h:Int) (n:Nat) (d:Option Nat):SetTable.Probe:={pr m h n with dummy:=d}
theorem adv_prd (m:Nat) (h:Int) (n:Nat) (d:Option Nat):qO m (prd m h n d)=prd m h (n+1) d:=by
 show qO m {pr m h n with dummy:=d}={qO m (pr m h n) with dummy:=d}; unfold qO; dsimp only
 split<;>rfl
theorem prd_none (m:Nat) (h:Int) (n:Nat):prd m h n none=pr m h n:=by have:=sI m h n; show {pr m h n with dummy:=none}=pr m h n; rw [← this]
theorem xL (X:TabU hs t es T ds) {hashAt:Nat→Int} (hh:∀A r B,T=A++r::B→hashAt A.length=hs r.2.1) (h:Int):∀ (fuel n e:Nat) (d:Option Nat),n≤e→e - n<fuel→(pr t.mask h e).j∉T.map (·.1)++ds→
  ∃k d',n≤k∧k≤e∧(∀i,n≤i→i<k→(pr t.mask h i).j∈T.map (·.1)++ds∧∀r∈T,r.1=(pr t.mask h i).j→hs r.2.1≠h)∧
   (((pr t.mask h k).j∉T.map (·.1)++ds∧dA.go t hashAt h fuel (prd t.mask h n d)=some (.empty (pr t.mask h k).j d'))∨
    ∃A r B,T=A++r::B∧r.1=(pr t.mask h k).j∧hs r.2.1=h∧dA.go t hashAt h fuel (prd t.mask h n d)=some (.candidate (pr t.mask h k).j A.length (prd t.mask h (k+1) d')))
 | 0,n,e,d,h1,h2,h3=>by omega
 | fuel+1,n,e,d,h1,h2,h3=>by
  have ej:(prd t.mask h n d).j=(pr t.mask h n).j:=rfl; have ea:∀d,t.advance (prd t.mask h n d)=prd t.mask h (n+1) d:=fun d=>by rw [adv_eq]; exact adv_prd _ _ _ _
  by_cases hm:(pr t.mask h n).j∈T.map (·.1)
  ·obtain ⟨A,r,B,q,er⟩:=mem_cutT hm; have hl:=X.slot_live q; rw [er] at hl
   have hlt:n<e:=by
    rcases cB h1 with z | z
    ·exact z
    ·rw [z] at hm; exact absurd (bE _ hm) h3
   by_cases hq:hs r.2.1=h
   ·refine ⟨n,d,aN _,h1,(fun i a b=>by omega), .inr ⟨A,r,B,q,er,hq, ?_⟩⟩; unfold dA.go; rw [ej,hl]; simp only; rw [hh A r B q,hq,ea]; simp
   ·obtain ⟨k,d',k1,k2,k3,k4⟩:=xL X hh h fuel (n+1) e d hlt (by omega) h3
    have st:dA.go t hashAt h (fuel+1) (prd t.mask h n d)=dA.go t hashAt h fuel (prd t.mask h (n+1) d):=by
     conv=>lhs; unfold dA.go
     rw [ej,hl]; simp only; rw [hh A r B q,if_neg (by simpa using hq),ea]
    rw [st]; refine ⟨k,d',by omega,k2,fun i a b=> ?_,k4⟩
    rcases cB a with z | z
    ·exact k3 i z b
    ·subst z; refine ⟨bE _ hm,fun r' hr' e'=> ?_⟩; have:r'=r:=X.same_row hr' (by rw [q]; simp) (e'.trans er.symm); rw [this]; exact hq
  ·by_cases hd:(pr t.mask h n).j∈ds
   ·have hl:=X.slot_dummy hd
    have hlt:n<e:=by
     rcases cB h1 with z | z
     ·exact z
     ·rw [z] at hd; exact absurd (aG _ hd) h3
    obtain ⟨k,d',k1,k2,k3,k4⟩:=xL X hh h fuel (n+1) e (some (pr t.mask h n).j) hlt (by omega) h3
    have st:dA.go t hashAt h (fuel+1) (prd t.mask h n d)=dA.go t hashAt h fuel (prd t.mask h (n+1) (some (pr t.mask h n).j)):=by
     conv=>lhs; unfold dA.go
     rw [ej,hl]; simp only; rw [← ea]; rfl
    rw [st]; refine ⟨k,d',by omega,k2,fun i a b=> ?_,k4⟩
    rcases cB a with z | z
    ·exact k3 i z b
    ·subst z; exact ⟨aG _ hd,fun r' hr' e'=>absurd (e'▸bM hr') hm⟩
   ·have ho:(pr t.mask h n).j∉T.map (·.1)++ds:=fun z=>(aY.mp z).elim hm hd
    refine ⟨n,d,aN _,h1,(fun i a b=>by omega), .inl ⟨ho, ?_⟩⟩; unfold dA.go; rw [ej,X.slot_empty ho]; rfl
theorem TabU.room (X:TabU hs t es T ds) (hl:T.length+ds.length≤t.mask) (h:Int):∃e,e<10 * eJ t.mask∧(pr t.mask h e).j∉T.map (·.1)++ds∧∀i,i<e→(pr t.mask h i).j∈T.map (·.1)++ds:=by
 have ex:∃j,j<t.mask+1∧j∉T.map (·.1)++ds:=by
  refine Classical.byContradiction fun hn=> ?_
  have all:∀j∈bR (t.mask+1),j∈T.map (·.1)++ds:=fun j hj=>Classical.byContradiction fun z=>hn ⟨j,bS.mp hj,z⟩
  have:=(lG (n:=t.mask+1)).length_le_of_subset all; rw [cN,cR,aD] at this; omega
 obtain ⟨j,hj,hn⟩:=ex; obtain ⟨k,n,h1,h2,h3,h4⟩:=xH X.om h hj; have h0:∃e,(pr t.mask h e).j∉T.map (·.1)++ds:=⟨n,by rw [h4]; exact hn⟩
 obtain ⟨e,he,hmin⟩:∃e,(pr t.mask h e).j∉T.map (·.1)++ds∧∀i,i<e→¬ (pr t.mask h i).j∉T.map (·.1)++ds:=by
  refine Classical.byContradiction fun z=> ?_
  have noall:∀m,∀i,i<m→¬ (pr t.mask h i).j∉T.map (·.1)++ds:=fun m=>by
   induction m with
   | zero=>intro i hi; omega
   | succ m ih=>
    intro i hi hc
    rcases cB (Nat.le_of_lt_succ hi) with q | q
    ·exact ih i q hc
    ·subst q; exact z ⟨i,hc,ih⟩
  obtain ⟨e,he⟩:=h0; exact noall (e+1) e (lM _) he
 refine ⟨e, ?_,he,fun i hi=>Classical.byContradiction fun z=>hmin i hi z⟩; have:e≤n:=xT fun z=>hmin n z (by rw [h4]; exact hn)
 unfold eJ; omega
theorem TabU.ahead (X:TabU hs t es T ds) {r:eR} (hr:r∈T) {e:Nat} (he:(pr t.mask (hs r.2.1) e).j∉T.map (·.1)++ds):∃n,n<e∧(pr t.mask (hs r.2.1) n).j=r.1:=by
 obtain ⟨n,h1,h2⟩:=X.rc r hr; refine ⟨n,Nat.lt_of_not_le fun z=> ?_,h1⟩
 rcases cB z with q | q
 ·exact he (h2 e q)
 ·subst q; exact he (by rw [h1]; exact bE _ (bM hr))
end
section
variable {prog:Program} {w:World} {A:Around} {E:Value→Shared→Prop} {s:Shared}
theorem searchU {a x:Addr} {o:Obj} {kx:List Key} {T:List eR} {ds:List Nat} {t:SetTable} {es:Array (Int × Value)} {ep:Nat} {Q:SetFound→Shared→Prop} (hu:A.units<cLine) (ho:s.heap.get? a=some o) (hd:o.data= .set es ep t) (X:TabU (tK prog w).hash t es T ds) (fit:t.fits es.size=true)
  (hx:(tK prog w).is s.heap kx x) (hk:∀r∈T,(tK prog w).is s.heap r.2.1 r.2.2) {e:Nat} (he:(pr t.mask ((tK prog w).hash kx) e).j∉T.map (·.1)++ds) (hl:∀i,i<e→(pr t.mask ((tK prog w).hash kx) i).j∈T.map (·.1)++ds) (h10:e<10 * eJ t.mask)
  (q1:∀B r C,T=B++r::C→r.2.1=kx→Q (.there (some B.length)) s) (q2:kx∉T.map (·.2.1)→∀j b,Q (.free j b) s):∀ (fuel n:Nat) (d:Option Nat) (stand:Option SetTable.Probe),stand.getD (t.probeStart ((tK prog w).hash kx))=prd t.mask ((tK prog w).hash kx) n d→n≤e→e - n<fuel→(∀r∈T,r.2.1=kx→∃i,n≤i∧i<e∧(pr t.mask ((tK prog w).hash kx) i).j=r.1)→
   wpAny (model prog w) A (setSearchFrom a (.ref x) ((tK prog w).hash kx) false fuel stand) Q E s
 | 0,n,d,stand,e1,h1,h2,h3=>by omega
 | fuel+1,n,d,stand,e1,h1,h2,h3=>by
  unfold setSearchFrom; refine wpAny_bind (wpAny_setState_of ho hd fit ?_); dsimp only
  have gw:t.gaveWay=false:=by
   unfold SetTable.gaveWay
   rcases X.om with q | q | q | q | q<;>rw [q]<;>rfl
  rw [gw]; simp only [aK,if_false]
  have hAt:∀B r C,T=B++r::C→es[B.length]? =some ((tK prog w).hash r.2.1,Value.ref r.2.2):=fun B r C q=>by rw [X.en,q]; simp
  rw [e1]; generalize hf:t.probe _ ((tK prog w).hash kx) (prd t.mask ((tK prog w).hash kx) n d)=met; obtain ⟨F,hF,hf⟩:∃F:Nat→Int,(∀i,F i=((es[i]?).map (·.1)).getD 0)∧t.probe F ((tK prog w).hash kx) (prd t.mask ((tK prog w).hash kx) n d)=met:=⟨_,fun i=>rfl,hf⟩; unfold dA at hf
  obtain ⟨k,d',k1,k2,k3,k4⟩:=xL X (hashAt:=F) (fun B r C q=>by
   have:=hAt B r C q; rw [hF,this]
   rfl) ((tK prog w).hash kx) (10 * eJ t.mask) n e d h1 (by omega) he
  rcases k4 with ⟨hm,hg⟩ | ⟨B,r,C,eT,hj,hh,hg⟩
  ·rw [hg] at hf; subst hf; dsimp only
   have ke:k=e:=by
    rcases cB k2 with z | z
    ·exact absurd (hl k z) hm
    ·exact z
   subst ke
   have nk:kx∉T.map (·.2.1):=fun hc=>by obtain ⟨r,hr,er⟩:=bB.mp hc; obtain ⟨i,i1,i2,i3⟩:=h3 r hr er; exact (k3 i i1 i2).2 r hr i3.symm (by rw [er])
   cases d' with
   | none=>exact wpAny_pure (q2 nk _ _)
   | some dd=>simp only [jH,aK,if_false]; exact wpAny_pure (q2 nk _ _)
  ·rw [hg] at hf; subst hf; dsimp only; have hr:r∈T:=by rw [eT]; simp
   have hei:=hAt B r C eT; have hsl:=X.slot_live eT; rw [hj] at hsl; have sm:t.sameMemory t.moves t.mask=some true:=by unfold SetTable.sameMemory; simp
   have hke:k<e:=by
    rcases cB k2 with z | z
    ·exact z
    ·subst z; exact absurd (bE _ (hj▸bM hr)) he
   have cont:wpAny (model prog w) A (do
     let some (_,y):=es[B.length]? | unsupported "internal:set-entry"
     let equal ← holding [y] (eqBool y (.ref x))
     let (es',_,t') ← setState a
     if (false && equal)=true then return .there none
     let some same:=t'.sameMemory t.moves t.mask | unsupported "set.changed-during-lookup:is-the-new-block-at-the-old-address"
     let still ← match (if same then t'.slot (pr t.mask ((tK prog w).hash kx) k).j else .empty) with
      | .live i'=>match es'[i']? with
       | some (_,y')=>do pure (if ← isSame y' y then some i' else none)
       | none=>pure none
      | _=>pure none
     match still with
     | none=>rule "set.search.anew"; setSearchFrom a (.ref x) ((tK prog w).hash kx) false fuel none
     | some i'=>if equal then return .there (some i') else setSearchFrom a (.ref x) ((tK prog w).hash kx) false fuel (some (prd t.mask ((tK prog w).hash kx) (k+1) d'))) Q E s:=by
    rw [hei]; dsimp only; refine wpAny_bind (wpAny_holding ((tK prog w).eqBool hu (hk r hr) hx ?_)); refine wpAny_bind (wpAny_setState_of ho hd fit ?_); dsimp only; simp only [jH,aK,if_false]; rw [sm]; dsimp only; rw [if_pos rfl,hsl]; dsimp only; rw [hei]; dsimp only; refine wpAny_bind (wpAny_isSame_ref_self ?_); refine wpAny_bind (wpAny_pure ?_); simp only [if_true]
    by_cases hkx:r.2.1=kx
    ·rw [decide_eq_true hkx]; simp only [if_true]; exact wpAny_pure (q1 B r C eT hkx)
    ·rw [decide_eq_false hkx]; simp only [aK,if_false]; refine searchU hu ho hd X fit hx hk he hl h10 q1 q2 fuel (k+1) d' (some _) rfl (by omega) (by omega) fun r' hr' e'=> ?_
     obtain ⟨i,i1,i2,i3⟩:=h3 r' hr' e'; refine ⟨i, ?_,i2,i3⟩
     rcases kK i k with z | z
     ·exact absurd (by rw [e']) ((k3 i i1 z).2 r' hr' i3.symm)
     ·rcases cB z with z | z
      ·exact z
      ·exfalso; subst z; have:r'=r:=X.same_row hr' hr (i3.symm.trans hj.symm); rw [this] at e'; exact hkx e'
   cases hled:t.led with
   | true=>simp only [fM,aK,if_false]; exact cont
   | false=>
    simp only [jZ,if_true]; refine wpAny_bind (seenT hx (fun v hv=> ?_) ?_)
    ·obtain ⟨p,hp,rfl⟩:=bB.mp hv
     have hp':p∈es.toList:=by have:=jC.mp hp; exact jC.mpr (Array.mem_filter.mp this).1
     rw [X.en] at hp'; obtain ⟨r2,h2',rfl⟩:=bB.mp (by simpa using hp':p∈T.map fun r=>((tK prog w).hash r.2.1,Value.ref r.2.2)); exact ⟨r2.2.1,r2.2.2,rfl,hk r2 h2'⟩
    simp only [aK,if_false]; exact cont
theorem TabU.size {hs:List Key→Int} {t:SetTable} {es:Array (Int × Value)} {T:List eR} {ds:List Nat} (X:TabU hs t es T ds):es.size=T.length:=by rw [X.en]; simp
theorem TabU.fit {hs:List Key→Int} {t:SetTable} {es:Array (Int × Value)} {T:List eR} {ds:List Nat} (X:TabU hs t es T ds) (hl:T.length+ds.length≤t.mask):t.fits es.size=true:=by
 have e1:=X.size; have e3:t.place.size=T.length:=by rw [X.pl]; simp
 have e4:t.dummies.size=ds.length:=by rw [X.du]; simp
 unfold SetTable.fits SetTable.fill; simp only [bN,beq_iff_eq,decide_eq_true_eq]; exact ⟨by rw [e3,e1],by rw [e3,e4]; exact hl⟩
theorem findU {a x:Addr} {o:Obj} {kx:List Key} {T:List eR} {ds:List Nat} {t:SetTable} {es:Array (Int × Value)} {ep:Nat} {Q:Option Nat→Shared→Prop} (hu:A.units<cLine) (ho:s.heap.get? a=some o) (hd:o.data= .set es ep t) (X:TabU (tK prog w).hash t es T ds) (hm:T.length+ds.length≤t.mask)
  (hx:(tK prog w).is s.heap kx x) (hk:∀r∈T,(tK prog w).is s.heap r.2.1 r.2.2)
  (q1:∀B r C,T=B++r::C→r.2.1=kx→Q (some B.length) s) (q2:kx∉T.map (·.2.1)→Q none s):wpAny (model prog w) A (setFind a (.ref x) ((tK prog w).hash kx)) Q E s:=by
 have fit:=X.fit hm; obtain ⟨e,e1,e2,e3⟩:=X.room hm ((tK prog w).hash kx); unfold setFind setFindIn; refine wpAny_bind (wpAny_setState_of ho hd fit ?_); dsimp only; have bs:byScan (.ref x) es=false:=rfl; rw [bs]; simp only [aK,if_false]; unfold setSearch; refine wpAny_bind (searchU hu ho hd X fit hx hk e2 e3 e1 (fun B r C eT er=> ?_) (fun nk j b=> ?_) 100000 0 none none (by rw [prd_none]; rfl) (bO _) ?_ fun r hr er=> ?_)
 ·exact wpAny_pure (q1 B r C eT er)
 ·exact wpAny_pure (q2 nk)
 ·have:eJ t.mask≤1000:=by rcases X.om with q | q | q | q | q<;>rw [q]<;>decide
  omega
 ·obtain ⟨n,n1,n2⟩:=X.ahead hr (e:=e) (by rw [er]; exact e2); rw [er] at n2; exact ⟨n,bO _,n1,n2⟩
end
theorem oP {α β:Type} {f:α→β} {l:List α} {l':List β} (h:l'.Perm (l.map f)):∃l2:List α,l2.Perm l∧l'=l2.map f:=by
 generalize hy:l.map f=y at h
 induction h generalizing l with
 | nil=>
  have:l=[]:=by simpa using hy
  subst this; exact ⟨[], .refl _,rfl⟩
 | cons x p ih=>
  cases l with
  | nil=>simp at hy
  | cons a t=>simp only [bD,List.cons.injEq] at hy; obtain ⟨l3,q1,q2⟩:=ih hy.2; exact ⟨a::l3,q1.cons a,by rw [bD,hy.1,q2]⟩
 | swap x y l0=>
  match l,hy with
  | a::b::t,hy=>simp only [bD,List.cons.injEq] at hy; exact ⟨b::a::t,List.Perm.swap a b t,by rw [bD,bD,hy.1,hy.2.1,hy.2.2]⟩
  | [a],hy=>simp at hy
  | [],hy=>simp at hy
 | trans p1 p2 ih1 ih2=>obtain ⟨l3,q1,q2⟩:=ih2 hy; obtain ⟨l4,r1,r2⟩:=ih1 q2.symm; exact ⟨l4,r1.trans q1,r2⟩
def SetU (prog:Program) (w:World) (o:Obj) (T:List eR) (ds:List Nat) (m:Nat):Prop:=∃ (es:Array (Int × Value)) (ep:Nat) (t:SetTable),o={cls:= .type "set",dict:=none,data:= .set es ep t}∧TabU (tK prog w).hash t es T ds∧t.mask=m∧t.led= !byT w∧t.plain=true
section
variable {prog:Program} {w:World} {A:Around} {E:Value→Shared→Prop} {s:Shared}
theorem SetT.U {o:Obj} {T:List eR} (S:SetT prog w true o T):∃m,SetU prog w o T [] m∧okM m∧SzT m T.length:=by obtain ⟨es,ep,t,e,X,h7,hl,hp⟩:=S; exact ⟨t.mask,⟨es,ep,t,e,X.U,rfl,hl,hp rfl⟩,X.om,h7⟩
theorem walkU {a:Addr} {o:Obj} {T:List eR} {ds:List Nat} {m:Nat} {others:List Addr} {filled:Option Addr} {Q:Array (Int × Value)→Shared→Prop} (ho:s.heap.get? a=some o) (S:SetU prog w o T ds m) (hm:T.length+ds.length≤m)
  (h:∀T':List eR,T'.Perm T→Q (T'.map (gT (tK prog w).hash)).toArray s):wpAny (model prog w) A (setWalkUnseen a others filled) Q E s:=by
 obtain ⟨es,ep,t,rfl,X,rfl,hl,hp⟩:=S; have fit:=X.fit hm; have ee:es=(T.map (gT (tK prog w).hash)).toArray:=X.en
 have pick:∀ {f:Nat→Nat},∃T':List eR,T'.Perm T∧pickOrder f es=(T'.map (gT (tK prog w).hash)).toArray:=fun {f}=>by
  have p1:(pickOrder f es).toList.Perm es.toList:=by have:=pick_go f es.size 0 es.toList #[] (by simp); simpa [pickOrder] using this
  rw [ee] at p1; obtain ⟨T',q1,q2⟩:=oP (f:=gT (tK prog w).hash) (l:=T) (l':=(pickOrder f es).toList) (by simpa [ee] using p1); exact ⟨T',q1,by rw [← q2]⟩
 unfold setWalkUnseen; refine wpAny_bind (wpAny_setState_of ho rfl fit ?_); dsimp only; unfold setsByText; refine wpAny_bind (wpAny_bind (wpAny_askSetting (wpAny_pure ?_)))
 have hc:(w.params.followText "set-order" || (t.led && t.plain) || decide (es.size≤1))=true:=by rw [hl,hp]; show (byT w || (!byT w && true) || _)=true; cases byT w<;>rfl
 show wpAny _ _ (if (w.params.followText "set-order" || (t.led && t.plain) || decide (es.size≤1))=true then _ else _) _ _ _; rw [if_pos hc]; unfold setWalk setsByText; refine wpAny_bind (wpAny_setState_of ho rfl fit ?_); dsimp only; refine wpAny_bind (wpAny_bind (wpAny_askSetting (wpAny_pure ?_))); show wpAny _ _ (if byT w=true then _ else _) _ _ _; cases hb:byT w with
 | true=>rw [if_pos rfl]; refine wpAny_bind (wpAny_askSetting (wpAny_pure ?_)); obtain ⟨T',q1,q2⟩:=pick (f:=w.params.setOrder a ep); show Q (pickOrder (w.params.setOrder a ep) es) s; rw [q2]; exact h T' q1
 | false=>rw [if_neg (by decide)]; show wpAny _ _ (if (!t.plain && decide (es.size>1))=true then _ else _) _ _ _; rw [hp]; simp only [fM,jH,aK,if_false]; refine wpAny_bind ?_; show wpAny _ _ (if (!t.led && decide (es.size>1))=true then _ else _) _ _ _; rw [hl,hb]; simp only [jZ,fM,jH,aK,if_false]; refine wpAny_pure (wpAny_pure ?_); rw [ee]; exact h T (.refl _)
theorem SetU.room {o:Obj} {T:List eR} {ds:List Nat} {m:Nat} (S:SetU prog w o T ds m) (hm:T.length+ds.length≤m):∃es ep t,o.data= .set es ep t∧t.fits es.size=true∧es.size=T.length:=by obtain ⟨es,ep,t,rfl,X,rfl,_,_⟩:=S; exact ⟨es,ep,t,rfl,X.fit hm,X.size⟩
theorem sizeU {a:Addr} {o:Obj} {T:List eR} {ds:List Nat} {m:Nat} {Q:Nat→Shared→Prop} (ho:s.heap.get? a=some o) (S:SetU prog w o T ds m) (hm:T.length+ds.length≤m) (h:Q T.length s):wpAny (model prog w) A (Builtin.Frozenset.sizeOf a) Q E s:=by obtain ⟨es,ep,t,hd,fit,sz⟩:=S.room hm; unfold Builtin.Frozenset.sizeOf setEntries; refine wpAny_bind (wpAny_bind (wpAny_setState_of ho hd fit (wpAny_pure (wpAny_pure ?_)))); rw [sz]; exact h
theorem anySet {a:Addr} {o:Obj} {Q:Bool→Shared→Prop} (ho:s.heap.get? a=some o) (hc:o.cls= .type "set") (h:Q true s):wpAny (model prog w) A (Builtin.Frozenset.isAnySet (.ref a)) Q E s:=by have hT:s.TypeIs (.ref a) "set":=⟨o,ho,hc⟩; unfold Builtin.Frozenset.isAnySet orM; exact wpAny_bind (wpAny_isInstance (T:="set") (b:=true) hT sub_set_self (show wpAny _ _ (pure true) _ _ _ from wpAny_pure h))
theorem baseSet {a:Addr} {o:Obj} {Q:Value→Shared→Prop} (ho:s.heap.get? a=some o) (hc:o.cls= .type "set") (h:Q (.type "set") s):wpAny (model prog w) A (Builtin.Frozenset.baseOf a) Q E s:=by have hT:s.TypeIs (.ref a) "set":=⟨o,ho,hc⟩; unfold Builtin.Frozenset.baseOf; exact wpAny_bind (wpAny_isInstance (T:="set") (b:=true) hT sub_set_self (wpAny_pure h))
theorem newSetT {Q:Value→Shared→Prop} (h:Q (.ref s.heap.objs.size) {s with heap:=s.heap.push (nW w)}):wpAny (model prog w) A (newSet (.type "set")) Q E s:=by unfold newSet setsByText; refine wpAny_bind (wpAny_bind (wpAny_askSetting (wpAny_pure ?_))); dsimp only; exact wpAny_newObj_type h
theorem epochU {a:Addr} {o:Obj} {T:List eR} {ds:List Nat} {m:Nat} {Q:Nat→Shared→Prop} (ho:s.heap.get? a=some o) (S:SetU prog w o T ds m) (hm:T.length+ds.length≤m) (h:∀n,(∀s':Shared,s'.heap.get? a=some o→∀ {Q':Unit→Shared→Prop} {A':Around} {E':Value→Shared→Prop} (id:String),Q' () s'→wpAny (model prog w) A' (Builtin.Frozenset.unchanged id a n) Q' E' s')→Q n s):wpAny (model prog w) A (setEpoch a) Q E s:=by obtain ⟨es,ep,t,hd,fit,sz⟩:=S.room hm; refine wpAny_setEpoch_of ho hd fit (h ep fun s' ho' Q' A' E' id hq=> ?_); unfold Builtin.Frozenset.unchanged; refine wpAny_bind (wpAny_setEpoch_of ho' hd fit ?_); simp only [bne_self_eq_false,aK,if_false]; exact wpAny_pure hq
def RowsIn (prog:Program) (w:World) (h0:Heap) (T:List eR):Prop:=∀p∈T.map (·.2),(tK prog w).is h0 p.1 p.2∧∀z∈p.1,∃i,z=Sum.inl i
theorem RowsIn.row {h0:Heap} {T:List eR} (R:RowsIn prog w h0 T) {r:eR} (hr:r∈T):(tK prog w).is h0 r.2.1 r.2.2∧∀z∈r.2.1,∃i,z=Sum.inl i:=R r.2 (bM hr)
theorem SetU.cls {o:Obj} {T:List eR} {ds:List Nat} {m:Nat} (S:SetU prog w o T ds m):o.cls= .type "set":=by obtain ⟨_,_,_,e,_⟩:=S; rw [e]
end
section
variable {X:Cx} {sd:List Slot} {a b:Expr} {pos:Pos}
def tupK (k:List Key):D:= .tup (k.map kD)
theorem set_run {e:Expr} {p2 q2:Pos} {ks:List (List Key)} (hu:X.A.units+10<cLine) (hg2:Gl X "set") (hm2:X.mg "set"=none) (hi:∀k∈ks,∀z∈k,∃i,z=Sum.inl i) (h16:ks.length≤72) (hc:X.calm=true) (hst:starEach [e] X.env=(false,eval e X.env)::starEach [] X.env)
  (ha:PEd X sd e (.val (.lst (ks.map tupK)))) {σ:St} {F H:Hp} (S:StF X.K X.B₀ F H σ sd) {pins:List (Addr × Obj)} {s:Shared} (I:Inv X pins σ H s) {Q:Value→Shared→Prop}
  (k:∀ (s2:Shared) (H1 F1:Hp) (S1:Addr) (o1:Obj) (T1:List eR),Inv X pins σ H1 s2→StF X.K X.B₀ F1 H1 σ sd→Same F F1→s2.heap.get? S1=some o1→SetT X.prog X.w true o1 T1→sW X pins H1 S1→(∀k,k∈T1.map (·.2.1)↔k∈ks)→(∀p∈T1.map (·.2),F1 p.2=some (.tup (p.1.map kV)))→Q (.ref S1) s2):
  wpAny (model X.prog X.w) X.A (eval (.Call (.Name "set" p2) [e] [] q2) X.env) Q X.xe s:=by
 refine wpAny_Call_Name_kw (mQ I hg2 hm2 PyProof.Rows.boot_set ?_); refine PyProof.Rows.callWith_type1 (thn ((gR (te:=wE X e) hX pa_nil hst) q2 pins s σ H (fun us H1=>∃v F1,us=[v]∧StF X.K X.B₀ F1 H1 σ sd∧Same F F1∧ResOk X.K F1 H1 sd (.val (.lst (ks.map tupK))) v) I ((ha σ F H S).imp fun v H1 ⟨F1,S1,s1,q1⟩=>⟨v,F1,rfl,S1,s1,q1⟩)) fun us s1 hus=> ?_) hst rfl; obtain ⟨ws,H1,I1,rv,v,F1,rfl,S1,sF,q1⟩:=hus; obtain ⟨u,rfl,ru⟩:=zZ rv; simp only [ResOk,Rep] at q1; obtain ⟨l,xs,rfl,hl,rl⟩:=q1; cases ru; obtain ⟨its,rv2,ht0,hz⟩:=I1.list (.of (S1.sub _ _ hl)); have ht:s1.heap.IsList l its.toArray:=ht0.isList; have lx:xs.length=ks.length:=by rw [rl.len,aD]
 have ln:its.length=ks.length:=by rw [← rv2.length,lx]
 have item:∀ (i:Nat) (v:Value),its[i]? =some v→∃a,v= .ref a∧i<ks.length∧F1 a=some (.tup ((ks.getD i []).map kV)):=fun i v hv'=>by
  have hi:i<ks.length:=by rw [← ln]; exact (cG.mp hv').1
  obtain ⟨x,hx,rx⟩:=rl.get (i:=i) (d:=D.tup ((ks[i]).map kD)) (by rw [cI,hR hi]; rfl); obtain ⟨u,hu',ru⟩:=rv2.get hx; rw [hv'] at hu'; cases hu'; simp only [Rep] at rx; obtain ⟨a,ys,rfl,fa,ry⟩:=rx; have ey:=rep_keys ry; subst ey; cases ru; have e:ks.getD i []=ks[i]:=by simp [dD,hi]
  exact ⟨a,rfl,hi,by rw [e]; exact fa⟩
 refine callT (by omega) ks (ip:=true) (fun _=>hi) (by simpa using ln.symm) (by simpa [ln] using h16) (fun i v hv=> ?_) (I1.ok.hd hc) ht fun h' tk o' T kp g sm kt rt=> ?_
 ·obtain ⟨a,rfl,hi,fa⟩:=item i v (by simpa using hv); exact ⟨a,rfl,key_of I1.hok (S1.sub _ _ fa)⟩
 ·have fp:=I1.fpOk (aN s1.heap.objs.size) (I1.hok.fresh (aN _)); refine k _ H1 F1 s1.heap.objs.size o' T (I1.kept kp) S1 sF g sm fp kt fun p hp=> ?_
  obtain ⟨i,hi,ei⟩:=rt p hp; obtain ⟨a,ea,_,fa⟩:=item i _ (by simpa using hi); cases ea; rw [← ei]; exact fa
end
open PySem.W (KasT kas_sort kas_asc kas_desc kas_tail3 kas_descPart kas_count kas_place kas_bin kas_rev kas_ask kas_item kat_lt kat_cons kat_nil kat_yes kat_no kat_one kat_kind kat_run kat_snds KatTups)
inductive Bel {α:Type} (n:Nat) (P:α→Prop):KasT α→Prop
 | ret {a:α}:P a→Bel n P (.ret a)
 | ask {i j:Nat} {k:Bool→KasT α}:i<n→j<n→(∀b,Bel n P (k b))→Bel n P (.ask i j k)
def PairAt (h:Heap) (v:Value) (x:Int × Int):Prop:=∃a o n t u,v= .ref a∧h.get? a=some o∧o.cls= .type "tuple"∧o.data= .seq #[.int x.1 t, .int x.2 u] n
inductive PairsAt (h:Heap):List Value→List (Int × Int)→Prop
 | nil:PairsAt h [] []
 | cons {v:Value} {x:Int × Int} {vs:List Value} {ps:List (Int × Int)}:PairAt h v x→PairsAt h vs ps→PairsAt h (v::vs) (x::ps)
open PySem.W (KasT kas_sort kas_asc kas_desc kas_tail3 kas_descPart kas_count kas_place kas_bin kas_rev)
structure Ord (n:Nat) (ans:Nat→Nat→Bool):Prop where
 tr:∀i j k,i<n→j<n→k<n→ans i j=true→ans j k=true→ans i k=true
 ir:∀i,i<n→ans i i=false
 tt:∀i j,i<n→j<n→i≠j→ans i j=true∨ans j i=true
abbrev gN (p:Array Nat) (k:Nat):Nat:=p.getD k 0
open PySem.W (KasT kas_sort kas_asc kas_desc kas_tail3 kas_descPart kas_count kas_place kas_bin kas_rev kas_ask kas_item kat_lt kat_cons kat_nil kat_yes kat_no kat_one kat_kind kat_run kat_snds KatTups KatLex)
def lexF (fin:Bool):List Int→List Int→Bool
 | a::as,b::bs=>if (a==b)=true then lexF fin as bs else decide (a<b)
 | _,_=>fin
def ltI (x y:List Int):Bool:=lexF (decide (x.length<y.length)) x y
def TupAt1 (h:Heap) (v:Value) (x:List Int):Prop:=∃a o n,∃its:List Value,v= .ref a∧h.get? a=some o∧o.cls= .type "tuple"∧o.data= .seq its.toArray n∧IntsAre its x∧x≠[]
inductive TupsAt (h:Heap):List Value→List (List Int)→Prop
 | nil:TupsAt h [] []
 | cons {v:Value} {x:List Int} {vs:List Value} {ps:List (List Int)}:TupAt1 h v x→TupsAt h vs ps→TupsAt h (v::vs) (x::ps)
theorem TupsAt.tups {h:Heap} {vs:List Value} {ps:List (List Int)} (p:TupsAt h vs ps):∃fs:List Value,KatTups h vs fs∧fs.length=ps.length∧∀v∈fs,∃i t,v= .int i t:=by
 induction p with
 | nil=>exact ⟨[], .nil,rfl,fun v hv=>by cases hv⟩
 | cons a _ ih=>
  obtain ⟨a,o,n,its,rfl,g,c,d,hi,hne⟩:=a; obtain ⟨fs,k,l,i⟩:=ih; cases hi with
  | nil=>exact absurd rfl hne
  | cons z t hi=>
   refine ⟨.int z t::fs, .cons g c d (by simp) k,by rw [dS,dS,l],fun v hv=> ?_⟩
   rcases aS.mp hv with rfl | hv
   ·exact ⟨_,_,rfl⟩
   ·exact i v hv
section
variable {prog:Program} {w:World} {A:Around} {E:Value→Shared→Prop} {s:Shared}
theorem katI {fin:Bool} {Q:Bool→Shared→Prop}:∀ {x y:List Int} {vs us:List Value} (i:Nat),IntsAre vs x→IntsAre us y→Q (lexF fin x y) s→KatLex prog w A true fin Q (vs.zip us) (i+1) s
 | [],y,_,us,i, .nil,_,h=>by
  have e:lexF fin [] y=fin:=by cases y<;>rfl
  rw [e] at h; rw [List.zip_nil_left]; exact kat_nil h
 | a::as,[],_::_,_,i, .cons _ _ _, .nil,h=>by rw [List.zip_nil_right]; exact kat_nil h
 | a::as,b::bs,_::_,_::_,i, .cons _ t h1, .cons _ u h2,h=>by
  rw [sQ]; refine kat_cons (wpAny_eqBool_int ?_)
  by_cases e:(a==b)=true
  ·rw [e]; refine kat_yes (katI (i+1) h1 h2 ?_); unfold lexF at h; rw [if_pos e] at h; exact h
  ·rw [uB.mpr e]; unfold lexF at h; rw [if_neg e] at h; refine kat_no ?_; have e0:(true && (i+1==0))=false:=by simp
   rw [e0]; exact kat_one _ _ (PyProof.Rows.lt_int h)
theorem askI {v1 v2:Value} {x y:List Int} {Q:Bool→Shared→Prop} (h1:TupAt1 s.heap v1 x) (h2:TupAt1 s.heap v2 y) (h:Q (ltI x y) s):wpAny (model prog w) A (keyLt' (tuples' true) v1 v2) Q E s:=by
 obtain ⟨a,o,n,its,rfl,g,c,d,i1,e1⟩:=h1; obtain ⟨a2,o2,n2,its2,rfl,g2,c2,d2,i2,e2⟩:=h2; have l1:its.length=x.length:=i1.length; have l2:its2.length=y.length:=i2.length; refine kat_lt g d g2 d2 ?_; unfold ltI at h; rw [aQ,aQ,l1,l2]; show KatLex prog w A true _ Q (its.zip its2) 0 s; cases i1 with
 | nil=>exact absurd rfl e1
 | cons p t i1=>
  cases i2 with
  | nil=>exact absurd rfl e2
  | cons q u i2=>
   rw [sQ]; refine kat_cons (wpAny_eqBool_int ?_)
   by_cases e:(p==q)=true
   ·rw [e]; refine kat_yes (katI 0 i1 i2 ?_); unfold lexF at h; rw [if_pos e] at h; exact h
   ·rw [uB.mpr e]; unfold lexF at h; rw [if_neg e] at h; exact kat_no (oneLt_int h)
theorem kindI {vs:List Value} {ps:List (List Int)} {Q:SortKind→Shared→Prop} (p:TupsAt s.heap vs ps) (h0:0<ps.length) (h:Q (tuples' true) s):wpAny (model prog w) A (keyKind' vs.toArray) Q E s:=by obtain ⟨fs,k,l,i⟩:=p.tups; refine kat_kind (T:= .type "int") k (by omega) (fun v hv=> ?_) rfl h; obtain ⟨n,t,rfl⟩:=i v hv; exact .now
end
open PySem.W (KasT kas_sort)
def CanC (p:Int × Int) (c:List (List Int)):Prop:=((bC p).filter fun f=>decide (f∈c))=c
theorem sub_can {l c:List (List Int)} (h:c.Sublist l) (nd:l.Nodup):(l.filter fun f=>decide (f∈c))=c:=by
 induction h with
 | slnil=>rfl
 | cons a h ih=>obtain ⟨na,nd⟩:=cV.mp nd; rw [List.filter_cons_of_neg (by simpa using fun z=>na (h.subset z))]; exact ih nd
 | cons_cons a h ih=>
  obtain ⟨na,nd⟩:=cV.mp nd; rw [List.filter_cons_of_pos (by simp)]; refine congrArg (a::·) ?_; refine (nX fun f hf=> ?_).trans (ih nd); have ne:f≠a:=fun e=>na (e▸hf)
  simp [ne]
section
variable {p:Int × Int} {τ:List Nat} {c d:List (List Int)} {W:List (Option (List (List Int)))} {T:List (List Int)}
structure WCan (p:Int × Int) (W:List (Option (List (List Int)))):Prop where
 len:W.length=(bC p).length
 ok:∀o∈W,∀c,o=some c→c≠[]∧CanC p c
end
def rkA (r:Keyed→Nat) (xs:Array Keyed) (i:Nat):Nat:=match xs[i]? with
 | some p=>r p
 | none=>0
def AscR (r:Keyed→Nat) (xs:Array Keyed) (l h:Nat):Prop:=∀i j,l≤i→i<j→j<h→rkA r xs i<rkA r xs j
theorem iI {r:Keyed→Nat} {xs ys:Array Keyed} {i j:Nat} (h:xs[i]? =ys[j]?):rkA r xs i=rkA r ys j:=by unfold rkA; rw [h]
theorem eM {r:Keyed→Nat} {xs:Array Keyed} {i:Nat} (h:i<xs.size):rkA r xs i=r xs[i]:=by unfold rkA; rw [getElem?_pos xs i h]
structure lY (prog:Program) (w:World) (A:Around) (E:Value→Shared→Prop) (s:Shared) (κ:SortKind) (r:Keyed→Nat) (a₀:Array Keyed):Prop where
 ask:∀ {x y:Keyed} {st:SortSt} {Q:Option Bool→SortSt→Prop},x∈a₀.toList→y∈a₀.toList→kindOf st=κ→Q (some (decide (r x<r y))) st→wpS (model prog w) A E s (lt' x y) Q st
 nd:(a₀.toList.map r).Nodup
structure SB (κ:SortKind) (a₀:Array Keyed) (st:SortSt):Prop where
 perm:(arrOf st).Perm a₀
 kind:kindOf st=κ
 failed:failedOf st=none
structure Stp (κ:SortKind) (a₀:Array Keyed) (lo hi:Nat) (st st':SortSt):Prop where
 sb:SB κ a₀ st'
 pend:pendingOf st'=pendingOf st
 keep:∀k,k<lo∨hi≤k→(arrOf st')[k]? =(arrOf st)[k]?
section
variable {prog:Program} {w:World} {A:Around} {E:Value→Shared→Prop} {s:Shared} {κ:SortKind} {r:Keyed→Nat} {a₀:Array Keyed} {st st':SortSt}
theorem SB.size (h:SB κ a₀ st):(arrOf st).size=a₀.size:=h.perm.size_eq
theorem SB.mem (h:SB κ a₀ st) {i:Nat} (hi:i<(arrOf st).size):(arrOf st)[i]∈a₀.toList:=(gO.mp h.perm).mem_iff.mp (by simp)
theorem nd_ne {xs:Array Keyed} (nd:(xs.toList.map r).Nodup) {i j:Nat} (hi:i<xs.size) (hj:j<xs.size) (hij:i≠j):rkA r xs i≠rkA r xs j:=fun e=>by
 rw [eM hi,eM hj] at e; have e2:(xs.toList.map r)[i]'(by simpa using hi)=(xs.toList.map r)[j]'(by simpa using hj):=by simpa using e
 exact hij ((vC nd).mp e2)
theorem SB.nd (h:SB κ a₀ st) (K:lY prog w A E s κ r a₀):((arrOf st).toList.map r).Nodup:=(((gO.mp h.perm).map r).nodup_iff).mpr K.nd
theorem SB.ne (h:SB κ a₀ st) (K:lY prog w A E s κ r a₀) {i j:Nat} (hi:i<a₀.size) (hj:j<a₀.size) (hij:i≠j):rkA r (arrOf st) i≠rkA r (arrOf st) j:=
 nd_ne (h.nd K) (by rw [h.size]; exact hi) (by rw [h.size]; exact hj) hij
theorem Stp.refl (h:SB κ a₀ st) (lo hi:Nat):Stp κ a₀ lo hi st st:=⟨h,rfl,fun _ _=>rfl⟩
theorem Stp.trans {lo hi:Nat} {st'':SortSt} (h:Stp κ a₀ lo hi st st') (h2:Stp κ a₀ lo hi st' st''):Stp κ a₀ lo hi st st'':=⟨h2.sb,h2.pend.trans h.pend,fun k hk=>(h2.keep k hk).trans (h.keep k hk)⟩
theorem SB.setArr (h:SB κ a₀ st) {xs:Array Keyed} (hp:xs.Perm (arrOf st)):SB κ a₀ (setArr st xs):=⟨hp.trans h.perm,h.kind,h.failed⟩
theorem eS {xs:Array Keyed} {i:Nat} {Q:Keyed→SortSt→Prop} (hi:i<xs.size) (h:Q xs[i] st):wpS (model prog w) A E s (elem' xs i) Q st:=by rw [elem'_eq,getElem?_pos xs i hi]; exact wpS_pure h
theorem sB {i j:Nat} {Q:Option Bool→SortSt→Prop} (K:lY prog w A E s κ r a₀) (hB:SB κ a₀ st) (hi:i<a₀.size) (hj:j<a₀.size)
  (h:Q (some (decide (rkA r (arrOf st) i<rkA r (arrOf st) j))) st):wpS (model prog w) A E s (ltAt' i j) Q st:=by
 have hi':i<(arrOf st).size:=by rw [hB.size]; exact hi
 have hj':j<(arrOf st).size:=by rw [hB.size]; exact hj
 rw [ltAt'_eq]; refine wpS_bind (wpS_get ?_); show wpS _ _ _ _ (do let x ← elem' (arrOf st) i; let y ← elem' (arrOf st) j; lt' x y) Q st; refine wpS_bind (eS hi' (wpS_bind (eS hj' (K.ask (hB.mem hi') (hB.mem hj') hB.kind ?_)))); rw [eM hi',eM hj'] at h; exact h
theorem zQ {xs:Array Keyed} {i j:Nat} (hj:j≤xs.size) (k:Nat):
  rkA r (mirror xs i j ((j - i) / 2)) k=if i≤k∧k<j then rkA r xs (i+j - 1 - k) else rkA r xs k:=by
 have e:=getElem?_mirror_all (i:=i) hj k
 by_cases h1:i≤k∧k<j
 ·rw [if_pos h1] at e ⊢; exact iI e
 ·rw [if_neg h1] at e ⊢; exact iI e
theorem rk_bubble {xs:Array Keyed} {src d:Nat} (hs:src<xs.size) (hd:d≤src) (k:Nat):
  rkA r (bubble xs src d) k=if k=src - d then rkA r xs src else if src - d<k∧k≤src then rkA r xs (k - 1) else rkA r xs k:=by
 have e:=getElem?_bubble hs d hd k
 by_cases h1:k=src - d
 ·rw [if_pos h1] at e ⊢; exact iI e
 ·rw [if_neg h1] at e ⊢
  by_cases h2:src - d<k∧k≤src
  ·rw [if_pos h2] at e ⊢; exact iI e
  ·rw [if_neg h2] at e ⊢; exact iI e
theorem AscR.snoc {xs:Array Keyed} {l h:Nat} (a:AscR r xs l h) (lt:l<h) (q:rkA r xs (h - 1)<rkA r xs h):AscR r xs l (h+1):=fun i j hi hij hj=>by
 by_cases e:j=h
 ·subst e
  by_cases e2:i=j - 1
  ·rw [e2]; exact q
  ·exact uG (a i (j - 1) hi (by omega) (by omega)) q
 ·exact a i j hi hij (by omega)
theorem wpS_asc {lo a nrem:Nat} {Q:Option (Option Nat) × Nat→SortSt→Prop} (K:lY prog w A E s κ r a₀) (hB:SB κ a₀ st) (ha:1≤a) (han:a≤nrem) (hn:lo+nrem≤a₀.size) (hs:AscR r (arrOf st) lo (lo+a))
  (h:∀m,a≤m→m≤nrem→AscR r (arrOf st) lo (lo+m)→(m<nrem→rkA r (arrOf st) (lo+m)<rkA r (arrOf st) (lo+m - 1))→Q (none,m) st):
  wpS (model prog w) A E s (forIn [a:nrem] ((none,a):Option (Option Nat) × Nat) fun _ __s=>do
   let __x ← ltAt' (lo+__s.snd) (lo+__s.snd - 1)
   match __x with
   | some smaller=>if smaller=true then pure (ForInStep.done (none,__s.snd)) else pure (ForInStep.yield (none,__s.snd+1))
   | _=>pure (ForInStep.done (some none,__s.snd))) Q st:=by
 refine wpS_forRange (I:=fun x c st'=>st'=st∧c=(none,x)∧AscR r (arrOf st) lo (lo+x)) ?_ ?_ ⟨rfl,rfl,hs⟩
 ·rintro x c st' hx hxn ⟨rfl,rfl,hs'⟩; dsimp only; refine wpS_bind (sB K hB (by omega) (by omega) ?_)
  by_cases q:rkA r (arrOf st') (lo+x)<rkA r (arrOf st') (lo+x - 1)
  ·simp only [q,decide_true,if_true]; exact wpS_pure (h x hx (by omega) hs' fun _=>q)
  ·simp only [q,decide_false,aK,if_false]; refine wpS_pure ⟨rfl,rfl, ?_⟩; have ne:=hB.ne K (i:=lo+x) (j:=lo+x - 1) (by omega) (by omega) (by omega); exact hs'.snoc (by omega) (by omega)
 ·rintro c st' ⟨rfl,rfl,hs'⟩; rw [show max a nrem=nrem by omega] at hs' ⊢; exact h nrem han (aN _) hs' fun z=>absurd z (eP _)
def DscR (r:Keyed→Nat) (xs:Array Keyed) (l h:Nat):Prop:=∀i j,l≤i→i<j→j<h→rkA r xs j<rkA r xs i
theorem DscR.snoc {xs:Array Keyed} {l h:Nat} (a:DscR r xs l h) (lt:l<h) (q:rkA r xs h<rkA r xs (h - 1)):DscR r xs l (h+1):=fun i j hi hij hj=>by
 by_cases e:j=h
 ·subst e
  by_cases e2:i=j - 1
  ·rw [e2]; exact q
  ·exact uG q (a i (j - 1) hi (by omega) (by omega))
 ·exact a i j hi hij (by omega)
theorem wpS_countR {lo nrem:Nat} {Q:Option Nat→SortSt→Prop} (K:lY prog w A E s κ r a₀) (hB:SB κ a₀ st) (h1:1≤nrem) (hn:lo+nrem≤a₀.size)
  (h:∀m st',1≤m→m≤nrem→Stp κ a₀ lo (lo+nrem) st st'→AscR r (arrOf st') lo (lo+m)→Q (some m) st'):wpS (model prog w) A E s (countRun' lo nrem) Q st:=by
 rw [countRun'_eq]; refine wpS_bind (wpS_asc K hB (aN 1) h1 hn (fun i j h1 h2 h3=>by omega) fun m hm1 hm2 hs hq=> ?_); dsimp only
 by_cases e:m=nrem
 ·rw [if_pos (by simpa using e)]; exact wpS_pure (h m st hm1 hm2 (.refl hB _ _) hs)
 ·rw [if_neg (by simpa using e)]
  by_cases m1:m>1
  ·rw [if_pos m1]; refine wpS_bind (sB K hB (by omega) (by omega) ?_); rw [decide_eq_true (hs lo (lo+m - 1) (aN _) (by omega) (by omega))]; dsimp only; rw [if_pos rfl]; exact wpS_pure (h m st hm1 hm2 (.refl hB _ _) hs)
  ·rw [if_neg m1]; have em:m=1:=by omega
   subst em; have hq:=hq (by omega); refine wpS_bind (wpS_lift (wpAny_rule ⟨rfl, ?_⟩)); refine wpS_bind (wpS_mono (wpS_forRange (I:=fun x c st'=>st'=st∧c=(none,x,0)∧DscR r (arrOf st) lo (lo+x)) (Q:=fun c st'=>st'=st∧∃m,c=(none,m,0)∧2≤m∧m≤nrem∧DscR r (arrOf st) lo (lo+m)) ?step ?fin ⟨rfl,rfl, ?init⟩) ?post)
   case init=>
    intro i j h1 h2 h3; have e1:i=lo:=by omega
    have e2:j=lo+1:=by omega
    subst e1 e2; exact hq
   case step=>
    rintro x c st' hx hxn ⟨rfl,rfl,hs'⟩; dsimp only; refine wpS_bind (sB K hB (by omega) (by omega) ?_)
    by_cases q:rkA r (arrOf st') (lo+x)<rkA r (arrOf st') (lo+x - 1)
    ·simp only [q,decide_true,if_true]; rw [if_neg (by omega)]; exact wpS_pure ⟨rfl,rfl,hs'.snoc (by omega) q⟩
    ·simp only [q,decide_false,aK,if_false]; refine wpS_bind (sB K hB (by omega) (by omega) ?_); have ne:=hB.ne K (i:=lo+x) (j:=lo+x - 1) (by omega) (by omega) (by omega); rw [decide_eq_true (show rkA r (arrOf st') (lo+x - 1)<rkA r (arrOf st') (lo+x) by omega)]; dsimp only; rw [if_pos rfl]; exact wpS_pure ⟨rfl,x,rfl,hx,by omega,hs'⟩
   case fin=>rintro c st' ⟨rfl,rfl,hs'⟩; rw [show max (1+1) nrem=nrem by omega] at hs' ⊢; exact ⟨rfl,nrem,rfl,by omega,aN _,hs'⟩
   case post=>
    rintro c st' ⟨rfl,m,rfl,m2,mn,hd⟩; dsimp only; rw [if_neg (by omega),reverseSlice'_eq]; refine wpS_bind (wpS_modify ?_); have hz:lo+m≤(arrOf st').size:=by rw [hB.size]; omega
    have S:Stp κ a₀ lo (lo+nrem) st' (setArr st' (mirror (arrOf st') lo (lo+m) ((lo+m - lo) / 2))):=by refine ⟨hB.setArr (mirror_perm _ _ _ _),rfl,fun k hk=> ?_⟩; show (mirror (arrOf st') lo (lo+m) ((lo+m - lo) / 2))[k]? =_; rw [getElem?_mirror_all hz,if_neg (by omega)]
    refine wpS_bind (wpS_asc K S.sb (by omega) mn hn (fun i j h1 h2 h3=> ?_) fun m' a1 a2 a3 _=> ?_)
    ·show rkA r (mirror (arrOf st') lo (lo+m) ((lo+m - lo) / 2)) i<rkA r (mirror (arrOf st') lo (lo+m) ((lo+m - lo) / 2)) j; rw [zQ hz,zQ hz,if_pos (by omega),if_pos (by omega)]; exact hd _ _ (by omega) (by omega) (by omega)
    ·exact wpS_pure (h m' _ (by omega) a2 S a3)
theorem wpS_binR {lo n ok:Nat} {Q:Bool→SortSt→Prop} (K:lY prog w A E s κ r a₀) (hB:SB κ a₀ st) (hn:lo+n≤a₀.size) (hok:ok≤n) (hs:AscR r (arrOf st) lo (lo+ok))
  (h:∀st',Stp κ a₀ lo (lo+n) st st'→AscR r (arrOf st') lo (lo+n)→Q true st'):wpS (model prog w) A E s (binarySort' lo n ok) Q st:=by
 rw [binarySort'_eq]
 refine wpS_bind (wpS_mono (wpS_forRange (I:=fun k c st'=>c=(none,())∧Stp κ a₀ lo (lo+n) st st'∧AscR r (arrOf st') lo (lo+min k n))
  (Q:=fun c st'=>c=(none,())∧Stp κ a₀ lo (lo+n) st st'∧AscR r (arrOf st') lo (lo+n)) ?step ?fin ?init) ?post)
 case post=>rintro c st' ⟨rfl,S,hs'⟩; exact wpS_pure (h st' S hs')
 case init=>refine ⟨rfl, .refl hB _ _,fun i j hi hij hj=> ?_⟩; exact hs i j hi hij (by omega)
 case fin=>
  rintro c st' ⟨hc,S,hs'⟩; refine ⟨hc,S, ?_⟩
  rwa [show min (max (max ok 1) n) n=n by omega] at hs'
 case step=>
  rintro k c st' hak hkn ⟨rfl,S,hs'⟩; rw [show min k n=k by omega] at hs'; have hB':=S.sb; have hk:lo+k<a₀.size:=by omega
  refine wpS_bind (wpS_mono (wpS_forRange (I:=fun x c st''=>st''=st'∧∃l r',c=(none,l,r')∧l≤r'∧r'≤k∧r' - l≤k - x∧
    (∀i,i<l→rkA r (arrOf st') (lo+i)<rkA r (arrOf st') (lo+k))∧(∀i,r'≤i→i<k→rkA r (arrOf st') (lo+k)<rkA r (arrOf st') (lo+i)))
   (Q:=fun c st''=>st''=st'∧∃l r',c=(none,l,r')∧l≤k∧
    (∀i,i<l→rkA r (arrOf st') (lo+i)<rkA r (arrOf st') (lo+k))∧(∀i,l≤i→i<k→rkA r (arrOf st') (lo+k)<rkA r (arrOf st') (lo+i))) ?istep ?ifin ?iinit) ?ipost)
  case iinit=>exact ⟨rfl,0,k,rfl,by omega,by omega,by omega,fun i hi=>by omega,fun i h1 h2=>by omega⟩
  case ifin=>
   rintro c st'' ⟨rfl,l,r',rfl,hlr,hrk,hm,hlo,hhi⟩; have:l=r':=by omega
   subst this; exact ⟨rfl,l,l,rfl,hrk,hlo,hhi⟩
  case istep=>
   rintro x c st'' _ hxk ⟨rfl,l,r',rfl,hlr,hrk,hm,hlo,hhi⟩; dsimp only
   by_cases hge:l≥r'
   ·rw [if_pos hge]; have:l=r':=by omega
    subst this; exact wpS_pure ⟨rfl,l,l,rfl,hrk,hlo,hhi⟩
   ·rw [if_neg hge]; refine wpS_bind (sB K hB' hk (by omega) ?_)
    by_cases hless:rkA r (arrOf st'') (lo+k)<rkA r (arrOf st'') (lo+(l+r') / 2)
    ·simp only [hless,decide_true,if_true]; refine wpS_pure ⟨rfl,l,(l+r') / 2,rfl,by omega,by omega,by omega,hlo,fun i h1 h2=> ?_⟩
     by_cases e:i=(l+r') / 2
     ·rw [e]; exact hless
     ·exact uG hless (hs' _ _ (by omega) (by omega) (by omega))
    ·simp only [hless,decide_false,aK,if_false]; have ne:=hB'.ne K (i:=lo+k) (j:=lo+(l+r') / 2) hk (by omega) (by omega); have hl:rkA r (arrOf st'') (lo+(l+r') / 2)<rkA r (arrOf st'') (lo+k):=by omega
     refine wpS_pure ⟨rfl,(l+r') / 2+1,r',rfl,by omega,by omega,by omega,fun i h1=> ?_,hhi⟩
     by_cases e:i=(l+r') / 2
     ·rw [e]; exact hl
     ·exact uG (hs' _ _ (by omega) (by omega) (by omega)) hl
  case ipost=>
   rintro c st'' ⟨rfl,l,r',rfl,hlk,hlo,hhi⟩; show wpS _ _ _ _ (do moveDown' (lo+k) (lo+l); pure (ForInStep.yield (none,()))) _ _; rw [moveDown'_eq]; have hks:lo+k<(arrOf st'').size:=by rw [hB'.size]; exact hk
   have ed:lo+k - (lo+l)=k - l:=by omega
   rw [ed]; refine wpS_bind (wpS_modify (wpS_pure ⟨rfl,S.trans ⟨hB'.setArr (bubble_perm _ _ _),rfl,fun i hi=> ?_⟩, ?_⟩))
   ·show (bubble (arrOf st'') (lo+k) (k - l))[i]? =_; rw [getElem?_bubble hks _ (by omega),if_neg (by omega),if_neg (by omega)]
   rw [show min (k+1) n=k+1 by omega]; intro i j hi hij hj; show rkA r (bubble (arrOf st'') (lo+k) (k - l)) i<rkA r (bubble (arrOf st'') (lo+k) (k - l)) j; rw [rk_bubble hks (by omega),rk_bubble hks (by omega),show lo+k - (k - l)=lo+l by omega]
   have hlo':∀i,lo≤i→i<lo+l→rkA r (arrOf st'') i<rkA r (arrOf st'') (lo+k):=fun i a b=>by
    have:=hlo (i - lo) (by omega)
    rwa [show lo+(i - lo)=i by omega] at this
   have hhi':∀i,lo+l≤i→i<lo+k→rkA r (arrOf st'') (lo+k)<rkA r (arrOf st'') i:=fun i a b=>by
    have:=hhi (i - lo) (by omega) (by omega)
    rwa [show lo+(i - lo)=i by omega] at this
   repeat' split
   all_goals first
    | (exfalso; omega)
    | exact hlo' _ (by omega) (by omega)
    | exact hhi' _ (by omega) (by omega)
    | exact hs' _ _ (by omega) (by omega) (by omega)
end
def nE:Bool→Keyed→Array Keyed→Nat→Nat→Nat→StateT SortSt Sem (Option Nat):=sortPriv%PySem.Builtin.gallop
def bey (left:Bool) (key:Keyed) (arr:Array Keyed) (base i:Nat):StateT SortSt Sem (Option Bool):=do
  let x ← elem' arr (base+i)
  if left then lt' x key else return (← lt' key x).map (!·)
theorem gallop'_eq (left:Bool) (key:Keyed) (arr:Array Keyed) (base n hint:Nat):nE left key arr base n hint=(do
 let mut lastofs:=0
 let mut ofs:=1
 let mut lo:=0
 let mut hi:=0
 let some right ← bey left key arr base hint | return none
 if right then
  let maxofs:=n - hint
  for _ in [0:n] do
   if ofs≥maxofs then break
   let some more ← bey left key arr base (hint+ofs) | return none
   if !more then break
   lastofs:=ofs
   ofs:=2 * ofs+1
  lo:=hint+lastofs+1
  hi:=hint+min ofs maxofs
 else
  let maxofs:=hint+1
  for _ in [0:n] do
   if ofs≥maxofs then break
   let some found ← bey left key arr base (hint - ofs) | return none
   if found then break
   lastofs:=ofs
   ofs:=2 * ofs+1
  lo:=hint+1 - min ofs maxofs
  hi:=hint - lastofs
 for _ in [0:n] do
  if lo≥hi then break
  let m:=lo+(hi - lo) / 2
  let some more ← bey left key arr base m | return none
  if more then lo:=m+1 else hi:=m
 return some hi):=rfl
section
variable {prog:Program} {w:World} {A:Around} {E:Value→Shared→Prop} {s:Shared} {κ:SortKind} {r:Keyed→Nat} {a₀:Array Keyed} {st st':SortSt}
theorem sE {left:Bool} {key:Keyed} {xs:Array Keyed} {base i:Nat} {Q:Option Bool→SortSt→Prop} (K:lY prog w A E s κ r a₀) (hk:kindOf st=κ) (mx:∀x∈xs.toList,x∈a₀.toList) (mk:key∈a₀.toList) (hi:base+i<xs.size) (ne:rkA r xs (base+i)≠r key)
  (h:Q (some (decide (rkA r xs (base+i)<r key))) st):wpS (model prog w) A E s (bey left key xs base i) Q st:=by
 unfold bey; refine wpS_bind (eS hi ?_); have m1:xs[base+i]∈a₀.toList:=mx _ (by simp); rw [eM hi] at h ne; cases left with
 | true=>exact K.ask m1 mk hk h
 | false=>
  refine wpS_bind (K.ask mk m1 hk (wpS_pure ?_))
  have e:(!decide (r key<r xs[base+i]))=decide (r xs[base+i]<r key):=by
   by_cases q:r xs[base+i]<r key
   ·rw [decide_eq_true q,decide_eq_false (by omega)]; rfl
   ·rw [decide_eq_false q,decide_eq_true (by omega)]; rfl
  show Q (some (!decide (r key<r xs[base+i]))) st; rw [e]; exact h
theorem AscR.le {xs:Array Keyed} {base n:Nat} (a:AscR r xs base (base+n)) {i j:Nat} (hij:i≤j) (hj:j<n):rkA r xs (base+i)≤rkA r xs (base+j):=by
 by_cases e:i=j
 ·rw [e]; exact aN _
 ·exact dP (a _ _ (by omega) (by omega) (by omega))
theorem pZ {left:Bool} {key:Keyed} {xs:Array Keyed} {base n hint:Nat} {Q:Option Nat→SortSt→Prop} (K:lY prog w A E s κ r a₀) (hk:kindOf st=κ) (mx:∀x∈xs.toList,x∈a₀.toList) (mk:key∈a₀.toList) (hx:base+n≤xs.size) (hh:hint<n)
  (asc:AscR r xs base (base+n)) (ne:∀i,i<n→rkA r xs (base+i)≠r key)
  (h:∀k,k≤n→(∀i,i<k→rkA r xs (base+i)<r key)→(∀i,k≤i→i<n→r key<rkA r xs (base+i))→Q (some k) st):wpS (model prog w) A E s (nE left key xs base n hint) Q st:=by
 rw [gallop'_eq]; refine wpS_bind (sE K hk mx mk (by omega) (ne _ hh) ?_)
 by_cases q:rkA r xs (base+hint)<r key
 ·simp only [q,decide_true,if_true]
  refine wpS_bind (wpS_mono (wpS_forRange (I:=fun x c st'=>st'=st∧∃last ofs,c=(none,last,ofs)∧last<ofs∧x+1≤ofs∧hint+last<n∧rkA r xs (base+(hint+last))<r key)
   (Q:=fun c st'=>st'=st∧∃last ofs,c=(none,last,ofs)∧last<ofs∧hint+last<n∧rkA r xs (base+(hint+last))<r key∧(n - hint≤ofs∨(hint+ofs<n∧r key<rkA r xs (base+(hint+ofs))))) ?step ?fin ⟨rfl,0,1,rfl,by omega,by omega,hh,q⟩) ?post)
  case fin=>rintro c st' ⟨rfl,last,ofs,rfl,a,b,c,d⟩; exact ⟨rfl,last,ofs,rfl,a,c,d, .inl (by omega)⟩
  case step=>
   rintro x c st' _ hxn ⟨rfl,last,ofs,rfl,a,b,c,d⟩; dsimp only
   by_cases z:ofs≥n - hint
   ·rw [if_pos z]; exact wpS_pure ⟨rfl,last,ofs,rfl,a,c,d, .inl z⟩
   ·rw [if_neg z]; refine wpS_bind (sE K hk mx mk (by omega) (ne _ (by omega)) ?_)
    by_cases y:rkA r xs (base+(hint+ofs))<r key
    ·simp only [y,decide_true,fM,aK,if_false]; exact wpS_pure ⟨rfl,ofs,2 * ofs+1,rfl,by omega,by omega,by omega,y⟩
    ·simp only [y,decide_false,jZ,if_true]; have y':=ne (hint+ofs) (by omega); exact wpS_pure ⟨rfl,last,ofs,rfl,a,c,d, .inr ⟨by omega,by omega⟩⟩
  case post=>
   rintro c st' ⟨rfl,last,ofs,rfl,a,b,c,d⟩; dsimp only; have l1:hint+last+1≤hint+min ofs (n - hint):=by omega
   have l2:hint+min ofs (n - hint)≤n:=by omega
   have hl:∀i,i<hint+last+1→rkA r xs (base+i)<r key:=fun i hi=>cE (asc.le (by omega) b) c
   have hg:∀i,hint+min ofs (n - hint)≤i→i<n→r key<rkA r xs (base+i):=fun i h1 h2=>by
    rcases d with d | ⟨d1,d2⟩
    ·omega
    ·exact aP d2 (asc.le (by omega) h2)
   refine wpS_bind (wpS_mono (wpS_forRange (I:=fun x c st''=>st''=st'∧∃lo hi,c=(none,lo,hi)∧lo≤hi∧hi≤n∧hi - lo≤n - x∧(∀i,i<lo→rkA r xs (base+i)<r key)∧(∀i,hi≤i→i<n→r key<rkA r xs (base+i)))
    (Q:=fun c st''=>st''=st'∧∃k,c=(none,k,k)∧k≤n∧(∀i,i<k→rkA r xs (base+i)<r key)∧(∀i,k≤i→i<n→r key<rkA r xs (base+i))) ?step ?fin ⟨rfl,_,_,rfl,l1,l2,by omega,hl,hg⟩) ?post)
   case post=>rintro c st'' ⟨rfl,k,rfl,a,b,c⟩; exact wpS_pure (h k a b c)
   case fin=>
    rintro c st'' ⟨rfl,lo,hi,rfl,a,b,c,d,e⟩; have:lo=hi:=by omega
    subst this; exact ⟨rfl,lo,rfl,b,d,e⟩
   case step=>
    rintro x c st'' _ hxn ⟨rfl,lo,hi,rfl,a,b,c,d,e⟩; dsimp only
    by_cases q:lo≥hi
    ·rw [if_pos q]; have:lo=hi:=by omega
     subst this; exact wpS_pure ⟨rfl,lo,rfl,b,d,e⟩
    ·rw [if_neg q]; refine wpS_bind (sE K hk mx mk (by omega) (ne _ (by omega)) ?_)
     by_cases z:rkA r xs (base+(lo+(hi - lo) / 2))<r key
     ·simp only [z,decide_true,if_true]; refine wpS_pure ⟨rfl,lo+(hi - lo) / 2+1,hi,rfl,by omega,b,by omega,fun i hi'=> ?_,e⟩; exact cE (asc.le (by omega) (by omega)) z
     ·simp only [z,decide_false,aK,if_false]; have z':=ne (lo+(hi - lo) / 2) (by omega); refine wpS_pure ⟨rfl,lo,lo+(hi - lo) / 2,rfl,by omega,by omega,by omega,d,fun i h1 h2=> ?_⟩; exact aP (by omega) (asc.le h1 h2)
 ·simp only [q,decide_false,aK,if_false]; have q':=ne hint hh
  refine wpS_bind (wpS_mono (wpS_forRange (I:=fun x c st'=>st'=st∧∃last ofs,c=(none,last,ofs)∧last<ofs∧x+1≤ofs∧last≤hint∧r key<rkA r xs (base+(hint - last)))
   (Q:=fun c st'=>st'=st∧∃last ofs,c=(none,last,ofs)∧last<ofs∧last≤hint∧r key<rkA r xs (base+(hint - last))∧(hint+1≤ofs∨(ofs≤hint∧rkA r xs (base+(hint - ofs))<r key))) ?step ?fin ⟨rfl,0,1,rfl,by omega,by omega,by omega,by rw [Nat.sub_zero]; omega⟩) ?post)
  case fin=>rintro c st' ⟨rfl,last,ofs,rfl,a,b,c,d⟩; exact ⟨rfl,last,ofs,rfl,a,c,d, .inl (by omega)⟩
  case step=>
   rintro x c st' _ hxn ⟨rfl,last,ofs,rfl,a,b,c,d⟩; dsimp only
   by_cases z:ofs≥hint+1
   ·rw [if_pos z]; exact wpS_pure ⟨rfl,last,ofs,rfl,a,c,d, .inl z⟩
   ·rw [if_neg z]; refine wpS_bind (sE K hk mx mk (by omega) (ne _ (by omega)) ?_)
    by_cases y:rkA r xs (base+(hint - ofs))<r key
    ·simp only [y,decide_true,if_true]; exact wpS_pure ⟨rfl,last,ofs,rfl,a,c,d, .inr ⟨by omega,y⟩⟩
    ·simp only [y,decide_false,aK,if_false]; have y':=ne (hint - ofs) (by omega); exact wpS_pure ⟨rfl,ofs,2 * ofs+1,rfl,by omega,by omega,by omega,by omega⟩
  case post=>
   rintro c st' ⟨rfl,last,ofs,rfl,a,b,c,d⟩; dsimp only; have l1:hint+1 - min ofs (hint+1)≤hint - last:=by omega
   have l2:hint - last≤n:=by omega
   have hl:∀i,i<hint+1 - min ofs (hint+1)→rkA r xs (base+i)<r key:=fun i hi=>by
    rcases d with d | ⟨d1,d2⟩
    ·omega
    ·exact cE (asc.le (by omega) (by omega)) d2
   have hg:∀i,hint - last≤i→i<n→r key<rkA r xs (base+i):=fun i h1 h2=>aP c (asc.le (by omega) h2)
   refine wpS_bind (wpS_mono (wpS_forRange (I:=fun x c st''=>st''=st'∧∃lo hi,c=(none,lo,hi)∧lo≤hi∧hi≤n∧hi - lo≤n - x∧(∀i,i<lo→rkA r xs (base+i)<r key)∧(∀i,hi≤i→i<n→r key<rkA r xs (base+i)))
    (Q:=fun c st''=>st''=st'∧∃k,c=(none,k,k)∧k≤n∧(∀i,i<k→rkA r xs (base+i)<r key)∧(∀i,k≤i→i<n→r key<rkA r xs (base+i))) ?step ?fin ⟨rfl,_,_,rfl,l1,l2,by omega,hl,hg⟩) ?post)
   case post=>rintro c st'' ⟨rfl,k,rfl,a,b,c⟩; exact wpS_pure (h k a b c)
   case fin=>
    rintro c st'' ⟨rfl,lo,hi,rfl,a,b,c,d,e⟩; have:lo=hi:=by omega
    subst this; exact ⟨rfl,lo,rfl,b,d,e⟩
   case step=>
    rintro x c st'' _ hxn ⟨rfl,lo,hi,rfl,a,b,c,d,e⟩; dsimp only
    by_cases q:lo≥hi
    ·rw [if_pos q]; have:lo=hi:=by omega
     subst this; exact wpS_pure ⟨rfl,lo,rfl,b,d,e⟩
    ·rw [if_neg q]; refine wpS_bind (sE K hk mx mk (by omega) (ne _ (by omega)) ?_)
     by_cases z:rkA r xs (base+(lo+(hi - lo) / 2))<r key
     ·simp only [z,decide_true,if_true]; refine wpS_pure ⟨rfl,lo+(hi - lo) / 2+1,hi,rfl,by omega,b,by omega,fun i hi'=> ?_,e⟩; exact cE (asc.le (by omega) (by omega)) z
     ·simp only [z,decide_false,aK,if_false]; have z':=ne (lo+(hi - lo) / 2) (by omega); refine wpS_pure ⟨rfl,lo,lo+(hi - lo) / 2,rfl,by omega,by omega,by omega,d,fun i h1 h2=> ?_⟩; exact aP (by omega) (asc.le h1 h2)
end
structure MS (r:Keyed→Nat) (a b:Array Keyed) (out:List Keyed) (ia ib:Nat):Prop where
 ha:ia≤a.size
 hb:ib≤b.size
 perm:out.Perm (a.toList.take ia++b.toList.take ib)
 asc:(out.map r).Pairwise (·<·)
 la:∀x∈out,∀i,ia≤i→i<a.size→r x<rkA r a i
 lb:∀x∈out,∀i,ib≤i→i<b.size→r x<rkA r b i
def MD (r:Keyed→Nat) (a b:Array Keyed) (out:List Keyed):Prop:=out.Perm (a.toList++b.toList)∧(out.map r).Pairwise (·<·)
section
variable {r:Keyed→Nat} {a b:Array Keyed} {out:List Keyed} {ia ib:Nat}
theorem MS.swap (m:MS r a b out ia ib):MS r b a out ib ia:=⟨m.hb,m.ha,m.perm.trans kU,m.asc,m.lb,m.la⟩
theorem MS.pushA (m:MS r a b out ia ib) (h:ia<a.size) (asa:AscR r a 0 a.size) (hb:∀j,ib≤j→j<b.size→rkA r a ia<rkA r b j):MS r a b (out++[a[ia]]) (ia+1) ib:=by
 refine ⟨h,m.hb, ?_, ?_,fun x hx i h1 h2=> ?_,fun x hx i h1 h2=> ?_⟩
 ·have e:a.toList.take (ia+1)=a.toList.take ia++[a[ia]]:=by rw [gG]; simp [h]
  rw [e,gH]; refine (m.perm.append_right _).trans ?_; rw [gH]; exact List.Perm.append_left _ kU
 ·rw [aR,dW]; refine ⟨m.asc,oY _ _,fun x hx y hy=> ?_⟩; obtain ⟨z,hz,rfl⟩:=bB.mp hx; have:y=r a[ia]:=by simpa using hy
  rw [this,← eM (r:=r) h]; exact m.la z hz ia (aN _) h
 ·rcases aY.mp hx with hx | hx
  ·exact m.la x hx i (by omega) h2
  ·rw [bU.mp hx,← eM (r:=r) h]; exact asa ia i (bO _) (by omega) h2
 ·rcases aY.mp hx with hx | hx
  ·exact m.lb x hx i h1 h2
  ·rw [bU.mp hx,← eM (r:=r) h]; exact hb i h1 h2
theorem MS.pushB (m:MS r a b out ia ib) (h:ib<b.size) (asb:AscR r b 0 b.size) (hb:∀j,ia≤j→j<a.size→rkA r b ib<rkA r a j):MS r a b (out++[b[ib]]) ia (ib+1):=(m.swap.pushA h asb hb).swap
theorem ext_succ {k:Nat} (h:ia+k<a.size):(a.extract ia (ia+(k+1))).toList=(a.extract ia (ia+k)).toList++[a[ia+k]]:=by simp only [eH,dH]; rw [show ia+(k+1) - ia=k+1 by omega,show ia+k - ia=k by omega,gG]; simp [h]
theorem ext_zero (i:Nat):(a.extract i (i+0)).toList=[]:=by simp [eH,dH]
theorem MS.extA (asa:AscR r a 0 a.size) (m:MS r a b out ia ib):∀k,ia+k≤a.size→(∀i,i<k→∀j,ib≤j→j<b.size→rkA r a (ia+i)<rkA r b j)→MS r a b (out++(a.extract ia (ia+k)).toList) (ia+k) ib
 | 0,_,_=>by rw [ext_zero,dR]; exact m
 | k+1,h,hb=>by
  have ih:=MS.extA asa m k (by omega) fun i hi=>hb i (by omega)
  rw [ext_succ (by omega),← gH]; exact ih.pushA (by omega) asa (hb k (by omega))
theorem MS.extB (asb:AscR r b 0 b.size) (m:MS r a b out ia ib) (k:Nat) (h:ib+k≤b.size) (hb:∀i,i<k→∀j,ia≤j→j<a.size→rkA r b (ib+i)<rkA r a j):MS r a b (out++(b.extract ib (ib+k)).toList) ia (ib+k):=(m.swap.extA asb k h hb).swap
theorem MS.done (m:MS r a b out a.size b.size):MD r a b out:=by refine ⟨?_,m.asc⟩; have:=m.perm; rw [fO (by simp),fO (by simp)] at this; exact this
theorem MS.finA (m:MS r a b out ia b.size) (asa:AscR r a 0 a.size):MD r a b (out++(a.extract ia a.size).toList):=by
 have h:=m.ha; have:=m.extA asa (a.size - ia) (by omega) fun i hi j h1 h2=>by omega
 rw [show ia+(a.size - ia)=a.size by omega] at this; exact this.done
theorem MS.finL (m:MS r a b out ia ib) (asa:AscR r a 0 a.size) (asb:AscR r b 0 b.size) (h1:ia+1=a.size) (hab:∀j,j<b.size→rkA r b j<rkA r a (a.size - 1)):MD r a b (out++(b.extract ib b.size).toList++(a.extract ia a.size).toList):=by
 have h:=m.hb
 have:=m.extB asb (b.size - ib) (by omega) fun i hi j h1 h2=>by
  have e:j=a.size - 1:=by omega
  rw [e]; exact hab _ (by omega)
 rw [show ib+(b.size - ib)=b.size by omega] at this; exact this.finA asa
theorem ext_all (i:Nat) (h:a.size≤i):(a.extract i a.size).toList=[]:=by
 rw [eH,dH]; have:a.size - i=0:=by omega
 rw [this]; rfl
end
def setG (st:SortSt) (g:Nat):SortSt:=SortSt.mk' (kindOf st) (arrOf st) (pendingOf st) g (failedOf st)
def jJ:Nat→StateT SortSt Sem Unit:=sortPriv%PySem.Builtin.setMinGallop
theorem jB (g:Nat):jJ g=modify fun s=>setG s g:=rfl
def xO:Array Keyed→Array Keyed→StateT SortSt Sem (Array Keyed):=sortPriv%PySem.Builtin.mergeLo
structure SameG (st st':SortSt):Prop where
 kind:kindOf st'=kindOf st
 arr:arrOf st'=arrOf st
 pend:pendingOf st'=pendingOf st
 failed:failedOf st'=failedOf st
theorem SameG.refl (st:SortSt):SameG st st:=⟨rfl,rfl,rfl,rfl⟩
theorem SameG.set {st st':SortSt} (h:SameG st st') (g:Nat):SameG st (setG st' g):=⟨h.kind,h.arr,h.pend,h.failed⟩
structure MPre (r:Keyed→Nat) (a₀ a b:Array Keyed):Prop where
 a1:1≤a.size
 b1:1≤b.size
 asa:AscR r a 0 a.size
 asb:AscR r b 0 b.size
 ma:∀x∈a.toList,x∈a₀.toList
 mb:∀x∈b.toList,x∈a₀.toList
 ne:∀i j,i<a.size→j<b.size→rkA r a i≠rkA r b j
 first:rkA r b 0<rkA r a 0
 last:rkA r b (b.size - 1)<rkA r a (a.size - 1)
theorem AscR.le0 {r:Keyed→Nat} {xs:Array Keyed} {n i j:Nat} (a:AscR r xs 0 n) (hij:i≤j) (hj:j<n):rkA r xs i≤rkA r xs j:=by
 by_cases e:i=j
 ·rw [e]; exact aN _
 ·exact dP (a _ _ (by omega) (by omega) (by omega))
abbrev SM:=StateT SortSt Sem
abbrev ML1:=Option (Array Keyed) × Array Keyed × Nat × Nat × Nat × Nat
abbrev ML2:=Option (Array Keyed) × Array Keyed × Nat × Nat × Nat × Nat × Nat
abbrev ML0:=Option (Array Keyed) × Array Keyed × Nat × Nat × Nat
def dnA (a b out:Array Keyed) (ia ib:Nat):Array Keyed:=out++a.extract ia a.size++b.extract ib b.size
def lsA (a b out:Array Keyed) (ia ib:Nat):Array Keyed:=out++b.extract ib b.size++a.extract ia a.size
def lo1 (a b:Array Keyed) (mg:Nat) (c:ML1):SM (ForInStep ML1):=do
 let y ← elem' b c.2.2.2.1
 let x ← elem' a c.2.2.1
 let q ← lt' y x
 match q with
 | some bw=>
  if bw=true then do
   let y ← elem' b c.2.2.2.1
   if (c.2.2.2.1+1==b.size)=true then pure (.done (some (dnA a b (c.2.1.push y) c.2.2.1 (c.2.2.2.1+1)),c.2.1.push y,c.2.2.1,c.2.2.2.1+1,0,c.2.2.2.2.2+1))
   else if c.2.2.2.2.2+1≥mg then pure (.done (none,c.2.1.push y,c.2.2.1,c.2.2.2.1+1,0,c.2.2.2.2.2+1))
   else pure (.yield (none,c.2.1.push y,c.2.2.1,c.2.2.2.1+1,0,c.2.2.2.2.2+1))
  else do
   let x ← elem' a c.2.2.1
   if (c.2.2.1+1+1==a.size)=true then pure (.done (some (lsA a b (c.2.1.push x) (c.2.2.1+1) c.2.2.2.1),c.2.1.push x,c.2.2.1+1,c.2.2.2.1,c.2.2.2.2.1+1,0))
   else if c.2.2.2.2.1+1≥mg then pure (.done (none,c.2.1.push x,c.2.2.1+1,c.2.2.2.1,c.2.2.2.2.1+1,0))
   else pure (.yield (none,c.2.1.push x,c.2.2.1+1,c.2.2.2.1,c.2.2.2.2.1+1,0))
 | _=>pure (.done (some (dnA a b c.2.1 c.2.2.1 c.2.2.2.1),c.2.1,c.2.2.1,c.2.2.2.1,c.2.2.2.2.1,c.2.2.2.2.2))
def lo2c (a b out:Array Keyed) (ia ib mg k k1:Nat):SM (ForInStep ML2):=do
 let x ← elem' a ia
 if (ia+1+1==a.size)=true then pure (.done (some (lsA a b (out.push x) (ia+1) ib),out.push x,ia+1,ib,mg,k,k1))
 else if (decide (k<7) && decide (k1<7))=true then pure (.done (none,out.push x,ia+1,ib,mg,k,k1))
 else pure (.yield (none,out.push x,ia+1,ib,mg,k,k1))
def lo2b (a b out:Array Keyed) (ia ib mg k bc:Nat):SM (ForInStep ML2):=do
 let y ← elem' b ib
 if (ib+1==b.size)=true then pure (.done (some (dnA a b (out.push y) ia (ib+1)),out.push y,ia,ib+1,mg,k,bc))
 else do
  let x ← elem' a ia
  let q ← nE true x b (ib+1) (b.size - (ib+1)) 0
  match q with
  | some k1=>
   if k1>0 then
    if (ib+1+k1==b.size)=true then pure (.done (some (dnA a b (out.push y++b.extract (ib+1) (ib+1+k1)) ia (ib+1+k1)),out.push y++b.extract (ib+1) (ib+1+k1),ia,ib+1+k1,mg,k,k1))
    else lo2c a b (out.push y++b.extract (ib+1) (ib+1+k1)) ia (ib+1+k1) mg k k1
   else lo2c a b (out.push y) ia (ib+1) mg k k1
  | _=>pure (.done (some (dnA a b (out.push y) ia (ib+1)),out.push y,ia,ib+1,mg,k,bc))
def lo2a (a b out:Array Keyed) (ia ib mg ac bc:Nat):SM (ForInStep ML2):=do
 jJ mg
 let y ← elem' b ib
 let q ← nE false y a ia (a.size - ia) 0
 match q with
 | some k=>
  if k>0 then
   if (ia+k+1==a.size)=true then pure (.done (some (lsA a b (out++a.extract ia (ia+k)) (ia+k) ib),out++a.extract ia (ia+k),ia+k,ib,mg,k,bc))
   else if (ia+k==a.size)=true then pure (.done (some (dnA a b (out++a.extract ia (ia+k)) (ia+k) ib),out++a.extract ia (ia+k),ia+k,ib,mg,k,bc))
   else lo2b a b (out++a.extract ia (ia+k)) (ia+k) ib mg k bc
  else lo2b a b out ia ib mg k bc
 | _=>pure (.done (some (dnA a b out ia ib),out,ia,ib,mg,ac,bc))
def lo2 (a b:Array Keyed) (c:ML2):SM (ForInStep ML2):=
 if c.2.2.2.2.1>1 then lo2a a b c.2.1 c.2.2.1 c.2.2.2.1 (c.2.2.2.2.1 - 1) c.2.2.2.2.2.1 c.2.2.2.2.2.2
 else lo2a a b c.2.1 c.2.2.1 c.2.2.2.1 c.2.2.2.2.1 c.2.2.2.2.2.1 c.2.2.2.2.2.2
def lo0 (a b:Array Keyed) (c:ML0):SM (ForInStep ML0):=do
 let d ← forIn [:a.size+b.size] ((none,c.2.1,c.2.2.1,c.2.2.2.1,0,0):ML1) fun _ d=>lo1 a b c.2.2.2.2 d
 match d.1 with
 | some r=>pure (.done (some r,d.2.1,d.2.2.1,d.2.2.2.1,c.2.2.2.2))
 | none=>do
  liftM (rule "list.sort.gallop")
  let e ← forIn [:a.size+b.size] ((none,d.2.1,d.2.2.1,d.2.2.2.1,c.2.2.2.2+1,d.2.2.2.2.1,d.2.2.2.2.2):ML2) fun _ e=>lo2 a b e
  match e.1 with
  | some r=>pure (.done (some r,e.2.1,e.2.2.1,e.2.2.2.1,e.2.2.2.2.1))
  | none=>do
   jJ (e.2.2.2.2.1+1)
   pure (.yield (none,e.2.1,e.2.2.1,e.2.2.2.1,e.2.2.2.2.1+1))
def loM (a b:Array Keyed):SM (Array Keyed):=do
 liftM (rule "list.sort.merge-lo")
 let y ← elem' b 0
 if (1==b.size)=true then pure (dnA a b #[y] 0 1)
 else if (0+1==a.size)=true then pure (lsA a b #[y] 0 1)
 else do
  let g ← get
  let c ← forIn [:a.size+b.size] ((none, #[y],0,1,gallopOf g):ML0) fun _ c=>lo0 a b c
  match c.1 with
  | some r=>pure r
  | none=>liftM (unsupported "internal:list.sort.merge-bound":Sem (Array Keyed))
theorem loM_eq (a b:Array Keyed):xO a b=loM a b:=by kernel_rfl
def FIN (r:Keyed→Nat) (a b:Array Keyed) (o:Option (Array Keyed)):Prop:=∃res,o=some res∧MD r a b res.toList
def OKm (r:Keyed→Nat) (a b:Array Keyed) (N:Nat) (o:Option (Array Keyed)) (out:Array Keyed) (ia ib:Nat):Prop:=o=none∧MS r a b out.toList ia ib∧ia+1<a.size∧ib<b.size∧N≤ia+ib
theorem OKm.mono {r:Keyed→Nat} {a b:Array Keyed} {N N':Nat} {o:Option (Array Keyed)} {out:Array Keyed} {ia ib:Nat} (h:OKm r a b N o out ia ib) (le:N'≤N):OKm r a b N' o out ia ib:=⟨h.1,h.2.1,h.2.2.1,h.2.2.2.1,dO le h.2.2.2.2⟩
section
variable {prog:Program} {w:World} {A:Around} {E:Value→Shared→Prop} {s:Shared} {κ:SortKind} {r:Keyed→Nat} {a₀ a b out:Array Keyed} {st st0:SortSt} {ia ib:Nat}
theorem MPre.last' (M:MPre r a₀ a b):∀j,j<b.size→rkA r b j<rkA r a (a.size - 1):=fun j hj=>cE (M.asb.le0 (by omega) (by omega)) M.last
theorem fin_dA (M:MPre r a₀ a b) (m:MS r a b out.toList ia ib) (h:ib=b.size):FIN r a b (some (dnA a b out ia ib)):=by subst h; refine ⟨_,rfl, ?_⟩; have:=m.finA M.asa; unfold dnA; rw [dQ,dQ,ext_all _ (aN _),dR]; exact this
theorem fin_lA (M:MPre r a₀ a b) (m:MS r a b out.toList ia ib) (h:ia+1=a.size):FIN r a b (some (lsA a b out ia ib)):=by refine ⟨_,rfl, ?_⟩; have:=m.finL M.asa M.asb h M.last'; unfold lsA; rw [dQ,dQ]; exact this
theorem MS.pushA' (M:MPre r a₀ a b) (m:MS r a b out.toList ia ib) (h:ia<a.size) (hb:∀j,ib≤j→j<b.size→rkA r a ia<rkA r b j):MS r a b (out.push a[ia]).toList (ia+1) ib:=by rw [iT]; exact m.pushA h M.asa hb
theorem MS.pushB' (M:MPre r a₀ a b) (m:MS r a b out.toList ia ib) (h:ib<b.size) (hb:∀j,ia≤j→j<a.size→rkA r b ib<rkA r a j):MS r a b (out.push b[ib]).toList ia (ib+1):=by rw [iT]; exact m.pushB h M.asb hb
theorem MS.extA' (M:MPre r a₀ a b) (m:MS r a b out.toList ia ib) {k:Nat} (h:ia+k≤a.size) (hb:∀i,i<k→∀j,ib≤j→j<b.size→rkA r a (ia+i)<rkA r b j):MS r a b (out++a.extract ia (ia+k)).toList (ia+k) ib:=by rw [dQ]; exact m.extA M.asa k h hb
theorem MS.extB' (M:MPre r a₀ a b) (m:MS r a b out.toList ia ib) {k:Nat} (h:ib+k≤b.size) (hb:∀i,i<k→∀j,ia≤j→j<a.size→rkA r b (ib+i)<rkA r a j):MS r a b (out++b.extract ib (ib+k)).toList ia (ib+k):=by rw [dQ]; exact m.extB M.asb k h hb
def P2 (r:Keyed→Nat) (a b:Array Keyed) (st0:SortSt) (N:Nat):ForInStep ML2→SortSt→Prop:=fun q st'=>SameG st0 st'∧match q with
 | .done c=>FIN r a b c.1∨OKm r a b N c.1 c.2.1 c.2.2.1 c.2.2.2.1
 | .yield c=>OKm r a b N c.1 c.2.1 c.2.2.1 c.2.2.2.1
theorem lo2c_ok {N mg k k1:Nat} (M:MPre r a₀ a b) (S:SameG st0 st) (m:MS r a b out.toList ia ib) (h1:ia+1<a.size) (h2:ib<b.size) (hN:N≤ia+1+ib) (hb:∀j,ib≤j→j<b.size→rkA r a ia<rkA r b j):wpS (model prog w) A E s (lo2c a b out ia ib mg k k1) (P2 r a b st0 N) st:=by
 unfold lo2c; refine wpS_bind (eS (by omega) ?_); have m2:=m.pushA' M (by omega) hb
 by_cases e:ia+1+1=a.size
 ·rw [if_pos (by simpa using e)]; exact wpS_pure ⟨S, .inl (fin_lA M m2 e)⟩
 ·rw [if_neg (by simpa using e)]
  split
  ·exact wpS_pure ⟨S, .inr ⟨rfl,m2,by show ia+1+1<_; omega,h2,hN⟩⟩
  ·exact wpS_pure ⟨S,rfl,m2,by show ia+1+1<_; omega,h2,hN⟩
theorem lo2b_ok {N mg k bc:Nat} (K:lY prog w A E s κ r a₀) (hk:kindOf st0=κ) (M:MPre r a₀ a b) (S:SameG st0 st) (m:MS r a b out.toList ia ib) (h1:ia+1<a.size) (h2:ib<b.size) (hN:N≤ia+1+ib) (hb:∀j,ia≤j→j<a.size→rkA r b ib<rkA r a j):wpS (model prog w) A E s (lo2b a b out ia ib mg k bc) (P2 r a b st0 N) st:=by
 unfold lo2b; refine wpS_bind (eS (by omega) ?_); have m2:=m.pushB' M h2 hb
 by_cases e:ib+1=b.size
 ·rw [if_pos (by simpa using e)]; exact wpS_pure ⟨S, .inl (fin_dA M m2 e)⟩
 ·rw [if_neg (by simpa using e)]; have h1':ia<a.size:=by omega
  refine wpS_bind (eS h1' (wpS_bind (pZ K (S.kind.trans hk) M.mb (M.ma _ (by simp)) (by omega) (by omega) (fun i j h1 h2 h3=>M.asb i j (by omega) h2 (by omega)) (fun i hi e=>M.ne ia (ib+1+i) h1' (by omega) (by rw [e,eM h1'])) fun k1 c1 c2 c3=> ?_))); dsimp only; rw [← eM (r:=r) h1'] at c2 c3; have m3:=m2.extB' M (k:=k1) (by omega) fun i hi j j1 j2=>aP (c2 i hi) (M.asa.le0 j1 j2)
  have c3':∀j,ib+1+k1≤j→j<b.size→rkA r a ia<rkA r b j:=fun j j1 j2=>by
   have:=c3 (j - (ib+1)) (by omega) (by omega)
   rwa [show ib+1+(j - (ib+1))=j by omega] at this
  by_cases z:k1>0
  ·rw [if_pos z]
   by_cases y:ib+1+k1=b.size
   ·rw [if_pos (by simpa using y)]; exact wpS_pure ⟨S, .inl (fin_dA M m3 y)⟩
   ·rw [if_neg (by simpa using y)]; exact lo2c_ok M S m3 h1 (by omega) (by omega) c3'
  ·rw [if_neg z]; have z0:k1=0:=by omega
   subst z0; exact lo2c_ok M S m2 h1 (by omega) (by omega) c3'
theorem lo2a_ok {N mg ac bc:Nat} (K:lY prog w A E s κ r a₀) (hk:kindOf st0=κ) (M:MPre r a₀ a b) (S:SameG st0 st) (m:MS r a b out.toList ia ib) (h1:ia+1<a.size) (h2:ib<b.size) (hN:N≤ia+1+ib):wpS (model prog w) A E s (lo2a a b out ia ib mg ac bc) (P2 r a b st0 N) st:=by
 unfold lo2a; rw [jB]; refine wpS_bind (wpS_modify ?_); have S:=S.set mg; refine wpS_bind (eS h2 (wpS_bind (pZ K (S.kind.trans hk) M.ma (M.mb _ (by simp)) (by omega) (by omega) (fun i j h1 h2 h3=>M.asa i j (by omega) h2 (by omega)) (fun i hi e=>M.ne (ia+i) ib (by omega) h2 (by rw [e,eM h2])) fun k c1 c2 c3=> ?_))); dsimp only; rw [← eM (r:=r) h2] at c2 c3; have m3:=m.extA' M (k:=k) (by omega) fun i hi j j1 j2=>aP (c2 i hi) (M.asb.le0 j1 j2)
 have c3':∀j,ia+k≤j→j<a.size→rkA r b ib<rkA r a j:=fun j j1 j2=>by
  have:=c3 (j - ia) (by omega) (by omega)
  rwa [show ia+(j - ia)=j by omega] at this
 have kl:ia+k<a.size:=by
  by_cases q:ia+k<a.size
  ·exact q
  ·have:=c2 (a.size - 1 - ia) (by omega); rw [show ia+(a.size - 1 - ia)=a.size - 1 by omega] at this; have:=M.last' ib h2; omega
 by_cases z:k>0
 ·rw [if_pos z]
  by_cases y:ia+k+1=a.size
  ·rw [if_pos (by simpa using y)]; exact wpS_pure ⟨S, .inl (fin_lA M m3 y)⟩
  ·rw [if_neg (by simpa using y),if_neg (by simp; omega)]; exact lo2b_ok K hk M S m3 (by omega) h2 (by omega) c3'
 ·rw [if_neg z]; have z0:k=0:=by omega
  subst z0; exact lo2b_ok K hk M S m (by omega) h2 (by omega) c3'
def P1 (r:Keyed→Nat) (a b:Array Keyed) (st:SortSt) (N:Nat):ForInStep ML1→SortSt→Prop:=fun q st'=>st'=st∧match q with
 | .done c=>FIN r a b c.1∨OKm r a b N c.1 c.2.1 c.2.2.1 c.2.2.2.1
 | .yield c=>OKm r a b N c.1 c.2.1 c.2.2.1 c.2.2.2.1
theorem lo1_ok {N mg:Nat} {c:ML1} (K:lY prog w A E s κ r a₀) (hk:kindOf st=κ) (M:MPre r a₀ a b) (h:OKm r a b N c.1 c.2.1 c.2.2.1 c.2.2.2.1):wpS (model prog w) A E s (lo1 a b mg c) (P1 r a b st (N+1)) st:=by
 obtain ⟨o,out,ia,ib,ac,bc⟩:=c; obtain ⟨h0,m,h1,h2,hN⟩:=h; dsimp only at h0 m h1 h2 hN; unfold lo1; dsimp only; have h1':ia<a.size:=by omega
 refine wpS_bind (eS h2 (wpS_bind (eS h1' (wpS_bind (K.ask (M.mb _ (by simp)) (M.ma _ (by simp)) hk ?_))))); dsimp only
 by_cases q:r b[ib]<r a[ia]
 ·rw [if_pos (by simpa using q)]; refine wpS_bind (eS h2 ?_); have q':rkA r b ib<rkA r a ia:=by rw [eM h2,eM h1']; exact q
  have m2:=m.pushB' M h2 fun j j1 j2=>aP q' (M.asa.le0 j1 j2)
  by_cases e:ib+1=b.size
  ·rw [if_pos (by simpa using e)]; exact wpS_pure ⟨rfl, .inl (fin_dA M m2 e)⟩
  ·rw [if_neg (by simpa using e)]
   split
   ·exact wpS_pure ⟨rfl, .inr ⟨rfl,m2,h1,by show ib+1<_; omega,by show _≤ia+(ib+1); omega⟩⟩
   ·exact wpS_pure ⟨rfl,rfl,m2,h1,by show ib+1<_; omega,by show _≤ia+(ib+1); omega⟩
 ·rw [if_neg (by simpa using q)]; refine wpS_bind (eS h1' ?_)
  have q':rkA r a ia<rkA r b ib:=by have:=M.ne ia ib h1' h2; rw [eM h1',eM h2] at this ⊢; omega
  have m2:=m.pushA' M h1' fun j j1 j2=>aP q' (M.asb.le0 j1 j2)
  by_cases e:ia+1+1=a.size
  ·rw [if_pos (by simpa using e)]; exact wpS_pure ⟨rfl, .inl (fin_lA M m2 e)⟩
  ·rw [if_neg (by simpa using e)]
   split
   ·exact wpS_pure ⟨rfl, .inr ⟨rfl,m2,by show ia+1+1<_; omega,h2,by show _≤ia+1+ib; omega⟩⟩
   ·exact wpS_pure ⟨rfl,rfl,m2,by show ia+1+1<_; omega,h2,by show _≤ia+1+ib; omega⟩
def P0 (r:Keyed→Nat) (a b:Array Keyed) (st0:SortSt) (N:Nat):ForInStep ML0→SortSt→Prop:=fun q st'=>SameG st0 st'∧match q with
 | .done c=>FIN r a b c.1
 | .yield c=>OKm r a b N c.1 c.2.1 c.2.2.1 c.2.2.2.1
theorem lo0_ok {N:Nat} {c:ML0} (K:lY prog w A E s κ r a₀) (hk:kindOf st0=κ) (M:MPre r a₀ a b) (S:SameG st0 st) (h:OKm r a b N c.1 c.2.1 c.2.2.1 c.2.2.2.1):wpS (model prog w) A E s (lo0 a b c) (P0 r a b st0 (N+1)) st:=by
 obtain ⟨o,out,ia,ib,mg⟩:=c; obtain ⟨h0,m,h1,h2,hN⟩:=h; dsimp only at h0 m h1 h2 hN; unfold lo0; dsimp only; refine wpS_bind (wpS_mono (wpS_forRange (I:=fun x d st'=>st'=st∧OKm r a b (N+x) d.1 d.2.1 d.2.2.1 d.2.2.2.1) (Q:=fun d st'=>st'=st∧(FIN r a b d.1∨OKm r a b (N+1) d.1 d.2.1 d.2.2.1 d.2.2.2.1)) ?step ?fin ⟨rfl,rfl,m,h1,h2,hN⟩) ?post)
 case step=>
  rintro x d st' _ hx ⟨rfl,hd⟩; refine wpS_mono (lo1_ok K (S.kind.trans hk) M hd) fun q st'' hq=> ?_
  obtain ⟨rfl,hq⟩:=hq; cases q with
  | done d=>exact ⟨rfl,hq.imp id fun z=>z.mono (by omega)⟩
  | yield d=>exact ⟨rfl,hq⟩
 case fin=>rintro d st' ⟨rfl,_,_,h3,h4,h5⟩; omega
 case post=>
  rintro d st' ⟨rfl,hd⟩; obtain ⟨o1,out,ia,ib,ac,bc⟩:=d
  rcases hd with ⟨res,e,hres⟩ | ⟨e,m,h1,h2,hN⟩
  ·dsimp only at e; subst e; exact wpS_pure ⟨S,res,rfl,hres⟩
  ·dsimp only at e m h1 h2 hN; subst e; dsimp only; refine wpS_bind (wpS_lift (wpAny_rule ⟨rfl, ?_⟩)); refine wpS_bind (wpS_mono (wpS_forRange (I:=fun x d st'=>SameG st0 st'∧OKm r a b (N+1+x) d.1 d.2.1 d.2.2.1 d.2.2.2.1) (Q:=fun d st'=>SameG st0 st'∧(FIN r a b d.1∨OKm r a b (N+1) d.1 d.2.1 d.2.2.1 d.2.2.2.1)) ?step2 ?fin2 ⟨S,rfl,m,h1,h2,hN⟩) ?post2)
   case step2=>
    rintro x ⟨o2,out,ia,ib,mg,ac,bc⟩ st' _ hx ⟨S,_,m,h1,h2,hN⟩; dsimp only at m h1 h2 hN; have key:∀mg,wpS (model prog w) A E s (lo2a a b out ia ib mg ac bc) (P2 r a b st0 (N+1+(x+1))) st':=fun mg=>lo2a_ok K hk M S m h1 h2 (by omega)
    unfold lo2; dsimp only
    split<;>
    ·refine wpS_mono (key _) fun q st'' hq=> ?_
     obtain ⟨S',hq⟩:=hq; cases q with
     | done d=>exact ⟨S',hq.imp id fun z=>z.mono (by omega)⟩
     | yield d=>exact ⟨S',hq⟩
   case fin2=>rintro d st' ⟨_,_,_,h3,h4,h5⟩; omega
   case post2=>
    rintro ⟨o2,out,ia,ib,mg,ac,bc⟩ st' ⟨S,hd⟩
    rcases hd with ⟨res,e,hres⟩ | ⟨e,m,h1,h2,hN⟩
    ·dsimp only at e; subst e; exact wpS_pure ⟨S,res,rfl,hres⟩
    ·dsimp only at e m h1 h2 hN; subst e; dsimp only; rw [jB]; exact wpS_bind (wpS_modify (wpS_pure ⟨S.set _,rfl,m,h1,h2,hN⟩))
theorem wpS_mergeLo {Q:Array Keyed→SortSt→Prop} (K:lY prog w A E s κ r a₀) (hk:kindOf st=κ) (M:MPre r a₀ a b)
  (h:∀out st',MD r a b out.toList→SameG st st'→Q out st'):wpS (model prog w) A E s (xO a b) Q st:=by
 rw [loM_eq]; unfold loM; refine wpS_bind (wpS_lift (wpAny_rule ⟨rfl, ?_⟩)); have b1:=M.b1; have a1:=M.a1; refine wpS_bind (eS (by omega) ?_); have m0:MS r a b (#[]:Array Keyed).toList 0 0:=⟨by omega,by omega,by simp,by simp,fun x hx=>by simp at hx,fun x hx=>by simp at hx⟩; have m:MS r a b (#[b[0]]:Array Keyed).toList 0 1:=m0.pushB' M (by omega) fun j j1 j2=>aP M.first (M.asa.le0 j1 j2)
 by_cases e:1=b.size
 ·rw [if_pos (by simpa using e)]; obtain ⟨res,e2,hr⟩:=fin_dA M m e; cases e2; exact wpS_pure (h _ _ hr (.refl _))
 ·rw [if_neg (by simpa using e)]
  by_cases e1:0+1=a.size
  ·rw [if_pos (by simpa using e1)]; obtain ⟨res,e2,hr⟩:=fin_lA M m e1; cases e2; exact wpS_pure (h _ _ hr (.refl _))
  ·rw [if_neg (by simpa using e1)]; refine wpS_bind (wpS_get (wpS_bind (wpS_mono (wpS_forRange (I:=fun x d st'=>SameG st st'∧OKm r a b (x+1) d.1 d.2.1 d.2.2.1 d.2.2.2.1) (Q:=fun d st'=>SameG st st'∧FIN r a b d.1) ?step ?fin ⟨.refl _,rfl,m,by show 0+1<_; omega,by show 1<_; omega,aN _⟩) ?post)))
   case step=>
    rintro x d st' _ hx ⟨S,hd⟩; refine wpS_mono (lo0_ok K hk M S hd) fun q st'' hq=> ?_
    obtain ⟨S',hq⟩:=hq; cases q with
    | done d=>exact ⟨S',hq⟩
    | yield d=>exact ⟨S',hq⟩
   case fin=>rintro d st' ⟨_,_,_,h3,h4,h5⟩; omega
   case post=>rintro d st' ⟨S,res,e,hr⟩; rw [e]; exact wpS_pure (h _ _ hr S)
end
structure HS (r:Keyed→Nat) (a b:Array Keyed) (out:List Keyed) (na nb:Nat):Prop where
 ha:na≤a.size
 hb:nb≤b.size
 perm:out.Perm (a.toList.drop na++b.toList.drop nb)
 dsc:(out.map r).Pairwise (fun x y=>y<x)
 la:∀x∈out,∀i,i<na→rkA r a i<r x
 lb:∀x∈out,∀i,i<nb→rkA r b i<r x
section
variable {r:Keyed→Nat} {a b:Array Keyed} {out:List Keyed} {na nb:Nat}
theorem HS.swap (m:HS r a b out na nb):HS r b a out nb na:=⟨m.hb,m.ha,m.perm.trans kU,m.dsc,m.lb,m.la⟩
theorem HS.pushA (m:HS r a b out (na+1) nb) (asa:AscR r a 0 a.size) (hb:∀j,j<nb→rkA r b j<rkA r a na):HS r a b (out++[a[na]'m.ha]) na nb:=by
 have h:na<a.size:=m.ha; refine ⟨dP h,m.hb, ?_, ?_,fun x hx i h1=> ?_,fun x hx i h1=> ?_⟩
 ·have e:a.toList.drop na=a[na]::a.toList.drop (na+1):=by rw [eI (by simpa using h)]; simp
  rw [e,List.cons_append]; exact (kU).trans (List.Perm.cons _ m.perm)
 ·rw [aR,dW]; refine ⟨m.dsc,oY _ _,fun x hx y hy=> ?_⟩; obtain ⟨z,hz,rfl⟩:=bB.mp hx; have:y=r a[na]:=by simpa using hy
  rw [this,← eM (r:=r) h]; exact m.la z hz na (lM _)
 ·rcases aY.mp hx with hx | hx
  ·exact m.la x hx i (by omega)
  ·rw [bU.mp hx,← eM (r:=r) h]; exact asa i na (bO _) h1 h
 ·rcases aY.mp hx with hx | hx
  ·exact m.lb x hx i h1
  ·rw [bU.mp hx,← eM (r:=r) h]; exact hb i h1
theorem exr_succ {k:Nat} (h:k+1≤na) (h2:na≤a.size):(a.extract (na - (k+1)) na).toList.reverse=(a.extract (na - k) na).toList.reverse++[a[na - (k+1)]'(by omega)]:=by
 simp only [eH,dH]
 have e:a.toList.drop (na - (k+1))=a[na - (k+1)]'(by omega)::a.toList.drop (na - k):=by rw [eI (by simp; omega)]; rw [show na - (k+1)+1=na - k by omega]; simp
 rw [e,show na - (na - (k+1))=(na - (na - k))+1 by omega,rA,List.reverse_cons]
theorem HS.extA (asa:AscR r a 0 a.size) (m:HS r a b out na nb):∀k,k≤na→(∀i,na - k≤i→i<na→∀j,j<nb→rkA r b j<rkA r a i)→HS r a b (out++(a.extract (na - k) na).toList.reverse) (na - k) nb
 | 0,_,_=>by
  have e:(a.extract (na - 0) na).toList.reverse=[]:=by simp [eH,dH]
  rw [e,dR]; exact m
 | k+1,h,hb=>by
  have ih:=HS.extA asa m k (by omega) fun i h1 h2=>hb i (by omega) h2
  rw [exr_succ h m.ha,← gH]; have e:na - k=na - (k+1)+1:=by omega
  rw [e] at ih; have:=ih.pushA asa (hb (na - (k+1)) (aN _) (by omega)); rw [show a.extract (na - k) na=a.extract (na - (k+1)+1) na by rw [e]]; exact this
theorem HS.extB (asb:AscR r b 0 b.size) (m:HS r a b out na nb) (k:Nat) (h:k≤nb) (hb:∀i,nb - k≤i→i<nb→∀j,j<na→rkA r a j<rkA r b i):HS r a b (out++(b.extract (nb - k) nb).toList.reverse) na (nb - k):=(m.swap.extA asb k h hb).swap
theorem HS.done (m:HS r a b out 0 0):MD r a b out.reverse:=by
 refine ⟨(List.reverse_perm _).trans ?_, ?_⟩
 ·have:=m.perm; simpa using this
 ·rw [List.map_reverse,List.pairwise_reverse]; exact m.dsc
theorem HS.finB (m:HS r a b out 0 nb) (asb:AscR r b 0 b.size):MD r a b ((b.extract 0 nb).toList++out.reverse):=by
 have:=m.extB asb nb (aN _) fun i h1 h2 j hj=>by omega
 rw [pY] at this; have:=this.done
 rwa [List.reverse_append,List.reverse_reverse] at this
theorem HS.finL (m:HS r a b out na 1) (asa:AscR r a 0 a.size) (asb:AscR r b 0 b.size) (first:∀i,i<a.size→rkA r b 0<rkA r a i):MD r a b ((b.extract 0 1).toList++(a.extract 0 na).toList++out.reverse):=by
 have ha:=m.ha
 have:=m.extA asa na (aN _) fun i h1 h2 j hj=>by
  have:j=0:=by omega
  subst this; exact first i (by omega)
 rw [pY] at this; have:=this.finB asb
 rwa [List.reverse_append,List.reverse_reverse,← gH] at this
end
def xF:Array Keyed→Array Keyed→StateT SortSt Sem (Array Keyed):=sortPriv%PySem.Builtin.mergeHi
abbrev MH1:=Option (Array Keyed) × Nat × Nat × Array Keyed × Nat × Nat
abbrev MH2:=Option (Array Keyed) × Nat × Nat × Array Keyed × Nat × Nat × Nat
abbrev MH0:=Option (Array Keyed) × Nat × Nat × Array Keyed × Nat
def dnH (a b out:Array Keyed) (na nb:Nat):Array Keyed:=a.extract 0 na++b.extract 0 nb++out.reverse
def fsB (a b out:Array Keyed) (na nb:Nat):Array Keyed:=b.extract 0 nb++a.extract 0 na++out.reverse
def hi1 (a b:Array Keyed) (mg:Nat) (c:MH1):SM (ForInStep MH1):=do
 let y ← elem' b (c.2.2.1 - 1)
 let x ← elem' a (c.2.1 - 1)
 let q ← lt' y x
 match q with
 | some aw=>
  if aw=true then do
   let x ← elem' a (c.2.1 - 1)
   if (c.2.1 - 1==0)=true then pure (.done (some (dnH a b (c.2.2.2.1.push x) (c.2.1 - 1) c.2.2.1),c.2.1 - 1,c.2.2.1,c.2.2.2.1.push x,c.2.2.2.2.1+1,0))
   else if c.2.2.2.2.1+1≥mg then pure (.done (none,c.2.1 - 1,c.2.2.1,c.2.2.2.1.push x,c.2.2.2.2.1+1,0))
   else pure (.yield (none,c.2.1 - 1,c.2.2.1,c.2.2.2.1.push x,c.2.2.2.2.1+1,0))
  else do
   let y ← elem' b (c.2.2.1 - 1)
   if (c.2.2.1 - 1==1)=true then pure (.done (some (fsB a b (c.2.2.2.1.push y) c.2.1 (c.2.2.1 - 1)),c.2.1,c.2.2.1 - 1,c.2.2.2.1.push y,0,c.2.2.2.2.2+1))
   else if c.2.2.2.2.2+1≥mg then pure (.done (none,c.2.1,c.2.2.1 - 1,c.2.2.2.1.push y,0,c.2.2.2.2.2+1))
   else pure (.yield (none,c.2.1,c.2.2.1 - 1,c.2.2.2.1.push y,0,c.2.2.2.2.2+1))
 | _=>pure (.done (some (dnH a b c.2.2.2.1 c.2.1 c.2.2.1),c.2.1,c.2.2.1,c.2.2.2.1,c.2.2.2.2.1,c.2.2.2.2.2))
def hi2c (a b out:Array Keyed) (na nb mg k k1:Nat):SM (ForInStep MH2):=do
 let x ← elem' a (na - 1)
 if (na - 1==0)=true then pure (.done (some (dnH a b (out.push x) (na - 1) nb),na - 1,nb,out.push x,mg,k,k1))
 else if (decide (k<7) && decide (k1<7))=true then pure (.done (none,na - 1,nb,out.push x,mg,k,k1))
 else pure (.yield (none,na - 1,nb,out.push x,mg,k,k1))
def hi2b (a b out:Array Keyed) (na nb mg k bc:Nat):SM (ForInStep MH2):=do
 let y ← elem' b (nb - 1)
 if (nb - 1==1)=true then pure (.done (some (fsB a b (out.push y) na (nb - 1)),na,nb - 1,out.push y,mg,k,bc))
 else do
  let x ← elem' a (na - 1)
  let q ← nE true x b 0 (nb - 1) (nb - 1 - 1)
  match q with
  | some at_=>
   if nb - 1 - at_>0 then
    if (at_==1)=true then pure (.done (some (fsB a b (out.push y++(b.extract at_ (nb - 1)).reverse) na at_),na,at_,out.push y++(b.extract at_ (nb - 1)).reverse,mg,k,nb - 1 - at_))
    else if (at_==0)=true then pure (.done (some (dnH a b (out.push y++(b.extract at_ (nb - 1)).reverse) na at_),na,at_,out.push y++(b.extract at_ (nb - 1)).reverse,mg,k,nb - 1 - at_))
    else hi2c a b (out.push y++(b.extract at_ (nb - 1)).reverse) na at_ mg k (nb - 1 - at_)
   else hi2c a b (out.push y) na (nb - 1) mg k (nb - 1 - at_)
  | _=>pure (.done (some (dnH a b (out.push y) na (nb - 1)),na,nb - 1,out.push y,mg,k,bc))
def hi2a (a b out:Array Keyed) (na nb mg ac bc:Nat):SM (ForInStep MH2):=do
 jJ mg
 let y ← elem' b (nb - 1)
 let q ← nE false y a 0 na (na - 1)
 match q with
 | some at_=>
  if na - at_>0 then
   if (at_==0)=true then pure (.done (some (dnH a b (out++(a.extract at_ na).reverse) at_ nb),at_,nb,out++(a.extract at_ na).reverse,mg,na - at_,bc))
   else hi2b a b (out++(a.extract at_ na).reverse) at_ nb mg (na - at_) bc
  else hi2b a b out na nb mg (na - at_) bc
 | _=>pure (.done (some (dnH a b out na nb),na,nb,out,mg,ac,bc))
def hi2 (a b:Array Keyed) (c:MH2):SM (ForInStep MH2):=
 if c.2.2.2.2.1>1 then hi2a a b c.2.2.2.1 c.2.1 c.2.2.1 (c.2.2.2.2.1 - 1) c.2.2.2.2.2.1 c.2.2.2.2.2.2
 else hi2a a b c.2.2.2.1 c.2.1 c.2.2.1 c.2.2.2.2.1 c.2.2.2.2.2.1 c.2.2.2.2.2.2
def hi0 (a b:Array Keyed) (c:MH0):SM (ForInStep MH0):=do
 let d ← forIn [:a.size+b.size] ((none,c.2.1,c.2.2.1,c.2.2.2.1,0,0):MH1) fun _ d=>hi1 a b c.2.2.2.2 d
 match d.1 with
 | some r=>pure (.done (some r,d.2.1,d.2.2.1,d.2.2.2.1,c.2.2.2.2))
 | none=>do
  liftM (rule "list.sort.gallop")
  let e ← forIn [:a.size+b.size] ((none,d.2.1,d.2.2.1,d.2.2.2.1,c.2.2.2.2+1,d.2.2.2.2.1,d.2.2.2.2.2):MH2) fun _ e=>hi2 a b e
  match e.1 with
  | some r=>pure (.done (some r,e.2.1,e.2.2.1,e.2.2.2.1,e.2.2.2.2.1))
  | none=>do
   jJ (e.2.2.2.2.1+1)
   pure (.yield (none,e.2.1,e.2.2.1,e.2.2.2.1,e.2.2.2.2.1+1))
def hiM (a b:Array Keyed):SM (Array Keyed):=do
 liftM (rule "list.sort.merge-hi")
 let x ← elem' a (a.size - 1)
 if (a.size - 1==0)=true then pure (dnH a b #[x] (a.size - 1) b.size)
 else if (b.size==1)=true then pure (fsB a b #[x] (a.size - 1) b.size)
 else do
  let g ← get
  let c ← forIn [:a.size+b.size] ((none,a.size - 1,b.size, #[x],gallopOf g):MH0) fun _ c=>hi0 a b c
  match c.1 with
  | some r=>pure r
  | none=>liftM (unsupported "internal:list.sort.merge-bound":Sem (Array Keyed))
theorem hiM_eq (a b:Array Keyed):xF a b=hiM a b:=by kernel_rfl
def OKh (r:Keyed→Nat) (a b:Array Keyed) (N:Nat) (o:Option (Array Keyed)) (out:Array Keyed) (na nb:Nat):Prop:=o=none∧HS r a b out.toList na nb∧1≤na∧2≤nb∧na+nb+N≤a.size+b.size
theorem OKh.mono {r:Keyed→Nat} {a b:Array Keyed} {N N':Nat} {o:Option (Array Keyed)} {out:Array Keyed} {na nb:Nat} (h:OKh r a b N o out na nb) (le:N'≤N):OKh r a b N' o out na nb:=⟨h.1,h.2.1,h.2.2.1,h.2.2.2.1,by have:=h.2.2.2.2; omega⟩
section
variable {prog:Program} {w:World} {A:Around} {E:Value→Shared→Prop} {s:Shared} {κ:SortKind} {r:Keyed→Nat} {a₀ a b out:Array Keyed} {st st0:SortSt} {na nb:Nat}
theorem MPre.first' (M:MPre r a₀ a b):∀i,i<a.size→rkA r b 0<rkA r a i:=fun i hi=>aP M.first (M.asa.le0 (bO _) hi)
theorem ex0 (xs:Array Keyed):(xs.extract 0 0).toList=[]:=by simp [eH,dH]
theorem fin_dH (M:MPre r a₀ a b) (m:HS r a b out.toList na nb) (h:na=0):FIN r a b (some (dnH a b out na nb)):=by subst h; refine ⟨_,rfl, ?_⟩; have:=m.finB M.asb; unfold dnH; rw [dQ,dQ,ex0,yH,lN]; exact this
theorem fin_fB (M:MPre r a₀ a b) (m:HS r a b out.toList na nb) (h:nb=1):FIN r a b (some (fsB a b out na nb)):=by subst h; refine ⟨_,rfl, ?_⟩; have:=m.finL M.asa M.asb M.first'; unfold fsB; rw [dQ,dQ,lN]; exact this
theorem HS.pushA' (M:MPre r a₀ a b) (m:HS r a b out.toList na nb) (h1:1≤na) (hb:∀j,j<nb→rkA r b j<rkA r a (na - 1)):HS r a b (out.push (a[na - 1]'(by have:=m.ha; omega))).toList (na - 1) nb:=by
 rw [iT]; have e:na=na - 1+1:=by omega
 have m':HS r a b out.toList (na - 1+1) nb:=by rw [← e]; exact m
 exact m'.pushA M.asa hb
theorem HS.pushB' (M:MPre r a₀ a b) (m:HS r a b out.toList na nb) (h1:1≤nb) (hb:∀j,j<na→rkA r a j<rkA r b (nb - 1)):HS r a b (out.push (b[nb - 1]'(by have:=m.hb; omega))).toList na (nb - 1):=by
 rw [iT]; have e:nb=nb - 1+1:=by omega
 have m':HS r a b out.toList na (nb - 1+1):=by rw [← e]; exact m
 exact (m'.swap.pushA M.asb hb).swap
theorem HS.extA' (M:MPre r a₀ a b) (m:HS r a b out.toList na nb) {t:Nat} (h:t≤na) (hb:∀i,t≤i→i<na→∀j,j<nb→rkA r b j<rkA r a i):HS r a b (out++(a.extract t na).reverse).toList t nb:=by rw [dQ,lN]; have:=m.extA M.asa (na - t) (by omega) (by rw [show na - (na - t)=t by omega]; exact hb); rw [show na - (na - t)=t by omega] at this; exact this
theorem HS.extB' (M:MPre r a₀ a b) (m:HS r a b out.toList na nb) {t:Nat} (h:t≤nb) (hb:∀i,t≤i→i<nb→∀j,j<na→rkA r a j<rkA r b i):HS r a b (out++(b.extract t nb).reverse).toList na t:=by rw [dQ,lN]; have:=m.extB M.asb (nb - t) (by omega) (by rw [show nb - (nb - t)=t by omega]; exact hb); rw [show nb - (nb - t)=t by omega] at this; exact this
def H2 (r:Keyed→Nat) (a b:Array Keyed) (st0:SortSt) (N:Nat):ForInStep MH2→SortSt→Prop:=fun q st'=>SameG st0 st'∧match q with
 | .done c=>FIN r a b c.1∨OKh r a b N c.1 c.2.2.2.1 c.2.1 c.2.2.1
 | .yield c=>OKh r a b N c.1 c.2.2.2.1 c.2.1 c.2.2.1
theorem hi2c_ok {N mg k k1:Nat} (M:MPre r a₀ a b) (S:SameG st0 st) (m:HS r a b out.toList na nb) (h1:1≤na) (h2:2≤nb) (hN:na - 1+nb+N≤a.size+b.size) (hb:∀j,j<nb→rkA r b j<rkA r a (na - 1)):wpS (model prog w) A E s (hi2c a b out na nb mg k k1) (H2 r a b st0 N) st:=by
 unfold hi2c; have ha:=m.ha; refine wpS_bind (eS (by omega) ?_); have m2:=m.pushA' M h1 hb
 by_cases e:na - 1=0
 ·rw [if_pos (by simpa using e)]; exact wpS_pure ⟨S, .inl (fin_dH M m2 e)⟩
 ·rw [if_neg (by simpa using e)]
  split
  ·exact wpS_pure ⟨S, .inr ⟨rfl,m2,by show 1≤na - 1; omega,h2,hN⟩⟩
  ·exact wpS_pure ⟨S,rfl,m2,by show 1≤na - 1; omega,h2,hN⟩
theorem hi2b_ok {N mg k bc:Nat} (K:lY prog w A E s κ r a₀) (hk:kindOf st0=κ) (M:MPre r a₀ a b) (S:SameG st0 st) (m:HS r a b out.toList na nb) (h1:1≤na) (h2:2≤nb) (hN:na - 1+nb+N≤a.size+b.size) (hb:∀j,j<na→rkA r a j<rkA r b (nb - 1)):wpS (model prog w) A E s (hi2b a b out na nb mg k bc) (H2 r a b st0 N) st:=by
 unfold hi2b; have ha:=m.ha; have hbb:=m.hb; refine wpS_bind (eS (by omega) ?_); have m2:=m.pushB' M (by omega) hb
 by_cases e:nb - 1=1
 ·rw [if_pos (by simpa using e)]; exact wpS_pure ⟨S, .inl (fin_fB M m2 e)⟩
 ·rw [if_neg (by simpa using e)]; have h1':na - 1<a.size:=by omega
  refine wpS_bind (eS h1' (wpS_bind (pZ K (S.kind.trans hk) M.mb (M.ma _ (by simp)) (by omega) (by omega) (fun i j h1 h2 h3=>M.asb i j (by omega) h2 (by omega)) (fun i hi e=>M.ne (na - 1) i h1' (by omega) (by rw [uH] at e; rw [e,eM h1'])) fun at_ c1 c2 c3=> ?_))); dsimp only; simp only [uH] at c2 c3; rw [← eM (r:=r) h1'] at c2 c3; have m3:=m2.extB' M (t:=at_) c1 fun i i1 i2 j hj=>cE (M.asa.le0 (by omega) h1') (c3 i i1 i2)
  have a0:1≤at_:=by
   by_cases q:at_=0
   ·subst q; have:=c3 0 (aN _) (by omega); have:=M.first' (na - 1) h1'; omega
   ·omega
  by_cases z:nb - 1 - at_>0
  ·rw [if_pos z]
   by_cases y:at_=1
   ·rw [if_pos (by simpa using y)]; exact wpS_pure ⟨S, .inl (fin_fB M m3 y)⟩
   ·rw [if_neg (by simpa using y),if_neg (by simp; omega)]; exact hi2c_ok M S m3 h1 (by omega) (by omega) c2
  ·rw [if_neg z]; have z0:at_=nb - 1:=by omega
   subst z0; exact hi2c_ok M S m2 h1 (by omega) (by omega) c2
theorem hi2a_ok {N mg ac bc:Nat} (K:lY prog w A E s κ r a₀) (hk:kindOf st0=κ) (M:MPre r a₀ a b) (S:SameG st0 st) (m:HS r a b out.toList na nb) (h1:1≤na) (h2:2≤nb) (hN:na - 1+nb+N≤a.size+b.size):wpS (model prog w) A E s (hi2a a b out na nb mg ac bc) (H2 r a b st0 N) st:=by
 unfold hi2a; have ha:=m.ha; have hbb:=m.hb; rw [jB]; refine wpS_bind (wpS_modify ?_); have S:=S.set mg; have h2':nb - 1<b.size:=by omega
 refine wpS_bind (eS h2' (wpS_bind (pZ K (S.kind.trans hk) M.ma (M.mb _ (by simp)) (by omega) (by omega) (fun i j h1 h2 h3=>M.asa i j (by omega) h2 (by omega)) (fun i hi e=>M.ne i (nb - 1) (by omega) h2' (by rw [uH] at e; rw [e,eM h2'])) fun at_ c1 c2 c3=> ?_))); dsimp only; simp only [uH] at c2 c3; rw [← eM (r:=r) h2'] at c2 c3; have m3:=m.extA' M (t:=at_) c1 fun i i1 i2 j hj=>cE (M.asb.le0 (by omega) h2') (c3 i i1 i2)
 by_cases z:na - at_>0
 ·rw [if_pos z]
  by_cases y:at_=0
  ·rw [if_pos (by simpa using y)]; exact wpS_pure ⟨S, .inl (fin_dH M m3 y)⟩
  ·rw [if_neg (by simpa using y)]; exact hi2b_ok K hk M S m3 (by omega) h2 (by omega) c2
 ·rw [if_neg z]; have z0:at_=na:=by omega
  subst z0; exact hi2b_ok K hk M S m h1 h2 hN c2
def H1 (r:Keyed→Nat) (a b:Array Keyed) (st:SortSt) (N:Nat):ForInStep MH1→SortSt→Prop:=fun q st'=>st'=st∧match q with
 | .done c=>FIN r a b c.1∨OKh r a b N c.1 c.2.2.2.1 c.2.1 c.2.2.1
 | .yield c=>OKh r a b N c.1 c.2.2.2.1 c.2.1 c.2.2.1
theorem hi1_ok {N mg:Nat} {c:MH1} (K:lY prog w A E s κ r a₀) (hk:kindOf st=κ) (M:MPre r a₀ a b) (h:OKh r a b N c.1 c.2.2.2.1 c.2.1 c.2.2.1):wpS (model prog w) A E s (hi1 a b mg c) (H1 r a b st (N+1)) st:=by
 obtain ⟨o,na,nb,out,ac,bc⟩:=c; obtain ⟨h0,m,h1,h2,hN⟩:=h; dsimp only at h0 m h1 h2 hN; unfold hi1; dsimp only; have ha:=m.ha; have hbb:=m.hb; have h1':na - 1<a.size:=by omega
 have h2':nb - 1<b.size:=by omega
 refine wpS_bind (eS h2' (wpS_bind (eS h1' (wpS_bind (K.ask (M.mb _ (by simp)) (M.ma _ (by simp)) hk ?_))))); dsimp only
 by_cases q:r b[nb - 1]<r a[na - 1]
 ·rw [if_pos (by simpa using q)]; refine wpS_bind (eS h1' ?_); have q':rkA r b (nb - 1)<rkA r a (na - 1):=by rw [eM h1',eM h2']; exact q
  have m2:=m.pushA' M h1 fun j hj=>cE (M.asb.le0 (by omega) h2') q'
  by_cases e:na - 1=0
  ·rw [if_pos (by simpa using e)]; exact wpS_pure ⟨rfl, .inl (fin_dH M m2 e)⟩
  ·rw [if_neg (by simpa using e)]
   split
   ·exact wpS_pure ⟨rfl, .inr ⟨rfl,m2,by show 1≤na - 1; omega,h2,by show na - 1+nb+_≤_; omega⟩⟩
   ·exact wpS_pure ⟨rfl,rfl,m2,by show 1≤na - 1; omega,h2,by show na - 1+nb+_≤_; omega⟩
 ·rw [if_neg (by simpa using q)]; refine wpS_bind (eS h2' ?_)
  have q':rkA r a (na - 1)<rkA r b (nb - 1):=by have:=M.ne (na - 1) (nb - 1) h1' h2'; rw [eM h1',eM h2'] at this ⊢; omega
  have m2:=m.pushB' M (by omega) fun j hj=>cE (M.asa.le0 (by omega) h1') q'
  by_cases e:nb - 1=1
  ·rw [if_pos (by simpa using e)]; exact wpS_pure ⟨rfl, .inl (fin_fB M m2 e)⟩
  ·rw [if_neg (by simpa using e)]
   split
   ·exact wpS_pure ⟨rfl, .inr ⟨rfl,m2,h1,by show 2≤nb - 1; omega,by show na+(nb - 1)+_≤_; omega⟩⟩
   ·exact wpS_pure ⟨rfl,rfl,m2,h1,by show 2≤nb - 1; omega,by show na+(nb - 1)+_≤_; omega⟩
def H0 (r:Keyed→Nat) (a b:Array Keyed) (st0:SortSt) (N:Nat):ForInStep MH0→SortSt→Prop:=fun q st'=>SameG st0 st'∧match q with
 | .done c=>FIN r a b c.1
 | .yield c=>OKh r a b N c.1 c.2.2.2.1 c.2.1 c.2.2.1
theorem hi0_ok {N:Nat} {c:MH0} (K:lY prog w A E s κ r a₀) (hk:kindOf st0=κ) (M:MPre r a₀ a b) (S:SameG st0 st) (h:OKh r a b N c.1 c.2.2.2.1 c.2.1 c.2.2.1):wpS (model prog w) A E s (hi0 a b c) (H0 r a b st0 (N+1)) st:=by
 obtain ⟨o,na,nb,out,mg⟩:=c; obtain ⟨h0,m,h1,h2,hN⟩:=h; dsimp only at h0 m h1 h2 hN; unfold hi0; dsimp only; refine wpS_bind (wpS_mono (wpS_forRange (I:=fun x d st'=>st'=st∧OKh r a b (N+x) d.1 d.2.2.2.1 d.2.1 d.2.2.1) (Q:=fun d st'=>st'=st∧(FIN r a b d.1∨OKh r a b (N+1) d.1 d.2.2.2.1 d.2.1 d.2.2.1)) ?step ?fin ⟨rfl,rfl,m,h1,h2,hN⟩) ?post)
 case step=>
  rintro x d st' _ hx ⟨rfl,hd⟩; refine wpS_mono (hi1_ok K (S.kind.trans hk) M hd) fun q st'' hq=> ?_
  obtain ⟨rfl,hq⟩:=hq; cases q with
  | done d=>exact ⟨rfl,hq.imp id fun z=>z.mono (by omega)⟩
  | yield d=>exact ⟨rfl,hq⟩
 case fin=>rintro d st' ⟨rfl,_,_,h3,h4,h5⟩; omega
 case post=>
  rintro d st' ⟨rfl,hd⟩; obtain ⟨o1,na,nb,out,ac,bc⟩:=d
  rcases hd with ⟨res,e,hres⟩ | ⟨e,m,h1,h2,hN⟩
  ·dsimp only at e; subst e; exact wpS_pure ⟨S,res,rfl,hres⟩
  ·dsimp only at e m h1 h2 hN; subst e; dsimp only; refine wpS_bind (wpS_lift (wpAny_rule ⟨rfl, ?_⟩)); refine wpS_bind (wpS_mono (wpS_forRange (I:=fun x d st'=>SameG st0 st'∧OKh r a b (N+1+x) d.1 d.2.2.2.1 d.2.1 d.2.2.1) (Q:=fun d st'=>SameG st0 st'∧(FIN r a b d.1∨OKh r a b (N+1) d.1 d.2.2.2.1 d.2.1 d.2.2.1)) ?step2 ?fin2 ⟨S,rfl,m,h1,h2,hN⟩) ?post2)
   case step2=>
    rintro x ⟨o2,na,nb,out,mg,ac,bc⟩ st' _ hx ⟨S,_,m,h1,h2,hN⟩; dsimp only at m h1 h2 hN; have key:∀mg,wpS (model prog w) A E s (hi2a a b out na nb mg ac bc) (H2 r a b st0 (N+1+(x+1))) st':=fun mg=>hi2a_ok K hk M S m h1 h2 (by omega)
    unfold hi2; dsimp only
    split<;>
    ·refine wpS_mono (key _) fun q st'' hq=> ?_
     obtain ⟨S',hq⟩:=hq; cases q with
     | done d=>exact ⟨S',hq.imp id fun z=>z.mono (by omega)⟩
     | yield d=>exact ⟨S',hq⟩
   case fin2=>rintro d st' ⟨_,_,_,h3,h4,h5⟩; omega
   case post2=>
    rintro ⟨o2,na,nb,out,mg,ac,bc⟩ st' ⟨S,hd⟩
    rcases hd with ⟨res,e,hres⟩ | ⟨e,m,h1,h2,hN⟩
    ·dsimp only at e; subst e; exact wpS_pure ⟨S,res,rfl,hres⟩
    ·dsimp only at e m h1 h2 hN; subst e; dsimp only; rw [jB]; exact wpS_bind (wpS_modify (wpS_pure ⟨S.set _,rfl,m,h1,h2,hN⟩))
theorem wpS_mergeHi {Q:Array Keyed→SortSt→Prop} (K:lY prog w A E s κ r a₀) (hk:kindOf st=κ) (M:MPre r a₀ a b)
  (h:∀out st',MD r a b out.toList→SameG st st'→Q out st'):wpS (model prog w) A E s (xF a b) Q st:=by
 rw [hiM_eq]; unfold hiM; refine wpS_bind (wpS_lift (wpAny_rule ⟨rfl, ?_⟩)); have b1:=M.b1; have a1:=M.a1; refine wpS_bind (eS (by omega) ?_); have m0:HS r a b (#[]:Array Keyed).toList a.size b.size:=⟨aN _,aN _,by rw [List.drop_eq_nil_of_le (by simp),List.drop_eq_nil_of_le (by simp)]; exact .refl _,by simp,fun x hx=>by simp at hx,fun x hx=>by simp at hx⟩; have m:HS r a b (#[a[a.size - 1]]:Array Keyed).toList (a.size - 1) b.size:=m0.pushA' M a1 fun j hj=>M.last' j hj
 by_cases e:a.size - 1=0
 ·rw [if_pos (by simpa using e)]; obtain ⟨res,e2,hr⟩:=fin_dH M m e; cases e2; exact wpS_pure (h _ _ hr (.refl _))
 ·rw [if_neg (by simpa using e)]
  by_cases e1:b.size=1
  ·rw [if_pos (by simpa using e1)]; obtain ⟨res,e2,hr⟩:=fin_fB M m e1; cases e2; exact wpS_pure (h _ _ hr (.refl _))
  ·rw [if_neg (by simpa using e1)]; refine wpS_bind (wpS_get (wpS_bind (wpS_mono (wpS_forRange (I:=fun x d st'=>SameG st st'∧OKh r a b (x+1) d.1 d.2.2.2.1 d.2.1 d.2.2.1) (Q:=fun d st'=>SameG st st'∧FIN r a b d.1) ?step ?fin ⟨.refl _,rfl,m,by show 1≤a.size - 1; omega,by show 2≤b.size; omega,by show a.size - 1+b.size+(0+1)≤_; omega⟩) ?post)))
   case step=>
    rintro x d st' _ hx ⟨S,hd⟩; refine wpS_mono (hi0_ok K hk M S hd) fun q st'' hq=> ?_
    obtain ⟨S',hq⟩:=hq; cases q with
    | done d=>exact ⟨S',hq⟩
    | yield d=>exact ⟨S',hq⟩
   case fin=>rintro d st' ⟨_,_,_,h3,h4,h5⟩; omega
   case post=>rintro d st' ⟨S,res,e,hr⟩; rw [e]; exact wpS_pure (h _ _ hr S)
end
abbrev Pnd:=Array (Nat × Nat × Nat)
def wbA (sa:Nat) (m:Array Keyed) (xs:Array Keyed):Array Keyed:=m.toList.zipIdx.foldl (fun a (q:Keyed × Nat)=>a.setIfInBounds (sa+q.2) q.1) xs
def mgC (x y:Array Keyed) (na nb sa:Nat):SM Bool:=do
 let merged ← if na≤nb then xO x y else xF x y
 modify fun s=>setArr s (wbA sa merged (arrOf s))
 let s ← get
 pure (failedOf s).isNone
def mgB (xs:Array Keyed) (sa na sb nb:Nat):SM Bool:=do
 if (na==0)=true then pure true
 else do
  let x ← elem' xs (sa+na - 1)
  let q ← nE true x xs sb nb (nb - 1)
  match q with
  | some nb=>if (nb==0)=true then pure true else mgC (xs.extract sa sb) (xs.extract sb (sb+nb)) na nb sa
  | _=>pure false
def mgA (i:Nat):SM Bool:=do
 let s ← get
 match (pendingOf s)[i]?,(pendingOf s)[i+1]? with
 | some (sa,na,pw),some (sb,nb,_)=>do
  set (setPending s (((pendingOf s).setIfInBounds i (sa,na+nb,pw)).eraseIdxIfInBounds (i+1)))
  let y ← elem' (arrOf s) sb
  let q ← nE false y (arrOf s) sa na 0
  match q with
  | some k=>mgB (arrOf s) (sa+k) (na - k) sb nb
  | _=>pure false
 | _,_=>liftM (unsupported "internal:list.sort.pending":Sem Bool)
theorem mgA_eq (i:Nat):mergeAt' i=mgA i:=by kernel_rfl
def srIn (pw:Nat):SM (ForInStep (Option Unit × Unit)):=do
 let s ← get
 match (if (pendingOf s).size>1 then (pendingOf s)[(pendingOf s).size - 2]? else none) with
 | some (_,_,older)=>
  if older≤pw then pure (.done (none,()))
  else do
   let b ← mergeAt' ((pendingOf s).size - 2)
   if (!b)=true then pure (.done (some (),())) else pure (.yield (none,()))
 | _=>pure (.done (none,()))
def srPush (lo n size:Nat):SM (ForInStep (Option Unit × Nat)):=do
 let s ← get
 match (pendingOf s).back? with
 | some (s1,n1,_)=>do
  let c ← forIn [:size] ((none,()):Option Unit × Unit) fun _ _=>srIn (power' size (2 * s1+n1) (2 * s1+n1+n1+n) size)
  match c.1 with
  | some r=>pure (.done (some r,lo))
  | none=>do
   modify fun s=>setPending s ((pendingOf s).modify ((pendingOf s).size - 1) fun (st,len,_)=>(st,len,power' size (2 * s1+n1) (2 * s1+n1+n1+n) size))
   modify fun s=>setPending s ((pendingOf s).push (lo,n,0))
   pure (.yield (none,lo+n))
 | _=>do
  modify fun s=>setPending s ((pendingOf s).push (lo,n,0))
  pure (.yield (none,lo+n))
def srBody (size minrun:Nat) (c:Option Unit × Nat):SM (ForInStep (Option Unit × Nat)):=
 if c.2≥size then pure (.done (none,c.2))
 else do
  let f ← countRun' c.2 (size - c.2)
  match f with
  | some found=>
   if found<minrun then do
    liftM (rule "list.sort.binary-insertion")
    let b ← binarySort' c.2 (min (size - c.2) minrun) found
    if (!b)=true then pure (.done (some (),c.2)) else srPush c.2 (min (size - c.2) minrun) size
   else srPush c.2 found size
  | _=>pure (.done (some (),c.2))
def srEnd:SM (ForInStep (Option Unit × Unit)):=do
 let s ← get
 if (pendingOf s).size≤1 then pure (.done (none,()))
 else do
  let b ← mergeAt' (if ((if (pendingOf s).size - 2>0 then (pendingOf s)[(pendingOf s).size - 2 - 1]?.map (·.2.1) else none).any (·<((pendingOf s)[(pendingOf s).size - 2+1]?.elim 0 (·.2.1))))=true then (pendingOf s).size - 2 - 1 else (pendingOf s).size - 2)
  if (!b)=true then pure (.done (some (),())) else pure (.yield (none,()))
def srM:SM Unit:=do
 let s ← get
 let c ← forIn [:(arrOf s).size] ((none,0):Option Unit × Nat) fun _ c=>srBody (arrOf s).size (minRun' (arrOf s).size (arrOf s).size 0) c
 match c.1 with
 | some r=>pure r
 | none=>do
  let d ← forIn [:(arrOf s).size] ((none,()):Option Unit × Unit) fun _ _=>srEnd
  match d.1 with
  | some r=>pure r
  | none=>pure ()
theorem srM_eq:sortRuns'=srM:=by kernel_rfl
section
variable {r:Keyed→Nat} {xs:Array Keyed}
theorem rk_ext {i j t:Nat} (h:i+t<j) (hj:j≤xs.size):rkA r (xs.extract i j) t=rkA r xs (i+t):=by refine iI ?_; rw [Array.getElem?_extract,if_pos (by omega)]
theorem wb_get (sa t:Nat):∀ (l:List Keyed) (n:Nat) (xs:Array Keyed),sa+n+l.length≤xs.size→((l.zipIdx n).foldl (fun a (q:Keyed × Nat)=>a.setIfInBounds (sa+q.2) q.1) xs)[t]? =if sa+n≤t∧t<sa+n+l.length then l[t - (sa+n)]? else xs[t]?
 | [],n,xs,_=>by rw [if_neg (by rw [mG]; omega)]; rfl
 | p::l,n,xs,h=>by
  rw [dS] at h
  have S:(xs.setIfInBounds (sa+n) p)[t]? =if sa+n=t then some p else xs[t]? :=by
   rw [xV]
   by_cases e:sa+n=t
   ·rw [if_pos e,if_pos e,if_pos (by omega)]
   ·rw [if_neg e,if_neg e]
  rw [lD,List.foldl_cons,wb_get sa t l (n+1) _ (by rw [Array.size_setIfInBounds]; omega),dS,S]
  by_cases e:sa+n=t
  ·rw [if_neg (show ¬ (sa+(n+1)≤t∧t<sa+(n+1)+l.length) by omega),if_pos e,if_pos (show sa+n≤t∧t<sa+n+(l.length+1) by omega),show t - (sa+n)=0 by omega]; rfl
  ·by_cases q:sa+(n+1)≤t∧t<sa+(n+1)+l.length
   ·rw [if_pos q,if_pos (show sa+n≤t∧t<sa+n+(l.length+1) by omega),show t - (sa+n)=t - (sa+(n+1))+1 by omega,List.getElem?_cons_succ]
   ·rw [if_neg q,if_neg e,if_neg (show ¬ (sa+n≤t∧t<sa+n+(l.length+1)) by omega)]
theorem wb_at {sa:Nat} {m:Array Keyed} (h:sa+m.size≤xs.size) (t:Nat):(wbA sa m xs)[t]? =if sa≤t∧t<sa+m.size then m[t - sa]? else xs[t]? :=by have:=wb_get sa t m.toList 0 xs (by simpa using h); unfold wbA; rw [this]; simp
theorem wb_list {sa:Nat} {m:Array Keyed} (h:sa+m.size≤xs.size):(wbA sa m xs).toList=xs.toList.take sa++(m.toList++xs.toList.drop (sa+m.size)):=by
 apply uA; intro t; rw [fB,wb_at h]; have l1:(xs.toList.take sa).length=sa:=by rw [eN]; simp; omega
 by_cases h1:t<sa
 ·rw [if_neg (by omega),gS (by rw [l1]; exact h1),List.getElem?_take_of_lt h1,fB]
 ·rw [fN (by rw [l1]; omega),l1]
  by_cases h2:t<sa+m.size
  ·rw [if_pos ⟨by omega,h2⟩,gS (by simp; omega),fB]
  ·rw [if_neg (by omega),fN (by simp; omega),List.getElem?_drop,eC]; rw [show sa+m.size+(t - sa - m.size)=t by omega,fB]
theorem split_list {sa n:Nat} (h:sa+n≤xs.size):xs.toList=xs.toList.take sa++((xs.extract sa (sa+n)).toList++xs.toList.drop (sa+n)):=by
 rw [eH,dH,show sa+n - sa=n by omega]; have e:xs.toList.drop (sa+n)=(xs.toList.drop sa).drop n:=by rw [List.drop_drop]
 rw [e,iS,iS]
theorem wb_perm {sa:Nat} {m:Array Keyed} (h:sa+m.size≤xs.size) (hp:m.toList.Perm (xs.extract sa (sa+m.size)).toList):(wbA sa m xs).Perm xs:=by apply gO.mpr; rw [wb_list h]; refine List.Perm.trans ?_ (List.Perm.of_eq (split_list (xs:=xs) h).symm); exact List.Perm.append_left _ (List.Perm.append_right _ hp)
theorem ext_app {i j k:Nat} (h1:i≤j) (h2:j≤k) (h3:k≤xs.size):(xs.extract i j).toList++(xs.extract j k).toList=(xs.extract i k).toList:=by simp only [eH,dH]; rw [show k - i=(j - i)+(k - j) by omega,List.take_add,List.drop_drop,show i+(j - i)=j by omega]
end
section
variable {prog:Program} {w:World} {A:Around} {E:Value→Shared→Prop} {s:Shared} {κ:SortKind} {r:Keyed→Nat} {a₀:Array Keyed} {st st':SortSt}
theorem wpS_set {st2:SortSt} {Q:PUnit→SortSt→Prop} (h:Q ⟨⟩ st2):wpS (model prog w) A E s (set st2:StateT SortSt Sem PUnit) Q st:=by unfold wpS; rw [StateT.run_set]; exact wpAny_pure ⟨rfl,h⟩
theorem wpS_mergeAt {i sa na pw sb nb pw':Nat} {Q:Bool→SortSt→Prop} (K:lY prog w A E s κ r a₀) (hB:SB κ a₀ st) (p1:(pendingOf st)[i]? =some (sa,na,pw)) (p2:(pendingOf st)[i+1]? =some (sb,nb,pw')) (hs:sb=sa+na) (n1:1≤na) (n2:1≤nb) (hz:sb+nb≤a₀.size)
  (A1:AscR r (arrOf st) sa sb) (A2:AscR r (arrOf st) sb (sb+nb))
  (h:∀st',SB κ a₀ st'→pendingOf st'=((pendingOf st).setIfInBounds i (sa,na+nb,pw)).eraseIdxIfInBounds (i+1)→(∀k,k<sa∨sb+nb≤k→(arrOf st')[k]? =(arrOf st)[k]?)→AscR r (arrOf st') sa (sb+nb)→Q true st'):wpS (model prog w) A E s (mergeAt' i) Q st:=by
 have sz:=hB.size; have mem:∀x∈(arrOf st).toList,x∈a₀.toList:=fun x hx=>(gO.mp hB.perm).mem_iff.mp hx
 rw [mgA_eq]; unfold mgA; refine wpS_bind (wpS_get ?_); rw [p1,p2]; dsimp only; refine wpS_bind (wpS_set ?_); have hB1:SB κ a₀ (setPending st (((pendingOf st).setIfInBounds i (sa,na+nb,pw)).eraseIdxIfInBounds (i+1))):=⟨hB.perm,hB.kind,hB.failed⟩
 have h1:∀st',SameG (setPending st (((pendingOf st).setIfInBounds i (sa,na+nb,pw)).eraseIdxIfInBounds (i+1))) st'→AscR r (arrOf st) sa (sb+nb)→Q true st':=fun st' S a=>by refine h st' ⟨by rw [S.arr]; exact hB.perm,by rw [S.kind]; exact hB.kind,by rw [S.failed]; exact hB.failed⟩ S.pend (fun k _=>by rw [S.arr]) ?_; rw [S.arr]; exact a
 have hsb:sb<(arrOf st).size:=by omega
 refine wpS_bind (eS hsb (wpS_bind (pZ K hB1.kind mem (mem _ (by simp)) (by omega) (by omega) (by rw [← hs]; exact A1) (fun j hj e=> ?_) fun k c1 c2 c3=> ?_)))
 ·rw [← eM (r:=r) hsb] at e; exact hB.ne K (i:=sa+j) (j:=sb) (by omega) (by omega) (by omega) e
 rw [← eM (r:=r) hsb] at c2 c3
 have c2':∀j,sa≤j→j<sa+k→rkA r (arrOf st) j<rkA r (arrOf st) sb:=fun j j1 j2=>by
  have:=c2 (j - sa) (by omega)
  rwa [show sa+(j - sa)=j by omega] at this
 have c3':∀j,sa+k≤j→j<sb→rkA r (arrOf st) sb<rkA r (arrOf st) j:=fun j j1 j2=>by
  have:=c3 (j - sa) (by omega) (by omega)
  rwa [show sa+(j - sa)=j by omega] at this
 have A2l:∀j,sb≤j→j<sb+nb→rkA r (arrOf st) sb≤rkA r (arrOf st) j:=fun j j1 j2=>by
  by_cases e:j=sb
  ·rw [e]; exact aN _
  ·exact dP (A2 sb j (aN _) (by omega) j2)
 dsimp only; unfold mgB
 by_cases e0:na - k=0
 ·rw [if_pos (by simpa using e0)]; refine wpS_pure (h1 _ (.refl _) fun i j i1 ij j1=> ?_)
  by_cases q1:j<sb
  ·exact A1 i j i1 ij q1
  ·by_cases q2:i<sb
   ·exact aP (c2' i i1 (by omega)) (A2l j (by omega) j1)
   ·exact A2 i j (by omega) ij j1
 ·rw [if_neg (by simpa using e0)]; have ekn:sa+k+(na - k) - 1=sb - 1:=by omega
  have hkb:sb - 1<(arrOf st).size:=by omega
  rw [ekn]; refine wpS_bind (eS hkb (wpS_bind (pZ K hB1.kind mem (mem _ (by simp)) (by omega) (by omega) A2 (fun j hj e=> ?_) fun n2' d1 d2 d3=> ?_)))
  ·rw [← eM (r:=r) hkb] at e; exact hB.ne K (i:=sb+j) (j:=sb - 1) (by omega) (by omega) (by omega) e
  rw [← eM (r:=r) hkb] at d2 d3
  have d2':∀j,sb≤j→j<sb+n2'→rkA r (arrOf st) j<rkA r (arrOf st) (sb - 1):=fun j j1 j2=>by
   have:=d2 (j - sb) (by omega)
   rwa [show sb+(j - sb)=j by omega] at this
  have d3':∀j,sb+n2'≤j→j<sb+nb→rkA r (arrOf st) (sb - 1)<rkA r (arrOf st) j:=fun j j1 j2=>by
   have:=d3 (j - sb) (by omega) (by omega)
   rwa [show sb+(j - sb)=j by omega] at this
  have n2p:n2'≠0:=fun z=>by subst z; have a:=d3' sb (by omega) (by omega); have b:=c3' (sb - 1) (by omega) (by omega); omega
  dsimp only; rw [if_neg (by simpa using n2p)]; unfold mgC
  have M:MPre r a₀ ((arrOf st).extract (sa+k) sb) ((arrOf st).extract sb (sb+n2')):=by
   have s1:((arrOf st).extract (sa+k) sb).size=sb - (sa+k):=by rw [jT]; omega
   have s2:((arrOf st).extract sb (sb+n2')).size=n2':=by rw [jT]; omega
   have e1:∀t,t<sb - (sa+k)→rkA r ((arrOf st).extract (sa+k) sb) t=rkA r (arrOf st) (sa+k+t):=fun t ht=>rk_ext (by omega) (by omega)
   have e2:∀t,t<n2'→rkA r ((arrOf st).extract sb (sb+n2')) t=rkA r (arrOf st) (sb+t):=fun t ht=>rk_ext (by omega) (by omega)
   refine ⟨by omega,by omega,fun i j _ ij j1=> ?_,fun i j _ ij j1=> ?_,fun x hx=> ?_,fun x hx=> ?_,fun i j i1 j1=> ?_, ?_, ?_⟩
   ·rw [s1] at j1; rw [e1 i (by omega),e1 j j1]; exact A1 _ _ (by omega) (by omega) (by omega)
   ·rw [s2] at j1; rw [e2 i (by omega),e2 j j1]; exact A2 _ _ (by omega) (by omega) (by omega)
   ·rw [eH,dH] at hx; exact mem x (jF (qR hx))
   ·rw [eH,dH] at hx; exact mem x (jF (qR hx))
   ·rw [s1] at i1; rw [s2] at j1; rw [e1 i i1,e2 j j1]; exact hB.ne K (by omega) (by omega) (by omega)
   ·rw [e1 0 (by omega),e2 0 (by omega)]; exact c3' _ (by omega) (by omega)
   ·rw [s1,s2,e1 _ (by omega),e2 _ (by omega),show sa+k+(sb - (sa+k) - 1)=sb - 1 by omega]; exact d2' _ (by omega) (by omega)
  have fin:∀out st',MD r ((arrOf st).extract (sa+k) sb) ((arrOf st).extract sb (sb+n2')) out.toList→SameG (setPending st (((pendingOf st).setIfInBounds i (sa,na+nb,pw)).eraseIdxIfInBounds (i+1))) st'→wpS (model prog w) A E s (do
    modify fun s=>setArr s (wbA (sa+k) out (arrOf s))
    let s ← get
    pure (failedOf s).isNone) Q st':=fun out st' D S=>by
   refine wpS_bind (wpS_modify (wpS_bind (wpS_get (wpS_pure ?_))))
   have ep:out.toList.Perm ((arrOf st).extract (sa+k) (sb+n2')).toList:=by
    have:=D.1
    rwa [ext_app (by omega) (by omega) (by omega)] at this
   have sO:out.size=sb+n2' - (sa+k):=by have:=ep.length_eq; rw [eC,eC,jT] at this; omega
   have hz2:sa+k+out.size≤(arrOf st).size:=by omega
   have ep2:out.toList.Perm ((arrOf st).extract (sa+k) (sa+k+out.size)).toList:=by rw [sO,show sa+k+(sb+n2' - (sa+k))=sb+n2' by omega]; exact ep
   have ff:failedOf (setArr st' (wbA (sa+k) out (arrOf st')))=none:=by show failedOf st'=none; rw [S.failed]; exact hB.failed
   rw [ff]; have arr':arrOf st'=arrOf st:=S.arr
   have at_:∀t,(arrOf (setArr st' (wbA (sa+k) out (arrOf st'))))[t]? =if sa+k≤t∧t<sb+n2' then out[t - (sa+k)]? else (arrOf st)[t]? :=fun t=>by show (wbA (sa+k) out (arrOf st'))[t]? =_; rw [arr',wb_at hz2,sO,show sa+k+(sb+n2' - (sa+k))=sb+n2' by omega]
   refine h _ ⟨?_, ?_,ff⟩ ?_ (fun t ht=>by rw [at_,if_neg (by omega)]) ?_
   ·show (wbA (sa+k) out (arrOf st')).Perm a₀; rw [arr']; exact (wb_perm hz2 ep2).trans hB.perm
   ·show kindOf st'=κ; rw [S.kind]; exact hB.kind
   ·show pendingOf st'=_; rw [S.pend]
   ·have rin:∀t,sa+k≤t→t<sb+n2'→rkA r (arrOf (setArr st' (wbA (sa+k) out (arrOf st')))) t=rkA r out (t - (sa+k)):=fun t t1 t2=>iI (by rw [at_,if_pos ⟨t1,t2⟩])
    have rout:∀t,t<sa+k∨sb+n2'≤t→rkA r (arrOf (setArr st' (wbA (sa+k) out (arrOf st')))) t=rkA r (arrOf st) t:=fun t ht=>iI (by rw [at_,if_neg (by omega)])
    have mo:∀u,u<out.size→∃v,sa+k≤v∧v<sb+n2'∧rkA r out u=rkA r (arrOf st) v:=fun u hu=>by
     have hm:out[u]∈((arrOf st).extract (sa+k) (sb+n2')).toList:=ep.mem_iff.mp (by simp); obtain ⟨v,hv,ev⟩:=gK hm
     have hv':v<sb+n2' - (sa+k):=by have:=hv; rw [eC,jT] at this; omega
     refine ⟨sa+k+v,by omega,by omega, ?_⟩; rw [eM hu,← ev,← rk_ext (xs:=arrOf st) (i:=sa+k) (j:=sb+n2') (t:=v) (by omega) (by omega)]; rw [eM (by rw [jT]; omega)]; simp
    have asO:∀u v,u<v→v<out.size→rkA r out u<rkA r out v:=fun u v uv hv=>by have:=(jM.mp D.2) u v (by simp; omega) (by simpa using hv) uv; rw [eM (by omega),eM hv]; simpa using this
    have low:∀t u,sa≤t→t<sa+k→u<out.size→rkA r (arrOf st) t<rkA r out u:=fun t u t1 t2 hu=>by
     obtain ⟨v,v1,v2,ev⟩:=mo u hu; rw [ev]
     by_cases q:v<sb
     ·exact A1 t v t1 (by omega) q
     ·exact aP (c2' t t1 t2) (A2l v (by omega) (by omega))
    have high:∀t u,sb+n2'≤t→t<sb+nb→u<out.size→rkA r out u<rkA r (arrOf st) t:=fun t u t1 t2 hu=>by
     obtain ⟨v,v1,v2,ev⟩:=mo u hu; rw [ev]
     by_cases q:v<sb
     ·refine cE ?_ (d3' t t1 t2)
      by_cases e:v=sb - 1
      ·rw [e]; exact aN _
      ·exact dP (A1 v (sb - 1) (by omega) (by omega) (by omega))
     ·exact A2 v t (by omega) (by omega) t2
    intro u v u1 uv v1
    by_cases q1:u<sa+k
    ·rw [rout u (.inl q1)]
     by_cases q2:v<sa+k
     ·rw [rout v (.inl q2)]; exact A1 u v u1 uv (by omega)
     ·by_cases q3:v<sb+n2'
      ·rw [rin v (by omega) q3]; exact low _ _ u1 q1 (by omega)
      ·rw [rout v (.inr (by omega))]; exact aP (c2' u u1 q1) (A2l v (by omega) v1)
    ·by_cases q2:u<sb+n2'
     ·rw [rin u (by omega) q2]
      by_cases q3:v<sb+n2'
      ·rw [rin v (by omega) q3]; exact asO _ _ (by omega) (by omega)
      ·rw [rout v (.inr (by omega))]; exact high _ _ (by omega) v1 (by omega)
     ·rw [rout u (.inr (by omega)),rout v (.inr (by omega))]; exact A2 u v (by omega) uv v1
  dsimp only
  split
  ·exact wpS_bind (wpS_mergeLo K hB1.kind M fin)
  ·exact wpS_bind (wpS_mergeHi K hB1.kind M fin)
end
def Runs (r:Keyed→Nat) (xs:Array Keyed):Nat→List (Nat × Nat × Nat)→Nat→Prop
 | s,[],e=>s=e
 | s,p::l,e=>p.1=s∧1≤p.2.1∧AscR r xs s (s+p.2.1)∧Runs r xs (s+p.2.1) l e
section
variable {r:Keyed→Nat} {xs ys:Array Keyed}
theorem AscR.keep {s e:Nat} (h:AscR r xs s e) (k:∀t,s≤t→t<e→ys[t]? =xs[t]?):AscR r ys s e:=fun i j hi hij hj=>by rw [iI (k i hi (by omega)),iI (k j (by omega) hj)]; exact h i j hi hij hj
theorem Runs.le:∀ {l:List (Nat × Nat × Nat)} {s e:Nat},Runs r xs s l e→s+l.length≤e
 | [],s,e,h=>by rw [show s=e from h]; exact aN _
 | p::l,s,e,⟨_,h1,_,h2⟩=>by have:=h2.le; rw [dS]; omega
theorem Runs.keep:∀ {l:List (Nat × Nat × Nat)} {s e:Nat},Runs r xs s l e→(∀t,s≤t→t<e→ys[t]? =xs[t]?)→Runs r ys s l e
 | [],_,_,h,_=>h
 | p::l,s,e,⟨h0,h1,h2,h3⟩,k=>by have:=h3.le; exact ⟨h0,h1,h2.keep fun t t1 t2=>k t t1 (by omega),h3.keep fun t t1 t2=>k t (by omega) t2⟩
theorem Runs.split:∀ {l1 l2:List (Nat × Nat × Nat)} {s e:Nat},Runs r xs s (l1++l2) e→∃m,Runs r xs s l1 m∧Runs r xs m l2 e
 | [],l2,s,e,h=>⟨s,rfl,h⟩
 | p::l1,l2,s,e,⟨h0,h1,h2,h3⟩=>by obtain ⟨m,a,b⟩:=Runs.split h3; exact ⟨m,⟨h0,h1,h2,a⟩,b⟩
theorem Runs.app:∀ {l1 l2:List (Nat × Nat × Nat)} {s m e:Nat},Runs r xs s l1 m→Runs r xs m l2 e→Runs r xs s (l1++l2) e
 | [],l2,s,m,e,h,h2=>by rw [show s=m from h]; exact h2
 | p::l1,l2,s,m,e,⟨h0,h1,h2,h3⟩,b=>⟨h0,h1,h2,Runs.app h3 b⟩
theorem Runs.pow {l1:List (Nat × Nat × Nat)} {x y:Nat × Nat × Nat} {s e:Nat} (h:Runs r xs s (l1++[x]) e) (h1:y.1=x.1) (h2:y.2.1=x.2.1):Runs r xs s (l1++[y]) e:=by obtain ⟨m,a,b⟩:=h.split; refine a.app ?_; obtain ⟨b0,b1,b2,b3⟩:=b; exact ⟨h1.trans b0,by rw [h2]; exact b1,by rw [h2]; exact b2,by rw [h2]; exact b3⟩
theorem pnd_at {p:Pnd} {i:Nat} (h:i+1<p.size) (v:Nat × Nat × Nat):p.toList=p.toList.take i++p[i]::p[i+1]::p.toList.drop (i+2)∧((p.setIfInBounds i v).eraseIdxIfInBounds (i+1)).toList=p.toList.take i++v::p.toList.drop (i+2):=by
 have e1:p.toList=p.toList.take i++p[i]::p[i+1]::p.toList.drop (i+2):=by
  have a:p.toList.drop i=p[i]::p.toList.drop (i+1):=by rw [eI (by simp; omega)]; simp
  have b:p.toList.drop (i+1)=p[i+1]::p.toList.drop (i+1+1):=by rw [eI (by simp; omega)]; simp
  rw [← b,← a,iS]
 refine ⟨e1, ?_⟩; have l1:(p.toList.take i).length=i:=by rw [eN]; simp; omega
 rw [Array.toList_eraseIdxIfInBounds,Array.toList_setIfInBounds]; generalize p.toList.take i=u at e1 l1; generalize p.toList.drop (i+2)=z at e1; rw [e1]; rw [List.set_append_right _ _ (by omega),l1,pY,List.set_cons_zero,List.eraseIdx_append_of_length_le (by omega),l1,show i+1 - i=1 by omega]; rfl
end
section
variable {prog:Program} {w:World} {A:Around} {E:Value→Shared→Prop} {s:Shared} {κ:SortKind} {r:Keyed→Nat} {a₀:Array Keyed} {st st':SortSt}
theorem wpS_mrg {i e:Nat} {Q:Bool→SortSt→Prop} (K:lY prog w A E s κ r a₀) (hB:SB κ a₀ st) (R:Runs r (arrOf st) 0 (pendingOf st).toList e) (he:e≤a₀.size) (hi:i+1<(pendingOf st).size)
  (h:∀st',SB κ a₀ st'→Runs r (arrOf st') 0 (pendingOf st').toList e→(pendingOf st').size+1=(pendingOf st).size→(∀k,e≤k→(arrOf st')[k]? =(arrOf st)[k]?)→Q true st'):wpS (model prog w) A E s (mergeAt' i) Q st:=by
 obtain ⟨e1,_⟩:=pnd_at hi (0,0,0); have R0:=R; rw [e1] at R0; obtain ⟨m,R1,a1,a2,a3,b1,b2,b3,R2⟩:=R0.split
 have h1:(pendingOf st)[i]? =some (m,(pendingOf st)[i].2.1,(pendingOf st)[i].2.2):=by rw [getElem?_pos _ i (by omega)]; refine congrArg some ?_; rw [← a1]
 have h2:(pendingOf st)[i+1]? =some (m+(pendingOf st)[i].2.1,(pendingOf st)[i+1].2.1,(pendingOf st)[i+1].2.2):=by rw [getElem?_pos _ (i+1) (by omega)]; refine congrArg some ?_; rw [← b1]
 have l2:=R2.le; have l1:=R1.le; refine wpS_mergeAt K hB h1 h2 rfl a2 b2 (by omega) a3 b3 fun st' hB' hp hk ha=> ?_
 obtain ⟨_,e2⟩:=pnd_at hi (m,(pendingOf st)[i].2.1+(pendingOf st)[i+1].2.1,(pendingOf st)[i].2.2); have ep:(pendingOf st').toList=(pendingOf st).toList.take i++(m,(pendingOf st)[i].2.1+(pendingOf st)[i+1].2.1,(pendingOf st)[i].2.2)::(pendingOf st).toList.drop (i+2):=by rw [hp]; exact e2
 refine h st' hB' ?_ ?_ (fun k hk2=>hk k (.inr (by omega)))
 ·rw [ep]; refine (R1.keep fun t _ t2=>hk t (.inl t2)).app ⟨rfl,by show 1≤_+_; omega, ?_, ?_⟩
  ·show AscR r (arrOf st') m (m+(_+_)); rw [← Nat.add_assoc]; exact ha
  ·show Runs r (arrOf st') (m+(_+_)) _ e; rw [← Nat.add_assoc]; exact R2.keep fun t t1 _=>hk t (.inr t1)
 ·have:=congrArg xR ep; have q:=congrArg xR e1; simp only [eC,cR,dS] at this q; omega
structure SR (κ:SortKind) (r:Keyed→Nat) (a₀:Array Keyed) (lo:Nat) (st:SortSt):Prop where
 sb:SB κ a₀ st
 runs:Runs r (arrOf st) 0 (pendingOf st).toList lo
theorem wpS_push {lo n:Nat} {Q:ForInStep (Option Unit × Nat)→SortSt→Prop} (K:lY prog w A E s κ r a₀) (S:SR κ r a₀ lo st) (n1:1≤n) (hn:lo+n≤a₀.size) (ha:AscR r (arrOf st) lo (lo+n)) (h:∀st',SR κ r a₀ (lo+n) st'→Q (.yield (none,lo+n)) st'):wpS (model prog w) A E s (srPush lo n a₀.size) Q st:=by
 unfold srPush; refine wpS_bind (wpS_get ?_)
 have fin:∀st',SR κ r a₀ lo st'→AscR r (arrOf st') lo (lo+n)→SR κ r a₀ (lo+n) (setPending st' ((pendingOf st').push (lo,n,0))):=fun st' S' ha'=>by refine ⟨⟨S'.sb.perm,S'.sb.kind,S'.sb.failed⟩, ?_⟩; show Runs r (arrOf st') 0 ((pendingOf st').push (lo,n,0)).toList (lo+n); rw [iT]; exact S'.runs.app ⟨rfl,n1,ha',rfl⟩
 cases hb:(pendingOf st).back? with
 | none=>exact wpS_bind (wpS_modify (wpS_pure (h _ (fin st S ha))))
 | some p=>
  obtain ⟨s1,n1',p1⟩:=p; dsimp only; generalize power' a₀.size (2 * s1+n1') (2 * s1+n1'+n1'+n) a₀.size=pw
  have ne0:1≤(pendingOf st).size:=by
   rcases Nat.eq_zero_or_pos (pendingOf st).size with z | z
   ·rw [Array.eq_empty_of_size_eq_zero z] at hb; cases hb
   ·exact z
  refine wpS_bind (wpS_mono (wpS_forRange (I:=fun _ c st'=>c=(none,())∧SR κ r a₀ lo st'∧1≤(pendingOf st').size∧AscR r (arrOf st') lo (lo+n)) (Q:=fun c st'=>c=(none,())∧SR κ r a₀ lo st'∧1≤(pendingOf st').size∧AscR r (arrOf st') lo (lo+n)) ?step (fun _ _ z=>z) ⟨rfl,S,ne0,ha⟩) ?post)
  case step=>
   rintro x c st' _ hx ⟨rfl,S',ne',ha'⟩; unfold srIn; refine wpS_bind (wpS_get ?_)
   by_cases q:(pendingOf st').size>1
   ·rw [if_pos q,getElem?_pos _ _ (by omega)]; dsimp only
    split
    ·exact wpS_pure ⟨rfl,S',ne',ha'⟩
    ·refine wpS_bind (wpS_mrg K S'.sb S'.runs (by omega) (by omega) fun st'' hB hr hs hk=> ?_); rw [if_neg (by decide)]; exact wpS_pure ⟨rfl,⟨hB,hr⟩,by omega,ha'.keep fun t t1 _=>hk t t1⟩
   ·rw [if_neg q]; exact wpS_pure ⟨rfl,S',ne',ha'⟩
  case post=>
   rintro c st' ⟨rfl,S',ne',ha'⟩; dsimp only; refine wpS_bind (wpS_modify (wpS_bind (wpS_modify (wpS_pure (h _ (fin (setPending st' ((pendingOf st').modify ((pendingOf st').size - 1) fun (x:Nat × Nat × Nat)=>(x.1,x.2.1,pw))) ⟨⟨S'.sb.perm,S'.sb.kind,S'.sb.failed⟩, ?_⟩ ha')))))); show Runs r (arrOf st') 0 ((pendingOf st').modify ((pendingOf st').size - 1) fun (x:Nat × Nat × Nat)=>(x.1,x.2.1,pw)).toList lo
   have hl:(pendingOf st').toList≠[]:=fun z=>by have:=congrArg xR z; rw [eC,mG] at this; omega
   have e1:=(yI hl).symm; have R:=S'.runs; rw [e1] at R
   have e2:((pendingOf st').modify ((pendingOf st').size - 1) fun (x:Nat × Nat × Nat)=>(x.1,x.2.1,pw)).toList=(pendingOf st').toList.dropLast++[(((pendingOf st').toList.getLast hl).1,((pendingOf st').toList.getLast hl).2.1,pw)]:=by
    apply uA; intro t; rw [fB,Array.getElem?_modify]; have ld:(pendingOf st').toList.dropLast.length=(pendingOf st').size - 1:=by simp
    by_cases q:(pendingOf st').size - 1=t
    ·rw [if_pos q,fN (by rw [ld]; omega),ld,q,pY,← q]; rw [List.getLast_eq_getElem]; have:(pendingOf st').size - 1<(pendingOf st').size:=by omega
     simp [this]
    ·rw [if_neg q]
     by_cases q2:t<(pendingOf st').size - 1
     ·rw [gS (by rw [ld]; exact q2),List.getElem?_dropLast,if_pos (by simpa using q2),fB]
     ·rw [fN (by rw [ld]; omega),ld]; rw [jY (by omega),dN (by simp; omega)]
   rw [e2]; exact R.pow rfl rfl
theorem wpS_sortR {Q:Unit→SortSt→Prop} (K:lY prog w A E s κ r a₀) (hB:SB κ a₀ st) (hp:pendingOf st= #[]) (h:∀st',SB κ a₀ st'→AscR r (arrOf st') 0 a₀.size→Q () st'):wpS (model prog w) A E s sortRuns' Q st:=by
 rw [srM_eq]; unfold srM; refine wpS_bind (wpS_get ?_); have sz:=hB.size; rw [sz]; generalize minRun' a₀.size a₀.size 0=minrun; refine wpS_bind (wpS_mono (wpS_forRange (I:=fun x c st'=>∃lo,c=(none,lo)∧SR κ r a₀ lo st'∧lo≤a₀.size∧(x≤lo∨lo=a₀.size)) (Q:=fun c st'=>c=(none,a₀.size)∧SR κ r a₀ a₀.size st') ?step ?fin ⟨0,rfl,⟨hB,by rw [hp]; rfl⟩,bO _, .inl (aN _)⟩) ?post)
 case fin=>
  rintro c st' ⟨lo,rfl,S,h1,h2⟩; have:lo=a₀.size:=by omega
  subst this; exact ⟨rfl,S⟩
 case step=>
  rintro x c st' _ hx ⟨lo,rfl,S,h1,h2⟩; unfold srBody; dsimp only
  by_cases q:lo≥a₀.size
  ·rw [if_pos q]; have:lo=a₀.size:=by omega
   subst this; exact wpS_pure ⟨rfl,S⟩
  ·rw [if_neg q]; refine wpS_bind (wpS_countR K S.sb (by omega) (by omega) fun m st2 m1 m2 T ha=> ?_); have S2:SR κ r a₀ lo st2:=⟨T.sb,by rw [T.pend]; exact S.runs.keep fun t _ t2=>T.keep t (.inl t2)⟩; dsimp only
   by_cases z:m<minrun
   ·rw [if_pos z]; refine wpS_bind (wpS_lift (wpAny_rule ⟨rfl, ?_⟩)); refine wpS_bind (wpS_binR K S2.sb (by omega) (by omega) ha fun st3 T3 ha3=> ?_); rw [if_neg (by decide)]; refine wpS_push K ⟨T3.sb,by rw [T3.pend]; exact S2.runs.keep fun t _ t2=>T3.keep t (.inl t2)⟩ (by omega) (by omega) ha3 fun st4 S4=>⟨_,rfl,S4,by omega, .inl (by omega)⟩
   ·rw [if_neg z]; exact wpS_push K S2 m1 (by omega) ha fun st4 S4=>⟨_,rfl,S4,by omega, .inl (by omega)⟩
 case post=>
  rintro c st' ⟨rfl,S⟩; dsimp only
  have pl:(pendingOf st').size≤a₀.size:=by have:=S.runs.le; simpa using this
  refine wpS_bind (wpS_mono (wpS_forRange (I:=fun x c st''=>c=(none,())∧SR κ r a₀ a₀.size st''∧(pendingOf st'').size≤a₀.size - x) (Q:=fun c st''=>c=(none,())∧SR κ r a₀ a₀.size st''∧(pendingOf st'').size≤1) ?step2 ?fin2 ⟨rfl,S,by omega⟩) ?post2)
  case fin2=>rintro c st'' ⟨rfl,S,h1⟩; exact ⟨rfl,S,by omega⟩
  case step2=>
   rintro x c st'' _ hx ⟨rfl,S,h1⟩; unfold srEnd; refine wpS_bind (wpS_get ?_)
   by_cases q:(pendingOf st'').size≤1
   ·rw [if_pos q]; exact wpS_pure ⟨rfl,S,q⟩
   ·rw [if_neg q]; have go:∀i,i+1<(pendingOf st'').size→wpS (model prog w) A E s (mergeAt' i) (fun b st'=>b=true∧SR κ r a₀ a₀.size st'∧(pendingOf st').size≤a₀.size - (x+1)) st'':=fun i hi=>wpS_mrg K S.sb S.runs (aN _) hi fun st3 hB3 hr hs hk=>⟨rfl,⟨hB3,hr⟩,by omega⟩
    refine wpS_bind (wpS_mono (go _ ?_) fun b st3 hb=> ?_)
    ·have bd:∀c:Bool,(if c=true then (pendingOf st'').size - 2 - 1 else (pendingOf st'').size - 2)+1<(pendingOf st'').size:=fun c=>by
      cases c
      ·rw [if_neg (by decide)]; omega
      ·rw [if_pos rfl]; omega
     exact bd _
    ·obtain ⟨rfl,S3,h3⟩:=hb; rw [if_neg (by decide)]; exact wpS_pure ⟨rfl,S3,h3⟩
  case post2=>
   rintro c st'' ⟨rfl,S,h1⟩; refine wpS_pure (h st'' S.sb ?_); have R:=S.runs; generalize e:(pendingOf st'').toList=l at R; have ll:l.length≤1:=by rw [← e]; simpa using h1
   match l,ll with
   | [],_=>have:0=a₀.size:=R; intro i j _ _ hj; omega
   | [p],_=>obtain ⟨_,_,b,c⟩:=R; have c:0+p.2.1=a₀.size:=c; rw [c] at b; exact b
end
structure TOk (w:World) (es:List (Int × Value)) (t:SetTable) (ks:List Nat):Prop where
 fit:t.fits es.toArray.size=true
 pl:t.plain=true
 led:t.led= !byT w
 place:t.place=ks.toArray
 asc:ks.Pairwise (·<·)
 len:es.length=ks.length
def soT (es:List (Int × Value)) (ep:Nat) (t:SetTable):Obj:={cls:= .type "set",dict:=none,data:= .set es.toArray ep t}
theorem belowT {w:World} {ks:List Nat} (h:ks.Pairwise (·<·)) (hb:byT w=false) (i:Nat) (hi:i≤ks.length):fK ks.toArray (stK w ks i)=i:=by
 have e:ks=ks.take i++ks.drop i:=(iS i ks).symm; have l1:(ks.take i).length=i:=by rw [eN]; omega
 have g:fK (ks.take i++ks.drop i).toArray (stK w ks i)=(ks.take i).length:=by
  have pw:=jM.mp h; refine mP (fun x hx=> ?_) (fun x hx=> ?_)
  ·obtain ⟨j,hj,rfl⟩:=gK hx; have hj2:j<i:=by omega
   cases i with
   | zero=>omega
   | succ i=>
    have st:stK w ks (i+1)=ks.getD i 0+1:=by unfold stK; rw [hb]; rfl
    rw [st,List.getElem_take]; have hi':i<ks.length:=by omega
    have eg:ks.getD i 0=ks[i]:=by simp [dD,hi']
    show ks[j]<ks.getD i 0+1; rw [eg]
    by_cases q:j=i
    ·subst q; omega
    ·have:=pw j i (by omega) hi' (by omega); omega
  ·obtain ⟨j,hj,rfl⟩:=gK hx; rw [lB] at hj; cases i with
   | zero=>
    have st:stK w ks 0=0:=by unfold stK; rw [hb]; rfl
    rw [st]; exact bO _
   | succ i=>
    have st:stK w ks (i+1)=ks.getD i 0+1:=by unfold stK; rw [hb]; rfl
    rw [st,List.getElem_drop]; have hi':i<ks.length:=by omega
    have eg:ks.getD i 0=ks[i]:=by simp [dD,hi']
    show ks.getD i 0+1≤_; rw [eg]; exact pw i (i+1+j) hi' (by omega) (by omega)
 rw [← e,l1] at g; exact g
section
variable {prog:Program} {w:World} {A:Around} {E:Value→Shared→Prop} {s:Shared}
theorem nextW {S:Addr} {es:List (Int × Value)} {ep i:Nat} {ks:List Nat} {tb:SetTable} {Q:Option (Value × Nat)→Shared→Prop} (hk:TOk w es tb ks) (ho:s.heap.get? S=some (soT es ep tb)) (hi:i≤ks.length) (h:Q (((pB w S ep es)[i]?).map fun e=>(e.2,stK w ks (i+1))) s):
  wpAny (model prog w) A (setNext S (stK w ks i) i ep) Q E s:=by
 unfold setNext; refine wpAny_bind (wpAny_setState_of ho rfl (hk.fit) ?_); dsimp only; refine wpAny_bind ?_; unfold setsByText; refine wpAny_bind (wpAny_askSetting (wpAny_pure ?_)); show wpAny _ _ (if byT w=true then _ else _) _ _ _; cases hb:byT w with
 | true=>
  simp only [if_true,bne_self_eq_false,aK,if_false]; refine wpAny_bind ?_; unfold setWalk; refine wpAny_bind (wpAny_setState_of ho rfl (hk.fit) ?_); dsimp only; refine wpAny_bind ?_; unfold setsByText; refine wpAny_bind (wpAny_askSetting (wpAny_pure ?_)); show wpAny _ _ (if byT w=true then _ else _) _ _ _; rw [hb]; simp only [if_true]; refine wpAny_bind (wpAny_askSetting (wpAny_pure (wpAny_pure ?_))); have e:pB w S ep es=(pickOrder (w.params.setOrder S ep) es.toArray).toList:=by unfold pB; rw [hb]; rfl
  have e2:stK w ks i=stK w ks (i+1):=by unfold stK; rw [hb]; rfl
  rw [e] at h; rw [e2]; rw [fB] at h; exact h
 | false=>
  simp only [aK,if_false]; have e:pB w S ep es=es:=by unfold pB; rw [hb]; rfl
  have e2:fK tb.place (stK w ks i)=i:=by rw [hk.place]; exact belowT hk.asc hb i hi
  have e3:((pB w S ep es)[i]?).map (fun e=>(e.2,stK w ks (i+1)))=(match es.toArray[i]?,tb.place[i]? with
     | some (_,x),some j=>some (x,j+1)
     | _,_=>none):=by
   have e4:stK w ks (i+1)=ks.getD i 0+1:=by unfold stK; rw [hb]; rfl
   rw [e,e4]; rw [hk.place]
   show _=(match es.toArray[i]?,ks.toArray[i]? with
     | some (_,x),some j=>some (x,j+1)
     | _,_=>none)
   by_cases h1:i<ks.length
   ·have h2:i<es.length:=by rw [hk.len]; exact h1
    simp [h1,h2,dD]
   ·have h2:¬ i<es.length:=by rw [hk.len]; exact h1
    simp [h1,h2]
  rw [e2]; rw [e3] at h
  have r1:∀ (t t':Sem (Option (Value × Nat))),wpAny (model prog w) A t Q E s→wpAny (model prog w) A (if (!tb.plain && decide (es.toArray.size>1))=true then t' else t) Q E s:=fun t t' ht=>by rw [hk.pl]; exact ht
  refine r1 _ _ ?_; have led:tb.led=true:=by rw [hk.led,hb]; rfl
  refine wpAny_bind ?_
  wp_delta
  rw [led]; exact wpAny_pure (wpAny_pure h)
theorem headW {I S:Addr} {es:List (Int × Value)} {ep i:Nat} {ks:List Nat} {tb:SetTable} {Q:Option Value→Shared→Prop} (hk:TOk w es tb ks) (hI:s.heap.get? I=some (itK w S ks ep i)) (ho:s.heap.get? S=some (soT es ep tb)) (hi:i≤ks.length)
  (h:wpAny (model prog w) A.in1 (match ((pB w S ep es)[i]?).map fun e=>(e.2,stK w ks (i+1)) with
       | some (x,next)=>do
        setField (Value.ref I) 0 (rawInt next)
        setField (Value.ref I) 1 (rawInt ((i:Int)+1))
        ret x
       | none=>do
        setField (Value.ref I) 2 Value.none
        raiseNew (← newExc (Value.type "StopIteration") [])) (fun fin s'=>∃v,fin=Fin.done (Flow.ret v)∧wpAny (model prog w) A (pure (some v)) Q E s')
  (fun e s'=>wpAny (model prog w) A (do if ← isInstance e (Value.type "StopIteration") then pure none else throw e) Q E s') s):wpAny (model prog w) A (pyNext (.ref I)) Q E s:=by
 have hT:=zM hI; unfold pyNext; refine wpAny_bind (wpAny_attempt (wpAny_callSpecial?_slot (name:=Str.ofString "__next__") hT slot_sit_next (wpAny_call_entry slot_sit_next hT wU ?_ (yK _)))); unfold Builtin.«set_iterator.__next__»; refine wpAny_bind (wpAny_pure (wpAny_bind (wpAny_fieldsOf hI rfl ?_))); dsimp only; show wpAny _ _ (setEntries S>>=fun es=>if ((es.size:Int) !=(ks.length:Int))=true then _ else (setNext S (stK w ks i:Int).toNat (i:Int).toNat (ep:Int).toNat>>=_)) _ _ _; refine wpAny_bind ?_; unfold setEntries; refine wpAny_bind (wpAny_setState_of ho rfl (hk.fit) (wpAny_pure ?_)); rw [if_neg (by simp [hk.len])]; rw [eE,eE,eE]; exact wpAny_bind (nextW hk ho hi h)
theorem itemW {I S:Addr} {es:List (Int × Value)} {ep i:Nat} {ks:List Nat} {tb:SetTable} {c:Int} {v:Value} {Q:Option Value→Shared→Prop} (hk:TOk w es tb ks) (hI:s.heap.get? I=some (itK w S ks ep i)) (ho:s.heap.get? S=some (soT es ep tb)) (hi:i<ks.length) (hv:(pB w S ep es)[i]? =some (c,v))
  (h:∀h',h'.get? I=some (itK w S ks ep (i+1))→Heap.SameBut I s.heap h'→Q (some v) {s with heap:=h'}):wpAny (model prog w) A (pyNext (.ref I)) Q E s:=by
 refine headW hk hI ho (dP hi) ?_; rw [hv]; dsimp only [mS]; refine wpAny_bind (wpAny_setField hI rfl (by simp) ?_); have g1:=fD (Obj.mapFields (·.setIfInBounds 0 (rawInt ((stK w ks (i+1):Nat):Int)))) hI rfl; refine wpAny_bind (wpAny_setField (s:={s with heap:=s.heap.update I (Obj.mapFields (·.setIfInBounds 0 (rawInt ((stK w ks (i+1):Nat):Int))))}) g1 rfl (by simp) ?_); have g2:=fD (Obj.mapFields (·.setIfInBounds 1 (rawInt ((i:Int)+1)))) g1 rfl; refine wpAny_pure ⟨v,rfl,wpAny_pure (h _ (g2.trans ?_) ((Heap.SameBut.update ..).trans (Heap.SameBut.update ..)))⟩; rfl
theorem endW {I S:Addr} {es:List (Int × Value)} {ep:Nat} {ks:List Nat} {tb:SetTable} {Q:Option Value→Shared→Prop} (hh:A.handled=none) (hk:TOk w es tb ks) (hI:s.heap.get? I=some (itK w S ks ep ks.length)) (ho:s.heap.get? S=some (soT es ep tb)) (ho2:(pB w S ep es).length=ks.length)
  (h:∀h',Heap.ExtBut I s.heap h'→Q none {s with heap:=h'}):wpAny (model prog w) A (pyNext (.ref I)) Q E s:=by
 refine headW hk hI ho (aN _) ?_; rw [dN (by omega)]; dsimp only [mS]; refine wpAny_bind (wpAny_setField hI rfl (by simp) (wpAny_bind ?_)); simp only [newExc,newTuple]; refine wpAny_bind (wpAny_newObj_type (wpAny_bind (m:=firstArgMember _ _) (wpAny_of_eq (a:=Value.none) (by first | rfl | (simp only [firstArgMember]; rfl)) (wpAny_newObj_type ?_ (by size_fits)))) (by size_fits)); simp only [raiseNew]; refine wpAny_bind (wpAny_handled ?_); rw [show A.in1.handled=none from hh]; refine wpAny_bind (wpAny_pure (wpAny_throw ?_)); refine wpAny_bind (wpAny_isInstance (T:="StopIteration") (b:=true) ⟨_,aV _ rfl,rfl⟩ isSubtype_stop (wpAny_pure ?_)); exact h _ (((Heap.SameBut.update ..).extBut.push _).push _)
theorem iterW {S:Addr} {es:List (Int × Value)} {ep:Nat} {ks:List Nat} {tb:SetTable} {Q:Value→Shared→Prop} (hk:TOk w es tb ks) (ho:s.heap.get? S=some (soT es ep tb))
  (h:Q (.ref s.heap.objs.size) {s with heap:=s.heap.push (itK w S ks ep 0)}):wpAny (model prog w) A (pyIter (.ref S)) Q E s:=by
 have hT:s.TypeIs (.ref S) "set":=⟨_,ho,rfl⟩; refine wpAny_pyIter_slot hT F.slot_set_iter (wpAny_call_entry F.slot_set_iter hT entry_seti ?_ (F.args_set_iter_1 _)); unfold Builtin.«frozenset.__iter__»; refine wpAny_bind (wpAny_bind (wpAny_pure (wpAny_pure (wpAny_bind ?_)))); unfold Builtin.Frozenset.sizeOf setEntries; refine wpAny_bind (wpAny_bind (wpAny_setState_of ho rfl (hk.fit) (wpAny_pure (wpAny_pure ?_)))); refine wpAny_bind ?_; unfold setDrawn; refine wpAny_bind (wpAny_setState_of ho rfl (hk.fit) ?_); dsimp only; refine wpAny_bind ?_; unfold setsByText; refine wpAny_bind (wpAny_askSetting (wpAny_pure (wpAny_pure ?_)))
 have dr:∀ (b:Bool) (t t':Sem Fin) (Q:Fin→Shared→Prop) (E:Value→Shared→Prop),wpAny (model prog w) A.in1 t' Q E s→wpAny (model prog w) A.in1 (if (b && (!tb.plain && decide (es.toArray.size>1)))=true then t else t') Q E s:=fun b t t' Q E ht=>by
  have:(b && (!tb.plain && decide (es.toArray.size>1)))=false:=by rw [hk.pl]; simp
  rw [this]; exact ht
 refine dr _ _ _ _ _ (wpAny_bind (wpAny_pure (wpAny_bind (wpAny_setEpoch_of ho rfl (hk.fit) ?_)))); refine wpAny_bind (wpAny_newObj_type (wpAny_pure ⟨_,rfl,"set_iterator",_,⟨_,aV _ rfl,rfl⟩,slot_sit_next.lookup, ?_⟩)); have e0:stK w ks 0=0:=by unfold stK; split<;>rfl
 have e:({cls:=Value.type "set_iterator",data:= .fields [rawInt 0,rawInt 0,Value.ref S,rawInt (es.toArray.size:Int),rawInt (ep:Int)].toArray}:Obj)=itK w S ks ep 0:=by unfold itK; rw [e0]; simp [hk.len]
 exact e▸h
theorem ordW_len {S:Addr} {ep:Nat} {es:List (Int × Value)} {ks:List Nat} {tb:SetTable} (hk:TOk w es tb ks):(pB w S ep es).length=ks.length:=by rw [(yX (w:=w) (S:=S) (ep:=ep) es).length_eq,hk.len]
theorem walksW (hh:A.handled=none) {I S:Addr} {es:List (Int × Value)} {ep:Nat} {ks:List Nat} {tb:SetTable} (hk:TOk w es tb ks) (hne:S≠I):
  Walks prog w A I [I,S] [I] ks.length (fun i v=>∃c,(pB w S ep es)[i]? =some (c,v)) (fun i h=>h.get? I=some (itK w S ks ep i)∧h.get? S=some (soT es ep tb)) where
 sub:=fun b hb=>by simp at hb; simp [hb]
 frame:=fun _ _ _ st kp=>⟨kp I (by simp) _ st.1,kp S (by simp) _ st.2⟩
 item:=fun i s Q E hi st k=>by
  have hi':i<(pB w S ep es).length:=by rw [ordW_len hk]; exact hi
  obtain ⟨⟨c,v⟩,hx⟩:∃p,(pB w S ep es)[i]? =some p:=⟨(pB w S ep es)[i],by simp [hi']⟩; refine itemW hk st.1 st.2 hi hx fun h' g sb=>k v h' s.toks ⟨c,hx⟩ ⟨g, ?_⟩ fun b o hb g=> ?_
  ·rw [sb.2 S hne]; exact st.2
  ·rw [sb.2 b fun z=>hb (by simp [z])]; exact g
 done:=fun s Q E st k=>endW hh hk st.1 st.2 (ordW_len hk) fun h' eb=>k h' s.toks fun b o hb g=>eb b o (fun z=>hb (by simp [z])) g
 self:=fun _ _ _ _ st k=>selfK st.1 k
theorem srcW {S:Addr} {es:List (Int × Value)} {ep:Nat} {ks:List Nat} {tb:SetTable} (hk:TOk w es tb ks):PySem.W.KdlSrc prog w "set" S S ks.length (fun i v=>∃c,(pB w S ep es)[i]? =some (c,v)) (fun h=>h.get? S=some (soT es ep tb)) where
 type:=fun _ hm=>⟨_,hm,rfl⟩
 there:=fun _ hm=>⟨aI hm,aI hm⟩
 keep:=fun _ _ hm kp=>kp S (.inl rfl) _ hm
 notList:=by decide
 notTuple:=by decide
 hint:=fun _ _ _ _ hm q=>hintK ⟨_,hm,rfl⟩ q
 iter:=fun _ _ hh hm=>⟨_,_,(fun _ _ q=>iterW hk hm q),walksW hh hk (bH (aI hm)),⟨aV _ rfl,aA _ hm⟩⟩
end
def iX (h:Heap) (a:Addr) (vs:List Value):Heap:=((h.update a (Obj.mapSeq fun _=> #[])).push (seqObj "tuple" vs.toArray 0)).push (seqObj "list" #[] 0)
section
variable {prog:Program} {w:World} {A:Around} {E:Value→Shared→Prop} {s:Shared}
theorem rZ (vs:List Value):(vs.toArray.zip vs.toArray).toList=vs.map fun v=>(v,v):=by
 rw [Array.toList_zip]; show vs.zip vs=_
 induction vs with
 | nil=>rfl
 | cons v vs ih=>rw [sQ,ih]; rfl
theorem asks_of {κ:SortKind} {rk:Value→Nat} {vs:List Value} (nd:(vs.map rk).Nodup) (hask:∀x∈vs,∀y∈vs,∀ (Q:Bool→Shared→Prop) (E':Value→Shared→Prop),Q (decide (rk x<rk y)) s→wpAny (model prog w) A (keyLt' κ x y) Q E' s):lY prog w A E s κ (fun p=>rk p.1) (vs.toArray.zip vs.toArray):=by
 refine ⟨fun {x y st Q} hx hy hk h=> ?_, ?_⟩
 ·rw [rZ] at hx hy; obtain ⟨u,hu,rfl⟩:=bB.mp hx; obtain ⟨v,hv,rfl⟩:=bB.mp hy; rw [lt'_eq]; refine wpS_bind (wpS_get ?_); rw [hk]; exact wpS_bind (wpS_lift (wpAny_attempt (hask u hu v hv _ _ ⟨rfl,wpS_pure h⟩)))
 ·rw [rZ,bX]; exact nd
theorem yQ {a:Addr} {vs:List Value} {n:Nat} {κ:SortKind} {rk:Value→Nat} {R:PySem.Fin→Shared→Prop} (ho:s.heap.get? a=some (seqObj "list" vs.toArray n)) (nd:(vs.map rk).Nodup) (hn:vs.length≤10000)
  (hkind:2≤vs.length→∀ (Q:SortKind→Shared→Prop),Q κ ⟨iX s.heap a vs,s.gens,s.drawn,s.toks,s.os⟩→wpAny (model prog w) A (keyKind' vs.toArray) Q E ⟨iX s.heap a vs,s.gens,s.drawn,s.toks,s.os⟩)
  (hask:∀x∈vs,∀y∈vs,∀ (Q:Bool→Shared→Prop) (E':Value→Shared→Prop),Q (decide (rk x<rk y)) ⟨iX s.heap a vs,s.gens,s.drawn,s.toks,s.os⟩→wpAny (model prog w) A (keyLt' κ x y) Q E' ⟨iX s.heap a vs,s.gens,s.drawn,s.toks,s.os⟩)
  (h:∀out:Array Value,out.toList.Perm vs→(out.toList.map rk).Pairwise (·<·)→R (.done (.ret .none)) {s with heap:=sortedHeap s.heap a vs out}):wpAny (model prog w) A (Builtin.«list.sort» ⟨[.ref a],[]⟩) R E s:=by
 have lt:a<s.heap.objs.size:=aI ho; have sz:vs.toArray.size=vs.length:=by simp
 obtain ⟨n0,g1⟩:∃n0,(s.heap.update a (Obj.mapSeq fun _=> #[])).get? a=some (seqObj "list" #[] n0):=⟨_,get?_update_seq ho (fun _=> #[])⟩
 have n1:a≠((s.heap.update a (Obj.mapSeq fun _=> #[])).push (seqObj "tuple" vs.toArray 0)).objs.size:=by rw [size_push',oZ]; exact bH (Nat.lt_succ_of_lt lt)
 have n2:a≠(s.heap.update a (Obj.mapSeq fun _=> #[])).objs.size:=by rw [oZ]; exact bH lt
 have g6:(iX s.heap a vs).get? a=some (seqObj "list" #[] n0):=by unfold iX; rw [Heap.get?_push_ne _ _ _ n1,Heap.get?_push_ne _ _ _ n2,g1]
 rw [list_sort_plain]; refine wpAny_bind (listItems_at ho rfl (wpAny_bind (listUpdate_at ho rfl (wpAny_bind (seqEpoch_at g1 rfl (wpAny_bind (wpAny_newTuple (wpAny_bind (wpAny_newList (wpAny_holding ?_) (bO _))) (by show vs.length≤_; rw [sizeLine_eq]; omega))))) (by rw [sz,sizeLine_eq]; omega) (bO _)))); show wpAny (model prog w) A _ R E ⟨iX s.heap a vs,s.gens,s.drawn,s.toks,s.os⟩; dsimp only
 by_cases h2:vs.toArray.size<2
 ·rw [if_pos h2,if_pos h2]; refine wpAny_bind (wpAny_pure ?_); rw [StateT.run_pure]; refine wpAny_bind (wpAny_pure (wpAny_bind (seqEpoch_at g6 rfl (wpAny_bind (listUpdate_at g6 rfl ?_ (bO _) ?_)))))
  ·simp only [bne_self_eq_false,if_false,aK]; refine wpAny_pure ?_
   have e:Array.map (fun (x:Keyed)=>x.2) (arrOf (SortSt.mk' general' (vs.toArray.zip vs.toArray) #[] 7 none))=vs.toArray:=by apply uI.mp; rw [uJ]; show (vs.toArray.zip vs.toArray).toList.map _=vs; rw [rZ,bX]; exact List.map_id _
   rw [e]; refine h vs.toArray (.refl _) ?_; rw [sz] at h2
   match vs,h2 with
   | [],_=>exact .nil
   | [v],_=>exact oY _ _
  ·show (Array.map _ (vs.toArray.zip vs.toArray)).size≤_; rw [Array.size_map,Array.size_zip,sz,sizeLine_eq]; omega
 ·rw [if_neg h2,if_neg h2]; rw [sz] at h2; refine wpAny_bind (hkind (by omega) _ ?_); have K:lY prog w A E ⟨iX s.heap a vs,s.gens,s.drawn,s.toks,s.os⟩ κ (fun p=>rk p.1) (vs.toArray.zip vs.toArray):=asks_of nd hask; refine wpAny_bind (wpAny_mono (wpS_sortR (Q:=fun _ st'=>SB κ (vs.toArray.zip vs.toArray) st'∧AscR (fun p=>rk p.1) (arrOf st') 0 (vs.toArray.zip vs.toArray).size) K (st:=SortSt.mk' κ (vs.toArray.zip vs.toArray) #[] 7 none) ⟨Array.Perm.refl _,rfl,rfl⟩ rfl fun st' b c=>⟨b,c⟩) ?_ fun _ _ z=>z); rintro ⟨⟨⟩,st'⟩ s' ⟨rfl,hB,hA⟩; dsimp only
  have pm:(arrOf st').toList.Perm (vs.map fun v=>(v,v)):=by
   have:=gO.mp hB.perm
   rwa [rZ] at this
  have p2:((arrOf st').map (·.2)).toList.Perm vs:=by rw [uJ]; have:=pm.map (·.2); rw [bX] at this; exact this.trans (List.Perm.of_eq (List.map_id _))
  have sO:((arrOf st').map (·.2)).size=vs.length:=by
   have:=p2.length_eq
   rwa [eC] at this
  refine wpAny_bind (seqEpoch_at g6 rfl (wpAny_bind (listUpdate_at g6 rfl ?_ (bO _) ?_)))
  ·rw [hB.failed]; simp only [bne_self_eq_false,if_false,aK]; refine wpAny_pure (h _ p2 ?_); rw [uJ,bX,jM]; intro i j hi hj hij; rw [aD,eC] at hi hj; have q:=hA i j (bO _) hij (by rw [← hB.size]; exact hj); rw [eM hi,eM hj] at q
   have d:∀p∈(arrOf st').toList,p.1=p.2:=fun p hp=>by obtain ⟨v,_,rfl⟩:=bB.mp (pm.mem_iff.mp hp); rfl
   rw [List.getElem_map,List.getElem_map]; have d1:=d (arrOf st')[i] (by simp); have d2:=d (arrOf st')[j] (by simp); rw [d1,d2] at q; simpa using q
  ·rw [sO,sizeLine_eq]; omega
end
theorem TupAt1.inj {h:Heap} {v:Value} {x y:List Int} (a:TupAt1 h v x) (b:TupAt1 h v y):x=y:=by
 obtain ⟨a1,o,n,its,rfl,g,c,d,i1,_⟩:=a; obtain ⟨a2,o2,n2,its2,e,g2,c2,d2,i2,_⟩:=b; cases e; rw [g] at g2; cases g2; rw [d] at d2
 have e2:its=its2:=by
  injection d2 with q
  simpa using q
 subst e2
 have f:∀ {vs:List Value} {x y:List Int},IntsAre vs x→IntsAre vs y→x=y:=fun {vs}=>by
  induction vs with
  | nil=>intro x y p q; cases p; cases q; rfl
  | cons v vs ih=>
   intro x y p q; cases p with
   | cons n t p=>cases q with
    | cons m u q=>rw [ih p q]
 exact f i1 i2
noncomputable def rkV (h:Heap) (rk:List Int→Nat) (v:Value):Nat:=open Classical in if q:∃x,TupAt1 h v x then rk (Classical.choose q) else 0
theorem rkV_at {h:Heap} {rk:List Int→Nat} {v:Value} {x:List Int} (a:TupAt1 h v x):rkV h rk v=rk x:=by unfold rkV; have q:∃x,TupAt1 h v x:=⟨x,a⟩; rw [dif_pos q,(Classical.choose_spec q).inj a]
def eO (k:List Key):List Int:=k.map fun z=>match z with | .inl i=>i | .inr _=>0
theorem TupAt1.keep {h h':Heap} {v:Value} {x:List Int} (p:TupAt1 h v x) (k:∀b o,o.cls= .type "tuple"→h.get? b=some o→h'.get? b=some o):TupAt1 h' v x:=by obtain ⟨a,o,n,its,e,g,c,d⟩:=p; exact ⟨a,o,n,its,e,k _ _ c g,c,d⟩
theorem keep6 {h:Heap} {a:Addr} {vs us:List Value} {n:Nat} (ho:h.get? a=some (seqObj "list" us.toArray n)):∀b o,o.cls= .type "tuple"→h.get? b=some o→(iX h a vs).get? b=some o:=fun b o c g=>by
 have nb:a≠b:=fun z=>by subst z; rw [ho] at g; cases g; exact absurd (show Value.type "list"=Value.type "tuple" from c) (by decide)
 unfold iX; refine aA _ (aA _ ?_); rw [cY _ _ nb]; exact g
theorem tups_of {h:Heap} {T:List eR} (R:∀r∈T,TupAt1 h (.ref r.2.2) (eO r.2.1)):TupsAt h (T.map fun r=>Value.ref r.2.2) (T.map fun r=>eO r.2.1):=by
 induction T with
 | nil=>exact .nil
 | cons r T ih=>exact .cons (R r aO) (ih fun q hq=>R q (aM _ hq))
section
variable {prog:Program} {w:World} {A:Around} {E:Value→Shared→Prop} {s:Shared}
theorem pO {a:Addr} {T:List eR} {n:Nat} {rk:List Int→Nat} {R:PySem.Fin→Shared→Prop} (ho:s.heap.get? a=some (seqObj "list" (T.map fun r=>Value.ref r.2.2).toArray n)) (RI:∀r∈T,TupAt1 s.heap (.ref r.2.2) (eO r.2.1)) (hn:T.length≤10000)
  (nd:(T.map fun r=>rk (eO r.2.1)).Nodup) (hlt:∀x∈T,∀y∈T,ltI (eO x.2.1) (eO y.2.1)=decide (rk (eO x.2.1)<rk (eO y.2.1)))
  (h:∀T':List eR,T'.Perm T→(T'.map fun r=>rk (eO r.2.1)).Pairwise (·<·)→R (.done (.ret .none)) {s with heap:=sortedHeap s.heap a (T.map fun r=>Value.ref r.2.2) (T'.map fun r=>Value.ref r.2.2).toArray}):wpAny (model prog w) A (Builtin.«list.sort» ⟨[.ref a],[]⟩) R E s:=by
 obtain ⟨vs,hvs⟩:∃vs,T.map (fun r=>Value.ref r.2.2)=vs:=⟨_,rfl⟩; rw [hvs] at ho h; have R6:∀r∈T,TupAt1 (iX s.heap a vs) (.ref r.2.2) (eO r.2.1):=fun r hr=>(RI r hr).keep (keep6 ho)
 have T6:TupsAt (iX s.heap a vs) vs (T.map fun r=>eO r.2.1):=by have:=tups_of R6; rw [hvs] at this; exact this
 have er:∀T':List eR,(∀r∈T',r∈T)→(T'.map fun r=>Value.ref r.2.2).map (rkV (iX s.heap a vs) rk)=T'.map fun r=>rk (eO r.2.1):=fun T' hT=>by rw [bX]; exact fQ fun r hr=>rkV_at (R6 r (hT r hr))
 have mv:∀x∈vs,∃r∈T,x=Value.ref r.2.2:=fun x hx=>by rw [← hvs] at hx; obtain ⟨r,hr,e⟩:=bB.mp hx; exact ⟨r,hr,e.symm⟩
 have lv:vs.length=T.length:=by rw [← hvs,aD]
 have nv:(vs.map (rkV (iX s.heap a vs) rk)).Nodup:=by
  have:=er T fun _ z=>z
  rw [hvs] at this; rw [this]; exact nd
 have hk0:2≤vs.length→∀Q:SortKind→Shared→Prop,Q (tuples' true) ⟨iX s.heap a vs,s.gens,s.drawn,s.toks,s.os⟩→wpAny (model prog w) A (keyKind' vs.toArray) Q E ⟨iX s.heap a vs,s.gens,s.drawn,s.toks,s.os⟩:=fun h2 Q q=>kindI (s:=⟨iX s.heap a vs,s.gens,s.drawn,s.toks,s.os⟩) T6 (by rw [aD]; omega) q
 have ha0:∀x∈vs,∀y∈vs,∀ (Q:Bool→Shared→Prop) (E':Value→Shared→Prop),Q (decide (rkV (iX s.heap a vs) rk x<rkV (iX s.heap a vs) rk y)) ⟨iX s.heap a vs,s.gens,s.drawn,s.toks,s.os⟩→wpAny (model prog w) A (keyLt' (tuples' true) x y) Q E' ⟨iX s.heap a vs,s.gens,s.drawn,s.toks,s.os⟩:=fun x hx y hy Q E' q=>by obtain ⟨u,hu,rfl⟩:=mv x hx; obtain ⟨v,hv,rfl⟩:=mv y hy; refine askI (s:=⟨iX s.heap a vs,s.gens,s.drawn,s.toks,s.os⟩) (R6 u hu) (R6 v hv) ?_; rw [hlt u hu v hv]; rw [rkV_at (R6 u hu),rkV_at (R6 v hv)] at q; exact q
 refine yQ (κ:=tuples' true) (rk:=rkV (iX s.heap a vs) rk) ho nv (by omega) hk0 ha0 fun out p1 p2=> ?_
 rw [← hvs] at p1; obtain ⟨T',q1,q2⟩:=oP (f:=fun r:eR=>Value.ref r.2.2) (l:=T) (l':=out.toList) p1
 have e:out=(T'.map fun r=>Value.ref r.2.2).toArray:=by apply uI.mp; rw [q2]
 rw [q2,er T' fun r hr=>q1.mem_iff.mp hr] at p2; rw [e]; exact h T' q1 p2
theorem sorted_set {S:Addr} {o:Obj} {T:List eR} {rk:List Int→Nat} {Q:Value→Shared→Prop} (hh:A.handled=none) (ho:s.heap.get? S=some o) (sm:SetT prog w true o T) (l72:T.length≤72) (RI:∀r∈T,TupAt1 s.heap (.ref r.2.2) (eO r.2.1))
  (nd:(T.map fun r=>rk (eO r.2.1)).Nodup) (hlt:∀x∈T,∀y∈T,ltI (eO x.2.1) (eO y.2.1)=decide (rk (eO x.2.1)<rk (eO y.2.1)))
  (h:∀ (h':Heap) (tk:Nat) (D:Addr) (T':List eR) (n:Nat),(∀b x,s.heap.get? b=some x→h'.get? b=some x)→S<D→h'.get? D=some {cls:= .type "list",data:= .seq (T'.map fun r=>Value.ref r.2.2).toArray n}→T'.Perm T→(T'.map fun r=>rk (eO r.2.1)).Pairwise (·<·)→Q (.ref D) {s with heap:=h',toks:=tk}):
  wpAny (model prog w) A (call (.builtin "sorted") [.ref S]) Q E s:=by
 obtain ⟨es,ep,t,rfl,X,z,hled,hpl⟩:=sm; obtain ⟨el,hel⟩:∃el,T.map (gT (tK prog w).hash)=el:=⟨_,rfl⟩; have ee:es=el.toArray:=by rw [← hel]; exact X.en
 have fit:=X.fit (z.fit X.om l72); have lel:el.length=T.length:=by rw [← hel,aD]
 obtain ⟨ks,hks⟩:∃ks,T.map (·.1)=ks:=⟨_,rfl⟩; have lks:ks.length=T.length:=by rw [← hks,aD]
 have hk:TOk w el t ks:=⟨by rw [← ee]; exact fit,hpl rfl,hled,by rw [← hks]; exact X.pl,by rw [← hks]; exact X.rs,by rw [lel,lks]⟩; have ho':s.heap.get? S=some (soT el ep t):=by rw [ho,ee]; rfl
 have pm:=yX (w:=w) (S:=S) (ep:=ep) el; have pm':=pm; rw [← hel] at pm'; obtain ⟨T1,q1,q2⟩:=oP (f:=gT (tK prog w).hash) (l:=T) pm'; rw [hel] at q2; have l1:T1.length=T.length:=q1.length_eq; have src:=srcW (prog:=prog) (ep:=ep) (S:=S) hk; clear ee ho; refine Calls.call_function_entry kind_sorted plain_sorted entry_sorted (args_sorted1 _) ?_; unfold Builtin.«sorted»; refine wpAny_bind (m:=checkCount "sorted" 1 1 _) (wpAny_pure (wpAny_bind (PySem.W.kdu_collect src (by simpa using hh) ho' (by rw [lks,sizeLine_eq]; omega) fun h1 tk acc kp it=> ?_)))
 have al:acc.toList=T1.map fun r=>Value.ref r.2.2:=by
  have e0:T1.map (fun r=>Value.ref r.2.2)=(pB w S ep el).map (·.2):=by rw [q2,bX]; rfl
  rw [e0]; apply uA; intro j
  by_cases hj:j<acc.toList.length
  ·have e3:acc.toList[j]? =some acc.toList[j]:=by simp [hj]
   obtain ⟨c,q⟩:=it.2 j acc.toList[j] (by rw [← fB]; exact e3); rw [e3,cI,q]; rfl
  ·have a1:acc.toList.length=ks.length:=by rw [eC]; exact it.1
   rw [dN (by omega),dN (by rw [aD,q2,aD]; omega)]
 have R1:∀r∈T1,TupAt1 (h1.push {cls:= .type "list",data:= .seq acc.toList.toArray}) (.ref r.2.2) (eO r.2.1):=fun r hr=>(RI r (q1.mem_iff.mp hr)).keep fun b x _ g=>aA _ (kp b x g)
 refine wpAny_bind (wpAny_newList ?_ (by rw [al,aD,sizeLine_eq]; omega)); have hoL:(h1.push {cls:= .type "list",data:= .seq acc.toList.toArray}).get? h1.objs.size=some (seqObj "list" acc.toList.toArray 0):=aV _ rfl; rw [al] at hoL R1 ⊢; refine wpAny_bind (wpAny_holding (wpAny_call_entry PyProof.Rows.slot_list_sort ⟨_,hoL,rfl⟩ PyProof.Rows.entry_list_sort (pO (rk:=rk) (s:=⟨h1.push {cls:= .type "list",data:= .seq (T1.map fun r=>Value.ref r.2.2).toArray},s.gens,s.drawn,tk,s.os⟩) hoL R1 (by omega) ((q1.map _).nodup_iff.mpr nd) (fun x hx y hy=>hlt x (q1.mem_iff.mp hx) y (q1.mem_iff.mp hy)) fun T' p1 p2=>⟨_,rfl,wpAny_pure ⟨_,rfl, ?_⟩⟩) (args_list_sort _))); obtain ⟨v1,hv1⟩:∃v1,T1.map (fun r=>Value.ref r.2.2)=v1:=⟨_,rfl⟩; obtain ⟨v2,hv2⟩:∃v2,T'.map (fun r=>Value.ref r.2.2)=v2:=⟨_,rfl⟩; have fin:=fun h' n2 a b c=>h h' tk h1.objs.size T' n2 a b c (p1.trans q1) p2
 rw [hv1] at hoL ⊢; rw [hv2] at fin ⊢
 have keep:∀ (b:Addr) (x:Obj),b≠h1.objs.size→h1.get? b=some x→(sortedHeap (h1.push {cls:= .type "list",data:= .seq v1.toArray}) h1.objs.size v1 v2.toArray).get? b=some x:=fun b x hb g=>by unfold sortedHeap; rw [cY _ _ (Ne.symm hb)]; refine aA _ (aA _ ?_); rw [cY _ _ (Ne.symm hb)]; exact aA _ g
 obtain ⟨n1,g1⟩:∃n1,((h1.push {cls:= .type "list",data:= .seq v1.toArray}).update h1.objs.size (Obj.mapSeq fun _=> #[])).get? h1.objs.size=some (seqObj "list" #[] n1):=⟨_,get?_update_seq hoL (fun _=> #[])⟩; obtain ⟨n2,g2⟩:∃n2,(sortedHeap (h1.push {cls:= .type "list",data:= .seq v1.toArray}) h1.objs.size v1 v2.toArray).get? h1.objs.size=some (seqObj "list" v2.toArray n2):=⟨_,get?_update_seq (aA _ (aA _ g1)) (fun _=>v2.toArray)⟩; have le:S<h1.objs.size:=aI (kp _ _ ho'); exact fin _ n2 (fun b x g=>keep b x (fun z=>absurd (aI (kp b x g)) (by rw [z]; exact eP _)) (kp b x g)) le g2
end
section
variable {X:Cx} {sd:List Slot} {a b e:Expr} {pos:Pos}
theorem iG (x:List Int):eO (kY x)=x:=by unfold eO kY; rw [bX]; exact List.map_id x
theorem kV_kY (x:List Int):(kY x).map kV=x.map V.int:=by unfold kY; rw [bX]; rfl
theorem kY_tK (ps:List (List Int)):(ps.map kY).map tupK=ps.map bG:=by rw [bX]; exact fQ fun x _=>kY_D x
theorem rep_int (K:aB) (F:Hp):∀x:List Int,RepL K F (x.map D.int) (x.map V.int)
 | []=> .nil
 | n::x=> .cons (by simp only [Rep]) (rep_int K F x)
end
section
variable {X:Cx} {pins:List (Addr × Obj)} {σ:St} {H:Hp} {s:Shared} {sts:List Stmt}
abbrev reB (X:Cx) (B:Hp) (h:∀b o,X.H₀ b=some o→Hard o→B b=some o):Cx:={X with B₀:=B,hB:=h}
end
def spP (K:aB) (n:Nat) (C:List D→List D→R→Prop):Sp:=fun vs H Q _=>vs.length=n∧∃ (l:Addr) (us:List V) (F:Hp) (xs:List V) (ds0 ds:List D) (r:R),vs= .ref l::us∧F l=none∧H=upd F l (.lst xs)∧Smp F∧RepL K F ds0 xs∧RepL K F ds us∧C ds0 ds r∧∀v H',RetOk K F H' r v→Q v H'
structure CalleeP (P:Program) (w:World) (K:aB) (mg:Str→Option Value) (base:Heap) (x:Str) (k n:Nat) (C:List D→List D→R→Prop):Prop where
 ex:∃ (f:Addr) (fd:FuncData) (ps:List Str),mg x=some (.ref f)∧bL K (.ref f)=true∧Binds K fd ps []∧FnOk P w K mg base CX0 k f fd ps (spP K n C)
theorem sz14_lt:∀p∈dZ,∀f∈bC p,∀g∈bC p,ltI f g=decide (mH p f<mH p g):=by decide+kernel
theorem rF {p:Int × Int} (hp:p∈dZ):(bC p).Pairwise fun a b=>mH p a<mH p b:=by
 rw [jM]; intro i j hi hj hij; have a:=tU hp hi; have b:=tU hp hj; have ea:(bC p).getD i []=(bC p)[i]:=by simp [dD,hi]
 have eb:(bC p).getD j []=(bC p)[j]:=by simp [dD,hj]
 rw [ea] at a; rw [eb] at b; omega
theorem rV {p:Int × Int} (hp:p∈dZ):(bC p).Nodup:=(rF hp).imp fun {a b} h e=>by rw [e] at h; omega
theorem vQ {p:Int × Int} (hp:p∈dZ) {f g:List Int} (hf:f∈bC p) (hg:g∈bC p) (h:mH p f=mH p g):f=g:=by have a:=(num_ok hp (mB hp hf)).2.2; have b:=(num_ok hp (mB hp hg)).2.2; rw [← a,← b,h]
theorem nd_at {A:List (List Int)} (nd:A.Nodup) {i j:Nat} (hi:i<A.length) (hj:j<A.length) (e:A.getD i []=A.getD j []):i=j:=by
 have ea:A.getD i []=A[i]:=by simp [dD,hi]
 have eb:A.getD j []=A[j]:=by simp [dD,hj]
 rw [ea,eb] at e; exact (vC nd).mp e
structure ChN (A c:List (List Int)):Prop where
 ne:c≠[]
 nd:c.Nodup
 sub:∀f∈c,f∈A
theorem ChN.le {A c:List (List Int)} (h:ChN A c):c.length≤A.length:=h.nd.length_le_of_subset h.sub
structure WN (A:List (List Int)) (W:List (Option (List (List Int)))):Prop where
 len:W.length=A.length
 ok:∀o∈W,∀c,o=some c→ChN A c
theorem WN.wish {p:Int × Int} (hp:p∈dZ) {W:List (Option (List (List Int)))} (h:WN (bC p) W):WishOk p W:=by refine ⟨h.len,fun o ho L hL=> ?_⟩; have k:=h.ok o ho L hL; have f9:(bC p).length≤64:=kO hp; have:=k.le; exact ⟨iD.mpr k.ne,by omega,fun ws hw=>mB hp (k.sub ws hw)⟩
theorem wJ (n:Int) {A:List (List Int)} (nd:A.Nodup):∀t,t≤A.length→(nG n A t).Nodup∧∀ws∈nG n A t,∃i,i<t∧ws=A.getD i []
 | 0,_=>⟨eK,fun ws h=>by cases h⟩
 | t+1,h=>by
  obtain ⟨a,b⟩:=wJ n nd t (by omega); unfold nG
  split
  ·refine ⟨dF.mpr ⟨a,by simp,fun x hx y hy e=> ?_⟩,fun ws hw=> ?_⟩
   ·have hy:y=A.getD t []:=by simpa using hy
    obtain ⟨i,hi,q⟩:=b x hx; rw [e,hy] at q; have:=nd_at nd (show t<A.length by omega) (show i<A.length by omega) q; omega
   ·rcases aY.mp hw with hw | hw
    ·obtain ⟨i,hi,q⟩:=b ws hw; exact ⟨i,by omega,q⟩
    ·exact ⟨t,by omega,by simpa using hw⟩
  ·rw [dR]; exact ⟨a,fun ws hw=>let ⟨i,hi,q⟩:=b ws hw; ⟨i,by omega,q⟩⟩
theorem f0_nd {x:Int} {A:List (List Int)} (hA:0<A.length) (nd:A.Nodup):(f0Q x A).Nodup:=by
 unfold f0Q List.Nodup; rw [dL]; refine List.Pairwise.imp_of_mem (fun {a b} ha hb h e=>h ?_) (lG (n:=f0N x A)); have pa:=zY hA (bS.mp ha); have pb:=zY hA (bS.mp hb); have:=nd_at nd (by omega) (by omega) e; have s1:=(qH x).1; generalize mI x=s at *; have e2:(a:Int) * s=(b:Int) * s:=by omega
 have e3:=Int.eq_of_mul_eq_mul_right (by omega) e2; omega
theorem f2_nd {x y z:Int} {A:List (List Int)} (hA:0<A.length) (nd:A.Nodup):(f2Q x y z A).Nodup:=by
 unfold f2Q
 split
 ·simp
 ·unfold f1Q
  split
  ·exact (wJ _ nd _ (aN _)).1
  ·exact f0_nd hA nd
theorem wish_wn {p:Int × Int} (hp:p∈dZ) (c:Int):WN (bC p) (tX c (bC p)):=by
 refine ⟨by unfold tX; rw [aD,cN],fun o ho L hL=> ?_⟩; obtain ⟨t,_,rfl⟩:=bB.mp ho; unfold elQ at hL
 split at hL
 ·cases hL
 ·cases hL; obtain ⟨a,b,d⟩:=f2_ok (x:=(cO c (3 * (bC p).length)).getD (3 * t) 0) (y:=(cO c (3 * (bC p).length)).getD (3 * t+1) 0) (z:=(cO c (3 * (bC p).length)).getD (3 * t+2) 0) (qJ (p:=p)); exact ⟨iD.mp a,f2_nd (qJ (p:=p)) (rV hp),d⟩
theorem xC:entryFor table "set.__and__"=some Builtin.«frozenset.__and__»:=
 entryFor_alias (id':="frozenset.__and__") (by kernel_rfl) rfl (by decide+kernel) (by kernel_rfl)
section
variable {prog:Program} {w:World} {A:Around} {E:Value→Shared→Prop} {s:Shared}
theorem inter1 {a b r:Addr} {oa ob:Obj} {Ta Tb:List eR} {mb:Nat} {id:String} {was:Nat} {h0:Heap} (hu:A.units<cLine) (hn:∀s':Shared,s'.heap.get? a=some oa→∀ {Q':Unit→Shared→Prop} {A':Around} {E':Value→Shared→Prop} (id:String),Q' () s'→wpAny (model prog w) A' (Builtin.Frozenset.unchanged id a was) Q' E' s')
  (Sb:SetU prog w ob Tb [] mb) (hmb:Tb.length≤mb) (RA:RowsIn prog w h0 Ta) (RB:RowsIn prog w h0 Tb) (hr0:h0.get? r=none) (ha0:h0.get? a=some oa) (hb0:h0.get? b=some ob) (h16:Ta.length≤72) {Q:PUnit→Shared→Prop}
  (hq:∀ (h':Heap) (tk:Nat) (o':Obj) (T':List eR),(∀x o,h0.get? x=some o→h'.get? x=some o)→h'.get? r=some o'→SetT prog w true o' T'→(∀p∈T'.map (·.2),p∈Ta.map (·.2))→(∀k,k∈T'.map (·.2.1)↔k∈Ta.map (·.2.1)∧k∈Tb.map (·.2.1))→Q ⟨⟩ {s with heap:=h',toks:=tk}):
  ∀ (rest done:List eR) (h1:Heap) (tk:Nat) (o1:Obj) (T1:List eR),(done++rest).Perm Ta→(∀x o,h0.get? x=some o→h1.get? x=some o)→h1.get? r=some o1→SetT prog w true o1 T1→(∀p∈T1.map (·.2),p∈Ta.map (·.2))→(∀k,k∈T1.map (·.2.1)↔k∈done.map (·.2.1)∧k∈Tb.map (·.2.1))→T1.length≤done.length→
   wpAny (model prog w) A (forIn (rest.map (gT (tK prog w).hash)) PUnit.unit fun (p:Int × Value) (_:PUnit)=>do
    holding [p.2] do
     let there ← setFind b p.2 p.1
     if there.isSome then
      let _ ← setAddHashed r p.2 p.1
    Builtin.Frozenset.unchanged id a was
    pure (ForInStep.yield PUnit.unit)) Q E {s with heap:=h1,toks:=tk}
 | [],done,h1,tk,o1,T1,pm,kp,g,S1,R1,k1,l1=>by rw [gE,nI]; refine wpAny_pure (hq h1 tk o1 T1 kp g S1 R1 fun k=> ?_); rw [k1,(pm.map (·.2.1)).mem_iff.symm]; simp
 | q::rest,done,h1,tk,o1,T1,pm,kp,g,S1,R1,k1,l1=>by
  have hqa:q∈Ta:=pm.mem_iff.mp (by simp); obtain ⟨ik,ii⟩:=RA.row hqa
  have lq:done.length+rest.length+1=Ta.length:=by have:=pm.length_eq; simp at this; omega
  have ik1:(tK prog w).is h1 q.2.1 q.2.2:=nU ik fun o g=>kp _ _ g
  have hb1:h1.get? b=some ob:=kp b ob hb0; have pm':((done++[q])++rest).Perm Ta:=by simpa using pm
  have RT1:RowsIn prog w h0 T1:=fun p hp=>RA p (R1 p hp)
  rw [bD,jS]; refine wpAny_bind (wpAny_bind (wpAny_holding ?_)); obtain ⟨es,ep,t,eo,X,rfl,x1,x2⟩:=Sb; have hd:ob.data= .set es ep t:=by rw [eo]
  refine wpAny_bind (findU (s:={s with heap:=h1,toks:=tk}) hu hb1 hd X (by simpa using hmb) ik1 (fun r' hr'=>nU (RB.row hr').1 fun o g=>kp _ _ g) (fun B r' C eT er=> ?_) fun nk=> ?_)
  ·simp only [Option.isSome_some,if_true]
   have hin:q.2.1∈Tb.map (·.2.1):=by rw [eT,← er]; simp
   refine wpAny_bind (addHT (s:={s with heap:=h1,toks:=tk}) (ip:=true) (fun _=>ii) hu (by omega) g S1 (fun r' hr'=>nU (RT1.row hr').1 fun o g=>kp _ _ g) ik1 fun bb h2 o2 tk2 T2 sb g2 S2 rr2 kk2=> ?_)
   have kp2:∀x o,h0.get? x=some o→h2.get? x=some o:=fun x o gx=>by rw [sb.2 x fun z=>by rw [z,hr0] at gx; cases gx]; exact kp x o gx
   refine wpAny_pure (wpAny_bind (hn _ (kp2 a oa ha0) id (wpAny_pure ?_)))
   have R2:∀p∈T2.map (·.2),p∈Ta.map (·.2):=fun p hp=>by
    rcases rr2 p hp with rfl | z
    ·exact bM (f:=(·.2)) hqa
    ·exact R1 p z
   refine inter1 hu hn ⟨es,ep,t,eo,X,rfl,x1,x2⟩ hmb RA RB hr0 ha0 hb0 h16 hq rest (done++[q]) h2 tk2 o2 T2 pm' kp2 g2 S2 R2 (fun k=> ?_) ?_
   ·rw [kk2,k1]; simp only [aR,aY,bD,gE,bU]
    constructor
    ·rintro (z | ⟨z1,z2⟩)
     ·exact ⟨.inr z,z▸hin⟩
     ·exact ⟨.inl z1,z2⟩
    ·rintro ⟨z1 | z1,z2⟩
     ·exact .inr ⟨z1,z2⟩
     ·exact .inl z1
   ·have nd:=S2.nd
    have:T2.length≤(q.2.1::T1.map (·.2.1)).length:=by
     have:=nd.length_le_of_subset (l₂:=q.2.1::T1.map (·.2.1)) fun k hk=>by
      rcases (kk2 k).mp hk with z | z
      ·rw [z]; exact aO
      ·exact aM _ z
     rwa [aD] at this
    simp at this ⊢; omega
  ·simp only [Option.isSome_none,aK,if_false]; refine wpAny_pure (wpAny_bind (hn _ (kp a oa ha0) id (wpAny_pure ?_))); refine inter1 hu hn ⟨es,ep,t,eo,X,rfl,x1,x2⟩ hmb RA RB hr0 ha0 hb0 h16 hq rest (done++[q]) h1 tk o1 T1 pm' kp g S1 R1 (fun k=> ?_) (by simp; omega); rw [k1]
   constructor
   ·rintro ⟨z1,z2⟩; exact ⟨by simp only [aR,aY]; exact .inl z1,z2⟩
   ·rintro ⟨z1,z2⟩; simp only [aR,aY,bD,gE,bU] at z1
    rcases z1 with z1 | z1
    ·exact ⟨z1,z2⟩
    ·exact absurd (z1▸z2) nk
def InterQ (prog:Program) (w:World) (s:Shared) (Ta Tb:List eR) (Q:Value→Shared→Prop):Prop:=
 ∀ (h':Heap) (tk:Nat) (r:Addr) (o':Obj) (T':List eR),(∀x o,s.heap.get? x=some o→h'.get? x=some o)→s.heap.objs.size≤r→h'.get? r=some o'→SetT prog w true o' T'→(∀p∈T'.map (·.2),p∈Ta.map (·.2)∨p∈Tb.map (·.2))→(∀k,k∈T'.map (·.2.1)↔k∈Ta.map (·.2.1)∧k∈Tb.map (·.2.1))→Q (.ref r) {s with heap:=h',toks:=tk}
theorem interT {a b:Addr} {oa ob:Obj} {Ta Tb:List eR} {id:String} {Q:Value→Shared→Prop} (hu:A.units<cLine) (hab:a≠b) (hoa:s.heap.get? a=some oa) (hob:s.heap.get? b=some ob) (SA:SetT prog w true oa Ta) (SB:SetT prog w true ob Tb) (RA:RowsIn prog w s.heap Ta) (RB:RowsIn prog w s.heap Tb) (la:Ta.length≤72) (lb:Tb.length≤72)
  (h:InterQ prog w s Ta Tb Q):wpAny (model prog w) A (Builtin.Frozenset.intersection id a (.ref b)) Q E s:=by
 obtain ⟨ma,UA,oma,a7⟩:=SA.U; obtain ⟨mb,UB,omb,b7⟩:=SB.U; have hma:Ta.length≤ma:=a7.fit oma la; have hmb:Tb.length≤mb:=b7.fit omb lb; unfold Builtin.Frozenset.intersection
 rw [if_neg (show ¬ (Value.ref b==Value.ref a)=true by
   intro z; have:Value.ref b=Value.ref a:=eq_of_beq z; cases this
   exact hab rfl)]
 refine wpAny_bind (baseSet hoa UA.cls (wpAny_bind (newSetT ?_))); refine wpAny_bind (wpAny_pure ?_); have hr0:s.heap.get? s.heap.objs.size=none:=Heap.get?_none_of_le (aN _); have kp1:∀x o,s.heap.get? x=some o→(s.heap.push (nW w)).get? x=some o:=fun x o g=>aA _ g
 refine wpAny_bind (wpAny_holding ?_); refine wpAny_bind (anySet (s:={s with heap:=s.heap.push (nW w)}) (kp1 b ob hob) UB.cls ?_); simp only [if_true]; refine wpAny_bind (wpAny_pure ?_); refine wpAny_bind (sizeU (s:={s with heap:=s.heap.push (nW w)}) (kp1 b ob hob) UB (by simpa using hmb) ?_); refine wpAny_bind (sizeU (s:={s with heap:=s.heap.push (nW w)}) (kp1 a oa hoa) UA (by simpa using hma) ?_)
 by_cases hv:Tb.length>Ta.length
 ·rw [if_pos hv]; dsimp only; refine wpAny_bind (epochU (s:={s with heap:=s.heap.push (nW w)}) (kp1 a oa hoa) UA (by simpa using hma) fun was hn=> ?_); refine wpAny_bind (walkU (s:={s with heap:=s.heap.push (nW w)}) (kp1 a oa hoa) UA (by simpa using hma) fun Tw pw=> ?_); rw [← nA]; refine wpAny_bind (inter1 (s:=s) (h0:=s.heap) hu hn UB hmb RA RB hr0 hoa hob la (fun h2 tk2 o2 T2 kp2 g2 S2 r2 k2=> ?_) Tw [] _ s.toks (nW w) [] (by simpa using pw) kp1 (aV _ rfl) setT0 (fun p hp=>by cases hp) (fun k=>by simp) (aN _)); refine wpAny_pure (wpAny_pure ?_); exact h h2 tk2 s.heap.objs.size o2 T2 kp2 (aN _) g2 S2 (fun p hp=> .inl (r2 p hp)) k2
 ·rw [if_neg hv]; dsimp only; refine wpAny_bind (epochU (s:={s with heap:=s.heap.push (nW w)}) (kp1 b ob hob) UB (by simpa using hmb) fun was hn=> ?_); refine wpAny_bind (walkU (s:={s with heap:=s.heap.push (nW w)}) (kp1 b ob hob) UB (by simpa using hmb) fun Tw pw=> ?_); rw [← nA]; refine wpAny_bind (inter1 (s:=s) (h0:=s.heap) hu hn UA hma RB RA hr0 hob hoa lb (fun h2 tk2 o2 T2 kp2 g2 S2 r2 k2=> ?_) Tw [] _ s.toks (nW w) [] (by simpa using pw) kp1 (aV _ rfl) setT0 (fun p hp=>by cases hp) (fun k=>by simp) (aN _)); refine wpAny_pure (wpAny_pure ?_); exact h h2 tk2 s.heap.objs.size o2 T2 kp2 (aN _) g2 S2 (fun p hp=> .inr (r2 p hp)) fun k=>(k2 k).trans And.comm
theorem opAnd {a b:Addr} {oa ob:Obj} {Ta Tb:List eR} {Q:Value→Shared→Prop} (hu:A.units+4<cLine) (hab:a≠b) (hoa:s.heap.get? a=some oa) (hob:s.heap.get? b=some ob) (SA:SetT prog w true oa Ta) (SB:SetT prog w true ob Tb) (RA:RowsIn prog w s.heap Ta) (RB:RowsIn prog w s.heap Tb) (la:Ta.length≤72) (lb:Tb.length≤72)
  (h:InterQ prog w s Ta Tb Q):wpAny (model prog w) A (binaryOp .BitAnd (.ref a) (.ref b)) Q E s:=by
 have ca:oa.cls= .type "set":=by obtain ⟨_,_,_,e,_⟩:=SA; rw [e]
 have cb:ob.cls= .type "set":=by obtain ⟨_,_,_,e,_⟩:=SB; rw [e]
 have hTa:s.TypeIs (.ref a) "set":=⟨oa,hoa,ca⟩; have hTb:s.TypeIs (.ref b) "set":=⟨ob,hob,cb⟩; refine wpAny_binaryOp_same (op:= .BitAnd) (T:="set") hTa hTb PySem.F.fills_set_and PySem.F.slot_set_and ?_; refine wpAny_call_entry PySem.F.slot_set_and hTa xC ?_ (PySem.F.args_set_and_2 _ _); show wpAny _ _ (Builtin.Frozenset.slot1 "__and__" ⟨[.ref a, .ref b],[]⟩>>=_) _ _ _; refine wpAny_bind ?_; unfold Builtin.Frozenset.slot1 slotArgs; simp only [List.isEmpty_nil,fM,aK,if_false,dS,mG,bne_self_eq_false]; refine wpAny_bind (wpAny_pure (wpAny_pure ?_)); dsimp only; unfold andM; refine wpAny_bind (wpAny_bind (anySet hoa ca ?_)); show wpAny _ _ (Builtin.Frozenset.isAnySet (.ref b)) _ _ _; refine anySet hob cb ?_; simp only [fM,aK,if_false]; refine wpAny_bind (wpAny_pure ?_); refine wpAny_bind (interT (by simp only [Around.in1]; omega) hab hoa hob SA SB RA RB la lb ?_); intro h' tk r o' T' kp le g e f l; exact wpAny_pure ⟨_,rfl,(fun q=>by cases q),h h' tk r o' T' kp le g e f l⟩
end
section
variable {X:Cx} {sd:List Slot} {a b e:Expr} {pos:Pos}
theorem xG {p p2 p3 p4 q2 q3:Pos} {xs ys qs:List (List Int)} {rk:List Int→Nat} (hu:X.A.units+12<cLine) (hg:Gl X "sorted") (hm:X.mg "sorted"=none) (hg2:Gl X "set") (hm2:X.mg "set"=none) (ha:PEd X sd a (.val (.lst (xs.map bG)))) (hb:PEd X sd b (.val (.lst (ys.map bG)))) (hne:∀x∈xs,x≠[]) (lx:xs.length≤72) (ly:ys.length≤72)
  (hlt:∀x∈xs,∀y∈xs,ltI x y=decide (rk x<rk y)) (inj:∀x∈xs,∀y∈xs,rk x=rk y→x=y) (hq:∀x,x∈qs↔x∈xs∧x∈ys) (hs:qs.Pairwise fun x y=>rk x<rk y)
  (hc:X.calm=true:=by rfl) (hsa:starEach [a] X.env=(false,eval a X.env)::starEach [] X.env:=by rfl) (hsb:starEach [b] X.env=(false,eval b X.env)::starEach [] X.env:=by rfl)
  (hst2:starEach [.BinOp (.Call (.Name "set" p2) [a] [] q2) .BitAnd (.Call (.Name "set" p3) [b] [] q3) p4] X.env=(false,eval (.BinOp (.Call (.Name "set" p2) [a] [] q2) .BitAnd (.Call (.Name "set" p3) [b] [] q3) p4) X.env)::starEach [] X.env:=by rfl):
  PEd X sd (.Call (.Name "sorted" p) [.BinOp (.Call (.Name "set" p2) [a] [] q2) .BitAnd (.Call (.Name "set" p3) [b] [] q3) p4] [] pos) (.own (qs.map bG)):= .mk fun σ F H S pins s I=>by
 have ip:∀zs:List (List Int),∀k∈zs.map kY,∀z∈k,∃i,z=Sum.inl i:=fun zs k hk z hz=>by obtain ⟨x,_,rfl⟩:=bB.mp hk; obtain ⟨i,_,rfl⟩:=bB.mp hz; exact ⟨i,rfl⟩
 refine wpAny_Call_Name_kw (mQ I hg hm boot_sorted ?_); refine PyProof.Rows.callWith_builtin1 ?_ hst2 rfl; rw [hst2]; refine Calls.spliced_cons (wpAny_BinOp ?_); have ha':PEd X sd a (.val (.lst ((xs.map kY).map tupK))):=by rw [kY_tK]; exact ha
 have hb':PEd X sd b (.val (.lst ((ys.map kY).map tupK))):=by rw [kY_tK]; exact hb
 refine set_run (by omega) hg2 hm2 (ip xs) (by rw [aD]; exact lx) hc hsa ha' S I fun s1 H1 F1 A1 o1 T1 I1 S1 sF1 g1 m1 fp1 k1 r1=> ?_
 obtain ⟨f0,f1,f2,f3,f4,f5⟩:=fp1
 have nc:∀v,o1.data≠ .cell v:=fun v z=>by obtain ⟨_,_,_,e,_⟩:=m1; rw [e] at z; cases z
 have IP:Inv X (pins++[(A1,o1)]) σ H1 s1:=I1.pins_of fun q hq=>by
  rcases aY.mp hq with z | z
  ·exact I1.pin q (aG _ z)
  ·have:q=(A1,o1):=by simpa using z
   subst this; exact ⟨g1,f0,f1,f2,nc⟩
 refine set_run (by omega) hg2 hm2 (ip ys) (by rw [aD]; exact ly) hc hsb hb' S1 IP fun s2 H2 F2 A2 o2 T2 I2 S2 sF2 g2 m2 fp2 k2 r2=> ?_
 obtain ⟨gp,_⟩:=I2.pin (A1,o1) (aG _ (aG _ aO)); obtain ⟨e0,e1,e2,e3,e4,e5⟩:=fp2; have hne':A1≠A2:=e5 (A1,o1) (aG _ (aG _ aO))
 have RA:RowsIn X.prog X.w s2.heap T1:=fun q hq=>by refine ⟨key_of I2.hok (S2.sub _ _ (sF2 _ _ (r1 q hq))), ?_⟩; obtain ⟨row,hr',rfl⟩:=bB.mp hq; exact ip xs _ ((k1 _).mp (bM hr'))
 have RB:RowsIn X.prog X.w s2.heap T2:=fun q hq=>by refine ⟨key_of I2.hok (S2.sub _ _ (r2 q hq)), ?_⟩; obtain ⟨row,hr',rfl⟩:=bB.mp hq; exact ip ys _ ((k2 _).mp (bM hr'))
 have I3:Inv X pins σ H2 s2:=I2.unpinned; have l1:T1.length≤72:=tab_len m1.nd k1 (by rw [aD]; exact lx); refine opAnd (by omega) hne' gp g2 m1 m2 RA RB l1 (tab_len m2.nd k2 (by rw [aD]; exact ly)) ?_; intro h2 tk r' o' T kp le g sm fr kt; refine Calls.spliced_nil ?_
 have row:∀r∈T,∃x∈xs,x∈ys∧r.2.1=kY x∧F2 r.2.2=some (.tup (x.map V.int)):=fun r hr=>by
  have hk:=(kt r.2.1).mp (bM hr); obtain ⟨x,hx,ex⟩:=bB.mp ((k1 _).mp hk.1); obtain ⟨y,hy,ey⟩:=bB.mp ((k2 _).mp hk.2)
  have exy:x=y:=by
   have:=congrArg eO (ex.trans ey.symm)
   rwa [iG,iG] at this
  subst exy; refine ⟨x,hx,hy,ex.symm, ?_⟩
  rcases fr r.2 (bM hr) with z | z
  ·have:=sF2 _ _ (r1 _ z); rw [← ex,kV_kY] at this; exact this
  ·have:=r2 _ z; rw [← ex,kV_kY] at this; exact this
 have knd:=sm.nd
 have l72:T.length≤72:=by
  have:=knd.length_le_of_subset (l₂:=T1.map (·.2.1)) fun k hk=>((kt k).mp hk).1
  rw [aD,aD] at this; omega
 have RI:∀r∈T,TupAt1 h2 (.ref r.2.2) (eO r.2.1):=fun r hr=>by
  obtain ⟨x,hx,_,e1,f1⟩:=row r hr
  have rp:Rep X.K H2 (bG x) (.ref r.2.2):=by simp only [bG,Rep]; exact ⟨_,_,rfl,S2.sub _ _ f1,rep_int _ _ x⟩
  obtain ⟨b,ys,its,e2,e3,r2,v2,o,g2,c,n,hd⟩:=kI I3.hok rp (show RelV (.ref r.2.2) (.ref r.2.2) from rfl); cases e2; cases e3; have e4:=(show RepL X.K H2 (x.map D.int) ys from r2).ints; subst e4; rw [e1,iG]; exact ⟨_,o,n,its,rfl,kp _ _ g2,c,hd,ints_of v2,hne x hx⟩
 have ki:∀r∈T,eO r.2.1∈xs:=fun r hr=>by obtain ⟨x,hx,_,e1,_⟩:=row r hr; rw [e1,iG]; exact hx
 have nd:(T.map fun r=>rk (eO r.2.1)).Nodup:=by
  have e:T.map (fun r=>rk (eO r.2.1))=(T.map (·.2.1)).map fun k=>rk (eO k):=by rw [bX]; rfl
  rw [e]; unfold List.Nodup; rw [dL]; refine List.Pairwise.imp_of_mem (fun {c1 c2} m1 m2 q z=>q ?_) knd; obtain ⟨x,hx,ex⟩:=bB.mp ((k1 c1).mp ((kt c1).mp m1).1); obtain ⟨y,hy,ey⟩:=bB.mp ((k1 c2).mp ((kt c2).mp m2).1); rw [← ex,← ey,iG,iG] at z; rw [← ex,← ey,inj x hx y hy z]
 refine sorted_set (s:={s2 with heap:=h2,toks:=tk}) (rk:=rk) (I3.ok.hd hc) g sm l72 RI nd (fun x hx y hy=>hlt _ (ki x hx) _ (ki y hy)) fun h3 tk3 dd T' n kp3 le3 g3 pm pw=> ?_
 have eT:T'.map (fun r=>eO r.2.1)=qs:=by
  refine List.Perm.eq_of_pairwise (le:=fun x y=>rk x<rk y) (fun x y _ _ h1 h2=>by omega) (by
   have:=pw; rw [dL] at this; rw [dL]
   exact this) hs ?_
  have n1:(T'.map fun r=>eO r.2.1).Nodup:=by have:=pw; rw [dL] at this; unfold List.Nodup; rw [dL]; exact this.imp fun {x y} q z=>by rw [z] at q; omega
  have n2:qs.Nodup:=hs.imp fun {x y} q z=>by rw [z] at q; omega
  refine (jG n1 n2).mpr fun x=> ?_
  rw [hq]
  constructor
  ·intro hx; obtain ⟨r,hr,rfl⟩:=bB.mp hx; obtain ⟨x,h1,h2,e1,_⟩:=row r (pm.mem_iff.mp hr); rw [e1,iG]; exact ⟨h1,h2⟩
  ·rintro ⟨hx,hy⟩; have:=(kt (kY x)).mpr ⟨(k1 _).mpr (bM hx),(k2 _).mpr (bM hy)⟩; obtain ⟨r,hr,er⟩:=bB.mp this; refine bB.mpr ⟨r,pm.mem_iff.mpr hr, ?_⟩; rw [er,iG]
 have le2:s2.heap.objs.size≤dd:=dO le (dP le3); have hD:H2 dd=none:=I3.hok.fresh le2; have lT:T'.length≤72:=by rw [pm.length_eq]; exact l72
 have vv:Vals (T'.map fun r=>V.ref r.2.2) (T'.map fun r=>Value.ref r.2.2):=by
  generalize T'=U
  induction U with
  | nil=>exact .nil
  | cons r U ih=>exact .cons rfl ih
 have I4:Inv X pins σ (upd H2 dd (.lst (T'.map fun r=>V.ref r.2.2))) {s2 with heap:=h3,toks:=tk3}:=
  I3.laid (fun b o g=>kp3 b o (kp b o g)) le2 ⟨by rw [sizeLine_eq,aD]; omega,_,n,vv,g3⟩
 obtain ⟨S4,fp,no⟩:=S2.layO (xs:=T'.map fun r=>V.ref r.2.2) hD; refine ⟨.ref dd,_,I4,rfl,F2,S4,sF1.trans sF2,dd,_,rfl,fp,cS, ?_,no⟩; rw [← eT,bX]; have rT:∀r∈T',r∈T:=fun r hr=>pm.mem_iff.mp hr
 clear vv I4 S4 fp no g3 eT lT pw pm
 induction T' with
 | nil=>exact .nil
 | cons r U ih=>refine .cons ?_ (ih fun q hq=>rT q (aM _ hq)); obtain ⟨x,hx,_,e1,f1⟩:=row r (rT r aO); show Rep X.K F2 (bG (eO r.2.1)) (.ref r.2.2); rw [e1,iG]; simp only [bG,Rep]; exact ⟨_,_,rfl,f1,rep_int _ _ x⟩
end
section
variable {prog:Program} {w:World} {A:Around} {E:Value→Shared→Prop} {s:Shared}
theorem sorted_rows {l:Addr} {T:List eR} {rk:List Int→Nat} {Q:Value→Shared→Prop} (hl:s.heap.IsList l (T.map fun r=>Value.ref r.2.2).toArray) (RI:∀r∈T,TupAt1 s.heap (.ref r.2.2) (eO r.2.1)) (h64:T.length≤1000)
  (nd:(T.map fun r=>rk (eO r.2.1)).Nodup) (hlt:∀x∈T,∀y∈T,ltI (eO x.2.1) (eO y.2.1)=decide (rk (eO x.2.1)<rk (eO y.2.1)))
  (h:∀T':List eR,T'.Perm T→(T'.map fun r=>rk (eO r.2.1)).Pairwise (·<·)→Q (.ref (s.heap.objs.size+1)) {s with heap:=sortedAll s.heap (T.map fun r=>Value.ref r.2.2) (T'.map fun r=>Value.ref r.2.2).toArray}):wpAny (model prog w) A (call (.builtin "sorted") [.ref l]) Q E s:=by
 obtain ⟨vs,hvs⟩:∃vs,T.map (fun r=>Value.ref r.2.2)=vs:=⟨_,rfl⟩; have lv:vs.length=T.length:=by rw [← hvs,aD]
 rw [hvs] at hl h; have hsz:((s.heap.push (seqObj "list" #[] 0)).update s.heap.objs.size (Obj.mapSeq (·++vs.toArray))).objs.size=s.heap.objs.size+1:=by rw [oZ,size_push']
 have hoL:(((s.heap.push (seqObj "list" #[] 0)).update s.heap.objs.size (Obj.mapSeq (·++vs.toArray))).push (seqObj "list" vs.toArray 0)).get? (s.heap.objs.size+1)=some (seqObj "list" vs.toArray 0):=by rw [← hsz]; exact aV _ rfl
 have p2:∀r∈T,TupAt1 (((s.heap.push (seqObj "list" #[] 0)).update s.heap.objs.size (Obj.mapSeq (·++vs.toArray))).push (seqObj "list" vs.toArray 0)) (.ref r.2.2) (eO r.2.1):=fun r hr=>(RI r hr).keep fun b o c g=>by
  have nb:s.heap.objs.size≠b:=fun z=>absurd (aI g) (by rw [← z]; exact eP _)
  refine aA _ ?_; rw [cY _ _ nb]; exact aA _ g
 refine Calls.call_function_entry kind_sorted plain_sorted entry_sorted (args_sorted1 (.ref l)) ?_; unfold Builtin.«sorted»; refine wpAny_bind (m:=checkCount "sorted" 1 1 _) (wpAny_pure (wpAny_bind (collect_list hl (wpAny_bind (wpAny_newList ?_ (by rw [sizeLine_eq]; omega))) (by rw [sizeLine_eq]; omega)))); show wpAny _ _ _ _ _ ⟨((s.heap.push (seqObj "list" #[] 0)).update s.heap.objs.size (Obj.mapSeq (·++vs.toArray))).push (seqObj "list" vs.toArray 0),s.gens,s.drawn,s.toks,s.os⟩; rw [hsz]; rw [← hvs] at hoL p2 h ⊢; exact wpAny_bind (wpAny_holding (wpAny_call_entry slot_list_sort ⟨_,hoL,rfl⟩ entry_list_sort (pO (rk:=rk) (s:=⟨_,s.gens,s.drawn,s.toks,s.os⟩) hoL p2 (by omega) nd hlt fun T' q1 q2=>⟨_,rfl,wpAny_pure ⟨_,rfl,h T' q1 q2⟩⟩) (args_list_sort _)))
end
section
variable {X:Cx} {sd:List Slot} {e:Expr} {pos:Pos}
theorem pd_sortRk {p:Pos} {ps qs:List (List Int)} {rk:List Int→Nat} (hg:Gl X "sorted") (hm:X.mg "sorted"=none) (ha:PEd X sd e (.bor (ps.map bG))) (hne:∀x∈ps,x≠[]) (h64:ps.length≤1000)
  (hlt:∀x∈ps,∀y∈ps,ltI x y=decide (rk x<rk y)) (nd:(ps.map rk).Nodup) (hq:qs.Perm ps) (hs:qs.Pairwise fun x y=>rk x<rk y)
  (hst:starEach [e] X.env=(false,eval e X.env)::starEach [] X.env:=by rfl):
  PEd X sd (.Call (.Name "sorted" p) [e] [] pos) (.own (qs.map bG)):= .mk fun σ F H S pins s I=>by
 refine wpAny_Call_Name_kw (mQ I hg hm boot_sorted ?_); refine PyProof.Rows.callWith_builtin1 (thn ((gR (te:=wE X e) hX pa_nil hst) pos pins s σ H (fun us H1=>∃v F1,us=[v]∧StF X.K X.B₀ F1 H1 σ sd∧Same F F1∧ResOk X.K F1 H1 sd (.bor (ps.map bG)) v) I ((ha σ F H S).imp fun v H1 ⟨F1,S1,s1,q1⟩=>⟨v,F1,rfl,S1,s1,q1⟩)) fun us s1 hus=> ?_) hst rfl; obtain ⟨ws,H1,I1,rv,v,F1,rfl,S1,sF,q1⟩:=hus; obtain ⟨u,rfl,ru⟩:=zZ rv; obtain ⟨l,xs,rfl,hl,rl,_⟩:=q1; cases ru; obtain ⟨z,its,n,r,hl2,eo⟩:=I1.lstM hl
 have tb:∀ {ps:List (List Int)} {xs:List V} {us:List Value},(∀x∈ps,x≠[])→RepL X.K F1 (ps.map bG) xs→Vals xs us→∃T:List eR,us=(T.map fun r=>Value.ref r.2.2)∧xs=(T.map fun r=>V.ref r.2.2)∧ps=(T.map fun r=>eO r.2.1)∧(∀r∈T,TupAt1 s1.heap (.ref r.2.2) (eO r.2.1))∧∀r∈T,Rep X.K F1 (bG (eO r.2.1)) (.ref r.2.2):=by
  intro ps
  induction ps with
  | nil=>intro xs us _ r rv; rw [gE] at r; simp only [RepL] at r; subst r; cases rv; exact ⟨[],rfl,rfl,rfl,fun r h=>(cU h).elim,fun r h=>(cU h).elim⟩
  | cons x ps ih=>
   intro xs us hne r rv; rw [bD] at r; obtain ⟨v,xs,rfl,a,rl⟩:=r.uncons; cases rv with
   | cons ru rv=>
    obtain ⟨T,e1,e2,e3,t1,t2⟩:=ih (fun z hz=>hne z (aM _ hz)) rl rv; obtain ⟨b,ys,its,rfl,rfl,r2,v2,o,g,c,n,hd⟩:=kI I1.hok (a.mono S1.sub) ru; have e:=(show RepL X.K H1 (x.map D.int) ys from r2).ints; subst e; refine ⟨(0,kY x,b)::T,by rw [bD,← e1],by rw [bD,← e2],by rw [bD,← e3]; show x::_=eO (kY x)::_; rw [iG],fun r hr=> ?_,fun r hr=> ?_⟩
    ·rcases aS.mp hr with rfl | hr
     ·show TupAt1 s1.heap (.ref b) (eO (kY x)); rw [iG]; exact ⟨b,o,n,its,rfl,g,c,hd,ints_of v2,hne x aO⟩
     ·exact t1 r hr
    ·rcases aS.mp hr with rfl | hr
     ·show Rep X.K F1 (bG (eO (kY x))) (.ref b); rw [iG]; exact a
     ·exact t2 r hr
 obtain ⟨T,rfl,rfl,eps,t1,t2⟩:=tb hne rl r; subst eps; have lT:T.length≤1000:=by simpa using h64
 have mT:∀r∈T,eO r.2.1∈T.map fun r=>eO r.2.1:=fun r hr=>bM (f:=fun r:eR=>eO r.2.1) hr
 refine sorted_rows (l:=l) (T:=T) (rk:=rk) ⟨_,eo,rfl,n,rfl⟩ t1 lT (by rw [bX] at nd; exact nd) (fun x hx y hy=>hlt _ (mT x hx) _ (mT y hy)) fun T' p1 p2=> ?_
 have eT:T'.map (fun r=>eO r.2.1)=qs:=by
  refine List.Perm.eq_of_pairwise (le:=fun x y=>rk x<rk y) (fun x y _ _ h1 h2=>by omega) (by
   have:=p2; rw [dL] at this; rw [dL]
   exact this) hs ((p1.map _).trans hq.symm)
 obtain ⟨kp,n2,g2⟩:=srt_keep s1.heap (T.map fun r=>Value.ref r.2.2) (T'.map fun r=>Value.ref r.2.2).toArray; have hD:H1 (s1.heap.objs.size+1)=none:=I1.hok.fresh (oB _); have lT':T'.length=T.length:=p1.length_eq
 have vv:Vals (T'.map fun r=>V.ref r.2.2) (T'.map fun r=>Value.ref r.2.2):=by
  generalize T'=U
  induction U with
  | nil=>exact .nil
  | cons r U ih=>exact .cons rfl ih
 have I3:Inv X pins σ (upd H1 (s1.heap.objs.size+1) (.lst (T'.map fun r=>V.ref r.2.2))) {s1 with heap:=sortedAll s1.heap (T.map fun r=>Value.ref r.2.2) (T'.map fun r=>Value.ref r.2.2).toArray}:=
  I1.laid (t':=s1.toks) kp (oB _) ⟨by rw [sizeLine_eq,aD]; omega,_,n2,vv,by simpa [seqObj] using g2⟩
 obtain ⟨S4,fp,no⟩:=S1.layO (xs:=T'.map fun r=>V.ref r.2.2) hD; refine ⟨.ref (s1.heap.objs.size+1),_,I3,rfl,F1,S4,sF,_,_,rfl,fp,cS, ?_,no⟩; rw [← eT,bX]; have rT:∀r∈T',r∈T:=fun r hr=>p1.mem_iff.mp hr
 clear vv I3 S4 fp no g2 eT p2 p1 lT' kp
 induction T' with
 | nil=>exact .nil
 | cons r U ih=>exact .cons (t2 r (rT r aO)) (ih fun q hq=>rT q (aM _ hq))
end
structure ZA3 (z TI TO i1 i2 i3 l1 l2 l3:Addr):Prop where
 TIz:TI≠z
 TOz:TO≠z
 i1z:i1≠z
 i2z:i2≠z
 i3z:i3≠z
 TITO:TI≠TO
 TIi1:TI≠i1
 TIi2:TI≠i2
 TIi3:TI≠i3
 TOi1:TO≠i1
 TOi2:TO≠i2
 TOi3:TO≠i3
 i12:i1≠i2
 i13:i1≠i3
 i23:i2≠i3
 l1z:l1≠z
 l2z:l2≠z
 l3z:l3≠z
 l2TO:l2≠TO
 l3TO:l3≠TO
 l2i1:l2≠i1
 l3i1:l3≠i1
 l3i2:l3≠i2
def jE (h:Heap) (T:Addr) (a b c:Value):Prop:=h.get? T=some {cls:= .type "tuple",data:= .seq #[a,b,c]}
section
variable {prog:Program} {w:World} {A:Around} {E:Value→Shared→Prop} {s:Shared}
theorem updTri {T:Addr} {a b c x:Value} {k:Nat} {Q:Unit→Shared→Prop} (hT:jE s.heap T a b c)
  (h:∀h',h'.get? T=some {cls:= .type "tuple",data:= .seq ((#[a,b,c]:Array Value).setIfInBounds k x)}→Heap.SameBut T s.heap h'→Q () {s with heap:=h'}):
  wpAny (model prog w) A (updateSeq T (·.setIfInBounds k x)) Q E s:=by
 refine wpAny_updateSeq hT rfl (h _ ?_ (Heap.SameBut.update ..)); rw [fD _ hT rfl]; simp [Obj.mapSeq]
theorem zt_item {z TI TO i1 i2 i3 l1 l2 l3:Addr} {k1 k2 k3:Nat} {xs ys zs:Array Value} {x y t a b c:Value} {Q:Value→Shared→Prop} (D:ZA3 z TI TO i1 i2 i3 l1 l2 l3)
  (hz:IsZip s.heap z TI TO .none) (hTI:jE s.heap TI (.ref i1) (.ref i2) (.ref i3)) (hTO:jE s.heap TO a b c) (h1:s.heap.IsListIter i1 l1 k1) (h2:s.heap.IsListIter i2 l2 k2) (h3:s.heap.IsListIter i3 l3 k3) (hl1:s.heap.IsList l1 xs) (hl2:s.heap.IsList l2 ys) (hl3:s.heap.IsList l3 zs) (hx:xs[k1]? =some x) (hy:ys[k2]? =some y) (ht:zs[k3]? =some t)
  (hQ:∀h',IsZip h' z TI TO (rawInt s.heap.objs.size)→jE h' TO x y t→h'.IsListIter i1 l1 (k1+1)→h'.IsListIter i2 l2 (k2+1)→h'.IsListIter i3 l3 (k3+1)→jE h' s.heap.objs.size x y t→h'.objs.size=s.heap.objs.size+1→(∀c o,c≠z→c≠TO→c≠i1→c≠i2→c≠i3→s.heap.get? c=some o→h'.get? c=some o)→Q (.ref s.heap.objs.size) {s with heap:=h'}):
  wpAny (model prog w) A (Builtin.«zip.__next__» ⟨[.ref z],[]⟩) (fun fin s'=>∃v,fin= .done (.ret v)∧Q v s') E s:=by
 refine (show wpAny _ _ (field (.ref z) 2>>=fun _=>field (.ref z) 3>>=_) _ _ _ from wpAny_bind (wpAny_field hz rfl (x:= .bool false) rfl (wpAny_bind (wpAny_field hz rfl (x:= .ref TI) rfl (wpAny_bind (wpAny_seqItems hTI rfl ?_)))))); refine (show wpAny _ _ (Builtin.SmallTypes.ownedTupleIsFree (.ref z)>>=_) _ _ _ from wpAny_bind ?_); unfold Builtin.SmallTypes.ownedTupleIsFree; refine wpAny_bind (wpAny_field hz rfl (x:= .none) rfl (wpAny_pure ?_)); simp only [if_true]; refine wpAny_bind (wpAny_rule (wpAny_bind (wpAny_field hz rfl (x:= .ref TO) rfl (wpAny_bind (wpAny_setField_rec hz (by simp) fun g1 hz1 s1=> ?_)))))
 replace hz1:IsZip g1 z TI TO .ellipsis:=hz1
 refine wpAny_bind ?_; simp only [lD,pS,jS,nI]; have s1':=s1.extBut; refine wpAny_bind (wpAny_bind (wpAny_onRaise (show wpAny _ _ (Builtin.SmallTypes.nextOf (.ref i1)>>=_) _ _ _ from wpAny_bind (wpAny_nextOf_list_item (Heap.IsListIter.at h1 fun o e=>s1' _ _ D.i1z e) (Heap.IsList.at hl1 fun o e=>s1' _ _ D.l1z e) hx fun g2 n1 s2=>wpAny_pure ?_)))); have s2':=s2.extBut; have o2:jE g2 TO a b c:=s2' _ _ D.TOi1 (s1' _ _ D.TOz hTO); refine wpAny_bind (wpAny_seqItems o2 rfl (wpAny_bind (updTri o2 fun g3 o3 s3=>wpAny_bind (wpAny_letGo (wpAny_pure ?_)))))
 replace o3:jE g3 TO x b c:=o3
 have s3':=s3.extBut; refine wpAny_bind (wpAny_bind (wpAny_onRaise (show wpAny _ _ (Builtin.SmallTypes.nextOf (.ref i2)>>=_) _ _ _ from wpAny_bind (wpAny_nextOf_list_item (Heap.IsListIter.at h2 fun o e=>s3' _ _ D.TOi2.symm (s2' _ _ D.i12.symm (s1' _ _ D.i2z e))) (Heap.IsList.at hl2 fun o e=>s3' _ _ D.l2TO (s2' _ _ D.l2i1 (s1' _ _ D.l2z e))) hy fun g4 n2 s4=>wpAny_pure ?_)))); have s4':=s4.extBut; have o4:jE g4 TO x b c:=s4' _ _ D.TOi2 o3; refine wpAny_bind (wpAny_seqItems o4 rfl (wpAny_bind (updTri o4 fun g5 o5 s5=>wpAny_bind (wpAny_letGo (wpAny_pure ?_)))))
 replace o5:jE g5 TO x y c:=o5
 have s5':=s5.extBut; refine wpAny_bind (wpAny_bind (wpAny_onRaise (show wpAny _ _ (Builtin.SmallTypes.nextOf (.ref i3)>>=_) _ _ _ from wpAny_bind (wpAny_nextOf_list_item (Heap.IsListIter.at h3 fun o e=>s5' _ _ D.TOi3.symm (s4' _ _ D.i23.symm (s3' _ _ D.TOi3.symm (s2' _ _ D.i13.symm (s1' _ _ D.i3z e))))) (Heap.IsList.at hl3 fun o e=>s5' _ _ D.l3TO (s4' _ _ D.l3i2 (s3' _ _ D.l3TO (s2' _ _ D.l3i1 (s1' _ _ D.l3z e))))) ht fun g6 n3 s6=>wpAny_pure ?_)))); have s6':=s6.extBut; have o6:jE g6 TO x y c:=s6' _ _ D.TOi3 o5; refine wpAny_bind (wpAny_seqItems o6 rfl (wpAny_bind (updTri o6 fun g7 o7 s7=>wpAny_bind (wpAny_letGo (wpAny_pure (wpAny_pure ?_))))))
 replace o7:jE g7 TO x y t:=o7
 have s7':=s7.extBut; refine wpAny_bind (wpAny_seqItems o7 rfl (wpAny_bind (wpAny_newTuple ?_))); have sz:g7.objs.size=s.heap.objs.size:=by rw [s7.1,s6.1,s5.1,s4.1,s3.1,s2.1,s1.1]
 have z7:IsZip g7 z TI TO .ellipsis:=s7' _ _ D.TOz.symm (s6' _ _ D.i3z.symm (s5' _ _ D.TOz.symm (s4' _ _ D.i2z.symm (s3' _ _ D.TOz.symm (s2' _ _ D.i1z.symm hz1))))); have k7:∀c o,c≠z→c≠TO→c≠i1→c≠i2→c≠i3→s.heap.get? c=some o→g7.get? c=some o:=fun c o c1 c2 c3 c4 c5 e=>s7' _ _ c2 (s6' _ _ c5 (s5' _ _ c2 (s4' _ _ c4 (s3' _ _ c2 (s2' _ _ c3 (s1' _ _ c1 e))))))
 have m1:g7.IsListIter i1 l1 (k1+1):=Heap.IsListIter.at n1 fun o e=>s7' _ _ D.TOi1.symm (s6' _ _ D.i13 (s5' _ _ D.TOi1.symm (s4' _ _ D.i12 (s3' _ _ D.TOi1.symm e))))
 have m2:g7.IsListIter i2 l2 (k2+1):=Heap.IsListIter.at n2 fun o e=>s7' _ _ D.TOi2.symm (s6' _ _ D.i23 (s5' _ _ D.TOi2.symm e))
 have m3:g7.IsListIter i3 l3 (k3+1):=Heap.IsListIter.at n3 fun o e=>s7' _ _ D.TOi3.symm e
 have zlt:z<g7.objs.size:=aI z7; refine (show wpAny _ _ (Builtin.SmallTypes.ownedTupleHandOut (.ref z) (.ref g7.objs.size)>>=_) _ _ _ from wpAny_bind ?_); unfold Builtin.SmallTypes.ownedTupleHandOut; refine wpAny_bind (wpAny_setField_rec (show IsZip (g7.push {cls:= .type "tuple",data:= .seq #[x,y,t]}) z TI TO .ellipsis from aA _ z7) (by simp) fun g8 z8 s8=> ?_)
 replace z8:IsZip g8 z TI TO (rawInt g7.objs.size):=z8
 refine wpAny_setField_rec z8 (by simp) fun g9 z9 s9=> ?_
 replace z9:IsZip g9 z TI TO (rawInt g7.objs.size):=z9
 have up:∀c o,c≠z→g7.get? c=some o→g9.get? c=some o:=fun c o c1 e=>s9.extBut _ _ c1 (s8.extBut _ _ c1 (aA _ e))
 have t9:jE g9 g7.objs.size x y t:=s9.extBut _ _ (eQ zlt) (s8.extBut _ _ (eQ zlt) (aV _ rfl)); have q9:g9.objs.size=g7.objs.size+1:=by rw [s9.1,s8.1,fE]
 rw [sz] at z9 t9 q9; refine wpAny_pure ⟨_,rfl,show Q (.ref g7.objs.size) _ from ?_⟩; rw [sz]; exact hQ g9 z9 (up _ _ D.TOz o7) (Heap.IsListIter.at m1 fun o e=>up _ o D.i1z e) (Heap.IsListIter.at m2 fun o e=>up _ o D.i2z e) (Heap.IsListIter.at m3 fun o e=>up _ o D.i3z e) t9 q9 fun c o c1 c2 c3 c4 c5 e=>up c o c1 (k7 c o c1 c2 c3 c4 c5 e)
theorem zt_end {z TI TO i1 i2 i3 l1 l2 l3:Addr} {k1:Nat} {xs:Array Value} {Q:Fin→Shared→Prop} (hh:A.handled=none) (D:ZA3 z TI TO i1 i2 i3 l1 l2 l3)
  (hz:IsZip s.heap z TI TO .none) (hTI:jE s.heap TI (.ref i1) (.ref i2) (.ref i3)) (h1:s.heap.IsListIter i1 l1 k1) (hl1:s.heap.IsList l1 xs) (hx:xs[k1]? =none)
  (hE:∀h' e,(∀c o,c≠z→c≠TO→c≠i1→c≠i2→c≠i3→s.heap.get? c=some o→h'.get? c=some o)→(∃o,h'.get? e=some o∧o.cls= .type "StopIteration")→E (.ref e) {s with heap:=h'}):
  wpAny (model prog w) A (Builtin.«zip.__next__» ⟨[.ref z],[]⟩) Q E s:=by
 refine (show wpAny _ _ (field (.ref z) 2>>=fun _=>field (.ref z) 3>>=_) _ _ _ from wpAny_bind (wpAny_field hz rfl (x:= .bool false) rfl (wpAny_bind (wpAny_field hz rfl (x:= .ref TI) rfl (wpAny_bind (wpAny_seqItems hTI rfl ?_)))))); refine (show wpAny _ _ (Builtin.SmallTypes.ownedTupleIsFree (.ref z)>>=_) _ _ _ from wpAny_bind ?_); unfold Builtin.SmallTypes.ownedTupleIsFree; refine wpAny_bind (wpAny_field hz rfl (x:= .none) rfl (wpAny_pure ?_)); simp only [if_true]; refine wpAny_bind (wpAny_rule (wpAny_bind (wpAny_field hz rfl (x:= .ref TO) rfl (wpAny_bind (wpAny_setField_rec hz (by simp) fun g1 hz1 s1=> ?_)))))
 replace hz1:IsZip g1 z TI TO .ellipsis:=hz1
 refine wpAny_bind ?_; simp only [lD,pS,jS,nI]; have s1':=s1.extBut; refine wpAny_bind (wpAny_bind (wpAny_onRaise (show wpAny _ _ (Builtin.SmallTypes.nextOf (.ref i1)>>=_) _ _ _ from ?_))); refine wpAny_bind (wpAny_nextOf_list_end hh (Heap.IsListIter.at h1 fun o e=>s1' _ _ D.i1z e) (Heap.IsList.at hl1 fun o e=>s1' _ _ D.l1z e) hx fun g2 e s2 he=> ?_); obtain ⟨oe,hoe,hce⟩:=he; have z2:IsZip g2 z TI TO .ellipsis:=s2 _ _ D.i1z.symm hz1; have ne:e≠z:=fun x=>by subst x; rw [z2] at hoe; cases hoe; simp at hce
 exact wpAny_setField_rec z2 (by simp) fun g3 _ s3=>hE g3 e (fun c o c1 _ c3 _ _ x=>s3.extBut _ _ c1 (s2 _ _ c3 (s1' _ _ c1 x))) ⟨oe,s3.extBut _ _ ne hoe,hce⟩
theorem ztN_item {z TI TO i1 i2 i3 l1 l2 l3:Addr} {k1 k2 k3:Nat} {xs ys zs:Array Value} {x y t a b c:Value} {Q:Option Value→Shared→Prop} (D:ZA3 z TI TO i1 i2 i3 l1 l2 l3)
  (hz:IsZip s.heap z TI TO .none) (hTI:jE s.heap TI (.ref i1) (.ref i2) (.ref i3)) (hTO:jE s.heap TO a b c) (h1:s.heap.IsListIter i1 l1 k1) (h2:s.heap.IsListIter i2 l2 k2) (h3:s.heap.IsListIter i3 l3 k3) (hl1:s.heap.IsList l1 xs) (hl2:s.heap.IsList l2 ys) (hl3:s.heap.IsList l3 zs) (hx:xs[k1]? =some x) (hy:ys[k2]? =some y) (ht:zs[k3]? =some t)
  (hQ:∀h',IsZip h' z TI TO (rawInt s.heap.objs.size)→jE h' TO x y t→h'.IsListIter i1 l1 (k1+1)→h'.IsListIter i2 l2 (k2+1)→h'.IsListIter i3 l3 (k3+1)→jE h' s.heap.objs.size x y t→h'.objs.size=s.heap.objs.size+1→(∀c o,c≠z→c≠TO→c≠i1→c≠i2→c≠i3→s.heap.get? c=some o→h'.get? c=some o)→Q (some (.ref s.heap.objs.size)) {s with heap:=h'}):
  wpAny (model prog w) A (pyNext (.ref z)) Q E s:=by
 have hT:s.TypeIs (.ref z) "zip":=⟨_,hz,rfl⟩; unfold pyNext; exact wpAny_bind (wpAny_attempt (wpAny_callSpecial?_slot (name:=Str.ofString "__next__") hT F.slot_zip_next (wpAny_call_entry F.slot_zip_next hT F.entry_zip_next (zt_item D hz hTI hTO h1 h2 h3 hl1 hl2 hl3 hx hy ht fun h' a1 a2 a3 a4 a5 a6 a7 a8=>wpAny_pure (hQ h' a1 a2 a3 a4 a5 a6 a7 a8)) (F.args_zip_next_1 _))))
theorem ztN_end {z TI TO i1 i2 i3 l1 l2 l3:Addr} {k1:Nat} {xs:Array Value} {Q:Option Value→Shared→Prop} (hh:A.handled=none) (D:ZA3 z TI TO i1 i2 i3 l1 l2 l3)
  (hz:IsZip s.heap z TI TO .none) (hTI:jE s.heap TI (.ref i1) (.ref i2) (.ref i3)) (h1:s.heap.IsListIter i1 l1 k1) (hl1:s.heap.IsList l1 xs) (hx:xs[k1]? =none)
  (hQ:∀h',(∀c o,c≠z→c≠TO→c≠i1→c≠i2→c≠i3→s.heap.get? c=some o→h'.get? c=some o)→Q none {s with heap:=h'}):wpAny (model prog w) A (pyNext (.ref z)) Q E s:=by
 have hT:s.TypeIs (.ref z) "zip":=⟨_,hz,rfl⟩; unfold pyNext; refine wpAny_bind (wpAny_attempt (wpAny_callSpecial?_slot (name:=Str.ofString "__next__") hT F.slot_zip_next (wpAny_call_entry F.slot_zip_next hT F.entry_zip_next (zt_end hh D hz hTI h1 hl1 hx fun h' e hk he=> ?_) (F.args_zip_next_1 _)))); obtain ⟨o,ho,hc⟩:=he; exact wpAny_bind (wpAny_isInstance (T:="StopIteration") (b:=true) ⟨o,ho,hc⟩ isSubtype_stop (wpAny_pure (hQ _ hk)))
end
def Itz3 (K:aB) (a b c:Addr):It:=
 ⟨fun i H=>∃xs ys zs x y z,SqL K H a xs∧SqL K H b ys∧SqL K H c zs∧xs[i]? =some x∧ys[i]? =some y∧zs[i]? =some z,fun i H v H'=>∃p x y z,v= .ref p∧H p=none∧H'=upd H p (.tup [x,y,z])∧(∀xs,SqL K H a xs→xs[i]? =some x)∧(∀ys,SqL K H b ys→ys[i]? =some y)∧∀zs,SqL K H c zs→zs[i]? =some z,fun i H=>∃xs,SqL K H a xs∧xs.length≤i⟩
theorem turn_zip3 {P:Program} {w:World} {K:aB} {elts:List Expr} {kk:Nat} {pos:Pos} (a b c z TI TO i1 i2 i3:Addr) (D:ZA3 z TI TO i1 i2 i3 a b c):yP P w K (.Tuple elts kk pos) (Itz3 K a b c) [z,TO,i1,i2,i3,TI] z (fun i h=>IsZip h z TI TO .none∧jE h TI (.ref i1) (.ref i2) (.ref i3)∧(∃c d e,jE h TO c d e)∧h.IsListIter i1 a i∧h.IsListIter i2 b i∧h.IsListIter i3 c i) where
 mem:=by simp
 obj:=fun i h st c hc=>by
  obtain ⟨hz,hTI,⟨x,y,t,hTO⟩,h1,h2,h3⟩:=st; simp only [aS,cU,or_false] at hc
  rcases hc with rfl | rfl | rfl | rfl | rfl | rfl
  ·exact ⟨_,hz,fun v q=>by cases q⟩
  ·exact ⟨_,hTO,fun v q=>by cases q⟩
  ·exact ItAt.ex (tp:=false) h1
  ·exact ItAt.ex (tp:=false) h2
  ·exact ItAt.ex (tp:=false) h3
  ·exact ⟨_,hTI,fun v q=>by cases q⟩
 keep:=fun i h h' st k=>by obtain ⟨hz,hTI,⟨x,y,t,hTO⟩,h1,h2,h3⟩:=st; exact ⟨k z (by simp) _ hz,k TI (by simp) _ hTI,⟨x,y,t,k TO (by simp) _ hTO⟩,Heap.IsListIter.at h1 fun o q=>k i1 (by simp) o q,Heap.IsListIter.at h2 fun o q=>k i2 (by simp) o q,Heap.IsListIter.at h3 fun o q=>k i3 (by simp) o q⟩
 item:=by
  intro X hP hw hK hc i pins s σ H E I hf st hg; subst hP hw hK; obtain ⟨hz,hTI,⟨c',d',e',hTO⟩,h1,h2,h3⟩:=st; obtain ⟨xs,ys,zs,x,y,t,qx,qy,qt,ex,ey,et⟩:=hg; obtain ⟨its,rv,sx0,_⟩:=I.list qx; obtain ⟨jts,rw',sy0,_⟩:=I.list qy; obtain ⟨kts,rt,st0,_⟩:=I.list qt; have sx:=sx0.isList; have sy:=sy0.isList; have st:=st0.isList; obtain ⟨u,hu,ru⟩:=rv.get ex; obtain ⟨v,hv,rv'⟩:=rw'.get ey; obtain ⟨o,ho,ro⟩:=rt.get et; refine ztN_item D hz hTI hTO h1 h2 h3 sx sy st (x:=u) (y:=v) (t:=o) (by simpa using hu) (by simpa using hv) (by simpa using ho) fun g1 z1 o1 n1 n2 n3 t1 sz1 k1=> ?_
  refine ⟨_,rfl,wpAny_letOwnedTupleGo_zip z1 fun g2 z2 s2=> ?_⟩; have s2':=s2.extBut
  have lt:∀b∈[z,TO,i1,i2,i3,TI],b<s.heap.objs.size:=fun b hb=>by
   simp only [aS,cU,or_false] at hb
   rcases hb with rfl | rfl | rfl | rfl | rfl | rfl
   ·exact aI hz
   ·exact aI hTO
   ·obtain ⟨_,q,_⟩:=ItAt.ex (tp:=false) h1; exact aI q
   ·obtain ⟨_,q,_⟩:=ItAt.ex (tp:=false) h2; exact aI q
   ·obtain ⟨_,q,_⟩:=ItAt.ex (tp:=false) h3; exact aI q
   ·exact aI hTI
  have I1:Inv X pins σ H {s with heap:=g2}:=inv_ch (t':=s.toks) (ch:=[z,TO,i1,i2,i3]) I (fun b o hb q=>by
   simp only [aS,cU,or_false,not_or] at hb
   exact s2' _ _ hb.1 (k1 b o hb.1 hb.2.1 hb.2.2.1 hb.2.2.2.1 hb.2.2.2.2 q)) fun b hb=>hf b (by simp only [aS,cU,or_false] at hb ⊢; rcases hb with q | q | q | q | q<;>simp [q])
  have hn:H s.heap.objs.size=none:=I.hok.fresh (aN _); have t2:g2.get? s.heap.objs.size=some {cls:= .type "tuple",data:= .seq #[u,v,o]}:=s2' _ _ (eQ (lt z (by simp))) t1
  have I2:Inv X pins σ (upd H s.heap.objs.size (.tup [x,y,t])) {s with heap:=g2}:=by
   refine I1.track hn I.sz (eQ I.lt) (fun y c q=> ?_) (fun y hy=> ?_) ⟨by show 3≤sizeLine; decide,[u,v,o], .cons ru (.cons rv' (.cons ro .nil)),⟨_,t2,rfl,⟨_,rfl⟩,rfl⟩⟩
   ·obtain ⟨v,o,ho,_⟩:=I.cell y c q; exact bH (aI ho)
   ·exact bH (aI (I.pin y hy).1)
  refine ⟨.ref s.heap.objs.size,_,I2,rfl,⟨_,x,y,t,rfl,hn,rfl,fun zs hz=>by rw [I.list_inj hz qx]; exact ex,fun zs hz=>by rw [I.list_inj hz qy]; exact ey,fun zs hz=>by rw [I.list_inj hz qt]; exact et⟩,⟨z2,s2' _ _ D.TIz (k1 _ _ D.TIz D.TITO D.TIi1 D.TIi2 D.TIi3 hTI),⟨_,_,_,s2' _ _ D.TOz o1⟩,Heap.IsListIter.at n1 fun o q=>s2' _ _ D.i1z q,Heap.IsListIter.at n2 fun o q=>s2' _ _ D.i2z q,Heap.IsListIter.at n3 fun o q=>s2' _ _ D.i3z q⟩,fun b hb=> ?_⟩; rw [bW (bH (lt b hb))]; exact (hf b hb).1
 done:=by
  intro X hP hw hK hc i pins s σ H E I hf st hg; subst hP hw hK; obtain ⟨hz,hTI,⟨c',d',e',hTO⟩,h1,h2,h3⟩:=st; obtain ⟨xs,qx,hl⟩:=hg; obtain ⟨its,rv,sx0,_⟩:=I.list qx; have sx:=sx0.isList; have l1:=rv.length; refine ztN_end (I.ok.hd hc) D hz hTI h1 sx (by simp; omega) fun h' k=>⟨rfl, ?_⟩
  exact inv_ch (t':=s.toks) (ch:=[z,TO,i1,i2,i3]) I (fun b o hb q=>by
   simp only [aS,cU,or_false,not_or] at hb
   exact k b o hb.1 hb.2.1 hb.2.2.1 hb.2.2.2.1 hb.2.2.2.2 q) fun b hb=>hf b (by simp only [aS,cU,or_false] at hb ⊢; rcases hb with q | q | q | q | q<;>simp [q])
 self:=fun _ _ _ _ _ st h=>by obtain ⟨hz,_⟩:=st; exact wpAny_pyIter_zip hz h
abbrev yA (h:Heap) (l:Addr):Heap:=h.push (itO false l)
abbrev yB (h:Heap) (l m:Addr):Heap:=(yA h l).push (itO false m)
abbrev yC (h:Heap) (l m n:Addr):Heap:=(yB h l m).push (itO false n)
abbrev yD (h:Heap) (l m n:Addr):Heap:=(yC h l m n).push {cls:= .type "tuple",data:= .seq #[.ref h.objs.size, .ref (yA h l).objs.size, .ref (yB h l m).objs.size]}
abbrev yE (h:Heap) (l m n:Addr):Heap:=(yD h l m n).push {cls:= .type "tuple",data:= .seq #[.none, .none, .none]}
abbrev yF (h:Heap) (l m n:Addr):Heap:=(yE h l m n).push {cls:= .type "zip",data:= .fields #[.none, .bool false, .bool false, .ref (yC h l m n).objs.size, .ref (yD h l m n).objs.size]}
set_option maxHeartbeats 2000000 in
theorem new_z3 (l m n:Addr) (xs ys zs:Array Value):Meets (Builtin.«zip.__new__» ⟨[.type "zip", .ref l, .ref m, .ref n],[]⟩) (fun _ R s=>s.heap.IsList l xs∧s.heap.IsList m ys∧s.heap.IsList n zs∧R (.ok (.ret (.ref (yE s.heap l m n).objs.size))) {s with heap:=yF s.heap l m n}):=
 .of_wp fun prog w A R s h=>by
  obtain ⟨hp,g,d,tk,os⟩:=s; obtain ⟨a1,a2,a3,h⟩:=h; have hsub:=sub_zip; have b1:SqAt false (Shared.heap ⟨hp,g,d,tk,os⟩) l xs:=a1; have b2:SqAt false (Shared.heap ⟨hp.push (itO false l),g,d,tk,os⟩) m ys:=SqAt.keep (tp:=false) a2 fun o e=>aA _ e
  have b3:SqAt false (Shared.heap ⟨(hp.push (itO false l)).push (itO false m),g,d,tk,os⟩) n zs:=SqAt.keep (tp:=false) a3 fun o e=>aA _ (aA _ e)
  wp_walk using pyI b1,pyI b2,pyI b3
  exact ⟨_,rfl,h⟩
theorem tc_zip3 (a b c:Value):checkTypeCall "zip" ⟨[a,b,c],[]⟩=pure ():=by kernel_rfl
theorem nc_zip3 (a b c:Value):checkBuiltinCall "zip.__new__" ⟨[.type "zip",a,b,c],[]⟩=pure ():=by kernel_rfl
theorem ao_init4 (a b c d:Value):argsOk "object.__init__" ⟨[a,b,c,d],[]⟩:=by
 unfold argsOk; rw [signature?_of (id:="object.__init__") (n:=['_','_','t','i','n','i','_','_']) (o:=['t','c','e','j','b','o']) (by kernel_rfl) F.owner_object]
 kernel_rfl
section
variable {prog:Program} {w:World} {A:Around} {E:Value→Shared→Prop} {s:Shared}
theorem call_z3 {l m n:Addr} {xs ys zs:Array Value} {Q:Value→Shared→Prop} (a1:s.heap.IsList l xs) (a2:s.heap.IsList m ys) (a3:s.heap.IsList n zs)
  (h:∀h',IsZip h' (s.heap.objs.size+5) (s.heap.objs.size+3) (s.heap.objs.size+4) .none→jE h' (s.heap.objs.size+3) (.ref s.heap.objs.size) (.ref (s.heap.objs.size+1)) (.ref (s.heap.objs.size+2))→jE h' (s.heap.objs.size+4) .none .none .none→h'.IsListIter s.heap.objs.size l 0→h'.IsListIter (s.heap.objs.size+1) m 0→h'.IsListIter (s.heap.objs.size+2) n 0→(∀c o,s.heap.get? c=some o→h'.get? c=some o)→Q (.ref (s.heap.objs.size+5)) {s with heap:=h'}):
  wpAny (model prog w) A (call (.type "zip") [.ref l, .ref m, .ref n]) Q E s:=by
 refine callType_new F.called_zip (by decide) (tc_zip3 _ _ _) (nc_zip3 _ _ _) (fun obj=>ao_init4 obj _ _ _) F.entry_zip_new (new_z3 l m n xs ys zs) ⟨a1,a2,a3, ?_⟩; have z1:(yA s.heap l).objs.size=s.heap.objs.size+1:=fE ..; have z2:(yB s.heap l m).objs.size=s.heap.objs.size+2:=by rw [fE,z1]
 have z3:(yC s.heap l m n).objs.size=s.heap.objs.size+3:=by rw [fE,z2]
 have z4:(yD s.heap l m n).objs.size=s.heap.objs.size+4:=by rw [fE,z3]
 have z5:(yE s.heap l m n).objs.size=s.heap.objs.size+5:=by rw [fE,z4]
 have g6:(yF s.heap l m n).get? (yE s.heap l m n).objs.size=some _:=aV _ rfl; have g5:(yF s.heap l m n).get? (yD s.heap l m n).objs.size=some _:=aA _ (aV _ rfl); have g4:(yF s.heap l m n).get? (yC s.heap l m n).objs.size=some _:=aA _ (aA _ (aV _ rfl)); have g3:(yF s.heap l m n).get? (yB s.heap l m).objs.size=some (itO false n):=aA _ (aA _ (aA _ (aV _ (vG false n)))); have g2:(yF s.heap l m n).get? (yA s.heap l).objs.size=some (itO false m):=aA _ (aA _ (aA _ (aA _ (aV _ (vG false m))))); have g1:(yF s.heap l m n).get? s.heap.objs.size=some (itO false l):=aA _ (aA _ (aA _ (aA _ (aA _ (aV _ (vG false l)))))); show _∧_; rw [z3,z4,z5] at g6; rw [z1,z2,z3] at g4; rw [z4] at g5; rw [z2] at g3; rw [z1] at g2; rw [z5]; exact ⟨⟨_,g6,rfl⟩,h _ g6 g4 g5 (vN g1) (vN g2) (vN g3) fun c o x=>aA _ (aA _ (aA _ (aA _ (aA _ (aA _ x)))))⟩
end
section
variable {X:Cx} {sd:List Slot} {e a b c tg iter:Expr} {es:List Expr} {pos:Pos} {r ra rb:R} {d:D} {ds:List D} {st:Stmt} {rest:List Stmt} {E:jX}
theorem pi_zip3 {elts:List Expr} {kk:Nat} {tp:Pos} {ta:TA} {p:Pos} (hg:Gl X "zip") (hm:X.mg "zip"=none) (ha:PA X [a,b,c] ta) (hs:starEach [a,b,c] X.env=[(false,eval a X.env),(false,eval b X.env),(false,eval c X.env)]:=by rfl) (hs2:starEach [b,c] X.env=[(false,eval b X.env),(false,eval c X.env)]:=by rfl):
  PI X (.Tuple elts kk tp) (.Call (.Name "zip" p) [a,b,c] [] pos) (fun σ H R=>ta σ H fun vs H1=>∃l m n,vs=[.ref l, .ref m, .ref n]∧(∃xs,SqL X.K H1 l xs)∧(∃ys,SqL X.K H1 m ys)∧(∃zs,SqL X.K H1 n zs)∧R (Itz3 X.K l m n) H1):=by
 intro pins s σ H R I h; refine Call_ (mQ I hg hm PyProof.Rows.boot_zip (PyProof.Rows.callWith_type1 (thn (ha pos pins s σ H _ I h) fun us s1 ⟨vs,H1,I1,r1,q1⟩=> ?_) (by rw [hs,hs2]) (by rw [hs2]; rfl))); obtain ⟨l,m,n,rfl,⟨xs,qx⟩,⟨ys,qy⟩,⟨zs,qz⟩,k⟩:=q1; cases r1 with
 | cons r rr=>
  cases rr with
  | cons r2 rr2=>
   cases rr2 with
   | cons r3 rr3=>
    cases rr3; cases r; cases r2; cases r3; obtain ⟨its,rv,sx0,_⟩:=I1.list qx; obtain ⟨jts,rw',sy0,_⟩:=I1.list qy; obtain ⟨kts,rt,sz0,_⟩:=I1.list qz; have sx:=sx0.isList; have sy:=sy0.isList; have sz:=sz0.isList; refine call_z3 sx sy sz fun h' a1 a2 a3 a4 a5 a6 kp=>wpAny_pyIter_zip a1 ?_
    have I2:Inv X pins σ H1 {s1 with heap:=h'}:=I1.kept (t':=s1.toks) kp; have lx:l<s1.heap.objs.size:=SqAt.lt (tp:=false) sx; have ly:m<s1.heap.objs.size:=SqAt.lt (tp:=false) sy; have lz:n<s1.heap.objs.size:=SqAt.lt (tp:=false) sz
    have ap:ZA3 (s1.heap.objs.size+5) (s1.heap.objs.size+3) (s1.heap.objs.size+4) s1.heap.objs.size (s1.heap.objs.size+1) (s1.heap.objs.size+2) l m n:=by
     refine ⟨?_, ?_, ?_, ?_, ?_, ?_, ?_, ?_, ?_, ?_, ?_, ?_, ?_, ?_, ?_, ?_, ?_, ?_, ?_, ?_, ?_, ?_, ?_⟩
     all_goals first | (exact bH (by omega)) | (exact eQ (by omega)) | (exact bH lx) | (exact bH ly) | (exact bH lz) | (exact bH (aP lx (jN _ _))) | (exact bH (aP ly (jN _ _))) | (exact bH (aP lz (jN _ _)))
    refine ⟨s1.heap.objs.size+5,_,_,Itz3 X.K l m n,H1,rfl,I2,turn_zip3 l m n _ _ _ _ _ _ ap,⟨a1,a2,⟨_,_,_,a3⟩,a4,a5,a6⟩,fun b hb=> ?_,k⟩
    have hb2:s1.heap.objs.size≤b:=by
     simp only [aS,cU,or_false] at hb
     rcases hb with rfl | rfl | rfl | rfl | rfl | rfl<;>omega
    exact I1.fpOk hb2 (I1.hok.fresh hb2)
def zipT (ds es fs:List D):List D:=(bR ds.length).map fun (i:Nat)=>D.tup [ds.getD i .non,es.getD i .non,fs.getD i .non]
theorem wZ (ds es fs:List D):(zipT ds es fs).length=ds.length:=by simp [zipT]
theorem xA {ds es fs:List D} {i:Nat} {d:D} (l1:es.length=ds.length) (l2:fs.length=ds.length) (h:(zipT ds es fs)[i]? =some d):∃x y z,ds[i]? =some x∧es[i]? =some y∧fs[i]? =some z∧d= .tup [x,y,z]:=by
 unfold zipT at h; rw [cI] at h
 by_cases hi:i<ds.length
 ·rw [jP hi] at h; have h1:i<es.length:=by omega
  have h2:i<fs.length:=by omega
  refine ⟨ds[i],es[i],fs[i],by simp [hi],by simp [h1],by simp [h2], ?_⟩; rw [← cA.inj h]; simp [dD,hi,h1,h2]
 ·rw [dN (by simpa using hi)] at h; cases h
theorem pid_zip3 {elts:List Expr} {kk:Nat} {tp p:Pos} {es2 fs2:List D} (hg:Gl X "zip") (hm:X.mg "zip"=none) (ha:PEd X sd a (.val (.lst ds))) (hb:PEd X sd b (.val (.lst es2))) (hc:PEd X sd c (.val (.lst fs2))) (l1:es2.length=ds.length) (l2:fs2.length=ds.length) (hst:starEach [a,b,c] X.env=[(false,eval a X.env),(false,eval b X.env),(false,eval c X.env)]:=by rfl) (hst2:starEach [b,c] X.env=[(false,eval b X.env),(false,eval c X.env)]:=by rfl) (hst3:starEach [c] X.env=[(false,eval c X.env)]:=by rfl):
  PId X sd PT0 (.Tuple elts kk tp) (.Call (.Name "zip" p) [a,b,c] [] pos) (zipT ds es2 fs2):= .mk fun σ F H S=>
 (pi_zip3 hg hm wF hst hst2).to ((aH ha (aH hb (aH hc bF trivial (by rw [hst3]; rfl)) trivial (by rw [hst2,hst3])) trivial (by rw [hst,hst2]) σ F H S).imp fun vs H1 ⟨F1,S1,s1,q1⟩=>by
  cases q1 with
  | cons q1 q2=>
   cases q2 with
   | cons q2 q3=>
    cases q3 with
    | cons q3 q4=>
     cases q4; obtain ⟨l,xs,rfl,rx,sx⟩:=rD (tp:=false) (show Rep _ _ _ _ from q1); obtain ⟨m,ys,rfl,ry,sy⟩:=rD (tp:=false) (show Rep _ _ _ _ from q2); obtain ⟨n,zs,rfl,rz,sz⟩:=rD (tp:=false) (show Rep _ _ _ _ from q3); refine ⟨l,m,n,rfl,⟨xs,sx (Same.refl _) S1.sub⟩,⟨ys,sy (Same.refl _) S1.sub⟩,⟨zs,sz (Same.refl _) S1.sub⟩,F1,S1,s1,fun F' H' sF sH sm _ i=>⟨fun hi=> ?_,fun hi=> ?_,fun x H2 d hd y=> ?_⟩⟩
     ·rw [wZ] at hi; exact ⟨xs,ys,zs,xs[i]'(by rw [rx.len]; omega),ys[i]'(by rw [ry.len]; omega),zs[i]'(by rw [rz.len]; omega),sx sF sH,sy sF sH,sz sF sH,by simp,by simp,by simp⟩
     ·rw [wZ] at hi; refine ⟨xs,sx sF sH, ?_⟩; rw [rx.len]; omega
     ·obtain ⟨q,u,v,o,rfl,hq,rfl,hu,hv,ho⟩:=y; obtain ⟨du,dv,dw,e1,e2,e3,rfl⟩:=xA l1 l2 hd; have hu:=hu xs (sx sF sH); have hv:=hv ys (sy sF sH); have ho:=ho zs (sz sF sH); obtain ⟨u',h1,ru⟩:=rx.get e1; obtain ⟨v',h2,rv⟩:=ry.get e2; obtain ⟨o',h3,ro⟩:=rz.get e3; rw [hu] at h1; rw [hv] at h2; rw [ho] at h3; cases h1; cases h2; cases h3; have fq:F' q=none:=sH.free hq; have s2:Same F' (upd F' q (.tup [u,v,o])):=fun b o g=>by rw [bW (cP g fq)]; exact g
      refine ⟨upd F' q (.tup [u,v,o]),s2, ?_,fun H₀ σ sd S=>(S.lay (o:= .tup [u,v,o]) hq trivial).1⟩; simp only [Rep]
      exact ⟨q,_,rfl,cS, .cons ((ru.mono sF).mono s2) (.cons ((rv.mono sF).mono s2) (.one ((ro.mono sF).mono s2)))⟩)
end
abbrev Wsh:=List (Option (List (List Int)))
structure ChC (A c:List (List Int)):Prop where
 ne:c≠[]
 can:(A.filter fun f=>decide (f∈c))=c
structure WC (A:List (List Int)) (W:Wsh):Prop where
 len:W.length=A.length
 ok:∀o∈W,∀c,o=some c→ChC A c
theorem ChC.sub {A c:List (List Int)} (h:ChC A c):∀f∈c,f∈A:=fun f hf=>by rw [← h.can] at hf; exact (fV.mp hf).1
theorem ChC.le {A c:List (List Int)} (h:ChC A c):c.length≤A.length:=by rw [← h.can]; exact kS _ _
theorem ChC.nd {A c:List (List Int)} (h:ChC A c) (nd:A.Nodup):c.Nodup:=by rw [← h.can]; exact nd.filter _
theorem WC.at {A:List (List Int)} {W:Wsh} (h:WC A W) (t:Nat) {c:List (List Int)} (e:W.getD t none=some c):ChC A c:=by
 by_cases ht:t<W.length
 ·exact h.ok _ (getD_mem ht) c e
 ·rw [dD,dN (by omega)] at e; cases e
theorem WC.wn {A:List (List Int)} {W:Wsh} (nd:A.Nodup) (h:WC A W):WN A W:=⟨h.len,fun o ho c hc=>have k:=h.ok o ho c hc; ⟨k.ne,k.nd nd,k.sub⟩⟩
def bcQ (A:List (List Int)):Option (List (List Int))→Option (List (List Int))→Option (List (List Int))
 | none,b=>b
 | some c,none=>some c
 | some c,some d=>some (A.filter fun f=>decide (f∈c) && decide (f∈d))
theorem bc_comm (A:List (List Int)) (a b:Option (List (List Int))):bcQ A a b=bcQ A b a:=by
 cases a with
 | none=>cases b<;>rfl
 | some c=>
  cases b with
  | none=>rfl
  | some d=>show some _=some _; congr 1; exact nX fun f _=>Bool.and_comm _ _
theorem bc_some {A c d:List (List Int)} (h:ChC A c):(A.filter fun f=>decide (f∈c) && decide (f∈d))=c.filter fun f=>decide (f∈d):=by
 conv=>rhs; rw [← h.can]
 rw [List.filter_filter]; exact nX fun f _=>Bool.and_comm _ _
def bwQ (A:List (List Int)) (U V:Wsh):Wsh:=(bR A.length).map fun t=>bcQ A (U.getD t none) (V.getD t none)
theorem bw_comm (A:List (List Int)) (U V:Wsh):bwQ A U V=bwQ A V U:=fQ fun t _=>bc_comm A _ _
theorem bw_len (A:List (List Int)) (U V:Wsh):(bwQ A U V).length=A.length:=by unfold bwQ; rw [aD,cN]
theorem bw_at {A:List (List Int)} {U V:Wsh} {t:Nat} (ht:t<A.length):(bwQ A U V).getD t none=bcQ A (U.getD t none) (V.getD t none):=by unfold bwQ; simp [dD,ht]
def bwN (A:List (List Int)) (U V:Wsh) (t:Nat):Wsh:=(bR t).map fun t=>bcQ A (U.getD t none) (V.getD t none)
theorem bwN_succ (A:List (List Int)) (U V:Wsh) (t:Nat):bwN A U V (t+1)=bwN A U V t++[bcQ A (U.getD t none) (V.getD t none)]:=by unfold bwN; rw [mE,aR]; rfl
theorem bc_ok {A:List (List Int)} {a b:Option (List (List Int))} (nd:A.Nodup) (ha:∀c,a=some c→ChC A c) (hb:∀c,b=some c→ChC A c) (hn:bcQ A a b≠some []):∀c,bcQ A a b=some c→ChC A c:=fun c hc=>by
 cases a with
 | none=>exact hb c hc
 | some x=>
  cases b with
  | none=>exact ha c hc
  | some y=>have hc':(A.filter fun f=>decide (f∈x) && decide (f∈y))=c:=cA.inj hc; refine ⟨fun e=>hn (by rw [hc,e]), ?_⟩; rw [← hc']; exact sub_can List.filter_sublist nd
theorem bw_wc {A:List (List Int)} {U V:Wsh} (nd:A.Nodup) (hU:WC A U) (hV:WC A V) (hn:some []∉bwQ A U V):WC A (bwQ A U V):=by
 refine ⟨bw_len A U V,fun o ho c hc=> ?_⟩; have hne:o≠some []:=fun e=>hn (e▸ho)
 obtain ⟨t,ht,rfl⟩:=bB.mp ho; exact bc_ok nd (fun c e=>hU.at t e) (fun c e=>hV.at t e) hne c hc
theorem bw_sub {A:List (List Int)} {U V:Wsh} (hU:WC A U) (hV:WC A V):∀o∈bwQ A U V,∀c,o=some c→∀f∈c,f∈A:=fun o ho c hc f hf=>by
 obtain ⟨t,ht,rfl⟩:=bB.mp ho; cases hx:U.getD t none with
 | none=>rw [hx] at hc; exact (hV.at t (show V.getD t none=some c from hc)).sub f hf
 | some x=>
  rw [hx] at hc; cases hy:V.getD t none with
  | none=>rw [hy] at hc; have:x=c:=cA.inj hc; exact (hU.at t hx).sub f (this▸hf)
  | some y=>rw [hy] at hc; have hc':(A.filter fun f=>decide (f∈x) && decide (f∈y))=c:=cA.inj hc; rw [← hc'] at hf; exact (fV.mp hf).1
theorem up_can {p:Int × Int} (hp:p∈dZ) {c:List (List Int)} (hs:∀f∈c,f∈bC p) (hu:c.Pairwise fun a b=>mH p a<mH p b):((bC p).filter fun f=>decide (f∈c))=c:=by
 refine List.Perm.eq_of_pairwise (le:=fun x y=>mH p x<mH p y) (fun x y _ _ h1 h2=>by omega) ((rF hp).filter _) hu ?_; refine (jG ((rV hp).filter _) (hu.imp fun {a b} h e=>by rw [e] at h; omega)).mpr fun x=> ?_
 rw [fV]; exact ⟨fun h=>of_decide_eq_true h.2,fun h=>⟨hs x h,decide_eq_true h⟩⟩
theorem someN_up {p:Int × Int} (hp:p∈dZ) (n:Int):∀t,t≤(bC p).length→(nG n (bC p) t).Pairwise fun a b=>mH p a<mH p b
 | 0,_=>List.Pairwise.nil
 | t+1,h=>by
  have ih:=someN_up hp n t (by omega); have b:=(wJ n (rV hp) t (by omega)).2; unfold nG
  split
  ·refine dW.mpr ⟨ih,by simp,fun x hx y hy=> ?_⟩; have hy:y=(bC p).getD t []:=by simpa using hy
   obtain ⟨i,hi,q⟩:=b x hx; rw [hy,q,tU hp (by omega),tU hp (by omega)]; exact hi
  ·rw [dR]; exact ih
theorem f0_up {p:Int × Int} (hp:p∈dZ) (x:Int):(f0Q x (bC p)).Pairwise fun a b=>mH p a<mH p b:=by unfold f0Q; rw [dL]; refine List.Pairwise.imp_of_mem (fun {a b} ha hb h=> ?_) (pF (n:=f0N x (bC p))); have pa:=zY (qJ (p:=p)) (bS.mp ha); have pb:=zY (qJ (p:=p)) (bS.mp hb); rw [tU hp (by omega),tU hp (by omega)]; have s1:=(qH x).1; generalize mI x=s at *; have:=Int.mul_lt_mul_of_pos_right (show (a:Int)<(b:Int) by omega) (show 0<s by omega); omega
theorem wish_wc {p:Int × Int} (hp:p∈dZ) (c:Int):WC (bC p) (tX c (bC p)):=by
 have wn:=wish_wn hp c; refine ⟨wn.len,fun o ho L hL=>⟨(wn.ok o ho L hL).ne,up_can hp (wn.ok o ho L hL).sub ?_⟩⟩; obtain ⟨t,_,rfl⟩:=bB.mp ho; unfold elQ at hL
 split at hL
 ·cases hL
 ·cases hL; unfold f2Q
  split
  ·simp
  ·unfold f1Q
   split
   ·exact someN_up hp _ _ (aN _)
   ·exact f0_up hp _
def meE (A:List (List Int)) (x:Int):Option (List (List Int))→Option (List (List Int))→Option (List (List Int))
 | some c,some d=>if c.getD (x%(c.length:Int)).toNat []∈d then some d else some (A.filter fun f=>decide (f∈d++[c.getD (x%(c.length:Int)).toNat []]))
 | _,t=>t
def meN (A:List (List Int)) (U V:Wsh) (c:Int) (t:Nat):Wsh:=(bR t).map fun t=>meE A ((cO c A.length).getD t 0) (U.getD t none) (V.getD t none)
theorem meN_succ (A:List (List Int)) (U V:Wsh) (c:Int) (t:Nat):meN A U V c (t+1)=meN A U V c t++[meE A ((cO c A.length).getD t 0) (U.getD t none) (V.getD t none)]:=by unfold meN; rw [mE,aR]; rfl
theorem rN {c:List (List Int)} (h:c≠[]) (x:Int):c.getD (x%(c.length:Int)).toNat []∈c:=by
 have l0:(0:Int)<(c.length:Int):=by have:=iD.mpr h; omega
 have a1:=cH x (jO l0); have a2:=bZ x l0; exact getD_mem (by omega)
theorem me_ok {A:List (List Int)} (nd:A.Nodup) {x:Int} {a b:Option (List (List Int))} (ha:∀c,a=some c→ChC A c) (hb:∀c,b=some c→ChC A c):∀c,meE A x a b=some c→ChC A c:=fun c hc=>by
 cases a with
 | none=>exact hb c hc
 | some u=>
  cases b with
  | none=>cases hc
  | some v=>
   have hc:(if u.getD (x%(u.length:Int)).toNat []∈v then some v else some (A.filter fun f=>decide (f∈v++[u.getD (x%(u.length:Int)).toNat []])))=some c:=hc
   split at hc
   ·exact hb c hc
   ·have hc':=cA.inj hc; have k:=ha u rfl; refine ⟨fun e=> ?_,by rw [← hc']; exact sub_can List.filter_sublist nd⟩
    have:u.getD (x%(u.length:Int)).toNat []∈c:=by rw [← hc']; exact fV.mpr ⟨k.sub _ (rN k.ne x),decide_eq_true (by simp)⟩
    rw [e] at this; cases this
theorem me_wc {A:List (List Int)} (nd:A.Nodup) {U V:Wsh} (hU:WC A U) (hV:WC A V) (c:Int):WC A (meN A U V c A.length):=by refine ⟨by unfold meN; rw [aD,cN],fun o ho L hL=> ?_⟩; obtain ⟨t,_,rfl⟩:=bB.mp ho; exact me_ok nd (fun c e=>hU.at t e) (fun c e=>hV.at t e) L hL
theorem tF {w:Wsh} {A T:List (List Int)}:(jD w A T).isNone=true↔∀k,k<A.length→uC w T k=false:=by
 constructor
 ·intro h k hk; cases q:uC w T k with
  | false=>rfl
  | true=>
   have:∃j,(bR A.length).find? (uC w T)=some j:=by
    cases e:(bR A.length).find? (uC w T) with
    | some j=>exact ⟨j,rfl⟩
    | none=>have:=nJ.mp e k (bS.mpr hk); exact absurd q this
   obtain ⟨j,e⟩:=this; unfold jD tQ at h; rw [e] at h; cases h
 ·intro h; have:jD w A T=none:=vL h; rw [this]; rfl
theorem miss_bw {A T:List (List Int)} {U V:Wsh} (hT:∀k,k<A.length→T.getD k []∈A):(jD (bwQ A U V) A T).isNone=((jD U A T).isNone && (jD V A T).isNone):=by
 rw [gY,bN,tF,tF,tF]
 have key:∀k,k<A.length→(uC (bwQ A U V) T k=false↔uC U T k=false∧uC V T k=false):=fun k hk=>by
  unfold uC; rw [bw_at hk]; cases hx:U.getD k none with
  | none=>
   cases hy:V.getD k none with
   | none=>exact ⟨fun h=>⟨rfl,rfl⟩,fun h=>rfl⟩
   | some y=>exact ⟨fun h=>⟨rfl,h⟩,fun h=>h.2⟩
  | some x=>
   cases hy:V.getD k none with
   | none=>show ((!decide (T.getD k []∈x))=false↔(!decide (T.getD k []∈x))=false∧false=false); simp
   | some y=>show ((!decide (T.getD k []∈A.filter fun f=>decide (f∈x) && decide (f∈y)))=false↔(!decide (T.getD k []∈x))=false∧(!decide (T.getD k []∈y))=false); have:=hT k hk; simp only [Bool.not_eq_false',decide_eq_true_eq,fV,bN]; exact ⟨fun h=>h.2,fun h=>⟨this,h⟩⟩
 constructor
 ·intro h; exact ⟨fun k hk=>((key k hk).mp (h k hk)).1,fun k hk=>((key k hk).mp (h k hk)).2⟩
 ·intro h k hk; exact (key k hk).mpr ⟨h.1 k hk,h.2 k hk⟩
def tb32 (A:List (List Int)) (x:Int) (m:Option (List (List Int))):List Int:=match m with
 | none=>A.getD (x%(A.length:Int)).toNat []
 | some M=>if 0<x / 64%(2 * (A.length:Int)) then M.getD (x%(M.length:Int)).toNat [] else A.getD (x%(A.length:Int)).toNat []
def lO (A:List (List Int)) (W:Wsh) (c:Int) (t:Nat):List (List Int):=(bR t).map fun t=>tb32 A ((cO c A.length).getD t 0) (W.getD t none)
theorem tbN32_succ (A:List (List Int)) (W:Wsh) (c:Int) (t:Nat):lO A W c (t+1)=lO A W c t++[tb32 A ((cO c A.length).getD t 0) (W.getD t none)]:=by unfold lO; rw [mE,aR]; rfl
theorem tb32_in {A:List (List Int)} (h0:0<A.length) {W:Wsh} (hW:WC A W) (x:Int) (t:Nat):tb32 A x (W.getD t none)∈A:=by
 have hA:A≠[]:=iD.mp h0; unfold tb32; cases e:W.getD t none with
 | none=>exact rN hA x
 | some M=>
  dsimp only
  split
  ·exact (hW.at t e).sub _ (rN (hW.at t e).ne x)
  ·exact rN hA x
theorem tb32_ok {p:Int × Int} (hp:p∈dZ) {W:Wsh} (hW:WC (bC p) W) (c:Int):TabOk p (lO (bC p) W c (bC p).length)∧∀k,k<(bC p).length→(lO (bC p) W c (bC p).length).getD k []∈bC p:=by
 have ln:(lO (bC p) W c (bC p).length).length=(bC p).length:=by unfold lO; rw [aD,cN]
 have mem:∀ws∈lO (bC p) W c (bC p).length,ws∈bC p:=fun ws hw=>by obtain ⟨t,_,rfl⟩:=bB.mp hw; exact tb32_in qJ hW _ t
 exact ⟨⟨ln,fun ws hw=>mB hp (mem ws hw)⟩,fun k hk=>mem _ (getD_mem (by rw [ln]; exact hk))⟩
theorem first_bw {A:List (List Int)} {U V:Wsh} (h:some []∈bwQ A U V):∃n,n<A.length∧bcQ A (U.getD n none) (V.getD n none)=some []∧∀k,k<n→bcQ A (U.getD k none) (V.getD k none)≠some []:=by
 cases e:(bR A.length).find? (fun k=>decide (bcQ A (U.getD k none) (V.getD k none)=some [])) with
 | none=>obtain ⟨t,ht,q⟩:=bB.mp h; exact absurd (decide_eq_true q) (nJ.mp e t ht)
 | some n=>rw [List.find?_range_eq_some] at e; refine ⟨n,bS.mp e.2.1,of_decide_eq_true e.1,fun k hk q=> ?_⟩; have:=e.2.2 k hk; rw [decide_eq_true q] at this; cases this
def bwF (A:List (List Int)) (U V:Wsh):D→Option (List D)
 | .int i=>(bcQ A (U.getD i.toNat none) (V.getD i.toNat none)).map (qQ bG)
 | _=>none
def bwG (A:List (List Int)) (U V:Wsh):D→D
 | .int i=>wsD (bcQ A (U.getD i.toNat none) (V.getD i.toNat none))
 | _=> .non
def CBc:List D→R→Prop:=fun ds r=>∃p a b,p∈dZ∧(∀c,a=some c→ChC (bC p) c)∧(∀c,b=some c→ChC (bC p) c)∧bcQ (bC p) a b≠some []∧ds=[wsD a,wsD b]∧r=choR (bcQ (bC p) a b)
def XBc:List D→Prop:=fun ds=>∃p a b,p∈dZ∧(∀c,a=some c→ChC (bC p) c)∧(∀c,b=some c→ChC (bC p) c)∧bcQ (bC p) a b=some []∧ds=[wsD a,wsD b]
def CBws (K:aB):List D→R→Prop:=fun ds r=>∃p U V,p∈dZ∧WC (bC p) U∧WC (bC p) V∧some []∉bwQ (bC p) U V∧ds=[dM p, .lst (U.map wsD), .lst (V.map wsD)]∧r=ooR K (mkM (bwQ (bC p) U V)) (mkL (bwQ (bC p) U V))
def XBws:List D→Prop:=fun ds=>∃p U V,p∈dZ∧WC (bC p) U∧WC (bC p) V∧some []∈bwQ (bC p) U V∧ds=[dM p, .lst (U.map wsD), .lst (V.map wsD)]
def CMe32:List D→R→Prop:=fun ds r=>∃p U V c,p∈dZ∧WC (bC p) U∧WC (bC p) V∧ds=[.lst (U.map wsD), .lst (V.map wsD), .lst ((bC p).map bG), .int c]∧r= .own ((meN (bC p) U V c (bC p).length).map wsD)
def CDue32:List D→R→Prop:=fun ds r=>∃p U V,p∈dZ∧WC (bC p) U∧WC (bC p) V∧ds=[.lst (U.map wsD), .lst (V.map wsD)]∧r= .own ((bwQ (bC p) U V).map wsD)
def CTold32 (K:aB):List D→R→Prop:=fun ds r=>∃p U V,p∈dZ∧WC (bC p) U∧WC (bC p) V∧ds=[dM p, .lst (U.map wsD), .lst (V.map wsD)]∧((some []∉bwQ (bC p) U V∧r=wR K (mkM (bwQ (bC p) U V)) (mkL (bwQ (bC p) U V)))∨(some []∈bwQ (bC p) U V∧r= .own [.non, .int 1]))
def CRt32:List D→R→Prop:=fun ds r=>∃p U V,p∈dZ∧WC (bC p) U∧WC (bC p) V∧ds=[dM p, .lst (U.map wsD), .lst (V.map wsD), .lst ((bwQ (bC p) U V).map wsD)]∧r= .val (.bl true)
end DL
set_option maxHeartbeats 400000
namespace K32
open PySem PySem.Spec PyProof.Rows L2 DL
def top (i:Nat):Stmt:=PySem.Challenge.pw_leastrow_k32_both_wishes.main.body.getD i (.Pass ⟨0,0,0,0⟩)
abbrev xD:Stmt:=top 8
abbrev tY:Stmt:=top 9
abbrev sFill:Stmt:=top 10
abbrev zT:Stmt:=top 12
abbrev sDoes:Stmt:=top 13
abbrev sBc:Stmt:=top 14
abbrev sBws:Stmt:=top 15
abbrev sM:Stmt:=top 17
abbrev rR:Stmt:=top 18
abbrev rL:Stmt:=top 19
abbrev xQ:Stmt:=top 20
abbrev sTwo:Stmt:=top 21
abbrev tE:Stmt:=top 22
abbrev vF:Stmt:=top 23
abbrev wX:Stmt:=top 24
abbrev sSome:Stmt:=top 26
abbrev vZ:Stmt:=top 25
abbrev wP:Stmt:=top 27
abbrev sL:Stmt:=top 28
abbrev sMe:Stmt:=top 29
abbrev sDue:Stmt:=top 30
abbrev sTold:Stmt:=top 31
abbrev sRt:Stmt:=top 32
abbrev vD:Stmt:=top 33
section
variable {P:Program} {w:World} {K:aB} {mg:Str→Option Value} {base:Heap} {f:Addr} {fd:FuncData}
theorem noLs_map {α:Type} (g:α→D) (h:∀a,noL (g a)=true):∀l:List α,rG (l.map g)=true
 | []=>rfl
 | a::l=>by show (noL (g a) && rG (l.map g))=true; rw [h a,noLs_map g h l]; rfl
def CCount:List D→R→Prop:=fun ds r=>∃p:Int × Int,ds=[dM p]∧0≤p.1∧p.1≤60∧r= .val (.int (2^p.1.toNat))
theorem ok_count (F:Fun K "word_count" "word_count" xD f fd) (zrange:mg "range"=none) (hm:mg "word_count"=some (.ref f)):dC P w K mg base "word_count" 1 1 CCount:=by
 have nd:(["size","count","bit"]:List Str).Nodup:=by decide+kernel
 refine gL (N:=["size","count","bit"]) (ps:=["size"]) (k:=0) F ⟨rfl,rfl,rfl,nd,rfl,by decide+kernel,by decide+kernel⟩ hm (fun _ _ _ _ _ _ us hl=>match us,hl with | [_],_=>rfl) fun cdv A outer s H E hr ds r hl c=> ?_
 obtain ⟨p,rfl,h0,h1,rfl⟩:=c; have ep:p.1=((p.1.toNat:Nat):Int):=by omega
 refine bA (iQ 1 nd rfl (Or.inl rfl) bP ?_); refine bA (jA (ds:=gW 0 p.1.toNat) (fun k=>[.val (dM p), .val (.int (2^k)), .un]) (fun k=>[.val (dM p), .val (.int (2^k)), .val (.int (0+(k:Int)))]) (iJ (n:=p.1.toNat) rfl zrange (PEd.cast (xJ (n:=0) (d:= .int p.1) (aE 0 rfl (pv 0)) bP rfl fun _ _=>rfl) (by rw [← ep])) (by omega)) ⟨.inr rfl, .inr rfl, .inr rfl,trivial⟩ (fun i d hd=> ?_) (fun i d hd=> ?_) ?_)
 ·obtain ⟨_,rfl⟩:=gA hd; exact fU 2 (dJ (i:=2) nd rfl (Or.inl rfl))
 ·refine bI (iQ 1 nd rfl (Or.inl rfl) (dB jU (aE 1 rfl (pv 1)) bP (mul64 (by decide) (by decide))) ?_); exact ⟨.inr rfl, .inr rfl, .inl rfl,trivial⟩
 ·refine bI (fS (aE 1 rfl (pv 1)) trivial ?_); rw [fY]
def CEach:List D→R→Prop:=fun ds r=>∃ (L:List (List Int)) (m:Nat),ds=[.lst (L.map bG), .int (m:Int)]∧L.length * m≤900∧m≤64∧(∀s∈L,s.length≤100)∧r= .own ((L.flatMap fun s=>(bR m).map fun (w:Nat)=>s++[(w:Int)]).map bG)
theorem ok_each (F:Fun K "with_each_word" "with_each_word" tY f fd) (zrange:mg "range"=none) (hm:mg "with_each_word"=some (.ref f)):dC P w K mg base "with_each_word" 1 2 CEach:=by
 have nd:(["starts","count","longer","start"]:List Str).Nodup:=by decide+kernel
 refine gL (N:=["starts","count","longer","start"]) (ps:=["starts","count"]) (k:=0) F ⟨rfl,rfl,rfl,nd,rfl,by decide+kernel,by decide+kernel⟩ hm (fun _ _ _ _ _ _ us hl=>match us,hl with | [_,_],_=>rfl) fun cdv A outer s H E hr ds r hl c=> ?_
 obtain ⟨L,m,rfl,hL,hm64,hs,rfl⟩:=c; have nd2:(["word","start"]:List Str).Nodup:=by decide+kernel
 refine bA (eB 2 nd rfl (Or.inl rfl) (eU (ds:=[]) bF (bO _)) fun l=> ?_); refine bA (jA (ds:=L.map bG) (fun k=>[.val (.lst (L.map bG)), .val (.int (m:Int)), .own l (((L.take k).flatMap fun s=>(bR m).map fun (w:Nat)=>s++[(w:Int)]).map bG), .un]) (fun k=>[.val (.lst (L.map bG)), .val (.int (m:Int)), .own l (((L.take k).flatMap fun s=>(bR m).map fun (w:Nat)=>s++[(w:Int)]).map bG), .val (bG (L.getD k []))]) (nV (aE 0 rfl (pv 0))) ⟨.inr rfl, .inr rfl, .inr rfl, .inr rfl,trivial⟩ (fun k d hd=> ?_) (fun k d hd=> ?_) ?_)
 ·obtain ⟨_,rfl⟩:=jK hd; exact fU 3 (dJ (i:=3) nd rfl (Or.inr rfl))
 ·obtain ⟨hk,rfl⟩:=jK hd; have hmem:L.getD k []∈L:=getD_mem hk
  have et:L.take (k+1)=L.take k++[L.getD k []]:=by rw [gG]; simp [dD,hk]
  have lk:(L.take k).length * m+m≤900:=by
   have h1:(L.take k).length+1≤L.length:=by rw [eN]; omega
   have h2:=Nat.mul_le_mul_right m h1; rw [Nat.succ_mul] at h2; omega
  have comp:∀ {pos:Pos},PEd (pA CX0 P w K mg base ["starts","count","longer","start"] "with_each_word" (bJ tY) f cdv A outer s H E).nox [.val (.lst (L.map bG)), .val (.int (m:Int)), .own l (((L.take k).flatMap fun s=>(bR m).map fun (w:Nat)=>s++[(w:Int)]).map bG), .val (bG (L.getD k []))] (match (dG tY).getD 1 (.Pass ⟨0,0,0,0⟩) with | .For _ _ [.Expr (.Call _ [c] _ _) _] _ _=>c | _=> .Constant .none 0 ⟨0,0,0,0⟩) (.own (((gW 0 m).filter fun _=>true).map fun d=>D.tup ((L.getD k []).map D.int++[d]))):=fun {pos}=>by
   refine uZ (N:=["word","start"]) (M:=["starts","count","longer","start"]) (cap:=[none,some 3]) (sc:=bJ tY) (Tb:=fun d=>[.val d, .val (bG (L.getD k []))]) (fun _=>true) (fun d=>D.tup ((L.getD k []).map D.int++[d])) (iJ (n:=m) rfl zrange (aE 1 rfl (pv 1)) (by omega)) (by rw [fY]; omega) rfl (by decide+kernel) rfl (by decide+kernel) rfl (fun cl C fp s H d _=>fU 0 (dJ (i:=0) nd2 rfl (Or.inl rfl))) (fun d _=>⟨.inl rfl, .inr rfl,trivial⟩) (fun cl C fp s H d _=> .inl ⟨rfl,rfl⟩) fun cl C fp s H d _ _=> ?_
   refine pd_catT (aE 1 rfl (pv 1)) (xI (ds:=[d]) (aH (aE 0 rfl (pv 0)) bF) (aU rfl)) ?_; have:=hs _ hmem; simp only [aD,dS,mG]; omega
  have ec:((gW 0 m).filter fun _=>true).map (fun d=>D.tup ((L.getD k []).map D.int++[d]))=((bR m).map fun (w:Nat)=>L.getD k []++[(w:Int)]).map bG:=by
   rw [mR.mpr (fun _ _=>rfl)]; unfold gW; rw [bX,bX]; refine fQ fun w _=> ?_
   simp [bG]
  refine bI (wL 2 rfl (pv 2) (PEd.val (comp (pos:=⟨0,0,0,0⟩))) ?_ ?_)
  ·rw [aD,pH,ec,aD,aD,cN]; omega
  ·refine ⟨.inr rfl, .inr rfl, .inr ?_, .inl rfl,trivial⟩; rw [et,ec,List.flatMap_append,aR]; simp
 ·refine bI (iW 2 rfl (pv 2) ?_); show R.own _=R.own _; rw [aD,lE]
def CFill:List D→R→Prop:=fun ds r=>∃p,p∈dZ∧ds=[dM p]∧r= .own ((iM (2^p.1.toNat) p.2.toNat).map bG)
theorem ok_fill (F:Fun K "fillings" "fillings" sFill f fd) (zrange:mg "range"=none) (hm:mg "fillings"=some (.ref f)) (GC:dC P w K mg base "word_count" 1 1 CCount) (GE:dC P w K mg base "with_each_word" 1 2 CEach):dC P w K mg base "fillings" 2 1 CFill:=by
 have nd:(["size","count","told","box"]:List Str).Nodup:=by decide+kernel
 refine gL (N:=["size","count","told","box"]) (ps:=["size"]) (k:=1) F ⟨rfl,rfl,rfl,nd,rfl,by decide+kernel,by decide+kernel⟩ hm (fun _ _ _ _ _ _ us hl=>match us,hl with | [_],_=>rfl) fun cdv A outer s H E hr ds r hl c=> ?_
 obtain ⟨p,hp,rfl,rfl⟩:=c; obtain ⟨h1,h2,h3,h4,h5⟩:=sz14 p hp; have e2:p.2=((p.2.toNat:Nat):Int):=by omega
 have m64:2^p.1.toNat≤64:=by
  have:p.1.toNat≤6:=by omega
  exact dO (qZ (by decide) this) (by decide)
 have ec:(2:Int)^p.1.toNat=((2^p.1.toNat:Nat):Int):=by push_cast; rfl
 refine bA (iQ 1 nd rfl (Or.inl rfl) (dI (ds:=[dM p]) GC hr rfl (aH (aE 0 rfl (pv 0)) bF) ⟨p,rfl,by omega,by omega,rfl⟩ trivial rfl) ?_); refine bA (eB (ds:=[bG []]) 2 nd rfl (Or.inl rfl) (eU (ds:=[bG []]) (aH (xI (ds:=[]) bF (bO _)) bF) (aU rfl)) fun l=> ?_); refine bA (rX (ds:=gW 0 p.2.toNat) (fun k sd=>∃l,sd=[.val (dM p), .val (.int (2^p.1.toNat)), .own l ((iM (2^p.1.toNat) k).map bG), .un]) (iJ (n:=p.2.toNat) rfl zrange (PEd.cast (xJ (n:=1) (d:= .int p.2) (aE 0 rfl (pv 0)) bP rfl fun _ _=>rfl) (by rw [← e2])) (by omega)) ⟨_,Le.refl _,l,rfl⟩ (fun k d sdk hd hk=> ?_) fun sdn hn=> ?_)
 ·obtain ⟨hk2,rfl⟩:=gA hd; obtain ⟨l2,rfl⟩:=hk; refine ⟨[.val (dM p), .val (.int (2^p.1.toNat)), .own l2 ((iM (2^p.1.toNat) k).map bG), .val (.int (0+(k:Int)))],fU 3 (dJ (i:=3) nd rfl (Or.inl rfl)), ?_⟩; refine iE 2 rfl ?_; refine bI (eB 2 nd rfl (Or.inl rfl) (dI (ds:=[.lst ((iM (2^p.1.toNat) k).map bG), .int ((2^p.1.toNat:Nat):Int)]) GE hr rfl (aH (aE 2 rfl (pv 2)) (aH (PEd.cast (aE 1 rfl (pv 1)) (by rw [ec])) bF)) ⟨iM (2^p.1.toNat) k,2^p.1.toNat,rfl, ?_,m64,fun s hs=> ?_,rfl⟩ trivial rfl) fun l3=> ?_)
  ·rw [rS]; exact zK p hp k hk2
  ·rw [vS _ _ s hs]; omega
  ·exact ⟨[.val (dM p), .val (.int (2^p.1.toNat)), .own l3 ((iM (2^p.1.toNat) (k+1)).map bG), .un],⟨.inr rfl, .inr rfl, .inr rfl, .inl rfl,trivial⟩,l3,rfl⟩
 ·rw [fY] at hn; obtain ⟨l2,rfl⟩:=hn; exact bI (iW 2 rfl (pv 2) rfl)
theorem ok_misses (F:Fun K "misses_at" "misses_at" zT f fd) (zenumerate:mg "enumerate"=none) (hm:mg "misses_at"=some (.ref f)) (GF:dC P w K mg base "fillings" 2 1 CFill):dC P w K mg base "misses_at" 3 3 CMiss:=by
 have nd:(["size","wish","table","number","filling"]:List Str).Nodup:=by decide+kernel
 refine gL (N:=["size","wish","table","number","filling"]) (ps:=["size","wish","table"]) (k:=2) F ⟨rfl,rfl,rfl,nd,rfl,by decide+kernel,by decide+kernel⟩ hm (fun _ _ _ _ _ _ us hl=>match us,hl with | [_,_,_],_=>rfl) fun cdv A outer s H E hr ds r hl c=> ?_
 obtain ⟨p,w,T,hp,W,OT,rfl,rfl⟩:=c; have hu:(A.deeper (envOfC "misses_at" (bJ zT) s.heap.objs.size f cdv)).units+4<cLine:=by have:=hr.un; omega
 refine bA (rX (ds:=vP ((bC p).map bG)) (fun k sd=>(∀j,j<k→uC w T j=false)∧sd=[.val (dM p), .val (.lst (w.map wsD)), .val (.tup (T.map bG)), .un, .un]) (pid_enum rfl zenumerate (PEd.val (dI (ds:=[dM p]) GF hr rfl (aH (aE 0 rfl (pv 0)) bF) ⟨p,hp,rfl,rfl⟩ trivial rfl))) ⟨_,Le.refl _,fun j hj=>by omega,rfl⟩ (fun k d sdk hd hk=> ?_) fun sdn hn=> ?_)
 ·obtain ⟨x,hx,rfl⟩:=zS hd; obtain ⟨hk2,rfl⟩:=jK hx; obtain ⟨hn,rfl⟩:=hk; have kT:k<T.length:=by rw [OT.len]; exact hk2
  have kW:k<w.length:=by rw [W.len]; exact hk2
  refine ⟨[.val (dM p), .val (.lst (w.map wsD)), .val (.tup (T.map bG)), .val (.int (k:Int)), .val (bG ((bC p).getD k []))],qG (js:=[3,4]) rfl (fG (dJ (i:=3) nd rfl (Or.inl rfl)) (fG (dJ (i:=4) nd rfl (Or.inl rfl)) lR)) rfl rfl, ?_⟩; refine bI (iN (k:=uC w T k) ?_ (fun h=> ?_) fun h=>eF ?_)
  ·have ka:=oS kW; unfold uC; cases hq:w.getD k none with
   | none=>rw [hq] at ka; exact PWd.pt (iP (k:=false) (j:=false) (iV (d:= .non) (gX (n:=k) (d:= .non) (PEd.bor (aE 1 rfl (pv 1))) (aE 3 rfl (pv 3)) ka fun _ _=>rfl) eA) fun h=>by cases h)
   | some L=>rw [hq] at ka; exact PWd.pt (iP (k:=true) (j:= !decide (T.getD k []∈L)) (iV (d:= .lst (L.map bG)) (gX (n:=k) (d:= .lst (L.map bG)) (PEd.bor (aE 1 rfl (pv 1))) (aE 3 rfl (pv 3)) ka fun _ _=>rfl) eA) fun _=>nT (PTd.cast (ptd_ninD (d:=bG (T.getD k [])) (ds:=L.map bG) (xJ (n:=k) (aE 2 rfl (pv 2)) (aE 3 rfl (pv 3)) (oJ kT) fun _ _=>rfl) (gX (n:=k) (d:= .lst (L.map bG)) (PEd.bor (aE 1 rfl (pv 1))) (aE 3 rfl (pv 3)) ka fun _ _=>rfl) (qK _) (mL L) (by have:=kB L; show (A.deeper _).units+1+_<cLine; omega)) (by rw [vU])))
  ·refine bI (fS (aE 4 rfl (pv 4)) trivial ?_); show R.val _=R.val (optD (jD w (bC p) T)); rw [show jD w (bC p) T=some ((bC p).getD k []) from first_some hk2 h hn]; rfl
  ·refine ⟨[.val (dM p), .val (.lst (w.map wsD)), .val (.tup (T.map bG)), .un, .un],⟨.inr rfl, .inr rfl, .inr rfl, .inl rfl, .inl rfl,trivial⟩,fun j hj=> ?_,rfl⟩
   by_cases q:j<k
   ·exact hn j q
   ·have:j=k:=by omega
    subst this; exact h
 ·obtain ⟨hn,rfl⟩:=hn; rw [tM,aD] at hn; refine bI (fS eA trivial ?_); show R.val _=R.val (optD (jD w (bC p) T)); rw [show jD w (bC p) T=none from vL hn]; rfl
theorem ok_does (F:Fun K "does_wish" "does_wish" sDoes f fd) (hm:mg "does_wish"=some (.ref f)) (GM:dC P w K mg base "misses_at" 3 3 CMiss):dC P w K mg base "does_wish" 4 3 CDoes:=by
 have nd:(["size","wish","table"]:List Str).Nodup:=by decide+kernel
 refine gL (N:=["size","wish","table"]) (ps:=["size","wish","table"]) (k:=3) F ⟨rfl,rfl,rfl,nd,rfl,by decide+kernel,by decide+kernel⟩ hm (fun _ _ _ _ _ _ us hl=>match us,hl with | [_,_,_],_=>rfl) fun cdv A outer s H E hr ds r hl c=> ?_
 obtain ⟨p,w,T,hp,W,OT,rfl,rfl⟩:=c; exact bI (fS (PEd.cast (pd_isN (dI (ds:=[dM p, .lst (w.map wsD), .tup (T.map bG)]) GM hr rfl (aH (aE 0 rfl (pv 0)) (aH (aE 1 rfl (pv 1)) (aH (aE 2 rfl (pv 2)) bF))) ⟨p,w,T,hp,W,OT,rfl,rfl⟩ trivial rfl) eA) (by rw [isN_opt])) trivial rfl)
theorem ok_bc32 {CN:Addr} (F:Fun K "both_choices" "both_choices" sBc f fd) (zlist:mg "list"=none) (zlen:mg "len"=none) (zsorted:mg "sorted"=none) (zset:mg "set"=none) (xk:Xk34 K mg CN) (hm:mg "both_choices"=some (.ref f)):dC P w K mg base "both_choices" 1 2 CBc∧oM P w K mg base "both_choices" 1 2 XBc (.ref CN) [] []:=by
 have nd:(["one","other","both"]:List Str).Nodup:=by decide+kernel
 constructor
 ·refine gL (N:=["one","other","both"]) (ps:=["one","other"]) (k:=0) F ⟨rfl,rfl,rfl,nd,rfl,by decide+kernel,by decide+kernel⟩ hm (fun _ _ _ _ _ _ us hl=>match us,hl with | [_,_],_=>rfl) fun cdv A outer s H E hr ds r hl c=> ?_
  obtain ⟨p,a,b,hp,ha,hb,hn,rfl,rfl⟩:=c; have hu:(A.deeper (envOfC "both_choices" (bJ sBc) s.heap.objs.size f cdv)).units+12<cLine:=by have:=hr.un; omega
  cases a with
  | none=>
   cases b with
   | none=>exact bA (oF (k:=true) (PWd.pt (iP (k:=true) (j:=true) (gF (d:= .non) (aE 0 rfl (pv 0)) eA) fun _=>nT (gF (d:= .non) (aE 1 rfl (pv 1)) eA))) rfl (bI (fS eA trivial rfl)))
   | some d=>refine bA (fR (k:=false) (PWd.pt (iP (k:=true) (j:=false) (gF (d:= .non) (aE 0 rfl (pv 0)) eA) fun _=>nT (gF (d:= .lst (d.map bG)) (aE 1 rfl (pv 1)) eA))) rfl (eF ?_)); exact bA (oF (k:=true) (gF (d:= .non) (aE 0 rfl (pv 0)) eA) rfl (bI (fS (r:= .own (d.map bG)) (wB rfl zlist (PEd.bor (aE 1 (d:= .lst (d.map bG)) rfl (pv 1)))) trivial rfl)))
  | some c=>
   refine bA (fR (k:=false) (PWd.pt (iP (k:=false) (j:=false) (gF (d:= .lst (c.map bG)) (aE 0 rfl (pv 0)) eA) fun h=>by cases h)) rfl (eF ?_)); refine bA (fR (k:=false) (gF (d:= .lst (c.map bG)) (aE 0 rfl (pv 0)) eA) rfl (eF ?_)); cases b with
   | none=>exact bA (oF (k:=true) (gF (d:= .non) (aE 1 rfl (pv 1)) eA) rfl (bI (fS (r:= .own (c.map bG)) (wB rfl zlist (PEd.bor (aE 0 (d:= .lst (c.map bG)) rfl (pv 0)))) trivial rfl)))
   | some d=>
    refine bA (fR (k:=false) (gF (d:= .lst (d.map bG)) (aE 1 rfl (pv 1)) eA) rfl (eF ?_)); have kc:=ha c rfl; have kd:=hb d rfl; have hn:((bC p).filter fun f=>decide (f∈c) && decide (f∈d))≠[]:=fun e=>hn (by show some _=some _; rw [e])
    refine bA (eB (ds:=((bC p).filter fun f=>decide (f∈c) && decide (f∈d)).map bG) 2 nd rfl (Or.inl rfl) ?_ fun l=> ?_)
    ·refine xG (rk:=mH p) (xs:=c) (ys:=d) hu rfl zsorted rfl zset (aE 0 (d:= .lst (c.map bG)) rfl (pv 0)) (aE 1 (d:= .lst (d.map bG)) rfl (pv 1)) (fun x hx e=> ?_) (by have:=kc.le; have:(bC p).length≤64:=kO hp; omega) (by have:=kd.le; have:(bC p).length≤64:=kO hp; omega) (fun x hx y hy=>sz14_lt p hp x (kc.sub x hx) y (kc.sub y hy)) (fun x hx y hy e=>vQ hp (kc.sub x hx) (kc.sub y hy) e) (fun x=> ?_) ((rF hp).filter _)
     ·obtain ⟨h1,h2,h3,h4,h5⟩:=sz14 p hp; have:=(mB hp (kc.sub x hx)).len; rw [e] at this; simp at this; omega
     ·rw [fV,bN]; exact ⟨fun h=>⟨of_decide_eq_true h.2.1,of_decide_eq_true h.2.2⟩,fun h=>⟨kc.sub x h.1,decide_eq_true h.1,decide_eq_true h.2⟩⟩
    ·refine bA (fR (k:=false) (PTd.cast (rY (gB rfl zlen (vA 2 rfl (pv 2))) bP) ?_) rfl (eF (bI (iW 2 rfl (pv 2) rfl)))); rw [aD]; exact decide_eq_false fun e=>hn (List.length_eq_zero_iff.mp (by omega))
 ·refine def_okX (N:=["one","other","both"]) (ps:=["one","other"]) (k:=0) F ⟨rfl,rfl,rfl,nd,rfl,by decide+kernel,by decide+kernel⟩ hm (fun _ _ _ _ _ _ us hl=>match us,hl with | [_,_],_=>rfl) fun cdv A outer s H E hr hE ds hl c=> ?_
  obtain ⟨p,a,b,hp,ha,hb,hn,rfl⟩:=c; have hu:(A.deeper (envOfC "both_choices" (bJ sBc) s.heap.objs.size f cdv)).units+12<cLine:=by have:=hr.un; omega
  cases a with
  | none=>have:b=some []:=hn; exact absurd rfl (hb [] this).ne
  | some c=>
   cases b with
   | none=>exact absurd (cA.inj hn) (ha c rfl).ne
   | some d=>
    refine bA (fR (k:=false) (PWd.pt (iP (k:=false) (j:=false) (gF (d:= .lst (c.map bG)) (aE 0 rfl (pv 0)) eA) fun h=>by cases h)) rfl (eF ?_)); refine bA (fR (k:=false) (gF (d:= .lst (c.map bG)) (aE 0 rfl (pv 0)) eA) rfl (eF ?_)); refine bA (fR (k:=false) (gF (d:= .lst (d.map bG)) (aE 1 rfl (pv 1)) eA) rfl (eF ?_)); have kc:=ha c rfl; have kd:=hb d rfl; have hn:((bC p).filter fun f=>decide (f∈c) && decide (f∈d))=[]:=cA.inj hn; refine bA (eB (ds:=((bC p).filter fun f=>decide (f∈c) && decide (f∈d)).map bG) 2 nd rfl (Or.inl rfl) ?_ fun l=> ?_)
    ·refine xG (rk:=mH p) (xs:=c) (ys:=d) hu rfl zsorted rfl zset (aE 0 (d:= .lst (c.map bG)) rfl (pv 0)) (aE 1 (d:= .lst (d.map bG)) rfl (pv 1)) (fun x hx e=> ?_) (by have:=kc.le; have:(bC p).length≤64:=kO hp; omega) (by have:=kd.le; have:(bC p).length≤64:=kO hp; omega) (fun x hx y hy=>sz14_lt p hp x (kc.sub x hx) y (kc.sub y hy)) (fun x hx y hy e=>vQ hp (kc.sub x hx) (kc.sub y hy) e) (fun x=> ?_) ((rF hp).filter _)
     ·obtain ⟨h1,h2,h3,h4,h5⟩:=sz14 p hp; have:=(mB hp (kc.sub x hx)).len; rw [e] at this; simp at this; omega
     ·rw [fV,bN]; exact ⟨fun h=>⟨of_decide_eq_true h.2.1,of_decide_eq_true h.2.2⟩,fun h=>⟨kc.sub x h.1,decide_eq_true h.1,decide_eq_true h.2⟩⟩
    ·refine bA (oF (k:=true) (PTd.cast (rY (gB rfl zlen (vA 2 rfl (pv 2))) bP) (by rw [hn]; rfl)) rfl (bI (psd_raise (ds:=[.str _]) rfl xk.nw.1 xk.ex (takes_defN hE) (aH pd_str bF) (aU rfl))))
theorem ok_bws32 {CN:Addr} (F:Fun K "both_wishes" "both_wishes" sBws f fd) (zrange:mg "range"=none) (zlen:mg "len"=none) (hm:mg "both_wishes"=some (.ref f)) (GF:dC P w K mg base "fillings" 2 1 CFill) (GB:dC P w K mg base "both_choices" 1 2 CBc∧oM P w K mg base "both_choices" 1 2 XBc (.ref CN) [] []):dC P w K mg base "both_wishes" 3 3 (CBws K)∧oM P w K mg base "both_wishes" 3 3 XBws (.ref CN) [] []:=by
 have nd:(["size","one","other"]:List Str).Nodup:=by decide+kernel
 have nd2:(["number","one","other"]:List Str).Nodup:=by decide+kernel
 constructor
 ·refine gL (N:=["size","one","other"]) (ps:=["size","one","other"]) (k:=2) F ⟨rfl,rfl,rfl,nd,rfl,by decide+kernel,by decide+kernel⟩ hm (fun _ _ _ _ _ _ us hl=>match us,hl with | [_,_,_],_=>rfl) fun cdv A outer s H E hr ds r hl c=> ?_
  obtain ⟨p,U,V,hp,hU,hV,hn,rfl,rfl⟩:=c; have hr1:=hr.mono (show 1≤2 by decide); have f9:(bC p).length≤64:=kO hp
  have nf:∀d es,bwF (bC p) U V d=some es→rG es=true:=fun d es he=>by
   cases d with
   | int i=>obtain ⟨M,_,rfl⟩:=iF.mp he; exact noLs_map bG (fun ws=>noLs_int ws) M
   | _=>cases he
  have ec:((gW 0 (bC p).length).filter fun _=>true).map (bwF (bC p) U V)=(bwQ (bC p) U V).map (mS (qQ bG)):=by
   rw [mR.mpr (fun _ _=>rfl)]; unfold bwQ gW; rw [bX,bX]; refine fQ fun t _=> ?_
   show (bcQ (bC p) (U.getD (0+(t:Int)).toNat none) (V.getD (0+(t:Int)).toNat none)).map _=_; rw [kN,eE]; rfl
  refine bI (fS (PEd.cast (pd_compO (ds:=gW 0 (bC p).length) (N:=["number","one","other"]) (M:=["size","one","other"]) (cap:=[none,some 1,some 2]) (sc:=bJ sBws) (Tb:=fun d=>[.val d, .val (.lst (U.map wsD)), .val (.lst (V.map wsD))]) (fun _=>true) (bwF (bC p) U V) nf (iJ (n:=(bC p).length) rfl zrange (PEd.ic (gB rfl zlen (PEd.bor (PEd.val (dI (ds:=[dM p]) GF hr rfl (aH (aE 0 rfl (pv 0)) bF) ⟨p,hp,rfl,rfl⟩ trivial rfl)))) (by rw [aD]; rfl)) (by omega)) (by rw [fY]; omega) rfl (by decide+kernel) rfl (by decide+kernel) rfl (fun cl C fp s H d _=>fU 0 (dJ (i:=0) nd2 rfl (Or.inl rfl))) (fun d _=>⟨.inl rfl, .inr rfl, .inr rfl,trivial⟩) (fun cl C fp s H d hd=> .inl ⟨rfl,rfl⟩) fun cl C2 fp s H d hd _=> ?_) (by rw [ec,opt_mkM,opt_mkL]; rfl)) trivial rfl); obtain ⟨t,ht⟩:=List.getElem?_of_mem hd; obtain ⟨ht2,e0⟩:=gA ht; rw [kN] at e0; subst e0; show PEd _ _ _ (match (bcQ (bC p) (U.getD ((t:Int)).toNat none) (V.getD ((t:Int)).toNat none)).map (qQ bG) with | none=> .val .non | some es=> .own es); rw [eE]; have hne:bcQ (bC p) (U.getD t none) (V.getD t none)≠some []:=fun e=>hn (bB.mpr ⟨t,bS.mpr ht2,e⟩)
  cases e:bcQ (bC p) (U.getD t none) (V.getD t none) with
  | none=>exact dI (ds:=[wsD (U.getD t none),wsD (V.getD t none)]) (r:= .val .non) GB.1 hr1 rfl (aH (gX (n:=t) (PEd.bor (aE 1 rfl (pv 1))) (aE 0 rfl (pv 0)) (oS (by rw [hU.len]; exact ht2)) fun _ _=>rfl) (aH (gX (n:=t) (PEd.bor (aE 2 rfl (pv 2))) (aE 0 rfl (pv 0)) (oS (by rw [hV.len]; exact ht2)) fun _ _=>rfl) bF)) ⟨p,_,_,hp,fun c e=>hU.at t e,fun c e=>hV.at t e,hne,rfl,by rw [e]; rfl⟩ trivial rfl
  | some c=>exact dI (ds:=[wsD (U.getD t none),wsD (V.getD t none)]) (r:= .own (c.map bG)) GB.1 hr1 rfl (aH (gX (n:=t) (PEd.bor (aE 1 rfl (pv 1))) (aE 0 rfl (pv 0)) (oS (by rw [hU.len]; exact ht2)) fun _ _=>rfl) (aH (gX (n:=t) (PEd.bor (aE 2 rfl (pv 2))) (aE 0 rfl (pv 0)) (oS (by rw [hV.len]; exact ht2)) fun _ _=>rfl) bF)) ⟨p,_,_,hp,fun c e=>hU.at t e,fun c e=>hV.at t e,hne,rfl,by rw [e]; rfl⟩ trivial rfl
 ·refine def_okX (N:=["size","one","other"]) (ps:=["size","one","other"]) (k:=2) F ⟨rfl,rfl,rfl,nd,rfl,by decide+kernel,by decide+kernel⟩ hm (fun _ _ _ _ _ _ us hl=>match us,hl with | [_,_,_],_=>rfl) fun cdv A outer s H E hr hE ds hl c=> ?_
  obtain ⟨p,U,V,hp,hU,hV,hn,rfl⟩:=c; have hr1:=hr.mono (show 1≤2 by decide); have f9:(bC p).length≤64:=kO hp; obtain ⟨n,hn2,q1,q2⟩:∃n,n<(bC p).length∧bcQ (bC p) (U.getD n none) (V.getD n none)=some []∧∀k,k<n→bcQ (bC p) (U.getD k none) (V.getD k none)≠some []:=first_bw hn; refine bI (psd_retE (px_comp (cls:= .ref CN) (ds:=gW 0 (bC p).length) (N:=["number","one","other"]) (M:=["size","one","other"]) (cap:=[none,some 1,some 2]) (sc:=bJ sBws) (Tb:=fun d=>[.val d, .val (.lst (U.map wsD)), .val (.lst (V.map wsD))]) (bwG (bC p) U V) n (by rw [fY]; exact hn2) (iJ (n:=(bC p).length) rfl zrange (PEd.ic (gB rfl zlen (PEd.bor (PEd.val (dI (ds:=[dM p]) GF hr rfl (aH (aE 0 rfl (pv 0)) bF) ⟨p,hp,rfl,rfl⟩ trivial rfl)))) (by rw [aD]; rfl)) (by omega)) (by rw [fY]; omega) rfl (by decide+kernel) rfl (by decide+kernel) rfl (fun cl C fp s H ξ d hd=>fU 0 (dJ (i:=0) nd2 rfl (Or.inl rfl))) (fun d hd=>⟨.inl rfl, .inr rfl, .inr rfl,trivial⟩) (fun cl C fp s H ξ k d hd hk=> ?_) (fun cl C fp s H ξ Old d hd hth htk=> ?_) (takes_defA hE)))
  ·obtain ⟨hk2,e0⟩:=gA hd; rw [kN] at e0; subst e0; show PEd _ _ _ (.val (wsD (bcQ (bC p) (U.getD ((k:Int)).toNat none) (V.getD ((k:Int)).toNat none)))); rw [eE]; have hne:=q2 k hk; cases e:bcQ (bC p) (U.getD k none) (V.getD k none) with
   | none=>exact dI (ds:=[wsD (U.getD k none),wsD (V.getD k none)]) (r:= .val .non) GB.1 hr1 rfl (aH (gX (n:=k) (PEd.bor (aE 1 rfl (pv 1))) (aE 0 rfl (pv 0)) (oS (by rw [hU.len]; exact hk2)) fun _ _=>rfl) (aH (gX (n:=k) (PEd.bor (aE 2 rfl (pv 2))) (aE 0 rfl (pv 0)) (oS (by rw [hV.len]; exact hk2)) fun _ _=>rfl) bF)) ⟨p,_,_,hp,fun c e=>hU.at k e,fun c e=>hV.at k e,hne,rfl,by rw [e]; rfl⟩ trivial rfl
   | some c=>exact PEd.val (dI (ds:=[wsD (U.getD k none),wsD (V.getD k none)]) (r:= .own (c.map bG)) GB.1 hr1 rfl (aH (gX (n:=k) (PEd.bor (aE 1 rfl (pv 1))) (aE 0 rfl (pv 0)) (oS (by rw [hU.len]; exact hk2)) fun _ _=>rfl) (aH (gX (n:=k) (PEd.bor (aE 2 rfl (pv 2))) (aE 0 rfl (pv 0)) (oS (by rw [hV.len]; exact hk2)) fun _ _=>rfl) bF)) ⟨p,_,_,hp,fun c e=>hU.at k e,fun c e=>hV.at k e,hne,rfl,by rw [e]; rfl⟩ trivial rfl)
  ·obtain ⟨hk2,e0⟩:=gA hd; rw [kN] at e0; subst e0; exact px_callO (ds:=[wsD (U.getD n none),wsD (V.getD n none)]) (dds:=[]) GB.2 hth hr1 rfl (aH (gX (n:=n) (PEd.bor (aE 1 rfl (pv 1))) (aE 0 rfl (pv 0)) (oS (by rw [hU.len]; exact hk2)) fun _ _=>rfl) (aH (gX (n:=n) (PEd.bor (aE 2 rfl (pv 2))) (aE 0 rfl (pv 0)) (oS (by rw [hV.len]; exact hk2)) fun _ _=>rfl) bF)) (fun _=>RepL.nil) ⟨p,_,_,hp,fun c e=>hU.at n e,fun c e=>hV.at n e,q1,rfl⟩ rfl htk
theorem ok_cellat (F:Fun K "_law_cell_at" "_law_cell_at" sM f fd) (zlen:mg "len"=none) (hm:mg "_law_cell_at"=some (.ref f)):dC P w K mg base "_law_cell_at" 1 2 CCell:=by
 have nd:(["_law_script","_law_k"]:List Str).Nodup:=by decide+kernel
 refine gL (N:=["_law_script","_law_k"]) (ps:=["_law_script","_law_k"]) (k:=0) F ⟨rfl,rfl,rfl,nd,rfl,by decide+kernel,by decide+kernel⟩ hm (fun _ _ _ _ _ _ us hl=>match us,hl with | [_,_],_=>rfl) fun cdv A outer s H E hr ds r hl c=> ?_
 obtain ⟨ns,k,rfl,hk,rfl⟩:=c; refine bA (iN (ptd_cI op_lt (aE 1 rfl (pv 1)) (pd_lenS rfl zlen (aE 0 rfl (pv 0))) (lI _)) (fun h=> ?_) fun h=>eF ?_)
 ·have h':k<ns.length:=by simpa using h
  exact bI (fS (pd_ixS (z:=ns.getD k 0) (aE 0 rfl (pv 0)) (aE 1 rfl (pv 1)) (by simp [h']) fun _ _=>rfl) trivial rfl)
 ·have h':¬ k<ns.length:=by simpa using h
  refine bI (fS bP trivial ?_); show R.val (.int 0)=R.val (.int (ns.getD k 0)); simp [dD,h']
def CWhole:List D→R→Prop:=fun ds r=>∃d,ds=[d]∧(Unit→∃i,d= .int i)∧r= .val (.bl true)
theorem ok_lwhole (F:Fun K "_law_whole" "_law_whole" rR f fd) (zisinstance:mg "isinstance"=none) (zint:mg "int"=none) (zbool:mg "bool"=none) (hm:mg "_law_whole"=some (.ref f)):dC P w K mg base "_law_whole" 1 1 CWhole:=by
 have nd:(["_law_found"]:List Str).Nodup:=by decide+kernel
 refine gL (N:=["_law_found"]) (ps:=["_law_found"]) (k:=0) F ⟨rfl,rfl,rfl,nd,rfl,by decide+kernel,by decide+kernel⟩ hm (fun _ _ _ _ _ _ us hl=>match us,hl with | [_],_=>rfl) fun cdv A outer s H E hr ds r hl c=> ?_
 obtain ⟨d,rfl,hd,rfl⟩:=c; obtain ⟨i,rfl⟩:=hd (); exact bI (fS (PEd.cast (pd_and (rU rfl zisinstance rfl zint PyProof.Rows.boot_int (aE 0 rfl (pv 0)) (fun _=>by simp) (kit_int _ (.int i))) fun _=>pd_one (pd_not (rU rfl zisinstance rfl zbool PyProof.Rows.boot_bool (aE 0 rfl (pv 0)) (fun _=>by simp) (kit_bool _ (.int i))))) rfl) trivial rfl)
theorem ok_stream (F:Fun K "_law_stream" "_law_stream" rL f fd) (zrange:mg "range"=none) (hm:mg "_law_stream"=some (.ref f)):dC P w K mg base "_law_stream" 1 2 uL:=by
 have nd:(["_law_cell","_law_many","_law_found","_law_k","_law_number"]:List Str).Nodup:=by decide+kernel
 refine gL (N:=["_law_cell","_law_many","_law_found","_law_k","_law_number"]) (ps:=["_law_cell","_law_many"]) (k:=0) F ⟨rfl,rfl,rfl,nd,rfl,by decide+kernel,by decide+kernel⟩ hm (fun _ _ _ _ _ _ us hl=>match us,hl with | [_,_],_=>rfl) fun cdv A outer s H E hr ds r hl c=> ?_
 obtain ⟨c,m,rfl,hm2,rfl⟩:=c; refine bA (eB 2 nd rfl (Or.inl rfl) (eU (ds:=[]) bF (bO _)) fun l=> ?_); refine bA (iN (rY (dB fP (aE 0 rfl (pv 0)) bP (by decide)) bP) (fun h=> ?_) fun h=>eF ?_)
 ·have h':c%2=1:=by simpa using h
  refine bA (iQ 0 nd rfl (Or.inl rfl) (dB gQ (aE 0 rfl (pv 0)) bP ⟨by decide,by decide⟩) ?_); refine bA (jA (ds:=gW 0 m) (fun t=>[.val (.int (divL (c / 2) (eD t 2147483647))), .val (.int (m:Int)), .own l ((yL (c / 2) (eD t 2147483647)).map D.int), .un, .un]) (fun t=>[.val (.int (divL (c / 2) (eD t 2147483647))), .val (.int (m:Int)), .own l ((yL (c / 2) (eD t 2147483647)).map D.int), .val (.int (0+(t:Int))), .un]) (iJ (n:=m) rfl zrange (aE 1 rfl (pv 1)) (by omega)) ⟨.inr rfl, .inr rfl, .inr rfl, .inr rfl, .inr rfl,trivial⟩ (fun t d hd=> ?_) (fun t d hd=> ?_) ?_)
  ·obtain ⟨_,rfl⟩:=gA hd; exact fU 3 (dJ (i:=3) nd rfl (Or.inl rfl))
  ·obtain ⟨ht,rfl⟩:=gA hd; have et:eD (t+1) (2147483647:Int)=eD t 2147483647++[2147483647]:=List.replicate_succ'; refine bA (eG 2 rfl (pv 2) (dB fP (aE 0 rfl (pv 0)) bP (by decide)) ?_ ?_)
   ·rw [aD,wH,qL]; omega
   ·refine bI (iQ 0 nd rfl (Or.inl rfl) (dB gQ (aE 0 rfl (pv 0)) bP ⟨by decide,by decide+kernel⟩) ?_); refine ⟨.inr ?_, .inr rfl, .inr ?_, .inl rfl, .inr rfl,trivial⟩
    ·rw [et,zV]
    ·rw [et,zR,aR]; rfl
  ·refine bI (iW 2 rfl (pv 2) ?_); show R.own _=R.own _; rw [fY]; unfold cO; rw [if_pos h']
 have h':¬ c%2=1:=by simpa using h
 have x0:0≤c / 2%2147483647+48271∧c / 2%2147483647+48271<2147600000:=by have a1:=cH (c / 2) (show (2147483647:Int)≠0 by decide); have a2:=bZ (c / 2) (show (0:Int)<2147483647 by decide); omega
 refine bA (iQ 4 nd rfl (Or.inl rfl) (pN mM (dB fP (dB gQ (aE 0 rfl (pv 0)) bP ⟨by decide,by decide⟩) bP (by decide)) bP) ?_); have es:cO c m=(rQ (c / 2%2147483647+48271) (m+1)).drop 1:=by unfold cO; rw [if_neg h']
 rw [es]; generalize c / 2%2147483647+48271=x at x0; have big:∀z:Int,0≤z∧z<2147600000→z.natAbs<2^250:=fun z hz=>cE (by omega:z.natAbs≤2147600000) (by decide)
 refine bA (jA (ds:=gW 0 (m+1)) (fun t=>[.val (.int c), .val (.int (m:Int)), .own l ((rQ x t).map D.int), .un, .val (.int (oE x t))]) (fun t=>[.val (.int c), .val (.int (m:Int)), .own l ((rQ x t).map D.int), .val (.int (0+(t:Int))), .val (.int (oE x t))]) (iJ (n:=m+1) rfl zrange (PEd.ic (pN mM (aE 1 rfl (pv 1)) bP) (by omega)) (by omega)) ⟨.inr rfl, .inr rfl, .inr rfl, .inr rfl, .inr rfl,trivial⟩ (fun t d hd=> ?_) (fun t d hd=> ?_) ?_)
 ·obtain ⟨_,rfl⟩:=gA hd; exact fU 3 (dJ (i:=3) nd rfl (Or.inl rfl))
 ·obtain ⟨ht,rfl⟩:=gA hd; have r0:=strN_rng x x0 t; have r1:=strN_rng x x0 (t+1); refine bA (iQ (d:= .int (oE x (t+1))) 4 nd rfl (Or.inl rfl) (PEd.ic (dB fP (pN mM (pN mM (dB jU (aE 4 rfl (pv 4)) (aE 4 rfl (pv 4)) (iK (big _ r0) (big _ r0))) (dB jU bP (aE 4 rfl (pv 4)) (iK (by decide) (big _ r0)))) (aE 3 rfl (pv 3))) bP (by decide)) (by show _=(_+_+(t:Int))%_; rw [kN])) ?_); refine bI (eG (d:= .int ((oE x (t+1) * 40692+7 * (t:Int))%2147483399)) 2 rfl (pv 2) (PEd.ic (dB fP (pN mM (dB jU (aE 4 rfl (pv 4)) bP (iK (big _ r1) (by decide))) (dB jU bP (aE 3 rfl (pv 3)) (iK (by decide) (cE (by omega:_≤1000) (by decide))))) bP (by decide)) (by rw [kN])) ?_ ?_)
  ·unfold rQ; rw [aD,aD,cN]; omega
  ·refine ⟨.inr rfl, .inr rfl, .inr ?_, .inl rfl, .inr rfl,trivial⟩; rw [strE_snoc,aR]; rfl
 ·rw [fY]
  have e:DL.cutD ((rQ x (m+1)).map D.int) (some 1) none=((rQ x (m+1)).drop 1).map D.int:=by
   have l1:((rQ x (m+1)).map D.int).length=m+1:=by simp [rQ]
   unfold DL.cutD; rw [show HT.sIx ((rQ x (m+1)).map D.int).length 0 (some 1)=1 from by rw [l1]; exact (HT.sIx_nat (m+1) 0 1).trans (by omega),HT.sIx_none,lK,fO (by rw [lB]; omega)]
  exact bI (fS (PEd.cast (tI (ol:=some 1) (oh:=none) (vA 2 rfl (pv 2)) bP trivial) (by rw [e])) trivial rfl)
theorem ok_sizeB (F:Fun K "_law_size" "_law_size" xQ f fd) (hm:mg "_law_size"=some (.ref f)):dC P w K mg base "_law_size" 1 1 CSizeB:=by
 have nd:(["_law_cell","_law_some_here"]:List Str).Nodup:=by decide+kernel
 refine gL (N:=["_law_cell","_law_some_here"]) (ps:=["_law_cell"]) (k:=0) F ⟨rfl,rfl,rfl,nd,rfl,by decide+kernel,by decide+kernel⟩ hm (fun _ _ _ _ _ _ us hl=>match us,hl with | [_],_=>rfl) fun cdv A outer s H E hr ds r hl c=> ?_
 obtain ⟨z,rfl,rfl⟩:=c; refine bA (eB (ds:=[dM (2,2),dM (1,2),dM (2,1),dM (1,3),dM (3,1),dM (1,4),dM (4,1)]) 1 nd rfl (Or.inl rfl) (eU (ds:=[dM (2,2),dM (1,2),dM (2,1),dM (1,3),dM (3,1),dM (1,4),dM (4,1)]) ?_ (aU rfl)) fun l=> ?_)
 ·repeat' (first | exact bF | refine aH (pd_two rfl rfl) ?_)
 have h0:=cH z (show (14:Int)≠0 by decide); have h1:=bZ z (show (0:Int)<14 by decide); refine bI (fS (hJ (i:=z%14) (d:=dM (wK z)) (ds:=sizesB.map dM) (PEd.bor (PEd.val (uV (d1:=[dM (2,2),dM (1,2),dM (2,1),dM (1,3),dM (3,1),dM (1,4),dM (4,1)]) (d2:=[dM (1,1),dM (2,3),dM (3,2),dM (1,5),dM (5,1),dM (1,6),dM (6,1)]) (vA 1 rfl (pv 1)) (eU (ds:=[dM (1,1),dM (2,3),dM (3,2),dM (1,5),dM (5,1),dM (1,6),dM (6,1)]) ?_ (aU rfl)).val.bor (aU rfl)))) (dB fP (aE 0 rfl (pv 0)) bP (by decide)) h0 ?_ fun _ _=>rfl) trivial rfl)
 ·repeat' (first | exact bF | refine aH (pd_two rfl rfl) ?_)
 ·rw [cI]; unfold wK
  have hlt:(z%14).toNat<sizesB.length:=by show _<14; omega
  simp [dD,hlt]
theorem ok_two (F:Fun K "_law_two" "_law_two" sTwo f fd) (hm:mg "_law_two"=some (.ref f)):dC P w K mg base "_law_two" 1 1 CTwo:=by
 have nd:(["_law_k"]:List Str).Nodup:=by decide+kernel
 refine gL (N:=["_law_k"]) (ps:=["_law_k"]) (k:=0) F ⟨rfl,rfl,rfl,nd,rfl,by decide+kernel,by decide+kernel⟩ hm (fun _ _ _ _ _ _ us hl=>match us,hl with | [_],_=>rfl) fun cdv A outer s H E hr ds r hl c=> ?_
 obtain ⟨k,rfl,h0,h6,rfl⟩:=c; refine bI (fS (hJ (i:=k) (d:= .int ((2^k.toNat:Nat):Int)) (PEd.bor (PEd.val (eU (ds:=[.int 1, .int 2, .int 4, .int 8, .int 16, .int 32, .int 64]) ?_ (aU rfl)))) (aE 0 rfl (pv 0)) h0 (pow_tab _ (by omega)) fun _ _=>rfl) trivial rfl)
 repeat' (first | exact bF | refine aH bP ?_)
def CLFill:List D→R→Prop:=fun ds r=>∃p,p∈dZ∧ds=[dM p]∧r= .own ((iM (2^p.1.toNat) p.2.toNat).map bG)
theorem ok_lfillB (F:Fun K "_law_fillings" "_law_fillings" tE f fd) (zrange:mg "range"=none) (hm:mg "_law_fillings"=some (.ref f)) (GT:dC P w K mg base "_law_two" 1 1 CTwo):dC P w K mg base "_law_fillings" 2 1 CLFill:=by
 have nd:(["_law_size_here","_law_found","_law_box","_law_longer","_law_filling_here"]:List Str).Nodup:=by decide+kernel
 refine gL (N:=["_law_size_here","_law_found","_law_box","_law_longer","_law_filling_here"]) (ps:=["_law_size_here"]) (k:=1) F ⟨rfl,rfl,rfl,nd,rfl,by decide+kernel,by decide+kernel⟩ hm (fun _ _ _ _ _ _ us hl=>match us,hl with | [_],_=>rfl) fun cdv A outer s H E hr ds r hl c=> ?_
 obtain ⟨p,hp,rfl,rfl⟩:=c; obtain ⟨h1,h2,h3,h4,h5⟩:=sz14 p hp; have e2:p.2=((p.2.toNat:Nat):Int):=by omega
 have nd2:(["_law_word","_law_filling_here"]:List Str).Nodup:=by decide+kernel
 have m64:2^p.1.toNat≤64:=by
  have:p.1.toNat≤6:=by omega
  exact dO (qZ (by decide) this) (by decide)
 refine bA (eB (ds:=[bG []]) 1 nd rfl (Or.inl rfl) (eU (ds:=[bG []]) (aH (xI (ds:=[]) bF (bO _)) bF) (aU rfl)) fun l=> ?_); refine bA (rX (ds:=gW 0 p.2.toNat) (fun k sd=>∃l,sd=[.val (dM p), .own l ((iM (2^p.1.toNat) k).map bG), .un, .un, .un]) (iJ (n:=p.2.toNat) rfl zrange (PEd.cast (xJ (n:=1) (d:= .int p.2) (aE 0 rfl (pv 0)) bP rfl fun _ _=>rfl) (by rw [← e2])) (by omega)) ⟨_,Le.refl _,l,rfl⟩ (fun k d sdk hd hk=> ?_) fun sdn hn=> ?_)
 ·obtain ⟨hk2,rfl⟩:=gA hd; obtain ⟨l2,rfl⟩:=hk
  have hsm:(iM (2^p.1.toNat) k).length * 2^p.1.toNat≤900:=by rw [rS]; exact zK p hp k hk2
  have lens:=vS (2^p.1.toNat) k; have eL:iM (2^p.1.toNat) (k+1)=(iM (2^p.1.toNat) k).flatMap fun s=>(bR (2^p.1.toNat)).map fun (w:Nat)=>s++[(w:Int)]:=rfl
  rw [eL]; generalize iM (2^p.1.toNat) k=L at *; refine ⟨_,fU 2 (dJ (i:=2) nd rfl (Or.inl rfl)),iE 1 rfl ?_⟩; refine bA (eB 3 nd rfl (Or.inl rfl) (eU (ds:=[]) bF (bO _)) fun l3=> ?_); refine bA (jA (ds:=L.map bG) (fun t=>[.val (dM p), .val (.lst (L.map bG)), .un, .own l3 (((L.take t).flatMap fun s=>(bR (2^p.1.toNat)).map fun (w:Nat)=>s++[(w:Int)]).map bG), .un]) (fun t=>[.val (dM p), .val (.lst (L.map bG)), .un, .own l3 (((L.take t).flatMap fun s=>(bR (2^p.1.toNat)).map fun (w:Nat)=>s++[(w:Int)]).map bG), .val (bG (L.getD t []))]) (nV (aE 1 rfl (pv 1))) ⟨.inr rfl, .inr rfl, .inl rfl, .inr rfl, .inr rfl,trivial⟩ (fun t d hd=> ?_) (fun t d hd=> ?_) ?_)
  ·obtain ⟨_,rfl⟩:=jK hd; exact fU 4 (dJ (i:=4) nd rfl (Or.inr rfl))
  ·obtain ⟨ht,rfl⟩:=jK hd; have hmem:L.getD t []∈L:=DL.getD_mem ht
   have et:L.take (t+1)=L.take t++[L.getD t []]:=by rw [gG]; simp [dD,ht]
   have lk:(L.take t).length * 2^p.1.toNat+2^p.1.toNat≤900:=by
    have h1:(L.take t).length+1≤L.length:=by rw [eN]; omega
    have h2:=Nat.mul_le_mul_right (2^p.1.toNat) h1; rw [Nat.succ_mul] at h2; omega
   have ec:((gW 0 (2^p.1.toNat)).filter fun _=>true).map (fun d=>D.tup ((L.getD t []).map D.int++[d]))=((bR (2^p.1.toNat)).map fun (w:Nat)=>L.getD t []++[(w:Int)]).map bG:=by
    rw [mR.mpr (fun _ _=>rfl)]; unfold gW; rw [bX,bX]; refine fQ fun w _=> ?_
    simp [bG]
   have lt:=lens _ hmem; refine bI (wL (ds2:=((bR (2^p.1.toNat)).map fun (w:Nat)=>L.getD t []++[(w:Int)]).map bG) 3 rfl (pv 3) (PEd.val (PEd.cast (uZ (N:=["_law_word","_law_filling_here"]) (M:=["_law_size_here","_law_found","_law_box","_law_longer","_law_filling_here"]) (cap:=[none,some 4]) (sc:=bJ tE) (Tb:=fun d=>[.val d, .val (bG (L.getD t []))]) (fun _=>true) (fun d=>D.tup ((L.getD t []).map D.int++[d])) (iJ (n:=2^p.1.toNat) rfl zrange (PEd.cast (dI (ds:=[.int p.1]) (r:= .val (.int ((2^p.1.toNat:Nat):Int))) GT hr rfl (aH (xJ (n:=0) (aE 0 rfl (pv 0)) bP rfl fun _ _=>rfl) bF) ⟨p.1,rfl,by omega,by omega,rfl⟩ trivial rfl) rfl) (by omega)) (by rw [fY]; omega) rfl (by decide+kernel) rfl (by decide+kernel) rfl (fun cl C fp s H d _=>fU 0 (dJ (i:=0) nd2 rfl (Or.inl rfl))) (fun d _=>⟨.inl rfl, .inr rfl,trivial⟩) (fun cl C fp s H d _=> .inl ⟨rfl,rfl⟩) fun cl C fp s H d _ _=>pd_catT (aE 1 rfl (pv 1)) (xI (ds:=[d]) (aH (aE 0 rfl (pv 0)) bF) (aU rfl)) ?_) (by rw [ec]))) ?_ ?_)
   ·simp only [aD,dS,mG]; omega
   ·rw [aD,pH,aD,aD,cN]; omega
   ·refine ⟨.inr rfl, .inr rfl, .inr rfl, .inr ?_, .inl rfl,trivial⟩; rw [et,List.flatMap_append,aR]; simp
  ·rw [aD,lE]; refine bI (psd_move 1 3 rfl nd rfl (Or.inl rfl) (pv 3) ?_); exact ⟨_,Le.refl _,l3,rfl⟩
 ·obtain ⟨l2,rfl⟩:=hn; refine bI (iW 1 rfl (pv 1) ?_); show R.own _=R.own _; rw [fY]
theorem ok_small (F:Fun K "_law_small" "_law_small" vF f fd) (hm:mg "_law_small"=some (.ref f)) (GZ:dC P w K mg base "_law_size" 1 1 CSizeB):dC P w K mg base "_law_small" 2 1 CSmall:=by
 have nd:(["_law_cell"]:List Str).Nodup:=by decide+kernel
 refine gL (N:=["_law_cell"]) (ps:=["_law_cell"]) (k:=1) F ⟨rfl,rfl,rfl,nd,rfl,by decide+kernel,by decide+kernel⟩ hm (fun _ _ _ _ _ _ us hl=>match us,hl with | [_],_=>rfl) fun cdv A outer s H E hr ds r hl c=> ?_
 obtain ⟨c,rfl,rfl⟩:=c; have a1:=cH c (show (4:Int)≠0 by decide); have a2:=bZ c (show (0:Int)<4 by decide); refine bI (fS (dI (ds:=[.int (sX c)]) GZ hr rfl (aH (hJ (i:=c%4) (d:= .int (sX c)) (PEd.bor (PEd.val (eU (ds:=[.int (c / 4%7), .int (c / 4%8), .int (c / 4%10), .int (c / 4%14)]) ?_ (aU rfl)))) (dB fP (aE 0 rfl (pv 0)) bP (by decide)) a1 (ints_at' (V:=[c / 4%7,c / 4%8,c / 4%10,c / 4%14]) (k:=(c%4).toNat) (by show _<4; omega)) fun _ _=>rfl) bF) ⟨_,rfl,rfl⟩ trivial rfl) trivial rfl); exact aH (dB fP (dB gQ (aE 0 rfl (pv 0)) bP ⟨by decide,by decide⟩) bP (by decide)) (aH (dB fP (dB gQ (aE 0 rfl (pv 0)) bP ⟨by decide,by decide⟩) bP (by decide)) (aH (dB fP (dB gQ (aE 0 rfl (pv 0)) bP ⟨by decide,by decide⟩) bP (by decide)) (aH (dB fP (dB gQ (aE 0 rfl (pv 0)) bP ⟨by decide,by decide⟩) bP (by decide)) bF)))
theorem ok_fillingB (F:Fun K "_law_filling" "_law_filling" wX f fd) (zisinstance:mg "isinstance"=none) (ztuple:mg "tuple"=none) (hm:mg "_law_filling"=some (.ref f)) (GW:dC P w K mg base "_law_whole" 1 1 CWhole):dC P w K mg base "_law_filling" 2 2 CFilB:=by
 have nd:(["_law_found","_law_due_here"]:List Str).Nodup:=by decide+kernel
 refine gL (N:=["_law_found","_law_due_here"]) (ps:=["_law_found","_law_due_here"]) (k:=1) F ⟨rfl,rfl,rfl,nd,rfl,by decide+kernel,by decide+kernel⟩ hm (fun _ _ _ _ _ _ us hl=>match us,hl with | [_,_],_=>rfl) fun cdv A outer s H E hr ds r hl c=> ?_
 obtain ⟨ws,vs,rfl,hl2,rfl⟩:=c; have nd2:(["_law_word"]:List Str).Nodup:=by decide+kernel
 have hu:(A.deeper (envOfC "_law_filling" (bJ wX) s.heap.objs.size f cdv)).units+4<cLine:=by have:=hr.un; omega
 refine bA (iN (k:= !decide (ws=vs)) (PWd.pt (PWd.cast (qY (k:=false) (nF (k:=true) (kP (PEd.cast (rU rfl zisinstance rfl ztuple PyProof.Rows.boot_tuple (aE 0 rfl (pv 0)) (fun _=>by simp [bG]) (kit_tuple _ _)) rfl))) fun _=>qC (ptd_neD (ra:= .val (bG ws)) (rb:= .val (bG vs)) (aE 0 rfl (pv 0)) (aE 1 rfl (pv 1)) trivial trivial (.inl ⟨rfl,rfl⟩) (qK _) (qK _) (u_of' hu (by show dep (bG ws)+1≤4; rw [dep_tupI]; decide)))) (by show (false || !deq (bG ws) (bG vs))=_; rw [deq_tupI,Bool.false_or]))) (fun h=> ?_) fun h=>eF ?_)
 ·have h':¬ ws=vs:=by simpa using h
  refine bI (fS pd_bl trivial ?_); rw [decide_eq_false h']
 ·have h':ws=vs:=by simpa using h
  have ef:((ws.map D.int).filter fun d=> !isI d).map (fun d=>d)=[]:=by
   have g:∀ws:List Int,(ws.map D.int).filter (fun d=> !isI d)=[]:=fun ws=>by
    induction ws with
    | nil=>rfl
    | cons w ws ih=>exact ih
   rw [g]; rfl
  refine bI (fS (PEd.cast (pd_eqD (ra:= .val (.lst [])) (rb:= .val (.lst [])) (PEd.val (PEd.cast (uZ (ds:=ws.map D.int) (N:=["_law_word"]) (M:=["_law_found","_law_due_here"]) (cap:=[none]) (sc:=bJ wX) (Tb:=fun d=>[.val d]) (fun d=> !isI d) (fun d=>d) (pid_tup (aE 0 rfl (pv 0))) (by rw [aD]; omega) rfl (by decide+kernel) rfl (by decide+kernel) rfl (fun cl C fp s H d _=>fU 0 (dJ (i:=0) nd2 rfl (Or.inl rfl))) (fun d _=>⟨.inl rfl,trivial⟩) (fun cl C fp s H d hd=> .inr ⟨_,rfl,nF (kP (dI (ds:=[d]) (r:= .val (.bl (isI d))) GW hr rfl (aH (aE 0 rfl (pv 0)) bF) ⟨d,rfl, ?_, ?_⟩ trivial rfl))⟩) fun cl C fp s H d _ _=>(aE 0 rfl (pv 0))) (by rw [ef]))) (PEd.val (eU (ds:=[]) bF (aU rfl))) trivial trivial (.inr ⟨rfl,rfl⟩) rfl rfl (u_of' hu (by decide))) ?_) trivial rfl)
  ·obtain ⟨w,_,rfl⟩:=bB.mp hd; exact fun _=>⟨w,rfl⟩
  ·obtain ⟨w,_,rfl⟩:=bB.mp hd; rfl
  ·rw [decide_eq_true h']; rfl
theorem ok_some (F:Fun K "_law_some" "_law_some" sSome f fd) (hm:mg "_law_some"=some (.ref f)):dC P w K mg base "_law_some" 1 2 CSome:=by
 have nd:(["_law_number","_law_some_here","_law_found","_law_filling_here"]:List Str).Nodup:=by decide+kernel
 refine gL (N:=["_law_number","_law_some_here","_law_found","_law_filling_here"]) (ps:=["_law_number","_law_some_here"]) (k:=0) F ⟨rfl,rfl,rfl,nd,rfl,by decide+kernel,by decide+kernel⟩ hm (fun _ _ _ _ _ _ us hl=>match us,hl with | [_,_],_=>rfl) fun cdv A outer s H E hr ds r hl c=> ?_
 obtain ⟨n,B,hB,rfl,rfl⟩:=c; refine bA (eB (ds:=[]) 2 nd rfl (Or.inl rfl) (eU (ds:=[]) bF (bO _)) fun l=> ?_); refine bA (jA (ds:=B.map bG) (fun t=>[.val (.int (zP n t)), .val (.lst (B.map bG)), .own l ((nG n B t).map bG), .un]) (fun t=>[.val (.int (zP n t)), .val (.lst (B.map bG)), .own l ((nG n B t).map bG), .val (bG (B.getD t []))]) (nV (aE 1 rfl (pv 1))) ⟨.inr rfl, .inr rfl, .inr rfl, .inr rfl,trivial⟩ (fun t d hd=> ?_) (fun t d hd=> ?_) ?_)
 ·obtain ⟨_,rfl⟩:=jK hd; exact fU 3 (dJ (i:=3) nd rfl (Or.inl rfl))
 ·obtain ⟨ht,rfl⟩:=jK hd; have sl:=(vE n B t (by omega)).1; refine bA (iN (rY (dB fP (aE 0 rfl (pv 0)) bP (by decide)) bP) (fun h=>bI (eG 2 rfl (pv 2) (aE 3 rfl (pv 3)) (by rw [aD]; omega) ?_)) fun h=>eF ?_)
  ·refine bI (iQ 0 nd rfl (Or.inl rfl) (dB gQ (aE 0 rfl (pv 0)) bP ⟨by decide,by decide⟩) ?_); refine ⟨.inr rfl, .inr rfl, .inr ?_, .inl rfl,trivial⟩; show _=Slot.own l ((nG n B t++if decide (zP n t%2=1) then [B.getD t []] else []).map bG); rw [if_pos h,aR]; rfl
  ·refine bI (iQ 0 nd rfl (Or.inl rfl) (dB gQ (aE 0 rfl (pv 0)) bP ⟨by decide,by decide⟩) ?_); refine ⟨.inr rfl, .inr rfl, .inr ?_, .inl rfl,trivial⟩; show _=Slot.own l ((nG n B t++if decide (zP n t%2=1) then [B.getD t []] else []).map bG); rw [if_neg (by rw [h]; decide),dR]
 ·rw [aD]; exact bI (iW 2 rfl (pv 2) rfl)
theorem ok_wish (F:Fun K "_law_wish" "_law_wish" vZ f fd) (zlen:mg "len"=none) (zrange:mg "range"=none) (zint:mg "int"=none) (hm:mg "_law_wish"=some (.ref f)) (GX:dC P w K mg base "_law_stream" 1 2 uL) (GS:dC P w K mg base "_law_some" 1 2 CSome):dC P w K mg base "_law_wish" 2 2 CWish:=by
 have nd:(["_law_cell","_law_some_here","_law_wish_here","_law_xs","_law_at","_law_x","_law_y","_law_z","_law_found"]:List Str).Nodup:=by decide+kernel
 refine gL (N:=["_law_cell","_law_some_here","_law_wish_here","_law_xs","_law_at","_law_x","_law_y","_law_z","_law_found"]) (ps:=["_law_cell","_law_some_here"]) (k:=1) F ⟨rfl,rfl,rfl,nd,rfl,by decide+kernel,by decide+kernel⟩ hm (fun _ _ _ _ _ _ us hl=>match us,hl with | [_,_],_=>rfl) fun cdv A outer s H E hr ds r hl c=> ?_
 obtain ⟨c,B,hB,hB2,rfl,rfl⟩:=c; have hu:(A.deeper (envOfC "_law_wish" (bJ vZ) s.heap.objs.size f cdv)).units+4<cLine:=by have:=hr.un; omega
 have l0:(0:Int)<(B.length:Int):=by omega
 have nd2:(["_law_k","_law_some_here"]:List Str).Nodup:=by decide+kernel
 refine bA (eB (ds:=[]) 2 nd rfl (Or.inl rfl) (eU (ds:=[]) bF (bO _)) fun l=> ?_); refine bA (eB (ds:=(cO c (3 * B.length)).map D.int) 3 nd rfl (Or.inl rfl) (dI (ds:=[.int c, .int ((3 * B.length:Nat):Int)]) GX hr rfl (aH (aE 0 rfl (pv 0)) (aH (PEd.ic (dB jU bP (PEd.ic (gB rfl zlen (PEd.bor (aE 1 rfl (pv 1)))) (show _=(B.length:Int) by rw [aD])) (iK (by decide) (cE (by omega:_≤1000) (by decide)))) (by omega)) bF)) ⟨c,3 * B.length,rfl,by omega,rfl⟩ trivial rfl) fun l3=>iE 3 rfl ?_); refine bA (jA (ds:=gW 0 B.length) (fun t=>[.val (.int c), .val (.lst (B.map bG)), .own l ((sG c B t).map wsD), .val (.lst ((cO c (3 * B.length)).map D.int)), .un, .un, .un, .un, .un]) (fun t=>[.val (.int c), .val (.lst (B.map bG)), .own l ((sG c B t).map wsD), .val (.lst ((cO c (3 * B.length)).map D.int)), .val (.int (t:Int)), .un, .un, .un, .un]) (iJ (n:=B.length) rfl zrange (PEd.ic (gB rfl zlen (PEd.bor (aE 1 rfl (pv 1)))) (by rw [aD])) (by omega)) ⟨.inr rfl, .inr rfl, .inr rfl, .inr rfl, .inr rfl, .inr rfl, .inr rfl, .inr rfl, .inr rfl,trivial⟩ (fun t d hd=> ?_) (fun t d hd=> ?_) ?_)
 ·obtain ⟨_,rfl⟩:=gA hd; rw [kN]; exact fU 4 (dJ (i:=4) nd rfl (Or.inl rfl))
 ·obtain ⟨ht,rfl⟩:=gA hd
  have ln:((sG c B t).map wsD).length≤1000:=by unfold sG; rw [aD,aD,cN]; omega
  have fin:(sG c B (t+1)).map wsD=(sG c B t).map wsD++[wsD (elQ ((cO c (3 * B.length)).getD (3 * t) 0) ((cO c (3 * B.length)).getD (3 * t+1) 0) ((cO c (3 * B.length)).getD (3 * t+2) 0) B)]:=by rw [wishN_succ,aR]; rfl
  have sl:=gU c (3 * B.length); have c3:=cut3 (xs:=cO c (3 * B.length)) (i:=3 * t) (by omega); have rx:=sT c (m:=3 * B.length) (i:=3 * t) (by omega); have ry:=sT c (m:=3 * B.length) (i:=3 * t+1) (by omega); have rz:=sT c (m:=3 * B.length) (i:=3 * t+2) (by omega); have et:(3:Int) * (t:Int)=((3 * t:Nat):Int):=by omega
  refine bA (psd_asg (d:= .lst [.int ((cO c (3 * B.length)).getD (3 * t) 0), .int ((cO c (3 * B.length)).getD (3 * t+1) 0), .int ((cO c (3 * B.length)).getD (3 * t+2) 0)]) (PEd.val (PEd.cast (tI (ol:=some ((3 * t:Nat):Int)) (oh:=some ((3 * t+3:Nat):Int)) (PEd.bor (aE 3 rfl (pv 3))) (PEd.ic (dB jU bP (aE 4 rfl (pv 4)) (iK (by decide) (cE (by omega:_≤1000) (by decide)))) et) (PEd.ic (pN mM (dB jU bP (aE 4 rfl (pv 4)) (iK (by decide) (cE (by omega:_≤1000) (by decide)))) bP) (by omega))) (by rw [c3]))) (pgd_lst (js:=[5,6,7]) rfl (fG (dJ (i:=5) nd rfl (Or.inl rfl)) (fG (dJ (i:=6) nd rfl (Or.inl rfl)) (fG (dJ (i:=7) nd rfl (Or.inl rfl)) lR))) rfl rfl) ?_); clear c3; generalize (cO c (3 * B.length)).getD (3 * t) 0=x at rx fin; generalize (cO c (3 * B.length)).getD (3 * t+1) 0=y at ry fin; generalize (cO c (3 * B.length)).getD (3 * t+2) 0=z at rz fin; rw [fin]; clear fin; have a1:=cH (x / 24) (jO l0); have a2:=bZ (x / 24) l0; have s1:=cH (x / 4) (show (6:Int)≠0 by decide); have s2:=bZ (x / 4) (show (0:Int)<6 by decide); have y1:=cH y (jO l0); have y2:=bZ y l0; have x1:=cH (x / 4) (show (64:Int)≠0 by decide); have x2:=bZ (x / 4) (show (0:Int)<64 by decide); obtain ⟨q1,q2⟩:=qH x; have n9:=f0N_le (x:=x) hB; refine bA (psd_setCO (ds:=oN (x / 24%(B.length:Int)) (mI x) (f0N x B)) 8 (N:=["_law_k","_law_some_here"]) (M:=["_law_cell","_law_some_here","_law_wish_here","_law_xs","_law_at","_law_x","_law_y","_law_z","_law_found"]) (cap:=[none,some 1]) (sc:=bJ vZ) (Tb:=fun d=>[.val d, .val (.lst (B.map bG))]) (fun _=>true) (fun d=>match d with | .int i=>bG (B.getD i.toNat []) | _=> .non) nd rfl rfl rfl (pid_range3 (j:=(B.length:Int)) rfl zrange (dB fP (dB gQ (aE 5 rfl (pv 5)) bP ⟨by decide,by decide⟩) (PEd.ic (gB rfl zlen (PEd.bor (aE 1 rfl (pv 1)))) (by rw [aD])) l0) (PEd.ic (gB rfl zlen (PEd.bor (aE 1 rfl (pv 1)))) (by rw [aD])) (hJ (i:=x / 4%6) (d:= .int (mI x)) (PEd.bor (PEd.val (eU (ds:=[.int 1, .int 2, .int 3, .int 5, .int 7, .int 1000]) ?_ (aU rfl)))) (dB fP (dB gQ (aE 5 rfl (pv 5)) bP ⟨by decide,by decide⟩) bP (by decide)) s1 (ints_at' (V:=[1,2,3,5,7,1000]) (by show _<6; omega)) fun _ _=>rfl) ⟨a1,by omega,by omega,by omega,q1,by omega⟩) (by rw [tR]; omega) rfl (by decide+kernel) rfl (by decide+kernel) rfl (fun cl C fp s H d _=>fU 0 (dJ (i:=0) nd2 rfl (Or.inl rfl))) (fun d _=>⟨.inl rfl, .inr rfl,trivial⟩) (fun cl C fp s H d hd=> .inl ⟨rfl,rfl⟩) (fun cl C fp s H d hd _=> ?_) fun l8=>iE 8 rfl ?_)
  ·repeat' (first | exact bF | refine aH bP ?_)
  ·obtain ⟨k,hk,rfl⟩:=bB.mp hd; have:=zY hB (bS.mp hk); exact hJ (i:=x / 24%(B.length:Int)+(k:Int) * mI x) (PEd.bor (aE 1 rfl (pv 1))) (aE 0 rfl (pv 0)) this.1 (oJ (by omega)) fun _ _=>rfl
  have e0:((oN (x / 24%(B.length:Int)) (mI x) (f0N x B)).filter fun _=>true).map (fun d=>match d with | .int i=>bG (B.getD i.toNat []) | _=>D.non)=(f0Q x B).map bG:=by rw [mR.mpr (fun _ _=>rfl)]; unfold oN f0Q; rw [bX,bX]; rfl
  rw [e0]; clear e0; have b1:(x / 4%64 * 2147483647+y).natAbs<2^250:=cE (by omega:_≤200000000000) (by decide); refine bA (iN (k:=decide (1<x%4)) (ptd_cI op_gt (dB fP (aE 5 rfl (pv 5)) bP (by decide)) bP (lI _)) (fun h=>bI (eB (ds:=(someQ ((x / 4%64 * 2147483647+y) * 2147483647+z) B).map bG) 8 nd rfl (Or.inl rfl) (dI (ds:=[.int ((x / 4%64 * 2147483647+y) * 2147483647+z), .lst (B.map bG)]) GS hr rfl (aH (pN mM (dB jU (pN mM (dB jU (dB fP (dB gQ (aE 5 rfl (pv 5)) bP ⟨by decide,by decide⟩) bP (by decide)) bP (iK (cE (by omega:_≤1000) (by decide)) (by decide))) (aE 6 rfl (pv 6))) bP (iK b1 (by decide))) (aE 7 rfl (pv 7))) (aH (aE 1 rfl (pv 1)) bF)) ⟨_,B,by omega,rfl,rfl⟩ trivial rfl) fun l9=>iE 8 rfl ?_)) fun h=>eF ?_)
  ·have e1:someQ ((x / 4%64 * 2147483647+y) * 2147483647+z) B=f1Q x y z B:=by unfold f1Q; rw [if_pos h]
   rw [e1]; refine bA (iN (k:=(f1Q x y z B).isEmpty) (PTd.cast (ptd_eqD (ra:= .val (.lst ((f1Q x y z B).map bG))) (rb:= .val (.lst [])) (aE 8 rfl (pv 8)) (PEd.val (eU (ds:=[]) bF (aU rfl))) trivial trivial (.inr ⟨rfl,rfl⟩) (mL _) rfl (u_of' hu (by have:=kB (f1Q x y z B); show mV _+1+1≤4; omega))) (deqL_nil _)) (fun h=>bI (eB (ds:=[bG (B.getD (y%(B.length:Int)).toNat [])]) 8 nd rfl (Or.inl rfl) (eU (ds:=[bG (B.getD (y%(B.length:Int)).toNat [])]) (aH (hJ (i:=y%(B.length:Int)) (PEd.bor (aE 1 rfl (pv 1))) (dB fP (aE 6 rfl (pv 6)) (PEd.ic (gB rfl zlen (PEd.bor (aE 1 rfl (pv 1)))) (by rw [aD])) l0) y1 (oJ (by omega)) fun _ _=>rfl) bF) (aU rfl)) fun l9=>iE 8 rfl ?_)) fun h=>eF ?_)
   ·have e2:[bG (B.getD (y%(B.length:Int)).toNat [])]=(f2Q x y z B).map bG:=by unfold f2Q; rw [if_pos h]; rfl
    rw [e2]; refine bI (eG (d:=wsD (elQ x y z B)) 2 rfl (pv 2) (hJ (i:=if decide (x%4=0) then 1 else 0) (PEd.bor (PEd.val (eU (ds:=[.lst ((f2Q x y z B).map bG), .non]) (aH (aE 8 rfl (pv 8)) (aH eA bF)) (aU rfl)))) (oD rfl zint (sV (dB fP (aE 5 rfl (pv 5)) bP (by decide)) bP)) (by split<;>decide) ?_ fun _ _=>rfl) ln ⟨.inr rfl, .inr rfl, .inr rfl, .inr rfl, .inl rfl, .inl rfl, .inl rfl, .inl rfl, .inl rfl,trivial⟩); unfold elQ; cases decide (x%4=0)<;>rfl
   ·have e2:f1Q x y z B=f2Q x y z B:=by unfold f2Q; rw [if_neg (by rw [h]; decide)]
    rw [e2]; refine bI (eG (d:=wsD (elQ x y z B)) 2 rfl (pv 2) (hJ (i:=if decide (x%4=0) then 1 else 0) (PEd.bor (PEd.val (eU (ds:=[.lst ((f2Q x y z B).map bG), .non]) (aH (aE 8 rfl (pv 8)) (aH eA bF)) (aU rfl)))) (oD rfl zint (sV (dB fP (aE 5 rfl (pv 5)) bP (by decide)) bP)) (by split<;>decide) ?_ fun _ _=>rfl) ln ⟨.inr rfl, .inr rfl, .inr rfl, .inr rfl, .inl rfl, .inl rfl, .inl rfl, .inl rfl, .inl rfl,trivial⟩); unfold elQ; cases decide (x%4=0)<;>rfl
  ·have e1:f0Q x B=f1Q x y z B:=by unfold f1Q; rw [if_neg (by rw [h]; decide)]
   rw [e1]; refine bA (iN (k:=(f1Q x y z B).isEmpty) (PTd.cast (ptd_eqD (ra:= .val (.lst ((f1Q x y z B).map bG))) (rb:= .val (.lst [])) (aE 8 rfl (pv 8)) (PEd.val (eU (ds:=[]) bF (aU rfl))) trivial trivial (.inr ⟨rfl,rfl⟩) (mL _) rfl (u_of' hu (by have:=kB (f1Q x y z B); show mV _+1+1≤4; omega))) (deqL_nil _)) (fun h=>bI (eB (ds:=[bG (B.getD (y%(B.length:Int)).toNat [])]) 8 nd rfl (Or.inl rfl) (eU (ds:=[bG (B.getD (y%(B.length:Int)).toNat [])]) (aH (hJ (i:=y%(B.length:Int)) (PEd.bor (aE 1 rfl (pv 1))) (dB fP (aE 6 rfl (pv 6)) (PEd.ic (gB rfl zlen (PEd.bor (aE 1 rfl (pv 1)))) (by rw [aD])) l0) y1 (oJ (by omega)) fun _ _=>rfl) bF) (aU rfl)) fun l9=>iE 8 rfl ?_)) fun h=>eF ?_)
   ·have e2:[bG (B.getD (y%(B.length:Int)).toNat [])]=(f2Q x y z B).map bG:=by unfold f2Q; rw [if_pos h]; rfl
    rw [e2]; refine bI (eG (d:=wsD (elQ x y z B)) 2 rfl (pv 2) (hJ (i:=if decide (x%4=0) then 1 else 0) (PEd.bor (PEd.val (eU (ds:=[.lst ((f2Q x y z B).map bG), .non]) (aH (aE 8 rfl (pv 8)) (aH eA bF)) (aU rfl)))) (oD rfl zint (sV (dB fP (aE 5 rfl (pv 5)) bP (by decide)) bP)) (by split<;>decide) ?_ fun _ _=>rfl) ln ⟨.inr rfl, .inr rfl, .inr rfl, .inr rfl, .inl rfl, .inl rfl, .inl rfl, .inl rfl, .inl rfl,trivial⟩); unfold elQ; cases decide (x%4=0)<;>rfl
   ·have e2:f1Q x y z B=f2Q x y z B:=by unfold f2Q; rw [if_neg (by rw [h]; decide)]
    rw [e2]; refine bI (eG (d:=wsD (elQ x y z B)) 2 rfl (pv 2) (hJ (i:=if decide (x%4=0) then 1 else 0) (PEd.bor (PEd.val (eU (ds:=[.lst ((f2Q x y z B).map bG), .non]) (aH (aE 8 rfl (pv 8)) (aH eA bF)) (aU rfl)))) (oD rfl zint (sV (dB fP (aE 5 rfl (pv 5)) bP (by decide)) bP)) (by split<;>decide) ?_ fun _ _=>rfl) ln ⟨.inr rfl, .inr rfl, .inr rfl, .inr rfl, .inl rfl, .inl rfl, .inl rfl, .inl rfl, .inl rfl,trivial⟩); unfold elQ; cases decide (x%4=0)<;>rfl
 ·rw [fY]; exact bI (iW 2 rfl (pv 2) rfl)
theorem ok_copyw (F:Fun K "_law_copy" "_law_copy" wP f fd) (zlist:mg "list"=none) (hm:mg "_law_copy"=some (.ref f)):dC P w K mg base "_law_copy" 1 1 CCopyW:=by
 have nd:(["_law_wish_here","_law_found","_law_may"]:List Str).Nodup:=by decide+kernel
 refine gL (N:=["_law_wish_here","_law_found","_law_may"]) (ps:=["_law_wish_here"]) (k:=0) F ⟨rfl,rfl,rfl,nd,rfl,by decide+kernel,by decide+kernel⟩ hm (fun _ _ _ _ _ _ us hl=>match us,hl with | [_],_=>rfl) fun cdv A outer s H E hr ds r hl c=> ?_
 obtain ⟨w,hw,rfl,rfl⟩:=c; refine bA (eB (ds:=[]) 1 nd rfl (Or.inl rfl) (eU (ds:=[]) bF (bO _)) fun l=> ?_); refine bA (jA (ds:=w.map wsD) (fun t=>[.val (.lst (w.map wsD)), .own l ((w.take t).map wsD), .un]) (fun t=>[.val (.lst (w.map wsD)), .own l ((w.take t).map wsD), .val (wsD (w.getD t none))]) (nV (aE 0 rfl (pv 0))) ⟨.inr rfl, .inr rfl, .inr rfl,trivial⟩ (fun t d hd=> ?_) (fun t d hd=> ?_) ?_)
 ·obtain ⟨_,rfl⟩:=kA hd; exact fU 2 (dJ (i:=2) nd rfl (Or.inl rfl))
 ·obtain ⟨ht,rfl⟩:=kA hd; have et:=take_snoc none ht; have ln:((w.take t).map wsD).length≤1000:=by rw [aD,eN]; omega
  have fin:(w.take t).map wsD++[wsD (w.getD t none)]=(w.take (t+1)).map wsD:=by rw [et,aR]; rfl
  cases hq:w.getD t none with
  | none=>rw [hq] at fin; refine bI (oF (gF (d:= .non) (aE 2 rfl (pv 2)) eA) rfl (bI (eG (d:= .non) 1 rfl (pv 1) eA ln ⟨.inr rfl, .inr ?_, .inl rfl,trivial⟩))); exact congrArg (Slot.own l) fin
  | some L=>rw [hq] at fin; refine bI (fR (gF (d:= .lst (L.map bG)) (aE 2 rfl (pv 2)) eA) rfl (bI (eG (d:= .lst (L.map bG)) 1 rfl (pv 1) (PEd.val (wB rfl zlist (PEd.bor (aE 2 rfl (pv 2))))) ln ⟨.inr rfl, .inr ?_, .inl rfl,trivial⟩))); exact congrArg (Slot.own l) fin
 ·rw [aD,lE]; exact bI (iW 1 rfl (pv 1) rfl)
def CIsWish:List D→R→Prop:=fun ds r=>∃W:List (Option (List (List Int))),(∀o∈W,∀L,o=some L→∀ws∈L,ws.length≤100)∧ds=[.lst (W.map wsD), .lst (W.map wsD)]∧r= .val (.bl true)
theorem ok_iswish (F:Fun K "_law_is_wish" "_law_is_wish" sL f fd) (zisinstance:mg "isinstance"=none) (zlist:mg "list"=none) (zlen:mg "len"=none) (zzip:mg "zip"=none) (hm:mg "_law_is_wish"=some (.ref f)) (GJ:dC P w K mg base "_law_filling" 2 2 CFilB):dC P w K mg base "_law_is_wish" 3 2 CIsWish:=by
 have nd:(["_law_found","_law_due_here","_law_one","_law_other","_law_here","_law_there"]:List Str).Nodup:=by decide+kernel
 refine gL (N:=["_law_found","_law_due_here","_law_one","_law_other","_law_here","_law_there"]) (ps:=["_law_found","_law_due_here"]) (k:=2) F ⟨rfl,rfl,rfl,nd,rfl,by decide+kernel,by decide+kernel⟩ hm (fun _ _ _ _ _ _ us hl=>match us,hl with | [_,_],_=>rfl) fun cdv A outer s H E hr ds r hl c=> ?_
 obtain ⟨W,hW,rfl,rfl⟩:=c; refine bA (fR (k:=false) (PWd.pt (qY (k:=false) (j:=false) (nF (k:=true) (kP (PEd.cast (rU rfl zisinstance rfl zlist PyProof.Rows.boot_list (aE 0 rfl (pv 0)) (fun _=>by simp) (kit_list _ _)) rfl))) fun _=>qC (PTd.cast (ptd_neI (gB rfl zlen (PEd.bor (aE 0 rfl (pv 0)))) (gB rfl zlen (PEd.bor (aE 1 rfl (pv 1))))) (by simp)))) rfl (eF ?_)); refine bA (jA (ds:=vW (W.map wsD) (W.map wsD)) (fun _=>[.val (.lst (W.map wsD)), .val (.lst (W.map wsD)), .un, .un, .un, .un]) (fun t=>[.val (.lst (W.map wsD)), .val (.lst (W.map wsD)), .val (wsD (W.getD t none)), .val (wsD (W.getD t none)), .un, .un]) (uY false false rfl zzip (aE 0 rfl (pv 0)) (aE 1 rfl (pv 1))) (Le.refl _) (fun t d hd=> ?_) (fun t d hd=> ?_) ?_)
 ·obtain ⟨x,y,e1,e2,rfl⟩:=jV hd; obtain ⟨ht,rfl⟩:=kA e1; obtain ⟨_,rfl⟩:=kA e2; exact qG (js:=[2,3]) rfl (fG (dJ (i:=2) nd rfl (Or.inl rfl)) (fG (dJ (i:=3) nd rfl (Or.inl rfl)) lR)) rfl rfl
 ·obtain ⟨x,y,e1,e2,rfl⟩:=jV hd; obtain ⟨ht,rfl⟩:=kA e1; have ho:=hW _ (DL.getD_mem (d:=none) ht); generalize W.getD t none=o at ho; refine bI (iN (k:=o.isNone) (PTd.cast (gF (aE 3 rfl (pv 3)) eA) (isN_ws o)) (fun h=> ?_) fun h=> ?_)
  ·have e:o=none:=by cases o with | none=>rfl | some _=>cases h
   subst e; exact bI (fR (k:=false) (PTd.cast (iV (aE 2 rfl (pv 2)) eA) rfl) rfl (eF ⟨.inr rfl, .inr rfl, .inl rfl, .inl rfl, .inr rfl, .inr rfl,trivial⟩))
  ·obtain ⟨L,e⟩:∃L,o=some L:=by cases o with | none=>cases h | some L=>exact ⟨L,rfl⟩
   subst e; refine bI (fR (k:=false) (PWd.pt (qY (k:=false) (j:=false) (nF (k:=true) (kP (PEd.cast (rU (d:= .lst (L.map bG)) rfl zisinstance rfl zlist PyProof.Rows.boot_list (aE 2 rfl (pv 2)) (fun _=>by simp) (kit_list _ _)) rfl))) fun _=>qC (PTd.cast (ptd_neI (gB (ds:=L.map bG) rfl zlen (PEd.bor (aE 2 rfl (pv 2)))) (gB (ds:=L.map bG) rfl zlen (PEd.bor (aE 3 rfl (pv 3))))) (by simp)))) rfl ?_); refine bI (jA (ds:=vW (L.map bG) (L.map bG)) (fun _=>[.val (.lst (W.map wsD)), .val (.lst (W.map wsD)), .val (wsD (some L)), .val (wsD (some L)), .un, .un]) (fun u=>[.val (.lst (W.map wsD)), .val (.lst (W.map wsD)), .val (wsD (some L)), .val (wsD (some L)), .val (bG (L.getD u [])), .val (bG (L.getD u []))]) (uY false false rfl zzip (aE 2 rfl (pv 2)) (aE 3 rfl (pv 3))) (Le.refl _) (fun u d hd=> ?_) (fun u d hd=> ?_) ?_)
   ·obtain ⟨x,y,e1,e2,rfl⟩:=jV hd; obtain ⟨hu,rfl⟩:=jK e1; obtain ⟨_,rfl⟩:=jK e2; exact qG (js:=[4,5]) rfl (fG (dJ (i:=4) nd rfl (Or.inl rfl)) (fG (dJ (i:=5) nd rfl (Or.inl rfl)) lR)) rfl rfl
   ·obtain ⟨x,y,e1,e2,rfl⟩:=jV hd; obtain ⟨hu,rfl⟩:=jK e1; refine bI (fR (k:=false) (nF (k:=true) (kP (dI (ds:=[bG (L.getD u []),bG (L.getD u [])]) (r:= .val (.bl true)) GJ hr rfl (aH (aE 4 rfl (pv 4)) (aH (aE 5 rfl (pv 5)) bF)) ⟨_,_,rfl,ho L rfl _ (DL.getD_mem hu),by simp⟩ trivial rfl))) rfl (eF ?_)); exact ⟨.inr rfl, .inr rfl, .inr rfl, .inr rfl, .inl rfl, .inl rfl,trivial⟩
   ·exact ⟨.inr rfl, .inr rfl, .inl rfl, .inl rfl, .inr rfl, .inr rfl,trivial⟩
 ·exact bI (fS pd_bl trivial rfl)
theorem ok_me32 (F:Fun K "_law_met" "_law_met" sMe f fd) (zzip:mg "zip"=none) (zlen:mg "len"=none) (zsorted:mg "sorted"=none) (hm:mg "_law_met"=some (.ref f)) (GX:dC P w K mg base "_law_stream" 1 2 uL):dC P w K mg base "_law_met" 2 4 CMe32:=by
 have nd:(["_law_one","_law_other","_law_some_here","_law_cell","_law_found","_law_x","_law_here","_law_there"]:List Str).Nodup:=by decide+kernel
 refine gL (N:=["_law_one","_law_other","_law_some_here","_law_cell","_law_found","_law_x","_law_here","_law_there"]) (ps:=["_law_one","_law_other","_law_some_here","_law_cell"]) (k:=1) F ⟨rfl,rfl,rfl,nd,rfl,by decide+kernel,by decide+kernel⟩ hm (fun _ _ _ _ _ _ us hl=>match us,hl with | [_,_,_,_],_=>rfl) fun cdv A outer s H E hr ds r hl c=> ?_
 obtain ⟨p,U,V,c,hp,hU,hV,rfl,rfl⟩:=c; have hu:(A.deeper (envOfC "_law_met" (bJ sMe) s.heap.objs.size f cdv)).units+10<cLine:=by have:=hr.un; omega
 obtain ⟨h1,h2,h3,h4,h5⟩:=sz14 p hp; have f9:(bC p).length≤64:=kO hp; have ndA:=rV hp; refine bA (eB (ds:=[]) 4 nd rfl (Or.inl rfl) (eU (ds:=[]) bF (bO _)) fun l=> ?_); refine bA (jA (ds:=zipT ((cO c (bC p).length).map D.int) (U.map wsD) (V.map wsD)) (fun t=>[.val (.lst (U.map wsD)), .val (.lst (V.map wsD)), .val (.lst ((bC p).map bG)), .val (.int c), .own l ((meN (bC p) U V c t).map wsD), .un, .un, .un]) (fun t=>[.val (.lst (U.map wsD)), .val (.lst (V.map wsD)), .val (.lst ((bC p).map bG)), .val (.int c), .own l ((meN (bC p) U V c t).map wsD), .val (.int ((cO c (bC p).length).getD t 0)), .val (wsD (U.getD t none)), .val (wsD (V.getD t none))]) (pid_zip3 rfl zzip (PEd.val (dI (ds:=[.int c, .int ((bC p).length:Int)]) GX hr rfl (aH (aE 3 rfl (pv 3)) (aH (PEd.ic (gB rfl zlen (PEd.bor (aE 2 rfl (pv 2)))) (by rw [aD])) bF)) ⟨c,(bC p).length,rfl,by omega,rfl⟩ trivial rfl)) (aE 0 rfl (pv 0)) (aE 1 rfl (pv 1)) (by rw [aD,aD,gU,hU.len]) (by rw [aD,aD,gU,hV.len])) ⟨.inr rfl, .inr rfl, .inr rfl, .inr rfl, .inr rfl, .inr rfl, .inr rfl, .inr rfl,trivial⟩ (fun t d hd=> ?_) (fun t d hd=> ?_) ?_)
 ·obtain ⟨x,y,z,e1,e2,e3,rfl⟩:=xA (by rw [aD,aD,gU,hU.len]) (by rw [aD,aD,gU,hV.len]) hd; obtain ⟨_,rfl⟩:=sD e1; obtain ⟨_,rfl⟩:=kA e2; obtain ⟨_,rfl⟩:=kA e3; exact qG (js:=[5,6,7]) rfl (fG (dJ (i:=5) nd rfl (Or.inl rfl)) (fG (dJ (i:=6) nd rfl (Or.inl rfl)) (fG (dJ (i:=7) nd rfl (Or.inl rfl)) lR))) rfl rfl
 ·obtain ⟨x,y,z,e1,e2,e3,rfl⟩:=xA (by rw [aD,aD,gU,hU.len]) (by rw [aD,aD,gU,hV.len]) hd; obtain ⟨_,rfl⟩:=sD e1; obtain ⟨hw,rfl⟩:=kA e2
  have ln:((meN (bC p) U V c t).map wsD).length≤1000:=by have:=hU.len; unfold meN; rw [aD,aD,cN]; omega
  have fin:(meN (bC p) U V c (t+1)).map wsD=(meN (bC p) U V c t).map wsD++[wsD (meE (bC p) ((cO c (bC p).length).getD t 0) (U.getD t none) (V.getD t none))]:=by rw [meN_succ,aR]; rfl
  have okU:=fun c=>hU.at t (c:=c)
  have okV:=fun c=>hV.at t (c:=c)
  generalize (cO c (bC p).length).getD t 0=x at fin; cases hx:U.getD t none with
  | none=>rw [hx] at fin; refine bA (fR (k:=false) (PWd.pt (iP (k:=false) (j:=false) (iV (d:= .non) (aE 6 rfl (pv 6)) eA) fun h=>by cases h)) rfl (eF ?_)); refine bI (eG (d:=wsD (V.getD t none)) 4 rfl (pv 4) (aE 7 rfl (pv 7)) ln ⟨.inr rfl, .inr rfl, .inr rfl, .inr rfl, .inr ?_, .inl rfl, .inl rfl, .inl rfl,trivial⟩); exact congrArg (Slot.own l) fin.symm
  | some u=>
   rw [hx] at fin okU; have ku:=okU u rfl; have l0:(0:Int)<(u.length:Int):=by have:=iD.mpr ku.ne; omega
   have a1:=cH x (jO l0); have a2:=bZ x l0; cases hy:V.getD t none with
   | none=>rw [hy] at fin; refine bA (fR (k:=false) (PWd.pt (iP (k:=true) (j:=false) (iV (d:= .lst (u.map bG)) (aE 6 rfl (pv 6)) eA) fun _=>iP (k:=false) (j:=false) (iV (d:= .non) (aE 7 rfl (pv 7)) eA) fun h=>by cases h)) rfl (eF ?_)); refine bI (eG (d:= .non) 4 rfl (pv 4) (aE 7 (d:= .non) rfl (pv 7)) ln ⟨.inr rfl, .inr rfl, .inr rfl, .inr rfl, .inr ?_, .inl rfl, .inl rfl, .inl rfl,trivial⟩); exact congrArg (Slot.own l) fin.symm
   | some v=>
    rw [hy] at fin okV; have kv:=okV v rfl; have vl:=kv.le; have ul:=ku.le; have ym:=ku.sub _ (rN ku.ne x); have em:meE (bC p) x (some u) (some v)=if u.getD (x%(u.length:Int)).toNat []∈v then some v else some ((bC p).filter fun f=>decide (f∈v++[u.getD (x%(u.length:Int)).toNat []])):=rfl
    rw [em] at fin; have ix:∀ {sd:List Slot} {p1 p2 p3 p4 p5 p6 p7:Pos},sd[5]? =some (.val (.int x))→sd[6]? =some (.val (.lst (u.map bG)))→PEd (pA CX0 P w K mg base ["_law_one","_law_other","_law_some_here","_law_cell","_law_found","_law_x","_law_here","_law_there"] "_law_met" (bJ sMe) f cdv A outer s H E).nox sd (.Subscript (.Name "_law_here" p1) (.BinOp (.Name "_law_x" p2) .Mod (.Call (.Name "len" p3) [.Name "_law_here" p4] [] p5) p6) p7) (.val (bG (u.getD (x%(u.length:Int)).toNat []))):=fun q5 q6=>hJ (i:=x%(u.length:Int)) (PEd.bor (aE 6 q6 (pv 6))) (dB fP (aE 5 q5 (pv 5)) (PEd.ic (gB rfl zlen (PEd.bor (aE 6 q6 (pv 6)))) (by rw [aD])) l0) a1 (oJ (by omega)) fun _ _=>rfl
    refine bA (iN (k:= !decide (u.getD (x%(u.length:Int)).toNat []∈v)) (PWd.pt (iP (k:=true) (j:= !decide (u.getD (x%(u.length:Int)).toNat []∈v)) (iV (d:= .lst (u.map bG)) (aE 6 rfl (pv 6)) eA) fun _=>iP (k:=true) (j:= !decide (u.getD (x%(u.length:Int)).toNat []∈v)) (iV (d:= .lst (v.map bG)) (aE 7 rfl (pv 7)) eA) fun _=>nT (PTd.cast (ptd_ninD (d:=bG (u.getD (x%(u.length:Int)).toNat [])) (ds:=v.map bG) (ix rfl rfl) (aE 7 (d:= .lst (v.map bG)) rfl (pv 7)) (qK _) (mL v) (by have:=kB v; show (A.deeper _).units+1+_<cLine; omega)) (by rw [vU])))) (fun q=> ?_) fun q=>eF ?_)
    ·have q:u.getD (x%(u.length:Int)).toNat []∉v:=by simpa using q
     rw [if_neg q] at fin; have ix0:= @ix; generalize u.getD (x%(u.length:Int)).toNat []=y at fin ym q ix
     have ps:∀z∈v++[y],z∈bC p:=fun z hz=>by
      rcases aY.mp hz with h | h
      ·exact kv.sub z h
      ·rw [bU.mp h]; exact ym
     have ndv:(v++[y]).Nodup:=dF.mpr ⟨kv.nd ndA,by simp,fun a ha b hb e=>q (by rw [← bU.mp hb,← e]; exact ha)⟩; refine bI (eB (ds:=((bC p).filter fun f=>decide (f∈v++[y])).map bG) 7 nd rfl (Or.inl rfl) (pd_sortRk (rk:=mH p) (ps:=v++[y]) rfl zsorted (PEd.bor (PEd.val (PEd.cast (uV (d1:=v.map bG) (d2:=[bG y]) (PEd.bor (aE 7 (d:= .lst (v.map bG)) rfl (pv 7))) (PEd.bor (PEd.val (eU (ds:=[bG y]) (aH (ix rfl rfl) bF) (aU rfl)))) (by rw [aD]; show _+1≤1000; omega)) (by rw [aR]; rfl)))) (fun z hz e=> ?_) (by rw [cR]; show _+1≤1000; omega) (fun a ha b hb=>sz14_lt p hp a (ps a ha) b (ps b hb)) ?_ ?_ ((rF hp).filter _)) fun l7=>iE 7 rfl ?_)
     ·have:=(mB hp (ps z hz)).len; rw [e] at this; simp at this; omega
     ·unfold List.Nodup; rw [dL]; exact List.Pairwise.imp_of_mem (fun {a b} ha hb h e=>h (vQ hp (ps a ha) (ps b hb) e)) ndv
     ·refine (jG (ndA.filter _) ndv).mpr fun z=> ?_
      rw [fV]; exact ⟨fun h=>of_decide_eq_true h.2,fun h=>⟨ps z h,decide_eq_true h⟩⟩
     ·refine bI (eG (d:=wsD (some ((bC p).filter fun f=>decide (f∈v++[y])))) 4 rfl (pv 4) (aE 7 rfl (pv 7)) ln ⟨.inr rfl, .inr rfl, .inr rfl, .inr rfl, .inr ?_, .inl rfl, .inl rfl, .inl rfl,trivial⟩); exact congrArg (Slot.own l) fin.symm
    ·have q:u.getD (x%(u.length:Int)).toNat []∈v:=by simpa using q
     rw [if_pos q] at fin; refine bI (eG (d:=wsD (some v)) 4 rfl (pv 4) (aE 7 rfl (pv 7)) ln ⟨.inr rfl, .inr rfl, .inr rfl, .inr rfl, .inr ?_, .inl rfl, .inl rfl, .inl rfl,trivial⟩); exact congrArg (Slot.own l) fin.symm
 ·have e:(zipT ((cO c (bC p).length).map D.int) (U.map wsD) (V.map wsD)).length=(bC p).length:=by rw [wZ,aD,gU]
  rw [e]; exact bI (iW 4 rfl (pv 4) rfl)
theorem ok_due32 (F:Fun K "_law_due" "_law_due" sDue f fd) (zzip:mg "zip"=none) (zint:mg "int"=none) (hm:mg "_law_due"=some (.ref f)):dC P w K mg base "_law_due" 1 2 CDue32:=by
 have nd:(["_law_one","_law_other","_law_found","_law_here","_law_there"]:List Str).Nodup:=by decide+kernel
 have nd2:(["_law_filling_here","_law_there"]:List Str).Nodup:=by decide+kernel
 refine gL (N:=["_law_one","_law_other","_law_found","_law_here","_law_there"]) (ps:=["_law_one","_law_other"]) (k:=0) F ⟨rfl,rfl,rfl,nd,rfl,by decide+kernel,by decide+kernel⟩ hm (fun _ _ _ _ _ _ us hl=>match us,hl with | [_,_],_=>rfl) fun cdv A outer s H E hr ds r hl c=> ?_
 obtain ⟨p,U,V,hp,hU,hV,rfl,rfl⟩:=c; have hu:(A.deeper (envOfC "_law_due" (bJ sDue) s.heap.objs.size f cdv)).units+10<cLine:=by have:=hr.un; omega
 have f9:(bC p).length≤64:=kO hp; refine bA (eB (ds:=[]) 2 nd rfl (Or.inl rfl) (eU (ds:=[]) bF (bO _)) fun l=> ?_); refine bA (jA (ds:=vW (U.map wsD) (V.map wsD)) (fun t=>[.val (.lst (U.map wsD)), .val (.lst (V.map wsD)), .own l ((bwN (bC p) U V t).map wsD), .un, .un]) (fun t=>[.val (.lst (U.map wsD)), .val (.lst (V.map wsD)), .own l ((bwN (bC p) U V t).map wsD), .val (wsD (U.getD t none)), .val (wsD (V.getD t none))]) (uY false false rfl zzip (aE 0 rfl (pv 0)) (aE 1 rfl (pv 1))) ⟨.inr rfl, .inr rfl, .inr rfl, .inr rfl, .inr rfl,trivial⟩ (fun t d hd=> ?_) (fun t d hd=> ?_) ?_)
 ·obtain ⟨x,y,e1,e2,rfl⟩:=jV hd; obtain ⟨_,rfl⟩:=kA e1; obtain ⟨_,rfl⟩:=kA e2; exact qG (js:=[3,4]) rfl (fG (dJ (i:=3) nd rfl (Or.inl rfl)) (fG (dJ (i:=4) nd rfl (Or.inr rfl)) lR)) rfl rfl
 ·obtain ⟨x,y,e1,e2,rfl⟩:=jV hd; obtain ⟨hw,rfl⟩:=kA e1
  have ln:((bwN (bC p) U V t).map wsD).length≤1000:=by have:=hU.len; unfold bwN; rw [aD,aD,cN]; omega
  have fin:(bwN (bC p) U V (t+1)).map wsD=(bwN (bC p) U V t).map wsD++[wsD (bcQ (bC p) (U.getD t none) (V.getD t none))]:=by rw [bwN_succ,aR]; rfl
  have okU:=fun c=>hU.at t (c:=c)
  have okV:=fun c=>hV.at t (c:=c)
  cases hx:U.getD t none with
  | none=>rw [hx] at fin; refine bI (oF (k:=true) (PWd.pt (qY (k:=true) (j:=true) (gF (d:= .non) (aE 3 rfl (pv 3)) eA) fun h=>by cases h)) rfl (bI (eG (d:=wsD (V.getD t none)) 2 rfl (pv 2) (hJ (i:=1) (ds:=[.non,wsD (V.getD t none)]) (PEd.bor (PEd.val (eU (ds:=[.non,wsD (V.getD t none)]) (aH (aE 3 (d:= .non) rfl (pv 3)) (aH (aE 4 rfl (pv 4)) bF)) (aU rfl)))) (PEd.ic (oD (k:=true) rfl zint (pd_isN (d:= .non) (aE 3 (d:= .non) rfl (pv 3)) eA)) rfl) (by decide) rfl fun _ _=>rfl) ln ⟨.inr rfl, .inr rfl, .inr ?_, .inl rfl, .inl rfl,trivial⟩))); exact congrArg (Slot.own l) fin.symm
  | some c=>
   rw [hx] at fin okU; have kc:=okU c rfl; cases hy:V.getD t none with
   | none=>rw [hy] at fin; refine bI (oF (k:=true) (PWd.pt (qY (k:=false) (j:=true) (gF (d:= .lst (c.map bG)) (aE 3 rfl (pv 3)) eA) fun _=>qC (gF (d:= .non) (aE 4 rfl (pv 4)) eA))) rfl (bI (eG (d:=wsD (some c)) 2 rfl (pv 2) (hJ (i:=0) (ds:=[wsD (some c), .non]) (PEd.bor (PEd.val (eU (ds:=[wsD (some c), .non]) (aH (aE 3 rfl (pv 3)) (aH (aE 4 (d:= .non) rfl (pv 4)) bF)) (aU rfl)))) (PEd.ic (oD (k:=false) rfl zint (pd_isN (d:= .lst (c.map bG)) (aE 3 rfl (pv 3)) eA)) rfl) (by decide) rfl fun _ _=>rfl) ln ⟨.inr rfl, .inr rfl, .inr ?_, .inl rfl, .inl rfl,trivial⟩))); exact congrArg (Slot.own l) fin.symm
   | some d=>
    rw [hy] at fin; refine bI (fR (k:=false) (PWd.pt (qY (k:=false) (j:=false) (gF (d:= .lst (c.map bG)) (aE 3 rfl (pv 3)) eA) fun _=>qC (gF (d:= .lst (d.map bG)) (aE 4 rfl (pv 4)) eA))) rfl ?_); have cl:=kc.le
    have ef:((c.map bG).filter fun z=>decide (intsOf z∈d)).map (fun z=>z)=((bC p).filter fun f=>decide (f∈c) && decide (f∈d)).map bG:=by rw [List.map_id',List.filter_map,bc_some kc]; refine congrArg (qQ bG) (nX fun g _=> ?_); show decide (intsOf (bG g)∈d)=_; rw [xP]
    refine bI (eG (d:=wsD (some ((bC p).filter fun f=>decide (f∈c) && decide (f∈d)))) 2 rfl (pv 2) (PEd.val (PEd.cast (uZ (ds:=c.map bG) (N:=["_law_filling_here","_law_there"]) (M:=["_law_one","_law_other","_law_found","_law_here","_law_there"]) (cap:=[none,some 4]) (sc:=bJ sDue) (Tb:=fun z=>[.val z, .val (.lst (d.map bG))]) (fun z=>decide (intsOf z∈d)) (fun z=>z) (nV (aE 3 (d:= .lst (c.map bG)) rfl (pv 3))) (by rw [aD]; omega) rfl (by decide+kernel) rfl (by decide+kernel) rfl (fun cl C fp s H z hz=>fU 0 (dJ (i:=0) nd2 rfl (Or.inl rfl))) (fun z hz=>⟨.inl rfl, .inr rfl,trivial⟩) (fun cl C fp s H z hz=> .inr ⟨_,rfl, ?_⟩) fun cl C2 fp s H z hz _=>(aE 0 rfl (pv 0))) (by rw [ef]))) ln ⟨.inr rfl, .inr rfl, .inr ?_, .inl rfl, .inl rfl,trivial⟩)
    ·obtain ⟨g,hg,rfl⟩:=mem_tups hz; rw [xP]; exact PTd.cast (pQ (d:=bG g) (ds:=d.map bG) (aE 0 rfl (pv 0)) (aE 1 rfl (pv 1)) (qK _) (mL d) (by have:=kB d; show (A.deeper _).units+1+_<cLine; omega)) (by rw [vU])
    ·exact congrArg (Slot.own l) fin.symm
 ·have e:(vW (U.map wsD) (V.map wsD)).length=(bC p).length:=by rw [rB,aD,aD,hU.len,hV.len,Nat.min_self]
  rw [e]; exact bI (iW 2 rfl (pv 2) rfl)
theorem ok_told32 {CN:Addr} (F:Fun K "_law_told" "_law_told" sTold f fd) (zisinstance:mg "isinstance"=none) (zint:mg "int"=none) (xk:Xk34 K mg CN) (hm:mg "_law_told"=some (.ref f)) (GW:dC P w K mg base "both_wishes" 3 3 (CBws K)∧oM P w K mg base "both_wishes" 3 3 XBws (.ref CN) [] []):dC P w K mg base "_law_told" 4 3 (CTold32 K):=by
 have nd:(["_law_size_here","_law_one","_law_other","_law_found","e"]:List Str).Nodup:=by decide+kernel
 refine gL (N:=["_law_size_here","_law_one","_law_other","_law_found","e"]) (ps:=["_law_size_here","_law_one","_law_other"]) (k:=3) F ⟨rfl,rfl,rfl,nd,rfl,by decide+kernel,by decide+kernel⟩ hm (fun _ _ _ _ _ _ us hl=>match us,hl with | [_,_,_],_=>rfl) fun cdv A outer s H E hr ds r hl c=> ?_
 obtain ⟨p,U,V,hp,hU,hV,rfl,hc⟩:=c; refine bA (eB (ds:=[.non, .int 0]) 3 nd rfl (Or.inl rfl) (eU (ds:=[.non, .int 0]) (aH eA (aH bP bF)) (aU rfl)) fun l2=> ?_)
 rcases hc with ⟨hG,rfl⟩ | ⟨hG,rfl⟩
 ·refine bA (psd_tryN (bI (psd_setixW (m:=mkM (bwQ (bC p) U V)) (dss:=mkL (bwQ (bC p) U V)) 3 rfl (pv 3) (dI (ds:=[dM p, .lst (U.map wsD), .lst (V.map wsD)]) GW.1 hr rfl (aH (aE 0 rfl (pv 0)) (aH (aE 1 rfl (pv 1)) (aH (aE 2 rfl (pv 2)) bF))) ⟨p,U,V,hp,hU,hV,hG,rfl,rfl⟩ trivial rfl) fun l ls=> ?_))); exact bI (psd_retX 3 rfl (pv 3) (fun v F H g=>⟨l2,l,ls,rfl,g⟩) rfl)
 ·obtain ⟨CL,m1,q1⟩:=xk.le; obtain ⟨C1,k1⟩:=xk.nc; obtain ⟨C2,k2⟩:=xk.nt; obtain ⟨C3,k3⟩:=xk.nd; obtain ⟨C4,k4⟩:=xk.tg; refine bA (psd_try (cls:= .ref CN) 4 nd rfl rfl rfl m1 q1 (fun ξ pn F0 tk=> ?_) fun a oe pn hp' hc=> ?_)
  ·exact bI (psd_asgE (px_callO (ds:=[dM p, .lst (U.map wsD), .lst (V.map wsD)]) (dds:=[]) GW.2 (there_ent rfl) hr rfl (aH (aE 0 rfl (pv 0)) (aH (aE 1 rfl (pv 1)) (aH (aE 2 rfl (pv 2)) bF))) (fun _=>RepL.nil) ⟨p,U,V,hp,hU,hV,hG,rfl⟩ rfl (Takes.o tk)))
  ·refine bA (zI (ds:=[.non, .int 0]) (d:= .int 2) (n:=1) 3 rfl (pv 3) bP bP (by decide) ?_); refine bI (iN (k:=true) (PWd.pt (iP (k:=true) (j:=true) (kP (pd_isinXB 4 hp' hc xk.xc rfl zisinstance rfl xk.ve.1 boot_veK xk.ve.2 rfl (pv 4))) fun _=>nT (kP (pd_isinX 4 hp' hc xk.xc rfl zisinstance rfl xk.nw.1 xk.nw.2 rfl (pv 4))))) (fun _=> ?_) fun h=>by cases h); refine bI (zI (ds:=[.non, .int 2]) (d:= .int 1) (n:=1) 3 rfl (pv 3) (PEd.cast (pN mM bP (oD rfl zint (pd_isinXT 4 hp' hc xk.xc rfl zisinstance rfl k1.1 rfl k2.1 rfl k3.1 rfl k4.1 (kit_any4 k1.2 k2.2 k3.2 k4.2) rfl (pv 4)))) rfl) bP (by decide) ?_); exact bI (iW 3 rfl (pv 3) rfl)
theorem rH:∀W:List (Option (List (List Int))),((W.map wsD).any fun z=>deq z (.lst []))=decide (some []∈W)
 | []=>rfl
 | o::W=>by
  rw [bD,List.any_cons,rH W]
  have:deq (wsD o) (.lst [])=decide (o=some []):=by
   cases o with
   | none=>rfl
   | some c=>cases c<;>rfl
  rw [this]
  by_cases q:o=some []
  ·rw [q]; simp
  ·rw [decide_eq_false q,Bool.false_or]
   by_cases q2:some []∈W
   ·rw [decide_eq_true q2,decide_eq_true (aM _ q2)]
   ·rw [decide_eq_false q2,decide_eq_false fun z=>(aS.mp z).elim (fun e=>q e.symm) q2]
theorem ok_rt32 (F:Fun K "_law_right" "_law_right" sRt f fd) (hm:mg "_law_right"=some (.ref f)) (GT:dC P w K mg base "_law_told" 4 3 (CTold32 K)) (GI:dC P w K mg base "_law_is_wish" 3 2 CIsWish):dC P w K mg base "_law_right" 5 4 CRt32:=by
 have nd:(["_law_size_here","_law_one","_law_other","_law_due_here","_law_found","_law_refused"]:List Str).Nodup:=by decide+kernel
 refine gL (N:=["_law_size_here","_law_one","_law_other","_law_due_here","_law_found","_law_refused"]) (ps:=["_law_size_here","_law_one","_law_other","_law_due_here"]) (k:=4) F ⟨rfl,rfl,rfl,nd,rfl,by decide+kernel,by decide+kernel⟩ hm (fun _ _ _ _ _ _ us hl=>match us,hl with | [_,_,_,_],_=>rfl) fun cdv A outer s H E hr ds r hl c=> ?_
 obtain ⟨p,U,V,hp,hU,hV,rfl,rfl⟩:=c; have hr3:=hr.mono (show 3≤4 by decide); have hu:(A.deeper (envOfC "_law_right" (bJ sRt) s.heap.objs.size f cdv)).units+4<cLine:=by have:=hr.un; omega
 obtain ⟨h1,h2,h3,h4,h5⟩:=sz14 p hp
 have wok:∀o∈bwQ (bC p) U V,∀M,o=some M→∀ws∈M,ws.length≤100:=fun o ho M hM ws hw=>by rw [(mB hp (bw_sub hU hV o ho M hM ws hw)).len]; omega
 by_cases hn:some []∈bwQ (bC p) U V
 ·refine bA (psd_asg (d:= .lst [.non, .int 1]) (PEd.val (dI (ds:=[dM p, .lst (U.map wsD), .lst (V.map wsD)]) (r:= .own [.non, .int 1]) GT hr rfl (aH (aE 0 rfl (pv 0)) (aH (aE 1 rfl (pv 1)) (aH (aE 2 rfl (pv 2)) bF))) ⟨p,U,V,hp,hU,hV,rfl, .inr ⟨hn,rfl⟩⟩ trivial rfl)) (pgd_lst (js:=[4,5]) rfl (fG (dJ (i:=4) nd rfl (Or.inl rfl)) (fG (dJ (i:=5) nd rfl (Or.inl rfl)) lR)) rfl rfl) ?_); generalize bwQ (bC p) U V=W at hn wok; refine bA (iN (k:=true) (PTd.cast (pQ (d:= .lst []) (ds:=W.map wsD) (PEd.val (eU (ds:=[]) bF (aU rfl))) (aE 3 rfl (pv 3)) rfl (tG W) (by have:=qD W; show (A.deeper _).units+1+_<cLine; omega)) (by rw [rH,decide_eq_true hn])) (fun _=> ?_) fun h=>by cases h); exact bI (fS (r:= .val (.bl true)) (PEd.cast (sV (i:=1) (j:=1) (aE 5 rfl (pv 5)) bP) rfl) trivial rfl)
 ·have rt:CTold32 K [dM p, .lst (U.map wsD), .lst (V.map wsD)] (wR K (mkM (bwQ (bC p) U V)) (mkL (bwQ (bC p) U V))):=⟨p,U,V,hp,hU,hV,rfl, .inl ⟨hn,rfl⟩⟩; generalize bwQ (bC p) U V=W at hn wok rt; refine bA (psd_unW (m:=mkM W) (dss:=mkL W) 4 5 rfl (fG (dJ (i:=4) nd rfl (Or.inl rfl)) (fG (dJ (i:=5) nd rfl (Or.inl rfl)) lR)) (dI (ds:=[dM p, .lst (U.map wsD), .lst (V.map wsD)]) GT hr rfl (aH (aE 0 rfl (pv 0)) (aH (aE 1 rfl (pv 1)) (aH (aE 2 rfl (pv 2)) bF))) rt trivial rfl) fun l3 ls3=> ?_); refine sU (sd':=[.val (dM p), .val (.lst (U.map wsD)), .val (.lst (V.map wsD)), .val (.lst (W.map wsD)),oO K (mkM W) l3 ls3 (mkL W), .val (.int 0)]) (Le.refl _) ?_; refine bA (fR (k:=false) (PTd.cast (pQ (d:= .lst []) (ds:=W.map wsD) (PEd.val (eU (ds:=[]) bF (aU rfl))) (aE 3 rfl (pv 3)) rfl (tG W) (by have:=qD W; show (A.deeper _).units+1+_<cLine; omega)) (by rw [rH,decide_eq_false hn])) rfl (eF ?_)); exact bI (fS (PEd.lendO 4 rfl (zG rfl) rfl (PEd.cast (pd_and (k:=true) (j:=true) (PEd.cast (sV (i:=0) (j:=0) (aE 5 rfl (pv 5)) bP) rfl) fun _=>pd_one (dI (ds:=[.lst (W.map wsD), .lst (W.map wsD)]) (r:= .val (.bl true)) GI hr3 rfl (aH (PEd.cast (aE 4 rfl (pv 4)) (by rw [qX])) (aH (aE 3 rfl (pv 3)) bF)) ⟨W,wok,rfl,rfl⟩ trivial rfl)) rfl)) trivial rfl)
theorem ok_law (F:Fun K "law" "law" vD f fd) (zlen:mg "len"=none) (zzip:mg "zip"=none) (ztuple:mg "tuple"=none) (GC:dC P w K mg base "_law_cell_at" 1 2 CCell) (GZ:dC P w K mg base "_law_small" 2 1 CSmall) (GF:dC P w K mg base "_law_fillings" 2 1 CLFill) (GW:dC P w K mg base "_law_wish" 2 2 CWish) (GM:dC P w K mg base "_law_met" 2 4 CMe32) (GU:dC P w K mg base "_law_due" 1 2 CDue32) (GY:dC P w K mg base "_law_copy" 1 1 CCopyW) (GR:dC P w K mg base "_law_right" 5 4 CRt32) {CN:Addr} (GB:dC P w K mg base "both_wishes" 3 3 (CBws K)∧oM P w K mg base "both_wishes" 3 3 XBws (.ref CN) [] []) (GX:dC P w K mg base "_law_stream" 1 2 uL) (GD:dC P w K mg base "does_wish" 4 3 CDoes) (GI:dC P w K mg base "_law_is_wish" 3 2 CIsWish):FnOk P w K mg base CX0 6 f fd ["_law_script"] (spC K 1 CLaw):=by
 have nd:(["_law_script","_law_size_here","_law_some_here","_law_one","_law_other","_law_due_here","_law_handed","_law_found","_law_cell","_law_table","_law_x","_law_may","_law_told_here","_law_each","_law_at"]:List Str).Nodup:=by decide+kernel
 refine def_fn (N:=["_law_script","_law_size_here","_law_some_here","_law_one","_law_other","_law_due_here","_law_handed","_law_found","_law_cell","_law_table","_law_x","_law_may","_law_told_here","_law_each","_law_at"]) (ps:=["_law_script"]) (k:=5) F ⟨rfl,rfl,rfl,nd,rfl,by decide+kernel,by decide+kernel⟩ fun cdv A outer s H E hr ds r hl c=> ?_
 obtain ⟨ns,rfl,hns,rfl⟩:=c; have hr1:=hr.mono (show 1≤5 by decide); have hr2:=hr.mono (show 2≤5 by decide); have hr3:=hr.mono (show 3≤5 by decide); have hr4:=hr.mono (show 4≤5 by decide); have hu:(A.deeper (envOfC "law" (bJ vD) s.heap.objs.size f cdv)).units+6<cLine:=by have:=hr.un; omega
 have cell:∀ {sd:List Slot} {p1 p2 p3 p4:Pos} {j1:Nat} (k:Nat),k≤1000→sd[0]? =some (.val (.scr ns))→PEd (pA CX0 P w K mg base ["_law_script","_law_size_here","_law_some_here","_law_one","_law_other","_law_due_here","_law_handed","_law_found","_law_cell","_law_table","_law_x","_law_may","_law_told_here","_law_each","_law_at"] "law" (bJ vD) f cdv A outer s H E).nox sd (.Call (.Name "_law_cell_at" p1) [.Name "_law_script" p2, .Constant (.int (k:Int)) j1 p3] [] p4) (.val (.int (ns.getD k 0))):=fun k hk hs=>dI (ds:=[.scr ns, .int (k:Int)]) GC hr1 rfl (aH (aE 0 hs (pv 0)) (aH bP bF)) ⟨ns,k,rfl,hk,rfl⟩ trivial rfl
 refine bA (iQ (d:=dM (wK (sX (ns.getD 0 0)))) 1 nd rfl (Or.inl rfl) (dI (ds:=[.int (ns.getD 0 0)]) GZ hr2 rfl (aH (cell 0 (by decide) rfl) bF) ⟨_,rfl,rfl⟩ trivial rfl) ?_); have hp:=sizeB_mem (sX (ns.getD 0 0)); generalize wK (sX (ns.getD 0 0))=p at hp; refine bA (eB (ds:=(bC p).map bG) 2 nd rfl (Or.inl rfl) (dI (ds:=[dM p]) GF hr2 rfl (aH (aE 1 rfl (pv 1)) bF) ⟨p,hp,rfl,rfl⟩ trivial rfl) fun l=>iE 2 rfl ?_); have f9:(bC p).length≤64:=kO hp; have fp:=qJ (p:=p); have ndA:=rV hp; obtain ⟨h1,h2,h3,h4,h5⟩:=sz14 p hp; refine bA (eB (ds:=(tX (ns.getD 1 0) (bC p)).map wsD) 3 nd rfl (Or.inl rfl) (dI (ds:=[.int (ns.getD 1 0), .lst ((bC p).map bG)]) GW hr2 rfl (aH (cell 1 (by decide) rfl) (aH (aE 2 rfl (pv 2)) bF)) ⟨_,bC p,fp,f9,rfl,rfl⟩ trivial rfl) fun l3=>iE 3 rfl ?_); have hU:=wish_wc hp (ns.getD 1 0); generalize tX (ns.getD 1 0) (bC p)=U at hU; refine bA (eB (ds:=(tX (ns.getD 2 0) (bC p)).map wsD) 4 nd rfl (Or.inl rfl) (dI (ds:=[.int (ns.getD 2 0), .lst ((bC p).map bG)]) GW hr2 rfl (aH (cell 2 (by decide) rfl) (aH (aE 2 rfl (pv 2)) bF)) ⟨_,bC p,fp,f9,rfl,rfl⟩ trivial rfl) fun l4=>iE 4 rfl ?_); have hV:=wish_wc hp (ns.getD 2 0); generalize tX (ns.getD 2 0) (bC p)=V0 at hV; refine byKey (K:=∀ (V:Wsh),WC (bC p) V→PSd _ [.val (.scr ns), .val (dM p), .val (.lst ((bC p).map bG)), .val (.lst (U.map wsD)), .val (.lst (V.map wsD)), .un, .un, .un, .un, .un, .un, .un, .un, .un, .un] _ _) (fun key=>bA (iN (k:=decide (ns.getD 3 0%2=1)) (rY (dB fP (cell 3 (by decide) rfl) bP (by decide)) bP) (fun _=>bI (eB (ds:=(meN (bC p) U V0 (ns.getD 3 0) (bC p).length).map wsD) 4 nd rfl (Or.inl rfl) (dI (ds:=[.lst (U.map wsD), .lst (V0.map wsD), .lst ((bC p).map bG), .int (ns.getD 3 0)]) GM hr2 rfl (aH (aE 3 rfl (pv 3)) (aH (aE 4 rfl (pv 4)) (aH (aE 2 rfl (pv 2)) (aH (cell 3 (by decide) rfl) bF)))) ⟨p,U,V0,_,hp,hU,hV,rfl,rfl⟩ trivial rfl) fun l6=>iE 4 rfl (key _ (me_wc ndA hU hV _)))) fun _=>eF (key V0 hV))) ?_; clear hV V0; intro V hV; refine bA (eB (ds:=(bwQ (bC p) U V).map wsD) 5 nd rfl (Or.inl rfl) (dI (ds:=[.lst (U.map wsD), .lst (V.map wsD)]) GU hr1 rfl (aH (aE 3 rfl (pv 3)) (aH (aE 4 rfl (pv 4)) bF)) ⟨p,U,V,hp,hU,hV,rfl,rfl⟩ trivial rfl) fun l5=>iE 5 rfl ?_); have rt1:CRt32 [dM p, .lst (U.map wsD), .lst (V.map wsD), .lst ((bwQ (bC p) U V).map wsD)] (.val (.bl true)):=⟨p,U,V,hp,hU,hV,rfl,rfl⟩; have rt2:CRt32 [dM p, .lst (V.map wsD), .lst (U.map wsD), .lst ((bwQ (bC p) U V).map wsD)] (.val (.bl true)):=⟨p,V,U,hp,hV,hU,by rw [bw_comm],rfl⟩; have cb:some []∉bwQ (bC p) U V→CBws K [dM p, .lst (U.map wsD), .lst (V.map wsD)] (ooR K (mkM (bwQ (bC p) U V)) (mkL (bwQ (bC p) U V))):=fun hn=>⟨p,U,V,hp,hU,hV,hn,rfl,rfl⟩
 have wc:some []∉bwQ (bC p) U V→WC (bC p) (bwQ (bC p) U V):=bw_wc ndA hU hV; have mb:∀T,(∀k,k<(bC p).length→T.getD k []∈bC p)→(jD (bwQ (bC p) U V) (bC p) T).isNone=((jD U (bC p) T).isNone && (jD V (bC p) T).isNone):=fun T hT=>miss_bw hT
 have wl:(bwQ (bC p) U V).length=(bC p).length:=bw_len _ _ _; generalize bwQ (bC p) U V=W at rt1 rt2 cb wc mb wl; refine sU (sd':=[.val (.scr ns), .val (dM p), .val (.lst ((bC p).map bG)), .val (.lst (U.map wsD)), .val (.lst (V.map wsD)), .val (.lst (W.map wsD)), .un, .un, .un, .un, .un, .un, .un, .un, .un]) (Le.refl _) ?_; have lU:U.length≤100:=by rw [hU.len]; omega
 have lV:V.length≤100:=by rw [hV.len]; omega
 refine bA (eB (ds:=[.lst (U.map wsD), .lst (V.map wsD)]) 6 nd rfl (Or.inl rfl) (eU (ds:=[.lst (U.map wsD), .lst (V.map wsD)]) (aH (PEd.val (dI (ds:=[.lst (U.map wsD)]) GY hr1 rfl (aH (aE 3 rfl (pv 3)) bF) ⟨U,lU,rfl,rfl⟩ trivial rfl)) (aH (PEd.val (dI (ds:=[.lst (V.map wsD)]) GY hr1 rfl (aH (aE 4 rfl (pv 4)) bF) ⟨V,lV,rfl,rfl⟩ trivial rfl)) bF)) (aU rfl)) fun l7=>iE 6 rfl ?_); refine sU (sd':=[.val (.scr ns), .val (dM p), .val (.lst ((bC p).map bG)), .val (.lst (U.map wsD)), .val (.lst (V.map wsD)), .val (.lst (W.map wsD)), .val (.lst [.lst (U.map wsD), .lst (V.map wsD)]), .un, .un, .un, .un, .un, .un, .un, .un]) (Le.refl _) ?_; have pU:=tG U; have pV:=tG V; have dU:=qD U; have dV:=qD V
 have pp:pl (.lst [.lst (U.map wsD), .lst (V.map wsD)])=true:=by show (plL (U.map wsD) && (plL (V.map wsD) && true))=true; rw [pU,pV]; rfl
 have same:∀ {sd:List Slot} {p1 p2 p3 p4 p5:Pos},sd[3]? =some (.val (.lst (U.map wsD)))→sd[4]? =some (.val (.lst (V.map wsD)))→sd[6]? =some (.val (.lst [.lst (U.map wsD), .lst (V.map wsD)]))→PEd (pA CX0 P w K mg base ["_law_script","_law_size_here","_law_some_here","_law_one","_law_other","_law_due_here","_law_handed","_law_found","_law_cell","_law_table","_law_x","_law_may","_law_told_here","_law_each","_law_at"] "law" (bJ vD) f cdv A outer s H E).nox sd (.Compare (.Name "_law_handed" p1) [.Eq] [.List [.Name "_law_one" p2, .Name "_law_other" p3] p4] p5) (.val (.bl true)):=fun q3 q4 q6=>PEd.cast (pd_eqD (ra:= .val (.lst [.lst (U.map wsD), .lst (V.map wsD)])) (rb:= .val (.lst [.lst (U.map wsD), .lst (V.map wsD)])) (aE 6 q6 (pv 6)) (PEd.val (eU (ds:=[.lst (U.map wsD), .lst (V.map wsD)]) (aH (aE 3 q3 (pv 3)) (aH (aE 4 q4 (pv 4)) bF)) (aU rfl))) trivial trivial (.inr ⟨rfl,rfl⟩) pp pp (u_of' hu (by show max (mV _+1) (max (mV _+1) 0)+1+1≤6; omega))) (by show DL.R.val (.bl (deq (.lst [.lst (U.map wsD), .lst (V.map wsD)]) (.lst [.lst (U.map wsD), .lst (V.map wsD)])))=_; rw [deq_refl _ pp])
 refine bA (fR (k:=false) (PWd.pt (qY (k:=false) (j:=false) (nF (k:=true) (kP (dI (ds:=[dM p, .lst (U.map wsD), .lst (V.map wsD), .lst (W.map wsD)]) (r:= .val (.bl true)) GR hr rfl (aH (aE 1 rfl (pv 1)) (aH (gX (n:=0) (PEd.bor (aE 6 rfl (pv 6))) bP rfl fun _ _=>rfl) (aH (gX (n:=1) (PEd.bor (aE 6 rfl (pv 6))) bP rfl fun _ _=>rfl) (aH (aE 5 rfl (pv 5)) bF)))) rt1 trivial rfl))) fun _=>qC (nF (k:=true) (kP (dI (ds:=[dM p, .lst (V.map wsD), .lst (U.map wsD), .lst (W.map wsD)]) (r:= .val (.bl true)) GR hr rfl (aH (aE 1 rfl (pv 1)) (aH (gX (n:=1) (PEd.bor (aE 6 rfl (pv 6))) bP rfl fun _ _=>rfl) (aH (gX (n:=0) (PEd.bor (aE 6 rfl (pv 6))) bP rfl fun _ _=>rfl) (aH (aE 5 rfl (pv 5)) bF)))) rt2 trivial rfl))))) rfl (eF ?_))
 by_cases hn:some []∈W
 ·refine bA (iN (k:=true) (PTd.cast (pQ (d:= .lst []) (ds:=W.map wsD) (PEd.val (eU (ds:=[]) bF (aU rfl))) (aE 5 rfl (pv 5)) rfl (tG W) (by have:=qD W; show (A.deeper _).units+1+_<cLine; omega)) (by rw [rH,decide_eq_true hn])) (fun _=> ?_) fun h=>by cases h); exact bI (fS (same rfl rfl rfl) trivial rfl)
 refine bA (fR (k:=false) (PTd.cast (pQ (d:= .lst []) (ds:=W.map wsD) (PEd.val (eU (ds:=[]) bF (aU rfl))) (aE 5 rfl (pv 5)) rfl (tG W) (by have:=qD W; show (A.deeper _).units+1+_<cLine; omega)) (by rw [rH,decide_eq_false hn])) rfl (eF ?_)); have hW:=wc hn; have oW:=(hW.wn ndA).wish hp; have oU:=(hU.wn ndA).wish hp; have oV:=(hV.wn ndA).wish hp; clear wc rt1 rt2; refine bA (psd_setOO (m:=mkM W) (dss:=mkL W) 7 nd rfl (Or.inl rfl) (dI (ds:=[dM p, .lst (U.map wsD), .lst (V.map wsD)]) GB.1 hr3 rfl (aH (aE 1 rfl (pv 1)) (aH (gX (n:=0) (PEd.bor (aE 6 rfl (pv 6))) bP rfl fun _ _=>rfl) (aH (gX (n:=1) (PEd.bor (aE 6 rfl (pv 6))) bP rfl fun _ _=>rfl) bF))) (cb hn) trivial rfl) fun l7 ls7=> ?_); refine sU (sd':=[.val (.scr ns), .val (dM p), .val (.lst ((bC p).map bG)), .val (.lst (U.map wsD)), .val (.lst (V.map wsD)), .val (.lst (W.map wsD)), .val (.lst [.lst (U.map wsD), .lst (V.map wsD)]),oO K (mkM W) l7 ls7 (mkL W), .un, .un, .un, .un, .un, .un, .un]) (Le.refl _) ?_; obtain ⟨cs,hcs⟩:∃cs:List Int,DL.cutD (ns.map D.int) (some 4) (some 20)=cs.map D.int:=⟨_,by unfold DL.cutD; rw [← lK,← oA]⟩; refine bA (rX (ds:=cs.map D.int) (fun _ sd=>sd=[.val (.scr ns), .val (dM p), .val (.lst ((bC p).map bG)), .val (.lst (U.map wsD)), .val (.lst (V.map wsD)), .val (.lst (W.map wsD)), .val (.lst [.lst (U.map wsD), .lst (V.map wsD)]),oO K (mkM W) l7 ls7 (mkL W), .un, .un, .un, .un, .un, .un, .un]) (nV (PEd.val (PEd.cast (pd_slS (ol:=some 4) (oh:=some 20) (aE 0 rfl (pv 0)) bP bP) (by rw [hcs])))) ⟨_,Le.refl _,rfl⟩ (fun t d sdt hd ht=> ?_) fun sdn hn2=> ?_)
 ·obtain ⟨_,rfl⟩:=sD hd; subst ht; generalize cs.getD t 0=c; have tk:=tb32_ok hp hW c; have mt:=mb _ tk.2; refine ⟨[.val (.scr ns), .val (dM p), .val (.lst ((bC p).map bG)), .val (.lst (U.map wsD)), .val (.lst (V.map wsD)), .val (.lst (W.map wsD)), .val (.lst [.lst (U.map wsD), .lst (V.map wsD)]),oO K (mkM W) l7 ls7 (mkL W), .val (.int c), .un, .un, .un, .un, .un, .un],fU 8 (dJ (i:=8) nd rfl (Or.inl rfl)), ?_⟩; refine bA (eB (ds:=[]) 9 nd rfl (Or.inl rfl) (eU (ds:=[]) bF (bO _)) fun l9=> ?_); refine sU (sd':=[.val (.scr ns), .val (dM p), .val (.lst ((bC p).map bG)), .val (.lst (U.map wsD)), .val (.lst (V.map wsD)), .val (.lst (W.map wsD)), .val (.lst [.lst (U.map wsD), .lst (V.map wsD)]),oO K (mkM W) l7 ls7 (mkL W), .val (.int c), .own l9 [], .un, .un, .un, .un, .un]) (Le.refl _) ?_; refine bA (jA (ds:=vW ((cO c (bC p).length).map D.int) (W.map wsD)) (fun t=>[.val (.scr ns), .val (dM p), .val (.lst ((bC p).map bG)), .val (.lst (U.map wsD)), .val (.lst (V.map wsD)), .val (.lst (W.map wsD)), .val (.lst [.lst (U.map wsD), .lst (V.map wsD)]),oO K (mkM W) l7 ls7 (mkL W), .val (.int c), .own l9 ((lO (bC p) W c t).map bG), .un, .un, .un, .un, .un]) (fun t=>[.val (.scr ns), .val (dM p), .val (.lst ((bC p).map bG)), .val (.lst (U.map wsD)), .val (.lst (V.map wsD)), .val (.lst (W.map wsD)), .val (.lst [.lst (U.map wsD), .lst (V.map wsD)]),oO K (mkM W) l7 ls7 (mkL W), .val (.int c), .own l9 ((lO (bC p) W c t).map bG), .val (.int ((cO c (bC p).length).getD t 0)), .val (wsD (W.getD t none)), .un, .un, .un]) (uY false false rfl zzip (PEd.val (dI (ds:=[.int c, .int ((bC p).length:Int)]) GX hr1 rfl (aH (aE 8 rfl (pv 8)) (aH (PEd.ic (gB rfl zlen (PEd.bor (aE 2 rfl (pv 2)))) (by rw [aD])) bF)) ⟨c,(bC p).length,rfl,by omega,rfl⟩ trivial rfl)) (aE 5 rfl (pv 5))) (Le.refl _) (fun t d hd=> ?_) (fun t d hd=> ?_) ?_)
  ·obtain ⟨x,y,e1,e2,rfl⟩:=jV hd; obtain ⟨_,rfl⟩:=sD e1; obtain ⟨_,rfl⟩:=kA e2; exact qG (js:=[10,11]) rfl (fG (dJ (i:=10) nd rfl (Or.inl rfl)) (fG (dJ (i:=11) nd rfl (Or.inl rfl)) lR)) rfl rfl
  ·obtain ⟨x,y,e1,e2,rfl⟩:=jV hd; obtain ⟨_,rfl⟩:=sD e1; obtain ⟨hw,rfl⟩:=kA e2
   have ln:((lO (bC p) W c t).map bG).length≤1000:=by unfold lO; rw [aD,aD,cN]; omega
   have fin:(lO (bC p) W c (t+1)).map bG=(lO (bC p) W c t).map bG++[bG (tb32 (bC p) ((cO c (bC p).length).getD t 0) (W.getD t none))]:=by rw [tbN32_succ,aR]; rfl
   have okW:=fun M=>hW.at t (c:=M)
   generalize (lO (bC p) W c t).map bG=done at fin ln; rw [fin]; clear fin; generalize (cO c (bC p).length).getD t 0=x; have l0:(0:Int)<((bC p).length:Int):=by omega
   have a1:=cH x (jO l0); have a2:=bZ x l0; refine bA (iQ (d:=bG ((bC p).getD (x%((bC p).length:Int)).toNat [])) 12 nd rfl (Or.inl rfl) (hJ (i:=x%((bC p).length:Int)) (PEd.bor (aE 2 rfl (pv 2))) (dB fP (aE 10 rfl (pv 10)) (PEd.ic (gB rfl zlen (PEd.bor (aE 2 rfl (pv 2)))) (by rw [aD])) l0) a1 (oJ (by omega)) fun _ _=>rfl) ?_); cases hy:W.getD t none with
   | none=>refine bA (fR (k:=false) (PWd.pt (iP (k:=false) (j:=false) (iV (d:= .non) (aE 11 rfl (pv 11)) eA) fun h=>by cases h)) rfl (eF ?_)); exact bI (eG (d:=bG ((bC p).getD (x%((bC p).length:Int)).toNat [])) 9 rfl (pv 9) (aE 12 rfl (pv 12)) ln ⟨.inr rfl, .inr rfl, .inr rfl, .inr rfl, .inr rfl, .inr rfl, .inr rfl, .inr rfl, .inr rfl, .inr rfl, .inl rfl, .inl rfl, .inl rfl, .inr rfl, .inr rfl,trivial⟩)
   | some M=>
    have kM:=okW M hy; have m0:(0:Int)<(M.length:Int):=by have:=iD.mpr kM.ne; omega
    have b1:=cH x (jO m0); have b2:=bZ x m0; have et:tb32 (bC p) x (some M)=if 0<x / 64%(2 * ((bC p).length:Int)) then M.getD (x%(M.length:Int)).toNat [] else (bC p).getD (x%((bC p).length:Int)).toNat []:=rfl
    rw [et]; refine bA (iN (k:=decide (0<x / 64%(2 * ((bC p).length:Int)))) (PWd.pt (iP (k:=true) (j:=decide (0<x / 64%(2 * ((bC p).length:Int)))) (iV (d:= .lst (M.map bG)) (aE 11 rfl (pv 11)) eA) fun _=>nT (ptd_cI op_gt (dB fP (dB gQ (aE 10 rfl (pv 10)) bP ⟨by decide,by decide⟩) (dB jU (j:=((bC p).length:Int)) bP (PEd.ic (gB rfl zlen (PEd.bor (aE 2 rfl (pv 2)))) (by rw [aD])) (iK (by decide) (cE (by omega:_≤1000) (by decide)))) (by omega)) bP (lI _)))) (fun q=> ?_) fun q=>eF ?_)
    ·rw [if_pos (of_decide_eq_true q)]; refine bI (iQ (d:=bG (M.getD (x%(M.length:Int)).toNat [])) 12 nd rfl (Or.inl rfl) (hJ (i:=x%(M.length:Int)) (PEd.bor (aE 11 (d:= .lst (M.map bG)) rfl (pv 11))) (dB fP (aE 10 rfl (pv 10)) (PEd.ic (gB rfl zlen (PEd.bor (aE 11 (d:= .lst (M.map bG)) rfl (pv 11)))) (by rw [aD])) m0) b1 (oJ (by omega)) fun _ _=>rfl) ?_); exact bI (eG (d:=bG (M.getD (x%(M.length:Int)).toNat [])) 9 rfl (pv 9) (aE 12 rfl (pv 12)) ln ⟨.inr rfl, .inr rfl, .inr rfl, .inr rfl, .inr rfl, .inr rfl, .inr rfl, .inr rfl, .inr rfl, .inr rfl, .inl rfl, .inl rfl, .inl rfl, .inr rfl, .inr rfl,trivial⟩)
    ·rw [if_neg (of_decide_eq_false q)]; exact bI (eG (d:=bG ((bC p).getD (x%((bC p).length:Int)).toNat [])) 9 rfl (pv 9) (aE 12 rfl (pv 12)) ln ⟨.inr rfl, .inr rfl, .inr rfl, .inr rfl, .inr rfl, .inr rfl, .inr rfl, .inr rfl, .inr rfl, .inr rfl, .inl rfl, .inl rfl, .inl rfl, .inr rfl, .inr rfl,trivial⟩)
  ·have e:(vW ((cO c (bC p).length).map D.int) (W.map wsD)).length=(bC p).length:=by rw [rB,aD,aD,gU,wl,Nat.min_self]
   rw [e]; generalize lO (bC p) W c (bC p).length=T at tk mt; refine iE 9 rfl ?_; refine sU (sd':=[.val (.scr ns), .val (dM p), .val (.lst ((bC p).map bG)), .val (.lst (U.map wsD)), .val (.lst (V.map wsD)), .val (.lst (W.map wsD)), .val (.lst [.lst (U.map wsD), .lst (V.map wsD)]),oO K (mkM W) l7 ls7 (mkL W), .val (.int c), .val (.lst (T.map bG)), .un, .un, .un, .un, .un]) (Le.refl _) ?_; refine bA (iQ (d:= .bl ((jD U (bC p) T).isNone && (jD V (bC p) T).isNone)) 13 nd rfl (Or.inl rfl) (pd_and (k:=(jD U (bC p) T).isNone) (j:=(jD V (bC p) T).isNone) (dI (ds:=[dM p, .lst (U.map wsD), .tup (T.map bG)]) (r:= .val (.bl (jD U (bC p) T).isNone)) GD hr4 rfl (aH (aE 1 rfl (pv 1)) (aH (aE 3 rfl (pv 3)) (aH (tO rfl ztuple (PEd.bor (aE 9 rfl (pv 9)))) bF))) ⟨p,U,T,hp,oU,tk.1,rfl,rfl⟩ trivial rfl) fun _=>pd_one (dI (ds:=[dM p, .lst (V.map wsD), .tup (T.map bG)]) (r:= .val (.bl (jD V (bC p) T).isNone)) GD hr4 rfl (aH (aE 1 rfl (pv 1)) (aH (aE 4 rfl (pv 4)) (aH (tO rfl ztuple (PEd.bor (aE 9 rfl (pv 9)))) bF))) ⟨p,V,T,hp,oV,tk.1,rfl,rfl⟩ trivial rfl)) ?_); refine bI (fR (k:=false) (PTd.lendO 7 rfl (zG rfl) (PTd.cast (ptd_neB (dI (ds:=[dM p, .lst (W.map wsD), .tup (T.map bG)]) (r:= .val (.bl (jD W (bC p) T).isNone)) GD hr4 rfl (aH (aE 1 rfl (pv 1)) (aH (PEd.cast (aE 7 rfl (pv 7)) (by rw [qX])) (aH (tO rfl ztuple (PEd.bor (aE 9 rfl (pv 9)))) bF))) ⟨p,W,T,hp,oW,tk.1,rfl,rfl⟩ trivial rfl) (aE 13 rfl (pv 13))) (by rw [mt]; simp))) rfl (eF ⟨[.val (.scr ns), .val (dM p), .val (.lst ((bC p).map bG)), .val (.lst (U.map wsD)), .val (.lst (V.map wsD)), .val (.lst (W.map wsD)), .val (.lst [.lst (U.map wsD), .lst (V.map wsD)]),oO K (mkM W) l7 ls7 (mkL W), .un, .un, .un, .un, .un, .un, .un],⟨.inr rfl, .inr rfl, .inr rfl, .inr rfl, .inr rfl, .inr rfl, .inr rfl, .inr rfl, .inl rfl, .inl rfl, .inr rfl, .inr rfl, .inr rfl, .inl rfl, .inr rfl,trivial⟩,rfl⟩))
 ·subst hn2
  have hat:(ns.getD 3 0 / 2%(W.length:Int)).toNat<W.length:=by
   have w0:(0:Int)<(W.length:Int):=by omega
   have a1:=cH (ns.getD 3 0 / 2) (jO w0); have a2:=bZ (ns.getD 3 0 / 2) w0; omega
  have eat:ns.getD 3 0 / 2%(W.length:Int)=(((ns.getD 3 0 / 2%(W.length:Int)).toNat:Nat):Int):=by
   have w0:(0:Int)<(W.length:Int):=by omega
   have a1:=cH (ns.getD 3 0 / 2) (jO w0); omega
  refine bA (iQ (d:= .int (((ns.getD 3 0 / 2%(W.length:Int)).toNat:Nat):Int)) 14 nd rfl (Or.inl rfl) (PEd.lendO 7 rfl (zG rfl) rfl (PEd.ic (dB fP (i:=ns.getD 3 0 / 2) (j:=(W.length:Int)) (dB gQ (cell 3 (by decide) rfl) bP ⟨by decide,by decide⟩) (PEd.ic (gB rfl zlen (PEd.bor (aE 7 rfl (pv 7)))) (by rw [qX,aD])) (by omega)) eat)) ?_); generalize (ns.getD 3 0 / 2%(W.length:Int)).toNat=n at hat; clear eat
  have wok:∀o∈W,∀M,o=some M→∀ws∈M,ws.length≤100:=fun o ho M hM ws hw=>by rw [(mB hp ((hW.ok o ho M hM).sub ws hw)).len]; omega
  have mc:=mk_cnt W
  have hmn:(mkM W)[n]? =some (W.getD n none).isSome:=by unfold mkM; rw [cI]; simp [dD,hat]
  have hwn:(W.map wsD)[n]? =some (wsD (W.getD n none)):=by rw [cI]; simp [dD,hat]
  have hm1:(W.getD n none).isSome=true→(mkM W)[n]? =some true:=fun h=>by rw [hmn,h]
  have k1:(W.getD n none).isSome=true→∃Z,shp D.non D.lst (mkM W) ((mkL W).set (((mkM W).take n).count true) [])=Z∧Z.length=W.length∧Z.take n++Z.drop (n+1)=(W.take n++W.drop (n+1)).map wsD:=fun h=>⟨_,shp_set D.non D.lst [] mc (hm1 h),by rw [yG,qX,aD],by rw [cut_set,qX,aR,oA,lK]⟩
  have k2:∃Z,shp D.non D.lst (mkM W) (mkL W)=Z∧Z.length=W.length∧Z.take n++Z.drop (n+1)=(W.take n++W.drop (n+1)).map wsD:=⟨_,qX W,aD _,by rw [aR,oA,lK]⟩; refine byKey (K:=∀dss,(∃Z,shp D.non D.lst (mkM W) dss=Z∧Z.length=W.length∧Z.take n++Z.drop (n+1)=(W.take n++W.drop (n+1)).map wsD)→PSd _ [.val (.scr ns), .val (dM p), .val (.lst ((bC p).map bG)), .val (.lst (U.map wsD)), .val (.lst (V.map wsD)), .val (.lst (W.map wsD)), .val (.lst [.lst (U.map wsD), .lst (V.map wsD)]),oO K (mkM W) l7 ls7 dss, .un, .un, .un, .un, .un, .un, .val (.int (n:Int))] _ _) (fun key=>bA (iN (k:=(W.getD n none).isSome) (PTd.lendO 7 rfl (zG rfl) (PTd.cast (iV (d:=wsD (W.getD n none)) (gX (n:=n) (PEd.bor (aE 7 rfl (pv 7))) (aE 14 rfl (pv 14)) (by rw [qX]; exact hwn) fun _ _=>rfl) eA) (by cases W.getD n none<;>rfl))) (fun h=>bI (psd_clrAtO 7 rfl (pv 7) (aE 14 rfl (pv 14)) (hm1 h) mc (fun _ _=>rfl) (key _ (k1 h)))) fun h=>eF (key _ k2))) ?_; rintro dss ⟨Z,hZ,zl,zc⟩
  have zl2:(Z.take n).length+(Z.drop (n+1)).length≤1000:=by rw [eN,lB]; omega
  have wl2:((W.map wsD).take n).length+((W.map wsD).drop (n+1)).length≤1000:=by rw [eN,lB,aD]; omega
  refine bA (fR (k:=false) (PTd.lendO 7 rfl (zG rfl) (nF (k:=true) (kP (dI (ds:=[.lst ((W.take n++W.drop (n+1)).map wsD), .lst ((W.take n++W.drop (n+1)).map wsD)]) (r:= .val (.bl true)) GI hr3 rfl (aH (PEd.val (PEd.cast (uV (d1:=Z.take n) (d2:=Z.drop (n+1)) (PEd.bor (PEd.val (PEd.cast (tI (ol:=none) (oh:=some (n:Int)) (PEd.bor (aE 7 rfl (pv 7))) trivial (aE 14 rfl (pv 14))) (by rw [yV,hZ])))) (PEd.bor (PEd.val (PEd.cast (tI (ol:=some ((n+1:Nat):Int)) (oh:=none) (PEd.bor (aE 7 rfl (pv 7))) (PEd.ic (pN mM (aE 14 rfl (pv 14)) bP) (by omega)) trivial) (by rw [zN,hZ])))) zl2) (by rw [zc]))) (aH (PEd.val (PEd.cast (uV (d1:=(W.map wsD).take n) (d2:=(W.map wsD).drop (n+1)) (PEd.bor (PEd.val (PEd.cast (tI (ol:=none) (oh:=some (n:Int)) (PEd.bor (aE 5 rfl (pv 5))) trivial (aE 14 rfl (pv 14))) (by rw [yV])))) (PEd.bor (PEd.val (PEd.cast (tI (ol:=some ((n+1:Nat):Int)) (oh:=none) (PEd.bor (aE 5 rfl (pv 5))) (PEd.ic (pN mM (aE 14 rfl (pv 14)) bP) (by omega)) trivial) (by rw [zN])))) wl2) (by rw [aR,oA,lK]))) bF)) ⟨W.take n++W.drop (n+1),fun o ho=>wok o ((aY.mp ho).elim qR jF),rfl,rfl⟩ trivial rfl)))) rfl (eF ?_)); exact bI (fS (same rfl rfl rfl) trivial rfl)
end
theorem all_mk {P:Program} {w:World} {K:aB} {h:Heap} {mg:Str→Option Value} {fa:Addr} (X:K.In h) (G:h.Ns mainGlobals mg) (hfa:mg "law"=some (.ref fa))
  {odC anC:Option Addr} {slC:Array (Option Value)} {ocC kVC dcC pmC cdC ctC:Value} {fC:Addr} {odEa anEa:Option Addr} {slEa:Array (Option Value)} {ocEa kVEa dcEa pmEa cdEa ctEa:Value} {fEa:Addr} {odFi anFi:Option Addr} {slFi:Array (Option Value)} {ocFi kVFi dcFi pmFi cdFi ctFi:Value} {fFi:Addr} {odMs anMs:Option Addr} {slMs:Array (Option Value)} {ocMs kVMs dcMs pmMs cdMs ctMs:Value} {fMs:Addr} {odDo anDo:Option Addr} {slDo:Array (Option Value)} {ocDo kVDo dcDo pmDo cdDo ctDo:Value} {fDo:Addr} {odBc anBc:Option Addr} {slBc:Array (Option Value)} {ocBc kVBc dcBc pmBc cdBc ctBc:Value} {fBc:Addr} {odBw anBw:Option Addr} {slBw:Array (Option Value)} {ocBw kVBw dcBw pmBw cdBw ctBw:Value} {fBw:Addr} {odCa anCa:Option Addr} {slCa:Array (Option Value)} {ocCa kVCa dcCa pmCa cdCa ctCa:Value} {fCa:Addr} {odW anW:Option Addr} {slW:Array (Option Value)} {ocW kVW dcW pmW cdW ctW:Value} {fW:Addr} {odX anX:Option Addr} {slX:Array (Option Value)} {ocX kVX dcX pmX cdX ctX:Value} {fX:Addr} {odZ anZ:Option Addr} {slZ:Array (Option Value)} {ocZ kVZ dcZ pmZ cdZ ctZ:Value} {fZ:Addr} {odT anT:Option Addr} {slT:Array (Option Value)} {ocT kVT dcT pmT cdT ctT:Value} {fT:Addr} {odF anF:Option Addr} {slF:Array (Option Value)} {ocF kVF dcF pmF cdF ctF:Value} {fF:Addr} {odSm anSm:Option Addr} {slSm:Array (Option Value)} {ocSm kVSm dcSm pmSm cdSm ctSm:Value} {fSm:Addr} {odJ anJ:Option Addr} {slJ:Array (Option Value)} {ocJ kVJ dcJ pmJ cdJ ctJ:Value} {fJ:Addr} {odSo anSo:Option Addr} {slSo:Array (Option Value)} {ocSo kVSo dcSo pmSo cdSo ctSo:Value} {fSo:Addr} {odWh anWh:Option Addr} {slWh:Array (Option Value)} {ocWh kVWh dcWh pmWh cdWh ctWh:Value} {fWh:Addr} {odCy anCy:Option Addr} {slCy:Array (Option Value)} {ocCy kVCy dcCy pmCy cdCy ctCy:Value} {fCy:Addr} {odIw anIw:Option Addr} {slIw:Array (Option Value)} {ocIw kVIw dcIw pmIw cdIw ctIw:Value} {fIw:Addr} {odMe anMe:Option Addr} {slMe:Array (Option Value)} {ocMe kVMe dcMe pmMe cdMe ctMe:Value} {fMe:Addr} {odDu anDu:Option Addr} {slDu:Array (Option Value)} {ocDu kVDu dcDu pmDu cdDu ctDu:Value} {fDu:Addr} {odTo anTo:Option Addr} {slTo:Array (Option Value)} {ocTo kVTo dcTo pmTo cdTo ctTo:Value} {fTo:Addr} {odRi anRi:Option Addr} {slRi:Array (Option Value)} {ocRi kVRi dcRi pmRi cdRi ctRi:Value} {fRi:Addr} {odL anL:Option Addr} {slL:Array (Option Value)} {ocL kVL dcL pmL cdL ctL:Value} {fL:Addr} {CN CL:Addr} {cdXc:ClassData} {CXo0:Addr} {CXo1:Addr} {CXo2:Addr} {CXo3:Addr}
  (aC:bK K mainGlobals "word_count"=some (some (.ref fC))) (lC:K.lookup fC=some ⟨ocC,odC, .func (bQ "word_count" "word_count" (dY xD) (dG xD) (bJ xD) .none kVC dcC pmC anC cdC ctC),slC⟩) (cC:bT K cdC "word_count"=true) (kC:bL K (.ref fC)=true) (aEa:bK K mainGlobals "with_each_word"=some (some (.ref fEa))) (lEa:K.lookup fEa=some ⟨ocEa,odEa, .func (bQ "with_each_word" "with_each_word" (dY tY) (dG tY) (bJ tY) .none kVEa dcEa pmEa anEa cdEa ctEa),slEa⟩) (cEa:bT K cdEa "with_each_word"=true) (kEa:bL K (.ref fEa)=true) (aFi:bK K mainGlobals "fillings"=some (some (.ref fFi))) (lFi:K.lookup fFi=some ⟨ocFi,odFi, .func (bQ "fillings" "fillings" (dY sFill) (dG sFill) (bJ sFill) .none kVFi dcFi pmFi anFi cdFi ctFi),slFi⟩) (cFi:bT K cdFi "fillings"=true) (kFi:bL K (.ref fFi)=true) (aMs:bK K mainGlobals "misses_at"=some (some (.ref fMs))) (lMs:K.lookup fMs=some ⟨ocMs,odMs, .func (bQ "misses_at" "misses_at" (dY zT) (dG zT) (bJ zT) .none kVMs dcMs pmMs anMs cdMs ctMs),slMs⟩) (cMs:bT K cdMs "misses_at"=true) (kMs:bL K (.ref fMs)=true) (aDo:bK K mainGlobals "does_wish"=some (some (.ref fDo))) (lDo:K.lookup fDo=some ⟨ocDo,odDo, .func (bQ "does_wish" "does_wish" (dY sDoes) (dG sDoes) (bJ sDoes) .none kVDo dcDo pmDo anDo cdDo ctDo),slDo⟩) (cDo:bT K cdDo "does_wish"=true) (kDo:bL K (.ref fDo)=true) (aBc:bK K mainGlobals "both_choices"=some (some (.ref fBc))) (lBc:K.lookup fBc=some ⟨ocBc,odBc, .func (bQ "both_choices" "both_choices" (dY sBc) (dG sBc) (bJ sBc) .none kVBc dcBc pmBc anBc cdBc ctBc),slBc⟩) (cBc:bT K cdBc "both_choices"=true) (kBc:bL K (.ref fBc)=true) (aBw:bK K mainGlobals "both_wishes"=some (some (.ref fBw))) (lBw:K.lookup fBw=some ⟨ocBw,odBw, .func (bQ "both_wishes" "both_wishes" (dY sBws) (dG sBws) (bJ sBws) .none kVBw dcBw pmBw anBw cdBw ctBw),slBw⟩) (cBw:bT K cdBw "both_wishes"=true) (kBw:bL K (.ref fBw)=true) (aCa:bK K mainGlobals "_law_cell_at"=some (some (.ref fCa))) (lCa:K.lookup fCa=some ⟨ocCa,odCa, .func (bQ "_law_cell_at" "_law_cell_at" (dY sM) (dG sM) (bJ sM) .none kVCa dcCa pmCa anCa cdCa ctCa),slCa⟩) (cCa:bT K cdCa "_law_cell_at"=true) (kCa:bL K (.ref fCa)=true) (aW:bK K mainGlobals "_law_whole"=some (some (.ref fW))) (lW:K.lookup fW=some ⟨ocW,odW, .func (bQ "_law_whole" "_law_whole" (dY rR) (dG rR) (bJ rR) .none kVW dcW pmW anW cdW ctW),slW⟩) (cW:bT K cdW "_law_whole"=true) (kW:bL K (.ref fW)=true) (aX:bK K mainGlobals "_law_stream"=some (some (.ref fX))) (lX:K.lookup fX=some ⟨ocX,odX, .func (bQ "_law_stream" "_law_stream" (dY rL) (dG rL) (bJ rL) .none kVX dcX pmX anX cdX ctX),slX⟩) (cX:bT K cdX "_law_stream"=true) (kX:bL K (.ref fX)=true) (aZ:bK K mainGlobals "_law_size"=some (some (.ref fZ))) (lZ:K.lookup fZ=some ⟨ocZ,odZ, .func (bQ "_law_size" "_law_size" (dY xQ) (dG xQ) (bJ xQ) .none kVZ dcZ pmZ anZ cdZ ctZ),slZ⟩) (cZ:bT K cdZ "_law_size"=true) (kZ:bL K (.ref fZ)=true) (aT:bK K mainGlobals "_law_two"=some (some (.ref fT))) (lT:K.lookup fT=some ⟨ocT,odT, .func (bQ "_law_two" "_law_two" (dY sTwo) (dG sTwo) (bJ sTwo) .none kVT dcT pmT anT cdT ctT),slT⟩) (cT:bT K cdT "_law_two"=true) (kT:bL K (.ref fT)=true) (aF:bK K mainGlobals "_law_fillings"=some (some (.ref fF))) (lF:K.lookup fF=some ⟨ocF,odF, .func (bQ "_law_fillings" "_law_fillings" (dY tE) (dG tE) (bJ tE) .none kVF dcF pmF anF cdF ctF),slF⟩) (cF:bT K cdF "_law_fillings"=true) (kF:bL K (.ref fF)=true) (aSm:bK K mainGlobals "_law_small"=some (some (.ref fSm))) (lSm:K.lookup fSm=some ⟨ocSm,odSm, .func (bQ "_law_small" "_law_small" (dY vF) (dG vF) (bJ vF) .none kVSm dcSm pmSm anSm cdSm ctSm),slSm⟩) (cSm:bT K cdSm "_law_small"=true) (kSm:bL K (.ref fSm)=true) (aJ:bK K mainGlobals "_law_filling"=some (some (.ref fJ))) (lJ:K.lookup fJ=some ⟨ocJ,odJ, .func (bQ "_law_filling" "_law_filling" (dY wX) (dG wX) (bJ wX) .none kVJ dcJ pmJ anJ cdJ ctJ),slJ⟩) (cJ:bT K cdJ "_law_filling"=true) (kJ:bL K (.ref fJ)=true) (aSo:bK K mainGlobals "_law_some"=some (some (.ref fSo))) (lSo:K.lookup fSo=some ⟨ocSo,odSo, .func (bQ "_law_some" "_law_some" (dY sSome) (dG sSome) (bJ sSome) .none kVSo dcSo pmSo anSo cdSo ctSo),slSo⟩) (cSo:bT K cdSo "_law_some"=true) (kSo:bL K (.ref fSo)=true) (aWh:bK K mainGlobals "_law_wish"=some (some (.ref fWh))) (lWh:K.lookup fWh=some ⟨ocWh,odWh, .func (bQ "_law_wish" "_law_wish" (dY vZ) (dG vZ) (bJ vZ) .none kVWh dcWh pmWh anWh cdWh ctWh),slWh⟩) (cWh:bT K cdWh "_law_wish"=true) (kWh:bL K (.ref fWh)=true) (aCy:bK K mainGlobals "_law_copy"=some (some (.ref fCy))) (lCy:K.lookup fCy=some ⟨ocCy,odCy, .func (bQ "_law_copy" "_law_copy" (dY wP) (dG wP) (bJ wP) .none kVCy dcCy pmCy anCy cdCy ctCy),slCy⟩) (cCy:bT K cdCy "_law_copy"=true) (kCy:bL K (.ref fCy)=true) (aIw:bK K mainGlobals "_law_is_wish"=some (some (.ref fIw))) (lIw:K.lookup fIw=some ⟨ocIw,odIw, .func (bQ "_law_is_wish" "_law_is_wish" (dY sL) (dG sL) (bJ sL) .none kVIw dcIw pmIw anIw cdIw ctIw),slIw⟩) (cIw:bT K cdIw "_law_is_wish"=true) (kIw:bL K (.ref fIw)=true) (aMe:bK K mainGlobals "_law_met"=some (some (.ref fMe))) (lMe:K.lookup fMe=some ⟨ocMe,odMe, .func (bQ "_law_met" "_law_met" (dY sMe) (dG sMe) (bJ sMe) .none kVMe dcMe pmMe anMe cdMe ctMe),slMe⟩) (cMe:bT K cdMe "_law_met"=true) (kMe:bL K (.ref fMe)=true) (aDu:bK K mainGlobals "_law_due"=some (some (.ref fDu))) (lDu:K.lookup fDu=some ⟨ocDu,odDu, .func (bQ "_law_due" "_law_due" (dY sDue) (dG sDue) (bJ sDue) .none kVDu dcDu pmDu anDu cdDu ctDu),slDu⟩) (cDu:bT K cdDu "_law_due"=true) (kDu:bL K (.ref fDu)=true) (aTo:bK K mainGlobals "_law_told"=some (some (.ref fTo))) (lTo:K.lookup fTo=some ⟨ocTo,odTo, .func (bQ "_law_told" "_law_told" (dY sTold) (dG sTold) (bJ sTold) .none kVTo dcTo pmTo anTo cdTo ctTo),slTo⟩) (cTo:bT K cdTo "_law_told"=true) (kTo:bL K (.ref fTo)=true) (aRi:bK K mainGlobals "_law_right"=some (some (.ref fRi))) (lRi:K.lookup fRi=some ⟨ocRi,odRi, .func (bQ "_law_right" "_law_right" (dY sRt) (dG sRt) (bJ sRt) .none kVRi dcRi pmRi anRi cdRi ctRi),slRi⟩) (cRi:bT K cdRi "_law_right"=true) (kRi:bL K (.ref fRi)=true) (aL:bK K mainGlobals "law"=some (some (.ref fL))) (lL:K.lookup fL=some ⟨ocL,odL, .func (bQ "law" "law" (dY vD) (dG vD) (bJ vD) .none kVL dcL pmL anL cdL ctL),slL⟩) (cL:bT K cdL "law"=true) (kL:bL K (.ref fL)=true) (nrange:bK K mainGlobals "range"=some none) (nenumerate:bK K mainGlobals "enumerate"=some none) (nlist:bK K mainGlobals "list"=some none) (nlen:bK K mainGlobals "len"=some none) (nsorted:bK K mainGlobals "sorted"=some none) (nset:bK K mainGlobals "set"=some none) (nisinstance:bK K mainGlobals "isinstance"=some none) (nint:bK K mainGlobals "int"=some none) (nbool:bK K mainGlobals "bool"=some none) (ntuple:bK K mainGlobals "tuple"=some none) (nzip:bK K mainGlobals "zip"=some none) (aCN:bK K mainGlobals "NoWish"=some (some (.ref CN))) (xa:iB K (.ref CN) "__class__"=some (some (.builtin "object.__class__"))) (xm:PySem.W.mroIn K CN (.type "object")=some true) (xs:PySem.W.subIn K (.ref CN) (.type "BaseException")=some true) (xg:iB K (.ref CN) "__getattribute__"=some (some (.builtin "BaseException.__getattribute__"))) (xn:iB K (.ref CN) "__getattr__"=some none) (xcl:PySem.W.clsIn K CN=some cdXc) (xex:nN K CN [.type "ValueError", .type "Exception", .type "BaseException", .type "object"] "ValueError.__new__"=true) (aLE:bK K mainGlobals "LeastError"=some (some (.ref CL))) (xle:xX K (.ref CN) (.ref CL)=some true) (xnw:cD K (.ref CN) (.ref CN)=some true) (nVE:bK K mainGlobals "ValueError"=some none) (xve:cD K (.ref CN) (.type "ValueError")=some true) (aX0:bK K mainGlobals "NoChange"=some (some (.ref CXo0))) (xo0:cD K (.ref CN) (.ref CXo0)=some false) (aX1:bK K mainGlobals "NoText"=some (some (.ref CXo1))) (xo1:cD K (.ref CN) (.ref CXo1)=some false) (aX2:bK K mainGlobals "NoWindow"=some (some (.ref CXo2))) (xo2:cD K (.ref CN) (.ref CXo2)=some false) (aX3:bK K mainGlobals "TooGreat"=some (some (.ref CXo3))) (xo3:cD K (.ref CN) (.ref CXo3)=some false):
  ∃fd:FuncData,(∀ (s:Shared) (v:Value),BindsTo s fd ⟨[v],[]⟩ [("_law_script",v)])∧∀base:Heap,K.In base→base.Ns mainGlobals mg→FnOk P w K mg base CX0 6 fa fd ["_law_script"] (spC K 1 CLaw):=by
 have e:=hfa.symm.trans (bY X G aL); cases e; have zrange:=dX X G nrange; have zenumerate:=dX X G nenumerate; have zlist:=dX X G nlist; have zlen:=dX X G nlen; have zsorted:=dX X G nsorted; have zset:=dX X G nset; have zisinstance:=dX X G nisinstance; have zint:=dX X G nint; have zbool:=dX X G nbool; have ztuple:=dX X G ntuple; have zzip:=dX X G nzip; have xk:Xk34 K mg CN:=⟨⟨xa,xm,xs,xg,xn,by rw [xcl]; rfl⟩,xex,⟨CL,bY X G aLE,xle⟩,⟨bY X G aCN,xnw⟩,⟨dX X G nVE,xve⟩,⟨CXo0,bY X G aX0,xo0⟩,⟨CXo1,bY X G aX1,xo1⟩,⟨CXo2,bY X G aX2,xo2⟩,⟨CXo3,bY X G aX3,xo3⟩⟩; have FC:=gI (st:=xD) lC cC kC; have mC:=bY X G aC; have FEa:=gI (st:=tY) lEa cEa kEa; have mEa:=bY X G aEa; have FFi:=gI (st:=sFill) lFi cFi kFi; have mFi:=bY X G aFi; have FMs:=gI (st:=zT) lMs cMs kMs; have mMs:=bY X G aMs; have FDo:=gI (st:=sDoes) lDo cDo kDo; have mDo:=bY X G aDo; have FBc:=gI (st:=sBc) lBc cBc kBc; have mBc:=bY X G aBc; have FBw:=gI (st:=sBws) lBw cBw kBw; have mBw:=bY X G aBw; have FCa:=gI (st:=sM) lCa cCa kCa; have mCa:=bY X G aCa; have FW:=gI (st:=rR) lW cW kW; have mW:=bY X G aW; have FX:=gI (st:=rL) lX cX kX; have mX:=bY X G aX; have FZ:=gI (st:=xQ) lZ cZ kZ; have mZ:=bY X G aZ; have FT:=gI (st:=sTwo) lT cT kT; have mT:=bY X G aT; have FF:=gI (st:=tE) lF cF kF; have mF:=bY X G aF; have FSm:=gI (st:=vF) lSm cSm kSm; have mSm:=bY X G aSm; have FJ:=gI (st:=wX) lJ cJ kJ; have mJ:=bY X G aJ; have FSo:=gI (st:=sSome) lSo cSo kSo; have mSo:=bY X G aSo; have FWh:=gI (st:=vZ) lWh cWh kWh; have mWh:=bY X G aWh; have FCy:=gI (st:=wP) lCy cCy kCy; have mCy:=bY X G aCy; have FIw:=gI (st:=sL) lIw cIw kIw; have mIw:=bY X G aIw; have FMe:=gI (st:=sMe) lMe cMe kMe; have mMe:=bY X G aMe; have FDu:=gI (st:=sDue) lDu cDu kDu; have mDu:=bY X G aDu; have FTo:=gI (st:=sTold) lTo cTo kTo; have mTo:=bY X G aTo; have FRi:=gI (st:=sRt) lRi cRi kRi; have mRi:=bY X G aRi; have FL:=gI (st:=vD) lL cL kL; refine ⟨bQ "law" "law" (dY vD) (dG vD) (bJ vD) .none kVL dcL pmL anL cdL ctL,fun s v=> .of_eq rfl,fun base _ _=> ?_⟩; have GC:=ok_count (P:=P) (w:=w) (base:=base) FC zrange mC ; have GEa:=ok_each (P:=P) (w:=w) (base:=base) FEa zrange mEa ; have GFi:=ok_fill (P:=P) (w:=w) (base:=base) FFi zrange mFi GC GEa; have GMs:=ok_misses (P:=P) (w:=w) (base:=base) FMs zenumerate mMs GFi; have GDo:=ok_does (P:=P) (w:=w) (base:=base) FDo mDo GMs; have GBc:=ok_bc32 (P:=P) (w:=w) (base:=base) FBc zlist zlen zsorted zset xk mBc ; have GBw:=ok_bws32 (P:=P) (w:=w) (base:=base) FBw zrange zlen mBw GFi GBc; have GCa:=ok_cellat (P:=P) (w:=w) (base:=base) FCa zlen mCa ; have GW:=ok_lwhole (P:=P) (w:=w) (base:=base) FW zisinstance zint zbool mW ; have GX:=ok_stream (P:=P) (w:=w) (base:=base) FX zrange mX ; have GZ:=ok_sizeB (P:=P) (w:=w) (base:=base) FZ mZ ; have GT:=ok_two (P:=P) (w:=w) (base:=base) FT mT ; have GF:=ok_lfillB (P:=P) (w:=w) (base:=base) FF zrange mF GT; have GSm:=ok_small (P:=P) (w:=w) (base:=base) FSm mSm GZ; have GJ:=ok_fillingB (P:=P) (w:=w) (base:=base) FJ zisinstance ztuple mJ GW; have GSo:=ok_some (P:=P) (w:=w) (base:=base) FSo mSo ; have GWh:=ok_wish (P:=P) (w:=w) (base:=base) FWh zlen zrange zint mWh GX GSo; have GCy:=ok_copyw (P:=P) (w:=w) (base:=base) FCy zlist mCy ; have GIw:=ok_iswish (P:=P) (w:=w) (base:=base) FIw zisinstance zlist zlen zzip mIw GJ; have GMe:=ok_me32 (P:=P) (w:=w) (base:=base) FMe zzip zlen zsorted mMe GX; have GDu:=ok_due32 (P:=P) (w:=w) (base:=base) FDu zzip zint mDu ; have GTo:=ok_told32 (P:=P) (w:=w) (base:=base) FTo zisinstance zint xk mTo GBw; have GRi:=ok_rt32 (P:=P) (w:=w) (base:=base) FRi mRi GTo GIw; exact ok_law FL zlen zzip ztuple GCa GSm GF GWh GMe GDu GCy GRi GBw GX GDo GIw
end K32
open PySem PySem.W PyProof.Rows
theorem PySem.W.Fast.tw10186055534114188603 : True := trivial
theorem PySem.W.Fast.tw12168218818797810226 : True := trivial
theorem PySem.W.Fast.tw12556849213481105004 : True := trivial
theorem PySem.W.Fast.tw12715719511765697403 : True := trivial
theorem PySem.W.Fast.tw13155677417043104840 : True := trivial
theorem PySem.W.Fast.tw13254846507824737894 : True := trivial
theorem PySem.W.Fast.tw13620782268974333786 : True := trivial
theorem PySem.W.Fast.tw14795225078781113485 : True := trivial
theorem PySem.W.Fast.tw15112842900578411237 : True := trivial
theorem PySem.W.Fast.tw15315434575013245830 : True := trivial
theorem PySem.W.Fast.tw15335732832573972546 : True := trivial
theorem PySem.W.Fast.tw15408228765290377390 : True := trivial
theorem PySem.W.Fast.tw17378824391078657573 : True := trivial
theorem PySem.W.Fast.tw2144857957466230987 : True := trivial
theorem PySem.W.Fast.tw2508023620592849157 : True := trivial
theorem PySem.W.Fast.tw2581226878368089760 : True := trivial
theorem PySem.W.Fast.tw3013932432054748807 : True := trivial
theorem PySem.W.Fast.tw3494652197345879910 : True := trivial
theorem PySem.W.Fast.tw4358873226122706615 : True := trivial
theorem PySem.W.Fast.tw4912377413226519102 : True := trivial
theorem PySem.W.Fast.tw5005692606998180082 : True := trivial
theorem PySem.W.Fast.tw5534016236275116557 : True := trivial
theorem PySem.W.Fast.tw572546879774871477 : True := trivial
theorem PySem.W.Fast.tw5910619178996373935 : True := trivial
theorem PySem.W.Fast.tw6982921828422235231 : True := trivial
theorem PySem.W.Fast.tw6999661482035475485 : True := trivial
theorem PySem.W.Fast.tw7943120733390666652 : True := trivial
theorem PySem.W.Fast.tw8525958296706602779 : True := trivial
theorem PySem.W.Fast.tw8543219171386874084 : True := trivial
theorem PySem.W.Fast.tw9739359156193328201 : True := trivial
theorem PySem.W.Fast.tw9892007360372581660 : True := trivial
set_option maxRecDepth 100000 in
set_option maxHeartbeats 0 in
theorem PySem.Challenge.cw_leastrow_k32_both_wishes_holds : PySem.Challenge.rw_leastrow_k32_both_wishes.Holds := by
 w_on; o_law; k_head; (case hw=>w_witness2)
 k_fill
 refine DL.walkD (l:=PySem.Challenge.rw_leastrow_k32_both_wishes) (k:=6) (x:="_law_script") rfl rfl ⟨rfl,by decide,by decide,rfl⟩ (fun w h Y=>PySem.W.kIn_of Y) ?F
 case F=>
  intro w mg fa h KX G hmg; refine' K32.all_mk KX G hmg ?aC ?lC ?cC ?kC ?aEa ?lEa ?cEa ?kEa ?aFi ?lFi ?cFi ?kFi ?aMs ?lMs ?cMs ?kMs ?aDo ?lDo ?cDo ?kDo ?aBc ?lBc ?cBc ?kBc ?aBw ?lBw ?cBw ?kBw ?aCa ?lCa ?cCa ?kCa ?aW ?lW ?cW ?kW ?aX ?lX ?cX ?kX ?aZ ?lZ ?cZ ?kZ ?aT ?lT ?cT ?kT ?aF ?lF ?cF ?kF ?aSm ?lSm ?cSm ?kSm ?aJ ?lJ ?cJ ?kJ ?aSo ?lSo ?cSo ?kSo ?aWh ?lWh ?cWh ?kWh ?aCy ?lCy ?cCy ?kCy ?aIw ?lIw ?cIw ?kIw ?aMe ?lMe ?cMe ?kMe ?aDu ?lDu ?cDu ?kDu ?aTo ?lTo ?cTo ?kTo ?aRi ?lRi ?cRi ?kRi ?aL ?lL ?cL ?kL ?nrange ?nenumerate ?nlist ?nlen ?nsorted ?nset ?nisinstance ?nint ?nbool ?ntuple ?nzip ?aCN ?xa ?xm ?xs ?xg ?xn ?xcl ?xex ?aLE ?xle ?xnw ?nVE ?xve ?aX0 ?xo0 ?aX1 ?xo1 ?aX2 ?xo2 ?aX3 ?xo3
  (case aC=>k_is); (case lC=>k_is); (case cC=>k_is); (case kC=>k_is); (case aEa=>k_is); (case lEa=>k_is); (case cEa=>k_is); (case kEa=>k_is); (case aFi=>k_is); (case lFi=>k_is); (case cFi=>k_is); (case kFi=>k_is); (case aMs=>k_is); (case lMs=>k_is); (case cMs=>k_is); (case kMs=>k_is); (case aDo=>k_is); (case lDo=>k_is); (case cDo=>k_is); (case kDo=>k_is); (case aBc=>k_is); (case lBc=>k_is); (case cBc=>k_is); (case kBc=>k_is); (case aBw=>k_is); (case lBw=>k_is); (case cBw=>k_is); (case kBw=>k_is); (case aCa=>k_is); (case lCa=>k_is); (case cCa=>k_is); (case kCa=>k_is); (case aW=>k_is); (case lW=>k_is); (case cW=>k_is); (case kW=>k_is); (case aX=>k_is); (case lX=>k_is); (case cX=>k_is); (case kX=>k_is); (case aZ=>k_is); (case lZ=>k_is); (case cZ=>k_is); (case kZ=>k_is); (case aT=>k_is); (case lT=>k_is); (case cT=>k_is); (case kT=>k_is); (case aF=>k_is); (case lF=>k_is); (case cF=>k_is); (case kF=>k_is); (case aSm=>k_is); (case lSm=>k_is); (case cSm=>k_is); (case kSm=>k_is); (case aJ=>k_is); (case lJ=>k_is); (case cJ=>k_is); (case kJ=>k_is); (case aSo=>k_is); (case lSo=>k_is); (case cSo=>k_is); (case kSo=>k_is); (case aWh=>k_is); (case lWh=>k_is); (case cWh=>k_is); (case kWh=>k_is); (case aCy=>k_is); (case lCy=>k_is); (case cCy=>k_is); (case kCy=>k_is); (case aIw=>k_is); (case lIw=>k_is); (case cIw=>k_is); (case kIw=>k_is); (case aMe=>k_is); (case lMe=>k_is); (case cMe=>k_is); (case kMe=>k_is); (case aDu=>k_is); (case lDu=>k_is); (case cDu=>k_is); (case kDu=>k_is); (case aTo=>k_is); (case lTo=>k_is); (case cTo=>k_is); (case kTo=>k_is); (case aRi=>k_is); (case lRi=>k_is); (case cRi=>k_is); (case kRi=>k_is); (case aL=>k_is); (case lL=>k_is); (case cL=>k_is); (case kL=>k_is); (case nrange=>k_is); (case nenumerate=>k_is); (case nlist=>k_is); (case nlen=>k_is); (case nsorted=>k_is); (case nset=>k_is); (case nisinstance=>k_is); (case nint=>k_is); (case nbool=>k_is); (case ntuple=>k_is); (case nzip=>k_is); (case aCN=>k_is); (case xa=>k_is); (case xm=>k_is); (case xs=>k_is); (case xg=>k_is); (case xn=>k_is); (case xcl=>k_is); (case xex=>k_exc); (case aLE=>k_is); (case xle=>kts_exm); (case xnw=>kit_is); (case nVE=>k_is); (case xve=>kit_is); (case aX0=>k_is); (case xo0=>kit_is); (case aX1=>k_is); (case xo1=>kit_is); (case aX2=>k_is); (case xo2=>kit_is); (case aX3=>k_is); (case xo3=>kit_is)
