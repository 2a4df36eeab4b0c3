import PyProof.Rows.All
import Wide.All
import OpenK.AllK
import Wide.FinOn
import Lean
import PyProof.EqAt
import PyProof.EqKinds
import PyProof.TupleCall
import PySem.Challenge.RW_leastrow_k40_books_walked
set_option Elab.async false
set_option linter.all false
set_option maxRecDepth 100000
open PySem.W renaming Frag→aD,keepIn→bA,nsIn→bJ,codeIn→bL,fnOf→bN,mg_of→bS,mg_none_of→eO,kitOne→fE,kia_one→fU,findIn→mO,methodObj→sM,instObj→uM,lookIn→xC
open List renaming length_map→aG,getElem?_eq_some_iff→aP,mem_cons_of_mem→aQ,mem_cons_self→aR,mem_singleton→aU,mem_of_getElem?→aY,mem_append_right→bC,size_toArray→bE,getElem?_map→bG,mem_map→bH,length_append→bK,map_map→bM,map_cons→bQ,map_append→bR,mem_append→bU,mem_cons→bV,nodup_append→bY,length_cons→cM,range→cO,map_congr_left→cR,nodup_cons→cV,getD→cY,mem_append_left→dJ,mem_singleton_self→dM,extract_eq_take_drop→dP,length_take→dU,append_nil→dY,mem_flatMap→dZ,getElem_map→eA,eraseIdx_eq_take_drop_succ→eE,filter_eq_self→eH,eq_nil_of_length_eq_zero→eQ,append_assoc→eW,mem_range→fG,getElem?_of_mem→fH,zip_cons_cons→fJ,map_nil→fO,lookup_cons→fP,getElem_of_mem→fR,getElem?_eq_getElem→fV,take_length→gB,nodup_nil→gE,take_add_one→gF,drop_eq_getElem_cons→gH,replicate→gK,getElem?_append_right→gU,getElem?_append_left→gZ,length_nil→hG,not_mem_nil→hZ,take_of_length_le→iI,length_zip→iN,getElem?_eq_none→iP,perm_append_comm→iQ,getElem_inj→jE,all_eq_true→jF,getElem?_zip_eq_some→jK,length_pos_iff→jM,mem_of_mem_eraseIdx→jS,find?_cons→jW,pairwise_singleton→kH,length_range→kQ,take_append_drop→lO,length_drop→lP,getElem_mem→lQ,getElem?_set_ne→lX,mem_filter→mG,dropLast_concat_getLast→mH,pairwise_cons→nC,pairwise_iff_getElem→nI,foldl_append→nX,pairwise_map→nY,map_take→oA,ext_getElem→oS,perm_middle→oU,getElem?_set_self→oX,eraseIdx_sublist→pX,length→qF,pairwise_append→qG,mem_of_mem_take→qH,map_id→qI,filterMap_cons→qW,map_drop→sK,set_eq_take_append_cons_drop→tZ,ext_getElem?→uD,cons→vC,of_mem_zip→xD,nil_append→xE
open PySem.Heap renaming get?_push_of_some→aM,lt_size→bB,get?_push_size→bW,get?_update_other→eC,get?_update_self→iR,size_update→oV,size_push→qJ
open Nat renaming le_of_ble_eq_true→aO,le_refl→aX,lt_of_lt_of_le→bI,lt_of_le_of_lt→cD,ne_of_lt→cH,zero_le→dA,le_trans→eD,le_of_lt→eX,lt_irrefl→fY,ne_of_gt→hV,le_succ→kJ,lt_succ_self→lU,min_self→mP,lt_succ_of_lt→oB,lt_trans→pM,pow_le_pow_right→qV,sub_self→uI,zero_add→uJ
open Bool renaming false_ne_true→bO,and_eq_true→bX,false_eq_true→cP,eq_iff_iff→jX,beq_eq_decide_eq→pY,or_eq_true→xF,false_and→yT
open Array renaming length_toList→cQ,toList_append→dW,getElem?_toList→eG,toList_extract→eM,perm_iff_toList_perm→gT,size_extract→jY,toList_push→kO,toList_reverse→lV,getElem?_eq_getElem→nG,getElem?_eq_none→oW,forIn_toList→sL,toList_inj→uK,toList_map→uL
open Option renaming some→dN,map_eq_some_iff→gP
open Int renaming emod_lt_of_pos→dQ,emod_nonneg→eU,toNat_natCast→eY,ne_of_gt→mQ,toNat→qX
open PySem.F renaming plainAttrs_list→jT,plainAttrs_dict→jU,args_tuple_add_2→nH,entry_tuple_add→nZ,slot_tuple_add→oO,slot_dict_itemiterator_iter→qK,slot_dict_setdefault→uN,slot_list_append→xN,type_list_append→xO,slot_dict_items→yU,plain_list_iadd→yV
open PySem.SetTable renaming leap→nD
namespace L2
open PySem PySem.Spec PyProof.Rows
noncomputable abbrev Key:=Sum Int Str
noncomputable def yI:Key→Value→Bool
 | .inl k,v=>Value.isInt k v
 | .inr x,v=>Value.isStrOf x v
noncomputable def keyH (w:World):Key→Int
 | .inl k=>hashInt k
 | .inr x=>hashStr w x
theorem gX:∀ {k:Key} {v:Value},yI k v=true→(∃i t,k=Sum.inl i∧v=Value.int i t)∨(∃x t,k=Sum.inr x∧v=Value.str x t)
 | .inl i,v,h=>by obtain ⟨t,e⟩:=Value.isInt_shape (k:=i) (v:=v) h; exact .inl ⟨i,t,rfl,e⟩
 | .inr x,v,h=>by obtain ⟨t,e⟩:=Value.isStrOf_shape (x:=x) (v:=v) h; exact .inr ⟨x,t,rfl,e⟩
theorem keyIs_int (i:Int) (t:Tok):yI (.inl i) (.int i t)=true:=by simp [yI,Value.isInt]
theorem keyIs_str (x:Str) (t:Tok):yI (.inr x) (.str x t)=true:=by simp [yI,Value.isStrOf]
theorem key_ll (a b:Int):decide ((Sum.inl a:Key)=Sum.inl b)=(a==b):=by
 by_cases e:a=b
 ·subst e; simp
 ·have h:¬ (Sum.inl a:Key)=Sum.inl b:=fun q=>e (Sum.inl.inj q)
  rw [decide_eq_false h]; exact (beq_eq_false_iff_ne.mpr e).symm
theorem key_rr (a b:Str):decide ((Sum.inr a:Key)=Sum.inr b)=decide (a=b):=by
 by_cases e:a=b
 ·subst e; simp
 ·have h:¬ (Sum.inr a:Key)=Sum.inr b:=fun q=>e (Sum.inr.inj q)
  rw [decide_eq_false h,decide_eq_false e]
theorem key_lr (a:Int) (b:Str):decide ((Sum.inl a:Key)=Sum.inr b)=false:=decide_eq_false (fun q=>nomatch q)
theorem key_rl (a:Str) (b:Int):decide ((Sum.inr a:Key)=Sum.inl b)=false:=decide_eq_false (fun q=>nomatch q)
noncomputable def gI (prog:Program) (w:World):PySem.KeyKind prog w Key where
 is:=yI
 hash:=keyH w
 inj:=fun v a b ha hb=>by
  rcases gX ha with ⟨i,t,rfl,rfl⟩ | ⟨x,t,rfl,rfl⟩
  ·rcases gX hb with ⟨j,u,rfl,e⟩ | ⟨y,u,rfl,e⟩
   ·injection e with e1 _; rw [e1]
   ·exact nomatch e
  ·rcases gX hb with ⟨j,u,rfl,e⟩ | ⟨y,u,rfl,e⟩
   ·exact nomatch e
   ·injection e with e1 _; rw [e1]
 byValue:=fun k v h=>by rcases gX h with ⟨i,t,rfl,rfl⟩ | ⟨x,t,rfl,rfl⟩<;>rfl
 pyHash:=fun hv h=>by
  rcases gX hv with ⟨i,t,rfl,rfl⟩ | ⟨x,t,rfl,rfl⟩
  ·exact wpAny_pyHash_int h
  ·exact wpAny_pyHash_str h
 eqBool:=fun hu hv h=>by
  rcases gX hu with ⟨i,t,rfl,rfl⟩ | ⟨x,t,rfl,rfl⟩
  ·rcases gX hv with ⟨j,u,rfl,rfl⟩ | ⟨y,u,rfl,rfl⟩
   ·rw [key_ll] at h; exact wpAny_eqBool_int h
   ·rw [key_lr] at h; exact SeqAt.EqAt.int_str i t y u _ _ _ _ h
  ·rcases gX hv with ⟨j,u,rfl,rfl⟩ | ⟨y,u,rfl,rfl⟩
   ·rw [key_rl] at h; exact SeqAt.EqAt.str_int x t j u _ _ _ _ h
   ·rw [key_rr] at h; exact wpAny_eqBool_str h
 «strs»:=fun k x t v h=>by
  rcases gX h with ⟨i,u,rfl,e⟩ | ⟨y,u,rfl,e⟩
  ·exact nomatch e
  ·injection e with e1 _
   subst e1; cases v<;>rfl
theorem mixKind_int (prog:Program) (w:World) (i:Int) (t:Tok):(gI prog w).is (.inl i) (.int i t)=true:=keyIs_int i t
theorem mixKind_str (prog:Program) (w:World) (x:Str) (t:Tok):(gI prog w).is (.inr x) (.str x t)=true:=keyIs_str x t
inductive V where
 | non | bl (b:Bool) | int (i:Int) | str (x:Str) | byt (b:Array UInt8) | flt (b:UInt64) | ref (a:Addr) | ty (n:String)
 deriving DecidableEq
noncomputable def RelV:V→Value→Prop
 | .non,u=>u=Value.none
 | .bl b,u=>u=Value.bool b
 | .int i,u=>∃t,u=Value.int i t
 | .str x,u=>∃t,u=Value.str x t
 | .byt b,u=>∃t,u=Value.bytes b t
 | .flt b,u=>∃t,u=Value.float b t
 | .ref a,u=>u=Value.ref a
 | .ty n,u=>u=Value.type n
noncomputable abbrev Vals:List V→List Value→Prop:=Paired RelV
theorem Vals.length {xs:List V} {us:List Value} (r:Vals xs us):xs.length=us.length:=Paired.length r
theorem Vals.get:∀ {xs:List V} {us:List Value} {i:Nat} {x:V},Vals xs us→xs[i]? =some x→∃u,us[i]? =some u∧RelV x u
 | _,_,_,_, .nil,e=>by simp at e
 | _,_,0,_, .cons r _,e=>by simp at e; subst e; exact ⟨_,rfl,r⟩
 | _,_,i+1,x, .cons _ t,e=>by obtain ⟨u,h1,h2⟩:=Vals.get (i:=i) (x:=x) t (by simpa using e); exact ⟨u,by simpa using h1,h2⟩
theorem Vals.append:∀ {xs ys:List V} {us ws:List Value},Vals xs us→Vals ys ws→Vals (xs++ys) (us++ws)
 | _,_,_,_, .nil,s=>s
 | _,_,_,_, .cons r t,s=> .cons r (Vals.append t s)
theorem Vals.take:∀ {xs:List V} {us:List Value} (n:Nat),Vals xs us→Vals (xs.take n) (us.take n)
 | _,_,0,_=> .nil
 | _,_,_+1, .nil=> .nil
 | _,_,n+1, .cons r t=> .cons r (Vals.take n t)
theorem Vals.drop:∀ {xs:List V} {us:List Value} (n:Nat),Vals xs us→Vals (xs.drop n) (us.drop n)
 | _,_,0,r=>r
 | _,_,_+1, .nil=> .nil
 | _,_,n+1, .cons _ t=>Vals.drop n t
noncomputable def RelO:Option V→Option Value→Prop
 | some v,some u=>RelV v u
 | none,none=>True
 | _,_=>False
noncomputable def KV {κ:Type}:List (κ × V)→List (κ × Value)→Prop:=Paired fun (p:κ × V) (q:κ × Value)=>p.1=q.1∧RelV p.2 q.2
noncomputable def kV:Key→V
 | .inl i=> .int i
 | .inr x=> .str x
inductive HO where
 /-- a list -/
 | lst (xs:List V)
 /-- a tuple (never changes) -/
 | tup (xs:List V)
 /-- a dict whose keys are ints and texts; one whose keys are tuples of ints and texts (the empty one is both) -/
 | dK (kvs:List (Key × V)) | dT (kvs:List (List Key × V))
 /-- a set of ints:its members,its size -/
 | set (S:Int→Bool) (n:Nat)
 /-- an instance of the class at C,its dict at dx,its attributes -/
 | ins (C dx:Addr) (fs:List (Str × V))
 /-- the dict of the instance at x -/
 | own (x:Addr)
 /-- the dict of an exception -/
 | xd (fs:List (Str × V))
 /-- a bound method,f of x -/
 | met (f x:Addr)
 /-- a range object lo,lo+1, .. below hi -/
 | rng (lo hi:Int)
 /-- a thing that is known to the object (the script; a dict while a loop walks it):read,never written while it is so -/
 | frz (o:Obj) (u:HO)
 /-- a code object's table -/
 | tbl (ps:Array Value)
 /-- any other thing,by what is true of its one object (a def of one's own:SetO a S n:=HO.ext fun h=> ..) -/
 | ext (φ:Heap→Prop)
noncomputable abbrev Hp:=Addr→Option HO
noncomputable def upd (H:Hp) (a:Addr) (o:HO):Hp:=fun b=>if b=a then some o else H b
theorem dD {H:Hp} {a:Addr} {o:HO}:upd H a o a=some o:=by unfold upd; rw [if_pos rfl]
theorem cE {H:Hp} {a b:Addr} {o:HO} (h:b≠a):upd H a o b=H b:=by unfold upd; rw [if_neg h]
theorem dE {H:Hp} {a b:Addr} {o:HO} (h:H a=some o) (h':H b=none):a≠b:=by intro e; subst e; rw [h] at h'; cases h'
noncomputable def IsTupD (h:Heap) (a:Addr) (items:Array Value):Prop:=∃o,h.get? a=some o∧o.cls= .type "tuple"∧(∃n,o.data= .seq items n)∧o.dict=none
theorem IsTupD.tup {h:Heap} {a:Addr} {items:Array Value} (x:IsTupD h a items):IsTup h a items:=let ⟨o,e,c,d,_⟩:=x; ⟨o,e,c,d⟩
theorem IsTupD.new (h:Heap) (items:Array Value):IsTupD (h.push {cls:= .type "tuple",data:= .seq items}) h.objs.size items:=⟨_,bW _ rfl,rfl,⟨_,rfl⟩,rfl⟩
section
variable (P:Program) (w:World)
noncomputable def ObjOk (H:Hp) (h:Heap) (a:Addr):HO→Prop
 | .lst xs=>xs.length≤sizeLine∧∃ (its:List Value) (n:Nat),Vals xs its∧h.get? a=some {cls:= .type "list",data:= .seq its.toArray n}
 | .tup xs=>xs.length≤sizeLine∧∃its:List Value,Vals xs its∧IsTupD h a its.toArray
 | .dK kvs=>kvs.length≤sizeLine∧(a==sysModules)=false∧∃vs,KV kvs vs∧h.DictOf (gI P w) a vs
 | .dT kvs=>kvs.length≤sizeLine∧(a==sysModules)=false∧∃xs:List (List Key × Addr × Value),
   Paired (fun (p:List Key × V) (q:List Key × Addr × Value)=>p.1=q.1∧H q.2.1=some (.tup (p.1.map kV))∧RelV p.2 q.2.2) kvs xs∧
   ∃o es ep,h.get? a=some o∧o.ExactDict∧o.data= .dict es ep∧es.toList=xs.map (entryOfKey (tupleKind (gI P w)))∧(xs.map (·.1)).Nodup
 | .set S n=>h.SetOf (intKind P w) a S n
 | .ins C dx fs=>H dx=some (.own a)∧fs.length≤1000∧dx≠a∧h.get? a=some (uM C dx)∧
   ∃mA,h.Ns1 dx mA∧(∀f,RelO (fs.lookup f) (mA f))∧PySem.Within mA (fs.map (·.1))
 | .own _=>∃o,h.get? a=some o
 | .xd fs=>∃mA,h.Ns1 a mA∧∀f,RelO (fs.lookup f) (mA f)
 | .rng lo hi=>∃t u v,h.get? a=some {cls:= .type "range",data:= .fields #[.int lo t, .int hi u, .int 1 v]}
 | .frz o u=>h.get? a=some o∧ObjOk H h a u
 | .tbl ps=>h.get? a=some {cls:= .none,data:= .fields ps}
 | .met f x=>h.get? a=some (sM (.ref f) (.ref x))
 | .ext φ=>φ h∧(∃o,h.get? a=some o)∧∀h1 h2:Heap,φ h1→(∀o,h1.get? a=some o→h2.get? a=some o)→φ h2
noncomputable def HOk (H:Hp) (h:Heap):Prop:=∀a o,H a=some o→ObjOk P w H h a o
end
section
variable {P:Program} {w:World} {H H':Hp} {h h':Heap} {a:Addr} {o:HO}
theorem ObjOk.lt (x:ObjOk P w H h a o):a<h.objs.size:=by
 cases o with
 | lst xs=>obtain ⟨_,_,_,_,e⟩:=x; exact bB e
 | tup xs=>obtain ⟨_,_,_,p⟩:=x; exact p.tup.lt
 | dK kvs=>obtain ⟨_,_,_,_,o,_,_,e,_⟩:=x; exact bB e
 | dT kvs=>obtain ⟨_,_,_,_,o,_,_,e,_⟩:=x; exact bB e
 | set S n=>obtain ⟨o,_,_,_,e,_⟩:=x; exact bB e
 | ins C dx fs=>obtain ⟨_,_,_,e,_⟩:=x; exact bB e
 | own y=>obtain ⟨_,e⟩:=x; exact bB e
 | xd fs=>obtain ⟨_,⟨_,_,_,e,_⟩,_⟩:=x; exact bB e
 | rng lo hi=>obtain ⟨_,_,_,e⟩:=x; exact bB e
 | frz ob u=>obtain ⟨e,_⟩:=x; exact bB e
 | tbl ps=>exact bB (show h.get? a=some _ from x)
 | met f y=>exact bB (show h.get? a=some _ from x)
 | ext φ=>obtain ⟨_,⟨_,e⟩,_⟩:=x; exact bB e
theorem Paired.mapP {α β:Type} {F G:α→β→Prop}:∀ {l₁:List α} {l₂:List β},Paired F l₁ l₂→(∀a b,F a b→G a b)→Paired G l₁ l₂
 | _,_, .nil,_=> .nil
 | _,_, .cons r t,f=> .cons (f _ _ r) (Paired.mapP t f)
theorem ObjOk.stay (x:ObjOk P w H h a o) (k:∀b u,(b=a∨H b=some (.own a))→h.get? b=some u→h'.get? b=some u)
  (ho:∀b,H b=some (.own a)→H' b=some (.own a)) (ht:∀b xs,H b=some (.tup xs)→H' b=some (.tup xs)):ObjOk P w H' h' a o:=by
 induction o with
 | lst xs=>obtain ⟨z,its,n,r,e⟩:=x; exact ⟨z,its,n,r,k _ _ (.inl rfl) e⟩
 | tup xs=>obtain ⟨z,its,r,ob,e,c⟩:=x; exact ⟨z,its,r,ob,k _ _ (.inl rfl) e,c⟩
 | dK kvs=>obtain ⟨z,y,vs,r,ob,es,ep,e,c⟩:=x; exact ⟨z,y,vs,r,ob,es,ep,k _ _ (.inl rfl) e,c⟩
 | dT kvs=>obtain ⟨z,y,xs,r,ob,es,ep,e,c⟩:=x; exact ⟨z,y,xs,Paired.mapP r fun p q z=>⟨z.1,ht _ _ z.2.1,z.2.2⟩,ob,es,ep,k _ _ (.inl rfl) e,c⟩
 | set S n=>obtain ⟨ob,es,ep,t,e,c⟩:=x; exact ⟨ob,es,ep,t,k _ _ (.inl rfl) e,c⟩
 | ins C dx fs=>obtain ⟨d,z,ne,e,mA,⟨od,es,ep,e2,c⟩,r⟩:=x; exact ⟨ho _ d,z,ne,k _ _ (.inl rfl) e,mA,⟨od,es,ep,k _ _ (.inr d) e2,c⟩,r⟩
 | own y=>obtain ⟨ob,e⟩:=x; exact ⟨ob,k _ _ (.inl rfl) e⟩
 | xd fs=>obtain ⟨mA,⟨od,es,ep,e,c⟩,r⟩:=x; exact ⟨mA,⟨od,es,ep,k _ _ (.inl rfl) e,c⟩,r⟩
 | rng lo hi=>obtain ⟨t,u,v,e⟩:=x; exact ⟨t,u,v,k _ _ (.inl rfl) e⟩
 | frz ob u ih=>obtain ⟨e,q⟩:=x; exact ⟨k _ _ (.inl rfl) e,ih q⟩
 | tbl ps=>have e:h.get? a=some {cls:= .none,data:= .fields ps}:=x; show h'.get? a=some {cls:= .none,data:= .fields ps}; exact k a _ (.inl rfl) e
 | met f y=>have e:h.get? a=some (sM (.ref f) (.ref y)):=x; show h'.get? a=some (sM (.ref f) (.ref y)); exact k a _ (.inl rfl) e
 | ext φ=>obtain ⟨p,⟨o,e⟩,st⟩:=x; exact ⟨st _ _ p fun o q=>k _ _ (.inl rfl) q,⟨o,k _ _ (.inl rfl) e⟩,st⟩
theorem HOk.lt (x:HOk P w H h) (e:H a=some o):a<h.objs.size:=(x a o e).lt
theorem HOk.fresh (x:HOk P w H h) (e:h.objs.size≤a):H a=none:=by
 cases q:H a with
 | none=>rfl
 | some u=>exact absurd (bI (x.lt q) e) (fY _)
theorem HOk.kept (x:HOk P w H h) (k:∀b u,h.get? b=some u→h'.get? b=some u):HOk P w H h':=fun a o e=>(x a o e).stay (fun b u _ q=>k b u q) (fun _ q=>q) fun _ _ q=>q
theorem HOk.laid (x:HOk P w H h) (k:∀b u,h.get? b=some u→h'.get? b=some u) (hp:h.objs.size≤a) (new:ObjOk P w (upd H a o) h' a o):HOk P w (upd H a o) h':=fun b u e=>by
 have hn:=x.fresh hp
 by_cases hb:b=a
 ·subst hb; rw [dD] at e; cases e; exact new
 ·rw [cE hb] at e; exact (x b u e).stay (fun c v _ q=>k c v q) (fun c q=>by rw [cE (dE q hn)]; exact q) fun c xs q=>by rw [cE (dE q hn)]; exact q
end
noncomputable def Rd (H:Hp) (a:Addr) (u:HO):Prop:=H a=some u∨∃o,H a=some (.frz o u)
theorem Rd.of {H:Hp} {a:Addr} {u:HO} (h:H a=some u):Rd H a u:= .inl h
theorem Rd.ok {P:Program} {w:World} {H:Hp} {h:Heap} {a:Addr} {u:HO} (r:Rd H a u) (x:HOk P w H h):ObjOk P w H h a u:=by
 rcases r with r | ⟨o,r⟩
 ·exact x a u r
 ·obtain ⟨_,q⟩:=x a _ r; exact q
noncomputable def Mut:Option HO→Prop
 | some (.lst _)=>True
 | some (.dK _)=>True
 | some (.dT _)=>True
 | some (.set _ _)=>True
 | some (.ins _ _ _)=>True
 | some (.ext _)=>True
 | _=>False
section
variable {P:Program} {w:World} {H:Hp} {h h':Heap} {x e:Addr} {o':HO}
theorem HOk.write (ok:HOk P w H h) (mu:Mut (H x)) (he:e=x∨H e=some (.own x)) (k:∀b u,b≠e→h.get? b=some u→h'.get? b=some u) (heo:∃u,h'.get? e=some u)
  (new:ObjOk P w (upd H x o') h' x o'):HOk P w (upd H x o') h':=fun b u q=>by
 have nown:∀c y,H c=some (.own y)→c≠x:=fun c y r z=>by subst z; rw [r] at mu; exact mu
 have ntup:∀c xs,H c=some (.tup xs)→c≠x:=fun c xs r z=>by subst z; rw [r] at mu; exact mu
 by_cases hb:b=x
 ·subst hb; rw [dD] at q; cases q; exact new
 ·rw [cE hb] at q
  by_cases hbe:b=e
  ·have q':H b=some (.own x):=by
    rcases he with z | z
    ·exact absurd (hbe.trans z) hb
    ·rw [hbe]; exact z
   rw [q] at q'; cases q'; obtain ⟨v,hv⟩:=heo; exact ⟨v,by rw [hbe]; exact hv⟩
  ·refine (ok b u q).stay (fun c v hc r=>k c v ?_ r) (fun c r=>by rw [cE (nown c b r)]; exact r) fun c xs r=>by rw [cE (ntup c xs r)]; exact r
   rcases hc with rfl | hc
   ·exact hbe
   ·rintro rfl
    rcases he with z | z
    ·exact nown c b hc z
    ·rw [hc] at z; cases z; exact hb rfl
end
structure Un (fs ex:List Addr) (H H':Hp) (h h':Heap):Prop where
 keep:∀b o,h.get? b=some o→H b=none→b∉fs→b∉ex→h'.get? b=some o
 slot:∀b o,h.get? b=some o→H b=none→b∈fs→b∉ex→∃sl,h'.get? b=some {o with slots:=sl}
 free:∀b o,h.get? b=some o→H b=none→b∉ex→H' b=none
 there:∀b o,h.get? b=some o→b∉ex→∃o',h'.get? b=some o'
 tups:∀b xs,H b=some (.tup xs)→H' b=some (.tup xs)
 frzs:∀b o u,H b=some (.frz o u)→H' b=some (.frz o u)
 tbls:∀b ps,H b=some (.tbl ps)→∃more,H' b=some (.tbl (ps++more))
section
variable {fs fs' ex ex':List Addr} {H H1 H2:Hp} {h h1 h2 h':Heap} {a x e:Addr} {o:HO}
theorem Un.any (u:Un fs ex H H1 h h1) {b:Addr} {ob:Obj} (q:h.get? b=some ob) (n:H b=none) (hx:b∉ex):∃sl,h1.get? b=some {ob with slots:=sl}:=by
 by_cases hb:b∈fs
 ·exact u.slot b ob q n hb hx
 ·exact ⟨ob.slots,u.keep b ob q n hb hx⟩
theorem Un.kept (k:∀b u,h.get? b=some u→h'.get? b=some u):Un fs ex H H h h':=
 ⟨fun b ob q _ _ _=>k b ob q,fun b ob q _ _ _=>⟨ob.slots,k b ob q⟩,fun _ _ _ n _=>n,fun b ob q _=>⟨ob,k b ob q⟩,fun _ _ q=>q,fun _ _ _ q=>q,fun _ ps q=>⟨#[],by rw [q]; simp⟩⟩
theorem Un.refl:Un fs ex H H h h:=Un.kept fun _ _ q=>q
theorem Un.laid (k:∀b u,h.get? b=some u→h'.get? b=some u) (hp:h.objs.size≤a) (hn:H a=none):Un fs ex H (upd H a o) h h' where
 keep:=fun b u q _ _ _=>k b u q
 slot:=fun b u q _ _ _=>⟨u.slots,k b u q⟩
 free:=fun b u q n _=>by rw [cE (cH (bI (bB q) hp))]; exact n
 there:=fun b u q _=>⟨u,k b u q⟩
 tups:=fun b xs q=>by rw [cE (dE q hn)]; exact q
 frzs:=fun b u xs q=>by rw [cE (dE q hn)]; exact q
 tbls:=fun b ps q=>⟨#[],by rw [cE (dE q hn),q]; simp⟩
theorem Un.write (mu:Mut (H x)) (he:e=x∨H e=some (.own x)) (k:∀b u,b≠e→h.get? b=some u→h'.get? b=some u) (heo:∃u,h'.get? e=some u):Un fs ex H (upd H x o) h h':=by
 have hx:∀b,H b=none→b≠x:=fun b n z=>by subst z; rw [n] at mu; exact mu
 have hb:∀b,H b=none→b≠e:=fun b n z=>by
  subst z
  rcases he with r | r
  ·exact hx b n r
  ·rw [n] at r; cases r
 have hm:∀b u,H b=some u→¬ Mut (some u)→b≠x:=fun b u q nm z=>by subst z; rw [q] at mu; exact nm mu
 refine ⟨fun b u q n _ _=>k b u (hb b n) q,fun b u q n _ _=>⟨u.slots,k b u (hb b n) q⟩,fun b u q n _=>by rw [cE (hx b n)]; exact n,fun b u q _=> ?_,
  fun b xs q=>by rw [cE (hm b _ q fun z=>z)]; exact q,fun b u xs q=>by rw [cE (hm b _ q fun z=>z)]; exact q,fun b ps q=>⟨#[],by rw [cE (hm b _ q fun z=>z),q]; simp⟩⟩
 by_cases hbe:b=e
 ·subst hbe; exact heo
 ·exact ⟨u,k b u hbe q⟩
end
noncomputable def trk (h:Heap) (H:Hp):List Addr:=(cO h.objs.size).filter fun a=>(H a).isSome
noncomputable def zL (h:Heap) (H:Hp):Heap:=PySem.W.hideAll h (trk h H)
theorem hidT_size (h:Heap) (H:Hp):(zL h H).objs.size=h.objs.size:=PySem.W.hideAll_size _ _
theorem hidT_get {h:Heap} {H:Hp} {b:Addr} {o:Obj} (e:h.get? b=some o) (n:H b=none):(zL h H).get? b=some o:=
 PySem.W.hideAll_get _ e fun hm=>by have q:(H b).isSome=true:=(mG.mp hm).2; rw [n] at q; simp at q
theorem of_hidT {h:Heap} {H:Hp} {b:Addr} {o:Obj} (e:(zL h H).get? b=some o):h.get? b=some o∧H b=none:=by
 have e':h.get? b=some o:=PySem.W.of_hideAll (trk h H) e; refine ⟨e', ?_⟩; cases q:H b with
 | none=>rfl
 | some x=>have hm:b∈trk h H:=mG.mpr ⟨fG.mpr (bB e'),by simp [q]⟩; have z:(zL h H).get? b=none:=PySem.W.hideAll_none (trk h H) hm; rw [z] at e; cases e
noncomputable def allNews (g h:Heap) (L:Addr):List (Addr × Obj):=(cO h.objs.size).filterMap fun a=>if a=L∨(g.get? a).isSome=true then none else (h.get? a).map fun o=>(a,o)
noncomputable def rest (g h:Heap) (L d:Addr):List (Addr × Obj):=(allNews g h L).filter fun p=>decide (p.1≠d)
structure Mod (K:aD) (mg:Str→Option Value) (base:Heap):Prop where
 kin:K.In base
 glob:base.Ns mainGlobals mg
 blt:∃mb,base.Ns builtinsNs mb∧∀x:Str,x≠"__name__"→mb x=bootBuiltins x
 nolimit:base.NoLimit
noncomputable def Hard:HO→Prop
 | .lst _=>False
 | .ext _=>False
 | _=>True
structure Cx where
 prog:Program
 w:World
 K:aD
 mg:Str→Option Value
 base:Heap
 A:Around
 N:List Str
 s₀:Shared
 H₀:Hp
 env:Env
 outer:List Env
 stack:List Env
 ex:List Addr
 fn:Str→Bool
 calm:Bool
 pn:List (Addr × Obj)
 xe:Value→Shared→Prop
 B₀:Hp:=H₀
 hB:∀b o,H₀ b=some o→Hard o→B₀ b=some o:=by intro b o e _; exact e
noncomputable def frs (l:List Env):List Addr:=l.filterMap (·.frame)
noncomputable abbrev Cx.fs (X:Cx):List Addr:=frs X.outer
noncomputable def Vis (sc:Scope) (x:Str):Prop:=sc.names.lookup x=some .local∨sc.names.lookup x=some .cell∨sc.names.lookup x=some .free
noncomputable def Loc (sc:Scope) (x:Str):Prop:=sc.names.lookup x=some .local∨sc.names.lookup x=some .cell
noncomputable def Look (env:Env) (h:Heap) (m:Str→Option Value) (x:Str) (u:Value):Prop:=
 (env.kindOf x=some .local∧m x=some u)∨((env.kindOf x=some .cell∨env.kindOf x=some .free)∧∃c,env.cells.lookup x=some c∧h.IsCell c (some u))
structure Cx.Ok (X:Cx):Prop where
 mod:Mod X.K X.mg X.base
 kind:X.env.scope.kind= .function
 glob:X.env.globals=mainGlobals
 blt:X.env.builtins=builtinsNs
 above:X.s₀.heap.objs.size≤X.env.locals
 inj:∀x y c,X.env.cells.lookup x=some c→X.env.cells.lookup y=some c→x=y
 has:∀x,(X.env.kindOf x=some .cell∨X.env.kindOf x=some .free)→∃c,X.env.cells.lookup x=some c
 cab:∀x c,X.fn x=true→X.env.cells.lookup x=some c→X.s₀.heap.objs.size≤c
 hd:X.calm=true→X.A.handled=none
 frames:X.A.frames=some X.stack
 stk:X.stack=X.outer∨(X.stack=X.env::X.outer∧X.env.frame=some X.env.locals)
 exf:∀b∈X.ex,b≠X.env.locals∧∀x c,X.env.cells.lookup x=some c→c≠b
 bs:∀b o,X.base.get? b=some o→X.s₀.heap.get? b=some o∧X.H₀ b=none
 bsz:X.base.objs.size≤X.s₀.heap.objs.size
 noex:∀b o,X.base.get? b=some o→b∉X.ex
 exfs:∀b∈X.ex,b∉X.fs
 funs:X.s₀.heap.FunFrames X.base X.outer
 frf:∀b∈X.fs,X.H₀ b=none
structure Inv (X:Cx) (pins:List (Addr × Obj)) (σ:List (Option V)) (H:Hp) (s:Shared):Prop where
 ok:X.Ok
 os:s.os=X.s₀.os
 bare:AllBare s.gens
 base:Un X.fs X.ex X.H₀ H X.s₀.heap s.heap
 loc:∃m,s.heap.Ns X.env.locals m∧∀ (i:Nat) (x:Str) (v:V),X.N[i]? =some x→σ[i]? =some (some v)→Vis X.env.scope x→∃u,RelV v u∧Look X.env s.heap m x u
 cell:∀x c,X.env.cells.lookup x=some c→∃v,s.heap.IsCell c v
 free:H X.env.locals=none
 freeC:∀x c,X.env.cells.lookup x=some c→H c=none
 pin:∀p∈X.pn++pins,s.heap.get? p.1=some p.2∧H p.1=none∧p.1≠X.env.locals∧p.1∉X.fs∧∀v,p.2.data≠ .cell v
 hok:HOk X.prog X.w H s.heap
 len:σ.length=X.N.length
section
variable {X:Cx} {pins:List (Addr × Obj)} {σ:List (Option V)} {H H':Hp} {s:Shared} {h':Heap}
theorem Cx.Ok.nofr (ok:X.Ok) {b:Addr} {o:Obj} (e:X.base.get? b=some o):b∉X.fs:=fun hb=>by have:=(ok.funs.mem hb).1; rw [e] at this; cases this
theorem Inv.bs (I:Inv X pins σ H s):∀b o,X.base.get? b=some o→s.heap.get? b=some o∧H b=none:=fun b o e=>⟨I.base.keep b o (I.ok.bs b o e).1 (I.ok.bs b o e).2 (I.ok.nofr e) (I.ok.noex b o e),I.base.free b o (I.ok.bs b o e).1 (I.ok.bs b o e).2 (I.ok.noex b o e)⟩
theorem Inv.bk (I:Inv X pins σ H s):∀b o,X.base.get? b=some o→s.heap.get? b=some o:=fun b o e=>(I.bs b o e).1
theorem Inv.mod (I:Inv X pins σ H s):Mod X.K X.mg X.base:=I.ok.mod
theorem Inv.kIn (I:Inv X pins σ H s):X.K.In s.heap:=I.ok.mod.kin.keeps I.bk
theorem Inv.lt (I:Inv X pins σ H s):X.env.locals<s.heap.objs.size:=let ⟨_,hn,_⟩:=I.loc; hn.lt
theorem Inv.sz (I:Inv X pins σ H s):X.s₀.heap.objs.size≤s.heap.objs.size:=eD I.ok.above (eX I.lt)
theorem Inv.nofs (I:Inv X pins σ H s) {a:Addr} (h:s.heap.objs.size≤a):a∉X.fs:=fun hb=>by obtain ⟨_,o,ho,_⟩:=I.ok.funs.mem hb; exact absurd (bI (bB ho) (eD I.sz h)) (fY _)
theorem Inv.cne (I:Inv X pins σ H s):∀x c,X.env.cells.lookup x=some c→c≠X.env.locals:=fun x c e z=>by obtain ⟨v,o,ho,hd⟩:=I.cell x c e; obtain ⟨m,⟨o',es,ep,ho',hd',_⟩,_⟩:=I.loc; rw [z,ho'] at ho; cases ho; rw [hd'] at hd; cases hd
theorem Inv.funs (I:Inv X pins σ H s):s.heap.FunFrames X.base X.outer:=by
 have all:∀ (l:List Env),(∀b∈frs l,b∈X.fs)→X.s₀.heap.FunFrames X.base l→s.heap.FunFrames X.base l:=by
  intro l
  induction l with
  | nil=>intro _ _; trivial
  | cons env r ih=>
   intro hs hl; obtain ⟨hk,⟨L,o,hf,hn,ho,hd⟩,hr⟩:=hl; have hL:L∈X.fs:=hs L (by unfold frs; rw [qW,hf]; exact aR); obtain ⟨sl,e⟩:=I.base.slot L o ho (I.ok.frf L hL) hL fun z=>I.ok.exfs L z hL
   exact ⟨hk,⟨L,_,hf,hn,e,hd⟩,ih (fun b hb=>hs b (by unfold frs; rw [qW,hf]; exact aQ _ hb)) hr⟩
 exact all X.outer (fun _ hb=>hb) I.ok.funs
theorem Inv.stack (I:Inv X pins σ H s):s.heap.FunFrames X.base X.stack:=by
 rcases I.ok.stk with e | ⟨e,hf⟩
 ·rw [e]; exact I.funs
 ·rw [e]; obtain ⟨m,hn,_⟩:=I.loc; refine .cons (by rw [I.ok.kind]; decide) hf hn ?_ I.funs; exact Heap.get?_none_of_le (eD I.ok.bsz I.ok.above)
theorem Inv.stkSub (I:Inv X pins σ H s):∀b∈frs X.stack,b∈X.env.locals::X.fs:=fun b hb=>by
 rcases I.ok.stk with e | ⟨e,hf⟩
 ·rw [e] at hb; exact aQ _ hb
 ·rw [e] at hb; unfold frs at hb; rw [qW,hf] at hb; exact hb
theorem Inv.stkFree (I:Inv X pins σ H s):∀b∈frs X.stack,H b=none:=fun b hb=>by
 rcases bV.mp (I.stkSub b hb) with e | hb
 ·rw [e]; exact I.free
 ·obtain ⟨_,o,ho,_⟩:=I.ok.funs.mem hb; exact I.base.free b o ho (I.ok.frf b hb) fun z=>I.ok.exfs b z hb
theorem Inv.step {g':Array GenState} {t':Nat} {d':Drawn} {ch:List Addr} (I:Inv X pins σ H s)
  (hch:∀b∈ch,(b∈X.ex∨X.s₀.heap.objs.size≤b)∧b≠X.env.locals∧(∀x c,X.env.cells.lookup x=some c→c≠b)∧∀p∈X.pn++pins,p.1≠b)
  (keep:∀b o,b≠X.env.locals→b∉X.fs→b∉ch→s.heap.get? b=some o→H b=none→h'.get? b=some o)
  (slot:∀b o,b≠X.env.locals→b∈X.fs→b∉ch→s.heap.get? b=some o→H b=none→∃sl,h'.get? b=some {o with slots:=sl}) (free:∀b o,b∉ch→s.heap.get? b=some o→H b=none→H' b=none)
  (there:∀b o,b∉ch→s.heap.get? b=some o→∃o',h'.get? b=some o')
  (tups:∀b xs,H b=some (.tup xs)→H' b=some (.tup xs)) (frzs:∀b o u,H b=some (.frz o u)→H' b=some (.frz o u)) (tbls:∀b ps,H b=some (.tbl ps)→∃more,H' b=some (.tbl (ps++more)))
  (ns:∀m,s.heap.Ns X.env.locals m→h'.Ns X.env.locals m) (hok:HOk X.prog X.w H' h') (hg:AllBare g'):
  Inv X pins σ H' {s with heap:=h',gens:=g',drawn:=d',toks:=t'}:=by
 have neL:∀b o,X.s₀.heap.get? b=some o→b≠X.env.locals:=fun b o e=>cH (bI (bB e) I.ok.above)
 have neC:∀b o,X.s₀.heap.get? b=some o→b∉X.ex→b∉ch:=fun b o e hx hb=>by
  rcases (hch b hb).1 with z | z
  ·exact hx z
  ·exact absurd (bI (bB e) z) (fY _)
 have cellK:∀x c,X.env.cells.lookup x=some c→∀v,s.heap.IsCell c v→h'.IsCell c v:=fun x c e v ⟨o,ho,hd⟩=>by
  have nch:c∉ch:=fun z=>(hch c z).2.2.1 x c e rfl
  by_cases hc:c∈X.fs
  ·obtain ⟨sl,q⟩:=slot c o (I.cne x c e) hc nch ho (I.freeC x c e); exact ⟨_,q,hd⟩
  ·exact ⟨o,keep c o (I.cne x c e) hc nch ho (I.freeC x c e),hd⟩
 refine ⟨I.ok,I.os,hg,⟨fun b o e n hb hx=> ?_,fun b o e n hb hx=> ?_,fun b o e n hx=> ?_,fun b o e hx=> ?_,fun b xs e=>tups b xs (I.base.tups b xs e),fun b o xs e=>frzs b o xs (I.base.frzs b o xs e),fun b ps e=> ?_⟩, ?_,fun x c e=> ?_, ?_,fun x c e=> ?_,fun p hp=> ?_,hok,I.len⟩
 ·exact keep b o (neL b o e) hb (neC b o e hx) (I.base.keep b o e n hb hx) (I.base.free b o e n hx)
 ·obtain ⟨sl,e1⟩:=I.base.slot b o e n hb hx; obtain ⟨sl',e2⟩:=slot b _ (neL b o e) hb (neC b o e hx) e1 (I.base.free b o e n hx); exact ⟨sl',e2⟩
 ·obtain ⟨o',e1⟩:=I.base.there b o e hx; exact free b o' (neC b o e hx) e1 (I.base.free b o e n hx)
 ·obtain ⟨o',e1⟩:=I.base.there b o e hx; exact there b o' (neC b o e hx) e1
 ·obtain ⟨m1,e1⟩:=I.base.tbls b ps e; obtain ⟨m2,e2⟩:=tbls b _ e1; exact ⟨m1++m2,by rw [e2,Array.append_assoc]⟩
 ·obtain ⟨m,hn,hl⟩:=I.loc; refine ⟨m,ns m hn,fun i x v e1 e2 e3=> ?_⟩; obtain ⟨u,r,l⟩:=hl i x v e1 e2 e3; refine ⟨u,r, ?_⟩
  rcases l with l | ⟨k,c,e,z⟩
  ·exact .inl l
  ·exact .inr ⟨k,c,e,cellK x c e _ z⟩
 ·obtain ⟨v,z⟩:=I.cell x c e; exact ⟨v,cellK x c e v z⟩
 ·obtain ⟨m,⟨o,_,_,ho,_⟩,_⟩:=I.loc; exact free _ o (fun z=>(hch _ z).2.1 rfl) ho I.free
 ·obtain ⟨v,o,ho,hd⟩:=I.cell x c e; exact free c o (fun z=>(hch c z).2.2.1 x c e rfl) ho (I.freeC x c e)
 ·obtain ⟨e,n,ne,nf,d⟩:=I.pin p hp; have nch:p.1∉ch:=fun z=>(hch p.1 z).2.2.2 p hp rfl
  exact ⟨keep p.1 p.2 ne nf nch e n,free p.1 p.2 nch e n,ne,nf,d⟩
theorem Inv.un {t':Nat} (I:Inv X pins σ H s) (u:Un X.fs [] H H' s.heap h') (hok:HOk X.prog X.w H' h'):Inv X pins σ H' {s with heap:=h',toks:=t'}:=by
 obtain ⟨m,⟨o,es,ep,ho,r⟩,_⟩:=id I.loc; obtain ⟨sl,hL⟩:=u.any ho I.free (by simp)
 exact I.step (g':=s.gens) (d':=s.drawn) (ch:=[]) (fun _ z=>nomatch z) (fun b o _ hb _ e n=>u.keep b o e n hb (by simp)) (fun b o _ hb _ e n=>u.slot b o e n hb (by simp)) (fun b o _ e n=>u.free b o e n (by simp)) (fun b o _ e=>u.there b o e (by simp)) u.tups u.frzs u.tbls (fun m' hm=>by
  obtain ⟨o',es',ep',ho',r'⟩:=hm; rw [ho] at ho'; cases ho'
  exact ⟨_,es',ep',hL,r'⟩) hok I.bare
theorem Inv.call {g':Array GenState} {t':Nat} {d':Drawn} {ch:List Addr} (I:Inv X pins σ H s) (u:Un (frs X.stack) ch H H' s.heap h') (hok:HOk X.prog X.w H' h') (hg:AllBare g')
  (hch:∀b∈ch,(b∈X.ex∨X.s₀.heap.objs.size≤b)∧b≠X.env.locals∧(∀x c,X.env.cells.lookup x=some c→c≠b)∧∀p∈X.pn++pins,p.1≠b):
  Inv X pins σ H' {s with heap:=h',gens:=g',drawn:=d',toks:=t'}:=by
 obtain ⟨m,⟨o,es,ep,ho,r⟩,_⟩:=id I.loc; obtain ⟨sl,hL⟩:=u.any ho I.free fun z=>(hch _ z).2.1 rfl
 exact I.step (ch:=ch) hch (fun b o hL hb hc e n=>u.keep b o e n (fun z=>(bV.mp (I.stkSub b z)).elim hL hb) hc) (fun b o _ _ hc e n=>u.any e n hc) (fun b o hc e n=>u.free b o e n hc) (fun b o hc e=>u.there b o e hc) u.tups u.frzs u.tbls (fun m' hm=>by
  obtain ⟨o',es',ep',ho',r'⟩:=hm; rw [ho] at ho'; cases ho'
  exact ⟨_,es',ep',hL,r'⟩) hok hg
theorem Inv.turned {t':Nat} {it:Addr} (I:Inv X pins σ H s) (k:∀b o,b≠it→s.heap.get? b=some o→h'.get? b=some o) (hn:H it=none) (hL:it≠X.env.locals)
  (h1:it∈X.ex∨X.s₀.heap.objs.size≤it) (h2:∀x c,X.env.cells.lookup x=some c→c≠it) (h3:∀p∈X.pn++pins,p.1≠it):Inv X pins σ H {s with heap:=h',toks:=t'}:=by
 have nit:∀b u,H b=some u→b≠it:=fun b u e z=>by rw [z,hn] at e; cases e
 refine I.step (g':=s.gens) (d':=s.drawn) (ch:=[it]) (fun b hb=> ?_) (fun b o _ _ hc e _=>k b o (fun z=>hc (by simp [z])) e) (fun b o _ _ hc e _=>⟨o.slots,k b o (fun z=>hc (by simp [z])) e⟩) (fun _ _ _ _ n=>n)
  (fun b o hc e=>⟨o,k b o (fun z=>hc (by simp [z])) e⟩) (fun _ _ e=>e) (fun _ _ _ e=>e) (fun b ps e=>⟨#[],by rw [e]; simp⟩) (fun m hm=> ?_) (fun b u e=> ?_) I.bare
 ·have e:b=it:=by simpa using hb
  subst e; exact ⟨h1,hL,h2,h3⟩
 ·obtain ⟨o,es,ep,ho,r⟩:=hm; exact ⟨o,es,ep,k _ o (Ne.symm hL) ho,r⟩
 ·refine (I.hok b u e).stay (fun c v hc q=>k c v ?_ q) (fun _ q=>q) fun _ _ q=>q
  rcases hc with z | z
  ·rw [z]; exact nit b u e
  ·exact nit c _ z
theorem Inv.tok (I:Inv X pins σ H s) (t:Nat):Inv X pins σ H {s with toks:=t}:=I.un (h':=s.heap) (t':=t) Un.refl I.hok
theorem Inv.kept {t':Nat} (I:Inv X pins σ H s) (k:∀b u,s.heap.get? b=some u→h'.get? b=some u):Inv X pins σ H {s with heap:=h',toks:=t'}:=I.un (Un.kept k) (I.hok.kept k)
theorem Inv.laid {a:Addr} {o:HO} {t':Nat} (I:Inv X pins σ H s) (k:∀b u,s.heap.get? b=some u→h'.get? b=some u) (hp:s.heap.objs.size≤a) (new:ObjOk X.prog X.w (upd H a o) h' a o):
  Inv X pins σ (upd H a o) {s with heap:=h',toks:=t'}:=I.un (Un.laid k hp (I.hok.fresh hp)) (I.hok.laid k hp new)
theorem Inv.write {x e:Addr} {o:HO} {t':Nat} (I:Inv X pins σ H s) (mu:Mut (H x)) (he:e=x∨H e=some (.own x)) (k:∀b u,b≠e→s.heap.get? b=some u→h'.get? b=some u) (heo:∃u,h'.get? e=some u)
  (new:ObjOk X.prog X.w (upd H x o) h' x o):Inv X pins σ (upd H x o) {s with heap:=h',toks:=t'}:=I.un (Un.write mu he k heo) (I.hok.write mu he k heo new)
theorem Inv.pins_of {pins':List (Addr × Obj)} (I:Inv X pins σ H s) (h:∀p∈pins',s.heap.get? p.1=some p.2∧H p.1=none∧p.1≠X.env.locals∧p.1∉X.fs∧∀v,p.2.data≠ .cell v):Inv X pins' σ H s:=
 ⟨I.ok,I.os,I.bare,I.base,I.loc,I.cell,I.free,I.freeC,fun p hp=>(bU.mp hp).elim (fun z=>I.pin p (dJ _ z)) (h p),I.hok,I.len⟩
theorem nodup_ix {N:List Str} (hN:N.Nodup) {i j:Nat} {x:Str} (a:N[i]? =some x) (b:N[j]? =some x):i=j:=by obtain ⟨h1,e1⟩:=aP.mp a; obtain ⟨h2,e2⟩:=aP.mp b; exact (jE hN).mp (e1.trans e2.symm)
theorem store_ok2 {M:Model} {A:Around} {E:Value→Shared→Prop} {i:Nat} {x:Str} {v:V} {u:Value} {Q:Unit→Shared→Prop} (I:Inv X pins σ H s) (hN:X.N.Nodup) (hi:X.N[i]? =some x) (hx:Loc X.env.scope x) (r:RelV v u)
  (h:∀s',Inv X pins (σ.set i (some v)) H s'→(∃a,Heap.SameBut a s.heap s'.heap∧(a=X.env.locals∨X.env.cells.lookup x=some a))→Q () s') (hf:X.fn x=true∨X.env.scope.names.lookup x=some .local:=by first | exact .inl rfl | exact .inr rfl | assumption):wpAny M A (storeName X.env x u) Q E s:=by
 obtain ⟨m,hn,hl⟩:=id I.loc; have hcls:(X.env.scope.kind== .class || (X.env.scope.kind== .module && X.env.locals !=X.env.globals))=false:=by rw [I.ok.kind]; rfl
 have hiσ:i<σ.length:=by rw [I.len]; exact (aP.mp hi).1
 have cne:=I.cne
 have tracked:∀ {a:Addr} {h':Heap},(∃o,s.heap.get? a=some o∧H a=none)→Heap.SameBut a s.heap h'→HOk X.prog X.w H h':=fun {a h'} ha hs b ob e=>by
  obtain ⟨_,_,hfree⟩:=ha; refine (I.hok b ob e).stay (fun c w' hc q=>(hs.2 c ?_).trans q) (fun _ q=>q) fun _ _ q=>q
  rintro rfl
  rcases hc with rfl | hc
  ·rw [hfree] at e; cases e
  ·rw [hfree] at hc; cases hc
 rcases hx with hk | hk
 ·refine wpAny_storeName_local hk hn (fun h' hn' hs=> ?_) hcls; obtain ⟨oL,_,_,hoL,_⟩:=id hn; refine h _ ⟨I.ok,I.os,I.bare,⟨fun b o e n hb hx=> ?_,fun b o e n hb hx=> ?_,I.base.free,fun b o e hx=> ?_,I.base.tups,I.base.frzs,I.base.tbls⟩,⟨_,hn',fun j y v' e1 e2 e3=> ?_⟩,fun y c e=> ?_,I.free,I.freeC,fun p hp=> ?_,tracked ⟨oL,hoL,I.free⟩ hs,by simpa using I.len⟩ ⟨_,hs, .inl rfl⟩
  ·exact (hs.2 b (cH (bI (bB e) I.ok.above))).trans (I.base.keep b o e n hb hx)
  ·obtain ⟨sl,e1⟩:=I.base.slot b o e n hb hx; exact ⟨sl,(hs.2 b (cH (bI (bB e) I.ok.above))).trans e1⟩
  ·obtain ⟨o',e1⟩:=I.base.there b o e hx; exact ⟨o',(hs.2 b (cH (bI (bB e) I.ok.above))).trans e1⟩
  ·by_cases hj:j=i
   ·subst hj; rw [hi] at e1; cases e1; rw [oX hiσ] at e2; cases e2; exact ⟨u,r, .inl ⟨hk,by simp⟩⟩
   ·rw [lX (Ne.symm hj)] at e2; obtain ⟨u',r',q⟩:=hl j y v' e1 e2 e3; refine ⟨u',r', ?_⟩
    rcases q with ⟨k,e⟩ | ⟨k,c,e,z⟩
    ·refine .inl ⟨k, ?_⟩; have:y≠x:=fun e=>hj (nodup_ix hN e1 (e▸hi))
     simp [this,e]
    ·exact .inr ⟨k,c,e,z.sameBut hs (cne y c e)⟩
  ·obtain ⟨w',z⟩:=I.cell y c e; exact ⟨w',z.sameBut hs (cne y c e)⟩
  ·obtain ⟨e,n,ne,nf,d⟩:=I.pin p hp; exact ⟨(hs.2 p.1 ne).trans e,n,ne,nf,d⟩
 ·have hfn:X.fn x=true:=by
   rcases hf with z | z
   ·exact z
   ·rw [z] at hk; cases hk
  obtain ⟨c,hc⟩:=I.ok.has x (.inl hk); obtain ⟨w',z⟩:=I.cell x c hc; refine wpAny_storeName_cell I.ok.kind hk hc z (fun h' hc' hs=> ?_); obtain ⟨oc,hoc,hocd⟩:=id z; refine h {s with heap:=h'} ⟨I.ok,I.os,I.bare,⟨fun b o e n hb hx=> ?_,fun b o e n hb hx=> ?_,I.base.free,fun b o e hx=> ?_,I.base.tups,I.base.frzs,I.base.tbls⟩,⟨m,hn.sameBut hs (Ne.symm (cne x c hc)),fun j y v' e1 e2 e3=> ?_⟩,fun y c' e=> ?_,I.free,I.freeC,fun p hp=> ?_,tracked ⟨oc,hoc,I.freeC x c hc⟩ hs,by simpa using I.len⟩ ⟨c,hs, .inr hc⟩
  ·exact (hs.2 b (cH (bI (bB e) (I.ok.cab x c hfn hc)))).trans (I.base.keep b o e n hb hx)
  ·obtain ⟨sl,e1⟩:=I.base.slot b o e n hb hx; exact ⟨sl,(hs.2 b (cH (bI (bB e) (I.ok.cab x c hfn hc)))).trans e1⟩
  ·obtain ⟨o',e1⟩:=I.base.there b o e hx; exact ⟨o',(hs.2 b (cH (bI (bB e) (I.ok.cab x c hfn hc)))).trans e1⟩
  ·by_cases hj:j=i
   ·subst hj; rw [hi] at e1; cases e1; rw [oX hiσ] at e2; cases e2; exact ⟨u,r, .inr ⟨.inl hk,c,hc,hc'⟩⟩
   ·rw [lX (Ne.symm hj)] at e2; obtain ⟨u',r',q⟩:=hl j y v' e1 e2 e3; refine ⟨u',r', ?_⟩
    rcases q with q | ⟨k,c',e,z'⟩
    ·exact .inl q
    ·refine .inr ⟨k,c',e,z'.sameBut hs ?_⟩; rintro rfl; exact hj (nodup_ix hN e1 (I.ok.inj _ _ _ e hc▸hi))
  ·by_cases hcc:c'=c
   ·subst hcc; exact ⟨_,hc'⟩
   ·obtain ⟨w2,z2⟩:=I.cell y c' e; exact ⟨w2,z2.sameBut hs hcc⟩
  ·obtain ⟨e,n,ne,nf,d⟩:=I.pin p hp; refine ⟨(hs.2 p.1 ?_).trans e,n,ne,nf,d⟩; intro q; rw [q,hoc] at e; have q':oc=p.2:=dN.inj e; exact d w' (by rw [← q']; exact hocd)
theorem store_ok {M:Model} {A:Around} {E:Value→Shared→Prop} {i:Nat} {x:Str} {v:V} {u:Value} {Q:Unit→Shared→Prop} (I:Inv X pins σ H s) (hN:X.N.Nodup) (hi:X.N[i]? =some x) (hx:Loc X.env.scope x) (r:RelV v u)
  (h:∀s',Inv X pins (σ.set i (some v)) H s'→Q () s') (hf:X.fn x=true∨X.env.scope.names.lookup x=some .local:=by first | exact .inl rfl | exact .inr rfl | assumption):wpAny M A (storeName X.env x u) Q E s:=
 store_ok2 I hN hi hx r (fun s' I' _=>h s' I') hf
theorem Inv.call' {s':Shared} {ch:List Addr} (I:Inv X pins σ H s) (ho:s'.os=s.os) (u:Un (frs X.stack) ch H H' s.heap s'.heap) (hok:HOk X.prog X.w H' s'.heap) (hg:AllBare s'.gens)
  (hch:∀b∈ch,(b∈X.ex∨X.s₀.heap.objs.size≤b)∧b≠X.env.locals∧(∀x c,X.env.cells.lookup x=some c→c≠b)∧∀p∈X.pn++pins,p.1≠b):Inv X pins σ H' s':=by
 obtain ⟨h',g',d',t',o'⟩:=s'; have e:o'=s.os:=ho; subst e; exact I.call (g':=g') (t':=t') (d':=d') u hok hg hch
end
noncomputable abbrev XK:=Value→Option Addr→Hp→Prop
noncomputable abbrev St:=List (Option V)
noncomputable abbrev VK:=V→Hp→Prop
noncomputable abbrev TE:=St→Hp→VK→Prop
noncomputable abbrev TT:=St→Hp→(Bool→Hp→Prop)→Prop
noncomputable abbrev TA:=St→Hp→(List V→Hp→Prop)→Prop
structure uF where
 nx:St→Hp→Prop
 rt:VK
 bk:St→Hp→Prop:=fun _ _=>False
 ct:St→Hp→Prop:=fun _ _=>False
noncomputable abbrev TS:=uF→St→Hp→Prop
noncomputable def EP (X:Cx) (pins:List (Addr × Obj)) (σ:St) (Q:VK) (u:Value) (s':Shared):Prop:=∃v H',Inv X pins σ H' s'∧RelV v u∧Q v H'
noncomputable def TP (X:Cx) (pins:List (Addr × Obj)) (σ:St) (Q:Bool→Hp→Prop) (b:Bool) (s':Shared):Prop:=∃H',Inv X pins σ H' s'∧Q b H'
noncomputable def AP (X:Cx) (pins:List (Addr × Obj)) (σ:St) (Q:List V→Hp→Prop) (us:List Value) (s':Shared):Prop:=∃vs H',Inv X pins σ H' s'∧Vals vs us∧Q vs H'
noncomputable def SP (X:Cx) (pins:List (Addr × Obj)) (D:uF) (f:Flow) (s':Shared):Prop:=
 match f with
 | .next=>∃σ' H',Inv X pins σ' H' s'∧D.nx σ' H'
 | .brk=>∃σ' H',Inv X pins σ' H' s'∧D.bk σ' H'
 | .cont=>∃σ' H',Inv X pins σ' H' s'∧D.ct σ' H'
 | .ret u=>∃v σ' H',Inv X pins σ' H' s'∧RelV v u∧D.rt v H'
noncomputable def PE (X:Cx) (e:Expr) (t:TE):Prop:=
 ∀ (pins:List (Addr × Obj)) (s:Shared) (σ:St) (H:Hp) (Q:VK),Inv X pins σ H s→t σ H Q→wpAny (model X.prog X.w) X.A (eval e X.env) (EP X pins σ Q) X.xe s
noncomputable def PT (X:Cx) (e:Expr) (t:TT):Prop:=
 ∀ (pins:List (Addr × Obj)) (s:Shared) (σ:St) (H:Hp) (Q:Bool→Hp→Prop),Inv X pins σ H s→t σ H Q→wpAny (model X.prog X.w) X.A (isTrue e X.env (eval e X.env)) (TP X pins σ Q) X.xe s
noncomputable def PW (X:Cx) (e:Expr) (t:TT):Prop:=
 ∀ (whole:Sem Value) (pins:List (Addr × Obj)) (s:Shared) (σ:St) (H:Hp) (Q:Bool→Hp→Prop),Inv X pins σ H s→t σ H Q→wpAny (model X.prog X.w) X.A (isTrue e X.env whole) (TP X pins σ Q) X.xe s
theorem PW.pt {X:Cx} {e:Expr} {t:TT} (h:PW X e t):PT X e t:=h _
noncomputable def PA (X:Cx) (es:List Expr) (t:TA):Prop:=
 ∀ (pos:Pos) (pins:List (Addr × Obj)) (s:Shared) (σ:St) (H:Hp) (Q:List V→Hp→Prop),Inv X pins σ H s→t σ H Q→wpAny (model X.prog X.w) X.A (spliced (backTo pos (starEach es X.env))) (AP X pins σ Q) X.xe s
noncomputable def PS (X:Cx) (st:Stmt) (t:TS):Prop:=
 ∀ (pins:List (Addr × Obj)) (s:Shared) (σ:St) (H:Hp) (D:uF),Inv X pins σ H s→t D σ H→wpAny (model X.prog X.w) X.A (exec st X.env) (SP X pins D) X.xe s
noncomputable def PSs (X:Cx) (st:List Stmt) (t:TS):Prop:=
 ∀ (pins:List (Addr × Obj)) (s:Shared) (σ:St) (H:Hp) (D:uF),Inv X pins σ H s→t D σ H→wpAny (model X.prog X.w) X.A (execs st X.env) (SP X pins D) X.xe s
theorem thn {α:Type} {t:Sem α} {Q Q':α→Shared→Prop} {M:Model} {A:Around} {E:Value→Shared→Prop} {s:Shared} (h:wpAny M A t Q E s) (hQ:∀a s,Q a s→Q' a s):wpAny M A t Q' E s:=wpAny_mono h hQ fun _ _ x=>x
section
variable {X:Cx}
noncomputable def lY (i:Nat):TE:=fun σ H Q=>∃v,σ[i]? =some (some v)∧Q v H
noncomputable def tC (v:V):TE:=fun _ H Q=>Q v H
theorem pe_var {i:Nat} {x:Str} {pos:Pos} (hN:X.N[i]? =some x) (hv:Vis X.env.scope x) (hd:(x==("__debug__":Str))=false:=by decide) (hcd:(x==("__classdict__":Str))=false:=by decide):PE X (.Name x pos) (lY i):=by
 intro pins s σ H Q I h; obtain ⟨v,e,h⟩:=h; obtain ⟨m,hn,hl⟩:=I.loc; obtain ⟨u,r,l⟩:=hl i x v hN e hv; have fin:EP X pins σ Q u s:=⟨v,H,I,r,h⟩
 rcases l with ⟨hk,hm⟩ | ⟨hk,c,hc,hcell⟩
 ·exact wpAny_Name (wpAny_loadName_local I.ok.kind hk hn hm fin) hd
 ·rcases hk with hk | hk
  ·exact wpAny_Name (wpAny_loadName_cell I.ok.kind hk hc hcell fin) hd
  ·exact wpAny_Name (wpAny_loadName_free I.ok.kind hk hc hcell fin hcd) hd
theorem pe_int {i j pos}:PE X (.Constant (.int i) j pos) (tC (.int i)):=fun _ _ _ H _ I h=>wpAny_Constant_int ⟨.int i,H,I.tok _,⟨_,rfl⟩,h⟩
theorem pe_bl {b j pos}:PE X (.Constant (.bool b) j pos) (tC (.bl b)):=fun _ _ _ H _ I h=>Constant_bool ⟨.bl b,H,I,rfl,h⟩
theorem pe_non {j pos}:PE X (.Constant .none j pos) (tC .non):=fun _ _ _ H _ I h=>Constant_none ⟨.non,H,I,rfl,h⟩
theorem pe_str {x j pos}:PE X (.Constant (.str x) j pos) (tC (.str x)):=fun _ _ _ H _ I h=>Calls.Constant_str ⟨.str x,H,I.tok _,⟨_,rfl⟩,h⟩
noncomputable def Gl (X:Cx) (x:Str):Prop:=X.env.kindOf x=some .globalImplicit
theorem ld_glob {E:Value→Shared→Prop} {pins:List (Addr × Obj)} {s:Shared} {σ:St} {H:Hp} {x:Str} {u:Value} {pos:Pos} {Q:Value→Shared→Prop} (I:Inv X pins σ H s) (hg:Gl X x) (hm:X.mg x=some u) (h:Q u s)
  (hd:(x==("__debug__":Str))=false:=by decide):wpAny (model X.prog X.w) X.A (eval (.Name x pos) X.env) Q E s:=
 Calls.Name_function_global I.ok.kind hg (Calls.loadGlobal_global (by rw [I.ok.glob]; exact I.mod.glob.keeps I.bk) hm h) hd
theorem oZ {E:Value→Shared→Prop} {pins:List (Addr × Obj)} {s:Shared} {σ:St} {H:Hp} {x:Str} {u:Value} {pos:Pos} {Q:Value→Shared→Prop} (I:Inv X pins σ H s) (hg:Gl X x) (hm:X.mg x=none) (hv:bootBuiltins x=some u) (h:Q u s)
  (hn:x≠"__name__":=by decide) (hd:(x==("__debug__":Str))=false:=by decide):wpAny (model X.prog X.w) X.A (eval (.Name x pos) X.env) Q E s:=by
 obtain ⟨mb,h1,h2⟩:=I.mod.blt; exact Calls.Name_function_global I.ok.kind hg (Calls.loadGlobal_builtin (by rw [I.ok.glob]; exact I.mod.glob.keeps I.bk) hm (by rw [I.ok.blt]; exact h1.keeps I.bk) ((h2 x hn).trans hv) h) hd
theorem pe_glob {x:Str} {v:V} {u:Value} {pos:Pos} (hg:Gl X x) (hm:X.mg x=some u) (r:RelV v u) (hd:(x==("__debug__":Str))=false:=by decide):PE X (.Name x pos) (tC v):=
 fun _ _ _ H _ I h=>ld_glob I hg hm ⟨v,H,I,r,h⟩ hd
theorem pe_bltn {x:Str} {v:V} {u:Value} {pos:Pos} (hg:Gl X x) (hm:X.mg x=none) (hv:bootBuiltins x=some u) (r:RelV v u) (hn:x≠"__name__":=by decide) (hd:(x==("__debug__":Str))=false:=by decide):PE X (.Name x pos) (tC v):=
 fun _ _ _ H _ I h=>oZ I hg hm hv ⟨v,H,I,r,h⟩ hn hd
noncomputable def t2I (ta tb:TE) (k:Int→Int→Hp→Prop):St→Hp→Prop:=fun σ H=>ta σ H fun x H1=>tb σ H1 fun y H2=>∃i j,x= .int i∧y= .int j∧k i j H2
variable {a b:Expr} {ta tb:TE} {pos:Pos}
noncomputable def tCmp (p:Int→Int→Bool) (ta tb:TE):TE:=fun σ H Q=>t2I ta tb (fun i j H2=>Q (.bl (p i j)) H2) σ H
noncomputable abbrev tLt:TE→TE→TE:=tCmp fun i j=>decide (i<j)
noncomputable abbrev tLe:TE→TE→TE:=tCmp fun i j=>decide (i≤j)
noncomputable abbrev tGt:TE→TE→TE:=tCmp fun i j=>decide (j<i)
noncomputable abbrev tGe:TE→TE→TE:=tCmp fun i j=>decide (j≤i)
noncomputable abbrev tEqI:TE→TE→TE:=tCmp fun i j=>decide (i=j)
noncomputable abbrev tNeI:TE→TE→TE:=tCmp fun i j=> !decide (i=j)
noncomputable def tB (t:TE):TT:=fun σ H Q=>t σ H fun x H1=>∃c,x= .bl c∧Q c H1
theorem pt_val {e:Expr} {t:TE} (h:PE X e t) (he:∀whole,isTrue e X.env whole=(do let v ← whole; standAt e.pos; holding [v] (truthy v)):=by intro _; rfl):PT X e (tB t):=by intro pins s σ H Q I hw; refine isTrue_plain (thn (h pins s σ H _ I hw) fun v s1 ⟨x,H1,I1,r1,q1⟩=> ?_) (he _); obtain ⟨d,rfl,q⟩:=q1; cases r1; exact wpAny_truthy_bool ⟨H1,I1,q⟩
variable {tA tB':TT} {rest:List Expr}
noncomputable def tOr (t u:TT):TT:=fun σ H Q=>t σ H fun c H1=>if c=true then Q true H1 else u σ H1 Q
noncomputable def tNot (t:TT):TT:=fun σ H Q=>t σ H fun c H1=>Q (!c) H1
theorem pw_or1 (ha:PT X a tA):PW X (.BoolOp .Or [a] pos) tA:=by
 intro wh pins s σ H Q I h; refine isTrue_or (thn (ha pins s σ H Q I h) fun c s1 e=> ?_); cases c with
 | false=>exact isTrue_or_nil e
 | true=>exact e
theorem pw_or (ha:PT X a tA) (hb:PW X (.BoolOp .Or (b::rest) pos) tB'):PW X (.BoolOp .Or (a::b::rest) pos) (tOr tA tB'):=by
 intro wh pins s σ H Q I h; refine isTrue_or (thn (ha pins s σ H _ I h) fun c s1 ⟨H1,I1,q1⟩=> ?_); cases c with
 | true=>exact ⟨H1,I1,q1⟩
 | false=>exact hb wh pins s1 σ H1 Q I1 q1
theorem pt_not (ha:PT X a tA):PT X (.UnaryOp .Not a pos) (tNot tA):=by intro pins s σ H Q I h; exact isTrue_not (ha pins s σ H (fun c H1=>Q (!c) H1) I h)
noncomputable def tAndV (ta tb:TE):TE:=fun σ H Q=>ta σ H fun x H1=>∃c,x= .bl c∧if c=true then tb σ H1 Q else Q (.bl false) H1
noncomputable def tNotV (ta:TE):TE:=fun σ H Q=>ta σ H fun x H1=>∃c,x= .bl c∧Q (.bl (!c)) H1
theorem pe_one {op} {t:TE} (h:PE X a t):PE X (.BoolOp op [a] pos) t:=fun pins s σ H Q I hw=>BoolOp_one (h pins s σ H Q I hw)
theorem pe_and (ha:PE X a ta) (hb:PE X (.BoolOp .And (b::rest) pos) tb):PE X (.BoolOp .And (a::b::rest) pos) (tAndV ta tb):=by
 intro pins s σ H Q I h; refine BoolOp_and (thn (ha pins s σ H _ I h) fun v s1 ⟨x,H1,I1,r1,q1⟩=> ?_); obtain ⟨c,rfl,q1⟩:=q1; cases r1; refine wpAny_truthy_bool ?_; cases c with
 | true=>exact hb pins s1 σ H1 Q I1 q1
 | false=>exact ⟨.bl false,H1,I1,rfl,q1⟩
theorem pe_not (ha:PE X a ta):PE X (.UnaryOp .Not a pos) (tNotV ta):=by intro pins s σ H Q I h; refine UnaryOp_ (thn (ha pins s σ H _ I h) fun v s1 ⟨x,H1,I1,r1,q1⟩=> ?_); obtain ⟨c,rfl,q1⟩:=q1; cases r1; exact not_of (wpAny_truthy_bool ⟨.bl (!c),H1,I1,rfl,q1⟩)
end
noncomputable def SqL (K:aD) (H:Hp) (a:Addr) (xs:List V):Prop:=
 Rd H a (.lst xs)∨
  ∃ (o:Obj) (its:Array Value) (n:Nat),K.lookup a=some o∧o.cls= .type "list"∧o.dict=none∧o.data= .seq its n∧its.size≤sizeLine∧Vals xs its.toList
noncomputable def SqT (K:aD) (H:Hp) (a:Addr) (xs:List V):Prop:=
 Rd H a (.tup xs)∨
  ∃ (o:Obj) (its:Array Value) (n:Nat),K.lookup a=some o∧o.cls= .type "tuple"∧o.data= .seq its n∧its.size≤sizeLine∧Vals xs its.toList
noncomputable def absV:Value→Option V
 | .none=>some .non
 | .bool b=>some (.bl b)
 | .int i _=>some (.int i)
 | .str x _=>some (.str x)
 | .bytes b _=>some (.byt b)
 | .float b _=>some (.flt b)
 | .ref a=>some (.ref a)
 | .type n=>some (.ty n)
 | _=>none
theorem RelV.abs {x:V} {u:Value} (r:RelV x u):absV u=some x:=by
 cases x with
 | non=>cases r; rfl
 | bl _=>cases r; rfl
 | int _=>obtain ⟨t,rfl⟩:=r; rfl
 | str _=>obtain ⟨t,rfl⟩:=r; rfl
 | byt _=>obtain ⟨t,rfl⟩:=r; rfl
 | flt _=>obtain ⟨t,rfl⟩:=r; rfl
 | ref _=>cases r; rfl
 | ty _=>cases r; rfl
theorem RelV.inj {x y:V} {u:Value} (r:RelV x u) (q:RelV y u):x=y:=dN.inj (r.abs.symm.trans q.abs)
theorem Vals.inj:∀ {xs ys:List V} {us:List Value},Vals xs us→Vals ys us→xs=ys
 | _,_,_, .nil, .nil=>rfl
 | _,_,_, .cons r t, .cons r' t'=>by rw [r.inj r',Vals.inj t t']
section
variable {X:Cx} {pins:List (Addr × Obj)} {σ:St} {H:Hp} {s:Shared} {a:Addr} {xs ys:List V}
theorem SqL.of {K:aD} (h:H a=some (.lst xs)):SqL K H a xs:= .inl (.inl h)
theorem SqT.of {K:aD} (h:H a=some (.tup xs)):SqT K H a xs:= .inl (.inl h)
theorem Inv.list (I:Inv X pins σ H s) (h:SqL X.K H a xs):∃its:List Value,Vals xs its∧PlainL s.heap a its.toArray∧xs.length≤sizeLine:=by
 rcases h with h | ⟨o,its,n,hk,hc,hd,hs,hz,r⟩
 ·obtain ⟨z,its,n,r,e⟩:=h.ok I.hok; exact ⟨its,r,⟨_,n,e,rfl,rfl,rfl⟩,z⟩
 ·refine ⟨its.toList,r,⟨o,n,I.kIn a o hk,hc,hd,by simpa using hs⟩, ?_⟩; have e:=r.length; simp only [cQ] at e; omega
theorem Inv.tuple (I:Inv X pins σ H s) (h:SqT X.K H a xs):∃its:List Value,Vals xs its∧IsTup s.heap a its.toArray∧xs.length≤sizeLine:=by
 rcases h with h | ⟨o,its,n,hk,hc,hs,hz,r⟩
 ·obtain ⟨z,its,r,p⟩:=h.ok I.hok; exact ⟨its,r,p.tup,z⟩
 ·refine ⟨its.toList,r,⟨o,I.kIn a o hk,hc,n,by simpa using hs⟩, ?_⟩; have e:=r.length; simp only [cQ] at e; omega
theorem Inv.list_inj (I:Inv X pins σ H s) (h:SqL X.K H a xs) (h':SqL X.K H a ys):xs=ys:=by
 obtain ⟨its,r,⟨o,n,e,_,_,d⟩,_⟩:=I.list h; obtain ⟨its',r',⟨o',n',e',_,_,d'⟩,_⟩:=I.list h'; rw [e] at e'; cases e'; rw [d] at d'; injection d' with d1 _
 have:its=its':=by simpa using congrArg Array.toList d1
 subst this; exact r.inj r'
theorem Inv.tuple_inj (I:Inv X pins σ H s) (h:SqT X.K H a xs) (h':SqT X.K H a ys):xs=ys:=by
 obtain ⟨its,r,⟨o,e,_,n,d⟩,_⟩:=I.tuple h; obtain ⟨its',r',⟨o',e',_,n',d'⟩,_⟩:=I.tuple h'; rw [e] at e'; cases e'; rw [d] at d'; injection d' with d1 _
 have:its=its':=by simpa using congrArg Array.toList d1
 subst this; exact r.inj r'
end
noncomputable abbrev Cx.wish (X:Cx) (E:Value→Shared→Prop):Cx:={X with xe:=E}
noncomputable abbrev Cx.nox (X:Cx):Cx:=X.wish fun _ _=>False
theorem Cx.Ok.wish {X:Cx} (ok:X.Ok) (E:Value→Shared→Prop):(X.wish E).Ok:=
 ⟨ok.mod,ok.kind,ok.glob,ok.blt,ok.above,ok.inj,ok.has,ok.cab,ok.hd,ok.frames,ok.stk,ok.exf,ok.bs,ok.bsz,ok.noex,ok.exfs,ok.funs,ok.frf⟩
theorem Cx.Ok.unwish {X:Cx} {E:Value→Shared→Prop} (ok:(X.wish E).Ok):X.Ok:=
 ⟨ok.mod,ok.kind,ok.glob,ok.blt,ok.above,ok.inj,ok.has,ok.cab,ok.hd,ok.frames,ok.stk,ok.exf,ok.bs,ok.bsz,ok.noex,ok.exfs,ok.funs,ok.frf⟩
section
variable {X:Cx} {pins:List (Addr × Obj)} {σ:St} {H:Hp} {s:Shared} {E:Value→Shared→Prop}
theorem Inv.wish (I:Inv X pins σ H s) (E:Value→Shared→Prop):Inv (X.wish E) pins σ H s:=⟨I.ok.wish E,I.os,I.bare,I.base,I.loc,I.cell,I.free,I.freeC,I.pin,I.hok,I.len⟩
theorem Inv.unwish (I:Inv (X.wish E) pins σ H s):Inv X pins σ H s:=⟨I.ok.unwish,I.os,I.bare,I.base,I.loc,I.cell,I.free,I.freeC,I.pin,I.hok,I.len⟩
theorem SP.unwish {D:uF} {f:Flow} {s':Shared} (h:SP (X.wish E) pins D f s'):SP X pins D f s':=by
 cases f with
 | next=>obtain ⟨σ',H',I,q⟩:=h; exact ⟨σ',H',I.unwish,q⟩
 | brk=>obtain ⟨σ',H',I,q⟩:=h; exact ⟨σ',H',I.unwish,q⟩
 | cont=>obtain ⟨σ',H',I,q⟩:=h; exact ⟨σ',H',I.unwish,q⟩
 | ret u=>obtain ⟨v,σ',H',I,r,q⟩:=h; exact ⟨v,σ',H',I.unwish,r,q⟩
theorem PSs.nox {st:List Stmt} {t:TS} (h:PSs X.nox st t):PSs X st t:=fun pins s σ H D I hw=>wpAny_mono (h pins s σ H D (I.wish _) hw) (fun _ _ q=>q.unwish) fun _ _ z=>False.elim z
end
section
variable {X:Cx} {st:Stmt} {rest:List Stmt} {t u:TS} {e:Expr} {te:TE} {pos:Pos}
noncomputable def tNext:TS:=fun D σ H=>D.nx σ H
noncomputable def tSeq (t u:TS):TS:=fun D σ H=>t {D with nx:=u D} σ H
theorem pss_nil:PSs X [] tNext:=fun _ _ σ H _ I h=>wpAny_execs_nil ⟨σ,H,I,h⟩
theorem pss_cons (h1:PS X st t) (h2:PSs X rest u):PSs X (st::rest) (tSeq t u):=by
 intro pins s σ H D I h; refine wpAny_execs_cons (thn (h1 pins s σ H {D with nx:=u D} I h) fun f s1 q=> ?_); cases f with
 | next=>obtain ⟨σ',H',I',q⟩:=q; exact h2 pins s1 σ' H' D I' q
 | ret v=>exact q
 | brk=>exact q
 | cont=>exact q
theorem pss_one (h1:PS X st t):PSs X [st] t:=by
 intro pins s σ H D I h; refine wpAny_execs_cons (thn (h1 pins s σ H D I h) fun f s1 q=> ?_); cases f with
 | next=>exact wpAny_execs_nil q
 | ret v=>exact q
 | brk=>exact q
 | cont=>exact q
theorem Inv.quiet {pins:List (Addr × Obj)} {σ:St} {H:Hp} {s:Shared} (I:Inv X pins σ H s):interactive X.env=false:=by simp [interactive,I.ok.kind]
noncomputable def tDrop (te:TE):TS:=fun D σ H=>te σ H fun _ H1=>D.nx σ H1
theorem rC (he:PE X e te) (hs:swapsWith e none pos.line X.env=pure false:=by rfl):PS X (.Expr e pos) (tDrop te):=by intro pins s σ H D I h; exact wpAny_Expr_any (thn (he pins s σ H _ I h) fun v s1 ⟨x,H1,I1,r1,q1⟩=>⟨σ,H1,I1,q1⟩) I.quiet hs
noncomputable def tRet (te:TE):TS:=fun D σ H=>te σ H D.rt
theorem ps_ret (he:PE X e te):PS X (.Return (some e) pos) (tRet te):=by intro pins s σ H D I h; exact wpAny_Return_some (thn (he pins s σ H _ I h) fun v s1 ⟨x,H1,I1,r1,q1⟩=>⟨x,σ,H1,I1,r1,q1⟩)
noncomputable def tIfS (c:TT) (t u:TS):TS:=fun D σ H=>c σ H fun b H1=>if b=true then t D σ H1 else u D σ H1
theorem ps_if {c:Expr} {a b:List Stmt} {tc:TT} (hc:PT X c tc) (ha:PSs X a t) (hb:PSs X b u):PS X (.If c a b pos) (tIfS tc t u):=by
 intro pins s σ H D I h; refine wpAny_If (thn (hc pins s σ H _ I h) fun d s1 ⟨H1,I1,q1⟩=> ?_); cases d with
 | true=>exact ha pins s1 σ H1 D I1 q1
 | false=>exact hb pins s1 σ H1 D I1 q1
end
noncomputable abbrev TG:=V→St→Hp→(St→Hp→Prop)→Prop
noncomputable abbrev TGs:=List V→St→Hp→(St→Hp→Prop)→Prop
noncomputable def PG (X:Cx) (target:Expr) (t:TG):Prop:=
 ∀ (pins:List (Addr × Obj)) (s:Shared) (σ:St) (H:Hp) (v:V) (u:Value) (Q:St→Hp→Prop),Inv X pins σ H s→RelV v u→t v σ H Q→
  wpAny (model X.prog X.w) X.A (assign target X.env u) (fun _ s'=>∃σ' H',Inv X pins σ' H' s'∧Q σ' H') X.xe s
noncomputable def PGs (X:Cx) (ts:List Expr) (t:TGs):Prop:=
 ∀ (pins:List (Addr × Obj)) (s:Shared) (σ:St) (H:Hp) (vs:List V) (us:List Value) (Q:St→Hp→Prop),Inv X pins σ H s→Vals vs us→t vs σ H Q→
  wpAny (model X.prog X.w) X.A (assignInOrder ((assignEach ts X.env).map (·.2)) us) (fun _ s'=>∃σ' H',Inv X pins σ' H' s'∧Q σ' H') X.xe s
noncomputable abbrev TSet:=V→V→V→Hp→(Hp→Prop)→Prop
noncomputable abbrev TIp:=V→V→Hp→VK→Prop
section
variable {X:Cx} {pos:Pos}
noncomputable def gName (i:Nat):TG:=fun v σ H Q=>Q (σ.set i (some v)) H
theorem dR {i:Nat} {x:Str} (hN:X.N.Nodup) (hi:X.N[i]? =some x) (hx:Loc X.env.scope x) (hf:X.fn x=true∨X.env.scope.names.lookup x=some .local:=by first | exact .inl rfl | exact .inr rfl | assumption):PG X (.Name x pos) (gName i):=by intro pins s σ H v u Q I r h; exact wpAny_assign_Name (store_ok I hN hi hx r (fun s' I'=>⟨_,H,I',h⟩) hf)
noncomputable def gNil:TGs:=fun vs σ H Q=>vs=[]∧Q σ H
noncomputable def gCons (t:TG) (u:TGs):TGs:=fun vs σ H Q=>∃v r,vs=v::r∧t v σ H fun σ' H'=>u r σ' H' Q
theorem mT:PGs X [] gNil:=by intro pins s σ H vs us Q I r h; obtain ⟨e,h⟩:=h; subst e; cases r; exact assignInOrder_nil ⟨σ,H,I,h⟩
theorem gJ {e:Expr} {es:List Expr} {t:TG} {u:TGs} (h1:PG X e t) (h2:PGs X es u)
  (hs:(assignEach (e::es) X.env).map (·.2)=assign e X.env::(assignEach es X.env).map (·.2):=by rfl):PGs X (e::es) (gCons t u):=by
 intro pins s σ H vs us Q I r h; obtain ⟨v,vr,e1,h⟩:=h; subst e1; cases r with
 | cons r rr=>rw [hs]; refine assignInOrder_cons (thn (h1 pins s σ H _ _ _ I r h) fun _ s1 ⟨σ1,H1,I1,q1⟩=> ?_); exact h2 pins s1 σ1 H1 _ _ Q I1 rr q1
noncomputable def gTup (K:aD) (n:Nat) (t:TGs):TG:=fun v σ H Q=>∃a xs,v= .ref a∧SqT K H a xs∧xs.length=n∧t xs σ H Q
theorem pg_tup {es:List Expr} {k:Nat} {t:TGs} {n:Nat} (hc:X.calm=true) (h:PGs X es t)
  (hn:(assignEach es X.env).length=n:=by rfl) (hst:(assignEach es X.env).findIdx? (·.1)=none:=by rfl):PG X (.Tuple es k pos) (gTup X.K n t):=by
 intro pins s σ H v u Q I r hw; obtain ⟨a,xs,e1,hq,hl,hw⟩:=hw; subst e1; cases r; obtain ⟨its,rv,ht,hz⟩:=I.tuple hq; refine assign_Tuple_tuple (I.ok.hd hc) ht (by simp [hn,← hl,rv.length]) hst fun h' hx=> ?_
 have I1:Inv X pins σ H {s with heap:=h'}:=I.kept (t':=s.toks) fun b o e=>hx b o (cH (bB e)) e
 exact h pins _ σ H xs _ Q I1 (by simpa using rv) hw
noncomputable def tAsg (te:TE) (g:TG):TS:=fun D σ H=>te σ H fun x H1=>g x σ H1 D.nx
theorem ps_asg {tg e:Expr} {te:TE} {g:TG} (he:PE X e te) (hg:PG X tg g) (hs:swapsWithSole [tg] e pos.line X.env=pure false:=by rfl) (hw:swappedStores [tg] e X.env=pure none:=by rfl)
  (h1:(assignEach [tg] X.env).map (·.2)=[assign tg X.env]:=by rfl):PS X (.Assign [tg] e pos) (tAsg te g):=by
 intro pins s σ H D I h; refine wpAny_Assign_stores (thn (he pins s σ H _ I h) fun v s1 ⟨x,H1,I1,r1,q1⟩=> ?_) hs hw; rw [h1]; exact thn (hg pins s1 σ H1 x v _ I1 r1 q1) fun _ s2 q=>q
theorem tF {i:Nat} {x:Str} {e:Expr} {te:TE} {pos':Pos} (hN:X.N.Nodup) (hi:X.N[i]? =some x) (hx:Loc X.env.scope x) (he:PE X e te) (hs:swapsWith e (some (.Name x pos')) pos.line X.env=pure false:=by rfl) (hf:X.fn x=true∨X.env.scope.names.lookup x=some .local:=by first | exact .inl rfl | exact .inr rfl | assumption):
  PS X (.Assign [.Name x pos'] e pos) (tAsg te (gName i)):=by
 intro pins s σ H D I h; refine wpAny_Assign_Name (thn (he pins s σ H _ I h) fun v s1 ⟨y,H1,I1,r1,q1⟩=> ?_) hs; exact store_ok I1 hN hi hx r1 (fun s2 I2=>⟨_,H1,I2,q1⟩) hf
noncomputable def tWhile (c:TT) (tb:TS):TS:=fun D σ H=>∃W:Nat→St→Hp→Prop,(∃m,W m σ H)∧∀m σ H,W m σ H→
 c σ H fun b H1=>if b=true then ∃N:St→Hp→Prop,(∀σ' H',N σ' H'→∃m',m'<m∧W m' σ' H')∧tb {D with nx:=N,ct:=N,bk:=D.nx} σ H1 else D.nx σ H1
theorem ps_while {c:Expr} {body:List Stmt} {tc:TT} {tb:TS} (hp:PassesOwn (model X.prog X.w) X.A X.env X.xe) (hc:PT X c tc) (hb:PSs X body tb):PS X (.While c body [] pos) (tWhile tc tb):=by
 intro pins s σ H D I h; obtain ⟨W,⟨m0,w0⟩,turn⟩:=h; refine wpAny_While (codeAny_whileLoop (fun n s'=>∃σ' H',Inv X pins σ' H' s'∧W n σ' H') ?_ m0 ⟨σ,H,I,w0⟩); rintro n s1 ⟨σ1,H1,I1,w1⟩; refine wpAny_passesOwn hp (thn (hc pins s1 σ1 H1 _ I1 (turn n σ1 H1 w1)) fun b s2 ⟨H2,I2,q2⟩=> ?_); cases b with
 | true=>
  obtain ⟨N,hN,q2⟩:=q2; rw [if_pos rfl]; refine wpAny_passesOwn hp (thn (hb pins s2 σ1 H2 _ I2 q2) fun f s3 q3=> ?_); cases f with
  | next=>obtain ⟨σ3,H3,I3,n3⟩:=q3; obtain ⟨m',hm,w3⟩:=hN σ3 H3 n3; exact ⟨m',hm,σ3,H3,I3,w3⟩
  | cont=>obtain ⟨σ3,H3,I3,n3⟩:=q3; obtain ⟨m',hm,w3⟩:=hN σ3 H3 n3; exact ⟨m',hm,σ3,H3,I3,w3⟩
  | brk=>exact q3
  | ret v=>exact q3
 | false=>rw [if_neg bO]; exact wpAny_execs_nil ⟨σ1,H2,I2,q2⟩
end
structure It where
 go:Nat→Hp→Prop
 yld:Nat→Hp→V→Hp→Prop
 stop:Nat→Hp→Prop
noncomputable def vJ (X:Cx) (pins:List (Addr × Obj)) (H:Hp) (b:Addr):Prop:=
 H b=none∧b≠X.env.locals∧b∉X.fs∧(b∈X.ex∨X.s₀.heap.objs.size≤b)∧(∀x c,X.env.cells.lookup x=some c→c≠b)∧∀p∈X.pn++pins,p.1≠b
theorem Inv.fpOk {X:Cx} {pins:List (Addr × Obj)} {σ:St} {H H':Hp} {s:Shared} {b:Addr} (I:Inv X pins σ H s) (hb:s.heap.objs.size≤b) (hn:H' b=none):vJ X pins H' b:=by
 refine ⟨hn,hV (bI I.lt hb),I.nofs hb, .inr (eD I.sz hb),fun x c e z=> ?_,fun p hp z=> ?_⟩
 ·obtain ⟨v,q⟩:=I.cell x c e; exact absurd (bI q.lt (by rw [z]; exact hb)) (fY _)
 ·exact absurd (bI (bB (I.pin p hp).1) (by rw [z]; exact hb)) (fY _)
structure Turn (P:Program) (w:World) (K:aD) (tg:Expr) (J:It) (fp:List Addr) (it:Addr) (tn:Nat→Heap→Prop):Prop where
 mem:it∈fp
 obj:∀i h,tn i h→∀b∈fp,∃o,h.get? b=some o∧∀v,o.data≠ .cell v
 keep:∀i h h',tn i h→(∀b∈fp,∀o,h.get? b=some o→h'.get? b=some o)→tn i h'
 item:∀ (X:Cx),X.prog=P→X.w=w→X.K=K→X.calm=true→∀ (i:Nat) (pins:List (Addr × Obj)) (s:Shared) (σ:St) (H:Hp) (E:Value→Shared→Prop),Inv X pins σ H s→(∀b∈fp,vJ X pins H b)→tn i s.heap→J.go i H→
  wpAny (model P w) X.A (pyNext (.ref it)) (fun r s1=>∃u,r=some u∧
   wpAny (model P w) X.A (letOwnedTupleGo tg (.ref it) u) (fun _ s2=>∃x H',Inv X pins σ H' s2∧RelV x u∧J.yld i H x H'∧tn (i+1) s2.heap∧∀b∈fp,H' b=none) E s1) E s
 done:∀ (X:Cx),X.prog=P→X.w=w→X.K=K→X.calm=true→∀ (i:Nat) (pins:List (Addr × Obj)) (s:Shared) (σ:St) (H:Hp) (E:Value→Shared→Prop),Inv X pins σ H s→(∀b∈fp,vJ X pins H b)→tn i s.heap→J.stop i H→
  wpAny (model P w) X.A (pyNext (.ref it)) (fun r s1=>r=none∧Inv X pins σ H s1) E s
 self:∀ (A:Around) (i:Nat) (s:Shared) (Q:Value→Shared→Prop) (E:Value→Shared→Prop),tn i s.heap→Q (.ref it) s→wpAny (model P w) A (pyIter (.ref it)) Q E s
noncomputable abbrev TI:=St→Hp→(It→Hp→Prop)→Prop
noncomputable def PIE (X:Cx) (pins:List (Addr × Obj)) (σ:St) (tg:Expr) (R:It→Hp→Prop) (itv:Value) (s2:Shared):Prop:=
 ∃ (it:Addr) (fp:List Addr) (tn:Nat→Heap→Prop) (J:It) (H':Hp),itv= .ref it∧Inv X pins σ H' s2∧Turn X.prog X.w X.K tg J fp it tn∧tn 0 s2.heap∧(∀b∈fp,vJ X pins H' b)∧R J H'
noncomputable def PI (X:Cx) (tg iter:Expr) (wi:TI):Prop:=
 ∀ (pins:List (Addr × Obj)) (s:Shared) (σ:St) (H:Hp) (R:It→Hp→Prop),Inv X pins σ H s→wi σ H R→
  wpAny (model X.prog X.w) X.A (eval iter X.env) (fun v s1=>wpAny (model X.prog X.w) X.A (pyIter v) (PIE X pins σ tg R) X.xe s1) X.xe s
theorem go_of {M:Model} {A:Around} {E:Value→Shared→Prop} {s:Shared} {tg:Expr} {it:Addr} {u:Value} {o:Obj} {n:String} {vs:Array Value} {Q:Unit→Shared→Prop} (ho:s.heap.get? it=some o) (hc:o.cls= .type n) (hd:o.data= .fields vs)
  (hn:["enumerate","zip","dict_itemiterator","dict_reverseitemiterator","odict_iterator","itertools.zip_longest","itertools.pairwise"].contains n=false) (hQ:Q () s):wpAny M A (letOwnedTupleGo tg (.ref it) u) Q E s:=by
 unfold letOwnedTupleGo
 cases tg<;>first
  | exact wpAny_pure hQ
  | (cases u<;>first
    | exact wpAny_pure hQ
    | (refine wpAny_bind (wpAny_load ho ?_)
       rw [hc,hd]; show wpAny M A (if (["enumerate","zip","dict_itemiterator","dict_reverseitemiterator","odict_iterator","itertools.zip_longest","itertools.pairwise"].contains n && vs[0]? ==some (rawInt _))=true then _ else _) Q E s; rw [if_neg (by intro h; rw [hn,yT] at h; cases h)]
       exact wpAny_pure hQ))
noncomputable def Itl (K:aD) (a:Addr):It:=
 ⟨fun i H=>∃xs x,SqL K H a xs∧xs[i]? =some x,fun i H x H'=>H'=H∧∀xs,SqL K H a xs→xs[i]? =some x,fun i H=>∃xs,SqL K H a xs∧xs.length≤i⟩
noncomputable def Itt (K:aD) (a:Addr):It:=
 ⟨fun i H=>∃xs x,SqT K H a xs∧xs[i]? =some x,fun i H x H'=>H'=H∧∀xs,SqT K H a xs→xs[i]? =some x,fun i H=>∃xs,SqT K H a xs∧xs.length≤i⟩
noncomputable def Itr (lo:Int) (n:Nat):It:=⟨fun i _=>i<n,fun i H x H'=>H'=H∧x= .int (lo+i),fun i _=>n≤i⟩
theorem turn_list {P:Program} {w:World} {K:aD} {tg:Expr} (a it:Addr):Turn P w K tg (Itl K a) [it] it (fun i h=>h.IsListIter it a i) where
 mem:=by simp
 obj:=fun i h st b hb=>by
  have e:b=it:=by simpa using hb
  subst e; obtain ⟨o,e,c,d⟩:=st; exact ⟨o,e,fun v z=>by rw [d] at z; cases z⟩
 keep:=fun i h h' st k=>st.at fun o e=>k it (by simp) o e
 item:=by
  intro X hP hw hK hc i pins s σ H E I hf st hg; subst hP hw hK; obtain ⟨xs,x,hq,hx⟩:=hg; obtain ⟨its,rv,p,hz⟩:=I.list hq; obtain ⟨u,hu,ru⟩:=rv.get hx; obtain ⟨f0,f1,f2,f3,f4,f5⟩:=hf it (by simp); refine wpAny_pyNext_list_item st p.isList (x:=u) (by simpa using hu) fun h' st' sb=> ?_
  have I1:Inv X pins σ H {s with heap:=h'}:=I.turned (t':=s.toks) (fun b o hb e=>(sb.2 b hb).trans e) f0 f1 f3 f4 f5; obtain ⟨o,e,c,d⟩:=id st'; exact ⟨u,rfl,go_of (s:={s with heap:=h'}) e c d (by decide) ⟨x,H,I1,ru,⟨rfl,fun ys hy=>by rw [I.list_inj hy hq]; exact hx⟩,st',fun b hb=>(hf b hb).1⟩⟩
 done:=by intro X hP hw hK hc i pins s σ H E I hf st hg; subst hP hw hK; obtain ⟨xs,hq,hx⟩:=hg; obtain ⟨its,rv,p,hz⟩:=I.list hq; obtain ⟨f0,f1,f2,f3,f4,f5⟩:=hf it (by simp); have hl:=rv.length; exact wpAny_pyNext_list_end (I.ok.hd hc) st p.isList (by simp; omega) fun h' eb=>⟨rfl,I.turned (t':=s.toks) (fun b o hb e=>eb b o hb e) f0 f1 f3 f4 f5⟩
 self:=fun _ _ _ _ _ st h=>wpAny_pyIter_listiter st h
theorem turn_tuple {P:Program} {w:World} {K:aD} {tg:Expr} (a it:Addr):Turn P w K tg (Itt K a) [it] it (fun i h=>h.IsTupleIter it a i) where
 mem:=by simp
 obj:=fun i h st b hb=>by
  have e:b=it:=by simpa using hb
  subst e; obtain ⟨o,e,c,d⟩:=st; exact ⟨o,e,fun v z=>by rw [d] at z; cases z⟩
 keep:=fun i h h' st k=>st.at fun o e=>k it (by simp) o e
 item:=by
  intro X hP hw hK hc i pins s σ H E I hf st hg; subst hP hw hK; obtain ⟨xs,x,hq,hx⟩:=hg; obtain ⟨its,rv,p,hz⟩:=I.tuple hq; obtain ⟨u,hu,ru⟩:=rv.get hx; obtain ⟨f0,f1,f2,f3,f4,f5⟩:=hf it (by simp); refine wpAny_pyNext_tuple_item st (show s.heap.IsTuple a its.toArray from p) (x:=u) (by simpa using hu) fun h' st' sb=> ?_
  have I1:Inv X pins σ H {s with heap:=h'}:=I.turned (t':=s.toks) (fun b o hb e=>(sb.2 b hb).trans e) f0 f1 f3 f4 f5; obtain ⟨o,e,c,d⟩:=id st'; exact ⟨u,rfl,go_of (s:={s with heap:=h'}) e c d (by decide) ⟨x,H,I1,ru,⟨rfl,fun ys hy=>by rw [I.tuple_inj hy hq]; exact hx⟩,st',fun b hb=>(hf b hb).1⟩⟩
 done:=by intro X hP hw hK hc i pins s σ H E I hf st hg; subst hP hw hK; obtain ⟨xs,hq,hx⟩:=hg; obtain ⟨its,rv,p,hz⟩:=I.tuple hq; obtain ⟨f0,f1,f2,f3,f4,f5⟩:=hf it (by simp); have hl:=rv.length; exact wpAny_pyNext_tuple_end (I.ok.hd hc) st (show s.heap.IsTuple a its.toArray from p) (by simp; omega) fun h' eb=>⟨rfl,I.turned (t':=s.toks) (fun b o hb e=>eb b o hb e) f0 f1 f3 f4 f5⟩
 self:=fun _ _ _ _ _ st h=>wpAny_pyIter_tupleiter st h
theorem turn_range {P:Program} {w:World} {K:aD} {tg:Expr} (it:Addr) (lo:Int) (n:Nat):Turn P w K tg (Itr lo n) [it] it (fun i h=>IsRangeIter h it (lo+(i:Nat) * 1) ((n:Int) - (i:Nat)) 1) where
 mem:=by simp
 obj:=fun i h st b hb=>by
  have e:b=it:=by simpa using hb
  subst e
  exact ⟨_,st,fun v z=>by
   have z':Data.fields _=Data.cell v:=z
   cases z'⟩
 keep:=fun i h h' st k=>k it (by simp) _ st
 item:=by
  intro X hP hw hK hc i pins s σ H E I hf st hg; subst hP hw hK; obtain ⟨f0,f1,f2,f3,f4,f5⟩:=hf it (by simp); have W:=Walks.range (prog:=X.prog) (w:=X.w) (I.ok.hd hc) it lo 1 n; refine W.item i s _ _ hg st fun v h' tk hv st' kk=> ?_
  obtain ⟨t,rfl⟩:=hv; have I1:Inv X pins σ H {s with heap:=h',toks:=tk}:=I.turned (fun b o hb e=>kk b o (by simpa using hb) e) f0 f1 f3 f4 f5; refine ⟨_,rfl,go_of (s:={s with heap:=h',toks:=tk}) (n:="range_iterator") st' rfl rfl (by decide) ⟨.int (lo+i),H,I1,⟨t, ?_⟩,⟨rfl,rfl⟩,st',fun b hb=>(hf b hb).1⟩⟩; rw [Int.mul_one]
 done:=by intro X hP hw hK hc i pins s σ H E I hf st hg; subst hP hw hK; obtain ⟨f0,f1,f2,f3,f4,f5⟩:=hf it (by simp); exact wpAny_pyNext_range_end (I.ok.hd hc) st (by have:n≤i:=hg; omega) fun h' eb=>⟨rfl,I.turned (t':=s.toks) (fun b o hb e=>eb b o hb e) f0 f1 f3 f4 f5⟩
 self:=fun _ _ _ _ _ st h=>wpAny_pyIter_rangeiter st h
section
variable {X:Cx} {tg:Expr}
noncomputable def iList (K:aD) (tl:TE):TI:=fun σ H R=>tl σ H fun x H1=>∃a,x= .ref a∧(∃xs,SqL K H1 a xs)∧R (Itl K a) H1
noncomputable def iTup (K:aD) (tl:TE):TI:=fun σ H R=>tl σ H fun x H1=>∃a,x= .ref a∧(∃xs,SqT K H1 a xs)∧R (Itt K a) H1
theorem pi_list {l:Expr} {tl:TE} (hl:PE X l tl):PI X tg l (iList X.K tl):=by
 intro pins s σ H R I h; refine thn (hl pins s σ H _ I h) fun v s1 ⟨x,H1,I1,r1,q1⟩=> ?_
 obtain ⟨a,e,⟨xs,hq⟩,q⟩:=q1; subst e; cases r1; obtain ⟨its,rv,p,hz⟩:=I1.list hq; refine wpAny_pyIter_list p.isList ?_; refine ⟨s1.heap.objs.size,[s1.heap.objs.size],_,_,H1,rfl,I1.kept (t':=s1.toks) fun b o e=>aM _ e,turn_list a _,⟨_,bW _ rfl,rfl,rfl⟩,fun b hb=> ?_,q⟩; have e:b=s1.heap.objs.size:=by simpa using hb
 subst e; exact I1.fpOk (aX _) (I1.hok.fresh (aX _))
theorem pi_tup {l:Expr} {tl:TE} (hl:PE X l tl):PI X tg l (iTup X.K tl):=by
 intro pins s σ H R I h; refine thn (hl pins s σ H _ I h) fun v s1 ⟨x,H1,I1,r1,q1⟩=> ?_
 obtain ⟨a,e,⟨xs,hq⟩,q⟩:=q1; subst e; cases r1; obtain ⟨its,rv,p,hz⟩:=I1.tuple hq; refine wpAny_pyIter_tuple (show s1.heap.IsTuple a its.toArray from p) ?_; refine ⟨s1.heap.objs.size,[s1.heap.objs.size],_,_,H1,rfl,I1.kept (t':=s1.toks) fun b o e=>aM _ e,turn_tuple a _,⟨_,bW _ rfl,rfl,rfl⟩,fun b hb=> ?_,q⟩; have e:b=s1.heap.objs.size:=by simpa using hb
 subst e; exact I1.fpOk (aX _) (I1.hok.fresh (aX _))
theorem range_it {pins:List (Addr × Obj)} {σ:St} {H:Hp} {s:Shared} {R:It→Hp→Prop} {E:Value→Shared→Prop} {lo hi:Int} {t u v:Tok} {tk:Nat} (I:Inv X pins σ H s) (h1: -(2^62)≤lo) (h2:lo<2^62) (h3: -(2^62)≤hi) (h4:hi<2^62)
  (q:R (Itr lo (hi - lo).toNat) H):wpAny (model X.prog X.w) X.A (pyIter (.ref s.heap.objs.size)) (PIE X pins σ tg R) E {s with heap:=s.heap.push {cls:= .type "range",data:= .fields #[.int lo t, .int hi u, .int 1 v]},toks:=tk}:=by
 refine wpAny_pyIter_range (IsRange.new ..) (small_one h1 h2 h3 h4) ?_; have I1:Inv X pins σ H {s with heap:=s.heap.push {cls:= .type "range",data:= .fields #[.int lo t, .int hi u, .int 1 v]},toks:=tk}:=I.kept fun b o e=>aM _ e
 refine ⟨(s.heap.push {cls:= .type "range",data:= .fields #[.int lo t, .int hi u, .int 1 v]}).objs.size,[(s.heap.push {cls:= .type "range",data:= .fields #[.int lo t, .int hi u, .int 1 v]}).objs.size],_,_,H,rfl,
  I1.kept (t':=tk) fun b o e=>aM _ e,turn_range _ lo (hi - lo).toNat, ?_,fun b hb=> ?_,q⟩
 ·have e1:lo+((0:Nat):Int) * 1=lo:=by simp
  have e2:(((hi - lo).toNat:Nat):Int) - ((0:Nat):Int)=Builtin.Range.rangeSize lo hi 1:=by rw [rangeSize_one]; split<;>omega
  show IsRangeIter _ _ (lo+((0:Nat):Int) * 1) ((((hi - lo).toNat:Nat):Int) - ((0:Nat):Int)) 1; rw [e1,e2]; exact bW _ rfl
 ·have e:b=(s.heap.push {cls:= .type "range",data:= .fields #[.int lo t, .int hi u, .int 1 v]}).objs.size:=by simpa using hb
  subst e; exact I1.fpOk (aX _) (I1.hok.fresh (aX _))
noncomputable def iRng1 (ta:TA):TI:=fun σ H R=>ta σ H fun vs H1=>∃j:Int,vs=[.int j]∧ -(2^62)≤j∧j<2^62∧R (Itr 0 j.toNat) H1
theorem pi_range1 {a:Expr} {ta:TA} {p pos:Pos} (hg:Gl X "range") (hm:X.mg "range"=none) (ha:PA X [a] ta) (hs:starEach [a] X.env=[(false,eval a X.env)]:=by rfl):PI X tg (.Call (.Name "range" p) [a] [] pos) (iRng1 ta):=by
 intro pins s σ H R I h; refine Call_ (oZ I hg hm boot_range (PyProof.Rows.callWith_type1 (thn (ha pos pins s σ H _ I h) fun us s1 ⟨vs,H1,I1,r1,q1⟩=> ?_) hs rfl)); obtain ⟨j,e,q1,q2,q⟩:=q1; subst e; cases r1 with
 | cons r rr=>cases rr; obtain ⟨t,rfl⟩:=r; exact call_range_1 (range_it I1 (by omega) (by omega) q1 q2 (by simpa using q))
noncomputable def tFor (wi:TI) (g:TG) (tb:TS):TS:=fun D σ H=>wi σ H fun J H1=>∃W:Nat→Nat→St→Hp→Prop,(∃m,W 0 m σ H1)∧∀i m σ H,W i m σ H→
 (J.stop i H∧D.nx σ H)∨(J.go i H∧∃N:St→Hp→Prop,(∀σ' H',N σ' H'→∃m',m'<m∧W (i+1) m' σ' H')∧∀x H',J.yld i H x H'→g x σ H' fun σ2 H2=>tb {D with nx:=N,ct:=N,bk:=D.nx} σ2 H2)
noncomputable def oD (fp:List Addr) (h:Heap):List (Addr × Obj):=fp.filterMap fun b=>(h.get? b).map fun o=>(b,o)
theorem jQ {fp:List Addr} {h:Heap} {b:Addr} {o:Obj} (hb:b∈fp) (e:h.get? b=some o):(b,o)∈oD fp h:=List.mem_filterMap.mpr ⟨b,hb,by rw [e]; rfl⟩
theorem sQ {fp:List Addr} {h:Heap} {p:Addr × Obj} (hp:p∈oD fp h):p.1∈fp∧h.get? p.1=some p.2:=by
 obtain ⟨b,hb,e⟩:=List.mem_filterMap.mp hp; cases q:h.get? b with
 | none=>rw [q] at e; cases e
 | some o=>rw [q] at e; have e':(b,o)=p:=dN.inj e; subst e'; exact ⟨hb,q⟩
theorem Inv.pinned {pins:List (Addr × Obj)} {σ:St} {H:Hp} {s:Shared} {fp:List Addr} (I:Inv X pins σ H s) (hf:∀b∈fp,vJ X pins H b) (ho:∀b∈fp,∃o,s.heap.get? b=some o∧∀v,o.data≠ .cell v):Inv X (pins++oD fp s.heap) σ H s:=
 I.pins_of fun p hp=>(bU.mp hp).elim (fun z=>I.pin p (bC _ z)) fun z=>by obtain ⟨hb,e⟩:=sQ z; obtain ⟨f0,f1,f2,_⟩:=hf p.1 hb; obtain ⟨o,e',d⟩:=ho p.1 hb; rw [e] at e'; cases e'; exact ⟨e,f0,f1,f2,d⟩
theorem Inv.unpinned {pins pl:List (Addr × Obj)} {σ:St} {H:Hp} {s:Shared} (I:Inv X (pins++pl) σ H s):Inv X pins σ H s:=I.pins_of fun p hp=>I.pin p (bC _ (dJ _ hp))
theorem ps_for {iter:Expr} {body:List Stmt} {wi:TI} {g:TG} {tb:TS} {pos:Pos} (hp:PassesOwn (model X.prog X.w) X.A X.env X.xe) (hc:X.calm=true) (hi:PI X tg iter wi) (hg:PG X tg g) (hb:PSs X body tb)
  (hs:∀x,foldedSetIterable iter X.env x=pure x:=by intro _; rfl):PS X (.For tg iter body [] pos) (tFor wi g tb):=by
 intro pins s σ H D I h; refine wpAny_For (thn (hi pins s σ H _ I h) fun v s1 h1=>thn h1 fun itv s2 h2=> ?_) hs; obtain ⟨it,fp,tn,J,H2,e,I2,T,st2,f2,W,⟨m0,w0⟩,turn⟩:=h2; subst e
 have stat:∀ {H':Hp},(∀b∈fp,H' b=none)→∀b∈fp,vJ X pins H' b:=fun hn b hb=>⟨hn b hb,(f2 b hb).2⟩
 refine codeAny_forLoop_any (fun n s'=>∃i σ' H',Inv X pins σ' H' s'∧tn i s'.heap∧(∀b∈fp,H' b=none)∧W i n σ' H') ?_ m0 ⟨0,σ,H2,I2,st2,fun b hb=>(f2 b hb).1,w0⟩; rintro n s3 ⟨i,σ3,H3,I3,st3,fr3,w3⟩
 rcases turn i n σ3 H3 w3 with ⟨stop,qn⟩ | ⟨go,N,hN,step⟩
 ·refine wpAny_passesOwn hp (thn (T.done X rfl rfl rfl hc i pins s3 σ3 H3 X.xe I3 (stat fr3) st3 stop) fun r s4 ⟨hr,I4⟩=> ?_); subst hr; exact wpAny_execs_nil ⟨σ3,H3,I4,qn⟩
 ·refine wpAny_passesOwn hp (thn (T.item X rfl rfl rfl hc i pins s3 σ3 H3 X.xe I3 (stat fr3) st3 go) fun r s4 ⟨u,hr,h4⟩=> ?_); subst hr; refine wpAny_passesOwn hp (thn h4 fun _ s5 ⟨x,H5,I5,r5,y5,st5,fr5⟩=> ?_); have I5':=I5.pinned (stat fr5) (T.obj _ _ st5); refine wpAny_passesOwn hp (thn (hg _ s5 σ3 H5 x u _ I5' r5 (step x H5 y5)) fun _ s6 ⟨σ6,H6,I6,q6⟩=> ?_); refine wpAny_passesOwn hp (thn (hb _ s6 σ6 H6 _ I6 q6) fun f s7 q7=> ?_)
  have again:∀ {σ7:St} {H7:Hp},Inv X (pins++oD fp s5.heap) σ7 H7 s7→N σ7 H7→∃m,m<n∧∃i σ' H',Inv X pins σ' H' s7∧tn i s7.heap∧(∀b∈fp,H' b=none)∧W i m σ' H':=fun {σ7 H7} I7 n7=>by obtain ⟨m',hm,w7⟩:=hN σ7 H7 n7; refine ⟨m',hm,i+1,σ7,H7,I7.unpinned,T.keep _ _ _ st5 fun b hb o e=>(I7.pin (b,o) (bC _ (bC _ (jQ hb e)))).1,fun b hb=> ?_,w7⟩; obtain ⟨o,e,d⟩:=T.obj _ _ st5 b hb; exact (I7.pin (b,o) (bC _ (bC _ (jQ hb e)))).2.1
  cases f with
  | next=>obtain ⟨σ7,H7,I7,n7⟩:=q7; exact again I7 n7
  | cont=>obtain ⟨σ7,H7,I7,n7⟩:=q7; exact again I7 n7
  | brk=>obtain ⟨σ7,H7,I7,q7⟩:=q7; exact ⟨σ7,H7,I7.unpinned,q7⟩
  | ret v=>obtain ⟨x7,σ7,H7,I7,r7,q7⟩:=q7; exact ⟨x7,σ7,H7,I7.unpinned,r7,q7⟩
end
noncomputable abbrev R2:=V→V→Hp→VK→Prop
noncomputable def OpR (X:Cx) (f:Value→Value→Sem Value) (r:R2):Prop:=
 ∀ (pins:List (Addr × Obj)) (s:Shared) (σ:St) (H:Hp) (x y:V) (v u:Value) (Q:VK),Inv X pins σ H s→RelV x v→RelV y u→r x y H Q→
  wpAny (model X.prog X.w) X.A (f v u) (EP X pins σ Q) X.xe s
noncomputable def UnR (X:Cx) (f:Value→Sem Value) (r:V→Hp→VK→Prop):Prop:=
 ∀ (pins:List (Addr × Obj)) (s:Shared) (σ:St) (H:Hp) (x:V) (v:Value) (Q:VK),Inv X pins σ H s→RelV x v→r x H Q→
  wpAny (model X.prog X.w) X.A (f v) (EP X pins σ Q) X.xe s
noncomputable def nQ (X:Cx) (f:Value) (r:List V→Hp→VK→Prop):Prop:=
 ∀ (pins:List (Addr × Obj)) (s:Shared) (σ:St) (H:Hp) (xs:List V) (us:List Value) (Q:VK),Inv X pins σ H s→Vals xs us→r xs H Q→
  wpAny (model X.prog X.w) X.A (call f us) (EP X pins σ Q) X.xe s
noncomputable def tOp (r:R2) (ta tb:TE):TE:=fun σ H Q=>ta σ H fun x H1=>tb σ H1 fun y H2=>r x y H2 Q
noncomputable def tUn (r:V→Hp→VK→Prop) (ta:TE):TE:=fun σ H Q=>ta σ H fun x H1=>r x H1 Q
noncomputable def rI (C:Int→Int→Prop) (g:Int→Int→V):R2:=fun x y H Q=>∃i j,x= .int i∧y= .int j∧C i j∧Q (g i j) H
noncomputable def rI0 (g:Int→Int→V):R2:=fun x y H Q=>∃i j,x= .int i∧y= .int j∧Q (g i j) H
noncomputable def rU (g:Int→V):V→Hp→VK→Prop:=fun x H Q=>∃i,x= .int i∧Q (g i) H
section
variable {X:Cx} {a b c:Expr} {ta tb tc:TE} {pos:Pos}
theorem binT (ha:PE X a ta) (hb:PE X b tb) {pins:List (Addr × Obj)} {s:Shared} {σ:St} {H:Hp} {R:V→V→Hp→Prop} (I:Inv X pins σ H s)
  (h:ta σ H fun x H1=>tb σ H1 fun y H2=>R x y H2) {Q:Value→Shared→Prop} {f:Value→Value→Sem Value}
  (hf:∀v u s2 x y H2,Inv X pins σ H2 s2→RelV x v→RelV y u→R x y H2→wpAny (model X.prog X.w) X.A (f v u) Q X.xe s2):
  wpAny (model X.prog X.w) X.A (eval a X.env) (fun v s₁=>wpAny (model X.prog X.w) X.A (eval b X.env) (fun u s₂=>wpAny (model X.prog X.w) X.A (f v u) Q X.xe s₂) X.xe s₁) X.xe s:=by
 refine thn (ha pins s σ H _ I h) fun v s1 ⟨x,H1,I1,r1,q1⟩=> ?_
 refine thn (hb pins s1 σ H1 _ I1 q1) fun u s2 ⟨y,H2,I2,r2,q2⟩=> ?_
 exact hf v u s2 x y H2 I2 r1 r2 q2
theorem pe_op {op:Operator} {r:R2} (ho:OpR X (binaryOp op) r) (ha:PE X a ta) (hb:PE X b tb):PE X (.BinOp a op b pos) (tOp r ta tb):=by intro pins s σ H Q I h; exact wpAny_BinOp (binT ha hb I h fun v u s2 x y H2 I2 rx ry q=>ho pins s2 σ H2 x y v u Q I2 rx ry q)
theorem pe_un {op:UnaryOp} {r:V→Hp→VK→Prop} (ho:UnR X (unaryOp op) r) (ha:PE X a ta):PE X (.UnaryOp op a pos) (tUn r ta):=by intro pins s σ H Q I h; exact UnaryOp_ (thn (ha pins s σ H _ I h) fun v s1 ⟨x,H1,I1,r1,q1⟩=>ho pins s1 σ H1 x v Q I1 r1 q1)
theorem opI {f:Value→Value→Sem Value} {C:Int→Int→Prop} {g:Int→Int→Int}
  (rule:∀ (i j:Int) (t u:Tok) (s:Shared) (Q:Value→Shared→Prop) (E:Value→Shared→Prop),C i j→Q (.int (g i j) s.toks) {s with toks:=s.toks+1}→wpAny (model X.prog X.w) X.A (f (.int i t) (.int j u)) Q E s):
  OpR X f (rI C fun i j=> .int (g i j)):=by
 intro pins s σ H x y v u Q I rx ry h; obtain ⟨i,j,rfl,rfl,hc,q⟩:=h; obtain ⟨t,rfl⟩:=rx; obtain ⟨t',rfl⟩:=ry; exact rule i j t t' s _ _ hc ⟨.int (g i j),H,I.tok _,⟨_,rfl⟩,q⟩
theorem opI0 {f:Value→Value→Sem Value} {g:Int→Int→Int}
  (rule:∀ (i j:Int) (t u:Tok) (s:Shared) (Q:Value→Shared→Prop) (E:Value→Shared→Prop),Q (.int (g i j) s.toks) {s with toks:=s.toks+1}→wpAny (model X.prog X.w) X.A (f (.int i t) (.int j u)) Q E s):
  OpR X f (rI0 fun i j=> .int (g i j)):=by
 intro pins s σ H x y v u Q I rx ry h; obtain ⟨i,j,rfl,rfl,q⟩:=h; obtain ⟨t,rfl⟩:=rx; obtain ⟨t',rfl⟩:=ry; exact rule i j t t' s _ _ ⟨.int (g i j),H,I.tok _,⟨_,rfl⟩,q⟩
theorem opB0 {f:Value→Value→Sem Value} {g:Int→Int→Bool}
  (rule:∀ (i j:Int) (t u:Tok) (s:Shared) (Q:Value→Shared→Prop) (E:Value→Shared→Prop),Q (.bool (g i j)) s→wpAny (model X.prog X.w) X.A (f (.int i t) (.int j u)) Q E s):
  OpR X f (rI0 fun i j=> .bl (g i j)):=by
 intro pins s σ H x y v u Q I rx ry h; obtain ⟨i,j,rfl,rfl,q⟩:=h; obtain ⟨t,rfl⟩:=rx; obtain ⟨t',rfl⟩:=ry; exact rule i j t t' s _ _ ⟨.bl (g i j),H,I,rfl,q⟩
noncomputable def CDiv (i j:Int):Prop:=0<j∧j<1073741824
noncomputable def CPow (i j:Int):Prop:=0≤j∧j≤1000000∧i.natAbs<2^64
noncomputable def CMul (i j:Int):Prop:=(-(2^64)<i∧i<2^64)∨(-(2^64)<j∧j<2^64)
theorem CMul.ok {i j:Int} (h:CMul i j):IntMulOk i j:=by
 rcases h with ⟨h1,h2⟩ | ⟨h1,h2⟩
 ·exact .of_left (intBits_le_64 h1 h2)
 ·exact .of_right (intBits_le_64 h1 h2)
theorem iL:OpR X (binaryOp .Add) (rI0 fun i j=> .int (i+j)):=opI0 fun _ _ _ _ _ _ _ q=>add_int q
theorem qS:OpR X (binaryOp .Sub) (rI0 fun i j=> .int (i - j)):=opI0 fun _ _ _ _ _ _ _ q=>sub_int q
theorem op_mul:OpR X (binaryOp .Mult) (rI CMul fun i j=> .int (i * j)):=opI fun _ _ _ _ _ _ _ hc q=>mul_int q hc.ok
theorem op_fdiv:OpR X (binaryOp .FloorDiv) (rI CDiv fun i j=> .int (i / j)):=opI fun i j _ _ _ _ _ hc q=>by have h1:(0:Int)<j:=hc.1; have h2:j<1073741824:=hc.2; exact floordiv_int (by omega) (by rw [Int.fdiv_eq_ediv_of_nonneg i (by omega)]; exact q) (.inl (PyProof.noPylong_small (by omega)))
theorem gO:OpR X (binaryOp .Mod) (rI (fun _ j=>0<j) fun i j=> .int (i%j)):=opI fun i j _ _ _ _ _ hc q=>by have h1:(0:Int)<j:=hc; exact mod_int' (by omega) (by rw [Int.fmod_eq_emod_of_nonneg i (by omega)]; exact q)
theorem op_shl:OpR X (binaryOp .LShift) (rI CPow fun i j=> .int (i * 2^j.toNat)):=opI fun _ _ _ _ _ _ _ hc q=>lshift_int_small hc.1 hc.2.1 hc.2.2 q
theorem op_and:OpR X (binaryOp .BitAnd) (rI0 fun i j=> .int (Builtin.bitAnd i j)):=opI0 fun _ _ _ _ _ _ _ q=>and_int q
theorem op_or:OpR X (binaryOp .BitOr) (rI0 fun i j=> .int (Builtin.bitOr i j)):=opI0 fun _ _ _ _ _ _ _ q=>or_int q
theorem op_xor:OpR X (binaryOp .BitXor) (rI0 fun i j=> .int (Builtin.bitXor i j)):=opI0 fun _ _ _ _ _ _ _ q=>xor_int q
theorem unI {f:Value→Sem Value} {g:Int→Int}
  (rule:∀ (i:Int) (t:Tok) (s:Shared) (Q:Value→Shared→Prop) (E:Value→Shared→Prop),Q (.int (g i) s.toks) {s with toks:=s.toks+1}→wpAny (model X.prog X.w) X.A (f (.int i t)) Q E s):
  UnR X f (rU fun i=> .int (g i)):=by
 intro pins s σ H x v Q I rx h; obtain ⟨i,rfl,q⟩:=h; obtain ⟨t,rfl⟩:=rx; exact rule i t s _ _ ⟨.int (g i),H,I.tok _,⟨_,rfl⟩,q⟩
theorem un_neg:UnR X (unaryOp .USub) (rU fun i=> .int (-i)):=unI fun _ _ _ _ _ q=>neg_int q
end
noncomputable def scal:V→V→Bool
 | .non, .non=>true | .non, .int _=>true | .int _, .non=>true | .non, .bl _=>true | .bl _, .non=>true | .non, .str _=>true | .str _, .non=>true
 | .int _, .int _=>true | .bl _, .bl _=>true | .str _, .str _=>true | .byt _, .byt _=>true
 | .int _, .str _=>true | .str _, .int _=>true | .bl _, .str _=>true | .str _, .bl _=>true
 | _,_=>false
noncomputable def rEq:R2:=fun x y H Q=>scal x y=true∧Q (.bl (decide (x=y))) H
noncomputable def rNe:R2:=fun x y H Q=>scal x y=true∧Q (.bl (!decide (x=y))) H
theorem rV {i j:Int}:decide (V.int i=V.int j)=(i==j):=by rw [jX]; simp
theorem dec_bl {i j:Bool}:decide (V.bl i=V.bl j)=(i==j):=by rw [jX]; simp
theorem dec_str {i j:Str}:decide (V.str i=V.str j)=(i==j):=by rw [jX]; simp
theorem dec_byt {i j:Array UInt8}:decide (V.byt i=V.byt j)=(i.toList==j.toList):=by rw [jX]; cases i; cases j; simp
section
variable {X:Cx} {a b c:Expr} {ta tb tc:TE} {pos:Pos}
theorem fX {pins:List (Addr × Obj)} {σ:St} {H:Hp} {s:Shared} {Q:VK} {k k':Bool} (I:Inv X pins σ H s) (q:Q (.bl k) H) (e:k=k'):EP X pins σ Q (.bool k') s:=by subst e; exact ⟨.bl k,H,I,rfl,q⟩
theorem op_eq:OpR X (compareOp .Eq) rEq:=by
 intro pins s σ H x y v u Q I rx ry h; obtain ⟨hs,q⟩:=h; cases x with
 | non=>
  cases rx; cases y with
  | non=>cases ry; exact PySem.EqNone.eq_none_none (fX I q (by simp))
  | bl j=>cases ry; exact PySem.EqNone.eq_none_bool (fX I q (by simp))
  | int j=>obtain ⟨t',rfl⟩:=ry; exact PySem.EqNone.eq_none_int (fX I q (by simp))
  | str j=>obtain ⟨t',rfl⟩:=ry; exact PySem.EqNone.eq_none_str (fX I q (by simp))
  | _=>exact absurd (show false=true from hs) bO
 | bl i=>
  cases rx; cases y with
  | non=>cases ry; exact PySem.EqNone.eq_bool_none (fX I q (by simp))
  | bl j=>cases ry; exact eq_bool (fX I q dec_bl)
  | str j=>obtain ⟨t',rfl⟩:=ry; exact PySem.EqMixed.eq_bool_str (fX I q (by simp))
  | _=>exact absurd (show false=true from hs) bO
 | int i=>
  obtain ⟨t,rfl⟩:=rx; cases y with
  | non=>cases ry; exact PySem.EqNone.eq_int_none (fX I q (by simp))
  | int j=>obtain ⟨t',rfl⟩:=ry; exact eq_int (fX I q rV)
  | str j=>obtain ⟨t',rfl⟩:=ry; exact PySem.EqMixed.eq_int_str (fX I q (by simp))
  | _=>exact absurd (show false=true from hs) bO
 | str i=>
  obtain ⟨t,rfl⟩:=rx; cases y with
  | non=>cases ry; exact PySem.EqNone.eq_str_none (fX I q (by simp))
  | bl j=>cases ry; exact PySem.EqMixed.eq_str_bool (fX I q (by simp))
  | int j=>obtain ⟨t',rfl⟩:=ry; exact PySem.EqMixed.eq_str_int (fX I q (by simp))
  | str j=>obtain ⟨t',rfl⟩:=ry; exact eq_str (fX I q dec_str)
  | _=>exact absurd (show false=true from hs) bO
 | byt i=>
  obtain ⟨t,rfl⟩:=rx; cases y with
  | byt j=>obtain ⟨t',rfl⟩:=ry; exact PySem.W.eq_bytes (fX I q dec_byt)
  | _=>exact absurd (show false=true from hs) bO
 | _=>cases y<;>exact absurd (show false=true from hs) bO
theorem op_ne:OpR X (compareOp .NotEq) rNe:=by
 intro pins s σ H x y v u Q I rx ry h; obtain ⟨hs,q⟩:=h; cases x with
 | non=>
  cases rx; cases y with
  | non=>cases ry; exact PySem.EqNone.ne_none_none (fX I q (by simp))
  | bl j=>cases ry; exact PySem.EqNone.ne_none_bool (fX I q (by simp))
  | int j=>obtain ⟨t',rfl⟩:=ry; exact PySem.EqNone.ne_none_int (fX I q (by simp))
  | str j=>obtain ⟨t',rfl⟩:=ry; exact PySem.EqNone.ne_none_str (fX I q (by simp))
  | _=>exact absurd (show false=true from hs) bO
 | bl i=>
  cases rx; cases y with
  | non=>cases ry; exact PySem.EqNone.ne_bool_none (fX I q (by simp))
  | bl j=>cases ry; exact ne_bool (fX I q (congrArg not dec_bl))
  | str j=>obtain ⟨t',rfl⟩:=ry; exact PySem.EqMixed.ne_bool_str (fX I q (by simp))
  | _=>exact absurd (show false=true from hs) bO
 | int i=>
  obtain ⟨t,rfl⟩:=rx; cases y with
  | non=>cases ry; exact PySem.EqNone.ne_int_none (fX I q (by simp))
  | int j=>obtain ⟨t',rfl⟩:=ry; exact ne_int (fX I q (congrArg not rV))
  | str j=>obtain ⟨t',rfl⟩:=ry; exact PySem.EqMixed.ne_int_str (fX I q (by simp))
  | _=>exact absurd (show false=true from hs) bO
 | str i=>
  obtain ⟨t,rfl⟩:=rx; cases y with
  | non=>cases ry; exact PySem.EqNone.ne_str_none (fX I q (by simp))
  | bl j=>cases ry; exact PySem.EqMixed.ne_str_bool (fX I q (by simp))
  | int j=>obtain ⟨t',rfl⟩:=ry; exact PySem.EqMixed.ne_str_int (fX I q (by simp))
  | str j=>obtain ⟨t',rfl⟩:=ry; exact ne_str (fX I q (congrArg not dec_str))
  | _=>exact absurd (show false=true from hs) bO
 | byt i=>
  obtain ⟨t,rfl⟩:=rx; cases y with
  | byt j=>obtain ⟨t',rfl⟩:=ry; exact PySem.W.ne_bytes (fX I q (congrArg not dec_byt))
  | _=>exact absurd (show false=true from hs) bO
 | _=>cases y<;>exact absurd (show false=true from hs) bO
theorem op_lt:OpR X (compareOp .Lt) (rI0 fun i j=> .bl (decide (i<j))):=opB0 fun _ _ _ _ _ _ _ q=>lt_int q
theorem op_le:OpR X (compareOp .LtE) (rI0 fun i j=> .bl (decide (i≤j))):=opB0 fun _ _ _ _ _ _ _ q=>le_int q
theorem op_gt:OpR X (compareOp .Gt) (rI0 fun i j=> .bl (decide (j<i))):=opB0 fun _ _ _ _ _ _ _ q=>gt_int q
theorem op_ge:OpR X (compareOp .GtE) (rI0 fun i j=> .bl (decide (j≤i))):=opB0 fun _ _ _ _ _ _ _ q=>ge_int q
theorem op_isN:OpR X (compareOp .Is) (fun x y H Q=>y= .non∧Q (.bl (decide (x= .non))) H):=by
 intro pins s σ H x y v u Q I rx ry h; obtain ⟨rfl,q⟩:=h; cases ry; refine is_none_gen (fX I q ?_)
 cases x<;>first
  | (cases rx; rfl)
  | (obtain ⟨t,rfl⟩:=rx; rfl)
theorem OpR.or {f:Value→Value→Sem Value} {r r':R2} (h:OpR X f r) (h':OpR X f r'):OpR X f (fun x y H Q=>r x y H Q∨r' x y H Q):=by
 intro pins s σ H x y v u Q I rx ry q
 rcases q with q | q
 ·exact h pins s σ H x y v u Q I rx ry q
 ·exact h' pins s σ H x y v u Q I rx ry q
theorem iU (b:Expr) {op:CmpOp} (h:op≠ .In:=by decide) (h2:op≠ .NotIn:=by decide):behindInMarks op b=false:=by
 have e1:(op==CmpOp.In)=false:=by cases op<;>first | rfl | exact absurd rfl h
 have e2:(op==CmpOp.NotIn)=false:=by cases op<;>first | rfl | exact absurd rfl h2
 cases b<;>simp [behindInMarks,e1,e2]
theorem pe_cmpR {op:CmpOp} {r:R2} (ho:OpR X (compareOp op) r) (ha:PE X a ta) (hb:PE X b tb) (hm:behindInMarks op b=false):PE X (.Compare a [op] [b] pos) (tOp r ta tb):=by intro pins s σ H Q I h; exact wpAny_Compare1 (binT ha hb I h fun v u s2 x y H2 I2 rx ry q=>ho pins s2 σ H2 x y v u Q I2 rx ry q) hm
noncomputable def tTest (t:TE):TT:=fun σ H Q=>t σ H fun x H'=>∃k,x= .bl k∧Q k H'
theorem vB {op:CmpOp} {r:R2} (ho:OpR X (compareOp op) r) (ha:PE X a ta) (hb:PE X b tb) (hm:behindInMarks op b=false):PT X (.Compare a [op] [b] pos) (tTest (tOp r ta tb)):=by
 intro pins s σ H Q I h
 refine wpAny_isTrue_Compare1 (thn (ha pins s σ H _ I h) fun v s1 ⟨x,H1,I1,r1,q1⟩=>thn (hb pins s1 σ H1 _ I1 q1) fun u s2 ⟨y,H2,I2,r2,q2⟩=>thn (ho pins s2 σ H2 x y v u _ I2 r1 r2 q2) fun c s3 ⟨z,H3,I3,r3,k,e,q3⟩=> ?_) hm
 subst e; cases r3; exact wpAny_truthy_bool ⟨H3,I3,q3⟩
noncomputable def tChain (r r':R2) (ta tb tc:TE):TE:=fun σ H Q=>ta σ H fun x H1=>tb σ H1 fun y H2=>r x y H2 fun z H3=>∃k,z= .bl k∧
 (if k=true then tc σ H3 fun w' H4=>r' y w' H4 Q else Q (.bl false) H3)
theorem pt_chain {op op':CmpOp} {r r':R2} (ho:OpR X (compareOp op) r) (ho':OpR X (compareOp op') r') (ha:PE X a ta) (hb:PE X b tb) (hc:PE X c tc)
  (hm:lastMarks [op,op'] [b,c]=false:=by with_unfolding_all rfl):PT X (.Compare a [op,op'] [b,c] pos) (tTest (tChain r r' ta tb tc)):=by
 intro pins s σ H Q I h
 refine isTrue_chain (thn (ha pins s σ H _ I h) fun v s1 ⟨x,H1,I1,r1,q1⟩=>test_link (thn (hb pins s1 σ H1 _ I1 q1) fun u s2 ⟨y,H2,I2,r2,q2⟩=>thn (ho pins s2 σ H2 x y v u _ I2 r1 r2 q2) fun d s3 ⟨z,H3,I3,r3,k,e,q3⟩=> ?_)) hm
 subst e; cases r3; refine wpAny_truthy_bool ?_; cases k with
 | false=>obtain ⟨k',e',q'⟩:=q3; cases e'; exact ite_ff ⟨H3,I3,q'⟩
 | true=>refine ite_tt (test_last (thn (hc pins s3 σ H3 _ I3 q3) fun w' s4 ⟨z',H4,I4,r4,q4⟩=>thn (ho' pins s4 σ H4 y z' u w' _ I4 r2 r4 q4) fun d' s5 ⟨z2,H5,I5,r5,k2,e2,q5⟩=> ?_)); subst e2; cases r5; exact wpAny_truthy_bool ⟨H5,I5,q5⟩
theorem line63:(sizeLine:Nat)<2^63:=by rw [sizeLine_eq]; decide
theorem qE {x:V} {us:List Value} (r:Vals [x] us):∃u,us=[u]∧RelV x u:=by
 cases r with
 | cons r1 r2=>cases r2; exact ⟨_,rfl,r1⟩
theorem vals2 {x y:V} {us:List Value} (r:Vals [x,y] us):∃u w',us=[u,w']∧RelV x u∧RelV y w':=by
 cases r with
 | cons r1 r2=>
  cases r2 with
  | cons r3 r4=>cases r4; exact ⟨_,_,rfl,r1,r3⟩
end
structure ObjM (h:Heap) (x dx C:Addr) (mA:Str→Option Value):Prop where
 obj:h.get? x=some (uM C dx)
 ns:h.Ns1 dx mA
 ne:dx≠x
theorem lookIn_ns {h:Heap} {dx:Addr} {mA:Str→Option Value} (n:h.Ns1 dx mA):∃od,h.get? dx=some od∧∀name,xC name od=some (mA name):=by
 obtain ⟨o,es,ep,ho,hd,hk,_,hm⟩:=n; refine ⟨o,ho,fun name=> ?_⟩; have e:=hm name; unfold nsFind findBy at e; rw [← Array.find?_toList] at e; unfold xC; rw [hd]; dsimp only
 split
 ·rename_i y q; rw [q] at e; exact congrArg some e
 ·rename_i q; rw [q] at e
  have a:es.toList.any (·.refKey)=false:=by rw [List.any_eq_false]; intro y hy; obtain ⟨z,t,hkey⟩:=hk y (Array.mem_toList_iff.mp hy); simp [DictEntry.refKey,hkey]
  have a':¬ es.toList.any (·.refKey)=true:=by rw [a]; exact bO
  rw [if_neg a']; exact congrArg some e
theorem ObjM.look {h:Heap} {x dx C:Addr} {mA:Str→Option Value} (I:ObjM h x dx C mA):∃od,PySem.W.InstAt h x (uM C dx) C (some od)∧∀name,xC name od=some (mA name):=
 let ⟨od,ho,hl⟩:=lookIn_ns I.ns
 ⟨od,⟨I.obj,rfl,rfl,ho⟩,hl⟩
theorem RelO.some_of {v:V} {o:Option Value} (r:RelO (some v) o):∃u,o=some u∧RelV v u:=by
 cases o with
 | none=>exact (show False from r).elim
 | some u=>exact ⟨u,rfl,r⟩
section
variable {P:Program} {w:World} {H H':Hp} {h h':Heap} {a C dx:Addr} {fs fs':List (Str × V)}
theorem ins_get (hok:HOk P w H h) (e:H a=some (.ins C dx fs)):∃mA,ObjM h a dx C mA∧(∀f,RelO (fs.lookup f) (mA f))∧PySem.Within mA (fs.map (·.1))∧fs.length≤1000∧H dx=some (.own a):=by obtain ⟨d,z,ne,ob,mA,n,r,q⟩:=(show ObjOk P w H h a (.ins C dx fs) from hok a _ e); exact ⟨mA,⟨ob,n,ne⟩,r,q,z,d⟩
end
structure Cls (K:aD) (C:Addr):Prop where
 pg:PySem.W.plainGet K C Str.empty=true
 hd:PySem.W.hasDictIn K C=true
 po:PySem.W.plainOver K C=true
 sa:mO K (.ref C) "__setattr__"=some (some (.builtin "object.__setattr__"))
theorem Cls.get {K:aD} {C:Addr} (c:Cls K C) (f:Str):PySem.W.plainGet K C f=true:=c.pg
structure Con (K:aD) (C:Addr) (f:Str) (v:V) (u:Value):Prop where
 at_:mO K (.ref C) f=some (some u)
 rel:RelV v u
 get:PySem.W.specialIn K u "__get__"=some none
 cp:PySem.W.copiedNames.contains f=false
structure Meth (K:aD) (C:Addr) (m:Str) (f:Addr):Prop where
 at_:mO K (.ref C) m=some (some (.ref f))
 fn:PySem.W.isFn K (.ref f)=true
 kp:bA K (.ref f)=true
section
variable {X:Cx} {pins:List (Addr × Obj)} {σ:St} {H:Hp} {s:Shared} {A:Around} {E:Value→Shared→Prop} {Q:Value→Shared→Prop} {c:Value} {b:Bool}
inductive rL (K:aD) (H:Hp):V→Value→Prop where
 | non:rL K H .non (.type "NoneType")
 | bl (x:Bool):rL K H (.bl x) (.type "bool")
 | int (i:Int):rL K H (.int i) (.type "int")
 | str (x:Str):rL K H (.str x) (.type "str")
 | flt (x:UInt64):rL K H (.flt x) (.type "float")
 | lst {a:Addr} {xs:List V} (e:H a=some (.lst xs)):rL K H (.ref a) (.type "list")
 | frz {a:Addr} {o:Obj} {xs:List V} (e:H a=some (.frz o (.lst xs))):rL K H (.ref a) (.type "list")
 | tup {a:Addr} {xs:List V} (e:H a=some (.tup xs)):rL K H (.ref a) (.type "tuple")
 | dK {a:Addr} {kvs:List (Key × V)} (e:Rd H a (.dK kvs)):rL K H (.ref a) (.type "dict")
 | dT {a:Addr} {kvs:List (List Key × V)} (e:H a=some (.dT kvs)):rL K H (.ref a) (.type "dict")
 | ins {a C dx:Addr} {fs:List (Str × V)} (e:H a=some (.ins C dx fs)) (cl:Cls K C) (ha:mO K (.ref C) "__class__"=some (some (.builtin "object.__class__")))
   (hn:PySem.W.specialIn K (.builtin "object.__class__") "__get__"=some (some (.builtin "getset_descriptor.__get__"))) (htk:PySem.W.takesIn K (.builtin "object.__class__")=some true)
   (hm:PySem.W.mroIn K C (.type "object")=some true):rL K H (.ref a) (.ref C)
theorem isinst_ok {x:V} {u t:Value} (I:Inv X pins σ H s) (rx:RelV x u) (ty:rL X.K H x t) (e:fE X.K t c=some b) (h:∀tk,Q (.bool b) {s with toks:=tk}):
  wpAny (model X.prog X.w) A (call (.builtin "isinstance") [u,c]) Q E s:=by
 cases ty with
 | non=>cases (show u=Value.none from rx); exact fU PySem.W.kitx_none I.kIn True.intro e (fun z=>nomatch z) h
 | bl y=>cases (show u=Value.bool y from rx); exact fU PySem.W.kitx_bool I.kIn True.intro e (fun z=>nomatch z) h
 | int i=>obtain ⟨t,q⟩:=(show ∃t,u=Value.int i t from rx); cases q; exact fU PySem.W.kitx_int I.kIn True.intro e (fun z=>nomatch z) h
 | str y=>obtain ⟨t,q⟩:=(show ∃t,u=Value.str y t from rx); cases q; exact fU PySem.W.kitx_str I.kIn True.intro e (fun z=>nomatch z) h
 | flt y=>obtain ⟨t,q⟩:=(show ∃t,u=Value.float y t from rx); cases q; exact fU PySem.W.kitx_float I.kIn True.intro e (fun z=>nomatch z) h
 | @lst a xs ea=>cases (show u=Value.ref a from rx); obtain ⟨_,_,n,_,h1⟩:=(show ObjOk X.prog X.w H s.heap a (.lst xs) from I.hok a _ ea); exact fU PySem.W.kitx_list I.kIn ⟨_,h1,rfl⟩ e (fun z=>nomatch z) h
 | @frz a ob xs ea=>cases (show u=Value.ref a from rx); obtain ⟨_,_,_,n,_,h1⟩:=(show ObjOk X.prog X.w H s.heap a (.frz ob (.lst xs)) from I.hok a _ ea); exact fU PySem.W.kitx_list I.kIn ⟨_,h1,rfl⟩ e (fun z=>nomatch z) h
 | @tup a xs ea=>cases (show u=Value.ref a from rx); obtain ⟨_,_,_,p⟩:=(show ObjOk X.prog X.w H s.heap a (.tup xs) from I.hok a _ ea); obtain ⟨o,h1,h2,_⟩:=p; exact fU PySem.W.kitx_tuple I.kIn ⟨o,h1,h2⟩ e (fun z=>nomatch z) h
 | @dK a kvs ea=>cases (show u=Value.ref a from rx); obtain ⟨_,_,vs,_,p⟩:=(show ObjOk X.prog X.w H s.heap a (.dK kvs) from ea.ok I.hok); obtain ⟨o,es,ep,h1,h2,_⟩:=p; exact fU PySem.W.kitx_dict I.kIn ⟨o,h1,h2.1⟩ e (fun z=>nomatch z) h
 | @dT a kvs ea=>cases (show u=Value.ref a from rx); obtain ⟨_,_,xs,_,o,es,ep,h1,h2,_⟩:=(show ObjOk X.prog X.w H s.heap a (.dT kvs) from I.hok a _ ea); exact fU PySem.W.kitx_dict I.kIn ⟨o,h1,h2.1⟩ e (fun z=>nomatch z) h
 | @ins a C dx fs ea cl ha hn htk hm=>cases (show u=Value.ref a from rx); obtain ⟨mA,O,_⟩:=ins_get I.hok ea; obtain ⟨od,J,_⟩:=O.look; exact fU (PySem.W.kitx_own (cl.get _) cl.hd ha hn htk hm) I.kIn J e (fun z=>nomatch z) h
end
structure Room (k:Nat) (A:Around):Prop where
 hd:A.handled=none
 dp:A.depth+3 * k+5<recursionLimit
 un:A.units+16 * k+200<cLine
 gd:A.guards=some []
theorem Room.mono {j k:Nat} {A:Around} (r:Room k A) (h:j≤k):Room j A:=⟨r.hd,by have:=r.dp; omega,by have:=r.un; omega,r.gd⟩
theorem Room.deeper {k:Nat} {A:Around} (r:Room (k+1) A) (env:Env):Room k (A.deeper env):=
 ⟨r.hd,by have:=r.dp; show A.depth+1+3 * k+5<_; omega,by have:=r.un; show A.units+3+16 * k+200<_; omega,r.gd⟩
theorem Room.depth {k:Nat} {A:Around} (r:Room k A):A.depth<recursionLimit:=by have:=r.dp; omega
noncomputable def zR:TA:=fun _ H Q=>Q [] H
noncomputable def oR (ta:TE) (tr:TA):TA:=fun σ H Q=>ta σ H fun x H1=>tr σ H1 fun xs H2=>Q (x::xs) H2
section
variable {X:Cx} {e:Expr} {es:List Expr} {te:TE} {t:TA} {pos:Pos}
theorem pa_nil:PA X [] zR:=fun _ _ _ _ H Q I h=>Calls.spliced_nil ⟨[],H,I, .nil,h⟩
theorem gR (ha:PE X e te) (hr:PA X es t) (hs:starEach (e::es) X.env=(false,eval e X.env)::starEach es X.env:=by rfl):PA X (e::es) (oR te t):=by intro pos pins s σ H Q I h; rw [hs]; show wpAny _ _ (spliced ((false,eval e X.env)::backTo pos (starEach es X.env))) _ _ s; refine Calls.spliced_cons (thn (ha pins s σ H _ I h) fun u s1 ⟨x,H1,I1,r1,q1⟩=> ?_); exact thn (hr pos pins s1 σ H1 _ I1 q1) fun us s2 ⟨xs,H2,I2,r2,q2⟩=>⟨x::xs,H2,I2, .cons r1 r2,q2⟩
noncomputable def tTup (t:TA):TE:=fun σ H Q=>t σ H fun xs H1=>xs.length≤sizeLine∧∀p,H1 p=none→Q (.ref p) (upd H1 p (.tup xs))
noncomputable def tLst (t:TA):TE:=fun σ H Q=>t σ H fun xs H1=>xs.length≤sizeLine∧∀p,H1 p=none→Q (.ref p) (upd H1 p (.lst xs))
theorem pe_tup {x1} (h:PA X es t):PE X (.Tuple es x1 pos) (tTup t):=by intro pins s σ H Q I hq; refine wpAny_Tuple_spliced (thn (h pos pins s σ H _ I hq) fun us s1 ⟨xs,H1,I1,r,z,q⟩=>⟨by rw [← r.length]; exact z, ?_⟩); have hf:H1 s1.heap.objs.size=none:=I1.hok.fresh (aX _); refine ⟨.ref s1.heap.objs.size,upd H1 s1.heap.objs.size (.tup xs),I1.laid (t':=s1.toks) (fun b u e=>aM _ e) (aX _) ?_,rfl,q _ hf⟩; exact ⟨z,us,r,IsTupD.new _ _⟩
theorem pe_lst (h:PA X es t):PE X (.List es pos) (tLst t):=by intro pins s σ H Q I hq; refine wpAny_List_spliced (thn (h pos pins s σ H _ I hq) fun us s1 ⟨xs,H1,I1,r,z,q⟩=>⟨by rw [← r.length]; exact z, ?_⟩); have hf:H1 s1.heap.objs.size=none:=I1.hok.fresh (aX _); refine ⟨.ref s1.heap.objs.size,upd H1 s1.heap.objs.size (.lst xs),I1.laid (t':=s1.toks) (fun b u e=>aM _ e) (aX _) ?_,rfl,q _ hf⟩; exact ⟨z,us,0,r,bW _ rfl⟩
end
noncomputable abbrev Sp:=List V→Hp→VK→XK→Prop
noncomputable abbrev CXT:=List Env→Hp→Shared→XK→Value→Shared→Prop
structure Env0 (P:Program) (w:World) (K:aD) (mg:Str→Option Value) (base:Heap) (A:Around) (outer:List Env) (s:Shared) (H:Hp):Prop where
 frames:A.frames=some outer
 mod:Mod K mg base
 bs:∀b o,base.get? b=some o→s.heap.get? b=some o∧H b=none
 bsz:base.objs.size≤s.heap.objs.size
 funs:s.heap.FunFrames base outer
 frf:∀b∈frs outer,H b=none
 hok:HOk P w H s.heap
 bare:AllBare s.gens
noncomputable def CE (outer:List Env) (P:Program) (w:World) (H:Hp) (s:Shared) (Q:VK) (u:Value) (s':Shared):Prop:=
 ∃v H',s'.os=s.os∧AllBare s'.gens∧Un (frs outer) [] H H' s.heap s'.heap∧HOk P w H' s'.heap∧RelV v u∧Q v H'
noncomputable def CR (CX:CXT) (outer:List Env) (P:Program) (w:World) (H:Hp) (s:Shared) (Q:VK) (E:XK) (r:Result) (s':Shared):Prop:=
 match r with
 | .ok (.ret u)=>CE outer P w H s Q u s'
 | .ok _=>False
 | .error e=>CX outer H s E e s'
structure FnOk (P:Program) (w:World) (K:aD) (mg:Str→Option Value) (base:Heap) (CX:CXT) (k:Nat) (f:Addr) (fd:FuncData) (ps:List Str) (sp:Sp):Prop where
 len:∀vs H Q E,sp vs H Q E→vs.length=ps.length
 run:∀ (A:Around) (outer:List Env) (s:Shared) (H:Hp) (args:Args) (us:List Value) (vs:List V) (Q:VK) (E:XK),Room k A→Env0 P w K mg base A outer s H→BindsTo s fd args (ps.zip us)→Vals vs us→sp vs H Q E→
  codeAny (model P w) A (.call (.ref f) args) (CR CX outer P w H s Q E) s
section
variable {X:Cx} {pins:List (Addr × Obj)} {σ:St} {H:Hp} {s s':Shared}
theorem Inv.env0 (I:Inv X pins σ H s):Env0 X.prog X.w X.K X.mg X.base X.A X.stack s H:=
 ⟨I.ok.frames,I.ok.mod,I.bs,eD I.ok.bsz I.sz,I.stack,I.stkFree,I.hok,I.bare⟩
theorem Inv.after {Q:VK} {u:Value} (I:Inv X pins σ H s) (h:CE X.stack X.prog X.w H s Q u s'):EP X pins σ Q u s':=by obtain ⟨v,H',os,bare,un,hok,r,q⟩:=h; obtain ⟨hh,g,d,t,os'⟩:=s'; obtain rfl:os'=s.os:=os; exact ⟨v,H',I.call (h':=hh) (g':=g) (d':=d) (t':=t) (ch:=[]) un hok bare (fun b z=>absurd z (by simp)),r,q⟩
end
noncomputable def tCall (sp:Sp) (dvs:List V) (E:XK) (t:TA):TE:=fun σ H Q=>t σ H fun vs H1=>sp (vs++dvs) H1 Q E
noncomputable def Binds (K:aD) (fd:FuncData) (ps:List Str) (ds:List Value):Prop:=
 ∀ (s:Shared) (us:List Value),K.In s.heap→(us++ds).length=ps.length→BindsTo s fd ⟨us,[]⟩ (ps.zip (us++ds))
theorem Binds.all {K:aD} {fd:FuncData} {ps:List Str} (h:∀us:List Value,us.length=ps.length→bindArgs fd ⟨us,[]⟩=pure (ps.zip us)):Binds K fd ps []:=fun s us _ hl=>by rw [dY] at hl ⊢; exact .of_eq (h us hl)
noncomputable def Passes (CX:CXT) (X:Cx) (E:XK):Prop:=∀ (pins:List (Addr × Obj)) (σ:St) (H:Hp) (s:Shared) (e:Value) (s':Shared),Inv X pins σ H s→CX X.stack H s E e s'→X.xe e s'
section
variable {X:Cx} {CX:CXT} {k:Nat} {f C:Addr} {fd:FuncData} {ps:List Str} {sp:Sp} {dvs:List V} {ds:List Value} {E:XK} {x m:Str} {p pos apos:Pos} {e o:Expr} {es:List Expr} {ta:TE} {t:TA}
theorem run_fn {pins:List (Addr × Obj)} {σ:St} {H:Hp} {s:Shared} {Q:VK} {us:List Value} {vs:List V} (F:FnOk X.prog X.w X.K X.mg X.base CX k f fd ps sp) (hr:Room k X.A) (hb:Binds X.K fd ps ds) (hd:Vals dvs ds) (hx:Passes CX X E)
  (I:Inv X pins σ H s) (r:Vals vs us) (h:sp (vs++dvs) H Q E):wpAny (model X.prog X.w) X.A (call (.ref f) us) (EP X pins σ Q) X.xe s:=by
 have r2:Vals (vs++dvs) (us++ds):=r.append hd; have hl:(us++ds).length=ps.length:=by rw [← r2.length]; exact F.len _ _ _ _ h
 refine wpAny_call (codeAny_mono (F.run X.A X.stack s H ⟨us,[]⟩ (us++ds) (vs++dvs) Q E hr I.env0 (hb s us I.kIn hl) r2 h) fun r s' hq=> ?_); cases r with
 | error e=>exact hx pins σ H s e s' I hq
 | ok fl=>
  cases fl with
  | ret u=>exact I.after hq
  | next=>exact False.elim hq
  | brk=>exact False.elim hq
  | cont=>exact False.elim hq
theorem pe_call (F:FnOk X.prog X.w X.K X.mg X.base CX k f fd ps sp) (hr:Room k X.A) (hg:Gl X x) (hm:X.mg x=some (.ref f)) (hk:bA X.K (.ref f)=true) (hb:Binds X.K fd ps ds) (hd:Vals dvs ds) (hx:Passes CX X E)
  (ha:PA X (e::es) t) (hdb:(x==("__debug__":Str))=false:=by decide) (he:starEach (e::es) X.env=(false,eval e X.env)::starEach es X.env:=by rfl) (hpl:(backTo pos (starEach es X.env)).any (·.1)=false:=by rfl):
  PE X (.Call (.Name x p) (e::es) [] pos) (tCall sp dvs E t):=by
 intro pins s σ H Q I h; refine wpAny_Call_Name_kw (ld_glob I hg hm ?_ hdb); refine PySem.W.callWith_K (h₀:=X.base) I.ok.mod.kin hk (thn (ha pos pins s σ H _ I h) fun us s1 ⟨vs,H1,I1,r,q⟩=>⟨I1.kIn, ?_⟩) he hpl; exact run_fn F hr hb hd hx I1 r q
structure Mk (K:aD) (C f:Addr):Prop where
 makes:PySem.W.makesIn K C=true
 init:mO K (.ref C) "__init__"=some (some (.ref f))
 fn:PySem.W.isFn K (.ref f)=true
 kp:bA K (.ref C)=true
end
section
variable {X:Cx} {CX:CXT} {k:Nat} {f C:Addr} {fd:FuncData} {ps ks:List Str} {sp:Sp} {E:XK} {x m:Str} {p pos apos kpos:Pos} {e o:Expr} {es:List Expr} {kws:List Keyword} {te ta:TE} {t tk:TA} {nm:Option Str}
structure KBinds (K:aD) (fd:FuncData) (ps ks:List Str) (g:List Value→List Value→List Value) (gV:List V→List V→List V):Prop where
 to:∀ (s:Shared) (us ws:List Value),K.In s.heap→(g us ws).length=ps.length→BindsTo s fd ⟨us,ks.zip ws⟩ (ps.zip (g us ws))
 rel:∀ {vs:List V} {us:List Value} {zs:List V} {ws:List Value},Vals vs us→Vals zs ws→Vals (gV vs zs) (g us ws)
variable {g:List Value→List Value→List Value} {gV:List V→List V→List V}
end
structure pR (N P:List Str) (sc:Scope):Prop where
 kind:sc.kind= .function
 co:sc.isCoroutine=false
 gen:sc.isGenerator=false
 nd:N.Nodup
 pre:N.take P.length=P
 par:∀x∈P,sc.names.lookup x=some .local∨sc.names.lookup x=some .cell
 nofree:∀y∈sc.names,y.2≠ .free
theorem yC {kindOf:Str→Option NameKind} {x:Str}:∀ {binds:List (Str × Value)} {m:Str→Option Value},(∀v,(x,v)∉binds)→bindL kindOf binds m x=m x
 | [],_,_=>rfl
 | (n,v)::r,m,h=>by
  unfold bindL; rw [yC fun w hw=>h w (aQ _ hw)]
  split
  ·have:x≠n:=by rintro rfl; exact h v aR
   simp [this]
  ·rfl
theorem yD {kindOf:Str→Option NameKind} {x:Str}:∀ {binds:List (Str × Value)} {m:Str→Option Value},(∀v,(x,v)∉binds)→bindC kindOf binds m x=m x
 | [],_,_=>rfl
 | (n,v)::r,m,h=>by
  unfold bindC; rw [yD fun w hw=>h w (aQ _ hw)]
  split
  ·rfl
  ·have:x≠n:=by rintro rfl; exact h v aR
   simp [this]
theorem yQ {kindOf:Str→Option NameKind} {x:Str} {v:Value}:∀ {P:List Str} {vs:List Value} {i:Nat} {m:Str→Option Value},P.Nodup→P[i]? =some x→vs[i]? =some v→kindOf x=some .local→
  bindL kindOf (P.zip vs) m x=some v
 | [],_,_,_,_,h,_,_=>by simp at h
 | _::_,[],_,_,_,_,h,_=>by simp at h
 | p::P,w::vs,0,m,nd,h1,h2,hk=>by simp at h1 h2; subst h1; subst h2; show bindL kindOf ((p,w)::P.zip vs) m p=_; unfold bindL; rw [yC fun v hv=>(cV.mp nd).1 (xD hv).1,if_pos hk]; simp
 | p::P,w::vs,i+1,m,nd,h1,h2,hk=>by show bindL kindOf ((p,w)::P.zip vs) m x=_; unfold bindL; exact yQ (i:=i) (cV.mp nd).2 (by simpa using h1) (by simpa using h2) hk
theorem xY {kindOf:Str→Option NameKind} {x:Str} {v:Value}:∀ {P:List Str} {vs:List Value} {i:Nat} {m:Str→Option Value},P.Nodup→P[i]? =some x→vs[i]? =some v→kindOf x≠some .local→
  bindC kindOf (P.zip vs) m x=some v
 | [],_,_,_,_,h,_,_=>by simp at h
 | _::_,[],_,_,_,_,h,_=>by simp at h
 | p::P,w::vs,0,m,nd,h1,h2,hk=>by simp at h1 h2; subst h1; subst h2; show bindC kindOf ((p,w)::P.zip vs) m p=_; unfold bindC; rw [yD fun v hv=>(cV.mp nd).1 (xD hv).1,if_neg hk]; simp
 | p::P,w::vs,i+1,m,nd,h1,h2,hk=>by show bindC kindOf ((p,w)::P.zip vs) m x=_; unfold bindC; exact xY (i:=i) (cV.mp nd).2 (by simpa using h1) (by simpa using h2) hk
noncomputable def start (N:List Str) (vs:List V):St:=vs.map some++gK (N.length - vs.length) none
noncomputable def lE (CX:CXT) (P:Program) (w:World) (K:aD) (mg:Str→Option Value) (base:Heap) (N:List Str) (qual:Str) (scope:Scope) (f:Addr) (cd:Value) (A:Around) (outer:List Env) (s:Shared) (H:Hp) (E:XK):Cx where
 prog:=P
 w:=w
 K:=K
 mg:=mg
 base:=base
 A:=A.deeper (envOfC qual scope s.heap.objs.size f cd)
 N:=N
 s₀:=s
 H₀:=H
 env:=envOfC qual scope s.heap.objs.size f cd
 outer:=outer
 stack:=envOfC qual scope s.heap.objs.size f cd::outer
 ex:=[]
 calm:=true
 fn:=fun _=>true
 pn:=[]
 xe:=fun e s'=>wpAny (model P w) (A.deeper (envOfC qual scope s.heap.objs.size f cd)) (leaving (envOfC qual scope s.heap.objs.size f cd) e) (fun _ s''=>CX outer H s E e s'') (fun e' s''=>CX outer H s E e' s'') s'
theorem cell_has {sc:Scope} {n:Nat} {x:Str} (h:sc.names.lookup x=some .cell):∃c,(cellsFrom n sc.names []).lookup x=some c:=by have q:=PySem.W.cellsFrom_some sc.names n [] (.inl h); exact Option.isSome_iff_exists.mp q
theorem inv_start {CX:CXT} {P:Program} {w:World} {K:aD} {mg:Str→Option Value} {base:Heap} {N ps:List Str} {qual:Str} {scope:Scope} {f:Addr} {cd:Value} {A:Around} {outer:List Env} {s s1:Shared} {H:Hp} {E:XK} {us:List Value} {vs:List V}
  (S:pR N ps scope) (hd:A.handled=none) (e0:Env0 P w K mg base A outer s H) (hl:vs.length=ps.length) (r:Vals vs us)
  (x:InCallC s s.heap.objs.size (bindL (envOfC qual scope s.heap.objs.size f cd).kindOf (ps.zip us) fun _=>none) (cellsFrom (s.heap.objs.size+1) scope.names []) (bindC (envOfC qual scope s.heap.objs.size f cd).kindOf (ps.zip us) fun _=>none) s1):
  Inv (lE CX P w K mg base N qual scope f cd A outer s H E) [] (start N vs) H s1:=by
 have hpl:ps.length≤N.length:=by have:=congrArg qF S.pre; rw [dU] at this; omega
 obtain ⟨h1,tk,rfl,hk⟩:=x.done; have noA:∀b:Addr,b∉(lE CX P w K mg base N qual scope f cd A outer s H E).ex:=fun b z=>absurd (show b∈([]:List Addr) from z) (by simp)
 refine ⟨⟨e0.mod,S.kind,rfl,rfl,aX _,fun y z c h1 h2=> ?_,fun y hy=> ?_,fun y c _ h=> ?_,fun _=>hd,Around.frames_deeper e0.frames, .inr ⟨rfl,rfl⟩,fun b z=>absurd z (noA b),e0.bs,e0.bsz,fun b _ _=>noA b,fun b z=>absurd z (noA b),e0.funs,e0.frf⟩,
  rfl,e0.bare,Un.kept hk,⟨_,x.toInCall.ns,fun i y v h1 h2 h3=> ?_⟩,fun y c h=>⟨_,x.cell y c h⟩,e0.hok.fresh (aX _),fun y c h=> ?_,fun p hp=>absurd (show p∈([]:List (Addr × Obj)) from hp) (by simp),e0.hok.kept hk, ?_⟩
 ·exact name_of_addr x.apart (PySem.mem_of_lookup h1) (PySem.mem_of_lookup h2)
 ·have hy:scope.names.lookup y=some .cell∨scope.names.lookup y=some .free:=hy
  rcases hy with hy | hy
  ·exact cell_has hy
  ·exact absurd rfl (S.nofree _ (PySem.mem_of_lookup hy))
 ·exact eX (x.above y c (PySem.mem_of_lookup h))
 ·have hi:i<vs.length:=by
   unfold start at h2
   by_cases hi:i<vs.length
   ·exact hi
   ·rw [gU (by simpa using hi)] at h2; rw [List.getElem?_replicate] at h2
    split at h2<;>cases h2
  have ha:vs[i]? =some v:=by
   unfold start at h2; rw [gZ (by simpa using hi),bG] at h2; cases e:vs[i]? with
   | none=>rw [e] at h2; cases h2
   | some a=>rw [e] at h2; cases h2; rfl
  obtain ⟨u,hu,rv⟩:=r.get ha
  have hp:ps[i]? =some y:=by rw [← S.pre,List.getElem?_take_of_lt (by omega)]; exact h1
  have ndP:ps.Nodup:=by rw [← S.pre]; exact S.nd.sublist (List.take_sublist _ _)
  refine ⟨u,rv, ?_⟩
  rcases S.par y (aY hp) with k | k
  ·exact .inl ⟨k,yQ ndP hp hu k⟩
  ·obtain ⟨c,e⟩:=cell_has (n:=s.heap.objs.size+1) k; refine .inr ⟨.inl k,c,e, ?_⟩; have q:=x.cell y c e; rw [xY ndP hp hu (by show scope.names.lookup y≠_; rw [k]; decide)] at q; exact q
 ·exact e0.hok.fresh (eX (x.above y c (PySem.mem_of_lookup h)))
 ·unfold start; show _=N.length; rw [bK,aG,List.length_replicate]; omega
theorem fn_of {CX:CXT} {P:Program} {w:World} {K:aD} {mg:Str→Option Value} {base:Heap} {k:Nat} {f:Addr} {name qual:Str} {params:Arguments} {body:List Stmt} {scope:Scope} {dV kV doc pm cdv ct oc:Value} {an od:Option Addr}
  {osl:Array (Option Value)} {N ps:List Str} {sp:Sp} (lk:K.lookup f=some ⟨oc,od, .func (bN name qual params body scope dV kV doc pm an cdv ct),osl⟩) (hcd:bL K cdv qual=true) (S:pR N ps scope)
  (len:∀vs H Q E,sp vs H Q E→vs.length=ps.length)
  (hbody:∀ (A:Around) (outer:List Env) (s:Shared) (H:Hp) (vs:List V) (Q:VK) (E:XK),Room k (A.deeper (envOfC qual scope s.heap.objs.size f cdv))→sp vs H Q E→
   ∃t,PSs (lE CX P w K mg base N qual scope f cdv A outer s H E) body t∧t {nx:=fun _ H'=>Q .non H',rt:=Q} (start N vs) H):
  FnOk P w K mg base CX (k+1) f (bN name qual params body scope dV kV doc pm an cdv ct) ps sp:=by
 refine ⟨len,fun A outer s H args us vs Q E hr e0 hb r hsp=> ?_⟩; have hl:=len _ _ _ _ hsp; have KX:K.In s.heap:=e0.mod.kin.keeps fun b o e=>(e0.bs b o e).1
 have lim:s.heap.NoLimit:=e0.mod.nolimit.keeps fun b o e=>(e0.bs b o e).1
 have hkind:∀y∈ps.zip us,scope.names.lookup y.1=some .local∨(scope.names.lookup y.1=some .cell∧((cellsFrom (s.heap.objs.size+1) scope.names []).lookup y.1).isSome=true):=fun ⟨n,v⟩ hy=>by
  rcases S.par n (xD hy).1 with q | q
  ·exact .inl q
  ·exact .inr ⟨q,PySem.W.cellsFrom_some _ _ _ (.inl q)⟩
 refine codeAny_call_function hr.depth (KX _ _ lk) rfl S.co S.gen rfl (PySem.W.codeRec_of KX hcd) (hb _ _ _ _ ?_); refine wpAny_newFunctionEnv_cells S.kind hkind fun env he s1 x=> ?_
 subst he; refine ⟨lim.keeps x.toInCall.keep,codeAny_func ?_⟩; obtain ⟨t,ht,hq⟩:=hbody A outer s H vs Q E (hr.deeper _) hsp; have I:Inv (lE CX P w K mg base N qual scope f cdv A outer s H E) [] (start N vs) H s1:=inv_start S hr.hd e0 hl r x; refine wpAny_mono (ht [] s1 (start N vs) H _ I hq) (fun fl s' hs=> ?_) fun e s' hs=>hs
 have fin:∀ {σ':St} {H':Hp} {v:V} {u:Value},Inv (lE CX P w K mg base N qual scope f cdv A outer s H E) [] σ' H' s'→RelV v u→Q v H'→CE outer P w H s Q u s':=
  fun {σ' H' v u} J rv q=>⟨v,H',J.os,J.bare,J.base,J.hok,rv,q⟩
 cases fl with
 | ret u=>obtain ⟨v,σ',H',J,rv,q⟩:=hs; exact fin J rv q
 | next=>obtain ⟨σ',H',J,q⟩:=hs; exact fin (v:=V.non) (u:=Value.none) J rfl q
 | brk=>obtain ⟨_,_,_,q⟩:=hs; exact False.elim q
 | cont=>obtain ⟨_,_,_,q⟩:=hs; exact False.elim q
section
variable {X:Cx} {x:Str} {p pos:Pos} {e:Expr} {es:List Expr} {t:TA} {id T:String} {r:List V→Hp→VK→Prop}
noncomputable def tCB (r:List V→Hp→VK→Prop) (t:TA):TE:=fun σ H Q=>t σ H fun vs H1=>r vs H1 Q
theorem rW (hc:nQ X (.builtin id) r) (hg:Gl X x) (hm:X.mg x=none) (hv:bootBuiltins x=some (.builtin id)) (ha:PA X (e::es) t) (hn:x≠"__name__":=by decide) (hdb:(x==("__debug__":Str))=false:=by decide)
  (he:starEach (e::es) X.env=(false,eval e X.env)::starEach es X.env:=by rfl) (hpl:(backTo pos (starEach es X.env)).any (·.1)=false:=by rfl):PE X (.Call (.Name x p) (e::es) [] pos) (tCB r t):=by
 intro pins s σ H Q I h; refine wpAny_Call_Name_kw (oZ I hg hm hv ?_ hn hdb); exact PyProof.Rows.callWith_builtin1 (thn (ha pos pins s σ H _ I h) fun us s1 ⟨vs,H1,I1,r1,q1⟩=>hc pins s1 σ H1 vs us Q I1 r1 q1) he hpl
theorem pe_callTy (hc:nQ X (.type T) r) (hg:Gl X x) (hm:X.mg x=none) (hv:bootBuiltins x=some (.type T)) (ha:PA X (e::es) t) (hn:x≠"__name__":=by decide) (hdb:(x==("__debug__":Str))=false:=by decide)
  (he:starEach (e::es) X.env=(false,eval e X.env)::starEach es X.env:=by rfl) (hpl:(backTo pos (starEach es X.env)).any (·.1)=false:=by rfl):PE X (.Call (.Name x p) (e::es) [] pos) (tCB r t):=by
 intro pins s σ H Q I h; refine wpAny_Call_Name_kw (oZ I hg hm hv ?_ hn hdb); exact PyProof.Rows.callWith_type1 (thn (ha pos pins s σ H _ I h) fun us s1 ⟨vs,H1,I1,r1,q1⟩=>hc pins s1 σ H1 vs us Q I1 r1 q1) he hpl
end
end L2
namespace HT
open PySem PyProof.Rows
noncomputable def lexLt:List Int→List Int→Bool
 | [],[]=>false
 | [],_::_=>true
 | _::_,[]=>false
 | x::xs,y::ys=>if x=y then lexLt xs ys else decide (x<y)
section
open PySem.SeqAt
open PySem.AutoSeq1 (wpAny_loadPart')
open PySem.MeetsSeq PySem.MeetsSeq2 PySem.MeetsSeq3
end
section
variable {prog:Program} {w:World} {A:Around} {E:Value→Shared→Prop} {s:Shared}
theorem cat_tup {t b:Addr} {vs ws:List Value} {Q:Value→Shared→Prop} (ht:IsTup s.heap t vs.toArray) (hb:IsTup s.heap b ws.toArray) (hv:vs≠[])
  (h1:ws=[]→Q (.ref t) s) (h2:ws≠[]→Q (.ref s.heap.objs.size) {s with heap:=s.heap.push {cls:= .type "tuple",data:= .seq (vs++ws).toArray}})
  (hsz:vs.length+ws.length≤sizeLine):wpAny (model prog w) A (binaryOp .Add (.ref t) (.ref b)) Q E s:=by
 obtain ⟨⟨cls,dd,data,sl⟩,ho,hc,n,hd⟩:=id ht; obtain ⟨⟨cls2,dd2,data2,sl2⟩,ho2,hc2,n2,hd2⟩:=id hb; simp only at hc hd hc2 hd2; subst hc hd hc2 hd2; have e:vs.toArray++ws.toArray=(vs++ws).toArray:=by simp
 by_cases hw:ws=[]
 ·exact concat_meets ⟨_,ho,rfl⟩ ⟨_,ho2,rfl⟩ noFill_tuple_add seq_tuple_add oO nZ (nH _ _)
   (tuple_addW1 t b vs.toArray ws.toArray n n2 dd dd2 sl sl2 (by simpa using hv) (by simp [hw])) ⟨ho,ho2,h1 hw⟩
 ·refine concat_meets ⟨_,ho,rfl⟩ ⟨_,ho2,rfl⟩ noFill_tuple_add seq_tuple_add oO nZ (nH _ _)
   (tuple_addW2 t b vs.toArray ws.toArray n n2 dd dd2 sl sl2 (by simpa using hv) (by simpa using hw) (by rw [bE,bE]; exact hsz)) ⟨ho,ho2, ?_⟩
  rw [e]; exact h2 hw
noncomputable def sIx (n d:Nat):Option Int→Nat
 | none=>d
 | some v=>if v<0 then (v+(n:Int)).toNat else min v.toNat n
theorem sIx_none (n d:Nat):sIx n d none=d:=rfl
theorem sIx_nat (n d k:Nat):sIx n d (some (k:Int))=min k n:=by show (if (k:Int)<0 then ((k:Int)+(n:Int)).toNat else min (k:Int).toNat n)=min k n; rw [if_neg (by omega),eY]
theorem sIx_le (n d:Nat) (hd:d≤n) (o:Option Int):sIx n d o≤n:=by
 cases o with
 | none=>exact hd
 | some v=>
  show (if v<0 then (v+(n:Int)).toNat else min v.toNat n)≤n
  by_cases hv:v<0
  ·rw [if_pos hv]; omega
  ·rw [if_neg hv]; exact Nat.min_le_right _ _
theorem clip_eq (v:Int) (n d:Nat):(if v<0 then max (v+(n:Int)) 0 else min v (n:Int))=((sIx n d (some v):Nat):Int):=by
 show (if v<0 then max (v+(n:Int)) 0 else min v (n:Int))=(((if v<0 then (v+(n:Int)).toNat else min v.toNat n):Nat):Int)
 by_cases hv:v<0
 ·simp only [if_pos hv]; omega
 ·simp only [if_neg hv]; omega
theorem adjust_gen (lo hi:Option Int) (n:Nat):Builtin.Slice.sliceAdjust lo hi 1 (n:Int)=(((sIx n 0 lo:Nat):Int),((sIx n n hi:Nat):Int)):=by
 have h1:¬ ((1:Int)<0):=by omega
 unfold Builtin.Slice.sliceAdjust; simp only [h1,if_false]; refine Prod.ext ?_ ?_
 ·cases lo with
  | none=>rfl
  | some v=>exact clip_eq v n 0
 ·cases hi with
  | none=>rfl
  | some v=>exact clip_eq v n n
theorem places_gen (i j:Nat):Builtin.Slice.slicePlaces (i:Int) (j:Int) 1=j - i:=by
 unfold Builtin.Slice.slicePlaces; have h1:(1:Int)>0:=by omega
 simp only [h1,if_true,Int.ediv_one]
 split<;>omega
theorem vP {v:Value} {o:Option Int} {Q:Option Int→Shared→Prop} (p:IsPart v o) (h:Q o s):wpAny (model prog w) A (Builtin.Slice.slicePartIndex v) Q E s:=by
 cases p with
 | none=>exact slicePart_none h
 | int i t=>exact slicePart_int h
theorem sZ {sl:Addr} {vl vu:Value} {lo hi:Option Int} {n:Nat} {Q:Int × Int × Nat→Shared→Prop} (hs:s.heap.IsSliceOf sl vl vu .none) (pl:IsPart vl lo) (pu:IsPart vu hi)
  (h:Q (((sIx n 0 lo:Nat):Int),1,sIx n n hi - sIx n 0 lo) s):wpAny (model prog w) A (Builtin.Slice.sliceApplied (.ref sl) (pure (n:Int))) Q E s:=by
 obtain ⟨os,hos,hcs,hds⟩:=id hs; unfold Builtin.Slice.sliceApplied Builtin.Slice.sliceFields; refine wpAny_bind (wpAny_bind (wpAny_field hos hds (x:=vl) rfl (wpAny_bind (wpAny_field hos hds (x:=vu) rfl (wpAny_bind (wpAny_field hos hds (x:= .none) rfl (wpAny_pure ?_))))))); refine wpAny_bind (slicePart_none ?_); show wpAny _ _ (if ((1:Int)==0)=true then _ else _) _ _ s; rw [if_neg (by decide)]; refine wpAny_bind (vP pl (wpAny_bind (vP pu (wpAny_bind (wpAny_pure ?_))))); show wpAny _ _ (match Builtin.Slice.sliceAdjust lo hi 1 (n:Int) with | (lo,hi)=>pure (lo,(1:Int),Builtin.Slice.slicePlaces lo hi 1)) _ _ s; rw [adjust_gen lo hi n]; show wpAny _ _ (pure (((sIx n 0 lo:Nat):Int),(1:Int),Builtin.Slice.slicePlaces ((sIx n 0 lo:Nat):Int) ((sIx n n hi:Nat):Int) 1)) _ _ s; rw [places_gen]; exact wpAny_pure h
theorem pick_gen (xs:Array Value) (i k:Nat):((cO k).filterMap fun (m:Nat)=>xs[((i:Int)+(m:Int) * 1).toNat]?).toArray=((xs.toList.drop i).take k).toArray:=by
 have e:(fun (m:Nat)=>xs[((i:Int)+(m:Int) * 1).toNat]?)=fun m=>xs[i+m]? :=by
  funext m; have:((i:Int)+(m:Int) * 1).toNat=i+m:=by omega
  rw [this]
 rw [e]; have:=pick_run xs i k; rw [List.filterMap_map] at this; have e2:((fun x=>xs[x]?) ∘ fun x=>i+x)=fun m=>xs[i+m]? :=rfl
 rw [e2] at this; rw [this]
theorem getItem_tuple_cut {t sl:Addr} {items:Array Value} {vl vu:Value} {lo hi:Option Int} {Q:Value→Shared→Prop} (ht:IsTup s.heap t items) (hs:s.heap.IsSliceOf sl vl vu .none) (pl:IsPart vl lo) (pu:IsPart vu hi)
  (hw:¬ (sIx items.size 0 lo=0∧sIx items.size items.size hi=items.size))
  (h:Q (.ref s.heap.objs.size) {s with heap:=s.heap.push {cls:= .type "tuple",data:= .seq ((items.toList.drop (sIx items.size 0 lo)).take (sIx items.size items.size hi - sIx items.size 0 lo)).toArray}})
  (hsz:items.size≤sizeLine):wpAny (model prog w) A (getItem (.ref t) (.ref sl)) Q E s:=by
 have htake:sizeOk (.seq ((items.toList.drop (sIx items.size 0 lo)).take (sIx items.size items.size hi - sIx items.size 0 lo)).toArray):=by show ((items.toList.drop (sIx items.size 0 lo)).take (sIx items.size items.size hi - sIx items.size 0 lo)).toArray.size≤sizeLine; rw [bE,dU,lP,cQ]; omega
 have hj:sIx items.size items.size hi≤items.size:=sIx_le _ _ (aX _) hi; obtain ⟨os,hos,hcs,hds⟩:=id hs; have hTs:s.TypeIs (.ref sl) "slice":=⟨os,hos,hcs⟩; unfold getItem
 try with_reducible refine wpAny_holding ?_
 first | refine wpAny_bind (wpAny_pure ?_) | skip
 refine wpAny_bind (wpAny_sequenceKey ht.typeIs (by decide) ?_)
 refine wpAny_bind (wpAny_callSpecial?_slot (name:=Str.ofString "__getitem__") ht.typeIs PyProof.Rows.slot_tuple_getitem
  (wpAny_call_entry PyProof.Rows.slot_tuple_getitem ht.typeIs entry_tuple_getitem ?_ (args_tuple_getitem _ _)))
 show wpAny _ _ (Builtin.Tuple.tupleItemsOf (.ref t)>>=_) _ _ s; refine wpAny_bind (tupleItemsOf_ ht ?_); refine wpAny_bind (wpAny_typeOf hTs ?_); rw [if_pos (by decide)]; refine wpAny_bind (sZ hs pl pu ?_)
 have hno:¬ ((((sIx items.size 0 lo:Nat):Int)==0 && (1:Int)==1 && (sIx items.size items.size hi - sIx items.size 0 lo)==items.size)=true):=by intro q; rw [bX,bX] at q; have q1:((sIx items.size 0 lo:Nat):Int)=0:=eq_of_beq q.1.1; have q2:sIx items.size items.size hi - sIx items.size 0 lo=items.size:=eq_of_beq q.2; exact hw ⟨by omega,by omega⟩
 show wpAny _ _ (if (((sIx items.size 0 lo:Nat):Int)==0 && (1:Int)==1 && (sIx items.size items.size hi - sIx items.size 0 lo)==items.size)=true then _ else _) _ _ s; rw [if_neg hno,pick_gen]
 first
  | exact wpAny_bind (m:=Builtin.Tuple.tupleExact _) (wpAny_newObj_type (wpAny_pure ⟨_,rfl,wpAny_pure h⟩) htake)
  | exact wpAny_bind (m:=Builtin.Tuple.tupleExact _) (wpAny_newObj_type (wpAny_bind (wpAny_pure (wpAny_pure ⟨_,rfl,wpAny_pure h⟩))) htake)
  | exact wpAny_bind (wpAny_bind (m:=Builtin.Tuple.tupleExact _) (wpAny_newObj_type (wpAny_pure (wpAny_pure ⟨_,rfl,wpAny_pure h⟩)) htake))
  | exact wpAny_bind (wpAny_bind (m:=Builtin.Tuple.tupleExact _) (wpAny_newObj_type (wpAny_pure ⟨_,rfl,wpAny_pure h⟩) htake))
end
end HT
namespace L2
open PySem PySem.Spec PyProof.Rows
noncomputable abbrev TO:=St→Hp→(Option Int→Hp→Prop)→Prop
noncomputable def PO (X:Cx) (e:Option Expr) (t:TO):Prop:=
 ∀ (pins:List (Addr × Obj)) (s:Shared) (σ:St) (H:Hp) (Q:Option Int→Hp→Prop),Inv X pins σ H s→t σ H Q→
  wpAny (model X.prog X.w) X.A (evalPart e X.env) (fun u s'=>∃o H',Inv X pins σ H' s'∧IsPart u o∧Q o H') X.xe s
noncomputable def tNoPart:TO:=fun _ H Q=>Q none H
noncomputable def tPart (t:TE):TO:=fun σ H Q=>t σ H fun x H1=>∃i,x= .int i∧Q (some i) H1
section
variable {X:Cx} {e:Expr} {te:TE} {lo hi:Option Expr} {tl th:TO} {pos p2:Pos}
theorem po_none:PO X none tNoPart:=by intro pins s σ H Q I h; rw [evalPart_none]; exact wpAny_pure ⟨none,H,I, .none,h⟩
theorem po_some (h:PE X e te):PO X (some e) (tPart te):=by
 intro pins s σ H Q I hw; rw [evalPart_some]; refine thn (h pins s σ H _ I hw) fun u s1 ⟨x,H1,I1,r1,q1⟩=> ?_
 obtain ⟨i,rfl,q⟩:=q1; obtain ⟨t,rfl⟩:=r1; exact ⟨some i,H1,I1, .int i t,q⟩
noncomputable def SlR (X:Cx) (r:V→Option Int→Option Int→Hp→VK→Prop):Prop:=
 ∀ (pins:List (Addr × Obj)) (s:Shared) (σ:St) (H:Hp) (x:V) (v vl vu:Value) (lo hi:Option Int) (sl:Addr) (Q:VK),Inv X pins σ H s→RelV x v→s.heap.IsSliceOf sl vl vu .none→IsPart vl lo→IsPart vu hi→r x lo hi H Q→
  ∃T id,typeLookup (.type T) "__getitem__"=pure (some (.builtin id))∧s.TypeIs v T∧wpAny (model X.prog X.w) X.A (getItem v (.ref sl)) (EP X pins σ Q) X.xe s
noncomputable def tSl (r:V→Option Int→Option Int→Hp→VK→Prop) (te:TE) (tl th:TO):TE:=fun σ H Q=>te σ H fun x H1=>tl σ H1 fun l H2=>th σ H2 fun u H3=>r x l u H3 Q
theorem pe_slice {r:V→Option Int→Option Int→Hp→VK→Prop} (hr:SlR X r) (he:PE X e te) (hl:PO X lo tl) (hu:PO X hi th):PE X (.Subscript e (.Slice lo hi none p2) pos) (tSl r te tl th):=by
 intro pins s σ H Q I h; refine Subscript_ (thn (he pins s σ H _ I h) fun v s1 ⟨x,H1,I1,r1,q1⟩=> ?_); refine wpAny_Slice (thn (hl pins s1 σ H1 _ I1 q1) fun vl s2 ⟨l,H2,I2,pl,q2⟩=>thn (hu pins s2 σ H2 _ I2 q2) fun vu s3 ⟨u,H3,I3,pu,q3⟩=> ?_); rw [evalPart_none]; refine wpAny_pure ?_; have I4:Inv X pins σ H3 {s3 with heap:=s3.heap.push {cls:= .type "slice",data:= .fields #[vl,vu, .none]}}:=I3.kept (t':=s3.toks) fun b ob q=>aM _ q
 obtain ⟨T,id,hT,ht,hg⟩:=hr pins {s3 with heap:=s3.heap.push {cls:= .type "slice",data:= .fields #[vl,vu, .none]}} σ H3 x v vl vu l u s3.heap.objs.size Q I4 r1 (Heap.IsSliceOf.new ..) pl pu q3; show wpAny (model X.prog X.w) X.A (subscriptTail e (.Slice lo hi none p2) v (.ref s3.heap.objs.size)) (EP X pins σ Q) X.xe {s3 with heap:=s3.heap.push {cls:= .type "slice",data:= .fields #[vl,vu, .none]}}; exact tail_any (ops:=[.ref s3.heap.objs.size,v]) ht hT hg (by with_unfolding_all rfl)
noncomputable def cutV (xs:List V) (lo hi:Option Int):List V:=(xs.drop (HT.sIx xs.length 0 lo)).take (HT.sIx xs.length xs.length hi - HT.sIx xs.length 0 lo)
theorem cutV_length (xs:List V) (lo hi:Option Int):(cutV xs lo hi).length≤xs.length:=by unfold cutV; rw [dU,lP]; omega
noncomputable def rSlT (K:aD):V→Option Int→Option Int→Hp→VK→Prop:=fun x lo hi H Q=>∃a xs,x= .ref a∧SqT K H a xs∧
 ¬ (HT.sIx xs.length 0 lo=0∧HT.sIx xs.length xs.length hi=xs.length)∧∀p,H p=none→Q (.ref p) (upd H p (.tup (cutV xs lo hi)))
theorem sl_tup:SlR X (rSlT X.K):=by
 intro pins s σ H x v vl vu lo hi sl Q I rx hs pl pu h; obtain ⟨a,xs,rfl,hx,hw,q⟩:=h; cases rx; obtain ⟨its,r,ht,hz⟩:=I.tuple hx; have hlen:its.toArray.size=xs.length:=by rw [bE]; exact r.length.symm
 refine ⟨"tuple",_,PyProof.Rows.slot_tuple_getitem.lookup,ht.typeIs, ?_⟩; refine HT.getItem_tuple_cut ht hs pl pu (by rw [hlen]; exact hw) ?_ (by rw [hlen]; exact hz); rw [hlen]; refine ⟨.ref s.heap.objs.size,_,I.laid (t':=s.toks) (o:= .tup (cutV xs lo hi)) (fun b ob q=>aM _ q) (aX _) ?_,rfl,q _ (I.hok.fresh (aX _))⟩; exact ⟨eD (cutV_length xs lo hi) hz,_,(r.drop (HT.sIx xs.length 0 lo)).take (HT.sIx xs.length xs.length hi - HT.sIx xs.length 0 lo),IsTupD.new _ _⟩
noncomputable def rCatT (K:aD):R2:=fun x y H Q=>∃a b xs ys,x= .ref a∧y= .ref b∧SqT K H a xs∧SqT K H b ys∧xs≠[]∧xs.length+ys.length≤sizeLine∧
 (ys=[]→Q (.ref a) H)∧(ys≠[]→∀p,H p=none→Q (.ref p) (upd H p (.tup (xs++ys))))
theorem Vals.nil_iff {xs:List V} {us:List Value} (r:Vals xs us):us=[]↔xs=[]:=by
 cases r with
 | nil=>simp
 | cons _ _=>simp
theorem op_catT:OpR X (binaryOp .Add) (rCatT X.K):=by intro pins s σ H x y v u Q I rx ry h; obtain ⟨a,b,xs,ys,rfl,rfl,ha,hb,hx,hz,q1,q2⟩:=h; cases rx; cases ry; obtain ⟨its,r1,p1,_⟩:=I.tuple ha; obtain ⟨its2,r2,p2,_⟩:=I.tuple hb; refine HT.cat_tup p1 p2 (fun z=>hx (r1.nil_iff.mp z)) (fun z=>⟨.ref a,H,I,rfl,q1 (r2.nil_iff.mp z)⟩) (fun z=> ?_) (by rw [← r1.length,← r2.length]; exact hz); refine ⟨.ref s.heap.objs.size,_,I.laid (t':=s.toks) (o:= .tup (xs++ys)) (fun b ob q=>aM _ q) (aX _) ?_,rfl,q2 (fun w=>z (r2.nil_iff.mpr w)) _ (I.hok.fresh (aX _))⟩; exact ⟨by rw [bK]; exact hz,_,r1.append r2,IsTupD.new _ _⟩
end
noncomputable def ixN (n:Nat) (i:Int):Option Nat:=if 0≤i then (if i<n then some i.toNat else none) else if -(n:Int)≤i then some (i+n).toNat else none
noncomputable def atI {α:Type} (xs:List α) (i:Int):Option α:=(ixN xs.length i).bind fun j=>xs[j]?
theorem ixN_seq {n:Nat} {i:Int} {j:Nat} (h:ixN n i=some j):seqIndex? i n=some j∧j<n∧ -(n:Int)≤i∧i<n:=by
 unfold ixN at h
 by_cases h0:0≤i
 ·rw [if_pos h0] at h
  by_cases h1:i<n
  ·rw [if_pos h1] at h; have e:i.toNat=j:=dN.inj h; exact ⟨by rw [seqIndex_of h0 h1,e],by omega,by omega,h1⟩
  ·rw [if_neg h1] at h; cases h
 ·rw [if_neg h0] at h
  by_cases h1: -(n:Int)≤i
  ·rw [if_pos h1] at h; have e:(i+n).toNat=j:=dN.inj h; exact ⟨by rw [seqIndex_neg (by omega) h1,e],by omega,h1,by omega⟩
  ·rw [if_neg h1] at h; cases h
theorem atI_get {α:Type} {xs:List α} {i:Int} {v:α} (h:atI xs i=some v):∃j,seqIndex? i xs.length=some j∧xs[j]? =some v∧j<xs.length∧ -(xs.length:Int)≤i∧i<xs.length:=by
 unfold atI at h; cases e:ixN xs.length i with
 | none=>rw [e] at h; cases h
 | some j=>rw [e] at h; obtain ⟨h1,h2,h3,h4⟩:=ixN_seq e; exact ⟨j,h1,h,h2,h3,h4⟩
theorem atI_nat {α:Type} {xs:List α} {j:Nat} {v:α} (h:xs[j]? =some v):atI xs (j:Int)=some v:=by
 have hj:j<xs.length:=(aP.mp h).1
 have e:ixN xs.length (j:Int)=some j:=by unfold ixN; rw [if_pos (by omega),if_pos (by omega)]; simp
 unfold atI; rw [e]; exact h
noncomputable def pQ (b:Expr):Prop:=∀o i,subscripted b false o i=operate [o,i] (getItem o i)
noncomputable def IxR (X:Cx) (r:R2):Prop:=
 ∀ (value slice:Expr) (pins:List (Addr × Obj)) (s:Shared) (σ:St) (H:Hp) (x y:V) (v u:Value) (Q:VK),Inv X pins σ H s→RelV x v→RelV y u→r x y H Q→
  subscripted slice false v u=operate [v,u] (getItem v u)→wpAny (model X.prog X.w) X.A (subscriptTail value slice v u) (EP X pins σ Q) X.xe s
noncomputable def MtR (X:Cx) (id:String) (r:V→List V→Hp→VK→Prop):Prop:=
 ∀ (pins:List (Addr × Obj)) (s:Shared) (σ:St) (H:Hp) (x:V) (xs:List V) (v:Value) (us:List Value) (Q:VK),Inv X pins σ H s→RelV x v→Vals xs us→r x xs H Q→
  wpAny (model X.prog X.w) X.A (call (.builtin id) (v::us)) (EP X pins σ Q) X.xe s
section
variable {X:Cx} {a b:Expr} {ta tb:TE} {pos:Pos}
theorem pe_ix {r:R2} (hr:IxR X r) (ha:PE X a ta) (hb:PE X b tb) (hs:pQ b):PE X (.Subscript a b pos) (tOp r ta tb):=by intro pins s σ H Q I h; exact Subscript_ (binT ha hb I h fun v u s2 x y H2 I2 rx ry q=>hr a b pins s2 σ H2 x y v u Q I2 rx ry q (hs _ _))
noncomputable def rIxL (K:aD):R2:=fun x y H Q=>∃p xs i v,x= .ref p∧y= .int i∧SqL K H p xs∧atI xs i=some v∧Q v H
noncomputable def rIxT (K:aD):R2:=fun x y H Q=>∃p xs i v,x= .ref p∧y= .int i∧SqT K H p xs∧atI xs i=some v∧Q v H
theorem ix_list:IxR X (rIxL X.K):=by
 intro value slice pins s σ H x y v u Q I rx ry h hs; obtain ⟨p,xs,i,z,rfl,rfl,hq,he,q⟩:=h; cases rx; obtain ⟨t,rfl⟩:=ry; obtain ⟨its,r,pl,hz⟩:=I.list hq; obtain ⟨j,h1,h2,h3,h4,h5⟩:=atI_get he; obtain ⟨w,ew,rw'⟩:=r.get h2; have hl:=r.length; have hn:=line63; have fin:EP X pins σ Q w s:=⟨z,H,I,rw',q⟩
 by_cases h0:0≤i
 ·have hj:i.toNat=j:=by rw [seqIndex_of h0 h5] at h1; exact dN.inj h1
  exact item_listR pl.isList h0 (by omega) (by rw [hj]; simpa using ew) fin hs
 ·have hj:(i+(its.toArray.size:Int)).toNat=j:=by rw [seqIndex_neg (by omega) h4] at h1; rw [bE,← hl]; exact dN.inj h1
  exact subscriptTail_builtinR (x:=w) pl.isList.typeIs slot_list_getitem.lookup
   (wpAny_getItem_list_neg (Q:=fun r s'=>r=w∧EP X pins σ Q r s') pl.isList (by omega) (by rw [bE]<;>omega) (by omega) (by rw [hj]; simpa using ew) ⟨rfl,fin⟩) hs
theorem ix_tup:IxR X (rIxT X.K):=by
 intro value slice pins s σ H x y v u Q I rx ry h hs; obtain ⟨p,xs,i,z,rfl,rfl,hq,he,q⟩:=h; cases rx; obtain ⟨t,rfl⟩:=ry; obtain ⟨its,r,pl,hz⟩:=I.tuple hq; obtain ⟨j,h1,h2,h3,h4,h5⟩:=atI_get he; obtain ⟨w,ew,rw'⟩:=r.get h2; have hl:=r.length; have hn:=line63; have fin:EP X pins σ Q w s:=⟨z,H,I,rw',q⟩
 exact subscriptTail_builtinR (x:=w) pl.typeIs slot_tuple_getitem.lookup
  (getItem_tuple (j:=j) (Q:=fun r s'=>r=w∧EP X pins σ Q r s') pl (by omega) (by omega) (by rw [bE,← hl]; exact h1) (by simpa using ew) ⟨rfl,fin⟩) hs
noncomputable def oP:V→Bool
 | .non=>true
 | .bl _=>true
 | .int _=>true
 | .str _=>true
 | _=>false
noncomputable def eqV:V→V→Bool
 | .non, .non=>true
 | .bl a, .bl b=>a==b
 | .bl a, .int b=>(if a then 1 else 0)==b
 | .int a, .bl b=>a==(if b then 1 else 0)
 | .int a, .int b=>a==b
 | .str a, .str b=>a==b
 | _,_=>false
theorem vK {A:Around} {s:Shared} {y x:V} {u v:Value} (ry:RelV y u) (rx:RelV x v) (fy:oP y=true) (fx:oP x=true):SeqAt.EqAt A s u v (eqV y x):=by
 cases y with
 | non=>
  cases ry; cases x with
  | non=>cases rx; exact SeqAt.EqAt.same _
  | bl b=>cases rx; exact SeqAt.EqAt.none_bool b
  | int b=>obtain ⟨t,rfl⟩:=rx; exact SeqAt.EqAt.none_int b t
  | str b=>obtain ⟨t,rfl⟩:=rx; exact SeqAt.EqAt.none_str b t
  | _=>exact absurd (show false=true from fx) bO
 | bl a=>
  cases ry; cases x with
  | non=>cases rx; exact SeqAt.EqAt.bool_none a
  | bl b=>cases rx; exact SeqAt.EqAt.bool_bool a b
  | int b=>obtain ⟨t,rfl⟩:=rx; exact SeqAt.EqAt.bool_int a b t
  | str b=>obtain ⟨t,rfl⟩:=rx; exact SeqAt.EqAt.bool_str a b t
  | _=>exact absurd (show false=true from fx) bO
 | int a=>
  obtain ⟨t',rfl⟩:=ry; cases x with
  | non=>cases rx; exact SeqAt.EqAt.int_none a t'
  | bl b=>cases rx; exact SeqAt.EqAt.int_bool a t' b
  | int b=>obtain ⟨t,rfl⟩:=rx; exact SeqAt.EqAt.int_int a t' b t
  | str b=>obtain ⟨t,rfl⟩:=rx; exact SeqAt.EqAt.int_str a t' b t
  | _=>exact absurd (show false=true from fx) bO
 | str a=>
  obtain ⟨t',rfl⟩:=ry; cases x with
  | non=>cases rx; exact SeqAt.EqAt.str_none a t'
  | bl b=>cases rx; exact SeqAt.EqAt.str_bool a t' b
  | int b=>obtain ⟨t,rfl⟩:=rx; exact SeqAt.EqAt.str_int a t' b t
  | str b=>obtain ⟨t,rfl⟩:=rx; exact SeqAt.EqAt.str_str a t' b t
  | _=>exact absurd (show false=true from fx) bO
 | _=>exact absurd (show false=true from fy) bO
noncomputable def eqU (x:V) (u:Value):Bool:=match u with
 | .none=>eqV .non x
 | .bool b=>eqV (.bl b) x
 | .int i _=>eqV (.int i) x
 | .str z _=>eqV (.str z) x
 | _=>false
theorem eqU_of {x y:V} {u:Value} (r:RelV y u) (f:oP y=true):eqU x u=eqV y x:=by
 cases y with
 | non=>cases r; rfl
 | bl b=>cases r; rfl
 | int i=>obtain ⟨t,rfl⟩:=r; rfl
 | str z=>obtain ⟨t,rfl⟩:=r; rfl
 | _=>exact absurd (show false=true from f) bO
theorem any_eqU {x:V}:∀ {xs:List V} {us:List Value},Vals xs us→xs.all oP=true→us.any (eqU x)=xs.any fun y=>eqV y x
 | _,_, .nil,_=>rfl
 | y::xs,u::us, .cons r t,f=>by rw [List.all_cons,bX] at f; rw [List.any_cons,List.any_cons,eqU_of r f.1,any_eqU t f.2]
theorem wZ {A:Around} {s:Shared} {x:V} {v:Value} (rx:RelV x v) (fx:oP x=true):∀ {xs:List V} {us:List Value},Vals xs us→xs.all oP=true→∀u∈us,SeqAt.EqAt A s u v (eqU x u)
 | _,_, .nil,_=>fun u hu=>by cases hu
 | y::xs,u::us, .cons r t,f=>fun u' hu=>by
  rw [List.all_cons,bX] at f
  rcases bV.mp hu with rfl | hu
  ·rw [eqU_of r f.1]; exact vK r rx f.1 fx
  ·exact wZ rx fx t f.2 u' hu
noncomputable def inV (x:V) (xs:List V):Bool:=xs.any fun y=>eqV y x
noncomputable def rIn (K:aD) (neg:Bool):R2:=fun x y H Q=>∃p xs,y= .ref p∧(SqL K H p xs∨SqT K H p xs)∧oP x=true∧xs.all oP=true∧Q (.bl (if neg then !inV x xs else inV x xs)) H
theorem op_in_seq:OpR X (compareOp .In) (rIn X.K false):=by
 intro pins s σ H x y v u Q I rx ry h; obtain ⟨p,xs,rfl,hq,fx,fs,q⟩:=h; cases ry
 rcases hq with hq | hq
 ·obtain ⟨its,r,pl,hz⟩:=I.list hq; refine SeqAt.in_listAt (eqU x) pl.isList (fun w hw=>wZ rx fx r fs w (by simpa using hw)) ⟨.bl _,H,I,rfl, ?_⟩; rw [show its.toArray.any (eqU x)=its.any (eqU x) by simp,any_eqU r fs]; exact q
 ·obtain ⟨its,r,pl,hz⟩:=I.tuple hq; refine SeqAt.in_tupleAt (eqU x) pl (fun w hw=>wZ rx fx r fs w (by simpa using hw)) ⟨.bl _,H,I,rfl, ?_⟩; rw [show its.toArray.any (eqU x)=its.any (eqU x) by simp,any_eqU r fs]; exact q
theorem oJ:nQ X (.builtin "len") (fun xs H Q=>∃p ys,xs=[.ref p]∧(SqL X.K H p ys∨SqT X.K H p ys)∧Q (.int ys.length) H):=by
 intro pins s σ H xs us Q I r h; obtain ⟨p,ys,rfl,hq,q⟩:=h; obtain ⟨u,rfl,rx⟩:=qE r; cases rx; have hn:=line63
 rcases hq with hq | hq
 ·obtain ⟨its,r',pl,hz⟩:=I.list hq; have hlen:=r'.length; exact Calls.call_len_list pl.isList (by simp only [bE]<;>omega) ⟨.int ys.length,H,I.tok _,⟨s.toks+1,by rw [bE,hlen]⟩,q⟩
 ·obtain ⟨its,r',pl,hz⟩:=I.tuple hq; have hlen:=r'.length; exact len_tuple pl (by simp only [bE]<;>omega) ⟨.int ys.length,H,I.tok _,⟨s.toks+1,by rw [bE,hlen]⟩,q⟩
theorem zX:nQ X (.type "list") (fun xs H Q=>∃p ys,xs=[.ref p]∧(SqL X.K H p ys∨SqT X.K H p ys)∧∀l,H l=none→Q (.ref l) (upd H l (.lst ys))):=by
 intro pins s σ H xs us Q I r h; obtain ⟨p,ys,rfl,hq,q⟩:=h; obtain ⟨u,rfl,rx⟩:=qE r; cases rx
 have fin:∀ (its:List Value),Vals ys its→ys.length≤sizeLine→∀ (h':Heap) (c':Nat),(∀b o',s.heap.get? b=some o'→h'.get? b=some o')→
   h'.get? s.heap.objs.size=some {cls:= .type "list",dict:=none,data:= .seq its.toArray c',slots:= #[]}→EP X pins σ Q (.ref s.heap.objs.size) {s with heap:=h'}:=fun its r' hz h' c' kp e=>
  ⟨.ref s.heap.objs.size,_,I.laid (t':=s.toks) kp (aX _) (show ObjOk X.prog X.w _ h' _ (.lst ys) from ⟨hz,its,c',r',e⟩),rfl,q _ (I.hok.fresh (aX _))⟩
 rcases hq with hq | hq
 ·obtain ⟨its,r',pl,hz⟩:=I.list hq; have hlen:=r'.length; obtain ⟨o,ho,hc,n,hd⟩:=pl.isList; exact call_list_seq p (.inl rfl) ho hc hd (fun h' c' kp e=>fin its r' hz h' c' kp e) (by simp only [bE]<;>omega)
 ·obtain ⟨its,r',pl,hz⟩:=I.tuple hq; have hlen:=r'.length; obtain ⟨o,ho,hc,n,hd⟩:=pl; exact call_list_seq p (.inr rfl) ho hc hd (fun h' c' kp e=>fin its r' hz h' c' kp e) (by simp only [bE]<;>omega)
theorem xG:nQ X (.type "tuple") (fun xs H Q=>∃p ys,xs=[.ref p]∧((SqL X.K H p ys∧∀l,H l=none→Q (.ref l) (upd H l (.tup ys)))∨(SqT X.K H p ys∧Q (.ref p) H))):=by
 intro pins s σ H xs us Q I r h; obtain ⟨p,ys,rfl,h⟩:=h; obtain ⟨u,rfl,rx⟩:=qE r; cases rx
 rcases h with ⟨hq,q⟩ | ⟨hq,q⟩
 ·obtain ⟨its,r',pl,hz⟩:=I.list hq; have hlen:=r'.length; refine call_tuple_list pl.isList (fun h' kp=> ?_) (by simp only [bE]<;>omega); have I1:Inv X pins σ H {s with heap:=h'}:=I.kept (t':=s.toks) kp
  have I2:Inv X pins σ (upd H h'.objs.size (.tup ys)) {s with heap:=h'.push {cls:= .type "tuple",data:= .seq its.toArray}}:=
   I1.laid (t':=s.toks) (fun b o e=>aM _ e) (aX _) (show ObjOk X.prog X.w _ _ _ (.tup ys) from ⟨hz,its,r',IsTupD.new _ _⟩)
  exact ⟨.ref h'.objs.size,_,I2,rfl,q _ (I1.hok.fresh (aX _))⟩
 ·obtain ⟨its,r',pl,hz⟩:=I.tuple hq; exact call_tuple_same pl ⟨.ref p,H,I,rfl,q⟩
noncomputable def tyV (K:aD) (T:String) (x:V) (H:Hp):Prop:=match x with
 | .str _=>T="str"
 | .int _=>T="int"
 | .ref p=>(T="list"∧∃xs,SqL K H p xs)∨(T="tuple"∧∃o,K.lookup p=some o∧o.cls= .type "tuple"∧o.dict=none)∨
   (T="dict"∧((∃kvs,H p=some (.dK kvs))∨∃kvs,H p=some (.dT kvs)))∨(T="set"∧∃S n,H p=some (.set S n))
 | _=>False
theorem tyV_is {pins:List (Addr × Obj)} {σ:St} {H:Hp} {s:Shared} {T:String} {x:V} {v:Value} (I:Inv X pins σ H s) (r:RelV x v) (ty:tyV X.K T x H):
  s.TypeIs v T∧∀a,v= .ref a→∃ob,s.heap.get? a=some ob∧ob.dict=none:=by
 cases x with
 | str z=>obtain ⟨t,rfl⟩:=r; cases (show T="str" from ty); exact ⟨typeIs_str s z t,fun _ e=>nomatch e⟩
 | int i=>obtain ⟨t,rfl⟩:=r; cases (show T="int" from ty); exact ⟨typeIs_int s i t,fun _ e=>nomatch e⟩
 | ref p=>
  cases r
  rcases ty with ⟨rfl,xs,hq⟩ | ⟨rfl,o,hk,hc,hd⟩ | ⟨rfl,hk⟩ | ⟨rfl,S,n,hk⟩
  ·obtain ⟨its,_,pl,_⟩:=I.list hq; refine ⟨pl.isList.typeIs,fun a e=> ?_⟩; cases e; obtain ⟨o,n,e,c,hd,_⟩:=pl; exact ⟨o,e,hd⟩
  ·refine ⟨⟨o,I.kIn p o hk,hc⟩,fun a e=> ?_⟩; cases e; exact ⟨o,I.kIn _ o hk,hd⟩
  ·have z:∃o,s.heap.get? p=some o∧o.ExactDict:=by
    rcases hk with ⟨kvs,hk⟩ | ⟨kvs,hk⟩
    ·obtain ⟨_,_,_,_,o,_,_,e,ex,_⟩:=I.hok p _ hk; exact ⟨o,e,ex⟩
    ·obtain ⟨_,_,_,_,o,_,_,e,ex,_⟩:=I.hok p _ hk; exact ⟨o,e,ex⟩
   obtain ⟨o,e,ex⟩:=z; refine ⟨⟨o,e,ex.1⟩,fun a e2=> ?_⟩; cases e2; exact ⟨o,e,ex.2.1⟩
  ·obtain ⟨o,_,_,_,e,ex,_⟩:=I.hok p _ hk; refine ⟨⟨o,e,ex.1⟩,fun a e2=> ?_⟩; cases e2; exact ⟨o,e,ex.2.1⟩
 | _=>exact False.elim ty
noncomputable def tBM0 (K:aD) (T:String) (r:V→List V→Hp→VK→Prop) (to:TE):TE:=fun σ H Q=>to σ H fun x H1=>tyV K T x H1∧r x [] H1 Q
noncomputable def tBM (K:aD) (T:String) (r:V→List V→Hp→VK→Prop) (to:TE) (t:TA):TE:=fun σ H Q=>to σ H fun x H1=>tyV K T x H1∧t σ H1 fun xs H2=>r x xs H2 Q
variable {o e:Expr} {es:List Expr} {to:TE} {t:TA} {name:Str} {apos cpos:Pos} {T id:String} {r:V→List V→Hp→VK→Prop}
theorem pe_bm0 (pa:PlainAttrs T) (slot:Slot T name id) (hty:typeOf (.builtin id)=pure (.type "method_descriptor")) (hm:MtR X id r) (ho:PE X o to)
  (hbase:attributeBase o name X.env (eval o X.env)=eval o X.env:=by rfl) (hline:(apos.endLine==cpos.line)=true:=by rfl):PE X (.Call (.Attribute o name apos) [] [] cpos) (tBM0 X.K T r to):=by
 intro pins s σ H Q I h; refine wpAny_Call_method0_late hbase hline (thn (ho pins s σ H _ I h) fun v s1 ⟨x,H1,I1,r1,ty,q1⟩=> ?_); obtain ⟨h1,h2⟩:=tyV_is I1 r1 ty; exact ⟨T,id,pa,slot,hty,h1,h2,Calls.callWith_builtin rfl (PySem.evalArgs_none (hm pins s1 σ H1 x [] v [] Q I1 r1 .nil q1))⟩
theorem pe_bm (pa:PlainAttrs T) (slot:Slot T name id) (hty:typeOf (.builtin id)=pure (.type "method_descriptor")) (hm:MtR X id r) (ho:PE X o to) (ha:PA X (e::es) t)
  (hbase:attributeBase o name X.env (eval o X.env)=eval o X.env:=by rfl)
  (hfew:((backTo cpos (starEach (e::es) X.env)).all (fun x=> !x.1) && (backToKw cpos (keywordEach [] X.env)).all (fun x=>x.1.isSome)
   && decide ((e::es).length+([]:List Keyword).length+(if ([]:List Keyword).isEmpty then 0 else 1)<30))=true:=by rfl)
  (hline:(apos.endLine==cpos.line)=true:=by rfl) (hs:starEach (e::es) X.env=(false,eval e X.env)::starEach es X.env:=by rfl) (hplain:(backTo cpos (starEach es X.env)).any (·.1)=false:=by rfl):
  PE X (.Call (.Attribute o name apos) (e::es) [] cpos) (tBM X.K T r to t):=by
 intro pins s σ H Q I h; refine wpAny_Call_method_late hbase hfew hline rfl (thn (ho pins s σ H _ I h) fun v s1 ⟨x,H1,I1,r1,ty,q1⟩=> ?_); obtain ⟨h1,h2⟩:=tyV_is I1 r1 ty; refine ⟨T,id,pa,slot,hty,h1,h2, ?_⟩; have hA:=ha cpos pins s1 σ H1 _ I1 q1; rw [hs] at hA ⊢; refine Calls.callWith_builtin (by show (false || (backTo cpos (starEach es X.env)).any (·.1))=false; rw [hplain]<;>rfl) (Calls.evalArgs_plain ?_); exact thn hA fun us s2 ⟨vs,H2,I2,r2,q2⟩=>hm pins s2 σ H2 x vs v us Q I2 r1 r2 q2
/- xs.append(e),list.index on a module's tuple .. are MtR facts of 06m -/
end
noncomputable def MtM (X:Cx) (id:String) (r:V→List V→Hp→VK→Prop):Prop:=
 ∀ (pins:List (Addr × Obj)) (s:Shared) (σ:St) (H:Hp) (x:V) (xs:List V) (v:Value) (us:List Value) (Q:VK),Inv X pins σ H s→RelV x v→Vals xs us→r x xs H Q→
  wpAny (model X.prog X.w) X.A (call (.builtin id) (v::us)) (EP X pins σ Q) X.xe s
theorem Vals.one:∀ {x:V} {us:List Value},Vals [x] us→∃u,us=[u]∧RelV x u
 | _,_, .cons r .nil=>⟨_,rfl,r⟩
theorem Vals.zero:∀ {us:List Value},Vals [] us→us=[]
 | _, .nil=>rfl
section
variable {X:Cx} {pins:List (Addr × Obj)} {σ:St} {H:Hp} {s:Shared} {l b:Addr} {xs ys zs:List V}
theorem Inv.lset {its its':List Value} {n:Nat} {f:Array Value→Array Value} {t':Nat} (I:Inv X pins σ H s) (hH:H l=some (.lst xs))
  (e:s.heap.get? l=some {cls:= .type "list",data:= .seq its.toArray n}) (hf:f its.toArray=its'.toArray) (hv:Vals ys its') (hz:ys.length≤sizeLine):
  Inv X pins σ (upd H l (.lst ys)) {s with heap:=s.heap.update l (Obj.mapSeq f),toks:=t'}:=by
 have q:=PySem.IsL.update e f; rw [hf] at q; refine I.write (x:=l) (e:=l) (by rw [hH]; exact trivial) (.inl rfl) (fun b' u hb hu=>(eC s.heap (Obj.mapSeq f) (Ne.symm hb)).trans hu) ⟨_,q⟩ ?_; exact ⟨hz,its',_,hv,q⟩
theorem Inv.lstM (I:Inv X pins σ H s) (hH:H l=some (.lst xs)):xs.length≤sizeLine∧∃ (its:List Value) (n:Nat),Vals xs its∧xs.length=its.length∧s.heap.get? l=some {cls:= .type "list",data:= .seq its.toArray n}:=by obtain ⟨z,its,n,r,e⟩:=I.hok l _ hH; exact ⟨z,its,n,r,r.length,e⟩
theorem notLongL {n:Nat} (h:n≤sizeLine):Builtin.List.listTooLong n=false:=by unfold Builtin.List.listTooLong; exact decide_eq_false (by omega)
end
section
variable {X:Cx}
noncomputable def uR:V→List V→Hp→VK→Prop:=fun x vs H Q=>∃l xs y,x= .ref l∧vs=[y]∧H l=some (.lst xs)∧xs.length<sizeLine∧Q .non (upd H l (.lst (xs++[y])))
theorem xZ:MtM X "list.append" uR:=by intro pins s σ H x vs v us Q I rx rv h; obtain ⟨l,xs,y,rfl,rfl,hH,hz,q⟩:=h; cases rx; obtain ⟨u,rfl,ru⟩:=rv.one; obtain ⟨z,its,n,r,hl,e⟩:=I.lstM hH; refine call_meets F.slot_list_append ⟨_,e,rfl⟩ F.entry_list_append (F.args_list_append_2 _ _) (PySem.list_append l its.toArray n u (by rw [bE]; omega)) ⟨e, ?_⟩; refine ⟨.non,_,I.lset (its':=its++[u]) hH e (by simp) (r.append (.cons ru .nil)) ?_,rfl,q⟩; rw [bK,List.length_singleton]; omega
noncomputable def rExtend:V→List V→Hp→VK→Prop:=fun x vs H Q=>∃l b xs zs,x= .ref l∧vs=[.ref b]∧H l=some (.lst xs)∧H b=some (.lst zs)∧xs.length+zs.length≤sizeLine∧Q .non (upd H l (.lst (xs++zs)))
theorem mt_extend:MtM X "list.extend" rExtend:=by
 intro pins s σ H x vs v us Q I rx rv h; obtain ⟨l,b,xs,zs,rfl,rfl,hH,hB,hz,q⟩:=h; cases rx; obtain ⟨u,rfl,ru⟩:=rv.one; cases ru; obtain ⟨z,its,n,r,hl,e⟩:=I.lstM hH; obtain ⟨z2,its2,n2,r2,hl2,e2⟩:=I.lstM hB; have hsz:its.toArray.size+its2.toArray.size≤sizeLine:=by rw [bE,bE]; omega
 have hlong:¬ (!its.toArray.isEmpty && Builtin.List.listTooLong (its.toArray.size+its2.toArray.size))=true:=by rw [notLongL hsz,Bool.and_false]; exact bO
 refine call_meets F.slot_list_extend ⟨_,e,rfl⟩ F.entry_list_extend (F.args_list_extend_2 _ _)
  (AutoSeq1.list_extend_list_list_0 l its.toArray n b its2.toArray n2 hlong (by rw [bE]; omega) (by omega)) ⟨e,e2, ?_⟩
 refine ⟨.non,_,I.lset (its':=its++its2) hH e (by simp) (r.append r2) ?_,rfl,q⟩; rw [bK]; omega
noncomputable def rPop:V→List V→Hp→VK→Prop:=fun x vs H Q=>∃l xs y,x= .ref l∧vs=[]∧H l=some (.lst xs)∧xs[xs.length - 1]? =some y∧Q y (upd H l (.lst xs.dropLast))
noncomputable def rClear:V→List V→Hp→VK→Prop:=fun x vs H Q=>∃l xs,x= .ref l∧vs=[]∧H l=some (.lst xs)∧Q .non (upd H l (.lst []))
theorem mt_clear:MtM X "list.clear" rClear:=by intro pins s σ H x vs v us Q I rx rv h; obtain ⟨l,xs,rfl,rfl,hH,q⟩:=h; cases rx; have hus:=rv.zero; subst hus; obtain ⟨z,its,n,r,hl,e⟩:=I.lstM hH; refine call_meets F.slot_list_clear ⟨_,e,rfl⟩ F.entry_list_clear (F.args_list_clear_1 _) (AutoSeq1.list_clear_list_0 l its.toArray n (by rw [bE]; omega)) ⟨e, ?_⟩; exact ⟨.non,_,I.lset (its':=[]) (ys:=[]) hH e rfl .nil (dA _),rfl,q⟩
end
section
variable {prog:Program} {w:World} {A:Around} {E:Value→Shared→Prop} {s:Shared}
set_option maxRecDepth 100000 in
end
section
variable {κ:Type} [DecidableEq κ]
noncomputable def lJ (kvs:List (κ × V)) (k:κ):Option V:=(kvs.find? fun kv=>decide (kv.1=k)).map (·.2)
noncomputable def putK (kvs:List (κ × V)) (k:κ) (v:V):List (κ × V):=
 if (kvs.any fun kv=>decide (kv.1=k))=true then kvs.map (fun kv=>if kv.1=k then (kv.1,v) else kv) else kvs++[(k,v)]
theorem nJ {p:κ × V} {r:List (κ × V)} {k:κ} (e:p.1=k):lJ (p::r) k=some p.2:=by simp [lJ,jW,e]
theorem lH {p:κ × V} {r:List (κ × V)} {k:κ} (e:¬ p.1=k):lJ (p::r) k=lJ r k:=by simp [lJ,jW,e]
theorem vW (k:κ):∀kvs:List (κ × V),(kvs.any fun kv=>decide (kv.1=k))=(lJ kvs k).isSome
 | []=>rfl
 | p::r=>by
  rw [List.any_cons]
  by_cases e:p.1=k
  ·simp only [nJ e,decide_eq_true e,Bool.true_or,Option.isSome_some]
  ·rw [lH e,decide_eq_false e,Bool.false_or]; exact vW k r
theorem wL {kvs:List (κ × V)} {k:κ} (v:V) (h:lJ kvs k=none):putK kvs k v=kvs++[(k,v)]:=by unfold putK; rw [vW,h]; exact if_neg (by decide)
theorem RelO.isSome_eq {o:Option V} {u:Option Value} (r:RelO o u):o.isSome=u.isSome:=by
 cases o with
 | none=>cases u with
  | none=>rfl
  | some _=>exact (show False from r).elim
 | some _=>cases u with
  | none=>exact (show False from r).elim
  | some _=>rfl
end
theorem kV_is {P:Program} {w:World} {k:Key} {u:Value} (r:RelV (kV k) u):(gI P w).is k u=true:=by
 cases k with
 | inl i=>obtain ⟨t,e⟩:=(show ∃t,u=Value.int i t from r); subst e; exact mixKind_int P w i t
 | inr x=>obtain ⟨t,e⟩:=(show ∃t,u=Value.str x t from r); subst e; exact mixKind_str P w x t
theorem yK {P:Program} {w:World}:∀ {ks:List Key} {us:List Value},Vals (ks.map kV) us→ItemsAre (gI P w) ks us
 | [],_,r=>by rw [fO] at r; cases r; exact .nil
 | k::ks,_,r=>by
  rw [bQ] at r; cases r with
  | cons h t=>exact .cons (kV_is h) (yK t)
noncomputable abbrev KT (H:Hp):List (List Key × V)→List (List Key × Addr × Value)→Prop:=Paired fun p q=>p.1=q.1∧H q.2.1=some (.tup (p.1.map kV))∧RelV p.2 q.2.2
theorem KT.val {H:Hp} {kvs:List (List Key × V)} {xs:List (List Key × Addr × Value)} (r:KT H kvs xs) (k:List Key):RelO (lJ kvs k) ((atKey xs k).map (·.2)):=by
 induction r with
 | nil=>exact True.intro
 | @cons p q ps qs h t ih=>
  obtain ⟨h1,_,h2⟩:=h
  by_cases e:p.1=k
  ·have e':q.1=k:=h1.symm.trans e; have b:atKey (q::qs) k=some q.2:=by simp [atKey,jW,e']
   rw [nJ e,b]; exact h2
  ·have e':¬ q.1=k:=fun z=>e (h1.trans z)
   have b:atKey (q::qs) k=atKey qs k:=by simp [atKey,jW,e']
   rw [lH e,b]; exact ih
theorem KT.repl {H:Hp} {kvs:List (List Key × V)} {xs:List (List Key × Addr × Value)} (r:KT H kvs xs) (k:List Key) {y:V} {u:Value} (ry:RelV y u):
  KT H (kvs.map fun kv=>if kv.1=k then (kv.1,y) else kv) (xs.map (putAt k u)):=by
 induction r with
 | nil=>exact .nil
 | @cons p q ps qs h t ih=>
  rw [bQ,bQ]; refine .cons ?_ ih; obtain ⟨h1,h2,h3⟩:=h; unfold putAt
  by_cases e:p.1=k
  ·rw [if_pos e,if_pos (h1.symm.trans e)]; exact ⟨h1,h2,ry⟩
  ·rw [if_neg e,if_neg (fun z=>e (h1.trans z))]; exact ⟨h1,h2,h3⟩
theorem KT.put {H:Hp} {kvs:List (List Key × V)} {xs:List (List Key × Addr × Value)} (r:KT H kvs xs) (k:List Key) {b:Addr} {y:V} {u:Value} (hb:H b=some (.tup (k.map kV))) (ry:RelV y u):
  KT H (putK kvs k y) (storedH xs k b u):=by
 have e:(kvs.any fun kv=>decide (kv.1=k))=(atKey xs k).isSome:=by rw [vW,(r.val k).isSome_eq,Option.isSome_map]
 unfold putK storedH; rw [e]
 by_cases q:(atKey xs k).isSome=true
 ·rw [if_pos q,if_pos q]; exact r.repl k ry
 ·rw [if_neg q,if_neg q]; exact Paired.snoc r ⟨rfl,hb,ry⟩
theorem KT.keeps {H H':Hp} {kvs:List (List Key × V)} {xs:List (List Key × Addr × Value)} (r:KT H kvs xs) (ht:∀b ys,H b=some (.tup ys)→H' b=some (.tup ys)):KT H' kvs xs:=
 Paired.mapP r fun _ _ z=>⟨z.1,ht _ _ z.2.1,z.2.2⟩
section
variable {P:Program} {w:World} {H:Hp} {h:Heap} {a:Addr}
theorem sW {ks:List Key} (ok:HOk P w H h) (e:H a=some (.tup (ks.map kV))):(tupleKind (gI P w)).is h ks a:=by obtain ⟨_,its,r,o,h1,h2,⟨n,h3⟩,_⟩:=(show ObjOk P w H h a (.tup (ks.map kV)) from ok a _ e); exact ⟨o,its.toArray,n,h1,h2,h3,by simpa using yK r⟩
end
section
variable {X:Cx} {pins:List (Addr × Obj)} {σ:St} {H:Hp} {s:Shared} {a:Addr} {y v:V} {u r:Value} {o:Option V} {A:Around} {E:Value→Shared→Prop}
theorem Inv.big (I:Inv X pins σ H s):sysModules<s.heap.objs.size:=by have h:mainGlobals<s.heap.objs.size:=(I.mod.glob.keeps I.bk).lt; exact pM (by decide) h
theorem uU {h':Heap} {t':Nat} {ob:HO} (I:Inv X pins σ H s) (mu:Mut (H a)) (hs:Heap.SameBut a s.heap h') (he:∃q,h'.get? a=some q) (new:ObjOk X.prog X.w (upd H a ob) h' a ob):
  Inv X pins σ (upd H a ob) {s with heap:=h',toks:=t'}:=
 I.write (x:=a) (e:=a) mu (.inl rfl) (fun b q hb z=>(hs.2 b hb).trans z) he new
end
noncomputable def NoSl (i:Expr):Prop:=∀ov iv,subscripted i false ov iv=operate [ov,iv] (getItem ov iv)
theorem subD_of {prog:Program} {w:World} {A:Around} {E:Value→Shared→Prop} {s:Shared} {env:Env} {value slice:Expr} {pos:Pos} {T id:String} {Q:Value→Shared→Prop}
  (hl:typeLookup (.type T) "__getitem__"=pure (some (.builtin id))) (hs:NoSl slice)
  (h:wpAny (model prog w) A (eval value env) (fun o s₁=>wpAny (model prog w) A (eval slice env) (fun i s₂=>s₂.TypeIs o T∧wpAny (model prog w) A (getItem o i) Q E s₂) E s₁) E s):
  wpAny (model prog w) A (eval (.Subscript value slice pos) env) Q E s:=by
 refine Subscript_ (wpAny_mono h (fun o s₁ h₁=>wpAny_mono h₁ (fun i s₂ h₂=> ?_) fun _ _ x=>x) fun _ _ x=>x); obtain ⟨hT,h₂⟩:=h₂; unfold subscriptTail; refine wpAny_bind ?_; rw [getitemInPython_of_ne hT.not_modules]; refine wpAny_bind (wpAny_specialOf hT hl ?_)
 have fin:wpAny (model prog w) A (subscripted slice false o i) (fun r s₃=>wpAny (model prog w) A (letTemporaryGo value o r>>=fun _=>pure r) Q E s₃) E s₂:=by rw [hs o i]; exact wpAny_operating (wpAny_mono h₂ (fun r s₃ h₃=>wpAny_bind (wpAny_letTemporaryGo (wpAny_pure h₃))) fun _ _ x=>x)
 first
  | exact wpAny_pure (wpAny_bind fin)
  | exact wpAny_bind (wpAny_pure (wpAny_bind fin))
  | exact wpAny_bind fin
noncomputable abbrev VV:List (V × V)→List (Value × Value)→Prop:=Paired fun p q=>RelV p.1 q.1∧RelV p.2 q.2
structure M1 (X:Cx) (o:Expr) (m:Str) (apos:Pos) (e:Expr) (cpos:Pos):Prop where
 base:attributeBase o m X.env (eval o X.env)=eval o X.env
 few:((backTo cpos (starEach [e] X.env)).all (fun x=> !x.1) && (backToKw cpos (keywordEach [] X.env)).all (fun x=>x.1.isSome)
  && decide (([e]:List Expr).length+([]:List Keyword).length+(if ([]:List Keyword).isEmpty then 0 else 1)<30))=true
 line:(apos.endLine==cpos.line)=true
 trees:backTo cpos (starEach [e] X.env)=[(false,eval e X.env)]
structure M2 (X:Cx) (o:Expr) (m:Str) (apos:Pos) (e f:Expr) (cpos:Pos):Prop where
 base:attributeBase o m X.env (eval o X.env)=eval o X.env
 few:((backTo cpos (starEach [e,f] X.env)).all (fun x=> !x.1) && (backToKw cpos (keywordEach [] X.env)).all (fun x=>x.1.isSome)
  && decide (([e,f]:List Expr).length+([]:List Keyword).length+(if ([]:List Keyword).isEmpty then 0 else 1)<30))=true
 line:(apos.endLine==cpos.line)=true
 trees:backTo cpos (starEach [e,f] X.env)=[(false,eval e X.env),(false,eval f X.env)]
end L2
namespace Att
open PySem PySem.W PySem.Calls PyProof.Rows
theorem uG {P:Params} {h:Heap}:∀ (ns:List Int) (vs:List Value),WellAll P h vs (ns.map WData.int)→IntsAre vs ns:=by
 intro ns
 induction ns with
 | nil=>intro vs w; rw [fO] at w; cases w; exact .nil
 | cons n ns ih=>
  intro vs w; rw [bQ] at w; cases w with
  | cons a b=>cases a; exact .cons _ _ (ih _ b)
theorem script_of {l:OpenLaw} {n:Nat} (hn:l.most=some n) {P:Params} {h:Heap} {args:List WData} {vals:List Value}
  (hpre:l.row.toRowW.claim.pre args=true) (hwl:WellAll P h vals args):
  ∃a vs ns,vals=[Value.ref a]∧args=[WData.list (ns.map WData.int)]∧h.get? a=some {cls:= .type "list",data:= .seq vs.toArray}∧IntsAre vs ns∧ns.length≤n:=by
 have hsh:WShape.hasAll [] args [.list .int]=true:=(pre_splitW hpre).1; have hc:l.pre.holds [] {args:=args}=true:=(pre_splitW hpre).2; obtain ⟨d,r,rfl,h1,h2⟩:=hasAllW_cons hsh; obtain rfl:=hasAllW_nil h2; obtain ⟨xs,rfl,h3⟩:=hasW_list h1; obtain ⟨ns,rfl⟩:=items_int h3
 have hlen:ns.length≤n:=by
  unfold OpenLaw.pre at hc
  have h4:(WTm.not (.lt (.lit (.int (n:Int))) (.len (.arg 0)))).holds [] {args:=[.list (ns.map .int)]}=true:=by have h4:=(holds_andW hc).1; rw [hn] at h4; exact h4
  have h5:=condW_of h4 (w_not (w_lt w_lit (w_len_list (w_arg rfl)))); rw [aG] at h5; refine Nat.le_of_not_lt fun q=> ?_
  have q':(n:Int)<((ns.length:Nat):Int):=by omega
  first
   | (rw [decide_eq_true q'] at h5; exact absurd h5 (by decide))
   | (simp at h5; omega)
 cases hwl with
 | cons w1 w2=>
  cases w2; cases w1 with
  | list ho hall=>exact ⟨_,_,ns,rfl,rfl,ho,uG ns _ hall,hlen⟩
theorem post_true (l:OpenLaw) (args:List WData):l.row.toRowW.claim.post args (.bool true) args=true:=
 postW_of (r:=l.row.toRowW) (X:=(true==true))
  (show WShape.has [] (.bool true) .bool=true by first | rfl | decide | simp [WShape.has,WShape.arms,WShape.armsAll])
  (show (WTm.eq .res (.lit (.bool true))).value [] {args:=args,res:=some (.bool true),after:=args}=some (.bool (true==true)) from w_eq_bool (w_res rfl) w_lit) rfl
theorem attach_call {l:OpenLaw} {n:Nat} {q:Program} {loose:List Str} {XP:(Str→Option Value)→Heap→Prop} {YP:World→Heap→Prop} {d:DefRec}
  (hn:l.most=some n) (hdf:d.params.defaults=[])
  (call:∀ (w:World) (s₀ s₁:Shared) (mg mb:Str→Option Value) (fa:Addr) (o:Obj) (pm cd doc:Value) (a:Addr) (vs:List Value) (ns:List Int),
   Ground q loose [] XP w s₀ mg mb s₁.heap→YP w s₁.heap→
   s₁.heap.get? fa=some o→o.data= .func (docDef d.name d.params d.body d.scope pm cd doc)→s₁.heap.CodeRec cd d.name→mg d.name=some (.ref fa)→
   s₁.heap.get? a=some {cls:= .type "list",data:= .seq vs.toArray}→IntsAre vs ns→ns.length≤n→s₁.gens= #[]→
   codeAny (model l.prog w) callerA (.call (.ref fa) ⟨[.ref a],[]⟩) (fun r s'=>r= .ok (.ret (.bool true))∧OldK s₁.heap s'.heap∧s'.os=s₁.os∧AllBare s'.gens) s₁):
  WalkO q loose XP YP l.row.toRowW d [] (fun f vs=>PySem.call f vs):=by
 intro w s₀ s₁ mg mb G Y fa o pm cd doc dV kV ho hd hcd hD hmg hg args vals as hpre hlay hrd hwl hlo; obtain rfl:dV= .none:=Dflts.none hD hdf; obtain rfl:kV= .none:=Dflts.noKw hD; obtain ⟨a,vs,ns,rfl,rfl,hobj,hints,hlen⟩:=script_of hn hpre hwl; refine enter_call (codeAny_mono (call w s₀ s₁ mg mb fa o pm cd doc a vs ns G Y ho (fd_plain hd) hcd hmg hobj hints hlen hg) fun r s' hq=> ?_); obtain ⟨rfl,h2,h3,h4⟩:=hq; exact ⟨.inl ⟨.bool true, .bool true,[],rfl,fun _=>rfl, .bool true,post_true l _,fun _=>⟨List.Pairwise.nil,fun _ hm=>(nomatch hm)⟩⟩,h2,h3,h4⟩
end Att
namespace L2
open PySem PySem.Spec PyProof.Rows
theorem xS:∀ {vs:List Value} {ns:List Int},IntsAre vs ns→Vals (ns.map V.int) vs
 | _,_, .nil=> .nil
 | _,_, .cons n t h=> .cons ⟨t,rfl⟩ (xS h)
noncomputable def Only (H:Hp):Prop:=∀b,H b=none∨∃o xs,H b=some (.frz o (.lst xs))
theorem law_call {P:Program} {w:World} {K:aD} {mg mb:Str→Option Value} {CX:CXT} {k:Nat} {fa a:Addr} {fd:FuncData} {x:Str} {sp:Sp} {s₁:Shared} {vs:List Value} {ns:List Int}
  (KX:K.In s₁.heap) (hns:s₁.heap.Ns mainGlobals mg) (hb:s₁.heap.Ns builtinsNs mb) (hbb:∀x:Str,x≠"__name__"→mb x=bootBuiltins x) (hlim:s₁.heap.NoLimit) (hg:s₁.gens= #[])
  (ha:s₁.heap.get? a=some {cls:= .type "list",data:= .seq vs.toArray}) (hi:IntsAre vs ns) (hl:ns.length≤sizeLine) (hr:Room k callerA)
  (F:∀base:Heap,K.In base→base.Ns mainGlobals mg→FnOk P w K mg base CX k fa fd [x] sp) (hbind:∀ (s:Shared) (u:Value),BindsTo s fd ⟨[u],[]⟩ [(x,u)])
  (hsp:∀H:Hp,Only H→SqL K H a (ns.map V.int)→sp [.ref a] H (fun v _=>v= .bl true) fun _ _ _=>False)
  (hCX:∀H e s',CX [] H s₁ (fun _ _ _=>False) e s'→False):
  codeAny (model P w) callerA (.call (.ref fa) ⟨[.ref a],[]⟩) (fun r s'=>r= .ok (.ret (.bool true))∧OldK s₁.heap s'.heap∧s'.os=s₁.os∧AllBare s'.gens) s₁:=by
 have rv:=xS hi; have lenV:=hi.length
 have core:∀H:Hp,Only H→SqL K H a (ns.map V.int)→HOk P w H s₁.heap→(∀b,H b≠none→b=a)→(H a≠none→K.lookup a=none)→
   codeAny (model P w) callerA (.call (.ref fa) ⟨[.ref a],[]⟩) (fun r s'=>r= .ok (.ret (.bool true))∧OldK s₁.heap s'.heap∧s'.os=s₁.os∧AllBare s'.gens) s₁:=by
  intro H hO hS hok hA hK; have base_of:∀ {b:Addr} {o:Obj},s₁.heap.get? b=some o→H b=none→(zL s₁.heap H).get? b=some o:=fun e n=>hidT_get e n
  have noA:∀ {b:Addr} {o:Obj} {es:Array DictEntry} {ep:Nat},s₁.heap.get? b=some o→o.data= .dict es ep→H b=none:=fun {b o es ep} e d=>by
   cases q:H b with
   | none=>rfl
   | some u=>have e':b=a:=hA b (by rw [q]; simp); subst e'; rw [ha] at e; cases e; have d':Data.seq vs.toArray _=Data.dict es ep:=d; cases d'
  have nsK:∀ {b:Addr} {m:Str→Option Value},s₁.heap.Ns b m→(zL s₁.heap H).Ns b m:=fun {b m} ⟨o,es,ep,e,d,r⟩=>⟨o,es,ep,base_of e (noA e d),d,r⟩
  have hKb:K.In (zL s₁.heap H):=fun b o e=>base_of (KX b o e) (by
   cases q:H b with
   | none=>rfl
   | some u=>
    have e':b=a:=hA b (by rw [q]; simp); subst e'
    rw [hK (by rw [q]; simp)] at e; cases e)
  have hM:Mod K mg (zL s₁.heap H):=⟨hKb,nsK hns,⟨mb,nsK hb,hbb⟩,let ⟨mc,h1,h2⟩:=hlim; ⟨mc,nsK h1,h2⟩⟩; have e0:Env0 P w K mg (zL s₁.heap H) callerA [] s₁ H:=⟨rfl,hM,fun b o e=>of_hidT e,Nat.le_of_eq (hidT_size _ _),trivial,fun b hb=>absurd (show b∈([]:List Addr) from hb) (by simp),hok, .of_eq hg⟩; refine codeAny_mono ((F _ hKb (nsK hns)).run callerA [] s₁ H ⟨[.ref a],[]⟩ [.ref a] [.ref a] _ _ hr e0 (hbind s₁ (.ref a)) (.cons rfl .nil) (hsp H hO hS)) fun r s' h=> ?_
  cases r with
  | error e=>exact (hCX H e s' h).elim
  | ok fl=>
   cases fl with
   | next=>exact False.elim h
   | brk=>exact False.elim h
   | cont=>exact False.elim h
   | ret u=>
    obtain ⟨v,H',os,bare,un,hok',r',q⟩:=h; have q':v= .bl true:=q; subst q'; obtain rfl:u=Value.bool true:=r'; refine ⟨rfl,OldK.of_keep fun b o e=> ?_,os,bare⟩; cases q:H b with
    | none=>exact un.keep b o e q (by intro z; exact absurd (show b∈([]:List Addr) from z) (by simp)) (by simp)
    | some u=>
     rcases hO b with z | ⟨ob,xs,z⟩
     ·rw [q] at z; cases z
     ·have z2:=un.frzs b ob _ z; obtain ⟨e1,_⟩:=hok b _ z; obtain ⟨e2,_⟩:=hok' b _ z2; rw [e] at e1; cases e1; exact e2
 cases hk:K.lookup a with
 | some o=>
  have e:=KX a o hk; rw [ha] at e; cases e; refine core (fun _=>none) (fun _=> .inl rfl) (.inr ⟨_,vs.toArray,_,hk,rfl,rfl,rfl,by rw [bE,lenV]; exact hl,by simpa using rv⟩) (fun b u z=>by have z':(none:Option HO)=some u:=z; cases z') (fun b z=>absurd rfl z) fun z=>absurd rfl z
 | none=>
  refine core (fun b=>if b=a then some (.frz {cls:= .type "list",data:= .seq vs.toArray} (.lst (ns.map V.int))) else none) (fun b=> ?_) (.inl (.inr ⟨{cls:= .type "list",data:= .seq vs.toArray},if_pos rfl⟩)) (fun b u z=> ?_) (fun b z=> ?_) fun _=>hk
  ·by_cases hb:b=a
   ·exact .inr ⟨_,_,if_pos hb⟩
   ·exact .inl (if_neg hb)
  ·by_cases hb:b=a
   ·have z':=(if_pos hb).symm.trans z; cases z'; subst hb; exact ⟨ha,by rw [aG]; exact hl,vs,_,rv,ha⟩
   ·have z':=(if_neg hb).symm.trans z; cases z'
  ·by_cases hb:b=a
   ·exact hb
   ·exact absurd (if_neg hb) z
noncomputable abbrev KOf {K:aD} {h:Heap} (_:K.In h):aD:=K
theorem walk_of {l:PySem.W.OpenLaw} {n k:Nat} {q:Program} {loose:List Str} {XP:(Str→Option Value)→Heap→Prop} {YP:World→Heap→Prop} {d:DefRec} {K:Params→aD} {CX:World→CXT} {sp:World→Sp} {x:Str}
  (hn:l.most=some n) (hn2:n≤sizeLine) (hdf:d.params.defaults=[]) (hr:Room k callerA)
  (hY:∀ (w:World) (h:Heap),YP w h→(K w.params).In h)
  (F:∀ (w:World) (mg:Str→Option Value) (fa:Addr) (h:Heap),(K w.params).In h→h.Ns mainGlobals mg→mg d.name=some (.ref fa)→
   ∃fd:FuncData,(∀ (s:Shared) (u:Value),BindsTo s fd ⟨[u],[]⟩ [(x,u)])∧
    ∀base:Heap,(K w.params).In base→base.Ns mainGlobals mg→FnOk l.prog w (K w.params) mg base (CX w) k fa fd [x] (sp w))
  (hsp:∀ (w:World) (H:Hp) (a:Addr) (ns:List Int),ns.length≤n→Only H→SqL (K w.params) H a (ns.map V.int)→sp w [.ref a] H (fun v _=>v= .bl true) fun _ _ _=>False)
  (hCX:∀ (w:World) (H:Hp) (s:Shared) (e:Value) (s':Shared),CX w [] H s (fun _ _ _=>False) e s'→False):
  PySem.W.WalkO q loose XP YP l.row.toRowW d [] (fun f vs=>PySem.call f vs):=by
 refine Att.attach_call hn hdf fun w s₀ s₁ mg mb fa o pm cd doc a vs ns G Y ho hd hcd hmg hobj hints hlen hg=> ?_
 have KX:=hY w _ Y; obtain ⟨fd,hb,hF⟩:=F w mg fa _ KX G.T.g hmg; exact law_call KX G.T.g G.T.b G.T.builtins G.T.nolimit hg hobj hints (eD hlen hn2) hr hF hb (fun H hO hS=>hsp w H a ns hlen hO hS) fun H e s'=>hCX w H s₁ e s'
noncomputable def dF (s:Stmt):Arguments:=match s with
 | .FunctionDef _ a _ _ _ _ _ _ _ _=>a
 | _=>{posonlyargs:=[],args:=[],vararg:=none,kwonlyargs:=[],kw_defaults:=[],kwarg:=none,defaults:=[]}
noncomputable def cT (s:Stmt):List Stmt:=match s with
 | .FunctionDef _ _ b _ _ _ _ _ _ _=>b
 | _=>[]
noncomputable def aV (s:Stmt):Scope:=match s with
 | .FunctionDef _ _ _ _ _ _ sc _ _ _=>sc
 | _=>{kind:= .function,names:=[],isGenerator:=false,isCoroutine:=false}
noncomputable abbrev CX0:CXT:=fun _ _ _ _ _ _=>False
noncomputable abbrev E0:XK:=fun _ _ _=>False
theorem pass0 {X:Cx}:Passes CX0 X E0:=fun _ _ _ _ _ _ _ h=>h.elim
structure Fun (K:aD) (x qual:Str) (st:Stmt) (f:Addr) (fd:FuncData):Prop where
 ex:∃ (oc:Value) (od:Option Addr) (kV doc pm:Value) (an:Option Addr) (cdv ct:Value) (osl:Array (Option Value)),
  fd=bN x qual (dF st) (cT st) (aV st) .none kV doc pm an cdv ct∧K.lookup f=some ⟨oc,od, .func fd,osl⟩∧bL K cdv qual=true
 kp:bA K (.ref f)=true
section
variable {P:Program} {w:World} {K:aD} {mg:Str→Option Value} {base:Heap}
theorem Fun.ok {x qual:Str} {st:Stmt} {f:Addr} {fd:FuncData} {N ps:List Str} {k:Nat} {sp:Sp} (F:Fun K x qual st f fd) (S:pR N ps (aV st)) (len:∀vs H Q E,sp vs H Q E→vs.length=ps.length)
  (hbody:∀ (cdv:Value) (A:Around) (outer:List Env) (s:Shared) (H:Hp) (vs:List V) (Q:VK) (E:XK),Room k (A.deeper (envOfC qual (aV st) s.heap.objs.size f cdv))→sp vs H Q E→
   ∃t,PSs (lE CX0 P w K mg base N qual (aV st) f cdv A outer s H E).nox (cT st) t∧t {nx:=fun _ H'=>Q .non H',rt:=Q} (start N vs) H):FnOk P w K mg base CX0 (k+1) f fd ps sp:=by
 obtain ⟨oc,od,kV,doc,pm,an,cdv,ct,osl,rfl,lk,hcd⟩:=F.ex; refine fn_of lk hcd S len fun A outer s H vs Q E hr hsp=> ?_
 obtain ⟨t,h,q⟩:=hbody cdv A outer s H vs Q E hr hsp; exact ⟨t,h.nox,q⟩
theorem Fun.binds {x qual:Str} {st:Stmt} {f:Addr} {fd:FuncData} {ps:List Str} (F:Fun K x qual st f fd)
  (h:∀ (kV doc pm:Value) (an:Option Addr) (cdv ct:Value) (us:List Value),us.length=ps.length→bindArgs (bN x qual (dF st) (cT st) (aV st) .none kV doc pm an cdv ct) ⟨us,[]⟩=pure (ps.zip us)):Binds K fd ps []:=by
 obtain ⟨oc,od,kV,doc,pm,an,cdv,ct,osl,rfl,lk,hcd⟩:=F.ex; exact .all (h kV doc pm an cdv ct)
theorem fD {x qual:Str} {st:Stmt} {f:Addr} {oc:Value} {od an:Option Addr} {osl:Array (Option Value)} {kV doc pm cdv ct:Value} (l:K.lookup f=some ⟨oc,od, .func (bN x qual (dF st) (cT st) (aV st) .none kV doc pm an cdv ct),osl⟩)
  (c:bL K cdv qual=true) (k:bA K (.ref f)=true):Fun K x qual st f (bN x qual (dF st) (cT st) (aV st) .none kV doc pm an cdv ct):=⟨⟨oc,od,kV,doc,pm,an,cdv,ct,osl,rfl,l,c⟩,k⟩
end
theorem gW {n:Nat} (h:n≤1000):n<sizeLine:=cD h (by decide)
section
variable {X:Cx}
theorem pv (i:Nat) {x:Str} {pos:Pos} (hN:X.N[i]? =some x:=by rfl) (hv:Vis X.env.scope x:=by first | exact Or.inl rfl | exact Or.inr (Or.inl rfl) | exact Or.inr (Or.inr rfl)) (hd:(x==("__debug__":Str))=false:=by decide)
  (hcd:(x==("__classdict__":Str))=false:=by decide):PE X (.Name x pos) (lY i):=pe_var hN hv hd hcd
end
theorem iteF {A B:Prop} (h:B):if false=true then A else B:=by rw [if_neg bO]; exact h
theorem iteT {A B:Prop} (h:A):if true=true then A else B:=by rw [if_pos rfl]; exact h
noncomputable def Same (H H':Hp):Prop:=∀b o,H b=some o→H' b=some o
theorem Same.refl (H:Hp):Same H H:=fun _ _ h=>h
theorem Same.trans {H H1 H2:Hp} (a:Same H H1) (b:Same H1 H2):Same H H2:=fun c o h=>b c o (a c o h)
theorem Same.free {H H':Hp} (e:Same H H') {l:Addr} (h:H' l=Option.none):H l=Option.none:=by
 cases q:H l with
 | none=>rfl
 | some o=>rw [e l o q] at h; cases h
theorem Same.seq {K:aD} {H H':Hp} {a:Addr} {xs:List V} (e:Same H H') (h:SqL K H a xs):SqL K H' a xs:=by
 rcases h with (h | ⟨o,h⟩) | h
 ·exact .inl (.inl (e _ _ h))
 ·exact .inl (.inr ⟨o,e _ _ h⟩)
 ·exact .inr h
noncomputable def wE (X:Cx) (e:Expr):TE:=fun σ H Q=>∀ (pins:List (Addr × Obj)) (s:Shared),Inv X pins σ H s→wpAny (model X.prog X.w) X.A (eval e X.env) (EP X pins σ Q) X.xe s
noncomputable def wT (X:Cx) (e:Expr):TT:=fun σ H Q=>∀ (pins:List (Addr × Obj)) (s:Shared),Inv X pins σ H s→wpAny (model X.prog X.w) X.A (isTrue e X.env (eval e X.env)) (TP X pins σ Q) X.xe s
noncomputable def wW (X:Cx) (e:Expr):TT:=fun σ H Q=>∀ (whole:Sem Value) (pins:List (Addr × Obj)) (s:Shared),Inv X pins σ H s→wpAny (model X.prog X.w) X.A (isTrue e X.env whole) (TP X pins σ Q) X.xe s
noncomputable def wA (X:Cx) (es:List Expr):TA:=fun σ H Q=>∀ (pos:Pos) (pins:List (Addr × Obj)) (s:Shared),Inv X pins σ H s→wpAny (model X.prog X.w) X.A (spliced (backTo pos (starEach es X.env))) (AP X pins σ Q) X.xe s
noncomputable def wS (X:Cx) (st:Stmt):TS:=fun D σ H=>∀ (pins:List (Addr × Obj)) (s:Shared),Inv X pins σ H s→wpAny (model X.prog X.w) X.A (exec st X.env) (SP X pins D) X.xe s
noncomputable def wSs (X:Cx) (sts:List Stmt):TS:=fun D σ H=>∀ (pins:List (Addr × Obj)) (s:Shared),Inv X pins σ H s→wpAny (model X.prog X.w) X.A (execs sts X.env) (SP X pins D) X.xe s
noncomputable def wG (X:Cx) (tg:Expr):TG:=fun v σ H Q=>∀ (pins:List (Addr × Obj)) (s:Shared) (u:Value),Inv X pins σ H s→RelV v u→
  wpAny (model X.prog X.w) X.A (assign tg X.env u) (fun _ s'=>∃σ' H',Inv X pins σ' H' s'∧Q σ' H') X.xe s
noncomputable def wI (X:Cx) (tg iter:Expr):TI:=fun σ H R=>∀ (pins:List (Addr × Obj)) (s:Shared),Inv X pins σ H s→
  wpAny (model X.prog X.w) X.A (eval iter X.env) (fun v s1=>wpAny (model X.prog X.w) X.A (pyIter v) (PIE X pins σ tg R) X.xe s1) X.xe s
section
variable {X:Cx} {e:Expr} {es:List Expr} {st:Stmt} {sts:List Stmt} {tg iter:Expr} {σ:St} {H:Hp}
theorem gS:PE X e (wE X e):=fun pins s _ _ _ I h=>h pins s I
theorem pt_w:PT X e (wT X e):=fun pins s _ _ _ I h=>h pins s I
theorem pw_w:PW X e (wW X e):=fun w pins s _ _ _ I h=>h w pins s I
theorem zS:PA X es (wA X es):=fun pos pins s _ _ _ I h=>h pos pins s I
theorem ps_w:PS X st (wS X st):=fun pins s _ _ _ I h=>h pins s I
theorem uA:PSs X sts (wSs X sts):=fun pins s _ _ _ I h=>h pins s I
theorem pg_w:PG X tg (wG X tg):=fun pins s _ _ _ u _ I r h=>h pins s u I r
theorem pi_w:PI X tg iter (wI X tg iter):=fun pins s _ _ _ I h=>h pins s I
theorem PE.to {t:TE} {Q:VK} (h:PE X e t) (q:t σ H Q):wE X e σ H Q:=fun pins s I=>h pins s σ H Q I q
theorem PT.to {t:TT} {Q:Bool→Hp→Prop} (h:PT X e t) (q:t σ H Q):wT X e σ H Q:=fun pins s I=>h pins s σ H Q I q
theorem PW.to {t:TT} {Q:Bool→Hp→Prop} (h:PW X e t) (q:t σ H Q):wW X e σ H Q:=fun w pins s I=>h w pins s σ H Q I q
theorem PA.to {t:TA} {Q:List V→Hp→Prop} (h:PA X es t) (q:t σ H Q):wA X es σ H Q:=fun pos pins s I=>h pos pins s σ H Q I q
theorem PS.to {t:TS} {D:uF} (h:PS X st t) (q:t D σ H):wS X st D σ H:=fun pins s I=>h pins s σ H D I q
theorem PSs.to {t:TS} {D:uF} (h:PSs X sts t) (q:t D σ H):wSs X sts D σ H:=fun pins s I=>h pins s σ H D I q
theorem wE.imp {Q Q':VK} (h:wE X e σ H Q) (k:∀v H',Q v H'→Q' v H'):wE X e σ H Q':=fun pins s I=>thn (h pins s I) fun u s' ⟨v,H',I',r,q⟩=>⟨v,H',I',r,k v H' q⟩
theorem wT.imp {Q Q':Bool→Hp→Prop} (h:wT X e σ H Q) (k:∀v H',Q v H'→Q' v H'):wT X e σ H Q':=fun pins s I=>thn (h pins s I) fun u s' ⟨H',I',q⟩=>⟨H',I',k u H' q⟩
theorem wW.imp {Q Q':Bool→Hp→Prop} (h:wW X e σ H Q) (k:∀v H',Q v H'→Q' v H'):wW X e σ H Q':=fun w pins s I=>thn (h w pins s I) fun u s' ⟨H',I',q⟩=>⟨H',I',k u H' q⟩
theorem wA.imp {Q Q':List V→Hp→Prop} (h:wA X es σ H Q) (k:∀v H',Q v H'→Q' v H'):wA X es σ H Q':=fun pos pins s I=>thn (h pos pins s I) fun u s' ⟨v,H',I',r,q⟩=>⟨v,H',I',r,k v H' q⟩
theorem SP.imp {pins:List (Addr × Obj)} {D D':uF} {f:Flow} {s:Shared} (h:SP X pins D f s) (k1:∀σ H,D.nx σ H→D'.nx σ H) (k2:∀v H,D.rt v H→D'.rt v H) (k3:∀σ H,D.bk σ H→D'.bk σ H) (k4:∀σ H,D.ct σ H→D'.ct σ H):SP X pins D' f s:=by
 cases f with
 | next=>obtain ⟨σ',H',I,q⟩:=h; exact ⟨σ',H',I,k1 _ _ q⟩
 | brk=>obtain ⟨σ',H',I,q⟩:=h; exact ⟨σ',H',I,k3 _ _ q⟩
 | cont=>obtain ⟨σ',H',I,q⟩:=h; exact ⟨σ',H',I,k4 _ _ q⟩
 | ret u=>obtain ⟨v,σ',H',I,r,q⟩:=h; exact ⟨v,σ',H',I,r,k2 _ _ q⟩
theorem wSs.imp {D D':uF} (h:wSs X sts D σ H) (k1:∀σ H,D.nx σ H→D'.nx σ H) (k2:∀v H,D.rt v H→D'.rt v H) (k3:∀σ H,D.bk σ H→D'.bk σ H) (k4:∀σ H,D.ct σ H→D'.ct σ H):wSs X sts D' σ H:=
 fun pins s I=>thn (h pins s I) fun f s' q=>q.imp k1 k2 k3 k4
theorem wG.imp {v:V} {Q Q':St→Hp→Prop} (h:wG X tg v σ H Q) (k:∀σ' H',Q σ' H'→Q' σ' H'):wG X tg v σ H Q':=fun pins s u I r=>thn (h pins s u I r) fun _ s' ⟨σ',H',I',q⟩=>⟨σ',H',I',k _ _ q⟩
end
section
variable {X:Cx} {pins:List (Addr × Obj)} {σ:St} {H F:Hp} {s:Shared}
theorem HOk.track {P:Program} {w:World} {h:Heap} {a:Addr} {o:HO} (ok:HOk P w H h) (hn:H a=none) (new:ObjOk P w (upd H a o) h a o):HOk P w (upd H a o) h:=fun b u e=>by
 by_cases hb:b=a
 ·subst hb; rw [dD] at e; cases e; exact new
 ·rw [cE hb] at e; exact (ok b u e).stay (fun _ _ _ q=>q) (fun c q=>by rw [cE (dE q hn)]; exact q) fun c xs q=>by rw [cE (dE q hn)]; exact q
theorem Inv.track {a:Addr} {o:HO} (I:Inv X pins σ H s) (hn:H a=none) (h0:X.s₀.heap.objs.size≤a) (hL:a≠X.env.locals) (hc:∀x c,X.env.cells.lookup x=some c→c≠a)
  (hp:∀p∈X.pn++pins,p.1≠a) (new:ObjOk X.prog X.w (upd H a o) s.heap a o):Inv X pins σ (upd H a o) s:=by
 refine ⟨I.ok,I.os,I.bare,⟨I.base.keep,I.base.slot,fun b u e n hx=> ?_,I.base.there,fun b xs e=> ?_,fun b u xs e=> ?_,fun b ps e=> ?_⟩,I.loc,I.cell, ?_,fun x c e=> ?_,fun p hp'=> ?_,I.hok.track hn new,I.len⟩
 ·rw [cE (cH (bI (bB e) h0))]; exact I.base.free b u e n hx
 ·have q:=I.base.tups b xs e; rw [cE (dE q hn)]; exact q
 ·have q:=I.base.frzs b u xs e; rw [cE (dE q hn)]; exact q
 ·obtain ⟨m,q⟩:=I.base.tbls b ps e; exact ⟨m,by rw [cE (dE q hn)]; exact q⟩
 ·rw [cE (Ne.symm hL)]; exact I.free
 ·rw [cE (hc x c e)]; exact I.freeC x c e
 ·obtain ⟨e,n,r⟩:=I.pin p hp'; exact ⟨e,by rw [cE (hp p hp')]; exact n,r⟩
noncomputable def SmpO:HO→Prop
 | .lst _=>True
 | .tup _=>True
 | .dK _=>True
 | .frz _ (.lst _)=>True
 | .frz _ (.dK _)=>True
 | .ext _=>True
 | _=>False
noncomputable def Smp (H:Hp):Prop:=∀b o,H b=some o→SmpO o
theorem ObjOk.smp {P:Program} {w:World} {h:Heap} {a:Addr} {o:HO} (z:SmpO o) (x:ObjOk P w H h a o):ObjOk P w F h a o:=by
 cases o with
 | lst xs=>exact x
 | tup xs=>exact x
 | dK kvs=>exact x
 | frz ob u=>cases u with
  | lst xs=>exact x
  | dK kvs=>exact x
  | _=>exact absurd z (fun q=>q)
 | ext φ=>exact x
 | _=>exact absurd z (fun q=>q)
theorem Smp.sub (h:Smp H) (s:Same F H):Smp F:=fun b o e=>h b o (s b o e)
theorem Inv.less (I:Inv X pins σ H s) (hF:Same F H) (h0:Same X.B₀ F) (hs:Smp F):Inv X pins σ F s:=by
 refine ⟨I.ok,I.os,I.bare,⟨I.base.keep,I.base.slot,fun b u e n hx=>hF.free (I.base.free b u e n hx),I.base.there,fun b xs e=>h0 _ _ (X.hB _ _ e trivial),fun b u xs e=>h0 _ _ (X.hB _ _ e trivial),fun b ps e=>⟨#[], ?_⟩⟩,I.loc,I.cell,hF.free I.free,fun x c e=>hF.free (I.freeC x c e),fun p hp=> ?_,fun b o e=>(I.hok b o (hF b o e)).smp (hs b o e),I.len⟩
 ·have q:=h0 _ _ (X.hB _ _ e trivial); rw [q]; simp
 ·obtain ⟨e,n,r⟩:=I.pin p hp; exact ⟨e,hF.free n,r⟩
end
noncomputable def clo (cells:List (Str × Addr)):List (Str × NameKind)→List (Str × Addr)→List (Str × Addr)
 | [],cs=>cs
 | (n,k)::r,cs=>clo cells r (if (k==NameKind.free)=true then (n,(cells.lookup n).getD 0)::cs else cs)
theorem qN {env:Env}:∀ (names:List (Str × NameKind)) (cs:List (Str × Addr)),(∀y∈names,y.2= .free→∃c,env.cells.lookup y.1=some c)→
  (forIn names cs (fun (x:Str × NameKind) (r:List (Str × Addr))=>if (x.2==NameKind.free)=true then (do let c ← cellOf env x.1; pure (ForInStep.yield ((x.1,c)::r))) else pure (ForInStep.yield r)):Sem (List (Str × Addr)))=pure (clo env.cells names cs)
 | [],cs,_=>rfl
 | (n,k)::r,cs,h=>by
  rw [List.forIn_cons]
  by_cases hk:(k==NameKind.free)=true
  ·obtain ⟨c,hc⟩:=h (n,k) aR (by simpa using hk)
   have e:cellOf env n=pure c:=by unfold cellOf; have hc':env.cells.lookup n=some c:=hc; rw [hc']
   simp only [hk,if_true,e,pure_bind,clo]; have hc':env.cells.lookup n=some c:=hc; rw [hc']; exact qN r _ fun y hy=>h y (aQ _ hy)
  ·simp only [hk,cP,if_false,pure_bind,clo]; exact qN r _ fun y hy=>h y (aQ _ hy)
theorem closure_eq {env:Env} {scope:Scope} (h:∀y∈scope.names,y.2= .free→∃c,env.cells.lookup y.1=some c):closureFor scope env=pure (clo env.cells scope.names []):=by simp only [closureFor]; have e:=qN (env:=env) scope.names [] h; simp only [bind_pure] ; exact e
theorem clo_look (cells:List (Str × Addr)):∀ (names:List (Str × NameKind)) (cs:List (Str × Addr)) (x:Str) (c:Addr),(clo cells names cs).lookup x=some c→cs.lookup x=some c∨((x,NameKind.free)∈names∧c=(cells.lookup x).getD 0)
 | [],cs,x,c,h=> .inl h
 | (n,k)::r,cs,x,c,h=>by
  rcases clo_look cells r _ x c h with q | ⟨q1,q2⟩
  ·by_cases hk:(k==NameKind.free)=true
   ·rw [if_pos hk,fP] at q; have ek:k= .free:=by simpa using hk
    by_cases hx:(x==n)=true
    ·simp only [hx] at q; have e:x=n:=by simpa using hx
     subst e; exact .inr ⟨by rw [ek]; exact aR,(dN.inj q).symm⟩
    ·have hx':(x==n)=false:=by simpa using hx
     simp only [hx'] at q; exact .inl q
   ·rw [if_neg hk] at q; exact .inl q
  ·exact .inr ⟨aQ _ q1,q2⟩
theorem clo_has (cells:List (Str × Addr)):∀ (names:List (Str × NameKind)) (cs:List (Str × Addr)) (x:Str),(x,NameKind.free)∈names∨(∃c,cs.lookup x=some c)→∃c,(clo cells names cs).lookup x=some c
 | [],cs,x,h=>h.elim (fun z=>nomatch z) fun z=>z
 | (n,k)::r,cs,x,h=>by
  refine clo_has cells r _ x ?_
  by_cases hk:(k==NameKind.free)=true
  ·rw [if_pos hk]
   by_cases hx:(x==n)=true
   ·exact .inr ⟨(cells.lookup n).getD 0,by rw [fP]; simp only [hx]⟩
   ·have hx':(x==n)=false:=by simpa using hx
    rcases h with q | ⟨c,q⟩
    ·rcases bV.mp q with z | z
     ·cases z; exact absurd (by simp) hx
     ·exact .inl z
    ·exact .inr ⟨c,by rw [fP]; simp only [hx']; exact q⟩
  ·rw [if_neg hk]
   rcases h with q | q
   ·rcases bV.mp q with z | z
    ·cases z; exact absurd rfl hk
    ·exact .inl z
   ·exact .inr q
theorem rM {env:Env}:∀ {names:List (Str × NameKind)} {x:Str},((names.map fun (n,k)=>if (k==NameKind.free && env.scope.kind== .function && env.kindOf n==some .cell) then (n,NameKind.cell) else (n,k)).lookup x=some .cell∨
   (names.map fun (n,k)=>if (k==NameKind.free && env.scope.kind== .function && env.kindOf n==some .cell) then (n,NameKind.cell) else (n,k)).lookup x=some .free)→names.lookup x=some .cell∨names.lookup x=some .free
 | [],x,h=>by simp at h
 | (n,k)::r,x,h=>by
  have ih:= @rM env r x; rw [bQ] at h; rw [fP]
  by_cases hc:(k==NameKind.free && env.scope.kind== .function && env.kindOf n==some .cell)=true
  ·simp only [hc,if_true,fP] at h; cases hx:x==n with
   | true=>
    have hk:k= .free:=by have:=hc; simp only [bX,beq_iff_eq] at this; exact this.1.1
    exact .inr (by rw [hk])
   | false=>simp only [hx] at h ⊢; exact ih h
  ·have hc':(k==NameKind.free && env.scope.kind== .function && env.kindOf n==some .cell)=false:=by simpa using hc
   simp only [hc',cP,if_false,fP] at h; cases hx:x==n with
   | true=>simp only [hx] at h ⊢; exact h
   | false=>simp only [hx] at h ⊢; exact ih h
theorem comp_loop {prog:Program} {w:World} {A:Around} {R:Result→Shared→Prop} {s:Shared} {elt target iter:Expr} {ifs:List Expr} {scope:Scope} {pos:Pos} {it acc:Value} {env:Env} (Ξ:Value→Shared→Prop) (hΞ:∀e s,Ξ e s→notedBy (model prog w) A env (fun e s'=>R (.error e) s') e s) (J:Nat→Shared→Prop)
  (turn:∀n s,J n s→wpAny (model prog w) A (pyNext it) (fun r s₁=>match r with
   | none=>R (.ok .next) s₁
   | some v=>wpAny (model prog w) A (letOwnedTupleGo target it v) (fun _ s₂=>wpAny (model prog w) A (assign target env v) (fun _ s₃=>
     wpAny (model prog w) A (forIn ifs true fun c r=>if r=true then do let ok ← isTrue c env (eval c env); pure (ForInStep.yield ok) else pure (ForInStep.yield r)) (fun ok s₄=>
      if ok=true then wpAny (model prog w) A (eval elt env) (fun x s₅=>wpAny (model prog w) A (call (.builtin "list.append") [acc,x]) (fun _ s₆=>∃m,m<n∧J m s₆) Ξ s₅) Ξ s₄
      else ∃m,m<n∧J m s₄) Ξ s₃) Ξ s₂) Ξ s₁) Ξ s)
  (n:Nat) (h:J n s):codeAny (model prog w) A (.compLoop (.ListComp elt [⟨target,iter,ifs,0⟩] scope pos) 0 it acc env) R s:=by
 refine codeAny_loop rfl J (fun n s hI=> ?_) n h; show wpAny _ A ((compTurn (.ListComp elt [⟨target,iter,ifs,0⟩] scope pos) 0 it acc env).onRaise (fun x=>do noteFrame x env; theTreesLotGoes x)) _ _ s; refine wpAny_noted ?_; rw [compTurn_list]; refine wpAny_bind (wpAny_standAt (wpAny_bind (wpAny_mono (turn n s hI) (fun r s₁ h₁=> ?_) fun e s z=>hΞ e s z))); cases r with
 | none=>exact wpAny_pure h₁
 | some v=>
  refine wpAny_bind (wpAny_mono h₁ (fun _ s₂ h₂=> ?_) fun e s z=>hΞ e s z); refine wpAny_bind (wpAny_mono h₂ (fun _ s₃ h₃=> ?_) fun e s z=>hΞ e s z); refine wpAny_bind (wpAny_mono h₃ (fun ok s₄ h₄=> ?_) fun e s z=>hΞ e s z); cases ok with
  | false=>exact wpAny_pure ⟨rfl,h₄⟩
  | true=>exact wpAny_bind (wpAny_bind (wpAny_mono h₄ (fun x s₅ h₅=>wpAny_bind (wpAny_mono h₅ (fun _ s₆ h₆=>wpAny_pure (wpAny_pure ⟨rfl,h₆⟩)) fun e s z=>hΞ e s z)) fun e s z=>hΞ e s z))
noncomputable def wIfs (X:Cx) (ifs:List Expr):TT:=fun σ H Q=>∀ (pins:List (Addr × Obj)) (s:Shared),Inv X pins σ H s→
 wpAny (model X.prog X.w) X.A (forIn ifs true fun c r=>if r=true then do let ok ← isTrue c X.env (eval c X.env); pure (ForInStep.yield ok) else pure (ForInStep.yield r)) (TP X pins σ Q) X.xe s
theorem wIfs_nil {X:Cx} {σ:St} {H:Hp} {Q:Bool→Hp→Prop} (h:Q true H):wIfs X [] σ H Q:=fun _ _ I=>wpAny_tests_nil ⟨H,I,h⟩
theorem wIfs_one {X:Cx} {c:Expr} {σ:St} {H:Hp} {Q:Bool→Hp→Prop} (h:wT X c σ H Q):wIfs X [c] σ H Q:=fun pins s I=>wpAny_tests_one (h pins s I)
noncomputable def cxB (X:Cx) (N:List Str) (scope:Scope) (cl:List (Str × Addr)) (C:Addr) (ex:List Addr) (s:Shared) (H:Hp):Cx:=
 {prog:=X.prog,w:=X.w,K:=X.K,mg:=X.mg,base:=X.base,A:=X.A,N:=N,s₀:=s,H₀:=H,env:=compEnvC scope cl C X.env,outer:=X.stack,stack:=X.stack,ex:=ex,fn:=fun _=>false,calm:=true,pn:=[],xe:=fun _ _=>False}
noncomputable def qB (X:Cx) (N:List Str) (scope:Scope) (cl:List (Str × Addr)) (C:Addr) (ex:List Addr) (s:Shared) (H:Hp) (ξ:Value→Shared→Prop):Cx:={cxB X N scope cl C ex s H with xe:=ξ}
noncomputable def xJ (cap:List (Option Nat)) (σ:St):St:=cap.map fun o=>o.bind fun k=>(σ[k]?).join
noncomputable def sV (scope sc:Scope):Bool:=scope.names.all fun y=>(!(y.2==NameKind.free) || sc.names.lookup y.1==some NameKind.cell) && !(y.2==NameKind.cell) && (!(y.2==NameKind.local) || scope.names.lookup y.1==some NameKind.local)
noncomputable def pC (N M:List Str) (scope sc:Scope) (cap:List (Option Nat)):Bool:=cap.length==N.length && (cap.zip N).all fun y=>match y.1 with
 | none=>true
 | some k=>M[k]? ==some y.2 && sc.names.lookup y.2==some NameKind.cell && scope.names.lookup y.2==some NameKind.free
theorem jA {env:Env} (hf:env.scope.kind= .function):∀ {names:List (Str × NameKind)} {x:Str},names.lookup x=some .free→env.kindOf x=some .cell→
  (names.map fun (n,k)=>if (k==NameKind.free && env.scope.kind== .function && env.kindOf n==some .cell) then (n,NameKind.cell) else (n,k)).lookup x=some .cell
 | [],x,h,_=>by simp at h
 | (n,k)::r,x,h,hc=>by
  rw [bQ]; cases hx:x==n with
  | true=>
   have e:x=n:=by simpa using hx
   subst e; rw [fP] at h; simp only [beq_self_eq_true] at h; have ek:k= .free:=dN.inj h; subst ek; have hb:(NameKind.free==NameKind.free && env.scope.kind== .function && env.kindOf x==some .cell)=true:=by rw [hf,hc]; rfl
   show List.lookup x ((if (NameKind.free==NameKind.free && env.scope.kind== .function && env.kindOf x==some .cell)=true then (x,NameKind.cell) else (x,NameKind.free))::_)=_; rw [if_pos hb,fP]; simp only [beq_self_eq_true]
  | false=>
   rw [fP] at h; simp only [hx] at h; have ih:=jA hf (names:=r) h hc
   by_cases hb:(k==NameKind.free && env.scope.kind== .function && env.kindOf n==some .cell)=true
   ·simp only [hb,if_true,fP,hx]; exact ih
   ·have hb':(k==NameKind.free && env.scope.kind== .function && env.kindOf n==some .cell)=false:=by simpa using hb
    simp only [hb',cP,if_false,fP,hx]; exact ih
theorem Inv.low {X:Cx} {pins:List (Addr × Obj)} {σ:St} {H:Hp} {s:Shared} (I:Inv X pins σ H s):∀b∈frs X.stack,b<s.heap.objs.size:=fun b hb=>by obtain ⟨_,o,ho,_⟩:=I.stack.mem hb; exact bB ho
theorem comp_runX {X:Cx} {pins:List (Addr × Obj)} {σ:St} {H:Hp} {s:Shared} {elt tg iter:Expr} {ifs:List Expr} {scope:Scope} {pos:Pos} {N:List Str} {cap:List (Option Nat)} {g:TG} {tt:TT} {te:TE} {J:It} {fp:List Addr} {it:Addr} {tn:Nat→Heap→Prop} {E:Value→Shared→Prop} {sc:Scope} (ξ:List (Str × Addr)→Addr→Value→Shared→Prop) (ξ':List (Str × Addr)→Addr→Value→Hp→Shared→Prop)
  (hc:X.calm=true) (hsc:X.env.scope=sc) (hcn:sV scope sc=true) (hcap:pC N X.N scope sc cap=true) (hk:scope.kind= .function)
  (I:Inv X pins σ H s) (T:Turn X.prog X.w X.K tg J fp it tn) (st:tn 0 s.heap) (hfp:∀b∈fp,vJ X pins H b)
  (hg:∀cl C,PG (qB X N scope cl C fp s H (ξ cl C)) tg g) (ht:∀cl C pi s2 σ2 H2 Q,Inv (qB X N scope cl C fp s H (ξ cl C)) pi σ2 H2 s2→tt σ2 H2 Q→wpAny (model X.prog X.w) X.A (forIn ifs true fun c r=>if r=true then do let ok ← isTrue c (compEnvC scope cl C X.env) (eval c (compEnvC scope cl C X.env)); pure (ForInStep.yield ok) else pure (ForInStep.yield r)) (TP (qB X N scope cl C fp s H (ξ cl C)) pi σ2 Q) (ξ cl C) s2)
  (he:∀cl C,PE (qB X N scope cl C fp s H (ξ cl C)) elt te) (W:Nat→Nat→List V→St→Hp→Prop) (m0:Nat) (w0:W 0 m0 [] (xJ cap σ) H)
  (RR:Value→Addr→Result→Shared→Prop)
  (hξ:∀cl C e s',ξ cl C e s'→∃pi σb H',Inv (qB X N scope cl C fp s H (ξ cl C)) pi σb H' s'∧ξ' cl C e H' s')
  (hx:∀cl D C e H' s',ξ' cl C e H' s'→H' C=none→X.s₀.heap.objs.size≤C→C≠X.env.locals→(∀x c,X.env.cells.lookup x=some c→c≠C)→(∀p∈X.pn++pins,p.1≠C)→C∉frs X.stack→(∃m,s'.heap.Ns C m)→Inv X pins σ H' s'→notedBy (model X.prog X.w) X.A (compEnvC scope cl C X.env) (fun e s''=>RR (.ref D) C (.error e) s'') e s')
  (turn:∀i m ys σb H2,W i m ys σb H2→
   (J.stop i H2∧∀D C s',H2 D=none→H2 C=none→D≠C→X.s₀.heap.objs.size≤C→C≠X.env.locals→(∀x c,X.env.cells.lookup x=some c→c≠C)→(∀p∈X.pn++pins,p.1≠C)→C∉frs X.stack→(∃m,s'.heap.Ns C m)→Inv X pins σ (upd H2 D (.lst ys)) s'→RR (.ref D) C (.ok .next) s')∨
   (J.go i H2∧ys.length<sizeLine∧∃Nx:List V→St→Hp→Prop,(∀ys' σ' H',Nx ys' σ' H'→∃m',m'<m∧W (i+1) m' ys' σ' H')∧
    ∀x H',J.yld i H2 x H'→g x σb H' fun σ2 H3=>tt σ2 H3 fun b H4=>if b=true then te σ2 H4 fun v H5=>Nx (ys++[v]) σ2 H5 else Nx ys σ2 H4)):
  wpAny (model X.prog X.w) X.A (newList []) (fun acc s₃=>wpAny (model X.prog X.w) X.A (newFunctionEnv scope X.env.globals (clo X.env.cells scope.names []) [] X.env.qual none .none (some X.env)) (fun cenv s₄=>
   codeAny (model X.prog X.w) X.A (.compStart (.ListComp elt [⟨tg,iter,ifs,0⟩] scope pos) 0 (.ref it) acc {cenv with scope:=relabel scope X.env}) (RR acc cenv.locals) s₄) E s₃) E s:=by
 have nm:∀y∈scope.names,(y.2=NameKind.free→sc.names.lookup y.1=some NameKind.cell)∧y.2≠NameKind.cell∧(y.2=NameKind.local→scope.names.lookup y.1=some NameKind.local):=fun y hy=>by have q:=jF.mp hcn y hy; simp only [bX,xF,Bool.not_eq_true',beq_eq_false_iff_ne,ne_eq,beq_iff_eq] at q; exact ⟨fun e=>q.1.1.resolve_left fun z=>z e,q.1.2,fun e=>q.2.resolve_left fun z=>z e⟩
 have fre:∀y∈scope.names,y.2= .free→∃c,X.env.cells.lookup y.1=some c:=fun y hy e=>I.ok.has y.1 (.inl (by show X.env.scope.names.lookup y.1=_; rw [hsc]; exact (nm y hy).1 e))
 generalize hcl:clo X.env.cells scope.names []=cl
 have csub:∀x c,cl.lookup x=some c→X.env.cells.lookup x=some c:=fun x c e=>by
  rw [← hcl] at e
  rcases clo_look _ _ _ _ _ e with z | ⟨z1,z2⟩
  ·simp at z
  ·obtain ⟨c',q⟩:=fre _ z1 rfl; rw [q] at z2; rw [q,z2]; rfl
 have chas:∀x,((relabel scope X.env).names.lookup x=some .cell∨(relabel scope X.env).names.lookup x=some .free)→∃c,cl.lookup x=some c:=fun x e=>by
  rcases rM e with z | z
  ·exact absurd rfl (nm _ (PySem.mem_of_lookup z)).2.1
  ·rw [← hcl]; exact clo_has _ _ _ _ (.inl (PySem.mem_of_lookup z))
 have cexi:∀x c,cl.lookup x=some c→c<s.heap.objs.size:=fun x c e=>by obtain ⟨v,o,ho,_⟩:=I.cell x c (csub x c e); exact bB ho
 have cexX:∀x c,X.env.cells.lookup x=some c→c<s.heap.objs.size:=fun x c e=>by obtain ⟨v,o,ho,_⟩:=I.cell x c e; exact bB ho
 have pexX:∀p∈X.pn++pins,p.1<s.heap.objs.size:=fun p hp=>bB (I.pin p hp).1
 have flow:∀b∈fp,b<s.heap.objs.size:=fun b hb=>by obtain ⟨o,ho,_⟩:=T.obj 0 _ st b hb; exact bB ho
 have fstk:∀b∈fp,b∉frs X.stack:=fun b hb z=>by
  obtain ⟨_,f1,f2,_⟩:=hfp b hb
  rcases bV.mp (I.stkSub b z) with q | q
  ·exact f1 q
  ·exact f2 q
 have hkr:(relabel scope X.env).kind= .function:=hk; refine wpAny_newObj_type (wpAny_newFunctionEnv (fun y hy=>(nm y hy).2.1) (by intro y hy; simp at hy) (fun h₁ hns₁ hsb₁=> ?_) hk); dsimp only at hns₁ hsb₁ ⊢; generalize hH2:s.heap.push {cls:= .type "list",dict:=none,data:= .seq ([]:List Value).toArray}=G2 at hns₁ hsb₁ ⊢; have hC:G2.objs.size=s.heap.objs.size+1:=by rw [← hH2,qJ]
 have hDC:s.heap.objs.size≠G2.objs.size:=by rw [hC]; exact cH (lU _)
 have hCle:s.heap.objs.size≤G2.objs.size:=by rw [hC]; exact kJ _
 have neC:∀b,b<s.heap.objs.size→b≠G2.objs.size:=fun b hb=>by rw [hC]; exact cH (oB hb)
 have old:∀b o,s.heap.get? b=some o→h₁.get? b=some o:=fun b o e=>hsb₁.extBut b o (neC b (bB e)) (aM _ (hH2▸aM _ e))
 have hacc:h₁.get? s.heap.objs.size=some {cls:= .type "list",dict:=none,data:= .seq ([]:List Value).toArray}:=hsb₁.extBut _ _ hDC (aM _ (hH2▸bW _ rfl)); have env_eq:({newEnv scope G2.objs.size X.env.globals cl X.env.qual none .none (some X.env) 0 with scope:=relabel scope X.env}:Env)=compEnvC scope cl G2.objs.size X.env:=rfl; generalize hDD:s.heap.objs.size=D at *; generalize hCC:G2.objs.size=C at *
 have okX:(qB X N scope cl C fp s H (ξ cl C)).Ok:=by
  refine ⟨I.mod,hkr,I.ok.glob,I.ok.blt, ?_,fun x y c a b=>I.ok.inj x y c (csub x c a) (csub y c b),chas,(fun x c z=>nomatch z),fun _=>I.ok.hd hc,I.ok.frames, .inl rfl,fun b hb=>⟨neC b (flow b hb),fun x c e=>(hfp b hb).2.2.2.2.1 x c (csub x c e)⟩,I.bs, ?_,fun b o e hb=> ?_,fstk,I.stack,I.stkFree⟩
  ·show s.heap.objs.size≤C; rw [hDD]; exact hCle
  ·exact eD I.ok.bsz I.sz
  ·rcases (hfp b hb).2.2.2.1 with z | z
   ·exact I.ok.noex b o e z
   ·exact absurd (bI (bB e) (eD I.ok.bsz z)) (fY _)
 have capE:∀ (i:Nat) (x:Str) (v:V),N[i]? =some x→(xJ cap σ)[i]? =some (some v)→∃k:Nat,X.N[k]? =some x∧σ[k]? =some (some v)∧sc.names.lookup x=some .cell∧scope.names.lookup x=some .free:=fun i x v e1 e2=>by
  unfold pC at hcap; rw [bX] at hcap; unfold xJ at e2; rw [bG] at e2; cases q:cap[i]? with
  | none=>rw [q] at e2; cases e2
  | some o=>
   rw [q] at e2; have e2:(o.bind fun k=>(σ[k]?).join)=some v:=dN.inj e2; cases o with
   | none=>cases e2
   | some k=>
    have e2:(σ[k]?).join=some v:=e2
    have mz:(some k,x)∈cap.zip N:=by refine aY (i:=i) ?_; rw [jK]; exact ⟨q,e1⟩
    have z:=jF.mp hcap.2 _ mz; simp only [bX,beq_iff_eq] at z; refine ⟨k,z.1.1, ?_,z.1.2,z.2⟩; cases w:σ[k]? with
    | none=>rw [w] at e2; cases e2
    | some o'=>rw [w] at e2; have e2:o'=some v:=e2; rw [e2]
 have I0:Inv (qB X N scope cl C fp s H (ξ cl C)) [(D,{cls:= .type "list",dict:=none,data:= .seq ([]:List Value).toArray})] (xJ cap σ) H {s with heap:=h₁,toks:=s.toks+([]:List (Str × Value)).length}:=by
  have dfree:H D=none:=I.hok.fresh (Nat.le_of_eq hDD); refine ⟨okX,rfl,I.bare,Un.kept old,⟨_,hns₁,fun i x v e1 e2 e3=> ?_⟩,fun x c e=> ?_,I.hok.fresh (by rw [hDD]; exact hCle),fun x c e=>I.freeC x c (csub x c e),fun p hp=> ?_,I.hok.kept old, ?_⟩
  ·obtain ⟨k,q1,q2,q3,q4⟩:=capE i x v e1 e2; have q3':X.env.scope.names.lookup x=some .cell:=by rw [hsc]; exact q3
   obtain ⟨m,_,hl⟩:=I.loc; obtain ⟨u,ru,lk⟩:=hl k x v q1 q2 (.inr (.inl q3')); refine ⟨u,ru, .inr ⟨.inl (jA I.ok.kind q4 q3'), ?_⟩⟩
   rcases lk with ⟨z,_⟩ | ⟨_,c,z,ic⟩
   ·have z':X.env.scope.names.lookup x=some .local:=z; rw [q3'] at z'; cases z'
   ·obtain ⟨c',hc'⟩:=chas x (.inl (jA I.ok.kind q4 q3')); have:=csub x c' hc'; rw [z] at this; have ec:c=c':=dN.inj this; subst ec; obtain ⟨o,ho,hd⟩:=ic; exact ⟨c,hc',o,old c o ho,hd⟩
  ·obtain ⟨v,o,ho,hd⟩:=I.cell x c (csub x c e); exact ⟨v,o,old c o ho,hd⟩
  ·have hp':p=(D,{cls:= .type "list",dict:=none,data:= .seq ([]:List Value).toArray}):=by simpa [qB,cxB] using hp
   subst hp'; refine ⟨hacc,dfree,hDC,fun z=> ?_,fun v z=>by cases z⟩; have:=I.low D z; rw [hDD] at this; exact fY _ this
  ·show (xJ cap σ).length=N.length; unfold pC at hcap; rw [bX] at hcap; unfold xJ; rw [aG]; simpa using hcap.1
 have dlow:∀b,b<D→b≠D:=fun b hb=>cH hb
 have loop:∀s₃:Shared,s₃={s with heap:=h₁,toks:=s.toks+([]:List (Str × Value)).length}→
   codeAny (model X.prog X.w) X.A (.compLoop (.ListComp elt [⟨tg,iter,ifs,0⟩] scope pos) 0 (.ref it) (.ref D) (compEnvC scope cl C X.env)) (RR (.ref D) C) s₃:=by
  rintro s₃ rfl
  refine comp_loop (ξ cl C) (fun e s' z=> ?_) (fun n s'=>∃ (i:Nat) (ys:List V) (σb:St) (H2:Hp) (its:List Value) (nn:Nat),Inv (qB X N scope cl C fp s H (ξ cl C)) [(D,{cls:= .type "list",dict:=none,data:= .seq its.toArray nn})] σb H2 s'∧tn i s'.heap∧(∀b∈fp,H2 b=none)∧Vals ys its∧ys.length≤sizeLine∧W i n ys σb H2) ?_ m0
   ⟨0,[],xJ cap σ,H,[],0,I0,T.keep 0 _ _ st fun b hb o e=>old b o e,fun b hb=>(hfp b hb).1, .nil,dA _,w0⟩
  ·obtain ⟨pi,σb,H',I',z'⟩:=hξ cl C e s' z; obtain ⟨m4,ns4,_⟩:=id I'.loc; have J0:Inv X pins σ H' s':=I.call' (ch:=fp) I'.os I'.base I'.hok I'.bare fun b hb=>⟨(hfp b hb).2.2.2.1,(hfp b hb).2.1,(hfp b hb).2.2.2.2.1,(hfp b hb).2.2.2.2.2⟩
   have hLD:X.env.locals<D:=by rw [← hDD]; exact I.lt
   exact hx cl D C e H' s' z' I'.free (eD I.sz (by rw [hDD]; exact hCle)) (hV (bI hLD hCle)) (fun x c e=>neC c (cexX x c e)) (fun p hp=>neC _ (pexX p hp)) (fun z=>absurd (I.low C z) (by rw [hDD]; exact Nat.not_lt.mpr hCle)) ⟨m4,ns4⟩ J0
  rintro n s3 ⟨i,ys,σ3,H3,its,nn,I3,st3,fr3,rv3,hlen,w3⟩
  have fpX:∀ {H':Hp} {its':List Value} {nn':Nat},(∀b∈fp,H' b=none)→∀b∈fp,vJ (qB X N scope cl C fp s H (ξ cl C)) [(D,{cls:= .type "list",dict:=none,data:= .seq its'.toArray nn'})] H' b:=fun {H' its' nn'} hn b hb=>by
   refine ⟨hn b hb,neC b (flow b hb),fstk b hb, .inl hb,fun x c e=>(hfp b hb).2.2.2.2.1 x c (csub x c e),fun p hp=> ?_⟩
   have hp':p.1=D:=by have q:p∈([]:List (Addr × Obj))++[(D,{cls:= .type "list",dict:=none,data:= .seq its'.toArray nn'})]:=hp; rw [xE,aU] at q; rw [q]
   rw [hp']; exact Ne.symm (dlow b (flow b hb))
  rcases turn i n ys σ3 H3 w3 with ⟨stop,fin⟩ | ⟨go,hsz,Nx,hN,step⟩
  ·refine thn (T.done (qB X N scope cl C fp s H (ξ cl C)) rfl rfl rfl rfl i _ s3 σ3 H3 (ξ cl C) I3 (fpX fr3) st3 stop) fun r s4 ⟨hr,I4⟩=> ?_
   subst hr; obtain ⟨m4,ns4,_⟩:=id I4.loc; have J0:Inv X pins σ H3 s4:=I.call' (ch:=fp) I4.os I4.base I4.hok I4.bare fun b hb=>⟨(hfp b hb).2.2.2.1,(hfp b hb).2.1,(hfp b hb).2.2.2.2.1,(hfp b hb).2.2.2.2.2⟩
   obtain ⟨pd,pn,_⟩:=I4.pin (D,_) (bC _ aR); have hLD:X.env.locals<D:=by rw [← hDD]; exact I.lt
   refine fin D C s4 pn I4.free hDC (eD I.sz (by rw [hDD]; exact hCle)) (hV (bI hLD hCle)) (fun x c e=>neC c (cexX x c e)) (fun p hp=>neC _ (pexX p hp)) (fun z=>absurd (I.low C z) (by rw [hDD]; exact Nat.not_lt.mpr hCle)) ⟨m4,ns4⟩ ?_; refine J0.track pn (by rw [← hDD]; exact I.sz) (hV hLD) (fun x c e=>dlow c (cexX x c e)) (fun p hp=>dlow _ (pexX p hp)) ?_; exact ⟨hlen,its,nn,rv3,pd⟩
  ·refine thn (T.item (qB X N scope cl C fp s H (ξ cl C)) rfl rfl rfl rfl i _ s3 σ3 H3 (ξ cl C) I3 (fpX fr3) st3 go) fun r s4 ⟨u,hr,h4⟩=> ?_
   subst hr; refine thn h4 fun _ s5 ⟨x,H5,I5,r5,y5,st5,fr5⟩=> ?_
   have I5':=I5.pinned (fpX fr5) (T.obj _ _ st5); refine thn (hg cl C _ s5 σ3 H5 x u _ I5' r5 (step x H5 y5)) fun _ s6 ⟨σ6,H6,I6,q6⟩=> ?_
   refine thn (ht cl C _ s6 σ6 H6 _ I6 q6) fun b s7 ⟨H7,I7,q7⟩=> ?_
   have tnK:∀ {σ7:St} {H7:Hp} {s7:Shared},Inv (qB X N scope cl C fp s H (ξ cl C)) ([(D,{cls:= .type "list",dict:=none,data:= .seq its.toArray nn})]++oD fp s5.heap) σ7 H7 s7→tn (i+1) s7.heap∧∀b∈fp,H7 b=none:=fun {σ7 H7 s7} I7=>by refine ⟨T.keep _ _ _ st5 fun b hb o e=>(I7.pin (b,o) (bC _ (bC _ (jQ hb e)))).1,fun b hb=> ?_⟩; obtain ⟨o,e,d⟩:=T.obj _ _ st5 b hb; exact (I7.pin (b,o) (bC _ (bC _ (jQ hb e)))).2.1
   cases b with
   | false=>have q7':Nx ys σ6 H7:=q7; obtain ⟨m',hm,w7⟩:=hN _ _ _ q7'; obtain ⟨t7,f7⟩:=tnK I7; exact ⟨m',hm,i+1,ys,σ6,H7,its,nn,I7.unpinned,t7,f7,rv3,hlen,w7⟩
   | true=>
    have q7':te σ6 H7 fun v H5=>Nx (ys++[v]) σ6 H5:=q7
    refine thn (he cl C _ s7 σ6 H7 _ I7 q7') fun y s8 ⟨v,H8,I8,r8,q8⟩=> ?_
    obtain ⟨m',hm,w8⟩:=hN _ _ _ q8; obtain ⟨pd,pn,pL,pf,pc⟩:=I8.pin (D,{cls:= .type "list",dict:=none,data:= .seq its.toArray nn}) (bC _ (dJ _ aR)); have hits:its.length=ys.length:=rv3.length.symm; refine wpAny_list_append_plain (items:=its.toArray) ⟨nn,pd⟩ (fun h9 pl9 sb9=> ?_) (by rw [bE,hits]; exact eX hsz); obtain ⟨n9,e9⟩:=pl9
    have e9':h9.get? D=some {cls:= .type "list",dict:=none,data:= .seq (its++[y]).toArray n9}:=by rw [e9]; simp
    have I8':Inv (qB X N scope cl C fp s H (ξ cl C)) (oD fp s5.heap) σ6 H8 s8:=I8.pins_of fun p hp=>I8.pin p (bC _ (bC _ hp))
    have I9:Inv (qB X N scope cl C fp s H (ξ cl C)) (oD fp s5.heap) σ6 H8 {s8 with heap:=h9,toks:=s8.toks}:=I8'.turned (it:=D) (fun b o hb e=>sb9.extBut b o hb e) pn hDC (.inr (by rw [← hDD]; exact aX _)) (fun x c e=>dlow c (cexi x c e)) fun p hp=>by
     have hp':p∈oD fp s5.heap:=by simpa [qB,cxB] using hp
     exact dlow _ (flow _ (sQ hp').1)
    have tn9:tn (i+1) h9:=T.keep _ _ _ st5 fun b hb o e=>(I9.pin (b,o) (bC _ (jQ hb e))).1
    have fr9:∀b∈fp,H8 b=none:=fun b hb=>by obtain ⟨o,e,d⟩:=T.obj _ _ st5 b hb; exact (I9.pin (b,o) (bC _ (jQ hb e))).2.1
    refine ⟨m',hm,i+1,ys++[v],σ6,H8,its++[y],n9,I9.pins_of fun p hp=> ?_,tn9,fr9,Vals.append rv3 (.cons r8 .nil),by rw [bK]; exact hsz,w8⟩; have hp':p=(D,{cls:= .type "list",dict:=none,data:= .seq (its++[y]).toArray n9}):=aU.mp hp; subst hp'; exact ⟨e9',pn,pL,pf,fun v z=>by cases z⟩
 exact codeAny_compStart_list (loop _ rfl) (T.self _ 0 _ _ _ (T.keep 0 _ _ st fun b hb o e=>old b o e) (loop _ rfl))
theorem comp_run {X:Cx} {pins:List (Addr × Obj)} {σ:St} {H:Hp} {s:Shared} {elt tg iter:Expr} {ifs:List Expr} {scope:Scope} {pos:Pos} {N:List Str} {cap:List (Option Nat)} {g:TG} {tt:TT} {te:TE} {J:It} {fp:List Addr} {it:Addr} {tn:Nat→Heap→Prop} {E:Value→Shared→Prop} {sc:Scope}
  (hc:X.calm=true) (hsc:X.env.scope=sc) (hcn:sV scope sc=true) (hcap:pC N X.N scope sc cap=true) (hk:scope.kind= .function)
  (I:Inv X pins σ H s) (T:Turn X.prog X.w X.K tg J fp it tn) (st:tn 0 s.heap) (hfp:∀b∈fp,vJ X pins H b)
  (hg:∀cl C,PG (cxB X N scope cl C fp s H) tg g) (ht:∀cl C pi s2 σ2 H2 Q,Inv (cxB X N scope cl C fp s H) pi σ2 H2 s2→tt σ2 H2 Q→wpAny (model X.prog X.w) X.A (forIn ifs true fun c r=>if r=true then do let ok ← isTrue c (compEnvC scope cl C X.env) (eval c (compEnvC scope cl C X.env)); pure (ForInStep.yield ok) else pure (ForInStep.yield r)) (TP (cxB X N scope cl C fp s H) pi σ2 Q) (fun _ _=>False) s2)
  (he:∀cl C,PE (cxB X N scope cl C fp s H) elt te) (W:Nat→Nat→List V→St→Hp→Prop) (m0:Nat) (w0:W 0 m0 [] (xJ cap σ) H)
  (RR:Value→Addr→Result→Shared→Prop)
  (turn:∀i m ys σb H2,W i m ys σb H2→
   (J.stop i H2∧∀D C s',H2 D=none→H2 C=none→D≠C→X.s₀.heap.objs.size≤C→C≠X.env.locals→(∀x c,X.env.cells.lookup x=some c→c≠C)→(∀p∈X.pn++pins,p.1≠C)→C∉frs X.stack→(∃m,s'.heap.Ns C m)→Inv X pins σ (upd H2 D (.lst ys)) s'→RR (.ref D) C (.ok .next) s')∨
   (J.go i H2∧ys.length<sizeLine∧∃Nx:List V→St→Hp→Prop,(∀ys' σ' H',Nx ys' σ' H'→∃m',m'<m∧W (i+1) m' ys' σ' H')∧
    ∀x H',J.yld i H2 x H'→g x σb H' fun σ2 H3=>tt σ2 H3 fun b H4=>if b=true then te σ2 H4 fun v H5=>Nx (ys++[v]) σ2 H5 else Nx ys σ2 H4)):
  wpAny (model X.prog X.w) X.A (newList []) (fun acc s₃=>wpAny (model X.prog X.w) X.A (newFunctionEnv scope X.env.globals (clo X.env.cells scope.names []) [] X.env.qual none .none (some X.env)) (fun cenv s₄=>
   codeAny (model X.prog X.w) X.A (.compStart (.ListComp elt [⟨tg,iter,ifs,0⟩] scope pos) 0 (.ref it) acc {cenv with scope:=relabel scope X.env}) (RR acc cenv.locals) s₄) E s₃) E s:=
 comp_runX (fun _ _ _ _=>False) (fun _ _ _ _ _=>False) hc hsc hcn hcap hk I T st hfp hg ht he W m0 w0 RR (fun _ _ _ _ z=>z.elim) (fun _ _ _ _ _ _ z=>z.elim) turn
end L2
namespace DL
open PySem PySem.Spec PyProof.Rows L2
noncomputable abbrev St:=L2.St
inductive D where
 | non | bl (b:Bool) | int (i:Int) | str (x:Str) | tup (ds:List D) | lst (ds:List D) | dic | scr (ns:List Int) | dki (ks:List Key) (ds:List D) | any (G:V→Hp→Prop)
mutual
noncomputable def Rep (K:aD) (H:Hp):D→V→Prop
 | .non,v=>v= .non
 | .bl b,v=>v= .bl b
 | .int i,v=>v= .int i
 | .str x,v=>v= .str x
 | .tup ds,v=>∃a xs,v= .ref a∧H a=some (.tup xs)∧RepL K H ds xs
 | .lst ds,v=>∃a xs,v= .ref a∧H a=some (.lst xs)∧RepL K H ds xs
 | .dic,v=>∃a,v= .ref a∧H a=some (.dK [])
 | .dki ks ds,v=>∃a xs,v= .ref a∧(∃ob,H a=some (.frz ob (.dK (ks.zip xs))))∧ks.length=ds.length∧RepL K H ds xs
 | .scr ns,v=>∃a,v= .ref a∧SqL K H a (ns.map V.int)
 | .any G,v=>(∃a,v= .ref a)∧∀H',Same H H'→G v H'
noncomputable def RepL (K:aD) (H:Hp):List D→List V→Prop
 | [],xs=>xs=[]
 | d::ds,xs=>∃y ys,xs=y::ys∧Rep K H d y∧RepL K H ds ys
end
mutual
theorem Rep.mono {K:aD} {H H':Hp} (h:Same H H'):∀ {d:D} {v:V},Rep K H d v→Rep K H' d v
 | .non,_,r=>by simpa only [Rep] using r
 | .bl _,_,r=>by simpa only [Rep] using r
 | .int _,_,r=>by simpa only [Rep] using r
 | .str _,_,r=>by simpa only [Rep] using r
 | .tup ds,v,r=>by simp only [Rep] at r ⊢; obtain ⟨a,xs,e,q,rl⟩:=r; exact ⟨a,xs,e,h _ _ q,RepL.mono h rl⟩
 | .lst ds,v,r=>by simp only [Rep] at r ⊢; obtain ⟨a,xs,e,q,rl⟩:=r; exact ⟨a,xs,e,h _ _ q,RepL.mono h rl⟩
 | .dki ks ds,v,r=>by simp only [Rep] at r ⊢; obtain ⟨a,xs,e,⟨ob,q⟩,l,rl⟩:=r; exact ⟨a,xs,e,⟨ob,h _ _ q⟩,l,RepL.mono h rl⟩
 | .dic,v,r=>by simp only [Rep] at r ⊢; obtain ⟨a,e,q⟩:=r; exact ⟨a,e,h _ _ q⟩
 | .any G,v,r=>by simp only [Rep] at r ⊢; exact ⟨r.1,fun H2 s=>r.2 H2 (h.trans s)⟩
 | .scr ns,v,r=>by simp only [Rep] at r ⊢; obtain ⟨a,e,q⟩:=r; exact ⟨a,e,h.seq q⟩
theorem RepL.mono {K:aD} {H H':Hp} (h:Same H H'):∀ {ds:List D} {xs:List V},RepL K H ds xs→RepL K H' ds xs
 | [],_,r=>by simpa only [RepL] using r
 | d::ds,xs,r=>by simp only [RepL] at r ⊢; obtain ⟨y,ys,e,q,rl⟩:=r; exact ⟨y,ys,e,Rep.mono h q,RepL.mono h rl⟩
end
theorem RepL.len {K:aD} {H:Hp}:∀ {ds:List D} {xs:List V},RepL K H ds xs→xs.length=ds.length
 | [],_,r=>by simp only [RepL] at r; rw [r]; rfl
 | d::ds,xs,r=>by simp only [RepL] at r; obtain ⟨y,ys,rfl,_,q⟩:=r; simp only [cM,RepL.len q]
theorem RepL.get {K:aD} {H:Hp}:∀ {ds:List D} {xs:List V} {i:Nat} {d:D},RepL K H ds xs→ds[i]? =some d→∃v,xs[i]? =some v∧Rep K H d v
 | [],_,i,d,r,e=>by simp at e
 | d'::ds,xs,i,d,r,e=>by
  simp only [RepL] at r; obtain ⟨y,ys,rfl,q,rl⟩:=r; cases i with
  | zero=>simp at e; subst e; exact ⟨y,rfl,q⟩
  | succ i=>
   have e':ds[i]? =some d:=by simpa using e
   obtain ⟨v,h1,h2⟩:=RepL.get rl e'; exact ⟨v,by simpa using h1,h2⟩
theorem RepL.app {K:aD} {H:Hp}:∀ {ds es:List D} {xs ys:List V},RepL K H ds xs→RepL K H es ys→RepL K H (ds++es) (xs++ys)
 | [],es,xs,ys,r,q=>by simp only [RepL] at r; subst r; exact q
 | d::ds,es,xs,ys,r,q=>by simp only [RepL] at r; obtain ⟨y,zs,rfl,a,rl⟩:=r; show RepL K H (d::(ds++es)) (y::(zs++ys)); simp only [RepL]; exact ⟨y,_,rfl,a,RepL.app rl q⟩
theorem RepL.nil {K:aD} {H:Hp}:RepL K H [] []:=by simp only [RepL]
theorem RepL.cons {K:aD} {H:Hp} {d:D} {ds:List D} {x:V} {xs:List V} (a:Rep K H d x) (b:RepL K H ds xs):RepL K H (d::ds) (x::xs):=by simp only [RepL]; exact ⟨x,xs,rfl,a,b⟩
theorem RepL.one {K:aD} {H:Hp} {d:D} {x:V} (a:Rep K H d x):RepL K H [d] [x]:= .cons a .nil
theorem RepL.uncons {K:aD} {H:Hp} {d:D} {ds:List D} {xs:List V} (r:RepL K H (d::ds) xs):∃y ys,xs=y::ys∧Rep K H d y∧RepL K H ds ys:=by simpa only [RepL] using r
theorem RepL.take {K:aD} {H:Hp}:∀ {ds:List D} {xs:List V} (n:Nat),RepL K H ds xs→RepL K H (ds.take n) (xs.take n)
 | _,_,0,_=>by simp only [List.take_zero]; exact .nil
 | [],xs,n+1,r=>by simp only [RepL] at r; subst r; exact .nil
 | d::ds,xs,n+1,r=>by obtain ⟨y,ys,rfl,a,rl⟩:=r.uncons; simp only [List.take_succ_cons]; exact .cons a (RepL.take n rl)
theorem RepL.drop {K:aD} {H:Hp}:∀ {ds:List D} {xs:List V} (n:Nat),RepL K H ds xs→RepL K H (ds.drop n) (xs.drop n)
 | _,_,0,r=>by simpa only [List.drop_zero] using r
 | [],xs,n+1,r=>by simp only [RepL] at r; subst r; exact .nil
 | d::ds,xs,n+1,r=>by obtain ⟨y,ys,rfl,a,rl⟩:=r.uncons; simp only [List.drop_succ_cons]; exact RepL.drop n rl
theorem RepL.ints {K:aD} {H:Hp}:∀ {ns:List Int} {xs:List V},RepL K H (ns.map D.int) xs→xs=ns.map V.int
 | [],xs,r=>by simpa only [fO,RepL] using r
 | n::ns,xs,r=>by rw [bQ] at r; obtain ⟨y,ys,rfl,a,rl⟩:=r.uncons; simp only [Rep] at a; rw [a,RepL.ints rl]; rfl
inductive Slot where
 | un | val (d:D) | own (l:Addr) (ds:List D) | gh (d:D) (G:V→Hp→Prop) | od (l:Addr) (ks:List Key) (ds:List D) | ox (ls:List Addr) (G:V→Hp→Hp→Prop)
noncomputable def Wr (l:Addr):HO→Prop
 | .lst _=>True
 | .dK _=>True
 | .ext φ=>∃o:Obj,φ=(fun h=>h.get? l=some o)∧∀v,o.data≠ .cell v
 | _=>False
noncomputable def iJ (K:aD) (F H:Hp):Slot→Option V→Prop
 | .un,_=>True
 | .val d,o=>∃v,o=some v∧Rep K F d v
 | .own l ds,o=>o=some (.ref l)∧F l=none∧∃xs,H l=some (.lst xs)∧RepL K F ds xs
 | .od l ks ds,o=>o=some (.ref l)∧F l=none∧∃xs,H l=some (.dK (ks.zip xs))∧ks.length=ds.length∧RepL K F ds xs
 | .gh d G,o=>∃v,o=some v∧Rep K F d v∧∀F',Same F F'→G v F'
 | .ox ls G,o=>∃v,o=some v∧(∀l∈ls,F l=none∧∃ob,H l=some ob∧Wr l ob)∧∀F' H',Same F F'→(∀l∈ls,∀ob,H l=some ob→H' l=some ob)→G v F' H'
noncomputable def SlotsOk (K:aD) (F H:Hp):List Slot→St→Prop
 | [],σ=>σ=[]
 | z::zs,σ=>∃o r,σ=o::r∧iJ K F H z o∧SlotsOk K F H zs r
noncomputable def iA:Slot→List Addr
 | .own l _=>[l]
 | .od l _ _=>[l]
 | .ox ls _=>ls
 | _=>[]
noncomputable def dC (sd:List Slot):List Addr:=sd.flatMap iA
theorem qR (z:Slot) (zs:List Slot):dC (z::zs)=iA z++dC zs:=rfl
structure StF (K:aD) (H₀ F H:Hp) (σ:St) (sd:List Slot):Prop where
 base:Same H₀ F
 sub:Same F H
 smp:Smp H
 slots:SlotsOk K F H sd σ
 nd:(dC sd).Nodup
section
variable {K:aD} {H₀ F F' H H':Hp} {σ:St} {sd:List Slot}
theorem SlotsOk.get:∀ {sd:List Slot} {σ:St} {i:Nat} {z:Slot},SlotsOk K F H sd σ→sd[i]? =some z→∃o,σ[i]? =some o∧iJ K F H z o
 | [],_,_,_,_,e=>by simp at e
 | z'::zs,σ,i,z,h,e=>by
  obtain ⟨o,r,rfl,a,b⟩:=h; cases i with
  | zero=>simp at e; subst e; exact ⟨o,rfl,a⟩
  | succ i=>obtain ⟨o',h1,h2⟩:=SlotsOk.get (i:=i) b (by simpa using e); exact ⟨o',by simpa using h1,h2⟩
theorem SlotsOk.set {z:Slot} {o:Option V} (q:iJ K F H z o):∀ {sd:List Slot} {σ:St} (i:Nat),SlotsOk K F H sd σ→SlotsOk K F H (sd.set i z) (σ.set i o)
 | [],_,_,h=>by have h:_=_:=h; subst h; rfl
 | z'::zs,σ,i,h=>by
  obtain ⟨o',r,rfl,a,b⟩:=h; cases i with
  | zero=>exact ⟨o,r,rfl,q,b⟩
  | succ i=>exact ⟨o',_,rfl,a,SlotsOk.set q i b⟩
theorem SlotsOk.mono (hF:Same F F'):∀ {sd:List Slot} {σ:St},(∀l∈dC sd,F' l=none∧∀xs,H l=some xs→H' l=some xs)→SlotsOk K F H sd σ→SlotsOk K F' H' sd σ
 | [],_,_,h=>h
 | z::zs,σ,ho,h=>by
  obtain ⟨o,r,rfl,a,b⟩:=h; refine ⟨o,r,rfl, ?_,SlotsOk.mono hF (fun l hl=>ho l ?_) b⟩
  ·cases z with
   | un=>trivial
   | val d=>obtain ⟨v,e,q⟩:=a; exact ⟨v,e,q.mono hF⟩
   | gh d G=>obtain ⟨v,e,q,g⟩:=a; exact ⟨v,e,q.mono hF,fun F2 s2=>g F2 (hF.trans s2)⟩
   | own l ds=>obtain ⟨e,n,xs,q,rl⟩:=a; have:=ho l (by simp [qR,iA]); exact ⟨e,this.1,xs,this.2 _ q,rl.mono hF⟩
   | od l ks ds=>obtain ⟨e,n,xs,q,ln,rl⟩:=a; have:=ho l (by simp [qR,iA]); exact ⟨e,this.1,xs,this.2 _ q,ln,rl.mono hF⟩
   | ox ls G=>
    obtain ⟨v,e,h,g⟩:=a; have ho':∀l∈ls,F' l=none∧∀xs,H l=some xs→H' l=some xs:=fun l hl=>ho l (dJ _ hl)
    exact ⟨v,e,fun l hl=>⟨(ho' l hl).1,let ⟨ob,q,w⟩:=(h l hl).2; ⟨ob,(ho' l hl).2 _ q,w⟩⟩,fun F2 H2 s2 k=>g F2 H2 (hF.trans s2) fun l hl ob q=>k l hl ob ((ho' l hl).2 _ q)⟩
  ·exact bC _ hl
theorem SlotsOk.owns:∀ {sd:List Slot} {σ:St} {l:Addr},SlotsOk K F H sd σ→l∈dC sd→F l=none∧∃ob,H l=some ob∧Wr l ob
 | [],_,_,_,e=>by simp [dC] at e
 | z::zs,σ,l,h,e=>by
  obtain ⟨o,r,rfl,a,b⟩:=h
  rcases bU.mp (show l∈iA z++dC zs from e) with e | e
  ·cases z with
   | un=>cases e
   | val d=>cases e
   | gh d G=>cases e
   | own l' ds=>rw [aU.mp e]; obtain ⟨_,n,xs,q,_⟩:=a; exact ⟨n,_,q,trivial⟩
   | od l' ks ds=>rw [aU.mp e]; obtain ⟨_,n,xs,q,_⟩:=a; exact ⟨n,_,q,trivial⟩
   | ox ls G=>obtain ⟨v,_,h,_⟩:=a; exact h l e
  ·exact SlotsOk.owns b e
theorem StF.lay {p:Addr} {o:HO} (S:StF K H₀ F H σ sd) (hp:H p=none) (ho:SmpO o):StF K H₀ (upd F p o) (upd H p o) σ sd∧Same F (upd F p o):=by
 have fp:F p=none:=S.sub.free hp; have s1:Same F (upd F p o):=fun b u e=>by rw [cE (dE e fp)]; exact e
 refine ⟨⟨fun b u e=>s1 _ _ (S.base _ _ e),fun b u e=> ?_,fun b u e=> ?_,S.slots.mono s1 fun l hl=> ?_,S.nd⟩,s1⟩
 ·by_cases h:b=p
  ·subst h; rw [dD] at e ⊢; exact e
  ·rw [cE h] at e ⊢; exact S.sub _ _ e
 ·by_cases h:b=p
  ·subst h; rw [dD] at e; cases e; exact ho
  ·rw [cE h] at e; exact S.smp _ _ e
 ·obtain ⟨n,xs,q,_⟩:=S.slots.owns hl; have hne:l≠p:=dE q hp; exact ⟨by rw [cE hne]; exact n,fun ys e=>by rw [cE hne]; exact e⟩
theorem StF.layO {p:Addr} {xs:List V} (S:StF K H₀ F H σ sd) (hp:H p=none):StF K H₀ F (upd H p (.lst xs)) σ sd∧F p=none∧p∉dC sd:=by
 have fp:F p=none:=S.sub.free hp; refine ⟨⟨S.base,fun b u e=> ?_,fun b u e=> ?_,S.slots.mono (Same.refl _) fun l hl=> ?_,S.nd⟩,fp,fun hl=> ?_⟩
 ·rw [cE (dE e fp)]; exact S.sub _ _ e
 ·by_cases h:b=p
  ·subst h; rw [dD] at e; cases e; trivial
  ·rw [cE h] at e; exact S.smp _ _ e
 ·obtain ⟨n,ys,q,_⟩:=S.slots.owns hl; have hne:l≠p:=dE q hp; exact ⟨n,fun ys e=>by rw [cE hne]; exact e⟩
 ·obtain ⟨n,ys,q,_⟩:=S.slots.owns hl; rw [hp] at q; cases q
theorem StF.freeze {p:Addr} {xs:List V} (S:StF K H₀ F H σ sd) (hp:H p=some (.lst xs)) (fp:F p=none) (ho:p∉dC sd):StF K H₀ (upd F p (.lst xs)) H σ sd∧Same F (upd F p (.lst xs)):=by
 have s1:Same F (upd F p (.lst xs)):=fun b u e=>by rw [cE (dE e fp)]; exact e
 refine ⟨⟨fun b u e=>s1 _ _ (S.base _ _ e),fun b u e=> ?_,S.smp,S.slots.mono s1 fun l hl=> ?_,S.nd⟩,s1⟩
 ·by_cases h:b=p
  ·subst h; rw [dD] at e; rw [hp]; exact e
  ·rw [cE h] at e; exact S.sub _ _ e
 ·obtain ⟨n,ys,q,_⟩:=S.slots.owns hl; have hne:l≠p:=fun z=>ho (z▸hl)
  exact ⟨by rw [cE hne]; exact n,fun ys e=>e⟩
theorem SlotsOk.len:∀ {sd:List Slot} {σ:St},SlotsOk K F H sd σ→σ.length=sd.length
 | [],_,h=>by have h:_=_:=h; rw [h]; rfl
 | z::zs,σ,h=>by obtain ⟨o,r,rfl,_,b⟩:=h; simp [SlotsOk.len b]
end
inductive R where
 | val (d:D) | own (ds:List D) | bor (ds:List D) | pr (d:D) (ls:List D) | ox (G:V→List Addr→Hp→Hp→Prop)
noncomputable def LOk (K:aD) (F H:Hp) (sd:List Slot) (v:V) (ds:List D):Prop:=
 ∃l xs,v= .ref l∧H l=some (.lst xs)∧RepL K F ds xs∧(F l=some (.lst xs)∨Slot.own l ds∈sd)
noncomputable def ResOk (K:aD) (F H:Hp) (sd:List Slot):R→V→Prop
 | .val d,v=>Rep K F d v
 | .own ds,v=>∃l xs,v= .ref l∧F l=none∧H l=some (.lst xs)∧RepL K F ds xs∧l∉dC sd
 | .bor ds,v=>LOk K F H sd v ds
 | .pr d ls,v=>∃t l xs y,v= .ref t∧F t=some (.tup [y, .ref l])∧Rep K F d y∧F l=none∧H l=some (.lst xs)∧RepL K F ls xs∧l∉dC sd
 | .ox G,v=>∃ls:List Addr,ls.Nodup∧(∀l∈ls,F l=none∧(∃ob,H l=some ob∧Wr l ob)∧l∉dC sd)∧∀F' H',Same F F'→(∀l∈ls,∀ob,H l=some ob→H' l=some ob)→G v ls F' H'
noncomputable def R.keeps:R→Prop
 | .own _=>False
 | .pr _ _=>False
 | .ox _=>False
 | _=>True
section
variable {K:aD} {H₀ F F' H H':Hp} {σ:St} {sd:List Slot} {r:R} {v:V}
theorem ResOk.keep (hr:r.keeps) (h:ResOk K F H sd r v) (S':StF K H₀ F' H' σ sd) (s:Same F F'):ResOk K F' H' sd r v:=by
 cases r with
 | val d=>exact Rep.mono s h
 | own ds=>exact hr.elim
 | pr d ls=>exact hr.elim
 | ox G=>exact hr.elim
 | bor ds=>
  obtain ⟨l,xs,e,hl,rl,q⟩:=h
  rcases q with q | q
  ·exact ⟨l,xs,e,S'.sub _ _ (s _ _ q),rl.mono s, .inl (s _ _ q)⟩
  ·obtain ⟨i,hi⟩:=fH q; obtain ⟨o,_,e2,_,ys,h1,h2⟩:=S'.slots.get hi; exact ⟨l,ys,e,h1,h2, .inr q⟩
end
structure PEd (X:Cx) (sd:List Slot) (e:Expr) (r:R):Prop where
 run:∀ (σ:St) (F H:Hp),StF X.K X.B₀ F H σ sd→
 wE X e σ H fun v H'=>∃F',StF X.K X.B₀ F' H' σ sd∧Same F F'∧ResOk X.K F' H' sd r v
instance {X:Cx} {sd:List Slot} {e:Expr} {r:R}:CoeFun (PEd X sd e r) (fun _=>∀ (σ:St) (F H:Hp),StF X.K X.B₀ F H σ sd→
 wE X e σ H fun v H'=>∃F',StF X.K X.B₀ F' H' σ sd∧Same F F'∧ResOk X.K F' H' sd r v):=⟨PEd.run⟩
structure PTd (X:Cx) (sd:List Slot) (e:Expr) (b:Bool):Prop where
 run:∀ (σ:St) (F H:Hp),StF X.K X.B₀ F H σ sd→
 wT X e σ H fun c H'=>c=b∧∃F',StF X.K X.B₀ F' H' σ sd∧Same F F'
instance {X:Cx} {sd:List Slot} {e:Expr} {b:Bool}:CoeFun (PTd X sd e b) (fun _=>∀ (σ:St) (F H:Hp),StF X.K X.B₀ F H σ sd→
 wT X e σ H fun c H'=>c=b∧∃F',StF X.K X.B₀ F' H' σ sd∧Same F F'):=⟨PTd.run⟩
structure PWd (X:Cx) (sd:List Slot) (e:Expr) (b:Bool):Prop where
 run:∀ (σ:St) (F H:Hp),StF X.K X.B₀ F H σ sd→
 wW X e σ H fun c H'=>c=b∧∃F',StF X.K X.B₀ F' H' σ sd∧Same F F'
instance {X:Cx} {sd:List Slot} {e:Expr} {b:Bool}:CoeFun (PWd X sd e b) (fun _=>∀ (σ:St) (F H:Hp),StF X.K X.B₀ F H σ sd→
 wW X e σ H fun c H'=>c=b∧∃F',StF X.K X.B₀ F' H' σ sd∧Same F F'):=⟨PWd.run⟩
inductive RsOk (K:aD) (F H:Hp) (sd:List Slot):List R→List V→Prop
 | nil:RsOk K F H sd [] []
 | cons {r v rs vs}:ResOk K F H sd r v→RsOk K F H sd rs vs→RsOk K F H sd (r::rs) (v::vs)
structure PAd (X:Cx) (sd:List Slot) (es:List Expr) (rs:List R):Prop where
 run:∀ (σ:St) (F H:Hp),StF X.K X.B₀ F H σ sd→
 wA X es σ H fun vs H'=>∃F',StF X.K X.B₀ F' H' σ sd∧Same F F'∧RsOk X.K F' H' sd rs vs
instance {X:Cx} {sd:List Slot} {es:List Expr} {rs:List R}:CoeFun (PAd X sd es rs) (fun _=>∀ (σ:St) (F H:Hp),StF X.K X.B₀ F H σ sd→
 wA X es σ H fun vs H'=>∃F',StF X.K X.B₀ F' H' σ sd∧Same F F'∧RsOk X.K F' H' sd rs vs):=⟨PAd.run⟩
structure jP where
 nx:List Slot→Prop
 rt:R→Prop
 bk:List Slot→Prop:=fun _=>False
 ct:List Slot→Prop:=fun _=>False
noncomputable def RetOk (K:aD) (H₀ H:Hp) (r:R) (v:V):Prop:=∃F,Same H₀ F∧Same F H∧Smp H∧ResOk K F H [] r v
noncomputable def lft (X:Cx) (F₀:Hp) (E:jP):uF where
 nx:=fun σ H=>∃sd F,StF X.K X.B₀ F H σ sd∧Same F₀ F∧E.nx sd
 rt:=fun v H=>∃r,RetOk X.K X.B₀ H r v∧E.rt r
 bk:=fun σ H=>∃sd F,StF X.K X.B₀ F H σ sd∧Same F₀ F∧E.bk sd
 ct:=fun σ H=>∃sd F,StF X.K X.B₀ F H σ sd∧Same F₀ F∧E.ct sd
structure PSd (X:Cx) (sd:List Slot) (sts:List Stmt) (E:jP):Prop where
 run:∀ (σ:St) (F H:Hp),StF X.K X.B₀ F H σ sd→wSs X sts (lft X F E) σ H
instance {X:Cx} {sd:List Slot} {sts:List Stmt} {E:jP}:CoeFun (PSd X sd sts E) (fun _=>∀ (σ:St) (F H:Hp),StF X.K X.B₀ F H σ sd→wSs X sts (lft X F E) σ H):=⟨PSd.run⟩
structure PSd1 (X:Cx) (sd:List Slot) (st:Stmt) (E:jP):Prop where
 run:∀ (σ:St) (F H:Hp),StF X.K X.B₀ F H σ sd→wS X st (lft X F E) σ H
instance {X:Cx} {sd:List Slot} {st:Stmt} {E:jP}:CoeFun (PSd1 X sd st E) (fun _=>∀ (σ:St) (F H:Hp),StF X.K X.B₀ F H σ sd→wS X st (lft X F E) σ H):=⟨PSd1.run⟩
section
variable {X:Cx} {sd:List Slot} {e a b c:Expr} {es:List Expr} {pos:Pos} {r ra rb:R} {d:D} {ds:List D}
theorem PEd.val (h:PEd X sd e (.own ds)):PEd X sd e (.val (.lst ds)):= .mk fun σ F H S=>(h σ F H S).imp fun v H' ⟨F',S',s,l,xs,e,n,q,rl,no⟩=>by obtain ⟨S2,s2⟩:=S'.freeze q n no; refine ⟨_,S2,s.trans s2, ?_⟩; show Rep _ _ _ _; simp only [Rep]; exact ⟨l,xs,e,dD,rl.mono s2⟩
theorem PEd.bor (h:PEd X sd e (.val (.lst ds))):PEd X sd e (.bor ds):= .mk fun σ F H S=>(h σ F H S).imp fun v H' ⟨F',S',s,q⟩=>by have q:Rep _ _ _ _:=q; simp only [Rep] at q; obtain ⟨l,xs,e,q,rl⟩:=q; exact ⟨F',S',s,l,xs,e,S'.sub _ _ q,rl, .inl q⟩
theorem aE (i:Nat) {x:Str} (hs:sd[i]? =some (.val d)) (h:PE X (.Name x pos) (lY i)):PEd X sd (.Name x pos) (.val d):= .mk fun σ F H S=>h.to (by
 obtain ⟨o,h1,v,h2,q⟩:=S.slots.get hs
 exact ⟨v,by rw [h1,h2],F,S,Same.refl _,q⟩)
theorem oI (i:Nat) {x:Str} {l:Addr} (hs:sd[i]? =some (.own l ds)) (h:PE X (.Name x pos) (lY i)):PEd X sd (.Name x pos) (.bor ds):= .mk fun σ F H S=>h.to (by
 obtain ⟨o,h1,h2,n,xs,q,rl⟩:=S.slots.get hs
 exact ⟨.ref l,by rw [h1,h2],F,S,Same.refl _,l,xs,rfl,q,rl, .inr (aY hs)⟩)
theorem bF {i j}:PEd X sd (.Constant (.int i) j pos) (.val (.int i)):= .mk fun σ F H S=>pe_int.to ⟨F,S,Same.refl _,by simp only [ResOk,Rep]⟩
theorem pd_bl {i j}:PEd X sd (.Constant (.bool i) j pos) (.val (.bl i)):= .mk fun σ F H S=>pe_bl.to ⟨F,S,Same.refl _,by simp only [ResOk,Rep]⟩
theorem pd_non {j}:PEd X sd (.Constant .none j pos) (.val .non):= .mk fun σ F H S=>pe_non.to ⟨F,S,Same.refl _,by simp only [ResOk,Rep]⟩
theorem eI {i j}:PEd X sd (.Constant (.str i) j pos) (.val (.str i)):= .mk fun σ F H S=>pe_str.to ⟨F,S,Same.refl _,by simp only [ResOk,Rep]⟩
theorem pd_globI {x:Str} {i:Int} {u:Value} (hg:Gl X x) (hm:X.mg x=some u) (ru:RelV (.int i) u) (hd:(x==("__debug__":Str))=false:=by decide):PEd X sd (.Name x pos) (.val (.int i)):= .mk fun σ F H S=>(pe_glob hg hm ru hd).to ⟨F,S,Same.refl _,by simp only [ResOk,Rep]⟩
theorem bD:PAd X sd [] []:= .mk fun σ F H S=>pa_nil.to ⟨F,S,Same.refl _, .nil⟩
theorem aH {rs:List R} (h1:PEd X sd e r) (h2:PAd X sd es rs) (hk:r.keeps:=by trivial) (hs:starEach (e::es) X.env=(false,eval e X.env)::starEach es X.env:=by rfl):PAd X sd (e::es) (r::rs):= .mk fun σ F H S=>(gR gS zS hs).to ((h1 σ F H S).imp fun v H1 ⟨F1,S1,s1,q1⟩=>(h2 σ F1 H1 S1).imp fun vs H2 ⟨F2,S2,s2,q2⟩=>⟨F2,S2,s1.trans s2, .cons (q1.keep hk S2 s2) q2⟩)
theorem RsOk.vals {K:aD} {F H:Hp}:∀ {ds:List D} {vs:List V},RsOk K F H sd (ds.map R.val) vs→RepL K F ds vs
 | [],_, .nil=> .nil
 | _::_,_, .cons q t=> .cons q (RsOk.vals t)
theorem gA {x1} (h:PAd X sd es (ds.map R.val)) (hl:ds.length≤1000):PEd X sd (.Tuple es x1 pos) (.val (.tup ds)):= .mk fun σ F H S=>
 (pe_tup zS).to ((h σ F H S).imp fun vs H1 ⟨F1,S1,s1,q1⟩=>by
  have rl:=q1.vals; refine ⟨by rw [rl.len]; exact eX (gW hl),fun p hp=> ?_⟩; obtain ⟨S2,s2⟩:=S1.lay (o:= .tup vs) hp trivial; refine ⟨_,S2,s1.trans s2, ?_⟩; simp only [ResOk,Rep]
  exact ⟨p,vs,rfl,dD,rl.mono s2⟩)
theorem jN (h:PAd X sd es (ds.map R.val)) (hl:ds.length≤1000):PEd X sd (.List es pos) (.own ds):= .mk fun σ F H S=>
 (pe_lst zS).to ((h σ F H S).imp fun vs H1 ⟨F1,S1,s1,q1⟩=>by
  have rl:=q1.vals; refine ⟨by rw [rl.len]; exact eX (gW hl),fun p hp=> ?_⟩; obtain ⟨S2,fp,no⟩:=S1.layO (xs:=vs) hp
  exact ⟨_,S2,s1,p,vs,rfl,fp,dD,rl,no⟩)
theorem pd_op2 {op:Operator} {r2:R2} (ho:OpR X (binaryOp op) r2) (ha:PEd X sd a ra) (hb:PEd X sd b rb) (hk:ra.keeps)
  (h:∀ (σ:St) (F H:Hp) (v u:V) (Q:VK),StF X.K X.B₀ F H σ sd→ResOk X.K F H sd ra v→ResOk X.K F H sd rb u→(∀w F' H',StF X.K X.B₀ F' H' σ sd→Same F F'→ResOk X.K F' H' sd r w→Q w H')→r2 v u H Q):
  PEd X sd (.BinOp a op b pos) r:= .mk fun σ F H S=>
 (pe_op ho gS gS).to ((ha σ F H S).imp fun v H1 ⟨F1,S1,s1,q1⟩=>(hb σ F1 H1 S1).imp fun u H2 ⟨F2,S2,s2,q2⟩=>h σ F2 H2 v u _ S2 (q1.keep hk S2 s2) q2 fun w F' H' S' s' q'=>⟨F',S',(s1.trans s2).trans s',q'⟩)
theorem pd_cmp2 {op:CmpOp} {r2:R2} (ho:OpR X (compareOp op) r2) (ha:PEd X sd a ra) (hb:PEd X sd b rb) (hk:ra.keeps) (hm:behindInMarks op b=false) {k:Bool}
  (h:∀ (σ:St) (F H:Hp) (v u:V) (Q:VK),StF X.K X.B₀ F H σ sd→ResOk X.K F H sd ra v→ResOk X.K F H sd rb u→(∀F' H',StF X.K X.B₀ F' H' σ sd→Same F F'→Q (.bl k) H')→r2 v u H Q):
  PEd X sd (.Compare a [op] [b] pos) (.val (.bl k)):= .mk fun σ F H S=>
 (pe_cmpR ho gS gS hm).to ((ha σ F H S).imp fun v H1 ⟨F1,S1,s1,q1⟩=>(hb σ F1 H1 S1).imp fun u H2 ⟨F2,S2,s2,q2⟩=>h σ F2 H2 v u _ S2 (q1.keep hk S2 s2) q2 fun F' H' S' s'=>⟨F',S',(s1.trans s2).trans s',by simp only [ResOk,Rep]⟩)
theorem kG {k:Bool} (h:PEd X sd e (.val (.bl k))) (he:∀whole,isTrue e X.env whole=(do let v ← whole; standAt e.pos; holding [v] (truthy v)):=by intro _; rfl):PTd X sd e k:= .mk fun σ F H S=>
 (pt_val gS he).to ((h σ F H S).imp fun v H1 ⟨F1,S1,s1,q1⟩=>by
  simp only [ResOk,Rep] at q1
  exact ⟨k,q1,rfl,F1,S1,s1⟩)
theorem lM {op:CmpOp} {r2:R2} (ho:OpR X (compareOp op) r2) (ha:PEd X sd a ra) (hb:PEd X sd b rb) (hk:ra.keeps) (hm:behindInMarks op b=false) {k:Bool}
  (h:∀ (σ:St) (F H:Hp) (v u:V) (Q:VK),StF X.K X.B₀ F H σ sd→ResOk X.K F H sd ra v→ResOk X.K F H sd rb u→(∀F' H',StF X.K X.B₀ F' H' σ sd→Same F F'→Q (.bl k) H')→r2 v u H Q):
  PTd X sd (.Compare a [op] [b] pos) k:= .mk fun σ F H S=>
 (vB ho gS gS hm).to ((ha σ F H S).imp fun v H1 ⟨F1,S1,s1,q1⟩=>(hb σ F1 H1 S1).imp fun u H2 ⟨F2,S2,s2,q2⟩=>h σ F2 H2 v u _ S2 (q1.keep hk S2 s2) q2 fun F' H' S' s'=>⟨k,rfl,rfl,F',S',(s1.trans s2).trans s'⟩)
end
section
variable {X:Cx} {sd:List Slot} {e a b c:Expr} {es:List Expr} {pos:Pos} {r ra rb:R} {d:D} {ds:List D} {st:Stmt} {rest:List Stmt} {E:jP}
theorem wS.imp {D D':uF} {σ:St} {H:Hp} (h:wS X st D σ H) (k1:∀σ H,D.nx σ H→D'.nx σ H) (k2:∀v H,D.rt v H→D'.rt v H) (k3:∀σ H,D.bk σ H→D'.bk σ H) (k4:∀σ H,D.ct σ H→D'.ct σ H):wS X st D' σ H:=
 fun pins s I=>thn (h pins s I) fun f s' q=>q.imp k1 k2 k3 k4
theorem iW {k:Bool} (h:PTd X sd e k):PTd X sd (.UnaryOp .Not e pos) (!k):= .mk fun σ F H S=>(pt_not pt_w).to ((h σ F H S).imp fun c H' ⟨e,q⟩=>⟨by rw [e],q⟩)
theorem jZ {k:Bool} (h:PTd X sd a k):PWd X sd (.BoolOp .Or [a] pos) k:= .mk fun σ F H S=>(pw_or1 pt_w).to (h σ F H S)
theorem jC {k j:Bool} (h:PTd X sd a k) (h2:k=false→PWd X sd (.BoolOp .Or (b::es) pos) j):PWd X sd (.BoolOp .Or (a::b::es) pos) (k || j):= .mk fun σ F H S=>
 (pw_or pt_w pw_w).to ((h σ F H S).imp fun c H' ⟨e,F',S',s'⟩=>by
  subst e; cases c with
  | true=>exact iteT ⟨rfl,F',S',s'⟩
  | false=>exact iteF ((h2 rfl σ F' H' S').imp fun c2 H2 ⟨e2,F2,S2,s2⟩=>⟨by rw [e2]; rfl,F2,S2,s'.trans s2⟩))
theorem PWd.pt {k:Bool} (h:PWd X sd e k):PTd X sd e k:= .mk fun σ F H S=>(pw_w).pt.to (h σ F H S)
theorem pd_one {op} {r:R} (h:PEd X sd a r):PEd X sd (.BoolOp op [a] pos) r:= .mk fun σ F H S=>(pe_one gS).to (h σ F H S)
theorem pd_and {k j:Bool} (h:PEd X sd a (.val (.bl k))) (h2:k=true→PEd X sd (.BoolOp .And (b::es) pos) (.val (.bl j))):PEd X sd (.BoolOp .And (a::b::es) pos) (.val (.bl (k && j))):= .mk fun σ F H S=>
 (pe_and gS gS).to ((h σ F H S).imp fun v H' ⟨F',S',s',q⟩=>by
  simp only [ResOk,Rep] at q; subst q; refine ⟨k,rfl, ?_⟩; cases k with
  | false=>exact iteF ⟨F',S',s',by simp only [ResOk,Rep,yT]⟩
  | true=>exact iteT ((h2 rfl σ F' H' S').imp fun v2 H2 ⟨F2,S2,s2,q2⟩=>⟨F2,S2,s'.trans s2,by simpa only [Bool.true_and] using q2⟩))
theorem pd_not {k:Bool} (h:PEd X sd a (.val (.bl k))):PEd X sd (.UnaryOp .Not a pos) (.val (.bl (!k))):= .mk fun σ F H S=>
 (pe_not gS).to ((h σ F H S).imp fun v H' ⟨F',S',s',q⟩=>by
  simp only [ResOk,Rep] at q
  exact ⟨k,q,F',S',s',by simp only [ResOk,Rep]⟩)
theorem gQ {op:Operator} {g:Int→Int→Int} {i j:Int} (ho:OpR X (binaryOp op) (rI0 fun i j=> .int (g i j))) (ha:PEd X sd a (.val (.int i))) (hb:PEd X sd b (.val (.int j))):PEd X sd (.BinOp a op b pos) (.val (.int (g i j))):=
 pd_op2 ho ha hb trivial fun σ F H v u Q S q1 q2 k=>by simp only [ResOk,Rep] at q1 q2; exact ⟨i,j,q1,q2,k _ F H S (Same.refl _) (by simp only [ResOk,Rep])⟩
theorem dX {op:Operator} {g:Int→Int→Int} {C:Int→Int→Prop} {i j:Int} (ho:OpR X (binaryOp op) (rI C fun i j=> .int (g i j))) (ha:PEd X sd a (.val (.int i))) (hb:PEd X sd b (.val (.int j))) (hc:C i j):PEd X sd (.BinOp a op b pos) (.val (.int (g i j))):=
 pd_op2 ho ha hb trivial fun σ F H v u Q S q1 q2 k=>by simp only [ResOk,Rep] at q1 q2; exact ⟨i,j,q1,q2,hc,k _ F H S (Same.refl _) (by simp only [ResOk,Rep])⟩
theorem iY:OpR X (binaryOp .Mult) (rI IntMulOk fun i j=> .int (i * j)):=opI fun _ _ _ _ _ _ _ hc q=>mul_int q hc
theorem rA:OpR X (binaryOp .FloorDiv) (rI (fun _ j=>0<j∧j.natAbs.log2<9000) fun i j=> .int (i / j)):=opI fun i j _ _ _ _ _ hc q=>by have h1:(0:Int)<j:=hc.1; exact floordiv_int (by omega) (by rw [Int.fdiv_eq_ediv_of_nonneg i (by omega)]; exact q) (.inl (PyProof.noPylong_of_log2 hc.2))
theorem oE {op:CmpOp} {g:Int→Int→Bool} {i j:Int} (ho:OpR X (compareOp op) (rI0 fun i j=> .bl (g i j))) (ha:PEd X sd a (.val (.int i))) (hb:PEd X sd b (.val (.int j))) (hm:behindInMarks op b=false):PTd X sd (.Compare a [op] [b] pos) (g i j):=
 lM ho ha hb trivial hm fun σ F H v u Q S q1 q2 k=>by simp only [ResOk,Rep] at q1 q2; exact ⟨i,j,q1,q2,k F H S (Same.refl _)⟩
noncomputable def flt:D→Option V
 | .non=>some .non
 | .bl b=>some (.bl b)
 | .int i=>some (.int i)
 | .str x=>some (.str x)
 | _=>none
theorem rO {K:aD} {H:Hp} {d:D} {x v:V} (h:flt d=some x) (q:Rep K H d v):v=x:=by
 cases d with
 | non=>simp only [Rep] at q; simp only [flt] at h; rw [q]; exact dN.inj h
 | bl=>simp only [Rep] at q; simp only [flt] at h; rw [q]; exact dN.inj h
 | int=>simp only [Rep] at q; simp only [flt] at h; rw [q]; exact dN.inj h
 | str=>simp only [Rep] at q; simp only [flt] at h; rw [q]; exact dN.inj h
 | tup=>simp only [flt] at h; cases h
 | lst=>simp only [flt] at h; cases h
 | dic=>simp only [flt] at h; cases h
 | dki=>simp only [flt] at h; cases h
 | any=>simp only [flt] at h; cases h
 | scr=>simp only [flt] at h; cases h
theorem dO {d1 d2:D} {x y:V} {k:Bool} (ha:PEd X sd a (.val d1)) (hb:PEd X sd b (.val d2)) (h1:flt d1=some x) (h2:flt d2=some y) (hs:scal x y=true) (hk:decide (x=y)=k):PTd X sd (.Compare a [.Eq] [b] pos) k:=
 lM op_eq ha hb trivial (iU _) fun σ F H v u Q S q1 q2 kk=>by have e1:=rO h1 q1; have e2:=rO h2 q2; subst e1 e2; exact ⟨hs,by rw [hk]; exact kk F H S (Same.refl _)⟩
theorem ptd_neS {d1 d2:D} {x y:V} {k:Bool} (ha:PEd X sd a (.val d1)) (hb:PEd X sd b (.val d2)) (h1:flt d1=some x) (h2:flt d2=some y) (hs:scal x y=true) (hk:(!decide (x=y))=k):PTd X sd (.Compare a [.NotEq] [b] pos) k:=
 lM op_ne ha hb trivial (iU _) fun σ F H v u Q S q1 q2 kk=>by have e1:=rO h1 q1; have e2:=rO h2 q2; subst e1 e2; exact ⟨hs,by rw [hk]; exact kk F H S (Same.refl _)⟩
theorem ptd_eqI {i j:Int} (ha:PEd X sd a (.val (.int i))) (hb:PEd X sd b (.val (.int j))):PTd X sd (.Compare a [.Eq] [b] pos) (decide (i=j)):=dO ha hb rfl rfl rfl (by rw [rV,pY])
theorem uZ {i j:Int} (ha:PEd X sd a (.val (.int i))) (hb:PEd X sd b (.val (.int j))):PTd X sd (.Compare a [.NotEq] [b] pos) (!decide (i=j)):=ptd_neS ha hb rfl rfl rfl (by rw [rV,pY])
theorem dS {n:Nat} (ha:PEd X sd a (.val (.tup ds))) (hb:PEd X sd b (.val (.int (n:Int)))) (hd:ds[n]? =some d) (hs:pQ b):PEd X sd (.Subscript a b pos) (.val d):= .mk fun σ F H S=>
 (pe_ix ix_tup gS gS hs).to ((ha σ F H S).imp fun v H1 ⟨F1,S1,s1,q1⟩=>(hb σ F1 H1 S1).imp fun u H2 ⟨F2,S2,s2,q2⟩=>by
  have q1:=Rep.mono s2 q1; simp only [ResOk,Rep] at q1 q2; obtain ⟨p,xs,e1,hp,rl⟩:=q1; obtain ⟨w,hw,rw'⟩:=rl.get hd
  exact ⟨p,xs,(n:Int),w,e1,q2, .of (S2.sub _ _ hp),atI_nat hw,F2,S2,s1.trans s2,rw'⟩)
theorem sR {n:Nat} (ha:PEd X sd a (.bor ds)) (hb:PEd X sd b (.val (.int (n:Int)))) (hd:ds[n]? =some d) (hs:pQ b):PEd X sd (.Subscript a b pos) (.val d):= .mk fun σ F H S=>
 (pe_ix ix_list gS gS hs).to ((ha σ F H S).imp fun v H1 ⟨F1,S1,s1,q1⟩=>(hb σ F1 H1 S1).imp fun u H2 ⟨F2,S2,s2,q2⟩=>by
  obtain ⟨p,xs,e1,hp,rl,_⟩:=ResOk.keep (r:= .bor ds) trivial q1 S2 s2; simp only [ResOk,Rep] at q2; obtain ⟨w,hw,rw'⟩:=rl.get hd
  exact ⟨p,xs,(n:Int),w,e1,q2, .of hp,atI_nat hw,F2,S2,s1.trans s2,rw'⟩)
theorem pd_ixS {ns:List Int} {n:Nat} {z:Int} (ha:PEd X sd a (.val (.scr ns))) (hb:PEd X sd b (.val (.int (n:Int)))) (hd:ns[n]? =some z) (hs:pQ b):PEd X sd (.Subscript a b pos) (.val (.int z)):= .mk fun σ F H S=>
 (pe_ix ix_list gS gS hs).to ((ha σ F H S).imp fun v H1 ⟨F1,S1,s1,q1⟩=>(hb σ F1 H1 S1).imp fun u H2 ⟨F2,S2,s2,q2⟩=>by
  have q1:=Rep.mono (s2.trans S2.sub) q1; simp only [ResOk,Rep] at q1 q2; obtain ⟨p,e1,hp⟩:=q1
  exact ⟨p,_,(n:Int), .int z,e1,q2,hp,atI_nat (by rw [bG,hd]; rfl),F2,S2,s1.trans s2,by simp only [ResOk,Rep]⟩)
theorem pA {x:Str} {p:Pos} {id:String} {rr:List V→Hp→VK→Prop} {rs:List R} (hc:nQ X (.builtin id) rr) (hg:Gl X x) (hm:X.mg x=none) (hv:bootBuiltins x=some (.builtin id)) (ha:PAd X sd (e::es) rs)
  (h:∀ (σ:St) (F H:Hp) (vs:List V) (Q:VK),StF X.K X.B₀ F H σ sd→RsOk X.K F H sd rs vs→(∀w F' H',StF X.K X.B₀ F' H' σ sd→Same F F'→ResOk X.K F' H' sd r w→Q w H')→rr vs H Q)
  (hn:x≠"__name__":=by decide) (hdb:(x==("__debug__":Str))=false:=by decide) (he:starEach (e::es) X.env=(false,eval e X.env)::starEach es X.env:=by rfl) (hpl:(backTo pos (starEach es X.env)).any (·.1)=false:=by rfl):
  PEd X sd (.Call (.Name x p) (e::es) [] pos) r:= .mk fun σ F H S=>
 (rW hc hg hm hv zS hn hdb he hpl).to ((ha σ F H S).imp fun vs H1 ⟨F1,S1,s1,q1⟩=>h σ F1 H1 vs _ S1 q1 fun w F' H' S' s' q'=>⟨F',S',s1.trans s',q'⟩)
theorem sY {x:Str} {p:Pos} {T:String} {rr:List V→Hp→VK→Prop} {rs:List R} (hc:nQ X (.type T) rr) (hg:Gl X x) (hm:X.mg x=none) (hv:bootBuiltins x=some (.type T)) (ha:PAd X sd (e::es) rs)
  (h:∀ (σ:St) (F H:Hp) (vs:List V) (Q:VK),StF X.K X.B₀ F H σ sd→RsOk X.K F H sd rs vs→(∀w F' H',StF X.K X.B₀ F' H' σ sd→Same F F'→ResOk X.K F' H' sd r w→Q w H')→rr vs H Q)
  (hn:x≠"__name__":=by decide) (hdb:(x==("__debug__":Str))=false:=by decide) (he:starEach (e::es) X.env=(false,eval e X.env)::starEach es X.env:=by rfl) (hpl:(backTo pos (starEach es X.env)).any (·.1)=false:=by rfl):
  PEd X sd (.Call (.Name x p) (e::es) [] pos) r:= .mk fun σ F H S=>
 (pe_callTy hc hg hm hv zS hn hdb he hpl).to ((ha σ F H S).imp fun vs H1 ⟨F1,S1,s1,q1⟩=>h σ F1 H1 vs _ S1 q1 fun w F' H' S' s' q'=>⟨F',S',s1.trans s',q'⟩)
theorem uO {p:Pos} (hg:Gl X "len") (hm:X.mg "len"=none) (ha:PEd X sd e (.val (.tup ds))) (hst:starEach [e] X.env=(false,eval e X.env)::starEach [] X.env:=by rfl):PEd X sd (.Call (.Name "len" p) [e] [] pos) (.val (.int ds.length)):=
 pA (he:=hst) oJ hg hm PySem.boot_len (aH ha bD trivial hst) fun σ F H vs Q S q k=>by
  cases q with
  | cons q1 q2=>cases q2; simp only [ResOk,Rep] at q1; obtain ⟨p,xs,rfl,hp,rl⟩:=q1; refine ⟨p,xs,rfl, .inr (.of (S.sub _ _ hp)),k _ F H S (Same.refl _) ?_⟩; simp only [ResOk,Rep,rl.len]
theorem pO {p:Pos} (hg:Gl X "len") (hm:X.mg "len"=none) (ha:PEd X sd e (.bor ds)) (hst:starEach [e] X.env=(false,eval e X.env)::starEach [] X.env:=by rfl):PEd X sd (.Call (.Name "len" p) [e] [] pos) (.val (.int ds.length)):=
 pA (he:=hst) oJ hg hm PySem.boot_len (aH ha bD trivial hst) fun σ F H vs Q S q k=>by
  cases q with
  | cons q1 q2=>cases q2; obtain ⟨p,xs,rfl,hp,rl,_⟩:=q1; refine ⟨p,xs,rfl, .inl (.of hp),k _ F H S (Same.refl _) ?_⟩; simp only [ResOk,Rep,rl.len]
theorem pd_lenS {p:Pos} {ns:List Int} (hg:Gl X "len") (hm:X.mg "len"=none) (ha:PEd X sd e (.val (.scr ns))) (hst:starEach [e] X.env=(false,eval e X.env)::starEach [] X.env:=by rfl):PEd X sd (.Call (.Name "len" p) [e] [] pos) (.val (.int ns.length)):=
 pA (he:=hst) oJ hg hm PySem.boot_len (aH ha bD trivial hst) fun σ F H vs Q S q k=>by
  cases q with
  | cons q1 q2=>cases q2; have q1:=Rep.mono S.sub q1; simp only [Rep] at q1; obtain ⟨p,rfl,hp⟩:=q1; refine ⟨p,_,rfl, .inl hp,k _ F H S (Same.refl _) ?_⟩; simp only [ResOk,Rep,aG]
noncomputable def tyD:D→Value
 | .non=> .type "NoneType"
 | .bl _=> .type "bool"
 | .int _=> .type "int"
 | .str _=> .type "str"
 | .tup _=> .type "tuple"
 | .lst _=> .type "list"
 | .dic=> .type "dict"
 | .dki _ _=> .type "dict"
 | .any _=> .type "dict"
 | .scr _=> .type "list"
theorem ty_of {K:aD} {H:Hp} {d:D} {v:V} (h:∀ns,d≠ .scr ns) (hA:∀G,d≠ .any G) (q:Rep K H d v):rL K H v (tyD d):=by
 cases d with
 | non=>simp only [Rep] at q; subst q; exact .non
 | bl b=>simp only [Rep] at q; subst q; exact .bl b
 | int b=>simp only [Rep] at q; subst q; exact .int b
 | str b=>simp only [Rep] at q; subst q; exact .str b
 | tup ds=>simp only [Rep] at q; obtain ⟨a,xs,rfl,h,_⟩:=q; exact .tup h
 | lst ds=>simp only [Rep] at q; obtain ⟨a,xs,rfl,h,_⟩:=q; exact .lst h
 | dic=>simp only [Rep] at q; obtain ⟨a,rfl,h⟩:=q; exact .dK (.of h)
 | dki ks ds=>simp only [Rep] at q; obtain ⟨a,xs,rfl,h,_⟩:=q; exact .dK (.inr h)
 | scr ns=>exact absurd rfl (h ns)
 | any G=>exact absurd rfl (hA G)
theorem call_isin:nQ X (.builtin "isinstance") (fun xs H Q=>∃x t n k,xs=[x, .ty n]∧rL X.K H x t∧fE X.K t (.type n)=some k∧Q (.bl k) H):=by intro pins s σ H xs us Q I r h; obtain ⟨x,t,n,k,rfl,ty,e,q⟩:=h; obtain ⟨u,u',rfl,ru,ru'⟩:=vals2 r; cases (show u'=Value.type n from ru'); exact isinst_ok I ru ty e fun tk=>⟨.bl k,H,I.tok tk,rfl,q⟩
theorem pe_type {x:Str} {n:String} {pos:Pos} (hg:Gl X x) (hm:X.mg x=none) (hv:bootBuiltins x=some (.type n)) (hn:x≠"__name__":=by decide) (hd:(x==("__debug__":Str))=false:=by decide):PE X (.Name x pos) (tC (.ty n)):=pe_bltn hg hm hv rfl hn hd
theorem oC {x:Str} {n:String} {p p2:Pos} {k:Bool} (hg:Gl X "isinstance") (hm:X.mg "isinstance"=none) (hgx:Gl X x) (hmx:X.mg x=none) (hv:bootBuiltins x=some (.type n)) (ha:PEd X sd e (.val d)) (hd:∀ns,d≠ .scr ns)
  (hk:fE X.K (tyD d) (.type n)=some k) (hA:∀G,d≠ .any G:=by (intro _ h; cases h)) (hn:x≠"__name__":=by decide) (hdb:(x==("__debug__":Str))=false:=by decide)
  (he:starEach (e::[.Name x p2]) X.env=(false,eval e X.env)::starEach [.Name x p2] X.env:=by rfl) (hpl:(backTo pos (starEach [.Name x p2] X.env)).any (·.1)=false:=by rfl) (hs2:starEach [.Name x p2] X.env=(false,eval (.Name x p2) X.env)::starEach [] X.env:=by rfl):
  PEd X sd (.Call (.Name "isinstance" p) [e, .Name x p2] [] pos) (.val (.bl k)):= .mk fun σ F H S=>
 (rW call_isin hg hm boot_isinstance (gR gS (gR (pe_type hgx hmx hv hn hdb) pa_nil hs2) he) (by decide) (by decide) he hpl).to ((ha σ F H S).imp fun v H1 ⟨F1,S1,s1,q1⟩=>by exact ⟨v,tyD d,n,k,rfl,ty_of hd hA (Rep.mono S1.sub q1),hk,F1,S1,s1,by simp only [ResOk,Rep]⟩)
theorem cX (h:E.nx sd):PSd X sd [] E:= .mk fun σ F H S=>pss_nil.to ⟨sd,F,S,Same.refl _,h⟩
theorem aJ (h:PSd1 X sd st {E with nx:=fun sd'=>PSd X sd' rest E}):PSd X sd (st::rest) E:= .mk fun σ F H S=>
 (pss_cons ps_w uA).to (wS.imp (h σ F H S) (fun σ' H' ⟨sd',F',S',s',q⟩=>(q σ' F' H' S').imp (fun σ2 H2 ⟨sd2,F2,S2,s2,q2⟩=>⟨sd2,F2,S2,s'.trans s2,q2⟩) (fun v H2 q2=>q2)
  (fun σ2 H2 ⟨sd2,F2,S2,s2,q2⟩=>⟨sd2,F2,S2,s'.trans s2,q2⟩) fun σ2 H2 ⟨sd2,F2,S2,s2,q2⟩=>⟨sd2,F2,S2,s'.trans s2,q2⟩) (fun v H q=>q) (fun σ H q=>q) fun σ H q=>q)
theorem bP (h:PSd1 X sd st E):PSd X sd [st] E:= .mk fun σ F H S=>(pss_one ps_w).to (h σ F H S)
theorem cJ (h:PEd X sd e r) (hr:match r with | .bor _=>False | _=>True) (hE:E.rt r):PSd1 X sd (.Return (some e) pos) E:= .mk fun σ F H S=>
 (ps_ret gS).to ((h σ F H S).imp fun v H' ⟨F',S',s',q⟩=>⟨r,⟨F',S'.base,S'.sub,S'.smp,by
  cases r with
  | val d=>exact q
  | own ds=>obtain ⟨l,xs,a,b,c,d,_⟩:=q; exact ⟨l,xs,a,b,c,d,by simp [dC]⟩
  | pr d ls=>obtain ⟨t,l,xs,y,a,b,c,d,e,f,_⟩:=q; exact ⟨t,l,xs,y,a,b,c,d,e,f,by simp [dC]⟩
  | ox G=>obtain ⟨ls,nd,h,g⟩:=q; exact ⟨ls,nd,fun l hl=>⟨(h l hl).1,(h l hl).2.1,by simp [dC]⟩,g⟩
  | bor ds=>exact hr.elim⟩,hE⟩)
theorem pK (i:Nat) {x:Str} {p:Pos} {l:Addr} (hs:sd[i]? =some (.own l ds)) (h:PE X (.Name x p) (lY i)) (hE:E.rt (.own ds)):PSd1 X sd (.Return (some (.Name x p)) pos) E:= .mk fun σ F H S=>
 (ps_ret h).to (by
  obtain ⟨o,h1,h2,n,xs,q,rl⟩:=S.slots.get hs
  exact ⟨.ref l,by rw [h1,h2], .own ds,⟨F,S.base,S.sub,S.smp,l,xs,rfl,n,q,rl,by simp [dC]⟩,hE⟩)
theorem iK {k:Bool} {a o:List Stmt} (h:PTd X sd c k) (h1:k=true→PSd X sd a E) (h2:k=false→PSd X sd o E):PSd1 X sd (.If c a o pos) E:= .mk fun σ F H S=>
 (ps_if pt_w uA uA).to ((h σ F H S).imp fun k' H' ⟨e,F',S',s'⟩=>by
  have up:∀ {sts:List Stmt},PSd X sd sts E→wSs X sts (lft X F E) σ H':=fun h=>(h σ F' H' S').imp (fun σ2 H2 ⟨sd2,F2,S2,s2,q2⟩=>⟨sd2,F2,S2,s'.trans s2,q2⟩) (fun v H2 q2=>q2)
   (fun σ2 H2 ⟨sd2,F2,S2,s2,q2⟩=>⟨sd2,F2,S2,s'.trans s2,q2⟩) fun σ2 H2 ⟨sd2,F2,S2,s2,q2⟩=>⟨sd2,F2,S2,s'.trans s2,q2⟩
  subst e; cases k' with
  | true=>exact iteT (up (h1 rfl))
  | false=>exact iteF (up (h2 rfl)))
theorem kY:∀ {sd:List Slot} {z:Slot} (i:Nat),(dC sd).Nodup→(∀l,l∈iA z→l∉dC sd∨(∃z',sd[i]? =some z'∧l∈iA z'))→(hz:(iA z).Nodup:=by simp [iA])→(dC (sd.set i z)).Nodup∧∀l,l∈dC (sd.set i z)→l∈dC sd∨l∈iA z
 | [],z,i,h,_,_=>⟨h,fun l hl=> .inl hl⟩
 | z'::zs,z,0,h,hz,nz=>by
  show (iA z++dC zs).Nodup∧∀l,l∈iA z++dC zs→_; obtain ⟨n1,n2,n3⟩:=bY.mp (show (iA z'++dC zs).Nodup from h); refine ⟨bY.mpr ⟨nz,n2,fun a ha b hb e=> ?_⟩,fun l hl=> ?_⟩
  ·subst e
   rcases hz a ha with y | ⟨z2,e2,y⟩
   ·exact y (bC _ hb)
   ·have:z'=z2:=by simpa using e2
    subst this; exact n3 a y a hb rfl
  ·rcases bU.mp hl with y | y
   ·exact .inr y
   ·exact .inl (bC _ y)
 | z'::zs,z,i+1,h,hz,nz=>by
  show (iA z'++dC (zs.set i z)).Nodup∧∀l,l∈iA z'++dC (zs.set i z)→_; obtain ⟨n1,n2,n3⟩:=bY.mp (show (iA z'++dC zs).Nodup from h)
  obtain ⟨i1,i2⟩:=kY (sd:=zs) (z:=z) i n2 (fun l hl=>by
   rcases hz l hl with y | ⟨z2,e2,y⟩
   ·exact .inl fun q=>y (bC _ q)
   ·exact .inr ⟨z2,by simpa using e2,y⟩) nz
  refine ⟨bY.mpr ⟨n1,i1,fun a ha b hb e=> ?_⟩,fun l hl=> ?_⟩
  ·subst e
   rcases i2 a hb with y | y
   ·exact n3 a ha a y rfl
   ·rcases hz a y with y | ⟨z2,e2,y⟩
    ·exact y (dJ _ ha)
    ·have m:a∈dC zs:=dZ.mpr ⟨z2,aY (by simpa using e2),y⟩; exact n3 a ha a m rfl
  ·rcases bU.mp hl with y | y
   ·exact .inl (dJ _ y)
   ·rcases i2 l y with y | y
    ·exact .inl (bC _ y)
    ·exact .inr y
theorem StF.set {K:aD} {H₀ F H:Hp} {σ:St} {v:V} (S:StF K H₀ F H σ sd) (i:Nat) (q:Rep K F d v):StF K H₀ F H (σ.set i (some v)) (sd.set i (.val d)):=
 ⟨S.base,S.sub,S.smp,S.slots.set (z:= .val d) ⟨v,rfl,q⟩ i,(kY i S.nd fun l e=>by simp [iA] at e).1⟩
theorem StF.setO {K:aD} {H₀ F H:Hp} {σ:St} {l:Addr} {xs:List V} (S:StF K H₀ F H σ sd) (i:Nat) (n:F l=none) (h:H l=some (.lst xs)) (q:RepL K F ds xs) (no:l∉dC sd):StF K H₀ F H (σ.set i (some (.ref l))) (sd.set i (.own l ds)):=
 ⟨S.base,S.sub,S.smp,S.slots.set (z:= .own l ds) ⟨rfl,n,xs,h,q⟩ i,(kY i S.nd fun l' e=>by rw [aU.mp e]; exact .inl no).1⟩
theorem dG (i:Nat) {x:Str} {p:Pos} (hN:X.N.Nodup) (hi:X.N[i]? =some x) (hx:Loc X.env.scope x) (h:PEd X sd e (.val d)) (hE:E.nx (sd.set i (.val d))) (hs:swapsWith e (some (.Name x p)) pos.line X.env=pure false:=by rfl)
  (hf:X.fn x=true∨X.env.scope.names.lookup x=some .local:=by first | exact .inl rfl | exact .inr rfl | assumption):PSd1 X sd (.Assign [.Name x p] e pos) E:= .mk fun σ F H S=>
 (tF hN hi hx gS hs hf).to ((h σ F H S).imp fun v H' ⟨F',S',s',q⟩=>⟨_,F',S'.set i q,s',hE⟩)
theorem gM (i:Nat) {x:Str} {p:Pos} (hN:X.N.Nodup) (hi:X.N[i]? =some x) (hx:Loc X.env.scope x) (h:PEd X sd e (.own ds)) (hE:∀l,E.nx (sd.set i (.own l ds))) (hs:swapsWith e (some (.Name x p)) pos.line X.env=pure false:=by rfl)
  (hf:X.fn x=true∨X.env.scope.names.lookup x=some .local:=by first | exact .inl rfl | exact .inr rfl | assumption):PSd1 X sd (.Assign [.Name x p] e pos) E:= .mk fun σ F H S=>
 (tF hN hi hx gS hs hf).to ((h σ F H S).imp fun v H' ⟨F',S',s',l,xs,e,n,q,rl,no⟩=>⟨_,F',by subst e; exact S'.setO i n q rl no,s',hE l⟩)
noncomputable def Le:List Slot→List Slot→Prop
 | [],[]=>True
 | x::xs,y::ys=>(y= .un∨x=y)∧Le xs ys
 | _,_=>False
theorem Le.refl:∀ (sd:List Slot),Le sd sd
 | []=>trivial
 | _::xs=>⟨.inr rfl,Le.refl xs⟩
theorem Le.own:∀ {sd sd':List Slot},Le sd sd'→(dC sd').Sublist (dC sd)
 | [],[],_=>List.Sublist.refl _
 | [],_::_,h=>h.elim
 | _::_,[],h=>h.elim
 | x::xs,y::ys,h=>by
  obtain ⟨h1,h2⟩:=h; have ih:=Le.own h2
  rcases h1 with rfl | rfl
  ·exact ih.trans (List.sublist_append_right _ _)
  ·exact List.Sublist.append (List.Sublist.refl _) ih
theorem Le.slots {K:aD} {F H:Hp}:∀ {sd sd':List Slot} {σ:St},Le sd sd'→SlotsOk K F H sd σ→SlotsOk K F H sd' σ
 | [],[],_,_,h=>h
 | [],_::_,_,h,_=>h.elim
 | _::_,[],_,h,_=>h.elim
 | x::xs,y::ys,σ,h,q=>by
  obtain ⟨h1,h2⟩:=h; obtain ⟨o,r,rfl,a,b⟩:=q; refine ⟨o,r,rfl, ?_,Le.slots h2 b⟩
  rcases h1 with rfl | rfl
  ·trivial
  ·exact a
theorem StF.le {K:aD} {H₀ F H:Hp} {σ:St} {sd':List Slot} (S:StF K H₀ F H σ sd) (h:Le sd sd'):StF K H₀ F H σ sd':=⟨S.base,S.sub,S.smp,h.slots S.slots,S.nd.sublist h.own⟩
theorem psd_le {sd':List Slot} {sts:List Stmt} (h:Le sd sd') (q:PSd X sd' sts E):PSd X sd sts E:= .mk fun σ F H S=>q σ F H (S.le h)
theorem lft_up {F₀ F:Hp} {E:jP} {σ:St} {H:Hp} {sts:List Stmt} (s:Same F₀ F) (h:wSs X sts (lft X F E) σ H):wSs X sts (lft X F₀ E) σ H:=
 h.imp (fun σ2 H2 ⟨sd2,F2,S2,s2,q2⟩=>⟨sd2,F2,S2,s.trans s2,q2⟩) (fun v H2 q2=>q2) (fun σ2 H2 ⟨sd2,F2,S2,s2,q2⟩=>⟨sd2,F2,S2,s.trans s2,q2⟩) fun σ2 H2 ⟨sd2,F2,S2,s2,q2⟩=>⟨sd2,F2,S2,s.trans s2,q2⟩
theorem hX:∀ (sd:List Slot) (i:Nat),Le sd (sd.set i .un)
 | [],_=>trivial
 | _::xs,0=>⟨.inl rfl,Le.refl xs⟩
 | _::xs,i+1=>⟨.inr rfl,hX xs i⟩
theorem iS:∀ {sd:List Slot} {i:Nat} {l:Addr} {z:Slot},(dC sd).Nodup→sd[i]? =some z→l∈iA z→l∉dC (sd.set i .un)
 | [],_,_,_,_,e,_=>by simp at e
 | y::zs,0,l,z,h,e,hl=>by
  have:y=z:=by simpa using e
  subst this; obtain ⟨n1,n2,n3⟩:=bY.mp (show (iA y++dC zs).Nodup from h); exact fun hm=>n3 l hl l hm rfl
 | y::zs,i+1,l,z,h,e,hl=>by
  have e':zs[i]? =some z:=by simpa using e
  obtain ⟨n1,n2,n3⟩:=bY.mp (show (iA y++dC zs).Nodup from h); have ml:l∈dC zs:=dZ.mpr ⟨_,aY e',hl⟩; intro hm
  rcases bU.mp (show l∈iA y++dC (zs.set i .un) from hm) with q | q
  ·exact n3 l q l ml rfl
  ·exact iS n2 e' hl q
theorem pS {sd:List Slot} {i:Nat} {l:Addr} {ds:List D} (h:(dC sd).Nodup) (e:sd[i]? =some (.own l ds)):l∉dC (sd.set i .un):=iS h e (dM l)
theorem mL {σ:St} {i:Nat} {o:Option V} (h:σ[i]? =some o):σ.set i o=σ:=by obtain ⟨hi,e⟩:=aP.mp h; rw [← e]; exact List.set_getElem_self hi
theorem kE (sd:List Slot) (i:Nat) (x y:Slot):(sd.set i x).set i y=sd.set i y:=by simp
theorem StF.wr {K:aD} {H₀ F H:Hp} {σ:St} {i:Nat} {l:Addr} {ds':List D} {xs':List V} (S:StF K H₀ F H σ sd) (hs:sd[i]? =some (.own l ds)) (rl:RepL K F ds' xs'):StF K H₀ F (upd H l (.lst xs')) σ (sd.set i (.own l ds')):=by
 obtain ⟨o,h1,h2,n,xs,q,_⟩:=S.slots.get hs; have no:=pS S.nd hs; have S0:=S.le (hX sd i); refine ⟨S.base,fun b u e=> ?_,fun b u e=> ?_, ?_, ?_⟩
 ·rw [cE (dE e n)]; exact S.sub _ _ e
 ·by_cases h:b=l
  ·subst h; rw [dD] at e; cases e; trivial
  ·rw [cE h] at e; exact S.smp _ _ e
 ·have q1:SlotsOk K F (upd H l (.lst xs')) (sd.set i .un) σ:=S0.slots.mono (Same.refl _) fun l' hl=>by
   obtain ⟨n',ys,q',_⟩:=S0.slots.owns hl; have hne:l'≠l:=fun z=>no (z▸hl)
   exact ⟨n',fun ys e=>by rw [cE hne]; exact e⟩
  have q2:=q1.set (z:= .own l ds') (o:=some (.ref l)) ⟨rfl,n,xs',dD,rl⟩ i; rw [kE,mL (by rw [h1,h2])] at q2; exact q2
 ·have:=kY (z:=Slot.own l ds') i S0.nd fun l' e=>by rw [aU.mp e]; exact .inl no
  rw [kE] at this; exact this.1
theorem mX (i:Nat) {l:Addr} {sts:List Stmt} (hs:sd[i]? =some (.own l ds)) (h:PSd X (sd.set i (.val (.lst ds))) sts E):PSd X sd sts E:= .mk fun σ F H S=>by obtain ⟨o,h1,h2,n,xs,q,rl⟩:=S.slots.get hs; have S0:=S.le (hX sd i); obtain ⟨S1,s1⟩:=S0.freeze q n (pS S.nd hs); have S2:=S1.set (d:= .lst ds) (v:= .ref l) i (by simp only [Rep]; exact ⟨l,xs,rfl,dD,rl.mono s1⟩); rw [kE,mL (by rw [h1,h2])] at S2; exact lft_up s1 (h σ _ H S2)
theorem qO (i:Nat) {x:Str} {p ap cp:Pos} {l:Addr} (hs:sd[i]? =some (.own l ds)) (hx:PE X (.Name x p) (lY i)) (h:PEd X sd e (.val d)) (hl:ds.length≤1000) (hE:E.nx (sd.set i (.own l (ds++[d]))))
  (hst:starEach (e::[]) X.env=(false,eval e X.env)::starEach [] X.env:=by rfl)
  (hm:PE X (.Call (.Attribute (.Name x p) "append" ap) [e] [] cp) (tBM X.K "list" uR (lY i) (oR (wE X e) zR)):=by exact pe_bm jT xN xO xZ (pv _) (gR gS pa_nil))
  (hsw:swapsWith (.Call (.Attribute (.Name x p) "append" ap) [e] [] cp) none pos.line X.env=pure false:=by rfl):
  PSd1 X sd (.Expr (.Call (.Attribute (.Name x p) "append" ap) [e] [] cp) pos) E:= .mk fun σ F H S=>
 (rC hm hsw).to (by
  obtain ⟨o,h1,h2,n,xs,q,rl⟩:=S.slots.get hs; refine ⟨.ref l,by rw [h1,h2], .inl ⟨rfl,xs, .of q⟩,(h σ F H S).imp fun v H1 ⟨F1,S1,s1,q1⟩=> ?_⟩; obtain ⟨o',h1',h2',n',xs',q',rl'⟩:=S1.slots.get hs
  exact ⟨l,xs',v,rfl,rfl,q',by rw [rl'.len]; exact gW hl,_,F1,S1.wr hs (rl'.app (.one q1)),s1,hE⟩)
theorem wX (i:Nat) {x:Str} {p ap cp:Pos} {l:Addr} {ds2:List D} (hs:sd[i]? =some (.own l ds)) (hx:PE X (.Name x p) (lY i)) (h:PEd X sd e (.val (.lst ds2))) (hl:ds.length+ds2.length≤1000) (hE:E.nx (sd.set i (.own l (ds++ds2))))
  (hst:starEach (e::[]) X.env=(false,eval e X.env)::starEach [] X.env:=by rfl)
  (hm:PE X (.Call (.Attribute (.Name x p) "extend" ap) [e] [] cp) (tBM X.K "list" rExtend (lY i) (oR (wE X e) zR)):=by exact pe_bm jT PySem.F.slot_list_extend PySem.F.type_list_extend mt_extend (pv _) (gR gS pa_nil))
  (hsw:swapsWith (.Call (.Attribute (.Name x p) "extend" ap) [e] [] cp) none pos.line X.env=pure false:=by rfl):
  PSd1 X sd (.Expr (.Call (.Attribute (.Name x p) "extend" ap) [e] [] cp) pos) E:= .mk fun σ F H S=>
 (rC hm hsw).to (by
  obtain ⟨o,h1,h2,n,xs,q,rl⟩:=S.slots.get hs; refine ⟨.ref l,by rw [h1,h2], .inl ⟨rfl,xs, .of q⟩,(h σ F H S).imp fun v H1 ⟨F1,S1,s1,q1⟩=> ?_⟩; obtain ⟨o',h1',h2',n',xs',q',rl'⟩:=S1.slots.get hs; simp only [ResOk,Rep] at q1; obtain ⟨b,zs,rfl,hb,rb⟩:=q1
  exact ⟨l,b,xs',zs,rfl,rfl,q',S1.sub _ _ hb,by rw [rl'.len,rb.len]; exact eX (gW hl),_,F1,S1.wr hs (rl'.app rb),s1,hE⟩)
noncomputable def spC (K:aD) (n:Nat) (C:List D→R→Prop):Sp:=fun vs H Q _=>vs.length=n∧Smp H∧∃ds r,RepL K H ds vs∧C ds r∧∀v H',RetOk K H H' r v→Q v H'
noncomputable def spF (K:aD) (n:Nat) (C:List D→R→Prop):Sp:=fun vs H Q _=>vs.length=n∧Smp H∧∃F ds r,Same F H∧RepL K F ds vs∧C ds r∧∀v F2 F3 H',Same F F2→Same F2 F3→Same F3 H'→Same H H'→Smp H'→(∀b o,H b=some o→F b=none→F3 b=none)→ResOk K F2 F3 [] r v→Q v H'
noncomputable def sG (F H:Hp):Hp:=fun b=>match F b with
 | some o=>some o
 | none=>H b
theorem sE {F H:Hp}:Same F (sG F H):=fun b o e=>by unfold sG; rw [e]
theorem rS {F H:Hp} {b:Addr} (h:F b=none):sG F H b=H b:=by unfold sG; rw [h]
theorem FnOk.framed {P:Program} {w:World} {K:aD} {mg:Str→Option Value} {base:Heap} {k n:Nat} {f:Addr} {fd:FuncData} {ps:List Str} {C:List D→R→Prop} (G:FnOk P w K mg base CX0 k f fd ps (spC K n C)):FnOk P w K mg base CX0 k f fd ps (spF K n C):=by
 refine ⟨fun vs H Q E h=> ?_,fun A outer s H args us vs Q E hr e0 hb rv h=> ?_⟩
 ·obtain ⟨hl,sm,F,ds,r,sF,rl,c,_⟩:=h; exact G.len vs F (fun _ _=>True) E ⟨hl,sm.sub sF,ds,r,rl,c,fun _ _ _=>trivial⟩
 ·obtain ⟨hl,sm,F,ds,r,sF,rl,c,q⟩:=h; have e1:Env0 P w K mg base A outer s F:=⟨e0.frames,e0.mod,fun b o e=>⟨(e0.bs b o e).1,sF.free (e0.bs b o e).2⟩,e0.bsz,e0.funs,fun b hb=>sF.free (e0.frf b hb),fun b o e=>(e0.hok b o (sF b o e)).smp (sm b o (sF b o e)),e0.bare⟩; refine codeAny_mono (G.run A outer s F args us vs (fun v F3=>RetOk K F F3 r v) E hr e1 hb rv ⟨hl,sm.sub sF,ds,r,rl,c,fun v H' z=>z⟩) fun rr s' hrr=> ?_
  cases rr with
  | error e=>exact hrr
  | ok fl=>
   cases fl with
   | ret u=>
    obtain ⟨v,F3,ho,ha,un,hk,ru,F2,s1,s2,sm3,res⟩:=hrr
    have keepF:∀b o,H b=some o→F b=none→F3 b=none:=fun b o e n=>by
     have lt:=e0.hok.lt e; cases g:s.heap.get? b with
     | none=>
      exfalso; have ob:=e0.hok b o e; have z:=sm b o e; cases o with
      | lst xs=>obtain ⟨_,_,_,_,g'⟩:=ob; rw [g] at g'; cases g'
      | tup xs=>obtain ⟨_,_,_,oo,g',_⟩:=ob; rw [g] at g'; cases g'
      | dK kvs=>obtain ⟨_,_,_,_,oo,_,_,g',_⟩:=ob; rw [g] at g'; cases g'
      | frz o2 u2=>obtain ⟨g',_⟩:=ob; rw [g] at g'; cases g'
      | ext φ=>obtain ⟨_,⟨oo,g'⟩,_⟩:=ob; rw [g] at g'; cases g'
      | _=>exact z
     | some ob=>exact un.free b ob g n (by simp)
    have keepO:∀b o,H b=some o→F b=none→∀ob,s.heap.get? b=some ob→s'.heap.get? b=some ob:=fun b o e n ob g=>un.keep b ob g n (fun hb=>by have:=e0.frf b hb; rw [e] at this; cases this) (by simp)
    have sH:Same H (sG F3 H):=fun b o e=>by
     cases g:F b with
     | none=>rw [rS (keepF b o e g)]; exact e
     | some o'=>have:=sF b o' g; rw [e] at this; cases this; exact sE _ _ (s2 _ _ (s1 _ _ g))
    have smM:Smp (sG F3 H):=fun b o e=>by
     cases g:F3 b with
     | some o'=>have:=sE (H:=H) b o' g; rw [e] at this; cases this; exact sm3 b o g
     | none=>rw [rS g] at e; exact sm b o e
    refine ⟨v,sG F3 H,ho,ha,⟨fun b o g n hb hx=>un.keep b o g (sF.free n) hb hx,fun b o g n hb hx=>un.slot b o g (sF.free n) hb hx,fun b o g n hx=> ?_,un.there,fun b xs e=>sH _ _ e,fun b o u e=>sH _ _ e,fun b ps e=>⟨#[],by rw [sH _ _ e]; simp⟩⟩,fun b o e=> ?_,ru, ?_⟩
    ·rw [rS (un.free b o g (sF.free n) hx)]; exact n
    ·have z:=smM b o e; cases g:F3 b with
     | some o'=>have:=sE (H:=H) b o' g; rw [e] at this; cases this; exact (hk b o g).smp z
     | none=>
      rw [rS g] at e
      have n:F b=none:=by
       cases g2:F b with
       | none=>rfl
       | some o2=>rw [s2 _ _ (s1 _ _ g2)] at g; cases g
      have st:=(e0.hok b o e).smp (F:=fun _=>none) z
      have:ObjOk P w (fun _=>none) s'.heap b o:=st.stay (fun b2 u hb2 gg=>by
       rcases hb2 with rfl | hb2
       ·exact keepO _ o e n u gg
       ·cases hb2) (fun b2 hb2=>nomatch hb2) fun b2 xs hb2=>nomatch hb2
      exact this.smp z
    ·exact q v F2 F3 (sG F3 H) s1 s2 sE sH smM keepF res
   | _=>exact hrr
structure bZ (P:Program) (w:World) (K:aD) (mg:Str→Option Value) (base:Heap) (x:Str) (k n:Nat) (C:List D→R→Prop):Prop where
 ex:∃ (f:Addr) (fd:FuncData) (ps:List Str),mg x=some (.ref f)∧bA K (.ref f)=true∧Binds K fd ps []∧FnOk P w K mg base CX0 k f fd ps (spC K n C)
theorem cU {x:Str} {p:Pos} {k n:Nat} {C:List D→R→Prop} (G:bZ X.prog X.w X.K X.mg X.base x k n C) (hr:Room k X.A) (hg:Gl X x) (ha:PAd X sd (e::es) (ds.map R.val)) (hc:C ds r) (hb:match r with | .bor _=>False | _=>True) (hn:ds.length=n)
  (hdb:(x==("__debug__":Str))=false:=by decide) (he:starEach (e::es) X.env=(false,eval e X.env)::starEach es X.env:=by rfl) (hpl:(backTo pos (starEach es X.env)).any (·.1)=false:=by rfl):
  PEd X sd (.Call (.Name x p) (e::es) [] pos) r:= .mk fun σ F H S=>by
 obtain ⟨f,fd,ps,hm,hk,bd,G⟩:=G.ex; refine (pe_call (FnOk.framed G) hr hg hm hk bd .nil pass0 zS hdb he hpl).to ((ha σ F H S).imp fun vs H1 ⟨F1,S1,s1,q1⟩=> ?_); have rl:=q1.vals; refine ⟨by rw [dY,rl.len]; exact hn,S1.smp,F1,ds,r,S1.sub,by rw [dY]; exact rl,hc,fun v F2 F3 H' s2 s3 s4 sH sm kp res=> ?_⟩
 have no:∀l,l∈dC sd→F2 l=none∧F3 l=none:=fun l hl=>by obtain ⟨n1,xs,q,_⟩:=S1.slots.owns hl; have n3:=kp l _ q n1; exact ⟨s3.free n3,n3⟩
 refine ⟨F2,⟨fun b o e=>s2 _ _ (S1.base _ _ e),s3.trans s4,sm,S1.slots.mono s2 fun l hl=>⟨(no l hl).1,fun ys e=>sH _ _ e⟩,S1.nd⟩,s1.trans s2, ?_⟩; cases r with
 | val d=>exact res
 | own ds'=>obtain ⟨l,xs,e,n,q,rl',_⟩:=res; exact ⟨l,xs,e,n,s4 _ _ q,rl',fun hl=>by rw [(no l hl).2] at q; cases q⟩
 | pr d ls=>obtain ⟨t,l,xs,y,e,f,g,n,q,rl',_⟩:=res; exact ⟨t,l,xs,y,e,f,g,n,s4 _ _ q,rl',fun hl=>by rw [(no l hl).2] at q; cases q⟩
 | ox G=>obtain ⟨ls,nd,h,g⟩:=res; refine ⟨ls,nd,fun l hl=> ?_,fun F' H'' sF k=>g F' H'' sF fun l hl ob q=>k l hl ob (s4 _ _ q)⟩; obtain ⟨n,⟨ob,q,w⟩,_⟩:=h l hl; exact ⟨n,⟨ob,s4 _ _ q,w⟩,fun hm=>by rw [(no l hm).2] at q; cases q⟩
 | bor ds'=>exact hb.elim
noncomputable def R.toD:R→D
 | .val d=>d
 | .own ds=> .lst ds
 | .bor ds=> .lst ds
 | .pr d ls=> .tup [d, .lst ls]
 | .ox _=> .non
noncomputable def init (n:Nat) (ds:List D):List Slot:=ds.map Slot.val++gK (n - ds.length) .un
theorem slots_un {K:aD} {F H:Hp}:∀n:Nat,SlotsOk K F H (gK n .un) (gK n none)
 | 0=>rfl
 | n+1=>⟨none,gK n none,rfl,trivial,slots_un n⟩
theorem qU {K:aD} {F H:Hp} {m n:Nat}:∀ {ds:List D} {vs:List V},RepL K F ds vs→SlotsOk K F H (ds.map Slot.val++gK n .un) (vs.map some++gK n none)
 | [],vs,r=>by simp only [RepL] at r; subst r; exact slots_un n
 | d::ds,vs,r=>by obtain ⟨y,ys,rfl,a,rl⟩:=r.uncons; exact ⟨some y,_,rfl,⟨y,rfl,a⟩,qU (m:=m) rl⟩
theorem qQ (n:Nat):∀ds:List D,dC (ds.map Slot.val++gK n .un)=[]
 | []=>by
  induction n with
  | zero=>rfl
  | succ n ih=>exact ih
 | _::ds=>qQ n ds
theorem def_fn {P:Program} {w:World} {K:aD} {mg:Str→Option Value} {base:Heap} {x qual:Str} {st:Stmt} {f:Addr} {fd:FuncData} {N ps:List Str} {k:Nat} {C:List D→R→Prop} (F:Fun K x qual st f fd) (S:pR N ps (aV st))
  (body:∀ (cdv:Value) (A:Around) (outer:List Env) (s:Shared) (H:Hp) (E:XK),Room k (A.deeper (envOfC qual (aV st) s.heap.objs.size f cdv))→∀ds r,ds.length=ps.length→C ds r→
   PSd (lE CX0 P w K mg base N qual (aV st) f cdv A outer s H E).nox (init N.length ds) (cT st) {nx:=fun _=>r= .val .non,rt:=fun r'=>r'=r}):FnOk P w K mg base CX0 (k+1) f fd ps (spC K ps.length C):=by
 refine F.ok S (fun vs H Q E h=>h.1) fun cdv A outer s H vs Q E hr h=> ?_
 obtain ⟨hl,sm,ds,r,rl,c,q⟩:=h; have hds:ds.length=ps.length:=by rw [← rl.len]; exact hl
 refine ⟨_,uA, ?_⟩; have hlen:N.length - vs.length=N.length - ds.length:=by rw [rl.len]
 have S0:StF K H H H (L2.start N vs) (init N.length ds):=by
  refine ⟨Same.refl _,Same.refl _,sm, ?_, ?_⟩
  ·unfold L2.start init; rw [hlen]; exact qU (m:=0) rl
  ·unfold init; rw [qQ]; exact gE
 refine (body cdv A outer s H E hr ds r hds c (L2.start N vs) H H S0).imp ?_ ?_ (fun _ _ ⟨_,_,_,_,z⟩=>z) fun _ _ ⟨_,_,_,_,z⟩=>z
 ·rintro σ' H' ⟨sd',F',S',s',e⟩; have e:r= .val .non:=e; subst e; exact q .non H' ⟨F',S'.base,S'.sub,S'.smp,by simp only [ResOk,Rep]⟩
 ·rintro v H' ⟨r',ro,e⟩; have e:r'=r:=e; subst e; exact q v H' ro
theorem fQ {P:Program} {w:World} {K:aD} {mg:Str→Option Value} {base:Heap} {x qual:Str} {st:Stmt} {f:Addr} {fd:FuncData} {N ps:List Str} {k:Nat} {C:List D→R→Prop} (F:Fun K x qual st f fd) (S:pR N ps (aV st))
  (hm:mg x=some (.ref f)) (hb:∀ (kV doc pm:Value) (an:Option Addr) (cdv ct:Value) (us:List Value),us.length=ps.length→bindArgs (bN x qual (dF st) (cT st) (aV st) .none kV doc pm an cdv ct) ⟨us,[]⟩=pure (ps.zip us))
  (body:∀ (cdv:Value) (A:Around) (outer:List Env) (s:Shared) (H:Hp) (E:XK),Room k (A.deeper (envOfC qual (aV st) s.heap.objs.size f cdv))→∀ds r,ds.length=ps.length→C ds r→
   PSd (lE CX0 P w K mg base N qual (aV st) f cdv A outer s H E).nox (init N.length ds) (cT st) {nx:=fun _=>r= .val .non,rt:=fun r'=>r'=r}):bZ P w K mg base x (k+1) ps.length C:=
 ⟨f,fd,ps,hm,F.kp,F.binds hb,def_fn F S body⟩
end
section
variable {X:Cx} {sd:List Slot} {e a b c tg iter:Expr} {es:List Expr} {pos:Pos} {r ra rb:R} {d:D} {ds:List D} {st:Stmt} {rest:List Stmt} {E:jP}
noncomputable def ItD (K:aD) (F₁:Hp) (P:Hp→Hp→Prop) (J:It) (ds:List D):Prop:=∀ (F H:Hp),Same F₁ F→Same F H→Smp H→P F H→∀i,(i<ds.length→J.go i H)∧(ds.length≤i→J.stop i H)∧
 ∀x H' d,ds[i]? =some d→J.yld i H x H'→∃F',Same F F'∧Rep K F' d x∧∀H₀ σ sd,StF K H₀ F H σ sd→StF K H₀ F' H' σ sd
noncomputable abbrev PT0:Hp→Hp→Prop:=fun _ _=>True
structure PId (X:Cx) (sd:List Slot) (P:Hp→Hp→Prop) (tg iter:Expr) (ds:List D):Prop where
 run:∀ (σ:St) (F H:Hp),StF X.K X.B₀ F H σ sd→
 wI X tg iter σ H fun J H1=>∃F1,StF X.K X.B₀ F1 H1 σ sd∧Same F F1∧ItD X.K F1 P J ds
instance {X:Cx} {sd:List Slot} {P:Hp→Hp→Prop} {tg iter:Expr} {ds:List D}:CoeFun (PId X sd P tg iter ds) (fun _=>∀ (σ:St) (F H:Hp),StF X.K X.B₀ F H σ sd→
 wI X tg iter σ H fun J H1=>∃F1,StF X.K X.B₀ F1 H1 σ sd∧Same F F1∧ItD X.K F1 P J ds):=⟨PId.run⟩
theorem _root_.L2.PI.to {wi:TI} {σ:St} {H:Hp} {R:It→Hp→Prop} (h:PI X tg iter wi) (q:wi σ H R):wI X tg iter σ H R:=fun pins s I=>h pins s σ H R I q
theorem jI (h:PEd X sd iter (.val (.lst ds))):PId X sd PT0 tg iter ds:= .mk fun σ F H S=>
 (pi_list gS).to ((h σ F H S).imp fun v H1 ⟨F1,S1,s1,q1⟩=>by
  simp only [ResOk,Rep] at q1; obtain ⟨l,xs,rfl,hl,rl⟩:=q1; refine ⟨l,rfl,⟨xs, .of (S1.sub _ _ hl)⟩,F1,S1,s1,fun F' H' sF sH sm _ i=> ?_⟩; have hl':=sH _ _ (sF _ _ hl); refine ⟨fun hi=>⟨xs,xs[i]'(by rw [rl.len]; exact hi), .of hl',by simp [rl.len,hi]⟩,fun hi=>⟨xs, .of hl',by rw [rl.len]; exact hi⟩,fun x H2 d hd y=> ?_⟩; obtain ⟨rfl,y⟩:=y; obtain ⟨v,hv,rv⟩:=rl.get hd; have:=y xs (.of hl'); rw [hv] at this; cases this
  exact ⟨F',Same.refl _,rv.mono sF,fun _ _ _ S=>S⟩)
theorem lD (h:PEd X sd iter (.val (.tup ds))):PId X sd PT0 tg iter ds:= .mk fun σ F H S=>
 (pi_tup gS).to ((h σ F H S).imp fun v H1 ⟨F1,S1,s1,q1⟩=>by
  simp only [ResOk,Rep] at q1; obtain ⟨l,xs,rfl,hl,rl⟩:=q1; refine ⟨l,rfl,⟨xs, .of (S1.sub _ _ hl)⟩,F1,S1,s1,fun F' H' sF sH sm _ i=> ?_⟩; have hl':=sH _ _ (sF _ _ hl); refine ⟨fun hi=>⟨xs,xs[i]'(by rw [rl.len]; exact hi), .of hl',by simp [rl.len,hi]⟩,fun hi=>⟨xs, .of hl',by rw [rl.len]; exact hi⟩,fun x H2 d hd y=> ?_⟩; obtain ⟨rfl,y⟩:=y; obtain ⟨v,hv,rv⟩:=rl.get hd; have:=y xs (.of hl'); rw [hv] at this; cases this
  exact ⟨F',Same.refl _,rv.mono sF,fun _ _ _ S=>S⟩)
noncomputable def jD (lo:Int) (n:Nat):List D:=(cO n).map fun (k:Nat)=>D.int (lo+(k:Int))
theorem iT (lo:Int) (n:Nat):(jD lo n).length=n:=by simp [jD]
theorem kX {lo:Int} {n i:Nat} {d:D} (h:(jD lo n)[i]? =some d):i<n∧d= .int (lo+(i:Int)):=by
 unfold jD at h; rw [bG] at h
 by_cases hi:i<n
 ·rw [List.getElem?_range hi] at h; exact ⟨hi,(dN.inj h).symm⟩
 ·rw [iP (by simpa using hi)] at h; cases h
theorem itd_range {K:aD} {F₁:Hp} {lo:Int} {n:Nat}:ItD K F₁ PT0 (Itr lo n) (jD lo n):=fun F H _ _ _ _ i=>by refine ⟨fun hi=>by rw [iT] at hi; exact hi,fun hi=>by rw [iT] at hi; exact hi,fun x H' d hd y=> ?_⟩; obtain ⟨rfl,rfl⟩:=y; obtain ⟨_,rfl⟩:=kX hd; exact ⟨F,Same.refl _,by simp only [Rep],fun _ _ _ S=>S⟩
theorem kT {p:Pos} {n:Nat} (hg:Gl X "range") (hm:X.mg "range"=none) (h:PEd X sd a (.val (.int (n:Int)))) (hn:(n:Int)<2^62) (hs:starEach [a] X.env=[(false,eval a X.env)]:=by rfl):PId X sd PT0 tg (.Call (.Name "range" p) [a] [] pos) (jD 0 n):= .mk fun σ F H S=>
 (pi_range1 hg hm zS hs).to ((aH h bD trivial hs σ F H S).imp fun vs H1 ⟨F1,S1,s1,q1⟩=>by
  cases q1 with
  | cons q1 q2=>
   cases q2; simp only [ResOk,Rep] at q1; subst q1
   exact ⟨(n:Int),rfl,by omega,hn,F1,S1,s1,by rw [eY]; exact itd_range⟩)
structure PGd (X:Cx) (sd:List Slot) (tg:Expr) (d:D) (sd':List Slot):Prop where
 run:∀ (σ:St) (F H:Hp) (v:V),StF X.K X.B₀ F H σ sd→Rep X.K F d v→wG X tg v σ H fun σ' H'=>∃F',StF X.K X.B₀ F' H' σ' sd'∧Same F F'
instance {X:Cx} {sd:List Slot} {tg:Expr} {d:D} {sd':List Slot}:CoeFun (PGd X sd tg d sd') (fun _=>∀ (σ:St) (F H:Hp) (v:V),StF X.K X.B₀ F H σ sd→Rep X.K F d v→wG X tg v σ H fun σ' H'=>∃F',StF X.K X.B₀ F' H' σ' sd'∧Same F F'):=⟨PGd.run⟩
theorem _root_.L2.PG.to {t:TG} {v:V} {σ:St} {H:Hp} {Q:St→Hp→Prop} (h:PG X tg t) (q:t v σ H Q):wG X tg v σ H Q:=fun pins s u I r=>h pins s σ H v u Q I r q
theorem fM (j:Nat) (h:PG X tg (gName j)):PGd X sd tg d (sd.set j (.val d)):= .mk fun σ F H v S q=>h.to ⟨F,S.set j q,Same.refl _⟩
noncomputable def gNs:List Nat→TGs
 | []=>gNil
 | j::js=>gCons (gName j) (gNs js)
noncomputable def setAll:List Slot→List Nat→List D→List Slot
 | sd,j::js,d::ds=>setAll (sd.set j (.val d)) js ds
 | sd,_,_=>sd
theorem gNs_ok {K:aD} {H₀ F H:Hp} {Q:St→Hp→Prop}:∀ {js:List Nat} {ds:List D} {vs:List V} {σ:St} {sd:List Slot},js.length=ds.length→RepL K F ds vs→StF K H₀ F H σ sd→(∀σ',StF K H₀ F H σ' (setAll sd js ds)→Q σ' H)→gNs js vs σ H Q
 | [],[],vs,σ,sd,_,r,S,k=>by simp only [RepL] at r; exact ⟨r,k σ S⟩
 | j::js,d::ds,vs,σ,sd,hl,r,S,k=>by obtain ⟨y,ys,rfl,q,rl⟩:=r.uncons; exact ⟨y,ys,rfl,gNs_ok (by simpa using hl) rl (S.set j q) k⟩
 | [],_::_,_,_,_,hl,_,_,_=>by simp at hl
 | _::_,[],_,_,_,hl,_,_,_=>by simp at hl
theorem nA {k:Nat} {js:List Nat} (hc:X.calm=true) (h:PGs X es (gNs js)) (hl:js.length=ds.length) (hn:(assignEach es X.env).length=ds.length) (hst:(assignEach es X.env).findIdx? (·.1)=none:=by rfl):PGd X sd (.Tuple es k pos) (.tup ds) (setAll sd js ds):= .mk fun σ F H v S q=>
 (pg_tup hc h hn hst).to (by
  simp only [Rep] at q; obtain ⟨a,xs,rfl,ha,rl⟩:=q
  exact ⟨a,xs,rfl, .of (S.sub _ _ ha),rl.len,gNs_ok hl rl S fun σ' S'=>⟨F,S',Same.refl _⟩⟩)
theorem psd_asg {sd':List Slot} (h:PEd X sd e (.val d)) (hg:PGd X sd tg d sd') (hE:E.nx sd') (hs:swapsWithSole [tg] e pos.line X.env=pure false:=by rfl) (hw:swappedStores [tg] e X.env=pure none:=by rfl)
  (h1:(assignEach [tg] X.env).map (·.2)=[assign tg X.env]:=by rfl):PSd1 X sd (.Assign [tg] e pos) E:= .mk fun σ F H S=>
 (ps_asg gS pg_w hs hw h1).to ((h σ F H S).imp fun v H1 ⟨F1,S1,s1,q1⟩=>(hg σ F1 H1 v S1 q1).imp fun σ' H' ⟨F',S',s'⟩=>⟨sd',F',S',s1.trans s',hE⟩)
theorem uY {body:List Stmt} {P:Hp→Hp→Prop} (Sd Td:Nat→List Slot) (hi:PId X sd P tg iter ds) (h0:Le sd (Sd 0)) (hg:∀k d,ds[k]? =some d→PGd X (Sd k) tg d (Td k))
  (hb:∀k d,ds[k]? =some d→PSd X (Td k) body {E with nx:=fun sd'=>Le sd' (Sd (k+1)),ct:=fun sd'=>Le sd' (Sd (k+1)),bk:=E.nx}) (hE:E.nx (Sd ds.length)) (hP:∀k σ F H,StF X.K X.B₀ F H σ (Sd k)→P F H:=by intros; trivial)
  (hc:X.calm=true:=by rfl) (hp:PassesOwn (model X.prog X.w) X.A X.env X.xe:=by exact PassesOwn.never) (hs:∀x,foldedSetIterable iter X.env x=pure x:=by intro _; rfl):PSd1 X sd (.For tg iter body [] pos) E:= .mk fun σ F H S=>
 (ps_for hp hc pi_w pg_w uA hs).to (by
  intro pins s I; refine thn (hi σ F H S pins s I) fun v s1 h1=>thn h1 fun itv s2 h2=> ?_
  obtain ⟨it,fp,tn,J,H2,e,I2,T,st2,f2,F1,S1,s1',itd⟩:=h2; refine ⟨it,fp,tn,J,H2,e,I2,T,st2,f2, ?_⟩; refine ⟨fun i m σ' H'=>m=ds.length - i∧i≤ds.length∧∃F',StF X.K X.B₀ F' H' σ' (Sd i)∧Same F1 F',⟨ds.length,by simp,dA _,F1,S1.le h0,Same.refl _⟩, ?_⟩; rintro i m σ' H' ⟨rfl,hil,F',S',s'⟩; obtain ⟨g1,g2,g3⟩:=itd F' H' s' S'.sub S'.smp (hP _ _ _ _ S') i
  by_cases hlt:i<ds.length
  ·refine .inr ⟨g1 hlt,fun σ2 H2=>∃F2,StF X.K X.B₀ F2 H2 σ2 (Sd (i+1))∧Same F1 F2,fun σ2 H2 ⟨F2,S2,s2⟩=>⟨ds.length - (i+1),by omega,rfl,hlt,F2,S2,s2⟩,fun x H2 y=> ?_⟩; have hd:ds[i]? =some ds[i]:=by simp [hlt]
   obtain ⟨F2,s2,rp,up⟩:=g3 x H2 ds[i] hd y; refine (hg i _ hd σ' F2 H2 x (up _ _ _ S') rp).imp fun σ3 H3 ⟨F3,S3,s3⟩=> ?_
   have base:Same F1 F3:=(s'.trans s2).trans s3; refine (hb i _ hd σ3 F3 H3 S3).imp ?_ ?_ ?_ ?_
   ·rintro σ4 H4 ⟨sd4,F4,S4,s4,le⟩; exact ⟨F4,S4.le le,base.trans s4⟩
   ·exact fun v H4 q=>q
   ·rintro σ4 H4 ⟨sd4,F4,S4,s4,q⟩; exact ⟨sd4,F4,S4,(s1'.trans base).trans s4,q⟩
   ·rintro σ4 H4 ⟨sd4,F4,S4,s4,le⟩; exact ⟨F4,S4.le le,base.trans s4⟩
  ·have e:i=ds.length:=by omega
   subst e
   exact .inl ⟨g2 (aX _),Sd ds.length,F',S',s1'.trans s',hE⟩)
theorem Inv.retrack {pins:List (Addr × Obj)} {σ:St} {H F:Hp} {s s':Shared} (I0:Inv X pins σ H s):∀ (ls:List Addr),ls.Nodup→(∀l∈ls,F l=none∧(∃xs,H l=some xs∧Wr l xs)∧∀o,s.heap.get? l=some o→s'.heap.get? l=some o)→Inv X pins σ F s'→Inv X pins σ (fun b=>if b∈ls then H b else F b) s'
 | [],_,_,I=>by simpa using I
 | l::ls,nd,h,I=>by
  obtain ⟨nl,nd'⟩:=cV.mp nd; have J:=Inv.retrack I0 ls nd' (fun l' hl=>h l' (aQ _ hl)) I; obtain ⟨n,⟨xs,hx,wx⟩,kp⟩:=h l aR
  have e:(fun b=>if b∈l::ls then H b else F b)=upd (fun b=>if b∈ls then H b else F b) l xs:=by
   funext b; unfold upd
   by_cases hb:b=l
   ·subst hb; simp [hx]
   ·simp [hb]
  rw [e]; have n':(fun b=>if b∈ls then H b else F b) l=none:=by simp [nl,n]
  have ob:=I0.hok l _ hx; clear e; generalize (fun b=>if b∈ls then H b else F b)=G at J n' ⊢; refine ⟨J.ok,J.os,J.bare,⟨J.base.keep,J.base.slot,fun b u g n0 hx0=> ?_,J.base.there,fun b ys g=> ?_,fun b u ys g=> ?_,fun b ps g=> ?_⟩,J.loc,J.cell, ?_,fun x c g=> ?_,fun p hp=> ?_,J.hok.track n' ?_,J.len⟩
  ·have hb:b≠l:=fun q=>by subst q; have:=I0.base.free b u g n0 hx0; rw [hx] at this; cases this
   rw [cE hb]; exact J.base.free b u g n0 hx0
  ·have q:=J.base.tups b ys g; rw [cE (dE q n')]; exact q
  ·have q:=J.base.frzs b u ys g; rw [cE (dE q n')]; exact q
  ·obtain ⟨m,q⟩:=J.base.tbls b ps g; exact ⟨m,by rw [cE (dE q n')]; exact q⟩
  ·rw [cE (fun q=>by have:=I0.free; rw [q,hx] at this; cases this)]; exact J.free
  ·rw [cE (fun q=>by have:=I0.freeC x c g; rw [q,hx] at this; cases this)]; exact J.freeC x c g
  ·obtain ⟨g,n0,rr⟩:=J.pin p hp; refine ⟨g, ?_,rr⟩; rw [cE (fun q=>by have:=(I0.pin p hp).2.1; rw [q,hx] at this; cases this)]; exact n0
  ·cases xs with
   | lst xs=>obtain ⟨z,its,nn,rv,ho⟩:=ob; exact ⟨z,its,nn,rv,kp _ ho⟩
   | dK kvs=>obtain ⟨z,y,vs,r,o,es,ep,e,c⟩:=ob; exact ⟨z,y,vs,r,o,es,ep,kp _ e,c⟩
   | ext φ=>obtain ⟨h1,⟨o1,h2⟩,h3⟩:=ob; exact ⟨h3 _ _ h1 kp,⟨o1,kp _ h2⟩,h3⟩
   | _=>exact wx.elim
theorem wr_obj {P:Program} {w:World} {H:Hp} {h:Heap} {l:Addr} {xs:HO} (wx:Wr l xs) (q:H l=some xs) (ok:ObjOk P w H h l xs):∃ys o,H l=some ys∧Wr l ys∧h.get? l=some o∧∀v,o.data≠ .cell v:=by
 cases xs with
 | lst xs=>obtain ⟨_,its,nn,_,ho⟩:=ok; exact ⟨_,_,q,trivial,ho,fun v z=>by cases z⟩
 | dK kvs=>obtain ⟨_,_,_,_,o,es,ep,e,_,d,_⟩:=ok; exact ⟨_,_,q,trivial,e,fun v z=>by rw [d] at z; cases z⟩
 | ext φ=>obtain ⟨o,e,n⟩:=id wx; subst e; exact ⟨_,o,q,wx,ok.1,n⟩
 | _=>exact wx.elim
theorem wE_frame {σ:St} {F H:Hp} (S:StF X.K X.B₀ F H σ sd) (hr:match r with | .bor _=>False | _=>True) (h:wE X e σ F fun v F3=>RetOk X.K F F3 r v):wE X e σ H fun v H'=>∃F',StF X.K X.B₀ F' H' σ sd∧Same F F'∧ResOk X.K F' H' sd r v:=fun pins s I=>by
 have I1:Inv X pins σ F s:=I.less S.sub S.base (S.smp.sub S.sub)
 have ob:∀l∈dC sd,∃xs o,H l=some xs∧Wr l xs∧s.heap.get? l=some o∧∀v,o.data≠ .cell v:=fun l hl=>by obtain ⟨n,xs,q,wx⟩:=S.slots.owns hl; exact wr_obj wx q (I.hok l _ q)
 have I2:Inv X (pins++oD (dC sd) s.heap) σ F s:=I1.pins_of fun p hp=>(bU.mp hp).elim (fun z=>I1.pin p (bC _ z)) fun z=>by
  obtain ⟨hb,g⟩:=sQ z; obtain ⟨xs,o,q,_,ho,hc⟩:=ob p.1 hb; rw [g] at ho; cases ho; refine ⟨g,(S.slots.owns hb).1,fun y=> ?_,fun y=> ?_,hc⟩
  ·have:=I.free; rw [← y,q] at this; cases this
  ·obtain ⟨_,o',ho',_⟩:=I.ok.funs.mem y; have:=I.base.free p.1 o' ho' (I.ok.frf p.1 y) fun z=>I.ok.exfs p.1 z y
   rw [q] at this; cases this
 refine thn (h _ s I2) fun u s' ⟨v,F3,I3,rv,F2,s1,s2,sm3,res⟩=> ?_
 have kp:∀l∈dC sd,F3 l=none∧(∃xs,H l=some xs∧Wr l xs)∧∀o,s.heap.get? l=some o→s'.heap.get? l=some o:=fun l hl=>by obtain ⟨xs,o,q,wx,ho,_⟩:=ob l hl; have:=I3.pin (l,o) (bC _ (bC _ (jQ hl ho))); exact ⟨this.2.1,⟨xs,q,wx⟩,fun o' g=>by rw [ho] at g; cases g; exact this.1⟩
 have I4:=Inv.retrack I (dC sd) S.nd kp I3.unpinned; refine ⟨v,_,I4,rv,F2,⟨fun b o g=>s1 _ _ (S.base _ _ g),fun b o g=> ?_,fun b o g=> ?_,S.slots.mono s1 fun l hl=>⟨s2.free (kp l hl).1,fun xs g=>by simpa [hl] using g⟩,S.nd⟩,s1, ?_⟩
 ·have g3:=s2 _ _ g; have:b∉dC sd:=fun hb=>by rw [(kp b hb).1] at g3; cases g3
  simp [this,g3]
 ·by_cases hb:b∈dC sd
  ·simp [hb] at g; exact S.smp _ _ g
  ·simp [hb] at g; exact sm3 _ _ g
 ·cases r with
  | val d=>exact res
  | own ds'=>
   obtain ⟨l,xs,e,n,q,rl',_⟩:=res; have:l∉dC sd:=fun hl=>by rw [(kp l hl).1] at q; cases q
   exact ⟨l,xs,e,n,by simp [this,q],rl',this⟩
  | pr d ls=>
   obtain ⟨t,l,xs,y,e,f,g,n,q,rl',_⟩:=res; have:l∉dC sd:=fun hl=>by rw [(kp l hl).1] at q; cases q
   exact ⟨t,l,xs,y,e,f,g,n,by simp [this,q],rl',this⟩
  | ox G=>
   obtain ⟨ls,nd,h,g⟩:=res
   have no:∀l∈ls,l∉dC sd:=fun l hl hm=>by obtain ⟨n,⟨ob,q,w⟩,_⟩:=h l hl; rw [(kp l hm).1] at q; cases q
   refine ⟨ls,nd,fun l hl=> ?_,fun F' H' sF k=>g F' H' sF fun l hl ob q=>k l hl ob (by simp [no l hl,q])⟩; obtain ⟨n,⟨ob,q,w⟩,_⟩:=h l hl; exact ⟨n,⟨ob,by simp [no l hl,q],w⟩,no l hl⟩
  | bor ds'=>exact hr.elim
noncomputable def capS:Option Slot→Slot
 | some (.val d)=> .val d
 | some (.ox [] G)=> .ox [] G
 | _=> .un
noncomputable def tR (cap:List (Option Nat)) (sd:List Slot):List Slot:=cap.map fun o=>match o with
 | none=> .un
 | some k=>capS sd[k]?
theorem capD_ok {K:aD} {F H F' H':Hp} {σ:St} (h:SlotsOk K F H sd σ) (s:Same F F'):∀cap:List (Option Nat),SlotsOk K F' H' (tR cap sd) (xJ cap σ)
 | []=>rfl
 | o::cap=>by
  refine ⟨_,_,rfl, ?_,capD_ok h s cap⟩; cases o with
  | none=>trivial
  | some k=>
   show iJ K F' H' (capS sd[k]?) _; cases q:sd[k]? with
   | none=>trivial
   | some z=>
    cases z with
    | un=>trivial
    | own l ds=>trivial
    | od l ks ds=>trivial
    | ox ls G=>
     cases ls with
     | cons a ls=>trivial
     | nil=>obtain ⟨o,h1,v,h2,h3,h4⟩:=h.get q; subst h2; exact ⟨v,by simp [h1],fun l hl=>(nomatch hl),fun F2 H2 s2 _=>h4 F2 H2 (s.trans s2) fun l hl=>(nomatch hl)⟩
    | gh d G=>trivial
    | val d=>obtain ⟨o,h1,v,h2,rv⟩:=h.get q; subst h2; exact ⟨v,by simp [h1],rv.mono s⟩
theorem vX:∀ (cap:List (Option Nat)) (sd:List Slot),dC (tR cap sd)=[]
 | [],_=>rfl
 | o::cap,sd=>by
  have ih:=vX cap sd; cases o with
  | none=>exact ih
  | some k=>
   show dC (capS sd[k]? ::tR cap sd)=[]; cases q:sd[k]? with
   | none=>exact ih
   | some z=>
    cases z with
    | ox ls G=>cases ls<;>exact ih
    | _=>exact ih
noncomputable def unS:Slot→Slot
 | .own _ _=> .un
 | .od _ _ _=> .un
 | .ox [] G=> .ox [] G
 | .ox _ _=> .un
 | z=>z
noncomputable def unO (sd:List Slot):List Slot:=sd.map unS
theorem jR:∀sd:List Slot,dC (unO sd)=[]
 | []=>rfl
 | .un::r=>jR r
 | .val _::r=>jR r
 | .gh _ _::r=>jR r
 | .own _ _::r=>jR r
 | .od _ _ _::r=>jR r
 | .ox [] _::r=>jR r
 | .ox (_::_) _::r=>jR r
theorem capD_unO (cap:List (Option Nat)) (sd:List Slot):tR cap (unO sd)=tR cap sd:=by
 unfold tR; refine cR fun o _=> ?_
 cases o with
 | none=>rfl
 | some k=>
  show capS (unO sd)[k]? =capS sd[k]?; unfold unO; rw [bG]; cases q:sd[k]? with
  | none=>rfl
  | some z=>
   cases z with
   | ox ls G=>cases ls<;>rfl
   | _=>rfl
theorem yJ {K:aD} {F H H':Hp}:∀ {sd:List Slot} {σ:St},SlotsOk K F H sd σ→SlotsOk K F H' (unO sd) σ
 | [],_,h=>h
 | z::zs,σ,h=>by
  obtain ⟨o,r,rfl,a,b⟩:=h; refine ⟨o,r,rfl, ?_,yJ b⟩; cases z with
  | un=>trivial
  | val d=>exact a
  | gh d G=>exact a
  | od l ks ds=>trivial
  | ox ls G=>
   cases ls with
   | cons a ls=>trivial
   | nil=>obtain ⟨v,h2,h3,h4⟩:=a; exact ⟨v,h2,fun l hl=>(nomatch hl),fun F2 H2 s2 _=>h4 F2 H2 s2 fun l hl=>(nomatch hl)⟩
  | own l ds=>trivial
theorem tO {ds:List D} {i:Nat} {d:D} (p:D→Bool) (h:ds[i]? =some d):(ds.take (i+1)).filter p=(ds.take i).filter p++(if p d then [d] else []):=by rw [gF,h,List.filter_append]; cases hp:p d<;>simp [hp]
theorem jL {elt:Expr} {ifs:List Expr} {scope:Scope} {N M:List Str} {cap:List (Option Nat)} {sc:Scope} {Tb:D→List Slot} (p:D→Bool) (f:D→D)
  (hi:PId X (unO sd) PT0 tg iter ds) (hl:ds.length≤1000)
  (hsc:X.env.scope=sc) (hcn:sV scope sc=true) (hM:X.N=M) (hcap:pC N M scope sc cap=true) (hk:scope.kind= .function)
  (hg:∀cl C fp s H d,d∈ds→PGd (cxB X N scope cl C fp s H) (tR cap sd) tg d (Tb d))
  (hle:∀d,d∈ds→Le (Tb d) (tR cap sd))
  (ht:∀cl C fp s H d,d∈ds→(ifs=[]∧p d=true)∨∃c,ifs=[c]∧PTd (cxB X N scope cl C fp s H) (Tb d) c (p d))
  (he:∀cl C fp s H d,d∈ds→p d=true→PEd (cxB X N scope cl C fp s H) (Tb d) elt (.val (f d)))
  (hc:X.calm=true:=by rfl) (hs:∀x,foldedSetIterable iter X.env x=pure x:=by intro _; rfl):
  PEd X sd (.ListComp elt [⟨tg,iter,ifs,0⟩] scope pos) (.own ((ds.filter p).map f)):= .mk fun σ F H S=>by
 refine wE_frame S trivial ?_; have S0:StF X.K X.B₀ F F σ (unO sd):=⟨S.base,Same.refl _,S.smp.sub S.sub,yJ S.slots,by rw [jR]; exact gE⟩; intro pins s I
 have nm:∀y∈scope.names,(y.2=NameKind.free→sc.names.lookup y.1=some NameKind.cell)∧(y.2=NameKind.local→scope.names.lookup y.1=some NameKind.local):=fun y hy=>by have q:=jF.mp hcn y hy; simp only [bX,xF,Bool.not_eq_true',beq_eq_false_iff_ne,ne_eq,beq_iff_eq] at q; exact ⟨fun e=>q.1.1.resolve_left fun z=>z e,fun e=>q.2.resolve_left fun z=>z e⟩
 have fre:∀y∈scope.names,y.2= .free→∃c,X.env.cells.lookup y.1=some c:=fun y hy e=>I.ok.has y.1 (.inl (by show X.env.scope.names.lookup y.1=_; rw [hsc]; exact (nm y hy).1 e))
 rw [eval_ListComp]; refine wpAny_comprehension_free (use:=none) rfl hs (closure_eq fre) hk (fun y hy=>(nm y hy).2) ?_; refine thn (hi σ F F S0 pins s I) fun v s1 h1=>thn h1 fun itv s2 h2=> ?_
 obtain ⟨it,fp,tn,J,H2,e,I2,T,st2,f2,F1,S1,s1',itd⟩:=h2; subst e
 have S1b:StF X.K H2 H2 H2 (xJ cap σ) (tR cap sd):=⟨Same.refl _,Same.refl _,S1.smp,by
  have q:=capD_ok (sd:=unO sd) (H':=H2) S1.slots S1.sub cap; rw [capD_unO] at q
  exact q,by rw [vX]; exact gE⟩
 refine comp_run (N:=N) (cap:=cap) (g:=fun v σ2 H3 Q=>∀cl C,wG (cxB X N scope cl C fp s2 H2) tg v σ2 H3 Q) (tt:=fun σ2 H3 Q=>∀cl C,wIfs (cxB X N scope cl C fp s2 H2) ifs σ2 H3 Q) (te:=fun σ2 H3 Q=>∀cl C,wE (cxB X N scope cl C fp s2 H2) elt σ2 H3 Q)
  hc hsc hcn (by rw [hM]; exact hcap) hk I2 T st2 f2 (fun cl C pi s3 σ3 H3 v u Q I3 ru q=>q cl C pi s3 u I3 ru) (fun cl C pi s3 σ3 H3 Q I3 q=>q cl C pi s3 I3) (fun cl C pi s3 σ3 H3 Q I3 q=>q cl C pi s3 I3)
  (fun i m ys σb H3=>m=ds.length - i∧i≤ds.length∧∃Fb,StF X.K H2 Fb H3 σb (tR cap sd)∧RepL X.K Fb (((ds.take i).filter p).map f) ys) ds.length
  ⟨by simp,dA _,H2,S1b,by simpa using RepL.nil⟩ _ ?_
 rintro i m ys σb H3 ⟨rfl,hil,Fb,Sb,rl⟩; have sF1:Same F1 Fb:=fun b o g=>Sb.base _ _ (S1.sub _ _ g)
 obtain ⟨g1,g2,g3⟩:=itd Fb H3 sF1 Sb.sub Sb.smp trivial i
 by_cases hlt:i<ds.length
 ·have hd:ds[i]? =some ds[i]:=by simp [hlt]
  have hm:ds[i]∈ds:=lQ hlt
  have ylen:ys.length≤i:=by rw [rl.len,aG]; exact eD (List.length_filter_le _ _) (by simp; omega)
  refine .inr ⟨g1 hlt,gW (by omega),fun ys' σ' H'=>∃Fb',StF X.K H2 Fb' H' σ' (tR cap sd)∧RepL X.K Fb' (((ds.take (i+1)).filter p).map f) ys',fun ys' σ' H' ⟨Fb',Sb',rl'⟩=>⟨ds.length - (i+1),by omega,rfl,hlt,Fb',Sb',rl'⟩,fun x H4 y cl C=> ?_⟩; obtain ⟨F4,s4,rp,up⟩:=g3 x H4 ds[i] hd y; refine (hg cl C fp s2 H2 _ hm σb F4 H4 x (up _ _ _ Sb) rp).imp fun σ5 H5 ⟨F5,S5,s5⟩ cl2 C2=> ?_
  have rl5:=rl.mono (s4.trans s5)
  have fin:∀ (b:Bool) (H6:Hp) (F6:Hp),b=p ds[i]→StF X.K H2 F6 H6 σ5 (Tb ds[i])→Same F5 F6→if b=true then (∀cl C,wE (cxB X N scope cl C fp s2 H2) elt σ5 H6 fun v H5=>∃Fb',StF X.K H2 Fb' H5 σ5 (tR cap sd)∧RepL X.K Fb' (((ds.take (i+1)).filter p).map f) (ys++[v])) else ∃Fb',StF X.K H2 Fb' H6 σ5 (tR cap sd)∧RepL X.K Fb' (((ds.take (i+1)).filter p).map f) ys:=fun b H6 F6 eb S6 s6=>by
   rw [tO p hd,← eb]; cases b with
   | false=>exact iteF ⟨F6,S6.le (hle _ hm),by simpa using rl5.mono s6⟩
   | true=>
    refine iteT fun cl3 C3=>(he cl3 C3 fp s2 H2 _ hm eb.symm σ5 F6 H6 S6).imp fun v H7 ⟨F7,S7,s7,q7⟩=>⟨F7,S7.le (hle _ hm), ?_⟩
    simp only [if_true,bR,bQ,fO]; exact ((rl5.mono s6).mono s7).app (.one q7)
  rcases ht cl2 C2 fp s2 H2 _ hm with ⟨e1,e2⟩ | ⟨c,e1,q⟩
  ·subst e1; exact wIfs_nil (fin true H5 F5 e2.symm S5 (Same.refl _))
  ·subst e1; exact wIfs_one ((q σ5 F5 H5 S5).imp fun b H6 ⟨eb,F6,S6,s6⟩=>fin b H6 F6 eb S6 s6)
 ·have e:i=ds.length:=by omega
  subst e; refine .inl ⟨g2 (aX _),fun D C s' hD hC hDC h0 hL hcc hpp hst ⟨m',ns'⟩ J'=>⟨m',ns',fun h' sb=> ?_⟩⟩; have J2:Inv X pins σ (upd H3 D (.lst ys)) {s' with heap:=h',toks:=s'.toks}:=J'.turned (it:=C) (fun b o hb g=>sb.extBut b o hb g) (by rw [cE (Ne.symm hDC)]; exact hC) hL (.inr h0) hcc hpp; refine ⟨.ref D,_,J2,rfl,Fb,fun b o g=>Sb.base _ _ (S1.sub _ _ (s1' _ _ g)),fun b o g=> ?_,fun b o g=> ?_,D,ys,rfl,Sb.sub.free hD,dD, ?_,by simp [dC]⟩
  ·have g3:=Sb.sub _ _ g; rw [cE (dE g3 hD)]; exact g3
  ·by_cases hb:b=D
   ·subst hb; rw [dD] at g; cases g; trivial
   ·rw [cE hb] at g; exact Sb.smp _ _ g
  ·simpa using rl
end
noncomputable def isI:D→Bool
 | .int _=>true
 | _=>false
noncomputable def isIB:D→Bool
 | .int _=>true
 | .bl _=>true
 | _=>false
noncomputable def isB:D→Bool
 | .bl _=>true
 | _=>false
noncomputable def isT:D→Bool
 | .tup _=>true
 | _=>false
noncomputable def isL:D→Bool
 | .lst _=>true
 | .scr _=>true
 | _=>false
theorem kit_int (K:aD) (d:D):fE K (tyD d) (.type "int")=some (isIB d):=by cases d<;>with_unfolding_all rfl
theorem kit_bool (K:aD) (d:D):fE K (tyD d) (.type "bool")=some (isB d):=by cases d<;>with_unfolding_all rfl
theorem pN (K:aD) (d:D):fE K (tyD d) (.type "tuple")=some (isT d):=by cases d<;>with_unfolding_all rfl
theorem kit_list (K:aD) (d:D):fE K (tyD d) (.type "list")=some (isL d):=by cases d<;>with_unfolding_all rfl
section
variable {X:Cx} {sd:List Slot} {e a b c:Expr} {es:List Expr} {pos:Pos} {r ra rb:R} {d:D} {ds:List D} {st:Stmt} {rest:List Stmt} {E:jP}
theorem PEd.cast {r':R} (h:PEd X sd e r) (q:r=r'):PEd X sd e r':=q▸h
theorem eJ {k:Bool} {x o:List Stmt} (h:PTd X sd c k) (hk:k=false) (h2:PSd X sd o E):PSd1 X sd (.If c x o pos) E:=iK h (fun e=>by rw [hk] at e; cases e) fun _=>h2
theorem iV {k:Bool} {x o:List Stmt} (h:PTd X sd c k) (hk:k=true) (h2:PSd X sd x E):PSd1 X sd (.If c x o pos) E:=iK h (fun _=>h2) fun e=>by rw [hk] at e; cases e
theorem pP {i:Int} (ha:PEd X sd a (.bor ds)) (hb:PEd X sd b (.val (.int i))) (h0:0≤i) (hd:ds[i.toNat]? =some d) (hs:pQ b):PEd X sd (.Subscript a b pos) (.val d):=by
 have e:i=(i.toNat:Int):=by omega
 rw [e] at hb; exact sR ha hb hd hs
theorem oN {i:Int} (ha:PEd X sd a (.val (.tup ds))) (hb:PEd X sd b (.val (.int i))) (h0:0≤i) (hd:ds[i.toNat]? =some d) (hs:pQ b):PEd X sd (.Subscript a b pos) (.val d):=by
 have e:i=(i.toNat:Int):=by omega
 rw [e] at hb; exact dS ha hb hd hs
end
theorem wB {i:Int} (h:i.natAbs<2^250):Builtin.Int.intBits i≤2^20:=by
 unfold Builtin.Int.intBits
 split
 ·exact dA _
 ·rename_i hz
  have hne:i.natAbs≠0:=by
   intro z; apply hz; have:i=0:=by omega
   subst this; rfl
  have:=(Nat.log2_lt hne).mpr h; have e:(250:Nat)+1≤2^20:=by decide
  omega
theorem iF {i j:Int} (h1:i.natAbs<2^250) (h2:j.natAbs<2^250):IntMulOk i j:= .of_bits (wB h1) (wB h2)
noncomputable def most:Int:=1000 * 10^64
noncomputable def dH:List (Int × Int):=[(2,2),(1,1),(1,2),(2,1),(1,3),(3,1),(2,3),(3,2),(1,4),(4,1),(1,5),(5,1),(1,6),(6,1)]
noncomputable def dI (p:Int × Int):D:= .tup [.int p.1, .int p.2]
noncomputable def CLaw:List D→R→Prop:=fun ds r=>∃ns:List Int,ds=[.scr ns]∧ns.length≤63∧r= .val (.bl true)
theorem ints_get {ns:List Int} {k:Nat} {d:D} (h:(ns.map D.int)[k]? =some d):k<ns.length∧d= .int (ns.getD k 0):=by
 rw [bG] at h; cases e:ns[k]? with
 | none=>rw [e] at h; cases h
 | some z=>rw [e] at h; refine ⟨(aP.mp e).1, ?_⟩; rw [← dN.inj h,cY,e]; rfl
theorem getD_mem {α:Type} {l:List α} {i:Nat} {d:α} (h:i<l.length):l.getD i d∈l:=by
 have e:l.getD i d=l[i]:=by simp [cY,h]
 rw [e]; exact lQ h
theorem smp_only {H:Hp} (h:Only H):Smp H:=fun b o e=>by
 rcases h b with z | ⟨o',xs,z⟩
 ·rw [z] at e; cases e
 ·rw [z] at e; cases e; trivial
theorem walkD {l:PySem.W.OpenLaw} {k:Nat} {x:Str} {q:Program} {loose:List Str} {XP:(Str→Option Value)→Heap→Prop} {YP:World→Heap→Prop} {d:DefRec} {K:Params→aD} (hn:l.most=some 63) (hdf:d.params.defaults=[])
  (hr:Room k callerA) (hY:∀ (w:World) (h:Heap),YP w h→(K w.params).In h)
  (F:∀ (w:World) (mg:Str→Option Value) (fa:Addr) (h:Heap),(K w.params).In h→h.Ns mainGlobals mg→mg d.name=some (.ref fa)→
   ∃fd:FuncData,(∀ (s:Shared) (u:Value),BindsTo s fd ⟨[u],[]⟩ [(x,u)])∧∀base:Heap,(K w.params).In base→base.Ns mainGlobals mg→FnOk l.prog w (K w.params) mg base CX0 k fa fd [x] (spC (K w.params) 1 CLaw)):
  PySem.W.WalkO q loose XP YP l.row.toRowW d [] (fun f vs=>PySem.call f vs):=
 L2.walk_of (n:=63) (k:=k) (x:=x) (CX:=fun _=>CX0) (sp:=fun w=>spC (K w.params) 1 CLaw) hn (by decide) hdf hr hY F
  (fun w H a ns hl ho hS=>⟨rfl,smp_only ho,[.scr ns], .val (.bl true), .one (by simp only [Rep]; exact ⟨a,rfl,hS⟩),⟨ns,rfl,hl,rfl⟩,fun v H' ⟨F,_,_,_,res⟩=>by simpa only [ResOk,Rep] using res⟩) fun _ _ _ _ _ z=>z
mutual
noncomputable def deq:D→D→Bool
 | .non, .non=>true
 | .bl a, .bl b=>a==b
 | .bl a, .int b=>(if a then 1 else 0)==b
 | .int a, .bl b=>a==(if b then 1 else 0)
 | .int a, .int b=>a==b
 | .str a, .str b=>a==b
 | .tup a, .tup b=>iO a b
 | .lst a, .lst b=>iO a b
 | _,_=>false
noncomputable def iO:List D→List D→Bool
 | [],[]=>true
 | x::xs,y::ys=>deq x y && iO xs ys
 | _,_=>false
end
mutual
noncomputable def pl:D→Bool
 | .dic=>false
 | .dki _ _=>false
 | .any _=>false
 | .scr _=>false
 | .tup ds=>plL ds
 | .lst ds=>plL ds
 | _=>true
noncomputable def plL:List D→Bool
 | []=>true
 | d::ds=>pl d && plL ds
end
mutual
noncomputable def dep:D→Nat
 | .tup ds=>jJ ds+1
 | .lst ds=>jJ ds+1
 | _=>0
noncomputable def jJ:List D→Nat
 | []=>0
 | d::ds=>max (dep d) (jJ ds)
end
theorem zO:∀ {ds:List D} {i:Nat} {d:D},plL ds=true→ds[i]? =some d→pl d=true
 | [],i,d,_,e=>by simp at e
 | d'::ds,i,d,h,e=>by
  simp only [plL,bX] at h; cases i with
  | zero=>simp at e; subst e; exact h.1
  | succ i=>exact zO h.2 (by simpa using e)
theorem wH:∀ {ds:List D} {i:Nat} {d:D},ds[i]? =some d→dep d≤jJ ds
 | [],i,d,e=>by simp at e
 | d'::ds,i,d,e=>by
  simp only [jJ]; cases i with
  | zero=>simp at e; subst e; exact Nat.le_max_left _ _
  | succ i=>exact eD (wH (i:=i) (by simpa using e)) (Nat.le_max_right _ _)
theorem deqL_iff:∀ {xs ys:List D},iO xs ys=true↔xs.length=ys.length∧∀ (j:Nat) (x y:D),xs[j]? =some x→ys[j]? =some y→deq x y=true
 | [],[]=>by simp [iO]
 | [],y::ys=>by simp [iO]
 | x::xs,[]=>by simp [iO]
 | x::xs,y::ys=>by
  simp only [iO,bX,cM,deqL_iff (xs:=xs) (ys:=ys)]
  constructor
  ·rintro ⟨h1,h2,h3⟩; refine ⟨by omega,fun j a b ea eb=> ?_⟩; cases j with
   | zero=>simp at ea eb; subst ea eb; exact h1
   | succ j=>exact h3 j a b (by simpa using ea) (by simpa using eb)
  ·rintro ⟨h1,h2⟩; exact ⟨h2 0 x y rfl rfl,by omega,fun j a b ea eb=>h2 (j+1) a b (by simpa using ea) (by simpa using eb)⟩
mutual
theorem vS {K:aD} {H:Hp}:∀ {d1 d2:D} {v:V},pl d1=true→Rep K H d1 v→Rep K H d2 v→pl d2=true→deq d1 d2=true
 | .non,d2,v,_,r1,r2,_=>by simp only [Rep] at r1; subst r1; cases d2<;>simp_all [Rep,deq]
 | .bl b,d2,v,_,r1,r2,_=>by simp only [Rep] at r1; subst r1; cases d2<;>simp_all [Rep,deq]
 | .int b,d2,v,_,r1,r2,_=>by simp only [Rep] at r1; subst r1; cases d2<;>simp_all [Rep,deq]
 | .str b,d2,v,_,r1,r2,_=>by simp only [Rep] at r1; subst r1; cases d2<;>simp_all [Rep,deq]
 | .dic,_,_,h,_,_,_=>by simp [pl] at h
 | .dki _ _,_,_,h,_,_,_=>by simp [pl] at h
 | .any _,_,_,h,_,_,_=>by simp [pl] at h
 | .scr _,_,_,h,_,_,_=>by simp [pl] at h
 | .tup ds,d2,v,p1,r1,r2,p2=>by
  simp only [Rep] at r1; obtain ⟨a,xs,rfl,ha,rl⟩:=r1; cases d2 with
  | tup es=>simp only [Rep] at r2; obtain ⟨a',xs',e,ha',rl'⟩:=r2; cases e; rw [ha] at ha'; cases ha'; simp only [deq]; exact tH (by simpa [pl] using p1) rl rl' (by simpa [pl] using p2)
  | lst es=>simp only [Rep] at r2; obtain ⟨a',xs',e,ha',rl'⟩:=r2; cases e; rw [ha] at ha'; cases ha'
  | dic=>simp [pl] at p2
  | dki=>simp [pl] at p2
  | any=>simp [pl] at p2
  | scr=>simp [pl] at p2
  | _=>simp [Rep] at r2
 | .lst ds,d2,v,p1,r1,r2,p2=>by
  simp only [Rep] at r1; obtain ⟨a,xs,rfl,ha,rl⟩:=r1; cases d2 with
  | lst es=>simp only [Rep] at r2; obtain ⟨a',xs',e,ha',rl'⟩:=r2; cases e; rw [ha] at ha'; cases ha'; simp only [deq]; exact tH (by simpa [pl] using p1) rl rl' (by simpa [pl] using p2)
  | tup es=>simp only [Rep] at r2; obtain ⟨a',xs',e,ha',rl'⟩:=r2; cases e; rw [ha] at ha'; cases ha'
  | dic=>simp [pl] at p2
  | dki=>simp [pl] at p2
  | any=>simp [pl] at p2
  | scr=>simp [pl] at p2
  | _=>simp [Rep] at r2
theorem tH {K:aD} {H:Hp}:∀ {ds es:List D} {xs:List V},plL ds=true→RepL K H ds xs→RepL K H es xs→plL es=true→iO ds es=true
 | [],es,xs,_,r1,r2,_=>by
  simp only [RepL] at r1; subst r1; cases es with
  | nil=>rfl
  | cons e es=>obtain ⟨y,ys,z,_⟩:=r2.uncons; cases z
 | d::ds,es,xs,p1,r1,r2,p2=>by
  obtain ⟨y,ys,rfl,a,rl⟩:=r1.uncons; cases es with
  | nil=>simp only [RepL] at r2; cases r2
  | cons e es=>obtain ⟨y',ys',z,a',rl'⟩:=r2.uncons; cases z; simp only [plL,bX] at p1 p2; simp only [iO,bX]; exact ⟨vS p1.1 a a' p2.1,tH p1.2 rl rl' p2.2⟩
end
noncomputable def rY:D→Bool
 | .non=>true
 | .bl _=>true
 | .int _=>true
 | .str _=>true
 | _=>false
theorem uP {K:aD} {H:Hp} {d:D} {v:V} (h:rY d=true) (r:Rep K H d v):oP v=true∧flt d=some v:=by cases d<;>simp_all [rY,Rep,oP,flt]
section
variable {P:Program} {w:World} {K:aD} {H:Hp} {s:Shared}
theorem iB (hok:HOk P w H s.heap) {ds:List D} {v:V} {u:Value} (r:Rep K H (.tup ds) v) (ru:RelV v u):∃a xs its,u= .ref a∧v= .ref a∧RepL K H ds xs∧Vals xs its∧s.heap.IsTuple a its.toArray:=by simp only [Rep] at r; obtain ⟨a,xs,rfl,ha,rl⟩:=r; cases ru; obtain ⟨_,its,rv,p⟩:=(show ObjOk P w H s.heap a (.tup xs) from hok a _ ha); exact ⟨a,xs,its,rfl,rfl,rl,rv,p.tup⟩
theorem lR (hok:HOk P w H s.heap) {ds:List D} {v:V} {u:Value} (r:Rep K H (.lst ds) v) (ru:RelV v u):∃a xs its,u= .ref a∧v= .ref a∧RepL K H ds xs∧Vals xs its∧s.heap.IsList a its.toArray:=by simp only [Rep] at r; obtain ⟨a,xs,rfl,ha,rl⟩:=r; cases ru; obtain ⟨_,its,n,rv,p⟩:=(show ObjOk P w H s.heap a (.lst xs) from hok a _ ha); exact ⟨a,xs,its,rfl,rfl,rl,rv,_,p,rfl,n,rfl⟩
noncomputable def dAt (ds es:List D) (j:Nat):Bool:=match ds[j]?,es[j]? with
 | some x,some y=>deq x y
 | _,_=>false
theorem rE (ds es:List D):((cO (min ds.length es.length)).all (dAt ds es) && ds.length==es.length)=iO ds es:=by
 rw [jX,deqL_iff,bX,jF,beq_iff_eq]
 constructor
 ·rintro ⟨h1,h2⟩; refine ⟨h2,fun j x y ex ey=> ?_⟩; have hj:j<ds.length:=(aP.mp ex).1; have:=h1 j (fG.mpr (by omega)); unfold dAt at this; rw [ex,ey] at this; exact this
 ·rintro ⟨h1,h2⟩; refine ⟨fun j hj=> ?_,h1⟩; have hj':=fG.mp hj; have e1:ds[j]? =some (ds[j]'(by omega)):=by simp
  have e2:es[j]? =some (es[j]'(by omega)):=by simp
  unfold dAt; rw [e1,e2]; exact h2 j _ _ e1 e2
theorem tY {ds es:List D} (h:ds.length=es.length):(cO ds.length).all (dAt ds es)=iO ds es:=by have:=rE ds es; rw [h] at this ⊢; simpa using this
theorem wQ {ds es:List D} (h:ds.length≠es.length):iO ds es=false:=by
 cases e:iO ds es with
 | false=>rfl
 | true=>exact absurd (deqL_iff.mp e).1 h
mutual
theorem vI (hok:HOk P w H s.heap):∀ (d1:D) {d2:D} {v1 v2:V} {u1 u2:Value} {A:Around},pl d1=true→pl d2=true→Rep K H d1 v1→Rep K H d2 v2→RelV v1 u1→RelV v2 u2→A.units+dep d1<cLine→SeqAt.EqAt A s u1 u2 (deq d1 d2)
 | .tup ds,d2,v1,v2,u1,u2,A,p1,p2,r1,r2,ru1,ru2,hu=>by
  have hu':A.units<cLine:=by omega
  obtain ⟨a,xs,its,rfl,rfl,rl,rv,ht⟩:=iB hok r1 ru1; cases d2 with
  | non=>simp only [Rep] at r2; subst r2; cases ru2; exact SeqAt.EqAt.tuple_none ht hu'
  | bl b=>simp only [Rep] at r2; subst r2; cases ru2; exact SeqAt.EqAt.tuple_bool b ht hu'
  | int b=>simp only [Rep] at r2; subst r2; obtain ⟨t,rfl⟩:=ru2; exact SeqAt.EqAt.tuple_int b t ht hu'
  | str b=>simp only [Rep] at r2; subst r2; obtain ⟨t,rfl⟩:=ru2; exact SeqAt.EqAt.tuple_str b t ht hu'
  | dic=>simp [pl] at p2
  | dki=>simp [pl] at p2
  | any=>simp [pl] at p2
  | scr=>simp [pl] at p2
  | lst es=>obtain ⟨b,ys,jts,rfl,rfl,rl2,rv2,hl2⟩:=lR hok r2 ru2; exact SeqAt.EqAt.tuple_list ht hl2 hu'
  | tup es=>
   obtain ⟨b,ys,jts,rfl,e2,rl2,rv2,ht2⟩:=iB hok r2 ru2
   by_cases hab:a=b
   ·subst hab; have:=vS p1 r1 (e2▸r2) p2; rw [this]; exact SeqAt.EqAt.same _
   ·simp only [deq]; rw [← rE]; have l1:its.toArray.size=ds.length:=by rw [bE,← rv.length,rl.len]
    have l2:jts.toArray.size=es.length:=by rw [bE,← rv2.length,rl2.len]
    rw [← l1,← l2]; simp only [pl] at p1 p2; simp only [dep] at hu; refine .of_refs hab (.tuples ht ht2 hu' fun j h1 h2=> ?_); exact qT hok ds p1 p2 rl rl2 rv rv2 (A:=A.in1) (by show A.units+1+_<cLine; omega) (by simp) (by simp)
 | .lst ds,d2,v1,v2,u1,u2,A,p1,p2,r1,r2,ru1,ru2,hu=>by
  have hu':A.units<cLine:=by omega
  obtain ⟨a,xs,its,rfl,rfl,rl,rv,ht⟩:=lR hok r1 ru1; cases d2 with
  | non=>simp only [Rep] at r2; subst r2; cases ru2; exact SeqAt.EqAt.list_none ht hu'
  | bl b=>simp only [Rep] at r2; subst r2; cases ru2; exact SeqAt.EqAt.list_bool b ht hu'
  | int b=>simp only [Rep] at r2; subst r2; obtain ⟨t,rfl⟩:=ru2; exact SeqAt.EqAt.list_int b t ht hu'
  | str b=>simp only [Rep] at r2; subst r2; obtain ⟨t,rfl⟩:=ru2; exact SeqAt.EqAt.list_str b t ht hu'
  | dic=>simp [pl] at p2
  | dki=>simp [pl] at p2
  | any=>simp [pl] at p2
  | scr=>simp [pl] at p2
  | tup es=>obtain ⟨b,ys,jts,rfl,rfl,rl2,rv2,hl2⟩:=iB hok r2 ru2; exact SeqAt.EqAt.list_tuple ht hl2 hu'
  | lst es=>
   obtain ⟨b,ys,jts,rfl,e2,rl2,rv2,ht2⟩:=lR hok r2 ru2
   by_cases hab:a=b
   ·subst hab; have:=vS p1 r1 (e2▸r2) p2; rw [this]; exact SeqAt.EqAt.same _
   ·simp only [deq]; have l1:its.toArray.size=ds.length:=by rw [bE,← rv.length,rl.len]
    have l2:jts.toArray.size=es.length:=by rw [bE,← rv2.length,rl2.len]
    simp only [pl] at p1 p2; simp only [dep] at hu
    by_cases hl:ds.length=es.length
    ·rw [← tY hl,← l1]; refine .of_refs hab (.lists ht ht2 (by rw [l1,l2,hl]) hu' fun j h1 h2=> ?_); exact qT hok ds p1 p2 rl rl2 rv rv2 (A:=A.in1) (by show A.units+1+_<cLine; omega) (by simp) (by simp)
    ·rw [wQ hl]; exact .of_refs hab (.lists_lengths ht ht2 (by rw [l1,l2]; simpa using hl) hu')
 | .dic,_,_,_,_,_,_,p1,_,_,_,_,_,_=>by simp [pl] at p1
 | .dki _ _,_,_,_,_,_,_,p1,_,_,_,_,_,_=>by simp [pl] at p1
 | .any _,_,_,_,_,_,_,p1,_,_,_,_,_,_=>by simp [pl] at p1
 | .scr _,_,_,_,_,_,_,p1,_,_,_,_,_,_=>by simp [pl] at p1
 | .non,d2,v1,v2,u1,u2,A,p1,p2,r1,r2,ru1,ru2,hu=>by
  have hu':A.units<cLine:=by omega
  simp only [Rep] at r1; subst r1; cases hf:rY d2 with
  | true=>obtain ⟨h1,h2⟩:=uP hf r2; have:=vK (A:=A) (s:=s) ru1 ru2 rfl h1; cases d2<;>simp_all [rY,flt,Rep,deq,eqV]
  | false=>
   cases ru1; cases d2 with
   | tup es=>obtain ⟨b,ys,jts,rfl,e2,rl2,rv2,ht2⟩:=iB hok r2 ru2; exact SeqAt.EqAt.none_tuple ht2 hu'
   | lst es=>obtain ⟨b,ys,jts,rfl,e2,rl2,rv2,ht2⟩:=lR hok r2 ru2; exact SeqAt.EqAt.none_list ht2 hu'
   | dic=>simp [pl] at p2
   | dki=>simp [pl] at p2
   | any=>simp [pl] at p2
   | scr=>simp [pl] at p2
   | _=>simp [rY] at hf
 | .bl q,d2,v1,v2,u1,u2,A,p1,p2,r1,r2,ru1,ru2,hu=>by
  have hu':A.units<cLine:=by omega
  simp only [Rep] at r1; subst r1; cases hf:rY d2 with
  | true=>obtain ⟨h1,h2⟩:=uP hf r2; have:=vK (A:=A) (s:=s) ru1 ru2 rfl h1; cases d2<;>simp_all [rY,flt,Rep,deq,eqV]
  | false=>
   cases ru1; cases d2 with
   | tup es=>obtain ⟨b,ys,jts,rfl,e2,rl2,rv2,ht2⟩:=iB hok r2 ru2; exact SeqAt.EqAt.bool_tuple q ht2 hu'
   | lst es=>obtain ⟨b,ys,jts,rfl,e2,rl2,rv2,ht2⟩:=lR hok r2 ru2; exact SeqAt.EqAt.bool_list q ht2 hu'
   | dic=>simp [pl] at p2
   | dki=>simp [pl] at p2
   | any=>simp [pl] at p2
   | scr=>simp [pl] at p2
   | _=>simp [rY] at hf
 | .int q,d2,v1,v2,u1,u2,A,p1,p2,r1,r2,ru1,ru2,hu=>by
  have hu':A.units<cLine:=by omega
  simp only [Rep] at r1; subst r1; cases hf:rY d2 with
  | true=>obtain ⟨h1,h2⟩:=uP hf r2; have:=vK (A:=A) (s:=s) ru1 ru2 rfl h1; cases d2<;>simp_all [rY,flt,Rep,deq,eqV]
  | false=>
   obtain ⟨t,rfl⟩:=ru1; cases d2 with
   | tup es=>obtain ⟨b,ys,jts,rfl,e2,rl2,rv2,ht2⟩:=iB hok r2 ru2; exact SeqAt.EqAt.int_tuple q t ht2 hu'
   | lst es=>obtain ⟨b,ys,jts,rfl,e2,rl2,rv2,ht2⟩:=lR hok r2 ru2; exact SeqAt.EqAt.int_list q t ht2 hu'
   | dic=>simp [pl] at p2
   | dki=>simp [pl] at p2
   | any=>simp [pl] at p2
   | scr=>simp [pl] at p2
   | _=>simp [rY] at hf
 | .str q,d2,v1,v2,u1,u2,A,p1,p2,r1,r2,ru1,ru2,hu=>by
  have hu':A.units<cLine:=by omega
  simp only [Rep] at r1; subst r1; cases hf:rY d2 with
  | true=>obtain ⟨h1,h2⟩:=uP hf r2; have:=vK (A:=A) (s:=s) ru1 ru2 rfl h1; cases d2<;>simp_all [rY,flt,Rep,deq,eqV]
  | false=>
   obtain ⟨t,rfl⟩:=ru1; cases d2 with
   | tup es=>obtain ⟨b,ys,jts,rfl,e2,rl2,rv2,ht2⟩:=iB hok r2 ru2; exact SeqAt.EqAt.str_tuple q t ht2 hu'
   | lst es=>obtain ⟨b,ys,jts,rfl,e2,rl2,rv2,ht2⟩:=lR hok r2 ru2; exact SeqAt.EqAt.str_list q t ht2 hu'
   | dic=>simp [pl] at p2
   | dki=>simp [pl] at p2
   | any=>simp [pl] at p2
   | scr=>simp [pl] at p2
   | _=>simp [rY] at hf
theorem qT (hok:HOk P w H s.heap):∀ (ds:List D) {es:List D} {xs ys:List V} {its jts:List Value} {j:Nat} {x y:Value} {A:Around},plL ds=true→plL es=true→RepL K H ds xs→RepL K H es ys→Vals xs its→Vals ys jts→A.units+jJ ds<cLine→its[j]? =some x→jts[j]? =some y→SeqAt.EqAt A s x y (dAt ds es j)
 | [],es,xs,ys,its,jts,j,x,y,A,_,_,r1,_,v1,_,_,e1,_=>by simp only [RepL] at r1; subst r1; cases v1; simp at e1
 | d::ds,es,xs,ys,its,jts,j,x,y,A,p1,p2,r1,r2,v1,v2,hu,e1,e2=>by
  obtain ⟨a,as,rfl,ra,rl⟩:=r1.uncons; cases v1 with
  | cons va vas=>
   cases es with
   | nil=>simp only [RepL] at r2; subst r2; cases v2; simp at e2
   | cons e es=>
    obtain ⟨b,bs,rfl,rb,rl2⟩:=r2.uncons; cases v2 with
    | cons vb vbs=>
     simp only [plL,bX] at p1 p2; simp only [jJ] at hu; cases j with
     | zero=>simp at e1 e2; subst e1 e2; exact vI hok d p1.1 p2.1 ra rb va vb (by omega)
     | succ j=>exact qT hok ds p1.2 p2.2 rl rl2 vas vbs (by omega) (by simpa using e1) (by simpa using e2)
end
end
section
variable {X:Cx} {sd:List Slot} {e a b c:Expr} {es:List Expr} {pos:Pos} {r ra rb:R} {d:D} {ds:List D} {st:Stmt} {rest:List Stmt} {E:jP}
theorem rc_D {pins:List (Addr × Obj)} {σ:St} {H:Hp} {s:Shared} {K:aD} {d1 d2:D} {v u:V} {x y:Value} {Q:Value→Shared→Prop} (I:Inv X pins σ H s) (hs:(isT d1=true∧isT d2=true)∨(isL d1=true∧isL d2=true)) (p1:pl d1=true) (p2:pl d2=true) (r1:Rep K H d1 v) (r2:Rep K H d2 u) (rx:RelV v x) (ry:RelV u y)
  (hu:X.A.units+dep d1+1<cLine) (q:Q (.bool (deq d1 d2)) s):wpAny (model X.prog X.w) X.A (compareOp .Eq x y) Q X.xe s:=by
 have hu':X.A.units<cLine:=by omega
 rcases hs with ⟨t1,t2⟩ | ⟨t1,t2⟩
 ·cases d1<;>first | (simp [isT] at t1; done) | skip
  cases d2<;>first | (simp [isT] at t2; done) | skip
  rename_i ds es; obtain ⟨a,xs,its,rfl,rfl,rl,rv,ht⟩:=iB I.hok r1 rx; obtain ⟨b,ys,jts,rfl,rfl,rl2,rv2,ht2⟩:=iB I.hok r2 ry; have l1:its.toArray.size=ds.length:=by rw [bE,← rv.length,rl.len]
  have l2:jts.toArray.size=es.length:=by rw [bE,← rv2.length,rl2.len]
  simp only [pl] at p1 p2; simp only [dep] at hu; simp only [deq] at q; rw [← rE,← l1,← l2] at q; exact SeqAt.eq_tupleAt ht ht2 hu' (fun j h1 h2=>qT I.hok ds p1 p2 rl rl2 rv rv2 (A:=X.A.in1) (by show X.A.units+1+_<cLine; omega) (by simp) (by simp)) q
 ·cases d1<;>first | (simp [isL] at t1; done) | (simp [pl] at p1; done) | skip
  cases d2<;>first | (simp [isL] at t2; done) | (simp [pl] at p2; done) | skip
  rename_i ds es; obtain ⟨a,xs,its,rfl,rfl,rl,rv,ht⟩:=lR I.hok r1 rx; obtain ⟨b,ys,jts,rfl,rfl,rl2,rv2,ht2⟩:=lR I.hok r2 ry; have l1:its.toArray.size=ds.length:=by rw [bE,← rv.length,rl.len]
  have l2:jts.toArray.size=es.length:=by rw [bE,← rv2.length,rl2.len]
  simp only [pl] at p1 p2; simp only [dep] at hu; simp only [deq] at q
  by_cases hl:ds.length=es.length
  ·rw [← tY hl,← l1] at q; exact SeqAt.eq_listAt ht ht2 (by rw [l1,l2,hl]) hu' (fun j h1 h2=>qT I.hok ds p1 p2 rl rl2 rv rv2 (A:=X.A.in1) (by show X.A.units+1+_<cLine; omega) (by simp) (by simp)) q
  ·rw [wQ hl] at q; exact SeqAt.eq_list_lengthsAt ht ht2 (by rw [l1,l2]; simpa using hl) hu' q
theorem rc_Dn {pins:List (Addr × Obj)} {σ:St} {H:Hp} {s:Shared} {K:aD} {d1 d2:D} {v u:V} {x y:Value} {Q:Value→Shared→Prop} (I:Inv X pins σ H s) (hs:(isT d1=true∧isT d2=true)∨(isL d1=true∧isL d2=true)) (p1:pl d1=true) (p2:pl d2=true) (r1:Rep K H d1 v) (r2:Rep K H d2 u) (rx:RelV v x) (ry:RelV u y)
  (hu:X.A.units+dep d1+1<cLine) (q:Q (.bool (!deq d1 d2)) s):wpAny (model X.prog X.w) X.A (compareOp .NotEq x y) Q X.xe s:=by
 have hu':X.A.units<cLine:=by omega
 rcases hs with ⟨t1,t2⟩ | ⟨t1,t2⟩
 ·cases d1<;>first | (simp [isT] at t1; done) | skip
  cases d2<;>first | (simp [isT] at t2; done) | skip
  rename_i ds es; obtain ⟨a,xs,its,rfl,rfl,rl,rv,ht⟩:=iB I.hok r1 rx; obtain ⟨b,ys,jts,rfl,rfl,rl2,rv2,ht2⟩:=iB I.hok r2 ry; have l1:its.toArray.size=ds.length:=by rw [bE,← rv.length,rl.len]
  have l2:jts.toArray.size=es.length:=by rw [bE,← rv2.length,rl2.len]
  simp only [pl] at p1 p2; simp only [dep] at hu; simp only [deq] at q; rw [← rE,← l1,← l2] at q; exact SeqAt.RcNeAt.tuples ht ht2 hu' (fun j h1 h2=>qT I.hok ds p1 p2 rl rl2 rv rv2 (A:=X.A.in1) (by show X.A.units+1+_<cLine; omega) (by simp) (by simp)) _ _ _ _ q
 ·cases d1<;>first | (simp [isL] at t1; done) | (simp [pl] at p1; done) | skip
  cases d2<;>first | (simp [isL] at t2; done) | (simp [pl] at p2; done) | skip
  rename_i ds es; obtain ⟨a,xs,its,rfl,rfl,rl,rv,ht⟩:=lR I.hok r1 rx; obtain ⟨b,ys,jts,rfl,rfl,rl2,rv2,ht2⟩:=lR I.hok r2 ry; have l1:its.toArray.size=ds.length:=by rw [bE,← rv.length,rl.len]
  have l2:jts.toArray.size=es.length:=by rw [bE,← rv2.length,rl2.len]
  simp only [pl] at p1 p2; simp only [dep] at hu; simp only [deq] at q
  by_cases hl:ds.length=es.length
  ·rw [← tY hl,← l1] at q; exact SeqAt.RcNeAt.lists ht ht2 (by rw [l1,l2,hl]) hu' (fun j h1 h2=>qT I.hok ds p1 p2 rl rl2 rv rv2 (A:=X.A.in1) (by show X.A.units+1+_<cLine; omega) (by simp) (by simp)) _ _ _ _ q
  ·rw [wQ hl] at q; exact SeqAt.RcNeAt.lists_lengths ht ht2 (by rw [l1,l2]; simpa using hl) hu' _ _ _ _ q
theorem ResOk.rep {K:aD} {H₀ F H:Hp} {σ:St} {v:V} (S:StF K H₀ F H σ sd) (hk:r.keeps) (q:ResOk K F H sd r v):Rep K H r.toD v:=by
 cases r with
 | val d=>exact Rep.mono S.sub q
 | own ds=>exact hk.elim
 | pr d ls=>exact hk.elim
 | ox G=>exact hk.elim
 | bor ds=>obtain ⟨l,xs,e,hl,rl,_⟩:=q; simp only [R.toD,Rep]; exact ⟨l,xs,e,hl,rl.mono S.sub⟩
theorem op_eqD (K:aD) (d1 d2:D) (hs:(isT d1=true∧isT d2=true)∨(isL d1=true∧isL d2=true)) (p1:pl d1=true) (p2:pl d2=true) (hu:X.A.units+dep d1+1<cLine):OpR X (compareOp .Eq) (fun x y H Q=>Rep K H d1 x∧Rep K H d2 y∧Q (.bl (deq d1 d2)) H):=by intro pins s σ H x y v u Q I rx ry h; obtain ⟨h1,h2,q⟩:=h; exact rc_D I hs p1 p2 h1 h2 rx ry hu ⟨.bl (deq d1 d2),H,I,rfl,q⟩
theorem op_neD (K:aD) (d1 d2:D) (hs:(isT d1=true∧isT d2=true)∨(isL d1=true∧isL d2=true)) (p1:pl d1=true) (p2:pl d2=true) (hu:X.A.units+dep d1+1<cLine):OpR X (compareOp .NotEq) (fun x y H Q=>Rep K H d1 x∧Rep K H d2 y∧Q (.bl (!deq d1 d2)) H):=by intro pins s σ H x y v u Q I rx ry h; obtain ⟨h1,h2,q⟩:=h; exact rc_Dn I hs p1 p2 h1 h2 rx ry hu ⟨.bl (!deq d1 d2),H,I,rfl,q⟩
theorem pd_eqD (ha:PEd X sd a ra) (hb:PEd X sd b rb) (ka:ra.keeps) (kb:rb.keeps) (hs:(isT ra.toD=true∧isT rb.toD=true)∨(isL ra.toD=true∧isL rb.toD=true)) (p1:pl ra.toD=true) (p2:pl rb.toD=true) (hu:X.A.units+dep ra.toD+1<cLine):PEd X sd (.Compare a [.Eq] [b] pos) (.val (.bl (deq ra.toD rb.toD))):=
 pd_cmp2 (op_eqD X.K _ _ hs p1 p2 hu) ha hb ka (iU _) fun σ F H v u Q S q1 q2 k=>⟨q1.rep S ka,q2.rep S kb,k F H S (Same.refl _)⟩
theorem ptd_neD (ha:PEd X sd a ra) (hb:PEd X sd b rb) (ka:ra.keeps) (kb:rb.keeps) (hs:(isT ra.toD=true∧isT rb.toD=true)∨(isL ra.toD=true∧isL rb.toD=true)) (p1:pl ra.toD=true) (p2:pl rb.toD=true) (hu:X.A.units+dep ra.toD+1<cLine):PTd X sd (.Compare a [.NotEq] [b] pos) (!deq ra.toD rb.toD):=
 lM (op_neD X.K _ _ hs p1 p2 hu) ha hb ka (iU _) fun σ F H v u Q S q1 q2 k=>⟨q1.rep S ka,q2.rep S kb,k F H S (Same.refl _)⟩
noncomputable def rCatT0 (K:aD):R2:=fun x y H Q=>∃a b ys,x= .ref a∧y= .ref b∧SqT K H a []∧SqT K H b ys∧Q (.ref b) H
theorem op_catT0:OpR X (binaryOp .Add) (rCatT0 X.K):=by
 intro pins s σ H x y v u Q I rx ry h; obtain ⟨a,b,ys,rfl,rfl,ha,hb,q⟩:=h; cases rx; cases ry; obtain ⟨its,r1,p1,_⟩:=I.tuple ha; obtain ⟨its2,r2,p2,_⟩:=I.tuple hb; cases r1; obtain ⟨⟨cls,dd,data,sl⟩,ho,hc,n,hd⟩:=id p1; obtain ⟨⟨cls2,dd2,data2,sl2⟩,ho2,hc2,n2,hd2⟩:=id p2; simp only at hc hd hc2 hd2; subst hc hd hc2 hd2
 exact concat_meets ⟨_,ho,rfl⟩ ⟨_,ho2,rfl⟩ noFill_tuple_add seq_tuple_add oO nZ (nH _ _)
  (tuple_addW0 a b ([]:List Value).toArray its2.toArray n n2 dd dd2 sl sl2 (by simp)) ⟨ho,ho2,⟨.ref b,H,I,rfl,q⟩⟩
theorem mV {d1 d2:List D} (ha:PEd X sd a (.val (.tup d1))) (hb:PEd X sd b (.val (.tup d2))) (hl:d1.length+d2.length≤1000):PEd X sd (.BinOp a .Add b pos) (.val (.tup (d1++d2))):=
 pd_op2 (op_catT0.or op_catT) ha hb trivial fun σ F H v u Q S q1 q2 k=>by
  simp only [ResOk,Rep] at q1 q2; obtain ⟨p,xs,e1,hp,rl⟩:=q1; obtain ⟨q,ys,e2,hq,rl2⟩:=q2; cases d1 with
  | nil=>simp only [RepL] at rl; subst rl; refine .inl ⟨p,q,ys,e1,e2, .of (S.sub _ _ hp), .of (S.sub _ _ hq),k _ F H S (Same.refl _) ?_⟩; simp only [ResOk,Rep,xE]; exact ⟨q,ys,rfl,hq,rl2⟩
  | cons z zs=>
   refine .inr ⟨p,q,xs,ys,e1,e2, .of (S.sub _ _ hp), .of (S.sub _ _ hq), ?_,by rw [rl.len,rl2.len]; exact eX (gW hl),fun hy=> ?_,fun hy p2 hp2=> ?_⟩
   ·intro hx; subst hx; obtain ⟨_,_,w,_⟩:=rl.uncons; cases w
   ·subst hy
    have:d2=[]:=by
     cases d2 with
     | nil=>rfl
     | cons w ws=>obtain ⟨_,_,w,_⟩:=rl2.uncons; cases w
    subst this; refine k _ F H S (Same.refl _) ?_; simp only [ResOk,Rep,dY]; exact ⟨p,xs,rfl,hp,rl⟩
   ·obtain ⟨S2,s2⟩:=S.lay (o:= .tup (xs++ys)) hp2 trivial; refine k _ _ _ S2 s2 ?_; simp only [ResOk,Rep]; exact ⟨p2,_,rfl,dD,(rl.app rl2).mono s2⟩
theorem kU {p:Pos} (hg:Gl X "tuple") (hm:X.mg "tuple"=none) (ha:PEd X sd e (.bor ds)) (hst:starEach [e] X.env=(false,eval e X.env)::starEach [] X.env:=by rfl):PEd X sd (.Call (.Name "tuple" p) [e] [] pos) (.val (.tup ds)):=
 sY (he:=hst) xG hg hm PyProof.Rows.boot_tuple (aH ha bD trivial hst) fun σ F H vs Q S q k=>by
  cases q with
  | cons q1 q2=>cases q2; obtain ⟨p,xs,rfl,hp,rl,_⟩:=q1; refine ⟨p,xs,rfl, .inl ⟨.of hp,fun l hl=> ?_⟩⟩; obtain ⟨S2,s2⟩:=S.lay (o:= .tup xs) hl trivial; refine k _ _ _ S2 s2 ?_; simp only [ResOk,Rep]; exact ⟨l,xs,rfl,dD,rl.mono s2⟩
end
noncomputable def Ite (K:aD) (a:Addr):It:=
 ⟨fun i H=>∃xs x,SqL K H a xs∧xs[i]? =some x,fun i H x H'=>∃p v,x= .ref p∧H p=none∧H'=upd H p (.tup [.int i,v])∧∀xs,SqL K H a xs→xs[i]? =some v,fun i H=>∃xs,SqL K H a xs∧xs.length≤i⟩
theorem inv_two {X:Cx} {pins:List (Addr × Obj)} {σ:St} {H:Hp} {s:Shared} {h':Heap} {t':Nat} {e it:Addr} (I:Inv X pins σ H s) (k:∀b o,b≠e→b≠it→s.heap.get? b=some o→h'.get? b=some o) (f1:vJ X pins H e) (f2:vJ X pins H it):Inv X pins σ H {s with heap:=h',toks:=t'}:=by
 have nit:∀b u,H b=some u→b≠e∧b≠it:=fun b u q=>⟨fun z=>(by rw [z,f1.1] at q; cases q),fun z=>(by rw [z,f2.1] at q; cases q)⟩
 have ne:∀b,b∉[e,it]→b≠e∧b≠it:=fun b hc=>⟨fun z=>hc (by simp [z]),fun z=>hc (by simp [z])⟩
 refine I.step (g':=s.gens) (d':=s.drawn) (ch:=[e,it]) (fun b hb=> ?_) (fun b o _ _ hc q _=>k b o (ne b hc).1 (ne b hc).2 q) (fun b o _ _ hc q _=>⟨o.slots,k b o (ne b hc).1 (ne b hc).2 q⟩) (fun _ _ _ _ n=>n)
  (fun b o hc q=>⟨o,k b o (ne b hc).1 (ne b hc).2 q⟩) (fun _ _ q=>q) (fun _ _ _ q=>q) (fun b ps q=>⟨#[],by rw [q]; simp⟩) (fun m hm=> ?_) (fun b u q=> ?_) I.bare
 ·rcases bV.mp hb with z | hb
  ·subst z; exact ⟨f1.2.2.2.1,f1.2.1,f1.2.2.2.2.1,f1.2.2.2.2.2⟩
  ·have z:b=it:=by simpa using hb
   subst z; exact ⟨f2.2.2.2.1,f2.2.1,f2.2.2.2.2.1,f2.2.2.2.2.2⟩
 ·obtain ⟨o,es,ep,ho,r⟩:=hm; exact ⟨o,es,ep,k _ o (Ne.symm f1.2.1) (Ne.symm f2.2.1) ho,r⟩
 ·refine (I.hok b u q).stay (fun c v hc g=> ?_) (fun _ g=>g) fun _ _ g=>g
  rcases hc with z | z
  ·rw [z] at g ⊢; exact k b v (nit b u q).1 (nit b u q).2 g
  ·exact k c v (nit c _ z).1 (nit c _ z).2 g
theorem turn_enum {P:Program} {w:World} {K:aD} {elts:List Expr} {kk:Nat} {pos:Pos} (a e it:Addr) (hei:e≠it):Turn P w K (.Tuple elts kk pos) (Ite K a) [e,it] e (fun i h=>(∃old,IsEnum h e it i old)∧h.IsListIter it a i) where
 mem:=by simp
 obj:=fun i h st b hb=>by
  obtain ⟨⟨old,he⟩,hit⟩:=st
  rcases bV.mp hb with z | hb
  ·subst z; exact ⟨_,he,fun v z=>by cases z⟩
  ·have z:b=it:=by simpa using hb
   subst z; obtain ⟨o,q,c,d⟩:=hit; exact ⟨o,q,fun v z=>by rw [d] at z; cases z⟩
 keep:=fun i h h' st k=>by obtain ⟨⟨old,he⟩,hit⟩:=st; exact ⟨⟨old,k e (by simp) _ he⟩,hit.at fun o q=>k it (by simp) o q⟩
 item:=by
  intro X hP hw hK hc i pins s σ H E I hf st hg; subst hP hw hK; obtain ⟨⟨old,he⟩,hit⟩:=st; obtain ⟨xs,x,hq,hx⟩:=hg; obtain ⟨its,rv,p,hz⟩:=I.list hq; obtain ⟨u,hu,ru⟩:=rv.get hx; have f1:=hf e (by simp); have f2:=hf it (by simp); refine wpAny_pyNext_enum_item he hit p.isList (x:=u) (by simpa using hu) hei fun h1 heo hit1 ht1 hz1 hk1=> ?_
  refine ⟨_,rfl,wpAny_letOwnedTupleGo_enum heo fun h2 he2 hs2=> ?_⟩; have hs2:Heap.SameBut e h1 h2:=hs2; have esz:e<s.heap.objs.size:=bB he; have isz:it<s.heap.objs.size:=by obtain ⟨_,q,_⟩:=hit; exact bB q
  have I1:Inv X pins σ H {s with heap:=h2,toks:=s.toks+1}:=inv_two I (fun b o h1' h2' q=>(hs2.2 b h1').trans (hk1 b o h1' h2' q)) f1 f2; have hn:H s.heap.objs.size=none:=I.hok.fresh (aX _); have g2:h2.get? s.heap.objs.size=some {cls:= .type "tuple",data:= .seq #[.int i s.toks,u]}:=(hs2.2 _ (hV esz)).trans ht1
  have I2:Inv X pins σ (upd H s.heap.objs.size (.tup [.int i,x])) {s with heap:=h2,toks:=s.toks+1}:=by
   refine I1.track hn I.sz (hV I.lt) (fun y c q=> ?_) (fun y hy=> ?_) ⟨by show 2≤sizeLine; decide,[.int i s.toks,u], .cons ⟨_,rfl⟩ (.cons ru .nil),⟨_,g2,rfl,⟨_,rfl⟩,rfl⟩⟩
   ·obtain ⟨v,o,ho,_⟩:=I.cell y c q; exact cH (bB ho)
   ·exact cH (bB (I.pin y hy).1)
  refine ⟨.ref s.heap.objs.size,_,I2,rfl,⟨_,x,rfl,hn,rfl,fun ys hy=>by rw [I.list_inj hy hq]; exact hx⟩,⟨⟨u, ?_⟩, ?_⟩,fun b hb=> ?_⟩
  ·have:((i+1:Nat):Int)=(i:Int)+1:=by push_cast; rfl
   rw [this]; exact he2
  ·exact hit1.at fun o q=>(hs2.2 it (Ne.symm hei)).trans q
  ·rcases bV.mp hb with z | hb
   ·subst z; rw [cE (cH esz)]; exact f1.1
   ·have z:b=it:=by simpa using hb
    subst z; rw [cE (cH isz)]; exact f2.1
 done:=by intro X hP hw hK hc i pins s σ H E I hf st hg; subst hP hw hK; obtain ⟨⟨old,he⟩,hit⟩:=st; obtain ⟨xs,hq,hx⟩:=hg; obtain ⟨its,rv,p,hz⟩:=I.list hq; obtain ⟨f0,f1,f2,f3,f4,f5⟩:=hf it (by simp); have hl:=rv.length; exact wpAny_pyNext_enum_end (I.ok.hd hc) he hit p.isList (by simp; omega) fun h' eb=>⟨rfl,I.turned (t':=s.toks) (fun b o hb q=>eb b o hb q) f0 f1 f3 f4 f5⟩
 self:=fun _ _ _ _ _ st h=>by obtain ⟨⟨old,he⟩,_⟩:=st; exact wpAny_pyIter_enum he h
section
variable {X:Cx} {sd:List Slot} {e a b c tg iter:Expr} {es:List Expr} {pos:Pos} {r ra rb:R} {d:D} {ds:List D} {st:Stmt} {rest:List Stmt} {E:jP}
noncomputable def iEnum (K:aD) (ta:TA):TI:=fun σ H R=>ta σ H fun vs H1=>∃l,vs=[.ref l]∧(∃xs,SqL K H1 l xs)∧R (Ite K l) H1
theorem pi_enum {elts:List Expr} {kk:Nat} {tp:Pos} {ta:TA} {p:Pos} (hg:Gl X "enumerate") (hm:X.mg "enumerate"=none) (ha:PA X [a] ta) (hs:starEach [a] X.env=[(false,eval a X.env)]:=by rfl):PI X (.Tuple elts kk tp) (.Call (.Name "enumerate" p) [a] [] pos) (iEnum X.K ta):=by
 intro pins s σ H R I h; refine Call_ (oZ I hg hm boot_enumerate (PyProof.Rows.callWith_type1 (thn (ha pos pins s σ H _ I h) fun us s1 ⟨vs,H1,I1,r1,q1⟩=> ?_) hs rfl)); obtain ⟨l,rfl,⟨xs,hq⟩,q⟩:=q1; cases r1 with
 | cons r rr=>
  cases rr; cases r; obtain ⟨its,rv,p,hz⟩:=I1.list hq; refine call_enumerate_list p.isList fun h' he hit hsz hk=> ?_
  refine wpAny_pyIter_enum he ?_; have I2:Inv X pins σ H1 {s1 with heap:=h'}:=I1.kept (t':=s1.toks) hk; refine ⟨s1.heap.objs.size+1,[s1.heap.objs.size+1,s1.heap.objs.size],_,Ite X.K l,H1,rfl,I2,turn_enum l _ _ (Nat.succ_ne_self _),⟨⟨_,he⟩,hit⟩,fun b hb=> ?_,q⟩
  rcases bV.mp hb with z | hb
  ·subst z; exact I1.fpOk (kJ _) (I1.hok.fresh (kJ _))
  ·have z:b=s1.heap.objs.size:=by simpa using hb
   subst z; exact I1.fpOk (aX _) (I1.hok.fresh (aX _))
noncomputable def vN (ds:List D):List D:=(cO ds.length).map fun (i:Nat)=>D.tup [.int (i:Int),ds.getD i .non]
theorem sP (ds:List D):(vN ds).length=ds.length:=by simp [vN]
theorem xT {ds:List D} {i:Nat} {d:D} (h:(vN ds)[i]? =some d):∃x,ds[i]? =some x∧d= .tup [.int (i:Int),x]:=by
 unfold vN at h; rw [bG] at h
 by_cases hi:i<ds.length
 ·rw [List.getElem?_range hi] at h; refine ⟨ds[i],by simp [hi], ?_⟩; rw [← dN.inj h]; simp [cY,hi]
 ·rw [iP (by simpa using hi)] at h; cases h
noncomputable def LP (K:aD) (l:Addr) (ds:List D):Hp→Hp→Prop:=fun F H=>∃xs,H l=some (.lst xs)∧RepL K F ds xs
theorem itd_enum {F₁:Hp} {l:Addr}:ItD X.K F₁ (LP X.K l ds) (Ite X.K l) (vN ds):=fun F H _ sH sm hP i=>by
 obtain ⟨xs,hl,rl⟩:=hP; refine ⟨fun hi=> ?_,fun hi=> ?_,fun x H' d hd y=> ?_⟩
 ·rw [sP] at hi; exact ⟨xs,xs[i]'(by rw [rl.len]; exact hi), .of hl,by simp [rl.len,hi]⟩
 ·rw [sP] at hi; exact ⟨xs, .of hl,by rw [rl.len]; exact hi⟩
 ·obtain ⟨p,v,rfl,hp,rfl,hv⟩:=y; obtain ⟨z,hz,rfl⟩:=xT hd; have hv:=hv xs (.of hl); obtain ⟨v',h1,rz⟩:=rl.get hz; rw [hv] at h1; cases h1; have fp:F p=none:=sH.free hp; have s1:Same F (upd F p (.tup [.int i,v])):=fun b u q=>by rw [cE (dE q fp)]; exact q
  refine ⟨upd F p (.tup [.int i,v]),s1, ?_,fun H₀ σ sd S=>(S.lay (o:= .tup [.int i,v]) hp trivial).1⟩; simp only [Rep]; exact ⟨p,_,rfl,dD, .cons (by simp only [Rep]) (.one (rz.mono s1))⟩
theorem pid_enum {elts:List Expr} {kk:Nat} {tp p:Pos} (hg:Gl X "enumerate") (hm:X.mg "enumerate"=none) (ha:PEd X sd a (.val (.lst ds))) (hst:starEach [a] X.env=[(false,eval a X.env)]:=by rfl):
  PId X sd PT0 (.Tuple elts kk tp) (.Call (.Name "enumerate" p) [a] [] pos) (vN ds):= .mk fun σ F H S=>
 (pi_enum hg hm zS hst).to ((aH ha bD trivial (by rw [hst]; rfl) σ F H S).imp fun vs H1 ⟨F1,S1,s1,q1⟩=>by
  cases q1 with
  | cons q1 q2=>
   cases q2; simp only [ResOk,Rep] at q1; obtain ⟨l,xs,rfl,hl,rl⟩:=q1; refine ⟨l,rfl,⟨xs, .of (S1.sub _ _ hl)⟩,F1,S1,s1,fun F' H' sF sH sm _ i=> ?_⟩
   exact itd_enum (X:=X) (F₁:=F1) F' H' sF sH sm ⟨xs,sH _ _ (sF _ _ hl),rl.mono sF⟩ i)
theorem ints_at {ns:List Int} {us:List Value} (r:Vals (ns.map V.int) us) {i:Nat} {u:Value} (h:us[i]? =some u):i<ns.length∧∃t,u= .int (ns.getD i 0) t:=by
 have hl:=r.length; rw [aG] at hl; have hi:i<us.length:=(aP.mp h).1
 have e:(ns.map V.int)[i]? =some (.int (ns.getD i 0)):=by
  rw [bG]; have:i<ns.length:=by omega
  simp [cY,this]
 obtain ⟨u',h1,t,h2⟩:=r.get e; rw [h] at h1; cases h1; exact ⟨by omega,t,h2⟩
noncomputable def cutD (ds:List D) (lo hi:Option Int):List D:=(ds.drop (HT.sIx ds.length 0 lo)).take (HT.sIx ds.length ds.length hi - HT.sIx ds.length 0 lo)
theorem RepL.cut {K:aD} {H:Hp} {xs:List V} (r:RepL K H ds xs) (lo hi:Option Int):RepL K H (cutD ds lo hi) (cutV xs lo hi):=by unfold cutD cutV; rw [r.len]; exact (r.drop _).take _
noncomputable def POd (X:Cx) (sd:List Slot) (e:Option Expr) (o:Option Int):Prop:=match e,o with
 | none,none=>True
 | some e,some i=>PEd X sd e (.val (.int i))
 | _,_=>False
theorem pod_run {eo:Option Expr} {o:Option Int} (h:POd X sd eo o):∃t:TO,PO X eo t∧∀ (σ:St) (F H:Hp),StF X.K X.B₀ F H σ sd→∀Q:Option Int→Hp→Prop,(∀F' H',StF X.K X.B₀ F' H' σ sd→Same F F'→Q o H')→t σ H Q:=by
 cases eo with
 | none=>
  cases o with
  | none=>exact ⟨_,po_none,fun σ F H S Q k=>k F H S (Same.refl _)⟩
  | some i=>exact h.elim
 | some e=>
  cases o with
  | none=>exact h.elim
  | some i=>have h:PEd X sd e (.val (.int i)):=h; refine ⟨_,po_some gS,fun σ F H S Q k=>(h σ F H S).imp fun v H1 ⟨F1,S1,s1,q1⟩=> ?_⟩; simp only [ResOk,Rep] at q1; exact ⟨i,q1,k F1 H1 S1 s1⟩
theorem pd_slT {lo hi:Option Expr} {ol oh:Option Int} {p2:Pos} (ha:PEd X sd a (.val (.tup ds))) (hl:POd X sd lo ol) (hh:POd X sd hi oh) (hn:¬ (HT.sIx ds.length 0 ol=0∧HT.sIx ds.length ds.length oh=ds.length)):PEd X sd (.Subscript a (.Slice lo hi none p2) pos) (.val (.tup (cutD ds ol oh))):= .mk fun σ F H S=>by obtain ⟨tl,pl,kl⟩:=pod_run hl; obtain ⟨th,ph,kh⟩:=pod_run hh; refine (pe_slice sl_tup gS pl ph).to ((ha σ F H S).imp fun v H1 ⟨F1,S1,s1,q1⟩=>kl σ F1 H1 S1 _ fun F2 H2 S2 s2=>kh σ F2 H2 S2 _ fun F3 H3 S3 s3=> ?_); have q1:=Rep.mono (s2.trans s3) q1; simp only [Rep] at q1; obtain ⟨l,xs,rfl,hl',rl⟩:=q1; refine ⟨l,xs,rfl, .of (S3.sub _ _ hl'),by rw [rl.len]; exact hn,fun p hp=> ?_⟩; obtain ⟨S4,s4⟩:=S3.lay (o:= .tup (cutV xs ol oh)) hp trivial; refine ⟨_,S4,((s1.trans s2).trans s3).trans s4, ?_⟩; simp only [ResOk,Rep]; exact ⟨p,_,rfl,dD,(rl.cut ol oh).mono s4⟩
theorem pd_neg {i:Int} (ha:PEd X sd a (.val (.int i))):PEd X sd (.UnaryOp .USub a pos) (.val (.int (-i))):= .mk fun σ F H S=>
 (pe_un un_neg gS).to ((ha σ F H S).imp fun v H1 ⟨F1,S1,s1,q1⟩=>by
  simp only [ResOk,Rep] at q1
  exact ⟨i,q1,F1,S1,s1,by simp only [ResOk,Rep]⟩)
theorem hW {body:List Stmt} {P:Hp→Hp→Prop} (Sd:Nat→List Slot→Prop) (hi:PId X sd P tg iter ds) (h0:∃sd0,Le sd sd0∧Sd 0 sd0)
  (hb:∀k d sdk,ds[k]? =some d→Sd k sdk→∃sdt,PGd X sdk tg d sdt∧PSd X sdt body {E with nx:=fun sd'=>∃sd2,Le sd' sd2∧Sd (k+1) sd2,ct:=fun sd'=>∃sd2,Le sd' sd2∧Sd (k+1) sd2,bk:=E.nx}) (hE:∀sdn,Sd ds.length sdn→E.nx sdn) (hP:∀k sdk σ F H,Sd k sdk→StF X.K X.B₀ F H σ sdk→P F H:=by intros; trivial)
  (hc:X.calm=true:=by rfl) (hp:PassesOwn (model X.prog X.w) X.A X.env X.xe:=by exact PassesOwn.never) (hs:∀x,foldedSetIterable iter X.env x=pure x:=by intro _; rfl):PSd1 X sd (.For tg iter body [] pos) E:= .mk fun σ F H S=>
 (ps_for hp hc pi_w pg_w uA hs).to (by
  intro pins s I; refine thn (hi σ F H S pins s I) fun v s1 h1=>thn h1 fun itv s2 h2=> ?_
  obtain ⟨it,fp,tn,J,H2,e,I2,T,st2,f2,F1,S1,s1',itd⟩:=h2; refine ⟨it,fp,tn,J,H2,e,I2,T,st2,f2, ?_⟩; obtain ⟨sd0,le0,q0⟩:=h0; refine ⟨fun i m σ' H'=>m=ds.length - i∧i≤ds.length∧∃sdi F',StF X.K X.B₀ F' H' σ' sdi∧Same F1 F'∧Sd i sdi,⟨ds.length,by simp,dA _,sd0,F1,S1.le le0,Same.refl _,q0⟩, ?_⟩; rintro i m σ' H' ⟨rfl,hil,sdi,F',S',s',qi⟩; obtain ⟨g1,g2,g3⟩:=itd F' H' s' S'.sub S'.smp (hP _ _ _ _ _ qi S') i
  by_cases hlt:i<ds.length
  ·refine .inr ⟨g1 hlt,fun σ2 H2=>∃sd2 F2,StF X.K X.B₀ F2 H2 σ2 sd2∧Same F1 F2∧Sd (i+1) sd2,fun σ2 H2 ⟨sd2,F2,S2,s2,q2⟩=>⟨ds.length - (i+1),by omega,rfl,hlt,sd2,F2,S2,s2,q2⟩,fun x H2 y=> ?_⟩; have hd:ds[i]? =some ds[i]:=by simp [hlt]
   obtain ⟨F2,s2,rp,up⟩:=g3 x H2 ds[i] hd y; obtain ⟨sdt,hg,hbb⟩:=hb i _ sdi hd qi; refine (hg σ' F2 H2 x (up _ _ _ S') rp).imp fun σ3 H3 ⟨F3,S3,s3⟩=> ?_
   have base:Same F1 F3:=(s'.trans s2).trans s3; refine (hbb σ3 F3 H3 S3).imp ?_ ?_ ?_ ?_
   ·rintro σ4 H4 ⟨sd4,F4,S4,s4,sd5,le,q5⟩; exact ⟨sd5,F4,S4.le le,base.trans s4,q5⟩
   ·exact fun v H4 q=>q
   ·rintro σ4 H4 ⟨sd4,F4,S4,s4,q⟩; exact ⟨sd4,F4,S4,(s1'.trans base).trans s4,q⟩
   ·rintro σ4 H4 ⟨sd4,F4,S4,s4,sd5,le,q5⟩; exact ⟨sd5,F4,S4.le le,base.trans s4,q5⟩
  ·have e:i=ds.length:=by omega
   subst e
   exact .inl ⟨g2 (aX _),sdi,F',S',s1'.trans s',hE sdi qi⟩)
end
noncomputable def iC (m:Nat):Nat→List (List Int)
 | 0=>[[]]
 | k+1=>(iC m k).flatMap fun s=>(cO m).map fun (w:Nat)=>s++[(w:Int)]
noncomputable def bT (s:List Int):D:= .tup (s.map D.int)
noncomputable def uE (m:Int) (ws:List Int):Int:=ws.foldl (fun n w=>n * m+w) 0
noncomputable def chkF (b k:Nat):Bool:=let L:=iC (2^b) k; L.length==2^(b * k) && (cO L.length).all fun i=>let f:=L.getD i []; f.length==k && f.all (fun w=>decide (0≤w) && decide (w<2^b)) && decide (uE (2^b) f=i) && (i==0 || HT.lexLt (L.getD (i - 1) []) f)
theorem chk14:∀p∈dH,chkF p.1.toNat p.2.toNat=true:=by decide+kernel
theorem sS:∀p∈dH,1≤p.1∧p.1≤6∧1≤p.2∧p.2≤6∧p.1 * p.2≤6:=by decide+kernel
theorem fil_mem {m:Nat}:∀ {k:Nat} {ws:List Int},ws.length=k→(∀w∈ws,0≤w∧w<m)→ws∈iC m k
 | 0,ws,h,_=>by have:ws=[]:=List.length_eq_zero_iff.mp h; subst this; simp [iC]
 | k+1,ws,h,hw=>by
  have hne:ws≠[]:=by intro z; subst z; simp at h
  have e:ws=ws.dropLast++[ws.getLast hne]:=(mH hne).symm; have hl:=hw (ws.getLast hne) (List.getLast_mem hne); have ih:ws.dropLast∈iC m k:=fil_mem (by rw [List.length_dropLast,h]; rfl) fun w hm=>hw w (List.dropLast_subset _ hm)
  show ws∈(iC m k).flatMap fun s=>(cO m).map fun (w:Nat)=>s++[(w:Int)]
  refine dZ.mpr ⟨_,ih,bH.mpr ⟨(ws.getLast hne).toNat,fG.mpr (by omega), ?_⟩⟩; have:(((ws.getLast hne).toNat:Nat):Int)=ws.getLast hne:=by omega
  rw [this]; exact e.symm
structure FilOk (b k:Nat):Prop where
 len:(iC (2^b) k).length=2^(b * k)
 at_:∀i,i<2^(b * k)→((iC (2^b) k).getD i []).length=k∧(∀w∈(iC (2^b) k).getD i [],0≤w∧w<2^b)∧uE (2^b) ((iC (2^b) k).getD i [])=i∧(i=0∨HT.lexLt ((iC (2^b) k).getD (i - 1) []) ((iC (2^b) k).getD i [])=true)
theorem fil_ok {b k:Nat} (h:chkF b k=true):FilOk b k:=by unfold chkF at h; simp only [bX,beq_iff_eq,jF,fG,decide_eq_true_eq,xF] at h; obtain ⟨h1,h2⟩:=h; refine ⟨h1,fun i hi=> ?_⟩; obtain ⟨⟨⟨a,b⟩,c⟩,d⟩:=h2 i (by omega); exact ⟨a,b,c,d⟩
theorem fil_at {b k:Nat} (h:FilOk b k) {ws:List Int} (hl:ws.length=k) (hw:∀w∈ws,0≤w∧w<((2^b:Nat):Int)):0≤uE (2^b) ws∧(uE (2^b) ws).toNat<2^(b * k)∧(iC (2^b) k).getD (uE (2^b) ws).toNat []=ws:=by
 have hm:=fil_mem hl hw; obtain ⟨i,hi,e⟩:=List.mem_iff_getElem.mp hm; have e':(iC (2^b) k).getD i []=ws:=by simp [cY,hi,e]
 rw [h.len] at hi; have hn:=(h.at_ i hi).2.2.1; rw [e'] at hn; rw [hn]; refine ⟨by omega,by simpa using hi, ?_⟩; simpa using e'
theorem deq_ints:∀ (ws vs:List Int),iO (ws.map D.int) (vs.map D.int)=decide (ws=vs)
 | [],[]=>by simp [iO]
 | [],_::_=>by simp [iO]
 | _::_,[]=>by simp [iO]
 | w::ws,v::vs=>by
  simp only [bQ,iO,deq,deq_ints ws vs]
  by_cases h1:w=v<;>by_cases h2:ws=vs<;>simp [h1,h2]
theorem wO (ws vs:List Int):deq (bT ws) (bT vs)=decide (ws=vs):=by unfold bT; simp only [deq,deq_ints]
theorem plL_ints:∀ws:List Int,plL (ws.map D.int)=true
 | []=>rfl
 | w::ws=>by simp [plL,pl,plL_ints ws]
theorem yR:∀ws:List Int,jJ (ws.map D.int)=0
 | []=>rfl
 | w::ws=>by simp [jJ,dep,yR ws]
theorem sC (ws:List Int):pl (bT ws)=true:=by simp [bT,pl,plL_ints]
theorem xA (ws:List Int):dep (bT ws)=1:=by simp [bT,dep,yR]
theorem rD:∀L:List (List Int),plL (L.map bT)=true
 | []=>rfl
 | w::ws=>by simp [plL,sC,rD ws]
theorem tW:∀L:List (List Int),jJ (L.map bT)≤1
 | []=>by simp [jJ]
 | w::ws=>by have:=tW ws; simp only [bQ,jJ,xA]; omega
theorem deq_tups:∀ (L M:List (List Int)),iO (L.map bT) (M.map bT)=decide (L=M)
 | [],[]=>by simp [iO]
 | [],_::_=>by simp [iO]
 | _::_,[]=>by simp [iO]
 | w::ws,v::vs=>by
  simp only [bQ,iO,wO,deq_tups ws vs]
  by_cases h1:w=v<;>by_cases h2:ws=vs<;>simp [h1,h2]
theorem mul64 {i j:Int} (h1: -(2^64)<j) (h2:j<2^64):IntMulOk i j:= .of_right (intBits_le_64 h1 h2)
theorem sD {L:List (List Int)} {k:Nat} {d:D} (h:(L.map bT)[k]? =some d):k<L.length∧d=bT (L.getD k []):=by
 rw [bG] at h; cases e:L[k]? with
 | none=>rw [e] at h; cases h
 | some z=>rw [e] at h; refine ⟨(aP.mp e).1, ?_⟩; rw [← dN.inj h,cY,e]; rfl
section
variable {X:Cx} {sd:List Slot} {e a b c tg iter:Expr} {es:List Expr} {pos:Pos} {r ra rb:R} {d:D} {ds:List D} {st:Stmt} {rest:List Stmt} {E:jP}
theorem ptd_inM {g:Str} {ad:Addr} {xs:List V} {v:V} {p:Pos} (hg:Gl X g) (hm:X.mg g=some (.ref ad)) (hq:∀H,SqT X.K H ad xs) (ha:PEd X sd a (.val d)) (hd:flt d=some v) (fv:oP v=true) (fx:xs.all oP=true)
  (hk:behindInMarks .In (.Name g p)=false:=by with_unfolding_all rfl) (hdb:(g==("__debug__":Str))=false:=by decide):PTd X sd (.Compare a [.In] [.Name g p] pos) (inV v xs):= .mk fun σ F H S=>
 (vB op_in_seq gS (pe_glob (v:= .ref ad) hg hm rfl hdb) hk).to ((ha σ F H S).imp fun x H1 ⟨F1,S1,s1,q1⟩=>by
  have e:=rO hd q1; subst e
  exact ⟨ad,xs,rfl, .inr (hq H1),fv,fx,_,rfl,rfl,F1,S1,s1⟩)
end
noncomputable def stepNames:List Str:=["and","or","xor","add","take","copy","put","not","up","down"]
noncomputable def nm (k:Nat):Str:=stepNames.getD k "down"
noncomputable def iE (k:Nat) (i j n:Int):D:=if k<6 then .tup [.str (nm k), .int i, .int j] else if k=6 then .tup [.str (nm k), .int i, .int n] else .tup [.str (nm k), .int i]
noncomputable def selfW (k:Nat) (m a:Int):Int:=match k with
 | 7=>m - 1 - a
 | 8=>a * 2%m
 | _=>a / 2
noncomputable def zF (k:Nat) (m a c:Int):Int:=match k with
 | 0=>Builtin.bitAnd a c
 | 1=>Builtin.bitOr a c
 | 2=>Builtin.bitXor a c
 | 3=>(a+c)%m
 | 4=>(a - c)%m
 | _=>c
noncomputable def newW (k:Nat) (m a c n:Int):Int:=if k=6 then n else if 7≤k then selfW k m a else zF k m a c
theorem nm_and:∀k,k<10→decide (V.str (nm k)=V.str "and")=decide (k=0):=by decide+kernel
theorem nm_or:∀k,k<10→decide (V.str (nm k)=V.str "or")=decide (k=1):=by decide+kernel
theorem nm_xor:∀k,k<10→decide (V.str (nm k)=V.str "xor")=decide (k=2):=by decide+kernel
theorem nm_add:∀k,k<10→decide (V.str (nm k)=V.str "add")=decide (k=3):=by decide+kernel
theorem zN:∀k,k<10→decide (V.str (nm k)=V.str "take")=decide (k=4):=by decide+kernel
theorem tG:∀k,k<10→decide (V.str (nm k)=V.str "put")=decide (k=6):=by decide+kernel
theorem zK:∀k,k<10→decide (V.str (nm k)=V.str "not")=decide (k=7):=by decide+kernel
theorem nm_up:∀k,k<10→decide (V.str (nm k)=V.str "up")=decide (k=8):=by decide+kernel
theorem nm_self:∀k,k<10→inV (V.str (nm k)) [V.str "not",V.str "up",V.str "down"]=decide (7≤k):=by decide+kernel
theorem bits_rng:∀b,b<7→∀a,a<2^b→∀c,c<2^b→∀k,k<3→0≤zF k 0 ((a:Nat):Int) ((c:Nat):Int)∧zF k 0 ((a:Nat):Int) ((c:Nat):Int)<((2^b:Nat):Int):=by decide+kernel
theorem anoW0 {k:Nat} (h:k<3) (m a c:Int):zF k m a c=zF k 0 a c:=by
 match k,h with
 | 0,_=>rfl
 | 1,_=>rfl
 | 2,_=>rfl
theorem newW_rng {b k:Nat} {a c n:Int} (hb:b<7) (hk:k<10) (ha:0≤a∧a<((2^b:Nat):Int)) (hc:0≤c∧c<((2^b:Nat):Int)) (hn:0≤n∧n<((2^b:Nat):Int)):0≤newW k ((2^b:Nat):Int) a c n∧newW k ((2^b:Nat):Int) a c n<((2^b:Nat):Int):=by
 have ea:a=((a.toNat:Nat):Int):=by omega
 have ec:c=((c.toNat:Nat):Int):=by omega
 have la:a.toNat<2^b:=by have:=ha.2; generalize 2^b=q at *; omega
 have lc:c.toNat<2^b:=by have:=hc.2; generalize 2^b=q at *; omega
 have tab:∀k,k<3→0≤zF k ((2^b:Nat):Int) a c∧zF k ((2^b:Nat):Int) a c<((2^b:Nat):Int):=fun k hk=>by rw [anoW0 hk,ea,ec]; exact bits_rng b hb _ la _ lc k hk
 have mpos:(0:Int)<((2^b:Nat):Int):=by omega
 match k,hk with
 | 0,_=>exact tab 0 (by decide)
 | 1,_=>exact tab 1 (by decide)
 | 2,_=>exact tab 2 (by decide)
 | 3,_=>exact ⟨eU _ (mQ mpos),dQ _ mpos⟩
 | 4,_=>exact ⟨eU _ (mQ mpos),dQ _ mpos⟩
 | 5,_=>exact hc
 | 6,_=>exact hn
 | 7,_=>show 0≤((2^b:Nat):Int) - 1 - a∧((2^b:Nat):Int) - 1 - a<((2^b:Nat):Int); generalize ((2^b:Nat):Int)=q at *; omega
 | 8,_=>exact ⟨eU _ (mQ mpos),dQ _ mpos⟩
 | 9,_=>show 0≤a / 2∧a / 2<((2^b:Nat):Int); generalize ((2^b:Nat):Int)=q at *; omega
section
variable {X:Cx} {sd:List Slot} {e a b c tg iter:Expr} {es:List Expr} {pos:Pos} {d:D}
theorem pd_eqI {i j:Int} (ha:PEd X sd a (.val (.int i))) (hb:PEd X sd b (.val (.int j))):PEd X sd (.Compare a [.Eq] [b] pos) (.val (.bl (decide (i=j)))):=
 pd_cmp2 op_eq ha hb trivial (iU _) fun σ F H v u Q S q1 q2 k=>by
  simp only [ResOk,Rep] at q1 q2; subst q1; subst q2; refine ⟨rfl, ?_⟩; have e:decide (V.int i=V.int j)=decide (i=j):=by rw [rV,pY]
  rw [e]; exact k F H S (Same.refl _)
end
section
variable {X:Cx} {sd:List Slot} {e a b c tg iter o:Expr} {es:List Expr} {pos:Pos} {r ra rb:R} {d:D} {ds:List D} {st:Stmt} {rest:List Stmt} {E:jP}
theorem PEd.ic {i j:Int} (h:PEd X sd e (.val (.int i))) (q:i=j):PEd X sd e (.val (.int j)):=q▸h
end
mutual
noncomputable def noL:D→Bool
 | .tup ds=>pZ ds
 | .lst _=>false
 | .scr _=>false
 | .dic=>false
 | .dki _ _=>false
 | .any _=>false
 | _=>true
noncomputable def pZ:List D→Bool
 | []=>true
 | d::ds=>noL d && pZ ds
end
noncomputable def del (F:Hp) (l:Addr):Hp:=fun b=>if b=l then none else F b
theorem tL {F:Hp} {l b:Addr} (h:b≠l):del F l b=F b:=by unfold del; rw [if_neg h]
theorem del_same {F:Hp} {l:Addr}:del F l l=none:=by unfold del; rw [if_pos rfl]
mutual
theorem Rep.del {K:aD} {F:Hp} {l:Addr} {xs:List V} (hl:F l=some (.lst xs)):∀ {d:D} {v:V},noL d=true→Rep K F d v→Rep K (del F l) d v
 | .non,_,_,r=>by simpa only [Rep] using r
 | .bl _,_,_,r=>by simpa only [Rep] using r
 | .int _,_,_,r=>by simpa only [Rep] using r
 | .str _,_,_,r=>by simpa only [Rep] using r
 | .tup ds,v,h,r=>by
  simp only [Rep] at r ⊢; obtain ⟨a,ys,e,q,rl⟩:=r
  have ne:a≠l:=fun z=>by rw [z,hl] at q; cases q
  exact ⟨a,ys,e,by rw [tL ne]; exact q,RepL.del hl (by simpa only [noL] using h) rl⟩
 | .lst _,_,h,_=>by simp [noL] at h
 | .dic,_,h,_=>by simp [noL] at h
 | .dki _ _,_,h,_=>by simp [noL] at h
 | .any _,_,h,_=>by simp [noL] at h
 | .scr _,_,h,_=>by simp [noL] at h
theorem RepL.del {K:aD} {F:Hp} {l:Addr} {xs:List V} (hl:F l=some (.lst xs)):∀ {ds:List D} {ys:List V},pZ ds=true→RepL K F ds ys→RepL K (del F l) ds ys
 | [],_,_,r=>by simpa only [RepL] using r
 | d::ds,ys,h,r=>by simp only [pZ,bX] at h; obtain ⟨y,zs,rfl,a,rl⟩:=r.uncons; exact .cons (Rep.del hl h.1 a) (RepL.del hl h.2 rl)
end
theorem slots_of {K:aD} {F H:Hp}:∀ {sd:List Slot} {σ:St},σ.length=sd.length→(∀ (k:Nat) (z:Slot),sd[k]? =some z→∃o,σ[k]? =some o∧iJ K F H z o)→SlotsOk K F H sd σ
 | [],[],_,_=>rfl
 | z::zs,o::r,hl,h=>by
  obtain ⟨o',e,q⟩:=h 0 z rfl; have:o=o':=by simpa using e
  subst this
  exact ⟨o,r,rfl,q,slots_of (by simpa using hl) fun k z hz=>by
   obtain ⟨o',e,q⟩:=h (k+1) z (by simpa using hz)
   exact ⟨o',by simpa using e,q⟩⟩
 | [],_::_,hl,_=>by simp at hl
 | _::_,[],hl,_=>by simp at hl
noncomputable def FlatR:R→Bool
 | .val d=>noL d
 | .own ds=>pZ ds
 | .bor _=>false
 | .pr _ _=>false
 | .ox _=>false
noncomputable def okS:Slot→Bool
 | .own _ ds=>pZ ds
 | .od _ _ ds=>pZ ds
 | .ox _ _=>false
 | _=>true
noncomputable def Oth (sd:List Slot) (i:Nat):Prop:=∀ (k:Nat) (z:Slot),k≠i→sd[k]? =some z→okS z=true
section
variable {K:aD} {H₀ F F' H H':Hp} {σ:St} {sd:List Slot} {i:Nat} {l:Addr} {ds:List D} {xs:List V}
theorem StF.lend (S:StF K H₀ F H σ sd) (hs:sd[i]? =some (.own l ds)) (hx:H l=some (.lst xs)):StF K H₀ (upd F l (.lst xs)) H σ (sd.set i (.val (.lst ds))):=by obtain ⟨o,h1,h2,n,ys,q,rl⟩:=S.slots.get hs; rw [hx] at q; cases q; have S0:=S.le (hX sd i); obtain ⟨S1,s1⟩:=S0.freeze hx n (pS S.nd hs); have S2:=S1.set (d:= .lst ds) (v:= .ref l) i (by simp only [Rep]; exact ⟨l,xs,rfl,dD,rl.mono s1⟩); rw [kE,mL (by rw [h1,h2])] at S2; exact S2
theorem StF.back (S:StF K H₀ F H σ sd) (hs:sd[i]? =some (.own l ds)) (hx:H l=some (.lst xs)) (ho:Oth sd i) (S':StF K H₀ F' H' σ (sd.set i (.val (.lst ds)))) (s:Same (upd F l (.lst xs)) F'):StF K H₀ (del F' l) H' σ sd∧Same F (del F' l)∧F' l=some (.lst xs):=by
 obtain ⟨o,h1,h2,n,ys,q,rl⟩:=S.slots.get hs; rw [hx] at q; cases q; have fl:F' l=some (.lst xs):=s _ _ dD
 have sF:Same F (del F' l):=fun b u e=>by have ne:b≠l:=dE e n; rw [tL ne]; exact s _ _ (by rw [cE ne]; exact e)
 refine ⟨⟨fun b u e=>sF _ _ (S.base _ _ e),fun b u e=> ?_,S'.smp, ?_,S.nd⟩,sF,fl⟩
 ·by_cases h:b=l
  ·subst h; rw [del_same] at e; cases e
  ·rw [tL h] at e; exact S'.sub _ _ e
 ·refine slots_of S.slots.len fun k z hz=> ?_
  by_cases hk:k=i
  ·subst hk; rw [hs] at hz; cases hz; exact ⟨o,h1,h2,del_same,xs,S'.sub _ _ fl,rl.mono sF⟩
  ·obtain ⟨o1,g1,g2⟩:=S.slots.get hz; obtain ⟨o2,g3,g4⟩:=S'.slots.get (i:=k) (z:=z) (by rw [lX (Ne.symm hk)]; exact hz); rw [g1] at g3; cases g3; refine ⟨o1,g1, ?_⟩; cases z with
   | un=>trivial
   | val d=>obtain ⟨v,e,r⟩:=g2; exact ⟨v,e,r.mono sF⟩
   | gh d G=>obtain ⟨v,e,r,g⟩:=g2; exact ⟨v,e,r.mono sF,fun F2 s2=>g F2 (sF.trans s2)⟩
   | own l' ds'=>
    obtain ⟨e,n',ys,q',rl'⟩:=g4
    have ne:l'≠l:=fun e2=>by rw [e2,fl] at n'; cases n'
    exact ⟨e,by rw [tL ne]; exact n',ys,q',RepL.del fl (ho k _ hk hz) rl'⟩
   | od l' ks ds'=>
    obtain ⟨e,n',ys,q',ln,rl'⟩:=g4
    have ne:l'≠l:=fun e2=>by rw [e2,fl] at n'; cases n'
    exact ⟨e,by rw [tL ne]; exact n',ys,q',ln,RepL.del fl (ho k _ hk hz) rl'⟩
   | ox ls G=>exact absurd (ho k _ hk hz) (by simp [okS])
end
section
variable {X:Cx} {sd:List Slot} {e a b c tg iter o:Expr} {es:List Expr} {pos:Pos} {r ra rb:R} {d:D} {ds:List D} {st:Stmt} {rest:List Stmt} {E:jP}
theorem PEd.lend (i:Nat) {l:Addr} (hs:sd[i]? =some (.own l ds)) (ho:Oth sd i) (hf:FlatR r=true) (h:PEd X (sd.set i (.val (.lst ds))) e r):PEd X sd e r:= .mk fun σ F H S=>by
 obtain ⟨o,h1,h2,n,xs,q,rl⟩:=S.slots.get hs; refine (h σ _ H (S.lend hs q)).imp fun v H' ⟨F',S',s',res⟩=> ?_
 obtain ⟨S2,s2,fl⟩:=S.back hs q ho S' s'; refine ⟨del F' l,S2,s2, ?_⟩; cases r with
 | val d=>exact Rep.del fl hf res
 | own ds'=>
  obtain ⟨l',xs',e,n',q',rl',no⟩:=res
  have ne:l'≠l:=fun e2=>by rw [e2,fl] at n'; cases n'
  refine ⟨l',xs',e,by rw [tL ne]; exact n',q',RepL.del fl hf rl',fun hm=>no ?_⟩; obtain ⟨z,hz,ez⟩:=dZ.mp hm; obtain ⟨k,hk⟩:=fH hz
  have ki:k≠i:=fun y=>by subst y; rw [hs] at hk; cases hk; have:l=l':=(aU.mp ez).symm; exact ne this.symm
  exact dZ.mpr ⟨_,aY (by rw [lX (Ne.symm ki)]; exact hk),ez⟩
 | bor _=>cases hf
 | pr _ _=>cases hf
 | ox _=>cases hf
theorem PTd.lend (i:Nat) {l:Addr} {k:Bool} (hs:sd[i]? =some (.own l ds)) (ho:Oth sd i) (h:PTd X (sd.set i (.val (.lst ds))) e k):PTd X sd e k:= .mk fun σ F H S=>by
 obtain ⟨o,h1,h2,n,xs,q,rl⟩:=S.slots.get hs; refine (h σ _ H (S.lend hs q)).imp fun v H' ⟨e,F',S',s'⟩=> ?_
 obtain ⟨S2,s2,fl⟩:=S.back hs q ho S' s'; exact ⟨e,del F' l,S2,s2⟩
theorem PTd.cast {k k':Bool} (h:PTd X sd e k) (q:k=k'):PTd X sd e k':=q▸h
noncomputable def othB:List Slot→Nat→Bool
 | [],_=>true
 | _::zs,0=>zs.all okS
 | z::zs,i+1=>okS z && othB zs i
theorem oth_b:∀ {sd:List Slot} {i:Nat},othB sd i=true→Oth sd i
 | [],_,_,k,y,_,hz=>by simp at hz
 | z::zs,0,h,k,y,hk,hz=>by
  cases k with
  | zero=>exact absurd rfl hk
  | succ k=>exact jF.mp (show zs.all okS=true from h) _ (aY (by simpa using hz))
 | z::zs,i+1,h,k,y,hk,hz=>by
  have h':(okS z && othB zs i)=true:=h; rw [bX] at h'; cases k with
  | zero=>
   have:z=y:=by simpa using hz
   subst this; exact h'.1
  | succ k=>exact oth_b h'.2 k y (fun q=>hk (by rw [q])) (by simpa using hz)
theorem psd_move (i j:Nat) {x y:Str} {p q:Pos} {l:Addr} (hs:sd[j]? =some (.own l ds)) (hN:X.N.Nodup) (hi:X.N[i]? =some x) (hx:Loc X.env.scope x) (hy:PE X (.Name y q) (lY j)) (hE:E.nx ((sd.set j .un).set i (.own l ds))) (hsw:swapsWith (.Name y q) (some (.Name x p)) pos.line X.env=pure false:=by rfl)
  (hf:X.fn x=true∨X.env.scope.names.lookup x=some .local:=by first | exact .inl rfl | exact .inr rfl | assumption):PSd1 X sd (.Assign [.Name x p] (.Name y q) pos) E:= .mk fun σ F H S=>
 (tF hN hi hx hy hsw hf).to (by
  obtain ⟨o,h1,h2,n,xs,g,rl⟩:=S.slots.get hs
  exact ⟨.ref l,by rw [h1,h2],_,F,(S.le (hX sd j)).setO i n g rl (pS S.nd hs),Same.refl _,hE⟩)
theorem call_intB:nQ X (.type "int") (fun xs H Q=>∃k,xs=[.bl k]∧Q (.int (if k then 1 else 0)) H):=by intro pins s σ H xs us Q I r h; obtain ⟨k,rfl,q⟩:=h; obtain ⟨u,rfl,ru⟩:=qE r; cases (show u=Value.bool k from ru); exact call_int_bool ⟨.int _,H,I.kept fun b o g=>g,⟨_,rfl⟩,q⟩
theorem pd_intB {p:Pos} {k:Bool} (hg:Gl X "int") (hm:X.mg "int"=none) (ha:PEd X sd e (.val (.bl k))) (hst:starEach [e] X.env=(false,eval e X.env)::starEach [] X.env:=by rfl):PEd X sd (.Call (.Name "int" p) [e] [] pos) (.val (.int (if k then 1 else 0))):=
 sY (he:=hst) call_intB hg hm PyProof.Rows.boot_int (aH ha bD trivial hst) fun σ F H vs Q S q kk=>by
  cases q with
  | cons q1 q2=>cases q2; simp only [ResOk,Rep] at q1; subst q1; exact ⟨k,rfl,kk _ F H S (Same.refl _) (by simp only [ResOk,Rep])⟩
theorem call_sumL (hc:X.calm=true):nQ X (.builtin "sum") (fun xs H Q=>∃ (a:Addr) (ns:List Int),xs=[.ref a]∧SqL X.K H a (ns.map V.int)∧Q (.int (preSum (fun i=>ns.getD i 0) ns.length)) H):=by
 intro pins s σ H xs us Q I r h; obtain ⟨a,ns,rfl,ha,q⟩:=h; obtain ⟨u,rfl,ru⟩:=qE r; cases ru; obtain ⟨its,rv,p,hz⟩:=I.list ha; have hl:=rv.length; rw [aG] at hl; have isl:s.heap.IsList a its.toArray:=p.isList; have alt:a<s.heap.objs.size:=by obtain ⟨o,ho,_⟩:=isl; exact bB ho
 refine call_sum_walkAnyS (wpAny_pyIter_list isl ?_); refine ⟨s.heap.objs.size,_,_,_,its.toArray.size,_,_,fun i=>ns.getD i 0,rfl,(Walks.list (A:=X.A.in1) (I.ok.hd hc) s.heap.objs.size a (cH alt) its.toArray).toS,⟨⟨_,bW _ rfl,rfl,rfl⟩,isl.push _⟩,fun b hb=> ?_,fun i v hv=>(ints_at rv (by simpa using hv)).2,fun s' t' hm=> ?_⟩
 ·show b<(s.heap.push _).objs.size; rw [size_push']
  rcases bV.mp hb with e | hb
  ·rw [e]; exact lU _
  ·have e:b=a:=by simpa using hb
   rw [e]; exact oB alt
 ·rw [Moved.eq_with hm]; have sz:its.toArray.size=ns.length:=by rw [bE,hl]
  rw [sz]; refine ⟨.int _,H,I.kept fun b o g=>hm.heap b o (fun hI=> ?_) (aM _ g),⟨_,rfl⟩,q⟩; have e:b=s.heap.objs.size:=by simpa using hI
  exact absurd (bB g) (by rw [e]; exact fY _)
theorem pd_sumL {p:Pos} {ns:List Int} (hg:Gl X "sum") (hm:X.mg "sum"=none) (ha:PEd X sd e (.bor (ns.map D.int))) (hc:X.calm=true:=by rfl) (hst:starEach [e] X.env=(false,eval e X.env)::starEach [] X.env:=by rfl):PEd X sd (.Call (.Name "sum" p) [e] [] pos) (.val (.int (preSum (fun i=>ns.getD i 0) ns.length))):=
 pA (he:=hst) (call_sumL hc) hg hm boot_sum (aH ha bD trivial hst) fun σ F H vs Q S q k=>by
  cases q with
  | cons q1 q2=>cases q2; obtain ⟨p,xs,rfl,hp,rl,_⟩:=q1; exact ⟨p,ns,rfl, .of (by rw [← rl.ints]; exact hp),k _ F H S (Same.refl _) (by simp only [ResOk,Rep])⟩
end
noncomputable def CCell:List D→R→Prop:=fun ds r=>∃ (ns:List Int) (k:Nat),ds=[.scr ns, .int (k:Int)]∧k≤1000∧r= .val (.int (ns.getD k 0))
noncomputable abbrev SQ:=Nat × Int × Int × Int
noncomputable def sqD (q:SQ):D:=iE q.1 q.2.1 q.2.2.1 q.2.2.2
structure qP (p:Int × Int) (q:SQ):Prop where
 sz:p∈dH
 k10:q.1<10
 i0:0≤q.2.1∧q.2.1<p.2
 j0:0≤q.2.2.1∧q.2.2.1<p.2
 n0:0≤q.2.2.2∧q.2.2.2<((2^p.1.toNat:Nat):Int)
theorem pw0 (n:Nat):(0:Int)<((2^n:Nat):Int):=by have:0<2^n:=Nat.pow_pos (by decide); generalize 2^n=q at this ⊢; omega
noncomputable abbrev SK:=SQ × Int
noncomputable def skD (s:SK):D:= .tup [sqD s.1, .int s.2]
structure StkOk (p:Int × Int) (L:List SK):Prop where
 pos:0<L.length
 le:L.length≤8
 st:∀s∈L,qP p s.1∧1≤s.2∧s.2≤9
structure Fil (p:Int × Int) (ws:List Int):Prop where
 len:ws.length=p.2.toNat
 wd:∀w∈ws,0≤w∧w<((2^p.1.toNat:Nat):Int)
noncomputable def nwQ (p:Int × Int) (q:SQ) (ws:List Int):Int:=newW q.1 ((2^p.1.toNat:Nat):Int) (ws.getD q.2.1.toNat 0) (ws.getD q.2.2.1.toNat 0) q.2.2.2
noncomputable def onQ (p:Int × Int) (q:SQ) (ws:List Int):List Int:=ws.set q.2.1.toNat (nwQ p q ws)
noncomputable def rowQ (p:Int × Int) (L:List SK) (row:List Nat) (ws:List Int):List Int:=row.foldl (fun f t=>onQ p (L.getD t default).1 f) ws
theorem nwQ_rng {p:Int × Int} {q:SQ} {ws:List Int} (O:qP p q) (G:Fil p ws):0≤nwQ p q ws∧nwQ p q ws<((2^p.1.toNat:Nat):Int):=by obtain ⟨h1,h2,h3,h4,h5⟩:=sS p O.sz; exact newW_rng (by omega) O.k10 (G.wd _ (getD_mem (by have:=O.i0; rw [G.len]; omega))) (G.wd _ (getD_mem (by have:=O.j0; rw [G.len]; omega))) O.n0
theorem zZ {p:Int × Int} {q:SQ} {ws:List Int} (O:qP p q) (G:Fil p ws):Fil p (onQ p q ws):=by
 refine ⟨by unfold onQ; rw [List.length_set]; exact G.len,fun w hw=> ?_⟩
 rcases List.mem_or_eq_of_mem_set hw with hw | rfl
 ·exact G.wd w hw
 ·exact nwQ_rng O G
theorem uX {p:Int × Int} (hp:p∈dH) {ws:List Int} (h:ws∈iC (2^p.1.toNat) p.2.toNat):Fil p ws:=by
 have g:∀ (m k:Nat),∀s∈iC m k,s.length=k∧∀x∈s,0≤x∧x<(m:Int):=fun m k=>by
  induction k with
  | zero=>
   intro s h; have:s=[]:=by simpa [iC] using h
   subst this; exact ⟨rfl,fun x hx=>by cases hx⟩
  | succ k ih=>
   intro s h; obtain ⟨t,ht,hs⟩:=dZ.mp h; obtain ⟨w,hw,rfl⟩:=bH.mp hs; obtain ⟨a,b⟩:=ih t ht; refine ⟨by rw [bK,a]; rfl,fun x hx=> ?_⟩
   rcases bU.mp hx with hx | hx
   ·exact b x hx
   ·have e:x=(w:Int):=by simpa using hx
    have:=fG.mp hw; omega
 obtain ⟨a,b⟩:=g _ _ ws h; exact ⟨a,b⟩
noncomputable def cG (row:List Nat):List D:=row.map fun (t:Nat)=>D.int (t:Int)
noncomputable def prcL (L:List SK) (row:List Nat):List Int:=row.map fun t=>(L.getD t default).2
noncomputable def sumI (l:List Int):Int:=preSum (fun i=>l.getD i 0) l.length
theorem wU {f g:Nat→Int}:∀n,(∀i,i<n→f i=g i)→preSum f n=preSum g n
 | 0,_=>rfl
 | n+1,h=>by show preSum f n+f n=preSum g n+g n; rw [wU n fun i hi=>h i (by omega),h n (by omega)]
theorem sumI_snoc (l:List Int) (x:Int):sumI (l++[x])=sumI l+x:=by unfold sumI; rw [bK]; show preSum _ l.length+_=_; rw [wU (g:=fun i=>l.getD i 0) l.length fun i hi=>by simp [cY,gZ hi]]; simp [cY]
section
variable {X:Cx} {sd:List Slot} {e a b c tg iter o:Expr} {es:List Expr} {pos:Pos} {r ra rb:R} {d:D} {ds:List D} {st:Stmt} {rest:List Stmt} {E:jP}
theorem pd_listL {p:Pos} (hg:Gl X "list") (hm:X.mg "list"=none) (ha:PEd X sd e (.bor ds)) (hst:starEach [e] X.env=(false,eval e X.env)::starEach [] X.env:=by rfl):PEd X sd (.Call (.Name "list" p) [e] [] pos) (.own ds):=
 sY (he:=hst) zX hg hm PyProof.Rows.boot_list (aH ha bD trivial hst) fun σ F H vs Q S q k=>by
  cases q with
  | cons q1 q2=>cases q2; obtain ⟨p,xs,rfl,hp,rl,_⟩:=q1; refine ⟨p,xs,rfl, .inl (.of hp),fun l hl=> ?_⟩; obtain ⟨S2,fp,no⟩:=S.layO (xs:=xs) hl; exact k _ F _ S2 (Same.refl _) ⟨l,xs,rfl,fp,dD,rl,no⟩
end
mutual
theorem deq_refl:∀d:D,pl d=true→deq d d=true
 | .non,_=>rfl
 | .bl b,_=>by simp [deq]
 | .int i,_=>by simp [deq]
 | .str x,_=>by simp [deq]
 | .tup ds,h=>by simp only [deq]; exact mE ds (by simpa only [pl] using h)
 | .lst ds,h=>by simp only [deq]; exact mE ds (by simpa only [pl] using h)
 | .dic,h=>by simp [pl] at h
 | .dki _ _,h=>by simp [pl] at h
 | .any _,h=>by simp [pl] at h
 | .scr _,h=>by simp [pl] at h
theorem mE:∀ds:List D,plL ds=true→iO ds ds=true
 | [],_=>rfl
 | d::ds,h=>by simp only [plL,bX] at h; simp only [iO,bX]; exact ⟨deq_refl d h.1,mE ds h.2⟩
end
theorem sk_get {L:List SK} {t:Nat} (h:t<L.length):(L.map skD)[t]? =some (skD (L.getD t default)):=by rw [bG]; simp [cY,h]
noncomputable def itO (tp:Bool) (l:Addr):Obj:=match tp with
 | true=>{cls:= .type "tuple_iterator",data:= .fields #[.ref l, .int 0 0]}
 | false=>{cls:= .type "list_iterator",data:= .fields #[.ref l, .int 0 0]}
noncomputable abbrev zA (p:Bool) (h:Heap) (l:Addr):Heap:=h.push (itO p l)
noncomputable abbrev zB (p q:Bool) (h:Heap) (l m:Addr):Heap:=(zA p h l).push (itO q m)
noncomputable abbrev zC (p q:Bool) (h:Heap) (l m:Addr):Heap:=(zB p q h l m).push {cls:= .type "tuple",data:= .seq #[.ref h.objs.size, .ref (zA p h l).objs.size]}
noncomputable abbrev zD (p q:Bool) (h:Heap) (l m:Addr):Heap:=(zC p q h l m).push {cls:= .type "tuple",data:= .seq #[.none, .none]}
noncomputable abbrev zE (p q:Bool) (h:Heap) (l m:Addr):Heap:=(zD p q h l m).push {cls:= .type "zip",data:= .fields #[.none, .bool false, .bool false, .ref (zB p q h l m).objs.size, .ref (zC p q h l m).objs.size]}
theorem pH (L:List (List Int)) (m:Nat):(L.flatMap fun s=>(cO m).map fun (w:Nat)=>s++[(w:Int)]).length=L.length * m:=by
 induction L with
 | nil=>simp
 | cons s L ih=>rw [List.flatMap_cons,bK,ih,aG,kQ,cM,Nat.succ_mul,Nat.add_comm]
theorem rX:∀ (m k:Nat),(iC m k).length=m^k
 | _,0=>rfl
 | m,k+1=>by show ((iC m k).flatMap _).length=_; rw [pH,rX m k,Nat.pow_succ]
theorem xB:∀ (m k:Nat),∀s∈iC m k,s.length=k
 | _,0,s,h=>by
  have:s=[]:=by simpa [iC] using h
  subst this; rfl
 | m,k+1,s,h=>by obtain ⟨t,ht,hs⟩:=dZ.mp h; obtain ⟨w,_,rfl⟩:=bH.mp hs; rw [bK,xB m k t ht]; rfl
theorem yO:∀p∈dH,∀k,k<p.2.toNat→((2^p.1.toNat)^k) * 2^p.1.toNat≤900:=by decide+kernel
noncomputable def tabQ (p:Int × Int) (L:List SK) (row:List Nat):List (List Int):=(iC (2^p.1.toNat) p.2.toNat).map fun ws=>rowQ p L row ws
theorem pV {p:Int × Int} (hp:p∈dH):(iC (2^p.1.toNat) p.2.toNat).length≤64:=by
 have:∀p∈dH,(2^p.1.toNat)^p.2.toNat≤64:=by decide+kernel
 rw [rX]; exact this p hp
theorem wY {L:List (List Int)} {d:D} (h:d∈L.map bT):∃ws∈L,d=bT ws:=by obtain ⟨ws,hw,rfl⟩:=bH.mp h; exact ⟨ws,hw,rfl⟩
noncomputable def nE:D→List Int
 | .tup ds=>ds.map fun d=>match d with | .int i=>i | _=>0
 | _=>[]
theorem kR (ws:List Int):nE (bT ws)=ws:=by
 show (ws.map D.int).map _=ws; rw [bM]
 induction ws with
 | nil=>rfl
 | cons w ws ih=>rw [bQ,ih]; rfl
section
variable {X:Cx} {sd:List Slot} {e a b c tg iter o:Expr} {es:List Expr} {pos:Pos} {r ra rb:R} {d:D} {ds:List D} {st:Stmt} {rest:List Stmt} {E:jP}
noncomputable def isN:D→Bool
 | .non=>true
 | _=>false
theorem rep_isN {K:aD} {H:Hp} {d:D} {v:V} (h:Rep K H d v):decide (v= .non)=isN d:=by
 cases d with
 | non=>simp only [Rep] at h; subst h; rfl
 | bl=>simp only [Rep] at h; subst h; rfl
 | int=>simp only [Rep] at h; subst h; rfl
 | str=>simp only [Rep] at h; subst h; rfl
 | tup=>simp only [Rep] at h; obtain ⟨a,xs,rfl,_⟩:=h; rfl
 | lst=>simp only [Rep] at h; obtain ⟨a,xs,rfl,_⟩:=h; rfl
 | dic=>simp only [Rep] at h; obtain ⟨a,rfl,_⟩:=h; rfl
 | dki=>simp only [Rep] at h; obtain ⟨a,xs,rfl,_⟩:=h; rfl
 | any=>simp only [Rep] at h; obtain ⟨⟨a,rfl⟩,_⟩:=h; rfl
 | scr=>simp only [Rep] at h; obtain ⟨a,rfl,_⟩:=h; rfl
theorem ptd_isN (ha:PEd X sd a (.val d)) (hb:PEd X sd b (.val .non)):PTd X sd (.Compare a [.Is] [b] pos) (isN d):=
 lM op_isN ha hb trivial (iU _) fun σ F H v u Q S q1 q2 k=>by simp only [ResOk,Rep] at q2; have q1:Rep _ _ _ _:=q1; exact ⟨q2,by rw [rep_isN q1]; exact k F H S (Same.refl _)⟩
structure FunD (K:aD) (x qual:Str) (st:Stmt) (f:Addr) (fd:FuncData):Prop where
 ex:∃ (oc:Value) (od:Option Addr) (T:Addr) (kV doc pm:Value) (an:Option Addr) (cdv ct:Value) (osl:Array (Option Value)) (tc:Value) (td:Option Addr) (n:Nat) (tsl:Array (Option Value)),
  fd=bN x qual (dF st) (cT st) (aV st) (.ref T) kV doc pm an cdv ct∧K.lookup f=some ⟨oc,od, .func fd,osl⟩∧bL K cdv qual=true∧K.lookup T=some ⟨tc,td, .seq #[.none] n,tsl⟩
 kp:bA K (.ref f)=true
structure CalleeD (P:Program) (w:World) (K:aD) (mg:Str→Option Value) (base:Heap) (x:Str) (k n:Nat) (C:List D→R→Prop):Prop where
 ex:∃ (f:Addr) (fd:FuncData) (ps:List Str),mg x=some (.ref f)∧bA K (.ref f)=true∧Binds K fd ps []∧Binds K fd ps [.none]∧FnOk P w K mg base CX0 k f fd ps (spC K n C)
end
theorem u_of' {u d n c:Nat} (h:u+n<c) (hd:d+1≤n):u+d+1<c:=by omega
noncomputable def eV (p:Int × Int):List (List Int):=iC (2^p.1.toNat) p.2.toNat
structure TabOk (p:Int × Int) (T:List (List Int)):Prop where
 len:T.length=(eV p).length
 fil:∀ws∈T,Fil p ws
theorem tups_at {V:List (List Int)} {k:Nat} (h:k<V.length):(V.map bT)[k]? =some (bT (V.getD k [])):=by simp [cY,h]
theorem take_snoc {α:Type} {L:List α} {k:Nat} (d:α) (h:k<L.length):L.take (k+1)=L.take k++[L.getD k d]:=by rw [gF]; simp [cY,h]
section
variable {X:Cx} {sd:List Slot} {e a b c tg iter o:Expr} {es:List Expr} {pos:Pos} {r ra rb:R} {d:D} {ds:List D} {st:Stmt} {rest:List Stmt} {E:jP}
theorem op_notInD (d:D) (ds:List D) (p1:pl d=true) (p2:plL ds=true) (hu:X.A.units+1+jJ ds<cLine):OpR X (compareOp .NotIn) (fun x y H Q=>Rep X.K H (.lst ds) y∧Rep X.K H d x∧Q (.bl (!ds.any fun z=>deq z d)) H):=by
 intro pins s σ H x y v u Q I rx ry h; obtain ⟨hl,hd,k⟩:=h; obtain ⟨a,xs,its,rfl,rfl,rl,rv,ht⟩:=lR I.hok hl ry
 have hat:∀ (j:Nat) (w:Value),its[j]? =some w→∃z v,ds[j]? =some z∧xs[j]? =some v∧Rep X.K H z v∧RelV v w:=fun j w hw=>by
  have hj:j<its.length:=(aP.mp hw).1; have hx:j<xs.length:=by rw [Vals.length rv]; exact hj
  have hd:j<ds.length:=by rw [← rl.len]; exact hx
  obtain ⟨v,hv,rz⟩:=rl.get (i:=j) (d:=ds[j]) (by simp [hd])
  exact ⟨ds[j],v,by simp [hd],hv,rz,by
   have:=rv.get hv; obtain ⟨w',hw',r⟩:=this; rw [hw] at hw'; cases hw'
   exact r⟩
 have dc:=fun w:Value=>Classical.propDecidable (∃ (j:Nat) (z:D),its[j]? =some w∧ds[j]? =some z∧deq z d=true)
 refine SeqAt.notIn_listAt (fun w=> @decide _ (dc w)) ht (fun w hw=> ?_) ⟨.bl _,H,I,rfl, ?_⟩
 ·by_cases q:∃ (j:Nat) (z:D),its[j]? =some w∧ds[j]? =some z∧deq z d=true
  ·obtain ⟨j,z,e1,e2,e3⟩:=q; obtain ⟨z',v,f1,f2,f3,f4⟩:=hat j w e1; rw [e2] at f1; cases f1; have: @decide _ (dc w)=true:=by rw [decide_eq_true_eq]; exact ⟨j,z,e1,e2,e3⟩
   rw [this,← e3]; exact vI I.hok z (zO p2 e2) p1 f3 hd f4 rx (by have:=wH e2; show X.A.units+1+dep z<cLine; omega)
  ·have hw':w∈its:=by simpa using hw
   obtain ⟨j,hj,rfl⟩:=fR hw'; obtain ⟨z,v,f1,f2,f3,f4⟩:=hat j its[j] (by simp [hj])
   have e3:deq z d=false:=by
    cases h:deq z d with
    | false=>rfl
    | true=>exact (q ⟨j,z,by simp [hj],f1,h⟩).elim
   have: @decide _ (dc its[j])=false:=by rw [decide_eq_false_iff_not]; exact q
   rw [this,← e3]; exact vI I.hok z (zO p2 f1) p1 f3 hd f4 rx (by have:=wH f1; show X.A.units+1+dep z<cLine; omega)
 ·have e:its.toArray.any (fun w=> @decide _ (dc w))=ds.any fun z=>deq z d:=by
   rw [jX,List.any_toArray,List.any_eq_true,List.any_eq_true]
   constructor
   ·rintro ⟨w,hw,q⟩; rw [decide_eq_true_eq] at q; obtain ⟨j,z,e1,e2,e3⟩:=q; exact ⟨z,aY e2,e3⟩
   ·rintro ⟨z,hz,e3⟩; obtain ⟨j,hj,rfl⟩:=fR hz; have hi:j<its.length:=by rw [← Vals.length rv,rl.len]; exact hj
    exact ⟨its[j],lQ hi,by rw [decide_eq_true_eq]; exact ⟨j,ds[j],by simp [hi],by simp [hj],e3⟩⟩
  rw [e]; exact k
theorem ptd_ninD (ha:PEd X sd a (.val d)) (hb:PEd X sd b (.val (.lst ds))) (p1:pl d=true) (p2:plL ds=true) (hu:X.A.units+1+jJ ds<cLine) (hk:behindInMarks .NotIn b=false:=by with_unfolding_all rfl):PTd X sd (.Compare a [.NotIn] [b] pos) (!ds.any fun z=>deq z d):=
 lM (op_notInD d ds p1 p2 hu) ha hb trivial hk fun σ F H x u Q S q1 q2 k=>⟨Rep.mono S.sub q2,Rep.mono S.sub q1,k F H S (Same.refl _)⟩
end
section
variable {X:Cx} {sd:List Slot} {E:jP} {e a b o:Expr} {ds es:List D} {d:D} {pos:Pos}
theorem xU (i:Nat) {x:Str} {p ap cp:Pos} {l:Addr} (hs:sd[i]? =some (.own l ds)) (hx:PE X (.Name x p) (lY i)) (hE:E.nx (sd.set i (.own l [])))
  (hm:PE X (.Call (.Attribute (.Name x p) "clear" ap) [] [] cp) (tBM0 X.K "list" rClear (lY i)):=by exact pe_bm0 jT PySem.F.slot_list_clear PySem.F.type_list_clear mt_clear (pv _))
  (hsw:swapsWith (.Call (.Attribute (.Name x p) "clear" ap) [] [] cp) none pos.line X.env=pure false:=by rfl):
  PSd1 X sd (.Expr (.Call (.Attribute (.Name x p) "clear" ap) [] [] cp) pos) E:= .mk fun σ F H S=>
 (rC hm hsw).to (by
  obtain ⟨o,h1,h2,n,xs,q,rl⟩:=S.slots.get hs
  exact ⟨.ref l,by rw [h1,h2], .inl ⟨rfl,xs, .of q⟩,l,xs,rfl,rfl,q,_,F,S.wr hs .nil,Same.refl _,hE⟩)
end
theorem nat_at {τ:List Nat} {b:Nat} (h:b<τ.length):(cG τ)[b]? =some (.int ((τ.getD b 0:Nat):Int)):=by unfold cG; rw [bG]; simp [cY,h]
section
variable {X:Cx} {sd:List Slot} {b:Expr} {pos:Pos}
theorem vA {k:Nat} {q:Nat} {p:Pos} (hb:PEd X sd b (.val (.int (k:Int)))) (hk:k≤1000):PEd X sd (.BinOp (.Constant (.int 1) q p) .LShift b pos) (.val (.int ((2^k:Nat):Int))):=
 PEd.ic (dX op_shl bF hb ⟨by omega,by omega,by decide⟩) (by rw [Int.one_mul,eY]; push_cast; rfl)
end
noncomputable def byT (w:World):Bool:=w.params.followText "set-order"
noncomputable def insK (k:Nat) (ks:List Nat):List Nat:=ks.filter (fun i=>decide (i<k))++k::ks.filter (fun i=>decide (k<i))
noncomputable def tabR (led:Bool) (m mv:Nat) (ks:List Nat):SetTable:={mask:=m,place:=ks.toArray,dummies:= #[],finger:=0,led:=led,moves:=mv,plain:=true}
noncomputable def tabK (led:Bool) (ks:List Nat):SetTable:=if ks.length<5 then tabR led 7 0 ks else tabR led 31 1 ks
structure SmS (w:World) (o:Obj) (ks:List Nat):Prop where
 ex:∃ (es:List (Int × Value)) (ep:Nat),o={cls:= .type "set",dict:=none,data:= .set es.toArray ep (tabK (!byT w) ks)}∧es.map (·.1)=ks.map Int.ofNat∧∀e∈es,∃t,e.2= .int e.1 t
noncomputable def insAll:List Nat→List Nat→List Nat
 | ks,[]=>ks
 | ks,v::vs=>insAll (insK v ks) vs
section
variable {prog:Program} {w:World} {A:Around} {s:Shared}
noncomputable abbrev set0 (w:World):Obj:={cls:= .type "set",dict:=none,data:= .set #[] 0 (tabK (!byT w) [])}
end
noncomputable def rdQ (q:SQ):List Nat:=if q.1=6 then [] else if q.1=5 then [q.2.2.1.toNat] else if 7≤q.1 then [q.2.1.toNat] else insAll [] [q.2.1.toNat,q.2.2.1.toNat]
noncomputable def ahQ (q:SQ) (bs:List Nat):List Nat:=if bs.contains q.2.1.toNat then insAll [] (bs.filter (fun b=> !decide (b=q.2.1.toNat))++rdQ q) else bs
noncomputable def bqQ (L:List SK) (look:List Nat):List Nat→List Nat
 | []=>look
 | t::row=>ahQ (L.getD t default).1 (bqQ L look row)
noncomputable def prQ (L:List SK) (look:List Nat):List Nat→List Nat
 | []=>[]
 | t::row=>if (bqQ L look row).contains (L.getD t default).1.2.1.toNat then t::prQ L look row else prQ L look row
noncomputable def gV (K:aD) (F0:Hp) (d:D):V→Hp→Prop:=fun v F=>Rep K F0 d v∧Same F0 F
noncomputable def lI (ns:List Int):D:= .lst (ns.map D.int)
theorem vG:∀ {sd:List Slot} {i:Nat} {z:Slot},(dC sd).Nodup→sd[i]? =some z→(iA z).Nodup
 | [],_,_,_,e=>by simp at e
 | y::zs,0,z,h,e=>by
  have:y=z:=by simpa using e
  subst this; exact (bY.mp (show (iA y++dC zs).Nodup from h)).1
 | y::zs,i+1,z,h,e=>vG (sd:=zs) (i:=i) (bY.mp (show (iA y++dC zs).Nodup from h)).2.1 (by simpa using e)
section
variable {K:aD} {H₀ F F' H H':Hp} {σ:St} {sd:List Slot} {i:Nat} {l:Addr} {ls:List Addr} {nss:List (List Int)}
theorem StF.reX {z z':Slot} {o:Option V} (S:StF K H₀ F H σ sd) (hs:sd[i]? =some z) (ho:σ[i]? =some o) (keep:∀b ob,b∉iA z→H b=some ob→H' b=some ob) (sm:Smp H') (q:iJ K F H' z' o) (nd:(iA z').Nodup) (no:∀a∈iA z',a∈iA z∨a∉dC sd):StF K H₀ F H' σ (sd.set i z'):=by
 have S0:=S.le (hX sd i); have mz:∀a∈iA z,a∈dC sd:=fun a ha=>dZ.mpr ⟨z,aY hs,ha⟩
 refine ⟨S.base,fun b u e=> ?_,sm, ?_, ?_⟩
 ·refine keep b u (fun hb=> ?_) (S.sub _ _ e); have:=(S.slots.owns (mz b hb)).1; rw [e] at this; cases this
 ·have q1:SlotsOk K F H' (sd.set i .un) σ:=S0.slots.mono (Same.refl _) fun a ha=>⟨(S0.slots.owns ha).1,fun ob e=>keep a ob (fun hb=>iS S.nd hs hb ha) e⟩
  have q2:=q1.set (z:=z') (o:=o) q i; rw [kE,mL ho] at q2; exact q2
 ·have:=kY (z:=z') i S0.nd (fun a ha=>by
   rcases no a ha with h | h
   ·exact .inl (iS S.nd hs h)
   ·exact .inl fun hm=>h ((hX sd i).own.subset hm)) nd
  rw [kE] at this; exact this.1
noncomputable def inF (F H:Hp) (as:List Addr):Hp:=fun b=>if b∈as then H b else F b
theorem inF_in {as:List Addr} {b:Addr} (h:b∈as):inF F H as b=H b:=if_pos h
theorem inF_ni {as:List Addr} {b:Addr} (h:b∉as):inF F H as b=F b:=if_neg h
theorem inF_sub {as:List Addr} (h:∀a∈as,F a=none):Same F (inF F H as):=fun b u e=>by rw [inF_ni (fun hb=>by rw [h b hb] at e; cases e)]; exact e
theorem StF.inN (S:StF K H₀ F H σ sd) (h0:∀a∈l::ls,F a=none) (no:∀a∈l::ls,a∉dC sd):StF K H₀ (inF F H (l::ls)) H σ sd∧Same F (inF F H (l::ls)):=by
 have s1:=inF_sub (H:=H) h0; refine ⟨⟨fun b u e=>s1 _ _ (S.base _ _ e),fun b u e=> ?_,S.smp,S.slots.mono s1 fun a ha=>⟨?_,fun ob e=>e⟩,S.nd⟩,s1⟩
 ·by_cases h:b∈l::ls
  ·rw [inF_in h] at e; exact e
  ·rw [inF_ni h] at e; exact S.sub _ _ e
 ·rw [inF_ni (fun hb=>no a hb ha)]; exact (S.slots.owns ha).1
end
section
variable {X:Cx} {sd:List Slot} {e a b c tg iter o:Expr} {es:List Expr} {pos:Pos} {r ra rb:R} {d:D} {ds:List D} {st:Stmt} {rest:List Stmt} {E:jP} {l:Addr} {ls:List Addr} {nss:List (List Int)} {ns:List Int}
theorem smp_upd {H:Hp} {xs:List V} (h:Smp H) (a:Addr):Smp (upd H a (.lst xs)):=fun b u e=>by
 by_cases z:b=a
 ·subst z; rw [dD] at e; cases e; trivial
 ·rw [cE z] at e; exact h _ _ e
end
theorem natI (x:List Nat):cG x=(x.map fun (t:Nat)=>(t:Int)).map D.int:=by unfold cG; rw [bM]; rfl
noncomputable def InD (K:aD) (F H:Hp):List Addr→List (List D)→Prop
 | [],[]=>True
 | a::as,ds::dss=>(∃xs,H a=some (.lst xs)∧RepL K F ds xs)∧InD K F H as dss
 | _,_=>False
section
variable {K:aD} {F F' H H':Hp}
theorem InD.len:∀ {as:List Addr} {dss:List (List D)},InD K F H as dss→as.length=dss.length
 | [],[],_=>rfl
 | [],_::_,h=>h.elim
 | _::_,[],h=>h.elim
 | _::as,_::dss,h=>by rw [cM,cM,InD.len h.2]
theorem InD.of:∀ {as:List Addr} {dss:List (List D)},InD K F H as dss→∀a∈as,∃xs,H a=some (.lst xs)
 | [],[],_,a,ha=>by cases ha
 | [],_::_,h,_,_=>h.elim
 | _::_,[],h,_,_=>h.elim
 | b::as,_::dss,h,a,ha=>by
  rcases bV.mp ha with rfl | ha
  ·exact ⟨h.1.choose,h.1.choose_spec.1⟩
  ·exact InD.of h.2 a ha
end
noncomputable def GD (K:aD) (l:Addr) (ls:List Addr) (dss:List (List D)):V→Hp→Hp→Prop:=fun v F H=>v= .ref l∧H l=some (.lst (ls.map V.ref))∧InD K F H ls dss
section
variable {K:aD} {H₀ F F' H H':Hp} {σ:St} {sd:List Slot} {i:Nat} {l:Addr} {ls:List Addr} {dss:List (List D)}
theorem InD.mono2:∀ {as:List Addr} {dss:List (List D)},InD K F H as dss→Same F F'→(∀a∈as,∀ob,H a=some ob→H' a=some ob)→InD K F' H' as dss
 | [],[],_,_,_=>trivial
 | [],_::_,h,_,_=>h.elim
 | _::_,[],h,_,_=>h.elim
 | a::as,_::dss,h,s,k=>by obtain ⟨⟨xs,e,r⟩,h2⟩:=h; exact ⟨⟨xs,k a aR _ e,r.mono s⟩,InD.mono2 h2 s fun b hb=>k b (aQ _ hb)⟩
theorem InD.get:∀ {as:List Addr} {dss:List (List D)} {t:Nat} {a:Addr},InD K F H as dss→as[t]? =some a→∃ds xs,dss[t]? =some ds∧H a=some (.lst xs)∧RepL K F ds xs
 | [],[],t,a,_,e=>by simp at e
 | [],_::_,_,_,h,_=>h.elim
 | _::_,[],_,_,h,_=>h.elim
 | b::as,ds::dss,0,a,h,e=>by
  have:b=a:=by simpa using e
  subst this; obtain ⟨⟨xs,e1,r⟩,_⟩:=h; exact ⟨ds,xs,rfl,e1,r⟩
 | b::as,ds::dss,t+1,a,h,e=>by obtain ⟨ms,xs,e1,e2⟩:=InD.get (t:=t) h.2 (by simpa using e); exact ⟨ms,xs,by simpa using e1,e2⟩
theorem InD.set:∀ {as:List Addr} {dss:List (List D)} {t:Nat} {a:Addr} {es:List D} {ys:List V},as.Nodup→InD K F H as dss→as[t]? =some a→RepL K F es ys→InD K F (upd H a (.lst ys)) as (dss.set t es)
 | [],[],t,a,_,_,_,_,e,_=>by simp at e
 | [],_::_,_,_,_,_,_,h,_,_=>h.elim
 | _::_,[],_,_,_,_,_,h,_,_=>h.elim
 | b::as,ds::dss,0,a,es,ys,nd,h,e,r=>by
  have:b=a:=by simpa using e
  subst this; refine ⟨⟨ys,dD,r⟩,h.2.mono2 (Same.refl _) fun c hc ob q=> ?_⟩; rw [cE (show c≠b from fun z=>(cV.mp nd).1 (z▸hc))]; exact q
 | b::as,ds::dss,t+1,a,es,ys,nd,h,e,r=>by
  have e':as[t]? =some a:=by simpa using e
  obtain ⟨⟨xs,e1,r1⟩,h2⟩:=h; refine ⟨⟨xs, ?_,r1⟩,InD.set (cV.mp nd).2 h2 e' r⟩; rw [cE (show b≠a from fun z=>(cV.mp nd).1 (z▸aY e'))]; exact e1
end
theorem wJ {α:Type} (f:α→D) (h:∀a,pl (f a)=true):∀l:List α,plL (l.map f)=true
 | []=>rfl
 | a::l=>by show (pl (f a) && plL (l.map f))=true; rw [h a,wJ f h l]; rfl
theorem tN {α:Type} (f:α→D) (n:Nat) (h:∀a,dep (f a)≤n):∀l:List α,jJ (l.map f)≤n
 | []=>dA _
 | a::l=>Nat.max_le.mpr ⟨h a,tN f n h l⟩
noncomputable def WsOk (p:Int × Int) (o:Option (List (List Int))):Prop:=∀L,o=some L→0<L.length∧L.length≤100∧∀ws∈L,Fil p ws
structure WishOk (p:Int × Int) (w:List (Option (List (List Int)))):Prop where
 len:w.length=(eV p).length
 ok:∀o∈w,WsOk p o
theorem nK:∀a:List Nat,plL (cG a)=true∧jJ (cG a)=0
 | []=>⟨rfl,rfl⟩
 | a::as=>by obtain ⟨h1,h2⟩:=nK as; unfold cG at h1 h2 ⊢; simp only [bQ,plL,jJ,pl,dep,h1,h2]; exact ⟨rfl,rfl⟩
structure TurnOk (n:Nat) (τ:List Nat):Prop where
 len:τ.length=n
 lt:∀b∈τ,b<n
 mem:∀b,b<n→b∈τ
 nd:τ.Nodup
structure SqN (n:Nat) (q:SQ):Prop where
 k10:q.1<10
 i0:0≤q.2.1∧q.2.1<n
 j0:0≤q.2.2.1∧q.2.2.1<n
theorem srt_keep (h:Heap) (vs:List Value) (out:Array Value):(∀b x,h.get? b=some x→(sortedAll h vs out).get? b=some x)∧∃n,(sortedAll h vs out).get? (h.objs.size+1)=some (seqObj "list" out n):=by
 have hsz:((h.push (seqObj "list" #[] 0)).update h.objs.size (Obj.mapSeq (·++vs.toArray))).objs.size=h.objs.size+1:=by rw [oV,size_push']
 have hoL:(((h.push (seqObj "list" #[] 0)).update h.objs.size (Obj.mapSeq (·++vs.toArray))).push (seqObj "list" vs.toArray 0)).get? (h.objs.size+1)=some (seqObj "list" vs.toArray 0):=by rw [← hsz]; exact bW _ rfl
 constructor
 ·intro b x g; have lt:=bB g; have n1:h.objs.size≠b:=fun z=>absurd lt (by rw [z]; exact fY _)
  have n2:h.objs.size+1≠b:=fun z=>absurd lt (by rw [← z]; exact Nat.not_lt.mpr (kJ _))
  unfold sortedAll sortedHeap; rw [eC _ _ n2]; refine aM _ (aM _ ?_); rw [eC _ _ n2]; refine aM _ ?_; rw [eC _ _ n1]; exact aM _ g
 ·obtain ⟨n1,g1⟩:∃n1,((((h.push (seqObj "list" #[] 0)).update h.objs.size (Obj.mapSeq (·++vs.toArray))).push (seqObj "list" vs.toArray 0)).update (h.objs.size+1) (Obj.mapSeq fun _=> #[])).get? (h.objs.size+1)=some (seqObj "list" #[] n1):=⟨_,get?_update_seq hoL (fun _=> #[])⟩; exact ⟨_,get?_update_seq (aM _ (aM _ g1)) (fun _=>out)⟩
noncomputable def exO (l:Addr) (o:Obj):HO:= .ext (fun h=>h.get? l=some o)
theorem tT {P:Program} {w:World} {H:Hp} {h:Heap} {l:Addr} {o:Obj} (g:h.get? l=some o):ObjOk P w H h l (exO l o):=⟨g,⟨o,g⟩,fun _ _ q k=>k _ q⟩
noncomputable def TDo (P:Program) (w:World) (F:Hp) (l:Addr) (o:Obj) (kvs:List (List Key × V)):Prop:=
 kvs.length≤sizeLine∧(l==sysModules)=false∧∃xs,KT F kvs xs∧∃es ep,o.ExactDict∧o.data= .dict es ep∧es.toList=xs.map (entryOfKey (tupleKind (gI P w)))∧(xs.map (·.1)).Nodup
theorem TDo.mono {P:Program} {w:World} {F F':Hp} {l:Addr} {o:Obj} {kvs:List (List Key × V)} (t:TDo P w F l o kvs) (s:Same F F'):TDo P w F' l o kvs:=by obtain ⟨z,y,xs,r,q⟩:=t; exact ⟨z,y,xs,r.keeps fun b ys e=>s _ _ e,q⟩
theorem KT.all {P:Program} {w:World} {H:Hp} {h:Heap} (ok:HOk P w H h) {l:List (List Key × V)} {m:List (List Key × Addr × Value)} (q:KT H l m):∀x∈m,(tupleKind (gI P w)).is h x.1 x.2.1:=by
 induction q with
 | nil=>intro x hx; exact nomatch hx
 | @cons p q ps qs hq t ih=>
  intro x hx
  rcases bV.mp hx with e | hx
  ·subst e; exact sW ok (by rw [← hq.1]; exact hq.2.1)
  ·exact ih x hx
noncomputable def kD:Key→D
 | .inl i=> .int i
 | .inr x=> .str x
theorem pE {K:aD} {F:Hp}:∀ {k:List Key} {xs:List V},RepL K F (k.map kD) xs→xs=k.map kV
 | [],xs,r=>by simpa only [fO,RepL] using r
 | a::k,xs,r=>by
  rw [bQ] at r; obtain ⟨y,ys,rfl,q,rl⟩:=r.uncons; rw [pE rl,bQ]; congr 1; cases a with
  | inl i=>simp only [kD,Rep] at q; exact q
  | inr x=>simp only [kD,Rep] at q; exact q
noncomputable def Gt (P:Program) (w:World) (K:aD) (l:Addr) (ks:List (List Key)) (ds:List D):V→Hp→Hp→Prop:=fun v F H=>v= .ref l∧∃o xs,H l=some (exO l o)∧(∀v,o.data≠ .cell v)∧RepL K F ds xs∧ks.length=ds.length∧TDo P w F l o (ks.zip xs)
noncomputable def odT (P:Program) (w:World) (K:aD) (l:Addr) (ks:List (List Key)) (ds:List D):Slot:= .ox [l] (Gt P w K l ks ds)
theorem tI {α β:Type} {xs:List α} {ys:List β} (h:xs.length=ys.length) (x:α) (y:β):(xs++[x]).zip (ys++[y])=xs.zip ys++[(x,y)]:=by rw [List.zip_append h]; rfl
theorem xV {ks:List (List Key)} {k:List Key} (hk:k∉ks):∀ {ks':List (List Key)} {xs:List V},(∀j∈ks',j∈ks)→lJ (ks'.zip xs) k=none
 | [],_,_=>rfl
 | _::_,[],_=>rfl
 | j::js,x::xs,h=>by rw [fJ,lH (p:=(j,x)) (k:=k) (fun e=>hk ((show j=k from e)▸h j aR))]; exact xV hk fun i hi=>h i (aQ _ hi)
section
variable {K:aD} {H₀ F F' H H':Hp} {σ:St} {sd:List Slot} {i:Nat} {l:Addr} {P:Program} {w:World} {ks:List (List Key)} {ds:List D}
theorem StF.setT {as:List Addr} {G:V→Hp→Hp→Prop} {v:V} (S:StF K H₀ F H σ sd) (i:Nat) (q:iJ K F H (.ox as G) (some v)) (nd:as.Nodup) (no:∀a∈as,a∉dC sd):StF K H₀ F H (σ.set i (some v)) (sd.set i (.ox as G)):=
 ⟨S.base,S.sub,S.smp,S.slots.set (z:= .ox as G) q i,(kY (z:= .ox as G) i S.nd (fun l e=> .inl (no l e)) nd).1⟩
theorem StF.reT {z z':Slot} {o:Option V} (S:StF K H₀ F H σ sd) (hs:sd[i]? =some z) (ho:σ[i]? =some o) (keep:∀b ob,b∉iA z→H b=some ob→H' b=some ob) (sm:Smp H') (q:iJ K F H' z' o) (nd:(iA z').Nodup) (no:∀a∈iA z',a∈iA z∨a∉dC sd):StF K H₀ F H' σ (sd.set i z'):=by
 have S0:=S.le (hX sd i); have mz:∀a∈iA z,a∈dC sd:=fun a ha=>dZ.mpr ⟨z,aY hs,ha⟩
 refine ⟨S.base,fun b u e=> ?_,sm, ?_, ?_⟩
 ·refine keep b u (fun hb=> ?_) (S.sub _ _ e); have:=(S.slots.owns (mz b hb)).1; rw [e] at this; cases this
 ·have q1:SlotsOk K F H' (sd.set i .un) σ:=S0.slots.mono (Same.refl _) fun a ha=>⟨(S0.slots.owns ha).1,fun ob e=>keep a ob (fun hb=>iS S.nd hs hb ha) e⟩
  have q2:=q1.set (z:=z') (o:=o) q i; rw [kE,mL ho] at q2; exact q2
 ·have:=kY (z:=z') i S0.nd (fun a ha=>by
   rcases no a ha with h | h
   ·exact .inl (iS S.nd hs h)
   ·exact .inl fun hm=>h ((hX sd i).own.subset hm)) nd
  rw [kE] at this; exact this.1
theorem nT {o:Obj} (h:Smp H) (a:Addr):Smp (upd H a (exO a o)):=fun b u e=>by
 by_cases z:b=a
 ·subst z; rw [dD] at e; cases e; trivial
 ·rw [cE z] at e; exact h _ _ e
end
section
variable {X:Cx} {sd:List Slot} {e a b c:Expr} {pos:Pos} {d:D} {ds:List D} {ks:List (List Key)} {k:List Key} {st:Stmt} {E:jP} {l:Addr}
noncomputable def dict0:Obj:={cls:= .type "dict",data:= .dict #[]}
theorem pe_dnewE:PE X (.Dict [] [] pos) (fun _ H Q=>∀p,H p=none→(p==sysModules)=false→Q (.ref p) (upd H p (exO p dict0))):=fun pins s σ H Q I h=>wpAny_Dict_empty ⟨.ref s.heap.objs.size,_,I.laid (a:=s.heap.objs.size) (o:=exO s.heap.objs.size dict0) (t':=s.toks) (fun _ _ q=>aM _ q) (aX _) (tT (bW _ rfl)),rfl,h _ (I.hok.fresh (aX _)) (beq_eq_false_iff_ne.mpr (Ne.symm (cH I.big)))⟩
end
section
variable {prog:Program} {w:World} {K:Type} [DecidableEq K] {knd:HeapKind prog w K} {A:Around} {E:Value→Shared→Prop} {s:Shared}
theorem qC {d a:Addr} {xs:List (K × Addr × Value)} {k:K} {v:Value} {Q:Value→Shared→Prop} (hu:knd.room A) (hkey:knd.is s.heap k a) (hm:s.heap.DictOfH knd d xs)
  (hold:∀u,(atKey xs k).map (·.2)=some u→Q u {s with toks:=s.toks+knd.draws k})
  (hnew:atKey xs k=none→∀h',h'.DictOfH knd d (storedH xs k a v)→Heap.SameBut d s.heap h'→Q v {s with heap:=h',toks:=s.toks+knd.draws k})
  (hsz:xs.length≤sizeLine):
  wpAny (model prog w) A (dictSetDefault d (.ref a) v) Q E s:=by
 obtain ⟨o,es,ep,ho,hc,hd,he,his,hn⟩:=hm; unfold dictSetDefault
 try with_reducible refine wpAny_holding ?_
 refine wpAny_bind (knd.pyHash hu hkey ?_); refine wpAny_bind (wpAny_dictFind_heap (s:={s with toks:=s.toks+knd.draws k}) hu hkey ho hd he his hn ?_ ?_)
 ·intro hno; have hnot:k∉xs.map (·.1):=not_mem_keys_of_get hno
  refine wpAny_bind (wpAny_rule (wpAny_bind (wpAny_updateDictKeys (hz:=by have e:=size_of_entries he; omega) (s:={s with toks:=s.toks+knd.draws k}) ho hd (wpAny_pure (hnew (atKey_none_of_get hno) _ ⟨_,_,ep+1,iR _ ho (Obj.isFreed_of_dict (Obj.data_mapDictKeys hd _)),
   hc.mapDictKeys _,Obj.data_mapDictKeys hd _, ?_, ?_, ?_⟩ (Heap.SameBut.update ..))))))
  ·rw [storedH_new (atKey_none_of_get hno)]; simp [he,entryOfKey]
  ·rw [storedH_new (atKey_none_of_get hno)]; intro x hx
   rcases bU.mp hx with hx | hx
   ·exact knd.keeps (his x hx) ho hd (Heap.SameBut.update ..)
   ·simp only [aU] at hx; subst hx; exact knd.keeps hkey ho hd (Heap.SameBut.update ..)
  ·rw [storedH_new (atKey_none_of_get hno)]; rw [bR,bY]; refine ⟨hn,by simp, ?_⟩; intro x hx y hy; simp only [bQ,fO,aU] at hy; subst hy; exact fun e=>hnot (e▸hx)
 ·intro j p hj; refine wpAny_bind (wpAny_dictEntries (s:={s with toks:=s.toks+knd.draws k}) ho hd ?_); rw [entry_at he j,hj]; have:=hold p.2 (by rw [atKey_of_get hn hj]; rfl); exact wpAny_bind (wpAny_rule (wpAny_pure this))
end
section
variable {prog:Program} {w:World} {K:Type} [DecidableEq K] (knd:HeapKind prog w K) (d a:Addr)
theorem sA (hd:(d==sysModules)=false) (dflt:Value):
  MeetsIn prog w (Builtin.«dict.setdefault» ⟨[.ref d, .ref a,dflt],[]⟩) (fun A R s=>knd.room A.in1∧∃k xs,knd.is s.heap k a∧s.heap.DictOfH knd d xs∧xs.length≤sizeLine∧
   (∀u,(atKey xs k).map (·.2)=some u→R (.ok (.ret u)) {s with toks:=s.toks+knd.draws k})∧
   (atKey xs k=none→∀h',h'.DictOfH knd d (storedH xs k a dflt)→Heap.SameBut d s.heap h'→R (.ok (.ret dflt)) {s with heap:=h',toks:=s.toks+knd.draws k})):=
 .of_wp fun A R s ⟨hu,k,xs,hkey,hm,hz,h1,h2⟩=>by unfold Builtin.«dict.setdefault»; refine wpAny_bind ?_; unfold Builtin.Dict.keyAndDefault; refine wpAny_bind (wpAny_notOrdered_dict hm.typeIs ?_); show wpAny _ _ (pure (d,Value.ref a,some dflt)) _ _ s; refine wpAny_pure ?_; show wpAny _ _ (if (d==sysModules)=true then _ else (dictSetDefault d (.ref a) dflt>>=_)) _ _ s; rw [if_neg (by rw [hd]; exact bO)]; exact wpAny_bind (qC (hsz:=hz) hu hkey hm (fun v hv=>wpAny_pure ⟨v,rfl,h1 v hv⟩) fun hn h' hm' hs'=>wpAny_pure ⟨dflt,rfl,h2 hn h' hm' hs'⟩)
end
section
variable {X:Cx} {o e:Expr} {es:List Expr} {to:TE} {t:TA} {name:Str} {apos cpos:Pos} {id:String} {r:V→List V→Hp→VK→Prop}
theorem pe_dm (pa:PlainAttrs "dict") (slot:PySem.Slot "dict" name id) (hty:typeOf (.builtin id)=pure (.type "method_descriptor")) (hm:MtR X id r) (ho:PE X o to) (ha:PA X (e::es) t)
  (hbase:attributeBase o name X.env (eval o X.env)=eval o X.env:=by rfl)
  (hfew:((backTo cpos (starEach (e::es) X.env)).all (fun x=> !x.1) && (backToKw cpos (keywordEach [] X.env)).all (fun x=>x.1.isSome)
   && decide ((e::es).length+([]:List Keyword).length+(if ([]:List Keyword).isEmpty then 0 else 1)<30))=true:=by rfl)
  (hline:(apos.endLine==cpos.line)=true:=by rfl) (hs:starEach (e::es) X.env=(false,eval e X.env)::starEach es X.env:=by rfl) (hplain:(backTo cpos (starEach es X.env)).any (·.1)=false:=by rfl):
  PE X (.Call (.Attribute o name apos) (e::es) [] cpos) (fun σ H Q=>to σ H fun x H1=>(∃l ob,x= .ref l∧H1 l=some (exO l ob)∧ob.ExactDict)∧t σ H1 fun xs H2=>r x xs H2 Q):=by
 intro pins s σ H Q I h; refine wpAny_Call_method_late hbase hfew hline rfl (thn (ho pins s σ H _ I h) fun v s1 ⟨x,H1,I1,r1,⟨l,ob,e1,e2,e3⟩,q1⟩=> ?_); subst e1; obtain rfl:v=Value.ref l:=r1; have hg:s1.heap.get? l=some ob:=(I1.hok l _ e2).1; refine ⟨"dict",id,pa,slot,hty,⟨ob,hg,e3.1⟩,fun a q=> ?_, ?_⟩
 ·cases q; exact ⟨ob,hg,e3.2.1⟩
 have hA:=ha cpos pins s1 σ H1 _ I1 q1; rw [hs] at hA ⊢; refine Calls.callWith_builtin (by show (false || (backTo cpos (starEach es X.env)).any (·.1))=false; rw [hplain]<;>rfl) (Calls.evalArgs_plain ?_); exact thn hA fun us s2 ⟨vs,H2,I2,r2,q2⟩=>hm pins s2 σ H2 (.ref l) vs (.ref l) us Q I2 rfl r2 q2
noncomputable def rSD (X:Cx):V→List V→Hp→VK→Prop:=fun x vs H Q=>∃ (F:Hp) (l ad:Addr) (k:List Key) (y:V) (o:Obj) (kvs:List (List Key × V)),x= .ref l∧vs=[.ref ad,y]∧Same F H∧H l=some (exO l o)∧F ad=some (.tup (k.map kV))∧X.A.units+1<cLine∧
 TDo X.prog X.w F l o kvs∧kvs.length+1≤sizeLine∧(∀z,lJ kvs k=some z→Q z H)∧(lJ kvs k=none→∀o',(∀v,o'.data≠ .cell v)→TDo X.prog X.w F l o' (kvs++[(k,y)])→Q y (upd H l (exO l o')))
theorem mt_sd:MtR X "dict.setdefault" (rSD X):=by
 intro pins s σ H x vs v us Q I rx rv h; obtain ⟨F,l,ad,k,y,o,kvs,rfl,rfl,sF,hl,ha,hu,⟨z,hm,ts,kt,es,ep,t1,t2,t3,t4⟩,hz1,q1,q2⟩:=h; obtain rfl:v=Value.ref l:=rx; cases rv with
 | cons r1 rv=>
  obtain ⟨u,rfl,ru⟩:=Vals.one rv; rename_i b; obtain rfl:b=Value.ref ad:=r1; have ho:s.heap.get? l=some o:=(I.hok l _ hl).1; have ktH:KT H kvs ts:=kt.keeps fun b ys e=>sF _ _ e
  have dd:s.heap.DictOfH (tupleKind (gI X.prog X.w)) l ts:=⟨o,es,ep,ho,t1,t2,t3,KT.all I.hok ktH,t4⟩; have hz:ts.length≤sizeLine:=by rw [← Paired.length kt]; exact z
  refine call_meetsIn uN dd.typeIs PySem.F.entry_dict_setdefault (PySem.F.args_dict_setdefault_3 _ _ _) (sA (tupleKind (gI X.prog X.w)) l ad hm u) ⟨tupleKind_room_in1 hu,k,ts,sW I.hok (sF _ _ ha),dd,hz,fun w' hw=> ?_,fun hn h' dd' hsm=> ?_⟩
  ·have rl:=ktH.val k; rw [hw] at rl; cases hv:lJ kvs k with
   | none=>rw [hv] at rl; cases rl
   | some z'=>rw [hv] at rl; exact ⟨z',H,I.tok _,rl,q1 z' hv⟩
  ·have hn':lJ kvs k=none:=by
    have rl:=ktH.val k; rw [hn] at rl; cases hv:lJ kvs k with
    | none=>rfl
    | some z'=>rw [hv] at rl; cases rl
   obtain ⟨q,es',ep',hq,u2,u3,u4,_,u5⟩:=dd'; have I4:=uU (t':=s.toks+(tupleKind (gI X.prog X.w)).draws k) I (ob:=exO l q) (by rw [hl]; exact True.intro) hsm ⟨q,hq⟩ (tT hq); have kt':=kt.put k ha ru; rw [wL y hn'] at kt'; exact ⟨y,_,I4,ru,q2 hn' q (fun v z=>by rw [u3] at z; cases z) ⟨by rw [bK]; exact hz1,hm,_,kt',es',ep',u2,u3,u4,u5⟩⟩
end
noncomputable def Gg (P:Program) (w:World) (K:aD) (l:Addr) (ks:List (List Key)) (ls:List Addr) (dss:List (List D)):V→Hp→Hp→Prop:=fun v F H=>v= .ref l∧(∃o,H l=some (exO l o)∧(∀v,o.data≠ .cell v)∧ks.length=ls.length∧TDo P w F l o (ks.zip (ls.map V.ref)))∧InD K F H ls dss
noncomputable def odG (P:Program) (w:World) (K:aD) (l:Addr) (ks:List (List Key)) (ls:List Addr) (dss:List (List D)):Slot:= .ox (l::ls) (Gg P w K l ks ls dss)
noncomputable def Gf (P:Program) (w:World) (K:aD) (ks:List (List Key)) (ds:List D):V→Hp→Hp→Prop:=fun v F _=>∃l o xs,v= .ref l∧F l=some (exO l o)∧RepL K F ds xs∧ks.length=ds.length∧TDo P w F l o (ks.zip xs)
noncomputable def odF (P:Program) (w:World) (K:aD) (ks:List (List Key)) (ds:List D):Slot:= .ox [] (Gf P w K ks ds)
theorem xQ:∀ {ks:List (List Key)} {xs:List V} {k:List Key} {z:V},lJ (ks.zip xs) k=some z→∃n:Nat,ks[n]? =some k∧xs[n]? =some z
 | [],_,_,_,h=>by cases h
 | _::_,[],_,_,h=>by cases h
 | j::js,y::ys,k,z,h=>by
  rw [fJ] at h
  by_cases e:j=k
  ·rw [nJ (p:=(j,y)) e] at h; exact ⟨0,by simp [e],by simpa using h⟩
  ·rw [lH (p:=(j,y)) (k:=k) e] at h; obtain ⟨n,h1,h2⟩:=xQ h; exact ⟨n+1,by simpa using h1,by simpa using h2⟩
theorem valT_no:∀ {ks:List (List Key)} {xs:List V} {k:List Key},ks.length=xs.length→lJ (ks.zip xs) k=none→k∉ks
 | [],_,_,_,_=>by simp
 | _::_,[],_,h,_=>by cases h
 | j::js,y::ys,k,hl,h=>by
  rw [fJ] at h
  by_cases e:j=k
  ·rw [nJ (p:=(j,y)) e] at h; cases h
  ·rw [lH (p:=(j,y)) (k:=k) e] at h; have:=valT_no (Nat.succ.inj hl) h; exact fun hm=>(bV.mp hm).elim (fun q=>e q.symm) this
theorem slot_same {sd:List Slot} {i:Nat} {z:Slot} (h:sd[i]? =some z):sd.set i z=sd:=by obtain ⟨hi,e⟩:=aP.mp h; rw [← e,List.set_getElem_self]
section
variable {K:aD} {H₀ F F' H H':Hp} {σ:St} {sd:List Slot} {i:Nat} {l:Addr} {ls:List Addr} {dss:List (List D)} {P:Program} {w:World} {ks:List (List Key)}
theorem iM (S:StF K H₀ F H σ sd) (hs:sd[i]? =some (odG P w K l ks ls dss)):σ[i]? =some (some (.ref l))∧(∀a∈l::ls,F a=none)∧(∃o,H l=some (exO l o)∧(∀v,o.data≠ .cell v)∧ks.length=ls.length∧TDo P w F l o (ks.zip (ls.map V.ref)))∧InD K F H ls dss∧(l::ls).Nodup:=by
 obtain ⟨o,h1,v,h2,h3,h4⟩:=S.slots.get hs; obtain ⟨e,q1,q2⟩:=h4 F H (Same.refl _) fun _ _ _ q=>q
 subst e h2; exact ⟨h1,fun a ha=>(h3 a ha).1,q1,q2,vG S.nd hs⟩
theorem vY {o:Obj} (hF:∀a∈l::ls,F a=none) (h1:H l=some (exO l o)) (nc:∀v,o.data≠ .cell v) (hl:ks.length=ls.length) (t:TDo P w F l o (ks.zip (ls.map V.ref))) (h2:InD K F H ls dss):iJ K F H (odG P w K l ks ls dss) (some (.ref l)):=by
 refine ⟨.ref l,rfl,fun a ha=>⟨hF a ha, ?_⟩,fun F' H' s k=>⟨rfl,⟨o,k _ aR _ h1,nc,hl,t.mono s⟩,h2.mono2 s fun a ha=>k a (aQ _ ha)⟩⟩
 rcases bV.mp ha with rfl | ha
 ·exact ⟨_,h1,o,rfl,nc⟩
 ·obtain ⟨xs,e⟩:=h2.of a ha; exact ⟨.lst xs,e,trivial⟩
theorem StF.wrG {t:Nat} {a:Addr} {es:List D} {ys:List V} (S:StF K H₀ F H σ sd) (hs:sd[i]? =some (odG P w K l ks ls dss)) (ht:ls[t]? =some a) (r:RepL K F es ys):StF K H₀ F (upd H a (.lst ys)) σ (sd.set i (odG P w K l ks ls (dss.set t es))):=by
 obtain ⟨g1,g2,⟨o,g3,nc,hl,td⟩,g4,g5⟩:=iM S hs; obtain ⟨n1,n2⟩:=cV.mp g5; have ma:=aY ht
 refine S.reX (z':=odG P w K l ks ls (dss.set t es)) hs g1 (fun b ob hb q=> ?_) (smp_upd S.smp a) (vY g2 (by
  rw [cE (show l≠a from fun z=>n1 (z▸ma))]
  exact g3) nc hl td (g4.set n2 ht r)) g5 fun b hb=> .inl hb
 rw [cE (show b≠a from fun z=>hb (z▸aQ _ ma))]; exact q
theorem InD.snoc {a:Addr}:∀ {as:List Addr} {dss:List (List D)},InD K F H as dss→H a=some (.lst [])→InD K F H (as++[a]) (dss++[[]])
 | [],[],_,e=>⟨⟨[],e, .nil⟩,trivial⟩
 | [],_::_,h,_=>h.elim
 | _::_,[],h,_=>h.elim
 | _::_,_::_,h,e=>⟨h.1,InD.snoc h.2 e⟩
theorem StF.newG {a:Addr} {o:Obj} {k:List Key} (S:StF K H₀ F H σ sd) (hs:sd[i]? =some (odG P w K l ks ls dss)) (fa:F a=none) (ha:H a=some (.lst [])) (na:a∉dC sd) (nc:∀v,o.data≠ .cell v) (td:TDo P w F l o (ks.zip (ls.map V.ref)++[(k, .ref a)])):
  StF K H₀ F (upd H l (exO l o)) σ (sd.set i (odG P w K l (ks++[k]) (ls++[a]) (dss++[[]]))):=by
 obtain ⟨g1,g2,⟨o',g3,nc',hl,_⟩,g4,g5⟩:=iM S hs; obtain ⟨n1,n2⟩:=cV.mp g5; have ml:∀b∈l::ls,b∈dC sd:=fun b hb=>dZ.mpr ⟨_,aY hs,hb⟩
 have al:a≠l:=fun z=>na (z▸ml l aR)
 have als:a∉ls:=fun z=>na (ml a (aQ _ z))
 have sp:∀b,b∈l::(ls++[a])→b∈l::ls∨b=a:=fun b hb=>by
  rcases bV.mp hb with h | h
  ·exact .inl (h▸aR)
  ·rcases bU.mp h with h | h
   ·exact .inl (aQ _ h)
   ·exact .inr (aU.mp h)
 refine S.reX (z':=odG P w K l (ks++[k]) (ls++[a]) (dss++[[]])) hs g1 (fun b ob hb q=> ?_) (nT S.smp l) (vY (fun b hb=> ?_) dD nc (by rw [bK,bK,hl]; rfl) ?_ ?_) ?_ fun b hb=> ?_
 ·rw [cE (show b≠l from fun z=>hb (z▸aR))]; exact q
 ·rcases sp b hb with h | rfl
  ·exact g2 b h
  ·exact fa
 ·rw [bR,bQ,fO,tI (by rw [aG]; exact hl)]; exact td
 ·refine InD.snoc (g4.mono2 (Same.refl _) fun b hb ob q=> ?_) ?_
  ·rw [cE (show b≠l from fun z=>n1 (z▸hb))]; exact q
  ·rw [cE al]; exact ha
 ·show (l::(ls++[a])).Nodup; refine cV.mpr ⟨fun h=> ?_,bY.mpr ⟨n2,by simp,fun b hb c hc e=>als (aU.mp hc▸e▸hb)⟩⟩
  rcases bU.mp h with h | h
  ·exact n1 h
  ·exact al (aU.mp h).symm
 ·rcases sp b hb with h | rfl
  ·exact .inl h
  ·exact .inr na
end
section
variable {X:Cx} {sd:List Slot} {e a b c:Expr} {pos:Pos} {d:D} {ds:List D} {ks:List (List Key)} {k:List Key} {st:Stmt} {E:jP} {l:Addr} {ls:List Addr} {dss:List (List D)}
theorem psd_dnewG (i:Nat) {x:Str} {p p2:Pos} (hN:X.N.Nodup) (hi:X.N[i]? =some x) (hx:Loc X.env.scope x) (hE:∀l,E.nx (sd.set i (odG X.prog X.w X.K l [] [] []))) (hs:swapsWith (.Dict [] [] p2) (some (.Name x p)) pos.line X.env=pure false:=by rfl)
  (hf:X.fn x=true∨X.env.scope.names.lookup x=some .local:=by first | exact .inl rfl | exact .inr rfl | assumption):PSd1 X sd (.Assign [.Name x p] (.Dict [] [] p2) pos) E:= .mk fun σ F H S=>
 (tF hN hi hx pe_dnewE hs hf).to fun q hq hm=>by
  have fp:F q=none:=S.sub.free hq
  have no:q∉dC sd:=fun hl=>by obtain ⟨_,ob,h,_⟩:=S.slots.owns hl; rw [hq] at h; cases h
  have S1:StF X.K X.B₀ F (upd H q (exO q dict0)) σ sd:=by
   refine ⟨S.base,fun b u e=> ?_,nT S.smp q,S.slots.mono (Same.refl _) fun l hl=> ?_,S.nd⟩
   ·rw [cE (dE e fp)]; exact S.sub _ _ e
   ·obtain ⟨n,ys,y,_⟩:=S.slots.owns hl; have hne:l≠q:=dE y hq; exact ⟨n,fun ys e=>by rw [cE hne]; exact e⟩
  refine ⟨_,F,S1.setT i (vY (P:=X.prog) (w:=X.w) (K:=X.K) (ks:=[]) (ls:=[]) (dss:=[]) (fun a ha=>by rw [aU.mp ha]; exact fp) dD (fun v z=>by cases z) rfl ⟨dA _,hm,[], .nil, #[],0,⟨rfl,rfl,rfl⟩,rfl,rfl,gE⟩ trivial) (by simp) fun a ha=> ?_,Same.refl _,hE q⟩; rw [aU.mp ha]; exact no
theorem psd_sdApp (i:Nat) {x:Str} {p ap1 cp1 p5 ap cp:Pos} (hu:X.A.units+1<cLine) (hs:sd[i]? =some (odG X.prog X.w X.K l ks ls dss)) (hx:PE X (.Name x p) (lY i)) (hb:PEd X sd b (.val (.tup (k.map kD)))) (h:∀z,PEd X (sd.set i z) e (.val d)) (hl:dss.length≤1000) (hl2:∀ds∈dss,ds.length≤1000)
  (hE1:∀n ds,ks[n]? =some k→dss[n]? =some ds→E.nx (sd.set i (odG X.prog X.w X.K l ks ls (dss.set n (ds++[d])))))
  (hE2:k∉ks→∀a,E.nx (sd.set i (odG X.prog X.w X.K l (ks++[k]) (ls++[a]) (dss++[[d]]))))
  (hm:PE X (.Call (.Attribute (.Call (.Attribute (.Name x p) "setdefault" ap1) [b, .List [] p5] [] cp1) "append" ap) [e] [] cp)
   (tBM X.K "list" uR (fun σ H Q=>lY i σ H fun x H1=>(∃l ob,x= .ref l∧H1 l=some (exO l ob)∧ob.ExactDict)∧(oR (wE X b) (oR (wE X (.List [] p5)) zR)) σ H1 fun xs H2=>rSD X x xs H2 Q) (oR (wE X e) zR)):=by exact pe_bm jT xN xO xZ (pe_dm jU uN PySem.F.type_dict_setdefault mt_sd (pv _) (gR gS (gR gS pa_nil))) (gR gS pa_nil))
  (hsw:swapsWith (.Call (.Attribute (.Call (.Attribute (.Name x p) "setdefault" ap1) [b, .List [] p5] [] cp1) "append" ap) [e] [] cp) none pos.line X.env=pure false:=by rfl):
  PSd1 X sd (.Expr (.Call (.Attribute (.Call (.Attribute (.Name x p) "setdefault" ap1) [b, .List [] p5] [] cp1) "append" ap) [e] [] cp) pos) E:= .mk fun σ F H S=>
 (rC hm hsw).to (by
  obtain ⟨h1,h2,⟨o,h3,nc,hk,td⟩,h4,h5⟩:=iM S hs; have il:i<sd.length:=(aP.mp hs).1
  have fin:∀ (F2 H2:Hp) (ks2:List (List Key)) (ls2:List Addr) (dss2:List (List D)) (n:Nat) (ad:Addr) (ds:List D),StF X.K X.B₀ F2 H2 σ (sd.set i (odG X.prog X.w X.K l ks2 ls2 dss2))→Same F F2→ls2[n]? =some ad→dss2[n]? =some ds→ds.length≤1000→E.nx (sd.set i (odG X.prog X.w X.K l ks2 ls2 (dss2.set n (ds++[d]))))→
    tyV X.K "list" (.ref ad) H2∧(oR (wE X e) zR) σ H2 fun xs H3=>uR (.ref ad) xs H3 fun _ H4=>(lft X F E).nx σ H4:=fun F2 H2 ks2 ls2 dss2 n ad ds S2 s2 hn hd hdl hE=>by
   have hs2:(sd.set i (odG X.prog X.w X.K l ks2 ls2 dss2))[i]? =some (odG X.prog X.w X.K l ks2 ls2 dss2):=oX il; obtain ⟨g1,g2,_,g4,g5⟩:=iM S2 hs2; obtain ⟨ds',xs,e1,e2,e3⟩:=g4.get hn; refine ⟨.inl ⟨rfl,xs, .of e2⟩,(h _ σ F2 H2 S2).imp fun v H3 ⟨F3,S3,s3,q3⟩=> ?_⟩; obtain ⟨f1,f2,_,f4,f5⟩:=iM S3 hs2; obtain ⟨ds3,xs3,u1,u2,u3⟩:=f4.get hn; rw [hd] at u1; cases u1; have W:=S3.wrG (es:=ds++[d]) (ys:=xs3++[v]) hs2 hn (u3.app (.one q3)); rw [kE] at W; exact ⟨ad,xs3,v,rfl,rfl,u2,by rw [u3.len] ; exact gW hdl,_,F3,W,s2.trans s3,hE⟩
  refine ⟨.ref l,h1,⟨l,o,rfl,h3,td.2.2.choose_spec.2.choose_spec.choose_spec.1⟩,(hb σ F H S).imp fun v1 H1 ⟨F1,S1,s1,q1⟩=>((jN (ds:=[]) bD (dA _):PEd X sd (.List [] p5) (.own [])) σ F1 H1 S1).imp fun v2 H2 ⟨F2,S2,s2,q2⟩=> ?_⟩; obtain ⟨g1,g2,⟨o2,g3,nc2,hk2,td2⟩,g4,g5⟩:=iM S2 hs; simp only [ResOk,Rep] at q1; obtain ⟨ad,ys,rfl,ha,rl⟩:=q1; rw [pE rl] at ha; obtain ⟨a,xs,rfl,fa,ha2,rl2,na⟩:=q2; have xn:xs=[]:=eQ (by rw [rl2.len]; rfl); subst xn; have zl:(ks.zip (ls.map V.ref)).length=dss.length:=by rw [iN,aG,← hk2,mP,hk2,g4.len]
  refine ⟨F2,l,ad,k, .ref a,o2,ks.zip (ls.map V.ref),rfl,rfl,S2.sub,g3,s2 _ _ ha,hu,td2,by rw [zl]; have:=gW hl; omega,fun z hz=> ?_,fun hz o' nc' td'=> ?_⟩
  ·obtain ⟨n,e1,e2⟩:=xQ hz; rw [bG] at e2; obtain ⟨an,e3,rfl⟩:=gP.mp e2; obtain ⟨ds,xs,d1,d2,d3⟩:=g4.get e3; have S2':StF X.K X.B₀ F2 H2 σ (sd.set i (odG X.prog X.w X.K l ks ls dss)):=by rw [slot_same hs]; exact S2
   exact fin F2 H2 ks ls dss n an ds S2' (s1.trans s2) e3 d1 (hl2 ds (aY d1)) (hE1 n ds e1 d1)
  ·have S3:=S2.newG hs fa ha2 na nc' td'; have hE:=hE2 (valT_no (by rw [aG]; exact hk2) hz) a; have en:(dss++[[]]).set dss.length ([]++[d])=dss++[[d]]:=by simp
   exact fin F2 _ (ks++[k]) (ls++[a]) (dss++[[]]) dss.length a [] S3 (s1.trans s2) (by rw [← g4.len]; simp) (by simp) (dA _) (by rw [en]; exact hE))
end
noncomputable def sN (p:Int × Int) (ws:List Int):Nat:=(uE (2^p.1.toNat) ws).toNat
theorem num_ok {p:Int × Int} (hp:p∈dH) {ws:List Int} (G:Fil p ws):uE (2^p.1.toNat) ws=(sN p ws:Int)∧sN p ws<(eV p).length∧(eV p).getD (sN p ws) []=ws:=by have h:=fil_ok (chk14 p hp); obtain ⟨a,b,c⟩:=fil_at h G.len G.wd; refine ⟨by unfold sN; omega, ?_,c⟩; show _<(iC _ _).length; rw [h.len]; exact b
theorem num_at {p:Int × Int} (hp:p∈dH) {i:Nat} (hi:i<(eV p).length):sN p ((eV p).getD i [])=i:=by
 have h:=fil_ok (chk14 p hp); have hi':i<2^(p.1.toNat * p.2.toNat):=by rw [← h.len]; exact hi
 have:=(h.at_ i hi').2.2.1; unfold sN; show (uE (2^p.1.toNat) ((iC (2^p.1.toNat) p.2.toNat).getD i [])).toNat=i; rw [this]; exact eY i
noncomputable def LtAt (A:Around) (s:Shared) (x y:Value) (b:Bool):Prop:=∀ (prog:Program) (w:World) (E:Value→Shared→Prop) (Q:Value→Shared→Prop),Q (.bool b) s→wpAny (model prog w) A (richCompare .Lt x y) Q E s
inductive zP (A:Around) (s:Shared) (fin:Bool):List (Value × Value)→Bool→Prop
 | nil:zP A s fin [] fin
 | eq {x y:Value} {r:List (Value × Value)} {b:Bool}:SeqAt.EqAt A.in1 s x y true→zP A s fin r b→zP A s fin ((x,y)::r) b
 | lt {x y:Value} {r:List (Value × Value)} {b:Bool}:SeqAt.EqAt A.in1 s x y false→LtAt A.in1 s x y b→zP A s fin ((x,y)::r) b
section
open PySem.SeqAt
open PySem.AutoSeq1 (wpAny_loadPart')
open PySem.MeetsSeq PySem.MeetsSeq2 PySem.MeetsSeq3
theorem zY (l b:Addr) (items items2:Array Value) (n n2:Nat) (dd dd2:Option Addr) (sl sl2:Array (Option Value)) (res:Bool):
  Meets (Builtin.«tuple.__lt__» ⟨[.ref l, .ref b],[]⟩)
   (fun A R s=>s.heap.get? l=some {cls:= .type "tuple",dict:=dd,data:= .seq items n,slots:=sl}∧s.heap.get? b=some {cls:= .type "tuple",dict:=dd2,data:= .seq items2 n2,slots:=sl2}∧
    zP A s (decide (items.size<items2.size)) (items.toList.zip items2.toList) res∧R (.ok (.ret (.bool res))) s):=
 .of_wp fun prog w A R s h=>by
  obtain ⟨hp,g,d,tk,os⟩:=s; obtain ⟨hl,hb,hx,h⟩:=h; have f2:=AutoSeq1.sub_tuple_tuple
  wp_walk using wpAny_loadPart' hl,wpAny_loadPart' hb,wpAny_forIn_list _ (fun rest b s'=>b.1=none∧s'=⟨hp,g,d,tk,os⟩∧zP A ⟨hp,g,d,tk,os⟩ (decide (items.size<items2.size)) rest res) _
  case turn=>
   rintro ⟨y,x⟩ rest b s' ⟨hb',rfl,hv⟩; cases hv with
   | eq he hr=>
    refine wpAny_bind (he prog w _ _ ?_)
    wp_walk
    exact ⟨rfl,rfl,hr⟩
   | lt he hlt=>
    refine wpAny_bind (he prog w _ _ ?_); have hri:=hlt prog w
    wp_walk using hri
    exact ⟨_,rfl,by simpa using h⟩
  case fin=>
   rintro ⟨b1,b2⟩ s' ⟨hb',rfl,hv⟩; simp only at hb'; subst hb'; cases hv
   wp_walk
   exact ⟨_,rfl,by simpa [Builtin.Tuple.tupleCompareSizes] using h⟩
  case h=>exact ⟨rfl,rfl,hx⟩
theorem lt_tup_gen {A:Around} {s:Shared} {l b:Addr} {items items2:Array Value} {res:Bool} (hl:IsTup s.heap l items) (hb:IsTup s.heap b items2) (hx:zP A s (decide (items.size<items2.size)) (items.toList.zip items2.toList) res)
  (hu:A.units<cLine):LtAt A s (.ref l) (.ref b) res:=fun prog w E Q h=>by
 obtain ⟨⟨cls,dd,data,sl⟩,ho,hc,n,hd⟩:=id hl; obtain ⟨⟨cls2,dd2,data2,sl2⟩,ho2,hc2,n2,hd2⟩:=id hb; simp only at hc hd hc2 hd2; subst hc hd hc2 hd2
 exact richCompare_meets_room (op:= .Lt) ⟨_,ho,rfl⟩ ⟨_,ho2,rfl⟩ PySem.F.slot_tuple_lt PySem.F.entry_tuple_lt (PySem.F.args_tuple_lt_2 _ _) (zY l b items items2 n n2 dd dd2 sl sl2 res)
  ⟨ho,ho2,hx,show Value.bool res≠Value.notImplemented∧Q (.bool res) s from ⟨(fun x=>nomatch x),h⟩⟩ hu
end
mutual
noncomputable def dlt:D→D→Bool
 | .int a, .int b=>decide (a<b)
 | .tup a, .tup b=>pJ a b
 | _,_=>false
noncomputable def pJ:List D→List D→Bool
 | [],[]=>false
 | [],_::_=>true
 | _::_,[]=>false
 | d::ds,e::es=>if deq d e=true then pJ ds es else dlt d e
end
mutual
noncomputable def iZ:D→D→Bool
 | .int _, .int _=>true
 | .tup a, .tup b=>uH a b
 | _,_=>false
noncomputable def uH:List D→List D→Bool
 | [],_=>true
 | _::_,[]=>true
 | d::ds,e::es=>iZ d e && uH ds es
end
section
variable {P:Program} {w:World} {K:aD} {H:Hp} {s:Shared}
mutual
theorem ltAt_D (hok:HOk P w H s.heap):∀ (d:D) {d2:D} {v1 v2:V} {u1 u2:Value} {A:Around},iZ d d2=true→pl d=true→pl d2=true→Rep K H d v1→Rep K H d2 v2→RelV v1 u1→RelV v2 u2→A.units+dep d<cLine→LtAt A s u1 u2 (dlt d d2)
 | .int a,d2,v1,v2,u1,u2,A,c,p1,p2,r1,r2,ru1,ru2,hu=>by
  cases d2 with
  | int b=>simp only [Rep] at r1 r2; subst r1 r2; obtain ⟨t,rfl⟩:=ru1; obtain ⟨t2,rfl⟩:=ru2; simp only [dlt]; exact fun prog w E Q h=>(PyProof.Rows.lt_int h:wpAny (model prog w) A (compareOp .Lt (.int a t) (.int b t2)) Q E s)
  | _=>simp [iZ] at c
 | .tup ds,d2,v1,v2,u1,u2,A,c,p1,p2,r1,r2,ru1,ru2,hu=>by
  cases d2 with
  | tup es=>
   obtain ⟨a,xs,its,rfl,rfl,rl,rv,ht⟩:=iB hok r1 ru1; obtain ⟨b,ys,jts,rfl,rfl,rl2,rv2,ht2⟩:=iB hok r2 ru2; simp only [dlt]; have l1:its.length=ds.length:=by rw [← rv.length,rl.len]
   have l2:jts.length=es.length:=by rw [← rv2.length,rl2.len]
   simp only [pl] at p1 p2; simp only [dep] at hu; simp only [iZ] at c; refine lt_tup_gen ht ht2 ?_ (by omega); exact ltAt_L hok ds c p1 p2 rl rl2 rv rv2 (by omega) (by simp [l1,l2])
  | _=>simp [iZ] at c
 | .non,d2,_,_,_,_,_,c,_,_,_,_,_,_,_=>by cases d2<;>simp [iZ] at c
 | .bl _,d2,_,_,_,_,_,c,_,_,_,_,_,_,_=>by cases d2<;>simp [iZ] at c
 | .str _,d2,_,_,_,_,_,c,_,_,_,_,_,_,_=>by cases d2<;>simp [iZ] at c
 | .lst _,d2,_,_,_,_,_,c,_,_,_,_,_,_,_=>by cases d2<;>simp [iZ] at c
 | .dic,d2,_,_,_,_,_,c,_,_,_,_,_,_,_=>by cases d2<;>simp [iZ] at c
 | .dki _ _,d2,_,_,_,_,_,c,_,_,_,_,_,_,_=>by cases d2<;>simp [iZ] at c
 | .any _,d2,_,_,_,_,_,c,_,_,_,_,_,_,_=>by cases d2<;>simp [iZ] at c
 | .scr _,d2,_,_,_,_,_,c,_,_,_,_,_,_,_=>by cases d2<;>simp [iZ] at c
theorem ltAt_L (hok:HOk P w H s.heap):∀ (ds:List D) {es:List D} {xs ys:List V} {its jts:List Value} {A:Around} {fin:Bool},uH ds es=true→plL ds=true→plL es=true→RepL K H ds xs→RepL K H es ys→Vals xs its→Vals ys jts→A.units+1+jJ ds<cLine→fin=decide (ds.length<es.length)→zP A s fin (its.zip jts) (pJ ds es)
 | [],es,xs,ys,its,jts,A,fin,c,p1,p2,r1,r2,v1,v2,hu,hf=>by
  simp only [RepL] at r1; subst r1; cases v1; subst hf; rw [List.zip_nil_left]; cases es with
  | nil=>exact .nil
  | cons e es=>
   have:pJ [] (e::es)=decide (([]:List D).length<(e::es).length):=by simp [pJ]
   rw [this]; exact .nil
 | d::ds,[],xs,ys,its,jts,A,fin,c,p1,p2,r1,r2,v1,v2,hu,hf=>by
  simp only [RepL] at r2; subst r2; cases v2; subst hf; rw [List.zip_nil_right]; have:pJ (d::ds) []=decide ((d::ds).length<([]:List D).length):=by simp [pJ]
  rw [this]; exact .nil
 | d::ds,e::es,xs,ys,its,jts,A,fin,c,p1,p2,r1,r2,v1,v2,hu,hf=>by
  obtain ⟨x,xs,rfl,a1,r1⟩:=r1.uncons; obtain ⟨y,ys,rfl,a2,r2⟩:=r2.uncons; simp only [plL,bX] at p1 p2; simp only [uH,bX] at c; simp only [jJ] at hu; cases v1 with
  | cons q1 v1=>
   cases v2 with
   | cons q2 v2=>
    rw [fJ]; have he:=vI (A:=A.in1) hok d p1.1 p2.1 a1 a2 q1 q2 (by show A.units+1+dep d<cLine; omega); simp only [pJ]
    by_cases z:deq d e=true
    ·rw [if_pos z]; rw [z] at he; exact .eq he (ltAt_L hok ds c.2 p1.2 p2.2 r1 r2 v1 v2 (by omega) (by rw [hf]; simp))
    ·rw [if_neg z]; rw [Bool.eq_false_iff.mpr z] at he; exact .lt he (ltAt_D (A:=A.in1) hok d c.1 p1.1 p2.1 a1 a2 q1 q2 (by show A.units+1+dep d<cLine; omega))
end
end
section
variable {X:Cx} {sd:List Slot} {e a b c tg iter o:Expr} {es:List Expr} {pos:Pos} {r ra rb:R} {d d1 d2:D} {ds ls:List D} {st:Stmt} {rest:List Stmt} {E:jP}
theorem op_ltD (K:aD) (d1 d2:D) (hc:iZ d1 d2=true) (p1:pl d1=true) (p2:pl d2=true) (hu:X.A.units+dep d1<cLine):OpR X (compareOp .Lt) (fun x y H Q=>Rep K H d1 x∧Rep K H d2 y∧Q (.bl (dlt d1 d2)) H):=by intro pins s σ H x y v u Q I rx ry h; obtain ⟨h1,h2,q⟩:=h; exact ltAt_D I.hok d1 hc p1 p2 h1 h2 rx ry hu _ _ _ _ ⟨.bl (dlt d1 d2),H,I,rfl,q⟩
end
section
variable {prog:Program} {w:World} {A:Around} {E:Value→Shared→Prop} {s:Shared}
open HT
end
theorem pI (a:List Nat):(cG a).length=a.length:=by unfold cG; rw [aG]
noncomputable def shp {α β:Type} (n:β) (g:α→β):List Bool→List α→List β
 | [],_=>[]
 | false::m,as=>n::shp n g m as
 | true::m,[]=>n::shp n g m []
 | true::m,a::as=>g a::shp n g m as
noncomputable def GO (K:aD) (m:List Bool) (l:Addr) (ls:List Addr) (dss:List (List D)):V→Hp→Hp→Prop:=fun v F H=>v= .ref l∧H l=some (.lst (shp V.non V.ref m ls))∧InD K F H ls dss
section
variable {X:Cx} {sd:List Slot} {e a b c:Expr} {pos:Pos} {d:D} {ds:List D} {ks:List (List Key)} {k:List Key} {st:Stmt} {E:jP} {l:Addr}
noncomputable def odB (P:Program) (w:World) (K:aD) (l:Addr) (ks:List (List Key)):Slot:=odT P w K l ks (ks.map fun _=>D.bl true)
end
structure Exc (h0 h:Heap) (H:Hp) (a T:Addr) (cls:Value):Prop where
 free:H a=none
 new:h0.get? a=none
 freeT:H T=none
 newT:h0.get? T=none
 obj:∃oe vs oT ts a0,h.get? a=some oe∧(oe.cls=cls∧vs[0]? =some a0)∧oe.data= .fields vs∧vs[1]? =some (.ref T)∧T≠a∧h.get? T=some oT∧oT.data= .fields ts∧ts[3]? =some .none
noncomputable def CX1 (P:Program) (w:World) (cls:Value):CXT:=fun outer H s E e s'=>∃a T H',e= .ref a∧s'.os=s.os∧AllBare s'.gens∧Un (frs outer) [] H H' s.heap s'.heap∧HOk P w H' s'.heap∧Exc s.heap s'.heap H' a T cls∧E (.ref a) (some a) H'
end DL
namespace DL
open PySem PySem.Spec PySem.Calls PySem.W PyProof.Rows Builtin Builtin.Getset_descriptor Builtin.ObjectAttr
section
variable {prog:Program} {w:World} {A:Around} {E:Value→Shared→Prop} {h:Heap} {g:Array GenState} {d:Drawn} {t:Nat} {os:OsState} {a C:Addr} {K:Frag}
structure XCls (K:Frag) (C:Addr):Prop where
 ha:findIn K (.ref C) "__class__"=some (some (.builtin "object.__class__"))
 hm:mroIn K C (.type "object")=some true
 hs:subIn K (.ref C) (.type "BaseException")=some true
 hg:findIn K (.ref C) "__getattribute__"=some (some (.builtin "BaseException.__getattribute__"))
 hn:findIn K (.ref C) "__getattr__"=some none
 hc:(clsIn K C).isSome=true
end
end DL
namespace DL
open PySem PySem.Spec PyProof.Rows L2
noncomputable def bmVE:List Value:=[.type "ValueError", .type "Exception", .type "BaseException", .type "object"]
section
variable {X:Cx} {sd:List Slot} {e a b c:Expr} {es:List Expr} {pos:Pos} {d:D} {ds:List D} {E:jP}
structure PEx (X:Cx) (sd:List Slot) (e:Expr):Prop where
 run:∀ (σ:St) (F H:Hp),StF X.K X.B₀ F H σ sd→wE X e σ H (fun _ _=>False)
noncomputable def spX (K:aD) (n:Nat) (C:List D→Prop):Sp:=fun vs H _ E=>vs.length=n∧Smp H∧∃ds,RepL K H ds vs∧C ds∧∀a H',Same H H'→Smp H'→E (.ref a) (some a) H'
structure CalleeX (P:Program) (w:World) (K:aD) (mg:Str→Option Value) (base:Heap) (x:Str) (k n:Nat) (C:List D→Prop) (cls:Value) (dvs:List V) (dws:List Value):Prop where
 ex:∃ (f:Addr) (fd:FuncData) (ps:List Str),mg x=some (.ref f)∧bA K (.ref f)=true∧Binds K fd ps dws∧Vals dvs dws∧FnOk P w K mg base (CX1 P w cls) k f fd ps (spX K n C)
end
section
variable {X:Cx} {pins:List (Addr × Obj)} {σ:St} {F H:Hp} {s:Shared} {sd:List Slot} {a T:Addr} {cls:Value} {M:Model} {A:Around} {Ex:Value→Shared→Prop}
structure Held (X:Cx) (pins:List (Addr × Obj)) (σ:St) (H:Hp) (s:Shared) (a T:Addr) (cls fl:Value):Prop where
 inv:Inv X pins σ H s
 fa:H a=none∧X.s₀.heap.get? a=none∧∀p∈X.pn++pins,p.1≠a
 fT:H T=none∧X.s₀.heap.get? T=none∧∀p∈X.pn++pins,p.1≠T
 obj:∃oe vs oT ts a0,s.heap.get? a=some oe∧(oe.cls=cls∧vs[0]? =some a0)∧oe.data= .fields vs∧vs[1]? =some (.ref T)∧T≠a∧s.heap.get? T=some oT∧oT.data= .fields ts∧ts[3]? =some fl
end
section
variable {X:Cx} {sd:List Slot} {e a b c:Expr} {es:List Expr} {pos:Pos} {d:D} {ds:List D} {E:jP}
noncomputable def spS (K:aD) (n:Nat) (G:V→Hp→Prop) (C:List D→Prop):Sp:=fun vs H _ E=>vs.length=n∧Smp H∧∃v us ds,vs=v::us∧G v H∧RepL K H ds us∧C ds∧∀a H',Same H H'→Smp H'→E (.ref a) (some a) H'
structure CalleeS (P:Program) (w:World) (K:aD) (mg:Str→Option Value) (base:Heap) (x:Str) (k n:Nat) (G:V→Hp→Prop) (C:List D→Prop) (cls:Value):Prop where
 ex:∃ (f:Addr) (fd:FuncData) (ps:List Str),mg x=some (.ref f)∧bA K (.ref f)=true∧Binds K fd ps []∧FnOk P w K mg base (CX1 P w cls) k f fd ps (spS K n G C)
structure PSh (X:Cx) (sd:List Slot) (e:Expr) (G:V→Hp→Prop):Prop where
 run:∀ (σ:St) (F H:Hp),StF X.K X.B₀ F H σ sd→wE X e σ H fun v H'=>∃F',StF X.K X.B₀ F' H' σ sd∧Same F F'∧G v F'
end
section
variable {X:Cx} {pins:List (Addr × Obj)} {σ:St} {F H:Hp} {s s':Shared} {sd:List Slot} {cls:Value} {e tg iter:Expr} {es:List Expr} {pos:Pos} {ds:List D} {Old:Addr→Prop} {E:jP}
structure ExcO (Old:Addr→Prop) (h:Heap) (H:Hp) (a T:Addr) (cls:Value):Prop where
 free:H a=none
 new:¬ Old a
 freeT:H T=none
 newT:¬ Old T
 obj:∃oe vs oT ts a0,h.get? a=some oe∧(oe.cls=cls∧vs[0]? =some a0)∧oe.data= .fields vs∧vs[1]? =some (.ref T)∧T≠a∧h.get? T=some oT∧oT.data= .fields ts∧ts[3]? =some .none
noncomputable def Ent (X:Cx):Addr→Prop:=fun b=>∃o,X.s₀.heap.get? b=some o
end
noncomputable def GI (K:aD) (l:Addr) (ks:List Key) (ls:List Addr) (dss:List (List D)):V→Hp→Hp→Prop:=fun v F H=>v= .ref l∧H l=some (.dK (ks.zip (ls.map V.ref)))∧ks.length=ls.length∧InD K F H ls dss
noncomputable def GW (K:aD) (m:List Bool) (l0 l:Addr) (ls:List Addr) (dss:List (List D)):V→Hp→Hp→Prop:=fun v F H=>v= .ref l0∧H l0=some (.lst [.ref l, .int 0])∧H l=some (.lst (shp V.non V.ref m ls))∧InD K F H ls dss
noncomputable abbrev Wnt:=List (Option Int)
noncomputable abbrev Exs:=List (List Int × Wnt)
noncomputable def bw:Option Int→Option Int→Option (Option Int)
 | none,b=>some b
 | some x,none=>some (some x)
 | some x,some y=>if y=x then some (some x) else none
structure EOk (p:Int × Int) (E:Exs):Prop where
 fil:∀x∈E,x.1∈eV p
 len:∀x∈E,x.2.length=p.2.toNat
 wd:∀x∈E,∀b w,x.2.getD b none=some w→0≤w∧w<((2^p.1.toNat:Nat):Int)
structure GOk (n:Nat) (E:Exs) (t:Nat) (G:List (List Int) × List Wnt):Prop where
 nd:G.1.Nodup
 ln:G.1.length=G.2.length
 mem:∀f,f∈G.1↔∃i,i<t∧(E.getD i ([],[])).1=f
 wl:∀u∈G.2,u.length=n
 has:∀i,i<t→∀b w,b<n→(E.getD i ([],[])).2.getD b none=some w→(G.2.getD (G.1.idxOf (E.getD i ([],[])).1) []).getD b none=some w
 from_:∀f∈G.1,∀b w,b<n→(G.2.getD (G.1.idxOf f) []).getD b none=some w→∃i,i<t∧(E.getD i ([],[])).1=f∧(E.getD i ([],[])).2.getD b none=some w
structure Xk34 (K:aD) (mg:Str→Option Value) (CN:Addr):Prop where
 xc:XCls K CN
 ex:PySem.W.excIn K CN bmVE "ValueError.__new__"=true
 le:∃C:Addr,mg "LeastError"=some (.ref C)∧PySem.W.exmOne K (.ref CN) (.ref C)=some true
 nw:mg "NoWish"=some (.ref CN)∧fE K (.ref CN) (.ref CN)=some true
 ve:mg "ValueError"=none∧fE K (.ref CN) (.type "ValueError")=some true
 nc:∃C:Addr,mg "NoChange"=some (.ref C)∧fE K (.ref CN) (.ref C)=some false
 nt:∃C:Addr,mg "NoText"=some (.ref C)∧fE K (.ref CN) (.ref C)=some false
 nd:∃C:Addr,mg "NoWindow"=some (.ref C)∧fE K (.ref CN) (.ref C)=some false
 tg:∃C:Addr,mg "TooGreat"=some (.ref C)∧fE K (.ref CN) (.ref C)=some false
structure DOk (L:List (Nat × Int)) (T:List Nat × List (List Int)):Prop where
 nd:T.1.Nodup
 ln:T.1.length=T.2.length
 mem:∀b,b∈T.1↔∃w,(b,w)∈L
 val:∀b∈T.1,∀w,w∈T.2.getD (T.1.idxOf b) []↔(b,w)∈L
 le:T.2.length≤L.length∧∀l∈T.2,l.length≤L.length
noncomputable def kN (ks:List Nat):List Key:=ks.map fun (b:Nat)=>(Sum.inl ((b:Nat):Int):Key)
noncomputable abbrev Ch:=Nat × Nat × List Nat
noncomputable def wcQ (row:List Nat) (c:Ch):List Nat:=row.take c.1++c.2.2++row.drop (c.1+c.2.1)
noncomputable def prcI (L:List SK) (row:List Nat):Int:=sumI (prcL L row)
noncomputable def endQ (p:Int × Int) (L:List SK) (row:List Nat) (o:Option (List Nat)):List (List Int):=(eV p).map fun ws=>match o with
 | none=>rowQ p L row ws
 | some l=>l.map fun j=>(rowQ p L row ws).getD j 0
noncomputable def winB (row:List Nat) (c:Ch):Bool:=decide (1≤c.2.1∧c.1+c.2.1≤row.length)
noncomputable def hoQ (p:Int × Int) (L:List SK) (row:List Nat) (c:Ch) (o:Option (List Nat)):Bool:=winB row c && (decide (prcI L c.2.2<prcI L ((row.drop c.1).take c.2.1)) && decide (endQ p L (wcQ row c) o=endQ p L row o))
noncomputable def gY (L:List SK) (row:List Nat):Prop:=∀t∈row,t<L.length
structure Chn (p:Int × Int) (L:List SK) (o:Option (List Nat)) (row:List Nat) (cs:List Ch) (rs:List (List Nat)):Prop where
 len:rs.length=cs.length+1
 hd:rs.getD 0 []=row
 st:∀i,i<cs.length→hoQ p L (rs.getD i []) (cs.getD i (0,0,[])) o=true∧rs.getD (i+1) []=wcQ (rs.getD i []) (cs.getD i (0,0,[]))
 ok:∀r∈rs,gY L r∧r.length≤8+9 * cs.length
 pc:∀c∈cs,gY L c.2.2∧c.2.2.length≤9
theorem byKey {G K:Prop} (h:K→G) (k:K):G:=h k
section
variable {prog:Program} {w:World} {κ:Type} [DecidableEq κ] (knd:KeyKind prog w κ)
noncomputable def Row2 (h:Heap) (ks:List (List κ)) (vs:List Value):Prop:=ks.length=vs.length∧∀ (n:Nat) (k:List κ),ks[n]? =some k→∃b,vs[n]? =some (.ref b)∧(tupleKind knd).is h k b
noncomputable def IsT2 (h:Heap) (ks:List (List κ)) (a:Addr):Prop:=∃ (o:Obj) (vs:Array Value) (c:Nat),h.get? a=some o∧o.cls= .type "tuple"∧o.data= .seq vs c∧Row2 knd h ks vs.toList
variable {knd}
theorem Row2.inj {h:Heap} {x y:List (List κ)} {vs:List Value} (p:Row2 knd h x vs) (q:Row2 knd h y vs):x=y:=by
 refine oS (p.1.trans q.1.symm) fun n n1 n2=> ?_
 obtain ⟨b,e1,t1⟩:=p.2 n _ (fV n1); obtain ⟨c,e2,t2⟩:=q.2 n _ (fV n2); rw [e1] at e2; cases e2; exact (tupleKind knd).inj t1 t2
theorem IsT2.ty {s:Shared} {ks:List (List κ)} {a:Addr}:IsT2 knd s.heap ks a→s.TypeIs (.ref a) "tuple"
 | ⟨o,_,_,g,c,_⟩=>⟨o,g,c⟩
theorem IsT2.one {h:Heap} {a:Addr} {x y:List (List κ)} (p:IsT2 knd h x a) (q:IsT2 knd h y a):x=y:=by obtain ⟨o,vs,c,g,_,d,r⟩:=p; obtain ⟨o2,vs2,c2,g2,_,d2,r2⟩:=q; cases g.symm.trans g2; cases d.symm.trans d2; exact r.inj r2
theorem IsT2.stay {h h':Heap} {ks:List (List κ)} {a d:Addr} {o:Obj} {es ep} (p:IsT2 knd h ks a) (g:h.get? d=some o) (e:o.data= .dict es ep) (sb:Heap.SameBut d h h'):IsT2 knd h' ks a:=by
 obtain ⟨o2,vs,c,g2,t,e2,r⟩:=p
 have ne:a≠d:=fun z=>by subst z; cases g.symm.trans g2; cases e.symm.trans e2
 exact ⟨o2,vs,c,(sb.2 a ne).trans g2,t,e2,r.1,fun n k hk=>let ⟨b,q1,q2⟩:=r.2 n k hk; ⟨b,q1,(tupleKind knd).keeps q2 g e sb⟩⟩
theorem Row2.step {h:Heap} {ks:List (List κ)} {vs:List Value} {v:Value} (p:Row2 knd h ks (v::vs)):∃k ks' b,ks=k::ks'∧v= .ref b∧(tupleKind knd).is h k b∧Row2 knd h ks' vs:=by
 cases ks with
 | nil=>cases p.1
 | cons k ks'=>obtain ⟨b,q1,q2⟩:=p.2 0 k rfl; cases q1; exact ⟨k,ks',b,rfl,rfl,q2,Nat.succ.inj p.1,fun n k' hk=>p.2 (n+1) k' hk⟩
theorem Row2.none {h:Heap} {ks:List (List κ)} (p:Row2 knd h ks []):ks=[]:=eQ p.1
noncomputable def hash2 (knd:KeyKind prog w κ) (ks:List (List κ)):Int:=reduceHash (Builtin.Tuple.tupleHashOf (ks.map (tupleKind knd).hash))
noncomputable def oH:List (List κ)→Nat
 | []=>0
 | k::ks=>k.length+1+oH ks
variable {A:Around} {E:Value→Shared→Prop} {s:Shared}
theorem hash2_run {ks:List (List κ)} {a:Addr} {Q:Int→Shared→Prop} (hu:A.units+1<cLine) (p:IsT2 knd s.heap ks a) (q:Q (hash2 knd ks) {s with toks:=s.toks+(oH ks+1)}):wpAny (model prog w) A (PySem.pyHash (.ref a)) Q E s:=by
 have ty:=p.ty; obtain ⟨o,vs,c,g,_,e,r⟩:=p; unfold PySem.pyHash pyHashByItsType; refine wpAny_bind (wpAny_cRoomFor_or (.inr (Nat.lt_of_succ_lt hu)) (wpAny_bind (wpAny_specialOf ty F.slot_tuple_hash.lookup ?_))); refine wpAny_ite_split (fun z=>absurd z (by rw [beq_builtin_none]; exact bO)) fun _=> ?_
 refine wpAny_bind (wpAny_specialOf ty F.slot_tuple_hash.lookup (wpAny_bind (wpAny_callSpecialIfBoundUnlessNone?_slot ty F.slot_tuple_hash (wpAny_call_entry F.slot_tuple_hash ty F.entry_tuple_hash ?_ (F.args_tuple_hash_1 _))))); refine wpAny_bind (m:=Builtin.Tuple.tupleItemsOf (.ref a)) (wpAny_tupleItemsOf g e (wpAny_bind ?_)); rw [← sL]; refine wpAny_forIn_list _ (fun rest (acc:Array Int) st=>∃todo,Row2 knd s.heap todo rest∧acc.toList++todo.map (tupleKind knd).hash=ks.map (tupleKind knd).hash∧st={s with toks:=st.toks}∧st.toks+oH todo=s.toks+oH ks) _ (fun v rest acc st h=> ?_) (fun acc st h=> ?_) _ _ ⟨ks,r,rfl,rfl,rfl⟩
 ·obtain ⟨todo,r1,e1,e2,e3⟩:=h; obtain ⟨k,ks',b,rfl,rfl,t,r2⟩:=r1.step; rw [e2]; refine wpAny_bind ((tupleKind knd).pyHash (k:=k) (show _<cLine from ?_) t ?_)
  ·exact hu
  ·have nx:∃todo,Row2 knd s.heap todo rest∧(acc.push ((tupleKind knd).hash k)).toList++todo.map (tupleKind knd).hash=ks.map (tupleKind knd).hash∧({s with toks:=st.toks+(k.length+1)}:Shared)={s with toks:=st.toks+(k.length+1)}∧st.toks+(k.length+1)+oH todo=s.toks+oH ks:=⟨ks',r2,by rw [← e1]; simp,rfl,by rw [← e3]; show _=_+(_+_); omega⟩
   first | exact wpAny_pure nx | exact wpAny_bind (wpAny_pure (wpAny_pure nx))
 ·obtain ⟨todo,r1,e1,e2,e3⟩:=h; cases r1.none; rw [fO,dY] at e1; rw [e2]
  have tk:st.toks+1=s.toks+(oH ks+1):=by have:st.toks+0=s.toks+oH ks:=e3; omega
  show wpAny _ _ (retInt (Builtin.Tuple.tupleHashOf acc.toList)) _ _ _; rw [e1]; unfold hash2 reduceHash at q; rw [← tk] at q; refine wpAny_ret_mkInt ?_; refine wpAny_ite_split (fun z=>wpAny_pure ?_) fun z=>wpAny_bind (wpAny_rule (wpAny_pure ?_))
  ·rw [if_pos z] at q; exact q
  ·rw [if_neg z] at q; exact q
theorem eq2_run {x y:List (List κ)} {a b:Addr} {R:Fin→Shared→Prop} (hu:A.units<cLine) (p:IsT2 knd s.heap x a) (q:IsT2 knd s.heap y b) (h:R (.done (.ret (.bool (decide (x=y))))) s):wpAny (model prog w) A (Builtin.«tuple.__eq__» ⟨[.ref a, .ref b],[]⟩) R E s:=by
 have ty:=q.ty; obtain ⟨oa,us,_,ga,_,ea,ra⟩:=p; obtain ⟨ob,vs,_,gb,_,eb,rb⟩:=q; refine wpAny_bind (m:=isInstance (.ref b) (.type "tuple")) (wpAny_isInstance ty isSubtype_tuple_tuple ?_); rw [if_neg (by decide)]; refine wpAny_bind (wpAny_tupleItemsOf ga ea (wpAny_bind (wpAny_tupleItemsOf gb eb (wpAny_bind ?_)))); have lu:us.size=x.length:=by rw [ra.1,cQ]
 have lv:vs.size=y.length:=by rw [rb.1,cQ]
 refine wpAny_forIn_list _ (fun rest acc st=>acc.1=none∧st=s∧∃xs ys us' vs',rest=us'.zip vs'∧Row2 knd s.heap xs us'∧Row2 knd s.heap ys vs'∧(x=y↔xs=ys)∧(x.length=y.length↔xs.length=ys.length)) _ (fun v rest acc st i=> ?_) (fun acc st i=> ?_) _ _ ⟨rfl,rfl,x,y,us.toList,vs.toList,rfl,ra,rb,Iff.rfl,Iff.rfl⟩
 ·obtain ⟨_,rfl,xs,ys,us',vs',z,r1,r2,i1,i2⟩:=i; cases us' with
  | nil=>simp at z
  | cons u us'=>
   cases vs' with
   | nil=>simp at z
   | cons v' vs'=>
    obtain ⟨k,xs',c,rfl,rfl,t1,r1⟩:=r1.step; obtain ⟨j,ys',c',rfl,rfl,t2,r2⟩:=r2.step; rw [fJ] at z; cases z; refine wpAny_bind ((tupleKind knd).eqBool (x:=k) (y:=j) hu t1 t2 ?_)
    by_cases e:k=j
    ·rw [decide_eq_true e,if_neg (by decide)]; exact wpAny_pure ⟨rfl,rfl,xs',ys',us',vs',rfl,r1,r2,i1.trans ⟨fun z=>(vC.inj z).2,fun z=>by rw [e,z]⟩,i2.trans ⟨Nat.succ.inj,congrArg _⟩⟩
    ·rw [decide_eq_false e,if_pos (by decide)]; rw [decide_eq_false (fun z=>e (vC.inj (i1.mp z)).1)] at h; exact wpAny_bind (wpAny_pure (wpAny_pure (wpAny_pure h)))
 ·obtain ⟨n0,rfl,xs,ys,us',vs',z,r1,r2,i1,i2⟩:=i; obtain ⟨a1,a2⟩:=acc; cases n0
  have fin:(us.size==vs.size)=decide (x=y):=by
   rw [lu,lv]
   by_cases e:x.length=y.length
   ·have l2:=i2.mp e
    have:xs=ys:=by
     cases us' with
     | nil=>cases r1.none; exact (eQ l2.symm).symm
     | cons u us'=>
      cases vs' with
      | nil=>cases r2.none; exact eQ l2
      | cons v vs'=>cases z
    rw [decide_eq_true (i1.mpr this),e]; exact beq_self_eq_true _
   ·rw [decide_eq_false fun z=>e (congrArg _ z)]; exact beq_eq_false_iff_ne.mpr e
  rw [← fin] at h; exact wpAny_pure h
theorem eqB2_run {x y:List (List κ)} {a b:Addr} {Q:Bool→Shared→Prop} (hu:A.units+1<cLine) (p:IsT2 knd s.heap x a) (q:IsT2 knd s.heap y b) (h:Q (decide (x=y)) s):wpAny (model prog w) A (PySem.eqBool (.ref a) (.ref b)) Q E s:=by
 unfold PySem.eqBool
 try with_reducible refine wpAny_holding ?_
 refine wpAny_ite_split (fun z=> ?_) fun _=>wpAny_bind (wpAny_richCompare_same_room (op:= .Eq) p.ty q.ty F.slot_tuple_eq (wpAny_call_entry F.slot_tuple_eq p.ty F.entry_tuple_eq (eq2_run (show _<cLine from hu) p q ⟨_,rfl,(fun e=>nomatch e),wpAny_truthy_bool h⟩) (F.args_tuple_eq_2 _ _)) (Nat.lt_of_succ_lt hu))
 cases eq_of_beq z; cases p.one q; rw [decide_eq_true rfl] at h; exact wpAny_bind (wpAny_rule (wpAny_pure h))
theorem quiet1_run (m:Nat) {k:List κ} {a:Addr} {Q:Bool→Shared→Prop} (p:(tupleKind knd).is s.heap k a) (h:Q true s):wpAny (model prog w) A (eqIsQuiet (m+1) (.ref a)) Q E s:=by
 have ty:=IsTupleKey.typeIs p; obtain ⟨o,vs,c,g,_,e,r⟩:=p; have bv:=r.byValue; unfold eqIsQuiet; refine wpAny_bind (wpAny_specialOf ty F.slot_tuple_eq.lookup (wpAny_bind (m:=isInstance (.ref a) (.type "tuple")) (wpAny_isInstance ty isSubtype_tuple_tuple ?_))); rw [if_neg (by decide)]; refine wpAny_bind (wpAny_seqItems g e (wpAny_bind (m:=forIn vs _ _) ?_)); rw [← sL]; refine wpAny_forIn_list _ (fun rest acc st=>acc.1=none∧st=s∧∀v∈rest,carriedByValue v=true) _ (fun v rest acc st i=> ?_) (fun acc st i=> ?_) _ _ ⟨rfl,rfl,bv⟩
 ·obtain ⟨_,rfl,i⟩:=i; rw [eqIsQuiet_byValue _ (i v aR)]; refine wpAny_bind (wpAny_pure ?_); rw [if_neg (by decide)]; exact wpAny_pure ⟨rfl,rfl,fun u hu=>i u (aQ _ hu)⟩
 ·obtain ⟨n0,rfl,_⟩:=i; obtain ⟨a1,a2⟩:=acc; cases n0; exact wpAny_pure h
theorem quiet2_run {ks:List (List κ)} {a:Addr} {Q:Bool→Shared→Prop} (p:IsT2 knd s.heap ks a) (h:Q true s):wpAny (model prog w) A (eqIsQuiet 8 (.ref a)) Q E s:=by
 have ty:=p.ty; obtain ⟨o,vs,c,g,_,e,r⟩:=p; unfold eqIsQuiet; refine wpAny_bind (wpAny_specialOf ty F.slot_tuple_eq.lookup (wpAny_bind (m:=isInstance (.ref a) (.type "tuple")) (wpAny_isInstance ty isSubtype_tuple_tuple ?_))); rw [if_neg (by decide)]; refine wpAny_bind (wpAny_seqItems g e (wpAny_bind (m:=forIn vs _ _) ?_)); rw [← sL]; refine wpAny_forIn_list _ (fun rest acc st=>acc.1=none∧st=s∧∃todo,Row2 knd s.heap todo rest) _ (fun v rest acc st i=> ?_) (fun acc st i=> ?_) _ _ ⟨rfl,rfl,ks,r⟩
 ·obtain ⟨_,rfl,todo,i⟩:=i; obtain ⟨k,ks',b,rfl,rfl,t,r2⟩:=i.step; refine wpAny_bind (quiet1_run 6 t ?_); rw [if_neg (by decide)]; exact wpAny_pure ⟨rfl,rfl,ks',r2⟩
 ·obtain ⟨n0,rfl,_⟩:=i; obtain ⟨a1,a2⟩:=acc; cases n0; exact wpAny_pure h
end
noncomputable def kind2 {prog:Program} {w:World} {κ:Type} [DecidableEq κ] (knd:KeyKind prog w κ):HeapKind prog w (List (List κ)) where
 is:=IsT2 knd
 hash:=hash2 knd
 draws:=fun ks=>oH ks+1
 room:=fun A=>A.units+1<cLine
 inj:=fun p q=>p.one q
 keeps:=fun p g e sb=>p.stay g e sb
 pyHash:=fun hu p q=>hash2_run hu p q
 eqBool:=fun hu p q h=>eqB2_run hu p q h
 quiet:=fun p h=>quiet2_run p h
structure HK (P:Program) (w:World) (κ:Type) [DecidableEq κ] where
 kind:HeapKind P w κ
 rel:Hp→κ→Addr→Prop
 mono:∀ {F F':Hp} {k:κ} {a:Addr},Same F F'→rel F k a→rel F' k a
 ok:∀ {H:Hp} {h:Heap} {k:κ} {a:Addr},HOk P w H h→rel H k a→kind.is h k a
 room:∀ {A:Around},A.units+2<cLine→kind.room A.in1
 dat:κ→D
 key:∀ {K:aD} {F:Hp} {k:κ} {v:V},Rep K F (dat k) v→∃a,v= .ref a∧rel F k a
 back:∀ {K:aD} {F:Hp} {k:κ} {a:Addr},rel F k a→Rep K F (dat k) (.ref a)
theorem rH {K:aD} {F:Hp}:∀k:List Key,RepL K F (k.map kD) (k.map kV)
 | []=> .nil
 | a::k=>by refine .cons ?_ (rH k); cases a<;>simp only [kD,kV,Rep]
noncomputable def tD (k:List Key):D:= .tup (k.map kD)
noncomputable def hkT (P:Program) (w:World):HK P w (List Key) where
 kind:=tupleKind (gI P w)
 rel:=fun F k a=>F a=some (.tup (k.map kV))
 mono:=fun s h=>s _ _ h
 ok:=fun ok h=>sW ok h
 room:=fun hu=>tupleKind_room_in1 (by omega)
 dat:=tD
 key:=fun r=>by simp only [tD,Rep] at r; obtain ⟨a,ys,rfl,ha,rl⟩:=r; rw [pE rl] at ha; exact ⟨a,rfl,ha⟩
 back:=fun {K F k a} h=>by simp only [tD,Rep]; exact ⟨a,_,rfl,h,rH k⟩
inductive R2k (F:Hp):List (List Key)→List V→Prop
 | nil:R2k F [] []
 | cons {k:List Key} {b:Addr} {ks:List (List Key)} {vs:List V}:F b=some (.tup (k.map kV))→R2k F ks vs→R2k F (k::ks) (.ref b::vs)
theorem R2k.mono {F F':Hp} (s:Same F F') {ks:List (List Key)} {vs:List V} (r:R2k F ks vs):R2k F' ks vs:=by
 induction r with
 | nil=>exact .nil
 | cons h _ ih=>exact .cons (s _ _ h) ih
theorem Row2.cons {P:Program} {w:World} {κ:Type} [DecidableEq κ] {knd:KeyKind P w κ} {h:Heap} {k:List κ} {b:Addr} {ks:List (List κ)} {vs:List Value} (t:(tupleKind knd).is h k b) (r:Row2 knd h ks vs):Row2 knd h (k::ks) (.ref b::vs):=
 ⟨congrArg (·+1) r.1,fun n k' e=>by
  cases n with
  | zero=>cases e; exact ⟨b,rfl,t⟩
  | succ n=>exact r.2 n k' e⟩
theorem R2k.ok {P:Program} {w:World} {H:Hp} {h:Heap} (ok:HOk P w H h) {ks:List (List Key)} {vs:List V} (r:R2k H ks vs):∀ {us:List Value},Vals vs us→Row2 (gI P w) h ks us:=by
 induction r with
 | nil=>intro us q; cases q; exact ⟨rfl,fun n k e=>by simp at e⟩
 | cons hb _ ih=>
  intro us q; cases q with
  | cons r1 rv=>cases (show _=Value.ref _ from r1); exact Row2.cons (sW ok hb) (ih rv)
theorem R2k.of {K:aD} {F:Hp}:∀ {ks:List (List Key)} {vs:List V},RepL K F (ks.map tD) vs→R2k F ks vs
 | [],vs,r=>by simp only [fO,RepL] at r; subst r; exact .nil
 | k::ks,vs,r=>by rw [bQ] at r; obtain ⟨y,ys,rfl,q,rl⟩:=r.uncons; simp only [tD,Rep] at q; obtain ⟨a,zs,rfl,ha,rl2⟩:=q; rw [pE rl2] at ha; exact .cons ha (R2k.of rl)
theorem R2k.rep {K:aD} {F:Hp} {ks:List (List Key)} {vs:List V} (r:R2k F ks vs):RepL K F (ks.map tD) vs:=by
 induction r with
 | nil=>exact .nil
 | @cons k b ks vs h _ ih=>refine .cons ?_ ih; simp only [tD,Rep]; exact ⟨b,_,rfl,h,rH k⟩
noncomputable def hkN (P:Program) (w:World):HK P w (List (List Key)) where
 kind:=kind2 (gI P w)
 rel:=fun F ks a=>∃vs,F a=some (.tup vs)∧R2k F ks vs
 mono:=fun s ⟨vs,h,r⟩=>⟨vs,s _ _ h,r.mono s⟩
 ok:=fun {H h k a} ok ⟨vs,e,r⟩=>by obtain ⟨_,its,rv,o,h1,h2,⟨n,h3⟩,_⟩:=(show ObjOk P w H h a (.tup vs) from ok a _ e); exact ⟨o,its.toArray,n,h1,h2,h3,by simpa using r.ok ok rv⟩
 room:=fun {A} hu=>by show A.in1.units+1<cLine; exact hu
 dat:=fun ks=> .tup (ks.map tD)
 key:=fun r=>by simp only [Rep] at r; obtain ⟨a,ys,rfl,ha,rl⟩:=r; exact ⟨a,rfl,ys,ha,R2k.of rl⟩
 back:=fun {K F k a} ⟨vs,h,r⟩=>by simp only [Rep]; exact ⟨a,vs,rfl,h,r.rep⟩
section
variable {P:Program} {w:World} {κ:Type} [DecidableEq κ] (hk:HK P w κ)
noncomputable abbrev KG (F:Hp):List (κ × V)→List (κ × Addr × Value)→Prop:=Paired fun p q=>p.1=q.1∧hk.rel F p.1 q.2.1∧RelV p.2 q.2.2
noncomputable def TG (K:aD) (F:Hp) (l:Addr) (o:Obj) (ks:List κ) (ds:List D):Prop:=
 ks.length=ds.length∧ks.length≤sizeLine∧(l==sysModules)=false∧ks.Nodup∧∃ (vs:List V) (xs:List (κ × Addr × Value)) (es:Array DictEntry) (ep:Nat),RepL K F ds vs∧KG hk F (ks.zip vs) xs∧o.ExactDict∧o.data= .dict es ep∧es.toList=xs.map (entryOfKey hk.kind)∧(xs.map (·.1)).Nodup
variable {hk} {K:aD} {F F' H:Hp} {l:Addr} {o:Obj} {ks:List κ} {ds:List D}
theorem KG.mono {kvs:List (κ × V)} {xs:List (κ × Addr × Value)} (s:Same F F') (r:KG hk F kvs xs):KG hk F' kvs xs:=Paired.mapP r fun _ _ z=>⟨z.1,hk.mono s z.2.1,z.2.2⟩
theorem TG.mono (s:Same F F') (t:TG hk K F l o ks ds):TG hk K F' l o ks ds:=by obtain ⟨h1,h2,h3,h4,vs,xs,es,ep,r,g,q⟩:=t; exact ⟨h1,h2,h3,h4,vs,xs,es,ep,r.mono s,g.mono s,q⟩
theorem KG.all {h:Heap} (ok:HOk P w H h) {l:List (κ × V)} {m:List (κ × Addr × Value)} (q:KG hk H l m):∀x∈m,hk.kind.is h x.1 x.2.1:=by
 induction q with
 | nil=>intro x hx; exact nomatch hx
 | @cons p q ps qs hq t ih=>
  intro x hx
  rcases bV.mp hx with e | hx
  ·subst e; exact hk.ok ok (by rw [← hq.1]; exact hq.2.1)
  ·exact ih x hx
theorem KG.val {kvs:List (κ × V)} {xs:List (κ × Addr × Value)} (r:KG hk F kvs xs) (k:κ):RelO (lJ kvs k) ((atKey xs k).map (·.2)):=by
 induction r with
 | nil=>exact True.intro
 | @cons p q ps qs h t ih=>
  obtain ⟨h1,_,h2⟩:=h
  by_cases e:p.1=k
  ·have e':q.1=k:=h1.symm.trans e; have b:atKey (q::qs) k=some q.2:=by simp [atKey,jW,e']
   rw [nJ e,b]; exact h2
  ·have e':¬ q.1=k:=fun z=>e (h1.trans z)
   have b:atKey (q::qs) k=atKey qs k:=by simp [atKey,jW,e']
   rw [lH e,b]; exact ih
theorem KG.new {kvs:List (κ × V)} {xs:List (κ × Addr × Value)} (r:KG hk F kvs xs) {k:κ} (hn:lJ kvs k=none) {b:Addr} {y:V} {u:Value} (hb:hk.rel F k b) (ry:RelV y u):KG hk F (kvs++[(k,y)]) (storedH xs k b u):=by
 have e:atKey xs k=none:=by
  have:=r.val k; rw [hn] at this; cases h:atKey xs k with
  | none=>rfl
  | some z=>rw [h] at this; cases this
 rw [storedH_new e]; exact Paired.snoc r ⟨rfl,hb,ry⟩
theorem tU {k:κ}:∀ {ks:List κ} {xs:List V},k∉ks→lJ (ks.zip xs) k=none
 | [],_,_=>rfl
 | _::_,[],_=>rfl
 | j::js,x::xs,h=>by rw [fJ,lH (p:=(j,x)) (k:=k) (fun e=>h ((show j=k from e)▸aR))]; exact tU fun z=>h (aQ _ z)
theorem uQ:∀ {ks:List κ} {xs:List V} {n:Nat} {k:κ} {x:V},ks.Nodup→ks[n]? =some k→xs[n]? =some x→lJ (ks.zip xs) k=some x
 | [],_,n,_,_,_,h,_=>by simp at h
 | _::_,[],n,_,_,_,_,h=>by simp at h
 | j::js,y::ys,0,k,x,nd,h1,h2=>by
  have e1:j=k:=by simpa using h1
  have e2:y=x:=by simpa using h2
  rw [fJ,nJ e1,e2]
 | j::js,y::ys,n+1,k,x,nd,h1,h2=>by
  obtain ⟨nj,nd⟩:=cV.mp nd; have h1:js[n]? =some k:=by simpa using h1
  have h2:ys[n]? =some x:=by simpa using h2
  rw [fJ,lH (p:=(j,y)) (k:=k) (fun e=>nj ((show j=k from e)▸aY h1))]; exact uQ nd h1 h2
theorem valG_some {k:κ} {ks:List κ} {xs:List V} (nd:ks.Nodup) (hl:ks.length=xs.length) (h:k∈ks):(lJ (ks.zip xs) k).isSome=true:=by obtain ⟨n,hn,rfl⟩:=fR h; rw [uQ (n:=n) (x:=xs[n]'(by omega)) nd (by simp [hn]) (by simp [show n<xs.length by omega])]; rfl
theorem TG.dict {h:Heap} (ok:HOk P w H h) (s:Same F H) (hl:H l=some (exO l o)) (t:TG hk K F l o ks ds):∃ (vs:List V) (xs:List (κ × Addr × Value)),RepL K F ds vs∧KG hk F (ks.zip vs) xs∧h.DictOfH hk.kind l xs∧xs.length≤sizeLine∧(∀k,(atKey xs k).isSome=decide (k∈ks)):=by
 obtain ⟨h1,h2,h3,h4,vs,xs,es,ep,r,g,q1,q2,q3,q4⟩:=t; have ho:h.get? l=some o:=(ok l _ hl).1; refine ⟨vs,xs,r,g,⟨o,es,ep,ho,q1,q2,q3,KG.all ok (g.mono s),q4⟩, ?_,fun k=> ?_⟩
 ·rw [← Paired.length g,iN,r.len,← h1,mP]; exact h2
 ·have:=(g.val k).isSome_eq; rw [Option.isSome_map] at this; rw [← this]
  by_cases e:k∈ks
  ·rw [decide_eq_true e]; exact valG_some h4 (by rw [r.len,h1]) e
  ·rw [decide_eq_false e,tU e]; rfl
end
section
variable {P:Program} {w:World} {κ:Type} [DecidableEq κ]
noncomputable def GG (hk:HK P w κ) (K:aD) (l:Addr) (ks:List κ) (ds:List D):V→Hp→Hp→Prop:=fun v F H=>v= .ref l∧∃o,H l=some (exO l o)∧TG hk K F l o ks ds
noncomputable def oG (hk:HK P w κ) (K:aD) (l:Addr) (ks:List κ) (ds:List D):Slot:= .ox [l] (GG hk K l ks ds)
noncomputable def gD (hk:HK P w κ) (K:aD) (ks:List κ) (ds:List D):D:= .any fun v F=>∃l o,v= .ref l∧F l=some (exO l o)∧TG hk K F l o ks ds
variable {hk:HK P w κ} {K:aD} {H₀ F H:Hp} {σ:St} {sd:List Slot} {i:Nat} {l:Addr} {ks:List κ} {ds:List D} {o:Obj}
theorem TG.cell (t:TG hk K F l o ks ds):∀v,o.data≠ .cell v:=fun v z=>by obtain ⟨_,_,_,_,_,_,_,_,_,_,_,q,_⟩:=t; rw [q] at z; cases z
theorem vF (S:StF K H₀ F H σ sd) (hs:sd[i]? =some (oG hk K l ks ds)):σ[i]? =some (some (.ref l))∧F l=none∧∃o,H l=some (exO l o)∧TG hk K F l o ks ds:=by
 obtain ⟨o,h1,v,h2,h3,h4⟩:=S.slots.get hs; obtain ⟨e,ob,a,b⟩:=h4 F H (Same.refl _) fun _ _ _ q=>q
 subst e h2; exact ⟨h1,(h3 l (dM l)).1,ob,a,b⟩
theorem oG_mk (hF:F l=none) (h1:H l=some (exO l o)) (t:TG hk K F l o ks ds):iJ K F H (oG hk K l ks ds) (some (.ref l)):=
 ⟨.ref l,rfl,fun a ha=>by
  rw [aU.mp ha]
  exact ⟨hF,_,h1,o,rfl,t.cell⟩,fun F' H' s k=>⟨rfl,o,k l (dM l) _ h1,t.mono s⟩⟩
theorem gD_rep {v:V}:Rep K F (gD hk K ks ds) v↔∃l o,v= .ref l∧F l=some (exO l o)∧TG hk K F l o ks ds:=by
 simp only [gD,Rep]
 constructor
 ·exact fun h=>h.2 F (Same.refl _)
 ·rintro ⟨l,o,rfl,e,t⟩; exact ⟨⟨l,rfl⟩,fun F' s=>⟨l,o,rfl,s _ _ e,t.mono s⟩⟩
end
section
variable {X:Cx} {sd:List Slot} {e a b c tg iter:Expr} {es:List Expr} {pos:Pos} {d:D} {ds:List D} {κ:Type} [DecidableEq κ] {hk:HK X.prog X.w κ} {ks:List κ} {k:κ} {E:jP} {l:Addr}
theorem wP (hk:HK X.prog X.w κ) (i:Nat) {x:Str} {p p2:Pos} (hN:X.N.Nodup) (hi:X.N[i]? =some x) (hx:Loc X.env.scope x) (hE:∀l,E.nx (sd.set i (oG hk X.K l [] []))) (hs:swapsWith (.Dict [] [] p2) (some (.Name x p)) pos.line X.env=pure false:=by rfl)
  (hf:X.fn x=true∨X.env.scope.names.lookup x=some .local:=by first | exact .inl rfl | exact .inr rfl | assumption):PSd1 X sd (.Assign [.Name x p] (.Dict [] [] p2) pos) E:= .mk fun σ F H S=>
 (tF hN hi hx pe_dnewE hs hf).to fun q hq hm=>by
  have fp:F q=none:=S.sub.free hq
  have no:q∉dC sd:=fun hl=>by obtain ⟨_,ob,h,_⟩:=S.slots.owns hl; rw [hq] at h; cases h
  have S1:StF X.K X.B₀ F (upd H q (exO q dict0)) σ sd:=by
   refine ⟨S.base,fun b u e=> ?_,nT S.smp q,S.slots.mono (Same.refl _) fun l hl=> ?_,S.nd⟩
   ·rw [cE (dE e fp)]; exact S.sub _ _ e
   ·obtain ⟨n,ys,y,_⟩:=S.slots.owns hl; have hne:l≠q:=dE y hq; exact ⟨n,fun ys e=>by rw [cE hne]; exact e⟩
  refine ⟨_,F,S1.setT i (oG_mk (hk:=hk) (K:=X.K) (ks:=[]) (ds:=[]) fp dD ⟨rfl,dA _,hm,gE,[],[], #[],0, .nil, .nil,⟨rfl,rfl,rfl⟩,rfl,rfl,gE⟩) (by simp) fun a ha=> ?_,Same.refl _,hE q⟩; rw [aU.mp ha]; exact no
theorem wD (i:Nat) {x:Str} {p p2:Pos} (hu:X.A.units+2<cLine) (hs:sd[i]? =some (oG hk X.K l ks ds)) (hx:PE X (.Name x p) (lY i)) (h:PEd X sd e (.val d)) (hb:PEd X sd b (.val (hk.dat k))) (hnk:k∉ks) (hl:ds.length≤1000) (hE:E.nx (sd.set i (oG hk X.K l (ks++[k]) (ds++[d]))))
  (hsw:swapsWith e (some (.Subscript (.Name x p) b p2)) pos.line X.env=pure false:=by rfl):PSd1 X sd (.Assign [.Subscript (.Name x p) b p2] e pos) E:= .mk fun σ F H S pins s I=>by
 refine wpAny_Assign_Subscript (thn (h σ F H S pins s I) fun r s1 ⟨v,H1,I1,rv,F1,S1,sF1,q1⟩=> ?_) hsw; obtain ⟨h1,_⟩:=vF S1 hs; refine thn (hx pins s1 σ H1 (fun v H2=>v= .ref l∧H2=H1) I1 ⟨.ref l,h1,rfl,rfl⟩) fun u s2 ⟨y,H2,I2,ry,e1,e2⟩=> ?_
 subst e1 e2; obtain rfl:u=Value.ref l:=ry; refine thn (hb σ F1 H2 S1 pins s2 I2) fun iv s3 ⟨y,H3,I3,ry,F3,S3,sF3,q3⟩=> ?_
 obtain ⟨g1,g2,o,g3,t⟩:=vF S3 hs; obtain ⟨ad,rfl,ha⟩:=hk.key q3; obtain rfl:iv=Value.ref ad:=ry; obtain ⟨vs,xs,r1,kg,dd,hz,hin⟩:=t.dict I3.hok S3.sub g3; obtain ⟨t1,t2,t3,t4,_⟩:=t; refine wpAny_setItem_heap (hsz:=hz) (hk.room hu) (hk.ok I3.hok (hk.mono S3.sub ha)) dd fun h' dd' hsm=> ?_
 obtain ⟨q,es',ep',hq,u2,u3,u4,_,u5⟩:=dd'; have I4:=uU (t':=s3.toks+hk.kind.draws k) I3 (ob:=exO l q) (by rw [g3]; exact True.intro) hsm ⟨q,hq⟩ (tT hq); have lz:ks.length=vs.length:=by rw [t1,r1.len]
 have kg':=kg.new (tU hnk) ha rv; rw [← tI lz] at kg'
 have t':TG hk X.K F3 l q (ks++[k]) (ds++[d]):=⟨by rw [bK,bK,t1]; rfl,by
  rw [bK,t1]; have:=gW hl; show ds.length+1≤sizeLine
  omega,t3,bY.mpr ⟨t4,by simp,fun a ha b hb e=>hnk (by rw [← aU.mp hb,← e]; exact ha)⟩,vs++[v],_,es',ep',r1.app (.one (Rep.mono sF3 q1)),kg',u2,u3,u4,u5⟩
 refine ⟨σ,_,I4,_,F3,S3.reT (z':=oG hk X.K l (ks++[k]) (ds++[d])) hs g1 (fun b ob hb q=> ?_) (nT S3.smp l) (oG_mk g2 dD t') (show [l].Nodup by simp) fun a ha=> .inl ha,sF1.trans sF3,hE⟩; rw [cE (show b≠l from fun z=>hb (z▸dM l))]; exact q
theorem psd_frzG (i:Nat) {sts:List Stmt} (hs:sd[i]? =some (oG hk X.K l ks ds)) (h:PSd X (sd.set i (.val (gD hk X.K ks ds))) sts E):PSd X sd sts E:= .mk fun σ F H S=>by
 obtain ⟨h1,h2,o,h3,t⟩:=vF S hs; have S0:=S.le (hX sd i); have no:l∉dC (sd.set i .un):=fun hb=>iS S.nd hs (show l∈[l] from dM l) hb
 obtain ⟨S1,s1⟩:=S0.inN (l:=l) (ls:=[]) (fun a ha=>by rw [aU.mp ha]; exact h2) fun a ha=>by rw [aU.mp ha]; exact no
 have f1:(inF F H [l]) l=some (exO l o):=by rw [inF_in aR]; exact h3
 have S2:=S1.set (d:=gD hk X.K ks ds) (v:= .ref l) i (gD_rep.mpr ⟨l,o,rfl,f1,t.mono s1⟩); rw [kE,mL h1] at S2; exact lft_up s1 (h σ _ H S2)
structure PDc (X:Cx) (sd:List Slot) (e:Expr) {κ:Type} [DecidableEq κ] (hk:HK X.prog X.w κ) (ks:List κ) (ds:List D):Prop where
 get:∀ (σ:St) (F H:Hp),StF X.K X.B₀ F H σ sd→wE X e σ H fun v H1=>∃F1 l,StF X.K X.B₀ F1 H1 σ sd∧Same F F1∧v= .ref l∧∀F2 H2,StF X.K X.B₀ F2 H2 σ sd→Same F1 F2→∃o,H2 l=some (exO l o)∧TG hk X.K F2 l o ks ds
theorem pdc_own (i:Nat) {x:Str} {p:Pos} (hs:sd[i]? =some (oG hk X.K l ks ds)) (hx:PE X (.Name x p) (lY i)):PDc X sd (.Name x p) hk ks ds:=⟨fun σ F H S=>hx.to (by
 obtain ⟨h1,_⟩:=vF S hs
 exact ⟨.ref l,h1,F,l,S,Same.refl _,rfl,fun F2 H2 S2 _=>(vF S2 hs).2.2⟩)⟩
theorem uV (h:PEd X sd e (.val (gD hk X.K ks ds))):PDc X sd e hk ks ds:=⟨fun σ F H S=>(h σ F H S).imp fun v H1 ⟨F1,S1,s1,q1⟩=>by
 obtain ⟨l,o,rfl,e,t⟩:=gD_rep.mp q1
 exact ⟨F1,l,S1,s1,rfl,fun F2 H2 S2 s2=>⟨o,S2.sub _ _ (s2 _ _ e),t.mono s2⟩⟩⟩
noncomputable def rIn (hk:HK X.prog X.w κ) (f:Bool→Bool):R2:=fun x y H Q=>∃ (F:Hp) (ad l:Addr) (o:Obj) (k:κ) (ks:List κ) (ds:List D),x= .ref ad∧y= .ref l∧Same F H∧hk.rel F k ad∧H l=some (exO l o)∧TG hk X.K F l o ks ds∧X.A.units+2<cLine∧Q (.bl (f (decide (k∈ks)))) H
theorem op_inG:OpR X (compareOp .In) (rIn hk id):=by intro pins s σ H x y v u Q I rx ry h; obtain ⟨F,ad,l,o,k,ks,ds,rfl,rfl,sF,ha,hl,t,hu,q⟩:=h; obtain rfl:v=Value.ref ad:=rx; obtain rfl:u=Value.ref l:=ry; obtain ⟨vs,xs,_,_,dd,_,hin⟩:=t.dict I.hok sF hl; refine wpAny_in_heap (hk.room hu) (hk.ok I.hok (hk.mono sF ha)) t.2.2.1 dd ⟨.bl (decide (k∈ks)),H,I.tok _, ?_,q⟩; show Value.bool _=Value.bool _; rw [hin]
theorem op_ninG:OpR X (compareOp .NotIn) (rIn hk (!·)):=by intro pins s σ H x y v u Q I rx ry h; obtain ⟨F,ad,l,o,k,ks,ds,rfl,rfl,sF,ha,hl,t,hu,q⟩:=h; obtain rfl:v=Value.ref ad:=rx; obtain rfl:u=Value.ref l:=ry; obtain ⟨vs,xs,_,_,dd,_,hin⟩:=t.dict I.hok sF hl; refine wpAny_notIn_heap (hk.room hu) (hk.ok I.hok (hk.mono sF ha)) t.2.2.1 dd ⟨.bl (!decide (k∈ks)),H,I.tok _, ?_,q⟩; show Value.bool _=Value.bool _; rw [hin]
theorem ptd_inG (hu:X.A.units+2<cLine) (ha:PEd X sd a (.val (hk.dat k))) (hb:PDc X sd b hk ks ds) (hm:behindInMarks .In b=false:=by with_unfolding_all rfl):PTd X sd (.Compare a [.In] [b] pos) (decide (k∈ks)):= .mk fun σ F H S=>
 (vB (op_inG (hk:=hk)) gS gS hm).to ((ha σ F H S).imp fun v H1 ⟨F1,S1,s1,q1⟩=>(hb.get σ F1 H1 S1).imp fun u H2 ⟨F2,l,S2,s2,eu,g⟩=>by
  obtain ⟨ad,rfl,hr⟩:=hk.key q1; obtain ⟨o,g1,g2⟩:=g F2 H2 S2 (Same.refl _)
  exact ⟨F2,ad,l,o,k,ks,ds,rfl,eu,S2.sub,hk.mono s2 hr,g1,g2,hu,_,rfl,rfl,F2,S2,s1.trans s2⟩)
theorem ptd_ninG (hu:X.A.units+2<cLine) (ha:PEd X sd a (.val (hk.dat k))) (hb:PDc X sd b hk ks ds) (hm:behindInMarks .NotIn b=false:=by with_unfolding_all rfl):PTd X sd (.Compare a [.NotIn] [b] pos) (!decide (k∈ks)):= .mk fun σ F H S=>
 (vB (op_ninG (hk:=hk)) gS gS hm).to ((ha σ F H S).imp fun v H1 ⟨F1,S1,s1,q1⟩=>(hb.get σ F1 H1 S1).imp fun u H2 ⟨F2,l,S2,s2,eu,g⟩=>by
  obtain ⟨ad,rfl,hr⟩:=hk.key q1; obtain ⟨o,g1,g2⟩:=g F2 H2 S2 (Same.refl _)
  exact ⟨F2,ad,l,o,k,ks,ds,rfl,eu,S2.sub,hk.mono s2 hr,g1,g2,hu,_,rfl,rfl,F2,S2,s1.trans s2⟩)
theorem yW {n:Nat} (hu:X.A.units+2<cLine) (ha:PDc X sd a hk ks ds) (hb:PEd X sd b (.val (hk.dat k))) (hkn:ks[n]? =some k) (hd:ds[n]? =some d) (hsl:NoSl b):PEd X sd (.Subscript a b pos) (.val d):= .mk fun σ F H S pins s I=>by
 refine subD_of PySem.F.slot_dict_getitem.lookup hsl (thn (ha.get σ F H S pins s I) fun u s1 ⟨y,H1,I1,ry,F1,l,S1,s1',ey,g⟩=> ?_); subst ey; obtain rfl:u=Value.ref l:=ry; refine thn (hb σ F1 H1 S1 pins s1 I1) fun iv s2 ⟨y,H2,I2,ry,F2,S2,sF,q2⟩=> ?_
 obtain ⟨o,g1,t⟩:=g F2 H2 S2 sF; obtain ⟨ad,rfl,hr⟩:=hk.key q2; obtain rfl:iv=Value.ref ad:=ry; obtain ⟨vs,xs,rl,kg,dd,_,_⟩:=t.dict I2.hok S2.sub g1; obtain ⟨v,hv,rv⟩:=rl.get hd; obtain ⟨w',hw,rw'⟩:=RelO.some_of (v:=v) (o:=(atKey xs k).map (·.2)) (by rw [← uQ t.2.2.2.1 hkn hv]; exact kg.val k); obtain ⟨pr,hp,hp2⟩:=gP.mp hw; refine ⟨dd.typeIs,wpAny_getItem_heap (hk.room hu) (hk.ok I2.hok (hk.mono S2.sub hr)) dd hp ?_⟩; rw [hp2]; exact ⟨v,H2,I2.tok _,rw',F2,S2,s1'.trans sF,rv⟩
end
section
variable {prog:Program} {w:World} {A:Around} {E:Value→Shared→Prop} {s:Shared} {d it:Addr} {od:Obj} {es:Array DictEntry} {ep i:Nat}
theorem oM (g:s.heap.get? d=some od) (c:od.ExactDict):s.TypeIs (.ref d) "dict":=⟨od,g,c.1⟩
theorem walk_new {Q:Value→Shared→Prop} (sm:(d==sysModules)=false) (g:s.heap.get? d=some od) (c:od.ExactDict) (e:od.data= .dict es ep)
  (q:Q (.ref s.heap.objs.size) {s with heap:=s.heap.push {cls:= .type "dict_keyiterator",data:= .fields #[.ref d, .int 0 0, .int es.size 0, .int ep 0]}}):wpAny (model prog w) A (pyIter (.ref d)) Q E s:=by
 have ty:=oM g c; refine wpAny_pyIter_slot ty F.slot_dict_iter (wpAny_call_entry F.slot_dict_iter ty F.entry_dict_iter (wpAny_bind ?_) (F.args_dict_iter_1 _)); unfold Builtin.Dict.dictSlotNone; refine wpAny_bind (wpAny_notOrdered_dict ty (wpAny_pure (a:=Value.ref d) (wpAny_bind (m:=Builtin.Dict.showsAll d) ?_))); unfold Builtin.Dict.showsAll; rw [sm,if_neg bO]; exact wpAny_pure (wpAny_bind (wpAny_dictEntries g e (wpAny_bind (wpAny_dictEpoch g e (wpAny_bind (wpAny_newObj_type (wpAny_pure ⟨_,rfl,"dict_keyiterator",_,⟨_,bW _ rfl,rfl⟩,F.slot_dict_keyiterator_next.lookup,q⟩)))))))
theorem walk_next {Q:Option Value→Shared→Prop} (ki:s.heap.IsKeyIter it d i es.size ep) (g:s.heap.get? d=some od) (e:od.data= .dict es ep) (hi:i<es.size)
  (q:∀h',h'.IsKeyIter it d (i+1) es.size ep→Heap.SameBut it s.heap h'→Q (some es[i].key) {s with heap:=h'}):wpAny (model prog w) A (pyNext (.ref it)) Q E s:=by
 have ty:=ki.typeIs; obtain ⟨o,g1,c1,f1⟩:=ki; unfold pyNext; refine wpAny_bind (wpAny_attempt (wpAny_callSpecial?_slot (name:=Str.ofString "__next__") ty F.slot_dict_keyiterator_next (wpAny_call_entry F.slot_dict_keyiterator_next ty F.entry_dict_keyiterator_next (wpAny_bind (wpAny_pure (wpAny_bind (wpAny_bind ?_)))) (F.args_dict_keyiterator_next_1 _)))); refine wpAny_bind (wpAny_typeNameOfWhole_keyiter ty (wpAny_pure (wpAny_bind (wpAny_fieldsOf g1 f1 ?_)))); rw [if_neg (by decide)]; show wpAny _ _ (ite ((Value.ref d==Value.none)=true) _ _) _ _ _; rw [if_neg (c:=(Value.ref d==Value.none)=true) (fun z=>by cases z)]; refine wpAny_bind (wpAny_pure (wpAny_bind (wpAny_dictEntries g e ?_))); rw [if_neg (by simp)]; refine wpAny_bind (wpAny_pure (wpAny_bind (wpAny_dictEpoch g e ?_))); rw [if_neg (by simp)]; refine wpAny_pure ?_; have ix:(if (i:Int)<0 then none else es[(i:Int).toNat]?)=some es[i]:=by rw [if_neg (by omega),eY,nG hi]
 simp only [ix]
 have up:(s.heap.update it (Obj.mapFields (·.setIfInBounds 1 (rawInt ((i:Int)+1))))).IsKeyIter it d (i+1) es.size ep:=
  ⟨_,iR _ g1 (Obj.isFreed_of_fields (Obj.data_mapFields f1 _)),(Obj.cls_mapFields ..).trans c1,by rw [Obj.data_mapFields f1]; simp [rawInt]⟩
 refine wpAny_bind (wpAny_bind (wpAny_typeNameOfWhole_keyiter ty (wpAny_pure (wpAny_bind (wpAny_isOneOf_keyiter ty (wpAny_bind (wpAny_setField g1 f1 (show (0:Nat)+1<4 by decide) (wpAny_bind (wpAny_holding ?_))))))))); refine wpAny_bind (wpAny_isOneOf_keyiter up.typeIs ?_); exact wpAny_pure (wpAny_pure ⟨_,rfl,wpAny_pure (q _ up (Heap.SameBut.update ..))⟩)
theorem stop_run {Q:Option Value→Shared→Prop} {hp:Heap} (hh:A.handled=none) (sb:Heap.ExtBut it s.heap hp) (q:∀h',Heap.ExtBut it s.heap h'→Q none {s with heap:=h'}):
  wpAny (model prog w) A.in1 (newExc (.type "StopIteration") []>>=fun x=>(raiseNew x:Sem Fin)) (fun fin s'=>∃v,fin=Fin.done (Flow.ret v)∧wpAny (model prog w) A (pure (some v)) Q E s') (fun e s'=>wpAny (model prog w) A (do
   let b ← isInstance e (Value.type "StopIteration")
   if b=true then pure none else throw e) Q E s') {s with heap:=hp}:=by
 refine wpAny_bind ?_; simp only [newExc,newTuple]; refine wpAny_bind (wpAny_newObj_type (wpAny_bind (m:=firstArgMember _ _) (wpAny_of_eq (a:=Value.none) (by first | rfl | (simp only [firstArgMember]; rfl)) (wpAny_newObj_type ?_ (by size_fits)))) (by size_fits)); simp only [raiseNew]; refine wpAny_bind (wpAny_handled ?_); rw [show A.in1.handled=none from hh]; refine wpAny_bind (wpAny_pure (wpAny_throw ?_)); refine wpAny_bind (wpAny_isInstance (T:="StopIteration") (b:=true) ⟨_,bW _ rfl,rfl⟩ isSubtype_stop ?_); exact wpAny_pure (q _ ((sb.push _).push _))
theorem walk_end {Q:Option Value→Shared→Prop} (hh:A.handled=none) (ki:s.heap.IsKeyIter it d i es.size ep) (g:s.heap.get? d=some od) (e:od.data= .dict es ep) (hi:es.size≤i)
  (q:∀h',Heap.ExtBut it s.heap h'→Q none {s with heap:=h'}):wpAny (model prog w) A (pyNext (.ref it)) Q E s:=by
 have ty:=ki.typeIs; obtain ⟨o,g1,c1,f1⟩:=ki; unfold pyNext; refine wpAny_bind (wpAny_attempt (wpAny_callSpecial?_slot (name:=Str.ofString "__next__") ty F.slot_dict_keyiterator_next (wpAny_call_entry F.slot_dict_keyiterator_next ty F.entry_dict_keyiterator_next (wpAny_bind (wpAny_pure (wpAny_bind (wpAny_bind ?_)))) (F.args_dict_keyiterator_next_1 _)))); refine wpAny_bind (wpAny_typeNameOfWhole_keyiter ty (wpAny_pure (wpAny_bind (wpAny_fieldsOf g1 f1 ?_)))); rw [if_neg (by decide)]; show wpAny _ _ (ite ((Value.ref d==Value.none)=true) _ _) _ _ _; rw [if_neg (c:=(Value.ref d==Value.none)=true) (fun z=>by cases z)]; refine wpAny_bind (wpAny_pure (wpAny_bind (wpAny_dictEntries g e ?_))); rw [if_neg (by simp)]; refine wpAny_bind (wpAny_pure (wpAny_bind (wpAny_dictEpoch g e ?_))); rw [if_neg (by simp)]; refine wpAny_pure ?_; have ix:(if (i:Int)<0 then none else es[(i:Int).toNat]?)=none:=by rw [if_neg (by omega),eY,oW hi]
 simp only [ix]; refine wpAny_bind (wpAny_bind (wpAny_typeNameOfWhole_keyiter ty (wpAny_pure (wpAny_bind (wpAny_setField g1 f1 (show (0:Nat)<4 by decide) ?_))))); exact stop_run hh (Heap.SameBut.update ..).extBut q
theorem view_new {R:Result→Shared→Prop} (sm:(d==sysModules)=false):MeetsIn prog w (Builtin.«dict.items» ⟨[.ref d],[]⟩) (fun _ R s=>(∃od:Obj,s.heap.get? d=some od∧od.ExactDict)∧R (.ok (.ret (.ref s.heap.objs.size))) {s with heap:=s.heap.push {cls:= .type "dict_items",data:= .fields #[.ref d]}}):=
 .of_wp fun A R s ⟨⟨od,g,c⟩,q⟩=>by refine wpAny_bind (m:=Builtin.Dict.noArgs "items" ⟨[.ref d],[]⟩) ?_; unfold Builtin.Dict.noArgs; refine wpAny_bind (wpAny_notOrdered_dict (oM g c) (wpAny_pure (a:=d) (wpAny_bind (m:=Builtin.Dict.showsAll d) ?_))); unfold Builtin.Dict.showsAll; rw [sm,if_neg bO]; exact wpAny_pure (wpAny_bind (wpAny_newObj_type (wpAny_pure ⟨_,rfl,q⟩)))
theorem view_iter {v:Addr} {Q:Value→Shared→Prop} (hv:s.heap.IsItemsView v d) (g:s.heap.get? d=some od) (e:od.data= .dict es ep)
  (q:Q (.ref s.heap.objs.size) {s with heap:=s.heap.push {cls:= .type "dict_itemiterator",data:= .fields #[.none, .bool false, .ref d, .int 0 0, .int es.size 0, .int ep 0, .none, .none]}}):wpAny (model prog w) A (pyIter (.ref v)) Q E s:=by
 have ty:=hv.typeIs; obtain ⟨ov,g1,c1,f1⟩:=hv; refine wpAny_pyIter_slot ty F.slot_dict_items_iter (wpAny_call_entry F.slot_dict_items_iter ty F.entry_dict_items_iter (wpAny_bind (wpAny_pure (wpAny_bind (m:=Builtin.Dict_items.dictOf (.ref v)) ?_))) (F.args_dict_items_iter_1 _)); unfold Builtin.Dict_items.dictOf; refine wpAny_bind (wpAny_field g1 f1 (x:= .ref d) rfl (wpAny_pure (wpAny_bind ?_))); unfold Builtin.Dict_items.newIterator; refine wpAny_bind (wpAny_dictEntries g e (wpAny_bind (wpAny_dictEpoch g e ?_))); exact wpAny_newObj_type (wpAny_pure ⟨_,rfl,"dict_itemiterator",_,⟨_,bW _ rfl,rfl⟩,F.slot_dict_itemiterator_next.lookup,q⟩) (by show (8:Nat)≤_; rw [sizeLine_eq]; decide)
theorem item_next {ok ov:Value} {Q:Option Value→Shared→Prop} (ii:IsItemIter s.heap it d i es.size ep ok ov) (g:s.heap.get? d=some od) (e:od.data= .dict es ep) (hi:i<es.size)
  (q:∀h',IsItemIterOut h' it d (i+1) es.size ep es[i].key es[i].val s.heap.objs.size→h'.get? s.heap.objs.size=some {cls:= .type "tuple",data:= .seq #[es[i].key,es[i].val]}→h'.objs.size=s.heap.objs.size+1→(∀b o,b≠it→s.heap.get? b=some o→h'.get? b=some o)→Q (some (.ref s.heap.objs.size)) {s with heap:=h'}):wpAny (model prog w) A (pyNext (.ref it)) Q E s:=by
 obtain ⟨hp,gn,dr,tk,os⟩:=s; have ty:Shared.TypeIs ⟨hp,gn,dr,tk,os⟩ (.ref it) "dict_itemiterator":=⟨_,ii,rfl⟩; have il:it<hp.objs.size:=bB ii; have ni:hp.objs.size≠it:=hV il; unfold pyNext; refine wpAny_bind (wpAny_attempt (wpAny_callSpecial?_slot (name:=Str.ofString "__next__") ty F.slot_dict_itemiterator_next (wpAny_call_entry F.slot_dict_itemiterator_next ty F.entry_dict_itemiterator_next (wpAny_bind (wpAny_pure (wpAny_bind (wpAny_bind ?_)))) (F.args_dict_itemiterator_next_1 _)))); refine wpAny_bind (wpAny_typeNameOfWhole_itemiter ty (wpAny_pure (wpAny_bind (wpAny_fieldsOf ii rfl ?_)))); rw [if_pos (by decide)]; show wpAny _ _ (ite ((Value.ref d==Value.none)=true) _ _) _ _ _; rw [if_neg (c:=(Value.ref d==Value.none)=true) (fun z=>by cases z)]; refine wpAny_bind (wpAny_pure (wpAny_bind (wpAny_dictEntries g e ?_))); rw [if_neg (by simp)]; refine wpAny_bind (wpAny_pure (wpAny_bind (wpAny_dictEpoch g e ?_))); rw [if_neg (by simp)]; refine wpAny_pure ?_; have ix:(if (i:Int)<0 then none else es[(i:Int).toNat]?)=some es[i]:=by rw [if_neg (by omega),eY,nG hi]
 simp only [ix]; refine wpAny_bind (wpAny_bind (wpAny_typeNameOfWhole_itemiter ty (wpAny_pure (wpAny_bind (wpAny_isOneOf_itemiter ty ?_))))); refine wpAny_bind (m:=setField (.ref it) 3 (rawInt ((i:Int)+1))) (wpAny_setField_rec ii (by simp) fun h1 e1 b1=> ?_); have b1:Heap.SameBut it hp h1:=b1
 have e1:IsItemIter h1 it d (i+1) es.size ep ok ov:=by show h1.get? it=_; rw [show ((i+1:Nat):Int)=(i:Int)+1 from rfl]; exact e1
 have ty1:Shared.TypeIs ⟨h1,gn,dr,tk,os⟩ (.ref it) "dict_itemiterator":=⟨_,e1,rfl⟩; refine wpAny_bind (wpAny_holding (wpAny_bind (wpAny_isOneOf_itemiter ty1 (wpAny_bind (wpAny_isOneOf_itemiter ty1 ?_))))); show wpAny _ _ (Builtin.Dict_items.pairFromOwner (.ref it) 6 es[i].key es[i].val) _ _ _; unfold Builtin.Dict_items.pairFromOwner; refine wpAny_bind (wpAny_newTuple ?_); obtain ⟨h2,z2⟩:∃h2,h2=h1.push {cls:= .type "tuple",data:= .seq #[es[i].key,es[i].val]}:=⟨_,rfl⟩; have s1:h1.objs.size=hp.objs.size:=b1.1; have e2:IsItemIter h2 it d (i+1) es.size ep ok ov:=by rw [z2]; exact aM _ e1
 have t2:h2.get? hp.objs.size=some {cls:= .type "tuple",data:= .seq #[es[i].key,es[i].val]}:=by rw [z2,← s1]; exact bW _ rfl
 have s2:h2.objs.size=hp.objs.size+1:=by rw [z2,qJ,s1]
 have k2:∀b o,b≠it→hp.get? b=some o→h2.get? b=some o:=fun b o ne q=>by rw [z2]; exact aM _ (b1.extBut b o ne q)
 show wpAny _ _ (Builtin.Dict_items.ownedTupleIsFree (.ref it)>>=_) _ _ ⟨h1.push {cls:= .type "tuple",data:= .seq #[es[i].key,es[i].val]},gn,dr,tk,os⟩; rw [← z2,s1]; unfold Builtin.Dict_items.ownedTupleIsFree; refine wpAny_bind (wpAny_bind (wpAny_field e2 rfl (x:= .none) rfl (wpAny_pure ?_))); rw [if_pos rfl]; refine wpAny_bind (wpAny_field e2 rfl (x:=ok) rfl (wpAny_bind (wpAny_field e2 rfl (x:=ov) rfl (wpAny_bind (wpAny_setField_rec e2 (by simp) fun h3 e3 b3=> ?_))))); refine wpAny_bind (wpAny_setField_rec e3 (by simp) fun h4 e4 b4=>wpAny_bind (wpAny_setField_rec e4 (by simp) fun h5 e5 b5=>wpAny_bind (wpAny_setField_rec e5 (by simp) fun h6 e6 b6=> ?_))); have bb:∀b o,b≠it→h2.get? b=some o→h6.get? b=some o:=fun b o ne q=>Heap.SameBut.extBut b6 b o ne (Heap.SameBut.extBut b5 b o ne (Heap.SameBut.extBut b4 b o ne (Heap.SameBut.extBut b3 b o ne q)))
 have sz:h6.objs.size=h2.objs.size:=(show h6.objs.size=h5.objs.size from b6.1).trans ((show h5.objs.size=h4.objs.size from b5.1).trans ((show h4.objs.size=h3.objs.size from b4.1).trans b3.1)); exact wpAny_bind (wpAny_letGo (wpAny_pure (wpAny_pure ⟨_,rfl,wpAny_pure (q h6 e6 (bb _ _ ni t2) (sz.trans s2) fun b o ne q=>bb b o ne (k2 b o ne q))⟩)))
theorem item_end {ok ov:Value} {Q:Option Value→Shared→Prop} (hh:A.handled=none) (ii:IsItemIter s.heap it d i es.size ep ok ov) (g:s.heap.get? d=some od) (e:od.data= .dict es ep) (hi:es.size≤i)
  (q:∀h',Heap.ExtBut it s.heap h'→Q none {s with heap:=h'}):wpAny (model prog w) A (pyNext (.ref it)) Q E s:=by
 have ty:s.TypeIs (.ref it) "dict_itemiterator":=⟨_,ii,rfl⟩; unfold pyNext; refine wpAny_bind (wpAny_attempt (wpAny_callSpecial?_slot (name:=Str.ofString "__next__") ty F.slot_dict_itemiterator_next (wpAny_call_entry F.slot_dict_itemiterator_next ty F.entry_dict_itemiterator_next (wpAny_bind (wpAny_pure (wpAny_bind (wpAny_bind ?_)))) (F.args_dict_itemiterator_next_1 _)))); refine wpAny_bind (wpAny_typeNameOfWhole_itemiter ty (wpAny_pure (wpAny_bind (wpAny_fieldsOf ii rfl ?_)))); rw [if_pos (by decide)]; show wpAny _ _ (ite ((Value.ref d==Value.none)=true) _ _) _ _ _; rw [if_neg (c:=(Value.ref d==Value.none)=true) (fun z=>by cases z)]; refine wpAny_bind (wpAny_pure (wpAny_bind (wpAny_dictEntries g e ?_))); rw [if_neg (by simp)]; refine wpAny_bind (wpAny_pure (wpAny_bind (wpAny_dictEpoch g e ?_))); rw [if_neg (by simp)]; refine wpAny_pure ?_; have ix:(if (i:Int)<0 then none else es[(i:Int).toNat]?)=none:=by rw [if_neg (by omega),eY,oW hi]
 simp only [ix]; refine wpAny_bind (wpAny_bind (wpAny_typeNameOfWhole_itemiter ty (wpAny_pure (wpAny_bind (wpAny_setField ii rfl (show (2:Nat)<8 by decide) ?_))))); exact stop_run hh (Heap.SameBut.update ..).extBut q
end
section
variable {P:Program} {w:World} {κ:Type} [DecidableEq κ] {hk:HK P w κ} {K:aD} {F:Hp} {l:Addr} {o:Obj} {ks:List κ} {ds:List D}
theorem Paired.at {α β:Type} {R:α→β→Prop} {as:List α} {bs:List β} (p:Paired R as bs):∀ {n:Nat} {a:α},as[n]? =some a→∃b,bs[n]? =some b∧R a b:=by
 induction p with
 | nil=>intro n a h; simp at h
 | @cons x y xs ys r t ih=>
  intro n a h; cases n with
  | zero=>
   have:x=a:=by simpa using h
   subst this; exact ⟨y,rfl,r⟩
  | succ n=>obtain ⟨b,h1,h2⟩:=ih (by simpa using h); exact ⟨b,by simpa using h1,h2⟩
theorem TG.ents (t:TG hk K F l o ks ds):∃ (es:Array DictEntry) (ep:Nat) (vs:List V),o.ExactDict∧o.data= .dict es ep∧es.size=ks.length∧RepL K F ds vs∧∀ (n:Nat) (k:κ),ks[n]? =some k→∃b v u,vs[n]? =some v∧es[n]? =some u∧u.key= .ref b∧RelV v u.val∧hk.rel F k b:=by
 obtain ⟨h1,h2,h3,h4,vs,xs,es,ep,r,g,q1,q2,q3,q4⟩:=t; have zl:(ks.zip vs).length=ks.length:=by rw [iN,r.len,← h1,mP]
 refine ⟨es,ep,vs,q1,q2, ?_,r,fun n k hn=> ?_⟩
 ·have:=congrArg qF q3; rw [cQ,aG,← Paired.length g,zl] at this; exact this
 ·have nl:n<ks.length:=(aP.mp hn).1; have nv:n<vs.length:=by rw [r.len,← h1]; exact nl
  have hz:(ks.zip vs)[n]? =some (k,vs[n]):=jK.mpr ⟨hn,by simp [nv]⟩; obtain ⟨b,hb,e1,e2,e3⟩:=Paired.at g hz; refine ⟨b.2.1,vs[n],entryOfKey hk.kind b,by simp [nv], ?_,rfl,e3,e2⟩; rw [← eG,q3,bG,hb]; rfl
end
noncomputable def viewO (d:Addr):Obj:={cls:= .type "dict_items",data:= .fields #[.ref d]}
noncomputable def rItems:V→List V→Hp→VK→Prop:=fun x vs H Q=>∃l o,x= .ref l∧vs=[]∧H l=some (exO l o)∧o.ExactDict∧(l==sysModules)=false∧∀p,H p=none→Q (.ref p) (upd H p (exO p (viewO l)))
section
variable {X:Cx} {o:Expr} {to:TE} {name:Str} {apos cpos:Pos} {id:String} {r:V→List V→Hp→VK→Prop}
theorem mt_items:MtR X "dict.items" rItems:=by intro pins s σ H x vs v us Q I rx rv h; obtain ⟨l,o,rfl,rfl,hl,c,sm,q⟩:=h; obtain rfl:v=Value.ref l:=rx; cases rv; have g:s.heap.get? l=some o:=(I.hok l _ hl).1; exact call_meetsIn yU (oM g c) PySem.F.entry_dict_items (PySem.F.args_dict_items_1 _) (view_new (R:=fun _ _=>True) sm) ⟨⟨o,g,c⟩, .ref s.heap.objs.size,_,I.laid (a:=s.heap.objs.size) (o:=exO s.heap.objs.size (viewO l)) (t':=s.toks) (fun _ _ q=>aM _ q) (aX _) (tT (bW _ rfl)),rfl,q _ (I.hok.fresh (aX _))⟩
theorem pe_dm0 (pa:PlainAttrs "dict") (slot:PySem.Slot "dict" name id) (hty:typeOf (.builtin id)=pure (.type "method_descriptor")) (hm:MtR X id r) (ho:PE X o to)
  (hbase:attributeBase o name X.env (eval o X.env)=eval o X.env:=by rfl) (hline:(apos.endLine==cpos.line)=true:=by rfl):PE X (.Call (.Attribute o name apos) [] [] cpos) (fun σ H Q=>to σ H fun x H1=>(∃l ob,x= .ref l∧H1 l=some (exO l ob)∧ob.ExactDict)∧r x [] H1 Q):=by
 intro pins s σ H Q I h; refine wpAny_Call_method0_late hbase hline (thn (ho pins s σ H _ I h) fun v s1 ⟨x,H1,I1,r1,⟨l,ob,e1,e2,e3⟩,q1⟩=> ?_); subst e1; obtain rfl:v=Value.ref l:=r1; have hg:s1.heap.get? l=some ob:=(I1.hok l _ e2).1; exact ⟨"dict",id,pa,slot,hty,⟨ob,hg,e3.1⟩,fun a q=>by cases q; exact ⟨ob,hg,e3.2.1⟩,Calls.callWith_builtin rfl (PySem.evalArgs_none (hm pins s1 σ H1 (.ref l) [] (.ref l) [] Q I1 rfl .nil q1))⟩
end
theorem entry_ii:entryFor table "dict_itemiterator.__iter__"=some Builtin.«dict_keyiterator.__iter__»:=entryFor_alias (id':="dict_keyiterator.__iter__") (by kernel_rfl) rfl (by decide+kernel) (by kernel_rfl)
noncomputable def ItI (a:Addr) (o:Obj) (es:Array DictEntry) (vs:List V):It where
 go:=fun i H=>H a=some (exO a o)∧i<es.size
 yld:=fun i H x H'=>∃q u b v,H q=none∧x= .ref q∧es[i]? =some u∧u.key= .ref b∧vs[i]? =some v∧H'=upd H q (.tup [.ref b,v])
 stop:=fun i H=>H a=some (exO a o)∧es.size≤i
theorem turn_itemsG {P:Program} {w:World} {K:aD} {elts:List Expr} {kk:Nat} {pos:Pos} {a:Addr} {o:Obj} {es:Array DictEntry} {vs:List V} {ep:Nat} (hd:o.data= .dict es ep) (hr:∀ (i:Nat) (h:i<es.size),∃b v,es[i].key= .ref b∧vs[i]? =some v∧RelV v es[i].val) (it:Addr):Turn P w K (.Tuple elts kk pos) (ItI a o es vs) [it] it (fun i h=>∃ok ov,IsItemIter h it a i es.size ep ok ov) where
 mem:=by simp
 obj:=fun i h st b hb=>by
  have e:b=it:=by simpa using hb
  subst e; obtain ⟨ok,ov,e⟩:=st; exact ⟨_,e,fun v z=>by cases z⟩
 keep:=fun i h h' st k=>by obtain ⟨ok,ov,e⟩:=st; exact ⟨ok,ov,k it (by simp) _ e⟩
 item:=by
  intro X hP hw hK hc i pins s σ H E I hf st hg; subst hP hw hK; obtain ⟨hq,hx⟩:=hg; obtain ⟨ok,ov,st⟩:=st; obtain ⟨b,v,hb,hv,rv⟩:=hr i hx; have g:s.heap.get? a=some o:=(I.hok a _ hq).1; have f:=hf it (by simp); obtain ⟨f0,f1,f2,f3,f4,f5⟩:=f; have isz:it<s.heap.objs.size:=bB st; refine item_next st g hd hx fun h1 io ht hz kp=>⟨_,rfl,wpAny_letOwnedTupleGo_items io fun h2 ii sb=> ?_⟩
  have sb:Heap.SameBut it h1 h2:=sb; have I1:Inv X pins σ H {s with heap:=h2}:=I.turned (t':=s.toks) (fun b o hb e=>(sb.2 b hb).trans (kp b o hb e)) f0 f1 f3 f4 f5; have hn:H s.heap.objs.size=none:=I.hok.fresh (aX _); have g2:h2.get? s.heap.objs.size=some {cls:= .type "tuple",data:= .seq #[es[i].key,es[i].val]}:=(sb.2 _ (hV isz)).trans ht
  have I2:Inv X pins σ (upd H s.heap.objs.size (.tup [.ref b,v])) {s with heap:=h2}:=by
   refine I1.track hn I.sz (hV I.lt) (fun y c q=> ?_) (fun y hy=> ?_) ⟨by show 2≤sizeLine; decide,[es[i].key,es[i].val], .cons hb (.cons rv .nil),⟨_,g2,rfl,⟨_,rfl⟩,rfl⟩⟩
   ·obtain ⟨v,o,ho,_⟩:=I.cell y c q; exact cH (bB ho)
   ·exact cH (bB (I.pin y hy).1)
  refine ⟨.ref s.heap.objs.size,_,I2,rfl,⟨_,es[i],b,v,hn,rfl,by simp [hx],hb,hv,rfl⟩,⟨_,_,ii⟩,fun b hb=> ?_⟩; have z:b=it:=by simpa using hb
  subst z; rw [cE (cH isz)]; exact f0
 done:=by intro X hP hw hK hc i pins s σ H E I hf st hg; subst hP hw hK; obtain ⟨hq,hx⟩:=hg; obtain ⟨ok,ov,st⟩:=st; have g:s.heap.get? a=some o:=(I.hok a _ hq).1; obtain ⟨f0,f1,f2,f3,f4,f5⟩:=hf it (by simp); exact item_end (I.ok.hd hc) st g hd hx fun h' eb=>⟨rfl,I.turned (t':=s.toks) (fun b o hb e=>eb b o hb e) f0 f1 f3 f4 f5⟩
 self:=fun _ _ _ _ _ st h=>by obtain ⟨ok,ov,st⟩:=st; have ty:Shared.TypeIs _ (.ref it) "dict_itemiterator":=⟨_,st,rfl⟩; exact wpAny_pyIter_slot ty qK (wpAny_call_entry qK ty entry_ii (wpAny_pure ⟨_,rfl,"dict_itemiterator",_,ty,PySem.F.slot_dict_itemiterator_next.lookup,h⟩) (PySem.F.args_dict_itemiterator_iter_1 _))
section
variable {X:Cx} {sd:List Slot} {e:Expr} {pos ap cp tp:Pos} {d:D} {ds:List D} {κ:Type} [DecidableEq κ] {hk:HK X.prog X.w κ} {ks:List κ} {elts:List Expr} {kk:Nat}
theorem pid_itemsG (h:PEd X sd e (.val (gD hk X.K ks ds))) (hbase:attributeBase e "items" X.env (eval e X.env)=eval e X.env:=by rfl) (hline:(ap.endLine==cp.line)=true:=by rfl):
  PId X sd PT0 (.Tuple elts kk tp) (.Call (.Attribute e "items" ap) [] [] cp) ((ks.zip ds).map fun p=> .tup [hk.dat p.1,p.2]):= .mk fun σ F H S pins s I=>by
 have he:wE X (.Call (.Attribute e "items" ap) [] [] cp) σ H (fun v H1=>∃F1 a o p,v= .ref p∧H1 p=some (exO p (viewO a))∧StF X.K X.B₀ F1 H1 σ sd∧Same F F1∧F1 a=some (exO a o)∧TG hk X.K F1 a o ks ds):=(pe_dm0 jU yU PySem.F.type_dict_items mt_items gS hbase hline).to ((h σ F H S).imp fun v H1 ⟨F1,S1,s1,q1⟩=>by
  obtain ⟨a,o,rfl,ha,t⟩:=gD_rep.mp q1; obtain ⟨es,ep,vs,c,_⟩:=t.ents; have hl:=S1.sub _ _ ha; refine ⟨⟨a,o,rfl,hl,c⟩,a,o,rfl,rfl,hl,c,t.2.2.1,fun p hp=> ?_⟩; obtain ⟨S2,s2⟩:=S1.lay (o:=exO p (viewO a)) hp trivial
  exact ⟨_,a,o,p,rfl,dD,S2,s1.trans s2,s2 _ _ ha,t.mono s2⟩)
 refine thn (he pins s I) fun v s1 ⟨x,H1,I1,r1,F1,a,o,p,ex,hp,S1,s1',ha,t⟩=> ?_
 subst ex; cases r1; obtain ⟨es,ep,vs,c,e,ez,r,hn⟩:=t.ents; have g:s1.heap.get? a=some o:=(I1.hok a _ (S1.sub _ _ ha)).1; have gp:s1.heap.get? p=some (viewO a):=(I1.hok p _ hp).1
 have hr:∀ (i:Nat) (h:i<es.size),∃b v,es[i].key= .ref b∧vs[i]? =some v∧RelV v es[i].val:=fun i hi=>by
  have il:i<ks.length:=by rw [← ez]; exact hi
  obtain ⟨b,v,u,e1,e2,e3,e4,_⟩:=hn i ks[i] (by simp [il]); rw [nG hi] at e2; cases e2; exact ⟨b,v,e3,e1,e4⟩
 refine view_iter ⟨_,gp,rfl,rfl⟩ g e ?_; have zl:((ks.zip ds).map fun p=>D.tup [hk.dat p.1,p.2]).length=es.size:=by rw [aG,iN,← t.1,mP,ez]
 refine ⟨s1.heap.objs.size,[s1.heap.objs.size],_,ItI a o es vs,H1,rfl,I1.kept (t':=s1.toks) fun b o e=>aM _ e,turn_itemsG e hr _,⟨_,_,bW _ rfl⟩,fun b hb=> ?_,F1,S1,s1',fun F' H' sF sH sm _ i=> ?_⟩
 ·have e:b=s1.heap.objs.size:=by simpa using hb
  subst e; exact I1.fpOk (aX _) (I1.hok.fresh (aX _))
 ·have ha':=sH _ _ (sF _ _ ha); refine ⟨fun hi=>⟨ha',by rw [← zl]; exact hi⟩,fun hi=>⟨ha',by rw [← zl]; exact hi⟩,fun x H2 dd hdd y=> ?_⟩; obtain ⟨q,u,b,v,hq,rfl,e1,e2,e3,rfl⟩:=y; rw [bG] at hdd; obtain ⟨⟨k,dv⟩,hz,rfl⟩:=gP.mp hdd; obtain ⟨hk1,hd1⟩:=jK.mp hz; obtain ⟨b',v',u',e0,e4,e5,_,rl⟩:=hn i k hk1; rw [e1] at e4; cases e4; rw [e2] at e5; cases e5; obtain ⟨v2,e6,rv⟩:=r.get hd1; rw [e3] at e6; cases e6; have fq:F' q=none:=sH.free hq; have s2:Same F' (upd F' q (.tup [.ref b,v])):=fun c u z=>by rw [cE (dE z fq)]; exact z
  refine ⟨upd F' q (.tup [.ref b,v]),s2, ?_,fun H₀ σ sd S=>(S.lay (o:= .tup [.ref b,v]) hq trivial).1⟩; simp only [Rep]; exact ⟨q,_,rfl,dD, .cons (hk.back (hk.mono (sF.trans s2) rl)) (.one (rv.mono (sF.trans s2)))⟩
end
section
variable {prog:Program} {w:World} {A:Around} {E:Value→Shared→Prop} {s:Shared} {d:Addr} {od:Obj} {es:Array DictEntry} {ep:Nat}
theorem dlen_meets (sm:(d==sysModules)=false):MeetsIn prog w (Builtin.«dict.__len__» ⟨[.ref d],[]⟩) (fun _ R s=>∃ (od:Obj) (es:Array DictEntry) (ep:Nat),s.heap.get? d=some od∧od.ExactDict∧od.data= .dict es ep∧R (.ok (.ret (.int es.size s.toks))) {s with toks:=s.toks+1}):=
 .of_wp fun A R s ⟨od,es,ep,g,c,e,q⟩=>by refine wpAny_bind (m:=Builtin.Dict.dictSlotNone "__len__" ⟨[.ref d],[]⟩) ?_; unfold Builtin.Dict.dictSlotNone; refine wpAny_bind (wpAny_notOrdered_dict (oM g c) (wpAny_pure (a:=Value.ref d) (wpAny_bind (wpAny_pure (wpAny_bind (m:=dictSize d) ?_))))); unfold dictSize; exact wpAny_bind (wpAny_dictEntries g e (wpAny_pure (wpAny_bind (wpAny_pendingCount_other sm (wpAny_ret_mkInt (by rw [show ((es.size:Nat):Int)+((0:Nat):Int)=(es.size:Int) from Int.add_zero _]; exact q))))))
theorem dlen_call {Q:Value→Shared→Prop} (sm:(d==sysModules)=false) (g:s.heap.get? d=some od) (c:od.ExactDict) (e:od.data= .dict es ep) (fit:es.size≤sizeLine) (q:∀t t2,Q (.int es.size t) {s with toks:=t2}):wpAny (model prog w) A (call (.builtin "len") [.ref d]) Q E s:=by
 have lim:sizeLine=16777216:=sizeLine_eq; have ty:=oM g c; refine Calls.call_function_entry kind_len plain_len entry_len (args_len1 _) ?_; refine wpAny_bind (m:=oneArg "len" _) (wpAny_pure (wpAny_bind (m:=callSpecial? (.ref d) (Str.ofString "__len__")) (wpAny_callSpecial?_slot (name:=Str.ofString "__len__") ty F.slot_dict_len (call_meetsIn F.slot_dict_len ty F.entry_dict_len (F.args_dict_len_1 _) (dlen_meets sm) ⟨od,es,ep,g,c,e, ?_⟩)))); refine wpAny_bind (wpAny_holding (wpAny_pure (wpAny_bind (wpAny_letGo ?_)))); refine wpAny_ite_split (fun z=>by omega) fun _=>wpAny_ite_split (fun z=>by omega) fun _=> ?_
 exact wpAny_bind (wpAny_mkInt (wpAny_pure ⟨_,rfl,q _ _⟩))
end
section
variable {X:Cx} {sd:List Slot} {e:Expr} {pos:Pos} {d:D} {ds:List D} {κ:Type} [DecidableEq κ] {hk:HK X.prog X.w κ} {ks:List κ}
theorem call_lenG:nQ X (.builtin "len") (fun xs H Q=>∃ (l:Addr) (o:Obj) (es:Array DictEntry) (ep:Nat),xs=[.ref l]∧H l=some (exO l o)∧o.ExactDict∧o.data= .dict es ep∧(l==sysModules)=false∧es.size≤sizeLine∧Q (.int es.size) H):=by intro pins s σ H xs us Q I r h; obtain ⟨l,o,es,ep,rfl,hl,c,e,sm,fit,q⟩:=h; obtain ⟨u,rfl,rx⟩:=qE r; cases (show u=Value.ref l from rx); exact dlen_call sm (I.hok l _ hl).1 c e fit fun t t2=>⟨.int es.size,H,I.tok _,⟨_,rfl⟩,q⟩
end
structure LyOk (K:aD) (F H:Hp) (p:Int) (L:Int→List D) (kvs:List (Key × V)) (ls:List Addr):Prop where
 live:∃ (lk:List Int) (dss:List (List D)),lk.Nodup∧lk.length=ls.length∧InD K F H ls dss∧(∀k,p<k→lJ kvs (.inl k)=lJ (lk.zip (ls.map V.ref)) k)∧(∀ (n:Nat) (k:Int),lk[n]? =some k→p<k∧dss[n]? =some (L k))∧∀k,p<k→k∉lk→L k=[]
 cur:(lJ kvs (.inl p)=none∧L p=[])∨∃v,lJ kvs (.inl p)=some v∧Rep K F (.lst (L p)) v
section
variable {K:aD} {H₀ F F' H H':Hp} {σ:St} {sd:List Slot} {i:Nat} {l:Addr} {p:Int} {L:Int→List D} {ls:List Addr} {kvs:List (Key × V)}
theorem InD.erase:∀ {as:List Addr} {dss:List (List D)} (n:Nat),InD K F H as dss→InD K F H (as.eraseIdx n) (dss.eraseIdx n)
 | [],[],n,h=>by simp; exact h
 | [],_::_,_,h=>h.elim
 | _::_,[],_,h=>h.elim
 | a::as,ds::dss,0,h=>h.2
 | a::as,ds::dss,n+1,h=>⟨h.1,InD.erase n h.2⟩
end
theorem yB {α β:Type} (f:α→β):∀ (l:List α) (n:Nat),(l.map f).eraseIdx n=(l.eraseIdx n).map f
 | [],_=>by simp
 | _::_,0=>rfl
 | a::l,n+1=>by show f a::(l.map f).eraseIdx n=f a::(l.eraseIdx n).map f; rw [yB f l n]
namespace S45
variable {T:Type} [DecidableEq T] (n:Nat) (pr:Nat→Int) (beh:Nat→T→T) (t0:T)
noncomputable abbrev Ent (T:Type):=Int × List Nat × T
noncomputable abbrev Lay (T:Type):=Int→List (List Nat × T)
noncomputable def tabQ (row:List Nat):T:=row.foldl (fun t k=>beh k t) t0
noncomputable def prQ (row:List Nat):Int:=(row.map pr).sum
theorem tab_snoc (row:List Nat) (k:Nat):tabQ beh t0 (row++[k])=beh k (tabQ beh t0 row):=by unfold tabQ; rw [nX]; rfl
theorem pr_snoc (row:List Nat) (k:Nat):prQ pr (row++[k])=prQ pr row+pr k:=by unfold prQ; rw [bR,List.sum_append]; simp
noncomputable def put (t:Int) (row:List Nat) (tab:T):Nat→Lay T→Lay T
 | 0,ly=>ly
 | k+1,ly=>fun j=>if j=t+pr k then put t row tab k ly j++[(row++[k],beh k tab)] else put t row tab k ly j
noncomputable def one (t:Int) (s:List (Ent T) × Lay T) (e:List Nat × T):List (Ent T) × Lay T:=if e.2∉s.1.map (fun x=>x.2.2)∧s.1.length≤600 then (s.1++[(t,e.1,e.2)],put pr beh t e.1 e.2 n s.2) else s
noncomputable def lay0:Lay T:=fun j=>if j=0 then [([],t0)] else []
noncomputable def run:Nat→List (Ent T) × Lay T
 | 0=>([],lay0 t0)
 | t+1=>((run t).2 t).foldl (one n pr beh t) (run t)
structure Ok (t:Int) (rest:List (List Nat × T)) (s:List (Ent T) × Lay T):Prop where
 ent:∀e∈s.1,0≤e.1∧e.1≤t∧e.1=prQ pr e.2.1∧(∀k∈e.2.1,k<n)∧e.2.2=tabQ beh t0 e.2.1
 nd:(s.1.map fun x=>x.2.2).Nodup
 ly:∀ (j:Int) (x:List Nat × T),x∈s.2 j→j=prQ pr x.1∧(∀k∈x.1,k<n)∧x.2=tabQ beh t0 x.1∧(x.1=[]∨∃r k,x.1=r++[k]∧(prQ pr r,r,tabQ beh t0 r)∈s.1)
 par:∀ (i:Nat) (e:Ent T),s.1[i]? =some e→(e.2.1=[]∧i=0)∨∃r k i',e.2.1=r++[k]∧i'<i∧s.1[i']? =some (prQ pr r,r,tabQ beh t0 r)
 ch:∀e∈s.1,∀k,k<n→(e.2.1++[k],beh k e.2.2)∈s.2 (e.1+pr k)
 done:∀ (j:Int) (x:List Nat × T),j≤t→x∈s.2 j→(j=t∧x∈rest)∨(∃e∈s.1,e.2.2=x.2∧e.1≤j)∨600<(s.1.filter fun e=>decide (e.1≤j)).length
 sub:∀x∈rest,x∈s.2 t
 le:s.1.length≤601
variable {n pr beh t0}
variable (n pr beh)
variable {n pr beh}
end S45
end DL
namespace DL
open PySem PySem.Spec PyProof.Rows L2
section
variable {p:Int × Int} {L:List SK}
noncomputable def jV (p:Int × Int) (q:SQ):List Nat:=(eV p).map fun ws=>sN p (onQ p q ws)
noncomputable def jG (other one:List Nat):List Nat:=one.map fun i=>other.getD i 0
noncomputable def jO (p:Int × Int) (nb:List Nat):List (List Int):=nb.map fun i=>(eV p).getD i []
noncomputable def qA (p:Int × Int) (L:List SK) (k:Nat) (t:List (List Int)):List (List Int):=t.map (onQ p (L.getD k default).1)
noncomputable def prK (L:List SK) (k:Nat):Int:=(L.getD k default).2
noncomputable def mvD (p:Int × Int) (s:SK):D:= .tup [.int s.2, .tup (cG (jV p s.1))]
noncomputable def NOk (p:Int × Int) (nb:List Nat):Prop:=nb.length=(eV p).length∧∀i∈nb,i<(eV p).length
theorem nos_len (p:Int × Int) (q:SQ):(jV p q).length=(eV p).length:=by unfold jV; rw [aG]
theorem nos_at (q:SQ) {i:Nat} (hi:i<(eV p).length):(jV p q).getD i 0=sN p (onQ p q ((eV p).getD i [])):=by unfold jV; simp [cY,hi]
theorem filAt (hp:p∈dH) {i:Nat} (hi:i<(eV p).length):Fil p ((eV p).getD i []):=uX hp (getD_mem hi)
theorem nos_lt (hp:p∈dH) {q:SQ} (O:qP p q) {i:Nat} (hi:i<(eV p).length):(jV p q).getD i 0<(eV p).length:=by rw [nos_at q hi]; exact (num_ok hp (zZ O (filAt hp hi))).2.1
theorem pick_ok (hp:p∈dH) {q:SQ} (O:qP p q) {nb:List Nat} (h:NOk p nb):NOk p (jG (jV p q) nb):=by refine ⟨by unfold jG; rw [aG]; exact h.1,fun i hi=> ?_⟩; obtain ⟨j,hj,rfl⟩:=bH.mp hi; exact nos_lt hp O (h.2 j hj)
theorem tab_pick (hp:p∈dH) {q:SQ} (O:qP p q) {nb:List Nat} (h:NOk p nb):jO p (jG (jV p q) nb)=(jO p nb).map (onQ p q):=by
 unfold jO jG; rw [bM,bM]; refine cR fun i hi=> ?_
 show (eV p).getD ((jV p q).getD i 0) []=onQ p q ((eV p).getD i []); rw [nos_at q (h.2 i hi)]; exact (num_ok hp (zZ O (filAt hp (h.2 i hi)))).2.2
theorem tabN_inj (hp:p∈dH) {a b:List Nat} (ha:NOk p a) (hb:NOk p b) (h:jO p a=jO p b):a=b:=by
 refine oS (ha.1.trans hb.1.symm) fun i h1 h2=> ?_
 have e:(jO p a)[i]'(by unfold jO; rw [aG]; exact h1)=(jO p b)[i]'(by unfold jO; rw [aG]; exact h2):=by simp only [h]
 unfold jO at e; rw [eA,eA] at e; rw [← num_at hp (ha.2 _ (lQ h1)),← num_at hp (hb.2 _ (lQ h2)),e]
noncomputable def st0 (p:Int × Int):List Nat:=cO (eV p).length
theorem st0_ok (p:Int × Int):NOk p (st0 p):=⟨by unfold st0; rw [kQ],fun i hi=>fG.mp hi⟩
theorem tab_st0 (p:Int × Int):jO p (st0 p)=eV p:=by
 unfold jO st0; refine oS (by simp) fun i h1 h2=> ?_
 rw [eA,List.getElem_range]; simp [cY,h2]
noncomputable def nrQ (p:Int × Int) (L:List SK) (row:List Nat):List Nat:=row.foldl (fun nb k=>jG (jV p (L.getD k default).1) nb) (st0 p)
theorem zG (row:List Nat) (k:Nat):nrQ p L (row++[k])=jG (jV p (L.getD k default).1) (nrQ p L row):=by unfold nrQ; rw [nX]; rfl
theorem xP (hp:p∈dH) (S:∀s∈L,qP p s.1):∀ {row:List Nat},gY L row→NOk p (nrQ p L row)∧jO p (nrQ p L row)=S45.tabQ (qA p L) (eV p) row:=fun {row}=>by
 have g:∀ (row:List Nat) (nb:List Nat) (t:List (List Int)),NOk p nb→jO p nb=t→gY L row→NOk p (row.foldl (fun nb k=>jG (jV p (L.getD k default).1) nb) nb)∧jO p (row.foldl (fun nb k=>jG (jV p (L.getD k default).1) nb) nb)=row.foldl (fun t k=>qA p L k t) t:=fun row=>by
  induction row with
  | nil=>exact fun nb t h1 h2 _=>⟨h1,h2⟩
  | cons k row ih=>
   intro nb t h1 h2 h3; have O:qP p (L.getD k default).1:=S _ (DL.getD_mem (h3 k aR)); refine ih _ _ (pick_ok hp O h1) ?_ fun j hj=>h3 j (aQ _ hj)
   rw [tab_pick hp O h1,h2]; rfl
 exact fun h=>g row (st0 p) (eV p) (st0_ok p) (tab_st0 p) h
end
open Classical in
noncomputable def wR (L:List SK) (d:D):SK:=if h:∃s,s∈L∧skD s=d then h.choose else default
theorem wN {L:List SK} (nd:(L.map fun s=>sqD s.1).Nodup) {s:SK} (h:s∈L):wR L (skD s)=s:=by
 have ex:∃z,z∈L∧skD z=skD s:=⟨s,h,rfl⟩; unfold wR; rw [dif_pos ex]; obtain ⟨h1,h2⟩:=ex.choose_spec; generalize ex.choose=z at h1 h2; obtain ⟨i,hi,ez⟩:=fR h1; obtain ⟨j,hj,es⟩:=fR h
 have e:sqD z.1=sqD s.1:=by
  have h2:D.tup [sqD z.1, .int z.2]=D.tup [sqD s.1, .int s.2]:=h2; injection h2 with h2
  exact (vC.inj h2).1
 have:i=j:=(jE (i:=i) (j:=j) (h₀:=by rw [aG]; exact hi) (h₁:=by rw [aG]; exact hj) nd).mp (by rw [eA,eA,ez,es,e]); subst this; exact ez.symm.trans es
noncomputable def CNos:List D→R→Prop:=fun ds r=>∃p q,p∈dH∧qP p q∧ds=[dI p,sqD q]∧r= .val (.tup (cG (jV p q)))
noncomputable def CMoves:List D→R→Prop:=fun ds r=>∃p L,p∈dH∧StkOk p L∧(L.map fun s=>sqD s.1).Nodup∧ds=[dI p, .lst (L.map skD)]∧r= .own (L.map (mvD p))
noncomputable def CNbeh:List D→R→Prop:=fun ds r=>∃one other:List Nat,one.length≤100∧(∀i∈one,i<other.length)∧ds=[.tup (cG one), .tup (cG other)]∧r= .val (.tup (cG (jG other one)))
noncomputable def CTfrom:List D→R→Prop:=fun ds r=>∃ (B:List (List Int)) (nb:List Nat),nb.length≤100∧(∀i∈nb,i<B.length)∧ds=[.lst (B.map bT), .tup (cG nb)]∧r= .val (.tup ((nb.map fun i=>B.getD i []).map bT))
section
variable {X:Cx} {sd:List Slot} {a b:Expr} {pos:Pos} {ds:List D} {κ:Type} [DecidableEq κ] {hk:HK X.prog X.w κ} {ks:List κ} {k:κ} {kk:Bool}
theorem bool_mem (h:kk=true↔k∈ks):decide (k∈ks)=kk:=by
 cases kk with
 | true=>exact decide_eq_true (h.mp rfl)
 | false=>exact decide_eq_false fun z=>by cases h.mpr z
theorem ptd_inK (h:kk=true↔k∈ks) (hu:X.A.units+2<cLine) (ha:PEd X sd a (.val (hk.dat k))) (hb:PDc X sd b hk ks ds) (hm:behindInMarks .In b=false:=by with_unfolding_all rfl):PTd X sd (.Compare a [.In] [b] pos) kk:=PTd.cast (ptd_inG hu ha hb hm) (bool_mem h)
theorem ptd_ninK (h:kk=true↔k∈ks) (hu:X.A.units+2<cLine) (ha:PEd X sd a (.val (hk.dat k))) (hb:PDc X sd b hk ks ds) (hm:behindInMarks .NotIn b=false:=by with_unfolding_all rfl):PTd X sd (.Compare a [.NotIn] [b] pos) (!kk):=PTd.cast (ptd_ninG hu ha hb hm) (by rw [bool_mem h])
end
noncomputable abbrev Bk:=S45.Ent (List (List Int))
noncomputable def enD (e:Bk):D:= .tup [.int e.1, .tup (cG e.2.1), .tup (e.2.2.map bT)]
structure BkOk (p:Int × Int) (L:List SK) (b:Int) (B:List Bk):Prop where
 len:B.length≤700
 ent:∀e∈B,e.1=S45.prQ (prK L) e.2.1∧e.1≤b∧gY L e.2.1∧e.2.1.length≤400∧e.2.2=S45.tabQ (qA p L) (eV p) e.2.1
 nd:(B.map fun e=>e.2.2).Nodup
noncomputable def nF (nb:List Nat):List Key:=nb.map fun (i:Nat)=>(Sum.inl (i:Int):Key)
theorem natK_D (nb:List Nat):tD (nF nb)= .tup (cG nb):=by unfold tD nF cG; rw [bM]; rfl
theorem natK_inj:∀ {a b:List Nat},nF a=nF b→a=b
 | [],[],_=>rfl
 | [],_::_,h=>by cases h
 | _::_,[],h=>by cases h
 | x::a,y::b,h=>by
  have h:(Sum.inl (x:Int):Key)::nF a=(Sum.inl (y:Int):Key)::nF b:=h; injection h with h1 h2
  have:=Sum.inl.inj h1; rw [natK_inj h2]; congr 1; omega
theorem sum_pr (L:List SK) (row:List Nat):sumI (prcL L row)=S45.prQ (prK L) row:=by
 unfold S45.prQ prcL prK; generalize row.map (fun t=>(L.getD t default).2)=xs
 have g:∀n:Nat,sumI (xs.take n)=(xs.take n).sum:=fun n=>by
  induction n with
  | zero=>rfl
  | succ n ih=>
   by_cases h:n<xs.length
   ·rw [take_snoc 0 h,sumI_snoc,ih,List.sum_append]; simp
   ·have e:xs.take (n+1)=xs.take n:=by rw [iI (by omega),iI (by omega)]
    rw [e,ih]
 have:=g xs.length; rw [gB] at this; exact this
section
variable {prog:Program} {w:World} {A:Around} {E:Value→Shared→Prop} {s:Shared} {r:Addr} {n:Nat} {t u v:Tok}
theorem zU {Q:List Value→Shared→Prop} (hh:A.handled=none) (ir:IsRange s.heap r 0 (n:Int) 1 t u v) (hn:n≤1000)
  (q:∀ (h':Heap) (tk:Nat) (acc:Array Value),(∀b o,s.heap.get? b=some o→h'.get? b=some o)→ItemsOf (fun i v=>∃t,v= .int (0+i * 1) t) acc n→Q acc.toList {s with heap:=h',toks:=tk}):wpAny (model prog w) A (collect (.ref r)) Q E s:=by
 have sz:Builtin.Range.rangeSize 0 (n:Int) 1=(n:Int):=by
  rw [rangeSize_one]
  split<;>omega
 have fin:∀ (h':Heap) (tk:Nat) (acc:Array Value) (c':Nat),(∀b o,s.heap.get? b=some o→h'.get? b=some o)→h'.get? s.heap.objs.size=some {cls:= .type "list",dict:=none,data:= .seq acc c',slots:= #[]}→ItemsOf (fun i v=>∃t,v= .int (0+i * 1) t) acc n→wpAny (model prog w) A (do
   let o ← load s.heap.objs.size
   match o.data with
   | .seq xs _=>pure xs.toList
   | _=>unsupported "internal:collect") Q E {s with heap:=h',toks:=tk}:=fun h' tk acc c' k1 k2 k3=>wpAny_bind (wpAny_load k2 (wpAny_pure (q h' tk acc k1 k3)))
 have new:(s.heap.push {cls:= .type "list",data:= .seq ([]:List Value).toArray}).get? s.heap.objs.size=some {cls:= .type "list",data:= .seq #[]}:=bW _ rfl; have main:=wpAny_extend_range (prog:=prog) (w:=w) (A:=A) (s:={s with heap:=s.heap.push {cls:= .type "list",data:= .seq ([]:List Value).toArray}}) (R:=fun (x:Result) (st:Shared)=>∃ (h':Heap) (tk:Nat) (acc:Array Value) (c':Nat),x= .ok (.ret (.ref s.heap.objs.size))∧st={s with heap:=h',toks:=tk}∧(∀b o,s.heap.get? b=some o→h'.get? b=some o)∧h'.get? s.heap.objs.size=some {cls:= .type "list",dict:=none,data:= .seq acc c',slots:= #[]}∧ItemsOf (fun i v=>∃t,v= .int (0+i * 1) t) acc n) hh (aM _ ir) (small_one (by omega) (by omega) (by omega) (by omega)) sz (by omega) s.heap.objs.size (.ref s.heap.objs.size) 0 new fun h' tk acc c' k1 k2 k3=>⟨h',tk,acc,c',rfl,rfl,fun b o g=>k1 b o (cH (bB g)) (aM _ g),k2,k3⟩
 unfold collect; refine wpAny_bind (wpAny_runValue (codeAny_builtin entry_proto_collect' ?_)); rw [Around.under_plainId PySem.F.plain_proto_collect _]; refine wpAny_bind (m:=newList []) (wpAny_newObj_type (wpAny_pure ⟨plainId_quiet yV _,codeAny_builtin entry_list_iadd' ?_⟩)); rw [Around.under_plainId yV _]; refine wpAny_mono main (fun z st x=> ?_) fun z st x=> ?_
 ·cases z with
  | done f=>obtain ⟨h',tk,acc,c',e,rfl,k1,k2,k3⟩:=x; cases e; exact fin h' tk acc c' k1 k2 k3
  | again c1=>refine ⟨x.1,codeAny_mono x.2 fun y st y2=> ?_⟩; obtain ⟨h',tk,acc,c',rfl,rfl,k1,k2,k3⟩:=y2; exact fin h' tk acc c' k1 k2 k3
 ·obtain ⟨_,_,_,_,e,_⟩:=x; cases e
theorem tupNew_range (r:Addr) (n:Nat) (t u v:Tok) (hn:n≤1000):Meets (Builtin.«tuple.__new__» ⟨[.type "tuple", .ref r],[]⟩) (fun A R s=>A.handled=none∧IsRange s.heap r 0 (n:Int) 1 t u v∧∀ (h':Heap) (tk:Nat) (acc:Array Value),(∀b o,s.heap.get? b=some o→h'.get? b=some o)→ItemsOf (fun i v=>∃t,v= .int (0+i * 1) t) acc n→R (.ok (.ret (.ref h'.objs.size))) {s with heap:=h'.push {cls:= .type "tuple",data:= .seq acc},toks:=tk}):=
 .of_wp fun prog w A R s h=>by
  obtain ⟨hp,gn,dr,tk,os⟩:=s; obtain ⟨hh,ir,q⟩:=h; have a1:=sub_tuple_self; have a2:=init_tuple_lookup; have a3:=madeHere_tuple; have ty:Shared.TypeIs ⟨hp,gn,dr,tk,os⟩ (.ref r) "range":=⟨_,ir,rfl⟩; have hh1:A.in1.handled=none:=hh
  wp_walk using AutoSeq1.wpAny_loadPart' ir,wpAny_typeOf ty,zU (s:=⟨hp,gn,dr,tk,os⟩) hh1 ir hn
  intro h' tk' acc k1 k2; refine wpAny_bind (m:=Builtin.Tuple.tupleExact acc.toList.toArray) ?_; unfold Builtin.Tuple.tupleExact; have e:acc.toList.toArray=acc:=by simp
  rw [e]; exact wpAny_newObj_type (wpAny_pure ⟨_,rfl,q h' tk' acc k1 k2⟩) (show acc.size≤sizeLine by rw [k2.1]; exact eX (gW hn))
theorem xH {Q:Value→Shared→Prop} (hh:A.handled=none) (ir:IsRange s.heap r 0 (n:Int) 1 t u v) (hn:n≤1000)
  (q:∀ (h':Heap) (tk:Nat) (acc:Array Value),(∀b o,s.heap.get? b=some o→h'.get? b=some o)→ItemsOf (fun i v=>∃t,v= .int (0+i * 1) t) acc n→Q (.ref h'.objs.size) {s with heap:=h'.push {cls:= .type "tuple",data:= .seq acc},toks:=tk}):wpAny (model prog w) A (call (.type "tuple") [.ref r]) Q E s:=
 callType_new F.called_tuple (by decide) (F.typeCall_tuple_1 _) (F.newCall_tuple_1 _) (fun obj=>F.args_object_init_2 obj _) F.entry_tuple_new (tupNew_range r n t u v hn) ⟨hh,ir,fun h' tk acc k1 k2=>⟨⟨_,bW _ rfl,rfl⟩,q h' tk acc k1 k2⟩⟩
end
section
variable {X:Cx} {sd:List Slot} {e:Expr} {pos:Pos}
theorem pd_tupRange {p p2 q2:Pos} {n:Nat} (hg:Gl X "tuple") (hm:X.mg "tuple"=none) (hg2:Gl X "range") (hm2:X.mg "range"=none) (ha:PEd X sd e (.val (.int (n:Int)))) (h1:n≤1000)
  (hc:X.calm=true:=by rfl) (hst:starEach [e] X.env=(false,eval e X.env)::starEach [] X.env:=by rfl) (hst2:starEach [.Call (.Name "range" p2) [e] [] q2] X.env=(false,eval (.Call (.Name "range" p2) [e] [] q2) X.env)::starEach [] X.env:=by rfl):
  PEd X sd (.Call (.Name "tuple" p) [.Call (.Name "range" p2) [e] [] q2] [] pos) (.val (.tup (cG (cO n)))):= .mk fun σ F H S pins s I=>by
 refine wpAny_Call_Name_kw (oZ I hg hm PyProof.Rows.boot_tuple (PyProof.Rows.callWith_type1 ?_ hst2 rfl)); rw [hst2]; refine Calls.spliced_cons (wpAny_Call_Name_kw (oZ I hg2 hm2 boot_range ?_)); refine PyProof.Rows.callWith_type1 (thn ((gR (te:=wE X e) gS pa_nil hst) q2 pins s σ H (fun us H1=>∃v F1,us=[v]∧StF X.K X.B₀ F1 H1 σ sd∧Same F F1∧ResOk X.K F1 H1 sd (.val (.int (n:Int))) v) I ((ha σ F H S).imp fun v H1 ⟨F1,S1,s1,q1⟩=>⟨v,F1,rfl,S1,s1,q1⟩)) fun us s1 hus=> ?_) hst rfl; obtain ⟨ws,H1,I1,rv,v,F1,rfl,S1,sF,q1⟩:=hus; obtain ⟨u,rfl,ru⟩:=qE rv; simp only [ResOk,Rep] at q1; subst q1; obtain ⟨t,rfl⟩:=ru; refine call_range_1 (Calls.spliced_nil ?_); refine xH (I1.ok.hd hc) (IsRange.new ..) h1 fun h' tk acc kp it=> ?_
 have kp2:∀b o,s1.heap.get? b=some o→h'.get? b=some o:=fun b o g=>kp b o (aM _ g)
 have le:s1.heap.objs.size≤h'.objs.size:=eX (bB (kp s1.heap.objs.size _ (bW _ rfl))); have hD:H1 h'.objs.size=none:=I1.hok.fresh le; have ln:acc.toList.length=n:=by rw [cQ]; exact it.1
 have vl:Vals ((cO n).map fun (k:Nat)=>V.int (k:Int)) acc.toList:=by
  have g:∀ (l:List Value) (f:Nat→Int),(∀ (j:Nat) (v:Value),l[j]? =some v→∃t,v= .int (f j) t)→Vals ((cO l.length).map fun (k:Nat)=>V.int (f k)) l:=fun l=>by
   induction l with
   | nil=>intro f _; exact .nil
   | cons x l ih=>intro f h; obtain ⟨t,e⟩:=h 0 x rfl; rw [cM,List.range_succ_eq_map,bQ,bM]; exact .cons ⟨t,e⟩ (ih (fun k=>f (k+1)) fun j v hv=>h (j+1) v (by simpa using hv))
  have:=g acc.toList (fun k=>(k:Int)) fun j v hv=>by obtain ⟨t,e⟩:=it.2 j v (by rw [← eG]; exact hv); exact ⟨t,by rw [e]; congr 1; omega⟩
  rw [ln] at this; exact this
 have I3:Inv X pins σ (upd H1 h'.objs.size (.tup ((cO n).map fun (k:Nat)=>V.int (k:Int)))) {s1 with heap:=h'.push {cls:= .type "tuple",data:= .seq acc},toks:=tk}:=
  I1.laid (fun b o g=>aM _ (kp2 b o g)) le ⟨by rw [aG,kQ]; exact eX (gW h1),acc.toList,vl,by simpa using IsTupD.new h' acc⟩
 obtain ⟨S4,s4⟩:=S1.lay (o:= .tup ((cO n).map fun (k:Nat)=>V.int (k:Int))) hD trivial; refine ⟨.ref h'.objs.size,_,I3,rfl,_,S4,sF.trans s4, ?_⟩; simp only [ResOk,Rep]; refine ⟨_,_,rfl,dD, ?_⟩
 have gg:∀ks:List Nat,RepL X.K (upd F1 h'.objs.size (.tup ((cO n).map fun (k:Nat)=>V.int (k:Int)))) (ks.map fun (k:Nat)=>D.int (k:Int)) (ks.map fun (k:Nat)=>V.int (k:Int)):=fun ks=>by
  induction ks with
  | nil=>exact .nil
  | cons k ks ih=>exact .cons (by simp only [Rep]) ih
 exact gg _
end
noncomputable def mx1 (c:Int) (k:Nat):Int:=(c%2147483647+69621 * (k:Int)+7919) * 48271%2147483647
noncomputable def mx2 (c:Int) (k:Nat):Int:=mx1 c k * mx1 c k%2147483629
noncomputable def mxS (c:Int) (k:Nat):Int:=if c%2=0 then c / ((2^(8 * k+1):Nat):Int) else (mx2 c k * mx2 c k+16807 * (k:Int))%2147483587
noncomputable def CMx:List D→R→Prop:=fun ds r=>∃ (c:Int) (k:Nat),ds=[.int c, .int (k:Int)]∧k≤400∧r= .val (.int (mxS c k))
noncomputable def CLw45:List D→R→Prop:=fun ds r=>∃p q ws,qP p q∧Fil p ws∧ds=[dI p,sqD q,bT ws]∧r= .val (.int (nwQ p q ws))
noncomputable def CAft45:List D→R→Prop:=fun ds r=>∃p q ws,qP p q∧Fil p ws∧ds=[dI p,sqD q,bT ws]∧r= .val (bT (onQ p q ws))
noncomputable def drQ (p:Int × Int) (c:Int):SQ:=((mxS c 1%10).toNat,mxS c 2%p.2,mxS c 4%p.2,mxS c 3%((2^p.1.toNat:Nat):Int))
noncomputable def CDr45:List D→R→Prop:=fun ds r=>∃p c,p∈dH∧ds=[dI p, .int c]∧r= .val (sqD (drQ p c))
theorem drQ_ok {p:Int × Int} (hp:p∈dH) (c:Int):qP p (drQ p c):=by
 obtain ⟨h1,h2,h3,h4,h5⟩:=sS p hp; have p20:(0:Int)<p.2:=by omega
 have m0:=pw0 p.1.toNat; have d1:=dQ (mxS c 1) (show (0:Int)<10 by decide); exact ⟨hp,by show (mxS c 1%10).toNat<10; omega,⟨eU _ (mQ p20),dQ _ p20⟩,⟨eU _ (mQ p20),dQ _ p20⟩,⟨eU _ (mQ m0),dQ _ m0⟩⟩
theorem lG {α:Type} {f:α→D} {L:List α} {t:Nat} {d:D} (h:(L.map f)[t]? =some d):∃x,L[t]? =some x∧d=f x∧L.take (t+1)=L.take t++[x]:=by rw [bG] at h; obtain ⟨x,h1,h2⟩:=gP.mp h; exact ⟨x,h1,h2.symm,by rw [gF,h1]; rfl⟩
theorem nd_take {α:Type} {L:List α} (nd:L.Nodup) {t:Nat} {x:α} (h:L[t]? =some x):x∉L.take t:=fun z=>by
 obtain ⟨i,hi,e⟩:=fR z; have il:i<t:=by rw [dU] at hi; omega
 rw [List.getElem_take] at e; obtain ⟨t1,e2⟩:=aP.mp h; have:=(jE nd).mp (e.trans e2.symm); omega
theorem filA_nd45 {p:Int × Int} (hp:p∈dH):(eV p).Nodup:=by
 have e:(eV p).map (sN p)=cO (eV p).length:=by
  refine oS (by simp) fun i h1 h2=> ?_
  have hi:i<(eV p).length:=by simpa using h1
  rw [eA,List.getElem_range]; have:=num_at hp hi; simpa [cY,hi] using this
 have nd:((eV p).map (sN p)).Nodup:=by rw [e]; exact List.nodup_range
 exact List.Pairwise.of_map _ (fun a b h z=>h (by rw [z])) nd
noncomputable def inK (ws:List Int):List Key:=ws.map fun (i:Int)=>(Sum.inl i:Key)
theorem inK_D (ws:List Int):tD (inK ws)=bT ws:=by unfold tD inK bT; rw [bM]; rfl
theorem yY:∀ {a b:List Int},inK a=inK b→a=b
 | [],[],_=>rfl
 | [],_::_,h=>by cases h
 | _::_,[],h=>by cases h
 | x::a,y::b,h=>by
  have h:(Sum.inl x:Key)::inK a=(Sum.inl y:Key)::inK b:=h; injection h with h1 h2
  rw [yY h2,Sum.inl.inj h1]
theorem pG:∀ {a b:List (List Int)},a.map inK=b.map inK→a=b
 | [],[],_=>rfl
 | [],_::_,h=>by cases h
 | _::_,[],h=>by cases h
 | x::a,y::b,h=>by
  rw [bQ,bQ] at h; injection h with h1 h2
  rw [pG h2,yY h1]
noncomputable def mgD (P:Program) (w:World) (K:aD) (p:Int × Int) (s:SK):D:=gD (hkT P w) K ((eV p).map inK) ((eV p).map fun ws=>bT (onQ p s.1 ws))
noncomputable def CLMv (P:Program) (w:World) (K:aD):List D→R→Prop:=fun ds r=>∃p L,p∈dH∧StkOk p L∧ds=[dI p, .lst (L.map skD)]∧r= .own (L.map (mgD P w K p))
noncomputable def vV (L:List SK) (q:SQ):Bool:=(L.map fun s=>sqD s.1).any fun z=>deq z (sqD q)
theorem sqIn_no {L:List SK} {q:SQ} (h:vV L q=false):sqD q∉L.map fun s=>sqD s.1:=fun hm=>by
 unfold vV at h; have:=List.any_eq_false.mp h _ hm
 exact this (deq_refl _ (by
  show pl (iE _ _ _ _)=true; unfold iE
  split
  ·rfl
  ·split<;>rfl))
namespace S45
section
variable {T:Type} [DecidableEq T] {n:Nat} {pr:Nat→Int} {beh:Nat→T→T} {t0:T}
theorem len_pr:∀ (row:List Nat),(∀k∈row,1≤pr k)→(row.length:Int)≤prQ pr row
 | [],_=>Int.le_refl _
 | k::row,h=>by
  have:=len_pr row fun j hj=>h j (aQ _ hj)
  have h1:=h k aR; show ((row.length+1:Nat):Int)≤(pr k::row.map pr).sum; rw [List.sum_cons]; have:prQ pr row=(row.map pr).sum:=rfl; omega
end
end S45
noncomputable abbrev St45:=List Bk × S45.Lay (List (List Int))
noncomputable def tbK (t:List (List Int)):List (List Key):=t.map inK
theorem tbK_D (t:List (List Int)):D.tup ((tbK t).map tD)= .tup (t.map bT):=by
 unfold tbK; rw [bM]; congr 1; refine cR fun ws _=> ?_
 exact inK_D ws
noncomputable def ksE (B:List Bk):List (List (List Key)):=B.map fun e=>tbK e.2.2
section
variable {p:Int × Int} {L:List SK}
theorem StkOk.pr (S:StkOk p L):∀k,k<L.length→1≤prK L k:=fun k hk=>(S.st _ (DL.getD_mem (d:=(default:SK)) hk)).2.1
theorem vO (hp:p∈dH) (S:StkOk p L) {row:List Nat} (h:gY L row):∀ws∈S45.tabQ (qA p L) (eV p) row,ws∈eV p:=fun ws hw=>by obtain ⟨q1,q2⟩:=xP hp (fun s hs=>(S.st s hs).1) h; rw [← q2] at hw; obtain ⟨i,hi,rfl⟩:=bH.mp hw; exact DL.getD_mem (q1.2 i hi)
theorem yS (hp:p∈dH) (S:StkOk p L) {row:List Nat} (h:gY L row):(S45.tabQ (qA p L) (eV p) row).length≤64:=by obtain ⟨q1,q2⟩:=xP hp (fun s hs=>(S.st s hs).1) h; rw [← q2]; unfold jO; rw [aG,q1.1]; exact pV hp
end
end DL
namespace L2
open PySem PySem.Spec PyProof.Rows
end L2
namespace DL
open PySem PySem.Spec PyProof.Rows L2
section
variable {X:Cx} {sd:List Slot} {a b c e:Expr} {pos:Pos} {ds:List D} {d:D}
theorem ptd_chain45 {op op':CmpOp} {g g':Int→Int→Bool} {i j l:Int} (ho:OpR X (compareOp op) (rI0 fun i j=> .bl (g i j))) (ho':OpR X (compareOp op') (rI0 fun i j=> .bl (g' i j))) (ha:PEd X sd a (.val (.int i))) (hb:PEd X sd b (.val (.int j))) (hc:PEd X sd c (.val (.int l))) (hm:lastMarks [op,op'] [b,c]=false:=by with_unfolding_all rfl):PTd X sd (.Compare a [op,op'] [b,c] pos) (g i j && g' j l):= .mk fun σ F H S=>
 (pt_chain ho ho' gS gS gS hm).to ((ha σ F H S).imp fun v H1 ⟨F1,S1,s1,q1⟩=>(hb σ F1 H1 S1).imp fun u H2 ⟨F2,S2,s2,q2⟩=>by
  simp only [ResOk,Rep] at q1 q2; refine ⟨i,j,q1,q2,g i j,rfl, ?_⟩; cases hk:g i j with
  | true=>
   rw [if_pos rfl]; refine (hc σ F2 H2 S2).imp fun w H3 ⟨F3,S3,s3,q3⟩=> ?_
   simp only [ResOk,Rep] at q3; exact ⟨j,l,q2,q3,_,rfl,by simp,F3,S3,s1.trans (s2.trans s3)⟩
  | false=>
   rw [if_neg (by decide)]
   exact ⟨_,rfl,by simp,F2,S2,s1.trans s2⟩)
end
section
variable {prog:Program} {w:World} {K:Type} [DecidableEq K] {knd:HeapKind prog w K} {A:Around} {E:Value→Shared→Prop} {s:Shared}
theorem zM {d a:Addr} {xs:List (K × Addr × Value)} {k:K} {j:Nat} {p:Addr × Value} {Q:Option DictEntry→Shared→Prop} (hu:knd.room A) (hkey:knd.is s.heap k a) (hm:s.heap.DictOfH knd d xs) (hj:xs[j]? =some (k,p))
  (hQ:∀h',h'.DictOfH knd d (xs.eraseIdx j)→Heap.SameBut d s.heap h'→Q (some (entryOfKey knd (k,p))) {s with heap:=h',toks:=s.toks+knd.draws k})
  (hsz:xs.length≤sizeLine):
  wpAny (model prog w) A (Builtin.Dict.takeOut d (.ref a)) Q E s:=by
 obtain ⟨o,es,ep,ho,hc,hd,he,his,hn⟩:=hm; have hes:es.size≤sizeLine:=by have e:=size_of_entries he; omega
 unfold Builtin.Dict.takeOut
 try with_reducible refine wpAny_holding ?_
 refine wpAny_bind (knd.pyHash hu hkey ?_); refine wpAny_bind (wpAny_dictFind_heap (s:={s with toks:=s.toks+knd.draws k}) hu hkey ho hd he his hn (fun no=>absurd hj (no j p)) fun j' p' hj'=> ?_)
 have ej:j'=j:=by obtain ⟨i1,e1⟩:=aP.mp hj'; obtain ⟨i2,e2⟩:=aP.mp hj; refine (jE (i:=j') (j:=j) (h₀:=by rw [aG]; exact i1) (h₁:=by rw [aG]; exact i2) hn).mp ?_; rw [eA,eA,e1,e2]
 subst ej; rw [hj] at hj'; cases hj'; refine wpAny_bind (wpAny_dictEntries (s:={s with toks:=s.toks+knd.draws k}) ho hd ?_); rw [entry_at he j',hj]; refine wpAny_bind (wpAny_updateDictKeys (hz:=hes) (s:={s with toks:=s.toks+knd.draws k}) ho hd (wpAny_pure (hQ _ ⟨_,_,ep+1,iR _ ho (Obj.isFreed_of_dict (Obj.data_mapDictKeys hd _)),hc.mapDictKeys _,Obj.data_mapDictKeys hd _, ?_,fun x hx=> ?_, ?_⟩ (Heap.SameBut.update ..))))
 ·have:(es.eraseIdxIfInBounds j').toList=es.toList.eraseIdx j':=by obtain ⟨l⟩:=es; simp
  rw [this,he,yB]
 ·exact knd.keeps (his x (jS hx)) ho hd (Heap.SameBut.update ..)
 ·exact hn.sublist ((pX _ _).map _)
end
section
variable {prog:Program} {w:World} {K:Type} [DecidableEq K] (knd:HeapKind prog w K) (d a:Addr)
theorem meetsH_pop:
  MeetsIn prog w (Builtin.«dict.pop» ⟨[.ref d, .ref a],[]⟩) (fun A R s=>knd.room A.in1∧∃k xs j p,knd.is s.heap k a∧s.heap.DictOfH knd d xs∧xs.length≤sizeLine∧xs[j]? =some (k,p)∧
   ∀h',h'.DictOfH knd d (xs.eraseIdx j)→Heap.SameBut d s.heap h'→R (.ok (.ret p.2)) {s with heap:=h',toks:=s.toks+knd.draws k}):=
 .of_wp fun A R s ⟨hu,k,xs,j,p,hkey,hm,hz,hj,h⟩=>by
  unfold Builtin.«dict.pop»; refine wpAny_bind ?_; unfold Builtin.Dict.keyAndDefault; refine wpAny_bind (wpAny_notOrdered_dict hm.typeIs ?_); show wpAny _ _ (pure (d,Value.ref a,none)) _ _ s; refine wpAny_pure ?_; have hp:(keyPart (Value.ref a)).isSome=false:=rfl; simp only [hp,cP,if_false]; obtain ⟨o,es,ep,ho,hc,hd,he,his,hn⟩:=id hm; refine wpAny_bind (wpAny_dictEntries ho hd (wpAny_bind (wpAny_pure ?_)))
  have ne:es.isEmpty=false:=by have e:=size_of_entries he; have:=(aP.mp hj).1; rw [Array.isEmpty_eq_false_iff_exists_mem]; exact ⟨es[0],Array.getElem_mem (by omega)⟩
  simp only [ne,cP,if_false]; refine wpAny_bind (zM hu hkey hm hj (fun h' hm' hs'=> ?_) hz); simp only [Option.isNone_some,cP,if_false]; exact wpAny_bind (wpAny_letGo (wpAny_pure ⟨_,rfl,h h' hm' hs'⟩))
end
section
variable {X:Cx} {pins:List (Addr × Obj)} {σ:St} {H:Hp} {s:Shared} {sts:List Stmt}
noncomputable abbrev reB (X:Cx) (B:Hp) (h:∀b o,X.H₀ b=some o→Hard o→B b=some o):Cx:={X with B₀:=B,hB:=h}
theorem inv_toB {B:Hp} {hb:∀b o,X.H₀ b=some o→Hard o→B b=some o} (I:Inv X pins σ H s):Inv (reB X B hb) pins σ H s:=
 ⟨⟨I.ok.mod,I.ok.kind,I.ok.glob,I.ok.blt,I.ok.above,I.ok.inj,I.ok.has,I.ok.cab,I.ok.hd,I.ok.frames,I.ok.stk,I.ok.exf,I.ok.bs,I.ok.bsz,I.ok.noex,I.ok.exfs,I.ok.funs,I.ok.frf⟩,I.os,I.bare,I.base,I.loc,I.cell,I.free,I.freeC,I.pin,I.hok,I.len⟩
theorem uT {B:Hp} {hb:∀b o,X.H₀ b=some o→Hard o→B b=some o} (I:Inv (reB X B hb) pins σ H s):Inv X pins σ H s:=
 ⟨⟨I.ok.mod,I.ok.kind,I.ok.glob,I.ok.blt,I.ok.above,I.ok.inj,I.ok.has,I.ok.cab,I.ok.hd,I.ok.frames,I.ok.stk,I.ok.exf,I.ok.bs,I.ok.bsz,I.ok.noex,I.ok.exfs,I.ok.funs,I.ok.frf⟩,I.os,I.bare,I.base,I.loc,I.cell,I.free,I.freeC,I.pin,I.hok,I.len⟩
theorem pss_ofB {B:Hp} {hb:∀b o,X.H₀ b=some o→Hard o→B b=some o} {D:uF} (h:wSs (reB X B hb) sts D σ H):wSs X sts D σ H:=fun pins s I=>thn (h pins s (inv_toB I)) fun f s' q=>by
 cases f with
 | next=>obtain ⟨σ',H',I',q⟩:=q; exact ⟨σ',H',uT I',q⟩
 | brk=>obtain ⟨σ',H',I',q⟩:=q; exact ⟨σ',H',uT I',q⟩
 | cont=>obtain ⟨σ',H',I',q⟩:=q; exact ⟨σ',H',uT I',q⟩
 | ret u=>obtain ⟨v,σ',H',I',r,q⟩:=q; exact ⟨v,σ',H',uT I',r,q⟩
end
noncomputable def spP (K:aD) (n:Nat) (C:List D→List D→R→Prop):Sp:=fun vs H Q _=>vs.length=n∧∃ (l:Addr) (us:List V) (F:Hp) (xs:List V) (ds0 ds:List D) (r:R),vs= .ref l::us∧F l=none∧H=upd F l (.lst xs)∧Smp F∧RepL K F ds0 xs∧RepL K F ds us∧C ds0 ds r∧∀v H',RetOk K F H' r v→Q v H'
structure CalleeP (P:Program) (w:World) (K:aD) (mg:Str→Option Value) (base:Heap) (x:Str) (k n:Nat) (C:List D→List D→R→Prop):Prop where
 ex:∃ (f:Addr) (fd:FuncData) (ps:List Str),mg x=some (.ref f)∧bA K (.ref f)=true∧Binds K fd ps []∧FnOk P w K mg base CX0 k f fd ps (spP K n C)
structure Lent (K:aD) where
 α:Type
 ad:α→Addr
 own:α→List Addr
 G:α→V→Hp→Hp→Prop
 hv:∀ {a:α} {v:V} {F H:Hp},G a v F H→v= .ref (ad a)
noncomputable def Lent.sl {K:aD} (Z:Lent K) (a:Z.α):Slot:= .ox (Z.own a) (Z.G a)
section
variable {K:aD} (Z:Lent K)
noncomputable def spL (n:Nat) (C:Z.α→List D→(Z.α→Prop)→Prop):Sp:=fun vs H Q _=>vs.length=n∧∃ (v:V) (us:List V) (F:Hp) (a:Z.α) (ds:List D) (post:Z.α→Prop),vs=v::us∧Same F H∧(∀b,b∉Z.own a→H b=F b)∧Smp H∧iJ K F H (Z.sl a) (some v)∧(Z.own a).Nodup∧RepL K F ds us∧C a ds post∧(∀a',post a'→Z.ad a'=Z.ad a)∧
 ∀H',(∃F' a',post a'∧Same F F'∧Same F' H'∧Smp H'∧iJ K F' H' (Z.sl a') (some v)∧(Z.own a').Nodup)→Q .non H'
noncomputable def spM (n:Nat) (C:Z.α→List D→(Z.α→Prop)→Prop):Sp:=fun vs H Q _=>vs.length=n∧Smp H∧∃ (v:V) (us:List V) (F:Hp) (a:Z.α) (ds:List D) (post:Z.α→Prop),vs=v::us∧Same F H∧iJ K F H (Z.sl a) (some v)∧(Z.own a).Nodup∧RepL K F ds us∧C a ds post∧(∀a',post a'→Z.ad a'=Z.ad a)∧
 ∀F' H' a',post a'→Same F F'→Same F' H'→Smp H'→iJ K F' H' (Z.sl a') (some v)→(Z.own a').Nodup→(∀b o,b∉Z.own a→H b=some o→H' b=some o)→(∀b o,b∉Z.own a→H b=some o→F b=none→F' b=none∧b∉Z.own a')→Q .non H'
end
open Classical in
noncomputable def vD (as:List Addr) (F H:Hp):Hp:=fun b=>if b∈as then H b else F b
open Classical in
noncomputable def mM (as:List Addr) (F H:Hp):Hp:=fun b=>if b∈as then F b else sG F H b
theorem nV {as:List Addr} {F H:Hp}:Same F (mM as F H):=fun b o e=>by
 unfold mM
 by_cases h:b∈as
 ·rw [if_pos h]; exact e
 ·rw [if_neg h]; exact sE _ _ e
theorem rJ {as:List Addr} {F H:Hp} {b:Addr} (hb:b∉as) (h:F b=none):mM as F H b=H b:=by unfold mM; rw [if_neg hb]; exact rS h
theorem yX {as:List Addr} {F H:Hp} {b:Addr} (hb:b∈as):vD as F H b=H b:=by unfold vD; rw [if_pos hb]
theorem rP {as:List Addr} {F H:Hp} {b:Addr} (hb:b∉as):vD as F H b=F b:=by unfold vD; rw [if_neg hb]
theorem FnOk.framedL {P:Program} {w:World} {K:aD} {Z:Lent K} {mg:Str→Option Value} {base:Heap} {k n:Nat} {f:Addr} {fd:FuncData} {ps:List Str} {C:Z.α→List D→(Z.α→Prop)→Prop} (G:FnOk P w K mg base CX0 k f fd ps (spL Z n C)):FnOk P w K mg base CX0 k f fd ps (spM Z n C):=by
 have res:∀ {F H:Hp} {a:Z.α} {v:V},Same F H→iJ K F H (Z.sl a) (some v)→Same F (vD (Z.own a) F H)∧Same (vD (Z.own a) F H) H∧iJ K F (vD (Z.own a) F H) (Z.sl a) (some v):=fun {F H a v} sF so=>by
  obtain ⟨v',ev,ow,gg⟩:=so; refine ⟨fun b o e=> ?_,fun b o e=> ?_,v',ev,fun b hb=>⟨(ow b hb).1, ?_⟩,fun F' H' s k=>gg F' H' s fun b hb ob e=>k b hb ob (by rw [yX hb]; exact e)⟩
  ·by_cases h:b∈Z.own a
   ·rw [(ow b h).1] at e; cases e
   ·rw [rP h]; exact e
  ·by_cases h:b∈Z.own a
   ·rw [yX h] at e; exact e
   ·rw [rP h] at e; exact sF b o e
  ·rw [yX hb]; exact (ow b hb).2
 refine ⟨fun vs H Q E h=> ?_,fun A outer s H args us vs Q E hr e0 hb rv h=> ?_⟩
 ·obtain ⟨hl,sm,v,us,F,a,ds,post,e,sF,so,nd,rl,c,hp,_⟩:=h; obtain ⟨q1,q2,q3⟩:=res sF so; exact G.len vs (vD (Z.own a) F H) (fun _ _=>True) E ⟨hl,v,us,F,a,ds,post,e,q1,fun b hb=>rP hb,sm.sub q2,q3,nd,rl,c,hp,fun _ _=>trivial⟩
 ·obtain ⟨hl,sm,v,us',F,a,ds,post,ev,sF,so,nd,rl,c,hp,q⟩:=h; obtain ⟨q1,sU,q3⟩:=res sF so; obtain ⟨_,_,ow,_⟩:=id so; have nU:∀b,b∉Z.own a→F b=none→vD (Z.own a) F H b=none:=fun b hbl n=>by rw [rP hbl]; exact n
  have e1:Env0 P w K mg base A outer s (vD (Z.own a) F H):=⟨e0.frames,e0.mod,fun b o e=>⟨(e0.bs b o e).1,sU.free (e0.bs b o e).2⟩,e0.bsz,e0.funs,fun b hb=>sU.free (e0.frf b hb),fun b o e=>(e0.hok b o (sU b o e)).smp (sm b o (sU b o e)),e0.bare⟩; refine codeAny_mono (G.run A outer s (vD (Z.own a) F H) args us vs (fun v3 F3=>v3= .non∧∃F' a',post a'∧Same F F'∧Same F' F3∧Smp F3∧iJ K F' F3 (Z.sl a') (some v)∧(Z.own a').Nodup) E hr e1 hb rv ⟨hl,v,us',F,a,ds,post,ev,q1,fun b hb=>rP hb,sm.sub sU,q3,nd,rl,c,hp,fun H' z=>⟨rfl,z⟩⟩) fun rr s' hrr=> ?_
  cases rr with
  | error e=>exact hrr
  | ok flw=>
   cases flw with
   | ret u=>
    obtain ⟨v3,F3,ho,ha,un,hk,ru,e3,F2,a',pa,s1,s2,sm3,so3,nd3⟩:=hrr; subst e3
    have keepF:∀b o,b∉Z.own a→H b=some o→F b=none→F3 b=none:=fun b o hbl e n=>by
     have lt:=e0.hok.lt e; cases g:s.heap.get? b with
     | none=>
      exfalso; have ob:=e0.hok b o e; have z:=sm b o e; cases o with
      | lst xs=>obtain ⟨_,_,_,_,g'⟩:=ob; rw [g] at g'; cases g'
      | tup xs=>obtain ⟨_,_,_,oo,g',_⟩:=ob; rw [g] at g'; cases g'
      | dK kvs=>obtain ⟨_,_,_,_,oo,_,_,g',_⟩:=ob; rw [g] at g'; cases g'
      | frz o2 u2=>obtain ⟨g',_⟩:=ob; rw [g] at g'; cases g'
      | ext φ=>obtain ⟨_,⟨oo,g'⟩,_⟩:=ob; rw [g] at g'; cases g'
      | _=>exact z
     | some ob=>exact un.free b ob g (nU b hbl n) (by simp)
    have keepO:∀b o,b∉Z.own a→H b=some o→F b=none→∀ob,s.heap.get? b=some ob→s'.heap.get? b=some ob:=fun b o hbl e n ob g=>un.keep b ob g (nU b hbl n) (fun hb=>by have:=e0.frf b hb; rw [e] at this; cases this) (by simp)
    have sH:∀b o,b∉Z.own a→H b=some o→mM (Z.own a) F3 H b=some o:=fun b o hbl e=>by
     cases g:F b with
     | none=>rw [rJ hbl (keepF b o hbl e g)]; exact e
     | some o'=>have:=sF b o' g; rw [e] at this; cases this; exact nV _ _ (s2 _ _ (s1 _ _ g))
    have nl:∀ {b:Addr} {o:HO},H b=some o→¬ Wr b o→b∉Z.own a:=fun e no z=>by obtain ⟨_,ob,g,wr⟩:=ow _ z; rw [e] at g; cases g; exact no wr
    have nn:∀ {b:Addr},H b=none→b∉Z.own a:=fun e z=>by obtain ⟨_,ob,g,_⟩:=ow _ z; rw [e] at g; cases g
    have smM:Smp (mM (Z.own a) F3 H):=fun b o e=>by
     by_cases hbl:b∈Z.own a
     ·unfold mM at e; rw [if_pos hbl] at e; exact sm3 _ o e
     ·cases g:F3 b with
      | some o'=>have:=nV (as:=Z.own a) (H:=H) b o' g; rw [e] at this; cases this; exact sm3 b o g
      | none=>rw [rJ hbl g] at e; exact sm b o e
    have soM:iJ K F2 (mM (Z.own a) F3 H) (Z.sl a') (some v):=by obtain ⟨v',ev,ow3,gg⟩:=so3; refine ⟨v',ev,fun b hb=>⟨(ow3 b hb).1, ?_⟩,fun F' H' s k=>gg F' H' s fun b hb ob e=>k b hb ob (nV _ _ e)⟩; obtain ⟨_,ob,g,wr⟩:=ow3 b hb; exact ⟨ob,nV _ _ g,wr⟩
    refine ⟨.non,mM (Z.own a) F3 H,ho,ha,⟨fun b o g n hb hx=>un.keep b o g (sU.free n) hb hx,fun b o g n hb hx=>un.slot b o g (sU.free n) hb hx,fun b o g n hx=> ?_,un.there,fun b xs e=>sH _ _ (nl e fun z=>z) e,fun b o u e=>sH _ _ (nl e fun z=>z) e,fun b ps e=>⟨#[],by rw [sH _ _ (nl e fun z=>z) e]; simp⟩⟩,fun b o e=> ?_,ru, ?_⟩
    ·rw [rJ (nn n) (un.free b o g (sU.free n) hx)]; exact n
    ·have z:=smM b o e
     by_cases hbl:b∈Z.own a
     ·have e':F3 b=some o:=by unfold mM at e; rw [if_pos hbl] at e; exact e
      exact (hk b o e').smp z
     ·cases g:F3 b with
      | some o'=>have:=nV (as:=Z.own a) (H:=H) b o' g; rw [e] at this; cases this; exact (hk b o g).smp z
      | none=>
       rw [rJ hbl g] at e
       have n:F b=none:=by
        cases g2:F b with
        | none=>rfl
        | some o2=>rw [s2 _ _ (s1 _ _ g2)] at g; cases g
       have st:=(e0.hok b o e).smp (F:=fun _=>none) z
       have:ObjOk P w (fun _=>none) s'.heap b o:=st.stay (fun b2 u hb2 gg=>by
        rcases hb2 with rfl | hb2
        ·exact keepO _ o hbl e n u gg
        ·cases hb2) (fun b2 hb2=>nomatch hb2) fun b2 xs hb2=>nomatch hb2
       exact this.smp z
    ·refine q F2 (mM (Z.own a) F3 H) a' pa s1 (s2.trans nV) smM soM nd3 sH fun b o hbl e n=> ?_
     have n3:=keepF b o hbl e n; refine ⟨s2.free n3,fun hb=> ?_⟩; obtain ⟨_,_,ow3,_⟩:=so3; obtain ⟨_,ob,g,_⟩:=ow3 b hb; rw [n3] at g; cases g
   | _=>exact hrr
theorem qL:∀ {sd:List Slot} {i:Nat} {z:Slot},(dC sd).Nodup→sd[i]? =some z→(iA z).Nodup
 | [],_,_,_,e=>by simp at e
 | y::zs,0,z,h,e=>by
  have:y=z:=by simpa using e
  subst this; exact (bY.mp (show (iA y++dC zs).Nodup from h)).1
 | y::zs,i+1,z,h,e=>qL (sd:=zs) (i:=i) (bY.mp (show (iA y++dC zs).Nodup from h)).2.1 (by simpa using e)
structure uS (P:Program) (w:World) (K:aD) (Z:Lent K) (mg:Str→Option Value) (base:Heap) (x:Str) (k n:Nat) (C:Z.α→List D→(Z.α→Prop)→Prop):Prop where
 ex:∃ (f:Addr) (fd:FuncData) (ps:List Str),mg x=some (.ref f)∧bA K (.ref f)=true∧Binds K fd ps []∧FnOk P w K mg base CX0 k f fd ps (spL Z n C)
noncomputable def zI {K:aD} (Z:Lent K) (n:Nat) (a:Z.α) (ds:List D):List Slot:=Z.sl a::(ds.map Slot.val++gK (n - (ds.length+1)) .un)
theorem def_okL {P:Program} {w:World} {K:aD} {Z:Lent K} {mg:Str→Option Value} {base:Heap} {x qual:Str} {st:Stmt} {f:Addr} {fd:FuncData} {N ps:List Str} {k:Nat} {C:Z.α→List D→(Z.α→Prop)→Prop} (F:Fun K x qual st f fd) (S:pR N ps (aV st))
  (hm:mg x=some (.ref f)) (hb:∀ (kV doc pm:Value) (an:Option Addr) (cdv ct:Value) (us:List Value),us.length=ps.length→bindArgs (bN x qual (dF st) (cT st) (aV st) .none kV doc pm an cdv ct) ⟨us,[]⟩=pure (ps.zip us))
  (body:∀ (cdv:Value) (A:Around) (outer:List Env) (s:Shared) (H:Hp) (E:XK) (B:Hp) (hB:∀b o,H b=some o→Hard o→B b=some o),Room k (A.deeper (envOfC qual (aV st) s.heap.objs.size f cdv))→∀a ds post,ds.length+1=ps.length→C a ds post→
   PSd (reB (lE CX0 P w K mg base N qual (aV st) f cdv A outer s H E).nox B hB) (zI Z N.length a ds) (cT st) {nx:=fun sd'=>∃a',post a'∧sd'[0]? =some (Z.sl a'),rt:=fun _=>False})
  (hw:∀ (a:Z.α) (v:V) (F H:Hp) (b:Addr) (o:HO),Z.G a v F H→b∈Z.own a→H b=some o→¬ Hard o):uS P w K Z mg base x (k+1) ps.length C:=by
 refine ⟨f,fd,ps,hm,F.kp,F.binds hb,F.ok S (fun vs H Q E h=>h.1) fun cdv A outer s H vs Q E hr h=> ?_⟩; obtain ⟨hl,v,us,F0,a,ds,post,rfl,sF,hH,sm,so,nd,rl,c,hp,q⟩:=h; have hds:ds.length+1=ps.length:=by rw [← rl.len]; exact hl
 have hB:∀b o,H b=some o→Hard o→F0 b=some o:=fun b o e no=>by
  by_cases hbl:b∈Z.own a
  ·obtain ⟨_,_,_,gg⟩:=so; exact absurd no (hw a _ F0 H b o (gg F0 H (Same.refl _) fun _ _ _ e=>e) hbl e)
  ·rw [← hH b hbl]; exact e
 refine ⟨_,uA,pss_ofB (B:=F0) (hb:=hB) ?_⟩; have hlen:N.length - (us.length+1)=N.length - (ds.length+1):=by rw [rl.len]
 have S0:StF K F0 F0 H (L2.start N (v::us)) (zI Z N.length a ds):=by
  refine ⟨Same.refl _,sF,sm, ?_, ?_⟩
  ·unfold L2.start zI; show SlotsOk K F0 _ (_::_) (some v::(us.map some++gK (N.length - (us.length+1)) none)); rw [hlen]; exact ⟨_,_,rfl,so,qU (m:=0) rl⟩
  ·unfold zI; rw [qR,qQ,dY]; exact nd
 refine (body cdv A outer s _ E F0 hB hr a ds post hds c (L2.start N (v::us)) F0 _ S0).imp ?_ ?_ (fun _ _ ⟨_,_,_,_,z⟩=>z) fun _ _ ⟨_,_,_,_,z⟩=>z
 ·rintro σ' H' ⟨sd',F',S',s',a',pa,hs⟩; obtain ⟨o,h1,so'⟩:=S'.slots.get hs; obtain ⟨v',rfl,ow',gg⟩:=so'; have e1:=Z.hv (gg F' H' (Same.refl _) fun _ _ _ e=>e); obtain ⟨v0,ev,_,g0⟩:=so; cases ev; have e0:=Z.hv (g0 F0 H (Same.refl _) fun _ _ _ e=>e); have evv:v'=v:=by rw [e1,e0,hp a' pa]
  subst evv; refine q H' ⟨F',a',pa,S'.base,S'.sub,S'.smp,⟨v',rfl,ow',gg⟩, ?_⟩; have nd':=S'.nd; exact qL nd' hs
 ·rintro v' H' ⟨r',ro,e⟩; exact e.elim
section
variable {X:Cx} {sd:List Slot} {c:Expr} {es:List Expr} {pos cp p p2:Pos} {ds:List D} {E:jP} {k n:Nat} {f x:Str}
theorem psd_callL {Z:Lent X.K} {C:Z.α→List D→(Z.α→Prop)→Prop} {post:Z.α→Prop} {a:Z.α} (i:Nat) (hs:sd[i]? =some (Z.sl a)) (hxi:PE X (.Name x p2) (lY i)) (G:uS X.prog X.w X.K Z X.mg X.base f k n C) (hr:Room k X.A) (hg:Gl X f) (ha:PAd X sd es (ds.map R.val)) (hc:C a ds post) (hp:∀a',post a'→Z.ad a'=Z.ad a) (hn:ds.length+1=n) (hE:∀a',post a'→E.nx (sd.set i (Z.sl a')))
  (hdb:(f==("__debug__":Str))=false:=by decide) (he:starEach (.Name x p2::es) X.env=(false,eval (.Name x p2) X.env)::starEach es X.env:=by rfl) (hpl:(backTo cp (starEach es X.env)).any (·.1)=false:=by rfl)
  (hsw:swapsWith (.Call (.Name f p) (.Name x p2::es) [] cp) none pos.line X.env=pure false:=by rfl):PSd1 X sd (.Expr (.Call (.Name f p) (.Name x p2::es) [] cp) pos) E:= .mk fun σ F H S=>by
 obtain ⟨fa,fd,ps,hm,hkp,bd,G⟩:=G.ex; obtain ⟨o0,h1,v,h2,_⟩:=S.slots.get hs; refine (rC (pe_call (FnOk.framedL G) hr hg hm hkp bd .nil pass0 (gR hxi zS he) hdb he hpl) hsw).to ⟨v,by rw [h1,h2],(ha σ F H S).imp fun us H1 ⟨F1,S1,s1,q1⟩=> ?_⟩; have rl:=q1.vals; obtain ⟨o1,g1,so⟩:=S1.slots.get hs
 have eo:o1=some v:=by rw [h1,h2] at g1; exact (dN.inj g1).symm
 subst eo; refine ⟨by rw [dY,cM,rl.len]; exact hn,S1.smp,v,us,F1,a,ds,post,by rw [dY],S1.sub,so,qL S1.nd hs,rl,hc,hp,fun F' H' a' pa s2 s3 sm so' nd kp kf=> ?_⟩; have S2:=S1.le (hX sd i); have no:∀b,b∈dC (sd.set i .un)→b∉Z.own a:=fun b hb z=>iS S1.nd hs (show b∈iA (Z.sl a) from z) hb
 have S3:StF X.K X.B₀ F' H' σ (sd.set i .un):=⟨fun b o e=>s2 _ _ (S1.base _ _ e),s3,sm,S2.slots.mono s2 fun b hb=>by
  obtain ⟨n1,ob,e,_⟩:=S2.slots.owns hb
  exact ⟨(kf b ob (no b hb) e n1).1,fun xs e'=>kp b xs (no b hb) e'⟩,S2.nd⟩
 have S4:=S3.setT i so' nd fun b hb hb2=>by obtain ⟨n1,ob,e,_⟩:=S2.slots.owns hb2; exact (kf b ob (no b hb2) e n1).2 hb
 rw [kE,mL g1] at S4; exact ⟨_,F',S4,s1.trans s2,hE a' pa⟩
theorem psd_while {body:List Stmt} (W:Nat→List Slot→Prop) (h0:∃m sd0,Le sd sd0∧W m sd0)
  (hb:∀m sdm,W m sdm→∃t:Bool,PTd X sdm c t∧(t=false→E.nx sdm)∧(t=true→PSd X sdm body {E with nx:=fun sd'=>∃m' sd2,m'<m∧Le sd' sd2∧W m' sd2,ct:=fun sd'=>∃m' sd2,m'<m∧Le sd' sd2∧W m' sd2,bk:=E.nx}))
  (hp:PassesOwn (model X.prog X.w) X.A X.env X.xe:=by exact PassesOwn.never):PSd1 X sd (.While c body [] pos) E:= .mk fun σ F H S=>
 (ps_while hp pt_w uA).to (by
  obtain ⟨m0,sd0,le0,q0⟩:=h0; refine ⟨fun m σ' H'=>∃sdm F',StF X.K X.B₀ F' H' σ' sdm∧Same F F'∧W m sdm,⟨m0,sd0,F,S.le le0,Same.refl _,q0⟩, ?_⟩; rintro m σ' H' ⟨sdm,F',S',s',qm⟩; obtain ⟨t,ht,h1,h2⟩:=hb m sdm qm; refine (ht σ' F' H' S').imp fun b H1 ⟨eb,F1,S1,s1⟩=> ?_
  subst eb; cases b with
  | false=>exact iteF ⟨sdm,F1,S1,s'.trans s1,h1 rfl⟩
  | true=>
   refine iteT ⟨fun σ2 H2=>∃m' sd2 F2,m'<m∧StF X.K X.B₀ F2 H2 σ2 sd2∧Same F F2∧W m' sd2,fun σ2 H2 ⟨m',sd2,F2,lt,S2,s2,w2⟩=>⟨m',lt,sd2,F2,S2,s2,w2⟩, ?_⟩; refine (h2 rfl σ' F1 H1 S1).imp ?_ ?_ ?_ ?_
   ·rintro σ4 H4 ⟨sd4,F4,S4,s4,m',sd5,lt,le,q5⟩; exact ⟨m',sd5,F4,lt,S4.le le,(s'.trans s1).trans s4,q5⟩
   ·exact fun v H4 q=>q
   ·rintro σ4 H4 ⟨sd4,F4,S4,s4,q⟩; exact ⟨sd4,F4,S4,(s'.trans s1).trans s4,q⟩
   ·rintro σ4 H4 ⟨sd4,F4,S4,s4,m',sd5,lt,le,q5⟩
    exact ⟨m',sd5,F4,lt,S4.le le,(s'.trans s1).trans s4,q5⟩)
end
theorem hok_but {P:Program} {w:World} {H:Hp} {h h':Heap} {cs:List Addr} (x:HOk P w H h) (k:∀b u,b∉cs→h.get? b=some u→h'.get? b=some u) (hn:∀b∈cs,H b=none):HOk P w H h':=fun a o e=>
 (x a o e).stay (fun b u hb q=>k b u (fun z=>by
  have n:=hn b z
  rcases hb with rfl | hb
  ·rw [e] at n; cases n
  ·rw [hb] at n
   cases n) q) (fun _ q=>q) fun _ _ q=>q
section
variable {prog:Program} {w:World} {A:Around} {d I:Addr} {od:Obj} {es:Array DictEntry} {ep:Nat}
theorem walksD (hh:A.handled=none) (c:od.data= .dict es ep) (ne:d≠I):Walks prog w A I [I,d] [I] es.size (fun i v=>∃u,es[i]? =some u∧v=u.key) (fun i h=>h.IsKeyIter I d i es.size ep∧h.get? d=some od) where
 sub:=fun b hb=>bV.mpr (.inl (aU.mp hb))
 frame:=fun i h h' st k=>by obtain ⟨⟨o,g,q⟩,g2⟩:=st; exact ⟨⟨o,k I aR o g,q⟩,k d (by simp) od g2⟩
 item:=fun i s Q E hi st q=>walk_next st.1 st.2 c hi fun h' st' sb=>q _ h' s.toks ⟨es[i],by simp [hi],rfl⟩ ⟨st',(sb.2 d ne).trans st.2⟩ fun b o hb g=>(sb.2 b fun z=>hb (by rw [z]; exact dM _)).trans g
 done:=fun s Q E st q=>walk_end hh st.1 st.2 c (aX _) fun h' eb=>q h' s.toks fun b o hb g=>eb b o (fun z=>hb (by rw [z]; exact dM _)) g
 self:=fun i s Q E st q=>wpAny_pyIter_keyiter st.1 q
theorem srcD (sm:(d==sysModules)=false) (x:od.ExactDict) (c:od.data= .dict es ep):PySem.W.KdlSrc prog w "dict" d d es.size (fun i v=>∃u,es[i]? =some u∧v=u.key) (fun h=>h.get? d=some od) where
 type:=fun s ok=>oM ok x
 there:=fun h ok=>⟨bB ok,bB ok⟩
 keep:=fun h h' ok k=>k d (.inl rfl) od ok
 notList:=by decide
 notTuple:=by decide
 hint:=fun A E s Q ok q=>PySem.W.kdl_hint_dict (oM ok x) q
 iter:=fun A s hh ok=>⟨_,_,fun E Q q=>walk_new sm ok x c q,walksD hh c (cH (bB ok)),⟨⟨_,bW _ rfl,rfl,rfl⟩,aM _ ok⟩⟩
end
section
variable {prog:Program} {w:World} {A:Around} {I:Addr} {fp wr:List Addr} {n:Nat} {P:Nat→Value→Prop} {St:Nat→Heap→Prop} {J:Heap→Prop} {bt:Nat→Nat→Bool} {R:Result→Shared→Prop} {S:Addr}
noncomputable def AskJ (prog:Program) (w:World) (A:Around) (J:Heap→Prop) (P:Nat→Value→Prop) (bt:Nat→Nat→Bool):Prop:=∀i k x y (t:Shared) (Q:Value→Shared→Prop) (E:Value→Shared→Prop),J t.heap→P i x→P k y→Q (.bool (bt i k)) t→wpAny (model prog w) A (richCompare .Lt x y) Q E t
noncomputable def StayJ (cs:List Addr) (J:Heap→Prop):Prop:=∀h h':Heap,J h→(∀b o,b∉cs→h.get? b=some o→h'.get? b=some o)→J h'
noncomputable def two2 (v:Value) (c:Nat):Obj:={cls:= .type "list",dict:=none,data:= .seq #[v,v] c,slots:= #[]}
theorem minJ_loop (W:Walks prog w A.in1 I fp wr n P St) (ask:AskJ prog w A.in1 J P bt) (stay:StayJ (S::wr) J) (nS:S∉fp):∀ (k j:Nat) (s:Shared) (v0:Value) (c:Nat),n=k+(j+1)→St (j+1) s.heap→P (argBest bt j) v0→J s.heap→s.heap.get? S=some (two2 v0 c)→
  (∀v h' tk,P (argBest bt (n - 1)) v→(∀b o,b∉S::wr→s.heap.get? b=some o→h'.get? b=some o)→R (.ok (.ret v)) {s with heap:=h',toks:=tk})→codeAny (model prog w) A (.builtin "min.loop" ⟨[.ref I, .none, .ref S],[]⟩) R s:=fun k=>by
 have nW:S∉wr:=fun z=>nS (W.sub S z)
 have nm:(toString "min"++toString ".loop":String)="min.loop":=by decide
 have upO:∀ {h:Heap} {f:Obj→Obj} {b:Addr} {o:Obj},b∉S::wr→h.get? b=some o→(h.update S f).get? b=some o:=fun {h f b o} hb g=>by rw [eC _ _ (fun z=>hb (by rw [← z]; exact aR))]; exact g
 have upF:∀ {h:Heap} {f:Obj→Obj} {i:Nat},St i h→St i (h.update S f):=fun {h f i} st=>W.frame _ _ _ st fun b hb o g=>by rw [eC _ _ (show S≠b from fun z=>nS (by rw [z]; exact hb))]; exact g
 have sub1:∀ {b:Addr},b∉S::wr→b∉wr:=fun hb z=>hb (aQ _ z)
 induction k with
 | zero=>
  intro j s v0 c en st p0 hJ hS fin; have ej:n=j+1:=by omega
  refine codeAny_builtin F.entry_min_loop ?_; rw [Around.under_plainId F.plain_min_loop]; refine wpAny_bind (m:=seqItems? (.ref S)) (wpAny_seqItems hS rfl ?_); refine wpAny_bind (m:=tryCatch (pyNext (.ref I)) _) (wpAny_tryCatch (W.done s _ _ (by rw [ej]; exact st) fun h1 tk k1=> ?_)); refine wpAny_bind (m:=updateSeq S fun _=> #[]) (wpAny_updateSeq (k1 S _ nW hS) rfl (wpAny_bind (wpAny_letGo (wpAny_pure ?_)))); exact fin v0 _ tk (by rw [ej]; exact p0) fun b o hb g=>upO hb (k1 b o (sub1 hb) g)
 | succ k ih=>
  intro j s v0 c en st p0 hJ hS fin; refine codeAny_builtin F.entry_min_loop ?_; rw [Around.under_plainId F.plain_min_loop]; refine wpAny_bind (m:=seqItems? (.ref S)) (wpAny_seqItems hS rfl ?_); refine wpAny_bind (m:=tryCatch (pyNext (.ref I)) _) (wpAny_tryCatch (W.item (j+1) s _ _ (by omega) st fun v h1 tk pv st1 k1=> ?_)); have hS1:=k1 S _ nW hS; have hJ1:J h1:=stay _ _ hJ fun b o hb g=>k1 b o (sub1 hb) g
  refine wpAny_bind (m:=tryCatch (holding [v,v] (richCompare .Lt v v0>>=_)) _) (wpAny_tryCatch (wpAny_holding (wpAny_bind (ask (j+1) (argBest bt j) v v0 ⟨h1,s.gens,s.drawn,tk,s.os⟩ _ _ hJ1 pv p0 ?_)))); refine wpAny_bind (wpAny_holding (wpAny_truthy_bool (wpAny_bind (wpAny_letGo (wpAny_pure ?_))))); have ab:argBest bt (j+1)=if bt (j+1) (argBest bt j) then j+1 else argBest bt j:=rfl
  cases q:bt (j+1) (argBest bt j) with
  | true=>rw [q,if_pos rfl] at ab; simp only [if_true]; refine wpAny_bind (wpAny_updateSeq hS1 rfl (wpAny_bind (wpAny_letGo ?_))); rw [nm]; refine wpAny_pure ⟨plainId_quiet F.plain_min_loop _,ih (j+1) _ v _ (by omega) (upF st1) (by rw [ab]; exact pv) (stay _ _ hJ1 fun b o hb g=>upO hb g) (iR _ hS1 rfl) fun v' h2 tk2 p2 k2=> ?_⟩; exact fin v' h2 tk2 p2 fun b o hb g=>k2 b o hb (upO hb (k1 b o (sub1 hb) g))
  | false=>rw [q,if_neg bO] at ab; simp only [cP,if_false]; refine wpAny_bind (wpAny_letGo ?_); rw [nm]; refine wpAny_pure ⟨plainId_quiet F.plain_min_loop _,ih (j+1) _ v0 c (by omega) st1 (by rw [ab]; exact p0) hJ1 hS1 fun v' h2 tk2 p2 k2=> ?_⟩; exact fin v' h2 tk2 p2 fun b o hb g=>k2 b o hb (k1 b o (sub1 hb) g)
theorem minJ_first (W:Walks prog w A.in1 I fp wr n P St) (ask:AskJ prog w A.in1 J P bt) (stay:StayJ (S::wr) J) (nS:S∉fp) (h0:0<n) {s:Shared} {c:Nat} (st:St 0 s.heap) (hJ:J s.heap) (hS:s.heap.get? S=some {cls:= .type "list",dict:=none,data:= .seq #[] c,slots:= #[]})
  (fin:∀v h' tk,P (argBest bt (n - 1)) v→(∀b o,b∉S::wr→s.heap.get? b=some o→h'.get? b=some o)→R (.ok (.ret v)) {s with heap:=h',toks:=tk}):codeAny (model prog w) A (.builtin "min.loop" ⟨[.ref I, .none, .ref S],[]⟩) R s:=by
 have nW:S∉wr:=fun z=>nS (W.sub S z)
 have nm:(toString "min"++toString ".loop":String)="min.loop":=by decide
 have upO:∀ {h:Heap} {f:Obj→Obj} {b:Addr} {o:Obj},b∉S::wr→h.get? b=some o→(h.update S f).get? b=some o:=fun {h f b o} hb g=>by rw [eC _ _ (fun z=>hb (by rw [← z]; exact aR))]; exact g
 have sub1:∀ {b:Addr},b∉S::wr→b∉wr:=fun hb z=>hb (aQ _ z)
 refine codeAny_builtin F.entry_min_loop ?_; rw [Around.under_plainId F.plain_min_loop]; refine wpAny_bind (m:=seqItems? (.ref S)) (wpAny_seqItems hS rfl ?_); refine wpAny_bind (m:=tryCatch (pyNext (.ref I)) _) (wpAny_tryCatch (W.item 0 s _ _ h0 st fun v h1 tk pv st1 k1=> ?_)); have hS1:=k1 S _ nW hS; refine wpAny_bind (m:=updateSeq S fun _=> #[v,v]) (wpAny_updateSeq hS1 rfl ?_); rw [nm]; refine wpAny_pure ⟨plainId_quiet F.plain_min_loop _,minJ_loop W ask stay nS (n - 1) 0 _ v _ (by omega) (W.frame _ _ _ st1 fun b hb o g=> ?_) pv (stay _ _ hJ fun b o hb g=>upO hb (k1 b o (sub1 hb) g)) (iR _ hS1 rfl) fun v' h2 tk2 p2 k2=> ?_⟩
 ·rw [eC _ _ (show S≠b from fun z=>nS (by rw [z]; exact hb))]; exact g
 ·exact fin v' h2 tk2 p2 fun b o hb g=>k2 b o hb (upO hb (k1 b o (sub1 hb) g))
theorem call_minJ {E:Value→Shared→Prop} {s:Shared} {x:Value} {Q:Value→Shared→Prop}
  (h:wpAny (model prog w) A.in1 (pyIter x) (fun it t=>∃ (I:Addr) (fp wr:List Addr) (n:Nat) (P:Nat→Value→Prop) (St:Nat→Heap→Prop) (J:Heap→Prop) (bt:Nat→Nat→Bool),it= .ref I∧Walks prog w A.in1 I fp wr n P St∧St 0 t.heap∧(∀b∈fp,b<t.heap.objs.size)∧0<n∧AskJ prog w A.in1 J P bt∧J t.heap∧StayJ (t.heap.objs.size::wr) J∧
   ∀v h' tk,P (argBest bt (n - 1)) v→(∀b o,b∉wr→t.heap.get? b=some o→h'.get? b=some o)→Q v {t with heap:=h',toks:=tk}) E s):
  wpAny (model prog w) A (call (.builtin "min") [x]) Q E s:=by
 have nm:(toString "min"++toString ".loop":String)="min.loop":=by decide
 refine call_function_tree F.kind_min F.plain_min F.entry_min (F.args_min1 _) ?_; refine wpAny_bind (m:=Builtin.Builtins.bindParams "min" ["key","default"] 0 ⟨[],[]⟩) (wpAny_of_eq (a:=[none,none]) rfl (wpAny_bind (wpAny_pure ?_))); refine wpAny_bind (wpAny_mono h (fun it t hx=> ?_) fun _ _ z=>z); obtain ⟨I,fp,wr,n,P,St,J,bt,rfl,W,st,hfp,h0,ask,hJ,stay,q⟩:=hx; refine wpAny_bind (wpAny_newObj_type ?_); have nS:t.heap.objs.size∉fp:=fun z=>fY _ (hfp _ z)
 rw [nm]; refine wpAny_pure ⟨plainId_quiet F.plain_min_loop _,minJ_first W ask stay nS h0 (W.frame _ _ _ st fun b _ o g=>aM _ g) (stay _ _ hJ fun b o _ g=>aM _ g) (bW _ rfl) fun v h' tk pv k=> ?_⟩; refine q v h' tk pv fun b o hb g=>k b o (fun z=> ?_) (aM _ g)
 rcases bV.mp z with z | z
 ·exact fY _ (z▸bB g)
 ·exact hb z
end
noncomputable def rkA (r:Keyed→Nat) (xs:Array Keyed) (i:Nat):Nat:=match xs[i]? with
 | some p=>r p
 | none=>0
noncomputable def AscR (r:Keyed→Nat) (xs:Array Keyed) (l h:Nat):Prop:=∀i j,l≤i→i<j→j<h→rkA r xs i<rkA r xs j
theorem iG {r:Keyed→Nat} {xs ys:Array Keyed} {i j:Nat} (h:xs[i]? =ys[j]?):rkA r xs i=rkA r ys j:=by unfold rkA; rw [h]
theorem eR {r:Keyed→Nat} {xs:Array Keyed} {i:Nat} (h:i<xs.size):rkA r xs i=r xs[i]:=by unfold rkA; rw [getElem?_pos xs i h]
structure mD (prog:Program) (w:World) (A:Around) (E:Value→Shared→Prop) (s:Shared) (κ:SortKind) (r:Keyed→Nat) (a₀:Array Keyed):Prop where
 ask:∀ {x y:Keyed} {st:SortSt} {Q:Option Bool→SortSt→Prop},x∈a₀.toList→y∈a₀.toList→kindOf st=κ→Q (some (decide (r x<r y))) st→wpS (model prog w) A E s (lt' x y) Q st
 nd:(a₀.toList.map r).Nodup
structure SB (κ:SortKind) (a₀:Array Keyed) (st:SortSt):Prop where
 perm:(arrOf st).Perm a₀
 kind:kindOf st=κ
 failed:failedOf st=none
structure Stp (κ:SortKind) (a₀:Array Keyed) (lo hi:Nat) (st st':SortSt):Prop where
 sb:SB κ a₀ st'
 pend:pendingOf st'=pendingOf st
 keep:∀k,k<lo∨hi≤k→(arrOf st')[k]? =(arrOf st)[k]?
section
variable {prog:Program} {w:World} {A:Around} {E:Value→Shared→Prop} {s:Shared} {κ:SortKind} {r:Keyed→Nat} {a₀:Array Keyed} {st st':SortSt}
theorem SB.size (h:SB κ a₀ st):(arrOf st).size=a₀.size:=h.perm.size_eq
theorem SB.mem (h:SB κ a₀ st) {i:Nat} (hi:i<(arrOf st).size):(arrOf st)[i]∈a₀.toList:=(gT.mp h.perm).mem_iff.mp (by simp)
theorem nd_ne {xs:Array Keyed} (nd:(xs.toList.map r).Nodup) {i j:Nat} (hi:i<xs.size) (hj:j<xs.size) (hij:i≠j):rkA r xs i≠rkA r xs j:=fun e=>by
 rw [eR hi,eR hj] at e; have e2:(xs.toList.map r)[i]'(by simpa using hi)=(xs.toList.map r)[j]'(by simpa using hj):=by simpa using e
 exact hij ((jE nd).mp e2)
theorem SB.nd (h:SB κ a₀ st) (K:mD prog w A E s κ r a₀):((arrOf st).toList.map r).Nodup:=(((gT.mp h.perm).map r).nodup_iff).mpr K.nd
theorem SB.ne (h:SB κ a₀ st) (K:mD prog w A E s κ r a₀) {i j:Nat} (hi:i<a₀.size) (hj:j<a₀.size) (hij:i≠j):rkA r (arrOf st) i≠rkA r (arrOf st) j:=
 nd_ne (h.nd K) (by rw [h.size]; exact hi) (by rw [h.size]; exact hj) hij
theorem Stp.refl (h:SB κ a₀ st) (lo hi:Nat):Stp κ a₀ lo hi st st:=⟨h,rfl,fun _ _=>rfl⟩
theorem Stp.trans {lo hi:Nat} {st'':SortSt} (h:Stp κ a₀ lo hi st st') (h2:Stp κ a₀ lo hi st' st''):Stp κ a₀ lo hi st st'':=⟨h2.sb,h2.pend.trans h.pend,fun k hk=>(h2.keep k hk).trans (h.keep k hk)⟩
theorem SB.setArr (h:SB κ a₀ st) {xs:Array Keyed} (hp:xs.Perm (arrOf st)):SB κ a₀ (setArr st xs):=⟨hp.trans h.perm,h.kind,h.failed⟩
theorem eZ {xs:Array Keyed} {i:Nat} {Q:Keyed→SortSt→Prop} (hi:i<xs.size) (h:Q xs[i] st):wpS (model prog w) A E s (elem' xs i) Q st:=by rw [elem'_eq,getElem?_pos xs i hi]; exact wpS_pure h
theorem rG {i j:Nat} {Q:Option Bool→SortSt→Prop} (K:mD prog w A E s κ r a₀) (hB:SB κ a₀ st) (hi:i<a₀.size) (hj:j<a₀.size)
  (h:Q (some (decide (rkA r (arrOf st) i<rkA r (arrOf st) j))) st):wpS (model prog w) A E s (ltAt' i j) Q st:=by
 have hi':i<(arrOf st).size:=by rw [hB.size]; exact hi
 have hj':j<(arrOf st).size:=by rw [hB.size]; exact hj
 rw [ltAt'_eq]; refine wpS_bind (wpS_get ?_); show wpS _ _ _ _ (do let x ← elem' (arrOf st) i; let y ← elem' (arrOf st) j; lt' x y) Q st; refine wpS_bind (eZ hi' (wpS_bind (eZ hj' (K.ask (hB.mem hi') (hB.mem hj') hB.kind ?_)))); rw [eR hi',eR hj'] at h; exact h
theorem yG {xs:Array Keyed} {i j:Nat} (hj:j≤xs.size) (k:Nat):
  rkA r (mirror xs i j ((j - i) / 2)) k=if i≤k∧k<j then rkA r xs (i+j - 1 - k) else rkA r xs k:=by
 have e:=getElem?_mirror_all (i:=i) hj k
 by_cases h1:i≤k∧k<j
 ·rw [if_pos h1] at e ⊢; exact iG e
 ·rw [if_neg h1] at e ⊢; exact iG e
theorem yL {xs:Array Keyed} {src d:Nat} (hs:src<xs.size) (hd:d≤src) (k:Nat):
  rkA r (bubble xs src d) k=if k=src - d then rkA r xs src else if src - d<k∧k≤src then rkA r xs (k - 1) else rkA r xs k:=by
 have e:=getElem?_bubble hs d hd k
 by_cases h1:k=src - d
 ·rw [if_pos h1] at e ⊢; exact iG e
 ·rw [if_neg h1] at e ⊢
  by_cases h2:src - d<k∧k≤src
  ·rw [if_pos h2] at e ⊢; exact iG e
  ·rw [if_neg h2] at e ⊢; exact iG e
theorem AscR.snoc {xs:Array Keyed} {l h:Nat} (a:AscR r xs l h) (lt:l<h) (q:rkA r xs (h - 1)<rkA r xs h):AscR r xs l (h+1):=fun i j hi hij hj=>by
 by_cases e:j=h
 ·subst e
  by_cases e2:i=j - 1
  ·rw [e2]; exact q
  ·exact pM (a i (j - 1) hi (by omega) (by omega)) q
 ·exact a i j hi hij (by omega)
theorem wpS_asc {lo a nrem:Nat} {Q:Option (Option Nat) × Nat→SortSt→Prop} (K:mD prog w A E s κ r a₀) (hB:SB κ a₀ st) (ha:1≤a) (han:a≤nrem) (hn:lo+nrem≤a₀.size) (hs:AscR r (arrOf st) lo (lo+a))
  (h:∀m,a≤m→m≤nrem→AscR r (arrOf st) lo (lo+m)→(m<nrem→rkA r (arrOf st) (lo+m)<rkA r (arrOf st) (lo+m - 1))→Q (none,m) st):
  wpS (model prog w) A E s (forIn [a:nrem] ((none,a):Option (Option Nat) × Nat) fun _ __s=>do
   let __x ← ltAt' (lo+__s.snd) (lo+__s.snd - 1)
   match __x with
   | some smaller=>if smaller=true then pure (ForInStep.done (none,__s.snd)) else pure (ForInStep.yield (none,__s.snd+1))
   | _=>pure (ForInStep.done (some none,__s.snd))) Q st:=by
 refine wpS_forRange (I:=fun x c st'=>st'=st∧c=(none,x)∧AscR r (arrOf st) lo (lo+x)) ?_ ?_ ⟨rfl,rfl,hs⟩
 ·rintro x c st' hx hxn ⟨rfl,rfl,hs'⟩; dsimp only; refine wpS_bind (rG K hB (by omega) (by omega) ?_)
  by_cases q:rkA r (arrOf st') (lo+x)<rkA r (arrOf st') (lo+x - 1)
  ·simp only [q,decide_true,if_true]; exact wpS_pure (h x hx (by omega) hs' fun _=>q)
  ·simp only [q,decide_false,cP,if_false]; refine wpS_pure ⟨rfl,rfl, ?_⟩; have ne:=hB.ne K (i:=lo+x) (j:=lo+x - 1) (by omega) (by omega) (by omega); exact hs'.snoc (by omega) (by omega)
 ·rintro c st' ⟨rfl,rfl,hs'⟩; rw [show max a nrem=nrem by omega] at hs' ⊢; exact h nrem han (aX _) hs' fun z=>absurd z (fY _)
noncomputable def DscR (r:Keyed→Nat) (xs:Array Keyed) (l h:Nat):Prop:=∀i j,l≤i→i<j→j<h→rkA r xs j<rkA r xs i
theorem DscR.snoc {xs:Array Keyed} {l h:Nat} (a:DscR r xs l h) (lt:l<h) (q:rkA r xs h<rkA r xs (h - 1)):DscR r xs l (h+1):=fun i j hi hij hj=>by
 by_cases e:j=h
 ·subst e
  by_cases e2:i=j - 1
  ·rw [e2]; exact q
  ·exact pM q (a i (j - 1) hi (by omega) (by omega))
 ·exact a i j hi hij (by omega)
theorem wpS_countR {lo nrem:Nat} {Q:Option Nat→SortSt→Prop} (K:mD prog w A E s κ r a₀) (hB:SB κ a₀ st) (h1:1≤nrem) (hn:lo+nrem≤a₀.size)
  (h:∀m st',1≤m→m≤nrem→Stp κ a₀ lo (lo+nrem) st st'→AscR r (arrOf st') lo (lo+m)→Q (some m) st'):wpS (model prog w) A E s (countRun' lo nrem) Q st:=by
 rw [countRun'_eq]; refine wpS_bind (wpS_asc K hB (aX 1) h1 hn (fun i j h1 h2 h3=>by omega) fun m hm1 hm2 hs hq=> ?_); dsimp only
 by_cases e:m=nrem
 ·rw [if_pos (by simpa using e)]; exact wpS_pure (h m st hm1 hm2 (.refl hB _ _) hs)
 ·rw [if_neg (by simpa using e)]
  by_cases m1:m>1
  ·rw [if_pos m1]; refine wpS_bind (rG K hB (by omega) (by omega) ?_); rw [decide_eq_true (hs lo (lo+m - 1) (aX _) (by omega) (by omega))]; dsimp only; rw [if_pos rfl]; exact wpS_pure (h m st hm1 hm2 (.refl hB _ _) hs)
  ·rw [if_neg m1]; have em:m=1:=by omega
   subst em; have hq:=hq (by omega); refine wpS_bind (wpS_lift (wpAny_rule ⟨rfl, ?_⟩)); refine wpS_bind (wpS_mono (wpS_forRange (I:=fun x c st'=>st'=st∧c=(none,x,0)∧DscR r (arrOf st) lo (lo+x)) (Q:=fun c st'=>st'=st∧∃m,c=(none,m,0)∧2≤m∧m≤nrem∧DscR r (arrOf st) lo (lo+m)) ?step ?fin ⟨rfl,rfl, ?init⟩) ?post)
   case init=>
    intro i j h1 h2 h3; have e1:i=lo:=by omega
    have e2:j=lo+1:=by omega
    subst e1 e2; exact hq
   case step=>
    rintro x c st' hx hxn ⟨rfl,rfl,hs'⟩; dsimp only; refine wpS_bind (rG K hB (by omega) (by omega) ?_)
    by_cases q:rkA r (arrOf st') (lo+x)<rkA r (arrOf st') (lo+x - 1)
    ·simp only [q,decide_true,if_true]; rw [if_neg (by omega)]; exact wpS_pure ⟨rfl,rfl,hs'.snoc (by omega) q⟩
    ·simp only [q,decide_false,cP,if_false]; refine wpS_bind (rG K hB (by omega) (by omega) ?_); have ne:=hB.ne K (i:=lo+x) (j:=lo+x - 1) (by omega) (by omega) (by omega); rw [decide_eq_true (show rkA r (arrOf st') (lo+x - 1)<rkA r (arrOf st') (lo+x) by omega)]; dsimp only; rw [if_pos rfl]; exact wpS_pure ⟨rfl,x,rfl,hx,by omega,hs'⟩
   case fin=>rintro c st' ⟨rfl,rfl,hs'⟩; rw [show max (1+1) nrem=nrem by omega] at hs' ⊢; exact ⟨rfl,nrem,rfl,by omega,aX _,hs'⟩
   case post=>
    rintro c st' ⟨rfl,m,rfl,m2,mn,hd⟩; dsimp only; rw [if_neg (by omega),reverseSlice'_eq]; refine wpS_bind (wpS_modify ?_); have hz:lo+m≤(arrOf st').size:=by rw [hB.size]; omega
    have S:Stp κ a₀ lo (lo+nrem) st' (setArr st' (mirror (arrOf st') lo (lo+m) ((lo+m - lo) / 2))):=by refine ⟨hB.setArr (mirror_perm _ _ _ _),rfl,fun k hk=> ?_⟩; show (mirror (arrOf st') lo (lo+m) ((lo+m - lo) / 2))[k]? =_; rw [getElem?_mirror_all hz,if_neg (by omega)]
    refine wpS_bind (wpS_asc K S.sb (by omega) mn hn (fun i j h1 h2 h3=> ?_) fun m' a1 a2 a3 _=> ?_)
    ·show rkA r (mirror (arrOf st') lo (lo+m) ((lo+m - lo) / 2)) i<rkA r (mirror (arrOf st') lo (lo+m) ((lo+m - lo) / 2)) j; rw [yG hz,yG hz,if_pos (by omega),if_pos (by omega)]; exact hd _ _ (by omega) (by omega) (by omega)
    ·exact wpS_pure (h m' _ (by omega) a2 S a3)
theorem wpS_binR {lo n ok:Nat} {Q:Bool→SortSt→Prop} (K:mD prog w A E s κ r a₀) (hB:SB κ a₀ st) (hn:lo+n≤a₀.size) (hok:ok≤n) (hs:AscR r (arrOf st) lo (lo+ok))
  (h:∀st',Stp κ a₀ lo (lo+n) st st'→AscR r (arrOf st') lo (lo+n)→Q true st'):wpS (model prog w) A E s (binarySort' lo n ok) Q st:=by
 rw [binarySort'_eq]
 refine wpS_bind (wpS_mono (wpS_forRange (I:=fun k c st'=>c=(none,())∧Stp κ a₀ lo (lo+n) st st'∧AscR r (arrOf st') lo (lo+min k n))
  (Q:=fun c st'=>c=(none,())∧Stp κ a₀ lo (lo+n) st st'∧AscR r (arrOf st') lo (lo+n)) ?step ?fin ?init) ?post)
 case post=>rintro c st' ⟨rfl,S,hs'⟩; exact wpS_pure (h st' S hs')
 case init=>refine ⟨rfl, .refl hB _ _,fun i j hi hij hj=> ?_⟩; exact hs i j hi hij (by omega)
 case fin=>
  rintro c st' ⟨hc,S,hs'⟩; refine ⟨hc,S, ?_⟩
  rwa [show min (max (max ok 1) n) n=n by omega] at hs'
 case step=>
  rintro k c st' hak hkn ⟨rfl,S,hs'⟩; rw [show min k n=k by omega] at hs'; have hB':=S.sb; have hk:lo+k<a₀.size:=by omega
  refine wpS_bind (wpS_mono (wpS_forRange (I:=fun x c st''=>st''=st'∧∃l r',c=(none,l,r')∧l≤r'∧r'≤k∧r' - l≤k - x∧
    (∀i,i<l→rkA r (arrOf st') (lo+i)<rkA r (arrOf st') (lo+k))∧(∀i,r'≤i→i<k→rkA r (arrOf st') (lo+k)<rkA r (arrOf st') (lo+i)))
   (Q:=fun c st''=>st''=st'∧∃l r',c=(none,l,r')∧l≤k∧
    (∀i,i<l→rkA r (arrOf st') (lo+i)<rkA r (arrOf st') (lo+k))∧(∀i,l≤i→i<k→rkA r (arrOf st') (lo+k)<rkA r (arrOf st') (lo+i))) ?istep ?ifin ?iinit) ?ipost)
  case iinit=>exact ⟨rfl,0,k,rfl,by omega,by omega,by omega,fun i hi=>by omega,fun i h1 h2=>by omega⟩
  case ifin=>
   rintro c st'' ⟨rfl,l,r',rfl,hlr,hrk,hm,hlo,hhi⟩; have:l=r':=by omega
   subst this; exact ⟨rfl,l,l,rfl,hrk,hlo,hhi⟩
  case istep=>
   rintro x c st'' _ hxk ⟨rfl,l,r',rfl,hlr,hrk,hm,hlo,hhi⟩; dsimp only
   by_cases hge:l≥r'
   ·rw [if_pos hge]; have:l=r':=by omega
    subst this; exact wpS_pure ⟨rfl,l,l,rfl,hrk,hlo,hhi⟩
   ·rw [if_neg hge]; refine wpS_bind (rG K hB' hk (by omega) ?_)
    by_cases hless:rkA r (arrOf st'') (lo+k)<rkA r (arrOf st'') (lo+(l+r') / 2)
    ·simp only [hless,decide_true,if_true]; refine wpS_pure ⟨rfl,l,(l+r') / 2,rfl,by omega,by omega,by omega,hlo,fun i h1 h2=> ?_⟩
     by_cases e:i=(l+r') / 2
     ·rw [e]; exact hless
     ·exact pM hless (hs' _ _ (by omega) (by omega) (by omega))
    ·simp only [hless,decide_false,cP,if_false]; have ne:=hB'.ne K (i:=lo+k) (j:=lo+(l+r') / 2) hk (by omega) (by omega); have hl:rkA r (arrOf st'') (lo+(l+r') / 2)<rkA r (arrOf st'') (lo+k):=by omega
     refine wpS_pure ⟨rfl,(l+r') / 2+1,r',rfl,by omega,by omega,by omega,fun i h1=> ?_,hhi⟩
     by_cases e:i=(l+r') / 2
     ·rw [e]; exact hl
     ·exact pM (hs' _ _ (by omega) (by omega) (by omega)) hl
  case ipost=>
   rintro c st'' ⟨rfl,l,r',rfl,hlk,hlo,hhi⟩; show wpS _ _ _ _ (do moveDown' (lo+k) (lo+l); pure (ForInStep.yield (none,()))) _ _; rw [moveDown'_eq]; have hks:lo+k<(arrOf st'').size:=by rw [hB'.size]; exact hk
   have ed:lo+k - (lo+l)=k - l:=by omega
   rw [ed]; refine wpS_bind (wpS_modify (wpS_pure ⟨rfl,S.trans ⟨hB'.setArr (bubble_perm _ _ _),rfl,fun i hi=> ?_⟩, ?_⟩))
   ·show (bubble (arrOf st'') (lo+k) (k - l))[i]? =_; rw [getElem?_bubble hks _ (by omega),if_neg (by omega),if_neg (by omega)]
   rw [show min (k+1) n=k+1 by omega]; intro i j hi hij hj; show rkA r (bubble (arrOf st'') (lo+k) (k - l)) i<rkA r (bubble (arrOf st'') (lo+k) (k - l)) j; rw [yL hks (by omega),yL hks (by omega),show lo+k - (k - l)=lo+l by omega]
   have hlo':∀i,lo≤i→i<lo+l→rkA r (arrOf st'') i<rkA r (arrOf st'') (lo+k):=fun i a b=>by
    have:=hlo (i - lo) (by omega)
    rwa [show lo+(i - lo)=i by omega] at this
   have hhi':∀i,lo+l≤i→i<lo+k→rkA r (arrOf st'') (lo+k)<rkA r (arrOf st'') i:=fun i a b=>by
    have:=hhi (i - lo) (by omega) (by omega)
    rwa [show lo+(i - lo)=i by omega] at this
   repeat' split
   all_goals first
    | (exfalso; omega)
    | exact hlo' _ (by omega) (by omega)
    | exact hhi' _ (by omega) (by omega)
    | exact hs' _ _ (by omega) (by omega) (by omega)
end
noncomputable def mU:Bool→Keyed→Array Keyed→Nat→Nat→Nat→StateT SortSt Sem (Option Nat):=sortPriv%PySem.Builtin.gallop
noncomputable def bey (left:Bool) (key:Keyed) (arr:Array Keyed) (base i:Nat):StateT SortSt Sem (Option Bool):=do
  let x ← elem' arr (base+i)
  if left then lt' x key else return (← lt' key x).map (!·)
theorem gallop'_eq (left:Bool) (key:Keyed) (arr:Array Keyed) (base n hint:Nat):mU left key arr base n hint=(do
 let mut lastofs:=0
 let mut ofs:=1
 let mut lo:=0
 let mut hi:=0
 let some right ← bey left key arr base hint | return none
 if right then
  let maxofs:=n - hint
  for _ in [0:n] do
   if ofs≥maxofs then break
   let some more ← bey left key arr base (hint+ofs) | return none
   if !more then break
   lastofs:=ofs
   ofs:=2 * ofs+1
  lo:=hint+lastofs+1
  hi:=hint+min ofs maxofs
 else
  let maxofs:=hint+1
  for _ in [0:n] do
   if ofs≥maxofs then break
   let some found ← bey left key arr base (hint - ofs) | return none
   if found then break
   lastofs:=ofs
   ofs:=2 * ofs+1
  lo:=hint+1 - min ofs maxofs
  hi:=hint - lastofs
 for _ in [0:n] do
  if lo≥hi then break
  let m:=lo+(hi - lo) / 2
  let some more ← bey left key arr base m | return none
  if more then lo:=m+1 else hi:=m
 return some hi):=rfl
section
variable {prog:Program} {w:World} {A:Around} {E:Value→Shared→Prop} {s:Shared} {κ:SortKind} {r:Keyed→Nat} {a₀:Array Keyed} {st st':SortSt}
theorem rZ {left:Bool} {key:Keyed} {xs:Array Keyed} {base i:Nat} {Q:Option Bool→SortSt→Prop} (K:mD prog w A E s κ r a₀) (hk:kindOf st=κ) (mx:∀x∈xs.toList,x∈a₀.toList) (mk:key∈a₀.toList) (hi:base+i<xs.size) (ne:rkA r xs (base+i)≠r key)
  (h:Q (some (decide (rkA r xs (base+i)<r key))) st):wpS (model prog w) A E s (bey left key xs base i) Q st:=by
 unfold bey; refine wpS_bind (eZ hi ?_); have m1:xs[base+i]∈a₀.toList:=mx _ (by simp); rw [eR hi] at h ne; cases left with
 | true=>exact K.ask m1 mk hk h
 | false=>
  refine wpS_bind (K.ask mk m1 hk (wpS_pure ?_))
  have e:(!decide (r key<r xs[base+i]))=decide (r xs[base+i]<r key):=by
   by_cases q:r xs[base+i]<r key
   ·rw [decide_eq_true q,decide_eq_false (by omega)]; rfl
   ·rw [decide_eq_false q,decide_eq_true (by omega)]; rfl
  show Q (some (!decide (r key<r xs[base+i]))) st; rw [e]; exact h
theorem AscR.le {xs:Array Keyed} {base n:Nat} (a:AscR r xs base (base+n)) {i j:Nat} (hij:i≤j) (hj:j<n):rkA r xs (base+i)≤rkA r xs (base+j):=by
 by_cases e:i=j
 ·rw [e]; exact aX _
 ·exact eX (a _ _ (by omega) (by omega) (by omega))
theorem pU {left:Bool} {key:Keyed} {xs:Array Keyed} {base n hint:Nat} {Q:Option Nat→SortSt→Prop} (K:mD prog w A E s κ r a₀) (hk:kindOf st=κ) (mx:∀x∈xs.toList,x∈a₀.toList) (mk:key∈a₀.toList) (hx:base+n≤xs.size) (hh:hint<n)
  (asc:AscR r xs base (base+n)) (ne:∀i,i<n→rkA r xs (base+i)≠r key)
  (h:∀k,k≤n→(∀i,i<k→rkA r xs (base+i)<r key)→(∀i,k≤i→i<n→r key<rkA r xs (base+i))→Q (some k) st):wpS (model prog w) A E s (mU left key xs base n hint) Q st:=by
 rw [gallop'_eq]; refine wpS_bind (rZ K hk mx mk (by omega) (ne _ hh) ?_)
 by_cases q:rkA r xs (base+hint)<r key
 ·simp only [q,decide_true,if_true]
  refine wpS_bind (wpS_mono (wpS_forRange (I:=fun x c st'=>st'=st∧∃last ofs,c=(none,last,ofs)∧last<ofs∧x+1≤ofs∧hint+last<n∧rkA r xs (base+(hint+last))<r key)
   (Q:=fun c st'=>st'=st∧∃last ofs,c=(none,last,ofs)∧last<ofs∧hint+last<n∧rkA r xs (base+(hint+last))<r key∧(n - hint≤ofs∨(hint+ofs<n∧r key<rkA r xs (base+(hint+ofs))))) ?step ?fin ⟨rfl,0,1,rfl,by omega,by omega,hh,q⟩) ?post)
  case fin=>rintro c st' ⟨rfl,last,ofs,rfl,a,b,c,d⟩; exact ⟨rfl,last,ofs,rfl,a,c,d, .inl (by omega)⟩
  case step=>
   rintro x c st' _ hxn ⟨rfl,last,ofs,rfl,a,b,c,d⟩; dsimp only
   by_cases z:ofs≥n - hint
   ·rw [if_pos z]; exact wpS_pure ⟨rfl,last,ofs,rfl,a,c,d, .inl z⟩
   ·rw [if_neg z]; refine wpS_bind (rZ K hk mx mk (by omega) (ne _ (by omega)) ?_)
    by_cases y:rkA r xs (base+(hint+ofs))<r key
    ·simp only [y,decide_true,Bool.not_true,cP,if_false]; exact wpS_pure ⟨rfl,ofs,2 * ofs+1,rfl,by omega,by omega,by omega,y⟩
    ·simp only [y,decide_false,Bool.not_false,if_true]; have y':=ne (hint+ofs) (by omega); exact wpS_pure ⟨rfl,last,ofs,rfl,a,c,d, .inr ⟨by omega,by omega⟩⟩
  case post=>
   rintro c st' ⟨rfl,last,ofs,rfl,a,b,c,d⟩; dsimp only; have l1:hint+last+1≤hint+min ofs (n - hint):=by omega
   have l2:hint+min ofs (n - hint)≤n:=by omega
   have hl:∀i,i<hint+last+1→rkA r xs (base+i)<r key:=fun i hi=>cD (asc.le (by omega) b) c
   have hg:∀i,hint+min ofs (n - hint)≤i→i<n→r key<rkA r xs (base+i):=fun i h1 h2=>by
    rcases d with d | ⟨d1,d2⟩
    ·omega
    ·exact bI d2 (asc.le (by omega) h2)
   refine wpS_bind (wpS_mono (wpS_forRange (I:=fun x c st''=>st''=st'∧∃lo hi,c=(none,lo,hi)∧lo≤hi∧hi≤n∧hi - lo≤n - x∧(∀i,i<lo→rkA r xs (base+i)<r key)∧(∀i,hi≤i→i<n→r key<rkA r xs (base+i)))
    (Q:=fun c st''=>st''=st'∧∃k,c=(none,k,k)∧k≤n∧(∀i,i<k→rkA r xs (base+i)<r key)∧(∀i,k≤i→i<n→r key<rkA r xs (base+i))) ?step ?fin ⟨rfl,_,_,rfl,l1,l2,by omega,hl,hg⟩) ?post)
   case post=>rintro c st'' ⟨rfl,k,rfl,a,b,c⟩; exact wpS_pure (h k a b c)
   case fin=>
    rintro c st'' ⟨rfl,lo,hi,rfl,a,b,c,d,e⟩; have:lo=hi:=by omega
    subst this; exact ⟨rfl,lo,rfl,b,d,e⟩
   case step=>
    rintro x c st'' _ hxn ⟨rfl,lo,hi,rfl,a,b,c,d,e⟩; dsimp only
    by_cases q:lo≥hi
    ·rw [if_pos q]; have:lo=hi:=by omega
     subst this; exact wpS_pure ⟨rfl,lo,rfl,b,d,e⟩
    ·rw [if_neg q]; refine wpS_bind (rZ K hk mx mk (by omega) (ne _ (by omega)) ?_)
     by_cases z:rkA r xs (base+(lo+(hi - lo) / 2))<r key
     ·simp only [z,decide_true,if_true]; refine wpS_pure ⟨rfl,lo+(hi - lo) / 2+1,hi,rfl,by omega,b,by omega,fun i hi'=> ?_,e⟩; exact cD (asc.le (by omega) (by omega)) z
     ·simp only [z,decide_false,cP,if_false]; have z':=ne (lo+(hi - lo) / 2) (by omega); refine wpS_pure ⟨rfl,lo,lo+(hi - lo) / 2,rfl,by omega,by omega,by omega,d,fun i h1 h2=> ?_⟩; exact bI (by omega) (asc.le h1 h2)
 ·simp only [q,decide_false,cP,if_false]; have q':=ne hint hh
  refine wpS_bind (wpS_mono (wpS_forRange (I:=fun x c st'=>st'=st∧∃last ofs,c=(none,last,ofs)∧last<ofs∧x+1≤ofs∧last≤hint∧r key<rkA r xs (base+(hint - last)))
   (Q:=fun c st'=>st'=st∧∃last ofs,c=(none,last,ofs)∧last<ofs∧last≤hint∧r key<rkA r xs (base+(hint - last))∧(hint+1≤ofs∨(ofs≤hint∧rkA r xs (base+(hint - ofs))<r key))) ?step ?fin ⟨rfl,0,1,rfl,by omega,by omega,by omega,by rw [Nat.sub_zero]; omega⟩) ?post)
  case fin=>rintro c st' ⟨rfl,last,ofs,rfl,a,b,c,d⟩; exact ⟨rfl,last,ofs,rfl,a,c,d, .inl (by omega)⟩
  case step=>
   rintro x c st' _ hxn ⟨rfl,last,ofs,rfl,a,b,c,d⟩; dsimp only
   by_cases z:ofs≥hint+1
   ·rw [if_pos z]; exact wpS_pure ⟨rfl,last,ofs,rfl,a,c,d, .inl z⟩
   ·rw [if_neg z]; refine wpS_bind (rZ K hk mx mk (by omega) (ne _ (by omega)) ?_)
    by_cases y:rkA r xs (base+(hint - ofs))<r key
    ·simp only [y,decide_true,if_true]; exact wpS_pure ⟨rfl,last,ofs,rfl,a,c,d, .inr ⟨by omega,y⟩⟩
    ·simp only [y,decide_false,cP,if_false]; have y':=ne (hint - ofs) (by omega); exact wpS_pure ⟨rfl,ofs,2 * ofs+1,rfl,by omega,by omega,by omega,by omega⟩
  case post=>
   rintro c st' ⟨rfl,last,ofs,rfl,a,b,c,d⟩; dsimp only; have l1:hint+1 - min ofs (hint+1)≤hint - last:=by omega
   have l2:hint - last≤n:=by omega
   have hl:∀i,i<hint+1 - min ofs (hint+1)→rkA r xs (base+i)<r key:=fun i hi=>by
    rcases d with d | ⟨d1,d2⟩
    ·omega
    ·exact cD (asc.le (by omega) (by omega)) d2
   have hg:∀i,hint - last≤i→i<n→r key<rkA r xs (base+i):=fun i h1 h2=>bI c (asc.le (by omega) h2)
   refine wpS_bind (wpS_mono (wpS_forRange (I:=fun x c st''=>st''=st'∧∃lo hi,c=(none,lo,hi)∧lo≤hi∧hi≤n∧hi - lo≤n - x∧(∀i,i<lo→rkA r xs (base+i)<r key)∧(∀i,hi≤i→i<n→r key<rkA r xs (base+i)))
    (Q:=fun c st''=>st''=st'∧∃k,c=(none,k,k)∧k≤n∧(∀i,i<k→rkA r xs (base+i)<r key)∧(∀i,k≤i→i<n→r key<rkA r xs (base+i))) ?step ?fin ⟨rfl,_,_,rfl,l1,l2,by omega,hl,hg⟩) ?post)
   case post=>rintro c st'' ⟨rfl,k,rfl,a,b,c⟩; exact wpS_pure (h k a b c)
   case fin=>
    rintro c st'' ⟨rfl,lo,hi,rfl,a,b,c,d,e⟩; have:lo=hi:=by omega
    subst this; exact ⟨rfl,lo,rfl,b,d,e⟩
   case step=>
    rintro x c st'' _ hxn ⟨rfl,lo,hi,rfl,a,b,c,d,e⟩; dsimp only
    by_cases q:lo≥hi
    ·rw [if_pos q]; have:lo=hi:=by omega
     subst this; exact wpS_pure ⟨rfl,lo,rfl,b,d,e⟩
    ·rw [if_neg q]; refine wpS_bind (rZ K hk mx mk (by omega) (ne _ (by omega)) ?_)
     by_cases z:rkA r xs (base+(lo+(hi - lo) / 2))<r key
     ·simp only [z,decide_true,if_true]; refine wpS_pure ⟨rfl,lo+(hi - lo) / 2+1,hi,rfl,by omega,b,by omega,fun i hi'=> ?_,e⟩; exact cD (asc.le (by omega) (by omega)) z
     ·simp only [z,decide_false,cP,if_false]; have z':=ne (lo+(hi - lo) / 2) (by omega); refine wpS_pure ⟨rfl,lo,lo+(hi - lo) / 2,rfl,by omega,by omega,by omega,d,fun i h1 h2=> ?_⟩; exact bI (by omega) (asc.le h1 h2)
end
structure MS (r:Keyed→Nat) (a b:Array Keyed) (out:List Keyed) (ia ib:Nat):Prop where
 ha:ia≤a.size
 hb:ib≤b.size
 perm:out.Perm (a.toList.take ia++b.toList.take ib)
 asc:(out.map r).Pairwise (·<·)
 la:∀x∈out,∀i,ia≤i→i<a.size→r x<rkA r a i
 lb:∀x∈out,∀i,ib≤i→i<b.size→r x<rkA r b i
noncomputable def MD (r:Keyed→Nat) (a b:Array Keyed) (out:List Keyed):Prop:=out.Perm (a.toList++b.toList)∧(out.map r).Pairwise (·<·)
section
variable {r:Keyed→Nat} {a b:Array Keyed} {out:List Keyed} {ia ib:Nat}
theorem MS.swap (m:MS r a b out ia ib):MS r b a out ib ia:=⟨m.hb,m.ha,m.perm.trans iQ,m.asc,m.lb,m.la⟩
theorem MS.pushA (m:MS r a b out ia ib) (h:ia<a.size) (asa:AscR r a 0 a.size) (hb:∀j,ib≤j→j<b.size→rkA r a ia<rkA r b j):MS r a b (out++[a[ia]]) (ia+1) ib:=by
 refine ⟨h,m.hb, ?_, ?_,fun x hx i h1 h2=> ?_,fun x hx i h1 h2=> ?_⟩
 ·have e:a.toList.take (ia+1)=a.toList.take ia++[a[ia]]:=by rw [gF]; simp [h]
  rw [e,eW]; refine (m.perm.append_right _).trans ?_; rw [eW]; exact List.Perm.append_left _ iQ
 ·rw [bR,qG]; refine ⟨m.asc,kH _ _,fun x hx y hy=> ?_⟩; obtain ⟨z,hz,rfl⟩:=bH.mp hx; have:y=r a[ia]:=by simpa using hy
  rw [this,← eR (r:=r) h]; exact m.la z hz ia (aX _) h
 ·rcases bU.mp hx with hx | hx
  ·exact m.la x hx i (by omega) h2
  ·rw [aU.mp hx,← eR (r:=r) h]; exact asa ia i (dA _) (by omega) h2
 ·rcases bU.mp hx with hx | hx
  ·exact m.lb x hx i h1 h2
  ·rw [aU.mp hx,← eR (r:=r) h]; exact hb i h1 h2
theorem MS.pushB (m:MS r a b out ia ib) (h:ib<b.size) (asb:AscR r b 0 b.size) (hb:∀j,ia≤j→j<a.size→rkA r b ib<rkA r a j):MS r a b (out++[b[ib]]) ia (ib+1):=(m.swap.pushA h asb hb).swap
theorem ext_succ {k:Nat} (h:ia+k<a.size):(a.extract ia (ia+(k+1))).toList=(a.extract ia (ia+k)).toList++[a[ia+k]]:=by simp only [eM,dP]; rw [show ia+(k+1) - ia=k+1 by omega,show ia+k - ia=k by omega,gF]; simp [h]
theorem ext_zero (i:Nat):(a.extract i (i+0)).toList=[]:=by simp [eM,dP]
theorem MS.extA (asa:AscR r a 0 a.size) (m:MS r a b out ia ib):∀k,ia+k≤a.size→(∀i,i<k→∀j,ib≤j→j<b.size→rkA r a (ia+i)<rkA r b j)→MS r a b (out++(a.extract ia (ia+k)).toList) (ia+k) ib
 | 0,_,_=>by rw [ext_zero,dY]; exact m
 | k+1,h,hb=>by
  have ih:=MS.extA asa m k (by omega) fun i hi=>hb i (by omega)
  rw [ext_succ (by omega),← eW]; exact ih.pushA (by omega) asa (hb k (by omega))
theorem MS.extB (asb:AscR r b 0 b.size) (m:MS r a b out ia ib) (k:Nat) (h:ib+k≤b.size) (hb:∀i,i<k→∀j,ia≤j→j<a.size→rkA r b (ib+i)<rkA r a j):MS r a b (out++(b.extract ib (ib+k)).toList) ia (ib+k):=(m.swap.extA asb k h hb).swap
theorem MS.done (m:MS r a b out a.size b.size):MD r a b out:=by refine ⟨?_,m.asc⟩; have:=m.perm; rw [iI (by simp),iI (by simp)] at this; exact this
theorem MS.finA (m:MS r a b out ia b.size) (asa:AscR r a 0 a.size):MD r a b (out++(a.extract ia a.size).toList):=by
 have h:=m.ha; have:=m.extA asa (a.size - ia) (by omega) fun i hi j h1 h2=>by omega
 rw [show ia+(a.size - ia)=a.size by omega] at this; exact this.done
theorem MS.finL (m:MS r a b out ia ib) (asa:AscR r a 0 a.size) (asb:AscR r b 0 b.size) (h1:ia+1=a.size) (hab:∀j,j<b.size→rkA r b j<rkA r a (a.size - 1)):MD r a b (out++(b.extract ib b.size).toList++(a.extract ia a.size).toList):=by
 have h:=m.hb
 have:=m.extB asb (b.size - ib) (by omega) fun i hi j h1 h2=>by
  have e:j=a.size - 1:=by omega
  rw [e]; exact hab _ (by omega)
 rw [show ib+(b.size - ib)=b.size by omega] at this; exact this.finA asa
theorem ext_all (i:Nat) (h:a.size≤i):(a.extract i a.size).toList=[]:=by
 rw [eM,dP]; have:a.size - i=0:=by omega
 rw [this]; rfl
end
noncomputable def setG (st:SortSt) (g:Nat):SortSt:=SortSt.mk' (kindOf st) (arrOf st) (pendingOf st) g (failedOf st)
noncomputable def jH:Nat→StateT SortSt Sem Unit:=sortPriv%PySem.Builtin.setMinGallop
theorem iX (g:Nat):jH g=modify fun s=>setG s g:=rfl
noncomputable def wV:Array Keyed→Array Keyed→StateT SortSt Sem (Array Keyed):=sortPriv%PySem.Builtin.mergeLo
structure SameG (st st':SortSt):Prop where
 kind:kindOf st'=kindOf st
 arr:arrOf st'=arrOf st
 pend:pendingOf st'=pendingOf st
 failed:failedOf st'=failedOf st
theorem SameG.refl (st:SortSt):SameG st st:=⟨rfl,rfl,rfl,rfl⟩
theorem SameG.set {st st':SortSt} (h:SameG st st') (g:Nat):SameG st (setG st' g):=⟨h.kind,h.arr,h.pend,h.failed⟩
structure MPre (r:Keyed→Nat) (a₀ a b:Array Keyed):Prop where
 a1:1≤a.size
 b1:1≤b.size
 asa:AscR r a 0 a.size
 asb:AscR r b 0 b.size
 ma:∀x∈a.toList,x∈a₀.toList
 mb:∀x∈b.toList,x∈a₀.toList
 ne:∀i j,i<a.size→j<b.size→rkA r a i≠rkA r b j
 first:rkA r b 0<rkA r a 0
 last:rkA r b (b.size - 1)<rkA r a (a.size - 1)
theorem AscR.le0 {r:Keyed→Nat} {xs:Array Keyed} {n i j:Nat} (a:AscR r xs 0 n) (hij:i≤j) (hj:j<n):rkA r xs i≤rkA r xs j:=by
 by_cases e:i=j
 ·rw [e]; exact aX _
 ·exact eX (a _ _ (by omega) (by omega) (by omega))
noncomputable abbrev SM:=StateT SortSt Sem
noncomputable abbrev ML1:=Option (Array Keyed) × Array Keyed × Nat × Nat × Nat × Nat
noncomputable abbrev ML2:=Option (Array Keyed) × Array Keyed × Nat × Nat × Nat × Nat × Nat
noncomputable abbrev ML0:=Option (Array Keyed) × Array Keyed × Nat × Nat × Nat
noncomputable def dnA (a b out:Array Keyed) (ia ib:Nat):Array Keyed:=out++a.extract ia a.size++b.extract ib b.size
noncomputable def lsA (a b out:Array Keyed) (ia ib:Nat):Array Keyed:=out++b.extract ib b.size++a.extract ia a.size
noncomputable def lo1 (a b:Array Keyed) (mg:Nat) (c:ML1):SM (ForInStep ML1):=do
 let y ← elem' b c.2.2.2.1
 let x ← elem' a c.2.2.1
 let q ← lt' y x
 match q with
 | some bw=>
  if bw=true then do
   let y ← elem' b c.2.2.2.1
   if (c.2.2.2.1+1==b.size)=true then pure (.done (some (dnA a b (c.2.1.push y) c.2.2.1 (c.2.2.2.1+1)),c.2.1.push y,c.2.2.1,c.2.2.2.1+1,0,c.2.2.2.2.2+1))
   else if c.2.2.2.2.2+1≥mg then pure (.done (none,c.2.1.push y,c.2.2.1,c.2.2.2.1+1,0,c.2.2.2.2.2+1))
   else pure (.yield (none,c.2.1.push y,c.2.2.1,c.2.2.2.1+1,0,c.2.2.2.2.2+1))
  else do
   let x ← elem' a c.2.2.1
   if (c.2.2.1+1+1==a.size)=true then pure (.done (some (lsA a b (c.2.1.push x) (c.2.2.1+1) c.2.2.2.1),c.2.1.push x,c.2.2.1+1,c.2.2.2.1,c.2.2.2.2.1+1,0))
   else if c.2.2.2.2.1+1≥mg then pure (.done (none,c.2.1.push x,c.2.2.1+1,c.2.2.2.1,c.2.2.2.2.1+1,0))
   else pure (.yield (none,c.2.1.push x,c.2.2.1+1,c.2.2.2.1,c.2.2.2.2.1+1,0))
 | _=>pure (.done (some (dnA a b c.2.1 c.2.2.1 c.2.2.2.1),c.2.1,c.2.2.1,c.2.2.2.1,c.2.2.2.2.1,c.2.2.2.2.2))
noncomputable def lo2c (a b out:Array Keyed) (ia ib mg k k1:Nat):SM (ForInStep ML2):=do
 let x ← elem' a ia
 if (ia+1+1==a.size)=true then pure (.done (some (lsA a b (out.push x) (ia+1) ib),out.push x,ia+1,ib,mg,k,k1))
 else if (decide (k<7) && decide (k1<7))=true then pure (.done (none,out.push x,ia+1,ib,mg,k,k1))
 else pure (.yield (none,out.push x,ia+1,ib,mg,k,k1))
noncomputable def lo2b (a b out:Array Keyed) (ia ib mg k bc:Nat):SM (ForInStep ML2):=do
 let y ← elem' b ib
 if (ib+1==b.size)=true then pure (.done (some (dnA a b (out.push y) ia (ib+1)),out.push y,ia,ib+1,mg,k,bc))
 else do
  let x ← elem' a ia
  let q ← mU true x b (ib+1) (b.size - (ib+1)) 0
  match q with
  | some k1=>
   if k1>0 then
    if (ib+1+k1==b.size)=true then pure (.done (some (dnA a b (out.push y++b.extract (ib+1) (ib+1+k1)) ia (ib+1+k1)),out.push y++b.extract (ib+1) (ib+1+k1),ia,ib+1+k1,mg,k,k1))
    else lo2c a b (out.push y++b.extract (ib+1) (ib+1+k1)) ia (ib+1+k1) mg k k1
   else lo2c a b (out.push y) ia (ib+1) mg k k1
  | _=>pure (.done (some (dnA a b (out.push y) ia (ib+1)),out.push y,ia,ib+1,mg,k,bc))
noncomputable def lo2a (a b out:Array Keyed) (ia ib mg ac bc:Nat):SM (ForInStep ML2):=do
 jH mg
 let y ← elem' b ib
 let q ← mU false y a ia (a.size - ia) 0
 match q with
 | some k=>
  if k>0 then
   if (ia+k+1==a.size)=true then pure (.done (some (lsA a b (out++a.extract ia (ia+k)) (ia+k) ib),out++a.extract ia (ia+k),ia+k,ib,mg,k,bc))
   else if (ia+k==a.size)=true then pure (.done (some (dnA a b (out++a.extract ia (ia+k)) (ia+k) ib),out++a.extract ia (ia+k),ia+k,ib,mg,k,bc))
   else lo2b a b (out++a.extract ia (ia+k)) (ia+k) ib mg k bc
  else lo2b a b out ia ib mg k bc
 | _=>pure (.done (some (dnA a b out ia ib),out,ia,ib,mg,ac,bc))
noncomputable def lo2 (a b:Array Keyed) (c:ML2):SM (ForInStep ML2):=
 if c.2.2.2.2.1>1 then lo2a a b c.2.1 c.2.2.1 c.2.2.2.1 (c.2.2.2.2.1 - 1) c.2.2.2.2.2.1 c.2.2.2.2.2.2
 else lo2a a b c.2.1 c.2.2.1 c.2.2.2.1 c.2.2.2.2.1 c.2.2.2.2.2.1 c.2.2.2.2.2.2
noncomputable def lo0 (a b:Array Keyed) (c:ML0):SM (ForInStep ML0):=do
 let d ← forIn [:a.size+b.size] ((none,c.2.1,c.2.2.1,c.2.2.2.1,0,0):ML1) fun _ d=>lo1 a b c.2.2.2.2 d
 match d.1 with
 | some r=>pure (.done (some r,d.2.1,d.2.2.1,d.2.2.2.1,c.2.2.2.2))
 | none=>do
  liftM (rule "list.sort.gallop")
  let e ← forIn [:a.size+b.size] ((none,d.2.1,d.2.2.1,d.2.2.2.1,c.2.2.2.2+1,d.2.2.2.2.1,d.2.2.2.2.2):ML2) fun _ e=>lo2 a b e
  match e.1 with
  | some r=>pure (.done (some r,e.2.1,e.2.2.1,e.2.2.2.1,e.2.2.2.2.1))
  | none=>do
   jH (e.2.2.2.2.1+1)
   pure (.yield (none,e.2.1,e.2.2.1,e.2.2.2.1,e.2.2.2.2.1+1))
noncomputable def loM (a b:Array Keyed):SM (Array Keyed):=do
 liftM (rule "list.sort.merge-lo")
 let y ← elem' b 0
 if (1==b.size)=true then pure (dnA a b #[y] 0 1)
 else if (0+1==a.size)=true then pure (lsA a b #[y] 0 1)
 else do
  let g ← get
  let c ← forIn [:a.size+b.size] ((none, #[y],0,1,gallopOf g):ML0) fun _ c=>lo0 a b c
  match c.1 with
  | some r=>pure r
  | none=>liftM (unsupported "internal:list.sort.merge-bound":Sem (Array Keyed))
theorem loM_eq (a b:Array Keyed):wV a b=loM a b:=by kernel_rfl
noncomputable def FIN (r:Keyed→Nat) (a b:Array Keyed) (o:Option (Array Keyed)):Prop:=∃res,o=some res∧MD r a b res.toList
noncomputable def OKm (r:Keyed→Nat) (a b:Array Keyed) (N:Nat) (o:Option (Array Keyed)) (out:Array Keyed) (ia ib:Nat):Prop:=o=none∧MS r a b out.toList ia ib∧ia+1<a.size∧ib<b.size∧N≤ia+ib
theorem OKm.mono {r:Keyed→Nat} {a b:Array Keyed} {N N':Nat} {o:Option (Array Keyed)} {out:Array Keyed} {ia ib:Nat} (h:OKm r a b N o out ia ib) (le:N'≤N):OKm r a b N' o out ia ib:=⟨h.1,h.2.1,h.2.2.1,h.2.2.2.1,eD le h.2.2.2.2⟩
section
variable {prog:Program} {w:World} {A:Around} {E:Value→Shared→Prop} {s:Shared} {κ:SortKind} {r:Keyed→Nat} {a₀ a b out:Array Keyed} {st st0:SortSt} {ia ib:Nat}
theorem MPre.last' (M:MPre r a₀ a b):∀j,j<b.size→rkA r b j<rkA r a (a.size - 1):=fun j hj=>cD (M.asb.le0 (by omega) (by omega)) M.last
theorem fin_dA (M:MPre r a₀ a b) (m:MS r a b out.toList ia ib) (h:ib=b.size):FIN r a b (some (dnA a b out ia ib)):=by subst h; refine ⟨_,rfl, ?_⟩; have:=m.finA M.asa; unfold dnA; rw [dW,dW,ext_all _ (aX _),dY]; exact this
theorem yZ (M:MPre r a₀ a b) (m:MS r a b out.toList ia ib) (h:ia+1=a.size):FIN r a b (some (lsA a b out ia ib)):=by refine ⟨_,rfl, ?_⟩; have:=m.finL M.asa M.asb h M.last'; unfold lsA; rw [dW,dW]; exact this
theorem MS.pushA' (M:MPre r a₀ a b) (m:MS r a b out.toList ia ib) (h:ia<a.size) (hb:∀j,ib≤j→j<b.size→rkA r a ia<rkA r b j):MS r a b (out.push a[ia]).toList (ia+1) ib:=by rw [kO]; exact m.pushA h M.asa hb
theorem MS.pushB' (M:MPre r a₀ a b) (m:MS r a b out.toList ia ib) (h:ib<b.size) (hb:∀j,ia≤j→j<a.size→rkA r b ib<rkA r a j):MS r a b (out.push b[ib]).toList ia (ib+1):=by rw [kO]; exact m.pushB h M.asb hb
theorem MS.extA' (M:MPre r a₀ a b) (m:MS r a b out.toList ia ib) {k:Nat} (h:ia+k≤a.size) (hb:∀i,i<k→∀j,ib≤j→j<b.size→rkA r a (ia+i)<rkA r b j):MS r a b (out++a.extract ia (ia+k)).toList (ia+k) ib:=by rw [dW]; exact m.extA M.asa k h hb
theorem MS.extB' (M:MPre r a₀ a b) (m:MS r a b out.toList ia ib) {k:Nat} (h:ib+k≤b.size) (hb:∀i,i<k→∀j,ia≤j→j<a.size→rkA r b (ib+i)<rkA r a j):MS r a b (out++b.extract ib (ib+k)).toList ia (ib+k):=by rw [dW]; exact m.extB M.asb k h hb
noncomputable def P2 (r:Keyed→Nat) (a b:Array Keyed) (st0:SortSt) (N:Nat):ForInStep ML2→SortSt→Prop:=fun q st'=>SameG st0 st'∧match q with
 | .done c=>FIN r a b c.1∨OKm r a b N c.1 c.2.1 c.2.2.1 c.2.2.2.1
 | .yield c=>OKm r a b N c.1 c.2.1 c.2.2.1 c.2.2.2.1
theorem lo2c_ok {N mg k k1:Nat} (M:MPre r a₀ a b) (S:SameG st0 st) (m:MS r a b out.toList ia ib) (h1:ia+1<a.size) (h2:ib<b.size) (hN:N≤ia+1+ib) (hb:∀j,ib≤j→j<b.size→rkA r a ia<rkA r b j):wpS (model prog w) A E s (lo2c a b out ia ib mg k k1) (P2 r a b st0 N) st:=by
 unfold lo2c; refine wpS_bind (eZ (by omega) ?_); have m2:=m.pushA' M (by omega) hb
 by_cases e:ia+1+1=a.size
 ·rw [if_pos (by simpa using e)]; exact wpS_pure ⟨S, .inl (yZ M m2 e)⟩
 ·rw [if_neg (by simpa using e)]
  split
  ·exact wpS_pure ⟨S, .inr ⟨rfl,m2,by show ia+1+1<_; omega,h2,hN⟩⟩
  ·exact wpS_pure ⟨S,rfl,m2,by show ia+1+1<_; omega,h2,hN⟩
theorem lo2b_ok {N mg k bc:Nat} (K:mD prog w A E s κ r a₀) (hk:kindOf st0=κ) (M:MPre r a₀ a b) (S:SameG st0 st) (m:MS r a b out.toList ia ib) (h1:ia+1<a.size) (h2:ib<b.size) (hN:N≤ia+1+ib) (hb:∀j,ia≤j→j<a.size→rkA r b ib<rkA r a j):wpS (model prog w) A E s (lo2b a b out ia ib mg k bc) (P2 r a b st0 N) st:=by
 unfold lo2b; refine wpS_bind (eZ (by omega) ?_); have m2:=m.pushB' M h2 hb
 by_cases e:ib+1=b.size
 ·rw [if_pos (by simpa using e)]; exact wpS_pure ⟨S, .inl (fin_dA M m2 e)⟩
 ·rw [if_neg (by simpa using e)]; have h1':ia<a.size:=by omega
  refine wpS_bind (eZ h1' (wpS_bind (pU K (S.kind.trans hk) M.mb (M.ma _ (by simp)) (by omega) (by omega) (fun i j h1 h2 h3=>M.asb i j (by omega) h2 (by omega)) (fun i hi e=>M.ne ia (ib+1+i) h1' (by omega) (by rw [e,eR h1'])) fun k1 c1 c2 c3=> ?_))); dsimp only; rw [← eR (r:=r) h1'] at c2 c3; have m3:=m2.extB' M (k:=k1) (by omega) fun i hi j j1 j2=>bI (c2 i hi) (M.asa.le0 j1 j2)
  have c3':∀j,ib+1+k1≤j→j<b.size→rkA r a ia<rkA r b j:=fun j j1 j2=>by
   have:=c3 (j - (ib+1)) (by omega) (by omega)
   rwa [show ib+1+(j - (ib+1))=j by omega] at this
  by_cases z:k1>0
  ·rw [if_pos z]
   by_cases y:ib+1+k1=b.size
   ·rw [if_pos (by simpa using y)]; exact wpS_pure ⟨S, .inl (fin_dA M m3 y)⟩
   ·rw [if_neg (by simpa using y)]; exact lo2c_ok M S m3 h1 (by omega) (by omega) c3'
  ·rw [if_neg z]; have z0:k1=0:=by omega
   subst z0; exact lo2c_ok M S m2 h1 (by omega) (by omega) c3'
theorem lo2a_ok {N mg ac bc:Nat} (K:mD prog w A E s κ r a₀) (hk:kindOf st0=κ) (M:MPre r a₀ a b) (S:SameG st0 st) (m:MS r a b out.toList ia ib) (h1:ia+1<a.size) (h2:ib<b.size) (hN:N≤ia+1+ib):wpS (model prog w) A E s (lo2a a b out ia ib mg ac bc) (P2 r a b st0 N) st:=by
 unfold lo2a; rw [iX]; refine wpS_bind (wpS_modify ?_); have S:=S.set mg; refine wpS_bind (eZ h2 (wpS_bind (pU K (S.kind.trans hk) M.ma (M.mb _ (by simp)) (by omega) (by omega) (fun i j h1 h2 h3=>M.asa i j (by omega) h2 (by omega)) (fun i hi e=>M.ne (ia+i) ib (by omega) h2 (by rw [e,eR h2])) fun k c1 c2 c3=> ?_))); dsimp only; rw [← eR (r:=r) h2] at c2 c3; have m3:=m.extA' M (k:=k) (by omega) fun i hi j j1 j2=>bI (c2 i hi) (M.asb.le0 j1 j2)
 have c3':∀j,ia+k≤j→j<a.size→rkA r b ib<rkA r a j:=fun j j1 j2=>by
  have:=c3 (j - ia) (by omega) (by omega)
  rwa [show ia+(j - ia)=j by omega] at this
 have kl:ia+k<a.size:=by
  by_cases q:ia+k<a.size
  ·exact q
  ·have:=c2 (a.size - 1 - ia) (by omega); rw [show ia+(a.size - 1 - ia)=a.size - 1 by omega] at this; have:=M.last' ib h2; omega
 by_cases z:k>0
 ·rw [if_pos z]
  by_cases y:ia+k+1=a.size
  ·rw [if_pos (by simpa using y)]; exact wpS_pure ⟨S, .inl (yZ M m3 y)⟩
  ·rw [if_neg (by simpa using y),if_neg (by simp; omega)]; exact lo2b_ok K hk M S m3 (by omega) h2 (by omega) c3'
 ·rw [if_neg z]; have z0:k=0:=by omega
  subst z0; exact lo2b_ok K hk M S m (by omega) h2 (by omega) c3'
noncomputable def P1 (r:Keyed→Nat) (a b:Array Keyed) (st:SortSt) (N:Nat):ForInStep ML1→SortSt→Prop:=fun q st'=>st'=st∧match q with
 | .done c=>FIN r a b c.1∨OKm r a b N c.1 c.2.1 c.2.2.1 c.2.2.2.1
 | .yield c=>OKm r a b N c.1 c.2.1 c.2.2.1 c.2.2.2.1
theorem lo1_ok {N mg:Nat} {c:ML1} (K:mD prog w A E s κ r a₀) (hk:kindOf st=κ) (M:MPre r a₀ a b) (h:OKm r a b N c.1 c.2.1 c.2.2.1 c.2.2.2.1):wpS (model prog w) A E s (lo1 a b mg c) (P1 r a b st (N+1)) st:=by
 obtain ⟨o,out,ia,ib,ac,bc⟩:=c; obtain ⟨h0,m,h1,h2,hN⟩:=h; dsimp only at h0 m h1 h2 hN; unfold lo1; dsimp only; have h1':ia<a.size:=by omega
 refine wpS_bind (eZ h2 (wpS_bind (eZ h1' (wpS_bind (K.ask (M.mb _ (by simp)) (M.ma _ (by simp)) hk ?_))))); dsimp only
 by_cases q:r b[ib]<r a[ia]
 ·rw [if_pos (by simpa using q)]; refine wpS_bind (eZ h2 ?_); have q':rkA r b ib<rkA r a ia:=by rw [eR h2,eR h1']; exact q
  have m2:=m.pushB' M h2 fun j j1 j2=>bI q' (M.asa.le0 j1 j2)
  by_cases e:ib+1=b.size
  ·rw [if_pos (by simpa using e)]; exact wpS_pure ⟨rfl, .inl (fin_dA M m2 e)⟩
  ·rw [if_neg (by simpa using e)]
   split
   ·exact wpS_pure ⟨rfl, .inr ⟨rfl,m2,h1,by show ib+1<_; omega,by show _≤ia+(ib+1); omega⟩⟩
   ·exact wpS_pure ⟨rfl,rfl,m2,h1,by show ib+1<_; omega,by show _≤ia+(ib+1); omega⟩
 ·rw [if_neg (by simpa using q)]; refine wpS_bind (eZ h1' ?_)
  have q':rkA r a ia<rkA r b ib:=by have:=M.ne ia ib h1' h2; rw [eR h1',eR h2] at this ⊢; omega
  have m2:=m.pushA' M h1' fun j j1 j2=>bI q' (M.asb.le0 j1 j2)
  by_cases e:ia+1+1=a.size
  ·rw [if_pos (by simpa using e)]; exact wpS_pure ⟨rfl, .inl (yZ M m2 e)⟩
  ·rw [if_neg (by simpa using e)]
   split
   ·exact wpS_pure ⟨rfl, .inr ⟨rfl,m2,by show ia+1+1<_; omega,h2,by show _≤ia+1+ib; omega⟩⟩
   ·exact wpS_pure ⟨rfl,rfl,m2,by show ia+1+1<_; omega,h2,by show _≤ia+1+ib; omega⟩
noncomputable def P0 (r:Keyed→Nat) (a b:Array Keyed) (st0:SortSt) (N:Nat):ForInStep ML0→SortSt→Prop:=fun q st'=>SameG st0 st'∧match q with
 | .done c=>FIN r a b c.1
 | .yield c=>OKm r a b N c.1 c.2.1 c.2.2.1 c.2.2.2.1
theorem lo0_ok {N:Nat} {c:ML0} (K:mD prog w A E s κ r a₀) (hk:kindOf st0=κ) (M:MPre r a₀ a b) (S:SameG st0 st) (h:OKm r a b N c.1 c.2.1 c.2.2.1 c.2.2.2.1):wpS (model prog w) A E s (lo0 a b c) (P0 r a b st0 (N+1)) st:=by
 obtain ⟨o,out,ia,ib,mg⟩:=c; obtain ⟨h0,m,h1,h2,hN⟩:=h; dsimp only at h0 m h1 h2 hN; unfold lo0; dsimp only; refine wpS_bind (wpS_mono (wpS_forRange (I:=fun x d st'=>st'=st∧OKm r a b (N+x) d.1 d.2.1 d.2.2.1 d.2.2.2.1) (Q:=fun d st'=>st'=st∧(FIN r a b d.1∨OKm r a b (N+1) d.1 d.2.1 d.2.2.1 d.2.2.2.1)) ?step ?fin ⟨rfl,rfl,m,h1,h2,hN⟩) ?post)
 case step=>
  rintro x d st' _ hx ⟨rfl,hd⟩; refine wpS_mono (lo1_ok K (S.kind.trans hk) M hd) fun q st'' hq=> ?_
  obtain ⟨rfl,hq⟩:=hq; cases q with
  | done d=>exact ⟨rfl,hq.imp id fun z=>z.mono (by omega)⟩
  | yield d=>exact ⟨rfl,hq⟩
 case fin=>rintro d st' ⟨rfl,_,_,h3,h4,h5⟩; omega
 case post=>
  rintro d st' ⟨rfl,hd⟩; obtain ⟨o1,out,ia,ib,ac,bc⟩:=d
  rcases hd with ⟨res,e,hres⟩ | ⟨e,m,h1,h2,hN⟩
  ·dsimp only at e; subst e; exact wpS_pure ⟨S,res,rfl,hres⟩
  ·dsimp only at e m h1 h2 hN; subst e; dsimp only; refine wpS_bind (wpS_lift (wpAny_rule ⟨rfl, ?_⟩)); refine wpS_bind (wpS_mono (wpS_forRange (I:=fun x d st'=>SameG st0 st'∧OKm r a b (N+1+x) d.1 d.2.1 d.2.2.1 d.2.2.2.1) (Q:=fun d st'=>SameG st0 st'∧(FIN r a b d.1∨OKm r a b (N+1) d.1 d.2.1 d.2.2.1 d.2.2.2.1)) ?step2 ?fin2 ⟨S,rfl,m,h1,h2,hN⟩) ?post2)
   case step2=>
    rintro x ⟨o2,out,ia,ib,mg,ac,bc⟩ st' _ hx ⟨S,_,m,h1,h2,hN⟩; dsimp only at m h1 h2 hN; have key:∀mg,wpS (model prog w) A E s (lo2a a b out ia ib mg ac bc) (P2 r a b st0 (N+1+(x+1))) st':=fun mg=>lo2a_ok K hk M S m h1 h2 (by omega)
    unfold lo2; dsimp only
    split<;>
    ·refine wpS_mono (key _) fun q st'' hq=> ?_
     obtain ⟨S',hq⟩:=hq; cases q with
     | done d=>exact ⟨S',hq.imp id fun z=>z.mono (by omega)⟩
     | yield d=>exact ⟨S',hq⟩
   case fin2=>rintro d st' ⟨_,_,_,h3,h4,h5⟩; omega
   case post2=>
    rintro ⟨o2,out,ia,ib,mg,ac,bc⟩ st' ⟨S,hd⟩
    rcases hd with ⟨res,e,hres⟩ | ⟨e,m,h1,h2,hN⟩
    ·dsimp only at e; subst e; exact wpS_pure ⟨S,res,rfl,hres⟩
    ·dsimp only at e m h1 h2 hN; subst e; dsimp only; rw [iX]; exact wpS_bind (wpS_modify (wpS_pure ⟨S.set _,rfl,m,h1,h2,hN⟩))
theorem wpS_mergeLo {Q:Array Keyed→SortSt→Prop} (K:mD prog w A E s κ r a₀) (hk:kindOf st=κ) (M:MPre r a₀ a b)
  (h:∀out st',MD r a b out.toList→SameG st st'→Q out st'):wpS (model prog w) A E s (wV a b) Q st:=by
 rw [loM_eq]; unfold loM; refine wpS_bind (wpS_lift (wpAny_rule ⟨rfl, ?_⟩)); have b1:=M.b1; have a1:=M.a1; refine wpS_bind (eZ (by omega) ?_); have m0:MS r a b (#[]:Array Keyed).toList 0 0:=⟨by omega,by omega,by simp,by simp,fun x hx=>by simp at hx,fun x hx=>by simp at hx⟩; have m:MS r a b (#[b[0]]:Array Keyed).toList 0 1:=m0.pushB' M (by omega) fun j j1 j2=>bI M.first (M.asa.le0 j1 j2)
 by_cases e:1=b.size
 ·rw [if_pos (by simpa using e)]; obtain ⟨res,e2,hr⟩:=fin_dA M m e; cases e2; exact wpS_pure (h _ _ hr (.refl _))
 ·rw [if_neg (by simpa using e)]
  by_cases e1:0+1=a.size
  ·rw [if_pos (by simpa using e1)]; obtain ⟨res,e2,hr⟩:=yZ M m e1; cases e2; exact wpS_pure (h _ _ hr (.refl _))
  ·rw [if_neg (by simpa using e1)]; refine wpS_bind (wpS_get (wpS_bind (wpS_mono (wpS_forRange (I:=fun x d st'=>SameG st st'∧OKm r a b (x+1) d.1 d.2.1 d.2.2.1 d.2.2.2.1) (Q:=fun d st'=>SameG st st'∧FIN r a b d.1) ?step ?fin ⟨.refl _,rfl,m,by show 0+1<_; omega,by show 1<_; omega,aX _⟩) ?post)))
   case step=>
    rintro x d st' _ hx ⟨S,hd⟩; refine wpS_mono (lo0_ok K hk M S hd) fun q st'' hq=> ?_
    obtain ⟨S',hq⟩:=hq; cases q with
    | done d=>exact ⟨S',hq⟩
    | yield d=>exact ⟨S',hq⟩
   case fin=>rintro d st' ⟨_,_,_,h3,h4,h5⟩; omega
   case post=>rintro d st' ⟨S,res,e,hr⟩; rw [e]; exact wpS_pure (h _ _ hr S)
end
structure HS (r:Keyed→Nat) (a b:Array Keyed) (out:List Keyed) (na nb:Nat):Prop where
 ha:na≤a.size
 hb:nb≤b.size
 perm:out.Perm (a.toList.drop na++b.toList.drop nb)
 dsc:(out.map r).Pairwise (fun x y=>y<x)
 la:∀x∈out,∀i,i<na→rkA r a i<r x
 lb:∀x∈out,∀i,i<nb→rkA r b i<r x
section
variable {r:Keyed→Nat} {a b:Array Keyed} {out:List Keyed} {na nb:Nat}
theorem HS.swap (m:HS r a b out na nb):HS r b a out nb na:=⟨m.hb,m.ha,m.perm.trans iQ,m.dsc,m.lb,m.la⟩
theorem HS.pushA (m:HS r a b out (na+1) nb) (asa:AscR r a 0 a.size) (hb:∀j,j<nb→rkA r b j<rkA r a na):HS r a b (out++[a[na]'m.ha]) na nb:=by
 have h:na<a.size:=m.ha; refine ⟨eX h,m.hb, ?_, ?_,fun x hx i h1=> ?_,fun x hx i h1=> ?_⟩
 ·have e:a.toList.drop na=a[na]::a.toList.drop (na+1):=by rw [gH (by simpa using h)]; simp
  rw [e,List.cons_append]; exact (iQ).trans (List.Perm.cons _ m.perm)
 ·rw [bR,qG]; refine ⟨m.dsc,kH _ _,fun x hx y hy=> ?_⟩; obtain ⟨z,hz,rfl⟩:=bH.mp hx; have:y=r a[na]:=by simpa using hy
  rw [this,← eR (r:=r) h]; exact m.la z hz na (lU _)
 ·rcases bU.mp hx with hx | hx
  ·exact m.la x hx i (by omega)
  ·rw [aU.mp hx,← eR (r:=r) h]; exact asa i na (dA _) h1 h
 ·rcases bU.mp hx with hx | hx
  ·exact m.lb x hx i h1
  ·rw [aU.mp hx,← eR (r:=r) h]; exact hb i h1
theorem exr_succ {k:Nat} (h:k+1≤na) (h2:na≤a.size):(a.extract (na - (k+1)) na).toList.reverse=(a.extract (na - k) na).toList.reverse++[a[na - (k+1)]'(by omega)]:=by
 simp only [eM,dP]
 have e:a.toList.drop (na - (k+1))=a[na - (k+1)]'(by omega)::a.toList.drop (na - k):=by rw [gH (by simp; omega)]; rw [show na - (k+1)+1=na - k by omega]; simp
 rw [e,show na - (na - (k+1))=(na - (na - k))+1 by omega,List.take_succ_cons,List.reverse_cons]
theorem HS.extA (asa:AscR r a 0 a.size) (m:HS r a b out na nb):∀k,k≤na→(∀i,na - k≤i→i<na→∀j,j<nb→rkA r b j<rkA r a i)→HS r a b (out++(a.extract (na - k) na).toList.reverse) (na - k) nb
 | 0,_,_=>by
  have e:(a.extract (na - 0) na).toList.reverse=[]:=by simp [eM,dP]
  rw [e,dY]; exact m
 | k+1,h,hb=>by
  have ih:=HS.extA asa m k (by omega) fun i h1 h2=>hb i (by omega) h2
  rw [exr_succ h m.ha,← eW]; have e:na - k=na - (k+1)+1:=by omega
  rw [e] at ih; have:=ih.pushA asa (hb (na - (k+1)) (aX _) (by omega)); rw [show a.extract (na - k) na=a.extract (na - (k+1)+1) na by rw [e]]; exact this
theorem HS.extB (asb:AscR r b 0 b.size) (m:HS r a b out na nb) (k:Nat) (h:k≤nb) (hb:∀i,nb - k≤i→i<nb→∀j,j<na→rkA r a j<rkA r b i):HS r a b (out++(b.extract (nb - k) nb).toList.reverse) na (nb - k):=(m.swap.extA asb k h hb).swap
theorem HS.done (m:HS r a b out 0 0):MD r a b out.reverse:=by
 refine ⟨(List.reverse_perm _).trans ?_, ?_⟩
 ·have:=m.perm; simpa using this
 ·rw [List.map_reverse,List.pairwise_reverse]; exact m.dsc
theorem HS.finB (m:HS r a b out 0 nb) (asb:AscR r b 0 b.size):MD r a b ((b.extract 0 nb).toList++out.reverse):=by
 have:=m.extB asb nb (aX _) fun i h1 h2 j hj=>by omega
 rw [uI] at this; have:=this.done
 rwa [List.reverse_append,List.reverse_reverse] at this
theorem HS.finL (m:HS r a b out na 1) (asa:AscR r a 0 a.size) (asb:AscR r b 0 b.size) (first:∀i,i<a.size→rkA r b 0<rkA r a i):MD r a b ((b.extract 0 1).toList++(a.extract 0 na).toList++out.reverse):=by
 have ha:=m.ha
 have:=m.extA asa na (aX _) fun i h1 h2 j hj=>by
  have:j=0:=by omega
  subst this; exact first i (by omega)
 rw [uI] at this; have:=this.finB asb
 rwa [List.reverse_append,List.reverse_reverse,← eW] at this
end
noncomputable def vH:Array Keyed→Array Keyed→StateT SortSt Sem (Array Keyed):=sortPriv%PySem.Builtin.mergeHi
noncomputable abbrev MH1:=Option (Array Keyed) × Nat × Nat × Array Keyed × Nat × Nat
noncomputable abbrev MH2:=Option (Array Keyed) × Nat × Nat × Array Keyed × Nat × Nat × Nat
noncomputable abbrev MH0:=Option (Array Keyed) × Nat × Nat × Array Keyed × Nat
noncomputable def dnH (a b out:Array Keyed) (na nb:Nat):Array Keyed:=a.extract 0 na++b.extract 0 nb++out.reverse
noncomputable def fsB (a b out:Array Keyed) (na nb:Nat):Array Keyed:=b.extract 0 nb++a.extract 0 na++out.reverse
noncomputable def hi1 (a b:Array Keyed) (mg:Nat) (c:MH1):SM (ForInStep MH1):=do
 let y ← elem' b (c.2.2.1 - 1)
 let x ← elem' a (c.2.1 - 1)
 let q ← lt' y x
 match q with
 | some aw=>
  if aw=true then do
   let x ← elem' a (c.2.1 - 1)
   if (c.2.1 - 1==0)=true then pure (.done (some (dnH a b (c.2.2.2.1.push x) (c.2.1 - 1) c.2.2.1),c.2.1 - 1,c.2.2.1,c.2.2.2.1.push x,c.2.2.2.2.1+1,0))
   else if c.2.2.2.2.1+1≥mg then pure (.done (none,c.2.1 - 1,c.2.2.1,c.2.2.2.1.push x,c.2.2.2.2.1+1,0))
   else pure (.yield (none,c.2.1 - 1,c.2.2.1,c.2.2.2.1.push x,c.2.2.2.2.1+1,0))
  else do
   let y ← elem' b (c.2.2.1 - 1)
   if (c.2.2.1 - 1==1)=true then pure (.done (some (fsB a b (c.2.2.2.1.push y) c.2.1 (c.2.2.1 - 1)),c.2.1,c.2.2.1 - 1,c.2.2.2.1.push y,0,c.2.2.2.2.2+1))
   else if c.2.2.2.2.2+1≥mg then pure (.done (none,c.2.1,c.2.2.1 - 1,c.2.2.2.1.push y,0,c.2.2.2.2.2+1))
   else pure (.yield (none,c.2.1,c.2.2.1 - 1,c.2.2.2.1.push y,0,c.2.2.2.2.2+1))
 | _=>pure (.done (some (dnH a b c.2.2.2.1 c.2.1 c.2.2.1),c.2.1,c.2.2.1,c.2.2.2.1,c.2.2.2.2.1,c.2.2.2.2.2))
noncomputable def hi2c (a b out:Array Keyed) (na nb mg k k1:Nat):SM (ForInStep MH2):=do
 let x ← elem' a (na - 1)
 if (na - 1==0)=true then pure (.done (some (dnH a b (out.push x) (na - 1) nb),na - 1,nb,out.push x,mg,k,k1))
 else if (decide (k<7) && decide (k1<7))=true then pure (.done (none,na - 1,nb,out.push x,mg,k,k1))
 else pure (.yield (none,na - 1,nb,out.push x,mg,k,k1))
noncomputable def hi2b (a b out:Array Keyed) (na nb mg k bc:Nat):SM (ForInStep MH2):=do
 let y ← elem' b (nb - 1)
 if (nb - 1==1)=true then pure (.done (some (fsB a b (out.push y) na (nb - 1)),na,nb - 1,out.push y,mg,k,bc))
 else do
  let x ← elem' a (na - 1)
  let q ← mU true x b 0 (nb - 1) (nb - 1 - 1)
  match q with
  | some at_=>
   if nb - 1 - at_>0 then
    if (at_==1)=true then pure (.done (some (fsB a b (out.push y++(b.extract at_ (nb - 1)).reverse) na at_),na,at_,out.push y++(b.extract at_ (nb - 1)).reverse,mg,k,nb - 1 - at_))
    else if (at_==0)=true then pure (.done (some (dnH a b (out.push y++(b.extract at_ (nb - 1)).reverse) na at_),na,at_,out.push y++(b.extract at_ (nb - 1)).reverse,mg,k,nb - 1 - at_))
    else hi2c a b (out.push y++(b.extract at_ (nb - 1)).reverse) na at_ mg k (nb - 1 - at_)
   else hi2c a b (out.push y) na (nb - 1) mg k (nb - 1 - at_)
  | _=>pure (.done (some (dnH a b (out.push y) na (nb - 1)),na,nb - 1,out.push y,mg,k,bc))
noncomputable def hi2a (a b out:Array Keyed) (na nb mg ac bc:Nat):SM (ForInStep MH2):=do
 jH mg
 let y ← elem' b (nb - 1)
 let q ← mU false y a 0 na (na - 1)
 match q with
 | some at_=>
  if na - at_>0 then
   if (at_==0)=true then pure (.done (some (dnH a b (out++(a.extract at_ na).reverse) at_ nb),at_,nb,out++(a.extract at_ na).reverse,mg,na - at_,bc))
   else hi2b a b (out++(a.extract at_ na).reverse) at_ nb mg (na - at_) bc
  else hi2b a b out na nb mg (na - at_) bc
 | _=>pure (.done (some (dnH a b out na nb),na,nb,out,mg,ac,bc))
noncomputable def hi2 (a b:Array Keyed) (c:MH2):SM (ForInStep MH2):=
 if c.2.2.2.2.1>1 then hi2a a b c.2.2.2.1 c.2.1 c.2.2.1 (c.2.2.2.2.1 - 1) c.2.2.2.2.2.1 c.2.2.2.2.2.2
 else hi2a a b c.2.2.2.1 c.2.1 c.2.2.1 c.2.2.2.2.1 c.2.2.2.2.2.1 c.2.2.2.2.2.2
noncomputable def hi0 (a b:Array Keyed) (c:MH0):SM (ForInStep MH0):=do
 let d ← forIn [:a.size+b.size] ((none,c.2.1,c.2.2.1,c.2.2.2.1,0,0):MH1) fun _ d=>hi1 a b c.2.2.2.2 d
 match d.1 with
 | some r=>pure (.done (some r,d.2.1,d.2.2.1,d.2.2.2.1,c.2.2.2.2))
 | none=>do
  liftM (rule "list.sort.gallop")
  let e ← forIn [:a.size+b.size] ((none,d.2.1,d.2.2.1,d.2.2.2.1,c.2.2.2.2+1,d.2.2.2.2.1,d.2.2.2.2.2):MH2) fun _ e=>hi2 a b e
  match e.1 with
  | some r=>pure (.done (some r,e.2.1,e.2.2.1,e.2.2.2.1,e.2.2.2.2.1))
  | none=>do
   jH (e.2.2.2.2.1+1)
   pure (.yield (none,e.2.1,e.2.2.1,e.2.2.2.1,e.2.2.2.2.1+1))
noncomputable def hiM (a b:Array Keyed):SM (Array Keyed):=do
 liftM (rule "list.sort.merge-hi")
 let x ← elem' a (a.size - 1)
 if (a.size - 1==0)=true then pure (dnH a b #[x] (a.size - 1) b.size)
 else if (b.size==1)=true then pure (fsB a b #[x] (a.size - 1) b.size)
 else do
  let g ← get
  let c ← forIn [:a.size+b.size] ((none,a.size - 1,b.size, #[x],gallopOf g):MH0) fun _ c=>hi0 a b c
  match c.1 with
  | some r=>pure r
  | none=>liftM (unsupported "internal:list.sort.merge-bound":Sem (Array Keyed))
theorem hiM_eq (a b:Array Keyed):vH a b=hiM a b:=by kernel_rfl
noncomputable def OKh (r:Keyed→Nat) (a b:Array Keyed) (N:Nat) (o:Option (Array Keyed)) (out:Array Keyed) (na nb:Nat):Prop:=o=none∧HS r a b out.toList na nb∧1≤na∧2≤nb∧na+nb+N≤a.size+b.size
theorem OKh.mono {r:Keyed→Nat} {a b:Array Keyed} {N N':Nat} {o:Option (Array Keyed)} {out:Array Keyed} {na nb:Nat} (h:OKh r a b N o out na nb) (le:N'≤N):OKh r a b N' o out na nb:=⟨h.1,h.2.1,h.2.2.1,h.2.2.2.1,by have:=h.2.2.2.2; omega⟩
section
variable {prog:Program} {w:World} {A:Around} {E:Value→Shared→Prop} {s:Shared} {κ:SortKind} {r:Keyed→Nat} {a₀ a b out:Array Keyed} {st st0:SortSt} {na nb:Nat}
theorem MPre.first' (M:MPre r a₀ a b):∀i,i<a.size→rkA r b 0<rkA r a i:=fun i hi=>bI M.first (M.asa.le0 (dA _) hi)
theorem ex0 (xs:Array Keyed):(xs.extract 0 0).toList=[]:=by simp [eM,dP]
theorem fin_dH (M:MPre r a₀ a b) (m:HS r a b out.toList na nb) (h:na=0):FIN r a b (some (dnH a b out na nb)):=by subst h; refine ⟨_,rfl, ?_⟩; have:=m.finB M.asb; unfold dnH; rw [dW,dW,ex0,xE,lV]; exact this
theorem fin_fB (M:MPre r a₀ a b) (m:HS r a b out.toList na nb) (h:nb=1):FIN r a b (some (fsB a b out na nb)):=by subst h; refine ⟨_,rfl, ?_⟩; have:=m.finL M.asa M.asb M.first'; unfold fsB; rw [dW,dW,lV]; exact this
theorem HS.pushA' (M:MPre r a₀ a b) (m:HS r a b out.toList na nb) (h1:1≤na) (hb:∀j,j<nb→rkA r b j<rkA r a (na - 1)):HS r a b (out.push (a[na - 1]'(by have:=m.ha; omega))).toList (na - 1) nb:=by
 rw [kO]; have e:na=na - 1+1:=by omega
 have m':HS r a b out.toList (na - 1+1) nb:=by rw [← e]; exact m
 exact m'.pushA M.asa hb
theorem HS.pushB' (M:MPre r a₀ a b) (m:HS r a b out.toList na nb) (h1:1≤nb) (hb:∀j,j<na→rkA r a j<rkA r b (nb - 1)):HS r a b (out.push (b[nb - 1]'(by have:=m.hb; omega))).toList na (nb - 1):=by
 rw [kO]; have e:nb=nb - 1+1:=by omega
 have m':HS r a b out.toList na (nb - 1+1):=by rw [← e]; exact m
 exact (m'.swap.pushA M.asb hb).swap
theorem HS.extA' (M:MPre r a₀ a b) (m:HS r a b out.toList na nb) {t:Nat} (h:t≤na) (hb:∀i,t≤i→i<na→∀j,j<nb→rkA r b j<rkA r a i):HS r a b (out++(a.extract t na).reverse).toList t nb:=by rw [dW,lV]; have:=m.extA M.asa (na - t) (by omega) (by rw [show na - (na - t)=t by omega]; exact hb); rw [show na - (na - t)=t by omega] at this; exact this
theorem HS.extB' (M:MPre r a₀ a b) (m:HS r a b out.toList na nb) {t:Nat} (h:t≤nb) (hb:∀i,t≤i→i<nb→∀j,j<na→rkA r a j<rkA r b i):HS r a b (out++(b.extract t nb).reverse).toList na t:=by rw [dW,lV]; have:=m.extB M.asb (nb - t) (by omega) (by rw [show nb - (nb - t)=t by omega]; exact hb); rw [show nb - (nb - t)=t by omega] at this; exact this
noncomputable def H2 (r:Keyed→Nat) (a b:Array Keyed) (st0:SortSt) (N:Nat):ForInStep MH2→SortSt→Prop:=fun q st'=>SameG st0 st'∧match q with
 | .done c=>FIN r a b c.1∨OKh r a b N c.1 c.2.2.2.1 c.2.1 c.2.2.1
 | .yield c=>OKh r a b N c.1 c.2.2.2.1 c.2.1 c.2.2.1
theorem hi2c_ok {N mg k k1:Nat} (M:MPre r a₀ a b) (S:SameG st0 st) (m:HS r a b out.toList na nb) (h1:1≤na) (h2:2≤nb) (hN:na - 1+nb+N≤a.size+b.size) (hb:∀j,j<nb→rkA r b j<rkA r a (na - 1)):wpS (model prog w) A E s (hi2c a b out na nb mg k k1) (H2 r a b st0 N) st:=by
 unfold hi2c; have ha:=m.ha; refine wpS_bind (eZ (by omega) ?_); have m2:=m.pushA' M h1 hb
 by_cases e:na - 1=0
 ·rw [if_pos (by simpa using e)]; exact wpS_pure ⟨S, .inl (fin_dH M m2 e)⟩
 ·rw [if_neg (by simpa using e)]
  split
  ·exact wpS_pure ⟨S, .inr ⟨rfl,m2,by show 1≤na - 1; omega,h2,hN⟩⟩
  ·exact wpS_pure ⟨S,rfl,m2,by show 1≤na - 1; omega,h2,hN⟩
theorem hi2b_ok {N mg k bc:Nat} (K:mD prog w A E s κ r a₀) (hk:kindOf st0=κ) (M:MPre r a₀ a b) (S:SameG st0 st) (m:HS r a b out.toList na nb) (h1:1≤na) (h2:2≤nb) (hN:na - 1+nb+N≤a.size+b.size) (hb:∀j,j<na→rkA r a j<rkA r b (nb - 1)):wpS (model prog w) A E s (hi2b a b out na nb mg k bc) (H2 r a b st0 N) st:=by
 unfold hi2b; have ha:=m.ha; have hbb:=m.hb; refine wpS_bind (eZ (by omega) ?_); have m2:=m.pushB' M (by omega) hb
 by_cases e:nb - 1=1
 ·rw [if_pos (by simpa using e)]; exact wpS_pure ⟨S, .inl (fin_fB M m2 e)⟩
 ·rw [if_neg (by simpa using e)]; have h1':na - 1<a.size:=by omega
  refine wpS_bind (eZ h1' (wpS_bind (pU K (S.kind.trans hk) M.mb (M.ma _ (by simp)) (by omega) (by omega) (fun i j h1 h2 h3=>M.asb i j (by omega) h2 (by omega)) (fun i hi e=>M.ne (na - 1) i h1' (by omega) (by rw [uJ] at e; rw [e,eR h1'])) fun at_ c1 c2 c3=> ?_))); dsimp only; simp only [uJ] at c2 c3; rw [← eR (r:=r) h1'] at c2 c3; have m3:=m2.extB' M (t:=at_) c1 fun i i1 i2 j hj=>cD (M.asa.le0 (by omega) h1') (c3 i i1 i2)
  have a0:1≤at_:=by
   by_cases q:at_=0
   ·subst q; have:=c3 0 (aX _) (by omega); have:=M.first' (na - 1) h1'; omega
   ·omega
  by_cases z:nb - 1 - at_>0
  ·rw [if_pos z]
   by_cases y:at_=1
   ·rw [if_pos (by simpa using y)]; exact wpS_pure ⟨S, .inl (fin_fB M m3 y)⟩
   ·rw [if_neg (by simpa using y),if_neg (by simp; omega)]; exact hi2c_ok M S m3 h1 (by omega) (by omega) c2
  ·rw [if_neg z]; have z0:at_=nb - 1:=by omega
   subst z0; exact hi2c_ok M S m2 h1 (by omega) (by omega) c2
theorem hi2a_ok {N mg ac bc:Nat} (K:mD prog w A E s κ r a₀) (hk:kindOf st0=κ) (M:MPre r a₀ a b) (S:SameG st0 st) (m:HS r a b out.toList na nb) (h1:1≤na) (h2:2≤nb) (hN:na - 1+nb+N≤a.size+b.size):wpS (model prog w) A E s (hi2a a b out na nb mg ac bc) (H2 r a b st0 N) st:=by
 unfold hi2a; have ha:=m.ha; have hbb:=m.hb; rw [iX]; refine wpS_bind (wpS_modify ?_); have S:=S.set mg; have h2':nb - 1<b.size:=by omega
 refine wpS_bind (eZ h2' (wpS_bind (pU K (S.kind.trans hk) M.ma (M.mb _ (by simp)) (by omega) (by omega) (fun i j h1 h2 h3=>M.asa i j (by omega) h2 (by omega)) (fun i hi e=>M.ne i (nb - 1) (by omega) h2' (by rw [uJ] at e; rw [e,eR h2'])) fun at_ c1 c2 c3=> ?_))); dsimp only; simp only [uJ] at c2 c3; rw [← eR (r:=r) h2'] at c2 c3; have m3:=m.extA' M (t:=at_) c1 fun i i1 i2 j hj=>cD (M.asb.le0 (by omega) h2') (c3 i i1 i2)
 by_cases z:na - at_>0
 ·rw [if_pos z]
  by_cases y:at_=0
  ·rw [if_pos (by simpa using y)]; exact wpS_pure ⟨S, .inl (fin_dH M m3 y)⟩
  ·rw [if_neg (by simpa using y)]; exact hi2b_ok K hk M S m3 (by omega) h2 (by omega) c2
 ·rw [if_neg z]; have z0:at_=na:=by omega
  subst z0; exact hi2b_ok K hk M S m h1 h2 hN c2
noncomputable def H1 (r:Keyed→Nat) (a b:Array Keyed) (st:SortSt) (N:Nat):ForInStep MH1→SortSt→Prop:=fun q st'=>st'=st∧match q with
 | .done c=>FIN r a b c.1∨OKh r a b N c.1 c.2.2.2.1 c.2.1 c.2.2.1
 | .yield c=>OKh r a b N c.1 c.2.2.2.1 c.2.1 c.2.2.1
theorem hi1_ok {N mg:Nat} {c:MH1} (K:mD prog w A E s κ r a₀) (hk:kindOf st=κ) (M:MPre r a₀ a b) (h:OKh r a b N c.1 c.2.2.2.1 c.2.1 c.2.2.1):wpS (model prog w) A E s (hi1 a b mg c) (H1 r a b st (N+1)) st:=by
 obtain ⟨o,na,nb,out,ac,bc⟩:=c; obtain ⟨h0,m,h1,h2,hN⟩:=h; dsimp only at h0 m h1 h2 hN; unfold hi1; dsimp only; have ha:=m.ha; have hbb:=m.hb; have h1':na - 1<a.size:=by omega
 have h2':nb - 1<b.size:=by omega
 refine wpS_bind (eZ h2' (wpS_bind (eZ h1' (wpS_bind (K.ask (M.mb _ (by simp)) (M.ma _ (by simp)) hk ?_))))); dsimp only
 by_cases q:r b[nb - 1]<r a[na - 1]
 ·rw [if_pos (by simpa using q)]; refine wpS_bind (eZ h1' ?_); have q':rkA r b (nb - 1)<rkA r a (na - 1):=by rw [eR h1',eR h2']; exact q
  have m2:=m.pushA' M h1 fun j hj=>cD (M.asb.le0 (by omega) h2') q'
  by_cases e:na - 1=0
  ·rw [if_pos (by simpa using e)]; exact wpS_pure ⟨rfl, .inl (fin_dH M m2 e)⟩
  ·rw [if_neg (by simpa using e)]
   split
   ·exact wpS_pure ⟨rfl, .inr ⟨rfl,m2,by show 1≤na - 1; omega,h2,by show na - 1+nb+_≤_; omega⟩⟩
   ·exact wpS_pure ⟨rfl,rfl,m2,by show 1≤na - 1; omega,h2,by show na - 1+nb+_≤_; omega⟩
 ·rw [if_neg (by simpa using q)]; refine wpS_bind (eZ h2' ?_)
  have q':rkA r a (na - 1)<rkA r b (nb - 1):=by have:=M.ne (na - 1) (nb - 1) h1' h2'; rw [eR h1',eR h2'] at this ⊢; omega
  have m2:=m.pushB' M (by omega) fun j hj=>cD (M.asa.le0 (by omega) h1') q'
  by_cases e:nb - 1=1
  ·rw [if_pos (by simpa using e)]; exact wpS_pure ⟨rfl, .inl (fin_fB M m2 e)⟩
  ·rw [if_neg (by simpa using e)]
   split
   ·exact wpS_pure ⟨rfl, .inr ⟨rfl,m2,h1,by show 2≤nb - 1; omega,by show na+(nb - 1)+_≤_; omega⟩⟩
   ·exact wpS_pure ⟨rfl,rfl,m2,h1,by show 2≤nb - 1; omega,by show na+(nb - 1)+_≤_; omega⟩
noncomputable def H0 (r:Keyed→Nat) (a b:Array Keyed) (st0:SortSt) (N:Nat):ForInStep MH0→SortSt→Prop:=fun q st'=>SameG st0 st'∧match q with
 | .done c=>FIN r a b c.1
 | .yield c=>OKh r a b N c.1 c.2.2.2.1 c.2.1 c.2.2.1
theorem hi0_ok {N:Nat} {c:MH0} (K:mD prog w A E s κ r a₀) (hk:kindOf st0=κ) (M:MPre r a₀ a b) (S:SameG st0 st) (h:OKh r a b N c.1 c.2.2.2.1 c.2.1 c.2.2.1):wpS (model prog w) A E s (hi0 a b c) (H0 r a b st0 (N+1)) st:=by
 obtain ⟨o,na,nb,out,mg⟩:=c; obtain ⟨h0,m,h1,h2,hN⟩:=h; dsimp only at h0 m h1 h2 hN; unfold hi0; dsimp only; refine wpS_bind (wpS_mono (wpS_forRange (I:=fun x d st'=>st'=st∧OKh r a b (N+x) d.1 d.2.2.2.1 d.2.1 d.2.2.1) (Q:=fun d st'=>st'=st∧(FIN r a b d.1∨OKh r a b (N+1) d.1 d.2.2.2.1 d.2.1 d.2.2.1)) ?step ?fin ⟨rfl,rfl,m,h1,h2,hN⟩) ?post)
 case step=>
  rintro x d st' _ hx ⟨rfl,hd⟩; refine wpS_mono (hi1_ok K (S.kind.trans hk) M hd) fun q st'' hq=> ?_
  obtain ⟨rfl,hq⟩:=hq; cases q with
  | done d=>exact ⟨rfl,hq.imp id fun z=>z.mono (by omega)⟩
  | yield d=>exact ⟨rfl,hq⟩
 case fin=>rintro d st' ⟨rfl,_,_,h3,h4,h5⟩; omega
 case post=>
  rintro d st' ⟨rfl,hd⟩; obtain ⟨o1,na,nb,out,ac,bc⟩:=d
  rcases hd with ⟨res,e,hres⟩ | ⟨e,m,h1,h2,hN⟩
  ·dsimp only at e; subst e; exact wpS_pure ⟨S,res,rfl,hres⟩
  ·dsimp only at e m h1 h2 hN; subst e; dsimp only; refine wpS_bind (wpS_lift (wpAny_rule ⟨rfl, ?_⟩)); refine wpS_bind (wpS_mono (wpS_forRange (I:=fun x d st'=>SameG st0 st'∧OKh r a b (N+1+x) d.1 d.2.2.2.1 d.2.1 d.2.2.1) (Q:=fun d st'=>SameG st0 st'∧(FIN r a b d.1∨OKh r a b (N+1) d.1 d.2.2.2.1 d.2.1 d.2.2.1)) ?step2 ?fin2 ⟨S,rfl,m,h1,h2,hN⟩) ?post2)
   case step2=>
    rintro x ⟨o2,na,nb,out,mg,ac,bc⟩ st' _ hx ⟨S,_,m,h1,h2,hN⟩; dsimp only at m h1 h2 hN; have key:∀mg,wpS (model prog w) A E s (hi2a a b out na nb mg ac bc) (H2 r a b st0 (N+1+(x+1))) st':=fun mg=>hi2a_ok K hk M S m h1 h2 (by omega)
    unfold hi2; dsimp only
    split<;>
    ·refine wpS_mono (key _) fun q st'' hq=> ?_
     obtain ⟨S',hq⟩:=hq; cases q with
     | done d=>exact ⟨S',hq.imp id fun z=>z.mono (by omega)⟩
     | yield d=>exact ⟨S',hq⟩
   case fin2=>rintro d st' ⟨_,_,_,h3,h4,h5⟩; omega
   case post2=>
    rintro ⟨o2,na,nb,out,mg,ac,bc⟩ st' ⟨S,hd⟩
    rcases hd with ⟨res,e,hres⟩ | ⟨e,m,h1,h2,hN⟩
    ·dsimp only at e; subst e; exact wpS_pure ⟨S,res,rfl,hres⟩
    ·dsimp only at e m h1 h2 hN; subst e; dsimp only; rw [iX]; exact wpS_bind (wpS_modify (wpS_pure ⟨S.set _,rfl,m,h1,h2,hN⟩))
theorem wpS_mergeHi {Q:Array Keyed→SortSt→Prop} (K:mD prog w A E s κ r a₀) (hk:kindOf st=κ) (M:MPre r a₀ a b)
  (h:∀out st',MD r a b out.toList→SameG st st'→Q out st'):wpS (model prog w) A E s (vH a b) Q st:=by
 rw [hiM_eq]; unfold hiM; refine wpS_bind (wpS_lift (wpAny_rule ⟨rfl, ?_⟩)); have b1:=M.b1; have a1:=M.a1; refine wpS_bind (eZ (by omega) ?_); have m0:HS r a b (#[]:Array Keyed).toList a.size b.size:=⟨aX _,aX _,by rw [List.drop_eq_nil_of_le (by simp),List.drop_eq_nil_of_le (by simp)]; exact .refl _,by simp,fun x hx=>by simp at hx,fun x hx=>by simp at hx⟩; have m:HS r a b (#[a[a.size - 1]]:Array Keyed).toList (a.size - 1) b.size:=m0.pushA' M a1 fun j hj=>M.last' j hj
 by_cases e:a.size - 1=0
 ·rw [if_pos (by simpa using e)]; obtain ⟨res,e2,hr⟩:=fin_dH M m e; cases e2; exact wpS_pure (h _ _ hr (.refl _))
 ·rw [if_neg (by simpa using e)]
  by_cases e1:b.size=1
  ·rw [if_pos (by simpa using e1)]; obtain ⟨res,e2,hr⟩:=fin_fB M m e1; cases e2; exact wpS_pure (h _ _ hr (.refl _))
  ·rw [if_neg (by simpa using e1)]; refine wpS_bind (wpS_get (wpS_bind (wpS_mono (wpS_forRange (I:=fun x d st'=>SameG st st'∧OKh r a b (x+1) d.1 d.2.2.2.1 d.2.1 d.2.2.1) (Q:=fun d st'=>SameG st st'∧FIN r a b d.1) ?step ?fin ⟨.refl _,rfl,m,by show 1≤a.size - 1; omega,by show 2≤b.size; omega,by show a.size - 1+b.size+(0+1)≤_; omega⟩) ?post)))
   case step=>
    rintro x d st' _ hx ⟨S,hd⟩; refine wpS_mono (hi0_ok K hk M S hd) fun q st'' hq=> ?_
    obtain ⟨S',hq⟩:=hq; cases q with
    | done d=>exact ⟨S',hq⟩
    | yield d=>exact ⟨S',hq⟩
   case fin=>rintro d st' ⟨_,_,_,h3,h4,h5⟩; omega
   case post=>rintro d st' ⟨S,res,e,hr⟩; rw [e]; exact wpS_pure (h _ _ hr S)
end
noncomputable abbrev Pnd:=Array (Nat × Nat × Nat)
noncomputable def wbA (sa:Nat) (m:Array Keyed) (xs:Array Keyed):Array Keyed:=m.toList.zipIdx.foldl (fun a (q:Keyed × Nat)=>a.setIfInBounds (sa+q.2) q.1) xs
noncomputable def mgC (x y:Array Keyed) (na nb sa:Nat):SM Bool:=do
 let merged ← if na≤nb then wV x y else vH x y
 modify fun s=>setArr s (wbA sa merged (arrOf s))
 let s ← get
 pure (failedOf s).isNone
noncomputable def mgB (xs:Array Keyed) (sa na sb nb:Nat):SM Bool:=do
 if (na==0)=true then pure true
 else do
  let x ← elem' xs (sa+na - 1)
  let q ← mU true x xs sb nb (nb - 1)
  match q with
  | some nb=>if (nb==0)=true then pure true else mgC (xs.extract sa sb) (xs.extract sb (sb+nb)) na nb sa
  | _=>pure false
noncomputable def mgA (i:Nat):SM Bool:=do
 let s ← get
 match (pendingOf s)[i]?,(pendingOf s)[i+1]? with
 | some (sa,na,pw),some (sb,nb,_)=>do
  set (setPending s (((pendingOf s).setIfInBounds i (sa,na+nb,pw)).eraseIdxIfInBounds (i+1)))
  let y ← elem' (arrOf s) sb
  let q ← mU false y (arrOf s) sa na 0
  match q with
  | some k=>mgB (arrOf s) (sa+k) (na - k) sb nb
  | _=>pure false
 | _,_=>liftM (unsupported "internal:list.sort.pending":Sem Bool)
theorem mgA_eq (i:Nat):mergeAt' i=mgA i:=by kernel_rfl
noncomputable def srIn (pw:Nat):SM (ForInStep (Option Unit × Unit)):=do
 let s ← get
 match (if (pendingOf s).size>1 then (pendingOf s)[(pendingOf s).size - 2]? else none) with
 | some (_,_,older)=>
  if older≤pw then pure (.done (none,()))
  else do
   let b ← mergeAt' ((pendingOf s).size - 2)
   if (!b)=true then pure (.done (some (),())) else pure (.yield (none,()))
 | _=>pure (.done (none,()))
noncomputable def srPush (lo n size:Nat):SM (ForInStep (Option Unit × Nat)):=do
 let s ← get
 match (pendingOf s).back? with
 | some (s1,n1,_)=>do
  let c ← forIn [:size] ((none,()):Option Unit × Unit) fun _ _=>srIn (power' size (2 * s1+n1) (2 * s1+n1+n1+n) size)
  match c.1 with
  | some r=>pure (.done (some r,lo))
  | none=>do
   modify fun s=>setPending s ((pendingOf s).modify ((pendingOf s).size - 1) fun (st,len,_)=>(st,len,power' size (2 * s1+n1) (2 * s1+n1+n1+n) size))
   modify fun s=>setPending s ((pendingOf s).push (lo,n,0))
   pure (.yield (none,lo+n))
 | _=>do
  modify fun s=>setPending s ((pendingOf s).push (lo,n,0))
  pure (.yield (none,lo+n))
noncomputable def srBody (size minrun:Nat) (c:Option Unit × Nat):SM (ForInStep (Option Unit × Nat)):=
 if c.2≥size then pure (.done (none,c.2))
 else do
  let f ← countRun' c.2 (size - c.2)
  match f with
  | some found=>
   if found<minrun then do
    liftM (rule "list.sort.binary-insertion")
    let b ← binarySort' c.2 (min (size - c.2) minrun) found
    if (!b)=true then pure (.done (some (),c.2)) else srPush c.2 (min (size - c.2) minrun) size
   else srPush c.2 found size
  | _=>pure (.done (some (),c.2))
noncomputable def srEnd:SM (ForInStep (Option Unit × Unit)):=do
 let s ← get
 if (pendingOf s).size≤1 then pure (.done (none,()))
 else do
  let b ← mergeAt' (if ((if (pendingOf s).size - 2>0 then (pendingOf s)[(pendingOf s).size - 2 - 1]?.map (·.2.1) else none).any (·<((pendingOf s)[(pendingOf s).size - 2+1]?.elim 0 (·.2.1))))=true then (pendingOf s).size - 2 - 1 else (pendingOf s).size - 2)
  if (!b)=true then pure (.done (some (),())) else pure (.yield (none,()))
noncomputable def srM:SM Unit:=do
 let s ← get
 let c ← forIn [:(arrOf s).size] ((none,0):Option Unit × Nat) fun _ c=>srBody (arrOf s).size (minRun' (arrOf s).size (arrOf s).size 0) c
 match c.1 with
 | some r=>pure r
 | none=>do
  let d ← forIn [:(arrOf s).size] ((none,()):Option Unit × Unit) fun _ _=>srEnd
  match d.1 with
  | some r=>pure r
  | none=>pure ()
theorem srM_eq:sortRuns'=srM:=by kernel_rfl
section
variable {r:Keyed→Nat} {xs:Array Keyed}
theorem rk_ext {i j t:Nat} (h:i+t<j) (hj:j≤xs.size):rkA r (xs.extract i j) t=rkA r xs (i+t):=by refine iG ?_; rw [Array.getElem?_extract,if_pos (by omega)]
theorem wb_get (sa t:Nat):∀ (l:List Keyed) (n:Nat) (xs:Array Keyed),sa+n+l.length≤xs.size→((l.zipIdx n).foldl (fun a (q:Keyed × Nat)=>a.setIfInBounds (sa+q.2) q.1) xs)[t]? =if sa+n≤t∧t<sa+n+l.length then l[t - (sa+n)]? else xs[t]?
 | [],n,xs,_=>by rw [if_neg (by rw [hG]; omega)]; rfl
 | p::l,n,xs,h=>by
  rw [cM] at h
  have S:(xs.setIfInBounds (sa+n) p)[t]? =if sa+n=t then some p else xs[t]? :=by
   rw [Array.getElem?_setIfInBounds]
   by_cases e:sa+n=t
   ·rw [if_pos e,if_pos e,if_pos (by omega)]
   ·rw [if_neg e,if_neg e]
  rw [List.zipIdx_cons,List.foldl_cons,wb_get sa t l (n+1) _ (by rw [Array.size_setIfInBounds]; omega),cM,S]
  by_cases e:sa+n=t
  ·rw [if_neg (show ¬ (sa+(n+1)≤t∧t<sa+(n+1)+l.length) by omega),if_pos e,if_pos (show sa+n≤t∧t<sa+n+(l.length+1) by omega),show t - (sa+n)=0 by omega]; rfl
  ·by_cases q:sa+(n+1)≤t∧t<sa+(n+1)+l.length
   ·rw [if_pos q,if_pos (show sa+n≤t∧t<sa+n+(l.length+1) by omega),show t - (sa+n)=t - (sa+(n+1))+1 by omega,List.getElem?_cons_succ]
   ·rw [if_neg q,if_neg e,if_neg (show ¬ (sa+n≤t∧t<sa+n+(l.length+1)) by omega)]
theorem wb_at {sa:Nat} {m:Array Keyed} (h:sa+m.size≤xs.size) (t:Nat):(wbA sa m xs)[t]? =if sa≤t∧t<sa+m.size then m[t - sa]? else xs[t]? :=by have:=wb_get sa t m.toList 0 xs (by simpa using h); unfold wbA; rw [this]; simp
theorem wb_list {sa:Nat} {m:Array Keyed} (h:sa+m.size≤xs.size):(wbA sa m xs).toList=xs.toList.take sa++(m.toList++xs.toList.drop (sa+m.size)):=by
 apply uD; intro t; rw [eG,wb_at h]; have l1:(xs.toList.take sa).length=sa:=by rw [dU]; simp; omega
 by_cases h1:t<sa
 ·rw [if_neg (by omega),gZ (by rw [l1]; exact h1),List.getElem?_take_of_lt h1,eG]
 ·rw [gU (by rw [l1]; omega),l1]
  by_cases h2:t<sa+m.size
  ·rw [if_pos ⟨by omega,h2⟩,gZ (by simp; omega),eG]
  ·rw [if_neg (by omega),gU (by simp; omega),List.getElem?_drop,cQ]; rw [show sa+m.size+(t - sa - m.size)=t by omega,eG]
theorem split_list {sa n:Nat} (h:sa+n≤xs.size):xs.toList=xs.toList.take sa++((xs.extract sa (sa+n)).toList++xs.toList.drop (sa+n)):=by
 rw [eM,dP,show sa+n - sa=n by omega]; have e:xs.toList.drop (sa+n)=(xs.toList.drop sa).drop n:=by rw [List.drop_drop]
 rw [e,lO,lO]
theorem wb_perm {sa:Nat} {m:Array Keyed} (h:sa+m.size≤xs.size) (hp:m.toList.Perm (xs.extract sa (sa+m.size)).toList):(wbA sa m xs).Perm xs:=by apply gT.mpr; rw [wb_list h]; refine List.Perm.trans ?_ (List.Perm.of_eq (split_list (xs:=xs) h).symm); exact List.Perm.append_left _ (List.Perm.append_right _ hp)
theorem ext_app {i j k:Nat} (h1:i≤j) (h2:j≤k) (h3:k≤xs.size):(xs.extract i j).toList++(xs.extract j k).toList=(xs.extract i k).toList:=by simp only [eM,dP]; rw [show k - i=(j - i)+(k - j) by omega,List.take_add,List.drop_drop,show i+(j - i)=j by omega]
end
section
variable {prog:Program} {w:World} {A:Around} {E:Value→Shared→Prop} {s:Shared} {κ:SortKind} {r:Keyed→Nat} {a₀:Array Keyed} {st st':SortSt}
theorem wpS_set {st2:SortSt} {Q:PUnit→SortSt→Prop} (h:Q ⟨⟩ st2):wpS (model prog w) A E s (set st2:StateT SortSt Sem PUnit) Q st:=by unfold wpS; rw [StateT.run_set]; exact wpAny_pure ⟨rfl,h⟩
theorem wpS_mergeAt {i sa na pw sb nb pw':Nat} {Q:Bool→SortSt→Prop} (K:mD prog w A E s κ r a₀) (hB:SB κ a₀ st) (p1:(pendingOf st)[i]? =some (sa,na,pw)) (p2:(pendingOf st)[i+1]? =some (sb,nb,pw')) (hs:sb=sa+na) (n1:1≤na) (n2:1≤nb) (hz:sb+nb≤a₀.size)
  (A1:AscR r (arrOf st) sa sb) (A2:AscR r (arrOf st) sb (sb+nb))
  (h:∀st',SB κ a₀ st'→pendingOf st'=((pendingOf st).setIfInBounds i (sa,na+nb,pw)).eraseIdxIfInBounds (i+1)→(∀k,k<sa∨sb+nb≤k→(arrOf st')[k]? =(arrOf st)[k]?)→AscR r (arrOf st') sa (sb+nb)→Q true st'):wpS (model prog w) A E s (mergeAt' i) Q st:=by
 have sz:=hB.size; have mem:∀x∈(arrOf st).toList,x∈a₀.toList:=fun x hx=>(gT.mp hB.perm).mem_iff.mp hx
 rw [mgA_eq]; unfold mgA; refine wpS_bind (wpS_get ?_); rw [p1,p2]; dsimp only; refine wpS_bind (wpS_set ?_); have hB1:SB κ a₀ (setPending st (((pendingOf st).setIfInBounds i (sa,na+nb,pw)).eraseIdxIfInBounds (i+1))):=⟨hB.perm,hB.kind,hB.failed⟩
 have h1:∀st',SameG (setPending st (((pendingOf st).setIfInBounds i (sa,na+nb,pw)).eraseIdxIfInBounds (i+1))) st'→AscR r (arrOf st) sa (sb+nb)→Q true st':=fun st' S a=>by refine h st' ⟨by rw [S.arr]; exact hB.perm,by rw [S.kind]; exact hB.kind,by rw [S.failed]; exact hB.failed⟩ S.pend (fun k _=>by rw [S.arr]) ?_; rw [S.arr]; exact a
 have hsb:sb<(arrOf st).size:=by omega
 refine wpS_bind (eZ hsb (wpS_bind (pU K hB1.kind mem (mem _ (by simp)) (by omega) (by omega) (by rw [← hs]; exact A1) (fun j hj e=> ?_) fun k c1 c2 c3=> ?_)))
 ·rw [← eR (r:=r) hsb] at e; exact hB.ne K (i:=sa+j) (j:=sb) (by omega) (by omega) (by omega) e
 rw [← eR (r:=r) hsb] at c2 c3
 have c2':∀j,sa≤j→j<sa+k→rkA r (arrOf st) j<rkA r (arrOf st) sb:=fun j j1 j2=>by
  have:=c2 (j - sa) (by omega)
  rwa [show sa+(j - sa)=j by omega] at this
 have c3':∀j,sa+k≤j→j<sb→rkA r (arrOf st) sb<rkA r (arrOf st) j:=fun j j1 j2=>by
  have:=c3 (j - sa) (by omega) (by omega)
  rwa [show sa+(j - sa)=j by omega] at this
 have A2l:∀j,sb≤j→j<sb+nb→rkA r (arrOf st) sb≤rkA r (arrOf st) j:=fun j j1 j2=>by
  by_cases e:j=sb
  ·rw [e]; exact aX _
  ·exact eX (A2 sb j (aX _) (by omega) j2)
 dsimp only; unfold mgB
 by_cases e0:na - k=0
 ·rw [if_pos (by simpa using e0)]; refine wpS_pure (h1 _ (.refl _) fun i j i1 ij j1=> ?_)
  by_cases q1:j<sb
  ·exact A1 i j i1 ij q1
  ·by_cases q2:i<sb
   ·exact bI (c2' i i1 (by omega)) (A2l j (by omega) j1)
   ·exact A2 i j (by omega) ij j1
 ·rw [if_neg (by simpa using e0)]; have ekn:sa+k+(na - k) - 1=sb - 1:=by omega
  have hkb:sb - 1<(arrOf st).size:=by omega
  rw [ekn]; refine wpS_bind (eZ hkb (wpS_bind (pU K hB1.kind mem (mem _ (by simp)) (by omega) (by omega) A2 (fun j hj e=> ?_) fun n2' d1 d2 d3=> ?_)))
  ·rw [← eR (r:=r) hkb] at e; exact hB.ne K (i:=sb+j) (j:=sb - 1) (by omega) (by omega) (by omega) e
  rw [← eR (r:=r) hkb] at d2 d3
  have d2':∀j,sb≤j→j<sb+n2'→rkA r (arrOf st) j<rkA r (arrOf st) (sb - 1):=fun j j1 j2=>by
   have:=d2 (j - sb) (by omega)
   rwa [show sb+(j - sb)=j by omega] at this
  have d3':∀j,sb+n2'≤j→j<sb+nb→rkA r (arrOf st) (sb - 1)<rkA r (arrOf st) j:=fun j j1 j2=>by
   have:=d3 (j - sb) (by omega) (by omega)
   rwa [show sb+(j - sb)=j by omega] at this
  have n2p:n2'≠0:=fun z=>by subst z; have a:=d3' sb (by omega) (by omega); have b:=c3' (sb - 1) (by omega) (by omega); omega
  dsimp only; rw [if_neg (by simpa using n2p)]; unfold mgC
  have M:MPre r a₀ ((arrOf st).extract (sa+k) sb) ((arrOf st).extract sb (sb+n2')):=by
   have s1:((arrOf st).extract (sa+k) sb).size=sb - (sa+k):=by rw [jY]; omega
   have s2:((arrOf st).extract sb (sb+n2')).size=n2':=by rw [jY]; omega
   have e1:∀t,t<sb - (sa+k)→rkA r ((arrOf st).extract (sa+k) sb) t=rkA r (arrOf st) (sa+k+t):=fun t ht=>rk_ext (by omega) (by omega)
   have e2:∀t,t<n2'→rkA r ((arrOf st).extract sb (sb+n2')) t=rkA r (arrOf st) (sb+t):=fun t ht=>rk_ext (by omega) (by omega)
   refine ⟨by omega,by omega,fun i j _ ij j1=> ?_,fun i j _ ij j1=> ?_,fun x hx=> ?_,fun x hx=> ?_,fun i j i1 j1=> ?_, ?_, ?_⟩
   ·rw [s1] at j1; rw [e1 i (by omega),e1 j j1]; exact A1 _ _ (by omega) (by omega) (by omega)
   ·rw [s2] at j1; rw [e2 i (by omega),e2 j j1]; exact A2 _ _ (by omega) (by omega) (by omega)
   ·rw [eM,dP] at hx; exact mem x (List.mem_of_mem_drop (qH hx))
   ·rw [eM,dP] at hx; exact mem x (List.mem_of_mem_drop (qH hx))
   ·rw [s1] at i1; rw [s2] at j1; rw [e1 i i1,e2 j j1]; exact hB.ne K (by omega) (by omega) (by omega)
   ·rw [e1 0 (by omega),e2 0 (by omega)]; exact c3' _ (by omega) (by omega)
   ·rw [s1,s2,e1 _ (by omega),e2 _ (by omega),show sa+k+(sb - (sa+k) - 1)=sb - 1 by omega]; exact d2' _ (by omega) (by omega)
  have fin:∀out st',MD r ((arrOf st).extract (sa+k) sb) ((arrOf st).extract sb (sb+n2')) out.toList→SameG (setPending st (((pendingOf st).setIfInBounds i (sa,na+nb,pw)).eraseIdxIfInBounds (i+1))) st'→wpS (model prog w) A E s (do
    modify fun s=>setArr s (wbA (sa+k) out (arrOf s))
    let s ← get
    pure (failedOf s).isNone) Q st':=fun out st' D S=>by
   refine wpS_bind (wpS_modify (wpS_bind (wpS_get (wpS_pure ?_))))
   have ep:out.toList.Perm ((arrOf st).extract (sa+k) (sb+n2')).toList:=by
    have:=D.1
    rwa [ext_app (by omega) (by omega) (by omega)] at this
   have sO:out.size=sb+n2' - (sa+k):=by have:=ep.length_eq; rw [cQ,cQ,jY] at this; omega
   have hz2:sa+k+out.size≤(arrOf st).size:=by omega
   have ep2:out.toList.Perm ((arrOf st).extract (sa+k) (sa+k+out.size)).toList:=by rw [sO,show sa+k+(sb+n2' - (sa+k))=sb+n2' by omega]; exact ep
   have ff:failedOf (setArr st' (wbA (sa+k) out (arrOf st')))=none:=by show failedOf st'=none; rw [S.failed]; exact hB.failed
   rw [ff]; have arr':arrOf st'=arrOf st:=S.arr
   have at_:∀t,(arrOf (setArr st' (wbA (sa+k) out (arrOf st'))))[t]? =if sa+k≤t∧t<sb+n2' then out[t - (sa+k)]? else (arrOf st)[t]? :=fun t=>by show (wbA (sa+k) out (arrOf st'))[t]? =_; rw [arr',wb_at hz2,sO,show sa+k+(sb+n2' - (sa+k))=sb+n2' by omega]
   refine h _ ⟨?_, ?_,ff⟩ ?_ (fun t ht=>by rw [at_,if_neg (by omega)]) ?_
   ·show (wbA (sa+k) out (arrOf st')).Perm a₀; rw [arr']; exact (wb_perm hz2 ep2).trans hB.perm
   ·show kindOf st'=κ; rw [S.kind]; exact hB.kind
   ·show pendingOf st'=_; rw [S.pend]
   ·have rin:∀t,sa+k≤t→t<sb+n2'→rkA r (arrOf (setArr st' (wbA (sa+k) out (arrOf st')))) t=rkA r out (t - (sa+k)):=fun t t1 t2=>iG (by rw [at_,if_pos ⟨t1,t2⟩])
    have rout:∀t,t<sa+k∨sb+n2'≤t→rkA r (arrOf (setArr st' (wbA (sa+k) out (arrOf st')))) t=rkA r (arrOf st) t:=fun t ht=>iG (by rw [at_,if_neg (by omega)])
    have mo:∀u,u<out.size→∃v,sa+k≤v∧v<sb+n2'∧rkA r out u=rkA r (arrOf st) v:=fun u hu=>by
     have hm:out[u]∈((arrOf st).extract (sa+k) (sb+n2')).toList:=ep.mem_iff.mp (by simp); obtain ⟨v,hv,ev⟩:=fR hm
     have hv':v<sb+n2' - (sa+k):=by have:=hv; rw [cQ,jY] at this; omega
     refine ⟨sa+k+v,by omega,by omega, ?_⟩; rw [eR hu,← ev,← rk_ext (xs:=arrOf st) (i:=sa+k) (j:=sb+n2') (t:=v) (by omega) (by omega)]; rw [eR (by rw [jY]; omega)]; simp
    have asO:∀u v,u<v→v<out.size→rkA r out u<rkA r out v:=fun u v uv hv=>by have:=(nI.mp D.2) u v (by simp; omega) (by simpa using hv) uv; rw [eR (by omega),eR hv]; simpa using this
    have low:∀t u,sa≤t→t<sa+k→u<out.size→rkA r (arrOf st) t<rkA r out u:=fun t u t1 t2 hu=>by
     obtain ⟨v,v1,v2,ev⟩:=mo u hu; rw [ev]
     by_cases q:v<sb
     ·exact A1 t v t1 (by omega) q
     ·exact bI (c2' t t1 t2) (A2l v (by omega) (by omega))
    have high:∀t u,sb+n2'≤t→t<sb+nb→u<out.size→rkA r out u<rkA r (arrOf st) t:=fun t u t1 t2 hu=>by
     obtain ⟨v,v1,v2,ev⟩:=mo u hu; rw [ev]
     by_cases q:v<sb
     ·refine cD ?_ (d3' t t1 t2)
      by_cases e:v=sb - 1
      ·rw [e]; exact aX _
      ·exact eX (A1 v (sb - 1) (by omega) (by omega) (by omega))
     ·exact A2 v t (by omega) (by omega) t2
    intro u v u1 uv v1
    by_cases q1:u<sa+k
    ·rw [rout u (.inl q1)]
     by_cases q2:v<sa+k
     ·rw [rout v (.inl q2)]; exact A1 u v u1 uv (by omega)
     ·by_cases q3:v<sb+n2'
      ·rw [rin v (by omega) q3]; exact low _ _ u1 q1 (by omega)
      ·rw [rout v (.inr (by omega))]; exact bI (c2' u u1 q1) (A2l v (by omega) v1)
    ·by_cases q2:u<sb+n2'
     ·rw [rin u (by omega) q2]
      by_cases q3:v<sb+n2'
      ·rw [rin v (by omega) q3]; exact asO _ _ (by omega) (by omega)
      ·rw [rout v (.inr (by omega))]; exact high _ _ (by omega) v1 (by omega)
     ·rw [rout u (.inr (by omega)),rout v (.inr (by omega))]; exact A2 u v (by omega) uv v1
  dsimp only
  split
  ·exact wpS_bind (wpS_mergeLo K hB1.kind M fin)
  ·exact wpS_bind (wpS_mergeHi K hB1.kind M fin)
end
noncomputable def Runs (r:Keyed→Nat) (xs:Array Keyed):Nat→List (Nat × Nat × Nat)→Nat→Prop
 | s,[],e=>s=e
 | s,p::l,e=>p.1=s∧1≤p.2.1∧AscR r xs s (s+p.2.1)∧Runs r xs (s+p.2.1) l e
section
variable {r:Keyed→Nat} {xs ys:Array Keyed}
theorem AscR.keep {s e:Nat} (h:AscR r xs s e) (k:∀t,s≤t→t<e→ys[t]? =xs[t]?):AscR r ys s e:=fun i j hi hij hj=>by rw [iG (k i hi (by omega)),iG (k j (by omega) hj)]; exact h i j hi hij hj
theorem Runs.le:∀ {l:List (Nat × Nat × Nat)} {s e:Nat},Runs r xs s l e→s+l.length≤e
 | [],s,e,h=>by rw [show s=e from h]; exact aX _
 | p::l,s,e,⟨_,h1,_,h2⟩=>by have:=h2.le; rw [cM]; omega
theorem Runs.keep:∀ {l:List (Nat × Nat × Nat)} {s e:Nat},Runs r xs s l e→(∀t,s≤t→t<e→ys[t]? =xs[t]?)→Runs r ys s l e
 | [],_,_,h,_=>h
 | p::l,s,e,⟨h0,h1,h2,h3⟩,k=>by have:=h3.le; exact ⟨h0,h1,h2.keep fun t t1 t2=>k t t1 (by omega),h3.keep fun t t1 t2=>k t (by omega) t2⟩
theorem Runs.split:∀ {l1 l2:List (Nat × Nat × Nat)} {s e:Nat},Runs r xs s (l1++l2) e→∃m,Runs r xs s l1 m∧Runs r xs m l2 e
 | [],l2,s,e,h=>⟨s,rfl,h⟩
 | p::l1,l2,s,e,⟨h0,h1,h2,h3⟩=>by obtain ⟨m,a,b⟩:=Runs.split h3; exact ⟨m,⟨h0,h1,h2,a⟩,b⟩
theorem Runs.app:∀ {l1 l2:List (Nat × Nat × Nat)} {s m e:Nat},Runs r xs s l1 m→Runs r xs m l2 e→Runs r xs s (l1++l2) e
 | [],l2,s,m,e,h,h2=>by rw [show s=m from h]; exact h2
 | p::l1,l2,s,m,e,⟨h0,h1,h2,h3⟩,b=>⟨h0,h1,h2,Runs.app h3 b⟩
theorem Runs.pow {l1:List (Nat × Nat × Nat)} {x y:Nat × Nat × Nat} {s e:Nat} (h:Runs r xs s (l1++[x]) e) (h1:y.1=x.1) (h2:y.2.1=x.2.1):Runs r xs s (l1++[y]) e:=by obtain ⟨m,a,b⟩:=h.split; refine a.app ?_; obtain ⟨b0,b1,b2,b3⟩:=b; exact ⟨h1.trans b0,by rw [h2]; exact b1,by rw [h2]; exact b2,by rw [h2]; exact b3⟩
theorem pnd_at {p:Pnd} {i:Nat} (h:i+1<p.size) (v:Nat × Nat × Nat):p.toList=p.toList.take i++p[i]::p[i+1]::p.toList.drop (i+2)∧((p.setIfInBounds i v).eraseIdxIfInBounds (i+1)).toList=p.toList.take i++v::p.toList.drop (i+2):=by
 have e1:p.toList=p.toList.take i++p[i]::p[i+1]::p.toList.drop (i+2):=by
  have a:p.toList.drop i=p[i]::p.toList.drop (i+1):=by rw [gH (by simp; omega)]; simp
  have b:p.toList.drop (i+1)=p[i+1]::p.toList.drop (i+1+1):=by rw [gH (by simp; omega)]; simp
  rw [← b,← a,lO]
 refine ⟨e1, ?_⟩; have l1:(p.toList.take i).length=i:=by rw [dU]; simp; omega
 rw [Array.toList_eraseIdxIfInBounds,Array.toList_setIfInBounds]; generalize p.toList.take i=u at e1 l1; generalize p.toList.drop (i+2)=z at e1; rw [e1]; rw [List.set_append_right _ _ (by omega),l1,uI,List.set_cons_zero,List.eraseIdx_append_of_length_le (by omega),l1,show i+1 - i=1 by omega]; rfl
end
section
variable {prog:Program} {w:World} {A:Around} {E:Value→Shared→Prop} {s:Shared} {κ:SortKind} {r:Keyed→Nat} {a₀:Array Keyed} {st st':SortSt}
theorem wpS_mrg {i e:Nat} {Q:Bool→SortSt→Prop} (K:mD prog w A E s κ r a₀) (hB:SB κ a₀ st) (R:Runs r (arrOf st) 0 (pendingOf st).toList e) (he:e≤a₀.size) (hi:i+1<(pendingOf st).size)
  (h:∀st',SB κ a₀ st'→Runs r (arrOf st') 0 (pendingOf st').toList e→(pendingOf st').size+1=(pendingOf st).size→(∀k,e≤k→(arrOf st')[k]? =(arrOf st)[k]?)→Q true st'):wpS (model prog w) A E s (mergeAt' i) Q st:=by
 obtain ⟨e1,_⟩:=pnd_at hi (0,0,0); have R0:=R; rw [e1] at R0; obtain ⟨m,R1,a1,a2,a3,b1,b2,b3,R2⟩:=R0.split
 have h1:(pendingOf st)[i]? =some (m,(pendingOf st)[i].2.1,(pendingOf st)[i].2.2):=by rw [getElem?_pos _ i (by omega)]; refine congrArg some ?_; rw [← a1]
 have h2:(pendingOf st)[i+1]? =some (m+(pendingOf st)[i].2.1,(pendingOf st)[i+1].2.1,(pendingOf st)[i+1].2.2):=by rw [getElem?_pos _ (i+1) (by omega)]; refine congrArg some ?_; rw [← b1]
 have l2:=R2.le; have l1:=R1.le; refine wpS_mergeAt K hB h1 h2 rfl a2 b2 (by omega) a3 b3 fun st' hB' hp hk ha=> ?_
 obtain ⟨_,e2⟩:=pnd_at hi (m,(pendingOf st)[i].2.1+(pendingOf st)[i+1].2.1,(pendingOf st)[i].2.2); have ep:(pendingOf st').toList=(pendingOf st).toList.take i++(m,(pendingOf st)[i].2.1+(pendingOf st)[i+1].2.1,(pendingOf st)[i].2.2)::(pendingOf st).toList.drop (i+2):=by rw [hp]; exact e2
 refine h st' hB' ?_ ?_ (fun k hk2=>hk k (.inr (by omega)))
 ·rw [ep]; refine (R1.keep fun t _ t2=>hk t (.inl t2)).app ⟨rfl,by show 1≤_+_; omega, ?_, ?_⟩
  ·show AscR r (arrOf st') m (m+(_+_)); rw [← Nat.add_assoc]; exact ha
  ·show Runs r (arrOf st') (m+(_+_)) _ e; rw [← Nat.add_assoc]; exact R2.keep fun t t1 _=>hk t (.inr t1)
 ·have:=congrArg qF ep; have q:=congrArg qF e1; simp only [cQ,bK,cM] at this q; omega
structure SR (κ:SortKind) (r:Keyed→Nat) (a₀:Array Keyed) (lo:Nat) (st:SortSt):Prop where
 sb:SB κ a₀ st
 runs:Runs r (arrOf st) 0 (pendingOf st).toList lo
theorem wpS_push {lo n:Nat} {Q:ForInStep (Option Unit × Nat)→SortSt→Prop} (K:mD prog w A E s κ r a₀) (S:SR κ r a₀ lo st) (n1:1≤n) (hn:lo+n≤a₀.size) (ha:AscR r (arrOf st) lo (lo+n)) (h:∀st',SR κ r a₀ (lo+n) st'→Q (.yield (none,lo+n)) st'):wpS (model prog w) A E s (srPush lo n a₀.size) Q st:=by
 unfold srPush; refine wpS_bind (wpS_get ?_)
 have fin:∀st',SR κ r a₀ lo st'→AscR r (arrOf st') lo (lo+n)→SR κ r a₀ (lo+n) (setPending st' ((pendingOf st').push (lo,n,0))):=fun st' S' ha'=>by refine ⟨⟨S'.sb.perm,S'.sb.kind,S'.sb.failed⟩, ?_⟩; show Runs r (arrOf st') 0 ((pendingOf st').push (lo,n,0)).toList (lo+n); rw [kO]; exact S'.runs.app ⟨rfl,n1,ha',rfl⟩
 cases hb:(pendingOf st).back? with
 | none=>exact wpS_bind (wpS_modify (wpS_pure (h _ (fin st S ha))))
 | some p=>
  obtain ⟨s1,n1',p1⟩:=p; dsimp only; generalize power' a₀.size (2 * s1+n1') (2 * s1+n1'+n1'+n) a₀.size=pw
  have ne0:1≤(pendingOf st).size:=by
   rcases Nat.eq_zero_or_pos (pendingOf st).size with z | z
   ·rw [Array.eq_empty_of_size_eq_zero z] at hb; cases hb
   ·exact z
  refine wpS_bind (wpS_mono (wpS_forRange (I:=fun _ c st'=>c=(none,())∧SR κ r a₀ lo st'∧1≤(pendingOf st').size∧AscR r (arrOf st') lo (lo+n)) (Q:=fun c st'=>c=(none,())∧SR κ r a₀ lo st'∧1≤(pendingOf st').size∧AscR r (arrOf st') lo (lo+n)) ?step (fun _ _ z=>z) ⟨rfl,S,ne0,ha⟩) ?post)
  case step=>
   rintro x c st' _ hx ⟨rfl,S',ne',ha'⟩; unfold srIn; refine wpS_bind (wpS_get ?_)
   by_cases q:(pendingOf st').size>1
   ·rw [if_pos q,getElem?_pos _ _ (by omega)]; dsimp only
    split
    ·exact wpS_pure ⟨rfl,S',ne',ha'⟩
    ·refine wpS_bind (wpS_mrg K S'.sb S'.runs (by omega) (by omega) fun st'' hB hr hs hk=> ?_); rw [if_neg (by decide)]; exact wpS_pure ⟨rfl,⟨hB,hr⟩,by omega,ha'.keep fun t t1 _=>hk t t1⟩
   ·rw [if_neg q]; exact wpS_pure ⟨rfl,S',ne',ha'⟩
  case post=>
   rintro c st' ⟨rfl,S',ne',ha'⟩; dsimp only; refine wpS_bind (wpS_modify (wpS_bind (wpS_modify (wpS_pure (h _ (fin (setPending st' ((pendingOf st').modify ((pendingOf st').size - 1) fun (x:Nat × Nat × Nat)=>(x.1,x.2.1,pw))) ⟨⟨S'.sb.perm,S'.sb.kind,S'.sb.failed⟩, ?_⟩ ha')))))); show Runs r (arrOf st') 0 ((pendingOf st').modify ((pendingOf st').size - 1) fun (x:Nat × Nat × Nat)=>(x.1,x.2.1,pw)).toList lo
   have hl:(pendingOf st').toList≠[]:=fun z=>by have:=congrArg qF z; rw [cQ,hG] at this; omega
   have e1:=(mH hl).symm; have R:=S'.runs; rw [e1] at R
   have e2:((pendingOf st').modify ((pendingOf st').size - 1) fun (x:Nat × Nat × Nat)=>(x.1,x.2.1,pw)).toList=(pendingOf st').toList.dropLast++[(((pendingOf st').toList.getLast hl).1,((pendingOf st').toList.getLast hl).2.1,pw)]:=by
    apply uD; intro t; rw [eG,Array.getElem?_modify]; have ld:(pendingOf st').toList.dropLast.length=(pendingOf st').size - 1:=by simp
    by_cases q:(pendingOf st').size - 1=t
    ·rw [if_pos q,gU (by rw [ld]; omega),ld,q,uI,← q]; rw [List.getLast_eq_getElem]; have:(pendingOf st').size - 1<(pendingOf st').size:=by omega
     simp [this]
    ·rw [if_neg q]
     by_cases q2:t<(pendingOf st').size - 1
     ·rw [gZ (by rw [ld]; exact q2),List.getElem?_dropLast,if_pos (by simpa using q2),eG]
     ·rw [gU (by rw [ld]; omega),ld]; rw [oW (by omega),iP (by simp; omega)]
   rw [e2]; exact R.pow rfl rfl
theorem wpS_sortR {Q:Unit→SortSt→Prop} (K:mD prog w A E s κ r a₀) (hB:SB κ a₀ st) (hp:pendingOf st= #[]) (h:∀st',SB κ a₀ st'→AscR r (arrOf st') 0 a₀.size→Q () st'):wpS (model prog w) A E s sortRuns' Q st:=by
 rw [srM_eq]; unfold srM; refine wpS_bind (wpS_get ?_); have sz:=hB.size; rw [sz]; generalize minRun' a₀.size a₀.size 0=minrun; refine wpS_bind (wpS_mono (wpS_forRange (I:=fun x c st'=>∃lo,c=(none,lo)∧SR κ r a₀ lo st'∧lo≤a₀.size∧(x≤lo∨lo=a₀.size)) (Q:=fun c st'=>c=(none,a₀.size)∧SR κ r a₀ a₀.size st') ?step ?fin ⟨0,rfl,⟨hB,by rw [hp]; rfl⟩,dA _, .inl (aX _)⟩) ?post)
 case fin=>
  rintro c st' ⟨lo,rfl,S,h1,h2⟩; have:lo=a₀.size:=by omega
  subst this; exact ⟨rfl,S⟩
 case step=>
  rintro x c st' _ hx ⟨lo,rfl,S,h1,h2⟩; unfold srBody; dsimp only
  by_cases q:lo≥a₀.size
  ·rw [if_pos q]; have:lo=a₀.size:=by omega
   subst this; exact wpS_pure ⟨rfl,S⟩
  ·rw [if_neg q]; refine wpS_bind (wpS_countR K S.sb (by omega) (by omega) fun m st2 m1 m2 T ha=> ?_); have S2:SR κ r a₀ lo st2:=⟨T.sb,by rw [T.pend]; exact S.runs.keep fun t _ t2=>T.keep t (.inl t2)⟩; dsimp only
   by_cases z:m<minrun
   ·rw [if_pos z]; refine wpS_bind (wpS_lift (wpAny_rule ⟨rfl, ?_⟩)); refine wpS_bind (wpS_binR K S2.sb (by omega) (by omega) ha fun st3 T3 ha3=> ?_); rw [if_neg (by decide)]; refine wpS_push K ⟨T3.sb,by rw [T3.pend]; exact S2.runs.keep fun t _ t2=>T3.keep t (.inl t2)⟩ (by omega) (by omega) ha3 fun st4 S4=>⟨_,rfl,S4,by omega, .inl (by omega)⟩
   ·rw [if_neg z]; exact wpS_push K S2 m1 (by omega) ha fun st4 S4=>⟨_,rfl,S4,by omega, .inl (by omega)⟩
 case post=>
  rintro c st' ⟨rfl,S⟩; dsimp only
  have pl:(pendingOf st').size≤a₀.size:=by have:=S.runs.le; simpa using this
  refine wpS_bind (wpS_mono (wpS_forRange (I:=fun x c st''=>c=(none,())∧SR κ r a₀ a₀.size st''∧(pendingOf st'').size≤a₀.size - x) (Q:=fun c st''=>c=(none,())∧SR κ r a₀ a₀.size st''∧(pendingOf st'').size≤1) ?step2 ?fin2 ⟨rfl,S,by omega⟩) ?post2)
  case fin2=>rintro c st'' ⟨rfl,S,h1⟩; exact ⟨rfl,S,by omega⟩
  case step2=>
   rintro x c st'' _ hx ⟨rfl,S,h1⟩; unfold srEnd; refine wpS_bind (wpS_get ?_)
   by_cases q:(pendingOf st'').size≤1
   ·rw [if_pos q]; exact wpS_pure ⟨rfl,S,q⟩
   ·rw [if_neg q]; have go:∀i,i+1<(pendingOf st'').size→wpS (model prog w) A E s (mergeAt' i) (fun b st'=>b=true∧SR κ r a₀ a₀.size st'∧(pendingOf st').size≤a₀.size - (x+1)) st'':=fun i hi=>wpS_mrg K S.sb S.runs (aX _) hi fun st3 hB3 hr hs hk=>⟨rfl,⟨hB3,hr⟩,by omega⟩
    refine wpS_bind (wpS_mono (go _ ?_) fun b st3 hb=> ?_)
    ·have bd:∀c:Bool,(if c=true then (pendingOf st'').size - 2 - 1 else (pendingOf st'').size - 2)+1<(pendingOf st'').size:=fun c=>by
      cases c
      ·rw [if_neg (by decide)]; omega
      ·rw [if_pos rfl]; omega
     exact bd _
    ·obtain ⟨rfl,S3,h3⟩:=hb; rw [if_neg (by decide)]; exact wpS_pure ⟨rfl,S3,h3⟩
  case post2=>
   rintro c st'' ⟨rfl,S,h1⟩; refine wpS_pure (h st'' S.sb ?_); have R:=S.runs; generalize e:(pendingOf st'').toList=l at R; have ll:l.length≤1:=by rw [← e]; simpa using h1
   match l,ll with
   | [],_=>have:0=a₀.size:=R; intro i j _ _ hj; omega
   | [p],_=>obtain ⟨_,_,b,c⟩:=R; have c:0+p.2.1=a₀.size:=c; rw [c] at b; exact b
end
open PySem.W (KasT kas_sort kas_asc kas_desc kas_tail3 kas_descPart kas_count kas_place kas_bin kas_rev kas_ask kas_item kat_lt kat_cons kat_nil kat_yes kat_no kat_one kat_kind kat_run kat_snds KatTups)
inductive Bel {α:Type} (n:Nat) (P:α→Prop):KasT α→Prop
 | ret {a:α}:P a→Bel n P (.ret a)
 | ask {i j:Nat} {k:Bool→KasT α}:i<n→j<n→(∀b,Bel n P (k b))→Bel n P (.ask i j k)
noncomputable def PairAt (h:Heap) (v:Value) (x:Int × Int):Prop:=∃a o n t u,v= .ref a∧h.get? a=some o∧o.cls= .type "tuple"∧o.data= .seq #[.int x.1 t, .int x.2 u] n
inductive PairsAt (h:Heap):List Value→List (Int × Int)→Prop
 | nil:PairsAt h [] []
 | cons {v:Value} {x:Int × Int} {vs:List Value} {ps:List (Int × Int)}:PairAt h v x→PairsAt h vs ps→PairsAt h (v::vs) (x::ps)
open PySem.W (KasT kas_sort kas_asc kas_desc kas_tail3 kas_descPart kas_count kas_place kas_bin kas_rev)
structure Ord (n:Nat) (ans:Nat→Nat→Bool):Prop where
 tr:∀i j k,i<n→j<n→k<n→ans i j=true→ans j k=true→ans i k=true
 ir:∀i,i<n→ans i i=false
 tt:∀i j,i<n→j<n→i≠j→ans i j=true∨ans j i=true
noncomputable abbrev gN (p:Array Nat) (k:Nat):Nat:=p.getD k 0
open PySem.W (KasT kas_sort kas_asc kas_desc kas_tail3 kas_descPart kas_count kas_place kas_bin kas_rev kas_ask kas_item kat_lt kat_cons kat_nil kat_yes kat_no kat_one kat_kind kat_run kat_snds KatTups KatLex)
noncomputable def TupAt1 (h:Heap) (v:Value) (x:List Int):Prop:=∃a o n,∃its:List Value,v= .ref a∧h.get? a=some o∧o.cls= .type "tuple"∧o.data= .seq its.toArray n∧IntsAre its x∧x≠[]
inductive TupsAt (h:Heap):List Value→List (List Int)→Prop
 | nil:TupsAt h [] []
 | cons {v:Value} {x:List Int} {vs:List Value} {ps:List (List Int)}:TupAt1 h v x→TupsAt h vs ps→TupsAt h (v::vs) (x::ps)
noncomputable def advM (m:Nat) (p:SetTable.Probe):SetTable.Probe:=if p.more>0 then {p with j:=p.j+1,more:=p.more - 1} else {p with j:=(nD m p.i p.perturb).1,more:=SetTable.runEnd m (nD m p.i p.perturb).1 - (nD m p.i p.perturb).1,i:=(nD m p.i p.perturb).1,perturb:=(nD m p.i p.perturb).2}
noncomputable def at0 (m i q:Nat):SetTable.Probe:={j:=i,more:=SetTable.runEnd m i - i,i:=i,perturb:=q,dummy:=none}
noncomputable def pr (m:Nat) (h:Int):Nat→SetTable.Probe
 | 0=>at0 m (SetTable.bits h%(m+1)) (SetTable.bits h)
 | n+1=>advM m (pr m h n)
noncomputable def okM (m:Nat):Prop:=m=7∨m=31∨m=63∨m=127∨m=255
noncomputable abbrev RowT:=Nat × List Key × Addr
structure TabT (hs:List Key→Int) (t:SetTable) (es:Array (Int × Value)) (T:List RowT):Prop where
 om:okM t.mask
 pl:t.place=(T.map (·.1)).toArray
 en:es=(T.map fun r=>(hs r.2.1,Value.ref r.2.2)).toArray
 du:t.dummies= #[]
 rs:(T.map (·.1)).Pairwise (·<·)
 lt:∀r∈T,r.1≤t.mask
 rc:∀r∈T,∃n,(pr t.mask (hs r.2.1) n).j=r.1∧∀i,i<n→(pr t.mask (hs r.2.1) i).j∈T.map (·.1)
 kn:(T.map (·.2.1)).Nodup
structure LI (m:Nat) (ow:Array (Option Nat)) (dn:List Int):Prop where
 sz:ow.size=m+1
 at_:∀ (x:Nat) (h:Int),dn[x]? =some h→∃j,ow[j]? =some (some x)∧∃n,(pr m h n).j=j∧∀i,i<n→ow[(pr m h i).j]? ≠some none
 lt:∀ (j x:Nat),ow[j]? =some (some x)→x<dn.length
 un:∀ (j j' x:Nat),ow[j]? =some (some x)→ow[j']? =some (some x)→j=j'
section
variable {prog:Program} {w:World} {A:Around} {E:Value→Shared→Prop} {s:Shared}
noncomputable abbrev tK (prog:Program) (w:World):=tupleKind (gI prog w)
end
structure TabU (hs:List Key→Int) (t:SetTable) (es:Array (Int × Value)) (T:List RowT) (ds:List Nat):Prop where
 om:okM t.mask
 pl:t.place=(T.map (·.1)).toArray
 en:es=(T.map fun r=>(hs r.2.1,Value.ref r.2.2)).toArray
 du:t.dummies=ds.toArray
 rs:(T.map (·.1)).Pairwise (·<·)
 dr:ds.Pairwise (·<·)
 dj:∀d∈ds,d∉T.map (·.1)
 lt:∀r∈T,r.1≤t.mask
 rc:∀r∈T,∃n,(pr t.mask (hs r.2.1) n).j=r.1∧∀i,i<n→(pr t.mask (hs r.2.1) i).j∈T.map (·.1)++ds
 kn:(T.map (·.2.1)).Nodup
theorem zW {α β:Type} {f:α→β} {l:List α} {l':List β} (h:l'.Perm (l.map f)):∃l2:List α,l2.Perm l∧l'=l2.map f:=by
 generalize hy:l.map f=y at h
 induction h generalizing l with
 | nil=>
  have:l=[]:=by simpa using hy
  subst this; exact ⟨[], .refl _,rfl⟩
 | cons x p ih=>
  cases l with
  | nil=>simp at hy
  | cons a t=>simp only [bQ,vC.injEq] at hy; obtain ⟨l3,q1,q2⟩:=ih hy.2; exact ⟨a::l3,q1.cons a,by rw [bQ,hy.1,q2]⟩
 | swap x y l0=>
  match l,hy with
  | a::b::t,hy=>simp only [bQ,vC.injEq] at hy; exact ⟨b::a::t,List.Perm.swap a b t,by rw [bQ,bQ,hy.1,hy.2.1,hy.2.2]⟩
  | [a],hy=>simp at hy
  | [],hy=>simp at hy
 | trans p1 p2 ih1 ih2=>obtain ⟨l3,q1,q2⟩:=ih2 hy; obtain ⟨l4,r1,r2⟩:=ih1 q2.symm; exact ⟨l4,r1.trans q1,r2⟩
section
variable {X:Cx} {sd:List Slot} {a b:Expr} {pos:Pos}
noncomputable def oK (k:List Key):D:= .tup (k.map kD)
end
structure TOk (w:World) (es:List (Int × Value)) (t:SetTable) (ks:List Nat):Prop where
 fit:t.fits es.toArray.size=true
 pl:t.plain=true
 led:t.led= !byT w
 place:t.place=ks.toArray
 asc:ks.Pairwise (·<·)
 len:es.length=ks.length
noncomputable def oQ (h:Heap) (a:Addr) (vs:List Value):Heap:=((h.update a (Obj.mapSeq fun _=> #[])).push (seqObj "tuple" vs.toArray 0)).push (seqObj "list" #[] 0)
section
variable {prog:Program} {w:World} {A:Around} {E:Value→Shared→Prop} {s:Shared}
theorem sI (vs:List Value):(vs.toArray.zip vs.toArray).toList=vs.map fun v=>(v,v):=by
 rw [Array.toList_zip]; show vs.zip vs=_
 induction vs with
 | nil=>rfl
 | cons v vs ih=>rw [fJ,ih]; rfl
theorem asks_of {κ:SortKind} {rk:Value→Nat} {vs:List Value} (nd:(vs.map rk).Nodup) (hask:∀x∈vs,∀y∈vs,∀ (Q:Bool→Shared→Prop) (E':Value→Shared→Prop),Q (decide (rk x<rk y)) s→wpAny (model prog w) A (keyLt' κ x y) Q E' s):mD prog w A E s κ (fun p=>rk p.1) (vs.toArray.zip vs.toArray):=by
 refine ⟨fun {x y st Q} hx hy hk h=> ?_, ?_⟩
 ·rw [sI] at hx hy; obtain ⟨u,hu,rfl⟩:=bH.mp hx; obtain ⟨v,hv,rfl⟩:=bH.mp hy; rw [lt'_eq]; refine wpS_bind (wpS_get ?_); rw [hk]; exact wpS_bind (wpS_lift (wpAny_attempt (hask u hu v hv _ _ ⟨rfl,wpS_pure h⟩)))
 ·rw [sI,bM]; exact nd
theorem xI {a:Addr} {vs:List Value} {n:Nat} {κ:SortKind} {rk:Value→Nat} {R:PySem.Fin→Shared→Prop} (ho:s.heap.get? a=some (seqObj "list" vs.toArray n)) (nd:(vs.map rk).Nodup) (hn:vs.length≤10000)
  (hkind:2≤vs.length→∀ (Q:SortKind→Shared→Prop),Q κ ⟨oQ s.heap a vs,s.gens,s.drawn,s.toks,s.os⟩→wpAny (model prog w) A (keyKind' vs.toArray) Q E ⟨oQ s.heap a vs,s.gens,s.drawn,s.toks,s.os⟩)
  (hask:∀x∈vs,∀y∈vs,∀ (Q:Bool→Shared→Prop) (E':Value→Shared→Prop),Q (decide (rk x<rk y)) ⟨oQ s.heap a vs,s.gens,s.drawn,s.toks,s.os⟩→wpAny (model prog w) A (keyLt' κ x y) Q E' ⟨oQ s.heap a vs,s.gens,s.drawn,s.toks,s.os⟩)
  (h:∀out:Array Value,out.toList.Perm vs→(out.toList.map rk).Pairwise (·<·)→R (.done (.ret .none)) {s with heap:=sortedHeap s.heap a vs out}):wpAny (model prog w) A (Builtin.«list.sort» ⟨[.ref a],[]⟩) R E s:=by
 have lt:a<s.heap.objs.size:=bB ho; have sz:vs.toArray.size=vs.length:=by simp
 obtain ⟨n0,g1⟩:∃n0,(s.heap.update a (Obj.mapSeq fun _=> #[])).get? a=some (seqObj "list" #[] n0):=⟨_,get?_update_seq ho (fun _=> #[])⟩
 have n1:a≠((s.heap.update a (Obj.mapSeq fun _=> #[])).push (seqObj "tuple" vs.toArray 0)).objs.size:=by rw [size_push',oV]; exact cH (oB lt)
 have n2:a≠(s.heap.update a (Obj.mapSeq fun _=> #[])).objs.size:=by rw [oV]; exact cH lt
 have g6:(oQ s.heap a vs).get? a=some (seqObj "list" #[] n0):=by unfold oQ; rw [Heap.get?_push_ne _ _ _ n1,Heap.get?_push_ne _ _ _ n2,g1]
 rw [list_sort_plain]; refine wpAny_bind (listItems_at ho rfl (wpAny_bind (listUpdate_at ho rfl (wpAny_bind (seqEpoch_at g1 rfl (wpAny_bind (wpAny_newTuple (wpAny_bind (wpAny_newList (wpAny_holding ?_) (dA _))) (by show vs.length≤_; rw [sizeLine_eq]; omega))))) (by rw [sz,sizeLine_eq]; omega) (dA _)))); show wpAny (model prog w) A _ R E ⟨oQ s.heap a vs,s.gens,s.drawn,s.toks,s.os⟩; dsimp only
 by_cases h2:vs.toArray.size<2
 ·rw [if_pos h2,if_pos h2]; refine wpAny_bind (wpAny_pure ?_); rw [StateT.run_pure]; refine wpAny_bind (wpAny_pure (wpAny_bind (seqEpoch_at g6 rfl (wpAny_bind (listUpdate_at g6 rfl ?_ (dA _) ?_)))))
  ·simp only [bne_self_eq_false,if_false,cP]; refine wpAny_pure ?_
   have e:Array.map (fun (x:Keyed)=>x.2) (arrOf (SortSt.mk' general' (vs.toArray.zip vs.toArray) #[] 7 none))=vs.toArray:=by apply uK.mp; rw [uL]; show (vs.toArray.zip vs.toArray).toList.map _=vs; rw [sI,bM]; exact qI _
   rw [e]; refine h vs.toArray (.refl _) ?_; rw [sz] at h2
   match vs,h2 with
   | [],_=>exact .nil
   | [v],_=>exact kH _ _
  ·show (Array.map _ (vs.toArray.zip vs.toArray)).size≤_; rw [Array.size_map,Array.size_zip,sz,sizeLine_eq]; omega
 ·rw [if_neg h2,if_neg h2]; rw [sz] at h2; refine wpAny_bind (hkind (by omega) _ ?_); have K:mD prog w A E ⟨oQ s.heap a vs,s.gens,s.drawn,s.toks,s.os⟩ κ (fun p=>rk p.1) (vs.toArray.zip vs.toArray):=asks_of nd hask; refine wpAny_bind (wpAny_mono (wpS_sortR (Q:=fun _ st'=>SB κ (vs.toArray.zip vs.toArray) st'∧AscR (fun p=>rk p.1) (arrOf st') 0 (vs.toArray.zip vs.toArray).size) K (st:=SortSt.mk' κ (vs.toArray.zip vs.toArray) #[] 7 none) ⟨Array.Perm.refl _,rfl,rfl⟩ rfl fun st' b c=>⟨b,c⟩) ?_ fun _ _ z=>z); rintro ⟨⟨⟩,st'⟩ s' ⟨rfl,hB,hA⟩; dsimp only
  have pm:(arrOf st').toList.Perm (vs.map fun v=>(v,v)):=by
   have:=gT.mp hB.perm
   rwa [sI] at this
  have p2:((arrOf st').map (·.2)).toList.Perm vs:=by rw [uL]; have:=pm.map (·.2); rw [bM] at this; exact this.trans (List.Perm.of_eq (qI _))
  have sO:((arrOf st').map (·.2)).size=vs.length:=by
   have:=p2.length_eq
   rwa [cQ] at this
  refine wpAny_bind (seqEpoch_at g6 rfl (wpAny_bind (listUpdate_at g6 rfl ?_ (dA _) ?_)))
  ·rw [hB.failed]; simp only [bne_self_eq_false,if_false,cP]; refine wpAny_pure (h _ p2 ?_); rw [uL,bM,nI]; intro i j hi hj hij; rw [aG,cQ] at hi hj; have q:=hA i j (dA _) hij (by rw [← hB.size]; exact hj); rw [eR hi,eR hj] at q
   have d:∀p∈(arrOf st').toList,p.1=p.2:=fun p hp=>by obtain ⟨v,_,rfl⟩:=bH.mp (pm.mem_iff.mp hp); rfl
   rw [eA,eA]; have d1:=d (arrOf st')[i] (by simp); have d2:=d (arrOf st')[j] (by simp); rw [d1,d2] at q; simpa using q
  ·rw [sO,sizeLine_eq]; omega
end
open PySem.W (kat_lt kat_cons kat_nil kat_yes kat_no kat_one kat_kind KatTups KatLex)
section
variable {prog:Program} {w:World} {A:Around} {E:Value→Shared→Prop} {s:Shared}
theorem sorted_any {l:Addr} {vs:List Value} {κ:SortKind} {rk:Value→Nat} {Q:Value→Shared→Prop} (hl:s.heap.IsList l vs.toArray) (nd:(vs.map rk).Nodup) (hn:vs.length≤10000)
  (hkind:∀t:Shared,(∀b o,s.heap.get? b=some o→t.heap.get? b=some o)→2≤vs.length→∀ (A':Around) (R:SortKind→Shared→Prop) (E':Value→Shared→Prop),A'.units≤A.units+2→R κ t→wpAny (model prog w) A' (keyKind' vs.toArray) R E' t)
  (hask:∀t:Shared,(∀b o,s.heap.get? b=some o→t.heap.get? b=some o)→∀x∈vs,∀y∈vs,∀ (A':Around) (R:Bool→Shared→Prop) (E':Value→Shared→Prop),A'.units≤A.units+2→R (decide (rk x<rk y)) t→wpAny (model prog w) A' (keyLt' κ x y) R E' t)
  (h:∀out:Array Value,out.toList.Perm vs→(out.toList.map rk).Pairwise (·<·)→Q (.ref (s.heap.objs.size+1)) {s with heap:=sortedAll s.heap vs out}):wpAny (model prog w) A (call (.builtin "sorted") [.ref l]) Q E s:=by
 have hsz:((s.heap.push (seqObj "list" #[] 0)).update s.heap.objs.size (Obj.mapSeq (·++vs.toArray))).objs.size=s.heap.objs.size+1:=by rw [oV,size_push']
 have hoL:(((s.heap.push (seqObj "list" #[] 0)).update s.heap.objs.size (Obj.mapSeq (·++vs.toArray))).push (seqObj "list" vs.toArray 0)).get? (s.heap.objs.size+1)=some (seqObj "list" vs.toArray 0):=by rw [← hsz]; exact bW _ rfl
 have k2:∀b o,s.heap.get? b=some o→(((s.heap.push (seqObj "list" #[] 0)).update s.heap.objs.size (Obj.mapSeq (·++vs.toArray))).push (seqObj "list" vs.toArray 0)).get? b=some o:=fun b o g=>by
  have nb:s.heap.objs.size≠b:=fun z=>absurd (bB g) (by rw [← z]; exact fY _)
  refine aM _ ?_; rw [eC _ _ nb]; exact aM _ g
 have k6:∀b o,s.heap.get? b=some o→(oQ (((s.heap.push (seqObj "list" #[] 0)).update s.heap.objs.size (Obj.mapSeq (·++vs.toArray))).push (seqObj "list" vs.toArray 0)) (s.heap.objs.size+1) vs).get? b=some o:=fun b o g=>by
  have nb:s.heap.objs.size+1≠b:=fun z=>by have:=bB g; rw [← z] at this; exact absurd this (Nat.not_lt.mpr (kJ _))
  unfold oQ; refine aM _ (aM _ ?_); rw [eC _ _ nb]; exact k2 b o g
 refine Calls.call_function_entry kind_sorted plain_sorted entry_sorted (args_sorted1 (.ref l)) ?_; unfold Builtin.«sorted»; refine wpAny_bind (m:=checkCount "sorted" 1 1 _) (wpAny_pure (wpAny_bind (collect_list hl (wpAny_bind (wpAny_newList ?_ (by rw [sizeLine_eq]; omega))) (by rw [sizeLine_eq]; omega)))); show wpAny _ _ _ _ _ ⟨((s.heap.push (seqObj "list" #[] 0)).update s.heap.objs.size (Obj.mapSeq (·++vs.toArray))).push (seqObj "list" vs.toArray 0),s.gens,s.drawn,s.toks,s.os⟩; rw [hsz]; refine wpAny_bind (wpAny_holding (wpAny_call_entry slot_list_sort ⟨_,hoL,rfl⟩ entry_list_sort (xI (κ:=κ) (rk:=rk) (s:=⟨_,s.gens,s.drawn,s.toks,s.os⟩) hoL nd hn (fun h2 R q=>hkind ⟨oQ (((s.heap.push (seqObj "list" #[] 0)).update s.heap.objs.size (Obj.mapSeq (·++vs.toArray))).push (seqObj "list" vs.toArray 0)) (s.heap.objs.size+1) vs,s.gens,s.drawn,s.toks,s.os⟩ k6 h2 _ R _ ?_ q) (fun x hx y hy R E' q=>hask ⟨oQ (((s.heap.push (seqObj "list" #[] 0)).update s.heap.objs.size (Obj.mapSeq (·++vs.toArray))).push (seqObj "list" vs.toArray 0)) (s.heap.objs.size+1) vs,s.gens,s.drawn,s.toks,s.os⟩ k6 x hx y hy _ R E' ?_ q) fun out p1 p2=>⟨_,rfl,wpAny_pure ⟨_,rfl,h out p1 p2⟩⟩) (args_list_sort _)))
 all_goals simp only [Around.in1]; omega
theorem kat_lex {A:Around} {fin b:Bool} {Q:Bool→Shared→Prop} {r:List (Value × Value)} (x:zP A s fin r b):∀ {i:Nat},Q b s→KatLex prog w A false fin Q r i s:=by
 induction x with
 | nil=>intro i q; exact kat_nil q
 | eq he _ ih=>intro i q; exact kat_cons (SeqAt.EqAt.of_in1 he prog w _ _ (kat_yes (ih q)))
 | @lt x y r b he hl=>intro i q; refine kat_cons (SeqAt.EqAt.of_in1 he prog w _ _ (kat_no ?_)); rw [yT]; exact kat_one x y (wpAny_of_in1 (hl prog w _ _ q))
end
theorem vE {α β:Type} {G:α→β→Prop}:∀ {l:List α} {m:List β} {n:Nat} {a:α},Paired G l m→l[n]? =some a→∃b,m[n]? =some b∧G a b
 | _,_,_,_, .nil,h=>by simp at h
 | _,_,0,_, .cons r _,h=>by cases h; exact ⟨_,rfl,r⟩
 | _,_,n+1,_, .cons _ t,h=>vE (n:=n) t (by simpa using h)
theorem rB {α β:Type} {G:α→β→Prop}:∀ {l:List α} {m:List β} (n:Nat),Paired G l m→Paired G (l.eraseIdx n) (m.eraseIdx n)
 | _,_,_, .nil=> .nil
 | _,_,0, .cons _ t=>t
 | _,_,n+1, .cons r t=> .cons r (rB n t)
section
variable {X:Cx}
noncomputable def rPop (X:Cx):V→List V→Hp→VK→Prop:=fun x vs H Q=>∃ (F:Hp) (l ad:Addr) (k:List Key) (y:V) (n:Nat) (o:Obj) (kvs:List (List Key × V)),x= .ref l∧vs=[.ref ad]∧Same F H∧H l=some (exO l o)∧F ad=some (.tup (k.map kV))∧X.A.units+1<cLine∧
 TDo X.prog X.w F l o kvs∧kvs[n]? =some (k,y)∧(∀o',(∀v,o'.data≠ .cell v)→TDo X.prog X.w F l o' (kvs.eraseIdx n)→Q y (upd H l (exO l o')))
theorem mt_pop:MtR X "dict.pop" (rPop X):=by
 intro pins s σ H x vs v us Q I rx rv h; obtain ⟨F,l,ad,k,y,n,o,kvs,rfl,rfl,sF,hl,ha,hu,⟨z,hm,ts,kt,es,ep,t1,t2,t3,t4⟩,hn,q1⟩:=h; obtain rfl:v=Value.ref l:=rx; obtain ⟨u,rfl,ru⟩:=Vals.one rv; obtain rfl:u=Value.ref ad:=ru; have ho:s.heap.get? l=some o:=(I.hok l _ hl).1; have ktH:KT H kvs ts:=kt.keeps fun b ys e=>sF _ _ e
 have dd:s.heap.DictOfH (tupleKind (gI X.prog X.w)) l ts:=⟨o,es,ep,ho,t1,t2,t3,KT.all I.hok ktH,t4⟩; have hz:ts.length≤sizeLine:=by rw [← Paired.length kt]; exact z
 obtain ⟨⟨k',b,w'⟩,hj,e1,_,rw'⟩:=vE kt hn; have e1:k=k':=e1; subst e1; refine call_meetsIn PySem.F.slot_dict_pop dd.typeIs PySem.F.entry_dict_pop (PySem.F.args_dict_pop_2 _ _) (meetsH_pop (tupleKind (gI X.prog X.w)) l ad) ⟨tupleKind_room_in1 hu,k,ts,n,(b,w'),sW I.hok (sF _ _ ha),dd,hz,hj,fun h' dd' hsm=> ?_⟩; obtain ⟨q,es',ep',hq,u2,u3,u4,_,u5⟩:=dd'; have I4:=uU (t':=s.toks+(tupleKind (gI X.prog X.w)).draws k) I (ob:=exO l q) (by rw [hl]; exact True.intro) hsm ⟨q,hq⟩ (tT hq); exact ⟨y,_,I4,rw',q1 q (fun v z=>by rw [u3] at z; cases z) ⟨by have:=List.length_eraseIdx_le kvs n; omega,hm,_,rB n kt,es',ep',u2,u3,u4,u5⟩⟩
end
section
variable {X:Cx} {sd:List Slot} {e:Expr} {pos:Pos} {l:Addr} {ls:List Addr} {ks:List (List Key)} {dss:List (List D)}
theorem pd_lenD (i:Nat) {x:Str} {p p2:Pos} (hg:Gl X "len") (hm:X.mg "len"=none) (hs:sd[i]? =some (odG X.prog X.w X.K l ks ls dss)) (hx:PE X (.Name x p2) (lY i)) (hst:starEach [.Name x p2] X.env=(false,eval (.Name x p2) X.env)::starEach [] X.env:=by rfl):PEd X sd (.Call (.Name "len" p) [.Name x p2] [] pos) (.val (.int (ks.length:Nat))):= .mk fun σ F H S=>
 (rW call_lenG hg hm PySem.boot_len (gR hx pa_nil hst) (by decide) (by decide) hst rfl).to (by
  obtain ⟨hv,hF,⟨o,g1,nc,hl,z,sm,xs,kt,es,ep,t1,t2,t3,t4⟩,hI,nd⟩:=iM S hs; refine ⟨.ref l,hv,l,o,es,ep,rfl,g1,t1,t2,sm, ?_,F,S,Same.refl _, ?_⟩
  ·have:=size_of_entries t3; have e2:=Paired.length kt; omega
  ·have:=size_of_entries t3; have e2:=Paired.length kt; have e3:(ks.zip (ls.map V.ref)).length=ks.length:=by rw [iN,aG,hl,mP]
   simp only [ResOk,Rep]
   rw [this,← e2,e3])
end
theorem kt_vals {F:Hp}:∀ {kvs:List (List Key × V)} {xs:List (List Key × Addr × Value)},KT F kvs xs→Vals (xs.map fun q=>V.ref q.2.1) (xs.map fun q=>Value.ref q.2.1)
 | _,_, .nil=> .nil
 | _,_, .cons _ t=> .cons rfl (kt_vals t)
theorem kt_rep {K:aD} {F:Hp}:∀ {kvs:List (List Key × V)} {xs:List (List Key × Addr × Value)},KT F kvs xs→RepL K F ((kvs.map (·.1)).map oK) (xs.map fun q=>V.ref q.2.1)
 | _,_, .nil=> .nil
 | _,_, @Paired.cons _ _ _ p q _ _ r t=>by refine .cons ?_ (kt_rep t); simp only [oK,Rep]; refine ⟨q.2.1,p.1.map kV,rfl,r.2.1, ?_⟩; exact rH _
section
variable {X:Cx} {sd:List Slot} {e:Expr} {pos:Pos} {l:Addr} {ls:List Addr} {ks:List (List Key)} {dss:List (List D)}
theorem pd_listD (i:Nat) {x:Str} {p p2:Pos} (hg:Gl X "list") (hm:X.mg "list"=none) (hs:sd[i]? =some (odG X.prog X.w X.K l ks ls dss)) (hx:PE X (.Name x p2) (lY i)) (hc:X.calm=true:=by rfl) (hst:starEach [.Name x p2] X.env=(false,eval (.Name x p2) X.env)::starEach [] X.env:=by rfl):PEd X sd (.Call (.Name "list" p) [.Name x p2] [] pos) (.own (ks.map oK)):= .mk fun σ F H S pins s I=>by
 obtain ⟨hv,hF,⟨o,g1,nc,hl,z,sm,xs,kt,es,ep,t1,t2,t3,t4⟩,hI,nd⟩:=iM S hs; refine wpAny_Call_Name_kw (oZ I hg hm PyProof.Rows.boot_list ?_); refine PyProof.Rows.callWith_type1 (thn ((gR hx pa_nil hst) pos pins s σ H (fun us H1=>us=[.ref l]∧H1=H) I ⟨.ref l,hv,rfl,rfl⟩) fun us s1 hus=> ?_) hst rfl; obtain ⟨ws,H1,I1,rv,rfl,rfl⟩:=hus; obtain ⟨u,rfl,ru⟩:=qE rv; cases (show u=Value.ref l from ru); have ez:es.size=xs.length:=size_of_entries t3
 have e3:(ks.zip (ls.map V.ref)).map (·.1)=ks:=by rw [List.map_fst_zip]; rw [aG]; omega
 have e2:xs.length=ks.length:=by have:=Paired.length kt; rw [iN,aG] at this; omega
 have ho:s1.heap.get? l=some o:=(I1.hok l _ g1).1; refine PySem.W.kdl_call (srcD sm t1 t2) (I1.ok.hd hc) ho (by have:=Paired.length kt; omega) fun h' tk acc c' kp gl it=> ?_
 have al:acc=(xs.map fun q=>Value.ref q.2.1).toArray:=by
  apply uK.mp; apply uD; intro j
  by_cases hj:j<acc.toList.length
  ·have e4:acc.toList[j]? =some acc.toList[j]:=by simp [hj]
   obtain ⟨u,q,ev⟩:=it.2 j acc.toList[j] (by rw [← eG]; exact e4); rw [e4,ev]; rw [← eG,t3,bG] at q; obtain ⟨y,hy,ey⟩:=gP.mp q; rw [← ey]; simp [hy,entryOfKey]
  ·have a1:acc.toList.length=es.size:=by rw [cQ]; exact it.1
   rw [iP (by omega),iP (by simp; omega)]
 subst al; have le2:s1.heap.objs.size≤s1.heap.objs.size:=aX _; have hD:H1 s1.heap.objs.size=none:=I1.hok.fresh le2
 have I4:Inv X pins σ (upd H1 s1.heap.objs.size (.lst (xs.map fun q=>V.ref q.2.1))) {s1 with heap:=h',toks:=tk}:=
  I1.laid kp le2 ⟨by rw [aG]; have:=Paired.length kt; omega,_,c',kt_vals kt,gl⟩
 obtain ⟨S4,fp,no⟩:=S.layO (xs:=xs.map fun q=>V.ref q.2.1) hD; refine ⟨.ref s1.heap.objs.size,_,I4,rfl,F,S4,Same.refl _,_,_,rfl,fp,dD, ?_,no⟩; have:=kt_rep (K:=X.K) kt; rw [e3] at this; exact this
end
section
variable {X:Cx} {sd:List Slot} {e:Expr} {pos:Pos}
noncomputable def kP (ds:List D):Nat:=argBest (fun i k=>dlt (ds.getD i .non) (ds.getD k .non)) (ds.length - 1)
structure MinOk (X:Cx) (ds:List D):Prop where
 ne:0<ds.length
 cmp:∀d∈ds,∀d2∈ds,iZ d d2=true
 pl:∀d∈ds,pl d=true
 dep:∀d∈ds,X.A.units+1+dep d<cLine
theorem call_minC (hc:X.calm=true):nQ X (.builtin "min") (fun vs H Q=>∃ (a:Addr) (xs:List V) (ds:List D),vs=[.ref a]∧SqL X.K H a xs∧RepL X.K H ds xs∧MinOk X ds∧∀v,xs[kP ds]? =some v→Q v H):=by
 intro pins s σ H vs us Q I r h; obtain ⟨a,xs,ds,rfl,ha,rl,M,q⟩:=h; obtain ⟨u,rfl,rx⟩:=qE r; cases (show u=Value.ref a from rx); obtain ⟨its,rv,p,hz⟩:=I.list ha; have hl:=rv.length; have hd:=rl.len; have isl:s.heap.IsList a its.toArray:=p.isList; have alt:a<s.heap.objs.size:=by obtain ⟨o,ho,_⟩:=isl; exact bB ho
 refine call_minJ (wpAny_pyIter_list isl ?_); refine ⟨s.heap.objs.size,[s.heap.objs.size,a],[s.heap.objs.size],its.toArray.size,_,_,fun h=>HOk X.prog X.w H h,fun i k=>dlt (ds.getD i .non) (ds.getD k .non),rfl,Walks.list (A:=X.A.in1) (I.ok.hd hc) _ a (cH alt) its.toArray,⟨⟨_,bW _ rfl,rfl,rfl⟩,isl.push _⟩,fun b hb=> ?_,by simp; have:=M.ne; omega, ?_, ?_, ?_,fun v h' tk pv k=> ?_⟩
 ·rw [qJ]; simp only [bV,hZ,or_false] at hb
  rcases hb with rfl | rfl
  ·exact lU _
  ·exact oB alt
 ·intro i k x y t Q' E' hJ hx hy q'; have hx:its[i]? =some x:=by simpa using hx
  have hy:its[k]? =some y:=by simpa using hy
  have li:i<ds.length:=by have:=(aP.mp hx).1; omega
  have lk:k<ds.length:=by have:=(aP.mp hy).1; omega
  have ei:ds[i]? =some (ds.getD i .non):=by simp [cY,li]
  have ek:ds[k]? =some (ds.getD k .non):=by simp [cY,lk]
  obtain ⟨v1,g1,r1⟩:=rl.get ei; obtain ⟨v2,g2,r2⟩:=rl.get ek; obtain ⟨u1,w1,z1⟩:=rv.get g1; obtain ⟨u2,w2,z2⟩:=rv.get g2; rw [hx] at w1; rw [hy] at w2; cases w1; cases w2; have mi:=aY ei; have mk:=aY ek; exact ltAt_D hJ (ds.getD i .non) (M.cmp _ mi _ mk) (M.pl _ mi) (M.pl _ mk) r1 r2 z1 z2 (by have:=M.dep _ mi; simp only [Around.in1]; omega) X.prog X.w _ _ q'
 ·exact hok_but (cs:=[]) I.hok (fun b u _ g=>aM _ g) (fun b hb=>by cases hb)
 ·intro h1 h2 j1 kp; refine hok_but (cs:=[s.heap.objs.size+1,s.heap.objs.size]) j1 (fun b u hb g=>kp b u (fun z=>hb ?_) g) fun b hb=> ?_
  ·rw [qJ] at z; exact z
  ·simp only [bV,hZ,or_false] at hb
   rcases hb with rfl | rfl
   ·exact I.hok.fresh (kJ _)
   ·exact I.hok.fresh (aX _)
 ·have eb:argBest (fun i k=>dlt (ds.getD i .non) (ds.getD k .non)) (its.toArray.size - 1)=kP ds:=by unfold kP; rw [bE]; congr 1; omega
  rw [eb] at pv; have pv:its[kP ds]? =some v:=by simpa using pv
  have lb:kP ds<xs.length:=by have:=(aP.mp pv).1; omega
  have ex:xs[kP ds]? =some xs[kP ds]:=by simp [lb]
  obtain ⟨u,hu,ru⟩:=rv.get ex; rw [pv] at hu; cases hu; refine ⟨xs[kP ds],H,I.kept (t':=tk) fun b o g=>k b o (fun z=> ?_) (aM _ g),ru,q _ ex⟩; have zb:b=s.heap.objs.size:=by simpa using z
  exact cH (bB g) zb
theorem pd_minD {p:Pos} {ds:List D} {d:D} (hg:Gl X "min") (hm:X.mg "min"=none) (ha:PEd X sd e (.bor ds)) (M:MinOk X ds) (hd:ds[kP ds]? =some d) (hc:X.calm=true:=by rfl) (hst:starEach [e] X.env=(false,eval e X.env)::starEach [] X.env:=by rfl):PEd X sd (.Call (.Name "min" p) [e] [] pos) (.val d):=
 pA (he:=hst) (call_minC hc) hg hm boot_min (aH ha bD trivial hst) fun σ F H vs Q S q k=>by
  cases q with
  | cons q1 q2=>cases q2; obtain ⟨p,xs,rfl,hp,rl,_⟩:=q1; refine ⟨p,xs,ds,rfl, .of hp,rl.mono S.sub,M,fun v hv=>k v F H S (Same.refl _) ?_⟩; obtain ⟨v',g,r'⟩:=rl.get hd; rw [hv] at g; cases g; exact r'
end
theorem yF {α β:Type}:∀ (a:List α) (b:List β) (n:Nat),a.length=b.length→(a.zip b).eraseIdx n=(a.eraseIdx n).zip (b.eraseIdx n)
 | [],[],_,_=>by simp
 | _::_,[],_,h=>by simp at h
 | [],_::_,_,h=>by simp at h
 | x::a,y::b,0,_=>rfl
 | x::a,y::b,n+1,h=>by show (x,y)::(a.zip b).eraseIdx n=(x,y)::(a.eraseIdx n).zip (b.eraseIdx n); rw [yF a b n (by simpa using h)]
theorem xR {α β:Type} (f:α→β):∀ (l:List α) (n:Nat),(l.eraseIdx n).map f=(l.map f).eraseIdx n
 | [],_=>by simp
 | _::_,0=>rfl
 | x::l,n+1=>by show f x::(l.eraseIdx n).map f=f x::(l.map f).eraseIdx n; rw [xR f l n]
theorem mem_owned {sd:List Slot} {j:Nat} {z:Slot} {a:Addr} (h:sd[j]? =some z) (ha:a∈iA z):a∈dC sd:=dZ.mpr ⟨z,aY h,ha⟩
section
variable {K:aD} {H₀ F F' H H':Hp} {σ:St} {sd:List Slot} {i:Nat} {l:Addr} {ls:List Addr} {dss:List (List D)} {P:Program} {w:World} {ks:List (List Key)}
theorem StF.popG {o:Obj} (n:Nat) (S:StF K H₀ F H σ sd) (hs:sd[i]? =some (odG P w K l ks ls dss)) (nc:∀v,o.data≠ .cell v) (td:TDo P w F l o ((ks.zip (ls.map V.ref)).eraseIdx n)):
  StF K H₀ F (upd H l (exO l o)) σ (sd.set i (odG P w K l (ks.eraseIdx n) (ls.eraseIdx n) (dss.eraseIdx n))):=by
 obtain ⟨g1,g2,⟨o',g3,nc',hl,_⟩,g4,g5⟩:=iM S hs; obtain ⟨n1,n2⟩:=cV.mp g5
 have sb:∀b,b∈l::ls.eraseIdx n→b∈l::ls:=fun b hb=>by
  rcases bV.mp hb with h | h
  ·exact h▸aR
  ·exact aQ _ (jS h)
 refine S.reX (z':=odG P w K l (ks.eraseIdx n) (ls.eraseIdx n) (dss.eraseIdx n)) hs g1 (fun b ob hb q=> ?_) (nT S.smp l) (vY (fun b hb=>g2 b (sb b hb)) dD nc ?_ ?_ ?_) ?_ fun b hb=> .inl (sb b hb)
 ·rw [cE (show b≠l from fun z=>hb (z▸aR))]; exact q
 ·rw [List.length_eraseIdx,List.length_eraseIdx,hl]
 ·rw [xR,← yF _ _ _ (by rw [aG]; exact hl)]; exact td
 ·refine InD.erase n (g4.mono2 (Same.refl _) fun b hb ob q=> ?_); rw [cE (show b≠l from fun z=>n1 (z▸hb))]; exact q
 ·show (l::ls.eraseIdx n).Nodup; exact cV.mpr ⟨fun h=>n1 (jS h),n2.sublist (pX _ _)⟩
end
open PySem.W (kat_lt kat_kind KatTups KatLex)
noncomputable abbrev Pr2:=List Int × List Int
noncomputable def p2D (x:Pr2):D:= .tup [bT x.1,bT x.2]
theorem rQ:∀a b:List Int,uH (a.map D.int) (b.map D.int)=true
 | [],_=>rfl
 | _::_,[]=>rfl
 | x::a,y::b=>by show (true && uH (a.map D.int) (b.map D.int))=true; rw [rQ a b]; rfl
theorem cmp_p2 (x y:Pr2):uH [bT x.1,bT x.2] [bT y.1,bT y.2]=true:=by show (uH (x.1.map D.int) (y.1.map D.int) && (uH (x.2.map D.int) (y.2.map D.int) && true))=true; rw [rQ,rQ]; rfl
theorem wK {K:aD} {F:Hp} {x:List Int} {v:V} (h:Rep K F (bT x) v):∃c,v= .ref c∧F c=some (.tup (x.map V.int)):=by simp only [bT,Rep] at h; obtain ⟨c,ys,rfl,e,r⟩:=h; have:=(show RepL K F (x.map D.int) ys from r).ints; subst this; exact ⟨c,rfl,e⟩
theorem zT:∀ {x y:List Int},x.map V.int=y.map V.int→x=y
 | [],[],_=>rfl
 | [],_::_,h=>by cases h
 | _::_,[],h=>by cases h
 | a::x,b::y,h=>by
  rw [bQ,bQ] at h; injection h with h1 h2
  injection h1 with h1
  rw [h1,zT h2]
theorem rep_p2 {K:aD} {F:Hp} {x:Pr2} {v:V} (h:Rep K F (p2D x) v):∃a c d,v= .ref a∧F a=some (.tup [.ref c, .ref d])∧F c=some (.tup (x.1.map V.int))∧F d=some (.tup (x.2.map V.int)):=by simp only [p2D,Rep] at h; obtain ⟨a,ys,rfl,e,r⟩:=h; obtain ⟨v1,ys1,rfl,r1,t1⟩:=r.uncons; obtain ⟨v2,ys2,rfl,r2,t2⟩:=t1.uncons; simp only [RepL] at t2; subst t2; obtain ⟨c,rfl,f1⟩:=wK r1; obtain ⟨d,rfl,f2⟩:=wK r2; exact ⟨a,c,d,rfl,e,f1,f2⟩
theorem rep_p2_inj {K:aD} {F:Hp} {x y:Pr2} {v:V} (h:Rep K F (p2D x) v) (g:Rep K F (p2D y) v):x=y:=by obtain ⟨a,c,d,rfl,e,f1,f2⟩:=rep_p2 h; obtain ⟨a',c',d',ea,e',f1',f2'⟩:=rep_p2 g; cases ea; rw [e] at e'; cases e'; rw [f1] at f1'; rw [f2] at f2'; have h1:=zT (HO.tup.inj (dN.inj f1')); have h2:=zT (HO.tup.inj (dN.inj f2')); exact Prod.ext h1 h2
structure SrtP (A:Around) (ps:List Pr2) (rk:Pr2→Nat):Prop where
 len:ps.length≤10000
 lt:∀x∈ps,∀y∈ps,dlt (p2D x) (p2D y)=decide (rk x<rk y)
 nd:(ps.map rk).Nodup
 un:A.units+8<cLine
section
variable {X:Cx}
theorem call_sortP:nQ X (.builtin "sorted") (fun vs H Q=>∃ (a:Addr) (xs:List V) (ps:List Pr2) (rk:Pr2→Nat),vs=[.ref a]∧H a=some (.lst xs)∧RepL X.K H (ps.map p2D) xs∧SrtP X.A ps rk∧
  ∀ (D:Addr) (ys:List V) (qs:List Pr2),H D=none→qs.Perm ps→(qs.map rk).Pairwise (·<·)→(∀F,RepL X.K F (ps.map p2D) xs→RepL X.K F (qs.map p2D) ys)→Q (.ref D) (upd H D (.lst ys))):=by
 intro pins s σ H vs us Q I r h; obtain ⟨a,xs,ps,rk,rfl,ha,rl,M,q⟩:=h; obtain ⟨u,rfl,rx⟩:=qE r; cases (show u=Value.ref a from rx); obtain ⟨z,its,n,rv,hl2,eo⟩:=I.lstM ha
 have tb:∀ {ps:List Pr2} {xs:List V} {us:List Value},RepL X.K H (ps.map p2D) xs→Vals xs us→∃T:List (Pr2 × Addr),us=(T.map fun r=>Value.ref r.2)∧xs=(T.map fun r=>V.ref r.2)∧ps=(T.map fun r=>r.1)∧∀r∈T,Rep X.K H (p2D r.1) (.ref r.2):=by
  intro ps
  induction ps with
  | nil=>intro xs us r rv; rw [fO] at r; simp only [RepL] at r; subst r; cases rv; exact ⟨[],rfl,rfl,rfl,fun r h=>(hZ h).elim⟩
  | cons x ps ih=>
   intro xs us r rv; rw [bQ] at r; obtain ⟨v,xs,rfl,a,rl⟩:=r.uncons; cases rv with
   | cons ru rv=>
    obtain ⟨T,e1,e2,e3,t1⟩:=ih rl rv; obtain ⟨b,c,d,rfl,_⟩:=rep_p2 a; cases ru; refine ⟨(x,b)::T,by rw [bQ,← e1],by rw [bQ,← e2],by rw [bQ,← e3],fun r hr=> ?_⟩
    rcases bV.mp hr with rfl | hr
    ·exact a
    ·exact t1 r hr
 obtain ⟨T,rfl,rfl,rfl,tr⟩:=tb rl rv
 obtain ⟨rkW,hrk⟩:∃rkW:Value→Nat,∀r∈T,rkW (.ref r.2)=rk r.1:=by
  classical
  refine ⟨fun v=>if h:∃r∈T,v=Value.ref r.2 then rk h.choose.1 else 0,fun r hr=> ?_⟩; have h:∃r'∈T,Value.ref r.2=Value.ref r'.2:=⟨r,hr,rfl⟩; show (if h:∃r'∈T,Value.ref r.2=Value.ref r'.2 then rk h.choose.1 else 0)=_; rw [dif_pos h]
  have e2:r.2=h.choose.2:=by have:=h.choose_spec.2; injection this
  have r2:=tr _ h.choose_spec.1; rw [← e2] at r2; rw [rep_p2_inj r2 (tr r hr)]
 have lT:T.length≤10000:=by simpa using M.len
 have mv:∀x∈(T.map fun r=>Value.ref r.2),∃r∈T,x=Value.ref r.2:=fun x hx=>by obtain ⟨r,hr,e⟩:=bH.mp hx; exact ⟨r,hr,e.symm⟩
 have ew:∀T':List (Pr2 × Addr),(∀r∈T',r∈T)→(T'.map fun r=>Value.ref r.2).map rkW=(T'.map fun r=>r.1).map rk:=fun T' h=>by rw [bM,bM]; exact cR fun r hr=>hrk r (h r hr)
 have hok':∀t:Shared,(∀b o,s.heap.get? b=some o→t.heap.get? b=some o)→HOk X.prog X.w H t.heap:=fun t k=>hok_but (cs:=[]) I.hok (fun b u _ g=>k b u g) fun b hb=>(hZ hb).elim
 refine sorted_any (l:=a) (vs:=T.map fun r=>Value.ref r.2) (κ:=tuples' false) (rk:=rkW) ⟨_,eo,rfl,n,rfl⟩ (by rw [ew T fun _ h=>h]; exact M.nd) (by rw [aG]; exact lT) (fun t kp h2 A' R E' _ hR=> ?_) (fun t kp x hx y hy A' R E' hA hR=> ?_) fun out p1 p2=> ?_
 ·have ok:=hok' t kp
  have kt:∀T':List (Pr2 × Addr),(∀r∈T',r∈T)→∃fs:List Value,KatTups t.heap (T'.map fun r=>Value.ref r.2) fs∧fs.length=T'.length∧∀v∈fs,∃c o,v= .ref c∧t.heap.get? c=some o∧o.cls= .type "tuple":=fun T'=>by
   induction T' with
   | nil=>exact fun _=>⟨[], .nil,rfl,fun v hv=>(hZ hv).elim⟩
   | cons r T' ih=>
    intro h; obtain ⟨fs,k,l,i⟩:=ih fun r hr=>h r (aQ _ hr)
    have rr:=tr r (h r aR); obtain ⟨b,ys,its,e1,e2,r2,v2,o,g,c,n',hd⟩:=iB ok rr (show RelV (.ref r.2) (.ref r.2) from rfl); cases e1; cases e2; have r2:RepL X.K H [bT r.1.1,bT r.1.2] ys:=r2; obtain ⟨w1,ys1,rfl,q1,t1⟩:=r2.uncons; obtain ⟨w2,ys2,rfl,q2,t2⟩:=t1.uncons; simp only [RepL] at t2; subst t2; obtain ⟨c1,rfl,f1⟩:=wK q1; cases v2 with
    | cons ru1 v2=>
     cases ru1; obtain ⟨b1,ys1,its1,e3,e4,_,_,o1,g1,cc1,_⟩:=iB ok q1 (show RelV (.ref c1) (.ref c1) from rfl); cases e3; refine ⟨.ref c1::fs,KatTups.cons g c hd (by simp) k,by rw [cM,cM,l],fun v hv=> ?_⟩
     rcases bV.mp hv with rfl | hv
     ·cases e4; exact ⟨_,o1,rfl,g1,cc1⟩
     ·exact i v hv
  obtain ⟨fs,k,l,i⟩:=kt T fun _ h=>h
  rw [aG] at h2; refine kat_kind (T:= .type "tuple") k (by omega) (fun v hv=> ?_) rfl hR; obtain ⟨c,o,rfl,g,e⟩:=i v hv; have:PySem.W.Looks (model X.prog X.w) t.heap (typeOf (.ref c)) o.cls:=(PySem.W.Looks.ld g).andThen .now; rw [e] at this; exact this
 ·have ok:=hok' t kp; obtain ⟨rx,hrx,rfl⟩:=mv x hx; obtain ⟨ry,hry,rfl⟩:=mv y hy; obtain ⟨b,ys,its,e1,e2,r2,v2,o,g,c,n',hd⟩:=iB ok (tr rx hrx) (show RelV (.ref rx.2) (.ref rx.2) from rfl); cases e1; cases e2; obtain ⟨b',ys',its',e1,e2,r2',v2',o',g',c',n'',hd'⟩:=iB ok (tr ry hry) (show RelV (.ref ry.2) (.ref ry.2) from rfl); cases e1; cases e2; have r2:RepL X.K H [bT rx.1.1,bT rx.1.2] ys:=r2; have r2':RepL X.K H [bT ry.1.1,bT ry.1.2] ys':=r2'; have l1:its.length=2:=by rw [← v2.length,r2.len]; rfl
  have l2:its'.length=2:=by rw [← v2'.length,r2'.len]; rfl
  refine kat_lt g hd g' hd' (kat_lex (A:=A') (b:=pJ [bT rx.1.1,bT rx.1.2] [bT ry.1.1,bT ry.1.2]) ?_ ?_)
  ·refine ltAt_L ok [bT rx.1.1,bT rx.1.2] (es:=[bT ry.1.1,bT ry.1.2]) ?_ ?_ ?_ r2 r2' v2 v2' ?_ (by simp [l1,l2])
   ·exact cmp_p2 rx.1 ry.1
   ·show (pl (bT rx.1.1) && (pl (bT rx.1.2) && true))=true; rw [sC,sC]; rfl
   ·show (pl (bT ry.1.1) && (pl (bT ry.1.2) && true))=true; rw [sC,sC]; rfl
   ·have:=M.un; show A'.units+1+max (dep (bT rx.1.1)) (max (dep (bT rx.1.2)) 0)<cLine; rw [xA,xA]; show A'.units+1+1<cLine; omega
  ·have e:pJ [bT rx.1.1,bT rx.1.2] [bT ry.1.1,bT ry.1.2]=decide (rkW (.ref rx.2)<rkW (.ref ry.2)):=by rw [hrk rx hrx,hrk ry hry]; exact M.lt _ (List.mem_map_of_mem (f:=fun r:Pr2 × Addr=>r.1) hrx) _ (List.mem_map_of_mem (f:=fun r:Pr2 × Addr=>r.1) hry)
   rw [e]; exact hR
 ·obtain ⟨T',q1,q2⟩:=zW (f:=fun r:Pr2 × Addr=>Value.ref r.2) (l:=T) (l':=out.toList) p1
  have eo2:out=(T'.map fun r=>Value.ref r.2).toArray:=by apply uK.mp; rw [q2]
  rw [q2,ew T' fun r hr=>q1.mem_iff.mp hr] at p2; subst eo2; obtain ⟨kp,n2,g2⟩:=srt_keep s.heap (T.map fun r=>Value.ref r.2) (T'.map fun r=>Value.ref r.2).toArray; have hD:H (s.heap.objs.size+1)=none:=I.hok.fresh (kJ _); have lT':T'.length=T.length:=q1.length_eq
  have vv:Vals (T'.map fun r=>V.ref r.2) (T'.map fun r=>Value.ref r.2):=by
   generalize T'=U
   induction U with
   | nil=>exact .nil
   | cons r U ih=>exact .cons rfl ih
  have I3:Inv X pins σ (upd H (s.heap.objs.size+1) (.lst (T'.map fun r=>V.ref r.2))) {s with heap:=sortedAll s.heap (T.map fun r=>Value.ref r.2) (T'.map fun r=>Value.ref r.2).toArray}:=
   I.laid (t':=s.toks) kp (kJ _) ⟨by rw [sizeLine_eq,aG]; omega,_,n2,vv,by simpa [seqObj] using g2⟩
  refine ⟨.ref (s.heap.objs.size+1),_,I3,rfl,q _ (T'.map fun r=>V.ref r.2) (T'.map fun r=>r.1) hD (q1.map _) p2 fun F rF=> ?_⟩
  have all:∀ {U:List (Pr2 × Addr)},RepL X.K F ((U.map fun r=>r.1).map p2D) (U.map fun r=>V.ref r.2)→∀r∈U,Rep X.K F (p2D r.1) (.ref r.2):=fun {U}=>by
   induction U with
   | nil=>exact fun _ r hr=>(hZ hr).elim
   | cons y U ih=>
    intro h r hr; rw [bQ,bQ,bQ] at h; obtain ⟨v,vs,e,a1,a2⟩:=h.uncons; cases e
    rcases bV.mp hr with rfl | hr
    ·exact a1
    ·exact ih a2 r hr
  have aT:=all rF; have rT:∀r∈T',Rep X.K F (p2D r.1) (.ref r.2):=fun r hr=>aT r (q1.mem_iff.mp hr)
  clear vv I3 g2 p2 q1 q2 p1 lT' kp
  induction T' with
  | nil=>exact .nil
  | cons r U ih=>exact .cons (rT r aR) (ih fun q hq=>rT q (aQ _ hq))
end
section
variable {X:Cx} {sd:List Slot} {b:Expr} {pos:Pos} {ks:List (List Key)} {k:List Key} {E:jP} {l:Addr} {ls:List Addr} {dss:List (List D)} {ps:List Pr2} {rk:Pr2→Nat}
theorem psd_popS (i j n:Nat) {x y:Str} {px py p ap cp p2:Pos} (hu:X.A.units+1<cLine) (hg:Gl X "sorted") (hm:X.mg "sorted"=none) (hs:sd[i]? =some (odG X.prog X.w X.K l ks ls dss)) (hx:PE X (.Name x px) (lY i)) (hb:PEd X sd b (.val (.tup (k.map kD)))) (hk:ks[n]? =some k) (hd:dss[n]? =some (ps.map p2D)) (M:SrtP X.A ps rk)
  (hN:X.N.Nodup) (hj:X.N[j]? =some y) (hy:Loc X.env.scope y)
  (hE:∀ (l':Addr) (qs:List Pr2),qs.Perm ps→(qs.map rk).Pairwise (·<·)→E.nx ((sd.set i (odG X.prog X.w X.K l (ks.eraseIdx n) (ls.eraseIdx n) (dss.eraseIdx n))).set j (.own l' (qs.map p2D))))
  (hpop:PE X (.Call (.Attribute (.Name x px) "pop" ap) [b] [] cp) (fun σ H Q=>lY i σ H fun v H1=>(∃l ob,v= .ref l∧H1 l=some (exO l ob)∧ob.ExactDict)∧(oR (wE X b) zR) σ H1 fun xs H2=>rPop X v xs H2 Q):=by exact pe_dm jU PySem.F.slot_dict_pop PySem.F.type_dict_pop mt_pop (pv _) (gR gS pa_nil))
  (hst:starEach [.Call (.Attribute (.Name x px) "pop" ap) [b] [] cp] X.env=(false,eval (.Call (.Attribute (.Name x px) "pop" ap) [b] [] cp) X.env)::starEach [] X.env:=by rfl)
  (hsw:swapsWith (.Call (.Name "sorted" p) [.Call (.Attribute (.Name x px) "pop" ap) [b] [] cp] [] p2) (some (.Name y py)) pos.line X.env=pure false:=by rfl)
  (hf:X.fn y=true∨X.env.scope.names.lookup y=some .local:=by first | exact .inl rfl | exact .inr rfl | assumption):
  PSd1 X sd (.Assign [.Name y py] (.Call (.Name "sorted" p) [.Call (.Attribute (.Name x px) "pop" ap) [b] [] cp] [] p2) pos) E:= .mk fun σ F H S=>
 (tF hN hj hy (rW call_sortP hg hm boot_sorted (gR hpop pa_nil hst) (by decide) (by decide) hst rfl) hsw hf).to (by
  obtain ⟨h1,h2,⟨o,h3,nc,hk2,td⟩,h4,h5⟩:=iM S hs; refine ⟨.ref l,h1,⟨l,o,rfl,h3,td.2.2.choose_spec.2.choose_spec.choose_spec.1⟩,(hb σ F H S).imp fun v1 H1 ⟨F1,S1,s1,q1⟩=> ?_⟩; obtain ⟨g1,g2,⟨o2,g3,nc2,hk3,td2⟩,g4,g5⟩:=iM S1 hs; obtain ⟨n1,n2⟩:=cV.mp g5; simp only [ResOk,Rep] at q1; obtain ⟨ad,ys,rfl,ha,rl⟩:=q1; rw [pE rl] at ha; have nl:n<ls.length:=by have:=(aP.mp hk).1; omega
  have e3:ls[n]? =some ls[n]:=by simp [nl]
  generalize ls[n]=an at e3; obtain ⟨ds,xs,d1,d2,d3⟩:=g4.get e3; rw [hd] at d1; cases d1; have anl:an≠l:=fun z=>n1 (z▸aY e3)
  have zg:(ks.zip (ls.map V.ref))[n]? =some (k,V.ref an):=by rw [jK]; exact ⟨hk,by rw [bG,e3]; rfl⟩
  refine ⟨F1,l,ad,k, .ref an,n,o2,ks.zip (ls.map V.ref),rfl,rfl,S1.sub,g3,ha,hu,td2,zg,fun o' nc' td'=> ?_⟩; have S2:=S1.popG n hs nc' td'; refine ⟨an,xs,ps,rk,rfl,by rw [cE anl]; exact d2,d3.mono S2.sub,M,fun D ys qs hD pm pw hr=> ?_⟩; obtain ⟨S3,fp,no⟩:=S2.layO (xs:=ys) hD
  exact ⟨_,F1,S3.setO j fp dD (hr F1 d3) no,s1,hE D qs pm pw⟩)
end
theorem InD.snocL {K:aD} {F H:Hp} {a:Addr} {ds:List D} {xs:List V}:∀ {as:List Addr} {dss:List (List D)},InD K F H as dss→H a=some (.lst xs)→RepL K F ds xs→InD K F H (as++[a]) (dss++[ds])
 | [],[],_,e,r=>⟨⟨xs,e,r⟩,trivial⟩
 | [],_::_,h,_,_=>h.elim
 | _::_,[],h,_,_=>h.elim
 | _::_,_::_,h,e,r=>⟨h.1,InD.snocL h.2 e r⟩
section
variable {K:aD} {H₀ F F' H H':Hp} {σ:St} {sd:List Slot} {i:Nat} {l:Addr} {ls:List Addr} {dss:List (List D)} {P:Program} {w:World} {ks:List (List Key)}
theorem StF.newW {a:Addr} {o:Obj} {k:List Key} {ds:List D} {xs:List V} (S:StF K H₀ F H σ sd) (hs:sd[i]? =some (odG P w K l ks ls dss)) (fa:F a=none) (ha:H a=some (.lst xs)) (rl:RepL K F ds xs) (na:a∉dC sd) (nc:∀v,o.data≠ .cell v) (td:TDo P w F l o (ks.zip (ls.map V.ref)++[(k, .ref a)])):
  StF K H₀ F (upd H l (exO l o)) σ (sd.set i (odG P w K l (ks++[k]) (ls++[a]) (dss++[ds]))):=by
 obtain ⟨g1,g2,⟨o',g3,nc',hl,_⟩,g4,g5⟩:=iM S hs; obtain ⟨n1,n2⟩:=cV.mp g5; have ml:∀b∈l::ls,b∈dC sd:=fun b hb=>mem_owned hs hb
 have al:a≠l:=fun z=>na (z▸ml l aR)
 have als:a∉ls:=fun z=>na (ml a (aQ _ z))
 have sp:∀b,b∈l::(ls++[a])→b∈l::ls∨b=a:=fun b hb=>by
  rcases bV.mp hb with h | h
  ·exact .inl (h▸aR)
  ·rcases bU.mp h with h | h
   ·exact .inl (aQ _ h)
   ·exact .inr (aU.mp h)
 refine S.reX (z':=odG P w K l (ks++[k]) (ls++[a]) (dss++[ds])) hs g1 (fun b ob hb q=> ?_) (nT S.smp l) (vY (fun b hb=> ?_) dD nc (by rw [bK,bK,hl]; rfl) ?_ ?_) ?_ fun b hb=> ?_
 ·rw [cE (show b≠l from fun z=>hb (z▸aR))]; exact q
 ·rcases sp b hb with h | rfl
  ·exact g2 b h
  ·exact fa
 ·rw [bR,bQ,fO,tI (by rw [aG]; exact hl)]; exact td
 ·refine InD.snocL (g4.mono2 (Same.refl _) fun b hb ob q=> ?_) ?_ rl
  ·rw [cE (show b≠l from fun z=>n1 (z▸hb))]; exact q
  ·rw [cE al]; exact ha
 ·show (l::(ls++[a])).Nodup; refine cV.mpr ⟨fun h=> ?_,bY.mpr ⟨n2,by simp,fun b hb c hc e=>als (aU.mp hc▸e▸hb)⟩⟩
  rcases bU.mp h with h | h
  ·exact n1 h
  ·exact al (aU.mp h).symm
 ·rcases sp b hb with h | rfl
  ·exact .inl h
  ·exact .inr na
end
section
variable {X:Cx} {sd:List Slot} {e:Expr} {pos:Pos} {ks:List (List Key)} {E:jP} {l:Addr} {ls:List Addr} {dss:List (List D)} {ds:List D}
theorem psd_putW (i:Nat) {x:Str} {p p2 q1 q2 tp:Pos} {c c':Int} {j1 j2 x1:Nat} (hu:X.A.units+1<cLine) (hs:sd[i]? =some (odG X.prog X.w X.K l ks ls dss)) (hx:PE X (.Name x p) (lY i)) (h:PEd X sd e (.own ds)) (hk:([Sum.inl c,Sum.inl c']:List Key)∉ks) (hl:dss.length≤1000)
  (hE:∀a,E.nx (sd.set i (odG X.prog X.w X.K l (ks++[[Sum.inl c,Sum.inl c']]) (ls++[a]) (dss++[ds]))))
  (hb:PE X (.Tuple [.Constant (.int c) j1 q1, .Constant (.int c') j2 q2] x1 tp) (tTup (oR (tC (.int c)) (oR (tC (.int c')) zR))):=by exact pe_tup (gR pe_int (gR pe_int pa_nil)))
  (hsw:swapsWith e (some (.Subscript (.Name x p) (.Tuple [.Constant (.int c) j1 q1, .Constant (.int c') j2 q2] x1 tp) p2)) pos.line X.env=pure false:=by rfl):PSd1 X sd (.Assign [.Subscript (.Name x p) (.Tuple [.Constant (.int c) j1 q1, .Constant (.int c') j2 q2] x1 tp) p2] e pos) E:= .mk fun σ F H S pins s I=>by
 refine wpAny_Assign_Subscript (thn (h σ F H S pins s I) fun r s1 ⟨v,H1,I1,rv,F1,S1,sF1,q1⟩=> ?_) hsw; obtain ⟨a,xs,rfl,fa,ha,rl,na⟩:=q1; obtain rfl:r=Value.ref a:=rv; obtain ⟨h1,_⟩:=iM S1 hs; refine thn (hx pins s1 σ H1 (fun v H2=>v= .ref l∧H2=H1) I1 ⟨.ref l,h1,rfl,rfl⟩) fun u s2 ⟨y,H2,I2,ry,e1,e2⟩=> ?_
 subst e1 e2; obtain rfl:u=Value.ref l:=ry; refine thn (hb pins s2 σ H2 (fun v H3=>∃ad,v= .ref ad∧H2 ad=none∧H3=upd H2 ad (.tup [.int c, .int c'])) I2 ⟨by show 2≤sizeLine; decide,fun ad had=>⟨ad,rfl,had,rfl⟩⟩) fun iv s3 ⟨y,H3,I3,ry,ad,e1,fad,e3⟩=> ?_
 subst e1 e3; obtain rfl:iv=Value.ref ad:=ry; obtain ⟨S3,sF3⟩:=S1.lay (o:= .tup [.int c, .int c']) fad trivial; have ada:a≠ad:=fun z=>by rw [z,fad] at ha; cases ha
 have fa3:upd F1 ad (.tup [.int c, .int c']) a=none:=by rw [cE ada]; exact fa
 have ha3:upd H2 ad (.tup [.int c, .int c']) a=some (.lst xs):=by rw [cE ada]; exact ha
 obtain ⟨g1,g2,⟨o,g3,nc,hkl,z,hm,ts,kt,es,ep,t1,t2,t3,t4⟩,g4,g5⟩:=iM S3 hs; have had:upd F1 ad (.tup [.int c, .int c']) ad=some (.tup (([Sum.inl c,Sum.inl c']:List Key).map kV)):=dD; have ho:s3.heap.get? l=some o:=(I3.hok l _ g3).1; have ktH:=kt.keeps fun b ys e=>S3.sub _ _ e
 have dd:s3.heap.DictOfH (tupleKind (gI X.prog X.w)) l ts:=⟨o,es,ep,ho,t1,t2,t3,KT.all I3.hok ktH,t4⟩; have hz:ts.length≤sizeLine:=by rw [← Paired.length kt]; exact z
 have zl:(ks.zip (ls.map V.ref)).length=dss.length:=by rw [iN,aG,← hkl,mP,hkl,g4.len]
 have vn:lJ (ks.zip (ls.map V.ref)) [Sum.inl c,Sum.inl c']=none:=xV hk fun _ z=>z
 have hl2:(putK (ks.zip (ls.map V.ref)) [Sum.inl c,Sum.inl c'] (.ref a)).length≤sizeLine:=by rw [wL _ vn,bK,zl]; have:=gW hl; show dss.length+1≤sizeLine; omega
 refine wpAny_setItem_heap (hsz:=hz) (tupleKind_room_in1 hu) (sW I3.hok (S3.sub _ _ had)) dd fun h' dd' hsm=> ?_
 obtain ⟨q,es',ep',hq,u2,u3,u4,_,u5⟩:=dd'; have I4:=uU (t':=s3.toks+(tupleKind (gI X.prog X.w)).draws [Sum.inl c,Sum.inl c']) I3 (ob:=exO l q) (by rw [g3]; exact True.intro) hsm ⟨q,hq⟩ (tT hq); have kt':=kt.put [Sum.inl c,Sum.inl c'] had (show RelV (.ref a) (.ref a) from rfl); rw [wL _ vn] at kt' hl2; exact ⟨σ,_,I4,_,_,S3.newW (o:=q) (k:=[Sum.inl c,Sum.inl c']) hs fa3 ha3 (rl.mono sF3) na (fun v z=>by rw [u3] at z; cases z) ⟨hl2,hm,_,kt',es',ep',u2,u3,u4,u5⟩,sF1.trans sF3,hE a⟩
end
noncomputable def rkK (r:Int × Int):List Key:=[Sum.inl r.1,Sum.inl r.2]
theorem rkK_inj {a b:Int × Int} (h:rkK a=rkK b):a=b:=by
 unfold rkK at h; injection h with h1 h2
 injection h2 with h2 _
 injection h1 with h1
 injection h2 with h2
 exact Prod.ext h1 h2
noncomputable abbrev WtT:=List ((Int × Int) × List Pr2)
structure Wt where
 l:Addr
 ls:List Addr
 T:WtT
noncomputable def wtK (T:WtT):List (List Key):=T.map fun t=>rkK t.1
noncomputable def wtD (T:WtT):List (List D):=T.map fun t=>t.2.map p2D
noncomputable def wtS (P:Program) (w:World) (K:aD) (a:Wt):Slot:=odG P w K a.l (wtK a.T) a.ls (wtD a.T)
noncomputable def wtL (P:Program) (w:World) (K:aD):Lent K:=⟨Wt,Wt.l,fun a=>a.l::a.ls,fun a=>Gg P w K a.l (wtK a.T) a.ls (wtD a.T),fun h=>h.1⟩
theorem wtL_soft (P:Program) (w:World) (K:aD) (a:Wt) (v:V) (F H:Hp) (b:Addr) (o:HO) (h:(wtL P w K).G a v F H) (hb:b∈(wtL P w K).own a) (e:H b=some o):¬ Hard o:=by
 obtain ⟨_,⟨ob,g,_⟩,hI⟩:=h
 rcases bV.mp (show b∈a.l::a.ls from hb) with rfl | hb
 ·rw [g] at e; cases e; exact fun z=>z
 ·obtain ⟨xs,g2⟩:=InD.of hI b hb; rw [g2] at e; cases e; exact fun z=>z
noncomputable def kM:WtT→Int × Int→Pr2→WtT
 | [],r,x=>[(r,[x])]
 | t::T,r,x=>if t.1=r then (t.1,t.2++[x])::T else t::kM T r x
theorem wM {r:Int × Int} (x:Pr2):∀ {T:WtT},rkK r∉wtK T→kM T r x=T++[(r,[x])]
 | [],_=>rfl
 | t::T,h=>by
  have h1:t.1≠r:=fun e=>h (by unfold wtK; rw [bQ,e]; exact aR)
  show (if t.1=r then _ else t::kM T r x)=_; rw [if_neg h1,wM x (T:=T) fun z=>h (aQ _ z)]; rfl
theorem vQ {r:Int × Int} (x:Pr2):∀ {T:WtT} {n:Nat} {ds:List D},(wtK T).Nodup→(wtK T)[n]? =some (rkK r)→(wtD T)[n]? =some ds→wtK (kM T r x)=wtK T∧wtD (kM T r x)=(wtD T).set n (ds++[p2D x])
 | [],n,ds,_,h,_=>by simp [wtK] at h
 | t::T,0,ds,nd,h,hd=>by
  have e:t.1=r:=rkK_inj (by simpa [wtK] using h); have e2:t.2.map p2D=ds:=by simpa [wtD] using hd
  have ea:kM (t::T) r x=(t.1,t.2++[x])::T:=if_pos e; rw [ea]; refine ⟨rfl, ?_⟩; show ((t.2++[x]).map p2D)::wtD T=((t.2.map p2D)::wtD T).set 0 _; rw [bR,e2]; rfl
 | t::T,n+1,ds,nd,h,hd=>by
  have nd':=cV.mp (show (rkK t.1::wtK T).Nodup from nd); have h':(wtK T)[n]? =some (rkK r):=by simpa [wtK] using h
  have hd':(wtD T)[n]? =some ds:=by simpa [wtD] using hd
  have ne:t.1≠r:=fun e=>nd'.1 (e▸aY h')
  have ea:kM (t::T) r x=t::kM T r x:=if_neg ne; obtain ⟨k1,k2⟩:=vQ x nd'.2 h' hd'; rw [ea]; refine ⟨by show rkK t.1::wtK (kM T r x)=rkK t.1::wtK T; rw [k1], ?_⟩; show t.2.map p2D::wtD (kM T r x)=(t.2.map p2D::wtD T).set (n+1) _; rw [k2]; rfl
theorem addI_nd {r:Int × Int} (x:Pr2) {T:WtT} (nd:(wtK T).Nodup):(wtK (kM T r x)).Nodup:=by
 by_cases h:rkK r∈wtK T
 ·obtain ⟨n,hn⟩:=fH h
  have ln:n<T.length:=by have:=(aP.mp hn).1; simpa [wtK] using this
  obtain ⟨ds,hd⟩:∃ds,(wtD T)[n]? =some ds:=⟨_,by unfold wtD; rw [bG,fV ln]; rfl⟩; rw [(vQ x nd hn hd).1]; exact nd
 ·rw [wM x h]; unfold wtK; rw [bR]; refine bY.mpr ⟨nd,by simp,fun a ha b hb e=>h ?_⟩; have q:b=rkK r:=by simpa using hb
  rw [← q,← e]; exact ha
noncomputable def tot (T:WtT):Nat:=(T.map fun t=>t.2.length+1).sum
theorem tot_add (r:Int × Int) (x:Pr2):∀T:WtT,tot (kM T r x)≤tot T+2
 | []=>by simp [tot,kM]
 | t::T=>by
  have ih:=tot_add r x T; show tot (if t.1=r then (t.1,t.2++[x])::T else t::kM T r x)≤_
  split
  ·simp [tot]; omega
  ·simp [tot] at ih ⊢; omega
theorem tot_len (T:WtT):T.length≤tot T:=by
 induction T with
 | nil=>exact aX _
 | cons t T ih=>simp [tot] at ih ⊢; omega
theorem tot_mem {T:WtT}:∀ds∈wtD T,ds.length≤tot T:=by
 induction T with
 | nil=>exact fun ds h=>(hZ h).elim
 | cons t T ih=>
  intro ds h
  rcases bV.mp (show ds∈t.2.map p2D::wtD T from h) with rfl | h
  ·rw [aG]; simp [tot]; omega
  ·have:=ih ds h; simp [tot] at this ⊢; omega
noncomputable def nP (x:List Nat × List Nat):Pr2:=(x.1.map fun (i:Nat)=>(i:Int),x.2.map fun (i:Nat)=>(i:Int))
theorem nP_D (x:List Nat × List Nat):p2D (nP x)= .tup [.tup (cG x.1), .tup (cG x.2)]:=by unfold p2D nP bT cG; rw [bM,bM]; rfl
noncomputable def lgQ (p:Int × Int) (L:List SK) (b:Int) (r:Int × Int) (row nb:List Nat):Nat→WtT→WtT
 | 0,T=>T
 | t+1,T=>if r.1+(L.getD t default).2≤b then kM (lgQ p L b r row nb t T) (r.1+(L.getD t default).2,r.2+1) (nP (row++[t],jG (jV p (L.getD t default).1) nb)) else lgQ p L b r row nb t T
theorem lg_nd {p:Int × Int} {L:List SK} {b:Int} {r:Int × Int} {row nb:List Nat} {T:WtT} (nd:(wtK T).Nodup):∀t,(wtK (lgQ p L b r row nb t T)).Nodup
 | 0=>nd
 | t+1=>by
  unfold lgQ
  split
  ·exact addI_nd _ (lg_nd nd t)
  ·exact lg_nd nd t
theorem lg_tot {p:Int × Int} {L:List SK} {b:Int} {r:Int × Int} {row nb:List Nat} {T:WtT}:∀t,tot (lgQ p L b r row nb t T)≤tot T+2 * t
 | 0=>aX _
 | t+1=>by
  have ih:=lg_tot (p:=p) (L:=L) (b:=b) (r:=r) (row:=row) (nb:=nb) (T:=T) t; unfold lgQ
  split
  ·have:=tot_add (r.1+(L.getD t default).2,r.2+1) (nP (row++[t],jG (jV p (L.getD t default).1) nb)) (lgQ p L b r row nb t T); omega
  ·omega
noncomputable def CPut (a:Wt) (ds:List D) (post:Wt→Prop):Prop:=∃p L b r row nb,p∈dH∧L.length≤100∧NOk p nb∧row.length≤400∧(wtK a.T).Nodup∧tot a.T+2 * L.length≤900∧ds=[.lst (L.map (mvD p)), .int b, .tup [.int r.1, .int r.2], .tup (cG row), .tup (cG nb)]∧post=fun a'=>a'.l=a.l∧a'.T=lgQ p L b r row nb L.length a.T
noncomputable def unP (y:Pr2):List Nat × List Nat:=(y.1.map qX,y.2.map qX)
theorem unP_nP (x:List Nat × List Nat):unP (nP x)=x:=by
 have g:∀l:List Nat,(l.map fun (i:Nat)=>(i:Int)).map qX=l:=fun l=>by rw [bM]; exact (cR fun i _=>eY i).trans (qI l)
 unfold unP nP; exact Prod.ext (g x.1) (g x.2)
structure FdS where
 T:WtT
 kn:List (List Nat)
 fd:List (Int × List Nat × List Nat)
noncomputable def fdI (p:Int × Int) (L:List SK) (b:Int) (r:Int × Int) (S:FdS) (x:List Nat × List Nat):FdS:=if x.2∈S.kn then S else ⟨lgQ p L b r x.1 x.2 L.length S.T,S.kn++[x.2],S.fd++[(r.1,x.1,x.2)]⟩
noncomputable def fdP (p:Int × Int) (L:List SK) (b:Int) (r:Int × Int) (S:FdS) (xs:List Pr2):FdS:=xs.foldl (fun S y=>fdI p L b r S (unP y)) S
theorem vM (p:Int × Int) (L:List SK) (b:Int) (r:Int × Int) (S:FdS) (xs:List Pr2) (y:Pr2):fdP p L b r S (xs++[y])=fdI p L b r (fdP p L b r S xs) (unP y):=by unfold fdP; rw [nX]; rfl
structure FdOk (S:FdS):Prop where
 nk:(wtK S.T).Nodup
 kn:S.kn=S.fd.map fun e=>e.2.2
 nd:S.kn.Nodup
theorem fdI_ok {p:Int × Int} {L:List SK} {b:Int} {r:Int × Int} {S:FdS} (h:FdOk S) (x:List Nat × List Nat):FdOk (fdI p L b r S x):=by
 unfold fdI
 split
 ·exact h
 ·rename_i q; refine ⟨lg_nd h.nk _, ?_,bY.mpr ⟨h.nd,by simp,fun a ha c hc e=>q ?_⟩⟩
  ·show S.kn++[x.2]=(S.fd++[(r.1,x.1,x.2)]).map _; rw [bR,← h.kn]; rfl
  ·have hc:c=x.2:=by simpa using hc
   rw [← hc,← e]; exact ha
noncomputable def rlt (r s:Int × Int):Prop:=r.1<s.1∨(r.1=s.1∧r.2<s.2)
instance (r s:Int × Int):Decidable (rlt r s):=inferInstanceAs (Decidable (_∨_))
noncomputable def rkD (r:Int × Int):D:= .tup [.int r.1, .int r.2]
theorem dlt_rk (r s:Int × Int):dlt (rkD r) (rkD s)=decide (rlt r s):=by
 have e:dlt (rkD r) (rkD s)=(if deq (.int r.1) (.int s.1)=true then (if deq (.int r.2) (.int s.2)=true then false else decide (r.2<s.2)) else decide (r.1<s.1)):=rfl; have d:∀a b:Int,deq (.int a) (.int b)=decide (a=b):=fun a b=>rfl
 rw [e,d,d]; unfold rlt
 by_cases h1:r.1=s.1
 ·by_cases h2:r.2=s.2
  ·simp [h1,h2]
  ·simp [h1,h2]
 ·have:¬ (r.1=s.1∧r.2<s.2):=fun z=>h1 z.1
  simp [h1]
theorem uW (bt:Nat→Nat→Bool):∀k,argBest bt k≤k
 | 0=>aX _
 | k+1=>by
  show (if bt (k+1) (argBest bt k)=true then k+1 else argBest bt k)≤k+1
  split
  ·exact aX _
  ·exact Nat.le_succ_of_le (uW bt k)
theorem wC (rs:List (Int × Int)):∀k,k<rs.length→∀j,j≤k→¬ rlt (rs.getD j (0,0)) (rs.getD (argBest (fun i k=>decide (rlt (rs.getD i (0,0)) (rs.getD k (0,0)))) k) (0,0))
 | 0,_,j,hj=>by
  have:j=0:=by omega
  subst this; show ¬ rlt _ (rs.getD 0 (0,0)); unfold rlt; omega
 | k+1,hk,j,hj=>by
  have ih:=wC rs k (by omega); generalize hb:argBest (fun i k=>decide (rlt (rs.getD i (0,0)) (rs.getD k (0,0)))) k=bk at ih
  have e:argBest (fun i k=>decide (rlt (rs.getD i (0,0)) (rs.getD k (0,0)))) (k+1)=if decide (rlt (rs.getD (k+1) (0,0)) (rs.getD bk (0,0)))=true then k+1 else bk:=by rw [← hb]; rfl
  rw [e]
  by_cases q:rlt (rs.getD (k+1) (0,0)) (rs.getD bk (0,0))
  ·rw [if_pos (decide_eq_true q)]
   by_cases hjk:j=k+1
   ·subst hjk; unfold rlt; omega
   ·have:=ih j (by omega); unfold rlt at *; omega
  ·rw [if_neg (by rw [decide_eq_false q]; decide)]
   by_cases hjk:j=k+1
   ·subst hjk; exact q
   ·exact ih j (by omega)
theorem qM {bt bt':Nat→Nat→Bool}:∀k,(∀i j,i≤k→j≤k→bt i j=bt' i j)→argBest bt k=argBest bt' k
 | 0,_=>rfl
 | k+1,h=>by
  have ih:=qM k fun i j hi hj=>h i j (by omega) (by omega)
  show (if bt (k+1) (argBest bt k)=true then k+1 else argBest bt k)=(if bt' (k+1) (argBest bt' k)=true then k+1 else argBest bt' k); have:=uW bt' k; rw [ih,h (k+1) (argBest bt' k) (aX _) (by omega)]
theorem min_wt {X:Cx} (hu:X.A.units+4<cLine) {T:WtT} (hne:T≠[]):MinOk X ((wtK T).map oK)∧∃t:(Int × Int) × List Pr2,T[kP ((wtK T).map oK)]? =some t∧((wtK T).map oK)[kP ((wtK T).map oK)]? =some (rkD t.1)∧(wtK T)[kP ((wtK T).map oK)]? =some (rkK t.1)∧(wtD T)[kP ((wtK T).map oK)]? =some (t.2.map p2D)∧∀s∈T,¬ rlt s.1 t.1:=by
 have l0:0<T.length:=jM.mpr hne
 have em:(wtK T).map oK=T.map fun t=>rkD t.1:=by unfold wtK; rw [bM]; rfl
 have ln:((wtK T).map oK).length=T.length:=by rw [em,aG]
 have mem:∀d∈(wtK T).map oK,∃r,d=rkD r:=fun d hd=>by rw [em] at hd; obtain ⟨t,_,rfl⟩:=bH.mp hd; exact ⟨t.1,rfl⟩
 have gd:∀i,i<T.length→((wtK T).map oK).getD i .non=rkD ((T.map (·.1)).getD i (0,0)):=fun i hi=>by rw [em]; simp [cY,hi]
 have eb:kP ((wtK T).map oK)=argBest (fun i k=>decide (rlt ((T.map (·.1)).getD i (0,0)) ((T.map (·.1)).getD k (0,0)))) (T.length - 1):=by unfold kP; rw [ln]; exact qM _ fun i j hi hj=>by rw [gd i (by omega),gd j (by omega),dlt_rk]
 have bl:=uW (fun i k=>decide (rlt ((T.map (·.1)).getD i (0,0)) ((T.map (·.1)).getD k (0,0)))) (T.length - 1); have bm:=wC (T.map (·.1)) (T.length - 1) (by rw [aG]; omega); rw [← eb] at bl bm; generalize kP ((wtK T).map oK)=n at bl bm; have hn:n<T.length:=by omega
 have hT:T[n]? =some T[n]:=fV hn; refine ⟨⟨by rw [ln]; exact l0,fun d hd d2 hd2=> ?_,fun d hd=> ?_,fun d hd=> ?_⟩,T[n],hT, ?_, ?_, ?_,fun s hs=> ?_⟩
 ·obtain ⟨r,rfl⟩:=mem d hd; obtain ⟨r2,rfl⟩:=mem d2 hd2; rfl
 ·obtain ⟨r,rfl⟩:=mem d hd; rfl
 ·obtain ⟨r,rfl⟩:=mem d hd; show X.A.units+1+1<cLine; omega
 ·rw [em,bG,hT]; rfl
 ·unfold wtK; rw [bG,hT]; rfl
 ·unfold wtD; rw [bG,hT]; rfl
 ·obtain ⟨j,hj⟩:=fH hs; have lj:j<T.length:=(aP.mp hj).1; have:=bm j (by omega); have e1:(T.map (·.1)).getD j (0,0)=s.1:=by simp [cY,hj]
  have e2:(T.map (·.1)).getD n (0,0)=T[n].1:=by simp [cY,hn]
  rw [e1,e2] at this; exact this
noncomputable def llt:List Int→List Int→Bool
 | [],[]=>false
 | [],_::_=>true
 | _::_,[]=>false
 | x::a,y::b=>if x=y then llt a b else decide (x<y)
theorem llt_D:∀a b:List Int,pJ (a.map D.int) (b.map D.int)=llt a b
 | [],[]=>rfl
 | [],_::_=>rfl
 | _::_,[]=>rfl
 | x::a,y::b=>by
  have e:pJ ((x::a).map D.int) ((y::b).map D.int)=if decide (x=y)=true then pJ (a.map D.int) (b.map D.int) else decide (x<y):=rfl
  rw [e,llt_D a b]; show _=if x=y then llt a b else decide (x<y)
  by_cases h:x=y
  ·rw [if_pos (decide_eq_true h),if_pos h]
  ·rw [if_neg (by rw [decide_eq_false h]; decide),if_neg h]
theorem mY:∀a:List Int,llt a a=false
 | []=>rfl
 | x::a=>by show (if x=x then llt a a else decide (x<x))=false; rw [if_pos rfl]; exact mY a
theorem zJ:∀a b:List Int,a≠b→llt a b=true∨llt b a=true
 | [],[],h=>absurd rfl h
 | [],_::_,_=> .inl rfl
 | _::_,[],_=> .inr rfl
 | x::a,y::b,h=>by
  show (if x=y then llt a b else decide (x<y))=true∨(if y=x then llt b a else decide (y<x))=true
  by_cases e:x=y
  ·subst e; rw [if_pos rfl,if_pos rfl]; exact zJ a b fun z=>h (by rw [z])
  ·rw [if_neg e,if_neg (fun z=>e z.symm),decide_eq_true_iff,decide_eq_true_iff]; omega
theorem tS:∀a b c:List Int,llt a b=true→llt b c=true→llt a c=true
 | [],[],_,h,_=>by cases h
 | [],_::_,[],_,h=>by cases h
 | [],_::_,_::_,_,_=>rfl
 | _::_,[],_,h,_=>by cases h
 | _::_,_::_,[],_,h=>by cases h
 | x::a,y::b,z::c,h1,h2=>by
  have h1:(if x=y then llt a b else decide (x<y))=true:=h1; have h2:(if y=z then llt b c else decide (y<z))=true:=h2; show (if x=z then llt a c else decide (x<z))=true
  by_cases e1:x=y
  ·subst e1; rw [if_pos rfl] at h1
   by_cases e2:x=z
   ·subst e2; rw [if_pos rfl] at h2 ⊢; exact tS a b c h1 h2
   ·rw [if_neg e2] at h2 ⊢; exact h2
  ·rw [if_neg e1] at h1; have h1:=of_decide_eq_true h1
   by_cases e2:y=z
   ·subst e2; rw [if_neg e1]; exact decide_eq_true h1
   ·rw [if_neg e2] at h2; have h2:=of_decide_eq_true h2; rw [if_neg (by omega)]; exact decide_eq_true (by omega)
noncomputable def plt (x y:Pr2):Bool:=if x.1=y.1 then llt x.2 y.2 else llt x.1 y.1
theorem deq_T (a b:List Int):deq (bT a) (bT b)=decide (a=b):=wO a b
theorem plt_D (x y:Pr2):dlt (p2D x) (p2D y)=plt x y:=by
 have e:dlt (p2D x) (p2D y)=if deq (bT x.1) (bT y.1)=true then (if deq (bT x.2) (bT y.2)=true then false else pJ (x.2.map D.int) (y.2.map D.int)) else pJ (x.1.map D.int) (y.1.map D.int):=rfl
 rw [e,deq_T,deq_T,llt_D,llt_D]; unfold plt
 by_cases h:x.1=y.1
 ·rw [if_pos (decide_eq_true h),if_pos h]
  by_cases h2:x.2=y.2
  ·rw [if_pos (decide_eq_true h2),h2,mY]
  ·rw [if_neg (by rw [decide_eq_false h2]; decide)]
 ·rw [if_neg (by rw [decide_eq_false h]; decide),if_neg h]
theorem plt_irr (x:Pr2):plt x x=false:=by unfold plt; rw [if_pos rfl]; exact mY _
theorem plt_tot {x y:Pr2} (h:x≠y):plt x y=true∨plt y x=true:=by
 unfold plt
 by_cases e:x.1=y.1
 ·rw [if_pos e,if_pos e.symm]; exact zJ _ _ fun z=>h (Prod.ext e z)
 ·rw [if_neg e,if_neg fun z=>e z.symm]; exact zJ _ _ e
theorem plt_tr {x y z:Pr2} (h1:plt x y=true) (h2:plt y z=true):plt x z=true:=by
 unfold plt at *
 by_cases e1:x.1=y.1
 ·rw [if_pos e1] at h1
  by_cases e2:y.1=z.1
  ·rw [if_pos e2] at h2; rw [if_pos (e1.trans e2)]; exact tS _ _ _ h1 h2
  ·rw [if_neg e2] at h2; rw [e1,if_neg e2]; exact h2
 ·rw [if_neg e1] at h1
  by_cases e2:y.1=z.1
  ·rw [← e2,if_neg e1]; exact h1
  ·rw [if_neg e2] at h2
   by_cases e3:x.1=z.1
   ·have:=tS _ _ _ h1 h2; rw [e3,mY] at this; cases this
   ·rw [if_neg e3]; exact tS _ _ _ h1 h2
noncomputable def rkP (ps:List Pr2) (x:Pr2):Nat:=(ps.filter fun y=>plt y x).length
theorem vU {ps:List Pr2} {x y:Pr2} (hx:x∈ps) (h:plt x y=true):rkP ps x<rkP ps y:=by
 unfold rkP
 have e:ps.filter (fun z=>plt z x)=(ps.filter fun z=>plt z y).filter fun z=>plt z x:=by
  rw [List.filter_filter]; refine List.filter_congr fun z _=> ?_
  cases q:plt z x with
  | false=>rfl
  | true=>rw [plt_tr q h]; rfl
 rw [e]; refine List.length_filter_lt_length_iff_exists.mpr ⟨x,mG.mpr ⟨hx,h⟩, ?_⟩; rw [plt_irr]; decide
theorem rkP_ok {A:Around} {ps:List Pr2} (nd:ps.Nodup) (hl:ps.length≤10000) (hu:A.units+8<cLine):SrtP A ps (rkP ps):=by
 have key:∀x∈ps,∀y∈ps,x≠y→rkP ps x≠rkP ps y:=fun x hx y hy ne=>by
  rcases plt_tot ne with h | h
  ·exact cH (vU hx h)
  ·exact hV (vU hy h)
 refine ⟨hl,fun x hx y hy=> ?_, ?_,hu⟩
 ·rw [plt_D]; cases h:plt x y with
  | true=>exact (decide_eq_true (vU hx h)).symm
  | false=>
   refine (decide_eq_false fun q=> ?_).symm
   by_cases e:x=y
   ·rw [e] at q; omega
   ·rcases plt_tot e with z | z
    ·rw [h] at z; cases z
    ·have:=vU hy z; omega
 ·unfold List.Nodup; rw [nY]; exact List.Pairwise.imp_of_mem (fun {a b} ha hb h=>key a ha b hb h) nd
noncomputable def insP (x:Pr2):List Pr2→List Pr2
 | []=>[x]
 | y::l=>if plt x y then x::y::l else y::insP x l
noncomputable def jB:List Pr2→List Pr2
 | []=>[]
 | x::l=>insP x (jB l)
theorem tP (x:Pr2):∀l,(insP x l).Perm (x::l)
 | []=> .refl _
 | y::l=>by
  show (if plt x y then x::y::l else y::insP x l).Perm _
  split
  ·exact .refl _
  ·exact ((tP x l).cons y).trans (.swap x y l)
theorem iH:∀l,(jB l).Perm l
 | []=> .refl _
 | x::l=>(tP x (jB l)).trans ((iH l).cons x)
theorem insP_up {x:Pr2}:∀ {l:List Pr2},x∉l→l.Pairwise (fun a b=>plt a b=true)→(insP x l).Pairwise (fun a b=>plt a b=true)
 | [],_,_=>by simp [insP]
 | y::l,h,p=>by
  obtain ⟨p1,p2⟩:=nC.mp p; show (if plt x y then x::y::l else y::insP x l).Pairwise _
  by_cases q:plt x y=true
  ·rw [if_pos q]; refine nC.mpr ⟨fun z hz=> ?_,p⟩
   rcases bV.mp hz with rfl | hz
   ·exact q
   ·exact plt_tr q (p1 z hz)
  ·rw [if_neg q]; refine nC.mpr ⟨fun z hz=> ?_,insP_up (fun z=>h (aQ _ z)) p2⟩
   rcases bV.mp ((tP x l).mem_iff.mp hz) with rfl | hz
   ·rcases plt_tot (x:=z) (y:=y) (fun e=>h (e▸aR)) with w | w
    ·exact absurd w q
    ·exact w
   ·exact p1 z hz
theorem zH:∀ {l:List Pr2},l.Nodup→(jB l).Pairwise (fun a b=>plt a b=true)
 | [],_=>List.Pairwise.nil
 | x::l,h=>by obtain ⟨h1,h2⟩:=cV.mp h; exact insP_up (fun z=>h1 ((iH l).mem_iff.mp z)) (zH h2)
theorem srtP_eq {ps qs:List Pr2} (nd:ps.Nodup) (hp:qs.Perm ps) (hs:(qs.map (rkP ps)).Pairwise (·<·)):qs=jB ps:=by refine List.Perm.eq_of_pairwise (le:=fun x y=>rkP ps x<rkP ps y) (fun x y _ _ h1 h2=>by omega) (by rw [nY] at hs; exact hs) ?_ (hp.trans (iH ps).symm); exact List.Pairwise.imp_of_mem (fun {a b} ha _ h=>vU ((iH ps).mem_iff.mp ha) h) (zH nd)
noncomputable def gG (T:WtT):Nat:=kP ((wtK T).map oK)
noncomputable def fdT (p:Int × Int) (L:List SK) (b:Int) (S:FdS):FdS:=match S.T[gG S.T]? with
 | none=>S
 | some t=>fdP p L b t.1 {S with T:=S.T.eraseIdx (gG S.T)} (jB t.2)
noncomputable def mJ (p:Int × Int) (L:List SK) (b:Int):Nat→FdS→FdS
 | 0,S=>S
 | k+1,S=>if S.T=[] then S else mJ p L b k (fdT p L b S)
noncomputable def inR (row:List Nat):List Int:=row.map fun (i:Nat)=>(i:Int)
theorem inR_inj {a b:List Nat} (h:inR a=inR b):a=b:=by
 have:(inR a).map qX=(inR b).map qX:=by rw [h]
 have g:∀l:List Nat,(inR l).map qX=l:=fun l=>by unfold inR; rw [bM]; exact (cR fun i _=>eY i).trans (qI l)
 rwa [g,g] at this
noncomputable def rwP (y:Pr2):List Nat:=(unP y).1
noncomputable def itP (p:Int × Int) (L:List SK) (row:List Nat):Pr2:=nP (row,nrQ p L row)
theorem qD (p:Int × Int) (L:List SK) (row:List Nat):rwP (itP p L row)=row:=by unfold rwP itP; rw [unP_nP]
theorem un_it (p:Int × Int) (L:List SK) (row:List Nat):unP (itP p L row)=(row,nrQ p L row):=unP_nP _
noncomputable def rkR (L:List SK) (row:List Nat):Int × Int:=(S45.prQ (prK L) row,(row.length:Int))
noncomputable def klt (L:List SK) (a c:List Nat):Prop:=rlt (rkR L a) (rkR L c)∨(rkR L a=rkR L c∧llt (inR a) (inR c)=true)
noncomputable def kle (L:List SK) (a c:List Nat):Prop:=a=c∨klt L a c
theorem rlt_tr {a b c:Int × Int} (h:rlt a b) (h2:rlt b c):rlt a c:=by unfold rlt at *; omega
theorem rlt_tot {a b:Int × Int} (h:a≠b) (h2:¬ rlt b a):rlt a b:=by
 obtain ⟨a1,a2⟩:=a; obtain ⟨b1,b2⟩:=b; unfold rlt at *; have:¬ (a1=b1∧a2=b2):=fun z=>h (by rw [z.1,z.2])
 simp only at *; omega
theorem klt_irr (L:List SK) (a:List Nat):¬ klt L a a:=by
 rintro (h | ⟨_,h⟩)
 ·unfold rlt at h; omega
 ·rw [mY] at h; cases h
theorem klt_tr {L:List SK} {a b c:List Nat} (h:klt L a b) (h2:klt L b c):klt L a c:=by
 rcases h with h | ⟨e,h⟩<;>rcases h2 with h2 | ⟨e2,h2⟩
 ·exact .inl (rlt_tr h h2)
 ·exact .inl (e2▸h)
 ·exact .inl (e▸h2)
 ·exact .inr ⟨e.trans e2,tS _ _ _ h h2⟩
theorem kle_tr {L:List SK} {a b c:List Nat} (h:kle L a b) (h2:kle L b c):kle L a c:=by
 rcases h with rfl | h
 ·exact h2
 ·rcases h2 with rfl | h2
  ·exact .inr h
  ·exact .inr (klt_tr h h2)
theorem llt_snoc {x:Int}:∀ {a b:List Int},a.length=b.length→llt a b=true→llt (a++[x]) (b++[x])=true
 | [],[],_,h=>by cases h
 | [],_::_,h,_=>by cases h
 | _::_,[],h,_=>by cases h
 | u::a,v::b,hl,h=>by
  have h:(if u=v then llt a b else decide (u<v))=true:=h; show (if u=v then llt (a++[x]) (b++[x]) else decide (u<v))=true
  by_cases e:u=v
  ·rw [if_pos e] at h ⊢; exact llt_snoc (by simpa using hl) h
  ·rw [if_neg e] at h ⊢; exact h
theorem pW (L:List SK) (a:List Nat) (k:Nat):rkR L (a++[k])=((rkR L a).1+prK L k,(rkR L a).2+1):=by unfold rkR; rw [S45.pr_snoc,bK]; rfl
theorem kle_snoc {L:List SK} {a c:List Nat} (k:Nat) (h:kle L a c):kle L (a++[k]) (c++[k]):=by
 rcases h with rfl | h | ⟨e,h⟩
 ·exact .inl rfl
 ·refine .inr (.inl ?_); rw [pW,pW]; unfold rlt at *; simp only; omega
 ·refine .inr (.inr ⟨by rw [pW,pW,e], ?_⟩)
  have el:a.length=c.length:=by have:=congrArg Prod.snd e; have:(a.length:Int)=(c.length:Int):=this; omega
  show llt ((a++[k]).map fun (i:Nat)=>(i:Int)) ((c++[k]).map fun (i:Nat)=>(i:Int))=true; rw [bR,bR]; exact llt_snoc (by rw [aG,aG]; exact el) h
noncomputable def wrR (T:WtT):List (List Nat):=T.flatMap fun t=>t.2.map rwP
theorem wrR_mem {T:WtT} {row:List Nat}:row∈wrR T↔∃t∈T,∃y∈t.2,rwP y=row:=by
 unfold wrR; rw [dZ]
 constructor
 ·rintro ⟨t,ht,h⟩; obtain ⟨y,hy,e⟩:=bH.mp h; exact ⟨t,ht,y,hy,e⟩
 ·rintro ⟨t,ht,y,hy,e⟩; exact ⟨t,ht,bH.mpr ⟨y,hy,e⟩⟩
theorem yH (r:Int × Int) (x:Pr2):∀T:WtT,(wrR (kM T r x)).Perm (rwP x::wrR T)
 | []=> .refl _
 | t::T=>by
  show (wrR (if t.1=r then (t.1,t.2++[x])::T else t::kM T r x)).Perm _
  split
  ·show ((t.2++[x]).map rwP++wrR T).Perm (rwP x::(t.2.map rwP++wrR T)); rw [bR,eW]; exact oU
  ·show (t.2.map rwP++wrR (kM T r x)).Perm (rwP x::(t.2.map rwP++wrR T)); exact ((yH r x T).append_left _).trans oU
theorem addI_mem {r:Int × Int} {x:Pr2}:∀ {T:WtT} {t':(Int × Int) × List Pr2},(∀t∈T,t.2≠[])→t'∈kM T r x→t'.2≠[]∧∀y∈t'.2,(y=x∧t'.1=r)∨∃t∈T,t.1=t'.1∧y∈t.2
 | [],t',_,h=>by
  have:t'=(r,[x]):=by simpa [kM] using h
  subst this; exact ⟨by simp,fun y hy=> .inl ⟨by simpa using hy,rfl⟩⟩
 | t::T,t',hn,h=>by
  have h:t'∈(if t.1=r then (t.1,t.2++[x])::T else t::kM T r x):=h
  by_cases e:t.1=r
  ·rw [if_pos e] at h
   rcases bV.mp h with rfl | h
   ·refine ⟨by simp,fun y hy=> ?_⟩
    rcases bU.mp hy with hy | hy
    ·exact .inr ⟨t,aR,rfl,hy⟩
    ·exact .inl ⟨by simpa using hy,e⟩
   ·exact ⟨hn _ (aQ _ h),fun y hy=> .inr ⟨t',aQ _ h,rfl,hy⟩⟩
  ·rw [if_neg e] at h
   rcases bV.mp h with rfl | h
   ·exact ⟨hn _ aR,fun y hy=> .inr ⟨t',aR,rfl,hy⟩⟩
   ·obtain ⟨h1,h2⟩:=addI_mem (fun z hz=>hn z (aQ _ hz)) h; exact ⟨h1,fun y hy=>(h2 y hy).imp id fun ⟨z,hz,q⟩=>⟨z,aQ _ hz,q⟩⟩
section
variable {p:Int × Int} {L:List SK} {b:Int} {r:Int × Int} {row nb:List Nat} {T:WtT}
noncomputable def chs (L:List SK) (b:Int) (r:Int × Int) (row:List Nat) (n:Nat):List (List Nat):=((cO n).filter fun k=>decide (r.1+prK L k≤b)).map fun k=>row++[k]
theorem chs_mem {n:Nat} {c:List Nat}:c∈chs L b r row n↔∃k,k<n∧r.1+prK L k≤b∧c=row++[k]:=by
 unfold chs; rw [bH]
 constructor
 ·rintro ⟨k,hk,rfl⟩; obtain ⟨h1,h2⟩:=mG.mp hk; exact ⟨k,fG.mp h1,of_decide_eq_true h2,rfl⟩
 ·rintro ⟨k,h1,h2,rfl⟩; exact ⟨k,mG.mpr ⟨fG.mpr h1,decide_eq_true h2⟩,rfl⟩
theorem chs_nd (n:Nat):(chs L b r row n).Nodup:=by unfold chs List.Nodup; rw [nY]; refine List.Pairwise.imp (fun {a c} h e=>h ?_) (List.Pairwise.filter _ (List.nodup_range (n:=n))); simpa using List.append_cancel_left e
theorem lg_perm:∀n:Nat,(wrR (lgQ p L b r row nb n T)).Perm (chs L b r row n++wrR T)
 | 0=> .refl _
 | n+1=>by
  have ih:=lg_perm n
  have ec:chs L b r row (n+1)=chs L b r row n++(if r.1+prK L n≤b then [row++[n]] else []):=by
   unfold chs; rw [List.range_succ,List.filter_append,bR]; congr 1
   by_cases h:r.1+prK L n≤b
   ·simp [h]
   ·simp [h]
  rw [ec]; show (wrR (if r.1+(L.getD n default).2≤b then kM _ _ _ else _)).Perm _
  by_cases h:r.1+prK L n≤b
  ·rw [if_pos h,if_pos (show r.1+(L.getD n default).2≤b from h)]; refine (yH _ _ _).trans ?_
   have e:rwP (nP (row++[n],jG (jV p (L.getD n default).1) nb))=row++[n]:=by unfold rwP; rw [unP_nP]
   rw [e,eW]; exact (ih.cons _).trans oU.symm
  ·rw [if_neg h,if_neg (show ¬ r.1+(L.getD n default).2≤b from h),dY]; exact ih
theorem lg_mem:∀ (n:Nat) {t':(Int × Int) × List Pr2},(∀t∈T,t.2≠[])→t'∈lgQ p L b r row nb n T→t'.2≠[]∧∀y∈t'.2,(∃k,k<n∧r.1+prK L k≤b∧t'.1=(r.1+prK L k,r.2+1)∧y=nP (row++[k],jG (jV p (L.getD k default).1) nb))∨∃t∈T,t.1=t'.1∧y∈t.2
 | 0,t',hn,h=>⟨hn t' h,fun y hy=> .inr ⟨t',h,rfl,hy⟩⟩
 | n+1,t',hn,h=>by
  have h:t'∈(if r.1+(L.getD n default).2≤b then kM (lgQ p L b r row nb n T) (r.1+(L.getD n default).2,r.2+1) (nP (row++[n],jG (jV p (L.getD n default).1) nb)) else lgQ p L b r row nb n T):=h; have old:∀t∈lgQ p L b r row nb n T,t.2≠[]:=fun t ht=>(lg_mem n hn ht).1
  by_cases q:r.1+(L.getD n default).2≤b
  ·rw [if_pos q] at h; obtain ⟨h1,h2⟩:=addI_mem old h; refine ⟨h1,fun y hy=> ?_⟩
   rcases h2 y hy with ⟨e1,e2⟩ | ⟨t,ht,e,hy2⟩
   ·exact .inl ⟨n,by omega,q,e2,e1⟩
   ·rcases (lg_mem n hn ht).2 y hy2 with ⟨k,k1,k2,k3,k4⟩ | ⟨s,s1,s2,s3⟩
    ·exact .inl ⟨k,by omega,k2,e▸k3,k4⟩
    ·exact .inr ⟨s,s1,s2.trans e,s3⟩
  ·rw [if_neg q] at h; obtain ⟨h1,h2⟩:=lg_mem n hn h; exact ⟨h1,fun y hy=>(h2 y hy).imp (fun ⟨k,k1,k2⟩=>⟨k,by omega,k2⟩) id⟩
end
theorem tot_wR:∀ {T:WtT},(∀t∈T,t.2≠[])→tot T≤2 * (wrR T).length
 | [],_=>aX _
 | t::T,h=>by
  have ih:=tot_wR (T:=T) fun z hz=>h z (aQ _ hz)
  have h1:0<t.2.length:=jM.mpr (h t aR); have e1:tot (t::T)=(t.2.length+1)+tot T:=by simp [tot]
  have e2:(wrR (t::T)).length=t.2.length+(wrR T).length:=by show (t.2.map rwP++wrR T).length=_; rw [bK,aG]
  omega
structure xL (L:List SK) (b:Int) (U:List (List Nat)):Prop where
 len:U.length≤400
 rl:∀row∈U,row.length≤300
 all:∀row,gY L row→S45.prQ (prK L) row≤b→row∈U
noncomputable def Cov (p:Int × Int) (L:List SK) (S:FdS) (rest:List Pr2) (row:List Nat):Prop:=row∈wrR S.T∨row∈rest.map rwP∨∃e∈S.fd,e.2.2=nrQ p L row∧kle L e.2.1 row
structure Wk (p:Int × Int) (L:List SK) (b:Int) (dn:List (List Nat)) (r:Int × Int) (rest:List Pr2) (S:FdS):Prop where
 ok:FdOk S
 ne:∀t∈S.T,t.2≠[]
 wt:∀t∈S.T,∀y∈t.2,∃row,y=itP p L row∧gY L row∧t.1=rkR L row∧t.1.1≤b
 rs:∀y∈rest,∃row,y=itP p L row∧gY L row∧r=rkR L row∧r.1≤b
 up:rest.Pairwise fun x y=>plt x y=true
 gt:rest≠[]→∀t∈S.T,rlt r t.1
 nd:(dn++rest.map rwP++wrR S.T).Nodup
 fd:∀e∈S.fd,e.2.1∈dn∧gY L e.2.1∧e.1=S45.prQ (prK L) e.2.1∧e.1≤b∧e.2.2=nrQ p L e.2.1
 par:∀row,row∈dn++rest.map rwP++wrR S.T→row=[]∨∃q k,row=q++[k]∧q∈S.fd.map fun e=>e.2.1
 du:∀row∈dn,gY L row∧S45.prQ (prK L) row≤b
 srt:(S.fd.map fun e=>e.2.1).Pairwise (klt L)
 lt1:∀e∈S.fd,∀y∈rest,klt L e.2.1 (rwP y)
 lt2:∀e∈S.fd,∀row∈wrR S.T,klt L e.2.1 row
 cl:∀e∈S.fd,∀k,k<L.length→e.1+prK L k≤b→Cov p L S rest (e.2.1++[k])
 st:0≤b→Cov p L S rest []
section
variable {p:Int × Int} {L:List SK} {b:Int} {dn:List (List Nat)} {r:Int × Int} {rest:List Pr2} {S:FdS} {U:List (List Nat)}
theorem Wk.all (W:Wk p L b dn r rest S) (F:xL L b U):∀row∈dn++rest.map rwP++wrR S.T,row∈U:=fun row h=>by
 rcases bU.mp h with h | h
 ·rcases bU.mp h with h | h
  ·obtain ⟨h1,h2⟩:=W.du row h; exact F.all row h1 h2
  ·obtain ⟨y,hy,e⟩:=bH.mp h; obtain ⟨q,rfl,q2,q3,q4⟩:=W.rs y hy; rw [qD] at e; subst e; exact F.all q q2 (by rw [q3] at q4; exact q4)
 ·obtain ⟨t,ht,y,hy,e⟩:=wrR_mem.mp h; obtain ⟨q,rfl,q2,q3,q4⟩:=W.wt t ht y hy; rw [qD] at e; subst e; exact F.all q q2 (by rw [q3] at q4; exact q4)
theorem Wk.few (W:Wk p L b dn r rest S) (F:xL L b U):dn.length+rest.length+(wrR S.T).length≤U.length:=by have:=W.nd.length_le_of_subset (W.all F); rw [bK,bK,aG] at this; exact this
theorem Wk.tot (W:Wk p L b dn r rest S) (F:xL L b U):tot S.T≤800:=by have:=tot_wR W.ne; have:=W.few F; have:=F.len; omega
theorem Wk.fdl (W:Wk p L b dn r rest S) (F:xL L b U):S.fd.length≤400:=by
 have nd:(S.fd.map fun e=>e.2.1).Nodup:=List.Pairwise.imp (S:=(·≠·)) (fun {a c} h e=>klt_irr L a (by rw [← e] at h; exact h)) W.srt
 have:=nd.length_le_of_subset (l₂:=dn) fun row h=>by obtain ⟨e,he,rfl⟩:=bH.mp h; exact (W.fd e he).1
 rw [aG] at this; have:=W.few F; have:=F.len; omega
theorem Wk.step (hpr:∀k,k<L.length→1≤prK L k) {y:Pr2} (W:Wk p L b dn r (y::rest) S):Wk p L b (dn++[rwP y]) r rest (fdI p L b r S (unP y)):=by
 obtain ⟨row,ey,ro,er,rb⟩:=W.rs y aR; subst ey; have up:=nC.mp W.up; have rp:S45.prQ (prK L) row≤b:=by rw [er] at rb; exact rb
 rw [un_it]; have ew:(itP p L row::rest).map rwP=row::rest.map rwP:=by rw [bQ,qD]
 have nd:=W.nd; have par:=W.par; rw [ew] at nd par; have e1:dn++row::rest.map rwP=(dn++[row])++rest.map rwP:=by simp
 rw [e1] at nd par; rw [qD]
 have cv:∀c,Cov p L S (itP p L row::rest) c→c=row∨Cov p L S rest c:=fun c h=>by
  rcases h with h | h | h
  ·exact .inr (.inl h)
  ·rw [ew] at h
   rcases bV.mp h with h | h
   ·exact .inl h
   ·exact .inr (.inr (.inl h))
  ·exact .inr (.inr (.inr h))
 have du:∀c∈dn++[row],gY L c∧S45.prQ (prK L) c≤b:=fun c h=>by
  rcases bU.mp h with h | h
  ·exact W.du c h
  ·rw [aU.mp h]; exact ⟨ro,rp⟩
 have rs:∀y∈rest,∃row,y=itP p L row∧gY L row∧r=rkR L row∧r.1≤b:=fun z hz=>W.rs z (aQ _ hz)
 have gt:=W.gt (by simp); unfold fdI
 by_cases hk:nrQ p L row∈S.kn
 ·rw [if_pos hk]; rw [W.ok.kn] at hk; obtain ⟨e,he,en⟩:=bH.mp hk
  have ke:klt L e.2.1 row:=by have:=W.lt1 e he _ aR; rw [qD] at this; exact this
  have cv2:∀c,Cov p L S (itP p L row::rest) c→Cov p L S rest c:=fun c h=>by
   rcases cv c h with rfl | h
   ·exact .inr (.inr ⟨e,he,en, .inr ke⟩)
   ·exact h
  exact ⟨W.ok,W.ne,W.wt,rs,up.2,fun _=>gt,nd,fun e he=>⟨dJ _ (W.fd e he).1,(W.fd e he).2⟩,par,du,W.srt,fun e he z hz=>W.lt1 e he z (aQ _ hz),W.lt2,fun e he k hk hle=>cv2 _ (W.cl e he k hk hle),fun h=>cv2 _ (W.st h)⟩
 ·have ok:=fdI_ok (p:=p) (L:=L) (b:=b) (r:=r) W.ok (row,nrQ p L row); unfold fdI at ok; rw [if_neg hk] at ok ⊢; have pm:=lg_perm (p:=p) (L:=L) (b:=b) (r:=r) (row:=row) (nb:=nrQ p L row) (T:=S.T) L.length; have lm:=fun t' h=>lg_mem (p:=p) (L:=L) (b:=b) (r:=r) (row:=row) (nb:=nrQ p L row) (T:=S.T) L.length (t':=t') W.ne h
  have rno:row∉S.fd.map fun e=>e.2.1:=fun h=>by obtain ⟨e,he,ee⟩:=bH.mp h; have:=(W.fd e he).1; rw [ee] at this; have n2:=(bY.mp (bY.mp nd).1).1; exact (bY.mp n2).2.2 row this row (by simp) rfl
  have mem':∀c,c∈wrR (lgQ p L b r row (nrQ p L row) L.length S.T)↔c∈chs L b r row L.length∨c∈wrR S.T:=fun c=>by rw [pm.mem_iff,bU]
  have ch_lt:∀c∈chs L b r row L.length,klt L row c:=fun c h=>by obtain ⟨k,k1,k2,rfl⟩:=chs_mem.mp h; refine .inl ?_; rw [pW]; have:=hpr k k1; unfold rlt; simp only; omega
  have T_lt:∀c∈wrR S.T,klt L row c:=fun c h=>by obtain ⟨t,ht,y,hy,e⟩:=wrR_mem.mp h; obtain ⟨q,rfl,q2,q3,q4⟩:=W.wt t ht y hy; rw [qD] at e; subst e; refine .inl ?_; rw [← er,← q3]; exact gt t ht
  have rest_lt:∀z∈rest,klt L row (rwP z):=fun z hz=>by
   obtain ⟨q,rfl,q2,q3,q4⟩:=rs z hz; rw [qD]; refine .inr ⟨er.symm.trans q3, ?_⟩; have:=up.1 _ hz; unfold plt at this
   by_cases e:(itP p L row).1=(itP p L q).1
   ·exfalso; have e2:row=q:=inR_inj e; subst e2; rw [if_pos rfl,mY] at this; cases this
   ·rw [if_neg e] at this; exact this
  have cvn:∀c,Cov p L S (itP p L row::rest) c→Cov p L ⟨lgQ p L b r row (nrQ p L row) L.length S.T,S.kn++[nrQ p L row],S.fd++[(r.1,row,nrQ p L row)]⟩ rest c:=fun c h=>by
   rcases cv c h with rfl | h | h | ⟨e,he,q⟩
   ·exact .inr (.inr ⟨(r.1,c,nrQ p L c),bC _ (dM _),rfl, .inl rfl⟩)
   ·exact .inl ((mem' c).mpr (.inr h))
   ·exact .inr (.inl h)
   ·exact .inr (.inr ⟨e,dJ _ he,q⟩)
  have efd:(S.fd++[(r.1,row,nrQ p L row)]).map (fun e=>e.2.1)=S.fd.map (fun e=>e.2.1)++[row]:=by rw [bR]; rfl
  refine ⟨ok,fun t h=>(lm t h).1,fun t ht y hy=> ?_,rs,up.2,fun _ t ht=> ?_, ?_,fun e he=> ?_,fun c hc=> ?_,du, ?_,fun e he z hz=> ?_,fun e he c hc=> ?_,fun e he k hk hle=> ?_,fun h=>cvn _ (W.st h)⟩
  ·rcases (lm t ht).2 y hy with ⟨k,k1,k2,k3,k4⟩ | ⟨s,s1,s2,s3⟩
   ·refine ⟨row++[k],by rw [k4]; unfold itP; rw [zG],fun i hi=> ?_,by rw [k3,pW,er],by rw [k3]; exact k2⟩
    rcases bU.mp hi with hi | hi
    ·exact ro i hi
    ·rw [aU.mp hi]; exact k1
   ·rw [← s2]; exact W.wt s s1 y s3
  ·obtain ⟨h1,h2⟩:=lm t ht; obtain ⟨y,hy⟩:=List.exists_mem_of_ne_nil _ h1
   rcases h2 y hy with ⟨k,k1,k2,k3,k4⟩ | ⟨s,s1,s2,s3⟩
   ·rw [k3]; have:=hpr k k1; unfold rlt; simp only; omega
   ·rw [← s2]; exact gt s s1
  ·have pm2:((dn++[row]++rest.map rwP)++wrR (lgQ p L b r row (nrQ p L row) L.length S.T)).Perm (chs L b r row L.length++((dn++[row]++rest.map rwP)++wrR S.T)):=(pm.append_left _).trans (by
    rw [← eW,← eW (chs L b r row L.length)]
    exact iQ.append_right _)
   refine pm2.nodup_iff.mpr (bY.mpr ⟨chs_nd _,nd,fun c hc d hd e=> ?_⟩); subst e; obtain ⟨k,k1,k2,rfl⟩:=chs_mem.mp hc
   rcases par _ hd with h | ⟨q,j,h1,h2⟩
   ·simp at h
   ·have:row=q:=(List.append_inj' h1 rfl).1; subst this; exact rno h2
  ·rcases bU.mp he with he | he
   ·exact ⟨dJ _ (W.fd e he).1,(W.fd e he).2⟩
   ·rw [aU.mp he]; exact ⟨bC _ (dM _),ro,by rw [er]; rfl,rb,rfl⟩
  ·rw [efd]
   have h:c∈dn++[row]++rest.map rwP++wrR S.T∨c∈chs L b r row L.length:=by
    rcases bU.mp hc with h | h
    ·exact .inl (dJ _ h)
    ·rcases (mem' c).mp h with h | h
     ·exact .inr h
     ·exact .inl (bC _ h)
   rcases h with h | h
   ·exact (par c h).imp id fun ⟨q,k,h1,h2⟩=>⟨q,k,h1,dJ _ h2⟩
   ·obtain ⟨k,_,_,rfl⟩:=chs_mem.mp h; exact .inr ⟨row,k,rfl,bC _ (dM _)⟩
  ·rw [efd]; refine qG.mpr ⟨W.srt,kH _ _,fun a ha c hc=> ?_⟩; rw [aU.mp hc]; obtain ⟨e,he,rfl⟩:=bH.mp ha; have:=W.lt1 e he _ aR; rw [qD] at this; exact this
  ·rcases bU.mp he with he | he
   ·exact W.lt1 e he z (aQ _ hz)
   ·rw [aU.mp he]; exact rest_lt z hz
  ·rcases bU.mp he with he | he
   ·rcases (mem' c).mp hc with h | h
    ·have:=W.lt1 e he _ aR; rw [qD] at this; exact klt_tr this (ch_lt c h)
    ·exact W.lt2 e he c h
   ·rw [aU.mp he]
    rcases (mem' c).mp hc with h | h
    ·exact ch_lt c h
    ·exact T_lt c h
  ·rcases bU.mp he with he | he
   ·exact cvn _ (W.cl e he k hk hle)
   ·rw [aU.mp he] at hle ⊢; exact .inl ((mem' _).mpr (.inl (chs_mem.mpr ⟨k,hk,hle,rfl⟩)))
theorem Wk.pop {n:Nat} {t:(Int × Int) × List Pr2} (W:Wk p L b dn r [] S) (hn:S.T[n]? =some t) (hm:∀s∈S.T,¬ rlt s.1 t.1):t.2.Nodup∧Wk p L b dn t.1 (jB t.2) {S with T:=S.T.eraseIdx n}:=by
 have tm:=aY hn; obtain ⟨nl,en⟩:=aP.mp hn
 have pT:S.T.Perm (t::S.T.eraseIdx n):=by
  have e1:S.T=S.T.take n++t::S.T.drop (n+1):=by rw [← en,← gH nl,lO]
  rw [eE]; exact (e1▸List.Perm.refl S.T:S.T.Perm (S.T.take n++t::S.T.drop (n+1))).trans oU
 have pw:(wrR S.T).Perm (t.2.map rwP++wrR (S.T.eraseIdx n)):=pT.flatMap_right _; have ps:((jB t.2).map rwP).Perm (t.2.map rwP):=(iH t.2).map _; have nd:=W.nd; rw [fO,dY] at nd
 have pall:(dn++(jB t.2).map rwP++wrR (S.T.eraseIdx n)).Perm (dn++wrR S.T):=by rw [eW]; exact ((ps.append_right _).trans pw.symm).append_left _
 have ndt:t.2.Nodup:=by have h1:=(bY.mp (pw.nodup_iff.mp (bY.mp nd).2.1)).1; exact List.Pairwise.of_map _ (fun a c h e=>h (by rw [e])) h1
 have er:∀s∈S.T.eraseIdx n,s∈S.T:=fun s hs=>jS hs
 have sub:∀c∈wrR (S.T.eraseIdx n),c∈wrR S.T:=fun c hc=>pw.symm.mem_iff.mp (bC _ hc)
 have sub2:∀y∈jB t.2,rwP y∈wrR S.T:=fun y hy=>pw.symm.mem_iff.mp (dJ _ (bH.mpr ⟨y,(iH t.2).mem_iff.mp hy,rfl⟩))
 have cv:∀c,Cov p L S [] c→Cov p L {S with T:=S.T.eraseIdx n} (jB t.2) c:=fun c h=>by
  rcases h with h | h | h
  ·rcases bU.mp (pw.mem_iff.mp h) with h | h
   ·exact .inr (.inl (ps.symm.mem_iff.mp h))
   ·exact .inl h
  ·cases h
  ·exact .inr (.inr h)
 have ek:wtK (S.T.eraseIdx n)=(wtK S.T).eraseIdx n:=by unfold wtK; rw [eE,eE,bR,oA,sK]
 refine ⟨ndt,⟨by rw [ek]; exact W.ok.nk.sublist (pX _ _),W.ok.kn,W.ok.nd⟩,fun s hs=>W.ne s (er s hs),fun s hs=>W.wt s (er s hs),fun y hy=>W.wt t tm y ((iH t.2).mem_iff.mp hy),zH ndt,fun _ s hs=> ?_,pall.nodup_iff.mpr nd,W.fd,fun c hc=> ?_,W.du,W.srt,fun e he y hy=>W.lt2 e he _ (sub2 y hy),fun e he c hc=>W.lt2 e he c (sub c hc),fun e he k hk hle=>cv _ (W.cl e he k hk hle),fun h=>cv _ (W.st h)⟩
 ·refine rlt_tot (fun e=> ?_) (hm s (er s hs)); have nk:=W.ok.nk; have pk:(wtK S.T).Perm (rkK t.1::wtK (S.T.eraseIdx n)):=pT.map _; have:=(cV.mp (pk.nodup_iff.mp nk)).1; refine this ?_; rw [e]; exact bH.mpr ⟨s,hs,rfl⟩
 ·refine W.par c ?_; rw [fO,dY]; exact pall.mem_iff.mp hc
end
theorem least_wt {T:WtT} (hne:T≠[]):∃t:(Int × Int) × List Pr2,T[gG T]? =some t∧∀s∈T,¬ rlt s.1 t.1:=by
 have l0:0<T.length:=jM.mpr hne
 have em:(wtK T).map oK=T.map fun t=>rkD t.1:=by unfold wtK; rw [bM]; rfl
 have ln:((wtK T).map oK).length=T.length:=by rw [em,aG]
 have gd:∀i,i<T.length→((wtK T).map oK).getD i .non=rkD ((T.map (·.1)).getD i (0,0)):=fun i hi=>by rw [em]; simp [cY,hi]
 have eb:gG T=argBest (fun i k=>decide (rlt ((T.map (·.1)).getD i (0,0)) ((T.map (·.1)).getD k (0,0)))) (T.length - 1):=by unfold gG kP; rw [ln]; exact qM _ fun i j hi hj=>by rw [gd i (by omega),gd j (by omega),dlt_rk]
 have bl:=uW (fun i k=>decide (rlt ((T.map (·.1)).getD i (0,0)) ((T.map (·.1)).getD k (0,0)))) (T.length - 1); have bm:=wC (T.map (·.1)) (T.length - 1) (by rw [aG]; omega); rw [← eb] at bl bm; generalize gG T=n at bl bm; have hn:n<T.length:=by omega
 refine ⟨T[n],fV hn,fun s hs=> ?_⟩; obtain ⟨j,hj⟩:=fH hs; have lj:j<T.length:=(aP.mp hj).1; have:=bm j (by omega); have e1:(T.map (·.1)).getD j (0,0)=s.1:=by simp [cY,hj]
 have e2:(T.map (·.1)).getD n (0,0)=T[n].1:=by simp [cY,hn]
 rw [e1,e2] at this; exact this
noncomputable def fd0 (p:Int × Int) (b:Int):FdS:=⟨if 0≤b then [((0,0),[nP ([],st0 p)])] else [],[],[]⟩
noncomputable def bkF (p:Int × Int) (L:List SK) (b:Int):List (Int × List Nat × List Nat):=(mJ p L b 401 (fd0 p b)).fd
section
variable {p:Int × Int} {L:List SK} {b:Int} {dn:List (List Nat)} {r:Int × Int} {rest:List Pr2} {S:FdS} {U:List (List Nat)}
theorem wk0 (p:Int × Int) (L:List SK) (b:Int):Wk p L b [] (0,0) [] (fd0 p b):=by
 have e:nP ([],st0 p)=itP p L []:=rfl
 by_cases h:0≤b
 ·have e0:fd0 p b=⟨[((0,0),[itP p L []])],[],[]⟩:=by unfold fd0; rw [if_pos h,e]
  have ew:wrR [((0,0),[itP p L []])]=[[]]:=by show [rwP (itP p L [])]++[]=_; rw [qD]; rfl
  rw [e0]; refine ⟨⟨by simp [wtK],rfl,gE⟩,fun t ht=> ?_,fun t ht y hy=> ?_,fun y hy=>(nomatch hy),List.Pairwise.nil,fun h=>absurd rfl h, ?_,fun e he=>(nomatch he),fun row hr=> ?_,fun row hr=>(nomatch hr),List.Pairwise.nil,fun e he=>(nomatch he),fun e he=>(nomatch he),fun e he=>(nomatch he),fun _=> .inl ?_⟩
  ·rw [aU.mp ht]; simp
  ·rw [aU.mp ht] at hy ⊢; exact ⟨[],aU.mp hy,fun i hi=>(nomatch hi),rfl,h⟩
  ·show (wrR [((0,0),[itP p L []])]).Nodup; rw [ew]; simp
  ·have hr:row∈wrR [((0,0),[itP p L []])]:=hr; rw [ew] at hr; exact .inl (aU.mp hr)
  ·show []∈wrR [((0,0),[itP p L []])]; rw [ew]; exact dM _
 ·have e0:fd0 p b=⟨[],[],[]⟩:=by unfold fd0; rw [if_neg h]
  rw [e0]; exact ⟨⟨gE,rfl,gE⟩,fun t ht=>(nomatch ht),fun t ht=>(nomatch ht),fun y hy=>(nomatch hy),List.Pairwise.nil,fun h=>absurd rfl h,gE,fun e he=>(nomatch he),fun row hr=>(nomatch hr),fun row hr=>(nomatch hr),List.Pairwise.nil,fun e he=>(nomatch he),fun e he=>(nomatch he),fun e he=>(nomatch he),fun z=>absurd z h⟩
theorem Wk.take (hpr:∀k,k<L.length→1≤prK L k) (W:Wk p L b dn r rest S):∀j,j≤rest.length→Wk p L b (dn++(rest.take j).map rwP) r (rest.drop j) (fdP p L b r S (rest.take j))
 | 0,_=>by rw [List.take_zero,fO,dY]; exact W
 | j+1,hj=>by
  have ih:=Wk.take hpr W j (by omega); have lj:j<rest.length:=by omega
  rw [gH lj] at ih; have:=ih.step hpr; rw [← vM] at this
  have et:rest.take (j+1)=rest.take j++[rest[j]]:=by rw [gF,fV lj]; rfl
  rw [et,bR,← eW]; exact this
theorem Wk.turn (hpr:∀k,k<L.length→1≤prK L k) (W:Wk p L b dn r [] S) (hne:S.T≠[]):∃t:(Int × Int) × List Pr2,S.T[gG S.T]? =some t∧(∀s∈S.T,¬ rlt s.1 t.1)∧t.2.Nodup∧t.2≠[]∧Wk p L b dn t.1 (jB t.2) {S with T:=S.T.eraseIdx (gG S.T)}∧fdT p L b S=fdP p L b t.1 {S with T:=S.T.eraseIdx (gG S.T)} (jB t.2)∧Wk p L b (dn++(jB t.2).map rwP) t.1 [] (fdT p L b S):=by
 obtain ⟨t,ht,hm⟩:=least_wt hne; obtain ⟨n1,W1⟩:=W.pop ht hm
 have e:fdT p L b S=fdP p L b t.1 {S with T:=S.T.eraseIdx (gG S.T)} (jB t.2):=by unfold fdT; rw [ht]
 refine ⟨t,ht,hm,n1,W.ne t (aY ht),W1,e, ?_⟩; have:=W1.take hpr (jB t.2).length (aX _); rw [gB,List.drop_length] at this; rw [e]; exact this
theorem run_end (hpr:∀k,k<L.length→1≤prK L k) (F:xL L b U):∀ (m:Nat) {dn:List (List Nat)} {r:Int × Int} {S:FdS},Wk p L b dn r [] S→U.length<dn.length+m→∃dn' r',Wk p L b dn' r' [] (mJ p L b m S)∧(mJ p L b m S).T=[]
 | 0,dn,r,S,W,h=>by have:=W.few F; omega
 | m+1,dn,r,S,W,h=>by
  show ∃dn' r',Wk p L b dn' r' [] (if S.T=[] then S else mJ p L b m (fdT p L b S))∧(if S.T=[] then S else mJ p L b m (fdT p L b S)).T=[]
  by_cases q:S.T=[]
  ·rw [if_pos q]; exact ⟨dn,r,W,q⟩
  ·rw [if_neg q]; obtain ⟨t,_,_,_,ne,_,_,W2⟩:=W.turn hpr q; refine run_end hpr F m W2 ?_
   have:0<(jB t.2).length:=by rw [(iH t.2).length_eq]; exact jM.mpr ne
   rw [bK,aG]; omega
structure BkFOk (p:Int × Int) (L:List SK) (b:Int) (B:List (Int × List Nat × List Nat)):Prop where
 len:B.length≤400
 ent:∀e∈B,gY L e.2.1∧e.1=S45.prQ (prK L) e.2.1∧e.1≤b∧e.2.2=nrQ p L e.2.1∧e.2.1.length≤300
 nd:(B.map fun e=>e.2.2).Nodup
 srt:(B.map fun e=>e.2.1).Pairwise (klt L)
 cl:∀e∈B,∀k,k<L.length→e.1+prK L k≤b→∃e'∈B,e'.2.2=nrQ p L (e.2.1++[k])∧kle L e'.2.1 (e.2.1++[k])
 st:0≤b→∃e∈B,e.2.2=nrQ p L []∧kle L e.2.1 []
theorem bkF_ok (hpr:∀k,k<L.length→1≤prK L k) (F:xL L b U):BkFOk p L b (bkF p L b):=by
 obtain ⟨dn,r,W,e⟩:=run_end hpr F 401 (wk0 p L b) (by have:=F.len; simp; omega)
 have cv:∀c,Cov p L (mJ p L b 401 (fd0 p b)) [] c→∃e∈(mJ p L b 401 (fd0 p b)).fd,e.2.2=nrQ p L c∧kle L e.2.1 c:=fun c h=>by
  rcases h with h | h | h
  ·rw [e] at h; cases h
  ·cases h
  ·exact h
 refine ⟨W.fdl F,fun e he=> ?_,by have:=W.ok.nd; rw [W.ok.kn] at this; exact this,W.srt,fun e he k hk hle=>cv _ (W.cl e he k hk hle),fun h=>cv _ (W.st h)⟩; obtain ⟨h1,h2,h3,h4,h5⟩:=W.fd e he; exact ⟨h2,h3,h4,h5,F.rl _ (F.all _ h2 (by rw [← h3]; exact h4))⟩
theorem BkFOk.all {B:List (Int × List Nat × List Nat)} (hpr:∀k,k<L.length→1≤prK L k) (O:BkFOk p L b B):∀row,gY L row→S45.prQ (prK L) row≤b→∃e∈B,e.2.2=nrQ p L row∧kle L e.2.1 row:=by
 have g:∀ (n:Nat) (row:List Nat),row.length=n→gY L row→S45.prQ (prK L) row≤b→∃e∈B,e.2.2=nrQ p L row∧kle L e.2.1 row:=fun n=>by
  induction n with
  | zero=>intro row hl _ hb; have:row=[]:=eQ hl; subst this; exact O.st hb
  | succ n ih=>
   intro row hl ho hb; have hne:row≠[]:=fun z=>by rw [z] at hl; cases hl
   have ed:=mH hne; generalize row.dropLast=q at ed; generalize row.getLast hne=k at ed; subst ed; have kn:k<L.length:=ho k (by simp); have h1:=hpr k kn; rw [S45.pr_snoc] at hb; obtain ⟨e,he,e1,e2⟩:=ih q (by simpa using hl) (fun i hi=>ho i (dJ _ hi)) (by omega); obtain ⟨_,h3,_,h5,_⟩:=O.ent e he
   have le:S45.prQ (prK L) e.2.1≤S45.prQ (prK L) q:=by
    rcases e2 with z | (z | ⟨z,_⟩)
    ·rw [z]; exact Int.le_refl _
    ·have:(rkR L e.2.1).1≤(rkR L q).1:=by unfold rlt at z; omega
     exact this
    ·exact Int.le_of_eq (congrArg Prod.fst z)
   obtain ⟨e',he',e3,e4⟩:=O.cl e he k kn (by omega); refine ⟨e',he', ?_,kle_tr e4 (kle_snoc k e2)⟩; rw [e3,zG,zG,← h5,e1]
 exact fun row=>g row.length row rfl
end
noncomputable def fdD (e:Int × List Nat × List Nat):D:= .tup [.int e.1, .tup (cG e.2.1), .tup (cG e.2.2)]
noncomputable def CFnd41:List D→R→Prop:=fun ds r=>∃p L b U,p∈dH∧StkOk p L∧xL L b U∧ds=[.lst (L.map (mvD p)), .int b, .tup (cG (st0 p))]∧r= .own ((bkF p L b).map fdD)
noncomputable def yE (ds:List D):List Nat:=ds.map fun d=>match d with | .int i=>i.toNat | _=>0
theorem natOf_D (l:List Nat):yE (cG l)=l:=by unfold yE cG; rw [bM]; exact (cR fun i _=>eY i).trans (qI l)
noncomputable def unE:D→Int × List Nat × List Nat
 | .tup [.int a, .tup r, .tup n]=>(a,yE r,yE n)
 | _=>(0,[],[])
theorem unE_D (e:Int × List Nat × List Nat):unE (fdD e)=e:=by show (e.1,yE (cG e.2.1),yE (cG e.2.2))=e; rw [natOf_D,natOf_D]
noncomputable def bkQ (p:Int × Int) (L:List SK) (b:Int):List Bk:=(bkF p L b).map fun e=>(e.1,e.2.1,jO p e.2.2)
noncomputable def CBook:List D→R→Prop:=fun ds r=>∃p L b U,p∈dH∧StkOk p L∧(L.map fun s=>sqD s.1).Nodup∧xL L b U∧ds=[dI p, .lst (L.map skD), .int b]∧r= .own ((bkQ p L b).map enD)
section
open PySem.W PySem.Calls Att
end
noncomputable def GtAt (A:Around) (s:Shared) (x y:Value) (b:Bool):Prop:=∀ (prog:Program) (w:World) (E:Value→Shared→Prop) (Q:Value→Shared→Prop),Q (.bool b) s→wpAny (model prog w) A (richCompare .Gt x y) Q E s
inductive LexG (A:Around) (s:Shared) (fin:Bool):List (Value × Value)→Bool→Prop
 | nil:LexG A s fin [] fin
 | eq {x y:Value} {r:List (Value × Value)} {b:Bool}:SeqAt.EqAt A.in1 s x y true→LexG A s fin r b→LexG A s fin ((x,y)::r) b
 | lt {x y:Value} {r:List (Value × Value)} {b:Bool}:SeqAt.EqAt A.in1 s x y false→GtAt A.in1 s x y b→LexG A s fin ((x,y)::r) b
section
open PySem.SeqAt
open PySem.AutoSeq1 (wpAny_loadPart')
open PySem.MeetsSeq PySem.MeetsSeq2 PySem.MeetsSeq3
theorem tuple_gt_gen (l b:Addr) (items items2:Array Value) (n n2:Nat) (dd dd2:Option Addr) (sl sl2:Array (Option Value)) (res:Bool):
  Meets (Builtin.«tuple.__gt__» ⟨[.ref l, .ref b],[]⟩)
   (fun A R s=>s.heap.get? l=some {cls:= .type "tuple",dict:=dd,data:= .seq items n,slots:=sl}∧s.heap.get? b=some {cls:= .type "tuple",dict:=dd2,data:= .seq items2 n2,slots:=sl2}∧
    LexG A s (decide (items2.size<items.size)) (items.toList.zip items2.toList) res∧R (.ok (.ret (.bool res))) s):=
 .of_wp fun prog w A R s h=>by
  obtain ⟨hp,g,d,tk,os⟩:=s; obtain ⟨hl,hb,hx,h⟩:=h; have f2:=AutoSeq1.sub_tuple_tuple
  wp_walk using wpAny_loadPart' hl,wpAny_loadPart' hb,wpAny_forIn_list _ (fun rest b s'=>b.1=none∧s'=⟨hp,g,d,tk,os⟩∧LexG A ⟨hp,g,d,tk,os⟩ (decide (items2.size<items.size)) rest res) _
  case turn=>
   rintro ⟨y,x⟩ rest b s' ⟨hb',rfl,hv⟩; cases hv with
   | eq he hr=>
    refine wpAny_bind (he prog w _ _ ?_)
    wp_walk
    exact ⟨rfl,rfl,hr⟩
   | lt he hlt=>
    refine wpAny_bind (he prog w _ _ ?_); have hri:=hlt prog w
    wp_walk using hri
    exact ⟨_,rfl,by simpa using h⟩
  case fin=>
   rintro ⟨b1,b2⟩ s' ⟨hb',rfl,hv⟩; simp only at hb'; subst hb'; cases hv
   wp_walk
   exact ⟨_,rfl,by simpa [Builtin.Tuple.tupleCompareSizes] using h⟩
  case h=>exact ⟨rfl,rfl,hx⟩
theorem gt_tup_gen {A:Around} {s:Shared} {l b:Addr} {items items2:Array Value} {res:Bool} (hl:IsTup s.heap l items) (hb:IsTup s.heap b items2) (hx:LexG A s (decide (items2.size<items.size)) (items.toList.zip items2.toList) res)
  (hu:A.units<cLine):GtAt A s (.ref l) (.ref b) res:=fun prog w E Q h=>by
 obtain ⟨⟨cls,dd,data,sl⟩,ho,hc,n,hd⟩:=id hl; obtain ⟨⟨cls2,dd2,data2,sl2⟩,ho2,hc2,n2,hd2⟩:=id hb; simp only at hc hd hc2 hd2; subst hc hd hc2 hd2
 exact richCompare_meets_room (op:= .Gt) ⟨_,ho,rfl⟩ ⟨_,ho2,rfl⟩ PySem.F.slot_tuple_gt PySem.F.entry_tuple_gt (PySem.F.args_tuple_gt_2 _ _) (tuple_gt_gen l b items items2 n n2 dd dd2 sl sl2 res)
  ⟨ho,ho2,hx,show Value.bool res≠Value.notImplemented∧Q (.bool res) s from ⟨(fun x=>nomatch x),h⟩⟩ hu
end
mutual
noncomputable def dgt:D→D→Bool
 | .int a, .int b=>decide (b<a)
 | .tup a, .tup b=>tE a b
 | _,_=>false
noncomputable def tE:List D→List D→Bool
 | [],[]=>false
 | [],_::_=>false
 | _::_,[]=>true
 | d::ds,e::es=>if deq d e=true then tE ds es else dgt d e
end
section
variable {P:Program} {w:World} {K:aD} {H:Hp} {s:Shared}
mutual
theorem gtAt_D (hok:HOk P w H s.heap):∀ (d:D) {d2:D} {v1 v2:V} {u1 u2:Value} {A:Around},iZ d d2=true→pl d=true→pl d2=true→Rep K H d v1→Rep K H d2 v2→RelV v1 u1→RelV v2 u2→A.units+dep d<cLine→GtAt A s u1 u2 (dgt d d2)
 | .int a,d2,v1,v2,u1,u2,A,c,p1,p2,r1,r2,ru1,ru2,hu=>by
  cases d2 with
  | int b=>simp only [Rep] at r1 r2; subst r1 r2; obtain ⟨t,rfl⟩:=ru1; obtain ⟨t2,rfl⟩:=ru2; simp only [dgt]; exact fun prog w E Q h=>(PyProof.Rows.gt_int h:wpAny (model prog w) A (compareOp .Gt (.int a t) (.int b t2)) Q E s)
  | _=>simp [iZ] at c
 | .tup ds,d2,v1,v2,u1,u2,A,c,p1,p2,r1,r2,ru1,ru2,hu=>by
  cases d2 with
  | tup es=>
   obtain ⟨a,xs,its,rfl,rfl,rl,rv,ht⟩:=iB hok r1 ru1; obtain ⟨b,ys,jts,rfl,rfl,rl2,rv2,ht2⟩:=iB hok r2 ru2; simp only [dgt]; have l1:its.length=ds.length:=by rw [← rv.length,rl.len]
   have l2:jts.length=es.length:=by rw [← rv2.length,rl2.len]
   simp only [pl] at p1 p2; simp only [dep] at hu; simp only [iZ] at c; refine gt_tup_gen ht ht2 ?_ (by omega); exact gtAt_L hok ds c p1 p2 rl rl2 rv rv2 (by omega) (by simp [l1,l2])
  | _=>simp [iZ] at c
 | .non,d2,_,_,_,_,_,c,_,_,_,_,_,_,_=>by cases d2<;>simp [iZ] at c
 | .bl _,d2,_,_,_,_,_,c,_,_,_,_,_,_,_=>by cases d2<;>simp [iZ] at c
 | .str _,d2,_,_,_,_,_,c,_,_,_,_,_,_,_=>by cases d2<;>simp [iZ] at c
 | .lst _,d2,_,_,_,_,_,c,_,_,_,_,_,_,_=>by cases d2<;>simp [iZ] at c
 | .dic,d2,_,_,_,_,_,c,_,_,_,_,_,_,_=>by cases d2<;>simp [iZ] at c
 | .dki _ _,d2,_,_,_,_,_,c,_,_,_,_,_,_,_=>by cases d2<;>simp [iZ] at c
 | .any _,d2,_,_,_,_,_,c,_,_,_,_,_,_,_=>by cases d2<;>simp [iZ] at c
 | .scr _,d2,_,_,_,_,_,c,_,_,_,_,_,_,_=>by cases d2<;>simp [iZ] at c
theorem gtAt_L (hok:HOk P w H s.heap):∀ (ds:List D) {es:List D} {xs ys:List V} {its jts:List Value} {A:Around} {fin:Bool},uH ds es=true→plL ds=true→plL es=true→RepL K H ds xs→RepL K H es ys→Vals xs its→Vals ys jts→A.units+1+jJ ds<cLine→fin=decide (es.length<ds.length)→LexG A s fin (its.zip jts) (tE ds es)
 | [],es,xs,ys,its,jts,A,fin,c,p1,p2,r1,r2,v1,v2,hu,hf=>by
  simp only [RepL] at r1; subst r1; cases v1; subst hf; rw [List.zip_nil_left]; cases es with
  | nil=>exact .nil
  | cons e es=>
   have:tE [] (e::es)=decide ((e::es).length<([]:List D).length):=by simp [tE]
   rw [this]; exact .nil
 | d::ds,[],xs,ys,its,jts,A,fin,c,p1,p2,r1,r2,v1,v2,hu,hf=>by
  simp only [RepL] at r2; subst r2; cases v2; subst hf; rw [List.zip_nil_right]; have:tE (d::ds) []=decide (([]:List D).length<(d::ds).length):=by simp [tE]
  rw [this]; exact .nil
 | d::ds,e::es,xs,ys,its,jts,A,fin,c,p1,p2,r1,r2,v1,v2,hu,hf=>by
  obtain ⟨x,xs,rfl,a1,r1⟩:=r1.uncons; obtain ⟨y,ys,rfl,a2,r2⟩:=r2.uncons; simp only [plL,bX] at p1 p2; simp only [uH,bX] at c; simp only [jJ] at hu; cases v1 with
  | cons q1 v1=>
   cases v2 with
   | cons q2 v2=>
    rw [fJ]; have he:=vI (A:=A.in1) hok d p1.1 p2.1 a1 a2 q1 q2 (by show A.units+1+dep d<cLine; omega); simp only [tE]
    by_cases z:deq d e=true
    ·rw [if_pos z]; rw [z] at he; exact .eq he (gtAt_L hok ds c.2 p1.2 p2.2 r1 r2 v1 v2 (by omega) (by rw [hf]; simp))
    ·rw [if_neg z]; rw [Bool.eq_false_iff.mpr z] at he; exact .lt he (gtAt_D (A:=A.in1) hok d c.1 p1.1 p2.1 a1 a2 q1 q2 (by show A.units+1+dep d<cLine; omega))
end
end
section
variable {X:Cx} {sd:List Slot} {e a b c tg iter o:Expr} {es:List Expr} {pos:Pos} {r ra rb:R} {d d1 d2:D} {ds ls:List D} {st:Stmt} {rest:List Stmt} {E:jP}
theorem op_gtD (K:aD) (d1 d2:D) (hc:iZ d1 d2=true) (p1:pl d1=true) (p2:pl d2=true) (hu:X.A.units+dep d1<cLine):OpR X (compareOp .Gt) (fun x y H Q=>Rep K H d1 x∧Rep K H d2 y∧Q (.bl (dgt d1 d2)) H):=by intro pins s σ H x y v u Q I rx ry h; obtain ⟨h1,h2,q⟩:=h; exact gtAt_D I.hok d1 hc p1 p2 h1 h2 rx ry hu _ _ _ _ ⟨.bl (dgt d1 d2),H,I,rfl,q⟩
theorem ptd_gtD (ha:PEd X sd a (.val d1)) (hb:PEd X sd b (.val d2)) (hc:iZ d1 d2=true) (p1:pl d1=true) (p2:pl d2=true) (hu:X.A.units+dep d1<cLine):PTd X sd (.Compare a [.Gt] [b] pos) (dgt d1 d2):=
 lM (op_gtD X.K _ _ hc p1 p2 hu) ha hb trivial (iU _) fun σ F H v u Q S q1 q2 k=>⟨Rep.mono S.sub q1,Rep.mono S.sub q2,k F H S (Same.refl _)⟩
theorem ptd_ltD (ha:PEd X sd a (.val d1)) (hb:PEd X sd b (.val d2)) (hc:iZ d1 d2=true) (p1:pl d1=true) (p2:pl d2=true) (hu:X.A.units+dep d1<cLine):PTd X sd (.Compare a [.Lt] [b] pos) (dlt d1 d2):=
 lM (op_ltD X.K _ _ hc p1 p2 hu) ha hb trivial (iU _) fun σ F H v u Q S q1 q2 k=>⟨Rep.mono S.sub q1,Rep.mono S.sub q2,k F H S (Same.refl _)⟩
end
noncomputable def sz6L:List (Int × Int):=[(2,3),(3,2),(1,5),(5,1),(1,6),(6,1)]
noncomputable def sz8L:List (Int × Int):=[(1,1),(1,2),(2,1),(2,2),(1,3),(3,1),(1,4),(4,1)]
noncomputable def yP (c:Int):Int × Int:=if mxS c 31%8=1 then sz6L.getD (mxS c 32%6).toNat (1,1) else sz8L.getD (mxS c 30%8).toNat (1,1)
theorem iD (x:Int) {n:Nat} (h:0<n):(x%(n:Int)).toNat<n∧0≤x%(n:Int):=by have h0:=eU x (show (n:Int)≠0 by omega); have h1:=dQ x (show (0:Int)<n by omega); omega
theorem sz41_ok (c:Int):yP c∈dH:=by
 have g6:∀p∈sz6L,p∈dH:=by decide+kernel
 have g8:∀p∈sz8L,p∈dH:=by decide+kernel
 unfold yP
 split
 ·exact g6 _ (getD_mem (iD _ (n:=6) (by decide)).1)
 ·exact g8 _ (getD_mem (iD _ (n:=8) (by decide)).1)
noncomputable def CSz41:List D→R→Prop:=fun ds r=>∃c,ds=[.int c]∧r= .val (dI (yP c))
theorem intsAt {l:List Int} {i:Nat} {d:Int} (h:i<l.length):(l.map D.int)[i]? =some (.int (l.getD i d)):=by simp [cY,h]
noncomputable def nR (c:Int):Int:=([1,1,3]:List Int).getD (mxS c 10%3).toNat 1
noncomputable def oF (c:Int):Nat:=1+(mxS c 11%4).toNat+(if mxS c 12%8=1 then 1 else 0)
noncomputable def zQ (c:Int):Int:=([1,1,2,3]:List Int).getD (mxS c 5%4).toNat 1
theorem wF (c:Int):nR c=1∨nR c=3:=by
 have g:∀x∈([1,1,3]:List Int),x=1∨x=3:=by decide
 exact g _ (getD_mem (iD _ (n:=3) (by decide)).1)
theorem pr41_ok (c:Int):1≤zQ c∧zQ c≤3:=by
 have g:∀x∈([1,1,2,3]:List Int),1≤x∧x≤3:=by decide
 exact g _ (getD_mem (iD _ (n:=4) (by decide)).1)
theorem yA (c:Int):1≤oF c∧oF c≤5:=by
 have:=(iD (mxS c 11) (n:=4) (by decide)).1; unfold oF; have e:((4:Nat):Int)=4:=rfl; rw [e] at this
 split<;>omega
noncomputable def gL (p:Int × Int) (ns:List Int) (st:Nat) (f:Int):Nat→List SK
 | 0=>[]
 | t+1=>if vV (gL p ns st f t) (drQ p (ns.getD (st+1+t) 0)) then gL p ns st f t else gL p ns st f t++[(drQ p (ns.getD (st+1+t) 0),f * zQ (ns.getD (st+1+t) 0))]
noncomputable def vL (p:Int × Int) (ns:List Int) (st:Nat):List SK:=gL p ns st (nR (ns.getD st 0)) (oF (ns.getD st 0))
noncomputable def CKit41:List D→R→Prop:=fun ds r=>∃p ns st,p∈dH∧st≤100∧ds=[.scr ns, .int ((st:Nat):Int),dI p]∧r= .val (.tup [.lst ((vL p ns st).map skD), .int (nR (ns.getD st 0))])
structure KitOk (p:Int × Int) (f:Int) (L:List SK):Prop where
 pos:0<L.length
 le:L.length≤5
 st:∀s∈L,qP p s.1∧f≤s.2∧s.2≤3 * f
 nd:(L.map fun s=>sqD s.1).Nodup
 f13:f=1∨f=3
theorem KitOk.stk {p:Int × Int} {f:Int} {L:List SK} (h:KitOk p f L):StkOk p L:=⟨h.pos,by have:=h.le; omega,fun s hs=>by
 obtain ⟨h1,h2,h3⟩:=h.st s hs; have:=h.f13
 exact ⟨h1,by omega,by omega⟩⟩
theorem tV {p:Int × Int} (hp:p∈dH) (ns:List Int) (st:Nat) {f:Int} (hf:f=1∨f=3):∀t,(gL p ns st f t).length≤t∧(0<t→0<(gL p ns st f t).length)∧(∀s∈gL p ns st f t,qP p s.1∧f≤s.2∧s.2≤3 * f)∧((gL p ns st f t).map fun s=>sqD s.1).Nodup
 | 0=>⟨aX _,fun h=>by omega,fun s hs=>(nomatch hs),gE⟩
 | t+1=>by
  obtain ⟨a,b,c,d⟩:=tV hp ns st hf t; have e:gL p ns st f (t+1)=if vV (gL p ns st f t) (drQ p (ns.getD (st+1+t) 0)) then gL p ns st f t else gL p ns st f t++[(drQ p (ns.getD (st+1+t) 0),f * zQ (ns.getD (st+1+t) 0))]:=rfl
  rw [e]; clear e; cases h:vV (gL p ns st f t) (drQ p (ns.getD (st+1+t) 0)) with
  | true=>
   rw [if_pos rfl]; refine ⟨by omega,fun _=> ?_,c,d⟩; cases e:gL p ns st f t with
   | nil=>rw [e] at h; cases h
   | cons _ _=>simp
  | false=>
   rw [if_neg bO]; refine ⟨by rw [bK]; simp; omega,fun _=>by rw [bK]; simp,fun s hs=> ?_, ?_⟩
   ·rcases bU.mp hs with hs | hs
    ·exact c s hs
    ·rw [aU.mp hs]; obtain ⟨p1,p2⟩:=pr41_ok (ns.getD (st+1+t) 0); refine ⟨drQ_ok hp _, ?_⟩; show f≤f * _∧f * _≤3 * f
     rcases hf with rfl | rfl<;>omega
   ·rw [bR]; refine bY.mpr ⟨d,by simp,fun x hx y hy z=>sqIn_no h ?_⟩; have:y=sqD (drQ p (ns.getD (st+1+t) 0)):=by simpa using hy
    rw [← this,← z]; exact hx
theorem kit41_ok {p:Int × Int} (hp:p∈dH) (ns:List Int) (st:Nat):KitOk p (nR (ns.getD st 0)) (vL p ns st):=by obtain ⟨a,b,c,d⟩:=tV hp ns st (wF (ns.getD st 0)) (oF (ns.getD st 0)); obtain ⟨m1,m2⟩:=yA (ns.getD st 0); exact ⟨b (by omega),eD a m2,c,d,wF _⟩
noncomputable def nM (n:Nat):Nat:=([12,5,4,3,2]:List Nat).getD (n - 1) 0
noncomputable def yM (c:Int) (n:Nat) (f:Int):Int:=f * (c%((nM n:Int)+1))+c / 16%f
noncomputable def CBnd41:List D→R→Prop:=fun ds r=>∃ (c:Int) (L:List SK) (f:Int),0<L.length∧L.length≤5∧(f=1∨f=3)∧ds=[.int c, .lst (L.map skD), .int f]∧r= .val (.int (yM c L.length f))
theorem bnd41_ok (c:Int) (n:Nat) {f:Int} (hf:f=1∨f=3):0≤yM c n f∧yM c n f<f * ((nM n:Int)+1):=by
 have h0:=eU c (show (nM n:Int)+1≠0 by omega); have h1:=dQ c (show (0:Int)<(nM n:Int)+1 by omega); unfold yM
 rcases hf with rfl | rfl<;>omega
noncomputable def rK (n:Nat):Nat→List (List Nat)
 | 0=>[[]]
 | k+1=>(cO n).flatMap fun i=>(rK n k).map fun r=>i::r
theorem rK_mem {n:Nat}:∀ {k:Nat} {row:List Nat},row∈rK n k↔row.length=k∧∀i∈row,i<n
 | 0,row=>by
  show row∈[[]]↔_; rw [aU]
  constructor
  ·rintro rfl; exact ⟨rfl,fun i hi=>(nomatch hi)⟩
  ·exact fun h=>eQ h.1
 | k+1,row=>by
  show row∈(cO n).flatMap _↔_; rw [dZ]
  constructor
  ·rintro ⟨i,hi,h⟩; obtain ⟨r,hr,rfl⟩:=bH.mp h; obtain ⟨h1,h2⟩:=rK_mem.mp hr; refine ⟨by rw [cM,h1],fun j hj=> ?_⟩
   rcases bV.mp hj with rfl | hj
   ·exact fG.mp hi
   ·exact h2 j hj
  ·rintro ⟨h1,h2⟩; cases row with
   | nil=>cases h1
   | cons i r=>exact ⟨i,fG.mpr (h2 i aR),bH.mpr ⟨r,rK_mem.mpr ⟨by simpa using h1,fun j hj=>h2 j (aQ _ hj)⟩,rfl⟩⟩
noncomputable def upK (n K:Nat):List (List Nat):=(cO (K+1)).flatMap (rK n)
theorem upK_mem {n K:Nat} {row:List Nat}:row∈upK n K↔row.length≤K∧∀i∈row,i<n:=by
 unfold upK; rw [dZ]
 constructor
 ·rintro ⟨k,hk,h⟩; obtain ⟨h1,h2⟩:=rK_mem.mp h; have:=fG.mp hk; exact ⟨by omega,h2⟩
 ·rintro ⟨h1,h2⟩; exact ⟨row.length,fG.mpr (by omega),rK_mem.mpr ⟨rfl,h2⟩⟩
theorem len_prf {f:Int} {pr:Nat→Int}:∀ (row:List Nat),(∀k∈row,f≤pr k)→f * (row.length:Int)≤S45.prQ pr row
 | [],_=>by simp [S45.prQ]
 | k::row,h=>by
  have ih:=len_prf row fun j hj=>h j (aQ _ hj)
  have h1:=h k aR; show f * ((row.length+1:Nat):Int)≤(pr k::row.map pr).sum; rw [List.sum_cons]; have e:S45.prQ pr row=(row.map pr).sum:=rfl; rw [← e,Int.natCast_add,Int.mul_add]; omega
theorem few41 {p:Int × Int} {f:Int} {L:List SK} (h:KitOk p f L) {b:Int} (hb:b<f * ((nM L.length:Int)+1)):xL L b (upK L.length (nM L.length)):=by
 have g:∀n∈[1,2,3,4,5],(upK n (nM n)).length≤400∧nM n≤300:=by decide+kernel
 have hl:L.length∈[1,2,3,4,5]:=by
  have h1:=h.pos; have h2:=h.le; have e:L.length=1∨L.length=2∨L.length=3∨L.length=4∨L.length=5:=by omega
  rcases e with e | e | e | e | e<;>rw [e]<;>decide
 obtain ⟨g1,g2⟩:=g _ hl; refine ⟨g1,fun row hr=>eD (upK_mem.mp hr).1 g2,fun row ho hr=>upK_mem.mpr ⟨?_,ho⟩⟩; have:=len_prf (f:=f) (pr:=prK L) row fun k hk=>(h.st _ (getD_mem (d:=(default:SK)) (ho k hk))).2.1
 have hf:=h.f13
 rcases hf with rfl | rfl<;>omega
structure RwsOk (L:List SK) (b:Int) (n:Nat) (R:List (List Nat)):Prop where
 ne:R≠[]
 len:R.length≤n+1
 ok:∀row∈R,gY L row∧S45.prQ (prK L) row≤b∧row.length≤n
noncomputable def CKey41:List D→R→Prop:=fun ds r=>∃ (L:List SK) (row:List Nat),gY L row∧row.length≤400∧ds=[.lst (L.map skD), .tup (cG row)]∧r= .val (.tup [.int (S45.prQ (prK L) row), .int (row.length:Int), .tup (cG row)])
noncomputable def CPr41:List D→R→Prop:=fun ds r=>∃ (L:List SK) (row:List Nat),gY L row∧row.length≤400∧ds=[.lst (L.map skD), .tup (cG row)]∧r= .val (.int (S45.prQ (prK L) row))
noncomputable def CTab41 (P:Program) (w:World) (K:aD):List D→R→Prop:=fun ds r=>∃p L row,p∈dH∧StkOk p L∧gY L row∧row.length≤400∧ds=[dI p, .lst (L.map (mgD P w K p)), .tup (cG row)]∧r= .val (.tup ((S45.tabQ (qA p L) (eV p) row).map bT))
noncomputable def gC (L:List SK) (row:List Nat):D:= .tup [.int (S45.prQ (prK L) row), .int (row.length:Int), .tup (cG row)]
theorem mR (a:List Nat):cG a=(inR a).map D.int:=natI a
theorem lgt_D:∀a b:List Int,tE (a.map D.int) (b.map D.int)=llt b a
 | [],[]=>rfl
 | [],_::_=>rfl
 | _::_,[]=>rfl
 | x::a,y::b=>by
  have e:tE ((x::a).map D.int) ((y::b).map D.int)=if decide (x=y)=true then tE (a.map D.int) (b.map D.int) else decide (y<x):=rfl
  rw [e,lgt_D a b]; show _=if y=x then llt b a else decide (y<x)
  by_cases h:x=y
  ·rw [if_pos (decide_eq_true h),if_pos h.symm]
  ·rw [if_neg (by rw [decide_eq_false h]; decide),if_neg fun z=>h z.symm]
theorem tX (L:List SK) (a c:List Nat):iZ (gC L a) (gC L c)=true∧pl (gC L a)=true∧dep (gC L a)=2:=by
 refine ⟨?_, ?_, ?_⟩
 ·show (true && (true && (uH (cG a) (cG c) && true)))=true; rw [mR,mR,rQ]; rfl
 ·show (true && (true && (plL (cG a) && true)))=true; rw [(nK a).1]; rfl
 ·show max 0 (max 0 (max (jJ (cG a)+1) 0))+1=2; rw [(nK a).2]; rfl
theorem kle_gt {L:List SK} {a c:List Nat} (h:kle L a c):dgt (gC L a) (gC L c)=false:=by
 rcases h with rfl | h
 ·have e:dgt (gC L a) (gC L a)=if decide (S45.prQ (prK L) a=S45.prQ (prK L) a)=true then (if decide ((a.length:Int)=(a.length:Int))=true then (if iO (cG a) (cG a)=true then false else tE (cG a) (cG a)) else decide ((a.length:Int)<a.length)) else decide (S45.prQ (prK L) a<S45.prQ (prK L) a):=rfl
  rw [e,if_pos (by simp),if_pos (by simp),if_pos (by rw [mR]; exact mE _ (by rw [← mR]; exact (nK a).1))]
 ·have e:dgt (gC L a) (gC L c)=if decide (S45.prQ (prK L) a=S45.prQ (prK L) c)=true then (if decide ((a.length:Int)=(c.length:Int))=true then (if iO (cG a) (cG c)=true then false else tE (cG a) (cG c)) else decide ((c.length:Int)<a.length)) else decide (S45.prQ (prK L) c<S45.prQ (prK L) a):=rfl
  rw [e]
  rcases h with h | ⟨h1,h2⟩
  ·unfold rlt rkR at h; simp only at h
   by_cases q:S45.prQ (prK L) a=S45.prQ (prK L) c
   ·rw [if_pos (decide_eq_true q),if_neg (by simp; omega)]; exact decide_eq_false (by omega)
   ·rw [if_neg (by simpa using q)]; exact decide_eq_false (by omega)
  ·have e1:=congrArg Prod.fst h1; have e2:=congrArg Prod.snd h1; simp only [rkR] at e1 e2; rw [if_pos (decide_eq_true e1),if_pos (decide_eq_true e2)]
   split
   ·rfl
   ·rw [mR,mR,lgt_D]; cases z:llt (inR c) (inR a) with
    | false=>rfl
    | true=>have:=tS _ _ _ h2 z; rw [mY] at this; cases this
structure BqOk (p:Int × Int) (L:List SK) (b:Int) (B:List Bk):Prop where
 len:B.length≤400
 ent:∀e∈B,gY L e.2.1∧e.1=S45.prQ (prK L) e.2.1∧e.1≤b∧e.2.2=S45.tabQ (qA p L) (eV p) e.2.1∧e.2.1.length≤300
 nd:(B.map fun e=>e.2.2).Nodup
 srt:(B.map fun e=>e.2.1).Pairwise (klt L)
 cl:∀e∈B,∀k,k<L.length→e.1+prK L k≤b→∃e'∈B,e'.2.2=qA p L k e.2.2∧kle L e'.2.1 (e.2.1++[k])
 st:0≤b→∃e∈B,e.2.2=eV p∧kle L e.2.1 []
 all:∀row,gY L row→S45.prQ (prK L) row≤b→∃e∈B,e.2.2=S45.tabQ (qA p L) (eV p) row∧kle L e.2.1 row
theorem bkQ_ok {p:Int × Int} {L:List SK} {b:Int} {U:List (List Nat)} (hp:p∈dH) (S:StkOk p L) (F:xL L b U):BqOk p L b (bkQ p L b):=by
 have O:=bkF_ok (p:=p) S.pr F; have nr:∀ {row:List Nat},gY L row→NOk p (nrQ p L row)∧jO p (nrQ p L row)=S45.tabQ (qA p L) (eV p) row:=fun h=>xP hp (fun s hs=>(S.st s hs).1) h
 have mem:∀ {e:Int × List Nat × List Nat},e∈bkF p L b→(e.1,e.2.1,jO p e.2.2)∈bkQ p L b:=fun h=>bH.mpr ⟨_,h,rfl⟩
 refine ⟨by unfold bkQ; rw [aG]; exact O.len,fun x hx=> ?_, ?_, ?_,fun x hx k hk hle=> ?_,fun h=> ?_,fun row ho hr=> ?_⟩
 ·obtain ⟨e,he,rfl⟩:=bH.mp hx; obtain ⟨h1,h2,h3,h4,h5⟩:=O.ent e he; exact ⟨h1,h2,h3,by show jO p e.2.2=_; rw [h4]; exact (nr h1).2,h5⟩
 ·unfold bkQ; rw [bM]; have:(bkF p L b).map ((fun e:Bk=>e.2.2) ∘ fun e=>(e.1,e.2.1,jO p e.2.2))=((bkF p L b).map fun e=>e.2.2).map (jO p):=by rw [bM]; rfl
  rw [this]; have q:=O.nd; unfold List.Nodup at q ⊢; rw [nY]; refine List.Pairwise.imp_of_mem (fun {a c} ha hc h z=>h ?_) q; obtain ⟨e,he,rfl⟩:=bH.mp ha; obtain ⟨e',he',rfl⟩:=bH.mp hc; have n1:=(nr (O.ent e he).1).1; have n2:=(nr (O.ent e' he').1).1; rw [← (O.ent e he).2.2.2.1] at n1; rw [← (O.ent e' he').2.2.2.1] at n2; exact tabN_inj hp n1 n2 z
 ·unfold bkQ; rw [bM]; exact O.srt
 ·obtain ⟨e,he,rfl⟩:=bH.mp hx; obtain ⟨e',he',h1,h2⟩:=O.cl e he k hk hle; obtain ⟨o1,_,_,o4,_⟩:=O.ent e he; refine ⟨_,mem he', ?_,h2⟩
  have ho:gY L (e.2.1++[k]):=fun i hi=>by
   rcases bU.mp hi with hi | hi
   ·exact o1 i hi
   ·rw [aU.mp hi]; exact hk
  show jO p e'.2.2=qA p L k (jO p e.2.2); rw [h1,(nr ho).2,S45.tab_snoc,o4,(nr o1).2]
 ·obtain ⟨e,he,h1,h2⟩:=O.st h; refine ⟨_,mem he, ?_,h2⟩; show jO p e.2.2=eV p; rw [h1]; exact tab_st0 p
 ·obtain ⟨e,he,h1,h2⟩:=O.all S.pr row ho hr; refine ⟨_,mem he, ?_,h2⟩; show jO p e.2.2=_; rw [h1]; exact (nr ho).2
section
variable {X:Cx} {sd:List Slot} {a b c e:Expr} {pos:Pos} {d d0:D} {ds:List D} {κ:Type} [DecidableEq κ] {hk:HK X.prog X.w κ} {ks:List κ} {k:κ}
noncomputable def rGG (hk:HK X.prog X.w κ):V→List V→Hp→VK→Prop:=fun x us H Q=>∃ (F:Hp) (l ad:Addr) (k:κ) (y:V) (o:Obj) (ks:List κ) (ds:List D),x= .ref l∧us=[.ref ad,y]∧Same F H∧H l=some (exO l o)∧hk.rel F k ad∧X.A.units+2<cLine∧TG hk X.K F l o ks ds∧
 (∀ (n:Nat) (d:D) (v:V),ks[n]? =some k→ds[n]? =some d→Rep X.K F d v→Q v H)∧(k∉ks→Q y H)
theorem mt_getG:MtR X "dict.get" (rGG hk):=by
 intro pins s σ H x vs v us Q I rx rv h; obtain ⟨F,l,ad,k,y,o,ks,ds,rfl,rfl,sF,hl,ha,hu,t,q1,q2⟩:=h; obtain rfl:v=Value.ref l:=rx; cases rv with
 | cons r1 rv=>
  obtain ⟨u,rfl,ru⟩:=Vals.one rv; rename_i b; obtain rfl:b=Value.ref ad:=r1; obtain ⟨vs,xs,rl,kg,dd,_,hin⟩:=t.dict I.hok sF hl; refine call_meetsIn PySem.F.slot_dict_get dd.typeIs PySem.F.entry_dict_get (PySem.F.args_dict_get_3 _ _ _) (meetsH_dict_get_default hk.kind l ad t.2.2.1 u) ⟨hk.room hu,k,xs,hk.ok I.hok (hk.mono sF ha),dd, ?_⟩
  by_cases hmem:k∈ks
  ·obtain ⟨n,hn⟩:=fH hmem
   have nl:n<ds.length:=by have:=(aP.mp hn).1; have:=t.1; omega
   have hd:ds[n]? =some ds[n]:=by simp [nl]
   obtain ⟨v,hv,rv'⟩:=rl.get hd; obtain ⟨w',hw,rw'⟩:=RelO.some_of (v:=v) (o:=(atKey xs k).map (·.2)) (by rw [← uQ t.2.2.2.1 hn hv]; exact kg.val k); refine ⟨v,H,I.tok _, ?_,q1 n _ v hn hd rv'⟩; rw [hw]; exact rw'
  ·refine ⟨y,H,I.tok _, ?_,q2 hmem⟩
   have:atKey xs k=none:=by
    have:=hin k; rw [decide_eq_false hmem] at this; cases z:atKey xs k with
    | none=>rfl
    | some _=>rw [z] at this; cases this
   rw [this]; exact ru
theorem pd_getG (i:Nat) {x:Str} {p ap cp:Pos} (hu:X.A.units+2<cLine) (hs:sd[i]? =some (.val (gD hk X.K ks ds)))
  (hb:PEd X sd b (.val (hk.dat k))) (hc:PEd X sd c (.val d0)) (h1:∀n:Nat,ks[n]? =some k→ds[n]? =some d) (h2:k∉ks→d0=d)
  (hm:PE X (.Call (.Attribute (.Name x p) "get" ap) [b,c] [] cp) (fun σ H Q=>lY i σ H fun x H1=>(∃l ob,x= .ref l∧H1 l=some (exO l ob)∧ob.ExactDict)∧(oR (wE X b) (oR (wE X c) zR)) σ H1 fun xs H2=>rGG hk x xs H2 Q):=by exact pe_dm jU PySem.F.slot_dict_get PySem.F.type_dict_get mt_getG (pv _) (gR gS (gR gS pa_nil))):
  PEd X sd (.Call (.Attribute (.Name x p) "get" ap) [b,c] [] cp) (.val d):= .mk fun σ F H S=>hm.to (by
 obtain ⟨ov,g1,v0,g2,g3⟩:=S.slots.get hs; subst g2; obtain ⟨l,o,rfl,f1,t⟩:=gD_rep.mp g3; refine ⟨.ref l,g1,⟨l,o,rfl,S.sub _ _ f1,t.2.2.2.2.choose_spec.choose_spec.choose_spec.choose_spec.2.2.1⟩,(hb σ F H S).imp fun v1 H1 ⟨F1,S1,s1,q1⟩=>(hc σ F1 H1 S1).imp fun v2 H2 ⟨F2,S2,s2,q2⟩=> ?_⟩; obtain ⟨ad,rfl,hr⟩:=hk.key q1; refine ⟨F2,l,ad,k,v2,o,ks,ds,rfl,rfl,S2.sub,S2.sub _ _ (s2 _ _ (s1 _ _ f1)),hk.mono s2 hr,hu,t.mono (s1.trans s2),fun n d' v e1 e2 e3=> ?_,fun hn=> ?_⟩
 ·have:=h1 n e1; rw [e2] at this; cases this; exact ⟨F2,S2,s1.trans s2,e3⟩
 ·have:=h2 hn; subst this
  exact ⟨F2,S2,s1.trans s2,q2⟩)
end
noncomputable def CIt40:List D→R→Prop:=fun ds r=>∃ (p:Int × Int) (T:List (List Int)),p∈dH∧T.length≤64∧(∀ws∈T,ws∈eV p)∧ds=[.tup (T.map bT),dI p, .int (T.length:Int)]∧r= .val (.bl true)
noncomputable def CIe40 (P:Program) (w:World) (K:aD):List D→R→Prop:=fun ds r=>∃p L b B e,p∈dH∧StkOk p L∧BqOk p L b B∧e∈B∧ds=[enD e,dI p, .lst (L.map skD), .lst (L.map (mgD P w K p))]∧r= .val (.bl true)
noncomputable def nO (P:Program) (w:World) (K:aD) (L:List SK) (B:List Bk):D:=gD (hkN P w) K (ksE B) (B.map fun e=>gC L e.2.1)
noncomputable def CKn40 (P:Program) (w:World) (K:aD):List D→R→Prop:=fun ds r=>∃p L b B,p∈dH∧StkOk p L∧BqOk p L b B∧ds=[.lst (B.map enD),dI p, .lst (L.map skD), .int b]∧r= .val (nO P w K L B)
noncomputable def CIb40:List D→R→Prop:=fun ds r=>∃p L b B,p∈dH∧StkOk p L∧BqOk p L b B∧0≤b∧ds=[.lst (B.map enD),dI p, .lst (L.map skD), .int b]∧r= .val (.bl true)
theorem ints_noI (ws:List Int):((ws.map D.int).filter fun d=> !isI d).map (fun d=>d)=[]:=by
 have g:∀ws:List Int,(ws.map D.int).filter (fun d=> !isI d)=[]:=fun ws=>by
  induction ws with
  | nil=>rfl
  | cons w ws ih=>exact ih
 rw [g]; rfl
theorem tab_all {p:Int × Int} {L:List SK} (hp:p∈dH) (S:StkOk p L) {row:List Nat} (h:gY L row):(S45.tabQ (qA p L) (eV p) row).length=(eV p).length:=by obtain ⟨q1,q2⟩:=xP hp (fun s hs=>(S.st s hs).1) h; rw [← q2]; unfold jO; rw [aG]; exact q1.1
theorem prQ_nn {L:List SK} (hpr:∀k,k<L.length→1≤prK L k) {row:List Nat} (h:gY L row):0≤S45.prQ (prK L) row:=by
 have:=S45.len_pr (pr:=prK L) row fun k hk=>hpr k (h k hk)
 omega
noncomputable def k0D:D:= .tup [.int (-1), .int 0, .tup []]
theorem k0_lt {L:List SK} {a:List Nat} (h:0≤S45.prQ (prK L) a):dlt k0D (gC L a)=true:=by
 have e:dlt k0D (gC L a)=if decide ((-1:Int)=S45.prQ (prK L) a)=true then pJ [.int 0, .tup []] [.int (a.length:Int), .tup (cG a)] else decide ((-1:Int)<S45.prQ (prK L) a):=rfl
 rw [e,if_neg (by simp; omega)]; exact decide_eq_true (by omega)
theorem klt_lt {L:List SK} {a c:List Nat} (h:klt L a c):dlt (gC L a) (gC L c)=true:=by
 have e:dlt (gC L a) (gC L c)=if decide (S45.prQ (prK L) a=S45.prQ (prK L) c)=true then (if decide ((a.length:Int)=(c.length:Int))=true then (if iO (cG a) (cG c)=true then false else pJ (cG a) (cG c)) else decide ((a.length:Int)<c.length)) else decide (S45.prQ (prK L) a<S45.prQ (prK L) c):=rfl
 rw [e]
 rcases h with h | ⟨h1,h2⟩
 ·unfold rlt rkR at h; simp only at h
  by_cases q:S45.prQ (prK L) a=S45.prQ (prK L) c
  ·rw [if_pos (decide_eq_true q),if_neg (by simp; omega)]; exact decide_eq_true (by omega)
  ·rw [if_neg (by simpa using q)]; exact decide_eq_true (by omega)
 ·have e1:=congrArg Prod.fst h1; have e2:=congrArg Prod.snd h1; simp only [rkR] at e1 e2; rw [if_pos (decide_eq_true e1),if_pos (decide_eq_true e2),mR,mR,llt_D,h2,if_neg]; intro z; have e3:∀x y:List Int,iO (x.map D.int) (y.map D.int)=decide (x=y):=fun x y=>wO x y
  rw [e3] at z; rw [of_decide_eq_true z,mY] at h2; cases h2
theorem ksE_take {B:List Bk} (nd:(B.map fun e=>e.2.2).Nodup) {t:Nat} {e:Bk} (h:B[t]? =some e):tbK e.2.2∉ksE (B.take t):=fun z=>by
 obtain ⟨x,x1,x2⟩:=bH.mp z; have x3:x.2.2=e.2.2:=pG x2
 have:e.2.2∈(B.map fun e=>e.2.2).take t:=by rw [← oA,← x3]; exact bH.mpr ⟨x,x1,rfl⟩
 exact nd_take nd (by rw [bG,h]; rfl) this
theorem kle_nil {L:List SK} (hpr:∀k,k<L.length→1≤prK L k) {a:List Nat} (ho:gY L a) (h:kle L a []):a=[]:=by
 rcases h with h | (h | ⟨_,h⟩)
 ·exact h
 ·have h1:=prQ_nn hpr ho; unfold rlt rkR at h; have e:S45.prQ (prK L) ([]:List Nat)=0:=rfl; simp only [e] at h; have:(([]:List Nat).length:Int)=0:=rfl; omega
 ·cases a with
  | nil=>rfl
  | cons x a=>cases h
theorem Bq_inj {p:Int × Int} {L:List SK} {b:Int} {B:List Bk} (O:BqOk p L b B) {x y:Bk} (hx:x∈B) (hy:y∈B) (h:x.2.2=y.2.2):x=y:=by obtain ⟨i,hi,ex⟩:=fR hx; obtain ⟨j,hj,ey⟩:=fR hy; have:i=j:=(jE (i:=i) (j:=j) (h₀:=by rw [aG]; exact hi) (h₁:=by rw [aG]; exact hj) O.nd).mp (by rw [eA,eA,ex,ey,h]); subst this; rw [← ex,← ey]
noncomputable def itD40 (L:List SK) (e:Bk):D:= .tup [.tup (e.2.2.map bT),gC L e.2.1]
theorem key_snoc (L:List SK) (row:List Nat) (k:Nat):gC L (row++[k])= .tup [.int (S45.prQ (prK L) row+prK L k), .int ((row.length:Int)+1), .tup (cG row++[.int (k:Int)])]:=by unfold gC; rw [S45.pr_snoc,bK]; unfold cG; rw [bR]; rfl
theorem nN {α:Type} (f:α→D) (h:∀x,noL (f x)=true):∀l:List α,pZ (l.map f)=true
 | []=>rfl
 | x::l=>by show (noL (f x) && pZ (l.map f))=true; rw [h x,nN f h l]; rfl
theorem noL_nat (a:List Nat):pZ (cG a)=true:=nN _ (fun _=>rfl) a
theorem noL_tupI (ws:List Int):noL (bT ws)=true:=nN D.int (fun _=>rfl) ws
theorem noL_en (e:Bk):noL (enD e)=true:=by show (true && (pZ (cG e.2.1) && (pZ (e.2.2.map bT) && true)))=true; rw [noL_nat,nN bT noL_tupI]; rfl
theorem noL_sk (s:SK):noL (skD s)=true:=by
 show (noL (sqD s.1) && (true && true))=true
 have:noL (sqD s.1)=true:=by
  show noL (iE _ _ _ _)=true; unfold iE
  split
  ·rfl
  ·split<;>rfl
 rw [this]; rfl
theorem pl_en (e:Bk):pl (enD e)=true:=by show (true && (plL (cG e.2.1) && (plL (e.2.2.map bT) && true)))=true; rw [(nK e.2.1).1,rD]; rfl
theorem dep_en (e:Bk):dep (enD e)≤3:=by show max 0 (max (jJ (cG e.2.1)+1) (max (jJ (e.2.2.map bT)+1) 0))+1≤3; have:=tW e.2.2; rw [(nK e.2.1).2]; omega
theorem sq_24 (q:SQ):pl (sqD q)=true∧dep (sqD q)=1:=by
 show pl (iE _ _ _ _)=true∧dep (iE _ _ _ _)=1; unfold iE
 split
 ·exact ⟨rfl,rfl⟩
 ·split<;>exact ⟨rfl,rfl⟩
theorem pl_sk (s:SK):pl (skD s)=true∧dep (skD s)≤2:=by
 refine ⟨?_, ?_⟩
 ·show (pl (sqD s.1) && (true && true))=true; rw [(sq_24 s.1).1]; rfl
 ·show max (dep (sqD s.1)) (max 0 0)+1≤2; rw [(sq_24 s.1).2]; decide
theorem pls_en (B:List Bk):plL (B.map enD)=true∧jJ (B.map enD)≤3:=⟨wJ enD pl_en B,tN enD 3 dep_en B⟩
theorem pls_sk (L:List SK):plL (L.map skD)=true∧jJ (L.map skD)≤2:=⟨wJ skD (fun s=>(pl_sk s).1) L,tN skD 2 (fun s=>(pl_sk s).2) L⟩
end DL
set_option maxHeartbeats 400000
namespace K40
open PySem PySem.Spec PyProof.Rows L2 DL
noncomputable def top (i:Nat):Stmt:=PySem.Challenge.pw_leastrow_k40_books_walked.main.body.getD i (.Pass ⟨0,0,0,0⟩)
noncomputable abbrev vT:Stmt:=top 4
noncomputable abbrev uB:Stmt:=top 5
noncomputable abbrev sFill:Stmt:=top 6
noncomputable abbrev sNum:Stmt:=top 7
noncomputable abbrev rR:Stmt:=top 10
noncomputable abbrev pD:Stmt:=top 11
noncomputable abbrev pF:Stmt:=top 12
noncomputable abbrev oY:Stmt:=top 14
noncomputable abbrev sJ:Stmt:=top 13
noncomputable abbrev sNos:Stmt:=top 17
noncomputable abbrev sX:Stmt:=top 18
noncomputable abbrev xX:Stmt:=top 19
noncomputable abbrev sPut:Stmt:=top 20
noncomputable abbrev sFd:Stmt:=top 21
noncomputable abbrev tM:Stmt:=top 22
noncomputable abbrev yN:Stmt:=top 23
noncomputable abbrev rN:Stmt:=top 25
noncomputable abbrev vR:Stmt:=top 26
noncomputable abbrev sT:Stmt:=top 27
noncomputable abbrev vZ:Stmt:=top 28
noncomputable abbrev sAft:Stmt:=top 29
noncomputable abbrev tJ:Stmt:=top 31
noncomputable abbrev sLMv:Stmt:=top 34
noncomputable abbrev xW:Stmt:=top 30
noncomputable abbrev xK:Stmt:=top 32
noncomputable abbrev sBnd:Stmt:=top 33
noncomputable abbrev sLPr:Stmt:=top 36
noncomputable abbrev sKey:Stmt:=top 37
noncomputable abbrev sTab:Stmt:=top 35
noncomputable abbrev qY:Stmt:=top 38
noncomputable abbrev sIt:Stmt:=top 39
noncomputable abbrev sIe:Stmt:=top 40
noncomputable abbrev sKn:Stmt:=top 41
noncomputable abbrev sIb:Stmt:=top 42
noncomputable abbrev xM:Stmt:=top 43
section
variable {P:Program} {w:World} {K:aD} {mg:Str→Option Value} {base:Heap} {f:Addr} {fd:FuncData}
theorem pl_sq (q:SQ):pl (sqD q)=true:=by
 show pl (iE _ _ _ _)=true; unfold iE
 split
 ·rfl
 ·split<;>rfl
theorem dep_sq (q:SQ):dep (sqD q)=1:=by
 show dep (iE _ _ _ _)=1; unfold iE
 split
 ·rfl
 ·split<;>rfl
theorem plL_map {α:Type} (g:α→D) (h:∀a,pl (g a)=true):∀l:List α,plL (l.map g)=true
 | []=>rfl
 | a::l=>by show (pl (g a) && plL (l.map g))=true; rw [h a,plL_map g h l]; rfl
theorem depL_map {α:Type} (g:α→D) (n:Nat) (h:∀a,dep (g a)≤n):∀l:List α,jJ (l.map g)≤n
 | []=>dA _
 | a::l=>Nat.max_le.mpr ⟨h a,depL_map g n h l⟩
noncomputable def CCount:List D→R→Prop:=fun ds r=>∃p:Int × Int,ds=[dI p]∧0≤p.1∧p.1≤60∧r= .val (.int (2^p.1.toNat))
theorem ok_count (F:Fun K "word_count" "word_count" vT f fd) (zrange:mg "range"=none) (hm:mg "word_count"=some (.ref f)):bZ P w K mg base "word_count" 1 1 CCount:=by
 have nd:(["size","count","bit"]:List Str).Nodup:=by decide+kernel
 refine fQ (N:=["size","count","bit"]) (ps:=["size"]) (k:=0) F ⟨rfl,rfl,rfl,nd,rfl,by decide+kernel,by decide+kernel⟩ hm (fun _ _ _ _ _ _ us hl=>match us,hl with | [_],_=>rfl) fun cdv A outer s H E hr ds r hl c=> ?_
 obtain ⟨p,rfl,h0,h1,rfl⟩:=c; have ep:p.1=((p.1.toNat:Nat):Int):=by omega
 refine aJ (dG 1 nd rfl (Or.inl rfl) bF ?_); refine aJ (uY (ds:=jD 0 p.1.toNat) (fun k=>[.val (dI p), .val (.int (2^k)), .un]) (fun k=>[.val (dI p), .val (.int (2^k)), .val (.int (0+(k:Int)))]) (kT (n:=p.1.toNat) rfl zrange (PEd.cast (dS (n:=0) (d:= .int p.1) (aE 0 rfl (pv 0)) bF rfl fun _ _=>rfl) (by rw [← ep])) (by omega)) ⟨.inr rfl, .inr rfl, .inr rfl,trivial⟩ (fun i d hd=> ?_) (fun i d hd=> ?_) ?_)
 ·obtain ⟨_,rfl⟩:=kX hd; exact fM 2 (dR (i:=2) nd rfl (Or.inl rfl))
 ·refine bP (dG 1 nd rfl (Or.inl rfl) (dX iY (aE 1 rfl (pv 1)) bF (mul64 (by decide) (by decide))) ?_); exact ⟨.inr rfl, .inr rfl, .inl rfl,trivial⟩
 ·refine bP (cJ (aE 1 rfl (pv 1)) trivial ?_); rw [iT]
noncomputable def CEach:List D→R→Prop:=fun ds r=>∃ (L:List (List Int)) (m:Nat),ds=[.lst (L.map bT), .int (m:Int)]∧L.length * m≤900∧m≤64∧(∀s∈L,s.length≤100)∧r= .own ((L.flatMap fun s=>(cO m).map fun (w:Nat)=>s++[(w:Int)]).map bT)
theorem ok_each (F:Fun K "with_each_word" "with_each_word" uB f fd) (zrange:mg "range"=none) (hm:mg "with_each_word"=some (.ref f)):bZ P w K mg base "with_each_word" 1 2 CEach:=by
 have nd:(["starts","count","longer","start"]:List Str).Nodup:=by decide+kernel
 refine fQ (N:=["starts","count","longer","start"]) (ps:=["starts","count"]) (k:=0) F ⟨rfl,rfl,rfl,nd,rfl,by decide+kernel,by decide+kernel⟩ hm (fun _ _ _ _ _ _ us hl=>match us,hl with | [_,_],_=>rfl) fun cdv A outer s H E hr ds r hl c=> ?_
 obtain ⟨L,m,rfl,hL,hm64,hs,rfl⟩:=c; have nd2:(["word","start"]:List Str).Nodup:=by decide+kernel
 refine aJ (gM 2 nd rfl (Or.inl rfl) (jN (ds:=[]) bD (dA _)) fun l=> ?_); refine aJ (uY (ds:=L.map bT) (fun k=>[.val (.lst (L.map bT)), .val (.int (m:Int)), .own l (((L.take k).flatMap fun s=>(cO m).map fun (w:Nat)=>s++[(w:Int)]).map bT), .un]) (fun k=>[.val (.lst (L.map bT)), .val (.int (m:Int)), .own l (((L.take k).flatMap fun s=>(cO m).map fun (w:Nat)=>s++[(w:Int)]).map bT), .val (bT (L.getD k []))]) (jI (aE 0 rfl (pv 0))) ⟨.inr rfl, .inr rfl, .inr rfl, .inr rfl,trivial⟩ (fun k d hd=> ?_) (fun k d hd=> ?_) ?_)
 ·obtain ⟨_,rfl⟩:=sD hd; exact fM 3 (dR (i:=3) nd rfl (Or.inr rfl))
 ·obtain ⟨hk,rfl⟩:=sD hd; have hmem:L.getD k []∈L:=getD_mem hk
  have et:L.take (k+1)=L.take k++[L.getD k []]:=by rw [gF]; simp [cY,hk]
  have lk:(L.take k).length * m+m≤900:=by
   have h1:(L.take k).length+1≤L.length:=by rw [dU]; omega
   have h2:=Nat.mul_le_mul_right m h1; rw [Nat.succ_mul] at h2; omega
  have comp:∀ {pos:Pos},PEd (lE CX0 P w K mg base ["starts","count","longer","start"] "with_each_word" (aV uB) f cdv A outer s H E).nox [.val (.lst (L.map bT)), .val (.int (m:Int)), .own l (((L.take k).flatMap fun s=>(cO m).map fun (w:Nat)=>s++[(w:Int)]).map bT), .val (bT (L.getD k []))] (match (cT uB).getD 1 (.Pass ⟨0,0,0,0⟩) with | .For _ _ [.Expr (.Call _ [c] _ _) _] _ _=>c | _=> .Constant .none 0 ⟨0,0,0,0⟩) (.own (((jD 0 m).filter fun _=>true).map fun d=>D.tup ((L.getD k []).map D.int++[d]))):=fun {pos}=>by
   refine jL (N:=["word","start"]) (M:=["starts","count","longer","start"]) (cap:=[none,some 3]) (sc:=aV uB) (Tb:=fun d=>[.val d, .val (bT (L.getD k []))]) (fun _=>true) (fun d=>D.tup ((L.getD k []).map D.int++[d])) (kT (n:=m) rfl zrange (aE 1 rfl (pv 1)) (by omega)) (by rw [iT]; omega) rfl (by decide+kernel) rfl (by decide+kernel) rfl (fun cl C fp s H d _=>fM 0 (dR (i:=0) nd2 rfl (Or.inl rfl))) (fun d _=>⟨.inl rfl, .inr rfl,trivial⟩) (fun cl C fp s H d _=> .inl ⟨rfl,rfl⟩) fun cl C fp s H d _ _=> ?_
   refine mV (aE 1 rfl (pv 1)) (gA (ds:=[d]) (aH (aE 0 rfl (pv 0)) bD) (aO rfl)) ?_; have:=hs _ hmem; simp only [aG,cM,hG]; omega
  have ec:((jD 0 m).filter fun _=>true).map (fun d=>D.tup ((L.getD k []).map D.int++[d]))=((cO m).map fun (w:Nat)=>L.getD k []++[(w:Int)]).map bT:=by
   rw [eH.mpr (fun _ _=>rfl)]; unfold jD; rw [bM,bM]; refine cR fun w _=> ?_
   simp [bT]
  refine bP (wX 2 rfl (pv 2) (PEd.val (comp (pos:=⟨0,0,0,0⟩))) ?_ ?_)
  ·rw [aG,pH,ec,aG,aG,kQ]; omega
  ·refine ⟨.inr rfl, .inr rfl, .inr ?_, .inl rfl,trivial⟩; rw [et,ec,List.flatMap_append,bR]; simp
 ·refine bP (pK 2 rfl (pv 2) ?_); show R.own _=R.own _; rw [aG,gB]
noncomputable def CFill:List D→R→Prop:=fun ds r=>∃p,p∈dH∧ds=[dI p]∧r= .own ((iC (2^p.1.toNat) p.2.toNat).map bT)
theorem ok_fill (F:Fun K "fillings" "fillings" sFill f fd) (zrange:mg "range"=none) (hm:mg "fillings"=some (.ref f)) (GC:bZ P w K mg base "word_count" 1 1 CCount) (GE:bZ P w K mg base "with_each_word" 1 2 CEach):bZ P w K mg base "fillings" 2 1 CFill:=by
 have nd:(["size","count","told","box"]:List Str).Nodup:=by decide+kernel
 refine fQ (N:=["size","count","told","box"]) (ps:=["size"]) (k:=1) F ⟨rfl,rfl,rfl,nd,rfl,by decide+kernel,by decide+kernel⟩ hm (fun _ _ _ _ _ _ us hl=>match us,hl with | [_],_=>rfl) fun cdv A outer s H E hr ds r hl c=> ?_
 obtain ⟨p,hp,rfl,rfl⟩:=c; obtain ⟨h1,h2,h3,h4,h5⟩:=sS p hp; have e2:p.2=((p.2.toNat:Nat):Int):=by omega
 have m64:2^p.1.toNat≤64:=by
  have:p.1.toNat≤6:=by omega
  exact eD (qV (by decide) this) (by decide)
 have ec:(2:Int)^p.1.toNat=((2^p.1.toNat:Nat):Int):=by push_cast; rfl
 refine aJ (dG 1 nd rfl (Or.inl rfl) (cU (ds:=[dI p]) GC hr rfl (aH (aE 0 rfl (pv 0)) bD) ⟨p,rfl,by omega,by omega,rfl⟩ trivial rfl) ?_); refine aJ (gM (ds:=[bT []]) 2 nd rfl (Or.inl rfl) (jN (ds:=[bT []]) (aH (gA (ds:=[]) bD (dA _)) bD) (aO rfl)) fun l=> ?_); refine aJ (hW (ds:=jD 0 p.2.toNat) (fun k sd=>∃l,sd=[.val (dI p), .val (.int (2^p.1.toNat)), .own l ((iC (2^p.1.toNat) k).map bT), .un]) (kT (n:=p.2.toNat) rfl zrange (PEd.cast (dS (n:=1) (d:= .int p.2) (aE 0 rfl (pv 0)) bF rfl fun _ _=>rfl) (by rw [← e2])) (by omega)) ⟨_,Le.refl _,l,rfl⟩ (fun k d sdk hd hk=> ?_) fun sdn hn=> ?_)
 ·obtain ⟨hk2,rfl⟩:=kX hd; obtain ⟨l2,rfl⟩:=hk; refine ⟨[.val (dI p), .val (.int (2^p.1.toNat)), .own l2 ((iC (2^p.1.toNat) k).map bT), .val (.int (0+(k:Int)))],fM 3 (dR (i:=3) nd rfl (Or.inl rfl)), ?_⟩; refine mX 2 rfl ?_; refine bP (gM 2 nd rfl (Or.inl rfl) (cU (ds:=[.lst ((iC (2^p.1.toNat) k).map bT), .int ((2^p.1.toNat:Nat):Int)]) GE hr rfl (aH (aE 2 rfl (pv 2)) (aH (PEd.cast (aE 1 rfl (pv 1)) (by rw [ec])) bD)) ⟨iC (2^p.1.toNat) k,2^p.1.toNat,rfl, ?_,m64,fun s hs=> ?_,rfl⟩ trivial rfl) fun l3=> ?_)
  ·rw [rX]; exact yO p hp k hk2
  ·rw [xB _ _ s hs]; omega
  ·exact ⟨[.val (dI p), .val (.int (2^p.1.toNat)), .own l3 ((iC (2^p.1.toNat) (k+1)).map bT), .un],⟨.inr rfl, .inr rfl, .inr rfl, .inl rfl,trivial⟩,l3,rfl⟩
 ·rw [iT] at hn; obtain ⟨l2,rfl⟩:=hn; exact bP (pK 2 rfl (pv 2) rfl)
noncomputable def CNum:List D→R→Prop:=fun ds r=>∃ (p:Int × Int) (ws:List Int),ds=[dI p,bT ws]∧0≤p.1∧p.1≤60∧r= .val (.int (uE (2^p.1.toNat) ws))
theorem ok_num (F:Fun K "number_of" "number_of" sNum f fd) (hm:mg "number_of"=some (.ref f)) (GC:bZ P w K mg base "word_count" 1 1 CCount):bZ P w K mg base "number_of" 2 2 CNum:=by
 have nd:(["size","filling","count","number","word"]:List Str).Nodup:=by decide+kernel
 refine fQ (N:=["size","filling","count","number","word"]) (ps:=["size","filling"]) (k:=1) F ⟨rfl,rfl,rfl,nd,rfl,by decide+kernel,by decide+kernel⟩ hm (fun _ _ _ _ _ _ us hl=>match us,hl with | [_,_],_=>rfl) fun cdv A outer s H E hr ds r hl c=> ?_
 obtain ⟨p,ws,rfl,h0,h1,rfl⟩:=c
 have b1: -(2^64)<(2:Int)^p.1.toNat∧(2:Int)^p.1.toNat<2^64:=by
  have h3:p.1.toNat≤60:=by omega
  have h4:2^p.1.toNat≤2^60:=qV (by decide) h3; have h5:(2:Int)^p.1.toNat=((2^p.1.toNat:Nat):Int):=by push_cast; rfl
  rw [h5]; have h6:(2:Nat)^60=1152921504606846976:=by decide
  rw [h6] at h4; generalize 2^p.1.toNat=q at h4 ⊢; omega
 refine aJ (dG 2 nd rfl (Or.inl rfl) (cU (ds:=[dI p]) GC hr rfl (aH (aE 0 rfl (pv 0)) bD) ⟨p,rfl,h0,h1,rfl⟩ trivial rfl) ?_); refine aJ (dG 3 nd rfl (Or.inl rfl) bF ?_); refine aJ (uY (ds:=ws.map D.int) (fun k=>[.val (dI p), .val (bT ws), .val (.int (2^p.1.toNat)), .val (.int (uE (2^p.1.toNat) (ws.take k))), .un]) (fun k=>[.val (dI p), .val (bT ws), .val (.int (2^p.1.toNat)), .val (.int (uE (2^p.1.toNat) (ws.take k))), .val (.int (ws.getD k 0))]) (lD (aE 1 rfl (pv 1))) ⟨.inr rfl, .inr rfl, .inr rfl, .inr rfl, .inr rfl,trivial⟩ (fun k d hd=> ?_) (fun k d hd=> ?_) ?_)
 ·obtain ⟨_,rfl⟩:=ints_get hd; exact fM 4 (dR (i:=4) nd rfl (Or.inl rfl))
 ·obtain ⟨hk,rfl⟩:=ints_get hd
  have et:ws.take (k+1)=ws.take k++[ws.getD k 0]:=by rw [gF]; simp [cY,hk]
  refine bP (dG 3 nd rfl (Or.inl rfl) (gQ iL (dX iY (aE 3 rfl (pv 3)) (aE 2 rfl (pv 2)) (mul64 b1.1 b1.2)) (aE 4 rfl (pv 4))) ?_); refine ⟨.inr rfl, .inr rfl, .inr rfl, .inr ?_, .inl rfl,trivial⟩; rw [et]; unfold uE; rw [nX]; rfl
 ·refine bP (cJ (aE 3 rfl (pv 3)) trivial ?_); show R.val _=R.val _; rw [aG,gB]
noncomputable def CItself:List D→R→Prop:=fun ds r=>∃ (k:Nat) (m a:Int),ds=[.str (nm k), .int m, .int a]∧7≤k∧k<10∧0<m∧r= .val (.int (selfW k m a))
theorem ok_itself (F:Fun K "word_by_itself" "word_by_itself" rR f fd) (hm:mg "word_by_itself"=some (.ref f)):bZ P w K mg base "word_by_itself" 1 3 CItself:=by
 have nd:(["name","count","word"]:List Str).Nodup:=by decide+kernel
 refine fQ (N:=["name","count","word"]) (ps:=["name","count","word"]) (k:=0) F ⟨rfl,rfl,rfl,nd,rfl,by decide+kernel,by decide+kernel⟩ hm (fun _ _ _ _ _ _ us hl=>match us,hl with | [_,_,_],_=>rfl) fun cdv A outer s H E hr ds r hl c=> ?_
 obtain ⟨k,m,a,rfl,h7,h10,hm0,rfl⟩:=c; refine aJ (iK (k:=decide (k=7)) (dO (aE 0 rfl (pv 0)) eI rfl rfl rfl (zK k h10)) (fun h=> ?_) fun h=>cX ?_)
 ·have:k=7:=by simpa using h
  subst this; exact bP (cJ (gQ qS (gQ qS (aE 1 rfl (pv 1)) bF) (aE 2 rfl (pv 2))) trivial rfl)
 have n7:¬ k=7:=by simpa using h
 refine aJ (iK (k:=decide (k=8)) (dO (aE 0 rfl (pv 0)) eI rfl rfl rfl (nm_up k h10)) (fun h=> ?_) fun h=>cX ?_)
 ·have:k=8:=by simpa using h
  subst this; exact bP (cJ (dX gO (dX iY (aE 2 rfl (pv 2)) bF (mul64 (by decide) (by decide))) (aE 1 rfl (pv 1)) hm0) trivial rfl)
 have n8:¬ k=8:=by simpa using h
 have:k=9:=by omega
 subst this; exact bP (cJ (dX op_fdiv (aE 2 rfl (pv 2)) bF ⟨by decide,by decide⟩) trivial rfl)
noncomputable def CAnother:List D→R→Prop:=fun ds r=>∃ (k:Nat) (m a c:Int),ds=[.str (nm k), .int m, .int a, .int c]∧k<6∧0<m∧r= .val (.int (zF k m a c))
theorem ok_another (F:Fun K "word_by_another" "word_by_another" pD f fd) (hm:mg "word_by_another"=some (.ref f)):bZ P w K mg base "word_by_another" 1 4 CAnother:=by
 have nd:(["name","count","word","other"]:List Str).Nodup:=by decide+kernel
 refine fQ (N:=["name","count","word","other"]) (ps:=["name","count","word","other"]) (k:=0) F ⟨rfl,rfl,rfl,nd,rfl,by decide+kernel,by decide+kernel⟩ hm (fun _ _ _ _ _ _ us hl=>match us,hl with | [_,_,_,_],_=>rfl) fun cdv A outer s H E hr ds r hl c=> ?_
 obtain ⟨k,m,a,c,rfl,h6,hm0,rfl⟩:=c; have h10:k<10:=by omega
 refine aJ (iK (k:=decide (k=0)) (dO (aE 0 rfl (pv 0)) eI rfl rfl rfl (nm_and k h10)) (fun h=> ?_) fun h=>cX ?_)
 ·have:k=0:=by simpa using h
  subst this; exact bP (cJ (gQ op_and (aE 2 rfl (pv 2)) (aE 3 rfl (pv 3))) trivial rfl)
 have n0:¬ k=0:=by simpa using h
 refine aJ (iK (k:=decide (k=1)) (dO (aE 0 rfl (pv 0)) eI rfl rfl rfl (nm_or k h10)) (fun h=> ?_) fun h=>cX ?_)
 ·have:k=1:=by simpa using h
  subst this; exact bP (cJ (gQ op_or (aE 2 rfl (pv 2)) (aE 3 rfl (pv 3))) trivial rfl)
 have n1:¬ k=1:=by simpa using h
 refine aJ (iK (k:=decide (k=2)) (dO (aE 0 rfl (pv 0)) eI rfl rfl rfl (nm_xor k h10)) (fun h=> ?_) fun h=>cX ?_)
 ·have:k=2:=by simpa using h
  subst this; exact bP (cJ (gQ op_xor (aE 2 rfl (pv 2)) (aE 3 rfl (pv 3))) trivial rfl)
 have n2:¬ k=2:=by simpa using h
 refine aJ (iK (k:=decide (k=3)) (dO (aE 0 rfl (pv 0)) eI rfl rfl rfl (nm_add k h10)) (fun h=> ?_) fun h=>cX ?_)
 ·have:k=3:=by simpa using h
  subst this; exact bP (cJ (dX gO (gQ iL (aE 2 rfl (pv 2)) (aE 3 rfl (pv 3))) (aE 1 rfl (pv 1)) hm0) trivial rfl)
 have n3:¬ k=3:=by simpa using h
 refine aJ (iK (k:=decide (k=4)) (dO (aE 0 rfl (pv 0)) eI rfl rfl rfl (zN k h10)) (fun h=> ?_) fun h=>cX ?_)
 ·have:k=4:=by simpa using h
  subst this; exact bP (cJ (dX gO (gQ qS (aE 2 rfl (pv 2)) (aE 3 rfl (pv 3))) (aE 1 rfl (pv 1)) hm0) trivial rfl)
 have n4:¬ k=4:=by simpa using h
 have:k=5:=by omega
 subst this; exact bP (cJ (aE 3 rfl (pv 3)) trivial rfl)
structure StOk (p:Int × Int) (k:Nat) (i j n:Int) (ws:List Int):Prop where
 sz:p∈dH
 k10:k<10
 i0:0≤i∧i<p.2
 j0:0≤j∧j<p.2
 n0:0≤n∧n<((2^p.1.toNat:Nat):Int)
 len:ws.length=p.2.toNat
 wd:∀w∈ws,0≤w∧w<((2^p.1.toNat:Nat):Int)
noncomputable def nwOf (p:Int × Int) (k:Nat) (i j n:Int) (ws:List Int):Int:=newW k ((2^p.1.toNat:Nat):Int) (ws.getD i.toNat 0) (ws.getD j.toNat 0) n
noncomputable def CNewWord:List D→R→Prop:=fun ds r=>∃p k i j n ws,StOk p k i j n ws∧ds=[dI p,iE k i j n,bT ws]∧r= .val (.int (nwOf p k i j n ws))
theorem pw_pos (n:Nat):(0:Int)<((2^n:Nat):Int):=by have:0<2^n:=Nat.pow_pos (by decide); generalize 2^n=q at this ⊢; omega
theorem at_int {ws:List Int} {i:Int} {n:Nat} (h:ws.length=n) (h1:i<(n:Int)) (h0:0≤i):(ws.map D.int)[i.toNat]? =some (.int (ws.getD i.toNat 0)):=by
 have:i.toNat<ws.length:=by omega
 simp [cY,this]
theorem ok_newword (F:Fun K "new_word" "new_word" pF f fd) (byself:∃ad,mg "BY_ITSELF"=some (.ref ad)∧∀H:Hp,SqT K H ad [V.str "not",V.str "up",V.str "down"]) (hm:mg "new_word"=some (.ref f)) (GC:bZ P w K mg base "word_count" 1 1 CCount) (GI:bZ P w K mg base "word_by_itself" 1 3 CItself) (GA:bZ P w K mg base "word_by_another" 1 4 CAnother):bZ P w K mg base "new_word" 2 3 CNewWord:=by
 have nd:(["size","step","filling","name","word"]:List Str).Nodup:=by decide+kernel
 refine fQ (N:=["size","step","filling","name","word"]) (ps:=["size","step","filling"]) (k:=1) F ⟨rfl,rfl,rfl,nd,rfl,by decide+kernel,by decide+kernel⟩ hm (fun _ _ _ _ _ _ us hl=>match us,hl with | [_,_,_],_=>rfl) fun cdv A outer s H E hr ds r hl c=> ?_
 obtain ⟨p,k,i,j,n,ws,O,rfl,rfl⟩:=c; obtain ⟨h1,h2,h3,h4,h5⟩:=sS p O.sz; have hm0:=pw_pos p.1.toNat; have ec:(2:Int)^p.1.toNat=((2^p.1.toNat:Nat):Int):=by push_cast; rfl
 have e2:p.2=((p.2.toNat:Nat):Int):=by omega
 obtain ⟨ad,hB,hq⟩:=byself; have ai:(ws.map D.int)[i.toNat]? =some (.int (ws.getD i.toNat 0)):=at_int O.len (by have:=O.i0.2; omega) O.i0.1; have aj:(ws.map D.int)[j.toNat]? =some (.int (ws.getD j.toNat 0)):=at_int O.len (by have:=O.j0.2; omega) O.j0.1
 by_cases k6:k<6
 ·have es:iE k i j n= .tup [.str (nm k), .int i, .int j]:=by unfold iE; rw [if_pos k6]
  rw [es]; refine aJ (dG 3 nd rfl (Or.inl rfl) (dS (n:=0) (aE 1 rfl (pv 1)) bF rfl fun _ _=>rfl) ?_); refine aJ (eJ (dO (aE 3 rfl (pv 3)) eI rfl rfl rfl (tG k O.k10)) (by simp; omega) (cX ?_)); refine aJ (dG 4 nd rfl (Or.inl rfl) (oN (i:=i) (aE 2 rfl (pv 2)) (dS (n:=1) (aE 1 rfl (pv 1)) bF rfl fun _ _=>rfl) O.i0.1 ai fun _ _=>rfl) ?_); refine aJ (eJ (ptd_inM rfl hB (fun H=>hq H) (aE 3 rfl (pv 3)) rfl rfl rfl) (by rw [nm_self k O.k10]; simp; omega) (cX ?_)); refine bP (cJ (cU (ds:=[.str (nm k), .int ((2^p.1.toNat:Nat):Int), .int (ws.getD i.toNat 0), .int (ws.getD j.toNat 0)]) GA hr rfl (aH (aE 3 rfl (pv 3)) (aH (PEd.cast (cU (ds:=[dI p]) GC hr rfl (aH (aE 0 rfl (pv 0)) bD) ⟨p,rfl,by omega,by omega,rfl⟩ trivial rfl) (by rw [ec])) (aH (aE 4 rfl (pv 4)) (aH (oN (i:=j) (aE 2 rfl (pv 2)) (dS (n:=2) (aE 1 rfl (pv 1)) bF rfl fun _ _=>rfl) O.j0.1 aj fun _ _=>rfl) bD)))) ⟨k,_,_,_,rfl,k6,hm0,rfl⟩ trivial rfl) trivial ?_); unfold nwOf newW; rw [if_neg (by omega),if_neg (by omega)]
 ·by_cases k6':k=6
  ·subst k6'; have es:iE 6 i j n= .tup [.str (nm 6), .int i, .int n]:=rfl; rw [es]; refine aJ (dG 3 nd rfl (Or.inl rfl) (dS (n:=0) (aE 1 rfl (pv 1)) bF rfl fun _ _=>rfl) ?_); refine aJ (iV (dO (aE 3 rfl (pv 3)) eI rfl rfl rfl (tG 6 O.k10)) rfl ?_); exact bP (cJ (dS (n:=2) (aE 1 rfl (pv 1)) bF rfl fun _ _=>rfl) trivial rfl)
  ·have es:iE k i j n= .tup [.str (nm k), .int i]:=by unfold iE; rw [if_neg k6,if_neg k6']
   rw [es]; refine aJ (dG 3 nd rfl (Or.inl rfl) (dS (n:=0) (aE 1 rfl (pv 1)) bF rfl fun _ _=>rfl) ?_); refine aJ (eJ (dO (aE 3 rfl (pv 3)) eI rfl rfl rfl (tG k O.k10)) (by simp; omega) (cX ?_)); refine aJ (dG 4 nd rfl (Or.inl rfl) (oN (i:=i) (aE 2 rfl (pv 2)) (dS (n:=1) (aE 1 rfl (pv 1)) bF rfl fun _ _=>rfl) O.i0.1 ai fun _ _=>rfl) ?_); refine aJ (iV (ptd_inM rfl hB (fun H=>hq H) (aE 3 rfl (pv 3)) rfl rfl rfl) (by rw [nm_self k O.k10]; simp; omega) ?_); refine bP (cJ (cU (ds:=[.str (nm k), .int ((2^p.1.toNat:Nat):Int), .int (ws.getD i.toNat 0)]) GI hr rfl (aH (aE 3 rfl (pv 3)) (aH (PEd.cast (cU (ds:=[dI p]) GC hr rfl (aH (aE 0 rfl (pv 0)) bD) ⟨p,rfl,by omega,by omega,rfl⟩ trivial rfl) (by rw [ec])) (aH (aE 4 rfl (pv 4)) bD))) ⟨k,_,_,rfl,by omega,O.k10,hm0,rfl⟩ trivial rfl) trivial ?_); unfold nwOf newW; rw [if_neg k6',if_pos (by omega)]
noncomputable def CWritten:List D→R→Prop:=fun ds r=>∃k i j n,ds=[iE k i j n]∧r= .val (.int i)
theorem stp_one (k:Nat) (i j n:Int):∃es,iE k i j n= .tup (.str (nm k):: .int i::es):=by
 unfold iE
 split
 ·exact ⟨_,rfl⟩
 ·split
  ·exact ⟨_,rfl⟩
  ·exact ⟨_,rfl⟩
theorem ok_written (F:Fun K "written_box" "written_box" oY f fd) (hm:mg "written_box"=some (.ref f)):bZ P w K mg base "written_box" 1 1 CWritten:=by
 have nd:(["step"]:List Str).Nodup:=by decide+kernel
 refine fQ (N:=["step"]) (ps:=["step"]) (k:=0) F ⟨rfl,rfl,rfl,nd,rfl,by decide+kernel,by decide+kernel⟩ hm (fun _ _ _ _ _ _ us hl=>match us,hl with | [_],_=>rfl) fun cdv A outer s H E hr ds r hl c=> ?_
 obtain ⟨k,i,j,n,rfl,rfl⟩:=c; obtain ⟨es,e⟩:=stp_one k i j n; rw [e]; exact bP (cJ (dS (n:=1) (aE 0 rfl (pv 0)) bF rfl fun _ _=>rfl) trivial rfl)
noncomputable def onOf (p:Int × Int) (k:Nat) (i j n:Int) (ws:List Int):List Int:=ws.set i.toNat (nwOf p k i j n ws)
noncomputable def CStepOn:List D→R→Prop:=fun ds r=>∃p k i j n ws,StOk p k i j n ws∧ds=[dI p,iE k i j n,bT ws]∧r= .val (bT (onOf p k i j n ws))
theorem tQ (ws:List Int) {i:Nat} (h:i<ws.length):DL.cutD (ws.map D.int) none (some (i:Int))=(ws.take i).map D.int:=by
 unfold DL.cutD; have h1:HT.sIx (ws.map D.int).length 0 none=0:=rfl
 have h2:HT.sIx (ws.map D.int).length (ws.map D.int).length (some (i:Int))=i:=by rw [HT.sIx_nat,aG]; omega
 rw [h1,h2,oA]; simp
theorem qZ (ws:List Int) {i:Nat} (h:i<ws.length):DL.cutD (ws.map D.int) (some ((i:Int)+1)) none=(ws.drop (i+1)).map D.int:=by
 unfold DL.cutD; have e:((i:Int)+1)=((i+1:Nat):Int):=by push_cast; rfl
 have h1:HT.sIx (ws.map D.int).length 0 (some ((i:Int)+1))=i+1:=by rw [e,HT.sIx_nat,aG]; omega
 have h2:HT.sIx (ws.map D.int).length (ws.map D.int).length none=ws.length:=by rw [HT.sIx_none,aG]
 rw [h1,h2,sK,iI (by rw [lP,aG]; omega)]
theorem ok_stepon (F:Fun K "step_on" "step_on" sJ f fd) (hm:mg "step_on"=some (.ref f)) (GB:bZ P w K mg base "written_box" 1 1 CWritten) (GN:bZ P w K mg base "new_word" 2 3 CNewWord):bZ P w K mg base "step_on" 3 3 CStepOn:=by
 have nd:(["size","step","filling","box"]:List Str).Nodup:=by decide+kernel
 refine fQ (N:=["size","step","filling","box"]) (ps:=["size","step","filling"]) (k:=2) F ⟨rfl,rfl,rfl,nd,rfl,by decide+kernel,by decide+kernel⟩ hm (fun _ _ _ _ _ _ us hl=>match us,hl with | [_,_,_],_=>rfl) fun cdv A outer s H E hr ds r hl c=> ?_
 obtain ⟨p,k,i,j,n,ws,O,rfl,rfl⟩:=c; obtain ⟨h1,h2,h3,h4,h5⟩:=sS p O.sz; have hr1:=hr.mono (show 1≤2 by decide); have li:i.toNat<ws.length:=by have:=O.i0; rw [O.len]; omega
 have ei:i=((i.toNat:Nat):Int):=by have:=O.i0; omega
 have l6:ws.length≤6:=by rw [O.len]; omega
 refine aJ (dG (d:= .int ((i.toNat:Nat):Int)) 3 nd rfl (Or.inl rfl) (PEd.cast (cU (ds:=[iE k i j n]) GB hr1 rfl (aH (aE 1 rfl (pv 1)) bD) ⟨k,i,j,n,rfl,rfl⟩ trivial rfl) (by rw [← ei])) ?_); refine bP (cJ (PEd.cast (mV (mV (pd_slT (ol:=none) (oh:=some ((i.toNat:Nat):Int)) (aE 2 rfl (pv 2)) trivial (aE 3 rfl (pv 3)) ?_) (gA (ds:=[.int (nwOf p k i j n ws)]) (aH (cU (ds:=[dI p,iE k i j n,bT ws]) GN hr rfl (aH (aE 0 rfl (pv 0)) (aH (aE 1 rfl (pv 1)) (aH (aE 2 rfl (pv 2)) bD))) ⟨p,k,i,j,n,ws,O,rfl,rfl⟩ trivial rfl) bD) (aO rfl)) ?_) (pd_slT (ol:=some (((i.toNat:Nat):Int)+1)) (oh:=none) (aE 2 rfl (pv 2)) (gQ iL (aE 3 rfl (pv 3)) bF) trivial ?_) ?_) ?_) trivial rfl)
 ·rw [HT.sIx_nat,aG]; omega
 ·rw [tQ ws li]; simp only [aG,dU,cM,hG]; omega
 ·have e:(((i.toNat:Nat):Int)+1)=((i.toNat+1:Nat):Int):=by push_cast; rfl
  rw [e,HT.sIx_nat,aG]; omega
 ·rw [tQ ws li,qZ ws li]; simp only [bK,aG,dU,lP,cM,hG]; omega
 ·rw [tQ ws li,qZ ws li]; unfold bT onOf; rw [tZ,if_pos li]; simp
theorem onQ_on {p:Int × Int} {q:SQ} {ws:List Int} (O:qP p q) (G:Fil p ws):StOk p q.1 q.2.1 q.2.2.1 q.2.2.2 ws:=⟨O.sz,O.k10,O.i0,O.j0,O.n0,G.len,G.wd⟩
theorem ok_nos45 (F:Fun K "numbers_of_step" "numbers_of_step" sNos f fd) (ztuple:mg "tuple"=none) (hm:mg "numbers_of_step"=some (.ref f)) (GN:bZ P w K mg base "number_of" 2 2 CNum) (GS:bZ P w K mg base "step_on" 3 3 CStepOn) (GF:bZ P w K mg base "fillings" 2 1 CFill):bZ P w K mg base "numbers_of_step" 4 2 CNos:=by
 have nd:(["size","step"]:List Str).Nodup:=by decide+kernel
 have nd2:(["filling","size","step"]:List Str).Nodup:=by decide+kernel
 refine fQ (N:=["size","step"]) (ps:=["size","step"]) (k:=3) F ⟨rfl,rfl,rfl,nd,rfl,by decide+kernel,by decide+kernel⟩ hm (fun _ _ _ _ _ _ us hl=>match us,hl with | [_,_],_=>rfl) fun cdv A outer s H E hr ds r hl c=> ?_
 obtain ⟨p,q,hp,O,rfl,rfl⟩:=c; have hr2:=hr.mono (show 2≤3 by decide); have f9:(eV p).length≤64:=pV hp; obtain ⟨h1,h2,h3,h4,h5⟩:=sS p hp
 have ec:(((eV p).map bT).filter fun _=>true).map (fun d=>D.int ((sN p (onQ p q (nE d)):Nat):Int))=cG (jV p q):=by
  rw [eH.mpr (fun _ _=>rfl)]; unfold cG jV; rw [bM,bM]; refine cR fun g _=> ?_
  show D.int ((sN p (onQ p q (nE (bT g))):Nat):Int)=_; rw [kR]; rfl
 refine bP (cJ (kU rfl ztuple (PEd.bor (PEd.val (PEd.cast (jL (ds:=(eV p).map bT) (N:=["filling","size","step"]) (M:=["size","step"]) (cap:=[none,some 0,some 1]) (sc:=aV sNos) (Tb:=fun d=>[.val d, .val (dI p), .val (sqD q)]) (fun _=>true) (fun d=>D.int ((sN p (onQ p q (nE d)):Nat):Int)) (jI (PEd.val (cU (ds:=[dI p]) GF hr2 rfl (aH (aE 0 rfl (pv 0)) bD) ⟨p,hp,rfl,rfl⟩ trivial rfl))) (by rw [aG]; omega) rfl (by decide+kernel) rfl (by decide+kernel) rfl (fun cl C fp s H d hd=>fM 0 (dR (i:=0) nd2 rfl (Or.inl rfl))) (fun d hd=>⟨.inl rfl, .inr rfl, .inr rfl,trivial⟩) (fun cl C fp s H d hd=> .inl ⟨rfl,rfl⟩) fun cl C2 fp s H d hd _=> ?_) (by rw [ec]))))) trivial rfl); obtain ⟨g,hg,rfl⟩:=wY hd; rw [kR]; have G:=uX hp hg; have e:=(num_ok hp (zZ O G)).1; exact cU (ds:=[dI p,bT (onQ p q g)]) GN hr2 rfl (aH (aE 1 rfl (pv 1)) (aH (cU (ds:=[dI p,sqD q,bT g]) GS hr rfl (aH (aE 1 rfl (pv 1)) (aH (aE 2 rfl (pv 2)) (aH (aE 0 rfl (pv 0)) bD))) ⟨p,_,_,_,_,g,onQ_on O G,rfl,rfl⟩ trivial rfl) bD)) ⟨p,_,rfl,by omega,by omega,by rw [e]⟩ trivial rfl
theorem ok_moves45 (F:Fun K "moves_of" "moves_of" sX f fd) (hm:mg "moves_of"=some (.ref f)) (GN:bZ P w K mg base "numbers_of_step" 4 2 CNos):bZ P w K mg base "moves_of" 5 2 CMoves:=by
 have nd:(["size","stock"]:List Str).Nodup:=by decide+kernel
 have nd2:(["step","price","size"]:List Str).Nodup:=by decide+kernel
 refine fQ (N:=["size","stock"]) (ps:=["size","stock"]) (k:=4) F ⟨rfl,rfl,rfl,nd,rfl,by decide+kernel,by decide+kernel⟩ hm (fun _ _ _ _ _ _ us hl=>match us,hl with | [_,_],_=>rfl) fun cdv A outer s H E hr ds r hl c=> ?_
 obtain ⟨p,L,hp,S,dn,rfl,rfl⟩:=c; have l8:=S.le
 have ec:((L.map skD).filter fun _=>true).map (fun d=>mvD p (wR L d))=L.map (mvD p):=by
  rw [eH.mpr (fun _ _=>rfl),bM]; refine cR fun s hs=> ?_
  show mvD p (wR L (skD s))=_; rw [wN dn hs]
 refine bP (cJ (PEd.cast (jL (ds:=L.map skD) (N:=["step","price","size"]) (M:=["size","stock"]) (cap:=[none,none,some 0]) (sc:=aV sX) (Tb:=fun d=>[.val (sqD (wR L d).1), .val (.int (wR L d).2), .val (dI p)]) (fun _=>true) (fun d=>mvD p (wR L d)) (jI (aE 1 rfl (pv 1))) (by rw [aG]; omega) rfl (by decide+kernel) rfl (by decide+kernel) rfl (fun cl C fp s H d hd=> ?_) (fun d hd=>⟨.inl rfl, .inl rfl, .inr rfl,trivial⟩) (fun cl C fp s H d hd=> .inl ⟨rfl,rfl⟩) fun cl C2 fp s H d hd _=> ?_) (by rw [ec])) trivial rfl)
 ·obtain ⟨z,hz,rfl⟩:=bH.mp hd; rw [wN dn hz]; exact nA (ds:=[sqD z.1, .int z.2]) (js:=[0,1]) rfl (gJ (dR (i:=0) nd2 rfl (Or.inl rfl)) (gJ (dR (i:=1) nd2 rfl (Or.inl rfl)) mT)) rfl rfl
 ·obtain ⟨z,hz,rfl⟩:=bH.mp hd; rw [wN dn hz]; exact gA (ds:=[.int z.2, .tup (cG (jV p z.1))]) (aH (aE 1 rfl (pv 1)) (aH (cU (ds:=[dI p,sqD z.1]) GN hr rfl (aH (aE 2 rfl (pv 2)) (aH (aE 0 rfl (pv 0)) bD)) ⟨p,z.1,hp,(S.st z hz).1,rfl,rfl⟩ trivial rfl) bD)) (aO rfl)
theorem ok_nbeh45 (F:Fun K "numbers_behind" "numbers_behind" xX f fd) (ztuple:mg "tuple"=none) (hm:mg "numbers_behind"=some (.ref f)):bZ P w K mg base "numbers_behind" 1 2 CNbeh:=by
 have nd:(["one","other"]:List Str).Nodup:=by decide+kernel
 have nd2:(["number","other"]:List Str).Nodup:=by decide+kernel
 refine fQ (N:=["one","other"]) (ps:=["one","other"]) (k:=0) F ⟨rfl,rfl,rfl,nd,rfl,by decide+kernel,by decide+kernel⟩ hm (fun _ _ _ _ _ _ us hl=>match us,hl with | [_,_],_=>rfl) fun cdv A outer s H E hr ds r hl c=> ?_
 obtain ⟨one,other,h1,h2,rfl,rfl⟩:=c
 have ec:((cG one).filter fun _=>true).map (fun d=>match d with | .int i=>D.int ((other.getD i.toNat 0:Nat):Int) | _=> .non)=cG (jG other one):=by rw [eH.mpr (fun _ _=>rfl)]; unfold cG jG; rw [bM,bM]; rfl
 refine bP (cJ (kU rfl ztuple (PEd.bor (PEd.val (PEd.cast (jL (ds:=cG one) (N:=["number","other"]) (M:=["one","other"]) (cap:=[none,some 1]) (sc:=aV xX) (Tb:=fun d=>[.val d, .val (.tup (cG other))]) (fun _=>true) (fun d=>match d with | .int i=>D.int ((other.getD i.toNat 0:Nat):Int) | _=> .non) (lD (aE 0 rfl (pv 0))) (by rw [pI]; omega) rfl (by decide+kernel) rfl (by decide+kernel) rfl (fun cl C fp s H d hd=>fM 0 (dR (i:=0) nd2 rfl (Or.inl rfl))) (fun d hd=>⟨.inl rfl, .inr rfl,trivial⟩) (fun cl C fp s H d hd=> .inl ⟨rfl,rfl⟩) fun cl C2 fp s H d hd _=> ?_) (by rw [ec]))))) trivial rfl); obtain ⟨i,hi,rfl⟩:=bH.mp hd; exact dS (n:=i) (aE 1 rfl (pv 1)) (aE 0 rfl (pv 0)) (nat_at (h2 i hi)) fun _ _=>rfl
theorem ok_put41 (F:Fun K "put_longer_rows" "put_longer_rows" sPut f fd) (zenumerate:mg "enumerate"=none) (hm:mg "put_longer_rows"=some (.ref f)) (GB:bZ P w K mg base "numbers_behind" 1 2 CNbeh):uS P w K (wtL P w K) mg base "put_longer_rows" 2 6 CPut:=by
 have nd:(["waiting","moves","bound","rank","row","numbers","place","move","price","longer"]:List Str).Nodup:=by decide+kernel
 refine def_okL (Z:=wtL P w K) (N:=["waiting","moves","bound","rank","row","numbers","place","move","price","longer"]) (ps:=["waiting","moves","bound","rank","row","numbers"]) (k:=1) F ⟨rfl,rfl,rfl,nd,rfl,by decide+kernel,by decide+kernel⟩ hm (fun _ _ _ _ _ _ us hl=>match us,hl with | [_,_,_,_,_,_],_=>rfl) (fun cdv A outer s H E B hB hr a ds post hl c=> ?_) (wtL_soft P w K); obtain ⟨p,L,b,r,row,nb,hp,L9,hnb,r9,ndT,hT,rfl,rfl⟩:=c; have hu:(A.deeper (envOfC "put_longer_rows" (aV sPut) s.heap.objs.size f cdv)).units+4<cLine:=by have:=hr.un; omega
 have f9:(eV p).length≤64:=pV hp; refine bP (hW (ds:=vN (L.map (mvD p))) (fun t sd=>∃a':Wt,a'.l=a.l∧a'.T=lgQ p L b r row nb t a.T∧sd=[wtS P w K a', .val (.lst (L.map (mvD p))), .val (.int b), .val (.tup [.int r.1, .int r.2]), .val (.tup (cG row)), .val (.tup (cG nb)), .un, .un, .un, .un]) (pid_enum rfl zenumerate (aE 1 rfl (pv 1))) ⟨_,Le.refl _,a,rfl,rfl,rfl⟩ (fun t d sdt hd ht=> ?_) fun sdn hn=> ?_)
 ·obtain ⟨x,hx,rfl⟩:=xT hd; obtain ⟨a',el,eT,rfl⟩:=ht
  have tl:t<L.length:=by have:=(aP.mp hx).1; simpa using this
  have ex:x=mvD p (L.getD t default):=by rw [bG,fV tl] at hx; rw [← dN.inj hx]; simp [cY,tl]
  subst ex; have es:lgQ p L b r row nb (t+1) a.T=if r.1+(L.getD t default).2≤b then kM (lgQ p L b r row nb t a.T) (r.1+(L.getD t default).2,r.2+1) (nP (row++[t],jG (jV p (L.getD t default).1) nb)) else lgQ p L b r row nb t a.T:=rfl
  have ndt:=lg_nd (p:=p) (L:=L) (b:=b) (r:=r) (row:=row) (nb:=nb) ndT t; have tt:=lg_tot (p:=p) (L:=L) (b:=b) (r:=r) (row:=row) (nb:=nb) (T:=a.T) t; rw [← eT] at es ndt tt; obtain ⟨pl0,pl1⟩:=hnb; generalize L.getD t default=m at es; refine ⟨[wtS P w K a', .val (.lst (L.map (mvD p))), .val (.int b), .val (.tup [.int r.1, .int r.2]), .val (.tup (cG row)), .val (.tup (cG nb)), .val (.int (t:Int)), .val (mvD p m), .un, .un],nA (js:=[6,7]) rfl (gJ (dR (i:=6) nd rfl (Or.inl rfl)) (gJ (dR (i:=7) nd rfl (Or.inl rfl)) mT)) rfl rfl, ?_⟩; refine aJ (dG (d:= .int (r.1+m.2)) 8 nd rfl (Or.inl rfl) (gQ iL (dS (n:=0) (d:= .int r.1) (aE 3 rfl (pv 3)) bF rfl fun _ _=>rfl) (dS (n:=0) (d:= .int m.2) (aE 7 rfl (pv 7)) bF rfl fun _ _=>rfl)) ?_); refine bP (iK (k:=decide (r.1+m.2≤b)) (oE op_le (aE 8 rfl (pv 8)) (aE 2 rfl (pv 2)) (iU _)) (fun q=> ?_) fun q=>cX ?_)
  ·rw [if_pos (of_decide_eq_true q)] at es; have e1:cG row++[.int (t:Int)]=cG (row++[t]):=by unfold cG; rw [bR]; rfl
   refine aJ (dG (d:=p2D (nP (row++[t],jG (jV p m.1) nb))) 9 nd rfl (Or.inl rfl) (PEd.cast (gA (ds:=[.tup (cG (row++[t])), .tup (cG (jG (jV p m.1) nb))]) (aH (PEd.cast (mV (d1:=cG row) (d2:=[.int (t:Int)]) (aE 4 rfl (pv 4)) (gA (ds:=[.int (t:Int)]) (aH (aE 6 rfl (pv 6)) bD) (aO rfl)) (by unfold cG; rw [aG]; show _+1≤1000; omega)) (by rw [e1])) (aH (cU (ds:=[.tup (cG nb), .tup (cG (jV p m.1))]) (r:= .val (.tup (cG (jG (jV p m.1) nb)))) GB hr rfl (aH (aE 5 rfl (pv 5)) (aH (dS (n:=1) (d:= .tup (cG (jV p m.1))) (aE 7 rfl (pv 7)) bF rfl fun _ _=>rfl) bD)) ⟨nb,jV p m.1,by omega,fun i hi=>by rw [nos_len]; exact pl1 i hi,rfl,rfl⟩ trivial rfl) bD)) (aO rfl)) (by rw [nP_D])) ?_); generalize nP (row++[t],jG (jV p m.1) nb)=y at es; refine bP (psd_sdApp (k:=rkK (r.1+m.2,r.2+1)) (ks:=wtK a'.T) (ls:=a'.ls) (dss:=wtD a'.T) (d:=p2D y) 0 (by show (A.deeper _).units+1<cLine; omega) rfl (pv 0) (PEd.cast (gA (ds:=[.int (r.1+m.2), .int (r.2+1)]) (aH (aE 8 rfl (pv 8)) (aH (gQ iL (dS (n:=1) (d:= .int r.2) (aE 3 rfl (pv 3)) bF rfl fun _ _=>rfl) bF) bD)) (aO rfl)) rfl) (fun z=>aE 9 rfl (pv 9)) (by have:=tot_len a'.T; unfold wtD; rw [aG]; omega) (fun ds hd=>by have:=tot_mem ds hd; omega) (fun n ds hk hd=> ?_) fun hk a9=> ?_)
   ·obtain ⟨k1,k2⟩:=vQ y ndt hk hd; refine ⟨[wtS P w K ⟨a'.l,a'.ls,kM a'.T (r.1+m.2,r.2+1) y⟩, .val (.lst (L.map (mvD p))), .val (.int b), .val (.tup [.int r.1, .int r.2]), .val (.tup (cG row)), .val (.tup (cG nb)), .un, .un, .un, .un],⟨.inr ?_, .inr rfl, .inr rfl, .inr rfl, .inr rfl, .inr rfl, .inl rfl, .inl rfl, .inl rfl, .inl rfl,trivial⟩,⟨a'.l,a'.ls,kM a'.T (r.1+m.2,r.2+1) y⟩,el,es.symm,rfl⟩; unfold wtS; rw [k1,k2]; rfl
   ·have k1:=wM y hk; refine ⟨[wtS P w K ⟨a'.l,a'.ls++[a9],kM a'.T (r.1+m.2,r.2+1) y⟩, .val (.lst (L.map (mvD p))), .val (.int b), .val (.tup [.int r.1, .int r.2]), .val (.tup (cG row)), .val (.tup (cG nb)), .un, .un, .un, .un],⟨.inr ?_, .inr rfl, .inr rfl, .inr rfl, .inr rfl, .inr rfl, .inl rfl, .inl rfl, .inl rfl, .inl rfl,trivial⟩,⟨a'.l,a'.ls++[a9],kM a'.T (r.1+m.2,r.2+1) y⟩,el,es.symm,rfl⟩; unfold wtS; rw [k1]; unfold wtK wtD; rw [bR,bR]; rfl
  ·rw [if_neg (of_decide_eq_false q)] at es; exact ⟨[wtS P w K a', .val (.lst (L.map (mvD p))), .val (.int b), .val (.tup [.int r.1, .int r.2]), .val (.tup (cG row)), .val (.tup (cG nb)), .un, .un, .un, .un],⟨.inr rfl, .inr rfl, .inr rfl, .inr rfl, .inr rfl, .inr rfl, .inl rfl, .inl rfl, .inl rfl, .inr rfl,trivial⟩,a',el,es.symm,rfl⟩
 ·obtain ⟨a',el,eT,rfl⟩:=hn; refine ⟨a',⟨el, ?_⟩,rfl⟩; rw [eT,sP,aG]
theorem ok_found41 (F:Fun K "found_rows" "found_rows" sFd f fd) (zlen:mg "len"=none) (zmin:mg "min"=none) (zlist:mg "list"=none) (zsorted:mg "sorted"=none) (hmt:∃t,mg "MOST_TABLES"=some (.int 500 t)) (hm:mg "found_rows"=some (.ref f)) (GP:uS P w K (wtL P w K) mg base "put_longer_rows" 2 6 CPut):bZ P w K mg base "found_rows" 3 3 CFnd41:=by
 obtain ⟨tm,hmt⟩:=hmt; have nd:(["moves","bound","start","waiting","known","found","rank","ready","row","numbers"]:List Str).Nodup:=by decide+kernel
 refine fQ (N:=["moves","bound","start","waiting","known","found","rank","ready","row","numbers"]) (ps:=["moves","bound","start"]) (k:=2) F ⟨rfl,rfl,rfl,nd,rfl,by decide+kernel,by decide+kernel⟩ hm (fun _ _ _ _ _ _ us hl=>match us,hl with | [_,_,_],_=>rfl) fun cdv A outer s H E hr ds r hl c=> ?_
 obtain ⟨p,L,b,U,hp,S0,FU,rfl,rfl⟩:=c; have hu8:(A.deeper (envOfC "found_rows" (aV sFd) s.heap.objs.size f cdv)).units+8<cLine:=by have:=hr.un; omega
 have hu4:(A.deeper (envOfC "found_rows" (aV sFd) s.heap.objs.size f cdv)).units+4<cLine:=by omega
 have hu2:(A.deeper (envOfC "found_rows" (aV sFd) s.heap.objs.size f cdv)).units+2<cLine:=by omega
 have hu1:(A.deeper (envOfC "found_rows" (aV sFd) s.heap.objs.size f cdv)).units+1<cLine:=by omega
 have hpr:=S0.pr; have l8:=S0.le; have u4:=FU.len; refine aJ (psd_dnewG 3 nd rfl (Or.inl rfl) fun l3=> ?_); refine byKey (K:=∀ls T,(fd0 p b).T=T→PSd _ [.val (.lst (L.map (mvD p))), .val (.int b), .val (.tup (cG (st0 p))),wtS P w K ⟨l3,ls,T⟩, .un, .un, .un, .un, .un, .un] _ _) (fun key=>aJ (iK (k:=decide (0≤b)) (oE op_ge (aE 1 rfl (pv 1)) bF (iU _)) (fun q=> ?_) fun q=>cX (key [] [] (if_neg (of_decide_eq_false q))))) fun ls T e0=> ?_
 ·refine bP (psd_putW (ds:=[p2D (nP ([],st0 p))]) 3 hu1 rfl (pv 3) (jN (ds:=[p2D (nP ([],st0 p))]) (aH (PEd.cast (gA (ds:=[.tup (cG []), .tup (cG (st0 p))]) (aH (gA (ds:=[]) bD (aO rfl)) (aH (aE 2 rfl (pv 2)) bD)) (aO rfl)) (by rw [nP_D])) bD) (aO rfl)) (fun z=>nomatch z) (aO rfl) fun a=> ?_); exact key [a] [((0,0),[nP ([],st0 p)])] (if_pos (of_decide_eq_true q))
 subst e0; refine aJ (wP (hkT P w) 4 nd rfl (Or.inl rfl) fun l4=> ?_); refine aJ (gM (ds:=[]) 5 nd rfl (Or.inl rfl) (jN (ds:=[]) bD (aO rfl)) fun l5=> ?_); refine aJ (psd_while (fun m sd=>∃S dn r ls,Wk p L b dn r [] S∧U.length<dn.length+m∧mJ p L b m S=mJ p L b 401 (fd0 p b)∧sd=[.val (.lst (L.map (mvD p))), .val (.int b), .val (.tup (cG (st0 p))),wtS P w K ⟨l3,ls,S.T⟩,oG (hkT P w) K l4 (S.kn.map nF) (S.kn.map fun _=> .bl true), .own l5 (S.fd.map fdD), .un, .un, .un, .un]) ⟨401,_,Le.refl _,fd0 p b,[],(0,0),ls,wk0 p L b,by simp; omega,rfl,rfl⟩ fun m sdm hw=> ?_); obtain ⟨S,dn,r,ls,W,hU,hR,rfl⟩:=hw; refine ⟨decide ((0:Int)<((wtK S.T).length:Int)),oE op_gt (pd_lenD 3 rfl zlen rfl (pv 3)) bF (iU _),fun q=> ?_,fun q=> ?_⟩
 ·have e:S.T=[]:=by have:=of_decide_eq_false q; unfold wtK at this; rw [aG] at this; exact eQ (by omega)
  have e2:mJ p L b m S=S:=by
   cases m with
   | zero=>rfl
   | succ m=>exact if_pos e
  have e3:bkF p L b=S.fd:=by unfold bkF; rw [← hR,e2]
  rw [e3]; exact bP (pK 5 rfl (pv 5) rfl)
 ·have hne:S.T≠[]:=fun z=>by rw [z] at q; cases q
  obtain ⟨t,ht,hm,tnd,tne,W1,eT,W2⟩:=W.turn hpr hne; obtain ⟨M,t',g1,g2,g3,g4,_⟩:=min_wt (X:=(lE CX0 P w K mg base ["moves","bound","start","waiting","known","found","rank","ready","row","numbers"] "found_rows" (aV sFd) f cdv A outer s H E).nox) hu4 hne; have et:t=t':=(dN.inj (g1.symm.trans ht)).symm; subst et
  have tl:t.2.length≤10000:=by have:=W.few FU; have h1:=(iH t.2).length_eq; have h2:=W1.few FU; omega
  refine aJ (dG (d:=rkD t.1) 6 nd rfl (Or.inl rfl) (pd_minD rfl zmin (PEd.bor (PEd.val (pd_listD 3 rfl zlist rfl (pv 3)))) M g2) ?_); refine aJ (psd_popS (ps:=t.2) (rk:=rkP t.2) (k:=rkK t.1) 3 7 (gG S.T) hu1 rfl zsorted rfl (pv 3) (PEd.cast (aE 6 rfl (pv 6)) rfl) g3 g4 (rkP_ok tnd tl hu8) nd rfl (Or.inl rfl) fun l7 qs qp qw=>mX 7 rfl ?_); have eq:=srtP_eq tnd qp qw; subst eq; have ek:wtK (S.T.eraseIdx (gG S.T))=(wtK S.T).eraseIdx (gG S.T):=by unfold wtK; rw [eE,eE,bR,oA,sK]
  have ed:wtD (S.T.eraseIdx (gG S.T))=(wtD S.T).eraseIdx (gG S.T):=by unfold wtD; rw [eE,eE,bR,oA,sK]
  have e5:odG P w K l3 ((wtK S.T).eraseIdx (gG S.T)) (ls.eraseIdx (gG S.T)) ((wtD S.T).eraseIdx (gG S.T))=wtS P w K ⟨l3,ls.eraseIdx (gG S.T),S.T.eraseIdx (gG S.T)⟩:=by unfold wtS; rw [ek,ed]
  refine psd_le (sd':=[.val (.lst (L.map (mvD p))), .val (.int b), .val (.tup (cG (st0 p))),wtS P w K ⟨l3,ls.eraseIdx (gG S.T),({S with T:=S.T.eraseIdx (gG S.T)}:FdS).T⟩,oG (hkT P w) K l4 (({S with T:=S.T.eraseIdx (gG S.T)}:FdS).kn.map nF) (({S with T:=S.T.eraseIdx (gG S.T)}:FdS).kn.map fun _=> .bl true), .own l5 (({S with T:=S.T.eraseIdx (gG S.T)}:FdS).fd.map fdD), .val (rkD t.1), .val (.lst ((jB t.2).map p2D)), .un, .un]) ⟨.inr rfl, .inr rfl, .inr rfl, .inr e5, .inr rfl, .inr rfl, .inr rfl, .inr rfl, .inr rfl, .inr rfl,trivial⟩ ?_
  have hR2:∃m',m=m'+1∧mJ p L b m' (fdT p L b S)=mJ p L b 401 (fd0 p b):=by
   cases m with
   | zero=>have:=W.few FU; omega
   | succ m'=>have e6:mJ p L b (m'+1) S=mJ p L b m' (fdT p L b S):=if_neg hne; exact ⟨m',rfl,by rw [← e6]; exact hR⟩
  obtain ⟨m',rfl,hR2⟩:=hR2
  have tpos:0<(jB t.2).length:=by rw [(iH t.2).length_eq]; exact jM.mpr tne
  rw [eT] at hR2 W2; clear hR e5 ek ed g1 g2 g3 g4 M qp qw eT; generalize ({S with T:=S.T.eraseIdx (gG S.T)}:FdS)=S1 at W1 W2 hR2; generalize ls.eraseIdx (gG S.T)=ls1; refine bP (hW (ds:=(jB t.2).map p2D) (fun j sd=>∃S' ls,S'=fdP p L b t.1 S1 ((jB t.2).take j)∧sd=[.val (.lst (L.map (mvD p))), .val (.int b), .val (.tup (cG (st0 p))),wtS P w K ⟨l3,ls,S'.T⟩,oG (hkT P w) K l4 (S'.kn.map nF) (S'.kn.map fun _=> .bl true), .own l5 (S'.fd.map fdD), .val (rkD t.1), .val (.lst ((jB t.2).map p2D)), .un, .un]) (jI (aE 7 rfl (pv 7))) ⟨_,Le.refl _,S1,ls1,rfl,rfl⟩ (fun j d sdj hd hj=> ?_) fun sdn hn=> ?_)
  ·obtain ⟨S',ls2,eS,rfl⟩:=hj; obtain ⟨y,hy,rfl,ey⟩:=lG hd; have jl:j<(jB t.2).length:=(aP.mp hy).1; have Wj:=W1.take hpr j (by omega); have Wj1:=W1.take hpr (j+1) (by omega); rw [ey,vM,← eS] at Wj1; rw [← eS] at Wj; have eS1:fdP p L b t.1 S1 ((jB t.2).take (j+1))=fdI p L b t.1 S' (unP y):=by rw [ey,vM,← eS]
   obtain ⟨row,rfl,ro,er,rb⟩:=W1.rs y (aY hy); rw [eS1]; rw [un_it] at Wj1 ⊢; have rU:row.length≤300:=FU.rl _ (FU.all _ ro (by rw [er] at rb; exact rb)); have nbo:=(xP hp (fun s hs=>(S0.st s hs).1) ro).1; have f1:=Wj.fdl FU; have f2:=Wj1.fdl FU; have tt:=Wj.tot FU; have okj:=Wj.ok
   have kl:S'.kn.length≤400:=by rw [okj.kn,aG]; exact f1
   have dy:p2D (itP p L row)= .tup [.tup (cG row), .tup (cG (nrQ p L row))]:=nP_D _; rw [dy]; clear Wj Wj1 eS1 ey hy hd eS dy; refine ⟨[.val (.lst (L.map (mvD p))), .val (.int b), .val (.tup (cG (st0 p))),wtS P w K ⟨l3,ls2,S'.T⟩,oG (hkT P w) K l4 (S'.kn.map nF) (S'.kn.map fun _=> .bl true), .own l5 (S'.fd.map fdD), .val (rkD t.1), .val (.lst ((jB t.2).map p2D)), .val (.tup (cG row)), .val (.tup (cG (nrQ p L row)))],nA (ds:=[.tup (cG row), .tup (cG (nrQ p L row))]) (js:=[8,9]) rfl (gJ (dR (i:=8) nd rfl (Or.inl rfl)) (gJ (dR (i:=9) nd rfl (Or.inl rfl)) mT)) rfl rfl, ?_⟩
   have inj:decide (nrQ p L row∈S'.kn)=true↔nF (nrQ p L row)∈S'.kn.map nF:=by
    rw [decide_eq_true_iff]
    constructor
    ·exact fun h=>bH.mpr ⟨_,h,rfl⟩
    ·intro h; obtain ⟨e,e1,e2⟩:=bH.mp h; rw [← natK_inj e2]; exact e1
   refine byKey (K:=∀S2 ls3,S2=fdI p L b t.1 S' (row,nrQ p L row)→PSd _ [.val (.lst (L.map (mvD p))), .val (.int b), .val (.tup (cG (st0 p))),wtS P w K ⟨l3,ls3,S2.T⟩,oG (hkT P w) K l4 (S2.kn.map nF) (S2.kn.map fun _=> .bl true), .own l5 (S2.fd.map fdD), .val (rkD t.1), .val (.lst ((jB t.2).map p2D)), .val (.tup (cG row)), .val (.tup (cG (nrQ p L row)))] _ _) (fun key=>aJ (iK (k:= !decide (nrQ p L row∈S'.kn)) (ptd_ninK (hk:=hkT P w) (k:=nF (nrQ p L row)) inj hu2 (PEd.cast (aE 9 rfl (pv 9)) (by rw [show (hkT P w).dat (nF (nrQ p L row))=tD (nF (nrQ p L row)) from rfl,natK_D])) (pdc_own 4 rfl (pv 4))) (fun q=> ?_) fun q=>cX (key S' ls2 (if_pos (by simpa using q)).symm))) fun S2 ls3 e2=> ?_
   ·have nk:nrQ p L row∉S'.kn:=by simpa using q
    refine aJ (wD (hk:=hkT P w) (k:=nF (nrQ p L row)) (d:= .bl true) 4 hu2 rfl (pv 4) pd_bl (PEd.cast (aE 9 rfl (pv 9)) (by rw [show (hkT P w).dat (nF (nrQ p L row))=tD (nF (nrQ p L row)) from rfl,natK_D])) (fun z=>nk (of_decide_eq_true (inj.mpr z))) (by rw [aG]; omega) ?_); refine aJ (qO (d:=fdD (t.1.1,row,nrQ p L row)) 5 rfl (pv 5) (gA (ds:=[.int t.1.1, .tup (cG row), .tup (cG (nrQ p L row))]) (aH (dS (n:=0) (d:= .int t.1.1) (aE 6 rfl (pv 6)) bF rfl fun _ _=>rfl) (aH (aE 8 rfl (pv 8)) (aH (aE 9 rfl (pv 9)) bD))) (aO rfl)) (by rw [aG]; omega) ?_); refine bP (psd_callL (Z:=wtL P w K) (a:=⟨l3,ls2,S'.T⟩) (ds:=[.lst (L.map (mvD p)), .int b, .tup [.int t.1.1, .int t.1.2], .tup (cG row), .tup (cG (nrQ p L row))]) 3 rfl (pv 3) GP hr rfl (aH (aE 0 rfl (pv 0)) (aH (aE 1 rfl (pv 1)) (aH (aE 6 rfl (pv 6)) (aH (aE 8 rfl (pv 8)) (aH (aE 9 rfl (pv 9)) bD))))) ⟨p,L,b,t.1,row,nrQ p L row,hp,by omega,nbo,by omega,okj.nk,by show tot S'.T+_≤_; omega,rfl,rfl⟩ (fun a' h=>h.1) rfl fun a' h=> ?_); obtain ⟨al,als,aT⟩:=a'; obtain ⟨h1,h2⟩:=h; have h1:al=l3:=h1; have h2:aT=lgQ p L b t.1 row (nrQ p L row) L.length S'.T:=h2; subst h1 h2; have k:=key ⟨lgQ p L b t.1 row (nrQ p L row) L.length S'.T,S'.kn++[nrQ p L row],S'.fd++[(t.1.1,row,nrQ p L row)]⟩ als (if_neg nk).symm; simp only [bR,bQ,fO] at k; exact k
   ·rw [← e2] at f2; refine bP (eJ (k:=decide ((500:Int)<(((S2.fd.map fdD).length:Nat):Int))) (oE op_gt (pO rfl zlen (oI 5 rfl (pv 5))) (pd_globI (i:=500) rfl hmt ⟨tm,rfl⟩) (iU _)) (decide_eq_false (by rw [aG]; omega)) (cX ?_)); exact ⟨[.val (.lst (L.map (mvD p))), .val (.int b), .val (.tup (cG (st0 p))),wtS P w K ⟨l3,ls3,S2.T⟩,oG (hkT P w) K l4 (S2.kn.map nF) (S2.kn.map fun _=> .bl true), .own l5 (S2.fd.map fdD), .val (rkD t.1), .val (.lst ((jB t.2).map p2D)), .un, .un],⟨.inr rfl, .inr rfl, .inr rfl, .inr rfl, .inr rfl, .inr rfl, .inr rfl, .inr rfl, .inl rfl, .inl rfl,trivial⟩,S2,ls3,e2,rfl⟩
  ·obtain ⟨S',ls3,eS,rfl⟩:=hn; rw [aG,gB] at eS; subst eS; exact ⟨m',[.val (.lst (L.map (mvD p))), .val (.int b), .val (.tup (cG (st0 p))),wtS P w K ⟨l3,ls3,(fdP p L b t.1 S1 (jB t.2)).T⟩,oG (hkT P w) K l4 ((fdP p L b t.1 S1 (jB t.2)).kn.map nF) ((fdP p L b t.1 S1 (jB t.2)).kn.map fun _=> .bl true), .own l5 ((fdP p L b t.1 S1 (jB t.2)).fd.map fdD), .un, .un, .un, .un],lU _,⟨.inr rfl, .inr rfl, .inr rfl, .inr rfl, .inr rfl, .inr rfl, .inl rfl, .inl rfl, .inr rfl, .inr rfl,trivial⟩,fdP p L b t.1 S1 (jB t.2),dn++(jB t.2).map rwP,t.1,ls3,W2,by rw [bK,aG]; omega,hR2,rfl⟩
theorem ok_tfrom45 (F:Fun K "table_from" "table_from" tM f fd) (ztuple:mg "tuple"=none) (hm:mg "table_from"=some (.ref f)):bZ P w K mg base "table_from" 1 2 CTfrom:=by
 have nd:(["every","numbers"]:List Str).Nodup:=by decide+kernel
 have nd2:(["number","every"]:List Str).Nodup:=by decide+kernel
 refine fQ (N:=["every","numbers"]) (ps:=["every","numbers"]) (k:=0) F ⟨rfl,rfl,rfl,nd,rfl,by decide+kernel,by decide+kernel⟩ hm (fun _ _ _ _ _ _ us hl=>match us,hl with | [_,_],_=>rfl) fun cdv A outer s H E hr ds r hl c=> ?_
 obtain ⟨B,nb,h1,h2,rfl,rfl⟩:=c
 have ec:((cG nb).filter fun _=>true).map (fun d=>match d with | .int i=>bT (B.getD i.toNat []) | _=> .non)=(nb.map fun i=>B.getD i []).map bT:=by rw [eH.mpr (fun _ _=>rfl)]; unfold cG; rw [bM,bM]; rfl
 refine bP (cJ (kU rfl ztuple (PEd.bor (PEd.val (PEd.cast (jL (ds:=cG nb) (N:=["number","every"]) (M:=["every","numbers"]) (cap:=[none,some 0]) (sc:=aV tM) (Tb:=fun d=>[.val d, .val (.lst (B.map bT))]) (fun _=>true) (fun d=>match d with | .int i=>bT (B.getD i.toNat []) | _=> .non) (lD (aE 1 rfl (pv 1))) (by rw [pI]; omega) rfl (by decide+kernel) rfl (by decide+kernel) rfl (fun cl C fp s H d hd=>fM 0 (dR (i:=0) nd2 rfl (Or.inl rfl))) (fun d hd=>⟨.inl rfl, .inr rfl,trivial⟩) (fun cl C fp s H d hd=> .inl ⟨rfl,rfl⟩) fun cl C2 fp s H d hd _=> ?_) (by rw [ec]))))) trivial rfl); obtain ⟨i,hi,rfl⟩:=bH.mp hd; exact sR (n:=i) (PEd.bor (aE 1 rfl (pv 1))) (aE 0 rfl (pv 0)) (tups_at (h2 i hi)) fun _ _=>rfl
theorem ok_book41 (F:Fun K "book_of" "book_of" yN f fd) (zlen:mg "len"=none) (zrange:mg "range"=none) (ztuple:mg "tuple"=none) (hm:mg "book_of"=some (.ref f)) (GF:bZ P w K mg base "fillings" 2 1 CFill) (GM:bZ P w K mg base "moves_of" 5 2 CMoves) (GR:bZ P w K mg base "found_rows" 3 3 CFnd41) (GT:bZ P w K mg base "table_from" 1 2 CTfrom):bZ P w K mg base "book_of" 6 3 CBook:=by
 have nd:(["size","stock","bound","every","found"]:List Str).Nodup:=by decide+kernel
 have nd2:(["price","row","numbers","every"]:List Str).Nodup:=by decide+kernel
 refine fQ (N:=["size","stock","bound","every","found"]) (ps:=["size","stock","bound"]) (k:=5) F ⟨rfl,rfl,rfl,nd,rfl,by decide+kernel,by decide+kernel⟩ hm (fun _ _ _ _ _ _ us hl=>match us,hl with | [_,_,_],_=>rfl) fun cdv A outer s H E hr ds r hl c=> ?_
 obtain ⟨p,L,b,U,hp,S,dn,FU,rfl,rfl⟩:=c; have hr1:=hr.mono (show 1≤5 by decide); have hr2:=hr.mono (show 2≤5 by decide); have hr3:=hr.mono (show 3≤5 by decide); have f9:(eV p).length≤64:=pV hp; have O:=bkF_ok (p:=p) S.pr FU; have l4:=O.len; refine aJ (gM (ds:=(eV p).map bT) 3 nd rfl (Or.inr rfl) (cU (ds:=[dI p]) GF hr2 rfl (aH (aE 0 rfl (pv 0)) bD) ⟨p,hp,rfl,rfl⟩ trivial rfl) fun l5=>mX 3 rfl ?_); refine aJ (gM (ds:=(bkF p L b).map fdD) 4 nd rfl (Or.inl rfl) (cU (ds:=[.lst (L.map (mvD p)), .int b, .tup (cG (st0 p))]) GR hr3 rfl (aH (PEd.val (cU (ds:=[dI p, .lst (L.map skD)]) GM hr rfl (aH (aE 0 rfl (pv 0)) (aH (aE 1 rfl (pv 1)) bD)) ⟨p,L,hp,S,dn,rfl,rfl⟩ trivial rfl)) (aH (aE 2 rfl (pv 2)) (aH (pd_tupRange (n:=(eV p).length) rfl ztuple rfl zrange (PEd.ic (pO rfl zlen (PEd.bor (aE 3 rfl (pv 3)))) (by rw [aG])) (by omega)) bD))) ⟨p,L,b,U,hp,S,FU,rfl,rfl⟩ trivial rfl) fun l4=>mX 4 rfl ?_)
 have ec:(((bkF p L b).map fdD).filter fun _=>true).map (fun d=>enD ((unE d).1,(unE d).2.1,jO p (unE d).2.2))=(bkQ p L b).map enD:=by
  rw [eH.mpr (fun _ _=>rfl),bM]; unfold bkQ; rw [bM]; refine cR fun e _=> ?_
  show enD ((unE (fdD e)).1,(unE (fdD e)).2.1,jO p (unE (fdD e)).2.2)=_; rw [unE_D]; rfl
 refine bP (cJ (PEd.cast (jL (ds:=(bkF p L b).map fdD) (N:=["price","row","numbers","every"]) (M:=["size","stock","bound","every","found"]) (cap:=[none,none,none,some 3]) (sc:=aV yN) (Tb:=fun d=>[.val (.int (unE d).1), .val (.tup (cG (unE d).2.1)), .val (.tup (cG (unE d).2.2)), .val (.lst ((eV p).map bT))]) (fun _=>true) (fun d=>enD ((unE d).1,(unE d).2.1,jO p (unE d).2.2)) (jI (aE 4 rfl (pv 4))) (by rw [aG]; omega) rfl (by decide+kernel) rfl (by decide+kernel) rfl (fun cl C fp s H d hd=> ?_) (fun d hd=>⟨.inl rfl, .inl rfl, .inl rfl, .inr rfl,trivial⟩) (fun cl C fp s H d hd=> .inl ⟨rfl,rfl⟩) fun cl C2 fp s H d hd _=> ?_) (by rw [ec])) trivial rfl)
 ·obtain ⟨e,he,rfl⟩:=bH.mp hd; rw [unE_D]; exact nA (ds:=[.int e.1, .tup (cG e.2.1), .tup (cG e.2.2)]) (js:=[0,1,2]) rfl (gJ (dR (i:=0) nd2 rfl (Or.inl rfl)) (gJ (dR (i:=1) nd2 rfl (Or.inl rfl)) (gJ (dR (i:=2) nd2 rfl (Or.inl rfl)) mT))) rfl rfl
 ·obtain ⟨e,he,rfl⟩:=bH.mp hd; rw [unE_D]; obtain ⟨h1,h2,h3,h4,h5⟩:=O.ent e he; have nbo:=(xP hp (fun s hs=>(S.st s hs).1) h1).1; rw [← h4] at nbo; exact gA (ds:=[.int e.1, .tup (cG e.2.1), .tup ((jO p e.2.2).map bT)]) (aH (aE 0 rfl (pv 0)) (aH (aE 1 rfl (pv 1)) (aH (cU (ds:=[.lst ((eV p).map bT), .tup (cG e.2.2)]) GT hr1 rfl (aH (aE 3 rfl (pv 3)) (aH (aE 2 rfl (pv 2)) bD)) ⟨eV p,e.2.2,by rw [nbo.1]; omega,nbo.2,rfl,rfl⟩ trivial rfl) bD))) (aO rfl)
theorem ok_cellat (F:Fun K "_law_cell_at" "_law_cell_at" rN f fd) (zlen:mg "len"=none) (hm:mg "_law_cell_at"=some (.ref f)):bZ P w K mg base "_law_cell_at" 1 2 CCell:=by
 have nd:(["_law_script","_law_k"]:List Str).Nodup:=by decide+kernel
 refine fQ (N:=["_law_script","_law_k"]) (ps:=["_law_script","_law_k"]) (k:=0) F ⟨rfl,rfl,rfl,nd,rfl,by decide+kernel,by decide+kernel⟩ hm (fun _ _ _ _ _ _ us hl=>match us,hl with | [_,_],_=>rfl) fun cdv A outer s H E hr ds r hl c=> ?_
 obtain ⟨ns,k,rfl,hk,rfl⟩:=c; refine aJ (iK (oE op_lt (aE 1 rfl (pv 1)) (pd_lenS rfl zlen (aE 0 rfl (pv 0))) (iU _)) (fun h=> ?_) fun h=>cX ?_)
 ·have h':k<ns.length:=by simpa using h
  exact bP (cJ (pd_ixS (z:=ns.getD k 0) (aE 0 rfl (pv 0)) (aE 1 rfl (pv 1)) (by simp [h']) fun _ _=>rfl) trivial rfl)
 ·have h':¬ k<ns.length:=by simpa using h
  refine bP (cJ bF trivial ?_); show R.val (.int 0)=R.val (.int (ns.getD k 0)); simp [cY,h']
theorem ok_mix45 (F:Fun K "_law_mixed" "_law_mixed" vR f fd) (hm:mg "_law_mixed"=some (.ref f)):bZ P w K mg base "_law_mixed" 1 2 CMx:=by
 have nd:(["_law_cell","_law_k","_law_number"]:List Str).Nodup:=by decide+kernel
 refine fQ (N:=["_law_cell","_law_k","_law_number"]) (ps:=["_law_cell","_law_k"]) (k:=0) F ⟨rfl,rfl,rfl,nd,rfl,by decide+kernel,by decide+kernel⟩ hm (fun _ _ _ _ _ _ us hl=>match us,hl with | [_,_],_=>rfl) fun cdv A outer s H E hr ds r hl c=> ?_
 obtain ⟨c,k,rfl,hk,rfl⟩:=c; have kb:((k:Nat):Int).natAbs<2^250:=cD (by omega:_≤1000) (by decide); refine aJ (iK (ptd_eqI (dX gO (aE 0 rfl (pv 0)) bF (by decide)) bF) (fun h=> ?_) fun h=>cX ?_)
 ·have h':c%2=0:=by simpa using h
  have e2:(2:Int) * 2^((8:Int) * (k:Int)).toNat=((2^(8 * k+1):Nat):Int):=by
   have:((8:Int) * (k:Int)).toNat=8 * k:=by omega
   rw [this,Nat.pow_succ]
   push_cast
   exact Int.mul_comm _ _
  have lg:(2^(8 * k+1):Nat).log2<9000:=by rw [Nat.log2_two_pow]; omega
  refine bP (cJ (dX rA (aE 0 rfl (pv 0)) (PEd.ic (dX op_shl bF (dX iY bF (aE 1 rfl (pv 1)) (iF (by decide) kb)) ⟨by omega,by omega,by decide⟩) e2) ⟨pw0 _,lg⟩) trivial ?_); unfold mxS; rw [if_pos h']
 have h':¬ c%2=0:=by simpa using h
 have c1:=eU c (show (2147483647:Int)≠0 by decide); have c2:=dQ c (show (0:Int)<2147483647 by decide); have big:∀z:Int,0≤z∧z<2147483647+69621 * 400+7919→z.natAbs<2^250:=fun z hz=>cD (by omega:z.natAbs≤3000000000) (by decide)
 refine aJ (dG (d:= .int (mx1 c k)) 2 nd rfl (Or.inl rfl) (dX gO (dX iY (gQ iL (gQ iL (dX gO (aE 0 rfl (pv 0)) bF (by decide)) (dX iY bF (aE 1 rfl (pv 1)) (iF (by decide) kb))) bF) bF (iF (big _ ⟨by omega,by omega⟩) (by decide))) bF (by decide)) ?_); have r1:0≤mx1 c k∧mx1 c k<2147483647:=⟨eU _ (by decide),dQ _ (by decide)⟩; refine aJ (dG (d:= .int (mx2 c k)) 2 nd rfl (Or.inl rfl) (dX gO (dX iY (aE 2 rfl (pv 2)) (aE 2 rfl (pv 2)) (iF (big _ ⟨by omega,by omega⟩) (big _ ⟨by omega,by omega⟩))) bF (by decide)) ?_); have r2:0≤mx2 c k∧mx2 c k<2147483629:=⟨eU _ (by decide),dQ _ (by decide)⟩; refine bP (cJ (dX gO (gQ iL (dX iY (aE 2 rfl (pv 2)) (aE 2 rfl (pv 2)) (iF (big _ ⟨by omega,by omega⟩) (big _ ⟨by omega,by omega⟩))) (dX iY bF (aE 1 rfl (pv 1)) (iF (by decide) kb))) bF (by decide)) trivial ?_); unfold mxS; rw [if_neg h']
noncomputable def zV:List D→R→Prop:=fun ds r=>∃p,p∈dH∧ds=[dI p]∧r= .own ((iC (2^p.1.toNat) p.2.toNat).map bT)
theorem ok_lfill41 (F:Fun K "_law_fillings" "_law_fillings" sT f fd) (zrange:mg "range"=none) (hm:mg "_law_fillings"=some (.ref f)):bZ P w K mg base "_law_fillings" 1 1 zV:=by
 have nd:(["_law_size_here","_law_found","_law_box","_law_longer","_law_one"]:List Str).Nodup:=by decide+kernel
 refine fQ (N:=["_law_size_here","_law_found","_law_box","_law_longer","_law_one"]) (ps:=["_law_size_here"]) (k:=0) F ⟨rfl,rfl,rfl,nd,rfl,by decide+kernel,by decide+kernel⟩ hm (fun _ _ _ _ _ _ us hl=>match us,hl with | [_],_=>rfl) fun cdv A outer s H E hr ds r hl c=> ?_
 obtain ⟨p,hp,rfl,rfl⟩:=c; obtain ⟨h1,h2,h3,h4,h5⟩:=sS p hp; have e2:p.2=((p.2.toNat:Nat):Int):=by omega
 have e1:p.1=((p.1.toNat:Nat):Int):=by omega
 have nd2:(["_law_word_here","_law_one"]:List Str).Nodup:=by decide+kernel
 have m64:2^p.1.toNat≤64:=by
  have:p.1.toNat≤6:=by omega
  exact eD (qV (by decide) this) (by decide)
 refine aJ (gM (ds:=[bT []]) 1 nd rfl (Or.inl rfl) (jN (ds:=[bT []]) (aH (gA (ds:=[]) bD (dA _)) bD) (aO rfl)) fun l=> ?_); refine aJ (hW (ds:=jD 0 p.2.toNat) (fun k sd=>∃l,sd=[.val (dI p), .own l ((iC (2^p.1.toNat) k).map bT), .un, .un, .un]) (kT (n:=p.2.toNat) rfl zrange (PEd.cast (dS (n:=1) (d:= .int p.2) (aE 0 rfl (pv 0)) bF rfl fun _ _=>rfl) (by rw [← e2])) (by omega)) ⟨_,Le.refl _,l,rfl⟩ (fun k d sdk hd hk=> ?_) fun sdn hn=> ?_)
 ·obtain ⟨hk2,rfl⟩:=kX hd; obtain ⟨l2,rfl⟩:=hk
  have hsm:(iC (2^p.1.toNat) k).length * 2^p.1.toNat≤900:=by rw [rX]; exact yO p hp k hk2
  have lens:=xB (2^p.1.toNat) k; have eL:iC (2^p.1.toNat) (k+1)=(iC (2^p.1.toNat) k).flatMap fun s=>(cO (2^p.1.toNat)).map fun (w:Nat)=>s++[(w:Int)]:=rfl
  rw [eL]; generalize iC (2^p.1.toNat) k=L at *; refine ⟨_,fM 2 (dR (i:=2) nd rfl (Or.inl rfl)),mX 1 rfl ?_⟩; refine aJ (gM 3 nd rfl (Or.inl rfl) (jN (ds:=[]) bD (dA _)) fun l3=> ?_); refine aJ (uY (ds:=L.map bT) (fun t=>[.val (dI p), .val (.lst (L.map bT)), .un, .own l3 (((L.take t).flatMap fun s=>(cO (2^p.1.toNat)).map fun (w:Nat)=>s++[(w:Int)]).map bT), .un]) (fun t=>[.val (dI p), .val (.lst (L.map bT)), .un, .own l3 (((L.take t).flatMap fun s=>(cO (2^p.1.toNat)).map fun (w:Nat)=>s++[(w:Int)]).map bT), .val (bT (L.getD t []))]) (jI (aE 1 rfl (pv 1))) ⟨.inr rfl, .inr rfl, .inl rfl, .inr rfl, .inr rfl,trivial⟩ (fun t d hd=> ?_) (fun t d hd=> ?_) ?_)
  ·obtain ⟨_,rfl⟩:=sD hd; exact fM 4 (dR (i:=4) nd rfl (Or.inr rfl))
  ·obtain ⟨ht,rfl⟩:=sD hd; have hmem:L.getD t []∈L:=DL.getD_mem ht
   have et:L.take (t+1)=L.take t++[L.getD t []]:=by rw [gF]; simp [cY,ht]
   have lk:(L.take t).length * 2^p.1.toNat+2^p.1.toNat≤900:=by
    have h1:(L.take t).length+1≤L.length:=by rw [dU]; omega
    have h2:=Nat.mul_le_mul_right (2^p.1.toNat) h1; rw [Nat.succ_mul] at h2; omega
   have ec:((jD 0 (2^p.1.toNat)).filter fun _=>true).map (fun d=>D.tup ((L.getD t []).map D.int++[d]))=((cO (2^p.1.toNat)).map fun (w:Nat)=>L.getD t []++[(w:Int)]).map bT:=by
    rw [eH.mpr (fun _ _=>rfl)]; unfold jD; rw [bM,bM]; refine cR fun w _=> ?_
    simp [bT]
   have lt:=lens _ hmem; refine bP (wX (ds2:=((cO (2^p.1.toNat)).map fun (w:Nat)=>L.getD t []++[(w:Int)]).map bT) 3 rfl (pv 3) (PEd.val (PEd.cast (jL (N:=["_law_word_here","_law_one"]) (M:=["_law_size_here","_law_found","_law_box","_law_longer","_law_one"]) (cap:=[none,some 4]) (sc:=aV sT) (Tb:=fun d=>[.val d, .val (bT (L.getD t []))]) (fun _=>true) (fun d=>D.tup ((L.getD t []).map D.int++[d])) (kT (n:=2^p.1.toNat) rfl zrange (vA (k:=p.1.toNat) (PEd.ic (dS (n:=0) (aE 0 rfl (pv 0)) bF rfl fun _ _=>rfl) e1) (by omega)) (by omega)) (by rw [iT]; omega) rfl (by decide+kernel) rfl (by decide+kernel) rfl (fun cl C fp s H d _=>fM 0 (dR (i:=0) nd2 rfl (Or.inl rfl))) (fun d _=>⟨.inl rfl, .inr rfl,trivial⟩) (fun cl C fp s H d _=> .inl ⟨rfl,rfl⟩) fun cl C fp s H d _ _=>mV (aE 1 rfl (pv 1)) (gA (ds:=[d]) (aH (aE 0 rfl (pv 0)) bD) (aO rfl)) ?_) (by rw [ec]))) ?_ ?_)
   ·simp only [aG,cM,hG]; omega
   ·rw [aG,pH,aG,aG,kQ]; omega
   ·refine ⟨.inr rfl, .inr rfl, .inr rfl, .inr ?_, .inl rfl,trivial⟩; rw [et,List.flatMap_append,bR]; simp
  ·rw [aG,gB]; refine bP (psd_move 1 3 rfl nd rfl (Or.inl rfl) (pv 3) ?_); exact ⟨_,Le.refl _,l3,rfl⟩
 ·obtain ⟨l2,rfl⟩:=hn; refine bP (pK 1 rfl (pv 1) ?_); show R.own _=R.own _; rw [iT]
theorem nm_dn45:∀k,k<10→decide (V.str (nm k)=V.str "down")=decide (k=9):=by decide+kernel
theorem at_i45 {ws:List Int} {i:Nat} (h:i<ws.length):(ws.map D.int)[i]? =some (.int (ws.getD i 0)):=by simp [cY,h]
theorem ok_lw41 (F:Fun K "_law_word" "_law_word" vZ f fd) (hm:mg "_law_word"=some (.ref f)):bZ P w K mg base "_law_word" 1 3 CLw45:=by
 have nd:(["_law_size_here","_law_step","_law_filling","_law_most","_law_name","_law_a","_law_b"]:List Str).Nodup:=by decide+kernel
 refine fQ (N:=["_law_size_here","_law_step","_law_filling","_law_most","_law_name","_law_a","_law_b"]) (ps:=["_law_size_here","_law_step","_law_filling"]) (k:=0) F ⟨rfl,rfl,rfl,nd,rfl,by decide+kernel,by decide+kernel⟩ hm (fun _ _ _ _ _ _ us hl=>match us,hl with | [_,_,_],_=>rfl) fun cdv A outer s H E hr ds r hl c=> ?_
 obtain ⟨p,⟨k,i,j,n⟩,ws,O,G,rfl,rfl⟩:=c; obtain ⟨h1,h2,h3,h4,h5⟩:=sS p O.sz; have e1:p.1=((p.1.toNat:Nat):Int):=by omega
 have m0:=pw0 p.1.toNat; have wl:=G.len; obtain ⟨_,k10,i0,j0,n0⟩:=O; simp only at i0 j0 k10; have ai:(ws.map D.int)[i.toNat]? =some (.int (ws.getD i.toNat 0)):=at_i45 (by omega); have aj:(ws.map D.int)[j.toNat]? =some (.int (ws.getD j.toNat 0)):=at_i45 (by omega); show PSd _ (init _ [dI p,iE k i j n,bT ws]) _ {nx:=fun _=>R.val (.int (newW k ((2^p.1.toNat:Nat):Int) (ws.getD i.toNat 0) (ws.getD j.toNat 0) n))= .val .non,rt:=fun r'=>r'= .val (.int (newW k ((2^p.1.toNat:Nat):Int) (ws.getD i.toNat 0) (ws.getD j.toNat 0) n))}; have t_put:=tG k k10; have t_not:=zK k k10; have t_up:=nm_up k k10; have t_dn:=nm_dn45 k k10; refine aJ (dG (d:= .int ((2^p.1.toNat:Nat):Int)) 3 nd rfl (Or.inl rfl) (vA (PEd.ic (dS (n:=0) (d:= .int p.1) (aE 0 rfl (pv 0)) bF rfl fun _ _=>rfl) e1) (by omega)) ?_)
 by_cases k6:k<6
 ·have es:iE k i j n= .tup [.str (nm k), .int i, .int j]:=by unfold iE; rw [if_pos k6]
  have en:newW k ((2^p.1.toNat:Nat):Int) (ws.getD i.toNat 0) (ws.getD j.toNat 0) n=zF k ((2^p.1.toNat:Nat):Int) (ws.getD i.toNat 0) (ws.getD j.toNat 0):=by unfold newW; rw [if_neg (by omega),if_neg (by omega)]
  rw [es,en]; refine aJ (dG (d:= .str (nm k)) 4 nd rfl (Or.inl rfl) (dS (n:=0) (aE 1 rfl (pv 1)) bF rfl fun _ _=>rfl) ?_); refine aJ (dG (d:= .int (ws.getD i.toNat 0)) 5 nd rfl (Or.inl rfl) (oN (i:=i) (aE 2 rfl (pv 2)) (dS (n:=1) (aE 1 rfl (pv 1)) bF rfl fun _ _=>rfl) i0.1 ai fun _ _=>rfl) ?_); refine aJ (eJ (dO (aE 4 rfl (pv 4)) eI rfl rfl rfl t_put) (decide_eq_false (by omega)) (cX ?_)); refine aJ (eJ (dO (aE 4 rfl (pv 4)) eI rfl rfl rfl t_not) (decide_eq_false (by omega)) (cX ?_)); refine aJ (eJ (dO (aE 4 rfl (pv 4)) eI rfl rfl rfl t_up) (decide_eq_false (by omega)) (cX ?_)); refine aJ (eJ (dO (aE 4 rfl (pv 4)) eI rfl rfl rfl t_dn) (decide_eq_false (by omega)) (cX ?_)); refine aJ (dG (d:= .int (ws.getD j.toNat 0)) 6 nd rfl (Or.inl rfl) (oN (i:=j) (aE 2 rfl (pv 2)) (dS (n:=2) (aE 1 rfl (pv 1)) bF rfl fun _ _=>rfl) j0.1 aj fun _ _=>rfl) ?_)
  by_cases k0':k=0
  ·refine aJ (iV (dO (aE 4 rfl (pv 4)) eI rfl rfl rfl (nm_and k k10)) (decide_eq_true k0') (bP (cJ (gQ op_and (aE 5 rfl (pv 5)) (aE 6 rfl (pv 6))) trivial ?_))); rw [k0']; rfl
  refine aJ (eJ (dO (aE 4 rfl (pv 4)) eI rfl rfl rfl (nm_and k k10)) (decide_eq_false k0') (cX ?_))
  by_cases k1':k=1
  ·refine aJ (iV (dO (aE 4 rfl (pv 4)) eI rfl rfl rfl (nm_or k k10)) (decide_eq_true k1') (bP (cJ (gQ op_or (aE 5 rfl (pv 5)) (aE 6 rfl (pv 6))) trivial ?_))); rw [k1']; rfl
  refine aJ (eJ (dO (aE 4 rfl (pv 4)) eI rfl rfl rfl (nm_or k k10)) (decide_eq_false k1') (cX ?_))
  by_cases k2':k=2
  ·refine aJ (iV (dO (aE 4 rfl (pv 4)) eI rfl rfl rfl (nm_xor k k10)) (decide_eq_true k2') (bP (cJ (gQ op_xor (aE 5 rfl (pv 5)) (aE 6 rfl (pv 6))) trivial ?_))); rw [k2']; rfl
  refine aJ (eJ (dO (aE 4 rfl (pv 4)) eI rfl rfl rfl (nm_xor k k10)) (decide_eq_false k2') (cX ?_))
  by_cases k3':k=3
  ·refine aJ (iV (dO (aE 4 rfl (pv 4)) eI rfl rfl rfl (nm_add k k10)) (decide_eq_true k3') (bP (cJ (dX gO (gQ iL (aE 5 rfl (pv 5)) (aE 6 rfl (pv 6))) (aE 3 rfl (pv 3)) m0) trivial ?_))); rw [k3']; rfl
  refine aJ (eJ (dO (aE 4 rfl (pv 4)) eI rfl rfl rfl (nm_add k k10)) (decide_eq_false k3') (cX ?_))
  by_cases k4':k=4
  ·refine aJ (iV (dO (aE 4 rfl (pv 4)) eI rfl rfl rfl (zN k k10)) (decide_eq_true k4') (bP (cJ (dX gO (gQ qS (aE 5 rfl (pv 5)) (aE 6 rfl (pv 6))) (aE 3 rfl (pv 3)) m0) trivial ?_))); rw [k4']; rfl
  refine aJ (eJ (dO (aE 4 rfl (pv 4)) eI rfl rfl rfl (zN k k10)) (decide_eq_false k4') (cX ?_)); have k5:k=5:=by omega
  refine bP (cJ (aE 6 rfl (pv 6)) trivial ?_); rw [k5]; rfl
 by_cases k6':k=6
 ·have es:iE k i j n= .tup [.str (nm k), .int i, .int n]:=by unfold iE; rw [if_neg k6,if_pos k6']
  rw [es]; refine aJ (dG (d:= .str (nm k)) 4 nd rfl (Or.inl rfl) (dS (n:=0) (aE 1 rfl (pv 1)) bF rfl fun _ _=>rfl) ?_); refine aJ (dG (d:= .int (ws.getD i.toNat 0)) 5 nd rfl (Or.inl rfl) (oN (i:=i) (aE 2 rfl (pv 2)) (dS (n:=1) (aE 1 rfl (pv 1)) bF rfl fun _ _=>rfl) i0.1 ai fun _ _=>rfl) ?_); refine aJ (iV (dO (aE 4 rfl (pv 4)) eI rfl rfl rfl t_put) (decide_eq_true k6') (bP (cJ (dS (n:=2) (aE 1 rfl (pv 1)) bF rfl fun _ _=>rfl) trivial ?_))); rw [k6']; rfl
 have es:iE k i j n= .tup [.str (nm k), .int i]:=by unfold iE; rw [if_neg k6,if_neg k6']
 rw [es]; refine aJ (dG (d:= .str (nm k)) 4 nd rfl (Or.inl rfl) (dS (n:=0) (aE 1 rfl (pv 1)) bF rfl fun _ _=>rfl) ?_); refine aJ (dG (d:= .int (ws.getD i.toNat 0)) 5 nd rfl (Or.inl rfl) (oN (i:=i) (aE 2 rfl (pv 2)) (dS (n:=1) (aE 1 rfl (pv 1)) bF rfl fun _ _=>rfl) i0.1 ai fun _ _=>rfl) ?_); refine aJ (eJ (dO (aE 4 rfl (pv 4)) eI rfl rfl rfl t_put) (decide_eq_false (by omega)) (cX ?_))
 by_cases k7:k=7
 ·refine aJ (iV (dO (aE 4 rfl (pv 4)) eI rfl rfl rfl t_not) (decide_eq_true k7) (bP (cJ (gQ qS (gQ qS (aE 3 rfl (pv 3)) bF) (aE 5 rfl (pv 5))) trivial ?_))); rw [k7]; rfl
 refine aJ (eJ (dO (aE 4 rfl (pv 4)) eI rfl rfl rfl t_not) (decide_eq_false k7) (cX ?_))
 by_cases k8:k=8
 ·refine aJ (iV (dO (aE 4 rfl (pv 4)) eI rfl rfl rfl t_up) (decide_eq_true k8) (bP (cJ (PEd.ic (dX gO (dX op_mul bF (aE 5 rfl (pv 5)) (.inl ⟨by decide,by decide⟩)) (aE 3 rfl (pv 3)) m0) (by rw [Int.mul_comm])) trivial ?_))); rw [k8]; rfl
 refine aJ (eJ (dO (aE 4 rfl (pv 4)) eI rfl rfl rfl t_up) (decide_eq_false k8) (cX ?_)); have k9:k=9:=by omega
 refine aJ (iV (dO (aE 4 rfl (pv 4)) eI rfl rfl rfl t_dn) (decide_eq_true k9) (bP (cJ (dX rA (aE 5 rfl (pv 5)) bF ⟨by decide,by decide⟩) trivial ?_))); rw [k9]; rfl
theorem sq_one45 (q:SQ):∃es,sqD q= .tup (.str (nm q.1):: .int q.2.1::es):=by
 show ∃es,iE _ _ _ _=_; unfold iE
 split
 ·exact ⟨_,rfl⟩
 ·split
  ·exact ⟨_,rfl⟩
  ·exact ⟨_,rfl⟩
theorem ok_aft41 (F:Fun K "_law_after" "_law_after" sAft f fd) (hm:mg "_law_after"=some (.ref f)) (GW:bZ P w K mg base "_law_word" 1 3 CLw45):bZ P w K mg base "_law_after" 2 3 CAft45:=by
 have nd:(["_law_size_here","_law_step","_law_filling"]:List Str).Nodup:=by decide+kernel
 refine fQ (N:=["_law_size_here","_law_step","_law_filling"]) (ps:=["_law_size_here","_law_step","_law_filling"]) (k:=1) F ⟨rfl,rfl,rfl,nd,rfl,by decide+kernel,by decide+kernel⟩ hm (fun _ _ _ _ _ _ us hl=>match us,hl with | [_,_,_],_=>rfl) fun cdv A outer s H E hr ds r hl c=> ?_
 obtain ⟨p,q,ws,O,G,rfl,rfl⟩:=c; obtain ⟨h1,h2,h3,h4,h5⟩:=sS p O.sz; have wl:=G.len; have i0:=O.i0; have li:q.2.1.toNat<ws.length:=by omega
 have ei:q.2.1=((q.2.1.toNat:Nat):Int):=by omega
 obtain ⟨es0,es1⟩:=sq_one45 q; have bx:∀ {X:Cx} {sd:List Slot} {a:Expr} {n0:Nat} {p1 p2:Pos},PEd X sd a (.val (sqD q))→PEd X sd (.Subscript a (.Constant (.int 1) n0 p1) p2) (.val (.int ((q.2.1.toNat:Nat):Int))):=fun ha=>PEd.ic (dS (n:=1) (ds:= .str (nm q.1):: .int q.2.1::es0) (PEd.cast ha (by rw [es1])) bF rfl fun _ _=>rfl) ei
 refine bP (cJ (PEd.cast (mV (mV (pd_slT (ol:=none) (oh:=some ((q.2.1.toNat:Nat):Int)) (aE 2 rfl (pv 2)) trivial (bx (aE 1 rfl (pv 1))) ?_) (gA (ds:=[.int (nwQ p q ws)]) (aH (cU (ds:=[dI p,sqD q,bT ws]) GW hr rfl (aH (aE 0 rfl (pv 0)) (aH (aE 1 rfl (pv 1)) (aH (aE 2 rfl (pv 2)) bD))) ⟨p,q,ws,O,G,rfl,rfl⟩ trivial rfl) bD) (aO rfl)) ?_) (pd_slT (ol:=some (((q.2.1.toNat:Nat):Int)+1)) (oh:=none) (aE 2 rfl (pv 2)) (gQ iL (bx (aE 1 rfl (pv 1))) bF) trivial ?_) ?_) ?_) trivial rfl)
 ·rw [HT.sIx_nat,aG]; omega
 ·rw [tQ ws li]; simp only [aG,dU,cM,hG]; omega
 ·have e:(((q.2.1.toNat:Nat):Int)+1)=((q.2.1.toNat+1:Nat):Int):=by push_cast; rfl
  rw [e,HT.sIx_nat,aG]; omega
 ·rw [tQ ws li,qZ ws li]; simp only [bK,aG,dU,lP,cM,hG]; omega
 ·rw [tQ ws li,qZ ws li]; unfold bT onQ; rw [tZ,if_pos li]; simp
theorem nm_at45:∀k:Nat,k<10→([.str "and", .str "or", .str "xor", .str "add", .str "take", .str "copy", .str "put", .str "not", .str "up", .str "down"]:List D)[k]? =some (.str (nm k)):=by
 intro k hk
 match k,hk with
 | 0,_=>rfl
 | 1,_=>rfl
 | 2,_=>rfl
 | 3,_=>rfl
 | 4,_=>rfl
 | 5,_=>rfl
 | 6,_=>rfl
 | 7,_=>rfl
 | 8,_=>rfl
 | 9,_=>rfl
theorem ok_dr41 (F:Fun K "_law_drawn" "_law_drawn" tJ f fd) (hm:mg "_law_drawn"=some (.ref f)) (GM:bZ P w K mg base "_law_mixed" 1 2 CMx):bZ P w K mg base "_law_drawn" 2 2 CDr45:=by
 have nd:(["_law_size_here","_law_cell","_law_name","_law_i"]:List Str).Nodup:=by decide+kernel
 refine fQ (N:=["_law_size_here","_law_cell","_law_name","_law_i"]) (ps:=["_law_size_here","_law_cell"]) (k:=1) F ⟨rfl,rfl,rfl,nd,rfl,by decide+kernel,by decide+kernel⟩ hm (fun _ _ _ _ _ _ us hl=>match us,hl with | [_,_],_=>rfl) fun cdv A outer s H E hr ds r hl c=> ?_
 obtain ⟨p,c,hp,rfl,rfl⟩:=c; obtain ⟨h1,h2,h3,h4,h5⟩:=sS p hp; have m0:=pw0 p.1.toNat; have e1:p.1=((p.1.toNat:Nat):Int):=by omega
 have p20:(0:Int)<p.2:=by omega
 have d0:=eU (mxS c 1) (show (10:Int)≠0 by decide); have d1:=dQ (mxS c 1) (show (0:Int)<10 by decide); have mx:∀ {sd:List Slot} {j0:Nat} {p1 p2 p3 p4:Pos} (k:Nat),k≤400→sd[1]? =some (.val (.int c))→PEd (lE CX0 P w K mg base ["_law_size_here","_law_cell","_law_name","_law_i"] "_law_drawn" (aV tJ) f cdv A outer s H E).nox sd (.Call (.Name "_law_mixed" p1) [.Name "_law_cell" p2, .Constant (.int (k:Int)) j0 p4] [] p3) (.val (.int (mxS c k))):=fun k hk hs=>cU (ds:=[.int c, .int (k:Int)]) GM hr rfl (aH (aE 1 hs (pv 1)) (aH bF bD)) ⟨c,k,rfl,hk,rfl⟩ trivial rfl
 refine aJ (dG (d:= .str (nm (mxS c 1%10).toNat)) 2 nd rfl (Or.inl rfl) (pP (i:=mxS c 1%10) (ds:=[.str "and", .str "or", .str "xor", .str "add", .str "take", .str "copy", .str "put", .str "not", .str "up", .str "down"]) (PEd.bor (PEd.val (jN (ds:=[.str "and", .str "or", .str "xor", .str "add", .str "take", .str "copy", .str "put", .str "not", .str "up", .str "down"]) ?_ (aO rfl)))) (dX gO (mx 1 (by decide) rfl) bF (by decide)) d0 (nm_at45 _ (by omega)) fun _ _=>rfl) ?_)
 ·show PAd _ _ _ [.val (.str "and"), .val (.str "or"), .val (.str "xor"), .val (.str "add"), .val (.str "take"), .val (.str "copy"), .val (.str "put"), .val (.str "not"), .val (.str "up"), .val (.str "down")]
  repeat' (first | exact bD | refine aH eI ?_)
 refine aJ (dG (d:= .int (mxS c 2%p.2)) 3 nd rfl (Or.inl rfl) (dX gO (mx 2 (by decide) rfl) (dS (n:=1) (d:= .int p.2) (aE 0 rfl (pv 0)) bF rfl fun _ _=>rfl) p20) ?_); have k10:(mxS c 1%10).toNat<10:=by omega
 show PSd _ _ _ {nx:=fun _=>R.val (iE (mxS c 1%10).toNat (mxS c 2%p.2) (mxS c 4%p.2) (mxS c 3%((2^p.1.toNat:Nat):Int)))= .val .non,rt:=fun r'=>r'= .val (iE (mxS c 1%10).toNat (mxS c 2%p.2) (mxS c 4%p.2) (mxS c 3%((2^p.1.toNat:Nat):Int)))}; generalize (mxS c 1%10).toNat=k at *
 by_cases k6:k=6
 ·refine aJ (iV (dO (aE 2 rfl (pv 2)) eI rfl rfl rfl (tG k k10)) (decide_eq_true k6) (bP (cJ (gA (ds:=[.str (nm k), .int (mxS c 2%p.2), .int (mxS c 3%((2^p.1.toNat:Nat):Int))]) (aH (aE 2 rfl (pv 2)) (aH (aE 3 rfl (pv 3)) (aH (dX gO (mx 3 (by decide) rfl) (vA (PEd.ic (dS (n:=0) (d:= .int p.1) (aE 0 rfl (pv 0)) bF rfl fun _ _=>rfl) e1) (by omega)) m0) bD))) (aO rfl)) trivial ?_))); show R.val _=R.val _; unfold iE; rw [if_neg (by omega),if_pos k6]
 refine aJ (eJ (dO (aE 2 rfl (pv 2)) eI rfl rfl rfl (tG k k10)) (decide_eq_false k6) (cX ?_))
 by_cases k7:7≤k
 ·refine aJ (iV (PWd.pt (jC (dO (aE 2 rfl (pv 2)) eI rfl rfl rfl (zK k k10)) fun _=>jC (dO (aE 2 rfl (pv 2)) eI rfl rfl rfl (nm_up k k10)) fun _=>jZ (dO (aE 2 rfl (pv 2)) eI rfl rfl rfl (nm_dn45 k k10)))) (by rcases (by omega:k=7∨k=8∨k=9) with h | h | h<;>simp [h]) (bP (cJ (gA (ds:=[.str (nm k), .int (mxS c 2%p.2)]) (aH (aE 2 rfl (pv 2)) (aH (aE 3 rfl (pv 3)) bD)) (aO rfl)) trivial ?_)))
  show R.val _=R.val _; unfold iE; rw [if_neg (by omega),if_neg k6]
 refine aJ (eJ (PWd.pt (jC (dO (aE 2 rfl (pv 2)) eI rfl rfl rfl (zK k k10)) fun _=>jC (dO (aE 2 rfl (pv 2)) eI rfl rfl rfl (nm_up k k10)) fun _=>jZ (dO (aE 2 rfl (pv 2)) eI rfl rfl rfl (nm_dn45 k k10)))) (by
  have a1:¬ k=7:=by omega
  have a2:¬ k=8:=by omega
  have a3:¬ k=9:=by omega
  simp [a1,a2,a3]) (cX ?_))
 refine bP (cJ (gA (ds:=[.str (nm k), .int (mxS c 2%p.2), .int (mxS c 4%p.2)]) (aH (aE 2 rfl (pv 2)) (aH (aE 3 rfl (pv 3)) (aH (dX gO (mx 4 (by decide) rfl) (dS (n:=1) (d:= .int p.2) (aE 0 rfl (pv 0)) bF rfl fun _ _=>rfl) p20) bD))) (aO rfl)) trivial ?_); show R.val _=R.val _; unfold iE; rw [if_pos (by omega)]
theorem ok_lmv41 (F:Fun K "_law_moves" "_law_moves" sLMv f fd) (hm:mg "_law_moves"=some (.ref f)) (GF:bZ P w K mg base "_law_fillings" 1 1 zV) (GA:bZ P w K mg base "_law_after" 2 3 CAft45):bZ P w K mg base "_law_moves" 3 2 (CLMv P w K):=by
 have nd:(["_law_size_here","_law_kit_here","_law_moves_here","_law_step","_law_price_here","_law_made","_law_filling"]:List Str).Nodup:=by decide+kernel
 refine fQ (N:=["_law_size_here","_law_kit_here","_law_moves_here","_law_step","_law_price_here","_law_made","_law_filling"]) (ps:=["_law_size_here","_law_kit_here"]) (k:=2) F ⟨rfl,rfl,rfl,nd,rfl,by decide+kernel,by decide+kernel⟩ hm (fun _ _ _ _ _ _ us hl=>match us,hl with | [_,_],_=>rfl) fun cdv A outer s H E hr ds r hl c=> ?_
 obtain ⟨p,L,hp,S,rfl,rfl⟩:=c; have hr1:=hr.mono (show 1≤2 by decide); have hu:(A.deeper (envOfC "_law_moves" (aV sLMv) s.heap.objs.size f cdv)).units+2<cLine:=by have:=hr.un; omega
 have f9:(eV p).length≤64:=pV hp; have l8:=S.le; refine aJ (gM (ds:=[]) 2 nd rfl (Or.inl rfl) (jN (ds:=[]) bD (dA _)) fun l2=> ?_); refine aJ (hW (ds:=L.map skD) (fun t sd=>sd=[.val (dI p), .val (.lst (L.map skD)), .own l2 ((L.take t).map (mgD P w K p)), .un, .un, .un, .un]) (jI (aE 1 rfl (pv 1))) ⟨_,Le.refl _,rfl⟩ (fun t d sdt hd ht=> ?_) fun sdn hn=> ?_)
 ·obtain ⟨sk,hsk,rfl,et⟩:=lG hd; have O:=(S.st sk (aY hsk)).1; have tk:((L.take t).map (mgD P w K p)).length≤1000:=by rw [aG,dU]; omega
  rw [et,bR]; subst ht; generalize (L.take t).map (mgD P w K p)=vs at tk; refine ⟨[.val (dI p), .val (.lst (L.map skD)), .own l2 vs, .val (sqD sk.1), .val (.int sk.2), .un, .un],nA (ds:=[sqD sk.1, .int sk.2]) (js:=[3,4]) rfl (gJ (dR (i:=3) nd rfl (Or.inl rfl)) (gJ (dR (i:=4) nd rfl (Or.inl rfl)) mT)) rfl rfl, ?_⟩; refine aJ (wP (hkT P w) 5 nd rfl (Or.inl rfl) fun l5=> ?_); refine aJ (hW (ds:=(eV p).map bT) (fun m sd=>sd=[.val (dI p), .val (.lst (L.map skD)), .own l2 vs, .val (sqD sk.1), .val (.int sk.2),oG (hkT P w) K l5 (((eV p).take m).map inK) (((eV p).take m).map fun ws=>bT (onQ p sk.1 ws)), .un]) (jI (PEd.val (cU (ds:=[dI p]) GF hr1 rfl (aH (aE 0 rfl (pv 0)) bD) ⟨p,hp,rfl,rfl⟩ trivial rfl))) ⟨_,Le.refl _,rfl⟩ (fun m d sdm hd hm=> ?_) fun sdn hn=> ?_)
  ·obtain ⟨ws,hws,rfl,em⟩:=lG hd; have G:=uX hp (aY hws)
   have nk:inK ws∉((eV p).take m).map inK:=fun z=>by obtain ⟨y,y1,y2⟩:=bH.mp z; rw [yY y2] at y1; exact nd_take (filA_nd45 hp) hws y1
   have tk2:(((eV p).take m).map fun ws=>bT (onQ p sk.1 ws)).length≤1000:=by rw [aG,dU]; omega
   rw [em,bR,bR]; subst hm; generalize ((eV p).take m).map inK=ks at nk; generalize ((eV p).take m).map (fun ws=>bT (onQ p sk.1 ws))=us at tk2; refine ⟨[.val (dI p), .val (.lst (L.map skD)), .own l2 vs, .val (sqD sk.1), .val (.int sk.2),oG (hkT P w) K l5 ks us, .val (bT ws)],fM 6 (dR (i:=6) nd rfl (Or.inl rfl)), ?_⟩; exact bP (wD (hk:=hkT P w) (k:=inK ws) (d:=bT (onQ p sk.1 ws)) 5 hu rfl (pv 5) (cU (ds:=[dI p,sqD sk.1,bT ws]) GA hr rfl (aH (aE 0 rfl (pv 0)) (aH (aE 3 rfl (pv 3)) (aH (aE 6 rfl (pv 6)) bD))) ⟨p,sk.1,ws,O,G,rfl,rfl⟩ trivial rfl) (PEd.cast (aE 6 rfl (pv 6)) (by rw [show (hkT P w).dat (inK ws)=tD (inK ws) from rfl,inK_D])) nk tk2 ⟨[.val (dI p), .val (.lst (L.map skD)), .own l2 vs, .val (sqD sk.1), .val (.int sk.2),oG (hkT P w) K l5 (ks++[inK ws]) (us++[bT (onQ p sk.1 ws)]), .un],⟨.inr rfl, .inr rfl, .inr rfl, .inr rfl, .inr rfl, .inr rfl, .inl rfl,trivial⟩,rfl⟩)
  ·subst hn; rw [aG,gB]; refine psd_frzG 5 rfl ?_; refine bP (qO (d:=mgD P w K p sk) 2 rfl (pv 2) (aE 5 rfl (pv 5)) tk ?_); exact ⟨[.val (dI p), .val (.lst (L.map skD)), .own l2 (vs++[mgD P w K p sk]), .un, .un, .un, .un],⟨.inr rfl, .inr rfl, .inr rfl, .inl rfl, .inl rfl, .inl rfl, .inl rfl,trivial⟩,rfl⟩
 ·subst hn; rw [aG,gB]; exact bP (pK 2 rfl (pv 2) rfl)
theorem ok_size41 (F:Fun K "_law_size" "_law_size" xW f fd) (hm:mg "_law_size"=some (.ref f)) (GM:bZ P w K mg base "_law_mixed" 1 2 CMx):bZ P w K mg base "_law_size" 2 1 CSz41:=by
 have nd:(["_law_cell"]:List Str).Nodup:=by decide+kernel
 refine fQ (N:=["_law_cell"]) (ps:=["_law_cell"]) (k:=1) F ⟨rfl,rfl,rfl,nd,rfl,by decide+kernel,by decide+kernel⟩ hm (fun _ _ _ _ _ _ us hl=>match us,hl with | [_],_=>rfl) fun cdv A outer s H E hr ds r hl c=> ?_
 obtain ⟨c,rfl,rfl⟩:=c; have e0:yP c=if mxS c 31%8=1 then sz6L.getD (mxS c 32%6).toNat (1,1) else sz8L.getD (mxS c 30%8).toNat (1,1):=rfl
 have mx:∀ {sd:List Slot} {p1 p2 p3 p4:Pos} {j1:Nat} (k:Nat),k≤400→sd[0]? =some (.val (.int c))→PEd (lE CX0 P w K mg base ["_law_cell"] "_law_size" (aV xW) f cdv A outer s H E).nox sd (.Call (.Name "_law_mixed" p1) [.Name "_law_cell" p2, .Constant (.int (k:Int)) j1 p3] [] p4) (.val (.int (mxS c k))):=fun k hk hs=>cU (ds:=[.int c, .int (k:Int)]) GM hr rfl (aH (aE 0 hs (pv 0)) (aH bF bD)) ⟨c,k,rfl,hk,rfl⟩ trivial rfl
 refine aJ (iK (k:=decide (mxS c 31%8=1)) (ptd_eqI (dX gO (mx 31 (by decide) rfl) bF (by decide)) bF) (fun h=> ?_) fun h=>cX ?_)
 ·have h':=of_decide_eq_true h; rw [if_pos h'] at e0; rw [e0]; obtain ⟨h1,h0⟩:=iD (mxS c 32) (n:=6) (by decide)
  have g:(sz6L.map dI)[(mxS c 32%6).toNat]? =some (dI (sz6L.getD (mxS c 32%6).toNat (1,1))):=by have hl:(mxS c 32%6).toNat<sz6L.length:=h1; rw [bG]; simp [cY,hl]
  refine bP (cJ (pP (i:=mxS c 32%6) (ds:=sz6L.map dI) (PEd.bor (PEd.val (jN (ds:=sz6L.map dI) ?_ (aO rfl)))) (dX gO (mx 32 (by decide) rfl) bF (by decide)) h0 g fun _ _=>rfl) trivial rfl); show PAd _ _ _ ([.tup [.int 2, .int 3], .tup [.int 3, .int 2], .tup [.int 1, .int 5], .tup [.int 5, .int 1], .tup [.int 1, .int 6], .tup [.int 6, .int 1]].map R.val)
  repeat' (first | exact bD | refine aH (gA (ds:=[.int _, .int _]) (aH bF (aH bF bD)) (aO rfl)) ?_)
 ·have h':=of_decide_eq_false h; rw [if_neg h'] at e0; rw [e0]; obtain ⟨h1,h0⟩:=iD (mxS c 30) (n:=8) (by decide)
  have g:(sz8L.map dI)[(mxS c 30%8).toNat]? =some (dI (sz8L.getD (mxS c 30%8).toNat (1,1))):=by have hl:(mxS c 30%8).toNat<sz8L.length:=h1; rw [bG]; simp [cY,hl]
  refine bP (cJ (pP (i:=mxS c 30%8) (ds:=sz8L.map dI) (PEd.bor (PEd.val (jN (ds:=sz8L.map dI) ?_ (aO rfl)))) (dX gO (mx 30 (by decide) rfl) bF (by decide)) h0 g fun _ _=>rfl) trivial rfl); show PAd _ _ _ ([.tup [.int 1, .int 1], .tup [.int 1, .int 2], .tup [.int 2, .int 1], .tup [.int 2, .int 2], .tup [.int 1, .int 3], .tup [.int 3, .int 1], .tup [.int 1, .int 4], .tup [.int 4, .int 1]].map R.val)
  repeat' (first | exact bD | refine aH (gA (ds:=[.int _, .int _]) (aH bF (aH bF bD)) (aO rfl)) ?_)
noncomputable def uC:D→D
 | .tup [a,_]=>a
 | d=>d
noncomputable def two45:D→List Slot
 | .tup [a,b]=>[.val a, .val b]
 | _=>[.un, .un]
theorem ok_kit41 (F:Fun K "_law_kit" "_law_kit" xK f fd) (zrange:mg "range"=none) (zint:mg "int"=none) (hm:mg "_law_kit"=some (.ref f)) (GC:bZ P w K mg base "_law_cell_at" 1 2 CCell) (GM:bZ P w K mg base "_law_mixed" 1 2 CMx) (GD:bZ P w K mg base "_law_drawn" 2 2 CDr45):bZ P w K mg base "_law_kit" 3 3 CKit41:=by
 have nd:(["_law_script","_law_start","_law_size_here","_law_head","_law_factor","_law_many","_law_kit_here","_law_k","_law_cell","_law_step"]:List Str).Nodup:=by decide+kernel
 have nd3:(["_law_one","_law_price_here"]:List Str).Nodup:=by decide+kernel
 refine fQ (N:=["_law_script","_law_start","_law_size_here","_law_head","_law_factor","_law_many","_law_kit_here","_law_k","_law_cell","_law_step"]) (ps:=["_law_script","_law_start","_law_size_here"]) (k:=2) F ⟨rfl,rfl,rfl,nd,rfl,by decide+kernel,by decide+kernel⟩ hm (fun _ _ _ _ _ _ us hl=>match us,hl with | [_,_,_],_=>rfl) fun cdv A outer s H E hr ds r hl c=> ?_
 obtain ⟨p,ns,st,hp,hst,rfl,rfl⟩:=c; have hr1:=hr.mono (show 1≤2 by decide); have hu:(A.deeper (envOfC "_law_kit" (aV xK) s.heap.objs.size f cdv)).units+4<cLine:=by have:=hr.un; omega
 have mx:∀ {sd:List Slot} {x:Str} {p1 p2 p3 p4:Pos} {j1:Nat} (i:Nat) (c:Int) (k:Nat),k≤400→sd[i]? =some (.val (.int c))→PE (lE CX0 P w K mg base ["_law_script","_law_start","_law_size_here","_law_head","_law_factor","_law_many","_law_kit_here","_law_k","_law_cell","_law_step"] "_law_kit" (aV xK) f cdv A outer s H E).nox (.Name x p2) (lY i)→PEd (lE CX0 P w K mg base ["_law_script","_law_start","_law_size_here","_law_head","_law_factor","_law_many","_law_kit_here","_law_k","_law_cell","_law_step"] "_law_kit" (aV xK) f cdv A outer s H E).nox sd (.Call (.Name "_law_mixed" p1) [.Name x p2, .Constant (.int (k:Int)) j1 p3] [] p4) (.val (.int (mxS c k))):=fun i c k hk hs hx=>cU (ds:=[.int c, .int (k:Int)]) GM hr1 rfl (aH (aE i hs hx) (aH bF bD)) ⟨c,k,rfl,hk,rfl⟩ trivial rfl
 refine aJ (dG (d:= .int (ns.getD st 0)) 3 nd rfl (Or.inl rfl) (cU (ds:=[.scr ns, .int (st:Int)]) GC hr1 rfl (aH (aE 0 rfl (pv 0)) (aH (aE 1 rfl (pv 1)) bD)) ⟨ns,st,rfl,by omega,rfl⟩ trivial rfl) ?_); have eK:vL p ns st=gL p ns st (nR (ns.getD st 0)) (oF (ns.getD st 0)):=rfl; rw [eK]; generalize ns.getD st 0=c; have hf:=wF c; obtain ⟨m1,m2⟩:=yA c; have eF:(([1,1,3]:List Int).map D.int)[(mxS c 10%3).toNat]? =some (.int (nR c)):=intsAt (show (mxS c 10%3).toNat<([1,1,3]:List Int).length from (iD (mxS c 10) (n:=3) (by decide)).1); refine aJ (dG (d:= .int (nR c)) 4 nd rfl (Or.inl rfl) (pP (i:=mxS c 10%3) (ds:=([1,1,3]:List Int).map D.int) (PEd.bor (PEd.val (jN (ds:=[.int 1, .int 1, .int 3]) (aH bF (aH bF (aH bF bD))) (aO rfl)))) (dX gO (mx 3 c 10 (by decide) rfl (pv 3)) bF (by decide)) (iD (mxS c 10) (n:=3) (by decide)).2 eF fun _ _=>rfl) ?_); refine aJ (dG (d:= .int ((oF c:Nat):Int)) 5 nd rfl (Or.inl rfl) (PEd.ic (gQ iL (gQ iL bF (dX gO (mx 3 c 11 (by decide) rfl (pv 3)) bF (by decide))) (pd_intB rfl zint (pd_eqI (dX gO (mx 3 c 12 (by decide) rfl (pv 3)) bF (by decide)) bF))) ?_) ?_)
 ·have h0:=(iD (mxS c 11) (n:=4) (by decide)).2; have h0:0≤mxS c 11%4:=h0; unfold oF
  by_cases h:mxS c 12%8=1
  ·rw [if_pos h,if_pos (decide_eq_true h)]; omega
  ·rw [if_neg h,if_neg (by simpa using h)]; omega
 generalize nR c=fc at hf; generalize oF c=mn at m1 m2; refine aJ (gM (ds:=([]:List SK).map skD) 6 nd rfl (Or.inl rfl) (jN (ds:=[]) bD (dA _)) fun l3=> ?_); refine aJ (hW (ds:=jD 0 mn) (fun t sd=>sd=[.val (.scr ns), .val (.int (st:Int)), .val (dI p), .un, .val (.int fc), .un, .own l3 ((gL p ns st fc t).map skD), .un, .un, .un]) (kT (n:=mn) rfl zrange (aE 5 rfl (pv 5)) (by omega)) ⟨[.val (.scr ns), .val (.int (st:Int)), .val (dI p), .un, .val (.int fc), .un, .own l3 ((gL p ns st fc 0).map skD), .un, .un, .un],⟨.inr rfl, .inr rfl, .inr rfl, .inl rfl, .inr rfl, .inl rfl, .inr rfl, .inr rfl, .inr rfl, .inr rfl,trivial⟩,rfl⟩ (fun t d sdt hd ht=> ?_) fun sdn hn=> ?_)
 ·subst ht; obtain ⟨ht,rfl⟩:=kX hd; rw [Int.zero_add]; refine ⟨[.val (.scr ns), .val (.int (st:Int)), .val (dI p), .un, .val (.int fc), .un, .own l3 ((gL p ns st fc t).map skD), .val (.int (t:Int)), .un, .un],fM 7 (dR (i:=7) nd rfl (Or.inl rfl)), ?_⟩; have ll:(gL p ns st fc t).length≤5:=eD (tV hp ns st hf t).1 (by omega); have eN:gL p ns st fc (t+1)=if vV (gL p ns st fc t) (drQ p (ns.getD (st+1+t) 0)) then gL p ns st fc t else gL p ns st fc t++[(drQ p (ns.getD (st+1+t) 0),fc * zQ (ns.getD (st+1+t) 0))]:=rfl
  rw [eN]; refine aJ (dG (d:= .int (ns.getD (st+1+t) 0)) 8 nd rfl (Or.inl rfl) (cU (ds:=[.scr ns, .int ((st+1+t:Nat):Int)]) GC hr1 rfl (aH (aE 0 rfl (pv 0)) (aH (PEd.ic (gQ iL (gQ iL (aE 1 rfl (pv 1)) bF) (aE 7 rfl (pv 7))) (by omega)) bD)) ⟨ns,st+1+t,rfl,by omega,rfl⟩ trivial rfl) ?_); generalize ns.getD (st+1+t) 0=x; generalize gL p ns st fc t=L at *; refine aJ (dG (d:=sqD (drQ p x)) 9 nd rfl (Or.inl rfl) (cU (ds:=[dI p, .int x]) GD hr rfl (aH (aE 2 rfl (pv 2)) (aH (aE 8 rfl (pv 8)) bD)) ⟨p,x,hp,rfl,rfl⟩ trivial rfl) ?_); generalize drQ p x=q
  have plc:plL ((L.map skD).map uC)=true∧jJ ((L.map skD).map uC)≤1:=by rw [bM]; exact ⟨plL_map (fun s:SK=>uC (skD s)) (fun s=>pl_sq s.1) _,depL_map (fun s:SK=>uC (skD s)) 1 (fun s=>Nat.le_of_eq (dep_sq s.1)) _⟩
  have ef:((L.map skD).filter fun _=>true).map uC=(L.map skD).map uC:=by rw [eH.mpr (fun _ _=>rfl)]
  have es:((L.map skD).map uC).any (fun z=>deq z (sqD q))=vV L q:=by unfold vV; rw [bM]; rfl
  have pb:=pr41_ok x; have eP:(([1,1,2,3]:List Int).map D.int)[(mxS x 5%4).toNat]? =some (.int (zQ x)):=intsAt (show (mxS x 5%4).toNat<([1,1,2,3]:List Int).length from (iD (mxS x 5) (n:=4) (by decide)).1); refine bP (iK (k:= !vV L q) (PTd.lend 6 rfl (oth_b rfl) (PTd.cast (ptd_ninD (aE 9 rfl (pv 9)) (PEd.val (PEd.cast (jL (ds:=L.map skD) (N:=["_law_one","_law_price_here"]) (M:=["_law_script","_law_start","_law_size_here","_law_head","_law_factor","_law_many","_law_kit_here","_law_k","_law_cell","_law_step"]) (cap:=[none,none]) (sc:=aV xK) (Tb:=two45) (fun _=>true) uC (jI (aE 6 rfl (pv 6))) (by rw [aG]; omega) rfl (by decide+kernel) rfl (by decide+kernel) rfl (fun cl C fp s H d hd=> ?_) (fun d hd=> ?_) (fun cl C fp s H d hd=> .inl ⟨rfl,rfl⟩) fun cl C fp s H d hd _=> ?_) (by rw [ef]))) (pl_sq q) plc.1 (by have:=plc.2; show (A.deeper (envOfC "_law_kit" (aV xK) s.heap.objs.size f cdv)).units+1+_<cLine; omega)) (by rw [es]))) (fun h=> ?_) fun h=> ?_)
  ·obtain ⟨s,_,rfl⟩:=bH.mp hd; exact nA (js:=[0,1]) rfl (gJ (dR (i:=0) nd3 rfl (Or.inl rfl)) (gJ (dR (i:=1) nd3 rfl (Or.inl rfl)) mT)) rfl rfl
  ·obtain ⟨s,_,rfl⟩:=bH.mp hd; exact ⟨.inl rfl, .inl rfl,trivial⟩
  ·obtain ⟨s,_,rfl⟩:=bH.mp hd; exact (aE 0 rfl (pv 0))
  ·have h':vV L q=false:=by simpa using h
   rw [h']; refine bP (qO (d:=skD (q,fc * zQ x)) 6 rfl (pv 6) (gA (ds:=[sqD q, .int (fc * zQ x)]) (aH (aE 9 rfl (pv 9)) (aH (dX iY (aE 4 rfl (pv 4)) (pP (i:=mxS x 5%4) (ds:=([1,1,2,3]:List Int).map D.int) (PEd.bor (PEd.val (jN (ds:=[.int 1, .int 1, .int 2, .int 3]) (aH bF (aH bF (aH bF (aH bF bD)))) (aO rfl)))) (dX gO (mx 8 x 5 (by decide) rfl (pv 8)) bF (by decide)) (iD (mxS x 5) (n:=4) (by decide)).2 eP fun _ _=>rfl) (iF (cD (by omega:_≤3) (by decide)) (cD (by omega:_≤3) (by decide)))) bD)) (aO rfl)) (by rw [aG]; omega) ⟨[.val (.scr ns), .val (.int (st:Int)), .val (dI p), .un, .val (.int fc), .un, .own l3 ((L++[(q,fc * zQ x)]).map skD), .un, .un, .un],⟨.inr rfl, .inr rfl, .inr rfl, .inr rfl, .inr rfl, .inr rfl, .inr ?_, .inl rfl, .inl rfl, .inl rfl,trivial⟩,rfl⟩); rw [bR]; rfl
  ·have h':vV L q=true:=by simpa using h
   rw [h']; exact cX ⟨[.val (.scr ns), .val (.int (st:Int)), .val (dI p), .un, .val (.int fc), .un, .own l3 (L.map skD), .un, .un, .un],⟨.inr rfl, .inr rfl, .inr rfl, .inr rfl, .inr rfl, .inr rfl, .inr rfl, .inl rfl, .inl rfl, .inl rfl,trivial⟩,rfl⟩
 ·subst hn; rw [iT]; refine mX 6 rfl ?_; exact bP (cJ (gA (ds:=[.lst ((gL p ns st fc mn).map skD), .int fc]) (aH (aE 6 rfl (pv 6)) (aH (aE 4 rfl (pv 4)) bD)) (aO rfl)) trivial rfl)
theorem ok_bnd41 (F:Fun K "_law_bound" "_law_bound" sBnd f fd) (zlen:mg "len"=none) (hm:mg "_law_bound"=some (.ref f)):bZ P w K mg base "_law_bound" 1 3 CBnd41:=by
 have nd:(["_law_cell","_law_kit_here","_law_factor"]:List Str).Nodup:=by decide+kernel
 refine fQ (N:=["_law_cell","_law_kit_here","_law_factor"]) (ps:=["_law_cell","_law_kit_here","_law_factor"]) (k:=0) F ⟨rfl,rfl,rfl,nd,rfl,by decide+kernel,by decide+kernel⟩ hm (fun _ _ _ _ _ _ us hl=>match us,hl with | [_,_,_],_=>rfl) fun cdv A outer s H E hr ds r hl c=> ?_
 obtain ⟨c,L,fc,l1,l2,hf,rfl,rfl⟩:=c; have g0:∀n:Nat,n<5→([12,5,4,3,2]:List Int).getD n 0=((([12,5,4,3,2]:List Nat).getD n 0:Nat):Int):=by decide+kernel
 have g:∀n:Nat,n<5→(([12,5,4,3,2]:List Int).map D.int)[n]? =some (.int ((([12,5,4,3,2]:List Nat).getD n 0:Nat):Int)):=fun n hn=>by rw [← g0 n hn]; exact intsAt hn
 have g2:∀n:Nat,n<5→([12,5,4,3,2]:List Nat).getD n 0≤12:=by decide+kernel
 have gm:nM L.length≤12:=g2 _ (by omega); have h0:=eU c (show (nM L.length:Int)+1≠0 by omega); have h1:=dQ c (show (0:Int)<(nM L.length:Int)+1 by omega); refine bP (cJ (PEd.ic (gQ iL (dX iY (aE 2 rfl (pv 2)) (dX gO (aE 0 rfl (pv 0)) (gQ iL (pP (i:=(L.length:Int) - 1) (d:= .int ((nM L.length:Nat):Int)) (ds:=([12,5,4,3,2]:List Int).map D.int) (PEd.bor (PEd.val (jN (ds:=[.int 12, .int 5, .int 4, .int 3, .int 2]) (aH bF (aH bF (aH bF (aH bF (aH bF bD))))) (aO rfl)))) (gQ qS (PEd.ic (pO rfl zlen (PEd.bor (aE 1 rfl (pv 1)))) (by rw [aG])) bF) (by omega) ?_ fun _ _=>rfl) bF) (by omega)) (iF (cD (by omega:_≤3) (by decide)) (cD (by omega:_≤13) (by decide)))) (dX gO (dX rA (aE 0 rfl (pv 0)) bF ⟨by decide,by decide⟩) (aE 2 rfl (pv 2)) (by omega))) rfl) trivial rfl); have e:((L.length:Int) - 1).toNat=L.length - 1:=by omega
 rw [e]; exact g _ (by omega)
theorem ok_lpr41 (F:Fun K "_law_price" "_law_price" sLPr f fd) (zsum:mg "sum"=none) (hm:mg "_law_price"=some (.ref f)):bZ P w K mg base "_law_price" 1 2 CPr41:=by
 have nd:(["_law_kit_here","_law_row"]:List Str).Nodup:=by decide+kernel
 refine fQ (N:=["_law_kit_here","_law_row"]) (ps:=["_law_kit_here","_law_row"]) (k:=0) F ⟨rfl,rfl,rfl,nd,rfl,by decide+kernel,by decide+kernel⟩ hm (fun _ _ _ _ _ _ us hl=>match us,hl with | [_,_],_=>rfl) fun cdv A outer s H E hr ds r hl c=> ?_
 obtain ⟨L,row,hrow,hl2,rfl,rfl⟩:=c; have nd2:(["_law_number","_law_kit_here"]:List Str).Nodup:=by decide+kernel
 have ec:((cG row).filter fun _=>true).map (fun d=>match d with | .int t=>D.int (L.getD t.toNat default).2 | _=> .non)=(prcL L row).map D.int:=by
  rw [eH.mpr (fun _ _=>rfl)]; unfold cG prcL; rw [bM,bM]; refine cR fun t _=> ?_
  simp
 refine bP (cJ (PEd.ic (pd_sumL (ns:=prcL L row) rfl zsum (PEd.bor (PEd.val (PEd.cast (jL (ds:=cG row) (N:=["_law_number","_law_kit_here"]) (M:=["_law_kit_here","_law_row"]) (cap:=[none,some 0]) (sc:=aV sLPr) (Tb:=fun d=>[.val d, .val (.lst (L.map skD))]) (fun _=>true) (fun d=>match d with | .int t=>D.int (L.getD t.toNat default).2 | _=> .non) (lD (aE 1 rfl (pv 1))) (by rw [show (cG row).length=row.length from aG _]; omega) rfl (by decide+kernel) rfl (by decide+kernel) rfl (fun cl C fp s H d _=>fM 0 (dR (i:=0) nd2 rfl (Or.inl rfl))) (fun d _=>⟨.inl rfl, .inr rfl,trivial⟩) (fun cl C fp s H d hd=> .inl ⟨rfl,rfl⟩) fun cl C fp s H d hd _=> ?_) (by rw [ec]))))) (sum_pr L row)) trivial rfl); obtain ⟨t,ht,rfl⟩:=bH.mp hd; have hn:=hrow t ht; exact dS (n:=1) (ds:=[sqD (L.getD t default).1, .int (L.getD t default).2]) (sR (n:=t) (PEd.bor (aE 1 rfl (pv 1))) (aE 0 rfl (pv 0)) (sk_get hn) fun _ _=>rfl) bF rfl fun _ _=>rfl
theorem ok_key41 (F:Fun K "_law_key" "_law_key" sKey f fd) (zlen:mg "len"=none) (hm:mg "_law_key"=some (.ref f)) (GP:bZ P w K mg base "_law_price" 1 2 CPr41):bZ P w K mg base "_law_key" 2 2 CKey41:=by
 have nd:(["_law_kit_here","_law_row"]:List Str).Nodup:=by decide+kernel
 refine fQ (N:=["_law_kit_here","_law_row"]) (ps:=["_law_kit_here","_law_row"]) (k:=1) F ⟨rfl,rfl,rfl,nd,rfl,by decide+kernel,by decide+kernel⟩ hm (fun _ _ _ _ _ _ us hl=>match us,hl with | [_,_],_=>rfl) fun cdv A outer s H E hr ds r hl c=> ?_
 obtain ⟨L,row,ho,rl,rfl,rfl⟩:=c; exact bP (cJ (gA (ds:=[.int (S45.prQ (prK L) row), .int (row.length:Int), .tup (cG row)]) (aH (cU (ds:=[.lst (L.map skD), .tup (cG row)]) GP hr rfl (aH (aE 0 rfl (pv 0)) (aH (aE 1 rfl (pv 1)) bD)) ⟨L,row,ho,rl,rfl,rfl⟩ trivial rfl) (aH (PEd.ic (uO rfl zlen (aE 1 rfl (pv 1))) (by rw [pI])) (aH (aE 1 rfl (pv 1)) bD))) (aO rfl)) trivial rfl)
theorem ok_tab41 (F:Fun K "_law_table" "_law_table" sTab f fd) (ztuple:mg "tuple"=none) (hm:mg "_law_table"=some (.ref f)) (GF:bZ P w K mg base "_law_fillings" 1 1 zV):bZ P w K mg base "_law_table" 2 3 (CTab41 P w K):=by
 have nd:(["_law_size_here","_law_moves_here","_law_row","_law_table_here","_law_number"]:List Str).Nodup:=by decide+kernel
 have nd2:(["_law_filling","_law_moves_here","_law_number"]:List Str).Nodup:=by decide+kernel
 refine fQ (N:=["_law_size_here","_law_moves_here","_law_row","_law_table_here","_law_number"]) (ps:=["_law_size_here","_law_moves_here","_law_row"]) (k:=1) F ⟨rfl,rfl,rfl,nd,rfl,by decide+kernel,by decide+kernel⟩ hm (fun _ _ _ _ _ _ us hl=>match us,hl with | [_,_,_],_=>rfl) fun cdv A outer s H E hr ds r hl c=> ?_
 obtain ⟨p,L,row,hp,S,ho,rl,rfl,rfl⟩:=c; have hu:(A.deeper (envOfC "_law_table" (aV sTab) s.heap.objs.size f cdv)).units+2<cLine:=by have:=hr.un; omega
 refine aJ (dG (d:= .tup ((eV p).map bT)) 3 nd rfl (Or.inl rfl) (kU rfl ztuple (PEd.bor (PEd.val (cU (ds:=[dI p]) GF hr rfl (aH (aE 0 rfl (pv 0)) bD) ⟨p,hp,rfl,rfl⟩ trivial rfl)))) ?_); refine aJ (hW (ds:=cG row) (fun t sd=>sd=[.val (dI p), .val (.lst (L.map (mgD P w K p))), .val (.tup (cG row)), .val (.tup ((S45.tabQ (qA p L) (eV p) (row.take t)).map bT)), .un]) (lD (aE 2 rfl (pv 2))) ⟨_,Le.refl _,rfl⟩ (fun t d sdt hd ht=> ?_) fun sdn hn=> ?_)
 ·subst ht; obtain ⟨k,hk,rfl,et⟩:=lG hd; have kl:k<L.length:=ho k (aY hk); have hot:gY L (row.take t):=fun i hi=>ho i (qH hi)
  have tl:=yS hp S hot; have ti:=vO hp S hot; rw [et,S45.tab_snoc]; have eB:∀T,qA p L k T=T.map (onQ p (L.getD k default).1):=fun _=>rfl
  rw [eB]
  have mv1:(L.map (mgD P w K p))[k]? =some (mgD P w K p (L.getD k default)):=by rw [bG]; simp [cY,kl]
  generalize S45.tabQ (qA p L) (eV p) (row.take t)=tab at tl ti; generalize L.getD k default=sk at mv1; refine ⟨[.val (dI p), .val (.lst (L.map (mgD P w K p))), .val (.tup (cG row)), .val (.tup (tab.map bT)), .val (.int (k:Int))],fM 4 (dR (i:=4) nd rfl (Or.inr rfl)), ?_⟩
  have ec:((tab.map bT).filter fun _=>true).map (fun d=>bT (onQ p sk.1 (nE d)))=(tab.map (onQ p sk.1)).map bT:=by
   rw [eH.mpr (fun _ _=>rfl),bM,bM]; refine cR fun ws _=> ?_
   show bT (onQ p sk.1 (nE (bT ws)))=_; rw [kR]; rfl
  refine bP (dG (d:= .tup ((tab.map (onQ p sk.1)).map bT)) 3 nd rfl (Or.inl rfl) (kU rfl ztuple (PEd.bor (PEd.val (PEd.cast (jL (ds:=tab.map bT) (N:=["_law_filling","_law_moves_here","_law_number"]) (M:=["_law_size_here","_law_moves_here","_law_row","_law_table_here","_law_number"]) (cap:=[none,some 1,some 4]) (sc:=aV sTab) (Tb:=fun d=>[.val d, .val (.lst (L.map (mgD P w K p))), .val (.int (k:Int))]) (fun _=>true) (fun d=>bT (onQ p sk.1 (nE d))) (lD (aE 3 rfl (pv 3))) (by rw [aG]; omega) rfl (by decide+kernel) rfl (by decide+kernel) rfl (fun cl C fp s H d hd=>fM 0 (dR (i:=0) nd2 rfl (Or.inl rfl))) (fun d hd=>⟨.inl rfl, .inr rfl, .inr rfl,trivial⟩) (fun cl C fp s H d hd=> .inl ⟨rfl,rfl⟩) fun cl C2 fp s H d hd _=> ?_) (by rw [ec]))))) ⟨[.val (dI p), .val (.lst (L.map (mgD P w K p))), .val (.tup (cG row)), .val (.tup ((tab.map (onQ p sk.1)).map bT)), .un],⟨.inr rfl, .inr rfl, .inr rfl, .inr rfl, .inl rfl,trivial⟩,rfl⟩); obtain ⟨ws,hw,rfl⟩:=wY hd; obtain ⟨i,hi⟩:=fH (ti ws hw); rw [kR]; exact yW (hk:=hkT P w) (k:=inK ws) (n:=i) (d:=bT (onQ p sk.1 ws)) hu (uV (sR (n:=k) (PEd.bor (aE 1 rfl (pv 1))) (aE 2 rfl (pv 2)) mv1 fun _ _=>rfl)) (PEd.cast (aE 0 rfl (pv 0)) (by rw [show (hkT P w).dat (inK ws)=tD (inK ws) from rfl,inK_D])) (by rw [bG,hi]; rfl) (by rw [bG,hi]; rfl) fun _ _=>rfl
 ·subst hn; rw [pI,gB]; exact bP (cJ (aE 3 rfl (pv 3)) trivial rfl)
noncomputable def CWhole:List D→R→Prop:=fun ds r=>∃d,ds=[d]∧(Unit→∃i,d= .int i)∧r= .val (.bl true)
theorem ok_lwhole (F:Fun K "_law_whole" "_law_whole" qY f fd) (zisinstance:mg "isinstance"=none) (zint:mg "int"=none) (zbool:mg "bool"=none) (hm:mg "_law_whole"=some (.ref f)):bZ P w K mg base "_law_whole" 1 1 CWhole:=by
 have nd:(["_law_found"]:List Str).Nodup:=by decide+kernel
 refine fQ (N:=["_law_found"]) (ps:=["_law_found"]) (k:=0) F ⟨rfl,rfl,rfl,nd,rfl,by decide+kernel,by decide+kernel⟩ hm (fun _ _ _ _ _ _ us hl=>match us,hl with | [_],_=>rfl) fun cdv A outer s H E hr ds r hl c=> ?_
 obtain ⟨d,rfl,hd,rfl⟩:=c; obtain ⟨i,rfl⟩:=hd (); exact bP (cJ (PEd.cast (pd_and (oC rfl zisinstance rfl zint PyProof.Rows.boot_int (aE 0 rfl (pv 0)) (fun _=>by simp) (kit_int _ (.int i))) fun _=>pd_one (pd_not (oC rfl zisinstance rfl zbool PyProof.Rows.boot_bool (aE 0 rfl (pv 0)) (fun _=>by simp) (kit_bool _ (.int i))))) rfl) trivial rfl)
theorem ok_it40 (F:Fun K "_law_is_table" "_law_is_table" sIt f fd) (zisinstance:mg "isinstance"=none) (ztuple:mg "tuple"=none) (zlen:mg "len"=none) (hm:mg "_law_is_table"=some (.ref f)) (GW:bZ P w K mg base "_law_whole" 1 1 CWhole):bZ P w K mg base "_law_is_table" 2 3 CIt40:=by
 have nd:(["_law_found","_law_size_here","_law_many","_law_filling"]:List Str).Nodup:=by decide+kernel
 have nd2:(["_law_word_here"]:List Str).Nodup:=by decide+kernel
 refine fQ (N:=["_law_found","_law_size_here","_law_many","_law_filling"]) (ps:=["_law_found","_law_size_here","_law_many"]) (k:=1) F ⟨rfl,rfl,rfl,nd,rfl,by decide+kernel,by decide+kernel⟩ hm (fun _ _ _ _ _ _ us hl=>match us,hl with | [_,_,_],_=>rfl) fun cdv A outer s H E hr ds r hl c=> ?_
 obtain ⟨p,T,hp,tl,ti,rfl,rfl⟩:=c; obtain ⟨s1,s2,s3,s4,s5⟩:=sS p hp; refine aJ (eJ (k:=false) (PWd.pt (jC (k:=false) (j:=false) (iW (k:=true) (kG (PEd.cast (oC rfl zisinstance rfl ztuple PyProof.Rows.boot_tuple (aE 0 rfl (pv 0)) (fun _=>by simp) (pN _ _)) rfl))) fun _=>jZ (PTd.cast (uZ (i:=(T.length:Int)) (j:=(T.length:Int)) (PEd.ic (uO rfl zlen (aE 0 rfl (pv 0))) (by rw [aG])) (aE 2 rfl (pv 2))) (by simp)))) rfl (cX ?_)); refine aJ (hW (ds:=T.map bT) (fun t sd=>sd=[.val (.tup (T.map bT)), .val (dI p), .val (.int (T.length:Int)), .un]) (lD (aE 0 rfl (pv 0))) ⟨_,Le.refl _,rfl⟩ (fun t d sdt hd ht=> ?_) fun sdn hn=> ?_)
 ·subst ht; obtain ⟨ws,hw,rfl,_⟩:=lG hd; have wl:=(uX hp (ti ws (aY hw))).len; refine ⟨[.val (.tup (T.map bT)), .val (dI p), .val (.int (T.length:Int)), .val (bT ws)],fM 3 (dR (i:=3) nd rfl (Or.inl rfl)), ?_⟩; refine aJ (eJ (k:=false) (PWd.pt (jC (k:=false) (j:=false) (iW (k:=true) (kG (PEd.cast (oC rfl zisinstance rfl ztuple PyProof.Rows.boot_tuple (aE 3 rfl (pv 3)) (fun _=>by simp [bT]) (pN _ _)) rfl))) fun _=>jZ (PTd.cast (uZ (i:=p.2) (j:=p.2) (PEd.ic (uO (ds:=ws.map D.int) rfl zlen (aE 3 rfl (pv 3))) (by rw [aG]; omega)) (dS (n:=1) (d:= .int p.2) (aE 1 rfl (pv 1)) bF rfl fun _ _=>rfl)) (by simp)))) rfl (cX ?_)); refine bP (eJ (k:=false) (PTd.cast (oE (g:=fun i j=>decide (j<i)) (i:=0) (j:=0) op_gt (PEd.ic (pO rfl zlen (PEd.bor (PEd.val (PEd.cast (jL (ds:=ws.map D.int) (N:=["_law_word_here"]) (M:=["_law_found","_law_size_here","_law_many","_law_filling"]) (cap:=[none]) (sc:=aV sIt) (Tb:=fun d=>[.val d]) (fun d=> !isI d) (fun d=>d) (lD (aE 3 rfl (pv 3))) (by rw [aG]; omega) rfl (by decide+kernel) rfl (by decide+kernel) rfl (fun cl C fp s H d _=>fM 0 (dR (i:=0) nd2 rfl (Or.inl rfl))) (fun d _=>⟨.inl rfl,trivial⟩) (fun cl C fp s H d hd=> .inr ⟨_,rfl,iW (kG (cU (ds:=[d]) (r:= .val (.bl (isI d))) GW hr rfl (aH (aE 0 rfl (pv 0)) bD) ⟨d,rfl, ?_, ?_⟩ trivial rfl))⟩) fun cl C fp s H d _ _=>(aE 0 rfl (pv 0))) (by rw [ints_noI]))))) rfl) bF (iU _)) rfl) rfl (cX ?_))
  ·obtain ⟨x,_,rfl⟩:=bH.mp hd; exact fun _=>⟨x,rfl⟩
  ·obtain ⟨x,_,rfl⟩:=bH.mp hd; rfl
  ·exact ⟨[.val (.tup (T.map bT)), .val (dI p), .val (.int (T.length:Int)), .un],⟨.inr rfl, .inr rfl, .inr rfl, .inl rfl,trivial⟩,rfl⟩
 ·subst hn; exact bP (cJ pd_bl trivial rfl)
theorem ok_ie40 (F:Fun K "_law_is_entry" "_law_is_entry" sIe f fd) (zisinstance:mg "isinstance"=none) (ztuple:mg "tuple"=none) (zlen:mg "len"=none) (hm:mg "_law_is_entry"=some (.ref f)) (GW:bZ P w K mg base "_law_whole" 1 1 CWhole) (GI:bZ P w K mg base "_law_is_table" 2 3 CIt40) (GP:bZ P w K mg base "_law_price" 1 2 CPr41) (GT:bZ P w K mg base "_law_table" 2 3 (CTab41 P w K)):bZ P w K mg base "_law_is_entry" 3 4 (CIe40 P w K):=by
 have nd:(["_law_found","_law_size_here","_law_kit_here","_law_moves_here","_law_number"]:List Str).Nodup:=by decide+kernel
 refine fQ (N:=["_law_found","_law_size_here","_law_kit_here","_law_moves_here","_law_number"]) (ps:=["_law_found","_law_size_here","_law_kit_here","_law_moves_here"]) (k:=2) F ⟨rfl,rfl,rfl,nd,rfl,by decide+kernel,by decide+kernel⟩ hm (fun _ _ _ _ _ _ us hl=>match us,hl with | [_,_,_,_],_=>rfl) fun cdv A outer s H E hr ds r hl c=> ?_
 obtain ⟨p,L,b,B,e,hp,S,O,he,rfl,rfl⟩:=c; obtain ⟨x1,x2,x3,x4,x5⟩:=O.ent e he; have hr1:=hr.mono (show 1≤2 by decide); have hu:(A.deeper (envOfC "_law_is_entry" (aV sIe) s.heap.objs.size f cdv)).units+5<cLine:=by have:=hr.un; omega
 have f9:(eV p).length≤64:=pV hp; have l8:=S.le; obtain ⟨s1,s2,s3,s4,s5⟩:=sS p hp; have tlen:e.2.2.length=(eV p).length:=by rw [x4]; exact tab_all hp S x1
 have tin:∀ws∈e.2.2,ws∈eV p:=by rw [x4]; exact vO hp S x1
 have at0:∀ {sd:List Slot} {p1 p2 p3:Pos} {j1:Nat},sd[0]? =some (.val (enD e))→PEd (lE CX0 P w K mg base ["_law_found","_law_size_here","_law_kit_here","_law_moves_here","_law_number"] "_law_is_entry" (aV sIe) f cdv A outer s H E).nox sd (.Subscript (.Name "_law_found" p1) (.Constant (.int 0) j1 p2) p3) (.val (.int e.1)):=fun h=>dS (n:=0) (ds:=[.int e.1, .tup (cG e.2.1), .tup (e.2.2.map bT)]) (aE 0 h (pv 0)) bF rfl fun _ _=>rfl
 have at1:∀ {sd:List Slot} {p1 p2 p3:Pos} {j1:Nat},sd[0]? =some (.val (enD e))→PEd (lE CX0 P w K mg base ["_law_found","_law_size_here","_law_kit_here","_law_moves_here","_law_number"] "_law_is_entry" (aV sIe) f cdv A outer s H E).nox sd (.Subscript (.Name "_law_found" p1) (.Constant (.int 1) j1 p2) p3) (.val (.tup (cG e.2.1))):=fun h=>dS (n:=1) (ds:=[.int e.1, .tup (cG e.2.1), .tup (e.2.2.map bT)]) (aE 0 h (pv 0)) bF rfl fun _ _=>rfl
 have at2:∀ {sd:List Slot} {p1 p2 p3:Pos} {j1:Nat},sd[0]? =some (.val (enD e))→PEd (lE CX0 P w K mg base ["_law_found","_law_size_here","_law_kit_here","_law_moves_here","_law_number"] "_law_is_entry" (aV sIe) f cdv A outer s H E).nox sd (.Subscript (.Name "_law_found" p1) (.Constant (.int 2) j1 p2) p3) (.val (.tup (e.2.2.map bT))):=fun h=>dS (n:=2) (ds:=[.int e.1, .tup (cG e.2.1), .tup (e.2.2.map bT)]) (aE 0 h (pv 0)) bF rfl fun _ _=>rfl
 refine aJ (eJ (k:=false) (PWd.pt (jC (k:=false) (j:=false) (iW (k:=true) (kG (PEd.cast (oC rfl zisinstance rfl ztuple PyProof.Rows.boot_tuple (aE 0 rfl (pv 0)) (fun _=>by simp [enD]) (pN _ _)) rfl))) fun _=>jC (k:=false) (j:=false) (PTd.cast (uZ (i:=3) (j:=3) (PEd.ic (uO (ds:=[.int e.1, .tup (cG e.2.1), .tup (e.2.2.map bT)]) rfl zlen (aE 0 rfl (pv 0))) rfl) bF) rfl) fun _=>jC (k:=false) (j:=false) (iW (k:=true) (kG (cU (ds:=[.int e.1]) (r:= .val (.bl true)) GW hr1 rfl (aH (at0 rfl) bD) ⟨.int e.1,rfl,fun _=>⟨e.1,rfl⟩,rfl⟩ trivial rfl))) fun _=>jZ (iW (k:=true) (kG (PEd.cast (oC rfl zisinstance rfl ztuple PyProof.Rows.boot_tuple (at1 rfl) (fun _=>by simp) (pN _ _)) rfl))))) rfl (cX ?_)); refine aJ (hW (ds:=cG e.2.1) (fun t sd=>sd=[.val (enD e), .val (dI p), .val (.lst (L.map skD)), .val (.lst (L.map (mgD P w K p))), .un]) (lD (at1 rfl)) ⟨_,Le.refl _,rfl⟩ (fun t d sdt hd ht=> ?_) fun sdn hn=> ?_)
 ·subst ht; obtain ⟨k,hk,rfl,_⟩:=lG hd; have kl:k<L.length:=x1 k (aY hk); refine ⟨[.val (enD e), .val (dI p), .val (.lst (L.map skD)), .val (.lst (L.map (mgD P w K p))), .val (.int (k:Int))],fM 4 (dR (i:=4) nd rfl (Or.inl rfl)), ?_⟩; refine bP (eJ (k:=false) (PWd.pt (jC (k:=false) (j:=false) (iW (k:=true) (kG (cU (ds:=[.int (k:Int)]) (r:= .val (.bl true)) GW hr1 rfl (aH (aE 4 rfl (pv 4)) bD) ⟨.int (k:Int),rfl,fun _=>⟨(k:Int),rfl⟩,rfl⟩ trivial rfl))) fun _=>jZ (PTd.cast (iW (ptd_chain45 (g:=fun i j=>decide (i≤j)) (g':=fun i j=>decide (i<j)) op_le op_lt bF (aE 4 rfl (pv 4)) (PEd.ic (pO rfl zlen (PEd.bor (aE 2 rfl (pv 2)))) (by rw [aG])))) ?_))) rfl (cX ⟨[.val (enD e), .val (dI p), .val (.lst (L.map skD)), .val (.lst (L.map (mgD P w K p))), .un],⟨.inr rfl, .inr rfl, .inr rfl, .inr rfl, .inl rfl,trivial⟩,rfl⟩)); have a1:decide ((0:Int)≤(k:Int))=true:=decide_eq_true (by omega); have a2:decide ((k:Int)<(L.length:Int))=true:=decide_eq_true (by omega); rw [a1,a2]; rfl
 ·subst hn
  have e2:((2^(p.1.toNat * p.2.toNat):Nat):Int)=(e.2.2.length:Int):=by rw [tlen]; unfold eV; rw [rX,← Nat.pow_mul]
  have em:p.1 * p.2=((p.1.toNat * p.2.toNat:Nat):Int):=by rw [Int.natCast_mul]; congr 1<;>omega
  have m6:p.1.toNat * p.2.toNat≤1000:=by
   have:((p.1.toNat * p.2.toNat:Nat):Int)≤6:=by rw [← em]; exact s5
   omega
  refine aJ (eJ (k:=false) (PWd.pt (jC (k:=false) (j:=false) (iW (k:=true) (kG (cU (ds:=[.tup (e.2.2.map bT),dI p, .int (e.2.2.length:Int)]) GI hr rfl (aH (at2 rfl) (aH (aE 1 rfl (pv 1)) (aH (PEd.ic (vA (k:=p.1.toNat * p.2.toNat) (PEd.ic (dX iY (dS (n:=0) (d:= .int p.1) (aE 1 rfl (pv 1)) bF rfl fun _ _=>rfl) (dS (n:=1) (d:= .int p.2) (aE 1 rfl (pv 1)) bF rfl fun _ _=>rfl) (iF (cD (by omega:_≤6) (by decide)) (cD (by omega:_≤6) (by decide)))) em) m6) e2) bD))) ⟨p,e.2.2,hp,by omega,tin,rfl,rfl⟩ trivial rfl))) fun _=>jZ (PTd.cast (uZ (i:=e.1) (j:=e.1) (at0 rfl) (PEd.ic (cU (ds:=[.lst (L.map skD), .tup (cG e.2.1)]) GP hr1 rfl (aH (aE 2 rfl (pv 2)) (aH (at1 rfl) bD)) ⟨L,e.2.1,x1,by omega,rfl,rfl⟩ trivial rfl) x2.symm)) (by simp)))) rfl (cX ?_)); refine bP (cJ (PEd.cast (pd_eqD (ra:= .val (.tup (e.2.2.map bT))) (rb:= .val (.tup (e.2.2.map bT))) (at2 rfl) (PEd.cast (cU (ds:=[dI p, .lst (L.map (mgD P w K p)), .tup (cG e.2.1)]) GT hr rfl (aH (aE 1 rfl (pv 1)) (aH (aE 3 rfl (pv 3)) (aH (at1 rfl) bD))) ⟨p,L,e.2.1,hp,S,x1,by omega,rfl,rfl⟩ trivial rfl) (by rw [← x4])) trivial trivial (.inl ⟨rfl,rfl⟩) (rD _) (rD _) (u_of' hu (by show jJ (e.2.2.map bT)+1+1≤5; have:=tW e.2.2; omega))) ?_) trivial rfl); show DL.R.val (.bl (iO (e.2.2.map bT) (e.2.2.map bT)))=_; rw [deq_tups,decide_eq_true rfl]
theorem ok_kn40 (F:Fun K "_law_known" "_law_known" sKn f fd) (hm:mg "_law_known"=some (.ref f)) (GM:bZ P w K mg base "_law_moves" 3 2 (CLMv P w K)) (GI:bZ P w K mg base "_law_is_entry" 3 4 (CIe40 P w K)) (GY:bZ P w K mg base "_law_key" 2 2 CKey41):bZ P w K mg base "_law_known" 4 4 (CKn40 P w K):=by
 have nd:(["_law_found","_law_size_here","_law_kit_here","_law_bound_here","_law_moves_here","_law_known_here","_law_last","_law_entry"]:List Str).Nodup:=by decide+kernel
 refine fQ (N:=["_law_found","_law_size_here","_law_kit_here","_law_bound_here","_law_moves_here","_law_known_here","_law_last","_law_entry"]) (ps:=["_law_found","_law_size_here","_law_kit_here","_law_bound_here"]) (k:=3) F ⟨rfl,rfl,rfl,nd,rfl,by decide+kernel,by decide+kernel⟩ hm (fun _ _ _ _ _ _ us hl=>match us,hl with | [_,_,_,_],_=>rfl) fun cdv A outer s H E hr ds r hl c=> ?_
 obtain ⟨p,L,b,B,hp,S,O,rfl,rfl⟩:=c; have hr2:=hr.mono (show 2≤3 by decide); have hu:(A.deeper (envOfC "_law_known" (aV sKn) s.heap.objs.size f cdv)).units+5<cLine:=by have:=hr.un; omega
 have hu2:(A.deeper (envOfC "_law_known" (aV sKn) s.heap.objs.size f cdv)).units+2<cLine:=by omega
 have l4:=O.len; have hpr:=S.pr; refine aJ (gM (ds:=L.map (mgD P w K p)) 4 nd rfl (Or.inl rfl) (cU (ds:=[dI p, .lst (L.map skD)]) GM hr rfl (aH (aE 1 rfl (pv 1)) (aH (aE 2 rfl (pv 2)) bD)) ⟨p,L,hp,S,rfl,rfl⟩ trivial rfl) fun l4=>mX 4 rfl ?_); refine aJ (wP (hkN P w) 5 nd rfl (Or.inl rfl) fun l5=> ?_); refine aJ (dG (d:=k0D) 6 nd rfl (Or.inl rfl) (gA (ds:=[.int (-1), .int 0, .tup []]) (aH (pd_neg bF) (aH bF (aH (gA (ds:=[]) bD (aO rfl)) bD))) (aO rfl)) ?_); refine aJ (hW (ds:=B.map enD) (fun t sd=>∃ld,(∀e,B[t]? =some e→dlt ld (gC L e.2.1)=true∧iZ ld (gC L e.2.1)=true)∧pl ld=true∧dep ld=2∧sd=[.val (.lst (B.map enD)), .val (dI p), .val (.lst (L.map skD)), .val (.int b), .val (.lst (L.map (mgD P w K p))),oG (hkN P w) K l5 (ksE (B.take t)) ((B.take t).map fun e=>gC L e.2.1), .val ld, .un]) (jI (aE 0 rfl (pv 0))) ⟨_,Le.refl _,k0D,fun e he=>⟨k0_lt (prQ_nn hpr (O.ent e (aY he)).1),rfl⟩,rfl,rfl,rfl⟩ (fun t d sdt hd ht=> ?_) fun sdn hn=> ?_)
 ·obtain ⟨ld,q1,q2,q3,rfl⟩:=ht; obtain ⟨e,he,rfl,et⟩:=lG hd; have em:=aY he; obtain ⟨x1,x2,x3,x4,x5⟩:=O.ent e em; obtain ⟨q1,q4⟩:=q1 e he; have nk:=ksE_take O.nd he
  have nx:∀e',B[t+1]? =some e'→dlt (gC L e.2.1) (gC L e'.2.1)=true∧iZ (gC L e.2.1) (gC L e'.2.1)=true:=fun e' he'=>by refine ⟨klt_lt ?_,(tX L e.2.1 e'.2.1).1⟩; obtain ⟨t1,ex1⟩:=aP.mp he; obtain ⟨t2,ex2⟩:=aP.mp he'; have:=nI.mp O.srt t (t+1) (by rw [aG]; omega) (by rw [aG]; omega) (by omega); rw [eA,eA,ex1,ex2] at this; exact this
  have ek:ksE (B.take (t+1))=ksE (B.take t)++[tbK e.2.2]:=by rw [et]; unfold ksE; rw [bR]; rfl
  have ev:((B.take (t+1)).map fun e=>gC L e.2.1)=((B.take t).map fun e=>gC L e.2.1)++[gC L e.2.1]:=by rw [et,bR]; rfl
  have tk:((B.take t).map fun e=>gC L e.2.1).length≤1000:=by rw [aG,dU]; omega
  rw [ek,ev]; generalize ((B.take t).map fun e=>gC L e.2.1)=vs at tk; generalize ksE (B.take t)=ks at nk; clear ek ev et hd; have kd:∀ {X:Cx} {sd:List Slot} {g:Expr},PEd X sd g (.val (.tup (e.2.2.map bT)))→PEd X sd g (.val ((hkN P w).dat (tbK e.2.2))):=fun h=>PEd.cast h (by rw [show (hkN P w).dat (tbK e.2.2)=D.tup ((tbK e.2.2).map tD) from rfl,tbK_D])
  have at1:∀ {sd:List Slot} {p1 p2 p3:Pos} {j1:Nat},sd[7]? =some (.val (enD e))→PEd (lE CX0 P w K mg base ["_law_found","_law_size_here","_law_kit_here","_law_bound_here","_law_moves_here","_law_known_here","_law_last","_law_entry"] "_law_known" (aV sKn) f cdv A outer s H E).nox sd (.Subscript (.Name "_law_entry" p1) (.Constant (.int 1) j1 p2) p3) (.val (.tup (cG e.2.1))):=fun h=>dS (n:=1) (ds:=[.int e.1, .tup (cG e.2.1), .tup (e.2.2.map bT)]) (aE 7 h (pv 7)) bF rfl fun _ _=>rfl
  have at2:∀ {sd:List Slot} {p1 p2 p3:Pos} {j1:Nat},sd[7]? =some (.val (enD e))→PEd (lE CX0 P w K mg base ["_law_found","_law_size_here","_law_kit_here","_law_bound_here","_law_moves_here","_law_known_here","_law_last","_law_entry"] "_law_known" (aV sKn) f cdv A outer s H E).nox sd (.Subscript (.Name "_law_entry" p1) (.Constant (.int 2) j1 p2) p3) (.val (.tup (e.2.2.map bT))):=fun h=>dS (n:=2) (ds:=[.int e.1, .tup (cG e.2.1), .tup (e.2.2.map bT)]) (aE 7 h (pv 7)) bF rfl fun _ _=>rfl
  have key:∀ {sd:List Slot} {p1 p2 p3 p4 p5 p6:Pos} {j1:Nat},sd[2]? =some (.val (.lst (L.map skD)))→sd[7]? =some (.val (enD e))→PEd (lE CX0 P w K mg base ["_law_found","_law_size_here","_law_kit_here","_law_bound_here","_law_moves_here","_law_known_here","_law_last","_law_entry"] "_law_known" (aV sKn) f cdv A outer s H E).nox sd (.Call (.Name "_law_key" p1) [.Name "_law_kit_here" p2, .Subscript (.Name "_law_entry" p3) (.Constant (.int 1) j1 p4) p5] [] p6) (.val (gC L e.2.1)):=fun h1 h2=>cU (ds:=[.lst (L.map skD), .tup (cG e.2.1)]) GY hr2 rfl (aH (aE 2 h1 (pv 2)) (aH (at1 h2) bD)) ⟨L,e.2.1,x1,by omega,rfl,rfl⟩ trivial rfl
  refine ⟨[.val (.lst (B.map enD)), .val (dI p), .val (.lst (L.map skD)), .val (.int b), .val (.lst (L.map (mgD P w K p))),oG (hkN P w) K l5 ks vs, .val ld, .val (enD e)],fM 7 (dR (i:=7) nd rfl (Or.inl rfl)), ?_⟩; refine aJ (eJ (k:=false) (PWd.pt (jC (k:=false) (j:=false) (iW (k:=true) (kG (cU (ds:=[enD e,dI p, .lst (L.map skD), .lst (L.map (mgD P w K p))]) (r:= .val (.bl true)) GI hr rfl (aH (aE 7 rfl (pv 7)) (aH (aE 1 rfl (pv 1)) (aH (aE 2 rfl (pv 2)) (aH (aE 4 rfl (pv 4)) bD)))) ⟨p,L,b,B,e,hp,S,O,em,rfl,rfl⟩ trivial rfl))) fun _=>jC (k:=false) (j:=false) (ptd_inK (hk:=hkN P w) (kk:=false) (k:=tbK e.2.2) ⟨fun z=>(nomatch z),fun z=>absurd z nk⟩ hu2 (kd (at2 rfl)) (pdc_own 5 rfl (pv 5))) fun _=>jZ (PTd.cast (oE (g:=fun i j=>decide (j<i)) op_gt (dS (n:=0) (ds:=[.int e.1, .tup (cG e.2.1), .tup (e.2.2.map bT)]) (d:= .int e.1) (aE 7 rfl (pv 7)) bF rfl fun _ _=>rfl) (aE 3 rfl (pv 3)) (iU _)) (decide_eq_false (by omega))))) rfl (cX ?_)); refine aJ (eJ (k:=false) (PTd.cast (iW (ptd_ltD (d1:=ld) (d2:=gC L e.2.1) (aE 6 rfl (pv 6)) (key rfl rfl) q4 q2 (tX L e.2.1 e.2.1).2.1 (by rw [q3]; show (A.deeper (envOfC "_law_known" (aV sKn) s.heap.objs.size f cdv)).units+2<cLine; omega))) (by rw [q1]; rfl)) rfl (cX ?_)); refine aJ (dG (d:=gC L e.2.1) 6 nd rfl (Or.inl rfl) (key rfl rfl) ?_); exact bP (wD (hk:=hkN P w) (k:=tbK e.2.2) (d:=gC L e.2.1) 5 hu2 rfl (pv 5) (aE 6 rfl (pv 6)) (kd (at2 rfl)) nk tk ⟨[.val (.lst (B.map enD)), .val (dI p), .val (.lst (L.map skD)), .val (.int b), .val (.lst (L.map (mgD P w K p))),oG (hkN P w) K l5 (ks++[tbK e.2.2]) (vs++[gC L e.2.1]), .val (gC L e.2.1), .un],⟨.inr rfl, .inr rfl, .inr rfl, .inr rfl, .inr rfl, .inr rfl, .inr rfl, .inl rfl,trivial⟩,gC L e.2.1,nx,(tX L e.2.1 e.2.1).2.1,(tX L e.2.1 e.2.1).2.2,rfl⟩)
 ·obtain ⟨ld,_,_,_,rfl⟩:=hn; rw [aG,gB]; refine psd_frzG 5 rfl ?_; exact bP (cJ (aE 5 rfl (pv 5)) trivial rfl)
theorem ok_ib40 (F:Fun K "_law_is_book" "_law_is_book" sIb f fd) (zisinstance:mg "isinstance"=none) (zlist:mg "list"=none) (ztuple:mg "tuple"=none) (zrange:mg "range"=none) (zlen:mg "len"=none) (hm:mg "_law_is_book"=some (.ref f)) (GN:bZ P w K mg base "_law_known" 4 4 (CKn40 P w K)) (GF:bZ P w K mg base "_law_fillings" 1 1 zV) (GM:bZ P w K mg base "_law_moves" 3 2 (CLMv P w K)):bZ P w K mg base "_law_is_book" 5 4 CIb40:=by
 have nd:(["_law_found","_law_size_here","_law_kit_here","_law_bound_here","_law_known_here","_law_start","_law_moves_here","_law_table_here","_law_key_here","_law_k","_law_behind","_law_most"]:List Str).Nodup:=by decide+kernel
 have nd2:(["_law_filling","_law_moves_here","_law_k"]:List Str).Nodup:=by decide+kernel
 refine fQ (N:=["_law_found","_law_size_here","_law_kit_here","_law_bound_here","_law_known_here","_law_start","_law_moves_here","_law_table_here","_law_key_here","_law_k","_law_behind","_law_most"]) (ps:=["_law_found","_law_size_here","_law_kit_here","_law_bound_here"]) (k:=4) F ⟨rfl,rfl,rfl,nd,rfl,by decide+kernel,by decide+kernel⟩ hm (fun _ _ _ _ _ _ us hl=>match us,hl with | [_,_,_,_],_=>rfl) fun cdv A outer s H E hr ds r hl c=> ?_
 obtain ⟨p,L,b,B,hp,S,O,hb,rfl,rfl⟩:=c; have hr1:=hr.mono (show 1≤4 by decide); have hr3:=hr.mono (show 3≤4 by decide); have hu:(A.deeper (envOfC "_law_is_book" (aV sIb) s.heap.objs.size f cdv)).units+5<cLine:=by have:=hr.un; omega
 have hu2:(A.deeper (envOfC "_law_is_book" (aV sIb) s.heap.objs.size f cdv)).units+2<cLine:=by omega
 have l4:=O.len; have l8:=S.le; have hpr:=S.pr; obtain ⟨e0,m0,t0,k0⟩:=O.st hb; have r0:e0.2.1=[]:=kle_nil hpr (O.ent e0 m0).1 k0; have kd:∀ {X:Cx} {sd:List Slot} {g:Expr} (T:List (List Int)),PEd X sd g (.val (.tup (T.map bT)))→PEd X sd g (.val ((hkN P w).dat (tbK T))):=fun T h=>PEd.cast h (by rw [show (hkN P w).dat (tbK T)=D.tup ((tbK T).map tD) from rfl,tbK_D])
 refine aJ (eJ (k:=false) (PTd.cast (iW (k:=true) (kG (PEd.cast (oC rfl zisinstance rfl zlist PyProof.Rows.boot_list (aE 0 rfl (pv 0)) (fun _=>by simp) (kit_list _ _)) rfl))) rfl) rfl (cX ?_)); refine aJ (dG (d:=nO P w K L B) 4 nd rfl (Or.inl rfl) (cU (ds:=[.lst (B.map enD),dI p, .lst (L.map skD), .int b]) GN hr rfl (aH (aE 0 rfl (pv 0)) (aH (aE 1 rfl (pv 1)) (aH (aE 2 rfl (pv 2)) (aH (aE 3 rfl (pv 3)) bD)))) ⟨p,L,b,B,hp,S,O,rfl,rfl⟩ trivial rfl) ?_); refine aJ (dG (d:= .tup ((eV p).map bT)) 5 nd rfl (Or.inl rfl) (kU rfl ztuple (PEd.bor (PEd.val (cU (ds:=[dI p]) GF hr1 rfl (aH (aE 1 rfl (pv 1)) bD) ⟨p,hp,rfl,rfl⟩ trivial rfl)))) ?_); refine aJ (eJ (k:=false) (PWd.pt (jC (k:=false) (j:=false) (PTd.cast (ptd_isN (d:=nO P w K L B) (aE 4 rfl (pv 4)) pd_non) rfl) fun _=>jZ (PTd.cast (ptd_neD (ra:= .val (gC L [])) (rb:= .val (.tup [.int 0, .int 0, .tup []])) (pd_getG (hk:=hkN P w) (k:=tbK (eV p)) (ks:=ksE B) (ds:=B.map fun e=>gC L e.2.1) (d:=gC L []) (d0:= .tup [.int 1, .int 0, .tup []]) 4 hu2 rfl (kd _ (aE 5 rfl (pv 5))) (gA (ds:=[.int 1, .int 0, .tup []]) (aH bF (aH bF (aH (gA (ds:=[]) bD (aO rfl)) bD))) (aO rfl)) (fun n hn=> ?_) fun hn=> ?_) (gA (ds:=[.int 0, .int 0, .tup []]) (aH bF (aH bF (aH (gA (ds:=[]) bD (aO rfl)) bD))) (aO rfl)) trivial trivial (.inl ⟨rfl,rfl⟩) rfl rfl (u_of' hu (aO rfl))) rfl))) rfl (cX ?_))
 ·unfold ksE at hn; rw [bG] at hn ⊢; obtain ⟨e,h1,h2⟩:=gP.mp hn; have:=Bq_inj O (aY h1) m0 (by rw [t0]; exact pG h2); subst this; rw [h1]; show some (gC L e.2.1)=_; rw [r0]
 ·exact absurd (bH.mpr ⟨e0,m0,by rw [t0]⟩) hn
 refine aJ (gM (ds:=L.map (mgD P w K p)) 6 nd rfl (Or.inr rfl) (cU (ds:=[dI p, .lst (L.map skD)]) GM hr3 rfl (aH (aE 1 rfl (pv 1)) (aH (aE 2 rfl (pv 2)) bD)) ⟨p,L,hp,S,rfl,rfl⟩ trivial rfl) fun l4=>mX 6 rfl ?_)
 have ei:(((ksE B).zip (B.map fun e=>gC L e.2.1)).map fun p=>D.tup [(hkN P w).dat p.1,p.2])=B.map (itD40 L):=by
  unfold ksE; rw [List.zip_map',bM]; refine cR fun e _=> ?_
  show D.tup [(hkN P w).dat (tbK e.2.2),gC L e.2.1]=D.tup [.tup (e.2.2.map bT),gC L e.2.1]; rw [show (hkN P w).dat (tbK e.2.2)=D.tup ((tbK e.2.2).map tD) from rfl,tbK_D]
 refine psd_le (sd':=[.val (.lst (B.map enD)), .val (dI p), .val (.lst (L.map skD)), .val (.int b), .val (nO P w K L B), .un, .val (.lst (L.map (mgD P w K p))), .un, .un, .un, .un, .un]) ⟨.inr rfl, .inr rfl, .inr rfl, .inr rfl, .inr rfl, .inl rfl, .inr rfl, .inr rfl, .inr rfl, .inr rfl, .inr rfl, .inr rfl,trivial⟩ ?_
 have hit:∀ {elts:List Expr} {kk:Nat} {tp p1 ap cp:Pos},(ap.endLine==cp.line)=true→PId (lE CX0 P w K mg base ["_law_found","_law_size_here","_law_kit_here","_law_bound_here","_law_known_here","_law_start","_law_moves_here","_law_table_here","_law_key_here","_law_k","_law_behind","_law_most"] "_law_is_book" (aV sIb) f cdv A outer s H E).nox [.val (.lst (B.map enD)), .val (dI p), .val (.lst (L.map skD)), .val (.int b), .val (nO P w K L B), .un, .val (.lst (L.map (mgD P w K p))), .un, .un, .un, .un, .un] PT0 (.Tuple elts kk tp) (.Call (.Attribute (.Name "_law_known_here" p1) "items" ap) [] [] cp) (B.map (itD40 L)):=fun {_ _ _ p1 _ _} hl=>by rw [← ei]; have v4:PEd (lE CX0 P w K mg base ["_law_found","_law_size_here","_law_kit_here","_law_bound_here","_law_known_here","_law_start","_law_moves_here","_law_table_here","_law_key_here","_law_k","_law_behind","_law_most"] "_law_is_book" (aV sIb) f cdv A outer s H E).nox [.val (.lst (B.map enD)), .val (dI p), .val (.lst (L.map skD)), .val (.int b), .val (nO P w K L B), .un, .val (.lst (L.map (mgD P w K p))), .un, .un, .un, .un, .un] (.Name "_law_known_here" p1) (.val (gD (hkN P w) K (ksE B) (B.map fun e=>gC L e.2.1))):=(aE 4 rfl (pv 4)); exact pid_itemsG (X:=(lE CX0 P w K mg base ["_law_found","_law_size_here","_law_kit_here","_law_bound_here","_law_known_here","_law_start","_law_moves_here","_law_table_here","_law_key_here","_law_k","_law_behind","_law_most"] "_law_is_book" (aV sIb) f cdv A outer s H E).nox) (hk:=hkN P w) v4 rfl hl
 refine aJ (hW (ds:=B.map (itD40 L)) (fun t sd=>sd=[.val (.lst (B.map enD)), .val (dI p), .val (.lst (L.map skD)), .val (.int b), .val (nO P w K L B), .un, .val (.lst (L.map (mgD P w K p))), .un, .un, .un, .un, .un]) (hit rfl) ⟨_,Le.refl _,rfl⟩ (fun t d sdt hd ht=> ?_) fun sdn hn=> ?_)
 ·subst ht; obtain ⟨e,he,rfl,_⟩:=lG hd; have em:=aY he; obtain ⟨x1,x2,x3,x4,x5⟩:=O.ent e em; have tl:e.2.2.length≤64:=by rw [x4]; exact yS hp S x1
  have ti:∀ws∈e.2.2,ws∈eV p:=by rw [x4]; exact vO hp S x1
  clear hd he; refine ⟨[.val (.lst (B.map enD)), .val (dI p), .val (.lst (L.map skD)), .val (.int b), .val (nO P w K L B), .un, .val (.lst (L.map (mgD P w K p))), .val (.tup (e.2.2.map bT)), .val (gC L e.2.1), .un, .un, .un],nA (ds:=[.tup (e.2.2.map bT),gC L e.2.1]) (js:=[7,8]) rfl (gJ (dR (i:=7) nd rfl (Or.inl rfl)) (gJ (dR (i:=8) nd rfl (Or.inl rfl)) mT)) rfl rfl, ?_⟩; refine bP (hW (ds:=jD 0 L.length) (fun m sd=>sd=[.val (.lst (B.map enD)), .val (dI p), .val (.lst (L.map skD)), .val (.int b), .val (nO P w K L B), .un, .val (.lst (L.map (mgD P w K p))), .val (.tup (e.2.2.map bT)), .val (gC L e.2.1), .un, .un, .un]) (kT (n:=L.length) rfl zrange (PEd.ic (pO rfl zlen (PEd.bor (aE 2 rfl (pv 2)))) (by rw [aG])) (by omega)) ⟨_,Le.refl _,rfl⟩ (fun m d sdm hd hm=> ?_) fun sdn hn=> ?_)
  ·subst hm; obtain ⟨ml,rfl⟩:=kX hd; rw [Int.zero_add]; have sk1:(L.map skD)[m]? =some (skD (L.getD m default)):=sk_get ml
   have mv1:(L.map (mgD P w K p))[m]? =some (mgD P w K p (L.getD m default)):=by rw [bG]; simp [cY,ml]
   have cl:=O.cl e em m ml; have eB:qA p L m e.2.2=e.2.2.map (onQ p (L.getD m default).1):=rfl; have eP:prK L m=(L.getD m default).2:=rfl; rw [eB] at cl; generalize L.getD m default=sk at sk1 mv1 eP cl; refine ⟨[.val (.lst (B.map enD)), .val (dI p), .val (.lst (L.map skD)), .val (.int b), .val (nO P w K L B), .un, .val (.lst (L.map (mgD P w K p))), .val (.tup (e.2.2.map bT)), .val (gC L e.2.1), .val (.int (m:Int)), .un, .un],fM 9 (dR (i:=9) nd rfl (Or.inr rfl)), ?_⟩; have sum:∀ {sd:List Slot} {p1 p2 p3 p4 p5 p6 p7 p8 p9:Pos} {j1 j2:Nat},sd[8]? =some (.val (gC L e.2.1))→sd[2]? =some (.val (.lst (L.map skD)))→sd[9]? =some (.val (.int (m:Int)))→PEd (lE CX0 P w K mg base ["_law_found","_law_size_here","_law_kit_here","_law_bound_here","_law_known_here","_law_start","_law_moves_here","_law_table_here","_law_key_here","_law_k","_law_behind","_law_most"] "_law_is_book" (aV sIb) f cdv A outer s H E).nox sd (.BinOp (.Subscript (.Name "_law_key_here" p1) (.Constant (.int 0) j1 p2) p3) .Add (.Subscript (.Subscript (.Name "_law_kit_here" p4) (.Name "_law_k" p5) p6) (.Constant (.int 1) j2 p7) p8) p9) (.val (.int (S45.prQ (prK L) e.2.1+prK L m))):=fun h1 h2 h3=>PEd.ic (gQ iL (dS (n:=0) (ds:=[.int (S45.prQ (prK L) e.2.1), .int (e.2.1.length:Int), .tup (cG e.2.1)]) (d:= .int (S45.prQ (prK L) e.2.1)) (aE 8 h1 (pv 8)) bF rfl fun _ _=>rfl) (dS (n:=1) (ds:=[sqD sk.1, .int sk.2]) (d:= .int sk.2) (sR (n:=m) (PEd.bor (aE 2 h2 (pv 2))) (aE 9 h3 (pv 9)) sk1 fun _ _=>rfl) bF rfl fun _ _=>rfl)) (by rw [eP])
   refine bP (iK (k:=decide (S45.prQ (prK L) e.2.1+prK L m≤b)) (oE op_le (sum rfl rfl rfl) (aE 3 rfl (pv 3)) (iU _)) (fun h=> ?_) fun h=>cX ⟨[.val (.lst (B.map enD)), .val (dI p), .val (.lst (L.map skD)), .val (.int b), .val (nO P w K L B), .un, .val (.lst (L.map (mgD P w K p))), .val (.tup (e.2.2.map bT)), .val (gC L e.2.1), .un, .un, .un],⟨.inr rfl, .inr rfl, .inr rfl, .inr rfl, .inr rfl, .inr rfl, .inr rfl, .inr rfl, .inr rfl, .inl rfl, .inr rfl, .inr rfl,trivial⟩,rfl⟩); obtain ⟨e',he',f1,f2⟩:=cl (by rw [x2]; exact of_decide_eq_true h); obtain ⟨n',hn'⟩:=fH he'
   have ec:((e.2.2.map bT).filter fun _=>true).map (fun d=>bT (onQ p sk.1 (nE d)))=(e.2.2.map (onQ p sk.1)).map bT:=by
    rw [eH.mpr (fun _ _=>rfl),bM,bM]; refine cR fun ws _=> ?_
    show bT (onQ p sk.1 (nE (bT ws)))=_; rw [kR]; rfl
   refine aJ (dG (d:= .tup ((e.2.2.map (onQ p sk.1)).map bT)) 10 nd rfl (Or.inl rfl) (kU rfl ztuple (PEd.bor (PEd.val (PEd.cast (jL (ds:=e.2.2.map bT) (N:=["_law_filling","_law_moves_here","_law_k"]) (M:=["_law_found","_law_size_here","_law_kit_here","_law_bound_here","_law_known_here","_law_start","_law_moves_here","_law_table_here","_law_key_here","_law_k","_law_behind","_law_most"]) (cap:=[none,some 6,some 9]) (sc:=aV sIb) (Tb:=fun d=>[.val d, .val (.lst (L.map (mgD P w K p))), .val (.int (m:Int))]) (fun _=>true) (fun d=>bT (onQ p sk.1 (nE d))) (lD (aE 7 rfl (pv 7))) (by rw [aG]; omega) rfl (by decide+kernel) rfl (by decide+kernel) rfl (fun cl C fp s H d hd=>fM 0 (dR (i:=0) nd2 rfl (Or.inl rfl))) (fun d hd=>⟨.inl rfl, .inr rfl, .inr rfl,trivial⟩) (fun cl C fp s H d hd=> .inl ⟨rfl,rfl⟩) fun cl C2 fp s H d hd _=> ?_) (by rw [ec]))))) ?_)
   ·obtain ⟨ws,hw,rfl⟩:=wY hd; obtain ⟨i,hi⟩:=fH (ti ws hw); rw [kR]; exact yW (hk:=hkT P w) (k:=inK ws) (n:=i) (d:=bT (onQ p sk.1 ws)) hu2 (uV (sR (n:=m) (PEd.bor (aE 1 rfl (pv 1))) (aE 2 rfl (pv 2)) mv1 fun _ _=>rfl)) (PEd.cast (aE 0 rfl (pv 0)) (by rw [show (hkT P w).dat (inK ws)=tD (inK ws) from rfl,inK_D])) (by rw [bG,hi]; rfl) (by rw [bG,hi]; rfl) fun _ _=>rfl
   rw [← f1]; refine aJ (dG (d:=gC L (e.2.1++[m])) 11 nd rfl (Or.inl rfl) (PEd.cast (gA (ds:=[.int (S45.prQ (prK L) e.2.1+prK L m), .int ((e.2.1.length:Int)+1), .tup (cG e.2.1++[.int (m:Int)])]) (aH (sum rfl rfl rfl) (aH (gQ iL (dS (n:=1) (ds:=[.int (S45.prQ (prK L) e.2.1), .int (e.2.1.length:Int), .tup (cG e.2.1)]) (d:= .int (e.2.1.length:Int)) (aE 8 rfl (pv 8)) bF rfl fun _ _=>rfl) bF) (aH (mV (d1:=cG e.2.1) (d2:=[.int (m:Int)]) (dS (n:=2) (ds:=[.int (S45.prQ (prK L) e.2.1), .int (e.2.1.length:Int), .tup (cG e.2.1)]) (d:= .tup (cG e.2.1)) (aE 8 rfl (pv 8)) bF rfl fun _ _=>rfl) (gA (ds:=[.int (m:Int)]) (aH (aE 9 rfl (pv 9)) bD) (aO rfl)) (by rw [pI]; show _+1≤1000; omega)) bD))) (aO rfl)) (by rw [key_snoc])) ?_); obtain ⟨k1,k2,k3⟩:=tX L e'.2.1 (e.2.1++[m]); obtain ⟨_,k4,_⟩:=tX L (e.2.1++[m]) (e.2.1++[m]); have kin:tbK e'.2.2∈ksE B:=bH.mpr ⟨e',he',rfl⟩; refine bP (eJ (k:=false) (PWd.pt (jC (k:=false) (j:=false) (PTd.cast (ptd_ninK (hk:=hkN P w) (kk:=true) (k:=tbK e'.2.2) ⟨fun _=>kin,fun _=>rfl⟩ hu2 (kd _ (aE 10 rfl (pv 10))) (uV (aE 4 rfl (pv 4)))) rfl) fun _=>jZ (PTd.cast (ptd_gtD (d1:=gC L e'.2.1) (d2:=gC L (e.2.1++[m])) (yW (hk:=hkN P w) (k:=tbK e'.2.2) (n:=n') (d:=gC L e'.2.1) (ks:=ksE B) (ds:=B.map fun e=>gC L e.2.1) hu2 (uV (aE 4 rfl (pv 4))) (kd _ (aE 10 rfl (pv 10))) (by unfold ksE; rw [bG,hn']; rfl) (by rw [bG,hn']; rfl) fun _ _=>rfl) (aE 11 rfl (pv 11)) k1 k2 k4 (by rw [k3]; show (A.deeper (envOfC "_law_is_book" (aV sIb) s.heap.objs.size f cdv)).units+2<cLine; omega)) (kle_gt f2)))) rfl (cX ?_)); exact ⟨[.val (.lst (B.map enD)), .val (dI p), .val (.lst (L.map skD)), .val (.int b), .val (nO P w K L B), .un, .val (.lst (L.map (mgD P w K p))), .val (.tup (e.2.2.map bT)), .val (gC L e.2.1), .un, .un, .un],⟨.inr rfl, .inr rfl, .inr rfl, .inr rfl, .inr rfl, .inr rfl, .inr rfl, .inr rfl, .inr rfl, .inl rfl, .inl rfl, .inl rfl,trivial⟩,rfl⟩
  ·subst hn; exact ⟨[.val (.lst (B.map enD)), .val (dI p), .val (.lst (L.map skD)), .val (.int b), .val (nO P w K L B), .un, .val (.lst (L.map (mgD P w K p))), .un, .un, .un, .un, .un],⟨.inr rfl, .inr rfl, .inr rfl, .inr rfl, .inr rfl, .inr rfl, .inr rfl, .inl rfl, .inl rfl, .inr rfl, .inr rfl, .inr rfl,trivial⟩,rfl⟩
 ·subst hn; exact bP (cJ pd_bl trivial rfl)
theorem ok_law (F:Fun K "law" "law" xM f fd) (zlist:mg "list"=none) (GC:bZ P w K mg base "_law_cell_at" 1 2 CCell) (GZ:bZ P w K mg base "_law_size" 2 1 CSz41) (GK:bZ P w K mg base "_law_kit" 3 3 CKit41) (GB:bZ P w K mg base "_law_bound" 1 3 CBnd41) (GO:bZ P w K mg base "book_of" 6 3 CBook) (GI:bZ P w K mg base "_law_is_book" 5 4 CIb40):FnOk P w K mg base CX0 7 f fd ["_law_script"] (spC K 1 CLaw):=by
 have nd:(["_law_script","_law_size_here","_law_kit_here","_law_factor","_law_bound_here","_law_handed","_law_found","_law_copies","_law_again"]:List Str).Nodup:=by decide+kernel
 refine def_fn (N:=["_law_script","_law_size_here","_law_kit_here","_law_factor","_law_bound_here","_law_handed","_law_found","_law_copies","_law_again"]) (ps:=["_law_script"]) (k:=6) F ⟨rfl,rfl,rfl,nd,rfl,by decide+kernel,by decide+kernel⟩ fun cdv A outer s H E hr ds r hl c=> ?_
 obtain ⟨ns,rfl,n63,rfl⟩:=c; have hr1:=hr.mono (show 1≤6 by decide); have hr2:=hr.mono (show 2≤6 by decide); have hr3:=hr.mono (show 3≤6 by decide); have hr5:=hr.mono (show 5≤6 by decide); have hu:(A.deeper (envOfC "law" (aV xM) s.heap.objs.size f cdv)).units+6<cLine:=by have:=hr.un; omega
 have cell:∀ {sd:List Slot} {p1 p2 p3 p4:Pos} {j1:Nat} (k:Nat),k≤1000→sd[0]? =some (.val (.scr ns))→PEd (lE CX0 P w K mg base ["_law_script","_law_size_here","_law_kit_here","_law_factor","_law_bound_here","_law_handed","_law_found","_law_copies","_law_again"] "law" (aV xM) f cdv A outer s H E).nox sd (.Call (.Name "_law_cell_at" p1) [.Name "_law_script" p2, .Constant (.int (k:Int)) j1 p3] [] p4) (.val (.int (ns.getD k 0))):=fun k hk hs=>cU (ds:=[.scr ns, .int (k:Int)]) GC hr1 rfl (aH (aE 0 hs (pv 0)) (aH bF bD)) ⟨ns,k,rfl,hk,rfl⟩ trivial rfl
 refine aJ (dG (d:=dI (yP (ns.getD 0 0))) 1 nd rfl (Or.inl rfl) (cU (ds:=[.int (ns.getD 0 0)]) GZ hr2 rfl (aH (cell 0 (by decide) rfl) bD) ⟨_,rfl,rfl⟩ trivial rfl) ?_); have hp:=sz41_ok (ns.getD 0 0); generalize yP (ns.getD 0 0)=p at hp; have KO:=kit41_ok hp ns 2; refine aJ (psd_asg (d:= .tup [.lst ((vL p ns 2).map skD), .int (nR (ns.getD 2 0))]) (sd':=[.val (.scr ns), .val (dI p), .val (.lst ((vL p ns 2).map skD)), .val (.int (nR (ns.getD 2 0))), .un, .un, .un, .un, .un]) (cU (ds:=[.scr ns, .int ((2:Nat):Int),dI p]) GK hr3 rfl (aH (aE 0 rfl (pv 0)) (aH bF (aH (aE 1 rfl (pv 1)) bD))) ⟨p,ns,2,hp,by decide,rfl,rfl⟩ trivial rfl) (nA (ds:=[.lst ((vL p ns 2).map skD), .int (nR (ns.getD 2 0))]) (js:=[2,3]) rfl (gJ (dR (i:=2) nd rfl (Or.inl rfl)) (gJ (dR (i:=3) nd rfl (Or.inl rfl)) mT)) rfl rfl) ?_); generalize vL p ns 2=L at KO; generalize nR (ns.getD 2 0)=fc at KO; have S:=KO.stk; have l5:=KO.le; obtain ⟨b0,b1⟩:=bnd41_ok (ns.getD 1 0) L.length KO.f13; refine aJ (dG (d:= .int (yM (ns.getD 1 0) L.length fc)) 4 nd rfl (Or.inl rfl) (cU (ds:=[.int (ns.getD 1 0), .lst (L.map skD), .int fc]) GB hr1 rfl (aH (cell 1 (by decide) rfl) (aH (aE 2 rfl (pv 2)) (aH (aE 3 rfl (pv 3)) bD))) ⟨_,L,fc,KO.pos,l5,KO.f13,rfl,rfl⟩ trivial rfl) ?_); generalize yM (ns.getD 1 0) L.length fc=b9 at b0 b1; obtain ⟨s1,s2,s3,s4,s5⟩:=sS p hp; refine byKey (K:=∀b,0≤b→b<fc * ((nM L.length:Int)+1)→PSd _ [.val (.scr ns), .val (dI p), .val (.lst (L.map skD)), .val (.int fc), .val (.int b), .un, .un, .un, .un] _ _) (fun key=>aJ (iK (k:=decide (4<p.1 * p.2)) (oE op_gt (dX iY (dS (n:=0) (d:= .int p.1) (aE 1 rfl (pv 1)) bF rfl fun _ _=>rfl) (dS (n:=1) (d:= .int p.2) (aE 1 rfl (pv 1)) bF rfl fun _ _=>rfl) (iF (cD (by omega:_≤6) (by decide)) (cD (by omega:_≤6) (by decide)))) bF (iU _)) (fun h=>bP (dG (d:= .int (b9 / 2)) 4 nd rfl (Or.inl rfl) (dX rA (aE 4 rfl (pv 4)) bF ⟨by decide,by decide⟩) (key (b9 / 2) (by omega) (by omega)))) fun h=>cX (key b9 b0 b1))) fun b h0 h1=> ?_
 have FU:=few41 KO h1; have O:=bkQ_ok hp S FU; have nB:pZ ((bkQ p L b).map enD)=true:=nN enD noL_en _; have nL:pZ (L.map skD)=true:=nN skD noL_sk _; have eB:∀B:List Bk,iO (B.map enD) (B.map enD)=true:=fun B=>mE _ (pls_en B).1
 have eL:iO (L.map skD) (L.map skD)=true:=mE _ (pls_sk L).1; have dB:=(pls_en (bkQ p L b)).2; have pB:=(pls_en (bkQ p L b)).1; obtain ⟨pL,dL⟩:=pls_sk L; have bl:=O.len; have cB:∀ds r,ds=[dI p, .lst (L.map skD), .int b]→r=R.own ((bkQ p L b).map enD)→CBook ds r:=fun ds r e1 e2=>⟨p,L,b,_,hp,S,KO.nd,FU,e1,e2⟩
 have eB:=eB (bkQ p L b); generalize bkQ p L b=B at O nB eB dB pB bl cB; refine aJ (gM (ds:=L.map skD) 5 nd rfl (Or.inl rfl) (pd_listL rfl zlist (PEd.bor (aE 2 rfl (pv 2)))) fun l5=> ?_); refine aJ (gM (ds:=B.map enD) 6 nd rfl (Or.inl rfl) (PEd.lend 5 rfl (oth_b rfl) nB (cU (ds:=[dI p, .lst (L.map skD), .int b]) GO hr rfl (aH (aE 1 rfl (pv 1)) (aH (aE 5 rfl (pv 5)) (aH (aE 4 rfl (pv 4)) bD))) (cB _ _ rfl rfl) trivial rfl)) fun l6=> ?_); refine aJ (eJ (k:=false) (PWd.pt (jC (k:=false) (j:=false) (PTd.lend 6 rfl (oth_b (by show (true && (true && (true && (true && (true && (pZ (L.map skD) && true))))))=true; rw [nL]; rfl)) (iW (k:=true) (kG (cU (ds:=[.lst (B.map enD),dI p, .lst (L.map skD), .int b]) (r:= .val (.bl true)) GI hr5 rfl (aH (aE 6 rfl (pv 6)) (aH (aE 1 rfl (pv 1)) (aH (aE 2 rfl (pv 2)) (aH (aE 4 rfl (pv 4)) bD)))) ⟨p,L,b,B,hp,S,O,h0,rfl,rfl⟩ trivial rfl)))) fun _=>jZ (PTd.cast (ptd_neD (ra:= .bor (L.map skD)) (rb:= .val (.lst (L.map skD))) (oI 5 rfl (pv 5)) (aE 2 rfl (pv 2)) trivial trivial (.inr ⟨rfl,rfl⟩) pL pL (u_of' hu (by show jJ (L.map skD)+1+1≤6; omega))) (by show (!iO (L.map skD) (L.map skD))=false; rw [eL]; rfl)))) rfl (cX ?_)); refine aJ (gM (ds:=B.map enD) 7 nd rfl (Or.inl rfl) (pd_listL rfl zlist (oI 6 rfl (pv 6))) fun l7=> ?_); refine aJ (xU 6 rfl (pv 6) ?_); refine psd_le (sd':=[.val (.scr ns), .val (dI p), .val (.lst (L.map skD)), .val (.int fc), .val (.int b), .own l5 (L.map skD), .un, .own l7 (B.map enD), .un]) ⟨.inr rfl, .inr rfl, .inr rfl, .inr rfl, .inr rfl, .inr rfl, .inl rfl, .inr rfl, .inr rfl,trivial⟩ ?_; refine aJ (gM (ds:=B.map enD) 8 nd rfl (Or.inl rfl) (PEd.lend 5 rfl (oth_b (by show (true && (true && (true && (true && (true && (true && (pZ (B.map enD) && (true && true))))))))=true; rw [nB]; rfl)) nB (cU (ds:=[dI p, .lst (L.map skD), .int b]) GO hr rfl (aH (aE 1 rfl (pv 1)) (aH (aE 5 rfl (pv 5)) (aH (aE 4 rfl (pv 4)) bD))) (cB _ _ rfl rfl) trivial rfl)) fun l8=> ?_); refine aJ (eJ (k:=false) (PTd.cast (ptd_neD (ra:= .bor (B.map enD)) (rb:= .bor (B.map enD)) (oI 8 rfl (pv 8)) (oI 7 rfl (pv 7)) trivial trivial (.inr ⟨rfl,rfl⟩) pB pB (u_of' hu (by show jJ (B.map enD)+1+1≤6; omega))) (by show (!iO (B.map enD) (B.map enD))=false; rw [eB]; rfl)) rfl (cX ?_)); refine aJ (xU 5 rfl (pv 5) ?_); exact bP (cJ (PEd.cast (pd_eqD (ra:= .bor (B.map enD)) (rb:= .bor (B.map enD)) (oI 8 rfl (pv 8)) (oI 7 rfl (pv 7)) trivial trivial (.inr ⟨rfl,rfl⟩) pB pB (u_of' hu (by show jJ (B.map enD)+1+1≤6; omega))) (by show DL.R.val (.bl (iO (B.map enD) (B.map enD)))=_; rw [eB])) trivial rfl)
end
theorem byself_vals {t1 t2 t3:Tok}:Vals [V.str "not",V.str "up",V.str "down"] (#[Value.str "not" t1,Value.str "up" t2,Value.str "down" t3]:Array Value).toList:= .cons ⟨_,rfl⟩ (.cons ⟨_,rfl⟩ (.cons ⟨_,rfl⟩ .nil))
theorem all_mk {P:Program} {w:World} {K:aD} {h:Heap} {mg:Str→Option Value} {fa:Addr} (X:K.In h) (G:h.Ns mainGlobals mg) (hfa:mg "law"=some (.ref fa))
  {odC anC:Option Addr} {slC:Array (Option Value)} {ocC kVC dcC pmC cdC ctC:Value} {fC:Addr} {odEa anEa:Option Addr} {slEa:Array (Option Value)} {ocEa kVEa dcEa pmEa cdEa ctEa:Value} {fEa:Addr} {odFi anFi:Option Addr} {slFi:Array (Option Value)} {ocFi kVFi dcFi pmFi cdFi ctFi:Value} {fFi:Addr} {odNu anNu:Option Addr} {slNu:Array (Option Value)} {ocNu kVNu dcNu pmNu cdNu ctNu:Value} {fNu:Addr} {odI anI:Option Addr} {slI:Array (Option Value)} {ocI kVI dcI pmI cdI ctI:Value} {fI:Addr} {odA anA:Option Addr} {slA:Array (Option Value)} {ocA kVA dcA pmA cdA ctA:Value} {fA:Addr} {odN anN:Option Addr} {slN:Array (Option Value)} {ocN kVN dcN pmN cdN ctN:Value} {fN:Addr} {odB anB:Option Addr} {slB:Array (Option Value)} {ocB kVB dcB pmB cdB ctB:Value} {fB:Addr} {odS anS:Option Addr} {slS:Array (Option Value)} {ocS kVS dcS pmS cdS ctS:Value} {fS:Addr} {odNo anNo:Option Addr} {slNo:Array (Option Value)} {ocNo kVNo dcNo pmNo cdNo ctNo:Value} {fNo:Addr} {odMo anMo:Option Addr} {slMo:Array (Option Value)} {ocMo kVMo dcMo pmMo cdMo ctMo:Value} {fMo:Addr} {odNb anNb:Option Addr} {slNb:Array (Option Value)} {ocNb kVNb dcNb pmNb cdNb ctNb:Value} {fNb:Addr} {odPu anPu:Option Addr} {slPu:Array (Option Value)} {ocPu kVPu dcPu pmPu cdPu ctPu:Value} {fPu:Addr} {odFo anFo:Option Addr} {slFo:Array (Option Value)} {ocFo kVFo dcFo pmFo cdFo ctFo:Value} {fFo:Addr} {odTf anTf:Option Addr} {slTf:Array (Option Value)} {ocTf kVTf dcTf pmTf cdTf ctTf:Value} {fTf:Addr} {odBk anBk:Option Addr} {slBk:Array (Option Value)} {ocBk kVBk dcBk pmBk cdBk ctBk:Value} {fBk:Addr} {odCa anCa:Option Addr} {slCa:Array (Option Value)} {ocCa kVCa dcCa pmCa cdCa ctCa:Value} {fCa:Addr} {odMi anMi:Option Addr} {slMi:Array (Option Value)} {ocMi kVMi dcMi pmMi cdMi ctMi:Value} {fMi:Addr} {odF anF:Option Addr} {slF:Array (Option Value)} {ocF kVF dcF pmF cdF ctF:Value} {fF:Addr} {odLw anLw:Option Addr} {slLw:Array (Option Value)} {ocLw kVLw dcLw pmLw cdLw ctLw:Value} {fLw:Addr} {odAf anAf:Option Addr} {slAf:Array (Option Value)} {ocAf kVAf dcAf pmAf cdAf ctAf:Value} {fAf:Addr} {odDr anDr:Option Addr} {slDr:Array (Option Value)} {ocDr kVDr dcDr pmDr cdDr ctDr:Value} {fDr:Addr} {odLm anLm:Option Addr} {slLm:Array (Option Value)} {ocLm kVLm dcLm pmLm cdLm ctLm:Value} {fLm:Addr} {odZ anZ:Option Addr} {slZ:Array (Option Value)} {ocZ kVZ dcZ pmZ cdZ ctZ:Value} {fZ:Addr} {odK anK:Option Addr} {slK:Array (Option Value)} {ocK kVK dcK pmK cdK ctK:Value} {fK:Addr} {odBd anBd:Option Addr} {slBd:Array (Option Value)} {ocBd kVBd dcBd pmBd cdBd ctBd:Value} {fBd:Addr} {odLp anLp:Option Addr} {slLp:Array (Option Value)} {ocLp kVLp dcLp pmLp cdLp ctLp:Value} {fLp:Addr} {odKy anKy:Option Addr} {slKy:Array (Option Value)} {ocKy kVKy dcKy pmKy cdKy ctKy:Value} {fKy:Addr} {odTb anTb:Option Addr} {slTb:Array (Option Value)} {ocTb kVTb dcTb pmTb cdTb ctTb:Value} {fTb:Addr} {odW anW:Option Addr} {slW:Array (Option Value)} {ocW kVW dcW pmW cdW ctW:Value} {fW:Addr} {odIt anIt:Option Addr} {slIt:Array (Option Value)} {ocIt kVIt dcIt pmIt cdIt ctIt:Value} {fIt:Addr} {odIe anIe:Option Addr} {slIe:Array (Option Value)} {ocIe kVIe dcIe pmIe cdIe ctIe:Value} {fIe:Addr} {odKn anKn:Option Addr} {slKn:Array (Option Value)} {ocKn kVKn dcKn pmKn cdKn ctKn:Value} {fKn:Addr} {odIb anIb:Option Addr} {slIb:Array (Option Value)} {ocIb kVIb dcIb pmIb cdIb ctIb:Value} {fIb:Addr} {odL anL:Option Addr} {slL:Array (Option Value)} {ocL kVL dcL pmL cdL ctL:Value} {fL:Addr} {fBY:Addr} {dB:Option Addr} {t1 t2 t3:Tok} {nB:Nat} {sB:Array (Option Value)} {tmst:Tok}
  (aC:bJ K mainGlobals "word_count"=some (some (.ref fC))) (lC:K.lookup fC=some ⟨ocC,odC, .func (bN "word_count" "word_count" (dF vT) (cT vT) (aV vT) .none kVC dcC pmC anC cdC ctC),slC⟩) (cC:bL K cdC "word_count"=true) (kC:bA K (.ref fC)=true) (aEa:bJ K mainGlobals "with_each_word"=some (some (.ref fEa))) (lEa:K.lookup fEa=some ⟨ocEa,odEa, .func (bN "with_each_word" "with_each_word" (dF uB) (cT uB) (aV uB) .none kVEa dcEa pmEa anEa cdEa ctEa),slEa⟩) (cEa:bL K cdEa "with_each_word"=true) (kEa:bA K (.ref fEa)=true) (aFi:bJ K mainGlobals "fillings"=some (some (.ref fFi))) (lFi:K.lookup fFi=some ⟨ocFi,odFi, .func (bN "fillings" "fillings" (dF sFill) (cT sFill) (aV sFill) .none kVFi dcFi pmFi anFi cdFi ctFi),slFi⟩) (cFi:bL K cdFi "fillings"=true) (kFi:bA K (.ref fFi)=true) (aNu:bJ K mainGlobals "number_of"=some (some (.ref fNu))) (lNu:K.lookup fNu=some ⟨ocNu,odNu, .func (bN "number_of" "number_of" (dF sNum) (cT sNum) (aV sNum) .none kVNu dcNu pmNu anNu cdNu ctNu),slNu⟩) (cNu:bL K cdNu "number_of"=true) (kNu:bA K (.ref fNu)=true) (aI:bJ K mainGlobals "word_by_itself"=some (some (.ref fI))) (lI:K.lookup fI=some ⟨ocI,odI, .func (bN "word_by_itself" "word_by_itself" (dF rR) (cT rR) (aV rR) .none kVI dcI pmI anI cdI ctI),slI⟩) (cI:bL K cdI "word_by_itself"=true) (kI:bA K (.ref fI)=true) (aA:bJ K mainGlobals "word_by_another"=some (some (.ref fA))) (lA:K.lookup fA=some ⟨ocA,odA, .func (bN "word_by_another" "word_by_another" (dF pD) (cT pD) (aV pD) .none kVA dcA pmA anA cdA ctA),slA⟩) (cA:bL K cdA "word_by_another"=true) (kA:bA K (.ref fA)=true) (aN:bJ K mainGlobals "new_word"=some (some (.ref fN))) (lN:K.lookup fN=some ⟨ocN,odN, .func (bN "new_word" "new_word" (dF pF) (cT pF) (aV pF) .none kVN dcN pmN anN cdN ctN),slN⟩) (cN:bL K cdN "new_word"=true) (kN:bA K (.ref fN)=true) (aB:bJ K mainGlobals "written_box"=some (some (.ref fB))) (lB:K.lookup fB=some ⟨ocB,odB, .func (bN "written_box" "written_box" (dF oY) (cT oY) (aV oY) .none kVB dcB pmB anB cdB ctB),slB⟩) (cB:bL K cdB "written_box"=true) (kB:bA K (.ref fB)=true) (aS:bJ K mainGlobals "step_on"=some (some (.ref fS))) (lS:K.lookup fS=some ⟨ocS,odS, .func (bN "step_on" "step_on" (dF sJ) (cT sJ) (aV sJ) .none kVS dcS pmS anS cdS ctS),slS⟩) (cS:bL K cdS "step_on"=true) (kS:bA K (.ref fS)=true) (aNo:bJ K mainGlobals "numbers_of_step"=some (some (.ref fNo))) (lNo:K.lookup fNo=some ⟨ocNo,odNo, .func (bN "numbers_of_step" "numbers_of_step" (dF sNos) (cT sNos) (aV sNos) .none kVNo dcNo pmNo anNo cdNo ctNo),slNo⟩) (cNo:bL K cdNo "numbers_of_step"=true) (kNo:bA K (.ref fNo)=true) (aMo:bJ K mainGlobals "moves_of"=some (some (.ref fMo))) (lMo:K.lookup fMo=some ⟨ocMo,odMo, .func (bN "moves_of" "moves_of" (dF sX) (cT sX) (aV sX) .none kVMo dcMo pmMo anMo cdMo ctMo),slMo⟩) (cMo:bL K cdMo "moves_of"=true) (kMo:bA K (.ref fMo)=true) (aNb:bJ K mainGlobals "numbers_behind"=some (some (.ref fNb))) (lNb:K.lookup fNb=some ⟨ocNb,odNb, .func (bN "numbers_behind" "numbers_behind" (dF xX) (cT xX) (aV xX) .none kVNb dcNb pmNb anNb cdNb ctNb),slNb⟩) (cNb:bL K cdNb "numbers_behind"=true) (kNb:bA K (.ref fNb)=true) (aPu:bJ K mainGlobals "put_longer_rows"=some (some (.ref fPu))) (lPu:K.lookup fPu=some ⟨ocPu,odPu, .func (bN "put_longer_rows" "put_longer_rows" (dF sPut) (cT sPut) (aV sPut) .none kVPu dcPu pmPu anPu cdPu ctPu),slPu⟩) (cPu:bL K cdPu "put_longer_rows"=true) (kPu:bA K (.ref fPu)=true) (aFo:bJ K mainGlobals "found_rows"=some (some (.ref fFo))) (lFo:K.lookup fFo=some ⟨ocFo,odFo, .func (bN "found_rows" "found_rows" (dF sFd) (cT sFd) (aV sFd) .none kVFo dcFo pmFo anFo cdFo ctFo),slFo⟩) (cFo:bL K cdFo "found_rows"=true) (kFo:bA K (.ref fFo)=true) (aTf:bJ K mainGlobals "table_from"=some (some (.ref fTf))) (lTf:K.lookup fTf=some ⟨ocTf,odTf, .func (bN "table_from" "table_from" (dF tM) (cT tM) (aV tM) .none kVTf dcTf pmTf anTf cdTf ctTf),slTf⟩) (cTf:bL K cdTf "table_from"=true) (kTf:bA K (.ref fTf)=true) (aBk:bJ K mainGlobals "book_of"=some (some (.ref fBk))) (lBk:K.lookup fBk=some ⟨ocBk,odBk, .func (bN "book_of" "book_of" (dF yN) (cT yN) (aV yN) .none kVBk dcBk pmBk anBk cdBk ctBk),slBk⟩) (cBk:bL K cdBk "book_of"=true) (kBk:bA K (.ref fBk)=true) (aCa:bJ K mainGlobals "_law_cell_at"=some (some (.ref fCa))) (lCa:K.lookup fCa=some ⟨ocCa,odCa, .func (bN "_law_cell_at" "_law_cell_at" (dF rN) (cT rN) (aV rN) .none kVCa dcCa pmCa anCa cdCa ctCa),slCa⟩) (cCa:bL K cdCa "_law_cell_at"=true) (kCa:bA K (.ref fCa)=true) (aMi:bJ K mainGlobals "_law_mixed"=some (some (.ref fMi))) (lMi:K.lookup fMi=some ⟨ocMi,odMi, .func (bN "_law_mixed" "_law_mixed" (dF vR) (cT vR) (aV vR) .none kVMi dcMi pmMi anMi cdMi ctMi),slMi⟩) (cMi:bL K cdMi "_law_mixed"=true) (kMi:bA K (.ref fMi)=true) (aF:bJ K mainGlobals "_law_fillings"=some (some (.ref fF))) (lF:K.lookup fF=some ⟨ocF,odF, .func (bN "_law_fillings" "_law_fillings" (dF sT) (cT sT) (aV sT) .none kVF dcF pmF anF cdF ctF),slF⟩) (cF:bL K cdF "_law_fillings"=true) (kF:bA K (.ref fF)=true) (aLw:bJ K mainGlobals "_law_word"=some (some (.ref fLw))) (lLw:K.lookup fLw=some ⟨ocLw,odLw, .func (bN "_law_word" "_law_word" (dF vZ) (cT vZ) (aV vZ) .none kVLw dcLw pmLw anLw cdLw ctLw),slLw⟩) (cLw:bL K cdLw "_law_word"=true) (kLw:bA K (.ref fLw)=true) (aAf:bJ K mainGlobals "_law_after"=some (some (.ref fAf))) (lAf:K.lookup fAf=some ⟨ocAf,odAf, .func (bN "_law_after" "_law_after" (dF sAft) (cT sAft) (aV sAft) .none kVAf dcAf pmAf anAf cdAf ctAf),slAf⟩) (cAf:bL K cdAf "_law_after"=true) (kAf:bA K (.ref fAf)=true) (aDr:bJ K mainGlobals "_law_drawn"=some (some (.ref fDr))) (lDr:K.lookup fDr=some ⟨ocDr,odDr, .func (bN "_law_drawn" "_law_drawn" (dF tJ) (cT tJ) (aV tJ) .none kVDr dcDr pmDr anDr cdDr ctDr),slDr⟩) (cDr:bL K cdDr "_law_drawn"=true) (kDr:bA K (.ref fDr)=true) (aLm:bJ K mainGlobals "_law_moves"=some (some (.ref fLm))) (lLm:K.lookup fLm=some ⟨ocLm,odLm, .func (bN "_law_moves" "_law_moves" (dF sLMv) (cT sLMv) (aV sLMv) .none kVLm dcLm pmLm anLm cdLm ctLm),slLm⟩) (cLm:bL K cdLm "_law_moves"=true) (kLm:bA K (.ref fLm)=true) (aZ:bJ K mainGlobals "_law_size"=some (some (.ref fZ))) (lZ:K.lookup fZ=some ⟨ocZ,odZ, .func (bN "_law_size" "_law_size" (dF xW) (cT xW) (aV xW) .none kVZ dcZ pmZ anZ cdZ ctZ),slZ⟩) (cZ:bL K cdZ "_law_size"=true) (kZ:bA K (.ref fZ)=true) (aK:bJ K mainGlobals "_law_kit"=some (some (.ref fK))) (lK:K.lookup fK=some ⟨ocK,odK, .func (bN "_law_kit" "_law_kit" (dF xK) (cT xK) (aV xK) .none kVK dcK pmK anK cdK ctK),slK⟩) (cK:bL K cdK "_law_kit"=true) (kK:bA K (.ref fK)=true) (aBd:bJ K mainGlobals "_law_bound"=some (some (.ref fBd))) (lBd:K.lookup fBd=some ⟨ocBd,odBd, .func (bN "_law_bound" "_law_bound" (dF sBnd) (cT sBnd) (aV sBnd) .none kVBd dcBd pmBd anBd cdBd ctBd),slBd⟩) (cBd:bL K cdBd "_law_bound"=true) (kBd:bA K (.ref fBd)=true) (aLp:bJ K mainGlobals "_law_price"=some (some (.ref fLp))) (lLp:K.lookup fLp=some ⟨ocLp,odLp, .func (bN "_law_price" "_law_price" (dF sLPr) (cT sLPr) (aV sLPr) .none kVLp dcLp pmLp anLp cdLp ctLp),slLp⟩) (cLp:bL K cdLp "_law_price"=true) (kLp:bA K (.ref fLp)=true) (aKy:bJ K mainGlobals "_law_key"=some (some (.ref fKy))) (lKy:K.lookup fKy=some ⟨ocKy,odKy, .func (bN "_law_key" "_law_key" (dF sKey) (cT sKey) (aV sKey) .none kVKy dcKy pmKy anKy cdKy ctKy),slKy⟩) (cKy:bL K cdKy "_law_key"=true) (kKy:bA K (.ref fKy)=true) (aTb:bJ K mainGlobals "_law_table"=some (some (.ref fTb))) (lTb:K.lookup fTb=some ⟨ocTb,odTb, .func (bN "_law_table" "_law_table" (dF sTab) (cT sTab) (aV sTab) .none kVTb dcTb pmTb anTb cdTb ctTb),slTb⟩) (cTb:bL K cdTb "_law_table"=true) (kTb:bA K (.ref fTb)=true) (aW:bJ K mainGlobals "_law_whole"=some (some (.ref fW))) (lW:K.lookup fW=some ⟨ocW,odW, .func (bN "_law_whole" "_law_whole" (dF qY) (cT qY) (aV qY) .none kVW dcW pmW anW cdW ctW),slW⟩) (cW:bL K cdW "_law_whole"=true) (kW:bA K (.ref fW)=true) (aIt:bJ K mainGlobals "_law_is_table"=some (some (.ref fIt))) (lIt:K.lookup fIt=some ⟨ocIt,odIt, .func (bN "_law_is_table" "_law_is_table" (dF sIt) (cT sIt) (aV sIt) .none kVIt dcIt pmIt anIt cdIt ctIt),slIt⟩) (cIt:bL K cdIt "_law_is_table"=true) (kIt:bA K (.ref fIt)=true) (aIe:bJ K mainGlobals "_law_is_entry"=some (some (.ref fIe))) (lIe:K.lookup fIe=some ⟨ocIe,odIe, .func (bN "_law_is_entry" "_law_is_entry" (dF sIe) (cT sIe) (aV sIe) .none kVIe dcIe pmIe anIe cdIe ctIe),slIe⟩) (cIe:bL K cdIe "_law_is_entry"=true) (kIe:bA K (.ref fIe)=true) (aKn:bJ K mainGlobals "_law_known"=some (some (.ref fKn))) (lKn:K.lookup fKn=some ⟨ocKn,odKn, .func (bN "_law_known" "_law_known" (dF sKn) (cT sKn) (aV sKn) .none kVKn dcKn pmKn anKn cdKn ctKn),slKn⟩) (cKn:bL K cdKn "_law_known"=true) (kKn:bA K (.ref fKn)=true) (aIb:bJ K mainGlobals "_law_is_book"=some (some (.ref fIb))) (lIb:K.lookup fIb=some ⟨ocIb,odIb, .func (bN "_law_is_book" "_law_is_book" (dF sIb) (cT sIb) (aV sIb) .none kVIb dcIb pmIb anIb cdIb ctIb),slIb⟩) (cIb:bL K cdIb "_law_is_book"=true) (kIb:bA K (.ref fIb)=true) (aL:bJ K mainGlobals "law"=some (some (.ref fL))) (lL:K.lookup fL=some ⟨ocL,odL, .func (bN "law" "law" (dF xM) (cT xM) (aV xM) .none kVL dcL pmL anL cdL ctL),slL⟩) (cL:bL K cdL "law"=true) (kL:bA K (.ref fL)=true) (nrange:bJ K mainGlobals "range"=some none) (ntuple:bJ K mainGlobals "tuple"=some none) (nenumerate:bJ K mainGlobals "enumerate"=some none) (nlen:bJ K mainGlobals "len"=some none) (nmin:bJ K mainGlobals "min"=some none) (nlist:bJ K mainGlobals "list"=some none) (nsorted:bJ K mainGlobals "sorted"=some none) (nint:bJ K mainGlobals "int"=some none) (nsum:bJ K mainGlobals "sum"=some none) (nisinstance:bJ K mainGlobals "isinstance"=some none) (nbool:bJ K mainGlobals "bool"=some none) (aBY:bJ K mainGlobals "BY_ITSELF"=some (some (.ref fBY))) (lBY:K.lookup fBY=some ⟨.type "tuple",dB, .seq #[.str "not" t1, .str "up" t2, .str "down" t3] nB,sB⟩) (amst:bJ K mainGlobals "MOST_TABLES"=some (some (.int 500 tmst))):
  ∃fd:FuncData,(∀ (s:Shared) (v:Value),BindsTo s fd ⟨[v],[]⟩ [("_law_script",v)])∧∀base:Heap,K.In base→base.Ns mainGlobals mg→FnOk P w K mg base CX0 7 fa fd ["_law_script"] (spC K 1 CLaw):=by
 have e:=hfa.symm.trans (bS X G aL); cases e; have zrange:=eO X G nrange; have ztuple:=eO X G ntuple; have zenumerate:=eO X G nenumerate; have zlen:=eO X G nlen; have zmin:=eO X G nmin; have zlist:=eO X G nlist; have zsorted:=eO X G nsorted; have zint:=eO X G nint; have zsum:=eO X G nsum; have zisinstance:=eO X G nisinstance; have zbool:=eO X G nbool; have byself:∃ad,mg "BY_ITSELF"=some (.ref ad)∧∀H:Hp,SqT K H ad [V.str "not",V.str "up",V.str "down"]:=⟨_,bS X G aBY,fun H=> .inr ⟨_,_,_,lBY,rfl,rfl,aO rfl,byself_vals⟩⟩; have mst:∃t,mg "MOST_TABLES"=some (.int 500 t):=⟨_,bS X G amst⟩; have FC:=fD (st:=vT) lC cC kC; have mC:=bS X G aC; have FEa:=fD (st:=uB) lEa cEa kEa; have mEa:=bS X G aEa; have FFi:=fD (st:=sFill) lFi cFi kFi; have mFi:=bS X G aFi; have FNu:=fD (st:=sNum) lNu cNu kNu; have mNu:=bS X G aNu; have FI:=fD (st:=rR) lI cI kI; have mI:=bS X G aI; have FA:=fD (st:=pD) lA cA kA; have mA:=bS X G aA; have FN:=fD (st:=pF) lN cN kN; have mN:=bS X G aN; have FB:=fD (st:=oY) lB cB kB; have mB:=bS X G aB; have FS:=fD (st:=sJ) lS cS kS; have mS:=bS X G aS; have FNo:=fD (st:=sNos) lNo cNo kNo; have mNo:=bS X G aNo; have FMo:=fD (st:=sX) lMo cMo kMo; have mMo:=bS X G aMo; have FNb:=fD (st:=xX) lNb cNb kNb; have mNb:=bS X G aNb; have FPu:=fD (st:=sPut) lPu cPu kPu; have mPu:=bS X G aPu; have FFo:=fD (st:=sFd) lFo cFo kFo; have mFo:=bS X G aFo; have FTf:=fD (st:=tM) lTf cTf kTf; have mTf:=bS X G aTf; have FBk:=fD (st:=yN) lBk cBk kBk; have mBk:=bS X G aBk; have FCa:=fD (st:=rN) lCa cCa kCa; have mCa:=bS X G aCa; have FMi:=fD (st:=vR) lMi cMi kMi; have mMi:=bS X G aMi; have FF:=fD (st:=sT) lF cF kF; have mF:=bS X G aF; have FLw:=fD (st:=vZ) lLw cLw kLw; have mLw:=bS X G aLw; have FAf:=fD (st:=sAft) lAf cAf kAf; have mAf:=bS X G aAf; have FDr:=fD (st:=tJ) lDr cDr kDr; have mDr:=bS X G aDr; have FLm:=fD (st:=sLMv) lLm cLm kLm; have mLm:=bS X G aLm; have FZ:=fD (st:=xW) lZ cZ kZ; have mZ:=bS X G aZ; have FK:=fD (st:=xK) lK cK kK; have mK:=bS X G aK; have FBd:=fD (st:=sBnd) lBd cBd kBd; have mBd:=bS X G aBd; have FLp:=fD (st:=sLPr) lLp cLp kLp; have mLp:=bS X G aLp; have FKy:=fD (st:=sKey) lKy cKy kKy; have mKy:=bS X G aKy; have FTb:=fD (st:=sTab) lTb cTb kTb; have mTb:=bS X G aTb; have FW:=fD (st:=qY) lW cW kW; have mW:=bS X G aW; have FIt:=fD (st:=sIt) lIt cIt kIt; have mIt:=bS X G aIt; have FIe:=fD (st:=sIe) lIe cIe kIe; have mIe:=bS X G aIe; have FKn:=fD (st:=sKn) lKn cKn kKn; have mKn:=bS X G aKn; have FIb:=fD (st:=sIb) lIb cIb kIb; have mIb:=bS X G aIb; have FL:=fD (st:=xM) lL cL kL; refine ⟨bN "law" "law" (dF xM) (cT xM) (aV xM) .none kVL dcL pmL anL cdL ctL,fun s v=> .of_eq rfl,fun base _ _=> ?_⟩; have GC:=ok_count (P:=P) (w:=w) (base:=base) FC zrange mC ; have GEa:=ok_each (P:=P) (w:=w) (base:=base) FEa zrange mEa ; have GFi:=ok_fill (P:=P) (w:=w) (base:=base) FFi zrange mFi GC GEa; have GNu:=ok_num (P:=P) (w:=w) (base:=base) FNu mNu GC; have GI:=ok_itself (P:=P) (w:=w) (base:=base) FI mI ; have GA:=ok_another (P:=P) (w:=w) (base:=base) FA mA ; have GN:=ok_newword (P:=P) (w:=w) (base:=base) FN byself mN GC GI GA; have GB:=ok_written (P:=P) (w:=w) (base:=base) FB mB ; have GS:=ok_stepon (P:=P) (w:=w) (base:=base) FS mS GB GN; have GNo:=ok_nos45 (P:=P) (w:=w) (base:=base) FNo ztuple mNo GNu GS GFi; have GMo:=ok_moves45 (P:=P) (w:=w) (base:=base) FMo mMo GNo; have GNb:=ok_nbeh45 (P:=P) (w:=w) (base:=base) FNb ztuple mNb ; have GPu:=ok_put41 (P:=P) (w:=w) (base:=base) FPu zenumerate mPu GNb; have GFo:=ok_found41 (P:=P) (w:=w) (base:=base) FFo zlen zmin zlist zsorted mst mFo GPu; have GTf:=ok_tfrom45 (P:=P) (w:=w) (base:=base) FTf ztuple mTf ; have GBk:=ok_book41 (P:=P) (w:=w) (base:=base) FBk zlen zrange ztuple mBk GFi GMo GFo GTf; have GCa:=ok_cellat (P:=P) (w:=w) (base:=base) FCa zlen mCa ; have GMi:=ok_mix45 (P:=P) (w:=w) (base:=base) FMi mMi ; have GF:=ok_lfill41 (P:=P) (w:=w) (base:=base) FF zrange mF ; have GLw:=ok_lw41 (P:=P) (w:=w) (base:=base) FLw mLw ; have GAf:=ok_aft41 (P:=P) (w:=w) (base:=base) FAf mAf GLw; have GDr:=ok_dr41 (P:=P) (w:=w) (base:=base) FDr mDr GMi; have GLm:=ok_lmv41 (P:=P) (w:=w) (base:=base) FLm mLm GF GAf; have GZ:=ok_size41 (P:=P) (w:=w) (base:=base) FZ mZ GMi; have GK:=ok_kit41 (P:=P) (w:=w) (base:=base) FK zrange zint mK GCa GMi GDr; have GBd:=ok_bnd41 (P:=P) (w:=w) (base:=base) FBd zlen mBd ; have GLp:=ok_lpr41 (P:=P) (w:=w) (base:=base) FLp zsum mLp ; have GKy:=ok_key41 (P:=P) (w:=w) (base:=base) FKy zlen mKy GLp; have GTb:=ok_tab41 (P:=P) (w:=w) (base:=base) FTb ztuple mTb GF; have GW:=ok_lwhole (P:=P) (w:=w) (base:=base) FW zisinstance zint zbool mW ; have GIt:=ok_it40 (P:=P) (w:=w) (base:=base) FIt zisinstance ztuple zlen mIt GW; have GIe:=ok_ie40 (P:=P) (w:=w) (base:=base) FIe zisinstance ztuple zlen mIe GW GIt GLp GTb; have GKn:=ok_kn40 (P:=P) (w:=w) (base:=base) FKn mKn GLm GIe GKy; have GIb:=ok_ib40 (P:=P) (w:=w) (base:=base) FIb zisinstance zlist ztuple zrange zlen mIb GKn GF GLm; exact ok_law FL zlist GCa GZ GK GBd GBk GIb
end K40
open PySem PySem.W PyProof.Rows
theorem PySem.W.Fast.tw10224517353807806547 : True := trivial
theorem PySem.W.Fast.tw10345063330513427671 : True := trivial
theorem PySem.W.Fast.tw10751137166939731617 : True := trivial
theorem PySem.W.Fast.tw11170718208457228260 : True := trivial
theorem PySem.W.Fast.tw11208870764037806604 : True := trivial
theorem PySem.W.Fast.tw11943652157332848302 : True := trivial
theorem PySem.W.Fast.tw12532352692548132160 : True := trivial
theorem PySem.W.Fast.tw12576322685930206829 : True := trivial
theorem PySem.W.Fast.tw13978571452054311233 : True := trivial
theorem PySem.W.Fast.tw14021273451023303915 : True := trivial
theorem PySem.W.Fast.tw14038016580369539687 : True := trivial
theorem PySem.W.Fast.tw14199726713617150928 : True := trivial
theorem PySem.W.Fast.tw14338798701385219014 : True := trivial
theorem PySem.W.Fast.tw14506302191426155656 : True := trivial
theorem PySem.W.Fast.tw15943276809331534509 : True := trivial
theorem PySem.W.Fast.tw16160190339296503871 : True := trivial
theorem PySem.W.Fast.tw16179033575056268508 : True := trivial
theorem PySem.W.Fast.tw16266502913659500690 : True := trivial
theorem PySem.W.Fast.tw16288604424061754808 : True := trivial
theorem PySem.W.Fast.tw16610375428079975066 : True := trivial
theorem PySem.W.Fast.tw1671435819727983517 : True := trivial
theorem PySem.W.Fast.tw181158606305108558 : True := trivial
theorem PySem.W.Fast.tw1833166630144370489 : True := trivial
theorem PySem.W.Fast.tw1960696869717272413 : True := trivial
theorem PySem.W.Fast.tw2051211619106434779 : True := trivial
theorem PySem.W.Fast.tw2102375312803140421 : True := trivial
theorem PySem.W.Fast.tw2781559872364368982 : True := trivial
theorem PySem.W.Fast.tw3052114575658794555 : True := trivial
theorem PySem.W.Fast.tw3415491104050431999 : True := trivial
theorem PySem.W.Fast.tw3508979429764877528 : True := trivial
theorem PySem.W.Fast.tw368159311469978187 : True := trivial
theorem PySem.W.Fast.tw4302009371019321279 : True := trivial
theorem PySem.W.Fast.tw4442615686157112777 : True := trivial
theorem PySem.W.Fast.tw7333507101835830023 : True := trivial
theorem PySem.W.Fast.tw8132180416975216235 : True := trivial
theorem PySem.W.Fast.tw8363249602618350140 : True := trivial
theorem PySem.W.Fast.tw858414048143466852 : True := trivial
theorem PySem.W.Fast.tw8651755252589473738 : True := trivial
theorem PySem.W.Fast.tw9747610993294813256 : True := trivial
set_option maxRecDepth 100000 in
set_option maxHeartbeats 0 in
theorem PySem.Challenge.cw_leastrow_k40_books_walked_holds : PySem.Challenge.rw_leastrow_k40_books_walked.Holds := by
 w_on; o_law; k_head; (case hw=>w_witness2)
 k_fill
 refine DL.walkD (l:=PySem.Challenge.rw_leastrow_k40_books_walked) (k:=7) (x:="_law_script") rfl rfl ⟨rfl,by decide,by decide,rfl⟩ (fun w h Y=>PySem.W.kIn_of Y) ?F
 case F=>
  intro w mg fa h KX G hmg; refine' K40.all_mk KX G hmg ?aC ?lC ?cC ?kC ?aEa ?lEa ?cEa ?kEa ?aFi ?lFi ?cFi ?kFi ?aNu ?lNu ?cNu ?kNu ?aI ?lI ?cI ?kI ?aA ?lA ?cA ?kA ?aN ?lN ?cN ?kN ?aB ?lB ?cB ?kB ?aS ?lS ?cS ?kS ?aNo ?lNo ?cNo ?kNo ?aMo ?lMo ?cMo ?kMo ?aNb ?lNb ?cNb ?kNb ?aPu ?lPu ?cPu ?kPu ?aFo ?lFo ?cFo ?kFo ?aTf ?lTf ?cTf ?kTf ?aBk ?lBk ?cBk ?kBk ?aCa ?lCa ?cCa ?kCa ?aMi ?lMi ?cMi ?kMi ?aF ?lF ?cF ?kF ?aLw ?lLw ?cLw ?kLw ?aAf ?lAf ?cAf ?kAf ?aDr ?lDr ?cDr ?kDr ?aLm ?lLm ?cLm ?kLm ?aZ ?lZ ?cZ ?kZ ?aK ?lK ?cK ?kK ?aBd ?lBd ?cBd ?kBd ?aLp ?lLp ?cLp ?kLp ?aKy ?lKy ?cKy ?kKy ?aTb ?lTb ?cTb ?kTb ?aW ?lW ?cW ?kW ?aIt ?lIt ?cIt ?kIt ?aIe ?lIe ?cIe ?kIe ?aKn ?lKn ?cKn ?kKn ?aIb ?lIb ?cIb ?kIb ?aL ?lL ?cL ?kL ?nrange ?ntuple ?nenumerate ?nlen ?nmin ?nlist ?nsorted ?nint ?nsum ?nisinstance ?nbool ?aBY ?lBY ?amst
  (case aC=>k_is); (case lC=>k_is); (case cC=>k_is); (case kC=>k_is); (case aEa=>k_is); (case lEa=>k_is); (case cEa=>k_is); (case kEa=>k_is); (case aFi=>k_is); (case lFi=>k_is); (case cFi=>k_is); (case kFi=>k_is); (case aNu=>k_is); (case lNu=>k_is); (case cNu=>k_is); (case kNu=>k_is); (case aI=>k_is); (case lI=>k_is); (case cI=>k_is); (case kI=>k_is); (case aA=>k_is); (case lA=>k_is); (case cA=>k_is); (case kA=>k_is); (case aN=>k_is); (case lN=>k_is); (case cN=>k_is); (case kN=>k_is); (case aB=>k_is); (case lB=>k_is); (case cB=>k_is); (case kB=>k_is); (case aS=>k_is); (case lS=>k_is); (case cS=>k_is); (case kS=>k_is); (case aNo=>k_is); (case lNo=>k_is); (case cNo=>k_is); (case kNo=>k_is); (case aMo=>k_is); (case lMo=>k_is); (case cMo=>k_is); (case kMo=>k_is); (case aNb=>k_is); (case lNb=>k_is); (case cNb=>k_is); (case kNb=>k_is); (case aPu=>k_is); (case lPu=>k_is); (case cPu=>k_is); (case kPu=>k_is); (case aFo=>k_is); (case lFo=>k_is); (case cFo=>k_is); (case kFo=>k_is); (case aTf=>k_is); (case lTf=>k_is); (case cTf=>k_is); (case kTf=>k_is); (case aBk=>k_is); (case lBk=>k_is); (case cBk=>k_is); (case kBk=>k_is); (case aCa=>k_is); (case lCa=>k_is); (case cCa=>k_is); (case kCa=>k_is); (case aMi=>k_is); (case lMi=>k_is); (case cMi=>k_is); (case kMi=>k_is); (case aF=>k_is); (case lF=>k_is); (case cF=>k_is); (case kF=>k_is); (case aLw=>k_is); (case lLw=>k_is); (case cLw=>k_is); (case kLw=>k_is); (case aAf=>k_is); (case lAf=>k_is); (case cAf=>k_is); (case kAf=>k_is); (case aDr=>k_is); (case lDr=>k_is); (case cDr=>k_is); (case kDr=>k_is); (case aLm=>k_is); (case lLm=>k_is); (case cLm=>k_is); (case kLm=>k_is); (case aZ=>k_is); (case lZ=>k_is); (case cZ=>k_is); (case kZ=>k_is); (case aK=>k_is); (case lK=>k_is); (case cK=>k_is); (case kK=>k_is); (case aBd=>k_is); (case lBd=>k_is); (case cBd=>k_is); (case kBd=>k_is); (case aLp=>k_is); (case lLp=>k_is); (case cLp=>k_is); (case kLp=>k_is); (case aKy=>k_is); (case lKy=>k_is); (case cKy=>k_is); (case kKy=>k_is); (case aTb=>k_is); (case lTb=>k_is); (case cTb=>k_is); (case kTb=>k_is); (case aW=>k_is); (case lW=>k_is); (case cW=>k_is); (case kW=>k_is); (case aIt=>k_is); (case lIt=>k_is); (case cIt=>k_is); (case kIt=>k_is); (case aIe=>k_is); (case lIe=>k_is); (case cIe=>k_is); (case kIe=>k_is); (case aKn=>k_is); (case lKn=>k_is); (case cKn=>k_is); (case kKn=>k_is); (case aIb=>k_is); (case lIb=>k_is); (case cIb=>k_is); (case kIb=>k_is); (case aL=>k_is); (case lL=>k_is); (case cL=>k_is); (case kL=>k_is); (case nrange=>k_is); (case ntuple=>k_is); (case nenumerate=>k_is); (case nlen=>k_is); (case nmin=>k_is); (case nlist=>k_is); (case nsorted=>k_is); (case nint=>k_is); (case nsum=>k_is); (case nisinstance=>k_is); (case nbool=>k_is); (case aBY=>k_is); (case lBY=>k_is); (case amst=>k_is)
