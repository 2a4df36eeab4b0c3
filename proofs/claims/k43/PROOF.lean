import PyProof.Rows.All
import Wide.All
import OpenK.AllK
import Wide.FinOn
import Lean
import PyProof.EqAt
import PyProof.EqKinds
import PyProof.TupleCall
import PySem.Challenge.RW_leastrow_k43_lists_held
set_option Elab.async false
set_option linter.all false
set_option maxRecDepth 100000
open List renaming length_map→aB,getElem?_eq_some_iff→aH,getElem?_map→aI,mem_map→aJ,size_toArray→aK,length_append→aN,mem_singleton→aR,map_append→aT,mem_cons_of_mem→aU,mem_of_getElem?→aV,mem_append_right→aX,map_map→aY,mem_cons_self→bB,all_eq_true→bD,length_take→bH,map_congr_left→bI,range→bJ,mem_append→bN,filter_eq_self→bU,nodup_cons→bW,map_cons→bX,mem_range→bY,getD→cC,getElem?_of_mem→cH,nodup_append→cI,mem_cons→cJ,getElem_of_mem→cN,length_drop→cQ,length_cons→cR,any_eq_true→cX,take_length→cY,mem_append_left→dH,lookup_cons→dQ,getElem_map→dR,getElem?_append_left→dU,mem_flatMap→eG,mem_singleton_self→eJ,take_of_length_le→eW,eq_nil_of_length_eq_zero→fV,filterMap_cons→gA,getElem_inj→gF,append_nil→gL,find?_cons→gM,take_add_one→gO,map_take→gQ,replicate→gU,nodup_nil→gW,getElem_mem→gX,map_nil→hG,zip_cons_cons→hJ,length_nil→hW,map_drop→iC,length_range→iH,getElem?_append_right→iR,mem_of_mem_take→iS,getElem?_set_self→jL,take_zero→jM,foldl_append→jN,eraseIdx_sublist→jV,ext_getElem→jW,any_cons→jY,getElem?_set_ne→jZ,length_pos_iff→kS,drop_zero→kX,getElem_range→kY,getElem?_zip_eq_some→lF,getElem?_eq_getElem→lU,getElem?_eq_none→nJ,set_eq_take_append_cons_drop→pX,mem_eraseIdx_iff_getElem?→qY,of_mem_zip→tH,length_zip→tI,countP_eq_length_filter→tJ,getElem?_eq_none_iff→wL,drop_of_length_le→yR
open PySem.W renaming Frag→aD,keepIn→dE,mg_none_of→dG,kia_one→dW,kitOne→eT,nsIn→eV,fnOf→fY,codeIn→jK,findIn→kT,methodObj→pB,instObj→qJ,lookIn→tG,mg_of→tR,cellsFrom_some→wN
open Nat renaming le_of_ble_eq_true→aE,le_refl→aZ,lt_of_lt_of_le→bQ,le_trans→cA,ne_of_lt→cG,zero_le→cW,lt_of_le_of_lt→eE,le_of_lt→eZ,lt_irrefl→gT,ne_of_gt→jR,mul_le_mul_right→nX,pow_le_pow_right→nY
open PySem.Heap renaming get?_push_of_some→aM,lt_size→bA,get?_push_size→bF
open Bool renaming and_eq_true→aP,false_ne_true→bP,and_eq_true_iff→dJ,eq_iff_iff→dM,true_and→dO,false_or→iD,eq_false_iff→iI,or_eq_true→kJ,false_and→nO,not_true→oZ,false_eq_true→pC,not_eq_true'→qE,and_false→uT
open Int renaming emod_lt_of_pos→bR,emod_nonneg→cM,toNat_natCast→fE,natCast_nonneg→jJ,ne_of_gt→jS,le_refl→lV,zero_add→qI,fdiv_eq_ediv_of_nonneg→wM
open Option renaming some→cT,map_eq_some_iff→gB
open Array renaming length_toList→fX,getElem?_eq_getElem→iX,forIn_toList→pA,getElem?_eq_none→yQ,getElem?_toList→yS
open PySem.F renaming plainAttrs_list→jD,args_tuple_add_2→lE,entry_tuple_add→lS,plainAttrs_dict→lT,slot_tuple_add→mJ,slot_dict_get→mR,slot_dict_itemiterator_iter→nQ,slot_dict_setdefault→qK,slot_list_append→tS,type_list_append→tT,args_dict_get_3→uU,slot_dict_items→uV,plain_list_iadd→uW,entry_dict_get→wO
open PySem.SetTable renaming leap→kZ,bits→nM
namespace L2
open PySem PySem.Spec PyProof.Rows
noncomputable abbrev Key:=Sum Int Str
noncomputable def tX:Key→Value→Bool
 | .inl k,v=>Value.isInt k v
 | .inr x,v=>Value.isStrOf x v
noncomputable def keyH (w:World):Key→Int
 | .inl k=>hashInt k
 | .inr x=>hashStr w x
theorem gI:∀ {k:Key} {v:Value},tX k v=true→(∃i t,k=Sum.inl i∧v=Value.int i t)∨(∃x t,k=Sum.inr x∧v=Value.str x t)
 | .inl i,v,h=>by obtain ⟨t,e⟩:=Value.isInt_shape (k:=i) (v:=v) h; exact .inl ⟨i,t,rfl,e⟩
 | .inr x,v,h=>by obtain ⟨t,e⟩:=Value.isStrOf_shape (x:=x) (v:=v) h; exact .inr ⟨x,t,rfl,e⟩
theorem keyIs_int (i:Int) (t:Tok):tX (.inl i) (.int i t)=true:=by simp [tX,Value.isInt]
theorem keyIs_str (x:Str) (t:Tok):tX (.inr x) (.str x t)=true:=by simp [tX,Value.isStrOf]
theorem key_ll (a b:Int):decide ((Sum.inl a:Key)=Sum.inl b)=(a==b):=by
 by_cases e:a=b
 ·subst e; simp
 ·have h:¬ (Sum.inl a:Key)=Sum.inl b:=fun q=>e (Sum.inl.inj q)
  rw [decide_eq_false h]; exact (beq_eq_false_iff_ne.mpr e).symm
theorem key_rr (a b:Str):decide ((Sum.inr a:Key)=Sum.inr b)=decide (a=b):=by
 by_cases e:a=b
 ·subst e; simp
 ·have h:¬ (Sum.inr a:Key)=Sum.inr b:=fun q=>e (Sum.inr.inj q)
  rw [decide_eq_false h,decide_eq_false e]
theorem key_lr (a:Int) (b:Str):decide ((Sum.inl a:Key)=Sum.inr b)=false:=decide_eq_false (fun q=>nomatch q)
theorem key_rl (a:Str) (b:Int):decide ((Sum.inr a:Key)=Sum.inl b)=false:=decide_eq_false (fun q=>nomatch q)
noncomputable def fM (prog:Program) (w:World):PySem.KeyKind prog w Key where
 is:=tX
 hash:=keyH w
 inj:=fun v a b ha hb=>by
  rcases gI ha with ⟨i,t,rfl,rfl⟩ | ⟨x,t,rfl,rfl⟩
  ·rcases gI hb with ⟨j,u,rfl,e⟩ | ⟨y,u,rfl,e⟩
   ·injection e with e1 _; rw [e1]
   ·exact nomatch e
  ·rcases gI hb with ⟨j,u,rfl,e⟩ | ⟨y,u,rfl,e⟩
   ·exact nomatch e
   ·injection e with e1 _; rw [e1]
 byValue:=fun k v h=>by rcases gI h with ⟨i,t,rfl,rfl⟩ | ⟨x,t,rfl,rfl⟩<;>rfl
 pyHash:=fun hv h=>by
  rcases gI hv with ⟨i,t,rfl,rfl⟩ | ⟨x,t,rfl,rfl⟩
  ·exact wpAny_pyHash_int h
  ·exact wpAny_pyHash_str h
 eqBool:=fun hu hv h=>by
  rcases gI hu with ⟨i,t,rfl,rfl⟩ | ⟨x,t,rfl,rfl⟩
  ·rcases gI hv with ⟨j,u,rfl,rfl⟩ | ⟨y,u,rfl,rfl⟩
   ·rw [key_ll] at h; exact wpAny_eqBool_int h
   ·rw [key_lr] at h; exact SeqAt.EqAt.int_str i t y u _ _ _ _ h
  ·rcases gI hv with ⟨j,u,rfl,rfl⟩ | ⟨y,u,rfl,rfl⟩
   ·rw [key_rl] at h; exact SeqAt.EqAt.str_int x t j u _ _ _ _ h
   ·rw [key_rr] at h; exact wpAny_eqBool_str h
 «strs»:=fun k x t v h=>by
  rcases gI h with ⟨i,u,rfl,e⟩ | ⟨y,u,rfl,e⟩
  ·exact nomatch e
  ·injection e with e1 _
   subst e1; cases v<;>rfl
theorem yE (prog:Program) (w:World) (i:Int) (t:Tok):(fM prog w).is (.inl i) (.int i t)=true:=keyIs_int i t
theorem xP (prog:Program) (w:World) (x:Str) (t:Tok):(fM prog w).is (.inr x) (.str x t)=true:=keyIs_str x t
inductive V where
 | non | bl (b:Bool) | int (i:Int) | str (x:Str) | byt (b:Array UInt8) | flt (b:UInt64) | ref (a:Addr) | ty (n:String)
 deriving DecidableEq
noncomputable def RelV:V→Value→Prop
 | .non,u=>u=Value.none
 | .bl b,u=>u=Value.bool b
 | .int i,u=>∃t,u=Value.int i t
 | .str x,u=>∃t,u=Value.str x t
 | .byt b,u=>∃t,u=Value.bytes b t
 | .flt b,u=>∃t,u=Value.float b t
 | .ref a,u=>u=Value.ref a
 | .ty n,u=>u=Value.type n
noncomputable abbrev Vals:List V→List Value→Prop:=Paired RelV
theorem Vals.length {xs:List V} {us:List Value} (r:Vals xs us):xs.length=us.length:=Paired.length r
theorem Vals.get:∀ {xs:List V} {us:List Value} {i:Nat} {x:V},Vals xs us→xs[i]? =some x→∃u,us[i]? =some u∧RelV x u
 | _,_,_,_, .nil,e=>by simp at e
 | _,_,0,_, .cons r _,e=>by simp at e; subst e; exact ⟨_,rfl,r⟩
 | _,_,i+1,x, .cons _ t,e=>by obtain ⟨u,h1,h2⟩:=Vals.get (i:=i) (x:=x) t (by simpa using e); exact ⟨u,by simpa using h1,h2⟩
theorem Vals.append:∀ {xs ys:List V} {us ws:List Value},Vals xs us→Vals ys ws→Vals (xs++ys) (us++ws)
 | _,_,_,_, .nil,s=>s
 | _,_,_,_, .cons r t,s=> .cons r (Vals.append t s)
theorem Vals.take:∀ {xs:List V} {us:List Value} (n:Nat),Vals xs us→Vals (xs.take n) (us.take n)
 | _,_,0,_=> .nil
 | _,_,_+1, .nil=> .nil
 | _,_,n+1, .cons r t=> .cons r (Vals.take n t)
theorem Vals.drop:∀ {xs:List V} {us:List Value} (n:Nat),Vals xs us→Vals (xs.drop n) (us.drop n)
 | _,_,0,r=>r
 | _,_,_+1, .nil=> .nil
 | _,_,n+1, .cons _ t=>Vals.drop n t
noncomputable def RelO:Option V→Option Value→Prop
 | some v,some u=>RelV v u
 | none,none=>True
 | _,_=>False
noncomputable def KV {κ:Type}:List (κ × V)→List (κ × Value)→Prop:=Paired fun (p:κ × V) (q:κ × Value)=>p.1=q.1∧RelV p.2 q.2
noncomputable def kV:Key→V
 | .inl i=> .int i
 | .inr x=> .str x
inductive HO where
 /-- a list -/
 | lst (xs:List V)
 /-- a tuple (never changes) -/
 | tup (xs:List V)
 /-- a dict whose keys are ints and texts; one whose keys are tuples of ints and texts (the empty one is both) -/
 | dK (kvs:List (Key × V)) | dT (kvs:List (List Key × V))
 /-- a set of ints:its members,its size -/
 | set (S:Int→Bool) (n:Nat)
 /-- an instance of the class at C,its dict at dx,its attributes -/
 | ins (C dx:Addr) (fs:List (Str × V))
 /-- the dict of the instance at x -/
 | own (x:Addr)
 /-- the dict of an exception -/
 | xd (fs:List (Str × V))
 /-- a bound method,f of x -/
 | met (f x:Addr)
 /-- a range object lo,lo+1, .. below hi -/
 | rng (lo hi:Int)
 /-- a thing that is known to the object (the script; a dict while a loop walks it):read,never written while it is so -/
 | frz (o:Obj) (u:HO)
 /-- a code object's table -/
 | tbl (ps:Array Value)
 /-- any other thing,by what is true of its one object (a def of one's own:SetO a S n:=HO.ext fun h=> ..) -/
 | ext (φ:Heap→Prop)
noncomputable abbrev Hp:=Addr→Option HO
noncomputable def upd (H:Hp) (a:Addr) (o:HO):Hp:=fun b=>if b=a then some o else H b
theorem bZ {H:Hp} {a:Addr} {o:HO}:upd H a o a=some o:=by unfold upd; rw [if_pos rfl]
theorem bM {H:Hp} {a b:Addr} {o:HO} (h:b≠a):upd H a o b=H b:=by unfold upd; rw [if_neg h]
theorem ne_of {H:Hp} {a b:Addr} {o u:HO} (h:H a=some o) (h':H b=some u) (d:o≠u):a≠b:=by intro e; subst e; rw [h] at h'; exact d (cT.inj h')
theorem cF {H:Hp} {a b:Addr} {o:HO} (h:H a=some o) (h':H b=none):a≠b:=by intro e; subst e; rw [h] at h'; cases h'
noncomputable def IsTupD (h:Heap) (a:Addr) (items:Array Value):Prop:=∃o,h.get? a=some o∧o.cls= .type "tuple"∧(∃n,o.data= .seq items n)∧o.dict=none
theorem IsTupD.tup {h:Heap} {a:Addr} {items:Array Value} (x:IsTupD h a items):IsTup h a items:=let ⟨o,e,c,d,_⟩:=x; ⟨o,e,c,d⟩
theorem IsTupD.new (h:Heap) (items:Array Value):IsTupD (h.push {cls:= .type "tuple",data:= .seq items}) h.objs.size items:=⟨_,bF _ rfl,rfl,⟨_,rfl⟩,rfl⟩
section
variable (P:Program) (w:World)
noncomputable def ObjOk (H:Hp) (h:Heap) (a:Addr):HO→Prop
 | .lst xs=>xs.length≤sizeLine∧∃ (its:List Value) (n:Nat),Vals xs its∧h.get? a=some {cls:= .type "list",data:= .seq its.toArray n}
 | .tup xs=>xs.length≤sizeLine∧∃its:List Value,Vals xs its∧IsTupD h a its.toArray
 | .dK kvs=>kvs.length≤sizeLine∧(a==sysModules)=false∧∃vs,KV kvs vs∧h.DictOf (fM P w) a vs
 | .dT kvs=>kvs.length≤sizeLine∧(a==sysModules)=false∧∃xs:List (List Key × Addr × Value),
   Paired (fun (p:List Key × V) (q:List Key × Addr × Value)=>p.1=q.1∧H q.2.1=some (.tup (p.1.map kV))∧RelV p.2 q.2.2) kvs xs∧
   ∃o es ep,h.get? a=some o∧o.ExactDict∧o.data= .dict es ep∧es.toList=xs.map (entryOfKey (tupleKind (fM P w)))∧(xs.map (·.1)).Nodup
 | .set S n=>h.SetOf (intKind P w) a S n
 | .ins C dx fs=>H dx=some (.own a)∧fs.length≤1000∧dx≠a∧h.get? a=some (qJ C dx)∧
   ∃mA,h.Ns1 dx mA∧(∀f,RelO (fs.lookup f) (mA f))∧PySem.Within mA (fs.map (·.1))
 | .own _=>∃o,h.get? a=some o
 | .xd fs=>∃mA,h.Ns1 a mA∧∀f,RelO (fs.lookup f) (mA f)
 | .rng lo hi=>∃t u v,h.get? a=some {cls:= .type "range",data:= .fields #[.int lo t, .int hi u, .int 1 v]}
 | .frz o u=>h.get? a=some o∧ObjOk H h a u
 | .tbl ps=>h.get? a=some {cls:= .none,data:= .fields ps}
 | .met f x=>h.get? a=some (pB (.ref f) (.ref x))
 | .ext φ=>φ h∧(∃o,h.get? a=some o)∧∀h1 h2:Heap,φ h1→(∀o,h1.get? a=some o→h2.get? a=some o)→φ h2
noncomputable def HOk (H:Hp) (h:Heap):Prop:=∀a o,H a=some o→ObjOk P w H h a o
end
section
variable {P:Program} {w:World} {H H':Hp} {h h':Heap} {a:Addr} {o:HO}
theorem ObjOk.lt (x:ObjOk P w H h a o):a<h.objs.size:=by
 cases o with
 | lst xs=>obtain ⟨_,_,_,_,e⟩:=x; exact bA e
 | tup xs=>obtain ⟨_,_,_,p⟩:=x; exact p.tup.lt
 | dK kvs=>obtain ⟨_,_,_,_,o,_,_,e,_⟩:=x; exact bA e
 | dT kvs=>obtain ⟨_,_,_,_,o,_,_,e,_⟩:=x; exact bA e
 | set S n=>obtain ⟨o,_,_,_,e,_⟩:=x; exact bA e
 | ins C dx fs=>obtain ⟨_,_,_,e,_⟩:=x; exact bA e
 | own y=>obtain ⟨_,e⟩:=x; exact bA e
 | xd fs=>obtain ⟨_,⟨_,_,_,e,_⟩,_⟩:=x; exact bA e
 | rng lo hi=>obtain ⟨_,_,_,e⟩:=x; exact bA e
 | frz ob u=>obtain ⟨e,_⟩:=x; exact bA e
 | tbl ps=>exact bA (show h.get? a=some _ from x)
 | met f y=>exact bA (show h.get? a=some _ from x)
 | ext φ=>obtain ⟨_,⟨_,e⟩,_⟩:=x; exact bA e
theorem Paired.mapP {α β:Type} {F G:α→β→Prop}:∀ {l₁:List α} {l₂:List β},Paired F l₁ l₂→(∀a b,F a b→G a b)→Paired G l₁ l₂
 | _,_, .nil,_=> .nil
 | _,_, .cons r t,f=> .cons (f _ _ r) (Paired.mapP t f)
theorem ObjOk.stay (x:ObjOk P w H h a o) (k:∀b u,(b=a∨H b=some (.own a))→h.get? b=some u→h'.get? b=some u)
  (ho:∀b,H b=some (.own a)→H' b=some (.own a)) (ht:∀b xs,H b=some (.tup xs)→H' b=some (.tup xs)):ObjOk P w H' h' a o:=by
 induction o with
 | lst xs=>obtain ⟨z,its,n,r,e⟩:=x; exact ⟨z,its,n,r,k _ _ (.inl rfl) e⟩
 | tup xs=>obtain ⟨z,its,r,ob,e,c⟩:=x; exact ⟨z,its,r,ob,k _ _ (.inl rfl) e,c⟩
 | dK kvs=>obtain ⟨z,y,vs,r,ob,es,ep,e,c⟩:=x; exact ⟨z,y,vs,r,ob,es,ep,k _ _ (.inl rfl) e,c⟩
 | dT kvs=>obtain ⟨z,y,xs,r,ob,es,ep,e,c⟩:=x; exact ⟨z,y,xs,Paired.mapP r fun p q z=>⟨z.1,ht _ _ z.2.1,z.2.2⟩,ob,es,ep,k _ _ (.inl rfl) e,c⟩
 | set S n=>obtain ⟨ob,es,ep,t,e,c⟩:=x; exact ⟨ob,es,ep,t,k _ _ (.inl rfl) e,c⟩
 | ins C dx fs=>obtain ⟨d,z,ne,e,mA,⟨od,es,ep,e2,c⟩,r⟩:=x; exact ⟨ho _ d,z,ne,k _ _ (.inl rfl) e,mA,⟨od,es,ep,k _ _ (.inr d) e2,c⟩,r⟩
 | own y=>obtain ⟨ob,e⟩:=x; exact ⟨ob,k _ _ (.inl rfl) e⟩
 | xd fs=>obtain ⟨mA,⟨od,es,ep,e,c⟩,r⟩:=x; exact ⟨mA,⟨od,es,ep,k _ _ (.inl rfl) e,c⟩,r⟩
 | rng lo hi=>obtain ⟨t,u,v,e⟩:=x; exact ⟨t,u,v,k _ _ (.inl rfl) e⟩
 | frz ob u ih=>obtain ⟨e,q⟩:=x; exact ⟨k _ _ (.inl rfl) e,ih q⟩
 | tbl ps=>have e:h.get? a=some {cls:= .none,data:= .fields ps}:=x; show h'.get? a=some {cls:= .none,data:= .fields ps}; exact k a _ (.inl rfl) e
 | met f y=>have e:h.get? a=some (pB (.ref f) (.ref y)):=x; show h'.get? a=some (pB (.ref f) (.ref y)); exact k a _ (.inl rfl) e
 | ext φ=>obtain ⟨p,⟨o,e⟩,st⟩:=x; exact ⟨st _ _ p fun o q=>k _ _ (.inl rfl) q,⟨o,k _ _ (.inl rfl) e⟩,st⟩
theorem HOk.lt (x:HOk P w H h) (e:H a=some o):a<h.objs.size:=(x a o e).lt
theorem HOk.fresh (x:HOk P w H h) (e:h.objs.size≤a):H a=none:=by
 cases q:H a with
 | none=>rfl
 | some u=>exact absurd (bQ (x.lt q) e) (gT _)
theorem HOk.kept (x:HOk P w H h) (k:∀b u,h.get? b=some u→h'.get? b=some u):HOk P w H h':=fun a o e=>(x a o e).stay (fun b u _ q=>k b u q) (fun _ q=>q) fun _ _ q=>q
theorem HOk.laid (x:HOk P w H h) (k:∀b u,h.get? b=some u→h'.get? b=some u) (hp:h.objs.size≤a) (new:ObjOk P w (upd H a o) h' a o):HOk P w (upd H a o) h':=fun b u e=>by
 have hn:=x.fresh hp
 by_cases hb:b=a
 ·subst hb; rw [bZ] at e; cases e; exact new
 ·rw [bM hb] at e; exact (x b u e).stay (fun c v _ q=>k c v q) (fun c q=>by rw [bM (cF q hn)]; exact q) fun c xs q=>by rw [bM (cF q hn)]; exact q
end
noncomputable def Rd (H:Hp) (a:Addr) (u:HO):Prop:=H a=some u∨∃o,H a=some (.frz o u)
theorem Rd.of {H:Hp} {a:Addr} {u:HO} (h:H a=some u):Rd H a u:= .inl h
theorem Rd.ok {P:Program} {w:World} {H:Hp} {h:Heap} {a:Addr} {u:HO} (r:Rd H a u) (x:HOk P w H h):ObjOk P w H h a u:=by
 rcases r with r | ⟨o,r⟩
 ·exact x a u r
 ·obtain ⟨_,q⟩:=x a _ r; exact q
noncomputable def Mut:Option HO→Prop
 | some (.lst _)=>True
 | some (.dK _)=>True
 | some (.dT _)=>True
 | some (.set _ _)=>True
 | some (.ins _ _ _)=>True
 | some (.ext _)=>True
 | _=>False
section
variable {P:Program} {w:World} {H:Hp} {h h':Heap} {x e:Addr} {o':HO}
theorem HOk.write (ok:HOk P w H h) (mu:Mut (H x)) (he:e=x∨H e=some (.own x)) (k:∀b u,b≠e→h.get? b=some u→h'.get? b=some u) (heo:∃u,h'.get? e=some u)
  (new:ObjOk P w (upd H x o') h' x o'):HOk P w (upd H x o') h':=fun b u q=>by
 have nown:∀c y,H c=some (.own y)→c≠x:=fun c y r z=>by subst z; rw [r] at mu; exact mu
 have ntup:∀c xs,H c=some (.tup xs)→c≠x:=fun c xs r z=>by subst z; rw [r] at mu; exact mu
 by_cases hb:b=x
 ·subst hb; rw [bZ] at q; cases q; exact new
 ·rw [bM hb] at q
  by_cases hbe:b=e
  ·have q':H b=some (.own x):=by
    rcases he with z | z
    ·exact absurd (hbe.trans z) hb
    ·rw [hbe]; exact z
   rw [q] at q'; cases q'; obtain ⟨v,hv⟩:=heo; exact ⟨v,by rw [hbe]; exact hv⟩
  ·refine (ok b u q).stay (fun c v hc r=>k c v ?_ r) (fun c r=>by rw [bM (nown c b r)]; exact r) fun c xs r=>by rw [bM (ntup c xs r)]; exact r
   rcases hc with rfl | hc
   ·exact hbe
   ·rintro rfl
    rcases he with z | z
    ·exact nown c b hc z
    ·rw [hc] at z; cases z; exact hb rfl
end
structure Un (fs ex:List Addr) (H H':Hp) (h h':Heap):Prop where
 keep:∀b o,h.get? b=some o→H b=none→b∉fs→b∉ex→h'.get? b=some o
 slot:∀b o,h.get? b=some o→H b=none→b∈fs→b∉ex→∃sl,h'.get? b=some {o with slots:=sl}
 free:∀b o,h.get? b=some o→H b=none→b∉ex→H' b=none
 there:∀b o,h.get? b=some o→b∉ex→∃o',h'.get? b=some o'
 tups:∀b xs,H b=some (.tup xs)→H' b=some (.tup xs)
 frzs:∀b o u,H b=some (.frz o u)→H' b=some (.frz o u)
 tbls:∀b ps,H b=some (.tbl ps)→∃more,H' b=some (.tbl (ps++more))
section
variable {fs fs' ex ex':List Addr} {H H1 H2:Hp} {h h1 h2 h':Heap} {a x e:Addr} {o:HO}
theorem Un.any (u:Un fs ex H H1 h h1) {b:Addr} {ob:Obj} (q:h.get? b=some ob) (n:H b=none) (hx:b∉ex):∃sl,h1.get? b=some {ob with slots:=sl}:=by
 by_cases hb:b∈fs
 ·exact u.slot b ob q n hb hx
 ·exact ⟨ob.slots,u.keep b ob q n hb hx⟩
theorem Un.kept (k:∀b u,h.get? b=some u→h'.get? b=some u):Un fs ex H H h h':=
 ⟨fun b ob q _ _ _=>k b ob q,fun b ob q _ _ _=>⟨ob.slots,k b ob q⟩,fun _ _ _ n _=>n,fun b ob q _=>⟨ob,k b ob q⟩,fun _ _ q=>q,fun _ _ _ q=>q,fun _ ps q=>⟨#[],by rw [q]; simp⟩⟩
theorem Un.refl:Un fs ex H H h h:=Un.kept fun _ _ q=>q
theorem Un.laid (k:∀b u,h.get? b=some u→h'.get? b=some u) (hp:h.objs.size≤a) (hn:H a=none):Un fs ex H (upd H a o) h h' where
 keep:=fun b u q _ _ _=>k b u q
 slot:=fun b u q _ _ _=>⟨u.slots,k b u q⟩
 free:=fun b u q n _=>by rw [bM (cG (bQ (bA q) hp))]; exact n
 there:=fun b u q _=>⟨u,k b u q⟩
 tups:=fun b xs q=>by rw [bM (cF q hn)]; exact q
 frzs:=fun b u xs q=>by rw [bM (cF q hn)]; exact q
 tbls:=fun b ps q=>⟨#[],by rw [bM (cF q hn),q]; simp⟩
theorem Un.write (mu:Mut (H x)) (he:e=x∨H e=some (.own x)) (k:∀b u,b≠e→h.get? b=some u→h'.get? b=some u) (heo:∃u,h'.get? e=some u):Un fs ex H (upd H x o) h h':=by
 have hx:∀b,H b=none→b≠x:=fun b n z=>by subst z; rw [n] at mu; exact mu
 have hb:∀b,H b=none→b≠e:=fun b n z=>by
  subst z
  rcases he with r | r
  ·exact hx b n r
  ·rw [n] at r; cases r
 have hm:∀b u,H b=some u→¬ Mut (some u)→b≠x:=fun b u q nm z=>by subst z; rw [q] at mu; exact nm mu
 refine ⟨fun b u q n _ _=>k b u (hb b n) q,fun b u q n _ _=>⟨u.slots,k b u (hb b n) q⟩,fun b u q n _=>by rw [bM (hx b n)]; exact n,fun b u q _=> ?_,
  fun b xs q=>by rw [bM (hm b _ q fun z=>z)]; exact q,fun b u xs q=>by rw [bM (hm b _ q fun z=>z)]; exact q,fun b ps q=>⟨#[],by rw [bM (hm b _ q fun z=>z),q]; simp⟩⟩
 by_cases hbe:b=e
 ·subst hbe; exact heo
 ·exact ⟨u,k b u hbe q⟩
end
noncomputable def trk (h:Heap) (H:Hp):List Addr:=(bJ h.objs.size).filter fun a=>(H a).isSome
noncomputable def vO (h:Heap) (H:Hp):Heap:=PySem.W.hideAll h (trk h H)
theorem hidT_size (h:Heap) (H:Hp):(vO h H).objs.size=h.objs.size:=PySem.W.hideAll_size _ _
theorem hidT_get {h:Heap} {H:Hp} {b:Addr} {o:Obj} (e:h.get? b=some o) (n:H b=none):(vO h H).get? b=some o:=
 PySem.W.hideAll_get _ e fun hm=>by have q:(H b).isSome=true:=(List.mem_filter.mp hm).2; rw [n] at q; simp at q
theorem of_hidT {h:Heap} {H:Hp} {b:Addr} {o:Obj} (e:(vO h H).get? b=some o):h.get? b=some o∧H b=none:=by
 have e':h.get? b=some o:=PySem.W.of_hideAll (trk h H) e; refine ⟨e', ?_⟩; cases q:H b with
 | none=>rfl
 | some x=>have hm:b∈trk h H:=List.mem_filter.mpr ⟨bY.mpr (bA e'),by simp [q]⟩; have z:(vO h H).get? b=none:=PySem.W.hideAll_none (trk h H) hm; rw [z] at e; cases e
noncomputable def allNews (g h:Heap) (L:Addr):List (Addr × Obj):=(bJ h.objs.size).filterMap fun a=>if a=L∨(g.get? a).isSome=true then none else (h.get? a).map fun o=>(a,o)
noncomputable def rest (g h:Heap) (L d:Addr):List (Addr × Obj):=(allNews g h L).filter fun p=>decide (p.1≠d)
structure Mod (K:aD) (mg:Str→Option Value) (base:Heap):Prop where
 kin:K.In base
 glob:base.Ns mainGlobals mg
 blt:∃mb,base.Ns builtinsNs mb∧∀x:Str,x≠"__name__"→mb x=bootBuiltins x
 nolimit:base.NoLimit
noncomputable def Hard:HO→Prop
 | .lst _=>False
 | .ext _=>False
 | _=>True
structure Cx where
 prog:Program
 w:World
 K:aD
 mg:Str→Option Value
 base:Heap
 A:Around
 N:List Str
 s₀:Shared
 H₀:Hp
 env:Env
 outer:List Env
 stack:List Env
 ex:List Addr
 fn:Str→Bool
 calm:Bool
 pn:List (Addr × Obj)
 xe:Value→Shared→Prop
 B₀:Hp:=H₀
 hB:∀b o,H₀ b=some o→Hard o→B₀ b=some o:=by intro b o e _; exact e
noncomputable def frs (l:List Env):List Addr:=l.filterMap (·.frame)
noncomputable abbrev Cx.fs (X:Cx):List Addr:=frs X.outer
noncomputable def Vis (sc:Scope) (x:Str):Prop:=sc.names.lookup x=some .local∨sc.names.lookup x=some .cell∨sc.names.lookup x=some .free
noncomputable def Loc (sc:Scope) (x:Str):Prop:=sc.names.lookup x=some .local∨sc.names.lookup x=some .cell
noncomputable def Look (env:Env) (h:Heap) (m:Str→Option Value) (x:Str) (u:Value):Prop:=
 (env.kindOf x=some .local∧m x=some u)∨((env.kindOf x=some .cell∨env.kindOf x=some .free)∧∃c,env.cells.lookup x=some c∧h.IsCell c (some u))
structure Cx.Ok (X:Cx):Prop where
 mod:Mod X.K X.mg X.base
 kind:X.env.scope.kind= .function
 glob:X.env.globals=mainGlobals
 blt:X.env.builtins=builtinsNs
 above:X.s₀.heap.objs.size≤X.env.locals
 inj:∀x y c,X.env.cells.lookup x=some c→X.env.cells.lookup y=some c→x=y
 has:∀x,(X.env.kindOf x=some .cell∨X.env.kindOf x=some .free)→∃c,X.env.cells.lookup x=some c
 cab:∀x c,X.fn x=true→X.env.cells.lookup x=some c→X.s₀.heap.objs.size≤c
 hd:X.calm=true→X.A.handled=none
 frames:X.A.frames=some X.stack
 stk:X.stack=X.outer∨(X.stack=X.env::X.outer∧X.env.frame=some X.env.locals)
 exf:∀b∈X.ex,b≠X.env.locals∧∀x c,X.env.cells.lookup x=some c→c≠b
 bs:∀b o,X.base.get? b=some o→X.s₀.heap.get? b=some o∧X.H₀ b=none
 bsz:X.base.objs.size≤X.s₀.heap.objs.size
 noex:∀b o,X.base.get? b=some o→b∉X.ex
 exfs:∀b∈X.ex,b∉X.fs
 funs:X.s₀.heap.FunFrames X.base X.outer
 frf:∀b∈X.fs,X.H₀ b=none
structure Inv (X:Cx) (pins:List (Addr × Obj)) (σ:List (Option V)) (H:Hp) (s:Shared):Prop where
 ok:X.Ok
 os:s.os=X.s₀.os
 bare:AllBare s.gens
 base:Un X.fs X.ex X.H₀ H X.s₀.heap s.heap
 loc:∃m,s.heap.Ns X.env.locals m∧∀ (i:Nat) (x:Str) (v:V),X.N[i]? =some x→σ[i]? =some (some v)→Vis X.env.scope x→∃u,RelV v u∧Look X.env s.heap m x u
 cell:∀x c,X.env.cells.lookup x=some c→∃v,s.heap.IsCell c v
 free:H X.env.locals=none
 freeC:∀x c,X.env.cells.lookup x=some c→H c=none
 pin:∀p∈X.pn++pins,s.heap.get? p.1=some p.2∧H p.1=none∧p.1≠X.env.locals∧p.1∉X.fs∧∀v,p.2.data≠ .cell v
 hok:HOk X.prog X.w H s.heap
 len:σ.length=X.N.length
section
variable {X:Cx} {pins:List (Addr × Obj)} {σ:List (Option V)} {H H':Hp} {s:Shared} {h':Heap}
theorem Cx.Ok.nofr (ok:X.Ok) {b:Addr} {o:Obj} (e:X.base.get? b=some o):b∉X.fs:=fun hb=>by have:=(ok.funs.mem hb).1; rw [e] at this; cases this
theorem Inv.bs (I:Inv X pins σ H s):∀b o,X.base.get? b=some o→s.heap.get? b=some o∧H b=none:=fun b o e=>⟨I.base.keep b o (I.ok.bs b o e).1 (I.ok.bs b o e).2 (I.ok.nofr e) (I.ok.noex b o e),I.base.free b o (I.ok.bs b o e).1 (I.ok.bs b o e).2 (I.ok.noex b o e)⟩
theorem Inv.bk (I:Inv X pins σ H s):∀b o,X.base.get? b=some o→s.heap.get? b=some o:=fun b o e=>(I.bs b o e).1
theorem Inv.mod (I:Inv X pins σ H s):Mod X.K X.mg X.base:=I.ok.mod
theorem Inv.kIn (I:Inv X pins σ H s):X.K.In s.heap:=I.ok.mod.kin.keeps I.bk
theorem Inv.lt (I:Inv X pins σ H s):X.env.locals<s.heap.objs.size:=let ⟨_,hn,_⟩:=I.loc; hn.lt
theorem Inv.sz (I:Inv X pins σ H s):X.s₀.heap.objs.size≤s.heap.objs.size:=cA I.ok.above (eZ I.lt)
theorem Inv.nofs (I:Inv X pins σ H s) {a:Addr} (h:s.heap.objs.size≤a):a∉X.fs:=fun hb=>by obtain ⟨_,o,ho,_⟩:=I.ok.funs.mem hb; exact absurd (bQ (bA ho) (cA I.sz h)) (gT _)
theorem Inv.cne (I:Inv X pins σ H s):∀x c,X.env.cells.lookup x=some c→c≠X.env.locals:=fun x c e z=>by obtain ⟨v,o,ho,hd⟩:=I.cell x c e; obtain ⟨m,⟨o',es,ep,ho',hd',_⟩,_⟩:=I.loc; rw [z,ho'] at ho; cases ho; rw [hd'] at hd; cases hd
theorem Inv.funs (I:Inv X pins σ H s):s.heap.FunFrames X.base X.outer:=by
 have all:∀ (l:List Env),(∀b∈frs l,b∈X.fs)→X.s₀.heap.FunFrames X.base l→s.heap.FunFrames X.base l:=by
  intro l
  induction l with
  | nil=>intro _ _; trivial
  | cons env r ih=>
   intro hs hl; obtain ⟨hk,⟨L,o,hf,hn,ho,hd⟩,hr⟩:=hl; have hL:L∈X.fs:=hs L (by unfold frs; rw [gA,hf]; exact bB); obtain ⟨sl,e⟩:=I.base.slot L o ho (I.ok.frf L hL) hL fun z=>I.ok.exfs L z hL
   exact ⟨hk,⟨L,_,hf,hn,e,hd⟩,ih (fun b hb=>hs b (by unfold frs; rw [gA,hf]; exact aU _ hb)) hr⟩
 exact all X.outer (fun _ hb=>hb) I.ok.funs
theorem Inv.stack (I:Inv X pins σ H s):s.heap.FunFrames X.base X.stack:=by
 rcases I.ok.stk with e | ⟨e,hf⟩
 ·rw [e]; exact I.funs
 ·rw [e]; obtain ⟨m,hn,_⟩:=I.loc; refine .cons (by rw [I.ok.kind]; decide) hf hn ?_ I.funs; exact Heap.get?_none_of_le (cA I.ok.bsz I.ok.above)
theorem Inv.stkSub (I:Inv X pins σ H s):∀b∈frs X.stack,b∈X.env.locals::X.fs:=fun b hb=>by
 rcases I.ok.stk with e | ⟨e,hf⟩
 ·rw [e] at hb; exact aU _ hb
 ·rw [e] at hb; unfold frs at hb; rw [gA,hf] at hb; exact hb
theorem Inv.stkFree (I:Inv X pins σ H s):∀b∈frs X.stack,H b=none:=fun b hb=>by
 rcases cJ.mp (I.stkSub b hb) with e | hb
 ·rw [e]; exact I.free
 ·obtain ⟨_,o,ho,_⟩:=I.ok.funs.mem hb; exact I.base.free b o ho (I.ok.frf b hb) fun z=>I.ok.exfs b z hb
theorem Inv.step {g':Array GenState} {t':Nat} {d':Drawn} {ch:List Addr} (I:Inv X pins σ H s)
  (hch:∀b∈ch,(b∈X.ex∨X.s₀.heap.objs.size≤b)∧b≠X.env.locals∧(∀x c,X.env.cells.lookup x=some c→c≠b)∧∀p∈X.pn++pins,p.1≠b)
  (keep:∀b o,b≠X.env.locals→b∉X.fs→b∉ch→s.heap.get? b=some o→H b=none→h'.get? b=some o)
  (slot:∀b o,b≠X.env.locals→b∈X.fs→b∉ch→s.heap.get? b=some o→H b=none→∃sl,h'.get? b=some {o with slots:=sl}) (free:∀b o,b∉ch→s.heap.get? b=some o→H b=none→H' b=none)
  (there:∀b o,b∉ch→s.heap.get? b=some o→∃o',h'.get? b=some o')
  (tups:∀b xs,H b=some (.tup xs)→H' b=some (.tup xs)) (frzs:∀b o u,H b=some (.frz o u)→H' b=some (.frz o u)) (tbls:∀b ps,H b=some (.tbl ps)→∃more,H' b=some (.tbl (ps++more)))
  (ns:∀m,s.heap.Ns X.env.locals m→h'.Ns X.env.locals m) (hok:HOk X.prog X.w H' h') (hg:AllBare g'):
  Inv X pins σ H' {s with heap:=h',gens:=g',drawn:=d',toks:=t'}:=by
 have neL:∀b o,X.s₀.heap.get? b=some o→b≠X.env.locals:=fun b o e=>cG (bQ (bA e) I.ok.above)
 have neC:∀b o,X.s₀.heap.get? b=some o→b∉X.ex→b∉ch:=fun b o e hx hb=>by
  rcases (hch b hb).1 with z | z
  ·exact hx z
  ·exact absurd (bQ (bA e) z) (gT _)
 have cellK:∀x c,X.env.cells.lookup x=some c→∀v,s.heap.IsCell c v→h'.IsCell c v:=fun x c e v ⟨o,ho,hd⟩=>by
  have nch:c∉ch:=fun z=>(hch c z).2.2.1 x c e rfl
  by_cases hc:c∈X.fs
  ·obtain ⟨sl,q⟩:=slot c o (I.cne x c e) hc nch ho (I.freeC x c e); exact ⟨_,q,hd⟩
  ·exact ⟨o,keep c o (I.cne x c e) hc nch ho (I.freeC x c e),hd⟩
 refine ⟨I.ok,I.os,hg,⟨fun b o e n hb hx=> ?_,fun b o e n hb hx=> ?_,fun b o e n hx=> ?_,fun b o e hx=> ?_,fun b xs e=>tups b xs (I.base.tups b xs e),fun b o xs e=>frzs b o xs (I.base.frzs b o xs e),fun b ps e=> ?_⟩, ?_,fun x c e=> ?_, ?_,fun x c e=> ?_,fun p hp=> ?_,hok,I.len⟩
 ·exact keep b o (neL b o e) hb (neC b o e hx) (I.base.keep b o e n hb hx) (I.base.free b o e n hx)
 ·obtain ⟨sl,e1⟩:=I.base.slot b o e n hb hx; obtain ⟨sl',e2⟩:=slot b _ (neL b o e) hb (neC b o e hx) e1 (I.base.free b o e n hx); exact ⟨sl',e2⟩
 ·obtain ⟨o',e1⟩:=I.base.there b o e hx; exact free b o' (neC b o e hx) e1 (I.base.free b o e n hx)
 ·obtain ⟨o',e1⟩:=I.base.there b o e hx; exact there b o' (neC b o e hx) e1
 ·obtain ⟨m1,e1⟩:=I.base.tbls b ps e; obtain ⟨m2,e2⟩:=tbls b _ e1; exact ⟨m1++m2,by rw [e2,Array.append_assoc]⟩
 ·obtain ⟨m,hn,hl⟩:=I.loc; refine ⟨m,ns m hn,fun i x v e1 e2 e3=> ?_⟩; obtain ⟨u,r,l⟩:=hl i x v e1 e2 e3; refine ⟨u,r, ?_⟩
  rcases l with l | ⟨k,c,e,z⟩
  ·exact .inl l
  ·exact .inr ⟨k,c,e,cellK x c e _ z⟩
 ·obtain ⟨v,z⟩:=I.cell x c e; exact ⟨v,cellK x c e v z⟩
 ·obtain ⟨m,⟨o,_,_,ho,_⟩,_⟩:=I.loc; exact free _ o (fun z=>(hch _ z).2.1 rfl) ho I.free
 ·obtain ⟨v,o,ho,hd⟩:=I.cell x c e; exact free c o (fun z=>(hch c z).2.2.1 x c e rfl) ho (I.freeC x c e)
 ·obtain ⟨e,n,ne,nf,d⟩:=I.pin p hp; have nch:p.1∉ch:=fun z=>(hch p.1 z).2.2.2 p hp rfl
  exact ⟨keep p.1 p.2 ne nf nch e n,free p.1 p.2 nch e n,ne,nf,d⟩
theorem Inv.un {t':Nat} (I:Inv X pins σ H s) (u:Un X.fs [] H H' s.heap h') (hok:HOk X.prog X.w H' h'):Inv X pins σ H' {s with heap:=h',toks:=t'}:=by
 obtain ⟨m,⟨o,es,ep,ho,r⟩,_⟩:=id I.loc; obtain ⟨sl,hL⟩:=u.any ho I.free (by simp)
 exact I.step (g':=s.gens) (d':=s.drawn) (ch:=[]) (fun _ z=>nomatch z) (fun b o _ hb _ e n=>u.keep b o e n hb (by simp)) (fun b o _ hb _ e n=>u.slot b o e n hb (by simp)) (fun b o _ e n=>u.free b o e n (by simp)) (fun b o _ e=>u.there b o e (by simp)) u.tups u.frzs u.tbls (fun m' hm=>by
  obtain ⟨o',es',ep',ho',r'⟩:=hm; rw [ho] at ho'; cases ho'
  exact ⟨_,es',ep',hL,r'⟩) hok I.bare
theorem Inv.call {g':Array GenState} {t':Nat} {d':Drawn} {ch:List Addr} (I:Inv X pins σ H s) (u:Un (frs X.stack) ch H H' s.heap h') (hok:HOk X.prog X.w H' h') (hg:AllBare g')
  (hch:∀b∈ch,(b∈X.ex∨X.s₀.heap.objs.size≤b)∧b≠X.env.locals∧(∀x c,X.env.cells.lookup x=some c→c≠b)∧∀p∈X.pn++pins,p.1≠b):
  Inv X pins σ H' {s with heap:=h',gens:=g',drawn:=d',toks:=t'}:=by
 obtain ⟨m,⟨o,es,ep,ho,r⟩,_⟩:=id I.loc; obtain ⟨sl,hL⟩:=u.any ho I.free fun z=>(hch _ z).2.1 rfl
 exact I.step (ch:=ch) hch (fun b o hL hb hc e n=>u.keep b o e n (fun z=>(cJ.mp (I.stkSub b z)).elim hL hb) hc) (fun b o _ _ hc e n=>u.any e n hc) (fun b o hc e n=>u.free b o e n hc) (fun b o hc e=>u.there b o e hc) u.tups u.frzs u.tbls (fun m' hm=>by
  obtain ⟨o',es',ep',ho',r'⟩:=hm; rw [ho] at ho'; cases ho'
  exact ⟨_,es',ep',hL,r'⟩) hok hg
theorem Inv.turned {t':Nat} {it:Addr} (I:Inv X pins σ H s) (k:∀b o,b≠it→s.heap.get? b=some o→h'.get? b=some o) (hn:H it=none) (hL:it≠X.env.locals)
  (h1:it∈X.ex∨X.s₀.heap.objs.size≤it) (h2:∀x c,X.env.cells.lookup x=some c→c≠it) (h3:∀p∈X.pn++pins,p.1≠it):Inv X pins σ H {s with heap:=h',toks:=t'}:=by
 have nit:∀b u,H b=some u→b≠it:=fun b u e z=>by rw [z,hn] at e; cases e
 refine I.step (g':=s.gens) (d':=s.drawn) (ch:=[it]) (fun b hb=> ?_) (fun b o _ _ hc e _=>k b o (fun z=>hc (by simp [z])) e) (fun b o _ _ hc e _=>⟨o.slots,k b o (fun z=>hc (by simp [z])) e⟩) (fun _ _ _ _ n=>n)
  (fun b o hc e=>⟨o,k b o (fun z=>hc (by simp [z])) e⟩) (fun _ _ e=>e) (fun _ _ _ e=>e) (fun b ps e=>⟨#[],by rw [e]; simp⟩) (fun m hm=> ?_) (fun b u e=> ?_) I.bare
 ·have e:b=it:=by simpa using hb
  subst e; exact ⟨h1,hL,h2,h3⟩
 ·obtain ⟨o,es,ep,ho,r⟩:=hm; exact ⟨o,es,ep,k _ o (Ne.symm hL) ho,r⟩
 ·refine (I.hok b u e).stay (fun c v hc q=>k c v ?_ q) (fun _ q=>q) fun _ _ q=>q
  rcases hc with z | z
  ·rw [z]; exact nit b u e
  ·exact nit c _ z
theorem Inv.tok (I:Inv X pins σ H s) (t:Nat):Inv X pins σ H {s with toks:=t}:=I.un (h':=s.heap) (t':=t) Un.refl I.hok
theorem Inv.kept {t':Nat} (I:Inv X pins σ H s) (k:∀b u,s.heap.get? b=some u→h'.get? b=some u):Inv X pins σ H {s with heap:=h',toks:=t'}:=I.un (Un.kept k) (I.hok.kept k)
theorem Inv.laid {a:Addr} {o:HO} {t':Nat} (I:Inv X pins σ H s) (k:∀b u,s.heap.get? b=some u→h'.get? b=some u) (hp:s.heap.objs.size≤a) (new:ObjOk X.prog X.w (upd H a o) h' a o):
  Inv X pins σ (upd H a o) {s with heap:=h',toks:=t'}:=I.un (Un.laid k hp (I.hok.fresh hp)) (I.hok.laid k hp new)
theorem Inv.write {x e:Addr} {o:HO} {t':Nat} (I:Inv X pins σ H s) (mu:Mut (H x)) (he:e=x∨H e=some (.own x)) (k:∀b u,b≠e→s.heap.get? b=some u→h'.get? b=some u) (heo:∃u,h'.get? e=some u)
  (new:ObjOk X.prog X.w (upd H x o) h' x o):Inv X pins σ (upd H x o) {s with heap:=h',toks:=t'}:=I.un (Un.write mu he k heo) (I.hok.write mu he k heo new)
theorem Inv.pins_of {pins':List (Addr × Obj)} (I:Inv X pins σ H s) (h:∀p∈pins',s.heap.get? p.1=some p.2∧H p.1=none∧p.1≠X.env.locals∧p.1∉X.fs∧∀v,p.2.data≠ .cell v):Inv X pins' σ H s:=
 ⟨I.ok,I.os,I.bare,I.base,I.loc,I.cell,I.free,I.freeC,fun p hp=>(bN.mp hp).elim (fun z=>I.pin p (dH _ z)) (h p),I.hok,I.len⟩
theorem xO {N:List Str} (hN:N.Nodup) {i j:Nat} {x:Str} (a:N[i]? =some x) (b:N[j]? =some x):i=j:=by obtain ⟨h1,e1⟩:=aH.mp a; obtain ⟨h2,e2⟩:=aH.mp b; exact (gF hN).mp (e1.trans e2.symm)
theorem store_ok2 {M:Model} {A:Around} {E:Value→Shared→Prop} {i:Nat} {x:Str} {v:V} {u:Value} {Q:Unit→Shared→Prop} (I:Inv X pins σ H s) (hN:X.N.Nodup) (hi:X.N[i]? =some x) (hx:Loc X.env.scope x) (r:RelV v u)
  (h:∀s',Inv X pins (σ.set i (some v)) H s'→(∃a,Heap.SameBut a s.heap s'.heap∧(a=X.env.locals∨X.env.cells.lookup x=some a))→Q () s') (hf:X.fn x=true∨X.env.scope.names.lookup x=some .local:=by first | exact .inl rfl | exact .inr rfl | assumption):wpAny M A (storeName X.env x u) Q E s:=by
 obtain ⟨m,hn,hl⟩:=id I.loc; have hcls:(X.env.scope.kind== .class || (X.env.scope.kind== .module && X.env.locals !=X.env.globals))=false:=by rw [I.ok.kind]; rfl
 have hiσ:i<σ.length:=by rw [I.len]; exact (aH.mp hi).1
 have cne:=I.cne
 have tracked:∀ {a:Addr} {h':Heap},(∃o,s.heap.get? a=some o∧H a=none)→Heap.SameBut a s.heap h'→HOk X.prog X.w H h':=fun {a h'} ha hs b ob e=>by
  obtain ⟨_,_,hfree⟩:=ha; refine (I.hok b ob e).stay (fun c w' hc q=>(hs.2 c ?_).trans q) (fun _ q=>q) fun _ _ q=>q
  rintro rfl
  rcases hc with rfl | hc
  ·rw [hfree] at e; cases e
  ·rw [hfree] at hc; cases hc
 rcases hx with hk | hk
 ·refine wpAny_storeName_local hk hn (fun h' hn' hs=> ?_) hcls; obtain ⟨oL,_,_,hoL,_⟩:=id hn; refine h _ ⟨I.ok,I.os,I.bare,⟨fun b o e n hb hx=> ?_,fun b o e n hb hx=> ?_,I.base.free,fun b o e hx=> ?_,I.base.tups,I.base.frzs,I.base.tbls⟩,⟨_,hn',fun j y v' e1 e2 e3=> ?_⟩,fun y c e=> ?_,I.free,I.freeC,fun p hp=> ?_,tracked ⟨oL,hoL,I.free⟩ hs,by simpa using I.len⟩ ⟨_,hs, .inl rfl⟩
  ·exact (hs.2 b (cG (bQ (bA e) I.ok.above))).trans (I.base.keep b o e n hb hx)
  ·obtain ⟨sl,e1⟩:=I.base.slot b o e n hb hx; exact ⟨sl,(hs.2 b (cG (bQ (bA e) I.ok.above))).trans e1⟩
  ·obtain ⟨o',e1⟩:=I.base.there b o e hx; exact ⟨o',(hs.2 b (cG (bQ (bA e) I.ok.above))).trans e1⟩
  ·by_cases hj:j=i
   ·subst hj; rw [hi] at e1; cases e1; rw [jL hiσ] at e2; cases e2; exact ⟨u,r, .inl ⟨hk,by simp⟩⟩
   ·rw [jZ (Ne.symm hj)] at e2; obtain ⟨u',r',q⟩:=hl j y v' e1 e2 e3; refine ⟨u',r', ?_⟩
    rcases q with ⟨k,e⟩ | ⟨k,c,e,z⟩
    ·refine .inl ⟨k, ?_⟩; have:y≠x:=fun e=>hj (xO hN e1 (e▸hi))
     simp [this,e]
    ·exact .inr ⟨k,c,e,z.sameBut hs (cne y c e)⟩
  ·obtain ⟨w',z⟩:=I.cell y c e; exact ⟨w',z.sameBut hs (cne y c e)⟩
  ·obtain ⟨e,n,ne,nf,d⟩:=I.pin p hp; exact ⟨(hs.2 p.1 ne).trans e,n,ne,nf,d⟩
 ·have hfn:X.fn x=true:=by
   rcases hf with z | z
   ·exact z
   ·rw [z] at hk; cases hk
  obtain ⟨c,hc⟩:=I.ok.has x (.inl hk); obtain ⟨w',z⟩:=I.cell x c hc; refine wpAny_storeName_cell I.ok.kind hk hc z (fun h' hc' hs=> ?_); obtain ⟨oc,hoc,hocd⟩:=id z; refine h {s with heap:=h'} ⟨I.ok,I.os,I.bare,⟨fun b o e n hb hx=> ?_,fun b o e n hb hx=> ?_,I.base.free,fun b o e hx=> ?_,I.base.tups,I.base.frzs,I.base.tbls⟩,⟨m,hn.sameBut hs (Ne.symm (cne x c hc)),fun j y v' e1 e2 e3=> ?_⟩,fun y c' e=> ?_,I.free,I.freeC,fun p hp=> ?_,tracked ⟨oc,hoc,I.freeC x c hc⟩ hs,by simpa using I.len⟩ ⟨c,hs, .inr hc⟩
  ·exact (hs.2 b (cG (bQ (bA e) (I.ok.cab x c hfn hc)))).trans (I.base.keep b o e n hb hx)
  ·obtain ⟨sl,e1⟩:=I.base.slot b o e n hb hx; exact ⟨sl,(hs.2 b (cG (bQ (bA e) (I.ok.cab x c hfn hc)))).trans e1⟩
  ·obtain ⟨o',e1⟩:=I.base.there b o e hx; exact ⟨o',(hs.2 b (cG (bQ (bA e) (I.ok.cab x c hfn hc)))).trans e1⟩
  ·by_cases hj:j=i
   ·subst hj; rw [hi] at e1; cases e1; rw [jL hiσ] at e2; cases e2; exact ⟨u,r, .inr ⟨.inl hk,c,hc,hc'⟩⟩
   ·rw [jZ (Ne.symm hj)] at e2; obtain ⟨u',r',q⟩:=hl j y v' e1 e2 e3; refine ⟨u',r', ?_⟩
    rcases q with q | ⟨k,c',e,z'⟩
    ·exact .inl q
    ·refine .inr ⟨k,c',e,z'.sameBut hs ?_⟩; rintro rfl; exact hj (xO hN e1 (I.ok.inj _ _ _ e hc▸hi))
  ·by_cases hcc:c'=c
   ·subst hcc; exact ⟨_,hc'⟩
   ·obtain ⟨w2,z2⟩:=I.cell y c' e; exact ⟨w2,z2.sameBut hs hcc⟩
  ·obtain ⟨e,n,ne,nf,d⟩:=I.pin p hp; refine ⟨(hs.2 p.1 ?_).trans e,n,ne,nf,d⟩; intro q; rw [q,hoc] at e; have q':oc=p.2:=cT.inj e; exact d w' (by rw [← q']; exact hocd)
theorem xY {M:Model} {A:Around} {E:Value→Shared→Prop} {i:Nat} {x:Str} {v:V} {u:Value} {Q:Unit→Shared→Prop} (I:Inv X pins σ H s) (hN:X.N.Nodup) (hi:X.N[i]? =some x) (hx:Loc X.env.scope x) (r:RelV v u)
  (h:∀s',Inv X pins (σ.set i (some v)) H s'→Q () s') (hf:X.fn x=true∨X.env.scope.names.lookup x=some .local:=by first | exact .inl rfl | exact .inr rfl | assumption):wpAny M A (storeName X.env x u) Q E s:=
 store_ok2 I hN hi hx r (fun s' I' _=>h s' I') hf
theorem Inv.call' {s':Shared} {ch:List Addr} (I:Inv X pins σ H s) (ho:s'.os=s.os) (u:Un (frs X.stack) ch H H' s.heap s'.heap) (hok:HOk X.prog X.w H' s'.heap) (hg:AllBare s'.gens)
  (hch:∀b∈ch,(b∈X.ex∨X.s₀.heap.objs.size≤b)∧b≠X.env.locals∧(∀x c,X.env.cells.lookup x=some c→c≠b)∧∀p∈X.pn++pins,p.1≠b):Inv X pins σ H' s':=by
 obtain ⟨h',g',d',t',o'⟩:=s'; have e:o'=s.os:=ho; subst e; exact I.call (g':=g') (t':=t') (d':=d') u hok hg hch
end
noncomputable abbrev XK:=Value→Option Addr→Hp→Prop
noncomputable abbrev St:=List (Option V)
noncomputable abbrev VK:=V→Hp→Prop
noncomputable abbrev TE:=St→Hp→VK→Prop
noncomputable abbrev TT:=St→Hp→(Bool→Hp→Prop)→Prop
noncomputable abbrev TA:=St→Hp→(List V→Hp→Prop)→Prop
structure sV where
 nx:St→Hp→Prop
 rt:VK
 bk:St→Hp→Prop:=fun _ _=>False
 ct:St→Hp→Prop:=fun _ _=>False
noncomputable abbrev TS:=sV→St→Hp→Prop
noncomputable def EP (X:Cx) (pins:List (Addr × Obj)) (σ:St) (Q:VK) (u:Value) (s':Shared):Prop:=∃v H',Inv X pins σ H' s'∧RelV v u∧Q v H'
noncomputable def TP (X:Cx) (pins:List (Addr × Obj)) (σ:St) (Q:Bool→Hp→Prop) (b:Bool) (s':Shared):Prop:=∃H',Inv X pins σ H' s'∧Q b H'
noncomputable def AP (X:Cx) (pins:List (Addr × Obj)) (σ:St) (Q:List V→Hp→Prop) (us:List Value) (s':Shared):Prop:=∃vs H',Inv X pins σ H' s'∧Vals vs us∧Q vs H'
noncomputable def SP (X:Cx) (pins:List (Addr × Obj)) (D:sV) (f:Flow) (s':Shared):Prop:=
 match f with
 | .next=>∃σ' H',Inv X pins σ' H' s'∧D.nx σ' H'
 | .brk=>∃σ' H',Inv X pins σ' H' s'∧D.bk σ' H'
 | .cont=>∃σ' H',Inv X pins σ' H' s'∧D.ct σ' H'
 | .ret u=>∃v σ' H',Inv X pins σ' H' s'∧RelV v u∧D.rt v H'
noncomputable def PE (X:Cx) (e:Expr) (t:TE):Prop:=
 ∀ (pins:List (Addr × Obj)) (s:Shared) (σ:St) (H:Hp) (Q:VK),Inv X pins σ H s→t σ H Q→wpAny (model X.prog X.w) X.A (eval e X.env) (EP X pins σ Q) X.xe s
noncomputable def PT (X:Cx) (e:Expr) (t:TT):Prop:=
 ∀ (pins:List (Addr × Obj)) (s:Shared) (σ:St) (H:Hp) (Q:Bool→Hp→Prop),Inv X pins σ H s→t σ H Q→wpAny (model X.prog X.w) X.A (isTrue e X.env (eval e X.env)) (TP X pins σ Q) X.xe s
noncomputable def PW (X:Cx) (e:Expr) (t:TT):Prop:=
 ∀ (whole:Sem Value) (pins:List (Addr × Obj)) (s:Shared) (σ:St) (H:Hp) (Q:Bool→Hp→Prop),Inv X pins σ H s→t σ H Q→wpAny (model X.prog X.w) X.A (isTrue e X.env whole) (TP X pins σ Q) X.xe s
theorem PW.pt {X:Cx} {e:Expr} {t:TT} (h:PW X e t):PT X e t:=h _
noncomputable def PA (X:Cx) (es:List Expr) (t:TA):Prop:=
 ∀ (pos:Pos) (pins:List (Addr × Obj)) (s:Shared) (σ:St) (H:Hp) (Q:List V→Hp→Prop),Inv X pins σ H s→t σ H Q→wpAny (model X.prog X.w) X.A (spliced (backTo pos (starEach es X.env))) (AP X pins σ Q) X.xe s
noncomputable def PS (X:Cx) (st:Stmt) (t:TS):Prop:=
 ∀ (pins:List (Addr × Obj)) (s:Shared) (σ:St) (H:Hp) (D:sV),Inv X pins σ H s→t D σ H→wpAny (model X.prog X.w) X.A (exec st X.env) (SP X pins D) X.xe s
noncomputable def PSs (X:Cx) (st:List Stmt) (t:TS):Prop:=
 ∀ (pins:List (Addr × Obj)) (s:Shared) (σ:St) (H:Hp) (D:sV),Inv X pins σ H s→t D σ H→wpAny (model X.prog X.w) X.A (execs st X.env) (SP X pins D) X.xe s
theorem thn {α:Type} {t:Sem α} {Q Q':α→Shared→Prop} {M:Model} {A:Around} {E:Value→Shared→Prop} {s:Shared} (h:wpAny M A t Q E s) (hQ:∀a s,Q a s→Q' a s):wpAny M A t Q' E s:=wpAny_mono h hQ fun _ _ x=>x
section
variable {X:Cx}
noncomputable def mQ (i:Nat):TE:=fun σ H Q=>∃v,σ[i]? =some (some v)∧Q v H
noncomputable def tC (v:V):TE:=fun _ H Q=>Q v H
theorem pe_var {i:Nat} {x:Str} {pos:Pos} (hN:X.N[i]? =some x) (hv:Vis X.env.scope x) (hd:(x==("__debug__":Str))=false:=by decide) (hcd:(x==("__classdict__":Str))=false:=by decide):PE X (.Name x pos) (mQ i):=by
 intro pins s σ H Q I h; obtain ⟨v,e,h⟩:=h; obtain ⟨m,hn,hl⟩:=I.loc; obtain ⟨u,r,l⟩:=hl i x v hN e hv; have fin:EP X pins σ Q u s:=⟨v,H,I,r,h⟩
 rcases l with ⟨hk,hm⟩ | ⟨hk,c,hc,hcell⟩
 ·exact wpAny_Name (wpAny_loadName_local I.ok.kind hk hn hm fin) hd
 ·rcases hk with hk | hk
  ·exact wpAny_Name (wpAny_loadName_cell I.ok.kind hk hc hcell fin) hd
  ·exact wpAny_Name (wpAny_loadName_free I.ok.kind hk hc hcell fin hcd) hd
theorem pe_int {i j pos}:PE X (.Constant (.int i) j pos) (tC (.int i)):=fun _ _ _ H _ I h=>wpAny_Constant_int ⟨.int i,H,I.tok _,⟨_,rfl⟩,h⟩
theorem pe_bl {b j pos}:PE X (.Constant (.bool b) j pos) (tC (.bl b)):=fun _ _ _ H _ I h=>Constant_bool ⟨.bl b,H,I,rfl,h⟩
theorem pe_non {j pos}:PE X (.Constant .none j pos) (tC .non):=fun _ _ _ H _ I h=>Constant_none ⟨.non,H,I,rfl,h⟩
theorem pe_str {x j pos}:PE X (.Constant (.str x) j pos) (tC (.str x)):=fun _ _ _ H _ I h=>Calls.Constant_str ⟨.str x,H,I.tok _,⟨_,rfl⟩,h⟩
noncomputable def Gl (X:Cx) (x:Str):Prop:=X.env.kindOf x=some .globalImplicit
theorem ld_glob {E:Value→Shared→Prop} {pins:List (Addr × Obj)} {s:Shared} {σ:St} {H:Hp} {x:Str} {u:Value} {pos:Pos} {Q:Value→Shared→Prop} (I:Inv X pins σ H s) (hg:Gl X x) (hm:X.mg x=some u) (h:Q u s)
  (hd:(x==("__debug__":Str))=false:=by decide):wpAny (model X.prog X.w) X.A (eval (.Name x pos) X.env) Q E s:=
 Calls.Name_function_global I.ok.kind hg (Calls.loadGlobal_global (by rw [I.ok.glob]; exact I.mod.glob.keeps I.bk) hm h) hd
theorem pO {E:Value→Shared→Prop} {pins:List (Addr × Obj)} {s:Shared} {σ:St} {H:Hp} {x:Str} {u:Value} {pos:Pos} {Q:Value→Shared→Prop} (I:Inv X pins σ H s) (hg:Gl X x) (hm:X.mg x=none) (hv:bootBuiltins x=some u) (h:Q u s)
  (hn:x≠"__name__":=by decide) (hd:(x==("__debug__":Str))=false:=by decide):wpAny (model X.prog X.w) X.A (eval (.Name x pos) X.env) Q E s:=by
 obtain ⟨mb,h1,h2⟩:=I.mod.blt; exact Calls.Name_function_global I.ok.kind hg (Calls.loadGlobal_builtin (by rw [I.ok.glob]; exact I.mod.glob.keeps I.bk) hm (by rw [I.ok.blt]; exact h1.keeps I.bk) ((h2 x hn).trans hv) h) hd
theorem pe_glob {x:Str} {v:V} {u:Value} {pos:Pos} (hg:Gl X x) (hm:X.mg x=some u) (r:RelV v u) (hd:(x==("__debug__":Str))=false:=by decide):PE X (.Name x pos) (tC v):=
 fun _ _ _ H _ I h=>ld_glob I hg hm ⟨v,H,I,r,h⟩ hd
theorem pe_bltn {x:Str} {v:V} {u:Value} {pos:Pos} (hg:Gl X x) (hm:X.mg x=none) (hv:bootBuiltins x=some u) (r:RelV v u) (hn:x≠"__name__":=by decide) (hd:(x==("__debug__":Str))=false:=by decide):PE X (.Name x pos) (tC v):=
 fun _ _ _ H _ I h=>pO I hg hm hv ⟨v,H,I,r,h⟩ hn hd
noncomputable def t2I (ta tb:TE) (k:Int→Int→Hp→Prop):St→Hp→Prop:=fun σ H=>ta σ H fun x H1=>tb σ H1 fun y H2=>∃i j,x= .int i∧y= .int j∧k i j H2
variable {a b:Expr} {ta tb:TE} {pos:Pos}
noncomputable def tCmp (p:Int→Int→Bool) (ta tb:TE):TE:=fun σ H Q=>t2I ta tb (fun i j H2=>Q (.bl (p i j)) H2) σ H
noncomputable abbrev tLt:TE→TE→TE:=tCmp fun i j=>decide (i<j)
noncomputable abbrev tLe:TE→TE→TE:=tCmp fun i j=>decide (i≤j)
noncomputable abbrev tGt:TE→TE→TE:=tCmp fun i j=>decide (j<i)
noncomputable abbrev tGe:TE→TE→TE:=tCmp fun i j=>decide (j≤i)
noncomputable abbrev tEqI:TE→TE→TE:=tCmp fun i j=>decide (i=j)
noncomputable abbrev tNeI:TE→TE→TE:=tCmp fun i j=> !decide (i=j)
noncomputable def tB (t:TE):TT:=fun σ H Q=>t σ H fun x H1=>∃c,x= .bl c∧Q c H1
theorem pt_val {e:Expr} {t:TE} (h:PE X e t) (he:∀whole,isTrue e X.env whole=(do let v ← whole; standAt e.pos; holding [v] (truthy v)):=by intro _; rfl):PT X e (tB t):=by intro pins s σ H Q I hw; refine isTrue_plain (thn (h pins s σ H _ I hw) fun v s1 ⟨x,H1,I1,r1,q1⟩=> ?_) (he _); obtain ⟨d,rfl,q⟩:=q1; cases r1; exact wpAny_truthy_bool ⟨H1,I1,q⟩
variable {tA tB':TT} {rest:List Expr}
noncomputable def tAnd (t u:TT):TT:=fun σ H Q=>t σ H fun c H1=>if c=true then u σ H1 Q else Q false H1
noncomputable def tOr (t u:TT):TT:=fun σ H Q=>t σ H fun c H1=>if c=true then Q true H1 else u σ H1 Q
noncomputable def tNot (t:TT):TT:=fun σ H Q=>t σ H fun c H1=>Q (!c) H1
theorem pw_and1 (ha:PT X a tA):PW X (.BoolOp .And [a] pos) tA:=by
 intro wh pins s σ H Q I h; refine isTrue_and (thn (ha pins s σ H Q I h) fun c s1 e=> ?_); cases c with
 | true=>exact isTrue_and_nil e
 | false=>exact e
theorem pw_or1 (ha:PT X a tA):PW X (.BoolOp .Or [a] pos) tA:=by
 intro wh pins s σ H Q I h; refine isTrue_or (thn (ha pins s σ H Q I h) fun c s1 e=> ?_); cases c with
 | false=>exact isTrue_or_nil e
 | true=>exact e
theorem pw_and (ha:PT X a tA) (hb:PW X (.BoolOp .And (b::rest) pos) tB'):PW X (.BoolOp .And (a::b::rest) pos) (tAnd tA tB'):=by
 intro wh pins s σ H Q I h; refine isTrue_and (thn (ha pins s σ H _ I h) fun c s1 ⟨H1,I1,q1⟩=> ?_); cases c with
 | true=>exact hb wh pins s1 σ H1 Q I1 q1
 | false=>exact ⟨H1,I1,q1⟩
theorem pw_or (ha:PT X a tA) (hb:PW X (.BoolOp .Or (b::rest) pos) tB'):PW X (.BoolOp .Or (a::b::rest) pos) (tOr tA tB'):=by
 intro wh pins s σ H Q I h; refine isTrue_or (thn (ha pins s σ H _ I h) fun c s1 ⟨H1,I1,q1⟩=> ?_); cases c with
 | true=>exact ⟨H1,I1,q1⟩
 | false=>exact hb wh pins s1 σ H1 Q I1 q1
theorem pt_not (ha:PT X a tA):PT X (.UnaryOp .Not a pos) (tNot tA):=by intro pins s σ H Q I h; exact isTrue_not (ha pins s σ H (fun c H1=>Q (!c) H1) I h)
noncomputable def tAndV (ta tb:TE):TE:=fun σ H Q=>ta σ H fun x H1=>∃c,x= .bl c∧if c=true then tb σ H1 Q else Q (.bl false) H1
noncomputable def tOrV (ta tb:TE):TE:=fun σ H Q=>ta σ H fun x H1=>∃c,x= .bl c∧if c=true then Q (.bl true) H1 else tb σ H1 Q
noncomputable def tNotV (ta:TE):TE:=fun σ H Q=>ta σ H fun x H1=>∃c,x= .bl c∧Q (.bl (!c)) H1
theorem pe_one {op} {t:TE} (h:PE X a t):PE X (.BoolOp op [a] pos) t:=fun pins s σ H Q I hw=>BoolOp_one (h pins s σ H Q I hw)
theorem pe_and (ha:PE X a ta) (hb:PE X (.BoolOp .And (b::rest) pos) tb):PE X (.BoolOp .And (a::b::rest) pos) (tAndV ta tb):=by
 intro pins s σ H Q I h; refine BoolOp_and (thn (ha pins s σ H _ I h) fun v s1 ⟨x,H1,I1,r1,q1⟩=> ?_); obtain ⟨c,rfl,q1⟩:=q1; cases r1; refine wpAny_truthy_bool ?_; cases c with
 | true=>exact hb pins s1 σ H1 Q I1 q1
 | false=>exact ⟨.bl false,H1,I1,rfl,q1⟩
theorem pe_or (ha:PE X a ta) (hb:PE X (.BoolOp .Or (b::rest) pos) tb):PE X (.BoolOp .Or (a::b::rest) pos) (tOrV ta tb):=by
 intro pins s σ H Q I h; refine BoolOp_or (thn (ha pins s σ H _ I h) fun v s1 ⟨x,H1,I1,r1,q1⟩=> ?_); obtain ⟨c,rfl,q1⟩:=q1; cases r1; refine wpAny_truthy_bool ?_; cases c with
 | false=>exact hb pins s1 σ H1 Q I1 q1
 | true=>exact ⟨.bl true,H1,I1,rfl,q1⟩
theorem pe_not (ha:PE X a ta):PE X (.UnaryOp .Not a pos) (tNotV ta):=by intro pins s σ H Q I h; refine UnaryOp_ (thn (ha pins s σ H _ I h) fun v s1 ⟨x,H1,I1,r1,q1⟩=> ?_); obtain ⟨c,rfl,q1⟩:=q1; cases r1; exact not_of (wpAny_truthy_bool ⟨.bl (!c),H1,I1,rfl,q1⟩)
end
noncomputable def SqL (K:aD) (H:Hp) (a:Addr) (xs:List V):Prop:=
 Rd H a (.lst xs)∨
  ∃ (o:Obj) (its:Array Value) (n:Nat),K.lookup a=some o∧o.cls= .type "list"∧o.dict=none∧o.data= .seq its n∧its.size≤sizeLine∧Vals xs its.toList
noncomputable def SqT (K:aD) (H:Hp) (a:Addr) (xs:List V):Prop:=
 Rd H a (.tup xs)∨
  ∃ (o:Obj) (its:Array Value) (n:Nat),K.lookup a=some o∧o.cls= .type "tuple"∧o.data= .seq its n∧its.size≤sizeLine∧Vals xs its.toList
noncomputable def absV:Value→Option V
 | .none=>some .non
 | .bool b=>some (.bl b)
 | .int i _=>some (.int i)
 | .str x _=>some (.str x)
 | .bytes b _=>some (.byt b)
 | .float b _=>some (.flt b)
 | .ref a=>some (.ref a)
 | .type n=>some (.ty n)
 | _=>none
theorem RelV.abs {x:V} {u:Value} (r:RelV x u):absV u=some x:=by
 cases x with
 | non=>cases r; rfl
 | bl _=>cases r; rfl
 | int _=>obtain ⟨t,rfl⟩:=r; rfl
 | str _=>obtain ⟨t,rfl⟩:=r; rfl
 | byt _=>obtain ⟨t,rfl⟩:=r; rfl
 | flt _=>obtain ⟨t,rfl⟩:=r; rfl
 | ref _=>cases r; rfl
 | ty _=>cases r; rfl
theorem RelV.inj {x y:V} {u:Value} (r:RelV x u) (q:RelV y u):x=y:=cT.inj (r.abs.symm.trans q.abs)
theorem Vals.inj:∀ {xs ys:List V} {us:List Value},Vals xs us→Vals ys us→xs=ys
 | _,_,_, .nil, .nil=>rfl
 | _,_,_, .cons r t, .cons r' t'=>by rw [r.inj r',Vals.inj t t']
section
variable {X:Cx} {pins:List (Addr × Obj)} {σ:St} {H:Hp} {s:Shared} {a:Addr} {xs ys:List V}
theorem SqL.of {K:aD} (h:H a=some (.lst xs)):SqL K H a xs:= .inl (.inl h)
theorem SqT.of {K:aD} (h:H a=some (.tup xs)):SqT K H a xs:= .inl (.inl h)
theorem Inv.list (I:Inv X pins σ H s) (h:SqL X.K H a xs):∃its:List Value,Vals xs its∧PlainL s.heap a its.toArray∧xs.length≤sizeLine:=by
 rcases h with h | ⟨o,its,n,hk,hc,hd,hs,hz,r⟩
 ·obtain ⟨z,its,n,r,e⟩:=h.ok I.hok; exact ⟨its,r,⟨_,n,e,rfl,rfl,rfl⟩,z⟩
 ·refine ⟨its.toList,r,⟨o,n,I.kIn a o hk,hc,hd,by simpa using hs⟩, ?_⟩; have e:=r.length; simp only [fX] at e; omega
theorem Inv.tuple (I:Inv X pins σ H s) (h:SqT X.K H a xs):∃its:List Value,Vals xs its∧IsTup s.heap a its.toArray∧xs.length≤sizeLine:=by
 rcases h with h | ⟨o,its,n,hk,hc,hs,hz,r⟩
 ·obtain ⟨z,its,r,p⟩:=h.ok I.hok; exact ⟨its,r,p.tup,z⟩
 ·refine ⟨its.toList,r,⟨o,I.kIn a o hk,hc,n,by simpa using hs⟩, ?_⟩; have e:=r.length; simp only [fX] at e; omega
theorem Inv.list_inj (I:Inv X pins σ H s) (h:SqL X.K H a xs) (h':SqL X.K H a ys):xs=ys:=by
 obtain ⟨its,r,⟨o,n,e,_,_,d⟩,_⟩:=I.list h; obtain ⟨its',r',⟨o',n',e',_,_,d'⟩,_⟩:=I.list h'; rw [e] at e'; cases e'; rw [d] at d'; injection d' with d1 _
 have:its=its':=by simpa using congrArg Array.toList d1
 subst this; exact r.inj r'
theorem Inv.tuple_inj (I:Inv X pins σ H s) (h:SqT X.K H a xs) (h':SqT X.K H a ys):xs=ys:=by
 obtain ⟨its,r,⟨o,e,_,n,d⟩,_⟩:=I.tuple h; obtain ⟨its',r',⟨o',e',_,n',d'⟩,_⟩:=I.tuple h'; rw [e] at e'; cases e'; rw [d] at d'; injection d' with d1 _
 have:its=its':=by simpa using congrArg Array.toList d1
 subst this; exact r.inj r'
end
noncomputable abbrev Cx.wish (X:Cx) (E:Value→Shared→Prop):Cx:={X with xe:=E}
noncomputable abbrev Cx.nox (X:Cx):Cx:=X.wish fun _ _=>False
theorem Cx.Ok.wish {X:Cx} (ok:X.Ok) (E:Value→Shared→Prop):(X.wish E).Ok:=
 ⟨ok.mod,ok.kind,ok.glob,ok.blt,ok.above,ok.inj,ok.has,ok.cab,ok.hd,ok.frames,ok.stk,ok.exf,ok.bs,ok.bsz,ok.noex,ok.exfs,ok.funs,ok.frf⟩
theorem Cx.Ok.unwish {X:Cx} {E:Value→Shared→Prop} (ok:(X.wish E).Ok):X.Ok:=
 ⟨ok.mod,ok.kind,ok.glob,ok.blt,ok.above,ok.inj,ok.has,ok.cab,ok.hd,ok.frames,ok.stk,ok.exf,ok.bs,ok.bsz,ok.noex,ok.exfs,ok.funs,ok.frf⟩
section
variable {X:Cx} {pins:List (Addr × Obj)} {σ:St} {H:Hp} {s:Shared} {E:Value→Shared→Prop}
theorem Inv.wish (I:Inv X pins σ H s) (E:Value→Shared→Prop):Inv (X.wish E) pins σ H s:=⟨I.ok.wish E,I.os,I.bare,I.base,I.loc,I.cell,I.free,I.freeC,I.pin,I.hok,I.len⟩
theorem Inv.unwish (I:Inv (X.wish E) pins σ H s):Inv X pins σ H s:=⟨I.ok.unwish,I.os,I.bare,I.base,I.loc,I.cell,I.free,I.freeC,I.pin,I.hok,I.len⟩
theorem SP.unwish {D:sV} {f:Flow} {s':Shared} (h:SP (X.wish E) pins D f s'):SP X pins D f s':=by
 cases f with
 | next=>obtain ⟨σ',H',I,q⟩:=h; exact ⟨σ',H',I.unwish,q⟩
 | brk=>obtain ⟨σ',H',I,q⟩:=h; exact ⟨σ',H',I.unwish,q⟩
 | cont=>obtain ⟨σ',H',I,q⟩:=h; exact ⟨σ',H',I.unwish,q⟩
 | ret u=>obtain ⟨v,σ',H',I,r,q⟩:=h; exact ⟨v,σ',H',I.unwish,r,q⟩
theorem PSs.nox {st:List Stmt} {t:TS} (h:PSs X.nox st t):PSs X st t:=fun pins s σ H D I hw=>wpAny_mono (h pins s σ H D (I.wish _) hw) (fun _ _ q=>q.unwish) fun _ _ z=>False.elim z
end
section
variable {X:Cx} {st:Stmt} {rest:List Stmt} {t u:TS} {e:Expr} {te:TE} {pos:Pos}
noncomputable def tNext:TS:=fun D σ H=>D.nx σ H
noncomputable def tSeq (t u:TS):TS:=fun D σ H=>t {D with nx:=u D} σ H
theorem pss_nil:PSs X [] tNext:=fun _ _ σ H _ I h=>wpAny_execs_nil ⟨σ,H,I,h⟩
theorem pss_cons (h1:PS X st t) (h2:PSs X rest u):PSs X (st::rest) (tSeq t u):=by
 intro pins s σ H D I h; refine wpAny_execs_cons (thn (h1 pins s σ H {D with nx:=u D} I h) fun f s1 q=> ?_); cases f with
 | next=>obtain ⟨σ',H',I',q⟩:=q; exact h2 pins s1 σ' H' D I' q
 | ret v=>exact q
 | brk=>exact q
 | cont=>exact q
theorem pss_one (h1:PS X st t):PSs X [st] t:=by
 intro pins s σ H D I h; refine wpAny_execs_cons (thn (h1 pins s σ H D I h) fun f s1 q=> ?_); cases f with
 | next=>exact wpAny_execs_nil q
 | ret v=>exact q
 | brk=>exact q
 | cont=>exact q
theorem Inv.quiet {pins:List (Addr × Obj)} {σ:St} {H:Hp} {s:Shared} (I:Inv X pins σ H s):interactive X.env=false:=by simp [interactive,I.ok.kind]
noncomputable def tDrop (te:TE):TS:=fun D σ H=>te σ H fun _ H1=>D.nx σ H1
theorem qT (he:PE X e te) (hs:swapsWith e none pos.line X.env=pure false:=by rfl):PS X (.Expr e pos) (tDrop te):=by intro pins s σ H D I h; exact wpAny_Expr_any (thn (he pins s σ H _ I h) fun v s1 ⟨x,H1,I1,r1,q1⟩=>⟨σ,H1,I1,q1⟩) I.quiet hs
noncomputable def tRet (te:TE):TS:=fun D σ H=>te σ H D.rt
theorem ps_ret (he:PE X e te):PS X (.Return (some e) pos) (tRet te):=by intro pins s σ H D I h; exact wpAny_Return_some (thn (he pins s σ H _ I h) fun v s1 ⟨x,H1,I1,r1,q1⟩=>⟨x,σ,H1,I1,r1,q1⟩)
noncomputable def tIfS (c:TT) (t u:TS):TS:=fun D σ H=>c σ H fun b H1=>if b=true then t D σ H1 else u D σ H1
theorem ps_if {c:Expr} {a b:List Stmt} {tc:TT} (hc:PT X c tc) (ha:PSs X a t) (hb:PSs X b u):PS X (.If c a b pos) (tIfS tc t u):=by
 intro pins s σ H D I h; refine wpAny_If (thn (hc pins s σ H _ I h) fun d s1 ⟨H1,I1,q1⟩=> ?_); cases d with
 | true=>exact ha pins s1 σ H1 D I1 q1
 | false=>exact hb pins s1 σ H1 D I1 q1
end
noncomputable abbrev TG:=V→St→Hp→(St→Hp→Prop)→Prop
noncomputable abbrev TGs:=List V→St→Hp→(St→Hp→Prop)→Prop
noncomputable def PG (X:Cx) (target:Expr) (t:TG):Prop:=
 ∀ (pins:List (Addr × Obj)) (s:Shared) (σ:St) (H:Hp) (v:V) (u:Value) (Q:St→Hp→Prop),Inv X pins σ H s→RelV v u→t v σ H Q→
  wpAny (model X.prog X.w) X.A (assign target X.env u) (fun _ s'=>∃σ' H',Inv X pins σ' H' s'∧Q σ' H') X.xe s
noncomputable def PGs (X:Cx) (ts:List Expr) (t:TGs):Prop:=
 ∀ (pins:List (Addr × Obj)) (s:Shared) (σ:St) (H:Hp) (vs:List V) (us:List Value) (Q:St→Hp→Prop),Inv X pins σ H s→Vals vs us→t vs σ H Q→
  wpAny (model X.prog X.w) X.A (assignInOrder ((assignEach ts X.env).map (·.2)) us) (fun _ s'=>∃σ' H',Inv X pins σ' H' s'∧Q σ' H') X.xe s
noncomputable abbrev TSet:=V→V→V→Hp→(Hp→Prop)→Prop
noncomputable abbrev TIp:=V→V→Hp→VK→Prop
section
variable {X:Cx} {pos:Pos}
noncomputable def gName (i:Nat):TG:=fun v σ H Q=>Q (σ.set i (some v)) H
theorem bL {i:Nat} {x:Str} (hN:X.N.Nodup) (hi:X.N[i]? =some x) (hx:Loc X.env.scope x) (hf:X.fn x=true∨X.env.scope.names.lookup x=some .local:=by first | exact .inl rfl | exact .inr rfl | assumption):PG X (.Name x pos) (gName i):=by intro pins s σ H v u Q I r h; exact wpAny_assign_Name (xY I hN hi hx r (fun s' I'=>⟨_,H,I',h⟩) hf)
noncomputable def gNil:TGs:=fun vs σ H Q=>vs=[]∧Q σ H
noncomputable def gCons (t:TG) (u:TGs):TGs:=fun vs σ H Q=>∃v r,vs=v::r∧t v σ H fun σ' H'=>u r σ' H' Q
theorem iQ:PGs X [] gNil:=by intro pins s σ H vs us Q I r h; obtain ⟨e,h⟩:=h; subst e; cases r; exact assignInOrder_nil ⟨σ,H,I,h⟩
theorem cS {e:Expr} {es:List Expr} {t:TG} {u:TGs} (h1:PG X e t) (h2:PGs X es u)
  (hs:(assignEach (e::es) X.env).map (·.2)=assign e X.env::(assignEach es X.env).map (·.2):=by rfl):PGs X (e::es) (gCons t u):=by
 intro pins s σ H vs us Q I r h; obtain ⟨v,vr,e1,h⟩:=h; subst e1; cases r with
 | cons r rr=>rw [hs]; refine assignInOrder_cons (thn (h1 pins s σ H _ _ _ I r h) fun _ s1 ⟨σ1,H1,I1,q1⟩=> ?_); exact h2 pins s1 σ1 H1 _ _ Q I1 rr q1
noncomputable def gTup (K:aD) (n:Nat) (t:TGs):TG:=fun v σ H Q=>∃a xs,v= .ref a∧SqT K H a xs∧xs.length=n∧t xs σ H Q
theorem pg_tup {es:List Expr} {k:Nat} {t:TGs} {n:Nat} (hc:X.calm=true) (h:PGs X es t)
  (hn:(assignEach es X.env).length=n:=by rfl) (hst:(assignEach es X.env).findIdx? (·.1)=none:=by rfl):PG X (.Tuple es k pos) (gTup X.K n t):=by
 intro pins s σ H v u Q I r hw; obtain ⟨a,xs,e1,hq,hl,hw⟩:=hw; subst e1; cases r; obtain ⟨its,rv,ht,hz⟩:=I.tuple hq; refine assign_Tuple_tuple (I.ok.hd hc) ht (by simp [hn,← hl,rv.length]) hst fun h' hx=> ?_
 have I1:Inv X pins σ H {s with heap:=h'}:=I.kept (t':=s.toks) fun b o e=>hx b o (cG (bA e)) e
 exact h pins _ σ H xs _ Q I1 (by simpa using rv) hw
noncomputable def tAsg (te:TE) (g:TG):TS:=fun D σ H=>te σ H fun x H1=>g x σ H1 D.nx
theorem ps_asg {tg e:Expr} {te:TE} {g:TG} (he:PE X e te) (hg:PG X tg g) (hs:swapsWithSole [tg] e pos.line X.env=pure false:=by rfl) (hw:swappedStores [tg] e X.env=pure none:=by rfl)
  (h1:(assignEach [tg] X.env).map (·.2)=[assign tg X.env]:=by rfl):PS X (.Assign [tg] e pos) (tAsg te g):=by
 intro pins s σ H D I h; refine wpAny_Assign_stores (thn (he pins s σ H _ I h) fun v s1 ⟨x,H1,I1,r1,q1⟩=> ?_) hs hw; rw [h1]; exact thn (hg pins s1 σ H1 x v _ I1 r1 q1) fun _ s2 q=>q
theorem sS {i:Nat} {x:Str} {e:Expr} {te:TE} {pos':Pos} (hN:X.N.Nodup) (hi:X.N[i]? =some x) (hx:Loc X.env.scope x) (he:PE X e te) (hs:swapsWith e (some (.Name x pos')) pos.line X.env=pure false:=by rfl) (hf:X.fn x=true∨X.env.scope.names.lookup x=some .local:=by first | exact .inl rfl | exact .inr rfl | assumption):
  PS X (.Assign [.Name x pos'] e pos) (tAsg te (gName i)):=by
 intro pins s σ H D I h; refine wpAny_Assign_Name (thn (he pins s σ H _ I h) fun v s1 ⟨y,H1,I1,r1,q1⟩=> ?_) hs; exact xY I1 hN hi hx r1 (fun s2 I2=>⟨_,H1,I2,q1⟩) hf
end
structure It where
 go:Nat→Hp→Prop
 yld:Nat→Hp→V→Hp→Prop
 stop:Nat→Hp→Prop
noncomputable def vZ (X:Cx) (pins:List (Addr × Obj)) (H:Hp) (b:Addr):Prop:=
 H b=none∧b≠X.env.locals∧b∉X.fs∧(b∈X.ex∨X.s₀.heap.objs.size≤b)∧(∀x c,X.env.cells.lookup x=some c→c≠b)∧∀p∈X.pn++pins,p.1≠b
theorem Inv.fpOk {X:Cx} {pins:List (Addr × Obj)} {σ:St} {H H':Hp} {s:Shared} {b:Addr} (I:Inv X pins σ H s) (hb:s.heap.objs.size≤b) (hn:H' b=none):vZ X pins H' b:=by
 refine ⟨hn,jR (bQ I.lt hb),I.nofs hb, .inr (cA I.sz hb),fun x c e z=> ?_,fun p hp z=> ?_⟩
 ·obtain ⟨v,q⟩:=I.cell x c e; exact absurd (bQ q.lt (by rw [z]; exact hb)) (gT _)
 ·exact absurd (bQ (bA (I.pin p hp).1) (by rw [z]; exact hb)) (gT _)
structure xJ (P:Program) (w:World) (K:aD) (tg:Expr) (J:It) (fp:List Addr) (it:Addr) (tn:Nat→Heap→Prop):Prop where
 mem:it∈fp
 obj:∀i h,tn i h→∀b∈fp,∃o,h.get? b=some o∧∀v,o.data≠ .cell v
 keep:∀i h h',tn i h→(∀b∈fp,∀o,h.get? b=some o→h'.get? b=some o)→tn i h'
 item:∀ (X:Cx),X.prog=P→X.w=w→X.K=K→X.calm=true→∀ (i:Nat) (pins:List (Addr × Obj)) (s:Shared) (σ:St) (H:Hp) (E:Value→Shared→Prop),Inv X pins σ H s→(∀b∈fp,vZ X pins H b)→tn i s.heap→J.go i H→
  wpAny (model P w) X.A (pyNext (.ref it)) (fun r s1=>∃u,r=some u∧
   wpAny (model P w) X.A (letOwnedTupleGo tg (.ref it) u) (fun _ s2=>∃x H',Inv X pins σ H' s2∧RelV x u∧J.yld i H x H'∧tn (i+1) s2.heap∧∀b∈fp,H' b=none) E s1) E s
 done:∀ (X:Cx),X.prog=P→X.w=w→X.K=K→X.calm=true→∀ (i:Nat) (pins:List (Addr × Obj)) (s:Shared) (σ:St) (H:Hp) (E:Value→Shared→Prop),Inv X pins σ H s→(∀b∈fp,vZ X pins H b)→tn i s.heap→J.stop i H→
  wpAny (model P w) X.A (pyNext (.ref it)) (fun r s1=>r=none∧Inv X pins σ H s1) E s
 self:∀ (A:Around) (i:Nat) (s:Shared) (Q:Value→Shared→Prop) (E:Value→Shared→Prop),tn i s.heap→Q (.ref it) s→wpAny (model P w) A (pyIter (.ref it)) Q E s
noncomputable abbrev TI:=St→Hp→(It→Hp→Prop)→Prop
noncomputable def PIE (X:Cx) (pins:List (Addr × Obj)) (σ:St) (tg:Expr) (R:It→Hp→Prop) (itv:Value) (s2:Shared):Prop:=
 ∃ (it:Addr) (fp:List Addr) (tn:Nat→Heap→Prop) (J:It) (H':Hp),itv= .ref it∧Inv X pins σ H' s2∧xJ X.prog X.w X.K tg J fp it tn∧tn 0 s2.heap∧(∀b∈fp,vZ X pins H' b)∧R J H'
noncomputable def PI (X:Cx) (tg iter:Expr) (wi:TI):Prop:=
 ∀ (pins:List (Addr × Obj)) (s:Shared) (σ:St) (H:Hp) (R:It→Hp→Prop),Inv X pins σ H s→wi σ H R→
  wpAny (model X.prog X.w) X.A (eval iter X.env) (fun v s1=>wpAny (model X.prog X.w) X.A (pyIter v) (PIE X pins σ tg R) X.xe s1) X.xe s
theorem go_of {M:Model} {A:Around} {E:Value→Shared→Prop} {s:Shared} {tg:Expr} {it:Addr} {u:Value} {o:Obj} {n:String} {vs:Array Value} {Q:Unit→Shared→Prop} (ho:s.heap.get? it=some o) (hc:o.cls= .type n) (hd:o.data= .fields vs)
  (hn:["enumerate","zip","dict_itemiterator","dict_reverseitemiterator","odict_iterator","itertools.zip_longest","itertools.pairwise"].contains n=false) (hQ:Q () s):wpAny M A (letOwnedTupleGo tg (.ref it) u) Q E s:=by
 unfold letOwnedTupleGo
 cases tg<;>first
  | exact wpAny_pure hQ
  | (cases u<;>first
    | exact wpAny_pure hQ
    | (refine wpAny_bind (wpAny_load ho ?_)
       rw [hc,hd]; show wpAny M A (if (["enumerate","zip","dict_itemiterator","dict_reverseitemiterator","odict_iterator","itertools.zip_longest","itertools.pairwise"].contains n && vs[0]? ==some (rawInt _))=true then _ else _) Q E s; rw [if_neg (by intro h; rw [hn,nO] at h; cases h)]
       exact wpAny_pure hQ))
noncomputable def Itl (K:aD) (a:Addr):It:=
 ⟨fun i H=>∃xs x,SqL K H a xs∧xs[i]? =some x,fun i H x H'=>H'=H∧∀xs,SqL K H a xs→xs[i]? =some x,fun i H=>∃xs,SqL K H a xs∧xs.length≤i⟩
noncomputable def Itt (K:aD) (a:Addr):It:=
 ⟨fun i H=>∃xs x,SqT K H a xs∧xs[i]? =some x,fun i H x H'=>H'=H∧∀xs,SqT K H a xs→xs[i]? =some x,fun i H=>∃xs,SqT K H a xs∧xs.length≤i⟩
noncomputable def Itr (lo:Int) (n:Nat):It:=⟨fun i _=>i<n,fun i H x H'=>H'=H∧x= .int (lo+i),fun i _=>n≤i⟩
theorem turn_list {P:Program} {w:World} {K:aD} {tg:Expr} (a it:Addr):xJ P w K tg (Itl K a) [it] it (fun i h=>h.IsListIter it a i) where
 mem:=by simp
 obj:=fun i h st b hb=>by
  have e:b=it:=by simpa using hb
  subst e; obtain ⟨o,e,c,d⟩:=st; exact ⟨o,e,fun v z=>by rw [d] at z; cases z⟩
 keep:=fun i h h' st k=>st.at fun o e=>k it (by simp) o e
 item:=by
  intro X hP hw hK hc i pins s σ H E I hf st hg; subst hP hw hK; obtain ⟨xs,x,hq,hx⟩:=hg; obtain ⟨its,rv,p,hz⟩:=I.list hq; obtain ⟨u,hu,ru⟩:=rv.get hx; obtain ⟨f0,f1,f2,f3,f4,f5⟩:=hf it (by simp); refine wpAny_pyNext_list_item st p.isList (x:=u) (by simpa using hu) fun h' st' sb=> ?_
  have I1:Inv X pins σ H {s with heap:=h'}:=I.turned (t':=s.toks) (fun b o hb e=>(sb.2 b hb).trans e) f0 f1 f3 f4 f5; obtain ⟨o,e,c,d⟩:=id st'; exact ⟨u,rfl,go_of (s:={s with heap:=h'}) e c d (by decide) ⟨x,H,I1,ru,⟨rfl,fun ys hy=>by rw [I.list_inj hy hq]; exact hx⟩,st',fun b hb=>(hf b hb).1⟩⟩
 done:=by intro X hP hw hK hc i pins s σ H E I hf st hg; subst hP hw hK; obtain ⟨xs,hq,hx⟩:=hg; obtain ⟨its,rv,p,hz⟩:=I.list hq; obtain ⟨f0,f1,f2,f3,f4,f5⟩:=hf it (by simp); have hl:=rv.length; exact wpAny_pyNext_list_end (I.ok.hd hc) st p.isList (by simp; omega) fun h' eb=>⟨rfl,I.turned (t':=s.toks) (fun b o hb e=>eb b o hb e) f0 f1 f3 f4 f5⟩
 self:=fun _ _ _ _ _ st h=>wpAny_pyIter_listiter st h
theorem turn_tuple {P:Program} {w:World} {K:aD} {tg:Expr} (a it:Addr):xJ P w K tg (Itt K a) [it] it (fun i h=>h.IsTupleIter it a i) where
 mem:=by simp
 obj:=fun i h st b hb=>by
  have e:b=it:=by simpa using hb
  subst e; obtain ⟨o,e,c,d⟩:=st; exact ⟨o,e,fun v z=>by rw [d] at z; cases z⟩
 keep:=fun i h h' st k=>st.at fun o e=>k it (by simp) o e
 item:=by
  intro X hP hw hK hc i pins s σ H E I hf st hg; subst hP hw hK; obtain ⟨xs,x,hq,hx⟩:=hg; obtain ⟨its,rv,p,hz⟩:=I.tuple hq; obtain ⟨u,hu,ru⟩:=rv.get hx; obtain ⟨f0,f1,f2,f3,f4,f5⟩:=hf it (by simp); refine wpAny_pyNext_tuple_item st (show s.heap.IsTuple a its.toArray from p) (x:=u) (by simpa using hu) fun h' st' sb=> ?_
  have I1:Inv X pins σ H {s with heap:=h'}:=I.turned (t':=s.toks) (fun b o hb e=>(sb.2 b hb).trans e) f0 f1 f3 f4 f5; obtain ⟨o,e,c,d⟩:=id st'; exact ⟨u,rfl,go_of (s:={s with heap:=h'}) e c d (by decide) ⟨x,H,I1,ru,⟨rfl,fun ys hy=>by rw [I.tuple_inj hy hq]; exact hx⟩,st',fun b hb=>(hf b hb).1⟩⟩
 done:=by intro X hP hw hK hc i pins s σ H E I hf st hg; subst hP hw hK; obtain ⟨xs,hq,hx⟩:=hg; obtain ⟨its,rv,p,hz⟩:=I.tuple hq; obtain ⟨f0,f1,f2,f3,f4,f5⟩:=hf it (by simp); have hl:=rv.length; exact wpAny_pyNext_tuple_end (I.ok.hd hc) st (show s.heap.IsTuple a its.toArray from p) (by simp; omega) fun h' eb=>⟨rfl,I.turned (t':=s.toks) (fun b o hb e=>eb b o hb e) f0 f1 f3 f4 f5⟩
 self:=fun _ _ _ _ _ st h=>wpAny_pyIter_tupleiter st h
theorem turn_range {P:Program} {w:World} {K:aD} {tg:Expr} (it:Addr) (lo:Int) (n:Nat):xJ P w K tg (Itr lo n) [it] it (fun i h=>IsRangeIter h it (lo+(i:Nat) * 1) ((n:Int) - (i:Nat)) 1) where
 mem:=by simp
 obj:=fun i h st b hb=>by
  have e:b=it:=by simpa using hb
  subst e
  exact ⟨_,st,fun v z=>by
   have z':Data.fields _=Data.cell v:=z
   cases z'⟩
 keep:=fun i h h' st k=>k it (by simp) _ st
 item:=by
  intro X hP hw hK hc i pins s σ H E I hf st hg; subst hP hw hK; obtain ⟨f0,f1,f2,f3,f4,f5⟩:=hf it (by simp); have W:=Walks.range (prog:=X.prog) (w:=X.w) (I.ok.hd hc) it lo 1 n; refine W.item i s _ _ hg st fun v h' tk hv st' kk=> ?_
  obtain ⟨t,rfl⟩:=hv; have I1:Inv X pins σ H {s with heap:=h',toks:=tk}:=I.turned (fun b o hb e=>kk b o (by simpa using hb) e) f0 f1 f3 f4 f5; refine ⟨_,rfl,go_of (s:={s with heap:=h',toks:=tk}) (n:="range_iterator") st' rfl rfl (by decide) ⟨.int (lo+i),H,I1,⟨t, ?_⟩,⟨rfl,rfl⟩,st',fun b hb=>(hf b hb).1⟩⟩; rw [Int.mul_one]
 done:=by intro X hP hw hK hc i pins s σ H E I hf st hg; subst hP hw hK; obtain ⟨f0,f1,f2,f3,f4,f5⟩:=hf it (by simp); exact wpAny_pyNext_range_end (I.ok.hd hc) st (by have:n≤i:=hg; omega) fun h' eb=>⟨rfl,I.turned (t':=s.toks) (fun b o hb e=>eb b o hb e) f0 f1 f3 f4 f5⟩
 self:=fun _ _ _ _ _ st h=>wpAny_pyIter_rangeiter st h
section
variable {X:Cx} {tg:Expr}
noncomputable def iList (K:aD) (tl:TE):TI:=fun σ H R=>tl σ H fun x H1=>∃a,x= .ref a∧(∃xs,SqL K H1 a xs)∧R (Itl K a) H1
noncomputable def iTup (K:aD) (tl:TE):TI:=fun σ H R=>tl σ H fun x H1=>∃a,x= .ref a∧(∃xs,SqT K H1 a xs)∧R (Itt K a) H1
theorem pi_list {l:Expr} {tl:TE} (hl:PE X l tl):PI X tg l (iList X.K tl):=by
 intro pins s σ H R I h; refine thn (hl pins s σ H _ I h) fun v s1 ⟨x,H1,I1,r1,q1⟩=> ?_
 obtain ⟨a,e,⟨xs,hq⟩,q⟩:=q1; subst e; cases r1; obtain ⟨its,rv,p,hz⟩:=I1.list hq; refine wpAny_pyIter_list p.isList ?_; refine ⟨s1.heap.objs.size,[s1.heap.objs.size],_,_,H1,rfl,I1.kept (t':=s1.toks) fun b o e=>aM _ e,turn_list a _,⟨_,bF _ rfl,rfl,rfl⟩,fun b hb=> ?_,q⟩; have e:b=s1.heap.objs.size:=by simpa using hb
 subst e; exact I1.fpOk (aZ _) (I1.hok.fresh (aZ _))
theorem pi_tup {l:Expr} {tl:TE} (hl:PE X l tl):PI X tg l (iTup X.K tl):=by
 intro pins s σ H R I h; refine thn (hl pins s σ H _ I h) fun v s1 ⟨x,H1,I1,r1,q1⟩=> ?_
 obtain ⟨a,e,⟨xs,hq⟩,q⟩:=q1; subst e; cases r1; obtain ⟨its,rv,p,hz⟩:=I1.tuple hq; refine wpAny_pyIter_tuple (show s1.heap.IsTuple a its.toArray from p) ?_; refine ⟨s1.heap.objs.size,[s1.heap.objs.size],_,_,H1,rfl,I1.kept (t':=s1.toks) fun b o e=>aM _ e,turn_tuple a _,⟨_,bF _ rfl,rfl,rfl⟩,fun b hb=> ?_,q⟩; have e:b=s1.heap.objs.size:=by simpa using hb
 subst e; exact I1.fpOk (aZ _) (I1.hok.fresh (aZ _))
theorem range_it {pins:List (Addr × Obj)} {σ:St} {H:Hp} {s:Shared} {R:It→Hp→Prop} {E:Value→Shared→Prop} {lo hi:Int} {t u v:Tok} {tk:Nat} (I:Inv X pins σ H s) (h1: -(2^62)≤lo) (h2:lo<2^62) (h3: -(2^62)≤hi) (h4:hi<2^62)
  (q:R (Itr lo (hi - lo).toNat) H):wpAny (model X.prog X.w) X.A (pyIter (.ref s.heap.objs.size)) (PIE X pins σ tg R) E {s with heap:=s.heap.push {cls:= .type "range",data:= .fields #[.int lo t, .int hi u, .int 1 v]},toks:=tk}:=by
 refine wpAny_pyIter_range (IsRange.new ..) (small_one h1 h2 h3 h4) ?_; have I1:Inv X pins σ H {s with heap:=s.heap.push {cls:= .type "range",data:= .fields #[.int lo t, .int hi u, .int 1 v]},toks:=tk}:=I.kept fun b o e=>aM _ e
 refine ⟨(s.heap.push {cls:= .type "range",data:= .fields #[.int lo t, .int hi u, .int 1 v]}).objs.size,[(s.heap.push {cls:= .type "range",data:= .fields #[.int lo t, .int hi u, .int 1 v]}).objs.size],_,_,H,rfl,
  I1.kept (t':=tk) fun b o e=>aM _ e,turn_range _ lo (hi - lo).toNat, ?_,fun b hb=> ?_,q⟩
 ·have e1:lo+((0:Nat):Int) * 1=lo:=by simp
  have e2:(((hi - lo).toNat:Nat):Int) - ((0:Nat):Int)=Builtin.Range.rangeSize lo hi 1:=by rw [rangeSize_one]; split<;>omega
  show IsRangeIter _ _ (lo+((0:Nat):Int) * 1) ((((hi - lo).toNat:Nat):Int) - ((0:Nat):Int)) 1; rw [e1,e2]; exact bF _ rfl
 ·have e:b=(s.heap.push {cls:= .type "range",data:= .fields #[.int lo t, .int hi u, .int 1 v]}).objs.size:=by simpa using hb
  subst e; exact I1.fpOk (aZ _) (I1.hok.fresh (aZ _))
noncomputable def iRng1 (ta:TA):TI:=fun σ H R=>ta σ H fun vs H1=>∃j:Int,vs=[.int j]∧ -(2^62)≤j∧j<2^62∧R (Itr 0 j.toNat) H1
theorem pi_range1 {a:Expr} {ta:TA} {p pos:Pos} (hg:Gl X "range") (hm:X.mg "range"=none) (ha:PA X [a] ta) (hs:starEach [a] X.env=[(false,eval a X.env)]:=by rfl):PI X tg (.Call (.Name "range" p) [a] [] pos) (iRng1 ta):=by
 intro pins s σ H R I h; refine Call_ (pO I hg hm boot_range (PyProof.Rows.callWith_type1 (thn (ha pos pins s σ H _ I h) fun us s1 ⟨vs,H1,I1,r1,q1⟩=> ?_) hs rfl)); obtain ⟨j,e,q1,q2,q⟩:=q1; subst e; cases r1 with
 | cons r rr=>cases rr; obtain ⟨t,rfl⟩:=r; exact call_range_1 (range_it I1 (by omega) (by omega) q1 q2 (by simpa using q))
noncomputable def tFor (wi:TI) (g:TG) (tb:TS):TS:=fun D σ H=>wi σ H fun J H1=>∃W:Nat→Nat→St→Hp→Prop,(∃m,W 0 m σ H1)∧∀i m σ H,W i m σ H→
 (J.stop i H∧D.nx σ H)∨(J.go i H∧∃N:St→Hp→Prop,(∀σ' H',N σ' H'→∃m',m'<m∧W (i+1) m' σ' H')∧∀x H',J.yld i H x H'→g x σ H' fun σ2 H2=>tb {D with nx:=N,ct:=N,bk:=D.nx} σ2 H2)
noncomputable def mG (fp:List Addr) (h:Heap):List (Addr × Obj):=fp.filterMap fun b=>(h.get? b).map fun o=>(b,o)
theorem jB {fp:List Addr} {h:Heap} {b:Addr} {o:Obj} (hb:b∈fp) (e:h.get? b=some o):(b,o)∈mG fp h:=List.mem_filterMap.mpr ⟨b,hb,by rw [e]; rfl⟩
theorem pR {fp:List Addr} {h:Heap} {p:Addr × Obj} (hp:p∈mG fp h):p.1∈fp∧h.get? p.1=some p.2:=by
 obtain ⟨b,hb,e⟩:=List.mem_filterMap.mp hp; cases q:h.get? b with
 | none=>rw [q] at e; cases e
 | some o=>rw [q] at e; have e':(b,o)=p:=cT.inj e; subst e'; exact ⟨hb,q⟩
theorem Inv.pinned {pins:List (Addr × Obj)} {σ:St} {H:Hp} {s:Shared} {fp:List Addr} (I:Inv X pins σ H s) (hf:∀b∈fp,vZ X pins H b) (ho:∀b∈fp,∃o,s.heap.get? b=some o∧∀v,o.data≠ .cell v):Inv X (pins++mG fp s.heap) σ H s:=
 I.pins_of fun p hp=>(bN.mp hp).elim (fun z=>I.pin p (aX _ z)) fun z=>by obtain ⟨hb,e⟩:=pR z; obtain ⟨f0,f1,f2,_⟩:=hf p.1 hb; obtain ⟨o,e',d⟩:=ho p.1 hb; rw [e] at e'; cases e'; exact ⟨e,f0,f1,f2,d⟩
theorem Inv.unpinned {pins pl:List (Addr × Obj)} {σ:St} {H:Hp} {s:Shared} (I:Inv X (pins++pl) σ H s):Inv X pins σ H s:=I.pins_of fun p hp=>I.pin p (aX _ (dH _ hp))
theorem ps_for {iter:Expr} {body:List Stmt} {wi:TI} {g:TG} {tb:TS} {pos:Pos} (hp:PassesOwn (model X.prog X.w) X.A X.env X.xe) (hc:X.calm=true) (hi:PI X tg iter wi) (hg:PG X tg g) (hb:PSs X body tb)
  (hs:∀x,foldedSetIterable iter X.env x=pure x:=by intro _; rfl):PS X (.For tg iter body [] pos) (tFor wi g tb):=by
 intro pins s σ H D I h; refine wpAny_For (thn (hi pins s σ H _ I h) fun v s1 h1=>thn h1 fun itv s2 h2=> ?_) hs; obtain ⟨it,fp,tn,J,H2,e,I2,T,st2,f2,W,⟨m0,w0⟩,turn⟩:=h2; subst e
 have stat:∀ {H':Hp},(∀b∈fp,H' b=none)→∀b∈fp,vZ X pins H' b:=fun hn b hb=>⟨hn b hb,(f2 b hb).2⟩
 refine codeAny_forLoop_any (fun n s'=>∃i σ' H',Inv X pins σ' H' s'∧tn i s'.heap∧(∀b∈fp,H' b=none)∧W i n σ' H') ?_ m0 ⟨0,σ,H2,I2,st2,fun b hb=>(f2 b hb).1,w0⟩; rintro n s3 ⟨i,σ3,H3,I3,st3,fr3,w3⟩
 rcases turn i n σ3 H3 w3 with ⟨stop,qn⟩ | ⟨go,N,hN,step⟩
 ·refine wpAny_passesOwn hp (thn (T.done X rfl rfl rfl hc i pins s3 σ3 H3 X.xe I3 (stat fr3) st3 stop) fun r s4 ⟨hr,I4⟩=> ?_); subst hr; exact wpAny_execs_nil ⟨σ3,H3,I4,qn⟩
 ·refine wpAny_passesOwn hp (thn (T.item X rfl rfl rfl hc i pins s3 σ3 H3 X.xe I3 (stat fr3) st3 go) fun r s4 ⟨u,hr,h4⟩=> ?_); subst hr; refine wpAny_passesOwn hp (thn h4 fun _ s5 ⟨x,H5,I5,r5,y5,st5,fr5⟩=> ?_); have I5':=I5.pinned (stat fr5) (T.obj _ _ st5); refine wpAny_passesOwn hp (thn (hg _ s5 σ3 H5 x u _ I5' r5 (step x H5 y5)) fun _ s6 ⟨σ6,H6,I6,q6⟩=> ?_); refine wpAny_passesOwn hp (thn (hb _ s6 σ6 H6 _ I6 q6) fun f s7 q7=> ?_)
  have again:∀ {σ7:St} {H7:Hp},Inv X (pins++mG fp s5.heap) σ7 H7 s7→N σ7 H7→∃m,m<n∧∃i σ' H',Inv X pins σ' H' s7∧tn i s7.heap∧(∀b∈fp,H' b=none)∧W i m σ' H':=fun {σ7 H7} I7 n7=>by obtain ⟨m',hm,w7⟩:=hN σ7 H7 n7; refine ⟨m',hm,i+1,σ7,H7,I7.unpinned,T.keep _ _ _ st5 fun b hb o e=>(I7.pin (b,o) (aX _ (aX _ (jB hb e)))).1,fun b hb=> ?_,w7⟩; obtain ⟨o,e,d⟩:=T.obj _ _ st5 b hb; exact (I7.pin (b,o) (aX _ (aX _ (jB hb e)))).2.1
  cases f with
  | next=>obtain ⟨σ7,H7,I7,n7⟩:=q7; exact again I7 n7
  | cont=>obtain ⟨σ7,H7,I7,n7⟩:=q7; exact again I7 n7
  | brk=>obtain ⟨σ7,H7,I7,q7⟩:=q7; exact ⟨σ7,H7,I7.unpinned,q7⟩
  | ret v=>obtain ⟨x7,σ7,H7,I7,r7,q7⟩:=q7; exact ⟨x7,σ7,H7,I7.unpinned,r7,q7⟩
end
noncomputable abbrev R2:=V→V→Hp→VK→Prop
noncomputable def OpR (X:Cx) (f:Value→Value→Sem Value) (r:R2):Prop:=
 ∀ (pins:List (Addr × Obj)) (s:Shared) (σ:St) (H:Hp) (x y:V) (v u:Value) (Q:VK),Inv X pins σ H s→RelV x v→RelV y u→r x y H Q→
  wpAny (model X.prog X.w) X.A (f v u) (EP X pins σ Q) X.xe s
noncomputable def UnR (X:Cx) (f:Value→Sem Value) (r:V→Hp→VK→Prop):Prop:=
 ∀ (pins:List (Addr × Obj)) (s:Shared) (σ:St) (H:Hp) (x:V) (v:Value) (Q:VK),Inv X pins σ H s→RelV x v→r x H Q→
  wpAny (model X.prog X.w) X.A (f v) (EP X pins σ Q) X.xe s
noncomputable def mO (X:Cx) (f:Value) (r:List V→Hp→VK→Prop):Prop:=
 ∀ (pins:List (Addr × Obj)) (s:Shared) (σ:St) (H:Hp) (xs:List V) (us:List Value) (Q:VK),Inv X pins σ H s→Vals xs us→r xs H Q→
  wpAny (model X.prog X.w) X.A (call f us) (EP X pins σ Q) X.xe s
noncomputable def tOp (r:R2) (ta tb:TE):TE:=fun σ H Q=>ta σ H fun x H1=>tb σ H1 fun y H2=>r x y H2 Q
noncomputable def tUn (r:V→Hp→VK→Prop) (ta:TE):TE:=fun σ H Q=>ta σ H fun x H1=>r x H1 Q
noncomputable def rI (C:Int→Int→Prop) (g:Int→Int→V):R2:=fun x y H Q=>∃i j,x= .int i∧y= .int j∧C i j∧Q (g i j) H
noncomputable def rI0 (g:Int→Int→V):R2:=fun x y H Q=>∃i j,x= .int i∧y= .int j∧Q (g i j) H
noncomputable def rU (g:Int→V):V→Hp→VK→Prop:=fun x H Q=>∃i,x= .int i∧Q (g i) H
section
variable {X:Cx} {a b c:Expr} {ta tb tc:TE} {pos:Pos}
theorem binT (ha:PE X a ta) (hb:PE X b tb) {pins:List (Addr × Obj)} {s:Shared} {σ:St} {H:Hp} {R:V→V→Hp→Prop} (I:Inv X pins σ H s)
  (h:ta σ H fun x H1=>tb σ H1 fun y H2=>R x y H2) {Q:Value→Shared→Prop} {f:Value→Value→Sem Value}
  (hf:∀v u s2 x y H2,Inv X pins σ H2 s2→RelV x v→RelV y u→R x y H2→wpAny (model X.prog X.w) X.A (f v u) Q X.xe s2):
  wpAny (model X.prog X.w) X.A (eval a X.env) (fun v s₁=>wpAny (model X.prog X.w) X.A (eval b X.env) (fun u s₂=>wpAny (model X.prog X.w) X.A (f v u) Q X.xe s₂) X.xe s₁) X.xe s:=by
 refine thn (ha pins s σ H _ I h) fun v s1 ⟨x,H1,I1,r1,q1⟩=> ?_
 refine thn (hb pins s1 σ H1 _ I1 q1) fun u s2 ⟨y,H2,I2,r2,q2⟩=> ?_
 exact hf v u s2 x y H2 I2 r1 r2 q2
theorem pe_op {op:Operator} {r:R2} (ho:OpR X (binaryOp op) r) (ha:PE X a ta) (hb:PE X b tb):PE X (.BinOp a op b pos) (tOp r ta tb):=by intro pins s σ H Q I h; exact wpAny_BinOp (binT ha hb I h fun v u s2 x y H2 I2 rx ry q=>ho pins s2 σ H2 x y v u Q I2 rx ry q)
theorem pe_un {op:UnaryOp} {r:V→Hp→VK→Prop} (ho:UnR X (unaryOp op) r) (ha:PE X a ta):PE X (.UnaryOp op a pos) (tUn r ta):=by intro pins s σ H Q I h; exact UnaryOp_ (thn (ha pins s σ H _ I h) fun v s1 ⟨x,H1,I1,r1,q1⟩=>ho pins s1 σ H1 x v Q I1 r1 q1)
theorem opI {f:Value→Value→Sem Value} {C:Int→Int→Prop} {g:Int→Int→Int}
  (rule:∀ (i j:Int) (t u:Tok) (s:Shared) (Q:Value→Shared→Prop) (E:Value→Shared→Prop),C i j→Q (.int (g i j) s.toks) {s with toks:=s.toks+1}→wpAny (model X.prog X.w) X.A (f (.int i t) (.int j u)) Q E s):
  OpR X f (rI C fun i j=> .int (g i j)):=by
 intro pins s σ H x y v u Q I rx ry h; obtain ⟨i,j,rfl,rfl,hc,q⟩:=h; obtain ⟨t,rfl⟩:=rx; obtain ⟨t',rfl⟩:=ry; exact rule i j t t' s _ _ hc ⟨.int (g i j),H,I.tok _,⟨_,rfl⟩,q⟩
theorem opI0 {f:Value→Value→Sem Value} {g:Int→Int→Int}
  (rule:∀ (i j:Int) (t u:Tok) (s:Shared) (Q:Value→Shared→Prop) (E:Value→Shared→Prop),Q (.int (g i j) s.toks) {s with toks:=s.toks+1}→wpAny (model X.prog X.w) X.A (f (.int i t) (.int j u)) Q E s):
  OpR X f (rI0 fun i j=> .int (g i j)):=by
 intro pins s σ H x y v u Q I rx ry h; obtain ⟨i,j,rfl,rfl,q⟩:=h; obtain ⟨t,rfl⟩:=rx; obtain ⟨t',rfl⟩:=ry; exact rule i j t t' s _ _ ⟨.int (g i j),H,I.tok _,⟨_,rfl⟩,q⟩
theorem opB0 {f:Value→Value→Sem Value} {g:Int→Int→Bool}
  (rule:∀ (i j:Int) (t u:Tok) (s:Shared) (Q:Value→Shared→Prop) (E:Value→Shared→Prop),Q (.bool (g i j)) s→wpAny (model X.prog X.w) X.A (f (.int i t) (.int j u)) Q E s):
  OpR X f (rI0 fun i j=> .bl (g i j)):=by
 intro pins s σ H x y v u Q I rx ry h; obtain ⟨i,j,rfl,rfl,q⟩:=h; obtain ⟨t,rfl⟩:=rx; obtain ⟨t',rfl⟩:=ry; exact rule i j t t' s _ _ ⟨.bl (g i j),H,I,rfl,q⟩
noncomputable def CDiv (i j:Int):Prop:=0<j∧j<1073741824
noncomputable def CPow (i j:Int):Prop:=0≤j∧j≤1000000∧i.natAbs<2^64
noncomputable def CMul (i j:Int):Prop:=(-(2^64)<i∧i<2^64)∨(-(2^64)<j∧j<2^64)
theorem CMul.ok {i j:Int} (h:CMul i j):IntMulOk i j:=by
 rcases h with ⟨h1,h2⟩ | ⟨h1,h2⟩
 ·exact .of_left (intBits_le_64 h1 h2)
 ·exact .of_right (intBits_le_64 h1 h2)
theorem fO:OpR X (binaryOp .Add) (rI0 fun i j=> .int (i+j)):=opI0 fun _ _ _ _ _ _ _ q=>add_int q
theorem lC:OpR X (binaryOp .Sub) (rI0 fun i j=> .int (i - j)):=opI0 fun _ _ _ _ _ _ _ q=>sub_int q
theorem op_mul:OpR X (binaryOp .Mult) (rI CMul fun i j=> .int (i * j)):=opI fun _ _ _ _ _ _ _ hc q=>mul_int q hc.ok
theorem op_fdiv:OpR X (binaryOp .FloorDiv) (rI CDiv fun i j=> .int (i / j)):=opI fun i j _ _ _ _ _ hc q=>by have h1:(0:Int)<j:=hc.1; have h2:j<1073741824:=hc.2; exact floordiv_int (by omega) (by rw [wM i (by omega)]; exact q) (.inl (PyProof.noPylong_small (by omega)))
theorem dL:OpR X (binaryOp .Mod) (rI (fun _ j=>0<j) fun i j=> .int (i%j)):=opI fun i j _ _ _ _ _ hc q=>by have h1:(0:Int)<j:=hc; exact mod_int' (by omega) (by rw [Int.fmod_eq_emod_of_nonneg i (by omega)]; exact q)
theorem op_shl:OpR X (binaryOp .LShift) (rI CPow fun i j=> .int (i * 2^j.toNat)):=opI fun _ _ _ _ _ _ _ hc q=>lshift_int_small hc.1 hc.2.1 hc.2.2 q
theorem op_and:OpR X (binaryOp .BitAnd) (rI0 fun i j=> .int (Builtin.bitAnd i j)):=opI0 fun _ _ _ _ _ _ _ q=>and_int q
theorem op_or:OpR X (binaryOp .BitOr) (rI0 fun i j=> .int (Builtin.bitOr i j)):=opI0 fun _ _ _ _ _ _ _ q=>or_int q
theorem op_xor:OpR X (binaryOp .BitXor) (rI0 fun i j=> .int (Builtin.bitXor i j)):=opI0 fun _ _ _ _ _ _ _ q=>xor_int q
theorem unI {f:Value→Sem Value} {g:Int→Int}
  (rule:∀ (i:Int) (t:Tok) (s:Shared) (Q:Value→Shared→Prop) (E:Value→Shared→Prop),Q (.int (g i) s.toks) {s with toks:=s.toks+1}→wpAny (model X.prog X.w) X.A (f (.int i t)) Q E s):
  UnR X f (rU fun i=> .int (g i)):=by
 intro pins s σ H x v Q I rx h; obtain ⟨i,rfl,q⟩:=h; obtain ⟨t,rfl⟩:=rx; exact rule i t s _ _ ⟨.int (g i),H,I.tok _,⟨_,rfl⟩,q⟩
theorem un_neg:UnR X (unaryOp .USub) (rU fun i=> .int (-i)):=unI fun _ _ _ _ _ q=>neg_int q
end
noncomputable def scal:V→V→Bool
 | .non, .non=>true | .non, .int _=>true | .int _, .non=>true | .non, .bl _=>true | .bl _, .non=>true | .non, .str _=>true | .str _, .non=>true
 | .int _, .int _=>true | .bl _, .bl _=>true | .str _, .str _=>true | .byt _, .byt _=>true
 | .int _, .str _=>true | .str _, .int _=>true | .bl _, .str _=>true | .str _, .bl _=>true
 | _,_=>false
noncomputable def rEq:R2:=fun x y H Q=>scal x y=true∧Q (.bl (decide (x=y))) H
theorem vG {i j:Int}:decide (V.int i=V.int j)=(i==j):=by rw [dM]; simp
theorem dec_bl {i j:Bool}:decide (V.bl i=V.bl j)=(i==j):=by rw [dM]; simp
theorem dec_str {i j:Str}:decide (V.str i=V.str j)=(i==j):=by rw [dM]; simp
theorem dec_byt {i j:Array UInt8}:decide (V.byt i=V.byt j)=(i.toList==j.toList):=by rw [dM]; cases i; cases j; simp
section
variable {X:Cx} {a b c:Expr} {ta tb tc:TE} {pos:Pos}
theorem iW {pins:List (Addr × Obj)} {σ:St} {H:Hp} {s:Shared} {Q:VK} {k k':Bool} (I:Inv X pins σ H s) (q:Q (.bl k) H) (e:k=k'):EP X pins σ Q (.bool k') s:=by subst e; exact ⟨.bl k,H,I,rfl,q⟩
theorem op_eq:OpR X (compareOp .Eq) rEq:=by
 intro pins s σ H x y v u Q I rx ry h; obtain ⟨hs,q⟩:=h; cases x with
 | non=>
  cases rx; cases y with
  | non=>cases ry; exact PySem.EqNone.eq_none_none (iW I q (by simp))
  | bl j=>cases ry; exact PySem.EqNone.eq_none_bool (iW I q (by simp))
  | int j=>obtain ⟨t',rfl⟩:=ry; exact PySem.EqNone.eq_none_int (iW I q (by simp))
  | str j=>obtain ⟨t',rfl⟩:=ry; exact PySem.EqNone.eq_none_str (iW I q (by simp))
  | _=>exact absurd (show false=true from hs) bP
 | bl i=>
  cases rx; cases y with
  | non=>cases ry; exact PySem.EqNone.eq_bool_none (iW I q (by simp))
  | bl j=>cases ry; exact eq_bool (iW I q dec_bl)
  | str j=>obtain ⟨t',rfl⟩:=ry; exact PySem.EqMixed.eq_bool_str (iW I q (by simp))
  | _=>exact absurd (show false=true from hs) bP
 | int i=>
  obtain ⟨t,rfl⟩:=rx; cases y with
  | non=>cases ry; exact PySem.EqNone.eq_int_none (iW I q (by simp))
  | int j=>obtain ⟨t',rfl⟩:=ry; exact eq_int (iW I q vG)
  | str j=>obtain ⟨t',rfl⟩:=ry; exact PySem.EqMixed.eq_int_str (iW I q (by simp))
  | _=>exact absurd (show false=true from hs) bP
 | str i=>
  obtain ⟨t,rfl⟩:=rx; cases y with
  | non=>cases ry; exact PySem.EqNone.eq_str_none (iW I q (by simp))
  | bl j=>cases ry; exact PySem.EqMixed.eq_str_bool (iW I q (by simp))
  | int j=>obtain ⟨t',rfl⟩:=ry; exact PySem.EqMixed.eq_str_int (iW I q (by simp))
  | str j=>obtain ⟨t',rfl⟩:=ry; exact eq_str (iW I q dec_str)
  | _=>exact absurd (show false=true from hs) bP
 | byt i=>
  obtain ⟨t,rfl⟩:=rx; cases y with
  | byt j=>obtain ⟨t',rfl⟩:=ry; exact PySem.W.eq_bytes (iW I q dec_byt)
  | _=>exact absurd (show false=true from hs) bP
 | _=>cases y<;>exact absurd (show false=true from hs) bP
theorem op_lt:OpR X (compareOp .Lt) (rI0 fun i j=> .bl (decide (i<j))):=opB0 fun _ _ _ _ _ _ _ q=>lt_int q
theorem uB:OpR X (compareOp .LtE) (rI0 fun i j=> .bl (decide (i≤j))):=opB0 fun _ _ _ _ _ _ _ q=>le_int q
theorem op_gt:OpR X (compareOp .Gt) (rI0 fun i j=> .bl (decide (j<i))):=opB0 fun _ _ _ _ _ _ _ q=>gt_int q
theorem op_ge:OpR X (compareOp .GtE) (rI0 fun i j=> .bl (decide (j≤i))):=opB0 fun _ _ _ _ _ _ _ q=>ge_int q
theorem op_isN:OpR X (compareOp .Is) (fun x y H Q=>y= .non∧Q (.bl (decide (x= .non))) H):=by
 intro pins s σ H x y v u Q I rx ry h; obtain ⟨rfl,q⟩:=h; cases ry; refine is_none_gen (iW I q ?_)
 cases x<;>first
  | (cases rx; rfl)
  | (obtain ⟨t,rfl⟩:=rx; rfl)
theorem OpR.or {f:Value→Value→Sem Value} {r r':R2} (h:OpR X f r) (h':OpR X f r'):OpR X f (fun x y H Q=>r x y H Q∨r' x y H Q):=by
 intro pins s σ H x y v u Q I rx ry q
 rcases q with q | q
 ·exact h pins s σ H x y v u Q I rx ry q
 ·exact h' pins s σ H x y v u Q I rx ry q
theorem gS (b:Expr) {op:CmpOp} (h:op≠ .In:=by decide) (h2:op≠ .NotIn:=by decide):behindInMarks op b=false:=by
 have e1:(op==CmpOp.In)=false:=by cases op<;>first | rfl | exact absurd rfl h
 have e2:(op==CmpOp.NotIn)=false:=by cases op<;>first | rfl | exact absurd rfl h2
 cases b<;>simp [behindInMarks,e1,e2]
theorem pe_cmpR {op:CmpOp} {r:R2} (ho:OpR X (compareOp op) r) (ha:PE X a ta) (hb:PE X b tb) (hm:behindInMarks op b=false):PE X (.Compare a [op] [b] pos) (tOp r ta tb):=by intro pins s σ H Q I h; exact wpAny_Compare1 (binT ha hb I h fun v u s2 x y H2 I2 rx ry q=>ho pins s2 σ H2 x y v u Q I2 rx ry q) hm
noncomputable def tTest (t:TE):TT:=fun σ H Q=>t σ H fun x H'=>∃k,x= .bl k∧Q k H'
theorem qR {op:CmpOp} {r:R2} (ho:OpR X (compareOp op) r) (ha:PE X a ta) (hb:PE X b tb) (hm:behindInMarks op b=false):PT X (.Compare a [op] [b] pos) (tTest (tOp r ta tb)):=by
 intro pins s σ H Q I h
 refine wpAny_isTrue_Compare1 (thn (ha pins s σ H _ I h) fun v s1 ⟨x,H1,I1,r1,q1⟩=>thn (hb pins s1 σ H1 _ I1 q1) fun u s2 ⟨y,H2,I2,r2,q2⟩=>thn (ho pins s2 σ H2 x y v u _ I2 r1 r2 q2) fun c s3 ⟨z,H3,I3,r3,k,e,q3⟩=> ?_) hm
 subst e; cases r3; exact wpAny_truthy_bool ⟨H3,I3,q3⟩
noncomputable def tChain (r r':R2) (ta tb tc:TE):TE:=fun σ H Q=>ta σ H fun x H1=>tb σ H1 fun y H2=>r x y H2 fun z H3=>∃k,z= .bl k∧
 (if k=true then tc σ H3 fun w' H4=>r' y w' H4 Q else Q (.bl false) H3)
theorem pe_chain {op op':CmpOp} {r r':R2} (ho:OpR X (compareOp op) r) (ho':OpR X (compareOp op') r') (ha:PE X a ta) (hb:PE X b tb) (hc:PE X c tc)
  (hm:lastMarks [op,op'] [b,c]=false:=by with_unfolding_all rfl):PE X (.Compare a [op,op'] [b,c] pos) (tChain r r' ta tb tc):=by
 intro pins s σ H Q I h
 refine Compare_chain (thn (ha pins s σ H _ I h) fun v s1 ⟨x,H1,I1,r1,q1⟩=>chain_link (thn (hb pins s1 σ H1 _ I1 q1) fun u s2 ⟨y,H2,I2,r2,q2⟩=>thn (ho pins s2 σ H2 x y v u _ I2 r1 r2 q2) fun d s3 ⟨z,H3,I3,r3,k,e,q3⟩=> ?_)) hm
 subst e; cases r3; refine wpAny_truthy_bool ?_; cases k with
 | false=>exact ite_ff ⟨.bl false,H3,I3,rfl,q3⟩
 | true=>exact ite_tt (chain_last (thn (hc pins s3 σ H3 _ I3 q3) fun w' s4 ⟨z',H4,I4,r4,q4⟩=>ho' pins s4 σ H4 y z' u w' Q I4 r2 r4 q4))
theorem zS:(sizeLine:Nat)<2^63:=by rw [sizeLine_eq]; decide
theorem pZ {x:V} {us:List Value} (r:Vals [x] us):∃u,us=[u]∧RelV x u:=by
 cases r with
 | cons r1 r2=>cases r2; exact ⟨_,rfl,r1⟩
theorem vals2 {x y:V} {us:List Value} (r:Vals [x,y] us):∃u w',us=[u,w']∧RelV x u∧RelV y w':=by
 cases r with
 | cons r1 r2=>
  cases r2 with
  | cons r3 r4=>cases r4; exact ⟨_,_,rfl,r1,r3⟩
end
structure ObjM (h:Heap) (x dx C:Addr) (mA:Str→Option Value):Prop where
 obj:h.get? x=some (qJ C dx)
 ns:h.Ns1 dx mA
 ne:dx≠x
theorem lookIn_ns {h:Heap} {dx:Addr} {mA:Str→Option Value} (n:h.Ns1 dx mA):∃od,h.get? dx=some od∧∀name,tG name od=some (mA name):=by
 obtain ⟨o,es,ep,ho,hd,hk,_,hm⟩:=n; refine ⟨o,ho,fun name=> ?_⟩; have e:=hm name; unfold nsFind findBy at e; rw [← Array.find?_toList] at e; unfold tG; rw [hd]; dsimp only
 split
 ·rename_i y q; rw [q] at e; exact congrArg some e
 ·rename_i q; rw [q] at e
  have a:es.toList.any (·.refKey)=false:=by rw [List.any_eq_false]; intro y hy; obtain ⟨z,t,hkey⟩:=hk y (Array.mem_toList_iff.mp hy); simp [DictEntry.refKey,hkey]
  have a':¬ es.toList.any (·.refKey)=true:=by rw [a]; exact bP
  rw [if_neg a']; exact congrArg some e
theorem ObjM.look {h:Heap} {x dx C:Addr} {mA:Str→Option Value} (I:ObjM h x dx C mA):∃od,PySem.W.InstAt h x (qJ C dx) C (some od)∧∀name,tG name od=some (mA name):=
 let ⟨od,ho,hl⟩:=lookIn_ns I.ns
 ⟨od,⟨I.obj,rfl,rfl,ho⟩,hl⟩
theorem RelO.some_of {v:V} {o:Option Value} (r:RelO (some v) o):∃u,o=some u∧RelV v u:=by
 cases o with
 | none=>exact (show False from r).elim
 | some u=>exact ⟨u,rfl,r⟩
section
variable {P:Program} {w:World} {H H':Hp} {h h':Heap} {a C dx:Addr} {fs fs':List (Str × V)}
theorem ins_get (hok:HOk P w H h) (e:H a=some (.ins C dx fs)):∃mA,ObjM h a dx C mA∧(∀f,RelO (fs.lookup f) (mA f))∧PySem.Within mA (fs.map (·.1))∧fs.length≤1000∧H dx=some (.own a):=by obtain ⟨d,z,ne,ob,mA,n,r,q⟩:=(show ObjOk P w H h a (.ins C dx fs) from hok a _ e); exact ⟨mA,⟨ob,n,ne⟩,r,q,z,d⟩
end
structure Cls (K:aD) (C:Addr):Prop where
 pg:PySem.W.plainGet K C Str.empty=true
 hd:PySem.W.hasDictIn K C=true
 po:PySem.W.plainOver K C=true
 sa:kT K (.ref C) "__setattr__"=some (some (.builtin "object.__setattr__"))
theorem Cls.get {K:aD} {C:Addr} (c:Cls K C) (f:Str):PySem.W.plainGet K C f=true:=c.pg
structure Con (K:aD) (C:Addr) (f:Str) (v:V) (u:Value):Prop where
 at_:kT K (.ref C) f=some (some u)
 rel:RelV v u
 get:PySem.W.specialIn K u "__get__"=some none
 cp:PySem.W.copiedNames.contains f=false
structure Meth (K:aD) (C:Addr) (m:Str) (f:Addr):Prop where
 at_:kT K (.ref C) m=some (some (.ref f))
 fn:PySem.W.isFn K (.ref f)=true
 kp:dE K (.ref f)=true
section
variable {X:Cx} {pins:List (Addr × Obj)} {σ:St} {H:Hp} {s:Shared} {A:Around} {E:Value→Shared→Prop} {Q:Value→Shared→Prop} {c:Value} {b:Bool}
inductive oR (K:aD) (H:Hp):V→Value→Prop where
 | non:oR K H .non (.type "NoneType")
 | bl (x:Bool):oR K H (.bl x) (.type "bool")
 | int (i:Int):oR K H (.int i) (.type "int")
 | str (x:Str):oR K H (.str x) (.type "str")
 | flt (x:UInt64):oR K H (.flt x) (.type "float")
 | lst {a:Addr} {xs:List V} (e:H a=some (.lst xs)):oR K H (.ref a) (.type "list")
 | frz {a:Addr} {o:Obj} {xs:List V} (e:H a=some (.frz o (.lst xs))):oR K H (.ref a) (.type "list")
 | tup {a:Addr} {xs:List V} (e:H a=some (.tup xs)):oR K H (.ref a) (.type "tuple")
 | dK {a:Addr} {kvs:List (Key × V)} (e:Rd H a (.dK kvs)):oR K H (.ref a) (.type "dict")
 | dT {a:Addr} {kvs:List (List Key × V)} (e:H a=some (.dT kvs)):oR K H (.ref a) (.type "dict")
 | ins {a C dx:Addr} {fs:List (Str × V)} (e:H a=some (.ins C dx fs)) (cl:Cls K C) (ha:kT K (.ref C) "__class__"=some (some (.builtin "object.__class__")))
   (hn:PySem.W.specialIn K (.builtin "object.__class__") "__get__"=some (some (.builtin "getset_descriptor.__get__"))) (htk:PySem.W.takesIn K (.builtin "object.__class__")=some true)
   (hm:PySem.W.mroIn K C (.type "object")=some true):oR K H (.ref a) (.ref C)
theorem isinst_ok {x:V} {u t:Value} (I:Inv X pins σ H s) (rx:RelV x u) (ty:oR X.K H x t) (e:eT X.K t c=some b) (h:∀tk,Q (.bool b) {s with toks:=tk}):
  wpAny (model X.prog X.w) A (call (.builtin "isinstance") [u,c]) Q E s:=by
 cases ty with
 | non=>cases (show u=Value.none from rx); exact dW PySem.W.kitx_none I.kIn True.intro e (fun z=>nomatch z) h
 | bl y=>cases (show u=Value.bool y from rx); exact dW PySem.W.kitx_bool I.kIn True.intro e (fun z=>nomatch z) h
 | int i=>obtain ⟨t,q⟩:=(show ∃t,u=Value.int i t from rx); cases q; exact dW PySem.W.kitx_int I.kIn True.intro e (fun z=>nomatch z) h
 | str y=>obtain ⟨t,q⟩:=(show ∃t,u=Value.str y t from rx); cases q; exact dW PySem.W.kitx_str I.kIn True.intro e (fun z=>nomatch z) h
 | flt y=>obtain ⟨t,q⟩:=(show ∃t,u=Value.float y t from rx); cases q; exact dW PySem.W.kitx_float I.kIn True.intro e (fun z=>nomatch z) h
 | @lst a xs ea=>cases (show u=Value.ref a from rx); obtain ⟨_,_,n,_,h1⟩:=(show ObjOk X.prog X.w H s.heap a (.lst xs) from I.hok a _ ea); exact dW PySem.W.kitx_list I.kIn ⟨_,h1,rfl⟩ e (fun z=>nomatch z) h
 | @frz a ob xs ea=>cases (show u=Value.ref a from rx); obtain ⟨_,_,_,n,_,h1⟩:=(show ObjOk X.prog X.w H s.heap a (.frz ob (.lst xs)) from I.hok a _ ea); exact dW PySem.W.kitx_list I.kIn ⟨_,h1,rfl⟩ e (fun z=>nomatch z) h
 | @tup a xs ea=>cases (show u=Value.ref a from rx); obtain ⟨_,_,_,p⟩:=(show ObjOk X.prog X.w H s.heap a (.tup xs) from I.hok a _ ea); obtain ⟨o,h1,h2,_⟩:=p; exact dW PySem.W.kitx_tuple I.kIn ⟨o,h1,h2⟩ e (fun z=>nomatch z) h
 | @dK a kvs ea=>cases (show u=Value.ref a from rx); obtain ⟨_,_,vs,_,p⟩:=(show ObjOk X.prog X.w H s.heap a (.dK kvs) from ea.ok I.hok); obtain ⟨o,es,ep,h1,h2,_⟩:=p; exact dW PySem.W.kitx_dict I.kIn ⟨o,h1,h2.1⟩ e (fun z=>nomatch z) h
 | @dT a kvs ea=>cases (show u=Value.ref a from rx); obtain ⟨_,_,xs,_,o,es,ep,h1,h2,_⟩:=(show ObjOk X.prog X.w H s.heap a (.dT kvs) from I.hok a _ ea); exact dW PySem.W.kitx_dict I.kIn ⟨o,h1,h2.1⟩ e (fun z=>nomatch z) h
 | @ins a C dx fs ea cl ha hn htk hm=>cases (show u=Value.ref a from rx); obtain ⟨mA,O,_⟩:=ins_get I.hok ea; obtain ⟨od,J,_⟩:=O.look; exact dW (PySem.W.kitx_own (cl.get _) cl.hd ha hn htk hm) I.kIn J e (fun z=>nomatch z) h
end
structure Room (k:Nat) (A:Around):Prop where
 hd:A.handled=none
 dp:A.depth+3 * k+5<recursionLimit
 un:A.units+16 * k+200<cLine
 gd:A.guards=some []
theorem Room.mono {j k:Nat} {A:Around} (r:Room k A) (h:j≤k):Room j A:=⟨r.hd,by have:=r.dp; omega,by have:=r.un; omega,r.gd⟩
theorem Room.deeper {k:Nat} {A:Around} (r:Room (k+1) A) (env:Env):Room k (A.deeper env):=
 ⟨r.hd,by have:=r.dp; show A.depth+1+3 * k+5<_; omega,by have:=r.un; show A.units+3+16 * k+200<_; omega,r.gd⟩
theorem Room.depth {k:Nat} {A:Around} (r:Room k A):A.depth<recursionLimit:=by have:=r.dp; omega
noncomputable def zG:TA:=fun _ H Q=>Q [] H
noncomputable def oM (ta:TE) (tr:TA):TA:=fun σ H Q=>ta σ H fun x H1=>tr σ H1 fun xs H2=>Q (x::xs) H2
section
variable {X:Cx} {e:Expr} {es:List Expr} {te:TE} {t:TA} {pos:Pos}
theorem pa_nil:PA X [] zG:=fun _ _ _ _ H Q I h=>Calls.spliced_nil ⟨[],H,I, .nil,h⟩
theorem jH (ha:PE X e te) (hr:PA X es t) (hs:starEach (e::es) X.env=(false,eval e X.env)::starEach es X.env:=by rfl):PA X (e::es) (oM te t):=by intro pos pins s σ H Q I h; rw [hs]; show wpAny _ _ (spliced ((false,eval e X.env)::backTo pos (starEach es X.env))) _ _ s; refine Calls.spliced_cons (thn (ha pins s σ H _ I h) fun u s1 ⟨x,H1,I1,r1,q1⟩=> ?_); exact thn (hr pos pins s1 σ H1 _ I1 q1) fun us s2 ⟨xs,H2,I2,r2,q2⟩=>⟨x::xs,H2,I2, .cons r1 r2,q2⟩
noncomputable def tTup (t:TA):TE:=fun σ H Q=>t σ H fun xs H1=>xs.length≤sizeLine∧∀p,H1 p=none→Q (.ref p) (upd H1 p (.tup xs))
noncomputable def tLst (t:TA):TE:=fun σ H Q=>t σ H fun xs H1=>xs.length≤sizeLine∧∀p,H1 p=none→Q (.ref p) (upd H1 p (.lst xs))
theorem pe_tup {x1} (h:PA X es t):PE X (.Tuple es x1 pos) (tTup t):=by intro pins s σ H Q I hq; refine wpAny_Tuple_spliced (thn (h pos pins s σ H _ I hq) fun us s1 ⟨xs,H1,I1,r,z,q⟩=>⟨by rw [← r.length]; exact z, ?_⟩); have hf:H1 s1.heap.objs.size=none:=I1.hok.fresh (aZ _); refine ⟨.ref s1.heap.objs.size,upd H1 s1.heap.objs.size (.tup xs),I1.laid (t':=s1.toks) (fun b u e=>aM _ e) (aZ _) ?_,rfl,q _ hf⟩; exact ⟨z,us,r,IsTupD.new _ _⟩
theorem pe_lst (h:PA X es t):PE X (.List es pos) (tLst t):=by intro pins s σ H Q I hq; refine wpAny_List_spliced (thn (h pos pins s σ H _ I hq) fun us s1 ⟨xs,H1,I1,r,z,q⟩=>⟨by rw [← r.length]; exact z, ?_⟩); have hf:H1 s1.heap.objs.size=none:=I1.hok.fresh (aZ _); refine ⟨.ref s1.heap.objs.size,upd H1 s1.heap.objs.size (.lst xs),I1.laid (t':=s1.toks) (fun b u e=>aM _ e) (aZ _) ?_,rfl,q _ hf⟩; exact ⟨z,us,0,r,bF _ rfl⟩
end
noncomputable abbrev Sp:=List V→Hp→VK→XK→Prop
noncomputable abbrev CXT:=List Env→Hp→Shared→XK→Value→Shared→Prop
structure Env0 (P:Program) (w:World) (K:aD) (mg:Str→Option Value) (base:Heap) (A:Around) (outer:List Env) (s:Shared) (H:Hp):Prop where
 frames:A.frames=some outer
 mod:Mod K mg base
 bs:∀b o,base.get? b=some o→s.heap.get? b=some o∧H b=none
 bsz:base.objs.size≤s.heap.objs.size
 funs:s.heap.FunFrames base outer
 frf:∀b∈frs outer,H b=none
 hok:HOk P w H s.heap
 bare:AllBare s.gens
noncomputable def CE (outer:List Env) (P:Program) (w:World) (H:Hp) (s:Shared) (Q:VK) (u:Value) (s':Shared):Prop:=
 ∃v H',s'.os=s.os∧AllBare s'.gens∧Un (frs outer) [] H H' s.heap s'.heap∧HOk P w H' s'.heap∧RelV v u∧Q v H'
noncomputable def CR (CX:CXT) (outer:List Env) (P:Program) (w:World) (H:Hp) (s:Shared) (Q:VK) (E:XK) (r:Result) (s':Shared):Prop:=
 match r with
 | .ok (.ret u)=>CE outer P w H s Q u s'
 | .ok _=>False
 | .error e=>CX outer H s E e s'
structure FnOk (P:Program) (w:World) (K:aD) (mg:Str→Option Value) (base:Heap) (CX:CXT) (k:Nat) (f:Addr) (fd:FuncData) (ps:List Str) (sp:Sp):Prop where
 len:∀vs H Q E,sp vs H Q E→vs.length=ps.length
 run:∀ (A:Around) (outer:List Env) (s:Shared) (H:Hp) (args:Args) (us:List Value) (vs:List V) (Q:VK) (E:XK),Room k A→Env0 P w K mg base A outer s H→BindsTo s fd args (ps.zip us)→Vals vs us→sp vs H Q E→
  codeAny (model P w) A (.call (.ref f) args) (CR CX outer P w H s Q E) s
section
variable {X:Cx} {pins:List (Addr × Obj)} {σ:St} {H:Hp} {s s':Shared}
theorem Inv.env0 (I:Inv X pins σ H s):Env0 X.prog X.w X.K X.mg X.base X.A X.stack s H:=
 ⟨I.ok.frames,I.ok.mod,I.bs,cA I.ok.bsz I.sz,I.stack,I.stkFree,I.hok,I.bare⟩
theorem Inv.after {Q:VK} {u:Value} (I:Inv X pins σ H s) (h:CE X.stack X.prog X.w H s Q u s'):EP X pins σ Q u s':=by obtain ⟨v,H',os,bare,un,hok,r,q⟩:=h; obtain ⟨hh,g,d,t,os'⟩:=s'; obtain rfl:os'=s.os:=os; exact ⟨v,H',I.call (h':=hh) (g':=g) (d':=d) (t':=t) (ch:=[]) un hok bare (fun b z=>absurd z (by simp)),r,q⟩
end
noncomputable def tCall (sp:Sp) (dvs:List V) (E:XK) (t:TA):TE:=fun σ H Q=>t σ H fun vs H1=>sp (vs++dvs) H1 Q E
noncomputable def Binds (K:aD) (fd:FuncData) (ps:List Str) (ds:List Value):Prop:=
 ∀ (s:Shared) (us:List Value),K.In s.heap→(us++ds).length=ps.length→BindsTo s fd ⟨us,[]⟩ (ps.zip (us++ds))
theorem Binds.all {K:aD} {fd:FuncData} {ps:List Str} (h:∀us:List Value,us.length=ps.length→bindArgs fd ⟨us,[]⟩=pure (ps.zip us)):Binds K fd ps []:=fun s us _ hl=>by rw [gL] at hl ⊢; exact .of_eq (h us hl)
noncomputable def Passes (CX:CXT) (X:Cx) (E:XK):Prop:=∀ (pins:List (Addr × Obj)) (σ:St) (H:Hp) (s:Shared) (e:Value) (s':Shared),Inv X pins σ H s→CX X.stack H s E e s'→X.xe e s'
section
variable {X:Cx} {CX:CXT} {k:Nat} {f C:Addr} {fd:FuncData} {ps:List Str} {sp:Sp} {dvs:List V} {ds:List Value} {E:XK} {x m:Str} {p pos apos:Pos} {e o:Expr} {es:List Expr} {ta:TE} {t:TA}
theorem run_fn {pins:List (Addr × Obj)} {σ:St} {H:Hp} {s:Shared} {Q:VK} {us:List Value} {vs:List V} (F:FnOk X.prog X.w X.K X.mg X.base CX k f fd ps sp) (hr:Room k X.A) (hb:Binds X.K fd ps ds) (hd:Vals dvs ds) (hx:Passes CX X E)
  (I:Inv X pins σ H s) (r:Vals vs us) (h:sp (vs++dvs) H Q E):wpAny (model X.prog X.w) X.A (call (.ref f) us) (EP X pins σ Q) X.xe s:=by
 have r2:Vals (vs++dvs) (us++ds):=r.append hd; have hl:(us++ds).length=ps.length:=by rw [← r2.length]; exact F.len _ _ _ _ h
 refine wpAny_call (codeAny_mono (F.run X.A X.stack s H ⟨us,[]⟩ (us++ds) (vs++dvs) Q E hr I.env0 (hb s us I.kIn hl) r2 h) fun r s' hq=> ?_); cases r with
 | error e=>exact hx pins σ H s e s' I hq
 | ok fl=>
  cases fl with
  | ret u=>exact I.after hq
  | next=>exact False.elim hq
  | brk=>exact False.elim hq
  | cont=>exact False.elim hq
theorem pe_call (F:FnOk X.prog X.w X.K X.mg X.base CX k f fd ps sp) (hr:Room k X.A) (hg:Gl X x) (hm:X.mg x=some (.ref f)) (hk:dE X.K (.ref f)=true) (hb:Binds X.K fd ps ds) (hd:Vals dvs ds) (hx:Passes CX X E)
  (ha:PA X (e::es) t) (hdb:(x==("__debug__":Str))=false:=by decide) (he:starEach (e::es) X.env=(false,eval e X.env)::starEach es X.env:=by rfl) (hpl:(backTo pos (starEach es X.env)).any (·.1)=false:=by rfl):
  PE X (.Call (.Name x p) (e::es) [] pos) (tCall sp dvs E t):=by
 intro pins s σ H Q I h; refine wpAny_Call_Name_kw (ld_glob I hg hm ?_ hdb); refine PySem.W.callWith_K (h₀:=X.base) I.ok.mod.kin hk (thn (ha pos pins s σ H _ I h) fun us s1 ⟨vs,H1,I1,r,q⟩=>⟨I1.kIn, ?_⟩) he hpl; exact run_fn F hr hb hd hx I1 r q
structure Mk (K:aD) (C f:Addr):Prop where
 makes:PySem.W.makesIn K C=true
 zH:kT K (.ref C) "__init__"=some (some (.ref f))
 fn:PySem.W.isFn K (.ref f)=true
 kp:dE K (.ref C)=true
end
section
variable {X:Cx} {CX:CXT} {k:Nat} {f C:Addr} {fd:FuncData} {ps ks:List Str} {sp:Sp} {E:XK} {x m:Str} {p pos apos kpos:Pos} {e o:Expr} {es:List Expr} {kws:List Keyword} {te ta:TE} {t tk:TA} {nm:Option Str}
structure KBinds (K:aD) (fd:FuncData) (ps ks:List Str) (g:List Value→List Value→List Value) (gV:List V→List V→List V):Prop where
 to:∀ (s:Shared) (us ws:List Value),K.In s.heap→(g us ws).length=ps.length→BindsTo s fd ⟨us,ks.zip ws⟩ (ps.zip (g us ws))
 rel:∀ {vs:List V} {us:List Value} {zs:List V} {ws:List Value},Vals vs us→Vals zs ws→Vals (gV vs zs) (g us ws)
variable {g:List Value→List Value→List Value} {gV:List V→List V→List V}
end
structure oW (N P:List Str) (sc:Scope):Prop where
 kind:sc.kind= .function
 co:sc.isCoroutine=false
 gen:sc.isGenerator=false
 nd:N.Nodup
 pre:N.take P.length=P
 par:∀x∈P,sc.names.lookup x=some .local∨sc.names.lookup x=some .cell
 nofree:∀y∈sc.names,y.2≠ .free
theorem uE {kindOf:Str→Option NameKind} {x:Str}:∀ {binds:List (Str × Value)} {m:Str→Option Value},(∀v,(x,v)∉binds)→bindL kindOf binds m x=m x
 | [],_,_=>rfl
 | (n,v)::r,m,h=>by
  unfold bindL; rw [uE fun w hw=>h w (aU _ hw)]
  split
  ·have:x≠n:=by rintro rfl; exact h v bB
   simp [this]
  ·rfl
theorem uS {kindOf:Str→Option NameKind} {x:Str}:∀ {binds:List (Str × Value)} {m:Str→Option Value},(∀v,(x,v)∉binds)→bindC kindOf binds m x=m x
 | [],_,_=>rfl
 | (n,v)::r,m,h=>by
  unfold bindC; rw [uS fun w hw=>h w (aU _ hw)]
  split
  ·rfl
  ·have:x≠n:=by rintro rfl; exact h v bB
   simp [this]
theorem uN {kindOf:Str→Option NameKind} {x:Str} {v:Value}:∀ {P:List Str} {vs:List Value} {i:Nat} {m:Str→Option Value},P.Nodup→P[i]? =some x→vs[i]? =some v→kindOf x=some .local→
  bindL kindOf (P.zip vs) m x=some v
 | [],_,_,_,_,h,_,_=>by simp at h
 | _::_,[],_,_,_,_,h,_=>by simp at h
 | p::P,w::vs,0,m,nd,h1,h2,hk=>by simp at h1 h2; subst h1; subst h2; show bindL kindOf ((p,w)::P.zip vs) m p=_; unfold bindL; rw [uE fun v hv=>(bW.mp nd).1 (tH hv).1,if_pos hk]; simp
 | p::P,w::vs,i+1,m,nd,h1,h2,hk=>by show bindL kindOf ((p,w)::P.zip vs) m x=_; unfold bindL; exact uN (i:=i) (bW.mp nd).2 (by simpa using h1) (by simpa using h2) hk
theorem tZ {kindOf:Str→Option NameKind} {x:Str} {v:Value}:∀ {P:List Str} {vs:List Value} {i:Nat} {m:Str→Option Value},P.Nodup→P[i]? =some x→vs[i]? =some v→kindOf x≠some .local→
  bindC kindOf (P.zip vs) m x=some v
 | [],_,_,_,_,h,_,_=>by simp at h
 | _::_,[],_,_,_,_,h,_=>by simp at h
 | p::P,w::vs,0,m,nd,h1,h2,hk=>by simp at h1 h2; subst h1; subst h2; show bindC kindOf ((p,w)::P.zip vs) m p=_; unfold bindC; rw [uS fun v hv=>(bW.mp nd).1 (tH hv).1,if_neg hk]; simp
 | p::P,w::vs,i+1,m,nd,h1,h2,hk=>by show bindC kindOf ((p,w)::P.zip vs) m x=_; unfold bindC; exact tZ (i:=i) (bW.mp nd).2 (by simpa using h1) (by simpa using h2) hk
noncomputable def start (N:List Str) (vs:List V):St:=vs.map some++gU (N.length - vs.length) none
noncomputable def hX (CX:CXT) (P:Program) (w:World) (K:aD) (mg:Str→Option Value) (base:Heap) (N:List Str) (qual:Str) (scope:Scope) (f:Addr) (cd:Value) (A:Around) (outer:List Env) (s:Shared) (H:Hp) (E:XK):Cx where
 prog:=P
 w:=w
 K:=K
 mg:=mg
 base:=base
 A:=A.deeper (envOfC qual scope s.heap.objs.size f cd)
 N:=N
 s₀:=s
 H₀:=H
 env:=envOfC qual scope s.heap.objs.size f cd
 outer:=outer
 stack:=envOfC qual scope s.heap.objs.size f cd::outer
 ex:=[]
 calm:=true
 fn:=fun _=>true
 pn:=[]
 xe:=fun e s'=>wpAny (model P w) (A.deeper (envOfC qual scope s.heap.objs.size f cd)) (leaving (envOfC qual scope s.heap.objs.size f cd) e) (fun _ s''=>CX outer H s E e s'') (fun e' s''=>CX outer H s E e' s'') s'
theorem yJ {sc:Scope} {n:Nat} {x:Str} (h:sc.names.lookup x=some .cell):∃c,(cellsFrom n sc.names []).lookup x=some c:=by have q:=wN sc.names n [] (.inl h); exact Option.isSome_iff_exists.mp q
theorem inv_start {CX:CXT} {P:Program} {w:World} {K:aD} {mg:Str→Option Value} {base:Heap} {N ps:List Str} {qual:Str} {scope:Scope} {f:Addr} {cd:Value} {A:Around} {outer:List Env} {s s1:Shared} {H:Hp} {E:XK} {us:List Value} {vs:List V}
  (S:oW N ps scope) (hd:A.handled=none) (e0:Env0 P w K mg base A outer s H) (hl:vs.length=ps.length) (r:Vals vs us)
  (x:InCallC s s.heap.objs.size (bindL (envOfC qual scope s.heap.objs.size f cd).kindOf (ps.zip us) fun _=>none) (cellsFrom (s.heap.objs.size+1) scope.names []) (bindC (envOfC qual scope s.heap.objs.size f cd).kindOf (ps.zip us) fun _=>none) s1):
  Inv (hX CX P w K mg base N qual scope f cd A outer s H E) [] (start N vs) H s1:=by
 have hpl:ps.length≤N.length:=by have:=congrArg List.length S.pre; rw [bH] at this; omega
 obtain ⟨h1,tk,rfl,hk⟩:=x.done; have noA:∀b:Addr,b∉(hX CX P w K mg base N qual scope f cd A outer s H E).ex:=fun b z=>absurd (show b∈([]:List Addr) from z) (by simp)
 refine ⟨⟨e0.mod,S.kind,rfl,rfl,aZ _,fun y z c h1 h2=> ?_,fun y hy=> ?_,fun y c _ h=> ?_,fun _=>hd,Around.frames_deeper e0.frames, .inr ⟨rfl,rfl⟩,fun b z=>absurd z (noA b),e0.bs,e0.bsz,fun b _ _=>noA b,fun b z=>absurd z (noA b),e0.funs,e0.frf⟩,
  rfl,e0.bare,Un.kept hk,⟨_,x.toInCall.ns,fun i y v h1 h2 h3=> ?_⟩,fun y c h=>⟨_,x.cell y c h⟩,e0.hok.fresh (aZ _),fun y c h=> ?_,fun p hp=>absurd (show p∈([]:List (Addr × Obj)) from hp) (by simp),e0.hok.kept hk, ?_⟩
 ·exact name_of_addr x.apart (PySem.mem_of_lookup h1) (PySem.mem_of_lookup h2)
 ·have hy:scope.names.lookup y=some .cell∨scope.names.lookup y=some .free:=hy
  rcases hy with hy | hy
  ·exact yJ hy
  ·exact absurd rfl (S.nofree _ (PySem.mem_of_lookup hy))
 ·exact eZ (x.above y c (PySem.mem_of_lookup h))
 ·have hi:i<vs.length:=by
   unfold start at h2
   by_cases hi:i<vs.length
   ·exact hi
   ·rw [iR (by simpa using hi)] at h2; rw [List.getElem?_replicate] at h2
    split at h2<;>cases h2
  have ha:vs[i]? =some v:=by
   unfold start at h2; rw [dU (by simpa using hi),aI] at h2; cases e:vs[i]? with
   | none=>rw [e] at h2; cases h2
   | some a=>rw [e] at h2; cases h2; rfl
  obtain ⟨u,hu,rv⟩:=r.get ha
  have hp:ps[i]? =some y:=by rw [← S.pre,List.getElem?_take_of_lt (by omega)]; exact h1
  have ndP:ps.Nodup:=by rw [← S.pre]; exact S.nd.sublist (List.take_sublist _ _)
  refine ⟨u,rv, ?_⟩
  rcases S.par y (aV hp) with k | k
  ·exact .inl ⟨k,uN ndP hp hu k⟩
  ·obtain ⟨c,e⟩:=yJ (n:=s.heap.objs.size+1) k; refine .inr ⟨.inl k,c,e, ?_⟩; have q:=x.cell y c e; rw [tZ ndP hp hu (by show scope.names.lookup y≠_; rw [k]; decide)] at q; exact q
 ·exact e0.hok.fresh (eZ (x.above y c (PySem.mem_of_lookup h)))
 ·unfold start; show _=N.length; rw [aN,aB,List.length_replicate]; omega
theorem fn_of {CX:CXT} {P:Program} {w:World} {K:aD} {mg:Str→Option Value} {base:Heap} {k:Nat} {f:Addr} {name qual:Str} {params:Arguments} {body:List Stmt} {scope:Scope} {dV kV doc pm cdv ct oc:Value} {an od:Option Addr}
  {osl:Array (Option Value)} {N ps:List Str} {sp:Sp} (lk:K.lookup f=some ⟨oc,od, .func (fY name qual params body scope dV kV doc pm an cdv ct),osl⟩) (hcd:jK K cdv qual=true) (S:oW N ps scope)
  (len:∀vs H Q E,sp vs H Q E→vs.length=ps.length)
  (hbody:∀ (A:Around) (outer:List Env) (s:Shared) (H:Hp) (vs:List V) (Q:VK) (E:XK),Room k (A.deeper (envOfC qual scope s.heap.objs.size f cdv))→sp vs H Q E→
   ∃t,PSs (hX CX P w K mg base N qual scope f cdv A outer s H E) body t∧t {nx:=fun _ H'=>Q .non H',rt:=Q} (start N vs) H):
  FnOk P w K mg base CX (k+1) f (fY name qual params body scope dV kV doc pm an cdv ct) ps sp:=by
 refine ⟨len,fun A outer s H args us vs Q E hr e0 hb r hsp=> ?_⟩; have hl:=len _ _ _ _ hsp; have KX:K.In s.heap:=e0.mod.kin.keeps fun b o e=>(e0.bs b o e).1
 have lim:s.heap.NoLimit:=e0.mod.nolimit.keeps fun b o e=>(e0.bs b o e).1
 have hkind:∀y∈ps.zip us,scope.names.lookup y.1=some .local∨(scope.names.lookup y.1=some .cell∧((cellsFrom (s.heap.objs.size+1) scope.names []).lookup y.1).isSome=true):=fun ⟨n,v⟩ hy=>by
  rcases S.par n (tH hy).1 with q | q
  ·exact .inl q
  ·exact .inr ⟨q,wN _ _ _ (.inl q)⟩
 refine codeAny_call_function hr.depth (KX _ _ lk) rfl S.co S.gen rfl (PySem.W.codeRec_of KX hcd) (hb _ _ _ _ ?_); refine wpAny_newFunctionEnv_cells S.kind hkind fun env he s1 x=> ?_
 subst he; refine ⟨lim.keeps x.toInCall.keep,codeAny_func ?_⟩; obtain ⟨t,ht,hq⟩:=hbody A outer s H vs Q E (hr.deeper _) hsp; have I:Inv (hX CX P w K mg base N qual scope f cdv A outer s H E) [] (start N vs) H s1:=inv_start S hr.hd e0 hl r x; refine wpAny_mono (ht [] s1 (start N vs) H _ I hq) (fun fl s' hs=> ?_) fun e s' hs=>hs
 have fin:∀ {σ':St} {H':Hp} {v:V} {u:Value},Inv (hX CX P w K mg base N qual scope f cdv A outer s H E) [] σ' H' s'→RelV v u→Q v H'→CE outer P w H s Q u s':=
  fun {σ' H' v u} J rv q=>⟨v,H',J.os,J.bare,J.base,J.hok,rv,q⟩
 cases fl with
 | ret u=>obtain ⟨v,σ',H',J,rv,q⟩:=hs; exact fin J rv q
 | next=>obtain ⟨σ',H',J,q⟩:=hs; exact fin (v:=V.non) (u:=Value.none) J rfl q
 | brk=>obtain ⟨_,_,_,q⟩:=hs; exact False.elim q
 | cont=>obtain ⟨_,_,_,q⟩:=hs; exact False.elim q
section
variable {X:Cx} {x:Str} {p pos:Pos} {e:Expr} {es:List Expr} {t:TA} {id T:String} {r:List V→Hp→VK→Prop}
noncomputable def tCB (r:List V→Hp→VK→Prop) (t:TA):TE:=fun σ H Q=>t σ H fun vs H1=>r vs H1 Q
theorem xN (hc:mO X (.builtin id) r) (hg:Gl X x) (hm:X.mg x=none) (hv:bootBuiltins x=some (.builtin id)) (ha:PA X (e::es) t) (hn:x≠"__name__":=by decide) (hdb:(x==("__debug__":Str))=false:=by decide)
  (he:starEach (e::es) X.env=(false,eval e X.env)::starEach es X.env:=by rfl) (hpl:(backTo pos (starEach es X.env)).any (·.1)=false:=by rfl):PE X (.Call (.Name x p) (e::es) [] pos) (tCB r t):=by
 intro pins s σ H Q I h; refine wpAny_Call_Name_kw (pO I hg hm hv ?_ hn hdb); exact PyProof.Rows.callWith_builtin1 (thn (ha pos pins s σ H _ I h) fun us s1 ⟨vs,H1,I1,r1,q1⟩=>hc pins s1 σ H1 vs us Q I1 r1 q1) he hpl
theorem pe_callTy (hc:mO X (.type T) r) (hg:Gl X x) (hm:X.mg x=none) (hv:bootBuiltins x=some (.type T)) (ha:PA X (e::es) t) (hn:x≠"__name__":=by decide) (hdb:(x==("__debug__":Str))=false:=by decide)
  (he:starEach (e::es) X.env=(false,eval e X.env)::starEach es X.env:=by rfl) (hpl:(backTo pos (starEach es X.env)).any (·.1)=false:=by rfl):PE X (.Call (.Name x p) (e::es) [] pos) (tCB r t):=by
 intro pins s σ H Q I h; refine wpAny_Call_Name_kw (pO I hg hm hv ?_ hn hdb); exact PyProof.Rows.callWith_type1 (thn (ha pos pins s σ H _ I h) fun us s1 ⟨vs,H1,I1,r1,q1⟩=>hc pins s1 σ H1 vs us Q I1 r1 q1) he hpl
end
end L2
namespace HT
open PySem PyProof.Rows
noncomputable def lexLt:List Int→List Int→Bool
 | [],[]=>false
 | [],_::_=>true
 | _::_,[]=>false
 | x::xs,y::ys=>if x=y then lexLt xs ys else decide (x<y)
section
open PySem.SeqAt
open PySem.AutoSeq1 (wpAny_loadPart')
open PySem.MeetsSeq PySem.MeetsSeq2 PySem.MeetsSeq3
end
section
variable {prog:Program} {w:World} {A:Around} {E:Value→Shared→Prop} {s:Shared}
theorem cat_tup {t b:Addr} {vs ws:List Value} {Q:Value→Shared→Prop} (ht:IsTup s.heap t vs.toArray) (hb:IsTup s.heap b ws.toArray) (hv:vs≠[])
  (h1:ws=[]→Q (.ref t) s) (h2:ws≠[]→Q (.ref s.heap.objs.size) {s with heap:=s.heap.push {cls:= .type "tuple",data:= .seq (vs++ws).toArray}})
  (hsz:vs.length+ws.length≤sizeLine):wpAny (model prog w) A (binaryOp .Add (.ref t) (.ref b)) Q E s:=by
 obtain ⟨⟨cls,dd,data,sl⟩,ho,hc,n,hd⟩:=id ht; obtain ⟨⟨cls2,dd2,data2,sl2⟩,ho2,hc2,n2,hd2⟩:=id hb; simp only at hc hd hc2 hd2; subst hc hd hc2 hd2; have e:vs.toArray++ws.toArray=(vs++ws).toArray:=by simp
 by_cases hw:ws=[]
 ·exact concat_meets ⟨_,ho,rfl⟩ ⟨_,ho2,rfl⟩ noFill_tuple_add seq_tuple_add mJ lS (lE _ _)
   (tuple_addW1 t b vs.toArray ws.toArray n n2 dd dd2 sl sl2 (by simpa using hv) (by simp [hw])) ⟨ho,ho2,h1 hw⟩
 ·refine concat_meets ⟨_,ho,rfl⟩ ⟨_,ho2,rfl⟩ noFill_tuple_add seq_tuple_add mJ lS (lE _ _)
   (tuple_addW2 t b vs.toArray ws.toArray n n2 dd dd2 sl sl2 (by simpa using hv) (by simpa using hw) (by rw [aK,aK]; exact hsz)) ⟨ho,ho2, ?_⟩
  rw [e]; exact h2 hw
noncomputable def sIx (n d:Nat):Option Int→Nat
 | none=>d
 | some v=>if v<0 then (v+(n:Int)).toNat else min v.toNat n
theorem sIx_none (n d:Nat):sIx n d none=d:=rfl
theorem sIx_nat (n d k:Nat):sIx n d (some (k:Int))=min k n:=by show (if (k:Int)<0 then ((k:Int)+(n:Int)).toNat else min (k:Int).toNat n)=min k n; rw [if_neg (by omega),fE]
theorem sIx_le (n d:Nat) (hd:d≤n) (o:Option Int):sIx n d o≤n:=by
 cases o with
 | none=>exact hd
 | some v=>
  show (if v<0 then (v+(n:Int)).toNat else min v.toNat n)≤n
  by_cases hv:v<0
  ·rw [if_pos hv]; omega
  ·rw [if_neg hv]; exact Nat.min_le_right _ _
theorem clip_eq (v:Int) (n d:Nat):(if v<0 then max (v+(n:Int)) 0 else min v (n:Int))=((sIx n d (some v):Nat):Int):=by
 show (if v<0 then max (v+(n:Int)) 0 else min v (n:Int))=(((if v<0 then (v+(n:Int)).toNat else min v.toNat n):Nat):Int)
 by_cases hv:v<0
 ·simp only [if_pos hv]; omega
 ·simp only [if_neg hv]; omega
theorem adjust_gen (lo hi:Option Int) (n:Nat):Builtin.Slice.sliceAdjust lo hi 1 (n:Int)=(((sIx n 0 lo:Nat):Int),((sIx n n hi:Nat):Int)):=by
 have h1:¬ ((1:Int)<0):=by omega
 unfold Builtin.Slice.sliceAdjust; simp only [h1,if_false]; refine Prod.ext ?_ ?_
 ·cases lo with
  | none=>rfl
  | some v=>exact clip_eq v n 0
 ·cases hi with
  | none=>rfl
  | some v=>exact clip_eq v n n
theorem places_gen (i j:Nat):Builtin.Slice.slicePlaces (i:Int) (j:Int) 1=j - i:=by
 unfold Builtin.Slice.slicePlaces; have h1:(1:Int)>0:=by omega
 simp only [h1,if_true,Int.ediv_one]
 split<;>omega
theorem rQ {v:Value} {o:Option Int} {Q:Option Int→Shared→Prop} (p:IsPart v o) (h:Q o s):wpAny (model prog w) A (Builtin.Slice.slicePartIndex v) Q E s:=by
 cases p with
 | none=>exact slicePart_none h
 | int i t=>exact slicePart_int h
theorem pF {sl:Addr} {vl vu:Value} {lo hi:Option Int} {n:Nat} {Q:Int × Int × Nat→Shared→Prop} (hs:s.heap.IsSliceOf sl vl vu .none) (pl:IsPart vl lo) (pu:IsPart vu hi)
  (h:Q (((sIx n 0 lo:Nat):Int),1,sIx n n hi - sIx n 0 lo) s):wpAny (model prog w) A (Builtin.Slice.sliceApplied (.ref sl) (pure (n:Int))) Q E s:=by
 obtain ⟨os,hos,hcs,hds⟩:=id hs; unfold Builtin.Slice.sliceApplied Builtin.Slice.sliceFields; refine wpAny_bind (wpAny_bind (wpAny_field hos hds (x:=vl) rfl (wpAny_bind (wpAny_field hos hds (x:=vu) rfl (wpAny_bind (wpAny_field hos hds (x:= .none) rfl (wpAny_pure ?_))))))); refine wpAny_bind (slicePart_none ?_); show wpAny _ _ (if ((1:Int)==0)=true then _ else _) _ _ s; rw [if_neg (by decide)]; refine wpAny_bind (rQ pl (wpAny_bind (rQ pu (wpAny_bind (wpAny_pure ?_))))); show wpAny _ _ (match Builtin.Slice.sliceAdjust lo hi 1 (n:Int) with | (lo,hi)=>pure (lo,(1:Int),Builtin.Slice.slicePlaces lo hi 1)) _ _ s; rw [adjust_gen lo hi n]; show wpAny _ _ (pure (((sIx n 0 lo:Nat):Int),(1:Int),Builtin.Slice.slicePlaces ((sIx n 0 lo:Nat):Int) ((sIx n n hi:Nat):Int) 1)) _ _ s; rw [places_gen]; exact wpAny_pure h
theorem pick_gen (xs:Array Value) (i k:Nat):((bJ k).filterMap fun (m:Nat)=>xs[((i:Int)+(m:Int) * 1).toNat]?).toArray=((xs.toList.drop i).take k).toArray:=by
 have e:(fun (m:Nat)=>xs[((i:Int)+(m:Int) * 1).toNat]?)=fun m=>xs[i+m]? :=by
  funext m; have:((i:Int)+(m:Int) * 1).toNat=i+m:=by omega
  rw [this]
 rw [e]; have:=pick_run xs i k; rw [List.filterMap_map] at this; have e2:((fun x=>xs[x]?) ∘ fun x=>i+x)=fun m=>xs[i+m]? :=rfl
 rw [e2] at this; rw [this]
theorem getItem_tuple_cut {t sl:Addr} {items:Array Value} {vl vu:Value} {lo hi:Option Int} {Q:Value→Shared→Prop} (ht:IsTup s.heap t items) (hs:s.heap.IsSliceOf sl vl vu .none) (pl:IsPart vl lo) (pu:IsPart vu hi)
  (hw:¬ (sIx items.size 0 lo=0∧sIx items.size items.size hi=items.size))
  (h:Q (.ref s.heap.objs.size) {s with heap:=s.heap.push {cls:= .type "tuple",data:= .seq ((items.toList.drop (sIx items.size 0 lo)).take (sIx items.size items.size hi - sIx items.size 0 lo)).toArray}})
  (hsz:items.size≤sizeLine):wpAny (model prog w) A (getItem (.ref t) (.ref sl)) Q E s:=by
 have htake:sizeOk (.seq ((items.toList.drop (sIx items.size 0 lo)).take (sIx items.size items.size hi - sIx items.size 0 lo)).toArray):=by show ((items.toList.drop (sIx items.size 0 lo)).take (sIx items.size items.size hi - sIx items.size 0 lo)).toArray.size≤sizeLine; rw [aK,bH,cQ,fX]; omega
 have hj:sIx items.size items.size hi≤items.size:=sIx_le _ _ (aZ _) hi; obtain ⟨os,hos,hcs,hds⟩:=id hs; have hTs:s.TypeIs (.ref sl) "slice":=⟨os,hos,hcs⟩; unfold getItem
 try with_reducible refine wpAny_holding ?_
 first | refine wpAny_bind (wpAny_pure ?_) | skip
 refine wpAny_bind (wpAny_sequenceKey ht.typeIs (by decide) ?_)
 refine wpAny_bind (wpAny_callSpecial?_slot (name:=Str.ofString "__getitem__") ht.typeIs PyProof.Rows.slot_tuple_getitem
  (wpAny_call_entry PyProof.Rows.slot_tuple_getitem ht.typeIs entry_tuple_getitem ?_ (args_tuple_getitem _ _)))
 show wpAny _ _ (Builtin.Tuple.tupleItemsOf (.ref t)>>=_) _ _ s; refine wpAny_bind (tupleItemsOf_ ht ?_); refine wpAny_bind (wpAny_typeOf hTs ?_); rw [if_pos (by decide)]; refine wpAny_bind (pF hs pl pu ?_)
 have hno:¬ ((((sIx items.size 0 lo:Nat):Int)==0 && (1:Int)==1 && (sIx items.size items.size hi - sIx items.size 0 lo)==items.size)=true):=by intro q; rw [aP,aP] at q; have q1:((sIx items.size 0 lo:Nat):Int)=0:=eq_of_beq q.1.1; have q2:sIx items.size items.size hi - sIx items.size 0 lo=items.size:=eq_of_beq q.2; exact hw ⟨by omega,by omega⟩
 show wpAny _ _ (if (((sIx items.size 0 lo:Nat):Int)==0 && (1:Int)==1 && (sIx items.size items.size hi - sIx items.size 0 lo)==items.size)=true then _ else _) _ _ s; rw [if_neg hno,pick_gen]
 first
  | exact wpAny_bind (m:=Builtin.Tuple.tupleExact _) (wpAny_newObj_type (wpAny_pure ⟨_,rfl,wpAny_pure h⟩) htake)
  | exact wpAny_bind (m:=Builtin.Tuple.tupleExact _) (wpAny_newObj_type (wpAny_bind (wpAny_pure (wpAny_pure ⟨_,rfl,wpAny_pure h⟩))) htake)
  | exact wpAny_bind (wpAny_bind (m:=Builtin.Tuple.tupleExact _) (wpAny_newObj_type (wpAny_pure (wpAny_pure ⟨_,rfl,wpAny_pure h⟩)) htake))
  | exact wpAny_bind (wpAny_bind (m:=Builtin.Tuple.tupleExact _) (wpAny_newObj_type (wpAny_pure ⟨_,rfl,wpAny_pure h⟩) htake))
end
end HT
namespace L2
open PySem PySem.Spec PyProof.Rows
noncomputable abbrev TO:=St→Hp→(Option Int→Hp→Prop)→Prop
noncomputable def PO (X:Cx) (e:Option Expr) (t:TO):Prop:=
 ∀ (pins:List (Addr × Obj)) (s:Shared) (σ:St) (H:Hp) (Q:Option Int→Hp→Prop),Inv X pins σ H s→t σ H Q→
  wpAny (model X.prog X.w) X.A (evalPart e X.env) (fun u s'=>∃o H',Inv X pins σ H' s'∧IsPart u o∧Q o H') X.xe s
noncomputable def tNoPart:TO:=fun _ H Q=>Q none H
noncomputable def tPart (t:TE):TO:=fun σ H Q=>t σ H fun x H1=>∃i,x= .int i∧Q (some i) H1
section
variable {X:Cx} {e:Expr} {te:TE} {lo hi:Option Expr} {tl th:TO} {pos p2:Pos}
theorem po_none:PO X none tNoPart:=by intro pins s σ H Q I h; rw [evalPart_none]; exact wpAny_pure ⟨none,H,I, .none,h⟩
theorem po_some (h:PE X e te):PO X (some e) (tPart te):=by
 intro pins s σ H Q I hw; rw [evalPart_some]; refine thn (h pins s σ H _ I hw) fun u s1 ⟨x,H1,I1,r1,q1⟩=> ?_
 obtain ⟨i,rfl,q⟩:=q1; obtain ⟨t,rfl⟩:=r1; exact ⟨some i,H1,I1, .int i t,q⟩
noncomputable def SlR (X:Cx) (r:V→Option Int→Option Int→Hp→VK→Prop):Prop:=
 ∀ (pins:List (Addr × Obj)) (s:Shared) (σ:St) (H:Hp) (x:V) (v vl vu:Value) (lo hi:Option Int) (sl:Addr) (Q:VK),Inv X pins σ H s→RelV x v→s.heap.IsSliceOf sl vl vu .none→IsPart vl lo→IsPart vu hi→r x lo hi H Q→
  ∃T id,typeLookup (.type T) "__getitem__"=pure (some (.builtin id))∧s.TypeIs v T∧wpAny (model X.prog X.w) X.A (getItem v (.ref sl)) (EP X pins σ Q) X.xe s
noncomputable def tSl (r:V→Option Int→Option Int→Hp→VK→Prop) (te:TE) (tl th:TO):TE:=fun σ H Q=>te σ H fun x H1=>tl σ H1 fun l H2=>th σ H2 fun u H3=>r x l u H3 Q
theorem rN {r:V→Option Int→Option Int→Hp→VK→Prop} (hr:SlR X r) (he:PE X e te) (hl:PO X lo tl) (hu:PO X hi th):PE X (.Subscript e (.Slice lo hi none p2) pos) (tSl r te tl th):=by
 intro pins s σ H Q I h; refine Subscript_ (thn (he pins s σ H _ I h) fun v s1 ⟨x,H1,I1,r1,q1⟩=> ?_); refine wpAny_Slice (thn (hl pins s1 σ H1 _ I1 q1) fun vl s2 ⟨l,H2,I2,pl,q2⟩=>thn (hu pins s2 σ H2 _ I2 q2) fun vu s3 ⟨u,H3,I3,pu,q3⟩=> ?_); rw [evalPart_none]; refine wpAny_pure ?_; have I4:Inv X pins σ H3 {s3 with heap:=s3.heap.push {cls:= .type "slice",data:= .fields #[vl,vu, .none]}}:=I3.kept (t':=s3.toks) fun b ob q=>aM _ q
 obtain ⟨T,id,hT,ht,hg⟩:=hr pins {s3 with heap:=s3.heap.push {cls:= .type "slice",data:= .fields #[vl,vu, .none]}} σ H3 x v vl vu l u s3.heap.objs.size Q I4 r1 (Heap.IsSliceOf.new ..) pl pu q3; show wpAny (model X.prog X.w) X.A (subscriptTail e (.Slice lo hi none p2) v (.ref s3.heap.objs.size)) (EP X pins σ Q) X.xe {s3 with heap:=s3.heap.push {cls:= .type "slice",data:= .fields #[vl,vu, .none]}}; exact tail_any (ops:=[.ref s3.heap.objs.size,v]) ht hT hg (by with_unfolding_all rfl)
noncomputable def sJ (xs:List V) (lo hi:Option Int):List V:=(xs.drop (HT.sIx xs.length 0 lo)).take (HT.sIx xs.length xs.length hi - HT.sIx xs.length 0 lo)
theorem qB (xs:List V) (lo hi:Option Int):(sJ xs lo hi).length≤xs.length:=by unfold sJ; rw [bH,cQ]; omega
noncomputable def rSlT (K:aD):V→Option Int→Option Int→Hp→VK→Prop:=fun x lo hi H Q=>∃a xs,x= .ref a∧SqT K H a xs∧
 ¬ (HT.sIx xs.length 0 lo=0∧HT.sIx xs.length xs.length hi=xs.length)∧∀p,H p=none→Q (.ref p) (upd H p (.tup (sJ xs lo hi)))
theorem sl_tup:SlR X (rSlT X.K):=by
 intro pins s σ H x v vl vu lo hi sl Q I rx hs pl pu h; obtain ⟨a,xs,rfl,hx,hw,q⟩:=h; cases rx; obtain ⟨its,r,ht,hz⟩:=I.tuple hx; have hlen:its.toArray.size=xs.length:=by rw [aK]; exact r.length.symm
 refine ⟨"tuple",_,PyProof.Rows.slot_tuple_getitem.lookup,ht.typeIs, ?_⟩; refine HT.getItem_tuple_cut ht hs pl pu (by rw [hlen]; exact hw) ?_ (by rw [hlen]; exact hz); rw [hlen]; refine ⟨.ref s.heap.objs.size,_,I.laid (t':=s.toks) (o:= .tup (sJ xs lo hi)) (fun b ob q=>aM _ q) (aZ _) ?_,rfl,q _ (I.hok.fresh (aZ _))⟩; exact ⟨cA (qB xs lo hi) hz,_,(r.drop (HT.sIx xs.length 0 lo)).take (HT.sIx xs.length xs.length hi - HT.sIx xs.length 0 lo),IsTupD.new _ _⟩
noncomputable def rCatT (K:aD):R2:=fun x y H Q=>∃a b xs ys,x= .ref a∧y= .ref b∧SqT K H a xs∧SqT K H b ys∧xs≠[]∧xs.length+ys.length≤sizeLine∧
 (ys=[]→Q (.ref a) H)∧(ys≠[]→∀p,H p=none→Q (.ref p) (upd H p (.tup (xs++ys))))
theorem Vals.nil_iff {xs:List V} {us:List Value} (r:Vals xs us):us=[]↔xs=[]:=by
 cases r with
 | nil=>simp
 | cons _ _=>simp
theorem op_catT:OpR X (binaryOp .Add) (rCatT X.K):=by intro pins s σ H x y v u Q I rx ry h; obtain ⟨a,b,xs,ys,rfl,rfl,ha,hb,hx,hz,q1,q2⟩:=h; cases rx; cases ry; obtain ⟨its,r1,p1,_⟩:=I.tuple ha; obtain ⟨its2,r2,p2,_⟩:=I.tuple hb; refine HT.cat_tup p1 p2 (fun z=>hx (r1.nil_iff.mp z)) (fun z=>⟨.ref a,H,I,rfl,q1 (r2.nil_iff.mp z)⟩) (fun z=> ?_) (by rw [← r1.length,← r2.length]; exact hz); refine ⟨.ref s.heap.objs.size,_,I.laid (t':=s.toks) (o:= .tup (xs++ys)) (fun b ob q=>aM _ q) (aZ _) ?_,rfl,q2 (fun w=>z (r2.nil_iff.mpr w)) _ (I.hok.fresh (aZ _))⟩; exact ⟨by rw [aN]; exact hz,_,r1.append r2,IsTupD.new _ _⟩
end
noncomputable def ixN (n:Nat) (i:Int):Option Nat:=if 0≤i then (if i<n then some i.toNat else none) else if -(n:Int)≤i then some (i+n).toNat else none
noncomputable def atI {α:Type} (xs:List α) (i:Int):Option α:=(ixN xs.length i).bind fun j=>xs[j]?
theorem ixN_seq {n:Nat} {i:Int} {j:Nat} (h:ixN n i=some j):seqIndex? i n=some j∧j<n∧ -(n:Int)≤i∧i<n:=by
 unfold ixN at h
 by_cases h0:0≤i
 ·rw [if_pos h0] at h
  by_cases h1:i<n
  ·rw [if_pos h1] at h; have e:i.toNat=j:=cT.inj h; exact ⟨by rw [seqIndex_of h0 h1,e],by omega,by omega,h1⟩
  ·rw [if_neg h1] at h; cases h
 ·rw [if_neg h0] at h
  by_cases h1: -(n:Int)≤i
  ·rw [if_pos h1] at h; have e:(i+n).toNat=j:=cT.inj h; exact ⟨by rw [seqIndex_neg (by omega) h1,e],by omega,h1,by omega⟩
  ·rw [if_neg h1] at h; cases h
theorem atI_get {α:Type} {xs:List α} {i:Int} {v:α} (h:atI xs i=some v):∃j,seqIndex? i xs.length=some j∧xs[j]? =some v∧j<xs.length∧ -(xs.length:Int)≤i∧i<xs.length:=by
 unfold atI at h; cases e:ixN xs.length i with
 | none=>rw [e] at h; cases h
 | some j=>rw [e] at h; obtain ⟨h1,h2,h3,h4⟩:=ixN_seq e; exact ⟨j,h1,h,h2,h3,h4⟩
theorem vC {α:Type} {xs:List α} {j:Nat} {v:α} (h:xs[j]? =some v):atI xs (j:Int)=some v:=by
 have hj:j<xs.length:=(aH.mp h).1
 have e:ixN xs.length (j:Int)=some j:=by unfold ixN; rw [if_pos (by omega),if_pos (by omega)]; simp
 unfold atI; rw [e]; exact h
noncomputable def nH (b:Expr):Prop:=∀o i,subscripted b false o i=operate [o,i] (getItem o i)
noncomputable def IxR (X:Cx) (r:R2):Prop:=
 ∀ (value slice:Expr) (pins:List (Addr × Obj)) (s:Shared) (σ:St) (H:Hp) (x y:V) (v u:Value) (Q:VK),Inv X pins σ H s→RelV x v→RelV y u→r x y H Q→
  subscripted slice false v u=operate [v,u] (getItem v u)→wpAny (model X.prog X.w) X.A (subscriptTail value slice v u) (EP X pins σ Q) X.xe s
noncomputable def MtR (X:Cx) (id:String) (r:V→List V→Hp→VK→Prop):Prop:=
 ∀ (pins:List (Addr × Obj)) (s:Shared) (σ:St) (H:Hp) (x:V) (xs:List V) (v:Value) (us:List Value) (Q:VK),Inv X pins σ H s→RelV x v→Vals xs us→r x xs H Q→
  wpAny (model X.prog X.w) X.A (call (.builtin id) (v::us)) (EP X pins σ Q) X.xe s
section
variable {X:Cx} {a b:Expr} {ta tb:TE} {pos:Pos}
theorem pe_ix {r:R2} (hr:IxR X r) (ha:PE X a ta) (hb:PE X b tb) (hs:nH b):PE X (.Subscript a b pos) (tOp r ta tb):=by intro pins s σ H Q I h; exact Subscript_ (binT ha hb I h fun v u s2 x y H2 I2 rx ry q=>hr a b pins s2 σ H2 x y v u Q I2 rx ry q (hs _ _))
noncomputable def rIxL (K:aD):R2:=fun x y H Q=>∃p xs i v,x= .ref p∧y= .int i∧SqL K H p xs∧atI xs i=some v∧Q v H
noncomputable def rIxT (K:aD):R2:=fun x y H Q=>∃p xs i v,x= .ref p∧y= .int i∧SqT K H p xs∧atI xs i=some v∧Q v H
theorem ix_list:IxR X (rIxL X.K):=by
 intro value slice pins s σ H x y v u Q I rx ry h hs; obtain ⟨p,xs,i,z,rfl,rfl,hq,he,q⟩:=h; cases rx; obtain ⟨t,rfl⟩:=ry; obtain ⟨its,r,pl,hz⟩:=I.list hq; obtain ⟨j,h1,h2,h3,h4,h5⟩:=atI_get he; obtain ⟨w,ew,rw'⟩:=r.get h2; have hl:=r.length; have hn:=zS; have fin:EP X pins σ Q w s:=⟨z,H,I,rw',q⟩
 by_cases h0:0≤i
 ·have hj:i.toNat=j:=by rw [seqIndex_of h0 h5] at h1; exact cT.inj h1
  exact item_listR pl.isList h0 (by omega) (by rw [hj]; simpa using ew) fin hs
 ·have hj:(i+(its.toArray.size:Int)).toNat=j:=by rw [seqIndex_neg (by omega) h4] at h1; rw [aK,← hl]; exact cT.inj h1
  exact subscriptTail_builtinR (x:=w) pl.isList.typeIs slot_list_getitem.lookup
   (wpAny_getItem_list_neg (Q:=fun r s'=>r=w∧EP X pins σ Q r s') pl.isList (by omega) (by rw [aK]<;>omega) (by omega) (by rw [hj]; simpa using ew) ⟨rfl,fin⟩) hs
theorem ix_tup:IxR X (rIxT X.K):=by
 intro value slice pins s σ H x y v u Q I rx ry h hs; obtain ⟨p,xs,i,z,rfl,rfl,hq,he,q⟩:=h; cases rx; obtain ⟨t,rfl⟩:=ry; obtain ⟨its,r,pl,hz⟩:=I.tuple hq; obtain ⟨j,h1,h2,h3,h4,h5⟩:=atI_get he; obtain ⟨w,ew,rw'⟩:=r.get h2; have hl:=r.length; have hn:=zS; have fin:EP X pins σ Q w s:=⟨z,H,I,rw',q⟩
 exact subscriptTail_builtinR (x:=w) pl.typeIs slot_tuple_getitem.lookup
  (getItem_tuple (j:=j) (Q:=fun r s'=>r=w∧EP X pins σ Q r s') pl (by omega) (by omega) (by rw [aK,← hl]; exact h1) (by simpa using ew) ⟨rfl,fin⟩) hs
theorem wJ (lo hi:Option Int) (n:Nat):(sliceBounds lo hi none n).1=((HT.sIx n 0 lo:Nat):Int)∧(sliceBounds lo hi none n).2.1=((HT.sIx n n hi:Nat):Int)∧(sliceBounds lo hi none n).2.2=1:=by
 refine ⟨?_, ?_,rfl⟩
 ·cases lo with
  | none=>simp [sliceBounds,HT.sIx]
  | some i=>
   simp only [sliceBounds,HT.sIx,Option.getD_none,show (1:Int)>0 by decide,if_true]
   by_cases h:i<0
   ·simp only [h,if_true]<;>omega
   ·simp only [h,if_false]<;>omega
 ·cases hi with
  | none=>simp [sliceBounds,HT.sIx]
  | some i=>
   simp only [sliceBounds,HT.sIx,Option.getD_none,show (1:Int)>0 by decide,if_true]
   by_cases h:i<0
   ·simp only [h,if_true]<;>omega
   ·simp only [h,if_false]<;>omega
theorem tL (its:List Value) (lo hi:Option Int):slicePick its.toArray lo hi none=((its.drop (HT.sIx its.length 0 lo)).take (HT.sIx its.length its.length hi - HT.sIx its.length 0 lo)).toArray:=by obtain ⟨h1,h2,h3⟩:=wJ lo hi its.toArray.size; unfold slicePick; rw [h1,h2,h3]; simp only [sliceRange_one,pick_run,aK]<;>rfl
noncomputable def rSlL (K:aD):V→Option Int→Option Int→Hp→VK→Prop:=fun x lo hi H Q=>∃a xs,x= .ref a∧SqL K H a xs∧∀p,H p=none→Q (.ref p) (upd H p (.lst (sJ xs lo hi)))
theorem sl_list:SlR X (rSlL X.K):=by intro pins s σ H x v vl vu lo hi sl Q I rx hs pl pu h; obtain ⟨a,xs,rfl,hx,q⟩:=h; cases rx; obtain ⟨its,r,ht,hz⟩:=I.list hx; have hlen:=r.length; refine ⟨"list",_,slot_list_getitem.lookup,ht.isList.typeIs, ?_⟩; refine wpAny_getItem_list_slice ht.isList hs pl pu .none (by simp) ?_ (by rw [aK]<;>omega); rw [tL,← hlen]; refine ⟨.ref s.heap.objs.size,_,I.laid (t':=s.toks) (o:= .lst (sJ xs lo hi)) (fun b ob q=>aM _ q) (aZ _) ?_,rfl,q _ (I.hok.fresh (aZ _))⟩; exact ⟨cA (qB xs lo hi) hz,_,0,(r.drop (HT.sIx xs.length 0 lo)).take (HT.sIx xs.length xs.length hi - HT.sIx xs.length 0 lo),bF _ rfl⟩
noncomputable def mM:V→Bool
 | .non=>true
 | .bl _=>true
 | .int _=>true
 | .str _=>true
 | _=>false
noncomputable def eqV:V→V→Bool
 | .non, .non=>true
 | .bl a, .bl b=>a==b
 | .bl a, .int b=>(if a then 1 else 0)==b
 | .int a, .bl b=>a==(if b then 1 else 0)
 | .int a, .int b=>a==b
 | .str a, .str b=>a==b
 | _,_=>false
theorem qZ {A:Around} {s:Shared} {y x:V} {u v:Value} (ry:RelV y u) (rx:RelV x v) (fy:mM y=true) (fx:mM x=true):SeqAt.EqAt A s u v (eqV y x):=by
 cases y with
 | non=>
  cases ry; cases x with
  | non=>cases rx; exact SeqAt.EqAt.same _
  | bl b=>cases rx; exact SeqAt.EqAt.none_bool b
  | int b=>obtain ⟨t,rfl⟩:=rx; exact SeqAt.EqAt.none_int b t
  | str b=>obtain ⟨t,rfl⟩:=rx; exact SeqAt.EqAt.none_str b t
  | _=>exact absurd (show false=true from fx) bP
 | bl a=>
  cases ry; cases x with
  | non=>cases rx; exact SeqAt.EqAt.bool_none a
  | bl b=>cases rx; exact SeqAt.EqAt.bool_bool a b
  | int b=>obtain ⟨t,rfl⟩:=rx; exact SeqAt.EqAt.bool_int a b t
  | str b=>obtain ⟨t,rfl⟩:=rx; exact SeqAt.EqAt.bool_str a b t
  | _=>exact absurd (show false=true from fx) bP
 | int a=>
  obtain ⟨t',rfl⟩:=ry; cases x with
  | non=>cases rx; exact SeqAt.EqAt.int_none a t'
  | bl b=>cases rx; exact SeqAt.EqAt.int_bool a t' b
  | int b=>obtain ⟨t,rfl⟩:=rx; exact SeqAt.EqAt.int_int a t' b t
  | str b=>obtain ⟨t,rfl⟩:=rx; exact SeqAt.EqAt.int_str a t' b t
  | _=>exact absurd (show false=true from fx) bP
 | str a=>
  obtain ⟨t',rfl⟩:=ry; cases x with
  | non=>cases rx; exact SeqAt.EqAt.str_none a t'
  | bl b=>cases rx; exact SeqAt.EqAt.str_bool a t' b
  | int b=>obtain ⟨t,rfl⟩:=rx; exact SeqAt.EqAt.str_int a t' b t
  | str b=>obtain ⟨t,rfl⟩:=rx; exact SeqAt.EqAt.str_str a t' b t
  | _=>exact absurd (show false=true from fx) bP
 | _=>exact absurd (show false=true from fy) bP
noncomputable def eqU (x:V) (u:Value):Bool:=match u with
 | .none=>eqV .non x
 | .bool b=>eqV (.bl b) x
 | .int i _=>eqV (.int i) x
 | .str z _=>eqV (.str z) x
 | _=>false
theorem eqU_of {x y:V} {u:Value} (r:RelV y u) (f:mM y=true):eqU x u=eqV y x:=by
 cases y with
 | non=>cases r; rfl
 | bl b=>cases r; rfl
 | int i=>obtain ⟨t,rfl⟩:=r; rfl
 | str z=>obtain ⟨t,rfl⟩:=r; rfl
 | _=>exact absurd (show false=true from f) bP
theorem vA {x:V}:∀ {xs:List V} {us:List Value},Vals xs us→xs.all mM=true→us.any (eqU x)=xs.any fun y=>eqV y x
 | _,_, .nil,_=>rfl
 | y::xs,u::us, .cons r t,f=>by rw [List.all_cons,aP] at f; rw [jY,jY,eqU_of r f.1,vA t f.2]
theorem sM {A:Around} {s:Shared} {x:V} {v:Value} (rx:RelV x v) (fx:mM x=true):∀ {xs:List V} {us:List Value},Vals xs us→xs.all mM=true→∀u∈us,SeqAt.EqAt A s u v (eqU x u)
 | _,_, .nil,_=>fun u hu=>by cases hu
 | y::xs,u::us, .cons r t,f=>fun u' hu=>by
  rw [List.all_cons,aP] at f
  rcases cJ.mp hu with rfl | hu
  ·rw [eqU_of r f.1]; exact qZ r rx f.1 fx
  ·exact sM rx fx t f.2 u' hu
noncomputable def inV (x:V) (xs:List V):Bool:=xs.any fun y=>eqV y x
noncomputable def rIn (K:aD) (neg:Bool):R2:=fun x y H Q=>∃p xs,y= .ref p∧(SqL K H p xs∨SqT K H p xs)∧mM x=true∧xs.all mM=true∧Q (.bl (if neg then !inV x xs else inV x xs)) H
theorem op_in_seq:OpR X (compareOp .In) (rIn X.K false):=by
 intro pins s σ H x y v u Q I rx ry h; obtain ⟨p,xs,rfl,hq,fx,fs,q⟩:=h; cases ry
 rcases hq with hq | hq
 ·obtain ⟨its,r,pl,hz⟩:=I.list hq; refine SeqAt.in_listAt (eqU x) pl.isList (fun w hw=>sM rx fx r fs w (by simpa using hw)) ⟨.bl _,H,I,rfl, ?_⟩; rw [show its.toArray.any (eqU x)=its.any (eqU x) by simp,vA r fs]; exact q
 ·obtain ⟨its,r,pl,hz⟩:=I.tuple hq; refine SeqAt.in_tupleAt (eqU x) pl (fun w hw=>sM rx fx r fs w (by simpa using hw)) ⟨.bl _,H,I,rfl, ?_⟩; rw [show its.toArray.any (eqU x)=its.any (eqU x) by simp,vA r fs]; exact q
theorem mH:mO X (.builtin "len") (fun xs H Q=>∃p ys,xs=[.ref p]∧(SqL X.K H p ys∨SqT X.K H p ys)∧Q (.int ys.length) H):=by
 intro pins s σ H xs us Q I r h; obtain ⟨p,ys,rfl,hq,q⟩:=h; obtain ⟨u,rfl,rx⟩:=pZ r; cases rx; have hn:=zS
 rcases hq with hq | hq
 ·obtain ⟨its,r',pl,hz⟩:=I.list hq; have hlen:=r'.length; exact Calls.call_len_list pl.isList (by simp only [aK]<;>omega) ⟨.int ys.length,H,I.tok _,⟨s.toks+1,by rw [aK,hlen]⟩,q⟩
 ·obtain ⟨its,r',pl,hz⟩:=I.tuple hq; have hlen:=r'.length; exact len_tuple pl (by simp only [aK]<;>omega) ⟨.int ys.length,H,I.tok _,⟨s.toks+1,by rw [aK,hlen]⟩,q⟩
theorem vQ:mO X (.type "list") (fun xs H Q=>∃p ys,xs=[.ref p]∧(SqL X.K H p ys∨SqT X.K H p ys)∧∀l,H l=none→Q (.ref l) (upd H l (.lst ys))):=by
 intro pins s σ H xs us Q I r h; obtain ⟨p,ys,rfl,hq,q⟩:=h; obtain ⟨u,rfl,rx⟩:=pZ r; cases rx
 have fin:∀ (its:List Value),Vals ys its→ys.length≤sizeLine→∀ (h':Heap) (c':Nat),(∀b o',s.heap.get? b=some o'→h'.get? b=some o')→
   h'.get? s.heap.objs.size=some {cls:= .type "list",dict:=none,data:= .seq its.toArray c',slots:= #[]}→EP X pins σ Q (.ref s.heap.objs.size) {s with heap:=h'}:=fun its r' hz h' c' kp e=>
  ⟨.ref s.heap.objs.size,_,I.laid (t':=s.toks) kp (aZ _) (show ObjOk X.prog X.w _ h' _ (.lst ys) from ⟨hz,its,c',r',e⟩),rfl,q _ (I.hok.fresh (aZ _))⟩
 rcases hq with hq | hq
 ·obtain ⟨its,r',pl,hz⟩:=I.list hq; have hlen:=r'.length; obtain ⟨o,ho,hc,n,hd⟩:=pl.isList; exact call_list_seq p (.inl rfl) ho hc hd (fun h' c' kp e=>fin its r' hz h' c' kp e) (by simp only [aK]<;>omega)
 ·obtain ⟨its,r',pl,hz⟩:=I.tuple hq; have hlen:=r'.length; obtain ⟨o,ho,hc,n,hd⟩:=pl; exact call_list_seq p (.inr rfl) ho hc hd (fun h' c' kp e=>fin its r' hz h' c' kp e) (by simp only [aK]<;>omega)
theorem tQ:mO X (.type "tuple") (fun xs H Q=>∃p ys,xs=[.ref p]∧((SqL X.K H p ys∧∀l,H l=none→Q (.ref l) (upd H l (.tup ys)))∨(SqT X.K H p ys∧Q (.ref p) H))):=by
 intro pins s σ H xs us Q I r h; obtain ⟨p,ys,rfl,h⟩:=h; obtain ⟨u,rfl,rx⟩:=pZ r; cases rx
 rcases h with ⟨hq,q⟩ | ⟨hq,q⟩
 ·obtain ⟨its,r',pl,hz⟩:=I.list hq; have hlen:=r'.length; refine call_tuple_list pl.isList (fun h' kp=> ?_) (by simp only [aK]<;>omega); have I1:Inv X pins σ H {s with heap:=h'}:=I.kept (t':=s.toks) kp
  have I2:Inv X pins σ (upd H h'.objs.size (.tup ys)) {s with heap:=h'.push {cls:= .type "tuple",data:= .seq its.toArray}}:=
   I1.laid (t':=s.toks) (fun b o e=>aM _ e) (aZ _) (show ObjOk X.prog X.w _ _ _ (.tup ys) from ⟨hz,its,r',IsTupD.new _ _⟩)
  exact ⟨.ref h'.objs.size,_,I2,rfl,q _ (I1.hok.fresh (aZ _))⟩
 ·obtain ⟨its,r',pl,hz⟩:=I.tuple hq; exact call_tuple_same pl ⟨.ref p,H,I,rfl,q⟩
noncomputable def tyV (K:aD) (T:String) (x:V) (H:Hp):Prop:=match x with
 | .str _=>T="str"
 | .int _=>T="int"
 | .ref p=>(T="list"∧∃xs,SqL K H p xs)∨(T="tuple"∧∃o,K.lookup p=some o∧o.cls= .type "tuple"∧o.dict=none)∨
   (T="dict"∧((∃kvs,H p=some (.dK kvs))∨∃kvs,H p=some (.dT kvs)))∨(T="set"∧∃S n,H p=some (.set S n))
 | _=>False
theorem tyV_is {pins:List (Addr × Obj)} {σ:St} {H:Hp} {s:Shared} {T:String} {x:V} {v:Value} (I:Inv X pins σ H s) (r:RelV x v) (ty:tyV X.K T x H):
  s.TypeIs v T∧∀a,v= .ref a→∃ob,s.heap.get? a=some ob∧ob.dict=none:=by
 cases x with
 | str z=>obtain ⟨t,rfl⟩:=r; cases (show T="str" from ty); exact ⟨typeIs_str s z t,fun _ e=>nomatch e⟩
 | int i=>obtain ⟨t,rfl⟩:=r; cases (show T="int" from ty); exact ⟨typeIs_int s i t,fun _ e=>nomatch e⟩
 | ref p=>
  cases r
  rcases ty with ⟨rfl,xs,hq⟩ | ⟨rfl,o,hk,hc,hd⟩ | ⟨rfl,hk⟩ | ⟨rfl,S,n,hk⟩
  ·obtain ⟨its,_,pl,_⟩:=I.list hq; refine ⟨pl.isList.typeIs,fun a e=> ?_⟩; cases e; obtain ⟨o,n,e,c,hd,_⟩:=pl; exact ⟨o,e,hd⟩
  ·refine ⟨⟨o,I.kIn p o hk,hc⟩,fun a e=> ?_⟩; cases e; exact ⟨o,I.kIn _ o hk,hd⟩
  ·have z:∃o,s.heap.get? p=some o∧o.ExactDict:=by
    rcases hk with ⟨kvs,hk⟩ | ⟨kvs,hk⟩
    ·obtain ⟨_,_,_,_,o,_,_,e,ex,_⟩:=I.hok p _ hk; exact ⟨o,e,ex⟩
    ·obtain ⟨_,_,_,_,o,_,_,e,ex,_⟩:=I.hok p _ hk; exact ⟨o,e,ex⟩
   obtain ⟨o,e,ex⟩:=z; refine ⟨⟨o,e,ex.1⟩,fun a e2=> ?_⟩; cases e2; exact ⟨o,e,ex.2.1⟩
  ·obtain ⟨o,_,_,_,e,ex,_⟩:=I.hok p _ hk; refine ⟨⟨o,e,ex.1⟩,fun a e2=> ?_⟩; cases e2; exact ⟨o,e,ex.2.1⟩
 | _=>exact False.elim ty
noncomputable def tBM (K:aD) (T:String) (r:V→List V→Hp→VK→Prop) (to:TE) (t:TA):TE:=fun σ H Q=>to σ H fun x H1=>tyV K T x H1∧t σ H1 fun xs H2=>r x xs H2 Q
variable {o e:Expr} {es:List Expr} {to:TE} {t:TA} {name:Str} {apos cpos:Pos} {T id:String} {r:V→List V→Hp→VK→Prop}
theorem xC (pa:PlainAttrs T) (slot:Slot T name id) (hty:typeOf (.builtin id)=pure (.type "method_descriptor")) (hm:MtR X id r) (ho:PE X o to) (ha:PA X (e::es) t)
  (hbase:attributeBase o name X.env (eval o X.env)=eval o X.env:=by rfl)
  (hfew:((backTo cpos (starEach (e::es) X.env)).all (fun x=> !x.1) && (backToKw cpos (keywordEach [] X.env)).all (fun x=>x.1.isSome)
   && decide ((e::es).length+([]:List Keyword).length+(if ([]:List Keyword).isEmpty then 0 else 1)<30))=true:=by rfl)
  (hline:(apos.endLine==cpos.line)=true:=by rfl) (hs:starEach (e::es) X.env=(false,eval e X.env)::starEach es X.env:=by rfl) (hplain:(backTo cpos (starEach es X.env)).any (·.1)=false:=by rfl):
  PE X (.Call (.Attribute o name apos) (e::es) [] cpos) (tBM X.K T r to t):=by
 intro pins s σ H Q I h; refine wpAny_Call_method_late hbase hfew hline rfl (thn (ho pins s σ H _ I h) fun v s1 ⟨x,H1,I1,r1,ty,q1⟩=> ?_); obtain ⟨h1,h2⟩:=tyV_is I1 r1 ty; refine ⟨T,id,pa,slot,hty,h1,h2, ?_⟩; have hA:=ha cpos pins s1 σ H1 _ I1 q1; rw [hs] at hA ⊢; refine Calls.callWith_builtin (by show (false || (backTo cpos (starEach es X.env)).any (·.1))=false; rw [hplain]<;>rfl) (Calls.evalArgs_plain ?_); exact thn hA fun us s2 ⟨vs,H2,I2,r2,q2⟩=>hm pins s2 σ H2 x vs v us Q I2 r1 r2 q2
/- xs.append(e),list.index on a module's tuple .. are MtR facts of 06m -/
end
noncomputable def MtM (X:Cx) (id:String) (r:V→List V→Hp→VK→Prop):Prop:=
 ∀ (pins:List (Addr × Obj)) (s:Shared) (σ:St) (H:Hp) (x:V) (xs:List V) (v:Value) (us:List Value) (Q:VK),Inv X pins σ H s→RelV x v→Vals xs us→r x xs H Q→
  wpAny (model X.prog X.w) X.A (call (.builtin id) (v::us)) (EP X pins σ Q) X.xe s
theorem Vals.one:∀ {x:V} {us:List Value},Vals [x] us→∃u,us=[u]∧RelV x u
 | _,_, .cons r .nil=>⟨_,rfl,r⟩
section
variable {X:Cx} {pins:List (Addr × Obj)} {σ:St} {H:Hp} {s:Shared} {l b:Addr} {xs ys zs:List V}
theorem Inv.lset {its its':List Value} {n:Nat} {f:Array Value→Array Value} {t':Nat} (I:Inv X pins σ H s) (hH:H l=some (.lst xs))
  (e:s.heap.get? l=some {cls:= .type "list",data:= .seq its.toArray n}) (hf:f its.toArray=its'.toArray) (hv:Vals ys its') (hz:ys.length≤sizeLine):
  Inv X pins σ (upd H l (.lst ys)) {s with heap:=s.heap.update l (Obj.mapSeq f),toks:=t'}:=by
 have q:=PySem.IsL.update e f; rw [hf] at q; refine I.write (x:=l) (e:=l) (by rw [hH]; exact trivial) (.inl rfl) (fun b' u hb hu=>(Heap.get?_update_other s.heap (Obj.mapSeq f) (Ne.symm hb)).trans hu) ⟨_,q⟩ ?_; exact ⟨hz,its',_,hv,q⟩
theorem Inv.lnew {its:List Value} {t':Nat} (I:Inv X pins σ H s) (hv:Vals ys its) (hz:ys.length≤sizeLine):
  Inv X pins σ (upd H s.heap.objs.size (.lst ys)) {s with heap:=s.heap.push {cls:= .type "list",data:= .seq its.toArray},toks:=t'}:=
 I.laid (fun _ _ q=>aM _ q) (aZ _) ⟨hz,its,0,hv,bF _ rfl⟩
theorem Inv.fresh (I:Inv X pins σ H s):H s.heap.objs.size=none:=I.hok.fresh (aZ _)
theorem Inv.lstM (I:Inv X pins σ H s) (hH:H l=some (.lst xs)):xs.length≤sizeLine∧∃ (its:List Value) (n:Nat),Vals xs its∧xs.length=its.length∧s.heap.get? l=some {cls:= .type "list",data:= .seq its.toArray n}:=by obtain ⟨z,its,n,r,e⟩:=I.hok l _ hH; exact ⟨z,its,n,r,r.length,e⟩
theorem notLongL {n:Nat} (h:n≤sizeLine):Builtin.List.listTooLong n=false:=by unfold Builtin.List.listTooLong; exact decide_eq_false (by omega)
end
section
variable {X:Cx}
noncomputable def qP:V→List V→Hp→VK→Prop:=fun x vs H Q=>∃l xs y,x= .ref l∧vs=[y]∧H l=some (.lst xs)∧xs.length<sizeLine∧Q .non (upd H l (.lst (xs++[y])))
theorem uK:MtM X "list.append" qP:=by intro pins s σ H x vs v us Q I rx rv h; obtain ⟨l,xs,y,rfl,rfl,hH,hz,q⟩:=h; cases rx; obtain ⟨u,rfl,ru⟩:=rv.one; obtain ⟨z,its,n,r,hl,e⟩:=I.lstM hH; refine call_meets F.slot_list_append ⟨_,e,rfl⟩ F.entry_list_append (F.args_list_append_2 _ _) (PySem.list_append l its.toArray n u (by rw [aK]; omega)) ⟨e, ?_⟩; refine ⟨.non,_,I.lset (its':=its++[u]) hH e (by simp) (r.append (.cons ru .nil)) ?_,rfl,q⟩; rw [aN,List.length_singleton]; omega
noncomputable def rExtend:V→List V→Hp→VK→Prop:=fun x vs H Q=>∃l b xs zs,x= .ref l∧vs=[.ref b]∧H l=some (.lst xs)∧H b=some (.lst zs)∧xs.length+zs.length≤sizeLine∧Q .non (upd H l (.lst (xs++zs)))
theorem mt_extend:MtM X "list.extend" rExtend:=by
 intro pins s σ H x vs v us Q I rx rv h; obtain ⟨l,b,xs,zs,rfl,rfl,hH,hB,hz,q⟩:=h; cases rx; obtain ⟨u,rfl,ru⟩:=rv.one; cases ru; obtain ⟨z,its,n,r,hl,e⟩:=I.lstM hH; obtain ⟨z2,its2,n2,r2,hl2,e2⟩:=I.lstM hB; have hsz:its.toArray.size+its2.toArray.size≤sizeLine:=by rw [aK,aK]; omega
 have hlong:¬ (!its.toArray.isEmpty && Builtin.List.listTooLong (its.toArray.size+its2.toArray.size))=true:=by rw [notLongL hsz,uT]; exact bP
 refine call_meets F.slot_list_extend ⟨_,e,rfl⟩ F.entry_list_extend (F.args_list_extend_2 _ _)
  (AutoSeq1.list_extend_list_list_0 l its.toArray n b its2.toArray n2 hlong (by rw [aK]; omega) (by omega)) ⟨e,e2, ?_⟩
 refine ⟨.non,_,I.lset (its':=its++its2) hH e (by simp) (r.append r2) ?_,rfl,q⟩; rw [aN]; omega
noncomputable def rCat:R2:=fun x y H Q=>∃l b xs zs,x= .ref l∧y= .ref b∧H l=some (.lst xs)∧H b=some (.lst zs)∧xs.length+zs.length≤sizeLine∧∀p,H p=none→Q (.ref p) (upd H p (.lst (xs++zs)))
theorem op_cat:OpR X (binaryOp .Add) rCat:=by
 intro pins s σ H x y v u Q I rx ry h; obtain ⟨l,b,xs,zs,rfl,rfl,hH,hB,hz,q⟩:=h; cases rx; cases ry; obtain ⟨z,its,n,r,hl,e⟩:=I.lstM hH; obtain ⟨z2,its2,n2,r2,hl2,e2⟩:=I.lstM hB; refine PySem.P.add_list e e2 ?_ (by rw [aK,aK]; omega); have ea:its.toArray++its2.toArray=(its++its2).toArray:=by simp
 rw [ea]; exact ⟨.ref _,_,I.lnew (t':=s.toks) (r.append r2) (by rw [aN]; omega),rfl,q _ I.fresh⟩
end
section
variable {prog:Program} {w:World} {A:Around} {E:Value→Shared→Prop} {s:Shared}
set_option maxRecDepth 100000 in
end
section
variable {κ:Type} [DecidableEq κ]
noncomputable def gH (kvs:List (κ × V)) (k:κ):Option V:=(kvs.find? fun kv=>decide (kv.1=k)).map (·.2)
noncomputable def pW (kvs:List (κ × V)) (k:κ) (v:V):List (κ × V):=
 if (kvs.any fun kv=>decide (kv.1=k))=true then kvs.map (fun kv=>if kv.1=k then (kv.1,v) else kv) else kvs++[(k,v)]
theorem gY {p:κ × V} {r:List (κ × V)} {k:κ} (e:p.1=k):gH (p::r) k=some p.2:=by simp [gH,gM,e]
theorem gG {p:κ × V} {r:List (κ × V)} {k:κ} (e:¬ p.1=k):gH (p::r) k=gH r k:=by simp [gH,gM,e]
theorem rV (k:κ):∀kvs:List (κ × V),(kvs.any fun kv=>decide (kv.1=k))=(gH kvs k).isSome
 | []=>rfl
 | p::r=>by
  rw [jY]
  by_cases e:p.1=k
  ·simp only [gY e,decide_eq_true e,Bool.true_or,Option.isSome_some]
  ·rw [gG e,decide_eq_false e,iD]; exact rV k r
theorem lI (k j:κ) (y:V):∀kvs:List (κ × V),gH kvs k=none→gH (kvs++[(k,y)]) j=if j=k then some y else gH kvs j
 | [],_=>by
  by_cases e:k=j
  ·rw [if_pos e.symm]; exact gY (p:=(k,y)) e
  ·rw [if_neg (fun z=>e z.symm)]; exact gG (p:=(k,y)) e
 | p::r,hn=>by
  rw [List.cons_append]; have hk:¬ p.1=k:=fun z=>by rw [gY z] at hn; cases hn
  rw [gG hk] at hn; have ih:=lI k j y r hn
  by_cases e:p.1=j
  ·rw [gY e,gY e,if_neg (fun z=>hk (e.trans z))]
  ·rw [gG e,gG e,ih]
theorem qD (kvs:List (κ × V)) (k:κ) (v:V):(pW kvs k v).length≤kvs.length+1:=by
 unfold pW
 split
 ·rw [aB]; omega
 ·rw [aN,cR,hW]; omega
theorem wQ {kvs:List (κ × V)} {k:κ} (v:V) (h:gH kvs k=none):pW kvs k v=kvs++[(k,v)]:=by unfold pW; rw [rV,h]; exact if_neg (by decide)
theorem RelO.isSome_eq {o:Option V} {u:Option Value} (r:RelO o u):o.isSome=u.isSome:=by
 cases o with
 | none=>cases u with
  | none=>rfl
  | some _=>exact (show False from r).elim
 | some _=>cases u with
  | none=>exact (show False from r).elim
  | some _=>rfl
theorem RelO.getD {o:Option V} {u:Option Value} {d:V} {d':Value} (r:RelO o u) (rd:RelV d d'):RelV (o.getD d) (u.getD d'):=by
 cases o with
 | none=>cases u with
  | none=>exact rd
  | some _=>exact (show False from r).elim
 | some _=>cases u with
  | none=>exact (show False from r).elim
  | some _=>exact r
theorem KV.val {kvs:List (κ × V)} {vs:List (κ × Value)} (r:KV kvs vs) (k:κ):RelO (gH kvs k) (valueAt vs k):=by
 unfold KV at r
 induction r with
 | nil=>exact True.intro
 | @cons p q ps qs h t ih=>
  obtain ⟨h1,h2⟩:=h
  by_cases e:p.1=k
  ·have e':q.1=k:=h1.symm.trans e; have b:valueAt (q::qs) k=some q.2:=by simp [valueAt,gM,e']
   rw [gY e,b]; exact h2
  ·have e':¬ q.1=k:=fun z=>e (h1.trans z)
   have b:valueAt (q::qs) k=valueAt qs k:=by simp [valueAt,gM,e']
   rw [gG e,b]; exact ih
theorem KV.any {kvs:List (κ × V)} {vs:List (κ × Value)} (r:KV kvs vs) (k:κ):(kvs.any fun kv=>decide (kv.1=k))=vs.any fun kv=>decide (kv.1=k):=by
 unfold KV at r
 induction r with
 | nil=>rfl
 | cons h t ih=>rw [jY,jY,ih,h.1]
theorem KV.repl {kvs:List (κ × V)} {vs:List (κ × Value)} (r:KV kvs vs) (k:κ) {y:V} {u:Value} (ry:RelV y u):
  KV (kvs.map fun kv=>if kv.1=k then (kv.1,y) else kv) (vs.map fun kv=>if kv.1=k then (kv.1,u) else kv):=by
 unfold KV at r ⊢
 induction r with
 | nil=>exact .nil
 | @cons p q ps qs h t ih=>
  rw [bX,bX]; refine .cons ?_ ih; obtain ⟨h1,h2⟩:=h
  by_cases e:p.1=k
  ·rw [if_pos e,if_pos (h1.symm.trans e)]; exact ⟨h1,ry⟩
  ·rw [if_neg e,if_neg (fun z=>e (h1.trans z))]; exact ⟨h1,h2⟩
theorem KV.put {kvs:List (κ × V)} {vs:List (κ × Value)} (r:KV kvs vs) (k:κ) {y:V} {u:Value} (ry:RelV y u):KV (pW kvs k y) (stored vs k u):=by
 unfold pW stored; rw [r.any k]
 by_cases e:(vs.any fun kv=>decide (kv.1=k))=true
 ·rw [if_pos e,if_pos e]; exact r.repl k ry
 ·rw [if_neg e,if_neg e]; exact Paired.snoc r ⟨rfl,ry⟩
theorem KV.length {kvs:List (κ × V)} {vs:List (κ × Value)} (r:KV kvs vs):kvs.length=vs.length:=Paired.length r
end
theorem kV_is {P:Program} {w:World} {k:Key} {u:Value} (r:RelV (kV k) u):(fM P w).is k u=true:=by
 cases k with
 | inl i=>obtain ⟨t,e⟩:=(show ∃t,u=Value.int i t from r); subst e; exact yE P w i t
 | inr x=>obtain ⟨t,e⟩:=(show ∃t,u=Value.str x t from r); subst e; exact xP P w x t
theorem uA {P:Program} {w:World}:∀ {ks:List Key} {us:List Value},Vals (ks.map kV) us→ItemsAre (fM P w) ks us
 | [],_,r=>by rw [hG] at r; cases r; exact .nil
 | k::ks,_,r=>by
  rw [bX] at r; cases r with
  | cons h t=>exact .cons (kV_is h) (uA t)
noncomputable abbrev KT (H:Hp):List (List Key × V)→List (List Key × Addr × Value)→Prop:=Paired fun p q=>p.1=q.1∧H q.2.1=some (.tup (p.1.map kV))∧RelV p.2 q.2.2
theorem KT.val {H:Hp} {kvs:List (List Key × V)} {xs:List (List Key × Addr × Value)} (r:KT H kvs xs) (k:List Key):RelO (gH kvs k) ((atKey xs k).map (·.2)):=by
 induction r with
 | nil=>exact True.intro
 | @cons p q ps qs h t ih=>
  obtain ⟨h1,_,h2⟩:=h
  by_cases e:p.1=k
  ·have e':q.1=k:=h1.symm.trans e; have b:atKey (q::qs) k=some q.2:=by simp [atKey,gM,e']
   rw [gY e,b]; exact h2
  ·have e':¬ q.1=k:=fun z=>e (h1.trans z)
   have b:atKey (q::qs) k=atKey qs k:=by simp [atKey,gM,e']
   rw [gG e,b]; exact ih
theorem KT.repl {H:Hp} {kvs:List (List Key × V)} {xs:List (List Key × Addr × Value)} (r:KT H kvs xs) (k:List Key) {y:V} {u:Value} (ry:RelV y u):
  KT H (kvs.map fun kv=>if kv.1=k then (kv.1,y) else kv) (xs.map (putAt k u)):=by
 induction r with
 | nil=>exact .nil
 | @cons p q ps qs h t ih=>
  rw [bX,bX]; refine .cons ?_ ih; obtain ⟨h1,h2,h3⟩:=h; unfold putAt
  by_cases e:p.1=k
  ·rw [if_pos e,if_pos (h1.symm.trans e)]; exact ⟨h1,h2,ry⟩
  ·rw [if_neg e,if_neg (fun z=>e (h1.trans z))]; exact ⟨h1,h2,h3⟩
theorem KT.put {H:Hp} {kvs:List (List Key × V)} {xs:List (List Key × Addr × Value)} (r:KT H kvs xs) (k:List Key) {b:Addr} {y:V} {u:Value} (hb:H b=some (.tup (k.map kV))) (ry:RelV y u):
  KT H (pW kvs k y) (storedH xs k b u):=by
 have e:(kvs.any fun kv=>decide (kv.1=k))=(atKey xs k).isSome:=by rw [rV,(r.val k).isSome_eq,Option.isSome_map]
 unfold pW storedH; rw [e]
 by_cases q:(atKey xs k).isSome=true
 ·rw [if_pos q,if_pos q]; exact r.repl k ry
 ·rw [if_neg q,if_neg q]; exact Paired.snoc r ⟨rfl,hb,ry⟩
theorem KT.keeps {H H':Hp} {kvs:List (List Key × V)} {xs:List (List Key × Addr × Value)} (r:KT H kvs xs) (ht:∀b ys,H b=some (.tup ys)→H' b=some (.tup ys)):KT H' kvs xs:=
 Paired.mapP r fun _ _ z=>⟨z.1,ht _ _ z.2.1,z.2.2⟩
section
variable {P:Program} {w:World} {H:Hp} {h:Heap} {a:Addr}
theorem rd_of {u:HO} (ok:HOk P w H h) (e:Rd H a u):ObjOk P w H h a u:=e.ok ok
theorem dk_rd {kvs:List (Key × V)} (ok:HOk P w H h) (e:Rd H a (.dK kvs)):kvs.length≤sizeLine∧(a==sysModules)=false∧∃vs,KV kvs vs∧h.DictOf (fM P w) a vs:=
 show ObjOk P w H h a (.dK kvs) from rd_of ok e
theorem dk_of {kvs:List (Key × V)} (ok:HOk P w H h) (e:H a=some (.dK kvs)):kvs.length≤sizeLine∧(a==sysModules)=false∧∃vs,KV kvs vs∧h.DictOf (fM P w) a vs:=dk_rd ok (.inl e)
theorem tF {ks:List Key} (ok:HOk P w H h) (e:H a=some (.tup (ks.map kV))):(tupleKind (fM P w)).is h ks a:=by obtain ⟨_,its,r,o,h1,h2,⟨n,h3⟩,_⟩:=(show ObjOk P w H h a (.tup (ks.map kV)) from ok a _ e); exact ⟨o,its.toArray,n,h1,h2,h3,by simpa using uA r⟩
theorem dt_rd {kvs:List (List Key × V)} (ok:HOk P w H h) (e:Rd H a (.dT kvs)):kvs.length≤sizeLine∧(a==sysModules)=false∧
  ∃xs,KT H kvs xs∧h.DictOfH (tupleKind (fM P w)) a xs:=by
 obtain ⟨z,y,xs,r,o,es,ep,h1,h2,h3,h4,h5⟩:=(show ObjOk P w H h a (.dT kvs) from rd_of ok e); refine ⟨z,y,xs,r,o,es,ep,h1,h2,h3,h4,fun x hx=> ?_,h5⟩
 have all:∀ {l:List (List Key × V)} {m:List (List Key × Addr × Value)},KT H l m→∀x∈m,(tupleKind (fM P w)).is h x.1 x.2.1:=by
  intro l m q
  induction q with
  | nil=>intro x hx; exact nomatch hx
  | @cons p q ps qs hq t ih=>
   intro x hx
   rcases cJ.mp hx with e | hx
   ·subst e; exact tF ok (by rw [← hq.1]; exact hq.2.1)
   ·exact ih x hx
 exact all r x hx
theorem dt_of {kvs:List (List Key × V)} (ok:HOk P w H h) (e:H a=some (.dT kvs)):kvs.length≤sizeLine∧(a==sysModules)=false∧
  ∃xs,KT H kvs xs∧h.DictOfH (tupleKind (fM P w)) a xs:=dt_rd ok (.inl e)
end
noncomputable def DGet (H:Hp) (a:Addr) (y:V) (r:Option V):Prop:=
 (∃kvs k,Rd H a (.dK kvs)∧y=kV k∧r=gH kvs k)∨∃kvs k b,Rd H a (.dT kvs)∧y= .ref b∧H b=some (.tup (k.map kV))∧r=gH kvs k
noncomputable def DPut (H:Hp) (a:Addr) (y v:V) (H':Hp):Prop:=
 (∃kvs k,H a=some (.dK kvs)∧y=kV k∧kvs.length<sizeLine∧H'=upd H a (.dK (pW kvs k v)))∨
 ∃kvs k b,H a=some (.dT kvs)∧y= .ref b∧H b=some (.tup (k.map kV))∧kvs.length<sizeLine∧H'=upd H a (.dT (pW kvs k v))
theorem DGet.k {H:Hp} {a:Addr} {kvs:List (Key × V)} {k:Key} (e:H a=some (.dK kvs)):DGet H a (kV k) (gH kvs k):= .inl ⟨kvs,k, .inl e,rfl,rfl⟩
theorem DPut.k {H:Hp} {a:Addr} {kvs:List (Key × V)} {k:Key} {v:V} (e:H a=some (.dK kvs)) (hl:kvs.length<sizeLine):DPut H a (kV k) v (upd H a (.dK (pW kvs k v))):= .inl ⟨kvs,k,e,rfl,hl,rfl⟩
section
variable {X:Cx} {pins:List (Addr × Obj)} {σ:St} {H:Hp} {s:Shared} {a:Addr} {y v:V} {u r:Value} {o:Option V} {A:Around} {E:Value→Shared→Prop}
theorem Inv.big (I:Inv X pins σ H s):sysModules<s.heap.objs.size:=by have h:mainGlobals<s.heap.objs.size:=(I.mod.glob.keeps I.bk).lt; exact Nat.lt_trans (by decide) h
theorem qS {h':Heap} {t':Nat} {ob:HO} (I:Inv X pins σ H s) (mu:Mut (H a)) (hs:Heap.SameBut a s.heap h') (he:∃q,h'.get? a=some q) (new:ObjOk X.prog X.w (upd H a ob) h' a ob):
  Inv X pins σ (upd H a ob) {s with heap:=h',toks:=t'}:=
 I.write (x:=a) (e:=a) mu (.inl rfl) (fun b q hb z=>(hs.2 b hb).trans z) he new
theorem dk_new {P:Program} {w:World} {H':Hp} {h':Heap} {kvs:List (Key × V)} {vs:List (Key × Value)} (z:kvs.length≤sizeLine) (hd:(a==sysModules)=false) (rel:KV kvs vs) (dd:h'.DictOf (fM P w) a vs):
  ObjOk P w H' h' a (.dK kvs):=⟨z,hd,vs,rel,dd⟩
theorem d_setItem {H':Hp} {Q:Unit→Shared→Prop} (hu:A.units+1<cLine) (I:Inv X pins σ H s) (g:DPut H a y v H') (ry:RelV y u) (rv:RelV v r) (h:∀s',Inv X pins σ H' s'→Q () s'):
  wpAny (model X.prog X.w) A (setItem (.ref a) u r) Q E s:=by
 rcases g with ⟨kvs,k,e,ey,l,eH⟩ | ⟨kvs,k,b,e,ey,eb,l,eH⟩
 ·subst ey eH; obtain ⟨z,hd,vs,rel,dd⟩:=dk_of I.hok e; have hz:vs.length≤sizeLine:=by rw [← rel.length]; exact z
  have hl:(pW kvs k v).length≤sizeLine:=by have:=qD kvs k v; omega
  refine wpAny_setItem_pairs (hsz:=hz) (kV_is ry) dd fun h' dd' hs=>h _ ?_
  have he:∃q,h'.get? a=some q:=let ⟨q,_,_,hq,_⟩:=dd'; ⟨q,hq⟩
  exact qS I (by rw [e]; exact True.intro) hs he (dk_new hl hd (rel.put k rv) dd')
 ·subst ey eH; cases (show u=Value.ref b from ry); obtain ⟨z,hd,xs,rel,dd⟩:=dt_of I.hok e; have hz:xs.length≤sizeLine:=by rw [← Paired.length rel]; exact z
  have hl:(pW kvs k v).length≤sizeLine:=by have:=qD kvs k v; omega
  refine wpAny_setItem_heap (hsz:=hz) (tupleKind_room_in1 hu) (tF I.hok eb) dd fun h' dd' hs=>h _ ?_
  obtain ⟨q,es,ep,hq,h2,h3,h4,_,h5⟩:=dd'; refine qS I (by rw [e]; exact True.intro) hs ⟨q,hq⟩ ⟨hl,hd,_,(rel.put k eb rv).keeps fun c ys ec=> ?_,q,es,ep,hq,h2,h3,h4,h5⟩; rw [bM (ne_of ec e (fun z=>nomatch z))]; exact ec
end
noncomputable def NoSl (i:Expr):Prop:=∀ov iv,subscripted i false ov iv=operate [ov,iv] (getItem ov iv)
theorem subD_of {prog:Program} {w:World} {A:Around} {E:Value→Shared→Prop} {s:Shared} {env:Env} {value slice:Expr} {pos:Pos} {T id:String} {Q:Value→Shared→Prop}
  (hl:typeLookup (.type T) "__getitem__"=pure (some (.builtin id))) (hs:NoSl slice)
  (h:wpAny (model prog w) A (eval value env) (fun o s₁=>wpAny (model prog w) A (eval slice env) (fun i s₂=>s₂.TypeIs o T∧wpAny (model prog w) A (getItem o i) Q E s₂) E s₁) E s):
  wpAny (model prog w) A (eval (.Subscript value slice pos) env) Q E s:=by
 refine Subscript_ (wpAny_mono h (fun o s₁ h₁=>wpAny_mono h₁ (fun i s₂ h₂=> ?_) fun _ _ x=>x) fun _ _ x=>x); obtain ⟨hT,h₂⟩:=h₂; unfold subscriptTail; refine wpAny_bind ?_; rw [getitemInPython_of_ne hT.not_modules]; refine wpAny_bind (wpAny_specialOf hT hl ?_)
 have fin:wpAny (model prog w) A (subscripted slice false o i) (fun r s₃=>wpAny (model prog w) A (letTemporaryGo value o r>>=fun _=>pure r) Q E s₃) E s₂:=by rw [hs o i]; exact wpAny_operating (wpAny_mono h₂ (fun r s₃ h₃=>wpAny_bind (wpAny_letTemporaryGo (wpAny_pure h₃))) fun _ _ x=>x)
 first
  | exact wpAny_pure (wpAny_bind fin)
  | exact wpAny_bind (wpAny_pure (wpAny_bind fin))
  | exact wpAny_bind fin
noncomputable def sDPut (td ty tv:TE):TS:=fun D σ H=>tv σ H fun v H1=>td σ H1 fun x H2=>ty σ H2 fun y H3=>∃a H4,x= .ref a∧DPut H3 a y v H4∧D.nx σ H4
section
variable {X:Cx} {o i e value:Expr} {pos pos' tpos:Pos} {td ty tv:TE}
theorem ps_dput (hu:X.A.units+1<cLine) (ho:PE X o td) (hi:PE X i ty) (hv:PE X value tv) (hs:swapsWith value (some (.Subscript o i pos')) pos.line X.env=pure false):
  PS X (.Assign [.Subscript o i pos'] value pos) (sDPut td ty tv):=by
 intro pins s σ H D I h; refine wpAny_Assign_Subscript (thn (hv pins s σ H _ I h) fun r s1 ⟨v,H1,I1,rv,q1⟩=>thn (ho pins s1 σ H1 _ I1 q1) fun u s2 ⟨x,H2,I2,rx,q2⟩=>thn (hi pins s2 σ H2 _ I2 q2) fun iv s3 ⟨y,H3,I3,ry,a,H4,ex,g,q3⟩=> ?_) hs; subst ex; obtain rfl:u=Value.ref a:=rx; exact d_setItem hu I3 g ry rv fun s4 I4=>⟨σ,H4,I4,q3⟩
end
theorem dk_empty {P:Program} {w:World} {H:Hp} (h:Heap) (hb:sysModules<h.objs.size):ObjOk P w H (h.push {cls:= .type "dict",data:= .dict #[]}) h.objs.size (.dK []):=
 ⟨cW _,beq_eq_false_iff_ne.mpr (Ne.symm (cG hb)),[], .nil,Heap.DictOf.new h⟩
noncomputable def tDNewK:TE:=fun _ H Q=>∀p,H p=none→Q (.ref p) (upd H p (.dK []))
section
variable {X:Cx} {pos:Pos}
theorem pe_dnewK:PE X (.Dict [] [] pos) tDNewK:=fun pins s σ H Q I h=>wpAny_Dict_empty ⟨.ref s.heap.objs.size,_,I.laid (a:=s.heap.objs.size) (o:= .dK []) (t':=s.toks) (fun _ _ q=>aM _ q) (aZ _) (dk_empty s.heap I.big),rfl,h _ (I.hok.fresh (aZ _))⟩
end
noncomputable abbrev VV:List (V × V)→List (Value × Value)→Prop:=Paired fun p q=>RelV p.1 q.1∧RelV p.2 q.2
structure M1 (X:Cx) (o:Expr) (m:Str) (apos:Pos) (e:Expr) (cpos:Pos):Prop where
 base:attributeBase o m X.env (eval o X.env)=eval o X.env
 few:((backTo cpos (starEach [e] X.env)).all (fun x=> !x.1) && (backToKw cpos (keywordEach [] X.env)).all (fun x=>x.1.isSome)
  && decide (([e]:List Expr).length+([]:List Keyword).length+(if ([]:List Keyword).isEmpty then 0 else 1)<30))=true
 line:(apos.endLine==cpos.line)=true
 trees:backTo cpos (starEach [e] X.env)=[(false,eval e X.env)]
structure M2 (X:Cx) (o:Expr) (m:Str) (apos:Pos) (e f:Expr) (cpos:Pos):Prop where
 base:attributeBase o m X.env (eval o X.env)=eval o X.env
 few:((backTo cpos (starEach [e,f] X.env)).all (fun x=> !x.1) && (backToKw cpos (keywordEach [] X.env)).all (fun x=>x.1.isSome)
  && decide (([e,f]:List Expr).length+([]:List Keyword).length+(if ([]:List Keyword).isEmpty then 0 else 1)<30))=true
 line:(apos.endLine==cpos.line)=true
 trees:backTo cpos (starEach [e,f] X.env)=[(false,eval e X.env),(false,eval f X.env)]
noncomputable def IsD (H:Hp) (a:Addr):Prop:=(∃kvs,Rd H a (.dK kvs))∨∃kvs,Rd H a (.dT kvs)
theorem isD_at {X:Cx} {pins:List (Addr × Obj)} {σ:St} {H:Hp} {s:Shared} {a:Addr} (I:Inv X pins σ H s) (d:IsD H a):
  s.TypeIs (.ref a) "dict"∧(∀b,Value.ref a= .ref b→∃ob,s.heap.get? b=some ob∧ob.dict=none)∧(a==sysModules)=false:=by
 rcases d with ⟨kvs,e⟩ | ⟨kvs,e⟩
 ·obtain ⟨_,hd,vs,_,dd⟩:=dk_rd I.hok e; refine ⟨dd.typeIs,fun b q=> ?_,hd⟩; cases q; obtain ⟨ob,_,_,h1,h2,_⟩:=dd; exact ⟨ob,h1,h2.2.1⟩
 ·obtain ⟨_,hd,xs,_,dd⟩:=dt_rd I.hok e; refine ⟨dd.typeIs,fun b q=> ?_,hd⟩; cases q; obtain ⟨ob,_,_,h1,h2,_⟩:=dd; exact ⟨ob,h1,h2.2.1⟩
section
variable {X:Cx} {pins:List (Addr × Obj)} {σ:St} {H:Hp} {s:Shared} {a:Addr} {y d:V} {u r:Value} {o:Option V} {A:Around} {E:Value→Shared→Prop}
theorem d_get2 {Q:Value→Shared→Prop} (hu:A.units+1<cLine) (I:Inv X pins σ H s) (g:DGet H a y o) (ry:RelV y u) (rd:RelV d r) (h:∀w' s',Inv X pins σ H s'→RelV (o.getD d) w'→Q w' s'):
  wpAny (model X.prog X.w) A (call (.builtin "dict.get") [.ref a,u,r]) Q E s:=by
 rcases g with ⟨kvs,k,e,ey,l⟩ | ⟨kvs,k,b,e,ey,eb,l⟩
 ·subst ey; obtain ⟨z,hd,vs,rel,dd⟩:=dk_rd I.hok e; refine call_meetsIn mR dd.typeIs wO (uU _ _ _) (meets_dict_get_default (fM X.prog X.w) a (kV_is ry) hd r) ⟨_,dd.mapOf,h _ _ (I.tok _) ?_⟩; rw [l]; exact (rel.val k).getD rd
 ·subst ey; cases (show u=Value.ref b from ry); obtain ⟨z,hd,xs,rel,dd⟩:=dt_rd I.hok e; refine call_meetsIn mR dd.typeIs wO (uU _ _ _) (meetsH_dict_get_default (tupleKind (fM X.prog X.w)) a b hd r) ⟨tupleKind_room_in1 hu,k,xs,tF I.hok eb,dd,h _ _ (I.tok _) ?_⟩; rw [l]; exact (rel.val k).getD rd
end
noncomputable def tDGet2 (td ty tx:TE):TE:=fun σ H Q=>td σ H fun x H1=>∃a,x= .ref a∧IsD H1 a∧ty σ H1 fun y H2=>tx σ H2 fun z H3=>∃o,DGet H3 a y o∧Q (o.getD z) H3
section
variable {X:Cx} {o e f:Expr} {apos cpos:Pos} {td ty tx:TE}
theorem pe_dget2 (hu:X.A.units+1<cLine) (ho:PE X o td) (he:PE X e ty) (hf:PE X f tx) (m:M2 X o "get" apos e f cpos):PE X (.Call (.Attribute o "get" apos) [e,f] [] cpos) (tDGet2 td ty tx):=by
 intro pins s σ H Q I h; refine wpAny_Call_method m.base m.few m.line lT mR PySem.F.type_dict_get (thn (ho pins s σ H _ I h) fun u s1 ⟨x,H1,I1,rx,a,ex,d,q1⟩=> ?_); subst ex; obtain rfl:u=Value.ref a:=rx; obtain ⟨t1,t2,_⟩:=isD_at I1 d; refine ⟨t1,t2, ?_⟩; rw [m.trees]
 refine Calls.callWith_builtin rfl (Calls.evalArgs_plain (Calls.spliced_cons (thn (he pins s1 σ H1 _ I1 q1) fun iv s2 ⟨y,H2,I2,ry,q2⟩=>Calls.spliced_cons (thn (hf pins s2 σ H2 _ I2 q2) fun fv s3 ⟨z,H3,I3,rz,ov,g,q3⟩=>Calls.spliced_nil ?_))))
 exact d_get2 hu I3 g ry rz fun w' s4 I4 rw'=>⟨_,H3,I4,rw',q3⟩
end
end L2
namespace Att
open PySem PySem.W PySem.Calls PyProof.Rows
theorem qH {P:Params} {h:Heap}:∀ (ns:List Int) (vs:List Value),WellAll P h vs (ns.map WData.int)→IntsAre vs ns:=by
 intro ns
 induction ns with
 | nil=>intro vs w; rw [hG] at w; cases w; exact .nil
 | cons n ns ih=>
  intro vs w; rw [bX] at w; cases w with
  | cons a b=>cases a; exact .cons _ _ (ih _ b)
theorem script_of {l:OpenLaw} {n:Nat} (hn:l.most=some n) {P:Params} {h:Heap} {args:List WData} {vals:List Value}
  (hpre:l.row.toRowW.claim.pre args=true) (hwl:WellAll P h vals args):
  ∃a vs ns,vals=[Value.ref a]∧args=[WData.list (ns.map WData.int)]∧h.get? a=some {cls:= .type "list",data:= .seq vs.toArray}∧IntsAre vs ns∧ns.length≤n:=by
 have hsh:WShape.hasAll [] args [.list .int]=true:=(pre_splitW hpre).1; have hc:l.pre.holds [] {args:=args}=true:=(pre_splitW hpre).2; obtain ⟨d,r,rfl,h1,h2⟩:=hasAllW_cons hsh; obtain rfl:=hasAllW_nil h2; obtain ⟨xs,rfl,h3⟩:=hasW_list h1; obtain ⟨ns,rfl⟩:=items_int h3
 have hlen:ns.length≤n:=by
  unfold OpenLaw.pre at hc
  have h4:(WTm.not (.lt (.lit (.int (n:Int))) (.len (.arg 0)))).holds [] {args:=[.list (ns.map .int)]}=true:=by have h4:=(holds_andW hc).1; rw [hn] at h4; exact h4
  have h5:=condW_of h4 (w_not (w_lt w_lit (w_len_list (w_arg rfl)))); rw [aB] at h5; refine Nat.le_of_not_lt fun q=> ?_
  have q':(n:Int)<((ns.length:Nat):Int):=by omega
  first
   | (rw [decide_eq_true q'] at h5; exact absurd h5 (by decide))
   | (simp at h5; omega)
 cases hwl with
 | cons w1 w2=>
  cases w2; cases w1 with
  | list ho hall=>exact ⟨_,_,ns,rfl,rfl,ho,qH ns _ hall,hlen⟩
theorem post_true (l:OpenLaw) (args:List WData):l.row.toRowW.claim.post args (.bool true) args=true:=
 postW_of (r:=l.row.toRowW) (X:=(true==true))
  (show WShape.has [] (.bool true) .bool=true by first | rfl | decide | simp [WShape.has,WShape.arms,WShape.armsAll])
  (show (WTm.eq .res (.lit (.bool true))).value [] {args:=args,res:=some (.bool true),after:=args}=some (.bool (true==true)) from w_eq_bool (w_res rfl) w_lit) rfl
theorem attach_call {l:OpenLaw} {n:Nat} {q:Program} {loose:List Str} {XP:(Str→Option Value)→Heap→Prop} {YP:World→Heap→Prop} {d:DefRec}
  (hn:l.most=some n) (hdf:d.params.defaults=[])
  (call:∀ (w:World) (s₀ s₁:Shared) (mg mb:Str→Option Value) (fa:Addr) (o:Obj) (pm cd doc:Value) (a:Addr) (vs:List Value) (ns:List Int),
   Ground q loose [] XP w s₀ mg mb s₁.heap→YP w s₁.heap→
   s₁.heap.get? fa=some o→o.data= .func (docDef d.name d.params d.body d.scope pm cd doc)→s₁.heap.CodeRec cd d.name→mg d.name=some (.ref fa)→
   s₁.heap.get? a=some {cls:= .type "list",data:= .seq vs.toArray}→IntsAre vs ns→ns.length≤n→s₁.gens= #[]→
   codeAny (model l.prog w) callerA (.call (.ref fa) ⟨[.ref a],[]⟩) (fun r s'=>r= .ok (.ret (.bool true))∧OldK s₁.heap s'.heap∧s'.os=s₁.os∧AllBare s'.gens) s₁):
  WalkO q loose XP YP l.row.toRowW d [] (fun f vs=>PySem.call f vs):=by
 intro w s₀ s₁ mg mb G Y fa o pm cd doc dV kV ho hd hcd hD hmg hg args vals as hpre hlay hrd hwl hlo; obtain rfl:dV= .none:=Dflts.none hD hdf; obtain rfl:kV= .none:=Dflts.noKw hD; obtain ⟨a,vs,ns,rfl,rfl,hobj,hints,hlen⟩:=script_of hn hpre hwl; refine enter_call (codeAny_mono (call w s₀ s₁ mg mb fa o pm cd doc a vs ns G Y ho (fd_plain hd) hcd hmg hobj hints hlen hg) fun r s' hq=> ?_); obtain ⟨rfl,h2,h3,h4⟩:=hq; exact ⟨.inl ⟨.bool true, .bool true,[],rfl,fun _=>rfl, .bool true,post_true l _,fun _=>⟨List.Pairwise.nil,fun _ hm=>(nomatch hm)⟩⟩,h2,h3,h4⟩
end Att
namespace L2
open PySem PySem.Spec PyProof.Rows
theorem uI:∀ {vs:List Value} {ns:List Int},IntsAre vs ns→Vals (ns.map V.int) vs
 | _,_, .nil=> .nil
 | _,_, .cons n t h=> .cons ⟨t,rfl⟩ (uI h)
noncomputable def Only (H:Hp):Prop:=∀b,H b=none∨∃o xs,H b=some (.frz o (.lst xs))
theorem law_call {P:Program} {w:World} {K:aD} {mg mb:Str→Option Value} {CX:CXT} {k:Nat} {fa a:Addr} {fd:FuncData} {x:Str} {sp:Sp} {s₁:Shared} {vs:List Value} {ns:List Int}
  (KX:K.In s₁.heap) (hns:s₁.heap.Ns mainGlobals mg) (hb:s₁.heap.Ns builtinsNs mb) (hbb:∀x:Str,x≠"__name__"→mb x=bootBuiltins x) (hlim:s₁.heap.NoLimit) (hg:s₁.gens= #[])
  (ha:s₁.heap.get? a=some {cls:= .type "list",data:= .seq vs.toArray}) (hi:IntsAre vs ns) (hl:ns.length≤sizeLine) (hr:Room k callerA)
  (F:∀base:Heap,K.In base→base.Ns mainGlobals mg→FnOk P w K mg base CX k fa fd [x] sp) (hbind:∀ (s:Shared) (u:Value),BindsTo s fd ⟨[u],[]⟩ [(x,u)])
  (hsp:∀H:Hp,Only H→SqL K H a (ns.map V.int)→sp [.ref a] H (fun v _=>v= .bl true) fun _ _ _=>False)
  (hCX:∀H e s',CX [] H s₁ (fun _ _ _=>False) e s'→False):
  codeAny (model P w) callerA (.call (.ref fa) ⟨[.ref a],[]⟩) (fun r s'=>r= .ok (.ret (.bool true))∧OldK s₁.heap s'.heap∧s'.os=s₁.os∧AllBare s'.gens) s₁:=by
 have rv:=uI hi; have lenV:=hi.length
 have core:∀H:Hp,Only H→SqL K H a (ns.map V.int)→HOk P w H s₁.heap→(∀b,H b≠none→b=a)→(H a≠none→K.lookup a=none)→
   codeAny (model P w) callerA (.call (.ref fa) ⟨[.ref a],[]⟩) (fun r s'=>r= .ok (.ret (.bool true))∧OldK s₁.heap s'.heap∧s'.os=s₁.os∧AllBare s'.gens) s₁:=by
  intro H hO hS hok hA hK; have base_of:∀ {b:Addr} {o:Obj},s₁.heap.get? b=some o→H b=none→(vO s₁.heap H).get? b=some o:=fun e n=>hidT_get e n
  have noA:∀ {b:Addr} {o:Obj} {es:Array DictEntry} {ep:Nat},s₁.heap.get? b=some o→o.data= .dict es ep→H b=none:=fun {b o es ep} e d=>by
   cases q:H b with
   | none=>rfl
   | some u=>have e':b=a:=hA b (by rw [q]; simp); subst e'; rw [ha] at e; cases e; have d':Data.seq vs.toArray _=Data.dict es ep:=d; cases d'
  have nsK:∀ {b:Addr} {m:Str→Option Value},s₁.heap.Ns b m→(vO s₁.heap H).Ns b m:=fun {b m} ⟨o,es,ep,e,d,r⟩=>⟨o,es,ep,base_of e (noA e d),d,r⟩
  have hKb:K.In (vO s₁.heap H):=fun b o e=>base_of (KX b o e) (by
   cases q:H b with
   | none=>rfl
   | some u=>
    have e':b=a:=hA b (by rw [q]; simp); subst e'
    rw [hK (by rw [q]; simp)] at e; cases e)
  have hM:Mod K mg (vO s₁.heap H):=⟨hKb,nsK hns,⟨mb,nsK hb,hbb⟩,let ⟨mc,h1,h2⟩:=hlim; ⟨mc,nsK h1,h2⟩⟩; have e0:Env0 P w K mg (vO s₁.heap H) callerA [] s₁ H:=⟨rfl,hM,fun b o e=>of_hidT e,Nat.le_of_eq (hidT_size _ _),trivial,fun b hb=>absurd (show b∈([]:List Addr) from hb) (by simp),hok, .of_eq hg⟩; refine codeAny_mono ((F _ hKb (nsK hns)).run callerA [] s₁ H ⟨[.ref a],[]⟩ [.ref a] [.ref a] _ _ hr e0 (hbind s₁ (.ref a)) (.cons rfl .nil) (hsp H hO hS)) fun r s' h=> ?_
  cases r with
  | error e=>exact (hCX H e s' h).elim
  | ok fl=>
   cases fl with
   | next=>exact False.elim h
   | brk=>exact False.elim h
   | cont=>exact False.elim h
   | ret u=>
    obtain ⟨v,H',os,bare,un,hok',r',q⟩:=h; have q':v= .bl true:=q; subst q'; obtain rfl:u=Value.bool true:=r'; refine ⟨rfl,OldK.of_keep fun b o e=> ?_,os,bare⟩; cases q:H b with
    | none=>exact un.keep b o e q (by intro z; exact absurd (show b∈([]:List Addr) from z) (by simp)) (by simp)
    | some u=>
     rcases hO b with z | ⟨ob,xs,z⟩
     ·rw [q] at z; cases z
     ·have z2:=un.frzs b ob _ z; obtain ⟨e1,_⟩:=hok b _ z; obtain ⟨e2,_⟩:=hok' b _ z2; rw [e] at e1; cases e1; exact e2
 cases hk:K.lookup a with
 | some o=>
  have e:=KX a o hk; rw [ha] at e; cases e; refine core (fun _=>none) (fun _=> .inl rfl) (.inr ⟨_,vs.toArray,_,hk,rfl,rfl,rfl,by rw [aK,lenV]; exact hl,by simpa using rv⟩) (fun b u z=>by have z':(none:Option HO)=some u:=z; cases z') (fun b z=>absurd rfl z) fun z=>absurd rfl z
 | none=>
  refine core (fun b=>if b=a then some (.frz {cls:= .type "list",data:= .seq vs.toArray} (.lst (ns.map V.int))) else none) (fun b=> ?_) (.inl (.inr ⟨{cls:= .type "list",data:= .seq vs.toArray},if_pos rfl⟩)) (fun b u z=> ?_) (fun b z=> ?_) fun _=>hk
  ·by_cases hb:b=a
   ·exact .inr ⟨_,_,if_pos hb⟩
   ·exact .inl (if_neg hb)
  ·by_cases hb:b=a
   ·have z':=(if_pos hb).symm.trans z; cases z'; subst hb; exact ⟨ha,by rw [aB]; exact hl,vs,_,rv,ha⟩
   ·have z':=(if_neg hb).symm.trans z; cases z'
  ·by_cases hb:b=a
   ·exact hb
   ·exact absurd (if_neg hb) z
noncomputable abbrev KOf {K:aD} {h:Heap} (_:K.In h):aD:=K
theorem walk_of {l:PySem.W.OpenLaw} {n k:Nat} {q:Program} {loose:List Str} {XP:(Str→Option Value)→Heap→Prop} {YP:World→Heap→Prop} {d:DefRec} {K:Params→aD} {CX:World→CXT} {sp:World→Sp} {x:Str}
  (hn:l.most=some n) (hn2:n≤sizeLine) (hdf:d.params.defaults=[]) (hr:Room k callerA)
  (hY:∀ (w:World) (h:Heap),YP w h→(K w.params).In h)
  (F:∀ (w:World) (mg:Str→Option Value) (fa:Addr) (h:Heap),(K w.params).In h→h.Ns mainGlobals mg→mg d.name=some (.ref fa)→
   ∃fd:FuncData,(∀ (s:Shared) (u:Value),BindsTo s fd ⟨[u],[]⟩ [(x,u)])∧
    ∀base:Heap,(K w.params).In base→base.Ns mainGlobals mg→FnOk l.prog w (K w.params) mg base (CX w) k fa fd [x] (sp w))
  (hsp:∀ (w:World) (H:Hp) (a:Addr) (ns:List Int),ns.length≤n→Only H→SqL (K w.params) H a (ns.map V.int)→sp w [.ref a] H (fun v _=>v= .bl true) fun _ _ _=>False)
  (hCX:∀ (w:World) (H:Hp) (s:Shared) (e:Value) (s':Shared),CX w [] H s (fun _ _ _=>False) e s'→False):
  PySem.W.WalkO q loose XP YP l.row.toRowW d [] (fun f vs=>PySem.call f vs):=by
 refine Att.attach_call hn hdf fun w s₀ s₁ mg mb fa o pm cd doc a vs ns G Y ho hd hcd hmg hobj hints hlen hg=> ?_
 have KX:=hY w _ Y; obtain ⟨fd,hb,hF⟩:=F w mg fa _ KX G.T.g hmg; exact law_call KX G.T.g G.T.b G.T.builtins G.T.nolimit hg hobj hints (cA hlen hn2) hr hF hb (fun H hO hS=>hsp w H a ns hlen hO hS) fun H e s'=>hCX w H s₁ e s'
noncomputable def kE (s:Stmt):Arguments:=match s with
 | .FunctionDef _ a _ _ _ _ _ _ _ _=>a
 | _=>{posonlyargs:=[],args:=[],vararg:=none,kwonlyargs:=[],kw_defaults:=[],kwarg:=none,defaults:=[]}
noncomputable def iP (s:Stmt):List Stmt:=match s with
 | .FunctionDef _ _ b _ _ _ _ _ _ _=>b
 | _=>[]
noncomputable def aW (s:Stmt):Scope:=match s with
 | .FunctionDef _ _ _ _ _ _ sc _ _ _=>sc
 | _=>{kind:= .function,names:=[],isGenerator:=false,isCoroutine:=false}
noncomputable abbrev CX0:CXT:=fun _ _ _ _ _ _=>False
noncomputable abbrev E0:XK:=fun _ _ _=>False
theorem pass0 {X:Cx}:Passes CX0 X E0:=fun _ _ _ _ _ _ _ h=>h.elim
structure Fun (K:aD) (x qual:Str) (st:Stmt) (f:Addr) (fd:FuncData):Prop where
 ex:∃ (oc:Value) (od:Option Addr) (kV doc pm:Value) (an:Option Addr) (cdv ct:Value) (osl:Array (Option Value)),
  fd=fY x qual (kE st) (iP st) (aW st) .none kV doc pm an cdv ct∧K.lookup f=some ⟨oc,od, .func fd,osl⟩∧jK K cdv qual=true
 kp:dE K (.ref f)=true
section
variable {P:Program} {w:World} {K:aD} {mg:Str→Option Value} {base:Heap}
theorem Fun.ok {x qual:Str} {st:Stmt} {f:Addr} {fd:FuncData} {N ps:List Str} {k:Nat} {sp:Sp} (F:Fun K x qual st f fd) (S:oW N ps (aW st)) (len:∀vs H Q E,sp vs H Q E→vs.length=ps.length)
  (hbody:∀ (cdv:Value) (A:Around) (outer:List Env) (s:Shared) (H:Hp) (vs:List V) (Q:VK) (E:XK),Room k (A.deeper (envOfC qual (aW st) s.heap.objs.size f cdv))→sp vs H Q E→
   ∃t,PSs (hX CX0 P w K mg base N qual (aW st) f cdv A outer s H E).nox (iP st) t∧t {nx:=fun _ H'=>Q .non H',rt:=Q} (start N vs) H):FnOk P w K mg base CX0 (k+1) f fd ps sp:=by
 obtain ⟨oc,od,kV,doc,pm,an,cdv,ct,osl,rfl,lk,hcd⟩:=F.ex; refine fn_of lk hcd S len fun A outer s H vs Q E hr hsp=> ?_
 obtain ⟨t,h,q⟩:=hbody cdv A outer s H vs Q E hr hsp; exact ⟨t,h.nox,q⟩
theorem Fun.binds {x qual:Str} {st:Stmt} {f:Addr} {fd:FuncData} {ps:List Str} (F:Fun K x qual st f fd)
  (h:∀ (kV doc pm:Value) (an:Option Addr) (cdv ct:Value) (us:List Value),us.length=ps.length→bindArgs (fY x qual (kE st) (iP st) (aW st) .none kV doc pm an cdv ct) ⟨us,[]⟩=pure (ps.zip us)):Binds K fd ps []:=by
 obtain ⟨oc,od,kV,doc,pm,an,cdv,ct,osl,rfl,lk,hcd⟩:=F.ex; exact .all (h kV doc pm an cdv ct)
theorem fun_mk {x qual:Str} {st:Stmt} {f:Addr} {oc:Value} {od an:Option Addr} {osl:Array (Option Value)} {kV doc pm cdv ct:Value} (l:K.lookup f=some ⟨oc,od, .func (fY x qual (kE st) (iP st) (aW st) .none kV doc pm an cdv ct),osl⟩)
  (c:jK K cdv qual=true) (k:dE K (.ref f)=true):Fun K x qual st f (fY x qual (kE st) (iP st) (aW st) .none kV doc pm an cdv ct):=⟨⟨oc,od,kV,doc,pm,an,cdv,ct,osl,rfl,l,c⟩,k⟩
end
theorem gR {n:Nat} (h:n≤1000):n<sizeLine:=eE h (by decide)
section
variable {X:Cx}
theorem pv (i:Nat) {x:Str} {pos:Pos} (hN:X.N[i]? =some x:=by rfl) (hv:Vis X.env.scope x:=by first | exact Or.inl rfl | exact Or.inr (Or.inl rfl) | exact Or.inr (Or.inr rfl)) (hd:(x==("__debug__":Str))=false:=by decide)
  (hcd:(x==("__classdict__":Str))=false:=by decide):PE X (.Name x pos) (mQ i):=pe_var hN hv hd hcd
end
theorem iteF {A B:Prop} (h:B):if false=true then A else B:=by rw [if_neg bP]; exact h
theorem iteT {A B:Prop} (h:A):if true=true then A else B:=by rw [if_pos rfl]; exact h
noncomputable def Same (H H':Hp):Prop:=∀b o,H b=some o→H' b=some o
theorem Same.refl (H:Hp):Same H H:=fun _ _ h=>h
theorem Same.trans {H H1 H2:Hp} (a:Same H H1) (b:Same H1 H2):Same H H2:=fun c o h=>b c o (a c o h)
theorem Same.free {H H':Hp} (e:Same H H') {l:Addr} (h:H' l=Option.none):H l=Option.none:=by
 cases q:H l with
 | none=>rfl
 | some o=>rw [e l o q] at h; cases h
theorem Same.seq {K:aD} {H H':Hp} {a:Addr} {xs:List V} (e:Same H H') (h:SqL K H a xs):SqL K H' a xs:=by
 rcases h with (h | ⟨o,h⟩) | h
 ·exact .inl (.inl (e _ _ h))
 ·exact .inl (.inr ⟨o,e _ _ h⟩)
 ·exact .inr h
noncomputable def wE (X:Cx) (e:Expr):TE:=fun σ H Q=>∀ (pins:List (Addr × Obj)) (s:Shared),Inv X pins σ H s→wpAny (model X.prog X.w) X.A (eval e X.env) (EP X pins σ Q) X.xe s
noncomputable def wT (X:Cx) (e:Expr):TT:=fun σ H Q=>∀ (pins:List (Addr × Obj)) (s:Shared),Inv X pins σ H s→wpAny (model X.prog X.w) X.A (isTrue e X.env (eval e X.env)) (TP X pins σ Q) X.xe s
noncomputable def wW (X:Cx) (e:Expr):TT:=fun σ H Q=>∀ (whole:Sem Value) (pins:List (Addr × Obj)) (s:Shared),Inv X pins σ H s→wpAny (model X.prog X.w) X.A (isTrue e X.env whole) (TP X pins σ Q) X.xe s
noncomputable def wA (X:Cx) (es:List Expr):TA:=fun σ H Q=>∀ (pos:Pos) (pins:List (Addr × Obj)) (s:Shared),Inv X pins σ H s→wpAny (model X.prog X.w) X.A (spliced (backTo pos (starEach es X.env))) (AP X pins σ Q) X.xe s
noncomputable def wS (X:Cx) (st:Stmt):TS:=fun D σ H=>∀ (pins:List (Addr × Obj)) (s:Shared),Inv X pins σ H s→wpAny (model X.prog X.w) X.A (exec st X.env) (SP X pins D) X.xe s
noncomputable def wSs (X:Cx) (sts:List Stmt):TS:=fun D σ H=>∀ (pins:List (Addr × Obj)) (s:Shared),Inv X pins σ H s→wpAny (model X.prog X.w) X.A (execs sts X.env) (SP X pins D) X.xe s
noncomputable def wG (X:Cx) (tg:Expr):TG:=fun v σ H Q=>∀ (pins:List (Addr × Obj)) (s:Shared) (u:Value),Inv X pins σ H s→RelV v u→
  wpAny (model X.prog X.w) X.A (assign tg X.env u) (fun _ s'=>∃σ' H',Inv X pins σ' H' s'∧Q σ' H') X.xe s
noncomputable def wI (X:Cx) (tg iter:Expr):TI:=fun σ H R=>∀ (pins:List (Addr × Obj)) (s:Shared),Inv X pins σ H s→
  wpAny (model X.prog X.w) X.A (eval iter X.env) (fun v s1=>wpAny (model X.prog X.w) X.A (pyIter v) (PIE X pins σ tg R) X.xe s1) X.xe s
section
variable {X:Cx} {e:Expr} {es:List Expr} {st:Stmt} {sts:List Stmt} {tg iter:Expr} {σ:St} {H:Hp}
theorem fH:PE X e (wE X e):=fun pins s _ _ _ I h=>h pins s I
theorem pt_w:PT X e (wT X e):=fun pins s _ _ _ I h=>h pins s I
theorem pw_w:PW X e (wW X e):=fun w pins s _ _ _ I h=>h w pins s I
theorem pa_w:PA X es (wA X es):=fun pos pins s _ _ _ I h=>h pos pins s I
theorem ps_w:PS X st (wS X st):=fun pins s _ _ _ I h=>h pins s I
theorem uO:PSs X sts (wSs X sts):=fun pins s _ _ _ I h=>h pins s I
theorem pg_w:PG X tg (wG X tg):=fun pins s _ _ _ u _ I r h=>h pins s u I r
theorem pi_w:PI X tg iter (wI X tg iter):=fun pins s _ _ _ I h=>h pins s I
theorem PE.to {t:TE} {Q:VK} (h:PE X e t) (q:t σ H Q):wE X e σ H Q:=fun pins s I=>h pins s σ H Q I q
theorem PT.to {t:TT} {Q:Bool→Hp→Prop} (h:PT X e t) (q:t σ H Q):wT X e σ H Q:=fun pins s I=>h pins s σ H Q I q
theorem PW.to {t:TT} {Q:Bool→Hp→Prop} (h:PW X e t) (q:t σ H Q):wW X e σ H Q:=fun w pins s I=>h w pins s σ H Q I q
theorem PA.to {t:TA} {Q:List V→Hp→Prop} (h:PA X es t) (q:t σ H Q):wA X es σ H Q:=fun pos pins s I=>h pos pins s σ H Q I q
theorem PS.to {t:TS} {D:sV} (h:PS X st t) (q:t D σ H):wS X st D σ H:=fun pins s I=>h pins s σ H D I q
theorem PSs.to {t:TS} {D:sV} (h:PSs X sts t) (q:t D σ H):wSs X sts D σ H:=fun pins s I=>h pins s σ H D I q
theorem wE.imp {Q Q':VK} (h:wE X e σ H Q) (k:∀v H',Q v H'→Q' v H'):wE X e σ H Q':=fun pins s I=>thn (h pins s I) fun u s' ⟨v,H',I',r,q⟩=>⟨v,H',I',r,k v H' q⟩
theorem wT.imp {Q Q':Bool→Hp→Prop} (h:wT X e σ H Q) (k:∀v H',Q v H'→Q' v H'):wT X e σ H Q':=fun pins s I=>thn (h pins s I) fun u s' ⟨H',I',q⟩=>⟨H',I',k u H' q⟩
theorem wW.imp {Q Q':Bool→Hp→Prop} (h:wW X e σ H Q) (k:∀v H',Q v H'→Q' v H'):wW X e σ H Q':=fun w pins s I=>thn (h w pins s I) fun u s' ⟨H',I',q⟩=>⟨H',I',k u H' q⟩
theorem wA.imp {Q Q':List V→Hp→Prop} (h:wA X es σ H Q) (k:∀v H',Q v H'→Q' v H'):wA X es σ H Q':=fun pos pins s I=>thn (h pos pins s I) fun u s' ⟨v,H',I',r,q⟩=>⟨v,H',I',r,k v H' q⟩
theorem SP.imp {pins:List (Addr × Obj)} {D D':sV} {f:Flow} {s:Shared} (h:SP X pins D f s) (k1:∀σ H,D.nx σ H→D'.nx σ H) (k2:∀v H,D.rt v H→D'.rt v H) (k3:∀σ H,D.bk σ H→D'.bk σ H) (k4:∀σ H,D.ct σ H→D'.ct σ H):SP X pins D' f s:=by
 cases f with
 | next=>obtain ⟨σ',H',I,q⟩:=h; exact ⟨σ',H',I,k1 _ _ q⟩
 | brk=>obtain ⟨σ',H',I,q⟩:=h; exact ⟨σ',H',I,k3 _ _ q⟩
 | cont=>obtain ⟨σ',H',I,q⟩:=h; exact ⟨σ',H',I,k4 _ _ q⟩
 | ret u=>obtain ⟨v,σ',H',I,r,q⟩:=h; exact ⟨v,σ',H',I,r,k2 _ _ q⟩
theorem wSs.imp {D D':sV} (h:wSs X sts D σ H) (k1:∀σ H,D.nx σ H→D'.nx σ H) (k2:∀v H,D.rt v H→D'.rt v H) (k3:∀σ H,D.bk σ H→D'.bk σ H) (k4:∀σ H,D.ct σ H→D'.ct σ H):wSs X sts D' σ H:=
 fun pins s I=>thn (h pins s I) fun f s' q=>q.imp k1 k2 k3 k4
theorem wG.imp {v:V} {Q Q':St→Hp→Prop} (h:wG X tg v σ H Q) (k:∀σ' H',Q σ' H'→Q' σ' H'):wG X tg v σ H Q':=fun pins s u I r=>thn (h pins s u I r) fun _ s' ⟨σ',H',I',q⟩=>⟨σ',H',I',k _ _ q⟩
end
section
variable {X:Cx} {pins:List (Addr × Obj)} {σ:St} {H F:Hp} {s:Shared}
theorem HOk.track {P:Program} {w:World} {h:Heap} {a:Addr} {o:HO} (ok:HOk P w H h) (hn:H a=none) (new:ObjOk P w (upd H a o) h a o):HOk P w (upd H a o) h:=fun b u e=>by
 by_cases hb:b=a
 ·subst hb; rw [bZ] at e; cases e; exact new
 ·rw [bM hb] at e; exact (ok b u e).stay (fun _ _ _ q=>q) (fun c q=>by rw [bM (cF q hn)]; exact q) fun c xs q=>by rw [bM (cF q hn)]; exact q
theorem Inv.track {a:Addr} {o:HO} (I:Inv X pins σ H s) (hn:H a=none) (h0:X.s₀.heap.objs.size≤a) (hL:a≠X.env.locals) (hc:∀x c,X.env.cells.lookup x=some c→c≠a)
  (hp:∀p∈X.pn++pins,p.1≠a) (new:ObjOk X.prog X.w (upd H a o) s.heap a o):Inv X pins σ (upd H a o) s:=by
 refine ⟨I.ok,I.os,I.bare,⟨I.base.keep,I.base.slot,fun b u e n hx=> ?_,I.base.there,fun b xs e=> ?_,fun b u xs e=> ?_,fun b ps e=> ?_⟩,I.loc,I.cell, ?_,fun x c e=> ?_,fun p hp'=> ?_,I.hok.track hn new,I.len⟩
 ·rw [bM (cG (bQ (bA e) h0))]; exact I.base.free b u e n hx
 ·have q:=I.base.tups b xs e; rw [bM (cF q hn)]; exact q
 ·have q:=I.base.frzs b u xs e; rw [bM (cF q hn)]; exact q
 ·obtain ⟨m,q⟩:=I.base.tbls b ps e; exact ⟨m,by rw [bM (cF q hn)]; exact q⟩
 ·rw [bM (Ne.symm hL)]; exact I.free
 ·rw [bM (hc x c e)]; exact I.freeC x c e
 ·obtain ⟨e,n,r⟩:=I.pin p hp'; exact ⟨e,by rw [bM (hp p hp')]; exact n,r⟩
noncomputable def SmpO:HO→Prop
 | .lst _=>True
 | .tup _=>True
 | .dK _=>True
 | .frz _ (.lst _)=>True
 | .frz _ (.dK _)=>True
 | .ext _=>True
 | _=>False
noncomputable def Smp (H:Hp):Prop:=∀b o,H b=some o→SmpO o
theorem ObjOk.smp {P:Program} {w:World} {h:Heap} {a:Addr} {o:HO} (z:SmpO o) (x:ObjOk P w H h a o):ObjOk P w F h a o:=by
 cases o with
 | lst xs=>exact x
 | tup xs=>exact x
 | dK kvs=>exact x
 | frz ob u=>cases u with
  | lst xs=>exact x
  | dK kvs=>exact x
  | _=>exact absurd z (fun q=>q)
 | ext φ=>exact x
 | _=>exact absurd z (fun q=>q)
theorem Smp.sub (h:Smp H) (s:Same F H):Smp F:=fun b o e=>h b o (s b o e)
theorem Inv.less (I:Inv X pins σ H s) (hF:Same F H) (h0:Same X.B₀ F) (hs:Smp F):Inv X pins σ F s:=by
 refine ⟨I.ok,I.os,I.bare,⟨I.base.keep,I.base.slot,fun b u e n hx=>hF.free (I.base.free b u e n hx),I.base.there,fun b xs e=>h0 _ _ (X.hB _ _ e trivial),fun b u xs e=>h0 _ _ (X.hB _ _ e trivial),fun b ps e=>⟨#[], ?_⟩⟩,I.loc,I.cell,hF.free I.free,fun x c e=>hF.free (I.freeC x c e),fun p hp=> ?_,fun b o e=>(I.hok b o (hF b o e)).smp (hs b o e),I.len⟩
 ·have q:=h0 _ _ (X.hB _ _ e trivial); rw [q]; simp
 ·obtain ⟨e,n,r⟩:=I.pin p hp; exact ⟨e,hF.free n,r⟩
end
noncomputable def clo (cells:List (Str × Addr)):List (Str × NameKind)→List (Str × Addr)→List (Str × Addr)
 | [],cs=>cs
 | (n,k)::r,cs=>clo cells r (if (k==NameKind.free)=true then (n,(cells.lookup n).getD 0)::cs else cs)
theorem nS {env:Env}:∀ (names:List (Str × NameKind)) (cs:List (Str × Addr)),(∀y∈names,y.2= .free→∃c,env.cells.lookup y.1=some c)→
  (forIn names cs (fun (x:Str × NameKind) (r:List (Str × Addr))=>if (x.2==NameKind.free)=true then (do let c ← cellOf env x.1; pure (ForInStep.yield ((x.1,c)::r))) else pure (ForInStep.yield r)):Sem (List (Str × Addr)))=pure (clo env.cells names cs)
 | [],cs,_=>rfl
 | (n,k)::r,cs,h=>by
  rw [List.forIn_cons]
  by_cases hk:(k==NameKind.free)=true
  ·obtain ⟨c,hc⟩:=h (n,k) bB (by simpa using hk)
   have e:cellOf env n=pure c:=by unfold cellOf; have hc':env.cells.lookup n=some c:=hc; rw [hc']
   simp only [hk,if_true,e,pure_bind,clo]; have hc':env.cells.lookup n=some c:=hc; rw [hc']; exact nS r _ fun y hy=>h y (aU _ hy)
  ·simp only [hk,pC,if_false,pure_bind,clo]; exact nS r _ fun y hy=>h y (aU _ hy)
theorem zR {env:Env} {scope:Scope} (h:∀y∈scope.names,y.2= .free→∃c,env.cells.lookup y.1=some c):closureFor scope env=pure (clo env.cells scope.names []):=by simp only [closureFor]; have e:=nS (env:=env) scope.names [] h; simp only [bind_pure] ; exact e
theorem yA (cells:List (Str × Addr)):∀ (names:List (Str × NameKind)) (cs:List (Str × Addr)) (x:Str) (c:Addr),(clo cells names cs).lookup x=some c→cs.lookup x=some c∨((x,NameKind.free)∈names∧c=(cells.lookup x).getD 0)
 | [],cs,x,c,h=> .inl h
 | (n,k)::r,cs,x,c,h=>by
  rcases yA cells r _ x c h with q | ⟨q1,q2⟩
  ·by_cases hk:(k==NameKind.free)=true
   ·rw [if_pos hk,dQ] at q; have ek:k= .free:=by simpa using hk
    by_cases hx:(x==n)=true
    ·simp only [hx] at q; have e:x=n:=by simpa using hx
     subst e; exact .inr ⟨by rw [ek]; exact bB,(cT.inj q).symm⟩
    ·have hx':(x==n)=false:=by simpa using hx
     simp only [hx'] at q; exact .inl q
   ·rw [if_neg hk] at q; exact .inl q
  ·exact .inr ⟨aU _ q1,q2⟩
theorem clo_has (cells:List (Str × Addr)):∀ (names:List (Str × NameKind)) (cs:List (Str × Addr)) (x:Str),(x,NameKind.free)∈names∨(∃c,cs.lookup x=some c)→∃c,(clo cells names cs).lookup x=some c
 | [],cs,x,h=>h.elim (fun z=>nomatch z) fun z=>z
 | (n,k)::r,cs,x,h=>by
  refine clo_has cells r _ x ?_
  by_cases hk:(k==NameKind.free)=true
  ·rw [if_pos hk]
   by_cases hx:(x==n)=true
   ·exact .inr ⟨(cells.lookup n).getD 0,by rw [dQ]; simp only [hx]⟩
   ·have hx':(x==n)=false:=by simpa using hx
    rcases h with q | ⟨c,q⟩
    ·rcases cJ.mp q with z | z
     ·cases z; exact absurd (by simp) hx
     ·exact .inl z
    ·exact .inr ⟨c,by rw [dQ]; simp only [hx']; exact q⟩
  ·rw [if_neg hk]
   rcases h with q | q
   ·rcases cJ.mp q with z | z
    ·cases z; exact absurd rfl hk
    ·exact .inl z
   ·exact .inr q
theorem oU {env:Env}:∀ {names:List (Str × NameKind)} {x:Str},((names.map fun (n,k)=>if (k==NameKind.free && env.scope.kind== .function && env.kindOf n==some .cell) then (n,NameKind.cell) else (n,k)).lookup x=some .cell∨
   (names.map fun (n,k)=>if (k==NameKind.free && env.scope.kind== .function && env.kindOf n==some .cell) then (n,NameKind.cell) else (n,k)).lookup x=some .free)→names.lookup x=some .cell∨names.lookup x=some .free
 | [],x,h=>by simp at h
 | (n,k)::r,x,h=>by
  have ih:= @oU env r x; rw [bX] at h; rw [dQ]
  by_cases hc:(k==NameKind.free && env.scope.kind== .function && env.kindOf n==some .cell)=true
  ·simp only [hc,if_true,dQ] at h; cases hx:x==n with
   | true=>
    have hk:k= .free:=by have:=hc; simp only [aP,beq_iff_eq] at this; exact this.1.1
    exact .inr (by rw [hk])
   | false=>simp only [hx] at h ⊢; exact ih h
  ·have hc':(k==NameKind.free && env.scope.kind== .function && env.kindOf n==some .cell)=false:=by simpa using hc
   simp only [hc',pC,if_false,dQ] at h; cases hx:x==n with
   | true=>simp only [hx] at h ⊢; exact h
   | false=>simp only [hx] at h ⊢; exact ih h
theorem comp_loop {prog:Program} {w:World} {A:Around} {R:Result→Shared→Prop} {s:Shared} {elt target iter:Expr} {ifs:List Expr} {scope:Scope} {pos:Pos} {it acc:Value} {env:Env} (Ξ:Value→Shared→Prop) (hΞ:∀e s,Ξ e s→notedBy (model prog w) A env (fun e s'=>R (.error e) s') e s) (J:Nat→Shared→Prop)
  (turn:∀n s,J n s→wpAny (model prog w) A (pyNext it) (fun r s₁=>match r with
   | none=>R (.ok .next) s₁
   | some v=>wpAny (model prog w) A (letOwnedTupleGo target it v) (fun _ s₂=>wpAny (model prog w) A (assign target env v) (fun _ s₃=>
     wpAny (model prog w) A (forIn ifs true fun c r=>if r=true then do let ok ← isTrue c env (eval c env); pure (ForInStep.yield ok) else pure (ForInStep.yield r)) (fun ok s₄=>
      if ok=true then wpAny (model prog w) A (eval elt env) (fun x s₅=>wpAny (model prog w) A (call (.builtin "list.append") [acc,x]) (fun _ s₆=>∃m,m<n∧J m s₆) Ξ s₅) Ξ s₄
      else ∃m,m<n∧J m s₄) Ξ s₃) Ξ s₂) Ξ s₁) Ξ s)
  (n:Nat) (h:J n s):codeAny (model prog w) A (.compLoop (.ListComp elt [⟨target,iter,ifs,0⟩] scope pos) 0 it acc env) R s:=by
 refine codeAny_loop rfl J (fun n s hI=> ?_) n h; show wpAny _ A ((compTurn (.ListComp elt [⟨target,iter,ifs,0⟩] scope pos) 0 it acc env).onRaise (fun x=>do noteFrame x env; theTreesLotGoes x)) _ _ s; refine wpAny_noted ?_; rw [compTurn_list]; refine wpAny_bind (wpAny_standAt (wpAny_bind (wpAny_mono (turn n s hI) (fun r s₁ h₁=> ?_) fun e s z=>hΞ e s z))); cases r with
 | none=>exact wpAny_pure h₁
 | some v=>
  refine wpAny_bind (wpAny_mono h₁ (fun _ s₂ h₂=> ?_) fun e s z=>hΞ e s z); refine wpAny_bind (wpAny_mono h₂ (fun _ s₃ h₃=> ?_) fun e s z=>hΞ e s z); refine wpAny_bind (wpAny_mono h₃ (fun ok s₄ h₄=> ?_) fun e s z=>hΞ e s z); cases ok with
  | false=>exact wpAny_pure ⟨rfl,h₄⟩
  | true=>exact wpAny_bind (wpAny_bind (wpAny_mono h₄ (fun x s₅ h₅=>wpAny_bind (wpAny_mono h₅ (fun _ s₆ h₆=>wpAny_pure (wpAny_pure ⟨rfl,h₆⟩)) fun e s z=>hΞ e s z)) fun e s z=>hΞ e s z))
noncomputable def wIfs (X:Cx) (ifs:List Expr):TT:=fun σ H Q=>∀ (pins:List (Addr × Obj)) (s:Shared),Inv X pins σ H s→
 wpAny (model X.prog X.w) X.A (forIn ifs true fun c r=>if r=true then do let ok ← isTrue c X.env (eval c X.env); pure (ForInStep.yield ok) else pure (ForInStep.yield r)) (TP X pins σ Q) X.xe s
theorem wIfs_nil {X:Cx} {σ:St} {H:Hp} {Q:Bool→Hp→Prop} (h:Q true H):wIfs X [] σ H Q:=fun _ _ I=>wpAny_tests_nil ⟨H,I,h⟩
theorem wIfs_one {X:Cx} {c:Expr} {σ:St} {H:Hp} {Q:Bool→Hp→Prop} (h:wT X c σ H Q):wIfs X [c] σ H Q:=fun pins s I=>wpAny_tests_one (h pins s I)
noncomputable def cxB (X:Cx) (N:List Str) (scope:Scope) (cl:List (Str × Addr)) (C:Addr) (ex:List Addr) (s:Shared) (H:Hp):Cx:=
 {prog:=X.prog,w:=X.w,K:=X.K,mg:=X.mg,base:=X.base,A:=X.A,N:=N,s₀:=s,H₀:=H,env:=compEnvC scope cl C X.env,outer:=X.stack,stack:=X.stack,ex:=ex,fn:=fun _=>false,calm:=true,pn:=[],xe:=fun _ _=>False}
noncomputable def nK (X:Cx) (N:List Str) (scope:Scope) (cl:List (Str × Addr)) (C:Addr) (ex:List Addr) (s:Shared) (H:Hp) (ξ:Value→Shared→Prop):Cx:={cxB X N scope cl C ex s H with xe:=ξ}
noncomputable def tM (cap:List (Option Nat)) (σ:St):St:=cap.map fun o=>o.bind fun k=>(σ[k]?).join
noncomputable def pJ (scope sc:Scope):Bool:=scope.names.all fun y=>(!(y.2==NameKind.free) || sc.names.lookup y.1==some NameKind.cell) && !(y.2==NameKind.cell) && (!(y.2==NameKind.local) || scope.names.lookup y.1==some NameKind.local)
noncomputable def mV (N M:List Str) (scope sc:Scope) (cap:List (Option Nat)):Bool:=cap.length==N.length && (cap.zip N).all fun y=>match y.1 with
 | none=>true
 | some k=>M[k]? ==some y.2 && sc.names.lookup y.2==some NameKind.cell && scope.names.lookup y.2==some NameKind.free
theorem iV {env:Env} (hf:env.scope.kind= .function):∀ {names:List (Str × NameKind)} {x:Str},names.lookup x=some .free→env.kindOf x=some .cell→
  (names.map fun (n,k)=>if (k==NameKind.free && env.scope.kind== .function && env.kindOf n==some .cell) then (n,NameKind.cell) else (n,k)).lookup x=some .cell
 | [],x,h,_=>by simp at h
 | (n,k)::r,x,h,hc=>by
  rw [bX]; cases hx:x==n with
  | true=>
   have e:x=n:=by simpa using hx
   subst e; rw [dQ] at h; simp only [beq_self_eq_true] at h; have ek:k= .free:=cT.inj h; subst ek; have hb:(NameKind.free==NameKind.free && env.scope.kind== .function && env.kindOf x==some .cell)=true:=by rw [hf,hc]; rfl
   show List.lookup x ((if (NameKind.free==NameKind.free && env.scope.kind== .function && env.kindOf x==some .cell)=true then (x,NameKind.cell) else (x,NameKind.free))::_)=_; rw [if_pos hb,dQ]; simp only [beq_self_eq_true]
  | false=>
   rw [dQ] at h; simp only [hx] at h; have ih:=iV hf (names:=r) h hc
   by_cases hb:(k==NameKind.free && env.scope.kind== .function && env.kindOf n==some .cell)=true
   ·simp only [hb,if_true,dQ,hx]; exact ih
   ·have hb':(k==NameKind.free && env.scope.kind== .function && env.kindOf n==some .cell)=false:=by simpa using hb
    simp only [hb',pC,if_false,dQ,hx]; exact ih
theorem Inv.low {X:Cx} {pins:List (Addr × Obj)} {σ:St} {H:Hp} {s:Shared} (I:Inv X pins σ H s):∀b∈frs X.stack,b<s.heap.objs.size:=fun b hb=>by obtain ⟨_,o,ho,_⟩:=I.stack.mem hb; exact bA ho
theorem comp_runX {X:Cx} {pins:List (Addr × Obj)} {σ:St} {H:Hp} {s:Shared} {elt tg iter:Expr} {ifs:List Expr} {scope:Scope} {pos:Pos} {N:List Str} {cap:List (Option Nat)} {g:TG} {tt:TT} {te:TE} {J:It} {fp:List Addr} {it:Addr} {tn:Nat→Heap→Prop} {E:Value→Shared→Prop} {sc:Scope} (ξ:List (Str × Addr)→Addr→Value→Shared→Prop) (ξ':List (Str × Addr)→Addr→Value→Hp→Shared→Prop)
  (hc:X.calm=true) (hsc:X.env.scope=sc) (hcn:pJ scope sc=true) (hcap:mV N X.N scope sc cap=true) (hk:scope.kind= .function)
  (I:Inv X pins σ H s) (T:xJ X.prog X.w X.K tg J fp it tn) (st:tn 0 s.heap) (hfp:∀b∈fp,vZ X pins H b)
  (hg:∀cl C,PG (nK X N scope cl C fp s H (ξ cl C)) tg g) (ht:∀cl C pi s2 σ2 H2 Q,Inv (nK X N scope cl C fp s H (ξ cl C)) pi σ2 H2 s2→tt σ2 H2 Q→wpAny (model X.prog X.w) X.A (forIn ifs true fun c r=>if r=true then do let ok ← isTrue c (compEnvC scope cl C X.env) (eval c (compEnvC scope cl C X.env)); pure (ForInStep.yield ok) else pure (ForInStep.yield r)) (TP (nK X N scope cl C fp s H (ξ cl C)) pi σ2 Q) (ξ cl C) s2)
  (he:∀cl C,PE (nK X N scope cl C fp s H (ξ cl C)) elt te) (W:Nat→Nat→List V→St→Hp→Prop) (m0:Nat) (w0:W 0 m0 [] (tM cap σ) H)
  (RR:Value→Addr→Result→Shared→Prop)
  (hξ:∀cl C e s',ξ cl C e s'→∃pi σb H',Inv (nK X N scope cl C fp s H (ξ cl C)) pi σb H' s'∧ξ' cl C e H' s')
  (hx:∀cl D C e H' s',ξ' cl C e H' s'→H' C=none→X.s₀.heap.objs.size≤C→C≠X.env.locals→(∀x c,X.env.cells.lookup x=some c→c≠C)→(∀p∈X.pn++pins,p.1≠C)→C∉frs X.stack→(∃m,s'.heap.Ns C m)→Inv X pins σ H' s'→notedBy (model X.prog X.w) X.A (compEnvC scope cl C X.env) (fun e s''=>RR (.ref D) C (.error e) s'') e s')
  (turn:∀i m ys σb H2,W i m ys σb H2→
   (J.stop i H2∧∀D C s',H2 D=none→H2 C=none→D≠C→X.s₀.heap.objs.size≤C→C≠X.env.locals→(∀x c,X.env.cells.lookup x=some c→c≠C)→(∀p∈X.pn++pins,p.1≠C)→C∉frs X.stack→(∃m,s'.heap.Ns C m)→Inv X pins σ (upd H2 D (.lst ys)) s'→RR (.ref D) C (.ok .next) s')∨
   (J.go i H2∧ys.length<sizeLine∧∃Nx:List V→St→Hp→Prop,(∀ys' σ' H',Nx ys' σ' H'→∃m',m'<m∧W (i+1) m' ys' σ' H')∧
    ∀x H',J.yld i H2 x H'→g x σb H' fun σ2 H3=>tt σ2 H3 fun b H4=>if b=true then te σ2 H4 fun v H5=>Nx (ys++[v]) σ2 H5 else Nx ys σ2 H4)):
  wpAny (model X.prog X.w) X.A (newList []) (fun acc s₃=>wpAny (model X.prog X.w) X.A (newFunctionEnv scope X.env.globals (clo X.env.cells scope.names []) [] X.env.qual none .none (some X.env)) (fun cenv s₄=>
   codeAny (model X.prog X.w) X.A (.compStart (.ListComp elt [⟨tg,iter,ifs,0⟩] scope pos) 0 (.ref it) acc {cenv with scope:=relabel scope X.env}) (RR acc cenv.locals) s₄) E s₃) E s:=by
 have nm:∀y∈scope.names,(y.2=NameKind.free→sc.names.lookup y.1=some NameKind.cell)∧y.2≠NameKind.cell∧(y.2=NameKind.local→scope.names.lookup y.1=some NameKind.local):=fun y hy=>by have q:=bD.mp hcn y hy; simp only [aP,kJ,qE,beq_eq_false_iff_ne,ne_eq,beq_iff_eq] at q; exact ⟨fun e=>q.1.1.resolve_left fun z=>z e,q.1.2,fun e=>q.2.resolve_left fun z=>z e⟩
 have fre:∀y∈scope.names,y.2= .free→∃c,X.env.cells.lookup y.1=some c:=fun y hy e=>I.ok.has y.1 (.inl (by show X.env.scope.names.lookup y.1=_; rw [hsc]; exact (nm y hy).1 e))
 generalize hcl:clo X.env.cells scope.names []=cl
 have csub:∀x c,cl.lookup x=some c→X.env.cells.lookup x=some c:=fun x c e=>by
  rw [← hcl] at e
  rcases yA _ _ _ _ _ e with z | ⟨z1,z2⟩
  ·simp at z
  ·obtain ⟨c',q⟩:=fre _ z1 rfl; rw [q] at z2; rw [q,z2]; rfl
 have chas:∀x,((relabel scope X.env).names.lookup x=some .cell∨(relabel scope X.env).names.lookup x=some .free)→∃c,cl.lookup x=some c:=fun x e=>by
  rcases oU e with z | z
  ·exact absurd rfl (nm _ (PySem.mem_of_lookup z)).2.1
  ·rw [← hcl]; exact clo_has _ _ _ _ (.inl (PySem.mem_of_lookup z))
 have cexi:∀x c,cl.lookup x=some c→c<s.heap.objs.size:=fun x c e=>by obtain ⟨v,o,ho,_⟩:=I.cell x c (csub x c e); exact bA ho
 have cexX:∀x c,X.env.cells.lookup x=some c→c<s.heap.objs.size:=fun x c e=>by obtain ⟨v,o,ho,_⟩:=I.cell x c e; exact bA ho
 have pexX:∀p∈X.pn++pins,p.1<s.heap.objs.size:=fun p hp=>bA (I.pin p hp).1
 have flow:∀b∈fp,b<s.heap.objs.size:=fun b hb=>by obtain ⟨o,ho,_⟩:=T.obj 0 _ st b hb; exact bA ho
 have fstk:∀b∈fp,b∉frs X.stack:=fun b hb z=>by
  obtain ⟨_,f1,f2,_⟩:=hfp b hb
  rcases cJ.mp (I.stkSub b z) with q | q
  ·exact f1 q
  ·exact f2 q
 have hkr:(relabel scope X.env).kind= .function:=hk; refine wpAny_newObj_type (wpAny_newFunctionEnv (fun y hy=>(nm y hy).2.1) (by intro y hy; simp at hy) (fun h₁ hns₁ hsb₁=> ?_) hk); dsimp only at hns₁ hsb₁ ⊢; generalize hH2:s.heap.push {cls:= .type "list",dict:=none,data:= .seq ([]:List Value).toArray}=G2 at hns₁ hsb₁ ⊢; have hC:G2.objs.size=s.heap.objs.size+1:=by rw [← hH2,Heap.size_push]
 have hDC:s.heap.objs.size≠G2.objs.size:=by rw [hC]; exact cG (Nat.lt_succ_self _)
 have hCle:s.heap.objs.size≤G2.objs.size:=by rw [hC]; exact Nat.le_succ _
 have neC:∀b,b<s.heap.objs.size→b≠G2.objs.size:=fun b hb=>by rw [hC]; exact cG (Nat.lt_succ_of_lt hb)
 have old:∀b o,s.heap.get? b=some o→h₁.get? b=some o:=fun b o e=>hsb₁.extBut b o (neC b (bA e)) (aM _ (hH2▸aM _ e))
 have hacc:h₁.get? s.heap.objs.size=some {cls:= .type "list",dict:=none,data:= .seq ([]:List Value).toArray}:=hsb₁.extBut _ _ hDC (aM _ (hH2▸bF _ rfl)); have env_eq:({newEnv scope G2.objs.size X.env.globals cl X.env.qual none .none (some X.env) 0 with scope:=relabel scope X.env}:Env)=compEnvC scope cl G2.objs.size X.env:=rfl; generalize hDD:s.heap.objs.size=D at *; generalize hCC:G2.objs.size=C at *
 have okX:(nK X N scope cl C fp s H (ξ cl C)).Ok:=by
  refine ⟨I.mod,hkr,I.ok.glob,I.ok.blt, ?_,fun x y c a b=>I.ok.inj x y c (csub x c a) (csub y c b),chas,(fun x c z=>nomatch z),fun _=>I.ok.hd hc,I.ok.frames, .inl rfl,fun b hb=>⟨neC b (flow b hb),fun x c e=>(hfp b hb).2.2.2.2.1 x c (csub x c e)⟩,I.bs, ?_,fun b o e hb=> ?_,fstk,I.stack,I.stkFree⟩
  ·show s.heap.objs.size≤C; rw [hDD]; exact hCle
  ·exact cA I.ok.bsz I.sz
  ·rcases (hfp b hb).2.2.2.1 with z | z
   ·exact I.ok.noex b o e z
   ·exact absurd (bQ (bA e) (cA I.ok.bsz z)) (gT _)
 have capE:∀ (i:Nat) (x:Str) (v:V),N[i]? =some x→(tM cap σ)[i]? =some (some v)→∃k:Nat,X.N[k]? =some x∧σ[k]? =some (some v)∧sc.names.lookup x=some .cell∧scope.names.lookup x=some .free:=fun i x v e1 e2=>by
  unfold mV at hcap; rw [aP] at hcap; unfold tM at e2; rw [aI] at e2; cases q:cap[i]? with
  | none=>rw [q] at e2; cases e2
  | some o=>
   rw [q] at e2; have e2:(o.bind fun k=>(σ[k]?).join)=some v:=cT.inj e2; cases o with
   | none=>cases e2
   | some k=>
    have e2:(σ[k]?).join=some v:=e2
    have mz:(some k,x)∈cap.zip N:=by refine aV (i:=i) ?_; rw [lF]; exact ⟨q,e1⟩
    have z:=bD.mp hcap.2 _ mz; simp only [aP,beq_iff_eq] at z; refine ⟨k,z.1.1, ?_,z.1.2,z.2⟩; cases w:σ[k]? with
    | none=>rw [w] at e2; cases e2
    | some o'=>rw [w] at e2; have e2:o'=some v:=e2; rw [e2]
 have I0:Inv (nK X N scope cl C fp s H (ξ cl C)) [(D,{cls:= .type "list",dict:=none,data:= .seq ([]:List Value).toArray})] (tM cap σ) H {s with heap:=h₁,toks:=s.toks+([]:List (Str × Value)).length}:=by
  have dfree:H D=none:=I.hok.fresh (Nat.le_of_eq hDD); refine ⟨okX,rfl,I.bare,Un.kept old,⟨_,hns₁,fun i x v e1 e2 e3=> ?_⟩,fun x c e=> ?_,I.hok.fresh (by rw [hDD]; exact hCle),fun x c e=>I.freeC x c (csub x c e),fun p hp=> ?_,I.hok.kept old, ?_⟩
  ·obtain ⟨k,q1,q2,q3,q4⟩:=capE i x v e1 e2; have q3':X.env.scope.names.lookup x=some .cell:=by rw [hsc]; exact q3
   obtain ⟨m,_,hl⟩:=I.loc; obtain ⟨u,ru,lk⟩:=hl k x v q1 q2 (.inr (.inl q3')); refine ⟨u,ru, .inr ⟨.inl (iV I.ok.kind q4 q3'), ?_⟩⟩
   rcases lk with ⟨z,_⟩ | ⟨_,c,z,ic⟩
   ·have z':X.env.scope.names.lookup x=some .local:=z; rw [q3'] at z'; cases z'
   ·obtain ⟨c',hc'⟩:=chas x (.inl (iV I.ok.kind q4 q3')); have:=csub x c' hc'; rw [z] at this; have ec:c=c':=cT.inj this; subst ec; obtain ⟨o,ho,hd⟩:=ic; exact ⟨c,hc',o,old c o ho,hd⟩
  ·obtain ⟨v,o,ho,hd⟩:=I.cell x c (csub x c e); exact ⟨v,o,old c o ho,hd⟩
  ·have hp':p=(D,{cls:= .type "list",dict:=none,data:= .seq ([]:List Value).toArray}):=by simpa [nK,cxB] using hp
   subst hp'; refine ⟨hacc,dfree,hDC,fun z=> ?_,fun v z=>by cases z⟩; have:=I.low D z; rw [hDD] at this; exact gT _ this
  ·show (tM cap σ).length=N.length; unfold mV at hcap; rw [aP] at hcap; unfold tM; rw [aB]; simpa using hcap.1
 have dlow:∀b,b<D→b≠D:=fun b hb=>cG hb
 have loop:∀s₃:Shared,s₃={s with heap:=h₁,toks:=s.toks+([]:List (Str × Value)).length}→
   codeAny (model X.prog X.w) X.A (.compLoop (.ListComp elt [⟨tg,iter,ifs,0⟩] scope pos) 0 (.ref it) (.ref D) (compEnvC scope cl C X.env)) (RR (.ref D) C) s₃:=by
  rintro s₃ rfl
  refine comp_loop (ξ cl C) (fun e s' z=> ?_) (fun n s'=>∃ (i:Nat) (ys:List V) (σb:St) (H2:Hp) (its:List Value) (nn:Nat),Inv (nK X N scope cl C fp s H (ξ cl C)) [(D,{cls:= .type "list",dict:=none,data:= .seq its.toArray nn})] σb H2 s'∧tn i s'.heap∧(∀b∈fp,H2 b=none)∧Vals ys its∧ys.length≤sizeLine∧W i n ys σb H2) ?_ m0
   ⟨0,[],tM cap σ,H,[],0,I0,T.keep 0 _ _ st fun b hb o e=>old b o e,fun b hb=>(hfp b hb).1, .nil,cW _,w0⟩
  ·obtain ⟨pi,σb,H',I',z'⟩:=hξ cl C e s' z; obtain ⟨m4,ns4,_⟩:=id I'.loc; have J0:Inv X pins σ H' s':=I.call' (ch:=fp) I'.os I'.base I'.hok I'.bare fun b hb=>⟨(hfp b hb).2.2.2.1,(hfp b hb).2.1,(hfp b hb).2.2.2.2.1,(hfp b hb).2.2.2.2.2⟩
   have hLD:X.env.locals<D:=by rw [← hDD]; exact I.lt
   exact hx cl D C e H' s' z' I'.free (cA I.sz (by rw [hDD]; exact hCle)) (jR (bQ hLD hCle)) (fun x c e=>neC c (cexX x c e)) (fun p hp=>neC _ (pexX p hp)) (fun z=>absurd (I.low C z) (by rw [hDD]; exact Nat.not_lt.mpr hCle)) ⟨m4,ns4⟩ J0
  rintro n s3 ⟨i,ys,σ3,H3,its,nn,I3,st3,fr3,rv3,hlen,w3⟩
  have fpX:∀ {H':Hp} {its':List Value} {nn':Nat},(∀b∈fp,H' b=none)→∀b∈fp,vZ (nK X N scope cl C fp s H (ξ cl C)) [(D,{cls:= .type "list",dict:=none,data:= .seq its'.toArray nn'})] H' b:=fun {H' its' nn'} hn b hb=>by
   refine ⟨hn b hb,neC b (flow b hb),fstk b hb, .inl hb,fun x c e=>(hfp b hb).2.2.2.2.1 x c (csub x c e),fun p hp=> ?_⟩
   have hp':p.1=D:=by have q:p∈([]:List (Addr × Obj))++[(D,{cls:= .type "list",dict:=none,data:= .seq its'.toArray nn'})]:=hp; rw [List.nil_append,aR] at q; rw [q]
   rw [hp']; exact Ne.symm (dlow b (flow b hb))
  rcases turn i n ys σ3 H3 w3 with ⟨stop,fin⟩ | ⟨go,hsz,Nx,hN,step⟩
  ·refine thn (T.done (nK X N scope cl C fp s H (ξ cl C)) rfl rfl rfl rfl i _ s3 σ3 H3 (ξ cl C) I3 (fpX fr3) st3 stop) fun r s4 ⟨hr,I4⟩=> ?_
   subst hr; obtain ⟨m4,ns4,_⟩:=id I4.loc; have J0:Inv X pins σ H3 s4:=I.call' (ch:=fp) I4.os I4.base I4.hok I4.bare fun b hb=>⟨(hfp b hb).2.2.2.1,(hfp b hb).2.1,(hfp b hb).2.2.2.2.1,(hfp b hb).2.2.2.2.2⟩
   obtain ⟨pd,pn,_⟩:=I4.pin (D,_) (aX _ bB); have hLD:X.env.locals<D:=by rw [← hDD]; exact I.lt
   refine fin D C s4 pn I4.free hDC (cA I.sz (by rw [hDD]; exact hCle)) (jR (bQ hLD hCle)) (fun x c e=>neC c (cexX x c e)) (fun p hp=>neC _ (pexX p hp)) (fun z=>absurd (I.low C z) (by rw [hDD]; exact Nat.not_lt.mpr hCle)) ⟨m4,ns4⟩ ?_; refine J0.track pn (by rw [← hDD]; exact I.sz) (jR hLD) (fun x c e=>dlow c (cexX x c e)) (fun p hp=>dlow _ (pexX p hp)) ?_; exact ⟨hlen,its,nn,rv3,pd⟩
  ·refine thn (T.item (nK X N scope cl C fp s H (ξ cl C)) rfl rfl rfl rfl i _ s3 σ3 H3 (ξ cl C) I3 (fpX fr3) st3 go) fun r s4 ⟨u,hr,h4⟩=> ?_
   subst hr; refine thn h4 fun _ s5 ⟨x,H5,I5,r5,y5,st5,fr5⟩=> ?_
   have I5':=I5.pinned (fpX fr5) (T.obj _ _ st5); refine thn (hg cl C _ s5 σ3 H5 x u _ I5' r5 (step x H5 y5)) fun _ s6 ⟨σ6,H6,I6,q6⟩=> ?_
   refine thn (ht cl C _ s6 σ6 H6 _ I6 q6) fun b s7 ⟨H7,I7,q7⟩=> ?_
   have tnK:∀ {σ7:St} {H7:Hp} {s7:Shared},Inv (nK X N scope cl C fp s H (ξ cl C)) ([(D,{cls:= .type "list",dict:=none,data:= .seq its.toArray nn})]++mG fp s5.heap) σ7 H7 s7→tn (i+1) s7.heap∧∀b∈fp,H7 b=none:=fun {σ7 H7 s7} I7=>by refine ⟨T.keep _ _ _ st5 fun b hb o e=>(I7.pin (b,o) (aX _ (aX _ (jB hb e)))).1,fun b hb=> ?_⟩; obtain ⟨o,e,d⟩:=T.obj _ _ st5 b hb; exact (I7.pin (b,o) (aX _ (aX _ (jB hb e)))).2.1
   cases b with
   | false=>have q7':Nx ys σ6 H7:=q7; obtain ⟨m',hm,w7⟩:=hN _ _ _ q7'; obtain ⟨t7,f7⟩:=tnK I7; exact ⟨m',hm,i+1,ys,σ6,H7,its,nn,I7.unpinned,t7,f7,rv3,hlen,w7⟩
   | true=>
    have q7':te σ6 H7 fun v H5=>Nx (ys++[v]) σ6 H5:=q7
    refine thn (he cl C _ s7 σ6 H7 _ I7 q7') fun y s8 ⟨v,H8,I8,r8,q8⟩=> ?_
    obtain ⟨m',hm,w8⟩:=hN _ _ _ q8; obtain ⟨pd,pn,pL,pf,pc⟩:=I8.pin (D,{cls:= .type "list",dict:=none,data:= .seq its.toArray nn}) (aX _ (dH _ bB)); have hits:its.length=ys.length:=rv3.length.symm; refine wpAny_list_append_plain (items:=its.toArray) ⟨nn,pd⟩ (fun h9 pl9 sb9=> ?_) (by rw [aK,hits]; exact eZ hsz); obtain ⟨n9,e9⟩:=pl9
    have e9':h9.get? D=some {cls:= .type "list",dict:=none,data:= .seq (its++[y]).toArray n9}:=by rw [e9]; simp
    have I8':Inv (nK X N scope cl C fp s H (ξ cl C)) (mG fp s5.heap) σ6 H8 s8:=I8.pins_of fun p hp=>I8.pin p (aX _ (aX _ hp))
    have I9:Inv (nK X N scope cl C fp s H (ξ cl C)) (mG fp s5.heap) σ6 H8 {s8 with heap:=h9,toks:=s8.toks}:=I8'.turned (it:=D) (fun b o hb e=>sb9.extBut b o hb e) pn hDC (.inr (by rw [← hDD]; exact aZ _)) (fun x c e=>dlow c (cexi x c e)) fun p hp=>by
     have hp':p∈mG fp s5.heap:=by simpa [nK,cxB] using hp
     exact dlow _ (flow _ (pR hp').1)
    have tn9:tn (i+1) h9:=T.keep _ _ _ st5 fun b hb o e=>(I9.pin (b,o) (aX _ (jB hb e))).1
    have fr9:∀b∈fp,H8 b=none:=fun b hb=>by obtain ⟨o,e,d⟩:=T.obj _ _ st5 b hb; exact (I9.pin (b,o) (aX _ (jB hb e))).2.1
    refine ⟨m',hm,i+1,ys++[v],σ6,H8,its++[y],n9,I9.pins_of fun p hp=> ?_,tn9,fr9,Vals.append rv3 (.cons r8 .nil),by rw [aN]; exact hsz,w8⟩; have hp':p=(D,{cls:= .type "list",dict:=none,data:= .seq (its++[y]).toArray n9}):=aR.mp hp; subst hp'; exact ⟨e9',pn,pL,pf,fun v z=>by cases z⟩
 exact codeAny_compStart_list (loop _ rfl) (T.self _ 0 _ _ _ (T.keep 0 _ _ st fun b hb o e=>old b o e) (loop _ rfl))
theorem comp_run {X:Cx} {pins:List (Addr × Obj)} {σ:St} {H:Hp} {s:Shared} {elt tg iter:Expr} {ifs:List Expr} {scope:Scope} {pos:Pos} {N:List Str} {cap:List (Option Nat)} {g:TG} {tt:TT} {te:TE} {J:It} {fp:List Addr} {it:Addr} {tn:Nat→Heap→Prop} {E:Value→Shared→Prop} {sc:Scope}
  (hc:X.calm=true) (hsc:X.env.scope=sc) (hcn:pJ scope sc=true) (hcap:mV N X.N scope sc cap=true) (hk:scope.kind= .function)
  (I:Inv X pins σ H s) (T:xJ X.prog X.w X.K tg J fp it tn) (st:tn 0 s.heap) (hfp:∀b∈fp,vZ X pins H b)
  (hg:∀cl C,PG (cxB X N scope cl C fp s H) tg g) (ht:∀cl C pi s2 σ2 H2 Q,Inv (cxB X N scope cl C fp s H) pi σ2 H2 s2→tt σ2 H2 Q→wpAny (model X.prog X.w) X.A (forIn ifs true fun c r=>if r=true then do let ok ← isTrue c (compEnvC scope cl C X.env) (eval c (compEnvC scope cl C X.env)); pure (ForInStep.yield ok) else pure (ForInStep.yield r)) (TP (cxB X N scope cl C fp s H) pi σ2 Q) (fun _ _=>False) s2)
  (he:∀cl C,PE (cxB X N scope cl C fp s H) elt te) (W:Nat→Nat→List V→St→Hp→Prop) (m0:Nat) (w0:W 0 m0 [] (tM cap σ) H)
  (RR:Value→Addr→Result→Shared→Prop)
  (turn:∀i m ys σb H2,W i m ys σb H2→
   (J.stop i H2∧∀D C s',H2 D=none→H2 C=none→D≠C→X.s₀.heap.objs.size≤C→C≠X.env.locals→(∀x c,X.env.cells.lookup x=some c→c≠C)→(∀p∈X.pn++pins,p.1≠C)→C∉frs X.stack→(∃m,s'.heap.Ns C m)→Inv X pins σ (upd H2 D (.lst ys)) s'→RR (.ref D) C (.ok .next) s')∨
   (J.go i H2∧ys.length<sizeLine∧∃Nx:List V→St→Hp→Prop,(∀ys' σ' H',Nx ys' σ' H'→∃m',m'<m∧W (i+1) m' ys' σ' H')∧
    ∀x H',J.yld i H2 x H'→g x σb H' fun σ2 H3=>tt σ2 H3 fun b H4=>if b=true then te σ2 H4 fun v H5=>Nx (ys++[v]) σ2 H5 else Nx ys σ2 H4)):
  wpAny (model X.prog X.w) X.A (newList []) (fun acc s₃=>wpAny (model X.prog X.w) X.A (newFunctionEnv scope X.env.globals (clo X.env.cells scope.names []) [] X.env.qual none .none (some X.env)) (fun cenv s₄=>
   codeAny (model X.prog X.w) X.A (.compStart (.ListComp elt [⟨tg,iter,ifs,0⟩] scope pos) 0 (.ref it) acc {cenv with scope:=relabel scope X.env}) (RR acc cenv.locals) s₄) E s₃) E s:=
 comp_runX (fun _ _ _ _=>False) (fun _ _ _ _ _=>False) hc hsc hcn hcap hk I T st hfp hg ht he W m0 w0 RR (fun _ _ _ _ z=>z.elim) (fun _ _ _ _ _ _ z=>z.elim) turn
end L2
namespace DL
open PySem PySem.Spec PyProof.Rows L2
noncomputable abbrev St:=L2.St
inductive D where
 | non | bl (b:Bool) | int (i:Int) | str (x:Str) | tup (ds:List D) | lst (ds:List D) | dic | scr (ns:List Int) | dki (ks:List Key) (ds:List D) | any (G:V→Hp→Prop)
mutual
noncomputable def Rep (K:aD) (H:Hp):D→V→Prop
 | .non,v=>v= .non
 | .bl b,v=>v= .bl b
 | .int i,v=>v= .int i
 | .str x,v=>v= .str x
 | .tup ds,v=>∃a xs,v= .ref a∧H a=some (.tup xs)∧RepL K H ds xs
 | .lst ds,v=>∃a xs,v= .ref a∧H a=some (.lst xs)∧RepL K H ds xs
 | .dic,v=>∃a,v= .ref a∧H a=some (.dK [])
 | .dki ks ds,v=>∃a xs,v= .ref a∧(∃ob,H a=some (.frz ob (.dK (ks.zip xs))))∧ks.length=ds.length∧RepL K H ds xs
 | .scr ns,v=>∃a,v= .ref a∧SqL K H a (ns.map V.int)
 | .any G,v=>(∃a,v= .ref a)∧∀H',Same H H'→G v H'
noncomputable def RepL (K:aD) (H:Hp):List D→List V→Prop
 | [],xs=>xs=[]
 | d::ds,xs=>∃y ys,xs=y::ys∧Rep K H d y∧RepL K H ds ys
end
mutual
theorem Rep.mono {K:aD} {H H':Hp} (h:Same H H'):∀ {d:D} {v:V},Rep K H d v→Rep K H' d v
 | .non,_,r=>by simpa only [Rep] using r
 | .bl _,_,r=>by simpa only [Rep] using r
 | .int _,_,r=>by simpa only [Rep] using r
 | .str _,_,r=>by simpa only [Rep] using r
 | .tup ds,v,r=>by simp only [Rep] at r ⊢; obtain ⟨a,xs,e,q,rl⟩:=r; exact ⟨a,xs,e,h _ _ q,RepL.mono h rl⟩
 | .lst ds,v,r=>by simp only [Rep] at r ⊢; obtain ⟨a,xs,e,q,rl⟩:=r; exact ⟨a,xs,e,h _ _ q,RepL.mono h rl⟩
 | .dki ks ds,v,r=>by simp only [Rep] at r ⊢; obtain ⟨a,xs,e,⟨ob,q⟩,l,rl⟩:=r; exact ⟨a,xs,e,⟨ob,h _ _ q⟩,l,RepL.mono h rl⟩
 | .dic,v,r=>by simp only [Rep] at r ⊢; obtain ⟨a,e,q⟩:=r; exact ⟨a,e,h _ _ q⟩
 | .any G,v,r=>by simp only [Rep] at r ⊢; exact ⟨r.1,fun H2 s=>r.2 H2 (h.trans s)⟩
 | .scr ns,v,r=>by simp only [Rep] at r ⊢; obtain ⟨a,e,q⟩:=r; exact ⟨a,e,h.seq q⟩
theorem RepL.mono {K:aD} {H H':Hp} (h:Same H H'):∀ {ds:List D} {xs:List V},RepL K H ds xs→RepL K H' ds xs
 | [],_,r=>by simpa only [RepL] using r
 | d::ds,xs,r=>by simp only [RepL] at r ⊢; obtain ⟨y,ys,e,q,rl⟩:=r; exact ⟨y,ys,e,Rep.mono h q,RepL.mono h rl⟩
end
theorem RepL.len {K:aD} {H:Hp}:∀ {ds:List D} {xs:List V},RepL K H ds xs→xs.length=ds.length
 | [],_,r=>by simp only [RepL] at r; rw [r]; rfl
 | d::ds,xs,r=>by simp only [RepL] at r; obtain ⟨y,ys,rfl,_,q⟩:=r; simp only [cR,RepL.len q]
theorem RepL.get {K:aD} {H:Hp}:∀ {ds:List D} {xs:List V} {i:Nat} {d:D},RepL K H ds xs→ds[i]? =some d→∃v,xs[i]? =some v∧Rep K H d v
 | [],_,i,d,r,e=>by simp at e
 | d'::ds,xs,i,d,r,e=>by
  simp only [RepL] at r; obtain ⟨y,ys,rfl,q,rl⟩:=r; cases i with
  | zero=>simp at e; subst e; exact ⟨y,rfl,q⟩
  | succ i=>
   have e':ds[i]? =some d:=by simpa using e
   obtain ⟨v,h1,h2⟩:=RepL.get rl e'; exact ⟨v,by simpa using h1,h2⟩
theorem RepL.app {K:aD} {H:Hp}:∀ {ds es:List D} {xs ys:List V},RepL K H ds xs→RepL K H es ys→RepL K H (ds++es) (xs++ys)
 | [],es,xs,ys,r,q=>by simp only [RepL] at r; subst r; exact q
 | d::ds,es,xs,ys,r,q=>by simp only [RepL] at r; obtain ⟨y,zs,rfl,a,rl⟩:=r; show RepL K H (d::(ds++es)) (y::(zs++ys)); simp only [RepL]; exact ⟨y,_,rfl,a,RepL.app rl q⟩
theorem RepL.nil {K:aD} {H:Hp}:RepL K H [] []:=by simp only [RepL]
theorem RepL.cons {K:aD} {H:Hp} {d:D} {ds:List D} {x:V} {xs:List V} (a:Rep K H d x) (b:RepL K H ds xs):RepL K H (d::ds) (x::xs):=by simp only [RepL]; exact ⟨x,xs,rfl,a,b⟩
theorem RepL.one {K:aD} {H:Hp} {d:D} {x:V} (a:Rep K H d x):RepL K H [d] [x]:= .cons a .nil
theorem RepL.uncons {K:aD} {H:Hp} {d:D} {ds:List D} {xs:List V} (r:RepL K H (d::ds) xs):∃y ys,xs=y::ys∧Rep K H d y∧RepL K H ds ys:=by simpa only [RepL] using r
theorem RepL.take {K:aD} {H:Hp}:∀ {ds:List D} {xs:List V} (n:Nat),RepL K H ds xs→RepL K H (ds.take n) (xs.take n)
 | _,_,0,_=>by simp only [jM]; exact .nil
 | [],xs,n+1,r=>by simp only [RepL] at r; subst r; exact .nil
 | d::ds,xs,n+1,r=>by obtain ⟨y,ys,rfl,a,rl⟩:=r.uncons; simp only [List.take_succ_cons]; exact .cons a (RepL.take n rl)
theorem RepL.drop {K:aD} {H:Hp}:∀ {ds:List D} {xs:List V} (n:Nat),RepL K H ds xs→RepL K H (ds.drop n) (xs.drop n)
 | _,_,0,r=>by simpa only [kX] using r
 | [],xs,n+1,r=>by simp only [RepL] at r; subst r; exact .nil
 | d::ds,xs,n+1,r=>by obtain ⟨y,ys,rfl,a,rl⟩:=r.uncons; simp only [List.drop_succ_cons]; exact RepL.drop n rl
theorem RepL.ints {K:aD} {H:Hp}:∀ {ns:List Int} {xs:List V},RepL K H (ns.map D.int) xs→xs=ns.map V.int
 | [],xs,r=>by simpa only [hG,RepL] using r
 | n::ns,xs,r=>by rw [bX] at r; obtain ⟨y,ys,rfl,a,rl⟩:=r.uncons; simp only [Rep] at a; rw [a,RepL.ints rl]; rfl
inductive Slot where
 | un | val (d:D) | own (l:Addr) (ds:List D) | gh (d:D) (G:V→Hp→Prop) | od (l:Addr) (ks:List Key) (ds:List D) | ox (ls:List Addr) (G:V→Hp→Hp→Prop)
noncomputable def Wr (l:Addr):HO→Prop
 | .lst _=>True
 | .dK _=>True
 | .ext φ=>∃o:Obj,φ=(fun h=>h.get? l=some o)∧∀v,o.data≠ .cell v
 | _=>False
noncomputable def kP (K:aD) (F H:Hp):Slot→Option V→Prop
 | .un,_=>True
 | .val d,o=>∃v,o=some v∧Rep K F d v
 | .own l ds,o=>o=some (.ref l)∧F l=none∧∃xs,H l=some (.lst xs)∧RepL K F ds xs
 | .od l ks ds,o=>o=some (.ref l)∧F l=none∧∃xs,H l=some (.dK (ks.zip xs))∧ks.length=ds.length∧RepL K F ds xs
 | .gh d G,o=>∃v,o=some v∧Rep K F d v∧∀F',Same F F'→G v F'
 | .ox ls G,o=>∃v,o=some v∧(∀l∈ls,F l=none∧∃ob,H l=some ob∧Wr l ob)∧∀F' H',Same F F'→(∀l∈ls,∀ob,H l=some ob→H' l=some ob)→G v F' H'
noncomputable def SlotsOk (K:aD) (F H:Hp):List Slot→St→Prop
 | [],σ=>σ=[]
 | z::zs,σ=>∃o r,σ=o::r∧kP K F H z o∧SlotsOk K F H zs r
noncomputable def jG:Slot→List Addr
 | .own l _=>[l]
 | .od l _ _=>[l]
 | .ox ls _=>ls
 | _=>[]
noncomputable def cO (sd:List Slot):List Addr:=sd.flatMap jG
theorem sY (z:Slot) (zs:List Slot):cO (z::zs)=jG z++cO zs:=rfl
structure StF (K:aD) (H₀ F H:Hp) (σ:St) (sd:List Slot):Prop where
 base:Same H₀ F
 sub:Same F H
 smp:Smp H
 slots:SlotsOk K F H sd σ
 nd:(cO sd).Nodup
section
variable {K:aD} {H₀ F F' H H':Hp} {σ:St} {sd:List Slot}
theorem SlotsOk.get:∀ {sd:List Slot} {σ:St} {i:Nat} {z:Slot},SlotsOk K F H sd σ→sd[i]? =some z→∃o,σ[i]? =some o∧kP K F H z o
 | [],_,_,_,_,e=>by simp at e
 | z'::zs,σ,i,z,h,e=>by
  obtain ⟨o,r,rfl,a,b⟩:=h; cases i with
  | zero=>simp at e; subst e; exact ⟨o,rfl,a⟩
  | succ i=>obtain ⟨o',h1,h2⟩:=SlotsOk.get (i:=i) b (by simpa using e); exact ⟨o',by simpa using h1,h2⟩
theorem SlotsOk.set {z:Slot} {o:Option V} (q:kP K F H z o):∀ {sd:List Slot} {σ:St} (i:Nat),SlotsOk K F H sd σ→SlotsOk K F H (sd.set i z) (σ.set i o)
 | [],_,_,h=>by have h:_=_:=h; subst h; rfl
 | z'::zs,σ,i,h=>by
  obtain ⟨o',r,rfl,a,b⟩:=h; cases i with
  | zero=>exact ⟨o,r,rfl,q,b⟩
  | succ i=>exact ⟨o',_,rfl,a,SlotsOk.set q i b⟩
theorem SlotsOk.mono (hF:Same F F'):∀ {sd:List Slot} {σ:St},(∀l∈cO sd,F' l=none∧∀xs,H l=some xs→H' l=some xs)→SlotsOk K F H sd σ→SlotsOk K F' H' sd σ
 | [],_,_,h=>h
 | z::zs,σ,ho,h=>by
  obtain ⟨o,r,rfl,a,b⟩:=h; refine ⟨o,r,rfl, ?_,SlotsOk.mono hF (fun l hl=>ho l ?_) b⟩
  ·cases z with
   | un=>trivial
   | val d=>obtain ⟨v,e,q⟩:=a; exact ⟨v,e,q.mono hF⟩
   | gh d G=>obtain ⟨v,e,q,g⟩:=a; exact ⟨v,e,q.mono hF,fun F2 s2=>g F2 (hF.trans s2)⟩
   | own l ds=>obtain ⟨e,n,xs,q,rl⟩:=a; have:=ho l (by simp [sY,jG]); exact ⟨e,this.1,xs,this.2 _ q,rl.mono hF⟩
   | od l ks ds=>obtain ⟨e,n,xs,q,ln,rl⟩:=a; have:=ho l (by simp [sY,jG]); exact ⟨e,this.1,xs,this.2 _ q,ln,rl.mono hF⟩
   | ox ls G=>
    obtain ⟨v,e,h,g⟩:=a; have ho':∀l∈ls,F' l=none∧∀xs,H l=some xs→H' l=some xs:=fun l hl=>ho l (dH _ hl)
    exact ⟨v,e,fun l hl=>⟨(ho' l hl).1,let ⟨ob,q,w⟩:=(h l hl).2; ⟨ob,(ho' l hl).2 _ q,w⟩⟩,fun F2 H2 s2 k=>g F2 H2 (hF.trans s2) fun l hl ob q=>k l hl ob ((ho' l hl).2 _ q)⟩
  ·exact aX _ hl
theorem SlotsOk.owns:∀ {sd:List Slot} {σ:St} {l:Addr},SlotsOk K F H sd σ→l∈cO sd→F l=none∧∃ob,H l=some ob∧Wr l ob
 | [],_,_,_,e=>by simp [cO] at e
 | z::zs,σ,l,h,e=>by
  obtain ⟨o,r,rfl,a,b⟩:=h
  rcases bN.mp (show l∈jG z++cO zs from e) with e | e
  ·cases z with
   | un=>cases e
   | val d=>cases e
   | gh d G=>cases e
   | own l' ds=>rw [aR.mp e]; obtain ⟨_,n,xs,q,_⟩:=a; exact ⟨n,_,q,trivial⟩
   | od l' ks ds=>rw [aR.mp e]; obtain ⟨_,n,xs,q,_⟩:=a; exact ⟨n,_,q,trivial⟩
   | ox ls G=>obtain ⟨v,_,h,_⟩:=a; exact h l e
  ·exact SlotsOk.owns b e
theorem StF.lay {p:Addr} {o:HO} (S:StF K H₀ F H σ sd) (hp:H p=none) (ho:SmpO o):StF K H₀ (upd F p o) (upd H p o) σ sd∧Same F (upd F p o):=by
 have fp:F p=none:=S.sub.free hp; have s1:Same F (upd F p o):=fun b u e=>by rw [bM (cF e fp)]; exact e
 refine ⟨⟨fun b u e=>s1 _ _ (S.base _ _ e),fun b u e=> ?_,fun b u e=> ?_,S.slots.mono s1 fun l hl=> ?_,S.nd⟩,s1⟩
 ·by_cases h:b=p
  ·subst h; rw [bZ] at e ⊢; exact e
  ·rw [bM h] at e ⊢; exact S.sub _ _ e
 ·by_cases h:b=p
  ·subst h; rw [bZ] at e; cases e; exact ho
  ·rw [bM h] at e; exact S.smp _ _ e
 ·obtain ⟨n,xs,q,_⟩:=S.slots.owns hl; have hne:l≠p:=cF q hp; exact ⟨by rw [bM hne]; exact n,fun ys e=>by rw [bM hne]; exact e⟩
theorem StF.layO {p:Addr} {xs:List V} (S:StF K H₀ F H σ sd) (hp:H p=none):StF K H₀ F (upd H p (.lst xs)) σ sd∧F p=none∧p∉cO sd:=by
 have fp:F p=none:=S.sub.free hp; refine ⟨⟨S.base,fun b u e=> ?_,fun b u e=> ?_,S.slots.mono (Same.refl _) fun l hl=> ?_,S.nd⟩,fp,fun hl=> ?_⟩
 ·rw [bM (cF e fp)]; exact S.sub _ _ e
 ·by_cases h:b=p
  ·subst h; rw [bZ] at e; cases e; trivial
  ·rw [bM h] at e; exact S.smp _ _ e
 ·obtain ⟨n,ys,q,_⟩:=S.slots.owns hl; have hne:l≠p:=cF q hp; exact ⟨n,fun ys e=>by rw [bM hne]; exact e⟩
 ·obtain ⟨n,ys,q,_⟩:=S.slots.owns hl; rw [hp] at q; cases q
theorem StF.freeze {p:Addr} {xs:List V} (S:StF K H₀ F H σ sd) (hp:H p=some (.lst xs)) (fp:F p=none) (ho:p∉cO sd):StF K H₀ (upd F p (.lst xs)) H σ sd∧Same F (upd F p (.lst xs)):=by
 have s1:Same F (upd F p (.lst xs)):=fun b u e=>by rw [bM (cF e fp)]; exact e
 refine ⟨⟨fun b u e=>s1 _ _ (S.base _ _ e),fun b u e=> ?_,S.smp,S.slots.mono s1 fun l hl=> ?_,S.nd⟩,s1⟩
 ·by_cases h:b=p
  ·subst h; rw [bZ] at e; rw [hp]; exact e
  ·rw [bM h] at e; exact S.sub _ _ e
 ·obtain ⟨n,ys,q,_⟩:=S.slots.owns hl; have hne:l≠p:=fun z=>ho (z▸hl)
  exact ⟨by rw [bM hne]; exact n,fun ys e=>e⟩
theorem SlotsOk.len:∀ {sd:List Slot} {σ:St},SlotsOk K F H sd σ→σ.length=sd.length
 | [],_,h=>by have h:_=_:=h; rw [h]; rfl
 | z::zs,σ,h=>by obtain ⟨o,r,rfl,_,b⟩:=h; simp [SlotsOk.len b]
end
inductive R where
 | val (d:D) | own (ds:List D) | bor (ds:List D) | pr (d:D) (ls:List D) | ox (G:V→List Addr→Hp→Hp→Prop)
noncomputable def LOk (K:aD) (F H:Hp) (sd:List Slot) (v:V) (ds:List D):Prop:=
 ∃l xs,v= .ref l∧H l=some (.lst xs)∧RepL K F ds xs∧(F l=some (.lst xs)∨Slot.own l ds∈sd)
noncomputable def ResOk (K:aD) (F H:Hp) (sd:List Slot):R→V→Prop
 | .val d,v=>Rep K F d v
 | .own ds,v=>∃l xs,v= .ref l∧F l=none∧H l=some (.lst xs)∧RepL K F ds xs∧l∉cO sd
 | .bor ds,v=>LOk K F H sd v ds
 | .pr d ls,v=>∃t l xs y,v= .ref t∧F t=some (.tup [y, .ref l])∧Rep K F d y∧F l=none∧H l=some (.lst xs)∧RepL K F ls xs∧l∉cO sd
 | .ox G,v=>∃ls:List Addr,ls.Nodup∧(∀l∈ls,F l=none∧(∃ob,H l=some ob∧Wr l ob)∧l∉cO sd)∧∀F' H',Same F F'→(∀l∈ls,∀ob,H l=some ob→H' l=some ob)→G v ls F' H'
noncomputable def R.keeps:R→Prop
 | .own _=>False
 | .pr _ _=>False
 | .ox _=>False
 | _=>True
section
variable {K:aD} {H₀ F F' H H':Hp} {σ:St} {sd:List Slot} {r:R} {v:V}
theorem ResOk.keep (hr:r.keeps) (h:ResOk K F H sd r v) (S':StF K H₀ F' H' σ sd) (s:Same F F'):ResOk K F' H' sd r v:=by
 cases r with
 | val d=>exact Rep.mono s h
 | own ds=>exact hr.elim
 | pr d ls=>exact hr.elim
 | ox G=>exact hr.elim
 | bor ds=>
  obtain ⟨l,xs,e,hl,rl,q⟩:=h
  rcases q with q | q
  ·exact ⟨l,xs,e,S'.sub _ _ (s _ _ q),rl.mono s, .inl (s _ _ q)⟩
  ·obtain ⟨i,hi⟩:=cH q; obtain ⟨o,_,e2,_,ys,h1,h2⟩:=S'.slots.get hi; exact ⟨l,ys,e,h1,h2, .inr q⟩
end
structure PEd (X:Cx) (sd:List Slot) (e:Expr) (r:R):Prop where
 run:∀ (σ:St) (F H:Hp),StF X.K X.B₀ F H σ sd→
 wE X e σ H fun v H'=>∃F',StF X.K X.B₀ F' H' σ sd∧Same F F'∧ResOk X.K F' H' sd r v
instance {X:Cx} {sd:List Slot} {e:Expr} {r:R}:CoeFun (PEd X sd e r) (fun _=>∀ (σ:St) (F H:Hp),StF X.K X.B₀ F H σ sd→
 wE X e σ H fun v H'=>∃F',StF X.K X.B₀ F' H' σ sd∧Same F F'∧ResOk X.K F' H' sd r v):=⟨PEd.run⟩
structure PTd (X:Cx) (sd:List Slot) (e:Expr) (b:Bool):Prop where
 run:∀ (σ:St) (F H:Hp),StF X.K X.B₀ F H σ sd→
 wT X e σ H fun c H'=>c=b∧∃F',StF X.K X.B₀ F' H' σ sd∧Same F F'
instance {X:Cx} {sd:List Slot} {e:Expr} {b:Bool}:CoeFun (PTd X sd e b) (fun _=>∀ (σ:St) (F H:Hp),StF X.K X.B₀ F H σ sd→
 wT X e σ H fun c H'=>c=b∧∃F',StF X.K X.B₀ F' H' σ sd∧Same F F'):=⟨PTd.run⟩
structure PWd (X:Cx) (sd:List Slot) (e:Expr) (b:Bool):Prop where
 run:∀ (σ:St) (F H:Hp),StF X.K X.B₀ F H σ sd→
 wW X e σ H fun c H'=>c=b∧∃F',StF X.K X.B₀ F' H' σ sd∧Same F F'
instance {X:Cx} {sd:List Slot} {e:Expr} {b:Bool}:CoeFun (PWd X sd e b) (fun _=>∀ (σ:St) (F H:Hp),StF X.K X.B₀ F H σ sd→
 wW X e σ H fun c H'=>c=b∧∃F',StF X.K X.B₀ F' H' σ sd∧Same F F'):=⟨PWd.run⟩
inductive RsOk (K:aD) (F H:Hp) (sd:List Slot):List R→List V→Prop
 | nil:RsOk K F H sd [] []
 | cons {r v rs vs}:ResOk K F H sd r v→RsOk K F H sd rs vs→RsOk K F H sd (r::rs) (v::vs)
structure PAd (X:Cx) (sd:List Slot) (es:List Expr) (rs:List R):Prop where
 run:∀ (σ:St) (F H:Hp),StF X.K X.B₀ F H σ sd→
 wA X es σ H fun vs H'=>∃F',StF X.K X.B₀ F' H' σ sd∧Same F F'∧RsOk X.K F' H' sd rs vs
instance {X:Cx} {sd:List Slot} {es:List Expr} {rs:List R}:CoeFun (PAd X sd es rs) (fun _=>∀ (σ:St) (F H:Hp),StF X.K X.B₀ F H σ sd→
 wA X es σ H fun vs H'=>∃F',StF X.K X.B₀ F' H' σ sd∧Same F F'∧RsOk X.K F' H' sd rs vs):=⟨PAd.run⟩
structure jU where
 nx:List Slot→Prop
 rt:R→Prop
 bk:List Slot→Prop:=fun _=>False
 ct:List Slot→Prop:=fun _=>False
noncomputable def wX (K:aD) (H₀ H:Hp) (r:R) (v:V):Prop:=∃F,Same H₀ F∧Same F H∧Smp H∧ResOk K F H [] r v
noncomputable def lft (X:Cx) (F₀:Hp) (E:jU):sV where
 nx:=fun σ H=>∃sd F,StF X.K X.B₀ F H σ sd∧Same F₀ F∧E.nx sd
 rt:=fun v H=>∃r,wX X.K X.B₀ H r v∧E.rt r
 bk:=fun σ H=>∃sd F,StF X.K X.B₀ F H σ sd∧Same F₀ F∧E.bk sd
 ct:=fun σ H=>∃sd F,StF X.K X.B₀ F H σ sd∧Same F₀ F∧E.ct sd
structure PSd (X:Cx) (sd:List Slot) (sts:List Stmt) (E:jU):Prop where
 run:∀ (σ:St) (F H:Hp),StF X.K X.B₀ F H σ sd→wSs X sts (lft X F E) σ H
instance {X:Cx} {sd:List Slot} {sts:List Stmt} {E:jU}:CoeFun (PSd X sd sts E) (fun _=>∀ (σ:St) (F H:Hp),StF X.K X.B₀ F H σ sd→wSs X sts (lft X F E) σ H):=⟨PSd.run⟩
structure PSd1 (X:Cx) (sd:List Slot) (st:Stmt) (E:jU):Prop where
 run:∀ (σ:St) (F H:Hp),StF X.K X.B₀ F H σ sd→wS X st (lft X F E) σ H
instance {X:Cx} {sd:List Slot} {st:Stmt} {E:jU}:CoeFun (PSd1 X sd st E) (fun _=>∀ (σ:St) (F H:Hp),StF X.K X.B₀ F H σ sd→wS X st (lft X F E) σ H):=⟨PSd1.run⟩
section
variable {X:Cx} {sd:List Slot} {e a b c:Expr} {es:List Expr} {pos:Pos} {r ra rb:R} {d:D} {ds:List D}
theorem PEd.val (h:PEd X sd e (.own ds)):PEd X sd e (.val (.lst ds)):= .mk fun σ F H S=>(h σ F H S).imp fun v H' ⟨F',S',s,l,xs,e,n,q,rl,no⟩=>by obtain ⟨S2,s2⟩:=S'.freeze q n no; refine ⟨_,S2,s.trans s2, ?_⟩; show Rep _ _ _ _; simp only [Rep]; exact ⟨l,xs,e,bZ,rl.mono s2⟩
theorem PEd.bor (h:PEd X sd e (.val (.lst ds))):PEd X sd e (.bor ds):= .mk fun σ F H S=>(h σ F H S).imp fun v H' ⟨F',S',s,q⟩=>by have q:Rep _ _ _ _:=q; simp only [Rep] at q; obtain ⟨l,xs,e,q,rl⟩:=q; exact ⟨F',S',s,l,xs,e,S'.sub _ _ q,rl, .inl q⟩
theorem aA (i:Nat) {x:Str} (hs:sd[i]? =some (.val d)) (h:PE X (.Name x pos) (mQ i)):PEd X sd (.Name x pos) (.val d):= .mk fun σ F H S=>h.to (by
 obtain ⟨o,h1,v,h2,q⟩:=S.slots.get hs
 exact ⟨v,by rw [h1,h2],F,S,Same.refl _,q⟩)
theorem qU (i:Nat) {x:Str} {l:Addr} (hs:sd[i]? =some (.own l ds)) (h:PE X (.Name x pos) (mQ i)):PEd X sd (.Name x pos) (.bor ds):= .mk fun σ F H S=>h.to (by
 obtain ⟨o,h1,h2,n,xs,q,rl⟩:=S.slots.get hs
 exact ⟨.ref l,by rw [h1,h2],F,S,Same.refl _,l,xs,rfl,q,rl, .inr (aV hs)⟩)
theorem aO {i j}:PEd X sd (.Constant (.int i) j pos) (.val (.int i)):= .mk fun σ F H S=>pe_int.to ⟨F,S,Same.refl _,by simp only [ResOk,Rep]⟩
theorem mL {i j}:PEd X sd (.Constant (.bool i) j pos) (.val (.bl i)):= .mk fun σ F H S=>pe_bl.to ⟨F,S,Same.refl _,by simp only [ResOk,Rep]⟩
theorem rY {j}:PEd X sd (.Constant .none j pos) (.val .non):= .mk fun σ F H S=>pe_non.to ⟨F,S,Same.refl _,by simp only [ResOk,Rep]⟩
theorem cZ {i j}:PEd X sd (.Constant (.str i) j pos) (.val (.str i)):= .mk fun σ F H S=>pe_str.to ⟨F,S,Same.refl _,by simp only [ResOk,Rep]⟩
theorem aG:PAd X sd [] []:= .mk fun σ F H S=>pa_nil.to ⟨F,S,Same.refl _, .nil⟩
theorem aC {rs:List R} (h1:PEd X sd e r) (h2:PAd X sd es rs) (hk:r.keeps:=by trivial) (hs:starEach (e::es) X.env=(false,eval e X.env)::starEach es X.env:=by rfl):PAd X sd (e::es) (r::rs):= .mk fun σ F H S=>(jH fH pa_w hs).to ((h1 σ F H S).imp fun v H1 ⟨F1,S1,s1,q1⟩=>(h2 σ F1 H1 S1).imp fun vs H2 ⟨F2,S2,s2,q2⟩=>⟨F2,S2,s1.trans s2, .cons (q1.keep hk S2 s2) q2⟩)
theorem RsOk.vals {K:aD} {F H:Hp}:∀ {ds:List D} {vs:List V},RsOk K F H sd (ds.map R.val) vs→RepL K F ds vs
 | [],_, .nil=> .nil
 | _::_,_, .cons q t=> .cons q (RsOk.vals t)
theorem eQ {x1} (h:PAd X sd es (ds.map R.val)) (hl:ds.length≤1000):PEd X sd (.Tuple es x1 pos) (.val (.tup ds)):= .mk fun σ F H S=>
 (pe_tup pa_w).to ((h σ F H S).imp fun vs H1 ⟨F1,S1,s1,q1⟩=>by
  have rl:=q1.vals; refine ⟨by rw [rl.len]; exact eZ (gR hl),fun p hp=> ?_⟩; obtain ⟨S2,s2⟩:=S1.lay (o:= .tup vs) hp trivial; refine ⟨_,S2,s1.trans s2, ?_⟩; simp only [ResOk,Rep]
  exact ⟨p,vs,rfl,bZ,rl.mono s2⟩)
theorem fJ (h:PAd X sd es (ds.map R.val)) (hl:ds.length≤1000):PEd X sd (.List es pos) (.own ds):= .mk fun σ F H S=>
 (pe_lst pa_w).to ((h σ F H S).imp fun vs H1 ⟨F1,S1,s1,q1⟩=>by
  have rl:=q1.vals; refine ⟨by rw [rl.len]; exact eZ (gR hl),fun p hp=> ?_⟩; obtain ⟨S2,fp,no⟩:=S1.layO (xs:=vs) hp
  exact ⟨_,S2,s1,p,vs,rfl,fp,bZ,rl,no⟩)
theorem vL {op:Operator} {r2:R2} (ho:OpR X (binaryOp op) r2) (ha:PEd X sd a ra) (hb:PEd X sd b rb) (hk:ra.keeps)
  (h:∀ (σ:St) (F H:Hp) (v u:V) (Q:VK),StF X.K X.B₀ F H σ sd→ResOk X.K F H sd ra v→ResOk X.K F H sd rb u→(∀w F' H',StF X.K X.B₀ F' H' σ sd→Same F F'→ResOk X.K F' H' sd r w→Q w H')→r2 v u H Q):
  PEd X sd (.BinOp a op b pos) r:= .mk fun σ F H S=>
 (pe_op ho fH fH).to ((ha σ F H S).imp fun v H1 ⟨F1,S1,s1,q1⟩=>(hb σ F1 H1 S1).imp fun u H2 ⟨F2,S2,s2,q2⟩=>h σ F2 H2 v u _ S2 (q1.keep hk S2 s2) q2 fun w F' H' S' s' q'=>⟨F',S',(s1.trans s2).trans s',q'⟩)
theorem oV {op:CmpOp} {r2:R2} (ho:OpR X (compareOp op) r2) (ha:PEd X sd a ra) (hb:PEd X sd b rb) (hk:ra.keeps) (hm:behindInMarks op b=false) {k:Bool}
  (h:∀ (σ:St) (F H:Hp) (v u:V) (Q:VK),StF X.K X.B₀ F H σ sd→ResOk X.K F H sd ra v→ResOk X.K F H sd rb u→(∀F' H',StF X.K X.B₀ F' H' σ sd→Same F F'→Q (.bl k) H')→r2 v u H Q):
  PEd X sd (.Compare a [op] [b] pos) (.val (.bl k)):= .mk fun σ F H S=>
 (pe_cmpR ho fH fH hm).to ((ha σ F H S).imp fun v H1 ⟨F1,S1,s1,q1⟩=>(hb σ F1 H1 S1).imp fun u H2 ⟨F2,S2,s2,q2⟩=>h σ F2 H2 v u _ S2 (q1.keep hk S2 s2) q2 fun F' H' S' s'=>⟨F',S',(s1.trans s2).trans s',by simp only [ResOk,Rep]⟩)
theorem kA {k:Bool} (h:PEd X sd e (.val (.bl k))) (he:∀whole,isTrue e X.env whole=(do let v ← whole; standAt e.pos; holding [v] (truthy v)):=by intro _; rfl):PTd X sd e k:= .mk fun σ F H S=>
 (pt_val fH he).to ((h σ F H S).imp fun v H1 ⟨F1,S1,s1,q1⟩=>by
  simp only [ResOk,Rep] at q1
  exact ⟨k,q1,rfl,F1,S1,s1⟩)
theorem lQ {op:CmpOp} {r2:R2} (ho:OpR X (compareOp op) r2) (ha:PEd X sd a ra) (hb:PEd X sd b rb) (hk:ra.keeps) (hm:behindInMarks op b=false) {k:Bool}
  (h:∀ (σ:St) (F H:Hp) (v u:V) (Q:VK),StF X.K X.B₀ F H σ sd→ResOk X.K F H sd ra v→ResOk X.K F H sd rb u→(∀F' H',StF X.K X.B₀ F' H' σ sd→Same F F'→Q (.bl k) H')→r2 v u H Q):
  PTd X sd (.Compare a [op] [b] pos) k:= .mk fun σ F H S=>
 (qR ho fH fH hm).to ((ha σ F H S).imp fun v H1 ⟨F1,S1,s1,q1⟩=>(hb σ F1 H1 S1).imp fun u H2 ⟨F2,S2,s2,q2⟩=>h σ F2 H2 v u _ S2 (q1.keep hk S2 s2) q2 fun F' H' S' s'=>⟨k,rfl,rfl,F',S',(s1.trans s2).trans s'⟩)
end
section
variable {X:Cx} {sd:List Slot} {e a b c:Expr} {es:List Expr} {pos:Pos} {r ra rb:R} {d:D} {ds:List D} {st:Stmt} {rest:List Stmt} {E:jU}
theorem wS.imp {D D':sV} {σ:St} {H:Hp} (h:wS X st D σ H) (k1:∀σ H,D.nx σ H→D'.nx σ H) (k2:∀v H,D.rt v H→D'.rt v H) (k3:∀σ H,D.bk σ H→D'.bk σ H) (k4:∀σ H,D.ct σ H→D'.ct σ H):wS X st D' σ H:=
 fun pins s I=>thn (h pins s I) fun f s' q=>q.imp k1 k2 k3 k4
theorem kH {k:Bool} (h:PTd X sd e k):PTd X sd (.UnaryOp .Not e pos) (!k):= .mk fun σ F H S=>(pt_not pt_w).to ((h σ F H S).imp fun c H' ⟨e,q⟩=>⟨by rw [e],q⟩)
theorem xA {k:Bool} (h:PTd X sd a k):PWd X sd (.BoolOp .And [a] pos) k:= .mk fun σ F H S=>(pw_and1 pt_w).to (h σ F H S)
theorem jT {k:Bool} (h:PTd X sd a k):PWd X sd (.BoolOp .Or [a] pos) k:= .mk fun σ F H S=>(pw_or1 pt_w).to (h σ F H S)
theorem pwd_and {k j:Bool} (h:PTd X sd a k) (h2:k=true→PWd X sd (.BoolOp .And (b::es) pos) j):PWd X sd (.BoolOp .And (a::b::es) pos) (k && j):= .mk fun σ F H S=>
 (pw_and pt_w pw_w).to ((h σ F H S).imp fun c H' ⟨e,F',S',s'⟩=>by
  subst e; cases c with
  | false=>exact iteF ⟨rfl,F',S',s'⟩
  | true=>exact iteT ((h2 rfl σ F' H' S').imp fun c2 H2 ⟨e2,F2,S2,s2⟩=>⟨by rw [e2]; rfl,F2,S2,s'.trans s2⟩))
theorem jF {k j:Bool} (h:PTd X sd a k) (h2:k=false→PWd X sd (.BoolOp .Or (b::es) pos) j):PWd X sd (.BoolOp .Or (a::b::es) pos) (k || j):= .mk fun σ F H S=>
 (pw_or pt_w pw_w).to ((h σ F H S).imp fun c H' ⟨e,F',S',s'⟩=>by
  subst e; cases c with
  | true=>exact iteT ⟨rfl,F',S',s'⟩
  | false=>exact iteF ((h2 rfl σ F' H' S').imp fun c2 H2 ⟨e2,F2,S2,s2⟩=>⟨by rw [e2]; rfl,F2,S2,s'.trans s2⟩))
theorem PWd.pt {k:Bool} (h:PWd X sd e k):PTd X sd e k:= .mk fun σ F H S=>(pw_w).pt.to (h σ F H S)
theorem nU {op} {r:R} (h:PEd X sd a r):PEd X sd (.BoolOp op [a] pos) r:= .mk fun σ F H S=>(pe_one fH).to (h σ F H S)
theorem lY {k j:Bool} (h:PEd X sd a (.val (.bl k))) (h2:k=true→PEd X sd (.BoolOp .And (b::es) pos) (.val (.bl j))):PEd X sd (.BoolOp .And (a::b::es) pos) (.val (.bl (k && j))):= .mk fun σ F H S=>
 (pe_and fH fH).to ((h σ F H S).imp fun v H' ⟨F',S',s',q⟩=>by
  simp only [ResOk,Rep] at q; subst q; refine ⟨k,rfl, ?_⟩; cases k with
  | false=>exact iteF ⟨F',S',s',by simp only [ResOk,Rep,nO]⟩
  | true=>exact iteT ((h2 rfl σ F' H' S').imp fun v2 H2 ⟨F2,S2,s2,q2⟩=>⟨F2,S2,s'.trans s2,by simpa only [dO] using q2⟩))
theorem pd_or {k j:Bool} (h:PEd X sd a (.val (.bl k))) (h2:k=false→PEd X sd (.BoolOp .Or (b::es) pos) (.val (.bl j))):PEd X sd (.BoolOp .Or (a::b::es) pos) (.val (.bl (k || j))):= .mk fun σ F H S=>
 (pe_or fH fH).to ((h σ F H S).imp fun v H' ⟨F',S',s',q⟩=>by
  simp only [ResOk,Rep] at q; subst q; refine ⟨k,rfl, ?_⟩; cases k with
  | true=>exact iteT ⟨F',S',s',by simp only [ResOk,Rep,Bool.true_or]⟩
  | false=>exact iteF ((h2 rfl σ F' H' S').imp fun v2 H2 ⟨F2,S2,s2,q2⟩=>⟨F2,S2,s'.trans s2,by simpa only [iD] using q2⟩))
theorem pd_not {k:Bool} (h:PEd X sd a (.val (.bl k))):PEd X sd (.UnaryOp .Not a pos) (.val (.bl (!k))):= .mk fun σ F H S=>
 (pe_not fH).to ((h σ F H S).imp fun v H' ⟨F',S',s',q⟩=>by
  simp only [ResOk,Rep] at q
  exact ⟨k,q,F',S',s',by simp only [ResOk,Rep]⟩)
theorem dX {op:Operator} {g:Int→Int→Int} {i j:Int} (ho:OpR X (binaryOp op) (rI0 fun i j=> .int (g i j))) (ha:PEd X sd a (.val (.int i))) (hb:PEd X sd b (.val (.int j))):PEd X sd (.BinOp a op b pos) (.val (.int (g i j))):=
 vL ho ha hb trivial fun σ F H v u Q S q1 q2 k=>by simp only [ResOk,Rep] at q1 q2; exact ⟨i,j,q1,q2,k _ F H S (Same.refl _) (by simp only [ResOk,Rep])⟩
theorem cD {op:Operator} {g:Int→Int→Int} {C:Int→Int→Prop} {i j:Int} (ho:OpR X (binaryOp op) (rI C fun i j=> .int (g i j))) (ha:PEd X sd a (.val (.int i))) (hb:PEd X sd b (.val (.int j))) (hc:C i j):PEd X sd (.BinOp a op b pos) (.val (.int (g i j))):=
 vL ho ha hb trivial fun σ F H v u Q S q1 q2 k=>by simp only [ResOk,Rep] at q1 q2; exact ⟨i,j,q1,q2,hc,k _ F H S (Same.refl _) (by simp only [ResOk,Rep])⟩
theorem iY:OpR X (binaryOp .Mult) (rI IntMulOk fun i j=> .int (i * j)):=opI fun _ _ _ _ _ _ _ hc q=>mul_int q hc
theorem oC:OpR X (binaryOp .FloorDiv) (rI (fun _ j=>0<j∧j.natAbs.log2<9000) fun i j=> .int (i / j)):=opI fun i j _ _ _ _ _ hc q=>by have h1:(0:Int)<j:=hc.1; exact floordiv_int (by omega) (by rw [wM i (by omega)]; exact q) (.inl (PyProof.noPylong_of_log2 hc.2))
theorem pd_cI {op:CmpOp} {g:Int→Int→Bool} {i j:Int} (ho:OpR X (compareOp op) (rI0 fun i j=> .bl (g i j))) (ha:PEd X sd a (.val (.int i))) (hb:PEd X sd b (.val (.int j))) (hm:behindInMarks op b=false):PEd X sd (.Compare a [op] [b] pos) (.val (.bl (g i j))):=
 oV ho ha hb trivial hm fun σ F H v u Q S q1 q2 k=>by simp only [ResOk,Rep] at q1 q2; exact ⟨i,j,q1,q2,k F H S (Same.refl _)⟩
theorem nC {op:CmpOp} {g:Int→Int→Bool} {i j:Int} (ho:OpR X (compareOp op) (rI0 fun i j=> .bl (g i j))) (ha:PEd X sd a (.val (.int i))) (hb:PEd X sd b (.val (.int j))) (hm:behindInMarks op b=false):PTd X sd (.Compare a [op] [b] pos) (g i j):=
 lQ ho ha hb trivial hm fun σ F H v u Q S q1 q2 k=>by simp only [ResOk,Rep] at q1 q2; exact ⟨i,j,q1,q2,k F H S (Same.refl _)⟩
noncomputable def flt:D→Option V
 | .non=>some .non
 | .bl b=>some (.bl b)
 | .int i=>some (.int i)
 | .str x=>some (.str x)
 | _=>none
theorem oF {K:aD} {H:Hp} {d:D} {x v:V} (h:flt d=some x) (q:Rep K H d v):v=x:=by
 cases d with
 | non=>simp only [Rep] at q; simp only [flt] at h; rw [q]; exact cT.inj h
 | bl=>simp only [Rep] at q; simp only [flt] at h; rw [q]; exact cT.inj h
 | int=>simp only [Rep] at q; simp only [flt] at h; rw [q]; exact cT.inj h
 | str=>simp only [Rep] at q; simp only [flt] at h; rw [q]; exact cT.inj h
 | tup=>simp only [flt] at h; cases h
 | lst=>simp only [flt] at h; cases h
 | dic=>simp only [flt] at h; cases h
 | dki=>simp only [flt] at h; cases h
 | any=>simp only [flt] at h; cases h
 | scr=>simp only [flt] at h; cases h
theorem cK {d1 d2:D} {x y:V} {k:Bool} (ha:PEd X sd a (.val d1)) (hb:PEd X sd b (.val d2)) (h1:flt d1=some x) (h2:flt d2=some y) (hs:scal x y=true) (hk:decide (x=y)=k):PTd X sd (.Compare a [.Eq] [b] pos) k:=
 lQ op_eq ha hb trivial (gS _) fun σ F H v u Q S q1 q2 kk=>by have e1:=oF h1 q1; have e2:=oF h2 q2; subst e1 e2; exact ⟨hs,by rw [hk]; exact kk F H S (Same.refl _)⟩
theorem oS {i j:Int} (ha:PEd X sd a (.val (.int i))) (hb:PEd X sd b (.val (.int j))):PTd X sd (.Compare a [.Eq] [b] pos) (decide (i=j)):=cK ha hb rfl rfl rfl (by rw [vG,Bool.beq_eq_decide_eq])
theorem op_isB:OpR X (compareOp .Is) (fun x y H Q=>∃p q:Bool,x= .bl p∧y= .bl q∧Q (.bl (p==q)) H):=by intro pins s σ H x y v u Q I rx ry h; obtain ⟨p,q,rfl,rfl,h⟩:=h; cases (show v=Value.bool p from rx); cases (show u=Value.bool q from ry); refine wpAny_is_plain (by cases p<;>cases q<;>rfl) ⟨.bl (p==q),H,I, ?_,h⟩; show Value.bool (Value.bool p==Value.bool q)=Value.bool (p==q); cases p<;>cases q<;>rfl
theorem op_isnotB:OpR X (compareOp .IsNot) (fun x y H Q=>∃p q:Bool,x= .bl p∧y= .bl q∧Q (.bl (!(p==q))) H):=by intro pins s σ H x y v u Q I rx ry h; obtain ⟨p,q,rfl,rfl,h⟩:=h; cases (show v=Value.bool p from rx); cases (show u=Value.bool q from ry); refine wpAny_isNot_plain (by cases p<;>cases q<;>rfl) ⟨.bl (!(p==q)),H,I, ?_,h⟩; show Value.bool (!(Value.bool p==Value.bool q))=Value.bool (!(p==q)); cases p<;>cases q<;>rfl
theorem zF {p q:Bool} (ha:PEd X sd a (.val (.bl p))) (hb:PEd X sd b (.val (.bl q))):PTd X sd (.Compare a [.IsNot] [b] pos) (!(p==q)):=
 lQ op_isnotB ha hb trivial (gS _) fun σ F H v u Q S q1 q2 k=>by simp only [ResOk,Rep] at q1 q2; exact ⟨p,q,q1,q2,k F H S (Same.refl _)⟩
theorem pd_isB {p q:Bool} (ha:PEd X sd a (.val (.bl p))) (hb:PEd X sd b (.val (.bl q))):PEd X sd (.Compare a [.Is] [b] pos) (.val (.bl (p==q))):=
 oV op_isB ha hb trivial (gS _) fun σ F H v u Q S q1 q2 k=>by simp only [ResOk,Rep] at q1 q2; exact ⟨p,q,q1,q2,k F H S (Same.refl _)⟩
theorem cV {n:Nat} (ha:PEd X sd a (.val (.tup ds))) (hb:PEd X sd b (.val (.int (n:Int)))) (hd:ds[n]? =some d) (hs:nH b):PEd X sd (.Subscript a b pos) (.val d):= .mk fun σ F H S=>
 (pe_ix ix_tup fH fH hs).to ((ha σ F H S).imp fun v H1 ⟨F1,S1,s1,q1⟩=>(hb σ F1 H1 S1).imp fun u H2 ⟨F2,S2,s2,q2⟩=>by
  have q1:=Rep.mono s2 q1; simp only [ResOk,Rep] at q1 q2; obtain ⟨p,xs,e1,hp,rl⟩:=q1; obtain ⟨w,hw,rw'⟩:=rl.get hd
  exact ⟨p,xs,(n:Int),w,e1,q2, .of (S2.sub _ _ hp),vC hw,F2,S2,s1.trans s2,rw'⟩)
theorem iT {n:Nat} (ha:PEd X sd a (.bor ds)) (hb:PEd X sd b (.val (.int (n:Int)))) (hd:ds[n]? =some d) (hs:nH b):PEd X sd (.Subscript a b pos) (.val d):= .mk fun σ F H S=>
 (pe_ix ix_list fH fH hs).to ((ha σ F H S).imp fun v H1 ⟨F1,S1,s1,q1⟩=>(hb σ F1 H1 S1).imp fun u H2 ⟨F2,S2,s2,q2⟩=>by
  obtain ⟨p,xs,e1,hp,rl,_⟩:=ResOk.keep (r:= .bor ds) trivial q1 S2 s2; simp only [ResOk,Rep] at q2; obtain ⟨w,hw,rw'⟩:=rl.get hd
  exact ⟨p,xs,(n:Int),w,e1,q2, .of hp,vC hw,F2,S2,s1.trans s2,rw'⟩)
theorem pd_ixS {ns:List Int} {n:Nat} {z:Int} (ha:PEd X sd a (.val (.scr ns))) (hb:PEd X sd b (.val (.int (n:Int)))) (hd:ns[n]? =some z) (hs:nH b):PEd X sd (.Subscript a b pos) (.val (.int z)):= .mk fun σ F H S=>
 (pe_ix ix_list fH fH hs).to ((ha σ F H S).imp fun v H1 ⟨F1,S1,s1,q1⟩=>(hb σ F1 H1 S1).imp fun u H2 ⟨F2,S2,s2,q2⟩=>by
  have q1:=Rep.mono (s2.trans S2.sub) q1; simp only [ResOk,Rep] at q1 q2; obtain ⟨p,e1,hp⟩:=q1
  exact ⟨p,_,(n:Int), .int z,e1,q2,hp,vC (by rw [aI,hd]; rfl),F2,S2,s1.trans s2,by simp only [ResOk,Rep]⟩)
theorem lJ {x:Str} {p:Pos} {id:String} {rr:List V→Hp→VK→Prop} {rs:List R} (hc:mO X (.builtin id) rr) (hg:Gl X x) (hm:X.mg x=none) (hv:bootBuiltins x=some (.builtin id)) (ha:PAd X sd (e::es) rs)
  (h:∀ (σ:St) (F H:Hp) (vs:List V) (Q:VK),StF X.K X.B₀ F H σ sd→RsOk X.K F H sd rs vs→(∀w F' H',StF X.K X.B₀ F' H' σ sd→Same F F'→ResOk X.K F' H' sd r w→Q w H')→rr vs H Q)
  (hn:x≠"__name__":=by decide) (hdb:(x==("__debug__":Str))=false:=by decide) (he:starEach (e::es) X.env=(false,eval e X.env)::starEach es X.env:=by rfl) (hpl:(backTo pos (starEach es X.env)).any (·.1)=false:=by rfl):
  PEd X sd (.Call (.Name x p) (e::es) [] pos) r:= .mk fun σ F H S=>
 (xN hc hg hm hv pa_w hn hdb he hpl).to ((ha σ F H S).imp fun vs H1 ⟨F1,S1,s1,q1⟩=>h σ F1 H1 vs _ S1 q1 fun w F' H' S' s' q'=>⟨F',S',s1.trans s',q'⟩)
theorem pD {x:Str} {p:Pos} {T:String} {rr:List V→Hp→VK→Prop} {rs:List R} (hc:mO X (.type T) rr) (hg:Gl X x) (hm:X.mg x=none) (hv:bootBuiltins x=some (.type T)) (ha:PAd X sd (e::es) rs)
  (h:∀ (σ:St) (F H:Hp) (vs:List V) (Q:VK),StF X.K X.B₀ F H σ sd→RsOk X.K F H sd rs vs→(∀w F' H',StF X.K X.B₀ F' H' σ sd→Same F F'→ResOk X.K F' H' sd r w→Q w H')→rr vs H Q)
  (hn:x≠"__name__":=by decide) (hdb:(x==("__debug__":Str))=false:=by decide) (he:starEach (e::es) X.env=(false,eval e X.env)::starEach es X.env:=by rfl) (hpl:(backTo pos (starEach es X.env)).any (·.1)=false:=by rfl):
  PEd X sd (.Call (.Name x p) (e::es) [] pos) r:= .mk fun σ F H S=>
 (pe_callTy hc hg hm hv pa_w hn hdb he hpl).to ((ha σ F H S).imp fun vs H1 ⟨F1,S1,s1,q1⟩=>h σ F1 H1 vs _ S1 q1 fun w F' H' S' s' q'=>⟨F',S',s1.trans s',q'⟩)
theorem pd_lenT {p:Pos} (hg:Gl X "len") (hm:X.mg "len"=none) (ha:PEd X sd e (.val (.tup ds))) (hst:starEach [e] X.env=(false,eval e X.env)::starEach [] X.env:=by rfl):PEd X sd (.Call (.Name "len" p) [e] [] pos) (.val (.int ds.length)):=
 lJ (he:=hst) mH hg hm PySem.boot_len (aC ha aG trivial hst) fun σ F H vs Q S q k=>by
  cases q with
  | cons q1 q2=>cases q2; simp only [ResOk,Rep] at q1; obtain ⟨p,xs,rfl,hp,rl⟩:=q1; refine ⟨p,xs,rfl, .inr (.of (S.sub _ _ hp)),k _ F H S (Same.refl _) ?_⟩; simp only [ResOk,Rep,rl.len]
theorem kG {p:Pos} (hg:Gl X "len") (hm:X.mg "len"=none) (ha:PEd X sd e (.bor ds)) (hst:starEach [e] X.env=(false,eval e X.env)::starEach [] X.env:=by rfl):PEd X sd (.Call (.Name "len" p) [e] [] pos) (.val (.int ds.length)):=
 lJ (he:=hst) mH hg hm PySem.boot_len (aC ha aG trivial hst) fun σ F H vs Q S q k=>by
  cases q with
  | cons q1 q2=>cases q2; obtain ⟨p,xs,rfl,hp,rl,_⟩:=q1; refine ⟨p,xs,rfl, .inl (.of hp),k _ F H S (Same.refl _) ?_⟩; simp only [ResOk,Rep,rl.len]
theorem pd_lenS {p:Pos} {ns:List Int} (hg:Gl X "len") (hm:X.mg "len"=none) (ha:PEd X sd e (.val (.scr ns))) (hst:starEach [e] X.env=(false,eval e X.env)::starEach [] X.env:=by rfl):PEd X sd (.Call (.Name "len" p) [e] [] pos) (.val (.int ns.length)):=
 lJ (he:=hst) mH hg hm PySem.boot_len (aC ha aG trivial hst) fun σ F H vs Q S q k=>by
  cases q with
  | cons q1 q2=>cases q2; have q1:=Rep.mono S.sub q1; simp only [Rep] at q1; obtain ⟨p,rfl,hp⟩:=q1; refine ⟨p,_,rfl, .inl hp,k _ F H S (Same.refl _) ?_⟩; simp only [ResOk,Rep,aB]
noncomputable def tyD:D→Value
 | .non=> .type "NoneType"
 | .bl _=> .type "bool"
 | .int _=> .type "int"
 | .str _=> .type "str"
 | .tup _=> .type "tuple"
 | .lst _=> .type "list"
 | .dic=> .type "dict"
 | .dki _ _=> .type "dict"
 | .any _=> .type "dict"
 | .scr _=> .type "list"
theorem ty_of {K:aD} {H:Hp} {d:D} {v:V} (h:∀ns,d≠ .scr ns) (hA:∀G,d≠ .any G) (q:Rep K H d v):oR K H v (tyD d):=by
 cases d with
 | non=>simp only [Rep] at q; subst q; exact .non
 | bl b=>simp only [Rep] at q; subst q; exact .bl b
 | int b=>simp only [Rep] at q; subst q; exact .int b
 | str b=>simp only [Rep] at q; subst q; exact .str b
 | tup ds=>simp only [Rep] at q; obtain ⟨a,xs,rfl,h,_⟩:=q; exact .tup h
 | lst ds=>simp only [Rep] at q; obtain ⟨a,xs,rfl,h,_⟩:=q; exact .lst h
 | dic=>simp only [Rep] at q; obtain ⟨a,rfl,h⟩:=q; exact .dK (.of h)
 | dki ks ds=>simp only [Rep] at q; obtain ⟨a,xs,rfl,h,_⟩:=q; exact .dK (.inr h)
 | scr ns=>exact absurd rfl (h ns)
 | any G=>exact absurd rfl (hA G)
theorem call_isin:mO X (.builtin "isinstance") (fun xs H Q=>∃x t n k,xs=[x, .ty n]∧oR X.K H x t∧eT X.K t (.type n)=some k∧Q (.bl k) H):=by intro pins s σ H xs us Q I r h; obtain ⟨x,t,n,k,rfl,ty,e,q⟩:=h; obtain ⟨u,u',rfl,ru,ru'⟩:=vals2 r; cases (show u'=Value.type n from ru'); exact isinst_ok I ru ty e fun tk=>⟨.bl k,H,I.tok tk,rfl,q⟩
theorem pe_type {x:Str} {n:String} {pos:Pos} (hg:Gl X x) (hm:X.mg x=none) (hv:bootBuiltins x=some (.type n)) (hn:x≠"__name__":=by decide) (hd:(x==("__debug__":Str))=false:=by decide):PE X (.Name x pos) (tC (.ty n)):=pe_bltn hg hm hv rfl hn hd
theorem vV {x:Str} {n:String} {p p2:Pos} {k:Bool} (hg:Gl X "isinstance") (hm:X.mg "isinstance"=none) (hgx:Gl X x) (hmx:X.mg x=none) (hv:bootBuiltins x=some (.type n)) (ha:PEd X sd e (.val d)) (hd:∀ns,d≠ .scr ns)
  (hk:eT X.K (tyD d) (.type n)=some k) (hA:∀G,d≠ .any G:=by (intro _ h; cases h)) (hn:x≠"__name__":=by decide) (hdb:(x==("__debug__":Str))=false:=by decide)
  (he:starEach (e::[.Name x p2]) X.env=(false,eval e X.env)::starEach [.Name x p2] X.env:=by rfl) (hpl:(backTo pos (starEach [.Name x p2] X.env)).any (·.1)=false:=by rfl) (hs2:starEach [.Name x p2] X.env=(false,eval (.Name x p2) X.env)::starEach [] X.env:=by rfl):
  PEd X sd (.Call (.Name "isinstance" p) [e, .Name x p2] [] pos) (.val (.bl k)):= .mk fun σ F H S=>
 (xN call_isin hg hm boot_isinstance (jH fH (jH (pe_type hgx hmx hv hn hdb) pa_nil hs2) he) (by decide) (by decide) he hpl).to ((ha σ F H S).imp fun v H1 ⟨F1,S1,s1,q1⟩=>by exact ⟨v,tyD d,n,k,rfl,ty_of hd hA (Rep.mono S1.sub q1),hk,F1,S1,s1,by simp only [ResOk,Rep]⟩)
theorem cB (h:E.nx sd):PSd X sd [] E:= .mk fun σ F H S=>pss_nil.to ⟨sd,F,S,Same.refl _,h⟩
theorem aF (h:PSd1 X sd st {E with nx:=fun sd'=>PSd X sd' rest E}):PSd X sd (st::rest) E:= .mk fun σ F H S=>
 (pss_cons ps_w uO).to (wS.imp (h σ F H S) (fun σ' H' ⟨sd',F',S',s',q⟩=>(q σ' F' H' S').imp (fun σ2 H2 ⟨sd2,F2,S2,s2,q2⟩=>⟨sd2,F2,S2,s'.trans s2,q2⟩) (fun v H2 q2=>q2)
  (fun σ2 H2 ⟨sd2,F2,S2,s2,q2⟩=>⟨sd2,F2,S2,s'.trans s2,q2⟩) fun σ2 H2 ⟨sd2,F2,S2,s2,q2⟩=>⟨sd2,F2,S2,s'.trans s2,q2⟩) (fun v H q=>q) (fun σ H q=>q) fun σ H q=>q)
theorem aS (h:PSd1 X sd st E):PSd X sd [st] E:= .mk fun σ F H S=>(pss_one ps_w).to (h σ F H S)
theorem bG (h:PEd X sd e r) (hr:match r with | .bor _=>False | _=>True) (hE:E.rt r):PSd1 X sd (.Return (some e) pos) E:= .mk fun σ F H S=>
 (ps_ret fH).to ((h σ F H S).imp fun v H' ⟨F',S',s',q⟩=>⟨r,⟨F',S'.base,S'.sub,S'.smp,by
  cases r with
  | val d=>exact q
  | own ds=>obtain ⟨l,xs,a,b,c,d,_⟩:=q; exact ⟨l,xs,a,b,c,d,by simp [cO]⟩
  | pr d ls=>obtain ⟨t,l,xs,y,a,b,c,d,e,f,_⟩:=q; exact ⟨t,l,xs,y,a,b,c,d,e,f,by simp [cO]⟩
  | ox G=>obtain ⟨ls,nd,h,g⟩:=q; exact ⟨ls,nd,fun l hl=>⟨(h l hl).1,(h l hl).2.1,by simp [cO]⟩,g⟩
  | bor ds=>exact hr.elim⟩,hE⟩)
theorem mU (i:Nat) {x:Str} {p:Pos} {l:Addr} (hs:sd[i]? =some (.own l ds)) (h:PE X (.Name x p) (mQ i)) (hE:E.rt (.own ds)):PSd1 X sd (.Return (some (.Name x p)) pos) E:= .mk fun σ F H S=>
 (ps_ret h).to (by
  obtain ⟨o,h1,h2,n,xs,q,rl⟩:=S.slots.get hs
  exact ⟨.ref l,by rw [h1,h2], .own ds,⟨F,S.base,S.sub,S.smp,l,xs,rfl,n,q,rl,by simp [cO]⟩,hE⟩)
theorem eX {k:Bool} {a o:List Stmt} (h:PTd X sd c k) (h1:k=true→PSd X sd a E) (h2:k=false→PSd X sd o E):PSd1 X sd (.If c a o pos) E:= .mk fun σ F H S=>
 (ps_if pt_w uO uO).to ((h σ F H S).imp fun k' H' ⟨e,F',S',s'⟩=>by
  have up:∀ {sts:List Stmt},PSd X sd sts E→wSs X sts (lft X F E) σ H':=fun h=>(h σ F' H' S').imp (fun σ2 H2 ⟨sd2,F2,S2,s2,q2⟩=>⟨sd2,F2,S2,s'.trans s2,q2⟩) (fun v H2 q2=>q2)
   (fun σ2 H2 ⟨sd2,F2,S2,s2,q2⟩=>⟨sd2,F2,S2,s'.trans s2,q2⟩) fun σ2 H2 ⟨sd2,F2,S2,s2,q2⟩=>⟨sd2,F2,S2,s'.trans s2,q2⟩
  subst e; cases k' with
  | true=>exact iteT (up (h1 rfl))
  | false=>exact iteF (up (h2 rfl)))
theorem kI:∀ {sd:List Slot} {z:Slot} (i:Nat),(cO sd).Nodup→(∀l,l∈jG z→l∉cO sd∨(∃z',sd[i]? =some z'∧l∈jG z'))→(hz:(jG z).Nodup:=by simp [jG])→(cO (sd.set i z)).Nodup∧∀l,l∈cO (sd.set i z)→l∈cO sd∨l∈jG z
 | [],z,i,h,_,_=>⟨h,fun l hl=> .inl hl⟩
 | z'::zs,z,0,h,hz,nz=>by
  show (jG z++cO zs).Nodup∧∀l,l∈jG z++cO zs→_; obtain ⟨n1,n2,n3⟩:=cI.mp (show (jG z'++cO zs).Nodup from h); refine ⟨cI.mpr ⟨nz,n2,fun a ha b hb e=> ?_⟩,fun l hl=> ?_⟩
  ·subst e
   rcases hz a ha with y | ⟨z2,e2,y⟩
   ·exact y (aX _ hb)
   ·have:z'=z2:=by simpa using e2
    subst this; exact n3 a y a hb rfl
  ·rcases bN.mp hl with y | y
   ·exact .inr y
   ·exact .inl (aX _ y)
 | z'::zs,z,i+1,h,hz,nz=>by
  show (jG z'++cO (zs.set i z)).Nodup∧∀l,l∈jG z'++cO (zs.set i z)→_; obtain ⟨n1,n2,n3⟩:=cI.mp (show (jG z'++cO zs).Nodup from h)
  obtain ⟨i1,i2⟩:=kI (sd:=zs) (z:=z) i n2 (fun l hl=>by
   rcases hz l hl with y | ⟨z2,e2,y⟩
   ·exact .inl fun q=>y (aX _ q)
   ·exact .inr ⟨z2,by simpa using e2,y⟩) nz
  refine ⟨cI.mpr ⟨n1,i1,fun a ha b hb e=> ?_⟩,fun l hl=> ?_⟩
  ·subst e
   rcases i2 a hb with y | y
   ·exact n3 a ha a y rfl
   ·rcases hz a y with y | ⟨z2,e2,y⟩
    ·exact y (dH _ ha)
    ·have m:a∈cO zs:=eG.mpr ⟨z2,aV (by simpa using e2),y⟩; exact n3 a ha a m rfl
  ·rcases bN.mp hl with y | y
   ·exact .inl (dH _ y)
   ·rcases i2 l y with y | y
    ·exact .inl (aX _ y)
    ·exact .inr y
theorem StF.set {K:aD} {H₀ F H:Hp} {σ:St} {v:V} (S:StF K H₀ F H σ sd) (i:Nat) (q:Rep K F d v):StF K H₀ F H (σ.set i (some v)) (sd.set i (.val d)):=
 ⟨S.base,S.sub,S.smp,S.slots.set (z:= .val d) ⟨v,rfl,q⟩ i,(kI i S.nd fun l e=>by simp [jG] at e).1⟩
theorem StF.setO {K:aD} {H₀ F H:Hp} {σ:St} {l:Addr} {xs:List V} (S:StF K H₀ F H σ sd) (i:Nat) (n:F l=none) (h:H l=some (.lst xs)) (q:RepL K F ds xs) (no:l∉cO sd):StF K H₀ F H (σ.set i (some (.ref l))) (sd.set i (.own l ds)):=
 ⟨S.base,S.sub,S.smp,S.slots.set (z:= .own l ds) ⟨rfl,n,xs,h,q⟩ i,(kI i S.nd fun l' e=>by rw [aR.mp e]; exact .inl no).1⟩
theorem bV (i:Nat) {x:Str} {p:Pos} (hN:X.N.Nodup) (hi:X.N[i]? =some x) (hx:Loc X.env.scope x) (h:PEd X sd e (.val d)) (hE:E.nx (sd.set i (.val d))) (hs:swapsWith e (some (.Name x p)) pos.line X.env=pure false:=by rfl)
  (hf:X.fn x=true∨X.env.scope.names.lookup x=some .local:=by first | exact .inl rfl | exact .inr rfl | assumption):PSd1 X sd (.Assign [.Name x p] e pos) E:= .mk fun σ F H S=>
 (sS hN hi hx fH hs hf).to ((h σ F H S).imp fun v H' ⟨F',S',s',q⟩=>⟨_,F',S'.set i q,s',hE⟩)
theorem eA (i:Nat) {x:Str} {p:Pos} (hN:X.N.Nodup) (hi:X.N[i]? =some x) (hx:Loc X.env.scope x) (h:PEd X sd e (.own ds)) (hE:∀l,E.nx (sd.set i (.own l ds))) (hs:swapsWith e (some (.Name x p)) pos.line X.env=pure false:=by rfl)
  (hf:X.fn x=true∨X.env.scope.names.lookup x=some .local:=by first | exact .inl rfl | exact .inr rfl | assumption):PSd1 X sd (.Assign [.Name x p] e pos) E:= .mk fun σ F H S=>
 (sS hN hi hx fH hs hf).to ((h σ F H S).imp fun v H' ⟨F',S',s',l,xs,e,n,q,rl,no⟩=>⟨_,F',by subst e; exact S'.setO i n q rl no,s',hE l⟩)
noncomputable def Le:List Slot→List Slot→Prop
 | [],[]=>True
 | x::xs,y::ys=>(y= .un∨x=y)∧Le xs ys
 | _,_=>False
theorem Le.refl:∀ (sd:List Slot),Le sd sd
 | []=>trivial
 | _::xs=>⟨.inr rfl,Le.refl xs⟩
theorem Le.own:∀ {sd sd':List Slot},Le sd sd'→(cO sd').Sublist (cO sd)
 | [],[],_=>List.Sublist.refl _
 | [],_::_,h=>h.elim
 | _::_,[],h=>h.elim
 | x::xs,y::ys,h=>by
  obtain ⟨h1,h2⟩:=h; have ih:=Le.own h2
  rcases h1 with rfl | rfl
  ·exact ih.trans (List.sublist_append_right _ _)
  ·exact List.Sublist.append (List.Sublist.refl _) ih
theorem Le.slots {K:aD} {F H:Hp}:∀ {sd sd':List Slot} {σ:St},Le sd sd'→SlotsOk K F H sd σ→SlotsOk K F H sd' σ
 | [],[],_,_,h=>h
 | [],_::_,_,h,_=>h.elim
 | _::_,[],_,h,_=>h.elim
 | x::xs,y::ys,σ,h,q=>by
  obtain ⟨h1,h2⟩:=h; obtain ⟨o,r,rfl,a,b⟩:=q; refine ⟨o,r,rfl, ?_,Le.slots h2 b⟩
  rcases h1 with rfl | rfl
  ·trivial
  ·exact a
theorem StF.le {K:aD} {H₀ F H:Hp} {σ:St} {sd':List Slot} (S:StF K H₀ F H σ sd) (h:Le sd sd'):StF K H₀ F H σ sd':=⟨S.base,S.sub,S.smp,h.slots S.slots,S.nd.sublist h.own⟩
theorem uZ {sd':List Slot} {sts:List Stmt} (h:Le sd sd') (q:PSd X sd' sts E):PSd X sd sts E:= .mk fun σ F H S=>q σ F H (S.le h)
theorem lft_up {F₀ F:Hp} {E:jU} {σ:St} {H:Hp} {sts:List Stmt} (s:Same F₀ F) (h:wSs X sts (lft X F E) σ H):wSs X sts (lft X F₀ E) σ H:=
 h.imp (fun σ2 H2 ⟨sd2,F2,S2,s2,q2⟩=>⟨sd2,F2,S2,s.trans s2,q2⟩) (fun v H2 q2=>q2) (fun σ2 H2 ⟨sd2,F2,S2,s2,q2⟩=>⟨sd2,F2,S2,s.trans s2,q2⟩) fun σ2 H2 ⟨sd2,F2,S2,s2,q2⟩=>⟨sd2,F2,S2,s.trans s2,q2⟩
theorem iL:∀ (sd:List Slot) (i:Nat),Le sd (sd.set i .un)
 | [],_=>trivial
 | _::xs,0=>⟨.inl rfl,Le.refl xs⟩
 | _::xs,i+1=>⟨.inr rfl,iL xs i⟩
theorem jQ:∀ {sd:List Slot} {i:Nat} {l:Addr} {z:Slot},(cO sd).Nodup→sd[i]? =some z→l∈jG z→l∉cO (sd.set i .un)
 | [],_,_,_,_,e,_=>by simp at e
 | y::zs,0,l,z,h,e,hl=>by
  have:y=z:=by simpa using e
  subst this; obtain ⟨n1,n2,n3⟩:=cI.mp (show (jG y++cO zs).Nodup from h); exact fun hm=>n3 l hl l hm rfl
 | y::zs,i+1,l,z,h,e,hl=>by
  have e':zs[i]? =some z:=by simpa using e
  obtain ⟨n1,n2,n3⟩:=cI.mp (show (jG y++cO zs).Nodup from h); have ml:l∈cO zs:=eG.mpr ⟨_,aV e',hl⟩; intro hm
  rcases bN.mp (show l∈jG y++cO (zs.set i .un) from hm) with q | q
  ·exact n3 l q l ml rfl
  ·exact jQ n2 e' hl q
theorem nD {sd:List Slot} {i:Nat} {l:Addr} {ds:List D} (h:(cO sd).Nodup) (e:sd[i]? =some (.own l ds)):l∉cO (sd.set i .un):=jQ h e (eJ l)
theorem lH {σ:St} {i:Nat} {o:Option V} (h:σ[i]? =some o):σ.set i o=σ:=by obtain ⟨hi,e⟩:=aH.mp h; rw [← e]; exact List.set_getElem_self hi
theorem kF (sd:List Slot) (i:Nat) (x y:Slot):(sd.set i x).set i y=sd.set i y:=by simp
theorem StF.wr {K:aD} {H₀ F H:Hp} {σ:St} {i:Nat} {l:Addr} {ds':List D} {xs':List V} (S:StF K H₀ F H σ sd) (hs:sd[i]? =some (.own l ds)) (rl:RepL K F ds' xs'):StF K H₀ F (upd H l (.lst xs')) σ (sd.set i (.own l ds')):=by
 obtain ⟨o,h1,h2,n,xs,q,_⟩:=S.slots.get hs; have no:=nD S.nd hs; have S0:=S.le (iL sd i); refine ⟨S.base,fun b u e=> ?_,fun b u e=> ?_, ?_, ?_⟩
 ·rw [bM (cF e n)]; exact S.sub _ _ e
 ·by_cases h:b=l
  ·subst h; rw [bZ] at e; cases e; trivial
  ·rw [bM h] at e; exact S.smp _ _ e
 ·have q1:SlotsOk K F (upd H l (.lst xs')) (sd.set i .un) σ:=S0.slots.mono (Same.refl _) fun l' hl=>by
   obtain ⟨n',ys,q',_⟩:=S0.slots.owns hl; have hne:l'≠l:=fun z=>no (z▸hl)
   exact ⟨n',fun ys e=>by rw [bM hne]; exact e⟩
  have q2:=q1.set (z:= .own l ds') (o:=some (.ref l)) ⟨rfl,n,xs',bZ,rl⟩ i; rw [kF,lH (by rw [h1,h2])] at q2; exact q2
 ·have:=kI (z:=Slot.own l ds') i S0.nd fun l' e=>by rw [aR.mp e]; exact .inl no
  rw [kF] at this; exact this.1
theorem iZ (i:Nat) {l:Addr} {sts:List Stmt} (hs:sd[i]? =some (.own l ds)) (h:PSd X (sd.set i (.val (.lst ds))) sts E):PSd X sd sts E:= .mk fun σ F H S=>by obtain ⟨o,h1,h2,n,xs,q,rl⟩:=S.slots.get hs; have S0:=S.le (iL sd i); obtain ⟨S1,s1⟩:=S0.freeze q n (nD S.nd hs); have S2:=S1.set (d:= .lst ds) (v:= .ref l) i (by simp only [Rep]; exact ⟨l,xs,rfl,bZ,rl.mono s1⟩); rw [kF,lH (by rw [h1,h2])] at S2; exact lft_up s1 (h σ _ H S2)
theorem jP (i:Nat) {x:Str} {p ap cp:Pos} {l:Addr} (hs:sd[i]? =some (.own l ds)) (hx:PE X (.Name x p) (mQ i)) (h:PEd X sd e (.val d)) (hl:ds.length≤1000) (hE:E.nx (sd.set i (.own l (ds++[d]))))
  (hst:starEach (e::[]) X.env=(false,eval e X.env)::starEach [] X.env:=by rfl)
  (hm:PE X (.Call (.Attribute (.Name x p) "append" ap) [e] [] cp) (tBM X.K "list" qP (mQ i) (oM (wE X e) zG)):=by exact xC jD tS tT uK (pv _) (jH fH pa_nil))
  (hsw:swapsWith (.Call (.Attribute (.Name x p) "append" ap) [e] [] cp) none pos.line X.env=pure false:=by rfl):
  PSd1 X sd (.Expr (.Call (.Attribute (.Name x p) "append" ap) [e] [] cp) pos) E:= .mk fun σ F H S=>
 (qT hm hsw).to (by
  obtain ⟨o,h1,h2,n,xs,q,rl⟩:=S.slots.get hs; refine ⟨.ref l,by rw [h1,h2], .inl ⟨rfl,xs, .of q⟩,(h σ F H S).imp fun v H1 ⟨F1,S1,s1,q1⟩=> ?_⟩; obtain ⟨o',h1',h2',n',xs',q',rl'⟩:=S1.slots.get hs
  exact ⟨l,xs',v,rfl,rfl,q',by rw [rl'.len]; exact gR hl,_,F1,S1.wr hs (rl'.app (.one q1)),s1,hE⟩)
theorem rF (i:Nat) {x:Str} {p ap cp:Pos} {l:Addr} {ds2:List D} (hs:sd[i]? =some (.own l ds)) (hx:PE X (.Name x p) (mQ i)) (h:PEd X sd e (.val (.lst ds2))) (hl:ds.length+ds2.length≤1000) (hE:E.nx (sd.set i (.own l (ds++ds2))))
  (hst:starEach (e::[]) X.env=(false,eval e X.env)::starEach [] X.env:=by rfl)
  (hm:PE X (.Call (.Attribute (.Name x p) "extend" ap) [e] [] cp) (tBM X.K "list" rExtend (mQ i) (oM (wE X e) zG)):=by exact xC jD PySem.F.slot_list_extend PySem.F.type_list_extend mt_extend (pv _) (jH fH pa_nil))
  (hsw:swapsWith (.Call (.Attribute (.Name x p) "extend" ap) [e] [] cp) none pos.line X.env=pure false:=by rfl):
  PSd1 X sd (.Expr (.Call (.Attribute (.Name x p) "extend" ap) [e] [] cp) pos) E:= .mk fun σ F H S=>
 (qT hm hsw).to (by
  obtain ⟨o,h1,h2,n,xs,q,rl⟩:=S.slots.get hs; refine ⟨.ref l,by rw [h1,h2], .inl ⟨rfl,xs, .of q⟩,(h σ F H S).imp fun v H1 ⟨F1,S1,s1,q1⟩=> ?_⟩; obtain ⟨o',h1',h2',n',xs',q',rl'⟩:=S1.slots.get hs; simp only [ResOk,Rep] at q1; obtain ⟨b,zs,rfl,hb,rb⟩:=q1
  exact ⟨l,b,xs',zs,rfl,rfl,q',S1.sub _ _ hb,by rw [rl'.len,rb.len]; exact eZ (gR hl),_,F1,S1.wr hs (rl'.app rb),s1,hE⟩)
noncomputable def spC (K:aD) (n:Nat) (C:List D→R→Prop):Sp:=fun vs H Q _=>vs.length=n∧Smp H∧∃ds r,RepL K H ds vs∧C ds r∧∀v H',wX K H H' r v→Q v H'
noncomputable def spF (K:aD) (n:Nat) (C:List D→R→Prop):Sp:=fun vs H Q _=>vs.length=n∧Smp H∧∃F ds r,Same F H∧RepL K F ds vs∧C ds r∧∀v F2 F3 H',Same F F2→Same F2 F3→Same F3 H'→Same H H'→Smp H'→(∀b o,H b=some o→F b=none→F3 b=none)→ResOk K F2 F3 [] r v→Q v H'
noncomputable def pY (F H:Hp):Hp:=fun b=>match F b with
 | some o=>some o
 | none=>H b
theorem qX {F H:Hp}:Same F (pY F H):=fun b o e=>by unfold pY; rw [e]
theorem qQ {F H:Hp} {b:Addr} (h:F b=none):pY F H b=H b:=by unfold pY; rw [h]
theorem FnOk.framed {P:Program} {w:World} {K:aD} {mg:Str→Option Value} {base:Heap} {k n:Nat} {f:Addr} {fd:FuncData} {ps:List Str} {C:List D→R→Prop} (G:FnOk P w K mg base CX0 k f fd ps (spC K n C)):FnOk P w K mg base CX0 k f fd ps (spF K n C):=by
 refine ⟨fun vs H Q E h=> ?_,fun A outer s H args us vs Q E hr e0 hb rv h=> ?_⟩
 ·obtain ⟨hl,sm,F,ds,r,sF,rl,c,_⟩:=h; exact G.len vs F (fun _ _=>True) E ⟨hl,sm.sub sF,ds,r,rl,c,fun _ _ _=>trivial⟩
 ·obtain ⟨hl,sm,F,ds,r,sF,rl,c,q⟩:=h; have e1:Env0 P w K mg base A outer s F:=⟨e0.frames,e0.mod,fun b o e=>⟨(e0.bs b o e).1,sF.free (e0.bs b o e).2⟩,e0.bsz,e0.funs,fun b hb=>sF.free (e0.frf b hb),fun b o e=>(e0.hok b o (sF b o e)).smp (sm b o (sF b o e)),e0.bare⟩; refine codeAny_mono (G.run A outer s F args us vs (fun v F3=>wX K F F3 r v) E hr e1 hb rv ⟨hl,sm.sub sF,ds,r,rl,c,fun v H' z=>z⟩) fun rr s' hrr=> ?_
  cases rr with
  | error e=>exact hrr
  | ok fl=>
   cases fl with
   | ret u=>
    obtain ⟨v,F3,ho,ha,un,hk,ru,F2,s1,s2,sm3,res⟩:=hrr
    have keepF:∀b o,H b=some o→F b=none→F3 b=none:=fun b o e n=>by
     have lt:=e0.hok.lt e; cases g:s.heap.get? b with
     | none=>
      exfalso; have ob:=e0.hok b o e; have z:=sm b o e; cases o with
      | lst xs=>obtain ⟨_,_,_,_,g'⟩:=ob; rw [g] at g'; cases g'
      | tup xs=>obtain ⟨_,_,_,oo,g',_⟩:=ob; rw [g] at g'; cases g'
      | dK kvs=>obtain ⟨_,_,_,_,oo,_,_,g',_⟩:=ob; rw [g] at g'; cases g'
      | frz o2 u2=>obtain ⟨g',_⟩:=ob; rw [g] at g'; cases g'
      | ext φ=>obtain ⟨_,⟨oo,g'⟩,_⟩:=ob; rw [g] at g'; cases g'
      | _=>exact z
     | some ob=>exact un.free b ob g n (by simp)
    have keepO:∀b o,H b=some o→F b=none→∀ob,s.heap.get? b=some ob→s'.heap.get? b=some ob:=fun b o e n ob g=>un.keep b ob g n (fun hb=>by have:=e0.frf b hb; rw [e] at this; cases this) (by simp)
    have sH:Same H (pY F3 H):=fun b o e=>by
     cases g:F b with
     | none=>rw [qQ (keepF b o e g)]; exact e
     | some o'=>have:=sF b o' g; rw [e] at this; cases this; exact qX _ _ (s2 _ _ (s1 _ _ g))
    have smM:Smp (pY F3 H):=fun b o e=>by
     cases g:F3 b with
     | some o'=>have:=qX (H:=H) b o' g; rw [e] at this; cases this; exact sm3 b o g
     | none=>rw [qQ g] at e; exact sm b o e
    refine ⟨v,pY F3 H,ho,ha,⟨fun b o g n hb hx=>un.keep b o g (sF.free n) hb hx,fun b o g n hb hx=>un.slot b o g (sF.free n) hb hx,fun b o g n hx=> ?_,un.there,fun b xs e=>sH _ _ e,fun b o u e=>sH _ _ e,fun b ps e=>⟨#[],by rw [sH _ _ e]; simp⟩⟩,fun b o e=> ?_,ru, ?_⟩
    ·rw [qQ (un.free b o g (sF.free n) hx)]; exact n
    ·have z:=smM b o e; cases g:F3 b with
     | some o'=>have:=qX (H:=H) b o' g; rw [e] at this; cases this; exact (hk b o g).smp z
     | none=>
      rw [qQ g] at e
      have n:F b=none:=by
       cases g2:F b with
       | none=>rfl
       | some o2=>rw [s2 _ _ (s1 _ _ g2)] at g; cases g
      have st:=(e0.hok b o e).smp (F:=fun _=>none) z
      have:ObjOk P w (fun _=>none) s'.heap b o:=st.stay (fun b2 u hb2 gg=>by
       rcases hb2 with rfl | hb2
       ·exact keepO _ o e n u gg
       ·cases hb2) (fun b2 hb2=>nomatch hb2) fun b2 xs hb2=>nomatch hb2
      exact this.smp z
    ·exact q v F2 F3 (pY F3 H) s1 s2 qX sH smM keepF res
   | _=>exact hrr
structure bC (P:Program) (w:World) (K:aD) (mg:Str→Option Value) (base:Heap) (x:Str) (k n:Nat) (C:List D→R→Prop):Prop where
 ex:∃ (f:Addr) (fd:FuncData) (ps:List Str),mg x=some (.ref f)∧dE K (.ref f)=true∧Binds K fd ps []∧FnOk P w K mg base CX0 k f fd ps (spC K n C)
theorem bK {x:Str} {p:Pos} {k n:Nat} {C:List D→R→Prop} (G:bC X.prog X.w X.K X.mg X.base x k n C) (hr:Room k X.A) (hg:Gl X x) (ha:PAd X sd (e::es) (ds.map R.val)) (hc:C ds r) (hb:match r with | .bor _=>False | _=>True) (hn:ds.length=n)
  (hdb:(x==("__debug__":Str))=false:=by decide) (he:starEach (e::es) X.env=(false,eval e X.env)::starEach es X.env:=by rfl) (hpl:(backTo pos (starEach es X.env)).any (·.1)=false:=by rfl):
  PEd X sd (.Call (.Name x p) (e::es) [] pos) r:= .mk fun σ F H S=>by
 obtain ⟨f,fd,ps,hm,hk,bd,G⟩:=G.ex; refine (pe_call (FnOk.framed G) hr hg hm hk bd .nil pass0 pa_w hdb he hpl).to ((ha σ F H S).imp fun vs H1 ⟨F1,S1,s1,q1⟩=> ?_); have rl:=q1.vals; refine ⟨by rw [gL,rl.len]; exact hn,S1.smp,F1,ds,r,S1.sub,by rw [gL]; exact rl,hc,fun v F2 F3 H' s2 s3 s4 sH sm kp res=> ?_⟩
 have no:∀l,l∈cO sd→F2 l=none∧F3 l=none:=fun l hl=>by obtain ⟨n1,xs,q,_⟩:=S1.slots.owns hl; have n3:=kp l _ q n1; exact ⟨s3.free n3,n3⟩
 refine ⟨F2,⟨fun b o e=>s2 _ _ (S1.base _ _ e),s3.trans s4,sm,S1.slots.mono s2 fun l hl=>⟨(no l hl).1,fun ys e=>sH _ _ e⟩,S1.nd⟩,s1.trans s2, ?_⟩; cases r with
 | val d=>exact res
 | own ds'=>obtain ⟨l,xs,e,n,q,rl',_⟩:=res; exact ⟨l,xs,e,n,s4 _ _ q,rl',fun hl=>by rw [(no l hl).2] at q; cases q⟩
 | pr d ls=>obtain ⟨t,l,xs,y,e,f,g,n,q,rl',_⟩:=res; exact ⟨t,l,xs,y,e,f,g,n,s4 _ _ q,rl',fun hl=>by rw [(no l hl).2] at q; cases q⟩
 | ox G=>obtain ⟨ls,nd,h,g⟩:=res; refine ⟨ls,nd,fun l hl=> ?_,fun F' H'' sF k=>g F' H'' sF fun l hl ob q=>k l hl ob (s4 _ _ q)⟩; obtain ⟨n,⟨ob,q,w⟩,_⟩:=h l hl; exact ⟨n,⟨ob,s4 _ _ q,w⟩,fun hm=>by rw [(no l hm).2] at q; cases q⟩
 | bor ds'=>exact hb.elim
noncomputable def R.toD:R→D
 | .val d=>d
 | .own ds=> .lst ds
 | .bor ds=> .lst ds
 | .pr d ls=> .tup [d, .lst ls]
 | .ox _=> .non
noncomputable def zH (n:Nat) (ds:List D):List Slot:=ds.map Slot.val++gU (n - ds.length) .un
theorem xF {K:aD} {F H:Hp}:∀n:Nat,SlotsOk K F H (gU n .un) (gU n none)
 | 0=>rfl
 | n+1=>⟨none,gU n none,rfl,trivial,xF n⟩
theorem sC {K:aD} {F H:Hp} {m n:Nat}:∀ {ds:List D} {vs:List V},RepL K F ds vs→SlotsOk K F H (ds.map Slot.val++gU n .un) (vs.map some++gU n none)
 | [],vs,r=>by simp only [RepL] at r; subst r; exact xF n
 | d::ds,vs,r=>by obtain ⟨y,ys,rfl,a,rl⟩:=r.uncons; exact ⟨some y,_,rfl,⟨y,rfl,a⟩,sC (m:=m) rl⟩
theorem sL (n:Nat):∀ds:List D,cO (ds.map Slot.val++gU n .un)=[]
 | []=>by
  induction n with
  | zero=>rfl
  | succ n ih=>exact ih
 | _::ds=>sL n ds
theorem def_fn {P:Program} {w:World} {K:aD} {mg:Str→Option Value} {base:Heap} {x qual:Str} {st:Stmt} {f:Addr} {fd:FuncData} {N ps:List Str} {k:Nat} {C:List D→R→Prop} (F:Fun K x qual st f fd) (S:oW N ps (aW st))
  (body:∀ (cdv:Value) (A:Around) (outer:List Env) (s:Shared) (H:Hp) (E:XK),Room k (A.deeper (envOfC qual (aW st) s.heap.objs.size f cdv))→∀ds r,ds.length=ps.length→C ds r→
   PSd (hX CX0 P w K mg base N qual (aW st) f cdv A outer s H E).nox (zH N.length ds) (iP st) {nx:=fun _=>r= .val .non,rt:=fun r'=>r'=r}):FnOk P w K mg base CX0 (k+1) f fd ps (spC K ps.length C):=by
 refine F.ok S (fun vs H Q E h=>h.1) fun cdv A outer s H vs Q E hr h=> ?_
 obtain ⟨hl,sm,ds,r,rl,c,q⟩:=h; have hds:ds.length=ps.length:=by rw [← rl.len]; exact hl
 refine ⟨_,uO, ?_⟩; have hlen:N.length - vs.length=N.length - ds.length:=by rw [rl.len]
 have S0:StF K H H H (L2.start N vs) (zH N.length ds):=by
  refine ⟨Same.refl _,Same.refl _,sm, ?_, ?_⟩
  ·unfold L2.start zH; rw [hlen]; exact sC (m:=0) rl
  ·unfold zH; rw [sL]; exact gW
 refine (body cdv A outer s H E hr ds r hds c (L2.start N vs) H H S0).imp ?_ ?_ (fun _ _ ⟨_,_,_,_,z⟩=>z) fun _ _ ⟨_,_,_,_,z⟩=>z
 ·rintro σ' H' ⟨sd',F',S',s',e⟩; have e:r= .val .non:=e; subst e; exact q .non H' ⟨F',S'.base,S'.sub,S'.smp,by simp only [ResOk,Rep]⟩
 ·rintro v H' ⟨r',ro,e⟩; have e:r'=r:=e; subst e; exact q v H' ro
theorem dD {P:Program} {w:World} {K:aD} {mg:Str→Option Value} {base:Heap} {x qual:Str} {st:Stmt} {f:Addr} {fd:FuncData} {N ps:List Str} {k:Nat} {C:List D→R→Prop} (F:Fun K x qual st f fd) (S:oW N ps (aW st))
  (hm:mg x=some (.ref f)) (hb:∀ (kV doc pm:Value) (an:Option Addr) (cdv ct:Value) (us:List Value),us.length=ps.length→bindArgs (fY x qual (kE st) (iP st) (aW st) .none kV doc pm an cdv ct) ⟨us,[]⟩=pure (ps.zip us))
  (body:∀ (cdv:Value) (A:Around) (outer:List Env) (s:Shared) (H:Hp) (E:XK),Room k (A.deeper (envOfC qual (aW st) s.heap.objs.size f cdv))→∀ds r,ds.length=ps.length→C ds r→
   PSd (hX CX0 P w K mg base N qual (aW st) f cdv A outer s H E).nox (zH N.length ds) (iP st) {nx:=fun _=>r= .val .non,rt:=fun r'=>r'=r}):bC P w K mg base x (k+1) ps.length C:=
 ⟨f,fd,ps,hm,F.kp,F.binds hb,def_fn F S body⟩
end
section
variable {X:Cx} {sd:List Slot} {e a b c tg iter:Expr} {es:List Expr} {pos:Pos} {r ra rb:R} {d:D} {ds:List D} {st:Stmt} {rest:List Stmt} {E:jU}
noncomputable def ItD (K:aD) (F₁:Hp) (P:Hp→Hp→Prop) (J:It) (ds:List D):Prop:=∀ (F H:Hp),Same F₁ F→Same F H→Smp H→P F H→∀i,(i<ds.length→J.go i H)∧(ds.length≤i→J.stop i H)∧
 ∀x H' d,ds[i]? =some d→J.yld i H x H'→∃F',Same F F'∧Rep K F' d x∧∀H₀ σ sd,StF K H₀ F H σ sd→StF K H₀ F' H' σ sd
noncomputable abbrev PT0:Hp→Hp→Prop:=fun _ _=>True
structure PId (X:Cx) (sd:List Slot) (P:Hp→Hp→Prop) (tg iter:Expr) (ds:List D):Prop where
 run:∀ (σ:St) (F H:Hp),StF X.K X.B₀ F H σ sd→
 wI X tg iter σ H fun J H1=>∃F1,StF X.K X.B₀ F1 H1 σ sd∧Same F F1∧ItD X.K F1 P J ds
instance {X:Cx} {sd:List Slot} {P:Hp→Hp→Prop} {tg iter:Expr} {ds:List D}:CoeFun (PId X sd P tg iter ds) (fun _=>∀ (σ:St) (F H:Hp),StF X.K X.B₀ F H σ sd→
 wI X tg iter σ H fun J H1=>∃F1,StF X.K X.B₀ F1 H1 σ sd∧Same F F1∧ItD X.K F1 P J ds):=⟨PId.run⟩
theorem _root_.L2.PI.to {wi:TI} {σ:St} {H:Hp} {R:It→Hp→Prop} (h:PI X tg iter wi) (q:wi σ H R):wI X tg iter σ H R:=fun pins s I=>h pins s σ H R I q
theorem gE (h:PEd X sd iter (.val (.lst ds))):PId X sd PT0 tg iter ds:= .mk fun σ F H S=>
 (pi_list fH).to ((h σ F H S).imp fun v H1 ⟨F1,S1,s1,q1⟩=>by
  simp only [ResOk,Rep] at q1; obtain ⟨l,xs,rfl,hl,rl⟩:=q1; refine ⟨l,rfl,⟨xs, .of (S1.sub _ _ hl)⟩,F1,S1,s1,fun F' H' sF sH sm _ i=> ?_⟩; have hl':=sH _ _ (sF _ _ hl); refine ⟨fun hi=>⟨xs,xs[i]'(by rw [rl.len]; exact hi), .of hl',by simp [rl.len,hi]⟩,fun hi=>⟨xs, .of hl',by rw [rl.len]; exact hi⟩,fun x H2 d hd y=> ?_⟩; obtain ⟨rfl,y⟩:=y; obtain ⟨v,hv,rv⟩:=rl.get hd; have:=y xs (.of hl'); rw [hv] at this; cases this
  exact ⟨F',Same.refl _,rv.mono sF,fun _ _ _ S=>S⟩)
theorem iM (h:PEd X sd iter (.val (.tup ds))):PId X sd PT0 tg iter ds:= .mk fun σ F H S=>
 (pi_tup fH).to ((h σ F H S).imp fun v H1 ⟨F1,S1,s1,q1⟩=>by
  simp only [ResOk,Rep] at q1; obtain ⟨l,xs,rfl,hl,rl⟩:=q1; refine ⟨l,rfl,⟨xs, .of (S1.sub _ _ hl)⟩,F1,S1,s1,fun F' H' sF sH sm _ i=> ?_⟩; have hl':=sH _ _ (sF _ _ hl); refine ⟨fun hi=>⟨xs,xs[i]'(by rw [rl.len]; exact hi), .of hl',by simp [rl.len,hi]⟩,fun hi=>⟨xs, .of hl',by rw [rl.len]; exact hi⟩,fun x H2 d hd y=> ?_⟩; obtain ⟨rfl,y⟩:=y; obtain ⟨v,hv,rv⟩:=rl.get hd; have:=y xs (.of hl'); rw [hv] at this; cases this
  exact ⟨F',Same.refl _,rv.mono sF,fun _ _ _ S=>S⟩)
noncomputable def hR (lo:Int) (n:Nat):List D:=(bJ n).map fun (k:Nat)=>D.int (lo+(k:Int))
theorem gC (lo:Int) (n:Nat):(hR lo n).length=n:=by simp [hR]
theorem iF {lo:Int} {n i:Nat} {d:D} (h:(hR lo n)[i]? =some d):i<n∧d= .int (lo+(i:Int)):=by
 unfold hR at h; rw [aI] at h
 by_cases hi:i<n
 ·rw [List.getElem?_range hi] at h; exact ⟨hi,(cT.inj h).symm⟩
 ·rw [nJ (by simpa using hi)] at h; cases h
theorem itd_range {K:aD} {F₁:Hp} {lo:Int} {n:Nat}:ItD K F₁ PT0 (Itr lo n) (hR lo n):=fun F H _ _ _ _ i=>by refine ⟨fun hi=>by rw [gC] at hi; exact hi,fun hi=>by rw [gC] at hi; exact hi,fun x H' d hd y=> ?_⟩; obtain ⟨rfl,rfl⟩:=y; obtain ⟨_,rfl⟩:=iF hd; exact ⟨F,Same.refl _,by simp only [Rep],fun _ _ _ S=>S⟩
theorem iJ {p:Pos} {n:Nat} (hg:Gl X "range") (hm:X.mg "range"=none) (h:PEd X sd a (.val (.int (n:Int)))) (hn:(n:Int)<2^62) (hs:starEach [a] X.env=[(false,eval a X.env)]:=by rfl):PId X sd PT0 tg (.Call (.Name "range" p) [a] [] pos) (hR 0 n):= .mk fun σ F H S=>
 (pi_range1 hg hm pa_w hs).to ((aC h aG trivial hs σ F H S).imp fun vs H1 ⟨F1,S1,s1,q1⟩=>by
  cases q1 with
  | cons q1 q2=>
   cases q2; simp only [ResOk,Rep] at q1; subst q1
   exact ⟨(n:Int),rfl,by omega,hn,F1,S1,s1,by rw [fE]; exact itd_range⟩)
structure PGd (X:Cx) (sd:List Slot) (tg:Expr) (d:D) (sd':List Slot):Prop where
 run:∀ (σ:St) (F H:Hp) (v:V),StF X.K X.B₀ F H σ sd→Rep X.K F d v→wG X tg v σ H fun σ' H'=>∃F',StF X.K X.B₀ F' H' σ' sd'∧Same F F'
instance {X:Cx} {sd:List Slot} {tg:Expr} {d:D} {sd':List Slot}:CoeFun (PGd X sd tg d sd') (fun _=>∀ (σ:St) (F H:Hp) (v:V),StF X.K X.B₀ F H σ sd→Rep X.K F d v→wG X tg v σ H fun σ' H'=>∃F',StF X.K X.B₀ F' H' σ' sd'∧Same F F'):=⟨PGd.run⟩
theorem _root_.L2.PG.to {t:TG} {v:V} {σ:St} {H:Hp} {Q:St→Hp→Prop} (h:PG X tg t) (q:t v σ H Q):wG X tg v σ H Q:=fun pins s u I r=>h pins s σ H v u Q I r q
theorem cU (j:Nat) (h:PG X tg (gName j)):PGd X sd tg d (sd.set j (.val d)):= .mk fun σ F H v S q=>h.to ⟨F,S.set j q,Same.refl _⟩
noncomputable def gNs:List Nat→TGs
 | []=>gNil
 | j::js=>gCons (gName j) (gNs js)
noncomputable def setAll:List Slot→List Nat→List D→List Slot
 | sd,j::js,d::ds=>setAll (sd.set j (.val d)) js ds
 | sd,_,_=>sd
theorem gNs_ok {K:aD} {H₀ F H:Hp} {Q:St→Hp→Prop}:∀ {js:List Nat} {ds:List D} {vs:List V} {σ:St} {sd:List Slot},js.length=ds.length→RepL K F ds vs→StF K H₀ F H σ sd→(∀σ',StF K H₀ F H σ' (setAll sd js ds)→Q σ' H)→gNs js vs σ H Q
 | [],[],vs,σ,sd,_,r,S,k=>by simp only [RepL] at r; exact ⟨r,k σ S⟩
 | j::js,d::ds,vs,σ,sd,hl,r,S,k=>by obtain ⟨y,ys,rfl,q,rl⟩:=r.uncons; exact ⟨y,ys,rfl,gNs_ok (by simpa using hl) rl (S.set j q) k⟩
 | [],_::_,_,_,_,hl,_,_,_=>by simp at hl
 | _::_,[],_,_,_,hl,_,_,_=>by simp at hl
theorem iO {k:Nat} {js:List Nat} (hc:X.calm=true) (h:PGs X es (gNs js)) (hl:js.length=ds.length) (hn:(assignEach es X.env).length=ds.length) (hst:(assignEach es X.env).findIdx? (·.1)=none:=by rfl):PGd X sd (.Tuple es k pos) (.tup ds) (setAll sd js ds):= .mk fun σ F H v S q=>
 (pg_tup hc h hn hst).to (by
  simp only [Rep] at q; obtain ⟨a,xs,rfl,ha,rl⟩:=q
  exact ⟨a,xs,rfl, .of (S.sub _ _ ha),rl.len,gNs_ok hl rl S fun σ' S'=>⟨F,S',Same.refl _⟩⟩)
theorem vK {sd':List Slot} (h:PEd X sd e (.val d)) (hg:PGd X sd tg d sd') (hE:E.nx sd') (hs:swapsWithSole [tg] e pos.line X.env=pure false:=by rfl) (hw:swappedStores [tg] e X.env=pure none:=by rfl)
  (h1:(assignEach [tg] X.env).map (·.2)=[assign tg X.env]:=by rfl):PSd1 X sd (.Assign [tg] e pos) E:= .mk fun σ F H S=>
 (ps_asg fH pg_w hs hw h1).to ((h σ F H S).imp fun v H1 ⟨F1,S1,s1,q1⟩=>(hg σ F1 H1 v S1 q1).imp fun σ' H' ⟨F',S',s'⟩=>⟨sd',F',S',s1.trans s',hE⟩)
theorem qN {body:List Stmt} {P:Hp→Hp→Prop} (Sd Td:Nat→List Slot) (hi:PId X sd P tg iter ds) (h0:Le sd (Sd 0)) (hg:∀k d,ds[k]? =some d→PGd X (Sd k) tg d (Td k))
  (hb:∀k d,ds[k]? =some d→PSd X (Td k) body {E with nx:=fun sd'=>Le sd' (Sd (k+1)),ct:=fun sd'=>Le sd' (Sd (k+1)),bk:=E.nx}) (hE:E.nx (Sd ds.length)) (hP:∀k σ F H,StF X.K X.B₀ F H σ (Sd k)→P F H:=by intros; trivial)
  (hc:X.calm=true:=by rfl) (hp:PassesOwn (model X.prog X.w) X.A X.env X.xe:=by exact PassesOwn.never) (hs:∀x,foldedSetIterable iter X.env x=pure x:=by intro _; rfl):PSd1 X sd (.For tg iter body [] pos) E:= .mk fun σ F H S=>
 (ps_for hp hc pi_w pg_w uO hs).to (by
  intro pins s I; refine thn (hi σ F H S pins s I) fun v s1 h1=>thn h1 fun itv s2 h2=> ?_
  obtain ⟨it,fp,tn,J,H2,e,I2,T,st2,f2,F1,S1,s1',itd⟩:=h2; refine ⟨it,fp,tn,J,H2,e,I2,T,st2,f2, ?_⟩; refine ⟨fun i m σ' H'=>m=ds.length - i∧i≤ds.length∧∃F',StF X.K X.B₀ F' H' σ' (Sd i)∧Same F1 F',⟨ds.length,by simp,cW _,F1,S1.le h0,Same.refl _⟩, ?_⟩; rintro i m σ' H' ⟨rfl,hil,F',S',s'⟩; obtain ⟨g1,g2,g3⟩:=itd F' H' s' S'.sub S'.smp (hP _ _ _ _ S') i
  by_cases hlt:i<ds.length
  ·refine .inr ⟨g1 hlt,fun σ2 H2=>∃F2,StF X.K X.B₀ F2 H2 σ2 (Sd (i+1))∧Same F1 F2,fun σ2 H2 ⟨F2,S2,s2⟩=>⟨ds.length - (i+1),by omega,rfl,hlt,F2,S2,s2⟩,fun x H2 y=> ?_⟩; have hd:ds[i]? =some ds[i]:=by simp [hlt]
   obtain ⟨F2,s2,rp,up⟩:=g3 x H2 ds[i] hd y; refine (hg i _ hd σ' F2 H2 x (up _ _ _ S') rp).imp fun σ3 H3 ⟨F3,S3,s3⟩=> ?_
   have base:Same F1 F3:=(s'.trans s2).trans s3; refine (hb i _ hd σ3 F3 H3 S3).imp ?_ ?_ ?_ ?_
   ·rintro σ4 H4 ⟨sd4,F4,S4,s4,le⟩; exact ⟨F4,S4.le le,base.trans s4⟩
   ·exact fun v H4 q=>q
   ·rintro σ4 H4 ⟨sd4,F4,S4,s4,q⟩; exact ⟨sd4,F4,S4,(s1'.trans base).trans s4,q⟩
   ·rintro σ4 H4 ⟨sd4,F4,S4,s4,le⟩; exact ⟨F4,S4.le le,base.trans s4⟩
  ·have e:i=ds.length:=by omega
   subst e
   exact .inl ⟨g2 (aZ _),Sd ds.length,F',S',s1'.trans s',hE⟩)
theorem Inv.retrack {pins:List (Addr × Obj)} {σ:St} {H F:Hp} {s s':Shared} (I0:Inv X pins σ H s):∀ (ls:List Addr),ls.Nodup→(∀l∈ls,F l=none∧(∃xs,H l=some xs∧Wr l xs)∧∀o,s.heap.get? l=some o→s'.heap.get? l=some o)→Inv X pins σ F s'→Inv X pins σ (fun b=>if b∈ls then H b else F b) s'
 | [],_,_,I=>by simpa using I
 | l::ls,nd,h,I=>by
  obtain ⟨nl,nd'⟩:=bW.mp nd; have J:=Inv.retrack I0 ls nd' (fun l' hl=>h l' (aU _ hl)) I; obtain ⟨n,⟨xs,hx,wx⟩,kp⟩:=h l bB
  have e:(fun b=>if b∈l::ls then H b else F b)=upd (fun b=>if b∈ls then H b else F b) l xs:=by
   funext b; unfold upd
   by_cases hb:b=l
   ·subst hb; simp [hx]
   ·simp [hb]
  rw [e]; have n':(fun b=>if b∈ls then H b else F b) l=none:=by simp [nl,n]
  have ob:=I0.hok l _ hx; clear e; generalize (fun b=>if b∈ls then H b else F b)=G at J n' ⊢; refine ⟨J.ok,J.os,J.bare,⟨J.base.keep,J.base.slot,fun b u g n0 hx0=> ?_,J.base.there,fun b ys g=> ?_,fun b u ys g=> ?_,fun b ps g=> ?_⟩,J.loc,J.cell, ?_,fun x c g=> ?_,fun p hp=> ?_,J.hok.track n' ?_,J.len⟩
  ·have hb:b≠l:=fun q=>by subst q; have:=I0.base.free b u g n0 hx0; rw [hx] at this; cases this
   rw [bM hb]; exact J.base.free b u g n0 hx0
  ·have q:=J.base.tups b ys g; rw [bM (cF q n')]; exact q
  ·have q:=J.base.frzs b u ys g; rw [bM (cF q n')]; exact q
  ·obtain ⟨m,q⟩:=J.base.tbls b ps g; exact ⟨m,by rw [bM (cF q n')]; exact q⟩
  ·rw [bM (fun q=>by have:=I0.free; rw [q,hx] at this; cases this)]; exact J.free
  ·rw [bM (fun q=>by have:=I0.freeC x c g; rw [q,hx] at this; cases this)]; exact J.freeC x c g
  ·obtain ⟨g,n0,rr⟩:=J.pin p hp; refine ⟨g, ?_,rr⟩; rw [bM (fun q=>by have:=(I0.pin p hp).2.1; rw [q,hx] at this; cases this)]; exact n0
  ·cases xs with
   | lst xs=>obtain ⟨z,its,nn,rv,ho⟩:=ob; exact ⟨z,its,nn,rv,kp _ ho⟩
   | dK kvs=>obtain ⟨z,y,vs,r,o,es,ep,e,c⟩:=ob; exact ⟨z,y,vs,r,o,es,ep,kp _ e,c⟩
   | ext φ=>obtain ⟨h1,⟨o1,h2⟩,h3⟩:=ob; exact ⟨h3 _ _ h1 kp,⟨o1,kp _ h2⟩,h3⟩
   | _=>exact wx.elim
theorem wr_obj {P:Program} {w:World} {H:Hp} {h:Heap} {l:Addr} {xs:HO} (wx:Wr l xs) (q:H l=some xs) (ok:ObjOk P w H h l xs):∃ys o,H l=some ys∧Wr l ys∧h.get? l=some o∧∀v,o.data≠ .cell v:=by
 cases xs with
 | lst xs=>obtain ⟨_,its,nn,_,ho⟩:=ok; exact ⟨_,_,q,trivial,ho,fun v z=>by cases z⟩
 | dK kvs=>obtain ⟨_,_,_,_,o,es,ep,e,_,d,_⟩:=ok; exact ⟨_,_,q,trivial,e,fun v z=>by rw [d] at z; cases z⟩
 | ext φ=>obtain ⟨o,e,n⟩:=id wx; subst e; exact ⟨_,o,q,wx,ok.1,n⟩
 | _=>exact wx.elim
theorem wE_frame {σ:St} {F H:Hp} (S:StF X.K X.B₀ F H σ sd) (hr:match r with | .bor _=>False | _=>True) (h:wE X e σ F fun v F3=>wX X.K F F3 r v):wE X e σ H fun v H'=>∃F',StF X.K X.B₀ F' H' σ sd∧Same F F'∧ResOk X.K F' H' sd r v:=fun pins s I=>by
 have I1:Inv X pins σ F s:=I.less S.sub S.base (S.smp.sub S.sub)
 have ob:∀l∈cO sd,∃xs o,H l=some xs∧Wr l xs∧s.heap.get? l=some o∧∀v,o.data≠ .cell v:=fun l hl=>by obtain ⟨n,xs,q,wx⟩:=S.slots.owns hl; exact wr_obj wx q (I.hok l _ q)
 have I2:Inv X (pins++mG (cO sd) s.heap) σ F s:=I1.pins_of fun p hp=>(bN.mp hp).elim (fun z=>I1.pin p (aX _ z)) fun z=>by
  obtain ⟨hb,g⟩:=pR z; obtain ⟨xs,o,q,_,ho,hc⟩:=ob p.1 hb; rw [g] at ho; cases ho; refine ⟨g,(S.slots.owns hb).1,fun y=> ?_,fun y=> ?_,hc⟩
  ·have:=I.free; rw [← y,q] at this; cases this
  ·obtain ⟨_,o',ho',_⟩:=I.ok.funs.mem y; have:=I.base.free p.1 o' ho' (I.ok.frf p.1 y) fun z=>I.ok.exfs p.1 z y
   rw [q] at this; cases this
 refine thn (h _ s I2) fun u s' ⟨v,F3,I3,rv,F2,s1,s2,sm3,res⟩=> ?_
 have kp:∀l∈cO sd,F3 l=none∧(∃xs,H l=some xs∧Wr l xs)∧∀o,s.heap.get? l=some o→s'.heap.get? l=some o:=fun l hl=>by obtain ⟨xs,o,q,wx,ho,_⟩:=ob l hl; have:=I3.pin (l,o) (aX _ (aX _ (jB hl ho))); exact ⟨this.2.1,⟨xs,q,wx⟩,fun o' g=>by rw [ho] at g; cases g; exact this.1⟩
 have I4:=Inv.retrack I (cO sd) S.nd kp I3.unpinned; refine ⟨v,_,I4,rv,F2,⟨fun b o g=>s1 _ _ (S.base _ _ g),fun b o g=> ?_,fun b o g=> ?_,S.slots.mono s1 fun l hl=>⟨s2.free (kp l hl).1,fun xs g=>by simpa [hl] using g⟩,S.nd⟩,s1, ?_⟩
 ·have g3:=s2 _ _ g; have:b∉cO sd:=fun hb=>by rw [(kp b hb).1] at g3; cases g3
  simp [this,g3]
 ·by_cases hb:b∈cO sd
  ·simp [hb] at g; exact S.smp _ _ g
  ·simp [hb] at g; exact sm3 _ _ g
 ·cases r with
  | val d=>exact res
  | own ds'=>
   obtain ⟨l,xs,e,n,q,rl',_⟩:=res; have:l∉cO sd:=fun hl=>by rw [(kp l hl).1] at q; cases q
   exact ⟨l,xs,e,n,by simp [this,q],rl',this⟩
  | pr d ls=>
   obtain ⟨t,l,xs,y,e,f,g,n,q,rl',_⟩:=res; have:l∉cO sd:=fun hl=>by rw [(kp l hl).1] at q; cases q
   exact ⟨t,l,xs,y,e,f,g,n,by simp [this,q],rl',this⟩
  | ox G=>
   obtain ⟨ls,nd,h,g⟩:=res
   have no:∀l∈ls,l∉cO sd:=fun l hl hm=>by obtain ⟨n,⟨ob,q,w⟩,_⟩:=h l hl; rw [(kp l hm).1] at q; cases q
   refine ⟨ls,nd,fun l hl=> ?_,fun F' H' sF k=>g F' H' sF fun l hl ob q=>k l hl ob (by simp [no l hl,q])⟩; obtain ⟨n,⟨ob,q,w⟩,_⟩:=h l hl; exact ⟨n,⟨ob,by simp [no l hl,q],w⟩,no l hl⟩
  | bor ds'=>exact hr.elim
noncomputable def capS:Option Slot→Slot
 | some (.val d)=> .val d
 | some (.ox [] G)=> .ox [] G
 | _=> .un
noncomputable def pQ (cap:List (Option Nat)) (sd:List Slot):List Slot:=cap.map fun o=>match o with
 | none=> .un
 | some k=>capS sd[k]?
theorem capD_ok {K:aD} {F H F' H':Hp} {σ:St} (h:SlotsOk K F H sd σ) (s:Same F F'):∀cap:List (Option Nat),SlotsOk K F' H' (pQ cap sd) (tM cap σ)
 | []=>rfl
 | o::cap=>by
  refine ⟨_,_,rfl, ?_,capD_ok h s cap⟩; cases o with
  | none=>trivial
  | some k=>
   show kP K F' H' (capS sd[k]?) _; cases q:sd[k]? with
   | none=>trivial
   | some z=>
    cases z with
    | un=>trivial
    | own l ds=>trivial
    | od l ks ds=>trivial
    | ox ls G=>
     cases ls with
     | cons a ls=>trivial
     | nil=>obtain ⟨o,h1,v,h2,h3,h4⟩:=h.get q; subst h2; exact ⟨v,by simp [h1],fun l hl=>(nomatch hl),fun F2 H2 s2 _=>h4 F2 H2 (s.trans s2) fun l hl=>(nomatch hl)⟩
    | gh d G=>trivial
    | val d=>obtain ⟨o,h1,v,h2,rv⟩:=h.get q; subst h2; exact ⟨v,by simp [h1],rv.mono s⟩
theorem rR:∀ (cap:List (Option Nat)) (sd:List Slot),cO (pQ cap sd)=[]
 | [],_=>rfl
 | o::cap,sd=>by
  have ih:=rR cap sd; cases o with
  | none=>exact ih
  | some k=>
   show cO (capS sd[k]? ::pQ cap sd)=[]; cases q:sd[k]? with
   | none=>exact ih
   | some z=>
    cases z with
    | ox ls G=>cases ls<;>exact ih
    | _=>exact ih
noncomputable def unS:Slot→Slot
 | .own _ _=> .un
 | .od _ _ _=> .un
 | .ox [] G=> .ox [] G
 | .ox _ _=> .un
 | z=>z
noncomputable def unO (sd:List Slot):List Slot:=sd.map unS
theorem jC:∀sd:List Slot,cO (unO sd)=[]
 | []=>rfl
 | .un::r=>jC r
 | .val _::r=>jC r
 | .gh _ _::r=>jC r
 | .own _ _::r=>jC r
 | .od _ _ _::r=>jC r
 | .ox [] _::r=>jC r
 | .ox (_::_) _::r=>jC r
theorem capD_unO (cap:List (Option Nat)) (sd:List Slot):pQ cap (unO sd)=pQ cap sd:=by
 unfold pQ; refine bI fun o _=> ?_
 cases o with
 | none=>rfl
 | some k=>
  show capS (unO sd)[k]? =capS sd[k]?; unfold unO; rw [aI]; cases q:sd[k]? with
  | none=>rfl
  | some z=>
   cases z with
   | ox ls G=>cases ls<;>rfl
   | _=>rfl
theorem uD {K:aD} {F H H':Hp}:∀ {sd:List Slot} {σ:St},SlotsOk K F H sd σ→SlotsOk K F H' (unO sd) σ
 | [],_,h=>h
 | z::zs,σ,h=>by
  obtain ⟨o,r,rfl,a,b⟩:=h; refine ⟨o,r,rfl, ?_,uD b⟩; cases z with
  | un=>trivial
  | val d=>exact a
  | gh d G=>exact a
  | od l ks ds=>trivial
  | ox ls G=>
   cases ls with
   | cons a ls=>trivial
   | nil=>obtain ⟨v,h2,h3,h4⟩:=a; exact ⟨v,h2,fun l hl=>(nomatch hl),fun F2 H2 s2 _=>h4 F2 H2 s2 fun l hl=>(nomatch hl)⟩
  | own l ds=>trivial
theorem pI {ds:List D} {i:Nat} {d:D} (p:D→Bool) (h:ds[i]? =some d):(ds.take (i+1)).filter p=(ds.take i).filter p++(if p d then [d] else []):=by rw [gO,h,List.filter_append]; cases hp:p d<;>simp [hp]
theorem gP {elt:Expr} {ifs:List Expr} {scope:Scope} {N M:List Str} {cap:List (Option Nat)} {sc:Scope} {Tb:D→List Slot} (p:D→Bool) (f:D→D)
  (hi:PId X (unO sd) PT0 tg iter ds) (hl:ds.length≤1000)
  (hsc:X.env.scope=sc) (hcn:pJ scope sc=true) (hM:X.N=M) (hcap:mV N M scope sc cap=true) (hk:scope.kind= .function)
  (hg:∀cl C fp s H d,d∈ds→PGd (cxB X N scope cl C fp s H) (pQ cap sd) tg d (Tb d))
  (hle:∀d,d∈ds→Le (Tb d) (pQ cap sd))
  (ht:∀cl C fp s H d,d∈ds→(ifs=[]∧p d=true)∨∃c,ifs=[c]∧PTd (cxB X N scope cl C fp s H) (Tb d) c (p d))
  (he:∀cl C fp s H d,d∈ds→p d=true→PEd (cxB X N scope cl C fp s H) (Tb d) elt (.val (f d)))
  (hc:X.calm=true:=by rfl) (hs:∀x,foldedSetIterable iter X.env x=pure x:=by intro _; rfl):
  PEd X sd (.ListComp elt [⟨tg,iter,ifs,0⟩] scope pos) (.own ((ds.filter p).map f)):= .mk fun σ F H S=>by
 refine wE_frame S trivial ?_; have S0:StF X.K X.B₀ F F σ (unO sd):=⟨S.base,Same.refl _,S.smp.sub S.sub,uD S.slots,by rw [jC]; exact gW⟩; intro pins s I
 have nm:∀y∈scope.names,(y.2=NameKind.free→sc.names.lookup y.1=some NameKind.cell)∧(y.2=NameKind.local→scope.names.lookup y.1=some NameKind.local):=fun y hy=>by have q:=bD.mp hcn y hy; simp only [aP,kJ,qE,beq_eq_false_iff_ne,ne_eq,beq_iff_eq] at q; exact ⟨fun e=>q.1.1.resolve_left fun z=>z e,fun e=>q.2.resolve_left fun z=>z e⟩
 have fre:∀y∈scope.names,y.2= .free→∃c,X.env.cells.lookup y.1=some c:=fun y hy e=>I.ok.has y.1 (.inl (by show X.env.scope.names.lookup y.1=_; rw [hsc]; exact (nm y hy).1 e))
 rw [eval_ListComp]; refine wpAny_comprehension_free (use:=none) rfl hs (zR fre) hk (fun y hy=>(nm y hy).2) ?_; refine thn (hi σ F F S0 pins s I) fun v s1 h1=>thn h1 fun itv s2 h2=> ?_
 obtain ⟨it,fp,tn,J,H2,e,I2,T,st2,f2,F1,S1,s1',itd⟩:=h2; subst e
 have S1b:StF X.K H2 H2 H2 (tM cap σ) (pQ cap sd):=⟨Same.refl _,Same.refl _,S1.smp,by
  have q:=capD_ok (sd:=unO sd) (H':=H2) S1.slots S1.sub cap; rw [capD_unO] at q
  exact q,by rw [rR]; exact gW⟩
 refine comp_run (N:=N) (cap:=cap) (g:=fun v σ2 H3 Q=>∀cl C,wG (cxB X N scope cl C fp s2 H2) tg v σ2 H3 Q) (tt:=fun σ2 H3 Q=>∀cl C,wIfs (cxB X N scope cl C fp s2 H2) ifs σ2 H3 Q) (te:=fun σ2 H3 Q=>∀cl C,wE (cxB X N scope cl C fp s2 H2) elt σ2 H3 Q)
  hc hsc hcn (by rw [hM]; exact hcap) hk I2 T st2 f2 (fun cl C pi s3 σ3 H3 v u Q I3 ru q=>q cl C pi s3 u I3 ru) (fun cl C pi s3 σ3 H3 Q I3 q=>q cl C pi s3 I3) (fun cl C pi s3 σ3 H3 Q I3 q=>q cl C pi s3 I3)
  (fun i m ys σb H3=>m=ds.length - i∧i≤ds.length∧∃Fb,StF X.K H2 Fb H3 σb (pQ cap sd)∧RepL X.K Fb (((ds.take i).filter p).map f) ys) ds.length
  ⟨by simp,cW _,H2,S1b,by simpa using RepL.nil⟩ _ ?_
 rintro i m ys σb H3 ⟨rfl,hil,Fb,Sb,rl⟩; have sF1:Same F1 Fb:=fun b o g=>Sb.base _ _ (S1.sub _ _ g)
 obtain ⟨g1,g2,g3⟩:=itd Fb H3 sF1 Sb.sub Sb.smp trivial i
 by_cases hlt:i<ds.length
 ·have hd:ds[i]? =some ds[i]:=by simp [hlt]
  have hm:ds[i]∈ds:=gX hlt
  have ylen:ys.length≤i:=by rw [rl.len,aB]; exact cA (List.length_filter_le _ _) (by simp; omega)
  refine .inr ⟨g1 hlt,gR (by omega),fun ys' σ' H'=>∃Fb',StF X.K H2 Fb' H' σ' (pQ cap sd)∧RepL X.K Fb' (((ds.take (i+1)).filter p).map f) ys',fun ys' σ' H' ⟨Fb',Sb',rl'⟩=>⟨ds.length - (i+1),by omega,rfl,hlt,Fb',Sb',rl'⟩,fun x H4 y cl C=> ?_⟩; obtain ⟨F4,s4,rp,up⟩:=g3 x H4 ds[i] hd y; refine (hg cl C fp s2 H2 _ hm σb F4 H4 x (up _ _ _ Sb) rp).imp fun σ5 H5 ⟨F5,S5,s5⟩ cl2 C2=> ?_
  have rl5:=rl.mono (s4.trans s5)
  have fin:∀ (b:Bool) (H6:Hp) (F6:Hp),b=p ds[i]→StF X.K H2 F6 H6 σ5 (Tb ds[i])→Same F5 F6→if b=true then (∀cl C,wE (cxB X N scope cl C fp s2 H2) elt σ5 H6 fun v H5=>∃Fb',StF X.K H2 Fb' H5 σ5 (pQ cap sd)∧RepL X.K Fb' (((ds.take (i+1)).filter p).map f) (ys++[v])) else ∃Fb',StF X.K H2 Fb' H6 σ5 (pQ cap sd)∧RepL X.K Fb' (((ds.take (i+1)).filter p).map f) ys:=fun b H6 F6 eb S6 s6=>by
   rw [pI p hd,← eb]; cases b with
   | false=>exact iteF ⟨F6,S6.le (hle _ hm),by simpa using rl5.mono s6⟩
   | true=>
    refine iteT fun cl3 C3=>(he cl3 C3 fp s2 H2 _ hm eb.symm σ5 F6 H6 S6).imp fun v H7 ⟨F7,S7,s7,q7⟩=>⟨F7,S7.le (hle _ hm), ?_⟩
    simp only [if_true,aT,bX,hG]; exact ((rl5.mono s6).mono s7).app (.one q7)
  rcases ht cl2 C2 fp s2 H2 _ hm with ⟨e1,e2⟩ | ⟨c,e1,q⟩
  ·subst e1; exact wIfs_nil (fin true H5 F5 e2.symm S5 (Same.refl _))
  ·subst e1; exact wIfs_one ((q σ5 F5 H5 S5).imp fun b H6 ⟨eb,F6,S6,s6⟩=>fin b H6 F6 eb S6 s6)
 ·have e:i=ds.length:=by omega
  subst e; refine .inl ⟨g2 (aZ _),fun D C s' hD hC hDC h0 hL hcc hpp hst ⟨m',ns'⟩ J'=>⟨m',ns',fun h' sb=> ?_⟩⟩; have J2:Inv X pins σ (upd H3 D (.lst ys)) {s' with heap:=h',toks:=s'.toks}:=J'.turned (it:=C) (fun b o hb g=>sb.extBut b o hb g) (by rw [bM (Ne.symm hDC)]; exact hC) hL (.inr h0) hcc hpp; refine ⟨.ref D,_,J2,rfl,Fb,fun b o g=>Sb.base _ _ (S1.sub _ _ (s1' _ _ g)),fun b o g=> ?_,fun b o g=> ?_,D,ys,rfl,Sb.sub.free hD,bZ, ?_,by simp [cO]⟩
  ·have g3:=Sb.sub _ _ g; rw [bM (cF g3 hD)]; exact g3
  ·by_cases hb:b=D
   ·subst hb; rw [bZ] at g; cases g; trivial
   ·rw [bM hb] at g; exact Sb.smp _ _ g
  ·simpa using rl
end
noncomputable def isIB:D→Bool
 | .int _=>true
 | .bl _=>true
 | _=>false
noncomputable def isB:D→Bool
 | .bl _=>true
 | _=>false
noncomputable def isT:D→Bool
 | .tup _=>true
 | _=>false
noncomputable def isL:D→Bool
 | .lst _=>true
 | .scr _=>true
 | _=>false
theorem kit_int (K:aD) (d:D):eT K (tyD d) (.type "int")=some (isIB d):=by cases d<;>with_unfolding_all rfl
theorem wV (K:aD) (d:D):eT K (tyD d) (.type "bool")=some (isB d):=by cases d<;>with_unfolding_all rfl
section
variable {X:Cx} {sd:List Slot} {e a b c:Expr} {es:List Expr} {pos:Pos} {r ra rb:R} {d:D} {ds:List D} {st:Stmt} {rest:List Stmt} {E:jU}
theorem PEd.cast {r':R} (h:PEd X sd e r) (q:r=r'):PEd X sd e r':=q▸h
theorem fG {k:Bool} {x o:List Stmt} (h:PTd X sd c k) (hk:k=false) (h2:PSd X sd o E):PSd1 X sd (.If c x o pos) E:=eX h (fun e=>by rw [hk] at e; cases e) fun _=>h2
theorem hV {k:Bool} {x o:List Stmt} (h:PTd X sd c k) (hk:k=true) (h2:PSd X sd x E):PSd1 X sd (.If c x o pos) E:=eX h (fun _=>h2) fun e=>by rw [hk] at e; cases e
theorem lX {d1 d2:List D} (ha:PEd X sd a (.bor d1)) (hb:PEd X sd b (.bor d2)) (hl:d1.length+d2.length≤1000):PEd X sd (.BinOp a .Add b pos) (.own (d1++d2)):=
 vL op_cat ha hb trivial fun σ F H v u Q S q1 q2 k=>by obtain ⟨l,xs,e1,h1,r1,_⟩:=q1; obtain ⟨m,ys,e2,h2,r2,_⟩:=q2; refine ⟨l,m,xs,ys,e1,e2,h1,h2,by rw [r1.len,r2.len]; exact eZ (gR hl),fun p hp=> ?_⟩; obtain ⟨S2,fp,no⟩:=S.layO (xs:=xs++ys) hp; exact k _ F _ S2 (Same.refl _) ⟨p,_,rfl,fp,bZ,r1.app r2,no⟩
theorem kB {i:Int} (ha:PEd X sd a (.bor ds)) (hb:PEd X sd b (.val (.int i))) (h0:0≤i) (hd:ds[i.toNat]? =some d) (hs:nH b):PEd X sd (.Subscript a b pos) (.val d):=by
 have e:i=(i.toNat:Int):=by omega
 rw [e] at hb; exact iT ha hb hd hs
theorem lW {i:Int} (ha:PEd X sd a (.val (.tup ds))) (hb:PEd X sd b (.val (.int i))) (h0:0≤i) (hd:ds[i.toNat]? =some d) (hs:nH b):PEd X sd (.Subscript a b pos) (.val d):=by
 have e:i=(i.toNat:Int):=by omega
 rw [e] at hb; exact cV ha hb hd hs
end
theorem sT {i:Int} (h:i.natAbs<2^250):Builtin.Int.intBits i≤2^20:=by
 unfold Builtin.Int.intBits
 split
 ·exact cW _
 ·rename_i hz
  have hne:i.natAbs≠0:=by
   intro z; apply hz; have:i=0:=by omega
   subst this; rfl
  have:=(Nat.log2_lt hne).mpr h; have e:(250:Nat)+1≤2^20:=by decide
  omega
theorem iN {i j:Int} (h1:i.natAbs<2^250) (h2:j.natAbs<2^250):IntMulOk i j:= .of_bits (sT h1) (sT h2)
noncomputable def most:Int:=1000 * 10^64
noncomputable def bS:List (Int × Int):=[(2,2),(1,1),(1,2),(2,1),(1,3),(3,1),(2,3),(3,2),(1,4),(4,1),(1,5),(5,1),(1,6),(6,1)]
noncomputable def bO (p:Int × Int):D:= .tup [.int p.1, .int p.2]
noncomputable def CLaw:List D→R→Prop:=fun ds r=>∃ns:List Int,ds=[.scr ns]∧ns.length≤63∧r= .val (.bl true)
theorem wR {ns:List Int} {k:Nat} {d:D} (h:(ns.map D.int)[k]? =some d):k<ns.length∧d= .int (ns.getD k 0):=by
 rw [aI] at h; cases e:ns[k]? with
 | none=>rw [e] at h; cases h
 | some z=>rw [e] at h; refine ⟨(aH.mp e).1, ?_⟩; rw [← cT.inj h,cC,e]; rfl
theorem getD_mem {α:Type} {l:List α} {i:Nat} {d:α} (h:i<l.length):l.getD i d∈l:=by
 have e:l.getD i d=l[i]:=by simp [cC,h]
 rw [e]; exact gX h
theorem smp_only {H:Hp} (h:Only H):Smp H:=fun b o e=>by
 rcases h b with z | ⟨o',xs,z⟩
 ·rw [z] at e; cases e
 ·rw [z] at e; cases e; trivial
theorem walkD {l:PySem.W.OpenLaw} {k:Nat} {x:Str} {q:Program} {loose:List Str} {XP:(Str→Option Value)→Heap→Prop} {YP:World→Heap→Prop} {d:DefRec} {K:Params→aD} (hn:l.most=some 63) (hdf:d.params.defaults=[])
  (hr:Room k callerA) (hY:∀ (w:World) (h:Heap),YP w h→(K w.params).In h)
  (F:∀ (w:World) (mg:Str→Option Value) (fa:Addr) (h:Heap),(K w.params).In h→h.Ns mainGlobals mg→mg d.name=some (.ref fa)→
   ∃fd:FuncData,(∀ (s:Shared) (u:Value),BindsTo s fd ⟨[u],[]⟩ [(x,u)])∧∀base:Heap,(K w.params).In base→base.Ns mainGlobals mg→FnOk l.prog w (K w.params) mg base CX0 k fa fd [x] (spC (K w.params) 1 CLaw)):
  PySem.W.WalkO q loose XP YP l.row.toRowW d [] (fun f vs=>PySem.call f vs):=
 L2.walk_of (n:=63) (k:=k) (x:=x) (CX:=fun _=>CX0) (sp:=fun w=>spC (K w.params) 1 CLaw) hn (by decide) hdf hr hY F
  (fun w H a ns hl ho hS=>⟨rfl,smp_only ho,[.scr ns], .val (.bl true), .one (by simp only [Rep]; exact ⟨a,rfl,hS⟩),⟨ns,rfl,hl,rfl⟩,fun v H' ⟨F,_,_,_,res⟩=>by simpa only [ResOk,Rep] using res⟩) fun _ _ _ _ _ z=>z
mutual
noncomputable def deq:D→D→Bool
 | .non, .non=>true
 | .bl a, .bl b=>a==b
 | .bl a, .int b=>(if a then 1 else 0)==b
 | .int a, .bl b=>a==(if b then 1 else 0)
 | .int a, .int b=>a==b
 | .str a, .str b=>a==b
 | .tup a, .tup b=>jE a b
 | .lst a, .lst b=>jE a b
 | _,_=>false
noncomputable def jE:List D→List D→Bool
 | [],[]=>true
 | x::xs,y::ys=>deq x y && jE xs ys
 | _,_=>false
end
mutual
noncomputable def pl:D→Bool
 | .dic=>false
 | .dki _ _=>false
 | .any _=>false
 | .scr _=>false
 | .tup ds=>plL ds
 | .lst ds=>plL ds
 | _=>true
noncomputable def plL:List D→Bool
 | []=>true
 | d::ds=>pl d && plL ds
end
mutual
noncomputable def dep:D→Nat
 | .tup ds=>jO ds+1
 | .lst ds=>jO ds+1
 | _=>0
noncomputable def jO:List D→Nat
 | []=>0
 | d::ds=>max (dep d) (jO ds)
end
theorem wB:∀ {ds:List D} {i:Nat} {d:D},plL ds=true→ds[i]? =some d→pl d=true
 | [],i,d,_,e=>by simp at e
 | d'::ds,i,d,h,e=>by
  simp only [plL,aP] at h; cases i with
  | zero=>simp at e; subst e; exact h.1
  | succ i=>exact wB h.2 (by simpa using e)
theorem rL:∀ {ds:List D} {i:Nat} {d:D},ds[i]? =some d→dep d≤jO ds
 | [],i,d,e=>by simp at e
 | d'::ds,i,d,e=>by
  simp only [jO]; cases i with
  | zero=>simp at e; subst e; exact Nat.le_max_left _ _
  | succ i=>exact cA (rL (i:=i) (by simpa using e)) (Nat.le_max_right _ _)
theorem deqL_iff:∀ {xs ys:List D},jE xs ys=true↔xs.length=ys.length∧∀ (j:Nat) (x y:D),xs[j]? =some x→ys[j]? =some y→deq x y=true
 | [],[]=>by simp [jE]
 | [],y::ys=>by simp [jE]
 | x::xs,[]=>by simp [jE]
 | x::xs,y::ys=>by
  simp only [jE,aP,cR,deqL_iff (xs:=xs) (ys:=ys)]
  constructor
  ·rintro ⟨h1,h2,h3⟩; refine ⟨by omega,fun j a b ea eb=> ?_⟩; cases j with
   | zero=>simp at ea eb; subst ea eb; exact h1
   | succ j=>exact h3 j a b (by simpa using ea) (by simpa using eb)
  ·rintro ⟨h1,h2⟩; exact ⟨h2 0 x y rfl rfl,by omega,fun j a b ea eb=>h2 (j+1) a b (by simpa using ea) (by simpa using eb)⟩
mutual
theorem sO {K:aD} {H:Hp}:∀ {d1 d2:D} {v:V},pl d1=true→Rep K H d1 v→Rep K H d2 v→pl d2=true→deq d1 d2=true
 | .non,d2,v,_,r1,r2,_=>by simp only [Rep] at r1; subst r1; cases d2<;>simp_all [Rep,deq]
 | .bl b,d2,v,_,r1,r2,_=>by simp only [Rep] at r1; subst r1; cases d2<;>simp_all [Rep,deq]
 | .int b,d2,v,_,r1,r2,_=>by simp only [Rep] at r1; subst r1; cases d2<;>simp_all [Rep,deq]
 | .str b,d2,v,_,r1,r2,_=>by simp only [Rep] at r1; subst r1; cases d2<;>simp_all [Rep,deq]
 | .dic,_,_,h,_,_,_=>by simp [pl] at h
 | .dki _ _,_,_,h,_,_,_=>by simp [pl] at h
 | .any _,_,_,h,_,_,_=>by simp [pl] at h
 | .scr _,_,_,h,_,_,_=>by simp [pl] at h
 | .tup ds,d2,v,p1,r1,r2,p2=>by
  simp only [Rep] at r1; obtain ⟨a,xs,rfl,ha,rl⟩:=r1; cases d2 with
  | tup es=>simp only [Rep] at r2; obtain ⟨a',xs',e,ha',rl'⟩:=r2; cases e; rw [ha] at ha'; cases ha'; simp only [deq]; exact pE (by simpa [pl] using p1) rl rl' (by simpa [pl] using p2)
  | lst es=>simp only [Rep] at r2; obtain ⟨a',xs',e,ha',rl'⟩:=r2; cases e; rw [ha] at ha'; cases ha'
  | dic=>simp [pl] at p2
  | dki=>simp [pl] at p2
  | any=>simp [pl] at p2
  | scr=>simp [pl] at p2
  | _=>simp [Rep] at r2
 | .lst ds,d2,v,p1,r1,r2,p2=>by
  simp only [Rep] at r1; obtain ⟨a,xs,rfl,ha,rl⟩:=r1; cases d2 with
  | lst es=>simp only [Rep] at r2; obtain ⟨a',xs',e,ha',rl'⟩:=r2; cases e; rw [ha] at ha'; cases ha'; simp only [deq]; exact pE (by simpa [pl] using p1) rl rl' (by simpa [pl] using p2)
  | tup es=>simp only [Rep] at r2; obtain ⟨a',xs',e,ha',rl'⟩:=r2; cases e; rw [ha] at ha'; cases ha'
  | dic=>simp [pl] at p2
  | dki=>simp [pl] at p2
  | any=>simp [pl] at p2
  | scr=>simp [pl] at p2
  | _=>simp [Rep] at r2
theorem pE {K:aD} {H:Hp}:∀ {ds es:List D} {xs:List V},plL ds=true→RepL K H ds xs→RepL K H es xs→plL es=true→jE ds es=true
 | [],es,xs,_,r1,r2,_=>by
  simp only [RepL] at r1; subst r1; cases es with
  | nil=>rfl
  | cons e es=>obtain ⟨y,ys,z,_⟩:=r2.uncons; cases z
 | d::ds,es,xs,p1,r1,r2,p2=>by
  obtain ⟨y,ys,rfl,a,rl⟩:=r1.uncons; cases es with
  | nil=>simp only [RepL] at r2; cases r2
  | cons e es=>obtain ⟨y',ys',z,a',rl'⟩:=r2.uncons; cases z; simp only [plL,aP] at p1 p2; simp only [jE,aP]; exact ⟨sO p1.1 a a' p2.1,pE p1.2 rl rl' p2.2⟩
end
noncomputable def oQ:D→Bool
 | .non=>true
 | .bl _=>true
 | .int _=>true
 | .str _=>true
 | _=>false
theorem qW {K:aD} {H:Hp} {d:D} {v:V} (h:oQ d=true) (r:Rep K H d v):mM v=true∧flt d=some v:=by cases d<;>simp_all [oQ,Rep,mM,flt]
section
variable {P:Program} {w:World} {K:aD} {H:Hp} {s:Shared}
theorem kK (hok:HOk P w H s.heap) {ds:List D} {v:V} {u:Value} (r:Rep K H (.tup ds) v) (ru:RelV v u):∃a xs its,u= .ref a∧v= .ref a∧RepL K H ds xs∧Vals xs its∧s.heap.IsTuple a its.toArray:=by simp only [Rep] at r; obtain ⟨a,xs,rfl,ha,rl⟩:=r; cases ru; obtain ⟨_,its,rv,p⟩:=(show ObjOk P w H s.heap a (.tup xs) from hok a _ ha); exact ⟨a,xs,its,rfl,rfl,rl,rv,p.tup⟩
theorem jX (hok:HOk P w H s.heap) {ds:List D} {v:V} {u:Value} (r:Rep K H (.lst ds) v) (ru:RelV v u):∃a xs its,u= .ref a∧v= .ref a∧RepL K H ds xs∧Vals xs its∧s.heap.IsList a its.toArray:=by simp only [Rep] at r; obtain ⟨a,xs,rfl,ha,rl⟩:=r; cases ru; obtain ⟨_,its,n,rv,p⟩:=(show ObjOk P w H s.heap a (.lst xs) from hok a _ ha); exact ⟨a,xs,its,rfl,rfl,rl,rv,_,p,rfl,n,rfl⟩
noncomputable def dAt (ds es:List D) (j:Nat):Bool:=match ds[j]?,es[j]? with
 | some x,some y=>deq x y
 | _,_=>false
theorem oY (ds es:List D):((bJ (min ds.length es.length)).all (dAt ds es) && ds.length==es.length)=jE ds es:=by
 rw [dM,deqL_iff,aP,bD,beq_iff_eq]
 constructor
 ·rintro ⟨h1,h2⟩; refine ⟨h2,fun j x y ex ey=> ?_⟩; have hj:j<ds.length:=(aH.mp ex).1; have:=h1 j (bY.mpr (by omega)); unfold dAt at this; rw [ex,ey] at this; exact this
 ·rintro ⟨h1,h2⟩; refine ⟨fun j hj=> ?_,h1⟩; have hj':=bY.mp hj; have e1:ds[j]? =some (ds[j]'(by omega)):=by simp
  have e2:es[j]? =some (es[j]'(by omega)):=by simp
  unfold dAt; rw [e1,e2]; exact h2 j _ _ e1 e2
theorem pV {ds es:List D} (h:ds.length=es.length):(bJ ds.length).all (dAt ds es)=jE ds es:=by have:=oY ds es; rw [h] at this ⊢; simpa using this
theorem rM {ds es:List D} (h:ds.length≠es.length):jE ds es=false:=by
 cases e:jE ds es with
 | false=>rfl
 | true=>exact absurd (deqL_iff.mp e).1 h
mutual
theorem zJ (hok:HOk P w H s.heap):∀ (d1:D) {d2:D} {v1 v2:V} {u1 u2:Value} {A:Around},pl d1=true→pl d2=true→Rep K H d1 v1→Rep K H d2 v2→RelV v1 u1→RelV v2 u2→A.units+dep d1<cLine→SeqAt.EqAt A s u1 u2 (deq d1 d2)
 | .tup ds,d2,v1,v2,u1,u2,A,p1,p2,r1,r2,ru1,ru2,hu=>by
  have hu':A.units<cLine:=by omega
  obtain ⟨a,xs,its,rfl,rfl,rl,rv,ht⟩:=kK hok r1 ru1; cases d2 with
  | non=>simp only [Rep] at r2; subst r2; cases ru2; exact SeqAt.EqAt.tuple_none ht hu'
  | bl b=>simp only [Rep] at r2; subst r2; cases ru2; exact SeqAt.EqAt.tuple_bool b ht hu'
  | int b=>simp only [Rep] at r2; subst r2; obtain ⟨t,rfl⟩:=ru2; exact SeqAt.EqAt.tuple_int b t ht hu'
  | str b=>simp only [Rep] at r2; subst r2; obtain ⟨t,rfl⟩:=ru2; exact SeqAt.EqAt.tuple_str b t ht hu'
  | dic=>simp [pl] at p2
  | dki=>simp [pl] at p2
  | any=>simp [pl] at p2
  | scr=>simp [pl] at p2
  | lst es=>obtain ⟨b,ys,jts,rfl,rfl,rl2,rv2,hl2⟩:=jX hok r2 ru2; exact SeqAt.EqAt.tuple_list ht hl2 hu'
  | tup es=>
   obtain ⟨b,ys,jts,rfl,e2,rl2,rv2,ht2⟩:=kK hok r2 ru2
   by_cases hab:a=b
   ·subst hab; have:=sO p1 r1 (e2▸r2) p2; rw [this]; exact SeqAt.EqAt.same _
   ·simp only [deq]; rw [← oY]; have l1:its.toArray.size=ds.length:=by rw [aK,← rv.length,rl.len]
    have l2:jts.toArray.size=es.length:=by rw [aK,← rv2.length,rl2.len]
    rw [← l1,← l2]; simp only [pl] at p1 p2; simp only [dep] at hu; refine .of_refs hab (.tuples ht ht2 hu' fun j h1 h2=> ?_); exact nR hok ds p1 p2 rl rl2 rv rv2 (A:=A.in1) (by show A.units+1+_<cLine; omega) (by simp) (by simp)
 | .lst ds,d2,v1,v2,u1,u2,A,p1,p2,r1,r2,ru1,ru2,hu=>by
  have hu':A.units<cLine:=by omega
  obtain ⟨a,xs,its,rfl,rfl,rl,rv,ht⟩:=jX hok r1 ru1; cases d2 with
  | non=>simp only [Rep] at r2; subst r2; cases ru2; exact SeqAt.EqAt.list_none ht hu'
  | bl b=>simp only [Rep] at r2; subst r2; cases ru2; exact SeqAt.EqAt.list_bool b ht hu'
  | int b=>simp only [Rep] at r2; subst r2; obtain ⟨t,rfl⟩:=ru2; exact SeqAt.EqAt.list_int b t ht hu'
  | str b=>simp only [Rep] at r2; subst r2; obtain ⟨t,rfl⟩:=ru2; exact SeqAt.EqAt.list_str b t ht hu'
  | dic=>simp [pl] at p2
  | dki=>simp [pl] at p2
  | any=>simp [pl] at p2
  | scr=>simp [pl] at p2
  | tup es=>obtain ⟨b,ys,jts,rfl,rfl,rl2,rv2,hl2⟩:=kK hok r2 ru2; exact SeqAt.EqAt.list_tuple ht hl2 hu'
  | lst es=>
   obtain ⟨b,ys,jts,rfl,e2,rl2,rv2,ht2⟩:=jX hok r2 ru2
   by_cases hab:a=b
   ·subst hab; have:=sO p1 r1 (e2▸r2) p2; rw [this]; exact SeqAt.EqAt.same _
   ·simp only [deq]; have l1:its.toArray.size=ds.length:=by rw [aK,← rv.length,rl.len]
    have l2:jts.toArray.size=es.length:=by rw [aK,← rv2.length,rl2.len]
    simp only [pl] at p1 p2; simp only [dep] at hu
    by_cases hl:ds.length=es.length
    ·rw [← pV hl,← l1]; refine .of_refs hab (.lists ht ht2 (by rw [l1,l2,hl]) hu' fun j h1 h2=> ?_); exact nR hok ds p1 p2 rl rl2 rv rv2 (A:=A.in1) (by show A.units+1+_<cLine; omega) (by simp) (by simp)
    ·rw [rM hl]; exact .of_refs hab (.lists_lengths ht ht2 (by rw [l1,l2]; simpa using hl) hu')
 | .dic,_,_,_,_,_,_,p1,_,_,_,_,_,_=>by simp [pl] at p1
 | .dki _ _,_,_,_,_,_,_,p1,_,_,_,_,_,_=>by simp [pl] at p1
 | .any _,_,_,_,_,_,_,p1,_,_,_,_,_,_=>by simp [pl] at p1
 | .scr _,_,_,_,_,_,_,p1,_,_,_,_,_,_=>by simp [pl] at p1
 | .non,d2,v1,v2,u1,u2,A,p1,p2,r1,r2,ru1,ru2,hu=>by
  have hu':A.units<cLine:=by omega
  simp only [Rep] at r1; subst r1; cases hf:oQ d2 with
  | true=>obtain ⟨h1,h2⟩:=qW hf r2; have:=qZ (A:=A) (s:=s) ru1 ru2 rfl h1; cases d2<;>simp_all [oQ,flt,Rep,deq,eqV]
  | false=>
   cases ru1; cases d2 with
   | tup es=>obtain ⟨b,ys,jts,rfl,e2,rl2,rv2,ht2⟩:=kK hok r2 ru2; exact SeqAt.EqAt.none_tuple ht2 hu'
   | lst es=>obtain ⟨b,ys,jts,rfl,e2,rl2,rv2,ht2⟩:=jX hok r2 ru2; exact SeqAt.EqAt.none_list ht2 hu'
   | dic=>simp [pl] at p2
   | dki=>simp [pl] at p2
   | any=>simp [pl] at p2
   | scr=>simp [pl] at p2
   | _=>simp [oQ] at hf
 | .bl q,d2,v1,v2,u1,u2,A,p1,p2,r1,r2,ru1,ru2,hu=>by
  have hu':A.units<cLine:=by omega
  simp only [Rep] at r1; subst r1; cases hf:oQ d2 with
  | true=>obtain ⟨h1,h2⟩:=qW hf r2; have:=qZ (A:=A) (s:=s) ru1 ru2 rfl h1; cases d2<;>simp_all [oQ,flt,Rep,deq,eqV]
  | false=>
   cases ru1; cases d2 with
   | tup es=>obtain ⟨b,ys,jts,rfl,e2,rl2,rv2,ht2⟩:=kK hok r2 ru2; exact SeqAt.EqAt.bool_tuple q ht2 hu'
   | lst es=>obtain ⟨b,ys,jts,rfl,e2,rl2,rv2,ht2⟩:=jX hok r2 ru2; exact SeqAt.EqAt.bool_list q ht2 hu'
   | dic=>simp [pl] at p2
   | dki=>simp [pl] at p2
   | any=>simp [pl] at p2
   | scr=>simp [pl] at p2
   | _=>simp [oQ] at hf
 | .int q,d2,v1,v2,u1,u2,A,p1,p2,r1,r2,ru1,ru2,hu=>by
  have hu':A.units<cLine:=by omega
  simp only [Rep] at r1; subst r1; cases hf:oQ d2 with
  | true=>obtain ⟨h1,h2⟩:=qW hf r2; have:=qZ (A:=A) (s:=s) ru1 ru2 rfl h1; cases d2<;>simp_all [oQ,flt,Rep,deq,eqV]
  | false=>
   obtain ⟨t,rfl⟩:=ru1; cases d2 with
   | tup es=>obtain ⟨b,ys,jts,rfl,e2,rl2,rv2,ht2⟩:=kK hok r2 ru2; exact SeqAt.EqAt.int_tuple q t ht2 hu'
   | lst es=>obtain ⟨b,ys,jts,rfl,e2,rl2,rv2,ht2⟩:=jX hok r2 ru2; exact SeqAt.EqAt.int_list q t ht2 hu'
   | dic=>simp [pl] at p2
   | dki=>simp [pl] at p2
   | any=>simp [pl] at p2
   | scr=>simp [pl] at p2
   | _=>simp [oQ] at hf
 | .str q,d2,v1,v2,u1,u2,A,p1,p2,r1,r2,ru1,ru2,hu=>by
  have hu':A.units<cLine:=by omega
  simp only [Rep] at r1; subst r1; cases hf:oQ d2 with
  | true=>obtain ⟨h1,h2⟩:=qW hf r2; have:=qZ (A:=A) (s:=s) ru1 ru2 rfl h1; cases d2<;>simp_all [oQ,flt,Rep,deq,eqV]
  | false=>
   obtain ⟨t,rfl⟩:=ru1; cases d2 with
   | tup es=>obtain ⟨b,ys,jts,rfl,e2,rl2,rv2,ht2⟩:=kK hok r2 ru2; exact SeqAt.EqAt.str_tuple q t ht2 hu'
   | lst es=>obtain ⟨b,ys,jts,rfl,e2,rl2,rv2,ht2⟩:=jX hok r2 ru2; exact SeqAt.EqAt.str_list q t ht2 hu'
   | dic=>simp [pl] at p2
   | dki=>simp [pl] at p2
   | any=>simp [pl] at p2
   | scr=>simp [pl] at p2
   | _=>simp [oQ] at hf
theorem nR (hok:HOk P w H s.heap):∀ (ds:List D) {es:List D} {xs ys:List V} {its jts:List Value} {j:Nat} {x y:Value} {A:Around},plL ds=true→plL es=true→RepL K H ds xs→RepL K H es ys→Vals xs its→Vals ys jts→A.units+jO ds<cLine→its[j]? =some x→jts[j]? =some y→SeqAt.EqAt A s x y (dAt ds es j)
 | [],es,xs,ys,its,jts,j,x,y,A,_,_,r1,_,v1,_,_,e1,_=>by simp only [RepL] at r1; subst r1; cases v1; simp at e1
 | d::ds,es,xs,ys,its,jts,j,x,y,A,p1,p2,r1,r2,v1,v2,hu,e1,e2=>by
  obtain ⟨a,as,rfl,ra,rl⟩:=r1.uncons; cases v1 with
  | cons va vas=>
   cases es with
   | nil=>simp only [RepL] at r2; subst r2; cases v2; simp at e2
   | cons e es=>
    obtain ⟨b,bs,rfl,rb,rl2⟩:=r2.uncons; cases v2 with
    | cons vb vbs=>
     simp only [plL,aP] at p1 p2; simp only [jO] at hu; cases j with
     | zero=>simp at e1 e2; subst e1 e2; exact zJ hok d p1.1 p2.1 ra rb va vb (by omega)
     | succ j=>exact nR hok ds p1.2 p2.2 rl rl2 vas vbs (by omega) (by simpa using e1) (by simpa using e2)
end
end
section
variable {X:Cx} {sd:List Slot} {e a b c:Expr} {es:List Expr} {pos:Pos} {r ra rb:R} {d:D} {ds:List D} {st:Stmt} {rest:List Stmt} {E:jU}
theorem rc_D {pins:List (Addr × Obj)} {σ:St} {H:Hp} {s:Shared} {K:aD} {d1 d2:D} {v u:V} {x y:Value} {Q:Value→Shared→Prop} (I:Inv X pins σ H s) (hs:(isT d1=true∧isT d2=true)∨(isL d1=true∧isL d2=true)) (p1:pl d1=true) (p2:pl d2=true) (r1:Rep K H d1 v) (r2:Rep K H d2 u) (rx:RelV v x) (ry:RelV u y)
  (hu:X.A.units+dep d1+1<cLine) (q:Q (.bool (deq d1 d2)) s):wpAny (model X.prog X.w) X.A (compareOp .Eq x y) Q X.xe s:=by
 have hu':X.A.units<cLine:=by omega
 rcases hs with ⟨t1,t2⟩ | ⟨t1,t2⟩
 ·cases d1<;>first | (simp [isT] at t1; done) | skip
  cases d2<;>first | (simp [isT] at t2; done) | skip
  rename_i ds es; obtain ⟨a,xs,its,rfl,rfl,rl,rv,ht⟩:=kK I.hok r1 rx; obtain ⟨b,ys,jts,rfl,rfl,rl2,rv2,ht2⟩:=kK I.hok r2 ry; have l1:its.toArray.size=ds.length:=by rw [aK,← rv.length,rl.len]
  have l2:jts.toArray.size=es.length:=by rw [aK,← rv2.length,rl2.len]
  simp only [pl] at p1 p2; simp only [dep] at hu; simp only [deq] at q; rw [← oY,← l1,← l2] at q; exact SeqAt.eq_tupleAt ht ht2 hu' (fun j h1 h2=>nR I.hok ds p1 p2 rl rl2 rv rv2 (A:=X.A.in1) (by show X.A.units+1+_<cLine; omega) (by simp) (by simp)) q
 ·cases d1<;>first | (simp [isL] at t1; done) | (simp [pl] at p1; done) | skip
  cases d2<;>first | (simp [isL] at t2; done) | (simp [pl] at p2; done) | skip
  rename_i ds es; obtain ⟨a,xs,its,rfl,rfl,rl,rv,ht⟩:=jX I.hok r1 rx; obtain ⟨b,ys,jts,rfl,rfl,rl2,rv2,ht2⟩:=jX I.hok r2 ry; have l1:its.toArray.size=ds.length:=by rw [aK,← rv.length,rl.len]
  have l2:jts.toArray.size=es.length:=by rw [aK,← rv2.length,rl2.len]
  simp only [pl] at p1 p2; simp only [dep] at hu; simp only [deq] at q
  by_cases hl:ds.length=es.length
  ·rw [← pV hl,← l1] at q; exact SeqAt.eq_listAt ht ht2 (by rw [l1,l2,hl]) hu' (fun j h1 h2=>nR I.hok ds p1 p2 rl rl2 rv rv2 (A:=X.A.in1) (by show X.A.units+1+_<cLine; omega) (by simp) (by simp)) q
  ·rw [rM hl] at q; exact SeqAt.eq_list_lengthsAt ht ht2 (by rw [l1,l2]; simpa using hl) hu' q
theorem rc_Dn {pins:List (Addr × Obj)} {σ:St} {H:Hp} {s:Shared} {K:aD} {d1 d2:D} {v u:V} {x y:Value} {Q:Value→Shared→Prop} (I:Inv X pins σ H s) (hs:(isT d1=true∧isT d2=true)∨(isL d1=true∧isL d2=true)) (p1:pl d1=true) (p2:pl d2=true) (r1:Rep K H d1 v) (r2:Rep K H d2 u) (rx:RelV v x) (ry:RelV u y)
  (hu:X.A.units+dep d1+1<cLine) (q:Q (.bool (!deq d1 d2)) s):wpAny (model X.prog X.w) X.A (compareOp .NotEq x y) Q X.xe s:=by
 have hu':X.A.units<cLine:=by omega
 rcases hs with ⟨t1,t2⟩ | ⟨t1,t2⟩
 ·cases d1<;>first | (simp [isT] at t1; done) | skip
  cases d2<;>first | (simp [isT] at t2; done) | skip
  rename_i ds es; obtain ⟨a,xs,its,rfl,rfl,rl,rv,ht⟩:=kK I.hok r1 rx; obtain ⟨b,ys,jts,rfl,rfl,rl2,rv2,ht2⟩:=kK I.hok r2 ry; have l1:its.toArray.size=ds.length:=by rw [aK,← rv.length,rl.len]
  have l2:jts.toArray.size=es.length:=by rw [aK,← rv2.length,rl2.len]
  simp only [pl] at p1 p2; simp only [dep] at hu; simp only [deq] at q; rw [← oY,← l1,← l2] at q; exact SeqAt.RcNeAt.tuples ht ht2 hu' (fun j h1 h2=>nR I.hok ds p1 p2 rl rl2 rv rv2 (A:=X.A.in1) (by show X.A.units+1+_<cLine; omega) (by simp) (by simp)) _ _ _ _ q
 ·cases d1<;>first | (simp [isL] at t1; done) | (simp [pl] at p1; done) | skip
  cases d2<;>first | (simp [isL] at t2; done) | (simp [pl] at p2; done) | skip
  rename_i ds es; obtain ⟨a,xs,its,rfl,rfl,rl,rv,ht⟩:=jX I.hok r1 rx; obtain ⟨b,ys,jts,rfl,rfl,rl2,rv2,ht2⟩:=jX I.hok r2 ry; have l1:its.toArray.size=ds.length:=by rw [aK,← rv.length,rl.len]
  have l2:jts.toArray.size=es.length:=by rw [aK,← rv2.length,rl2.len]
  simp only [pl] at p1 p2; simp only [dep] at hu; simp only [deq] at q
  by_cases hl:ds.length=es.length
  ·rw [← pV hl,← l1] at q; exact SeqAt.RcNeAt.lists ht ht2 (by rw [l1,l2,hl]) hu' (fun j h1 h2=>nR I.hok ds p1 p2 rl rl2 rv rv2 (A:=X.A.in1) (by show X.A.units+1+_<cLine; omega) (by simp) (by simp)) _ _ _ _ q
  ·rw [rM hl] at q; exact SeqAt.RcNeAt.lists_lengths ht ht2 (by rw [l1,l2]; simpa using hl) hu' _ _ _ _ q
theorem ResOk.rep {K:aD} {H₀ F H:Hp} {σ:St} {v:V} (S:StF K H₀ F H σ sd) (hk:r.keeps) (q:ResOk K F H sd r v):Rep K H r.toD v:=by
 cases r with
 | val d=>exact Rep.mono S.sub q
 | own ds=>exact hk.elim
 | pr d ls=>exact hk.elim
 | ox G=>exact hk.elim
 | bor ds=>obtain ⟨l,xs,e,hl,rl,_⟩:=q; simp only [R.toD,Rep]; exact ⟨l,xs,e,hl,rl.mono S.sub⟩
theorem op_eqD (K:aD) (d1 d2:D) (hs:(isT d1=true∧isT d2=true)∨(isL d1=true∧isL d2=true)) (p1:pl d1=true) (p2:pl d2=true) (hu:X.A.units+dep d1+1<cLine):OpR X (compareOp .Eq) (fun x y H Q=>Rep K H d1 x∧Rep K H d2 y∧Q (.bl (deq d1 d2)) H):=by intro pins s σ H x y v u Q I rx ry h; obtain ⟨h1,h2,q⟩:=h; exact rc_D I hs p1 p2 h1 h2 rx ry hu ⟨.bl (deq d1 d2),H,I,rfl,q⟩
theorem op_neD (K:aD) (d1 d2:D) (hs:(isT d1=true∧isT d2=true)∨(isL d1=true∧isL d2=true)) (p1:pl d1=true) (p2:pl d2=true) (hu:X.A.units+dep d1+1<cLine):OpR X (compareOp .NotEq) (fun x y H Q=>Rep K H d1 x∧Rep K H d2 y∧Q (.bl (!deq d1 d2)) H):=by intro pins s σ H x y v u Q I rx ry h; obtain ⟨h1,h2,q⟩:=h; exact rc_Dn I hs p1 p2 h1 h2 rx ry hu ⟨.bl (!deq d1 d2),H,I,rfl,q⟩
theorem pd_eqD (ha:PEd X sd a ra) (hb:PEd X sd b rb) (ka:ra.keeps) (kb:rb.keeps) (hs:(isT ra.toD=true∧isT rb.toD=true)∨(isL ra.toD=true∧isL rb.toD=true)) (p1:pl ra.toD=true) (p2:pl rb.toD=true) (hu:X.A.units+dep ra.toD+1<cLine):PEd X sd (.Compare a [.Eq] [b] pos) (.val (.bl (deq ra.toD rb.toD))):=
 oV (op_eqD X.K _ _ hs p1 p2 hu) ha hb ka (gS _) fun σ F H v u Q S q1 q2 k=>⟨q1.rep S ka,q2.rep S kb,k F H S (Same.refl _)⟩
theorem ptd_neD (ha:PEd X sd a ra) (hb:PEd X sd b rb) (ka:ra.keeps) (kb:rb.keeps) (hs:(isT ra.toD=true∧isT rb.toD=true)∨(isL ra.toD=true∧isL rb.toD=true)) (p1:pl ra.toD=true) (p2:pl rb.toD=true) (hu:X.A.units+dep ra.toD+1<cLine):PTd X sd (.Compare a [.NotEq] [b] pos) (!deq ra.toD rb.toD):=
 lQ (op_neD X.K _ _ hs p1 p2 hu) ha hb ka (gS _) fun σ F H v u Q S q1 q2 k=>⟨q1.rep S ka,q2.rep S kb,k F H S (Same.refl _)⟩
noncomputable def rCatT0 (K:aD):R2:=fun x y H Q=>∃a b ys,x= .ref a∧y= .ref b∧SqT K H a []∧SqT K H b ys∧Q (.ref b) H
theorem op_catT0:OpR X (binaryOp .Add) (rCatT0 X.K):=by
 intro pins s σ H x y v u Q I rx ry h; obtain ⟨a,b,ys,rfl,rfl,ha,hb,q⟩:=h; cases rx; cases ry; obtain ⟨its,r1,p1,_⟩:=I.tuple ha; obtain ⟨its2,r2,p2,_⟩:=I.tuple hb; cases r1; obtain ⟨⟨cls,dd,data,sl⟩,ho,hc,n,hd⟩:=id p1; obtain ⟨⟨cls2,dd2,data2,sl2⟩,ho2,hc2,n2,hd2⟩:=id p2; simp only at hc hd hc2 hd2; subst hc hd hc2 hd2
 exact concat_meets ⟨_,ho,rfl⟩ ⟨_,ho2,rfl⟩ noFill_tuple_add seq_tuple_add mJ lS (lE _ _)
  (tuple_addW0 a b ([]:List Value).toArray its2.toArray n n2 dd dd2 sl sl2 (by simp)) ⟨ho,ho2,⟨.ref b,H,I,rfl,q⟩⟩
theorem gJ {d1 d2:List D} (ha:PEd X sd a (.val (.tup d1))) (hb:PEd X sd b (.val (.tup d2))) (hl:d1.length+d2.length≤1000):PEd X sd (.BinOp a .Add b pos) (.val (.tup (d1++d2))):=
 vL (op_catT0.or op_catT) ha hb trivial fun σ F H v u Q S q1 q2 k=>by
  simp only [ResOk,Rep] at q1 q2; obtain ⟨p,xs,e1,hp,rl⟩:=q1; obtain ⟨q,ys,e2,hq,rl2⟩:=q2; cases d1 with
  | nil=>simp only [RepL] at rl; subst rl; refine .inl ⟨p,q,ys,e1,e2, .of (S.sub _ _ hp), .of (S.sub _ _ hq),k _ F H S (Same.refl _) ?_⟩; simp only [ResOk,Rep,List.nil_append]; exact ⟨q,ys,rfl,hq,rl2⟩
  | cons z zs=>
   refine .inr ⟨p,q,xs,ys,e1,e2, .of (S.sub _ _ hp), .of (S.sub _ _ hq), ?_,by rw [rl.len,rl2.len]; exact eZ (gR hl),fun hy=> ?_,fun hy p2 hp2=> ?_⟩
   ·intro hx; subst hx; obtain ⟨_,_,w,_⟩:=rl.uncons; cases w
   ·subst hy
    have:d2=[]:=by
     cases d2 with
     | nil=>rfl
     | cons w ws=>obtain ⟨_,_,w,_⟩:=rl2.uncons; cases w
    subst this; refine k _ F H S (Same.refl _) ?_; simp only [ResOk,Rep,gL]; exact ⟨p,xs,rfl,hp,rl⟩
   ·obtain ⟨S2,s2⟩:=S.lay (o:= .tup (xs++ys)) hp2 trivial; refine k _ _ _ S2 s2 ?_; simp only [ResOk,Rep]; exact ⟨p2,_,rfl,bZ,(rl.app rl2).mono s2⟩
theorem iK {p:Pos} (hg:Gl X "tuple") (hm:X.mg "tuple"=none) (ha:PEd X sd e (.bor ds)) (hst:starEach [e] X.env=(false,eval e X.env)::starEach [] X.env:=by rfl):PEd X sd (.Call (.Name "tuple" p) [e] [] pos) (.val (.tup ds)):=
 pD (he:=hst) tQ hg hm PyProof.Rows.boot_tuple (aC ha aG trivial hst) fun σ F H vs Q S q k=>by
  cases q with
  | cons q1 q2=>cases q2; obtain ⟨p,xs,rfl,hp,rl,_⟩:=q1; refine ⟨p,xs,rfl, .inl ⟨.of hp,fun l hl=> ?_⟩⟩; obtain ⟨S2,s2⟩:=S.lay (o:= .tup xs) hl trivial; refine k _ _ _ S2 s2 ?_; simp only [ResOk,Rep]; exact ⟨l,xs,rfl,bZ,rl.mono s2⟩
end
section
variable {X:Cx} {sd:List Slot} {e a b c tg iter:Expr} {es:List Expr} {pos:Pos} {r ra rb:R} {d:D} {ds:List D} {st:Stmt} {rest:List Stmt} {E:jU}
theorem ints_at {ns:List Int} {us:List Value} (r:Vals (ns.map V.int) us) {i:Nat} {u:Value} (h:us[i]? =some u):i<ns.length∧∃t,u= .int (ns.getD i 0) t:=by
 have hl:=r.length; rw [aB] at hl; have hi:i<us.length:=(aH.mp h).1
 have e:(ns.map V.int)[i]? =some (.int (ns.getD i 0)):=by
  rw [aI]; have:i<ns.length:=by omega
  simp [cC,this]
 obtain ⟨u',h1,t,h2⟩:=r.get e; rw [h] at h1; cases h1; exact ⟨by omega,t,h2⟩
noncomputable def cutD (ds:List D) (lo hi:Option Int):List D:=(ds.drop (HT.sIx ds.length 0 lo)).take (HT.sIx ds.length ds.length hi - HT.sIx ds.length 0 lo)
theorem RepL.cut {K:aD} {H:Hp} {xs:List V} (r:RepL K H ds xs) (lo hi:Option Int):RepL K H (cutD ds lo hi) (sJ xs lo hi):=by unfold cutD sJ; rw [r.len]; exact (r.drop _).take _
noncomputable def POd (X:Cx) (sd:List Slot) (e:Option Expr) (o:Option Int):Prop:=match e,o with
 | none,none=>True
 | some e,some i=>PEd X sd e (.val (.int i))
 | _,_=>False
theorem kC {eo:Option Expr} {o:Option Int} (h:POd X sd eo o):∃t:TO,PO X eo t∧∀ (σ:St) (F H:Hp),StF X.K X.B₀ F H σ sd→∀Q:Option Int→Hp→Prop,(∀F' H',StF X.K X.B₀ F' H' σ sd→Same F F'→Q o H')→t σ H Q:=by
 cases eo with
 | none=>
  cases o with
  | none=>exact ⟨_,po_none,fun σ F H S Q k=>k F H S (Same.refl _)⟩
  | some i=>exact h.elim
 | some e=>
  cases o with
  | none=>exact h.elim
  | some i=>have h:PEd X sd e (.val (.int i)):=h; refine ⟨_,po_some fH,fun σ F H S Q k=>(h σ F H S).imp fun v H1 ⟨F1,S1,s1,q1⟩=> ?_⟩; simp only [ResOk,Rep] at q1; exact ⟨i,q1,k F1 H1 S1 s1⟩
theorem pd_slL {lo hi:Option Expr} {ol oh:Option Int} {p2:Pos} (ha:PEd X sd a (.bor ds)) (hl:POd X sd lo ol) (hh:POd X sd hi oh):PEd X sd (.Subscript a (.Slice lo hi none p2) pos) (.own (cutD ds ol oh)):= .mk fun σ F H S=>by obtain ⟨tl,pl,kl⟩:=kC hl; obtain ⟨th,ph,kh⟩:=kC hh; refine (rN sl_list fH pl ph).to ((ha σ F H S).imp fun v H1 ⟨F1,S1,s1,q1⟩=>kl σ F1 H1 S1 _ fun F2 H2 S2 s2=>kh σ F2 H2 S2 _ fun F3 H3 S3 s3=> ?_); obtain ⟨l,xs,rfl,hl',rl,_⟩:=ResOk.keep (r:= .bor ds) trivial q1 S3 (s2.trans s3); refine ⟨l,xs,rfl, .of hl',fun p hp=> ?_⟩; obtain ⟨S4,fp,no⟩:=S3.layO (xs:=sJ xs ol oh) hp; exact ⟨F3,S4,(s1.trans s2).trans s3,p,_,rfl,fp,bZ,rl.cut ol oh,no⟩
theorem mW {lo hi:Option Expr} {ol oh:Option Int} {p2:Pos} (ha:PEd X sd a (.val (.tup ds))) (hl:POd X sd lo ol) (hh:POd X sd hi oh) (hn:¬ (HT.sIx ds.length 0 ol=0∧HT.sIx ds.length ds.length oh=ds.length)):PEd X sd (.Subscript a (.Slice lo hi none p2) pos) (.val (.tup (cutD ds ol oh))):= .mk fun σ F H S=>by obtain ⟨tl,pl,kl⟩:=kC hl; obtain ⟨th,ph,kh⟩:=kC hh; refine (rN sl_tup fH pl ph).to ((ha σ F H S).imp fun v H1 ⟨F1,S1,s1,q1⟩=>kl σ F1 H1 S1 _ fun F2 H2 S2 s2=>kh σ F2 H2 S2 _ fun F3 H3 S3 s3=> ?_); have q1:=Rep.mono (s2.trans s3) q1; simp only [Rep] at q1; obtain ⟨l,xs,rfl,hl',rl⟩:=q1; refine ⟨l,xs,rfl, .of (S3.sub _ _ hl'),by rw [rl.len]; exact hn,fun p hp=> ?_⟩; obtain ⟨S4,s4⟩:=S3.lay (o:= .tup (sJ xs ol oh)) hp trivial; refine ⟨_,S4,((s1.trans s2).trans s3).trans s4, ?_⟩; simp only [ResOk,Rep]; exact ⟨p,_,rfl,bZ,(rl.cut ol oh).mono s4⟩
theorem nT {i:Int} (ha:PEd X sd a (.val (.int i))):PEd X sd (.UnaryOp .USub a pos) (.val (.int (-i))):= .mk fun σ F H S=>
 (pe_un un_neg fH).to ((ha σ F H S).imp fun v H1 ⟨F1,S1,s1,q1⟩=>by
  simp only [ResOk,Rep] at q1
  exact ⟨i,q1,F1,S1,s1,by simp only [ResOk,Rep]⟩)
theorem dY {body:List Stmt} {P:Hp→Hp→Prop} (Sd:Nat→List Slot→Prop) (hi:PId X sd P tg iter ds) (h0:∃sd0,Le sd sd0∧Sd 0 sd0)
  (hb:∀k d sdk,ds[k]? =some d→Sd k sdk→∃sdt,PGd X sdk tg d sdt∧PSd X sdt body {E with nx:=fun sd'=>∃sd2,Le sd' sd2∧Sd (k+1) sd2,ct:=fun sd'=>∃sd2,Le sd' sd2∧Sd (k+1) sd2,bk:=E.nx}) (hE:∀sdn,Sd ds.length sdn→E.nx sdn) (hP:∀k sdk σ F H,Sd k sdk→StF X.K X.B₀ F H σ sdk→P F H:=by intros; trivial)
  (hc:X.calm=true:=by rfl) (hp:PassesOwn (model X.prog X.w) X.A X.env X.xe:=by exact PassesOwn.never) (hs:∀x,foldedSetIterable iter X.env x=pure x:=by intro _; rfl):PSd1 X sd (.For tg iter body [] pos) E:= .mk fun σ F H S=>
 (ps_for hp hc pi_w pg_w uO hs).to (by
  intro pins s I; refine thn (hi σ F H S pins s I) fun v s1 h1=>thn h1 fun itv s2 h2=> ?_
  obtain ⟨it,fp,tn,J,H2,e,I2,T,st2,f2,F1,S1,s1',itd⟩:=h2; refine ⟨it,fp,tn,J,H2,e,I2,T,st2,f2, ?_⟩; obtain ⟨sd0,le0,q0⟩:=h0; refine ⟨fun i m σ' H'=>m=ds.length - i∧i≤ds.length∧∃sdi F',StF X.K X.B₀ F' H' σ' sdi∧Same F1 F'∧Sd i sdi,⟨ds.length,by simp,cW _,sd0,F1,S1.le le0,Same.refl _,q0⟩, ?_⟩; rintro i m σ' H' ⟨rfl,hil,sdi,F',S',s',qi⟩; obtain ⟨g1,g2,g3⟩:=itd F' H' s' S'.sub S'.smp (hP _ _ _ _ _ qi S') i
  by_cases hlt:i<ds.length
  ·refine .inr ⟨g1 hlt,fun σ2 H2=>∃sd2 F2,StF X.K X.B₀ F2 H2 σ2 sd2∧Same F1 F2∧Sd (i+1) sd2,fun σ2 H2 ⟨sd2,F2,S2,s2,q2⟩=>⟨ds.length - (i+1),by omega,rfl,hlt,sd2,F2,S2,s2,q2⟩,fun x H2 y=> ?_⟩; have hd:ds[i]? =some ds[i]:=by simp [hlt]
   obtain ⟨F2,s2,rp,up⟩:=g3 x H2 ds[i] hd y; obtain ⟨sdt,hg,hbb⟩:=hb i _ sdi hd qi; refine (hg σ' F2 H2 x (up _ _ _ S') rp).imp fun σ3 H3 ⟨F3,S3,s3⟩=> ?_
   have base:Same F1 F3:=(s'.trans s2).trans s3; refine (hbb σ3 F3 H3 S3).imp ?_ ?_ ?_ ?_
   ·rintro σ4 H4 ⟨sd4,F4,S4,s4,sd5,le,q5⟩; exact ⟨sd5,F4,S4.le le,base.trans s4,q5⟩
   ·exact fun v H4 q=>q
   ·rintro σ4 H4 ⟨sd4,F4,S4,s4,q⟩; exact ⟨sd4,F4,S4,(s1'.trans base).trans s4,q⟩
   ·rintro σ4 H4 ⟨sd4,F4,S4,s4,sd5,le,q5⟩; exact ⟨sd5,F4,S4.le le,base.trans s4,q5⟩
  ·have e:i=ds.length:=by omega
   subst e
   exact .inl ⟨g2 (aZ _),sdi,F',S',s1'.trans s',hE sdi qi⟩)
end
noncomputable def gZ (m:Nat):Nat→List (List Int)
 | 0=>[[]]
 | k+1=>(gZ m k).flatMap fun s=>(bJ m).map fun (w:Nat)=>s++[(w:Int)]
noncomputable def aQ (s:List Int):D:= .tup (s.map D.int)
noncomputable def qG (m:Int) (ws:List Int):Int:=ws.foldl (fun n w=>n * m+w) 0
noncomputable def chkF (b k:Nat):Bool:=let L:=gZ (2^b) k; L.length==2^(b * k) && (bJ L.length).all fun i=>let f:=L.getD i []; f.length==k && f.all (fun w=>decide (0≤w) && decide (w<2^b)) && decide (qG (2^b) f=i) && (i==0 || HT.lexLt (L.getD (i - 1) []) f)
theorem chk14:∀p∈bS,chkF p.1.toNat p.2.toNat=true:=by decide+kernel
theorem qF:∀p∈bS,1≤p.1∧p.1≤6∧1≤p.2∧p.2≤6∧p.1 * p.2≤6:=by decide+kernel
theorem fil_mem {m:Nat}:∀ {k:Nat} {ws:List Int},ws.length=k→(∀w∈ws,0≤w∧w<m)→ws∈gZ m k
 | 0,ws,h,_=>by have:ws=[]:=List.length_eq_zero_iff.mp h; subst this; simp [gZ]
 | k+1,ws,h,hw=>by
  have hne:ws≠[]:=by intro z; subst z; simp at h
  have e:ws=ws.dropLast++[ws.getLast hne]:=(List.dropLast_concat_getLast hne).symm; have hl:=hw (ws.getLast hne) (List.getLast_mem hne); have ih:ws.dropLast∈gZ m k:=fil_mem (by rw [List.length_dropLast,h]; rfl) fun w hm=>hw w (List.dropLast_subset _ hm)
  show ws∈(gZ m k).flatMap fun s=>(bJ m).map fun (w:Nat)=>s++[(w:Int)]
  refine eG.mpr ⟨_,ih,aJ.mpr ⟨(ws.getLast hne).toNat,bY.mpr (by omega), ?_⟩⟩; have:(((ws.getLast hne).toNat:Nat):Int)=ws.getLast hne:=by omega
  rw [this]; exact e.symm
structure FilOk (b k:Nat):Prop where
 len:(gZ (2^b) k).length=2^(b * k)
 at_:∀i,i<2^(b * k)→((gZ (2^b) k).getD i []).length=k∧(∀w∈(gZ (2^b) k).getD i [],0≤w∧w<2^b)∧qG (2^b) ((gZ (2^b) k).getD i [])=i∧(i=0∨HT.lexLt ((gZ (2^b) k).getD (i - 1) []) ((gZ (2^b) k).getD i [])=true)
theorem fil_ok {b k:Nat} (h:chkF b k=true):FilOk b k:=by unfold chkF at h; simp only [aP,beq_iff_eq,bD,bY,decide_eq_true_eq,kJ] at h; obtain ⟨h1,h2⟩:=h; refine ⟨h1,fun i hi=> ?_⟩; obtain ⟨⟨⟨a,b⟩,c⟩,d⟩:=h2 i (by omega); exact ⟨a,b,c,d⟩
theorem fil_at {b k:Nat} (h:FilOk b k) {ws:List Int} (hl:ws.length=k) (hw:∀w∈ws,0≤w∧w<((2^b:Nat):Int)):0≤qG (2^b) ws∧(qG (2^b) ws).toNat<2^(b * k)∧(gZ (2^b) k).getD (qG (2^b) ws).toNat []=ws:=by
 have hm:=fil_mem hl hw; obtain ⟨i,hi,e⟩:=List.mem_iff_getElem.mp hm; have e':(gZ (2^b) k).getD i []=ws:=by simp [cC,hi,e]
 rw [h.len] at hi; have hn:=(h.at_ i hi).2.2.1; rw [e'] at hn; rw [hn]; refine ⟨by omega,by simpa using hi, ?_⟩; simpa using e'
theorem xK:∀ (ws vs:List Int),jE (ws.map D.int) (vs.map D.int)=decide (ws=vs)
 | [],[]=>by simp [jE]
 | [],_::_=>by simp [jE]
 | _::_,[]=>by simp [jE]
 | w::ws,v::vs=>by
  simp only [bX,jE,deq,xK ws vs]
  by_cases h1:w=v<;>by_cases h2:ws=vs<;>simp [h1,h2]
theorem xT (ws vs:List Int):deq (aQ ws) (aQ vs)=decide (ws=vs):=by unfold aQ; simp only [deq,xK]
theorem xM:∀ws:List Int,plL (ws.map D.int)=true
 | []=>rfl
 | w::ws=>by simp [plL,pl,xM ws]
theorem uR:∀ws:List Int,jO (ws.map D.int)=0
 | []=>rfl
 | w::ws=>by simp [jO,dep,uR ws]
theorem pl_tupI (ws:List Int):pl (aQ ws)=true:=by simp [aQ,pl,xM]
theorem xW (ws:List Int):dep (aQ ws)=1:=by simp [aQ,dep,uR]
theorem kM:∀L:List (List Int),plL (L.map aQ)=true
 | []=>rfl
 | w::ws=>by simp [plL,pl_tupI,kM ws]
theorem lG:∀L:List (List Int),jO (L.map aQ)≤1
 | []=>by simp [jO]
 | w::ws=>by have:=lG ws; simp only [bX,jO,xW]; omega
theorem rH:∀ (L M:List (List Int)),jE (L.map aQ) (M.map aQ)=decide (L=M)
 | [],[]=>by simp [jE]
 | [],_::_=>by simp [jE]
 | _::_,[]=>by simp [jE]
 | w::ws,v::vs=>by
  simp only [bX,jE,xT,rH ws vs]
  by_cases h1:w=v<;>by_cases h2:ws=vs<;>simp [h1,h2]
theorem mul64 {i j:Int} (h1: -(2^64)<j) (h2:j<2^64):IntMulOk i j:= .of_right (intBits_le_64 h1 h2)
theorem oA {L:List (List Int)} {k:Nat} {d:D} (h:(L.map aQ)[k]? =some d):k<L.length∧d=aQ (L.getD k []):=by
 rw [aI] at h; cases e:L[k]? with
 | none=>rw [e] at h; cases h
 | some z=>rw [e] at h; refine ⟨(aH.mp e).1, ?_⟩; rw [← cT.inj h,cC,e]; rfl
section
variable {X:Cx} {sd:List Slot} {e a b c tg iter:Expr} {es:List Expr} {pos:Pos} {r ra rb:R} {d:D} {ds:List D} {st:Stmt} {rest:List Stmt} {E:jU}
theorem ptd_inM {g:Str} {ad:Addr} {xs:List V} {v:V} {p:Pos} (hg:Gl X g) (hm:X.mg g=some (.ref ad)) (hq:∀H,SqT X.K H ad xs) (ha:PEd X sd a (.val d)) (hd:flt d=some v) (fv:mM v=true) (fx:xs.all mM=true)
  (hk:behindInMarks .In (.Name g p)=false:=by with_unfolding_all rfl) (hdb:(g==("__debug__":Str))=false:=by decide):PTd X sd (.Compare a [.In] [.Name g p] pos) (inV v xs):= .mk fun σ F H S=>
 (qR op_in_seq fH (pe_glob (v:= .ref ad) hg hm rfl hdb) hk).to ((ha σ F H S).imp fun x H1 ⟨F1,S1,s1,q1⟩=>by
  have e:=oF hd q1; subst e
  exact ⟨ad,xs,rfl, .inr (hq H1),fv,fx,_,rfl,rfl,F1,S1,s1⟩)
end
noncomputable def stepNames:List Str:=["and","or","xor","add","take","copy","put","not","up","down"]
noncomputable def nm (k:Nat):Str:=stepNames.getD k "down"
noncomputable def iA (k:Nat) (i j n:Int):D:=if k<6 then .tup [.str (nm k), .int i, .int j] else if k=6 then .tup [.str (nm k), .int i, .int n] else .tup [.str (nm k), .int i]
noncomputable def selfW (k:Nat) (m a:Int):Int:=match k with
 | 7=>m - 1 - a
 | 8=>a * 2%m
 | _=>a / 2
noncomputable def vN (k:Nat) (m a c:Int):Int:=match k with
 | 0=>Builtin.bitAnd a c
 | 1=>Builtin.bitOr a c
 | 2=>Builtin.bitXor a c
 | 3=>(a+c)%m
 | 4=>(a - c)%m
 | _=>c
noncomputable def tO (k:Nat) (m a c n:Int):Int:=if k=6 then n else if 7≤k then selfW k m a else vN k m a c
theorem nm_and:∀k,k<10→decide (V.str (nm k)=V.str "and")=decide (k=0):=by decide+kernel
theorem nm_or:∀k,k<10→decide (V.str (nm k)=V.str "or")=decide (k=1):=by decide+kernel
theorem nm_xor:∀k,k<10→decide (V.str (nm k)=V.str "xor")=decide (k=2):=by decide+kernel
theorem yW:∀k,k<10→decide (V.str (nm k)=V.str "add")=decide (k=3):=by decide+kernel
theorem wC:∀k,k<10→decide (V.str (nm k)=V.str "take")=decide (k=4):=by decide+kernel
theorem pM:∀k,k<10→decide (V.str (nm k)=V.str "put")=decide (k=6):=by decide+kernel
theorem vB:∀k,k<10→decide (V.str (nm k)=V.str "not")=decide (k=7):=by decide+kernel
theorem nm_up:∀k,k<10→decide (V.str (nm k)=V.str "up")=decide (k=8):=by decide+kernel
theorem nm_self:∀k,k<10→inV (V.str (nm k)) [V.str "not",V.str "up",V.str "down"]=decide (7≤k):=by decide+kernel
theorem bits_rng:∀b,b<7→∀a,a<2^b→∀c,c<2^b→∀k,k<3→0≤vN k 0 ((a:Nat):Int) ((c:Nat):Int)∧vN k 0 ((a:Nat):Int) ((c:Nat):Int)<((2^b:Nat):Int):=by decide+kernel
theorem anoW0 {k:Nat} (h:k<3) (m a c:Int):vN k m a c=vN k 0 a c:=by
 match k,h with
 | 0,_=>rfl
 | 1,_=>rfl
 | 2,_=>rfl
theorem newW_rng {b k:Nat} {a c n:Int} (hb:b<7) (hk:k<10) (ha:0≤a∧a<((2^b:Nat):Int)) (hc:0≤c∧c<((2^b:Nat):Int)) (hn:0≤n∧n<((2^b:Nat):Int)):0≤tO k ((2^b:Nat):Int) a c n∧tO k ((2^b:Nat):Int) a c n<((2^b:Nat):Int):=by
 have ea:a=((a.toNat:Nat):Int):=by omega
 have ec:c=((c.toNat:Nat):Int):=by omega
 have la:a.toNat<2^b:=by have:=ha.2; generalize 2^b=q at *; omega
 have lc:c.toNat<2^b:=by have:=hc.2; generalize 2^b=q at *; omega
 have tab:∀k,k<3→0≤vN k ((2^b:Nat):Int) a c∧vN k ((2^b:Nat):Int) a c<((2^b:Nat):Int):=fun k hk=>by rw [anoW0 hk,ea,ec]; exact bits_rng b hb _ la _ lc k hk
 have mpos:(0:Int)<((2^b:Nat):Int):=by omega
 match k,hk with
 | 0,_=>exact tab 0 (by decide)
 | 1,_=>exact tab 1 (by decide)
 | 2,_=>exact tab 2 (by decide)
 | 3,_=>exact ⟨cM _ (jS mpos),bR _ mpos⟩
 | 4,_=>exact ⟨cM _ (jS mpos),bR _ mpos⟩
 | 5,_=>exact hc
 | 6,_=>exact hn
 | 7,_=>show 0≤((2^b:Nat):Int) - 1 - a∧((2^b:Nat):Int) - 1 - a<((2^b:Nat):Int); generalize ((2^b:Nat):Int)=q at *; omega
 | 8,_=>exact ⟨cM _ (jS mpos),bR _ mpos⟩
 | 9,_=>show 0≤a / 2∧a / 2<((2^b:Nat):Int); generalize ((2^b:Nat):Int)=q at *; omega
section
variable {X:Cx} {sd:List Slot} {e a b c tg iter:Expr} {es:List Expr} {pos:Pos} {d:D}
theorem pd_chainI {op op':CmpOp} {g g':Int→Int→Bool} {i j l:Int} (ho:OpR X (compareOp op) (rI0 fun i j=> .bl (g i j))) (ho':OpR X (compareOp op') (rI0 fun i j=> .bl (g' i j))) (ha:PEd X sd a (.val (.int i))) (hb:PEd X sd b (.val (.int j))) (hc:PEd X sd c (.val (.int l))) (hm:lastMarks [op,op'] [b,c]=false:=by with_unfolding_all rfl):PEd X sd (.Compare a [op,op'] [b,c] pos) (.val (.bl (g i j && g' j l))):= .mk fun σ F H S=>
 (pe_chain ho ho' fH fH fH hm).to ((ha σ F H S).imp fun v H1 ⟨F1,S1,s1,q1⟩=>(hb σ F1 H1 S1).imp fun u H2 ⟨F2,S2,s2,q2⟩=>by
  simp only [ResOk,Rep] at q1 q2; refine ⟨i,j,q1,q2,g i j,rfl, ?_⟩; cases hk:g i j with
  | true=>
   rw [if_pos rfl]; refine (hc σ F2 H2 S2).imp fun w H3 ⟨F3,S3,s3,q3⟩=> ?_
   simp only [ResOk,Rep] at q3; exact ⟨j,l,q2,q3,F3,S3,s1.trans (s2.trans s3),by simp only [ResOk,Rep,dO]⟩
  | false=>
   rw [if_neg (by decide)]
   exact ⟨F2,S2,s1.trans s2,by simp only [ResOk,Rep,nO]⟩)
theorem zV {i j:Int} (ha:PEd X sd a (.val (.int i))) (hb:PEd X sd b (.val (.int j))):PEd X sd (.Compare a [.Eq] [b] pos) (.val (.bl (decide (i=j)))):=
 oV op_eq ha hb trivial (gS _) fun σ F H v u Q S q1 q2 k=>by
  simp only [ResOk,Rep] at q1 q2; subst q1; subst q2; refine ⟨rfl, ?_⟩; have e:decide (V.int i=V.int j)=decide (i=j):=by rw [vG,Bool.beq_eq_decide_eq]
  rw [e]; exact k F H S (Same.refl _)
end
section
variable {X:Cx} {sd:List Slot} {e a b c tg iter o:Expr} {es:List Expr} {pos:Pos} {r ra rb:R} {d:D} {ds:List D} {st:Stmt} {rest:List Stmt} {E:jU}
theorem PEd.ic {i j:Int} (h:PEd X sd e (.val (.int i))) (q:i=j):PEd X sd e (.val (.int j)):=q▸h
theorem PWd.cast {k k':Bool} (h:PWd X sd e k) (q:k=k'):PWd X sd e k':=q▸h
end
mutual
noncomputable def noL:D→Bool
 | .tup ds=>noLs ds
 | .lst _=>false
 | .scr _=>false
 | .dic=>false
 | .dki _ _=>false
 | .any _=>false
 | _=>true
noncomputable def noLs:List D→Bool
 | []=>true
 | d::ds=>noL d && noLs ds
end
noncomputable def del (F:Hp) (l:Addr):Hp:=fun b=>if b=l then none else F b
theorem rA {F:Hp} {l b:Addr} (h:b≠l):del F l b=F b:=by unfold del; rw [if_neg h]
theorem xU {F:Hp} {l:Addr}:del F l l=none:=by unfold del; rw [if_pos rfl]
mutual
theorem Rep.del {K:aD} {F:Hp} {l:Addr} {xs:List V} (hl:F l=some (.lst xs)):∀ {d:D} {v:V},noL d=true→Rep K F d v→Rep K (del F l) d v
 | .non,_,_,r=>by simpa only [Rep] using r
 | .bl _,_,_,r=>by simpa only [Rep] using r
 | .int _,_,_,r=>by simpa only [Rep] using r
 | .str _,_,_,r=>by simpa only [Rep] using r
 | .tup ds,v,h,r=>by
  simp only [Rep] at r ⊢; obtain ⟨a,ys,e,q,rl⟩:=r
  have ne:a≠l:=fun z=>by rw [z,hl] at q; cases q
  exact ⟨a,ys,e,by rw [rA ne]; exact q,RepL.del hl (by simpa only [noL] using h) rl⟩
 | .lst _,_,h,_=>by simp [noL] at h
 | .dic,_,h,_=>by simp [noL] at h
 | .dki _ _,_,h,_=>by simp [noL] at h
 | .any _,_,h,_=>by simp [noL] at h
 | .scr _,_,h,_=>by simp [noL] at h
theorem RepL.del {K:aD} {F:Hp} {l:Addr} {xs:List V} (hl:F l=some (.lst xs)):∀ {ds:List D} {ys:List V},noLs ds=true→RepL K F ds ys→RepL K (del F l) ds ys
 | [],_,_,r=>by simpa only [RepL] using r
 | d::ds,ys,h,r=>by simp only [noLs,aP] at h; obtain ⟨y,zs,rfl,a,rl⟩:=r.uncons; exact .cons (Rep.del hl h.1 a) (RepL.del hl h.2 rl)
end
theorem xB {K:aD} {F H:Hp}:∀ {sd:List Slot} {σ:St},σ.length=sd.length→(∀ (k:Nat) (z:Slot),sd[k]? =some z→∃o,σ[k]? =some o∧kP K F H z o)→SlotsOk K F H sd σ
 | [],[],_,_=>rfl
 | z::zs,o::r,hl,h=>by
  obtain ⟨o',e,q⟩:=h 0 z rfl; have:o=o':=by simpa using e
  subst this
  exact ⟨o,r,rfl,q,xB (by simpa using hl) fun k z hz=>by
   obtain ⟨o',e,q⟩:=h (k+1) z (by simpa using hz)
   exact ⟨o',by simpa using e,q⟩⟩
 | [],_::_,hl,_=>by simp at hl
 | _::_,[],hl,_=>by simp at hl
noncomputable def okS:Slot→Bool
 | .own _ ds=>noLs ds
 | .od _ _ ds=>noLs ds
 | .ox _ _=>false
 | _=>true
noncomputable def Oth (sd:List Slot) (i:Nat):Prop:=∀ (k:Nat) (z:Slot),k≠i→sd[k]? =some z→okS z=true
section
variable {K:aD} {H₀ F F' H H':Hp} {σ:St} {sd:List Slot} {i:Nat} {l:Addr} {ds:List D} {xs:List V}
theorem StF.lend (S:StF K H₀ F H σ sd) (hs:sd[i]? =some (.own l ds)) (hx:H l=some (.lst xs)):StF K H₀ (upd F l (.lst xs)) H σ (sd.set i (.val (.lst ds))):=by obtain ⟨o,h1,h2,n,ys,q,rl⟩:=S.slots.get hs; rw [hx] at q; cases q; have S0:=S.le (iL sd i); obtain ⟨S1,s1⟩:=S0.freeze hx n (nD S.nd hs); have S2:=S1.set (d:= .lst ds) (v:= .ref l) i (by simp only [Rep]; exact ⟨l,xs,rfl,bZ,rl.mono s1⟩); rw [kF,lH (by rw [h1,h2])] at S2; exact S2
theorem StF.back (S:StF K H₀ F H σ sd) (hs:sd[i]? =some (.own l ds)) (hx:H l=some (.lst xs)) (ho:Oth sd i) (S':StF K H₀ F' H' σ (sd.set i (.val (.lst ds)))) (s:Same (upd F l (.lst xs)) F'):StF K H₀ (del F' l) H' σ sd∧Same F (del F' l)∧F' l=some (.lst xs):=by
 obtain ⟨o,h1,h2,n,ys,q,rl⟩:=S.slots.get hs; rw [hx] at q; cases q; have fl:F' l=some (.lst xs):=s _ _ bZ
 have sF:Same F (del F' l):=fun b u e=>by have ne:b≠l:=cF e n; rw [rA ne]; exact s _ _ (by rw [bM ne]; exact e)
 refine ⟨⟨fun b u e=>sF _ _ (S.base _ _ e),fun b u e=> ?_,S'.smp, ?_,S.nd⟩,sF,fl⟩
 ·by_cases h:b=l
  ·subst h; rw [xU] at e; cases e
  ·rw [rA h] at e; exact S'.sub _ _ e
 ·refine xB S.slots.len fun k z hz=> ?_
  by_cases hk:k=i
  ·subst hk; rw [hs] at hz; cases hz; exact ⟨o,h1,h2,xU,xs,S'.sub _ _ fl,rl.mono sF⟩
  ·obtain ⟨o1,g1,g2⟩:=S.slots.get hz; obtain ⟨o2,g3,g4⟩:=S'.slots.get (i:=k) (z:=z) (by rw [jZ (Ne.symm hk)]; exact hz); rw [g1] at g3; cases g3; refine ⟨o1,g1, ?_⟩; cases z with
   | un=>trivial
   | val d=>obtain ⟨v,e,r⟩:=g2; exact ⟨v,e,r.mono sF⟩
   | gh d G=>obtain ⟨v,e,r,g⟩:=g2; exact ⟨v,e,r.mono sF,fun F2 s2=>g F2 (sF.trans s2)⟩
   | own l' ds'=>
    obtain ⟨e,n',ys,q',rl'⟩:=g4
    have ne:l'≠l:=fun e2=>by rw [e2,fl] at n'; cases n'
    exact ⟨e,by rw [rA ne]; exact n',ys,q',RepL.del fl (ho k _ hk hz) rl'⟩
   | od l' ks ds'=>
    obtain ⟨e,n',ys,q',ln,rl'⟩:=g4
    have ne:l'≠l:=fun e2=>by rw [e2,fl] at n'; cases n'
    exact ⟨e,by rw [rA ne]; exact n',ys,q',ln,RepL.del fl (ho k _ hk hz) rl'⟩
   | ox ls G=>exact absurd (ho k _ hk hz) (by simp [okS])
end
section
variable {X:Cx} {sd:List Slot} {e a b c tg iter o:Expr} {es:List Expr} {pos:Pos} {r ra rb:R} {d:D} {ds:List D} {st:Stmt} {rest:List Stmt} {E:jU}
theorem PTd.lend (i:Nat) {l:Addr} {k:Bool} (hs:sd[i]? =some (.own l ds)) (ho:Oth sd i) (h:PTd X (sd.set i (.val (.lst ds))) e k):PTd X sd e k:= .mk fun σ F H S=>by
 obtain ⟨o,h1,h2,n,xs,q,rl⟩:=S.slots.get hs; refine (h σ _ H (S.lend hs q)).imp fun v H' ⟨e,F',S',s'⟩=> ?_
 obtain ⟨S2,s2,fl⟩:=S.back hs q ho S' s'; exact ⟨e,del F' l,S2,s2⟩
theorem PTd.cast {k k':Bool} (h:PTd X sd e k) (q:k=k'):PTd X sd e k':=q▸h
noncomputable def othB:List Slot→Nat→Bool
 | [],_=>true
 | _::zs,0=>zs.all okS
 | z::zs,i+1=>okS z && othB zs i
theorem oth_b:∀ {sd:List Slot} {i:Nat},othB sd i=true→Oth sd i
 | [],_,_,k,y,_,hz=>by simp at hz
 | z::zs,0,h,k,y,hk,hz=>by
  cases k with
  | zero=>exact absurd rfl hk
  | succ k=>exact bD.mp (show zs.all okS=true from h) _ (aV (by simpa using hz))
 | z::zs,i+1,h,k,y,hk,hz=>by
  have h':(okS z && othB zs i)=true:=h; rw [aP] at h'; cases k with
  | zero=>
   have:z=y:=by simpa using hz
   subst this; exact h'.1
  | succ k=>exact oth_b h'.2 k y (fun q=>hk (by rw [q])) (by simpa using hz)
theorem psd_move (i j:Nat) {x y:Str} {p q:Pos} {l:Addr} (hs:sd[j]? =some (.own l ds)) (hN:X.N.Nodup) (hi:X.N[i]? =some x) (hx:Loc X.env.scope x) (hy:PE X (.Name y q) (mQ j)) (hE:E.nx ((sd.set j .un).set i (.own l ds))) (hsw:swapsWith (.Name y q) (some (.Name x p)) pos.line X.env=pure false:=by rfl)
  (hf:X.fn x=true∨X.env.scope.names.lookup x=some .local:=by first | exact .inl rfl | exact .inr rfl | assumption):PSd1 X sd (.Assign [.Name x p] (.Name y q) pos) E:= .mk fun σ F H S=>
 (sS hN hi hx hy hsw hf).to (by
  obtain ⟨o,h1,h2,n,xs,g,rl⟩:=S.slots.get hs
  exact ⟨.ref l,by rw [h1,h2],_,F,(S.le (iL sd j)).setO i n g rl (nD S.nd hs),Same.refl _,hE⟩)
theorem call_intB:mO X (.type "int") (fun xs H Q=>∃k,xs=[.bl k]∧Q (.int (if k then 1 else 0)) H):=by intro pins s σ H xs us Q I r h; obtain ⟨k,rfl,q⟩:=h; obtain ⟨u,rfl,ru⟩:=pZ r; cases (show u=Value.bool k from ru); exact call_int_bool ⟨.int _,H,I.kept fun b o g=>g,⟨_,rfl⟩,q⟩
theorem pd_intB {p:Pos} {k:Bool} (hg:Gl X "int") (hm:X.mg "int"=none) (ha:PEd X sd e (.val (.bl k))) (hst:starEach [e] X.env=(false,eval e X.env)::starEach [] X.env:=by rfl):PEd X sd (.Call (.Name "int" p) [e] [] pos) (.val (.int (if k then 1 else 0))):=
 pD (he:=hst) call_intB hg hm PyProof.Rows.boot_int (aC ha aG trivial hst) fun σ F H vs Q S q kk=>by
  cases q with
  | cons q1 q2=>cases q2; simp only [ResOk,Rep] at q1; subst q1; exact ⟨k,rfl,kk _ F H S (Same.refl _) (by simp only [ResOk,Rep])⟩
theorem pd_slS {ns:List Int} {lo hi:Option Expr} {ol oh:Option Int} {p2:Pos} (ha:PEd X sd a (.val (.scr ns))) (hl:POd X sd lo ol) (hh:POd X sd hi oh):PEd X sd (.Subscript a (.Slice lo hi none p2) pos) (.own (DL.cutD (ns.map D.int) ol oh)):= .mk fun σ F H S=>by
 obtain ⟨tl,pl,kl⟩:=kC hl; obtain ⟨th,ph,kh⟩:=kC hh; refine (rN sl_list fH pl ph).to ((ha σ F H S).imp fun v H1 ⟨F1,S1,s1,q1⟩=>kl σ F1 H1 S1 _ fun F2 H2 S2 s2=>kh σ F2 H2 S2 _ fun F3 H3 S3 s3=> ?_); have q1:=Rep.mono (s2.trans (s3.trans S3.sub)) q1; simp only [Rep] at q1; obtain ⟨l,rfl,hl'⟩:=q1; refine ⟨l,_,rfl,hl',fun p hp=> ?_⟩; obtain ⟨S4,fp,no⟩:=S3.layO (xs:=sJ (ns.map V.int) ol oh) hp
 have rl:RepL X.K F3 (ns.map D.int) (ns.map V.int):=by
  have g:∀l:List Int,RepL X.K F3 (l.map D.int) (l.map V.int):=fun l=>by
   induction l with
   | nil=>exact .nil
   | cons k l ih=>exact .cons (by simp only [Rep]) ih
  exact g ns
 exact ⟨F3,S4,(s1.trans s2).trans s3,p,_,rfl,fp,bZ,rl.cut ol oh,no⟩
theorem call_sumL (hc:X.calm=true):mO X (.builtin "sum") (fun xs H Q=>∃ (a:Addr) (ns:List Int),xs=[.ref a]∧SqL X.K H a (ns.map V.int)∧Q (.int (preSum (fun i=>ns.getD i 0) ns.length)) H):=by
 intro pins s σ H xs us Q I r h; obtain ⟨a,ns,rfl,ha,q⟩:=h; obtain ⟨u,rfl,ru⟩:=pZ r; cases ru; obtain ⟨its,rv,p,hz⟩:=I.list ha; have hl:=rv.length; rw [aB] at hl; have isl:s.heap.IsList a its.toArray:=p.isList; have alt:a<s.heap.objs.size:=by obtain ⟨o,ho,_⟩:=isl; exact bA ho
 refine call_sum_walkAnyS (wpAny_pyIter_list isl ?_); refine ⟨s.heap.objs.size,_,_,_,its.toArray.size,_,_,fun i=>ns.getD i 0,rfl,(Walks.list (A:=X.A.in1) (I.ok.hd hc) s.heap.objs.size a (cG alt) its.toArray).toS,⟨⟨_,bF _ rfl,rfl,rfl⟩,isl.push _⟩,fun b hb=> ?_,fun i v hv=>(ints_at rv (by simpa using hv)).2,fun s' t' hm=> ?_⟩
 ·show b<(s.heap.push _).objs.size; rw [size_push']
  rcases cJ.mp hb with e | hb
  ·rw [e]; exact Nat.lt_succ_self _
  ·have e:b=a:=by simpa using hb
   rw [e]; exact Nat.lt_succ_of_lt alt
 ·rw [Moved.eq_with hm]; have sz:its.toArray.size=ns.length:=by rw [aK,hl]
  rw [sz]; refine ⟨.int _,H,I.kept fun b o g=>hm.heap b o (fun hI=> ?_) (aM _ g),⟨_,rfl⟩,q⟩; have e:b=s.heap.objs.size:=by simpa using hI
  exact absurd (bA g) (by rw [e]; exact gT _)
theorem pd_sumL {p:Pos} {ns:List Int} (hg:Gl X "sum") (hm:X.mg "sum"=none) (ha:PEd X sd e (.bor (ns.map D.int))) (hc:X.calm=true:=by rfl) (hst:starEach [e] X.env=(false,eval e X.env)::starEach [] X.env:=by rfl):PEd X sd (.Call (.Name "sum" p) [e] [] pos) (.val (.int (preSum (fun i=>ns.getD i 0) ns.length))):=
 lJ (he:=hst) (call_sumL hc) hg hm boot_sum (aC ha aG trivial hst) fun σ F H vs Q S q k=>by
  cases q with
  | cons q1 q2=>cases q2; obtain ⟨p,xs,rfl,hp,rl,_⟩:=q1; exact ⟨p,ns,rfl, .of (by rw [← rl.ints]; exact hp),k _ F H S (Same.refl _) (by simp only [ResOk,Rep])⟩
end
noncomputable def CCell:List D→R→Prop:=fun ds r=>∃ (ns:List Int) (k:Nat),ds=[.scr ns, .int (k:Int)]∧k≤1000∧r= .val (.int (ns.getD k 0))
noncomputable abbrev SQ:=Nat × Int × Int × Int
noncomputable def sqD (q:SQ):D:=iA q.1 q.2.1 q.2.2.1 q.2.2.2
structure nL (p:Int × Int) (q:SQ):Prop where
 sz:p∈bS
 k10:q.1<10
 i0:0≤q.2.1∧q.2.1<p.2
 j0:0≤q.2.2.1∧q.2.2.1<p.2
 n0:0≤q.2.2.2∧q.2.2.2<((2^p.1.toNat:Nat):Int)
theorem pw0 (n:Nat):(0:Int)<((2^n:Nat):Int):=by have:0<2^n:=Nat.pow_pos (by decide); generalize 2^n=q at this ⊢; omega
noncomputable abbrev SK:=SQ × Int
noncomputable def skD (s:SK):D:= .tup [sqD s.1, .int s.2]
structure StkOk (p:Int × Int) (L:List SK):Prop where
 pos:0<L.length
 le:L.length≤8
 st:∀s∈L,nL p s.1∧1≤s.2∧s.2≤9
structure Fil (p:Int × Int) (ws:List Int):Prop where
 len:ws.length=p.2.toNat
 wd:∀w∈ws,0≤w∧w<((2^p.1.toNat:Nat):Int)
noncomputable def nwQ (p:Int × Int) (q:SQ) (ws:List Int):Int:=tO q.1 ((2^p.1.toNat:Nat):Int) (ws.getD q.2.1.toNat 0) (ws.getD q.2.2.1.toNat 0) q.2.2.2
noncomputable def onQ (p:Int × Int) (q:SQ) (ws:List Int):List Int:=ws.set q.2.1.toNat (nwQ p q ws)
noncomputable def rowQ (p:Int × Int) (L:List SK) (row:List Nat) (ws:List Int):List Int:=row.foldl (fun f t=>onQ p (L.getD t default).1 f) ws
theorem nwQ_rng {p:Int × Int} {q:SQ} {ws:List Int} (O:nL p q) (G:Fil p ws):0≤nwQ p q ws∧nwQ p q ws<((2^p.1.toNat:Nat):Int):=by obtain ⟨h1,h2,h3,h4,h5⟩:=qF p O.sz; exact newW_rng (by omega) O.k10 (G.wd _ (getD_mem (by have:=O.i0; rw [G.len]; omega))) (G.wd _ (getD_mem (by have:=O.j0; rw [G.len]; omega))) O.n0
theorem vS {p:Int × Int} {q:SQ} {ws:List Int} (O:nL p q) (G:Fil p ws):Fil p (onQ p q ws):=by
 refine ⟨by unfold onQ; rw [List.length_set]; exact G.len,fun w hw=> ?_⟩
 rcases List.mem_or_eq_of_mem_set hw with hw | rfl
 ·exact G.wd w hw
 ·exact nwQ_rng O G
theorem qV {p:Int × Int} (hp:p∈bS) {ws:List Int} (h:ws∈gZ (2^p.1.toNat) p.2.toNat):Fil p ws:=by
 have g:∀ (m k:Nat),∀s∈gZ m k,s.length=k∧∀x∈s,0≤x∧x<(m:Int):=fun m k=>by
  induction k with
  | zero=>
   intro s h; have:s=[]:=by simpa [gZ] using h
   subst this; exact ⟨rfl,fun x hx=>by cases hx⟩
  | succ k ih=>
   intro s h; obtain ⟨t,ht,hs⟩:=eG.mp h; obtain ⟨w,hw,rfl⟩:=aJ.mp hs; obtain ⟨a,b⟩:=ih t ht; refine ⟨by rw [aN,a]; rfl,fun x hx=> ?_⟩
   rcases bN.mp hx with hx | hx
   ·exact b x hx
   ·have e:x=(w:Int):=by simpa using hx
    have:=bY.mp hw; omega
 obtain ⟨a,b⟩:=g _ _ ws h; exact ⟨a,b⟩
noncomputable def cE (row:List Nat):List D:=row.map fun (t:Nat)=>D.int (t:Int)
noncomputable def tN (L:List SK) (row:List Nat):List Int:=row.map fun t=>(L.getD t default).2
noncomputable def sumI (l:List Int):Int:=preSum (fun i=>l.getD i 0) l.length
noncomputable def CPrice:List D→R→Prop:=fun ds r=>∃ (L:List SK) (row:List Nat),(∀t∈row,t<L.length)∧row.length≤500∧ds=[.lst (L.map skD), .tup (cE row)]∧r= .val (.int (sumI (tN L row)))
theorem rW {f g:Nat→Int}:∀n,(∀i,i<n→f i=g i)→preSum f n=preSum g n
 | 0,_=>rfl
 | n+1,h=>by show preSum f n+f n=preSum g n+g n; rw [rW n fun i hi=>h i (by omega),h n (by omega)]
theorem sumI_snoc (l:List Int) (x:Int):sumI (l++[x])=sumI l+x:=by unfold sumI; rw [aN]; show preSum _ l.length+_=_; rw [rW (g:=fun i=>l.getD i 0) l.length fun i hi=>by simp [cC,dU hi]]; simp [cC]
section
variable {X:Cx} {sd:List Slot} {e a b c tg iter o:Expr} {es:List Expr} {pos:Pos} {r ra rb:R} {d:D} {ds:List D} {st:Stmt} {rest:List Stmt} {E:jU}
theorem pd_eqS {d1 d2:D} {x y:V} {k:Bool} (ha:PEd X sd a (.val d1)) (hb:PEd X sd b (.val d2)) (h1:flt d1=some x) (h2:flt d2=some y) (hs:scal x y=true) (hk:decide (x=y)=k):PEd X sd (.Compare a [.Eq] [b] pos) (.val (.bl k)):=
 oV op_eq ha hb trivial (gS _) fun σ F H v u Q S q1 q2 kk=>by have e1:=oF h1 q1; have e2:=oF h2 q2; subst e1 e2; exact ⟨hs,by rw [hk]; exact kk F H S (Same.refl _)⟩
theorem rS {p:Pos} (hg:Gl X "list") (hm:X.mg "list"=none) (ha:PEd X sd e (.bor ds)) (hst:starEach [e] X.env=(false,eval e X.env)::starEach [] X.env:=by rfl):PEd X sd (.Call (.Name "list" p) [e] [] pos) (.own ds):=
 pD (he:=hst) vQ hg hm PyProof.Rows.boot_list (aC ha aG trivial hst) fun σ F H vs Q S q k=>by
  cases q with
  | cons q1 q2=>cases q2; obtain ⟨p,xs,rfl,hp,rl,_⟩:=q1; refine ⟨p,xs,rfl, .inl (.of hp),fun l hl=> ?_⟩; obtain ⟨S2,fp,no⟩:=S.layO (xs:=xs) hl; exact k _ F _ S2 (Same.refl _) ⟨l,xs,rfl,fp,bZ,rl,no⟩
end
mutual
theorem yH:∀d:D,pl d=true→deq d d=true
 | .non,_=>rfl
 | .bl b,_=>by simp [deq]
 | .int i,_=>by simp [deq]
 | .str x,_=>by simp [deq]
 | .tup ds,h=>by simp only [deq]; exact nG ds (by simpa only [pl] using h)
 | .lst ds,h=>by simp only [deq]; exact nG ds (by simpa only [pl] using h)
 | .dic,h=>by simp [pl] at h
 | .dki _ _,h=>by simp [pl] at h
 | .any _,h=>by simp [pl] at h
 | .scr _,h=>by simp [pl] at h
theorem nG:∀ds:List D,plL ds=true→jE ds ds=true
 | [],_=>rfl
 | d::ds,h=>by simp only [plL,aP] at h; simp only [jE,aP]; exact ⟨yH d h.1,nG ds h.2⟩
end
theorem nat_get {row:List Nat} {k:Nat} {d:D} (h:(cE row)[k]? =some d):k<row.length∧d= .int ((row.getD k 0:Nat):Int):=by
 unfold cE at h; rw [aI] at h; cases e:row[k]? with
 | none=>rw [e] at h; cases h
 | some z=>rw [e] at h; refine ⟨(aH.mp e).1, ?_⟩; rw [← cT.inj h,cC,e]; rfl
theorem tE {L:List SK} {t:Nat} (h:t<L.length):(L.map skD)[t]? =some (skD (L.getD t default)):=by rw [aI]; simp [cC,h]
noncomputable def itO (tp:Bool) (l:Addr):Obj:=match tp with
 | true=>{cls:= .type "tuple_iterator",data:= .fields #[.ref l, .int 0 0]}
 | false=>{cls:= .type "list_iterator",data:= .fields #[.ref l, .int 0 0]}
noncomputable abbrev zA (p:Bool) (h:Heap) (l:Addr):Heap:=h.push (itO p l)
noncomputable abbrev zB (p q:Bool) (h:Heap) (l m:Addr):Heap:=(zA p h l).push (itO q m)
noncomputable abbrev zC (p q:Bool) (h:Heap) (l m:Addr):Heap:=(zB p q h l m).push {cls:= .type "tuple",data:= .seq #[.ref h.objs.size, .ref (zA p h l).objs.size]}
noncomputable abbrev zD (p q:Bool) (h:Heap) (l m:Addr):Heap:=(zC p q h l m).push {cls:= .type "tuple",data:= .seq #[.none, .none]}
noncomputable abbrev zE (p q:Bool) (h:Heap) (l m:Addr):Heap:=(zD p q h l m).push {cls:= .type "zip",data:= .fields #[.none, .bool false, .bool false, .ref (zB p q h l m).objs.size, .ref (zC p q h l m).objs.size]}
theorem mT (L:List (List Int)) (m:Nat):(L.flatMap fun s=>(bJ m).map fun (w:Nat)=>s++[(w:Int)]).length=L.length * m:=by
 induction L with
 | nil=>simp
 | cons s L ih=>rw [List.flatMap_cons,aN,ih,aB,iH,cR,Nat.succ_mul,Nat.add_comm]
theorem oX:∀ (m k:Nat),(gZ m k).length=m^k
 | _,0=>rfl
 | m,k+1=>by show ((gZ m k).flatMap _).length=_; rw [mT,oX m k,Nat.pow_succ]
theorem sD:∀ (m k:Nat),∀s∈gZ m k,s.length=k
 | _,0,s,h=>by
  have:s=[]:=by simpa [gZ] using h
  subst this; rfl
 | m,k+1,s,h=>by obtain ⟨t,ht,hs⟩:=eG.mp h; obtain ⟨w,_,rfl⟩:=aJ.mp hs; rw [aN,sD m k t ht]; rfl
theorem tY:∀p∈bS,∀k,k<p.2.toNat→((2^p.1.toNat)^k) * 2^p.1.toNat≤900:=by decide+kernel
noncomputable def tabQ (p:Int × Int) (L:List SK) (row:List Nat):List (List Int):=(gZ (2^p.1.toNat) p.2.toNat).map fun ws=>rowQ p L row ws
theorem kU {p:Int × Int} (hp:p∈bS):(gZ (2^p.1.toNat) p.2.toNat).length≤64:=by
 have:∀p∈bS,(2^p.1.toNat)^p.2.toNat≤64:=by decide+kernel
 rw [oX]; exact this p hp
theorem mY {L:List (List Int)} {d:D} (h:d∈L.map aQ):∃ws∈L,d=aQ ws:=by obtain ⟨ws,hw,rfl⟩:=aJ.mp h; exact ⟨ws,hw,rfl⟩
noncomputable def iU:D→List Int
 | .tup ds=>ds.map fun d=>match d with | .int i=>i | _=>0
 | _=>[]
theorem gK (ws:List Int):iU (aQ ws)=ws:=by
 show (ws.map D.int).map _=ws; rw [aY]
 induction ws with
 | nil=>rfl
 | cons w ws ih=>rw [bX,ih]; rfl
section
variable {X:Cx} {sd:List Slot} {e a b c tg iter o:Expr} {es:List Expr} {pos:Pos} {r ra rb:R} {d:D} {ds:List D} {st:Stmt} {rest:List Stmt} {E:jU}
noncomputable def isN:D→Bool
 | .non=>true
 | _=>false
theorem rep_isN {K:aD} {H:Hp} {d:D} {v:V} (h:Rep K H d v):decide (v= .non)=isN d:=by
 cases d with
 | non=>simp only [Rep] at h; subst h; rfl
 | bl=>simp only [Rep] at h; subst h; rfl
 | int=>simp only [Rep] at h; subst h; rfl
 | str=>simp only [Rep] at h; subst h; rfl
 | tup=>simp only [Rep] at h; obtain ⟨a,xs,rfl,_⟩:=h; rfl
 | lst=>simp only [Rep] at h; obtain ⟨a,xs,rfl,_⟩:=h; rfl
 | dic=>simp only [Rep] at h; obtain ⟨a,rfl,_⟩:=h; rfl
 | dki=>simp only [Rep] at h; obtain ⟨a,xs,rfl,_⟩:=h; rfl
 | any=>simp only [Rep] at h; obtain ⟨⟨a,rfl⟩,_⟩:=h; rfl
 | scr=>simp only [Rep] at h; obtain ⟨a,rfl,_⟩:=h; rfl
theorem uY (ha:PEd X sd a (.val d)) (hb:PEd X sd b (.val .non)):PTd X sd (.Compare a [.Is] [b] pos) (isN d):=
 lQ op_isN ha hb trivial (gS _) fun σ F H v u Q S q1 q2 k=>by simp only [ResOk,Rep] at q2; have q1:Rep _ _ _ _:=q1; exact ⟨q2,by rw [rep_isN q1]; exact k F H S (Same.refl _)⟩
structure FunD (K:aD) (x qual:Str) (st:Stmt) (f:Addr) (fd:FuncData):Prop where
 ex:∃ (oc:Value) (od:Option Addr) (T:Addr) (kV doc pm:Value) (an:Option Addr) (cdv ct:Value) (osl:Array (Option Value)) (tc:Value) (td:Option Addr) (n:Nat) (tsl:Array (Option Value)),
  fd=fY x qual (kE st) (iP st) (aW st) (.ref T) kV doc pm an cdv ct∧K.lookup f=some ⟨oc,od, .func fd,osl⟩∧jK K cdv qual=true∧K.lookup T=some ⟨tc,td, .seq #[.none] n,tsl⟩
 kp:dE K (.ref f)=true
structure CalleeD (P:Program) (w:World) (K:aD) (mg:Str→Option Value) (base:Heap) (x:Str) (k n:Nat) (C:List D→R→Prop):Prop where
 ex:∃ (f:Addr) (fd:FuncData) (ps:List Str),mg x=some (.ref f)∧dE K (.ref f)=true∧Binds K fd ps []∧Binds K fd ps [.none]∧FnOk P w K mg base CX0 k f fd ps (spC K n C)
end
theorem u_of' {u d n c:Nat} (h:u+n<c) (hd:d+1≤n):u+d+1<c:=by omega
noncomputable def cP (p:Int × Int):List (List Int):=gZ (2^p.1.toNat) p.2.toNat
structure TabOk (p:Int × Int) (T:List (List Int)):Prop where
 len:T.length=(cP p).length
 fil:∀ws∈T,Fil p ws
theorem tups_at {V:List (List Int)} {k:Nat} (h:k<V.length):(V.map aQ)[k]? =some (aQ (V.getD k [])):=by simp [cC,h]
theorem uL {α:Type} {L:List α} {k:Nat} (d:α) (h:k<L.length):L.take (k+1)=L.take k++[L.getD k d]:=by rw [gO]; simp [cC,h]
section
variable {X:Cx} {sd:List Slot} {e a b c tg iter o:Expr} {es:List Expr} {pos:Pos} {r ra rb:R} {d:D} {ds:List D} {st:Stmt} {rest:List Stmt} {E:jU}
theorem op_notInD (d:D) (ds:List D) (p1:pl d=true) (p2:plL ds=true) (hu:X.A.units+1+jO ds<cLine):OpR X (compareOp .NotIn) (fun x y H Q=>Rep X.K H (.lst ds) y∧Rep X.K H d x∧Q (.bl (!ds.any fun z=>deq z d)) H):=by
 intro pins s σ H x y v u Q I rx ry h; obtain ⟨hl,hd,k⟩:=h; obtain ⟨a,xs,its,rfl,rfl,rl,rv,ht⟩:=jX I.hok hl ry
 have hat:∀ (j:Nat) (w:Value),its[j]? =some w→∃z v,ds[j]? =some z∧xs[j]? =some v∧Rep X.K H z v∧RelV v w:=fun j w hw=>by
  have hj:j<its.length:=(aH.mp hw).1; have hx:j<xs.length:=by rw [Vals.length rv]; exact hj
  have hd:j<ds.length:=by rw [← rl.len]; exact hx
  obtain ⟨v,hv,rz⟩:=rl.get (i:=j) (d:=ds[j]) (by simp [hd])
  exact ⟨ds[j],v,by simp [hd],hv,rz,by
   have:=rv.get hv; obtain ⟨w',hw',r⟩:=this; rw [hw] at hw'; cases hw'
   exact r⟩
 have dc:=fun w:Value=>Classical.propDecidable (∃ (j:Nat) (z:D),its[j]? =some w∧ds[j]? =some z∧deq z d=true)
 refine SeqAt.notIn_listAt (fun w=> @decide _ (dc w)) ht (fun w hw=> ?_) ⟨.bl _,H,I,rfl, ?_⟩
 ·by_cases q:∃ (j:Nat) (z:D),its[j]? =some w∧ds[j]? =some z∧deq z d=true
  ·obtain ⟨j,z,e1,e2,e3⟩:=q; obtain ⟨z',v,f1,f2,f3,f4⟩:=hat j w e1; rw [e2] at f1; cases f1; have: @decide _ (dc w)=true:=by rw [decide_eq_true_eq]; exact ⟨j,z,e1,e2,e3⟩
   rw [this,← e3]; exact zJ I.hok z (wB p2 e2) p1 f3 hd f4 rx (by have:=rL e2; show X.A.units+1+dep z<cLine; omega)
  ·have hw':w∈its:=by simpa using hw
   obtain ⟨j,hj,rfl⟩:=cN hw'; obtain ⟨z,v,f1,f2,f3,f4⟩:=hat j its[j] (by simp [hj])
   have e3:deq z d=false:=by
    cases h:deq z d with
    | false=>rfl
    | true=>exact (q ⟨j,z,by simp [hj],f1,h⟩).elim
   have: @decide _ (dc its[j])=false:=by rw [decide_eq_false_iff_not]; exact q
   rw [this,← e3]; exact zJ I.hok z (wB p2 f1) p1 f3 hd f4 rx (by have:=rL f1; show X.A.units+1+dep z<cLine; omega)
 ·have e:its.toArray.any (fun w=> @decide _ (dc w))=ds.any fun z=>deq z d:=by
   rw [dM,List.any_toArray,cX,cX]
   constructor
   ·rintro ⟨w,hw,q⟩; rw [decide_eq_true_eq] at q; obtain ⟨j,z,e1,e2,e3⟩:=q; exact ⟨z,aV e2,e3⟩
   ·rintro ⟨z,hz,e3⟩; obtain ⟨j,hj,rfl⟩:=cN hz; have hi:j<its.length:=by rw [← Vals.length rv,rl.len]; exact hj
    exact ⟨its[j],gX hi,by rw [decide_eq_true_eq]; exact ⟨j,ds[j],by simp [hi],by simp [hj],e3⟩⟩
  rw [e]; exact k
theorem wZ (ha:PEd X sd a (.val d)) (hb:PEd X sd b (.val (.lst ds))) (p1:pl d=true) (p2:plL ds=true) (hu:X.A.units+1+jO ds<cLine) (hk:behindInMarks .NotIn b=false:=by with_unfolding_all rfl):PTd X sd (.Compare a [.NotIn] [b] pos) (!ds.any fun z=>deq z d):=
 lQ (op_notInD d ds p1 p2 hu) ha hb trivial hk fun σ F H x u Q S q1 q2 k=>⟨Rep.mono S.sub q2,Rep.mono S.sub q1,k F H S (Same.refl _)⟩
end
theorem nat_at {τ:List Nat} {b:Nat} (h:b<τ.length):(cE τ)[b]? =some (.int ((τ.getD b 0:Nat):Int)):=by unfold cE; rw [aI]; simp [cC,h]
section
variable {X:Cx} {sd:List Slot} {b:Expr} {pos:Pos}
theorem qL {k:Nat} {q:Nat} {p:Pos} (hb:PEd X sd b (.val (.int (k:Int)))) (hk:k≤1000):PEd X sd (.BinOp (.Constant (.int 1) q p) .LShift b pos) (.val (.int ((2^k:Nat):Int))):=
 PEd.ic (cD op_shl aO hb ⟨by omega,by omega,by decide⟩) (by rw [Int.one_mul,fE]; push_cast; rfl)
end
noncomputable def byT (w:World):Bool:=w.params.followText "set-order"
noncomputable def insK (k:Nat) (ks:List Nat):List Nat:=ks.filter (fun i=>decide (i<k))++k::ks.filter (fun i=>decide (k<i))
noncomputable def tabR (led:Bool) (m mv:Nat) (ks:List Nat):SetTable:={mask:=m,place:=ks.toArray,dummies:= #[],finger:=0,led:=led,moves:=mv,plain:=true}
noncomputable def tabK (led:Bool) (ks:List Nat):SetTable:=if ks.length<5 then tabR led 7 0 ks else tabR led 31 1 ks
structure SmS (w:World) (o:Obj) (ks:List Nat):Prop where
 ex:∃ (es:List (Int × Value)) (ep:Nat),o={cls:= .type "set",dict:=none,data:= .set es.toArray ep (tabK (!byT w) ks)}∧es.map (·.1)=ks.map Int.ofNat∧∀e∈es,∃t,e.2= .int e.1 t
noncomputable def insAll:List Nat→List Nat→List Nat
 | ks,[]=>ks
 | ks,v::vs=>insAll (insK v ks) vs
section
variable {prog:Program} {w:World} {A:Around} {s:Shared}
noncomputable abbrev set0 (w:World):Obj:={cls:= .type "set",dict:=none,data:= .set #[] 0 (tabK (!byT w) [])}
end
noncomputable def rdQ (q:SQ):List Nat:=if q.1=6 then [] else if q.1=5 then [q.2.2.1.toNat] else if 7≤q.1 then [q.2.1.toNat] else insAll [] [q.2.1.toNat,q.2.2.1.toNat]
noncomputable def ahQ (q:SQ) (bs:List Nat):List Nat:=if bs.contains q.2.1.toNat then insAll [] (bs.filter (fun b=> !decide (b=q.2.1.toNat))++rdQ q) else bs
noncomputable def bqQ (L:List SK) (look:List Nat):List Nat→List Nat
 | []=>look
 | t::row=>ahQ (L.getD t default).1 (bqQ L look row)
noncomputable def prQ (L:List SK) (look:List Nat):List Nat→List Nat
 | []=>[]
 | t::row=>if (bqQ L look row).contains (L.getD t default).1.2.1.toNat then t::prQ L look row else prQ L look row
noncomputable def gV (K:aD) (F0:Hp) (d:D):V→Hp→Prop:=fun v F=>Rep K F0 d v∧Same F0 F
section
variable {K:aD} {H₀ F F' H H':Hp} {σ:St} {sd:List Slot} {i:Nat} {l:Addr} {ls:List Addr} {nss:List (List Int)}
noncomputable def inF (F H:Hp) (as:List Addr):Hp:=fun b=>if b∈as then H b else F b
theorem inF_in {as:List Addr} {b:Addr} (h:b∈as):inF F H as b=H b:=if_pos h
theorem vI {as:List Addr} {b:Addr} (h:b∉as):inF F H as b=F b:=if_neg h
theorem inF_sub {as:List Addr} (h:∀a∈as,F a=none):Same F (inF F H as):=fun b u e=>by rw [vI (fun hb=>by rw [h b hb] at e; cases e)]; exact e
theorem StF.inN (S:StF K H₀ F H σ sd) (h0:∀a∈l::ls,F a=none) (no:∀a∈l::ls,a∉cO sd):StF K H₀ (inF F H (l::ls)) H σ sd∧Same F (inF F H (l::ls)):=by
 have s1:=inF_sub (H:=H) h0; refine ⟨⟨fun b u e=>s1 _ _ (S.base _ _ e),fun b u e=> ?_,S.smp,S.slots.mono s1 fun a ha=>⟨?_,fun ob e=>e⟩,S.nd⟩,s1⟩
 ·by_cases h:b∈l::ls
  ·rw [inF_in h] at e; exact e
  ·rw [vI h] at e; exact S.sub _ _ e
 ·rw [vI (fun hb=>no a hb ha)]; exact (S.slots.owns ha).1
end
theorem natI (x:List Nat):cE x=(x.map fun (t:Nat)=>(t:Int)).map D.int:=by unfold cE; rw [aY]; rfl
noncomputable def InD (K:aD) (F H:Hp):List Addr→List (List D)→Prop
 | [],[]=>True
 | a::as,ds::dss=>(∃xs,H a=some (.lst xs)∧RepL K F ds xs)∧InD K F H as dss
 | _,_=>False
section
variable {K:aD} {F F' H H':Hp}
theorem InD.len:∀ {as:List Addr} {dss:List (List D)},InD K F H as dss→as.length=dss.length
 | [],[],_=>rfl
 | [],_::_,h=>h.elim
 | _::_,[],h=>h.elim
 | _::as,_::dss,h=>by rw [cR,cR,InD.len h.2]
end
noncomputable def GD (K:aD) (l:Addr) (ls:List Addr) (dss:List (List D)):V→Hp→Hp→Prop:=fun v F H=>v= .ref l∧H l=some (.lst (ls.map V.ref))∧InD K F H ls dss
section
variable {K:aD} {H₀ F F' H H':Hp} {σ:St} {sd:List Slot} {i:Nat} {l:Addr} {ls:List Addr} {dss:List (List D)}
theorem InD.mono2:∀ {as:List Addr} {dss:List (List D)},InD K F H as dss→Same F F'→(∀a∈as,∀ob,H a=some ob→H' a=some ob)→InD K F' H' as dss
 | [],[],_,_,_=>trivial
 | [],_::_,h,_,_=>h.elim
 | _::_,[],h,_,_=>h.elim
 | a::as,_::dss,h,s,k=>by obtain ⟨⟨xs,e,r⟩,h2⟩:=h; exact ⟨⟨xs,k a bB _ e,r.mono s⟩,InD.mono2 h2 s fun b hb=>k b (aU _ hb)⟩
theorem InD.get:∀ {as:List Addr} {dss:List (List D)} {t:Nat} {a:Addr},InD K F H as dss→as[t]? =some a→∃ds xs,dss[t]? =some ds∧H a=some (.lst xs)∧RepL K F ds xs
 | [],[],t,a,_,e=>by simp at e
 | [],_::_,_,_,h,_=>h.elim
 | _::_,[],_,_,h,_=>h.elim
 | b::as,ds::dss,0,a,h,e=>by
  have:b=a:=by simpa using e
  subst this; obtain ⟨⟨xs,e1,r⟩,_⟩:=h; exact ⟨ds,xs,rfl,e1,r⟩
 | b::as,ds::dss,t+1,a,h,e=>by obtain ⟨ms,xs,e1,e2⟩:=InD.get (t:=t) h.2 (by simpa using e); exact ⟨ms,xs,by simpa using e1,e2⟩
theorem InD.set:∀ {as:List Addr} {dss:List (List D)} {t:Nat} {a:Addr} {es:List D} {ys:List V},as.Nodup→InD K F H as dss→as[t]? =some a→RepL K F es ys→InD K F (upd H a (.lst ys)) as (dss.set t es)
 | [],[],t,a,_,_,_,_,e,_=>by simp at e
 | [],_::_,_,_,_,_,_,h,_,_=>h.elim
 | _::_,[],_,_,_,_,_,h,_,_=>h.elim
 | b::as,ds::dss,0,a,es,ys,nd,h,e,r=>by
  have:b=a:=by simpa using e
  subst this; refine ⟨⟨ys,bZ,r⟩,h.2.mono2 (Same.refl _) fun c hc ob q=> ?_⟩; rw [bM (show c≠b from fun z=>(bW.mp nd).1 (z▸hc))]; exact q
 | b::as,ds::dss,t+1,a,es,ys,nd,h,e,r=>by
  have e':as[t]? =some a:=by simpa using e
  obtain ⟨⟨xs,e1,r1⟩,h2⟩:=h; refine ⟨⟨xs, ?_,r1⟩,InD.set (bW.mp nd).2 h2 e' r⟩; rw [bM (show b≠a from fun z=>(bW.mp nd).1 (z▸aV e'))]; exact e1
end
theorem sI {α:Type} (f:α→D) (h:∀a,pl (f a)=true):∀l:List α,plL (l.map f)=true
 | []=>rfl
 | a::l=>by show (pl (f a) && plL (l.map f))=true; rw [h a,sI f h l]; rfl
theorem pS {α:Type} (f:α→D) (n:Nat) (h:∀a,dep (f a)≤n):∀l:List α,jO (l.map f)≤n
 | []=>cW _
 | a::l=>Nat.max_le.mpr ⟨h a,pS f n h l⟩
noncomputable def WsOk (p:Int × Int) (o:Option (List (List Int))):Prop:=∀L,o=some L→0<L.length∧L.length≤100∧∀ws∈L,Fil p ws
structure WishOk (p:Int × Int) (w:List (Option (List (List Int)))):Prop where
 len:w.length=(cP p).length
 ok:∀o∈w,WsOk p o
theorem any_tups (L:List (List Int)) (t:List Int):((L.map aQ).any fun z=>deq z (aQ t))=decide (t∈L):=by
 induction L with
 | nil=>simp
 | cons a L ih=>
  rw [bX,jY,ih,xT]
  by_cases h:t=a
  ·simp [h]
  ·have h2:¬ a=t:=fun q=>h q.symm
   simp [h,h2]
theorem sQ:∀a:List Nat,plL (cE a)=true∧jO (cE a)=0
 | []=>⟨rfl,rfl⟩
 | a::as=>by obtain ⟨h1,h2⟩:=sQ as; unfold cE at h1 h2 ⊢; simp only [bX,plL,jO,pl,dep,h1,h2]; exact ⟨rfl,rfl⟩
section
variable {X:Cx} {sd:List Slot} {e a b c:Expr} {pos:Pos} {ds:List D}
theorem uP (ds:List D) (k:Nat):DL.cutD ds none (some (k:Int))=ds.take k:=by
 unfold DL.cutD; rw [HT.sIx_nat,HT.sIx_none]
 by_cases h:k≤ds.length
 ·rw [Nat.min_eq_left h]; simp
 ·rw [Nat.min_eq_right (by omega),eW (show ds.length≤k by omega)]; simp
theorem tU (ds:List D) (k:Nat):DL.cutD ds (some (k:Int)) none=ds.drop k:=by
 unfold DL.cutD; rw [HT.sIx_nat,HT.sIx_none]
 by_cases q:k≤ds.length
 ·rw [Nat.min_eq_left q]; exact eW (by simp)
 ·rw [Nat.min_eq_right (by omega),yR (aZ _),yR (by omega)]; simp
end
structure TurnOk (n:Nat) (τ:List Nat):Prop where
 len:τ.length=n
 lt:∀b∈τ,b<n
 mem:∀b,b<n→b∈τ
 nd:τ.Nodup
structure SqN (n:Nat) (q:SQ):Prop where
 k10:q.1<10
 i0:0≤q.2.1∧q.2.1<n
 j0:0≤q.2.2.1∧q.2.2.1<n
noncomputable def exO (l:Addr) (o:Obj):HO:= .ext (fun h=>h.get? l=some o)
theorem yT {P:Program} {w:World} {H:Hp} {h:Heap} {l:Addr} {o:Obj} (g:h.get? l=some o):ObjOk P w H h l (exO l o):=⟨g,⟨o,g⟩,fun _ _ q k=>k _ q⟩
noncomputable def TDo (P:Program) (w:World) (F:Hp) (l:Addr) (o:Obj) (kvs:List (List Key × V)):Prop:=
 kvs.length≤sizeLine∧(l==sysModules)=false∧∃xs,KT F kvs xs∧∃es ep,o.ExactDict∧o.data= .dict es ep∧es.toList=xs.map (entryOfKey (tupleKind (fM P w)))∧(xs.map (·.1)).Nodup
noncomputable def kD:Key→D
 | .inl i=> .int i
 | .inr x=> .str x
theorem sZ {K:aD} {F:Hp}:∀ {k:List Key} {xs:List V},RepL K F (k.map kD) xs→xs=k.map kV
 | [],xs,r=>by simpa only [hG,RepL] using r
 | a::k,xs,r=>by
  rw [bX] at r; obtain ⟨y,ys,rfl,q,rl⟩:=r.uncons; rw [sZ rl,bX]; congr 1; cases a with
  | inl i=>simp only [kD,Rep] at q; exact q
  | inr x=>simp only [kD,Rep] at q; exact q
noncomputable def Gt (P:Program) (w:World) (K:aD) (l:Addr) (ks:List (List Key)) (ds:List D):V→Hp→Hp→Prop:=fun v F H=>v= .ref l∧∃o xs,H l=some (exO l o)∧(∀v,o.data≠ .cell v)∧RepL K F ds xs∧ks.length=ds.length∧TDo P w F l o (ks.zip xs)
theorem zipT_snoc {α β:Type} {xs:List α} {ys:List β} (h:xs.length=ys.length) (x:α) (y:β):(xs++[x]).zip (ys++[y])=xs.zip ys++[(x,y)]:=by rw [List.zip_append h]; rfl
theorem sG:∀ {sd:List Slot} {i:Nat} {z:Slot},(cO sd).Nodup→sd[i]? =some z→(jG z).Nodup
 | [],_,_,_,e=>by simp at e
 | y::zs,0,z,h,e=>by
  have:y=z:=by simpa using e
  subst this; exact (cI.mp (show (jG y++cO zs).Nodup from h)).1
 | y::zs,i+1,z,h,e=>sG (sd:=zs) (i:=i) (cI.mp (show (jG y++cO zs).Nodup from h)).2.1 (by simpa using e)
section
variable {K:aD} {H₀ F F' H H':Hp} {σ:St} {sd:List Slot} {i:Nat} {l:Addr} {P:Program} {w:World} {ks:List (List Key)} {ds:List D}
theorem StF.setT {as:List Addr} {G:V→Hp→Hp→Prop} {v:V} (S:StF K H₀ F H σ sd) (i:Nat) (q:kP K F H (.ox as G) (some v)) (nd:as.Nodup) (no:∀a∈as,a∉cO sd):StF K H₀ F H (σ.set i (some v)) (sd.set i (.ox as G)):=
 ⟨S.base,S.sub,S.smp,S.slots.set (z:= .ox as G) q i,(kI (z:= .ox as G) i S.nd (fun l e=> .inl (no l e)) nd).1⟩
theorem StF.reT {z z':Slot} {o:Option V} (S:StF K H₀ F H σ sd) (hs:sd[i]? =some z) (ho:σ[i]? =some o) (keep:∀b ob,b∉jG z→H b=some ob→H' b=some ob) (sm:Smp H') (q:kP K F H' z' o) (nd:(jG z').Nodup) (no:∀a∈jG z',a∈jG z∨a∉cO sd):StF K H₀ F H' σ (sd.set i z'):=by
 have S0:=S.le (iL sd i); have mz:∀a∈jG z,a∈cO sd:=fun a ha=>eG.mpr ⟨z,aV hs,ha⟩
 refine ⟨S.base,fun b u e=> ?_,sm, ?_, ?_⟩
 ·refine keep b u (fun hb=> ?_) (S.sub _ _ e); have:=(S.slots.owns (mz b hb)).1; rw [e] at this; cases this
 ·have q1:SlotsOk K F H' (sd.set i .un) σ:=S0.slots.mono (Same.refl _) fun a ha=>⟨(S0.slots.owns ha).1,fun ob e=>keep a ob (fun hb=>jQ S.nd hs hb ha) e⟩
  have q2:=q1.set (z:=z') (o:=o) q i; rw [kF,lH ho] at q2; exact q2
 ·have:=kI (z:=z') i S0.nd (fun a ha=>by
   rcases no a ha with h | h
   ·exact .inl (jQ S.nd hs h)
   ·exact .inl fun hm=>h ((iL sd i).own.subset hm)) nd
  rw [kF] at this; exact this.1
theorem yP {o:Obj} (h:Smp H) (a:Addr):Smp (upd H a (exO a o)):=fun b u e=>by
 by_cases z:b=a
 ·subst z; rw [bZ] at e; cases e; trivial
 ·rw [bM z] at e; exact h _ _ e
end
section
variable {X:Cx} {sd:List Slot} {e a b c:Expr} {pos:Pos} {d:D} {ds:List D} {ks:List (List Key)} {k:List Key} {st:Stmt} {E:jU} {l:Addr}
noncomputable def dict0:Obj:={cls:= .type "dict",data:= .dict #[]}
theorem pe_dnewE:PE X (.Dict [] [] pos) (fun _ H Q=>∀p,H p=none→(p==sysModules)=false→Q (.ref p) (upd H p (exO p dict0))):=fun pins s σ H Q I h=>wpAny_Dict_empty ⟨.ref s.heap.objs.size,_,I.laid (a:=s.heap.objs.size) (o:=exO s.heap.objs.size dict0) (t':=s.toks) (fun _ _ q=>aM _ q) (aZ _) (yT (bF _ rfl)),rfl,h _ (I.hok.fresh (aZ _)) (beq_eq_false_iff_ne.mpr (Ne.symm (cG I.big)))⟩
end
theorem slot_same {sd:List Slot} {i:Nat} {z:Slot} (h:sd[i]? =some z):sd.set i z=sd:=by obtain ⟨hi,e⟩:=aH.mp h; rw [← e,List.set_getElem_self]
section
variable {K:aD} {H₀ F F' H H':Hp} {σ:St} {sd:List Slot} {i:Nat} {l:Addr} {ls:List Addr} {dss:List (List D)} {P:Program} {w:World} {ks:List (List Key)}
theorem InD.snoc {a:Addr}:∀ {as:List Addr} {dss:List (List D)},InD K F H as dss→H a=some (.lst [])→InD K F H (as++[a]) (dss++[[]])
 | [],[],_,e=>⟨⟨[],e, .nil⟩,trivial⟩
 | [],_::_,h,_=>h.elim
 | _::_,[],h,_=>h.elim
 | _::_,_::_,h,e=>⟨h.1,InD.snoc h.2 e⟩
end
section
variable {X:Cx} {sd:List Slot} {e a b c tg iter o:Expr} {es:List Expr} {pos:Pos} {r ra rb:R} {d:D} {ds:List D} {st:Stmt} {rest:List Stmt} {E:jU}
noncomputable def nA (n:Nat) (lo hi k:Option Int):List Nat:=sliceRange (sliceBounds lo hi k n).1 (sliceBounds lo hi k n).2.1 (sliceBounds lo hi k n).2.2
noncomputable def kO {α:Type} (l:List α) (lo hi k:Option Int):List α:=(nA l.length lo hi k).filterMap (l[·]?)
theorem zM (n:Nat) (lo hi k:Option Int):(nA n lo hi k).length≤n:=by
 refine sliceRange_length_le _ _ _ _ (fun hc=> ?_) fun hc=> ?_<;>simp only [sliceBounds] at hc ⊢
 ·simp only [hc,if_true]
  constructor
  ·cases lo with
   | none=>simp
   | some i=>dsimp only; omega
  ·cases hi with
   | none=>simp
   | some i=>dsimp only; omega
 ·simp only [hc,if_false]
  constructor
  ·cases lo with
   | none=>simp
   | some i=>dsimp only; omega
  ·cases hi with
   | none=>simp
   | some i=>dsimp only; omega
theorem pickA_len {α:Type} (l:List α) (lo hi k:Option Int):(kO l lo hi k).length≤l.length:=cA (List.length_filterMap_le _ _) (zM _ _ _ _)
theorem pick_vals {xs:List V} {us:List Value} (r:Vals xs us) (lo hi k:Option Int):Vals (kO xs lo hi k) (kO us lo hi k):=by
 unfold kO; rw [r.length]; generalize nA us.length lo hi k=is
 induction is with
 | nil=>exact .nil
 | cons i is ih=>
  rw [gA,gA]; cases hx:xs[i]? with
  | none=>have hl:=wL.mp hx; rw [nJ (by rw [← r.length]; exact hl)]; exact ih
  | some x=>obtain ⟨u,hu,ru⟩:=r.get hx; rw [hu]; exact .cons ru ih
theorem pick_rep {K:aD} {H:Hp} {ds:List D} {xs:List V} (r:RepL K H ds xs) (lo hi k:Option Int):RepL K H (kO ds lo hi k) (kO xs lo hi k):=by
 unfold kO; rw [r.len]; generalize nA ds.length lo hi k=is
 induction is with
 | nil=>exact .nil
 | cons i is ih=>
  rw [gA,gA]; cases hx:ds[i]? with
  | none=>have hl:=wL.mp hx; rw [nJ (l:=xs) (by rw [r.len]; exact hl)]; exact ih
  | some x=>obtain ⟨u,hu,ru⟩:=r.get hx; rw [hu]; exact .cons ru ih
theorem xE (its:List Value) (lo hi k:Option Int):slicePick its.toArray lo hi k=(kO its lo hi k).toArray:=by unfold slicePick kO nA; rw [aK]; congr 1; refine congrFun (congrArg _ ?_) _; funext i; simp
theorem pe_slice3 {te:TE} {tl th ts:TO} {lo hi:Option Expr} {k:Expr} {p2:Pos} (he:PE X e te) (hl:PO X lo tl) (hu:PO X hi th) (hs:PO X (some k) ts):PE X (.Subscript e (.Slice lo hi (some k) p2) pos) (fun σ H Q=>te σ H fun x H1=>tl σ H1 fun l H2=>th σ H2 fun u H3=>ts σ H3 fun z H4=>∃a xs,x= .ref a∧SqL X.K H4 a xs∧z≠some 0∧∀p,H4 p=none→Q (.ref p) (upd H4 p (.lst (kO xs l u z)))):=by
 intro pins s σ H Q I h; refine Subscript_ (thn (he pins s σ H _ I h) fun v s1 ⟨x,H1,I1,r1,q1⟩=> ?_); refine wpAny_Slice (thn (hl pins s1 σ H1 _ I1 q1) fun vl s2 ⟨l,H2,I2,pl,q2⟩=>thn (hu pins s2 σ H2 _ I2 q2) fun vu s3 ⟨u,H3,I3,pu,q3⟩=>thn (hs pins s3 σ H3 _ I3 q3) fun vk s4 ⟨z,H4,I4,pk,q4⟩=> ?_); obtain ⟨a,xs,rfl,hx,hz0,q⟩:=q4; have I5:Inv X pins σ H4 {s4 with heap:=s4.heap.push {cls:= .type "slice",data:= .fields #[vl,vu,vk]}}:=I4.kept (t':=s4.toks) fun b ob q=>aM _ q
 cases r1; obtain ⟨its,r,ht,hz⟩:=I5.list hx; have hlen:=r.length
 have hg:wpAny (model X.prog X.w) X.A (getItem (.ref a) (.ref s4.heap.objs.size)) (EP X pins σ Q) X.xe {s4 with heap:=s4.heap.push {cls:= .type "slice",data:= .fields #[vl,vu,vk]}}:=by refine wpAny_getItem_list_slice ht.isList (Heap.IsSliceOf.new ..) pl pu pk hz0 ?_ (by rw [aK]<;>omega); rw [xE]; refine ⟨.ref _,_,I5.laid (t':=s4.toks) (o:= .lst (kO xs l u z)) (fun b ob q=>aM _ q) (aZ _) ?_,rfl,q _ (I5.hok.fresh (aZ _))⟩; exact ⟨cA (pickA_len xs l u z) hz,_,0,pick_vals r l u z,bF _ rfl⟩
 show wpAny (model X.prog X.w) X.A (subscriptTail e (.Slice lo hi (some k) p2) (.ref a) (.ref s4.heap.objs.size)) (EP X pins σ Q) X.xe {s4 with heap:=s4.heap.push {cls:= .type "slice",data:= .fields #[vl,vu,vk]}}; exact tail_any (ops:=[.ref a, .ref s4.heap.objs.size]) ht.isList.typeIs slot_list_getitem.lookup hg (by with_unfolding_all rfl)
theorem pd_slL3 {lo hi:Option Expr} {k:Expr} {ol oh ok:Option Int} {p2:Pos} (ha:PEd X sd a (.bor ds)) (hl:POd X sd lo ol) (hh:POd X sd hi oh) (hk:POd X sd (some k) ok) (h0:ok≠some 0):PEd X sd (.Subscript a (.Slice lo hi (some k) p2) pos) (.own (kO ds ol oh ok)):= .mk fun σ F H S=>by obtain ⟨tl,pl,kl⟩:=kC hl; obtain ⟨th,ph,kh⟩:=kC hh; obtain ⟨tk,pk,kk⟩:=kC hk; refine (pe_slice3 fH pl ph pk).to ((ha σ F H S).imp fun v H1 ⟨F1,S1,s1,q1⟩=>kl σ F1 H1 S1 _ fun F2 H2 S2 s2=>kh σ F2 H2 S2 _ fun F3 H3 S3 s3=>kk σ F3 H3 S3 _ fun F4 H4 S4 s4=> ?_); obtain ⟨l,xs,rfl,hl',rl,_⟩:=ResOk.keep (r:= .bor ds) trivial q1 S4 ((s2.trans s3).trans s4); refine ⟨l,xs,rfl, .of hl',h0,fun p hp=> ?_⟩; obtain ⟨S5,fp,no⟩:=S4.layO (xs:=kO xs ol oh ok) hp; exact ⟨F4,S5,((s1.trans s2).trans s3).trans s4,p,_,rfl,fp,bZ,pick_rep rl ol oh ok,no⟩
end
noncomputable def pT (p:Int × Int) (ws:List Int):Nat:=(qG (2^p.1.toNat) ws).toNat
theorem yX {p:Int × Int} (hp:p∈bS) {ws:List Int} (G:Fil p ws):qG (2^p.1.toNat) ws=(pT p ws:Int)∧pT p ws<(cP p).length∧(cP p).getD (pT p ws) []=ws:=by have h:=fil_ok (chk14 p hp); obtain ⟨a,b,c⟩:=fil_at h G.len G.wd; refine ⟨by unfold pT; omega, ?_,c⟩; show _<(gZ _ _).length; rw [h.len]; exact b
theorem num_at {p:Int × Int} (hp:p∈bS) {i:Nat} (hi:i<(cP p).length):pT p ((cP p).getD i [])=i:=by
 have h:=fil_ok (chk14 p hp); have hi':i<2^(p.1.toNat * p.2.toNat):=by rw [← h.len]; exact hi
 have:=(h.at_ i hi').2.2.1; unfold pT; show (qG (2^p.1.toNat) ((gZ (2^p.1.toNat) p.2.toNat).getD i [])).toNat=i; rw [this]; exact fE i
noncomputable def LtAt (A:Around) (s:Shared) (x y:Value) (b:Bool):Prop:=∀ (prog:Program) (w:World) (E:Value→Shared→Prop) (Q:Value→Shared→Prop),Q (.bool b) s→wpAny (model prog w) A (richCompare .Lt x y) Q E s
inductive LexV (A:Around) (s:Shared) (fin:Bool):List (Value × Value)→Bool→Prop
 | nil:LexV A s fin [] fin
 | eq {x y:Value} {r:List (Value × Value)} {b:Bool}:SeqAt.EqAt A.in1 s x y true→LexV A s fin r b→LexV A s fin ((x,y)::r) b
 | lt {x y:Value} {r:List (Value × Value)} {b:Bool}:SeqAt.EqAt A.in1 s x y false→LtAt A.in1 s x y b→LexV A s fin ((x,y)::r) b
section
open PySem.SeqAt
open PySem.AutoSeq1 (wpAny_loadPart')
open PySem.MeetsSeq PySem.MeetsSeq2 PySem.MeetsSeq3
end
mutual
noncomputable def dlt:D→D→Bool
 | .int a, .int b=>decide (a<b)
 | .tup a, .tup b=>dltL a b
 | _,_=>false
noncomputable def dltL:List D→List D→Bool
 | [],[]=>false
 | [],_::_=>true
 | _::_,[]=>false
 | d::ds,e::es=>if deq d e=true then dltL ds es else dlt d e
end
mutual
noncomputable def cmp2:D→D→Bool
 | .int _, .int _=>true
 | .tup a, .tup b=>cmpL a b
 | _,_=>false
noncomputable def cmpL:List D→List D→Bool
 | [],_=>true
 | _::_,[]=>true
 | d::ds,e::es=>cmp2 d e && cmpL ds es
end
section
variable {prog:Program} {w:World} {A:Around} {E:Value→Shared→Prop} {s:Shared}
open HT
end
theorem oK (a:List Nat):(cE a).length=a.length:=by unfold cE; rw [aB]
noncomputable def shp {α β:Type} (n:β) (g:α→β):List Bool→List α→List β
 | [],_=>[]
 | false::m,as=>n::shp n g m as
 | true::m,[]=>n::shp n g m []
 | true::m,a::as=>g a::shp n g m as
structure Exc (h0 h:Heap) (H:Hp) (a T:Addr) (cls:Value):Prop where
 free:H a=none
 new:h0.get? a=none
 freeT:H T=none
 newT:h0.get? T=none
 obj:∃oe vs oT ts a0,h.get? a=some oe∧(oe.cls=cls∧vs[0]? =some a0)∧oe.data= .fields vs∧vs[1]? =some (.ref T)∧T≠a∧h.get? T=some oT∧oT.data= .fields ts∧ts[3]? =some .none
noncomputable def CX1 (P:Program) (w:World) (cls:Value):CXT:=fun outer H s E e s'=>∃a T H',e= .ref a∧s'.os=s.os∧AllBare s'.gens∧Un (frs outer) [] H H' s.heap s'.heap∧HOk P w H' s'.heap∧Exc s.heap s'.heap H' a T cls∧E (.ref a) (some a) H'
end DL
namespace DL
open PySem PySem.Spec PySem.Calls PySem.W PyProof.Rows Builtin Builtin.Getset_descriptor Builtin.ObjectAttr
section
variable {prog:Program} {w:World} {A:Around} {E:Value→Shared→Prop} {h:Heap} {g:Array GenState} {d:Drawn} {t:Nat} {os:OsState} {a C:Addr} {K:Frag}
structure XCls (K:Frag) (C:Addr):Prop where
 ha:findIn K (.ref C) "__class__"=some (some (.builtin "object.__class__"))
 hm:mroIn K C (.type "object")=some true
 hs:subIn K (.ref C) (.type "BaseException")=some true
 hg:findIn K (.ref C) "__getattribute__"=some (some (.builtin "BaseException.__getattribute__"))
 hn:findIn K (.ref C) "__getattr__"=some none
 hc:(clsIn K C).isSome=true
end
end DL
namespace DL
open PySem PySem.Spec PyProof.Rows L2
noncomputable def bmVE:List Value:=[.type "ValueError", .type "Exception", .type "BaseException", .type "object"]
section
variable {X:Cx} {sd:List Slot} {e a b c:Expr} {es:List Expr} {pos:Pos} {d:D} {ds:List D} {E:jU}
structure PEx (X:Cx) (sd:List Slot) (e:Expr):Prop where
 run:∀ (σ:St) (F H:Hp),StF X.K X.B₀ F H σ sd→wE X e σ H (fun _ _=>False)
noncomputable def spX (K:aD) (n:Nat) (C:List D→Prop):Sp:=fun vs H _ E=>vs.length=n∧Smp H∧∃ds,RepL K H ds vs∧C ds∧∀a H',Same H H'→Smp H'→E (.ref a) (some a) H'
structure CalleeX (P:Program) (w:World) (K:aD) (mg:Str→Option Value) (base:Heap) (x:Str) (k n:Nat) (C:List D→Prop) (cls:Value) (dvs:List V) (dws:List Value):Prop where
 ex:∃ (f:Addr) (fd:FuncData) (ps:List Str),mg x=some (.ref f)∧dE K (.ref f)=true∧Binds K fd ps dws∧Vals dvs dws∧FnOk P w K mg base (CX1 P w cls) k f fd ps (spX K n C)
end
section
variable {X:Cx} {pins:List (Addr × Obj)} {σ:St} {F H:Hp} {s:Shared} {sd:List Slot} {a T:Addr} {cls:Value} {M:Model} {A:Around} {Ex:Value→Shared→Prop}
structure Held (X:Cx) (pins:List (Addr × Obj)) (σ:St) (H:Hp) (s:Shared) (a T:Addr) (cls fl:Value):Prop where
 inv:Inv X pins σ H s
 fa:H a=none∧X.s₀.heap.get? a=none∧∀p∈X.pn++pins,p.1≠a
 fT:H T=none∧X.s₀.heap.get? T=none∧∀p∈X.pn++pins,p.1≠T
 obj:∃oe vs oT ts a0,s.heap.get? a=some oe∧(oe.cls=cls∧vs[0]? =some a0)∧oe.data= .fields vs∧vs[1]? =some (.ref T)∧T≠a∧s.heap.get? T=some oT∧oT.data= .fields ts∧ts[3]? =some fl
end
section
variable {X:Cx} {sd:List Slot} {e a b c:Expr} {es:List Expr} {pos:Pos} {d:D} {ds:List D} {E:jU}
noncomputable def spS (K:aD) (n:Nat) (G:V→Hp→Prop) (C:List D→Prop):Sp:=fun vs H _ E=>vs.length=n∧Smp H∧∃v us ds,vs=v::us∧G v H∧RepL K H ds us∧C ds∧∀a H',Same H H'→Smp H'→E (.ref a) (some a) H'
structure CalleeS (P:Program) (w:World) (K:aD) (mg:Str→Option Value) (base:Heap) (x:Str) (k n:Nat) (G:V→Hp→Prop) (C:List D→Prop) (cls:Value):Prop where
 ex:∃ (f:Addr) (fd:FuncData) (ps:List Str),mg x=some (.ref f)∧dE K (.ref f)=true∧Binds K fd ps []∧FnOk P w K mg base (CX1 P w cls) k f fd ps (spS K n G C)
structure PSh (X:Cx) (sd:List Slot) (e:Expr) (G:V→Hp→Prop):Prop where
 run:∀ (σ:St) (F H:Hp),StF X.K X.B₀ F H σ sd→wE X e σ H fun v H'=>∃F',StF X.K X.B₀ F' H' σ sd∧Same F F'∧G v F'
end
section
variable {X:Cx} {pins:List (Addr × Obj)} {σ:St} {F H:Hp} {s s':Shared} {sd:List Slot} {cls:Value} {e tg iter:Expr} {es:List Expr} {pos:Pos} {ds:List D} {Old:Addr→Prop} {E:jU}
structure ExcO (Old:Addr→Prop) (h:Heap) (H:Hp) (a T:Addr) (cls:Value):Prop where
 free:H a=none
 new:¬ Old a
 freeT:H T=none
 newT:¬ Old T
 obj:∃oe vs oT ts a0,h.get? a=some oe∧(oe.cls=cls∧vs[0]? =some a0)∧oe.data= .fields vs∧vs[1]? =some (.ref T)∧T≠a∧h.get? T=some oT∧oT.data= .fields ts∧ts[3]? =some .none
noncomputable def Ent (X:Cx):Addr→Prop:=fun b=>∃o,X.s₀.heap.get? b=some o
end
section
variable {X:Cx}
noncomputable def rSI:V→List V→Hp→VK→Prop:=fun x vs H Q=>∃ (l:Addr) (k:Key) (y:V) (kvs:List (Key × V)),x= .ref l∧vs=[kV k,y]∧H l=some (.dK kvs)∧kvs.length+1≤sizeLine∧(∀z,gH kvs k=some z→Q z H)∧(gH kvs k=none→Q y (upd H l (.dK (kvs++[(k,y)]))))
theorem mt_sdI:MtR X "dict.setdefault" rSI:=by
 intro pins s σ H x vs v us Q I rx rv h; obtain ⟨l,k,y,kvs,rfl,rfl,hl,hz,q1,q2⟩:=h; obtain rfl:v=Value.ref l:=rx; cases rv with
 | cons r1 rv=>
  obtain ⟨u,rfl,ru⟩:=Vals.one rv; obtain ⟨z,hd,vs,rel,dd⟩:=dk_of I.hok hl; refine call_meetsIn qK dd.typeIs PySem.F.entry_dict_setdefault (PySem.F.args_dict_setdefault_3 _ _ _) (kt_meets_setdefault (fM X.prog X.w) l (kV_is r1) hd u) ⟨vs,dd,by rw [← rel.length]; exact z,fun w' hw=> ?_,fun hn h' dd' hsm=> ?_⟩
  ·have rl:=rel.val k; rw [hw] at rl; cases hv:gH kvs k with
   | none=>rw [hv] at rl; cases rl
   | some z'=>rw [hv] at rl; exact ⟨z',H,I.tok _,rl,q1 z' hv⟩
  ·have hn':gH kvs k=none:=by
    have rl:=rel.val k; rw [hn] at rl; cases hv:gH kvs k with
    | none=>rfl
    | some z'=>rw [hv] at rl; cases rl
   have rp:=rel.put k ru; rw [wQ y hn'] at rp; have he:∃q,h'.get? l=some q:=let ⟨q,_,_,hq,_⟩:=dd'; ⟨q,hq⟩
   exact ⟨y,_,qS (t':=s.toks+1) I (ob:= .dK (kvs++[(k,y)])) (by rw [hl]; exact True.intro) hsm he (dk_new (by rw [aN]; exact hz) hd rp dd'),ru,q2 hn'⟩
end
noncomputable def GI (K:aD) (l:Addr) (ks:List Key) (ls:List Addr) (dss:List (List D)):V→Hp→Hp→Prop:=fun v F H=>v= .ref l∧H l=some (.dK (ks.zip (ls.map V.ref)))∧ks.length=ls.length∧InD K F H ls dss
section
variable {K:aD} {H₀ F F' H H':Hp} {σ:St} {sd:List Slot} {i:Nat} {l:Addr} {ks:List Key} {ls:List Addr} {dss:List (List D)}
theorem oD {o:HO} (h:Smp H) (a:Addr) (z:SmpO o):Smp (upd H a o):=fun b u e=>by
 by_cases q:b=a
 ·subst q; rw [bZ] at e; cases e; exact z
 ·rw [bM q] at e; exact h _ _ e
end
noncomputable def GW (K:aD) (m:List Bool) (l0 l:Addr) (ls:List Addr) (dss:List (List D)):V→Hp→Hp→Prop:=fun v F H=>v= .ref l0∧H l0=some (.lst [.ref l, .int 0])∧H l=some (.lst (shp V.non V.ref m ls))∧InD K F H ls dss
noncomputable abbrev Wnt:=List (Option Int)
noncomputable abbrev Exs:=List (List Int × Wnt)
structure EOk (p:Int × Int) (E:Exs):Prop where
 fil:∀x∈E,x.1∈cP p
 len:∀x∈E,x.2.length=p.2.toNat
 wd:∀x∈E,∀b w,x.2.getD b none=some w→0≤w∧w<((2^p.1.toNat:Nat):Int)
structure GOk (n:Nat) (E:Exs) (t:Nat) (G:List (List Int) × List Wnt):Prop where
 nd:G.1.Nodup
 ln:G.1.length=G.2.length
 mem:∀f,f∈G.1↔∃i,i<t∧(E.getD i ([],[])).1=f
 wl:∀u∈G.2,u.length=n
 has:∀i,i<t→∀b w,b<n→(E.getD i ([],[])).2.getD b none=some w→(G.2.getD (G.1.idxOf (E.getD i ([],[])).1) []).getD b none=some w
 from_:∀f∈G.1,∀b w,b<n→(G.2.getD (G.1.idxOf f) []).getD b none=some w→∃i,i<t∧(E.getD i ([],[])).1=f∧(E.getD i ([],[])).2.getD b none=some w
structure Xk34 (K:aD) (mg:Str→Option Value) (CN:Addr):Prop where
 xc:XCls K CN
 ex:PySem.W.excIn K CN bmVE "ValueError.__new__"=true
 le:∃C:Addr,mg "LeastError"=some (.ref C)∧PySem.W.exmOne K (.ref CN) (.ref C)=some true
 nw:mg "NoWish"=some (.ref CN)∧eT K (.ref CN) (.ref CN)=some true
 ve:mg "ValueError"=none∧eT K (.ref CN) (.type "ValueError")=some true
 nc:∃C:Addr,mg "NoChange"=some (.ref C)∧eT K (.ref CN) (.ref C)=some false
 nt:∃C:Addr,mg "NoText"=some (.ref C)∧eT K (.ref CN) (.ref C)=some false
 nd:∃C:Addr,mg "NoWindow"=some (.ref C)∧eT K (.ref CN) (.ref C)=some false
 tg:∃C:Addr,mg "TooGreat"=some (.ref C)∧eT K (.ref CN) (.ref C)=some false
structure DOk (L:List (Nat × Int)) (T:List Nat × List (List Int)):Prop where
 nd:T.1.Nodup
 ln:T.1.length=T.2.length
 mem:∀b,b∈T.1↔∃w,(b,w)∈L
 val:∀b∈T.1,∀w,w∈T.2.getD (T.1.idxOf b) []↔(b,w)∈L
 le:T.2.length≤L.length∧∀l∈T.2,l.length≤L.length
theorem yL {bs:List Bool} {its:List Value} {i:Nat} {v:Value} (r:Vals (bs.map V.bl) its) (h:its[i]? =some v):∃b,bs[i]? =some b∧v= .bool b:=by
 have hi:i<its.length:=(aH.mp h).1; have hl:=r.length; rw [aB] at hl; have hb:i<bs.length:=by omega
 obtain ⟨u,h1,h2⟩:=r.get (i:=i) (x:= .bl bs[i]) (by simp [hb]); rw [h] at h1; cases h1; exact ⟨bs[i],by simp [hb],h2⟩
theorem zX (bs:List Bool):((bJ bs.length).all fun i=>(bs[i]?).getD true)=bs.all id:=by
 apply dM.mpr; simp only [bD,bY,id_eq]
 constructor
 ·intro h b hb; obtain ⟨i,hi,rfl⟩:=cN hb; have:=h i hi; simpa [hi] using this
 ·intro h i hi; have:=h bs[i] (gX hi); simpa [hi] using this
section
variable {X:Cx} {sd:List Slot} {e a b c:Expr} {pos:Pos} {ds:List D}
theorem call_allB (hc:X.calm=true):mO X (.builtin "all") (fun xs H Q=>∃ (a:Addr) (bs:List Bool),xs=[.ref a]∧SqL X.K H a (bs.map V.bl)∧Q (.bl (bs.all id)) H):=by
 intro pins s σ H xs us Q I r h; obtain ⟨a,bs,rfl,ha,q⟩:=h; obtain ⟨u,rfl,ru⟩:=pZ r; cases ru; obtain ⟨its,rv,p,hz⟩:=I.list ha; have hl:=rv.length; rw [aB] at hl; have isl:s.heap.IsList a its.toArray:=p.isList; have alt:a<s.heap.objs.size:=by obtain ⟨o,ho,_⟩:=isl; exact bA ho
 refine call_all_walk (wpAny_pyIter_list isl ?_); refine ⟨s.heap.objs.size,[s.heap.objs.size,a],[s.heap.objs.size],its.toArray.size,_,_,fun i=>(bs[i]?).getD true,rfl,Walks.list (A:=X.A.in1) (I.ok.hd hc) _ a (cG alt) its.toArray,⟨⟨_,bF _ rfl,rfl,rfl⟩,isl.push _⟩,fun i v s' Q' E' hP hQ=> ?_,fun h' tk hk=> ?_⟩
 ·obtain ⟨b,e,rfl⟩:=yL rv (by simpa using hP); simp only [e,Option.getD_some] at hQ; exact wpAny_truthy_bool hQ
 ·have e:((bJ its.toArray.size).all fun i=>(bs[i]?).getD true)=bs.all id:=by rw [aK,← hl]; exact zX bs
  rw [e]
  exact ⟨.bl (bs.all id),H,I.kept (t':=tk) fun b o g=>hk b o (fun z=>by
   have z:b=s.heap.objs.size:=by simpa using z
   exact absurd (bA g) (by rw [z]; exact gT _)) (aM _ g),rfl,q⟩
theorem RepL.bls {K:aD} {H:Hp}:∀ {bs:List Bool} {xs:List V},RepL K H (bs.map D.bl) xs→xs=bs.map V.bl
 | [],xs,r=>by simpa only [hG,RepL] using r
 | n::ns,xs,r=>by rw [bX] at r; obtain ⟨y,ys,rfl,a,rl⟩:=r.uncons; simp only [Rep] at a; rw [a,RepL.bls rl]; rfl
theorem pd_allL {p:Pos} {bs:List Bool} (hg:Gl X "all") (hm:X.mg "all"=none) (ha:PEd X sd e (.bor (bs.map D.bl))) (hc:X.calm=true:=by rfl) (hst:starEach [e] X.env=(false,eval e X.env)::starEach [] X.env:=by rfl):PEd X sd (.Call (.Name "all" p) [e] [] pos) (.val (.bl (bs.all id))):=
 lJ (he:=hst) (call_allB hc) hg hm boot_all (aC ha aG trivial hst) fun σ F H vs Q S q k=>by
  cases q with
  | cons q1 q2=>cases q2; obtain ⟨p,xs,rfl,hp,rl,_⟩:=q1; exact ⟨p,bs,rfl, .of (by rw [← rl.bls]; exact hp),k _ F H S (Same.refl _) (by simp only [ResOk,Rep])⟩
end
noncomputable abbrev Ch:=Nat × Nat × List Nat
noncomputable def wcQ (row:List Nat) (c:Ch):List Nat:=row.take c.1++c.2.2++row.drop (c.1+c.2.1)
noncomputable def prcI (L:List SK) (row:List Nat):Int:=sumI (tN L row)
noncomputable def endQ (p:Int × Int) (L:List SK) (row:List Nat) (o:Option (List Nat)):List (List Int):=(cP p).map fun ws=>match o with
 | none=>rowQ p L row ws
 | some l=>l.map fun j=>(rowQ p L row ws).getD j 0
noncomputable def winB (row:List Nat) (c:Ch):Bool:=decide (1≤c.2.1∧c.1+c.2.1≤row.length)
noncomputable def hoQ (p:Int × Int) (L:List SK) (row:List Nat) (c:Ch) (o:Option (List Nat)):Bool:=winB row c && (decide (prcI L c.2.2<prcI L ((row.drop c.1).take c.2.1)) && decide (endQ p L (wcQ row c) o=endQ p L row o))
noncomputable def iG (L:List SK) (row:List Nat):Prop:=∀t∈row,t<L.length
structure Chn (p:Int × Int) (L:List SK) (o:Option (List Nat)) (row:List Nat) (cs:List Ch) (rs:List (List Nat)):Prop where
 len:rs.length=cs.length+1
 hd:rs.getD 0 []=row
 st:∀i,i<cs.length→hoQ p L (rs.getD i []) (cs.getD i (0,0,[])) o=true∧rs.getD (i+1) []=wcQ (rs.getD i []) (cs.getD i (0,0,[]))
 ok:∀r∈rs,iG L r∧r.length≤8+9 * cs.length
 pc:∀c∈cs,iG L c.2.2∧c.2.2.length≤9
theorem byKey {G K:Prop} (h:K→G) (k:K):G:=h k
section
variable {prog:Program} {w:World} {κ:Type} [DecidableEq κ] (knd:KeyKind prog w κ)
noncomputable def Row2 (h:Heap) (ks:List (List κ)) (vs:List Value):Prop:=ks.length=vs.length∧∀ (n:Nat) (k:List κ),ks[n]? =some k→∃b,vs[n]? =some (.ref b)∧(tupleKind knd).is h k b
noncomputable def IsT2 (h:Heap) (ks:List (List κ)) (a:Addr):Prop:=∃ (o:Obj) (vs:Array Value) (c:Nat),h.get? a=some o∧o.cls= .type "tuple"∧o.data= .seq vs c∧Row2 knd h ks vs.toList
variable {knd}
theorem Row2.inj {h:Heap} {x y:List (List κ)} {vs:List Value} (p:Row2 knd h x vs) (q:Row2 knd h y vs):x=y:=by
 refine jW (p.1.trans q.1.symm) fun n n1 n2=> ?_
 obtain ⟨b,e1,t1⟩:=p.2 n _ (lU n1); obtain ⟨c,e2,t2⟩:=q.2 n _ (lU n2); rw [e1] at e2; cases e2; exact (tupleKind knd).inj t1 t2
theorem IsT2.ty {s:Shared} {ks:List (List κ)} {a:Addr}:IsT2 knd s.heap ks a→s.TypeIs (.ref a) "tuple"
 | ⟨o,_,_,g,c,_⟩=>⟨o,g,c⟩
theorem IsT2.one {h:Heap} {a:Addr} {x y:List (List κ)} (p:IsT2 knd h x a) (q:IsT2 knd h y a):x=y:=by obtain ⟨o,vs,c,g,_,d,r⟩:=p; obtain ⟨o2,vs2,c2,g2,_,d2,r2⟩:=q; cases g.symm.trans g2; cases d.symm.trans d2; exact r.inj r2
theorem IsT2.stay {h h':Heap} {ks:List (List κ)} {a d:Addr} {o:Obj} {es ep} (p:IsT2 knd h ks a) (g:h.get? d=some o) (e:o.data= .dict es ep) (sb:Heap.SameBut d h h'):IsT2 knd h' ks a:=by
 obtain ⟨o2,vs,c,g2,t,e2,r⟩:=p
 have ne:a≠d:=fun z=>by subst z; cases g.symm.trans g2; cases e.symm.trans e2
 exact ⟨o2,vs,c,(sb.2 a ne).trans g2,t,e2,r.1,fun n k hk=>let ⟨b,q1,q2⟩:=r.2 n k hk; ⟨b,q1,(tupleKind knd).keeps q2 g e sb⟩⟩
theorem Row2.step {h:Heap} {ks:List (List κ)} {vs:List Value} {v:Value} (p:Row2 knd h ks (v::vs)):∃k ks' b,ks=k::ks'∧v= .ref b∧(tupleKind knd).is h k b∧Row2 knd h ks' vs:=by
 cases ks with
 | nil=>cases p.1
 | cons k ks'=>obtain ⟨b,q1,q2⟩:=p.2 0 k rfl; cases q1; exact ⟨k,ks',b,rfl,rfl,q2,Nat.succ.inj p.1,fun n k' hk=>p.2 (n+1) k' hk⟩
theorem Row2.none {h:Heap} {ks:List (List κ)} (p:Row2 knd h ks []):ks=[]:=fV p.1
noncomputable def hash2 (knd:KeyKind prog w κ) (ks:List (List κ)):Int:=reduceHash (Builtin.Tuple.tupleHashOf (ks.map (tupleKind knd).hash))
noncomputable def mD:List (List κ)→Nat
 | []=>0
 | k::ks=>k.length+1+mD ks
variable {A:Around} {E:Value→Shared→Prop} {s:Shared}
theorem hash2_run {ks:List (List κ)} {a:Addr} {Q:Int→Shared→Prop} (hu:A.units+1<cLine) (p:IsT2 knd s.heap ks a) (q:Q (hash2 knd ks) {s with toks:=s.toks+(mD ks+1)}):wpAny (model prog w) A (PySem.pyHash (.ref a)) Q E s:=by
 have ty:=p.ty; obtain ⟨o,vs,c,g,_,e,r⟩:=p; unfold PySem.pyHash pyHashByItsType; refine wpAny_bind (wpAny_cRoomFor_or (.inr (Nat.lt_of_succ_lt hu)) (wpAny_bind (wpAny_specialOf ty F.slot_tuple_hash.lookup ?_))); refine wpAny_ite_split (fun z=>absurd z (by rw [beq_builtin_none]; exact bP)) fun _=> ?_
 refine wpAny_bind (wpAny_specialOf ty F.slot_tuple_hash.lookup (wpAny_bind (wpAny_callSpecialIfBoundUnlessNone?_slot ty F.slot_tuple_hash (wpAny_call_entry F.slot_tuple_hash ty F.entry_tuple_hash ?_ (F.args_tuple_hash_1 _))))); refine wpAny_bind (m:=Builtin.Tuple.tupleItemsOf (.ref a)) (wpAny_tupleItemsOf g e (wpAny_bind ?_)); rw [← pA]; refine wpAny_forIn_list _ (fun rest (acc:Array Int) st=>∃todo,Row2 knd s.heap todo rest∧acc.toList++todo.map (tupleKind knd).hash=ks.map (tupleKind knd).hash∧st={s with toks:=st.toks}∧st.toks+mD todo=s.toks+mD ks) _ (fun v rest acc st h=> ?_) (fun acc st h=> ?_) _ _ ⟨ks,r,rfl,rfl,rfl⟩
 ·obtain ⟨todo,r1,e1,e2,e3⟩:=h; obtain ⟨k,ks',b,rfl,rfl,t,r2⟩:=r1.step; rw [e2]; refine wpAny_bind ((tupleKind knd).pyHash (k:=k) (show _<cLine from ?_) t ?_)
  ·exact hu
  ·have nx:∃todo,Row2 knd s.heap todo rest∧(acc.push ((tupleKind knd).hash k)).toList++todo.map (tupleKind knd).hash=ks.map (tupleKind knd).hash∧({s with toks:=st.toks+(k.length+1)}:Shared)={s with toks:=st.toks+(k.length+1)}∧st.toks+(k.length+1)+mD todo=s.toks+mD ks:=⟨ks',r2,by rw [← e1]; simp,rfl,by rw [← e3]; show _=_+(_+_); omega⟩
   first | exact wpAny_pure nx | exact wpAny_bind (wpAny_pure (wpAny_pure nx))
 ·obtain ⟨todo,r1,e1,e2,e3⟩:=h; cases r1.none; rw [hG,gL] at e1; rw [e2]
  have tk:st.toks+1=s.toks+(mD ks+1):=by have:st.toks+0=s.toks+mD ks:=e3; omega
  show wpAny _ _ (retInt (Builtin.Tuple.tupleHashOf acc.toList)) _ _ _; rw [e1]; unfold hash2 reduceHash at q; rw [← tk] at q; refine wpAny_ret_mkInt ?_; refine wpAny_ite_split (fun z=>wpAny_pure ?_) fun z=>wpAny_bind (wpAny_rule (wpAny_pure ?_))
  ·rw [if_pos z] at q; exact q
  ·rw [if_neg z] at q; exact q
theorem eq2_run {x y:List (List κ)} {a b:Addr} {R:Fin→Shared→Prop} (hu:A.units<cLine) (p:IsT2 knd s.heap x a) (q:IsT2 knd s.heap y b) (h:R (.done (.ret (.bool (decide (x=y))))) s):wpAny (model prog w) A (Builtin.«tuple.__eq__» ⟨[.ref a, .ref b],[]⟩) R E s:=by
 have ty:=q.ty; obtain ⟨oa,us,_,ga,_,ea,ra⟩:=p; obtain ⟨ob,vs,_,gb,_,eb,rb⟩:=q; refine wpAny_bind (m:=isInstance (.ref b) (.type "tuple")) (wpAny_isInstance ty isSubtype_tuple_tuple ?_); rw [if_neg (by decide)]; refine wpAny_bind (wpAny_tupleItemsOf ga ea (wpAny_bind (wpAny_tupleItemsOf gb eb (wpAny_bind ?_)))); have lu:us.size=x.length:=by rw [ra.1,fX]
 have lv:vs.size=y.length:=by rw [rb.1,fX]
 refine wpAny_forIn_list _ (fun rest acc st=>acc.1=none∧st=s∧∃xs ys us' vs',rest=us'.zip vs'∧Row2 knd s.heap xs us'∧Row2 knd s.heap ys vs'∧(x=y↔xs=ys)∧(x.length=y.length↔xs.length=ys.length)) _ (fun v rest acc st i=> ?_) (fun acc st i=> ?_) _ _ ⟨rfl,rfl,x,y,us.toList,vs.toList,rfl,ra,rb,Iff.rfl,Iff.rfl⟩
 ·obtain ⟨_,rfl,xs,ys,us',vs',z,r1,r2,i1,i2⟩:=i; cases us' with
  | nil=>simp at z
  | cons u us'=>
   cases vs' with
   | nil=>simp at z
   | cons v' vs'=>
    obtain ⟨k,xs',c,rfl,rfl,t1,r1⟩:=r1.step; obtain ⟨j,ys',c',rfl,rfl,t2,r2⟩:=r2.step; rw [hJ] at z; cases z; refine wpAny_bind ((tupleKind knd).eqBool (x:=k) (y:=j) hu t1 t2 ?_)
    by_cases e:k=j
    ·rw [decide_eq_true e,if_neg (by decide)]; exact wpAny_pure ⟨rfl,rfl,xs',ys',us',vs',rfl,r1,r2,i1.trans ⟨fun z=>(List.cons.inj z).2,fun z=>by rw [e,z]⟩,i2.trans ⟨Nat.succ.inj,congrArg _⟩⟩
    ·rw [decide_eq_false e,if_pos (by decide)]; rw [decide_eq_false (fun z=>e (List.cons.inj (i1.mp z)).1)] at h; exact wpAny_bind (wpAny_pure (wpAny_pure (wpAny_pure h)))
 ·obtain ⟨n0,rfl,xs,ys,us',vs',z,r1,r2,i1,i2⟩:=i; obtain ⟨a1,a2⟩:=acc; cases n0
  have fin:(us.size==vs.size)=decide (x=y):=by
   rw [lu,lv]
   by_cases e:x.length=y.length
   ·have l2:=i2.mp e
    have:xs=ys:=by
     cases us' with
     | nil=>cases r1.none; exact (fV l2.symm).symm
     | cons u us'=>
      cases vs' with
      | nil=>cases r2.none; exact fV l2
      | cons v vs'=>cases z
    rw [decide_eq_true (i1.mpr this),e]; exact beq_self_eq_true _
   ·rw [decide_eq_false fun z=>e (congrArg _ z)]; exact beq_eq_false_iff_ne.mpr e
  rw [← fin] at h; exact wpAny_pure h
theorem eqB2_run {x y:List (List κ)} {a b:Addr} {Q:Bool→Shared→Prop} (hu:A.units+1<cLine) (p:IsT2 knd s.heap x a) (q:IsT2 knd s.heap y b) (h:Q (decide (x=y)) s):wpAny (model prog w) A (PySem.eqBool (.ref a) (.ref b)) Q E s:=by
 unfold PySem.eqBool
 try with_reducible refine wpAny_holding ?_
 refine wpAny_ite_split (fun z=> ?_) fun _=>wpAny_bind (wpAny_richCompare_same_room (op:= .Eq) p.ty q.ty F.slot_tuple_eq (wpAny_call_entry F.slot_tuple_eq p.ty F.entry_tuple_eq (eq2_run (show _<cLine from hu) p q ⟨_,rfl,(fun e=>nomatch e),wpAny_truthy_bool h⟩) (F.args_tuple_eq_2 _ _)) (Nat.lt_of_succ_lt hu))
 cases eq_of_beq z; cases p.one q; rw [decide_eq_true rfl] at h; exact wpAny_bind (wpAny_rule (wpAny_pure h))
theorem quiet1_run (m:Nat) {k:List κ} {a:Addr} {Q:Bool→Shared→Prop} (p:(tupleKind knd).is s.heap k a) (h:Q true s):wpAny (model prog w) A (eqIsQuiet (m+1) (.ref a)) Q E s:=by
 have ty:=IsTupleKey.typeIs p; obtain ⟨o,vs,c,g,_,e,r⟩:=p; have bv:=r.byValue; unfold eqIsQuiet; refine wpAny_bind (wpAny_specialOf ty F.slot_tuple_eq.lookup (wpAny_bind (m:=isInstance (.ref a) (.type "tuple")) (wpAny_isInstance ty isSubtype_tuple_tuple ?_))); rw [if_neg (by decide)]; refine wpAny_bind (wpAny_seqItems g e (wpAny_bind (m:=forIn vs _ _) ?_)); rw [← pA]; refine wpAny_forIn_list _ (fun rest acc st=>acc.1=none∧st=s∧∀v∈rest,carriedByValue v=true) _ (fun v rest acc st i=> ?_) (fun acc st i=> ?_) _ _ ⟨rfl,rfl,bv⟩
 ·obtain ⟨_,rfl,i⟩:=i; rw [eqIsQuiet_byValue _ (i v bB)]; refine wpAny_bind (wpAny_pure ?_); rw [if_neg (by decide)]; exact wpAny_pure ⟨rfl,rfl,fun u hu=>i u (aU _ hu)⟩
 ·obtain ⟨n0,rfl,_⟩:=i; obtain ⟨a1,a2⟩:=acc; cases n0; exact wpAny_pure h
theorem zZ {ks:List (List κ)} {a:Addr} {Q:Bool→Shared→Prop} (p:IsT2 knd s.heap ks a) (h:Q true s):wpAny (model prog w) A (eqIsQuiet 8 (.ref a)) Q E s:=by
 have ty:=p.ty; obtain ⟨o,vs,c,g,_,e,r⟩:=p; unfold eqIsQuiet; refine wpAny_bind (wpAny_specialOf ty F.slot_tuple_eq.lookup (wpAny_bind (m:=isInstance (.ref a) (.type "tuple")) (wpAny_isInstance ty isSubtype_tuple_tuple ?_))); rw [if_neg (by decide)]; refine wpAny_bind (wpAny_seqItems g e (wpAny_bind (m:=forIn vs _ _) ?_)); rw [← pA]; refine wpAny_forIn_list _ (fun rest acc st=>acc.1=none∧st=s∧∃todo,Row2 knd s.heap todo rest) _ (fun v rest acc st i=> ?_) (fun acc st i=> ?_) _ _ ⟨rfl,rfl,ks,r⟩
 ·obtain ⟨_,rfl,todo,i⟩:=i; obtain ⟨k,ks',b,rfl,rfl,t,r2⟩:=i.step; refine wpAny_bind (quiet1_run 6 t ?_); rw [if_neg (by decide)]; exact wpAny_pure ⟨rfl,rfl,ks',r2⟩
 ·obtain ⟨n0,rfl,_⟩:=i; obtain ⟨a1,a2⟩:=acc; cases n0; exact wpAny_pure h
end
noncomputable def kind2 {prog:Program} {w:World} {κ:Type} [DecidableEq κ] (knd:KeyKind prog w κ):HeapKind prog w (List (List κ)) where
 is:=IsT2 knd
 hash:=hash2 knd
 draws:=fun ks=>mD ks+1
 room:=fun A=>A.units+1<cLine
 inj:=fun p q=>p.one q
 keeps:=fun p g e sb=>p.stay g e sb
 pyHash:=fun hu p q=>hash2_run hu p q
 eqBool:=fun hu p q h=>eqB2_run hu p q h
 quiet:=fun p h=>zZ p h
structure HK (P:Program) (w:World) (κ:Type) [DecidableEq κ] where
 kind:HeapKind P w κ
 rel:Hp→κ→Addr→Prop
 mono:∀ {F F':Hp} {k:κ} {a:Addr},Same F F'→rel F k a→rel F' k a
 ok:∀ {H:Hp} {h:Heap} {k:κ} {a:Addr},HOk P w H h→rel H k a→kind.is h k a
 room:∀ {A:Around},A.units+2<cLine→kind.room A.in1
 dat:κ→D
 key:∀ {K:aD} {F:Hp} {k:κ} {v:V},Rep K F (dat k) v→∃a,v= .ref a∧rel F k a
 back:∀ {K:aD} {F:Hp} {k:κ} {a:Addr},rel F k a→Rep K F (dat k) (.ref a)
theorem rC {K:aD} {F:Hp}:∀k:List Key,RepL K F (k.map kD) (k.map kV)
 | []=> .nil
 | a::k=>by refine .cons ?_ (rC k); cases a<;>simp only [kD,kV,Rep]
noncomputable def tD (k:List Key):D:= .tup (k.map kD)
noncomputable def hkT (P:Program) (w:World):HK P w (List Key) where
 kind:=tupleKind (fM P w)
 rel:=fun F k a=>F a=some (.tup (k.map kV))
 mono:=fun s h=>s _ _ h
 ok:=fun ok h=>tF ok h
 room:=fun hu=>tupleKind_room_in1 (by omega)
 dat:=tD
 key:=fun r=>by simp only [tD,Rep] at r; obtain ⟨a,ys,rfl,ha,rl⟩:=r; rw [sZ rl] at ha; exact ⟨a,rfl,ha⟩
 back:=fun {K F k a} h=>by simp only [tD,Rep]; exact ⟨a,_,rfl,h,rC k⟩
inductive R2k (F:Hp):List (List Key)→List V→Prop
 | nil:R2k F [] []
 | cons {k:List Key} {b:Addr} {ks:List (List Key)} {vs:List V}:F b=some (.tup (k.map kV))→R2k F ks vs→R2k F (k::ks) (.ref b::vs)
theorem R2k.mono {F F':Hp} (s:Same F F') {ks:List (List Key)} {vs:List V} (r:R2k F ks vs):R2k F' ks vs:=by
 induction r with
 | nil=>exact .nil
 | cons h _ ih=>exact .cons (s _ _ h) ih
theorem Row2.cons {P:Program} {w:World} {κ:Type} [DecidableEq κ] {knd:KeyKind P w κ} {h:Heap} {k:List κ} {b:Addr} {ks:List (List κ)} {vs:List Value} (t:(tupleKind knd).is h k b) (r:Row2 knd h ks vs):Row2 knd h (k::ks) (.ref b::vs):=
 ⟨congrArg (·+1) r.1,fun n k' e=>by
  cases n with
  | zero=>cases e; exact ⟨b,rfl,t⟩
  | succ n=>exact r.2 n k' e⟩
theorem R2k.ok {P:Program} {w:World} {H:Hp} {h:Heap} (ok:HOk P w H h) {ks:List (List Key)} {vs:List V} (r:R2k H ks vs):∀ {us:List Value},Vals vs us→Row2 (fM P w) h ks us:=by
 induction r with
 | nil=>intro us q; cases q; exact ⟨rfl,fun n k e=>by simp at e⟩
 | cons hb _ ih=>
  intro us q; cases q with
  | cons r1 rv=>cases (show _=Value.ref _ from r1); exact Row2.cons (tF ok hb) (ih rv)
theorem R2k.of {K:aD} {F:Hp}:∀ {ks:List (List Key)} {vs:List V},RepL K F (ks.map tD) vs→R2k F ks vs
 | [],vs,r=>by simp only [hG,RepL] at r; subst r; exact .nil
 | k::ks,vs,r=>by rw [bX] at r; obtain ⟨y,ys,rfl,q,rl⟩:=r.uncons; simp only [tD,Rep] at q; obtain ⟨a,zs,rfl,ha,rl2⟩:=q; rw [sZ rl2] at ha; exact .cons ha (R2k.of rl)
theorem R2k.rep {K:aD} {F:Hp} {ks:List (List Key)} {vs:List V} (r:R2k F ks vs):RepL K F (ks.map tD) vs:=by
 induction r with
 | nil=>exact .nil
 | @cons k b ks vs h _ ih=>refine .cons ?_ ih; simp only [tD,Rep]; exact ⟨b,_,rfl,h,rC k⟩
noncomputable def hkN (P:Program) (w:World):HK P w (List (List Key)) where
 kind:=kind2 (fM P w)
 rel:=fun F ks a=>∃vs,F a=some (.tup vs)∧R2k F ks vs
 mono:=fun s ⟨vs,h,r⟩=>⟨vs,s _ _ h,r.mono s⟩
 ok:=fun {H h k a} ok ⟨vs,e,r⟩=>by obtain ⟨_,its,rv,o,h1,h2,⟨n,h3⟩,_⟩:=(show ObjOk P w H h a (.tup vs) from ok a _ e); exact ⟨o,its.toArray,n,h1,h2,h3,by simpa using r.ok ok rv⟩
 room:=fun {A} hu=>by show A.in1.units+1<cLine; exact hu
 dat:=fun ks=> .tup (ks.map tD)
 key:=fun r=>by simp only [Rep] at r; obtain ⟨a,ys,rfl,ha,rl⟩:=r; exact ⟨a,rfl,ys,ha,R2k.of rl⟩
 back:=fun {K F k a} ⟨vs,h,r⟩=>by simp only [Rep]; exact ⟨a,vs,rfl,h,r.rep⟩
section
variable {P:Program} {w:World} {κ:Type} [DecidableEq κ] (hk:HK P w κ)
noncomputable abbrev KG (F:Hp):List (κ × V)→List (κ × Addr × Value)→Prop:=Paired fun p q=>p.1=q.1∧hk.rel F p.1 q.2.1∧RelV p.2 q.2.2
noncomputable def TG (K:aD) (F:Hp) (l:Addr) (o:Obj) (ks:List κ) (ds:List D):Prop:=
 ks.length=ds.length∧ks.length≤sizeLine∧(l==sysModules)=false∧ks.Nodup∧∃ (vs:List V) (xs:List (κ × Addr × Value)) (es:Array DictEntry) (ep:Nat),RepL K F ds vs∧KG hk F (ks.zip vs) xs∧o.ExactDict∧o.data= .dict es ep∧es.toList=xs.map (entryOfKey hk.kind)∧(xs.map (·.1)).Nodup
variable {hk} {K:aD} {F F' H:Hp} {l:Addr} {o:Obj} {ks:List κ} {ds:List D}
theorem KG.mono {kvs:List (κ × V)} {xs:List (κ × Addr × Value)} (s:Same F F') (r:KG hk F kvs xs):KG hk F' kvs xs:=Paired.mapP r fun _ _ z=>⟨z.1,hk.mono s z.2.1,z.2.2⟩
theorem TG.mono (s:Same F F') (t:TG hk K F l o ks ds):TG hk K F' l o ks ds:=by obtain ⟨h1,h2,h3,h4,vs,xs,es,ep,r,g,q⟩:=t; exact ⟨h1,h2,h3,h4,vs,xs,es,ep,r.mono s,g.mono s,q⟩
theorem KG.all {h:Heap} (ok:HOk P w H h) {l:List (κ × V)} {m:List (κ × Addr × Value)} (q:KG hk H l m):∀x∈m,hk.kind.is h x.1 x.2.1:=by
 induction q with
 | nil=>intro x hx; exact nomatch hx
 | @cons p q ps qs hq t ih=>
  intro x hx
  rcases cJ.mp hx with e | hx
  ·subst e; exact hk.ok ok (by rw [← hq.1]; exact hq.2.1)
  ·exact ih x hx
theorem KG.val {kvs:List (κ × V)} {xs:List (κ × Addr × Value)} (r:KG hk F kvs xs) (k:κ):RelO (gH kvs k) ((atKey xs k).map (·.2)):=by
 induction r with
 | nil=>exact True.intro
 | @cons p q ps qs h t ih=>
  obtain ⟨h1,_,h2⟩:=h
  by_cases e:p.1=k
  ·have e':q.1=k:=h1.symm.trans e; have b:atKey (q::qs) k=some q.2:=by simp [atKey,gM,e']
   rw [gY e,b]; exact h2
  ·have e':¬ q.1=k:=fun z=>e (h1.trans z)
   have b:atKey (q::qs) k=atKey qs k:=by simp [atKey,gM,e']
   rw [gG e,b]; exact ih
theorem KG.new {kvs:List (κ × V)} {xs:List (κ × Addr × Value)} (r:KG hk F kvs xs) {k:κ} (hn:gH kvs k=none) {b:Addr} {y:V} {u:Value} (hb:hk.rel F k b) (ry:RelV y u):KG hk F (kvs++[(k,y)]) (storedH xs k b u):=by
 have e:atKey xs k=none:=by
  have:=r.val k; rw [hn] at this; cases h:atKey xs k with
  | none=>rfl
  | some z=>rw [h] at this; cases this
 rw [storedH_new e]; exact Paired.snoc r ⟨rfl,hb,ry⟩
theorem lN {k:κ}:∀ {ks:List κ} {xs:List V},k∉ks→gH (ks.zip xs) k=none
 | [],_,_=>rfl
 | _::_,[],_=>rfl
 | j::js,x::xs,h=>by rw [hJ,gG (p:=(j,x)) (k:=k) (fun e=>h ((show j=k from e)▸bB))]; exact lN fun z=>h (aU _ z)
theorem qO:∀ {ks:List κ} {xs:List V} {n:Nat} {k:κ} {x:V},ks.Nodup→ks[n]? =some k→xs[n]? =some x→gH (ks.zip xs) k=some x
 | [],_,n,_,_,_,h,_=>by simp at h
 | _::_,[],n,_,_,_,_,h=>by simp at h
 | j::js,y::ys,0,k,x,nd,h1,h2=>by
  have e1:j=k:=by simpa using h1
  have e2:y=x:=by simpa using h2
  rw [hJ,gY e1,e2]
 | j::js,y::ys,n+1,k,x,nd,h1,h2=>by
  obtain ⟨nj,nd⟩:=bW.mp nd; have h1:js[n]? =some k:=by simpa using h1
  have h2:ys[n]? =some x:=by simpa using h2
  rw [hJ,gG (p:=(j,y)) (k:=k) (fun e=>nj ((show j=k from e)▸aV h1))]; exact qO nd h1 h2
theorem pH {k:κ} {ks:List κ} {xs:List V} (nd:ks.Nodup) (hl:ks.length=xs.length) (h:k∈ks):(gH (ks.zip xs) k).isSome=true:=by obtain ⟨n,hn,rfl⟩:=cN h; rw [qO (n:=n) (x:=xs[n]'(by omega)) nd (by simp [hn]) (by simp [show n<xs.length by omega])]; rfl
theorem TG.dict {h:Heap} (ok:HOk P w H h) (s:Same F H) (hl:H l=some (exO l o)) (t:TG hk K F l o ks ds):∃ (vs:List V) (xs:List (κ × Addr × Value)),RepL K F ds vs∧KG hk F (ks.zip vs) xs∧h.DictOfH hk.kind l xs∧xs.length≤sizeLine∧(∀k,(atKey xs k).isSome=decide (k∈ks)):=by
 obtain ⟨h1,h2,h3,h4,vs,xs,es,ep,r,g,q1,q2,q3,q4⟩:=t; have ho:h.get? l=some o:=(ok l _ hl).1; refine ⟨vs,xs,r,g,⟨o,es,ep,ho,q1,q2,q3,KG.all ok (g.mono s),q4⟩, ?_,fun k=> ?_⟩
 ·rw [← Paired.length g,tI,r.len,← h1,Nat.min_self]; exact h2
 ·have:=(g.val k).isSome_eq; rw [Option.isSome_map] at this; rw [← this]
  by_cases e:k∈ks
  ·rw [decide_eq_true e]; exact pH h4 (by rw [r.len,h1]) e
  ·rw [decide_eq_false e,lN e]; rfl
end
section
variable {P:Program} {w:World} {κ:Type} [DecidableEq κ]
noncomputable def GG (hk:HK P w κ) (K:aD) (l:Addr) (ks:List κ) (ds:List D):V→Hp→Hp→Prop:=fun v F H=>v= .ref l∧∃o,H l=some (exO l o)∧TG hk K F l o ks ds
noncomputable def oG (hk:HK P w κ) (K:aD) (l:Addr) (ks:List κ) (ds:List D):Slot:= .ox [l] (GG hk K l ks ds)
noncomputable def gD (hk:HK P w κ) (K:aD) (ks:List κ) (ds:List D):D:= .any fun v F=>∃l o,v= .ref l∧F l=some (exO l o)∧TG hk K F l o ks ds
variable {hk:HK P w κ} {K:aD} {H₀ F H:Hp} {σ:St} {sd:List Slot} {i:Nat} {l:Addr} {ks:List κ} {ds:List D} {o:Obj}
theorem TG.cell (t:TG hk K F l o ks ds):∀v,o.data≠ .cell v:=fun v z=>by obtain ⟨_,_,_,_,_,_,_,_,_,_,_,q,_⟩:=t; rw [q] at z; cases z
theorem rD (S:StF K H₀ F H σ sd) (hs:sd[i]? =some (oG hk K l ks ds)):σ[i]? =some (some (.ref l))∧F l=none∧∃o,H l=some (exO l o)∧TG hk K F l o ks ds:=by
 obtain ⟨o,h1,v,h2,h3,h4⟩:=S.slots.get hs; obtain ⟨e,ob,a,b⟩:=h4 F H (Same.refl _) fun _ _ _ q=>q
 subst e h2; exact ⟨h1,(h3 l (eJ l)).1,ob,a,b⟩
theorem oG_mk (hF:F l=none) (h1:H l=some (exO l o)) (t:TG hk K F l o ks ds):kP K F H (oG hk K l ks ds) (some (.ref l)):=
 ⟨.ref l,rfl,fun a ha=>by
  rw [aR.mp ha]
  exact ⟨hF,_,h1,o,rfl,t.cell⟩,fun F' H' s k=>⟨rfl,o,k l (eJ l) _ h1,t.mono s⟩⟩
theorem gD_rep {v:V}:Rep K F (gD hk K ks ds) v↔∃l o,v= .ref l∧F l=some (exO l o)∧TG hk K F l o ks ds:=by
 simp only [gD,Rep]
 constructor
 ·exact fun h=>h.2 F (Same.refl _)
 ·rintro ⟨l,o,rfl,e,t⟩; exact ⟨⟨l,rfl⟩,fun F' s=>⟨l,o,rfl,s _ _ e,t.mono s⟩⟩
end
section
variable {X:Cx} {sd:List Slot} {e a b c tg iter:Expr} {es:List Expr} {pos:Pos} {d:D} {ds:List D} {κ:Type} [DecidableEq κ] {hk:HK X.prog X.w κ} {ks:List κ} {k:κ} {E:jU} {l:Addr}
theorem oI (hk:HK X.prog X.w κ) (i:Nat) {x:Str} {p p2:Pos} (hN:X.N.Nodup) (hi:X.N[i]? =some x) (hx:Loc X.env.scope x) (hE:∀l,E.nx (sd.set i (oG hk X.K l [] []))) (hs:swapsWith (.Dict [] [] p2) (some (.Name x p)) pos.line X.env=pure false:=by rfl)
  (hf:X.fn x=true∨X.env.scope.names.lookup x=some .local:=by first | exact .inl rfl | exact .inr rfl | assumption):PSd1 X sd (.Assign [.Name x p] (.Dict [] [] p2) pos) E:= .mk fun σ F H S=>
 (sS hN hi hx pe_dnewE hs hf).to fun q hq hm=>by
  have fp:F q=none:=S.sub.free hq
  have no:q∉cO sd:=fun hl=>by obtain ⟨_,ob,h,_⟩:=S.slots.owns hl; rw [hq] at h; cases h
  have S1:StF X.K X.B₀ F (upd H q (exO q dict0)) σ sd:=by
   refine ⟨S.base,fun b u e=> ?_,yP S.smp q,S.slots.mono (Same.refl _) fun l hl=> ?_,S.nd⟩
   ·rw [bM (cF e fp)]; exact S.sub _ _ e
   ·obtain ⟨n,ys,y,_⟩:=S.slots.owns hl; have hne:l≠q:=cF y hq; exact ⟨n,fun ys e=>by rw [bM hne]; exact e⟩
  refine ⟨_,F,S1.setT i (oG_mk (hk:=hk) (K:=X.K) (ks:=[]) (ds:=[]) fp bZ ⟨rfl,cW _,hm,gW,[],[], #[],0, .nil, .nil,⟨rfl,rfl,rfl⟩,rfl,rfl,gW⟩) (by simp) fun a ha=> ?_,Same.refl _,hE q⟩; rw [aR.mp ha]; exact no
theorem oB (i:Nat) {x:Str} {p p2:Pos} (hu:X.A.units+2<cLine) (hs:sd[i]? =some (oG hk X.K l ks ds)) (hx:PE X (.Name x p) (mQ i)) (h:PEd X sd e (.val d)) (hb:PEd X sd b (.val (hk.dat k))) (hnk:k∉ks) (hl:ds.length≤1000) (hE:E.nx (sd.set i (oG hk X.K l (ks++[k]) (ds++[d]))))
  (hsw:swapsWith e (some (.Subscript (.Name x p) b p2)) pos.line X.env=pure false:=by rfl):PSd1 X sd (.Assign [.Subscript (.Name x p) b p2] e pos) E:= .mk fun σ F H S pins s I=>by
 refine wpAny_Assign_Subscript (thn (h σ F H S pins s I) fun r s1 ⟨v,H1,I1,rv,F1,S1,sF1,q1⟩=> ?_) hsw; obtain ⟨h1,_⟩:=rD S1 hs; refine thn (hx pins s1 σ H1 (fun v H2=>v= .ref l∧H2=H1) I1 ⟨.ref l,h1,rfl,rfl⟩) fun u s2 ⟨y,H2,I2,ry,e1,e2⟩=> ?_
 subst e1 e2; obtain rfl:u=Value.ref l:=ry; refine thn (hb σ F1 H2 S1 pins s2 I2) fun iv s3 ⟨y,H3,I3,ry,F3,S3,sF3,q3⟩=> ?_
 obtain ⟨g1,g2,o,g3,t⟩:=rD S3 hs; obtain ⟨ad,rfl,ha⟩:=hk.key q3; obtain rfl:iv=Value.ref ad:=ry; obtain ⟨vs,xs,r1,kg,dd,hz,hin⟩:=t.dict I3.hok S3.sub g3; obtain ⟨t1,t2,t3,t4,_⟩:=t; refine wpAny_setItem_heap (hsz:=hz) (hk.room hu) (hk.ok I3.hok (hk.mono S3.sub ha)) dd fun h' dd' hsm=> ?_
 obtain ⟨q,es',ep',hq,u2,u3,u4,_,u5⟩:=dd'; have I4:=qS (t':=s3.toks+hk.kind.draws k) I3 (ob:=exO l q) (by rw [g3]; exact True.intro) hsm ⟨q,hq⟩ (yT hq); have lz:ks.length=vs.length:=by rw [t1,r1.len]
 have kg':=kg.new (lN hnk) ha rv; rw [← zipT_snoc lz] at kg'
 have t':TG hk X.K F3 l q (ks++[k]) (ds++[d]):=⟨by rw [aN,aN,t1]; rfl,by
  rw [aN,t1]; have:=gR hl; show ds.length+1≤sizeLine
  omega,t3,cI.mpr ⟨t4,by simp,fun a ha b hb e=>hnk (by rw [← aR.mp hb,← e]; exact ha)⟩,vs++[v],_,es',ep',r1.app (.one (Rep.mono sF3 q1)),kg',u2,u3,u4,u5⟩
 refine ⟨σ,_,I4,_,F3,S3.reT (z':=oG hk X.K l (ks++[k]) (ds++[d])) hs g1 (fun b ob hb q=> ?_) (yP S3.smp l) (oG_mk g2 bZ t') (show [l].Nodup by simp) fun a ha=> .inl ha,sF1.trans sF3,hE⟩; rw [bM (show b≠l from fun z=>hb (z▸eJ l))]; exact q
theorem oP (i:Nat) {sts:List Stmt} (hs:sd[i]? =some (oG hk X.K l ks ds)) (h:PSd X (sd.set i (.val (gD hk X.K ks ds))) sts E):PSd X sd sts E:= .mk fun σ F H S=>by
 obtain ⟨h1,h2,o,h3,t⟩:=rD S hs; have S0:=S.le (iL sd i); have no:l∉cO (sd.set i .un):=fun hb=>jQ S.nd hs (show l∈[l] from eJ l) hb
 obtain ⟨S1,s1⟩:=S0.inN (l:=l) (ls:=[]) (fun a ha=>by rw [aR.mp ha]; exact h2) fun a ha=>by rw [aR.mp ha]; exact no
 have f1:(inF F H [l]) l=some (exO l o):=by rw [inF_in bB]; exact h3
 have S2:=S1.set (d:=gD hk X.K ks ds) (v:= .ref l) i (gD_rep.mpr ⟨l,o,rfl,f1,t.mono s1⟩); rw [kF,lH h1] at S2; exact lft_up s1 (h σ _ H S2)
structure PDc (X:Cx) (sd:List Slot) (e:Expr) {κ:Type} [DecidableEq κ] (hk:HK X.prog X.w κ) (ks:List κ) (ds:List D):Prop where
 get:∀ (σ:St) (F H:Hp),StF X.K X.B₀ F H σ sd→wE X e σ H fun v H1=>∃F1 l,StF X.K X.B₀ F1 H1 σ sd∧Same F F1∧v= .ref l∧∀F2 H2,StF X.K X.B₀ F2 H2 σ sd→Same F1 F2→∃o,H2 l=some (exO l o)∧TG hk X.K F2 l o ks ds
theorem vT (i:Nat) {x:Str} {p:Pos} (hs:sd[i]? =some (oG hk X.K l ks ds)) (hx:PE X (.Name x p) (mQ i)):PDc X sd (.Name x p) hk ks ds:=⟨fun σ F H S=>hx.to (by
 obtain ⟨h1,_⟩:=rD S hs
 exact ⟨.ref l,h1,F,l,S,Same.refl _,rfl,fun F2 H2 S2 _=>(rD S2 hs).2.2⟩)⟩
theorem jI (h:PEd X sd e (.val (gD hk X.K ks ds))):PDc X sd e hk ks ds:=⟨fun σ F H S=>(h σ F H S).imp fun v H1 ⟨F1,S1,s1,q1⟩=>by
 obtain ⟨l,o,rfl,e,t⟩:=gD_rep.mp q1
 exact ⟨F1,l,S1,s1,rfl,fun F2 H2 S2 s2=>⟨o,S2.sub _ _ (s2 _ _ e),t.mono s2⟩⟩⟩
noncomputable def rIn (hk:HK X.prog X.w κ) (f:Bool→Bool):R2:=fun x y H Q=>∃ (F:Hp) (ad l:Addr) (o:Obj) (k:κ) (ks:List κ) (ds:List D),x= .ref ad∧y= .ref l∧Same F H∧hk.rel F k ad∧H l=some (exO l o)∧TG hk X.K F l o ks ds∧X.A.units+2<cLine∧Q (.bl (f (decide (k∈ks)))) H
theorem op_inG:OpR X (compareOp .In) (rIn hk id):=by intro pins s σ H x y v u Q I rx ry h; obtain ⟨F,ad,l,o,k,ks,ds,rfl,rfl,sF,ha,hl,t,hu,q⟩:=h; obtain rfl:v=Value.ref ad:=rx; obtain rfl:u=Value.ref l:=ry; obtain ⟨vs,xs,_,_,dd,_,hin⟩:=t.dict I.hok sF hl; refine wpAny_in_heap (hk.room hu) (hk.ok I.hok (hk.mono sF ha)) t.2.2.1 dd ⟨.bl (decide (k∈ks)),H,I.tok _, ?_,q⟩; show Value.bool _=Value.bool _; rw [hin]
theorem op_ninG:OpR X (compareOp .NotIn) (rIn hk (!·)):=by intro pins s σ H x y v u Q I rx ry h; obtain ⟨F,ad,l,o,k,ks,ds,rfl,rfl,sF,ha,hl,t,hu,q⟩:=h; obtain rfl:v=Value.ref ad:=rx; obtain rfl:u=Value.ref l:=ry; obtain ⟨vs,xs,_,_,dd,_,hin⟩:=t.dict I.hok sF hl; refine wpAny_notIn_heap (hk.room hu) (hk.ok I.hok (hk.mono sF ha)) t.2.2.1 dd ⟨.bl (!decide (k∈ks)),H,I.tok _, ?_,q⟩; show Value.bool _=Value.bool _; rw [hin]
theorem ptd_inG (hu:X.A.units+2<cLine) (ha:PEd X sd a (.val (hk.dat k))) (hb:PDc X sd b hk ks ds) (hm:behindInMarks .In b=false:=by with_unfolding_all rfl):PTd X sd (.Compare a [.In] [b] pos) (decide (k∈ks)):= .mk fun σ F H S=>
 (qR (op_inG (hk:=hk)) fH fH hm).to ((ha σ F H S).imp fun v H1 ⟨F1,S1,s1,q1⟩=>(hb.get σ F1 H1 S1).imp fun u H2 ⟨F2,l,S2,s2,eu,g⟩=>by
  obtain ⟨ad,rfl,hr⟩:=hk.key q1; obtain ⟨o,g1,g2⟩:=g F2 H2 S2 (Same.refl _)
  exact ⟨F2,ad,l,o,k,ks,ds,rfl,eu,S2.sub,hk.mono s2 hr,g1,g2,hu,_,rfl,rfl,F2,S2,s1.trans s2⟩)
theorem ptd_ninG (hu:X.A.units+2<cLine) (ha:PEd X sd a (.val (hk.dat k))) (hb:PDc X sd b hk ks ds) (hm:behindInMarks .NotIn b=false:=by with_unfolding_all rfl):PTd X sd (.Compare a [.NotIn] [b] pos) (!decide (k∈ks)):= .mk fun σ F H S=>
 (qR (op_ninG (hk:=hk)) fH fH hm).to ((ha σ F H S).imp fun v H1 ⟨F1,S1,s1,q1⟩=>(hb.get σ F1 H1 S1).imp fun u H2 ⟨F2,l,S2,s2,eu,g⟩=>by
  obtain ⟨ad,rfl,hr⟩:=hk.key q1; obtain ⟨o,g1,g2⟩:=g F2 H2 S2 (Same.refl _)
  exact ⟨F2,ad,l,o,k,ks,ds,rfl,eu,S2.sub,hk.mono s2 hr,g1,g2,hu,_,rfl,rfl,F2,S2,s1.trans s2⟩)
theorem lZ {n:Nat} (hu:X.A.units+2<cLine) (ha:PDc X sd a hk ks ds) (hb:PEd X sd b (.val (hk.dat k))) (hkn:ks[n]? =some k) (hd:ds[n]? =some d) (hsl:NoSl b):PEd X sd (.Subscript a b pos) (.val d):= .mk fun σ F H S pins s I=>by
 refine subD_of PySem.F.slot_dict_getitem.lookup hsl (thn (ha.get σ F H S pins s I) fun u s1 ⟨y,H1,I1,ry,F1,l,S1,s1',ey,g⟩=> ?_); subst ey; obtain rfl:u=Value.ref l:=ry; refine thn (hb σ F1 H1 S1 pins s1 I1) fun iv s2 ⟨y,H2,I2,ry,F2,S2,sF,q2⟩=> ?_
 obtain ⟨o,g1,t⟩:=g F2 H2 S2 sF; obtain ⟨ad,rfl,hr⟩:=hk.key q2; obtain rfl:iv=Value.ref ad:=ry; obtain ⟨vs,xs,rl,kg,dd,_,_⟩:=t.dict I2.hok S2.sub g1; obtain ⟨v,hv,rv⟩:=rl.get hd; obtain ⟨w',hw,rw'⟩:=RelO.some_of (v:=v) (o:=(atKey xs k).map (·.2)) (by rw [← qO t.2.2.2.1 hkn hv]; exact kg.val k); obtain ⟨pr,hp,hp2⟩:=gB.mp hw; refine ⟨dd.typeIs,wpAny_getItem_heap (hk.room hu) (hk.ok I2.hok (hk.mono S2.sub hr)) dd hp ?_⟩; rw [hp2]; exact ⟨v,H2,I2.tok _,rw',F2,S2,s1'.trans sF,rv⟩
end
section
variable {prog:Program} {w:World} {A:Around} {E:Value→Shared→Prop} {s:Shared} {d it:Addr} {od:Obj} {es:Array DictEntry} {ep i:Nat}
theorem wD (g:s.heap.get? d=some od) (c:od.ExactDict):s.TypeIs (.ref d) "dict":=⟨od,g,c.1⟩
theorem walk_new {Q:Value→Shared→Prop} (sm:(d==sysModules)=false) (g:s.heap.get? d=some od) (c:od.ExactDict) (e:od.data= .dict es ep)
  (q:Q (.ref s.heap.objs.size) {s with heap:=s.heap.push {cls:= .type "dict_keyiterator",data:= .fields #[.ref d, .int 0 0, .int es.size 0, .int ep 0]}}):wpAny (model prog w) A (pyIter (.ref d)) Q E s:=by
 have ty:=wD g c; refine wpAny_pyIter_slot ty F.slot_dict_iter (wpAny_call_entry F.slot_dict_iter ty F.entry_dict_iter (wpAny_bind ?_) (F.args_dict_iter_1 _)); unfold Builtin.Dict.dictSlotNone; refine wpAny_bind (wpAny_notOrdered_dict ty (wpAny_pure (a:=Value.ref d) (wpAny_bind (m:=Builtin.Dict.showsAll d) ?_))); unfold Builtin.Dict.showsAll; rw [sm,if_neg bP]; exact wpAny_pure (wpAny_bind (wpAny_dictEntries g e (wpAny_bind (wpAny_dictEpoch g e (wpAny_bind (wpAny_newObj_type (wpAny_pure ⟨_,rfl,"dict_keyiterator",_,⟨_,bF _ rfl,rfl⟩,F.slot_dict_keyiterator_next.lookup,q⟩)))))))
theorem walk_next {Q:Option Value→Shared→Prop} (ki:s.heap.IsKeyIter it d i es.size ep) (g:s.heap.get? d=some od) (e:od.data= .dict es ep) (hi:i<es.size)
  (q:∀h',h'.IsKeyIter it d (i+1) es.size ep→Heap.SameBut it s.heap h'→Q (some es[i].key) {s with heap:=h'}):wpAny (model prog w) A (pyNext (.ref it)) Q E s:=by
 have ty:=ki.typeIs; obtain ⟨o,g1,c1,f1⟩:=ki; unfold pyNext; refine wpAny_bind (wpAny_attempt (wpAny_callSpecial?_slot (name:=Str.ofString "__next__") ty F.slot_dict_keyiterator_next (wpAny_call_entry F.slot_dict_keyiterator_next ty F.entry_dict_keyiterator_next (wpAny_bind (wpAny_pure (wpAny_bind (wpAny_bind ?_)))) (F.args_dict_keyiterator_next_1 _)))); refine wpAny_bind (wpAny_typeNameOfWhole_keyiter ty (wpAny_pure (wpAny_bind (wpAny_fieldsOf g1 f1 ?_)))); rw [if_neg (by decide)]; show wpAny _ _ (ite ((Value.ref d==Value.none)=true) _ _) _ _ _; rw [if_neg (c:=(Value.ref d==Value.none)=true) (fun z=>by cases z)]; refine wpAny_bind (wpAny_pure (wpAny_bind (wpAny_dictEntries g e ?_))); rw [if_neg (by simp)]; refine wpAny_bind (wpAny_pure (wpAny_bind (wpAny_dictEpoch g e ?_))); rw [if_neg (by simp)]; refine wpAny_pure ?_; have ix:(if (i:Int)<0 then none else es[(i:Int).toNat]?)=some es[i]:=by rw [if_neg (by omega),fE,iX hi]
 simp only [ix]
 have up:(s.heap.update it (Obj.mapFields (·.setIfInBounds 1 (rawInt ((i:Int)+1))))).IsKeyIter it d (i+1) es.size ep:=
  ⟨_,Heap.get?_update_self _ g1 (Obj.isFreed_of_fields (Obj.data_mapFields f1 _)),(Obj.cls_mapFields ..).trans c1,by rw [Obj.data_mapFields f1]; simp [rawInt]⟩
 refine wpAny_bind (wpAny_bind (wpAny_typeNameOfWhole_keyiter ty (wpAny_pure (wpAny_bind (wpAny_isOneOf_keyiter ty (wpAny_bind (wpAny_setField g1 f1 (show (0:Nat)+1<4 by decide) (wpAny_bind (wpAny_holding ?_))))))))); refine wpAny_bind (wpAny_isOneOf_keyiter up.typeIs ?_); exact wpAny_pure (wpAny_pure ⟨_,rfl,wpAny_pure (q _ up (Heap.SameBut.update ..))⟩)
theorem xX {Q:Option Value→Shared→Prop} {hp:Heap} (hh:A.handled=none) (sb:Heap.ExtBut it s.heap hp) (q:∀h',Heap.ExtBut it s.heap h'→Q none {s with heap:=h'}):
  wpAny (model prog w) A.in1 (newExc (.type "StopIteration") []>>=fun x=>(raiseNew x:Sem Fin)) (fun fin s'=>∃v,fin=Fin.done (Flow.ret v)∧wpAny (model prog w) A (pure (some v)) Q E s') (fun e s'=>wpAny (model prog w) A (do
   let b ← isInstance e (Value.type "StopIteration")
   if b=true then pure none else throw e) Q E s') {s with heap:=hp}:=by
 refine wpAny_bind ?_; simp only [newExc,newTuple]; refine wpAny_bind (wpAny_newObj_type (wpAny_bind (m:=firstArgMember _ _) (wpAny_of_eq (a:=Value.none) (by first | rfl | (simp only [firstArgMember]; rfl)) (wpAny_newObj_type ?_ (by size_fits)))) (by size_fits)); simp only [raiseNew]; refine wpAny_bind (wpAny_handled ?_); rw [show A.in1.handled=none from hh]; refine wpAny_bind (wpAny_pure (wpAny_throw ?_)); refine wpAny_bind (wpAny_isInstance (T:="StopIteration") (b:=true) ⟨_,bF _ rfl,rfl⟩ isSubtype_stop ?_); exact wpAny_pure (q _ ((sb.push _).push _))
theorem walk_end {Q:Option Value→Shared→Prop} (hh:A.handled=none) (ki:s.heap.IsKeyIter it d i es.size ep) (g:s.heap.get? d=some od) (e:od.data= .dict es ep) (hi:es.size≤i)
  (q:∀h',Heap.ExtBut it s.heap h'→Q none {s with heap:=h'}):wpAny (model prog w) A (pyNext (.ref it)) Q E s:=by
 have ty:=ki.typeIs; obtain ⟨o,g1,c1,f1⟩:=ki; unfold pyNext; refine wpAny_bind (wpAny_attempt (wpAny_callSpecial?_slot (name:=Str.ofString "__next__") ty F.slot_dict_keyiterator_next (wpAny_call_entry F.slot_dict_keyiterator_next ty F.entry_dict_keyiterator_next (wpAny_bind (wpAny_pure (wpAny_bind (wpAny_bind ?_)))) (F.args_dict_keyiterator_next_1 _)))); refine wpAny_bind (wpAny_typeNameOfWhole_keyiter ty (wpAny_pure (wpAny_bind (wpAny_fieldsOf g1 f1 ?_)))); rw [if_neg (by decide)]; show wpAny _ _ (ite ((Value.ref d==Value.none)=true) _ _) _ _ _; rw [if_neg (c:=(Value.ref d==Value.none)=true) (fun z=>by cases z)]; refine wpAny_bind (wpAny_pure (wpAny_bind (wpAny_dictEntries g e ?_))); rw [if_neg (by simp)]; refine wpAny_bind (wpAny_pure (wpAny_bind (wpAny_dictEpoch g e ?_))); rw [if_neg (by simp)]; refine wpAny_pure ?_; have ix:(if (i:Int)<0 then none else es[(i:Int).toNat]?)=none:=by rw [if_neg (by omega),fE,yQ hi]
 simp only [ix]; refine wpAny_bind (wpAny_bind (wpAny_typeNameOfWhole_keyiter ty (wpAny_pure (wpAny_bind (wpAny_setField g1 f1 (show (0:Nat)<4 by decide) ?_))))); exact xX hh (Heap.SameBut.update ..).extBut q
theorem view_new {R:Result→Shared→Prop} (sm:(d==sysModules)=false):MeetsIn prog w (Builtin.«dict.items» ⟨[.ref d],[]⟩) (fun _ R s=>(∃od:Obj,s.heap.get? d=some od∧od.ExactDict)∧R (.ok (.ret (.ref s.heap.objs.size))) {s with heap:=s.heap.push {cls:= .type "dict_items",data:= .fields #[.ref d]}}):=
 .of_wp fun A R s ⟨⟨od,g,c⟩,q⟩=>by refine wpAny_bind (m:=Builtin.Dict.noArgs "items" ⟨[.ref d],[]⟩) ?_; unfold Builtin.Dict.noArgs; refine wpAny_bind (wpAny_notOrdered_dict (wD g c) (wpAny_pure (a:=d) (wpAny_bind (m:=Builtin.Dict.showsAll d) ?_))); unfold Builtin.Dict.showsAll; rw [sm,if_neg bP]; exact wpAny_pure (wpAny_bind (wpAny_newObj_type (wpAny_pure ⟨_,rfl,q⟩)))
theorem view_iter {v:Addr} {Q:Value→Shared→Prop} (hv:s.heap.IsItemsView v d) (g:s.heap.get? d=some od) (e:od.data= .dict es ep)
  (q:Q (.ref s.heap.objs.size) {s with heap:=s.heap.push {cls:= .type "dict_itemiterator",data:= .fields #[.none, .bool false, .ref d, .int 0 0, .int es.size 0, .int ep 0, .none, .none]}}):wpAny (model prog w) A (pyIter (.ref v)) Q E s:=by
 have ty:=hv.typeIs; obtain ⟨ov,g1,c1,f1⟩:=hv; refine wpAny_pyIter_slot ty F.slot_dict_items_iter (wpAny_call_entry F.slot_dict_items_iter ty F.entry_dict_items_iter (wpAny_bind (wpAny_pure (wpAny_bind (m:=Builtin.Dict_items.dictOf (.ref v)) ?_))) (F.args_dict_items_iter_1 _)); unfold Builtin.Dict_items.dictOf; refine wpAny_bind (wpAny_field g1 f1 (x:= .ref d) rfl (wpAny_pure (wpAny_bind ?_))); unfold Builtin.Dict_items.newIterator; refine wpAny_bind (wpAny_dictEntries g e (wpAny_bind (wpAny_dictEpoch g e ?_))); exact wpAny_newObj_type (wpAny_pure ⟨_,rfl,"dict_itemiterator",_,⟨_,bF _ rfl,rfl⟩,F.slot_dict_itemiterator_next.lookup,q⟩) (by show (8:Nat)≤_; rw [sizeLine_eq]; decide)
theorem item_next {ok ov:Value} {Q:Option Value→Shared→Prop} (ii:IsItemIter s.heap it d i es.size ep ok ov) (g:s.heap.get? d=some od) (e:od.data= .dict es ep) (hi:i<es.size)
  (q:∀h',IsItemIterOut h' it d (i+1) es.size ep es[i].key es[i].val s.heap.objs.size→h'.get? s.heap.objs.size=some {cls:= .type "tuple",data:= .seq #[es[i].key,es[i].val]}→h'.objs.size=s.heap.objs.size+1→(∀b o,b≠it→s.heap.get? b=some o→h'.get? b=some o)→Q (some (.ref s.heap.objs.size)) {s with heap:=h'}):wpAny (model prog w) A (pyNext (.ref it)) Q E s:=by
 obtain ⟨hp,gn,dr,tk,os⟩:=s; have ty:Shared.TypeIs ⟨hp,gn,dr,tk,os⟩ (.ref it) "dict_itemiterator":=⟨_,ii,rfl⟩; have il:it<hp.objs.size:=bA ii; have ni:hp.objs.size≠it:=jR il; unfold pyNext; refine wpAny_bind (wpAny_attempt (wpAny_callSpecial?_slot (name:=Str.ofString "__next__") ty F.slot_dict_itemiterator_next (wpAny_call_entry F.slot_dict_itemiterator_next ty F.entry_dict_itemiterator_next (wpAny_bind (wpAny_pure (wpAny_bind (wpAny_bind ?_)))) (F.args_dict_itemiterator_next_1 _)))); refine wpAny_bind (wpAny_typeNameOfWhole_itemiter ty (wpAny_pure (wpAny_bind (wpAny_fieldsOf ii rfl ?_)))); rw [if_pos (by decide)]; show wpAny _ _ (ite ((Value.ref d==Value.none)=true) _ _) _ _ _; rw [if_neg (c:=(Value.ref d==Value.none)=true) (fun z=>by cases z)]; refine wpAny_bind (wpAny_pure (wpAny_bind (wpAny_dictEntries g e ?_))); rw [if_neg (by simp)]; refine wpAny_bind (wpAny_pure (wpAny_bind (wpAny_dictEpoch g e ?_))); rw [if_neg (by simp)]; refine wpAny_pure ?_; have ix:(if (i:Int)<0 then none else es[(i:Int).toNat]?)=some es[i]:=by rw [if_neg (by omega),fE,iX hi]
 simp only [ix]; refine wpAny_bind (wpAny_bind (wpAny_typeNameOfWhole_itemiter ty (wpAny_pure (wpAny_bind (wpAny_isOneOf_itemiter ty ?_))))); refine wpAny_bind (m:=setField (.ref it) 3 (rawInt ((i:Int)+1))) (wpAny_setField_rec ii (by simp) fun h1 e1 b1=> ?_); have b1:Heap.SameBut it hp h1:=b1
 have e1:IsItemIter h1 it d (i+1) es.size ep ok ov:=by show h1.get? it=_; rw [show ((i+1:Nat):Int)=(i:Int)+1 from rfl]; exact e1
 have ty1:Shared.TypeIs ⟨h1,gn,dr,tk,os⟩ (.ref it) "dict_itemiterator":=⟨_,e1,rfl⟩; refine wpAny_bind (wpAny_holding (wpAny_bind (wpAny_isOneOf_itemiter ty1 (wpAny_bind (wpAny_isOneOf_itemiter ty1 ?_))))); show wpAny _ _ (Builtin.Dict_items.pairFromOwner (.ref it) 6 es[i].key es[i].val) _ _ _; unfold Builtin.Dict_items.pairFromOwner; refine wpAny_bind (wpAny_newTuple ?_); obtain ⟨h2,z2⟩:∃h2,h2=h1.push {cls:= .type "tuple",data:= .seq #[es[i].key,es[i].val]}:=⟨_,rfl⟩; have s1:h1.objs.size=hp.objs.size:=b1.1; have e2:IsItemIter h2 it d (i+1) es.size ep ok ov:=by rw [z2]; exact aM _ e1
 have t2:h2.get? hp.objs.size=some {cls:= .type "tuple",data:= .seq #[es[i].key,es[i].val]}:=by rw [z2,← s1]; exact bF _ rfl
 have s2:h2.objs.size=hp.objs.size+1:=by rw [z2,Heap.size_push,s1]
 have k2:∀b o,b≠it→hp.get? b=some o→h2.get? b=some o:=fun b o ne q=>by rw [z2]; exact aM _ (b1.extBut b o ne q)
 show wpAny _ _ (Builtin.Dict_items.ownedTupleIsFree (.ref it)>>=_) _ _ ⟨h1.push {cls:= .type "tuple",data:= .seq #[es[i].key,es[i].val]},gn,dr,tk,os⟩; rw [← z2,s1]; unfold Builtin.Dict_items.ownedTupleIsFree; refine wpAny_bind (wpAny_bind (wpAny_field e2 rfl (x:= .none) rfl (wpAny_pure ?_))); rw [if_pos rfl]; refine wpAny_bind (wpAny_field e2 rfl (x:=ok) rfl (wpAny_bind (wpAny_field e2 rfl (x:=ov) rfl (wpAny_bind (wpAny_setField_rec e2 (by simp) fun h3 e3 b3=> ?_))))); refine wpAny_bind (wpAny_setField_rec e3 (by simp) fun h4 e4 b4=>wpAny_bind (wpAny_setField_rec e4 (by simp) fun h5 e5 b5=>wpAny_bind (wpAny_setField_rec e5 (by simp) fun h6 e6 b6=> ?_))); have bb:∀b o,b≠it→h2.get? b=some o→h6.get? b=some o:=fun b o ne q=>Heap.SameBut.extBut b6 b o ne (Heap.SameBut.extBut b5 b o ne (Heap.SameBut.extBut b4 b o ne (Heap.SameBut.extBut b3 b o ne q)))
 have sz:h6.objs.size=h2.objs.size:=(show h6.objs.size=h5.objs.size from b6.1).trans ((show h5.objs.size=h4.objs.size from b5.1).trans ((show h4.objs.size=h3.objs.size from b4.1).trans b3.1)); exact wpAny_bind (wpAny_letGo (wpAny_pure (wpAny_pure ⟨_,rfl,wpAny_pure (q h6 e6 (bb _ _ ni t2) (sz.trans s2) fun b o ne q=>bb b o ne (k2 b o ne q))⟩)))
theorem item_end {ok ov:Value} {Q:Option Value→Shared→Prop} (hh:A.handled=none) (ii:IsItemIter s.heap it d i es.size ep ok ov) (g:s.heap.get? d=some od) (e:od.data= .dict es ep) (hi:es.size≤i)
  (q:∀h',Heap.ExtBut it s.heap h'→Q none {s with heap:=h'}):wpAny (model prog w) A (pyNext (.ref it)) Q E s:=by
 have ty:s.TypeIs (.ref it) "dict_itemiterator":=⟨_,ii,rfl⟩; unfold pyNext; refine wpAny_bind (wpAny_attempt (wpAny_callSpecial?_slot (name:=Str.ofString "__next__") ty F.slot_dict_itemiterator_next (wpAny_call_entry F.slot_dict_itemiterator_next ty F.entry_dict_itemiterator_next (wpAny_bind (wpAny_pure (wpAny_bind (wpAny_bind ?_)))) (F.args_dict_itemiterator_next_1 _)))); refine wpAny_bind (wpAny_typeNameOfWhole_itemiter ty (wpAny_pure (wpAny_bind (wpAny_fieldsOf ii rfl ?_)))); rw [if_pos (by decide)]; show wpAny _ _ (ite ((Value.ref d==Value.none)=true) _ _) _ _ _; rw [if_neg (c:=(Value.ref d==Value.none)=true) (fun z=>by cases z)]; refine wpAny_bind (wpAny_pure (wpAny_bind (wpAny_dictEntries g e ?_))); rw [if_neg (by simp)]; refine wpAny_bind (wpAny_pure (wpAny_bind (wpAny_dictEpoch g e ?_))); rw [if_neg (by simp)]; refine wpAny_pure ?_; have ix:(if (i:Int)<0 then none else es[(i:Int).toNat]?)=none:=by rw [if_neg (by omega),fE,yQ hi]
 simp only [ix]; refine wpAny_bind (wpAny_bind (wpAny_typeNameOfWhole_itemiter ty (wpAny_pure (wpAny_bind (wpAny_setField ii rfl (show (2:Nat)<8 by decide) ?_))))); exact xX hh (Heap.SameBut.update ..).extBut q
end
section
variable {P:Program} {w:World} {κ:Type} [DecidableEq κ] {hk:HK P w κ} {K:aD} {F:Hp} {l:Addr} {o:Obj} {ks:List κ} {ds:List D}
theorem Paired.at {α β:Type} {R:α→β→Prop} {as:List α} {bs:List β} (p:Paired R as bs):∀ {n:Nat} {a:α},as[n]? =some a→∃b,bs[n]? =some b∧R a b:=by
 induction p with
 | nil=>intro n a h; simp at h
 | @cons x y xs ys r t ih=>
  intro n a h; cases n with
  | zero=>
   have:x=a:=by simpa using h
   subst this; exact ⟨y,rfl,r⟩
  | succ n=>obtain ⟨b,h1,h2⟩:=ih (by simpa using h); exact ⟨b,by simpa using h1,h2⟩
theorem TG.ents (t:TG hk K F l o ks ds):∃ (es:Array DictEntry) (ep:Nat) (vs:List V),o.ExactDict∧o.data= .dict es ep∧es.size=ks.length∧RepL K F ds vs∧∀ (n:Nat) (k:κ),ks[n]? =some k→∃b v u,vs[n]? =some v∧es[n]? =some u∧u.key= .ref b∧RelV v u.val∧hk.rel F k b:=by
 obtain ⟨h1,h2,h3,h4,vs,xs,es,ep,r,g,q1,q2,q3,q4⟩:=t; have zl:(ks.zip vs).length=ks.length:=by rw [tI,r.len,← h1,Nat.min_self]
 refine ⟨es,ep,vs,q1,q2, ?_,r,fun n k hn=> ?_⟩
 ·have:=congrArg List.length q3; rw [fX,aB,← Paired.length g,zl] at this; exact this
 ·have nl:n<ks.length:=(aH.mp hn).1; have nv:n<vs.length:=by rw [r.len,← h1]; exact nl
  have hz:(ks.zip vs)[n]? =some (k,vs[n]):=lF.mpr ⟨hn,by simp [nv]⟩; obtain ⟨b,hb,e1,e2,e3⟩:=Paired.at g hz; refine ⟨b.2.1,vs[n],entryOfKey hk.kind b,by simp [nv], ?_,rfl,e3,e2⟩; rw [← yS,q3,aI,hb]; rfl
end
noncomputable def ItG (a:Addr) (o:Obj) (es:Array DictEntry):It where
 go:=fun i H=>H a=some (exO a o)∧i<es.size
 yld:=fun i H x H'=>H'=H∧∃u b,es[i]? =some u∧u.key= .ref b∧x= .ref b
 stop:=fun i H=>H a=some (exO a o)∧es.size≤i
theorem zY {P:Program} {w:World} {K:aD} {tg:Expr} {a:Addr} {o:Obj} {es:Array DictEntry} {ep:Nat} (hd:o.data= .dict es ep) (hr:∀ (i:Nat) (h:i<es.size),∃b,es[i].key= .ref b) (it:Addr):xJ P w K tg (ItG a o es) [it] it (fun i h=>h.IsKeyIter it a i es.size ep) where
 mem:=by simp
 obj:=fun i h st b hb=>by
  have e:b=it:=by simpa using hb
  subst e; obtain ⟨o,e,c,d⟩:=st; exact ⟨o,e,fun v z=>by rw [d] at z; cases z⟩
 keep:=fun i h h' st k=>by obtain ⟨o,e,c,d⟩:=st; exact ⟨o,k it (by simp) o e,c,d⟩
 item:=by
  intro X hP hw hK hc i pins s σ H E I hf st hg; subst hP hw hK; obtain ⟨hq,hx⟩:=hg; obtain ⟨b,hb⟩:=hr i hx; have g:s.heap.get? a=some o:=(I.hok a _ hq).1; obtain ⟨f0,f1,f2,f3,f4,f5⟩:=hf it (by simp); refine walk_next st g hd hx fun h' st' sb=> ?_
  have I1:Inv X pins σ H {s with heap:=h'}:=I.turned (t':=s.toks) (fun b o hb e=>(sb.2 b hb).trans e) f0 f1 f3 f4 f5; obtain ⟨o',e,c,d⟩:=id st'; exact ⟨_,rfl,go_of (s:={s with heap:=h'}) e c d (by decide) ⟨.ref b,H,I1,hb,⟨rfl,es[i],b,by simp [hx],hb,rfl⟩,st',fun b hb=>(hf b hb).1⟩⟩
 done:=by intro X hP hw hK hc i pins s σ H E I hf st hg; subst hP hw hK; obtain ⟨hq,hx⟩:=hg; have g:s.heap.get? a=some o:=(I.hok a _ hq).1; obtain ⟨f0,f1,f2,f3,f4,f5⟩:=hf it (by simp); exact walk_end (I.ok.hd hc) st g hd hx fun h' eb=>⟨rfl,I.turned (t':=s.toks) (fun b o hb e=>eb b o hb e) f0 f1 f3 f4 f5⟩
 self:=fun _ _ _ _ _ st h=>wpAny_pyIter_keyiter st h
section
variable {X:Cx} {sd:List Slot} {e tg iter:Expr} {pos:Pos} {d:D} {ds:List D} {κ:Type} [DecidableEq κ] {hk:HK X.prog X.w κ} {ks:List κ}
theorem pid_keysG (h:PEd X sd iter (.val (gD hk X.K ks ds))):PId X sd PT0 tg iter (ks.map hk.dat):= .mk fun σ F H S pins s I=>by
 refine thn (h σ F H S pins s I) fun v s1 ⟨x,H1,I1,r1,F1,S1,s1',q1⟩=> ?_
 obtain ⟨a,o,rfl,ha,t⟩:=gD_rep.mp q1; cases r1; obtain ⟨es,ep,vs,c,e,ez,r,hn⟩:=t.ents; have g:s1.heap.get? a=some o:=(I1.hok a _ (S1.sub _ _ ha)).1
 have hr:∀ (i:Nat) (h:i<es.size),∃b,es[i].key= .ref b:=fun i hi=>by
  have il:i<ks.length:=by rw [← ez]; exact hi
  obtain ⟨b,v,u,_,e2,e3,_⟩:=hn i ks[i] (by simp [il]); rw [iX hi] at e2; cases e2; exact ⟨b,e3⟩
 refine walk_new t.2.2.1 g c e ?_; refine ⟨s1.heap.objs.size,[s1.heap.objs.size],_,ItG a o es,H1,rfl,I1.kept (t':=s1.toks) fun b o e=>aM _ e,zY e hr _,⟨_,bF _ rfl,rfl,rfl⟩,fun b hb=> ?_,F1,S1,s1',fun F' H' sF sH sm _ i=> ?_⟩
 ·have e:b=s1.heap.objs.size:=by simpa using hb
  subst e; exact I1.fpOk (aZ _) (I1.hok.fresh (aZ _))
 ·have ha':=sH _ _ (sF _ _ ha); refine ⟨fun hi=>⟨ha',by rw [ez]; rw [aB] at hi; exact hi⟩,fun hi=>⟨ha',by rw [ez]; rw [aB] at hi; exact hi⟩,fun x H2 dd hdd y=> ?_⟩; obtain ⟨rfl,u,b,e1,e2,rfl⟩:=y; rw [aI] at hdd; obtain ⟨k,hk1,rfl⟩:=gB.mp hdd; obtain ⟨b',v,u',_,e4,e5,_,rl⟩:=hn i k hk1; rw [e1] at e4; cases e4; rw [e2] at e5; cases e5; exact ⟨F',Same.refl _,hk.back (hk.mono sF rl),fun _ _ _ S=>S⟩
end
noncomputable def xS (d:Addr):Obj:={cls:= .type "dict_items",data:= .fields #[.ref d]}
noncomputable def rItems:V→List V→Hp→VK→Prop:=fun x vs H Q=>∃l o,x= .ref l∧vs=[]∧H l=some (exO l o)∧o.ExactDict∧(l==sysModules)=false∧∀p,H p=none→Q (.ref p) (upd H p (exO p (xS l)))
section
variable {X:Cx} {o:Expr} {to:TE} {name:Str} {apos cpos:Pos} {id:String} {r:V→List V→Hp→VK→Prop}
theorem mt_items:MtR X "dict.items" rItems:=by intro pins s σ H x vs v us Q I rx rv h; obtain ⟨l,o,rfl,rfl,hl,c,sm,q⟩:=h; obtain rfl:v=Value.ref l:=rx; cases rv; have g:s.heap.get? l=some o:=(I.hok l _ hl).1; exact call_meetsIn uV (wD g c) PySem.F.entry_dict_items (PySem.F.args_dict_items_1 _) (view_new (R:=fun _ _=>True) sm) ⟨⟨o,g,c⟩, .ref s.heap.objs.size,_,I.laid (a:=s.heap.objs.size) (o:=exO s.heap.objs.size (xS l)) (t':=s.toks) (fun _ _ q=>aM _ q) (aZ _) (yT (bF _ rfl)),rfl,q _ (I.hok.fresh (aZ _))⟩
theorem pe_dm0 (pa:PlainAttrs "dict") (slot:PySem.Slot "dict" name id) (hty:typeOf (.builtin id)=pure (.type "method_descriptor")) (hm:MtR X id r) (ho:PE X o to)
  (hbase:attributeBase o name X.env (eval o X.env)=eval o X.env:=by rfl) (hline:(apos.endLine==cpos.line)=true:=by rfl):PE X (.Call (.Attribute o name apos) [] [] cpos) (fun σ H Q=>to σ H fun x H1=>(∃l ob,x= .ref l∧H1 l=some (exO l ob)∧ob.ExactDict)∧r x [] H1 Q):=by
 intro pins s σ H Q I h; refine wpAny_Call_method0_late hbase hline (thn (ho pins s σ H _ I h) fun v s1 ⟨x,H1,I1,r1,⟨l,ob,e1,e2,e3⟩,q1⟩=> ?_); subst e1; obtain rfl:v=Value.ref l:=r1; have hg:s1.heap.get? l=some ob:=(I1.hok l _ e2).1; exact ⟨"dict",id,pa,slot,hty,⟨ob,hg,e3.1⟩,fun a q=>by cases q; exact ⟨ob,hg,e3.2.1⟩,Calls.callWith_builtin rfl (PySem.evalArgs_none (hm pins s1 σ H1 (.ref l) [] (.ref l) [] Q I1 rfl .nil q1))⟩
end
theorem entry_ii:entryFor table "dict_itemiterator.__iter__"=some Builtin.«dict_keyiterator.__iter__»:=entryFor_alias (id':="dict_keyiterator.__iter__") (by kernel_rfl) rfl (by decide+kernel) (by kernel_rfl)
noncomputable def ItI (a:Addr) (o:Obj) (es:Array DictEntry) (vs:List V):It where
 go:=fun i H=>H a=some (exO a o)∧i<es.size
 yld:=fun i H x H'=>∃q u b v,H q=none∧x= .ref q∧es[i]? =some u∧u.key= .ref b∧vs[i]? =some v∧H'=upd H q (.tup [.ref b,v])
 stop:=fun i H=>H a=some (exO a o)∧es.size≤i
theorem wU {P:Program} {w:World} {K:aD} {elts:List Expr} {kk:Nat} {pos:Pos} {a:Addr} {o:Obj} {es:Array DictEntry} {vs:List V} {ep:Nat} (hd:o.data= .dict es ep) (hr:∀ (i:Nat) (h:i<es.size),∃b v,es[i].key= .ref b∧vs[i]? =some v∧RelV v es[i].val) (it:Addr):xJ P w K (.Tuple elts kk pos) (ItI a o es vs) [it] it (fun i h=>∃ok ov,IsItemIter h it a i es.size ep ok ov) where
 mem:=by simp
 obj:=fun i h st b hb=>by
  have e:b=it:=by simpa using hb
  subst e; obtain ⟨ok,ov,e⟩:=st; exact ⟨_,e,fun v z=>by cases z⟩
 keep:=fun i h h' st k=>by obtain ⟨ok,ov,e⟩:=st; exact ⟨ok,ov,k it (by simp) _ e⟩
 item:=by
  intro X hP hw hK hc i pins s σ H E I hf st hg; subst hP hw hK; obtain ⟨hq,hx⟩:=hg; obtain ⟨ok,ov,st⟩:=st; obtain ⟨b,v,hb,hv,rv⟩:=hr i hx; have g:s.heap.get? a=some o:=(I.hok a _ hq).1; have f:=hf it (by simp); obtain ⟨f0,f1,f2,f3,f4,f5⟩:=f; have isz:it<s.heap.objs.size:=bA st; refine item_next st g hd hx fun h1 io ht hz kp=>⟨_,rfl,wpAny_letOwnedTupleGo_items io fun h2 ii sb=> ?_⟩
  have sb:Heap.SameBut it h1 h2:=sb; have I1:Inv X pins σ H {s with heap:=h2}:=I.turned (t':=s.toks) (fun b o hb e=>(sb.2 b hb).trans (kp b o hb e)) f0 f1 f3 f4 f5; have hn:H s.heap.objs.size=none:=I.hok.fresh (aZ _); have g2:h2.get? s.heap.objs.size=some {cls:= .type "tuple",data:= .seq #[es[i].key,es[i].val]}:=(sb.2 _ (jR isz)).trans ht
  have I2:Inv X pins σ (upd H s.heap.objs.size (.tup [.ref b,v])) {s with heap:=h2}:=by
   refine I1.track hn I.sz (jR I.lt) (fun y c q=> ?_) (fun y hy=> ?_) ⟨by show 2≤sizeLine; decide,[es[i].key,es[i].val], .cons hb (.cons rv .nil),⟨_,g2,rfl,⟨_,rfl⟩,rfl⟩⟩
   ·obtain ⟨v,o,ho,_⟩:=I.cell y c q; exact cG (bA ho)
   ·exact cG (bA (I.pin y hy).1)
  refine ⟨.ref s.heap.objs.size,_,I2,rfl,⟨_,es[i],b,v,hn,rfl,by simp [hx],hb,hv,rfl⟩,⟨_,_,ii⟩,fun b hb=> ?_⟩; have z:b=it:=by simpa using hb
  subst z; rw [bM (cG isz)]; exact f0
 done:=by intro X hP hw hK hc i pins s σ H E I hf st hg; subst hP hw hK; obtain ⟨hq,hx⟩:=hg; obtain ⟨ok,ov,st⟩:=st; have g:s.heap.get? a=some o:=(I.hok a _ hq).1; obtain ⟨f0,f1,f2,f3,f4,f5⟩:=hf it (by simp); exact item_end (I.ok.hd hc) st g hd hx fun h' eb=>⟨rfl,I.turned (t':=s.toks) (fun b o hb e=>eb b o hb e) f0 f1 f3 f4 f5⟩
 self:=fun _ _ _ _ _ st h=>by obtain ⟨ok,ov,st⟩:=st; have ty:Shared.TypeIs _ (.ref it) "dict_itemiterator":=⟨_,st,rfl⟩; exact wpAny_pyIter_slot ty nQ (wpAny_call_entry nQ ty entry_ii (wpAny_pure ⟨_,rfl,"dict_itemiterator",_,ty,PySem.F.slot_dict_itemiterator_next.lookup,h⟩) (PySem.F.args_dict_itemiterator_iter_1 _))
section
variable {X:Cx} {sd:List Slot} {e:Expr} {pos ap cp tp:Pos} {d:D} {ds:List D} {κ:Type} [DecidableEq κ] {hk:HK X.prog X.w κ} {ks:List κ} {elts:List Expr} {kk:Nat}
theorem sA (h:PEd X sd e (.val (gD hk X.K ks ds))) (hbase:attributeBase e "items" X.env (eval e X.env)=eval e X.env:=by rfl) (hline:(ap.endLine==cp.line)=true:=by rfl):
  PId X sd PT0 (.Tuple elts kk tp) (.Call (.Attribute e "items" ap) [] [] cp) ((ks.zip ds).map fun p=> .tup [hk.dat p.1,p.2]):= .mk fun σ F H S pins s I=>by
 have he:wE X (.Call (.Attribute e "items" ap) [] [] cp) σ H (fun v H1=>∃F1 a o p,v= .ref p∧H1 p=some (exO p (xS a))∧StF X.K X.B₀ F1 H1 σ sd∧Same F F1∧F1 a=some (exO a o)∧TG hk X.K F1 a o ks ds):=(pe_dm0 lT uV PySem.F.type_dict_items mt_items fH hbase hline).to ((h σ F H S).imp fun v H1 ⟨F1,S1,s1,q1⟩=>by
  obtain ⟨a,o,rfl,ha,t⟩:=gD_rep.mp q1; obtain ⟨es,ep,vs,c,_⟩:=t.ents; have hl:=S1.sub _ _ ha; refine ⟨⟨a,o,rfl,hl,c⟩,a,o,rfl,rfl,hl,c,t.2.2.1,fun p hp=> ?_⟩; obtain ⟨S2,s2⟩:=S1.lay (o:=exO p (xS a)) hp trivial
  exact ⟨_,a,o,p,rfl,bZ,S2,s1.trans s2,s2 _ _ ha,t.mono s2⟩)
 refine thn (he pins s I) fun v s1 ⟨x,H1,I1,r1,F1,a,o,p,ex,hp,S1,s1',ha,t⟩=> ?_
 subst ex; cases r1; obtain ⟨es,ep,vs,c,e,ez,r,hn⟩:=t.ents; have g:s1.heap.get? a=some o:=(I1.hok a _ (S1.sub _ _ ha)).1; have gp:s1.heap.get? p=some (xS a):=(I1.hok p _ hp).1
 have hr:∀ (i:Nat) (h:i<es.size),∃b v,es[i].key= .ref b∧vs[i]? =some v∧RelV v es[i].val:=fun i hi=>by
  have il:i<ks.length:=by rw [← ez]; exact hi
  obtain ⟨b,v,u,e1,e2,e3,e4,_⟩:=hn i ks[i] (by simp [il]); rw [iX hi] at e2; cases e2; exact ⟨b,v,e3,e1,e4⟩
 refine view_iter ⟨_,gp,rfl,rfl⟩ g e ?_; have zl:((ks.zip ds).map fun p=>D.tup [hk.dat p.1,p.2]).length=es.size:=by rw [aB,tI,← t.1,Nat.min_self,ez]
 refine ⟨s1.heap.objs.size,[s1.heap.objs.size],_,ItI a o es vs,H1,rfl,I1.kept (t':=s1.toks) fun b o e=>aM _ e,wU e hr _,⟨_,_,bF _ rfl⟩,fun b hb=> ?_,F1,S1,s1',fun F' H' sF sH sm _ i=> ?_⟩
 ·have e:b=s1.heap.objs.size:=by simpa using hb
  subst e; exact I1.fpOk (aZ _) (I1.hok.fresh (aZ _))
 ·have ha':=sH _ _ (sF _ _ ha); refine ⟨fun hi=>⟨ha',by rw [← zl]; exact hi⟩,fun hi=>⟨ha',by rw [← zl]; exact hi⟩,fun x H2 dd hdd y=> ?_⟩; obtain ⟨q,u,b,v,hq,rfl,e1,e2,e3,rfl⟩:=y; rw [aI] at hdd; obtain ⟨⟨k,dv⟩,hz,rfl⟩:=gB.mp hdd; obtain ⟨hk1,hd1⟩:=lF.mp hz; obtain ⟨b',v',u',e0,e4,e5,_,rl⟩:=hn i k hk1; rw [e1] at e4; cases e4; rw [e2] at e5; cases e5; obtain ⟨v2,e6,rv⟩:=r.get hd1; rw [e3] at e6; cases e6; have fq:F' q=none:=sH.free hq; have s2:Same F' (upd F' q (.tup [.ref b,v])):=fun c u z=>by rw [bM (cF z fq)]; exact z
  refine ⟨upd F' q (.tup [.ref b,v]),s2, ?_,fun H₀ σ sd S=>(S.lay (o:= .tup [.ref b,v]) hq trivial).1⟩; simp only [Rep]; exact ⟨q,_,rfl,bZ, .cons (hk.back (hk.mono (sF.trans s2) rl)) (.one (rv.mono (sF.trans s2)))⟩
end
theorem rP {κ:Type} [DecidableEq κ]:∀ {ks:List κ} {xs:List V} {k:κ} {z:V},gH (ks.zip xs) k=some z→∃n:Nat,ks[n]? =some k∧xs[n]? =some z
 | [],_,_,_,h=>by cases h
 | _::_,[],_,_,h=>by cases h
 | j::js,y::ys,k,z,h=>by
  rw [hJ] at h
  by_cases e:j=k
  ·rw [gY (p:=(j,y)) e] at h; cases h; exact ⟨0,by simp [e],rfl⟩
  ·rw [gG (p:=(j,y)) e] at h; obtain ⟨n,h1,h2⟩:=rP h; exact ⟨n+1,by simpa using h1,by simpa using h2⟩
structure LyOk (K:aD) (F H:Hp) (p:Int) (L:Int→List D) (kvs:List (Key × V)) (ls:List Addr):Prop where
 live:∃ (lk:List Int) (dss:List (List D)),lk.Nodup∧lk.length=ls.length∧InD K F H ls dss∧(∀k,p<k→gH kvs (.inl k)=gH (lk.zip (ls.map V.ref)) k)∧(∀ (n:Nat) (k:Int),lk[n]? =some k→p<k∧dss[n]? =some (L k))∧∀k,p<k→k∉lk→L k=[]
 cur:(gH kvs (.inl p)=none∧L p=[])∨∃v,gH kvs (.inl p)=some v∧Rep K F (.lst (L p)) v
noncomputable def GLy (K:aD) (l:Addr) (p:Int) (L:Int→List D) (kvs:List (Key × V)) (ls:List Addr):V→Hp→Hp→Prop:=fun v F H=>v= .ref l∧H l=some (.dK kvs)∧LyOk K F H p L kvs ls
noncomputable def oLy (K:aD) (l:Addr) (p:Int) (L:Int→List D) (kvs:List (Key × V)) (ls:List Addr):Slot:= .ox (l::ls) (GLy K l p L kvs ls)
section
variable {K:aD} {H₀ F F' H H':Hp} {σ:St} {sd:List Slot} {i:Nat} {l:Addr} {p:Int} {L:Int→List D} {ls:List Addr} {kvs:List (Key × V)}
theorem LyOk.mono (o:LyOk K F H p L kvs ls) (s:Same F F') (k:∀a∈ls,∀ob,H a=some ob→H' a=some ob):LyOk K F' H' p L kvs ls:=by
 obtain ⟨⟨lk,dss,h1,h2,h3,h4,h5,h6⟩,h7⟩:=o; refine ⟨⟨lk,dss,h1,h2,h3.mono2 s k,h4,h5,h6⟩, ?_⟩
 rcases h7 with h | ⟨v,q1,q2⟩
 ·exact .inl h
 ·exact .inr ⟨v,q1,q2.mono s⟩
theorem kW (S:StF K H₀ F H σ sd) (hs:sd[i]? =some (oLy K l p L kvs ls)):σ[i]? =some (some (.ref l))∧(∀a∈l::ls,F a=none)∧(H l=some (.dK kvs)∧LyOk K F H p L kvs ls)∧(l::ls).Nodup:=by
 obtain ⟨o,h1,v,h2,h3,h4⟩:=S.slots.get hs; obtain ⟨e,g⟩:=h4 F H (Same.refl _) fun _ _ _ q=>q
 subst e h2; exact ⟨h1,fun a ha=>(h3 a ha).1,g,sG S.nd hs⟩
theorem pG (hF:∀a∈l::ls,F a=none) (h1:H l=some (.dK kvs)) (o:LyOk K F H p L kvs ls):kP K F H (oLy K l p L kvs ls) (some (.ref l)):=by
 refine ⟨.ref l,rfl,fun a ha=>⟨hF a ha, ?_⟩,fun F' H' s k=>⟨rfl,k l bB _ h1,o.mono s fun a ha ob e=>k a (aU _ ha) ob e⟩⟩
 rcases cJ.mp ha with rfl | ha
 ·exact ⟨_,h1,trivial⟩
 ·obtain ⟨⟨lk,dss,_,_,h3,_⟩,_⟩:=o; obtain ⟨t,ht⟩:=cH ha; obtain ⟨_,xs,_,q,_⟩:=h3.get ht; exact ⟨_,q,trivial⟩
theorem InD.erase:∀ {as:List Addr} {dss:List (List D)} (n:Nat),InD K F H as dss→InD K F H (as.eraseIdx n) (dss.eraseIdx n)
 | [],[],n,h=>by simp; exact h
 | [],_::_,_,h=>h.elim
 | _::_,[],_,h=>h.elim
 | a::as,ds::dss,0,h=>h.2
 | a::as,ds::dss,n+1,h=>⟨h.1,InD.erase n h.2⟩
theorem uC:∀ {lk:List Int} {vs:List V} {n:Nat} {q k:Int},lk[n]? =some q→k≠q→gH ((lk.eraseIdx n).zip (vs.eraseIdx n)) k=gH (lk.zip vs) k
 | [],_,n,_,_,h,_=>by simp at h
 | j::js,[],n,q,k,h,ne=>by cases n<;>simp [List.eraseIdx]
 | j::js,y::ys,0,q,k,h,ne=>by
  have:j=q:=by simpa using h
  subst this; rw [hJ,gG (p:=(j,y)) (fun e=>ne e.symm)]; rfl
 | j::js,y::ys,n+1,q,k,h,ne=>by
  have ih:=uC (vs:=ys) (show js[n]? =some q by simpa using h) ne; show gH ((j,y)::(js.eraseIdx n).zip (ys.eraseIdx n)) k=gH ((j,y)::js.zip ys) k
  by_cases e:j=k
  ·rw [gY (p:=(j,y)) e,gY (p:=(j,y)) e]
  ·rw [gG (p:=(j,y)) e,gG (p:=(j,y)) e,ih]
end
theorem uF {α β:Type} (f:α→β):∀ (l:List α) (n:Nat),(l.map f).eraseIdx n=(l.eraseIdx n).map f
 | [],_=>by simp
 | _::_,0=>rfl
 | a::l,n+1=>by show f a::(l.map f).eraseIdx n=f a::(l.eraseIdx n).map f; rw [uF f l n]
section
variable {X:Cx} {sd:List Slot} {e a b tg iter:Expr} {pos:Pos} {d:D} {ds:List D} {E:jU} {l:Addr} {ls:List Addr} {p:Int} {kvs:List (Key × V)} {L:Int→List D}
theorem psd_lyNew (p:Int) (i:Nat) {x:Str} {p1 p2:Pos} (hN:X.N.Nodup) (hi:X.N[i]? =some x) (hx:Loc X.env.scope x) (hE:∀l,E.nx (sd.set i (oLy X.K l p (fun _=>[]) [] []))) (hs:swapsWith (.Dict [] [] p2) (some (.Name x p1)) pos.line X.env=pure false:=by rfl)
  (hf:X.fn x=true∨X.env.scope.names.lookup x=some .local:=by first | exact .inl rfl | exact .inr rfl | assumption):PSd1 X sd (.Assign [.Name x p1] (.Dict [] [] p2) pos) E:= .mk fun σ F H S=>
 (sS hN hi hx pe_dnewK hs hf).to fun q hq=>by
  have fp:F q=none:=S.sub.free hq
  have no:q∉cO sd:=fun hl=>by obtain ⟨_,ob,h,_⟩:=S.slots.owns hl; rw [hq] at h; cases h
  have S1:StF X.K X.B₀ F (upd H q (.dK [])) σ sd:=by
   refine ⟨S.base,fun b u e=> ?_,oD S.smp q trivial,S.slots.mono (Same.refl _) fun l hl=> ?_,S.nd⟩
   ·rw [bM (cF e fp)]; exact S.sub _ _ e
   ·obtain ⟨n,ys,y,_⟩:=S.slots.owns hl; have hne:l≠q:=cF y hq; exact ⟨n,fun ys e=>by rw [bM hne]; exact e⟩
  refine ⟨_,F,S1.setT i (pG (K:=X.K) (ls:=[]) (kvs:=[]) (fun a ha=>by rw [aR.mp ha]; exact fp) bZ ⟨⟨[],[],gW,rfl,trivial,fun _ _=>rfl,fun n k e=>by simp at e,fun _ _ _=>rfl⟩, .inl ⟨rfl,rfl⟩⟩) (by simp) fun a ha=> ?_,Same.refl _,hE q⟩; rw [aR.mp ha]; exact no
theorem psd_lyN (i:Nat) {sts:List Stmt} (hs:sd[i]? =some (oLy X.K l p L kvs ls)) (h:∀ls',PSd X (sd.set i (oLy X.K l (p+1) L kvs ls')) sts E):PSd X sd sts E:= .mk fun σ F H S=>by
 obtain ⟨h1,h2,⟨g1,⟨lk,dss,o1,o2,o3,o4,o5,o6⟩,_⟩,nd⟩:=kW S hs
 by_cases q:p+1∈lk
 ·obtain ⟨n,hn⟩:=cH q; have nl:n<ls.length:=by rw [← o2]; exact (aH.mp hn).1
  have ha:ls[n]? =some ls[n]:=by simp [nl]
  generalize ls[n]=a at ha; have am:=aV ha; obtain ⟨ds,xs,d1,d2,d3⟩:=o3.get ha; rw [(o5 n _ hn).2] at d1; cases d1; have S0:=S.le (iL sd i); have no:∀b∈l::ls,b∉cO (sd.set i .un):=fun b hb z=>jQ S.nd hs hb z
  obtain ⟨S1,s1⟩:=S0.inN (l:=a) (ls:=[]) (fun b hb=>by rw [aR.mp hb]; exact h2 a (aU _ am)) fun b hb=>by rw [aR.mp hb]; exact no a (aU _ am)
  have fa:(inF F H [a]) a=some (.lst xs):=by rw [inF_in bB]; exact d2
  obtain ⟨nd1,nd2⟩:=bW.mp nd
  have ne:∀b∈ls.eraseIdx n,b≠a:=fun b hb z=>by obtain ⟨m,mn,hm⟩:=qY.mp hb; subst z; obtain ⟨m1,e1⟩:=aH.mp hm; obtain ⟨n1,e2⟩:=aH.mp ha; exact mn ((gF nd2).mp (e1.trans e2.symm))
  have sub:∀b∈l::ls.eraseIdx n,b∈l::ls:=fun b hb=>(cJ.mp hb).elim (fun z=>z▸bB) fun z=>aU _ ((jV ls n).subset z)
  have ok:LyOk X.K (inF F H [a]) H (p+1) L kvs (ls.eraseIdx n):=by
   refine ⟨⟨lk.eraseIdx n,dss.eraseIdx n,o1.sublist (jV _ _), ?_,(o3.erase n).mono2 s1 fun _ _ _ e=>e,fun k hk=> ?_,fun m k hm=> ?_,fun k hk hm=> ?_⟩, .inr ⟨.ref a, ?_, ?_⟩⟩
   ·rw [List.length_eraseIdx,List.length_eraseIdx,o2]
   ·rw [o4 k (by omega),← uF,uC hn (by omega)]
   ·have mk:∃j,j≠n∧lk[j]? =some k∧(dss.eraseIdx n)[m]? =dss[j]? :=by
     rw [List.getElem?_eraseIdx] at hm ⊢
     by_cases z:m<n
     ·rw [if_pos z] at hm ⊢; exact ⟨m,by omega,hm,rfl⟩
     ·rw [if_neg z] at hm ⊢; exact ⟨m+1,by omega,hm,rfl⟩
    obtain ⟨j,jn,e1,e2⟩:=mk; obtain ⟨e3,e4⟩:=o5 j k e1; refine ⟨?_,e2.trans e4⟩
    have:k≠p+1:=fun z=>by subst z; obtain ⟨j1,f1⟩:=aH.mp e1; obtain ⟨n1,f2⟩:=aH.mp hn; exact jn ((gF o1).mp (f1.trans f2.symm))
    omega
   ·refine o6 k (by omega) fun z=>hm ?_
    obtain ⟨j,hj⟩:=cH z; refine qY.mpr ⟨j,fun w=> ?_,hj⟩; subst w; rw [hn] at hj; cases hj; omega
   ·rw [o4 (p+1) (by omega)]; exact qO o1 hn (by rw [aI,ha]; rfl)
   ·simp only [Rep]; exact ⟨a,xs,rfl,fa,d3.mono s1⟩
  have S2:=S1.setT (v:= .ref l) i (pG (K:=X.K) (fun b hb=>by
   rw [vI (fun z=> ?_)]
   ·exact h2 b (sub b hb)
   ·rcases cJ.mp hb with rfl | hb
    ·exact nd1 ((aR.mp z)▸am)
    ·exact ne b hb (aR.mp z)) g1 ok) (bW.mpr ⟨fun z=>nd1 ((jV ls n).subset z),nd2.sublist (jV _ _)⟩) fun b hb=>no b (sub b hb)
  rw [kF,lH h1] at S2; exact lft_up s1 (h _ σ _ H S2)
 ·have ok:LyOk X.K F H (p+1) L kvs ls:=by
   refine ⟨⟨lk,dss,o1,o2,o3,fun k hk=>o4 k (by omega),fun n k hn=>⟨?_,(o5 n k hn).2⟩,fun k hk=>o6 k (by omega)⟩, .inl ⟨?_,o6 _ (by omega) q⟩⟩
   ·have:=(o5 n k hn).1; have:k≠p+1:=fun z=>q (z▸aV hn)
    omega
   ·rw [o4 _ (by omega)]; exact lN q
  have S2:=S.reT (z':=oLy X.K l (p+1) L kvs ls) hs h1 (fun b ob _ q=>q) S.smp (pG h2 g1 ok) nd fun a ha=> .inl ha
  exact h _ σ F H S2
theorem pd_lyGet (i:Nat) {x:Str} {p1 ap cp p5:Pos} (hu:X.A.units+1<cLine) (hs:sd[i]? =some (oLy X.K l p L kvs ls)) (hx:PE X (.Name x p1) (mQ i)) (hb:PEd X sd b (.val (.int p))) (m:M2 X (.Name x p1) "get" ap b (.List [] p5) cp):PEd X sd (.Call (.Attribute (.Name x p1) "get" ap) [b, .List [] p5] [] cp) (.val (.lst (L p))):= .mk fun σ F H S=>
 (pe_dget2 hu hx fH fH m).to (by
  obtain ⟨h1,_,⟨g1,_⟩,_⟩:=kW S hs; refine ⟨.ref l,h1,l,rfl, .inl ⟨kvs, .inl g1⟩,(hb σ F H S).imp fun v1 H1 ⟨F1,S1,s1,q1⟩=>((PEd.val (fJ (ds:=[]) aG (cW _)):PEd X sd (.List [] p5) (.val (.lst []))) σ F1 H1 S1).imp fun v2 H2 ⟨F2,S2,s2,q2⟩=> ?_⟩; obtain ⟨_,_,⟨g1,_,cur⟩,_⟩:=kW S2 hs; simp only [ResOk,Rep] at q1; subst q1; refine ⟨gH kvs (.inl p), .k (k:= .inl p) g1,F2,S2,s1.trans s2, ?_⟩
  rcases cur with ⟨e1,e2⟩ | ⟨v,e1,e2⟩
  ·rw [e1,e2]; exact q2
  ·rw [e1]
   exact e2)
end
noncomputable def kQ (L:Int→List D) (k:Int) (ds:List D):Int→List D:=fun j=>if j=k then ds else L j
theorem qM (L:Int→List D) (k:Int) (ds:List D):kQ L k ds k=ds:=if_pos rfl
theorem nI (L:Int→List D) {k j:Int} (ds:List D) (h:j≠k):kQ L k ds j=L j:=if_neg h
theorem nW {n:Nat} (h:n≤100000):n<sizeLine:=by have:=sizeLine_eq; omega
section
variable {K:aD} {F H:Hp} {p:Int} {L:Int→List D} {ls:List Addr} {kvs:List (Key × V)} {l a:Addr}
theorem LyOk.new {k:Int} (o:LyOk K F H p L kvs ls) (hk:p<k) (hn:gH kvs (.inl k)=none) (ha:H a=some (.lst [])):LyOk K F H p (kQ L k []) (kvs++[(.inl k, .ref a)]) (ls++[a]):=by
 obtain ⟨⟨lk,dss,o1,o2,o3,o4,o5,o6⟩,cur⟩:=o
 have nk:k∉lk:=fun z=>by have:=pH (xs:=ls.map V.ref) o1 (by rw [aB,o2]) z; rw [← o4 k hk,hn] at this; cases this
 have vs:∀j:Int,gH (kvs++[((.inl k:Key),V.ref a)]) (.inl j)=if j=k then some (.ref a) else gH kvs (.inl j):=fun j=>by
  rw [lI _ _ _ kvs hn]
  by_cases e:j=k
  ·rw [if_pos e,if_pos (congrArg Sum.inl e)]
  ·rw [if_neg e,if_neg fun z=>e (Sum.inl.inj z)]
 have vz:∀j:Int,gH ((lk++[k]).zip ((ls++[a]).map V.ref)) j=if j=k then some (.ref a) else gH (lk.zip (ls.map V.ref)) j:=fun j=>by rw [aT,List.zip_append (by rw [aB,o2])]; exact lI _ _ _ _ (lN nk)
 refine ⟨⟨lk++[k],dss++[[]],cI.mpr ⟨o1,by simp,fun x hx y hy e=>nk (by rw [← aR.mp hy,← e]; exact hx)⟩,by rw [aN,aN,o2]; rfl,InD.snoc o3 ha,fun j hj=>by rw [vs,vz,o4 j hj],fun n j hj=> ?_,fun j hj nj=> ?_⟩, ?_⟩
 ·have dl:dss.length=lk.length:=by rw [← o3.len,o2]
  by_cases z:n<lk.length
  ·rw [dU z] at hj; obtain ⟨e1,e2⟩:=o5 n j hj; refine ⟨e1, ?_⟩; rw [dU (by omega),e2,nI L [] (fun w=>nk (by rw [← w]; exact aV hj))]
  ·rw [iR (by omega)] at hj
   have n0:n - lk.length=0:=by have:=(aH.mp hj).1; simp at this; omega
   rw [n0] at hj; cases hj; refine ⟨hk, ?_⟩; rw [iR (by omega),dl,n0,qM]; rfl
 ·by_cases e:j=k
  ·rw [e,qM]
  ·rw [nI L [] e]; exact o6 j hj fun z=>nj (dH _ z)
 ·have ne:p≠k:=Int.ne_of_lt hk; rw [vs,if_neg ne,nI L [] ne]; exact cur
theorem LyOk.at {k:Int} {z:V} (o:LyOk K F H p L kvs ls) (hk:p<k) (hz:gH kvs (.inl k)=some z):∃ (n:Nat) (b:Addr) (xs:List V),z= .ref b∧ls[n]? =some b∧H b=some (.lst xs)∧RepL K F (L k) xs:=by obtain ⟨⟨lk,dss,o1,o2,o3,o4,o5,o6⟩,cur⟩:=o; rw [o4 k hk] at hz; obtain ⟨n,e1,e2⟩:=rP hz; rw [aI] at e2; obtain ⟨b,e3,rfl⟩:=gB.mp e2; obtain ⟨ds,xs,d1,d2,d3⟩:=o3.get e3; rw [(o5 n k e1).2] at d1; cases d1; exact ⟨n,b,xs,rfl,e3,d2,d3⟩
theorem LyOk.wr {k:Int} {b:Addr} {ds:List D} {ys:List V} (o:LyOk K F H p L kvs ls) (nd:ls.Nodup) (hk:p<k) (hz:gH kvs (.inl k)=some (.ref b)) (r:RepL K F ds ys):LyOk K F (upd H b (.lst ys)) p (kQ L k ds) kvs ls:=by
 obtain ⟨⟨lk,dss,o1,o2,o3,o4,o5,o6⟩,cur⟩:=o; have hz':=hz; rw [o4 k hk] at hz'; obtain ⟨n,e1,e2⟩:=rP hz'; rw [aI] at e2; obtain ⟨b',e3,e4⟩:=gB.mp e2; cases e4; have nl:n<dss.length:=by rw [← o3.len]; exact (aH.mp e3).1
 refine ⟨⟨lk,dss.set n ds,o1,o2,o3.set nd e3 r,o4,fun m j hj=> ?_,fun j hj nj=> ?_⟩, ?_⟩
 ·obtain ⟨f1,f2⟩:=o5 m j hj; refine ⟨f1, ?_⟩
  by_cases e:m=n
  ·subst e; rw [e1] at hj; cases hj; rw [jL nl,qM]
  ·have:j≠k:=fun z=>e (by
    subst z; obtain ⟨a1,a2⟩:=aH.mp hj; obtain ⟨b1,b2⟩:=aH.mp e1
    exact (gF o1).mp (a2.trans b2.symm))
   rw [jZ (Ne.symm e),f2,nI L ds this]
 ·have:j≠k:=fun z=>nj (z▸aV e1)
  rw [nI L ds this]; exact o6 j hj nj
 ·rw [nI L ds (Int.ne_of_lt hk)]; exact cur
end
section
variable {X:Cx} {sd:List Slot} {e a b:Expr} {pos:Pos} {d:D} {ds:List D} {E:jU} {l:Addr} {ls:List Addr} {p:Int} {kvs:List (Key × V)} {L:Int→List D}
theorem psd_lyApp (i:Nat) {x:Str} {p1 ap1 cp1 p5 ap cp:Pos} {k:Int} (hs:sd[i]? =some (oLy X.K l p L kvs ls)) (hx:PE X (.Name x p1) (mQ i)) (hb:PEd X sd b (.val (.int k))) (h:∀z,PEd X (sd.set i z) e (.val d)) (hpk:p<k) (hc:kvs.length≤100000) (hl:(L k).length≤100000)
  (hE:∀kvs' ls',kvs'.length≤kvs.length+1→E.nx (sd.set i (oLy X.K l p (kQ L k (L k++[d])) kvs' ls')))
  (hm:PE X (.Call (.Attribute (.Call (.Attribute (.Name x p1) "setdefault" ap1) [b, .List [] p5] [] cp1) "append" ap) [e] [] cp)
   (tBM X.K "list" qP (tBM X.K "dict" rSI (mQ i) (oM (wE X b) (oM (wE X (.List [] p5)) zG))) (oM (wE X e) zG)):=by exact xC jD tS tT uK (xC lT qK PySem.F.type_dict_setdefault mt_sdI (pv _) (jH fH (jH fH pa_nil))) (jH fH pa_nil))
  (hsw:swapsWith (.Call (.Attribute (.Call (.Attribute (.Name x p1) "setdefault" ap1) [b, .List [] p5] [] cp1) "append" ap) [e] [] cp) none pos.line X.env=pure false:=by rfl):
  PSd1 X sd (.Expr (.Call (.Attribute (.Call (.Attribute (.Name x p1) "setdefault" ap1) [b, .List [] p5] [] cp1) "append" ap) [e] [] cp) pos) E:= .mk fun σ F H S=>
 (qT hm hsw).to (by
  have il:i<sd.length:=(aH.mp hs).1
  have fin:∀ (F2 H2:Hp) (L2:Int→List D) (kvs2:List (Key × V)) (ls2:List Addr) (ad:Addr),StF X.K X.B₀ F2 H2 σ (sd.set i (oLy X.K l p L2 kvs2 ls2))→Same F F2→L2 k=L k→kQ L2 k (L k++[d])=kQ L k (L k++[d])→kvs2.length≤kvs.length+1→gH kvs2 (.inl k)=some (.ref ad)→
    tyV X.K "list" (.ref ad) H2∧(oM (wE X e) zG) σ H2 fun xs H3=>qP (.ref ad) xs H3 fun _ H4=>(lft X F E).nx σ H4:=fun F2 H2 L2 kvs2 ls2 ad S2 s2 eL eU hl2 hv=>by
   have hs2:(sd.set i (oLy X.K l p L2 kvs2 ls2))[i]? =some (oLy X.K l p L2 kvs2 ls2):=jL il; obtain ⟨_,_,⟨_,o⟩,_⟩:=kW S2 hs2; obtain ⟨n,b',xs,ez,hn,hb',rb⟩:=o.at hpk hv; cases ez; refine ⟨.inl ⟨rfl,xs, .of hb'⟩,(h _ σ F2 H2 S2).imp fun v H3 ⟨F3,S3,s3,q3⟩=> ?_⟩; obtain ⟨f1,f2,⟨f3,o'⟩,f5⟩:=kW S3 hs2; obtain ⟨n',b2,xs3,ez,hn',u2,u3⟩:=o'.at hpk hv; cases ez; obtain ⟨nd1,nd2⟩:=bW.mp f5; have am:=aV hn'; have nl:l≠ad:=fun z=>nd1 (z▸am)
   have o2:=o'.wr nd2 hpk hv (u3.app (.one q3))
   have W:StF X.K X.B₀ F3 (upd H3 ad (.lst (xs3++[v]))) σ ((sd.set i (oLy X.K l p L2 kvs2 ls2)).set i (oLy X.K l p (kQ L2 k (L2 k++[d])) kvs2 ls2)):=S3.reT (z':=oLy X.K l p (kQ L2 k (L2 k++[d])) kvs2 ls2) hs2 f1 (fun b ob hb q=>by
    rw [bM (show b≠ad from fun z=>hb (z▸aU _ am))]
    exact q) (oD S3.smp ad trivial) (pG f2 (by rw [bM nl]; exact f3) o2) f5 fun a ha=> .inl ha
   rw [kF,eL,eU] at W; exact ⟨ad,xs3,v,rfl,rfl,u2,by rw [u3.len,eL]; exact nW hl,_,F3,W,s2.trans s3,hE kvs2 ls2 hl2⟩
  obtain ⟨h1,h2,⟨h3,_⟩,_⟩:=kW S hs; refine ⟨.ref l,h1, .inr (.inr (.inl ⟨rfl, .inl ⟨_,h3⟩⟩)),(hb σ F H S).imp fun v1 H1 ⟨F1,S1,s1,q1⟩=>((fJ (ds:=[]) aG (cW _):PEd X sd (.List [] p5) (.own [])) σ F1 H1 S1).imp fun v2 H2 ⟨F2,S2,s2,q2⟩=> ?_⟩; obtain ⟨g1,g2,⟨g3,o⟩,g5⟩:=kW S2 hs; simp only [ResOk,Rep] at q1; subst q1; obtain ⟨a,xs,rfl,fa,ha2,rl2,na⟩:=q2; have xn:xs=[]:=fV (by rw [rl2.len]; rfl); subst xn; refine ⟨l, .inl k, .ref a,kvs,rfl,rfl,g3,nW hc,fun z hz=> ?_,fun hz=> ?_⟩
  ·obtain ⟨n,b',xs,ez,_⟩:=o.at hpk hz; subst ez; have S2':StF X.K X.B₀ F2 H2 σ (sd.set i (oLy X.K l p L kvs ls)):=by rw [slot_same hs]; exact S2
   exact fin F2 H2 L kvs ls b' S2' (s1.trans s2) rfl rfl (Nat.le_succ _) hz
  ·have hne:a∉l::ls:=fun z=>na (eG.mpr ⟨_,aV hs,z⟩)
   have hal:a≠l:=fun z=>hne (z▸bB)
   have e0:L k=[]:=by
    obtain ⟨⟨lk,dss,o1,o2,o3,o4,o5,o6⟩,_⟩:=o; refine o6 k hpk fun z=> ?_
    have:=pH (xs:=ls.map V.ref) o1 (by rw [aB,o2]) z; rw [← o4 k hpk,hz] at this; cases this
   have S3:StF X.K X.B₀ F2 (upd H2 l (.dK (kvs++[((Sum.inl k:Key),V.ref a)]))) σ (sd.set i (oLy X.K l p (kQ L k []) (kvs++[((Sum.inl k:Key),V.ref a)]) (ls++[a]))):=by
    refine S2.reT (z':=oLy X.K l p (kQ L k []) (kvs++[((Sum.inl k:Key),V.ref a)]) (ls++[a])) hs g1 (fun b ob hb q=> ?_) (oD (o:= .dK (kvs++[((Sum.inl k:Key),V.ref a)])) S2.smp l trivial) (pG (fun b hb=> ?_) bZ ?_) ?_ fun b hb=> ?_
    ·rw [bM (show b≠l from fun z=>hb (z▸bB))]; exact q
    ·rcases cJ.mp hb with rfl | hb
     ·exact g2 _ bB
     ·rcases bN.mp hb with hb | hb
      ·exact g2 b (aU _ hb)
      ·rw [aR.mp hb]; exact fa
    ·refine LyOk.new (o.mono (Same.refl _) fun b hb ob q=> ?_) hpk hz ?_
     ·rw [bM (show b≠l from fun z=>(bW.mp g5).1 (z▸hb))]; exact q
     ·rw [bM hal]; exact ha2
    ·show (l::(ls++[a])).Nodup; refine bW.mpr ⟨fun z=> ?_,cI.mpr ⟨(bW.mp g5).2,by simp,fun x hx y hy e=> ?_⟩⟩
     ·rcases bN.mp z with z | z
      ·exact (bW.mp g5).1 z
      ·exact hal (aR.mp z).symm
     ·rw [aR.mp hy] at e; exact hne (aU _ (e▸hx))
    ·rcases cJ.mp hb with rfl | hb
     ·exact .inl bB
     ·rcases bN.mp hb with hb | hb
      ·exact .inl (aU _ hb)
      ·rw [aR.mp hb]; exact .inr na
   refine fin F2 _ (kQ L k []) _ _ a S3 (s1.trans s2) (by rw [qM,e0]) (funext fun j=> ?_) (by rw [aN]; exact aZ _) (by rw [lI _ _ _ kvs hz,if_pos rfl]); unfold kQ
   by_cases z:j=k
   ·rw [if_pos z,if_pos z]
   ·rw [if_neg z,if_neg z,if_neg z])
theorem psd_lyPut (i:Nat) {x:Str} {p1 p2 p3:Pos} {j:Nat} {k:Int} (hs:sd[i]? =some (oLy X.K l p L kvs ls)) (h:PEd X sd e (.own ds)) (hpk:p<k) (hn:gH kvs (.inl k)=none) (hc:kvs.length≤100000) (hE:∀a ls',E.nx (sd.set i (oLy X.K l p (kQ L k ds) (kvs++[(.inl k, .ref a)]) ls')))
  (hm:PS X (.Assign [.Subscript (.Name x p1) (.Constant (.int k) j p3) p2] e pos) (sDPut (mQ i) (tC (.int k)) (wE X e))):PSd1 X sd (.Assign [.Subscript (.Name x p1) (.Constant (.int k) j p3) p2] e pos) E:= .mk fun σ F H S=>
 hm.to ((h σ F H S).imp fun v H1 ⟨F1,S1,s1,q1⟩=>by
  obtain ⟨g1,g2,⟨g3,o⟩,g5⟩:=kW S1 hs; obtain ⟨a,xs,rfl,fa,ha2,rl2,na⟩:=q1; have hne:a∉l::ls:=fun z=>na (eG.mpr ⟨_,aV hs,z⟩)
  have hal:a≠l:=fun z=>hne (z▸bB)
  refine ⟨.ref l,g1,l,_,rfl,DPut.k (k:= .inl k) g3 (nW hc), ?_⟩; rw [wQ _ hn]
  have o1:LyOk X.K F1 (upd (upd H1 a (.lst [])) l (.dK (kvs++[((Sum.inl k:Key),V.ref a)]))) p (kQ L k []) (kvs++[((Sum.inl k:Key),V.ref a)]) (ls++[a]):=by
   refine LyOk.new (o.mono (Same.refl _) fun b hb ob q=> ?_) hpk hn ?_
   ·rw [bM (show b≠l from fun z=>(bW.mp g5).1 (z▸hb)),bM (show b≠a from fun z=>hne (z▸aU _ hb))]; exact q
   ·rw [bM hal,bZ]
  have nd:(l::(ls++[a])).Nodup:=by
   refine bW.mpr ⟨fun z=> ?_,cI.mpr ⟨(bW.mp g5).2,by simp,fun x hx y hy e=> ?_⟩⟩
   ·rcases bN.mp z with z | z
    ·exact (bW.mp g5).1 z
    ·exact hal (aR.mp z).symm
   ·rw [aR.mp hy] at e; exact hne (aU _ (e▸hx))
  have o2:=o1.wr (bW.mp nd).2 hpk (by rw [lI _ _ _ kvs hn,if_pos rfl]) rl2
  have eH:upd (upd (upd H1 a (.lst [])) l (.dK (kvs++[((Sum.inl k:Key),V.ref a)]))) a (.lst xs)=upd H1 l (.dK (kvs++[((Sum.inl k:Key),V.ref a)])):=funext fun b=>by
   by_cases z:b=a
   ·rw [z,bZ,bM hal,ha2]
   ·rw [bM z]
    by_cases z2:b=l
    ·rw [z2,bZ,bZ]
    ·rw [bM z2,bM z,bM z2]
  have eL:kQ (kQ L k []) k ds=kQ L k ds:=funext fun j=>by
   unfold kQ
   by_cases z:j=k
   ·rw [if_pos z,if_pos z]
   ·rw [if_neg z,if_neg z,if_neg z]
  rw [eH,eL] at o2; refine ⟨_,F1,S1.reT (z':=oLy X.K l p (kQ L k ds) (kvs++[((Sum.inl k:Key),V.ref a)]) (ls++[a])) hs g1 (fun b ob hb q=> ?_) (oD (o:= .dK (kvs++[((Sum.inl k:Key),V.ref a)])) S1.smp l trivial) (pG (fun b hb=> ?_) bZ o2) nd (fun b hb=> ?_),s1,hE a _⟩
  ·rw [bM (show b≠l from fun z=>hb (z▸bB))]; exact q
  ·rcases cJ.mp hb with rfl | hb
   ·exact g2 _ bB
   ·rcases bN.mp hb with hb | hb
    ·exact g2 b (aU _ hb)
    ·rw [aR.mp hb]; exact fa
  ·rcases cJ.mp hb with rfl | hb
   ·exact .inl bB
   ·rcases bN.mp hb with hb | hb
    ·exact .inl (aU _ hb)
    ·rw [aR.mp hb]
     exact .inr na)
end
namespace S45
variable {T:Type} [DecidableEq T] (n:Nat) (pr:Nat→Int) (beh:Nat→T→T) (t0:T)
noncomputable abbrev Ent (T:Type):=Int × List Nat × T
noncomputable abbrev Lay (T:Type):=Int→List (List Nat × T)
noncomputable def tabQ (row:List Nat):T:=row.foldl (fun t k=>beh k t) t0
noncomputable def prQ (row:List Nat):Int:=(row.map pr).sum
theorem tab_snoc (row:List Nat) (k:Nat):tabQ beh t0 (row++[k])=beh k (tabQ beh t0 row):=by unfold tabQ; rw [jN]; rfl
theorem pr_snoc (row:List Nat) (k:Nat):prQ pr (row++[k])=prQ pr row+pr k:=by unfold prQ; rw [aT,List.sum_append]; simp
noncomputable def put (t:Int) (row:List Nat) (tab:T):Nat→Lay T→Lay T
 | 0,ly=>ly
 | k+1,ly=>fun j=>if j=t+pr k then put t row tab k ly j++[(row++[k],beh k tab)] else put t row tab k ly j
noncomputable def one (t:Int) (s:List (Ent T) × Lay T) (e:List Nat × T):List (Ent T) × Lay T:=if e.2∉s.1.map (fun x=>x.2.2)∧s.1.length≤600 then (s.1++[(t,e.1,e.2)],put pr beh t e.1 e.2 n s.2) else s
noncomputable def lay0:Lay T:=fun j=>if j=0 then [([],t0)] else []
noncomputable def run:Nat→List (Ent T) × Lay T
 | 0=>([],lay0 t0)
 | t+1=>((run t).2 t).foldl (one n pr beh t) (run t)
theorem nF (t:Int) (row:List Nat) (tab:T) (ly:Lay T):∀ (m:Nat) (j:Int) (x:List Nat × T),x∈put pr beh t row tab m ly j↔x∈ly j∨∃k,k<m∧j=t+pr k∧x=(row++[k],beh k tab)
 | 0,j,x=>by show x∈ly j↔_; exact ⟨.inl,fun h=>h.elim id fun ⟨k,hk,_⟩=>absurd hk (Nat.not_lt_zero k)⟩
 | m+1,j,x=>by
  have ih:=nF t row tab ly m j x; show x∈(if j=t+pr m then put pr beh t row tab m ly j++[(row++[m],beh m tab)] else put pr beh t row tab m ly j)↔_
  by_cases e:j=t+pr m
  ·rw [if_pos e,bN,ih,aR]
   constructor
   ·rintro ((h | ⟨k,hk,h⟩) | h)
    ·exact .inl h
    ·exact .inr ⟨k,by omega,h⟩
    ·exact .inr ⟨m,by omega,e,h⟩
   ·rintro (h | ⟨k,hk,h1,h2⟩)
    ·exact .inl (.inl h)
    ·by_cases z:k=m
     ·subst z; exact .inr h2
     ·exact .inl (.inr ⟨k,by omega,h1,h2⟩)
  ·rw [if_neg e,ih]
   constructor
   ·rintro (h | ⟨k,hk,h⟩)
    ·exact .inl h
    ·exact .inr ⟨k,by omega,h⟩
   ·rintro (h | ⟨k,hk,h1,h2⟩)
    ·exact .inl h
    ·by_cases z:k=m
     ·subst z; exact absurd h1 e
     ·exact .inr ⟨k,by omega,h1,h2⟩
structure Ok (t:Int) (rest:List (List Nat × T)) (s:List (Ent T) × Lay T):Prop where
 ent:∀e∈s.1,0≤e.1∧e.1≤t∧e.1=prQ pr e.2.1∧(∀k∈e.2.1,k<n)∧e.2.2=tabQ beh t0 e.2.1
 nd:(s.1.map fun x=>x.2.2).Nodup
 ly:∀ (j:Int) (x:List Nat × T),x∈s.2 j→j=prQ pr x.1∧(∀k∈x.1,k<n)∧x.2=tabQ beh t0 x.1∧(x.1=[]∨∃r k,x.1=r++[k]∧(prQ pr r,r,tabQ beh t0 r)∈s.1)
 par:∀ (i:Nat) (e:Ent T),s.1[i]? =some e→(e.2.1=[]∧i=0)∨∃r k i',e.2.1=r++[k]∧i'<i∧s.1[i']? =some (prQ pr r,r,tabQ beh t0 r)
 ch:∀e∈s.1,∀k,k<n→(e.2.1++[k],beh k e.2.2)∈s.2 (e.1+pr k)
 done:∀ (j:Int) (x:List Nat × T),j≤t→x∈s.2 j→(j=t∧x∈rest)∨(∃e∈s.1,e.2.2=x.2∧e.1≤j)∨600<(s.1.filter fun e=>decide (e.1≤j)).length
 sub:∀x∈rest,x∈s.2 t
 le:s.1.length≤601
variable {n pr beh t0}
theorem Ok.step (hp:∀k,k<n→1≤pr k) {t:Int} (ht:0≤t) {e:List Nat × T} {rest:List (List Nat × T)} {s:List (Ent T) × Lay T} (o:Ok n pr beh t0 t (e::rest) s):Ok n pr beh t0 t rest (one n pr beh t s e):=by
 have em:=o.sub e bB; obtain ⟨l1,l2,l3,l4⟩:=o.ly t e em; unfold one
 by_cases c:e.2∉s.1.map (fun x=>x.2.2)∧s.1.length≤600
 ·rw [if_pos c]; obtain ⟨c1,c2⟩:=c
  have old:∀ (j:Int) (x:List Nat × T),j≤t→x∈put pr beh t e.1 e.2 n s.2 j→x∈s.2 j:=fun j x hj hx=>by
   rcases (nF pr beh t e.1 e.2 s.2 n j x).mp hx with h | ⟨k,hk,h,_⟩
   ·exact h
   ·have:=hp k hk; omega
  refine ⟨fun x hx=> ?_, ?_,fun j x hx=> ?_,fun i x hx=> ?_,fun x hx k hk=> ?_,fun j x hj hx=> ?_,fun x hx=>(nF pr beh t e.1 e.2 s.2 n t x).mpr (.inl (o.sub x (aU _ hx))), ?_⟩
  ·rcases bN.mp hx with hx | hx
   ·exact o.ent x hx
   ·rw [aR.mp hx]; exact ⟨ht,lV _,l1,l2,l3⟩
  ·rw [aT]
   exact cI.mpr ⟨o.nd,by simp,fun x hx y hy z=>c1 (by
    have:y=e.2:=by simpa using hy
    rw [← this,← z]
    exact hx)⟩
  ·rcases (nF pr beh t e.1 e.2 s.2 n j x).mp hx with h | ⟨k,hk,h1,h2⟩
   ·obtain ⟨q1,q2,q3,q4⟩:=o.ly j x h; exact ⟨q1,q2,q3,q4.imp id fun ⟨r,k,z1,z2⟩=>⟨r,k,z1,dH _ z2⟩⟩
   ·rw [h2]; refine ⟨by rw [h1,pr_snoc,← l1],fun i hi=> ?_,by rw [tab_snoc,← l3], .inr ⟨e.1,k,rfl,aX _ (by rw [← l1,← l3]; exact eJ _)⟩⟩
    rcases bN.mp hi with hi | hi
    ·exact l2 i hi
    ·rw [aR.mp hi]; exact hk
  ·by_cases z:i<s.1.length
   ·rw [dU z] at hx
    rcases o.par i x hx with h | ⟨r,k,i',h1,h2,h3⟩
    ·exact .inl h
    ·exact .inr ⟨r,k,i',h1,h2,by rw [dU (by omega)]; exact h3⟩
   ·rw [iR (by omega)] at hx
    have i0:i - s.1.length=0:=by have:=(aH.mp hx).1; simp at this; omega
    rw [i0] at hx; have ex:(t,e.1,e.2)=x:=by simpa using hx
    subst ex
    rcases l4 with h | ⟨r,k,h1,h2⟩
    ·refine .inl ⟨h, ?_⟩
     have:s.1=[]:=by
      cases q:s.1 with
      | nil=>rfl
      | cons f fs=>
       exfalso; have f0:s.1[0]? =some f:=by rw [q]; rfl
       rcases o.par 0 f f0 with ⟨g1,_⟩ | ⟨_,_,i',_,g2,_⟩
       ·have fm:f∈s.1:=aV f0; obtain ⟨_,_,_,_,g5⟩:=o.ent f fm; refine c1 (aJ.mpr ⟨f,fm, ?_⟩); rw [g5,g1,l3,h]
       ·omega
     rw [this] at i0 z; simp at i0; exact i0
    ·obtain ⟨i',hi'⟩:=cH h2; have:=(aH.mp hi').1; exact .inr ⟨r,k,i',h1,by omega,by rw [dU this]; exact hi'⟩
  ·rcases bN.mp hx with hx | hx
   ·exact (nF pr beh t e.1 e.2 s.2 n _ _).mpr (.inl (o.ch x hx k hk))
   ·rw [aR.mp hx]; exact (nF pr beh t e.1 e.2 s.2 n _ _).mpr (.inr ⟨k,hk,rfl,rfl⟩)
  ·rcases o.done j x hj (old j x hj hx) with ⟨h1,h2⟩ | ⟨f,h1,h2,h3⟩ | h
   ·rcases cJ.mp h2 with h2 | h2
    ·refine .inr (.inl ⟨(t,e.1,e.2),aX _ (eJ _),by rw [h2], ?_⟩); rw [h1]; exact lV _
    ·exact .inl ⟨h1,h2⟩
   ·exact .inr (.inl ⟨f,dH _ h1,h2,h3⟩)
   ·refine .inr (.inr ?_); rw [List.filter_append,aN]; omega
  ·rw [aN]; show s.1.length+1≤601; omega
 ·rw [if_neg c]; refine ⟨o.ent,o.nd,o.ly,o.par,o.ch,fun j x hj hx=> ?_,fun x hx=>o.sub x (aU _ hx),o.le⟩
  rcases o.done j x hj hx with ⟨h1,h2⟩ | h
  ·rcases cJ.mp h2 with h2 | h2
   ·refine .inr ?_
    by_cases m:e.2∈s.1.map (fun x=>x.2.2)
    ·obtain ⟨f,f1,f2⟩:=aJ.mp m; exact .inl ⟨f,f1,by rw [h2]; exact f2,by rw [h1]; exact (o.ent f f1).2.1⟩
    ·refine .inr ?_; have:s.1.filter (fun e=>decide (e.1≤j))=s.1:=bU.mpr fun f hf=>decide_eq_true (by rw [h1]; exact (o.ent f hf).2.1)
     rw [this]; exact Nat.lt_of_not_le fun z=>c ⟨m,z⟩
   ·exact .inl ⟨h1,h2⟩
  ·exact .inr h
theorem Ok.fold (hp:∀k,k<n→1≤pr k) {t:Int} (ht:0≤t):∀ {rest:List (List Nat × T)} {s:List (Ent T) × Lay T},Ok n pr beh t0 t rest s→Ok n pr beh t0 t [] (rest.foldl (one n pr beh t) s)
 | [],_,o=>o
 | e::rest,s,o=>Ok.fold (rest:=rest) (s:=one n pr beh t s e) hp ht (o.step hp ht)
theorem ok_run (hp:∀k,k<n→1≤pr k):∀t:Nat,Ok n pr beh t0 (t:Int) ((run n pr beh t0 t).2 t) (run n pr beh t0 t)
 | 0=>by
  refine ⟨fun e h=>(nomatch h),gW,fun j x hx=> ?_,fun i e h=>by simp [run] at h,fun e h=>(nomatch h),fun j x hj hx=> ?_,fun x hx=>hx,cW _⟩
  ·have hx:x∈(if j=0 then [(([]:List Nat),t0)] else []):=hx
   by_cases z:j=0
   ·rw [if_pos z] at hx; rw [aR.mp hx,z]; exact ⟨rfl,fun k hk=>(nomatch hk),rfl, .inl rfl⟩
   ·rw [if_neg z] at hx; cases hx
  ·have hx2:x∈(if j=0 then [(([]:List Nat),t0)] else []):=hx
   by_cases z:j=0
   ·subst z; exact .inl ⟨rfl,hx⟩
   ·rw [if_neg z] at hx2; cases hx2
 | t+1=>by
  have o:=Ok.fold hp (jJ t) (ok_run hp t); have o:Ok n pr beh t0 (t:Int) [] (run n pr beh t0 (t+1)):=o; refine ⟨fun e he=> ?_,o.nd,o.ly,o.par,o.ch,fun j x hj hx=> ?_,fun x hx=>hx,o.le⟩
  ·obtain ⟨h1,h2,h3⟩:=o.ent e he; exact ⟨h1,by omega,h3⟩
  ·by_cases z:j≤(t:Int)
   ·rcases o.done j x z hx with ⟨_,h⟩ | h
    ·cases h
    ·exact .inr h
   ·have:j=((t+1:Nat):Int):=by omega
    subst this; exact .inl ⟨rfl,hx⟩
variable (n pr beh)
noncomputable def HoldsP (b:Int) (B:List (Ent T)):Prop:=(∃e∈B,e.2.1=[])∧∀e∈B,∀k,k<n→e.1+pr k≤b→∃e'∈B,e'.2.2=beh k e.2.2∧e'.1≤e.1+pr k
variable {n pr beh}
section
variable {t b:Int} {s:List (Ent T) × Lay T} {B:List (Ent T)}
theorem holds_all (hp:∀k,k<n→1≤pr k) (o:Ok n pr beh t0 t [] s) (hb:b≤t) (h0:0≤b) (ne:s.1≠[]) (hc:(s.1.filter fun e=>decide (e.1≤b)).length≤600) (hB:∀x,x∈B↔x∈s.1∧x.1≤b):HoldsP n pr beh b B:=by
 refine ⟨?_,fun e he k hk hle=> ?_⟩
 ·cases q:s.1 with
  | nil=>exact absurd q ne
  | cons f fs=>
   have f0:s.1[0]? =some f:=by rw [q]; rfl
   have fm:=aV f0
   rcases o.par 0 f f0 with ⟨g1,_⟩ | ⟨_,_,i',_,g2,_⟩
   ·refine ⟨f,(hB f).mpr ⟨fm, ?_⟩,g1⟩; have:=(o.ent f fm).2.2.1; rw [g1] at this; have:f.1=0:=this; omega
   ·omega
 ·obtain ⟨e1,e2⟩:=(hB e).mp he
  rcases o.done _ _ (by omega) (o.ch e e1 k hk) with ⟨_,h⟩ | ⟨f,h1,h2,h3⟩ | h
  ·cases h
  ·exact ⟨f,(hB f).mpr ⟨h1,by omega⟩,h2,h3⟩
  ·exfalso
   have mono:(s.1.filter fun f=>decide (f.1≤e.1+pr k)).length≤(s.1.filter fun f=>decide (f.1≤b)).length:=by rw [← tJ,← tJ]; exact List.countP_mono_left fun f _ hf=>decide_eq_true (Int.le_trans (of_decide_eq_true hf) hle)
   omega
end
end S45
end DL
namespace DL
open PySem PySem.Spec PyProof.Rows L2
section
variable {p:Int × Int} {L:List SK}
noncomputable def iB (p:Int × Int) (q:SQ):List Nat:=(cP p).map fun ws=>pT p (onQ p q ws)
noncomputable def hU (other one:List Nat):List Nat:=one.map fun i=>other.getD i 0
noncomputable def kR (p:Int × Int) (nb:List Nat):List (List Int):=nb.map fun i=>(cP p).getD i []
noncomputable def eO (p:Int × Int) (L:List SK) (k:Nat) (t:List (List Int)):List (List Int):=t.map (onQ p (L.getD k default).1)
noncomputable def prK (L:List SK) (k:Nat):Int:=(L.getD k default).2
noncomputable def mvD (p:Int × Int) (s:SK):D:= .tup [.int s.2, .tup (cE (iB p s.1))]
noncomputable def NOk (p:Int × Int) (nb:List Nat):Prop:=nb.length=(cP p).length∧∀i∈nb,i<(cP p).length
theorem nos_len (p:Int × Int) (q:SQ):(iB p q).length=(cP p).length:=by unfold iB; rw [aB]
theorem nos_at (q:SQ) {i:Nat} (hi:i<(cP p).length):(iB p q).getD i 0=pT p (onQ p q ((cP p).getD i [])):=by unfold iB; simp [cC,hi]
theorem filAt (hp:p∈bS) {i:Nat} (hi:i<(cP p).length):Fil p ((cP p).getD i []):=qV hp (getD_mem hi)
theorem nos_lt (hp:p∈bS) {q:SQ} (O:nL p q) {i:Nat} (hi:i<(cP p).length):(iB p q).getD i 0<(cP p).length:=by rw [nos_at q hi]; exact (yX hp (vS O (filAt hp hi))).2.1
theorem pick_ok (hp:p∈bS) {q:SQ} (O:nL p q) {nb:List Nat} (h:NOk p nb):NOk p (hU (iB p q) nb):=by refine ⟨by unfold hU; rw [aB]; exact h.1,fun i hi=> ?_⟩; obtain ⟨j,hj,rfl⟩:=aJ.mp hi; exact nos_lt hp O (h.2 j hj)
theorem rB (hp:p∈bS) {q:SQ} (O:nL p q) {nb:List Nat} (h:NOk p nb):kR p (hU (iB p q) nb)=(kR p nb).map (onQ p q):=by
 unfold kR hU; rw [aY,aY]; refine bI fun i hi=> ?_
 show (cP p).getD ((iB p q).getD i 0) []=onQ p q ((cP p).getD i []); rw [nos_at q (h.2 i hi)]; exact (yX hp (vS O (filAt hp (h.2 i hi)))).2.2
theorem yC (hp:p∈bS) {a b:List Nat} (ha:NOk p a) (hb:NOk p b) (h:kR p a=kR p b):a=b:=by
 refine jW (ha.1.trans hb.1.symm) fun i h1 h2=> ?_
 have e:(kR p a)[i]'(by unfold kR; rw [aB]; exact h1)=(kR p b)[i]'(by unfold kR; rw [aB]; exact h2):=by simp only [h]
 unfold kR at e; rw [dR,dR] at e; rw [← num_at hp (ha.2 _ (gX h1)),← num_at hp (hb.2 _ (gX h2)),e]
noncomputable def st0 (p:Int × Int):List Nat:=bJ (cP p).length
theorem st0_ok (p:Int × Int):NOk p (st0 p):=⟨by unfold st0; rw [iH],fun i hi=>bY.mp hi⟩
theorem tab_st0 (p:Int × Int):kR p (st0 p)=cP p:=by
 unfold kR st0; refine jW (by simp) fun i h1 h2=> ?_
 rw [dR,kY]; simp [cC,h2]
noncomputable def nrQ (p:Int × Int) (L:List SK) (row:List Nat):List Nat:=row.foldl (fun nb k=>hU (iB p (L.getD k default).1) nb) (st0 p)
theorem nr_snoc (row:List Nat) (k:Nat):nrQ p L (row++[k])=hU (iB p (L.getD k default).1) (nrQ p L row):=by unfold nrQ; rw [jN]; rfl
theorem sW (hp:p∈bS) (S:∀s∈L,nL p s.1):∀ {row:List Nat},iG L row→NOk p (nrQ p L row)∧kR p (nrQ p L row)=S45.tabQ (eO p L) (cP p) row:=fun {row}=>by
 have g:∀ (row:List Nat) (nb:List Nat) (t:List (List Int)),NOk p nb→kR p nb=t→iG L row→NOk p (row.foldl (fun nb k=>hU (iB p (L.getD k default).1) nb) nb)∧kR p (row.foldl (fun nb k=>hU (iB p (L.getD k default).1) nb) nb)=row.foldl (fun t k=>eO p L k t) t:=fun row=>by
  induction row with
  | nil=>exact fun nb t h1 h2 _=>⟨h1,h2⟩
  | cons k row ih=>
   intro nb t h1 h2 h3; have O:nL p (L.getD k default).1:=S _ (DL.getD_mem (h3 k bB)); refine ih _ _ (pick_ok hp O h1) ?_ fun j hj=>h3 j (aU _ hj)
   rw [rB hp O h1,h2]; rfl
 exact fun h=>g row (st0 p) (cP p) (st0_ok p) (tab_st0 p) h
end
open Classical in
noncomputable def rT (L:List SK) (d:D):SK:=if h:∃s,s∈L∧skD s=d then h.choose else default
theorem rO {L:List SK} (nd:(L.map fun s=>sqD s.1).Nodup) {s:SK} (h:s∈L):rT L (skD s)=s:=by
 have ex:∃z,z∈L∧skD z=skD s:=⟨s,h,rfl⟩; unfold rT; rw [dif_pos ex]; obtain ⟨h1,h2⟩:=ex.choose_spec; generalize ex.choose=z at h1 h2; obtain ⟨i,hi,ez⟩:=cN h1; obtain ⟨j,hj,es⟩:=cN h
 have e:sqD z.1=sqD s.1:=by
  have h2:D.tup [sqD z.1, .int z.2]=D.tup [sqD s.1, .int s.2]:=h2; injection h2 with h2
  exact (List.cons.inj h2).1
 have:i=j:=(gF (i:=i) (j:=j) (h₀:=by rw [aB]; exact hi) (h₁:=by rw [aB]; exact hj) nd).mp (by rw [dR,dR,ez,es,e]); subst this; exact ez.symm.trans es
noncomputable def CNos:List D→R→Prop:=fun ds r=>∃p q,p∈bS∧nL p q∧ds=[bO p,sqD q]∧r= .val (.tup (cE (iB p q)))
noncomputable def CMoves:List D→R→Prop:=fun ds r=>∃p L,p∈bS∧StkOk p L∧(L.map fun s=>sqD s.1).Nodup∧ds=[bO p, .lst (L.map skD)]∧r= .own (L.map (mvD p))
noncomputable def CNbeh:List D→R→Prop:=fun ds r=>∃one other:List Nat,one.length≤100∧(∀i∈one,i<other.length)∧ds=[.tup (cE one), .tup (cE other)]∧r= .val (.tup (cE (hU other one)))
noncomputable def CTfrom:List D→R→Prop:=fun ds r=>∃ (B:List (List Int)) (nb:List Nat),nb.length≤100∧(∀i∈nb,i<B.length)∧ds=[.lst (B.map aQ), .tup (cE nb)]∧r= .val (.tup ((nb.map fun i=>B.getD i []).map aQ))
noncomputable def CNrow:List D→R→Prop:=fun ds r=>∃p L row,p∈bS∧StkOk p L∧iG L row∧ds=[.lst (L.map (mvD p)), .tup (cE row), .tup (cE (st0 p))]∧r= .val (.tup (cE (nrQ p L row)))
section
variable {X:Cx} {sd:List Slot} {a b:Expr} {pos:Pos} {ds:List D} {κ:Type} [DecidableEq κ] {hk:HK X.prog X.w κ} {ks:List κ} {k:κ}
theorem pd_inG (hu:X.A.units+2<cLine) (ha:PEd X sd a (.val (hk.dat k))) (hb:PDc X sd b hk ks ds) (hm:behindInMarks .In b=false:=by with_unfolding_all rfl):PEd X sd (.Compare a [.In] [b] pos) (.val (.bl (decide (k∈ks)))):= .mk fun σ F H S=>
 (pe_cmpR (op_inG (hk:=hk)) fH fH hm).to ((ha σ F H S).imp fun v H1 ⟨F1,S1,s1,q1⟩=>(hb.get σ F1 H1 S1).imp fun u H2 ⟨F2,l,S2,s2,eu,g⟩=>by
  obtain ⟨ad,rfl,hr⟩:=hk.key q1; obtain ⟨o,g1,g2⟩:=g F2 H2 S2 (Same.refl _); refine ⟨F2,ad,l,o,k,ks,ds,rfl,eu,S2.sub,hk.mono s2 hr,g1,g2,hu,F2,S2,s1.trans s2, ?_⟩; simp only [ResOk,Rep]
  rfl)
end
section
variable {X:Cx} {sd:List Slot} {a b:Expr} {pos:Pos} {ds:List D} {κ:Type} [DecidableEq κ] {hk:HK X.prog X.w κ} {ks:List κ} {k:κ} {kk:Bool}
theorem rX (h:kk=true↔k∈ks):decide (k∈ks)=kk:=by
 cases kk with
 | true=>exact decide_eq_true (h.mp rfl)
 | false=>exact decide_eq_false fun z=>by cases h.mpr z
theorem pd_inK (h:kk=true↔k∈ks) (hu:X.A.units+2<cLine) (ha:PEd X sd a (.val (hk.dat k))) (hb:PDc X sd b hk ks ds) (hm:behindInMarks .In b=false:=by with_unfolding_all rfl):PEd X sd (.Compare a [.In] [b] pos) (.val (.bl kk)):=PEd.cast (pd_inG hu ha hb hm) (by rw [rX h])
theorem ptd_inK (h:kk=true↔k∈ks) (hu:X.A.units+2<cLine) (ha:PEd X sd a (.val (hk.dat k))) (hb:PDc X sd b hk ks ds) (hm:behindInMarks .In b=false:=by with_unfolding_all rfl):PTd X sd (.Compare a [.In] [b] pos) kk:=PTd.cast (ptd_inG hu ha hb hm) (rX h)
theorem rZ (h:kk=true↔k∈ks) (hu:X.A.units+2<cLine) (ha:PEd X sd a (.val (hk.dat k))) (hb:PDc X sd b hk ks ds) (hm:behindInMarks .NotIn b=false:=by with_unfolding_all rfl):PTd X sd (.Compare a [.NotIn] [b] pos) (!kk):=PTd.cast (ptd_ninG hu ha hb hm) (by rw [rX h])
end
theorem yY (bs:List Bool):((bJ bs.length).any fun i=>(bs[i]?).getD false)=bs.any id:=by
 apply dM.mpr; simp only [cX,bY,id_eq]
 constructor
 ·rintro ⟨i,hi,h⟩; exact ⟨bs[i],gX hi,by simpa [hi] using h⟩
 ·rintro ⟨b,hb,h⟩; obtain ⟨i,hi,rfl⟩:=cN hb; exact ⟨i,hi,by simpa [hi] using h⟩
section
variable {X:Cx} {sd:List Slot} {e:Expr} {pos:Pos}
theorem call_anyB (hc:X.calm=true):mO X (.builtin "any") (fun xs H Q=>∃ (a:Addr) (bs:List Bool),xs=[.ref a]∧SqL X.K H a (bs.map V.bl)∧Q (.bl (bs.any id)) H):=by
 intro pins s σ H xs us Q I r h; obtain ⟨a,bs,rfl,ha,q⟩:=h; obtain ⟨u,rfl,ru⟩:=pZ r; cases ru; obtain ⟨its,rv,p,hz⟩:=I.list ha; have hl:=rv.length; rw [aB] at hl; have isl:s.heap.IsList a its.toArray:=p.isList; have alt:a<s.heap.objs.size:=by obtain ⟨o,ho,_⟩:=isl; exact bA ho
 refine call_any_walk (wpAny_pyIter_list isl ?_); refine ⟨s.heap.objs.size,[s.heap.objs.size,a],[s.heap.objs.size],its.toArray.size,_,_,fun i=>(bs[i]?).getD false,rfl,Walks.list (A:=X.A.in1) (I.ok.hd hc) _ a (cG alt) its.toArray,⟨⟨_,bF _ rfl,rfl,rfl⟩,isl.push _⟩,fun i v s' Q' E' hP hQ=> ?_,fun h' tk hk=> ?_⟩
 ·obtain ⟨b,e,rfl⟩:=yL rv (by simpa using hP); simp only [e,Option.getD_some] at hQ; exact wpAny_truthy_bool hQ
 ·have e:((bJ its.toArray.size).any fun i=>(bs[i]?).getD false)=bs.any id:=by rw [aK,← hl]; exact yY bs
  rw [e]; refine ⟨.bl (bs.any id),H,I.kept (t':=tk) fun b o g=>hk b o (fun z=> ?_) (aM _ g),rfl,q⟩; have zb:b=s.heap.objs.size:=by simpa using z
  exact cG (bA g) zb
theorem pd_anyL {p:Pos} {bs:List Bool} (hg:Gl X "any") (hm:X.mg "any"=none) (ha:PEd X sd e (.bor (bs.map D.bl))) (hc:X.calm=true:=by rfl) (hst:starEach [e] X.env=(false,eval e X.env)::starEach [] X.env:=by rfl):PEd X sd (.Call (.Name "any" p) [e] [] pos) (.val (.bl (bs.any id))):=
 lJ (he:=hst) (call_anyB hc) hg hm boot_any (aC ha aG trivial hst) fun σ F H vs Q S q k=>by
  cases q with
  | cons q1 q2=>cases q2; obtain ⟨p,xs,rfl,hp,rl,_⟩:=q1; exact ⟨p,bs,rfl, .of (by rw [← rl.bls]; exact hp),k _ F H S (Same.refl _) (by simp only [ResOk,Rep])⟩
end
noncomputable abbrev Bk:=S45.Ent (List (List Int))
noncomputable def enD (e:Bk):D:= .tup [.int e.1, .tup (cE e.2.1), .tup (e.2.2.map aQ)]
structure BkOk (p:Int × Int) (L:List SK) (b:Int) (B:List Bk):Prop where
 len:B.length≤700
 ent:∀e∈B,e.1=S45.prQ (prK L) e.2.1∧e.1≤b∧iG L e.2.1∧e.2.1.length≤400∧e.2.2=S45.tabQ (eO p L) (cP p) e.2.1
 nd:(B.map fun e=>e.2.2).Nodup
noncomputable def jA (nb:List Nat):List Key:=nb.map fun (i:Nat)=>(Sum.inl (i:Int):Key)
theorem pN (nb:List Nat):tD (jA nb)= .tup (cE nb):=by unfold tD jA cE; rw [aY]; rfl
theorem sE:∀ {a b:List Nat},jA a=jA b→a=b
 | [],[],_=>rfl
 | [],_::_,h=>by cases h
 | _::_,[],h=>by cases h
 | x::a,y::b,h=>by
  have h:(Sum.inl (x:Int):Key)::jA a=(Sum.inl (y:Int):Key)::jA b:=h; injection h with h1 h2
  have:=Sum.inl.inj h1; rw [sE h2]; congr 1; omega
noncomputable def ksB (p:Int × Int) (L:List SK) (B:List Bk):List (List Key):=B.map fun e=>jA (nrQ p L e.2.1)
noncomputable def pcD (P:Program) (w:World) (K:aD) (p:Int × Int) (L:List SK) (B:List Bk):D:=gD (hkT P w) K (ksB p L B) (B.map fun e=> .int e.1)
theorem sum_pr (L:List SK) (row:List Nat):sumI (tN L row)=S45.prQ (prK L) row:=by
 unfold S45.prQ tN prK; generalize row.map (fun t=>(L.getD t default).2)=xs
 have g:∀n:Nat,sumI (xs.take n)=(xs.take n).sum:=fun n=>by
  induction n with
  | zero=>rfl
  | succ n ih=>
   by_cases h:n<xs.length
   ·rw [uL 0 h,sumI_snoc,ih,List.sum_append]; simp
   ·have e:xs.take (n+1)=xs.take n:=by rw [eW (by omega),eW (by omega)]
    rw [e,ih]
 have:=g xs.length; rw [cY] at this; exact this
section
variable {p:Int × Int} {L:List SK} {b:Int} {B:List Bk}
theorem BkOk.nr (hp:p∈bS) (S:StkOk p L) (O:BkOk p L b B) {e:Bk} (he:e∈B):NOk p (nrQ p L e.2.1)∧kR p (nrQ p L e.2.1)=e.2.2:=by obtain ⟨_,_,h3,_,h5⟩:=O.ent e he; obtain ⟨q1,q2⟩:=sW hp (fun s hs=>(S.st s hs).1) h3; exact ⟨q1,q2.trans h5.symm⟩
theorem BkOk.inj (hp:p∈bS) (S:StkOk p L) (O:BkOk p L b B) {x y:Bk} (hx:x∈B) (hy:y∈B) (h:nrQ p L x.2.1=nrQ p L y.2.1):x=y:=by
 have e:x.2.2=y.2.2:=by rw [← (O.nr hp S hx).2,← (O.nr hp S hy).2,h]
 obtain ⟨i,hi,ex⟩:=cN hx; obtain ⟨j,hj,ey⟩:=cN hy; have:i=j:=(gF (i:=i) (j:=j) (h₀:=by rw [aB]; exact hi) (h₁:=by rw [aB]; exact hj) O.nd).mp (by rw [dR,dR,ex,ey,e]); subst this; exact ex.symm.trans ey
end
noncomputable def oO (p:Int × Int) (L:List SK) (B:List Bk) (nb:List Nat) (m:Int):Bool:=B.any fun e=>decide (nrQ p L e.2.1=nb) && decide (e.1≤m)
noncomputable def CStands (P:Program) (w:World) (K:aD):List D→R→Prop:=fun ds r=>∃p L b B nb m,p∈bS∧StkOk p L∧BkOk p L b B∧ds=[pcD P w K p L B, .tup (cE nb), .int m]∧r= .val (.bl (oO p L B nb m))
noncomputable def cloQ (p:Int × Int) (L:List SK) (b:Int) (B:List Bk):Bool:=B.all fun e=>(bJ L.length).all fun k=> !decide (e.1+prK L k≤b) || oO p L B (hU (iB p (L.getD k default).1) (nrQ p L e.2.1)) (e.1+prK L k)
noncomputable def CClosed (P:Program) (w:World) (K:aD):List D→R→Prop:=fun ds r=>∃p L b B,p∈bS∧StkOk p L∧BkOk p L b B∧ds=[.lst (L.map (mvD p)), .int b,pcD P w K p L B]∧r= .val (.bl (cloQ p L b B))
noncomputable def CStart:List D→R→Prop:=fun ds r=>∃p L b B,BkOk p L b B∧0≤b∧ds=[.int b, .lst (B.map enD)]∧r= .val (.bl (B.any fun e=>decide (e.2.1=[])))
theorem uG {p:Int × Int} {L:List SK} {b:Int} {B:List Bk} (hp:p∈bS) (S:StkOk p L) (O:BkOk p L b B):((B.any fun e=>decide (e.2.1=[])) && cloQ p L b B)=true↔S45.HoldsP L.length (prK L) (eO p L) b B:=by
 rw [aP,cX]; unfold S45.HoldsP; refine and_congr ⟨fun ⟨e,h1,h2⟩=>⟨e,h1,of_decide_eq_true h2⟩,fun ⟨e,h1,h2⟩=>⟨e,h1,decide_eq_true h2⟩⟩ ?_; unfold cloQ; rw [bD]; refine ⟨fun h e he k hk hle=> ?_,fun h e he=> ?_⟩
 ·have:=bD.mp (h e he) k (bY.mpr hk); rw [decide_eq_true hle] at this; have:oO p L B (hU (iB p (L.getD k default).1) (nrQ p L e.2.1)) (e.1+prK L k)=true:=by simpa using this
  obtain ⟨x,x1,x2⟩:=cX.mp this; rw [aP] at x2; have y1:=of_decide_eq_true x2.1; refine ⟨x,x1, ?_,of_decide_eq_true x2.2⟩; obtain ⟨n1,n2⟩:=O.nr hp S he; have Ok:=(S.st _ (DL.getD_mem (d:=(default:SK)) hk)).1; rw [← (O.nr hp S x1).2,y1,rB hp Ok n1,n2]; rfl
 ·rw [bD]; intro k hk; have hk:=bY.mp hk
  by_cases hle:e.1+prK L k≤b
  ·obtain ⟨x,x1,x2,x3⟩:=h e he k hk hle; obtain ⟨n1,n2⟩:=O.nr hp S he; have Ok:=(S.st _ (DL.getD_mem (d:=(default:SK)) hk)).1
   have:oO p L B (hU (iB p (L.getD k default).1) (nrQ p L e.2.1)) (e.1+prK L k)=true:=cX.mpr ⟨x,x1,by
    rw [aP]; refine ⟨decide_eq_true (yC hp (O.nr hp S x1).1 (pick_ok hp Ok n1) ?_),decide_eq_true x3⟩; rw [(O.nr hp S x1).2,rB hp Ok n1,n2,x2]
    rfl⟩
   rw [this,Bool.or_true]
  ·rw [decide_eq_false hle]; rfl
section
variable {prog:Program} {w:World} {A:Around} {E:Value→Shared→Prop} {s:Shared} {r:Addr} {n:Nat} {t u v:Tok}
theorem vU {Q:List Value→Shared→Prop} (hh:A.handled=none) (ir:IsRange s.heap r 0 (n:Int) 1 t u v) (hn:n≤1000)
  (q:∀ (h':Heap) (tk:Nat) (acc:Array Value),(∀b o,s.heap.get? b=some o→h'.get? b=some o)→ItemsOf (fun i v=>∃t,v= .int (0+i * 1) t) acc n→Q acc.toList {s with heap:=h',toks:=tk}):wpAny (model prog w) A (collect (.ref r)) Q E s:=by
 have sz:Builtin.Range.rangeSize 0 (n:Int) 1=(n:Int):=by
  rw [rangeSize_one]
  split<;>omega
 have fin:∀ (h':Heap) (tk:Nat) (acc:Array Value) (c':Nat),(∀b o,s.heap.get? b=some o→h'.get? b=some o)→h'.get? s.heap.objs.size=some {cls:= .type "list",dict:=none,data:= .seq acc c',slots:= #[]}→ItemsOf (fun i v=>∃t,v= .int (0+i * 1) t) acc n→wpAny (model prog w) A (do
   let o ← load s.heap.objs.size
   match o.data with
   | .seq xs _=>pure xs.toList
   | _=>unsupported "internal:collect") Q E {s with heap:=h',toks:=tk}:=fun h' tk acc c' k1 k2 k3=>wpAny_bind (wpAny_load k2 (wpAny_pure (q h' tk acc k1 k3)))
 have new:(s.heap.push {cls:= .type "list",data:= .seq ([]:List Value).toArray}).get? s.heap.objs.size=some {cls:= .type "list",data:= .seq #[]}:=bF _ rfl; have main:=wpAny_extend_range (prog:=prog) (w:=w) (A:=A) (s:={s with heap:=s.heap.push {cls:= .type "list",data:= .seq ([]:List Value).toArray}}) (R:=fun (x:Result) (st:Shared)=>∃ (h':Heap) (tk:Nat) (acc:Array Value) (c':Nat),x= .ok (.ret (.ref s.heap.objs.size))∧st={s with heap:=h',toks:=tk}∧(∀b o,s.heap.get? b=some o→h'.get? b=some o)∧h'.get? s.heap.objs.size=some {cls:= .type "list",dict:=none,data:= .seq acc c',slots:= #[]}∧ItemsOf (fun i v=>∃t,v= .int (0+i * 1) t) acc n) hh (aM _ ir) (small_one (by omega) (by omega) (by omega) (by omega)) sz (by omega) s.heap.objs.size (.ref s.heap.objs.size) 0 new fun h' tk acc c' k1 k2 k3=>⟨h',tk,acc,c',rfl,rfl,fun b o g=>k1 b o (cG (bA g)) (aM _ g),k2,k3⟩
 unfold collect; refine wpAny_bind (wpAny_runValue (codeAny_builtin entry_proto_collect' ?_)); rw [Around.under_plainId PySem.F.plain_proto_collect _]; refine wpAny_bind (m:=newList []) (wpAny_newObj_type (wpAny_pure ⟨plainId_quiet uW _,codeAny_builtin entry_list_iadd' ?_⟩)); rw [Around.under_plainId uW _]; refine wpAny_mono main (fun z st x=> ?_) fun z st x=> ?_
 ·cases z with
  | done f=>obtain ⟨h',tk,acc,c',e,rfl,k1,k2,k3⟩:=x; cases e; exact fin h' tk acc c' k1 k2 k3
  | again c1=>refine ⟨x.1,codeAny_mono x.2 fun y st y2=> ?_⟩; obtain ⟨h',tk,acc,c',rfl,rfl,k1,k2,k3⟩:=y2; exact fin h' tk acc c' k1 k2 k3
 ·obtain ⟨_,_,_,_,e,_⟩:=x; cases e
theorem vJ (r:Addr) (n:Nat) (t u v:Tok) (hn:n≤1000):Meets (Builtin.«tuple.__new__» ⟨[.type "tuple", .ref r],[]⟩) (fun A R s=>A.handled=none∧IsRange s.heap r 0 (n:Int) 1 t u v∧∀ (h':Heap) (tk:Nat) (acc:Array Value),(∀b o,s.heap.get? b=some o→h'.get? b=some o)→ItemsOf (fun i v=>∃t,v= .int (0+i * 1) t) acc n→R (.ok (.ret (.ref h'.objs.size))) {s with heap:=h'.push {cls:= .type "tuple",data:= .seq acc},toks:=tk}):=
 .of_wp fun prog w A R s h=>by
  obtain ⟨hp,gn,dr,tk,os⟩:=s; obtain ⟨hh,ir,q⟩:=h; have a1:=sub_tuple_self; have a2:=init_tuple_lookup; have a3:=madeHere_tuple; have ty:Shared.TypeIs ⟨hp,gn,dr,tk,os⟩ (.ref r) "range":=⟨_,ir,rfl⟩; have hh1:A.in1.handled=none:=hh
  wp_walk using AutoSeq1.wpAny_loadPart' ir,wpAny_typeOf ty,vU (s:=⟨hp,gn,dr,tk,os⟩) hh1 ir hn
  intro h' tk' acc k1 k2; refine wpAny_bind (m:=Builtin.Tuple.tupleExact acc.toList.toArray) ?_; unfold Builtin.Tuple.tupleExact; have e:acc.toList.toArray=acc:=by simp
  rw [e]; exact wpAny_newObj_type (wpAny_pure ⟨_,rfl,q h' tk' acc k1 k2⟩) (show acc.size≤sizeLine by rw [k2.1]; exact eZ (gR hn))
theorem tP {Q:Value→Shared→Prop} (hh:A.handled=none) (ir:IsRange s.heap r 0 (n:Int) 1 t u v) (hn:n≤1000)
  (q:∀ (h':Heap) (tk:Nat) (acc:Array Value),(∀b o,s.heap.get? b=some o→h'.get? b=some o)→ItemsOf (fun i v=>∃t,v= .int (0+i * 1) t) acc n→Q (.ref h'.objs.size) {s with heap:=h'.push {cls:= .type "tuple",data:= .seq acc},toks:=tk}):wpAny (model prog w) A (call (.type "tuple") [.ref r]) Q E s:=
 callType_new F.called_tuple (by decide) (F.typeCall_tuple_1 _) (F.newCall_tuple_1 _) (fun obj=>F.args_object_init_2 obj _) F.entry_tuple_new (vJ r n t u v hn) ⟨hh,ir,fun h' tk acc k1 k2=>⟨⟨_,bF _ rfl,rfl⟩,q h' tk acc k1 k2⟩⟩
end
section
variable {X:Cx} {sd:List Slot} {e:Expr} {pos:Pos}
theorem yN {p p2 q2:Pos} {n:Nat} (hg:Gl X "tuple") (hm:X.mg "tuple"=none) (hg2:Gl X "range") (hm2:X.mg "range"=none) (ha:PEd X sd e (.val (.int (n:Int)))) (h1:n≤1000)
  (hc:X.calm=true:=by rfl) (hst:starEach [e] X.env=(false,eval e X.env)::starEach [] X.env:=by rfl) (hst2:starEach [.Call (.Name "range" p2) [e] [] q2] X.env=(false,eval (.Call (.Name "range" p2) [e] [] q2) X.env)::starEach [] X.env:=by rfl):
  PEd X sd (.Call (.Name "tuple" p) [.Call (.Name "range" p2) [e] [] q2] [] pos) (.val (.tup (cE (bJ n)))):= .mk fun σ F H S pins s I=>by
 refine wpAny_Call_Name_kw (pO I hg hm PyProof.Rows.boot_tuple (PyProof.Rows.callWith_type1 ?_ hst2 rfl)); rw [hst2]; refine Calls.spliced_cons (wpAny_Call_Name_kw (pO I hg2 hm2 boot_range ?_)); refine PyProof.Rows.callWith_type1 (thn ((jH (te:=wE X e) fH pa_nil hst) q2 pins s σ H (fun us H1=>∃v F1,us=[v]∧StF X.K X.B₀ F1 H1 σ sd∧Same F F1∧ResOk X.K F1 H1 sd (.val (.int (n:Int))) v) I ((ha σ F H S).imp fun v H1 ⟨F1,S1,s1,q1⟩=>⟨v,F1,rfl,S1,s1,q1⟩)) fun us s1 hus=> ?_) hst rfl; obtain ⟨ws,H1,I1,rv,v,F1,rfl,S1,sF,q1⟩:=hus; obtain ⟨u,rfl,ru⟩:=pZ rv; simp only [ResOk,Rep] at q1; subst q1; obtain ⟨t,rfl⟩:=ru; refine call_range_1 (Calls.spliced_nil ?_); refine tP (I1.ok.hd hc) (IsRange.new ..) h1 fun h' tk acc kp it=> ?_
 have kp2:∀b o,s1.heap.get? b=some o→h'.get? b=some o:=fun b o g=>kp b o (aM _ g)
 have le:s1.heap.objs.size≤h'.objs.size:=eZ (bA (kp s1.heap.objs.size _ (bF _ rfl))); have hD:H1 h'.objs.size=none:=I1.hok.fresh le; have ln:acc.toList.length=n:=by rw [fX]; exact it.1
 have vl:Vals ((bJ n).map fun (k:Nat)=>V.int (k:Int)) acc.toList:=by
  have g:∀ (l:List Value) (f:Nat→Int),(∀ (j:Nat) (v:Value),l[j]? =some v→∃t,v= .int (f j) t)→Vals ((bJ l.length).map fun (k:Nat)=>V.int (f k)) l:=fun l=>by
   induction l with
   | nil=>intro f _; exact .nil
   | cons x l ih=>intro f h; obtain ⟨t,e⟩:=h 0 x rfl; rw [cR,List.range_succ_eq_map,bX,aY]; exact .cons ⟨t,e⟩ (ih (fun k=>f (k+1)) fun j v hv=>h (j+1) v (by simpa using hv))
  have:=g acc.toList (fun k=>(k:Int)) fun j v hv=>by obtain ⟨t,e⟩:=it.2 j v (by rw [← yS]; exact hv); exact ⟨t,by rw [e]; congr 1; omega⟩
  rw [ln] at this; exact this
 have I3:Inv X pins σ (upd H1 h'.objs.size (.tup ((bJ n).map fun (k:Nat)=>V.int (k:Int)))) {s1 with heap:=h'.push {cls:= .type "tuple",data:= .seq acc},toks:=tk}:=
  I1.laid (fun b o g=>aM _ (kp2 b o g)) le ⟨by rw [aB,iH]; exact eZ (gR h1),acc.toList,vl,by simpa using IsTupD.new h' acc⟩
 obtain ⟨S4,s4⟩:=S1.lay (o:= .tup ((bJ n).map fun (k:Nat)=>V.int (k:Int))) hD trivial; refine ⟨.ref h'.objs.size,_,I3,rfl,_,S4,sF.trans s4, ?_⟩; simp only [ResOk,Rep]; refine ⟨_,_,rfl,bZ, ?_⟩
 have gg:∀ks:List Nat,RepL X.K (upd F1 h'.objs.size (.tup ((bJ n).map fun (k:Nat)=>V.int (k:Int)))) (ks.map fun (k:Nat)=>D.int (k:Int)) (ks.map fun (k:Nat)=>V.int (k:Int)):=fun ks=>by
  induction ks with
  | nil=>exact .nil
  | cons k ks ih=>exact .cons (by simp only [Rep]) ih
 exact gg _
end
noncomputable def mx1 (c:Int) (k:Nat):Int:=(c%2147483647+69621 * (k:Int)+7919) * 48271%2147483647
noncomputable def mx2 (c:Int) (k:Nat):Int:=mx1 c k * mx1 c k%2147483629
noncomputable def mxS (c:Int) (k:Nat):Int:=if c%2=0 then c / ((2^(8 * k+1):Nat):Int) else (mx2 c k * mx2 c k+16807 * (k:Int))%2147483587
noncomputable def CMx:List D→R→Prop:=fun ds r=>∃ (c:Int) (k:Nat),ds=[.int c, .int (k:Int)]∧k≤400∧r= .val (.int (mxS c k))
noncomputable def CLw45:List D→R→Prop:=fun ds r=>∃p q ws,nL p q∧Fil p ws∧ds=[bO p,sqD q,aQ ws]∧r= .val (.int (nwQ p q ws))
noncomputable def CAft45:List D→R→Prop:=fun ds r=>∃p q ws,nL p q∧Fil p ws∧ds=[bO p,sqD q,aQ ws]∧r= .val (aQ (onQ p q ws))
noncomputable def drQ (p:Int × Int) (c:Int):SQ:=((mxS c 1%10).toNat,mxS c 2%p.2,mxS c 4%p.2,mxS c 3%((2^p.1.toNat:Nat):Int))
noncomputable def CDr45:List D→R→Prop:=fun ds r=>∃p c,p∈bS∧ds=[bO p, .int c]∧r= .val (sqD (drQ p c))
theorem drQ_ok {p:Int × Int} (hp:p∈bS) (c:Int):nL p (drQ p c):=by
 obtain ⟨h1,h2,h3,h4,h5⟩:=qF p hp; have p20:(0:Int)<p.2:=by omega
 have m0:=pw0 p.1.toNat; have d1:=bR (mxS c 1) (show (0:Int)<10 by decide); exact ⟨hp,by show (mxS c 1%10).toNat<10; omega,⟨cM _ (jS p20),bR _ p20⟩,⟨cM _ (jS p20),bR _ p20⟩,⟨cM _ (jS m0),bR _ m0⟩⟩
theorem iE {α:Type} {f:α→D} {L:List α} {t:Nat} {d:D} (h:(L.map f)[t]? =some d):∃x,L[t]? =some x∧d=f x∧L.take (t+1)=L.take t++[x]:=by rw [aI] at h; obtain ⟨x,h1,h2⟩:=gB.mp h; exact ⟨x,h1,h2.symm,by rw [gO,h1]; rfl⟩
theorem nd_take {α:Type} {L:List α} (nd:L.Nodup) {t:Nat} {x:α} (h:L[t]? =some x):x∉L.take t:=fun z=>by
 obtain ⟨i,hi,e⟩:=cN z; have il:i<t:=by rw [bH] at hi; omega
 rw [List.getElem_take] at e; obtain ⟨t1,e2⟩:=aH.mp h; have:=(gF nd).mp (e.trans e2.symm); omega
theorem filA_nd45 {p:Int × Int} (hp:p∈bS):(cP p).Nodup:=by
 have e:(cP p).map (pT p)=bJ (cP p).length:=by
  refine jW (by simp) fun i h1 h2=> ?_
  have hi:i<(cP p).length:=by simpa using h1
  rw [dR,kY]; have:=num_at hp hi; simpa [cC,hi] using this
 have nd:((cP p).map (pT p)).Nodup:=by rw [e]; exact List.nodup_range
 exact List.Pairwise.of_map _ (fun a b h z=>h (by rw [z])) nd
noncomputable def inK (ws:List Int):List Key:=ws.map fun (i:Int)=>(Sum.inl i:Key)
theorem tV (ws:List Int):tD (inK ws)=aQ ws:=by unfold tD inK aQ; rw [aY]; rfl
theorem uX:∀ {a b:List Int},inK a=inK b→a=b
 | [],[],_=>rfl
 | [],_::_,h=>by cases h
 | _::_,[],h=>by cases h
 | x::a,y::b,h=>by
  have h:(Sum.inl x:Key)::inK a=(Sum.inl y:Key)::inK b:=h; injection h with h1 h2
  rw [uX h2,Sum.inl.inj h1]
theorem mX:∀ {a b:List (List Int)},a.map inK=b.map inK→a=b
 | [],[],_=>rfl
 | [],_::_,h=>by cases h
 | _::_,[],h=>by cases h
 | x::a,y::b,h=>by
  rw [bX,bX] at h; injection h with h1 h2
  rw [mX h2,uX h1]
noncomputable def mgD (P:Program) (w:World) (K:aD) (p:Int × Int) (s:SK):D:=gD (hkT P w) K ((cP p).map inK) ((cP p).map fun ws=>aQ (onQ p s.1 ws))
noncomputable def CLMv (P:Program) (w:World) (K:aD):List D→R→Prop:=fun ds r=>∃p L,p∈bS∧StkOk p L∧ds=[bO p, .lst (L.map skD)]∧r= .own (L.map (mgD P w K p))
noncomputable def sX (L:List SK) (q:SQ):Bool:=(L.map fun s=>sqD s.1).any fun z=>deq z (sqD q)
theorem sqIn_no {L:List SK} {q:SQ} (h:sX L q=false):sqD q∉L.map fun s=>sqD s.1:=fun hm=>by
 unfold sX at h; have:=List.any_eq_false.mp h _ hm
 exact this (yH _ (by
  show pl (iA _ _ _ _)=true; unfold iA
  split
  ·rfl
  ·split<;>rfl))
namespace S45
section
variable {T:Type} [DecidableEq T] {n:Nat} {pr:Nat→Int} {beh:Nat→T→T} {t0:T}
theorem put_len (t:Int) (row:List Nat) (tab:T) (ly:Lay T):∀ (m:Nat) (j:Int),(put pr beh t row tab m ly j).length≤(ly j).length+m
 | 0,j=>aZ _
 | m+1,j=>by
  have ih:=put_len t row tab ly m j; show (if j=t+pr m then put pr beh t row tab m ly j++[(row++[m],beh m tab)] else put pr beh t row tab m ly j).length≤_
  split
  ·rw [aN]; show _+1≤_; omega
  ·omega
noncomputable def Bd (n:Nat) (s:List (Ent T) × Lay T):Prop:=∀j,(s.2 j).length≤1+n * s.1.length
theorem one_bd {t:Int} {s:List (Ent T) × Lay T} (e:List Nat × T) (h:Bd n s):Bd n (one n pr beh t s e):=by
 unfold one
 split
 ·intro j; have:=put_len (pr:=pr) (beh:=beh) t e.1 e.2 s.2 n j; have:=h j; show (put pr beh t e.1 e.2 n s.2 j).length≤1+n * (s.1++[_]).length; rw [aN]; show _≤1+n * (s.1.length+1); rw [Nat.mul_succ]; omega
 ·exact h
theorem fold_bd {t:Int}:∀ {rest:List (List Nat × T)} {s:List (Ent T) × Lay T},Bd n s→Bd n (rest.foldl (one n pr beh t) s)
 | [],_,h=>h
 | e::rest,s,h=>fold_bd (rest:=rest) (s:=one n pr beh t s e) (one_bd e h)
theorem run_bd:∀t:Nat,Bd n (run n pr beh t0 t)
 | 0=>fun j=>by
  show (if j=0 then [(([]:List Nat),t0)] else []).length≤_
  split
  ·exact Nat.le_add_right _ _
  ·exact cW _
 | t+1=>fold_bd (run_bd t)
theorem Ok.take (hp:∀k,k<n→1≤pr k) {t:Int} (ht:0≤t):∀ (m:Nat) {rest:List (List Nat × T)} {s:List (Ent T) × Lay T},Ok n pr beh t0 t rest s→Ok n pr beh t0 t (rest.drop m) ((rest.take m).foldl (one n pr beh t) s)
 | 0,_,_,o=>o
 | _+1,[],_,o=>o
 | m+1,e::rest,s,o=>Ok.take hp ht m (rest:=rest) (s:=one n pr beh t s e) (o.step hp ht)
theorem len_pr:∀ (row:List Nat),(∀k∈row,1≤pr k)→(row.length:Int)≤prQ pr row
 | [],_=>lV _
 | k::row,h=>by
  have:=len_pr row fun j hj=>h j (aU _ hj)
  have h1:=h k bB; show ((row.length+1:Nat):Int)≤(pr k::row.map pr).sum; rw [List.sum_cons]; have:prQ pr row=(row.map pr).sum:=rfl; omega
end
end S45
noncomputable abbrev St45:=List Bk × S45.Lay (List (List Int))
noncomputable def eD (x:List Nat × List (List Int)):D:= .tup [.tup (cE x.1), .tup (x.2.map aQ)]
noncomputable def lyD (s:St45):Int→List D:=fun j=>(s.2 j).map eD
noncomputable def tbK (t:List (List Int)):List (List Key):=t.map inK
theorem tbK_D (t:List (List Int)):D.tup ((tbK t).map tD)= .tup (t.map aQ):=by
 unfold tbK; rw [aY]; congr 1; refine bI fun ws _=> ?_
 exact tV ws
noncomputable def ksE (B:List Bk):List (List (List Key)):=B.map fun e=>tbK e.2.2
section
variable {p:Int × Int} {L:List SK}
theorem StkOk.pr (S:StkOk p L):∀k,k<L.length→1≤prK L k:=fun k hk=>(S.st _ (DL.getD_mem (d:=(default:SK)) hk)).2.1
theorem oH (hp:p∈bS) (S:StkOk p L) {row:List Nat} (h:iG L row):∀ws∈S45.tabQ (eO p L) (cP p) row,ws∈cP p:=fun ws hw=>by obtain ⟨q1,q2⟩:=sW hp (fun s hs=>(S.st s hs).1) h; rw [← q2] at hw; obtain ⟨i,hi,rfl⟩:=aJ.mp hw; exact DL.getD_mem (q1.2 i hi)
theorem pP (hp:p∈bS) (S:StkOk p L) {row:List Nat} (h:iG L row):(S45.tabQ (eO p L) (cP p) row).length≤64:=by obtain ⟨q1,q2⟩:=sW hp (fun s hs=>(S.st s hs).1) h; rw [← q2]; unfold kR; rw [aB,q1.1]; exact kU hp
end
end DL
namespace L2
open PySem PySem.Spec PyProof.Rows
end L2
namespace DL
open PySem PySem.Spec PyProof.Rows L2
section
variable {p:Int × Int} {L:List SK} {b:Int} {B C:List Bk}
noncomputable def telQ (p:Int × Int) (L:List SK) (b:Int) (B:List Bk):Bool:=(B.any fun e=>decide (e.2.1=[])) && cloQ p L b B
theorem tel_t (hp:p∈bS) (S:StkOk p L) (O:BkOk p L b B) (h:S45.HoldsP L.length (prK L) (eO p L) b B):telQ p L b B=true:=(uG hp S O).mpr h
end
section
variable {X:Cx} {pins:List (Addr × Obj)} {σ:St} {H:Hp} {s:Shared} {sts:List Stmt}
noncomputable abbrev reB (X:Cx) (B:Hp) (h:∀b o,X.H₀ b=some o→Hard o→B b=some o):Cx:={X with B₀:=B,hB:=h}
end
noncomputable def spP (K:aD) (n:Nat) (C:List D→List D→R→Prop):Sp:=fun vs H Q _=>vs.length=n∧∃ (l:Addr) (us:List V) (F:Hp) (xs:List V) (ds0 ds:List D) (r:R),vs= .ref l::us∧F l=none∧H=upd F l (.lst xs)∧Smp F∧RepL K F ds0 xs∧RepL K F ds us∧C ds0 ds r∧∀v H',wX K F H' r v→Q v H'
structure CalleeP (P:Program) (w:World) (K:aD) (mg:Str→Option Value) (base:Heap) (x:Str) (k n:Nat) (C:List D→List D→R→Prop):Prop where
 ex:∃ (f:Addr) (fd:FuncData) (ps:List Str),mg x=some (.ref f)∧dE K (.ref f)=true∧Binds K fd ps []∧FnOk P w K mg base CX0 k f fd ps (spP K n C)
structure Lent (K:aD) where
 α:Type
 ad:α→Addr
 own:α→List Addr
 G:α→V→Hp→Hp→Prop
 hv:∀ {a:α} {v:V} {F H:Hp},G a v F H→v= .ref (ad a)
noncomputable def Lent.sl {K:aD} (Z:Lent K) (a:Z.α):Slot:= .ox (Z.own a) (Z.G a)
section
variable {K:aD} (Z:Lent K)
noncomputable def spL (n:Nat) (C:Z.α→List D→(Z.α→Prop)→Prop):Sp:=fun vs H Q _=>vs.length=n∧∃ (v:V) (us:List V) (F:Hp) (a:Z.α) (ds:List D) (post:Z.α→Prop),vs=v::us∧Same F H∧(∀b,b∉Z.own a→H b=F b)∧Smp H∧kP K F H (Z.sl a) (some v)∧(Z.own a).Nodup∧RepL K F ds us∧C a ds post∧(∀a',post a'→Z.ad a'=Z.ad a)∧
 ∀H',(∃F' a',post a'∧Same F F'∧Same F' H'∧Smp H'∧kP K F' H' (Z.sl a') (some v)∧(Z.own a').Nodup)→Q .non H'
end
open Classical in
open Classical in
structure CalleeL (P:Program) (w:World) (K:aD) (Z:Lent K) (mg:Str→Option Value) (base:Heap) (x:Str) (k n:Nat) (C:Z.α→List D→(Z.α→Prop)→Prop):Prop where
 ex:∃ (f:Addr) (fd:FuncData) (ps:List Str),mg x=some (.ref f)∧dE K (.ref f)=true∧Binds K fd ps []∧FnOk P w K mg base CX0 k f fd ps (spL Z n C)
noncomputable def rkA (r:Keyed→Nat) (xs:Array Keyed) (i:Nat):Nat:=match xs[i]? with
 | some p=>r p
 | none=>0
noncomputable def AscR (r:Keyed→Nat) (xs:Array Keyed) (l h:Nat):Prop:=∀i j,l≤i→i<j→j<h→rkA r xs i<rkA r xs j
structure Asks (prog:Program) (w:World) (A:Around) (E:Value→Shared→Prop) (s:Shared) (κ:SortKind) (r:Keyed→Nat) (a₀:Array Keyed):Prop where
 ask:∀ {x y:Keyed} {st:SortSt} {Q:Option Bool→SortSt→Prop},x∈a₀.toList→y∈a₀.toList→kindOf st=κ→Q (some (decide (r x<r y))) st→wpS (model prog w) A E s (lt' x y) Q st
 nd:(a₀.toList.map r).Nodup
structure SB (κ:SortKind) (a₀:Array Keyed) (st:SortSt):Prop where
 perm:(arrOf st).Perm a₀
 kind:kindOf st=κ
 failed:failedOf st=none
structure Stp (κ:SortKind) (a₀:Array Keyed) (lo hi:Nat) (st st':SortSt):Prop where
 sb:SB κ a₀ st'
 pend:pendingOf st'=pendingOf st
 keep:∀k,k<lo∨hi≤k→(arrOf st')[k]? =(arrOf st)[k]?
structure MS (r:Keyed→Nat) (a b:Array Keyed) (out:List Keyed) (ia ib:Nat):Prop where
 ha:ia≤a.size
 hb:ib≤b.size
 perm:out.Perm (a.toList.take ia++b.toList.take ib)
 asc:(out.map r).Pairwise (·<·)
 la:∀x∈out,∀i,ia≤i→i<a.size→r x<rkA r a i
 lb:∀x∈out,∀i,ib≤i→i<b.size→r x<rkA r b i
noncomputable def MD (r:Keyed→Nat) (a b:Array Keyed) (out:List Keyed):Prop:=out.Perm (a.toList++b.toList)∧(out.map r).Pairwise (·<·)
structure SameG (st st':SortSt):Prop where
 kind:kindOf st'=kindOf st
 arr:arrOf st'=arrOf st
 pend:pendingOf st'=pendingOf st
 failed:failedOf st'=failedOf st
structure MPre (r:Keyed→Nat) (a₀ a b:Array Keyed):Prop where
 a1:1≤a.size
 b1:1≤b.size
 asa:AscR r a 0 a.size
 asb:AscR r b 0 b.size
 ma:∀x∈a.toList,x∈a₀.toList
 mb:∀x∈b.toList,x∈a₀.toList
 ne:∀i j,i<a.size→j<b.size→rkA r a i≠rkA r b j
 first:rkA r b 0<rkA r a 0
 last:rkA r b (b.size - 1)<rkA r a (a.size - 1)
noncomputable abbrev SM:=StateT SortSt Sem
noncomputable abbrev ML1:=Option (Array Keyed) × Array Keyed × Nat × Nat × Nat × Nat
noncomputable abbrev ML2:=Option (Array Keyed) × Array Keyed × Nat × Nat × Nat × Nat × Nat
noncomputable abbrev ML0:=Option (Array Keyed) × Array Keyed × Nat × Nat × Nat
noncomputable def FIN (r:Keyed→Nat) (a b:Array Keyed) (o:Option (Array Keyed)):Prop:=∃res,o=some res∧MD r a b res.toList
structure HS (r:Keyed→Nat) (a b:Array Keyed) (out:List Keyed) (na nb:Nat):Prop where
 ha:na≤a.size
 hb:nb≤b.size
 perm:out.Perm (a.toList.drop na++b.toList.drop nb)
 dsc:(out.map r).Pairwise (fun x y=>y<x)
 la:∀x∈out,∀i,i<na→rkA r a i<r x
 lb:∀x∈out,∀i,i<nb→rkA r b i<r x
noncomputable abbrev MH1:=Option (Array Keyed) × Nat × Nat × Array Keyed × Nat × Nat
noncomputable abbrev MH2:=Option (Array Keyed) × Nat × Nat × Array Keyed × Nat × Nat × Nat
noncomputable abbrev MH0:=Option (Array Keyed) × Nat × Nat × Array Keyed × Nat
noncomputable def OKh (r:Keyed→Nat) (a b:Array Keyed) (N:Nat) (o:Option (Array Keyed)) (out:Array Keyed) (na nb:Nat):Prop:=o=none∧HS r a b out.toList na nb∧1≤na∧2≤nb∧na+nb+N≤a.size+b.size
section
variable {prog:Program} {w:World} {A:Around} {E:Value→Shared→Prop} {s:Shared} {κ:SortKind} {r:Keyed→Nat} {a₀ a b out:Array Keyed} {st st0:SortSt} {na nb:Nat}
noncomputable def H2 (r:Keyed→Nat) (a b:Array Keyed) (st0:SortSt) (N:Nat):ForInStep MH2→SortSt→Prop:=fun q st'=>SameG st0 st'∧match q with
 | .done c=>FIN r a b c.1∨OKh r a b N c.1 c.2.2.2.1 c.2.1 c.2.2.1
 | .yield c=>OKh r a b N c.1 c.2.2.2.1 c.2.1 c.2.2.1
noncomputable def H1 (r:Keyed→Nat) (a b:Array Keyed) (st:SortSt) (N:Nat):ForInStep MH1→SortSt→Prop:=fun q st'=>st'=st∧match q with
 | .done c=>FIN r a b c.1∨OKh r a b N c.1 c.2.2.2.1 c.2.1 c.2.2.1
 | .yield c=>OKh r a b N c.1 c.2.2.2.1 c.2.1 c.2.2.1
noncomputable def H0 (r:Keyed→Nat) (a b:Array Keyed) (st0:SortSt) (N:Nat):ForInStep MH0→SortSt→Prop:=fun q st'=>SameG st0 st'∧match q with
 | .done c=>FIN r a b c.1
 | .yield c=>OKh r a b N c.1 c.2.2.2.1 c.2.1 c.2.2.1
end
noncomputable abbrev Pnd:=Array (Nat × Nat × Nat)
noncomputable def Runs (r:Keyed→Nat) (xs:Array Keyed):Nat→List (Nat × Nat × Nat)→Nat→Prop
 | s,[],e=>s=e
 | s,p::l,e=>p.1=s∧1≤p.2.1∧AscR r xs s (s+p.2.1)∧Runs r xs (s+p.2.1) l e
section
variable {prog:Program} {w:World} {A:Around} {E:Value→Shared→Prop} {s:Shared} {κ:SortKind} {r:Keyed→Nat} {a₀:Array Keyed} {st st':SortSt}
structure SR (κ:SortKind) (r:Keyed→Nat) (a₀:Array Keyed) (lo:Nat) (st:SortSt):Prop where
 sb:SB κ a₀ st
 runs:Runs r (arrOf st) 0 (pendingOf st).toList lo
end
open PySem.W (KasT kas_sort kas_asc kas_desc kas_tail3 kas_descPart kas_count kas_place kas_bin kas_rev kas_ask kas_item kat_lt kat_cons kat_nil kat_yes kat_no kat_one kat_kind kat_run kat_snds KatTups)
inductive Bel {α:Type} (n:Nat) (P:α→Prop):KasT α→Prop
 | ret {a:α}:P a→Bel n P (.ret a)
 | ask {i j:Nat} {k:Bool→KasT α}:i<n→j<n→(∀b,Bel n P (k b))→Bel n P (.ask i j k)
noncomputable def PairAt (h:Heap) (v:Value) (x:Int × Int):Prop:=∃a o n t u,v= .ref a∧h.get? a=some o∧o.cls= .type "tuple"∧o.data= .seq #[.int x.1 t, .int x.2 u] n
inductive vH (h:Heap):List Value→List (Int × Int)→Prop
 | nil:vH h [] []
 | cons {v:Value} {x:Int × Int} {vs:List Value} {ps:List (Int × Int)}:PairAt h v x→vH h vs ps→vH h (v::vs) (x::ps)
open PySem.W (KasT kas_sort kas_asc kas_desc kas_tail3 kas_descPart kas_count kas_place kas_bin kas_rev)
structure Ord (n:Nat) (ans:Nat→Nat→Bool):Prop where
 tr:∀i j k,i<n→j<n→k<n→ans i j=true→ans j k=true→ans i k=true
 ir:∀i,i<n→ans i i=false
 tt:∀i j,i<n→j<n→i≠j→ans i j=true∨ans j i=true
noncomputable abbrev gN (p:Array Nat) (k:Nat):Nat:=p.getD k 0
open PySem.W (KasT kas_sort kas_asc kas_desc kas_tail3 kas_descPart kas_count kas_place kas_bin kas_rev kas_ask kas_item kat_lt kat_cons kat_nil kat_yes kat_no kat_one kat_kind kat_run kat_snds KatTups KatLex)
noncomputable def TupAt1 (h:Heap) (v:Value) (x:List Int):Prop:=∃a o n,∃its:List Value,v= .ref a∧h.get? a=some o∧o.cls= .type "tuple"∧o.data= .seq its.toArray n∧IntsAre its x∧x≠[]
inductive yZ (h:Heap):List Value→List (List Int)→Prop
 | nil:yZ h [] []
 | cons {v:Value} {x:List Int} {vs:List Value} {ps:List (List Int)}:TupAt1 h v x→yZ h vs ps→yZ h (v::vs) (x::ps)
noncomputable def advM (m:Nat) (p:SetTable.Probe):SetTable.Probe:=if p.more>0 then {p with j:=p.j+1,more:=p.more - 1} else {p with j:=(kZ m p.i p.perturb).1,more:=SetTable.runEnd m (kZ m p.i p.perturb).1 - (kZ m p.i p.perturb).1,i:=(kZ m p.i p.perturb).1,perturb:=(kZ m p.i p.perturb).2}
noncomputable def at0 (m i q:Nat):SetTable.Probe:={j:=i,more:=SetTable.runEnd m i - i,i:=i,perturb:=q,dummy:=none}
noncomputable def pr (m:Nat) (h:Int):Nat→SetTable.Probe
 | 0=>at0 m (nM h%(m+1)) (nM h)
 | n+1=>advM m (pr m h n)
noncomputable def lp (m:Nat) (h:Int):Nat→Nat
 | 0=>nM h%(m+1)
 | k+1=>(lp m h k * 5+1+nM h / 32^k / 32)%(m+1)
noncomputable def okM (m:Nat):Prop:=m=7∨m=31∨m=63∨m=127∨m=255
noncomputable abbrev RowT:=Nat × List Key × Addr
structure TabT (hs:List Key→Int) (t:SetTable) (es:Array (Int × Value)) (T:List RowT):Prop where
 om:okM t.mask
 pl:t.place=(T.map (·.1)).toArray
 en:es=(T.map fun r=>(hs r.2.1,Value.ref r.2.2)).toArray
 du:t.dummies= #[]
 rs:(T.map (·.1)).Pairwise (·<·)
 lt:∀r∈T,r.1≤t.mask
 rc:∀r∈T,∃n,(pr t.mask (hs r.2.1) n).j=r.1∧∀i,i<n→(pr t.mask (hs r.2.1) i).j∈T.map (·.1)
 kn:(T.map (·.2.1)).Nodup
structure LI (m:Nat) (ow:Array (Option Nat)) (dn:List Int):Prop where
 sz:ow.size=m+1
 at_:∀ (x:Nat) (h:Int),dn[x]? =some h→∃j,ow[j]? =some (some x)∧∃n,(pr m h n).j=j∧∀i,i<n→ow[(pr m h i).j]? ≠some none
 lt:∀ (j x:Nat),ow[j]? =some (some x)→x<dn.length
 un:∀ (j j' x:Nat),ow[j]? =some (some x)→ow[j']? =some (some x)→j=j'
section
variable {prog:Program} {w:World} {A:Around} {E:Value→Shared→Prop} {s:Shared}
noncomputable abbrev tK (prog:Program) (w:World):=tupleKind (fM prog w)
end
structure TabU (hs:List Key→Int) (t:SetTable) (es:Array (Int × Value)) (T:List RowT) (ds:List Nat):Prop where
 om:okM t.mask
 pl:t.place=(T.map (·.1)).toArray
 en:es=(T.map fun r=>(hs r.2.1,Value.ref r.2.2)).toArray
 du:t.dummies=ds.toArray
 rs:(T.map (·.1)).Pairwise (·<·)
 dr:ds.Pairwise (·<·)
 dj:∀d∈ds,d∉T.map (·.1)
 lt:∀r∈T,r.1≤t.mask
 rc:∀r∈T,∃n,(pr t.mask (hs r.2.1) n).j=r.1∧∀i,i<n→(pr t.mask (hs r.2.1) i).j∈T.map (·.1)++ds
 kn:(T.map (·.2.1)).Nodup
structure TOk (w:World) (es:List (Int × Value)) (t:SetTable) (ks:List Nat):Prop where
 fit:t.fits es.toArray.size=true
 pl:t.plain=true
 led:t.led= !byT w
 place:t.place=ks.toArray
 asc:ks.Pairwise (·<·)
 len:es.length=ks.length
open PySem.W (kat_lt kat_cons kat_nil kat_yes kat_no kat_one kat_kind KatTups KatLex)
section
variable {X:Cx} {sd:List Slot} {e:Expr} {pos:Pos}
structure MinOk (X:Cx) (ds:List D):Prop where
 ne:0<ds.length
 cmp:∀d∈ds,∀d2∈ds,cmp2 d d2=true
 pl:∀d∈ds,pl d=true
 dep:∀d∈ds,X.A.units+1+dep d<cLine
end
open PySem.W (kat_lt kat_kind KatTups KatLex)
noncomputable abbrev Pr2:=List Int × List Int
noncomputable def p2D (x:Pr2):D:= .tup [aQ x.1,aQ x.2]
structure SrtP (A:Around) (ps:List Pr2) (rk:Pr2→Nat):Prop where
 len:ps.length≤10000
 lt:∀x∈ps,∀y∈ps,dlt (p2D x) (p2D y)=decide (rk x<rk y)
 nd:(ps.map rk).Nodup
 un:A.units+8<cLine
noncomputable def rkK (r:Int × Int):List Key:=[Sum.inl r.1,Sum.inl r.2]
noncomputable abbrev WtT:=List ((Int × Int) × List Pr2)
structure Wt where
 l:Addr
 ls:List Addr
 T:WtT
noncomputable def wtK (T:WtT):List (List Key):=T.map fun t=>rkK t.1
noncomputable def nP (x:List Nat × List Nat):Pr2:=(x.1.map fun (i:Nat)=>(i:Int),x.2.map fun (i:Nat)=>(i:Int))
noncomputable def unP (y:Pr2):List Nat × List Nat:=(y.1.map Int.toNat,y.2.map Int.toNat)
structure FdS where
 T:WtT
 kn:List (List Nat)
 fd:List (Int × List Nat × List Nat)
structure FdOk (S:FdS):Prop where
 nk:(wtK S.T).Nodup
 kn:S.kn=S.fd.map fun e=>e.2.2
 nd:S.kn.Nodup
noncomputable def rlt (r s:Int × Int):Prop:=r.1<s.1∨(r.1=s.1∧r.2<s.2)
instance (r s:Int × Int):Decidable (rlt r s):=inferInstanceAs (Decidable (_∨_))
noncomputable def llt:List Int→List Int→Bool
 | [],[]=>false
 | [],_::_=>true
 | _::_,[]=>false
 | x::a,y::b=>if x=y then llt a b else decide (x<y)
noncomputable def plt (x y:Pr2):Bool:=if x.1=y.1 then llt x.2 y.2 else llt x.1 y.1
noncomputable def inR (row:List Nat):List Int:=row.map fun (i:Nat)=>(i:Int)
noncomputable def rwP (y:Pr2):List Nat:=(unP y).1
noncomputable def itP (p:Int × Int) (L:List SK) (row:List Nat):Pr2:=nP (row,nrQ p L row)
noncomputable def rkR (L:List SK) (row:List Nat):Int × Int:=(S45.prQ (prK L) row,(row.length:Int))
noncomputable def klt (L:List SK) (a c:List Nat):Prop:=rlt (rkR L a) (rkR L c)∨(rkR L a=rkR L c∧llt (inR a) (inR c)=true)
noncomputable def kle (L:List SK) (a c:List Nat):Prop:=a=c∨klt L a c
noncomputable def wrR (T:WtT):List (List Nat):=T.flatMap fun t=>t.2.map rwP
structure FewR (L:List SK) (b:Int) (U:List (List Nat)):Prop where
 len:U.length≤400
 rl:∀row∈U,row.length≤300
 all:∀row,iG L row→S45.prQ (prK L) row≤b→row∈U
noncomputable def Cov (p:Int × Int) (L:List SK) (S:FdS) (rest:List Pr2) (row:List Nat):Prop:=row∈wrR S.T∨row∈rest.map rwP∨∃e∈S.fd,e.2.2=nrQ p L row∧kle L e.2.1 row
structure Wk (p:Int × Int) (L:List SK) (b:Int) (dn:List (List Nat)) (r:Int × Int) (rest:List Pr2) (S:FdS):Prop where
 ok:FdOk S
 ne:∀t∈S.T,t.2≠[]
 wt:∀t∈S.T,∀y∈t.2,∃row,y=itP p L row∧iG L row∧t.1=rkR L row∧t.1.1≤b
 rs:∀y∈rest,∃row,y=itP p L row∧iG L row∧r=rkR L row∧r.1≤b
 up:rest.Pairwise fun x y=>plt x y=true
 gt:rest≠[]→∀t∈S.T,rlt r t.1
 nd:(dn++rest.map rwP++wrR S.T).Nodup
 fd:∀e∈S.fd,e.2.1∈dn∧iG L e.2.1∧e.1=S45.prQ (prK L) e.2.1∧e.1≤b∧e.2.2=nrQ p L e.2.1
 par:∀row,row∈dn++rest.map rwP++wrR S.T→row=[]∨∃q k,row=q++[k]∧q∈S.fd.map fun e=>e.2.1
 du:∀row∈dn,iG L row∧S45.prQ (prK L) row≤b
 srt:(S.fd.map fun e=>e.2.1).Pairwise (klt L)
 lt1:∀e∈S.fd,∀y∈rest,klt L e.2.1 (rwP y)
 lt2:∀e∈S.fd,∀row∈wrR S.T,klt L e.2.1 row
 cl:∀e∈S.fd,∀k,k<L.length→e.1+prK L k≤b→Cov p L S rest (e.2.1++[k])
 st:0≤b→Cov p L S rest []
section
variable {p:Int × Int} {L:List SK} {b:Int} {dn:List (List Nat)} {r:Int × Int} {rest:List Pr2} {S:FdS} {U:List (List Nat)}
structure BkFOk (p:Int × Int) (L:List SK) (b:Int) (B:List (Int × List Nat × List Nat)):Prop where
 len:B.length≤400
 ent:∀e∈B,iG L e.2.1∧e.1=S45.prQ (prK L) e.2.1∧e.1≤b∧e.2.2=nrQ p L e.2.1∧e.2.1.length≤300
 nd:(B.map fun e=>e.2.2).Nodup
 srt:(B.map fun e=>e.2.1).Pairwise (klt L)
 cl:∀e∈B,∀k,k<L.length→e.1+prK L k≤b→∃e'∈B,e'.2.2=nrQ p L (e.2.1++[k])∧kle L e'.2.1 (e.2.1++[k])
 st:0≤b→∃e∈B,e.2.2=nrQ p L []∧kle L e.2.1 []
end
section
open PySem.W PySem.Calls Att
end
noncomputable def GtAt (A:Around) (s:Shared) (x y:Value) (b:Bool):Prop:=∀ (prog:Program) (w:World) (E:Value→Shared→Prop) (Q:Value→Shared→Prop),Q (.bool b) s→wpAny (model prog w) A (richCompare .Gt x y) Q E s
inductive LexG (A:Around) (s:Shared) (fin:Bool):List (Value × Value)→Bool→Prop
 | nil:LexG A s fin [] fin
 | eq {x y:Value} {r:List (Value × Value)} {b:Bool}:SeqAt.EqAt A.in1 s x y true→LexG A s fin r b→LexG A s fin ((x,y)::r) b
 | lt {x y:Value} {r:List (Value × Value)} {b:Bool}:SeqAt.EqAt A.in1 s x y false→GtAt A.in1 s x y b→LexG A s fin ((x,y)::r) b
section
open PySem.SeqAt
open PySem.AutoSeq1 (wpAny_loadPart')
open PySem.MeetsSeq PySem.MeetsSeq2 PySem.MeetsSeq3
end
mutual
noncomputable def dgt:D→D→Bool
 | .int a, .int b=>decide (b<a)
 | .tup a, .tup b=>dgtL a b
 | _,_=>false
noncomputable def dgtL:List D→List D→Bool
 | [],[]=>false
 | [],_::_=>false
 | _::_,[]=>true
 | d::ds,e::es=>if deq d e=true then dgtL ds es else dgt d e
end
noncomputable def sz6L:List (Int × Int):=[(2,3),(3,2),(1,5),(5,1),(1,6),(6,1)]
noncomputable def sz8L:List (Int × Int):=[(1,1),(1,2),(2,1),(2,2),(1,3),(3,1),(1,4),(4,1)]
noncomputable def uQ (c:Int):Int × Int:=if mxS c 31%8=1 then sz6L.getD (mxS c 32%6).toNat (1,1) else sz8L.getD (mxS c 30%8).toNat (1,1)
theorem fR (x:Int) {n:Nat} (h:0<n):(x%(n:Int)).toNat<n∧0≤x%(n:Int):=by have h0:=cM x (show (n:Int)≠0 by omega); have h1:=bR x (show (0:Int)<n by omega); omega
theorem sz41_ok (c:Int):uQ c∈bS:=by
 have g6:∀p∈sz6L,p∈bS:=by decide+kernel
 have g8:∀p∈sz8L,p∈bS:=by decide+kernel
 unfold uQ
 split
 ·exact g6 _ (getD_mem (fR _ (n:=6) (by decide)).1)
 ·exact g8 _ (getD_mem (fR _ (n:=8) (by decide)).1)
noncomputable def CSz41:List D→R→Prop:=fun ds r=>∃c,ds=[.int c]∧r= .val (bO (uQ c))
theorem vY {l:List Int} {i:Nat} {d:Int} (h:i<l.length):(l.map D.int)[i]? =some (.int (l.getD i d)):=by simp [cC,h]
noncomputable def lK (c:Int):Int:=([1,1,3]:List Int).getD (mxS c 10%3).toNat 1
noncomputable def mE (c:Int):Nat:=1+(mxS c 11%4).toNat+(if mxS c 12%8=1 then 1 else 0)
noncomputable def wK (c:Int):Int:=([1,1,2,3]:List Int).getD (mxS c 5%4).toNat 1
theorem sP (c:Int):lK c=1∨lK c=3:=by
 have g:∀x∈([1,1,3]:List Int),x=1∨x=3:=by decide
 exact g _ (getD_mem (fR _ (n:=3) (by decide)).1)
theorem pr41_ok (c:Int):1≤wK c∧wK c≤3:=by
 have g:∀x∈([1,1,2,3]:List Int),1≤x∧x≤3:=by decide
 exact g _ (getD_mem (fR _ (n:=4) (by decide)).1)
theorem uM (c:Int):1≤mE c∧mE c≤5:=by
 have:=(fR (mxS c 11) (n:=4) (by decide)).1; unfold mE; have e:((4:Nat):Int)=4:=rfl; rw [e] at this
 split<;>omega
noncomputable def fW (p:Int × Int) (ns:List Int) (st:Nat) (f:Int):Nat→List SK
 | 0=>[]
 | t+1=>if sX (fW p ns st f t) (drQ p (ns.getD (st+1+t) 0)) then fW p ns st f t else fW p ns st f t++[(drQ p (ns.getD (st+1+t) 0),f * wK (ns.getD (st+1+t) 0))]
noncomputable def rJ (p:Int × Int) (ns:List Int) (st:Nat):List SK:=fW p ns st (lK (ns.getD st 0)) (mE (ns.getD st 0))
noncomputable def CKit41:List D→R→Prop:=fun ds r=>∃p ns st,p∈bS∧st≤100∧ds=[.scr ns, .int ((st:Nat):Int),bO p]∧r= .val (.tup [.lst ((rJ p ns st).map skD), .int (lK (ns.getD st 0))])
structure KitOk (p:Int × Int) (f:Int) (L:List SK):Prop where
 pos:0<L.length
 le:L.length≤5
 st:∀s∈L,nL p s.1∧f≤s.2∧s.2≤3 * f
 nd:(L.map fun s=>sqD s.1).Nodup
 f13:f=1∨f=3
theorem KitOk.stk {p:Int × Int} {f:Int} {L:List SK} (h:KitOk p f L):StkOk p L:=⟨h.pos,by have:=h.le; omega,fun s hs=>by
 obtain ⟨h1,h2,h3⟩:=h.st s hs; have:=h.f13
 exact ⟨h1,by omega,by omega⟩⟩
theorem pK {p:Int × Int} (hp:p∈bS) (ns:List Int) (st:Nat) {f:Int} (hf:f=1∨f=3):∀t,(fW p ns st f t).length≤t∧(0<t→0<(fW p ns st f t).length)∧(∀s∈fW p ns st f t,nL p s.1∧f≤s.2∧s.2≤3 * f)∧((fW p ns st f t).map fun s=>sqD s.1).Nodup
 | 0=>⟨aZ _,fun h=>by omega,fun s hs=>(nomatch hs),gW⟩
 | t+1=>by
  obtain ⟨a,b,c,d⟩:=pK hp ns st hf t; have e:fW p ns st f (t+1)=if sX (fW p ns st f t) (drQ p (ns.getD (st+1+t) 0)) then fW p ns st f t else fW p ns st f t++[(drQ p (ns.getD (st+1+t) 0),f * wK (ns.getD (st+1+t) 0))]:=rfl
  rw [e]; clear e; cases h:sX (fW p ns st f t) (drQ p (ns.getD (st+1+t) 0)) with
  | true=>
   rw [if_pos rfl]; refine ⟨by omega,fun _=> ?_,c,d⟩; cases e:fW p ns st f t with
   | nil=>rw [e] at h; cases h
   | cons _ _=>simp
  | false=>
   rw [if_neg bP]; refine ⟨by rw [aN]; simp; omega,fun _=>by rw [aN]; simp,fun s hs=> ?_, ?_⟩
   ·rcases bN.mp hs with hs | hs
    ·exact c s hs
    ·rw [aR.mp hs]; obtain ⟨p1,p2⟩:=pr41_ok (ns.getD (st+1+t) 0); refine ⟨drQ_ok hp _, ?_⟩; show f≤f * _∧f * _≤3 * f
     rcases hf with rfl | rfl<;>omega
   ·rw [aT]; refine cI.mpr ⟨d,by simp,fun x hx y hy z=>sqIn_no h ?_⟩; have:y=sqD (drQ p (ns.getD (st+1+t) 0)):=by simpa using hy
    rw [← this,← z]; exact hx
theorem kit41_ok {p:Int × Int} (hp:p∈bS) (ns:List Int) (st:Nat):KitOk p (lK (ns.getD st 0)) (rJ p ns st):=by obtain ⟨a,b,c,d⟩:=pK hp ns st (sP (ns.getD st 0)) (mE (ns.getD st 0)); obtain ⟨m1,m2⟩:=uM (ns.getD st 0); exact ⟨b (by omega),cA a m2,c,d,sP _⟩
noncomputable def rK (n:Nat):Nat→List (List Nat)
 | 0=>[[]]
 | k+1=>(bJ n).flatMap fun i=>(rK n k).map fun r=>i::r
theorem rK_mem {n:Nat}:∀ {k:Nat} {row:List Nat},row∈rK n k↔row.length=k∧∀i∈row,i<n
 | 0,row=>by
  show row∈[[]]↔_; rw [aR]
  constructor
  ·rintro rfl; exact ⟨rfl,fun i hi=>(nomatch hi)⟩
  ·exact fun h=>fV h.1
 | k+1,row=>by
  show row∈(bJ n).flatMap _↔_; rw [eG]
  constructor
  ·rintro ⟨i,hi,h⟩; obtain ⟨r,hr,rfl⟩:=aJ.mp h; obtain ⟨h1,h2⟩:=rK_mem.mp hr; refine ⟨by rw [cR,h1],fun j hj=> ?_⟩
   rcases cJ.mp hj with rfl | hj
   ·exact bY.mp hi
   ·exact h2 j hj
  ·rintro ⟨h1,h2⟩; cases row with
   | nil=>cases h1
   | cons i r=>exact ⟨i,bY.mpr (h2 i bB),aJ.mpr ⟨r,rK_mem.mpr ⟨by simpa using h1,fun j hj=>h2 j (aU _ hj)⟩,rfl⟩⟩
noncomputable def upK (n K:Nat):List (List Nat):=(bJ (K+1)).flatMap (rK n)
theorem upK_mem {n K:Nat} {row:List Nat}:row∈upK n K↔row.length≤K∧∀i∈row,i<n:=by
 unfold upK; rw [eG]
 constructor
 ·rintro ⟨k,hk,h⟩; obtain ⟨h1,h2⟩:=rK_mem.mp h; have:=bY.mp hk; exact ⟨by omega,h2⟩
 ·rintro ⟨h1,h2⟩; exact ⟨row.length,bY.mpr (by omega),rK_mem.mpr ⟨rfl,h2⟩⟩
theorem len_prf {f:Int} {pr:Nat→Int}:∀ (row:List Nat),(∀k∈row,f≤pr k)→f * (row.length:Int)≤S45.prQ pr row
 | [],_=>by simp [S45.prQ]
 | k::row,h=>by
  have ih:=len_prf row fun j hj=>h j (aU _ hj)
  have h1:=h k bB; show f * ((row.length+1:Nat):Int)≤(pr k::row.map pr).sum; rw [List.sum_cons]; have e:S45.prQ pr row=(row.map pr).sum:=rfl; rw [← e,Int.natCast_add,Int.mul_add]; omega
structure RwsOk (L:List SK) (b:Int) (n:Nat) (R:List (List Nat)):Prop where
 ne:R≠[]
 len:R.length≤n+1
 ok:∀row∈R,iG L row∧S45.prQ (prK L) row≤b∧row.length≤n
noncomputable def CPr41:List D→R→Prop:=fun ds r=>∃ (L:List SK) (row:List Nat),iG L row∧row.length≤400∧ds=[.lst (L.map skD), .tup (cE row)]∧r= .val (.int (S45.prQ (prK L) row))
noncomputable def CTab41 (P:Program) (w:World) (K:aD):List D→R→Prop:=fun ds r=>∃p L row,p∈bS∧StkOk p L∧iG L row∧row.length≤400∧ds=[bO p, .lst (L.map (mgD P w K p)), .tup (cE row)]∧r= .val (.tup ((S45.tabQ (eO p L) (cP p) row).map aQ))
theorem natD_in (a:List Nat):cE a=(inR a).map D.int:=natI a
structure BqOk (p:Int × Int) (L:List SK) (b:Int) (B:List Bk):Prop where
 len:B.length≤400
 ent:∀e∈B,iG L e.2.1∧e.1=S45.prQ (prK L) e.2.1∧e.1≤b∧e.2.2=S45.tabQ (eO p L) (cP p) e.2.1∧e.2.1.length≤300
 nd:(B.map fun e=>e.2.2).Nodup
 srt:(B.map fun e=>e.2.1).Pairwise (klt L)
 cl:∀e∈B,∀k,k<L.length→e.1+prK L k≤b→∃e'∈B,e'.2.2=eO p L k e.2.2∧kle L e'.2.1 (e.2.1++[k])
 st:0≤b→∃e∈B,e.2.2=cP p∧kle L e.2.1 []
 all:∀row,iG L row→S45.prQ (prK L) row≤b→∃e∈B,e.2.2=S45.tabQ (eO p L) (cP p) row∧kle L e.2.1 row
theorem tab_all {p:Int × Int} {L:List SK} (hp:p∈bS) (S:StkOk p L) {row:List Nat} (h:iG L row):(S45.tabQ (eO p L) (cP p) row).length=(cP p).length:=by obtain ⟨q1,q2⟩:=sW hp (fun s hs=>(S.st s hs).1) h; rw [← q2]; unfold kR; rw [aB]; exact q1.1
theorem sq_24 (q:SQ):pl (sqD q)=true∧dep (sqD q)=1:=by
 show pl (iA _ _ _ _)=true∧dep (iA _ _ _ _)=1; unfold iA
 split
 ·exact ⟨rfl,rfl⟩
 ·split<;>exact ⟨rfl,rfl⟩
theorem pl_sk (s:SK):pl (skD s)=true∧dep (skD s)≤2:=by
 refine ⟨?_, ?_⟩
 ·show (pl (sqD s.1) && (true && true))=true; rw [(sq_24 s.1).1]; rfl
 ·show max (dep (sqD s.1)) (max 0 0)+1≤2; rw [(sq_24 s.1).2]; decide
theorem pls_sk (L:List SK):plL (L.map skD)=true∧jO (L.map skD)≤2:=⟨sI skD (fun s=>(pl_sk s).1) L,pS skD 2 (fun s=>(pl_sk s).2) L⟩
noncomputable def FI (K:aD) (mg:Str→Option Value) (n:Str) (st:Stmt):Prop:=∃f fd,mg n=some (.ref f)∧Fun K n n st f fd
theorem FI.mk {K:aD} {h:Heap} {mg:Str→Option Value} {n:Str} {st:Stmt} {od an:Option Addr} {sl:Array (Option Value)} {oc kV dc pm cd ct:Value} {f:Addr} (X:K.In h) (G:h.Ns mainGlobals mg) (a:eV K mainGlobals n=some (some (.ref f))) (l:K.lookup f=some ⟨oc,od, .func (fY n n (kE st) (iP st) (aW st) .none kV dc pm an cd ct),sl⟩) (c:jK K cd n=true) (k:dE K (.ref f)=true):FI K mg n st:=⟨f,_,tR X G a,fun_mk (st:=st) l c k⟩
noncomputable def rInsN:V→List V→Hp→VK→Prop:=fun x vs H Q=>∃l xs y,∃ (z:Int) (k:Nat),x= .ref l∧vs=[.int z,y]∧z.toNat=k∧0≤z∧k≤xs.length∧xs.length≤1000∧H l=some (.lst xs)∧Q .non (upd H l (.lst (xs.take k++y::xs.drop k)))
theorem xG {y:V} {u:Value} (ry:RelV y u):∀ {xs:List V} {its:List Value} (k:Nat),Vals xs its→Vals (xs.take k++y::xs.drop k) (its.take k++u::its.drop k)
 | _,_,0,h=>by rw [jM,jM,kX,kX]; exact .cons ry h
 | _,_,k+1, .nil=> .cons ry .nil
 | _,_,k+1, .cons r h=> .cons r (xG ry k h)
theorem mt_insN {X:Cx}:MtM X "list.insert" rInsN:=by
 intro pins s σ H x vs v us Q I rx rv h; obtain ⟨l,xs,y,x,k,rfl,rfl,hxk,hx0,hk,h1000,hH,q⟩:=h; cases rx; cases rv with
 | cons r0 rv=>
  obtain ⟨u,rfl,ru⟩:=Vals.one (show Vals [y] _ from rv); obtain ⟨t,rfl⟩:=r0; obtain ⟨z,its,n,r,hl,e⟩:=I.lstM hH; have ln:=r.length; have s1:=gR (show its.length≤1000 by omega)
  have fit:¬ (!Builtin.List.listFitsIndex x)=true:=by
   unfold Builtin.List.listFitsIndex; have h1: -(2^63:Int)≤x:=by omega
   have h2:x<2^63:=by omega
   rw [decide_eq_true h1,decide_eq_true h2]; decide
  have hz:its.toArray.size≤sizeLine:=by rw [aK]; exact eZ s1
  have M:=PySem.AutoSeq1.list_insert_list_int_val_1 l its.toArray n x t u fit hz; refine call_meets F.slot_list_insert ⟨_,e,rfl⟩ F.entry_list_insert (F.args_list_insert_3 _ _ _) M ⟨e, ?_⟩; refine ⟨.non,_,I.lset (its':=its.take k++u::its.drop k) hH e ?_ (xG ru k r) ?_,rfl,q⟩
  ·have hn:¬ (x<0):=by omega
   have hm:min x.toNat its.toArray.size=k:=by rw [aK]; omega
   simp only [if_neg hn,hm]; apply Array.toList_inj.mp; simp; exact eW (by rw [cQ]; exact aZ _)
  ·rw [aN,cR,bH,cQ]; omega
section
variable {X:Cx} {sd:List Slot} {e b:Expr} {pos:Pos} {d:D} {ds:List D} {E:jU}
theorem RepL.ins {K:aD} {F:Hp} {d:D} {v:V} (r:Rep K F d v):∀ {ds:List D} {xs:List V} (k:Nat),RepL K F ds xs→RepL K F (ds.take k++d::ds.drop k) (xs.take k++v::xs.drop k)
 | ds,xs,0,h=>by rw [jM,jM,kX,kX]; exact .cons r h
 | [],xs,k+1,h=>by simp only [RepL] at h; subst h; exact .cons r .nil
 | d'::ds,xs,k+1,h=>by obtain ⟨x,xs',rfl,a1,r1⟩:=h.uncons; exact .cons a1 (RepL.ins r k r1)
theorem psd_insN (i k:Nat) {x:Str} {p ap cp:Pos} {l:Addr} (hs:sd[i]? =some (.own l ds)) (hb:PEd X sd b (.val (.int (k:Int)))) (h:PEd X sd e (.val d)) (hk:k≤ds.length) (hl:ds.length≤1000) (hE:E.nx (sd.set i (.own l (ds.take k++d::ds.drop k))))
  (hm:PE X (.Call (.Attribute (.Name x p) "insert" ap) [b,e] [] cp) (tBM X.K "list" rInsN (mQ i) (oM (wE X b) (oM (wE X e) zG))):=by exact xC jD PySem.F.slot_list_insert PySem.F.type_list_insert mt_insN (pv _) (jH fH (jH fH pa_nil)))
  (hsw:swapsWith (.Call (.Attribute (.Name x p) "insert" ap) [b,e] [] cp) none pos.line X.env=pure false:=by rfl):
  PSd1 X sd (.Expr (.Call (.Attribute (.Name x p) "insert" ap) [b,e] [] cp) pos) E:= .mk fun σ F H S=>
 (qT hm hsw).to (by
  obtain ⟨o,h1,h2,n,xs,q,rl⟩:=S.slots.get hs; refine ⟨.ref l,by rw [h1,h2], .inl ⟨rfl,xs, .of q⟩,(hb σ F H S).imp fun v0 H0 ⟨F0,S0,s0,q0⟩=>(h σ F0 H0 S0).imp fun v H1 ⟨F1,S1,s1,q1⟩=> ?_⟩; obtain ⟨o',h1',h2',n',xs',q',rl'⟩:=S1.slots.get hs; simp only [ResOk,Rep] at q0; subst q0; have ln:=rl'.len
  exact ⟨l,xs',v,(k:Int),k,rfl,rfl,by omega,by omega,by omega,by omega,q',_,F1,S1.wr hs (RepL.ins q1 k rl'),s0.trans s1,hE⟩)
end
theorem pickIx_rev (n:Nat):nA n none none (some (-1))=(bJ n).reverse:=by
 have e:nA n none none (some (-1))=(bJ n).map fun k=>n - 1 - k:=by
  unfold nA sliceRange; simp only [sliceBounds]
  by_cases h:n=0
  ·subst h; rfl
  ·have hp:¬ ((some (-1:Int)).getD 1>0):=by decide
   simp only [if_neg hp]; have e1:(some (-1:Int)).getD 1= -1:=rfl; rw [e1,if_pos (show (n:Int) - 1> -1 by omega),show (-(-1):Int)=1 from rfl,Int.ediv_one,show (((n:Int) - 1 - -1 - -1 - 1)).toNat=n by omega]; refine bI fun k hk=> ?_
   have:=bY.mp hk; omega
 rw [e]; refine jW (by simp) fun i h1 h2=> ?_
 rw [dR,kY,List.getElem_reverse,kY,iH]
theorem pickA_rev {α:Type} (l:List α):kO l none none (some (-1))=l.reverse:=by
 unfold kO; rw [pickIx_rev,List.filterMap_reverse]; congr 1
 have g:∀n,n≤l.length→(bJ n).filterMap (l[·]?)=l.take n:=fun n=>by
  induction n with
  | zero=>exact fun _=>rfl
  | succ n ih=>intro h; rw [List.range_succ,List.filterMap_append,ih (by omega),gO,lU (by omega)]; simp [show n<l.length from h]
 rw [g _ (aZ _),cY]
noncomputable abbrev E0:=Int × List Int × List (List Int)
noncomputable def e0D (e:E0):D:= .tup [.int e.1,aQ e.2.1, .tup (e.2.2.map aQ)]
noncomputable def rG (n:Nat) (r:List Int):Bool:=r.all fun i=>decide (0≤i) && decide (i<(n:Int))
noncomputable def fU (r:List Int):List Nat:=r.map Int.toNat
theorem nV {L:List SK} {r:List Int} (h:rG L.length r=true):iG L (fU r)∧inR (fU r)=r:=by
 have h:=bD.mp h; refine ⟨fun i hi=> ?_, ?_⟩
 ·obtain ⟨z,hz,rfl⟩:=aJ.mp hi; have:=h z hz; rw [aP,decide_eq_true_iff,decide_eq_true_iff] at this; omega
 ·unfold inR fU; rw [aY]; refine (bI fun z hz=> ?_).trans (List.map_id r); have:=h z hz; rw [aP,decide_eq_true_iff,decide_eq_true_iff] at this; show ((z.toNat:Nat):Int)=z; omega
theorem rok_D {L:List SK} {r:List Int} (h:rG L.length r=true):aQ r= .tup (cE (fU r)):=by rw [natD_in,(nV h).2]; rfl
noncomputable def prE (L:List SK) (b:Int) (e:E0):Bool:=rG L.length e.2.1 && (decide (e.1=S45.prQ (prK L) (fU e.2.1)) && decide (e.1≤b))
noncomputable def vdE (p:Int × Int) (L:List SK) (b:Int) (e:E0):Bool:=prE L b e && decide (e.2.2=S45.tabQ (eO p L) (cP p) (fU e.2.1))
noncomputable def toB (E:List E0):List Bk:=E.map fun e=>(e.1,fU e.2.1,e.2.2)
noncomputable def okE (p:Int × Int) (L:List SK) (b:Int) (E:List E0):Bool:=(E.all (vdE p L b)) && decide ((E.map fun e=>e.2.2).Nodup)
structure ShE (E:List E0):Prop where
 len:E.length≤600
 rl:∀e∈E,e.2.1.length≤300
theorem vM {p:Int × Int} {L:List SK} {b:Int} {E:List E0} (h:okE p L b E=true) (Sh:ShE E):BkOk p L b (toB E):=by
 obtain ⟨h1,h2⟩:=dJ.mp h; have h1:=bD.mp h1; have h2:=of_decide_eq_true h2; refine ⟨by unfold toB; rw [aB]; have:=Sh.len; omega,fun e he=> ?_, ?_⟩
 ·obtain ⟨x,hx,rfl⟩:=aJ.mp he; have v:=h1 x hx; unfold vdE prE at v; rw [aP,aP,aP,decide_eq_true_iff,decide_eq_true_iff,decide_eq_true_iff] at v; obtain ⟨⟨v1,v2,v3⟩,v4⟩:=v; refine ⟨v2,v3,(nV v1).1, ?_,v4⟩; show (fU x.2.1).length≤400; unfold fU; rw [aB]; have:=Sh.rl x hx; omega
 ·unfold toB; rw [aY]; exact h2
theorem yM (E:List E0) (e:E0):toB (E++[e])=toB E++[(e.1,fU e.2.1,e.2.2)]:=by unfold toB; rw [aT]; rfl
theorem nZ (p:Int × Int) (L:List SK) (b:Int) (E:List E0) (e:E0):okE p L b (E++[e])=(okE p L b E && (vdE p L b e && !decide (e.2.2∈E.map fun e=>e.2.2))):=by
 unfold okE; rw [List.all_append,aT]; have e1:[e].all (vdE p L b)=vdE p L b e:=by simp
 have e2:decide ((E.map (fun e=>e.2.2)++[e].map fun e=>e.2.2).Nodup)=(decide ((E.map fun e=>e.2.2).Nodup) && !decide (e.2.2∈E.map fun e=>e.2.2)):=by
  apply dM.mpr; rw [decide_eq_true_iff,aP,decide_eq_true_iff,qE,decide_eq_false_iff_not,cI]
  constructor
  ·rintro ⟨a,_,c⟩; exact ⟨a,fun z=>c _ z _ (by simp) rfl⟩
  ·rintro ⟨a,c⟩; refine ⟨a,by simp,fun x hx y hy z=>c ?_⟩; have:y=e.2.2:=by simpa using hy
   rw [← this,← z]; exact hx
 rw [e1,e2]; cases E.all (vdE p L b)<;>cases vdE p L b e<;>cases decide ((E.map fun e=>e.2.2).Nodup)<;>rfl
theorem okE_app {p:Int × Int} {L:List SK} {b:Int} {E:List E0}:∀ {F:List E0},okE p L b E=false→okE p L b (E++F)=false
 | [],h=>by rw [gL]; exact h
 | f::F,h=>by rw [show E++f::F=(E++[f])++F by simp]; exact okE_app (by rw [nZ,h]; rfl)
theorem xH {p:Int × Int} {L:List SK} {b:Int} {E:List E0} {t:Nat} (h:okE p L b (E.take t)=false):okE p L b E=false:=by rw [← List.take_append_drop t E]; exact okE_app h
noncomputable def xI:List D→R→Prop:=fun ds r=>∃ (L:List SK) (row:List Int),row.length≤300∧ds=[.lst (L.map skD),aQ row]∧r= .val (.bl (rG L.length row))
noncomputable def CIsPr43:List D→R→Prop:=fun ds r=>∃ (L:List SK) (b:Int) (e:E0),e.2.1.length≤300∧ds=[.lst (L.map skD), .int b, .int e.1,aQ e.2.1]∧r= .val (.bl (prE L b e))
noncomputable def CPbn43 (P:Program) (w:World) (K:aD):List D→R→Prop:=fun ds r=>∃p L b E,p∈bS∧StkOk p L∧ShE E∧ds=[bO p, .lst (L.map skD), .lst (L.map (mvD p)), .int b, .lst (E.map e0D)]∧r= .val (if okE p L b E=true then pcD P w K p L (toB E) else .non)
noncomputable def hoE (p:Int × Int) (L:List SK) (b:Int) (E:List E0):Bool:=okE p L b E && telQ p L b (toB E)
noncomputable def sR:List D→R→Prop:=fun ds r=>∃p L b E,p∈bS∧StkOk p L∧(L.map fun s=>sqD s.1).Nodup∧ShE E∧0≤b∧ds=[bO p, .lst (L.map skD), .int b, .lst (E.map e0D)]∧r= .val (.bl (hoE p L b E))
theorem toB_D {p:Int × Int} {L:List SK} {b:Int} {E:List E0} (h:okE p L b E=true):(toB E).map enD=E.map e0D:=by
 unfold toB; rw [aY]; refine bI fun e he=> ?_
 have v:=bD.mp (dJ.mp h).1 e he; unfold vdE prE at v; have v1:=(dJ.mp (dJ.mp v).1).1; show D.tup [.int e.1, .tup (cE (fU e.2.1)), .tup (e.2.2.map aQ)]=D.tup [.int e.1,aQ e.2.1, .tup (e.2.2.map aQ)]; rw [rok_D v1]
noncomputable def kN (n:Nat):Nat:=([9,4,3,2,2]:List Nat).getD (n - 1) 0
noncomputable def uJ (c:Int) (n:Nat) (f:Int):Int:=f * (c%((kN n:Int)+1))+c / 16%f
noncomputable def CBnd43:List D→R→Prop:=fun ds r=>∃ (c:Int) (L:List SK) (f:Int),0<L.length∧L.length≤5∧(f=1∨f=3)∧ds=[.int c, .lst (L.map skD), .int f]∧r= .val (.int (uJ c L.length f))
theorem bnd43_ok (c:Int) (n:Nat) {f:Int} (hf:f=1∨f=3):0≤uJ c n f∧uJ c n f<f * ((kN n:Int)+1):=by
 have h0:=cM c (show (kN n:Int)+1≠0 by omega); have h1:=bR c (show (0:Int)<(kN n:Int)+1 by omega); unfold uJ
 rcases hf with rfl | rfl<;>omega
theorem ksB_mem {p:Int × Int} {L:List SK} {B:List Bk} {nb:List Nat}:decide (nb∈B.map fun e=>nrQ p L e.2.1)=true↔jA nb∈ksB p L B:=by
 rw [decide_eq_true_iff]
 constructor
 ·intro h; obtain ⟨x,hx,rfl⟩:=aJ.mp h; exact aJ.mpr ⟨x,hx,rfl⟩
 ·intro h; obtain ⟨x,hx,e⟩:=aJ.mp h; exact aJ.mpr ⟨x,hx,sE e⟩
theorem pb_step {p:Int × Int} {L:List SK} {b:Int} {E:List E0} {e:E0} (hp:p∈bS) (S:StkOk p L) (h:okE p L b E=true) (Sh:ShE E) (hv:prE L b e=true):okE p L b (E++[e])= !(decide (nrQ p L (fU e.2.1)∈(toB E).map fun e=>nrQ p L e.2.1) || !decide (e.2.2=kR p (nrQ p L (fU e.2.1)))):=by
 have O:=vM h Sh; have ro:=(nV (dJ.mp hv).1).1; obtain ⟨n1,n2⟩:=sW hp (fun s hs=>(S.st s hs).1) ro; rw [nZ,h,dO]; unfold vdE; rw [hv,dO,n2]
 by_cases q:e.2.2=S45.tabQ (eO p L) (cP p) (fU e.2.1)
 ·rw [decide_eq_true q,dO,oZ,Bool.or_false]; congr 1; apply dM.mpr; rw [decide_eq_true_iff,decide_eq_true_iff]
  constructor
  ·intro hm; obtain ⟨x,hx,ex⟩:=aJ.mp hm; have xm:(x.1,fU x.2.1,x.2.2)∈toB E:=aJ.mpr ⟨x,hx,rfl⟩; obtain ⟨a1,a2⟩:=O.nr hp S xm; refine aJ.mpr ⟨_,xm, ?_⟩; rw [yC hp a1 n1 (by rw [a2,n2,← q]; exact ex)]
  ·intro hm; obtain ⟨x,hx,ex⟩:=aJ.mp hm; obtain ⟨y,hy,ey⟩:=aJ.mp hx; have en:nrQ p L x.2.1=nrQ p L (fU e.2.1):=ex; obtain ⟨a1,a2⟩:=O.nr hp S hx; refine aJ.mpr ⟨y,hy, ?_⟩; have:x.2.2=y.2.2:=by rw [← ey]
   rw [← this,← a2,en,n2,q]
 ·rw [decide_eq_false q,nO,Bool.not_false,Bool.or_true]; rfl
namespace S45
variable {T:Type} [DecidableEq T] {n:Nat} {pr:Nat→Int} {beh:Nat→T→T} {t0:T}
noncomputable def ordB {α:Type} (rv:Bool) (l:List α):List α:=if rv then l.reverse else l
theorem ord_mem {α:Type} (rv:Bool) (l:List α) (x:α):x∈ordB rv l↔x∈l:=by
 unfold ordB
 split
 ·exact List.mem_reverse
 ·exact Iff.rfl
noncomputable def run43 (n:Nat) (pr:Nat→Int) (beh:Nat→T→T) (t0:T) (rv:Bool):Nat→List (Ent T) × Lay T
 | 0=>([],lay0 t0)
 | t+1=>(ordB rv ((run43 n pr beh t0 rv t).2 t)).foldl (one n pr beh t) (run43 n pr beh t0 rv t)
theorem Ok.perm {t:Int} {rest rest':List (List Nat × T)} {s:List (Ent T) × Lay T} (o:Ok n pr beh t0 t rest s) (h:∀x,x∈rest'↔x∈rest):Ok n pr beh t0 t rest' s:=
 ⟨o.ent,o.nd,o.ly,o.par,o.ch,fun j x hj hx=>(o.done j x hj hx).imp (fun z=>⟨z.1,(h x).mpr z.2⟩) id,fun x hx=>o.sub x ((h x).mp hx),o.le⟩
theorem ok_run43 (hp:∀k,k<n→1≤pr k) (rv:Bool):∀t:Nat,Ok n pr beh t0 (t:Int) (ordB rv ((run43 n pr beh t0 rv t).2 t)) (run43 n pr beh t0 rv t)
 | 0=>(ok_run (beh:=beh) (t0:=t0) hp 0).perm fun x=>ord_mem rv _ x
 | t+1=>by
  have o:Ok n pr beh t0 (t:Int) [] (run43 n pr beh t0 rv (t+1)):=Ok.fold hp (jJ t) (ok_run43 hp rv t); refine Ok.perm (rest:=(run43 n pr beh t0 rv (t+1)).2 ((t+1:Nat):Int)) ⟨fun e he=> ?_,o.nd,o.ly,o.par,o.ch,fun j x hj hx=> ?_,fun x hx=>hx,o.le⟩ fun x=>ord_mem rv _ x
  ·obtain ⟨h1,h2,h3⟩:=o.ent e he; exact ⟨h1,by omega,h3⟩
  ·by_cases z:j≤(t:Int)
   ·rcases o.done j x z hx with ⟨_,h⟩ | h
    ·cases h
    ·exact .inr h
   ·have:j=((t+1:Nat):Int):=by omega
    subst this; exact .inl ⟨rfl,hx⟩
theorem run43_bd (rv:Bool):∀t:Nat,Bd n (run43 n pr beh t0 rv t)
 | 0=>run_bd (beh:=beh) (pr:=pr) (t0:=t0) 0
 | t+1=>fold_bd (run43_bd rv t)
theorem one_mono {t:Int} {s:List (Ent T) × Lay T} (e:List Nat × T):s.1.length≤(one n pr beh t s e).1.length:=by
 unfold one
 split
 ·show _≤(s.1++[_]).length; rw [aN]; omega
 ·exact aZ _
theorem uH {t:Int}:∀ {rest:List (List Nat × T)} {s:List (Ent T) × Lay T},s.1.length≤(rest.foldl (one n pr beh t) s).1.length
 | [],_=>aZ _
 | e::rest,s=>cA (one_mono e) (uH (rest:=rest) (s:=one n pr beh t s e))
theorem run43_ne (rv:Bool):∀t:Nat,0<(run43 n pr beh t0 rv (t+1)).1.length
 | 0=>by
  have e:ordB rv ((run43 n pr beh t0 rv 0).2 ((0:Nat):Int))=[([],t0)]:=by cases rv<;>rfl
  show 0<((ordB rv ((run43 n pr beh t0 rv 0).2 ((0:Nat):Int))).foldl (one n pr beh ((0:Nat):Int)) (run43 n pr beh t0 rv 0)).1.length; rw [e]; show 0<(one n pr beh ((0:Nat):Int) ([],lay0 t0) ([],t0)).1.length; unfold one; rw [if_pos ⟨by simp,by simp⟩]; simp
 | t+1=>bQ (run43_ne rv t) uH
end S45
noncomputable def lP (p:Int × Int) (L:List SK) (rv:Bool) (t:Nat):St45:=S45.run43 L.length (prK L) (eO p L) (cP p) rv t
theorem few43 {p:Int × Int} {L:List SK} {b t:Int} {U:List (List Nat)} (F:FewR L b U) (ht:t≤b) {rest:List (List Nat × List (List Int))} {s:St45} (o:S45.Ok L.length (prK L) (eO p L) (cP p) t rest s):s.1.length≤400:=by
 have nd:(s.1.map fun e=>e.2.1).Nodup:=by have q:=o.nd; unfold List.Nodup at q ⊢; rw [List.pairwise_map] at q ⊢; refine List.Pairwise.imp_of_mem (fun {a c} ha hc h z=>h ?_) q; rw [(o.ent a ha).2.2.2.2,(o.ent c hc).2.2.2.2,z]
 have:=nd.length_le_of_subset (l₂:=U) fun row hr=>by obtain ⟨e,he,rfl⟩:=aJ.mp hr; obtain ⟨_,h2,h3,h4,_⟩:=o.ent e he; exact F.all _ h4 (by omega)
 rw [aB] at this; have:=F.len; omega
noncomputable def sN (c:Int) (B:List Bk) (e:Bk):List Bk:=B.take (mxS c B.length%((B.length:Int)+1)).toNat++e::B.drop (mxS c B.length%((B.length:Int)+1)).toNat
noncomputable def lR (c:Int) (B:List Bk):List Bk:=B.foldl (sN c) []
theorem zN (c:Int) (B:List Bk) (e:Bk):(sN c B e).Perm (e::B):=by unfold sN; refine List.perm_middle.trans (List.Perm.cons _ ?_); rw [List.take_append_drop]
theorem yV (c:Int) (B:List Bk) (e:Bk):lR c (B++[e])=sN c (lR c B) e:=by unfold lR; rw [jN]; rfl
theorem sK (c:Int):∀B:List Bk,(lR c B).Perm B:=by
 have g:∀ (B A:List Bk),(B.foldl (sN c) A).Perm (A++B):=fun B=>by
  induction B with
  | nil=>exact fun A=>by rw [gL]; exact .refl _
  | cons e B ih=>intro A; refine (ih (sN c A e)).trans ?_; refine ((zN c A e).append_right B).trans ?_; exact List.perm_middle.symm
 exact fun B=>g B []
noncomputable def lD (p:Int × Int) (L:List SK) (b:Nat) (c:Int):List Bk:=lR c (lP p L (decide (c%2=1)) (b+1)).1
noncomputable def CFnd43:List D→R→Prop:=fun ds r=>∃p L c U,∃b:Nat,p∈bS∧StkOk p L∧b≤40∧FewR L (b:Int) U∧ds=[bO p, .lst (L.map skD), .int (b:Int), .int c]∧r= .own ((lD p L b c).map enD)
theorem fnd43_ok {p:Int × Int} {L:List SK} {b:Nat} {c:Int} {U:List (List Nat)} (hp:p∈bS) (S:StkOk p L) (F:FewR L (b:Int) U):BkOk p L (b:Int) (lD p L b c)∧S45.HoldsP L.length (prK L) (eO p L) (b:Int) (lD p L b c)∧(lD p L b c)≠[]∧(lD p L b c).length≤400∧∀e∈lD p L b c,e.2.1.length≤300:=by
 have o:S45.Ok L.length (prK L) (eO p L) (cP p) (b:Int) [] (lP p L (decide (c%2=1)) (b+1)):=S45.Ok.fold S.pr (jJ b) (S45.ok_run43 S.pr (decide (c%2=1)) b); have l4:=few43 F (lV _) o; have ne:=S45.run43_ne (n:=L.length) (pr:=prK L) (beh:=eO p L) (t0:=cP p) (decide (c%2=1)) b; have ne:0<(lP p L (decide (c%2=1)) (b+1)).1.length:=ne; have pm:=sK c (lP p L (decide (c%2=1)) (b+1)).1; unfold lD; generalize lP p L (decide (c%2=1)) (b+1)=s at o l4 ne pm
 have rl:∀e∈s.1,e.2.1.length≤300:=fun e he=>by obtain ⟨_,h2,h3,h4,_⟩:=o.ent e he; exact F.rl _ (F.all _ h4 (by omega))
 refine ⟨⟨by rw [pm.length_eq]; omega,fun e he=> ?_, ?_⟩,S45.holds_all S.pr o (lV _) (jJ b) (kS.mp ne) ?_ fun x=>⟨fun h=> ?_,fun h=>pm.mem_iff.mpr h.1⟩,kS.mp (by rw [pm.length_eq]; exact ne),by rw [pm.length_eq]; exact l4,fun e he=>rl e (pm.mem_iff.mp he)⟩
 ·have he:=pm.mem_iff.mp he; obtain ⟨h1,h2,h3,h4,h5⟩:=o.ent e he; exact ⟨h3,h2,h4,by have:=rl e he; omega,h5⟩
 ·exact (pm.map _).nodup_iff.mpr o.nd
 ·exact cA (List.length_filter_le _ _) (by omega)
 ·have h:=pm.mem_iff.mp h; exact ⟨h,(o.ent x h).2.1⟩
end DL
namespace DL
open PySem PySem.Spec PyProof.Rows L2
noncomputable def CDe43 (P:Program) (w:World) (K:aD):List D→R→Prop:=fun ds r=>∃p L b e,p∈bS∧StkOk p L∧e.2.1.length≤300∧ds=[bO p, .lst (L.map skD), .lst (L.map (mgD P w K p)), .int b,e0D e]∧r= .val (.bl (vdE p L b e))
noncomputable def ksF (E:List E0):List (List (List Key)):=E.map fun e=>tbK e.2.2
noncomputable def clT (p:Int × Int) (L:List SK) (b:Int) (E:List E0):Bool:=E.all fun e=>(bJ L.length).all fun k=> !decide (e.1+prK L k≤b) || E.any fun x=>decide (x.2.2=eO p L k e.2.2) && decide (x.1≤e.1+prK L k)
noncomputable def duE (p:Int × Int) (L:List SK) (b:Int) (E:List E0):Bool:=okE p L b E && (decide ([]∈E.map fun e=>e.2.1) && clT p L b E)
noncomputable def CDu43:List D→R→Prop:=fun ds r=>∃p L b E,p∈bS∧StkOk p L∧ShE E∧ds=[bO p, .lst (L.map skD), .int b, .lst (E.map e0D)]∧r= .val (.bl (duE p L b E))
theorem ho_du {p:Int × Int} {L:List SK} {b:Int} {E:List E0} (hp:p∈bS) (S:StkOk p L) (Sh:ShE E):hoE p L b E=duE p L b E:=by
 unfold hoE duE; cases ho:okE p L b E with
 | false=>rfl
 | true=>
  rw [dO,dO]; have O:=vM ho Sh; apply dM.mpr; rw [show (telQ p L b (toB E)=true↔S45.HoldsP L.length (prK L) (eO p L) b (toB E)) from uG hp S O,aP,decide_eq_true_iff]; unfold S45.HoldsP clT; refine and_congr ?_ ?_
  ·constructor
   ·rintro ⟨e,he,h⟩; obtain ⟨x,hx,rfl⟩:=aJ.mp he; refine aJ.mpr ⟨x,hx, ?_⟩; have h:fU x.2.1=[]:=h; unfold fU at h; exact List.map_eq_nil_iff.mp h
   ·intro h; obtain ⟨x,hx,e⟩:=aJ.mp h; refine ⟨_,aJ.mpr ⟨x,hx,rfl⟩, ?_⟩; show fU x.2.1=[]; rw [e]; rfl
  ·rw [bD]
   constructor
   ·intro h e he; rw [bD]; intro k hk
    by_cases hle:e.1+prK L k≤b
    ·obtain ⟨x,hx,x1,x2⟩:=h _ (aJ.mpr ⟨e,he,rfl⟩) k (bY.mp hk) hle; obtain ⟨y,hy,rfl⟩:=aJ.mp hx; rw [kJ]; refine .inr (cX.mpr ⟨y,hy, ?_⟩); rw [aP,decide_eq_true_iff,decide_eq_true_iff]; exact ⟨x1,x2⟩
    ·rw [decide_eq_false hle]; rfl
   ·intro h e he k hk hle; obtain ⟨y,hy,rfl⟩:=aJ.mp he; have:=bD.mp (h y hy) k (bY.mpr hk); have hle:y.1+prK L k≤b:=hle; rw [decide_eq_true hle,oZ,iD] at this; obtain ⟨x,hx,x1⟩:=cX.mp this; rw [aP,decide_eq_true_iff,decide_eq_true_iff] at x1; exact ⟨_,aJ.mpr ⟨x,hx,rfl⟩,x1.1,x1.2⟩
noncomputable def bk0 (B:List Bk):List E0:=B.map fun e=>(e.1,inR e.2.1,e.2.2)
theorem yG (row:List Nat):fU (inR row)=row:=by unfold fU inR; rw [aY]; exact (bI fun i _=>fE i).trans (List.map_id row)
theorem toB_bk0 (B:List Bk):toB (bk0 B)=B:=by unfold toB bk0; rw [aY]; refine (bI fun e _=> ?_).trans (List.map_id B); show (e.1,fU (inR e.2.1),e.2.2)=e; rw [yG]
theorem bk0_D (B:List Bk):(bk0 B).map e0D=B.map enD:=by
 unfold bk0; rw [aY]; refine bI fun e _=> ?_
 show D.tup [.int e.1,aQ (inR e.2.1), .tup (e.2.2.map aQ)]=D.tup [.int e.1, .tup (cE e.2.1), .tup (e.2.2.map aQ)]; rw [natD_in]; rfl
theorem rok_inR {L:List SK} {row:List Nat} (h:iG L row):rG L.length (inR row)=true:=by unfold rG inR; rw [List.all_map,bD]; intro i hi; have:=h i hi; show (decide (0≤(i:Int)) && decide ((i:Int)<(L.length:Int)))=true; rw [decide_eq_true (by omega),decide_eq_true (by omega)]; rfl
theorem bk0_ok {p:Int × Int} {L:List SK} {b:Int} {B:List Bk} (O:BkOk p L b B):okE p L b (bk0 B)=true:=by
 unfold okE; rw [aP,bD,decide_eq_true_iff]; refine ⟨fun x hx=> ?_, ?_⟩
 ·obtain ⟨e,he,rfl⟩:=aJ.mp hx; obtain ⟨h1,h2,h3,h4,h5⟩:=O.ent e he; unfold vdE prE; show (rG L.length (inR e.2.1) && (decide (e.1=S45.prQ (prK L) (fU (inR e.2.1))) && decide (e.1≤b)) && decide (e.2.2=S45.tabQ (eO p L) (cP p) (fU (inR e.2.1))))=true; rw [yG,rok_inR h3,decide_eq_true h1,decide_eq_true h2,decide_eq_true h5]; rfl
 ·unfold bk0; rw [aY]; exact O.nd
theorem bk0_ho {p:Int × Int} {L:List SK} {b:Int} {B:List Bk} (hp:p∈bS) (S:StkOk p L) (O:BkOk p L b B) (h:S45.HoldsP L.length (prK L) (eO p L) b B):hoE p L b (bk0 B)=true:=by unfold hoE; rw [bk0_ok O,toB_bk0,tel_t hp S O h]; rfl
noncomputable def CRt43:List D→R→Prop:=fun ds r=>∃p L b E,p∈bS∧StkOk p L∧(L.map fun s=>sqD s.1).Nodup∧ShE E∧0≤b∧ds=[bO p, .lst (L.map skD), .int b, .lst (E.map e0D)]∧r= .val (.bl true)
theorem pl_e0 (e:E0):pl (e0D e)=true:=by show (true && (pl (aQ e.2.1) && (plL (e.2.2.map aQ) && true)))=true; rw [pl_tupI,kM]; rfl
theorem dep_e0 (e:E0):dep (e0D e)≤3:=by show max 0 (max (dep (aQ e.2.1)) (max (jO (e.2.2.map aQ)+1) 0))+1≤3; have:=lG e.2.2; rw [xW]; omega
theorem pls_e0 (E:List E0):plL (E.map e0D)=true∧jO (E.map e0D)≤3:=⟨sI e0D pl_e0 E,pS e0D 3 dep_e0 E⟩
theorem cutD_but (ds:List D):DL.cutD ds none (some (-1))=ds.take (ds.length - 1):=by
 unfold DL.cutD; rw [HT.sIx_none]
 have e:HT.sIx ds.length ds.length (some (-1))=ds.length - 1:=by show (if (-1:Int)<0 then (-1+(ds.length:Int)).toNat else min (-1:Int).toNat ds.length)=_; rw [if_pos (by decide)]; omega
 rw [e]; simp
theorem cutD_last (ds:List D):DL.cutD ds (some (-1)) none=ds.drop (ds.length - 1):=by
 unfold DL.cutD; rw [HT.sIx_none]
 have e:HT.sIx ds.length 0 (some (-1))=ds.length - 1:=by show (if (-1:Int)<0 then (-1+(ds.length:Int)).toNat else min (-1:Int).toNat ds.length)=_; rw [if_pos (by decide)]; omega
 rw [e]; exact eW (by simp)
noncomputable def eY (L:List SK) (c:Int):Nat:=(mxS c 53%(L.length:Int)).toNat
noncomputable def nN (T:List (List Int)) (sp:Nat) (g:List Int):List (List Int):=T.take sp++[g]++T.drop (sp+1)
noncomputable def sp0 (c:Int) (T:List (List Int)):Nat:=(mxS c 54%(T.length:Int)).toNat
noncomputable def bx0 (c:Int) (p:Int × Int):Nat:=(mxS c 55%p.2).toNat
noncomputable def sU (p:Int × Int) (f:List Int) (bx:Nat):List Int:=f.take bx++[(f.getD bx 0+1)%((2^p.1.toNat:Nat):Int)]++f.drop (bx+1)
noncomputable def tW (p:Int × Int) (f:List Int):List (List Int):=[f.take (f.length - 1)++[((2^p.1.toNat:Nat):Int)],[-1]++f.drop 1,f++[0],f.take (f.length - 1)]
noncomputable def xQ (c:Int) (T:List (List Int)):List (List Int):=if mxS c 56%2=0 then T.take (T.length - 1) else T++T.drop (T.length - 1)
noncomputable def smA (L:List SK) (c:Int) (e o:E0):List E0:=[(e.1+1,e.2.1,e.2.2),(e.1 - 1,e.2.1,e.2.2),(e.1,o.2.1,e.2.2),(e.1+prK L (eY L c),e.2.1++[(eY L c:Int)],e.2.2),(e.1,e.2.1++[(L.length:Int)],e.2.2),(e.1,[-1]++e.2.1,e.2.2),(e.1,e.2.1,o.2.2)]
noncomputable def smB (p:Int × Int) (L:List SK) (c:Int) (e o:E0):List E0:=smA L c e o++[(e.1+prK L (eY L c),e.2.1++[(eY L c:Int)],e.2.2.map (onQ p (L.getD (eY L c) default).1))]++[(e.1,e.2.1,nN e.2.2 (sp0 c e.2.2) (sU p (e.2.2.getD (sp0 c e.2.2) []) (bx0 c p)))]
noncomputable def smC (p:Int × Int) (L:List SK) (c:Int) (e o:E0) (t:Nat):List E0:=smB p L c e o++((tW p (e.2.2.getD (sp0 c e.2.2) [])).take t).map fun g=>(e.1,e.2.1,nN e.2.2 (sp0 c e.2.2) g)
noncomputable def vR (p:Int × Int) (L:List SK) (c:Int) (e o:E0):List E0:=smC p L c e o 4++[(e.1,e.2.1,xQ c e.2.2)]
noncomputable def e43 (Es:List E0) (k:Nat) (c:Int):E0:=Es.getD (mxS c k%(Es.length:Int)).toNat default
noncomputable def sp43 (p:Int × Int) (L:List SK) (Es:List E0) (c:Int):List E0:=
 if mxS c 50%16=0 then Es.take (mxS c 51%(Es.length:Int)).toNat++Es.drop ((mxS c 51%(Es.length:Int)).toNat+1)
 else if mxS c 50%16=1 then Es++[e43 Es 51 c]
 else Es.take (mxS c 51%(Es.length:Int)).toNat++[(vR p L c (e43 Es 51 c) (e43 Es 52 c)).getD (mxS c 50%16 - 2).toNat default]++Es.drop ((mxS c 51%(Es.length:Int)).toNat+1)
structure EsOk (p:Int × Int) (Es:List E0):Prop where
 ne:Es≠[]
 len:Es.length≤400
 rl:∀e∈Es,e.2.1.length≤200
 tl:∀e∈Es,e.2.2.length=(cP p).length
 ti:∀e∈Es,∀ws∈e.2.2,ws∈cP p
noncomputable def CSp43:List D→R→Prop:=fun ds r=>∃p L b Es c,p∈bS∧StkOk p L∧EsOk p Es∧ds=[bO p, .lst (L.map skD), .int b, .lst (Es.map e0D), .int c]∧r= .own ((sp43 p L Es c).map e0D)
theorem sm43_rl {p:Int × Int} {L:List SK} {c:Int} {e o:E0} (h1:e.2.1.length≤200) (h2:o.2.1.length≤200):∀x∈vR p L c e o,x.2.1.length≤300:=fun x hx=>by
 unfold vR smC smB smA at hx; simp only [bN,cJ,List.not_mem_nil,or_false,aJ] at hx
 rcases hx with (((h | h) | h) | ⟨g,_,h⟩) | h
 ·rcases h with h | h | h | h | h | h | h<;>rw [h]<;>simp<;>omega
 ·rw [h]; simp; omega
 ·rw [h]; show e.2.1.length≤300; omega
 ·rw [← h]; show e.2.1.length≤300; omega
 ·rw [h]; show e.2.1.length≤300; omega
theorem xZ (p:Int × Int) (L:List SK) (c:Int) (e o:E0):(vR p L c e o).length=14:=rfl
theorem oJ {p:Int × Int} {Es:List E0} (O:EsOk p Es) (k:Nat) (c:Int):e43 Es k c∈Es:=getD_mem (fR _ (kS.mpr O.ne)).1
theorem sp43_sh {p:Int × Int} {L:List SK} {Es:List E0} {c:Int} (O:EsOk p Es):ShE (sp43 p L Es c):=by
 have l4:=O.len; unfold sp43
 split
 ·refine ⟨by rw [aN,bH,cQ]; omega,fun e he=> ?_⟩; have:e∈Es:=(bN.mp he).elim iS List.mem_of_mem_drop; have:=O.rl e this; omega
 ·split
  ·refine ⟨by rw [aN]; show _+1≤_; omega,fun e he=> ?_⟩
   rcases bN.mp he with he | he
   ·have:=O.rl e he; omega
   ·rw [aR.mp he]; have:=O.rl _ (oJ O 51 c); omega
  ·refine ⟨by rw [aN,aN,bH,cQ]; show _+1+_≤_; omega,fun e he=> ?_⟩
   rcases bN.mp he with he | he
   ·rcases bN.mp he with he | he
    ·have:=O.rl e (iS he); omega
    ·rw [aR.mp he]; refine sm43_rl (O.rl _ (oJ O 51 c)) (O.rl _ (oJ O 52 c)) _ (getD_mem ?_); rw [xZ]; have:=bR (mxS c 50) (show (0:Int)<16 by decide); omega
   ·have:=O.rl e (List.mem_of_mem_drop he); omega
section
variable {X:Cx} {sd:List Slot} {a h:Expr} {pos p2:Pos} {ds:List D} {k:Nat}
theorem pd_tkT (ha:PEd X sd a (.val (.tup ds))) (hh:PEd X sd h (.val (.int (k:Int)))) (hk:k<ds.length):PEd X sd (.Subscript a (.Slice none (some h) none p2) pos) (.val (.tup (ds.take k))):=
 PEd.cast (mW (ol:=none) (oh:=some (k:Int)) ha trivial hh (by rw [HT.sIx_nat]; omega)) (by rw [uP])
theorem pd_dpT (ha:PEd X sd a (.val (.tup ds))) (hh:PEd X sd h (.val (.int ((k+1:Nat):Int)))) (h0:0<ds.length):PEd X sd (.Subscript a (.Slice (some h) none none p2) pos) (.val (.tup (ds.drop (k+1)))):=
 PEd.cast (mW (ol:=some ((k+1:Nat):Int)) (oh:=none) ha hh trivial (by rw [HT.sIx_nat]; omega)) (by rw [tU])
theorem sIx_m1 (n d:Nat):HT.sIx n d (some (-1))=n - 1:=by show (if (-1:Int)<0 then (-1+(n:Int)).toNat else min (-1:Int).toNat n)=_; rw [if_pos (by decide)]; omega
theorem pd_buT (ha:PEd X sd a (.val (.tup ds))) (hh:PEd X sd h (.val (.int (-1)))) (h0:0<ds.length):PEd X sd (.Subscript a (.Slice none (some h) none p2) pos) (.val (.tup (ds.take (ds.length - 1)))):=
 PEd.cast (mW (ol:=none) (oh:=some (-1)) ha trivial hh (by rw [sIx_m1]; omega)) (by rw [cutD_but])
theorem pd_laT (ha:PEd X sd a (.val (.tup ds))) (hh:PEd X sd h (.val (.int (-1)))) (h0:2≤ds.length):PEd X sd (.Subscript a (.Slice (some h) none none p2) pos) (.val (.tup (ds.drop (ds.length - 1)))):=
 PEd.cast (mW (ol:=some (-1)) (oh:=none) ha hh trivial (by rw [sIx_m1]; omega)) (by rw [cutD_last])
end
theorem fil_two {p:Int × Int} (hp:p∈bS):2≤(cP p).length:=by
 have:∀p∈bS,2≤(2^p.1.toNat)^p.2.toNat:=by decide+kernel
 unfold cP; rw [oX]; exact this p hp
theorem few_b43 {p:Int × Int} {f:Int} {L:List SK} (h:KitOk p f L) {b:Int} (hb:b<f * ((kN L.length:Int)+1)):FewR L b (upK L.length (kN L.length))∧kN L.length≤9:=by
 have g:∀n∈[1,2,3,4,5],(upK n (kN n)).length≤400∧kN n≤9:=by decide+kernel
 have hl:L.length∈[1,2,3,4,5]:=by
  have h1:=h.pos; have h2:=h.le; have e:L.length=1∨L.length=2∨L.length=3∨L.length=4∨L.length=5:=by omega
  rcases e with e | e | e | e | e<;>rw [e]<;>decide
 obtain ⟨g1,g2⟩:=g _ hl; refine ⟨⟨g1,fun row hr=>cA (upK_mem.mp hr).1 (by omega),fun row ho hr=>upK_mem.mpr ⟨?_,ho⟩⟩,g2⟩; have:=len_prf (f:=f) (pr:=prK L) row fun k hk=>(h.st _ (getD_mem (d:=(default:SK)) (ho k hk))).2.1
 have hf:=h.f13
 rcases hf with rfl | rfl<;>omega
theorem es43_ok {p:Int × Int} {f:Int} {L:List SK} (hp:p∈bS) (h:KitOk p f L) {b:Int} (hb:b<f * ((kN L.length:Int)+1)) {B:List Bk} (O:BkOk p L b B) (ne:B≠[]) (l4:B.length≤400):EsOk p (bk0 B):=by
 obtain ⟨F,g2⟩:=few_b43 h hb; refine ⟨fun z=>ne (List.map_eq_nil_iff.mp z),by unfold bk0; rw [aB]; exact l4,fun e he=> ?_,fun e he=> ?_,fun e he=> ?_⟩
 ·obtain ⟨x,hx,rfl⟩:=aJ.mp he; obtain ⟨h1,h2,h3,_,_⟩:=O.ent x hx; have:=(upK_mem.mp (F.all _ h3 (by omega))).1; show (inR x.2.1).length≤200; unfold inR; rw [aB]; omega
 ·obtain ⟨x,hx,rfl⟩:=aJ.mp he; obtain ⟨h1,h2,h3,_,h5⟩:=O.ent x hx; show x.2.2.length=_; rw [h5]; exact tab_all hp h.stk h3
 ·obtain ⟨x,hx,rfl⟩:=aJ.mp he; obtain ⟨h1,h2,h3,_,h5⟩:=O.ent x hx; show ∀ws∈x.2.2,_; rw [h5]; exact oH hp h.stk h3
theorem EsOk.sh {p:Int × Int} {Es:List E0} (O:EsOk p Es):ShE Es:=⟨cA O.len (by decide),fun e he=>cA (O.rl e he) (by decide)⟩
theorem cut43 (ns:List Int) (h:ns.length≤63):∃cs:List Int,DL.cutD (ns.map D.int) (some 9) (some 17)=cs.map D.int∧cs.length≤63:=⟨(ns.drop (HT.sIx ns.length 0 (some 9))).take (HT.sIx ns.length ns.length (some 17) - HT.sIx ns.length 0 (some 9)),by unfold DL.cutD; rw [aB,← iC,← gQ],by rw [bH,cQ]; omega⟩
end DL
set_option maxHeartbeats 400000
namespace K43
open PySem PySem.Spec PyProof.Rows L2 DL
noncomputable def top (i:Nat):Stmt:=PySem.Challenge.pw_leastrow_k43_lists_held.main.body.getD i (.Pass ⟨0,0,0,0⟩)
noncomputable abbrev sWhole:Stmt:=top 1
noncomputable abbrev sCount:Stmt:=top 2
noncomputable abbrev yB:Stmt:=top 3
noncomputable abbrev sFill:Stmt:=top 4
noncomputable abbrev sNum:Stmt:=top 5
noncomputable abbrev sItself:Stmt:=top 8
noncomputable abbrev xD:Stmt:=top 9
noncomputable abbrev yK:Stmt:=top 10
noncomputable abbrev xR:Stmt:=top 12
noncomputable abbrev sStepOn:Stmt:=top 11
noncomputable abbrev sNos:Stmt:=top 14
noncomputable abbrev yU:Stmt:=top 15
noncomputable abbrev sNbeh:Stmt:=top 16
noncomputable abbrev sTfrom:Stmt:=top 17
noncomputable abbrev sNrow:Stmt:=top 22
noncomputable abbrev vP:Stmt:=top 19
noncomputable abbrev sPrice:Stmt:=top 20
noncomputable abbrev sIsPr:Stmt:=top 23
noncomputable abbrev sPbn:Stmt:=top 24
noncomputable abbrev sStd:Stmt:=top 25
noncomputable abbrev vX:Stmt:=top 27
noncomputable abbrev sClo:Stmt:=top 26
noncomputable abbrev sHolds:Stmt:=top 28
noncomputable abbrev sCellAt:Stmt:=top 30
noncomputable abbrev sMixed:Stmt:=top 31
noncomputable abbrev sLFill:Stmt:=top 32
noncomputable abbrev sLWord:Stmt:=top 33
noncomputable abbrev sAft:Stmt:=top 34
noncomputable abbrev zW:Stmt:=top 36
noncomputable abbrev sLMv:Stmt:=top 39
noncomputable abbrev sSize:Stmt:=top 35
noncomputable abbrev zP:Stmt:=top 37
noncomputable abbrev sBnd:Stmt:=top 38
noncomputable abbrev sLPr:Stmt:=top 41
noncomputable abbrev sTab:Stmt:=top 40
noncomputable abbrev vW:Stmt:=top 43
noncomputable abbrev sDe:Stmt:=top 44
noncomputable abbrev sDu:Stmt:=top 45
noncomputable abbrev sRi:Stmt:=top 47
noncomputable abbrev sSp:Stmt:=top 46
noncomputable abbrev wF:Stmt:=top 48
section
variable {P:Program} {w:World} {K:aD} {mg:Str→Option Value} {base:Heap} {f:Addr} {fd:FuncData}
noncomputable def CWhole:List D→R→Prop:=fun ds r=>∃d,ds=[d]∧(Unit→∃i,d= .int i)∧r= .val (.bl true)
theorem ok_whole (F:Fun K "is_whole" "is_whole" sWhole f fd) (zisinstance:mg "isinstance"=none) (zint:mg "int"=none) (zbool:mg "bool"=none) (hm:mg "is_whole"=some (.ref f)):bC P w K mg base "is_whole" 1 1 CWhole:=by
 have nd:(["thing"]:List Str).Nodup:=by decide+kernel
 refine dD (N:=["thing"]) (ps:=["thing"]) (k:=0) F ⟨rfl,rfl,rfl,nd,rfl,by decide+kernel,by decide+kernel⟩ hm (fun _ _ _ _ _ _ us hl=>match us,hl with | [_],_=>rfl) fun cdv A outer s H E hr ds r hl c=> ?_
 obtain ⟨d,rfl,hd,rfl⟩:=c; obtain ⟨i,rfl⟩:=hd (); exact aS (bG (PEd.cast (lY (vV rfl zisinstance rfl zint PyProof.Rows.boot_int (aA 0 rfl (pv 0)) (fun _=>by simp) (kit_int _ (.int i))) fun _=>nU (pd_not (vV rfl zisinstance rfl zbool PyProof.Rows.boot_bool (aA 0 rfl (pv 0)) (fun _=>by simp) (wV _ (.int i))))) rfl) trivial rfl)
theorem pl_sq (q:SQ):pl (sqD q)=true:=by
 show pl (iA _ _ _ _)=true; unfold iA
 split
 ·rfl
 ·split<;>rfl
theorem dep_sq (q:SQ):dep (sqD q)=1:=by
 show dep (iA _ _ _ _)=1; unfold iA
 split
 ·rfl
 ·split<;>rfl
theorem plL_map {α:Type} (g:α→D) (h:∀a,pl (g a)=true):∀l:List α,plL (l.map g)=true
 | []=>rfl
 | a::l=>by show (pl (g a) && plL (l.map g))=true; rw [h a,plL_map g h l]; rfl
theorem wP {α:Type} (g:α→D) (n:Nat) (h:∀a,dep (g a)≤n):∀l:List α,jO (l.map g)≤n
 | []=>cW _
 | a::l=>Nat.max_le.mpr ⟨h a,wP g n h l⟩
noncomputable def wH:List D→R→Prop:=fun ds r=>∃p:Int × Int,ds=[bO p]∧0≤p.1∧p.1≤60∧r= .val (.int (2^p.1.toNat))
theorem ok_count (F:Fun K "word_count" "word_count" sCount f fd) (zrange:mg "range"=none) (hm:mg "word_count"=some (.ref f)):bC P w K mg base "word_count" 1 1 wH:=by
 have nd:(["size","count","bit"]:List Str).Nodup:=by decide+kernel
 refine dD (N:=["size","count","bit"]) (ps:=["size"]) (k:=0) F ⟨rfl,rfl,rfl,nd,rfl,by decide+kernel,by decide+kernel⟩ hm (fun _ _ _ _ _ _ us hl=>match us,hl with | [_],_=>rfl) fun cdv A outer s H E hr ds r hl c=> ?_
 obtain ⟨p,rfl,h0,h1,rfl⟩:=c; have ep:p.1=((p.1.toNat:Nat):Int):=by omega
 refine aF (bV 1 nd rfl (Or.inl rfl) aO ?_); refine aF (qN (ds:=hR 0 p.1.toNat) (fun k=>[.val (bO p), .val (.int (2^k)), .un]) (fun k=>[.val (bO p), .val (.int (2^k)), .val (.int (0+(k:Int)))]) (iJ (n:=p.1.toNat) rfl zrange (PEd.cast (cV (n:=0) (d:= .int p.1) (aA 0 rfl (pv 0)) aO rfl fun _ _=>rfl) (by rw [← ep])) (by omega)) ⟨.inr rfl, .inr rfl, .inr rfl,trivial⟩ (fun i d hd=> ?_) (fun i d hd=> ?_) ?_)
 ·obtain ⟨_,rfl⟩:=iF hd; exact cU 2 (bL (i:=2) nd rfl (Or.inl rfl))
 ·refine aS (bV 1 nd rfl (Or.inl rfl) (cD iY (aA 1 rfl (pv 1)) aO (mul64 (by decide) (by decide))) ?_); exact ⟨.inr rfl, .inr rfl, .inl rfl,trivial⟩
 ·refine aS (bG (aA 1 rfl (pv 1)) trivial ?_); rw [gC]
noncomputable def CEach:List D→R→Prop:=fun ds r=>∃ (L:List (List Int)) (m:Nat),ds=[.lst (L.map aQ), .int (m:Int)]∧L.length * m≤900∧m≤64∧(∀s∈L,s.length≤100)∧r= .own ((L.flatMap fun s=>(bJ m).map fun (w:Nat)=>s++[(w:Int)]).map aQ)
theorem ok_each (F:Fun K "with_each_word" "with_each_word" yB f fd) (zrange:mg "range"=none) (hm:mg "with_each_word"=some (.ref f)):bC P w K mg base "with_each_word" 1 2 CEach:=by
 have nd:(["starts","count","longer","start"]:List Str).Nodup:=by decide+kernel
 refine dD (N:=["starts","count","longer","start"]) (ps:=["starts","count"]) (k:=0) F ⟨rfl,rfl,rfl,nd,rfl,by decide+kernel,by decide+kernel⟩ hm (fun _ _ _ _ _ _ us hl=>match us,hl with | [_,_],_=>rfl) fun cdv A outer s H E hr ds r hl c=> ?_
 obtain ⟨L,m,rfl,hL,hm64,hs,rfl⟩:=c; have nd2:(["word","start"]:List Str).Nodup:=by decide+kernel
 refine aF (eA 2 nd rfl (Or.inl rfl) (fJ (ds:=[]) aG (cW _)) fun l=> ?_); refine aF (qN (ds:=L.map aQ) (fun k=>[.val (.lst (L.map aQ)), .val (.int (m:Int)), .own l (((L.take k).flatMap fun s=>(bJ m).map fun (w:Nat)=>s++[(w:Int)]).map aQ), .un]) (fun k=>[.val (.lst (L.map aQ)), .val (.int (m:Int)), .own l (((L.take k).flatMap fun s=>(bJ m).map fun (w:Nat)=>s++[(w:Int)]).map aQ), .val (aQ (L.getD k []))]) (gE (aA 0 rfl (pv 0))) ⟨.inr rfl, .inr rfl, .inr rfl, .inr rfl,trivial⟩ (fun k d hd=> ?_) (fun k d hd=> ?_) ?_)
 ·obtain ⟨_,rfl⟩:=oA hd; exact cU 3 (bL (i:=3) nd rfl (Or.inr rfl))
 ·obtain ⟨hk,rfl⟩:=oA hd; have hmem:L.getD k []∈L:=getD_mem hk
  have et:L.take (k+1)=L.take k++[L.getD k []]:=by rw [gO]; simp [cC,hk]
  have lk:(L.take k).length * m+m≤900:=by
   have h1:(L.take k).length+1≤L.length:=by rw [bH]; omega
   have h2:=nX m h1; rw [Nat.succ_mul] at h2; omega
  have comp:∀ {pos:Pos},PEd (hX CX0 P w K mg base ["starts","count","longer","start"] "with_each_word" (aW yB) f cdv A outer s H E).nox [.val (.lst (L.map aQ)), .val (.int (m:Int)), .own l (((L.take k).flatMap fun s=>(bJ m).map fun (w:Nat)=>s++[(w:Int)]).map aQ), .val (aQ (L.getD k []))] (match (iP yB).getD 1 (.Pass ⟨0,0,0,0⟩) with | .For _ _ [.Expr (.Call _ [c] _ _) _] _ _=>c | _=> .Constant .none 0 ⟨0,0,0,0⟩) (.own (((hR 0 m).filter fun _=>true).map fun d=>D.tup ((L.getD k []).map D.int++[d]))):=fun {pos}=>by
   refine gP (N:=["word","start"]) (M:=["starts","count","longer","start"]) (cap:=[none,some 3]) (sc:=aW yB) (Tb:=fun d=>[.val d, .val (aQ (L.getD k []))]) (fun _=>true) (fun d=>D.tup ((L.getD k []).map D.int++[d])) (iJ (n:=m) rfl zrange (aA 1 rfl (pv 1)) (by omega)) (by rw [gC]; omega) rfl (by decide+kernel) rfl (by decide+kernel) rfl (fun cl C fp s H d _=>cU 0 (bL (i:=0) nd2 rfl (Or.inl rfl))) (fun d _=>⟨.inl rfl, .inr rfl,trivial⟩) (fun cl C fp s H d _=> .inl ⟨rfl,rfl⟩) fun cl C fp s H d _ _=> ?_
   refine gJ (aA 1 rfl (pv 1)) (eQ (ds:=[d]) (aC (aA 0 rfl (pv 0)) aG) (aE rfl)) ?_; have:=hs _ hmem; simp only [aB,cR,hW]; omega
  have ec:((hR 0 m).filter fun _=>true).map (fun d=>D.tup ((L.getD k []).map D.int++[d]))=((bJ m).map fun (w:Nat)=>L.getD k []++[(w:Int)]).map aQ:=by
   rw [bU.mpr (fun _ _=>rfl)]; unfold hR; rw [aY,aY]; refine bI fun w _=> ?_
   simp [aQ]
  refine aS (rF 2 rfl (pv 2) (PEd.val (comp (pos:=⟨0,0,0,0⟩))) ?_ ?_)
  ·rw [aB,mT,ec,aB,aB,iH]; omega
  ·refine ⟨.inr rfl, .inr rfl, .inr ?_, .inl rfl,trivial⟩; rw [et,ec,List.flatMap_append,aT]; simp
 ·refine aS (mU 2 rfl (pv 2) ?_); show R.own _=R.own _; rw [aB,cY]
noncomputable def CFill:List D→R→Prop:=fun ds r=>∃p,p∈bS∧ds=[bO p]∧r= .own ((gZ (2^p.1.toNat) p.2.toNat).map aQ)
theorem ok_fill (F:Fun K "fillings" "fillings" sFill f fd) (zrange:mg "range"=none) (hm:mg "fillings"=some (.ref f)) (GC:bC P w K mg base "word_count" 1 1 wH) (GE:bC P w K mg base "with_each_word" 1 2 CEach):bC P w K mg base "fillings" 2 1 CFill:=by
 have nd:(["size","count","told","box"]:List Str).Nodup:=by decide+kernel
 refine dD (N:=["size","count","told","box"]) (ps:=["size"]) (k:=1) F ⟨rfl,rfl,rfl,nd,rfl,by decide+kernel,by decide+kernel⟩ hm (fun _ _ _ _ _ _ us hl=>match us,hl with | [_],_=>rfl) fun cdv A outer s H E hr ds r hl c=> ?_
 obtain ⟨p,hp,rfl,rfl⟩:=c; obtain ⟨h1,h2,h3,h4,h5⟩:=qF p hp; have e2:p.2=((p.2.toNat:Nat):Int):=by omega
 have m64:2^p.1.toNat≤64:=by
  have:p.1.toNat≤6:=by omega
  exact cA (nY (by decide) this) (by decide)
 have ec:(2:Int)^p.1.toNat=((2^p.1.toNat:Nat):Int):=by push_cast; rfl
 refine aF (bV 1 nd rfl (Or.inl rfl) (bK (ds:=[bO p]) GC hr rfl (aC (aA 0 rfl (pv 0)) aG) ⟨p,rfl,by omega,by omega,rfl⟩ trivial rfl) ?_); refine aF (eA (ds:=[aQ []]) 2 nd rfl (Or.inl rfl) (fJ (ds:=[aQ []]) (aC (eQ (ds:=[]) aG (cW _)) aG) (aE rfl)) fun l=> ?_); refine aF (dY (ds:=hR 0 p.2.toNat) (fun k sd=>∃l,sd=[.val (bO p), .val (.int (2^p.1.toNat)), .own l ((gZ (2^p.1.toNat) k).map aQ), .un]) (iJ (n:=p.2.toNat) rfl zrange (PEd.cast (cV (n:=1) (d:= .int p.2) (aA 0 rfl (pv 0)) aO rfl fun _ _=>rfl) (by rw [← e2])) (by omega)) ⟨_,Le.refl _,l,rfl⟩ (fun k d sdk hd hk=> ?_) fun sdn hn=> ?_)
 ·obtain ⟨hk2,rfl⟩:=iF hd; obtain ⟨l2,rfl⟩:=hk; refine ⟨[.val (bO p), .val (.int (2^p.1.toNat)), .own l2 ((gZ (2^p.1.toNat) k).map aQ), .val (.int (0+(k:Int)))],cU 3 (bL (i:=3) nd rfl (Or.inl rfl)), ?_⟩; refine iZ 2 rfl ?_; refine aS (eA 2 nd rfl (Or.inl rfl) (bK (ds:=[.lst ((gZ (2^p.1.toNat) k).map aQ), .int ((2^p.1.toNat:Nat):Int)]) GE hr rfl (aC (aA 2 rfl (pv 2)) (aC (PEd.cast (aA 1 rfl (pv 1)) (by rw [ec])) aG)) ⟨gZ (2^p.1.toNat) k,2^p.1.toNat,rfl, ?_,m64,fun s hs=> ?_,rfl⟩ trivial rfl) fun l3=> ?_)
  ·rw [oX]; exact tY p hp k hk2
  ·rw [sD _ _ s hs]; omega
  ·exact ⟨[.val (bO p), .val (.int (2^p.1.toNat)), .own l3 ((gZ (2^p.1.toNat) (k+1)).map aQ), .un],⟨.inr rfl, .inr rfl, .inr rfl, .inl rfl,trivial⟩,l3,rfl⟩
 ·rw [gC] at hn; obtain ⟨l2,rfl⟩:=hn; exact aS (mU 2 rfl (pv 2) rfl)
noncomputable def CNum:List D→R→Prop:=fun ds r=>∃ (p:Int × Int) (ws:List Int),ds=[bO p,aQ ws]∧0≤p.1∧p.1≤60∧r= .val (.int (qG (2^p.1.toNat) ws))
theorem ok_num (F:Fun K "number_of" "number_of" sNum f fd) (hm:mg "number_of"=some (.ref f)) (GC:bC P w K mg base "word_count" 1 1 wH):bC P w K mg base "number_of" 2 2 CNum:=by
 have nd:(["size","filling","count","number","word"]:List Str).Nodup:=by decide+kernel
 refine dD (N:=["size","filling","count","number","word"]) (ps:=["size","filling"]) (k:=1) F ⟨rfl,rfl,rfl,nd,rfl,by decide+kernel,by decide+kernel⟩ hm (fun _ _ _ _ _ _ us hl=>match us,hl with | [_,_],_=>rfl) fun cdv A outer s H E hr ds r hl c=> ?_
 obtain ⟨p,ws,rfl,h0,h1,rfl⟩:=c
 have b1: -(2^64)<(2:Int)^p.1.toNat∧(2:Int)^p.1.toNat<2^64:=by
  have h3:p.1.toNat≤60:=by omega
  have h4:2^p.1.toNat≤2^60:=nY (by decide) h3; have h5:(2:Int)^p.1.toNat=((2^p.1.toNat:Nat):Int):=by push_cast; rfl
  rw [h5]; have h6:(2:Nat)^60=1152921504606846976:=by decide
  rw [h6] at h4; generalize 2^p.1.toNat=q at h4 ⊢; omega
 refine aF (bV 2 nd rfl (Or.inl rfl) (bK (ds:=[bO p]) GC hr rfl (aC (aA 0 rfl (pv 0)) aG) ⟨p,rfl,h0,h1,rfl⟩ trivial rfl) ?_); refine aF (bV 3 nd rfl (Or.inl rfl) aO ?_); refine aF (qN (ds:=ws.map D.int) (fun k=>[.val (bO p), .val (aQ ws), .val (.int (2^p.1.toNat)), .val (.int (qG (2^p.1.toNat) (ws.take k))), .un]) (fun k=>[.val (bO p), .val (aQ ws), .val (.int (2^p.1.toNat)), .val (.int (qG (2^p.1.toNat) (ws.take k))), .val (.int (ws.getD k 0))]) (iM (aA 1 rfl (pv 1))) ⟨.inr rfl, .inr rfl, .inr rfl, .inr rfl, .inr rfl,trivial⟩ (fun k d hd=> ?_) (fun k d hd=> ?_) ?_)
 ·obtain ⟨_,rfl⟩:=wR hd; exact cU 4 (bL (i:=4) nd rfl (Or.inl rfl))
 ·obtain ⟨hk,rfl⟩:=wR hd
  have et:ws.take (k+1)=ws.take k++[ws.getD k 0]:=by rw [gO]; simp [cC,hk]
  refine aS (bV 3 nd rfl (Or.inl rfl) (dX fO (cD iY (aA 3 rfl (pv 3)) (aA 2 rfl (pv 2)) (mul64 b1.1 b1.2)) (aA 4 rfl (pv 4))) ?_); refine ⟨.inr rfl, .inr rfl, .inr rfl, .inr ?_, .inl rfl,trivial⟩; rw [et]; unfold qG; rw [jN]; rfl
 ·refine aS (bG (aA 3 rfl (pv 3)) trivial ?_); show R.val _=R.val _; rw [aB,cY]
noncomputable def CItself:List D→R→Prop:=fun ds r=>∃ (k:Nat) (m a:Int),ds=[.str (nm k), .int m, .int a]∧7≤k∧k<10∧0<m∧r= .val (.int (selfW k m a))
theorem ok_itself (F:Fun K "word_by_itself" "word_by_itself" sItself f fd) (hm:mg "word_by_itself"=some (.ref f)):bC P w K mg base "word_by_itself" 1 3 CItself:=by
 have nd:(["name","count","word"]:List Str).Nodup:=by decide+kernel
 refine dD (N:=["name","count","word"]) (ps:=["name","count","word"]) (k:=0) F ⟨rfl,rfl,rfl,nd,rfl,by decide+kernel,by decide+kernel⟩ hm (fun _ _ _ _ _ _ us hl=>match us,hl with | [_,_,_],_=>rfl) fun cdv A outer s H E hr ds r hl c=> ?_
 obtain ⟨k,m,a,rfl,h7,h10,hm0,rfl⟩:=c; refine aF (eX (k:=decide (k=7)) (cK (aA 0 rfl (pv 0)) cZ rfl rfl rfl (vB k h10)) (fun h=> ?_) fun h=>cB ?_)
 ·have:k=7:=by simpa using h
  subst this; exact aS (bG (dX lC (dX lC (aA 1 rfl (pv 1)) aO) (aA 2 rfl (pv 2))) trivial rfl)
 have n7:¬ k=7:=by simpa using h
 refine aF (eX (k:=decide (k=8)) (cK (aA 0 rfl (pv 0)) cZ rfl rfl rfl (nm_up k h10)) (fun h=> ?_) fun h=>cB ?_)
 ·have:k=8:=by simpa using h
  subst this; exact aS (bG (cD dL (cD iY (aA 2 rfl (pv 2)) aO (mul64 (by decide) (by decide))) (aA 1 rfl (pv 1)) hm0) trivial rfl)
 have n8:¬ k=8:=by simpa using h
 have:k=9:=by omega
 subst this; exact aS (bG (cD op_fdiv (aA 2 rfl (pv 2)) aO ⟨by decide,by decide⟩) trivial rfl)
noncomputable def yI:List D→R→Prop:=fun ds r=>∃ (k:Nat) (m a c:Int),ds=[.str (nm k), .int m, .int a, .int c]∧k<6∧0<m∧r= .val (.int (vN k m a c))
theorem zU (F:Fun K "word_by_another" "word_by_another" xD f fd) (hm:mg "word_by_another"=some (.ref f)):bC P w K mg base "word_by_another" 1 4 yI:=by
 have nd:(["name","count","word","other"]:List Str).Nodup:=by decide+kernel
 refine dD (N:=["name","count","word","other"]) (ps:=["name","count","word","other"]) (k:=0) F ⟨rfl,rfl,rfl,nd,rfl,by decide+kernel,by decide+kernel⟩ hm (fun _ _ _ _ _ _ us hl=>match us,hl with | [_,_,_,_],_=>rfl) fun cdv A outer s H E hr ds r hl c=> ?_
 obtain ⟨k,m,a,c,rfl,h6,hm0,rfl⟩:=c; have h10:k<10:=by omega
 refine aF (eX (k:=decide (k=0)) (cK (aA 0 rfl (pv 0)) cZ rfl rfl rfl (nm_and k h10)) (fun h=> ?_) fun h=>cB ?_)
 ·have:k=0:=by simpa using h
  subst this; exact aS (bG (dX op_and (aA 2 rfl (pv 2)) (aA 3 rfl (pv 3))) trivial rfl)
 have n0:¬ k=0:=by simpa using h
 refine aF (eX (k:=decide (k=1)) (cK (aA 0 rfl (pv 0)) cZ rfl rfl rfl (nm_or k h10)) (fun h=> ?_) fun h=>cB ?_)
 ·have:k=1:=by simpa using h
  subst this; exact aS (bG (dX op_or (aA 2 rfl (pv 2)) (aA 3 rfl (pv 3))) trivial rfl)
 have n1:¬ k=1:=by simpa using h
 refine aF (eX (k:=decide (k=2)) (cK (aA 0 rfl (pv 0)) cZ rfl rfl rfl (nm_xor k h10)) (fun h=> ?_) fun h=>cB ?_)
 ·have:k=2:=by simpa using h
  subst this; exact aS (bG (dX op_xor (aA 2 rfl (pv 2)) (aA 3 rfl (pv 3))) trivial rfl)
 have n2:¬ k=2:=by simpa using h
 refine aF (eX (k:=decide (k=3)) (cK (aA 0 rfl (pv 0)) cZ rfl rfl rfl (yW k h10)) (fun h=> ?_) fun h=>cB ?_)
 ·have:k=3:=by simpa using h
  subst this; exact aS (bG (cD dL (dX fO (aA 2 rfl (pv 2)) (aA 3 rfl (pv 3))) (aA 1 rfl (pv 1)) hm0) trivial rfl)
 have n3:¬ k=3:=by simpa using h
 refine aF (eX (k:=decide (k=4)) (cK (aA 0 rfl (pv 0)) cZ rfl rfl rfl (wC k h10)) (fun h=> ?_) fun h=>cB ?_)
 ·have:k=4:=by simpa using h
  subst this; exact aS (bG (cD dL (dX lC (aA 2 rfl (pv 2)) (aA 3 rfl (pv 3))) (aA 1 rfl (pv 1)) hm0) trivial rfl)
 have n4:¬ k=4:=by simpa using h
 have:k=5:=by omega
 subst this; exact aS (bG (aA 3 rfl (pv 3)) trivial rfl)
structure StOk (p:Int × Int) (k:Nat) (i j n:Int) (ws:List Int):Prop where
 sz:p∈bS
 k10:k<10
 i0:0≤i∧i<p.2
 j0:0≤j∧j<p.2
 n0:0≤n∧n<((2^p.1.toNat:Nat):Int)
 len:ws.length=p.2.toNat
 wd:∀w∈ws,0≤w∧w<((2^p.1.toNat:Nat):Int)
noncomputable def nwOf (p:Int × Int) (k:Nat) (i j n:Int) (ws:List Int):Int:=tO k ((2^p.1.toNat:Nat):Int) (ws.getD i.toNat 0) (ws.getD j.toNat 0) n
noncomputable def xV:List D→R→Prop:=fun ds r=>∃p k i j n ws,StOk p k i j n ws∧ds=[bO p,iA k i j n,aQ ws]∧r= .val (.int (nwOf p k i j n ws))
theorem pw_pos (n:Nat):(0:Int)<((2^n:Nat):Int):=by have:0<2^n:=Nat.pow_pos (by decide); generalize 2^n=q at this ⊢; omega
theorem at_int {ws:List Int} {i:Int} {n:Nat} (h:ws.length=n) (h1:i<(n:Int)) (h0:0≤i):(ws.map D.int)[i.toNat]? =some (.int (ws.getD i.toNat 0)):=by
 have:i.toNat<ws.length:=by omega
 simp [cC,this]
theorem ok_newword (F:Fun K "new_word" "new_word" yK f fd) (byself:∃ad,mg "BY_ITSELF"=some (.ref ad)∧∀H:Hp,SqT K H ad [V.str "not",V.str "up",V.str "down"]) (hm:mg "new_word"=some (.ref f)) (GC:bC P w K mg base "word_count" 1 1 wH) (GI:bC P w K mg base "word_by_itself" 1 3 CItself) (GA:bC P w K mg base "word_by_another" 1 4 yI):bC P w K mg base "new_word" 2 3 xV:=by
 have nd:(["size","step","filling","name","word"]:List Str).Nodup:=by decide+kernel
 refine dD (N:=["size","step","filling","name","word"]) (ps:=["size","step","filling"]) (k:=1) F ⟨rfl,rfl,rfl,nd,rfl,by decide+kernel,by decide+kernel⟩ hm (fun _ _ _ _ _ _ us hl=>match us,hl with | [_,_,_],_=>rfl) fun cdv A outer s H E hr ds r hl c=> ?_
 obtain ⟨p,k,i,j,n,ws,O,rfl,rfl⟩:=c; obtain ⟨h1,h2,h3,h4,h5⟩:=qF p O.sz; have hm0:=pw_pos p.1.toNat; have ec:(2:Int)^p.1.toNat=((2^p.1.toNat:Nat):Int):=by push_cast; rfl
 have e2:p.2=((p.2.toNat:Nat):Int):=by omega
 obtain ⟨ad,hB,hq⟩:=byself; have ai:(ws.map D.int)[i.toNat]? =some (.int (ws.getD i.toNat 0)):=at_int O.len (by have:=O.i0.2; omega) O.i0.1; have aj:(ws.map D.int)[j.toNat]? =some (.int (ws.getD j.toNat 0)):=at_int O.len (by have:=O.j0.2; omega) O.j0.1
 by_cases k6:k<6
 ·have es:iA k i j n= .tup [.str (nm k), .int i, .int j]:=by unfold iA; rw [if_pos k6]
  rw [es]; refine aF (bV 3 nd rfl (Or.inl rfl) (cV (n:=0) (aA 1 rfl (pv 1)) aO rfl fun _ _=>rfl) ?_); refine aF (fG (cK (aA 3 rfl (pv 3)) cZ rfl rfl rfl (pM k O.k10)) (by simp; omega) (cB ?_)); refine aF (bV 4 nd rfl (Or.inl rfl) (lW (i:=i) (aA 2 rfl (pv 2)) (cV (n:=1) (aA 1 rfl (pv 1)) aO rfl fun _ _=>rfl) O.i0.1 ai fun _ _=>rfl) ?_); refine aF (fG (ptd_inM rfl hB (fun H=>hq H) (aA 3 rfl (pv 3)) rfl rfl rfl) (by rw [nm_self k O.k10]; simp; omega) (cB ?_)); refine aS (bG (bK (ds:=[.str (nm k), .int ((2^p.1.toNat:Nat):Int), .int (ws.getD i.toNat 0), .int (ws.getD j.toNat 0)]) GA hr rfl (aC (aA 3 rfl (pv 3)) (aC (PEd.cast (bK (ds:=[bO p]) GC hr rfl (aC (aA 0 rfl (pv 0)) aG) ⟨p,rfl,by omega,by omega,rfl⟩ trivial rfl) (by rw [ec])) (aC (aA 4 rfl (pv 4)) (aC (lW (i:=j) (aA 2 rfl (pv 2)) (cV (n:=2) (aA 1 rfl (pv 1)) aO rfl fun _ _=>rfl) O.j0.1 aj fun _ _=>rfl) aG)))) ⟨k,_,_,_,rfl,k6,hm0,rfl⟩ trivial rfl) trivial ?_); unfold nwOf tO; rw [if_neg (by omega),if_neg (by omega)]
 ·by_cases k6':k=6
  ·subst k6'; have es:iA 6 i j n= .tup [.str (nm 6), .int i, .int n]:=rfl; rw [es]; refine aF (bV 3 nd rfl (Or.inl rfl) (cV (n:=0) (aA 1 rfl (pv 1)) aO rfl fun _ _=>rfl) ?_); refine aF (hV (cK (aA 3 rfl (pv 3)) cZ rfl rfl rfl (pM 6 O.k10)) rfl ?_); exact aS (bG (cV (n:=2) (aA 1 rfl (pv 1)) aO rfl fun _ _=>rfl) trivial rfl)
  ·have es:iA k i j n= .tup [.str (nm k), .int i]:=by unfold iA; rw [if_neg k6,if_neg k6']
   rw [es]; refine aF (bV 3 nd rfl (Or.inl rfl) (cV (n:=0) (aA 1 rfl (pv 1)) aO rfl fun _ _=>rfl) ?_); refine aF (fG (cK (aA 3 rfl (pv 3)) cZ rfl rfl rfl (pM k O.k10)) (by simp; omega) (cB ?_)); refine aF (bV 4 nd rfl (Or.inl rfl) (lW (i:=i) (aA 2 rfl (pv 2)) (cV (n:=1) (aA 1 rfl (pv 1)) aO rfl fun _ _=>rfl) O.i0.1 ai fun _ _=>rfl) ?_); refine aF (hV (ptd_inM rfl hB (fun H=>hq H) (aA 3 rfl (pv 3)) rfl rfl rfl) (by rw [nm_self k O.k10]; simp; omega) ?_); refine aS (bG (bK (ds:=[.str (nm k), .int ((2^p.1.toNat:Nat):Int), .int (ws.getD i.toNat 0)]) GI hr rfl (aC (aA 3 rfl (pv 3)) (aC (PEd.cast (bK (ds:=[bO p]) GC hr rfl (aC (aA 0 rfl (pv 0)) aG) ⟨p,rfl,by omega,by omega,rfl⟩ trivial rfl) (by rw [ec])) (aC (aA 4 rfl (pv 4)) aG))) ⟨k,_,_,rfl,by omega,O.k10,hm0,rfl⟩ trivial rfl) trivial ?_); unfold nwOf tO; rw [if_neg k6',if_pos (by omega)]
noncomputable def wY:List D→R→Prop:=fun ds r=>∃k i j n,ds=[iA k i j n]∧r= .val (.int i)
theorem stp_one (k:Nat) (i j n:Int):∃es,iA k i j n= .tup (.str (nm k):: .int i::es):=by
 unfold iA
 split
 ·exact ⟨_,rfl⟩
 ·split
  ·exact ⟨_,rfl⟩
  ·exact ⟨_,rfl⟩
theorem zT (F:Fun K "written_box" "written_box" xR f fd) (hm:mg "written_box"=some (.ref f)):bC P w K mg base "written_box" 1 1 wY:=by
 have nd:(["step"]:List Str).Nodup:=by decide+kernel
 refine dD (N:=["step"]) (ps:=["step"]) (k:=0) F ⟨rfl,rfl,rfl,nd,rfl,by decide+kernel,by decide+kernel⟩ hm (fun _ _ _ _ _ _ us hl=>match us,hl with | [_],_=>rfl) fun cdv A outer s H E hr ds r hl c=> ?_
 obtain ⟨k,i,j,n,rfl,rfl⟩:=c; obtain ⟨es,e⟩:=stp_one k i j n; rw [e]; exact aS (bG (cV (n:=1) (aA 0 rfl (pv 0)) aO rfl fun _ _=>rfl) trivial rfl)
noncomputable def onOf (p:Int × Int) (k:Nat) (i j n:Int) (ws:List Int):List Int:=ws.set i.toNat (nwOf p k i j n ws)
noncomputable def CStepOn:List D→R→Prop:=fun ds r=>∃p k i j n ws,StOk p k i j n ws∧ds=[bO p,iA k i j n,aQ ws]∧r= .val (aQ (onOf p k i j n ws))
theorem pU (ws:List Int) {i:Nat} (h:i<ws.length):DL.cutD (ws.map D.int) none (some (i:Int))=(ws.take i).map D.int:=by
 unfold DL.cutD; have h1:HT.sIx (ws.map D.int).length 0 none=0:=rfl
 have h2:HT.sIx (ws.map D.int).length (ws.map D.int).length (some (i:Int))=i:=by rw [HT.sIx_nat,aB]; omega
 rw [h1,h2,gQ]; simp
theorem oN (ws:List Int) {i:Nat} (h:i<ws.length):DL.cutD (ws.map D.int) (some ((i:Int)+1)) none=(ws.drop (i+1)).map D.int:=by
 unfold DL.cutD; have e:((i:Int)+1)=((i+1:Nat):Int):=by push_cast; rfl
 have h1:HT.sIx (ws.map D.int).length 0 (some ((i:Int)+1))=i+1:=by rw [e,HT.sIx_nat,aB]; omega
 have h2:HT.sIx (ws.map D.int).length (ws.map D.int).length none=ws.length:=by rw [HT.sIx_none,aB]
 rw [h1,h2,iC,eW (by rw [cQ,aB]; omega)]
theorem ok_stepon (F:Fun K "step_on" "step_on" sStepOn f fd) (hm:mg "step_on"=some (.ref f)) (GB:bC P w K mg base "written_box" 1 1 wY) (GN:bC P w K mg base "new_word" 2 3 xV):bC P w K mg base "step_on" 3 3 CStepOn:=by
 have nd:(["size","step","filling","box"]:List Str).Nodup:=by decide+kernel
 refine dD (N:=["size","step","filling","box"]) (ps:=["size","step","filling"]) (k:=2) F ⟨rfl,rfl,rfl,nd,rfl,by decide+kernel,by decide+kernel⟩ hm (fun _ _ _ _ _ _ us hl=>match us,hl with | [_,_,_],_=>rfl) fun cdv A outer s H E hr ds r hl c=> ?_
 obtain ⟨p,k,i,j,n,ws,O,rfl,rfl⟩:=c; obtain ⟨h1,h2,h3,h4,h5⟩:=qF p O.sz; have hr1:=hr.mono (show 1≤2 by decide); have li:i.toNat<ws.length:=by have:=O.i0; rw [O.len]; omega
 have ei:i=((i.toNat:Nat):Int):=by have:=O.i0; omega
 have l6:ws.length≤6:=by rw [O.len]; omega
 refine aF (bV (d:= .int ((i.toNat:Nat):Int)) 3 nd rfl (Or.inl rfl) (PEd.cast (bK (ds:=[iA k i j n]) GB hr1 rfl (aC (aA 1 rfl (pv 1)) aG) ⟨k,i,j,n,rfl,rfl⟩ trivial rfl) (by rw [← ei])) ?_); refine aS (bG (PEd.cast (gJ (gJ (mW (ol:=none) (oh:=some ((i.toNat:Nat):Int)) (aA 2 rfl (pv 2)) trivial (aA 3 rfl (pv 3)) ?_) (eQ (ds:=[.int (nwOf p k i j n ws)]) (aC (bK (ds:=[bO p,iA k i j n,aQ ws]) GN hr rfl (aC (aA 0 rfl (pv 0)) (aC (aA 1 rfl (pv 1)) (aC (aA 2 rfl (pv 2)) aG))) ⟨p,k,i,j,n,ws,O,rfl,rfl⟩ trivial rfl) aG) (aE rfl)) ?_) (mW (ol:=some (((i.toNat:Nat):Int)+1)) (oh:=none) (aA 2 rfl (pv 2)) (dX fO (aA 3 rfl (pv 3)) aO) trivial ?_) ?_) ?_) trivial rfl)
 ·rw [HT.sIx_nat,aB]; omega
 ·rw [pU ws li]; simp only [aB,bH,cR,hW]; omega
 ·have e:(((i.toNat:Nat):Int)+1)=((i.toNat+1:Nat):Int):=by push_cast; rfl
  rw [e,HT.sIx_nat,aB]; omega
 ·rw [pU ws li,oN ws li]; simp only [aN,aB,bH,cQ,cR,hW]; omega
 ·rw [pU ws li,oN ws li]; unfold aQ onOf; rw [pX,if_pos li]; simp
theorem onQ_on {p:Int × Int} {q:SQ} {ws:List Int} (O:nL p q) (G:Fil p ws):StOk p q.1 q.2.1 q.2.2.1 q.2.2.2 ws:=⟨O.sz,O.k10,O.i0,O.j0,O.n0,G.len,G.wd⟩
theorem ok_nos45 (F:Fun K "numbers_of_step" "numbers_of_step" sNos f fd) (ztuple:mg "tuple"=none) (hm:mg "numbers_of_step"=some (.ref f)) (GN:bC P w K mg base "number_of" 2 2 CNum) (GS:bC P w K mg base "step_on" 3 3 CStepOn) (GF:bC P w K mg base "fillings" 2 1 CFill):bC P w K mg base "numbers_of_step" 4 2 CNos:=by
 have nd:(["size","step"]:List Str).Nodup:=by decide+kernel
 have nd2:(["filling","size","step"]:List Str).Nodup:=by decide+kernel
 refine dD (N:=["size","step"]) (ps:=["size","step"]) (k:=3) F ⟨rfl,rfl,rfl,nd,rfl,by decide+kernel,by decide+kernel⟩ hm (fun _ _ _ _ _ _ us hl=>match us,hl with | [_,_],_=>rfl) fun cdv A outer s H E hr ds r hl c=> ?_
 obtain ⟨p,q,hp,O,rfl,rfl⟩:=c; have hr2:=hr.mono (show 2≤3 by decide); have f9:(cP p).length≤64:=kU hp; obtain ⟨h1,h2,h3,h4,h5⟩:=qF p hp
 have ec:(((cP p).map aQ).filter fun _=>true).map (fun d=>D.int ((pT p (onQ p q (iU d)):Nat):Int))=cE (iB p q):=by
  rw [bU.mpr (fun _ _=>rfl)]; unfold cE iB; rw [aY,aY]; refine bI fun g _=> ?_
  show D.int ((pT p (onQ p q (iU (aQ g))):Nat):Int)=_; rw [gK]; rfl
 refine aS (bG (iK rfl ztuple (PEd.bor (PEd.val (PEd.cast (gP (ds:=(cP p).map aQ) (N:=["filling","size","step"]) (M:=["size","step"]) (cap:=[none,some 0,some 1]) (sc:=aW sNos) (Tb:=fun d=>[.val d, .val (bO p), .val (sqD q)]) (fun _=>true) (fun d=>D.int ((pT p (onQ p q (iU d)):Nat):Int)) (gE (PEd.val (bK (ds:=[bO p]) GF hr2 rfl (aC (aA 0 rfl (pv 0)) aG) ⟨p,hp,rfl,rfl⟩ trivial rfl))) (by rw [aB]; omega) rfl (by decide+kernel) rfl (by decide+kernel) rfl (fun cl C fp s H d hd=>cU 0 (bL (i:=0) nd2 rfl (Or.inl rfl))) (fun d hd=>⟨.inl rfl, .inr rfl, .inr rfl,trivial⟩) (fun cl C fp s H d hd=> .inl ⟨rfl,rfl⟩) fun cl C2 fp s H d hd _=> ?_) (by rw [ec]))))) trivial rfl); obtain ⟨g,hg,rfl⟩:=mY hd; rw [gK]; have G:=qV hp hg; have e:=(yX hp (vS O G)).1; exact bK (ds:=[bO p,aQ (onQ p q g)]) GN hr2 rfl (aC (aA 1 rfl (pv 1)) (aC (bK (ds:=[bO p,sqD q,aQ g]) GS hr rfl (aC (aA 1 rfl (pv 1)) (aC (aA 2 rfl (pv 2)) (aC (aA 0 rfl (pv 0)) aG))) ⟨p,_,_,_,_,g,onQ_on O G,rfl,rfl⟩ trivial rfl) aG)) ⟨p,_,rfl,by omega,by omega,by rw [e]⟩ trivial rfl
theorem ok_moves45 (F:Fun K "moves_of" "moves_of" yU f fd) (hm:mg "moves_of"=some (.ref f)) (GN:bC P w K mg base "numbers_of_step" 4 2 CNos):bC P w K mg base "moves_of" 5 2 CMoves:=by
 have nd:(["size","stock"]:List Str).Nodup:=by decide+kernel
 have nd2:(["step","price","size"]:List Str).Nodup:=by decide+kernel
 refine dD (N:=["size","stock"]) (ps:=["size","stock"]) (k:=4) F ⟨rfl,rfl,rfl,nd,rfl,by decide+kernel,by decide+kernel⟩ hm (fun _ _ _ _ _ _ us hl=>match us,hl with | [_,_],_=>rfl) fun cdv A outer s H E hr ds r hl c=> ?_
 obtain ⟨p,L,hp,S,dn,rfl,rfl⟩:=c; have l8:=S.le
 have ec:((L.map skD).filter fun _=>true).map (fun d=>mvD p (rT L d))=L.map (mvD p):=by
  rw [bU.mpr (fun _ _=>rfl),aY]; refine bI fun s hs=> ?_
  show mvD p (rT L (skD s))=_; rw [rO dn hs]
 refine aS (bG (PEd.cast (gP (ds:=L.map skD) (N:=["step","price","size"]) (M:=["size","stock"]) (cap:=[none,none,some 0]) (sc:=aW yU) (Tb:=fun d=>[.val (sqD (rT L d).1), .val (.int (rT L d).2), .val (bO p)]) (fun _=>true) (fun d=>mvD p (rT L d)) (gE (aA 1 rfl (pv 1))) (by rw [aB]; omega) rfl (by decide+kernel) rfl (by decide+kernel) rfl (fun cl C fp s H d hd=> ?_) (fun d hd=>⟨.inl rfl, .inl rfl, .inr rfl,trivial⟩) (fun cl C fp s H d hd=> .inl ⟨rfl,rfl⟩) fun cl C2 fp s H d hd _=> ?_) (by rw [ec])) trivial rfl)
 ·obtain ⟨z,hz,rfl⟩:=aJ.mp hd; rw [rO dn hz]; exact iO (ds:=[sqD z.1, .int z.2]) (js:=[0,1]) rfl (cS (bL (i:=0) nd2 rfl (Or.inl rfl)) (cS (bL (i:=1) nd2 rfl (Or.inl rfl)) iQ)) rfl rfl
 ·obtain ⟨z,hz,rfl⟩:=aJ.mp hd; rw [rO dn hz]; exact eQ (ds:=[.int z.2, .tup (cE (iB p z.1))]) (aC (aA 1 rfl (pv 1)) (aC (bK (ds:=[bO p,sqD z.1]) GN hr rfl (aC (aA 2 rfl (pv 2)) (aC (aA 0 rfl (pv 0)) aG)) ⟨p,z.1,hp,(S.st z hz).1,rfl,rfl⟩ trivial rfl) aG)) (aE rfl)
theorem ok_nbeh45 (F:Fun K "numbers_behind" "numbers_behind" sNbeh f fd) (ztuple:mg "tuple"=none) (hm:mg "numbers_behind"=some (.ref f)):bC P w K mg base "numbers_behind" 1 2 CNbeh:=by
 have nd:(["one","other"]:List Str).Nodup:=by decide+kernel
 have nd2:(["number","other"]:List Str).Nodup:=by decide+kernel
 refine dD (N:=["one","other"]) (ps:=["one","other"]) (k:=0) F ⟨rfl,rfl,rfl,nd,rfl,by decide+kernel,by decide+kernel⟩ hm (fun _ _ _ _ _ _ us hl=>match us,hl with | [_,_],_=>rfl) fun cdv A outer s H E hr ds r hl c=> ?_
 obtain ⟨one,other,h1,h2,rfl,rfl⟩:=c
 have ec:((cE one).filter fun _=>true).map (fun d=>match d with | .int i=>D.int ((other.getD i.toNat 0:Nat):Int) | _=> .non)=cE (hU other one):=by rw [bU.mpr (fun _ _=>rfl)]; unfold cE hU; rw [aY,aY]; rfl
 refine aS (bG (iK rfl ztuple (PEd.bor (PEd.val (PEd.cast (gP (ds:=cE one) (N:=["number","other"]) (M:=["one","other"]) (cap:=[none,some 1]) (sc:=aW sNbeh) (Tb:=fun d=>[.val d, .val (.tup (cE other))]) (fun _=>true) (fun d=>match d with | .int i=>D.int ((other.getD i.toNat 0:Nat):Int) | _=> .non) (iM (aA 0 rfl (pv 0))) (by rw [oK]; omega) rfl (by decide+kernel) rfl (by decide+kernel) rfl (fun cl C fp s H d hd=>cU 0 (bL (i:=0) nd2 rfl (Or.inl rfl))) (fun d hd=>⟨.inl rfl, .inr rfl,trivial⟩) (fun cl C fp s H d hd=> .inl ⟨rfl,rfl⟩) fun cl C2 fp s H d hd _=> ?_) (by rw [ec]))))) trivial rfl); obtain ⟨i,hi,rfl⟩:=aJ.mp hd; exact cV (n:=i) (aA 1 rfl (pv 1)) (aA 0 rfl (pv 0)) (nat_at (h2 i hi)) fun _ _=>rfl
theorem zK (F:Fun K "table_from" "table_from" sTfrom f fd) (ztuple:mg "tuple"=none) (hm:mg "table_from"=some (.ref f)):bC P w K mg base "table_from" 1 2 CTfrom:=by
 have nd:(["every","numbers"]:List Str).Nodup:=by decide+kernel
 have nd2:(["number","every"]:List Str).Nodup:=by decide+kernel
 refine dD (N:=["every","numbers"]) (ps:=["every","numbers"]) (k:=0) F ⟨rfl,rfl,rfl,nd,rfl,by decide+kernel,by decide+kernel⟩ hm (fun _ _ _ _ _ _ us hl=>match us,hl with | [_,_],_=>rfl) fun cdv A outer s H E hr ds r hl c=> ?_
 obtain ⟨B,nb,h1,h2,rfl,rfl⟩:=c
 have ec:((cE nb).filter fun _=>true).map (fun d=>match d with | .int i=>aQ (B.getD i.toNat []) | _=> .non)=(nb.map fun i=>B.getD i []).map aQ:=by rw [bU.mpr (fun _ _=>rfl)]; unfold cE; rw [aY,aY]; rfl
 refine aS (bG (iK rfl ztuple (PEd.bor (PEd.val (PEd.cast (gP (ds:=cE nb) (N:=["number","every"]) (M:=["every","numbers"]) (cap:=[none,some 0]) (sc:=aW sTfrom) (Tb:=fun d=>[.val d, .val (.lst (B.map aQ))]) (fun _=>true) (fun d=>match d with | .int i=>aQ (B.getD i.toNat []) | _=> .non) (iM (aA 1 rfl (pv 1))) (by rw [oK]; omega) rfl (by decide+kernel) rfl (by decide+kernel) rfl (fun cl C fp s H d hd=>cU 0 (bL (i:=0) nd2 rfl (Or.inl rfl))) (fun d hd=>⟨.inl rfl, .inr rfl,trivial⟩) (fun cl C fp s H d hd=> .inl ⟨rfl,rfl⟩) fun cl C2 fp s H d hd _=> ?_) (by rw [ec]))))) trivial rfl); obtain ⟨i,hi,rfl⟩:=aJ.mp hd; exact iT (n:=i) (PEd.bor (aA 1 rfl (pv 1))) (aA 0 rfl (pv 0)) (tups_at (h2 i hi)) fun _ _=>rfl
theorem ok_nrow45 (F:Fun K "numbers_of_row" "numbers_of_row" sNrow f fd) (hm:mg "numbers_of_row"=some (.ref f)) (GB:bC P w K mg base "numbers_behind" 1 2 CNbeh):bC P w K mg base "numbers_of_row" 2 3 CNrow:=by
 have nd:(["moves","row","start","numbers","place"]:List Str).Nodup:=by decide+kernel
 refine dD (N:=["moves","row","start","numbers","place"]) (ps:=["moves","row","start"]) (k:=1) F ⟨rfl,rfl,rfl,nd,rfl,by decide+kernel,by decide+kernel⟩ hm (fun _ _ _ _ _ _ us hl=>match us,hl with | [_,_,_],_=>rfl) fun cdv A outer s H E hr ds r hl c=> ?_
 obtain ⟨p,L,row,hp,S,R,rfl,rfl⟩:=c; have f9:(cP p).length≤64:=kU hp; have S':∀s∈L,nL p s.1:=fun s hs=>(S.st s hs).1
 refine aF (bV (d:= .tup (cE (st0 p))) 3 nd rfl (Or.inl rfl) (aA 2 rfl (pv 2)) ?_); refine aF (dY (ds:=cE row) (fun t sd=>sd=[.val (.lst (L.map (mvD p))), .val (.tup (cE row)), .val (.tup (cE (st0 p))), .val (.tup (cE (nrQ p L (row.take t)))), .un]) (iM (aA 1 rfl (pv 1))) ⟨_,Le.refl _,rfl⟩ (fun t d sdt hd ht=> ?_) fun sdn hn=> ?_)
 ·obtain ⟨t2,rfl⟩:=nat_get hd; subst ht; have km:row.getD t 0∈row:=getD_mem t2; have kl:=R _ km; have N0:=(sW hp S' (row:=row.take t) fun j hj=>R j (iS hj)).1; refine ⟨[.val (.lst (L.map (mvD p))), .val (.tup (cE row)), .val (.tup (cE (st0 p))), .val (.tup (cE (nrQ p L (row.take t)))), .val (.int ((row.getD t 0:Nat):Int))],cU 4 (bL (i:=4) nd rfl (Or.inl rfl)), ?_⟩
  have et:nrQ p L (row.take (t+1))=hU (iB p (L.getD (row.getD t 0) default).1) (nrQ p L (row.take t)):=by rw [uL 0 t2,nr_snoc]
  have em:∀k,k<L.length→(L.map (mvD p))[k]? =some (mvD p (L.getD k default)):=fun k hk=>by
   have e:L[k]? =some (L.getD k default):=by simp [cC,hk]
   rw [aI,e]; rfl
  have em:=em _ kl; rw [et]; generalize row.getD t 0=k at kl em; generalize nrQ p L (row.take t)=nb at N0; exact aS (bV (d:= .tup (cE (hU (iB p (L.getD k default).1) nb))) 3 nd rfl (Or.inl rfl) (bK (ds:=[.tup (cE nb), .tup (cE (iB p (L.getD k default).1))]) GB hr rfl (aC (aA 3 rfl (pv 3)) (aC (cV (n:=1) (ds:=[.int (L.getD k default).2, .tup (cE (iB p (L.getD k default).1))]) (iT (n:=k) (PEd.bor (aA 0 rfl (pv 0))) (aA 4 rfl (pv 4)) em fun _ _=>rfl) aO rfl fun _ _=>rfl) aG)) ⟨nb,_,by rw [N0.1]; omega,fun i hi=>by rw [nos_len]; exact N0.2 i hi,rfl,rfl⟩ trivial rfl) ⟨[.val (.lst (L.map (mvD p))), .val (.tup (cE row)), .val (.tup (cE (st0 p))), .val (.tup (cE (hU (iB p (L.getD k default).1) nb))), .un],⟨.inr rfl, .inr rfl, .inr rfl, .inr rfl, .inl rfl,trivial⟩,rfl⟩)
 ·subst hn; rw [oK,cY]; exact aS (bG (aA 3 rfl (pv 3)) trivial rfl)
theorem ok_isrow43 (F:Fun K "is_row" "is_row" vP f fd) (zall:mg "all"=none) (zlen:mg "len"=none) (hm:mg "is_row"=some (.ref f)) (GW:bC P w K mg base "is_whole" 1 1 CWhole):bC P w K mg base "is_row" 2 2 xI:=by
 have nd:(["stock","numbers"]:List Str).Nodup:=by decide+kernel
 refine dD (N:=["stock","numbers"]) (ps:=["stock","numbers"]) (k:=1) F ⟨rfl,rfl,rfl,nd,rfl,by decide+kernel,by decide+kernel⟩ hm (fun _ _ _ _ _ _ us hl=>match us,hl with | [_,_],_=>rfl) fun cdv A outer s H E hr ds r hl c=> ?_
 obtain ⟨L,row,hl9,rfl,rfl⟩:=c; have nd2:(["number","stock"]:List Str).Nodup:=by decide+kernel
 refine aS (bG (PEd.cast (pd_allL (bs:=row.map fun i=>decide (0≤i) && decide (i<(L.length:Int))) rfl zall (PEd.bor (PEd.val (PEd.cast (gP (ds:=row.map D.int) (N:=["number","stock"]) (M:=["stock","numbers"]) (cap:=[none,some 0]) (sc:=aW vP) (Tb:=fun d=>[.val d, .val (.lst (L.map skD))]) (fun _=>true) (fun d=>match d with | .int i=> .bl (decide (0≤i) && decide (i<(L.length:Int))) | _=> .non) (iM (aA 1 rfl (pv 1))) (by rw [aB]; omega) rfl (by decide+kernel) rfl (by decide+kernel) rfl (fun cl C fp s H d _=>cU 0 (bL (i:=0) nd2 rfl (Or.inl rfl))) (fun d _=>⟨.inl rfl, .inr rfl,trivial⟩) (fun cl C fp s H d hd=> .inl ⟨rfl,rfl⟩) fun cl C fp s H d hd _=> ?_) ?_)))) ?_) trivial rfl)
 ·obtain ⟨t,ht,rfl⟩:=aJ.mp hd; exact PEd.cast (lY (k:=true) (j:=decide (0≤t) && decide (t<(L.length:Int))) (bK (ds:=[.int t]) (r:= .val (.bl true)) GW hr rfl (aC (aA 0 rfl (pv 0)) aG) ⟨.int t,rfl,fun _=>⟨t,rfl⟩,rfl⟩ trivial rfl) fun _=>nU (pd_chainI (g:=fun i j=>decide (i≤j)) (g':=fun i j=>decide (i<j)) uB op_lt aO (aA 0 rfl (pv 0)) (PEd.ic (kG rfl zlen (PEd.bor (aA 1 rfl (pv 1)))) (by rw [aB])))) (by rw [dO])
 ·rw [bU.mpr (fun _ _=>rfl),aY,aY]; rfl
 ·unfold rG; rw [List.all_map]; rfl
theorem ok_price (F:Fun K "price_of" "price_of" sPrice f fd) (zsum:mg "sum"=none) (hm:mg "price_of"=some (.ref f)):bC P w K mg base "price_of" 1 2 CPrice:=by
 have nd:(["stock","row"]:List Str).Nodup:=by decide+kernel
 refine dD (N:=["stock","row"]) (ps:=["stock","row"]) (k:=0) F ⟨rfl,rfl,rfl,nd,rfl,by decide+kernel,by decide+kernel⟩ hm (fun _ _ _ _ _ _ us hl=>match us,hl with | [_,_],_=>rfl) fun cdv A outer s H E hr ds r hl c=> ?_
 obtain ⟨L,row,hrow,hl2,rfl,rfl⟩:=c; have nd2:(["number","stock"]:List Str).Nodup:=by decide+kernel
 have ec:((cE row).filter fun _=>true).map (fun d=>match d with | .int t=>D.int (L.getD t.toNat default).2 | _=> .non)=(tN L row).map D.int:=by
  rw [bU.mpr (fun _ _=>rfl)]; unfold cE tN; rw [aY,aY]; refine bI fun t _=> ?_
  simp
 refine aS (bG (pd_sumL (ns:=tN L row) rfl zsum (PEd.bor (PEd.val (PEd.cast (gP (ds:=cE row) (N:=["number","stock"]) (M:=["stock","row"]) (cap:=[none,some 0]) (sc:=aW sPrice) (Tb:=fun d=>[.val d, .val (.lst (L.map skD))]) (fun _=>true) (fun d=>match d with | .int t=>D.int (L.getD t.toNat default).2 | _=> .non) (iM (aA 1 rfl (pv 1))) (by rw [show (cE row).length=row.length from aB _]; omega) rfl (by decide+kernel) rfl (by decide+kernel) rfl (fun cl C fp s H d _=>cU 0 (bL (i:=0) nd2 rfl (Or.inl rfl))) (fun d _=>⟨.inl rfl, .inr rfl,trivial⟩) (fun cl C fp s H d hd=> .inl ⟨rfl,rfl⟩) fun cl C fp s H d hd _=> ?_) (by rw [ec]))))) trivial rfl); obtain ⟨t,ht,rfl⟩:=aJ.mp hd; have hn:=hrow t ht; exact cV (n:=1) (ds:=[sqD (L.getD t default).1, .int (L.getD t default).2]) (iT (n:=t) (PEd.bor (aA 1 rfl (pv 1))) (aA 0 rfl (pv 0)) (tE hn) fun _ _=>rfl) aO rfl fun _ _=>rfl
theorem ok_ispr43 (F:Fun K "is_priced_row" "is_priced_row" sIsPr f fd) (hm:mg "is_priced_row"=some (.ref f)) (GR:bC P w K mg base "is_row" 2 2 xI) (GP:bC P w K mg base "price_of" 1 2 CPrice):bC P w K mg base "is_priced_row" 3 4 CIsPr43:=by
 have nd:(["stock","bound","price","row"]:List Str).Nodup:=by decide+kernel
 refine dD (N:=["stock","bound","price","row"]) (ps:=["stock","bound","price","row"]) (k:=2) F ⟨rfl,rfl,rfl,nd,rfl,by decide+kernel,by decide+kernel⟩ hm (fun _ _ _ _ _ _ us hl=>match us,hl with | [_,_,_,_],_=>rfl) fun cdv A outer s H E hr ds r hl c=> ?_
 obtain ⟨L,b,e,el,rfl,rfl⟩:=c; have hr1:=hr.mono (show 1≤2 by decide); refine aS (bG (PEd.cast (lY (k:=rG L.length e.2.1) (j:=decide (e.1=S45.prQ (prK L) (fU e.2.1)) && decide (e.1≤b)) (bK (ds:=[.lst (L.map skD),aQ e.2.1]) GR hr rfl (aC (aA 0 rfl (pv 0)) (aC (aA 3 rfl (pv 3)) aG)) ⟨L,e.2.1,el,rfl,rfl⟩ trivial rfl) fun hk=> ?_) rfl) trivial rfl); obtain ⟨ro,_⟩:=nV hk; have ed:=rok_D hk; have nl:(fU e.2.1).length≤500:=by unfold fU; rw [aB]; omega
 exact lY (k:=decide (e.1=S45.prQ (prK L) (fU e.2.1))) (j:=decide (e.1≤b)) (zV (aA 2 rfl (pv 2)) (PEd.ic (bK (ds:=[.lst (L.map skD), .tup (cE (fU e.2.1))]) GP hr1 rfl (aC (aA 0 rfl (pv 0)) (aC (PEd.cast (aA 3 rfl (pv 3)) (by rw [ed])) aG)) ⟨L,fU e.2.1,ro,nl,rfl,rfl⟩ trivial rfl) (sum_pr L (fU e.2.1)))) fun _=>nU (pd_cI (g:=fun i j=>decide (i≤j)) uB (aA 2 rfl (pv 2)) (aA 1 rfl (pv 1)) (gS _))
theorem ok_pbn43 (F:Fun K "prices_by_numbers" "prices_by_numbers" sPbn f fd) (zlen:mg "len"=none) (zrange:mg "range"=none) (ztuple:mg "tuple"=none) (hm:mg "prices_by_numbers"=some (.ref f)) (GF:bC P w K mg base "fillings" 2 1 CFill) (GI:bC P w K mg base "is_priced_row" 3 4 CIsPr43) (GR:bC P w K mg base "numbers_of_row" 2 3 CNrow) (GT:bC P w K mg base "table_from" 1 2 CTfrom):bC P w K mg base "prices_by_numbers" 4 5 (CPbn43 P w K):=by
 have nd:(["size","stock","moves","bound","book","every","prices","price","row","table","numbers"]:List Str).Nodup:=by decide+kernel
 refine dD (N:=["size","stock","moves","bound","book","every","prices","price","row","table","numbers"]) (ps:=["size","stock","moves","bound","book"]) (k:=3) F ⟨rfl,rfl,rfl,nd,rfl,by decide+kernel,by decide+kernel⟩ hm (fun _ _ _ _ _ _ us hl=>match us,hl with | [_,_,_,_,_],_=>rfl) fun cdv A outer s H E hr ds r hl c=> ?_
 obtain ⟨p,L,b,Es,hp,S,Sh,rfl,rfl⟩:=c; have hr1:=hr.mono (show 1≤3 by decide); have hr2:=hr.mono (show 2≤3 by decide); have hu:(A.deeper (envOfC "prices_by_numbers" (aW sPbn) s.heap.objs.size f cdv)).units+5<cLine:=by have:=hr.un; omega
 have hu2:(A.deeper (envOfC "prices_by_numbers" (aW sPbn) s.heap.objs.size f cdv)).units+2<cLine:=by omega
 have f9:(cP p).length≤64:=kU hp; have l6:=Sh.len; have non:okE p L b Es=false→(.val .non:R)= .val (if okE p L b Es=true then pcD P w K p L (toB Es) else .non):=fun h=>by rw [if_neg (by rw [h]; decide)]
 refine aF (eA (ds:=(cP p).map aQ) 5 nd rfl (Or.inl rfl) (bK (ds:=[bO p]) GF hr2 rfl (aC (aA 0 rfl (pv 0)) aG) ⟨p,hp,rfl,rfl⟩ trivial rfl) fun l5=>iZ 5 rfl ?_); refine aF (oI (hkT P w) 6 nd rfl (Or.inl rfl) fun l6=> ?_); refine aF (dY (ds:=Es.map e0D) (fun t sd=>okE p L b (Es.take t)=true∧sd=[.val (bO p), .val (.lst (L.map skD)), .val (.lst (L.map (mvD p))), .val (.int b), .val (.lst (Es.map e0D)), .val (.lst ((cP p).map aQ)),oG (hkT P w) K l6 (ksB p L (toB (Es.take t))) ((toB (Es.take t)).map fun e=> .int e.1), .un, .un, .un, .un]) (gE (aA 4 rfl (pv 4))) ⟨_,Le.refl _,rfl,rfl⟩ (fun t d sdt hd ht=> ?_) fun sdn hn=> ?_)
 ·obtain ⟨ok,rfl⟩:=ht; obtain ⟨e,he,rfl,et⟩:=iE hd; have em:=aV he; have el:=Sh.rl e em; have SH:ShE (Es.take t):=⟨cA (by rw [bH]; omega) Sh.len,fun x hx=>Sh.rl x (iS hx)⟩; have tk:((toB (Es.take t)).map fun e=>D.int e.1).length≤1000:=by unfold toB; rw [aB,aB,bH]; omega
  have bad:okE p L b (Es.take (t+1))=false→okE p L b Es=false:=xH; rw [et] at bad ⊢; have sn:=nZ p L b (Es.take t) e; have ps:prE L b e=true→_:=fun h=>pb_step hp S ok SH h
  have e1:ksB p L (toB (Es.take t++[e]))=ksB p L (toB (Es.take t))++[jA (nrQ p L (fU e.2.1))]:=by rw [yM]; unfold ksB; rw [aT]; rfl
  have e2:((toB (Es.take t++[e])).map fun e=>D.int e.1)=((toB (Es.take t)).map fun e=>D.int e.1)++[.int e.1]:=by rw [yM,aT]; rfl
  generalize okE p L b (Es.take t++[e])=o2 at bad sn ps ⊢; rw [ok,dO] at sn; rw [e1,e2]; have km:∀nb,decide (nb∈(toB (Es.take t)).map fun e=>nrQ p L e.2.1)=true↔jA nb∈ksB p L (toB (Es.take t)):=fun nb=>ksB_mem
  generalize (toB (Es.take t)).map (fun e=>nrQ p L e.2.1)=nl at ps km; generalize ksB p L (toB (Es.take t))=ks at km; generalize (toB (Es.take t)).map (fun e=>D.int e.1)=vs at tk; refine ⟨[.val (bO p), .val (.lst (L.map skD)), .val (.lst (L.map (mvD p))), .val (.int b), .val (.lst (Es.map e0D)), .val (.lst ((cP p).map aQ)),oG (hkT P w) K l6 ks vs, .val (.int e.1), .val (aQ e.2.1), .val (.tup (e.2.2.map aQ)), .un],iO (ds:=[.int e.1,aQ e.2.1, .tup (e.2.2.map aQ)]) (js:=[7,8,9]) rfl (cS (bL (i:=7) nd rfl (Or.inl rfl)) (cS (bL (i:=8) nd rfl (Or.inl rfl)) (cS (bL (i:=9) nd rfl (Or.inl rfl)) iQ))) rfl rfl, ?_⟩; refine aF (eX (k:= !prE L b e) (kH (kA (bK (ds:=[.lst (L.map skD), .int b, .int e.1,aQ e.2.1]) GI hr rfl (aC (aA 1 rfl (pv 1)) (aC (aA 3 rfl (pv 3)) (aC (aA 7 rfl (pv 7)) (aC (aA 8 rfl (pv 8)) aG)))) ⟨L,b,e,el,rfl,rfl⟩ trivial rfl))) (fun h=> ?_) fun h=>cB ?_)
  ·have h':prE L b e=false:=by simpa using h
   refine aS (bG rY trivial (non (bad ?_))); rw [sn]; unfold vdE; rw [h']; rfl
  have h':prE L b e=true:=by simpa using h
  have ps:=ps h'; have hk:=(dJ.mp h').1; obtain ⟨ro,_⟩:=nV hk; have ed:=rok_D hk; obtain ⟨n1,n2⟩:=sW hp (fun s hs=>(S.st s hs).1) ro; refine aF (bV (d:= .tup (cE (nrQ p L (fU e.2.1)))) 10 nd rfl (Or.inl rfl) (bK (ds:=[.lst (L.map (mvD p)), .tup (cE (fU e.2.1)), .tup (cE (st0 p))]) GR hr2 rfl (aC (aA 2 rfl (pv 2)) (aC (PEd.cast (aA 8 rfl (pv 8)) (by rw [ed])) (aC (yN (n:=(cP p).length) rfl ztuple rfl zrange (PEd.ic (kG rfl zlen (PEd.bor (aA 5 rfl (pv 5)))) (by rw [aB])) (by omega)) aG))) ⟨p,L,fU e.2.1,hp,S,ro,rfl,rfl⟩ trivial rfl) ?_); have kd:∀ {X:Cx} {sd:List Slot} {g:Expr},PEd X sd g (.val (.tup (cE (nrQ p L (fU e.2.1)))))→PEd X sd g (.val ((hkT P w).dat (jA (nrQ p L (fU e.2.1))))):=fun h=>PEd.cast h (by rw [show (hkT P w).dat (jA (nrQ p L (fU e.2.1)))=tD (jA (nrQ p L (fU e.2.1))) from rfl,pN])
  generalize nrQ p L (fU e.2.1)=nb at n1 ps kd; refine aF (eX (k:=decide (nb∈nl) || !decide (e.2.2=kR p nb)) (PWd.pt (jF (k:=decide (nb∈nl)) (j:= !decide (e.2.2=kR p nb)) (ptd_inK (hk:=hkT P w) (kk:=decide (nb∈nl)) (k:=jA nb) (km nb) hu2 (kd (aA 10 rfl (pv 10))) (vT 6 rfl (pv 6))) fun _=>jT (PTd.cast (ptd_neD (ra:= .val (.tup (e.2.2.map aQ))) (rb:= .val (.tup ((kR p nb).map aQ))) (aA 9 rfl (pv 9)) (bK (ds:=[.lst ((cP p).map aQ), .tup (cE nb)]) GT hr1 rfl (aC (aA 5 rfl (pv 5)) (aC (aA 10 rfl (pv 10)) aG)) ⟨cP p,nb,by rw [n1.1]; omega,n1.2,rfl,rfl⟩ trivial rfl) trivial trivial (.inl ⟨rfl,rfl⟩) (kM _) (kM _) (u_of' hu (by show jO (e.2.2.map aQ)+1+1≤5; have:=lG e.2.2; omega))) (by show (!jE (e.2.2.map aQ) ((kR p nb).map aQ))=_; rw [rH])))) (fun h=> ?_) fun h=>cB ?_)
  ·refine aS (bG rY trivial (non (bad ?_))); rw [ps,h]; rfl
  ·rw [h] at ps
   have nk:jA nb∉ks:=fun z=>by rw [(km nb).mpr z] at h; cases h
   exact aS (oB (hk:=hkT P w) (k:=jA nb) (d:= .int e.1) 6 hu2 rfl (pv 6) (aA 7 rfl (pv 7)) (kd (aA 10 rfl (pv 10))) nk tk ⟨[.val (bO p), .val (.lst (L.map skD)), .val (.lst (L.map (mvD p))), .val (.int b), .val (.lst (Es.map e0D)), .val (.lst ((cP p).map aQ)),oG (hkT P w) K l6 (ks++[jA nb]) (vs++[.int e.1]), .un, .un, .un, .un],⟨.inr rfl, .inr rfl, .inr rfl, .inr rfl, .inr rfl, .inr rfl, .inr rfl, .inl rfl, .inl rfl, .inl rfl, .inl rfl,trivial⟩,ps,rfl⟩)
 ·obtain ⟨ok,rfl⟩:=hn; rw [aB,cY] at ok ⊢; rw [if_pos ok]; refine oP 6 rfl ?_; exact aS (bG (aA 6 rfl (pv 6)) trivial rfl)
theorem yF (F:Fun K "stands_there" "stands_there" sStd f fd) (hm:mg "stands_there"=some (.ref f)):bC P w K mg base "stands_there" 1 3 (CStands P w K):=by
 have nd:(["prices","numbers","most"]:List Str).Nodup:=by decide+kernel
 refine dD (N:=["prices","numbers","most"]) (ps:=["prices","numbers","most"]) (k:=0) F ⟨rfl,rfl,rfl,nd,rfl,by decide+kernel,by decide+kernel⟩ hm (fun _ _ _ _ _ _ us hl=>match us,hl with | [_,_,_],_=>rfl) fun cdv A outer s H E hr ds r hl c=> ?_
 obtain ⟨p,L,b,B,nb,m,hp,S,O,rfl,rfl⟩:=c; have hu:(A.deeper (envOfC "stands_there" (aW sStd) s.heap.objs.size f cdv)).units+2<cLine:=by have:=hr.un; omega
 by_cases q:jA nb∈ksB p L B
 ·obtain ⟨e,he,en⟩:=aJ.mp q; have en:=sE en; obtain ⟨i,hi⟩:=cH he
  have sq:oO p L B nb m=decide (e.1≤m):=by
   unfold oO
   by_cases z:e.1≤m
   ·rw [decide_eq_true z]; exact cX.mpr ⟨e,he,by rw [decide_eq_true en,decide_eq_true z]; rfl⟩
   ·rw [decide_eq_false z]; refine iI.mpr fun h=> ?_
    obtain ⟨x,x1,x2⟩:=cX.mp h; rw [aP] at x2; have:=O.inj hp S x1 he ((of_decide_eq_true x2.1).trans en.symm); subst this; exact z (of_decide_eq_true x2.2)
  rw [sq]; exact aS (bG (PEd.cast (lY (k:=true) (j:=decide (e.1≤m)) (pd_inK (kk:=true) (hk:=hkT P w) (k:=jA nb) ⟨fun _=>q,fun _=>rfl⟩ hu (PEd.cast (aA 1 rfl (pv 1)) (by rw [show (hkT P w).dat (jA nb)=tD (jA nb) from rfl,pN])) (jI (aA 0 rfl (pv 0)))) fun _=>nU (pd_cI (g:=fun i j=>decide (i≤j)) uB (lZ (hk:=hkT P w) (k:=jA nb) (n:=i) (d:= .int e.1) hu (jI (aA 0 rfl (pv 0))) (PEd.cast (aA 1 rfl (pv 1)) (by rw [show (hkT P w).dat (jA nb)=tD (jA nb) from rfl,pN])) (by unfold ksB; rw [aI,hi,← en]; rfl) (by rw [aI,hi]; rfl) fun _ _=>rfl) (aA 2 rfl (pv 2)) (gS _))) (by rw [dO])) trivial rfl)
 ·have sq:oO p L B nb m=false:=by
   unfold oO; refine iI.mpr fun h=> ?_
   obtain ⟨x,x1,x2⟩:=cX.mp h; rw [aP] at x2; exact q (aJ.mpr ⟨x,x1,by rw [of_decide_eq_true x2.1]⟩)
  rw [sq]; exact aS (bG (PEd.cast (lY (k:=false) (j:=false) (pd_inK (kk:=false) (hk:=hkT P w) (k:=jA nb) ⟨fun z=>(by cases z),fun z=>absurd z q⟩ hu (PEd.cast (aA 1 rfl (pv 1)) (by rw [show (hkT P w).dat (jA nb)=tD (jA nb) from rfl,pN])) (jI (aA 0 rfl (pv 0)))) fun h=>by cases h) rfl) trivial rfl)
theorem zO (F:Fun K "has_start" "has_start" vX f fd) (zany:mg "any"=none) (hm:mg "has_start"=some (.ref f)):bC P w K mg base "has_start" 1 2 CStart:=by
 have nd:(["bound","book"]:List Str).Nodup:=by decide+kernel
 have nd2:(["price","row","table"]:List Str).Nodup:=by decide+kernel
 refine dD (N:=["bound","book"]) (ps:=["bound","book"]) (k:=0) F ⟨rfl,rfl,rfl,nd,rfl,by decide+kernel,by decide+kernel⟩ hm (fun _ _ _ _ _ _ us hl=>match us,hl with | [_,_],_=>rfl) fun cdv A outer s H E hr ds r hl c=> ?_
 obtain ⟨p,L,b,B,O,hb,rfl,rfl⟩:=c; have hu:(A.deeper (envOfC "has_start" (aW vX) s.heap.objs.size f cdv)).units+4<cLine:=by have:=hr.un; omega
 have ec:((B.map enD).filter fun _=>true).map (fun d=>match d with | .tup [_, .tup rs,_]=>D.bl rs.isEmpty | _=> .bl false)=(B.map fun e=>decide (e.2.1=[])).map D.bl:=by
  rw [bU.mpr (fun _ _=>rfl),aY,aY]; refine bI fun e _=> ?_
  show D.bl (cE e.2.1).isEmpty=D.bl (decide (e.2.1=[])); cases e.2.1<;>rfl
 have ea:((B.map fun e=>decide (e.2.1=[])).any id)=B.any fun e=>decide (e.2.1=[]):=by rw [List.any_map]; rfl
 refine aS (bG (PEd.cast (pd_or (k:=decide (b<0)) (j:=(B.map fun (e:Bk)=>decide (e.2.1=[])).any id) (pd_cI (g:=fun i j=>decide (i<j)) op_lt (aA 0 rfl (pv 0)) aO (gS _)) fun _=>nU (pd_anyL (bs:=B.map fun (e:Bk)=>decide (e.2.1=[])) rfl zany (PEd.bor (PEd.val (PEd.cast (gP (ds:=B.map enD) (N:=["price","row","table"]) (M:=["bound","book"]) (cap:=[none,none,none]) (sc:=aW vX) (Tb:=fun d=>match d with | .tup [a,r,t]=>[.val a, .val r, .val t] | _=>[.un, .un, .un]) (fun _=>true) (fun d=>match d with | .tup [_, .tup rs,_]=>D.bl rs.isEmpty | _=> .bl false) (gE (aA 1 rfl (pv 1))) (by rw [aB]; have:=O.len; omega) rfl (by decide+kernel) rfl (by decide+kernel) rfl (fun cl C fp s H d hd=> ?_) (fun d hd=> ?_) (fun cl C fp s H d hd=> .inl ⟨rfl,rfl⟩) fun cl C2 fp s H d hd _=> ?_) (by rw [ec])))))) (by rw [decide_eq_false (by omega),iD,ea])) trivial rfl)
 ·obtain ⟨e,_,rfl⟩:=aJ.mp hd; exact iO (ds:=[.int e.1, .tup (cE e.2.1), .tup (e.2.2.map aQ)]) (js:=[0,1,2]) rfl (cS (bL (i:=0) nd2 rfl (Or.inl rfl)) (cS (bL (i:=1) nd2 rfl (Or.inl rfl)) (cS (bL (i:=2) nd2 rfl (Or.inl rfl)) iQ))) rfl rfl
 ·obtain ⟨e,_,rfl⟩:=aJ.mp hd; exact ⟨.inl rfl, .inl rfl, .inl rfl,trivial⟩
 ·obtain ⟨e,_,rfl⟩:=aJ.mp hd; refine PEd.cast (pd_eqD (ra:= .val (.tup (cE e.2.1))) (rb:= .val (.tup [])) (aA 1 rfl (pv 1)) (eQ (ds:=[]) aG (aE rfl)) trivial trivial (.inl ⟨rfl,rfl⟩) ?_ rfl ?_) ?_
  ·exact (sQ e.2.1).1
  ·exact u_of' hu (by show jO (cE e.2.1)+1+1≤4; rw [(sQ e.2.1).2]; decide)
  ·show DL.R.val (.bl (jE (cE e.2.1) []))=DL.R.val (.bl (cE e.2.1).isEmpty); cases e.2.1<;>rfl
theorem xL (F:Fun K "is_closed" "is_closed" sClo f fd) (hm:mg "is_closed"=some (.ref f)) (GB:bC P w K mg base "numbers_behind" 1 2 CNbeh) (GS:bC P w K mg base "stands_there" 1 3 (CStands P w K)):bC P w K mg base "is_closed" 2 3 (CClosed P w K):=by
 have nd:(["moves","bound","prices","numbers","more","move","price"]:List Str).Nodup:=by decide+kernel
 refine dD (N:=["moves","bound","prices","numbers","more","move","price"]) (ps:=["moves","bound","prices"]) (k:=1) F ⟨rfl,rfl,rfl,nd,rfl,by decide+kernel,by decide+kernel⟩ hm (fun _ _ _ _ _ _ us hl=>match us,hl with | [_,_,_],_=>rfl) fun cdv A outer s H E hr ds r hl c=> ?_
 obtain ⟨p,L,b,B,hp,S,O,rfl,rfl⟩:=c; have hu:(A.deeper (envOfC "is_closed" (aW sClo) s.heap.objs.size f cdv)).units+2<cLine:=by have:=hr.un; omega
 have f9:(cP p).length≤64:=kU hp; obtain ⟨good,hgood⟩:∃good:Bk→Nat→Bool,good=fun e k=> !decide (e.1+prK L k≤b) || oO p L B (hU (iB p (L.getD k default).1) (nrQ p L e.2.1)) (e.1+prK L k):=⟨_,rfl⟩
 have ecl:cloQ p L b B=B.all fun e=>(bJ L.length).all fun k=>good e k:=by rw [hgood]; rfl
 have kl:((ksB p L B).map (hkT P w).dat).length=B.length:=by unfold ksB; rw [aB,aB]
 refine aF (dY (ds:=(ksB p L B).map (hkT P w).dat) (fun t sd=>(∀i e,i<t→B[i]? =some e→∀k,k<L.length→good e k=true)∧sd=[.val (.lst (L.map (mvD p))), .val (.int b), .val (pcD P w K p L B), .un, .un, .un, .un]) (pid_keysG (aA 2 rfl (pv 2))) ⟨_,Le.refl _,fun i e hi=>by omega,rfl⟩ (fun t d sdt hd ht=> ?_) fun sdn hn=> ?_)
 ·obtain ⟨hn,rfl⟩:=ht
  have tl:t<B.length:=by have:=(aH.mp hd).1; rw [kl] at this; exact this
  obtain ⟨e,he⟩:∃e,B[t]? =some e:=⟨B[t],by simp [tl]⟩; have em:=aV he
  have ek:(ksB p L B)[t]? =some (jA (nrQ p L e.2.1)):=by unfold ksB; rw [aI,he]; rfl
  have ed:d= .tup (cE (nrQ p L e.2.1)):=by rw [aI,ek] at hd; rw [← pN]; exact (cT.inj hd).symm
  subst ed; obtain ⟨n1,n2⟩:=O.nr hp S em; refine ⟨[.val (.lst (L.map (mvD p))), .val (.int b), .val (pcD P w K p L B), .val (.tup (cE (nrQ p L e.2.1))), .un, .un, .un],cU 3 (bL (i:=3) nd rfl (Or.inl rfl)), ?_⟩; refine aS (dY (ds:=L.map (mvD p)) (fun j sd=>(∀k,k<j→good e k=true)∧sd=[.val (.lst (L.map (mvD p))), .val (.int b), .val (pcD P w K p L B), .val (.tup (cE (nrQ p L e.2.1))), .un, .un, .un]) (gE (aA 0 rfl (pv 0))) ⟨_,Le.refl _,fun k hk=>by omega,rfl⟩ (fun j d sdj hd hj=> ?_) fun sdn hn2=> ?_)
  ·obtain ⟨hn2,rfl⟩:=hj
   have jl:j<L.length:=by have:=(aH.mp hd).1; rw [aB] at this; exact this
   have ej:L[j]? =some (L.getD j default):=by simp [cC,jl]
   have ed:d=mvD p (L.getD j default):=by rw [aI,ej] at hd; exact (cT.inj hd).symm
   subst ed; have gj:good e j=(!decide (e.1+(L.getD j default).2≤b) || oO p L B (hU (iB p (L.getD j default).1) (nrQ p L e.2.1)) (e.1+(L.getD j default).2)):=by rw [hgood]; rfl
   generalize L.getD j default=sk at gj; refine ⟨[.val (.lst (L.map (mvD p))), .val (.int b), .val (pcD P w K p L B), .val (.tup (cE (nrQ p L e.2.1))), .val (.int sk.2), .val (.tup (cE (iB p sk.1))), .un],iO (ds:=[.int sk.2, .tup (cE (iB p sk.1))]) (js:=[4,5]) rfl (cS (bL (i:=4) nd rfl (Or.inl rfl)) (cS (bL (i:=5) nd rfl (Or.inl rfl)) iQ)) rfl rfl, ?_⟩; refine aF (bV (d:= .int (e.1+sk.2)) 6 nd rfl (Or.inl rfl) (dX fO (lZ (hk:=hkT P w) (k:=jA (nrQ p L e.2.1)) (n:=t) (d:= .int e.1) hu (jI (aA 2 rfl (pv 2))) (PEd.cast (aA 3 rfl (pv 3)) (by rw [show (hkT P w).dat (jA (nrQ p L e.2.1))=tD (jA (nrQ p L e.2.1)) from rfl,pN])) ek (by rw [aI,he]; rfl) fun _ _=>rfl) (aA 4 rfl (pv 4))) ?_); refine aS (eX (k:=decide (e.1+sk.2≤b) && !oO p L B (hU (iB p sk.1) (nrQ p L e.2.1)) (e.1+sk.2)) (PWd.pt (pwd_and (k:=decide (e.1+sk.2≤b)) (j:= !oO p L B (hU (iB p sk.1) (nrQ p L e.2.1)) (e.1+sk.2)) (nC (g:=fun i j=>decide (i≤j)) uB (aA 6 rfl (pv 6)) (aA 1 rfl (pv 1)) (gS _)) fun _=>xA (kH (kA (bK (ds:=[pcD P w K p L B, .tup (cE (hU (iB p sk.1) (nrQ p L e.2.1))), .int (e.1+sk.2)]) (r:= .val (.bl (oO p L B (hU (iB p sk.1) (nrQ p L e.2.1)) (e.1+sk.2)))) GS hr rfl (aC (aA 2 rfl (pv 2)) (aC (bK (ds:=[.tup (cE (nrQ p L e.2.1)), .tup (cE (iB p sk.1))]) GB hr rfl (aC (aA 3 rfl (pv 3)) (aC (aA 5 rfl (pv 5)) aG)) ⟨nrQ p L e.2.1,iB p sk.1,by rw [n1.1]; omega,fun i hi=>by rw [nos_len]; exact n1.2 i hi,rfl,rfl⟩ trivial rfl) (aC (aA 6 rfl (pv 6)) aG))) ⟨p,L,b,B,_,_,hp,S,O,rfl,rfl⟩ trivial rfl))))) (fun h=> ?_) fun h=>cB ?_)
   ·refine aS (bG mL trivial ?_)
    have:cloQ p L b B=false:=by
     rw [ecl]; refine iI.mpr fun z=> ?_
     have:=bD.mp (bD.mp z e em) j (bY.mpr jl); rw [gj] at this; rw [aP] at h; rw [h.1] at this; have h2:=h.2; simp at this h2; rw [this] at h2; cases h2
    show DL.R.val _=DL.R.val _; rw [this]
   ·refine ⟨[.val (.lst (L.map (mvD p))), .val (.int b), .val (pcD P w K p L B), .val (.tup (cE (nrQ p L e.2.1))), .un, .un, .un],⟨.inr rfl, .inr rfl, .inr rfl, .inr rfl, .inl rfl, .inl rfl, .inl rfl,trivial⟩,fun k hk=> ?_,rfl⟩
    by_cases q:k<j
    ·exact hn2 k q
    ·have:k=j:=by omega
     subst this; rw [gj]; cases z1:decide (e.1+sk.2≤b) with
     | false=>rfl
     | true=>
      rw [z1] at h; cases z2:oO p L B (hU (iB p sk.1) (nrQ p L e.2.1)) (e.1+sk.2) with
      | true=>rfl
      | false=>rw [z2] at h; cases h
  ·obtain ⟨hn2,rfl⟩:=hn2; rw [aB] at hn2; refine ⟨[.val (.lst (L.map (mvD p))), .val (.int b), .val (pcD P w K p L B), .un, .un, .un, .un],⟨.inr rfl, .inr rfl, .inr rfl, .inl rfl, .inr rfl, .inr rfl, .inr rfl,trivial⟩,fun i x hi hx k hk=> ?_,rfl⟩
   by_cases q:i<t
   ·exact hn i x q hx k hk
   ·have:i=t:=by omega
    subst this; rw [he] at hx; cases hx; exact hn2 k hk
 ·obtain ⟨hn,rfl⟩:=hn; rw [kl] at hn; refine aS (bG mL trivial ?_)
  have:cloQ p L b B=true:=by
   rw [ecl]; refine bD.mpr fun e he=>bD.mpr fun k hk=> ?_
   obtain ⟨i,hi⟩:=cH he; exact hn i e (aH.mp hi).1 hi k (bY.mp hk)
  show DL.R.val _=DL.R.val _; rw [this]
theorem zQ (F:Fun K "holds" "holds" sHolds f fd) (hm:mg "holds"=some (.ref f)) (GM:bC P w K mg base "moves_of" 5 2 CMoves) (GP:bC P w K mg base "prices_by_numbers" 4 5 (CPbn43 P w K)) (GS:bC P w K mg base "has_start" 1 2 CStart) (GC:bC P w K mg base "is_closed" 2 3 (CClosed P w K)):bC P w K mg base "holds" 6 4 sR:=by
 have nd:(["size","stock","bound","book","moves","prices"]:List Str).Nodup:=by decide+kernel
 refine dD (N:=["size","stock","bound","book","moves","prices"]) (ps:=["size","stock","bound","book"]) (k:=5) F ⟨rfl,rfl,rfl,nd,rfl,by decide+kernel,by decide+kernel⟩ hm (fun _ _ _ _ _ _ us hl=>match us,hl with | [_,_,_,_],_=>rfl) fun cdv A outer s H E hr ds r hl c=> ?_
 obtain ⟨p,L,b,Es,hp,S,dn,Sh,h0,rfl,rfl⟩:=c; have hr1:=hr.mono (show 1≤5 by decide); have hr2:=hr.mono (show 2≤5 by decide); have hr4:=hr.mono (show 4≤5 by decide); refine aF (eA (ds:=L.map (mvD p)) 4 nd rfl (Or.inl rfl) (bK (ds:=[bO p, .lst (L.map skD)]) GM hr rfl (aC (aA 0 rfl (pv 0)) (aC (aA 1 rfl (pv 1)) aG)) ⟨p,L,hp,S,dn,rfl,rfl⟩ trivial rfl) fun l4=>iZ 4 rfl ?_); refine aF (bV (d:=if okE p L b Es=true then pcD P w K p L (toB Es) else .non) 5 nd rfl (Or.inl rfl) (bK (ds:=[bO p, .lst (L.map skD), .lst (L.map (mvD p)), .int b, .lst (Es.map e0D)]) GP hr4 rfl (aC (aA 0 rfl (pv 0)) (aC (aA 1 rfl (pv 1)) (aC (aA 4 rfl (pv 4)) (aC (aA 2 rfl (pv 2)) (aC (aA 3 rfl (pv 3)) aG))))) ⟨p,L,b,Es,hp,S,Sh,rfl,rfl⟩ trivial rfl) ?_); unfold hoE; cases qo:okE p L b Es with
 | false=>rw [if_neg (by decide)]; refine aF (eX (k:=true) (PWd.pt (jF (k:=true) (j:=true) (PTd.cast (uY (d:= .non) (aA 5 rfl (pv 5)) rY) rfl) fun h=>by cases h)) (fun _=> ?_) fun h=>by cases h); exact aS (bG mL trivial rfl)
 | true=>
  rw [if_pos rfl,dO]; have O:=vM qo Sh; have ed:=toB_D qo; rw [← ed]; generalize toB Es=B at O; unfold telQ; have st:∀ {sd:List Slot} {p1 p2 p3 p4:Pos},sd[2]? =some (.val (.int b))→sd[3]? =some (.val (.lst (B.map enD)))→PEd (hX CX0 P w K mg base ["size","stock","bound","book","moves","prices"] "holds" (aW sHolds) f cdv A outer s H E).nox sd (.Call (.Name "has_start" p1) [.Name "bound" p2, .Name "book" p3] [] p4) (.val (.bl (B.any fun e=>decide (e.2.1=[])))):=fun q2 q3=>bK (ds:=[.int b, .lst (B.map enD)]) GS hr1 rfl (aC (aA 2 q2 (pv 2)) (aC (aA 3 q3 (pv 3)) aG)) ⟨p,L,b,B,O,h0,rfl,rfl⟩ trivial rfl
  cases q:B.any fun e=>decide (e.2.1=[]) with
  | false=>rw [q] at st; refine aF (eX (k:=true) (PWd.pt (jF (k:=false) (j:=true) (PTd.cast (uY (d:=pcD P w K p L B) (aA 5 rfl (pv 5)) rY) rfl) fun _=>jT (kH (k:=false) (kA (st rfl rfl))))) (fun _=> ?_) fun h=>by cases h); exact aS (bG mL trivial rfl)
  | true=>rw [q] at st; refine aF (fG (k:=false) (PWd.pt (jF (k:=false) (j:=false) (PTd.cast (uY (d:=pcD P w K p L B) (aA 5 rfl (pv 5)) rY) rfl) fun _=>jT (kH (k:=true) (kA (st rfl rfl))))) rfl (cB ?_)); exact aS (bG (bK (ds:=[.lst (L.map (mvD p)), .int b,pcD P w K p L B]) GC hr2 rfl (aC (aA 4 rfl (pv 4)) (aC (aA 2 rfl (pv 2)) (aC (aA 5 rfl (pv 5)) aG))) ⟨p,L,b,B,hp,S,O,rfl,rfl⟩ trivial rfl) trivial rfl)
theorem ok_cellat (F:Fun K "_law_cell_at" "_law_cell_at" sCellAt f fd) (zlen:mg "len"=none) (hm:mg "_law_cell_at"=some (.ref f)):bC P w K mg base "_law_cell_at" 1 2 CCell:=by
 have nd:(["_law_script","_law_k"]:List Str).Nodup:=by decide+kernel
 refine dD (N:=["_law_script","_law_k"]) (ps:=["_law_script","_law_k"]) (k:=0) F ⟨rfl,rfl,rfl,nd,rfl,by decide+kernel,by decide+kernel⟩ hm (fun _ _ _ _ _ _ us hl=>match us,hl with | [_,_],_=>rfl) fun cdv A outer s H E hr ds r hl c=> ?_
 obtain ⟨ns,k,rfl,hk,rfl⟩:=c; refine aF (eX (nC op_lt (aA 1 rfl (pv 1)) (pd_lenS rfl zlen (aA 0 rfl (pv 0))) (gS _)) (fun h=> ?_) fun h=>cB ?_)
 ·have h':k<ns.length:=by simpa using h
  exact aS (bG (pd_ixS (z:=ns.getD k 0) (aA 0 rfl (pv 0)) (aA 1 rfl (pv 1)) (by simp [h']) fun _ _=>rfl) trivial rfl)
 ·have h':¬ k<ns.length:=by simpa using h
  refine aS (bG aO trivial ?_); show R.val (.int 0)=R.val (.int (ns.getD k 0)); simp [cC,h']
theorem ok_mix45 (F:Fun K "_law_mixed" "_law_mixed" sMixed f fd) (hm:mg "_law_mixed"=some (.ref f)):bC P w K mg base "_law_mixed" 1 2 CMx:=by
 have nd:(["_law_cell","_law_k","_law_number"]:List Str).Nodup:=by decide+kernel
 refine dD (N:=["_law_cell","_law_k","_law_number"]) (ps:=["_law_cell","_law_k"]) (k:=0) F ⟨rfl,rfl,rfl,nd,rfl,by decide+kernel,by decide+kernel⟩ hm (fun _ _ _ _ _ _ us hl=>match us,hl with | [_,_],_=>rfl) fun cdv A outer s H E hr ds r hl c=> ?_
 obtain ⟨c,k,rfl,hk,rfl⟩:=c; have kb:((k:Nat):Int).natAbs<2^250:=eE (by omega:_≤1000) (by decide); refine aF (eX (oS (cD dL (aA 0 rfl (pv 0)) aO (by decide)) aO) (fun h=> ?_) fun h=>cB ?_)
 ·have h':c%2=0:=by simpa using h
  have e2:(2:Int) * 2^((8:Int) * (k:Int)).toNat=((2^(8 * k+1):Nat):Int):=by
   have:((8:Int) * (k:Int)).toNat=8 * k:=by omega
   rw [this,Nat.pow_succ]
   push_cast
   exact Int.mul_comm _ _
  have lg:(2^(8 * k+1):Nat).log2<9000:=by rw [Nat.log2_two_pow]; omega
  refine aS (bG (cD oC (aA 0 rfl (pv 0)) (PEd.ic (cD op_shl aO (cD iY aO (aA 1 rfl (pv 1)) (iN (by decide) kb)) ⟨by omega,by omega,by decide⟩) e2) ⟨pw0 _,lg⟩) trivial ?_); unfold mxS; rw [if_pos h']
 have h':¬ c%2=0:=by simpa using h
 have c1:=cM c (show (2147483647:Int)≠0 by decide); have c2:=bR c (show (0:Int)<2147483647 by decide); have big:∀z:Int,0≤z∧z<2147483647+69621 * 400+7919→z.natAbs<2^250:=fun z hz=>eE (by omega:z.natAbs≤3000000000) (by decide)
 refine aF (bV (d:= .int (mx1 c k)) 2 nd rfl (Or.inl rfl) (cD dL (cD iY (dX fO (dX fO (cD dL (aA 0 rfl (pv 0)) aO (by decide)) (cD iY aO (aA 1 rfl (pv 1)) (iN (by decide) kb))) aO) aO (iN (big _ ⟨by omega,by omega⟩) (by decide))) aO (by decide)) ?_); have r1:0≤mx1 c k∧mx1 c k<2147483647:=⟨cM _ (by decide),bR _ (by decide)⟩; refine aF (bV (d:= .int (mx2 c k)) 2 nd rfl (Or.inl rfl) (cD dL (cD iY (aA 2 rfl (pv 2)) (aA 2 rfl (pv 2)) (iN (big _ ⟨by omega,by omega⟩) (big _ ⟨by omega,by omega⟩))) aO (by decide)) ?_); have r2:0≤mx2 c k∧mx2 c k<2147483629:=⟨cM _ (by decide),bR _ (by decide)⟩; refine aS (bG (cD dL (dX fO (cD iY (aA 2 rfl (pv 2)) (aA 2 rfl (pv 2)) (iN (big _ ⟨by omega,by omega⟩) (big _ ⟨by omega,by omega⟩))) (cD iY aO (aA 1 rfl (pv 1)) (iN (by decide) kb))) aO (by decide)) trivial ?_); unfold mxS; rw [if_neg h']
noncomputable def vF:List D→R→Prop:=fun ds r=>∃p,p∈bS∧ds=[bO p]∧r= .own ((gZ (2^p.1.toNat) p.2.toNat).map aQ)
theorem zL (F:Fun K "_law_fillings" "_law_fillings" sLFill f fd) (zrange:mg "range"=none) (hm:mg "_law_fillings"=some (.ref f)):bC P w K mg base "_law_fillings" 1 1 vF:=by
 have nd:(["_law_size_here","_law_found_here","_law_box","_law_longer","_law_one"]:List Str).Nodup:=by decide+kernel
 refine dD (N:=["_law_size_here","_law_found_here","_law_box","_law_longer","_law_one"]) (ps:=["_law_size_here"]) (k:=0) F ⟨rfl,rfl,rfl,nd,rfl,by decide+kernel,by decide+kernel⟩ hm (fun _ _ _ _ _ _ us hl=>match us,hl with | [_],_=>rfl) fun cdv A outer s H E hr ds r hl c=> ?_
 obtain ⟨p,hp,rfl,rfl⟩:=c; obtain ⟨h1,h2,h3,h4,h5⟩:=qF p hp; have e2:p.2=((p.2.toNat:Nat):Int):=by omega
 have e1:p.1=((p.1.toNat:Nat):Int):=by omega
 have nd2:(["_law_word_here","_law_one"]:List Str).Nodup:=by decide+kernel
 have m64:2^p.1.toNat≤64:=by
  have:p.1.toNat≤6:=by omega
  exact cA (nY (by decide) this) (by decide)
 refine aF (eA (ds:=[aQ []]) 1 nd rfl (Or.inl rfl) (fJ (ds:=[aQ []]) (aC (eQ (ds:=[]) aG (cW _)) aG) (aE rfl)) fun l=> ?_); refine aF (dY (ds:=hR 0 p.2.toNat) (fun k sd=>∃l,sd=[.val (bO p), .own l ((gZ (2^p.1.toNat) k).map aQ), .un, .un, .un]) (iJ (n:=p.2.toNat) rfl zrange (PEd.cast (cV (n:=1) (d:= .int p.2) (aA 0 rfl (pv 0)) aO rfl fun _ _=>rfl) (by rw [← e2])) (by omega)) ⟨_,Le.refl _,l,rfl⟩ (fun k d sdk hd hk=> ?_) fun sdn hn=> ?_)
 ·obtain ⟨hk2,rfl⟩:=iF hd; obtain ⟨l2,rfl⟩:=hk
  have hsm:(gZ (2^p.1.toNat) k).length * 2^p.1.toNat≤900:=by rw [oX]; exact tY p hp k hk2
  have lens:=sD (2^p.1.toNat) k; have eL:gZ (2^p.1.toNat) (k+1)=(gZ (2^p.1.toNat) k).flatMap fun s=>(bJ (2^p.1.toNat)).map fun (w:Nat)=>s++[(w:Int)]:=rfl
  rw [eL]; generalize gZ (2^p.1.toNat) k=L at *; refine ⟨_,cU 2 (bL (i:=2) nd rfl (Or.inl rfl)),iZ 1 rfl ?_⟩; refine aF (eA 3 nd rfl (Or.inl rfl) (fJ (ds:=[]) aG (cW _)) fun l3=> ?_); refine aF (qN (ds:=L.map aQ) (fun t=>[.val (bO p), .val (.lst (L.map aQ)), .un, .own l3 (((L.take t).flatMap fun s=>(bJ (2^p.1.toNat)).map fun (w:Nat)=>s++[(w:Int)]).map aQ), .un]) (fun t=>[.val (bO p), .val (.lst (L.map aQ)), .un, .own l3 (((L.take t).flatMap fun s=>(bJ (2^p.1.toNat)).map fun (w:Nat)=>s++[(w:Int)]).map aQ), .val (aQ (L.getD t []))]) (gE (aA 1 rfl (pv 1))) ⟨.inr rfl, .inr rfl, .inl rfl, .inr rfl, .inr rfl,trivial⟩ (fun t d hd=> ?_) (fun t d hd=> ?_) ?_)
  ·obtain ⟨_,rfl⟩:=oA hd; exact cU 4 (bL (i:=4) nd rfl (Or.inr rfl))
  ·obtain ⟨ht,rfl⟩:=oA hd; have hmem:L.getD t []∈L:=DL.getD_mem ht
   have et:L.take (t+1)=L.take t++[L.getD t []]:=by rw [gO]; simp [cC,ht]
   have lk:(L.take t).length * 2^p.1.toNat+2^p.1.toNat≤900:=by
    have h1:(L.take t).length+1≤L.length:=by rw [bH]; omega
    have h2:=nX (2^p.1.toNat) h1; rw [Nat.succ_mul] at h2; omega
   have ec:((hR 0 (2^p.1.toNat)).filter fun _=>true).map (fun d=>D.tup ((L.getD t []).map D.int++[d]))=((bJ (2^p.1.toNat)).map fun (w:Nat)=>L.getD t []++[(w:Int)]).map aQ:=by
    rw [bU.mpr (fun _ _=>rfl)]; unfold hR; rw [aY,aY]; refine bI fun w _=> ?_
    simp [aQ]
   have lt:=lens _ hmem; refine aS (rF (ds2:=((bJ (2^p.1.toNat)).map fun (w:Nat)=>L.getD t []++[(w:Int)]).map aQ) 3 rfl (pv 3) (PEd.val (PEd.cast (gP (N:=["_law_word_here","_law_one"]) (M:=["_law_size_here","_law_found_here","_law_box","_law_longer","_law_one"]) (cap:=[none,some 4]) (sc:=aW sLFill) (Tb:=fun d=>[.val d, .val (aQ (L.getD t []))]) (fun _=>true) (fun d=>D.tup ((L.getD t []).map D.int++[d])) (iJ (n:=2^p.1.toNat) rfl zrange (qL (k:=p.1.toNat) (PEd.ic (cV (n:=0) (aA 0 rfl (pv 0)) aO rfl fun _ _=>rfl) e1) (by omega)) (by omega)) (by rw [gC]; omega) rfl (by decide+kernel) rfl (by decide+kernel) rfl (fun cl C fp s H d _=>cU 0 (bL (i:=0) nd2 rfl (Or.inl rfl))) (fun d _=>⟨.inl rfl, .inr rfl,trivial⟩) (fun cl C fp s H d _=> .inl ⟨rfl,rfl⟩) fun cl C fp s H d _ _=>gJ (aA 1 rfl (pv 1)) (eQ (ds:=[d]) (aC (aA 0 rfl (pv 0)) aG) (aE rfl)) ?_) (by rw [ec]))) ?_ ?_)
   ·simp only [aB,cR,hW]; omega
   ·rw [aB,mT,aB,aB,iH]; omega
   ·refine ⟨.inr rfl, .inr rfl, .inr rfl, .inr ?_, .inl rfl,trivial⟩; rw [et,List.flatMap_append,aT]; simp
  ·rw [aB,cY]; refine aS (psd_move 1 3 rfl nd rfl (Or.inl rfl) (pv 3) ?_); exact ⟨_,Le.refl _,l3,rfl⟩
 ·obtain ⟨l2,rfl⟩:=hn; refine aS (mU 1 rfl (pv 1) ?_); show R.own _=R.own _; rw [gC]
theorem vD:∀k,k<10→decide (V.str (nm k)=V.str "down")=decide (k=9):=by decide+kernel
theorem at_i45 {ws:List Int} {i:Nat} (h:i<ws.length):(ws.map D.int)[i]? =some (.int (ws.getD i 0)):=by simp [cC,h]
theorem ok_lw41 (F:Fun K "_law_word" "_law_word" sLWord f fd) (hm:mg "_law_word"=some (.ref f)):bC P w K mg base "_law_word" 1 3 CLw45:=by
 have nd:(["_law_size_here","_law_step","_law_filling","_law_most","_law_name","_law_a","_law_b"]:List Str).Nodup:=by decide+kernel
 refine dD (N:=["_law_size_here","_law_step","_law_filling","_law_most","_law_name","_law_a","_law_b"]) (ps:=["_law_size_here","_law_step","_law_filling"]) (k:=0) F ⟨rfl,rfl,rfl,nd,rfl,by decide+kernel,by decide+kernel⟩ hm (fun _ _ _ _ _ _ us hl=>match us,hl with | [_,_,_],_=>rfl) fun cdv A outer s H E hr ds r hl c=> ?_
 obtain ⟨p,⟨k,i,j,n⟩,ws,O,G,rfl,rfl⟩:=c; obtain ⟨h1,h2,h3,h4,h5⟩:=qF p O.sz; have e1:p.1=((p.1.toNat:Nat):Int):=by omega
 have m0:=pw0 p.1.toNat; have wl:=G.len; obtain ⟨_,k10,i0,j0,n0⟩:=O; simp only at i0 j0 k10; have ai:(ws.map D.int)[i.toNat]? =some (.int (ws.getD i.toNat 0)):=at_i45 (by omega); have aj:(ws.map D.int)[j.toNat]? =some (.int (ws.getD j.toNat 0)):=at_i45 (by omega); show PSd _ (zH _ [bO p,iA k i j n,aQ ws]) _ {nx:=fun _=>R.val (.int (tO k ((2^p.1.toNat:Nat):Int) (ws.getD i.toNat 0) (ws.getD j.toNat 0) n))= .val .non,rt:=fun r'=>r'= .val (.int (tO k ((2^p.1.toNat:Nat):Int) (ws.getD i.toNat 0) (ws.getD j.toNat 0) n))}; have t_put:=pM k k10; have t_not:=vB k k10; have t_up:=nm_up k k10; have t_dn:=vD k k10; refine aF (bV (d:= .int ((2^p.1.toNat:Nat):Int)) 3 nd rfl (Or.inl rfl) (qL (PEd.ic (cV (n:=0) (d:= .int p.1) (aA 0 rfl (pv 0)) aO rfl fun _ _=>rfl) e1) (by omega)) ?_)
 by_cases k6:k<6
 ·have es:iA k i j n= .tup [.str (nm k), .int i, .int j]:=by unfold iA; rw [if_pos k6]
  have en:tO k ((2^p.1.toNat:Nat):Int) (ws.getD i.toNat 0) (ws.getD j.toNat 0) n=vN k ((2^p.1.toNat:Nat):Int) (ws.getD i.toNat 0) (ws.getD j.toNat 0):=by unfold tO; rw [if_neg (by omega),if_neg (by omega)]
  rw [es,en]; refine aF (bV (d:= .str (nm k)) 4 nd rfl (Or.inl rfl) (cV (n:=0) (aA 1 rfl (pv 1)) aO rfl fun _ _=>rfl) ?_); refine aF (bV (d:= .int (ws.getD i.toNat 0)) 5 nd rfl (Or.inl rfl) (lW (i:=i) (aA 2 rfl (pv 2)) (cV (n:=1) (aA 1 rfl (pv 1)) aO rfl fun _ _=>rfl) i0.1 ai fun _ _=>rfl) ?_); refine aF (fG (cK (aA 4 rfl (pv 4)) cZ rfl rfl rfl t_put) (decide_eq_false (by omega)) (cB ?_)); refine aF (fG (cK (aA 4 rfl (pv 4)) cZ rfl rfl rfl t_not) (decide_eq_false (by omega)) (cB ?_)); refine aF (fG (cK (aA 4 rfl (pv 4)) cZ rfl rfl rfl t_up) (decide_eq_false (by omega)) (cB ?_)); refine aF (fG (cK (aA 4 rfl (pv 4)) cZ rfl rfl rfl t_dn) (decide_eq_false (by omega)) (cB ?_)); refine aF (bV (d:= .int (ws.getD j.toNat 0)) 6 nd rfl (Or.inl rfl) (lW (i:=j) (aA 2 rfl (pv 2)) (cV (n:=2) (aA 1 rfl (pv 1)) aO rfl fun _ _=>rfl) j0.1 aj fun _ _=>rfl) ?_)
  by_cases k0':k=0
  ·refine aF (hV (cK (aA 4 rfl (pv 4)) cZ rfl rfl rfl (nm_and k k10)) (decide_eq_true k0') (aS (bG (dX op_and (aA 5 rfl (pv 5)) (aA 6 rfl (pv 6))) trivial ?_))); rw [k0']; rfl
  refine aF (fG (cK (aA 4 rfl (pv 4)) cZ rfl rfl rfl (nm_and k k10)) (decide_eq_false k0') (cB ?_))
  by_cases k1':k=1
  ·refine aF (hV (cK (aA 4 rfl (pv 4)) cZ rfl rfl rfl (nm_or k k10)) (decide_eq_true k1') (aS (bG (dX op_or (aA 5 rfl (pv 5)) (aA 6 rfl (pv 6))) trivial ?_))); rw [k1']; rfl
  refine aF (fG (cK (aA 4 rfl (pv 4)) cZ rfl rfl rfl (nm_or k k10)) (decide_eq_false k1') (cB ?_))
  by_cases k2':k=2
  ·refine aF (hV (cK (aA 4 rfl (pv 4)) cZ rfl rfl rfl (nm_xor k k10)) (decide_eq_true k2') (aS (bG (dX op_xor (aA 5 rfl (pv 5)) (aA 6 rfl (pv 6))) trivial ?_))); rw [k2']; rfl
  refine aF (fG (cK (aA 4 rfl (pv 4)) cZ rfl rfl rfl (nm_xor k k10)) (decide_eq_false k2') (cB ?_))
  by_cases k3':k=3
  ·refine aF (hV (cK (aA 4 rfl (pv 4)) cZ rfl rfl rfl (yW k k10)) (decide_eq_true k3') (aS (bG (cD dL (dX fO (aA 5 rfl (pv 5)) (aA 6 rfl (pv 6))) (aA 3 rfl (pv 3)) m0) trivial ?_))); rw [k3']; rfl
  refine aF (fG (cK (aA 4 rfl (pv 4)) cZ rfl rfl rfl (yW k k10)) (decide_eq_false k3') (cB ?_))
  by_cases k4':k=4
  ·refine aF (hV (cK (aA 4 rfl (pv 4)) cZ rfl rfl rfl (wC k k10)) (decide_eq_true k4') (aS (bG (cD dL (dX lC (aA 5 rfl (pv 5)) (aA 6 rfl (pv 6))) (aA 3 rfl (pv 3)) m0) trivial ?_))); rw [k4']; rfl
  refine aF (fG (cK (aA 4 rfl (pv 4)) cZ rfl rfl rfl (wC k k10)) (decide_eq_false k4') (cB ?_)); have k5:k=5:=by omega
  refine aS (bG (aA 6 rfl (pv 6)) trivial ?_); rw [k5]; rfl
 by_cases k6':k=6
 ·have es:iA k i j n= .tup [.str (nm k), .int i, .int n]:=by unfold iA; rw [if_neg k6,if_pos k6']
  rw [es]; refine aF (bV (d:= .str (nm k)) 4 nd rfl (Or.inl rfl) (cV (n:=0) (aA 1 rfl (pv 1)) aO rfl fun _ _=>rfl) ?_); refine aF (bV (d:= .int (ws.getD i.toNat 0)) 5 nd rfl (Or.inl rfl) (lW (i:=i) (aA 2 rfl (pv 2)) (cV (n:=1) (aA 1 rfl (pv 1)) aO rfl fun _ _=>rfl) i0.1 ai fun _ _=>rfl) ?_); refine aF (hV (cK (aA 4 rfl (pv 4)) cZ rfl rfl rfl t_put) (decide_eq_true k6') (aS (bG (cV (n:=2) (aA 1 rfl (pv 1)) aO rfl fun _ _=>rfl) trivial ?_))); rw [k6']; rfl
 have es:iA k i j n= .tup [.str (nm k), .int i]:=by unfold iA; rw [if_neg k6,if_neg k6']
 rw [es]; refine aF (bV (d:= .str (nm k)) 4 nd rfl (Or.inl rfl) (cV (n:=0) (aA 1 rfl (pv 1)) aO rfl fun _ _=>rfl) ?_); refine aF (bV (d:= .int (ws.getD i.toNat 0)) 5 nd rfl (Or.inl rfl) (lW (i:=i) (aA 2 rfl (pv 2)) (cV (n:=1) (aA 1 rfl (pv 1)) aO rfl fun _ _=>rfl) i0.1 ai fun _ _=>rfl) ?_); refine aF (fG (cK (aA 4 rfl (pv 4)) cZ rfl rfl rfl t_put) (decide_eq_false (by omega)) (cB ?_))
 by_cases k7:k=7
 ·refine aF (hV (cK (aA 4 rfl (pv 4)) cZ rfl rfl rfl t_not) (decide_eq_true k7) (aS (bG (dX lC (dX lC (aA 3 rfl (pv 3)) aO) (aA 5 rfl (pv 5))) trivial ?_))); rw [k7]; rfl
 refine aF (fG (cK (aA 4 rfl (pv 4)) cZ rfl rfl rfl t_not) (decide_eq_false k7) (cB ?_))
 by_cases k8:k=8
 ·refine aF (hV (cK (aA 4 rfl (pv 4)) cZ rfl rfl rfl t_up) (decide_eq_true k8) (aS (bG (PEd.ic (cD dL (cD op_mul aO (aA 5 rfl (pv 5)) (.inl ⟨by decide,by decide⟩)) (aA 3 rfl (pv 3)) m0) (by rw [Int.mul_comm])) trivial ?_))); rw [k8]; rfl
 refine aF (fG (cK (aA 4 rfl (pv 4)) cZ rfl rfl rfl t_up) (decide_eq_false k8) (cB ?_)); have k9:k=9:=by omega
 refine aF (hV (cK (aA 4 rfl (pv 4)) cZ rfl rfl rfl t_dn) (decide_eq_true k9) (aS (bG (cD oC (aA 5 rfl (pv 5)) aO ⟨by decide,by decide⟩) trivial ?_))); rw [k9]; rfl
theorem sq_one45 (q:SQ):∃es,sqD q= .tup (.str (nm q.1):: .int q.2.1::es):=by
 show ∃es,iA _ _ _ _=_; unfold iA
 split
 ·exact ⟨_,rfl⟩
 ·split
  ·exact ⟨_,rfl⟩
  ·exact ⟨_,rfl⟩
theorem ok_aft41 (F:Fun K "_law_after" "_law_after" sAft f fd) (hm:mg "_law_after"=some (.ref f)) (GW:bC P w K mg base "_law_word" 1 3 CLw45):bC P w K mg base "_law_after" 2 3 CAft45:=by
 have nd:(["_law_size_here","_law_step","_law_filling"]:List Str).Nodup:=by decide+kernel
 refine dD (N:=["_law_size_here","_law_step","_law_filling"]) (ps:=["_law_size_here","_law_step","_law_filling"]) (k:=1) F ⟨rfl,rfl,rfl,nd,rfl,by decide+kernel,by decide+kernel⟩ hm (fun _ _ _ _ _ _ us hl=>match us,hl with | [_,_,_],_=>rfl) fun cdv A outer s H E hr ds r hl c=> ?_
 obtain ⟨p,q,ws,O,G,rfl,rfl⟩:=c; obtain ⟨h1,h2,h3,h4,h5⟩:=qF p O.sz; have wl:=G.len; have i0:=O.i0; have li:q.2.1.toNat<ws.length:=by omega
 have ei:q.2.1=((q.2.1.toNat:Nat):Int):=by omega
 obtain ⟨es0,es1⟩:=sq_one45 q; have bx:∀ {X:Cx} {sd:List Slot} {a:Expr} {n0:Nat} {p1 p2:Pos},PEd X sd a (.val (sqD q))→PEd X sd (.Subscript a (.Constant (.int 1) n0 p1) p2) (.val (.int ((q.2.1.toNat:Nat):Int))):=fun ha=>PEd.ic (cV (n:=1) (ds:= .str (nm q.1):: .int q.2.1::es0) (PEd.cast ha (by rw [es1])) aO rfl fun _ _=>rfl) ei
 refine aS (bG (PEd.cast (gJ (gJ (mW (ol:=none) (oh:=some ((q.2.1.toNat:Nat):Int)) (aA 2 rfl (pv 2)) trivial (bx (aA 1 rfl (pv 1))) ?_) (eQ (ds:=[.int (nwQ p q ws)]) (aC (bK (ds:=[bO p,sqD q,aQ ws]) GW hr rfl (aC (aA 0 rfl (pv 0)) (aC (aA 1 rfl (pv 1)) (aC (aA 2 rfl (pv 2)) aG))) ⟨p,q,ws,O,G,rfl,rfl⟩ trivial rfl) aG) (aE rfl)) ?_) (mW (ol:=some (((q.2.1.toNat:Nat):Int)+1)) (oh:=none) (aA 2 rfl (pv 2)) (dX fO (bx (aA 1 rfl (pv 1))) aO) trivial ?_) ?_) ?_) trivial rfl)
 ·rw [HT.sIx_nat,aB]; omega
 ·rw [pU ws li]; simp only [aB,bH,cR,hW]; omega
 ·have e:(((q.2.1.toNat:Nat):Int)+1)=((q.2.1.toNat+1:Nat):Int):=by push_cast; rfl
  rw [e,HT.sIx_nat,aB]; omega
 ·rw [pU ws li,oN ws li]; simp only [aN,aB,bH,cQ,cR,hW]; omega
 ·rw [pU ws li,oN ws li]; unfold aQ onQ; rw [pX,if_pos li]; simp
theorem nm_at45:∀k:Nat,k<10→([.str "and", .str "or", .str "xor", .str "add", .str "take", .str "copy", .str "put", .str "not", .str "up", .str "down"]:List D)[k]? =some (.str (nm k)):=by
 intro k hk
 match k,hk with
 | 0,_=>rfl
 | 1,_=>rfl
 | 2,_=>rfl
 | 3,_=>rfl
 | 4,_=>rfl
 | 5,_=>rfl
 | 6,_=>rfl
 | 7,_=>rfl
 | 8,_=>rfl
 | 9,_=>rfl
theorem ok_dr41 (F:Fun K "_law_drawn" "_law_drawn" zW f fd) (hm:mg "_law_drawn"=some (.ref f)) (GM:bC P w K mg base "_law_mixed" 1 2 CMx):bC P w K mg base "_law_drawn" 2 2 CDr45:=by
 have nd:(["_law_size_here","_law_cell","_law_name","_law_i"]:List Str).Nodup:=by decide+kernel
 refine dD (N:=["_law_size_here","_law_cell","_law_name","_law_i"]) (ps:=["_law_size_here","_law_cell"]) (k:=1) F ⟨rfl,rfl,rfl,nd,rfl,by decide+kernel,by decide+kernel⟩ hm (fun _ _ _ _ _ _ us hl=>match us,hl with | [_,_],_=>rfl) fun cdv A outer s H E hr ds r hl c=> ?_
 obtain ⟨p,c,hp,rfl,rfl⟩:=c; obtain ⟨h1,h2,h3,h4,h5⟩:=qF p hp; have m0:=pw0 p.1.toNat; have e1:p.1=((p.1.toNat:Nat):Int):=by omega
 have p20:(0:Int)<p.2:=by omega
 have d0:=cM (mxS c 1) (show (10:Int)≠0 by decide); have d1:=bR (mxS c 1) (show (0:Int)<10 by decide); have mx:∀ {sd:List Slot} {j0:Nat} {p1 p2 p3 p4:Pos} (k:Nat),k≤400→sd[1]? =some (.val (.int c))→PEd (hX CX0 P w K mg base ["_law_size_here","_law_cell","_law_name","_law_i"] "_law_drawn" (aW zW) f cdv A outer s H E).nox sd (.Call (.Name "_law_mixed" p1) [.Name "_law_cell" p2, .Constant (.int (k:Int)) j0 p4] [] p3) (.val (.int (mxS c k))):=fun k hk hs=>bK (ds:=[.int c, .int (k:Int)]) GM hr rfl (aC (aA 1 hs (pv 1)) (aC aO aG)) ⟨c,k,rfl,hk,rfl⟩ trivial rfl
 refine aF (bV (d:= .str (nm (mxS c 1%10).toNat)) 2 nd rfl (Or.inl rfl) (kB (i:=mxS c 1%10) (ds:=[.str "and", .str "or", .str "xor", .str "add", .str "take", .str "copy", .str "put", .str "not", .str "up", .str "down"]) (PEd.bor (PEd.val (fJ (ds:=[.str "and", .str "or", .str "xor", .str "add", .str "take", .str "copy", .str "put", .str "not", .str "up", .str "down"]) ?_ (aE rfl)))) (cD dL (mx 1 (by decide) rfl) aO (by decide)) d0 (nm_at45 _ (by omega)) fun _ _=>rfl) ?_)
 ·show PAd _ _ _ [.val (.str "and"), .val (.str "or"), .val (.str "xor"), .val (.str "add"), .val (.str "take"), .val (.str "copy"), .val (.str "put"), .val (.str "not"), .val (.str "up"), .val (.str "down")]
  repeat' (first | exact aG | refine aC cZ ?_)
 refine aF (bV (d:= .int (mxS c 2%p.2)) 3 nd rfl (Or.inl rfl) (cD dL (mx 2 (by decide) rfl) (cV (n:=1) (d:= .int p.2) (aA 0 rfl (pv 0)) aO rfl fun _ _=>rfl) p20) ?_); have k10:(mxS c 1%10).toNat<10:=by omega
 show PSd _ _ _ {nx:=fun _=>R.val (iA (mxS c 1%10).toNat (mxS c 2%p.2) (mxS c 4%p.2) (mxS c 3%((2^p.1.toNat:Nat):Int)))= .val .non,rt:=fun r'=>r'= .val (iA (mxS c 1%10).toNat (mxS c 2%p.2) (mxS c 4%p.2) (mxS c 3%((2^p.1.toNat:Nat):Int)))}; generalize (mxS c 1%10).toNat=k at *
 by_cases k6:k=6
 ·refine aF (hV (cK (aA 2 rfl (pv 2)) cZ rfl rfl rfl (pM k k10)) (decide_eq_true k6) (aS (bG (eQ (ds:=[.str (nm k), .int (mxS c 2%p.2), .int (mxS c 3%((2^p.1.toNat:Nat):Int))]) (aC (aA 2 rfl (pv 2)) (aC (aA 3 rfl (pv 3)) (aC (cD dL (mx 3 (by decide) rfl) (qL (PEd.ic (cV (n:=0) (d:= .int p.1) (aA 0 rfl (pv 0)) aO rfl fun _ _=>rfl) e1) (by omega)) m0) aG))) (aE rfl)) trivial ?_))); show R.val _=R.val _; unfold iA; rw [if_neg (by omega),if_pos k6]
 refine aF (fG (cK (aA 2 rfl (pv 2)) cZ rfl rfl rfl (pM k k10)) (decide_eq_false k6) (cB ?_))
 by_cases k7:7≤k
 ·refine aF (hV (PWd.pt (jF (cK (aA 2 rfl (pv 2)) cZ rfl rfl rfl (vB k k10)) fun _=>jF (cK (aA 2 rfl (pv 2)) cZ rfl rfl rfl (nm_up k k10)) fun _=>jT (cK (aA 2 rfl (pv 2)) cZ rfl rfl rfl (vD k k10)))) (by rcases (by omega:k=7∨k=8∨k=9) with h | h | h<;>simp [h]) (aS (bG (eQ (ds:=[.str (nm k), .int (mxS c 2%p.2)]) (aC (aA 2 rfl (pv 2)) (aC (aA 3 rfl (pv 3)) aG)) (aE rfl)) trivial ?_)))
  show R.val _=R.val _; unfold iA; rw [if_neg (by omega),if_neg k6]
 refine aF (fG (PWd.pt (jF (cK (aA 2 rfl (pv 2)) cZ rfl rfl rfl (vB k k10)) fun _=>jF (cK (aA 2 rfl (pv 2)) cZ rfl rfl rfl (nm_up k k10)) fun _=>jT (cK (aA 2 rfl (pv 2)) cZ rfl rfl rfl (vD k k10)))) (by
  have a1:¬ k=7:=by omega
  have a2:¬ k=8:=by omega
  have a3:¬ k=9:=by omega
  simp [a1,a2,a3]) (cB ?_))
 refine aS (bG (eQ (ds:=[.str (nm k), .int (mxS c 2%p.2), .int (mxS c 4%p.2)]) (aC (aA 2 rfl (pv 2)) (aC (aA 3 rfl (pv 3)) (aC (cD dL (mx 4 (by decide) rfl) (cV (n:=1) (d:= .int p.2) (aA 0 rfl (pv 0)) aO rfl fun _ _=>rfl) p20) aG))) (aE rfl)) trivial ?_); show R.val _=R.val _; unfold iA; rw [if_pos (by omega)]
theorem ok_lmv41 (F:Fun K "_law_moves" "_law_moves" sLMv f fd) (hm:mg "_law_moves"=some (.ref f)) (GF:bC P w K mg base "_law_fillings" 1 1 vF) (GA:bC P w K mg base "_law_after" 2 3 CAft45):bC P w K mg base "_law_moves" 3 2 (CLMv P w K):=by
 have nd:(["_law_size_here","_law_kit_here","_law_moves_here","_law_step","_law_price_here","_law_made","_law_filling"]:List Str).Nodup:=by decide+kernel
 refine dD (N:=["_law_size_here","_law_kit_here","_law_moves_here","_law_step","_law_price_here","_law_made","_law_filling"]) (ps:=["_law_size_here","_law_kit_here"]) (k:=2) F ⟨rfl,rfl,rfl,nd,rfl,by decide+kernel,by decide+kernel⟩ hm (fun _ _ _ _ _ _ us hl=>match us,hl with | [_,_],_=>rfl) fun cdv A outer s H E hr ds r hl c=> ?_
 obtain ⟨p,L,hp,S,rfl,rfl⟩:=c; have hr1:=hr.mono (show 1≤2 by decide); have hu:(A.deeper (envOfC "_law_moves" (aW sLMv) s.heap.objs.size f cdv)).units+2<cLine:=by have:=hr.un; omega
 have f9:(cP p).length≤64:=kU hp; have l8:=S.le; refine aF (eA (ds:=[]) 2 nd rfl (Or.inl rfl) (fJ (ds:=[]) aG (cW _)) fun l2=> ?_); refine aF (dY (ds:=L.map skD) (fun t sd=>sd=[.val (bO p), .val (.lst (L.map skD)), .own l2 ((L.take t).map (mgD P w K p)), .un, .un, .un, .un]) (gE (aA 1 rfl (pv 1))) ⟨_,Le.refl _,rfl⟩ (fun t d sdt hd ht=> ?_) fun sdn hn=> ?_)
 ·obtain ⟨sk,hsk,rfl,et⟩:=iE hd; have O:=(S.st sk (aV hsk)).1; have tk:((L.take t).map (mgD P w K p)).length≤1000:=by rw [aB,bH]; omega
  rw [et,aT]; subst ht; generalize (L.take t).map (mgD P w K p)=vs at tk; refine ⟨[.val (bO p), .val (.lst (L.map skD)), .own l2 vs, .val (sqD sk.1), .val (.int sk.2), .un, .un],iO (ds:=[sqD sk.1, .int sk.2]) (js:=[3,4]) rfl (cS (bL (i:=3) nd rfl (Or.inl rfl)) (cS (bL (i:=4) nd rfl (Or.inl rfl)) iQ)) rfl rfl, ?_⟩; refine aF (oI (hkT P w) 5 nd rfl (Or.inl rfl) fun l5=> ?_); refine aF (dY (ds:=(cP p).map aQ) (fun m sd=>sd=[.val (bO p), .val (.lst (L.map skD)), .own l2 vs, .val (sqD sk.1), .val (.int sk.2),oG (hkT P w) K l5 (((cP p).take m).map inK) (((cP p).take m).map fun ws=>aQ (onQ p sk.1 ws)), .un]) (gE (PEd.val (bK (ds:=[bO p]) GF hr1 rfl (aC (aA 0 rfl (pv 0)) aG) ⟨p,hp,rfl,rfl⟩ trivial rfl))) ⟨_,Le.refl _,rfl⟩ (fun m d sdm hd hm=> ?_) fun sdn hn=> ?_)
  ·obtain ⟨ws,hws,rfl,em⟩:=iE hd; have G:=qV hp (aV hws)
   have nk:inK ws∉((cP p).take m).map inK:=fun z=>by obtain ⟨y,y1,y2⟩:=aJ.mp z; rw [uX y2] at y1; exact nd_take (filA_nd45 hp) hws y1
   have tk2:(((cP p).take m).map fun ws=>aQ (onQ p sk.1 ws)).length≤1000:=by rw [aB,bH]; omega
   rw [em,aT,aT]; subst hm; generalize ((cP p).take m).map inK=ks at nk; generalize ((cP p).take m).map (fun ws=>aQ (onQ p sk.1 ws))=us at tk2; refine ⟨[.val (bO p), .val (.lst (L.map skD)), .own l2 vs, .val (sqD sk.1), .val (.int sk.2),oG (hkT P w) K l5 ks us, .val (aQ ws)],cU 6 (bL (i:=6) nd rfl (Or.inl rfl)), ?_⟩; exact aS (oB (hk:=hkT P w) (k:=inK ws) (d:=aQ (onQ p sk.1 ws)) 5 hu rfl (pv 5) (bK (ds:=[bO p,sqD sk.1,aQ ws]) GA hr rfl (aC (aA 0 rfl (pv 0)) (aC (aA 3 rfl (pv 3)) (aC (aA 6 rfl (pv 6)) aG))) ⟨p,sk.1,ws,O,G,rfl,rfl⟩ trivial rfl) (PEd.cast (aA 6 rfl (pv 6)) (by rw [show (hkT P w).dat (inK ws)=tD (inK ws) from rfl,tV])) nk tk2 ⟨[.val (bO p), .val (.lst (L.map skD)), .own l2 vs, .val (sqD sk.1), .val (.int sk.2),oG (hkT P w) K l5 (ks++[inK ws]) (us++[aQ (onQ p sk.1 ws)]), .un],⟨.inr rfl, .inr rfl, .inr rfl, .inr rfl, .inr rfl, .inr rfl, .inl rfl,trivial⟩,rfl⟩)
  ·subst hn; rw [aB,cY]; refine oP 5 rfl ?_; refine aS (jP (d:=mgD P w K p sk) 2 rfl (pv 2) (aA 5 rfl (pv 5)) tk ?_); exact ⟨[.val (bO p), .val (.lst (L.map skD)), .own l2 (vs++[mgD P w K p sk]), .un, .un, .un, .un],⟨.inr rfl, .inr rfl, .inr rfl, .inl rfl, .inl rfl, .inl rfl, .inl rfl,trivial⟩,rfl⟩
 ·subst hn; rw [aB,cY]; exact aS (mU 2 rfl (pv 2) rfl)
theorem ok_size41 (F:Fun K "_law_size" "_law_size" sSize f fd) (hm:mg "_law_size"=some (.ref f)) (GM:bC P w K mg base "_law_mixed" 1 2 CMx):bC P w K mg base "_law_size" 2 1 CSz41:=by
 have nd:(["_law_cell"]:List Str).Nodup:=by decide+kernel
 refine dD (N:=["_law_cell"]) (ps:=["_law_cell"]) (k:=1) F ⟨rfl,rfl,rfl,nd,rfl,by decide+kernel,by decide+kernel⟩ hm (fun _ _ _ _ _ _ us hl=>match us,hl with | [_],_=>rfl) fun cdv A outer s H E hr ds r hl c=> ?_
 obtain ⟨c,rfl,rfl⟩:=c; have e0:uQ c=if mxS c 31%8=1 then sz6L.getD (mxS c 32%6).toNat (1,1) else sz8L.getD (mxS c 30%8).toNat (1,1):=rfl
 have mx:∀ {sd:List Slot} {p1 p2 p3 p4:Pos} {j1:Nat} (k:Nat),k≤400→sd[0]? =some (.val (.int c))→PEd (hX CX0 P w K mg base ["_law_cell"] "_law_size" (aW sSize) f cdv A outer s H E).nox sd (.Call (.Name "_law_mixed" p1) [.Name "_law_cell" p2, .Constant (.int (k:Int)) j1 p3] [] p4) (.val (.int (mxS c k))):=fun k hk hs=>bK (ds:=[.int c, .int (k:Int)]) GM hr rfl (aC (aA 0 hs (pv 0)) (aC aO aG)) ⟨c,k,rfl,hk,rfl⟩ trivial rfl
 refine aF (eX (k:=decide (mxS c 31%8=1)) (oS (cD dL (mx 31 (by decide) rfl) aO (by decide)) aO) (fun h=> ?_) fun h=>cB ?_)
 ·have h':=of_decide_eq_true h; rw [if_pos h'] at e0; rw [e0]; obtain ⟨h1,h0⟩:=fR (mxS c 32) (n:=6) (by decide)
  have g:(sz6L.map bO)[(mxS c 32%6).toNat]? =some (bO (sz6L.getD (mxS c 32%6).toNat (1,1))):=by have hl:(mxS c 32%6).toNat<sz6L.length:=h1; rw [aI]; simp [cC,hl]
  refine aS (bG (kB (i:=mxS c 32%6) (ds:=sz6L.map bO) (PEd.bor (PEd.val (fJ (ds:=sz6L.map bO) ?_ (aE rfl)))) (cD dL (mx 32 (by decide) rfl) aO (by decide)) h0 g fun _ _=>rfl) trivial rfl); show PAd _ _ _ ([.tup [.int 2, .int 3], .tup [.int 3, .int 2], .tup [.int 1, .int 5], .tup [.int 5, .int 1], .tup [.int 1, .int 6], .tup [.int 6, .int 1]].map R.val)
  repeat' (first | exact aG | refine aC (eQ (ds:=[.int _, .int _]) (aC aO (aC aO aG)) (aE rfl)) ?_)
 ·have h':=of_decide_eq_false h; rw [if_neg h'] at e0; rw [e0]; obtain ⟨h1,h0⟩:=fR (mxS c 30) (n:=8) (by decide)
  have g:(sz8L.map bO)[(mxS c 30%8).toNat]? =some (bO (sz8L.getD (mxS c 30%8).toNat (1,1))):=by have hl:(mxS c 30%8).toNat<sz8L.length:=h1; rw [aI]; simp [cC,hl]
  refine aS (bG (kB (i:=mxS c 30%8) (ds:=sz8L.map bO) (PEd.bor (PEd.val (fJ (ds:=sz8L.map bO) ?_ (aE rfl)))) (cD dL (mx 30 (by decide) rfl) aO (by decide)) h0 g fun _ _=>rfl) trivial rfl); show PAd _ _ _ ([.tup [.int 1, .int 1], .tup [.int 1, .int 2], .tup [.int 2, .int 1], .tup [.int 2, .int 2], .tup [.int 1, .int 3], .tup [.int 3, .int 1], .tup [.int 1, .int 4], .tup [.int 4, .int 1]].map R.val)
  repeat' (first | exact aG | refine aC (eQ (ds:=[.int _, .int _]) (aC aO (aC aO aG)) (aE rfl)) ?_)
noncomputable def qA:D→D
 | .tup [a,_]=>a
 | d=>d
noncomputable def two45:D→List Slot
 | .tup [a,b]=>[.val a, .val b]
 | _=>[.un, .un]
theorem ok_kit41 (F:Fun K "_law_kit" "_law_kit" zP f fd) (zrange:mg "range"=none) (zint:mg "int"=none) (hm:mg "_law_kit"=some (.ref f)) (GC:bC P w K mg base "_law_cell_at" 1 2 CCell) (GM:bC P w K mg base "_law_mixed" 1 2 CMx) (GD:bC P w K mg base "_law_drawn" 2 2 CDr45):bC P w K mg base "_law_kit" 3 3 CKit41:=by
 have nd:(["_law_script","_law_start","_law_size_here","_law_head","_law_factor","_law_many","_law_kit_here","_law_k","_law_cell","_law_step"]:List Str).Nodup:=by decide+kernel
 have nd3:(["_law_one","_law_price_here"]:List Str).Nodup:=by decide+kernel
 refine dD (N:=["_law_script","_law_start","_law_size_here","_law_head","_law_factor","_law_many","_law_kit_here","_law_k","_law_cell","_law_step"]) (ps:=["_law_script","_law_start","_law_size_here"]) (k:=2) F ⟨rfl,rfl,rfl,nd,rfl,by decide+kernel,by decide+kernel⟩ hm (fun _ _ _ _ _ _ us hl=>match us,hl with | [_,_,_],_=>rfl) fun cdv A outer s H E hr ds r hl c=> ?_
 obtain ⟨p,ns,st,hp,hst,rfl,rfl⟩:=c; have hr1:=hr.mono (show 1≤2 by decide); have hu:(A.deeper (envOfC "_law_kit" (aW zP) s.heap.objs.size f cdv)).units+4<cLine:=by have:=hr.un; omega
 have mx:∀ {sd:List Slot} {x:Str} {p1 p2 p3 p4:Pos} {j1:Nat} (i:Nat) (c:Int) (k:Nat),k≤400→sd[i]? =some (.val (.int c))→PE (hX CX0 P w K mg base ["_law_script","_law_start","_law_size_here","_law_head","_law_factor","_law_many","_law_kit_here","_law_k","_law_cell","_law_step"] "_law_kit" (aW zP) f cdv A outer s H E).nox (.Name x p2) (mQ i)→PEd (hX CX0 P w K mg base ["_law_script","_law_start","_law_size_here","_law_head","_law_factor","_law_many","_law_kit_here","_law_k","_law_cell","_law_step"] "_law_kit" (aW zP) f cdv A outer s H E).nox sd (.Call (.Name "_law_mixed" p1) [.Name x p2, .Constant (.int (k:Int)) j1 p3] [] p4) (.val (.int (mxS c k))):=fun i c k hk hs hx=>bK (ds:=[.int c, .int (k:Int)]) GM hr1 rfl (aC (aA i hs hx) (aC aO aG)) ⟨c,k,rfl,hk,rfl⟩ trivial rfl
 refine aF (bV (d:= .int (ns.getD st 0)) 3 nd rfl (Or.inl rfl) (bK (ds:=[.scr ns, .int (st:Int)]) GC hr1 rfl (aC (aA 0 rfl (pv 0)) (aC (aA 1 rfl (pv 1)) aG)) ⟨ns,st,rfl,by omega,rfl⟩ trivial rfl) ?_); have eK:rJ p ns st=fW p ns st (lK (ns.getD st 0)) (mE (ns.getD st 0)):=rfl; rw [eK]; generalize ns.getD st 0=c; have hf:=sP c; obtain ⟨m1,m2⟩:=uM c; have eF:(([1,1,3]:List Int).map D.int)[(mxS c 10%3).toNat]? =some (.int (lK c)):=vY (show (mxS c 10%3).toNat<([1,1,3]:List Int).length from (fR (mxS c 10) (n:=3) (by decide)).1); refine aF (bV (d:= .int (lK c)) 4 nd rfl (Or.inl rfl) (kB (i:=mxS c 10%3) (ds:=([1,1,3]:List Int).map D.int) (PEd.bor (PEd.val (fJ (ds:=[.int 1, .int 1, .int 3]) (aC aO (aC aO (aC aO aG))) (aE rfl)))) (cD dL (mx 3 c 10 (by decide) rfl (pv 3)) aO (by decide)) (fR (mxS c 10) (n:=3) (by decide)).2 eF fun _ _=>rfl) ?_); refine aF (bV (d:= .int ((mE c:Nat):Int)) 5 nd rfl (Or.inl rfl) (PEd.ic (dX fO (dX fO aO (cD dL (mx 3 c 11 (by decide) rfl (pv 3)) aO (by decide))) (pd_intB rfl zint (zV (cD dL (mx 3 c 12 (by decide) rfl (pv 3)) aO (by decide)) aO))) ?_) ?_)
 ·have h0:=(fR (mxS c 11) (n:=4) (by decide)).2; have h0:0≤mxS c 11%4:=h0; unfold mE
  by_cases h:mxS c 12%8=1
  ·rw [if_pos h,if_pos (decide_eq_true h)]; omega
  ·rw [if_neg h,if_neg (by simpa using h)]; omega
 generalize lK c=fc at hf; generalize mE c=mn at m1 m2; refine aF (eA (ds:=([]:List SK).map skD) 6 nd rfl (Or.inl rfl) (fJ (ds:=[]) aG (cW _)) fun l3=> ?_); refine aF (dY (ds:=hR 0 mn) (fun t sd=>sd=[.val (.scr ns), .val (.int (st:Int)), .val (bO p), .un, .val (.int fc), .un, .own l3 ((fW p ns st fc t).map skD), .un, .un, .un]) (iJ (n:=mn) rfl zrange (aA 5 rfl (pv 5)) (by omega)) ⟨[.val (.scr ns), .val (.int (st:Int)), .val (bO p), .un, .val (.int fc), .un, .own l3 ((fW p ns st fc 0).map skD), .un, .un, .un],⟨.inr rfl, .inr rfl, .inr rfl, .inl rfl, .inr rfl, .inl rfl, .inr rfl, .inr rfl, .inr rfl, .inr rfl,trivial⟩,rfl⟩ (fun t d sdt hd ht=> ?_) fun sdn hn=> ?_)
 ·subst ht; obtain ⟨ht,rfl⟩:=iF hd; rw [qI]; refine ⟨[.val (.scr ns), .val (.int (st:Int)), .val (bO p), .un, .val (.int fc), .un, .own l3 ((fW p ns st fc t).map skD), .val (.int (t:Int)), .un, .un],cU 7 (bL (i:=7) nd rfl (Or.inl rfl)), ?_⟩; have ll:(fW p ns st fc t).length≤5:=cA (pK hp ns st hf t).1 (by omega); have eN:fW p ns st fc (t+1)=if sX (fW p ns st fc t) (drQ p (ns.getD (st+1+t) 0)) then fW p ns st fc t else fW p ns st fc t++[(drQ p (ns.getD (st+1+t) 0),fc * wK (ns.getD (st+1+t) 0))]:=rfl
  rw [eN]; refine aF (bV (d:= .int (ns.getD (st+1+t) 0)) 8 nd rfl (Or.inl rfl) (bK (ds:=[.scr ns, .int ((st+1+t:Nat):Int)]) GC hr1 rfl (aC (aA 0 rfl (pv 0)) (aC (PEd.ic (dX fO (dX fO (aA 1 rfl (pv 1)) aO) (aA 7 rfl (pv 7))) (by omega)) aG)) ⟨ns,st+1+t,rfl,by omega,rfl⟩ trivial rfl) ?_); generalize ns.getD (st+1+t) 0=x; generalize fW p ns st fc t=L at *; refine aF (bV (d:=sqD (drQ p x)) 9 nd rfl (Or.inl rfl) (bK (ds:=[bO p, .int x]) GD hr rfl (aC (aA 2 rfl (pv 2)) (aC (aA 8 rfl (pv 8)) aG)) ⟨p,x,hp,rfl,rfl⟩ trivial rfl) ?_); generalize drQ p x=q
  have plc:plL ((L.map skD).map qA)=true∧jO ((L.map skD).map qA)≤1:=by rw [aY]; exact ⟨plL_map (fun s:SK=>qA (skD s)) (fun s=>pl_sq s.1) _,wP (fun s:SK=>qA (skD s)) 1 (fun s=>Nat.le_of_eq (dep_sq s.1)) _⟩
  have ef:((L.map skD).filter fun _=>true).map qA=(L.map skD).map qA:=by rw [bU.mpr (fun _ _=>rfl)]
  have es:((L.map skD).map qA).any (fun z=>deq z (sqD q))=sX L q:=by unfold sX; rw [aY]; rfl
  have pb:=pr41_ok x; have eP:(([1,1,2,3]:List Int).map D.int)[(mxS x 5%4).toNat]? =some (.int (wK x)):=vY (show (mxS x 5%4).toNat<([1,1,2,3]:List Int).length from (fR (mxS x 5) (n:=4) (by decide)).1); refine aS (eX (k:= !sX L q) (PTd.lend 6 rfl (oth_b rfl) (PTd.cast (wZ (aA 9 rfl (pv 9)) (PEd.val (PEd.cast (gP (ds:=L.map skD) (N:=["_law_one","_law_price_here"]) (M:=["_law_script","_law_start","_law_size_here","_law_head","_law_factor","_law_many","_law_kit_here","_law_k","_law_cell","_law_step"]) (cap:=[none,none]) (sc:=aW zP) (Tb:=two45) (fun _=>true) qA (gE (aA 6 rfl (pv 6))) (by rw [aB]; omega) rfl (by decide+kernel) rfl (by decide+kernel) rfl (fun cl C fp s H d hd=> ?_) (fun d hd=> ?_) (fun cl C fp s H d hd=> .inl ⟨rfl,rfl⟩) fun cl C fp s H d hd _=> ?_) (by rw [ef]))) (pl_sq q) plc.1 (by have:=plc.2; show (A.deeper (envOfC "_law_kit" (aW zP) s.heap.objs.size f cdv)).units+1+_<cLine; omega)) (by rw [es]))) (fun h=> ?_) fun h=> ?_)
  ·obtain ⟨s,_,rfl⟩:=aJ.mp hd; exact iO (js:=[0,1]) rfl (cS (bL (i:=0) nd3 rfl (Or.inl rfl)) (cS (bL (i:=1) nd3 rfl (Or.inl rfl)) iQ)) rfl rfl
  ·obtain ⟨s,_,rfl⟩:=aJ.mp hd; exact ⟨.inl rfl, .inl rfl,trivial⟩
  ·obtain ⟨s,_,rfl⟩:=aJ.mp hd; exact (aA 0 rfl (pv 0))
  ·have h':sX L q=false:=by simpa using h
   rw [h']; refine aS (jP (d:=skD (q,fc * wK x)) 6 rfl (pv 6) (eQ (ds:=[sqD q, .int (fc * wK x)]) (aC (aA 9 rfl (pv 9)) (aC (cD iY (aA 4 rfl (pv 4)) (kB (i:=mxS x 5%4) (ds:=([1,1,2,3]:List Int).map D.int) (PEd.bor (PEd.val (fJ (ds:=[.int 1, .int 1, .int 2, .int 3]) (aC aO (aC aO (aC aO (aC aO aG)))) (aE rfl)))) (cD dL (mx 8 x 5 (by decide) rfl (pv 8)) aO (by decide)) (fR (mxS x 5) (n:=4) (by decide)).2 eP fun _ _=>rfl) (iN (eE (by omega:_≤3) (by decide)) (eE (by omega:_≤3) (by decide)))) aG)) (aE rfl)) (by rw [aB]; omega) ⟨[.val (.scr ns), .val (.int (st:Int)), .val (bO p), .un, .val (.int fc), .un, .own l3 ((L++[(q,fc * wK x)]).map skD), .un, .un, .un],⟨.inr rfl, .inr rfl, .inr rfl, .inr rfl, .inr rfl, .inr rfl, .inr ?_, .inl rfl, .inl rfl, .inl rfl,trivial⟩,rfl⟩); rw [aT]; rfl
  ·have h':sX L q=true:=by simpa using h
   rw [h']; exact cB ⟨[.val (.scr ns), .val (.int (st:Int)), .val (bO p), .un, .val (.int fc), .un, .own l3 (L.map skD), .un, .un, .un],⟨.inr rfl, .inr rfl, .inr rfl, .inr rfl, .inr rfl, .inr rfl, .inr rfl, .inl rfl, .inl rfl, .inl rfl,trivial⟩,rfl⟩
 ·subst hn; rw [gC]; refine iZ 6 rfl ?_; exact aS (bG (eQ (ds:=[.lst ((fW p ns st fc mn).map skD), .int fc]) (aC (aA 6 rfl (pv 6)) (aC (aA 4 rfl (pv 4)) aG)) (aE rfl)) trivial rfl)
theorem ok_bnd43 (F:Fun K "_law_bound" "_law_bound" sBnd f fd) (zlen:mg "len"=none) (hm:mg "_law_bound"=some (.ref f)):bC P w K mg base "_law_bound" 1 3 CBnd43:=by
 have nd:(["_law_cell","_law_kit_here","_law_factor"]:List Str).Nodup:=by decide+kernel
 refine dD (N:=["_law_cell","_law_kit_here","_law_factor"]) (ps:=["_law_cell","_law_kit_here","_law_factor"]) (k:=0) F ⟨rfl,rfl,rfl,nd,rfl,by decide+kernel,by decide+kernel⟩ hm (fun _ _ _ _ _ _ us hl=>match us,hl with | [_,_,_],_=>rfl) fun cdv A outer s H E hr ds r hl c=> ?_
 obtain ⟨c,L,fc,l1,l2,hf,rfl,rfl⟩:=c; have g0:∀n:Nat,n<5→([9,4,3,2,2]:List Int).getD n 0=((([9,4,3,2,2]:List Nat).getD n 0:Nat):Int):=by decide+kernel
 have g:∀n:Nat,n<5→(([9,4,3,2,2]:List Int).map D.int)[n]? =some (.int ((([9,4,3,2,2]:List Nat).getD n 0:Nat):Int)):=fun n hn=>by rw [← g0 n hn]; exact vY hn
 have g2:∀n:Nat,n<5→([9,4,3,2,2]:List Nat).getD n 0≤9:=by decide+kernel
 have gm:kN L.length≤9:=g2 _ (by omega); have h0:=cM c (show (kN L.length:Int)+1≠0 by omega); have h1:=bR c (show (0:Int)<(kN L.length:Int)+1 by omega); refine aS (bG (PEd.ic (dX fO (cD iY (aA 2 rfl (pv 2)) (cD dL (aA 0 rfl (pv 0)) (dX fO (kB (i:=(L.length:Int) - 1) (d:= .int ((kN L.length:Nat):Int)) (ds:=([9,4,3,2,2]:List Int).map D.int) (PEd.bor (PEd.val (fJ (ds:=[.int 9, .int 4, .int 3, .int 2, .int 2]) (aC aO (aC aO (aC aO (aC aO (aC aO aG))))) (aE rfl)))) (dX lC (PEd.ic (kG rfl zlen (PEd.bor (aA 1 rfl (pv 1)))) (by rw [aB])) aO) (by omega) ?_ fun _ _=>rfl) aO) (by omega)) (iN (eE (by omega:_≤3) (by decide)) (eE (by omega:_≤10) (by decide)))) (cD dL (cD oC (aA 0 rfl (pv 0)) aO ⟨by decide,by decide⟩) (aA 2 rfl (pv 2)) (by omega))) rfl) trivial rfl); have e:((L.length:Int) - 1).toNat=L.length - 1:=by omega
 rw [e]; exact g _ (by omega)
theorem ok_lpr41 (F:Fun K "_law_price" "_law_price" sLPr f fd) (zsum:mg "sum"=none) (hm:mg "_law_price"=some (.ref f)):bC P w K mg base "_law_price" 1 2 CPr41:=by
 have nd:(["_law_kit_here","_law_row"]:List Str).Nodup:=by decide+kernel
 refine dD (N:=["_law_kit_here","_law_row"]) (ps:=["_law_kit_here","_law_row"]) (k:=0) F ⟨rfl,rfl,rfl,nd,rfl,by decide+kernel,by decide+kernel⟩ hm (fun _ _ _ _ _ _ us hl=>match us,hl with | [_,_],_=>rfl) fun cdv A outer s H E hr ds r hl c=> ?_
 obtain ⟨L,row,hrow,hl2,rfl,rfl⟩:=c; have nd2:(["_law_number","_law_kit_here"]:List Str).Nodup:=by decide+kernel
 have ec:((cE row).filter fun _=>true).map (fun d=>match d with | .int t=>D.int (L.getD t.toNat default).2 | _=> .non)=(tN L row).map D.int:=by
  rw [bU.mpr (fun _ _=>rfl)]; unfold cE tN; rw [aY,aY]; refine bI fun t _=> ?_
  simp
 refine aS (bG (PEd.ic (pd_sumL (ns:=tN L row) rfl zsum (PEd.bor (PEd.val (PEd.cast (gP (ds:=cE row) (N:=["_law_number","_law_kit_here"]) (M:=["_law_kit_here","_law_row"]) (cap:=[none,some 0]) (sc:=aW sLPr) (Tb:=fun d=>[.val d, .val (.lst (L.map skD))]) (fun _=>true) (fun d=>match d with | .int t=>D.int (L.getD t.toNat default).2 | _=> .non) (iM (aA 1 rfl (pv 1))) (by rw [show (cE row).length=row.length from aB _]; omega) rfl (by decide+kernel) rfl (by decide+kernel) rfl (fun cl C fp s H d _=>cU 0 (bL (i:=0) nd2 rfl (Or.inl rfl))) (fun d _=>⟨.inl rfl, .inr rfl,trivial⟩) (fun cl C fp s H d hd=> .inl ⟨rfl,rfl⟩) fun cl C fp s H d hd _=> ?_) (by rw [ec]))))) (sum_pr L row)) trivial rfl); obtain ⟨t,ht,rfl⟩:=aJ.mp hd; have hn:=hrow t ht; exact cV (n:=1) (ds:=[sqD (L.getD t default).1, .int (L.getD t default).2]) (iT (n:=t) (PEd.bor (aA 1 rfl (pv 1))) (aA 0 rfl (pv 0)) (tE hn) fun _ _=>rfl) aO rfl fun _ _=>rfl
theorem ok_tab41 (F:Fun K "_law_table" "_law_table" sTab f fd) (ztuple:mg "tuple"=none) (hm:mg "_law_table"=some (.ref f)) (GF:bC P w K mg base "_law_fillings" 1 1 vF):bC P w K mg base "_law_table" 2 3 (CTab41 P w K):=by
 have nd:(["_law_size_here","_law_moves_here","_law_row","_law_table_here","_law_number"]:List Str).Nodup:=by decide+kernel
 have nd2:(["_law_filling","_law_moves_here","_law_number"]:List Str).Nodup:=by decide+kernel
 refine dD (N:=["_law_size_here","_law_moves_here","_law_row","_law_table_here","_law_number"]) (ps:=["_law_size_here","_law_moves_here","_law_row"]) (k:=1) F ⟨rfl,rfl,rfl,nd,rfl,by decide+kernel,by decide+kernel⟩ hm (fun _ _ _ _ _ _ us hl=>match us,hl with | [_,_,_],_=>rfl) fun cdv A outer s H E hr ds r hl c=> ?_
 obtain ⟨p,L,row,hp,S,ho,rl,rfl,rfl⟩:=c; have hu:(A.deeper (envOfC "_law_table" (aW sTab) s.heap.objs.size f cdv)).units+2<cLine:=by have:=hr.un; omega
 refine aF (bV (d:= .tup ((cP p).map aQ)) 3 nd rfl (Or.inl rfl) (iK rfl ztuple (PEd.bor (PEd.val (bK (ds:=[bO p]) GF hr rfl (aC (aA 0 rfl (pv 0)) aG) ⟨p,hp,rfl,rfl⟩ trivial rfl)))) ?_); refine aF (dY (ds:=cE row) (fun t sd=>sd=[.val (bO p), .val (.lst (L.map (mgD P w K p))), .val (.tup (cE row)), .val (.tup ((S45.tabQ (eO p L) (cP p) (row.take t)).map aQ)), .un]) (iM (aA 2 rfl (pv 2))) ⟨_,Le.refl _,rfl⟩ (fun t d sdt hd ht=> ?_) fun sdn hn=> ?_)
 ·subst ht; obtain ⟨k,hk,rfl,et⟩:=iE hd; have kl:k<L.length:=ho k (aV hk); have hot:iG L (row.take t):=fun i hi=>ho i (iS hi)
  have tl:=pP hp S hot; have ti:=oH hp S hot; rw [et,S45.tab_snoc]; have eB:∀T,eO p L k T=T.map (onQ p (L.getD k default).1):=fun _=>rfl
  rw [eB]
  have mv1:(L.map (mgD P w K p))[k]? =some (mgD P w K p (L.getD k default)):=by rw [aI]; simp [cC,kl]
  generalize S45.tabQ (eO p L) (cP p) (row.take t)=tab at tl ti; generalize L.getD k default=sk at mv1; refine ⟨[.val (bO p), .val (.lst (L.map (mgD P w K p))), .val (.tup (cE row)), .val (.tup (tab.map aQ)), .val (.int (k:Int))],cU 4 (bL (i:=4) nd rfl (Or.inr rfl)), ?_⟩
  have ec:((tab.map aQ).filter fun _=>true).map (fun d=>aQ (onQ p sk.1 (iU d)))=(tab.map (onQ p sk.1)).map aQ:=by
   rw [bU.mpr (fun _ _=>rfl),aY,aY]; refine bI fun ws _=> ?_
   show aQ (onQ p sk.1 (iU (aQ ws)))=_; rw [gK]; rfl
  refine aS (bV (d:= .tup ((tab.map (onQ p sk.1)).map aQ)) 3 nd rfl (Or.inl rfl) (iK rfl ztuple (PEd.bor (PEd.val (PEd.cast (gP (ds:=tab.map aQ) (N:=["_law_filling","_law_moves_here","_law_number"]) (M:=["_law_size_here","_law_moves_here","_law_row","_law_table_here","_law_number"]) (cap:=[none,some 1,some 4]) (sc:=aW sTab) (Tb:=fun d=>[.val d, .val (.lst (L.map (mgD P w K p))), .val (.int (k:Int))]) (fun _=>true) (fun d=>aQ (onQ p sk.1 (iU d))) (iM (aA 3 rfl (pv 3))) (by rw [aB]; omega) rfl (by decide+kernel) rfl (by decide+kernel) rfl (fun cl C fp s H d hd=>cU 0 (bL (i:=0) nd2 rfl (Or.inl rfl))) (fun d hd=>⟨.inl rfl, .inr rfl, .inr rfl,trivial⟩) (fun cl C fp s H d hd=> .inl ⟨rfl,rfl⟩) fun cl C2 fp s H d hd _=> ?_) (by rw [ec]))))) ⟨[.val (bO p), .val (.lst (L.map (mgD P w K p))), .val (.tup (cE row)), .val (.tup ((tab.map (onQ p sk.1)).map aQ)), .un],⟨.inr rfl, .inr rfl, .inr rfl, .inr rfl, .inl rfl,trivial⟩,rfl⟩); obtain ⟨ws,hw,rfl⟩:=mY hd; obtain ⟨i,hi⟩:=cH (ti ws hw); rw [gK]; exact lZ (hk:=hkT P w) (k:=inK ws) (n:=i) (d:=aQ (onQ p sk.1 ws)) hu (jI (iT (n:=k) (PEd.bor (aA 1 rfl (pv 1))) (aA 2 rfl (pv 2)) mv1 fun _ _=>rfl)) (PEd.cast (aA 0 rfl (pv 0)) (by rw [show (hkT P w).dat (inK ws)=tD (inK ws) from rfl,tV])) (by rw [aI,hi]; rfl) (by rw [aI,hi]; rfl) fun _ _=>rfl
 ·subst hn; rw [oK,cY]; exact aS (bG (aA 3 rfl (pv 3)) trivial rfl)
noncomputable def itD45 (e:Bk):D:= .tup [.tup (e.2.2.map aQ),enD e]
theorem yO (row:List Nat) (k:Nat):cE (row++[k])=cE row++[.int (k:Int)]:=by unfold cE; rw [aT]; rfl
theorem ok_fnd43 (F:Fun K "_law_found" "_law_found" vW f fd) (zrange:mg "range"=none) (zlen:mg "len"=none) (ztuple:mg "tuple"=none) (hm:mg "_law_found"=some (.ref f)) (GF:bC P w K mg base "_law_fillings" 1 1 vF) (GM:bC P w K mg base "_law_moves" 3 2 (CLMv P w K)) (GX:bC P w K mg base "_law_mixed" 1 2 CMx):bC P w K mg base "_law_found" 4 4 CFnd43:=by
 have nd:(["_law_size_here","_law_kit_here","_law_bound_here","_law_cell","_law_moves_here","_law_layers","_law_known","_law_price_here","_law_there","_law_row","_law_table_here","_law_k","_law_behind","_law_found_here","_law_entry"]:List Str).Nodup:=by decide+kernel
 have nd2:(["_law_filling","_law_moves_here","_law_k"]:List Str).Nodup:=by decide+kernel
 refine dD (N:=["_law_size_here","_law_kit_here","_law_bound_here","_law_cell","_law_moves_here","_law_layers","_law_known","_law_price_here","_law_there","_law_row","_law_table_here","_law_k","_law_behind","_law_found_here","_law_entry"]) (ps:=["_law_size_here","_law_kit_here","_law_bound_here","_law_cell"]) (k:=3) F ⟨rfl,rfl,rfl,nd,rfl,by decide+kernel,by decide+kernel⟩ hm (fun _ _ _ _ _ _ us hl=>match us,hl with | [_,_,_,_],_=>rfl) fun cdv A outer s H E hr ds r hl c=> ?_
 obtain ⟨p,L,c,U,b,hp,S,b40,FU,rfl,rfl⟩:=c; have hr1:=hr.mono (show 1≤3 by decide); have hu:(A.deeper (envOfC "_law_found" (aW vW) s.heap.objs.size f cdv)).units+2<cLine:=by have:=hr.un; omega
 have hu1:(A.deeper (envOfC "_law_found" (aW vW) s.heap.objs.size f cdv)).units+1<cLine:=by omega
 have f9:(cP p).length≤64:=kU hp; have l8:=S.le; have hpr:=S.pr; refine aF (eA (ds:=L.map (mgD P w K p)) 4 nd rfl (Or.inr rfl) (bK (ds:=[bO p, .lst (L.map skD)]) GM hr rfl (aC (aA 0 rfl (pv 0)) (aC (aA 1 rfl (pv 1)) aG)) ⟨p,L,hp,S,rfl,rfl⟩ trivial rfl) fun l2=>iZ 4 rfl ?_); refine aF (psd_lyNew (-1) 5 nd rfl (Or.inl rfl) fun l3=> ?_); refine aF (psd_lyPut (ds:=[eD ([],cP p)]) (k:=0) 5 rfl (fJ (ds:=[eD ([],cP p)]) (aC (eQ (ds:=[.tup (cE []), .tup ((cP p).map aQ)]) (aC (eQ (ds:=[]) aG (aE rfl)) (aC (iK rfl ztuple (PEd.bor (PEd.val (bK (ds:=[bO p]) GF hr1 rfl (aC (aA 0 rfl (pv 0)) aG) ⟨p,hp,rfl,rfl⟩ trivial rfl)))) aG)) (aE rfl)) aG) (aE rfl)) (by decide) rfl (aE rfl) (fun a ls'=> ?_) (ps_dput hu1 (pv 5) pe_int fH rfl)); refine aF (oI (hkN P w) 6 nd rfl (Or.inl rfl) fun l4=> ?_)
 have e0:kQ (fun _=>[]) 0 [eD ([],cP p)]=lyD (lP p L (decide (c%2=1)) 0):=funext fun j=>by
  show (if j=0 then [eD ([],cP p)] else [])=List.map eD (if j=0 then [(([]:List Nat),cP p)] else [])
  split<;>rfl
 rw [e0]; have fQ:lD p L b c=lR c (lP p L (decide (c%2=1)) (b+1)).1:=rfl; refine aF (dY (ds:=hR 0 (b+1)) (fun t sd=>∃q kvs ls,q+1=(t:Int)∧kvs.length≤1+8 * (lP p L (decide (c%2=1)) t).1.length∧sd=[.val (bO p), .val (.lst (L.map skD)), .val (.int (b:Int)), .val (.int c), .val (.lst (L.map (mgD P w K p))),oLy K l3 q (lyD (lP p L (decide (c%2=1)) t)) kvs ls,oG (hkN P w) K l4 (ksE (lP p L (decide (c%2=1)) t).1) ((lP p L (decide (c%2=1)) t).1.map enD), .un, .un, .un, .un, .un, .un, .un, .un]) (iJ (n:=b+1) rfl zrange (PEd.ic (dX fO (aA 2 rfl (pv 2)) aO) (by omega)) (by omega)) ⟨_,Le.refl _, -1,_,_,rfl,Nat.le_add_right 1 _,rfl⟩ (fun t d sdt hd ht=> ?_) fun sdn hn=> ?_)
 ·obtain ⟨q,kvs,ls,hq,hkv,rfl⟩:=ht; obtain ⟨ht,rfl⟩:=iF hd; rw [qI]; have oT:=S45.ok_run43 (beh:=eO p L) (t0:=cP p) hpr (decide (c%2=1)) t; have bT:S45.Bd L.length (lP p L (decide (c%2=1)) t):=S45.run43_bd _ t; have eR:lP p L (decide (c%2=1)) (t+1)=(S45.ordB (decide (c%2=1)) ((lP p L (decide (c%2=1)) t).2 (t:Int))).foldl (S45.one L.length (prK L) (eO p L) (t:Int)) (lP p L (decide (c%2=1)) t):=rfl; rw [eR]; have oT:S45.Ok L.length (prK L) (eO p L) (cP p) (t:Int) (S45.ordB (decide (c%2=1)) ((lP p L (decide (c%2=1)) t).2 (t:Int))) (lP p L (decide (c%2=1)) t):=oT; generalize lP p L (decide (c%2=1)) t=s0 at oT bT hkv; refine ⟨[.val (bO p), .val (.lst (L.map skD)), .val (.int (b:Int)), .val (.int c), .val (.lst (L.map (mgD P w K p))),oLy K l3 q (lyD s0) kvs ls,oG (hkN P w) K l4 (ksE s0.1) (s0.1.map enD), .val (.int (t:Int)), .un, .un, .un, .un, .un, .un, .un],cU 7 (bL (i:=7) nd rfl (Or.inl rfl)), ?_⟩; refine psd_lyN 5 rfl fun ls'=> ?_
  rw [hq]; refine aF (bV (d:= .lst (lyD s0 (t:Int))) 8 nd rfl (Or.inl rfl) (pd_lyGet 5 hu1 rfl (pv 5) (aA 7 rfl (pv 7)) ⟨rfl,rfl,rfl,rfl⟩) ?_); refine byKey (K:=∀Ls,S45.ordB (decide (c%2=1)) (s0.2 (t:Int))=Ls→PSd _ [.val (bO p), .val (.lst (L.map skD)), .val (.int (b:Int)), .val (.int c), .val (.lst (L.map (mgD P w K p))),oLy K l3 (t:Int) (lyD s0) kvs ls',oG (hkN P w) K l4 (ksE s0.1) (s0.1.map enD), .val (.int (t:Int)), .val (.lst (Ls.map eD)), .un, .un, .un, .un, .un, .un] _ _) (fun key=>aF (eX (k:=decide (c%2=1)) (oS (cD dL (aA 3 rfl (pv 3)) aO (by decide)) aO) (fun h=> ?_) fun h=>cB (key (s0.2 (t:Int)) (by rw [h]; rfl)))) fun Ls hLs=> ?_
  ·refine aS (eA (ds:=(lyD s0 (t:Int)).reverse) 8 nd rfl (Or.inl rfl) (PEd.cast (pd_slL3 (ol:=none) (oh:=none) (ok:=some (-1)) (PEd.bor (aA 8 rfl (pv 8))) trivial trivial (nT aO) (by decide)) (by rw [pickA_rev])) fun l8=>iZ 8 rfl ?_); have k:=key (s0.2 (t:Int)).reverse (by rw [h]; rfl); have er:((s0.2 (t:Int)).reverse).map eD=(lyD s0 (t:Int)).reverse:=by unfold lyD; rw [List.map_reverse]
   rw [er] at k; exact k
  rw [hLs] at oT ⊢; clear hLs eR e0; refine aS (dY (ds:=Ls.map eD) (fun j sd=>∃kvs ls s,s=(Ls.take j).foldl (S45.one L.length (prK L) (eO p L) (t:Int)) s0∧kvs.length≤1+8 * s.1.length∧sd=[.val (bO p), .val (.lst (L.map skD)), .val (.int (b:Int)), .val (.int c), .val (.lst (L.map (mgD P w K p))),oLy K l3 (t:Int) (lyD s) kvs ls,oG (hkN P w) K l4 (ksE s.1) (s.1.map enD), .val (.int (t:Int)), .val (.lst (Ls.map eD)), .un, .un, .un, .un, .un, .un]) (gE (aA 8 rfl (pv 8))) ⟨_,Le.refl _,kvs,ls',s0,rfl,hkv,rfl⟩ (fun j d sdj hd hj=> ?_) fun sdn hn=> ?_)
  ·obtain ⟨kvs,ls,s,es,hkv,rfl⟩:=hj; obtain ⟨x,hx,rfl,ex⟩:=iE hd
   have o:S45.Ok L.length (prK L) (eO p L) (cP p) (t:Int) (Ls.drop j) s:=by rw [es]; exact S45.Ok.take hpr (by omega) j oT
   have bb:S45.Bd L.length s:=by rw [es]; exact S45.fold_bd bT
   have xr:x∈Ls.drop j:=by refine aV (i:=0) ?_; rw [List.getElem?_drop]; exact hx
   obtain ⟨x1,x2,x3,_⟩:=o.ly _ x (o.sub x xr)
   have rl:x.1.length≤40:=by
    have:=S45.len_pr (pr:=prK L) x.1 fun k hk=>hpr k (x2 k hk)
    omega
   have tl:x.2.length≤64:=by rw [x3]; exact pP hp S x2
   have ti:∀ws∈x.2,ws∈cP p:=fun ws hw=>by rw [x3] at hw; exact oH hp S x2 ws hw
   have sl:s.1.length≤400:=few43 FU (by omega) o
   have eS:(Ls.take (j+1)).foldl (S45.one L.length (prK L) (eO p L) (t:Int)) s0=S45.one L.length (prK L) (eO p L) (t:Int) s x:=by rw [ex,jN,es]; rfl
   rw [eS]; clear eS ex es xr hx hd o x1 x3; obtain ⟨row,tab⟩:=x; have rl:row.length≤40:=rl; have tl:tab.length≤64:=tl; have ti:∀ws∈tab,ws∈cP p:=ti; have kd:∀ {X:Cx} {sd:List Slot} {e:Expr},PEd X sd e (.val (.tup (tab.map aQ)))→PEd X sd e (.val ((hkN P w).dat (tbK tab))):=fun h=>PEd.cast h (by rw [show (hkN P w).dat (tbK tab)=D.tup ((tbK tab).map tD) from rfl,tbK_D])
   have inj:decide (tab∈s.1.map fun x=>x.2.2)=true↔tbK tab∈ksE s.1:=by
    rw [decide_eq_true_iff]
    constructor
    ·intro h; obtain ⟨e,e1,e2⟩:=aJ.mp h; exact aJ.mpr ⟨e,e1,by rw [e2]⟩
    ·intro h; obtain ⟨e,e1,e2⟩:=aJ.mp h; exact aJ.mpr ⟨e,e1,mX e2⟩
   refine ⟨[.val (bO p), .val (.lst (L.map skD)), .val (.int (b:Int)), .val (.int c), .val (.lst (L.map (mgD P w K p))),oLy K l3 (t:Int) (lyD s) kvs ls,oG (hkN P w) K l4 (ksE s.1) (s.1.map enD), .val (.int (t:Int)), .val (.lst (Ls.map eD)), .val (.tup (cE row)), .val (.tup (tab.map aQ)), .un, .un, .un, .un],iO (ds:=[.tup (cE row), .tup (tab.map aQ)]) (js:=[9,10]) rfl (cS (bL (i:=9) nd rfl (Or.inl rfl)) (cS (bL (i:=10) nd rfl (Or.inl rfl)) iQ)) rfl rfl, ?_⟩; refine aS (eX (k:= !decide (tab∈s.1.map fun x=>x.2.2)) (rZ (hk:=hkN P w) (k:=tbK tab) inj hu (kd (aA 10 rfl (pv 10))) (vT 6 rfl (pv 6))) (fun h=> ?_) fun h=> ?_)
   ·have n1:tab∉s.1.map fun x=>x.2.2:=by simpa using h
    have nk:tbK tab∉ksE s.1:=fun z=>n1 (of_decide_eq_true (inj.mpr z))
    have e1:S45.one L.length (prK L) (eO p L) (t:Int) s (row,tab)=(s.1++[((t:Int),row,tab)],S45.put (prK L) (eO p L) t row tab L.length s.2):=by unfold S45.one; rw [if_pos ⟨n1,by omega⟩]
    rw [e1]; clear e1 inj h; refine aF (oB (hk:=hkN P w) (k:=tbK tab) (d:=enD ((t:Int),row,tab)) 6 hu rfl (pv 6) (eQ (ds:=[.int (t:Int), .tup (cE row), .tup (tab.map aQ)]) (aC (aA 7 rfl (pv 7)) (aC (aA 9 rfl (pv 9)) (aC (aA 10 rfl (pv 10)) aG))) (aE rfl)) (kd (aA 10 rfl (pv 10))) nk (by rw [aB]; omega) ?_)
    have ek:ksE s.1++[tbK tab]=ksE (s.1++[((t:Int),row,tab)]):=by unfold ksE; rw [aT]; rfl
    have ev:s.1.map enD++[enD ((t:Int),row,tab)]=(s.1++[((t:Int),row,tab)]).map enD:=by rw [aT]; rfl
    rw [ek,ev]; refine aS (dY (ds:=hR 0 L.length) (fun m sd=>∃kvs' ls,kvs'.length≤kvs.length+m∧sd=[.val (bO p), .val (.lst (L.map skD)), .val (.int (b:Int)), .val (.int c), .val (.lst (L.map (mgD P w K p))),oLy K l3 (t:Int) (fun j=>(S45.put (prK L) (eO p L) t row tab m s.2 j).map eD) kvs' ls,oG (hkN P w) K l4 (ksE (s.1++[((t:Int),row,tab)])) ((s.1++[((t:Int),row,tab)]).map enD), .val (.int (t:Int)), .val (.lst (Ls.map eD)), .val (.tup (cE row)), .val (.tup (tab.map aQ)), .un, .un, .un, .un]) (iJ (n:=L.length) rfl zrange (PEd.ic (kG rfl zlen (PEd.bor (aA 1 rfl (pv 1)))) (by rw [aB])) (by omega)) ⟨_,Le.refl _,kvs,ls,aZ _,rfl⟩ (fun m d sdm hd hm=> ?_) fun sdn hn=> ?_)
    ·obtain ⟨kvs',ls,hk',rfl⟩:=hm; obtain ⟨ml,rfl⟩:=iF hd; rw [qI]; have pl1:=S45.put_len (pr:=prK L) (beh:=eO p L) (t:Int) row tab s.2 m; have b1:=bb ((t:Int)+prK L m); have b2:L.length * s.1.length≤8 * s.1.length:=nX _ l8; have p1:=pl1 ((t:Int)+prK L m); have gm:=hpr m ml; have sk1:(L.map skD)[m]? =some (skD (L.getD m default)):=tE ml
     have mv1:(L.map (mgD P w K p))[m]? =some (mgD P w K p (L.getD m default)):=by rw [aI]; simp [cC,ml]
     have eB:eO p L m tab=tab.map (onQ p (L.getD m default).1):=rfl; have eP:prK L m=(L.getD m default).2:=rfl
     have eU:(fun j=>(S45.put (prK L) (eO p L) t row tab (m+1) s.2 j).map eD)=kQ (fun j=>(S45.put (prK L) (eO p L) t row tab m s.2 j).map eD) ((t:Int)+prK L m) ((S45.put (prK L) (eO p L) t row tab m s.2 ((t:Int)+prK L m)).map eD++[eD (row++[m],eO p L m tab)]):=funext fun j=>by
      show (if j=(t:Int)+prK L m then S45.put (prK L) (eO p L) t row tab m s.2 j++[(row++[m],eO p L m tab)] else S45.put (prK L) (eO p L) t row tab m s.2 j).map eD=if j=(t:Int)+prK L m then _ else _
      split
      ·next z=>rw [z,aT]; rfl
      ·rfl
     rw [eU]; generalize S45.put (prK L) (eO p L) t row tab m s.2=ly at p1; generalize L.getD m default=sk at sk1 mv1 eB eP; rw [eB]; refine ⟨[.val (bO p), .val (.lst (L.map skD)), .val (.int (b:Int)), .val (.int c), .val (.lst (L.map (mgD P w K p))),oLy K l3 (t:Int) (fun j=>(ly j).map eD) kvs' ls,oG (hkN P w) K l4 (ksE (s.1++[((t:Int),row,tab)])) ((s.1++[((t:Int),row,tab)]).map enD), .val (.int (t:Int)), .val (.lst (Ls.map eD)), .val (.tup (cE row)), .val (.tup (tab.map aQ)), .val (.int (m:Int)), .un, .un, .un],cU 11 (bL (i:=11) nd rfl (Or.inr rfl)), ?_⟩
     have ec:((tab.map aQ).filter fun _=>true).map (fun d=>aQ (onQ p sk.1 (iU d)))=(tab.map (onQ p sk.1)).map aQ:=by
      rw [bU.mpr (fun _ _=>rfl),aY,aY]; refine bI fun ws _=> ?_
      show aQ (onQ p sk.1 (iU (aQ ws)))=_; rw [gK]; rfl
     refine aF (bV (d:= .tup ((tab.map (onQ p sk.1)).map aQ)) 12 nd rfl (Or.inl rfl) (iK rfl ztuple (PEd.bor (PEd.val (PEd.cast (gP (ds:=tab.map aQ) (N:=["_law_filling","_law_moves_here","_law_k"]) (M:=["_law_size_here","_law_kit_here","_law_bound_here","_law_cell","_law_moves_here","_law_layers","_law_known","_law_price_here","_law_there","_law_row","_law_table_here","_law_k","_law_behind","_law_found_here","_law_entry"]) (cap:=[none,some 4,some 11]) (sc:=aW vW) (Tb:=fun d=>[.val d, .val (.lst (L.map (mgD P w K p))), .val (.int (m:Int))]) (fun _=>true) (fun d=>aQ (onQ p sk.1 (iU d))) (iM (aA 10 rfl (pv 10))) (by rw [aB]; omega) rfl (by decide+kernel) rfl (by decide+kernel) rfl (fun cl C fp s H d hd=>cU 0 (bL (i:=0) nd2 rfl (Or.inl rfl))) (fun d hd=>⟨.inl rfl, .inr rfl, .inr rfl,trivial⟩) (fun cl C fp s H d hd=> .inl ⟨rfl,rfl⟩) fun cl C2 fp s H d hd _=> ?_) (by rw [ec]))))) ?_)
     ·obtain ⟨ws,hw,rfl⟩:=mY hd; obtain ⟨i,hi⟩:=cH (ti ws hw); rw [gK]; exact lZ (hk:=hkT P w) (k:=inK ws) (n:=i) (d:=aQ (onQ p sk.1 ws)) hu (jI (iT (n:=m) (PEd.bor (aA 1 rfl (pv 1))) (aA 2 rfl (pv 2)) mv1 fun _ _=>rfl)) (PEd.cast (aA 0 rfl (pv 0)) (by rw [show (hkT P w).dat (inK ws)=tD (inK ws) from rfl,tV])) (by rw [aI,hi]; rfl) (by rw [aI,hi]; rfl) fun _ _=>rfl
     refine aS (psd_lyApp (k:=(t:Int)+prK L m) (d:=eD (row++[m],tab.map (onQ p sk.1))) 5 rfl (pv 5) (dX fO (aA 7 rfl (pv 7)) (PEd.ic (cV (n:=1) (ds:=[sqD sk.1, .int sk.2]) (d:= .int sk.2) (iT (n:=m) (PEd.bor (aA 1 rfl (pv 1))) (aA 11 rfl (pv 11)) sk1 fun _ _=>rfl) aO rfl fun _ _=>rfl) eP.symm)) (fun z=>eQ (ds:=[.tup (cE (row++[m])), .tup ((tab.map (onQ p sk.1)).map aQ)]) (aC (PEd.cast (gJ (aA 9 rfl (pv 9)) (eQ (ds:=[.int (m:Int)]) (aC (aA 11 rfl (pv 11)) aG) (aE rfl)) ?_) (by rw [yO])) (aC (aA 12 rfl (pv 12)) aG)) (aE rfl)) (by omega) (by omega) ?_ fun kvs2 ls2 hk2=> ?_)
     ·unfold cE; rw [aB]; show row.length+1≤1000; omega
     ·show ((ly ((t:Int)+prK L m)).map eD).length≤100000; rw [aB]; omega
     ·exact ⟨[.val (bO p), .val (.lst (L.map skD)), .val (.int (b:Int)), .val (.int c), .val (.lst (L.map (mgD P w K p))),oLy K l3 (t:Int) (kQ (fun j=>(ly j).map eD) ((t:Int)+prK L m) ((ly ((t:Int)+prK L m)).map eD++[eD (row++[m],tab.map (onQ p sk.1))])) kvs2 ls2,oG (hkN P w) K l4 (ksE (s.1++[((t:Int),row,tab)])) ((s.1++[((t:Int),row,tab)]).map enD), .val (.int (t:Int)), .val (.lst (Ls.map eD)), .val (.tup (cE row)), .val (.tup (tab.map aQ)), .un, .un, .un, .un],⟨.inr rfl, .inr rfl, .inr rfl, .inr rfl, .inr rfl, .inr rfl, .inr rfl, .inr rfl, .inr rfl, .inr rfl, .inr rfl, .inl rfl, .inl rfl, .inr rfl, .inr rfl,trivial⟩,kvs2,ls2,by omega,rfl⟩
    ·obtain ⟨kvs',ls,hk',rfl⟩:=hn; rw [gC] at hk' ⊢; exact ⟨[.val (bO p), .val (.lst (L.map skD)), .val (.int (b:Int)), .val (.int c), .val (.lst (L.map (mgD P w K p))),oLy K l3 (t:Int) (lyD (s.1++[((t:Int),row,tab)],S45.put (prK L) (eO p L) t row tab L.length s.2)) kvs' ls,oG (hkN P w) K l4 (ksE (s.1++[((t:Int),row,tab)])) ((s.1++[((t:Int),row,tab)]).map enD), .val (.int (t:Int)), .val (.lst (Ls.map eD)), .un, .un, .un, .un, .un, .un],⟨.inr rfl, .inr rfl, .inr rfl, .inr rfl, .inr rfl, .inr rfl, .inr rfl, .inr rfl, .inr rfl, .inl rfl, .inl rfl, .inr rfl, .inr rfl, .inr rfl, .inr rfl,trivial⟩,kvs',ls,_,rfl,by show _≤1+8 * (s.1++[_]).length; rw [aN]; show _≤1+8 * (s.1.length+1); omega,rfl⟩
   ·have e1:S45.one L.length (prK L) (eO p L) (t:Int) s (row,tab)=s:=by
     unfold S45.one; refine if_neg fun z=> ?_
     rw [decide_eq_false z.1] at h; cases h
    rw [e1]; exact cB ⟨[.val (bO p), .val (.lst (L.map skD)), .val (.int (b:Int)), .val (.int c), .val (.lst (L.map (mgD P w K p))),oLy K l3 (t:Int) (lyD s) kvs ls,oG (hkN P w) K l4 (ksE s.1) (s.1.map enD), .val (.int (t:Int)), .val (.lst (Ls.map eD)), .un, .un, .un, .un, .un, .un],⟨.inr rfl, .inr rfl, .inr rfl, .inr rfl, .inr rfl, .inr rfl, .inr rfl, .inr rfl, .inr rfl, .inl rfl, .inl rfl, .inr rfl, .inr rfl, .inr rfl, .inr rfl,trivial⟩,kvs,ls,s,rfl,hkv,rfl⟩
  ·obtain ⟨kvs,ls,s,es,hkv,rfl⟩:=hn; rw [aB,cY] at es; subst es; exact ⟨[.val (bO p), .val (.lst (L.map skD)), .val (.int (b:Int)), .val (.int c), .val (.lst (L.map (mgD P w K p))),oLy K l3 (t:Int) (lyD (Ls.foldl (S45.one L.length (prK L) (eO p L) (t:Int)) s0)) kvs ls,oG (hkN P w) K l4 (ksE (Ls.foldl (S45.one L.length (prK L) (eO p L) (t:Int)) s0).1) ((Ls.foldl (S45.one L.length (prK L) (eO p L) (t:Int)) s0).1.map enD), .un, .un, .un, .un, .un, .un, .un, .un],⟨.inr rfl, .inr rfl, .inr rfl, .inr rfl, .inr rfl, .inr rfl, .inr rfl, .inl rfl, .inl rfl, .inr rfl, .inr rfl, .inr rfl, .inr rfl, .inr rfl, .inr rfl,trivial⟩,(t:Int),kvs,ls,by omega,hkv,rfl⟩
 ·obtain ⟨q,kvs,ls,hq,hkv,rfl⟩:=hn; rw [gC,fQ]; have sl:=few43 FU (lV _) (S45.Ok.fold S.pr (jJ b) (S45.ok_run43 (beh:=eO p L) (t0:=cP p) S.pr (decide (c%2=1)) b)); have sl:(lP p L (decide (c%2=1)) (b+1)).1.length≤400:=sl; generalize (lP p L (decide (c%2=1)) (b+1)).1=B at sl; refine oP 6 rfl ?_; refine aF (eA (ds:=(lR c []).map enD) 13 nd rfl (Or.inl rfl) (fJ (ds:=[]) aG (aE rfl)) fun l13=> ?_)
  have ei:(((ksE B).zip (B.map enD)).map fun p=>D.tup [(hkN P w).dat p.1,p.2])=B.map itD45:=by
   unfold ksE; rw [List.zip_map',aY]; refine bI fun e _=> ?_
   show D.tup [(hkN P w).dat (tbK e.2.2),enD e]=D.tup [.tup (e.2.2.map aQ),enD e]; rw [show (hkN P w).dat (tbK e.2.2)=D.tup ((tbK e.2.2).map tD) from rfl,tbK_D]
  refine uZ (sd':=[.val (bO p), .val (.lst (L.map skD)), .val (.int (b:Int)), .val (.int c), .val (.lst (L.map (mgD P w K p))), .un, .val (gD (hkN P w) K (ksE B) (B.map enD)), .un, .un, .un, .un, .un, .un, .own l13 ((lR c []).map enD), .un]) ⟨.inr rfl, .inr rfl, .inr rfl, .inr rfl, .inr rfl, .inl rfl, .inr rfl, .inr rfl, .inr rfl, .inr rfl, .inr rfl, .inr rfl, .inr rfl, .inr rfl, .inr rfl,trivial⟩ ?_
  have hit:∀ {elts:List Expr} {kk:Nat} {tp p1 ap cp:Pos},(ap.endLine==cp.line)=true→PId (hX CX0 P w K mg base ["_law_size_here","_law_kit_here","_law_bound_here","_law_cell","_law_moves_here","_law_layers","_law_known","_law_price_here","_law_there","_law_row","_law_table_here","_law_k","_law_behind","_law_found_here","_law_entry"] "_law_found" (aW vW) f cdv A outer s H E).nox [.val (bO p), .val (.lst (L.map skD)), .val (.int (b:Int)), .val (.int c), .val (.lst (L.map (mgD P w K p))), .un, .val (gD (hkN P w) K (ksE B) (B.map enD)), .un, .un, .un, .un, .un, .un, .own l13 ((lR c []).map enD), .un] PT0 (.Tuple elts kk tp) (.Call (.Attribute (.Name "_law_known" p1) "items" ap) [] [] cp) (B.map itD45):=fun {_ _ _ p1 _ _} hl=>by rw [← ei]; have v4:PEd (hX CX0 P w K mg base ["_law_size_here","_law_kit_here","_law_bound_here","_law_cell","_law_moves_here","_law_layers","_law_known","_law_price_here","_law_there","_law_row","_law_table_here","_law_k","_law_behind","_law_found_here","_law_entry"] "_law_found" (aW vW) f cdv A outer s H E).nox [.val (bO p), .val (.lst (L.map skD)), .val (.int (b:Int)), .val (.int c), .val (.lst (L.map (mgD P w K p))), .un, .val (gD (hkN P w) K (ksE B) (B.map enD)), .un, .un, .un, .un, .un, .un, .own l13 ((lR c []).map enD), .un] (.Name "_law_known" p1) (.val (gD (hkN P w) K (ksE B) (B.map enD))):=(aA 6 rfl (pv 6)); exact sA (X:=(hX CX0 P w K mg base ["_law_size_here","_law_kit_here","_law_bound_here","_law_cell","_law_moves_here","_law_layers","_law_known","_law_price_here","_law_there","_law_row","_law_table_here","_law_k","_law_behind","_law_found_here","_law_entry"] "_law_found" (aW vW) f cdv A outer s H E).nox) (hk:=hkN P w) v4 rfl hl
  refine aF (dY (ds:=B.map itD45) (fun t sd=>sd=[.val (bO p), .val (.lst (L.map skD)), .val (.int (b:Int)), .val (.int c), .val (.lst (L.map (mgD P w K p))), .un, .val (gD (hkN P w) K (ksE B) (B.map enD)), .un, .un, .un, .un, .un, .un, .own l13 ((lR c (B.take t)).map enD), .un]) (hit rfl) ⟨_,Le.refl _,rfl⟩ (fun t d sdt hd ht=> ?_) fun sdn hn=> ?_)
  ·subst ht; obtain ⟨e,he,rfl,et⟩:=iE hd; rw [et,yV]; have ll:(lR c (B.take t)).length≤400:=by rw [(sK c (B.take t)).length_eq,bH]; omega
   have eI:∀A:List Bk,sN c A e=A.take (mxS c A.length%((A.length:Int)+1)).toNat++e::A.drop (mxS c A.length%((A.length:Int)+1)).toNat:=fun _=>rfl
   rw [eI]; generalize lR c (B.take t)=Bs at ll; have k0:=cM (mxS c Bs.length) (show ((Bs.length:Int)+1)≠0 by omega); have k1:=bR (mxS c Bs.length) (show (0:Int)<(Bs.length:Int)+1 by omega); refine ⟨[.val (bO p), .val (.lst (L.map skD)), .val (.int (b:Int)), .val (.int c), .val (.lst (L.map (mgD P w K p))), .un, .val (gD (hkN P w) K (ksE B) (B.map enD)), .un, .un, .un, .val (.tup (e.2.2.map aQ)), .un, .un, .own l13 (Bs.map enD), .val (enD e)],iO (ds:=[.tup (e.2.2.map aQ),enD e]) (js:=[10,14]) rfl (cS (bL (i:=10) nd rfl (Or.inl rfl)) (cS (bL (i:=14) nd rfl (Or.inl rfl)) iQ)) rfl rfl, ?_⟩; have bl:∀ {sd:List Slot} {p1 p2 p3:Pos},sd[13]? =some (.own l13 (Bs.map enD))→PEd (hX CX0 P w K mg base ["_law_size_here","_law_kit_here","_law_bound_here","_law_cell","_law_moves_here","_law_layers","_law_known","_law_price_here","_law_there","_law_row","_law_table_here","_law_k","_law_behind","_law_found_here","_law_entry"] "_law_found" (aW vW) f cdv A outer s H E).nox sd (.Call (.Name "len" p1) [.Name "_law_found_here" p2] [] p3) (.val (.int (Bs.length:Int))):=fun h=>PEd.ic (kG rfl zlen (qU 13 h (pv 13))) (by rw [aB])
   refine aS (psd_insN (ds:=Bs.map enD) (d:=enD e) 13 (mxS c Bs.length%((Bs.length:Int)+1)).toNat rfl (PEd.ic (cD dL (bK (ds:=[.int c, .int ((Bs.length:Nat):Int)]) GX hr1 rfl (aC (aA 3 rfl (pv 3)) (aC (bl rfl) aG)) ⟨c,Bs.length,rfl,by omega,rfl⟩ trivial rfl) (dX fO (bl rfl) aO) (by omega)) (by omega)) (aA 14 rfl (pv 14)) (by rw [aB]; omega) (by rw [aB]; omega) ⟨[.val (bO p), .val (.lst (L.map skD)), .val (.int (b:Int)), .val (.int c), .val (.lst (L.map (mgD P w K p))), .un, .val (gD (hkN P w) K (ksE B) (B.map enD)), .un, .un, .un, .un, .un, .un, .own l13 ((Bs.take (mxS c Bs.length%((Bs.length:Int)+1)).toNat++e::Bs.drop (mxS c Bs.length%((Bs.length:Int)+1)).toNat).map enD), .un],⟨.inr rfl, .inr rfl, .inr rfl, .inr rfl, .inr rfl, .inr rfl, .inr rfl, .inr rfl, .inr rfl, .inr rfl, .inl rfl, .inr rfl, .inr rfl, .inr ?_, .inl rfl,trivial⟩,rfl⟩); rw [aT,bX,gQ,iC]
  ·subst hn; rw [aB,cY]; exact aS (mU 13 rfl (pv 13) rfl)
theorem ok_de43 (F:Fun K "_law_due_entry" "_law_due_entry" sDe f fd) (zlen:mg "len"=none) (hm:mg "_law_due_entry"=some (.ref f)) (GP:bC P w K mg base "_law_price" 1 2 CPr41) (GT:bC P w K mg base "_law_table" 2 3 (CTab41 P w K)):bC P w K mg base "_law_due_entry" 3 5 (CDe43 P w K):=by
 have nd:(["_law_size_here","_law_kit_here","_law_moves_here","_law_bound_here","_law_entry","_law_price_here","_law_row","_law_table_here","_law_number"]:List Str).Nodup:=by decide+kernel
 refine dD (N:=["_law_size_here","_law_kit_here","_law_moves_here","_law_bound_here","_law_entry","_law_price_here","_law_row","_law_table_here","_law_number"]) (ps:=["_law_size_here","_law_kit_here","_law_moves_here","_law_bound_here","_law_entry"]) (k:=2) F ⟨rfl,rfl,rfl,nd,rfl,by decide+kernel,by decide+kernel⟩ hm (fun _ _ _ _ _ _ us hl=>match us,hl with | [_,_,_,_,_],_=>rfl) fun cdv A outer s H E hr ds r hl c=> ?_
 obtain ⟨p,L,b,e,hp,S,el,rfl,rfl⟩:=c; have hr1:=hr.mono (show 1≤2 by decide); have hu:(A.deeper (envOfC "_law_due_entry" (aW sDe) s.heap.objs.size f cdv)).units+5<cLine:=by have:=hr.un; omega
 refine aF (vK (d:=e0D e) (sd':=[.val (bO p), .val (.lst (L.map skD)), .val (.lst (L.map (mgD P w K p))), .val (.int b), .val (e0D e), .val (.int e.1), .val (aQ e.2.1), .val (.tup (e.2.2.map aQ)), .un]) (aA 4 rfl (pv 4)) (iO (ds:=[.int e.1,aQ e.2.1, .tup (e.2.2.map aQ)]) (js:=[5,6,7]) rfl (cS (bL (i:=5) nd rfl (Or.inl rfl)) (cS (bL (i:=6) nd rfl (Or.inl rfl)) (cS (bL (i:=7) nd rfl (Or.inl rfl)) iQ))) rfl rfl) ?_); refine aF (dY (ds:=e.2.1.map D.int) (fun t sd=>(∀j,j<t→0≤e.2.1.getD j 0∧e.2.1.getD j 0<(L.length:Int))∧sd=[.val (bO p), .val (.lst (L.map skD)), .val (.lst (L.map (mgD P w K p))), .val (.int b), .val (e0D e), .val (.int e.1), .val (aQ e.2.1), .val (.tup (e.2.2.map aQ)), .un]) (iM (aA 6 rfl (pv 6))) ⟨_,Le.refl _,fun j hj=>by omega,rfl⟩ (fun t d sdt hd ht=> ?_) fun sdn hn=> ?_)
 ·obtain ⟨hg,rfl⟩:=ht; obtain ⟨i,hi,rfl,_⟩:=iE hd; have gi:e.2.1.getD t 0=i:=by simp [cC,hi]
  refine ⟨[.val (bO p), .val (.lst (L.map skD)), .val (.lst (L.map (mgD P w K p))), .val (.int b), .val (e0D e), .val (.int e.1), .val (aQ e.2.1), .val (.tup (e.2.2.map aQ)), .val (.int i)],cU 8 (bL (i:=8) nd rfl (Or.inl rfl)), ?_⟩; refine aS (eX (k:=decide (i<0) || decide ((L.length:Int)≤i)) (PWd.pt (jF (k:=decide (i<0)) (j:=decide ((L.length:Int)≤i)) (nC (g:=fun i j=>decide (i<j)) op_lt (aA 8 rfl (pv 8)) aO (gS _)) fun _=>jT (nC (g:=fun i j=>decide (j≤i)) op_ge (aA 8 rfl (pv 8)) (PEd.ic (kG rfl zlen (PEd.bor (aA 1 rfl (pv 1)))) (by rw [aB])) (gS _)))) (fun h=> ?_) fun h=>cB ?_)
  ·refine aS (bG mL trivial ?_)
   have:rG L.length e.2.1=false:=iI.mpr fun z=>by have:=bD.mp z i (aV hi); rw [aP,decide_eq_true_iff,decide_eq_true_iff] at this; rw [kJ,decide_eq_true_iff,decide_eq_true_iff] at h; omega
   unfold vdE prE; rw [this]; rfl
  ·have:¬ (i<0)∧¬ ((L.length:Int)≤i):=by simpa using h
   refine ⟨[.val (bO p), .val (.lst (L.map skD)), .val (.lst (L.map (mgD P w K p))), .val (.int b), .val (e0D e), .val (.int e.1), .val (aQ e.2.1), .val (.tup (e.2.2.map aQ)), .un],⟨.inr rfl, .inr rfl, .inr rfl, .inr rfl, .inr rfl, .inr rfl, .inr rfl, .inr rfl, .inl rfl,trivial⟩,fun j hj=> ?_,rfl⟩
   by_cases q:j<t
   ·exact hg j q
   ·have:j=t:=by omega
    subst this; rw [gi]; omega
 ·obtain ⟨hg,rfl⟩:=hn; rw [aB] at hg
  have hk:rG L.length e.2.1=true:=bD.mpr fun i hi=>by
   obtain ⟨j,hj,rfl⟩:=cN hi; have:=hg j hj; have g:e.2.1.getD j 0=e.2.1[j]:=by simp [cC,hj]
   rw [g] at this; rw [decide_eq_true this.1,decide_eq_true this.2]; rfl
  obtain ⟨ro,_⟩:=nV hk; have ed:=rok_D hk; have nl:(fU e.2.1).length≤400:=by unfold fU; rw [aB]; omega
  refine aS (bG (PEd.cast (lY (k:=decide (e.1≤b)) (j:=decide (e.1=S45.prQ (prK L) (fU e.2.1)) && decide (e.2.2=S45.tabQ (eO p L) (cP p) (fU e.2.1))) (pd_cI (g:=fun i j=>decide (i≤j)) uB (aA 5 rfl (pv 5)) (aA 3 rfl (pv 3)) (gS _)) fun _=>lY (k:=decide (e.1=S45.prQ (prK L) (fU e.2.1))) (j:=decide (e.2.2=S45.tabQ (eO p L) (cP p) (fU e.2.1))) (zV (aA 5 rfl (pv 5)) (bK (ds:=[.lst (L.map skD), .tup (cE (fU e.2.1))]) GP hr1 rfl (aC (aA 1 rfl (pv 1)) (aC (PEd.cast (aA 6 rfl (pv 6)) (by rw [ed])) aG)) ⟨L,fU e.2.1,ro,nl,rfl,rfl⟩ trivial rfl)) fun _=>nU (PEd.cast (pd_eqD (ra:= .val (.tup (e.2.2.map aQ))) (rb:= .val (.tup ((S45.tabQ (eO p L) (cP p) (fU e.2.1)).map aQ))) (aA 7 rfl (pv 7)) (bK (ds:=[bO p, .lst (L.map (mgD P w K p)), .tup (cE (fU e.2.1))]) GT hr rfl (aC (aA 0 rfl (pv 0)) (aC (aA 2 rfl (pv 2)) (aC (PEd.cast (aA 6 rfl (pv 6)) (by rw [ed])) aG))) ⟨p,L,fU e.2.1,hp,S,ro,nl,rfl,rfl⟩ trivial rfl) trivial trivial (.inl ⟨rfl,rfl⟩) (kM _) (kM _) (u_of' hu (by show jO (e.2.2.map aQ)+1+1≤5; have:=lG e.2.2; omega))) (by show R.val (.bl (jE (e.2.2.map aQ) _))=_; rw [rH]))) ?_) trivial rfl); unfold vdE prE; rw [hk]; cases decide (e.1≤b)<;>cases decide (e.1=S45.prQ (prK L) (fU e.2.1))<;>cases decide (e.2.2=S45.tabQ (eO p L) (cP p) (fU e.2.1))<;>rfl
noncomputable def qC (p:Int × Int) (L:List SK) (b:Int) (Es:List E0) (e:E0) (k:Nat):Bool:= !decide (e.1+prK L k≤b) || Es.any fun x=>decide (x.2.2=eO p L k e.2.2) && decide (x.1≤e.1+prK L k)
noncomputable def itD43 (e:E0):D:= .tup [.tup (e.2.2.map aQ), .int e.1]
noncomputable def row43:D→D
 | .tup [_,b,_]=>b
 | d=>d
noncomputable def three43:D→List Slot
 | .tup [a,b,c]=>[.val a, .val b, .val c]
 | _=>[.un, .un, .un]
theorem ok_du43 (F:Fun K "_law_due" "_law_due" sDu f fd) (ztuple:mg "tuple"=none) (zrange:mg "range"=none) (zlen:mg "len"=none) (hm:mg "_law_due"=some (.ref f)) (GM:bC P w K mg base "_law_moves" 3 2 (CLMv P w K)) (GE:bC P w K mg base "_law_due_entry" 3 5 (CDe43 P w K)):bC P w K mg base "_law_due" 4 4 CDu43:=by
 have nd:(["_law_size_here","_law_kit_here","_law_bound_here","_law_book","_law_moves_here","_law_known","_law_entry","_law_table_here","_law_price_here","_law_k","_law_behind"]:List Str).Nodup:=by decide+kernel
 have nd2:(["_law_filling","_law_moves_here","_law_k"]:List Str).Nodup:=by decide+kernel
 have nd3:(["_law_price_here","_law_row","_law_table_here"]:List Str).Nodup:=by decide+kernel
 refine dD (N:=["_law_size_here","_law_kit_here","_law_bound_here","_law_book","_law_moves_here","_law_known","_law_entry","_law_table_here","_law_price_here","_law_k","_law_behind"]) (ps:=["_law_size_here","_law_kit_here","_law_bound_here","_law_book"]) (k:=3) F ⟨rfl,rfl,rfl,nd,rfl,by decide+kernel,by decide+kernel⟩ hm (fun _ _ _ _ _ _ us hl=>match us,hl with | [_,_,_,_],_=>rfl) fun cdv A outer s H E hr ds r hl c=> ?_
 obtain ⟨p,L,b,Es,hp,S,Sh,rfl,rfl⟩:=c; have hu:(A.deeper (envOfC "_law_due" (aW sDu) s.heap.objs.size f cdv)).units+5<cLine:=by have:=hr.un; omega
 have hu2:(A.deeper (envOfC "_law_due" (aW sDu) s.heap.objs.size f cdv)).units+2<cLine:=by omega
 have l6:=Sh.len; have l8:=S.le; have kd:∀ {X:Cx} {sd:List Slot} {g:Expr} (T:List (List Int)),PEd X sd g (.val (.tup (T.map aQ)))→PEd X sd g (.val ((hkN P w).dat (tbK T))):=fun T h=>PEd.cast h (by rw [show (hkN P w).dat (tbK T)=D.tup ((tbK T).map tD) from rfl,tbK_D])
 have km:∀ (Fs:List E0) (T:List (List Int)),decide (T∈Fs.map fun e=>e.2.2)=true↔tbK T∈ksF Fs:=fun Fs T=>by
  rw [decide_eq_true_iff]
  constructor
  ·intro h; obtain ⟨x,hx,rfl⟩:=aJ.mp h; exact aJ.mpr ⟨x,hx,rfl⟩
  ·intro h; obtain ⟨x,hx,e⟩:=aJ.mp h; exact aJ.mpr ⟨x,hx,mX e⟩
 have fls:okE p L b Es=false→(.val (.bl false):R)= .val (.bl (duE p L b Es)):=fun h=>by unfold duE; rw [h]; rfl
 refine aF (eA (ds:=L.map (mgD P w K p)) 4 nd rfl (Or.inr rfl) (bK (ds:=[bO p, .lst (L.map skD)]) GM hr rfl (aC (aA 0 rfl (pv 0)) (aC (aA 1 rfl (pv 1)) aG)) ⟨p,L,hp,S,rfl,rfl⟩ trivial rfl) fun l4=>iZ 4 rfl ?_); refine aF (oI (hkN P w) 5 nd rfl (Or.inl rfl) fun l5=> ?_); refine aF (dY (ds:=Es.map e0D) (fun t sd=>okE p L b (Es.take t)=true∧sd=[.val (bO p), .val (.lst (L.map skD)), .val (.int b), .val (.lst (Es.map e0D)), .val (.lst (L.map (mgD P w K p))),oG (hkN P w) K l5 (ksF (Es.take t)) ((Es.take t).map fun e=> .int e.1), .un, .un, .un, .un, .un]) (gE (aA 3 rfl (pv 3))) ⟨_,Le.refl _,rfl,rfl⟩ (fun t d sdt hd ht=> ?_) fun sdn hn=> ?_)
 ·obtain ⟨ok,rfl⟩:=ht; obtain ⟨e,he,rfl,et⟩:=iE hd; have em:=aV he; have el:=Sh.rl e em; have tk:((Es.take t).map fun e=>D.int e.1).length≤1000:=by rw [aB,bH]; omega
  have bad:okE p L b (Es.take (t+1))=false→okE p L b Es=false:=xH; rw [et] at bad ⊢; have sn:=nZ p L b (Es.take t) e; rw [ok,dO] at sn; have kmt:=km (Es.take t) e.2.2
  have e1:ksF (Es.take t++[e])=ksF (Es.take t)++[tbK e.2.2]:=by unfold ksF; rw [aT]; rfl
  have e2:((Es.take t++[e]).map fun e=>D.int e.1)=((Es.take t).map fun e=>D.int e.1)++[.int e.1]:=by rw [aT]; rfl
  rw [e1,e2]; generalize decide (e.2.2∈(Es.take t).map fun e=>e.2.2)=kk at sn kmt; generalize okE p L b (Es.take t++[e])=o2 at bad sn ⊢; generalize ksF (Es.take t)=ks at kmt; generalize (Es.take t).map (fun e=>D.int e.1)=vs at tk; have at2:∀ {sd:List Slot} {p1 p2 p3:Pos} {j1:Nat},sd[6]? =some (.val (e0D e))→PEd (hX CX0 P w K mg base ["_law_size_here","_law_kit_here","_law_bound_here","_law_book","_law_moves_here","_law_known","_law_entry","_law_table_here","_law_price_here","_law_k","_law_behind"] "_law_due" (aW sDu) f cdv A outer s H E).nox sd (.Subscript (.Name "_law_entry" p1) (.Constant (.int 2) j1 p2) p3) (.val (.tup (e.2.2.map aQ))):=fun h=>cV (n:=2) (ds:=[.int e.1,aQ e.2.1, .tup (e.2.2.map aQ)]) (aA 6 h (pv 6)) aO rfl fun _ _=>rfl
  refine ⟨[.val (bO p), .val (.lst (L.map skD)), .val (.int b), .val (.lst (Es.map e0D)), .val (.lst (L.map (mgD P w K p))),oG (hkN P w) K l5 ks vs, .val (e0D e), .un, .un, .un, .un],cU 6 (bL (i:=6) nd rfl (Or.inl rfl)), ?_⟩; refine aF (eX (k:=kk || !vdE p L b e) (PWd.pt (jF (k:=kk) (j:= !vdE p L b e) (ptd_inK (hk:=hkN P w) (kk:=kk) (k:=tbK e.2.2) kmt hu2 (kd _ (at2 rfl)) (vT 5 rfl (pv 5))) fun _=>jT (kH (kA (bK (ds:=[bO p, .lst (L.map skD), .lst (L.map (mgD P w K p)), .int b,e0D e]) GE hr rfl (aC (aA 0 rfl (pv 0)) (aC (aA 1 rfl (pv 1)) (aC (aA 4 rfl (pv 4)) (aC (aA 2 rfl (pv 2)) (aC (aA 6 rfl (pv 6)) aG))))) ⟨p,L,b,e,hp,S,el,rfl,rfl⟩ trivial rfl))))) (fun h=> ?_) fun h=>cB ?_)
  ·refine aS (bG mL trivial (fls (bad ?_))); rw [sn]; cases q:kk with
   | true=>rw [oZ,uT]
   | false=>
    rw [q,iD] at h; have:vdE p L b e=false:=by simpa using h
    rw [this]; rfl
  ·have h1:kk=false∧vdE p L b e=true:=by
    cases q:kk with
    | true=>rw [q] at h; cases h
    | false=>rw [q,iD] at h; exact ⟨rfl,by simpa using h⟩
   rw [h1.1,h1.2] at sn
   have nk:tbK e.2.2∉ks:=fun z=>by have:=kmt.mpr z; rw [h1.1] at this; cases this
   exact aS (oB (hk:=hkN P w) (k:=tbK e.2.2) (d:= .int e.1) 5 hu2 rfl (pv 5) (cV (n:=0) (ds:=[.int e.1,aQ e.2.1, .tup (e.2.2.map aQ)]) (aA 6 rfl (pv 6)) aO rfl fun _ _=>rfl) (kd _ (at2 rfl)) nk tk ⟨[.val (bO p), .val (.lst (L.map skD)), .val (.int b), .val (.lst (Es.map e0D)), .val (.lst (L.map (mgD P w K p))),oG (hkN P w) K l5 (ks++[tbK e.2.2]) (vs++[.int e.1]), .un, .un, .un, .un, .un],⟨.inr rfl, .inr rfl, .inr rfl, .inr rfl, .inr rfl, .inr rfl, .inl rfl, .inr rfl, .inr rfl, .inr rfl, .inr rfl,trivial⟩,sn,rfl⟩)
 ·obtain ⟨ok,rfl⟩:=hn; rw [aB,cY] at ok ⊢; unfold duE; rw [ok,dO]; have O:=vM ok Sh; have nE:=of_decide_eq_true (dJ.mp ok).2; have vE:=bD.mp (dJ.mp ok).1; refine oP 5 rfl ?_
  have ecR:((Es.map e0D).filter fun _=>true).map row43=(Es.map fun e=>e.2.1).map aQ:=by rw [bU.mpr (fun _ _=>rfl),aY,aY]; rfl
  refine aF (eX (k:= !decide ([]∈Es.map fun e=>e.2.1)) (PTd.cast (wZ (d:=aQ []) (ds:=(Es.map fun e=>e.2.1).map aQ) (eQ (ds:=[]) aG (aE rfl)) (PEd.val (PEd.cast (gP (ds:=Es.map e0D) (N:=["_law_price_here","_law_row","_law_table_here"]) (M:=["_law_size_here","_law_kit_here","_law_bound_here","_law_book","_law_moves_here","_law_known","_law_entry","_law_table_here","_law_price_here","_law_k","_law_behind"]) (cap:=[none,none,none]) (sc:=aW sDu) (Tb:=three43) (fun _=>true) row43 (gE (aA 3 rfl (pv 3))) (by rw [aB]; omega) rfl (by decide+kernel) rfl (by decide+kernel) rfl (fun cl C fp s H d hd=> ?_) (fun d hd=> ?_) (fun cl C fp s H d hd=> .inl ⟨rfl,rfl⟩) fun cl C2 fp s H d hd _=> ?_) (by rw [ecR]))) rfl (kM _) (by have:=lG (Es.map fun e=>e.2.1); show (A.deeper (envOfC "_law_due" (aW sDu) s.heap.objs.size f cdv)).units+1+_<cLine; omega)) (by rw [any_tups])) (fun h=> ?_) fun h=>cB ?_)
  ·obtain ⟨x,_,rfl⟩:=aJ.mp hd; exact iO (ds:=[.int x.1,aQ x.2.1, .tup (x.2.2.map aQ)]) (js:=[0,1,2]) rfl (cS (bL (i:=0) nd3 rfl (Or.inl rfl)) (cS (bL (i:=1) nd3 rfl (Or.inl rfl)) (cS (bL (i:=2) nd3 rfl (Or.inl rfl)) iQ))) rfl rfl
  ·obtain ⟨x,_,rfl⟩:=aJ.mp hd; exact ⟨.inl rfl, .inl rfl, .inl rfl,trivial⟩
  ·obtain ⟨x,_,rfl⟩:=aJ.mp hd; exact (aA 1 rfl (pv 1))
  ·have:decide ([]∈Es.map fun e=>e.2.1)=false:=by simpa using h
   rw [this]; exact aS (bG mL trivial rfl)
  have:decide ([]∈Es.map fun e=>e.2.1)=true:=by simpa using h
  rw [this,dO]; have clD:clT p L b Es=Es.all fun e=>(bJ L.length).all fun k=>qC p L b Es e k:=rfl
  have clF:∀e∈Es,∀k,k<L.length→qC p L b Es e k=false→clT p L b Es=false:=fun e he k hk h=>iI.mpr fun z=>by rw [clD] at z; have:=bD.mp (bD.mp z e he) k (bY.mpr hk); rw [h] at this; cases this
  have ei:(((ksF Es).zip (Es.map fun e=>D.int e.1)).map fun p=>D.tup [(hkN P w).dat p.1,p.2])=Es.map itD43:=by
   unfold ksF; rw [List.zip_map',aY]; refine bI fun e _=> ?_
   show D.tup [(hkN P w).dat (tbK e.2.2), .int e.1]=D.tup [.tup (e.2.2.map aQ), .int e.1]; rw [show (hkN P w).dat (tbK e.2.2)=D.tup ((tbK e.2.2).map tD) from rfl,tbK_D]
  refine uZ (sd':=[.val (bO p), .val (.lst (L.map skD)), .val (.int b), .val (.lst (Es.map e0D)), .val (.lst (L.map (mgD P w K p))), .val (gD (hkN P w) K (ksF Es) (Es.map fun e=> .int e.1)), .un, .un, .un, .un, .un]) ⟨.inr rfl, .inr rfl, .inr rfl, .inr rfl, .inr rfl, .inr rfl, .inr rfl, .inr rfl, .inr rfl, .inr rfl, .inr rfl,trivial⟩ ?_
  have hit:∀ {elts:List Expr} {kk:Nat} {tp p1 ap cp:Pos},(ap.endLine==cp.line)=true→PId (hX CX0 P w K mg base ["_law_size_here","_law_kit_here","_law_bound_here","_law_book","_law_moves_here","_law_known","_law_entry","_law_table_here","_law_price_here","_law_k","_law_behind"] "_law_due" (aW sDu) f cdv A outer s H E).nox [.val (bO p), .val (.lst (L.map skD)), .val (.int b), .val (.lst (Es.map e0D)), .val (.lst (L.map (mgD P w K p))), .val (gD (hkN P w) K (ksF Es) (Es.map fun e=> .int e.1)), .un, .un, .un, .un, .un] PT0 (.Tuple elts kk tp) (.Call (.Attribute (.Name "_law_known" p1) "items" ap) [] [] cp) (Es.map itD43):=fun {_ _ _ p1 _ _} hl=>by rw [← ei]; have v4:PEd (hX CX0 P w K mg base ["_law_size_here","_law_kit_here","_law_bound_here","_law_book","_law_moves_here","_law_known","_law_entry","_law_table_here","_law_price_here","_law_k","_law_behind"] "_law_due" (aW sDu) f cdv A outer s H E).nox [.val (bO p), .val (.lst (L.map skD)), .val (.int b), .val (.lst (Es.map e0D)), .val (.lst (L.map (mgD P w K p))), .val (gD (hkN P w) K (ksF Es) (Es.map fun e=> .int e.1)), .un, .un, .un, .un, .un] (.Name "_law_known" p1) (.val (gD (hkN P w) K (ksF Es) (Es.map fun e=> .int e.1))):=(aA 5 rfl (pv 5)); exact sA (X:=(hX CX0 P w K mg base ["_law_size_here","_law_kit_here","_law_bound_here","_law_book","_law_moves_here","_law_known","_law_entry","_law_table_here","_law_price_here","_law_k","_law_behind"] "_law_due" (aW sDu) f cdv A outer s H E).nox) (hk:=hkN P w) v4 rfl hl
  refine aF (dY (ds:=Es.map itD43) (fun t sd=>(∀j e,j<t→Es[j]? =some e→∀k,k<L.length→qC p L b Es e k=true)∧sd=[.val (bO p), .val (.lst (L.map skD)), .val (.int b), .val (.lst (Es.map e0D)), .val (.lst (L.map (mgD P w K p))), .val (gD (hkN P w) K (ksF Es) (Es.map fun e=> .int e.1)), .un, .un, .un, .un, .un]) (hit rfl) ⟨_,Le.refl _,fun j e hj=>by omega,rfl⟩ (fun t d sdt hd ht=> ?_) fun sdn hn=> ?_)
  ·obtain ⟨hg,rfl⟩:=ht; obtain ⟨e,he,rfl,_⟩:=iE hd; have em:=aV he; have v:=vE e em; unfold vdE prE at v; rw [aP,decide_eq_true_iff] at v; obtain ⟨v1,v4⟩:=v; have ro:=(nV (dJ.mp v1).1).1; have tl:e.2.2.length≤64:=by rw [v4]; exact pP hp S ro
   have ti:∀ws∈e.2.2,ws∈cP p:=by rw [v4]; exact oH hp S ro
   clear v1 v4 hd; refine ⟨[.val (bO p), .val (.lst (L.map skD)), .val (.int b), .val (.lst (Es.map e0D)), .val (.lst (L.map (mgD P w K p))), .val (gD (hkN P w) K (ksF Es) (Es.map fun e=> .int e.1)), .un, .val (.tup (e.2.2.map aQ)), .val (.int e.1), .un, .un],iO (ds:=[.tup (e.2.2.map aQ), .int e.1]) (js:=[7,8]) rfl (cS (bL (i:=7) nd rfl (Or.inl rfl)) (cS (bL (i:=8) nd rfl (Or.inl rfl)) iQ)) rfl rfl, ?_⟩; refine aS (dY (ds:=hR 0 L.length) (fun m sd=>(∀k,k<m→qC p L b Es e k=true)∧sd=[.val (bO p), .val (.lst (L.map skD)), .val (.int b), .val (.lst (Es.map e0D)), .val (.lst (L.map (mgD P w K p))), .val (gD (hkN P w) K (ksF Es) (Es.map fun e=> .int e.1)), .un, .val (.tup (e.2.2.map aQ)), .val (.int e.1), .un, .un]) (iJ (n:=L.length) rfl zrange (PEd.ic (kG rfl zlen (PEd.bor (aA 1 rfl (pv 1)))) (by rw [aB])) (by omega)) ⟨_,Le.refl _,fun k hk=>by omega,rfl⟩ (fun m d sdm hd hm=> ?_) fun sdn hn=> ?_)
   ·obtain ⟨hg2,rfl⟩:=hm; obtain ⟨ml,rfl⟩:=iF hd; rw [qI]; have sk1:(L.map skD)[m]? =some (skD (L.getD m default)):=tE ml
    have mv1:(L.map (mgD P w K p))[m]? =some (mgD P w K p (L.getD m default)):=by rw [aI]; simp [cC,ml]
    have c1:qC p L b Es e m=(!decide (e.1+prK L m≤b) || Es.any fun x=>decide (x.2.2=eO p L m e.2.2) && decide (x.1≤e.1+prK L m)):=rfl; have eB:eO p L m e.2.2=e.2.2.map (onQ p (L.getD m default).1):=rfl; have eP:prK L m=(L.getD m default).2:=rfl; rw [eB] at c1
    have nx:qC p L b Es e m=true→∀k,k<m+1→qC p L b Es e k=true:=fun h k hk=>by
     by_cases q:k<m
     ·exact hg2 k q
     ·have:k=m:=by omega
      subst this; exact h
    have cf:=clF e em m ml; generalize qC p L b Es e m=cb at c1 nx cf; generalize L.getD m default=sk at sk1 mv1 eP c1; refine ⟨[.val (bO p), .val (.lst (L.map skD)), .val (.int b), .val (.lst (Es.map e0D)), .val (.lst (L.map (mgD P w K p))), .val (gD (hkN P w) K (ksF Es) (Es.map fun e=> .int e.1)), .un, .val (.tup (e.2.2.map aQ)), .val (.int e.1), .val (.int (m:Int)), .un],cU 9 (bL (i:=9) nd rfl (Or.inr rfl)), ?_⟩; have sum:∀ {sd:List Slot} {p1 p4 p5 p6 p7 p8 p9:Pos} {j2:Nat},sd[8]? =some (.val (.int e.1))→sd[1]? =some (.val (.lst (L.map skD)))→sd[9]? =some (.val (.int (m:Int)))→PEd (hX CX0 P w K mg base ["_law_size_here","_law_kit_here","_law_bound_here","_law_book","_law_moves_here","_law_known","_law_entry","_law_table_here","_law_price_here","_law_k","_law_behind"] "_law_due" (aW sDu) f cdv A outer s H E).nox sd (.BinOp (.Name "_law_price_here" p1) .Add (.Subscript (.Subscript (.Name "_law_kit_here" p4) (.Name "_law_k" p5) p6) (.Constant (.int 1) j2 p7) p8) p9) (.val (.int (e.1+prK L m))):=fun h1 h2 h3=>PEd.ic (dX fO (aA 8 h1 (pv 8)) (cV (n:=1) (ds:=[sqD sk.1, .int sk.2]) (d:= .int sk.2) (iT (n:=m) (PEd.bor (aA 1 h2 (pv 1))) (aA 9 h3 (pv 9)) sk1 fun _ _=>rfl) aO rfl fun _ _=>rfl)) (by rw [eP])
    refine aS (eX (k:=decide (e.1+prK L m≤b)) (nC uB (sum rfl rfl rfl) (aA 2 rfl (pv 2)) (gS _)) (fun h=> ?_) fun h=>cB ⟨[.val (bO p), .val (.lst (L.map skD)), .val (.int b), .val (.lst (Es.map e0D)), .val (.lst (L.map (mgD P w K p))), .val (gD (hkN P w) K (ksF Es) (Es.map fun e=> .int e.1)), .un, .val (.tup (e.2.2.map aQ)), .val (.int e.1), .un, .un],⟨.inr rfl, .inr rfl, .inr rfl, .inr rfl, .inr rfl, .inr rfl, .inr rfl, .inr rfl, .inr rfl, .inl rfl, .inr rfl,trivial⟩,nx (by rw [c1,h]; rfl),rfl⟩); rw [h,oZ,iD] at c1
    have ec:((e.2.2.map aQ).filter fun _=>true).map (fun d=>aQ (onQ p sk.1 (iU d)))=(e.2.2.map (onQ p sk.1)).map aQ:=by
     rw [bU.mpr (fun _ _=>rfl),aY,aY]; refine bI fun ws _=> ?_
     show aQ (onQ p sk.1 (iU (aQ ws)))=_; rw [gK]; rfl
    refine aF (bV (d:= .tup ((e.2.2.map (onQ p sk.1)).map aQ)) 10 nd rfl (Or.inl rfl) (iK rfl ztuple (PEd.bor (PEd.val (PEd.cast (gP (ds:=e.2.2.map aQ) (N:=["_law_filling","_law_moves_here","_law_k"]) (M:=["_law_size_here","_law_kit_here","_law_bound_here","_law_book","_law_moves_here","_law_known","_law_entry","_law_table_here","_law_price_here","_law_k","_law_behind"]) (cap:=[none,some 4,some 9]) (sc:=aW sDu) (Tb:=fun d=>[.val d, .val (.lst (L.map (mgD P w K p))), .val (.int (m:Int))]) (fun _=>true) (fun d=>aQ (onQ p sk.1 (iU d))) (iM (aA 7 rfl (pv 7))) (by rw [aB]; omega) rfl (by decide+kernel) rfl (by decide+kernel) rfl (fun cl C fp s H d hd=>cU 0 (bL (i:=0) nd2 rfl (Or.inl rfl))) (fun d hd=>⟨.inl rfl, .inr rfl, .inr rfl,trivial⟩) (fun cl C fp s H d hd=> .inl ⟨rfl,rfl⟩) fun cl C2 fp s H d hd _=> ?_) (by rw [ec]))))) ?_)
    ·obtain ⟨ws,hw,rfl⟩:=mY hd; obtain ⟨i,hi⟩:=cH (ti ws hw); rw [gK]; exact lZ (hk:=hkT P w) (k:=inK ws) (n:=i) (d:=aQ (onQ p sk.1 ws)) hu2 (jI (iT (n:=m) (PEd.bor (aA 1 rfl (pv 1))) (aA 2 rfl (pv 2)) mv1 fun _ _=>rfl)) (PEd.cast (aA 0 rfl (pv 0)) (by rw [show (hkT P w).dat (inK ws)=tD (inK ws) from rfl,tV])) (by rw [aI,hi]; rfl) (by rw [aI,hi]; rfl) fun _ _=>rfl
    generalize e.2.2.map (onQ p sk.1)=bh at c1; have kmb:=km Es bh
    by_cases hm2:bh∈Es.map fun e=>e.2.2
    ·obtain ⟨x,hx,ex⟩:=aJ.mp hm2; obtain ⟨n',hn'⟩:=cH hx
     have ca:(Es.any fun x=>decide (x.2.2=bh) && decide (x.1≤e.1+prK L m))=decide (x.1≤e.1+prK L m):=by
      apply dM.mpr; rw [cX,decide_eq_true_iff]
      constructor
      ·rintro ⟨y,hy,h⟩; rw [aP,decide_eq_true_iff,decide_eq_true_iff] at h; obtain ⟨i,hi,ei'⟩:=cN hx; obtain ⟨j,hj,ej⟩:=cN hy; have:i=j:=(gF (i:=i) (j:=j) (h₀:=by rw [aB]; exact hi) (h₁:=by rw [aB]; exact hj) nE).mp (by rw [dR,dR,ei',ej,h.1,ex]); subst this; rw [← ei',ej]; exact h.2
      ·exact fun h=>⟨x,hx,by rw [decide_eq_true ex,decide_eq_true h]; rfl⟩
     rw [ca] at c1; refine aS (eX (k:=decide (e.1+prK L m<x.1)) (PWd.pt (PWd.cast (jF (k:=false) (j:=decide (e.1+prK L m<x.1)) (PTd.cast (rZ (hk:=hkN P w) (kk:=true) (k:=tbK bh) ⟨fun _=>kmb.mp (decide_eq_true hm2),fun _=>rfl⟩ hu2 (kd _ (aA 10 rfl (pv 10))) (jI (aA 5 rfl (pv 5)))) rfl) fun _=>jT (nC (g:=fun i j=>decide (j<i)) op_gt (lZ (hk:=hkN P w) (k:=tbK bh) (n:=n') (d:= .int x.1) (ks:=ksF Es) (ds:=Es.map fun e=> .int e.1) hu2 (jI (aA 5 rfl (pv 5))) (kd _ (aA 10 rfl (pv 10))) (by unfold ksF; rw [aI,hn']; show some (tbK x.2.2)=_; rw [ex]) (by rw [aI,hn']; rfl) fun _ _=>rfl) (sum rfl rfl rfl) (gS _))) (by rw [iD]))) (fun h=> ?_) fun h=>cB ⟨[.val (bO p), .val (.lst (L.map skD)), .val (.int b), .val (.lst (Es.map e0D)), .val (.lst (L.map (mgD P w K p))), .val (gD (hkN P w) K (ksF Es) (Es.map fun e=> .int e.1)), .un, .val (.tup (e.2.2.map aQ)), .val (.int e.1), .un, .un],⟨.inr rfl, .inr rfl, .inr rfl, .inr rfl, .inr rfl, .inr rfl, .inr rfl, .inr rfl, .inr rfl, .inl rfl, .inl rfl,trivial⟩,nx (by rw [c1]; exact decide_eq_true (by have:=of_decide_eq_false h; omega)),rfl⟩); rw [cf (by rw [c1]; exact decide_eq_false (by have:=of_decide_eq_true h; omega))]; exact aS (bG mL trivial rfl)
    ·have ca:(Es.any fun x=>decide (x.2.2=bh) && decide (x.1≤e.1+prK L m))=false:=iI.mpr fun z=>by obtain ⟨y,hy,h⟩:=cX.mp z; rw [aP,decide_eq_true_iff] at h; exact hm2 (aJ.mpr ⟨y,hy,h.1⟩)
     rw [ca] at c1; refine aS (hV (k:=true) (PWd.pt (jF (k:=true) (j:=true) (PTd.cast (rZ (hk:=hkN P w) (kk:=false) (k:=tbK bh) ⟨fun z=>(nomatch z),fun z=>absurd (of_decide_eq_true (kmb.mpr z)) hm2⟩ hu2 (kd _ (aA 10 rfl (pv 10))) (jI (aA 5 rfl (pv 5)))) rfl) fun h=>by cases h)) rfl ?_); rw [cf c1]; exact aS (bG mL trivial rfl)
   ·obtain ⟨hg2,rfl⟩:=hn; rw [gC] at hg2; refine ⟨[.val (bO p), .val (.lst (L.map skD)), .val (.int b), .val (.lst (Es.map e0D)), .val (.lst (L.map (mgD P w K p))), .val (gD (hkN P w) K (ksF Es) (Es.map fun e=> .int e.1)), .un, .un, .un, .un, .un],⟨.inr rfl, .inr rfl, .inr rfl, .inr rfl, .inr rfl, .inr rfl, .inr rfl, .inl rfl, .inl rfl, .inr rfl, .inr rfl,trivial⟩,fun j e' hj he'=> ?_,rfl⟩
    by_cases q:j<t
    ·exact hg j e' q he'
    ·have:j=t:=by omega
     subst this; rw [he] at he'; cases he'; exact hg2
  ·obtain ⟨hg,rfl⟩:=hn; rw [aB] at hg
   have:clT p L b Es=true:=by rw [clD,bD]; intro e he; rw [bD]; intro k hk; obtain ⟨j,hj⟩:=cH he; exact hg j e (aH.mp hj).1 hj k (bY.mp hk)
   rw [this]; exact aS (bG mL trivial rfl)
theorem zI (F:Fun K "_law_right" "_law_right" sRi f fd) (zlist:mg "list"=none) (zisinstance:mg "isinstance"=none) (zbool:mg "bool"=none) (hm:mg "_law_right"=some (.ref f)) (GH:bC P w K mg base "holds" 6 4 sR) (GD:bC P w K mg base "_law_due" 4 4 CDu43):bC P w K mg base "_law_right" 7 4 CRt43:=by
 have nd:(["_law_size_here","_law_kit_here","_law_bound_here","_law_book","_law_handed","_law_found_here"]:List Str).Nodup:=by decide+kernel
 refine dD (N:=["_law_size_here","_law_kit_here","_law_bound_here","_law_book","_law_handed","_law_found_here"]) (ps:=["_law_size_here","_law_kit_here","_law_bound_here","_law_book"]) (k:=6) F ⟨rfl,rfl,rfl,nd,rfl,by decide+kernel,by decide+kernel⟩ hm (fun _ _ _ _ _ _ us hl=>match us,hl with | [_,_,_,_],_=>rfl) fun cdv A outer s H E hr ds r hl c=> ?_
 obtain ⟨p,L,b,Es,hp,S,dn,Sh,h0,rfl,rfl⟩:=c; have hr4:=hr.mono (show 4≤6 by decide); have hu:(A.deeper (envOfC "_law_right" (aW sRi) s.heap.objs.size f cdv)).units+6<cLine:=by have:=hr.un; omega
 obtain ⟨p1,d1⟩:=pls_sk L; obtain ⟨p2,d2⟩:=pls_e0 Es
 have pp:pl (.lst [.lst (L.map skD), .lst (Es.map e0D)])=true:=by show (plL (L.map skD) && (plL (Es.map e0D) && true))=true; rw [p1,p2]; rfl
 refine aF (eA (ds:=[.lst (L.map skD), .lst (Es.map e0D)]) 4 nd rfl (Or.inl rfl) (fJ (ds:=[.lst (L.map skD), .lst (Es.map e0D)]) (aC (PEd.val (rS rfl zlist (PEd.bor (aA 1 rfl (pv 1))))) (aC (PEd.val (rS rfl zlist (PEd.bor (aA 3 rfl (pv 3))))) aG)) (aE rfl)) fun l4=>iZ 4 rfl ?_); refine aF (bV (d:= .bl (hoE p L b Es)) 5 nd rfl (Or.inl rfl) (bK (ds:=[bO p, .lst (L.map skD), .int b, .lst (Es.map e0D)]) GH hr rfl (aC (aA 0 rfl (pv 0)) (aC (iT (n:=0) (ds:=[.lst (L.map skD), .lst (Es.map e0D)]) (PEd.bor (aA 4 rfl (pv 4))) aO rfl fun _ _=>rfl) (aC (aA 2 rfl (pv 2)) (aC (iT (n:=1) (ds:=[.lst (L.map skD), .lst (Es.map e0D)]) (PEd.bor (aA 4 rfl (pv 4))) aO rfl fun _ _=>rfl) aG)))) ⟨p,L,b,Es,hp,S,dn,Sh,h0,rfl,rfl⟩ trivial rfl) ?_); refine aF (fG (k:=false) (PWd.pt (jF (k:=false) (j:=false) (kH (k:=true) (kA (PEd.cast (vV rfl zisinstance rfl zbool PyProof.Rows.boot_bool (aA 5 rfl (pv 5)) (fun _=>by simp) (wV _ (.bl (hoE p L b Es)))) rfl))) fun _=>jT (PTd.cast (ptd_neD (ra:= .val (.lst [.lst (L.map skD), .lst (Es.map e0D)])) (rb:= .val (.lst [.lst (L.map skD), .lst (Es.map e0D)])) (aA 4 rfl (pv 4)) (PEd.val (fJ (ds:=[.lst (L.map skD), .lst (Es.map e0D)]) (aC (aA 1 rfl (pv 1)) (aC (aA 3 rfl (pv 3)) aG)) (aE rfl))) trivial trivial (.inr ⟨rfl,rfl⟩) pp pp (u_of' hu (by show max (jO (L.map skD)+1) (max (jO (Es.map e0D)+1) 0)+1+1≤6; omega))) (by show (!jE _ _)=false; rw [nG _ (show plL [.lst (L.map skD), .lst (Es.map e0D)]=true from pp)]; rfl)))) rfl (cB ?_)); exact aS (bG (pd_eqS (d1:= .bl (hoE p L b Es)) (d2:= .bl (duE p L b Es)) (aA 5 rfl (pv 5)) (bK (ds:=[bO p, .lst (L.map skD), .int b, .lst (Es.map e0D)]) GD hr4 rfl (aC (aA 0 rfl (pv 0)) (aC (aA 1 rfl (pv 1)) (aC (aA 2 rfl (pv 2)) (aC (aA 3 rfl (pv 3)) aG)))) ⟨p,L,b,Es,hp,S,Sh,rfl,rfl⟩ trivial rfl) rfl rfl rfl (by rw [ho_du hp S Sh]; exact decide_eq_true rfl)) trivial rfl)
theorem ok_sp43 (F:Fun K "_law_spoiled" "_law_spoiled" sSp f fd) (zlen:mg "len"=none) (ztuple:mg "tuple"=none) (hm:mg "_law_spoiled"=some (.ref f)) (GX:bC P w K mg base "_law_mixed" 1 2 CMx) (GM:bC P w K mg base "_law_moves" 3 2 (CLMv P w K)):bC P w K mg base "_law_spoiled" 4 5 CSp43:=by
 have nd:(["_law_size_here","_law_kit_here","_law_bound_here","_law_book","_law_cell","_law_way","_law_at","_law_price_here","_law_row","_law_table_here","_law_other","_law_number","_law_some","_law_moves_here","_law_behind","_law_spot","_law_box","_law_word_here","_law_bent"]:List Str).Nodup:=by decide+kernel
 have nd2:(["_law_filling","_law_moves_here","_law_number"]:List Str).Nodup:=by decide+kernel
 refine dD (N:=["_law_size_here","_law_kit_here","_law_bound_here","_law_book","_law_cell","_law_way","_law_at","_law_price_here","_law_row","_law_table_here","_law_other","_law_number","_law_some","_law_moves_here","_law_behind","_law_spot","_law_box","_law_word_here","_law_bent"]) (ps:=["_law_size_here","_law_kit_here","_law_bound_here","_law_book","_law_cell"]) (k:=3) F ⟨rfl,rfl,rfl,nd,rfl,by decide+kernel,by decide+kernel⟩ hm (fun _ _ _ _ _ _ us hl=>match us,hl with | [_,_,_,_,_],_=>rfl) fun cdv A outer s H E hr ds r hl c=> ?_
 obtain ⟨p,L,b,Es,c,hp,S,O,rfl,rfl⟩:=c; have hr1:=hr.mono (show 1≤3 by decide); have hu2:(A.deeper (envOfC "_law_spoiled" (aW sSp) s.heap.objs.size f cdv)).units+2<cLine:=by have:=hr.un; omega
 have f9:(cP p).length≤64:=kU hp; have l8:=S.le; have lp:=S.pos; have l4:=O.len; have epos:=kS.mpr O.ne; obtain ⟨s1,s2,s3,s4,s5⟩:=qF p hp; have p20:(0:Int)<p.2:=by omega
 have em:=oJ O 51 c; have om:=oJ O 52 c; have mx:∀ {sd:List Slot} {p1 p2 p3 p4:Pos} {j1:Nat} (k:Nat),k≤400→sd[4]? =some (.val (.int c))→PEd (hX CX0 P w K mg base ["_law_size_here","_law_kit_here","_law_bound_here","_law_book","_law_cell","_law_way","_law_at","_law_price_here","_law_row","_law_table_here","_law_other","_law_number","_law_some","_law_moves_here","_law_behind","_law_spot","_law_box","_law_word_here","_law_bent"] "_law_spoiled" (aW sSp) f cdv A outer s H E).nox sd (.Call (.Name "_law_mixed" p1) [.Name "_law_cell" p2, .Constant (.int (k:Int)) j1 p3] [] p4) (.val (.int (mxS c k))):=fun k hk hs=>bK (ds:=[.int c, .int (k:Int)]) GX hr1 rfl (aC (aA 4 hs (pv 4)) (aC aO aG)) ⟨c,k,rfl,hk,rfl⟩ trivial rfl
 have bl:∀ {sd:List Slot} {p1 p2 p3:Pos},sd[3]? =some (.val (.lst (Es.map e0D)))→PEd (hX CX0 P w K mg base ["_law_size_here","_law_kit_here","_law_bound_here","_law_book","_law_cell","_law_way","_law_at","_law_price_here","_law_row","_law_table_here","_law_other","_law_number","_law_some","_law_moves_here","_law_behind","_law_spot","_law_box","_law_word_here","_law_bent"] "_law_spoiled" (aW sSp) f cdv A outer s H E).nox sd (.Call (.Name "len" p1) [.Name "_law_book" p2] [] p3) (.val (.int (Es.length:Int))):=fun h=>PEd.ic (kG rfl zlen (PEd.bor (aA 3 h (pv 3)))) (by rw [aB])
 have kl:∀ {sd:List Slot} {p1 p2 p3:Pos},sd[1]? =some (.val (.lst (L.map skD)))→PEd (hX CX0 P w K mg base ["_law_size_here","_law_kit_here","_law_bound_here","_law_book","_law_cell","_law_way","_law_at","_law_price_here","_law_row","_law_table_here","_law_other","_law_number","_law_some","_law_moves_here","_law_behind","_law_spot","_law_box","_law_word_here","_law_bent"] "_law_spoiled" (aW sSp) f cdv A outer s H E).nox sd (.Call (.Name "len" p1) [.Name "_law_kit_here" p2] [] p3) (.val (.int (L.length:Int))):=fun h=>PEd.ic (kG rfl zlen (PEd.bor (aA 1 h (pv 1)))) (by rw [aB])
 obtain ⟨a1,a0⟩:=fR (mxS c 51) epos; obtain ⟨o1,o0⟩:=fR (mxS c 52) epos; obtain ⟨n1,n0⟩:=fR (mxS c 53) lp; have w0:=cM (mxS c 50) (show (16:Int)≠0 by decide); have w1:=bR (mxS c 50) (show (0:Int)<16 by decide); have eS:sp43 p L Es c=if mxS c 50%16=0 then Es.take (mxS c 51%(Es.length:Int)).toNat++Es.drop ((mxS c 51%(Es.length:Int)).toNat+1) else if mxS c 50%16=1 then Es++[e43 Es 51 c] else Es.take (mxS c 51%(Es.length:Int)).toNat++[(vR p L c (e43 Es 51 c) (e43 Es 52 c)).getD (mxS c 50%16 - 2).toNat default]++Es.drop ((mxS c 51%(Es.length:Int)).toNat+1):=rfl
 have ga:(Es.map e0D)[(mxS c 51%(Es.length:Int)).toNat]? =some (e0D (e43 Es 51 c)):=by unfold e43; rw [aI]; simp [cC,a1]
 have go:(Es.map e0D)[(mxS c 52%(Es.length:Int)).toNat]? =some (e0D (e43 Es 52 c)):=by unfold e43; rw [aI]; simp [cC,o1]
 rw [eS]; refine aF (bV (d:= .int (mxS c 50%16)) 5 nd rfl (Or.inl rfl) (cD dL (mx 50 (by decide) rfl) aO (by decide)) ?_); refine aF (bV (d:= .int (((mxS c 51%(Es.length:Int)).toNat:Nat):Int)) 6 nd rfl (Or.inl rfl) (PEd.ic (cD dL (mx 51 (by decide) rfl) (bl rfl) (by omega)) (by omega)) ?_); generalize (mxS c 51%(Es.length:Int)).toNat=at0 at a1 ga; have rle:=O.rl _ em; have tle:=O.tl _ em; have tie:=O.ti _ em; have rlo:=O.rl _ om; have tlo:=O.tl _ om; generalize e43 Es 51 c=e at ga rle tle tie; generalize e43 Es 52 c=o at go rlo tlo; refine aF (vK (d:=e0D e) (sd':=[.val (bO p), .val (.lst (L.map skD)), .val (.int b), .val (.lst (Es.map e0D)), .val (.int c), .val (.int (mxS c 50%16)), .val (.int (at0:Int)), .val (.int e.1), .val (aQ e.2.1), .val (.tup (e.2.2.map aQ)), .un, .un, .un, .un, .un, .un, .un, .un, .un]) (iT (n:=at0) (PEd.bor (aA 3 rfl (pv 3))) (aA 6 rfl (pv 6)) ga fun _ _=>rfl) (iO (ds:=[.int e.1,aQ e.2.1, .tup (e.2.2.map aQ)]) (js:=[7,8,9]) rfl (cS (bL (i:=7) nd rfl (Or.inl rfl)) (cS (bL (i:=8) nd rfl (Or.inl rfl)) (cS (bL (i:=9) nd rfl (Or.inl rfl)) iQ))) rfl rfl) ?_); refine aF (bV (d:=e0D o) 10 nd rfl (Or.inl rfl) (kB (i:=mxS c 52%(Es.length:Int)) (PEd.bor (aA 3 rfl (pv 3))) (cD dL (mx 52 (by decide) rfl) (bl rfl) (by omega)) o0 go fun _ _=>rfl) ?_); have nE:((eY L c:Nat):Int)=mxS c 53%(L.length:Int):=by unfold eY; omega
 have nl:eY L c<L.length:=n1; refine aF (bV (d:= .int ((eY L c:Nat):Int)) 11 nd rfl (Or.inr rfl) (PEd.ic (cD dL (mx 53 (by decide) rfl) (kl rfl) (by omega)) nE.symm) ?_); have tk:∀ {sd:List Slot} {p1 p2 p3 p4:Pos},sd[3]? =some (.val (.lst (Es.map e0D)))→sd[6]? =some (.val (.int (at0:Int)))→PEd (hX CX0 P w K mg base ["_law_size_here","_law_kit_here","_law_bound_here","_law_book","_law_cell","_law_way","_law_at","_law_price_here","_law_row","_law_table_here","_law_other","_law_number","_law_some","_law_moves_here","_law_behind","_law_spot","_law_box","_law_word_here","_law_bent"] "_law_spoiled" (aW sSp) f cdv A outer s H E).nox sd (.Subscript (.Name "_law_book" p1) (.Slice none (some (.Name "_law_at" p2)) none p3) p4) (.own ((Es.take at0).map e0D)):=fun h3 h6=>PEd.cast (pd_slL (ol:=none) (oh:=some (at0:Int)) (PEd.bor (aA 3 h3 (pv 3))) trivial (aA 6 h6 (pv 6))) (by rw [uP,gQ])
 have dp:∀ {sd:List Slot} {p1 p2 p3 p4 p5 p6:Pos} {j1:Nat},sd[3]? =some (.val (.lst (Es.map e0D)))→sd[6]? =some (.val (.int (at0:Int)))→PEd (hX CX0 P w K mg base ["_law_size_here","_law_kit_here","_law_bound_here","_law_book","_law_cell","_law_way","_law_at","_law_price_here","_law_row","_law_table_here","_law_other","_law_number","_law_some","_law_moves_here","_law_behind","_law_spot","_law_box","_law_word_here","_law_bent"] "_law_spoiled" (aW sSp) f cdv A outer s H E).nox sd (.Subscript (.Name "_law_book" p1) (.Slice (some (.BinOp (.Name "_law_at" p2) .Add (.Constant (.int 1) j1 p5) p6)) none none p3) p4) (.own ((Es.drop (at0+1)).map e0D)):=fun h3 h6=>PEd.cast (pd_slL (ol:=some ((at0+1:Nat):Int)) (oh:=none) (PEd.bor (aA 3 h3 (pv 3))) (PEd.ic (dX fO (aA 6 h6 (pv 6)) aO) (by omega)) trivial) (by rw [tU,iC])
 have lt1:((Es.take at0).map e0D).length≤400:=by rw [aB,bH]; omega
 have ld1:((Es.drop (at0+1)).map e0D).length≤400:=by rw [aB,cQ]; omega
 show PSd _ [.val (bO p), .val (.lst (L.map skD)), .val (.int b), .val (.lst (Es.map e0D)), .val (.int c), .val (.int (mxS c 50%16)), .val (.int (at0:Int)), .val (.int e.1), .val (aQ e.2.1), .val (.tup (e.2.2.map aQ)), .val (e0D o), .val (.int ((eY L c:Nat):Int)), .un, .un, .un, .un, .un, .un, .un] _ _; refine aF (eX (k:=decide (mxS c 50%16=0)) (oS (aA 5 rfl (pv 5)) aO) (fun h=> ?_) fun h=>cB ?_)
 ·rw [if_pos (of_decide_eq_true h),aT]; exact aS (bG (lX (PEd.bor (PEd.val (tk rfl rfl))) (PEd.bor (PEd.val (dp rfl rfl))) (by omega)) trivial rfl)
 rw [if_neg (of_decide_eq_false h)]; have h0:=of_decide_eq_false h; refine aF (eX (k:=decide (mxS c 50%16=1)) (oS (aA 5 rfl (pv 5)) aO) (fun h=> ?_) fun h=>cB ?_)
 ·rw [if_pos (of_decide_eq_true h),aT]; exact aS (bG (lX (PEd.bor (aA 3 rfl (pv 3))) (PEd.bor (PEd.val (fJ (ds:=[e0D e]) (aC (iT (n:=at0) (PEd.bor (aA 3 rfl (pv 3))) (aA 6 rfl (pv 6)) ga fun _ _=>rfl) aG) (aE rfl)))) (by rw [aB]; show _+1≤1000; omega)) trivial rfl)
 rw [if_neg (of_decide_eq_false h)]; have h1:=of_decide_eq_false h; have en:∀ (z:Int) (r:List Int) (T:List (List Int)) {X:Cx} {sd:List Slot} {a1 a2 a3:Expr} {tp:Pos} {x1:Nat},PAd X sd [a1,a2,a3] ([D.int z,aQ r,D.tup (T.map aQ)].map R.val)→PEd X sd (.Tuple [a1,a2,a3] x1 tp) (.val (e0D (z,r,T))):=fun z r T {_ _ _ _ _ _ _} h=>eQ (ds:=[.int z,aQ r, .tup (T.map aQ)]) h (aE rfl)
 have sk1:(L.map skD)[eY L c]? =some (skD (L.getD (eY L c) default)):=tE nl
 have mv1:(L.map (mgD P w K p))[eY L c]? =some (mgD P w K p (L.getD (eY L c) default)):=by rw [aI]; simp [cC,nl]
 have eP:prK L (eY L c)=(L.getD (eY L c) default).2:=rfl; have more:∀ {sd:List Slot} {p1 p4 p5 p6 p7 p8 p9:Pos} {j2:Nat},sd[7]? =some (.val (.int e.1))→sd[1]? =some (.val (.lst (L.map skD)))→sd[11]? =some (.val (.int ((eY L c:Nat):Int)))→PEd (hX CX0 P w K mg base ["_law_size_here","_law_kit_here","_law_bound_here","_law_book","_law_cell","_law_way","_law_at","_law_price_here","_law_row","_law_table_here","_law_other","_law_number","_law_some","_law_moves_here","_law_behind","_law_spot","_law_box","_law_word_here","_law_bent"] "_law_spoiled" (aW sSp) f cdv A outer s H E).nox sd (.BinOp (.Name "_law_price_here" p1) .Add (.Subscript (.Subscript (.Name "_law_kit_here" p4) (.Name "_law_number" p5) p6) (.Constant (.int 1) j2 p7) p8) p9) (.val (.int (e.1+prK L (eY L c)))):=fun h1 h2 h3=>PEd.ic (dX fO (aA 7 h1 (pv 7)) (cV (n:=1) (ds:=[sqD (L.getD (eY L c) default).1, .int (L.getD (eY L c) default).2]) (d:= .int (L.getD (eY L c) default).2) (iT (n:=eY L c) (PEd.bor (aA 1 h2 (pv 1))) (aA 11 h3 (pv 11)) sk1 fun _ _=>rfl) aO rfl fun _ _=>rfl)) (by rw [eP])
 have rowL:∀ (z:Int) {sd:List Slot} {g:Expr} {p1 p3 p4:Pos} {x1:Nat},sd[8]? =some (.val (aQ e.2.1))→PAd (hX CX0 P w K mg base ["_law_size_here","_law_kit_here","_law_bound_here","_law_book","_law_cell","_law_way","_law_at","_law_price_here","_law_row","_law_table_here","_law_other","_law_number","_law_some","_law_moves_here","_law_behind","_law_spot","_law_box","_law_word_here","_law_bent"] "_law_spoiled" (aW sSp) f cdv A outer s H E).nox sd [g] ([D.int z].map R.val)→PEd (hX CX0 P w K mg base ["_law_size_here","_law_kit_here","_law_bound_here","_law_book","_law_cell","_law_way","_law_at","_law_price_here","_law_row","_law_table_here","_law_other","_law_number","_law_some","_law_moves_here","_law_behind","_law_spot","_law_box","_law_word_here","_law_bent"] "_law_spoiled" (aW sSp) f cdv A outer s H E).nox sd (.BinOp (.Name "_law_row" p1) .Add (.Tuple [g] x1 p3) p4) (.val (aQ (e.2.1++[z]))):=fun z {_ _ _ _ _ _} h8 hg=>PEd.cast (gJ (d1:=e.2.1.map D.int) (d2:=[.int z]) (aA 8 h8 (pv 8)) (eQ (ds:=[.int z]) hg (aE rfl)) (by rw [aB]; show _+1≤1000; omega)) (by unfold aQ; rw [aT]; rfl)
 refine aF (eA (ds:=[e0D (e.1+1,e.2.1,e.2.2),e0D (e.1 - 1,e.2.1,e.2.2),e0D (e.1,o.2.1,e.2.2)]) 12 nd rfl (Or.inl rfl) (fJ (ds:=[e0D (e.1+1,e.2.1,e.2.2),e0D (e.1 - 1,e.2.1,e.2.2),e0D (e.1,o.2.1,e.2.2)]) (aC (en _ _ _ (aC (dX fO (aA 7 rfl (pv 7)) aO) (aC (aA 8 rfl (pv 8)) (aC (aA 9 rfl (pv 9)) aG)))) (aC (en _ _ _ (aC (dX lC (aA 7 rfl (pv 7)) aO) (aC (aA 8 rfl (pv 8)) (aC (aA 9 rfl (pv 9)) aG)))) (aC (en _ _ _ (aC (aA 7 rfl (pv 7)) (aC (cV (n:=1) (ds:=[.int o.1,aQ o.2.1, .tup (o.2.2.map aQ)]) (aA 10 rfl (pv 10)) aO rfl fun _ _=>rfl) (aC (aA 9 rfl (pv 9)) aG)))) aG))) (aE rfl)) fun l12=> ?_); refine aF (eA (ds:=[e0D (e.1+1,e.2.1,e.2.2),e0D (e.1 - 1,e.2.1,e.2.2),e0D (e.1,o.2.1,e.2.2)]++[e0D (e.1+prK L (eY L c),e.2.1++[((eY L c:Nat):Int)],e.2.2),e0D (e.1,e.2.1++[(L.length:Int)],e.2.2)]) 12 nd rfl (Or.inl rfl) (lX (qU 12 rfl (pv 12)) (PEd.bor (PEd.val (fJ (ds:=[e0D (e.1+prK L (eY L c),e.2.1++[((eY L c:Nat):Int)],e.2.2),e0D (e.1,e.2.1++[(L.length:Int)],e.2.2)]) (aC (en _ _ _ (aC (more rfl rfl rfl) (aC (rowL _ rfl (aC (aA 11 rfl (pv 11)) aG)) (aC (aA 9 rfl (pv 9)) aG)))) (aC (en _ _ _ (aC (aA 7 rfl (pv 7)) (aC (rowL _ rfl (aC (kl rfl) aG)) (aC (aA 9 rfl (pv 9)) aG)))) aG)) (aE rfl)))) (aE rfl)) fun l12a=> ?_); refine aF (eA (ds:=([e0D (e.1+1,e.2.1,e.2.2),e0D (e.1 - 1,e.2.1,e.2.2),e0D (e.1,o.2.1,e.2.2)]++[e0D (e.1+prK L (eY L c),e.2.1++[((eY L c:Nat):Int)],e.2.2),e0D (e.1,e.2.1++[(L.length:Int)],e.2.2)])++[e0D (e.1,[-1]++e.2.1,e.2.2),e0D (e.1,e.2.1,o.2.2)]) 12 nd rfl (Or.inl rfl) (lX (qU 12 rfl (pv 12)) (PEd.bor (PEd.val (fJ (ds:=[e0D (e.1,[-1]++e.2.1,e.2.2),e0D (e.1,e.2.1,o.2.2)]) (aC (en _ _ _ (aC (aA 7 rfl (pv 7)) (aC (PEd.cast (gJ (d1:=[.int (-1)]) (d2:=e.2.1.map D.int) (eQ (ds:=[.int (-1)]) (aC (nT aO) aG) (aE rfl)) (aA 8 rfl (pv 8)) (by rw [aB]; show 1+_≤1000; omega)) rfl) (aC (aA 9 rfl (pv 9)) aG)))) (aC (en _ _ _ (aC (aA 7 rfl (pv 7)) (aC (aA 8 rfl (pv 8)) (aC (cV (n:=2) (ds:=[.int o.1,aQ o.2.1, .tup (o.2.2.map aQ)]) (aA 10 rfl (pv 10)) aO rfl fun _ _=>rfl) aG)))) aG)) (aE rfl)))) (aE rfl)) fun l12b=> ?_); refine uZ (sd':=[.val (bO p), .val (.lst (L.map skD)), .val (.int b), .val (.lst (Es.map e0D)), .val (.int c), .val (.int (mxS c 50%16)), .val (.int (at0:Int)), .val (.int e.1), .val (aQ e.2.1), .val (.tup (e.2.2.map aQ)), .val (e0D o), .val (.int ((eY L c:Nat):Int)), .own l12b ((smA L c e o).map e0D), .un, .un, .un, .un, .un, .un]) ⟨.inr rfl, .inr rfl, .inr rfl, .inr rfl, .inr rfl, .inr rfl, .inr rfl, .inr rfl, .inr rfl, .inr rfl, .inr rfl, .inr rfl, .inr rfl, .inr rfl, .inr rfl, .inr rfl, .inr rfl, .inr rfl, .inr rfl,trivial⟩ ?_; refine aF (eA (ds:=L.map (mgD P w K p)) 13 nd rfl (Or.inr rfl) (bK (ds:=[bO p, .lst (L.map skD)]) GM hr rfl (aC (aA 0 rfl (pv 0)) (aC (aA 1 rfl (pv 1)) aG)) ⟨p,L,hp,S,rfl,rfl⟩ trivial rfl) fun l13=>iZ 13 rfl ?_); have lA:((smA L c e o).map e0D).length≤1000:=aE rfl; have lB:((smB p L c e o).map e0D).length≤1000:=aE rfl
 have ec:((e.2.2.map aQ).filter fun _=>true).map (fun d=>aQ (onQ p (L.getD (eY L c) default).1 (iU d)))=(e.2.2.map (onQ p (L.getD (eY L c) default).1)).map aQ:=by
  rw [bU.mpr (fun _ _=>rfl),aY,aY]; refine bI fun ws _=> ?_
  show aQ (onQ p (L.getD (eY L c) default).1 (iU (aQ ws)))=_; rw [gK]; rfl
 refine aF (bV (d:= .tup ((e.2.2.map (onQ p (L.getD (eY L c) default).1)).map aQ)) 14 nd rfl (Or.inl rfl) (iK rfl ztuple (PEd.bor (PEd.val (PEd.cast (gP (ds:=e.2.2.map aQ) (N:=["_law_filling","_law_moves_here","_law_number"]) (M:=["_law_size_here","_law_kit_here","_law_bound_here","_law_book","_law_cell","_law_way","_law_at","_law_price_here","_law_row","_law_table_here","_law_other","_law_number","_law_some","_law_moves_here","_law_behind","_law_spot","_law_box","_law_word_here","_law_bent"]) (cap:=[none,some 13,some 11]) (sc:=aW sSp) (Tb:=fun d=>[.val d, .val (.lst (L.map (mgD P w K p))), .val (.int ((eY L c:Nat):Int))]) (fun _=>true) (fun d=>aQ (onQ p (L.getD (eY L c) default).1 (iU d))) (iM (aA 9 rfl (pv 9))) (by rw [aB]; omega) rfl (by decide+kernel) rfl (by decide+kernel) rfl (fun cl C fp s H d hd=>cU 0 (bL (i:=0) nd2 rfl (Or.inl rfl))) (fun d hd=>⟨.inl rfl, .inr rfl, .inr rfl,trivial⟩) (fun cl C fp s H d hd=> .inl ⟨rfl,rfl⟩) fun cl C2 fp s H d hd _=> ?_) (by rw [ec]))))) ?_)
 ·obtain ⟨ws,hw,rfl⟩:=mY hd; obtain ⟨i,hi⟩:=cH (tie ws hw); rw [gK]; exact lZ (hk:=hkT P w) (k:=inK ws) (n:=i) (d:=aQ (onQ p (L.getD (eY L c) default).1 ws)) hu2 (jI (iT (n:=eY L c) (PEd.bor (aA 1 rfl (pv 1))) (aA 2 rfl (pv 2)) mv1 fun _ _=>rfl)) (PEd.cast (aA 0 rfl (pv 0)) (by rw [show (hkT P w).dat (inK ws)=tD (inK ws) from rfl,tV])) (by rw [aI,hi]; rfl) (by rw [aI,hi]; rfl) fun _ _=>rfl
 refine aF (jP (d:=e0D (e.1+prK L (eY L c),e.2.1++[((eY L c:Nat):Int)],e.2.2.map (onQ p (L.getD (eY L c) default).1))) 12 rfl (pv 12) (en _ _ _ (aC (more rfl rfl rfl) (aC (rowL _ rfl (aC (aA 11 rfl (pv 11)) aG)) (aC (aA 14 rfl (pv 14)) aG)))) lA ?_); have t2:=fil_two hp; have tpos:0<e.2.2.length:=by omega
 obtain ⟨q1,q0⟩:=fR (mxS c 54) tpos; have spl:sp0 c e.2.2<e.2.2.length:=q1; have spE:((sp0 c e.2.2:Nat):Int)=mxS c 54%(e.2.2.length:Int):=by unfold sp0; omega
 have b0':=cM (mxS c 55) (jS p20); have b1':=bR (mxS c 55) p20; have bxE:((bx0 c p:Nat):Int)=mxS c 55%p.2:=by unfold bx0; omega
 have bxl:bx0 c p<p.2.toNat:=by unfold bx0; omega
 refine aF (bV (d:= .int ((sp0 c e.2.2:Nat):Int)) 15 nd rfl (Or.inl rfl) (PEd.ic (cD dL (mx 54 (by decide) rfl) (PEd.ic (pd_lenT rfl zlen (aA 9 rfl (pv 9))) (by rw [aB])) (by omega)) spE.symm) ?_); refine aF (bV (d:= .int ((bx0 c p:Nat):Int)) 16 nd rfl (Or.inl rfl) (PEd.ic (cD dL (mx 55 (by decide) rfl) (cV (n:=1) (d:= .int p.2) (aA 0 rfl (pv 0)) aO rfl fun _ _=>rfl) p20) bxE.symm) ?_); have fm:e.2.2.getD (sp0 c e.2.2) []∈cP p:=tie _ (getD_mem spl); have fl:=(qV hp fm).len; have e1:p.1=((p.1.toNat:Nat):Int):=by omega
 have pw:=pw0 p.1.toNat; have shl:∀ {sd:List Slot} {p1 p2 p3 p4 p5:Pos} {j1 j2:Nat},sd[0]? =some (.val (bO p))→PEd (hX CX0 P w K mg base ["_law_size_here","_law_kit_here","_law_bound_here","_law_book","_law_cell","_law_way","_law_at","_law_price_here","_law_row","_law_table_here","_law_other","_law_number","_law_some","_law_moves_here","_law_behind","_law_spot","_law_box","_law_word_here","_law_bent"] "_law_spoiled" (aW sSp) f cdv A outer s H E).nox sd (.BinOp (.Constant (.int 1) j1 p1) .LShift (.Subscript (.Name "_law_size_here" p2) (.Constant (.int 0) j2 p3) p4) p5) (.val (.int ((2^p.1.toNat:Nat):Int))):=fun h=>qL (k:=p.1.toNat) (PEd.ic (cV (n:=0) (d:= .int p.1) (aA 0 h (pv 0)) aO rfl fun _ _=>rfl) e1) (by omega)
 have atS:∀ {sd:List Slot} {p1 p2 p3:Pos},sd[9]? =some (.val (.tup (e.2.2.map aQ)))→sd[15]? =some (.val (.int ((sp0 c e.2.2:Nat):Int)))→PEd (hX CX0 P w K mg base ["_law_size_here","_law_kit_here","_law_bound_here","_law_book","_law_cell","_law_way","_law_at","_law_price_here","_law_row","_law_table_here","_law_other","_law_number","_law_some","_law_moves_here","_law_behind","_law_spot","_law_box","_law_word_here","_law_bent"] "_law_spoiled" (aW sSp) f cdv A outer s H E).nox sd (.Subscript (.Name "_law_table_here" p1) (.Name "_law_spot" p2) p3) (.val (.tup ((e.2.2.getD (sp0 c e.2.2) []).map D.int))):=fun h1 h2=>cV (n:=sp0 c e.2.2) (aA 9 h1 (pv 9)) (aA 15 h2 (pv 15)) (tups_at spl) fun _ _=>rfl
 refine uZ (sd':=[.val (bO p), .val (.lst (L.map skD)), .val (.int b), .val (.lst (Es.map e0D)), .val (.int c), .val (.int (mxS c 50%16)), .val (.int (at0:Int)), .val (.int e.1), .val (aQ e.2.1), .val (.tup (e.2.2.map aQ)), .val (e0D o), .val (.int ((eY L c:Nat):Int)), .own l12b ((smA L c e o++[(e.1+prK L (eY L c),e.2.1++[((eY L c:Nat):Int)],e.2.2.map (onQ p (L.getD (eY L c) default).1))]).map e0D), .un, .un, .val (.int ((sp0 c e.2.2:Nat):Int)), .val (.int ((bx0 c p:Nat):Int)), .un, .un]) ⟨.inr rfl, .inr rfl, .inr rfl, .inr rfl, .inr rfl, .inr rfl, .inr rfl, .inr rfl, .inr rfl, .inr rfl, .inr rfl, .inr rfl, .inr (by rw [aT]; rfl), .inl rfl, .inl rfl, .inr rfl, .inr rfl, .inr rfl, .inr rfl,trivial⟩ ?_; have lA1:((smA L c e o++[(e.1+prK L (eY L c),e.2.1++[((eY L c:Nat):Int)],e.2.2.map (onQ p (L.getD (eY L c) default).1))]).map e0D).length≤1000:=aE rfl; have eB:smB p L c e o=(smA L c e o++[(e.1+prK L (eY L c),e.2.1++[((eY L c:Nat):Int)],e.2.2.map (onQ p (L.getD (eY L c) default).1))])++[(e.1,e.2.1,nN e.2.2 (sp0 c e.2.2) (sU p (e.2.2.getD (sp0 c e.2.2) []) (bx0 c p)))]:=rfl; have eC:∀t,smC p L c e o t=smB p L c e o++((tW p (e.2.2.getD (sp0 c e.2.2) [])).take t).map fun g=>(e.1,e.2.1,nN e.2.2 (sp0 c e.2.2) g):=fun _=>rfl
 have eM:vR p L c e o=smC p L c e o 4++[(e.1,e.2.1,xQ c e.2.2)]:=rfl; have lM:=xZ p L c e o
 have lCl:∀t,(smC p L c e o t).length≤14:=fun t=>by rw [eC,aN,aB,bH]; show 9+min t 4≤14; omega
 have lB9:(smB p L c e o).length=9:=rfl; generalize smA L c e o++[(e.1+prK L (eY L c),e.2.1++[((eY L c:Nat):Int)],e.2.2.map (onQ p (L.getD (eY L c) default).1))]=Sa at lA1 eB; generalize hf:e.2.2.getD (sp0 c e.2.2) []=fl0 at *; generalize hsp:sp0 c e.2.2=spt at *; generalize hbx:bx0 c p=box0 at *; refine aF (bV (d:= .int ((fl0.getD box0 0+1)%((2^p.1.toNat:Nat):Int))) 17 nd rfl (Or.inl rfl) (cD dL (dX fO (cV (n:=box0) (ds:=fl0.map D.int) (atS rfl rfl) (aA 16 rfl (pv 16)) (vY (by omega)) fun _ _=>rfl) aO) (shl rfl) pw) ?_); have fil:fl0.length≤6:=by omega
 have fpos:0<fl0.length:=by omega
 have bE:sU p fl0 box0=fl0.take box0++[(fl0.getD box0 0+1)%((2^p.1.toNat:Nat):Int)]++fl0.drop (box0+1):=rfl; generalize (fl0.getD box0 0+1)%((2^p.1.toNat:Nat):Int)=wd at bE; refine aF (bV (d:=aQ (sU p fl0 box0)) 18 nd rfl (Or.inl rfl) (PEd.cast (gJ (gJ (pd_tkT (ds:=fl0.map D.int) (atS rfl rfl) (aA 16 rfl (pv 16)) (by rw [aB]; omega)) (eQ (ds:=[.int wd]) (aC (aA 17 rfl (pv 17)) aG) (aE rfl)) (by rw [bH,aB]; show _+1≤1000; omega)) (pd_dpT (k:=box0) (ds:=fl0.map D.int) (atS rfl rfl) (PEd.ic (dX fO (aA 16 rfl (pv 16)) aO) (by omega)) (by rw [aB]; exact fpos)) (by rw [aN,bH,aB,cQ,aB]; show _+1+_≤1000; omega)) (by rw [bE]; unfold aQ; rw [aT,aT,gQ,iC]; rfl)) ?_); generalize sU p fl0 box0=bnt at eB bE; have rE:∀g,nN e.2.2 spt g=e.2.2.take spt++[g]++e.2.2.drop (spt+1):=fun _=>rfl
 have repT:∀ (g:List Int) {sd:List Slot} {ge:Expr} {p1 p2 p3 p4 p5 p6 p7 p8 p9 q1 q2 q3 q4:Pos} {j1 x1:Nat},sd[9]? =some (.val (.tup (e.2.2.map aQ)))→sd[15]? =some (.val (.int (spt:Int)))→PAd (hX CX0 P w K mg base ["_law_size_here","_law_kit_here","_law_bound_here","_law_book","_law_cell","_law_way","_law_at","_law_price_here","_law_row","_law_table_here","_law_other","_law_number","_law_some","_law_moves_here","_law_behind","_law_spot","_law_box","_law_word_here","_law_bent"] "_law_spoiled" (aW sSp) f cdv A outer s H E).nox sd [ge] ([aQ g].map R.val)→PEd (hX CX0 P w K mg base ["_law_size_here","_law_kit_here","_law_bound_here","_law_book","_law_cell","_law_way","_law_at","_law_price_here","_law_row","_law_table_here","_law_other","_law_number","_law_some","_law_moves_here","_law_behind","_law_spot","_law_box","_law_word_here","_law_bent"] "_law_spoiled" (aW sSp) f cdv A outer s H E).nox sd (.BinOp (.BinOp (.Subscript (.Name "_law_table_here" p1) (.Slice none (some (.Name "_law_spot" p2)) none p3) p4) .Add (.Tuple [ge] x1 p5) p6) .Add (.Subscript (.Name "_law_table_here" p7) (.Slice (some (.BinOp (.Name "_law_spot" p8) .Add (.Constant (.int 1) j1 p9) q1)) none none q2) q3) q4) (.val (.tup ((nN e.2.2 spt g).map aQ))):=fun g {_ _ _ _ _ _ _ _ _ _ _ _ _ _ _ _ _} h1 h2 h3=>PEd.cast (gJ (gJ (pd_tkT (ds:=e.2.2.map aQ) (aA 9 h1 (pv 9)) (aA 15 h2 (pv 15)) (by rw [aB]; omega)) (eQ (ds:=[aQ g]) h3 (aE rfl)) (by rw [bH,aB]; show _+1≤1000; omega)) (pd_dpT (k:=spt) (ds:=e.2.2.map aQ) (aA 9 h1 (pv 9)) (PEd.ic (dX fO (aA 15 h2 (pv 15)) aO) (by omega)) (by rw [aB]; omega)) (by rw [aN,bH,aB,cQ,aB]; show _+1+_≤1000; omega)) (by rw [rE,aT,aT,gQ,iC]; rfl)
 refine aF (jP (d:=e0D (e.1,e.2.1,nN e.2.2 spt bnt)) 12 rfl (pv 12) (en _ _ _ (aC (aA 7 rfl (pv 7)) (aC (aA 8 rfl (pv 8)) (aC (repT bnt rfl rfl (aC (aA 18 rfl (pv 18)) aG)) aG)))) lA1 ?_); have eC0:smC p L c e o 0=smB p L c e o:=by rw [eC,jM,hG,gL]
 have oE:tW p fl0=[fl0.take (fl0.length - 1)++[((2^p.1.toNat:Nat):Int)],[-1]++fl0.drop 1,fl0++[0],fl0.take (fl0.length - 1)]:=rfl; have lO:(tW p fl0).length=4:=rfl; have fD:(fl0.map D.int).length=fl0.length:=aB _; refine aF (dY (ds:=(tW p fl0).map aQ) (fun t sd=>sd=[.val (bO p), .val (.lst (L.map skD)), .val (.int b), .val (.lst (Es.map e0D)), .val (.int c), .val (.int (mxS c 50%16)), .val (.int (at0:Int)), .val (.int e.1), .val (aQ e.2.1), .val (.tup (e.2.2.map aQ)), .un, .val (.int ((eY L c:Nat):Int)), .own l12b ((smC p L c e o t).map e0D), .un, .un, .val (.int (spt:Int)), .un, .un, .un]) (gE (PEd.val (fJ (ds:=(tW p fl0).map aQ) (aC (PEd.cast (gJ (pd_buT (ds:=fl0.map D.int) (atS rfl rfl) (nT aO) (by rw [fD]; exact fpos)) (eQ (ds:=[.int ((2^p.1.toNat:Nat):Int)]) (aC (shl rfl) aG) (aE rfl)) (by rw [bH,fD]; show _+1≤1000; omega)) (by unfold aQ; rw [fD,aT,gQ]; rfl)) (aC (PEd.cast (gJ (eQ (ds:=[.int (-1)]) (aC (nT aO) aG) (aE rfl)) (pd_dpT (k:=0) (ds:=fl0.map D.int) (atS rfl rfl) aO (by rw [fD]; exact fpos)) (by rw [cQ,fD]; show 1+_≤1000; omega)) (by unfold aQ; rw [aT,iC]; rfl)) (aC (PEd.cast (gJ (d1:=fl0.map D.int) (d2:=[.int 0]) (atS rfl rfl) (eQ (ds:=[.int 0]) (aC aO aG) (aE rfl)) (by rw [fD]; show _+1≤1000; omega)) (by unfold aQ; rw [aT]; rfl)) (aC (PEd.cast (pd_buT (ds:=fl0.map D.int) (atS rfl rfl) (nT aO) (by rw [fD]; exact fpos)) (by unfold aQ; rw [fD,gQ])) aG)))) (aE rfl)))) ⟨[.val (bO p), .val (.lst (L.map skD)), .val (.int b), .val (.lst (Es.map e0D)), .val (.int c), .val (.int (mxS c 50%16)), .val (.int (at0:Int)), .val (.int e.1), .val (aQ e.2.1), .val (.tup (e.2.2.map aQ)), .un, .val (.int ((eY L c:Nat):Int)), .own l12b ((smC p L c e o 0).map e0D), .un, .un, .val (.int (spt:Int)), .un, .un, .un],⟨.inr rfl, .inr rfl, .inr rfl, .inr rfl, .inr rfl, .inr rfl, .inr rfl, .inr rfl, .inr rfl, .inr rfl, .inl rfl, .inr rfl, .inr (by rw [eC0,eB,aT]; rfl), .inr rfl, .inr rfl, .inr rfl, .inl rfl, .inl rfl, .inl rfl,trivial⟩,rfl⟩ (fun t d sdt hd ht=> ?_) fun sdn hn=> ?_)
 ·subst ht; obtain ⟨g,hg,rfl,et⟩:=iE hd
  have eS2:smC p L c e o (t+1)=smC p L c e o t++[(e.1,e.2.1,nN e.2.2 spt g)]:=by rw [eC,eC,et,aT,List.append_assoc]; rfl
  rw [eS2]; refine ⟨[.val (bO p), .val (.lst (L.map skD)), .val (.int b), .val (.lst (Es.map e0D)), .val (.int c), .val (.int (mxS c 50%16)), .val (.int (at0:Int)), .val (.int e.1), .val (aQ e.2.1), .val (.tup (e.2.2.map aQ)), .val (aQ g), .val (.int ((eY L c:Nat):Int)), .own l12b ((smC p L c e o t).map e0D), .un, .un, .val (.int (spt:Int)), .un, .un, .un],cU 10 (bL (i:=10) nd rfl (Or.inl rfl)), ?_⟩; refine aS (jP (d:=e0D (e.1,e.2.1,nN e.2.2 spt g)) 12 rfl (pv 12) (en _ _ _ (aC (aA 7 rfl (pv 7)) (aC (aA 8 rfl (pv 8)) (aC (repT g rfl rfl (aC (aA 10 rfl (pv 10)) aG)) aG)))) (by rw [aB]; have:=lCl t; omega) ⟨[.val (bO p), .val (.lst (L.map skD)), .val (.int b), .val (.lst (Es.map e0D)), .val (.int c), .val (.int (mxS c 50%16)), .val (.int (at0:Int)), .val (.int e.1), .val (aQ e.2.1), .val (.tup (e.2.2.map aQ)), .un, .val (.int ((eY L c:Nat):Int)), .own l12b ((smC p L c e o t++[(e.1,e.2.1,nN e.2.2 spt g)]).map e0D), .un, .un, .val (.int (spt:Int)), .un, .un, .un],⟨.inr rfl, .inr rfl, .inr rfl, .inr rfl, .inr rfl, .inr rfl, .inr rfl, .inr rfl, .inr rfl, .inr rfl, .inl rfl, .inr rfl, .inr ?_, .inr rfl, .inr rfl, .inr rfl, .inr rfl, .inr rfl, .inr rfl,trivial⟩,rfl⟩); rw [aT]; rfl
 ·subst hn; rw [aB,lO]; have m0:=cM (mxS c 56) (show (2:Int)≠0 by decide); have m1:=bR (mxS c 56) (show (0:Int)<2 by decide); have eD2:xQ c e.2.2=if mxS c 56%2=0 then e.2.2.take (e.2.2.length - 1) else e.2.2++e.2.2.drop (e.2.2.length - 1):=rfl
  have TD:(e.2.2.map aQ).length=e.2.2.length:=aB _
  have ix:([.tup ((e.2.2.take (e.2.2.length - 1)).map aQ), .tup ((e.2.2++e.2.2.drop (e.2.2.length - 1)).map aQ)]:List D)[(mxS c 56%2).toNat]? =some (.tup ((xQ c e.2.2).map aQ)):=by
   rw [eD2]
   by_cases q:mxS c 56%2=0
   ·rw [if_pos q,q]; rfl
   ·rw [if_neg q,show mxS c 56%2=1 by omega]; rfl
  generalize xQ c e.2.2=ed at ix eM; refine aF (jP (d:=e0D (e.1,e.2.1,ed)) 12 rfl (pv 12) (en _ _ _ (aC (aA 7 rfl (pv 7)) (aC (aA 8 rfl (pv 8)) (aC (kB (i:=mxS c 56%2) (ds:=[.tup ((e.2.2.take (e.2.2.length - 1)).map aQ), .tup ((e.2.2++e.2.2.drop (e.2.2.length - 1)).map aQ)]) (PEd.bor (PEd.val (fJ (ds:=[.tup ((e.2.2.take (e.2.2.length - 1)).map aQ), .tup ((e.2.2++e.2.2.drop (e.2.2.length - 1)).map aQ)]) (aC (PEd.cast (pd_buT (ds:=e.2.2.map aQ) (aA 9 rfl (pv 9)) (nT aO) (by rw [TD]; omega)) (by rw [TD,gQ])) (aC (PEd.cast (gJ (d1:=e.2.2.map aQ) (aA 9 rfl (pv 9)) (pd_laT (ds:=e.2.2.map aQ) (aA 9 rfl (pv 9)) (nT aO) (by rw [TD]; omega)) (by rw [TD,cQ,TD]; omega)) (by rw [TD,aT,iC])) aG)) (aE rfl)))) (cD dL (mx 56 (by decide) rfl) aO (by decide)) m0 ix fun _ _=>rfl) aG)))) (by rw [aB]; have:=lCl 4; omega) ?_)
  have gw:((smC p L c e o 4++[(e.1,e.2.1,ed)]).map e0D)[(mxS c 50%16 - 2).toNat]? =some (e0D ((vR p L c e o).getD (mxS c 50%16 - 2).toNat default)):=by
   have hl:(mxS c 50%16 - 2).toNat<(vR p L c e o).length:=by rw [lM]; omega
   rw [← eM,aI]; simp [cC,hl]
  have em2:(smC p L c e o 4).map e0D++[e0D (e.1,e.2.1,ed)]=(smC p L c e o 4++[(e.1,e.2.1,ed)]).map e0D:=by rw [aT]; rfl
  generalize (vR p L c e o).getD (mxS c 50%16 - 2).toNat default=xx at gw; rw [aT,aT]; refine aS (bG (lX (PEd.bor (PEd.val (lX (PEd.bor (PEd.val (tk rfl rfl))) (PEd.bor (PEd.val (fJ (ds:=[e0D xx]) (aC (kB (i:=mxS c 50%16 - 2) (ds:=(smC p L c e o 4).map e0D++[e0D (e.1,e.2.1,ed)]) (qU 12 rfl (pv 12)) (dX lC (aA 5 rfl (pv 5)) aO) (by omega) (by rw [em2]; exact gw) fun _ _=>rfl) aG) (aE rfl)))) (by show _+1≤1000; omega)))) (PEd.bor (PEd.val (dp rfl rfl))) (by rw [aN]; show _+1+_≤1000; omega)) trivial rfl)
theorem ok_law (F:Fun K "law" "law" wF f fd) (zlist:mg "list"=none) (GC:bC P w K mg base "_law_cell_at" 1 2 CCell) (GX:bC P w K mg base "_law_mixed" 1 2 CMx) (GZ:bC P w K mg base "_law_size" 2 1 CSz41) (GK:bC P w K mg base "_law_kit" 3 3 CKit41) (GB:bC P w K mg base "_law_bound" 1 3 CBnd43) (GF:bC P w K mg base "_law_found" 4 4 CFnd43) (GH:bC P w K mg base "holds" 6 4 sR) (GR:bC P w K mg base "_law_right" 7 4 CRt43) (GS:bC P w K mg base "_law_spoiled" 4 5 CSp43):FnOk P w K mg base CX0 8 f fd ["_law_script"] (spC K 1 CLaw):=by
 have nd:(["_law_script","_law_size_here","_law_kit_here","_law_factor","_law_bound_here","_law_book","_law_more","_law_cell"]:List Str).Nodup:=by decide+kernel
 refine def_fn (N:=["_law_script","_law_size_here","_law_kit_here","_law_factor","_law_bound_here","_law_book","_law_more","_law_cell"]) (ps:=["_law_script"]) (k:=7) F ⟨rfl,rfl,rfl,nd,rfl,by decide+kernel,by decide+kernel⟩ fun cdv A outer s H E hr ds r hl c=> ?_
 obtain ⟨ns,rfl,n63,rfl⟩:=c; have hr1:=hr.mono (show 1≤7 by decide); have hr2:=hr.mono (show 2≤7 by decide); have hr3:=hr.mono (show 3≤7 by decide); have hr4:=hr.mono (show 4≤7 by decide); have hr6:=hr.mono (show 6≤7 by decide); have cell:∀ {sd:List Slot} {p1 p2 p3 p4:Pos} {j1:Nat} (k:Nat),k≤1000→sd[0]? =some (.val (.scr ns))→PEd (hX CX0 P w K mg base ["_law_script","_law_size_here","_law_kit_here","_law_factor","_law_bound_here","_law_book","_law_more","_law_cell"] "law" (aW wF) f cdv A outer s H E).nox sd (.Call (.Name "_law_cell_at" p1) [.Name "_law_script" p2, .Constant (.int (k:Int)) j1 p3] [] p4) (.val (.int (ns.getD k 0))):=fun k hk hs=>bK (ds:=[.scr ns, .int (k:Int)]) GC hr1 rfl (aC (aA 0 hs (pv 0)) (aC aO aG)) ⟨ns,k,rfl,hk,rfl⟩ trivial rfl
 refine aF (bV (d:=bO (uQ (ns.getD 0 0))) 1 nd rfl (Or.inl rfl) (bK (ds:=[.int (ns.getD 0 0)]) GZ hr2 rfl (aC (cell 0 (by decide) rfl) aG) ⟨_,rfl,rfl⟩ trivial rfl) ?_); have hp:=sz41_ok (ns.getD 0 0); generalize uQ (ns.getD 0 0)=p at hp; have KO:=kit41_ok hp ns 2; refine aF (vK (d:= .tup [.lst ((rJ p ns 2).map skD), .int (lK (ns.getD 2 0))]) (sd':=[.val (.scr ns), .val (bO p), .val (.lst ((rJ p ns 2).map skD)), .val (.int (lK (ns.getD 2 0))), .un, .un, .un, .un]) (bK (ds:=[.scr ns, .int ((2:Nat):Int),bO p]) GK hr3 rfl (aC (aA 0 rfl (pv 0)) (aC aO (aC (aA 1 rfl (pv 1)) aG))) ⟨p,ns,2,hp,by decide,rfl,rfl⟩ trivial rfl) (iO (ds:=[.lst ((rJ p ns 2).map skD), .int (lK (ns.getD 2 0))]) (js:=[2,3]) rfl (cS (bL (i:=2) nd rfl (Or.inl rfl)) (cS (bL (i:=3) nd rfl (Or.inl rfl)) iQ)) rfl rfl) ?_); generalize rJ p ns 2=L at KO; generalize lK (ns.getD 2 0)=fc at KO; have S:=KO.stk; have l5:=KO.le; obtain ⟨b0,b1⟩:=bnd43_ok (ns.getD 1 0) L.length KO.f13; refine aF (bV (d:= .int (uJ (ns.getD 1 0) L.length fc)) 4 nd rfl (Or.inl rfl) (bK (ds:=[.int (ns.getD 1 0), .lst (L.map skD), .int fc]) GB hr1 rfl (aC (cell 1 (by decide) rfl) (aC (aA 2 rfl (pv 2)) (aC (aA 3 rfl (pv 3)) aG))) ⟨_,L,fc,KO.pos,l5,KO.f13,rfl,rfl⟩ trivial rfl) ?_); generalize uJ (ns.getD 1 0) L.length fc=b9 at b0 b1; obtain ⟨s1,s2,s3,s4,s5⟩:=qF p hp; refine byKey (K:=∀b,0≤b→b<fc * ((kN L.length:Int)+1)→PSd _ [.val (.scr ns), .val (bO p), .val (.lst (L.map skD)), .val (.int fc), .val (.int b), .un, .un, .un] _ _) (fun key=>aF (eX (k:=decide (4<p.1 * p.2)) (nC op_gt (cD iY (cV (n:=0) (d:= .int p.1) (aA 1 rfl (pv 1)) aO rfl fun _ _=>rfl) (cV (n:=1) (d:= .int p.2) (aA 1 rfl (pv 1)) aO rfl fun _ _=>rfl) (iN (eE (by omega:_≤6) (by decide)) (eE (by omega:_≤6) (by decide)))) aO (gS _)) (fun h=>aS (bV (d:= .int (b9 / 2)) 4 nd rfl (Or.inl rfl) (cD oC (aA 4 rfl (pv 4)) aO ⟨by decide,by decide⟩) (key (b9 / 2) (by omega) (by omega)))) fun h=>cB (key b9 b0 b1))) fun b h0 h1=> ?_
 obtain ⟨b,rfl⟩:=Int.eq_ofNat_of_zero_le h0; obtain ⟨FU,m9⟩:=few_b43 KO h1
 have b40:b≤40:=by rcases KO.f13 with e | e<;>rw [e] at h1<;>omega
 obtain ⟨O,HP,ne,l4,_⟩:=fnd43_ok (c:=ns.getD 8 0) hp S FU; refine aF (eA (ds:=(lD p L b (ns.getD 8 0)).map enD) 5 nd rfl (Or.inl rfl) (bK (ds:=[bO p, .lst (L.map skD), .int (b:Int), .int (ns.getD 8 0)]) GF hr4 rfl (aC (aA 1 rfl (pv 1)) (aC (aA 2 rfl (pv 2)) (aC (aA 4 rfl (pv 4)) (aC (cell 8 (by decide) rfl) aG)))) ⟨p,L,_,_,b,hp,S,b40,FU,rfl,rfl⟩ trivial rfl) fun l5=>iZ 5 rfl ?_); generalize lD p L b (ns.getD 8 0)=B at O HP ne l4; have EO:=es43_ok hp KO h1 O ne l4; have HO:=bk0_ho hp S O HP; rw [← bk0_D]; generalize bk0 B=Es at EO HO; have SH:=EO.sh; have hn:=KO.nd; refine aF (fG (k:=false) (PWd.pt (jF (k:=false) (j:=false) (PTd.cast (zF (p:=hoE p L b Es) (q:=true) (bK (ds:=[bO p, .lst (L.map skD), .int (b:Int), .lst (Es.map e0D)]) (r:= .val (.bl (hoE p L b Es))) GH hr6 rfl (aC (aA 1 rfl (pv 1)) (aC (aA 2 rfl (pv 2)) (aC (aA 4 rfl (pv 4)) (aC (PEd.val (rS rfl zlist (PEd.bor (aA 5 rfl (pv 5))))) aG)))) ⟨p,L,b,Es,hp,S,hn,SH,h0,rfl,rfl⟩ trivial rfl) mL) (by rw [HO]; rfl)) fun _=>jT (kH (k:=true) (kA (bK (ds:=[bO p, .lst (L.map skD), .int ((b:Int)+1), .lst (Es.map e0D)]) GR hr rfl (aC (aA 1 rfl (pv 1)) (aC (aA 2 rfl (pv 2)) (aC (dX fO (aA 4 rfl (pv 4)) aO) (aC (aA 5 rfl (pv 5)) aG)))) ⟨p,L,(b:Int)+1,Es,hp,S,hn,SH,by omega,rfl,rfl⟩ trivial rfl))))) rfl (cB ?_)); refine aF (fG (k:=false) (PTd.cast (PWd.pt (pwd_and (k:=decide (0<(b:Int))) (j:=false) (nC (g:=fun i j=>decide (j<i)) op_gt (aA 4 rfl (pv 4)) aO (gS _)) fun h=>xA (kH (k:=true) (kA (bK (ds:=[bO p, .lst (L.map skD), .int ((b:Int) - 1), .lst (Es.map e0D)]) GR hr rfl (aC (aA 1 rfl (pv 1)) (aC (aA 2 rfl (pv 2)) (aC (dX lC (aA 4 rfl (pv 4)) aO) (aC (aA 5 rfl (pv 5)) aG)))) ⟨p,L,(b:Int) - 1,Es,hp,S,hn,SH,by have:=of_decide_eq_true h; omega,rfl,rfl⟩ trivial rfl))))) (uT _)) rfl (cB ?_)); refine aF (eA (ds:=[.int (mxS (ns.getD 8 0) 57), .int (mxS (ns.getD 8 0) 58)]) 6 nd rfl (Or.inl rfl) (fJ (ds:=[.int (mxS (ns.getD 8 0) 57), .int (mxS (ns.getD 8 0) 58)]) (aC (bK (ds:=[.int (ns.getD 8 0), .int ((57:Nat):Int)]) GX hr1 rfl (aC (cell 8 (by decide) rfl) (aC aO aG)) ⟨_,57,rfl,by decide,rfl⟩ trivial rfl) (aC (bK (ds:=[.int (ns.getD 8 0), .int ((58:Nat):Int)]) GX hr1 rfl (aC (cell 8 (by decide) rfl) (aC aO aG)) ⟨_,58,rfl,by decide,rfl⟩ trivial rfl) aG)) (aE rfl)) fun l6=>iZ 6 rfl ?_); obtain ⟨cs,hcs,c63⟩:=cut43 ns n63; generalize mxS (ns.getD 8 0) 57=m1; generalize mxS (ns.getD 8 0) 58=m2; have ec:cs.map D.int++[.int m1, .int m2]=(cs++[m1,m2]).map D.int:=by rw [aT]; rfl
 refine aF (dY (ds:=(cs++[m1,m2]).map D.int) (fun _ sd=>sd=[.val (.scr ns), .val (bO p), .val (.lst (L.map skD)), .val (.int fc), .val (.int (b:Int)), .val (.lst (Es.map e0D)), .un, .un]) (gE (PEd.val (PEd.cast (lX (PEd.bor (PEd.val (PEd.cast (pd_slS (ol:=some 9) (oh:=some 17) (aA 0 rfl (pv 0)) aO aO) (by rw [hcs])))) (PEd.bor (aA 6 rfl (pv 6))) (by rw [aB]; show _+2≤1000; omega)) (by rw [ec])))) ⟨[.val (.scr ns), .val (bO p), .val (.lst (L.map skD)), .val (.int fc), .val (.int (b:Int)), .val (.lst (Es.map e0D)), .un, .un],⟨.inr rfl, .inr rfl, .inr rfl, .inr rfl, .inr rfl, .inr rfl, .inl rfl, .inr rfl,trivial⟩,rfl⟩ (fun t d sdt hd ht=> ?_) fun sdn hn2=> ?_)
 ·subst ht; obtain ⟨c,_,rfl,_⟩:=iE hd; refine ⟨[.val (.scr ns), .val (bO p), .val (.lst (L.map skD)), .val (.int fc), .val (.int (b:Int)), .val (.lst (Es.map e0D)), .un, .val (.int c)],cU 7 (bL (i:=7) nd rfl (Or.inl rfl)), ?_⟩; refine aS (fG (k:=false) (kH (k:=true) (kA (bK (ds:=[bO p, .lst (L.map skD), .int (b:Int), .lst ((sp43 p L Es c).map e0D)]) GR hr rfl (aC (aA 1 rfl (pv 1)) (aC (aA 2 rfl (pv 2)) (aC (aA 4 rfl (pv 4)) (aC (PEd.val (bK (ds:=[bO p, .lst (L.map skD), .int (b:Int), .lst (Es.map e0D), .int c]) GS hr4 rfl (aC (aA 1 rfl (pv 1)) (aC (aA 2 rfl (pv 2)) (aC (aA 4 rfl (pv 4)) (aC (aA 5 rfl (pv 5)) (aC (aA 7 rfl (pv 7)) aG))))) ⟨p,L,b,Es,c,hp,S,EO,rfl,rfl⟩ trivial rfl)) aG)))) ⟨p,L,b,sp43 p L Es c,hp,S,hn,sp43_sh EO,h0,rfl,rfl⟩ trivial rfl))) rfl (cB ?_)); exact ⟨[.val (.scr ns), .val (bO p), .val (.lst (L.map skD)), .val (.int fc), .val (.int (b:Int)), .val (.lst (Es.map e0D)), .un, .un],⟨.inr rfl, .inr rfl, .inr rfl, .inr rfl, .inr rfl, .inr rfl, .inr rfl, .inl rfl,trivial⟩,rfl⟩
 ·subst hn2; have S0:ShE []:=⟨cW _,fun e he=>(nomatch he)⟩; exact aS (bG (PEd.cast (lY (k:=true) (j:=true) (bK (ds:=[bO p, .lst (L.map skD), .int (b:Int), .lst (([]:List E0).map e0D)]) GR hr rfl (aC (aA 1 rfl (pv 1)) (aC (aA 2 rfl (pv 2)) (aC (aA 4 rfl (pv 4)) (aC (PEd.val (fJ (ds:=[]) aG (cW _))) aG)))) ⟨p,L,b,[],hp,S,hn,S0,h0,rfl,rfl⟩ trivial rfl) fun _=>nU (PEd.cast (pd_isB (p:=hoE p L b Es) (q:=true) (bK (ds:=[bO p, .lst (L.map skD), .int (b:Int), .lst (Es.map e0D)]) (r:= .val (.bl (hoE p L b Es))) GH hr6 rfl (aC (aA 1 rfl (pv 1)) (aC (aA 2 rfl (pv 2)) (aC (aA 4 rfl (pv 4)) (aC (aA 5 rfl (pv 5)) aG)))) ⟨p,L,b,Es,hp,S,hn,SH,h0,rfl,rfl⟩ trivial rfl) mL) (by rw [HO]; rfl))) rfl) trivial rfl)
end
theorem yD {t1 t2 t3:Tok}:Vals [V.str "not",V.str "up",V.str "down"] (#[Value.str "not" t1,Value.str "up" t2,Value.str "down" t3]:Array Value).toList:= .cons ⟨_,rfl⟩ (.cons ⟨_,rfl⟩ (.cons ⟨_,rfl⟩ .nil))
theorem all_mk {P:Program} {w:World} {K:aD} {h:Heap} {mg:Str→Option Value} {fa:Addr} (X:K.In h) (G:h.Ns mainGlobals mg) (hfa:mg "law"=some (.ref fa))
  {odL anL:Option Addr} {slL:Array (Option Value)} {ocL kVL dcL pmL cdL ctL:Value} {fL:Addr} {fBY:Addr} {dB:Option Addr} {t1 t2 t3:Tok} {nB:Nat} {sB:Array (Option Value)}
  (aL:eV K mainGlobals "law"=some (some (.ref fL))) (lL:K.lookup fL=some ⟨ocL,odL, .func (fY "law" "law" (kE wF) (iP wF) (aW wF) .none kVL dcL pmL anL cdL ctL),slL⟩) (cL:jK K cdL "law"=true) (kL:dE K (.ref fL)=true) (nisinstance:eV K mainGlobals "isinstance"=some none) (nint:eV K mainGlobals "int"=some none) (nbool:eV K mainGlobals "bool"=some none) (nrange:eV K mainGlobals "range"=some none) (ntuple:eV K mainGlobals "tuple"=some none) (nall:eV K mainGlobals "all"=some none) (nlen:eV K mainGlobals "len"=some none) (nsum:eV K mainGlobals "sum"=some none) (nany:eV K mainGlobals "any"=some none) (nlist:eV K mainGlobals "list"=some none) (aBY:eV K mainGlobals "BY_ITSELF"=some (some (.ref fBY))) (lBY:K.lookup fBY=some ⟨.type "tuple",dB, .seq #[.str "not" t1, .str "up" t2, .str "down" t3] nB,sB⟩) (hWl:FI K mg "is_whole" sWhole) (hC:FI K mg "word_count" sCount) (hEa:FI K mg "with_each_word" yB) (hFi:FI K mg "fillings" sFill) (hNu:FI K mg "number_of" sNum) (hI:FI K mg "word_by_itself" sItself) (hA:FI K mg "word_by_another" xD) (hN:FI K mg "new_word" yK) (hB:FI K mg "written_box" xR) (hS:FI K mg "step_on" sStepOn) (hNo:FI K mg "numbers_of_step" sNos) (hMo:FI K mg "moves_of" yU) (hNb:FI K mg "numbers_behind" sNbeh) (hTf:FI K mg "table_from" sTfrom) (hNr:FI K mg "numbers_of_row" sNrow) (hIr:FI K mg "is_row" vP) (hP:FI K mg "price_of" sPrice) (hIp:FI K mg "is_priced_row" sIsPr) (hPb:FI K mg "prices_by_numbers" sPbn) (hSd:FI K mg "stands_there" sStd) (hSa:FI K mg "has_start" vX) (hCl:FI K mg "is_closed" sClo) (hHo:FI K mg "holds" sHolds) (hCa:FI K mg "_law_cell_at" sCellAt) (hMi:FI K mg "_law_mixed" sMixed) (hF:FI K mg "_law_fillings" sLFill) (hLw:FI K mg "_law_word" sLWord) (hAf:FI K mg "_law_after" sAft) (hDr:FI K mg "_law_drawn" zW) (hLm:FI K mg "_law_moves" sLMv) (hZ:FI K mg "_law_size" sSize) (hK:FI K mg "_law_kit" zP) (hBd:FI K mg "_law_bound" sBnd) (hLp:FI K mg "_law_price" sLPr) (hTb:FI K mg "_law_table" sTab) (hFn:FI K mg "_law_found" vW) (hDe:FI K mg "_law_due_entry" sDe) (hDu:FI K mg "_law_due" sDu) (hRi:FI K mg "_law_right" sRi) (hSp:FI K mg "_law_spoiled" sSp):
  ∃fd:FuncData,(∀ (s:Shared) (v:Value),BindsTo s fd ⟨[v],[]⟩ [("_law_script",v)])∧∀base:Heap,K.In base→base.Ns mainGlobals mg→FnOk P w K mg base CX0 8 fa fd ["_law_script"] (spC K 1 CLaw):=by
 have e:=hfa.symm.trans (tR X G aL); cases e; have zisinstance:=dG X G nisinstance; have zint:=dG X G nint; have zbool:=dG X G nbool; have zrange:=dG X G nrange; have ztuple:=dG X G ntuple; have zall:=dG X G nall; have zlen:=dG X G nlen; have zsum:=dG X G nsum; have zany:=dG X G nany; have zlist:=dG X G nlist; have byself:∃ad,mg "BY_ITSELF"=some (.ref ad)∧∀H:Hp,SqT K H ad [V.str "not",V.str "up",V.str "down"]:=⟨_,tR X G aBY,fun H=> .inr ⟨_,_,_,lBY,rfl,rfl,aE rfl,yD⟩⟩; obtain ⟨fWl,dWl,mWl,FWl⟩:=hWl; obtain ⟨fC,dC,mC,FC⟩:=hC; obtain ⟨fEa,dEa,mEa,FEa⟩:=hEa; obtain ⟨fFi,dFi,mFi,FFi⟩:=hFi; obtain ⟨fNu,dNu,mNu,FNu⟩:=hNu; obtain ⟨fI,dI,mI,FI⟩:=hI; obtain ⟨fA,dA,mA,FA⟩:=hA; obtain ⟨fN,dN,mN,FN⟩:=hN; obtain ⟨fB,dB,mB,FB⟩:=hB; obtain ⟨fS,dS,mS,FS⟩:=hS; obtain ⟨fNo,dNo,mNo,FNo⟩:=hNo; obtain ⟨fMo,dMo,mMo,FMo⟩:=hMo; obtain ⟨fNb,dNb,mNb,FNb⟩:=hNb; obtain ⟨fTf,dTf,mTf,FTf⟩:=hTf; obtain ⟨fNr,dNr,mNr,FNr⟩:=hNr; obtain ⟨fIr,dIr,mIr,FIr⟩:=hIr; obtain ⟨fP,dP,mP,FP⟩:=hP; obtain ⟨fIp,dIp,mIp,FIp⟩:=hIp; obtain ⟨fPb,dPb,mPb,FPb⟩:=hPb; obtain ⟨fSd,dSd,mSd,FSd⟩:=hSd; obtain ⟨fSa,dSa,mSa,FSa⟩:=hSa; obtain ⟨fCl,dCl,mCl,FCl⟩:=hCl; obtain ⟨fHo,dHo,mHo,FHo⟩:=hHo; obtain ⟨fCa,dCa,mCa,FCa⟩:=hCa; obtain ⟨fMi,dMi,mMi,FMi⟩:=hMi; obtain ⟨fF,dF,mF,FF⟩:=hF; obtain ⟨fLw,dLw,mLw,FLw⟩:=hLw; obtain ⟨fAf,dAf,mAf,FAf⟩:=hAf; obtain ⟨fDr,dDr,mDr,FDr⟩:=hDr; obtain ⟨fLm,dLm,mLm,FLm⟩:=hLm; obtain ⟨fZ,dZ,mZ,FZ⟩:=hZ; obtain ⟨fK,dK,mK,FK⟩:=hK; obtain ⟨fBd,dBd,mBd,FBd⟩:=hBd; obtain ⟨fLp,dLp,mLp,FLp⟩:=hLp; obtain ⟨fTb,dTb,mTb,FTb⟩:=hTb; obtain ⟨fFn,dFn,mFn,FFn⟩:=hFn; obtain ⟨fDe,dDe,mDe,FDe⟩:=hDe; obtain ⟨fDu,dDu,mDu,FDu⟩:=hDu; obtain ⟨fRi,dRi,mRi,FRi⟩:=hRi; obtain ⟨fSp,dSp,mSp,FSp⟩:=hSp; have FL:=fun_mk (st:=wF) lL cL kL; refine ⟨fY "law" "law" (kE wF) (iP wF) (aW wF) .none kVL dcL pmL anL cdL ctL,fun s v=> .of_eq rfl,fun base _ _=> ?_⟩; have GWl:=ok_whole (P:=P) (w:=w) (base:=base) FWl zisinstance zint zbool mWl ; have GC:=ok_count (P:=P) (w:=w) (base:=base) FC zrange mC ; have GEa:=ok_each (P:=P) (w:=w) (base:=base) FEa zrange mEa ; have GFi:=ok_fill (P:=P) (w:=w) (base:=base) FFi zrange mFi GC GEa; have GNu:=ok_num (P:=P) (w:=w) (base:=base) FNu mNu GC; have GI:=ok_itself (P:=P) (w:=w) (base:=base) FI mI ; have GA:=zU (P:=P) (w:=w) (base:=base) FA mA ; have GN:=ok_newword (P:=P) (w:=w) (base:=base) FN byself mN GC GI GA; have GB:=zT (P:=P) (w:=w) (base:=base) FB mB ; have GS:=ok_stepon (P:=P) (w:=w) (base:=base) FS mS GB GN; have GNo:=ok_nos45 (P:=P) (w:=w) (base:=base) FNo ztuple mNo GNu GS GFi; have GMo:=ok_moves45 (P:=P) (w:=w) (base:=base) FMo mMo GNo; have GNb:=ok_nbeh45 (P:=P) (w:=w) (base:=base) FNb ztuple mNb ; have GTf:=zK (P:=P) (w:=w) (base:=base) FTf ztuple mTf ; have GNr:=ok_nrow45 (P:=P) (w:=w) (base:=base) FNr mNr GNb; have GIr:=ok_isrow43 (P:=P) (w:=w) (base:=base) FIr zall zlen mIr GWl; have GP:=ok_price (P:=P) (w:=w) (base:=base) FP zsum mP ; have GIp:=ok_ispr43 (P:=P) (w:=w) (base:=base) FIp mIp GIr GP; have GPb:=ok_pbn43 (P:=P) (w:=w) (base:=base) FPb zlen zrange ztuple mPb GFi GIp GNr GTf; have GSd:=yF (P:=P) (w:=w) (base:=base) FSd mSd ; have GSa:=zO (P:=P) (w:=w) (base:=base) FSa zany mSa ; have GCl:=xL (P:=P) (w:=w) (base:=base) FCl mCl GNb GSd; have GHo:=zQ (P:=P) (w:=w) (base:=base) FHo mHo GMo GPb GSa GCl; have GCa:=ok_cellat (P:=P) (w:=w) (base:=base) FCa zlen mCa ; have GMi:=ok_mix45 (P:=P) (w:=w) (base:=base) FMi mMi ; have GF:=zL (P:=P) (w:=w) (base:=base) FF zrange mF ; have GLw:=ok_lw41 (P:=P) (w:=w) (base:=base) FLw mLw ; have GAf:=ok_aft41 (P:=P) (w:=w) (base:=base) FAf mAf GLw; have GDr:=ok_dr41 (P:=P) (w:=w) (base:=base) FDr mDr GMi; have GLm:=ok_lmv41 (P:=P) (w:=w) (base:=base) FLm mLm GF GAf; have GZ:=ok_size41 (P:=P) (w:=w) (base:=base) FZ mZ GMi; have GK:=ok_kit41 (P:=P) (w:=w) (base:=base) FK zrange zint mK GCa GMi GDr; have GBd:=ok_bnd43 (P:=P) (w:=w) (base:=base) FBd zlen mBd ; have GLp:=ok_lpr41 (P:=P) (w:=w) (base:=base) FLp zsum mLp ; have GTb:=ok_tab41 (P:=P) (w:=w) (base:=base) FTb ztuple mTb GF; have GFn:=ok_fnd43 (P:=P) (w:=w) (base:=base) FFn zrange zlen ztuple mFn GF GLm GMi; have GDe:=ok_de43 (P:=P) (w:=w) (base:=base) FDe zlen mDe GLp GTb; have GDu:=ok_du43 (P:=P) (w:=w) (base:=base) FDu ztuple zrange zlen mDu GLm GDe; have GRi:=zI (P:=P) (w:=w) (base:=base) FRi zlist zisinstance zbool mRi GHo GDu; have GSp:=ok_sp43 (P:=P) (w:=w) (base:=base) FSp zlen ztuple mSp GMi GLm; exact ok_law FL zlist GCa GMi GZ GK GBd GFn GHo GRi GSp
end K43
open PySem PySem.W PyProof.Rows
theorem PySem.W.Fast.tw10326310410605622965 : True := trivial
theorem PySem.W.Fast.tw10369283012345833468 : True := trivial
theorem PySem.W.Fast.tw10394052714136479066 : True := trivial
theorem PySem.W.Fast.tw1052820548936989559 : True := trivial
theorem PySem.W.Fast.tw10703196243830725332 : True := trivial
theorem PySem.W.Fast.tw10787463226011976108 : True := trivial
theorem PySem.W.Fast.tw11331624466667562269 : True := trivial
theorem PySem.W.Fast.tw11944880851979568523 : True := trivial
theorem PySem.W.Fast.tw12737665347137257267 : True := trivial
theorem PySem.W.Fast.tw12948482917036775670 : True := trivial
theorem PySem.W.Fast.tw1317200315470016124 : True := trivial
theorem PySem.W.Fast.tw138739310200678714 : True := trivial
theorem PySem.W.Fast.tw14222867474325469432 : True := trivial
theorem PySem.W.Fast.tw1438076093749773111 : True := trivial
theorem PySem.W.Fast.tw14802063595845637355 : True := trivial
theorem PySem.W.Fast.tw15270428003909182837 : True := trivial
theorem PySem.W.Fast.tw15610988886135784780 : True := trivial
theorem PySem.W.Fast.tw16688878634367494215 : True := trivial
theorem PySem.W.Fast.tw16984043841840559803 : True := trivial
theorem PySem.W.Fast.tw17068754768372340841 : True := trivial
theorem PySem.W.Fast.tw17303076441667192017 : True := trivial
theorem PySem.W.Fast.tw17473418170995179476 : True := trivial
theorem PySem.W.Fast.tw17645574034618927874 : True := trivial
theorem PySem.W.Fast.tw18134625951630646137 : True := trivial
theorem PySem.W.Fast.tw18256263818721591993 : True := trivial
theorem PySem.W.Fast.tw2420872376039385523 : True := trivial
theorem PySem.W.Fast.tw2799513255657761266 : True := trivial
theorem PySem.W.Fast.tw3308852618407975891 : True := trivial
theorem PySem.W.Fast.tw3484110427591815177 : True := trivial
theorem PySem.W.Fast.tw3806882515904152727 : True := trivial
theorem PySem.W.Fast.tw3846942606757385078 : True := trivial
theorem PySem.W.Fast.tw4848096166911311821 : True := trivial
theorem PySem.W.Fast.tw4894921857850662773 : True := trivial
theorem PySem.W.Fast.tw4896978915324206135 : True := trivial
theorem PySem.W.Fast.tw5651199419420863355 : True := trivial
theorem PySem.W.Fast.tw6646713617046440043 : True := trivial
theorem PySem.W.Fast.tw7962714899944452628 : True := trivial
theorem PySem.W.Fast.tw8119674402123265078 : True := trivial
theorem PySem.W.Fast.tw8859103444179394434 : True := trivial
theorem PySem.W.Fast.tw8975858071104311923 : True := trivial
theorem PySem.W.Fast.tw9083546333699990224 : True := trivial
theorem PySem.W.Fast.tw9775100045843228427 : True := trivial
set_option maxRecDepth 100000 in
set_option maxHeartbeats 0 in
theorem PySem.Challenge.cw_leastrow_k43_lists_held_holds : PySem.Challenge.rw_leastrow_k43_lists_held.Holds := by
 w_on; o_law; k_head; (case hw=>w_witness2)
 k_fill
 refine DL.walkD (l:=PySem.Challenge.rw_leastrow_k43_lists_held) (k:=8) (x:="_law_script") rfl rfl ⟨rfl,by decide,by decide,rfl⟩ (fun w h Y=>PySem.W.kIn_of Y) ?F
 case F=>
  intro w mg fa h KX G hmg; refine' K43.all_mk KX G hmg ?aL ?lL ?cL ?kL ?nisinstance ?nint ?nbool ?nrange ?ntuple ?nall ?nlen ?nsum ?nany ?nlist ?aBY ?lBY (DL.FI.mk KX G ?a0 ?l0 ?c0 ?k0) (DL.FI.mk KX G ?a1 ?l1 ?c1 ?k1) (DL.FI.mk KX G ?a2 ?l2 ?c2 ?k2) (DL.FI.mk KX G ?a3 ?l3 ?c3 ?k3) (DL.FI.mk KX G ?a4 ?l4 ?c4 ?k4) (DL.FI.mk KX G ?a5 ?l5 ?c5 ?k5) (DL.FI.mk KX G ?a6 ?l6 ?c6 ?k6) (DL.FI.mk KX G ?a7 ?l7 ?c7 ?k7) (DL.FI.mk KX G ?a8 ?l8 ?c8 ?k8) (DL.FI.mk KX G ?a9 ?l9 ?c9 ?k9) (DL.FI.mk KX G ?a10 ?l10 ?c10 ?k10) (DL.FI.mk KX G ?a11 ?l11 ?c11 ?k11) (DL.FI.mk KX G ?a12 ?l12 ?c12 ?k12) (DL.FI.mk KX G ?a13 ?l13 ?c13 ?k13) (DL.FI.mk KX G ?a14 ?l14 ?c14 ?k14) (DL.FI.mk KX G ?a15 ?l15 ?c15 ?k15) (DL.FI.mk KX G ?a16 ?l16 ?c16 ?k16) (DL.FI.mk KX G ?a17 ?l17 ?c17 ?k17) (DL.FI.mk KX G ?a18 ?l18 ?c18 ?k18) (DL.FI.mk KX G ?a19 ?l19 ?c19 ?k19) (DL.FI.mk KX G ?a20 ?l20 ?c20 ?k20) (DL.FI.mk KX G ?a21 ?l21 ?c21 ?k21) (DL.FI.mk KX G ?a22 ?l22 ?c22 ?k22) (DL.FI.mk KX G ?a23 ?l23 ?c23 ?k23) (DL.FI.mk KX G ?a24 ?l24 ?c24 ?k24) (DL.FI.mk KX G ?a25 ?l25 ?c25 ?k25) (DL.FI.mk KX G ?a26 ?l26 ?c26 ?k26) (DL.FI.mk KX G ?a27 ?l27 ?c27 ?k27) (DL.FI.mk KX G ?a28 ?l28 ?c28 ?k28) (DL.FI.mk KX G ?a29 ?l29 ?c29 ?k29) (DL.FI.mk KX G ?a30 ?l30 ?c30 ?k30) (DL.FI.mk KX G ?a31 ?l31 ?c31 ?k31) (DL.FI.mk KX G ?a32 ?l32 ?c32 ?k32) (DL.FI.mk KX G ?a33 ?l33 ?c33 ?k33) (DL.FI.mk KX G ?a34 ?l34 ?c34 ?k34) (DL.FI.mk KX G ?a35 ?l35 ?c35 ?k35) (DL.FI.mk KX G ?a36 ?l36 ?c36 ?k36) (DL.FI.mk KX G ?a37 ?l37 ?c37 ?k37) (DL.FI.mk KX G ?a38 ?l38 ?c38 ?k38) (DL.FI.mk KX G ?a39 ?l39 ?c39 ?k39)
  (case aL=>k_is); (case lL=>k_is); (case cL=>k_is); (case kL=>k_is); (case nisinstance=>k_is); (case nint=>k_is); (case nbool=>k_is); (case nrange=>k_is); (case ntuple=>k_is); (case nall=>k_is); (case nlen=>k_is); (case nsum=>k_is); (case nany=>k_is); (case nlist=>k_is); (case aBY=>k_is); (case lBY=>k_is); (case a0=>k_is); (case l0=>k_is); (case c0=>k_is); (case k0=>k_is); (case a1=>k_is); (case l1=>k_is); (case c1=>k_is); (case k1=>k_is); (case a2=>k_is); (case l2=>k_is); (case c2=>k_is); (case k2=>k_is); (case a3=>k_is); (case l3=>k_is); (case c3=>k_is); (case k3=>k_is); (case a4=>k_is); (case l4=>k_is); (case c4=>k_is); (case k4=>k_is); (case a5=>k_is); (case l5=>k_is); (case c5=>k_is); (case k5=>k_is); (case a6=>k_is); (case l6=>k_is); (case c6=>k_is); (case k6=>k_is); (case a7=>k_is); (case l7=>k_is); (case c7=>k_is); (case k7=>k_is); (case a8=>k_is); (case l8=>k_is); (case c8=>k_is); (case k8=>k_is); (case a9=>k_is); (case l9=>k_is); (case c9=>k_is); (case k9=>k_is); (case a10=>k_is); (case l10=>k_is); (case c10=>k_is); (case k10=>k_is); (case a11=>k_is); (case l11=>k_is); (case c11=>k_is); (case k11=>k_is); (case a12=>k_is); (case l12=>k_is); (case c12=>k_is); (case k12=>k_is); (case a13=>k_is); (case l13=>k_is); (case c13=>k_is); (case k13=>k_is); (case a14=>k_is); (case l14=>k_is); (case c14=>k_is); (case k14=>k_is); (case a15=>k_is); (case l15=>k_is); (case c15=>k_is); (case k15=>k_is); (case a16=>k_is); (case l16=>k_is); (case c16=>k_is); (case k16=>k_is); (case a17=>k_is); (case l17=>k_is); (case c17=>k_is); (case k17=>k_is); (case a18=>k_is); (case l18=>k_is); (case c18=>k_is); (case k18=>k_is); (case a19=>k_is); (case l19=>k_is); (case c19=>k_is); (case k19=>k_is); (case a20=>k_is); (case l20=>k_is); (case c20=>k_is); (case k20=>k_is); (case a21=>k_is); (case l21=>k_is); (case c21=>k_is); (case k21=>k_is); (case a22=>k_is); (case l22=>k_is); (case c22=>k_is); (case k22=>k_is); (case a23=>k_is); (case l23=>k_is); (case c23=>k_is); (case k23=>k_is); (case a24=>k_is); (case l24=>k_is); (case c24=>k_is); (case k24=>k_is); (case a25=>k_is); (case l25=>k_is); (case c25=>k_is); (case k25=>k_is); (case a26=>k_is); (case l26=>k_is); (case c26=>k_is); (case k26=>k_is); (case a27=>k_is); (case l27=>k_is); (case c27=>k_is); (case k27=>k_is); (case a28=>k_is); (case l28=>k_is); (case c28=>k_is); (case k28=>k_is); (case a29=>k_is); (case l29=>k_is); (case c29=>k_is); (case k29=>k_is); (case a30=>k_is); (case l30=>k_is); (case c30=>k_is); (case k30=>k_is); (case a31=>k_is); (case l31=>k_is); (case c31=>k_is); (case k31=>k_is); (case a32=>k_is); (case l32=>k_is); (case c32=>k_is); (case k32=>k_is); (case a33=>k_is); (case l33=>k_is); (case c33=>k_is); (case k33=>k_is); (case a34=>k_is); (case l34=>k_is); (case c34=>k_is); (case k34=>k_is); (case a35=>k_is); (case l35=>k_is); (case c35=>k_is); (case k35=>k_is); (case a36=>k_is); (case l36=>k_is); (case c36=>k_is); (case k36=>k_is); (case a37=>k_is); (case l37=>k_is); (case c37=>k_is); (case k37=>k_is); (case a38=>k_is); (case l38=>k_is); (case c38=>k_is); (case k38=>k_is); (case a39=>k_is); (case l39=>k_is); (case c39=>k_is); (case k39=>k_is)
