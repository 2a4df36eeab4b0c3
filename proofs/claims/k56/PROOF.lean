import PyProof.Rows.All
import Wide.All
import OpenK.AllK
import Wide.FinOn
import Lean
import PyProof.EqAt
import PyProof.EqKinds
import PyProof.TupleCall
import PySem.Challenge.RW_leastrow_k56_whole_rows_met_again
set_option Elab.async false
set_option linter.all false
set_option maxRecDepth 100000
open PySem.W renaming Frag→aA,keepIn→cY,fnOf→dL,mg_none_of→eG,nsIn→eH,codeIn→gY,kitOne→jU,findIn→lQ,mg_of→mH,methodObj→rH
open List renaming length_map→aC,mem_cons_of_mem→aF,mem_cons_self→aG,mem_singleton→aI,getElem?_eq_some_iff→aK,mem_append_right→aN,mem_map→aQ,map_map→aR,size_toArray→aS,length_append→aW,mem_cons→aX,map_cons→bA,mem_of_getElem?→bB,mem_append→bE,map_append→bF,range→bH,getElem?_map→bJ,nodup_append→bM,map_congr_left→bN,getD→bS,nodup_cons→bT,length_cons→bU,filter_eq_self→bZ,mem_append_left→cG,mem_range→cN,mem_singleton_self→cP,extract_eq_take_drop→cR,append_nil→cZ,length_take→dD,not_mem_nil→dE,nodup_nil→dG,eraseIdx_eq_take_drop_succ→dJ,drop_eq_getElem_cons→dQ,mem_flatMap→eA,getElem_map→eC,append_assoc→eD,map_nil→eI,lookup_cons→eJ,getElem_of_mem→eM,take_add_one→eQ,zip_cons_cons→eX,take_length→eY,take_of_length_le→fE,all_eq_true→fM,getElem_mem→fO,replicate→fV,eq_nil_of_length_eq_zero→fW,length_range→gB,getElem?_append_right→gF,getElem?_eq_none→gG,getElem?_append_left→gL,mem_filter→gP,find?_cons→gQ,length_nil→gR,getElem?_of_mem→gS,getElem?_eq_getElem→gW,length_drop→gZ,map_id→iG,length_filter_le→iN,perm_append_comm→iO,getElem_inj→jA,length_pos_iff→jE,mem_of_mem_eraseIdx→jK,pairwise_cons→jO,pairwise_singleton→jT,foldl_append→jZ,take_append_drop→kK,ext_getElem→kM,pairwise_append→kQ,dropLast_concat_getLast→lB,length_zip→lC,filter_map→lD,filterMap_cons→lO,getElem?_range→lP,pairwise_map→mX,map_drop→nE,perm_middle→oE,getElem?_set_self→oH,eraseIdx_sublist→oZ,getElem?_set_ne→pH,mem_of_mem_drop→pI,mem_of_mem_take→pJ,any_cons→rE,map_take→rG,find?_eq_none→rJ,set_eq_take_append_cons_drop→sM,ext_getElem?→sR,filter_congr→sS,zipIdx_cons→uD,any_eq_true→uE,drop_length→uF,length→wL,of_mem_zip→wM,forIn_cons→wN,nil_append→wO,getElem?_zip_eq_some→zZ
open PySem.Heap renaming get?_push_of_some→aE,lt_size→aO,get?_push_size→bG,get?_update_other→dH,get?_update_self→gH,size_push→hG,size_update→oF
open Nat renaming le_of_ble_eq_true→aJ,le_refl→aM,lt_of_lt_of_le→aU,ne_of_lt→bP,lt_of_le_of_lt→cA,zero_le→cD,le_trans→cE,le_of_lt→dW,lt_irrefl→eU,ne_of_gt→fQ,le_succ→iZ,lt_succ_self→kO,lt_succ_of_lt→nF,lt_trans→oQ,pow_le_pow_right→qB,min_self→tF,sub_self→tG,zero_add→tH
open Bool renaming false_ne_true→bI,and_eq_true→bL,false_eq_true→bY,eq_iff_iff→jM,or_eq_true→lE,not_eq_true'→mY,beq_eq_decide_eq→pA
open Option renaming some→cI,map_eq_some_iff→jV
open Array renaming length_toList→cK,toList_append→cV,getElem?_toList→dM,toList_extract→dP,perm_iff_toList_perm→gE,size_extract→jN,toList_push→jX,toList_reverse→kP,toList_inj→tI,toList_map→tJ
open Int renaming emod_lt_of_pos→cS,toNat_natCast→dO,emod_nonneg→dY,ne_of_gt→lR,zero_add→oR,toNat→qC
open PySem.SetTable renaming leap→lX
open PySem.F renaming args_tuple_add_2→mJ,entry_tuple_add→nA,plainAttrs_list→nD,slot_tuple_add→nY,slot_dict_setdefault→tL,slot_list_append→wX,type_list_append→wY,plainAttrs_dict→xX,plain_list_iadd→xY
namespace L2
open PySem PySem.Spec PyProof.Rows
noncomputable abbrev Key:=Sum Int Str
noncomputable def xG:Key→Value→Bool
 | .inl k,v=>Value.isInt k v
 | .inr x,v=>Value.isStrOf x v
noncomputable def keyH (w:World):Key→Int
 | .inl k=>hashInt k
 | .inr x=>hashStr w x
theorem gK:∀ {k:Key} {v:Value},xG k v=true→(∃i t,k=Sum.inl i∧v=Value.int i t)∨(∃x t,k=Sum.inr x∧v=Value.str x t)
 | .inl i,v,h=>by obtain ⟨t,e⟩:=Value.isInt_shape (k:=i) (v:=v) h; exact .inl ⟨i,t,rfl,e⟩
 | .inr x,v,h=>by obtain ⟨t,e⟩:=Value.isStrOf_shape (x:=x) (v:=v) h; exact .inr ⟨x,t,rfl,e⟩
theorem keyIs_int (i:Int) (t:Tok):xG (.inl i) (.int i t)=true:=by simp [xG,Value.isInt]
theorem keyIs_str (x:Str) (t:Tok):xG (.inr x) (.str x t)=true:=by simp [xG,Value.isStrOf]
theorem key_ll (a b:Int):decide ((Sum.inl a:Key)=Sum.inl b)=(a==b):=by
 by_cases e:a=b
 ·subst e; simp
 ·have h:¬ (Sum.inl a:Key)=Sum.inl b:=fun q=>e (Sum.inl.inj q)
  rw [decide_eq_false h]; exact (beq_eq_false_iff_ne.mpr e).symm
theorem key_rr (a b:Str):decide ((Sum.inr a:Key)=Sum.inr b)=decide (a=b):=by
 by_cases e:a=b
 ·subst e; simp
 ·have h:¬ (Sum.inr a:Key)=Sum.inr b:=fun q=>e (Sum.inr.inj q)
  rw [decide_eq_false h,decide_eq_false e]
theorem key_lr (a:Int) (b:Str):decide ((Sum.inl a:Key)=Sum.inr b)=false:=decide_eq_false (fun q=>nomatch q)
theorem key_rl (a:Str) (b:Int):decide ((Sum.inr a:Key)=Sum.inl b)=false:=decide_eq_false (fun q=>nomatch q)
noncomputable def gC (prog:Program) (w:World):PySem.KeyKind prog w Key where
 is:=xG
 hash:=keyH w
 inj:=fun v a b ha hb=>by
  rcases gK ha with ⟨i,t,rfl,rfl⟩ | ⟨x,t,rfl,rfl⟩
  ·rcases gK hb with ⟨j,u,rfl,e⟩ | ⟨y,u,rfl,e⟩
   ·injection e with e1 _; rw [e1]
   ·exact nomatch e
  ·rcases gK hb with ⟨j,u,rfl,e⟩ | ⟨y,u,rfl,e⟩
   ·exact nomatch e
   ·injection e with e1 _; rw [e1]
 byValue:=fun k v h=>by rcases gK h with ⟨i,t,rfl,rfl⟩ | ⟨x,t,rfl,rfl⟩<;>rfl
 pyHash:=fun hv h=>by
  rcases gK hv with ⟨i,t,rfl,rfl⟩ | ⟨x,t,rfl,rfl⟩
  ·exact wpAny_pyHash_int h
  ·exact wpAny_pyHash_str h
 eqBool:=fun hu hv h=>by
  rcases gK hu with ⟨i,t,rfl,rfl⟩ | ⟨x,t,rfl,rfl⟩
  ·rcases gK hv with ⟨j,u,rfl,rfl⟩ | ⟨y,u,rfl,rfl⟩
   ·rw [key_ll] at h; exact wpAny_eqBool_int h
   ·rw [key_lr] at h; exact SeqAt.EqAt.int_str i t y u _ _ _ _ h
  ·rcases gK hv with ⟨j,u,rfl,rfl⟩ | ⟨y,u,rfl,rfl⟩
   ·rw [key_rl] at h; exact SeqAt.EqAt.str_int x t j u _ _ _ _ h
   ·rw [key_rr] at h; exact wpAny_eqBool_str h
 «strs»:=fun k x t v h=>by
  rcases gK h with ⟨i,u,rfl,e⟩ | ⟨y,u,rfl,e⟩
  ·exact nomatch e
  ·injection e with e1 _
   subst e1; cases v<;>rfl
theorem mixKind_int (prog:Program) (w:World) (i:Int) (t:Tok):(gC prog w).is (.inl i) (.int i t)=true:=keyIs_int i t
theorem mixKind_str (prog:Program) (w:World) (x:Str) (t:Tok):(gC prog w).is (.inr x) (.str x t)=true:=keyIs_str x t
inductive V where
 | non | bl (b:Bool) | int (i:Int) | str (x:Str) | byt (b:Array UInt8) | flt (b:UInt64) | ref (a:Addr) | ty (n:String)
 deriving DecidableEq
noncomputable def RelV:V→Value→Prop
 | .non,u=>u=Value.none
 | .bl b,u=>u=Value.bool b
 | .int i,u=>∃t,u=Value.int i t
 | .str x,u=>∃t,u=Value.str x t
 | .byt b,u=>∃t,u=Value.bytes b t
 | .flt b,u=>∃t,u=Value.float b t
 | .ref a,u=>u=Value.ref a
 | .ty n,u=>u=Value.type n
noncomputable abbrev Vals:List V→List Value→Prop:=Paired RelV
theorem Vals.length {xs:List V} {us:List Value} (r:Vals xs us):xs.length=us.length:=Paired.length r
theorem Vals.get:∀ {xs:List V} {us:List Value} {i:Nat} {x:V},Vals xs us→xs[i]? =some x→∃u,us[i]? =some u∧RelV x u
 | _,_,_,_, .nil,e=>by simp at e
 | _,_,0,_, .cons r _,e=>by simp at e; subst e; exact ⟨_,rfl,r⟩
 | _,_,i+1,x, .cons _ t,e=>by obtain ⟨u,h1,h2⟩:=Vals.get (i:=i) (x:=x) t (by simpa using e); exact ⟨u,by simpa using h1,h2⟩
theorem Vals.append:∀ {xs ys:List V} {us ws:List Value},Vals xs us→Vals ys ws→Vals (xs++ys) (us++ws)
 | _,_,_,_, .nil,s=>s
 | _,_,_,_, .cons r t,s=> .cons r (Vals.append t s)
theorem Vals.take:∀ {xs:List V} {us:List Value} (n:Nat),Vals xs us→Vals (xs.take n) (us.take n)
 | _,_,0,_=> .nil
 | _,_,_+1, .nil=> .nil
 | _,_,n+1, .cons r t=> .cons r (Vals.take n t)
theorem Vals.drop:∀ {xs:List V} {us:List Value} (n:Nat),Vals xs us→Vals (xs.drop n) (us.drop n)
 | _,_,0,r=>r
 | _,_,_+1, .nil=> .nil
 | _,_,n+1, .cons _ t=>Vals.drop n t
noncomputable def RelO:Option V→Option Value→Prop
 | some v,some u=>RelV v u
 | none,none=>True
 | _,_=>False
noncomputable def KV {κ:Type}:List (κ × V)→List (κ × Value)→Prop:=Paired fun (p:κ × V) (q:κ × Value)=>p.1=q.1∧RelV p.2 q.2
noncomputable def kV:Key→V
 | .inl i=> .int i
 | .inr x=> .str x
inductive HO where
 /-- a list -/
 | lst (xs:List V)
 /-- a tuple (never changes) -/
 | tup (xs:List V)
 /-- a dict whose keys are ints and texts; one whose keys are tuples of ints and texts (the empty one is both) -/
 | dK (kvs:List (Key × V)) | dT (kvs:List (List Key × V))
 /-- a set of ints:its members,its size -/
 | set (S:Int→Bool) (n:Nat)
 /-- an instance of the class at C,its dict at dx,its attributes -/
 | ins (C dx:Addr) (fs:List (Str × V))
 /-- the dict of the instance at x -/
 | own (x:Addr)
 /-- the dict of an exception -/
 | xd (fs:List (Str × V))
 /-- a bound method,f of x -/
 | met (f x:Addr)
 /-- a range object lo,lo+1, .. below hi -/
 | rng (lo hi:Int)
 /-- a thing that is known to the object (the script; a dict while a loop walks it):read,never written while it is so -/
 | frz (o:Obj) (u:HO)
 /-- a code object's table -/
 | tbl (ps:Array Value)
 /-- any other thing,by what is true of its one object (a def of one's own:SetO a S n:=HO.ext fun h=> ..) -/
 | ext (φ:Heap→Prop)
noncomputable abbrev Hp:=Addr→Option HO
noncomputable def upd (H:Hp) (a:Addr) (o:HO):Hp:=fun b=>if b=a then some o else H b
theorem bV {H:Hp} {a:Addr} {o:HO}:upd H a o a=some o:=by unfold upd; rw [if_pos rfl]
theorem bO {H:Hp} {a b:Addr} {o:HO} (h:b≠a):upd H a o b=H b:=by unfold upd; rw [if_neg h]
theorem cB {H:Hp} {a b:Addr} {o:HO} (h:H a=some o) (h':H b=none):a≠b:=by intro e; subst e; rw [h] at h'; cases h'
noncomputable def IsTupD (h:Heap) (a:Addr) (items:Array Value):Prop:=∃o,h.get? a=some o∧o.cls= .type "tuple"∧(∃n,o.data= .seq items n)∧o.dict=none
theorem IsTupD.tup {h:Heap} {a:Addr} {items:Array Value} (x:IsTupD h a items):IsTup h a items:=let ⟨o,e,c,d,_⟩:=x; ⟨o,e,c,d⟩
theorem IsTupD.new (h:Heap) (items:Array Value):IsTupD (h.push {cls:= .type "tuple",data:= .seq items}) h.objs.size items:=⟨_,bG _ rfl,rfl,⟨_,rfl⟩,rfl⟩
section
variable (P:Program) (w:World)
noncomputable def ObjOk (H:Hp) (h:Heap) (a:Addr):HO→Prop
 | .lst xs=>xs.length≤sizeLine∧∃ (its:List Value) (n:Nat),Vals xs its∧h.get? a=some {cls:= .type "list",data:= .seq its.toArray n}
 | .tup xs=>xs.length≤sizeLine∧∃its:List Value,Vals xs its∧IsTupD h a its.toArray
 | .dK kvs=>kvs.length≤sizeLine∧(a==sysModules)=false∧∃vs,KV kvs vs∧h.DictOf (gC P w) a vs
 | .dT kvs=>kvs.length≤sizeLine∧(a==sysModules)=false∧∃xs:List (List Key × Addr × Value),
   Paired (fun (p:List Key × V) (q:List Key × Addr × Value)=>p.1=q.1∧H q.2.1=some (.tup (p.1.map kV))∧RelV p.2 q.2.2) kvs xs∧
   ∃o es ep,h.get? a=some o∧o.ExactDict∧o.data= .dict es ep∧es.toList=xs.map (entryOfKey (tupleKind (gC P w)))∧(xs.map (·.1)).Nodup
 | .set S n=>h.SetOf (intKind P w) a S n
 | .ins C dx fs=>H dx=some (.own a)∧fs.length≤1000∧dx≠a∧h.get? a=some (PySem.W.instObj C dx)∧
   ∃mA,h.Ns1 dx mA∧(∀f,RelO (fs.lookup f) (mA f))∧PySem.Within mA (fs.map (·.1))
 | .own _=>∃o,h.get? a=some o
 | .xd fs=>∃mA,h.Ns1 a mA∧∀f,RelO (fs.lookup f) (mA f)
 | .rng lo hi=>∃t u v,h.get? a=some {cls:= .type "range",data:= .fields #[.int lo t, .int hi u, .int 1 v]}
 | .frz o u=>h.get? a=some o∧ObjOk H h a u
 | .tbl ps=>h.get? a=some {cls:= .none,data:= .fields ps}
 | .met f x=>h.get? a=some (rH (.ref f) (.ref x))
 | .ext φ=>φ h∧(∃o,h.get? a=some o)∧∀h1 h2:Heap,φ h1→(∀o,h1.get? a=some o→h2.get? a=some o)→φ h2
noncomputable def HOk (H:Hp) (h:Heap):Prop:=∀a o,H a=some o→ObjOk P w H h a o
end
section
variable {P:Program} {w:World} {H H':Hp} {h h':Heap} {a:Addr} {o:HO}
theorem ObjOk.lt (x:ObjOk P w H h a o):a<h.objs.size:=by
 cases o with
 | lst xs=>obtain ⟨_,_,_,_,e⟩:=x; exact aO e
 | tup xs=>obtain ⟨_,_,_,p⟩:=x; exact p.tup.lt
 | dK kvs=>obtain ⟨_,_,_,_,o,_,_,e,_⟩:=x; exact aO e
 | dT kvs=>obtain ⟨_,_,_,_,o,_,_,e,_⟩:=x; exact aO e
 | set S n=>obtain ⟨o,_,_,_,e,_⟩:=x; exact aO e
 | ins C dx fs=>obtain ⟨_,_,_,e,_⟩:=x; exact aO e
 | own y=>obtain ⟨_,e⟩:=x; exact aO e
 | xd fs=>obtain ⟨_,⟨_,_,_,e,_⟩,_⟩:=x; exact aO e
 | rng lo hi=>obtain ⟨_,_,_,e⟩:=x; exact aO e
 | frz ob u=>obtain ⟨e,_⟩:=x; exact aO e
 | tbl ps=>exact aO (show h.get? a=some _ from x)
 | met f y=>exact aO (show h.get? a=some _ from x)
 | ext φ=>obtain ⟨_,⟨_,e⟩,_⟩:=x; exact aO e
theorem Paired.mapP {α β:Type} {F G:α→β→Prop}:∀ {l₁:List α} {l₂:List β},Paired F l₁ l₂→(∀a b,F a b→G a b)→Paired G l₁ l₂
 | _,_, .nil,_=> .nil
 | _,_, .cons r t,f=> .cons (f _ _ r) (Paired.mapP t f)
theorem ObjOk.stay (x:ObjOk P w H h a o) (k:∀b u,(b=a∨H b=some (.own a))→h.get? b=some u→h'.get? b=some u)
  (ho:∀b,H b=some (.own a)→H' b=some (.own a)) (ht:∀b xs,H b=some (.tup xs)→H' b=some (.tup xs)):ObjOk P w H' h' a o:=by
 induction o with
 | lst xs=>obtain ⟨z,its,n,r,e⟩:=x; exact ⟨z,its,n,r,k _ _ (.inl rfl) e⟩
 | tup xs=>obtain ⟨z,its,r,ob,e,c⟩:=x; exact ⟨z,its,r,ob,k _ _ (.inl rfl) e,c⟩
 | dK kvs=>obtain ⟨z,y,vs,r,ob,es,ep,e,c⟩:=x; exact ⟨z,y,vs,r,ob,es,ep,k _ _ (.inl rfl) e,c⟩
 | dT kvs=>obtain ⟨z,y,xs,r,ob,es,ep,e,c⟩:=x; exact ⟨z,y,xs,Paired.mapP r fun p q z=>⟨z.1,ht _ _ z.2.1,z.2.2⟩,ob,es,ep,k _ _ (.inl rfl) e,c⟩
 | set S n=>obtain ⟨ob,es,ep,t,e,c⟩:=x; exact ⟨ob,es,ep,t,k _ _ (.inl rfl) e,c⟩
 | ins C dx fs=>obtain ⟨d,z,ne,e,mA,⟨od,es,ep,e2,c⟩,r⟩:=x; exact ⟨ho _ d,z,ne,k _ _ (.inl rfl) e,mA,⟨od,es,ep,k _ _ (.inr d) e2,c⟩,r⟩
 | own y=>obtain ⟨ob,e⟩:=x; exact ⟨ob,k _ _ (.inl rfl) e⟩
 | xd fs=>obtain ⟨mA,⟨od,es,ep,e,c⟩,r⟩:=x; exact ⟨mA,⟨od,es,ep,k _ _ (.inl rfl) e,c⟩,r⟩
 | rng lo hi=>obtain ⟨t,u,v,e⟩:=x; exact ⟨t,u,v,k _ _ (.inl rfl) e⟩
 | frz ob u ih=>obtain ⟨e,q⟩:=x; exact ⟨k _ _ (.inl rfl) e,ih q⟩
 | tbl ps=>have e:h.get? a=some {cls:= .none,data:= .fields ps}:=x; show h'.get? a=some {cls:= .none,data:= .fields ps}; exact k a _ (.inl rfl) e
 | met f y=>have e:h.get? a=some (rH (.ref f) (.ref y)):=x; show h'.get? a=some (rH (.ref f) (.ref y)); exact k a _ (.inl rfl) e
 | ext φ=>obtain ⟨p,⟨o,e⟩,st⟩:=x; exact ⟨st _ _ p fun o q=>k _ _ (.inl rfl) q,⟨o,k _ _ (.inl rfl) e⟩,st⟩
theorem HOk.lt (x:HOk P w H h) (e:H a=some o):a<h.objs.size:=(x a o e).lt
theorem HOk.fresh (x:HOk P w H h) (e:h.objs.size≤a):H a=none:=by
 cases q:H a with
 | none=>rfl
 | some u=>exact absurd (aU (x.lt q) e) (eU _)
theorem HOk.kept (x:HOk P w H h) (k:∀b u,h.get? b=some u→h'.get? b=some u):HOk P w H h':=fun a o e=>(x a o e).stay (fun b u _ q=>k b u q) (fun _ q=>q) fun _ _ q=>q
theorem HOk.laid (x:HOk P w H h) (k:∀b u,h.get? b=some u→h'.get? b=some u) (hp:h.objs.size≤a) (new:ObjOk P w (upd H a o) h' a o):HOk P w (upd H a o) h':=fun b u e=>by
 have hn:=x.fresh hp
 by_cases hb:b=a
 ·subst hb; rw [bV] at e; cases e; exact new
 ·rw [bO hb] at e; exact (x b u e).stay (fun c v _ q=>k c v q) (fun c q=>by rw [bO (cB q hn)]; exact q) fun c xs q=>by rw [bO (cB q hn)]; exact q
end
noncomputable def Rd (H:Hp) (a:Addr) (u:HO):Prop:=H a=some u∨∃o,H a=some (.frz o u)
theorem Rd.ok {P:Program} {w:World} {H:Hp} {h:Heap} {a:Addr} {u:HO} (r:Rd H a u) (x:HOk P w H h):ObjOk P w H h a u:=by
 rcases r with r | ⟨o,r⟩
 ·exact x a u r
 ·obtain ⟨_,q⟩:=x a _ r; exact q
noncomputable def Mut:Option HO→Prop
 | some (.lst _)=>True
 | some (.dK _)=>True
 | some (.dT _)=>True
 | some (.set _ _)=>True
 | some (.ins _ _ _)=>True
 | some (.ext _)=>True
 | _=>False
section
variable {P:Program} {w:World} {H:Hp} {h h':Heap} {x e:Addr} {o':HO}
theorem HOk.write (ok:HOk P w H h) (mu:Mut (H x)) (he:e=x∨H e=some (.own x)) (k:∀b u,b≠e→h.get? b=some u→h'.get? b=some u) (heo:∃u,h'.get? e=some u)
  (new:ObjOk P w (upd H x o') h' x o'):HOk P w (upd H x o') h':=fun b u q=>by
 have nown:∀c y,H c=some (.own y)→c≠x:=fun c y r z=>by subst z; rw [r] at mu; exact mu
 have ntup:∀c xs,H c=some (.tup xs)→c≠x:=fun c xs r z=>by subst z; rw [r] at mu; exact mu
 by_cases hb:b=x
 ·subst hb; rw [bV] at q; cases q; exact new
 ·rw [bO hb] at q
  by_cases hbe:b=e
  ·have q':H b=some (.own x):=by
    rcases he with z | z
    ·exact absurd (hbe.trans z) hb
    ·rw [hbe]; exact z
   rw [q] at q'; cases q'; obtain ⟨v,hv⟩:=heo; exact ⟨v,by rw [hbe]; exact hv⟩
  ·refine (ok b u q).stay (fun c v hc r=>k c v ?_ r) (fun c r=>by rw [bO (nown c b r)]; exact r) fun c xs r=>by rw [bO (ntup c xs r)]; exact r
   rcases hc with rfl | hc
   ·exact hbe
   ·rintro rfl
    rcases he with z | z
    ·exact nown c b hc z
    ·rw [hc] at z; cases z; exact hb rfl
end
structure Un (fs ex:List Addr) (H H':Hp) (h h':Heap):Prop where
 keep:∀b o,h.get? b=some o→H b=none→b∉fs→b∉ex→h'.get? b=some o
 slot:∀b o,h.get? b=some o→H b=none→b∈fs→b∉ex→∃sl,h'.get? b=some {o with slots:=sl}
 free:∀b o,h.get? b=some o→H b=none→b∉ex→H' b=none
 there:∀b o,h.get? b=some o→b∉ex→∃o',h'.get? b=some o'
 tups:∀b xs,H b=some (.tup xs)→H' b=some (.tup xs)
 frzs:∀b o u,H b=some (.frz o u)→H' b=some (.frz o u)
 tbls:∀b ps,H b=some (.tbl ps)→∃more,H' b=some (.tbl (ps++more))
section
variable {fs fs' ex ex':List Addr} {H H1 H2:Hp} {h h1 h2 h':Heap} {a x e:Addr} {o:HO}
theorem Un.any (u:Un fs ex H H1 h h1) {b:Addr} {ob:Obj} (q:h.get? b=some ob) (n:H b=none) (hx:b∉ex):∃sl,h1.get? b=some {ob with slots:=sl}:=by
 by_cases hb:b∈fs
 ·exact u.slot b ob q n hb hx
 ·exact ⟨ob.slots,u.keep b ob q n hb hx⟩
theorem Un.kept (k:∀b u,h.get? b=some u→h'.get? b=some u):Un fs ex H H h h':=
 ⟨fun b ob q _ _ _=>k b ob q,fun b ob q _ _ _=>⟨ob.slots,k b ob q⟩,fun _ _ _ n _=>n,fun b ob q _=>⟨ob,k b ob q⟩,fun _ _ q=>q,fun _ _ _ q=>q,fun _ ps q=>⟨#[],by rw [q]; simp⟩⟩
theorem Un.refl:Un fs ex H H h h:=Un.kept fun _ _ q=>q
theorem Un.laid (k:∀b u,h.get? b=some u→h'.get? b=some u) (hp:h.objs.size≤a) (hn:H a=none):Un fs ex H (upd H a o) h h' where
 keep:=fun b u q _ _ _=>k b u q
 slot:=fun b u q _ _ _=>⟨u.slots,k b u q⟩
 free:=fun b u q n _=>by rw [bO (bP (aU (aO q) hp))]; exact n
 there:=fun b u q _=>⟨u,k b u q⟩
 tups:=fun b xs q=>by rw [bO (cB q hn)]; exact q
 frzs:=fun b u xs q=>by rw [bO (cB q hn)]; exact q
 tbls:=fun b ps q=>⟨#[],by rw [bO (cB q hn),q]; simp⟩
theorem Un.write (mu:Mut (H x)) (he:e=x∨H e=some (.own x)) (k:∀b u,b≠e→h.get? b=some u→h'.get? b=some u) (heo:∃u,h'.get? e=some u):Un fs ex H (upd H x o) h h':=by
 have hx:∀b,H b=none→b≠x:=fun b n z=>by subst z; rw [n] at mu; exact mu
 have hb:∀b,H b=none→b≠e:=fun b n z=>by
  subst z
  rcases he with r | r
  ·exact hx b n r
  ·rw [n] at r; cases r
 have hm:∀b u,H b=some u→¬ Mut (some u)→b≠x:=fun b u q nm z=>by subst z; rw [q] at mu; exact nm mu
 refine ⟨fun b u q n _ _=>k b u (hb b n) q,fun b u q n _ _=>⟨u.slots,k b u (hb b n) q⟩,fun b u q n _=>by rw [bO (hx b n)]; exact n,fun b u q _=> ?_,
  fun b xs q=>by rw [bO (hm b _ q fun z=>z)]; exact q,fun b u xs q=>by rw [bO (hm b _ q fun z=>z)]; exact q,fun b ps q=>⟨#[],by rw [bO (hm b _ q fun z=>z),q]; simp⟩⟩
 by_cases hbe:b=e
 ·subst hbe; exact heo
 ·exact ⟨u,k b u hbe q⟩
end
noncomputable def trk (h:Heap) (H:Hp):List Addr:=(bH h.objs.size).filter fun a=>(H a).isSome
noncomputable def zN (h:Heap) (H:Hp):Heap:=PySem.W.hideAll h (trk h H)
theorem hidT_size (h:Heap) (H:Hp):(zN h H).objs.size=h.objs.size:=PySem.W.hideAll_size _ _
theorem hidT_get {h:Heap} {H:Hp} {b:Addr} {o:Obj} (e:h.get? b=some o) (n:H b=none):(zN h H).get? b=some o:=
 PySem.W.hideAll_get _ e fun hm=>by have q:(H b).isSome=true:=(gP.mp hm).2; rw [n] at q; simp at q
theorem of_hidT {h:Heap} {H:Hp} {b:Addr} {o:Obj} (e:(zN h H).get? b=some o):h.get? b=some o∧H b=none:=by
 have e':h.get? b=some o:=PySem.W.of_hideAll (trk h H) e; refine ⟨e', ?_⟩; cases q:H b with
 | none=>rfl
 | some x=>have hm:b∈trk h H:=gP.mpr ⟨cN.mpr (aO e'),by simp [q]⟩; have z:(zN h H).get? b=none:=PySem.W.hideAll_none (trk h H) hm; rw [z] at e; cases e
noncomputable def allNews (g h:Heap) (L:Addr):List (Addr × Obj):=(bH h.objs.size).filterMap fun a=>if a=L∨(g.get? a).isSome=true then none else (h.get? a).map fun o=>(a,o)
noncomputable def rest (g h:Heap) (L d:Addr):List (Addr × Obj):=(allNews g h L).filter fun p=>decide (p.1≠d)
structure Mod (K:aA) (mg:Str→Option Value) (base:Heap):Prop where
 kin:K.In base
 glob:base.Ns mainGlobals mg
 blt:∃mb,base.Ns builtinsNs mb∧∀x:Str,x≠"__name__"→mb x=bootBuiltins x
 nolimit:base.NoLimit
noncomputable def zY:HO→Prop
 | .lst _=>False
 | .ext _=>False
 | _=>True
structure Cx where
 prog:Program
 w:World
 K:aA
 mg:Str→Option Value
 base:Heap
 A:Around
 N:List Str
 s₀:Shared
 H₀:Hp
 env:Env
 outer:List Env
 stack:List Env
 ex:List Addr
 fn:Str→Bool
 calm:Bool
 pn:List (Addr × Obj)
 xe:Value→Shared→Prop
 B₀:Hp:=H₀
 hB:∀b o,H₀ b=some o→zY o→B₀ b=some o:=by intro b o e _; exact e
noncomputable def frs (l:List Env):List Addr:=l.filterMap (·.frame)
noncomputable abbrev Cx.fs (X:Cx):List Addr:=frs X.outer
noncomputable def Vis (sc:Scope) (x:Str):Prop:=sc.names.lookup x=some .local∨sc.names.lookup x=some .cell∨sc.names.lookup x=some .free
noncomputable def Loc (sc:Scope) (x:Str):Prop:=sc.names.lookup x=some .local∨sc.names.lookup x=some .cell
noncomputable def Look (env:Env) (h:Heap) (m:Str→Option Value) (x:Str) (u:Value):Prop:=
 (env.kindOf x=some .local∧m x=some u)∨((env.kindOf x=some .cell∨env.kindOf x=some .free)∧∃c,env.cells.lookup x=some c∧h.IsCell c (some u))
structure Cx.Ok (X:Cx):Prop where
 mod:Mod X.K X.mg X.base
 kind:X.env.scope.kind= .function
 glob:X.env.globals=mainGlobals
 blt:X.env.builtins=builtinsNs
 above:X.s₀.heap.objs.size≤X.env.locals
 inj:∀x y c,X.env.cells.lookup x=some c→X.env.cells.lookup y=some c→x=y
 has:∀x,(X.env.kindOf x=some .cell∨X.env.kindOf x=some .free)→∃c,X.env.cells.lookup x=some c
 cab:∀x c,X.fn x=true→X.env.cells.lookup x=some c→X.s₀.heap.objs.size≤c
 hd:X.calm=true→X.A.handled=none
 frames:X.A.frames=some X.stack
 stk:X.stack=X.outer∨(X.stack=X.env::X.outer∧X.env.frame=some X.env.locals)
 exf:∀b∈X.ex,b≠X.env.locals∧∀x c,X.env.cells.lookup x=some c→c≠b
 bs:∀b o,X.base.get? b=some o→X.s₀.heap.get? b=some o∧X.H₀ b=none
 bsz:X.base.objs.size≤X.s₀.heap.objs.size
 noex:∀b o,X.base.get? b=some o→b∉X.ex
 exfs:∀b∈X.ex,b∉X.fs
 funs:X.s₀.heap.FunFrames X.base X.outer
 frf:∀b∈X.fs,X.H₀ b=none
structure Inv (X:Cx) (pins:List (Addr × Obj)) (σ:List (Option V)) (H:Hp) (s:Shared):Prop where
 ok:X.Ok
 os:s.os=X.s₀.os
 bare:AllBare s.gens
 base:Un X.fs X.ex X.H₀ H X.s₀.heap s.heap
 loc:∃m,s.heap.Ns X.env.locals m∧∀ (i:Nat) (x:Str) (v:V),X.N[i]? =some x→σ[i]? =some (some v)→Vis X.env.scope x→∃u,RelV v u∧Look X.env s.heap m x u
 cell:∀x c,X.env.cells.lookup x=some c→∃v,s.heap.IsCell c v
 free:H X.env.locals=none
 freeC:∀x c,X.env.cells.lookup x=some c→H c=none
 pin:∀p∈X.pn++pins,s.heap.get? p.1=some p.2∧H p.1=none∧p.1≠X.env.locals∧p.1∉X.fs∧∀v,p.2.data≠ .cell v
 hok:HOk X.prog X.w H s.heap
 len:σ.length=X.N.length
section
variable {X:Cx} {pins:List (Addr × Obj)} {σ:List (Option V)} {H H':Hp} {s:Shared} {h':Heap}
theorem Cx.Ok.nofr (ok:X.Ok) {b:Addr} {o:Obj} (e:X.base.get? b=some o):b∉X.fs:=fun hb=>by have:=(ok.funs.mem hb).1; rw [e] at this; cases this
theorem Inv.bs (I:Inv X pins σ H s):∀b o,X.base.get? b=some o→s.heap.get? b=some o∧H b=none:=fun b o e=>⟨I.base.keep b o (I.ok.bs b o e).1 (I.ok.bs b o e).2 (I.ok.nofr e) (I.ok.noex b o e),I.base.free b o (I.ok.bs b o e).1 (I.ok.bs b o e).2 (I.ok.noex b o e)⟩
theorem Inv.bk (I:Inv X pins σ H s):∀b o,X.base.get? b=some o→s.heap.get? b=some o:=fun b o e=>(I.bs b o e).1
theorem Inv.mod (I:Inv X pins σ H s):Mod X.K X.mg X.base:=I.ok.mod
theorem Inv.kIn (I:Inv X pins σ H s):X.K.In s.heap:=I.ok.mod.kin.keeps I.bk
theorem Inv.lt (I:Inv X pins σ H s):X.env.locals<s.heap.objs.size:=let ⟨_,hn,_⟩:=I.loc; hn.lt
theorem Inv.sz (I:Inv X pins σ H s):X.s₀.heap.objs.size≤s.heap.objs.size:=cE I.ok.above (dW I.lt)
theorem Inv.nofs (I:Inv X pins σ H s) {a:Addr} (h:s.heap.objs.size≤a):a∉X.fs:=fun hb=>by obtain ⟨_,o,ho,_⟩:=I.ok.funs.mem hb; exact absurd (aU (aO ho) (cE I.sz h)) (eU _)
theorem Inv.cne (I:Inv X pins σ H s):∀x c,X.env.cells.lookup x=some c→c≠X.env.locals:=fun x c e z=>by obtain ⟨v,o,ho,hd⟩:=I.cell x c e; obtain ⟨m,⟨o',es,ep,ho',hd',_⟩,_⟩:=I.loc; rw [z,ho'] at ho; cases ho; rw [hd'] at hd; cases hd
theorem Inv.funs (I:Inv X pins σ H s):s.heap.FunFrames X.base X.outer:=by
 have all:∀ (l:List Env),(∀b∈frs l,b∈X.fs)→X.s₀.heap.FunFrames X.base l→s.heap.FunFrames X.base l:=by
  intro l
  induction l with
  | nil=>intro _ _; trivial
  | cons env r ih=>
   intro hs hl; obtain ⟨hk,⟨L,o,hf,hn,ho,hd⟩,hr⟩:=hl; have hL:L∈X.fs:=hs L (by unfold frs; rw [lO,hf]; exact aG); obtain ⟨sl,e⟩:=I.base.slot L o ho (I.ok.frf L hL) hL fun z=>I.ok.exfs L z hL
   exact ⟨hk,⟨L,_,hf,hn,e,hd⟩,ih (fun b hb=>hs b (by unfold frs; rw [lO,hf]; exact aF _ hb)) hr⟩
 exact all X.outer (fun _ hb=>hb) I.ok.funs
theorem Inv.stack (I:Inv X pins σ H s):s.heap.FunFrames X.base X.stack:=by
 rcases I.ok.stk with e | ⟨e,hf⟩
 ·rw [e]; exact I.funs
 ·rw [e]; obtain ⟨m,hn,_⟩:=I.loc; refine .cons (by rw [I.ok.kind]; decide) hf hn ?_ I.funs; exact Heap.get?_none_of_le (cE I.ok.bsz I.ok.above)
theorem Inv.stkSub (I:Inv X pins σ H s):∀b∈frs X.stack,b∈X.env.locals::X.fs:=fun b hb=>by
 rcases I.ok.stk with e | ⟨e,hf⟩
 ·rw [e] at hb; exact aF _ hb
 ·rw [e] at hb; unfold frs at hb; rw [lO,hf] at hb; exact hb
theorem Inv.stkFree (I:Inv X pins σ H s):∀b∈frs X.stack,H b=none:=fun b hb=>by
 rcases aX.mp (I.stkSub b hb) with e | hb
 ·rw [e]; exact I.free
 ·obtain ⟨_,o,ho,_⟩:=I.ok.funs.mem hb; exact I.base.free b o ho (I.ok.frf b hb) fun z=>I.ok.exfs b z hb
theorem Inv.step {g':Array GenState} {t':Nat} {d':Drawn} {ch:List Addr} (I:Inv X pins σ H s)
  (hch:∀b∈ch,(b∈X.ex∨X.s₀.heap.objs.size≤b)∧b≠X.env.locals∧(∀x c,X.env.cells.lookup x=some c→c≠b)∧∀p∈X.pn++pins,p.1≠b)
  (keep:∀b o,b≠X.env.locals→b∉X.fs→b∉ch→s.heap.get? b=some o→H b=none→h'.get? b=some o)
  (slot:∀b o,b≠X.env.locals→b∈X.fs→b∉ch→s.heap.get? b=some o→H b=none→∃sl,h'.get? b=some {o with slots:=sl}) (free:∀b o,b∉ch→s.heap.get? b=some o→H b=none→H' b=none)
  (there:∀b o,b∉ch→s.heap.get? b=some o→∃o',h'.get? b=some o')
  (tups:∀b xs,H b=some (.tup xs)→H' b=some (.tup xs)) (frzs:∀b o u,H b=some (.frz o u)→H' b=some (.frz o u)) (tbls:∀b ps,H b=some (.tbl ps)→∃more,H' b=some (.tbl (ps++more)))
  (ns:∀m,s.heap.Ns X.env.locals m→h'.Ns X.env.locals m) (hok:HOk X.prog X.w H' h') (hg:AllBare g'):
  Inv X pins σ H' {s with heap:=h',gens:=g',drawn:=d',toks:=t'}:=by
 have neL:∀b o,X.s₀.heap.get? b=some o→b≠X.env.locals:=fun b o e=>bP (aU (aO e) I.ok.above)
 have neC:∀b o,X.s₀.heap.get? b=some o→b∉X.ex→b∉ch:=fun b o e hx hb=>by
  rcases (hch b hb).1 with z | z
  ·exact hx z
  ·exact absurd (aU (aO e) z) (eU _)
 have cellK:∀x c,X.env.cells.lookup x=some c→∀v,s.heap.IsCell c v→h'.IsCell c v:=fun x c e v ⟨o,ho,hd⟩=>by
  have nch:c∉ch:=fun z=>(hch c z).2.2.1 x c e rfl
  by_cases hc:c∈X.fs
  ·obtain ⟨sl,q⟩:=slot c o (I.cne x c e) hc nch ho (I.freeC x c e); exact ⟨_,q,hd⟩
  ·exact ⟨o,keep c o (I.cne x c e) hc nch ho (I.freeC x c e),hd⟩
 refine ⟨I.ok,I.os,hg,⟨fun b o e n hb hx=> ?_,fun b o e n hb hx=> ?_,fun b o e n hx=> ?_,fun b o e hx=> ?_,fun b xs e=>tups b xs (I.base.tups b xs e),fun b o xs e=>frzs b o xs (I.base.frzs b o xs e),fun b ps e=> ?_⟩, ?_,fun x c e=> ?_, ?_,fun x c e=> ?_,fun p hp=> ?_,hok,I.len⟩
 ·exact keep b o (neL b o e) hb (neC b o e hx) (I.base.keep b o e n hb hx) (I.base.free b o e n hx)
 ·obtain ⟨sl,e1⟩:=I.base.slot b o e n hb hx; obtain ⟨sl',e2⟩:=slot b _ (neL b o e) hb (neC b o e hx) e1 (I.base.free b o e n hx); exact ⟨sl',e2⟩
 ·obtain ⟨o',e1⟩:=I.base.there b o e hx; exact free b o' (neC b o e hx) e1 (I.base.free b o e n hx)
 ·obtain ⟨o',e1⟩:=I.base.there b o e hx; exact there b o' (neC b o e hx) e1
 ·obtain ⟨m1,e1⟩:=I.base.tbls b ps e; obtain ⟨m2,e2⟩:=tbls b _ e1; exact ⟨m1++m2,by rw [e2,Array.append_assoc]⟩
 ·obtain ⟨m,hn,hl⟩:=I.loc; refine ⟨m,ns m hn,fun i x v e1 e2 e3=> ?_⟩; obtain ⟨u,r,l⟩:=hl i x v e1 e2 e3; refine ⟨u,r, ?_⟩
  rcases l with l | ⟨k,c,e,z⟩
  ·exact .inl l
  ·exact .inr ⟨k,c,e,cellK x c e _ z⟩
 ·obtain ⟨v,z⟩:=I.cell x c e; exact ⟨v,cellK x c e v z⟩
 ·obtain ⟨m,⟨o,_,_,ho,_⟩,_⟩:=I.loc; exact free _ o (fun z=>(hch _ z).2.1 rfl) ho I.free
 ·obtain ⟨v,o,ho,hd⟩:=I.cell x c e; exact free c o (fun z=>(hch c z).2.2.1 x c e rfl) ho (I.freeC x c e)
 ·obtain ⟨e,n,ne,nf,d⟩:=I.pin p hp; have nch:p.1∉ch:=fun z=>(hch p.1 z).2.2.2 p hp rfl
  exact ⟨keep p.1 p.2 ne nf nch e n,free p.1 p.2 nch e n,ne,nf,d⟩
theorem Inv.un {t':Nat} (I:Inv X pins σ H s) (u:Un X.fs [] H H' s.heap h') (hok:HOk X.prog X.w H' h'):Inv X pins σ H' {s with heap:=h',toks:=t'}:=by
 obtain ⟨m,⟨o,es,ep,ho,r⟩,_⟩:=id I.loc; obtain ⟨sl,hL⟩:=u.any ho I.free (by simp)
 exact I.step (g':=s.gens) (d':=s.drawn) (ch:=[]) (fun _ z=>nomatch z) (fun b o _ hb _ e n=>u.keep b o e n hb (by simp)) (fun b o _ hb _ e n=>u.slot b o e n hb (by simp)) (fun b o _ e n=>u.free b o e n (by simp)) (fun b o _ e=>u.there b o e (by simp)) u.tups u.frzs u.tbls (fun m' hm=>by
  obtain ⟨o',es',ep',ho',r'⟩:=hm; rw [ho] at ho'; cases ho'
  exact ⟨_,es',ep',hL,r'⟩) hok I.bare
theorem Inv.call {g':Array GenState} {t':Nat} {d':Drawn} {ch:List Addr} (I:Inv X pins σ H s) (u:Un (frs X.stack) ch H H' s.heap h') (hok:HOk X.prog X.w H' h') (hg:AllBare g')
  (hch:∀b∈ch,(b∈X.ex∨X.s₀.heap.objs.size≤b)∧b≠X.env.locals∧(∀x c,X.env.cells.lookup x=some c→c≠b)∧∀p∈X.pn++pins,p.1≠b):
  Inv X pins σ H' {s with heap:=h',gens:=g',drawn:=d',toks:=t'}:=by
 obtain ⟨m,⟨o,es,ep,ho,r⟩,_⟩:=id I.loc; obtain ⟨sl,hL⟩:=u.any ho I.free fun z=>(hch _ z).2.1 rfl
 exact I.step (ch:=ch) hch (fun b o hL hb hc e n=>u.keep b o e n (fun z=>(aX.mp (I.stkSub b z)).elim hL hb) hc) (fun b o _ _ hc e n=>u.any e n hc) (fun b o hc e n=>u.free b o e n hc) (fun b o hc e=>u.there b o e hc) u.tups u.frzs u.tbls (fun m' hm=>by
  obtain ⟨o',es',ep',ho',r'⟩:=hm; rw [ho] at ho'; cases ho'
  exact ⟨_,es',ep',hL,r'⟩) hok hg
theorem Inv.turned {t':Nat} {it:Addr} (I:Inv X pins σ H s) (k:∀b o,b≠it→s.heap.get? b=some o→h'.get? b=some o) (hn:H it=none) (hL:it≠X.env.locals)
  (h1:it∈X.ex∨X.s₀.heap.objs.size≤it) (h2:∀x c,X.env.cells.lookup x=some c→c≠it) (h3:∀p∈X.pn++pins,p.1≠it):Inv X pins σ H {s with heap:=h',toks:=t'}:=by
 have nit:∀b u,H b=some u→b≠it:=fun b u e z=>by rw [z,hn] at e; cases e
 refine I.step (g':=s.gens) (d':=s.drawn) (ch:=[it]) (fun b hb=> ?_) (fun b o _ _ hc e _=>k b o (fun z=>hc (by simp [z])) e) (fun b o _ _ hc e _=>⟨o.slots,k b o (fun z=>hc (by simp [z])) e⟩) (fun _ _ _ _ n=>n)
  (fun b o hc e=>⟨o,k b o (fun z=>hc (by simp [z])) e⟩) (fun _ _ e=>e) (fun _ _ _ e=>e) (fun b ps e=>⟨#[],by rw [e]; simp⟩) (fun m hm=> ?_) (fun b u e=> ?_) I.bare
 ·have e:b=it:=by simpa using hb
  subst e; exact ⟨h1,hL,h2,h3⟩
 ·obtain ⟨o,es,ep,ho,r⟩:=hm; exact ⟨o,es,ep,k _ o (Ne.symm hL) ho,r⟩
 ·refine (I.hok b u e).stay (fun c v hc q=>k c v ?_ q) (fun _ q=>q) fun _ _ q=>q
  rcases hc with z | z
  ·rw [z]; exact nit b u e
  ·exact nit c _ z
theorem Inv.tok (I:Inv X pins σ H s) (t:Nat):Inv X pins σ H {s with toks:=t}:=I.un (h':=s.heap) (t':=t) Un.refl I.hok
theorem Inv.kept {t':Nat} (I:Inv X pins σ H s) (k:∀b u,s.heap.get? b=some u→h'.get? b=some u):Inv X pins σ H {s with heap:=h',toks:=t'}:=I.un (Un.kept k) (I.hok.kept k)
theorem Inv.laid {a:Addr} {o:HO} {t':Nat} (I:Inv X pins σ H s) (k:∀b u,s.heap.get? b=some u→h'.get? b=some u) (hp:s.heap.objs.size≤a) (new:ObjOk X.prog X.w (upd H a o) h' a o):
  Inv X pins σ (upd H a o) {s with heap:=h',toks:=t'}:=I.un (Un.laid k hp (I.hok.fresh hp)) (I.hok.laid k hp new)
theorem Inv.write {x e:Addr} {o:HO} {t':Nat} (I:Inv X pins σ H s) (mu:Mut (H x)) (he:e=x∨H e=some (.own x)) (k:∀b u,b≠e→s.heap.get? b=some u→h'.get? b=some u) (heo:∃u,h'.get? e=some u)
  (new:ObjOk X.prog X.w (upd H x o) h' x o):Inv X pins σ (upd H x o) {s with heap:=h',toks:=t'}:=I.un (Un.write mu he k heo) (I.hok.write mu he k heo new)
theorem Inv.pins_of {pins':List (Addr × Obj)} (I:Inv X pins σ H s) (h:∀p∈pins',s.heap.get? p.1=some p.2∧H p.1=none∧p.1≠X.env.locals∧p.1∉X.fs∧∀v,p.2.data≠ .cell v):Inv X pins' σ H s:=
 ⟨I.ok,I.os,I.bare,I.base,I.loc,I.cell,I.free,I.freeC,fun p hp=>(bE.mp hp).elim (fun z=>I.pin p (cG _ z)) (h p),I.hok,I.len⟩
theorem nodup_ix {N:List Str} (hN:N.Nodup) {i j:Nat} {x:Str} (a:N[i]? =some x) (b:N[j]? =some x):i=j:=by obtain ⟨h1,e1⟩:=aK.mp a; obtain ⟨h2,e2⟩:=aK.mp b; exact (jA hN).mp (e1.trans e2.symm)
theorem store_ok2 {M:Model} {A:Around} {E:Value→Shared→Prop} {i:Nat} {x:Str} {v:V} {u:Value} {Q:Unit→Shared→Prop} (I:Inv X pins σ H s) (hN:X.N.Nodup) (hi:X.N[i]? =some x) (hx:Loc X.env.scope x) (r:RelV v u)
  (h:∀s',Inv X pins (σ.set i (some v)) H s'→(∃a,Heap.SameBut a s.heap s'.heap∧(a=X.env.locals∨X.env.cells.lookup x=some a))→Q () s') (hf:X.fn x=true∨X.env.scope.names.lookup x=some .local:=by first | exact .inl rfl | exact .inr rfl | assumption):wpAny M A (storeName X.env x u) Q E s:=by
 obtain ⟨m,hn,hl⟩:=id I.loc; have hcls:(X.env.scope.kind== .class || (X.env.scope.kind== .module && X.env.locals !=X.env.globals))=false:=by rw [I.ok.kind]; rfl
 have hiσ:i<σ.length:=by rw [I.len]; exact (aK.mp hi).1
 have cne:=I.cne
 have tracked:∀ {a:Addr} {h':Heap},(∃o,s.heap.get? a=some o∧H a=none)→Heap.SameBut a s.heap h'→HOk X.prog X.w H h':=fun {a h'} ha hs b ob e=>by
  obtain ⟨_,_,hfree⟩:=ha; refine (I.hok b ob e).stay (fun c w' hc q=>(hs.2 c ?_).trans q) (fun _ q=>q) fun _ _ q=>q
  rintro rfl
  rcases hc with rfl | hc
  ·rw [hfree] at e; cases e
  ·rw [hfree] at hc; cases hc
 rcases hx with hk | hk
 ·refine wpAny_storeName_local hk hn (fun h' hn' hs=> ?_) hcls; obtain ⟨oL,_,_,hoL,_⟩:=id hn; refine h _ ⟨I.ok,I.os,I.bare,⟨fun b o e n hb hx=> ?_,fun b o e n hb hx=> ?_,I.base.free,fun b o e hx=> ?_,I.base.tups,I.base.frzs,I.base.tbls⟩,⟨_,hn',fun j y v' e1 e2 e3=> ?_⟩,fun y c e=> ?_,I.free,I.freeC,fun p hp=> ?_,tracked ⟨oL,hoL,I.free⟩ hs,by simpa using I.len⟩ ⟨_,hs, .inl rfl⟩
  ·exact (hs.2 b (bP (aU (aO e) I.ok.above))).trans (I.base.keep b o e n hb hx)
  ·obtain ⟨sl,e1⟩:=I.base.slot b o e n hb hx; exact ⟨sl,(hs.2 b (bP (aU (aO e) I.ok.above))).trans e1⟩
  ·obtain ⟨o',e1⟩:=I.base.there b o e hx; exact ⟨o',(hs.2 b (bP (aU (aO e) I.ok.above))).trans e1⟩
  ·by_cases hj:j=i
   ·subst hj; rw [hi] at e1; cases e1; rw [oH hiσ] at e2; cases e2; exact ⟨u,r, .inl ⟨hk,by simp⟩⟩
   ·rw [pH (Ne.symm hj)] at e2; obtain ⟨u',r',q⟩:=hl j y v' e1 e2 e3; refine ⟨u',r', ?_⟩
    rcases q with ⟨k,e⟩ | ⟨k,c,e,z⟩
    ·refine .inl ⟨k, ?_⟩; have:y≠x:=fun e=>hj (nodup_ix hN e1 (e▸hi))
     simp [this,e]
    ·exact .inr ⟨k,c,e,z.sameBut hs (cne y c e)⟩
  ·obtain ⟨w',z⟩:=I.cell y c e; exact ⟨w',z.sameBut hs (cne y c e)⟩
  ·obtain ⟨e,n,ne,nf,d⟩:=I.pin p hp; exact ⟨(hs.2 p.1 ne).trans e,n,ne,nf,d⟩
 ·have hfn:X.fn x=true:=by
   rcases hf with z | z
   ·exact z
   ·rw [z] at hk; cases hk
  obtain ⟨c,hc⟩:=I.ok.has x (.inl hk); obtain ⟨w',z⟩:=I.cell x c hc; refine wpAny_storeName_cell I.ok.kind hk hc z (fun h' hc' hs=> ?_); obtain ⟨oc,hoc,hocd⟩:=id z; refine h {s with heap:=h'} ⟨I.ok,I.os,I.bare,⟨fun b o e n hb hx=> ?_,fun b o e n hb hx=> ?_,I.base.free,fun b o e hx=> ?_,I.base.tups,I.base.frzs,I.base.tbls⟩,⟨m,hn.sameBut hs (Ne.symm (cne x c hc)),fun j y v' e1 e2 e3=> ?_⟩,fun y c' e=> ?_,I.free,I.freeC,fun p hp=> ?_,tracked ⟨oc,hoc,I.freeC x c hc⟩ hs,by simpa using I.len⟩ ⟨c,hs, .inr hc⟩
  ·exact (hs.2 b (bP (aU (aO e) (I.ok.cab x c hfn hc)))).trans (I.base.keep b o e n hb hx)
  ·obtain ⟨sl,e1⟩:=I.base.slot b o e n hb hx; exact ⟨sl,(hs.2 b (bP (aU (aO e) (I.ok.cab x c hfn hc)))).trans e1⟩
  ·obtain ⟨o',e1⟩:=I.base.there b o e hx; exact ⟨o',(hs.2 b (bP (aU (aO e) (I.ok.cab x c hfn hc)))).trans e1⟩
  ·by_cases hj:j=i
   ·subst hj; rw [hi] at e1; cases e1; rw [oH hiσ] at e2; cases e2; exact ⟨u,r, .inr ⟨.inl hk,c,hc,hc'⟩⟩
   ·rw [pH (Ne.symm hj)] at e2; obtain ⟨u',r',q⟩:=hl j y v' e1 e2 e3; refine ⟨u',r', ?_⟩
    rcases q with q | ⟨k,c',e,z'⟩
    ·exact .inl q
    ·refine .inr ⟨k,c',e,z'.sameBut hs ?_⟩; rintro rfl; exact hj (nodup_ix hN e1 (I.ok.inj _ _ _ e hc▸hi))
  ·by_cases hcc:c'=c
   ·subst hcc; exact ⟨_,hc'⟩
   ·obtain ⟨w2,z2⟩:=I.cell y c' e; exact ⟨w2,z2.sameBut hs hcc⟩
  ·obtain ⟨e,n,ne,nf,d⟩:=I.pin p hp; refine ⟨(hs.2 p.1 ?_).trans e,n,ne,nf,d⟩; intro q; rw [q,hoc] at e; have q':oc=p.2:=cI.inj e; exact d w' (by rw [← q']; exact hocd)
theorem vR {M:Model} {A:Around} {E:Value→Shared→Prop} {i:Nat} {x:Str} {v:V} {u:Value} {Q:Unit→Shared→Prop} (I:Inv X pins σ H s) (hN:X.N.Nodup) (hi:X.N[i]? =some x) (hx:Loc X.env.scope x) (r:RelV v u)
  (h:∀s',Inv X pins (σ.set i (some v)) H s'→Q () s') (hf:X.fn x=true∨X.env.scope.names.lookup x=some .local:=by first | exact .inl rfl | exact .inr rfl | assumption):wpAny M A (storeName X.env x u) Q E s:=
 store_ok2 I hN hi hx r (fun s' I' _=>h s' I') hf
theorem Inv.call' {s':Shared} {ch:List Addr} (I:Inv X pins σ H s) (ho:s'.os=s.os) (u:Un (frs X.stack) ch H H' s.heap s'.heap) (hok:HOk X.prog X.w H' s'.heap) (hg:AllBare s'.gens)
  (hch:∀b∈ch,(b∈X.ex∨X.s₀.heap.objs.size≤b)∧b≠X.env.locals∧(∀x c,X.env.cells.lookup x=some c→c≠b)∧∀p∈X.pn++pins,p.1≠b):Inv X pins σ H' s':=by
 obtain ⟨h',g',d',t',o'⟩:=s'; have e:o'=s.os:=ho; subst e; exact I.call (g':=g') (t':=t') (d':=d') u hok hg hch
end
noncomputable abbrev XK:=Value→Option Addr→Hp→Prop
noncomputable abbrev St:=List (Option V)
noncomputable abbrev VK:=V→Hp→Prop
noncomputable abbrev TE:=St→Hp→VK→Prop
noncomputable abbrev TT:=St→Hp→(Bool→Hp→Prop)→Prop
noncomputable abbrev TA:=St→Hp→(List V→Hp→Prop)→Prop
structure sT where
 nx:St→Hp→Prop
 rt:VK
 bk:St→Hp→Prop:=fun _ _=>False
 ct:St→Hp→Prop:=fun _ _=>False
noncomputable abbrev TS:=sT→St→Hp→Prop
noncomputable def EP (X:Cx) (pins:List (Addr × Obj)) (σ:St) (Q:VK) (u:Value) (s':Shared):Prop:=∃v H',Inv X pins σ H' s'∧RelV v u∧Q v H'
noncomputable def TP (X:Cx) (pins:List (Addr × Obj)) (σ:St) (Q:Bool→Hp→Prop) (b:Bool) (s':Shared):Prop:=∃H',Inv X pins σ H' s'∧Q b H'
noncomputable def AP (X:Cx) (pins:List (Addr × Obj)) (σ:St) (Q:List V→Hp→Prop) (us:List Value) (s':Shared):Prop:=∃vs H',Inv X pins σ H' s'∧Vals vs us∧Q vs H'
noncomputable def SP (X:Cx) (pins:List (Addr × Obj)) (D:sT) (f:Flow) (s':Shared):Prop:=
 match f with
 | .next=>∃σ' H',Inv X pins σ' H' s'∧D.nx σ' H'
 | .brk=>∃σ' H',Inv X pins σ' H' s'∧D.bk σ' H'
 | .cont=>∃σ' H',Inv X pins σ' H' s'∧D.ct σ' H'
 | .ret u=>∃v σ' H',Inv X pins σ' H' s'∧RelV v u∧D.rt v H'
noncomputable def PE (X:Cx) (e:Expr) (t:TE):Prop:=
 ∀ (pins:List (Addr × Obj)) (s:Shared) (σ:St) (H:Hp) (Q:VK),Inv X pins σ H s→t σ H Q→wpAny (model X.prog X.w) X.A (eval e X.env) (EP X pins σ Q) X.xe s
noncomputable def PT (X:Cx) (e:Expr) (t:TT):Prop:=
 ∀ (pins:List (Addr × Obj)) (s:Shared) (σ:St) (H:Hp) (Q:Bool→Hp→Prop),Inv X pins σ H s→t σ H Q→wpAny (model X.prog X.w) X.A (isTrue e X.env (eval e X.env)) (TP X pins σ Q) X.xe s
noncomputable def PW (X:Cx) (e:Expr) (t:TT):Prop:=
 ∀ (whole:Sem Value) (pins:List (Addr × Obj)) (s:Shared) (σ:St) (H:Hp) (Q:Bool→Hp→Prop),Inv X pins σ H s→t σ H Q→wpAny (model X.prog X.w) X.A (isTrue e X.env whole) (TP X pins σ Q) X.xe s
theorem PW.pt {X:Cx} {e:Expr} {t:TT} (h:PW X e t):PT X e t:=h _
noncomputable def PA (X:Cx) (es:List Expr) (t:TA):Prop:=
 ∀ (pos:Pos) (pins:List (Addr × Obj)) (s:Shared) (σ:St) (H:Hp) (Q:List V→Hp→Prop),Inv X pins σ H s→t σ H Q→wpAny (model X.prog X.w) X.A (spliced (backTo pos (starEach es X.env))) (AP X pins σ Q) X.xe s
noncomputable def PS (X:Cx) (st:Stmt) (t:TS):Prop:=
 ∀ (pins:List (Addr × Obj)) (s:Shared) (σ:St) (H:Hp) (D:sT),Inv X pins σ H s→t D σ H→wpAny (model X.prog X.w) X.A (exec st X.env) (SP X pins D) X.xe s
noncomputable def PSs (X:Cx) (st:List Stmt) (t:TS):Prop:=
 ∀ (pins:List (Addr × Obj)) (s:Shared) (σ:St) (H:Hp) (D:sT),Inv X pins σ H s→t D σ H→wpAny (model X.prog X.w) X.A (execs st X.env) (SP X pins D) X.xe s
theorem thn {α:Type} {t:Sem α} {Q Q':α→Shared→Prop} {M:Model} {A:Around} {E:Value→Shared→Prop} {s:Shared} (h:wpAny M A t Q E s) (hQ:∀a s,Q a s→Q' a s):wpAny M A t Q' E s:=wpAny_mono h hQ fun _ _ x=>x
section
variable {X:Cx}
noncomputable def mG (i:Nat):TE:=fun σ H Q=>∃v,σ[i]? =some (some v)∧Q v H
noncomputable def tC (v:V):TE:=fun _ H Q=>Q v H
theorem pe_var {i:Nat} {x:Str} {pos:Pos} (hN:X.N[i]? =some x) (hv:Vis X.env.scope x) (hd:(x==("__debug__":Str))=false:=by decide) (hcd:(x==("__classdict__":Str))=false:=by decide):PE X (.Name x pos) (mG i):=by
 intro pins s σ H Q I h; obtain ⟨v,e,h⟩:=h; obtain ⟨m,hn,hl⟩:=I.loc; obtain ⟨u,r,l⟩:=hl i x v hN e hv; have fin:EP X pins σ Q u s:=⟨v,H,I,r,h⟩
 rcases l with ⟨hk,hm⟩ | ⟨hk,c,hc,hcell⟩
 ·exact wpAny_Name (wpAny_loadName_local I.ok.kind hk hn hm fin) hd
 ·rcases hk with hk | hk
  ·exact wpAny_Name (wpAny_loadName_cell I.ok.kind hk hc hcell fin) hd
  ·exact wpAny_Name (wpAny_loadName_free I.ok.kind hk hc hcell fin hcd) hd
theorem pe_int {i j pos}:PE X (.Constant (.int i) j pos) (tC (.int i)):=fun _ _ _ H _ I h=>wpAny_Constant_int ⟨.int i,H,I.tok _,⟨_,rfl⟩,h⟩
theorem pe_bl {b j pos}:PE X (.Constant (.bool b) j pos) (tC (.bl b)):=fun _ _ _ H _ I h=>Constant_bool ⟨.bl b,H,I,rfl,h⟩
theorem pe_non {j pos}:PE X (.Constant .none j pos) (tC .non):=fun _ _ _ H _ I h=>Constant_none ⟨.non,H,I,rfl,h⟩
theorem pe_str {x j pos}:PE X (.Constant (.str x) j pos) (tC (.str x)):=fun _ _ _ H _ I h=>Calls.Constant_str ⟨.str x,H,I.tok _,⟨_,rfl⟩,h⟩
noncomputable def Gl (X:Cx) (x:Str):Prop:=X.env.kindOf x=some .globalImplicit
theorem ld_glob {E:Value→Shared→Prop} {pins:List (Addr × Obj)} {s:Shared} {σ:St} {H:Hp} {x:Str} {u:Value} {pos:Pos} {Q:Value→Shared→Prop} (I:Inv X pins σ H s) (hg:Gl X x) (hm:X.mg x=some u) (h:Q u s)
  (hd:(x==("__debug__":Str))=false:=by decide):wpAny (model X.prog X.w) X.A (eval (.Name x pos) X.env) Q E s:=
 Calls.Name_function_global I.ok.kind hg (Calls.loadGlobal_global (by rw [I.ok.glob]; exact I.mod.glob.keeps I.bk) hm h) hd
theorem mD {E:Value→Shared→Prop} {pins:List (Addr × Obj)} {s:Shared} {σ:St} {H:Hp} {x:Str} {u:Value} {pos:Pos} {Q:Value→Shared→Prop} (I:Inv X pins σ H s) (hg:Gl X x) (hm:X.mg x=none) (hv:bootBuiltins x=some u) (h:Q u s)
  (hn:x≠"__name__":=by decide) (hd:(x==("__debug__":Str))=false:=by decide):wpAny (model X.prog X.w) X.A (eval (.Name x pos) X.env) Q E s:=by
 obtain ⟨mb,h1,h2⟩:=I.mod.blt; exact Calls.Name_function_global I.ok.kind hg (Calls.loadGlobal_builtin (by rw [I.ok.glob]; exact I.mod.glob.keeps I.bk) hm (by rw [I.ok.blt]; exact h1.keeps I.bk) ((h2 x hn).trans hv) h) hd
theorem pe_glob {x:Str} {v:V} {u:Value} {pos:Pos} (hg:Gl X x) (hm:X.mg x=some u) (r:RelV v u) (hd:(x==("__debug__":Str))=false:=by decide):PE X (.Name x pos) (tC v):=
 fun _ _ _ H _ I h=>ld_glob I hg hm ⟨v,H,I,r,h⟩ hd
noncomputable def t2I (ta tb:TE) (k:Int→Int→Hp→Prop):St→Hp→Prop:=fun σ H=>ta σ H fun x H1=>tb σ H1 fun y H2=>∃i j,x= .int i∧y= .int j∧k i j H2
variable {a b:Expr} {ta tb:TE} {pos:Pos}
noncomputable def tCmp (p:Int→Int→Bool) (ta tb:TE):TE:=fun σ H Q=>t2I ta tb (fun i j H2=>Q (.bl (p i j)) H2) σ H
noncomputable abbrev tLt:TE→TE→TE:=tCmp fun i j=>decide (i<j)
noncomputable abbrev tLe:TE→TE→TE:=tCmp fun i j=>decide (i≤j)
noncomputable abbrev tGt:TE→TE→TE:=tCmp fun i j=>decide (j<i)
noncomputable abbrev tGe:TE→TE→TE:=tCmp fun i j=>decide (j≤i)
noncomputable abbrev tEqI:TE→TE→TE:=tCmp fun i j=>decide (i=j)
noncomputable abbrev tNeI:TE→TE→TE:=tCmp fun i j=> !decide (i=j)
noncomputable def tB (t:TE):TT:=fun σ H Q=>t σ H fun x H1=>∃c,x= .bl c∧Q c H1
theorem pt_val {e:Expr} {t:TE} (h:PE X e t) (he:∀whole,isTrue e X.env whole=(do let v ← whole; standAt e.pos; holding [v] (truthy v)):=by intro _; rfl):PT X e (tB t):=by intro pins s σ H Q I hw; refine isTrue_plain (thn (h pins s σ H _ I hw) fun v s1 ⟨x,H1,I1,r1,q1⟩=> ?_) (he _); obtain ⟨d,rfl,q⟩:=q1; cases r1; exact wpAny_truthy_bool ⟨H1,I1,q⟩
variable {tA tB':TT} {rest:List Expr}
noncomputable def tAnd (t u:TT):TT:=fun σ H Q=>t σ H fun c H1=>if c=true then u σ H1 Q else Q false H1
noncomputable def tOr (t u:TT):TT:=fun σ H Q=>t σ H fun c H1=>if c=true then Q true H1 else u σ H1 Q
theorem pw_and1 (ha:PT X a tA):PW X (.BoolOp .And [a] pos) tA:=by
 intro wh pins s σ H Q I h; refine isTrue_and (thn (ha pins s σ H Q I h) fun c s1 e=> ?_); cases c with
 | true=>exact isTrue_and_nil e
 | false=>exact e
theorem pw_or1 (ha:PT X a tA):PW X (.BoolOp .Or [a] pos) tA:=by
 intro wh pins s σ H Q I h; refine isTrue_or (thn (ha pins s σ H Q I h) fun c s1 e=> ?_); cases c with
 | false=>exact isTrue_or_nil e
 | true=>exact e
theorem pw_and (ha:PT X a tA) (hb:PW X (.BoolOp .And (b::rest) pos) tB'):PW X (.BoolOp .And (a::b::rest) pos) (tAnd tA tB'):=by
 intro wh pins s σ H Q I h; refine isTrue_and (thn (ha pins s σ H _ I h) fun c s1 ⟨H1,I1,q1⟩=> ?_); cases c with
 | true=>exact hb wh pins s1 σ H1 Q I1 q1
 | false=>exact ⟨H1,I1,q1⟩
theorem pw_or (ha:PT X a tA) (hb:PW X (.BoolOp .Or (b::rest) pos) tB'):PW X (.BoolOp .Or (a::b::rest) pos) (tOr tA tB'):=by
 intro wh pins s σ H Q I h; refine isTrue_or (thn (ha pins s σ H _ I h) fun c s1 ⟨H1,I1,q1⟩=> ?_); cases c with
 | true=>exact ⟨H1,I1,q1⟩
 | false=>exact hb wh pins s1 σ H1 Q I1 q1
noncomputable def tOrV (ta tb:TE):TE:=fun σ H Q=>ta σ H fun x H1=>∃c,x= .bl c∧if c=true then Q (.bl true) H1 else tb σ H1 Q
theorem pe_one {op} {t:TE} (h:PE X a t):PE X (.BoolOp op [a] pos) t:=fun pins s σ H Q I hw=>BoolOp_one (h pins s σ H Q I hw)
theorem pe_or (ha:PE X a ta) (hb:PE X (.BoolOp .Or (b::rest) pos) tb):PE X (.BoolOp .Or (a::b::rest) pos) (tOrV ta tb):=by
 intro pins s σ H Q I h; refine BoolOp_or (thn (ha pins s σ H _ I h) fun v s1 ⟨x,H1,I1,r1,q1⟩=> ?_); obtain ⟨c,rfl,q1⟩:=q1; cases r1; refine wpAny_truthy_bool ?_; cases c with
 | false=>exact hb pins s1 σ H1 Q I1 q1
 | true=>exact ⟨.bl true,H1,I1,rfl,q1⟩
end
noncomputable def SqL (K:aA) (H:Hp) (a:Addr) (xs:List V):Prop:=
 Rd H a (.lst xs)∨
  ∃ (o:Obj) (its:Array Value) (n:Nat),K.lookup a=some o∧o.cls= .type "list"∧o.dict=none∧o.data= .seq its n∧its.size≤sizeLine∧Vals xs its.toList
noncomputable def SqT (K:aA) (H:Hp) (a:Addr) (xs:List V):Prop:=
 Rd H a (.tup xs)∨
  ∃ (o:Obj) (its:Array Value) (n:Nat),K.lookup a=some o∧o.cls= .type "tuple"∧o.data= .seq its n∧its.size≤sizeLine∧Vals xs its.toList
noncomputable def absV:Value→Option V
 | .none=>some .non
 | .bool b=>some (.bl b)
 | .int i _=>some (.int i)
 | .str x _=>some (.str x)
 | .bytes b _=>some (.byt b)
 | .float b _=>some (.flt b)
 | .ref a=>some (.ref a)
 | .type n=>some (.ty n)
 | _=>none
theorem RelV.abs {x:V} {u:Value} (r:RelV x u):absV u=some x:=by
 cases x with
 | non=>cases r; rfl
 | bl _=>cases r; rfl
 | int _=>obtain ⟨t,rfl⟩:=r; rfl
 | str _=>obtain ⟨t,rfl⟩:=r; rfl
 | byt _=>obtain ⟨t,rfl⟩:=r; rfl
 | flt _=>obtain ⟨t,rfl⟩:=r; rfl
 | ref _=>cases r; rfl
 | ty _=>cases r; rfl
theorem RelV.inj {x y:V} {u:Value} (r:RelV x u) (q:RelV y u):x=y:=cI.inj (r.abs.symm.trans q.abs)
theorem Vals.inj:∀ {xs ys:List V} {us:List Value},Vals xs us→Vals ys us→xs=ys
 | _,_,_, .nil, .nil=>rfl
 | _,_,_, .cons r t, .cons r' t'=>by rw [r.inj r',Vals.inj t t']
section
variable {X:Cx} {pins:List (Addr × Obj)} {σ:St} {H:Hp} {s:Shared} {a:Addr} {xs ys:List V}
theorem SqL.of {K:aA} (h:H a=some (.lst xs)):SqL K H a xs:= .inl (.inl h)
theorem SqT.of {K:aA} (h:H a=some (.tup xs)):SqT K H a xs:= .inl (.inl h)
theorem Inv.list (I:Inv X pins σ H s) (h:SqL X.K H a xs):∃its:List Value,Vals xs its∧PlainL s.heap a its.toArray∧xs.length≤sizeLine:=by
 rcases h with h | ⟨o,its,n,hk,hc,hd,hs,hz,r⟩
 ·obtain ⟨z,its,n,r,e⟩:=h.ok I.hok; exact ⟨its,r,⟨_,n,e,rfl,rfl,rfl⟩,z⟩
 ·refine ⟨its.toList,r,⟨o,n,I.kIn a o hk,hc,hd,by simpa using hs⟩, ?_⟩; have e:=r.length; simp only [cK] at e; omega
theorem Inv.tuple (I:Inv X pins σ H s) (h:SqT X.K H a xs):∃its:List Value,Vals xs its∧IsTup s.heap a its.toArray∧xs.length≤sizeLine:=by
 rcases h with h | ⟨o,its,n,hk,hc,hs,hz,r⟩
 ·obtain ⟨z,its,r,p⟩:=h.ok I.hok; exact ⟨its,r,p.tup,z⟩
 ·refine ⟨its.toList,r,⟨o,I.kIn a o hk,hc,n,by simpa using hs⟩, ?_⟩; have e:=r.length; simp only [cK] at e; omega
theorem Inv.list_inj (I:Inv X pins σ H s) (h:SqL X.K H a xs) (h':SqL X.K H a ys):xs=ys:=by
 obtain ⟨its,r,⟨o,n,e,_,_,d⟩,_⟩:=I.list h; obtain ⟨its',r',⟨o',n',e',_,_,d'⟩,_⟩:=I.list h'; rw [e] at e'; cases e'; rw [d] at d'; injection d' with d1 _
 have:its=its':=by simpa using congrArg Array.toList d1
 subst this; exact r.inj r'
theorem Inv.tuple_inj (I:Inv X pins σ H s) (h:SqT X.K H a xs) (h':SqT X.K H a ys):xs=ys:=by
 obtain ⟨its,r,⟨o,e,_,n,d⟩,_⟩:=I.tuple h; obtain ⟨its',r',⟨o',e',_,n',d'⟩,_⟩:=I.tuple h'; rw [e] at e'; cases e'; rw [d] at d'; injection d' with d1 _
 have:its=its':=by simpa using congrArg Array.toList d1
 subst this; exact r.inj r'
end
noncomputable abbrev Cx.wish (X:Cx) (E:Value→Shared→Prop):Cx:={X with xe:=E}
noncomputable abbrev Cx.nox (X:Cx):Cx:=X.wish fun _ _=>False
theorem Cx.Ok.wish {X:Cx} (ok:X.Ok) (E:Value→Shared→Prop):(X.wish E).Ok:=
 ⟨ok.mod,ok.kind,ok.glob,ok.blt,ok.above,ok.inj,ok.has,ok.cab,ok.hd,ok.frames,ok.stk,ok.exf,ok.bs,ok.bsz,ok.noex,ok.exfs,ok.funs,ok.frf⟩
theorem Cx.Ok.unwish {X:Cx} {E:Value→Shared→Prop} (ok:(X.wish E).Ok):X.Ok:=
 ⟨ok.mod,ok.kind,ok.glob,ok.blt,ok.above,ok.inj,ok.has,ok.cab,ok.hd,ok.frames,ok.stk,ok.exf,ok.bs,ok.bsz,ok.noex,ok.exfs,ok.funs,ok.frf⟩
section
variable {X:Cx} {pins:List (Addr × Obj)} {σ:St} {H:Hp} {s:Shared} {E:Value→Shared→Prop}
theorem Inv.wish (I:Inv X pins σ H s) (E:Value→Shared→Prop):Inv (X.wish E) pins σ H s:=⟨I.ok.wish E,I.os,I.bare,I.base,I.loc,I.cell,I.free,I.freeC,I.pin,I.hok,I.len⟩
theorem Inv.unwish (I:Inv (X.wish E) pins σ H s):Inv X pins σ H s:=⟨I.ok.unwish,I.os,I.bare,I.base,I.loc,I.cell,I.free,I.freeC,I.pin,I.hok,I.len⟩
theorem SP.unwish {D:sT} {f:Flow} {s':Shared} (h:SP (X.wish E) pins D f s'):SP X pins D f s':=by
 cases f with
 | next=>obtain ⟨σ',H',I,q⟩:=h; exact ⟨σ',H',I.unwish,q⟩
 | brk=>obtain ⟨σ',H',I,q⟩:=h; exact ⟨σ',H',I.unwish,q⟩
 | cont=>obtain ⟨σ',H',I,q⟩:=h; exact ⟨σ',H',I.unwish,q⟩
 | ret u=>obtain ⟨v,σ',H',I,r,q⟩:=h; exact ⟨v,σ',H',I.unwish,r,q⟩
theorem PSs.nox {st:List Stmt} {t:TS} (h:PSs X.nox st t):PSs X st t:=fun pins s σ H D I hw=>wpAny_mono (h pins s σ H D (I.wish _) hw) (fun _ _ q=>q.unwish) fun _ _ z=>False.elim z
end
section
variable {X:Cx} {st:Stmt} {rest:List Stmt} {t u:TS} {e:Expr} {te:TE} {pos:Pos}
noncomputable def tNext:TS:=fun D σ H=>D.nx σ H
noncomputable def tSeq (t u:TS):TS:=fun D σ H=>t {D with nx:=u D} σ H
theorem pss_nil:PSs X [] tNext:=fun _ _ σ H _ I h=>wpAny_execs_nil ⟨σ,H,I,h⟩
theorem pss_cons (h1:PS X st t) (h2:PSs X rest u):PSs X (st::rest) (tSeq t u):=by
 intro pins s σ H D I h; refine wpAny_execs_cons (thn (h1 pins s σ H {D with nx:=u D} I h) fun f s1 q=> ?_); cases f with
 | next=>obtain ⟨σ',H',I',q⟩:=q; exact h2 pins s1 σ' H' D I' q
 | ret v=>exact q
 | brk=>exact q
 | cont=>exact q
theorem pss_one (h1:PS X st t):PSs X [st] t:=by
 intro pins s σ H D I h; refine wpAny_execs_cons (thn (h1 pins s σ H D I h) fun f s1 q=> ?_); cases f with
 | next=>exact wpAny_execs_nil q
 | ret v=>exact q
 | brk=>exact q
 | cont=>exact q
theorem Inv.quiet {pins:List (Addr × Obj)} {σ:St} {H:Hp} {s:Shared} (I:Inv X pins σ H s):interactive X.env=false:=by simp [interactive,I.ok.kind]
noncomputable def tDrop (te:TE):TS:=fun D σ H=>te σ H fun _ H1=>D.nx σ H1
theorem uC (he:PE X e te) (hs:swapsWith e none pos.line X.env=pure false:=by rfl):PS X (.Expr e pos) (tDrop te):=by intro pins s σ H D I h; exact wpAny_Expr_any (thn (he pins s σ H _ I h) fun v s1 ⟨x,H1,I1,r1,q1⟩=>⟨σ,H1,I1,q1⟩) I.quiet hs
noncomputable def tRet (te:TE):TS:=fun D σ H=>te σ H D.rt
theorem ps_ret (he:PE X e te):PS X (.Return (some e) pos) (tRet te):=by intro pins s σ H D I h; exact wpAny_Return_some (thn (he pins s σ H _ I h) fun v s1 ⟨x,H1,I1,r1,q1⟩=>⟨x,σ,H1,I1,r1,q1⟩)
noncomputable def tIfS (c:TT) (t u:TS):TS:=fun D σ H=>c σ H fun b H1=>if b=true then t D σ H1 else u D σ H1
theorem ps_if {c:Expr} {a b:List Stmt} {tc:TT} (hc:PT X c tc) (ha:PSs X a t) (hb:PSs X b u):PS X (.If c a b pos) (tIfS tc t u):=by
 intro pins s σ H D I h; refine wpAny_If (thn (hc pins s σ H _ I h) fun d s1 ⟨H1,I1,q1⟩=> ?_); cases d with
 | true=>exact ha pins s1 σ H1 D I1 q1
 | false=>exact hb pins s1 σ H1 D I1 q1
end
noncomputable abbrev TG:=V→St→Hp→(St→Hp→Prop)→Prop
noncomputable abbrev TGs:=List V→St→Hp→(St→Hp→Prop)→Prop
noncomputable def PG (X:Cx) (target:Expr) (t:TG):Prop:=
 ∀ (pins:List (Addr × Obj)) (s:Shared) (σ:St) (H:Hp) (v:V) (u:Value) (Q:St→Hp→Prop),Inv X pins σ H s→RelV v u→t v σ H Q→
  wpAny (model X.prog X.w) X.A (assign target X.env u) (fun _ s'=>∃σ' H',Inv X pins σ' H' s'∧Q σ' H') X.xe s
noncomputable def PGs (X:Cx) (ts:List Expr) (t:TGs):Prop:=
 ∀ (pins:List (Addr × Obj)) (s:Shared) (σ:St) (H:Hp) (vs:List V) (us:List Value) (Q:St→Hp→Prop),Inv X pins σ H s→Vals vs us→t vs σ H Q→
  wpAny (model X.prog X.w) X.A (assignInOrder ((assignEach ts X.env).map (·.2)) us) (fun _ s'=>∃σ' H',Inv X pins σ' H' s'∧Q σ' H') X.xe s
noncomputable abbrev TSet:=V→V→V→Hp→(Hp→Prop)→Prop
noncomputable abbrev TIp:=V→V→Hp→VK→Prop
section
variable {X:Cx} {pos:Pos}
noncomputable def gName (i:Nat):TG:=fun v σ H Q=>Q (σ.set i (some v)) H
theorem bW {i:Nat} {x:Str} (hN:X.N.Nodup) (hi:X.N[i]? =some x) (hx:Loc X.env.scope x) (hf:X.fn x=true∨X.env.scope.names.lookup x=some .local:=by first | exact .inl rfl | exact .inr rfl | assumption):PG X (.Name x pos) (gName i):=by intro pins s σ H v u Q I r h; exact wpAny_assign_Name (vR I hN hi hx r (fun s' I'=>⟨_,H,I',h⟩) hf)
noncomputable def gNil:TGs:=fun vs σ H Q=>vs=[]∧Q σ H
noncomputable def gCons (t:TG) (u:TGs):TGs:=fun vs σ H Q=>∃v r,vs=v::r∧t v σ H fun σ' H'=>u r σ' H' Q
theorem kR:PGs X [] gNil:=by intro pins s σ H vs us Q I r h; obtain ⟨e,h⟩:=h; subst e; cases r; exact assignInOrder_nil ⟨σ,H,I,h⟩
theorem eZ {e:Expr} {es:List Expr} {t:TG} {u:TGs} (h1:PG X e t) (h2:PGs X es u)
  (hs:(assignEach (e::es) X.env).map (·.2)=assign e X.env::(assignEach es X.env).map (·.2):=by rfl):PGs X (e::es) (gCons t u):=by
 intro pins s σ H vs us Q I r h; obtain ⟨v,vr,e1,h⟩:=h; subst e1; cases r with
 | cons r rr=>rw [hs]; refine assignInOrder_cons (thn (h1 pins s σ H _ _ _ I r h) fun _ s1 ⟨σ1,H1,I1,q1⟩=> ?_); exact h2 pins s1 σ1 H1 _ _ Q I1 rr q1
noncomputable def gTup (K:aA) (n:Nat) (t:TGs):TG:=fun v σ H Q=>∃a xs,v= .ref a∧SqT K H a xs∧xs.length=n∧t xs σ H Q
theorem pg_tup {es:List Expr} {k:Nat} {t:TGs} {n:Nat} (hc:X.calm=true) (h:PGs X es t)
  (hn:(assignEach es X.env).length=n:=by rfl) (hst:(assignEach es X.env).findIdx? (·.1)=none:=by rfl):PG X (.Tuple es k pos) (gTup X.K n t):=by
 intro pins s σ H v u Q I r hw; obtain ⟨a,xs,e1,hq,hl,hw⟩:=hw; subst e1; cases r; obtain ⟨its,rv,ht,hz⟩:=I.tuple hq; refine assign_Tuple_tuple (I.ok.hd hc) ht (by simp [hn,← hl,rv.length]) hst fun h' hx=> ?_
 have I1:Inv X pins σ H {s with heap:=h'}:=I.kept (t':=s.toks) fun b o e=>hx b o (bP (aO e)) e
 exact h pins _ σ H xs _ Q I1 (by simpa using rv) hw
noncomputable def tAsg (te:TE) (g:TG):TS:=fun D σ H=>te σ H fun x H1=>g x σ H1 D.nx
theorem ps_asg {tg e:Expr} {te:TE} {g:TG} (he:PE X e te) (hg:PG X tg g) (hs:swapsWithSole [tg] e pos.line X.env=pure false:=by rfl) (hw:swappedStores [tg] e X.env=pure none:=by rfl)
  (h1:(assignEach [tg] X.env).map (·.2)=[assign tg X.env]:=by rfl):PS X (.Assign [tg] e pos) (tAsg te g):=by
 intro pins s σ H D I h; refine wpAny_Assign_stores (thn (he pins s σ H _ I h) fun v s1 ⟨x,H1,I1,r1,q1⟩=> ?_) hs hw; rw [h1]; exact thn (hg pins s1 σ H1 x v _ I1 r1 q1) fun _ s2 q=>q
theorem sG {i:Nat} {x:Str} {e:Expr} {te:TE} {pos':Pos} (hN:X.N.Nodup) (hi:X.N[i]? =some x) (hx:Loc X.env.scope x) (he:PE X e te) (hs:swapsWith e (some (.Name x pos')) pos.line X.env=pure false:=by rfl) (hf:X.fn x=true∨X.env.scope.names.lookup x=some .local:=by first | exact .inl rfl | exact .inr rfl | assumption):
  PS X (.Assign [.Name x pos'] e pos) (tAsg te (gName i)):=by
 intro pins s σ H D I h; refine wpAny_Assign_Name (thn (he pins s σ H _ I h) fun v s1 ⟨y,H1,I1,r1,q1⟩=> ?_) hs; exact vR I1 hN hi hx r1 (fun s2 I2=>⟨_,H1,I2,q1⟩) hf
noncomputable def tWhile (c:TT) (tb:TS):TS:=fun D σ H=>∃W:Nat→St→Hp→Prop,(∃m,W m σ H)∧∀m σ H,W m σ H→
 c σ H fun b H1=>if b=true then ∃N:St→Hp→Prop,(∀σ' H',N σ' H'→∃m',m'<m∧W m' σ' H')∧tb {D with nx:=N,ct:=N,bk:=D.nx} σ H1 else D.nx σ H1
theorem ps_while {c:Expr} {body:List Stmt} {tc:TT} {tb:TS} (hp:PassesOwn (model X.prog X.w) X.A X.env X.xe) (hc:PT X c tc) (hb:PSs X body tb):PS X (.While c body [] pos) (tWhile tc tb):=by
 intro pins s σ H D I h; obtain ⟨W,⟨m0,w0⟩,turn⟩:=h; refine wpAny_While (codeAny_whileLoop (fun n s'=>∃σ' H',Inv X pins σ' H' s'∧W n σ' H') ?_ m0 ⟨σ,H,I,w0⟩); rintro n s1 ⟨σ1,H1,I1,w1⟩; refine wpAny_passesOwn hp (thn (hc pins s1 σ1 H1 _ I1 (turn n σ1 H1 w1)) fun b s2 ⟨H2,I2,q2⟩=> ?_); cases b with
 | true=>
  obtain ⟨N,hN,q2⟩:=q2; rw [if_pos rfl]; refine wpAny_passesOwn hp (thn (hb pins s2 σ1 H2 _ I2 q2) fun f s3 q3=> ?_); cases f with
  | next=>obtain ⟨σ3,H3,I3,n3⟩:=q3; obtain ⟨m',hm,w3⟩:=hN σ3 H3 n3; exact ⟨m',hm,σ3,H3,I3,w3⟩
  | cont=>obtain ⟨σ3,H3,I3,n3⟩:=q3; obtain ⟨m',hm,w3⟩:=hN σ3 H3 n3; exact ⟨m',hm,σ3,H3,I3,w3⟩
  | brk=>exact q3
  | ret v=>exact q3
 | false=>rw [if_neg bI]; exact wpAny_execs_nil ⟨σ1,H2,I2,q2⟩
end
structure It where
 go:Nat→Hp→Prop
 yld:Nat→Hp→V→Hp→Prop
 stop:Nat→Hp→Prop
noncomputable def sZ (X:Cx) (pins:List (Addr × Obj)) (H:Hp) (b:Addr):Prop:=
 H b=none∧b≠X.env.locals∧b∉X.fs∧(b∈X.ex∨X.s₀.heap.objs.size≤b)∧(∀x c,X.env.cells.lookup x=some c→c≠b)∧∀p∈X.pn++pins,p.1≠b
theorem Inv.fpOk {X:Cx} {pins:List (Addr × Obj)} {σ:St} {H H':Hp} {s:Shared} {b:Addr} (I:Inv X pins σ H s) (hb:s.heap.objs.size≤b) (hn:H' b=none):sZ X pins H' b:=by
 refine ⟨hn,fQ (aU I.lt hb),I.nofs hb, .inr (cE I.sz hb),fun x c e z=> ?_,fun p hp z=> ?_⟩
 ·obtain ⟨v,q⟩:=I.cell x c e; exact absurd (aU q.lt (by rw [z]; exact hb)) (eU _)
 ·exact absurd (aU (aO (I.pin p hp).1) (by rw [z]; exact hb)) (eU _)
structure Turn (P:Program) (w:World) (K:aA) (tg:Expr) (J:It) (fp:List Addr) (it:Addr) (tn:Nat→Heap→Prop):Prop where
 mem:it∈fp
 obj:∀i h,tn i h→∀b∈fp,∃o,h.get? b=some o∧∀v,o.data≠ .cell v
 keep:∀i h h',tn i h→(∀b∈fp,∀o,h.get? b=some o→h'.get? b=some o)→tn i h'
 item:∀ (X:Cx),X.prog=P→X.w=w→X.K=K→X.calm=true→∀ (i:Nat) (pins:List (Addr × Obj)) (s:Shared) (σ:St) (H:Hp) (E:Value→Shared→Prop),Inv X pins σ H s→(∀b∈fp,sZ X pins H b)→tn i s.heap→J.go i H→
  wpAny (model P w) X.A (pyNext (.ref it)) (fun r s1=>∃u,r=some u∧
   wpAny (model P w) X.A (letOwnedTupleGo tg (.ref it) u) (fun _ s2=>∃x H',Inv X pins σ H' s2∧RelV x u∧J.yld i H x H'∧tn (i+1) s2.heap∧∀b∈fp,H' b=none) E s1) E s
 done:∀ (X:Cx),X.prog=P→X.w=w→X.K=K→X.calm=true→∀ (i:Nat) (pins:List (Addr × Obj)) (s:Shared) (σ:St) (H:Hp) (E:Value→Shared→Prop),Inv X pins σ H s→(∀b∈fp,sZ X pins H b)→tn i s.heap→J.stop i H→
  wpAny (model P w) X.A (pyNext (.ref it)) (fun r s1=>r=none∧Inv X pins σ H s1) E s
 self:∀ (A:Around) (i:Nat) (s:Shared) (Q:Value→Shared→Prop) (E:Value→Shared→Prop),tn i s.heap→Q (.ref it) s→wpAny (model P w) A (pyIter (.ref it)) Q E s
noncomputable abbrev TI:=St→Hp→(It→Hp→Prop)→Prop
noncomputable def PIE (X:Cx) (pins:List (Addr × Obj)) (σ:St) (tg:Expr) (R:It→Hp→Prop) (itv:Value) (s2:Shared):Prop:=
 ∃ (it:Addr) (fp:List Addr) (tn:Nat→Heap→Prop) (J:It) (H':Hp),itv= .ref it∧Inv X pins σ H' s2∧Turn X.prog X.w X.K tg J fp it tn∧tn 0 s2.heap∧(∀b∈fp,sZ X pins H' b)∧R J H'
noncomputable def PI (X:Cx) (tg iter:Expr) (wi:TI):Prop:=
 ∀ (pins:List (Addr × Obj)) (s:Shared) (σ:St) (H:Hp) (R:It→Hp→Prop),Inv X pins σ H s→wi σ H R→
  wpAny (model X.prog X.w) X.A (eval iter X.env) (fun v s1=>wpAny (model X.prog X.w) X.A (pyIter v) (PIE X pins σ tg R) X.xe s1) X.xe s
theorem go_of {M:Model} {A:Around} {E:Value→Shared→Prop} {s:Shared} {tg:Expr} {it:Addr} {u:Value} {o:Obj} {n:String} {vs:Array Value} {Q:Unit→Shared→Prop} (ho:s.heap.get? it=some o) (hc:o.cls= .type n) (hd:o.data= .fields vs)
  (hn:["enumerate","zip","dict_itemiterator","dict_reverseitemiterator","odict_iterator","itertools.zip_longest","itertools.pairwise"].contains n=false) (hQ:Q () s):wpAny M A (letOwnedTupleGo tg (.ref it) u) Q E s:=by
 unfold letOwnedTupleGo
 cases tg<;>first
  | exact wpAny_pure hQ
  | (cases u<;>first
    | exact wpAny_pure hQ
    | (refine wpAny_bind (wpAny_load ho ?_)
       rw [hc,hd]; show wpAny M A (if (["enumerate","zip","dict_itemiterator","dict_reverseitemiterator","odict_iterator","itertools.zip_longest","itertools.pairwise"].contains n && vs[0]? ==some (rawInt _))=true then _ else _) Q E s; rw [if_neg (by intro h; rw [hn,Bool.false_and] at h; cases h)]
       exact wpAny_pure hQ))
noncomputable def Itl (K:aA) (a:Addr):It:=
 ⟨fun i H=>∃xs x,SqL K H a xs∧xs[i]? =some x,fun i H x H'=>H'=H∧∀xs,SqL K H a xs→xs[i]? =some x,fun i H=>∃xs,SqL K H a xs∧xs.length≤i⟩
noncomputable def Itt (K:aA) (a:Addr):It:=
 ⟨fun i H=>∃xs x,SqT K H a xs∧xs[i]? =some x,fun i H x H'=>H'=H∧∀xs,SqT K H a xs→xs[i]? =some x,fun i H=>∃xs,SqT K H a xs∧xs.length≤i⟩
noncomputable def Itr (lo:Int) (n:Nat):It:=⟨fun i _=>i<n,fun i H x H'=>H'=H∧x= .int (lo+i),fun i _=>n≤i⟩
theorem turn_list {P:Program} {w:World} {K:aA} {tg:Expr} (a it:Addr):Turn P w K tg (Itl K a) [it] it (fun i h=>h.IsListIter it a i) where
 mem:=by simp
 obj:=fun i h st b hb=>by
  have e:b=it:=by simpa using hb
  subst e; obtain ⟨o,e,c,d⟩:=st; exact ⟨o,e,fun v z=>by rw [d] at z; cases z⟩
 keep:=fun i h h' st k=>st.at fun o e=>k it (by simp) o e
 item:=by
  intro X hP hw hK hc i pins s σ H E I hf st hg; subst hP hw hK; obtain ⟨xs,x,hq,hx⟩:=hg; obtain ⟨its,rv,p,hz⟩:=I.list hq; obtain ⟨u,hu,ru⟩:=rv.get hx; obtain ⟨f0,f1,f2,f3,f4,f5⟩:=hf it (by simp); refine wpAny_pyNext_list_item st p.isList (x:=u) (by simpa using hu) fun h' st' sb=> ?_
  have I1:Inv X pins σ H {s with heap:=h'}:=I.turned (t':=s.toks) (fun b o hb e=>(sb.2 b hb).trans e) f0 f1 f3 f4 f5; obtain ⟨o,e,c,d⟩:=id st'; exact ⟨u,rfl,go_of (s:={s with heap:=h'}) e c d (by decide) ⟨x,H,I1,ru,⟨rfl,fun ys hy=>by rw [I.list_inj hy hq]; exact hx⟩,st',fun b hb=>(hf b hb).1⟩⟩
 done:=by intro X hP hw hK hc i pins s σ H E I hf st hg; subst hP hw hK; obtain ⟨xs,hq,hx⟩:=hg; obtain ⟨its,rv,p,hz⟩:=I.list hq; obtain ⟨f0,f1,f2,f3,f4,f5⟩:=hf it (by simp); have hl:=rv.length; exact wpAny_pyNext_list_end (I.ok.hd hc) st p.isList (by simp; omega) fun h' eb=>⟨rfl,I.turned (t':=s.toks) (fun b o hb e=>eb b o hb e) f0 f1 f3 f4 f5⟩
 self:=fun _ _ _ _ _ st h=>wpAny_pyIter_listiter st h
theorem turn_tuple {P:Program} {w:World} {K:aA} {tg:Expr} (a it:Addr):Turn P w K tg (Itt K a) [it] it (fun i h=>h.IsTupleIter it a i) where
 mem:=by simp
 obj:=fun i h st b hb=>by
  have e:b=it:=by simpa using hb
  subst e; obtain ⟨o,e,c,d⟩:=st; exact ⟨o,e,fun v z=>by rw [d] at z; cases z⟩
 keep:=fun i h h' st k=>st.at fun o e=>k it (by simp) o e
 item:=by
  intro X hP hw hK hc i pins s σ H E I hf st hg; subst hP hw hK; obtain ⟨xs,x,hq,hx⟩:=hg; obtain ⟨its,rv,p,hz⟩:=I.tuple hq; obtain ⟨u,hu,ru⟩:=rv.get hx; obtain ⟨f0,f1,f2,f3,f4,f5⟩:=hf it (by simp); refine wpAny_pyNext_tuple_item st (show s.heap.IsTuple a its.toArray from p) (x:=u) (by simpa using hu) fun h' st' sb=> ?_
  have I1:Inv X pins σ H {s with heap:=h'}:=I.turned (t':=s.toks) (fun b o hb e=>(sb.2 b hb).trans e) f0 f1 f3 f4 f5; obtain ⟨o,e,c,d⟩:=id st'; exact ⟨u,rfl,go_of (s:={s with heap:=h'}) e c d (by decide) ⟨x,H,I1,ru,⟨rfl,fun ys hy=>by rw [I.tuple_inj hy hq]; exact hx⟩,st',fun b hb=>(hf b hb).1⟩⟩
 done:=by intro X hP hw hK hc i pins s σ H E I hf st hg; subst hP hw hK; obtain ⟨xs,hq,hx⟩:=hg; obtain ⟨its,rv,p,hz⟩:=I.tuple hq; obtain ⟨f0,f1,f2,f3,f4,f5⟩:=hf it (by simp); have hl:=rv.length; exact wpAny_pyNext_tuple_end (I.ok.hd hc) st (show s.heap.IsTuple a its.toArray from p) (by simp; omega) fun h' eb=>⟨rfl,I.turned (t':=s.toks) (fun b o hb e=>eb b o hb e) f0 f1 f3 f4 f5⟩
 self:=fun _ _ _ _ _ st h=>wpAny_pyIter_tupleiter st h
theorem turn_range {P:Program} {w:World} {K:aA} {tg:Expr} (it:Addr) (lo:Int) (n:Nat):Turn P w K tg (Itr lo n) [it] it (fun i h=>IsRangeIter h it (lo+(i:Nat) * 1) ((n:Int) - (i:Nat)) 1) where
 mem:=by simp
 obj:=fun i h st b hb=>by
  have e:b=it:=by simpa using hb
  subst e
  exact ⟨_,st,fun v z=>by
   have z':Data.fields _=Data.cell v:=z
   cases z'⟩
 keep:=fun i h h' st k=>k it (by simp) _ st
 item:=by
  intro X hP hw hK hc i pins s σ H E I hf st hg; subst hP hw hK; obtain ⟨f0,f1,f2,f3,f4,f5⟩:=hf it (by simp); have W:=Walks.range (prog:=X.prog) (w:=X.w) (I.ok.hd hc) it lo 1 n; refine W.item i s _ _ hg st fun v h' tk hv st' kk=> ?_
  obtain ⟨t,rfl⟩:=hv; have I1:Inv X pins σ H {s with heap:=h',toks:=tk}:=I.turned (fun b o hb e=>kk b o (by simpa using hb) e) f0 f1 f3 f4 f5; refine ⟨_,rfl,go_of (s:={s with heap:=h',toks:=tk}) (n:="range_iterator") st' rfl rfl (by decide) ⟨.int (lo+i),H,I1,⟨t, ?_⟩,⟨rfl,rfl⟩,st',fun b hb=>(hf b hb).1⟩⟩; rw [Int.mul_one]
 done:=by intro X hP hw hK hc i pins s σ H E I hf st hg; subst hP hw hK; obtain ⟨f0,f1,f2,f3,f4,f5⟩:=hf it (by simp); exact wpAny_pyNext_range_end (I.ok.hd hc) st (by have:n≤i:=hg; omega) fun h' eb=>⟨rfl,I.turned (t':=s.toks) (fun b o hb e=>eb b o hb e) f0 f1 f3 f4 f5⟩
 self:=fun _ _ _ _ _ st h=>wpAny_pyIter_rangeiter st h
section
variable {X:Cx} {tg:Expr}
noncomputable def iList (K:aA) (tl:TE):TI:=fun σ H R=>tl σ H fun x H1=>∃a,x= .ref a∧(∃xs,SqL K H1 a xs)∧R (Itl K a) H1
noncomputable def iTup (K:aA) (tl:TE):TI:=fun σ H R=>tl σ H fun x H1=>∃a,x= .ref a∧(∃xs,SqT K H1 a xs)∧R (Itt K a) H1
theorem pi_list {l:Expr} {tl:TE} (hl:PE X l tl):PI X tg l (iList X.K tl):=by
 intro pins s σ H R I h; refine thn (hl pins s σ H _ I h) fun v s1 ⟨x,H1,I1,r1,q1⟩=> ?_
 obtain ⟨a,e,⟨xs,hq⟩,q⟩:=q1; subst e; cases r1; obtain ⟨its,rv,p,hz⟩:=I1.list hq; refine wpAny_pyIter_list p.isList ?_; refine ⟨s1.heap.objs.size,[s1.heap.objs.size],_,_,H1,rfl,I1.kept (t':=s1.toks) fun b o e=>aE _ e,turn_list a _,⟨_,bG _ rfl,rfl,rfl⟩,fun b hb=> ?_,q⟩; have e:b=s1.heap.objs.size:=by simpa using hb
 subst e; exact I1.fpOk (aM _) (I1.hok.fresh (aM _))
theorem pi_tup {l:Expr} {tl:TE} (hl:PE X l tl):PI X tg l (iTup X.K tl):=by
 intro pins s σ H R I h; refine thn (hl pins s σ H _ I h) fun v s1 ⟨x,H1,I1,r1,q1⟩=> ?_
 obtain ⟨a,e,⟨xs,hq⟩,q⟩:=q1; subst e; cases r1; obtain ⟨its,rv,p,hz⟩:=I1.tuple hq; refine wpAny_pyIter_tuple (show s1.heap.IsTuple a its.toArray from p) ?_; refine ⟨s1.heap.objs.size,[s1.heap.objs.size],_,_,H1,rfl,I1.kept (t':=s1.toks) fun b o e=>aE _ e,turn_tuple a _,⟨_,bG _ rfl,rfl,rfl⟩,fun b hb=> ?_,q⟩; have e:b=s1.heap.objs.size:=by simpa using hb
 subst e; exact I1.fpOk (aM _) (I1.hok.fresh (aM _))
theorem range_it {pins:List (Addr × Obj)} {σ:St} {H:Hp} {s:Shared} {R:It→Hp→Prop} {E:Value→Shared→Prop} {lo hi:Int} {t u v:Tok} {tk:Nat} (I:Inv X pins σ H s) (h1: -(2^62)≤lo) (h2:lo<2^62) (h3: -(2^62)≤hi) (h4:hi<2^62)
  (q:R (Itr lo (hi - lo).toNat) H):wpAny (model X.prog X.w) X.A (pyIter (.ref s.heap.objs.size)) (PIE X pins σ tg R) E {s with heap:=s.heap.push {cls:= .type "range",data:= .fields #[.int lo t, .int hi u, .int 1 v]},toks:=tk}:=by
 refine wpAny_pyIter_range (IsRange.new ..) (small_one h1 h2 h3 h4) ?_; have I1:Inv X pins σ H {s with heap:=s.heap.push {cls:= .type "range",data:= .fields #[.int lo t, .int hi u, .int 1 v]},toks:=tk}:=I.kept fun b o e=>aE _ e
 refine ⟨(s.heap.push {cls:= .type "range",data:= .fields #[.int lo t, .int hi u, .int 1 v]}).objs.size,[(s.heap.push {cls:= .type "range",data:= .fields #[.int lo t, .int hi u, .int 1 v]}).objs.size],_,_,H,rfl,
  I1.kept (t':=tk) fun b o e=>aE _ e,turn_range _ lo (hi - lo).toNat, ?_,fun b hb=> ?_,q⟩
 ·have e1:lo+((0:Nat):Int) * 1=lo:=by simp
  have e2:(((hi - lo).toNat:Nat):Int) - ((0:Nat):Int)=Builtin.Range.rangeSize lo hi 1:=by rw [rangeSize_one]; split<;>omega
  show IsRangeIter _ _ (lo+((0:Nat):Int) * 1) ((((hi - lo).toNat:Nat):Int) - ((0:Nat):Int)) 1; rw [e1,e2]; exact bG _ rfl
 ·have e:b=(s.heap.push {cls:= .type "range",data:= .fields #[.int lo t, .int hi u, .int 1 v]}).objs.size:=by simpa using hb
  subst e; exact I1.fpOk (aM _) (I1.hok.fresh (aM _))
noncomputable def iRng1 (ta:TA):TI:=fun σ H R=>ta σ H fun vs H1=>∃j:Int,vs=[.int j]∧ -(2^62)≤j∧j<2^62∧R (Itr 0 j.toNat) H1
theorem pi_range1 {a:Expr} {ta:TA} {p pos:Pos} (hg:Gl X "range") (hm:X.mg "range"=none) (ha:PA X [a] ta) (hs:starEach [a] X.env=[(false,eval a X.env)]:=by rfl):PI X tg (.Call (.Name "range" p) [a] [] pos) (iRng1 ta):=by
 intro pins s σ H R I h; refine Call_ (mD I hg hm boot_range (PyProof.Rows.callWith_type1 (thn (ha pos pins s σ H _ I h) fun us s1 ⟨vs,H1,I1,r1,q1⟩=> ?_) hs rfl)); obtain ⟨j,e,q1,q2,q⟩:=q1; subst e; cases r1 with
 | cons r rr=>cases rr; obtain ⟨t,rfl⟩:=r; exact call_range_1 (range_it I1 (by omega) (by omega) q1 q2 (by simpa using q))
noncomputable def tFor (wi:TI) (g:TG) (tb:TS):TS:=fun D σ H=>wi σ H fun J H1=>∃W:Nat→Nat→St→Hp→Prop,(∃m,W 0 m σ H1)∧∀i m σ H,W i m σ H→
 (J.stop i H∧D.nx σ H)∨(J.go i H∧∃N:St→Hp→Prop,(∀σ' H',N σ' H'→∃m',m'<m∧W (i+1) m' σ' H')∧∀x H',J.yld i H x H'→g x σ H' fun σ2 H2=>tb {D with nx:=N,ct:=N,bk:=D.nx} σ2 H2)
noncomputable def nX (fp:List Addr) (h:Heap):List (Addr × Obj):=fp.filterMap fun b=>(h.get? b).map fun o=>(b,o)
theorem jI {fp:List Addr} {h:Heap} {b:Addr} {o:Obj} (hb:b∈fp) (e:h.get? b=some o):(b,o)∈nX fp h:=List.mem_filterMap.mpr ⟨b,hb,by rw [e]; rfl⟩
theorem rY {fp:List Addr} {h:Heap} {p:Addr × Obj} (hp:p∈nX fp h):p.1∈fp∧h.get? p.1=some p.2:=by
 obtain ⟨b,hb,e⟩:=List.mem_filterMap.mp hp; cases q:h.get? b with
 | none=>rw [q] at e; cases e
 | some o=>rw [q] at e; have e':(b,o)=p:=cI.inj e; subst e'; exact ⟨hb,q⟩
theorem Inv.pinned {pins:List (Addr × Obj)} {σ:St} {H:Hp} {s:Shared} {fp:List Addr} (I:Inv X pins σ H s) (hf:∀b∈fp,sZ X pins H b) (ho:∀b∈fp,∃o,s.heap.get? b=some o∧∀v,o.data≠ .cell v):Inv X (pins++nX fp s.heap) σ H s:=
 I.pins_of fun p hp=>(bE.mp hp).elim (fun z=>I.pin p (aN _ z)) fun z=>by obtain ⟨hb,e⟩:=rY z; obtain ⟨f0,f1,f2,_⟩:=hf p.1 hb; obtain ⟨o,e',d⟩:=ho p.1 hb; rw [e] at e'; cases e'; exact ⟨e,f0,f1,f2,d⟩
theorem Inv.unpinned {pins pl:List (Addr × Obj)} {σ:St} {H:Hp} {s:Shared} (I:Inv X (pins++pl) σ H s):Inv X pins σ H s:=I.pins_of fun p hp=>I.pin p (aN _ (cG _ hp))
theorem ps_for {iter:Expr} {body:List Stmt} {wi:TI} {g:TG} {tb:TS} {pos:Pos} (hp:PassesOwn (model X.prog X.w) X.A X.env X.xe) (hc:X.calm=true) (hi:PI X tg iter wi) (hg:PG X tg g) (hb:PSs X body tb)
  (hs:∀x,foldedSetIterable iter X.env x=pure x:=by intro _; rfl):PS X (.For tg iter body [] pos) (tFor wi g tb):=by
 intro pins s σ H D I h; refine wpAny_For (thn (hi pins s σ H _ I h) fun v s1 h1=>thn h1 fun itv s2 h2=> ?_) hs; obtain ⟨it,fp,tn,J,H2,e,I2,T,st2,f2,W,⟨m0,w0⟩,turn⟩:=h2; subst e
 have stat:∀ {H':Hp},(∀b∈fp,H' b=none)→∀b∈fp,sZ X pins H' b:=fun hn b hb=>⟨hn b hb,(f2 b hb).2⟩
 refine codeAny_forLoop_any (fun n s'=>∃i σ' H',Inv X pins σ' H' s'∧tn i s'.heap∧(∀b∈fp,H' b=none)∧W i n σ' H') ?_ m0 ⟨0,σ,H2,I2,st2,fun b hb=>(f2 b hb).1,w0⟩; rintro n s3 ⟨i,σ3,H3,I3,st3,fr3,w3⟩
 rcases turn i n σ3 H3 w3 with ⟨stop,qn⟩ | ⟨go,N,hN,step⟩
 ·refine wpAny_passesOwn hp (thn (T.done X rfl rfl rfl hc i pins s3 σ3 H3 X.xe I3 (stat fr3) st3 stop) fun r s4 ⟨hr,I4⟩=> ?_); subst hr; exact wpAny_execs_nil ⟨σ3,H3,I4,qn⟩
 ·refine wpAny_passesOwn hp (thn (T.item X rfl rfl rfl hc i pins s3 σ3 H3 X.xe I3 (stat fr3) st3 go) fun r s4 ⟨u,hr,h4⟩=> ?_); subst hr; refine wpAny_passesOwn hp (thn h4 fun _ s5 ⟨x,H5,I5,r5,y5,st5,fr5⟩=> ?_); have I5':=I5.pinned (stat fr5) (T.obj _ _ st5); refine wpAny_passesOwn hp (thn (hg _ s5 σ3 H5 x u _ I5' r5 (step x H5 y5)) fun _ s6 ⟨σ6,H6,I6,q6⟩=> ?_); refine wpAny_passesOwn hp (thn (hb _ s6 σ6 H6 _ I6 q6) fun f s7 q7=> ?_)
  have again:∀ {σ7:St} {H7:Hp},Inv X (pins++nX fp s5.heap) σ7 H7 s7→N σ7 H7→∃m,m<n∧∃i σ' H',Inv X pins σ' H' s7∧tn i s7.heap∧(∀b∈fp,H' b=none)∧W i m σ' H':=fun {σ7 H7} I7 n7=>by obtain ⟨m',hm,w7⟩:=hN σ7 H7 n7; refine ⟨m',hm,i+1,σ7,H7,I7.unpinned,T.keep _ _ _ st5 fun b hb o e=>(I7.pin (b,o) (aN _ (aN _ (jI hb e)))).1,fun b hb=> ?_,w7⟩; obtain ⟨o,e,d⟩:=T.obj _ _ st5 b hb; exact (I7.pin (b,o) (aN _ (aN _ (jI hb e)))).2.1
  cases f with
  | next=>obtain ⟨σ7,H7,I7,n7⟩:=q7; exact again I7 n7
  | cont=>obtain ⟨σ7,H7,I7,n7⟩:=q7; exact again I7 n7
  | brk=>obtain ⟨σ7,H7,I7,q7⟩:=q7; exact ⟨σ7,H7,I7.unpinned,q7⟩
  | ret v=>obtain ⟨x7,σ7,H7,I7,r7,q7⟩:=q7; exact ⟨x7,σ7,H7,I7.unpinned,r7,q7⟩
end
noncomputable abbrev R2:=V→V→Hp→VK→Prop
noncomputable def OpR (X:Cx) (f:Value→Value→Sem Value) (r:R2):Prop:=
 ∀ (pins:List (Addr × Obj)) (s:Shared) (σ:St) (H:Hp) (x y:V) (v u:Value) (Q:VK),Inv X pins σ H s→RelV x v→RelV y u→r x y H Q→
  wpAny (model X.prog X.w) X.A (f v u) (EP X pins σ Q) X.xe s
noncomputable def oB (X:Cx) (f:Value) (r:List V→Hp→VK→Prop):Prop:=
 ∀ (pins:List (Addr × Obj)) (s:Shared) (σ:St) (H:Hp) (xs:List V) (us:List Value) (Q:VK),Inv X pins σ H s→Vals xs us→r xs H Q→
  wpAny (model X.prog X.w) X.A (call f us) (EP X pins σ Q) X.xe s
noncomputable def tOp (r:R2) (ta tb:TE):TE:=fun σ H Q=>ta σ H fun x H1=>tb σ H1 fun y H2=>r x y H2 Q
noncomputable def rI (C:Int→Int→Prop) (g:Int→Int→V):R2:=fun x y H Q=>∃i j,x= .int i∧y= .int j∧C i j∧Q (g i j) H
noncomputable def rI0 (g:Int→Int→V):R2:=fun x y H Q=>∃i j,x= .int i∧y= .int j∧Q (g i j) H
noncomputable def rU (g:Int→V):V→Hp→VK→Prop:=fun x H Q=>∃i,x= .int i∧Q (g i) H
section
variable {X:Cx} {a b c:Expr} {ta tb tc:TE} {pos:Pos}
theorem binT (ha:PE X a ta) (hb:PE X b tb) {pins:List (Addr × Obj)} {s:Shared} {σ:St} {H:Hp} {R:V→V→Hp→Prop} (I:Inv X pins σ H s)
  (h:ta σ H fun x H1=>tb σ H1 fun y H2=>R x y H2) {Q:Value→Shared→Prop} {f:Value→Value→Sem Value}
  (hf:∀v u s2 x y H2,Inv X pins σ H2 s2→RelV x v→RelV y u→R x y H2→wpAny (model X.prog X.w) X.A (f v u) Q X.xe s2):
  wpAny (model X.prog X.w) X.A (eval a X.env) (fun v s₁=>wpAny (model X.prog X.w) X.A (eval b X.env) (fun u s₂=>wpAny (model X.prog X.w) X.A (f v u) Q X.xe s₂) X.xe s₁) X.xe s:=by
 refine thn (ha pins s σ H _ I h) fun v s1 ⟨x,H1,I1,r1,q1⟩=> ?_
 refine thn (hb pins s1 σ H1 _ I1 q1) fun u s2 ⟨y,H2,I2,r2,q2⟩=> ?_
 exact hf v u s2 x y H2 I2 r1 r2 q2
theorem pe_op {op:Operator} {r:R2} (ho:OpR X (binaryOp op) r) (ha:PE X a ta) (hb:PE X b tb):PE X (.BinOp a op b pos) (tOp r ta tb):=by intro pins s σ H Q I h; exact wpAny_BinOp (binT ha hb I h fun v u s2 x y H2 I2 rx ry q=>ho pins s2 σ H2 x y v u Q I2 rx ry q)
theorem opI {f:Value→Value→Sem Value} {C:Int→Int→Prop} {g:Int→Int→Int}
  (rule:∀ (i j:Int) (t u:Tok) (s:Shared) (Q:Value→Shared→Prop) (E:Value→Shared→Prop),C i j→Q (.int (g i j) s.toks) {s with toks:=s.toks+1}→wpAny (model X.prog X.w) X.A (f (.int i t) (.int j u)) Q E s):
  OpR X f (rI C fun i j=> .int (g i j)):=by
 intro pins s σ H x y v u Q I rx ry h; obtain ⟨i,j,rfl,rfl,hc,q⟩:=h; obtain ⟨t,rfl⟩:=rx; obtain ⟨t',rfl⟩:=ry; exact rule i j t t' s _ _ hc ⟨.int (g i j),H,I.tok _,⟨_,rfl⟩,q⟩
theorem opI0 {f:Value→Value→Sem Value} {g:Int→Int→Int}
  (rule:∀ (i j:Int) (t u:Tok) (s:Shared) (Q:Value→Shared→Prop) (E:Value→Shared→Prop),Q (.int (g i j) s.toks) {s with toks:=s.toks+1}→wpAny (model X.prog X.w) X.A (f (.int i t) (.int j u)) Q E s):
  OpR X f (rI0 fun i j=> .int (g i j)):=by
 intro pins s σ H x y v u Q I rx ry h; obtain ⟨i,j,rfl,rfl,q⟩:=h; obtain ⟨t,rfl⟩:=rx; obtain ⟨t',rfl⟩:=ry; exact rule i j t t' s _ _ ⟨.int (g i j),H,I.tok _,⟨_,rfl⟩,q⟩
theorem opB0 {f:Value→Value→Sem Value} {g:Int→Int→Bool}
  (rule:∀ (i j:Int) (t u:Tok) (s:Shared) (Q:Value→Shared→Prop) (E:Value→Shared→Prop),Q (.bool (g i j)) s→wpAny (model X.prog X.w) X.A (f (.int i t) (.int j u)) Q E s):
  OpR X f (rI0 fun i j=> .bl (g i j)):=by
 intro pins s σ H x y v u Q I rx ry h; obtain ⟨i,j,rfl,rfl,q⟩:=h; obtain ⟨t,rfl⟩:=rx; obtain ⟨t',rfl⟩:=ry; exact rule i j t t' s _ _ ⟨.bl (g i j),H,I,rfl,q⟩
noncomputable def CDiv (i j:Int):Prop:=0<j∧j<1073741824
noncomputable def CPow (i j:Int):Prop:=0≤j∧j≤1000000∧i.natAbs<2^64
noncomputable def CMul (i j:Int):Prop:=(-(2^64)<i∧i<2^64)∨(-(2^64)<j∧j<2^64)
theorem CMul.ok {i j:Int} (h:CMul i j):IntMulOk i j:=by
 rcases h with ⟨h1,h2⟩ | ⟨h1,h2⟩
 ·exact .of_left (intBits_le_64 h1 h2)
 ·exact .of_right (intBits_le_64 h1 h2)
theorem iX:OpR X (binaryOp .Add) (rI0 fun i j=> .int (i+j)):=opI0 fun _ _ _ _ _ _ _ q=>add_int q
theorem pQ:OpR X (binaryOp .Sub) (rI0 fun i j=> .int (i - j)):=opI0 fun _ _ _ _ _ _ _ q=>sub_int q
theorem op_mul:OpR X (binaryOp .Mult) (rI CMul fun i j=> .int (i * j)):=opI fun _ _ _ _ _ _ _ hc q=>mul_int q hc.ok
theorem op_fdiv:OpR X (binaryOp .FloorDiv) (rI CDiv fun i j=> .int (i / j)):=opI fun i j _ _ _ _ _ hc q=>by have h1:(0:Int)<j:=hc.1; have h2:j<1073741824:=hc.2; exact floordiv_int (by omega) (by rw [Int.fdiv_eq_ediv_of_nonneg i (by omega)]; exact q) (.inl (PyProof.noPylong_small (by omega)))
theorem fX:OpR X (binaryOp .Mod) (rI (fun _ j=>0<j) fun i j=> .int (i%j)):=opI fun i j _ _ _ _ _ hc q=>by have h1:(0:Int)<j:=hc; exact mod_int' (by omega) (by rw [Int.fmod_eq_emod_of_nonneg i (by omega)]; exact q)
theorem op_shl:OpR X (binaryOp .LShift) (rI CPow fun i j=> .int (i * 2^j.toNat)):=opI fun _ _ _ _ _ _ _ hc q=>lshift_int_small hc.1 hc.2.1 hc.2.2 q
theorem op_and:OpR X (binaryOp .BitAnd) (rI0 fun i j=> .int (Builtin.bitAnd i j)):=opI0 fun _ _ _ _ _ _ _ q=>and_int q
theorem op_or:OpR X (binaryOp .BitOr) (rI0 fun i j=> .int (Builtin.bitOr i j)):=opI0 fun _ _ _ _ _ _ _ q=>or_int q
theorem op_xor:OpR X (binaryOp .BitXor) (rI0 fun i j=> .int (Builtin.bitXor i j)):=opI0 fun _ _ _ _ _ _ _ q=>xor_int q
end
noncomputable def scal:V→V→Bool
 | .non, .non=>true | .non, .int _=>true | .int _, .non=>true | .non, .bl _=>true | .bl _, .non=>true | .non, .str _=>true | .str _, .non=>true
 | .int _, .int _=>true | .bl _, .bl _=>true | .str _, .str _=>true | .byt _, .byt _=>true
 | .int _, .str _=>true | .str _, .int _=>true | .bl _, .str _=>true | .str _, .bl _=>true
 | _,_=>false
noncomputable def rEq:R2:=fun x y H Q=>scal x y=true∧Q (.bl (decide (x=y))) H
noncomputable def rNe:R2:=fun x y H Q=>scal x y=true∧Q (.bl (!decide (x=y))) H
theorem qR {i j:Int}:decide (V.int i=V.int j)=(i==j):=by rw [jM]; simp
theorem dec_bl {i j:Bool}:decide (V.bl i=V.bl j)=(i==j):=by rw [jM]; simp
theorem dec_str {i j:Str}:decide (V.str i=V.str j)=(i==j):=by rw [jM]; simp
theorem dec_byt {i j:Array UInt8}:decide (V.byt i=V.byt j)=(i.toList==j.toList):=by rw [jM]; cases i; cases j; simp
section
variable {X:Cx} {a b c:Expr} {ta tb tc:TE} {pos:Pos}
theorem eO {pins:List (Addr × Obj)} {σ:St} {H:Hp} {s:Shared} {Q:VK} {k k':Bool} (I:Inv X pins σ H s) (q:Q (.bl k) H) (e:k=k'):EP X pins σ Q (.bool k') s:=by subst e; exact ⟨.bl k,H,I,rfl,q⟩
theorem op_eq:OpR X (compareOp .Eq) rEq:=by
 intro pins s σ H x y v u Q I rx ry h; obtain ⟨hs,q⟩:=h; cases x with
 | non=>
  cases rx; cases y with
  | non=>cases ry; exact PySem.EqNone.eq_none_none (eO I q (by simp))
  | bl j=>cases ry; exact PySem.EqNone.eq_none_bool (eO I q (by simp))
  | int j=>obtain ⟨t',rfl⟩:=ry; exact PySem.EqNone.eq_none_int (eO I q (by simp))
  | str j=>obtain ⟨t',rfl⟩:=ry; exact PySem.EqNone.eq_none_str (eO I q (by simp))
  | _=>exact absurd (show false=true from hs) bI
 | bl i=>
  cases rx; cases y with
  | non=>cases ry; exact PySem.EqNone.eq_bool_none (eO I q (by simp))
  | bl j=>cases ry; exact eq_bool (eO I q dec_bl)
  | str j=>obtain ⟨t',rfl⟩:=ry; exact PySem.EqMixed.eq_bool_str (eO I q (by simp))
  | _=>exact absurd (show false=true from hs) bI
 | int i=>
  obtain ⟨t,rfl⟩:=rx; cases y with
  | non=>cases ry; exact PySem.EqNone.eq_int_none (eO I q (by simp))
  | int j=>obtain ⟨t',rfl⟩:=ry; exact eq_int (eO I q qR)
  | str j=>obtain ⟨t',rfl⟩:=ry; exact PySem.EqMixed.eq_int_str (eO I q (by simp))
  | _=>exact absurd (show false=true from hs) bI
 | str i=>
  obtain ⟨t,rfl⟩:=rx; cases y with
  | non=>cases ry; exact PySem.EqNone.eq_str_none (eO I q (by simp))
  | bl j=>cases ry; exact PySem.EqMixed.eq_str_bool (eO I q (by simp))
  | int j=>obtain ⟨t',rfl⟩:=ry; exact PySem.EqMixed.eq_str_int (eO I q (by simp))
  | str j=>obtain ⟨t',rfl⟩:=ry; exact eq_str (eO I q dec_str)
  | _=>exact absurd (show false=true from hs) bI
 | byt i=>
  obtain ⟨t,rfl⟩:=rx; cases y with
  | byt j=>obtain ⟨t',rfl⟩:=ry; exact PySem.W.eq_bytes (eO I q dec_byt)
  | _=>exact absurd (show false=true from hs) bI
 | _=>cases y<;>exact absurd (show false=true from hs) bI
theorem op_ne:OpR X (compareOp .NotEq) rNe:=by
 intro pins s σ H x y v u Q I rx ry h; obtain ⟨hs,q⟩:=h; cases x with
 | non=>
  cases rx; cases y with
  | non=>cases ry; exact PySem.EqNone.ne_none_none (eO I q (by simp))
  | bl j=>cases ry; exact PySem.EqNone.ne_none_bool (eO I q (by simp))
  | int j=>obtain ⟨t',rfl⟩:=ry; exact PySem.EqNone.ne_none_int (eO I q (by simp))
  | str j=>obtain ⟨t',rfl⟩:=ry; exact PySem.EqNone.ne_none_str (eO I q (by simp))
  | _=>exact absurd (show false=true from hs) bI
 | bl i=>
  cases rx; cases y with
  | non=>cases ry; exact PySem.EqNone.ne_bool_none (eO I q (by simp))
  | bl j=>cases ry; exact ne_bool (eO I q (congrArg not dec_bl))
  | str j=>obtain ⟨t',rfl⟩:=ry; exact PySem.EqMixed.ne_bool_str (eO I q (by simp))
  | _=>exact absurd (show false=true from hs) bI
 | int i=>
  obtain ⟨t,rfl⟩:=rx; cases y with
  | non=>cases ry; exact PySem.EqNone.ne_int_none (eO I q (by simp))
  | int j=>obtain ⟨t',rfl⟩:=ry; exact ne_int (eO I q (congrArg not qR))
  | str j=>obtain ⟨t',rfl⟩:=ry; exact PySem.EqMixed.ne_int_str (eO I q (by simp))
  | _=>exact absurd (show false=true from hs) bI
 | str i=>
  obtain ⟨t,rfl⟩:=rx; cases y with
  | non=>cases ry; exact PySem.EqNone.ne_str_none (eO I q (by simp))
  | bl j=>cases ry; exact PySem.EqMixed.ne_str_bool (eO I q (by simp))
  | int j=>obtain ⟨t',rfl⟩:=ry; exact PySem.EqMixed.ne_str_int (eO I q (by simp))
  | str j=>obtain ⟨t',rfl⟩:=ry; exact ne_str (eO I q (congrArg not dec_str))
  | _=>exact absurd (show false=true from hs) bI
 | byt i=>
  obtain ⟨t,rfl⟩:=rx; cases y with
  | byt j=>obtain ⟨t',rfl⟩:=ry; exact PySem.W.ne_bytes (eO I q (congrArg not dec_byt))
  | _=>exact absurd (show false=true from hs) bI
 | _=>cases y<;>exact absurd (show false=true from hs) bI
theorem op_lt:OpR X (compareOp .Lt) (rI0 fun i j=> .bl (decide (i<j))):=opB0 fun _ _ _ _ _ _ _ q=>lt_int q
theorem op_le:OpR X (compareOp .LtE) (rI0 fun i j=> .bl (decide (i≤j))):=opB0 fun _ _ _ _ _ _ _ q=>le_int q
theorem op_gt:OpR X (compareOp .Gt) (rI0 fun i j=> .bl (decide (j<i))):=opB0 fun _ _ _ _ _ _ _ q=>gt_int q
theorem op_ge:OpR X (compareOp .GtE) (rI0 fun i j=> .bl (decide (j≤i))):=opB0 fun _ _ _ _ _ _ _ q=>ge_int q
theorem op_isN:OpR X (compareOp .Is) (fun x y H Q=>y= .non∧Q (.bl (decide (x= .non))) H):=by
 intro pins s σ H x y v u Q I rx ry h; obtain ⟨rfl,q⟩:=h; cases ry; refine is_none_gen (eO I q ?_)
 cases x<;>first
  | (cases rx; rfl)
  | (obtain ⟨t,rfl⟩:=rx; rfl)
theorem op_notN:OpR X (compareOp .IsNot) (fun x y H Q=>y= .non∧Q (.bl (!decide (x= .non))) H):=by
 intro pins s σ H x y v u Q I rx ry h; obtain ⟨rfl,q⟩:=h; cases ry; refine isnot_none_gen (eO I q ?_)
 cases x<;>first
  | (cases rx; rfl)
  | (obtain ⟨t,rfl⟩:=rx; rfl)
theorem OpR.or {f:Value→Value→Sem Value} {r r':R2} (h:OpR X f r) (h':OpR X f r'):OpR X f (fun x y H Q=>r x y H Q∨r' x y H Q):=by
 intro pins s σ H x y v u Q I rx ry q
 rcases q with q | q
 ·exact h pins s σ H x y v u Q I rx ry q
 ·exact h' pins s σ H x y v u Q I rx ry q
theorem hV (b:Expr) {op:CmpOp} (h:op≠ .In:=by decide) (h2:op≠ .NotIn:=by decide):behindInMarks op b=false:=by
 have e1:(op==CmpOp.In)=false:=by cases op<;>first | rfl | exact absurd rfl h
 have e2:(op==CmpOp.NotIn)=false:=by cases op<;>first | rfl | exact absurd rfl h2
 cases b<;>simp [behindInMarks,e1,e2]
theorem pe_cmpR {op:CmpOp} {r:R2} (ho:OpR X (compareOp op) r) (ha:PE X a ta) (hb:PE X b tb) (hm:behindInMarks op b=false):PE X (.Compare a [op] [b] pos) (tOp r ta tb):=by intro pins s σ H Q I h; exact wpAny_Compare1 (binT ha hb I h fun v u s2 x y H2 I2 rx ry q=>ho pins s2 σ H2 x y v u Q I2 rx ry q) hm
noncomputable def tTest (t:TE):TT:=fun σ H Q=>t σ H fun x H'=>∃k,x= .bl k∧Q k H'
theorem yQ {op:CmpOp} {r:R2} (ho:OpR X (compareOp op) r) (ha:PE X a ta) (hb:PE X b tb) (hm:behindInMarks op b=false):PT X (.Compare a [op] [b] pos) (tTest (tOp r ta tb)):=by
 intro pins s σ H Q I h
 refine wpAny_isTrue_Compare1 (thn (ha pins s σ H _ I h) fun v s1 ⟨x,H1,I1,r1,q1⟩=>thn (hb pins s1 σ H1 _ I1 q1) fun u s2 ⟨y,H2,I2,r2,q2⟩=>thn (ho pins s2 σ H2 x y v u _ I2 r1 r2 q2) fun c s3 ⟨z,H3,I3,r3,k,e,q3⟩=> ?_) hm
 subst e; cases r3; exact wpAny_truthy_bool ⟨H3,I3,q3⟩
theorem line63:(sizeLine:Nat)<2^63:=by rw [sizeLine_eq]; decide
theorem oJ {x:V} {us:List Value} (r:Vals [x] us):∃u,us=[u]∧RelV x u:=by
 cases r with
 | cons r1 r2=>cases r2; exact ⟨_,rfl,r1⟩
end
structure ObjM (h:Heap) (x dx C:Addr) (mA:Str→Option Value):Prop where
 obj:h.get? x=some (PySem.W.instObj C dx)
 ns:h.Ns1 dx mA
 ne:dx≠x
theorem RelO.some_of {v:V} {o:Option Value} (r:RelO (some v) o):∃u,o=some u∧RelV v u:=by
 cases o with
 | none=>exact (show False from r).elim
 | some u=>exact ⟨u,rfl,r⟩
structure Cls (K:aA) (C:Addr):Prop where
 pg:PySem.W.plainGet K C Str.empty=true
 hd:PySem.W.hasDictIn K C=true
 po:PySem.W.plainOver K C=true
 sa:lQ K (.ref C) "__setattr__"=some (some (.builtin "object.__setattr__"))
structure Con (K:aA) (C:Addr) (f:Str) (v:V) (u:Value):Prop where
 at_:lQ K (.ref C) f=some (some u)
 rel:RelV v u
 get:PySem.W.specialIn K u "__get__"=some none
 cp:PySem.W.copiedNames.contains f=false
structure Meth (K:aA) (C:Addr) (m:Str) (f:Addr):Prop where
 at_:lQ K (.ref C) m=some (some (.ref f))
 fn:PySem.W.isFn K (.ref f)=true
 kp:cY K (.ref f)=true
section
variable {X:Cx} {pins:List (Addr × Obj)} {σ:St} {H:Hp} {s:Shared} {A:Around} {E:Value→Shared→Prop} {Q:Value→Shared→Prop} {c:Value} {b:Bool}
inductive uK (K:aA) (H:Hp):V→Value→Prop where
 | non:uK K H .non (.type "NoneType")
 | bl (x:Bool):uK K H (.bl x) (.type "bool")
 | int (i:Int):uK K H (.int i) (.type "int")
 | str (x:Str):uK K H (.str x) (.type "str")
 | flt (x:UInt64):uK K H (.flt x) (.type "float")
 | lst {a:Addr} {xs:List V} (e:H a=some (.lst xs)):uK K H (.ref a) (.type "list")
 | frz {a:Addr} {o:Obj} {xs:List V} (e:H a=some (.frz o (.lst xs))):uK K H (.ref a) (.type "list")
 | tup {a:Addr} {xs:List V} (e:H a=some (.tup xs)):uK K H (.ref a) (.type "tuple")
 | dK {a:Addr} {kvs:List (Key × V)} (e:Rd H a (.dK kvs)):uK K H (.ref a) (.type "dict")
 | dT {a:Addr} {kvs:List (List Key × V)} (e:H a=some (.dT kvs)):uK K H (.ref a) (.type "dict")
 | ins {a C dx:Addr} {fs:List (Str × V)} (e:H a=some (.ins C dx fs)) (cl:Cls K C) (ha:lQ K (.ref C) "__class__"=some (some (.builtin "object.__class__")))
   (hn:PySem.W.specialIn K (.builtin "object.__class__") "__get__"=some (some (.builtin "getset_descriptor.__get__"))) (htk:PySem.W.takesIn K (.builtin "object.__class__")=some true)
   (hm:PySem.W.mroIn K C (.type "object")=some true):uK K H (.ref a) (.ref C)
end
structure Room (k:Nat) (A:Around):Prop where
 hd:A.handled=none
 dp:A.depth+3 * k+5<recursionLimit
 un:A.units+16 * k+200<cLine
 gd:A.guards=some []
theorem Room.mono {j k:Nat} {A:Around} (r:Room k A) (h:j≤k):Room j A:=⟨r.hd,by have:=r.dp; omega,by have:=r.un; omega,r.gd⟩
theorem Room.deeper {k:Nat} {A:Around} (r:Room (k+1) A) (env:Env):Room k (A.deeper env):=
 ⟨r.hd,by have:=r.dp; show A.depth+1+3 * k+5<_; omega,by have:=r.un; show A.units+3+16 * k+200<_; omega,r.gd⟩
theorem Room.depth {k:Nat} {A:Around} (r:Room k A):A.depth<recursionLimit:=by have:=r.dp; omega
noncomputable def tNil:TA:=fun _ H Q=>Q [] H
noncomputable def pF (ta:TE) (tr:TA):TA:=fun σ H Q=>ta σ H fun x H1=>tr σ H1 fun xs H2=>Q (x::xs) H2
section
variable {X:Cx} {e:Expr} {es:List Expr} {te:TE} {t:TA} {pos:Pos}
theorem pa_nil:PA X [] tNil:=fun _ _ _ _ H Q I h=>Calls.spliced_nil ⟨[],H,I, .nil,h⟩
theorem iD (ha:PE X e te) (hr:PA X es t) (hs:starEach (e::es) X.env=(false,eval e X.env)::starEach es X.env:=by rfl):PA X (e::es) (pF te t):=by intro pos pins s σ H Q I h; rw [hs]; show wpAny _ _ (spliced ((false,eval e X.env)::backTo pos (starEach es X.env))) _ _ s; refine Calls.spliced_cons (thn (ha pins s σ H _ I h) fun u s1 ⟨x,H1,I1,r1,q1⟩=> ?_); exact thn (hr pos pins s1 σ H1 _ I1 q1) fun us s2 ⟨xs,H2,I2,r2,q2⟩=>⟨x::xs,H2,I2, .cons r1 r2,q2⟩
noncomputable def tTup (t:TA):TE:=fun σ H Q=>t σ H fun xs H1=>xs.length≤sizeLine∧∀p,H1 p=none→Q (.ref p) (upd H1 p (.tup xs))
noncomputable def tLst (t:TA):TE:=fun σ H Q=>t σ H fun xs H1=>xs.length≤sizeLine∧∀p,H1 p=none→Q (.ref p) (upd H1 p (.lst xs))
theorem pe_tup {x1} (h:PA X es t):PE X (.Tuple es x1 pos) (tTup t):=by intro pins s σ H Q I hq; refine wpAny_Tuple_spliced (thn (h pos pins s σ H _ I hq) fun us s1 ⟨xs,H1,I1,r,z,q⟩=>⟨by rw [← r.length]; exact z, ?_⟩); have hf:H1 s1.heap.objs.size=none:=I1.hok.fresh (aM _); refine ⟨.ref s1.heap.objs.size,upd H1 s1.heap.objs.size (.tup xs),I1.laid (t':=s1.toks) (fun b u e=>aE _ e) (aM _) ?_,rfl,q _ hf⟩; exact ⟨z,us,r,IsTupD.new _ _⟩
theorem pe_lst (h:PA X es t):PE X (.List es pos) (tLst t):=by intro pins s σ H Q I hq; refine wpAny_List_spliced (thn (h pos pins s σ H _ I hq) fun us s1 ⟨xs,H1,I1,r,z,q⟩=>⟨by rw [← r.length]; exact z, ?_⟩); have hf:H1 s1.heap.objs.size=none:=I1.hok.fresh (aM _); refine ⟨.ref s1.heap.objs.size,upd H1 s1.heap.objs.size (.lst xs),I1.laid (t':=s1.toks) (fun b u e=>aE _ e) (aM _) ?_,rfl,q _ hf⟩; exact ⟨z,us,0,r,bG _ rfl⟩
end
noncomputable abbrev Sp:=List V→Hp→VK→XK→Prop
noncomputable abbrev CXT:=List Env→Hp→Shared→XK→Value→Shared→Prop
structure Env0 (P:Program) (w:World) (K:aA) (mg:Str→Option Value) (base:Heap) (A:Around) (outer:List Env) (s:Shared) (H:Hp):Prop where
 frames:A.frames=some outer
 mod:Mod K mg base
 bs:∀b o,base.get? b=some o→s.heap.get? b=some o∧H b=none
 bsz:base.objs.size≤s.heap.objs.size
 funs:s.heap.FunFrames base outer
 frf:∀b∈frs outer,H b=none
 hok:HOk P w H s.heap
 bare:AllBare s.gens
noncomputable def CE (outer:List Env) (P:Program) (w:World) (H:Hp) (s:Shared) (Q:VK) (u:Value) (s':Shared):Prop:=
 ∃v H',s'.os=s.os∧AllBare s'.gens∧Un (frs outer) [] H H' s.heap s'.heap∧HOk P w H' s'.heap∧RelV v u∧Q v H'
noncomputable def CR (CX:CXT) (outer:List Env) (P:Program) (w:World) (H:Hp) (s:Shared) (Q:VK) (E:XK) (r:Result) (s':Shared):Prop:=
 match r with
 | .ok (.ret u)=>CE outer P w H s Q u s'
 | .ok _=>False
 | .error e=>CX outer H s E e s'
structure FnOk (P:Program) (w:World) (K:aA) (mg:Str→Option Value) (base:Heap) (CX:CXT) (k:Nat) (f:Addr) (fd:FuncData) (ps:List Str) (sp:Sp):Prop where
 len:∀vs H Q E,sp vs H Q E→vs.length=ps.length
 run:∀ (A:Around) (outer:List Env) (s:Shared) (H:Hp) (args:Args) (us:List Value) (vs:List V) (Q:VK) (E:XK),Room k A→Env0 P w K mg base A outer s H→BindsTo s fd args (ps.zip us)→Vals vs us→sp vs H Q E→
  codeAny (model P w) A (.call (.ref f) args) (CR CX outer P w H s Q E) s
section
variable {X:Cx} {pins:List (Addr × Obj)} {σ:St} {H:Hp} {s s':Shared}
theorem Inv.env0 (I:Inv X pins σ H s):Env0 X.prog X.w X.K X.mg X.base X.A X.stack s H:=
 ⟨I.ok.frames,I.ok.mod,I.bs,cE I.ok.bsz I.sz,I.stack,I.stkFree,I.hok,I.bare⟩
theorem Inv.after {Q:VK} {u:Value} (I:Inv X pins σ H s) (h:CE X.stack X.prog X.w H s Q u s'):EP X pins σ Q u s':=by obtain ⟨v,H',os,bare,un,hok,r,q⟩:=h; obtain ⟨hh,g,d,t,os'⟩:=s'; obtain rfl:os'=s.os:=os; exact ⟨v,H',I.call (h':=hh) (g':=g) (d':=d) (t':=t) (ch:=[]) un hok bare (fun b z=>absurd z (by simp)),r,q⟩
end
noncomputable def tCall (sp:Sp) (dvs:List V) (E:XK) (t:TA):TE:=fun σ H Q=>t σ H fun vs H1=>sp (vs++dvs) H1 Q E
noncomputable def Binds (K:aA) (fd:FuncData) (ps:List Str) (ds:List Value):Prop:=
 ∀ (s:Shared) (us:List Value),K.In s.heap→(us++ds).length=ps.length→BindsTo s fd ⟨us,[]⟩ (ps.zip (us++ds))
theorem Binds.all {K:aA} {fd:FuncData} {ps:List Str} (h:∀us:List Value,us.length=ps.length→bindArgs fd ⟨us,[]⟩=pure (ps.zip us)):Binds K fd ps []:=fun s us _ hl=>by rw [cZ] at hl ⊢; exact .of_eq (h us hl)
noncomputable def Passes (CX:CXT) (X:Cx) (E:XK):Prop:=∀ (pins:List (Addr × Obj)) (σ:St) (H:Hp) (s:Shared) (e:Value) (s':Shared),Inv X pins σ H s→CX X.stack H s E e s'→X.xe e s'
section
variable {X:Cx} {CX:CXT} {k:Nat} {f C:Addr} {fd:FuncData} {ps:List Str} {sp:Sp} {dvs:List V} {ds:List Value} {E:XK} {x m:Str} {p pos apos:Pos} {e o:Expr} {es:List Expr} {ta:TE} {t:TA}
theorem run_fn {pins:List (Addr × Obj)} {σ:St} {H:Hp} {s:Shared} {Q:VK} {us:List Value} {vs:List V} (F:FnOk X.prog X.w X.K X.mg X.base CX k f fd ps sp) (hr:Room k X.A) (hb:Binds X.K fd ps ds) (hd:Vals dvs ds) (hx:Passes CX X E)
  (I:Inv X pins σ H s) (r:Vals vs us) (h:sp (vs++dvs) H Q E):wpAny (model X.prog X.w) X.A (call (.ref f) us) (EP X pins σ Q) X.xe s:=by
 have r2:Vals (vs++dvs) (us++ds):=r.append hd; have hl:(us++ds).length=ps.length:=by rw [← r2.length]; exact F.len _ _ _ _ h
 refine wpAny_call (codeAny_mono (F.run X.A X.stack s H ⟨us,[]⟩ (us++ds) (vs++dvs) Q E hr I.env0 (hb s us I.kIn hl) r2 h) fun r s' hq=> ?_); cases r with
 | error e=>exact hx pins σ H s e s' I hq
 | ok fl=>
  cases fl with
  | ret u=>exact I.after hq
  | next=>exact False.elim hq
  | brk=>exact False.elim hq
  | cont=>exact False.elim hq
theorem yM (F:FnOk X.prog X.w X.K X.mg X.base CX k f fd ps sp) (hr:Room k X.A) (hg:Gl X x) (hm:X.mg x=some (.ref f)) (hk:cY X.K (.ref f)=true) (hb:Binds X.K fd ps ds) (hd:Vals dvs ds) (hx:Passes CX X E)
  (ha:PA X (e::es) t) (hdb:(x==("__debug__":Str))=false:=by decide) (he:starEach (e::es) X.env=(false,eval e X.env)::starEach es X.env:=by rfl) (hpl:(backTo pos (starEach es X.env)).any (·.1)=false:=by rfl):
  PE X (.Call (.Name x p) (e::es) [] pos) (tCall sp dvs E t):=by
 intro pins s σ H Q I h; refine wpAny_Call_Name_kw (ld_glob I hg hm ?_ hdb); refine PySem.W.callWith_K (h₀:=X.base) I.ok.mod.kin hk (thn (ha pos pins s σ H _ I h) fun us s1 ⟨vs,H1,I1,r,q⟩=>⟨I1.kIn, ?_⟩) he hpl; exact run_fn F hr hb hd hx I1 r q
structure Mk (K:aA) (C f:Addr):Prop where
 makes:PySem.W.makesIn K C=true
 init:lQ K (.ref C) "__init__"=some (some (.ref f))
 fn:PySem.W.isFn K (.ref f)=true
 kp:cY K (.ref C)=true
end
section
variable {X:Cx} {CX:CXT} {k:Nat} {f C:Addr} {fd:FuncData} {ps ks:List Str} {sp:Sp} {E:XK} {x m:Str} {p pos apos kpos:Pos} {e o:Expr} {es:List Expr} {kws:List Keyword} {te ta:TE} {t tk:TA} {nm:Option Str}
structure KBinds (K:aA) (fd:FuncData) (ps ks:List Str) (g:List Value→List Value→List Value) (gV:List V→List V→List V):Prop where
 to:∀ (s:Shared) (us ws:List Value),K.In s.heap→(g us ws).length=ps.length→BindsTo s fd ⟨us,ks.zip ws⟩ (ps.zip (g us ws))
 rel:∀ {vs:List V} {us:List Value} {zs:List V} {ws:List Value},Vals vs us→Vals zs ws→Vals (gV vs zs) (g us ws)
variable {g:List Value→List Value→List Value} {gV:List V→List V→List V}
end
structure nQ (N P:List Str) (sc:Scope):Prop where
 kind:sc.kind= .function
 co:sc.isCoroutine=false
 gen:sc.isGenerator=false
 nd:N.Nodup
 pre:N.take P.length=P
 par:∀x∈P,sc.names.lookup x=some .local∨sc.names.lookup x=some .cell
 nofree:∀y∈sc.names,y.2≠ .free
theorem xF {kindOf:Str→Option NameKind} {x:Str}:∀ {binds:List (Str × Value)} {m:Str→Option Value},(∀v,(x,v)∉binds)→bindL kindOf binds m x=m x
 | [],_,_=>rfl
 | (n,v)::r,m,h=>by
  unfold bindL; rw [xF fun w hw=>h w (aF _ hw)]
  split
  ·have:x≠n:=by rintro rfl; exact h v aG
   simp [this]
  ·rfl
theorem xT {kindOf:Str→Option NameKind} {x:Str}:∀ {binds:List (Str × Value)} {m:Str→Option Value},(∀v,(x,v)∉binds)→bindC kindOf binds m x=m x
 | [],_,_=>rfl
 | (n,v)::r,m,h=>by
  unfold bindC; rw [xT fun w hw=>h w (aF _ hw)]
  split
  ·rfl
  ·have:x≠n:=by rintro rfl; exact h v aG
   simp [this]
theorem xB {kindOf:Str→Option NameKind} {x:Str} {v:Value}:∀ {P:List Str} {vs:List Value} {i:Nat} {m:Str→Option Value},P.Nodup→P[i]? =some x→vs[i]? =some v→kindOf x=some .local→
  bindL kindOf (P.zip vs) m x=some v
 | [],_,_,_,_,h,_,_=>by simp at h
 | _::_,[],_,_,_,_,h,_=>by simp at h
 | p::P,w::vs,0,m,nd,h1,h2,hk=>by simp at h1 h2; subst h1; subst h2; show bindL kindOf ((p,w)::P.zip vs) m p=_; unfold bindL; rw [xF fun v hv=>(bT.mp nd).1 (wM hv).1,if_pos hk]; simp
 | p::P,w::vs,i+1,m,nd,h1,h2,hk=>by show bindL kindOf ((p,w)::P.zip vs) m x=_; unfold bindL; exact xB (i:=i) (bT.mp nd).2 (by simpa using h1) (by simpa using h2) hk
theorem xM {kindOf:Str→Option NameKind} {x:Str} {v:Value}:∀ {P:List Str} {vs:List Value} {i:Nat} {m:Str→Option Value},P.Nodup→P[i]? =some x→vs[i]? =some v→kindOf x≠some .local→
  bindC kindOf (P.zip vs) m x=some v
 | [],_,_,_,_,h,_,_=>by simp at h
 | _::_,[],_,_,_,_,h,_=>by simp at h
 | p::P,w::vs,0,m,nd,h1,h2,hk=>by simp at h1 h2; subst h1; subst h2; show bindC kindOf ((p,w)::P.zip vs) m p=_; unfold bindC; rw [xT fun v hv=>(bT.mp nd).1 (wM hv).1,if_neg hk]; simp
 | p::P,w::vs,i+1,m,nd,h1,h2,hk=>by show bindC kindOf ((p,w)::P.zip vs) m x=_; unfold bindC; exact xM (i:=i) (bT.mp nd).2 (by simpa using h1) (by simpa using h2) hk
noncomputable def start (N:List Str) (vs:List V):St:=vs.map some++fV (N.length - vs.length) none
noncomputable def nL (CX:CXT) (P:Program) (w:World) (K:aA) (mg:Str→Option Value) (base:Heap) (N:List Str) (qual:Str) (scope:Scope) (f:Addr) (cd:Value) (A:Around) (outer:List Env) (s:Shared) (H:Hp) (E:XK):Cx where
 prog:=P
 w:=w
 K:=K
 mg:=mg
 base:=base
 A:=A.deeper (envOfC qual scope s.heap.objs.size f cd)
 N:=N
 s₀:=s
 H₀:=H
 env:=envOfC qual scope s.heap.objs.size f cd
 outer:=outer
 stack:=envOfC qual scope s.heap.objs.size f cd::outer
 ex:=[]
 calm:=true
 fn:=fun _=>true
 pn:=[]
 xe:=fun e s'=>wpAny (model P w) (A.deeper (envOfC qual scope s.heap.objs.size f cd)) (leaving (envOfC qual scope s.heap.objs.size f cd) e) (fun _ s''=>CX outer H s E e s'') (fun e' s''=>CX outer H s E e' s'') s'
theorem cell_has {sc:Scope} {n:Nat} {x:Str} (h:sc.names.lookup x=some .cell):∃c,(cellsFrom n sc.names []).lookup x=some c:=by have q:=PySem.W.cellsFrom_some sc.names n [] (.inl h); exact Option.isSome_iff_exists.mp q
theorem inv_start {CX:CXT} {P:Program} {w:World} {K:aA} {mg:Str→Option Value} {base:Heap} {N ps:List Str} {qual:Str} {scope:Scope} {f:Addr} {cd:Value} {A:Around} {outer:List Env} {s s1:Shared} {H:Hp} {E:XK} {us:List Value} {vs:List V}
  (S:nQ N ps scope) (hd:A.handled=none) (e0:Env0 P w K mg base A outer s H) (hl:vs.length=ps.length) (r:Vals vs us)
  (x:InCallC s s.heap.objs.size (bindL (envOfC qual scope s.heap.objs.size f cd).kindOf (ps.zip us) fun _=>none) (cellsFrom (s.heap.objs.size+1) scope.names []) (bindC (envOfC qual scope s.heap.objs.size f cd).kindOf (ps.zip us) fun _=>none) s1):
  Inv (nL CX P w K mg base N qual scope f cd A outer s H E) [] (start N vs) H s1:=by
 have hpl:ps.length≤N.length:=by have:=congrArg wL S.pre; rw [dD] at this; omega
 obtain ⟨h1,tk,rfl,hk⟩:=x.done; have noA:∀b:Addr,b∉(nL CX P w K mg base N qual scope f cd A outer s H E).ex:=fun b z=>absurd (show b∈([]:List Addr) from z) (by simp)
 refine ⟨⟨e0.mod,S.kind,rfl,rfl,aM _,fun y z c h1 h2=> ?_,fun y hy=> ?_,fun y c _ h=> ?_,fun _=>hd,Around.frames_deeper e0.frames, .inr ⟨rfl,rfl⟩,fun b z=>absurd z (noA b),e0.bs,e0.bsz,fun b _ _=>noA b,fun b z=>absurd z (noA b),e0.funs,e0.frf⟩,
  rfl,e0.bare,Un.kept hk,⟨_,x.toInCall.ns,fun i y v h1 h2 h3=> ?_⟩,fun y c h=>⟨_,x.cell y c h⟩,e0.hok.fresh (aM _),fun y c h=> ?_,fun p hp=>absurd (show p∈([]:List (Addr × Obj)) from hp) (by simp),e0.hok.kept hk, ?_⟩
 ·exact name_of_addr x.apart (PySem.mem_of_lookup h1) (PySem.mem_of_lookup h2)
 ·have hy:scope.names.lookup y=some .cell∨scope.names.lookup y=some .free:=hy
  rcases hy with hy | hy
  ·exact cell_has hy
  ·exact absurd rfl (S.nofree _ (PySem.mem_of_lookup hy))
 ·exact dW (x.above y c (PySem.mem_of_lookup h))
 ·have hi:i<vs.length:=by
   unfold start at h2
   by_cases hi:i<vs.length
   ·exact hi
   ·rw [gF (by simpa using hi)] at h2; rw [List.getElem?_replicate] at h2
    split at h2<;>cases h2
  have ha:vs[i]? =some v:=by
   unfold start at h2; rw [gL (by simpa using hi),bJ] at h2; cases e:vs[i]? with
   | none=>rw [e] at h2; cases h2
   | some a=>rw [e] at h2; cases h2; rfl
  obtain ⟨u,hu,rv⟩:=r.get ha
  have hp:ps[i]? =some y:=by rw [← S.pre,List.getElem?_take_of_lt (by omega)]; exact h1
  have ndP:ps.Nodup:=by rw [← S.pre]; exact S.nd.sublist (List.take_sublist _ _)
  refine ⟨u,rv, ?_⟩
  rcases S.par y (bB hp) with k | k
  ·exact .inl ⟨k,xB ndP hp hu k⟩
  ·obtain ⟨c,e⟩:=cell_has (n:=s.heap.objs.size+1) k; refine .inr ⟨.inl k,c,e, ?_⟩; have q:=x.cell y c e; rw [xM ndP hp hu (by show scope.names.lookup y≠_; rw [k]; decide)] at q; exact q
 ·exact e0.hok.fresh (dW (x.above y c (PySem.mem_of_lookup h)))
 ·unfold start; show _=N.length; rw [aW,aC,List.length_replicate]; omega
theorem fn_of {CX:CXT} {P:Program} {w:World} {K:aA} {mg:Str→Option Value} {base:Heap} {k:Nat} {f:Addr} {name qual:Str} {params:Arguments} {body:List Stmt} {scope:Scope} {dV kV doc pm cdv ct oc:Value} {an od:Option Addr}
  {osl:Array (Option Value)} {N ps:List Str} {sp:Sp} (lk:K.lookup f=some ⟨oc,od, .func (dL name qual params body scope dV kV doc pm an cdv ct),osl⟩) (hcd:gY K cdv qual=true) (S:nQ N ps scope)
  (len:∀vs H Q E,sp vs H Q E→vs.length=ps.length)
  (hbody:∀ (A:Around) (outer:List Env) (s:Shared) (H:Hp) (vs:List V) (Q:VK) (E:XK),Room k (A.deeper (envOfC qual scope s.heap.objs.size f cdv))→sp vs H Q E→
   ∃t,PSs (nL CX P w K mg base N qual scope f cdv A outer s H E) body t∧t {nx:=fun _ H'=>Q .non H',rt:=Q} (start N vs) H):
  FnOk P w K mg base CX (k+1) f (dL name qual params body scope dV kV doc pm an cdv ct) ps sp:=by
 refine ⟨len,fun A outer s H args us vs Q E hr e0 hb r hsp=> ?_⟩; have hl:=len _ _ _ _ hsp; have KX:K.In s.heap:=e0.mod.kin.keeps fun b o e=>(e0.bs b o e).1
 have lim:s.heap.NoLimit:=e0.mod.nolimit.keeps fun b o e=>(e0.bs b o e).1
 have hkind:∀y∈ps.zip us,scope.names.lookup y.1=some .local∨(scope.names.lookup y.1=some .cell∧((cellsFrom (s.heap.objs.size+1) scope.names []).lookup y.1).isSome=true):=fun ⟨n,v⟩ hy=>by
  rcases S.par n (wM hy).1 with q | q
  ·exact .inl q
  ·exact .inr ⟨q,PySem.W.cellsFrom_some _ _ _ (.inl q)⟩
 refine codeAny_call_function hr.depth (KX _ _ lk) rfl S.co S.gen rfl (PySem.W.codeRec_of KX hcd) (hb _ _ _ _ ?_); refine wpAny_newFunctionEnv_cells S.kind hkind fun env he s1 x=> ?_
 subst he; refine ⟨lim.keeps x.toInCall.keep,codeAny_func ?_⟩; obtain ⟨t,ht,hq⟩:=hbody A outer s H vs Q E (hr.deeper _) hsp; have I:Inv (nL CX P w K mg base N qual scope f cdv A outer s H E) [] (start N vs) H s1:=inv_start S hr.hd e0 hl r x; refine wpAny_mono (ht [] s1 (start N vs) H _ I hq) (fun fl s' hs=> ?_) fun e s' hs=>hs
 have fin:∀ {σ':St} {H':Hp} {v:V} {u:Value},Inv (nL CX P w K mg base N qual scope f cdv A outer s H E) [] σ' H' s'→RelV v u→Q v H'→CE outer P w H s Q u s':=
  fun {σ' H' v u} J rv q=>⟨v,H',J.os,J.bare,J.base,J.hok,rv,q⟩
 cases fl with
 | ret u=>obtain ⟨v,σ',H',J,rv,q⟩:=hs; exact fin J rv q
 | next=>obtain ⟨σ',H',J,q⟩:=hs; exact fin (v:=V.non) (u:=Value.none) J rfl q
 | brk=>obtain ⟨_,_,_,q⟩:=hs; exact False.elim q
 | cont=>obtain ⟨_,_,_,q⟩:=hs; exact False.elim q
section
variable {X:Cx} {x:Str} {p pos:Pos} {e:Expr} {es:List Expr} {t:TA} {id T:String} {r:List V→Hp→VK→Prop}
noncomputable def tCB (r:List V→Hp→VK→Prop) (t:TA):TE:=fun σ H Q=>t σ H fun vs H1=>r vs H1 Q
theorem wC (hc:oB X (.builtin id) r) (hg:Gl X x) (hm:X.mg x=none) (hv:bootBuiltins x=some (.builtin id)) (ha:PA X (e::es) t) (hn:x≠"__name__":=by decide) (hdb:(x==("__debug__":Str))=false:=by decide)
  (he:starEach (e::es) X.env=(false,eval e X.env)::starEach es X.env:=by rfl) (hpl:(backTo pos (starEach es X.env)).any (·.1)=false:=by rfl):PE X (.Call (.Name x p) (e::es) [] pos) (tCB r t):=by
 intro pins s σ H Q I h; refine wpAny_Call_Name_kw (mD I hg hm hv ?_ hn hdb); exact PyProof.Rows.callWith_builtin1 (thn (ha pos pins s σ H _ I h) fun us s1 ⟨vs,H1,I1,r1,q1⟩=>hc pins s1 σ H1 vs us Q I1 r1 q1) he hpl
theorem pe_callTy (hc:oB X (.type T) r) (hg:Gl X x) (hm:X.mg x=none) (hv:bootBuiltins x=some (.type T)) (ha:PA X (e::es) t) (hn:x≠"__name__":=by decide) (hdb:(x==("__debug__":Str))=false:=by decide)
  (he:starEach (e::es) X.env=(false,eval e X.env)::starEach es X.env:=by rfl) (hpl:(backTo pos (starEach es X.env)).any (·.1)=false:=by rfl):PE X (.Call (.Name x p) (e::es) [] pos) (tCB r t):=by
 intro pins s σ H Q I h; refine wpAny_Call_Name_kw (mD I hg hm hv ?_ hn hdb); exact PyProof.Rows.callWith_type1 (thn (ha pos pins s σ H _ I h) fun us s1 ⟨vs,H1,I1,r1,q1⟩=>hc pins s1 σ H1 vs us Q I1 r1 q1) he hpl
end
end L2
namespace HT
open PySem PyProof.Rows
noncomputable def lexLt:List Int→List Int→Bool
 | [],[]=>false
 | [],_::_=>true
 | _::_,[]=>false
 | x::xs,y::ys=>if x=y then lexLt xs ys else decide (x<y)
section
open PySem.SeqAt
open PySem.AutoSeq1 (wpAny_loadPart')
open PySem.MeetsSeq PySem.MeetsSeq2 PySem.MeetsSeq3
end
section
variable {prog:Program} {w:World} {A:Around} {E:Value→Shared→Prop} {s:Shared}
theorem cat_tup {t b:Addr} {vs ws:List Value} {Q:Value→Shared→Prop} (ht:IsTup s.heap t vs.toArray) (hb:IsTup s.heap b ws.toArray) (hv:vs≠[])
  (h1:ws=[]→Q (.ref t) s) (h2:ws≠[]→Q (.ref s.heap.objs.size) {s with heap:=s.heap.push {cls:= .type "tuple",data:= .seq (vs++ws).toArray}})
  (hsz:vs.length+ws.length≤sizeLine):wpAny (model prog w) A (binaryOp .Add (.ref t) (.ref b)) Q E s:=by
 obtain ⟨⟨cls,dd,data,sl⟩,ho,hc,n,hd⟩:=id ht; obtain ⟨⟨cls2,dd2,data2,sl2⟩,ho2,hc2,n2,hd2⟩:=id hb; simp only at hc hd hc2 hd2; subst hc hd hc2 hd2; have e:vs.toArray++ws.toArray=(vs++ws).toArray:=by simp
 by_cases hw:ws=[]
 ·exact concat_meets ⟨_,ho,rfl⟩ ⟨_,ho2,rfl⟩ noFill_tuple_add seq_tuple_add nY nA (mJ _ _)
   (tuple_addW1 t b vs.toArray ws.toArray n n2 dd dd2 sl sl2 (by simpa using hv) (by simp [hw])) ⟨ho,ho2,h1 hw⟩
 ·refine concat_meets ⟨_,ho,rfl⟩ ⟨_,ho2,rfl⟩ noFill_tuple_add seq_tuple_add nY nA (mJ _ _)
   (tuple_addW2 t b vs.toArray ws.toArray n n2 dd dd2 sl sl2 (by simpa using hv) (by simpa using hw) (by rw [aS,aS]; exact hsz)) ⟨ho,ho2, ?_⟩
  rw [e]; exact h2 hw
noncomputable def sIx (n d:Nat):Option Int→Nat
 | none=>d
 | some v=>if v<0 then (v+(n:Int)).toNat else min v.toNat n
theorem sIx_none (n d:Nat):sIx n d none=d:=rfl
theorem sIx_nat (n d k:Nat):sIx n d (some (k:Int))=min k n:=by show (if (k:Int)<0 then ((k:Int)+(n:Int)).toNat else min (k:Int).toNat n)=min k n; rw [if_neg (by omega),dO]
theorem sIx_le (n d:Nat) (hd:d≤n) (o:Option Int):sIx n d o≤n:=by
 cases o with
 | none=>exact hd
 | some v=>
  show (if v<0 then (v+(n:Int)).toNat else min v.toNat n)≤n
  by_cases hv:v<0
  ·rw [if_pos hv]; omega
  ·rw [if_neg hv]; exact Nat.min_le_right _ _
theorem clip_eq (v:Int) (n d:Nat):(if v<0 then max (v+(n:Int)) 0 else min v (n:Int))=((sIx n d (some v):Nat):Int):=by
 show (if v<0 then max (v+(n:Int)) 0 else min v (n:Int))=(((if v<0 then (v+(n:Int)).toNat else min v.toNat n):Nat):Int)
 by_cases hv:v<0
 ·simp only [if_pos hv]; omega
 ·simp only [if_neg hv]; omega
theorem adjust_gen (lo hi:Option Int) (n:Nat):Builtin.Slice.sliceAdjust lo hi 1 (n:Int)=(((sIx n 0 lo:Nat):Int),((sIx n n hi:Nat):Int)):=by
 have h1:¬ ((1:Int)<0):=by omega
 unfold Builtin.Slice.sliceAdjust; simp only [h1,if_false]; refine Prod.ext ?_ ?_
 ·cases lo with
  | none=>rfl
  | some v=>exact clip_eq v n 0
 ·cases hi with
  | none=>rfl
  | some v=>exact clip_eq v n n
theorem places_gen (i j:Nat):Builtin.Slice.slicePlaces (i:Int) (j:Int) 1=j - i:=by
 unfold Builtin.Slice.slicePlaces; have h1:(1:Int)>0:=by omega
 simp only [h1,if_true,Int.ediv_one]
 split<;>omega
theorem uQ {v:Value} {o:Option Int} {Q:Option Int→Shared→Prop} (p:IsPart v o) (h:Q o s):wpAny (model prog w) A (Builtin.Slice.slicePartIndex v) Q E s:=by
 cases p with
 | none=>exact slicePart_none h
 | int i t=>exact slicePart_int h
theorem sA {sl:Addr} {vl vu:Value} {lo hi:Option Int} {n:Nat} {Q:Int × Int × Nat→Shared→Prop} (hs:s.heap.IsSliceOf sl vl vu .none) (pl:IsPart vl lo) (pu:IsPart vu hi)
  (h:Q (((sIx n 0 lo:Nat):Int),1,sIx n n hi - sIx n 0 lo) s):wpAny (model prog w) A (Builtin.Slice.sliceApplied (.ref sl) (pure (n:Int))) Q E s:=by
 obtain ⟨os,hos,hcs,hds⟩:=id hs; unfold Builtin.Slice.sliceApplied Builtin.Slice.sliceFields; refine wpAny_bind (wpAny_bind (wpAny_field hos hds (x:=vl) rfl (wpAny_bind (wpAny_field hos hds (x:=vu) rfl (wpAny_bind (wpAny_field hos hds (x:= .none) rfl (wpAny_pure ?_))))))); refine wpAny_bind (slicePart_none ?_); show wpAny _ _ (if ((1:Int)==0)=true then _ else _) _ _ s; rw [if_neg (by decide)]; refine wpAny_bind (uQ pl (wpAny_bind (uQ pu (wpAny_bind (wpAny_pure ?_))))); show wpAny _ _ (match Builtin.Slice.sliceAdjust lo hi 1 (n:Int) with | (lo,hi)=>pure (lo,(1:Int),Builtin.Slice.slicePlaces lo hi 1)) _ _ s; rw [adjust_gen lo hi n]; show wpAny _ _ (pure (((sIx n 0 lo:Nat):Int),(1:Int),Builtin.Slice.slicePlaces ((sIx n 0 lo:Nat):Int) ((sIx n n hi:Nat):Int) 1)) _ _ s; rw [places_gen]; exact wpAny_pure h
theorem pick_gen (xs:Array Value) (i k:Nat):((bH k).filterMap fun (m:Nat)=>xs[((i:Int)+(m:Int) * 1).toNat]?).toArray=((xs.toList.drop i).take k).toArray:=by
 have e:(fun (m:Nat)=>xs[((i:Int)+(m:Int) * 1).toNat]?)=fun m=>xs[i+m]? :=by
  funext m; have:((i:Int)+(m:Int) * 1).toNat=i+m:=by omega
  rw [this]
 rw [e]; have:=pick_run xs i k; rw [List.filterMap_map] at this; have e2:((fun x=>xs[x]?) ∘ fun x=>i+x)=fun m=>xs[i+m]? :=rfl
 rw [e2] at this; rw [this]
theorem getItem_tuple_cut {t sl:Addr} {items:Array Value} {vl vu:Value} {lo hi:Option Int} {Q:Value→Shared→Prop} (ht:IsTup s.heap t items) (hs:s.heap.IsSliceOf sl vl vu .none) (pl:IsPart vl lo) (pu:IsPart vu hi)
  (hw:¬ (sIx items.size 0 lo=0∧sIx items.size items.size hi=items.size))
  (h:Q (.ref s.heap.objs.size) {s with heap:=s.heap.push {cls:= .type "tuple",data:= .seq ((items.toList.drop (sIx items.size 0 lo)).take (sIx items.size items.size hi - sIx items.size 0 lo)).toArray}})
  (hsz:items.size≤sizeLine):wpAny (model prog w) A (getItem (.ref t) (.ref sl)) Q E s:=by
 have htake:sizeOk (.seq ((items.toList.drop (sIx items.size 0 lo)).take (sIx items.size items.size hi - sIx items.size 0 lo)).toArray):=by show ((items.toList.drop (sIx items.size 0 lo)).take (sIx items.size items.size hi - sIx items.size 0 lo)).toArray.size≤sizeLine; rw [aS,dD,gZ,cK]; omega
 have hj:sIx items.size items.size hi≤items.size:=sIx_le _ _ (aM _) hi; obtain ⟨os,hos,hcs,hds⟩:=id hs; have hTs:s.TypeIs (.ref sl) "slice":=⟨os,hos,hcs⟩; unfold getItem
 try with_reducible refine wpAny_holding ?_
 first | refine wpAny_bind (wpAny_pure ?_) | skip
 refine wpAny_bind (wpAny_sequenceKey ht.typeIs (by decide) ?_)
 refine wpAny_bind (wpAny_callSpecial?_slot (name:=Str.ofString "__getitem__") ht.typeIs PyProof.Rows.slot_tuple_getitem
  (wpAny_call_entry PyProof.Rows.slot_tuple_getitem ht.typeIs entry_tuple_getitem ?_ (args_tuple_getitem _ _)))
 show wpAny _ _ (Builtin.Tuple.tupleItemsOf (.ref t)>>=_) _ _ s; refine wpAny_bind (tupleItemsOf_ ht ?_); refine wpAny_bind (wpAny_typeOf hTs ?_); rw [if_pos (by decide)]; refine wpAny_bind (sA hs pl pu ?_)
 have hno:¬ ((((sIx items.size 0 lo:Nat):Int)==0 && (1:Int)==1 && (sIx items.size items.size hi - sIx items.size 0 lo)==items.size)=true):=by intro q; rw [bL,bL] at q; have q1:((sIx items.size 0 lo:Nat):Int)=0:=eq_of_beq q.1.1; have q2:sIx items.size items.size hi - sIx items.size 0 lo=items.size:=eq_of_beq q.2; exact hw ⟨by omega,by omega⟩
 show wpAny _ _ (if (((sIx items.size 0 lo:Nat):Int)==0 && (1:Int)==1 && (sIx items.size items.size hi - sIx items.size 0 lo)==items.size)=true then _ else _) _ _ s; rw [if_neg hno,pick_gen]
 first
  | exact wpAny_bind (m:=Builtin.Tuple.tupleExact _) (wpAny_newObj_type (wpAny_pure ⟨_,rfl,wpAny_pure h⟩) htake)
  | exact wpAny_bind (m:=Builtin.Tuple.tupleExact _) (wpAny_newObj_type (wpAny_bind (wpAny_pure (wpAny_pure ⟨_,rfl,wpAny_pure h⟩))) htake)
  | exact wpAny_bind (wpAny_bind (m:=Builtin.Tuple.tupleExact _) (wpAny_newObj_type (wpAny_pure (wpAny_pure ⟨_,rfl,wpAny_pure h⟩)) htake))
  | exact wpAny_bind (wpAny_bind (m:=Builtin.Tuple.tupleExact _) (wpAny_newObj_type (wpAny_pure ⟨_,rfl,wpAny_pure h⟩) htake))
end
end HT
namespace L2
open PySem PySem.Spec PyProof.Rows
noncomputable abbrev TO:=St→Hp→(Option Int→Hp→Prop)→Prop
noncomputable def PO (X:Cx) (e:Option Expr) (t:TO):Prop:=
 ∀ (pins:List (Addr × Obj)) (s:Shared) (σ:St) (H:Hp) (Q:Option Int→Hp→Prop),Inv X pins σ H s→t σ H Q→
  wpAny (model X.prog X.w) X.A (evalPart e X.env) (fun u s'=>∃o H',Inv X pins σ H' s'∧IsPart u o∧Q o H') X.xe s
noncomputable def tNoPart:TO:=fun _ H Q=>Q none H
noncomputable def tPart (t:TE):TO:=fun σ H Q=>t σ H fun x H1=>∃i,x= .int i∧Q (some i) H1
section
variable {X:Cx} {e:Expr} {te:TE} {lo hi:Option Expr} {tl th:TO} {pos p2:Pos}
theorem po_none:PO X none tNoPart:=by intro pins s σ H Q I h; rw [evalPart_none]; exact wpAny_pure ⟨none,H,I, .none,h⟩
theorem po_some (h:PE X e te):PO X (some e) (tPart te):=by
 intro pins s σ H Q I hw; rw [evalPart_some]; refine thn (h pins s σ H _ I hw) fun u s1 ⟨x,H1,I1,r1,q1⟩=> ?_
 obtain ⟨i,rfl,q⟩:=q1; obtain ⟨t,rfl⟩:=r1; exact ⟨some i,H1,I1, .int i t,q⟩
noncomputable def SlR (X:Cx) (r:V→Option Int→Option Int→Hp→VK→Prop):Prop:=
 ∀ (pins:List (Addr × Obj)) (s:Shared) (σ:St) (H:Hp) (x:V) (v vl vu:Value) (lo hi:Option Int) (sl:Addr) (Q:VK),Inv X pins σ H s→RelV x v→s.heap.IsSliceOf sl vl vu .none→IsPart vl lo→IsPart vu hi→r x lo hi H Q→
  ∃T id,typeLookup (.type T) "__getitem__"=pure (some (.builtin id))∧s.TypeIs v T∧wpAny (model X.prog X.w) X.A (getItem v (.ref sl)) (EP X pins σ Q) X.xe s
noncomputable def tSl (r:V→Option Int→Option Int→Hp→VK→Prop) (te:TE) (tl th:TO):TE:=fun σ H Q=>te σ H fun x H1=>tl σ H1 fun l H2=>th σ H2 fun u H3=>r x l u H3 Q
theorem pe_slice {r:V→Option Int→Option Int→Hp→VK→Prop} (hr:SlR X r) (he:PE X e te) (hl:PO X lo tl) (hu:PO X hi th):PE X (.Subscript e (.Slice lo hi none p2) pos) (tSl r te tl th):=by
 intro pins s σ H Q I h; refine Subscript_ (thn (he pins s σ H _ I h) fun v s1 ⟨x,H1,I1,r1,q1⟩=> ?_); refine wpAny_Slice (thn (hl pins s1 σ H1 _ I1 q1) fun vl s2 ⟨l,H2,I2,pl,q2⟩=>thn (hu pins s2 σ H2 _ I2 q2) fun vu s3 ⟨u,H3,I3,pu,q3⟩=> ?_); rw [evalPart_none]; refine wpAny_pure ?_; have I4:Inv X pins σ H3 {s3 with heap:=s3.heap.push {cls:= .type "slice",data:= .fields #[vl,vu, .none]}}:=I3.kept (t':=s3.toks) fun b ob q=>aE _ q
 obtain ⟨T,id,hT,ht,hg⟩:=hr pins {s3 with heap:=s3.heap.push {cls:= .type "slice",data:= .fields #[vl,vu, .none]}} σ H3 x v vl vu l u s3.heap.objs.size Q I4 r1 (Heap.IsSliceOf.new ..) pl pu q3; show wpAny (model X.prog X.w) X.A (subscriptTail e (.Slice lo hi none p2) v (.ref s3.heap.objs.size)) (EP X pins σ Q) X.xe {s3 with heap:=s3.heap.push {cls:= .type "slice",data:= .fields #[vl,vu, .none]}}; exact tail_any (ops:=[.ref s3.heap.objs.size,v]) ht hT hg (by with_unfolding_all rfl)
noncomputable def wR (xs:List V) (lo hi:Option Int):List V:=(xs.drop (HT.sIx xs.length 0 lo)).take (HT.sIx xs.length xs.length hi - HT.sIx xs.length 0 lo)
theorem sQ (xs:List V) (lo hi:Option Int):(wR xs lo hi).length≤xs.length:=by unfold wR; rw [dD,gZ]; omega
noncomputable def rSlT (K:aA):V→Option Int→Option Int→Hp→VK→Prop:=fun x lo hi H Q=>∃a xs,x= .ref a∧SqT K H a xs∧
 ¬ (HT.sIx xs.length 0 lo=0∧HT.sIx xs.length xs.length hi=xs.length)∧∀p,H p=none→Q (.ref p) (upd H p (.tup (wR xs lo hi)))
theorem sl_tup:SlR X (rSlT X.K):=by
 intro pins s σ H x v vl vu lo hi sl Q I rx hs pl pu h; obtain ⟨a,xs,rfl,hx,hw,q⟩:=h; cases rx; obtain ⟨its,r,ht,hz⟩:=I.tuple hx; have hlen:its.toArray.size=xs.length:=by rw [aS]; exact r.length.symm
 refine ⟨"tuple",_,PyProof.Rows.slot_tuple_getitem.lookup,ht.typeIs, ?_⟩; refine HT.getItem_tuple_cut ht hs pl pu (by rw [hlen]; exact hw) ?_ (by rw [hlen]; exact hz); rw [hlen]; refine ⟨.ref s.heap.objs.size,_,I.laid (t':=s.toks) (o:= .tup (wR xs lo hi)) (fun b ob q=>aE _ q) (aM _) ?_,rfl,q _ (I.hok.fresh (aM _))⟩; exact ⟨cE (sQ xs lo hi) hz,_,(r.drop (HT.sIx xs.length 0 lo)).take (HT.sIx xs.length xs.length hi - HT.sIx xs.length 0 lo),IsTupD.new _ _⟩
noncomputable def rCatT (K:aA):R2:=fun x y H Q=>∃a b xs ys,x= .ref a∧y= .ref b∧SqT K H a xs∧SqT K H b ys∧xs≠[]∧xs.length+ys.length≤sizeLine∧
 (ys=[]→Q (.ref a) H)∧(ys≠[]→∀p,H p=none→Q (.ref p) (upd H p (.tup (xs++ys))))
theorem Vals.nil_iff {xs:List V} {us:List Value} (r:Vals xs us):us=[]↔xs=[]:=by
 cases r with
 | nil=>simp
 | cons _ _=>simp
theorem op_catT:OpR X (binaryOp .Add) (rCatT X.K):=by intro pins s σ H x y v u Q I rx ry h; obtain ⟨a,b,xs,ys,rfl,rfl,ha,hb,hx,hz,q1,q2⟩:=h; cases rx; cases ry; obtain ⟨its,r1,p1,_⟩:=I.tuple ha; obtain ⟨its2,r2,p2,_⟩:=I.tuple hb; refine HT.cat_tup p1 p2 (fun z=>hx (r1.nil_iff.mp z)) (fun z=>⟨.ref a,H,I,rfl,q1 (r2.nil_iff.mp z)⟩) (fun z=> ?_) (by rw [← r1.length,← r2.length]; exact hz); refine ⟨.ref s.heap.objs.size,_,I.laid (t':=s.toks) (o:= .tup (xs++ys)) (fun b ob q=>aE _ q) (aM _) ?_,rfl,q2 (fun w=>z (r2.nil_iff.mpr w)) _ (I.hok.fresh (aM _))⟩; exact ⟨by rw [aW]; exact hz,_,r1.append r2,IsTupD.new _ _⟩
end
noncomputable def ixN (n:Nat) (i:Int):Option Nat:=if 0≤i then (if i<n then some i.toNat else none) else if -(n:Int)≤i then some (i+n).toNat else none
noncomputable def atI {α:Type} (xs:List α) (i:Int):Option α:=(ixN xs.length i).bind fun j=>xs[j]?
theorem ixN_seq {n:Nat} {i:Int} {j:Nat} (h:ixN n i=some j):seqIndex? i n=some j∧j<n∧ -(n:Int)≤i∧i<n:=by
 unfold ixN at h
 by_cases h0:0≤i
 ·rw [if_pos h0] at h
  by_cases h1:i<n
  ·rw [if_pos h1] at h; have e:i.toNat=j:=cI.inj h; exact ⟨by rw [seqIndex_of h0 h1,e],by omega,by omega,h1⟩
  ·rw [if_neg h1] at h; cases h
 ·rw [if_neg h0] at h
  by_cases h1: -(n:Int)≤i
  ·rw [if_pos h1] at h; have e:(i+n).toNat=j:=cI.inj h; exact ⟨by rw [seqIndex_neg (by omega) h1,e],by omega,h1,by omega⟩
  ·rw [if_neg h1] at h; cases h
theorem atI_get {α:Type} {xs:List α} {i:Int} {v:α} (h:atI xs i=some v):∃j,seqIndex? i xs.length=some j∧xs[j]? =some v∧j<xs.length∧ -(xs.length:Int)≤i∧i<xs.length:=by
 unfold atI at h; cases e:ixN xs.length i with
 | none=>rw [e] at h; cases h
 | some j=>rw [e] at h; obtain ⟨h1,h2,h3,h4⟩:=ixN_seq e; exact ⟨j,h1,h,h2,h3,h4⟩
theorem yF {α:Type} {xs:List α} {j:Nat} {v:α} (h:xs[j]? =some v):atI xs (j:Int)=some v:=by
 have hj:j<xs.length:=(aK.mp h).1
 have e:ixN xs.length (j:Int)=some j:=by unfold ixN; rw [if_pos (by omega),if_pos (by omega)]; simp
 unfold atI; rw [e]; exact h
noncomputable def oX (b:Expr):Prop:=∀o i,subscripted b false o i=operate [o,i] (getItem o i)
noncomputable def IxR (X:Cx) (r:R2):Prop:=
 ∀ (value slice:Expr) (pins:List (Addr × Obj)) (s:Shared) (σ:St) (H:Hp) (x y:V) (v u:Value) (Q:VK),Inv X pins σ H s→RelV x v→RelV y u→r x y H Q→
  subscripted slice false v u=operate [v,u] (getItem v u)→wpAny (model X.prog X.w) X.A (subscriptTail value slice v u) (EP X pins σ Q) X.xe s
noncomputable def MtR (X:Cx) (id:String) (r:V→List V→Hp→VK→Prop):Prop:=
 ∀ (pins:List (Addr × Obj)) (s:Shared) (σ:St) (H:Hp) (x:V) (xs:List V) (v:Value) (us:List Value) (Q:VK),Inv X pins σ H s→RelV x v→Vals xs us→r x xs H Q→
  wpAny (model X.prog X.w) X.A (call (.builtin id) (v::us)) (EP X pins σ Q) X.xe s
section
variable {X:Cx} {a b:Expr} {ta tb:TE} {pos:Pos}
theorem pe_ix {r:R2} (hr:IxR X r) (ha:PE X a ta) (hb:PE X b tb) (hs:oX b):PE X (.Subscript a b pos) (tOp r ta tb):=by intro pins s σ H Q I h; exact Subscript_ (binT ha hb I h fun v u s2 x y H2 I2 rx ry q=>hr a b pins s2 σ H2 x y v u Q I2 rx ry q (hs _ _))
noncomputable def rIxL (K:aA):R2:=fun x y H Q=>∃p xs i v,x= .ref p∧y= .int i∧SqL K H p xs∧atI xs i=some v∧Q v H
noncomputable def rIxT (K:aA):R2:=fun x y H Q=>∃p xs i v,x= .ref p∧y= .int i∧SqT K H p xs∧atI xs i=some v∧Q v H
theorem ix_list:IxR X (rIxL X.K):=by
 intro value slice pins s σ H x y v u Q I rx ry h hs; obtain ⟨p,xs,i,z,rfl,rfl,hq,he,q⟩:=h; cases rx; obtain ⟨t,rfl⟩:=ry; obtain ⟨its,r,pl,hz⟩:=I.list hq; obtain ⟨j,h1,h2,h3,h4,h5⟩:=atI_get he; obtain ⟨w,ew,rw'⟩:=r.get h2; have hl:=r.length; have hn:=line63; have fin:EP X pins σ Q w s:=⟨z,H,I,rw',q⟩
 by_cases h0:0≤i
 ·have hj:i.toNat=j:=by rw [seqIndex_of h0 h5] at h1; exact cI.inj h1
  exact item_listR pl.isList h0 (by omega) (by rw [hj]; simpa using ew) fin hs
 ·have hj:(i+(its.toArray.size:Int)).toNat=j:=by rw [seqIndex_neg (by omega) h4] at h1; rw [aS,← hl]; exact cI.inj h1
  exact subscriptTail_builtinR (x:=w) pl.isList.typeIs slot_list_getitem.lookup
   (wpAny_getItem_list_neg (Q:=fun r s'=>r=w∧EP X pins σ Q r s') pl.isList (by omega) (by rw [aS]<;>omega) (by omega) (by rw [hj]; simpa using ew) ⟨rfl,fin⟩) hs
theorem ix_tup:IxR X (rIxT X.K):=by
 intro value slice pins s σ H x y v u Q I rx ry h hs; obtain ⟨p,xs,i,z,rfl,rfl,hq,he,q⟩:=h; cases rx; obtain ⟨t,rfl⟩:=ry; obtain ⟨its,r,pl,hz⟩:=I.tuple hq; obtain ⟨j,h1,h2,h3,h4,h5⟩:=atI_get he; obtain ⟨w,ew,rw'⟩:=r.get h2; have hl:=r.length; have hn:=line63; have fin:EP X pins σ Q w s:=⟨z,H,I,rw',q⟩
 exact subscriptTail_builtinR (x:=w) pl.typeIs slot_tuple_getitem.lookup
  (getItem_tuple (j:=j) (Q:=fun r s'=>r=w∧EP X pins σ Q r s') pl (by omega) (by omega) (by rw [aS,← hl]; exact h1) (by simpa using ew) ⟨rfl,fin⟩) hs
theorem zK (lo hi:Option Int) (n:Nat):(sliceBounds lo hi none n).1=((HT.sIx n 0 lo:Nat):Int)∧(sliceBounds lo hi none n).2.1=((HT.sIx n n hi:Nat):Int)∧(sliceBounds lo hi none n).2.2=1:=by
 refine ⟨?_, ?_,rfl⟩
 ·cases lo with
  | none=>simp [sliceBounds,HT.sIx]
  | some i=>
   simp only [sliceBounds,HT.sIx,Option.getD_none,show (1:Int)>0 by decide,if_true]
   by_cases h:i<0
   ·simp only [h,if_true]<;>omega
   ·simp only [h,if_false]<;>omega
 ·cases hi with
  | none=>simp [sliceBounds,HT.sIx]
  | some i=>
   simp only [sliceBounds,HT.sIx,Option.getD_none,show (1:Int)>0 by decide,if_true]
   by_cases h:i<0
   ·simp only [h,if_true]<;>omega
   ·simp only [h,if_false]<;>omega
theorem wV (its:List Value) (lo hi:Option Int):slicePick its.toArray lo hi none=((its.drop (HT.sIx its.length 0 lo)).take (HT.sIx its.length its.length hi - HT.sIx its.length 0 lo)).toArray:=by obtain ⟨h1,h2,h3⟩:=zK lo hi its.toArray.size; unfold slicePick; rw [h1,h2,h3]; simp only [sliceRange_one,pick_run,aS]<;>rfl
noncomputable def rSlL (K:aA):V→Option Int→Option Int→Hp→VK→Prop:=fun x lo hi H Q=>∃a xs,x= .ref a∧SqL K H a xs∧∀p,H p=none→Q (.ref p) (upd H p (.lst (wR xs lo hi)))
theorem sl_list:SlR X (rSlL X.K):=by intro pins s σ H x v vl vu lo hi sl Q I rx hs pl pu h; obtain ⟨a,xs,rfl,hx,q⟩:=h; cases rx; obtain ⟨its,r,ht,hz⟩:=I.list hx; have hlen:=r.length; refine ⟨"list",_,slot_list_getitem.lookup,ht.isList.typeIs, ?_⟩; refine wpAny_getItem_list_slice ht.isList hs pl pu .none (by simp) ?_ (by rw [aS]<;>omega); rw [wV,← hlen]; refine ⟨.ref s.heap.objs.size,_,I.laid (t':=s.toks) (o:= .lst (wR xs lo hi)) (fun b ob q=>aE _ q) (aM _) ?_,rfl,q _ (I.hok.fresh (aM _))⟩; exact ⟨cE (sQ xs lo hi) hz,_,0,(r.drop (HT.sIx xs.length 0 lo)).take (HT.sIx xs.length xs.length hi - HT.sIx xs.length 0 lo),bG _ rfl⟩
noncomputable def nZ:V→Bool
 | .non=>true
 | .bl _=>true
 | .int _=>true
 | .str _=>true
 | _=>false
noncomputable def eqV:V→V→Bool
 | .non, .non=>true
 | .bl a, .bl b=>a==b
 | .bl a, .int b=>(if a then 1 else 0)==b
 | .int a, .bl b=>a==(if b then 1 else 0)
 | .int a, .int b=>a==b
 | .str a, .str b=>a==b
 | _,_=>false
theorem uS {A:Around} {s:Shared} {y x:V} {u v:Value} (ry:RelV y u) (rx:RelV x v) (fy:nZ y=true) (fx:nZ x=true):SeqAt.EqAt A s u v (eqV y x):=by
 cases y with
 | non=>
  cases ry; cases x with
  | non=>cases rx; exact SeqAt.EqAt.same _
  | bl b=>cases rx; exact SeqAt.EqAt.none_bool b
  | int b=>obtain ⟨t,rfl⟩:=rx; exact SeqAt.EqAt.none_int b t
  | str b=>obtain ⟨t,rfl⟩:=rx; exact SeqAt.EqAt.none_str b t
  | _=>exact absurd (show false=true from fx) bI
 | bl a=>
  cases ry; cases x with
  | non=>cases rx; exact SeqAt.EqAt.bool_none a
  | bl b=>cases rx; exact SeqAt.EqAt.bool_bool a b
  | int b=>obtain ⟨t,rfl⟩:=rx; exact SeqAt.EqAt.bool_int a b t
  | str b=>obtain ⟨t,rfl⟩:=rx; exact SeqAt.EqAt.bool_str a b t
  | _=>exact absurd (show false=true from fx) bI
 | int a=>
  obtain ⟨t',rfl⟩:=ry; cases x with
  | non=>cases rx; exact SeqAt.EqAt.int_none a t'
  | bl b=>cases rx; exact SeqAt.EqAt.int_bool a t' b
  | int b=>obtain ⟨t,rfl⟩:=rx; exact SeqAt.EqAt.int_int a t' b t
  | str b=>obtain ⟨t,rfl⟩:=rx; exact SeqAt.EqAt.int_str a t' b t
  | _=>exact absurd (show false=true from fx) bI
 | str a=>
  obtain ⟨t',rfl⟩:=ry; cases x with
  | non=>cases rx; exact SeqAt.EqAt.str_none a t'
  | bl b=>cases rx; exact SeqAt.EqAt.str_bool a t' b
  | int b=>obtain ⟨t,rfl⟩:=rx; exact SeqAt.EqAt.str_int a t' b t
  | str b=>obtain ⟨t,rfl⟩:=rx; exact SeqAt.EqAt.str_str a t' b t
  | _=>exact absurd (show false=true from fx) bI
 | _=>exact absurd (show false=true from fy) bI
noncomputable def eqU (x:V) (u:Value):Bool:=match u with
 | .none=>eqV .non x
 | .bool b=>eqV (.bl b) x
 | .int i _=>eqV (.int i) x
 | .str z _=>eqV (.str z) x
 | _=>false
theorem eqU_of {x y:V} {u:Value} (r:RelV y u) (f:nZ y=true):eqU x u=eqV y x:=by
 cases y with
 | non=>cases r; rfl
 | bl b=>cases r; rfl
 | int i=>obtain ⟨t,rfl⟩:=r; rfl
 | str z=>obtain ⟨t,rfl⟩:=r; rfl
 | _=>exact absurd (show false=true from f) bI
theorem yK {x:V}:∀ {xs:List V} {us:List Value},Vals xs us→xs.all nZ=true→us.any (eqU x)=xs.any fun y=>eqV y x
 | _,_, .nil,_=>rfl
 | y::xs,u::us, .cons r t,f=>by rw [List.all_cons,bL] at f; rw [rE,rE,eqU_of r f.1,yK t f.2]
theorem wB {A:Around} {s:Shared} {x:V} {v:Value} (rx:RelV x v) (fx:nZ x=true):∀ {xs:List V} {us:List Value},Vals xs us→xs.all nZ=true→∀u∈us,SeqAt.EqAt A s u v (eqU x u)
 | _,_, .nil,_=>fun u hu=>by cases hu
 | y::xs,u::us, .cons r t,f=>fun u' hu=>by
  rw [List.all_cons,bL] at f
  rcases aX.mp hu with rfl | hu
  ·rw [eqU_of r f.1]; exact uS r rx f.1 fx
  ·exact wB rx fx t f.2 u' hu
noncomputable def inV (x:V) (xs:List V):Bool:=xs.any fun y=>eqV y x
noncomputable def rIn (K:aA) (neg:Bool):R2:=fun x y H Q=>∃p xs,y= .ref p∧(SqL K H p xs∨SqT K H p xs)∧nZ x=true∧xs.all nZ=true∧Q (.bl (if neg then !inV x xs else inV x xs)) H
theorem op_in_seq:OpR X (compareOp .In) (rIn X.K false):=by
 intro pins s σ H x y v u Q I rx ry h; obtain ⟨p,xs,rfl,hq,fx,fs,q⟩:=h; cases ry
 rcases hq with hq | hq
 ·obtain ⟨its,r,pl,hz⟩:=I.list hq; refine SeqAt.in_listAt (eqU x) pl.isList (fun w hw=>wB rx fx r fs w (by simpa using hw)) ⟨.bl _,H,I,rfl, ?_⟩; rw [show its.toArray.any (eqU x)=its.any (eqU x) by simp,yK r fs]; exact q
 ·obtain ⟨its,r,pl,hz⟩:=I.tuple hq; refine SeqAt.in_tupleAt (eqU x) pl (fun w hw=>wB rx fx r fs w (by simpa using hw)) ⟨.bl _,H,I,rfl, ?_⟩; rw [show its.toArray.any (eqU x)=its.any (eqU x) by simp,yK r fs]; exact q
theorem nJ:oB X (.builtin "len") (fun xs H Q=>∃p ys,xs=[.ref p]∧(SqL X.K H p ys∨SqT X.K H p ys)∧Q (.int ys.length) H):=by
 intro pins s σ H xs us Q I r h; obtain ⟨p,ys,rfl,hq,q⟩:=h; obtain ⟨u,rfl,rx⟩:=oJ r; cases rx; have hn:=line63
 rcases hq with hq | hq
 ·obtain ⟨its,r',pl,hz⟩:=I.list hq; have hlen:=r'.length; exact Calls.call_len_list pl.isList (by simp only [aS]<;>omega) ⟨.int ys.length,H,I.tok _,⟨s.toks+1,by rw [aS,hlen]⟩,q⟩
 ·obtain ⟨its,r',pl,hz⟩:=I.tuple hq; have hlen:=r'.length; exact len_tuple pl (by simp only [aS]<;>omega) ⟨.int ys.length,H,I.tok _,⟨s.toks+1,by rw [aS,hlen]⟩,q⟩
theorem yB:oB X (.type "list") (fun xs H Q=>∃p ys,xs=[.ref p]∧(SqL X.K H p ys∨SqT X.K H p ys)∧∀l,H l=none→Q (.ref l) (upd H l (.lst ys))):=by
 intro pins s σ H xs us Q I r h; obtain ⟨p,ys,rfl,hq,q⟩:=h; obtain ⟨u,rfl,rx⟩:=oJ r; cases rx
 have fin:∀ (its:List Value),Vals ys its→ys.length≤sizeLine→∀ (h':Heap) (c':Nat),(∀b o',s.heap.get? b=some o'→h'.get? b=some o')→
   h'.get? s.heap.objs.size=some {cls:= .type "list",dict:=none,data:= .seq its.toArray c',slots:= #[]}→EP X pins σ Q (.ref s.heap.objs.size) {s with heap:=h'}:=fun its r' hz h' c' kp e=>
  ⟨.ref s.heap.objs.size,_,I.laid (t':=s.toks) kp (aM _) (show ObjOk X.prog X.w _ h' _ (.lst ys) from ⟨hz,its,c',r',e⟩),rfl,q _ (I.hok.fresh (aM _))⟩
 rcases hq with hq | hq
 ·obtain ⟨its,r',pl,hz⟩:=I.list hq; have hlen:=r'.length; obtain ⟨o,ho,hc,n,hd⟩:=pl.isList; exact call_list_seq p (.inl rfl) ho hc hd (fun h' c' kp e=>fin its r' hz h' c' kp e) (by simp only [aS]<;>omega)
 ·obtain ⟨its,r',pl,hz⟩:=I.tuple hq; have hlen:=r'.length; obtain ⟨o,ho,hc,n,hd⟩:=pl; exact call_list_seq p (.inr rfl) ho hc hd (fun h' c' kp e=>fin its r' hz h' c' kp e) (by simp only [aS]<;>omega)
theorem wQ:oB X (.type "tuple") (fun xs H Q=>∃p ys,xs=[.ref p]∧((SqL X.K H p ys∧∀l,H l=none→Q (.ref l) (upd H l (.tup ys)))∨(SqT X.K H p ys∧Q (.ref p) H))):=by
 intro pins s σ H xs us Q I r h; obtain ⟨p,ys,rfl,h⟩:=h; obtain ⟨u,rfl,rx⟩:=oJ r; cases rx
 rcases h with ⟨hq,q⟩ | ⟨hq,q⟩
 ·obtain ⟨its,r',pl,hz⟩:=I.list hq; have hlen:=r'.length; refine call_tuple_list pl.isList (fun h' kp=> ?_) (by simp only [aS]<;>omega); have I1:Inv X pins σ H {s with heap:=h'}:=I.kept (t':=s.toks) kp
  have I2:Inv X pins σ (upd H h'.objs.size (.tup ys)) {s with heap:=h'.push {cls:= .type "tuple",data:= .seq its.toArray}}:=
   I1.laid (t':=s.toks) (fun b o e=>aE _ e) (aM _) (show ObjOk X.prog X.w _ _ _ (.tup ys) from ⟨hz,its,r',IsTupD.new _ _⟩)
  exact ⟨.ref h'.objs.size,_,I2,rfl,q _ (I1.hok.fresh (aM _))⟩
 ·obtain ⟨its,r',pl,hz⟩:=I.tuple hq; exact call_tuple_same pl ⟨.ref p,H,I,rfl,q⟩
noncomputable def tyV (K:aA) (T:String) (x:V) (H:Hp):Prop:=match x with
 | .str _=>T="str"
 | .int _=>T="int"
 | .ref p=>(T="list"∧∃xs,SqL K H p xs)∨(T="tuple"∧∃o,K.lookup p=some o∧o.cls= .type "tuple"∧o.dict=none)∨
   (T="dict"∧((∃kvs,H p=some (.dK kvs))∨∃kvs,H p=some (.dT kvs)))∨(T="set"∧∃S n,H p=some (.set S n))
 | _=>False
theorem tyV_is {pins:List (Addr × Obj)} {σ:St} {H:Hp} {s:Shared} {T:String} {x:V} {v:Value} (I:Inv X pins σ H s) (r:RelV x v) (ty:tyV X.K T x H):
  s.TypeIs v T∧∀a,v= .ref a→∃ob,s.heap.get? a=some ob∧ob.dict=none:=by
 cases x with
 | str z=>obtain ⟨t,rfl⟩:=r; cases (show T="str" from ty); exact ⟨typeIs_str s z t,fun _ e=>nomatch e⟩
 | int i=>obtain ⟨t,rfl⟩:=r; cases (show T="int" from ty); exact ⟨typeIs_int s i t,fun _ e=>nomatch e⟩
 | ref p=>
  cases r
  rcases ty with ⟨rfl,xs,hq⟩ | ⟨rfl,o,hk,hc,hd⟩ | ⟨rfl,hk⟩ | ⟨rfl,S,n,hk⟩
  ·obtain ⟨its,_,pl,_⟩:=I.list hq; refine ⟨pl.isList.typeIs,fun a e=> ?_⟩; cases e; obtain ⟨o,n,e,c,hd,_⟩:=pl; exact ⟨o,e,hd⟩
  ·refine ⟨⟨o,I.kIn p o hk,hc⟩,fun a e=> ?_⟩; cases e; exact ⟨o,I.kIn _ o hk,hd⟩
  ·have z:∃o,s.heap.get? p=some o∧o.ExactDict:=by
    rcases hk with ⟨kvs,hk⟩ | ⟨kvs,hk⟩
    ·obtain ⟨_,_,_,_,o,_,_,e,ex,_⟩:=I.hok p _ hk; exact ⟨o,e,ex⟩
    ·obtain ⟨_,_,_,_,o,_,_,e,ex,_⟩:=I.hok p _ hk; exact ⟨o,e,ex⟩
   obtain ⟨o,e,ex⟩:=z; refine ⟨⟨o,e,ex.1⟩,fun a e2=> ?_⟩; cases e2; exact ⟨o,e,ex.2.1⟩
  ·obtain ⟨o,_,_,_,e,ex,_⟩:=I.hok p _ hk; refine ⟨⟨o,e,ex.1⟩,fun a e2=> ?_⟩; cases e2; exact ⟨o,e,ex.2.1⟩
 | _=>exact False.elim ty
noncomputable def tBM (K:aA) (T:String) (r:V→List V→Hp→VK→Prop) (to:TE) (t:TA):TE:=fun σ H Q=>to σ H fun x H1=>tyV K T x H1∧t σ H1 fun xs H2=>r x xs H2 Q
variable {o e:Expr} {es:List Expr} {to:TE} {t:TA} {name:Str} {apos cpos:Pos} {T id:String} {r:V→List V→Hp→VK→Prop}
theorem pe_bm (pa:PlainAttrs T) (slot:Slot T name id) (hty:typeOf (.builtin id)=pure (.type "method_descriptor")) (hm:MtR X id r) (ho:PE X o to) (ha:PA X (e::es) t)
  (hbase:attributeBase o name X.env (eval o X.env)=eval o X.env:=by rfl)
  (hfew:((backTo cpos (starEach (e::es) X.env)).all (fun x=> !x.1) && (backToKw cpos (keywordEach [] X.env)).all (fun x=>x.1.isSome)
   && decide ((e::es).length+([]:List Keyword).length+(if ([]:List Keyword).isEmpty then 0 else 1)<30))=true:=by rfl)
  (hline:(apos.endLine==cpos.line)=true:=by rfl) (hs:starEach (e::es) X.env=(false,eval e X.env)::starEach es X.env:=by rfl) (hplain:(backTo cpos (starEach es X.env)).any (·.1)=false:=by rfl):
  PE X (.Call (.Attribute o name apos) (e::es) [] cpos) (tBM X.K T r to t):=by
 intro pins s σ H Q I h; refine wpAny_Call_method_late hbase hfew hline rfl (thn (ho pins s σ H _ I h) fun v s1 ⟨x,H1,I1,r1,ty,q1⟩=> ?_); obtain ⟨h1,h2⟩:=tyV_is I1 r1 ty; refine ⟨T,id,pa,slot,hty,h1,h2, ?_⟩; have hA:=ha cpos pins s1 σ H1 _ I1 q1; rw [hs] at hA ⊢; refine Calls.callWith_builtin (by show (false || (backTo cpos (starEach es X.env)).any (·.1))=false; rw [hplain]<;>rfl) (Calls.evalArgs_plain ?_); exact thn hA fun us s2 ⟨vs,H2,I2,r2,q2⟩=>hm pins s2 σ H2 x vs v us Q I2 r1 r2 q2
/- xs.append(e),list.index on a module's tuple .. are MtR facts of 06m -/
end
noncomputable def MtM (X:Cx) (id:String) (r:V→List V→Hp→VK→Prop):Prop:=
 ∀ (pins:List (Addr × Obj)) (s:Shared) (σ:St) (H:Hp) (x:V) (xs:List V) (v:Value) (us:List Value) (Q:VK),Inv X pins σ H s→RelV x v→Vals xs us→r x xs H Q→
  wpAny (model X.prog X.w) X.A (call (.builtin id) (v::us)) (EP X pins σ Q) X.xe s
theorem Vals.one:∀ {x:V} {us:List Value},Vals [x] us→∃u,us=[u]∧RelV x u
 | _,_, .cons r .nil=>⟨_,rfl,r⟩
section
variable {X:Cx} {pins:List (Addr × Obj)} {σ:St} {H:Hp} {s:Shared} {l b:Addr} {xs ys zs:List V}
theorem Inv.lset {its its':List Value} {n:Nat} {f:Array Value→Array Value} {t':Nat} (I:Inv X pins σ H s) (hH:H l=some (.lst xs))
  (e:s.heap.get? l=some {cls:= .type "list",data:= .seq its.toArray n}) (hf:f its.toArray=its'.toArray) (hv:Vals ys its') (hz:ys.length≤sizeLine):
  Inv X pins σ (upd H l (.lst ys)) {s with heap:=s.heap.update l (Obj.mapSeq f),toks:=t'}:=by
 have q:=PySem.IsL.update e f; rw [hf] at q; refine I.write (x:=l) (e:=l) (by rw [hH]; exact trivial) (.inl rfl) (fun b' u hb hu=>(dH s.heap (Obj.mapSeq f) (Ne.symm hb)).trans hu) ⟨_,q⟩ ?_; exact ⟨hz,its',_,hv,q⟩
theorem Inv.lstM (I:Inv X pins σ H s) (hH:H l=some (.lst xs)):xs.length≤sizeLine∧∃ (its:List Value) (n:Nat),Vals xs its∧xs.length=its.length∧s.heap.get? l=some {cls:= .type "list",data:= .seq its.toArray n}:=by obtain ⟨z,its,n,r,e⟩:=I.hok l _ hH; exact ⟨z,its,n,r,r.length,e⟩
theorem notLongL {n:Nat} (h:n≤sizeLine):Builtin.List.listTooLong n=false:=by unfold Builtin.List.listTooLong; exact decide_eq_false (by omega)
end
section
variable {X:Cx}
noncomputable def tY:V→List V→Hp→VK→Prop:=fun x vs H Q=>∃l xs y,x= .ref l∧vs=[y]∧H l=some (.lst xs)∧xs.length<sizeLine∧Q .non (upd H l (.lst (xs++[y])))
theorem xR:MtM X "list.append" tY:=by intro pins s σ H x vs v us Q I rx rv h; obtain ⟨l,xs,y,rfl,rfl,hH,hz,q⟩:=h; cases rx; obtain ⟨u,rfl,ru⟩:=rv.one; obtain ⟨z,its,n,r,hl,e⟩:=I.lstM hH; refine call_meets F.slot_list_append ⟨_,e,rfl⟩ F.entry_list_append (F.args_list_append_2 _ _) (PySem.list_append l its.toArray n u (by rw [aS]; omega)) ⟨e, ?_⟩; refine ⟨.non,_,I.lset (its':=its++[u]) hH e (by simp) (r.append (.cons ru .nil)) ?_,rfl,q⟩; rw [aW,List.length_singleton]; omega
noncomputable def rExtend:V→List V→Hp→VK→Prop:=fun x vs H Q=>∃l b xs zs,x= .ref l∧vs=[.ref b]∧H l=some (.lst xs)∧H b=some (.lst zs)∧xs.length+zs.length≤sizeLine∧Q .non (upd H l (.lst (xs++zs)))
theorem mt_extend:MtM X "list.extend" rExtend:=by
 intro pins s σ H x vs v us Q I rx rv h; obtain ⟨l,b,xs,zs,rfl,rfl,hH,hB,hz,q⟩:=h; cases rx; obtain ⟨u,rfl,ru⟩:=rv.one; cases ru; obtain ⟨z,its,n,r,hl,e⟩:=I.lstM hH; obtain ⟨z2,its2,n2,r2,hl2,e2⟩:=I.lstM hB; have hsz:its.toArray.size+its2.toArray.size≤sizeLine:=by rw [aS,aS]; omega
 have hlong:¬ (!its.toArray.isEmpty && Builtin.List.listTooLong (its.toArray.size+its2.toArray.size))=true:=by rw [notLongL hsz,Bool.and_false]; exact bI
 refine call_meets F.slot_list_extend ⟨_,e,rfl⟩ F.entry_list_extend (F.args_list_extend_2 _ _)
  (AutoSeq1.list_extend_list_list_0 l its.toArray n b its2.toArray n2 hlong (by rw [aS]; omega) (by omega)) ⟨e,e2, ?_⟩
 refine ⟨.non,_,I.lset (its':=its++its2) hH e (by simp) (r.append r2) ?_,rfl,q⟩; rw [aW]; omega
noncomputable def rPop:V→List V→Hp→VK→Prop:=fun x vs H Q=>∃l xs y,x= .ref l∧vs=[]∧H l=some (.lst xs)∧xs[xs.length - 1]? =some y∧Q y (upd H l (.lst xs.dropLast))
end
section
variable {prog:Program} {w:World} {A:Around} {E:Value→Shared→Prop} {s:Shared}
set_option maxRecDepth 100000 in
end
section
variable {κ:Type} [DecidableEq κ]
noncomputable def kH (kvs:List (κ × V)) (k:κ):Option V:=(kvs.find? fun kv=>decide (kv.1=k)).map (·.2)
noncomputable def putK (kvs:List (κ × V)) (k:κ) (v:V):List (κ × V):=
 if (kvs.any fun kv=>decide (kv.1=k))=true then kvs.map (fun kv=>if kv.1=k then (kv.1,v) else kv) else kvs++[(k,v)]
theorem mP {p:κ × V} {r:List (κ × V)} {k:κ} (e:p.1=k):kH (p::r) k=some p.2:=by simp [kH,gQ,e]
theorem kJ {p:κ × V} {r:List (κ × V)} {k:κ} (e:¬ p.1=k):kH (p::r) k=kH r k:=by simp [kH,gQ,e]
theorem vS (k:κ):∀kvs:List (κ × V),(kvs.any fun kv=>decide (kv.1=k))=(kH kvs k).isSome
 | []=>rfl
 | p::r=>by
  rw [rE]
  by_cases e:p.1=k
  ·simp only [mP e,decide_eq_true e,Bool.true_or,Option.isSome_some]
  ·rw [kJ e,decide_eq_false e,Bool.false_or]; exact vS k r
theorem vH {kvs:List (κ × V)} {k:κ} (v:V) (h:kH kvs k=none):putK kvs k v=kvs++[(k,v)]:=by unfold putK; rw [vS,h]; exact if_neg (by decide)
theorem RelO.isSome_eq {o:Option V} {u:Option Value} (r:RelO o u):o.isSome=u.isSome:=by
 cases o with
 | none=>cases u with
  | none=>rfl
  | some _=>exact (show False from r).elim
 | some _=>cases u with
  | none=>exact (show False from r).elim
  | some _=>rfl
end
theorem kV_is {P:Program} {w:World} {k:Key} {u:Value} (r:RelV (kV k) u):(gC P w).is k u=true:=by
 cases k with
 | inl i=>obtain ⟨t,e⟩:=(show ∃t,u=Value.int i t from r); subst e; exact mixKind_int P w i t
 | inr x=>obtain ⟨t,e⟩:=(show ∃t,u=Value.str x t from r); subst e; exact mixKind_str P w x t
theorem xW {P:Program} {w:World}:∀ {ks:List Key} {us:List Value},Vals (ks.map kV) us→ItemsAre (gC P w) ks us
 | [],_,r=>by rw [eI] at r; cases r; exact .nil
 | k::ks,_,r=>by
  rw [bA] at r; cases r with
  | cons h t=>exact .cons (kV_is h) (xW t)
noncomputable abbrev KT (H:Hp):List (List Key × V)→List (List Key × Addr × Value)→Prop:=Paired fun p q=>p.1=q.1∧H q.2.1=some (.tup (p.1.map kV))∧RelV p.2 q.2.2
theorem KT.val {H:Hp} {kvs:List (List Key × V)} {xs:List (List Key × Addr × Value)} (r:KT H kvs xs) (k:List Key):RelO (kH kvs k) ((atKey xs k).map (·.2)):=by
 induction r with
 | nil=>exact True.intro
 | @cons p q ps qs h t ih=>
  obtain ⟨h1,_,h2⟩:=h
  by_cases e:p.1=k
  ·have e':q.1=k:=h1.symm.trans e; have b:atKey (q::qs) k=some q.2:=by simp [atKey,gQ,e']
   rw [mP e,b]; exact h2
  ·have e':¬ q.1=k:=fun z=>e (h1.trans z)
   have b:atKey (q::qs) k=atKey qs k:=by simp [atKey,gQ,e']
   rw [kJ e,b]; exact ih
theorem KT.repl {H:Hp} {kvs:List (List Key × V)} {xs:List (List Key × Addr × Value)} (r:KT H kvs xs) (k:List Key) {y:V} {u:Value} (ry:RelV y u):
  KT H (kvs.map fun kv=>if kv.1=k then (kv.1,y) else kv) (xs.map (putAt k u)):=by
 induction r with
 | nil=>exact .nil
 | @cons p q ps qs h t ih=>
  rw [bA,bA]; refine .cons ?_ ih; obtain ⟨h1,h2,h3⟩:=h; unfold putAt
  by_cases e:p.1=k
  ·rw [if_pos e,if_pos (h1.symm.trans e)]; exact ⟨h1,h2,ry⟩
  ·rw [if_neg e,if_neg (fun z=>e (h1.trans z))]; exact ⟨h1,h2,h3⟩
theorem KT.put {H:Hp} {kvs:List (List Key × V)} {xs:List (List Key × Addr × Value)} (r:KT H kvs xs) (k:List Key) {b:Addr} {y:V} {u:Value} (hb:H b=some (.tup (k.map kV))) (ry:RelV y u):
  KT H (putK kvs k y) (storedH xs k b u):=by
 have e:(kvs.any fun kv=>decide (kv.1=k))=(atKey xs k).isSome:=by rw [vS,(r.val k).isSome_eq,Option.isSome_map]
 unfold putK storedH; rw [e]
 by_cases q:(atKey xs k).isSome=true
 ·rw [if_pos q,if_pos q]; exact r.repl k ry
 ·rw [if_neg q,if_neg q]; exact Paired.snoc r ⟨rfl,hb,ry⟩
theorem KT.keeps {H H':Hp} {kvs:List (List Key × V)} {xs:List (List Key × Addr × Value)} (r:KT H kvs xs) (ht:∀b ys,H b=some (.tup ys)→H' b=some (.tup ys)):KT H' kvs xs:=
 Paired.mapP r fun _ _ z=>⟨z.1,ht _ _ z.2.1,z.2.2⟩
section
variable {P:Program} {w:World} {H:Hp} {h:Heap} {a:Addr}
theorem uU {ks:List Key} (ok:HOk P w H h) (e:H a=some (.tup (ks.map kV))):(tupleKind (gC P w)).is h ks a:=by obtain ⟨_,its,r,o,h1,h2,⟨n,h3⟩,_⟩:=(show ObjOk P w H h a (.tup (ks.map kV)) from ok a _ e); exact ⟨o,its.toArray,n,h1,h2,h3,by simpa using xW r⟩
end
section
variable {X:Cx} {pins:List (Addr × Obj)} {σ:St} {H:Hp} {s:Shared} {a:Addr} {y v:V} {u r:Value} {o:Option V} {A:Around} {E:Value→Shared→Prop}
theorem Inv.big (I:Inv X pins σ H s):sysModules<s.heap.objs.size:=by have h:mainGlobals<s.heap.objs.size:=(I.mod.glob.keeps I.bk).lt; exact oQ (by decide) h
theorem tS {h':Heap} {t':Nat} {ob:HO} (I:Inv X pins σ H s) (mu:Mut (H a)) (hs:Heap.SameBut a s.heap h') (he:∃q,h'.get? a=some q) (new:ObjOk X.prog X.w (upd H a ob) h' a ob):
  Inv X pins σ (upd H a ob) {s with heap:=h',toks:=t'}:=
 I.write (x:=a) (e:=a) mu (.inl rfl) (fun b q hb z=>(hs.2 b hb).trans z) he new
end
noncomputable def NoSl (i:Expr):Prop:=∀ov iv,subscripted i false ov iv=operate [ov,iv] (getItem ov iv)
theorem subD_of {prog:Program} {w:World} {A:Around} {E:Value→Shared→Prop} {s:Shared} {env:Env} {value slice:Expr} {pos:Pos} {T id:String} {Q:Value→Shared→Prop}
  (hl:typeLookup (.type T) "__getitem__"=pure (some (.builtin id))) (hs:NoSl slice)
  (h:wpAny (model prog w) A (eval value env) (fun o s₁=>wpAny (model prog w) A (eval slice env) (fun i s₂=>s₂.TypeIs o T∧wpAny (model prog w) A (getItem o i) Q E s₂) E s₁) E s):
  wpAny (model prog w) A (eval (.Subscript value slice pos) env) Q E s:=by
 refine Subscript_ (wpAny_mono h (fun o s₁ h₁=>wpAny_mono h₁ (fun i s₂ h₂=> ?_) fun _ _ x=>x) fun _ _ x=>x); obtain ⟨hT,h₂⟩:=h₂; unfold subscriptTail; refine wpAny_bind ?_; rw [getitemInPython_of_ne hT.not_modules]; refine wpAny_bind (wpAny_specialOf hT hl ?_)
 have fin:wpAny (model prog w) A (subscripted slice false o i) (fun r s₃=>wpAny (model prog w) A (letTemporaryGo value o r>>=fun _=>pure r) Q E s₃) E s₂:=by rw [hs o i]; exact wpAny_operating (wpAny_mono h₂ (fun r s₃ h₃=>wpAny_bind (wpAny_letTemporaryGo (wpAny_pure h₃))) fun _ _ x=>x)
 first
  | exact wpAny_pure (wpAny_bind fin)
  | exact wpAny_bind (wpAny_pure (wpAny_bind fin))
  | exact wpAny_bind fin
noncomputable abbrev VV:List (V × V)→List (Value × Value)→Prop:=Paired fun p q=>RelV p.1 q.1∧RelV p.2 q.2
structure M1 (X:Cx) (o:Expr) (m:Str) (apos:Pos) (e:Expr) (cpos:Pos):Prop where
 base:attributeBase o m X.env (eval o X.env)=eval o X.env
 few:((backTo cpos (starEach [e] X.env)).all (fun x=> !x.1) && (backToKw cpos (keywordEach [] X.env)).all (fun x=>x.1.isSome)
  && decide (([e]:List Expr).length+([]:List Keyword).length+(if ([]:List Keyword).isEmpty then 0 else 1)<30))=true
 line:(apos.endLine==cpos.line)=true
 trees:backTo cpos (starEach [e] X.env)=[(false,eval e X.env)]
structure M2 (X:Cx) (o:Expr) (m:Str) (apos:Pos) (e f:Expr) (cpos:Pos):Prop where
 base:attributeBase o m X.env (eval o X.env)=eval o X.env
 few:((backTo cpos (starEach [e,f] X.env)).all (fun x=> !x.1) && (backToKw cpos (keywordEach [] X.env)).all (fun x=>x.1.isSome)
  && decide (([e,f]:List Expr).length+([]:List Keyword).length+(if ([]:List Keyword).isEmpty then 0 else 1)<30))=true
 line:(apos.endLine==cpos.line)=true
 trees:backTo cpos (starEach [e,f] X.env)=[(false,eval e X.env),(false,eval f X.env)]
end L2
namespace Att
open PySem PySem.W PySem.Calls PyProof.Rows
theorem sX {P:Params} {h:Heap}:∀ (ns:List Int) (vs:List Value),WellAll P h vs (ns.map WData.int)→IntsAre vs ns:=by
 intro ns
 induction ns with
 | nil=>intro vs w; rw [eI] at w; cases w; exact .nil
 | cons n ns ih=>
  intro vs w; rw [bA] at w; cases w with
  | cons a b=>cases a; exact .cons _ _ (ih _ b)
theorem script_of {l:OpenLaw} {n:Nat} (hn:l.most=some n) {P:Params} {h:Heap} {args:List WData} {vals:List Value}
  (hpre:l.row.toRowW.claim.pre args=true) (hwl:WellAll P h vals args):
  ∃a vs ns,vals=[Value.ref a]∧args=[WData.list (ns.map WData.int)]∧h.get? a=some {cls:= .type "list",data:= .seq vs.toArray}∧IntsAre vs ns∧ns.length≤n:=by
 have hsh:WShape.hasAll [] args [.list .int]=true:=(pre_splitW hpre).1; have hc:l.pre.holds [] {args:=args}=true:=(pre_splitW hpre).2; obtain ⟨d,r,rfl,h1,h2⟩:=hasAllW_cons hsh; obtain rfl:=hasAllW_nil h2; obtain ⟨xs,rfl,h3⟩:=hasW_list h1; obtain ⟨ns,rfl⟩:=items_int h3
 have hlen:ns.length≤n:=by
  unfold OpenLaw.pre at hc
  have h4:(WTm.not (.lt (.lit (.int (n:Int))) (.len (.arg 0)))).holds [] {args:=[.list (ns.map .int)]}=true:=by have h4:=(holds_andW hc).1; rw [hn] at h4; exact h4
  have h5:=condW_of h4 (w_not (w_lt w_lit (w_len_list (w_arg rfl)))); rw [aC] at h5; refine Nat.le_of_not_lt fun q=> ?_
  have q':(n:Int)<((ns.length:Nat):Int):=by omega
  first
   | (rw [decide_eq_true q'] at h5; exact absurd h5 (by decide))
   | (simp at h5; omega)
 cases hwl with
 | cons w1 w2=>
  cases w2; cases w1 with
  | list ho hall=>exact ⟨_,_,ns,rfl,rfl,ho,sX ns _ hall,hlen⟩
theorem post_true (l:OpenLaw) (args:List WData):l.row.toRowW.claim.post args (.bool true) args=true:=
 postW_of (r:=l.row.toRowW) (X:=(true==true))
  (show WShape.has [] (.bool true) .bool=true by first | rfl | decide | simp [WShape.has,WShape.arms,WShape.armsAll])
  (show (WTm.eq .res (.lit (.bool true))).value [] {args:=args,res:=some (.bool true),after:=args}=some (.bool (true==true)) from w_eq_bool (w_res rfl) w_lit) rfl
end Att
namespace L2
open PySem PySem.Spec PyProof.Rows
theorem xA:∀ {vs:List Value} {ns:List Int},IntsAre vs ns→Vals (ns.map V.int) vs
 | _,_, .nil=> .nil
 | _,_, .cons n t h=> .cons ⟨t,rfl⟩ (xA h)
noncomputable def Only (H:Hp):Prop:=∀b,H b=none∨∃o xs,H b=some (.frz o (.lst xs))
theorem law_call {P:Program} {w:World} {K:aA} {mg mb:Str→Option Value} {CX:CXT} {k:Nat} {fa a:Addr} {fd:FuncData} {x:Str} {sp:Sp} {s₁:Shared} {vs:List Value} {ns:List Int}
  (KX:K.In s₁.heap) (hns:s₁.heap.Ns mainGlobals mg) (hb:s₁.heap.Ns builtinsNs mb) (hbb:∀x:Str,x≠"__name__"→mb x=bootBuiltins x) (hlim:s₁.heap.NoLimit) (hg:s₁.gens= #[])
  (ha:s₁.heap.get? a=some {cls:= .type "list",data:= .seq vs.toArray}) (hi:IntsAre vs ns) (hl:ns.length≤sizeLine) (hr:Room k callerA)
  (F:∀base:Heap,K.In base→base.Ns mainGlobals mg→FnOk P w K mg base CX k fa fd [x] sp) (hbind:∀ (s:Shared) (u:Value),BindsTo s fd ⟨[u],[]⟩ [(x,u)])
  (hsp:∀H:Hp,Only H→SqL K H a (ns.map V.int)→sp [.ref a] H (fun v _=>v= .bl true) fun _ _ _=>False)
  (hCX:∀H e s',CX [] H s₁ (fun _ _ _=>False) e s'→False):
  codeAny (model P w) callerA (.call (.ref fa) ⟨[.ref a],[]⟩) (fun r s'=>r= .ok (.ret (.bool true))∧OldK s₁.heap s'.heap∧s'.os=s₁.os∧AllBare s'.gens) s₁:=by
 have rv:=xA hi; have lenV:=hi.length
 have core:∀H:Hp,Only H→SqL K H a (ns.map V.int)→HOk P w H s₁.heap→(∀b,H b≠none→b=a)→(H a≠none→K.lookup a=none)→
   codeAny (model P w) callerA (.call (.ref fa) ⟨[.ref a],[]⟩) (fun r s'=>r= .ok (.ret (.bool true))∧OldK s₁.heap s'.heap∧s'.os=s₁.os∧AllBare s'.gens) s₁:=by
  intro H hO hS hok hA hK; have base_of:∀ {b:Addr} {o:Obj},s₁.heap.get? b=some o→H b=none→(zN s₁.heap H).get? b=some o:=fun e n=>hidT_get e n
  have noA:∀ {b:Addr} {o:Obj} {es:Array DictEntry} {ep:Nat},s₁.heap.get? b=some o→o.data= .dict es ep→H b=none:=fun {b o es ep} e d=>by
   cases q:H b with
   | none=>rfl
   | some u=>have e':b=a:=hA b (by rw [q]; simp); subst e'; rw [ha] at e; cases e; have d':Data.seq vs.toArray _=Data.dict es ep:=d; cases d'
  have nsK:∀ {b:Addr} {m:Str→Option Value},s₁.heap.Ns b m→(zN s₁.heap H).Ns b m:=fun {b m} ⟨o,es,ep,e,d,r⟩=>⟨o,es,ep,base_of e (noA e d),d,r⟩
  have hKb:K.In (zN s₁.heap H):=fun b o e=>base_of (KX b o e) (by
   cases q:H b with
   | none=>rfl
   | some u=>
    have e':b=a:=hA b (by rw [q]; simp); subst e'
    rw [hK (by rw [q]; simp)] at e; cases e)
  have hM:Mod K mg (zN s₁.heap H):=⟨hKb,nsK hns,⟨mb,nsK hb,hbb⟩,let ⟨mc,h1,h2⟩:=hlim; ⟨mc,nsK h1,h2⟩⟩; have e0:Env0 P w K mg (zN s₁.heap H) callerA [] s₁ H:=⟨rfl,hM,fun b o e=>of_hidT e,Nat.le_of_eq (hidT_size _ _),trivial,fun b hb=>absurd (show b∈([]:List Addr) from hb) (by simp),hok, .of_eq hg⟩; refine codeAny_mono ((F _ hKb (nsK hns)).run callerA [] s₁ H ⟨[.ref a],[]⟩ [.ref a] [.ref a] _ _ hr e0 (hbind s₁ (.ref a)) (.cons rfl .nil) (hsp H hO hS)) fun r s' h=> ?_
  cases r with
  | error e=>exact (hCX H e s' h).elim
  | ok fl=>
   cases fl with
   | next=>exact False.elim h
   | brk=>exact False.elim h
   | cont=>exact False.elim h
   | ret u=>
    obtain ⟨v,H',os,bare,un,hok',r',q⟩:=h; have q':v= .bl true:=q; subst q'; obtain rfl:u=Value.bool true:=r'; refine ⟨rfl,OldK.of_keep fun b o e=> ?_,os,bare⟩; cases q:H b with
    | none=>exact un.keep b o e q (by intro z; exact absurd (show b∈([]:List Addr) from z) (by simp)) (by simp)
    | some u=>
     rcases hO b with z | ⟨ob,xs,z⟩
     ·rw [q] at z; cases z
     ·have z2:=un.frzs b ob _ z; obtain ⟨e1,_⟩:=hok b _ z; obtain ⟨e2,_⟩:=hok' b _ z2; rw [e] at e1; cases e1; exact e2
 cases hk:K.lookup a with
 | some o=>
  have e:=KX a o hk; rw [ha] at e; cases e; refine core (fun _=>none) (fun _=> .inl rfl) (.inr ⟨_,vs.toArray,_,hk,rfl,rfl,rfl,by rw [aS,lenV]; exact hl,by simpa using rv⟩) (fun b u z=>by have z':(none:Option HO)=some u:=z; cases z') (fun b z=>absurd rfl z) fun z=>absurd rfl z
 | none=>
  refine core (fun b=>if b=a then some (.frz {cls:= .type "list",data:= .seq vs.toArray} (.lst (ns.map V.int))) else none) (fun b=> ?_) (.inl (.inr ⟨{cls:= .type "list",data:= .seq vs.toArray},if_pos rfl⟩)) (fun b u z=> ?_) (fun b z=> ?_) fun _=>hk
  ·by_cases hb:b=a
   ·exact .inr ⟨_,_,if_pos hb⟩
   ·exact .inl (if_neg hb)
  ·by_cases hb:b=a
   ·have z':=(if_pos hb).symm.trans z; cases z'; subst hb; exact ⟨ha,by rw [aC]; exact hl,vs,_,rv,ha⟩
   ·have z':=(if_neg hb).symm.trans z; cases z'
  ·by_cases hb:b=a
   ·exact hb
   ·exact absurd (if_neg hb) z
noncomputable abbrev KOf {K:aA} {h:Heap} (_:K.In h):aA:=K
noncomputable def gU (s:Stmt):Arguments:=match s with
 | .FunctionDef _ a _ _ _ _ _ _ _ _=>a
 | _=>{posonlyargs:=[],args:=[],vararg:=none,kwonlyargs:=[],kw_defaults:=[],kwarg:=none,defaults:=[]}
noncomputable def fG (s:Stmt):List Stmt:=match s with
 | .FunctionDef _ _ b _ _ _ _ _ _ _=>b
 | _=>[]
noncomputable def bC (s:Stmt):Scope:=match s with
 | .FunctionDef _ _ _ _ _ _ sc _ _ _=>sc
 | _=>{kind:= .function,names:=[],isGenerator:=false,isCoroutine:=false}
noncomputable abbrev CX0:CXT:=fun _ _ _ _ _ _=>False
noncomputable abbrev E0:XK:=fun _ _ _=>False
theorem pass0 {X:Cx}:Passes CX0 X E0:=fun _ _ _ _ _ _ _ h=>h.elim
structure Fun (K:aA) (x qual:Str) (st:Stmt) (f:Addr) (fd:FuncData):Prop where
 ex:∃ (oc:Value) (od:Option Addr) (kV doc pm:Value) (an:Option Addr) (cdv ct:Value) (osl:Array (Option Value)),
  fd=dL x qual (gU st) (fG st) (bC st) .none kV doc pm an cdv ct∧K.lookup f=some ⟨oc,od, .func fd,osl⟩∧gY K cdv qual=true
 kp:cY K (.ref f)=true
section
variable {P:Program} {w:World} {K:aA} {mg:Str→Option Value} {base:Heap}
theorem Fun.ok {x qual:Str} {st:Stmt} {f:Addr} {fd:FuncData} {N ps:List Str} {k:Nat} {sp:Sp} (F:Fun K x qual st f fd) (S:nQ N ps (bC st)) (len:∀vs H Q E,sp vs H Q E→vs.length=ps.length)
  (hbody:∀ (cdv:Value) (A:Around) (outer:List Env) (s:Shared) (H:Hp) (vs:List V) (Q:VK) (E:XK),Room k (A.deeper (envOfC qual (bC st) s.heap.objs.size f cdv))→sp vs H Q E→
   ∃t,PSs (nL CX0 P w K mg base N qual (bC st) f cdv A outer s H E).nox (fG st) t∧t {nx:=fun _ H'=>Q .non H',rt:=Q} (start N vs) H):FnOk P w K mg base CX0 (k+1) f fd ps sp:=by
 obtain ⟨oc,od,kV,doc,pm,an,cdv,ct,osl,rfl,lk,hcd⟩:=F.ex; refine fn_of lk hcd S len fun A outer s H vs Q E hr hsp=> ?_
 obtain ⟨t,h,q⟩:=hbody cdv A outer s H vs Q E hr hsp; exact ⟨t,h.nox,q⟩
theorem Fun.binds {x qual:Str} {st:Stmt} {f:Addr} {fd:FuncData} {ps:List Str} (F:Fun K x qual st f fd)
  (h:∀ (kV doc pm:Value) (an:Option Addr) (cdv ct:Value) (us:List Value),us.length=ps.length→bindArgs (dL x qual (gU st) (fG st) (bC st) .none kV doc pm an cdv ct) ⟨us,[]⟩=pure (ps.zip us)):Binds K fd ps []:=by
 obtain ⟨oc,od,kV,doc,pm,an,cdv,ct,osl,rfl,lk,hcd⟩:=F.ex; exact .all (h kV doc pm an cdv ct)
theorem fun_mk {x qual:Str} {st:Stmt} {f:Addr} {oc:Value} {od an:Option Addr} {osl:Array (Option Value)} {kV doc pm cdv ct:Value} (l:K.lookup f=some ⟨oc,od, .func (dL x qual (gU st) (fG st) (bC st) .none kV doc pm an cdv ct),osl⟩)
  (c:gY K cdv qual=true) (k:cY K (.ref f)=true):Fun K x qual st f (dL x qual (gU st) (fG st) (bC st) .none kV doc pm an cdv ct):=⟨⟨oc,od,kV,doc,pm,an,cdv,ct,osl,rfl,l,c⟩,k⟩
end
theorem fH {n:Nat} (h:n≤1000):n<sizeLine:=cA h (by decide)
section
variable {X:Cx}
theorem pv (i:Nat) {x:Str} {pos:Pos} (hN:X.N[i]? =some x:=by rfl) (hv:Vis X.env.scope x:=by first | exact Or.inl rfl | exact Or.inr (Or.inl rfl) | exact Or.inr (Or.inr rfl)) (hd:(x==("__debug__":Str))=false:=by decide)
  (hcd:(x==("__classdict__":Str))=false:=by decide):PE X (.Name x pos) (mG i):=pe_var hN hv hd hcd
end
theorem iteF {A B:Prop} (h:B):if false=true then A else B:=by rw [if_neg bI]; exact h
theorem iteT {A B:Prop} (h:A):if true=true then A else B:=by rw [if_pos rfl]; exact h
noncomputable def Same (H H':Hp):Prop:=∀b o,H b=some o→H' b=some o
theorem Same.refl (H:Hp):Same H H:=fun _ _ h=>h
theorem Same.trans {H H1 H2:Hp} (a:Same H H1) (b:Same H1 H2):Same H H2:=fun c o h=>b c o (a c o h)
theorem Same.free {H H':Hp} (e:Same H H') {l:Addr} (h:H' l=Option.none):H l=Option.none:=by
 cases q:H l with
 | none=>rfl
 | some o=>rw [e l o q] at h; cases h
theorem Same.seq {K:aA} {H H':Hp} {a:Addr} {xs:List V} (e:Same H H') (h:SqL K H a xs):SqL K H' a xs:=by
 rcases h with (h | ⟨o,h⟩) | h
 ·exact .inl (.inl (e _ _ h))
 ·exact .inl (.inr ⟨o,e _ _ h⟩)
 ·exact .inr h
noncomputable def wE (X:Cx) (e:Expr):TE:=fun σ H Q=>∀ (pins:List (Addr × Obj)) (s:Shared),Inv X pins σ H s→wpAny (model X.prog X.w) X.A (eval e X.env) (EP X pins σ Q) X.xe s
noncomputable def wT (X:Cx) (e:Expr):TT:=fun σ H Q=>∀ (pins:List (Addr × Obj)) (s:Shared),Inv X pins σ H s→wpAny (model X.prog X.w) X.A (isTrue e X.env (eval e X.env)) (TP X pins σ Q) X.xe s
noncomputable def wW (X:Cx) (e:Expr):TT:=fun σ H Q=>∀ (whole:Sem Value) (pins:List (Addr × Obj)) (s:Shared),Inv X pins σ H s→wpAny (model X.prog X.w) X.A (isTrue e X.env whole) (TP X pins σ Q) X.xe s
noncomputable def wA (X:Cx) (es:List Expr):TA:=fun σ H Q=>∀ (pos:Pos) (pins:List (Addr × Obj)) (s:Shared),Inv X pins σ H s→wpAny (model X.prog X.w) X.A (spliced (backTo pos (starEach es X.env))) (AP X pins σ Q) X.xe s
noncomputable def wS (X:Cx) (st:Stmt):TS:=fun D σ H=>∀ (pins:List (Addr × Obj)) (s:Shared),Inv X pins σ H s→wpAny (model X.prog X.w) X.A (exec st X.env) (SP X pins D) X.xe s
noncomputable def wSs (X:Cx) (sts:List Stmt):TS:=fun D σ H=>∀ (pins:List (Addr × Obj)) (s:Shared),Inv X pins σ H s→wpAny (model X.prog X.w) X.A (execs sts X.env) (SP X pins D) X.xe s
noncomputable def wG (X:Cx) (tg:Expr):TG:=fun v σ H Q=>∀ (pins:List (Addr × Obj)) (s:Shared) (u:Value),Inv X pins σ H s→RelV v u→
  wpAny (model X.prog X.w) X.A (assign tg X.env u) (fun _ s'=>∃σ' H',Inv X pins σ' H' s'∧Q σ' H') X.xe s
noncomputable def wI (X:Cx) (tg iter:Expr):TI:=fun σ H R=>∀ (pins:List (Addr × Obj)) (s:Shared),Inv X pins σ H s→
  wpAny (model X.prog X.w) X.A (eval iter X.env) (fun v s1=>wpAny (model X.prog X.w) X.A (pyIter v) (PIE X pins σ tg R) X.xe s1) X.xe s
section
variable {X:Cx} {e:Expr} {es:List Expr} {st:Stmt} {sts:List Stmt} {tg iter:Expr} {σ:St} {H:Hp}
theorem iJ:PE X e (wE X e):=fun pins s _ _ _ I h=>h pins s I
theorem pt_w:PT X e (wT X e):=fun pins s _ _ _ I h=>h pins s I
theorem pw_w:PW X e (wW X e):=fun w pins s _ _ _ I h=>h w pins s I
theorem vO:PA X es (wA X es):=fun pos pins s _ _ _ I h=>h pos pins s I
theorem ps_w:PS X st (wS X st):=fun pins s _ _ _ I h=>h pins s I
theorem pss_w:PSs X sts (wSs X sts):=fun pins s _ _ _ I h=>h pins s I
theorem pg_w:PG X tg (wG X tg):=fun pins s _ _ _ u _ I r h=>h pins s u I r
theorem pi_w:PI X tg iter (wI X tg iter):=fun pins s _ _ _ I h=>h pins s I
theorem PE.to {t:TE} {Q:VK} (h:PE X e t) (q:t σ H Q):wE X e σ H Q:=fun pins s I=>h pins s σ H Q I q
theorem PT.to {t:TT} {Q:Bool→Hp→Prop} (h:PT X e t) (q:t σ H Q):wT X e σ H Q:=fun pins s I=>h pins s σ H Q I q
theorem PW.to {t:TT} {Q:Bool→Hp→Prop} (h:PW X e t) (q:t σ H Q):wW X e σ H Q:=fun w pins s I=>h w pins s σ H Q I q
theorem PA.to {t:TA} {Q:List V→Hp→Prop} (h:PA X es t) (q:t σ H Q):wA X es σ H Q:=fun pos pins s I=>h pos pins s σ H Q I q
theorem PS.to {t:TS} {D:sT} (h:PS X st t) (q:t D σ H):wS X st D σ H:=fun pins s I=>h pins s σ H D I q
theorem PSs.to {t:TS} {D:sT} (h:PSs X sts t) (q:t D σ H):wSs X sts D σ H:=fun pins s I=>h pins s σ H D I q
theorem wE.imp {Q Q':VK} (h:wE X e σ H Q) (k:∀v H',Q v H'→Q' v H'):wE X e σ H Q':=fun pins s I=>thn (h pins s I) fun u s' ⟨v,H',I',r,q⟩=>⟨v,H',I',r,k v H' q⟩
theorem wT.imp {Q Q':Bool→Hp→Prop} (h:wT X e σ H Q) (k:∀v H',Q v H'→Q' v H'):wT X e σ H Q':=fun pins s I=>thn (h pins s I) fun u s' ⟨H',I',q⟩=>⟨H',I',k u H' q⟩
theorem wW.imp {Q Q':Bool→Hp→Prop} (h:wW X e σ H Q) (k:∀v H',Q v H'→Q' v H'):wW X e σ H Q':=fun w pins s I=>thn (h w pins s I) fun u s' ⟨H',I',q⟩=>⟨H',I',k u H' q⟩
theorem wA.imp {Q Q':List V→Hp→Prop} (h:wA X es σ H Q) (k:∀v H',Q v H'→Q' v H'):wA X es σ H Q':=fun pos pins s I=>thn (h pos pins s I) fun u s' ⟨v,H',I',r,q⟩=>⟨v,H',I',r,k v H' q⟩
theorem SP.imp {pins:List (Addr × Obj)} {D D':sT} {f:Flow} {s:Shared} (h:SP X pins D f s) (k1:∀σ H,D.nx σ H→D'.nx σ H) (k2:∀v H,D.rt v H→D'.rt v H) (k3:∀σ H,D.bk σ H→D'.bk σ H) (k4:∀σ H,D.ct σ H→D'.ct σ H):SP X pins D' f s:=by
 cases f with
 | next=>obtain ⟨σ',H',I,q⟩:=h; exact ⟨σ',H',I,k1 _ _ q⟩
 | brk=>obtain ⟨σ',H',I,q⟩:=h; exact ⟨σ',H',I,k3 _ _ q⟩
 | cont=>obtain ⟨σ',H',I,q⟩:=h; exact ⟨σ',H',I,k4 _ _ q⟩
 | ret u=>obtain ⟨v,σ',H',I,r,q⟩:=h; exact ⟨v,σ',H',I,r,k2 _ _ q⟩
theorem wSs.imp {D D':sT} (h:wSs X sts D σ H) (k1:∀σ H,D.nx σ H→D'.nx σ H) (k2:∀v H,D.rt v H→D'.rt v H) (k3:∀σ H,D.bk σ H→D'.bk σ H) (k4:∀σ H,D.ct σ H→D'.ct σ H):wSs X sts D' σ H:=
 fun pins s I=>thn (h pins s I) fun f s' q=>q.imp k1 k2 k3 k4
theorem wG.imp {v:V} {Q Q':St→Hp→Prop} (h:wG X tg v σ H Q) (k:∀σ' H',Q σ' H'→Q' σ' H'):wG X tg v σ H Q':=fun pins s u I r=>thn (h pins s u I r) fun _ s' ⟨σ',H',I',q⟩=>⟨σ',H',I',k _ _ q⟩
end
section
variable {X:Cx} {pins:List (Addr × Obj)} {σ:St} {H F:Hp} {s:Shared}
theorem HOk.track {P:Program} {w:World} {h:Heap} {a:Addr} {o:HO} (ok:HOk P w H h) (hn:H a=none) (new:ObjOk P w (upd H a o) h a o):HOk P w (upd H a o) h:=fun b u e=>by
 by_cases hb:b=a
 ·subst hb; rw [bV] at e; cases e; exact new
 ·rw [bO hb] at e; exact (ok b u e).stay (fun _ _ _ q=>q) (fun c q=>by rw [bO (cB q hn)]; exact q) fun c xs q=>by rw [bO (cB q hn)]; exact q
theorem Inv.track {a:Addr} {o:HO} (I:Inv X pins σ H s) (hn:H a=none) (h0:X.s₀.heap.objs.size≤a) (hL:a≠X.env.locals) (hc:∀x c,X.env.cells.lookup x=some c→c≠a)
  (hp:∀p∈X.pn++pins,p.1≠a) (new:ObjOk X.prog X.w (upd H a o) s.heap a o):Inv X pins σ (upd H a o) s:=by
 refine ⟨I.ok,I.os,I.bare,⟨I.base.keep,I.base.slot,fun b u e n hx=> ?_,I.base.there,fun b xs e=> ?_,fun b u xs e=> ?_,fun b ps e=> ?_⟩,I.loc,I.cell, ?_,fun x c e=> ?_,fun p hp'=> ?_,I.hok.track hn new,I.len⟩
 ·rw [bO (bP (aU (aO e) h0))]; exact I.base.free b u e n hx
 ·have q:=I.base.tups b xs e; rw [bO (cB q hn)]; exact q
 ·have q:=I.base.frzs b u xs e; rw [bO (cB q hn)]; exact q
 ·obtain ⟨m,q⟩:=I.base.tbls b ps e; exact ⟨m,by rw [bO (cB q hn)]; exact q⟩
 ·rw [bO (Ne.symm hL)]; exact I.free
 ·rw [bO (hc x c e)]; exact I.freeC x c e
 ·obtain ⟨e,n,r⟩:=I.pin p hp'; exact ⟨e,by rw [bO (hp p hp')]; exact n,r⟩
noncomputable def SmpO:HO→Prop
 | .lst _=>True
 | .tup _=>True
 | .dK _=>True
 | .frz _ (.lst _)=>True
 | .frz _ (.dK _)=>True
 | .ext _=>True
 | _=>False
noncomputable def Smp (H:Hp):Prop:=∀b o,H b=some o→SmpO o
theorem ObjOk.smp {P:Program} {w:World} {h:Heap} {a:Addr} {o:HO} (z:SmpO o) (x:ObjOk P w H h a o):ObjOk P w F h a o:=by
 cases o with
 | lst xs=>exact x
 | tup xs=>exact x
 | dK kvs=>exact x
 | frz ob u=>cases u with
  | lst xs=>exact x
  | dK kvs=>exact x
  | _=>exact absurd z (fun q=>q)
 | ext φ=>exact x
 | _=>exact absurd z (fun q=>q)
theorem Smp.sub (h:Smp H) (s:Same F H):Smp F:=fun b o e=>h b o (s b o e)
theorem Inv.less (I:Inv X pins σ H s) (hF:Same F H) (h0:Same X.B₀ F) (hs:Smp F):Inv X pins σ F s:=by
 refine ⟨I.ok,I.os,I.bare,⟨I.base.keep,I.base.slot,fun b u e n hx=>hF.free (I.base.free b u e n hx),I.base.there,fun b xs e=>h0 _ _ (X.hB _ _ e trivial),fun b u xs e=>h0 _ _ (X.hB _ _ e trivial),fun b ps e=>⟨#[], ?_⟩⟩,I.loc,I.cell,hF.free I.free,fun x c e=>hF.free (I.freeC x c e),fun p hp=> ?_,fun b o e=>(I.hok b o (hF b o e)).smp (hs b o e),I.len⟩
 ·have q:=h0 _ _ (X.hB _ _ e trivial); rw [q]; simp
 ·obtain ⟨e,n,r⟩:=I.pin p hp; exact ⟨e,hF.free n,r⟩
end
noncomputable def clo (cells:List (Str × Addr)):List (Str × NameKind)→List (Str × Addr)→List (Str × Addr)
 | [],cs=>cs
 | (n,k)::r,cs=>clo cells r (if (k==NameKind.free)=true then (n,(cells.lookup n).getD 0)::cs else cs)
theorem pN {env:Env}:∀ (names:List (Str × NameKind)) (cs:List (Str × Addr)),(∀y∈names,y.2= .free→∃c,env.cells.lookup y.1=some c)→
  (forIn names cs (fun (x:Str × NameKind) (r:List (Str × Addr))=>if (x.2==NameKind.free)=true then (do let c ← cellOf env x.1; pure (ForInStep.yield ((x.1,c)::r))) else pure (ForInStep.yield r)):Sem (List (Str × Addr)))=pure (clo env.cells names cs)
 | [],cs,_=>rfl
 | (n,k)::r,cs,h=>by
  rw [wN]
  by_cases hk:(k==NameKind.free)=true
  ·obtain ⟨c,hc⟩:=h (n,k) aG (by simpa using hk)
   have e:cellOf env n=pure c:=by unfold cellOf; have hc':env.cells.lookup n=some c:=hc; rw [hc']
   simp only [hk,if_true,e,pure_bind,clo]; have hc':env.cells.lookup n=some c:=hc; rw [hc']; exact pN r _ fun y hy=>h y (aF _ hy)
  ·simp only [hk,bY,if_false,pure_bind,clo]; exact pN r _ fun y hy=>h y (aF _ hy)
theorem pO {env:Env} {scope:Scope} (h:∀y∈scope.names,y.2= .free→∃c,env.cells.lookup y.1=some c):closureFor scope env=pure (clo env.cells scope.names []):=by simp only [closureFor]; have e:=pN (env:=env) scope.names [] h; simp only [bind_pure] ; exact e
theorem clo_look (cells:List (Str × Addr)):∀ (names:List (Str × NameKind)) (cs:List (Str × Addr)) (x:Str) (c:Addr),(clo cells names cs).lookup x=some c→cs.lookup x=some c∨((x,NameKind.free)∈names∧c=(cells.lookup x).getD 0)
 | [],cs,x,c,h=> .inl h
 | (n,k)::r,cs,x,c,h=>by
  rcases clo_look cells r _ x c h with q | ⟨q1,q2⟩
  ·by_cases hk:(k==NameKind.free)=true
   ·rw [if_pos hk,eJ] at q; have ek:k= .free:=by simpa using hk
    by_cases hx:(x==n)=true
    ·simp only [hx] at q; have e:x=n:=by simpa using hx
     subst e; exact .inr ⟨by rw [ek]; exact aG,(cI.inj q).symm⟩
    ·have hx':(x==n)=false:=by simpa using hx
     simp only [hx'] at q; exact .inl q
   ·rw [if_neg hk] at q; exact .inl q
  ·exact .inr ⟨aF _ q1,q2⟩
theorem clo_has (cells:List (Str × Addr)):∀ (names:List (Str × NameKind)) (cs:List (Str × Addr)) (x:Str),(x,NameKind.free)∈names∨(∃c,cs.lookup x=some c)→∃c,(clo cells names cs).lookup x=some c
 | [],cs,x,h=>h.elim (fun z=>nomatch z) fun z=>z
 | (n,k)::r,cs,x,h=>by
  refine clo_has cells r _ x ?_
  by_cases hk:(k==NameKind.free)=true
  ·rw [if_pos hk]
   by_cases hx:(x==n)=true
   ·exact .inr ⟨(cells.lookup n).getD 0,by rw [eJ]; simp only [hx]⟩
   ·have hx':(x==n)=false:=by simpa using hx
    rcases h with q | ⟨c,q⟩
    ·rcases aX.mp q with z | z
     ·cases z; exact absurd (by simp) hx
     ·exact .inl z
    ·exact .inr ⟨c,by rw [eJ]; simp only [hx']; exact q⟩
  ·rw [if_neg hk]
   rcases h with q | q
   ·rcases aX.mp q with z | z
    ·cases z; exact absurd rfl hk
    ·exact .inl z
   ·exact .inr q
theorem qH {env:Env}:∀ {names:List (Str × NameKind)} {x:Str},((names.map fun (n,k)=>if (k==NameKind.free && env.scope.kind== .function && env.kindOf n==some .cell) then (n,NameKind.cell) else (n,k)).lookup x=some .cell∨
   (names.map fun (n,k)=>if (k==NameKind.free && env.scope.kind== .function && env.kindOf n==some .cell) then (n,NameKind.cell) else (n,k)).lookup x=some .free)→names.lookup x=some .cell∨names.lookup x=some .free
 | [],x,h=>by simp at h
 | (n,k)::r,x,h=>by
  have ih:= @qH env r x; rw [bA] at h; rw [eJ]
  by_cases hc:(k==NameKind.free && env.scope.kind== .function && env.kindOf n==some .cell)=true
  ·simp only [hc,if_true,eJ] at h; cases hx:x==n with
   | true=>
    have hk:k= .free:=by have:=hc; simp only [bL,beq_iff_eq] at this; exact this.1.1
    exact .inr (by rw [hk])
   | false=>simp only [hx] at h ⊢; exact ih h
  ·have hc':(k==NameKind.free && env.scope.kind== .function && env.kindOf n==some .cell)=false:=by simpa using hc
   simp only [hc',bY,if_false,eJ] at h; cases hx:x==n with
   | true=>simp only [hx] at h ⊢; exact h
   | false=>simp only [hx] at h ⊢; exact ih h
theorem comp_loop {prog:Program} {w:World} {A:Around} {R:Result→Shared→Prop} {s:Shared} {elt target iter:Expr} {ifs:List Expr} {scope:Scope} {pos:Pos} {it acc:Value} {env:Env} (Ξ:Value→Shared→Prop) (hΞ:∀e s,Ξ e s→notedBy (model prog w) A env (fun e s'=>R (.error e) s') e s) (J:Nat→Shared→Prop)
  (turn:∀n s,J n s→wpAny (model prog w) A (pyNext it) (fun r s₁=>match r with
   | none=>R (.ok .next) s₁
   | some v=>wpAny (model prog w) A (letOwnedTupleGo target it v) (fun _ s₂=>wpAny (model prog w) A (assign target env v) (fun _ s₃=>
     wpAny (model prog w) A (forIn ifs true fun c r=>if r=true then do let ok ← isTrue c env (eval c env); pure (ForInStep.yield ok) else pure (ForInStep.yield r)) (fun ok s₄=>
      if ok=true then wpAny (model prog w) A (eval elt env) (fun x s₅=>wpAny (model prog w) A (call (.builtin "list.append") [acc,x]) (fun _ s₆=>∃m,m<n∧J m s₆) Ξ s₅) Ξ s₄
      else ∃m,m<n∧J m s₄) Ξ s₃) Ξ s₂) Ξ s₁) Ξ s)
  (n:Nat) (h:J n s):codeAny (model prog w) A (.compLoop (.ListComp elt [⟨target,iter,ifs,0⟩] scope pos) 0 it acc env) R s:=by
 refine codeAny_loop rfl J (fun n s hI=> ?_) n h; show wpAny _ A ((compTurn (.ListComp elt [⟨target,iter,ifs,0⟩] scope pos) 0 it acc env).onRaise (fun x=>do noteFrame x env; theTreesLotGoes x)) _ _ s; refine wpAny_noted ?_; rw [compTurn_list]; refine wpAny_bind (wpAny_standAt (wpAny_bind (wpAny_mono (turn n s hI) (fun r s₁ h₁=> ?_) fun e s z=>hΞ e s z))); cases r with
 | none=>exact wpAny_pure h₁
 | some v=>
  refine wpAny_bind (wpAny_mono h₁ (fun _ s₂ h₂=> ?_) fun e s z=>hΞ e s z); refine wpAny_bind (wpAny_mono h₂ (fun _ s₃ h₃=> ?_) fun e s z=>hΞ e s z); refine wpAny_bind (wpAny_mono h₃ (fun ok s₄ h₄=> ?_) fun e s z=>hΞ e s z); cases ok with
  | false=>exact wpAny_pure ⟨rfl,h₄⟩
  | true=>exact wpAny_bind (wpAny_bind (wpAny_mono h₄ (fun x s₅ h₅=>wpAny_bind (wpAny_mono h₅ (fun _ s₆ h₆=>wpAny_pure (wpAny_pure ⟨rfl,h₆⟩)) fun e s z=>hΞ e s z)) fun e s z=>hΞ e s z))
noncomputable def wIfs (X:Cx) (ifs:List Expr):TT:=fun σ H Q=>∀ (pins:List (Addr × Obj)) (s:Shared),Inv X pins σ H s→
 wpAny (model X.prog X.w) X.A (forIn ifs true fun c r=>if r=true then do let ok ← isTrue c X.env (eval c X.env); pure (ForInStep.yield ok) else pure (ForInStep.yield r)) (TP X pins σ Q) X.xe s
theorem uH {X:Cx} {σ:St} {H:Hp} {Q:Bool→Hp→Prop} (h:Q true H):wIfs X [] σ H Q:=fun _ _ I=>wpAny_tests_nil ⟨H,I,h⟩
theorem uJ {X:Cx} {c:Expr} {σ:St} {H:Hp} {Q:Bool→Hp→Prop} (h:wT X c σ H Q):wIfs X [c] σ H Q:=fun pins s I=>wpAny_tests_one (h pins s I)
noncomputable def cxB (X:Cx) (N:List Str) (scope:Scope) (cl:List (Str × Addr)) (C:Addr) (ex:List Addr) (s:Shared) (H:Hp):Cx:=
 {prog:=X.prog,w:=X.w,K:=X.K,mg:=X.mg,base:=X.base,A:=X.A,N:=N,s₀:=s,H₀:=H,env:=compEnvC scope cl C X.env,outer:=X.stack,stack:=X.stack,ex:=ex,fn:=fun _=>false,calm:=true,pn:=[],xe:=fun _ _=>False}
noncomputable def pB (X:Cx) (N:List Str) (scope:Scope) (cl:List (Str × Addr)) (C:Addr) (ex:List Addr) (s:Shared) (H:Hp) (ξ:Value→Shared→Prop):Cx:={cxB X N scope cl C ex s H with xe:=ξ}
noncomputable def sW (cap:List (Option Nat)) (σ:St):St:=cap.map fun o=>o.bind fun k=>(σ[k]?).join
noncomputable def mU (scope sc:Scope):Bool:=scope.names.all fun y=>(!(y.2==NameKind.free) || sc.names.lookup y.1==some NameKind.cell) && !(y.2==NameKind.cell) && (!(y.2==NameKind.local) || scope.names.lookup y.1==some NameKind.local)
noncomputable def lJ (N M:List Str) (scope sc:Scope) (cap:List (Option Nat)):Bool:=cap.length==N.length && (cap.zip N).all fun y=>match y.1 with
 | none=>true
 | some k=>M[k]? ==some y.2 && sc.names.lookup y.2==some NameKind.cell && scope.names.lookup y.2==some NameKind.free
theorem iW {env:Env} (hf:env.scope.kind= .function):∀ {names:List (Str × NameKind)} {x:Str},names.lookup x=some .free→env.kindOf x=some .cell→
  (names.map fun (n,k)=>if (k==NameKind.free && env.scope.kind== .function && env.kindOf n==some .cell) then (n,NameKind.cell) else (n,k)).lookup x=some .cell
 | [],x,h,_=>by simp at h
 | (n,k)::r,x,h,hc=>by
  rw [bA]; cases hx:x==n with
  | true=>
   have e:x=n:=by simpa using hx
   subst e; rw [eJ] at h; simp only [beq_self_eq_true] at h; have ek:k= .free:=cI.inj h; subst ek; have hb:(NameKind.free==NameKind.free && env.scope.kind== .function && env.kindOf x==some .cell)=true:=by rw [hf,hc]; rfl
   show List.lookup x ((if (NameKind.free==NameKind.free && env.scope.kind== .function && env.kindOf x==some .cell)=true then (x,NameKind.cell) else (x,NameKind.free))::_)=_; rw [if_pos hb,eJ]; simp only [beq_self_eq_true]
  | false=>
   rw [eJ] at h; simp only [hx] at h; have ih:=iW hf (names:=r) h hc
   by_cases hb:(k==NameKind.free && env.scope.kind== .function && env.kindOf n==some .cell)=true
   ·simp only [hb,if_true,eJ,hx]; exact ih
   ·have hb':(k==NameKind.free && env.scope.kind== .function && env.kindOf n==some .cell)=false:=by simpa using hb
    simp only [hb',bY,if_false,eJ,hx]; exact ih
theorem Inv.low {X:Cx} {pins:List (Addr × Obj)} {σ:St} {H:Hp} {s:Shared} (I:Inv X pins σ H s):∀b∈frs X.stack,b<s.heap.objs.size:=fun b hb=>by obtain ⟨_,o,ho,_⟩:=I.stack.mem hb; exact aO ho
theorem comp_runX {X:Cx} {pins:List (Addr × Obj)} {σ:St} {H:Hp} {s:Shared} {elt tg iter:Expr} {ifs:List Expr} {scope:Scope} {pos:Pos} {N:List Str} {cap:List (Option Nat)} {g:TG} {tt:TT} {te:TE} {J:It} {fp:List Addr} {it:Addr} {tn:Nat→Heap→Prop} {E:Value→Shared→Prop} {sc:Scope} (ξ:List (Str × Addr)→Addr→Value→Shared→Prop) (ξ':List (Str × Addr)→Addr→Value→Hp→Shared→Prop)
  (hc:X.calm=true) (hsc:X.env.scope=sc) (hcn:mU scope sc=true) (hcap:lJ N X.N scope sc cap=true) (hk:scope.kind= .function)
  (I:Inv X pins σ H s) (T:Turn X.prog X.w X.K tg J fp it tn) (st:tn 0 s.heap) (hfp:∀b∈fp,sZ X pins H b)
  (hg:∀cl C,PG (pB X N scope cl C fp s H (ξ cl C)) tg g) (ht:∀cl C pi s2 σ2 H2 Q,Inv (pB X N scope cl C fp s H (ξ cl C)) pi σ2 H2 s2→tt σ2 H2 Q→wpAny (model X.prog X.w) X.A (forIn ifs true fun c r=>if r=true then do let ok ← isTrue c (compEnvC scope cl C X.env) (eval c (compEnvC scope cl C X.env)); pure (ForInStep.yield ok) else pure (ForInStep.yield r)) (TP (pB X N scope cl C fp s H (ξ cl C)) pi σ2 Q) (ξ cl C) s2)
  (he:∀cl C,PE (pB X N scope cl C fp s H (ξ cl C)) elt te) (W:Nat→Nat→List V→St→Hp→Prop) (m0:Nat) (w0:W 0 m0 [] (sW cap σ) H)
  (RR:Value→Addr→Result→Shared→Prop)
  (hξ:∀cl C e s',ξ cl C e s'→∃pi σb H',Inv (pB X N scope cl C fp s H (ξ cl C)) pi σb H' s'∧ξ' cl C e H' s')
  (hx:∀cl D C e H' s',ξ' cl C e H' s'→H' C=none→X.s₀.heap.objs.size≤C→C≠X.env.locals→(∀x c,X.env.cells.lookup x=some c→c≠C)→(∀p∈X.pn++pins,p.1≠C)→C∉frs X.stack→(∃m,s'.heap.Ns C m)→Inv X pins σ H' s'→notedBy (model X.prog X.w) X.A (compEnvC scope cl C X.env) (fun e s''=>RR (.ref D) C (.error e) s'') e s')
  (turn:∀i m ys σb H2,W i m ys σb H2→
   (J.stop i H2∧∀D C s',H2 D=none→H2 C=none→D≠C→X.s₀.heap.objs.size≤C→C≠X.env.locals→(∀x c,X.env.cells.lookup x=some c→c≠C)→(∀p∈X.pn++pins,p.1≠C)→C∉frs X.stack→(∃m,s'.heap.Ns C m)→Inv X pins σ (upd H2 D (.lst ys)) s'→RR (.ref D) C (.ok .next) s')∨
   (J.go i H2∧ys.length<sizeLine∧∃Nx:List V→St→Hp→Prop,(∀ys' σ' H',Nx ys' σ' H'→∃m',m'<m∧W (i+1) m' ys' σ' H')∧
    ∀x H',J.yld i H2 x H'→g x σb H' fun σ2 H3=>tt σ2 H3 fun b H4=>if b=true then te σ2 H4 fun v H5=>Nx (ys++[v]) σ2 H5 else Nx ys σ2 H4)):
  wpAny (model X.prog X.w) X.A (newList []) (fun acc s₃=>wpAny (model X.prog X.w) X.A (newFunctionEnv scope X.env.globals (clo X.env.cells scope.names []) [] X.env.qual none .none (some X.env)) (fun cenv s₄=>
   codeAny (model X.prog X.w) X.A (.compStart (.ListComp elt [⟨tg,iter,ifs,0⟩] scope pos) 0 (.ref it) acc {cenv with scope:=relabel scope X.env}) (RR acc cenv.locals) s₄) E s₃) E s:=by
 have nm:∀y∈scope.names,(y.2=NameKind.free→sc.names.lookup y.1=some NameKind.cell)∧y.2≠NameKind.cell∧(y.2=NameKind.local→scope.names.lookup y.1=some NameKind.local):=fun y hy=>by have q:=fM.mp hcn y hy; simp only [bL,lE,mY,beq_eq_false_iff_ne,ne_eq,beq_iff_eq] at q; exact ⟨fun e=>q.1.1.resolve_left fun z=>z e,q.1.2,fun e=>q.2.resolve_left fun z=>z e⟩
 have fre:∀y∈scope.names,y.2= .free→∃c,X.env.cells.lookup y.1=some c:=fun y hy e=>I.ok.has y.1 (.inl (by show X.env.scope.names.lookup y.1=_; rw [hsc]; exact (nm y hy).1 e))
 generalize hcl:clo X.env.cells scope.names []=cl
 have csub:∀x c,cl.lookup x=some c→X.env.cells.lookup x=some c:=fun x c e=>by
  rw [← hcl] at e
  rcases clo_look _ _ _ _ _ e with z | ⟨z1,z2⟩
  ·simp at z
  ·obtain ⟨c',q⟩:=fre _ z1 rfl; rw [q] at z2; rw [q,z2]; rfl
 have chas:∀x,((relabel scope X.env).names.lookup x=some .cell∨(relabel scope X.env).names.lookup x=some .free)→∃c,cl.lookup x=some c:=fun x e=>by
  rcases qH e with z | z
  ·exact absurd rfl (nm _ (PySem.mem_of_lookup z)).2.1
  ·rw [← hcl]; exact clo_has _ _ _ _ (.inl (PySem.mem_of_lookup z))
 have cexi:∀x c,cl.lookup x=some c→c<s.heap.objs.size:=fun x c e=>by obtain ⟨v,o,ho,_⟩:=I.cell x c (csub x c e); exact aO ho
 have cexX:∀x c,X.env.cells.lookup x=some c→c<s.heap.objs.size:=fun x c e=>by obtain ⟨v,o,ho,_⟩:=I.cell x c e; exact aO ho
 have pexX:∀p∈X.pn++pins,p.1<s.heap.objs.size:=fun p hp=>aO (I.pin p hp).1
 have flow:∀b∈fp,b<s.heap.objs.size:=fun b hb=>by obtain ⟨o,ho,_⟩:=T.obj 0 _ st b hb; exact aO ho
 have fstk:∀b∈fp,b∉frs X.stack:=fun b hb z=>by
  obtain ⟨_,f1,f2,_⟩:=hfp b hb
  rcases aX.mp (I.stkSub b z) with q | q
  ·exact f1 q
  ·exact f2 q
 have hkr:(relabel scope X.env).kind= .function:=hk; refine wpAny_newObj_type (wpAny_newFunctionEnv (fun y hy=>(nm y hy).2.1) (by intro y hy; simp at hy) (fun h₁ hns₁ hsb₁=> ?_) hk); dsimp only at hns₁ hsb₁ ⊢; generalize hH2:s.heap.push {cls:= .type "list",dict:=none,data:= .seq ([]:List Value).toArray}=G2 at hns₁ hsb₁ ⊢; have hC:G2.objs.size=s.heap.objs.size+1:=by rw [← hH2,hG]
 have hDC:s.heap.objs.size≠G2.objs.size:=by rw [hC]; exact bP (kO _)
 have hCle:s.heap.objs.size≤G2.objs.size:=by rw [hC]; exact iZ _
 have neC:∀b,b<s.heap.objs.size→b≠G2.objs.size:=fun b hb=>by rw [hC]; exact bP (nF hb)
 have old:∀b o,s.heap.get? b=some o→h₁.get? b=some o:=fun b o e=>hsb₁.extBut b o (neC b (aO e)) (aE _ (hH2▸aE _ e))
 have hacc:h₁.get? s.heap.objs.size=some {cls:= .type "list",dict:=none,data:= .seq ([]:List Value).toArray}:=hsb₁.extBut _ _ hDC (aE _ (hH2▸bG _ rfl)); have env_eq:({newEnv scope G2.objs.size X.env.globals cl X.env.qual none .none (some X.env) 0 with scope:=relabel scope X.env}:Env)=compEnvC scope cl G2.objs.size X.env:=rfl; generalize hDD:s.heap.objs.size=D at *; generalize hCC:G2.objs.size=C at *
 have okX:(pB X N scope cl C fp s H (ξ cl C)).Ok:=by
  refine ⟨I.mod,hkr,I.ok.glob,I.ok.blt, ?_,fun x y c a b=>I.ok.inj x y c (csub x c a) (csub y c b),chas,(fun x c z=>nomatch z),fun _=>I.ok.hd hc,I.ok.frames, .inl rfl,fun b hb=>⟨neC b (flow b hb),fun x c e=>(hfp b hb).2.2.2.2.1 x c (csub x c e)⟩,I.bs, ?_,fun b o e hb=> ?_,fstk,I.stack,I.stkFree⟩
  ·show s.heap.objs.size≤C; rw [hDD]; exact hCle
  ·exact cE I.ok.bsz I.sz
  ·rcases (hfp b hb).2.2.2.1 with z | z
   ·exact I.ok.noex b o e z
   ·exact absurd (aU (aO e) (cE I.ok.bsz z)) (eU _)
 have capE:∀ (i:Nat) (x:Str) (v:V),N[i]? =some x→(sW cap σ)[i]? =some (some v)→∃k:Nat,X.N[k]? =some x∧σ[k]? =some (some v)∧sc.names.lookup x=some .cell∧scope.names.lookup x=some .free:=fun i x v e1 e2=>by
  unfold lJ at hcap; rw [bL] at hcap; unfold sW at e2; rw [bJ] at e2; cases q:cap[i]? with
  | none=>rw [q] at e2; cases e2
  | some o=>
   rw [q] at e2; have e2:(o.bind fun k=>(σ[k]?).join)=some v:=cI.inj e2; cases o with
   | none=>cases e2
   | some k=>
    have e2:(σ[k]?).join=some v:=e2
    have mz:(some k,x)∈cap.zip N:=by refine bB (i:=i) ?_; rw [zZ]; exact ⟨q,e1⟩
    have z:=fM.mp hcap.2 _ mz; simp only [bL,beq_iff_eq] at z; refine ⟨k,z.1.1, ?_,z.1.2,z.2⟩; cases w:σ[k]? with
    | none=>rw [w] at e2; cases e2
    | some o'=>rw [w] at e2; have e2:o'=some v:=e2; rw [e2]
 have I0:Inv (pB X N scope cl C fp s H (ξ cl C)) [(D,{cls:= .type "list",dict:=none,data:= .seq ([]:List Value).toArray})] (sW cap σ) H {s with heap:=h₁,toks:=s.toks+([]:List (Str × Value)).length}:=by
  have dfree:H D=none:=I.hok.fresh (Nat.le_of_eq hDD); refine ⟨okX,rfl,I.bare,Un.kept old,⟨_,hns₁,fun i x v e1 e2 e3=> ?_⟩,fun x c e=> ?_,I.hok.fresh (by rw [hDD]; exact hCle),fun x c e=>I.freeC x c (csub x c e),fun p hp=> ?_,I.hok.kept old, ?_⟩
  ·obtain ⟨k,q1,q2,q3,q4⟩:=capE i x v e1 e2; have q3':X.env.scope.names.lookup x=some .cell:=by rw [hsc]; exact q3
   obtain ⟨m,_,hl⟩:=I.loc; obtain ⟨u,ru,lk⟩:=hl k x v q1 q2 (.inr (.inl q3')); refine ⟨u,ru, .inr ⟨.inl (iW I.ok.kind q4 q3'), ?_⟩⟩
   rcases lk with ⟨z,_⟩ | ⟨_,c,z,ic⟩
   ·have z':X.env.scope.names.lookup x=some .local:=z; rw [q3'] at z'; cases z'
   ·obtain ⟨c',hc'⟩:=chas x (.inl (iW I.ok.kind q4 q3')); have:=csub x c' hc'; rw [z] at this; have ec:c=c':=cI.inj this; subst ec; obtain ⟨o,ho,hd⟩:=ic; exact ⟨c,hc',o,old c o ho,hd⟩
  ·obtain ⟨v,o,ho,hd⟩:=I.cell x c (csub x c e); exact ⟨v,o,old c o ho,hd⟩
  ·have hp':p=(D,{cls:= .type "list",dict:=none,data:= .seq ([]:List Value).toArray}):=by simpa [pB,cxB] using hp
   subst hp'; refine ⟨hacc,dfree,hDC,fun z=> ?_,fun v z=>by cases z⟩; have:=I.low D z; rw [hDD] at this; exact eU _ this
  ·show (sW cap σ).length=N.length; unfold lJ at hcap; rw [bL] at hcap; unfold sW; rw [aC]; simpa using hcap.1
 have dlow:∀b,b<D→b≠D:=fun b hb=>bP hb
 have loop:∀s₃:Shared,s₃={s with heap:=h₁,toks:=s.toks+([]:List (Str × Value)).length}→
   codeAny (model X.prog X.w) X.A (.compLoop (.ListComp elt [⟨tg,iter,ifs,0⟩] scope pos) 0 (.ref it) (.ref D) (compEnvC scope cl C X.env)) (RR (.ref D) C) s₃:=by
  rintro s₃ rfl
  refine comp_loop (ξ cl C) (fun e s' z=> ?_) (fun n s'=>∃ (i:Nat) (ys:List V) (σb:St) (H2:Hp) (its:List Value) (nn:Nat),Inv (pB X N scope cl C fp s H (ξ cl C)) [(D,{cls:= .type "list",dict:=none,data:= .seq its.toArray nn})] σb H2 s'∧tn i s'.heap∧(∀b∈fp,H2 b=none)∧Vals ys its∧ys.length≤sizeLine∧W i n ys σb H2) ?_ m0
   ⟨0,[],sW cap σ,H,[],0,I0,T.keep 0 _ _ st fun b hb o e=>old b o e,fun b hb=>(hfp b hb).1, .nil,cD _,w0⟩
  ·obtain ⟨pi,σb,H',I',z'⟩:=hξ cl C e s' z; obtain ⟨m4,ns4,_⟩:=id I'.loc; have J0:Inv X pins σ H' s':=I.call' (ch:=fp) I'.os I'.base I'.hok I'.bare fun b hb=>⟨(hfp b hb).2.2.2.1,(hfp b hb).2.1,(hfp b hb).2.2.2.2.1,(hfp b hb).2.2.2.2.2⟩
   have hLD:X.env.locals<D:=by rw [← hDD]; exact I.lt
   exact hx cl D C e H' s' z' I'.free (cE I.sz (by rw [hDD]; exact hCle)) (fQ (aU hLD hCle)) (fun x c e=>neC c (cexX x c e)) (fun p hp=>neC _ (pexX p hp)) (fun z=>absurd (I.low C z) (by rw [hDD]; exact Nat.not_lt.mpr hCle)) ⟨m4,ns4⟩ J0
  rintro n s3 ⟨i,ys,σ3,H3,its,nn,I3,st3,fr3,rv3,hlen,w3⟩
  have fpX:∀ {H':Hp} {its':List Value} {nn':Nat},(∀b∈fp,H' b=none)→∀b∈fp,sZ (pB X N scope cl C fp s H (ξ cl C)) [(D,{cls:= .type "list",dict:=none,data:= .seq its'.toArray nn'})] H' b:=fun {H' its' nn'} hn b hb=>by
   refine ⟨hn b hb,neC b (flow b hb),fstk b hb, .inl hb,fun x c e=>(hfp b hb).2.2.2.2.1 x c (csub x c e),fun p hp=> ?_⟩
   have hp':p.1=D:=by have q:p∈([]:List (Addr × Obj))++[(D,{cls:= .type "list",dict:=none,data:= .seq its'.toArray nn'})]:=hp; rw [wO,aI] at q; rw [q]
   rw [hp']; exact Ne.symm (dlow b (flow b hb))
  rcases turn i n ys σ3 H3 w3 with ⟨stop,fin⟩ | ⟨go,hsz,Nx,hN,step⟩
  ·refine thn (T.done (pB X N scope cl C fp s H (ξ cl C)) rfl rfl rfl rfl i _ s3 σ3 H3 (ξ cl C) I3 (fpX fr3) st3 stop) fun r s4 ⟨hr,I4⟩=> ?_
   subst hr; obtain ⟨m4,ns4,_⟩:=id I4.loc; have J0:Inv X pins σ H3 s4:=I.call' (ch:=fp) I4.os I4.base I4.hok I4.bare fun b hb=>⟨(hfp b hb).2.2.2.1,(hfp b hb).2.1,(hfp b hb).2.2.2.2.1,(hfp b hb).2.2.2.2.2⟩
   obtain ⟨pd,pn,_⟩:=I4.pin (D,_) (aN _ aG); have hLD:X.env.locals<D:=by rw [← hDD]; exact I.lt
   refine fin D C s4 pn I4.free hDC (cE I.sz (by rw [hDD]; exact hCle)) (fQ (aU hLD hCle)) (fun x c e=>neC c (cexX x c e)) (fun p hp=>neC _ (pexX p hp)) (fun z=>absurd (I.low C z) (by rw [hDD]; exact Nat.not_lt.mpr hCle)) ⟨m4,ns4⟩ ?_; refine J0.track pn (by rw [← hDD]; exact I.sz) (fQ hLD) (fun x c e=>dlow c (cexX x c e)) (fun p hp=>dlow _ (pexX p hp)) ?_; exact ⟨hlen,its,nn,rv3,pd⟩
  ·refine thn (T.item (pB X N scope cl C fp s H (ξ cl C)) rfl rfl rfl rfl i _ s3 σ3 H3 (ξ cl C) I3 (fpX fr3) st3 go) fun r s4 ⟨u,hr,h4⟩=> ?_
   subst hr; refine thn h4 fun _ s5 ⟨x,H5,I5,r5,y5,st5,fr5⟩=> ?_
   have I5':=I5.pinned (fpX fr5) (T.obj _ _ st5); refine thn (hg cl C _ s5 σ3 H5 x u _ I5' r5 (step x H5 y5)) fun _ s6 ⟨σ6,H6,I6,q6⟩=> ?_
   refine thn (ht cl C _ s6 σ6 H6 _ I6 q6) fun b s7 ⟨H7,I7,q7⟩=> ?_
   have tnK:∀ {σ7:St} {H7:Hp} {s7:Shared},Inv (pB X N scope cl C fp s H (ξ cl C)) ([(D,{cls:= .type "list",dict:=none,data:= .seq its.toArray nn})]++nX fp s5.heap) σ7 H7 s7→tn (i+1) s7.heap∧∀b∈fp,H7 b=none:=fun {σ7 H7 s7} I7=>by refine ⟨T.keep _ _ _ st5 fun b hb o e=>(I7.pin (b,o) (aN _ (aN _ (jI hb e)))).1,fun b hb=> ?_⟩; obtain ⟨o,e,d⟩:=T.obj _ _ st5 b hb; exact (I7.pin (b,o) (aN _ (aN _ (jI hb e)))).2.1
   cases b with
   | false=>have q7':Nx ys σ6 H7:=q7; obtain ⟨m',hm,w7⟩:=hN _ _ _ q7'; obtain ⟨t7,f7⟩:=tnK I7; exact ⟨m',hm,i+1,ys,σ6,H7,its,nn,I7.unpinned,t7,f7,rv3,hlen,w7⟩
   | true=>
    have q7':te σ6 H7 fun v H5=>Nx (ys++[v]) σ6 H5:=q7
    refine thn (he cl C _ s7 σ6 H7 _ I7 q7') fun y s8 ⟨v,H8,I8,r8,q8⟩=> ?_
    obtain ⟨m',hm,w8⟩:=hN _ _ _ q8; obtain ⟨pd,pn,pL,pf,pc⟩:=I8.pin (D,{cls:= .type "list",dict:=none,data:= .seq its.toArray nn}) (aN _ (cG _ aG)); have hits:its.length=ys.length:=rv3.length.symm; refine wpAny_list_append_plain (items:=its.toArray) ⟨nn,pd⟩ (fun h9 pl9 sb9=> ?_) (by rw [aS,hits]; exact dW hsz); obtain ⟨n9,e9⟩:=pl9
    have e9':h9.get? D=some {cls:= .type "list",dict:=none,data:= .seq (its++[y]).toArray n9}:=by rw [e9]; simp
    have I8':Inv (pB X N scope cl C fp s H (ξ cl C)) (nX fp s5.heap) σ6 H8 s8:=I8.pins_of fun p hp=>I8.pin p (aN _ (aN _ hp))
    have I9:Inv (pB X N scope cl C fp s H (ξ cl C)) (nX fp s5.heap) σ6 H8 {s8 with heap:=h9,toks:=s8.toks}:=I8'.turned (it:=D) (fun b o hb e=>sb9.extBut b o hb e) pn hDC (.inr (by rw [← hDD]; exact aM _)) (fun x c e=>dlow c (cexi x c e)) fun p hp=>by
     have hp':p∈nX fp s5.heap:=by simpa [pB,cxB] using hp
     exact dlow _ (flow _ (rY hp').1)
    have tn9:tn (i+1) h9:=T.keep _ _ _ st5 fun b hb o e=>(I9.pin (b,o) (aN _ (jI hb e))).1
    have fr9:∀b∈fp,H8 b=none:=fun b hb=>by obtain ⟨o,e,d⟩:=T.obj _ _ st5 b hb; exact (I9.pin (b,o) (aN _ (jI hb e))).2.1
    refine ⟨m',hm,i+1,ys++[v],σ6,H8,its++[y],n9,I9.pins_of fun p hp=> ?_,tn9,fr9,Vals.append rv3 (.cons r8 .nil),by rw [aW]; exact hsz,w8⟩; have hp':p=(D,{cls:= .type "list",dict:=none,data:= .seq (its++[y]).toArray n9}):=aI.mp hp; subst hp'; exact ⟨e9',pn,pL,pf,fun v z=>by cases z⟩
 exact codeAny_compStart_list (loop _ rfl) (T.self _ 0 _ _ _ (T.keep 0 _ _ st fun b hb o e=>old b o e) (loop _ rfl))
theorem uL {X:Cx} {pins:List (Addr × Obj)} {σ:St} {H:Hp} {s:Shared} {elt tg iter:Expr} {ifs:List Expr} {scope:Scope} {pos:Pos} {N:List Str} {cap:List (Option Nat)} {g:TG} {tt:TT} {te:TE} {J:It} {fp:List Addr} {it:Addr} {tn:Nat→Heap→Prop} {E:Value→Shared→Prop} {sc:Scope}
  (hc:X.calm=true) (hsc:X.env.scope=sc) (hcn:mU scope sc=true) (hcap:lJ N X.N scope sc cap=true) (hk:scope.kind= .function)
  (I:Inv X pins σ H s) (T:Turn X.prog X.w X.K tg J fp it tn) (st:tn 0 s.heap) (hfp:∀b∈fp,sZ X pins H b)
  (hg:∀cl C,PG (cxB X N scope cl C fp s H) tg g) (ht:∀cl C pi s2 σ2 H2 Q,Inv (cxB X N scope cl C fp s H) pi σ2 H2 s2→tt σ2 H2 Q→wpAny (model X.prog X.w) X.A (forIn ifs true fun c r=>if r=true then do let ok ← isTrue c (compEnvC scope cl C X.env) (eval c (compEnvC scope cl C X.env)); pure (ForInStep.yield ok) else pure (ForInStep.yield r)) (TP (cxB X N scope cl C fp s H) pi σ2 Q) (fun _ _=>False) s2)
  (he:∀cl C,PE (cxB X N scope cl C fp s H) elt te) (W:Nat→Nat→List V→St→Hp→Prop) (m0:Nat) (w0:W 0 m0 [] (sW cap σ) H)
  (RR:Value→Addr→Result→Shared→Prop)
  (turn:∀i m ys σb H2,W i m ys σb H2→
   (J.stop i H2∧∀D C s',H2 D=none→H2 C=none→D≠C→X.s₀.heap.objs.size≤C→C≠X.env.locals→(∀x c,X.env.cells.lookup x=some c→c≠C)→(∀p∈X.pn++pins,p.1≠C)→C∉frs X.stack→(∃m,s'.heap.Ns C m)→Inv X pins σ (upd H2 D (.lst ys)) s'→RR (.ref D) C (.ok .next) s')∨
   (J.go i H2∧ys.length<sizeLine∧∃Nx:List V→St→Hp→Prop,(∀ys' σ' H',Nx ys' σ' H'→∃m',m'<m∧W (i+1) m' ys' σ' H')∧
    ∀x H',J.yld i H2 x H'→g x σb H' fun σ2 H3=>tt σ2 H3 fun b H4=>if b=true then te σ2 H4 fun v H5=>Nx (ys++[v]) σ2 H5 else Nx ys σ2 H4)):
  wpAny (model X.prog X.w) X.A (newList []) (fun acc s₃=>wpAny (model X.prog X.w) X.A (newFunctionEnv scope X.env.globals (clo X.env.cells scope.names []) [] X.env.qual none .none (some X.env)) (fun cenv s₄=>
   codeAny (model X.prog X.w) X.A (.compStart (.ListComp elt [⟨tg,iter,ifs,0⟩] scope pos) 0 (.ref it) acc {cenv with scope:=relabel scope X.env}) (RR acc cenv.locals) s₄) E s₃) E s:=
 comp_runX (fun _ _ _ _=>False) (fun _ _ _ _ _=>False) hc hsc hcn hcap hk I T st hfp hg ht he W m0 w0 RR (fun _ _ _ _ z=>z.elim) (fun _ _ _ _ _ _ z=>z.elim) turn
end L2
namespace DL
open PySem PySem.Spec PyProof.Rows L2
noncomputable abbrev St:=L2.St
inductive D where
 | non | bl (b:Bool) | int (i:Int) | str (x:Str) | tup (ds:List D) | lst (ds:List D) | dic | scr (ns:List Int) | dki (ks:List Key) (ds:List D) | any (G:V→Hp→Prop)
mutual
noncomputable def Rep (K:aA) (H:Hp):D→V→Prop
 | .non,v=>v= .non
 | .bl b,v=>v= .bl b
 | .int i,v=>v= .int i
 | .str x,v=>v= .str x
 | .tup ds,v=>∃a xs,v= .ref a∧H a=some (.tup xs)∧RepL K H ds xs
 | .lst ds,v=>∃a xs,v= .ref a∧H a=some (.lst xs)∧RepL K H ds xs
 | .dic,v=>∃a,v= .ref a∧H a=some (.dK [])
 | .dki ks ds,v=>∃a xs,v= .ref a∧(∃ob,H a=some (.frz ob (.dK (ks.zip xs))))∧ks.length=ds.length∧RepL K H ds xs
 | .scr ns,v=>∃a,v= .ref a∧SqL K H a (ns.map V.int)
 | .any G,v=>(∃a,v= .ref a)∧∀H',Same H H'→G v H'
noncomputable def RepL (K:aA) (H:Hp):List D→List V→Prop
 | [],xs=>xs=[]
 | d::ds,xs=>∃y ys,xs=y::ys∧Rep K H d y∧RepL K H ds ys
end
mutual
theorem Rep.mono {K:aA} {H H':Hp} (h:Same H H'):∀ {d:D} {v:V},Rep K H d v→Rep K H' d v
 | .non,_,r=>by simpa only [Rep] using r
 | .bl _,_,r=>by simpa only [Rep] using r
 | .int _,_,r=>by simpa only [Rep] using r
 | .str _,_,r=>by simpa only [Rep] using r
 | .tup ds,v,r=>by simp only [Rep] at r ⊢; obtain ⟨a,xs,e,q,rl⟩:=r; exact ⟨a,xs,e,h _ _ q,RepL.mono h rl⟩
 | .lst ds,v,r=>by simp only [Rep] at r ⊢; obtain ⟨a,xs,e,q,rl⟩:=r; exact ⟨a,xs,e,h _ _ q,RepL.mono h rl⟩
 | .dki ks ds,v,r=>by simp only [Rep] at r ⊢; obtain ⟨a,xs,e,⟨ob,q⟩,l,rl⟩:=r; exact ⟨a,xs,e,⟨ob,h _ _ q⟩,l,RepL.mono h rl⟩
 | .dic,v,r=>by simp only [Rep] at r ⊢; obtain ⟨a,e,q⟩:=r; exact ⟨a,e,h _ _ q⟩
 | .any G,v,r=>by simp only [Rep] at r ⊢; exact ⟨r.1,fun H2 s=>r.2 H2 (h.trans s)⟩
 | .scr ns,v,r=>by simp only [Rep] at r ⊢; obtain ⟨a,e,q⟩:=r; exact ⟨a,e,h.seq q⟩
theorem RepL.mono {K:aA} {H H':Hp} (h:Same H H'):∀ {ds:List D} {xs:List V},RepL K H ds xs→RepL K H' ds xs
 | [],_,r=>by simpa only [RepL] using r
 | d::ds,xs,r=>by simp only [RepL] at r ⊢; obtain ⟨y,ys,e,q,rl⟩:=r; exact ⟨y,ys,e,Rep.mono h q,RepL.mono h rl⟩
end
theorem RepL.len {K:aA} {H:Hp}:∀ {ds:List D} {xs:List V},RepL K H ds xs→xs.length=ds.length
 | [],_,r=>by simp only [RepL] at r; rw [r]; rfl
 | d::ds,xs,r=>by simp only [RepL] at r; obtain ⟨y,ys,rfl,_,q⟩:=r; simp only [bU,RepL.len q]
theorem RepL.get {K:aA} {H:Hp}:∀ {ds:List D} {xs:List V} {i:Nat} {d:D},RepL K H ds xs→ds[i]? =some d→∃v,xs[i]? =some v∧Rep K H d v
 | [],_,i,d,r,e=>by simp at e
 | d'::ds,xs,i,d,r,e=>by
  simp only [RepL] at r; obtain ⟨y,ys,rfl,q,rl⟩:=r; cases i with
  | zero=>simp at e; subst e; exact ⟨y,rfl,q⟩
  | succ i=>
   have e':ds[i]? =some d:=by simpa using e
   obtain ⟨v,h1,h2⟩:=RepL.get rl e'; exact ⟨v,by simpa using h1,h2⟩
theorem RepL.app {K:aA} {H:Hp}:∀ {ds es:List D} {xs ys:List V},RepL K H ds xs→RepL K H es ys→RepL K H (ds++es) (xs++ys)
 | [],es,xs,ys,r,q=>by simp only [RepL] at r; subst r; exact q
 | d::ds,es,xs,ys,r,q=>by simp only [RepL] at r; obtain ⟨y,zs,rfl,a,rl⟩:=r; show RepL K H (d::(ds++es)) (y::(zs++ys)); simp only [RepL]; exact ⟨y,_,rfl,a,RepL.app rl q⟩
theorem RepL.nil {K:aA} {H:Hp}:RepL K H [] []:=by simp only [RepL]
theorem RepL.cons {K:aA} {H:Hp} {d:D} {ds:List D} {x:V} {xs:List V} (a:Rep K H d x) (b:RepL K H ds xs):RepL K H (d::ds) (x::xs):=by simp only [RepL]; exact ⟨x,xs,rfl,a,b⟩
theorem RepL.one {K:aA} {H:Hp} {d:D} {x:V} (a:Rep K H d x):RepL K H [d] [x]:= .cons a .nil
theorem RepL.uncons {K:aA} {H:Hp} {d:D} {ds:List D} {xs:List V} (r:RepL K H (d::ds) xs):∃y ys,xs=y::ys∧Rep K H d y∧RepL K H ds ys:=by simpa only [RepL] using r
theorem RepL.take {K:aA} {H:Hp}:∀ {ds:List D} {xs:List V} (n:Nat),RepL K H ds xs→RepL K H (ds.take n) (xs.take n)
 | _,_,0,_=>by simp only [List.take_zero]; exact .nil
 | [],xs,n+1,r=>by simp only [RepL] at r; subst r; exact .nil
 | d::ds,xs,n+1,r=>by obtain ⟨y,ys,rfl,a,rl⟩:=r.uncons; simp only [List.take_succ_cons]; exact .cons a (RepL.take n rl)
theorem RepL.drop {K:aA} {H:Hp}:∀ {ds:List D} {xs:List V} (n:Nat),RepL K H ds xs→RepL K H (ds.drop n) (xs.drop n)
 | _,_,0,r=>by simpa only [List.drop_zero] using r
 | [],xs,n+1,r=>by simp only [RepL] at r; subst r; exact .nil
 | d::ds,xs,n+1,r=>by obtain ⟨y,ys,rfl,a,rl⟩:=r.uncons; simp only [List.drop_succ_cons]; exact RepL.drop n rl
theorem RepL.ints {K:aA} {H:Hp}:∀ {ns:List Int} {xs:List V},RepL K H (ns.map D.int) xs→xs=ns.map V.int
 | [],xs,r=>by simpa only [eI,RepL] using r
 | n::ns,xs,r=>by rw [bA] at r; obtain ⟨y,ys,rfl,a,rl⟩:=r.uncons; simp only [Rep] at a; rw [a,RepL.ints rl]; rfl
inductive Slot where
 | un | val (d:D) | own (l:Addr) (ds:List D) | gh (d:D) (G:V→Hp→Prop) | od (l:Addr) (ks:List Key) (ds:List D) | ox (ls:List Addr) (G:V→Hp→Hp→Prop)
noncomputable def Wr (l:Addr):HO→Prop
 | .lst _=>True
 | .dK _=>True
 | .ext φ=>∃o:Obj,φ=(fun h=>h.get? l=some o)∧∀v,o.data≠ .cell v
 | _=>False
noncomputable def iK (K:aA) (F H:Hp):Slot→Option V→Prop
 | .un,_=>True
 | .val d,o=>∃v,o=some v∧Rep K F d v
 | .own l ds,o=>o=some (.ref l)∧F l=none∧∃xs,H l=some (.lst xs)∧RepL K F ds xs
 | .od l ks ds,o=>o=some (.ref l)∧F l=none∧∃xs,H l=some (.dK (ks.zip xs))∧ks.length=ds.length∧RepL K F ds xs
 | .gh d G,o=>∃v,o=some v∧Rep K F d v∧∀F',Same F F'→G v F'
 | .ox ls G,o=>∃v,o=some v∧(∀l∈ls,F l=none∧∃ob,H l=some ob∧Wr l ob)∧∀F' H',Same F F'→(∀l∈ls,∀ob,H l=some ob→H' l=some ob)→G v F' H'
noncomputable def SlotsOk (K:aA) (F H:Hp):List Slot→St→Prop
 | [],σ=>σ=[]
 | z::zs,σ=>∃o r,σ=o::r∧iK K F H z o∧SlotsOk K F H zs r
noncomputable def iB:Slot→List Addr
 | .own l _=>[l]
 | .od l _ _=>[l]
 | .ox ls _=>ls
 | _=>[]
noncomputable def cC (sd:List Slot):List Addr:=sd.flatMap iB
theorem pV (z:Slot) (zs:List Slot):cC (z::zs)=iB z++cC zs:=rfl
structure StF (K:aA) (H₀ F H:Hp) (σ:St) (sd:List Slot):Prop where
 base:Same H₀ F
 sub:Same F H
 smp:Smp H
 slots:SlotsOk K F H sd σ
 nd:(cC sd).Nodup
section
variable {K:aA} {H₀ F F' H H':Hp} {σ:St} {sd:List Slot}
theorem SlotsOk.get:∀ {sd:List Slot} {σ:St} {i:Nat} {z:Slot},SlotsOk K F H sd σ→sd[i]? =some z→∃o,σ[i]? =some o∧iK K F H z o
 | [],_,_,_,_,e=>by simp at e
 | z'::zs,σ,i,z,h,e=>by
  obtain ⟨o,r,rfl,a,b⟩:=h; cases i with
  | zero=>simp at e; subst e; exact ⟨o,rfl,a⟩
  | succ i=>obtain ⟨o',h1,h2⟩:=SlotsOk.get (i:=i) b (by simpa using e); exact ⟨o',by simpa using h1,h2⟩
theorem SlotsOk.set {z:Slot} {o:Option V} (q:iK K F H z o):∀ {sd:List Slot} {σ:St} (i:Nat),SlotsOk K F H sd σ→SlotsOk K F H (sd.set i z) (σ.set i o)
 | [],_,_,h=>by have h:_=_:=h; subst h; rfl
 | z'::zs,σ,i,h=>by
  obtain ⟨o',r,rfl,a,b⟩:=h; cases i with
  | zero=>exact ⟨o,r,rfl,q,b⟩
  | succ i=>exact ⟨o',_,rfl,a,SlotsOk.set q i b⟩
theorem SlotsOk.mono (hF:Same F F'):∀ {sd:List Slot} {σ:St},(∀l∈cC sd,F' l=none∧∀xs,H l=some xs→H' l=some xs)→SlotsOk K F H sd σ→SlotsOk K F' H' sd σ
 | [],_,_,h=>h
 | z::zs,σ,ho,h=>by
  obtain ⟨o,r,rfl,a,b⟩:=h; refine ⟨o,r,rfl, ?_,SlotsOk.mono hF (fun l hl=>ho l ?_) b⟩
  ·cases z with
   | un=>trivial
   | val d=>obtain ⟨v,e,q⟩:=a; exact ⟨v,e,q.mono hF⟩
   | gh d G=>obtain ⟨v,e,q,g⟩:=a; exact ⟨v,e,q.mono hF,fun F2 s2=>g F2 (hF.trans s2)⟩
   | own l ds=>obtain ⟨e,n,xs,q,rl⟩:=a; have:=ho l (by simp [pV,iB]); exact ⟨e,this.1,xs,this.2 _ q,rl.mono hF⟩
   | od l ks ds=>obtain ⟨e,n,xs,q,ln,rl⟩:=a; have:=ho l (by simp [pV,iB]); exact ⟨e,this.1,xs,this.2 _ q,ln,rl.mono hF⟩
   | ox ls G=>
    obtain ⟨v,e,h,g⟩:=a; have ho':∀l∈ls,F' l=none∧∀xs,H l=some xs→H' l=some xs:=fun l hl=>ho l (cG _ hl)
    exact ⟨v,e,fun l hl=>⟨(ho' l hl).1,let ⟨ob,q,w⟩:=(h l hl).2; ⟨ob,(ho' l hl).2 _ q,w⟩⟩,fun F2 H2 s2 k=>g F2 H2 (hF.trans s2) fun l hl ob q=>k l hl ob ((ho' l hl).2 _ q)⟩
  ·exact aN _ hl
theorem SlotsOk.owns:∀ {sd:List Slot} {σ:St} {l:Addr},SlotsOk K F H sd σ→l∈cC sd→F l=none∧∃ob,H l=some ob∧Wr l ob
 | [],_,_,_,e=>by simp [cC] at e
 | z::zs,σ,l,h,e=>by
  obtain ⟨o,r,rfl,a,b⟩:=h
  rcases bE.mp (show l∈iB z++cC zs from e) with e | e
  ·cases z with
   | un=>cases e
   | val d=>cases e
   | gh d G=>cases e
   | own l' ds=>rw [aI.mp e]; obtain ⟨_,n,xs,q,_⟩:=a; exact ⟨n,_,q,trivial⟩
   | od l' ks ds=>rw [aI.mp e]; obtain ⟨_,n,xs,q,_⟩:=a; exact ⟨n,_,q,trivial⟩
   | ox ls G=>obtain ⟨v,_,h,_⟩:=a; exact h l e
  ·exact SlotsOk.owns b e
theorem StF.lay {p:Addr} {o:HO} (S:StF K H₀ F H σ sd) (hp:H p=none) (ho:SmpO o):StF K H₀ (upd F p o) (upd H p o) σ sd∧Same F (upd F p o):=by
 have fp:F p=none:=S.sub.free hp; have s1:Same F (upd F p o):=fun b u e=>by rw [bO (cB e fp)]; exact e
 refine ⟨⟨fun b u e=>s1 _ _ (S.base _ _ e),fun b u e=> ?_,fun b u e=> ?_,S.slots.mono s1 fun l hl=> ?_,S.nd⟩,s1⟩
 ·by_cases h:b=p
  ·subst h; rw [bV] at e ⊢; exact e
  ·rw [bO h] at e ⊢; exact S.sub _ _ e
 ·by_cases h:b=p
  ·subst h; rw [bV] at e; cases e; exact ho
  ·rw [bO h] at e; exact S.smp _ _ e
 ·obtain ⟨n,xs,q,_⟩:=S.slots.owns hl; have hne:l≠p:=cB q hp; exact ⟨by rw [bO hne]; exact n,fun ys e=>by rw [bO hne]; exact e⟩
theorem StF.layO {p:Addr} {xs:List V} (S:StF K H₀ F H σ sd) (hp:H p=none):StF K H₀ F (upd H p (.lst xs)) σ sd∧F p=none∧p∉cC sd:=by
 have fp:F p=none:=S.sub.free hp; refine ⟨⟨S.base,fun b u e=> ?_,fun b u e=> ?_,S.slots.mono (Same.refl _) fun l hl=> ?_,S.nd⟩,fp,fun hl=> ?_⟩
 ·rw [bO (cB e fp)]; exact S.sub _ _ e
 ·by_cases h:b=p
  ·subst h; rw [bV] at e; cases e; trivial
  ·rw [bO h] at e; exact S.smp _ _ e
 ·obtain ⟨n,ys,q,_⟩:=S.slots.owns hl; have hne:l≠p:=cB q hp; exact ⟨n,fun ys e=>by rw [bO hne]; exact e⟩
 ·obtain ⟨n,ys,q,_⟩:=S.slots.owns hl; rw [hp] at q; cases q
theorem StF.freeze {p:Addr} {xs:List V} (S:StF K H₀ F H σ sd) (hp:H p=some (.lst xs)) (fp:F p=none) (ho:p∉cC sd):StF K H₀ (upd F p (.lst xs)) H σ sd∧Same F (upd F p (.lst xs)):=by
 have s1:Same F (upd F p (.lst xs)):=fun b u e=>by rw [bO (cB e fp)]; exact e
 refine ⟨⟨fun b u e=>s1 _ _ (S.base _ _ e),fun b u e=> ?_,S.smp,S.slots.mono s1 fun l hl=> ?_,S.nd⟩,s1⟩
 ·by_cases h:b=p
  ·subst h; rw [bV] at e; rw [hp]; exact e
  ·rw [bO h] at e; exact S.sub _ _ e
 ·obtain ⟨n,ys,q,_⟩:=S.slots.owns hl; have hne:l≠p:=fun z=>ho (z▸hl)
  exact ⟨by rw [bO hne]; exact n,fun ys e=>e⟩
theorem SlotsOk.len:∀ {sd:List Slot} {σ:St},SlotsOk K F H sd σ→σ.length=sd.length
 | [],_,h=>by have h:_=_:=h; rw [h]; rfl
 | z::zs,σ,h=>by obtain ⟨o,r,rfl,_,b⟩:=h; simp [SlotsOk.len b]
end
inductive R where
 | val (d:D) | own (ds:List D) | bor (ds:List D) | pr (d:D) (ls:List D) | ox (G:V→List Addr→Hp→Hp→Prop)
noncomputable def LOk (K:aA) (F H:Hp) (sd:List Slot) (v:V) (ds:List D):Prop:=
 ∃l xs,v= .ref l∧H l=some (.lst xs)∧RepL K F ds xs∧(F l=some (.lst xs)∨Slot.own l ds∈sd)
noncomputable def ResOk (K:aA) (F H:Hp) (sd:List Slot):R→V→Prop
 | .val d,v=>Rep K F d v
 | .own ds,v=>∃l xs,v= .ref l∧F l=none∧H l=some (.lst xs)∧RepL K F ds xs∧l∉cC sd
 | .bor ds,v=>LOk K F H sd v ds
 | .pr d ls,v=>∃t l xs y,v= .ref t∧F t=some (.tup [y, .ref l])∧Rep K F d y∧F l=none∧H l=some (.lst xs)∧RepL K F ls xs∧l∉cC sd
 | .ox G,v=>∃ls:List Addr,ls.Nodup∧(∀l∈ls,F l=none∧(∃ob,H l=some ob∧Wr l ob)∧l∉cC sd)∧∀F' H',Same F F'→(∀l∈ls,∀ob,H l=some ob→H' l=some ob)→G v ls F' H'
noncomputable def R.keeps:R→Prop
 | .own _=>False
 | .pr _ _=>False
 | .ox _=>False
 | _=>True
section
variable {K:aA} {H₀ F F' H H':Hp} {σ:St} {sd:List Slot} {r:R} {v:V}
theorem ResOk.keep (hr:r.keeps) (h:ResOk K F H sd r v) (S':StF K H₀ F' H' σ sd) (s:Same F F'):ResOk K F' H' sd r v:=by
 cases r with
 | val d=>exact Rep.mono s h
 | own ds=>exact hr.elim
 | pr d ls=>exact hr.elim
 | ox G=>exact hr.elim
 | bor ds=>
  obtain ⟨l,xs,e,hl,rl,q⟩:=h
  rcases q with q | q
  ·exact ⟨l,xs,e,S'.sub _ _ (s _ _ q),rl.mono s, .inl (s _ _ q)⟩
  ·obtain ⟨i,hi⟩:=gS q; obtain ⟨o,_,e2,_,ys,h1,h2⟩:=S'.slots.get hi; exact ⟨l,ys,e,h1,h2, .inr q⟩
end
structure PEd (X:Cx) (sd:List Slot) (e:Expr) (r:R):Prop where
 run:∀ (σ:St) (F H:Hp),StF X.K X.B₀ F H σ sd→
 wE X e σ H fun v H'=>∃F',StF X.K X.B₀ F' H' σ sd∧Same F F'∧ResOk X.K F' H' sd r v
instance {X:Cx} {sd:List Slot} {e:Expr} {r:R}:CoeFun (PEd X sd e r) (fun _=>∀ (σ:St) (F H:Hp),StF X.K X.B₀ F H σ sd→
 wE X e σ H fun v H'=>∃F',StF X.K X.B₀ F' H' σ sd∧Same F F'∧ResOk X.K F' H' sd r v):=⟨PEd.run⟩
structure PTd (X:Cx) (sd:List Slot) (e:Expr) (b:Bool):Prop where
 run:∀ (σ:St) (F H:Hp),StF X.K X.B₀ F H σ sd→
 wT X e σ H fun c H'=>c=b∧∃F',StF X.K X.B₀ F' H' σ sd∧Same F F'
instance {X:Cx} {sd:List Slot} {e:Expr} {b:Bool}:CoeFun (PTd X sd e b) (fun _=>∀ (σ:St) (F H:Hp),StF X.K X.B₀ F H σ sd→
 wT X e σ H fun c H'=>c=b∧∃F',StF X.K X.B₀ F' H' σ sd∧Same F F'):=⟨PTd.run⟩
structure PWd (X:Cx) (sd:List Slot) (e:Expr) (b:Bool):Prop where
 run:∀ (σ:St) (F H:Hp),StF X.K X.B₀ F H σ sd→
 wW X e σ H fun c H'=>c=b∧∃F',StF X.K X.B₀ F' H' σ sd∧Same F F'
instance {X:Cx} {sd:List Slot} {e:Expr} {b:Bool}:CoeFun (PWd X sd e b) (fun _=>∀ (σ:St) (F H:Hp),StF X.K X.B₀ F H σ sd→
 wW X e σ H fun c H'=>c=b∧∃F',StF X.K X.B₀ F' H' σ sd∧Same F F'):=⟨PWd.run⟩
inductive RsOk (K:aA) (F H:Hp) (sd:List Slot):List R→List V→Prop
 | nil:RsOk K F H sd [] []
 | cons {r v rs vs}:ResOk K F H sd r v→RsOk K F H sd rs vs→RsOk K F H sd (r::rs) (v::vs)
structure PAd (X:Cx) (sd:List Slot) (es:List Expr) (rs:List R):Prop where
 run:∀ (σ:St) (F H:Hp),StF X.K X.B₀ F H σ sd→
 wA X es σ H fun vs H'=>∃F',StF X.K X.B₀ F' H' σ sd∧Same F F'∧RsOk X.K F' H' sd rs vs
instance {X:Cx} {sd:List Slot} {es:List Expr} {rs:List R}:CoeFun (PAd X sd es rs) (fun _=>∀ (σ:St) (F H:Hp),StF X.K X.B₀ F H σ sd→
 wA X es σ H fun vs H'=>∃F',StF X.K X.B₀ F' H' σ sd∧Same F F'∧RsOk X.K F' H' sd rs vs):=⟨PAd.run⟩
structure jG where
 nx:List Slot→Prop
 rt:R→Prop
 bk:List Slot→Prop:=fun _=>False
 ct:List Slot→Prop:=fun _=>False
noncomputable def RetOk (K:aA) (H₀ H:Hp) (r:R) (v:V):Prop:=∃F,Same H₀ F∧Same F H∧Smp H∧ResOk K F H [] r v
noncomputable def lft (X:Cx) (F₀:Hp) (E:jG):sT where
 nx:=fun σ H=>∃sd F,StF X.K X.B₀ F H σ sd∧Same F₀ F∧E.nx sd
 rt:=fun v H=>∃r,RetOk X.K X.B₀ H r v∧E.rt r
 bk:=fun σ H=>∃sd F,StF X.K X.B₀ F H σ sd∧Same F₀ F∧E.bk sd
 ct:=fun σ H=>∃sd F,StF X.K X.B₀ F H σ sd∧Same F₀ F∧E.ct sd
structure PSd (X:Cx) (sd:List Slot) (sts:List Stmt) (E:jG):Prop where
 run:∀ (σ:St) (F H:Hp),StF X.K X.B₀ F H σ sd→wSs X sts (lft X F E) σ H
instance {X:Cx} {sd:List Slot} {sts:List Stmt} {E:jG}:CoeFun (PSd X sd sts E) (fun _=>∀ (σ:St) (F H:Hp),StF X.K X.B₀ F H σ sd→wSs X sts (lft X F E) σ H):=⟨PSd.run⟩
structure PSd1 (X:Cx) (sd:List Slot) (st:Stmt) (E:jG):Prop where
 run:∀ (σ:St) (F H:Hp),StF X.K X.B₀ F H σ sd→wS X st (lft X F E) σ H
instance {X:Cx} {sd:List Slot} {st:Stmt} {E:jG}:CoeFun (PSd1 X sd st E) (fun _=>∀ (σ:St) (F H:Hp),StF X.K X.B₀ F H σ sd→wS X st (lft X F E) σ H):=⟨PSd1.run⟩
section
variable {X:Cx} {sd:List Slot} {e a b c:Expr} {es:List Expr} {pos:Pos} {r ra rb:R} {d:D} {ds:List D}
theorem PEd.val (h:PEd X sd e (.own ds)):PEd X sd e (.val (.lst ds)):= .mk fun σ F H S=>(h σ F H S).imp fun v H' ⟨F',S',s,l,xs,e,n,q,rl,no⟩=>by obtain ⟨S2,s2⟩:=S'.freeze q n no; refine ⟨_,S2,s.trans s2, ?_⟩; show Rep _ _ _ _; simp only [Rep]; exact ⟨l,xs,e,bV,rl.mono s2⟩
theorem PEd.bor (h:PEd X sd e (.val (.lst ds))):PEd X sd e (.bor ds):= .mk fun σ F H S=>(h σ F H S).imp fun v H' ⟨F',S',s,q⟩=>by have q:Rep _ _ _ _:=q; simp only [Rep] at q; obtain ⟨l,xs,e,q,rl⟩:=q; exact ⟨F',S',s,l,xs,e,S'.sub _ _ q,rl, .inl q⟩
theorem aB (i:Nat) {x:Str} (hs:sd[i]? =some (.val d)) (h:PE X (.Name x pos) (mG i)):PEd X sd (.Name x pos) (.val d):= .mk fun σ F H S=>h.to (by
 obtain ⟨o,h1,v,h2,q⟩:=S.slots.get hs
 exact ⟨v,by rw [h1,h2],F,S,Same.refl _,q⟩)
theorem pd_varB (i:Nat) {x:Str} {l:Addr} (hs:sd[i]? =some (.own l ds)) (h:PE X (.Name x pos) (mG i)):PEd X sd (.Name x pos) (.bor ds):= .mk fun σ F H S=>h.to (by
 obtain ⟨o,h1,h2,n,xs,q,rl⟩:=S.slots.get hs
 exact ⟨.ref l,by rw [h1,h2],F,S,Same.refl _,l,xs,rfl,q,rl, .inr (bB hs)⟩)
theorem aZ {i j}:PEd X sd (.Constant (.int i) j pos) (.val (.int i)):= .mk fun σ F H S=>pe_int.to ⟨F,S,Same.refl _,by simp only [ResOk,Rep]⟩
theorem pd_bl {i j}:PEd X sd (.Constant (.bool i) j pos) (.val (.bl i)):= .mk fun σ F H S=>pe_bl.to ⟨F,S,Same.refl _,by simp only [ResOk,Rep]⟩
theorem lZ {j}:PEd X sd (.Constant .none j pos) (.val .non):= .mk fun σ F H S=>pe_non.to ⟨F,S,Same.refl _,by simp only [ResOk,Rep]⟩
theorem cW {i j}:PEd X sd (.Constant (.str i) j pos) (.val (.str i)):= .mk fun σ F H S=>pe_str.to ⟨F,S,Same.refl _,by simp only [ResOk,Rep]⟩
theorem pd_globI {x:Str} {i:Int} {u:Value} (hg:Gl X x) (hm:X.mg x=some u) (ru:RelV (.int i) u) (hd:(x==("__debug__":Str))=false:=by decide):PEd X sd (.Name x pos) (.val (.int i)):= .mk fun σ F H S=>(pe_glob hg hm ru hd).to ⟨F,S,Same.refl _,by simp only [ResOk,Rep]⟩
theorem aP:PAd X sd [] []:= .mk fun σ F H S=>pa_nil.to ⟨F,S,Same.refl _, .nil⟩
theorem aD {rs:List R} (h1:PEd X sd e r) (h2:PAd X sd es rs) (hk:r.keeps:=by trivial) (hs:starEach (e::es) X.env=(false,eval e X.env)::starEach es X.env:=by rfl):PAd X sd (e::es) (r::rs):= .mk fun σ F H S=>(iD iJ vO hs).to ((h1 σ F H S).imp fun v H1 ⟨F1,S1,s1,q1⟩=>(h2 σ F1 H1 S1).imp fun vs H2 ⟨F2,S2,s2,q2⟩=>⟨F2,S2,s1.trans s2, .cons (q1.keep hk S2 s2) q2⟩)
theorem RsOk.vals {K:aA} {F H:Hp}:∀ {ds:List D} {vs:List V},RsOk K F H sd (ds.map R.val) vs→RepL K F ds vs
 | [],_, .nil=> .nil
 | _::_,_, .cons q t=> .cons q (RsOk.vals t)
theorem fP {x1} (h:PAd X sd es (ds.map R.val)) (hl:ds.length≤1000):PEd X sd (.Tuple es x1 pos) (.val (.tup ds)):= .mk fun σ F H S=>
 (pe_tup vO).to ((h σ F H S).imp fun vs H1 ⟨F1,S1,s1,q1⟩=>by
  have rl:=q1.vals; refine ⟨by rw [rl.len]; exact dW (fH hl),fun p hp=> ?_⟩; obtain ⟨S2,s2⟩:=S1.lay (o:= .tup vs) hp trivial; refine ⟨_,S2,s1.trans s2, ?_⟩; simp only [ResOk,Rep]
  exact ⟨p,vs,rfl,bV,rl.mono s2⟩)
theorem jQ (h:PAd X sd es (ds.map R.val)) (hl:ds.length≤1000):PEd X sd (.List es pos) (.own ds):= .mk fun σ F H S=>
 (pe_lst vO).to ((h σ F H S).imp fun vs H1 ⟨F1,S1,s1,q1⟩=>by
  have rl:=q1.vals; refine ⟨by rw [rl.len]; exact dW (fH hl),fun p hp=> ?_⟩; obtain ⟨S2,fp,no⟩:=S1.layO (xs:=vs) hp
  exact ⟨_,S2,s1,p,vs,rfl,fp,bV,rl,no⟩)
theorem pd_op2 {op:Operator} {r2:R2} (ho:OpR X (binaryOp op) r2) (ha:PEd X sd a ra) (hb:PEd X sd b rb) (hk:ra.keeps)
  (h:∀ (σ:St) (F H:Hp) (v u:V) (Q:VK),StF X.K X.B₀ F H σ sd→ResOk X.K F H sd ra v→ResOk X.K F H sd rb u→(∀w F' H',StF X.K X.B₀ F' H' σ sd→Same F F'→ResOk X.K F' H' sd r w→Q w H')→r2 v u H Q):
  PEd X sd (.BinOp a op b pos) r:= .mk fun σ F H S=>
 (pe_op ho iJ iJ).to ((ha σ F H S).imp fun v H1 ⟨F1,S1,s1,q1⟩=>(hb σ F1 H1 S1).imp fun u H2 ⟨F2,S2,s2,q2⟩=>h σ F2 H2 v u _ S2 (q1.keep hk S2 s2) q2 fun w F' H' S' s' q'=>⟨F',S',(s1.trans s2).trans s',q'⟩)
theorem tR {op:CmpOp} {r2:R2} (ho:OpR X (compareOp op) r2) (ha:PEd X sd a ra) (hb:PEd X sd b rb) (hk:ra.keeps) (hm:behindInMarks op b=false) {k:Bool}
  (h:∀ (σ:St) (F H:Hp) (v u:V) (Q:VK),StF X.K X.B₀ F H σ sd→ResOk X.K F H sd ra v→ResOk X.K F H sd rb u→(∀F' H',StF X.K X.B₀ F' H' σ sd→Same F F'→Q (.bl k) H')→r2 v u H Q):
  PEd X sd (.Compare a [op] [b] pos) (.val (.bl k)):= .mk fun σ F H S=>
 (pe_cmpR ho iJ iJ hm).to ((ha σ F H S).imp fun v H1 ⟨F1,S1,s1,q1⟩=>(hb σ F1 H1 S1).imp fun u H2 ⟨F2,S2,s2,q2⟩=>h σ F2 H2 v u _ S2 (q1.keep hk S2 s2) q2 fun F' H' S' s'=>⟨F',S',(s1.trans s2).trans s',by simp only [ResOk,Rep]⟩)
theorem ptd_val {k:Bool} (h:PEd X sd e (.val (.bl k))) (he:∀whole,isTrue e X.env whole=(do let v ← whole; standAt e.pos; holding [v] (truthy v)):=by intro _; rfl):PTd X sd e k:= .mk fun σ F H S=>
 (pt_val iJ he).to ((h σ F H S).imp fun v H1 ⟨F1,S1,s1,q1⟩=>by
  simp only [ResOk,Rep] at q1
  exact ⟨k,q1,rfl,F1,S1,s1⟩)
theorem jP {op:CmpOp} {r2:R2} (ho:OpR X (compareOp op) r2) (ha:PEd X sd a ra) (hb:PEd X sd b rb) (hk:ra.keeps) (hm:behindInMarks op b=false) {k:Bool}
  (h:∀ (σ:St) (F H:Hp) (v u:V) (Q:VK),StF X.K X.B₀ F H σ sd→ResOk X.K F H sd ra v→ResOk X.K F H sd rb u→(∀F' H',StF X.K X.B₀ F' H' σ sd→Same F F'→Q (.bl k) H')→r2 v u H Q):
  PTd X sd (.Compare a [op] [b] pos) k:= .mk fun σ F H S=>
 (yQ ho iJ iJ hm).to ((ha σ F H S).imp fun v H1 ⟨F1,S1,s1,q1⟩=>(hb σ F1 H1 S1).imp fun u H2 ⟨F2,S2,s2,q2⟩=>h σ F2 H2 v u _ S2 (q1.keep hk S2 s2) q2 fun F' H' S' s'=>⟨k,rfl,rfl,F',S',(s1.trans s2).trans s'⟩)
end
section
variable {X:Cx} {sd:List Slot} {e a b c:Expr} {es:List Expr} {pos:Pos} {r ra rb:R} {d:D} {ds:List D} {st:Stmt} {rest:List Stmt} {E:jG}
theorem wS.imp {D D':sT} {σ:St} {H:Hp} (h:wS X st D σ H) (k1:∀σ H,D.nx σ H→D'.nx σ H) (k2:∀v H,D.rt v H→D'.rt v H) (k3:∀σ H,D.bk σ H→D'.bk σ H) (k4:∀σ H,D.ct σ H→D'.ct σ H):wS X st D' σ H:=
 fun pins s I=>thn (h pins s I) fun f s' q=>q.imp k1 k2 k3 k4
theorem pwd_and1 {k:Bool} (h:PTd X sd a k):PWd X sd (.BoolOp .And [a] pos) k:= .mk fun σ F H S=>(pw_and1 pt_w).to (h σ F H S)
theorem tN {k:Bool} (h:PTd X sd a k):PWd X sd (.BoolOp .Or [a] pos) k:= .mk fun σ F H S=>(pw_or1 pt_w).to (h σ F H S)
theorem pwd_and {k j:Bool} (h:PTd X sd a k) (h2:k=true→PWd X sd (.BoolOp .And (b::es) pos) j):PWd X sd (.BoolOp .And (a::b::es) pos) (k && j):= .mk fun σ F H S=>
 (pw_and pt_w pw_w).to ((h σ F H S).imp fun c H' ⟨e,F',S',s'⟩=>by
  subst e; cases c with
  | false=>exact iteF ⟨rfl,F',S',s'⟩
  | true=>exact iteT ((h2 rfl σ F' H' S').imp fun c2 H2 ⟨e2,F2,S2,s2⟩=>⟨by rw [e2]; rfl,F2,S2,s'.trans s2⟩))
theorem rS {k j:Bool} (h:PTd X sd a k) (h2:k=false→PWd X sd (.BoolOp .Or (b::es) pos) j):PWd X sd (.BoolOp .Or (a::b::es) pos) (k || j):= .mk fun σ F H S=>
 (pw_or pt_w pw_w).to ((h σ F H S).imp fun c H' ⟨e,F',S',s'⟩=>by
  subst e; cases c with
  | true=>exact iteT ⟨rfl,F',S',s'⟩
  | false=>exact iteF ((h2 rfl σ F' H' S').imp fun c2 H2 ⟨e2,F2,S2,s2⟩=>⟨by rw [e2]; rfl,F2,S2,s'.trans s2⟩))
theorem PWd.pt {k:Bool} (h:PWd X sd e k):PTd X sd e k:= .mk fun σ F H S=>(pw_w).pt.to (h σ F H S)
theorem pd_one {op} {r:R} (h:PEd X sd a r):PEd X sd (.BoolOp op [a] pos) r:= .mk fun σ F H S=>(pe_one iJ).to (h σ F H S)
theorem pd_or {k j:Bool} (h:PEd X sd a (.val (.bl k))) (h2:k=false→PEd X sd (.BoolOp .Or (b::es) pos) (.val (.bl j))):PEd X sd (.BoolOp .Or (a::b::es) pos) (.val (.bl (k || j))):= .mk fun σ F H S=>
 (pe_or iJ iJ).to ((h σ F H S).imp fun v H' ⟨F',S',s',q⟩=>by
  simp only [ResOk,Rep] at q; subst q; refine ⟨k,rfl, ?_⟩; cases k with
  | true=>exact iteT ⟨F',S',s',by simp only [ResOk,Rep,Bool.true_or]⟩
  | false=>exact iteF ((h2 rfl σ F' H' S').imp fun v2 H2 ⟨F2,S2,s2,q2⟩=>⟨F2,S2,s'.trans s2,by simpa only [Bool.false_or] using q2⟩))
theorem gI {op:Operator} {g:Int→Int→Int} {i j:Int} (ho:OpR X (binaryOp op) (rI0 fun i j=> .int (g i j))) (ha:PEd X sd a (.val (.int i))) (hb:PEd X sd b (.val (.int j))):PEd X sd (.BinOp a op b pos) (.val (.int (g i j))):=
 pd_op2 ho ha hb trivial fun σ F H v u Q S q1 q2 k=>by simp only [ResOk,Rep] at q1 q2; exact ⟨i,j,q1,q2,k _ F H S (Same.refl _) (by simp only [ResOk,Rep])⟩
theorem cX {op:Operator} {g:Int→Int→Int} {C:Int→Int→Prop} {i j:Int} (ho:OpR X (binaryOp op) (rI C fun i j=> .int (g i j))) (ha:PEd X sd a (.val (.int i))) (hb:PEd X sd b (.val (.int j))) (hc:C i j):PEd X sd (.BinOp a op b pos) (.val (.int (g i j))):=
 pd_op2 ho ha hb trivial fun σ F H v u Q S q1 q2 k=>by simp only [ResOk,Rep] at q1 q2; exact ⟨i,j,q1,q2,hc,k _ F H S (Same.refl _) (by simp only [ResOk,Rep])⟩
theorem jD:OpR X (binaryOp .Mult) (rI IntMulOk fun i j=> .int (i * j)):=opI fun _ _ _ _ _ _ _ hc q=>mul_int q hc
theorem vP:OpR X (binaryOp .FloorDiv) (rI (fun _ j=>0<j∧j.natAbs.log2<9000) fun i j=> .int (i / j)):=opI fun i j _ _ _ _ _ hc q=>by have h1:(0:Int)<j:=hc.1; exact floordiv_int (by omega) (by rw [Int.fdiv_eq_ediv_of_nonneg i (by omega)]; exact q) (.inl (PyProof.noPylong_of_log2 hc.2))
theorem nI {op:CmpOp} {g:Int→Int→Bool} {i j:Int} (ho:OpR X (compareOp op) (rI0 fun i j=> .bl (g i j))) (ha:PEd X sd a (.val (.int i))) (hb:PEd X sd b (.val (.int j))) (hm:behindInMarks op b=false):PTd X sd (.Compare a [op] [b] pos) (g i j):=
 jP ho ha hb trivial hm fun σ F H v u Q S q1 q2 k=>by simp only [ResOk,Rep] at q1 q2; exact ⟨i,j,q1,q2,k F H S (Same.refl _)⟩
noncomputable def flt:D→Option V
 | .non=>some .non
 | .bl b=>some (.bl b)
 | .int i=>some (.int i)
 | .str x=>some (.str x)
 | _=>none
theorem qI {K:aA} {H:Hp} {d:D} {x v:V} (h:flt d=some x) (q:Rep K H d v):v=x:=by
 cases d with
 | non=>simp only [Rep] at q; simp only [flt] at h; rw [q]; exact cI.inj h
 | bl=>simp only [Rep] at q; simp only [flt] at h; rw [q]; exact cI.inj h
 | int=>simp only [Rep] at q; simp only [flt] at h; rw [q]; exact cI.inj h
 | str=>simp only [Rep] at q; simp only [flt] at h; rw [q]; exact cI.inj h
 | tup=>simp only [flt] at h; cases h
 | lst=>simp only [flt] at h; cases h
 | dic=>simp only [flt] at h; cases h
 | dki=>simp only [flt] at h; cases h
 | any=>simp only [flt] at h; cases h
 | scr=>simp only [flt] at h; cases h
theorem cQ {d1 d2:D} {x y:V} {k:Bool} (ha:PEd X sd a (.val d1)) (hb:PEd X sd b (.val d2)) (h1:flt d1=some x) (h2:flt d2=some y) (hs:scal x y=true) (hk:decide (x=y)=k):PTd X sd (.Compare a [.Eq] [b] pos) k:=
 jP op_eq ha hb trivial (hV _) fun σ F H v u Q S q1 q2 kk=>by have e1:=qI h1 q1; have e2:=qI h2 q2; subst e1 e2; exact ⟨hs,by rw [hk]; exact kk F H S (Same.refl _)⟩
theorem ptd_neS {d1 d2:D} {x y:V} {k:Bool} (ha:PEd X sd a (.val d1)) (hb:PEd X sd b (.val d2)) (h1:flt d1=some x) (h2:flt d2=some y) (hs:scal x y=true) (hk:(!decide (x=y))=k):PTd X sd (.Compare a [.NotEq] [b] pos) k:=
 jP op_ne ha hb trivial (hV _) fun σ F H v u Q S q1 q2 kk=>by have e1:=qI h1 q1; have e2:=qI h2 q2; subst e1 e2; exact ⟨hs,by rw [hk]; exact kk F H S (Same.refl _)⟩
theorem ptd_eqI {i j:Int} (ha:PEd X sd a (.val (.int i))) (hb:PEd X sd b (.val (.int j))):PTd X sd (.Compare a [.Eq] [b] pos) (decide (i=j)):=cQ ha hb rfl rfl rfl (by rw [qR,pA])
theorem ptd_neI {i j:Int} (ha:PEd X sd a (.val (.int i))) (hb:PEd X sd b (.val (.int j))):PTd X sd (.Compare a [.NotEq] [b] pos) (!decide (i=j)):=ptd_neS ha hb rfl rfl rfl (by rw [qR,pA])
theorem cJ {n:Nat} (ha:PEd X sd a (.val (.tup ds))) (hb:PEd X sd b (.val (.int (n:Int)))) (hd:ds[n]? =some d) (hs:oX b):PEd X sd (.Subscript a b pos) (.val d):= .mk fun σ F H S=>
 (pe_ix ix_tup iJ iJ hs).to ((ha σ F H S).imp fun v H1 ⟨F1,S1,s1,q1⟩=>(hb σ F1 H1 S1).imp fun u H2 ⟨F2,S2,s2,q2⟩=>by
  have q1:=Rep.mono s2 q1; simp only [ResOk,Rep] at q1 q2; obtain ⟨p,xs,e1,hp,rl⟩:=q1; obtain ⟨w,hw,rw'⟩:=rl.get hd
  exact ⟨p,xs,(n:Int),w,e1,q2, .of (S2.sub _ _ hp),yF hw,F2,S2,s1.trans s2,rw'⟩)
theorem lY {n:Nat} (ha:PEd X sd a (.bor ds)) (hb:PEd X sd b (.val (.int (n:Int)))) (hd:ds[n]? =some d) (hs:oX b):PEd X sd (.Subscript a b pos) (.val d):= .mk fun σ F H S=>
 (pe_ix ix_list iJ iJ hs).to ((ha σ F H S).imp fun v H1 ⟨F1,S1,s1,q1⟩=>(hb σ F1 H1 S1).imp fun u H2 ⟨F2,S2,s2,q2⟩=>by
  obtain ⟨p,xs,e1,hp,rl,_⟩:=ResOk.keep (r:= .bor ds) trivial q1 S2 s2; simp only [ResOk,Rep] at q2; obtain ⟨w,hw,rw'⟩:=rl.get hd
  exact ⟨p,xs,(n:Int),w,e1,q2, .of hp,yF hw,F2,S2,s1.trans s2,rw'⟩)
theorem pd_ixS {ns:List Int} {n:Nat} {z:Int} (ha:PEd X sd a (.val (.scr ns))) (hb:PEd X sd b (.val (.int (n:Int)))) (hd:ns[n]? =some z) (hs:oX b):PEd X sd (.Subscript a b pos) (.val (.int z)):= .mk fun σ F H S=>
 (pe_ix ix_list iJ iJ hs).to ((ha σ F H S).imp fun v H1 ⟨F1,S1,s1,q1⟩=>(hb σ F1 H1 S1).imp fun u H2 ⟨F2,S2,s2,q2⟩=>by
  have q1:=Rep.mono (s2.trans S2.sub) q1; simp only [ResOk,Rep] at q1 q2; obtain ⟨p,e1,hp⟩:=q1
  exact ⟨p,_,(n:Int), .int z,e1,q2,hp,yF (by rw [bJ,hd]; rfl),F2,S2,s1.trans s2,by simp only [ResOk,Rep]⟩)
theorem oI {x:Str} {p:Pos} {id:String} {rr:List V→Hp→VK→Prop} {rs:List R} (hc:oB X (.builtin id) rr) (hg:Gl X x) (hm:X.mg x=none) (hv:bootBuiltins x=some (.builtin id)) (ha:PAd X sd (e::es) rs)
  (h:∀ (σ:St) (F H:Hp) (vs:List V) (Q:VK),StF X.K X.B₀ F H σ sd→RsOk X.K F H sd rs vs→(∀w F' H',StF X.K X.B₀ F' H' σ sd→Same F F'→ResOk X.K F' H' sd r w→Q w H')→rr vs H Q)
  (hn:x≠"__name__":=by decide) (hdb:(x==("__debug__":Str))=false:=by decide) (he:starEach (e::es) X.env=(false,eval e X.env)::starEach es X.env:=by rfl) (hpl:(backTo pos (starEach es X.env)).any (·.1)=false:=by rfl):
  PEd X sd (.Call (.Name x p) (e::es) [] pos) r:= .mk fun σ F H S=>
 (wC hc hg hm hv vO hn hdb he hpl).to ((ha σ F H S).imp fun vs H1 ⟨F1,S1,s1,q1⟩=>h σ F1 H1 vs _ S1 q1 fun w F' H' S' s' q'=>⟨F',S',s1.trans s',q'⟩)
theorem sC {x:Str} {p:Pos} {T:String} {rr:List V→Hp→VK→Prop} {rs:List R} (hc:oB X (.type T) rr) (hg:Gl X x) (hm:X.mg x=none) (hv:bootBuiltins x=some (.type T)) (ha:PAd X sd (e::es) rs)
  (h:∀ (σ:St) (F H:Hp) (vs:List V) (Q:VK),StF X.K X.B₀ F H σ sd→RsOk X.K F H sd rs vs→(∀w F' H',StF X.K X.B₀ F' H' σ sd→Same F F'→ResOk X.K F' H' sd r w→Q w H')→rr vs H Q)
  (hn:x≠"__name__":=by decide) (hdb:(x==("__debug__":Str))=false:=by decide) (he:starEach (e::es) X.env=(false,eval e X.env)::starEach es X.env:=by rfl) (hpl:(backTo pos (starEach es X.env)).any (·.1)=false:=by rfl):
  PEd X sd (.Call (.Name x p) (e::es) [] pos) r:= .mk fun σ F H S=>
 (pe_callTy hc hg hm hv vO hn hdb he hpl).to ((ha σ F H S).imp fun vs H1 ⟨F1,S1,s1,q1⟩=>h σ F1 H1 vs _ S1 q1 fun w F' H' S' s' q'=>⟨F',S',s1.trans s',q'⟩)
theorem pd_lenT {p:Pos} (hg:Gl X "len") (hm:X.mg "len"=none) (ha:PEd X sd e (.val (.tup ds))) (hst:starEach [e] X.env=(false,eval e X.env)::starEach [] X.env:=by rfl):PEd X sd (.Call (.Name "len" p) [e] [] pos) (.val (.int ds.length)):=
 oI (he:=hst) nJ hg hm PySem.boot_len (aD ha aP trivial hst) fun σ F H vs Q S q k=>by
  cases q with
  | cons q1 q2=>cases q2; simp only [ResOk,Rep] at q1; obtain ⟨p,xs,rfl,hp,rl⟩:=q1; refine ⟨p,xs,rfl, .inr (.of (S.sub _ _ hp)),k _ F H S (Same.refl _) ?_⟩; simp only [ResOk,Rep,rl.len]
theorem oY {p:Pos} (hg:Gl X "len") (hm:X.mg "len"=none) (ha:PEd X sd e (.bor ds)) (hst:starEach [e] X.env=(false,eval e X.env)::starEach [] X.env:=by rfl):PEd X sd (.Call (.Name "len" p) [e] [] pos) (.val (.int ds.length)):=
 oI (he:=hst) nJ hg hm PySem.boot_len (aD ha aP trivial hst) fun σ F H vs Q S q k=>by
  cases q with
  | cons q1 q2=>cases q2; obtain ⟨p,xs,rfl,hp,rl,_⟩:=q1; refine ⟨p,xs,rfl, .inl (.of hp),k _ F H S (Same.refl _) ?_⟩; simp only [ResOk,Rep,rl.len]
theorem pd_lenS {p:Pos} {ns:List Int} (hg:Gl X "len") (hm:X.mg "len"=none) (ha:PEd X sd e (.val (.scr ns))) (hst:starEach [e] X.env=(false,eval e X.env)::starEach [] X.env:=by rfl):PEd X sd (.Call (.Name "len" p) [e] [] pos) (.val (.int ns.length)):=
 oI (he:=hst) nJ hg hm PySem.boot_len (aD ha aP trivial hst) fun σ F H vs Q S q k=>by
  cases q with
  | cons q1 q2=>cases q2; have q1:=Rep.mono S.sub q1; simp only [Rep] at q1; obtain ⟨p,rfl,hp⟩:=q1; refine ⟨p,_,rfl, .inl hp,k _ F H S (Same.refl _) ?_⟩; simp only [ResOk,Rep,aC]
theorem cM (h:E.nx sd):PSd X sd [] E:= .mk fun σ F H S=>pss_nil.to ⟨sd,F,S,Same.refl _,h⟩
theorem aH (h:PSd1 X sd st {E with nx:=fun sd'=>PSd X sd' rest E}):PSd X sd (st::rest) E:= .mk fun σ F H S=>
 (pss_cons ps_w pss_w).to (wS.imp (h σ F H S) (fun σ' H' ⟨sd',F',S',s',q⟩=>(q σ' F' H' S').imp (fun σ2 H2 ⟨sd2,F2,S2,s2,q2⟩=>⟨sd2,F2,S2,s'.trans s2,q2⟩) (fun v H2 q2=>q2)
  (fun σ2 H2 ⟨sd2,F2,S2,s2,q2⟩=>⟨sd2,F2,S2,s'.trans s2,q2⟩) fun σ2 H2 ⟨sd2,F2,S2,s2,q2⟩=>⟨sd2,F2,S2,s'.trans s2,q2⟩) (fun v H q=>q) (fun σ H q=>q) fun σ H q=>q)
theorem bD (h:PSd1 X sd st E):PSd X sd [st] E:= .mk fun σ F H S=>(pss_one ps_w).to (h σ F H S)
theorem bQ (h:PEd X sd e r) (hr:match r with | .bor _=>False | _=>True) (hE:E.rt r):PSd1 X sd (.Return (some e) pos) E:= .mk fun σ F H S=>
 (ps_ret iJ).to ((h σ F H S).imp fun v H' ⟨F',S',s',q⟩=>⟨r,⟨F',S'.base,S'.sub,S'.smp,by
  cases r with
  | val d=>exact q
  | own ds=>obtain ⟨l,xs,a,b,c,d,_⟩:=q; exact ⟨l,xs,a,b,c,d,by simp [cC]⟩
  | pr d ls=>obtain ⟨t,l,xs,y,a,b,c,d,e,f,_⟩:=q; exact ⟨t,l,xs,y,a,b,c,d,e,f,by simp [cC]⟩
  | ox G=>obtain ⟨ls,nd,h,g⟩:=q; exact ⟨ls,nd,fun l hl=>⟨(h l hl).1,(h l hl).2.1,by simp [cC]⟩,g⟩
  | bor ds=>exact hr.elim⟩,hE⟩)
theorem oP (i:Nat) {x:Str} {p:Pos} {l:Addr} (hs:sd[i]? =some (.own l ds)) (h:PE X (.Name x p) (mG i)) (hE:E.rt (.own ds)):PSd1 X sd (.Return (some (.Name x p)) pos) E:= .mk fun σ F H S=>
 (ps_ret h).to (by
  obtain ⟨o,h1,h2,n,xs,q,rl⟩:=S.slots.get hs
  exact ⟨.ref l,by rw [h1,h2], .own ds,⟨F,S.base,S.sub,S.smp,l,xs,rfl,n,q,rl,by simp [cC]⟩,hE⟩)
theorem hW {k:Bool} {a o:List Stmt} (h:PTd X sd c k) (h1:k=true→PSd X sd a E) (h2:k=false→PSd X sd o E):PSd1 X sd (.If c a o pos) E:= .mk fun σ F H S=>
 (ps_if pt_w pss_w pss_w).to ((h σ F H S).imp fun k' H' ⟨e,F',S',s'⟩=>by
  have up:∀ {sts:List Stmt},PSd X sd sts E→wSs X sts (lft X F E) σ H':=fun h=>(h σ F' H' S').imp (fun σ2 H2 ⟨sd2,F2,S2,s2,q2⟩=>⟨sd2,F2,S2,s'.trans s2,q2⟩) (fun v H2 q2=>q2)
   (fun σ2 H2 ⟨sd2,F2,S2,s2,q2⟩=>⟨sd2,F2,S2,s'.trans s2,q2⟩) fun σ2 H2 ⟨sd2,F2,S2,s2,q2⟩=>⟨sd2,F2,S2,s'.trans s2,q2⟩
  subst e; cases k' with
  | true=>exact iteT (up (h1 rfl))
  | false=>exact iteF (up (h2 rfl)))
theorem kA:∀ {sd:List Slot} {z:Slot} (i:Nat),(cC sd).Nodup→(∀l,l∈iB z→l∉cC sd∨(∃z',sd[i]? =some z'∧l∈iB z'))→(hz:(iB z).Nodup:=by simp [iB])→(cC (sd.set i z)).Nodup∧∀l,l∈cC (sd.set i z)→l∈cC sd∨l∈iB z
 | [],z,i,h,_,_=>⟨h,fun l hl=> .inl hl⟩
 | z'::zs,z,0,h,hz,nz=>by
  show (iB z++cC zs).Nodup∧∀l,l∈iB z++cC zs→_; obtain ⟨n1,n2,n3⟩:=bM.mp (show (iB z'++cC zs).Nodup from h); refine ⟨bM.mpr ⟨nz,n2,fun a ha b hb e=> ?_⟩,fun l hl=> ?_⟩
  ·subst e
   rcases hz a ha with y | ⟨z2,e2,y⟩
   ·exact y (aN _ hb)
   ·have:z'=z2:=by simpa using e2
    subst this; exact n3 a y a hb rfl
  ·rcases bE.mp hl with y | y
   ·exact .inr y
   ·exact .inl (aN _ y)
 | z'::zs,z,i+1,h,hz,nz=>by
  show (iB z'++cC (zs.set i z)).Nodup∧∀l,l∈iB z'++cC (zs.set i z)→_; obtain ⟨n1,n2,n3⟩:=bM.mp (show (iB z'++cC zs).Nodup from h)
  obtain ⟨i1,i2⟩:=kA (sd:=zs) (z:=z) i n2 (fun l hl=>by
   rcases hz l hl with y | ⟨z2,e2,y⟩
   ·exact .inl fun q=>y (aN _ q)
   ·exact .inr ⟨z2,by simpa using e2,y⟩) nz
  refine ⟨bM.mpr ⟨n1,i1,fun a ha b hb e=> ?_⟩,fun l hl=> ?_⟩
  ·subst e
   rcases i2 a hb with y | y
   ·exact n3 a ha a y rfl
   ·rcases hz a y with y | ⟨z2,e2,y⟩
    ·exact y (cG _ ha)
    ·have m:a∈cC zs:=eA.mpr ⟨z2,bB (by simpa using e2),y⟩; exact n3 a ha a m rfl
  ·rcases bE.mp hl with y | y
   ·exact .inl (cG _ y)
   ·rcases i2 l y with y | y
    ·exact .inl (aN _ y)
    ·exact .inr y
theorem StF.set {K:aA} {H₀ F H:Hp} {σ:St} {v:V} (S:StF K H₀ F H σ sd) (i:Nat) (q:Rep K F d v):StF K H₀ F H (σ.set i (some v)) (sd.set i (.val d)):=
 ⟨S.base,S.sub,S.smp,S.slots.set (z:= .val d) ⟨v,rfl,q⟩ i,(kA i S.nd fun l e=>by simp [iB] at e).1⟩
theorem StF.setO {K:aA} {H₀ F H:Hp} {σ:St} {l:Addr} {xs:List V} (S:StF K H₀ F H σ sd) (i:Nat) (n:F l=none) (h:H l=some (.lst xs)) (q:RepL K F ds xs) (no:l∉cC sd):StF K H₀ F H (σ.set i (some (.ref l))) (sd.set i (.own l ds)):=
 ⟨S.base,S.sub,S.smp,S.slots.set (z:= .own l ds) ⟨rfl,n,xs,h,q⟩ i,(kA i S.nd fun l' e=>by rw [aI.mp e]; exact .inl no).1⟩
theorem cF (i:Nat) {x:Str} {p:Pos} (hN:X.N.Nodup) (hi:X.N[i]? =some x) (hx:Loc X.env.scope x) (h:PEd X sd e (.val d)) (hE:E.nx (sd.set i (.val d))) (hs:swapsWith e (some (.Name x p)) pos.line X.env=pure false:=by rfl)
  (hf:X.fn x=true∨X.env.scope.names.lookup x=some .local:=by first | exact .inl rfl | exact .inr rfl | assumption):PSd1 X sd (.Assign [.Name x p] e pos) E:= .mk fun σ F H S=>
 (sG hN hi hx iJ hs hf).to ((h σ F H S).imp fun v H' ⟨F',S',s',q⟩=>⟨_,F',S'.set i q,s',hE⟩)
theorem gA (i:Nat) {x:Str} {p:Pos} (hN:X.N.Nodup) (hi:X.N[i]? =some x) (hx:Loc X.env.scope x) (h:PEd X sd e (.own ds)) (hE:∀l,E.nx (sd.set i (.own l ds))) (hs:swapsWith e (some (.Name x p)) pos.line X.env=pure false:=by rfl)
  (hf:X.fn x=true∨X.env.scope.names.lookup x=some .local:=by first | exact .inl rfl | exact .inr rfl | assumption):PSd1 X sd (.Assign [.Name x p] e pos) E:= .mk fun σ F H S=>
 (sG hN hi hx iJ hs hf).to ((h σ F H S).imp fun v H' ⟨F',S',s',l,xs,e,n,q,rl,no⟩=>⟨_,F',by subst e; exact S'.setO i n q rl no,s',hE l⟩)
noncomputable def Le:List Slot→List Slot→Prop
 | [],[]=>True
 | x::xs,y::ys=>(y= .un∨x=y)∧Le xs ys
 | _,_=>False
theorem Le.refl:∀ (sd:List Slot),Le sd sd
 | []=>trivial
 | _::xs=>⟨.inr rfl,Le.refl xs⟩
theorem Le.own:∀ {sd sd':List Slot},Le sd sd'→(cC sd').Sublist (cC sd)
 | [],[],_=>List.Sublist.refl _
 | [],_::_,h=>h.elim
 | _::_,[],h=>h.elim
 | x::xs,y::ys,h=>by
  obtain ⟨h1,h2⟩:=h; have ih:=Le.own h2
  rcases h1 with rfl | rfl
  ·exact ih.trans (List.sublist_append_right _ _)
  ·exact List.Sublist.append (List.Sublist.refl _) ih
theorem Le.slots {K:aA} {F H:Hp}:∀ {sd sd':List Slot} {σ:St},Le sd sd'→SlotsOk K F H sd σ→SlotsOk K F H sd' σ
 | [],[],_,_,h=>h
 | [],_::_,_,h,_=>h.elim
 | _::_,[],_,h,_=>h.elim
 | x::xs,y::ys,σ,h,q=>by
  obtain ⟨h1,h2⟩:=h; obtain ⟨o,r,rfl,a,b⟩:=q; refine ⟨o,r,rfl, ?_,Le.slots h2 b⟩
  rcases h1 with rfl | rfl
  ·trivial
  ·exact a
theorem StF.le {K:aA} {H₀ F H:Hp} {σ:St} {sd':List Slot} (S:StF K H₀ F H σ sd) (h:Le sd sd'):StF K H₀ F H σ sd':=⟨S.base,S.sub,S.smp,h.slots S.slots,S.nd.sublist h.own⟩
theorem psd_le {sd':List Slot} {sts:List Stmt} (h:Le sd sd') (q:PSd X sd' sts E):PSd X sd sts E:= .mk fun σ F H S=>q σ F H (S.le h)
theorem lft_up {F₀ F:Hp} {E:jG} {σ:St} {H:Hp} {sts:List Stmt} (s:Same F₀ F) (h:wSs X sts (lft X F E) σ H):wSs X sts (lft X F₀ E) σ H:=
 h.imp (fun σ2 H2 ⟨sd2,F2,S2,s2,q2⟩=>⟨sd2,F2,S2,s.trans s2,q2⟩) (fun v H2 q2=>q2) (fun σ2 H2 ⟨sd2,F2,S2,s2,q2⟩=>⟨sd2,F2,S2,s.trans s2,q2⟩) fun σ2 H2 ⟨sd2,F2,S2,s2,q2⟩=>⟨sd2,F2,S2,s.trans s2,q2⟩
theorem gX:∀ (sd:List Slot) (i:Nat),Le sd (sd.set i .un)
 | [],_=>trivial
 | _::xs,0=>⟨.inl rfl,Le.refl xs⟩
 | _::xs,i+1=>⟨.inr rfl,gX xs i⟩
theorem iQ:∀ {sd:List Slot} {i:Nat} {l:Addr} {z:Slot},(cC sd).Nodup→sd[i]? =some z→l∈iB z→l∉cC (sd.set i .un)
 | [],_,_,_,_,e,_=>by simp at e
 | y::zs,0,l,z,h,e,hl=>by
  have:y=z:=by simpa using e
  subst this; obtain ⟨n1,n2,n3⟩:=bM.mp (show (iB y++cC zs).Nodup from h); exact fun hm=>n3 l hl l hm rfl
 | y::zs,i+1,l,z,h,e,hl=>by
  have e':zs[i]? =some z:=by simpa using e
  obtain ⟨n1,n2,n3⟩:=bM.mp (show (iB y++cC zs).Nodup from h); have ml:l∈cC zs:=eA.mpr ⟨_,bB e',hl⟩; intro hm
  rcases bE.mp (show l∈iB y++cC (zs.set i .un) from hm) with q | q
  ·exact n3 l q l ml rfl
  ·exact iQ n2 e' hl q
theorem oW {sd:List Slot} {i:Nat} {l:Addr} {ds:List D} (h:(cC sd).Nodup) (e:sd[i]? =some (.own l ds)):l∉cC (sd.set i .un):=iQ h e (cP l)
theorem lF {σ:St} {i:Nat} {o:Option V} (h:σ[i]? =some o):σ.set i o=σ:=by obtain ⟨hi,e⟩:=aK.mp h; rw [← e]; exact List.set_getElem_self hi
theorem jS (sd:List Slot) (i:Nat) (x y:Slot):(sd.set i x).set i y=sd.set i y:=by simp
theorem StF.wr {K:aA} {H₀ F H:Hp} {σ:St} {i:Nat} {l:Addr} {ds':List D} {xs':List V} (S:StF K H₀ F H σ sd) (hs:sd[i]? =some (.own l ds)) (rl:RepL K F ds' xs'):StF K H₀ F (upd H l (.lst xs')) σ (sd.set i (.own l ds')):=by
 obtain ⟨o,h1,h2,n,xs,q,_⟩:=S.slots.get hs; have no:=oW S.nd hs; have S0:=S.le (gX sd i); refine ⟨S.base,fun b u e=> ?_,fun b u e=> ?_, ?_, ?_⟩
 ·rw [bO (cB e n)]; exact S.sub _ _ e
 ·by_cases h:b=l
  ·subst h; rw [bV] at e; cases e; trivial
  ·rw [bO h] at e; exact S.smp _ _ e
 ·have q1:SlotsOk K F (upd H l (.lst xs')) (sd.set i .un) σ:=S0.slots.mono (Same.refl _) fun l' hl=>by
   obtain ⟨n',ys,q',_⟩:=S0.slots.owns hl; have hne:l'≠l:=fun z=>no (z▸hl)
   exact ⟨n',fun ys e=>by rw [bO hne]; exact e⟩
  have q2:=q1.set (z:= .own l ds') (o:=some (.ref l)) ⟨rfl,n,xs',bV,rl⟩ i; rw [jS,lF (by rw [h1,h2])] at q2; exact q2
 ·have:=kA (z:=Slot.own l ds') i S0.nd fun l' e=>by rw [aI.mp e]; exact .inl no
  rw [jS] at this; exact this.1
theorem iS (i:Nat) {l:Addr} {sts:List Stmt} (hs:sd[i]? =some (.own l ds)) (h:PSd X (sd.set i (.val (.lst ds))) sts E):PSd X sd sts E:= .mk fun σ F H S=>by obtain ⟨o,h1,h2,n,xs,q,rl⟩:=S.slots.get hs; have S0:=S.le (gX sd i); obtain ⟨S1,s1⟩:=S0.freeze q n (oW S.nd hs); have S2:=S1.set (d:= .lst ds) (v:= .ref l) i (by simp only [Rep]; exact ⟨l,xs,rfl,bV,rl.mono s1⟩); rw [jS,lF (by rw [h1,h2])] at S2; exact lft_up s1 (h σ _ H S2)
theorem pS (i:Nat) {x:Str} {p ap cp:Pos} {l:Addr} (hs:sd[i]? =some (.own l ds)) (hx:PE X (.Name x p) (mG i)) (h:PEd X sd e (.val d)) (hl:ds.length≤1000) (hE:E.nx (sd.set i (.own l (ds++[d]))))
  (hst:starEach (e::[]) X.env=(false,eval e X.env)::starEach [] X.env:=by rfl)
  (hm:PE X (.Call (.Attribute (.Name x p) "append" ap) [e] [] cp) (tBM X.K "list" tY (mG i) (pF (wE X e) tNil)):=by exact pe_bm nD wX wY xR (pv _) (iD iJ pa_nil))
  (hsw:swapsWith (.Call (.Attribute (.Name x p) "append" ap) [e] [] cp) none pos.line X.env=pure false:=by rfl):
  PSd1 X sd (.Expr (.Call (.Attribute (.Name x p) "append" ap) [e] [] cp) pos) E:= .mk fun σ F H S=>
 (uC hm hsw).to (by
  obtain ⟨o,h1,h2,n,xs,q,rl⟩:=S.slots.get hs; refine ⟨.ref l,by rw [h1,h2], .inl ⟨rfl,xs, .of q⟩,(h σ F H S).imp fun v H1 ⟨F1,S1,s1,q1⟩=> ?_⟩; obtain ⟨o',h1',h2',n',xs',q',rl'⟩:=S1.slots.get hs
  exact ⟨l,xs',v,rfl,rfl,q',by rw [rl'.len]; exact fH hl,_,F1,S1.wr hs (rl'.app (.one q1)),s1,hE⟩)
theorem vV (i:Nat) {x:Str} {p ap cp:Pos} {l:Addr} {ds2:List D} (hs:sd[i]? =some (.own l ds)) (hx:PE X (.Name x p) (mG i)) (h:PEd X sd e (.val (.lst ds2))) (hl:ds.length+ds2.length≤1000) (hE:E.nx (sd.set i (.own l (ds++ds2))))
  (hst:starEach (e::[]) X.env=(false,eval e X.env)::starEach [] X.env:=by rfl)
  (hm:PE X (.Call (.Attribute (.Name x p) "extend" ap) [e] [] cp) (tBM X.K "list" rExtend (mG i) (pF (wE X e) tNil)):=by exact pe_bm nD PySem.F.slot_list_extend PySem.F.type_list_extend mt_extend (pv _) (iD iJ pa_nil))
  (hsw:swapsWith (.Call (.Attribute (.Name x p) "extend" ap) [e] [] cp) none pos.line X.env=pure false:=by rfl):
  PSd1 X sd (.Expr (.Call (.Attribute (.Name x p) "extend" ap) [e] [] cp) pos) E:= .mk fun σ F H S=>
 (uC hm hsw).to (by
  obtain ⟨o,h1,h2,n,xs,q,rl⟩:=S.slots.get hs; refine ⟨.ref l,by rw [h1,h2], .inl ⟨rfl,xs, .of q⟩,(h σ F H S).imp fun v H1 ⟨F1,S1,s1,q1⟩=> ?_⟩; obtain ⟨o',h1',h2',n',xs',q',rl'⟩:=S1.slots.get hs; simp only [ResOk,Rep] at q1; obtain ⟨b,zs,rfl,hb,rb⟩:=q1
  exact ⟨l,b,xs',zs,rfl,rfl,q',S1.sub _ _ hb,by rw [rl'.len,rb.len]; exact dW (fH hl),_,F1,S1.wr hs (rl'.app rb),s1,hE⟩)
noncomputable def spC (K:aA) (n:Nat) (C:List D→R→Prop):Sp:=fun vs H Q _=>vs.length=n∧Smp H∧∃ds r,RepL K H ds vs∧C ds r∧∀v H',RetOk K H H' r v→Q v H'
noncomputable def spF (K:aA) (n:Nat) (C:List D→R→Prop):Sp:=fun vs H Q _=>vs.length=n∧Smp H∧∃F ds r,Same F H∧RepL K F ds vs∧C ds r∧∀v F2 F3 H',Same F F2→Same F2 F3→Same F3 H'→Same H H'→Smp H'→(∀b o,H b=some o→F b=none→F3 b=none)→ResOk K F2 F3 [] r v→Q v H'
noncomputable def qT (F H:Hp):Hp:=fun b=>match F b with
 | some o=>some o
 | none=>H b
theorem qY {F H:Hp}:Same F (qT F H):=fun b o e=>by unfold qT; rw [e]
theorem qD {F H:Hp} {b:Addr} (h:F b=none):qT F H b=H b:=by unfold qT; rw [h]
theorem FnOk.framed {P:Program} {w:World} {K:aA} {mg:Str→Option Value} {base:Heap} {k n:Nat} {f:Addr} {fd:FuncData} {ps:List Str} {C:List D→R→Prop} (G:FnOk P w K mg base CX0 k f fd ps (spC K n C)):FnOk P w K mg base CX0 k f fd ps (spF K n C):=by
 refine ⟨fun vs H Q E h=> ?_,fun A outer s H args us vs Q E hr e0 hb rv h=> ?_⟩
 ·obtain ⟨hl,sm,F,ds,r,sF,rl,c,_⟩:=h; exact G.len vs F (fun _ _=>True) E ⟨hl,sm.sub sF,ds,r,rl,c,fun _ _ _=>trivial⟩
 ·obtain ⟨hl,sm,F,ds,r,sF,rl,c,q⟩:=h; have e1:Env0 P w K mg base A outer s F:=⟨e0.frames,e0.mod,fun b o e=>⟨(e0.bs b o e).1,sF.free (e0.bs b o e).2⟩,e0.bsz,e0.funs,fun b hb=>sF.free (e0.frf b hb),fun b o e=>(e0.hok b o (sF b o e)).smp (sm b o (sF b o e)),e0.bare⟩; refine codeAny_mono (G.run A outer s F args us vs (fun v F3=>RetOk K F F3 r v) E hr e1 hb rv ⟨hl,sm.sub sF,ds,r,rl,c,fun v H' z=>z⟩) fun rr s' hrr=> ?_
  cases rr with
  | error e=>exact hrr
  | ok fl=>
   cases fl with
   | ret u=>
    obtain ⟨v,F3,ho,ha,un,hk,ru,F2,s1,s2,sm3,res⟩:=hrr
    have keepF:∀b o,H b=some o→F b=none→F3 b=none:=fun b o e n=>by
     have lt:=e0.hok.lt e; cases g:s.heap.get? b with
     | none=>
      exfalso; have ob:=e0.hok b o e; have z:=sm b o e; cases o with
      | lst xs=>obtain ⟨_,_,_,_,g'⟩:=ob; rw [g] at g'; cases g'
      | tup xs=>obtain ⟨_,_,_,oo,g',_⟩:=ob; rw [g] at g'; cases g'
      | dK kvs=>obtain ⟨_,_,_,_,oo,_,_,g',_⟩:=ob; rw [g] at g'; cases g'
      | frz o2 u2=>obtain ⟨g',_⟩:=ob; rw [g] at g'; cases g'
      | ext φ=>obtain ⟨_,⟨oo,g'⟩,_⟩:=ob; rw [g] at g'; cases g'
      | _=>exact z
     | some ob=>exact un.free b ob g n (by simp)
    have keepO:∀b o,H b=some o→F b=none→∀ob,s.heap.get? b=some ob→s'.heap.get? b=some ob:=fun b o e n ob g=>un.keep b ob g n (fun hb=>by have:=e0.frf b hb; rw [e] at this; cases this) (by simp)
    have sH:Same H (qT F3 H):=fun b o e=>by
     cases g:F b with
     | none=>rw [qD (keepF b o e g)]; exact e
     | some o'=>have:=sF b o' g; rw [e] at this; cases this; exact qY _ _ (s2 _ _ (s1 _ _ g))
    have smM:Smp (qT F3 H):=fun b o e=>by
     cases g:F3 b with
     | some o'=>have:=qY (H:=H) b o' g; rw [e] at this; cases this; exact sm3 b o g
     | none=>rw [qD g] at e; exact sm b o e
    refine ⟨v,qT F3 H,ho,ha,⟨fun b o g n hb hx=>un.keep b o g (sF.free n) hb hx,fun b o g n hb hx=>un.slot b o g (sF.free n) hb hx,fun b o g n hx=> ?_,un.there,fun b xs e=>sH _ _ e,fun b o u e=>sH _ _ e,fun b ps e=>⟨#[],by rw [sH _ _ e]; simp⟩⟩,fun b o e=> ?_,ru, ?_⟩
    ·rw [qD (un.free b o g (sF.free n) hx)]; exact n
    ·have z:=smM b o e; cases g:F3 b with
     | some o'=>have:=qY (H:=H) b o' g; rw [e] at this; cases this; exact (hk b o g).smp z
     | none=>
      rw [qD g] at e
      have n:F b=none:=by
       cases g2:F b with
       | none=>rfl
       | some o2=>rw [s2 _ _ (s1 _ _ g2)] at g; cases g
      have st:=(e0.hok b o e).smp (F:=fun _=>none) z
      have:ObjOk P w (fun _=>none) s'.heap b o:=st.stay (fun b2 u hb2 gg=>by
       rcases hb2 with rfl | hb2
       ·exact keepO _ o e n u gg
       ·cases hb2) (fun b2 hb2=>nomatch hb2) fun b2 xs hb2=>nomatch hb2
      exact this.smp z
    ·exact q v F2 F3 (qT F3 H) s1 s2 qY sH smM keepF res
   | _=>exact hrr
structure bK (P:Program) (w:World) (K:aA) (mg:Str→Option Value) (base:Heap) (x:Str) (k n:Nat) (C:List D→R→Prop):Prop where
 ex:∃ (f:Addr) (fd:FuncData) (ps:List Str),mg x=some (.ref f)∧cY K (.ref f)=true∧Binds K fd ps []∧FnOk P w K mg base CX0 k f fd ps (spC K n C)
theorem bR {x:Str} {p:Pos} {k n:Nat} {C:List D→R→Prop} (G:bK X.prog X.w X.K X.mg X.base x k n C) (hr:Room k X.A) (hg:Gl X x) (ha:PAd X sd (e::es) (ds.map R.val)) (hc:C ds r) (hb:match r with | .bor _=>False | _=>True) (hn:ds.length=n)
  (hdb:(x==("__debug__":Str))=false:=by decide) (he:starEach (e::es) X.env=(false,eval e X.env)::starEach es X.env:=by rfl) (hpl:(backTo pos (starEach es X.env)).any (·.1)=false:=by rfl):
  PEd X sd (.Call (.Name x p) (e::es) [] pos) r:= .mk fun σ F H S=>by
 obtain ⟨f,fd,ps,hm,hk,bd,G⟩:=G.ex; refine (yM (FnOk.framed G) hr hg hm hk bd .nil pass0 vO hdb he hpl).to ((ha σ F H S).imp fun vs H1 ⟨F1,S1,s1,q1⟩=> ?_); have rl:=q1.vals; refine ⟨by rw [cZ,rl.len]; exact hn,S1.smp,F1,ds,r,S1.sub,by rw [cZ]; exact rl,hc,fun v F2 F3 H' s2 s3 s4 sH sm kp res=> ?_⟩
 have no:∀l,l∈cC sd→F2 l=none∧F3 l=none:=fun l hl=>by obtain ⟨n1,xs,q,_⟩:=S1.slots.owns hl; have n3:=kp l _ q n1; exact ⟨s3.free n3,n3⟩
 refine ⟨F2,⟨fun b o e=>s2 _ _ (S1.base _ _ e),s3.trans s4,sm,S1.slots.mono s2 fun l hl=>⟨(no l hl).1,fun ys e=>sH _ _ e⟩,S1.nd⟩,s1.trans s2, ?_⟩; cases r with
 | val d=>exact res
 | own ds'=>obtain ⟨l,xs,e,n,q,rl',_⟩:=res; exact ⟨l,xs,e,n,s4 _ _ q,rl',fun hl=>by rw [(no l hl).2] at q; cases q⟩
 | pr d ls=>obtain ⟨t,l,xs,y,e,f,g,n,q,rl',_⟩:=res; exact ⟨t,l,xs,y,e,f,g,n,s4 _ _ q,rl',fun hl=>by rw [(no l hl).2] at q; cases q⟩
 | ox G=>obtain ⟨ls,nd,h,g⟩:=res; refine ⟨ls,nd,fun l hl=> ?_,fun F' H'' sF k=>g F' H'' sF fun l hl ob q=>k l hl ob (s4 _ _ q)⟩; obtain ⟨n,⟨ob,q,w⟩,_⟩:=h l hl; exact ⟨n,⟨ob,s4 _ _ q,w⟩,fun hm=>by rw [(no l hm).2] at q; cases q⟩
 | bor ds'=>exact hb.elim
noncomputable def R.toD:R→D
 | .val d=>d
 | .own ds=> .lst ds
 | .bor ds=> .lst ds
 | .pr d ls=> .tup [d, .lst ls]
 | .ox _=> .non
noncomputable def init (n:Nat) (ds:List D):List Slot:=ds.map Slot.val++fV (n - ds.length) .un
theorem slots_un {K:aA} {F H:Hp}:∀n:Nat,SlotsOk K F H (fV n .un) (fV n none)
 | 0=>rfl
 | n+1=>⟨none,fV n none,rfl,trivial,slots_un n⟩
theorem nN {K:aA} {F H:Hp} {m n:Nat}:∀ {ds:List D} {vs:List V},RepL K F ds vs→SlotsOk K F H (ds.map Slot.val++fV n .un) (vs.map some++fV n none)
 | [],vs,r=>by simp only [RepL] at r; subst r; exact slots_un n
 | d::ds,vs,r=>by obtain ⟨y,ys,rfl,a,rl⟩:=r.uncons; exact ⟨some y,_,rfl,⟨y,rfl,a⟩,nN (m:=m) rl⟩
theorem nM (n:Nat):∀ds:List D,cC (ds.map Slot.val++fV n .un)=[]
 | []=>by
  induction n with
  | zero=>rfl
  | succ n ih=>exact ih
 | _::ds=>nM n ds
theorem def_fn {P:Program} {w:World} {K:aA} {mg:Str→Option Value} {base:Heap} {x qual:Str} {st:Stmt} {f:Addr} {fd:FuncData} {N ps:List Str} {k:Nat} {C:List D→R→Prop} (F:Fun K x qual st f fd) (S:nQ N ps (bC st))
  (body:∀ (cdv:Value) (A:Around) (outer:List Env) (s:Shared) (H:Hp) (E:XK),Room k (A.deeper (envOfC qual (bC st) s.heap.objs.size f cdv))→∀ds r,ds.length=ps.length→C ds r→
   PSd (nL CX0 P w K mg base N qual (bC st) f cdv A outer s H E).nox (init N.length ds) (fG st) {nx:=fun _=>r= .val .non,rt:=fun r'=>r'=r}):FnOk P w K mg base CX0 (k+1) f fd ps (spC K ps.length C):=by
 refine F.ok S (fun vs H Q E h=>h.1) fun cdv A outer s H vs Q E hr h=> ?_
 obtain ⟨hl,sm,ds,r,rl,c,q⟩:=h; have hds:ds.length=ps.length:=by rw [← rl.len]; exact hl
 refine ⟨_,pss_w, ?_⟩; have hlen:N.length - vs.length=N.length - ds.length:=by rw [rl.len]
 have S0:StF K H H H (L2.start N vs) (init N.length ds):=by
  refine ⟨Same.refl _,Same.refl _,sm, ?_, ?_⟩
  ·unfold L2.start init; rw [hlen]; exact nN (m:=0) rl
  ·unfold init; rw [nM]; exact dG
 refine (body cdv A outer s H E hr ds r hds c (L2.start N vs) H H S0).imp ?_ ?_ (fun _ _ ⟨_,_,_,_,z⟩=>z) fun _ _ ⟨_,_,_,_,z⟩=>z
 ·rintro σ' H' ⟨sd',F',S',s',e⟩; have e:r= .val .non:=e; subst e; exact q .non H' ⟨F',S'.base,S'.sub,S'.smp,by simp only [ResOk,Rep]⟩
 ·rintro v H' ⟨r',ro,e⟩; have e:r'=r:=e; subst e; exact q v H' ro
theorem dU {P:Program} {w:World} {K:aA} {mg:Str→Option Value} {base:Heap} {x qual:Str} {st:Stmt} {f:Addr} {fd:FuncData} {N ps:List Str} {k:Nat} {C:List D→R→Prop} (F:Fun K x qual st f fd) (S:nQ N ps (bC st))
  (hm:mg x=some (.ref f)) (hb:∀ (kV doc pm:Value) (an:Option Addr) (cdv ct:Value) (us:List Value),us.length=ps.length→bindArgs (dL x qual (gU st) (fG st) (bC st) .none kV doc pm an cdv ct) ⟨us,[]⟩=pure (ps.zip us))
  (body:∀ (cdv:Value) (A:Around) (outer:List Env) (s:Shared) (H:Hp) (E:XK),Room k (A.deeper (envOfC qual (bC st) s.heap.objs.size f cdv))→∀ds r,ds.length=ps.length→C ds r→
   PSd (nL CX0 P w K mg base N qual (bC st) f cdv A outer s H E).nox (init N.length ds) (fG st) {nx:=fun _=>r= .val .non,rt:=fun r'=>r'=r}):bK P w K mg base x (k+1) ps.length C:=
 ⟨f,fd,ps,hm,F.kp,F.binds hb,def_fn F S body⟩
end
section
variable {X:Cx} {sd:List Slot} {e a b c tg iter:Expr} {es:List Expr} {pos:Pos} {r ra rb:R} {d:D} {ds:List D} {st:Stmt} {rest:List Stmt} {E:jG}
noncomputable def ItD (K:aA) (F₁:Hp) (P:Hp→Hp→Prop) (J:It) (ds:List D):Prop:=∀ (F H:Hp),Same F₁ F→Same F H→Smp H→P F H→∀i,(i<ds.length→J.go i H)∧(ds.length≤i→J.stop i H)∧
 ∀x H' d,ds[i]? =some d→J.yld i H x H'→∃F',Same F F'∧Rep K F' d x∧∀H₀ σ sd,StF K H₀ F H σ sd→StF K H₀ F' H' σ sd
noncomputable abbrev PT0:Hp→Hp→Prop:=fun _ _=>True
structure PId (X:Cx) (sd:List Slot) (P:Hp→Hp→Prop) (tg iter:Expr) (ds:List D):Prop where
 run:∀ (σ:St) (F H:Hp),StF X.K X.B₀ F H σ sd→
 wI X tg iter σ H fun J H1=>∃F1,StF X.K X.B₀ F1 H1 σ sd∧Same F F1∧ItD X.K F1 P J ds
instance {X:Cx} {sd:List Slot} {P:Hp→Hp→Prop} {tg iter:Expr} {ds:List D}:CoeFun (PId X sd P tg iter ds) (fun _=>∀ (σ:St) (F H:Hp),StF X.K X.B₀ F H σ sd→
 wI X tg iter σ H fun J H1=>∃F1,StF X.K X.B₀ F1 H1 σ sd∧Same F F1∧ItD X.K F1 P J ds):=⟨PId.run⟩
theorem _root_.L2.PI.to {wi:TI} {σ:St} {H:Hp} {R:It→Hp→Prop} (h:PI X tg iter wi) (q:wi σ H R):wI X tg iter σ H R:=fun pins s I=>h pins s σ H R I q
theorem eV (h:PEd X sd iter (.val (.lst ds))):PId X sd PT0 tg iter ds:= .mk fun σ F H S=>
 (pi_list iJ).to ((h σ F H S).imp fun v H1 ⟨F1,S1,s1,q1⟩=>by
  simp only [ResOk,Rep] at q1; obtain ⟨l,xs,rfl,hl,rl⟩:=q1; refine ⟨l,rfl,⟨xs, .of (S1.sub _ _ hl)⟩,F1,S1,s1,fun F' H' sF sH sm _ i=> ?_⟩; have hl':=sH _ _ (sF _ _ hl); refine ⟨fun hi=>⟨xs,xs[i]'(by rw [rl.len]; exact hi), .of hl',by simp [rl.len,hi]⟩,fun hi=>⟨xs, .of hl',by rw [rl.len]; exact hi⟩,fun x H2 d hd y=> ?_⟩; obtain ⟨rfl,y⟩:=y; obtain ⟨v,hv,rv⟩:=rl.get hd; have:=y xs (.of hl'); rw [hv] at this; cases this
  exact ⟨F',Same.refl _,rv.mono sF,fun _ _ _ S=>S⟩)
theorem kS (h:PEd X sd iter (.val (.tup ds))):PId X sd PT0 tg iter ds:= .mk fun σ F H S=>
 (pi_tup iJ).to ((h σ F H S).imp fun v H1 ⟨F1,S1,s1,q1⟩=>by
  simp only [ResOk,Rep] at q1; obtain ⟨l,xs,rfl,hl,rl⟩:=q1; refine ⟨l,rfl,⟨xs, .of (S1.sub _ _ hl)⟩,F1,S1,s1,fun F' H' sF sH sm _ i=> ?_⟩; have hl':=sH _ _ (sF _ _ hl); refine ⟨fun hi=>⟨xs,xs[i]'(by rw [rl.len]; exact hi), .of hl',by simp [rl.len,hi]⟩,fun hi=>⟨xs, .of hl',by rw [rl.len]; exact hi⟩,fun x H2 d hd y=> ?_⟩; obtain ⟨rfl,y⟩:=y; obtain ⟨v,hv,rv⟩:=rl.get hd; have:=y xs (.of hl'); rw [hv] at this; cases this
  exact ⟨F',Same.refl _,rv.mono sF,fun _ _ _ S=>S⟩)
noncomputable def gO (lo:Int) (n:Nat):List D:=(bH n).map fun (k:Nat)=>D.int (lo+(k:Int))
theorem hX (lo:Int) (n:Nat):(gO lo n).length=n:=by simp [gO]
theorem kF {lo:Int} {n i:Nat} {d:D} (h:(gO lo n)[i]? =some d):i<n∧d= .int (lo+(i:Int)):=by
 unfold gO at h; rw [bJ] at h
 by_cases hi:i<n
 ·rw [lP hi] at h; exact ⟨hi,(cI.inj h).symm⟩
 ·rw [gG (by simpa using hi)] at h; cases h
theorem itd_range {K:aA} {F₁:Hp} {lo:Int} {n:Nat}:ItD K F₁ PT0 (Itr lo n) (gO lo n):=fun F H _ _ _ _ i=>by refine ⟨fun hi=>by rw [hX] at hi; exact hi,fun hi=>by rw [hX] at hi; exact hi,fun x H' d hd y=> ?_⟩; obtain ⟨rfl,rfl⟩:=y; obtain ⟨_,rfl⟩:=kF hd; exact ⟨F,Same.refl _,by simp only [Rep],fun _ _ _ S=>S⟩
theorem kB {p:Pos} {n:Nat} (hg:Gl X "range") (hm:X.mg "range"=none) (h:PEd X sd a (.val (.int (n:Int)))) (hn:(n:Int)<2^62) (hs:starEach [a] X.env=[(false,eval a X.env)]:=by rfl):PId X sd PT0 tg (.Call (.Name "range" p) [a] [] pos) (gO 0 n):= .mk fun σ F H S=>
 (pi_range1 hg hm vO hs).to ((aD h aP trivial hs σ F H S).imp fun vs H1 ⟨F1,S1,s1,q1⟩=>by
  cases q1 with
  | cons q1 q2=>
   cases q2; simp only [ResOk,Rep] at q1; subst q1
   exact ⟨(n:Int),rfl,by omega,hn,F1,S1,s1,by rw [dO]; exact itd_range⟩)
structure PGd (X:Cx) (sd:List Slot) (tg:Expr) (d:D) (sd':List Slot):Prop where
 run:∀ (σ:St) (F H:Hp) (v:V),StF X.K X.B₀ F H σ sd→Rep X.K F d v→wG X tg v σ H fun σ' H'=>∃F',StF X.K X.B₀ F' H' σ' sd'∧Same F F'
instance {X:Cx} {sd:List Slot} {tg:Expr} {d:D} {sd':List Slot}:CoeFun (PGd X sd tg d sd') (fun _=>∀ (σ:St) (F H:Hp) (v:V),StF X.K X.B₀ F H σ sd→Rep X.K F d v→wG X tg v σ H fun σ' H'=>∃F',StF X.K X.B₀ F' H' σ' sd'∧Same F F'):=⟨PGd.run⟩
theorem _root_.L2.PG.to {t:TG} {v:V} {σ:St} {H:Hp} {Q:St→Hp→Prop} (h:PG X tg t) (q:t v σ H Q):wG X tg v σ H Q:=fun pins s u I r=>h pins s σ H v u Q I r q
theorem cU (j:Nat) (h:PG X tg (gName j)):PGd X sd tg d (sd.set j (.val d)):= .mk fun σ F H v S q=>h.to ⟨F,S.set j q,Same.refl _⟩
noncomputable def gNs:List Nat→TGs
 | []=>gNil
 | j::js=>gCons (gName j) (gNs js)
noncomputable def setAll:List Slot→List Nat→List D→List Slot
 | sd,j::js,d::ds=>setAll (sd.set j (.val d)) js ds
 | sd,_,_=>sd
theorem gNs_ok {K:aA} {H₀ F H:Hp} {Q:St→Hp→Prop}:∀ {js:List Nat} {ds:List D} {vs:List V} {σ:St} {sd:List Slot},js.length=ds.length→RepL K F ds vs→StF K H₀ F H σ sd→(∀σ',StF K H₀ F H σ' (setAll sd js ds)→Q σ' H)→gNs js vs σ H Q
 | [],[],vs,σ,sd,_,r,S,k=>by simp only [RepL] at r; exact ⟨r,k σ S⟩
 | j::js,d::ds,vs,σ,sd,hl,r,S,k=>by obtain ⟨y,ys,rfl,q,rl⟩:=r.uncons; exact ⟨y,ys,rfl,gNs_ok (by simpa using hl) rl (S.set j q) k⟩
 | [],_::_,_,_,_,hl,_,_,_=>by simp at hl
 | _::_,[],_,_,_,hl,_,_,_=>by simp at hl
theorem kU {k:Nat} {js:List Nat} (hc:X.calm=true) (h:PGs X es (gNs js)) (hl:js.length=ds.length) (hn:(assignEach es X.env).length=ds.length) (hst:(assignEach es X.env).findIdx? (·.1)=none:=by rfl):PGd X sd (.Tuple es k pos) (.tup ds) (setAll sd js ds):= .mk fun σ F H v S q=>
 (pg_tup hc h hn hst).to (by
  simp only [Rep] at q; obtain ⟨a,xs,rfl,ha,rl⟩:=q
  exact ⟨a,xs,rfl, .of (S.sub _ _ ha),rl.len,gNs_ok hl rl S fun σ' S'=>⟨F,S',Same.refl _⟩⟩)
theorem psd_asg {sd':List Slot} (h:PEd X sd e (.val d)) (hg:PGd X sd tg d sd') (hE:E.nx sd') (hs:swapsWithSole [tg] e pos.line X.env=pure false:=by rfl) (hw:swappedStores [tg] e X.env=pure none:=by rfl)
  (h1:(assignEach [tg] X.env).map (·.2)=[assign tg X.env]:=by rfl):PSd1 X sd (.Assign [tg] e pos) E:= .mk fun σ F H S=>
 (ps_asg iJ pg_w hs hw h1).to ((h σ F H S).imp fun v H1 ⟨F1,S1,s1,q1⟩=>(hg σ F1 H1 v S1 q1).imp fun σ' H' ⟨F',S',s'⟩=>⟨sd',F',S',s1.trans s',hE⟩)
theorem qZ {body:List Stmt} {P:Hp→Hp→Prop} (Sd Td:Nat→List Slot) (hi:PId X sd P tg iter ds) (h0:Le sd (Sd 0)) (hg:∀k d,ds[k]? =some d→PGd X (Sd k) tg d (Td k))
  (hb:∀k d,ds[k]? =some d→PSd X (Td k) body {E with nx:=fun sd'=>Le sd' (Sd (k+1)),ct:=fun sd'=>Le sd' (Sd (k+1)),bk:=E.nx}) (hE:E.nx (Sd ds.length)) (hP:∀k σ F H,StF X.K X.B₀ F H σ (Sd k)→P F H:=by intros; trivial)
  (hc:X.calm=true:=by rfl) (hp:PassesOwn (model X.prog X.w) X.A X.env X.xe:=by exact PassesOwn.never) (hs:∀x,foldedSetIterable iter X.env x=pure x:=by intro _; rfl):PSd1 X sd (.For tg iter body [] pos) E:= .mk fun σ F H S=>
 (ps_for hp hc pi_w pg_w pss_w hs).to (by
  intro pins s I; refine thn (hi σ F H S pins s I) fun v s1 h1=>thn h1 fun itv s2 h2=> ?_
  obtain ⟨it,fp,tn,J,H2,e,I2,T,st2,f2,F1,S1,s1',itd⟩:=h2; refine ⟨it,fp,tn,J,H2,e,I2,T,st2,f2, ?_⟩; refine ⟨fun i m σ' H'=>m=ds.length - i∧i≤ds.length∧∃F',StF X.K X.B₀ F' H' σ' (Sd i)∧Same F1 F',⟨ds.length,by simp,cD _,F1,S1.le h0,Same.refl _⟩, ?_⟩; rintro i m σ' H' ⟨rfl,hil,F',S',s'⟩; obtain ⟨g1,g2,g3⟩:=itd F' H' s' S'.sub S'.smp (hP _ _ _ _ S') i
  by_cases hlt:i<ds.length
  ·refine .inr ⟨g1 hlt,fun σ2 H2=>∃F2,StF X.K X.B₀ F2 H2 σ2 (Sd (i+1))∧Same F1 F2,fun σ2 H2 ⟨F2,S2,s2⟩=>⟨ds.length - (i+1),by omega,rfl,hlt,F2,S2,s2⟩,fun x H2 y=> ?_⟩; have hd:ds[i]? =some ds[i]:=by simp [hlt]
   obtain ⟨F2,s2,rp,up⟩:=g3 x H2 ds[i] hd y; refine (hg i _ hd σ' F2 H2 x (up _ _ _ S') rp).imp fun σ3 H3 ⟨F3,S3,s3⟩=> ?_
   have base:Same F1 F3:=(s'.trans s2).trans s3; refine (hb i _ hd σ3 F3 H3 S3).imp ?_ ?_ ?_ ?_
   ·rintro σ4 H4 ⟨sd4,F4,S4,s4,le⟩; exact ⟨F4,S4.le le,base.trans s4⟩
   ·exact fun v H4 q=>q
   ·rintro σ4 H4 ⟨sd4,F4,S4,s4,q⟩; exact ⟨sd4,F4,S4,(s1'.trans base).trans s4,q⟩
   ·rintro σ4 H4 ⟨sd4,F4,S4,s4,le⟩; exact ⟨F4,S4.le le,base.trans s4⟩
  ·have e:i=ds.length:=by omega
   subst e
   exact .inl ⟨g2 (aM _),Sd ds.length,F',S',s1'.trans s',hE⟩)
theorem Inv.retrack {pins:List (Addr × Obj)} {σ:St} {H F:Hp} {s s':Shared} (I0:Inv X pins σ H s):∀ (ls:List Addr),ls.Nodup→(∀l∈ls,F l=none∧(∃xs,H l=some xs∧Wr l xs)∧∀o,s.heap.get? l=some o→s'.heap.get? l=some o)→Inv X pins σ F s'→Inv X pins σ (fun b=>if b∈ls then H b else F b) s'
 | [],_,_,I=>by simpa using I
 | l::ls,nd,h,I=>by
  obtain ⟨nl,nd'⟩:=bT.mp nd; have J:=Inv.retrack I0 ls nd' (fun l' hl=>h l' (aF _ hl)) I; obtain ⟨n,⟨xs,hx,wx⟩,kp⟩:=h l aG
  have e:(fun b=>if b∈l::ls then H b else F b)=upd (fun b=>if b∈ls then H b else F b) l xs:=by
   funext b; unfold upd
   by_cases hb:b=l
   ·subst hb; simp [hx]
   ·simp [hb]
  rw [e]; have n':(fun b=>if b∈ls then H b else F b) l=none:=by simp [nl,n]
  have ob:=I0.hok l _ hx; clear e; generalize (fun b=>if b∈ls then H b else F b)=G at J n' ⊢; refine ⟨J.ok,J.os,J.bare,⟨J.base.keep,J.base.slot,fun b u g n0 hx0=> ?_,J.base.there,fun b ys g=> ?_,fun b u ys g=> ?_,fun b ps g=> ?_⟩,J.loc,J.cell, ?_,fun x c g=> ?_,fun p hp=> ?_,J.hok.track n' ?_,J.len⟩
  ·have hb:b≠l:=fun q=>by subst q; have:=I0.base.free b u g n0 hx0; rw [hx] at this; cases this
   rw [bO hb]; exact J.base.free b u g n0 hx0
  ·have q:=J.base.tups b ys g; rw [bO (cB q n')]; exact q
  ·have q:=J.base.frzs b u ys g; rw [bO (cB q n')]; exact q
  ·obtain ⟨m,q⟩:=J.base.tbls b ps g; exact ⟨m,by rw [bO (cB q n')]; exact q⟩
  ·rw [bO (fun q=>by have:=I0.free; rw [q,hx] at this; cases this)]; exact J.free
  ·rw [bO (fun q=>by have:=I0.freeC x c g; rw [q,hx] at this; cases this)]; exact J.freeC x c g
  ·obtain ⟨g,n0,rr⟩:=J.pin p hp; refine ⟨g, ?_,rr⟩; rw [bO (fun q=>by have:=(I0.pin p hp).2.1; rw [q,hx] at this; cases this)]; exact n0
  ·cases xs with
   | lst xs=>obtain ⟨z,its,nn,rv,ho⟩:=ob; exact ⟨z,its,nn,rv,kp _ ho⟩
   | dK kvs=>obtain ⟨z,y,vs,r,o,es,ep,e,c⟩:=ob; exact ⟨z,y,vs,r,o,es,ep,kp _ e,c⟩
   | ext φ=>obtain ⟨h1,⟨o1,h2⟩,h3⟩:=ob; exact ⟨h3 _ _ h1 kp,⟨o1,kp _ h2⟩,h3⟩
   | _=>exact wx.elim
theorem wr_obj {P:Program} {w:World} {H:Hp} {h:Heap} {l:Addr} {xs:HO} (wx:Wr l xs) (q:H l=some xs) (ok:ObjOk P w H h l xs):∃ys o,H l=some ys∧Wr l ys∧h.get? l=some o∧∀v,o.data≠ .cell v:=by
 cases xs with
 | lst xs=>obtain ⟨_,its,nn,_,ho⟩:=ok; exact ⟨_,_,q,trivial,ho,fun v z=>by cases z⟩
 | dK kvs=>obtain ⟨_,_,_,_,o,es,ep,e,_,d,_⟩:=ok; exact ⟨_,_,q,trivial,e,fun v z=>by rw [d] at z; cases z⟩
 | ext φ=>obtain ⟨o,e,n⟩:=id wx; subst e; exact ⟨_,o,q,wx,ok.1,n⟩
 | _=>exact wx.elim
theorem wE_frame {σ:St} {F H:Hp} (S:StF X.K X.B₀ F H σ sd) (hr:match r with | .bor _=>False | _=>True) (h:wE X e σ F fun v F3=>RetOk X.K F F3 r v):wE X e σ H fun v H'=>∃F',StF X.K X.B₀ F' H' σ sd∧Same F F'∧ResOk X.K F' H' sd r v:=fun pins s I=>by
 have I1:Inv X pins σ F s:=I.less S.sub S.base (S.smp.sub S.sub)
 have ob:∀l∈cC sd,∃xs o,H l=some xs∧Wr l xs∧s.heap.get? l=some o∧∀v,o.data≠ .cell v:=fun l hl=>by obtain ⟨n,xs,q,wx⟩:=S.slots.owns hl; exact wr_obj wx q (I.hok l _ q)
 have I2:Inv X (pins++nX (cC sd) s.heap) σ F s:=I1.pins_of fun p hp=>(bE.mp hp).elim (fun z=>I1.pin p (aN _ z)) fun z=>by
  obtain ⟨hb,g⟩:=rY z; obtain ⟨xs,o,q,_,ho,hc⟩:=ob p.1 hb; rw [g] at ho; cases ho; refine ⟨g,(S.slots.owns hb).1,fun y=> ?_,fun y=> ?_,hc⟩
  ·have:=I.free; rw [← y,q] at this; cases this
  ·obtain ⟨_,o',ho',_⟩:=I.ok.funs.mem y; have:=I.base.free p.1 o' ho' (I.ok.frf p.1 y) fun z=>I.ok.exfs p.1 z y
   rw [q] at this; cases this
 refine thn (h _ s I2) fun u s' ⟨v,F3,I3,rv,F2,s1,s2,sm3,res⟩=> ?_
 have kp:∀l∈cC sd,F3 l=none∧(∃xs,H l=some xs∧Wr l xs)∧∀o,s.heap.get? l=some o→s'.heap.get? l=some o:=fun l hl=>by obtain ⟨xs,o,q,wx,ho,_⟩:=ob l hl; have:=I3.pin (l,o) (aN _ (aN _ (jI hl ho))); exact ⟨this.2.1,⟨xs,q,wx⟩,fun o' g=>by rw [ho] at g; cases g; exact this.1⟩
 have I4:=Inv.retrack I (cC sd) S.nd kp I3.unpinned; refine ⟨v,_,I4,rv,F2,⟨fun b o g=>s1 _ _ (S.base _ _ g),fun b o g=> ?_,fun b o g=> ?_,S.slots.mono s1 fun l hl=>⟨s2.free (kp l hl).1,fun xs g=>by simpa [hl] using g⟩,S.nd⟩,s1, ?_⟩
 ·have g3:=s2 _ _ g; have:b∉cC sd:=fun hb=>by rw [(kp b hb).1] at g3; cases g3
  simp [this,g3]
 ·by_cases hb:b∈cC sd
  ·simp [hb] at g; exact S.smp _ _ g
  ·simp [hb] at g; exact sm3 _ _ g
 ·cases r with
  | val d=>exact res
  | own ds'=>
   obtain ⟨l,xs,e,n,q,rl',_⟩:=res; have:l∉cC sd:=fun hl=>by rw [(kp l hl).1] at q; cases q
   exact ⟨l,xs,e,n,by simp [this,q],rl',this⟩
  | pr d ls=>
   obtain ⟨t,l,xs,y,e,f,g,n,q,rl',_⟩:=res; have:l∉cC sd:=fun hl=>by rw [(kp l hl).1] at q; cases q
   exact ⟨t,l,xs,y,e,f,g,n,by simp [this,q],rl',this⟩
  | ox G=>
   obtain ⟨ls,nd,h,g⟩:=res
   have no:∀l∈ls,l∉cC sd:=fun l hl hm=>by obtain ⟨n,⟨ob,q,w⟩,_⟩:=h l hl; rw [(kp l hm).1] at q; cases q
   refine ⟨ls,nd,fun l hl=> ?_,fun F' H' sF k=>g F' H' sF fun l hl ob q=>k l hl ob (by simp [no l hl,q])⟩; obtain ⟨n,⟨ob,q,w⟩,_⟩:=h l hl; exact ⟨n,⟨ob,by simp [no l hl,q],w⟩,no l hl⟩
  | bor ds'=>exact hr.elim
noncomputable def capS:Option Slot→Slot
 | some (.val d)=> .val d
 | some (.ox [] G)=> .ox [] G
 | _=> .un
noncomputable def kG (cap:List (Option Nat)) (sd:List Slot):List Slot:=cap.map fun o=>match o with
 | none=> .un
 | some k=>capS sd[k]?
theorem tM {K:aA} {F H F' H':Hp} {σ:St} (h:SlotsOk K F H sd σ) (s:Same F F'):∀cap:List (Option Nat),SlotsOk K F' H' (kG cap sd) (sW cap σ)
 | []=>rfl
 | o::cap=>by
  refine ⟨_,_,rfl, ?_,tM h s cap⟩; cases o with
  | none=>trivial
  | some k=>
   show iK K F' H' (capS sd[k]?) _; cases q:sd[k]? with
   | none=>trivial
   | some z=>
    cases z with
    | un=>trivial
    | own l ds=>trivial
    | od l ks ds=>trivial
    | ox ls G=>
     cases ls with
     | cons a ls=>trivial
     | nil=>obtain ⟨o,h1,v,h2,h3,h4⟩:=h.get q; subst h2; exact ⟨v,by simp [h1],fun l hl=>(nomatch hl),fun F2 H2 s2 _=>h4 F2 H2 (s.trans s2) fun l hl=>(nomatch hl)⟩
    | gh d G=>trivial
    | val d=>obtain ⟨o,h1,v,h2,rv⟩:=h.get q; subst h2; exact ⟨v,by simp [h1],rv.mono s⟩
theorem nK:∀ (cap:List (Option Nat)) (sd:List Slot),cC (kG cap sd)=[]
 | [],_=>rfl
 | o::cap,sd=>by
  have ih:=nK cap sd; cases o with
  | none=>exact ih
  | some k=>
   show cC (capS sd[k]? ::kG cap sd)=[]; cases q:sd[k]? with
   | none=>exact ih
   | some z=>
    cases z with
    | ox ls G=>cases ls<;>exact ih
    | _=>exact ih
noncomputable def unS:Slot→Slot
 | .own _ _=> .un
 | .od _ _ _=> .un
 | .ox [] G=> .ox [] G
 | .ox _ _=> .un
 | z=>z
noncomputable def unO (sd:List Slot):List Slot:=sd.map unS
theorem iT:∀sd:List Slot,cC (unO sd)=[]
 | []=>rfl
 | .un::r=>iT r
 | .val _::r=>iT r
 | .gh _ _::r=>iT r
 | .own _ _::r=>iT r
 | .od _ _ _::r=>iT r
 | .ox [] _::r=>iT r
 | .ox (_::_) _::r=>iT r
theorem capD_unO (cap:List (Option Nat)) (sd:List Slot):kG cap (unO sd)=kG cap sd:=by
 unfold kG; refine bN fun o _=> ?_
 cases o with
 | none=>rfl
 | some k=>
  show capS (unO sd)[k]? =capS sd[k]?; unfold unO; rw [bJ]; cases q:sd[k]? with
  | none=>rfl
  | some z=>
   cases z with
   | ox ls G=>cases ls<;>rfl
   | _=>rfl
theorem rQ {K:aA} {F H H':Hp}:∀ {sd:List Slot} {σ:St},SlotsOk K F H sd σ→SlotsOk K F H' (unO sd) σ
 | [],_,h=>h
 | z::zs,σ,h=>by
  obtain ⟨o,r,rfl,a,b⟩:=h; refine ⟨o,r,rfl, ?_,rQ b⟩; cases z with
  | un=>trivial
  | val d=>exact a
  | gh d G=>exact a
  | od l ks ds=>trivial
  | ox ls G=>
   cases ls with
   | cons a ls=>trivial
   | nil=>obtain ⟨v,h2,h3,h4⟩:=a; exact ⟨v,h2,fun l hl=>(nomatch hl),fun F2 H2 s2 _=>h4 F2 H2 s2 fun l hl=>(nomatch hl)⟩
  | own l ds=>trivial
theorem kC {ds:List D} {i:Nat} {d:D} (p:D→Bool) (h:ds[i]? =some d):(ds.take (i+1)).filter p=(ds.take i).filter p++(if p d then [d] else []):=by rw [eQ,h,List.filter_append]; cases hp:p d<;>simp [hp]
theorem fU {elt:Expr} {ifs:List Expr} {scope:Scope} {N M:List Str} {cap:List (Option Nat)} {sc:Scope} {Tb:D→List Slot} (p:D→Bool) (f:D→D)
  (hi:PId X (unO sd) PT0 tg iter ds) (hl:ds.length≤1000)
  (hsc:X.env.scope=sc) (hcn:mU scope sc=true) (hM:X.N=M) (hcap:lJ N M scope sc cap=true) (hk:scope.kind= .function)
  (hg:∀cl C fp s H d,d∈ds→PGd (cxB X N scope cl C fp s H) (kG cap sd) tg d (Tb d))
  (hle:∀d,d∈ds→Le (Tb d) (kG cap sd))
  (ht:∀cl C fp s H d,d∈ds→(ifs=[]∧p d=true)∨∃c,ifs=[c]∧PTd (cxB X N scope cl C fp s H) (Tb d) c (p d))
  (he:∀cl C fp s H d,d∈ds→p d=true→PEd (cxB X N scope cl C fp s H) (Tb d) elt (.val (f d)))
  (hc:X.calm=true:=by rfl) (hs:∀x,foldedSetIterable iter X.env x=pure x:=by intro _; rfl):
  PEd X sd (.ListComp elt [⟨tg,iter,ifs,0⟩] scope pos) (.own ((ds.filter p).map f)):= .mk fun σ F H S=>by
 refine wE_frame S trivial ?_; have S0:StF X.K X.B₀ F F σ (unO sd):=⟨S.base,Same.refl _,S.smp.sub S.sub,rQ S.slots,by rw [iT]; exact dG⟩; intro pins s I
 have nm:∀y∈scope.names,(y.2=NameKind.free→sc.names.lookup y.1=some NameKind.cell)∧(y.2=NameKind.local→scope.names.lookup y.1=some NameKind.local):=fun y hy=>by have q:=fM.mp hcn y hy; simp only [bL,lE,mY,beq_eq_false_iff_ne,ne_eq,beq_iff_eq] at q; exact ⟨fun e=>q.1.1.resolve_left fun z=>z e,fun e=>q.2.resolve_left fun z=>z e⟩
 have fre:∀y∈scope.names,y.2= .free→∃c,X.env.cells.lookup y.1=some c:=fun y hy e=>I.ok.has y.1 (.inl (by show X.env.scope.names.lookup y.1=_; rw [hsc]; exact (nm y hy).1 e))
 rw [eval_ListComp]; refine wpAny_comprehension_free (use:=none) rfl hs (pO fre) hk (fun y hy=>(nm y hy).2) ?_; refine thn (hi σ F F S0 pins s I) fun v s1 h1=>thn h1 fun itv s2 h2=> ?_
 obtain ⟨it,fp,tn,J,H2,e,I2,T,st2,f2,F1,S1,s1',itd⟩:=h2; subst e
 have S1b:StF X.K H2 H2 H2 (sW cap σ) (kG cap sd):=⟨Same.refl _,Same.refl _,S1.smp,by
  have q:=tM (sd:=unO sd) (H':=H2) S1.slots S1.sub cap; rw [capD_unO] at q
  exact q,by rw [nK]; exact dG⟩
 refine uL (N:=N) (cap:=cap) (g:=fun v σ2 H3 Q=>∀cl C,wG (cxB X N scope cl C fp s2 H2) tg v σ2 H3 Q) (tt:=fun σ2 H3 Q=>∀cl C,wIfs (cxB X N scope cl C fp s2 H2) ifs σ2 H3 Q) (te:=fun σ2 H3 Q=>∀cl C,wE (cxB X N scope cl C fp s2 H2) elt σ2 H3 Q)
  hc hsc hcn (by rw [hM]; exact hcap) hk I2 T st2 f2 (fun cl C pi s3 σ3 H3 v u Q I3 ru q=>q cl C pi s3 u I3 ru) (fun cl C pi s3 σ3 H3 Q I3 q=>q cl C pi s3 I3) (fun cl C pi s3 σ3 H3 Q I3 q=>q cl C pi s3 I3)
  (fun i m ys σb H3=>m=ds.length - i∧i≤ds.length∧∃Fb,StF X.K H2 Fb H3 σb (kG cap sd)∧RepL X.K Fb (((ds.take i).filter p).map f) ys) ds.length
  ⟨by simp,cD _,H2,S1b,by simpa using RepL.nil⟩ _ ?_
 rintro i m ys σb H3 ⟨rfl,hil,Fb,Sb,rl⟩; have sF1:Same F1 Fb:=fun b o g=>Sb.base _ _ (S1.sub _ _ g)
 obtain ⟨g1,g2,g3⟩:=itd Fb H3 sF1 Sb.sub Sb.smp trivial i
 by_cases hlt:i<ds.length
 ·have hd:ds[i]? =some ds[i]:=by simp [hlt]
  have hm:ds[i]∈ds:=fO hlt
  have ylen:ys.length≤i:=by rw [rl.len,aC]; exact cE (iN _ _) (by simp; omega)
  refine .inr ⟨g1 hlt,fH (by omega),fun ys' σ' H'=>∃Fb',StF X.K H2 Fb' H' σ' (kG cap sd)∧RepL X.K Fb' (((ds.take (i+1)).filter p).map f) ys',fun ys' σ' H' ⟨Fb',Sb',rl'⟩=>⟨ds.length - (i+1),by omega,rfl,hlt,Fb',Sb',rl'⟩,fun x H4 y cl C=> ?_⟩; obtain ⟨F4,s4,rp,up⟩:=g3 x H4 ds[i] hd y; refine (hg cl C fp s2 H2 _ hm σb F4 H4 x (up _ _ _ Sb) rp).imp fun σ5 H5 ⟨F5,S5,s5⟩ cl2 C2=> ?_
  have rl5:=rl.mono (s4.trans s5)
  have fin:∀ (b:Bool) (H6:Hp) (F6:Hp),b=p ds[i]→StF X.K H2 F6 H6 σ5 (Tb ds[i])→Same F5 F6→if b=true then (∀cl C,wE (cxB X N scope cl C fp s2 H2) elt σ5 H6 fun v H5=>∃Fb',StF X.K H2 Fb' H5 σ5 (kG cap sd)∧RepL X.K Fb' (((ds.take (i+1)).filter p).map f) (ys++[v])) else ∃Fb',StF X.K H2 Fb' H6 σ5 (kG cap sd)∧RepL X.K Fb' (((ds.take (i+1)).filter p).map f) ys:=fun b H6 F6 eb S6 s6=>by
   rw [kC p hd,← eb]; cases b with
   | false=>exact iteF ⟨F6,S6.le (hle _ hm),by simpa using rl5.mono s6⟩
   | true=>
    refine iteT fun cl3 C3=>(he cl3 C3 fp s2 H2 _ hm eb.symm σ5 F6 H6 S6).imp fun v H7 ⟨F7,S7,s7,q7⟩=>⟨F7,S7.le (hle _ hm), ?_⟩
    simp only [if_true,bF,bA,eI]; exact ((rl5.mono s6).mono s7).app (.one q7)
  rcases ht cl2 C2 fp s2 H2 _ hm with ⟨e1,e2⟩ | ⟨c,e1,q⟩
  ·subst e1; exact uH (fin true H5 F5 e2.symm S5 (Same.refl _))
  ·subst e1; exact uJ ((q σ5 F5 H5 S5).imp fun b H6 ⟨eb,F6,S6,s6⟩=>fin b H6 F6 eb S6 s6)
 ·have e:i=ds.length:=by omega
  subst e; refine .inl ⟨g2 (aM _),fun D C s' hD hC hDC h0 hL hcc hpp hst ⟨m',ns'⟩ J'=>⟨m',ns',fun h' sb=> ?_⟩⟩; have J2:Inv X pins σ (upd H3 D (.lst ys)) {s' with heap:=h',toks:=s'.toks}:=J'.turned (it:=C) (fun b o hb g=>sb.extBut b o hb g) (by rw [bO (Ne.symm hDC)]; exact hC) hL (.inr h0) hcc hpp; refine ⟨.ref D,_,J2,rfl,Fb,fun b o g=>Sb.base _ _ (S1.sub _ _ (s1' _ _ g)),fun b o g=> ?_,fun b o g=> ?_,D,ys,rfl,Sb.sub.free hD,bV, ?_,by simp [cC]⟩
  ·have g3:=Sb.sub _ _ g; rw [bO (cB g3 hD)]; exact g3
  ·by_cases hb:b=D
   ·subst hb; rw [bV] at g; cases g; trivial
   ·rw [bO hb] at g; exact Sb.smp _ _ g
  ·simpa using rl
end
noncomputable def isT:D→Bool
 | .tup _=>true
 | _=>false
noncomputable def isL:D→Bool
 | .lst _=>true
 | .scr _=>true
 | _=>false
section
variable {X:Cx} {sd:List Slot} {e a b c:Expr} {es:List Expr} {pos:Pos} {r ra rb:R} {d:D} {ds:List D} {st:Stmt} {rest:List Stmt} {E:jG}
theorem PEd.cast {r':R} (h:PEd X sd e r) (q:r=r'):PEd X sd e r':=q▸h
theorem eR {k:Bool} {x o:List Stmt} (h:PTd X sd c k) (hk:k=false) (h2:PSd X sd o E):PSd1 X sd (.If c x o pos) E:=hW h (fun e=>by rw [hk] at e; cases e) fun _=>h2
theorem iA {k:Bool} {x o:List Stmt} (h:PTd X sd c k) (hk:k=true) (h2:PSd X sd x E):PSd1 X sd (.If c x o pos) E:=hW h (fun _=>h2) fun e=>by rw [hk] at e; cases e
theorem qO {i:Int} (ha:PEd X sd a (.bor ds)) (hb:PEd X sd b (.val (.int i))) (h0:0≤i) (hd:ds[i.toNat]? =some d) (hs:oX b):PEd X sd (.Subscript a b pos) (.val d):=by
 have e:i=(i.toNat:Int):=by omega
 rw [e] at hb; exact lY ha hb hd hs
theorem nT {i:Int} (ha:PEd X sd a (.val (.tup ds))) (hb:PEd X sd b (.val (.int i))) (h0:0≤i) (hd:ds[i.toNat]? =some d) (hs:oX b):PEd X sd (.Subscript a b pos) (.val d):=by
 have e:i=(i.toNat:Int):=by omega
 rw [e] at hb; exact cJ ha hb hd hs
end
theorem uN {i:Int} (h:i.natAbs<2^250):Builtin.Int.intBits i≤2^20:=by
 unfold Builtin.Int.intBits
 split
 ·exact cD _
 ·rename_i hz
  have hne:i.natAbs≠0:=by
   intro z; apply hz; have:i=0:=by omega
   subst this; rfl
  have:=(Nat.log2_lt hne).mpr h; have e:(250:Nat)+1≤2^20:=by decide
  omega
theorem jJ {i j:Int} (h1:i.natAbs<2^250) (h2:j.natAbs<2^250):IntMulOk i j:= .of_bits (uN h1) (uN h2)
noncomputable def most:Int:=1000 * 10^64
noncomputable def bX:List (Int × Int):=[(2,2),(1,1),(1,2),(2,1),(1,3),(3,1),(2,3),(3,2),(1,4),(4,1),(1,5),(5,1),(1,6),(6,1)]
noncomputable def cH (p:Int × Int):D:= .tup [.int p.1, .int p.2]
theorem ints_get {ns:List Int} {k:Nat} {d:D} (h:(ns.map D.int)[k]? =some d):k<ns.length∧d= .int (ns.getD k 0):=by
 rw [bJ] at h; cases e:ns[k]? with
 | none=>rw [e] at h; cases h
 | some z=>rw [e] at h; refine ⟨(aK.mp e).1, ?_⟩; rw [← cI.inj h,bS,e]; rfl
theorem getD_mem {α:Type} {l:List α} {i:Nat} {d:α} (h:i<l.length):l.getD i d∈l:=by
 have e:l.getD i d=l[i]:=by simp [bS,h]
 rw [e]; exact fO h
theorem smp_only {H:Hp} (h:Only H):Smp H:=fun b o e=>by
 rcases h b with z | ⟨o',xs,z⟩
 ·rw [z] at e; cases e
 ·rw [z] at e; cases e; trivial
mutual
noncomputable def deq:D→D→Bool
 | .non, .non=>true
 | .bl a, .bl b=>a==b
 | .bl a, .int b=>(if a then 1 else 0)==b
 | .int a, .bl b=>a==(if b then 1 else 0)
 | .int a, .int b=>a==b
 | .str a, .str b=>a==b
 | .tup a, .tup b=>iP a b
 | .lst a, .lst b=>iP a b
 | _,_=>false
noncomputable def iP:List D→List D→Bool
 | [],[]=>true
 | x::xs,y::ys=>deq x y && iP xs ys
 | _,_=>false
end
mutual
noncomputable def pl:D→Bool
 | .dic=>false
 | .dki _ _=>false
 | .any _=>false
 | .scr _=>false
 | .tup ds=>plL ds
 | .lst ds=>plL ds
 | _=>true
noncomputable def plL:List D→Bool
 | []=>true
 | d::ds=>pl d && plL ds
end
mutual
noncomputable def dep:D→Nat
 | .tup ds=>iM ds+1
 | .lst ds=>iM ds+1
 | _=>0
noncomputable def iM:List D→Nat
 | []=>0
 | d::ds=>max (dep d) (iM ds)
end
theorem yN:∀ {ds:List D} {i:Nat} {d:D},plL ds=true→ds[i]? =some d→pl d=true
 | [],i,d,_,e=>by simp at e
 | d'::ds,i,d,h,e=>by
  simp only [plL,bL] at h; cases i with
  | zero=>simp at e; subst e; exact h.1
  | succ i=>exact yN h.2 (by simpa using e)
theorem vL:∀ {ds:List D} {i:Nat} {d:D},ds[i]? =some d→dep d≤iM ds
 | [],i,d,e=>by simp at e
 | d'::ds,i,d,e=>by
  simp only [iM]; cases i with
  | zero=>simp at e; subst e; exact Nat.le_max_left _ _
  | succ i=>exact cE (vL (i:=i) (by simpa using e)) (Nat.le_max_right _ _)
theorem deqL_iff:∀ {xs ys:List D},iP xs ys=true↔xs.length=ys.length∧∀ (j:Nat) (x y:D),xs[j]? =some x→ys[j]? =some y→deq x y=true
 | [],[]=>by simp [iP]
 | [],y::ys=>by simp [iP]
 | x::xs,[]=>by simp [iP]
 | x::xs,y::ys=>by
  simp only [iP,bL,bU,deqL_iff (xs:=xs) (ys:=ys)]
  constructor
  ·rintro ⟨h1,h2,h3⟩; refine ⟨by omega,fun j a b ea eb=> ?_⟩; cases j with
   | zero=>simp at ea eb; subst ea eb; exact h1
   | succ j=>exact h3 j a b (by simpa using ea) (by simpa using eb)
  ·rintro ⟨h1,h2⟩; exact ⟨h2 0 x y rfl rfl,by omega,fun j a b ea eb=>h2 (j+1) a b (by simpa using ea) (by simpa using eb)⟩
mutual
theorem vX {K:aA} {H:Hp}:∀ {d1 d2:D} {v:V},pl d1=true→Rep K H d1 v→Rep K H d2 v→pl d2=true→deq d1 d2=true
 | .non,d2,v,_,r1,r2,_=>by simp only [Rep] at r1; subst r1; cases d2<;>simp_all [Rep,deq]
 | .bl b,d2,v,_,r1,r2,_=>by simp only [Rep] at r1; subst r1; cases d2<;>simp_all [Rep,deq]
 | .int b,d2,v,_,r1,r2,_=>by simp only [Rep] at r1; subst r1; cases d2<;>simp_all [Rep,deq]
 | .str b,d2,v,_,r1,r2,_=>by simp only [Rep] at r1; subst r1; cases d2<;>simp_all [Rep,deq]
 | .dic,_,_,h,_,_,_=>by simp [pl] at h
 | .dki _ _,_,_,h,_,_,_=>by simp [pl] at h
 | .any _,_,_,h,_,_,_=>by simp [pl] at h
 | .scr _,_,_,h,_,_,_=>by simp [pl] at h
 | .tup ds,d2,v,p1,r1,r2,p2=>by
  simp only [Rep] at r1; obtain ⟨a,xs,rfl,ha,rl⟩:=r1; cases d2 with
  | tup es=>simp only [Rep] at r2; obtain ⟨a',xs',e,ha',rl'⟩:=r2; cases e; rw [ha] at ha'; cases ha'; simp only [deq]; exact rP (by simpa [pl] using p1) rl rl' (by simpa [pl] using p2)
  | lst es=>simp only [Rep] at r2; obtain ⟨a',xs',e,ha',rl'⟩:=r2; cases e; rw [ha] at ha'; cases ha'
  | dic=>simp [pl] at p2
  | dki=>simp [pl] at p2
  | any=>simp [pl] at p2
  | scr=>simp [pl] at p2
  | _=>simp [Rep] at r2
 | .lst ds,d2,v,p1,r1,r2,p2=>by
  simp only [Rep] at r1; obtain ⟨a,xs,rfl,ha,rl⟩:=r1; cases d2 with
  | lst es=>simp only [Rep] at r2; obtain ⟨a',xs',e,ha',rl'⟩:=r2; cases e; rw [ha] at ha'; cases ha'; simp only [deq]; exact rP (by simpa [pl] using p1) rl rl' (by simpa [pl] using p2)
  | tup es=>simp only [Rep] at r2; obtain ⟨a',xs',e,ha',rl'⟩:=r2; cases e; rw [ha] at ha'; cases ha'
  | dic=>simp [pl] at p2
  | dki=>simp [pl] at p2
  | any=>simp [pl] at p2
  | scr=>simp [pl] at p2
  | _=>simp [Rep] at r2
theorem rP {K:aA} {H:Hp}:∀ {ds es:List D} {xs:List V},plL ds=true→RepL K H ds xs→RepL K H es xs→plL es=true→iP ds es=true
 | [],es,xs,_,r1,r2,_=>by
  simp only [RepL] at r1; subst r1; cases es with
  | nil=>rfl
  | cons e es=>obtain ⟨y,ys,z,_⟩:=r2.uncons; cases z
 | d::ds,es,xs,p1,r1,r2,p2=>by
  obtain ⟨y,ys,rfl,a,rl⟩:=r1.uncons; cases es with
  | nil=>simp only [RepL] at r2; cases r2
  | cons e es=>obtain ⟨y',ys',z,a',rl'⟩:=r2.uncons; cases z; simp only [plL,bL] at p1 p2; simp only [iP,bL]; exact ⟨vX p1.1 a a' p2.1,rP p1.2 rl rl' p2.2⟩
end
noncomputable def qJ:D→Bool
 | .non=>true
 | .bl _=>true
 | .int _=>true
 | .str _=>true
 | _=>false
theorem uB {K:aA} {H:Hp} {d:D} {v:V} (h:qJ d=true) (r:Rep K H d v):nZ v=true∧flt d=some v:=by cases d<;>simp_all [qJ,Rep,nZ,flt]
section
variable {P:Program} {w:World} {K:aA} {H:Hp} {s:Shared}
theorem iC (hok:HOk P w H s.heap) {ds:List D} {v:V} {u:Value} (r:Rep K H (.tup ds) v) (ru:RelV v u):∃a xs its,u= .ref a∧v= .ref a∧RepL K H ds xs∧Vals xs its∧s.heap.IsTuple a its.toArray:=by simp only [Rep] at r; obtain ⟨a,xs,rfl,ha,rl⟩:=r; cases ru; obtain ⟨_,its,rv,p⟩:=(show ObjOk P w H s.heap a (.tup xs) from hok a _ ha); exact ⟨a,xs,its,rfl,rfl,rl,rv,p.tup⟩
theorem kN (hok:HOk P w H s.heap) {ds:List D} {v:V} {u:Value} (r:Rep K H (.lst ds) v) (ru:RelV v u):∃a xs its,u= .ref a∧v= .ref a∧RepL K H ds xs∧Vals xs its∧s.heap.IsList a its.toArray:=by simp only [Rep] at r; obtain ⟨a,xs,rfl,ha,rl⟩:=r; cases ru; obtain ⟨_,its,n,rv,p⟩:=(show ObjOk P w H s.heap a (.lst xs) from hok a _ ha); exact ⟨a,xs,its,rfl,rfl,rl,rv,_,p,rfl,n,rfl⟩
noncomputable def dAt (ds es:List D) (j:Nat):Bool:=match ds[j]?,es[j]? with
 | some x,some y=>deq x y
 | _,_=>false
theorem qV (ds es:List D):((bH (min ds.length es.length)).all (dAt ds es) && ds.length==es.length)=iP ds es:=by
 rw [jM,deqL_iff,bL,fM,beq_iff_eq]
 constructor
 ·rintro ⟨h1,h2⟩; refine ⟨h2,fun j x y ex ey=> ?_⟩; have hj:j<ds.length:=(aK.mp ex).1; have:=h1 j (cN.mpr (by omega)); unfold dAt at this; rw [ex,ey] at this; exact this
 ·rintro ⟨h1,h2⟩; refine ⟨fun j hj=> ?_,h1⟩; have hj':=cN.mp hj; have e1:ds[j]? =some (ds[j]'(by omega)):=by simp
  have e2:es[j]? =some (es[j]'(by omega)):=by simp
  unfold dAt; rw [e1,e2]; exact h2 j _ _ e1 e2
theorem sL {ds es:List D} (h:ds.length=es.length):(bH ds.length).all (dAt ds es)=iP ds es:=by have:=qV ds es; rw [h] at this ⊢; simpa using this
theorem vU {ds es:List D} (h:ds.length≠es.length):iP ds es=false:=by
 cases e:iP ds es with
 | false=>rfl
 | true=>exact absurd (deqL_iff.mp e).1 h
mutual
theorem wH (hok:HOk P w H s.heap):∀ (d1:D) {d2:D} {v1 v2:V} {u1 u2:Value} {A:Around},pl d1=true→pl d2=true→Rep K H d1 v1→Rep K H d2 v2→RelV v1 u1→RelV v2 u2→A.units+dep d1<cLine→SeqAt.EqAt A s u1 u2 (deq d1 d2)
 | .tup ds,d2,v1,v2,u1,u2,A,p1,p2,r1,r2,ru1,ru2,hu=>by
  have hu':A.units<cLine:=by omega
  obtain ⟨a,xs,its,rfl,rfl,rl,rv,ht⟩:=iC hok r1 ru1; cases d2 with
  | non=>simp only [Rep] at r2; subst r2; cases ru2; exact SeqAt.EqAt.tuple_none ht hu'
  | bl b=>simp only [Rep] at r2; subst r2; cases ru2; exact SeqAt.EqAt.tuple_bool b ht hu'
  | int b=>simp only [Rep] at r2; subst r2; obtain ⟨t,rfl⟩:=ru2; exact SeqAt.EqAt.tuple_int b t ht hu'
  | str b=>simp only [Rep] at r2; subst r2; obtain ⟨t,rfl⟩:=ru2; exact SeqAt.EqAt.tuple_str b t ht hu'
  | dic=>simp [pl] at p2
  | dki=>simp [pl] at p2
  | any=>simp [pl] at p2
  | scr=>simp [pl] at p2
  | lst es=>obtain ⟨b,ys,jts,rfl,rfl,rl2,rv2,hl2⟩:=kN hok r2 ru2; exact SeqAt.EqAt.tuple_list ht hl2 hu'
  | tup es=>
   obtain ⟨b,ys,jts,rfl,e2,rl2,rv2,ht2⟩:=iC hok r2 ru2
   by_cases hab:a=b
   ·subst hab; have:=vX p1 r1 (e2▸r2) p2; rw [this]; exact SeqAt.EqAt.same _
   ·simp only [deq]; rw [← qV]; have l1:its.toArray.size=ds.length:=by rw [aS,← rv.length,rl.len]
    have l2:jts.toArray.size=es.length:=by rw [aS,← rv2.length,rl2.len]
    rw [← l1,← l2]; simp only [pl] at p1 p2; simp only [dep] at hu; refine .of_refs hab (.tuples ht ht2 hu' fun j h1 h2=> ?_); exact pZ hok ds p1 p2 rl rl2 rv rv2 (A:=A.in1) (by show A.units+1+_<cLine; omega) (by simp) (by simp)
 | .lst ds,d2,v1,v2,u1,u2,A,p1,p2,r1,r2,ru1,ru2,hu=>by
  have hu':A.units<cLine:=by omega
  obtain ⟨a,xs,its,rfl,rfl,rl,rv,ht⟩:=kN hok r1 ru1; cases d2 with
  | non=>simp only [Rep] at r2; subst r2; cases ru2; exact SeqAt.EqAt.list_none ht hu'
  | bl b=>simp only [Rep] at r2; subst r2; cases ru2; exact SeqAt.EqAt.list_bool b ht hu'
  | int b=>simp only [Rep] at r2; subst r2; obtain ⟨t,rfl⟩:=ru2; exact SeqAt.EqAt.list_int b t ht hu'
  | str b=>simp only [Rep] at r2; subst r2; obtain ⟨t,rfl⟩:=ru2; exact SeqAt.EqAt.list_str b t ht hu'
  | dic=>simp [pl] at p2
  | dki=>simp [pl] at p2
  | any=>simp [pl] at p2
  | scr=>simp [pl] at p2
  | tup es=>obtain ⟨b,ys,jts,rfl,rfl,rl2,rv2,hl2⟩:=iC hok r2 ru2; exact SeqAt.EqAt.list_tuple ht hl2 hu'
  | lst es=>
   obtain ⟨b,ys,jts,rfl,e2,rl2,rv2,ht2⟩:=kN hok r2 ru2
   by_cases hab:a=b
   ·subst hab; have:=vX p1 r1 (e2▸r2) p2; rw [this]; exact SeqAt.EqAt.same _
   ·simp only [deq]; have l1:its.toArray.size=ds.length:=by rw [aS,← rv.length,rl.len]
    have l2:jts.toArray.size=es.length:=by rw [aS,← rv2.length,rl2.len]
    simp only [pl] at p1 p2; simp only [dep] at hu
    by_cases hl:ds.length=es.length
    ·rw [← sL hl,← l1]; refine .of_refs hab (.lists ht ht2 (by rw [l1,l2,hl]) hu' fun j h1 h2=> ?_); exact pZ hok ds p1 p2 rl rl2 rv rv2 (A:=A.in1) (by show A.units+1+_<cLine; omega) (by simp) (by simp)
    ·rw [vU hl]; exact .of_refs hab (.lists_lengths ht ht2 (by rw [l1,l2]; simpa using hl) hu')
 | .dic,_,_,_,_,_,_,p1,_,_,_,_,_,_=>by simp [pl] at p1
 | .dki _ _,_,_,_,_,_,_,p1,_,_,_,_,_,_=>by simp [pl] at p1
 | .any _,_,_,_,_,_,_,p1,_,_,_,_,_,_=>by simp [pl] at p1
 | .scr _,_,_,_,_,_,_,p1,_,_,_,_,_,_=>by simp [pl] at p1
 | .non,d2,v1,v2,u1,u2,A,p1,p2,r1,r2,ru1,ru2,hu=>by
  have hu':A.units<cLine:=by omega
  simp only [Rep] at r1; subst r1; cases hf:qJ d2 with
  | true=>obtain ⟨h1,h2⟩:=uB hf r2; have:=uS (A:=A) (s:=s) ru1 ru2 rfl h1; cases d2<;>simp_all [qJ,flt,Rep,deq,eqV]
  | false=>
   cases ru1; cases d2 with
   | tup es=>obtain ⟨b,ys,jts,rfl,e2,rl2,rv2,ht2⟩:=iC hok r2 ru2; exact SeqAt.EqAt.none_tuple ht2 hu'
   | lst es=>obtain ⟨b,ys,jts,rfl,e2,rl2,rv2,ht2⟩:=kN hok r2 ru2; exact SeqAt.EqAt.none_list ht2 hu'
   | dic=>simp [pl] at p2
   | dki=>simp [pl] at p2
   | any=>simp [pl] at p2
   | scr=>simp [pl] at p2
   | _=>simp [qJ] at hf
 | .bl q,d2,v1,v2,u1,u2,A,p1,p2,r1,r2,ru1,ru2,hu=>by
  have hu':A.units<cLine:=by omega
  simp only [Rep] at r1; subst r1; cases hf:qJ d2 with
  | true=>obtain ⟨h1,h2⟩:=uB hf r2; have:=uS (A:=A) (s:=s) ru1 ru2 rfl h1; cases d2<;>simp_all [qJ,flt,Rep,deq,eqV]
  | false=>
   cases ru1; cases d2 with
   | tup es=>obtain ⟨b,ys,jts,rfl,e2,rl2,rv2,ht2⟩:=iC hok r2 ru2; exact SeqAt.EqAt.bool_tuple q ht2 hu'
   | lst es=>obtain ⟨b,ys,jts,rfl,e2,rl2,rv2,ht2⟩:=kN hok r2 ru2; exact SeqAt.EqAt.bool_list q ht2 hu'
   | dic=>simp [pl] at p2
   | dki=>simp [pl] at p2
   | any=>simp [pl] at p2
   | scr=>simp [pl] at p2
   | _=>simp [qJ] at hf
 | .int q,d2,v1,v2,u1,u2,A,p1,p2,r1,r2,ru1,ru2,hu=>by
  have hu':A.units<cLine:=by omega
  simp only [Rep] at r1; subst r1; cases hf:qJ d2 with
  | true=>obtain ⟨h1,h2⟩:=uB hf r2; have:=uS (A:=A) (s:=s) ru1 ru2 rfl h1; cases d2<;>simp_all [qJ,flt,Rep,deq,eqV]
  | false=>
   obtain ⟨t,rfl⟩:=ru1; cases d2 with
   | tup es=>obtain ⟨b,ys,jts,rfl,e2,rl2,rv2,ht2⟩:=iC hok r2 ru2; exact SeqAt.EqAt.int_tuple q t ht2 hu'
   | lst es=>obtain ⟨b,ys,jts,rfl,e2,rl2,rv2,ht2⟩:=kN hok r2 ru2; exact SeqAt.EqAt.int_list q t ht2 hu'
   | dic=>simp [pl] at p2
   | dki=>simp [pl] at p2
   | any=>simp [pl] at p2
   | scr=>simp [pl] at p2
   | _=>simp [qJ] at hf
 | .str q,d2,v1,v2,u1,u2,A,p1,p2,r1,r2,ru1,ru2,hu=>by
  have hu':A.units<cLine:=by omega
  simp only [Rep] at r1; subst r1; cases hf:qJ d2 with
  | true=>obtain ⟨h1,h2⟩:=uB hf r2; have:=uS (A:=A) (s:=s) ru1 ru2 rfl h1; cases d2<;>simp_all [qJ,flt,Rep,deq,eqV]
  | false=>
   obtain ⟨t,rfl⟩:=ru1; cases d2 with
   | tup es=>obtain ⟨b,ys,jts,rfl,e2,rl2,rv2,ht2⟩:=iC hok r2 ru2; exact SeqAt.EqAt.str_tuple q t ht2 hu'
   | lst es=>obtain ⟨b,ys,jts,rfl,e2,rl2,rv2,ht2⟩:=kN hok r2 ru2; exact SeqAt.EqAt.str_list q t ht2 hu'
   | dic=>simp [pl] at p2
   | dki=>simp [pl] at p2
   | any=>simp [pl] at p2
   | scr=>simp [pl] at p2
   | _=>simp [qJ] at hf
theorem pZ (hok:HOk P w H s.heap):∀ (ds:List D) {es:List D} {xs ys:List V} {its jts:List Value} {j:Nat} {x y:Value} {A:Around},plL ds=true→plL es=true→RepL K H ds xs→RepL K H es ys→Vals xs its→Vals ys jts→A.units+iM ds<cLine→its[j]? =some x→jts[j]? =some y→SeqAt.EqAt A s x y (dAt ds es j)
 | [],es,xs,ys,its,jts,j,x,y,A,_,_,r1,_,v1,_,_,e1,_=>by simp only [RepL] at r1; subst r1; cases v1; simp at e1
 | d::ds,es,xs,ys,its,jts,j,x,y,A,p1,p2,r1,r2,v1,v2,hu,e1,e2=>by
  obtain ⟨a,as,rfl,ra,rl⟩:=r1.uncons; cases v1 with
  | cons va vas=>
   cases es with
   | nil=>simp only [RepL] at r2; subst r2; cases v2; simp at e2
   | cons e es=>
    obtain ⟨b,bs,rfl,rb,rl2⟩:=r2.uncons; cases v2 with
    | cons vb vbs=>
     simp only [plL,bL] at p1 p2; simp only [iM] at hu; cases j with
     | zero=>simp at e1 e2; subst e1 e2; exact wH hok d p1.1 p2.1 ra rb va vb (by omega)
     | succ j=>exact pZ hok ds p1.2 p2.2 rl rl2 vas vbs (by omega) (by simpa using e1) (by simpa using e2)
end
end
section
variable {X:Cx} {sd:List Slot} {e a b c:Expr} {es:List Expr} {pos:Pos} {r ra rb:R} {d:D} {ds:List D} {st:Stmt} {rest:List Stmt} {E:jG}
theorem rc_D {pins:List (Addr × Obj)} {σ:St} {H:Hp} {s:Shared} {K:aA} {d1 d2:D} {v u:V} {x y:Value} {Q:Value→Shared→Prop} (I:Inv X pins σ H s) (hs:(isT d1=true∧isT d2=true)∨(isL d1=true∧isL d2=true)) (p1:pl d1=true) (p2:pl d2=true) (r1:Rep K H d1 v) (r2:Rep K H d2 u) (rx:RelV v x) (ry:RelV u y)
  (hu:X.A.units+dep d1+1<cLine) (q:Q (.bool (deq d1 d2)) s):wpAny (model X.prog X.w) X.A (compareOp .Eq x y) Q X.xe s:=by
 have hu':X.A.units<cLine:=by omega
 rcases hs with ⟨t1,t2⟩ | ⟨t1,t2⟩
 ·cases d1<;>first | (simp [isT] at t1; done) | skip
  cases d2<;>first | (simp [isT] at t2; done) | skip
  rename_i ds es; obtain ⟨a,xs,its,rfl,rfl,rl,rv,ht⟩:=iC I.hok r1 rx; obtain ⟨b,ys,jts,rfl,rfl,rl2,rv2,ht2⟩:=iC I.hok r2 ry; have l1:its.toArray.size=ds.length:=by rw [aS,← rv.length,rl.len]
  have l2:jts.toArray.size=es.length:=by rw [aS,← rv2.length,rl2.len]
  simp only [pl] at p1 p2; simp only [dep] at hu; simp only [deq] at q; rw [← qV,← l1,← l2] at q; exact SeqAt.eq_tupleAt ht ht2 hu' (fun j h1 h2=>pZ I.hok ds p1 p2 rl rl2 rv rv2 (A:=X.A.in1) (by show X.A.units+1+_<cLine; omega) (by simp) (by simp)) q
 ·cases d1<;>first | (simp [isL] at t1; done) | (simp [pl] at p1; done) | skip
  cases d2<;>first | (simp [isL] at t2; done) | (simp [pl] at p2; done) | skip
  rename_i ds es; obtain ⟨a,xs,its,rfl,rfl,rl,rv,ht⟩:=kN I.hok r1 rx; obtain ⟨b,ys,jts,rfl,rfl,rl2,rv2,ht2⟩:=kN I.hok r2 ry; have l1:its.toArray.size=ds.length:=by rw [aS,← rv.length,rl.len]
  have l2:jts.toArray.size=es.length:=by rw [aS,← rv2.length,rl2.len]
  simp only [pl] at p1 p2; simp only [dep] at hu; simp only [deq] at q
  by_cases hl:ds.length=es.length
  ·rw [← sL hl,← l1] at q; exact SeqAt.eq_listAt ht ht2 (by rw [l1,l2,hl]) hu' (fun j h1 h2=>pZ I.hok ds p1 p2 rl rl2 rv rv2 (A:=X.A.in1) (by show X.A.units+1+_<cLine; omega) (by simp) (by simp)) q
  ·rw [vU hl] at q; exact SeqAt.eq_list_lengthsAt ht ht2 (by rw [l1,l2]; simpa using hl) hu' q
theorem rc_Dn {pins:List (Addr × Obj)} {σ:St} {H:Hp} {s:Shared} {K:aA} {d1 d2:D} {v u:V} {x y:Value} {Q:Value→Shared→Prop} (I:Inv X pins σ H s) (hs:(isT d1=true∧isT d2=true)∨(isL d1=true∧isL d2=true)) (p1:pl d1=true) (p2:pl d2=true) (r1:Rep K H d1 v) (r2:Rep K H d2 u) (rx:RelV v x) (ry:RelV u y)
  (hu:X.A.units+dep d1+1<cLine) (q:Q (.bool (!deq d1 d2)) s):wpAny (model X.prog X.w) X.A (compareOp .NotEq x y) Q X.xe s:=by
 have hu':X.A.units<cLine:=by omega
 rcases hs with ⟨t1,t2⟩ | ⟨t1,t2⟩
 ·cases d1<;>first | (simp [isT] at t1; done) | skip
  cases d2<;>first | (simp [isT] at t2; done) | skip
  rename_i ds es; obtain ⟨a,xs,its,rfl,rfl,rl,rv,ht⟩:=iC I.hok r1 rx; obtain ⟨b,ys,jts,rfl,rfl,rl2,rv2,ht2⟩:=iC I.hok r2 ry; have l1:its.toArray.size=ds.length:=by rw [aS,← rv.length,rl.len]
  have l2:jts.toArray.size=es.length:=by rw [aS,← rv2.length,rl2.len]
  simp only [pl] at p1 p2; simp only [dep] at hu; simp only [deq] at q; rw [← qV,← l1,← l2] at q; exact SeqAt.RcNeAt.tuples ht ht2 hu' (fun j h1 h2=>pZ I.hok ds p1 p2 rl rl2 rv rv2 (A:=X.A.in1) (by show X.A.units+1+_<cLine; omega) (by simp) (by simp)) _ _ _ _ q
 ·cases d1<;>first | (simp [isL] at t1; done) | (simp [pl] at p1; done) | skip
  cases d2<;>first | (simp [isL] at t2; done) | (simp [pl] at p2; done) | skip
  rename_i ds es; obtain ⟨a,xs,its,rfl,rfl,rl,rv,ht⟩:=kN I.hok r1 rx; obtain ⟨b,ys,jts,rfl,rfl,rl2,rv2,ht2⟩:=kN I.hok r2 ry; have l1:its.toArray.size=ds.length:=by rw [aS,← rv.length,rl.len]
  have l2:jts.toArray.size=es.length:=by rw [aS,← rv2.length,rl2.len]
  simp only [pl] at p1 p2; simp only [dep] at hu; simp only [deq] at q
  by_cases hl:ds.length=es.length
  ·rw [← sL hl,← l1] at q; exact SeqAt.RcNeAt.lists ht ht2 (by rw [l1,l2,hl]) hu' (fun j h1 h2=>pZ I.hok ds p1 p2 rl rl2 rv rv2 (A:=X.A.in1) (by show X.A.units+1+_<cLine; omega) (by simp) (by simp)) _ _ _ _ q
  ·rw [vU hl] at q; exact SeqAt.RcNeAt.lists_lengths ht ht2 (by rw [l1,l2]; simpa using hl) hu' _ _ _ _ q
theorem ResOk.rep {K:aA} {H₀ F H:Hp} {σ:St} {v:V} (S:StF K H₀ F H σ sd) (hk:r.keeps) (q:ResOk K F H sd r v):Rep K H r.toD v:=by
 cases r with
 | val d=>exact Rep.mono S.sub q
 | own ds=>exact hk.elim
 | pr d ls=>exact hk.elim
 | ox G=>exact hk.elim
 | bor ds=>obtain ⟨l,xs,e,hl,rl,_⟩:=q; simp only [R.toD,Rep]; exact ⟨l,xs,e,hl,rl.mono S.sub⟩
theorem op_eqD (K:aA) (d1 d2:D) (hs:(isT d1=true∧isT d2=true)∨(isL d1=true∧isL d2=true)) (p1:pl d1=true) (p2:pl d2=true) (hu:X.A.units+dep d1+1<cLine):OpR X (compareOp .Eq) (fun x y H Q=>Rep K H d1 x∧Rep K H d2 y∧Q (.bl (deq d1 d2)) H):=by intro pins s σ H x y v u Q I rx ry h; obtain ⟨h1,h2,q⟩:=h; exact rc_D I hs p1 p2 h1 h2 rx ry hu ⟨.bl (deq d1 d2),H,I,rfl,q⟩
theorem op_neD (K:aA) (d1 d2:D) (hs:(isT d1=true∧isT d2=true)∨(isL d1=true∧isL d2=true)) (p1:pl d1=true) (p2:pl d2=true) (hu:X.A.units+dep d1+1<cLine):OpR X (compareOp .NotEq) (fun x y H Q=>Rep K H d1 x∧Rep K H d2 y∧Q (.bl (!deq d1 d2)) H):=by intro pins s σ H x y v u Q I rx ry h; obtain ⟨h1,h2,q⟩:=h; exact rc_Dn I hs p1 p2 h1 h2 rx ry hu ⟨.bl (!deq d1 d2),H,I,rfl,q⟩
theorem pd_eqD (ha:PEd X sd a ra) (hb:PEd X sd b rb) (ka:ra.keeps) (kb:rb.keeps) (hs:(isT ra.toD=true∧isT rb.toD=true)∨(isL ra.toD=true∧isL rb.toD=true)) (p1:pl ra.toD=true) (p2:pl rb.toD=true) (hu:X.A.units+dep ra.toD+1<cLine):PEd X sd (.Compare a [.Eq] [b] pos) (.val (.bl (deq ra.toD rb.toD))):=
 tR (op_eqD X.K _ _ hs p1 p2 hu) ha hb ka (hV _) fun σ F H v u Q S q1 q2 k=>⟨q1.rep S ka,q2.rep S kb,k F H S (Same.refl _)⟩
theorem tT (ha:PEd X sd a ra) (hb:PEd X sd b rb) (ka:ra.keeps) (kb:rb.keeps) (hs:(isT ra.toD=true∧isT rb.toD=true)∨(isL ra.toD=true∧isL rb.toD=true)) (p1:pl ra.toD=true) (p2:pl rb.toD=true) (hu:X.A.units+dep ra.toD+1<cLine):PTd X sd (.Compare a [.NotEq] [b] pos) (!deq ra.toD rb.toD):=
 jP (op_neD X.K _ _ hs p1 p2 hu) ha hb ka (hV _) fun σ F H v u Q S q1 q2 k=>⟨q1.rep S ka,q2.rep S kb,k F H S (Same.refl _)⟩
noncomputable def rCatT0 (K:aA):R2:=fun x y H Q=>∃a b ys,x= .ref a∧y= .ref b∧SqT K H a []∧SqT K H b ys∧Q (.ref b) H
theorem op_catT0:OpR X (binaryOp .Add) (rCatT0 X.K):=by
 intro pins s σ H x y v u Q I rx ry h; obtain ⟨a,b,ys,rfl,rfl,ha,hb,q⟩:=h; cases rx; cases ry; obtain ⟨its,r1,p1,_⟩:=I.tuple ha; obtain ⟨its2,r2,p2,_⟩:=I.tuple hb; cases r1; obtain ⟨⟨cls,dd,data,sl⟩,ho,hc,n,hd⟩:=id p1; obtain ⟨⟨cls2,dd2,data2,sl2⟩,ho2,hc2,n2,hd2⟩:=id p2; simp only at hc hd hc2 hd2; subst hc hd hc2 hd2
 exact concat_meets ⟨_,ho,rfl⟩ ⟨_,ho2,rfl⟩ noFill_tuple_add seq_tuple_add nY nA (mJ _ _)
  (tuple_addW0 a b ([]:List Value).toArray its2.toArray n n2 dd dd2 sl sl2 (by simp)) ⟨ho,ho2,⟨.ref b,H,I,rfl,q⟩⟩
theorem lS {d1 d2:List D} (ha:PEd X sd a (.val (.tup d1))) (hb:PEd X sd b (.val (.tup d2))) (hl:d1.length+d2.length≤1000):PEd X sd (.BinOp a .Add b pos) (.val (.tup (d1++d2))):=
 pd_op2 (op_catT0.or op_catT) ha hb trivial fun σ F H v u Q S q1 q2 k=>by
  simp only [ResOk,Rep] at q1 q2; obtain ⟨p,xs,e1,hp,rl⟩:=q1; obtain ⟨q,ys,e2,hq,rl2⟩:=q2; cases d1 with
  | nil=>simp only [RepL] at rl; subst rl; refine .inl ⟨p,q,ys,e1,e2, .of (S.sub _ _ hp), .of (S.sub _ _ hq),k _ F H S (Same.refl _) ?_⟩; simp only [ResOk,Rep,wO]; exact ⟨q,ys,rfl,hq,rl2⟩
  | cons z zs=>
   refine .inr ⟨p,q,xs,ys,e1,e2, .of (S.sub _ _ hp), .of (S.sub _ _ hq), ?_,by rw [rl.len,rl2.len]; exact dW (fH hl),fun hy=> ?_,fun hy p2 hp2=> ?_⟩
   ·intro hx; subst hx; obtain ⟨_,_,w,_⟩:=rl.uncons; cases w
   ·subst hy
    have:d2=[]:=by
     cases d2 with
     | nil=>rfl
     | cons w ws=>obtain ⟨_,_,w,_⟩:=rl2.uncons; cases w
    subst this; refine k _ F H S (Same.refl _) ?_; simp only [ResOk,Rep,cZ]; exact ⟨p,xs,rfl,hp,rl⟩
   ·obtain ⟨S2,s2⟩:=S.lay (o:= .tup (xs++ys)) hp2 trivial; refine k _ _ _ S2 s2 ?_; simp only [ResOk,Rep]; exact ⟨p2,_,rfl,bV,(rl.app rl2).mono s2⟩
theorem kZ {p:Pos} (hg:Gl X "tuple") (hm:X.mg "tuple"=none) (ha:PEd X sd e (.bor ds)) (hst:starEach [e] X.env=(false,eval e X.env)::starEach [] X.env:=by rfl):PEd X sd (.Call (.Name "tuple" p) [e] [] pos) (.val (.tup ds)):=
 sC (he:=hst) wQ hg hm PyProof.Rows.boot_tuple (aD ha aP trivial hst) fun σ F H vs Q S q k=>by
  cases q with
  | cons q1 q2=>cases q2; obtain ⟨p,xs,rfl,hp,rl,_⟩:=q1; refine ⟨p,xs,rfl, .inl ⟨.of hp,fun l hl=> ?_⟩⟩; obtain ⟨S2,s2⟩:=S.lay (o:= .tup xs) hl trivial; refine k _ _ _ S2 s2 ?_; simp only [ResOk,Rep]; exact ⟨l,xs,rfl,bV,rl.mono s2⟩
end
noncomputable def Ite (K:aA) (a:Addr):It:=
 ⟨fun i H=>∃xs x,SqL K H a xs∧xs[i]? =some x,fun i H x H'=>∃p v,x= .ref p∧H p=none∧H'=upd H p (.tup [.int i,v])∧∀xs,SqL K H a xs→xs[i]? =some v,fun i H=>∃xs,SqL K H a xs∧xs.length≤i⟩
theorem inv_two {X:Cx} {pins:List (Addr × Obj)} {σ:St} {H:Hp} {s:Shared} {h':Heap} {t':Nat} {e it:Addr} (I:Inv X pins σ H s) (k:∀b o,b≠e→b≠it→s.heap.get? b=some o→h'.get? b=some o) (f1:sZ X pins H e) (f2:sZ X pins H it):Inv X pins σ H {s with heap:=h',toks:=t'}:=by
 have nit:∀b u,H b=some u→b≠e∧b≠it:=fun b u q=>⟨fun z=>(by rw [z,f1.1] at q; cases q),fun z=>(by rw [z,f2.1] at q; cases q)⟩
 have ne:∀b,b∉[e,it]→b≠e∧b≠it:=fun b hc=>⟨fun z=>hc (by simp [z]),fun z=>hc (by simp [z])⟩
 refine I.step (g':=s.gens) (d':=s.drawn) (ch:=[e,it]) (fun b hb=> ?_) (fun b o _ _ hc q _=>k b o (ne b hc).1 (ne b hc).2 q) (fun b o _ _ hc q _=>⟨o.slots,k b o (ne b hc).1 (ne b hc).2 q⟩) (fun _ _ _ _ n=>n)
  (fun b o hc q=>⟨o,k b o (ne b hc).1 (ne b hc).2 q⟩) (fun _ _ q=>q) (fun _ _ _ q=>q) (fun b ps q=>⟨#[],by rw [q]; simp⟩) (fun m hm=> ?_) (fun b u q=> ?_) I.bare
 ·rcases aX.mp hb with z | hb
  ·subst z; exact ⟨f1.2.2.2.1,f1.2.1,f1.2.2.2.2.1,f1.2.2.2.2.2⟩
  ·have z:b=it:=by simpa using hb
   subst z; exact ⟨f2.2.2.2.1,f2.2.1,f2.2.2.2.2.1,f2.2.2.2.2.2⟩
 ·obtain ⟨o,es,ep,ho,r⟩:=hm; exact ⟨o,es,ep,k _ o (Ne.symm f1.2.1) (Ne.symm f2.2.1) ho,r⟩
 ·refine (I.hok b u q).stay (fun c v hc g=> ?_) (fun _ g=>g) fun _ _ g=>g
  rcases hc with z | z
  ·rw [z] at g ⊢; exact k b v (nit b u q).1 (nit b u q).2 g
  ·exact k c v (nit c _ z).1 (nit c _ z).2 g
theorem turn_enum {P:Program} {w:World} {K:aA} {elts:List Expr} {kk:Nat} {pos:Pos} (a e it:Addr) (hei:e≠it):Turn P w K (.Tuple elts kk pos) (Ite K a) [e,it] e (fun i h=>(∃old,IsEnum h e it i old)∧h.IsListIter it a i) where
 mem:=by simp
 obj:=fun i h st b hb=>by
  obtain ⟨⟨old,he⟩,hit⟩:=st
  rcases aX.mp hb with z | hb
  ·subst z; exact ⟨_,he,fun v z=>by cases z⟩
  ·have z:b=it:=by simpa using hb
   subst z; obtain ⟨o,q,c,d⟩:=hit; exact ⟨o,q,fun v z=>by rw [d] at z; cases z⟩
 keep:=fun i h h' st k=>by obtain ⟨⟨old,he⟩,hit⟩:=st; exact ⟨⟨old,k e (by simp) _ he⟩,hit.at fun o q=>k it (by simp) o q⟩
 item:=by
  intro X hP hw hK hc i pins s σ H E I hf st hg; subst hP hw hK; obtain ⟨⟨old,he⟩,hit⟩:=st; obtain ⟨xs,x,hq,hx⟩:=hg; obtain ⟨its,rv,p,hz⟩:=I.list hq; obtain ⟨u,hu,ru⟩:=rv.get hx; have f1:=hf e (by simp); have f2:=hf it (by simp); refine wpAny_pyNext_enum_item he hit p.isList (x:=u) (by simpa using hu) hei fun h1 heo hit1 ht1 hz1 hk1=> ?_
  refine ⟨_,rfl,wpAny_letOwnedTupleGo_enum heo fun h2 he2 hs2=> ?_⟩; have hs2:Heap.SameBut e h1 h2:=hs2; have esz:e<s.heap.objs.size:=aO he; have isz:it<s.heap.objs.size:=by obtain ⟨_,q,_⟩:=hit; exact aO q
  have I1:Inv X pins σ H {s with heap:=h2,toks:=s.toks+1}:=inv_two I (fun b o h1' h2' q=>(hs2.2 b h1').trans (hk1 b o h1' h2' q)) f1 f2; have hn:H s.heap.objs.size=none:=I.hok.fresh (aM _); have g2:h2.get? s.heap.objs.size=some {cls:= .type "tuple",data:= .seq #[.int i s.toks,u]}:=(hs2.2 _ (fQ esz)).trans ht1
  have I2:Inv X pins σ (upd H s.heap.objs.size (.tup [.int i,x])) {s with heap:=h2,toks:=s.toks+1}:=by
   refine I1.track hn I.sz (fQ I.lt) (fun y c q=> ?_) (fun y hy=> ?_) ⟨by show 2≤sizeLine; decide,[.int i s.toks,u], .cons ⟨_,rfl⟩ (.cons ru .nil),⟨_,g2,rfl,⟨_,rfl⟩,rfl⟩⟩
   ·obtain ⟨v,o,ho,_⟩:=I.cell y c q; exact bP (aO ho)
   ·exact bP (aO (I.pin y hy).1)
  refine ⟨.ref s.heap.objs.size,_,I2,rfl,⟨_,x,rfl,hn,rfl,fun ys hy=>by rw [I.list_inj hy hq]; exact hx⟩,⟨⟨u, ?_⟩, ?_⟩,fun b hb=> ?_⟩
  ·have:((i+1:Nat):Int)=(i:Int)+1:=by push_cast; rfl
   rw [this]; exact he2
  ·exact hit1.at fun o q=>(hs2.2 it (Ne.symm hei)).trans q
  ·rcases aX.mp hb with z | hb
   ·subst z; rw [bO (bP esz)]; exact f1.1
   ·have z:b=it:=by simpa using hb
    subst z; rw [bO (bP isz)]; exact f2.1
 done:=by intro X hP hw hK hc i pins s σ H E I hf st hg; subst hP hw hK; obtain ⟨⟨old,he⟩,hit⟩:=st; obtain ⟨xs,hq,hx⟩:=hg; obtain ⟨its,rv,p,hz⟩:=I.list hq; obtain ⟨f0,f1,f2,f3,f4,f5⟩:=hf it (by simp); have hl:=rv.length; exact wpAny_pyNext_enum_end (I.ok.hd hc) he hit p.isList (by simp; omega) fun h' eb=>⟨rfl,I.turned (t':=s.toks) (fun b o hb q=>eb b o hb q) f0 f1 f3 f4 f5⟩
 self:=fun _ _ _ _ _ st h=>by obtain ⟨⟨old,he⟩,_⟩:=st; exact wpAny_pyIter_enum he h
section
variable {X:Cx} {sd:List Slot} {e a b c tg iter:Expr} {es:List Expr} {pos:Pos} {r ra rb:R} {d:D} {ds:List D} {st:Stmt} {rest:List Stmt} {E:jG}
noncomputable def iEnum (K:aA) (ta:TA):TI:=fun σ H R=>ta σ H fun vs H1=>∃l,vs=[.ref l]∧(∃xs,SqL K H1 l xs)∧R (Ite K l) H1
theorem pi_enum {elts:List Expr} {kk:Nat} {tp:Pos} {ta:TA} {p:Pos} (hg:Gl X "enumerate") (hm:X.mg "enumerate"=none) (ha:PA X [a] ta) (hs:starEach [a] X.env=[(false,eval a X.env)]:=by rfl):PI X (.Tuple elts kk tp) (.Call (.Name "enumerate" p) [a] [] pos) (iEnum X.K ta):=by
 intro pins s σ H R I h; refine Call_ (mD I hg hm boot_enumerate (PyProof.Rows.callWith_type1 (thn (ha pos pins s σ H _ I h) fun us s1 ⟨vs,H1,I1,r1,q1⟩=> ?_) hs rfl)); obtain ⟨l,rfl,⟨xs,hq⟩,q⟩:=q1; cases r1 with
 | cons r rr=>
  cases rr; cases r; obtain ⟨its,rv,p,hz⟩:=I1.list hq; refine call_enumerate_list p.isList fun h' he hit hsz hk=> ?_
  refine wpAny_pyIter_enum he ?_; have I2:Inv X pins σ H1 {s1 with heap:=h'}:=I1.kept (t':=s1.toks) hk; refine ⟨s1.heap.objs.size+1,[s1.heap.objs.size+1,s1.heap.objs.size],_,Ite X.K l,H1,rfl,I2,turn_enum l _ _ (Nat.succ_ne_self _),⟨⟨_,he⟩,hit⟩,fun b hb=> ?_,q⟩
  rcases aX.mp hb with z | hb
  ·subst z; exact I1.fpOk (iZ _) (I1.hok.fresh (iZ _))
  ·have z:b=s1.heap.objs.size:=by simpa using hb
   subst z; exact I1.fpOk (aM _) (I1.hok.fresh (aM _))
noncomputable def sN (ds:List D):List D:=(bH ds.length).map fun (i:Nat)=>D.tup [.int (i:Int),ds.getD i .non]
theorem oS (ds:List D):(sN ds).length=ds.length:=by simp [sN]
theorem rL {ds:List D} {i:Nat} {d:D} (h:(sN ds)[i]? =some d):∃x,ds[i]? =some x∧d= .tup [.int (i:Int),x]:=by
 unfold sN at h; rw [bJ] at h
 by_cases hi:i<ds.length
 ·rw [lP hi] at h; refine ⟨ds[i],by simp [hi], ?_⟩; rw [← cI.inj h]; simp [bS,hi]
 ·rw [gG (by simpa using hi)] at h; cases h
noncomputable def LP (K:aA) (l:Addr) (ds:List D):Hp→Hp→Prop:=fun F H=>∃xs,H l=some (.lst xs)∧RepL K F ds xs
theorem itd_enum {F₁:Hp} {l:Addr}:ItD X.K F₁ (LP X.K l ds) (Ite X.K l) (sN ds):=fun F H _ sH sm hP i=>by
 obtain ⟨xs,hl,rl⟩:=hP; refine ⟨fun hi=> ?_,fun hi=> ?_,fun x H' d hd y=> ?_⟩
 ·rw [oS] at hi; exact ⟨xs,xs[i]'(by rw [rl.len]; exact hi), .of hl,by simp [rl.len,hi]⟩
 ·rw [oS] at hi; exact ⟨xs, .of hl,by rw [rl.len]; exact hi⟩
 ·obtain ⟨p,v,rfl,hp,rfl,hv⟩:=y; obtain ⟨z,hz,rfl⟩:=rL hd; have hv:=hv xs (.of hl); obtain ⟨v',h1,rz⟩:=rl.get hz; rw [hv] at h1; cases h1; have fp:F p=none:=sH.free hp; have s1:Same F (upd F p (.tup [.int i,v])):=fun b u q=>by rw [bO (cB q fp)]; exact q
  refine ⟨upd F p (.tup [.int i,v]),s1, ?_,fun H₀ σ sd S=>(S.lay (o:= .tup [.int i,v]) hp trivial).1⟩; simp only [Rep]; exact ⟨p,_,rfl,bV, .cons (by simp only [Rep]) (.one (rz.mono s1))⟩
theorem pid_enum {elts:List Expr} {kk:Nat} {tp p:Pos} (hg:Gl X "enumerate") (hm:X.mg "enumerate"=none) (ha:PEd X sd a (.val (.lst ds))) (hst:starEach [a] X.env=[(false,eval a X.env)]:=by rfl):
  PId X sd PT0 (.Tuple elts kk tp) (.Call (.Name "enumerate" p) [a] [] pos) (sN ds):= .mk fun σ F H S=>
 (pi_enum hg hm vO hst).to ((aD ha aP trivial (by rw [hst]; rfl) σ F H S).imp fun vs H1 ⟨F1,S1,s1,q1⟩=>by
  cases q1 with
  | cons q1 q2=>
   cases q2; simp only [ResOk,Rep] at q1; obtain ⟨l,xs,rfl,hl,rl⟩:=q1; refine ⟨l,rfl,⟨xs, .of (S1.sub _ _ hl)⟩,F1,S1,s1,fun F' H' sF sH sm _ i=> ?_⟩
   exact itd_enum (X:=X) (F₁:=F1) F' H' sF sH sm ⟨xs,sH _ _ (sF _ _ hl),rl.mono sF⟩ i)
theorem ints_at {ns:List Int} {us:List Value} (r:Vals (ns.map V.int) us) {i:Nat} {u:Value} (h:us[i]? =some u):i<ns.length∧∃t,u= .int (ns.getD i 0) t:=by
 have hl:=r.length; rw [aC] at hl; have hi:i<us.length:=(aK.mp h).1
 have e:(ns.map V.int)[i]? =some (.int (ns.getD i 0)):=by
  rw [bJ]; have:i<ns.length:=by omega
  simp [bS,this]
 obtain ⟨u',h1,t,h2⟩:=r.get e; rw [h] at h1; cases h1; exact ⟨by omega,t,h2⟩
noncomputable def cutD (ds:List D) (lo hi:Option Int):List D:=(ds.drop (HT.sIx ds.length 0 lo)).take (HT.sIx ds.length ds.length hi - HT.sIx ds.length 0 lo)
theorem RepL.cut {K:aA} {H:Hp} {xs:List V} (r:RepL K H ds xs) (lo hi:Option Int):RepL K H (cutD ds lo hi) (wR xs lo hi):=by unfold cutD wR; rw [r.len]; exact (r.drop _).take _
noncomputable def POd (X:Cx) (sd:List Slot) (e:Option Expr) (o:Option Int):Prop:=match e,o with
 | none,none=>True
 | some e,some i=>PEd X sd e (.val (.int i))
 | _,_=>False
theorem tV {eo:Option Expr} {o:Option Int} (h:POd X sd eo o):∃t:TO,PO X eo t∧∀ (σ:St) (F H:Hp),StF X.K X.B₀ F H σ sd→∀Q:Option Int→Hp→Prop,(∀F' H',StF X.K X.B₀ F' H' σ sd→Same F F'→Q o H')→t σ H Q:=by
 cases eo with
 | none=>
  cases o with
  | none=>exact ⟨_,po_none,fun σ F H S Q k=>k F H S (Same.refl _)⟩
  | some i=>exact h.elim
 | some e=>
  cases o with
  | none=>exact h.elim
  | some i=>have h:PEd X sd e (.val (.int i)):=h; refine ⟨_,po_some iJ,fun σ F H S Q k=>(h σ F H S).imp fun v H1 ⟨F1,S1,s1,q1⟩=> ?_⟩; simp only [ResOk,Rep] at q1; exact ⟨i,q1,k F1 H1 S1 s1⟩
theorem vM {lo hi:Option Expr} {ol oh:Option Int} {p2:Pos} (ha:PEd X sd a (.val (.tup ds))) (hl:POd X sd lo ol) (hh:POd X sd hi oh) (hn:¬ (HT.sIx ds.length 0 ol=0∧HT.sIx ds.length ds.length oh=ds.length)):PEd X sd (.Subscript a (.Slice lo hi none p2) pos) (.val (.tup (cutD ds ol oh))):= .mk fun σ F H S=>by obtain ⟨tl,pl,kl⟩:=tV hl; obtain ⟨th,ph,kh⟩:=tV hh; refine (pe_slice sl_tup iJ pl ph).to ((ha σ F H S).imp fun v H1 ⟨F1,S1,s1,q1⟩=>kl σ F1 H1 S1 _ fun F2 H2 S2 s2=>kh σ F2 H2 S2 _ fun F3 H3 S3 s3=> ?_); have q1:=Rep.mono (s2.trans s3) q1; simp only [Rep] at q1; obtain ⟨l,xs,rfl,hl',rl⟩:=q1; refine ⟨l,xs,rfl, .of (S3.sub _ _ hl'),by rw [rl.len]; exact hn,fun p hp=> ?_⟩; obtain ⟨S4,s4⟩:=S3.lay (o:= .tup (wR xs ol oh)) hp trivial; refine ⟨_,S4,((s1.trans s2).trans s3).trans s4, ?_⟩; simp only [ResOk,Rep]; exact ⟨p,_,rfl,bV,(rl.cut ol oh).mono s4⟩
theorem iF {body:List Stmt} {P:Hp→Hp→Prop} (Sd:Nat→List Slot→Prop) (hi:PId X sd P tg iter ds) (h0:∃sd0,Le sd sd0∧Sd 0 sd0)
  (hb:∀k d sdk,ds[k]? =some d→Sd k sdk→∃sdt,PGd X sdk tg d sdt∧PSd X sdt body {E with nx:=fun sd'=>∃sd2,Le sd' sd2∧Sd (k+1) sd2,ct:=fun sd'=>∃sd2,Le sd' sd2∧Sd (k+1) sd2,bk:=E.nx}) (hE:∀sdn,Sd ds.length sdn→E.nx sdn) (hP:∀k sdk σ F H,Sd k sdk→StF X.K X.B₀ F H σ sdk→P F H:=by intros; trivial)
  (hc:X.calm=true:=by rfl) (hp:PassesOwn (model X.prog X.w) X.A X.env X.xe:=by exact PassesOwn.never) (hs:∀x,foldedSetIterable iter X.env x=pure x:=by intro _; rfl):PSd1 X sd (.For tg iter body [] pos) E:= .mk fun σ F H S=>
 (ps_for hp hc pi_w pg_w pss_w hs).to (by
  intro pins s I; refine thn (hi σ F H S pins s I) fun v s1 h1=>thn h1 fun itv s2 h2=> ?_
  obtain ⟨it,fp,tn,J,H2,e,I2,T,st2,f2,F1,S1,s1',itd⟩:=h2; refine ⟨it,fp,tn,J,H2,e,I2,T,st2,f2, ?_⟩; obtain ⟨sd0,le0,q0⟩:=h0; refine ⟨fun i m σ' H'=>m=ds.length - i∧i≤ds.length∧∃sdi F',StF X.K X.B₀ F' H' σ' sdi∧Same F1 F'∧Sd i sdi,⟨ds.length,by simp,cD _,sd0,F1,S1.le le0,Same.refl _,q0⟩, ?_⟩; rintro i m σ' H' ⟨rfl,hil,sdi,F',S',s',qi⟩; obtain ⟨g1,g2,g3⟩:=itd F' H' s' S'.sub S'.smp (hP _ _ _ _ _ qi S') i
  by_cases hlt:i<ds.length
  ·refine .inr ⟨g1 hlt,fun σ2 H2=>∃sd2 F2,StF X.K X.B₀ F2 H2 σ2 sd2∧Same F1 F2∧Sd (i+1) sd2,fun σ2 H2 ⟨sd2,F2,S2,s2,q2⟩=>⟨ds.length - (i+1),by omega,rfl,hlt,sd2,F2,S2,s2,q2⟩,fun x H2 y=> ?_⟩; have hd:ds[i]? =some ds[i]:=by simp [hlt]
   obtain ⟨F2,s2,rp,up⟩:=g3 x H2 ds[i] hd y; obtain ⟨sdt,hg,hbb⟩:=hb i _ sdi hd qi; refine (hg σ' F2 H2 x (up _ _ _ S') rp).imp fun σ3 H3 ⟨F3,S3,s3⟩=> ?_
   have base:Same F1 F3:=(s'.trans s2).trans s3; refine (hbb σ3 F3 H3 S3).imp ?_ ?_ ?_ ?_
   ·rintro σ4 H4 ⟨sd4,F4,S4,s4,sd5,le,q5⟩; exact ⟨sd5,F4,S4.le le,base.trans s4,q5⟩
   ·exact fun v H4 q=>q
   ·rintro σ4 H4 ⟨sd4,F4,S4,s4,q⟩; exact ⟨sd4,F4,S4,(s1'.trans base).trans s4,q⟩
   ·rintro σ4 H4 ⟨sd4,F4,S4,s4,sd5,le,q5⟩; exact ⟨sd5,F4,S4.le le,base.trans s4,q5⟩
  ·have e:i=ds.length:=by omega
   subst e
   exact .inl ⟨g2 (aM _),sdi,F',S',s1'.trans s',hE sdi qi⟩)
end
noncomputable def gT (m:Nat):Nat→List (List Int)
 | 0=>[[]]
 | k+1=>(gT m k).flatMap fun s=>(bH m).map fun (w:Nat)=>s++[(w:Int)]
noncomputable def aV (s:List Int):D:= .tup (s.map D.int)
noncomputable def sV (m:Int) (ws:List Int):Int:=ws.foldl (fun n w=>n * m+w) 0
noncomputable def chkF (b k:Nat):Bool:=let L:=gT (2^b) k; L.length==2^(b * k) && (bH L.length).all fun i=>let f:=L.getD i []; f.length==k && f.all (fun w=>decide (0≤w) && decide (w<2^b)) && decide (sV (2^b) f=i) && (i==0 || HT.lexLt (L.getD (i - 1) []) f)
theorem chk14:∀p∈bX,chkF p.1.toNat p.2.toNat=true:=by decide+kernel
theorem pX:∀p∈bX,1≤p.1∧p.1≤6∧1≤p.2∧p.2≤6∧p.1 * p.2≤6:=by decide+kernel
theorem yG {m:Nat}:∀ {k:Nat} {ws:List Int},ws.length=k→(∀w∈ws,0≤w∧w<m)→ws∈gT m k
 | 0,ws,h,_=>by have:ws=[]:=List.length_eq_zero_iff.mp h; subst this; simp [gT]
 | k+1,ws,h,hw=>by
  have hne:ws≠[]:=by intro z; subst z; simp at h
  have e:ws=ws.dropLast++[ws.getLast hne]:=(lB hne).symm; have hl:=hw (ws.getLast hne) (List.getLast_mem hne); have ih:ws.dropLast∈gT m k:=yG (by rw [List.length_dropLast,h]; rfl) fun w hm=>hw w (List.dropLast_subset _ hm)
  show ws∈(gT m k).flatMap fun s=>(bH m).map fun (w:Nat)=>s++[(w:Int)]
  refine eA.mpr ⟨_,ih,aQ.mpr ⟨(ws.getLast hne).toNat,cN.mpr (by omega), ?_⟩⟩; have:(((ws.getLast hne).toNat:Nat):Int)=ws.getLast hne:=by omega
  rw [this]; exact e.symm
structure FilOk (b k:Nat):Prop where
 len:(gT (2^b) k).length=2^(b * k)
 at_:∀i,i<2^(b * k)→((gT (2^b) k).getD i []).length=k∧(∀w∈(gT (2^b) k).getD i [],0≤w∧w<2^b)∧sV (2^b) ((gT (2^b) k).getD i [])=i∧(i=0∨HT.lexLt ((gT (2^b) k).getD (i - 1) []) ((gT (2^b) k).getD i [])=true)
theorem fil_ok {b k:Nat} (h:chkF b k=true):FilOk b k:=by unfold chkF at h; simp only [bL,beq_iff_eq,fM,cN,decide_eq_true_eq,lE] at h; obtain ⟨h1,h2⟩:=h; refine ⟨h1,fun i hi=> ?_⟩; obtain ⟨⟨⟨a,b⟩,c⟩,d⟩:=h2 i (by omega); exact ⟨a,b,c,d⟩
theorem fil_at {b k:Nat} (h:FilOk b k) {ws:List Int} (hl:ws.length=k) (hw:∀w∈ws,0≤w∧w<((2^b:Nat):Int)):0≤sV (2^b) ws∧(sV (2^b) ws).toNat<2^(b * k)∧(gT (2^b) k).getD (sV (2^b) ws).toNat []=ws:=by
 have hm:=yG hl hw; obtain ⟨i,hi,e⟩:=List.mem_iff_getElem.mp hm; have e':(gT (2^b) k).getD i []=ws:=by simp [bS,hi,e]
 rw [h.len] at hi; have hn:=(h.at_ i hi).2.2.1; rw [e'] at hn; rw [hn]; refine ⟨by omega,by simpa using hi, ?_⟩; simpa using e'
theorem vA:∀ (ws vs:List Int),iP (ws.map D.int) (vs.map D.int)=decide (ws=vs)
 | [],[]=>by simp [iP]
 | [],_::_=>by simp [iP]
 | _::_,[]=>by simp [iP]
 | w::ws,v::vs=>by
  simp only [bA,iP,deq,vA ws vs]
  by_cases h1:w=v<;>by_cases h2:ws=vs<;>simp [h1,h2]
theorem oO (ws vs:List Int):deq (aV ws) (aV vs)=decide (ws=vs):=by unfold aV; simp only [deq,vA]
theorem qQ:∀ws:List Int,plL (ws.map D.int)=true
 | []=>rfl
 | w::ws=>by simp [plL,pl,qQ ws]
theorem rV:∀ws:List Int,iM (ws.map D.int)=0
 | []=>rfl
 | w::ws=>by simp [iM,dep,rV ws]
theorem lV (ws:List Int):pl (aV ws)=true:=by simp [aV,pl,qQ]
theorem qK (ws:List Int):dep (aV ws)=1:=by simp [aV,dep,rV]
theorem lN:∀L:List (List Int),plL (L.map aV)=true
 | []=>rfl
 | w::ws=>by simp [plL,lV,lN ws]
theorem mO:∀L:List (List Int),iM (L.map aV)≤1
 | []=>by simp [iM]
 | w::ws=>by have:=mO ws; simp only [bA,iM,qK]; omega
theorem wJ:∀ (L M:List (List Int)),iP (L.map aV) (M.map aV)=decide (L=M)
 | [],[]=>by simp [iP]
 | [],_::_=>by simp [iP]
 | _::_,[]=>by simp [iP]
 | w::ws,v::vs=>by
  simp only [bA,iP,oO,wJ ws vs]
  by_cases h1:w=v<;>by_cases h2:ws=vs<;>simp [h1,h2]
theorem mul64 {i j:Int} (h1: -(2^64)<j) (h2:j<2^64):IntMulOk i j:= .of_right (intBits_le_64 h1 h2)
theorem lK {L:List (List Int)} {k:Nat} {d:D} (h:(L.map aV)[k]? =some d):k<L.length∧d=aV (L.getD k []):=by
 rw [bJ] at h; cases e:L[k]? with
 | none=>rw [e] at h; cases h
 | some z=>rw [e] at h; refine ⟨(aK.mp e).1, ?_⟩; rw [← cI.inj h,bS,e]; rfl
section
variable {X:Cx} {sd:List Slot} {e a b c tg iter:Expr} {es:List Expr} {pos:Pos} {r ra rb:R} {d:D} {ds:List D} {st:Stmt} {rest:List Stmt} {E:jG}
theorem ptd_inM {g:Str} {ad:Addr} {xs:List V} {v:V} {p:Pos} (hg:Gl X g) (hm:X.mg g=some (.ref ad)) (hq:∀H,SqT X.K H ad xs) (ha:PEd X sd a (.val d)) (hd:flt d=some v) (fv:nZ v=true) (fx:xs.all nZ=true)
  (hk:behindInMarks .In (.Name g p)=false:=by with_unfolding_all rfl) (hdb:(g==("__debug__":Str))=false:=by decide):PTd X sd (.Compare a [.In] [.Name g p] pos) (inV v xs):= .mk fun σ F H S=>
 (yQ op_in_seq iJ (pe_glob (v:= .ref ad) hg hm rfl hdb) hk).to ((ha σ F H S).imp fun x H1 ⟨F1,S1,s1,q1⟩=>by
  have e:=qI hd q1; subst e
  exact ⟨ad,xs,rfl, .inr (hq H1),fv,fx,_,rfl,rfl,F1,S1,s1⟩)
theorem psd_setC (i:Nat) {elt:Expr} {ifs:List Expr} {scope:Scope} {N M:List Str} {cap:List (Option Nat)} {sc:Scope} {Tb:D→List Slot} {y:Str} {py spos:Pos} (p:D→Bool) (f:D→D) (ho:cC sd=[])
  (hN:X.N.Nodup) (hi:X.N[i]? =some y) (hy:X.env.scope.names.lookup y=some .local)
  (hsw:swapsWith (.ListComp elt [⟨tg,iter,ifs,0⟩] scope pos) (some (.Name y py)) spos.line X.env=pure true)
  (hit:PId X sd PT0 tg iter ds) (hl:ds.length≤1000)
  (hsc:X.env.scope=sc) (hcn:mU scope sc=true) (hM:X.N=M) (hcap:lJ N M scope sc cap=true) (hk:scope.kind= .function)
  (hg:∀cl C fp s H d,d∈ds→PGd (cxB X N scope cl C fp s H) (kG cap sd) tg d (Tb d))
  (hle:∀d,d∈ds→Le (Tb d) (kG cap sd))
  (ht:∀cl C fp s H d,d∈ds→(ifs=[]∧p d=true)∨∃c,ifs=[c]∧PTd (cxB X N scope cl C fp s H) (Tb d) c (p d))
  (he:∀cl C fp s H d,d∈ds→p d=true→PEd (cxB X N scope cl C fp s H) (Tb d) elt (.val (f d)))
  (hE:∀l,E.nx (sd.set i (.own l ((ds.filter p).map f))))
  (hc:X.calm=true:=by rfl) (hs:∀x,foldedSetIterable iter X.env x=pure x:=by intro _; rfl):
  PSd1 X sd (.Assign [.Name y py] (.ListComp elt [⟨tg,iter,ifs,0⟩] scope pos) spos) E:= .mk fun σ F H S=>by
 intro pins s I
 have nm:∀y∈scope.names,(y.2=NameKind.free→sc.names.lookup y.1=some NameKind.cell)∧(y.2=NameKind.local→scope.names.lookup y.1=some NameKind.local):=fun y hy=>by have q:=fM.mp hcn y hy; simp only [bL,lE,mY,beq_eq_false_iff_ne,ne_eq,beq_iff_eq] at q; exact ⟨fun e=>q.1.1.resolve_left fun z=>z e,fun e=>q.2.resolve_left fun z=>z e⟩
 have fre:∀y∈scope.names,y.2= .free→∃c,X.env.cells.lookup y.1=some c:=fun y hy e=>I.ok.has y.1 (.inl (by show X.env.scope.names.lookup y.1=_; rw [hsc]; exact (nm y hy).1 e))
 rw [exec_Assign_Name_used _ _ _ _ hsw]; refine wpAny_bind (wpAny_standAt (wpAny_bind ?_)); show wpAny _ X.A (do let _ ← comprehension (.ListComp elt [⟨tg,iter,ifs,0⟩] scope pos) scope X.env _ (newList []) false (eval iter X.env) (some (assign (.Name y py) X.env))) _ _ s; refine wpAny_bind (wpAny_mono (wpAny_comprehension_free (use:=some (assign (.Name y py) X.env)) (Q:=fun _ s'=>SP X pins (lft X F E) .next s') rfl hs (pO fre) hk (fun y hy=>(nm y hy).2) ?_) (fun _ s' hq=>wpAny_pure (wpAny_pure hq)) fun _ _ e=>e); refine thn (hit σ F H S pins s I) fun v s1 h1=>thn h1 fun itv s2 h2=> ?_
 obtain ⟨it,fp,tn,J,H2,e,I2,T,st2,f2,F1,S1,s1',itd⟩:=h2; subst e; have S1b:StF X.K H2 H2 H2 (sW cap σ) (kG cap sd):=⟨Same.refl _,Same.refl _,S1.smp,tM (H':=H2) S1.slots S1.sub cap,by rw [nK]; exact dG⟩
 refine uL (N:=N) (cap:=cap) (g:=fun v σ2 H3 Q=>∀cl C,wG (cxB X N scope cl C fp s2 H2) tg v σ2 H3 Q) (tt:=fun σ2 H3 Q=>∀cl C,wIfs (cxB X N scope cl C fp s2 H2) ifs σ2 H3 Q) (te:=fun σ2 H3 Q=>∀cl C,wE (cxB X N scope cl C fp s2 H2) elt σ2 H3 Q)
  hc hsc hcn (by rw [hM]; exact hcap) hk I2 T st2 f2 (fun cl C pi s3 σ3 H3 v u Q I3 ru q=>q cl C pi s3 u I3 ru) (fun cl C pi s3 σ3 H3 Q I3 q=>q cl C pi s3 I3) (fun cl C pi s3 σ3 H3 Q I3 q=>q cl C pi s3 I3)
  (fun i m ys σb H3=>m=ds.length - i∧i≤ds.length∧∃Fb,StF X.K H2 Fb H3 σb (kG cap sd)∧RepL X.K Fb (((ds.take i).filter p).map f) ys) ds.length
  ⟨by simp,cD _,H2,S1b,by simpa using RepL.nil⟩ _ ?_
 rintro i' m ys σb H3 ⟨rfl,hil,Fb,Sb,rl⟩; have sF1:Same F1 Fb:=fun b o g=>Sb.base _ _ (S1.sub _ _ g)
 obtain ⟨g1,g2,g3⟩:=itd Fb H3 sF1 Sb.sub Sb.smp trivial i'
 by_cases hlt:i'<ds.length
 ·have hd:ds[i']? =some ds[i']:=by simp [hlt]
  have hm:ds[i']∈ds:=fO hlt
  have ylen:ys.length≤i':=by rw [rl.len,aC]; exact cE (iN _ _) (by simp; omega)
  refine .inr ⟨g1 hlt,fH (by omega),fun ys' σ' H'=>∃Fb',StF X.K H2 Fb' H' σ' (kG cap sd)∧RepL X.K Fb' (((ds.take (i'+1)).filter p).map f) ys',fun ys' σ' H' ⟨Fb',Sb',rl'⟩=>⟨ds.length - (i'+1),by omega,rfl,hlt,Fb',Sb',rl'⟩,fun x H4 y cl C=> ?_⟩; obtain ⟨F4,s4,rp,up⟩:=g3 x H4 ds[i'] hd y; refine (hg cl C fp s2 H2 _ hm σb F4 H4 x (up _ _ _ Sb) rp).imp fun σ5 H5 ⟨F5,S5,s5⟩ cl2 C2=> ?_
  have rl5:=rl.mono (s4.trans s5)
  have fin:∀ (b:Bool) (H6:Hp) (F6:Hp),b=p ds[i']→StF X.K H2 F6 H6 σ5 (Tb ds[i'])→Same F5 F6→if b=true then (∀cl C,wE (cxB X N scope cl C fp s2 H2) elt σ5 H6 fun v H5=>∃Fb',StF X.K H2 Fb' H5 σ5 (kG cap sd)∧RepL X.K Fb' (((ds.take (i'+1)).filter p).map f) (ys++[v])) else ∃Fb',StF X.K H2 Fb' H6 σ5 (kG cap sd)∧RepL X.K Fb' (((ds.take (i'+1)).filter p).map f) ys:=fun b H6 F6 eb S6 s6=>by
   rw [kC p hd,← eb]; cases b with
   | false=>exact iteF ⟨F6,S6.le (hle _ hm),by simpa using rl5.mono s6⟩
   | true=>
    refine iteT fun cl3 C3=>(he cl3 C3 fp s2 H2 _ hm eb.symm σ5 F6 H6 S6).imp fun v H7 ⟨F7,S7,s7,q7⟩=>⟨F7,S7.le (hle _ hm), ?_⟩
    simp only [if_true,bF,bA,eI]; exact ((rl5.mono s6).mono s7).app (.one q7)
  rcases ht cl2 C2 fp s2 H2 _ hm with ⟨e1,e2⟩ | ⟨c,e1,q⟩
  ·subst e1; exact uH (fin true H5 F5 e2.symm S5 (Same.refl _))
  ·subst e1; exact uJ ((q σ5 F5 H5 S5).imp fun b H6 ⟨eb,F6,S6,s6⟩=>fin b H6 F6 eb S6 s6)
 ·have e:i'=ds.length:=by omega
  subst e; refine .inl ⟨g2 (aM _),fun D C s' hD hC hDC h0 hL hcc hpp hst ⟨m',ns'⟩ J'=> ?_⟩; have fbD:Fb D=none:=Sb.sub.free hD
  have S9:StF X.K X.B₀ Fb (upd H3 D (.lst ys)) σ sd:=by
   refine ⟨fun b o g=>sF1 _ _ (S1.base _ _ g),fun b o g=> ?_,fun b o g=> ?_,S1.slots.mono sF1 fun l hl=> ?_,S1.nd⟩
   ·rw [bO (cB g fbD)]; exact Sb.sub _ _ g
   ·by_cases hb:b=D
    ·subst hb; rw [bV] at g; cases g; trivial
    ·rw [bO hb] at g; exact Sb.smp _ _ g
   ·rw [ho] at hl; cases hl
  have S10:=S9.setO i fbD bV rl (by rw [ho]; simp); obtain ⟨oC,esC,epC,hoC,rC⟩:=id ns'; have nC:(upd H3 D (.lst ys)) C=none:=by rw [bO (Ne.symm hDC)]; exact hC
  have Jp:Inv X (pins++[(C,oC)]) σ (upd H3 D (.lst ys)) s':=J'.pins_of fun q hq=>(bE.mp hq).elim (fun z=>J'.pin q (aN _ z)) fun z=>by
   have z:q=(C,oC):=by simpa using z
   subst z
   exact ⟨hoC,nC,hL,fun y=>hst (by
    rcases J'.ok.stk with e | ⟨e,_⟩
    ·rw [e]; exact y
    ·rw [e]; unfold frs; rw [lO]; cases X.env.frame with
     | none=>exact y
     | some fr=>exact aF _ y),fun v z=>by rw [rC.1] at z; cases z⟩
  show wpAny _ X.A (assign (.Name y py) X.env (.ref D)) _ _ _; refine wpAny_assign_Name (vR (v:= .ref D) (u:= .ref D) Jp hN hi (.inl hy) rfl (fun s3 J3=> ?_) (.inr hy)); have pC:=J3.pin (C,oC) (aN _ (aN _ aG)); refine ⟨m',⟨oC,esC,epC,pC.1,rC⟩,fun h' sb=> ?_⟩; have J4:Inv X pins _ (upd H3 D (.lst ys)) s3:=J3.pins_of fun q hq=>J3.pin q (aN _ (cG _ hq))
  have J5:Inv X pins _ (upd H3 D (.lst ys)) {s3 with heap:=h',toks:=s3.toks}:=J4.turned (it:=C) (fun b o hb g=>sb.extBut b o hb g) nC hL (.inr h0) hcc hpp; refine ⟨_,_,J5,_,Fb,S10,s1'.trans sF1, ?_⟩; have hE':=hE D; simpa using hE'
end
noncomputable def stepNames:List Str:=["and","or","xor","add","take","copy","put","not","up","down"]
noncomputable def nm (k:Nat):Str:=stepNames.getD k "down"
noncomputable def iU (k:Nat) (i j n:Int):D:=if k<6 then .tup [.str (nm k), .int i, .int j] else if k=6 then .tup [.str (nm k), .int i, .int n] else .tup [.str (nm k), .int i]
noncomputable def selfW (k:Nat) (m a:Int):Int:=match k with
 | 7=>m - 1 - a
 | 8=>a * 2%m
 | _=>a / 2
noncomputable def zG (k:Nat) (m a c:Int):Int:=match k with
 | 0=>Builtin.bitAnd a c
 | 1=>Builtin.bitOr a c
 | 2=>Builtin.bitXor a c
 | 3=>(a+c)%m
 | 4=>(a - c)%m
 | _=>c
noncomputable def newW (k:Nat) (m a c n:Int):Int:=if k=6 then n else if 7≤k then selfW k m a else zG k m a c
theorem nm_and:∀k,k<10→decide (V.str (nm k)=V.str "and")=decide (k=0):=by decide+kernel
theorem nm_or:∀k,k<10→decide (V.str (nm k)=V.str "or")=decide (k=1):=by decide+kernel
theorem nm_xor:∀k,k<10→decide (V.str (nm k)=V.str "xor")=decide (k=2):=by decide+kernel
theorem nm_add:∀k,k<10→decide (V.str (nm k)=V.str "add")=decide (k=3):=by decide+kernel
theorem zO:∀k,k<10→decide (V.str (nm k)=V.str "take")=decide (k=4):=by decide+kernel
theorem sI:∀k,k<10→decide (V.str (nm k)=V.str "put")=decide (k=6):=by decide+kernel
theorem yA:∀k,k<10→decide (V.str (nm k)=V.str "not")=decide (k=7):=by decide+kernel
theorem nm_up:∀k,k<10→decide (V.str (nm k)=V.str "up")=decide (k=8):=by decide+kernel
theorem nm_self:∀k,k<10→inV (V.str (nm k)) [V.str "not",V.str "up",V.str "down"]=decide (7≤k):=by decide+kernel
theorem bits_rng:∀b,b<7→∀a,a<2^b→∀c,c<2^b→∀k,k<3→0≤zG k 0 ((a:Nat):Int) ((c:Nat):Int)∧zG k 0 ((a:Nat):Int) ((c:Nat):Int)<((2^b:Nat):Int):=by decide+kernel
theorem anoW0 {k:Nat} (h:k<3) (m a c:Int):zG k m a c=zG k 0 a c:=by
 match k,h with
 | 0,_=>rfl
 | 1,_=>rfl
 | 2,_=>rfl
theorem newW_rng {b k:Nat} {a c n:Int} (hb:b<7) (hk:k<10) (ha:0≤a∧a<((2^b:Nat):Int)) (hc:0≤c∧c<((2^b:Nat):Int)) (hn:0≤n∧n<((2^b:Nat):Int)):0≤newW k ((2^b:Nat):Int) a c n∧newW k ((2^b:Nat):Int) a c n<((2^b:Nat):Int):=by
 have ea:a=((a.toNat:Nat):Int):=by omega
 have ec:c=((c.toNat:Nat):Int):=by omega
 have la:a.toNat<2^b:=by have:=ha.2; generalize 2^b=q at *; omega
 have lc:c.toNat<2^b:=by have:=hc.2; generalize 2^b=q at *; omega
 have tab:∀k,k<3→0≤zG k ((2^b:Nat):Int) a c∧zG k ((2^b:Nat):Int) a c<((2^b:Nat):Int):=fun k hk=>by rw [anoW0 hk,ea,ec]; exact bits_rng b hb _ la _ lc k hk
 have mpos:(0:Int)<((2^b:Nat):Int):=by omega
 match k,hk with
 | 0,_=>exact tab 0 (by decide)
 | 1,_=>exact tab 1 (by decide)
 | 2,_=>exact tab 2 (by decide)
 | 3,_=>exact ⟨dY _ (lR mpos),cS _ mpos⟩
 | 4,_=>exact ⟨dY _ (lR mpos),cS _ mpos⟩
 | 5,_=>exact hc
 | 6,_=>exact hn
 | 7,_=>show 0≤((2^b:Nat):Int) - 1 - a∧((2^b:Nat):Int) - 1 - a<((2^b:Nat):Int); generalize ((2^b:Nat):Int)=q at *; omega
 | 8,_=>exact ⟨dY _ (lR mpos),cS _ mpos⟩
 | 9,_=>show 0≤a / 2∧a / 2<((2^b:Nat):Int); generalize ((2^b:Nat):Int)=q at *; omega
section
variable {X:Cx} {sd:List Slot} {e a b c tg iter:Expr} {es:List Expr} {pos:Pos} {d:D}
theorem pd_eqI {i j:Int} (ha:PEd X sd a (.val (.int i))) (hb:PEd X sd b (.val (.int j))):PEd X sd (.Compare a [.Eq] [b] pos) (.val (.bl (decide (i=j)))):=
 tR op_eq ha hb trivial (hV _) fun σ F H v u Q S q1 q2 k=>by
  simp only [ResOk,Rep] at q1 q2; subst q1; subst q2; refine ⟨rfl, ?_⟩; have e:decide (V.int i=V.int j)=decide (i=j):=by rw [qR,pA]
  rw [e]; exact k F H S (Same.refl _)
end
section
variable {X:Cx} {sd:List Slot} {e a b c tg iter o:Expr} {es:List Expr} {pos:Pos} {r ra rb:R} {d:D} {ds:List D} {st:Stmt} {rest:List Stmt} {E:jG}
theorem PEd.ic {i j:Int} (h:PEd X sd e (.val (.int i))) (q:i=j):PEd X sd e (.val (.int j)):=q▸h
end
mutual
noncomputable def noL:D→Bool
 | .tup ds=>qE ds
 | .lst _=>false
 | .scr _=>false
 | .dic=>false
 | .dki _ _=>false
 | .any _=>false
 | _=>true
noncomputable def qE:List D→Bool
 | []=>true
 | d::ds=>noL d && qE ds
end
noncomputable def del (F:Hp) (l:Addr):Hp:=fun b=>if b=l then none else F b
theorem pK {F:Hp} {l b:Addr} (h:b≠l):del F l b=F b:=by unfold del; rw [if_neg h]
theorem vT {F:Hp} {l:Addr}:del F l l=none:=by unfold del; rw [if_pos rfl]
mutual
theorem Rep.del {K:aA} {F:Hp} {l:Addr} {xs:List V} (hl:F l=some (.lst xs)):∀ {d:D} {v:V},noL d=true→Rep K F d v→Rep K (del F l) d v
 | .non,_,_,r=>by simpa only [Rep] using r
 | .bl _,_,_,r=>by simpa only [Rep] using r
 | .int _,_,_,r=>by simpa only [Rep] using r
 | .str _,_,_,r=>by simpa only [Rep] using r
 | .tup ds,v,h,r=>by
  simp only [Rep] at r ⊢; obtain ⟨a,ys,e,q,rl⟩:=r
  have ne:a≠l:=fun z=>by rw [z,hl] at q; cases q
  exact ⟨a,ys,e,by rw [pK ne]; exact q,RepL.del hl (by simpa only [noL] using h) rl⟩
 | .lst _,_,h,_=>by simp [noL] at h
 | .dic,_,h,_=>by simp [noL] at h
 | .dki _ _,_,h,_=>by simp [noL] at h
 | .any _,_,h,_=>by simp [noL] at h
 | .scr _,_,h,_=>by simp [noL] at h
theorem RepL.del {K:aA} {F:Hp} {l:Addr} {xs:List V} (hl:F l=some (.lst xs)):∀ {ds:List D} {ys:List V},qE ds=true→RepL K F ds ys→RepL K (del F l) ds ys
 | [],_,_,r=>by simpa only [RepL] using r
 | d::ds,ys,h,r=>by simp only [qE,bL] at h; obtain ⟨y,zs,rfl,a,rl⟩:=r.uncons; exact .cons (Rep.del hl h.1 a) (RepL.del hl h.2 rl)
end
theorem slots_of {K:aA} {F H:Hp}:∀ {sd:List Slot} {σ:St},σ.length=sd.length→(∀ (k:Nat) (z:Slot),sd[k]? =some z→∃o,σ[k]? =some o∧iK K F H z o)→SlotsOk K F H sd σ
 | [],[],_,_=>rfl
 | z::zs,o::r,hl,h=>by
  obtain ⟨o',e,q⟩:=h 0 z rfl; have:o=o':=by simpa using e
  subst this
  exact ⟨o,r,rfl,q,slots_of (by simpa using hl) fun k z hz=>by
   obtain ⟨o',e,q⟩:=h (k+1) z (by simpa using hz)
   exact ⟨o',by simpa using e,q⟩⟩
 | [],_::_,hl,_=>by simp at hl
 | _::_,[],hl,_=>by simp at hl
noncomputable def okS:Slot→Bool
 | .own _ ds=>qE ds
 | .od _ _ ds=>qE ds
 | .ox _ _=>false
 | _=>true
noncomputable def Oth (sd:List Slot) (i:Nat):Prop:=∀ (k:Nat) (z:Slot),k≠i→sd[k]? =some z→okS z=true
section
variable {K:aA} {H₀ F F' H H':Hp} {σ:St} {sd:List Slot} {i:Nat} {l:Addr} {ds:List D} {xs:List V}
theorem StF.lend (S:StF K H₀ F H σ sd) (hs:sd[i]? =some (.own l ds)) (hx:H l=some (.lst xs)):StF K H₀ (upd F l (.lst xs)) H σ (sd.set i (.val (.lst ds))):=by obtain ⟨o,h1,h2,n,ys,q,rl⟩:=S.slots.get hs; rw [hx] at q; cases q; have S0:=S.le (gX sd i); obtain ⟨S1,s1⟩:=S0.freeze hx n (oW S.nd hs); have S2:=S1.set (d:= .lst ds) (v:= .ref l) i (by simp only [Rep]; exact ⟨l,xs,rfl,bV,rl.mono s1⟩); rw [jS,lF (by rw [h1,h2])] at S2; exact S2
theorem StF.back (S:StF K H₀ F H σ sd) (hs:sd[i]? =some (.own l ds)) (hx:H l=some (.lst xs)) (ho:Oth sd i) (S':StF K H₀ F' H' σ (sd.set i (.val (.lst ds)))) (s:Same (upd F l (.lst xs)) F'):StF K H₀ (del F' l) H' σ sd∧Same F (del F' l)∧F' l=some (.lst xs):=by
 obtain ⟨o,h1,h2,n,ys,q,rl⟩:=S.slots.get hs; rw [hx] at q; cases q; have fl:F' l=some (.lst xs):=s _ _ bV
 have sF:Same F (del F' l):=fun b u e=>by have ne:b≠l:=cB e n; rw [pK ne]; exact s _ _ (by rw [bO ne]; exact e)
 refine ⟨⟨fun b u e=>sF _ _ (S.base _ _ e),fun b u e=> ?_,S'.smp, ?_,S.nd⟩,sF,fl⟩
 ·by_cases h:b=l
  ·subst h; rw [vT] at e; cases e
  ·rw [pK h] at e; exact S'.sub _ _ e
 ·refine slots_of S.slots.len fun k z hz=> ?_
  by_cases hk:k=i
  ·subst hk; rw [hs] at hz; cases hz; exact ⟨o,h1,h2,vT,xs,S'.sub _ _ fl,rl.mono sF⟩
  ·obtain ⟨o1,g1,g2⟩:=S.slots.get hz; obtain ⟨o2,g3,g4⟩:=S'.slots.get (i:=k) (z:=z) (by rw [pH (Ne.symm hk)]; exact hz); rw [g1] at g3; cases g3; refine ⟨o1,g1, ?_⟩; cases z with
   | un=>trivial
   | val d=>obtain ⟨v,e,r⟩:=g2; exact ⟨v,e,r.mono sF⟩
   | gh d G=>obtain ⟨v,e,r,g⟩:=g2; exact ⟨v,e,r.mono sF,fun F2 s2=>g F2 (sF.trans s2)⟩
   | own l' ds'=>
    obtain ⟨e,n',ys,q',rl'⟩:=g4
    have ne:l'≠l:=fun e2=>by rw [e2,fl] at n'; cases n'
    exact ⟨e,by rw [pK ne]; exact n',ys,q',RepL.del fl (ho k _ hk hz) rl'⟩
   | od l' ks ds'=>
    obtain ⟨e,n',ys,q',ln,rl'⟩:=g4
    have ne:l'≠l:=fun e2=>by rw [e2,fl] at n'; cases n'
    exact ⟨e,by rw [pK ne]; exact n',ys,q',ln,RepL.del fl (ho k _ hk hz) rl'⟩
   | ox ls G=>exact absurd (ho k _ hk hz) (by simp [okS])
end
section
variable {X:Cx} {sd:List Slot} {e a b c tg iter o:Expr} {es:List Expr} {pos:Pos} {r ra rb:R} {d:D} {ds:List D} {st:Stmt} {rest:List Stmt} {E:jG}
theorem PTd.lend (i:Nat) {l:Addr} {k:Bool} (hs:sd[i]? =some (.own l ds)) (ho:Oth sd i) (h:PTd X (sd.set i (.val (.lst ds))) e k):PTd X sd e k:= .mk fun σ F H S=>by
 obtain ⟨o,h1,h2,n,xs,q,rl⟩:=S.slots.get hs; refine (h σ _ H (S.lend hs q)).imp fun v H' ⟨e,F',S',s'⟩=> ?_
 obtain ⟨S2,s2,fl⟩:=S.back hs q ho S' s'; exact ⟨e,del F' l,S2,s2⟩
theorem PTd.cast {k k':Bool} (h:PTd X sd e k) (q:k=k'):PTd X sd e k':=q▸h
noncomputable def othB:List Slot→Nat→Bool
 | [],_=>true
 | _::zs,0=>zs.all okS
 | z::zs,i+1=>okS z && othB zs i
theorem oth_b:∀ {sd:List Slot} {i:Nat},othB sd i=true→Oth sd i
 | [],_,_,k,y,_,hz=>by simp at hz
 | z::zs,0,h,k,y,hk,hz=>by
  cases k with
  | zero=>exact absurd rfl hk
  | succ k=>exact fM.mp (show zs.all okS=true from h) _ (bB (by simpa using hz))
 | z::zs,i+1,h,k,y,hk,hz=>by
  have h':(okS z && othB zs i)=true:=h; rw [bL] at h'; cases k with
  | zero=>
   have:z=y:=by simpa using hz
   subst this; exact h'.1
  | succ k=>exact oth_b h'.2 k y (fun q=>hk (by rw [q])) (by simpa using hz)
theorem psd_move (i j:Nat) {x y:Str} {p q:Pos} {l:Addr} (hs:sd[j]? =some (.own l ds)) (hN:X.N.Nodup) (hi:X.N[i]? =some x) (hx:Loc X.env.scope x) (hy:PE X (.Name y q) (mG j)) (hE:E.nx ((sd.set j .un).set i (.own l ds))) (hsw:swapsWith (.Name y q) (some (.Name x p)) pos.line X.env=pure false:=by rfl)
  (hf:X.fn x=true∨X.env.scope.names.lookup x=some .local:=by first | exact .inl rfl | exact .inr rfl | assumption):PSd1 X sd (.Assign [.Name x p] (.Name y q) pos) E:= .mk fun σ F H S=>
 (sG hN hi hx hy hsw hf).to (by
  obtain ⟨o,h1,h2,n,xs,g,rl⟩:=S.slots.get hs
  exact ⟨.ref l,by rw [h1,h2],_,F,(S.le (gX sd j)).setO i n g rl (oW S.nd hs),Same.refl _,hE⟩)
theorem ptd_eqD (ha:PEd X sd a ra) (hb:PEd X sd b rb) (ka:ra.keeps) (kb:rb.keeps) (hs:(isT ra.toD=true∧isT rb.toD=true)∨(isL ra.toD=true∧isL rb.toD=true)) (p1:pl ra.toD=true) (p2:pl rb.toD=true) (hu:X.A.units+dep ra.toD+1<cLine):PTd X sd (.Compare a [.Eq] [b] pos) (deq ra.toD rb.toD):=
 jP (op_eqD X.K _ _ hs p1 p2 hu) ha hb ka (hV _) fun σ F H v u Q S q1 q2 k=>⟨q1.rep S ka,q2.rep S kb,k F H S (Same.refl _)⟩
theorem call_intB:oB X (.type "int") (fun xs H Q=>∃k,xs=[.bl k]∧Q (.int (if k then 1 else 0)) H):=by intro pins s σ H xs us Q I r h; obtain ⟨k,rfl,q⟩:=h; obtain ⟨u,rfl,ru⟩:=oJ r; cases (show u=Value.bool k from ru); exact call_int_bool ⟨.int _,H,I.kept fun b o g=>g,⟨_,rfl⟩,q⟩
theorem pd_intB {p:Pos} {k:Bool} (hg:Gl X "int") (hm:X.mg "int"=none) (ha:PEd X sd e (.val (.bl k))) (hst:starEach [e] X.env=(false,eval e X.env)::starEach [] X.env:=by rfl):PEd X sd (.Call (.Name "int" p) [e] [] pos) (.val (.int (if k then 1 else 0))):=
 sC (he:=hst) call_intB hg hm PyProof.Rows.boot_int (aD ha aP trivial hst) fun σ F H vs Q S q kk=>by
  cases q with
  | cons q1 q2=>cases q2; simp only [ResOk,Rep] at q1; subst q1; exact ⟨k,rfl,kk _ F H S (Same.refl _) (by simp only [ResOk,Rep])⟩
theorem pd_slS {ns:List Int} {lo hi:Option Expr} {ol oh:Option Int} {p2:Pos} (ha:PEd X sd a (.val (.scr ns))) (hl:POd X sd lo ol) (hh:POd X sd hi oh):PEd X sd (.Subscript a (.Slice lo hi none p2) pos) (.own (DL.cutD (ns.map D.int) ol oh)):= .mk fun σ F H S=>by
 obtain ⟨tl,pl,kl⟩:=tV hl; obtain ⟨th,ph,kh⟩:=tV hh; refine (pe_slice sl_list iJ pl ph).to ((ha σ F H S).imp fun v H1 ⟨F1,S1,s1,q1⟩=>kl σ F1 H1 S1 _ fun F2 H2 S2 s2=>kh σ F2 H2 S2 _ fun F3 H3 S3 s3=> ?_); have q1:=Rep.mono (s2.trans (s3.trans S3.sub)) q1; simp only [Rep] at q1; obtain ⟨l,rfl,hl'⟩:=q1; refine ⟨l,_,rfl,hl',fun p hp=> ?_⟩; obtain ⟨S4,fp,no⟩:=S3.layO (xs:=wR (ns.map V.int) ol oh) hp
 have rl:RepL X.K F3 (ns.map D.int) (ns.map V.int):=by
  have g:∀l:List Int,RepL X.K F3 (l.map D.int) (l.map V.int):=fun l=>by
   induction l with
   | nil=>exact .nil
   | cons k l ih=>exact .cons (by simp only [Rep]) ih
  exact g ns
 exact ⟨F3,S4,(s1.trans s2).trans s3,p,_,rfl,fp,bV,rl.cut ol oh,no⟩
theorem call_sumL (hc:X.calm=true):oB X (.builtin "sum") (fun xs H Q=>∃ (a:Addr) (ns:List Int),xs=[.ref a]∧SqL X.K H a (ns.map V.int)∧Q (.int (preSum (fun i=>ns.getD i 0) ns.length)) H):=by
 intro pins s σ H xs us Q I r h; obtain ⟨a,ns,rfl,ha,q⟩:=h; obtain ⟨u,rfl,ru⟩:=oJ r; cases ru; obtain ⟨its,rv,p,hz⟩:=I.list ha; have hl:=rv.length; rw [aC] at hl; have isl:s.heap.IsList a its.toArray:=p.isList; have alt:a<s.heap.objs.size:=by obtain ⟨o,ho,_⟩:=isl; exact aO ho
 refine call_sum_walkAnyS (wpAny_pyIter_list isl ?_); refine ⟨s.heap.objs.size,_,_,_,its.toArray.size,_,_,fun i=>ns.getD i 0,rfl,(Walks.list (A:=X.A.in1) (I.ok.hd hc) s.heap.objs.size a (bP alt) its.toArray).toS,⟨⟨_,bG _ rfl,rfl,rfl⟩,isl.push _⟩,fun b hb=> ?_,fun i v hv=>(ints_at rv (by simpa using hv)).2,fun s' t' hm=> ?_⟩
 ·show b<(s.heap.push _).objs.size; rw [size_push']
  rcases aX.mp hb with e | hb
  ·rw [e]; exact kO _
  ·have e:b=a:=by simpa using hb
   rw [e]; exact nF alt
 ·rw [Moved.eq_with hm]; have sz:its.toArray.size=ns.length:=by rw [aS,hl]
  rw [sz]; refine ⟨.int _,H,I.kept fun b o g=>hm.heap b o (fun hI=> ?_) (aE _ g),⟨_,rfl⟩,q⟩; have e:b=s.heap.objs.size:=by simpa using hI
  exact absurd (aO g) (by rw [e]; exact eU _)
theorem pd_sumL {p:Pos} {ns:List Int} (hg:Gl X "sum") (hm:X.mg "sum"=none) (ha:PEd X sd e (.bor (ns.map D.int))) (hc:X.calm=true:=by rfl) (hst:starEach [e] X.env=(false,eval e X.env)::starEach [] X.env:=by rfl):PEd X sd (.Call (.Name "sum" p) [e] [] pos) (.val (.int (preSum (fun i=>ns.getD i 0) ns.length))):=
 oI (he:=hst) (call_sumL hc) hg hm boot_sum (aD ha aP trivial hst) fun σ F H vs Q S q k=>by
  cases q with
  | cons q1 q2=>cases q2; obtain ⟨p,xs,rfl,hp,rl,_⟩:=q1; exact ⟨p,ns,rfl, .of (by rw [← rl.ints]; exact hp),k _ F H S (Same.refl _) (by simp only [ResOk,Rep])⟩
end
noncomputable def CCell:List D→R→Prop:=fun ds r=>∃ (ns:List Int) (k:Nat),ds=[.scr ns, .int (k:Int)]∧k≤1000∧r= .val (.int (ns.getD k 0))
noncomputable abbrev SQ:=Nat × Int × Int × Int
noncomputable def sqD (q:SQ):D:=iU q.1 q.2.1 q.2.2.1 q.2.2.2
structure pW (p:Int × Int) (q:SQ):Prop where
 sz:p∈bX
 k10:q.1<10
 i0:0≤q.2.1∧q.2.1<p.2
 j0:0≤q.2.2.1∧q.2.2.1<p.2
 n0:0≤q.2.2.2∧q.2.2.2<((2^p.1.toNat:Nat):Int)
theorem pw0 (n:Nat):(0:Int)<((2^n:Nat):Int):=by have:0<2^n:=Nat.pow_pos (by decide); generalize 2^n=q at this ⊢; omega
noncomputable abbrev SK:=SQ × Int
noncomputable def skD (s:SK):D:= .tup [sqD s.1, .int s.2]
structure StkOk (p:Int × Int) (L:List SK):Prop where
 pos:0<L.length
 le:L.length≤8
 st:∀s∈L,pW p s.1∧1≤s.2∧s.2≤9
structure Fil (p:Int × Int) (ws:List Int):Prop where
 len:ws.length=p.2.toNat
 wd:∀w∈ws,0≤w∧w<((2^p.1.toNat:Nat):Int)
noncomputable def nwQ (p:Int × Int) (q:SQ) (ws:List Int):Int:=newW q.1 ((2^p.1.toNat:Nat):Int) (ws.getD q.2.1.toNat 0) (ws.getD q.2.2.1.toNat 0) q.2.2.2
noncomputable def onQ (p:Int × Int) (q:SQ) (ws:List Int):List Int:=ws.set q.2.1.toNat (nwQ p q ws)
noncomputable def nO (p:Int × Int) (L:List SK) (row:List Nat) (ws:List Int):List Int:=row.foldl (fun f t=>onQ p (L.getD t default).1 f) ws
theorem nwQ_rng {p:Int × Int} {q:SQ} {ws:List Int} (O:pW p q) (G:Fil p ws):0≤nwQ p q ws∧nwQ p q ws<((2^p.1.toNat:Nat):Int):=by obtain ⟨h1,h2,h3,h4,h5⟩:=pX p O.sz; exact newW_rng (by omega) O.k10 (G.wd _ (getD_mem (by have:=O.i0; rw [G.len]; omega))) (G.wd _ (getD_mem (by have:=O.j0; rw [G.len]; omega))) O.n0
theorem uA {p:Int × Int} {q:SQ} {ws:List Int} (O:pW p q) (G:Fil p ws):Fil p (onQ p q ws):=by
 refine ⟨by unfold onQ; rw [List.length_set]; exact G.len,fun w hw=> ?_⟩
 rcases List.mem_or_eq_of_mem_set hw with hw | rfl
 ·exact G.wd w hw
 ·exact nwQ_rng O G
theorem rowQ_fil {p:Int × Int} {L:List SK} (S:StkOk p L):∀ (row:List Nat) (ws:List Int),(∀t∈row,t<L.length)→Fil p ws→Fil p (nO p L row ws)
 | [],ws,_,G=>G
 | t::row,ws,h,G=>by have ht:=h t aG; exact rowQ_fil S row _ (fun u hu=>h u (aF _ hu)) (uA (S.st _ (getD_mem ht)).1 G)
theorem rowQ_snoc (p:Int × Int) (L:List SK) (row:List Nat) (t:Nat) (ws:List Int):nO p L (row++[t]) ws=onQ p (L.getD t default).1 (nO p L row ws):=by unfold nO; rw [jZ]; rfl
theorem nR {p:Int × Int} (hp:p∈bX) {ws:List Int} (h:ws∈gT (2^p.1.toNat) p.2.toNat):Fil p ws:=by
 have g:∀ (m k:Nat),∀s∈gT m k,s.length=k∧∀x∈s,0≤x∧x<(m:Int):=fun m k=>by
  induction k with
  | zero=>
   intro s h; have:s=[]:=by simpa [gT] using h
   subst this; exact ⟨rfl,fun x hx=>by cases hx⟩
  | succ k ih=>
   intro s h; obtain ⟨t,ht,hs⟩:=eA.mp h; obtain ⟨w,hw,rfl⟩:=aQ.mp hs; obtain ⟨a,b⟩:=ih t ht; refine ⟨by rw [aW,a]; rfl,fun x hx=> ?_⟩
   rcases bE.mp hx with hx | hx
   ·exact b x hx
   ·have e:x=(w:Int):=by simpa using hx
    have:=cN.mp hw; omega
 obtain ⟨a,b⟩:=g _ _ ws h; exact ⟨a,b⟩
noncomputable def aY (row:List Nat):List D:=row.map fun (t:Nat)=>D.int (t:Int)
noncomputable def prcL (L:List SK) (row:List Nat):List Int:=row.map fun t=>(L.getD t default).2
noncomputable def sumI (l:List Int):Int:=preSum (fun i=>l.getD i 0) l.length
theorem wK {f g:Nat→Int}:∀n,(∀i,i<n→f i=g i)→preSum f n=preSum g n
 | 0,_=>rfl
 | n+1,h=>by show preSum f n+f n=preSum g n+g n; rw [wK n fun i hi=>h i (by omega),h n (by omega)]
theorem sumI_snoc (l:List Int) (x:Int):sumI (l++[x])=sumI l+x:=by unfold sumI; rw [aW]; show preSum _ l.length+_=_; rw [wK (g:=fun i=>l.getD i 0) l.length fun i hi=>by simp [bS,gL hi]]; simp [bS]
section
variable {X:Cx} {sd:List Slot} {e a b c tg iter o:Expr} {es:List Expr} {pos:Pos} {r ra rb:R} {d:D} {ds:List D} {st:Stmt} {rest:List Stmt} {E:jG}
theorem pd_listL {p:Pos} (hg:Gl X "list") (hm:X.mg "list"=none) (ha:PEd X sd e (.bor ds)) (hst:starEach [e] X.env=(false,eval e X.env)::starEach [] X.env:=by rfl):PEd X sd (.Call (.Name "list" p) [e] [] pos) (.own ds):=
 sC (he:=hst) yB hg hm PyProof.Rows.boot_list (aD ha aP trivial hst) fun σ F H vs Q S q k=>by
  cases q with
  | cons q1 q2=>cases q2; obtain ⟨p,xs,rfl,hp,rl,_⟩:=q1; refine ⟨p,xs,rfl, .inl (.of hp),fun l hl=> ?_⟩; obtain ⟨S2,fp,no⟩:=S.layO (xs:=xs) hl; exact k _ F _ S2 (Same.refl _) ⟨l,xs,rfl,fp,bV,rl,no⟩
end
mutual
theorem deq_refl:∀d:D,pl d=true→deq d d=true
 | .non,_=>rfl
 | .bl b,_=>by simp [deq]
 | .int i,_=>by simp [deq]
 | .str x,_=>by simp [deq]
 | .tup ds,h=>by simp only [deq]; exact lA ds (by simpa only [pl] using h)
 | .lst ds,h=>by simp only [deq]; exact lA ds (by simpa only [pl] using h)
 | .dic,h=>by simp [pl] at h
 | .dki _ _,h=>by simp [pl] at h
 | .any _,h=>by simp [pl] at h
 | .scr _,h=>by simp [pl] at h
theorem lA:∀ds:List D,plL ds=true→iP ds ds=true
 | [],_=>rfl
 | d::ds,h=>by simp only [plL,bL] at h; simp only [iP,bL]; exact ⟨deq_refl d h.1,lA ds h.2⟩
end
theorem nat_get {row:List Nat} {k:Nat} {d:D} (h:(aY row)[k]? =some d):k<row.length∧d= .int ((row.getD k 0:Nat):Int):=by
 unfold aY at h; rw [bJ] at h; cases e:row[k]? with
 | none=>rw [e] at h; cases h
 | some z=>rw [e] at h; refine ⟨(aK.mp e).1, ?_⟩; rw [← cI.inj h,bS,e]; rfl
theorem sk_get {L:List SK} {t:Nat} (h:t<L.length):(L.map skD)[t]? =some (skD (L.getD t default)):=by rw [bJ]; simp [bS,h]
theorem row_take {row:List Nat} {k:Nat} (h:k<row.length):row.take (k+1)=row.take k++[row.getD k 0]:=by rw [eQ]; simp [bS,h]
noncomputable def ItAt (tp:Bool) (h:Heap) (it src:Addr) (i:Nat):Prop:=match tp with
 | true=>h.IsTupleIter it src i
 | false=>h.IsListIter it src i
noncomputable def SqAt (tp:Bool) (h:Heap) (src:Addr) (xs:Array Value):Prop:=match tp with
 | true=>h.IsTuple src xs
 | false=>h.IsList src xs
theorem ItAt.ex {tp:Bool} {h:Heap} {it src:Addr} {i:Nat} (x:ItAt tp h it src i):∃o,h.get? it=some o∧∀v,o.data≠ .cell v:=by
 cases tp with
 | true=>obtain ⟨o,e,_,d⟩:=(show h.IsTupleIter it src i from x); exact ⟨o,e,fun v z=>by rw [d] at z; cases z⟩
 | false=>obtain ⟨o,e,_,d⟩:=(show h.IsListIter it src i from x); exact ⟨o,e,fun v z=>by rw [d] at z; cases z⟩
theorem ItAt.keep {tp:Bool} {h h':Heap} {it src:Addr} {i:Nat} (x:ItAt tp h it src i) (k:∀o,h.get? it=some o→h'.get? it=some o):ItAt tp h' it src i:=by
 cases tp with
 | true=>exact Heap.IsTupleIter.at (show h.IsTupleIter it src i from x) k
 | false=>exact Heap.IsListIter.at (show h.IsListIter it src i from x) k
theorem SqAt.keep {tp:Bool} {h h':Heap} {src:Addr} {xs:Array Value} (x:SqAt tp h src xs) (k:∀o,h.get? src=some o→h'.get? src=some o):SqAt tp h' src xs:=by
 cases tp with
 | true=>exact Heap.IsTuple.at (show h.IsTuple src xs from x) k
 | false=>exact Heap.IsList.at (show h.IsList src xs from x) k
theorem SqAt.lt {tp:Bool} {h:Heap} {src:Addr} {xs:Array Value} (x:SqAt tp h src xs):src<h.objs.size:=by
 cases tp with
 | true=>obtain ⟨o,e,_⟩:=(show h.IsTuple src xs from x); exact aO e
 | false=>obtain ⟨o,e,_⟩:=(show h.IsList src xs from x); exact aO e
section
variable {prog:Program} {w:World} {A:Around} {E:Value→Shared→Prop} {s:Shared}
theorem nxT_item {it t:Addr} {i:Nat} {items:Array Value} {x:Value} {Q:Value→Shared→Prop} (hit:s.heap.IsTupleIter it t i) (hl:s.heap.IsTuple t items) (hx:items[i]? =some x) (hQ:∀h',h'.IsTupleIter it t (i+1)→Heap.SameBut it s.heap h'→Q x {s with heap:=h'}):wpAny (model prog w) A (Builtin.SmallTypes.nextOf (.ref it)) Q E s:=by unfold Builtin.SmallTypes.nextOf; obtain ⟨o,ho,hc,hd⟩:=id hit; obtain ⟨ol,hol,_,nl,hdl⟩:=hl; refine wpAny_bind (wpAny_callSpecial?_slot (name:=Str.ofString "__next__") hit.typeIs F.slot_tuple_iterator_next (wpAny_call_entry F.slot_tuple_iterator_next hit.typeIs F.entry_tuple_iterator_next ?_ (F.args_tuple_iterator_next_1 _))); show wpAny _ _ (field (.ref it) 0>>=fun l=>if (l==Value.none)=true then _ else field (.ref it) 1>>=_) _ _ s; refine wpAny_bind (wpAny_field ho hd (x:= .ref t) rfl ?_); rw [if_neg (by exact bI)]; refine wpAny_bind (wpAny_field ho hd (x:= .int i 0) rfl (show wpAny _ _ (seqItems? (.ref t)>>=_) _ _ s from wpAny_bind (wpAny_seqItems hol hdl ?_))); simp only [dO,hx]; refine wpAny_bind (wpAny_setField ho hd (by simp) (wpAny_pure ⟨x,rfl,wpAny_pure (hQ _ ⟨_,gH _ ho (Obj.isFreed_of_fields (Obj.data_mapFields hd _)),(Obj.cls_mapFields ..).trans hc, ?_⟩ (Heap.SameBut.update ..))⟩)); rw [Obj.data_mapFields hd]; simp [rawInt]
theorem nxT_end {it t:Addr} {i:Nat} {items:Array Value} {Q:Value→Shared→Prop} (hh:A.handled=none) (hit:s.heap.IsTupleIter it t i) (hl:s.heap.IsTuple t items) (hx:items[i]? =none)
  (hE:∀h' e,Heap.ExtBut it s.heap h'→(∃o,h'.get? e=some o∧o.cls= .type "StopIteration")→E (.ref e) {s with heap:=h'}):wpAny (model prog w) A (Builtin.SmallTypes.nextOf (.ref it)) Q E s:=by
 unfold Builtin.SmallTypes.nextOf; obtain ⟨o,ho,hc,hd⟩:=id hit; obtain ⟨ol,hol,_,nl,hdl⟩:=hl; refine wpAny_bind (wpAny_callSpecial?_slot (name:=Str.ofString "__next__") hit.typeIs F.slot_tuple_iterator_next (wpAny_call_entry F.slot_tuple_iterator_next hit.typeIs F.entry_tuple_iterator_next ?_ (F.args_tuple_iterator_next_1 _))); show wpAny _ _ (field (.ref it) 0>>=fun l=>if (l==Value.none)=true then _ else field (.ref it) 1>>=_) _ _ s; refine wpAny_bind (wpAny_field ho hd (x:= .ref t) rfl ?_); rw [if_neg (by exact bI)]; refine wpAny_bind (wpAny_field ho hd (x:= .int i 0) rfl (show wpAny _ _ (seqItems? (.ref t)>>=_) _ _ s from wpAny_bind (wpAny_seqItems hol hdl ?_))); simp only [dO,hx]; refine wpAny_bind (wpAny_rule (wpAny_bind (wpAny_setField ho hd (by simp) (show wpAny _ _ (newExc (.type "StopIteration") []>>=_) _ _ _ from wpAny_bind ?_)))); simp only [newExc,newTuple]; refine wpAny_bind (wpAny_newObj_type (wpAny_bind (m:=firstArgMember _ _) (wpAny_of_eq (a:=Value.none) (by first | rfl | (simp only [firstArgMember]; rfl)) (wpAny_newObj_type ?_ (by size_fits)))) (by size_fits)); simp only [raiseNew]; refine wpAny_bind (wpAny_handled ?_); rw [show A.in1.handled=none from hh]; exact wpAny_bind (wpAny_pure (wpAny_throw (hE _ _ (((Heap.SameBut.update ..).extBut.push _).push _) ⟨_,bG _ rfl,rfl⟩)))
theorem yO {tp:Bool} {it t:Addr} {i:Nat} {items:Array Value} {x:Value} {Q:Value→Shared→Prop} (hit:ItAt tp s.heap it t i) (hl:SqAt tp s.heap t items) (hx:items[i]? =some x) (hQ:∀h',ItAt tp h' it t (i+1)→Heap.SameBut it s.heap h'→Q x {s with heap:=h'}):wpAny (model prog w) A (Builtin.SmallTypes.nextOf (.ref it)) Q E s:=by
 cases tp with
 | true=>exact nxT_item hit hl hx hQ
 | false=>exact wpAny_nextOf_list_item hit hl hx hQ
theorem nx_end {tp:Bool} {it t:Addr} {i:Nat} {items:Array Value} {Q:Value→Shared→Prop} (hh:A.handled=none) (hit:ItAt tp s.heap it t i) (hl:SqAt tp s.heap t items) (hx:items[i]? =none)
  (hE:∀h' e,Heap.ExtBut it s.heap h'→(∃o,h'.get? e=some o∧o.cls= .type "StopIteration")→E (.ref e) {s with heap:=h'}):wpAny (model prog w) A (Builtin.SmallTypes.nextOf (.ref it)) Q E s:=by
 cases tp with
 | true=>exact nxT_end hh hit hl hx hE
 | false=>exact wpAny_nextOf_list_end hh hit hl hx hE
theorem zz_item {p1 p2:Bool} {z TI TO i1 i2 l1 l2:Addr} {k1 k2:Nat} {xs ys:Array Value} {x y a b:Value} {Q:Value→Shared→Prop} (D:ZipApart z TI TO i1 i2 l1 l2)
  (hz:IsZip s.heap z TI TO .none) (hTI:IsPair s.heap TI (.ref i1) (.ref i2)) (hTO:IsPair s.heap TO a b) (h1:ItAt p1 s.heap i1 l1 k1) (h2:ItAt p2 s.heap i2 l2 k2) (hl1:SqAt p1 s.heap l1 xs) (hl2:SqAt p2 s.heap l2 ys) (hx:xs[k1]? =some x) (hy:ys[k2]? =some y)
  (hQ:∀h',IsZip h' z TI TO (rawInt s.heap.objs.size)→IsPair h' TO x y→ItAt p1 h' i1 l1 (k1+1)→ItAt p2 h' i2 l2 (k2+1)→IsPair h' s.heap.objs.size x y→h'.objs.size=s.heap.objs.size+1→(∀c o,c≠z→c≠TO→c≠i1→c≠i2→s.heap.get? c=some o→h'.get? c=some o)→Q (.ref s.heap.objs.size) {s with heap:=h'}):
  wpAny (model prog w) A (Builtin.«zip.__next__» ⟨[.ref z],[]⟩) (fun fin s'=>∃v,fin= .done (.ret v)∧Q v s') E s:=by
 refine (show wpAny _ _ (field (.ref z) 2>>=fun _=>field (.ref z) 3>>=_) _ _ _ from wpAny_bind (wpAny_field hz rfl (x:= .bool false) rfl (wpAny_bind (wpAny_field hz rfl (x:= .ref TI) rfl (wpAny_bind (wpAny_seqItems hTI rfl ?_)))))); refine (show wpAny _ _ (Builtin.SmallTypes.ownedTupleIsFree (.ref z)>>=_) _ _ _ from wpAny_bind ?_); unfold Builtin.SmallTypes.ownedTupleIsFree; refine wpAny_bind (wpAny_field hz rfl (x:= .none) rfl (wpAny_pure ?_)); simp only [if_true]; refine wpAny_bind (wpAny_rule (wpAny_bind (wpAny_field hz rfl (x:= .ref TO) rfl (wpAny_bind (wpAny_setField_rec hz (by simp) fun g1 hz1 s1=> ?_)))))
 replace hz1:IsZip g1 z TI TO .ellipsis:=hz1
 refine wpAny_bind ?_; simp only [uD,List.zipIdx_nil,wN,List.forIn_nil]; have s1':=s1.extBut; refine wpAny_bind (wpAny_bind (wpAny_onRaise (show wpAny _ _ (Builtin.SmallTypes.nextOf (.ref i1)>>=_) _ _ _ from wpAny_bind (yO (h1.keep fun o e=>s1' _ _ D.i1z e) (hl1.keep fun o e=>s1' _ _ D.l1z e) hx fun g2 n1 s2=>wpAny_pure ?_)))); have s2':=s2.extBut; have o2:IsPair g2 TO a b:=s2' _ _ D.TOi1 (s1' _ _ D.TOz hTO); refine wpAny_bind (wpAny_seqItems o2 rfl (wpAny_bind (wpAny_updateSeq_pair o2 fun g3 o3 s3=>wpAny_bind (wpAny_letGo (wpAny_pure ?_)))))
 replace o3:IsPair g3 TO x b:=o3
 have s3':=s3.extBut; refine wpAny_bind (wpAny_bind (wpAny_onRaise (show wpAny _ _ (Builtin.SmallTypes.nextOf (.ref i2)>>=_) _ _ _ from wpAny_bind (yO (h2.keep fun o e=>s3' _ _ D.TOi2.symm (s2' _ _ D.i12.symm (s1' _ _ D.i2z e))) (hl2.keep fun o e=>s3' _ _ D.l2TO (s2' _ _ D.l2i1 (s1' _ _ D.l2z e))) hy fun g4 n2 s4=>wpAny_pure ?_)))); have s4':=s4.extBut; have o4:IsPair g4 TO x b:=s4' _ _ D.TOi2 o3; refine wpAny_bind (wpAny_seqItems o4 rfl (wpAny_bind (wpAny_updateSeq_pair o4 fun g5 o5 s5=>wpAny_bind (wpAny_letGo (wpAny_pure (wpAny_pure ?_))))))
 replace o5:IsPair g5 TO x y:=o5
 have s5':=s5.extBut; refine wpAny_bind (wpAny_seqItems o5 rfl (wpAny_bind (wpAny_newTuple ?_))); have sz:g5.objs.size=s.heap.objs.size:=by rw [s5.1,s4.1,s3.1,s2.1,s1.1]
 have z5:IsZip g5 z TI TO .ellipsis:=s5' _ _ D.TOz.symm (s4' _ _ D.i2z.symm (s3' _ _ D.TOz.symm (s2' _ _ D.i1z.symm hz1))); have k5:∀c o,c≠z→c≠TO→c≠i1→c≠i2→s.heap.get? c=some o→g5.get? c=some o:=fun c o c1 c2 c3 c4 e=>s5' _ _ c2 (s4' _ _ c4 (s3' _ _ c2 (s2' _ _ c3 (s1' _ _ c1 e))))
 have m1:ItAt p1 g5 i1 l1 (k1+1):=n1.keep fun o e=>s5' _ _ D.TOi1.symm (s4' _ _ D.i12 (s3' _ _ D.TOi1.symm e))
 have m2:ItAt p2 g5 i2 l2 (k2+1):=n2.keep fun o e=>s5' _ _ D.TOi2.symm e
 have zlt:z<g5.objs.size:=aO z5; refine (show wpAny _ _ (Builtin.SmallTypes.ownedTupleHandOut (.ref z) (.ref g5.objs.size)>>=_) _ _ _ from wpAny_bind ?_); unfold Builtin.SmallTypes.ownedTupleHandOut; refine wpAny_bind (wpAny_setField_rec (show IsZip (g5.push {cls:= .type "tuple",data:= .seq #[x,y]}) z TI TO .ellipsis from aE _ z5) (by simp) fun g7 z7 s7=> ?_)
 replace z7:IsZip g7 z TI TO (rawInt g5.objs.size):=z7
 refine wpAny_setField_rec z7 (by simp) fun g8 z8 s8=> ?_
 replace z8:IsZip g8 z TI TO (rawInt g5.objs.size):=z8
 have up:∀c o,c≠z→g5.get? c=some o→g8.get? c=some o:=fun c o c1 e=>s8.extBut _ _ c1 (s7.extBut _ _ c1 (aE _ e))
 have t8:IsPair g8 g5.objs.size x y:=s8.extBut _ _ (fQ zlt) (s7.extBut _ _ (fQ zlt) (bG _ rfl)); have q8:g8.objs.size=g5.objs.size+1:=by rw [s8.1,s7.1,hG]
 rw [sz] at z8 t8 q8; refine wpAny_pure ⟨_,rfl,show Q (.ref g5.objs.size) _ from ?_⟩; rw [sz]; exact hQ g8 z8 (up _ _ D.TOz o5) (m1.keep fun o e=>up _ o D.i1z e) (m2.keep fun o e=>up _ o D.i2z e) t8 q8 fun c o c1 c2 c3 c4 e=>up c o c1 (k5 c o c1 c2 c3 c4 e)
theorem zz_end {p1 p2:Bool} {z TI TO i1 i2 l1 l2:Addr} {k1 k2:Nat} {xs ys:Array Value} {a b:Value} {Q:Fin→Shared→Prop} (hh:A.handled=none) (D:ZipApart z TI TO i1 i2 l1 l2)
  (hz:IsZip s.heap z TI TO .none) (hTI:IsPair s.heap TI (.ref i1) (.ref i2)) (hTO:IsPair s.heap TO a b) (h1:ItAt p1 s.heap i1 l1 k1) (h2:ItAt p2 s.heap i2 l2 k2) (hl1:SqAt p1 s.heap l1 xs) (hl2:SqAt p2 s.heap l2 ys) (hend:xs[k1]? =none∨ys[k2]? =none)
  (hE:∀h' e,(∀c o,c≠z→c≠TO→c≠i1→c≠i2→s.heap.get? c=some o→h'.get? c=some o)→(∃o,h'.get? e=some o∧o.cls= .type "StopIteration")→E (.ref e) {s with heap:=h'}):
  wpAny (model prog w) A (Builtin.«zip.__next__» ⟨[.ref z],[]⟩) Q E s:=by
 refine (show wpAny _ _ (field (.ref z) 2>>=fun _=>field (.ref z) 3>>=_) _ _ _ from wpAny_bind (wpAny_field hz rfl (x:= .bool false) rfl (wpAny_bind (wpAny_field hz rfl (x:= .ref TI) rfl (wpAny_bind (wpAny_seqItems hTI rfl ?_)))))); refine (show wpAny _ _ (Builtin.SmallTypes.ownedTupleIsFree (.ref z)>>=_) _ _ _ from wpAny_bind ?_); unfold Builtin.SmallTypes.ownedTupleIsFree; refine wpAny_bind (wpAny_field hz rfl (x:= .none) rfl (wpAny_pure ?_)); simp only [if_true]; refine wpAny_bind (wpAny_rule (wpAny_bind (wpAny_field hz rfl (x:= .ref TO) rfl (wpAny_bind (wpAny_setField_rec hz (by simp) fun g1 hz1 s1=> ?_)))))
 replace hz1:IsZip g1 z TI TO .ellipsis:=hz1
 refine wpAny_bind ?_; simp only [uD,List.zipIdx_nil,wN,List.forIn_nil]; have s1':=s1.extBut; refine wpAny_bind (wpAny_bind (wpAny_onRaise (show wpAny _ _ (Builtin.SmallTypes.nextOf (.ref i1)>>=_) _ _ _ from ?_))); cases hx:xs[k1]? with
 | none=>
  refine wpAny_bind (nx_end hh (h1.keep fun o e=>s1' _ _ D.i1z e) (hl1.keep fun o e=>s1' _ _ D.l1z e) hx fun g2 e s2 he=> ?_); obtain ⟨oe,hoe,hce⟩:=he; have z2:IsZip g2 z TI TO .ellipsis:=s2 _ _ D.i1z.symm hz1; have ne:e≠z:=fun x=>by subst x; rw [z2] at hoe; cases hoe; simp at hce
  exact wpAny_setField_rec z2 (by simp) fun g3 _ s3=>hE g3 e (fun c o c1 _ c3 _ x=>s3.extBut _ _ c1 (s2 _ _ c3 (s1' _ _ c1 x))) ⟨oe,s3.extBut _ _ ne hoe,hce⟩
 | some x=>
  have hy:ys[k2]? =none:=by
   rcases hend with h | h
   ·rw [hx] at h; cases h
   ·exact h
  refine wpAny_bind (yO (h1.keep fun o e=>s1' _ _ D.i1z e) (hl1.keep fun o e=>s1' _ _ D.l1z e) hx fun g2 n1 s2=>wpAny_pure ?_); have s2':=s2.extBut; have o2:IsPair g2 TO a b:=s2' _ _ D.TOi1 (s1' _ _ D.TOz hTO); refine wpAny_bind (wpAny_seqItems o2 rfl (wpAny_bind (wpAny_updateSeq_pair o2 fun g3 o3 s3=>wpAny_bind (wpAny_letGo (wpAny_pure ?_))))); have s3':=s3.extBut; refine wpAny_bind (wpAny_bind (wpAny_onRaise (show wpAny _ _ (Builtin.SmallTypes.nextOf (.ref i2)>>=_) _ _ _ from wpAny_bind (nx_end hh (h2.keep fun o e=>s3' _ _ D.TOi2.symm (s2' _ _ D.i12.symm (s1' _ _ D.i2z e))) (hl2.keep fun o e=>s3' _ _ D.l2TO (s2' _ _ D.l2i1 (s1' _ _ D.l2z e))) hy fun g4 e s4 he=> ?_)))); obtain ⟨oe,hoe,hce⟩:=he; have z4:IsZip g4 z TI TO .ellipsis:=s4 _ _ D.i2z.symm (s3' _ _ D.TOz.symm (s2' _ _ D.i1z.symm hz1)); have ne:e≠z:=fun x=>by subst x; rw [z4] at hoe; cases hoe; simp at hce
  exact wpAny_setField_rec z4 (by simp) fun g5 _ s5=>hE g5 e (fun c o c1 c2 c3 c4 x=>s5.extBut _ _ c1 (s4 _ _ c4 (s3' _ _ c2 (s2' _ _ c3 (s1' _ _ c1 x))))) ⟨oe,s5.extBut _ _ ne hoe,hce⟩
theorem zzN_item {p1 p2:Bool} {z TI TO i1 i2 l1 l2:Addr} {k1 k2:Nat} {xs ys:Array Value} {x y a b:Value} {Q:Option Value→Shared→Prop} (D:ZipApart z TI TO i1 i2 l1 l2)
  (hz:IsZip s.heap z TI TO .none) (hTI:IsPair s.heap TI (.ref i1) (.ref i2)) (hTO:IsPair s.heap TO a b) (h1:ItAt p1 s.heap i1 l1 k1) (h2:ItAt p2 s.heap i2 l2 k2) (hl1:SqAt p1 s.heap l1 xs) (hl2:SqAt p2 s.heap l2 ys) (hx:xs[k1]? =some x) (hy:ys[k2]? =some y)
  (hQ:∀h',IsZip h' z TI TO (rawInt s.heap.objs.size)→IsPair h' TO x y→ItAt p1 h' i1 l1 (k1+1)→ItAt p2 h' i2 l2 (k2+1)→IsPair h' s.heap.objs.size x y→h'.objs.size=s.heap.objs.size+1→(∀c o,c≠z→c≠TO→c≠i1→c≠i2→s.heap.get? c=some o→h'.get? c=some o)→Q (some (.ref s.heap.objs.size)) {s with heap:=h'}):
  wpAny (model prog w) A (pyNext (.ref z)) Q E s:=by
 have hT:s.TypeIs (.ref z) "zip":=⟨_,hz,rfl⟩; unfold pyNext; exact wpAny_bind (wpAny_attempt (wpAny_callSpecial?_slot (name:=Str.ofString "__next__") hT F.slot_zip_next (wpAny_call_entry F.slot_zip_next hT F.entry_zip_next (zz_item D hz hTI hTO h1 h2 hl1 hl2 hx hy fun h' a1 a2 a3 a4 a5 a6 a7=>wpAny_pure (hQ h' a1 a2 a3 a4 a5 a6 a7)) (F.args_zip_next_1 _))))
theorem zzN_end {p1 p2:Bool} {z TI TO i1 i2 l1 l2:Addr} {k1 k2:Nat} {xs ys:Array Value} {a b:Value} {Q:Option Value→Shared→Prop} (hh:A.handled=none) (D:ZipApart z TI TO i1 i2 l1 l2)
  (hz:IsZip s.heap z TI TO .none) (hTI:IsPair s.heap TI (.ref i1) (.ref i2)) (hTO:IsPair s.heap TO a b) (h1:ItAt p1 s.heap i1 l1 k1) (h2:ItAt p2 s.heap i2 l2 k2) (hl1:SqAt p1 s.heap l1 xs) (hl2:SqAt p2 s.heap l2 ys) (hend:xs[k1]? =none∨ys[k2]? =none)
  (hQ:∀h',(∀c o,c≠z→c≠TO→c≠i1→c≠i2→s.heap.get? c=some o→h'.get? c=some o)→Q none {s with heap:=h'}):wpAny (model prog w) A (pyNext (.ref z)) Q E s:=by
 have hT:s.TypeIs (.ref z) "zip":=⟨_,hz,rfl⟩; unfold pyNext; refine wpAny_bind (wpAny_attempt (wpAny_callSpecial?_slot (name:=Str.ofString "__next__") hT F.slot_zip_next (wpAny_call_entry F.slot_zip_next hT F.entry_zip_next (zz_end hh D hz hTI hTO h1 h2 hl1 hl2 hend fun h' e hk he=> ?_) (F.args_zip_next_1 _)))); obtain ⟨o,ho,hc⟩:=he; exact wpAny_bind (wpAny_isInstance (T:="StopIteration") (b:=true) ⟨o,ho,hc⟩ isSubtype_stop (wpAny_pure (hQ _ hk)))
end
theorem inv_ch {X:Cx} {pins:List (Addr × Obj)} {σ:St} {H:Hp} {s:Shared} {h':Heap} {t':Nat} {ch:List Addr} (I:Inv X pins σ H s) (k:∀b o,b∉ch→s.heap.get? b=some o→h'.get? b=some o) (f:∀b∈ch,sZ X pins H b):Inv X pins σ H {s with heap:=h',toks:=t'}:=by
 have nit:∀b u,H b=some u→b∉ch:=fun b u q hb=>by rw [(f b hb).1] at q; cases q
 refine I.step (g':=s.gens) (d':=s.drawn) (ch:=ch) (fun b hb=> ?_) (fun b o _ _ hc q _=>k b o hc q) (fun b o _ _ hc q _=>⟨o.slots,k b o hc q⟩) (fun _ _ _ _ n=>n) (fun b o hc q=>⟨o,k b o hc q⟩) (fun _ _ q=>q) (fun _ _ _ q=>q) (fun b ps q=>⟨#[],by rw [q]; simp⟩) (fun m hm=> ?_) (fun b u q=> ?_) I.bare
 ·have z:=f b hb; exact ⟨z.2.2.2.1,z.2.1,z.2.2.2.2.1,z.2.2.2.2.2⟩
 ·obtain ⟨o,es,ep,ho,r⟩:=hm; exact ⟨o,es,ep,k _ o (fun hb=>(f _ hb).2.1 rfl) ho,r⟩
 ·refine (I.hok b u q).stay (fun c v hc g=> ?_) (fun _ g=>g) fun _ _ g=>g
  rcases hc with z | z
  ·rw [z] at g ⊢; exact k b v (nit b u q) g
  ·exact k c v (nit c _ z) g
noncomputable def SqB (tp:Bool) (K:aA) (H:Hp) (a:Addr) (xs:List V):Prop:=match tp with
 | true=>SqT K H a xs
 | false=>SqL K H a xs
theorem sE {X:Cx} {pins:List (Addr × Obj)} {σ:St} {H:Hp} {s:Shared} {tp:Bool} {a:Addr} {xs:List V} (I:Inv X pins σ H s) (h:SqB tp X.K H a xs):∃its:List Value,Vals xs its∧SqAt tp s.heap a its.toArray:=by
 cases tp with
 | true=>obtain ⟨its,rv,p,_⟩:=I.tuple (show SqT X.K H a xs from h); exact ⟨its,rv,p⟩
 | false=>obtain ⟨its,rv,p,_⟩:=I.list (show SqL X.K H a xs from h); exact ⟨its,rv,p.isList⟩
theorem sqB_inj {X:Cx} {pins:List (Addr × Obj)} {σ:St} {H:Hp} {s:Shared} {tp:Bool} {a:Addr} {xs ys:List V} (I:Inv X pins σ H s) (h:SqB tp X.K H a xs) (g:SqB tp X.K H a ys):xs=ys:=by
 cases tp with
 | true=>exact I.tuple_inj h g
 | false=>exact I.list_inj h g
noncomputable def Itz (p1 p2:Bool) (K:aA) (a b:Addr):It:=
 ⟨fun i H=>∃xs ys x y,SqB p1 K H a xs∧SqB p2 K H b ys∧xs[i]? =some x∧ys[i]? =some y,fun i H v H'=>∃p x y,v= .ref p∧H p=none∧H'=upd H p (.tup [x,y])∧(∀xs,SqB p1 K H a xs→xs[i]? =some x)∧∀ys,SqB p2 K H b ys→ys[i]? =some y,fun i H=>∃xs ys,SqB p1 K H a xs∧SqB p2 K H b ys∧(xs.length≤i∨ys.length≤i)⟩
theorem turn_zip {P:Program} {w:World} {K:aA} {elts:List Expr} {kk:Nat} {pos:Pos} {p1 p2:Bool} (a b z TI TO i1 i2:Addr) (D:ZipApart z TI TO i1 i2 a b):Turn P w K (.Tuple elts kk pos) (Itz p1 p2 K a b) [z,TO,i1,i2,TI] z (fun i h=>IsZip h z TI TO .none∧IsPair h TI (.ref i1) (.ref i2)∧(∃c d,IsPair h TO c d)∧ItAt p1 h i1 a i∧ItAt p2 h i2 b i) where
 mem:=by simp
 obj:=fun i h st c hc=>by
  obtain ⟨hz,hTI,⟨x,y,hTO⟩,h1,h2⟩:=st; simp only [aX,dE,or_false] at hc
  rcases hc with rfl | rfl | rfl | rfl | rfl
  ·exact ⟨_,hz,fun v q=>by cases q⟩
  ·exact ⟨_,hTO,fun v q=>by cases q⟩
  ·exact h1.ex
  ·exact h2.ex
  ·exact ⟨_,hTI,fun v q=>by cases q⟩
 keep:=fun i h h' st k=>by obtain ⟨hz,hTI,⟨x,y,hTO⟩,h1,h2⟩:=st; exact ⟨k z (by simp) _ hz,k TI (by simp) _ hTI,⟨x,y,k TO (by simp) _ hTO⟩,h1.keep fun o q=>k i1 (by simp) o q,h2.keep fun o q=>k i2 (by simp) o q⟩
 item:=by
  intro X hP hw hK hc i pins s σ H E I hf st hg; subst hP hw hK; obtain ⟨hz,hTI,⟨c,d,hTO⟩,h1,h2⟩:=st; obtain ⟨xs,ys,x,y,qx,qy,ex,ey⟩:=hg; obtain ⟨its,rv,sx⟩:=sE I qx; obtain ⟨jts,rw',sy⟩:=sE I qy; obtain ⟨u,hu,ru⟩:=rv.get ex; obtain ⟨v,hv,rv'⟩:=rw'.get ey; refine zzN_item D hz hTI hTO h1 h2 sx sy (x:=u) (y:=v) (by simpa using hu) (by simpa using hv) fun g1 z1 o1 n1 n2 t1 sz1 k1=> ?_
  refine ⟨_,rfl,wpAny_letOwnedTupleGo_zip z1 fun g2 z2 s2=> ?_⟩; have s2':=s2.extBut
  have lt:∀b∈[z,TO,i1,i2,TI],b<s.heap.objs.size:=fun b hb=>by
   simp only [aX,dE,or_false] at hb
   rcases hb with rfl | rfl | rfl | rfl | rfl
   ·exact aO hz
   ·exact aO hTO
   ·obtain ⟨_,q,_⟩:=h1.ex; exact aO q
   ·obtain ⟨_,q,_⟩:=h2.ex; exact aO q
   ·exact aO hTI
  have I1:Inv X pins σ H {s with heap:=g2}:=inv_ch (t':=s.toks) (ch:=[z,TO,i1,i2]) I (fun b o hb q=>by
   simp only [aX,dE,or_false,not_or] at hb
   exact s2' _ _ hb.1 (k1 b o hb.1 hb.2.1 hb.2.2.1 hb.2.2.2 q)) fun b hb=>hf b (by simp only [aX,dE,or_false] at hb ⊢; rcases hb with q | q | q | q<;>simp [q])
  have hn:H s.heap.objs.size=none:=I.hok.fresh (aM _); have t2:g2.get? s.heap.objs.size=some {cls:= .type "tuple",data:= .seq #[u,v]}:=s2' _ _ (fQ (lt z (by simp))) t1
  have I2:Inv X pins σ (upd H s.heap.objs.size (.tup [x,y])) {s with heap:=g2}:=by
   refine I1.track hn I.sz (fQ I.lt) (fun y c q=> ?_) (fun y hy=> ?_) ⟨by show 2≤sizeLine; decide,[u,v], .cons ru (.cons rv' .nil),⟨_,t2,rfl,⟨_,rfl⟩,rfl⟩⟩
   ·obtain ⟨v,o,ho,_⟩:=I.cell y c q; exact bP (aO ho)
   ·exact bP (aO (I.pin y hy).1)
  refine ⟨.ref s.heap.objs.size,_,I2,rfl,⟨_,x,y,rfl,hn,rfl,fun zs hz=>by rw [sqB_inj I hz qx]; exact ex,fun zs hz=>by rw [sqB_inj I hz qy]; exact ey⟩,⟨z2,s2' _ _ D.TIz (k1 _ _ D.TIz D.TITO D.TIi1 D.TIi2 hTI),⟨_,_,s2' _ _ D.TOz o1⟩,n1.keep fun o q=>s2' _ _ D.i1z q,n2.keep fun o q=>s2' _ _ D.i2z q⟩,fun b hb=> ?_⟩; rw [bO (bP (lt b hb))]; exact (hf b hb).1
 done:=by
  intro X hP hw hK hc i pins s σ H E I hf st hg; subst hP hw hK; obtain ⟨hz,hTI,⟨c,d,hTO⟩,h1,h2⟩:=st; obtain ⟨xs,ys,qx,qy,hl⟩:=hg; obtain ⟨its,rv,sx⟩:=sE I qx; obtain ⟨jts,rw',sy⟩:=sE I qy; have l1:=rv.length; have l2:=rw'.length
  refine zzN_end (I.ok.hd hc) D hz hTI hTO h1 h2 sx sy (by
   rcases hl with q | q
   ·left; simp; omega
   ·right; simp
    omega) fun h' k=>⟨rfl, ?_⟩
  exact inv_ch (t':=s.toks) (ch:=[z,TO,i1,i2]) I (fun b o hb q=>by
   simp only [aX,dE,or_false,not_or] at hb
   exact k b o hb.1 hb.2.1 hb.2.2.1 hb.2.2.2 q) fun b hb=>hf b (by simp only [aX,dE,or_false] at hb ⊢; rcases hb with q | q | q | q<;>simp [q])
 self:=fun _ _ _ _ _ st h=>by obtain ⟨hz,_⟩:=st; exact wpAny_pyIter_zip hz h
noncomputable def itO (tp:Bool) (l:Addr):Obj:=match tp with
 | true=>{cls:= .type "tuple_iterator",data:= .fields #[.ref l, .int 0 0]}
 | false=>{cls:= .type "list_iterator",data:= .fields #[.ref l, .int 0 0]}
theorem itO_at {tp:Bool} {h:Heap} {it l:Addr} (e:h.get? it=some (itO tp l)):ItAt tp h it l 0:=by
 cases tp with
 | true=>exact ⟨_,e,rfl,rfl⟩
 | false=>exact ⟨_,e,rfl,rfl⟩
theorem itO_fr (tp:Bool) (l:Addr):(itO tp l).isFreed=false:=by cases tp<;>rfl
section
variable {prog:Program} {w:World} {A:Around} {E:Value→Shared→Prop} {s:Shared}
theorem pyI {tp:Bool} {l:Addr} {xs:Array Value} {Q:Value→Shared→Prop} (h:SqAt tp s.heap l xs) (hQ:Q (.ref s.heap.objs.size) {s with heap:=s.heap.push (itO tp l)}):wpAny (model prog w) A (pyIter (.ref l)) Q E s:=by
 cases tp with
 | true=>exact wpAny_pyIter_tuple h hQ
 | false=>exact wpAny_pyIter_list h hQ
end
noncomputable abbrev zA (p:Bool) (h:Heap) (l:Addr):Heap:=h.push (itO p l)
noncomputable abbrev zB (p q:Bool) (h:Heap) (l m:Addr):Heap:=(zA p h l).push (itO q m)
noncomputable abbrev zC (p q:Bool) (h:Heap) (l m:Addr):Heap:=(zB p q h l m).push {cls:= .type "tuple",data:= .seq #[.ref h.objs.size, .ref (zA p h l).objs.size]}
noncomputable abbrev zD (p q:Bool) (h:Heap) (l m:Addr):Heap:=(zC p q h l m).push {cls:= .type "tuple",data:= .seq #[.none, .none]}
noncomputable abbrev zE (p q:Bool) (h:Heap) (l m:Addr):Heap:=(zD p q h l m).push {cls:= .type "zip",data:= .fields #[.none, .bool false, .bool false, .ref (zB p q h l m).objs.size, .ref (zC p q h l m).objs.size]}
theorem new_zz (p q:Bool) (l m:Addr) (xs ys:Array Value):Meets (Builtin.«zip.__new__» ⟨[.type "zip", .ref l, .ref m],[]⟩) (fun _ R s=>SqAt p s.heap l xs∧SqAt q s.heap m ys∧R (.ok (.ret (.ref (zD p q s.heap l m).objs.size))) {s with heap:=zE p q s.heap l m}):=
 .of_wp fun prog w A R s h=>by
  obtain ⟨hp,g,d,tk,os⟩:=s; obtain ⟨a1,a2,h⟩:=h; have hsub:=sub_zip; have b1:SqAt p (Shared.heap ⟨hp,g,d,tk,os⟩) l xs:=a1; have b2:SqAt q (Shared.heap ⟨hp.push (itO p l),g,d,tk,os⟩) m ys:=SqAt.keep a2 fun o e=>aE _ e
  wp_walk using pyI b1,pyI b2
  exact ⟨_,rfl,h⟩
section
variable {prog:Program} {w:World} {A:Around} {E:Value→Shared→Prop} {s:Shared}
theorem call_zz {p q:Bool} {l m:Addr} {xs ys:Array Value} {Q:Value→Shared→Prop} (a1:SqAt p s.heap l xs) (a2:SqAt q s.heap m ys)
  (h:∀h',IsZip h' (s.heap.objs.size+4) (s.heap.objs.size+2) (s.heap.objs.size+3) .none→IsPair h' (s.heap.objs.size+2) (.ref s.heap.objs.size) (.ref (s.heap.objs.size+1))→IsPair h' (s.heap.objs.size+3) .none .none→ItAt p h' s.heap.objs.size l 0→ItAt q h' (s.heap.objs.size+1) m 0→(∀c o,s.heap.get? c=some o→h'.get? c=some o)→Q (.ref (s.heap.objs.size+4)) {s with heap:=h'}):
  wpAny (model prog w) A (call (.type "zip") [.ref l, .ref m]) Q E s:=by
 refine callType_new F.called_zip (by decide) (F.typeCall_zip_2 _ _) (F.newCall_zip_2 _ _) (fun obj=>F.args_object_init_3 obj _ _) F.entry_zip_new (new_zz p q l m xs ys) ⟨a1,a2, ?_⟩; have z1:(zA p s.heap l).objs.size=s.heap.objs.size+1:=hG ..; have z2:(zB p q s.heap l m).objs.size=s.heap.objs.size+2:=by rw [hG,z1]
 have z3:(zC p q s.heap l m).objs.size=s.heap.objs.size+3:=by rw [hG,z2]
 have z4:(zD p q s.heap l m).objs.size=s.heap.objs.size+4:=by rw [hG,z3]
 have g5:(zE p q s.heap l m).get? (zD p q s.heap l m).objs.size=some _:=bG _ rfl; have g4:(zE p q s.heap l m).get? (zC p q s.heap l m).objs.size=some _:=aE _ (bG _ rfl); have g3:(zE p q s.heap l m).get? (zB p q s.heap l m).objs.size=some _:=aE _ (aE _ (bG _ rfl)); have g2:(zE p q s.heap l m).get? (zA p s.heap l).objs.size=some (itO q m):=aE _ (aE _ (aE _ (bG _ (itO_fr q m)))); have g1:(zE p q s.heap l m).get? s.heap.objs.size=some (itO p l):=aE _ (aE _ (aE _ (aE _ (bG _ (itO_fr p l))))); show _∧_; rw [z2,z3,z4] at g5; rw [z1,z2] at g3; rw [z3] at g4; rw [z1] at g2; rw [z4]; exact ⟨⟨_,g5,rfl⟩,h _ g5 g3 g4 (itO_at g1) (itO_at g2) fun c o x=>aE _ (aE _ (aE _ (aE _ (aE _ x))))⟩
end
section
variable {X:Cx} {sd:List Slot} {e a b c tg iter:Expr} {es:List Expr} {pos:Pos} {r ra rb:R} {d:D} {ds:List D} {st:Stmt} {rest:List Stmt} {E:jG}
theorem pi_zip {elts:List Expr} {kk:Nat} {tp:Pos} {ta:TA} {p:Pos} {p1 p2:Bool} (hg:Gl X "zip") (hm:X.mg "zip"=none) (ha:PA X [a,b] ta) (hs:starEach [a,b] X.env=[(false,eval a X.env),(false,eval b X.env)]:=by rfl) (hs2:starEach [b] X.env=[(false,eval b X.env)]:=by rfl):
  PI X (.Tuple elts kk tp) (.Call (.Name "zip" p) [a,b] [] pos) (fun σ H R=>ta σ H fun vs H1=>∃l m,vs=[.ref l, .ref m]∧(∃xs,SqB p1 X.K H1 l xs)∧(∃ys,SqB p2 X.K H1 m ys)∧R (Itz p1 p2 X.K l m) H1):=by
 intro pins s σ H R I h; refine Call_ (mD I hg hm PyProof.Rows.boot_zip (PyProof.Rows.callWith_type1 (thn (ha pos pins s σ H _ I h) fun us s1 ⟨vs,H1,I1,r1,q1⟩=> ?_) (by rw [hs,hs2]) (by rw [hs2]; rfl))); obtain ⟨l,m,rfl,⟨xs,qx⟩,⟨ys,qy⟩,k⟩:=q1; cases r1 with
 | cons r rr=>
  cases rr with
  | cons r2 rr2=>
   cases rr2; cases r; cases r2; obtain ⟨its,rv,sx⟩:=sE I1 qx; obtain ⟨jts,rw',sy⟩:=sE I1 qy; refine call_zz sx sy fun h' a1 a2 a3 a4 a5 kp=>wpAny_pyIter_zip a1 ?_
   have I2:Inv X pins σ H1 {s1 with heap:=h'}:=I1.kept (t':=s1.toks) kp; have lx:=sx.lt; have ly:=sy.lt
   have ap:ZipApart (s1.heap.objs.size+4) (s1.heap.objs.size+2) (s1.heap.objs.size+3) s1.heap.objs.size (s1.heap.objs.size+1) l m:=by
    refine ⟨?_, ?_, ?_, ?_, ?_, ?_, ?_, ?_, ?_, ?_, ?_, ?_, ?_, ?_, ?_, ?_, ?_, ?_⟩
    all_goals first | (exact bP (by omega)) | (exact fQ (by omega)) | (exact bP lx) | (exact bP ly) | (exact bP (aU lx (Nat.le_add_right _ _))) | (exact bP (aU ly (Nat.le_add_right _ _)))
   refine ⟨s1.heap.objs.size+4,_,_,Itz p1 p2 X.K l m,H1,rfl,I2,turn_zip l m _ _ _ _ _ ap,⟨a1,a2,⟨_,_,a3⟩,a4,a5⟩,fun b hb=> ?_,k⟩
   have hb2:s1.heap.objs.size≤b:=by
    simp only [aX,dE,or_false] at hb
    rcases hb with rfl | rfl | rfl | rfl | rfl<;>omega
   exact I1.fpOk hb2 (I1.hok.fresh hb2)
noncomputable def zipD (ds es:List D):List D:=(bH (min ds.length es.length)).map fun (i:Nat)=>D.tup [ds.getD i .non,es.getD i .non]
theorem zipD_len (ds es:List D):(zipD ds es).length=min ds.length es.length:=by simp [zipD]
theorem zipD_get {ds es:List D} {i:Nat} {d:D} (h:(zipD ds es)[i]? =some d):∃x y,ds[i]? =some x∧es[i]? =some y∧d= .tup [x,y]:=by
 unfold zipD at h; rw [bJ] at h
 by_cases hi:i<min ds.length es.length
 ·rw [lP hi] at h; have h1:i<ds.length:=by omega
  have h2:i<es.length:=by omega
  refine ⟨ds[i],es[i],by simp [h1],by simp [h2], ?_⟩; rw [← cI.inj h]; simp [bS,h1,h2]
 ·rw [gG (by simpa using hi)] at h; cases h
noncomputable def seqD (tp:Bool) (ds:List D):D:=match tp with
 | true=> .tup ds
 | false=> .lst ds
theorem seq_rep {K:aA} {F:Hp} {tp:Bool} {ds:List D} {v:V} (h:Rep K F (seqD tp ds) v):∃a xs,v= .ref a∧RepL K F ds xs∧∀ {F' H:Hp},Same F F'→Same F' H→SqB tp K H a xs:=by
 cases tp with
 | true=>simp only [seqD,Rep] at h; obtain ⟨a,xs,e,ha,rl⟩:=h; exact ⟨a,xs,e,rl,fun s1 s2=> .of (s2 _ _ (s1 _ _ ha))⟩
 | false=>simp only [seqD,Rep] at h; obtain ⟨a,xs,e,ha,rl⟩:=h; exact ⟨a,xs,e,rl,fun s1 s2=> .of (s2 _ _ (s1 _ _ ha))⟩
theorem pid_zip {elts:List Expr} {kk:Nat} {tp p:Pos} {es2:List D} (p1 p2:Bool) (hg:Gl X "zip") (hm:X.mg "zip"=none) (ha:PEd X sd a (.val (seqD p1 ds))) (hb:PEd X sd b (.val (seqD p2 es2))) (hst:starEach [a,b] X.env=[(false,eval a X.env),(false,eval b X.env)]:=by rfl) (hst2:starEach [b] X.env=[(false,eval b X.env)]:=by rfl):
  PId X sd PT0 (.Tuple elts kk tp) (.Call (.Name "zip" p) [a,b] [] pos) (zipD ds es2):= .mk fun σ F H S=>
 (pi_zip (p1:=p1) (p2:=p2) hg hm vO hst hst2).to ((aD ha (aD hb aP trivial (by rw [hst2]; rfl)) trivial (by rw [hst,hst2]) σ F H S).imp fun vs H1 ⟨F1,S1,s1,q1⟩=>by
  cases q1 with
  | cons q1 q2=>
   cases q2 with
   | cons q2 q3=>
    cases q3; obtain ⟨l,xs,rfl,rx,sx⟩:=seq_rep (show Rep _ _ _ _ from q1); obtain ⟨m,ys,rfl,ry,sy⟩:=seq_rep (show Rep _ _ _ _ from q2); refine ⟨l,m,rfl,⟨xs,sx (Same.refl _) S1.sub⟩,⟨ys,sy (Same.refl _) S1.sub⟩,F1,S1,s1,fun F' H' sF sH sm _ i=>⟨fun hi=> ?_,fun hi=> ?_,fun x H2 d hd y=> ?_⟩⟩
    ·rw [zipD_len] at hi; exact ⟨xs,ys,xs[i]'(by rw [rx.len]; omega),ys[i]'(by rw [ry.len]; omega),sx sF sH,sy sF sH,by simp,by simp⟩
    ·rw [zipD_len] at hi; refine ⟨xs,ys,sx sF sH,sy sF sH, ?_⟩; rw [rx.len,ry.len]; omega
    ·obtain ⟨q,u,v,rfl,hq,rfl,hu,hv⟩:=y; obtain ⟨du,dv,e1,e2,rfl⟩:=zipD_get hd; have hu:=hu xs (sx sF sH); have hv:=hv ys (sy sF sH); obtain ⟨u',h1,ru⟩:=rx.get e1; obtain ⟨v',h2,rv⟩:=ry.get e2; rw [hu] at h1; rw [hv] at h2; cases h1; cases h2; have fq:F' q=none:=sH.free hq; have s2:Same F' (upd F' q (.tup [u,v])):=fun b o g=>by rw [bO (cB g fq)]; exact g
     refine ⟨upd F' q (.tup [u,v]),s2, ?_,fun H₀ σ sd S=>(S.lay (o:= .tup [u,v]) hq trivial).1⟩; simp only [Rep]
     exact ⟨q,_,rfl,bV, .cons ((ru.mono sF).mono s2) (.one ((rv.mono sF).mono s2))⟩)
end
theorem oK (L:List (List Int)) (m:Nat):(L.flatMap fun s=>(bH m).map fun (w:Nat)=>s++[(w:Int)]).length=L.length * m:=by
 induction L with
 | nil=>simp
 | cons s L ih=>rw [List.flatMap_cons,aW,ih,aC,gB,bU,Nat.succ_mul,Nat.add_comm]
theorem tW:∀ (m k:Nat),(gT m k).length=m^k
 | _,0=>rfl
 | m,k+1=>by show ((gT m k).flatMap _).length=_; rw [oK,tW m k,Nat.pow_succ]
theorem vD:∀ (m k:Nat),∀s∈gT m k,s.length=k
 | _,0,s,h=>by
  have:s=[]:=by simpa [gT] using h
  subst this; rfl
 | m,k+1,s,h=>by obtain ⟨t,ht,hs⟩:=eA.mp h; obtain ⟨w,_,rfl⟩:=aQ.mp hs; rw [aW,vD m k t ht]; rfl
theorem xQ:∀p∈bX,∀k,k<p.2.toNat→((2^p.1.toNat)^k) * 2^p.1.toNat≤900:=by decide+kernel
noncomputable def tabQ (p:Int × Int) (L:List SK) (row:List Nat):List (List Int):=(gT (2^p.1.toNat) p.2.toNat).map fun ws=>nO p L row ws
noncomputable def CTable:List D→R→Prop:=fun ds r=>∃p L row,p∈bX∧StkOk p L∧(∀t∈row,t<L.length)∧ds=[cH p, .lst (L.map skD), .tup (aY row)]∧r= .val (.tup ((tabQ p L row).map aV))
theorem kY {p:Int × Int} (hp:p∈bX):(gT (2^p.1.toNat) p.2.toNat).length≤64:=by
 have:∀p∈bX,(2^p.1.toNat)^p.2.toNat≤64:=by decide+kernel
 rw [tW]; exact this p hp
theorem oN {L:List (List Int)} {d:D} (h:d∈L.map aV):∃ws∈L,d=aV ws:=by obtain ⟨ws,hw,rfl⟩:=aQ.mp h; exact ⟨ws,hw,rfl⟩
noncomputable def iV:D→List Int
 | .tup ds=>ds.map fun d=>match d with | .int i=>i | _=>0
 | _=>[]
theorem gM (ws:List Int):iV (aV ws)=ws:=by
 show (ws.map D.int).map _=ws; rw [aR]
 induction ws with
 | nil=>rfl
 | cons w ws ih=>rw [bA,ih]; rfl
section
variable {X:Cx} {sd:List Slot} {e a b c tg iter o:Expr} {es:List Expr} {pos:Pos} {r ra rb:R} {d:D} {ds:List D} {st:Stmt} {rest:List Stmt} {E:jG}
noncomputable def isN:D→Bool
 | .non=>true
 | _=>false
theorem zM {K:aA} {H:Hp} {d:D} {v:V} (h:Rep K H d v):decide (v= .non)=isN d:=by
 cases d with
 | non=>simp only [Rep] at h; subst h; rfl
 | bl=>simp only [Rep] at h; subst h; rfl
 | int=>simp only [Rep] at h; subst h; rfl
 | str=>simp only [Rep] at h; subst h; rfl
 | tup=>simp only [Rep] at h; obtain ⟨a,xs,rfl,_⟩:=h; rfl
 | lst=>simp only [Rep] at h; obtain ⟨a,xs,rfl,_⟩:=h; rfl
 | dic=>simp only [Rep] at h; obtain ⟨a,rfl,_⟩:=h; rfl
 | dki=>simp only [Rep] at h; obtain ⟨a,xs,rfl,_⟩:=h; rfl
 | any=>simp only [Rep] at h; obtain ⟨⟨a,rfl⟩,_⟩:=h; rfl
 | scr=>simp only [Rep] at h; obtain ⟨a,rfl,_⟩:=h; rfl
theorem tP (ha:PEd X sd a (.val d)) (hb:PEd X sd b (.val .non)):PTd X sd (.Compare a [.Is] [b] pos) (isN d):=
 jP op_isN ha hb trivial (hV _) fun σ F H v u Q S q1 q2 k=>by simp only [ResOk,Rep] at q2; have q1:Rep _ _ _ _:=q1; exact ⟨q2,by rw [zM q1]; exact k F H S (Same.refl _)⟩
theorem ptd_notN (ha:PEd X sd a (.val d)) (hb:PEd X sd b (.val .non)):PTd X sd (.Compare a [.IsNot] [b] pos) (!isN d):=
 jP op_notN ha hb trivial (hV _) fun σ F H v u Q S q1 q2 k=>by simp only [ResOk,Rep] at q2; have q1:Rep _ _ _ _:=q1; exact ⟨q2,by rw [zM q1]; exact k F H S (Same.refl _)⟩
theorem pd_isN (ha:PEd X sd a (.val d)) (hb:PEd X sd b (.val .non)):PEd X sd (.Compare a [.Is] [b] pos) (.val (.bl (isN d))):=
 tR op_isN ha hb trivial (hV _) fun σ F H v u Q S q1 q2 k=>by simp only [ResOk,Rep] at q2; have q1:Rep _ _ _ _:=q1; exact ⟨q2,by rw [zM q1]; exact k F H S (Same.refl _)⟩
structure FunD (K:aA) (x qual:Str) (st:Stmt) (f:Addr) (fd:FuncData):Prop where
 ex:∃ (oc:Value) (od:Option Addr) (T:Addr) (kV doc pm:Value) (an:Option Addr) (cdv ct:Value) (osl:Array (Option Value)) (tc:Value) (td:Option Addr) (n:Nat) (tsl:Array (Option Value)),
  fd=dL x qual (gU st) (fG st) (bC st) (.ref T) kV doc pm an cdv ct∧K.lookup f=some ⟨oc,od, .func fd,osl⟩∧gY K cdv qual=true∧K.lookup T=some ⟨tc,td, .seq #[.none] n,tsl⟩
 kp:cY K (.ref f)=true
structure CalleeD (P:Program) (w:World) (K:aA) (mg:Str→Option Value) (base:Heap) (x:Str) (k n:Nat) (C:List D→R→Prop):Prop where
 ex:∃ (f:Addr) (fd:FuncData) (ps:List Str),mg x=some (.ref f)∧cY K (.ref f)=true∧Binds K fd ps []∧Binds K fd ps [.none]∧FnOk P w K mg base CX0 k f fd ps (spC K n C)
theorem CalleeD.full {P:Program} {w:World} {K:aA} {mg:Str→Option Value} {base:Heap} {x:Str} {k n:Nat} {C:List D→R→Prop} (G:CalleeD P w K mg base x k n C):bK P w K mg base x k n C:=by obtain ⟨f,fd,ps,a,b,c,_,d⟩:=G.ex; exact ⟨f,fd,ps,a,b,c,d⟩
theorem def_okD {P:Program} {w:World} {K:aA} {mg:Str→Option Value} {base:Heap} {x qual:Str} {st:Stmt} {f:Addr} {fd:FuncData} {N ps:List Str} {k:Nat} {C:List D→R→Prop} (F:FunD K x qual st f fd) (S:nQ N ps (bC st))
  (hm:mg x=some (.ref f)) (hb:∀ (s:Shared) (T:Addr) (o:Obj) (nn:Nat) (kV doc pm:Value) (an:Option Addr) (cdv ct:Value) (us:List Value),s.heap.get? T=some o→o.data= .seq #[.none] nn→us.length=ps.length→BindsTo s (dL x qual (gU st) (fG st) (bC st) (.ref T) kV doc pm an cdv ct) ⟨us,[]⟩ (ps.zip us))
  (hb2:∀ (s:Shared) (T:Addr) (o:Obj) (nn:Nat) (kV doc pm:Value) (an:Option Addr) (cdv ct:Value) (us:List Value),s.heap.get? T=some o→o.data= .seq #[.none] nn→us.length+1=ps.length→BindsTo s (dL x qual (gU st) (fG st) (bC st) (.ref T) kV doc pm an cdv ct) ⟨us,[]⟩ (ps.zip (us++[.none])))
  (body:∀ (cdv:Value) (A:Around) (outer:List Env) (s:Shared) (H:Hp) (E:XK),Room k (A.deeper (envOfC qual (bC st) s.heap.objs.size f cdv))→∀ds r,ds.length=ps.length→C ds r→
   PSd (nL CX0 P w K mg base N qual (bC st) f cdv A outer s H E).nox (init N.length ds) (fG st) {nx:=fun _=>r= .val .non,rt:=fun r'=>r'=r}):CalleeD P w K mg base x (k+1) ps.length C:=by
 obtain ⟨oc,od,T,kV,doc,pm,an,cdv,ct,osl,tc,td,n,tsl,rfl,lk,hcd,lT⟩:=F.ex; refine ⟨f,dL x qual (gU st) (fG st) (bC st) (.ref T) kV doc pm an cdv ct,ps,hm,F.kp,fun s us KX hl=> ?_,fun s us KX hl=> ?_, ?_⟩
 ·rw [cZ] at hl ⊢; exact hb s T _ n kV doc pm an cdv ct us (KX T _ lT) rfl hl
 ·exact hb2 s T _ n kV doc pm an cdv ct us (KX T _ lT) rfl (by simpa using hl)
 ·refine fn_of lk hcd S (fun vs H Q E h=>h.1) fun A outer s H vs Q E hr h=> ?_
  obtain ⟨hl,sm,ds,r,rl,c,q⟩:=h; have hds:ds.length=ps.length:=by rw [← rl.len]; exact hl
  refine ⟨_,pss_w.nox, ?_⟩; have hlen:N.length - vs.length=N.length - ds.length:=by rw [rl.len]
  have S0:StF K H H H (L2.start N vs) (init N.length ds):=by
   refine ⟨Same.refl _,Same.refl _,sm, ?_, ?_⟩
   ·unfold L2.start init; rw [hlen]; exact nN (m:=0) rl
   ·unfold init; rw [nM]; exact dG
  refine (body cdv A outer s H E hr ds r hds c (L2.start N vs) H H S0).imp ?_ ?_ (fun _ _ ⟨_,_,_,_,z⟩=>z) fun _ _ ⟨_,_,_,_,z⟩=>z
  ·rintro σ' H' ⟨sd',F',S',s',e⟩; have e:r= .val .non:=e; subst e; exact q .non H' ⟨F',S'.base,S'.sub,S'.smp,by simp only [ResOk,Rep]⟩
  ·rintro v H' ⟨r',ro,e⟩; have e:r'=r:=e; subst e; exact q v H' ro
theorem pd_callD {x:Str} {p:Pos} {k n:Nat} {C:List D→R→Prop} (G:CalleeD X.prog X.w X.K X.mg X.base x k n C) (hr:Room k X.A) (hg:Gl X x) (ha:PAd X sd (e::es) (ds.map R.val)) (hc:C (ds++[.non]) r) (hb:match r with | .bor _=>False | _=>True) (hn:ds.length+1=n)
  (hdb:(x==("__debug__":Str))=false:=by decide) (he:starEach (e::es) X.env=(false,eval e X.env)::starEach es X.env:=by rfl) (hpl:(backTo pos (starEach es X.env)).any (·.1)=false:=by rfl):
  PEd X sd (.Call (.Name x p) (e::es) [] pos) r:= .mk fun σ F H S=>by
 obtain ⟨f,fd,ps,hm,hk,_,bd,G⟩:=G.ex; refine (yM (FnOk.framed G) hr hg hm hk bd (show Vals [V.non] [Value.none] from .cons rfl .nil) pass0 vO hdb he hpl).to ((ha σ F H S).imp fun vs H1 ⟨F1,S1,s1,q1⟩=> ?_); have rl:RepL X.K F1 (ds++[.non]) (vs++[.non]):=q1.vals.app (.one (by simp only [Rep])); refine ⟨by rw [rl.len,aW]; exact hn,S1.smp,F1,_,r,S1.sub,rl,hc,fun v F2 F3 H' s2 s3 s4 sH sm kp res=> ?_⟩
 have no:∀l,l∈cC sd→F2 l=none∧F3 l=none:=fun l hl=>by obtain ⟨n1,xs,q,_⟩:=S1.slots.owns hl; have n3:=kp l _ q n1; exact ⟨s3.free n3,n3⟩
 refine ⟨F2,⟨fun b o e=>s2 _ _ (S1.base _ _ e),s3.trans s4,sm,S1.slots.mono s2 fun l hl=>⟨(no l hl).1,fun ys e=>sH _ _ e⟩,S1.nd⟩,s1.trans s2, ?_⟩; cases r with
 | val d=>exact res
 | own ds'=>obtain ⟨l,xs,e,n,q,rl',_⟩:=res; exact ⟨l,xs,e,n,s4 _ _ q,rl',fun hl=>by rw [(no l hl).2] at q; cases q⟩
 | pr d ls=>obtain ⟨t,l,xs,y,e,f,g,n,q,rl',_⟩:=res; exact ⟨t,l,xs,y,e,f,g,n,s4 _ _ q,rl',fun hl=>by rw [(no l hl).2] at q; cases q⟩
 | ox G=>obtain ⟨ls,nd,h,g⟩:=res; refine ⟨ls,nd,fun l hl=> ?_,fun F' H'' sF k=>g F' H'' sF fun l hl ob q=>k l hl ob (s4 _ _ q)⟩; obtain ⟨n,⟨ob,q,w⟩,_⟩:=h l hl; exact ⟨n,⟨ob,s4 _ _ q,w⟩,fun hm=>by rw [(no l hm).2] at q; cases q⟩
 | bor ds'=>exact hb.elim
theorem yZ {p p2 q2:Pos} {n:Nat} (hg:Gl X "list") (hm:X.mg "list"=none) (hg2:Gl X "range") (hm2:X.mg "range"=none) (ha:PEd X sd e (.val (.int (n:Int)))) (h1:n≤1000)
  (hc:X.calm=true:=by rfl) (hst:starEach [e] X.env=(false,eval e X.env)::starEach [] X.env:=by rfl) (hst2:starEach [.Call (.Name "range" p2) [e] [] q2] X.env=(false,eval (.Call (.Name "range" p2) [e] [] q2) X.env)::starEach [] X.env:=by rfl):
  PEd X sd (.Call (.Name "list" p) [.Call (.Name "range" p2) [e] [] q2] [] pos) (.own (gO 0 n)):= .mk fun σ F H S pins s I=>by
 refine wpAny_Call_Name_kw (mD I hg hm PyProof.Rows.boot_list ?_); refine PyProof.Rows.callWith_type1 ?_ hst2 rfl; rw [hst2]; refine Calls.spliced_cons (wpAny_Call_Name_kw (mD I hg2 hm2 boot_range ?_)); refine PyProof.Rows.callWith_type1 (thn ((iD (te:=wE X e) iJ pa_nil hst) q2 pins s σ H (fun us H1=>∃v F1,us=[v]∧StF X.K X.B₀ F1 H1 σ sd∧Same F F1∧ResOk X.K F1 H1 sd (.val (.int (n:Int))) v) I ((ha σ F H S).imp fun v H1 ⟨F1,S1,s1,q1⟩=>⟨v,F1,rfl,S1,s1,q1⟩)) fun us s1 hus=> ?_) hst rfl; obtain ⟨ws,H1,I1,rv,v,F1,rfl,S1,sF,q1⟩:=hus; obtain ⟨u,rfl,ru⟩:=oJ rv; simp only [ResOk,Rep] at q1; subst q1; obtain ⟨t,rfl⟩:=ru; refine call_range_1 (Calls.spliced_nil ?_); have hr:IsRange (s1.heap.push {cls:= .type "range",data:= .fields #[.int 0 s1.toks, .int (n:Int) t, .int 1 (s1.toks+1)]}) s1.heap.objs.size 0 (n:Int) 1 s1.toks t (s1.toks+1):=IsRange.new ..
 have sz:Builtin.Range.rangeSize 0 (n:Int) 1=(n:Int):=by
  rw [rangeSize_one]
  split<;>omega
 refine call_list_range (I1.ok.hd hc) hr (small_one (by omega) (by omega) (by omega) (by omega)) sz (by omega) fun h' tk acc c' kp g it=> ?_
 have kp2:∀b o,s1.heap.get? b=some o→h'.get? b=some o:=fun b o g=>kp b o (aE _ g)
 have le:s1.heap.objs.size≤(s1.heap.push {cls:= .type "range",data:= .fields #[.int 0 s1.toks, .int (n:Int) t, .int 1 (s1.toks+1)]}).objs.size:=by rw [size_push']; exact iZ _
 generalize (s1.heap.push {cls:= .type "range",data:= .fields #[.int 0 s1.toks, .int (n:Int) t, .int 1 (s1.toks+1)]}).objs.size=dd at g le; have hD:H1 dd=none:=I1.hok.fresh le; have ln:acc.toList.length=n:=by rw [cK]; exact it.1
 have vl:Vals ((bH n).map fun (k:Nat)=>V.int (0+(k:Int))) acc.toList:=by
  have g:∀ (l:List Value) (f:Nat→Int),(∀ (j:Nat) (v:Value),l[j]? =some v→∃t,v= .int (f j) t)→Vals ((bH l.length).map fun (k:Nat)=>V.int (f k)) l:=fun l=>by
   induction l with
   | nil=>intro f _; exact .nil
   | cons x l ih=>intro f h; obtain ⟨t,e⟩:=h 0 x rfl; rw [bU,List.range_succ_eq_map,bA,aR]; exact .cons ⟨t,e⟩ (ih (fun k=>f (k+1)) fun j v hv=>h (j+1) v (by simpa using hv))
  have:=g acc.toList (fun k=>0+(k:Int)) fun j v hv=>by obtain ⟨t,e⟩:=it.2 j v (by rw [← dM]; exact hv); exact ⟨t,by rw [e]; congr 1; omega⟩
  rw [ln] at this; exact this
 have I3:Inv X pins σ (upd H1 dd (.lst ((bH n).map fun (k:Nat)=>V.int (0+(k:Int))))) {s1 with heap:=h',toks:=tk}:=
  I1.laid kp2 le ⟨by rw [aC,gB]; exact dW (fH h1),acc.toList,c',vl,by simpa using g⟩
 obtain ⟨S4,fp,no⟩:=S1.layO (xs:=(bH n).map fun (k:Nat)=>V.int (0+(k:Int))) hD; refine ⟨.ref dd,_,I3,rfl,F1,S4,sF,dd,_,rfl,fp,bV, ?_,no⟩
 have gg:∀ks:List Nat,RepL X.K F1 (ks.map fun (k:Nat)=>D.int (0+(k:Int))) (ks.map fun (k:Nat)=>V.int (0+(k:Int))):=fun ks=>by
  induction ks with
  | nil=>exact .nil
  | cons k ks ih=>exact .cons (by simp only [Rep]) ih
 exact gg _
end
theorem xN {u d n c:Nat} (h:u+n<c) (hd:d+1≤n):u+d+1<c:=by omega
noncomputable def cT (p:Int × Int):List (List Int):=gT (2^p.1.toNat) p.2.toNat
noncomputable def optD:Option (List Int)→D
 | none=> .non
 | some ws=>aV ws
noncomputable def lkD:Option (List Nat)→D
 | none=> .non
 | some l=> .lst (aY l)
noncomputable def bxQ (n:Nat):Option (List Nat)→List Nat
 | none=>bH n
 | some l=>l
structure kI (p:Int × Int) (T:List (List Int)):Prop where
 len:T.length=(cT p).length
 fil:∀ws∈T,Fil p ws
noncomputable def LkOk (p:Int × Int) (o:Option (List Nat)):Prop:=∀l,o=some l→l.length≤100∧∀b∈l,b<p.2.toNat
theorem bx_ok {p:Int × Int} (hp:p∈bX) {o:Option (List Nat)} (h:LkOk p o):(bxQ p.2.toNat o).length≤100∧∀b∈bxQ p.2.toNat o,b<p.2.toNat:=by
 cases o with
 | none=>obtain ⟨h1,h2,h3,h4,h5⟩:=pX p hp; exact ⟨by show (bH _).length≤100; rw [gB]; omega,fun b hb=>cN.mp hb⟩
 | some l=>exact h l rfl
noncomputable def CBoxes:List D→R→Prop:=fun ds r=>∃p o,p∈bX∧ds=[cH p,lkD o]∧r= .own (aY (bxQ p.2.toNat o))
noncomputable def CWordsIn:List D→R→Prop:=fun ds r=>∃ (bs:List Nat) (ws:List Int),bs.length≤100∧(∀b∈bs,b<ws.length)∧ds=[.lst (aY bs),aV ws]∧r= .own ((bs.map fun j=>ws.getD j 0).map D.int)
theorem range_nat (n:Nat):gO 0 n=aY (bH n):=by
 unfold gO aY; refine bN fun k _=> ?_
 rw [oR]
theorem tups_at {V:List (List Int)} {k:Nat} (h:k<V.length):(V.map aV)[k]? =some (aV (V.getD k [])):=by simp [bS,h]
theorem take_snoc {α:Type} {L:List α} {k:Nat} (d:α) (h:k<L.length):L.take (k+1)=L.take k++[L.getD k d]:=by rw [eQ]; simp [bS,h]
theorem funD_mk {K:aA} {x qual:Str} {st:Stmt} {f T:Addr} {oc kV doc pm cdv ct tc:Value} {od an td:Option Addr} {osl tsl:Array (Option Value)} {n:Nat}
  (l:K.lookup f=some ⟨oc,od, .func (dL x qual (gU st) (fG st) (bC st) (.ref T) kV doc pm an cdv ct),osl⟩) (c:gY K cdv qual=true) (k:cY K (.ref f)=true) (t:K.lookup T=some ⟨tc,td, .seq #[.none] n,tsl⟩):
  FunD K x qual st f (dL x qual (gU st) (fG st) (bC st) (.ref T) kV doc pm an cdv ct):=⟨⟨_,_,_,_,_,_,_,_,_,_,_,_,_,_,rfl,l,c,t⟩,k⟩
section
variable {X:Cx} {sd:List Slot} {e a b c tg iter o:Expr} {es:List Expr} {pos:Pos} {r ra rb:R} {d:D} {ds:List D} {st:Stmt} {rest:List Stmt} {E:jG}
theorem wZ (d:D) (ds:List D) (p1:pl d=true) (p2:plL ds=true) (hu:X.A.units+1+iM ds<cLine):OpR X (compareOp .NotIn) (fun x y H Q=>Rep X.K H (.lst ds) y∧Rep X.K H d x∧Q (.bl (!ds.any fun z=>deq z d)) H):=by
 intro pins s σ H x y v u Q I rx ry h; obtain ⟨hl,hd,k⟩:=h; obtain ⟨a,xs,its,rfl,rfl,rl,rv,ht⟩:=kN I.hok hl ry
 have hat:∀ (j:Nat) (w:Value),its[j]? =some w→∃z v,ds[j]? =some z∧xs[j]? =some v∧Rep X.K H z v∧RelV v w:=fun j w hw=>by
  have hj:j<its.length:=(aK.mp hw).1; have hx:j<xs.length:=by rw [Vals.length rv]; exact hj
  have hd:j<ds.length:=by rw [← rl.len]; exact hx
  obtain ⟨v,hv,rz⟩:=rl.get (i:=j) (d:=ds[j]) (by simp [hd])
  exact ⟨ds[j],v,by simp [hd],hv,rz,by
   have:=rv.get hv; obtain ⟨w',hw',r⟩:=this; rw [hw] at hw'; cases hw'
   exact r⟩
 have dc:=fun w:Value=>Classical.propDecidable (∃ (j:Nat) (z:D),its[j]? =some w∧ds[j]? =some z∧deq z d=true)
 refine SeqAt.notIn_listAt (fun w=> @decide _ (dc w)) ht (fun w hw=> ?_) ⟨.bl _,H,I,rfl, ?_⟩
 ·by_cases q:∃ (j:Nat) (z:D),its[j]? =some w∧ds[j]? =some z∧deq z d=true
  ·obtain ⟨j,z,e1,e2,e3⟩:=q; obtain ⟨z',v,f1,f2,f3,f4⟩:=hat j w e1; rw [e2] at f1; cases f1; have: @decide _ (dc w)=true:=by rw [decide_eq_true_eq]; exact ⟨j,z,e1,e2,e3⟩
   rw [this,← e3]; exact wH I.hok z (yN p2 e2) p1 f3 hd f4 rx (by have:=vL e2; show X.A.units+1+dep z<cLine; omega)
  ·have hw':w∈its:=by simpa using hw
   obtain ⟨j,hj,rfl⟩:=eM hw'; obtain ⟨z,v,f1,f2,f3,f4⟩:=hat j its[j] (by simp [hj])
   have e3:deq z d=false:=by
    cases h:deq z d with
    | false=>rfl
    | true=>exact (q ⟨j,z,by simp [hj],f1,h⟩).elim
   have: @decide _ (dc its[j])=false:=by rw [decide_eq_false_iff_not]; exact q
   rw [this,← e3]; exact wH I.hok z (yN p2 f1) p1 f3 hd f4 rx (by have:=vL f1; show X.A.units+1+dep z<cLine; omega)
 ·have e:its.toArray.any (fun w=> @decide _ (dc w))=ds.any fun z=>deq z d:=by
   rw [jM,List.any_toArray,uE,uE]
   constructor
   ·rintro ⟨w,hw,q⟩; rw [decide_eq_true_eq] at q; obtain ⟨j,z,e1,e2,e3⟩:=q; exact ⟨z,bB e2,e3⟩
   ·rintro ⟨z,hz,e3⟩; obtain ⟨j,hj,rfl⟩:=eM hz; have hi:j<its.length:=by rw [← Vals.length rv,rl.len]; exact hj
    exact ⟨its[j],fO hi,by rw [decide_eq_true_eq]; exact ⟨j,ds[j],by simp [hi],by simp [hj],e3⟩⟩
  rw [e]; exact k
theorem ptd_ninD (ha:PEd X sd a (.val d)) (hb:PEd X sd b (.val (.lst ds))) (p1:pl d=true) (p2:plL ds=true) (hu:X.A.units+1+iM ds<cLine) (hk:behindInMarks .NotIn b=false:=by with_unfolding_all rfl):PTd X sd (.Compare a [.NotIn] [b] pos) (!ds.any fun z=>deq z d):=
 jP (wZ d ds p1 p2 hu) ha hb trivial hk fun σ F H x u Q S q1 q2 k=>⟨Rep.mono S.sub q2,Rep.mono S.sub q1,k F H S (Same.refl _)⟩
end
theorem nat_at {τ:List Nat} {b:Nat} (h:b<τ.length):(aY τ)[b]? =some (.int ((τ.getD b 0:Nat):Int)):=by unfold aY; rw [bJ]; simp [bS,h]
section
variable {X:Cx} {sd:List Slot} {b:Expr} {pos:Pos}
theorem zI {k:Nat} {q:Nat} {p:Pos} (hb:PEd X sd b (.val (.int (k:Int)))) (hk:k≤1000):PEd X sd (.BinOp (.Constant (.int 1) q p) .LShift b pos) (.val (.int ((2^k:Nat):Int))):=
 PEd.ic (cX op_shl aZ hb ⟨by omega,by omega,by decide⟩) (by rw [Int.one_mul,dO]; push_cast; rfl)
end
noncomputable def byT (w:World):Bool:=w.params.followText "set-order"
noncomputable def insK (k:Nat) (ks:List Nat):List Nat:=ks.filter (fun i=>decide (i<k))++k::ks.filter (fun i=>decide (k<i))
noncomputable def tabR (led:Bool) (m mv:Nat) (ks:List Nat):SetTable:={mask:=m,place:=ks.toArray,dummies:= #[],finger:=0,led:=led,moves:=mv,plain:=true}
noncomputable def tabK (led:Bool) (ks:List Nat):SetTable:=if ks.length<5 then tabR led 7 0 ks else tabR led 31 1 ks
structure SmS (w:World) (o:Obj) (ks:List Nat):Prop where
 ex:∃ (es:List (Int × Value)) (ep:Nat),o={cls:= .type "set",dict:=none,data:= .set es.toArray ep (tabK (!byT w) ks)}∧es.map (·.1)=ks.map Int.ofNat∧∀e∈es,∃t,e.2= .int e.1 t
noncomputable def insAll:List Nat→List Nat→List Nat
 | ks,[]=>ks
 | ks,v::vs=>insAll (insK v ks) vs
section
variable {prog:Program} {w:World} {A:Around} {s:Shared}
noncomputable abbrev set0 (w:World):Obj:={cls:= .type "set",dict:=none,data:= .set #[] 0 (tabK (!byT w) [])}
end
noncomputable def rdQ (q:SQ):List Nat:=if q.1=6 then [] else if q.1=5 then [q.2.2.1.toNat] else if 7≤q.1 then [q.2.1.toNat] else insAll [] [q.2.1.toNat,q.2.2.1.toNat]
noncomputable def ahQ (q:SQ) (bs:List Nat):List Nat:=if bs.contains q.2.1.toNat then insAll [] (bs.filter (fun b=> !decide (b=q.2.1.toNat))++rdQ q) else bs
noncomputable def bqQ (L:List SK) (look:List Nat):List Nat→List Nat
 | []=>look
 | t::row=>ahQ (L.getD t default).1 (bqQ L look row)
noncomputable def prQ (L:List SK) (look:List Nat):List Nat→List Nat
 | []=>[]
 | t::row=>if (bqQ L look row).contains (L.getD t default).1.2.1.toNat then t::prQ L look row else prQ L look row
noncomputable def gV (K:aA) (F0:Hp) (d:D):V→Hp→Prop:=fun v F=>Rep K F0 d v∧Same F0 F
theorem uR:∀ {sd:List Slot} {i:Nat} {z:Slot},(cC sd).Nodup→sd[i]? =some z→(iB z).Nodup
 | [],_,_,_,e=>by simp at e
 | y::zs,0,z,h,e=>by
  have:y=z:=by simpa using e
  subst this; exact (bM.mp (show (iB y++cC zs).Nodup from h)).1
 | y::zs,i+1,z,h,e=>uR (sd:=zs) (i:=i) (bM.mp (show (iB y++cC zs).Nodup from h)).2.1 (by simpa using e)
section
variable {K:aA} {H₀ F F' H H':Hp} {σ:St} {sd:List Slot} {i:Nat} {l:Addr} {ls:List Addr} {nss:List (List Int)}
theorem StF.reX {z z':Slot} {o:Option V} (S:StF K H₀ F H σ sd) (hs:sd[i]? =some z) (ho:σ[i]? =some o) (keep:∀b ob,b∉iB z→H b=some ob→H' b=some ob) (sm:Smp H') (q:iK K F H' z' o) (nd:(iB z').Nodup) (no:∀a∈iB z',a∈iB z∨a∉cC sd):StF K H₀ F H' σ (sd.set i z'):=by
 have S0:=S.le (gX sd i); have mz:∀a∈iB z,a∈cC sd:=fun a ha=>eA.mpr ⟨z,bB hs,ha⟩
 refine ⟨S.base,fun b u e=> ?_,sm, ?_, ?_⟩
 ·refine keep b u (fun hb=> ?_) (S.sub _ _ e); have:=(S.slots.owns (mz b hb)).1; rw [e] at this; cases this
 ·have q1:SlotsOk K F H' (sd.set i .un) σ:=S0.slots.mono (Same.refl _) fun a ha=>⟨(S0.slots.owns ha).1,fun ob e=>keep a ob (fun hb=>iQ S.nd hs hb ha) e⟩
  have q2:=q1.set (z:=z') (o:=o) q i; rw [jS,lF ho] at q2; exact q2
 ·have:=kA (z:=z') i S0.nd (fun a ha=>by
   rcases no a ha with h | h
   ·exact .inl (iQ S.nd hs h)
   ·exact .inl fun hm=>h ((gX sd i).own.subset hm)) nd
  rw [jS] at this; exact this.1
noncomputable def inF (F H:Hp) (as:List Addr):Hp:=fun b=>if b∈as then H b else F b
theorem yD {as:List Addr} {b:Addr} (h:b∈as):inF F H as b=H b:=if_pos h
theorem inF_ni {as:List Addr} {b:Addr} (h:b∉as):inF F H as b=F b:=if_neg h
theorem inF_sub {as:List Addr} (h:∀a∈as,F a=none):Same F (inF F H as):=fun b u e=>by rw [inF_ni (fun hb=>by rw [h b hb] at e; cases e)]; exact e
theorem StF.inN (S:StF K H₀ F H σ sd) (h0:∀a∈l::ls,F a=none) (no:∀a∈l::ls,a∉cC sd):StF K H₀ (inF F H (l::ls)) H σ sd∧Same F (inF F H (l::ls)):=by
 have s1:=inF_sub (H:=H) h0; refine ⟨⟨fun b u e=>s1 _ _ (S.base _ _ e),fun b u e=> ?_,S.smp,S.slots.mono s1 fun a ha=>⟨?_,fun ob e=>e⟩,S.nd⟩,s1⟩
 ·by_cases h:b∈l::ls
  ·rw [yD h] at e; exact e
  ·rw [inF_ni h] at e; exact S.sub _ _ e
 ·rw [inF_ni (fun hb=>no a hb ha)]; exact (S.slots.owns ha).1
noncomputable def outF (F:Hp):List Addr→Hp
 | []=>F
 | a::as=>del (outF F as) a
theorem tO:∀ {as:List Addr} {a:Addr},a∈as→outF F as a=none
 | b::as,a,h=>by
  show del (outF F as) b a=none
  by_cases e:a=b
  ·subst e; exact vT
  ·rw [pK e]; exact tO ((aX.mp h).resolve_left e)
theorem rA:∀ {as:List Addr} {a:Addr},a∉as→outF F as a=F a
 | [],_,_=>rfl
 | b::as,a,h=>by show del (outF F as) b a=F a; rw [pK (show a≠b from fun e=>h (e▸aG))]; exact rA fun z=>h (aF _ z)
theorem RepL.delN {ds:List D} {vs:List V} (hn:qE ds=true) (r:RepL K F ds vs):∀ {as:List Addr},as.Nodup→(∀a∈as,∃xs,F a=some (.lst xs))→RepL K (outF F as) ds vs
 | [],_,_=>r
 | a::as,nd,h=>by obtain ⟨n1,n2⟩:=bT.mp nd; obtain ⟨xs,e⟩:=h a aG; exact RepL.del (xs:=xs) (by rw [rA n1]; exact e) hn (RepL.delN hn r n2 fun b hb=>h b (aF _ hb))
end
section
variable {X:Cx} {sd:List Slot} {e a b c tg iter o:Expr} {es:List Expr} {pos:Pos} {r ra rb:R} {d:D} {ds:List D} {st:Stmt} {rest:List Stmt} {E:jG} {l:Addr} {ls:List Addr} {nss:List (List Int)} {ns:List Int}
theorem smp_upd {H:Hp} {xs:List V} (h:Smp H) (a:Addr):Smp (upd H a (.lst xs)):=fun b u e=>by
 by_cases z:b=a
 ·subst z; rw [bV] at e; cases e; trivial
 ·rw [bO z] at e; exact h _ _ e
end
theorem natI (x:List Nat):aY x=(x.map fun (t:Nat)=>(t:Int)).map D.int:=by unfold aY; rw [aR]; rfl
theorem noLs_int:∀ns:List Int,qE (ns.map D.int)=true
 | []=>rfl
 | n::ns=>by show (true && qE (ns.map D.int))=true; rw [noLs_int ns]; rfl
noncomputable def InD (K:aA) (F H:Hp):List Addr→List (List D)→Prop
 | [],[]=>True
 | a::as,ds::dss=>(∃xs,H a=some (.lst xs)∧RepL K F ds xs)∧InD K F H as dss
 | _,_=>False
section
variable {K:aA} {F F' H H':Hp}
theorem InD.len:∀ {as:List Addr} {dss:List (List D)},InD K F H as dss→as.length=dss.length
 | [],[],_=>rfl
 | [],_::_,h=>h.elim
 | _::_,[],h=>h.elim
 | _::as,_::dss,h=>by rw [bU,bU,InD.len h.2]
theorem InD.of:∀ {as:List Addr} {dss:List (List D)},InD K F H as dss→∀a∈as,∃xs,H a=some (.lst xs)
 | [],[],_,a,ha=>by cases ha
 | [],_::_,h,_,_=>h.elim
 | _::_,[],h,_,_=>h.elim
 | b::as,_::dss,h,a,ha=>by
  rcases aX.mp ha with rfl | ha
  ·exact ⟨h.1.choose,h.1.choose_spec.1⟩
  ·exact InD.of h.2 a ha
theorem InD.mono:∀ {as:List Addr} {dss:List (List D)},InD K F F as dss→Same F F'→InD K F' F' as dss
 | [],[],_,_=>trivial
 | [],_::_,h,_=>h.elim
 | _::_,[],h,_=>h.elim
 | _::as,_::dss,h,s=>by obtain ⟨⟨xs,e,r⟩,h2⟩:=h; exact ⟨⟨xs,s _ _ e,r.mono s⟩,InD.mono h2 s⟩
theorem InD.app:∀ {as bs:List Addr} {dss ess:List (List D)},InD K F H as dss→InD K F H bs ess→InD K F H (as++bs) (dss++ess)
 | [],bs,[],ess,_,h=>h
 | [],_,_::_,_,h,_=>h.elim
 | _::_,_,[],_,h,_=>h.elim
 | a::as,bs,_::dss,ess,h,g=>⟨h.1,InD.app h.2 g⟩
theorem InD.out {cs:List Addr} {Fb:Hp}:∀ {as:List Addr} {dss:List (List D)},InD K Fb Fb as dss→(∀es∈dss,qE es=true)→cs.Nodup→(∀a∈cs,∃xs,Fb a=some (.lst xs))→Same (outF Fb cs) F'→(∀a∈as,∀ob,Fb a=some ob→H' a=some ob)→InD K F' H' as dss
 | [],[],_,_,_,_,_,_=>trivial
 | [],_::_,h,_,_,_,_,_=>h.elim
 | _::_,[],h,_,_,_,_,_=>h.elim
 | a::as,es::dss,h,hn,nd,fx,s,k=>by obtain ⟨⟨xs,e,r⟩,h2⟩:=h; exact ⟨⟨xs,k a aG _ e,(RepL.delN (hn es aG) r nd fx).mono s⟩,InD.out h2 (fun x hx=>hn x (aF _ hx)) nd fx s fun b hb=>k b (aF _ hb)⟩
end
noncomputable def GD (K:aA) (l:Addr) (ls:List Addr) (dss:List (List D)):V→Hp→Hp→Prop:=fun v F H=>v= .ref l∧H l=some (.lst (ls.map V.ref))∧InD K F H ls dss
noncomputable def olR (K:aA) (dss:List (List D)):R:= .ox fun v as F H=>∃l ls,as=l::ls∧GD K l ls dss v F H
section
variable {X:Cx} {sd:List Slot} {e a b c tg iter:Expr} {es:List Expr} {pos:Pos} {r ra rb:R} {d:D} {ds:List D} {st:Stmt} {rest:List Stmt} {E:jG}
theorem pd_compN {elt:Expr} {ifs:List Expr} {scope:Scope} {N M:List Str} {cap:List (Option Nat)} {sc:Scope} {Tb:D→List Slot} (p:D→Bool) (f:D→List D) (hfl:∀d,qE (f d)=true)
  (hi:PId X (unO sd) PT0 tg iter ds) (hl:ds.length≤1000)
  (hsc:X.env.scope=sc) (hcn:mU scope sc=true) (hM:X.N=M) (hcap:lJ N M scope sc cap=true) (hk:scope.kind= .function)
  (hg:∀cl C fp s H d,d∈ds→PGd (cxB X N scope cl C fp s H) (kG cap sd) tg d (Tb d))
  (hle:∀d,d∈ds→Le (Tb d) (kG cap sd))
  (ht:∀cl C fp s H d,d∈ds→(ifs=[]∧p d=true)∨∃c,ifs=[c]∧PTd (cxB X N scope cl C fp s H) (Tb d) c (p d))
  (he:∀cl C fp s H d,d∈ds→p d=true→PEd (cxB X N scope cl C fp s H) (Tb d) elt (.own (f d)))
  (hc:X.calm=true:=by rfl) (hs:∀x,foldedSetIterable iter X.env x=pure x:=by intro _; rfl):
  PEd X sd (.ListComp elt [⟨tg,iter,ifs,0⟩] scope pos) (olR X.K ((ds.filter p).map f)):= .mk fun σ F H S=>by
 refine wE_frame S trivial ?_; have S0:StF X.K X.B₀ F F σ (unO sd):=⟨S.base,Same.refl _,S.smp.sub S.sub,rQ S.slots,by rw [iT]; exact dG⟩; intro pins s I
 have nm:∀y∈scope.names,(y.2=NameKind.free→sc.names.lookup y.1=some NameKind.cell)∧(y.2=NameKind.local→scope.names.lookup y.1=some NameKind.local):=fun y hy=>by have q:=fM.mp hcn y hy; simp only [bL,lE,mY,beq_eq_false_iff_ne,ne_eq,beq_iff_eq] at q; exact ⟨fun e=>q.1.1.resolve_left fun z=>z e,fun e=>q.2.resolve_left fun z=>z e⟩
 have fre:∀y∈scope.names,y.2= .free→∃c,X.env.cells.lookup y.1=some c:=fun y hy e=>I.ok.has y.1 (.inl (by show X.env.scope.names.lookup y.1=_; rw [hsc]; exact (nm y hy).1 e))
 rw [eval_ListComp]; refine wpAny_comprehension_free (use:=none) rfl hs (pO fre) hk (fun y hy=>(nm y hy).2) ?_; refine thn (hi σ F F S0 pins s I) fun v s1 h1=>thn h1 fun itv s2 h2=> ?_
 obtain ⟨it,fp,tn,J,H2,e,I2,T,st2,f2,F1,S1,s1',itd⟩:=h2; subst e
 have S1b:StF X.K H2 H2 H2 (sW cap σ) (kG cap sd):=⟨Same.refl _,Same.refl _,S1.smp,by
  have q:=tM (sd:=unO sd) (H':=H2) S1.slots S1.sub cap; rw [capD_unO] at q
  exact q,by rw [nK]; exact dG⟩
 refine uL (N:=N) (cap:=cap) (g:=fun v σ2 H3 Q=>∀cl C,wG (cxB X N scope cl C fp s2 H2) tg v σ2 H3 Q) (tt:=fun σ2 H3 Q=>∀cl C,wIfs (cxB X N scope cl C fp s2 H2) ifs σ2 H3 Q) (te:=fun σ2 H3 Q=>∀cl C,wE (cxB X N scope cl C fp s2 H2) elt σ2 H3 Q)
  hc hsc hcn (by rw [hM]; exact hcap) hk I2 T st2 f2 (fun cl C pi s3 σ3 H3 v u Q I3 ru q=>q cl C pi s3 u I3 ru) (fun cl C pi s3 σ3 H3 Q I3 q=>q cl C pi s3 I3) (fun cl C pi s3 σ3 H3 Q I3 q=>q cl C pi s3 I3)
  (fun i m ys σb H3=>m=ds.length - i∧i≤ds.length∧∃Fb as,StF X.K H2 Fb H3 σb (kG cap sd)∧ys=as.map V.ref∧as.Nodup∧(∀a∈as,H2 a=none)∧InD X.K Fb Fb as (((ds.take i).filter p).map f)) ds.length
  ⟨by simp,cD _,H2,[],S1b,rfl,dG,fun a ha=>(by cases ha),(show InD X.K H2 H2 [] [] from trivial)⟩ _ ?_
 rintro i m ys σb H3 ⟨rfl,hil,Fb,as,Sb,rfl,nda,fra,rl⟩; have sF1:Same F1 Fb:=fun b o g=>Sb.base _ _ (S1.sub _ _ g)
 obtain ⟨g1,g2,g3⟩:=itd Fb H3 sF1 Sb.sub Sb.smp trivial i
 by_cases hlt:i<ds.length
 ·have hd:ds[i]? =some ds[i]:=by simp [hlt]
  have hm:ds[i]∈ds:=fO hlt
  have ylen:(as.map V.ref).length≤i:=by rw [aC,rl.len,aC]; exact cE (iN _ _) (by simp; omega)
  refine .inr ⟨g1 hlt,fH (by omega),fun ys' σ' H'=>∃Fb' as',StF X.K H2 Fb' H' σ' (kG cap sd)∧ys'=as'.map V.ref∧as'.Nodup∧(∀a∈as',H2 a=none)∧InD X.K Fb' Fb' as' (((ds.take (i+1)).filter p).map f),fun ys' σ' H' ⟨Fb',as',q⟩=>⟨ds.length - (i+1),by omega,rfl,hlt,Fb',as',q⟩,fun x H4 y cl C=> ?_⟩; obtain ⟨F4,s4,rp,up⟩:=g3 x H4 ds[i] hd y; refine (hg cl C fp s2 H2 _ hm σb F4 H4 x (up _ _ _ Sb) rp).imp fun σ5 H5 ⟨F5,S5,s5⟩ cl2 C2=> ?_
  have rl5:=rl.mono (s4.trans s5)
  have fin:∀ (b:Bool) (H6:Hp) (F6:Hp),b=p ds[i]→StF X.K H2 F6 H6 σ5 (Tb ds[i])→Same F5 F6→if b=true then (∀cl C,wE (cxB X N scope cl C fp s2 H2) elt σ5 H6 fun v H5=>∃Fb' as',StF X.K H2 Fb' H5 σ5 (kG cap sd)∧(as.map V.ref++[v])=as'.map V.ref∧as'.Nodup∧(∀a∈as',H2 a=none)∧InD X.K Fb' Fb' as' (((ds.take (i+1)).filter p).map f)) else ∃Fb' as',StF X.K H2 Fb' H6 σ5 (kG cap sd)∧as.map V.ref=as'.map V.ref∧as'.Nodup∧(∀a∈as',H2 a=none)∧InD X.K Fb' Fb' as' (((ds.take (i+1)).filter p).map f):=fun b H6 F6 eb S6 s6=>by
   rw [kC p hd,← eb]; cases b with
   | false=>exact iteF ⟨F6,as,S6.le (hle _ hm),rfl,nda,fra,by simpa using rl5.mono s6⟩
   | true=>
    refine iteT fun cl3 C3=>(he cl3 C3 fp s2 H2 _ hm eb.symm σ5 F6 H6 S6).imp fun v H7 ⟨F7,S7,s7,l,xs,e,n,q,rlx,no⟩=> ?_
    subst e; obtain ⟨S8,s8⟩:=S7.freeze q n no; have rl7:=((rl5.mono s6).mono s7)
    have nl:l∉as:=fun hm=>by obtain ⟨xs',e⟩:=rl7.of l hm; rw [n] at e; cases e
    refine ⟨_,as++[l],S8.le (hle _ hm),by rw [bF]; rfl, ?_,fun a ha=> ?_, ?_⟩
    ·rw [bM]; refine ⟨nda,by simp,fun b hb c hc e=> ?_⟩; rw [aI.mp hc] at e; subst e; exact nl hb
    ·rcases bE.mp ha with ha | ha
     ·exact fra a ha
     ·rw [aI.mp ha]; cases g:H2 l with
      | none=>rfl
      | some o=>have:=s7 _ _ (s6 _ _ (s5 _ _ (s4 _ _ (Sb.base _ _ g)))); rw [n] at this; cases this
    ·simp only [if_true,bF,bA,eI]; exact (rl7.mono s8).app ⟨⟨xs,bV,rlx.mono s8⟩,trivial⟩
  rcases ht cl2 C2 fp s2 H2 _ hm with ⟨e1,e2⟩ | ⟨c,e1,q⟩
  ·subst e1; exact uH (fin true H5 F5 e2.symm S5 (Same.refl _))
  ·subst e1; exact uJ ((q σ5 F5 H5 S5).imp fun b H6 ⟨eb,F6,S6,s6⟩=>fin b H6 F6 eb S6 s6)
 ·have e:i=ds.length:=by omega
  subst e; refine .inl ⟨g2 (aM _),fun D C s' hD hC hDC h0 hL hcc hpp hst ⟨m',ns'⟩ J'=>⟨m',ns',fun h' sb=> ?_⟩⟩; have J2:Inv X pins σ (upd H3 D (.lst (as.map V.ref))) {s' with heap:=h',toks:=s'.toks}:=J'.turned (it:=C) (fun b o hb g=>sb.extBut b o hb g) (by rw [bO (Ne.symm hDC)]; exact hC) hL (.inr h0) hcc hpp; have fx:∀a∈as,∃xs,Fb a=some (.lst xs):=rl.of
  have neD:∀a∈as,a≠D:=fun a ha=>by obtain ⟨xs,e⟩:=fx a ha; exact cB (Sb.sub _ _ e) hD
  have rl':InD X.K Fb Fb as ((ds.filter p).map f):=by simpa using rl
  refine ⟨.ref D,_,J2,rfl,outF Fb as,fun b o g=> ?_,fun b o g=> ?_,smp_upd Sb.smp D,D::as,bT.mpr ⟨fun hm=>neD D hm rfl,nda⟩,fun a ha=> ?_,fun F' H' sF k=>⟨D,as,rfl,rfl,k D aG _ bV, ?_⟩⟩
  ·have g2:=S1.sub _ _ (s1' _ _ g); rw [rA (fun hm=>by rw [fra b hm] at g2; cases g2)]; exact Sb.base _ _ g2
  ·have nb:b∉as:=fun hm=>by rw [tO hm] at g; cases g
   rw [rA nb] at g; have g3:=Sb.sub _ _ g; rw [bO (cB g3 hD)]; exact g3
  ·rcases aX.mp ha with rfl | ha
   ·refine ⟨?_,⟨_,bV,trivial⟩,by simp [cC]⟩
    by_cases hm:a∈as
    ·exact tO hm
    ·rw [rA hm]; exact Sb.sub.free hD
   ·obtain ⟨xs,e⟩:=fx a ha; exact ⟨tO ha,⟨.lst xs,by rw [bO (neD a ha)]; exact Sb.sub _ _ e,trivial⟩,by simp [cC]⟩
  ·refine rl'.out (fun es he=> ?_) nda fx sF fun a ha ob e=>k a (aF _ ha) ob (by rw [bO (neD a ha)]; exact Sb.sub _ _ e)
   obtain ⟨d,_,rfl⟩:=aQ.mp he; exact hfl d
end
section
variable {K:aA} {H₀ F F' H H':Hp} {σ:St} {sd:List Slot} {i:Nat} {l:Addr} {ls:List Addr} {dss:List (List D)}
theorem InD.mono2:∀ {as:List Addr} {dss:List (List D)},InD K F H as dss→Same F F'→(∀a∈as,∀ob,H a=some ob→H' a=some ob)→InD K F' H' as dss
 | [],[],_,_,_=>trivial
 | [],_::_,h,_,_=>h.elim
 | _::_,[],h,_,_=>h.elim
 | a::as,_::dss,h,s,k=>by obtain ⟨⟨xs,e,r⟩,h2⟩:=h; exact ⟨⟨xs,k a aG _ e,r.mono s⟩,InD.mono2 h2 s fun b hb=>k b (aF _ hb)⟩
theorem InD.get:∀ {as:List Addr} {dss:List (List D)} {t:Nat} {a:Addr},InD K F H as dss→as[t]? =some a→∃ds xs,dss[t]? =some ds∧H a=some (.lst xs)∧RepL K F ds xs
 | [],[],t,a,_,e=>by simp at e
 | [],_::_,_,_,h,_=>h.elim
 | _::_,[],_,_,h,_=>h.elim
 | b::as,ds::dss,0,a,h,e=>by
  have:b=a:=by simpa using e
  subst this; obtain ⟨⟨xs,e1,r⟩,_⟩:=h; exact ⟨ds,xs,rfl,e1,r⟩
 | b::as,ds::dss,t+1,a,h,e=>by obtain ⟨ms,xs,e1,e2⟩:=InD.get (t:=t) h.2 (by simpa using e); exact ⟨ms,xs,by simpa using e1,e2⟩
theorem InD.set:∀ {as:List Addr} {dss:List (List D)} {t:Nat} {a:Addr} {es:List D} {ys:List V},as.Nodup→InD K F H as dss→as[t]? =some a→RepL K F es ys→InD K F (upd H a (.lst ys)) as (dss.set t es)
 | [],[],t,a,_,_,_,_,e,_=>by simp at e
 | [],_::_,_,_,_,_,_,h,_,_=>h.elim
 | _::_,[],_,_,_,_,_,h,_,_=>h.elim
 | b::as,ds::dss,0,a,es,ys,nd,h,e,r=>by
  have:b=a:=by simpa using e
  subst this; refine ⟨⟨ys,bV,r⟩,h.2.mono2 (Same.refl _) fun c hc ob q=> ?_⟩; rw [bO (show c≠b from fun z=>(bT.mp nd).1 (z▸hc))]; exact q
 | b::as,ds::dss,t+1,a,es,ys,nd,h,e,r=>by
  have e':as[t]? =some a:=by simpa using e
  obtain ⟨⟨xs,e1,r1⟩,h2⟩:=h; refine ⟨⟨xs, ?_,r1⟩,InD.set (bT.mp nd).2 h2 e' r⟩; rw [bO (show b≠a from fun z=>(bT.mp nd).1 (z▸bB e'))]; exact e1
theorem rep_dss {G:Hp}:∀ {as:List Addr} {dss:List (List D)},InD K G G as dss→RepL K G (dss.map D.lst) (as.map V.ref)
 | [],[],_=> .nil
 | [],_::_,h=>h.elim
 | _::_,[],h=>h.elim
 | a::as,ds::dss,h=>by obtain ⟨⟨xs,e,r⟩,h2⟩:=h; rw [bA,bA]; refine .cons ?_ (rep_dss h2); simp only [Rep]; exact ⟨a,xs,rfl,e,r⟩
theorem rep_inD (h0:∀a∈l::ls,F a=none) (h1:H l=some (.lst (ls.map V.ref))) (h2:InD K F H ls dss):Rep K (inF F H (l::ls)) (.lst (dss.map D.lst)) (.ref l):=by
 simp only [Rep]; refine ⟨l,_,rfl, ?_,rep_dss (h2.mono2 (inF_sub h0) fun a ha ob e=> ?_)⟩
 ·rw [yD aG]; exact h1
 ·rw [yD (aF _ ha)]; exact e
end
section
variable {X:Cx} {sd:List Slot} {e a b c tg iter o:Expr} {es:List Expr} {pos:Pos} {r ra rb:R} {d:D} {ds:List D} {st:Stmt} {rest:List Stmt} {E:jG} {l:Addr} {ls:List Addr} {dss:List (List D)}
theorem PEd.valD (h:PEd X sd e (olR X.K dss)):PEd X sd e (.val (.lst (dss.map D.lst))):= .mk fun σ F H S=>(h σ F H S).imp fun v H' ⟨F',S',s,as,nd,q,g⟩=>by
 obtain ⟨l,ls,rfl,rfl,g1,g2⟩:=g F' H' (Same.refl _) fun _ _ _ z=>z
 obtain ⟨S2,s2⟩:=S'.inN (fun a ha=>(q a ha).1) fun a ha=>(q a ha).2.2
 exact ⟨_,S2,s.trans s2,rep_inD (fun a ha=>(q a ha).1) g1 g2⟩
end
noncomputable def lM (f:Nat→Bool) (A:List (List Int)):Option (List Int):=((bH A.length).find? f).map fun k=>A.getD k []
theorem first_some {f:Nat→Bool} {A:List (List Int)} {k:Nat} (hk:k<A.length) (h:f k=true) (hn:∀j,j<k→f j=false):lM f A=some (A.getD k []):=by
 unfold lM
 have:(bH A.length).find? f=some k:=by rw [List.find?_range_eq_some]; exact ⟨h,cN.mpr hk,fun j hj=>by rw [hn j hj]; rfl⟩
 rw [this]; rfl
theorem pU {f:Nat→Bool} {A:List (List Int)} (hn:∀j,j<A.length→f j=false):lM f A=none:=by unfold lM; rw [rJ.mpr fun k hk=>by rw [hn k (cN.mp hk)]; simp]; rfl
theorem uW {α:Type} (f:α→D) (h:∀a,pl (f a)=true):∀l:List α,plL (l.map f)=true
 | []=>rfl
 | a::l=>by show (pl (f a) && plL (l.map f))=true; rw [h a,uW f h l]; rfl
theorem sK {α:Type} (f:α→D) (n:Nat) (h:∀a,dep (f a)≤n):∀l:List α,iM (l.map f)≤n
 | []=>cD _
 | a::l=>Nat.max_le.mpr ⟨h a,sK f n h l⟩
noncomputable def wsD:Option (List (List Int))→D
 | none=> .non
 | some L=> .lst (L.map aV)
noncomputable def WsOk (p:Int × Int) (o:Option (List (List Int))):Prop:=∀L,o=some L→0<L.length∧L.length≤100∧∀ws∈L,Fil p ws
structure sD (p:Int × Int) (w:List (Option (List (List Int)))):Prop where
 len:w.length=(cT p).length
 ok:∀o∈w,WsOk p o
theorem ws_at {w:List (Option (List (List Int)))} {k:Nat} (h:k<w.length):(w.map wsD)[k]? =some (wsD (w.getD k none)):=by simp [bS,h]
theorem isN_opt (o:Option (List Int)):isN (optD o)=o.isNone:=by cases o<;>rfl
noncomputable def misK (w:List (Option (List (List Int)))) (T:List (List Int)) (k:Nat):Bool:=match w.getD k none with
 | none=>false
 | some L=> !decide (T.getD k []∈L)
noncomputable def oM (w:List (Option (List (List Int)))) (A T:List (List Int)):Option (List Int):=lM (misK w T) A
noncomputable def CMiss:List D→R→Prop:=fun ds r=>∃p w T,p∈bX∧sD p w∧kI p T∧ds=[cH p, .lst (w.map wsD), .tup (T.map aV)]∧r= .val (optD (oM w (cT p) T))
noncomputable def CDoes:List D→R→Prop:=fun ds r=>∃p w T,p∈bX∧sD p w∧kI p T∧ds=[cH p, .lst (w.map wsD), .tup (T.map aV)]∧r= .val (.bl (oM w (cT p) T).isNone)
theorem any_tups (L:List (List Int)) (t:List Int):((L.map aV).any fun z=>deq z (aV t))=decide (t∈L):=by
 induction L with
 | nil=>simp
 | cons a L ih=>
  rw [bA,rE,ih,oO]
  by_cases h:t=a
  ·simp [h]
  ·have h2:¬ a=t:=fun q=>h q.symm
   simp [h,h2]
noncomputable def wdQ (bs:List Nat) (f:List Int):List Int:=bs.map fun j=>f.getD j 0
noncomputable def lI (p:Int × Int) (bs:List Nat) (f:List Int):List (List Int):=(cT p).filter fun g=>decide (wdQ bs g=wdQ bs f)
noncomputable def CFLike:List D→R→Prop:=fun ds r=>∃ (p:Int × Int) (bs:List Nat) (f:List Int),p∈bX∧bs.length≤100∧(∀b∈bs,b<p.2.toNat)∧Fil p f∧ds=[cH p, .lst (aY bs),aV f]∧r= .own ((lI p bs f).map aV)
noncomputable def wlR (K:aA) (p:Int × Int) (bs:List Nat) (T:List (List Int)):R:=if bs.length=0 then .own (T.map fun _=>D.non) else olR K (T.map fun f=>(lI p bs f).map aV)
noncomputable def CWLike (K:aA):List D→R→Prop:=fun ds r=>∃ (p:Int × Int) (T:List (List Int)) (o:Option (List Nat)),p∈bX∧kI p T∧LkOk p o∧ds=[cH p, .tup (T.map aV),lkD o]∧r=wlR K p (bxQ p.2.toNat o) T
theorem gJ:∀a:List Nat,plL (aY a)=true∧iM (aY a)=0
 | []=>⟨rfl,rfl⟩
 | a::as=>by obtain ⟨h1,h2⟩:=gJ as; unfold aY at h1 h2 ⊢; simp only [bA,plL,iM,pl,dep,h1,h2]; exact ⟨rfl,rfl⟩
section
variable {X:Cx} {sd:List Slot} {e a b c:Expr} {pos:Pos} {ds:List D}
theorem cutD_take (ds:List D) (k:Nat):DL.cutD ds none (some (k:Int))=ds.take k:=by
 unfold DL.cutD; rw [HT.sIx_nat,HT.sIx_none]
 by_cases h:k≤ds.length
 ·rw [Nat.min_eq_left h]; simp
 ·rw [Nat.min_eq_right (by omega),fE (show ds.length≤k by omega)]; simp
theorem cutD_drop (ds:List D) (k:Nat):DL.cutD ds (some (k:Int)) none=ds.drop k:=by
 unfold DL.cutD; rw [HT.sIx_nat,HT.sIx_none]
 by_cases q:k≤ds.length
 ·rw [Nat.min_eq_left q]; exact fE (by simp)
 ·rw [Nat.min_eq_right (by omega),List.drop_of_length_le (aM _),List.drop_of_length_le (by omega)]; simp
end
noncomputable def wlQ (p:Int × Int) (bs:List Nat) (T:List (List Int)):List (Option (List (List Int))):=T.map fun f=>if bs.length=0 then none else some (lI p bs f)
noncomputable def unlK (bs:List Nat) (T U:List (List Int)) (k:Nat):Bool:= !decide (wdQ bs (T.getD k [])=wdQ bs (U.getD k []))
theorem like_mem {p:Int × Int} {bs:List Nat} {f g:List Int} (G:Fil p g):g∈lI p bs f↔wdQ bs g=wdQ bs f:=by
 unfold lI; rw [gP]
 constructor
 ·exact fun h=>of_decide_eq_true h.2
 ·exact fun h=>⟨yG G.len G.wd,decide_eq_true h⟩
theorem wl_ok {p:Int × Int} (hp:p∈bX) (bs:List Nat) {T:List (List Int)} (O:kI p T):sD p (wlQ p bs T):=by
 refine ⟨by unfold wlQ; rw [aC]; exact O.len,fun o ho L hL=> ?_⟩; obtain ⟨f,hf,rfl⟩:=aQ.mp ho
 by_cases h0:bs.length=0
 ·rw [if_pos h0] at hL; cases hL
 ·rw [if_neg h0] at hL; cases hL; have f9:(cT p).length≤64:=kY hp; refine ⟨List.length_pos_of_mem ((like_mem (O.fil f hf)).mpr rfl),cE (iN _ _) (by omega),fun ws hw=>nR hp (gP.mp hw).1⟩
theorem wl_mis {p:Int × Int} (bs:List Nat) {T U:List (List Int)} (OU:kI p U) {k:Nat} (hk:k<T.length) (hk2:k<U.length):misK (wlQ p bs T) U k=unlK bs T U k:=by
 have e:(wlQ p bs T).getD k none=if bs.length=0 then none else some (lI p bs (T.getD k [])):=by unfold wlQ; simp [bS,hk]
 unfold misK unlK; rw [e]
 by_cases h0:bs.length=0
 ·rw [if_pos h0]; have hb:bs=[]:=fW h0; subst hb; rfl
 ·rw [if_neg h0]; have m:=like_mem (bs:=bs) (f:=T.getD k []) (OU.fil _ (getD_mem (d:=[]) hk2)); show (!decide (U.getD k []∈lI p bs (T.getD k [])))=_
  by_cases h:wdQ bs (T.getD k [])=wdQ bs (U.getD k [])
  ·rw [decide_eq_true h,decide_eq_true (m.mpr h.symm)]
  ·rw [decide_eq_false h,decide_eq_false (fun q=>h (m.mp q).symm)]
theorem first_congr {f g:Nat→Bool} {A:List (List Int)} (h:∀k,k<A.length→f k=g k):lM f A=lM g A:=by
 have aux:∀l:List Nat,(∀k∈l,f k=g k)→l.find? f=l.find? g:=fun l=>by
  induction l with
  | nil=>intro _; rfl
  | cons a l ih=>intro q; rw [gQ,gQ,q a aG,ih fun k hk=>q k (aF _ hk)]
 unfold lM; rw [aux _ fun k hk=>h k (cN.mp hk)]
theorem wl_miss {p:Int × Int} (bs:List Nat) {T U:List (List Int)} (OT:kI p T) (OU:kI p U):oM (wlQ p bs T) (cT p) U=lM (unlK bs T U) (cT p):=
 first_congr fun k hk=>wl_mis bs OU (by rw [OT.len]; exact hk) (by rw [OU.len]; exact hk)
theorem wl_self {p:Int × Int} (bs:List Nat) {T:List (List Int)} (OT:kI p T):oM (wlQ p bs T) (cT p) T=none:=by
 rw [wl_miss bs OT OT]; refine pU fun j _=> ?_
 unfold unlK; simp
theorem wl_nil {p:Int × Int} {bs:List Nat} (h:bs.length=0) (T:List (List Int)):(wlQ p bs T).map wsD=T.map fun _=>D.non:=by
 unfold wlQ; rw [aR]; refine bN fun f _=> ?_
 show wsD (if bs.length=0 then none else _)=_; rw [if_pos h]; rfl
theorem wl_lst {p:Int × Int} {bs:List Nat} (h:¬ bs.length=0) (T:List (List Int)):(wlQ p bs T).map wsD=(T.map fun f=>(lI p bs f).map aV).map D.lst:=by
 unfold wlQ; rw [aR,aR]; refine bN fun f _=> ?_
 show wsD (if bs.length=0 then none else _)=_; rw [if_neg h]; rfl
structure TurnOk (n:Nat) (τ:List Nat):Prop where
 len:τ.length=n
 lt:∀b∈τ,b<n
 mem:∀b,b<n→b∈τ
 nd:τ.Nodup
structure SqN (n:Nat) (q:SQ):Prop where
 k10:q.1<10
 i0:0≤q.2.1∧q.2.1<n
 j0:0≤q.2.2.1∧q.2.2.1<n
theorem srt_keep (h:Heap) (vs:List Value) (out:Array Value):(∀b x,h.get? b=some x→(sortedAll h vs out).get? b=some x)∧∃n,(sortedAll h vs out).get? (h.objs.size+1)=some (seqObj "list" out n):=by
 have hsz:((h.push (seqObj "list" #[] 0)).update h.objs.size (Obj.mapSeq (·++vs.toArray))).objs.size=h.objs.size+1:=by rw [oF,size_push']
 have hoL:(((h.push (seqObj "list" #[] 0)).update h.objs.size (Obj.mapSeq (·++vs.toArray))).push (seqObj "list" vs.toArray 0)).get? (h.objs.size+1)=some (seqObj "list" vs.toArray 0):=by rw [← hsz]; exact bG _ rfl
 constructor
 ·intro b x g; have lt:=aO g; have n1:h.objs.size≠b:=fun z=>absurd lt (by rw [z]; exact eU _)
  have n2:h.objs.size+1≠b:=fun z=>absurd lt (by rw [← z]; exact Nat.not_lt.mpr (iZ _))
  unfold sortedAll sortedHeap; rw [dH _ _ n2]; refine aE _ (aE _ ?_); rw [dH _ _ n2]; refine aE _ ?_; rw [dH _ _ n1]; exact aE _ g
 ·obtain ⟨n1,g1⟩:∃n1,((((h.push (seqObj "list" #[] 0)).update h.objs.size (Obj.mapSeq (·++vs.toArray))).push (seqObj "list" vs.toArray 0)).update (h.objs.size+1) (Obj.mapSeq fun _=> #[])).get? (h.objs.size+1)=some (seqObj "list" #[] n1):=⟨_,get?_update_seq hoL (fun _=> #[])⟩; exact ⟨_,get?_update_seq (aE _ (aE _ g1)) (fun _=>out)⟩
noncomputable def exO (l:Addr) (o:Obj):HO:= .ext (fun h=>h.get? l=some o)
theorem wF {P:Program} {w:World} {H:Hp} {h:Heap} {l:Addr} {o:Obj} (g:h.get? l=some o):ObjOk P w H h l (exO l o):=⟨g,⟨o,g⟩,fun _ _ q k=>k _ q⟩
noncomputable def TDo (P:Program) (w:World) (F:Hp) (l:Addr) (o:Obj) (kvs:List (List Key × V)):Prop:=
 kvs.length≤sizeLine∧(l==sysModules)=false∧∃xs,KT F kvs xs∧∃es ep,o.ExactDict∧o.data= .dict es ep∧es.toList=xs.map (entryOfKey (tupleKind (gC P w)))∧(xs.map (·.1)).Nodup
theorem TDo.mono {P:Program} {w:World} {F F':Hp} {l:Addr} {o:Obj} {kvs:List (List Key × V)} (t:TDo P w F l o kvs) (s:Same F F'):TDo P w F' l o kvs:=by obtain ⟨z,y,xs,r,q⟩:=t; exact ⟨z,y,xs,r.keeps fun b ys e=>s _ _ e,q⟩
theorem KT.all {P:Program} {w:World} {H:Hp} {h:Heap} (ok:HOk P w H h) {l:List (List Key × V)} {m:List (List Key × Addr × Value)} (q:KT H l m):∀x∈m,(tupleKind (gC P w)).is h x.1 x.2.1:=by
 induction q with
 | nil=>intro x hx; exact nomatch hx
 | @cons p q ps qs hq t ih=>
  intro x hx
  rcases aX.mp hx with e | hx
  ·subst e; exact uU ok (by rw [← hq.1]; exact hq.2.1)
  ·exact ih x hx
noncomputable def kD:Key→D
 | .inl i=> .int i
 | .inr x=> .str x
theorem qL {K:aA} {F:Hp}:∀ {k:List Key} {xs:List V},RepL K F (k.map kD) xs→xs=k.map kV
 | [],xs,r=>by simpa only [eI,RepL] using r
 | a::k,xs,r=>by
  rw [bA] at r; obtain ⟨y,ys,rfl,q,rl⟩:=r.uncons; rw [qL rl,bA]; congr 1; cases a with
  | inl i=>simp only [kD,Rep] at q; exact q
  | inr x=>simp only [kD,Rep] at q; exact q
noncomputable def Gt (P:Program) (w:World) (K:aA) (l:Addr) (ks:List (List Key)) (ds:List D):V→Hp→Hp→Prop:=fun v F H=>v= .ref l∧∃o xs,H l=some (exO l o)∧(∀v,o.data≠ .cell v)∧RepL K F ds xs∧ks.length=ds.length∧TDo P w F l o (ks.zip xs)
theorem rR {α β:Type} {xs:List α} {ys:List β} (h:xs.length=ys.length) (x:α) (y:β):(xs++[x]).zip (ys++[y])=xs.zip ys++[(x,y)]:=by rw [List.zip_append h]; rfl
theorem xI {ks:List (List Key)} {k:List Key} (hk:k∉ks):∀ {ks':List (List Key)} {xs:List V},(∀j∈ks',j∈ks)→kH (ks'.zip xs) k=none
 | [],_,_=>rfl
 | _::_,[],_=>rfl
 | j::js,x::xs,h=>by rw [eX,kJ (p:=(j,x)) (k:=k) (fun e=>hk ((show j=k from e)▸h j aG))]; exact xI hk fun i hi=>h i (aF _ hi)
section
variable {K:aA} {H₀ F F' H H':Hp} {σ:St} {sd:List Slot} {i:Nat} {l:Addr} {P:Program} {w:World} {ks:List (List Key)} {ds:List D}
theorem StF.setT {as:List Addr} {G:V→Hp→Hp→Prop} {v:V} (S:StF K H₀ F H σ sd) (i:Nat) (q:iK K F H (.ox as G) (some v)) (nd:as.Nodup) (no:∀a∈as,a∉cC sd):StF K H₀ F H (σ.set i (some v)) (sd.set i (.ox as G)):=
 ⟨S.base,S.sub,S.smp,S.slots.set (z:= .ox as G) q i,(kA (z:= .ox as G) i S.nd (fun l e=> .inl (no l e)) nd).1⟩
theorem StF.reT {z z':Slot} {o:Option V} (S:StF K H₀ F H σ sd) (hs:sd[i]? =some z) (ho:σ[i]? =some o) (keep:∀b ob,b∉iB z→H b=some ob→H' b=some ob) (sm:Smp H') (q:iK K F H' z' o) (nd:(iB z').Nodup) (no:∀a∈iB z',a∈iB z∨a∉cC sd):StF K H₀ F H' σ (sd.set i z'):=by
 have S0:=S.le (gX sd i); have mz:∀a∈iB z,a∈cC sd:=fun a ha=>eA.mpr ⟨z,bB hs,ha⟩
 refine ⟨S.base,fun b u e=> ?_,sm, ?_, ?_⟩
 ·refine keep b u (fun hb=> ?_) (S.sub _ _ e); have:=(S.slots.owns (mz b hb)).1; rw [e] at this; cases this
 ·have q1:SlotsOk K F H' (sd.set i .un) σ:=S0.slots.mono (Same.refl _) fun a ha=>⟨(S0.slots.owns ha).1,fun ob e=>keep a ob (fun hb=>iQ S.nd hs hb ha) e⟩
  have q2:=q1.set (z:=z') (o:=o) q i; rw [jS,lF ho] at q2; exact q2
 ·have:=kA (z:=z') i S0.nd (fun a ha=>by
   rcases no a ha with h | h
   ·exact .inl (iQ S.nd hs h)
   ·exact .inl fun hm=>h ((gX sd i).own.subset hm)) nd
  rw [jS] at this; exact this.1
theorem mW {o:Obj} (h:Smp H) (a:Addr):Smp (upd H a (exO a o)):=fun b u e=>by
 by_cases z:b=a
 ·subst z; rw [bV] at e; cases e; trivial
 ·rw [bO z] at e; exact h _ _ e
end
section
variable {X:Cx} {sd:List Slot} {e a b c:Expr} {pos:Pos} {d:D} {ds:List D} {ks:List (List Key)} {k:List Key} {st:Stmt} {E:jG} {l:Addr}
noncomputable def dict0:Obj:={cls:= .type "dict",data:= .dict #[]}
theorem pe_dnewE:PE X (.Dict [] [] pos) (fun _ H Q=>∀p,H p=none→(p==sysModules)=false→Q (.ref p) (upd H p (exO p dict0))):=fun pins s σ H Q I h=>wpAny_Dict_empty ⟨.ref s.heap.objs.size,_,I.laid (a:=s.heap.objs.size) (o:=exO s.heap.objs.size dict0) (t':=s.toks) (fun _ _ q=>aE _ q) (aM _) (wF (bG _ rfl)),rfl,h _ (I.hok.fresh (aM _)) (beq_eq_false_iff_ne.mpr (Ne.symm (bP I.big)))⟩
end
section
variable {prog:Program} {w:World} {K:Type} [DecidableEq K] {knd:HeapKind prog w K} {A:Around} {E:Value→Shared→Prop} {s:Shared}
theorem pD {d a:Addr} {xs:List (K × Addr × Value)} {k:K} {v:Value} {Q:Value→Shared→Prop} (hu:knd.room A) (hkey:knd.is s.heap k a) (hm:s.heap.DictOfH knd d xs)
  (hold:∀u,(atKey xs k).map (·.2)=some u→Q u {s with toks:=s.toks+knd.draws k})
  (hnew:atKey xs k=none→∀h',h'.DictOfH knd d (storedH xs k a v)→Heap.SameBut d s.heap h'→Q v {s with heap:=h',toks:=s.toks+knd.draws k})
  (hsz:xs.length≤sizeLine):
  wpAny (model prog w) A (dictSetDefault d (.ref a) v) Q E s:=by
 obtain ⟨o,es,ep,ho,hc,hd,he,his,hn⟩:=hm; unfold dictSetDefault
 try with_reducible refine wpAny_holding ?_
 refine wpAny_bind (knd.pyHash hu hkey ?_); refine wpAny_bind (wpAny_dictFind_heap (s:={s with toks:=s.toks+knd.draws k}) hu hkey ho hd he his hn ?_ ?_)
 ·intro hno; have hnot:k∉xs.map (·.1):=not_mem_keys_of_get hno
  refine wpAny_bind (wpAny_rule (wpAny_bind (wpAny_updateDictKeys (hz:=by have e:=size_of_entries he; omega) (s:={s with toks:=s.toks+knd.draws k}) ho hd (wpAny_pure (hnew (atKey_none_of_get hno) _ ⟨_,_,ep+1,gH _ ho (Obj.isFreed_of_dict (Obj.data_mapDictKeys hd _)),
   hc.mapDictKeys _,Obj.data_mapDictKeys hd _, ?_, ?_, ?_⟩ (Heap.SameBut.update ..))))))
  ·rw [storedH_new (atKey_none_of_get hno)]; simp [he,entryOfKey]
  ·rw [storedH_new (atKey_none_of_get hno)]; intro x hx
   rcases bE.mp hx with hx | hx
   ·exact knd.keeps (his x hx) ho hd (Heap.SameBut.update ..)
   ·simp only [aI] at hx; subst hx; exact knd.keeps hkey ho hd (Heap.SameBut.update ..)
  ·rw [storedH_new (atKey_none_of_get hno)]; rw [bF,bM]; refine ⟨hn,by simp, ?_⟩; intro x hx y hy; simp only [bA,eI,aI] at hy; subst hy; exact fun e=>hnot (e▸hx)
 ·intro j p hj; refine wpAny_bind (wpAny_dictEntries (s:={s with toks:=s.toks+knd.draws k}) ho hd ?_); rw [entry_at he j,hj]; have:=hold p.2 (by rw [atKey_of_get hn hj]; rfl); exact wpAny_bind (wpAny_rule (wpAny_pure this))
end
section
variable {prog:Program} {w:World} {K:Type} [DecidableEq K] (knd:HeapKind prog w K) (d a:Addr)
theorem qN (hd:(d==sysModules)=false) (dflt:Value):
  MeetsIn prog w (Builtin.«dict.setdefault» ⟨[.ref d, .ref a,dflt],[]⟩) (fun A R s=>knd.room A.in1∧∃k xs,knd.is s.heap k a∧s.heap.DictOfH knd d xs∧xs.length≤sizeLine∧
   (∀u,(atKey xs k).map (·.2)=some u→R (.ok (.ret u)) {s with toks:=s.toks+knd.draws k})∧
   (atKey xs k=none→∀h',h'.DictOfH knd d (storedH xs k a dflt)→Heap.SameBut d s.heap h'→R (.ok (.ret dflt)) {s with heap:=h',toks:=s.toks+knd.draws k})):=
 .of_wp fun A R s ⟨hu,k,xs,hkey,hm,hz,h1,h2⟩=>by unfold Builtin.«dict.setdefault»; refine wpAny_bind ?_; unfold Builtin.Dict.keyAndDefault; refine wpAny_bind (wpAny_notOrdered_dict hm.typeIs ?_); show wpAny _ _ (pure (d,Value.ref a,some dflt)) _ _ s; refine wpAny_pure ?_; show wpAny _ _ (if (d==sysModules)=true then _ else (dictSetDefault d (.ref a) dflt>>=_)) _ _ s; rw [if_neg (by rw [hd]; exact bI)]; exact wpAny_bind (pD (hsz:=hz) hu hkey hm (fun v hv=>wpAny_pure ⟨v,rfl,h1 v hv⟩) fun hn h' hm' hs'=>wpAny_pure ⟨dflt,rfl,h2 hn h' hm' hs'⟩)
end
section
variable {X:Cx} {o e:Expr} {es:List Expr} {to:TE} {t:TA} {name:Str} {apos cpos:Pos} {id:String} {r:V→List V→Hp→VK→Prop}
theorem pe_dm (pa:PlainAttrs "dict") (slot:PySem.Slot "dict" name id) (hty:typeOf (.builtin id)=pure (.type "method_descriptor")) (hm:MtR X id r) (ho:PE X o to) (ha:PA X (e::es) t)
  (hbase:attributeBase o name X.env (eval o X.env)=eval o X.env:=by rfl)
  (hfew:((backTo cpos (starEach (e::es) X.env)).all (fun x=> !x.1) && (backToKw cpos (keywordEach [] X.env)).all (fun x=>x.1.isSome)
   && decide ((e::es).length+([]:List Keyword).length+(if ([]:List Keyword).isEmpty then 0 else 1)<30))=true:=by rfl)
  (hline:(apos.endLine==cpos.line)=true:=by rfl) (hs:starEach (e::es) X.env=(false,eval e X.env)::starEach es X.env:=by rfl) (hplain:(backTo cpos (starEach es X.env)).any (·.1)=false:=by rfl):
  PE X (.Call (.Attribute o name apos) (e::es) [] cpos) (fun σ H Q=>to σ H fun x H1=>(∃l ob,x= .ref l∧H1 l=some (exO l ob)∧ob.ExactDict)∧t σ H1 fun xs H2=>r x xs H2 Q):=by
 intro pins s σ H Q I h; refine wpAny_Call_method_late hbase hfew hline rfl (thn (ho pins s σ H _ I h) fun v s1 ⟨x,H1,I1,r1,⟨l,ob,e1,e2,e3⟩,q1⟩=> ?_); subst e1; obtain rfl:v=Value.ref l:=r1; have hg:s1.heap.get? l=some ob:=(I1.hok l _ e2).1; refine ⟨"dict",id,pa,slot,hty,⟨ob,hg,e3.1⟩,fun a q=> ?_, ?_⟩
 ·cases q; exact ⟨ob,hg,e3.2.1⟩
 have hA:=ha cpos pins s1 σ H1 _ I1 q1; rw [hs] at hA ⊢; refine Calls.callWith_builtin (by show (false || (backTo cpos (starEach es X.env)).any (·.1))=false; rw [hplain]<;>rfl) (Calls.evalArgs_plain ?_); exact thn hA fun us s2 ⟨vs,H2,I2,r2,q2⟩=>hm pins s2 σ H2 (.ref l) vs (.ref l) us Q I2 rfl r2 q2
noncomputable def rSD (X:Cx):V→List V→Hp→VK→Prop:=fun x vs H Q=>∃ (F:Hp) (l ad:Addr) (k:List Key) (y:V) (o:Obj) (kvs:List (List Key × V)),x= .ref l∧vs=[.ref ad,y]∧Same F H∧H l=some (exO l o)∧F ad=some (.tup (k.map kV))∧X.A.units+1<cLine∧
 TDo X.prog X.w F l o kvs∧kvs.length+1≤sizeLine∧(∀z,kH kvs k=some z→Q z H)∧(kH kvs k=none→∀o',(∀v,o'.data≠ .cell v)→TDo X.prog X.w F l o' (kvs++[(k,y)])→Q y (upd H l (exO l o')))
theorem mt_sd:MtR X "dict.setdefault" (rSD X):=by
 intro pins s σ H x vs v us Q I rx rv h; obtain ⟨F,l,ad,k,y,o,kvs,rfl,rfl,sF,hl,ha,hu,⟨z,hm,ts,kt,es,ep,t1,t2,t3,t4⟩,hz1,q1,q2⟩:=h; obtain rfl:v=Value.ref l:=rx; cases rv with
 | cons r1 rv=>
  obtain ⟨u,rfl,ru⟩:=Vals.one rv; rename_i b; obtain rfl:b=Value.ref ad:=r1; have ho:s.heap.get? l=some o:=(I.hok l _ hl).1; have ktH:KT H kvs ts:=kt.keeps fun b ys e=>sF _ _ e
  have dd:s.heap.DictOfH (tupleKind (gC X.prog X.w)) l ts:=⟨o,es,ep,ho,t1,t2,t3,KT.all I.hok ktH,t4⟩; have hz:ts.length≤sizeLine:=by rw [← Paired.length kt]; exact z
  refine call_meetsIn tL dd.typeIs PySem.F.entry_dict_setdefault (PySem.F.args_dict_setdefault_3 _ _ _) (qN (tupleKind (gC X.prog X.w)) l ad hm u) ⟨tupleKind_room_in1 hu,k,ts,uU I.hok (sF _ _ ha),dd,hz,fun w' hw=> ?_,fun hn h' dd' hsm=> ?_⟩
  ·have rl:=ktH.val k; rw [hw] at rl; cases hv:kH kvs k with
   | none=>rw [hv] at rl; cases rl
   | some z'=>rw [hv] at rl; exact ⟨z',H,I.tok _,rl,q1 z' hv⟩
  ·have hn':kH kvs k=none:=by
    have rl:=ktH.val k; rw [hn] at rl; cases hv:kH kvs k with
    | none=>rfl
    | some z'=>rw [hv] at rl; cases rl
   obtain ⟨q,es',ep',hq,u2,u3,u4,_,u5⟩:=dd'; have I4:=tS (t':=s.toks+(tupleKind (gC X.prog X.w)).draws k) I (ob:=exO l q) (by rw [hl]; exact True.intro) hsm ⟨q,hq⟩ (wF hq); have kt':=kt.put k ha ru; rw [vH y hn'] at kt'; exact ⟨y,_,I4,ru,q2 hn' q (fun v z=>by rw [u3] at z; cases z) ⟨by rw [aW]; exact hz1,hm,_,kt',es',ep',u2,u3,u4,u5⟩⟩
end
noncomputable def Gg (P:Program) (w:World) (K:aA) (l:Addr) (ks:List (List Key)) (ls:List Addr) (dss:List (List D)):V→Hp→Hp→Prop:=fun v F H=>v= .ref l∧(∃o,H l=some (exO l o)∧(∀v,o.data≠ .cell v)∧ks.length=ls.length∧TDo P w F l o (ks.zip (ls.map V.ref)))∧InD K F H ls dss
noncomputable def odG (P:Program) (w:World) (K:aA) (l:Addr) (ks:List (List Key)) (ls:List Addr) (dss:List (List D)):Slot:= .ox (l::ls) (Gg P w K l ks ls dss)
theorem xP:∀ {ks:List (List Key)} {xs:List V} {k:List Key} {z:V},kH (ks.zip xs) k=some z→∃n:Nat,ks[n]? =some k∧xs[n]? =some z
 | [],_,_,_,h=>by cases h
 | _::_,[],_,_,h=>by cases h
 | j::js,y::ys,k,z,h=>by
  rw [eX] at h
  by_cases e:j=k
  ·rw [mP (p:=(j,y)) e] at h; exact ⟨0,by simp [e],by simpa using h⟩
  ·rw [kJ (p:=(j,y)) (k:=k) e] at h; obtain ⟨n,h1,h2⟩:=xP h; exact ⟨n+1,by simpa using h1,by simpa using h2⟩
theorem valT_no:∀ {ks:List (List Key)} {xs:List V} {k:List Key},ks.length=xs.length→kH (ks.zip xs) k=none→k∉ks
 | [],_,_,_,_=>by simp
 | _::_,[],_,h,_=>by cases h
 | j::js,y::ys,k,hl,h=>by
  rw [eX] at h
  by_cases e:j=k
  ·rw [mP (p:=(j,y)) e] at h; cases h
  ·rw [kJ (p:=(j,y)) (k:=k) e] at h; have:=valT_no (Nat.succ.inj hl) h; exact fun hm=>(aX.mp hm).elim (fun q=>e q.symm) this
theorem slot_same {sd:List Slot} {i:Nat} {z:Slot} (h:sd[i]? =some z):sd.set i z=sd:=by obtain ⟨hi,e⟩:=aK.mp h; rw [← e,List.set_getElem_self]
section
variable {K:aA} {H₀ F F' H H':Hp} {σ:St} {sd:List Slot} {i:Nat} {l:Addr} {ls:List Addr} {dss:List (List D)} {P:Program} {w:World} {ks:List (List Key)}
theorem iL (S:StF K H₀ F H σ sd) (hs:sd[i]? =some (odG P w K l ks ls dss)):σ[i]? =some (some (.ref l))∧(∀a∈l::ls,F a=none)∧(∃o,H l=some (exO l o)∧(∀v,o.data≠ .cell v)∧ks.length=ls.length∧TDo P w F l o (ks.zip (ls.map V.ref)))∧InD K F H ls dss∧(l::ls).Nodup:=by
 obtain ⟨o,h1,v,h2,h3,h4⟩:=S.slots.get hs; obtain ⟨e,q1,q2⟩:=h4 F H (Same.refl _) fun _ _ _ q=>q
 subst e h2; exact ⟨h1,fun a ha=>(h3 a ha).1,q1,q2,uR S.nd hs⟩
theorem vW {o:Obj} (hF:∀a∈l::ls,F a=none) (h1:H l=some (exO l o)) (nc:∀v,o.data≠ .cell v) (hl:ks.length=ls.length) (t:TDo P w F l o (ks.zip (ls.map V.ref))) (h2:InD K F H ls dss):iK K F H (odG P w K l ks ls dss) (some (.ref l)):=by
 refine ⟨.ref l,rfl,fun a ha=>⟨hF a ha, ?_⟩,fun F' H' s k=>⟨rfl,⟨o,k _ aG _ h1,nc,hl,t.mono s⟩,h2.mono2 s fun a ha=>k a (aF _ ha)⟩⟩
 rcases aX.mp ha with rfl | ha
 ·exact ⟨_,h1,o,rfl,nc⟩
 ·obtain ⟨xs,e⟩:=h2.of a ha; exact ⟨.lst xs,e,trivial⟩
theorem StF.wrG {t:Nat} {a:Addr} {es:List D} {ys:List V} (S:StF K H₀ F H σ sd) (hs:sd[i]? =some (odG P w K l ks ls dss)) (ht:ls[t]? =some a) (r:RepL K F es ys):StF K H₀ F (upd H a (.lst ys)) σ (sd.set i (odG P w K l ks ls (dss.set t es))):=by
 obtain ⟨g1,g2,⟨o,g3,nc,hl,td⟩,g4,g5⟩:=iL S hs; obtain ⟨n1,n2⟩:=bT.mp g5; have ma:=bB ht
 refine S.reX (z':=odG P w K l ks ls (dss.set t es)) hs g1 (fun b ob hb q=> ?_) (smp_upd S.smp a) (vW g2 (by
  rw [bO (show l≠a from fun z=>n1 (z▸ma))]
  exact g3) nc hl td (g4.set n2 ht r)) g5 fun b hb=> .inl hb
 rw [bO (show b≠a from fun z=>hb (z▸aF _ ma))]; exact q
theorem InD.snoc {a:Addr}:∀ {as:List Addr} {dss:List (List D)},InD K F H as dss→H a=some (.lst [])→InD K F H (as++[a]) (dss++[[]])
 | [],[],_,e=>⟨⟨[],e, .nil⟩,trivial⟩
 | [],_::_,h,_=>h.elim
 | _::_,[],h,_=>h.elim
 | _::_,_::_,h,e=>⟨h.1,InD.snoc h.2 e⟩
theorem StF.newG {a:Addr} {o:Obj} {k:List Key} (S:StF K H₀ F H σ sd) (hs:sd[i]? =some (odG P w K l ks ls dss)) (fa:F a=none) (ha:H a=some (.lst [])) (na:a∉cC sd) (nc:∀v,o.data≠ .cell v) (td:TDo P w F l o (ks.zip (ls.map V.ref)++[(k, .ref a)])):
  StF K H₀ F (upd H l (exO l o)) σ (sd.set i (odG P w K l (ks++[k]) (ls++[a]) (dss++[[]]))):=by
 obtain ⟨g1,g2,⟨o',g3,nc',hl,_⟩,g4,g5⟩:=iL S hs; obtain ⟨n1,n2⟩:=bT.mp g5; have ml:∀b∈l::ls,b∈cC sd:=fun b hb=>eA.mpr ⟨_,bB hs,hb⟩
 have al:a≠l:=fun z=>na (z▸ml l aG)
 have als:a∉ls:=fun z=>na (ml a (aF _ z))
 have sp:∀b,b∈l::(ls++[a])→b∈l::ls∨b=a:=fun b hb=>by
  rcases aX.mp hb with h | h
  ·exact .inl (h▸aG)
  ·rcases bE.mp h with h | h
   ·exact .inl (aF _ h)
   ·exact .inr (aI.mp h)
 refine S.reX (z':=odG P w K l (ks++[k]) (ls++[a]) (dss++[[]])) hs g1 (fun b ob hb q=> ?_) (mW S.smp l) (vW (fun b hb=> ?_) bV nc (by rw [aW,aW,hl]; rfl) ?_ ?_) ?_ fun b hb=> ?_
 ·rw [bO (show b≠l from fun z=>hb (z▸aG))]; exact q
 ·rcases sp b hb with h | rfl
  ·exact g2 b h
  ·exact fa
 ·rw [bF,bA,eI,rR (by rw [aC]; exact hl)]; exact td
 ·refine InD.snoc (g4.mono2 (Same.refl _) fun b hb ob q=> ?_) ?_
  ·rw [bO (show b≠l from fun z=>n1 (z▸hb))]; exact q
  ·rw [bO al]; exact ha
 ·show (l::(ls++[a])).Nodup; refine bT.mpr ⟨fun h=> ?_,bM.mpr ⟨n2,by simp,fun b hb c hc e=>als (aI.mp hc▸e▸hb)⟩⟩
  rcases bE.mp h with h | h
  ·exact n1 h
  ·exact al (aI.mp h).symm
 ·rcases sp b hb with h | rfl
  ·exact .inl h
  ·exact .inr na
end
section
variable {X:Cx} {sd:List Slot} {e a b c:Expr} {pos:Pos} {d:D} {ds:List D} {ks:List (List Key)} {k:List Key} {st:Stmt} {E:jG} {l:Addr} {ls:List Addr} {dss:List (List D)}
theorem psd_dnewG (i:Nat) {x:Str} {p p2:Pos} (hN:X.N.Nodup) (hi:X.N[i]? =some x) (hx:Loc X.env.scope x) (hE:∀l,E.nx (sd.set i (odG X.prog X.w X.K l [] [] []))) (hs:swapsWith (.Dict [] [] p2) (some (.Name x p)) pos.line X.env=pure false:=by rfl)
  (hf:X.fn x=true∨X.env.scope.names.lookup x=some .local:=by first | exact .inl rfl | exact .inr rfl | assumption):PSd1 X sd (.Assign [.Name x p] (.Dict [] [] p2) pos) E:= .mk fun σ F H S=>
 (sG hN hi hx pe_dnewE hs hf).to fun q hq hm=>by
  have fp:F q=none:=S.sub.free hq
  have no:q∉cC sd:=fun hl=>by obtain ⟨_,ob,h,_⟩:=S.slots.owns hl; rw [hq] at h; cases h
  have S1:StF X.K X.B₀ F (upd H q (exO q dict0)) σ sd:=by
   refine ⟨S.base,fun b u e=> ?_,mW S.smp q,S.slots.mono (Same.refl _) fun l hl=> ?_,S.nd⟩
   ·rw [bO (cB e fp)]; exact S.sub _ _ e
   ·obtain ⟨n,ys,y,_⟩:=S.slots.owns hl; have hne:l≠q:=cB y hq; exact ⟨n,fun ys e=>by rw [bO hne]; exact e⟩
  refine ⟨_,F,S1.setT i (vW (P:=X.prog) (w:=X.w) (K:=X.K) (ks:=[]) (ls:=[]) (dss:=[]) (fun a ha=>by rw [aI.mp ha]; exact fp) bV (fun v z=>by cases z) rfl ⟨cD _,hm,[], .nil, #[],0,⟨rfl,rfl,rfl⟩,rfl,rfl,dG⟩ trivial) (by simp) fun a ha=> ?_,Same.refl _,hE q⟩; rw [aI.mp ha]; exact no
theorem psd_sdApp (i:Nat) {x:Str} {p ap1 cp1 p5 ap cp:Pos} (hu:X.A.units+1<cLine) (hs:sd[i]? =some (odG X.prog X.w X.K l ks ls dss)) (hx:PE X (.Name x p) (mG i)) (hb:PEd X sd b (.val (.tup (k.map kD)))) (h:∀z,PEd X (sd.set i z) e (.val d)) (hl:dss.length≤1000) (hl2:∀ds∈dss,ds.length≤1000)
  (hE1:∀n ds,ks[n]? =some k→dss[n]? =some ds→E.nx (sd.set i (odG X.prog X.w X.K l ks ls (dss.set n (ds++[d])))))
  (hE2:k∉ks→∀a,E.nx (sd.set i (odG X.prog X.w X.K l (ks++[k]) (ls++[a]) (dss++[[d]]))))
  (hm:PE X (.Call (.Attribute (.Call (.Attribute (.Name x p) "setdefault" ap1) [b, .List [] p5] [] cp1) "append" ap) [e] [] cp)
   (tBM X.K "list" tY (fun σ H Q=>mG i σ H fun x H1=>(∃l ob,x= .ref l∧H1 l=some (exO l ob)∧ob.ExactDict)∧(pF (wE X b) (pF (wE X (.List [] p5)) tNil)) σ H1 fun xs H2=>rSD X x xs H2 Q) (pF (wE X e) tNil)):=by exact pe_bm nD wX wY xR (pe_dm xX tL PySem.F.type_dict_setdefault mt_sd (pv _) (iD iJ (iD iJ pa_nil))) (iD iJ pa_nil))
  (hsw:swapsWith (.Call (.Attribute (.Call (.Attribute (.Name x p) "setdefault" ap1) [b, .List [] p5] [] cp1) "append" ap) [e] [] cp) none pos.line X.env=pure false:=by rfl):
  PSd1 X sd (.Expr (.Call (.Attribute (.Call (.Attribute (.Name x p) "setdefault" ap1) [b, .List [] p5] [] cp1) "append" ap) [e] [] cp) pos) E:= .mk fun σ F H S=>
 (uC hm hsw).to (by
  obtain ⟨h1,h2,⟨o,h3,nc,hk,td⟩,h4,h5⟩:=iL S hs; have il:i<sd.length:=(aK.mp hs).1
  have fin:∀ (F2 H2:Hp) (ks2:List (List Key)) (ls2:List Addr) (dss2:List (List D)) (n:Nat) (ad:Addr) (ds:List D),StF X.K X.B₀ F2 H2 σ (sd.set i (odG X.prog X.w X.K l ks2 ls2 dss2))→Same F F2→ls2[n]? =some ad→dss2[n]? =some ds→ds.length≤1000→E.nx (sd.set i (odG X.prog X.w X.K l ks2 ls2 (dss2.set n (ds++[d]))))→
    tyV X.K "list" (.ref ad) H2∧(pF (wE X e) tNil) σ H2 fun xs H3=>tY (.ref ad) xs H3 fun _ H4=>(lft X F E).nx σ H4:=fun F2 H2 ks2 ls2 dss2 n ad ds S2 s2 hn hd hdl hE=>by
   have hs2:(sd.set i (odG X.prog X.w X.K l ks2 ls2 dss2))[i]? =some (odG X.prog X.w X.K l ks2 ls2 dss2):=oH il; obtain ⟨g1,g2,_,g4,g5⟩:=iL S2 hs2; obtain ⟨ds',xs,e1,e2,e3⟩:=g4.get hn; refine ⟨.inl ⟨rfl,xs, .of e2⟩,(h _ σ F2 H2 S2).imp fun v H3 ⟨F3,S3,s3,q3⟩=> ?_⟩; obtain ⟨f1,f2,_,f4,f5⟩:=iL S3 hs2; obtain ⟨ds3,xs3,u1,u2,u3⟩:=f4.get hn; rw [hd] at u1; cases u1; have W:=S3.wrG (es:=ds++[d]) (ys:=xs3++[v]) hs2 hn (u3.app (.one q3)); rw [jS] at W; exact ⟨ad,xs3,v,rfl,rfl,u2,by rw [u3.len] ; exact fH hdl,_,F3,W,s2.trans s3,hE⟩
  refine ⟨.ref l,h1,⟨l,o,rfl,h3,td.2.2.choose_spec.2.choose_spec.choose_spec.1⟩,(hb σ F H S).imp fun v1 H1 ⟨F1,S1,s1,q1⟩=>((jQ (ds:=[]) aP (cD _):PEd X sd (.List [] p5) (.own [])) σ F1 H1 S1).imp fun v2 H2 ⟨F2,S2,s2,q2⟩=> ?_⟩; obtain ⟨g1,g2,⟨o2,g3,nc2,hk2,td2⟩,g4,g5⟩:=iL S2 hs; simp only [ResOk,Rep] at q1; obtain ⟨ad,ys,rfl,ha,rl⟩:=q1; rw [qL rl] at ha; obtain ⟨a,xs,rfl,fa,ha2,rl2,na⟩:=q2; have xn:xs=[]:=fW (by rw [rl2.len]; rfl); subst xn; have zl:(ks.zip (ls.map V.ref)).length=dss.length:=by rw [lC,aC,← hk2,tF,hk2,g4.len]
  refine ⟨F2,l,ad,k, .ref a,o2,ks.zip (ls.map V.ref),rfl,rfl,S2.sub,g3,s2 _ _ ha,hu,td2,by rw [zl]; have:=fH hl; omega,fun z hz=> ?_,fun hz o' nc' td'=> ?_⟩
  ·obtain ⟨n,e1,e2⟩:=xP hz; rw [bJ] at e2; obtain ⟨an,e3,rfl⟩:=jV.mp e2; obtain ⟨ds,xs,d1,d2,d3⟩:=g4.get e3; have S2':StF X.K X.B₀ F2 H2 σ (sd.set i (odG X.prog X.w X.K l ks ls dss)):=by rw [slot_same hs]; exact S2
   exact fin F2 H2 ks ls dss n an ds S2' (s1.trans s2) e3 d1 (hl2 ds (bB d1)) (hE1 n ds e1 d1)
  ·have S3:=S2.newG hs fa ha2 na nc' td'; have hE:=hE2 (valT_no (by rw [aC]; exact hk2) hz) a; have en:(dss++[[]]).set dss.length ([]++[d])=dss++[[d]]:=by simp
   exact fin F2 _ (ks++[k]) (ls++[a]) (dss++[[]]) dss.length a [] S3 (s1.trans s2) (by rw [← g4.len]; simp) (by simp) (cD _) (by rw [en]; exact hE))
end
noncomputable def sJ (p:Int × Int) (ws:List Int):Nat:=(sV (2^p.1.toNat) ws).toNat
theorem num_ok {p:Int × Int} (hp:p∈bX) {ws:List Int} (G:Fil p ws):sV (2^p.1.toNat) ws=(sJ p ws:Int)∧sJ p ws<(cT p).length∧(cT p).getD (sJ p ws) []=ws:=by have h:=fil_ok (chk14 p hp); obtain ⟨a,b,c⟩:=fil_at h G.len G.wd; refine ⟨by unfold sJ; omega, ?_,c⟩; show _<(gT _ _).length; rw [h.len]; exact b
theorem num_at {p:Int × Int} (hp:p∈bX) {i:Nat} (hi:i<(cT p).length):sJ p ((cT p).getD i [])=i:=by
 have h:=fil_ok (chk14 p hp); have hi':i<2^(p.1.toNat * p.2.toNat):=by rw [← h.len]; exact hi
 have:=(h.at_ i hi').2.2.1; unfold sJ; show (sV (2^p.1.toNat) ((gT (2^p.1.toNat) p.2.toNat).getD i [])).toNat=i; rw [this]; exact dO i
noncomputable def LtAt (A:Around) (s:Shared) (x y:Value) (b:Bool):Prop:=∀ (prog:Program) (w:World) (E:Value→Shared→Prop) (Q:Value→Shared→Prop),Q (.bool b) s→wpAny (model prog w) A (richCompare .Lt x y) Q E s
inductive yU (A:Around) (s:Shared) (fin:Bool):List (Value × Value)→Bool→Prop
 | nil:yU A s fin [] fin
 | eq {x y:Value} {r:List (Value × Value)} {b:Bool}:SeqAt.EqAt A.in1 s x y true→yU A s fin r b→yU A s fin ((x,y)::r) b
 | lt {x y:Value} {r:List (Value × Value)} {b:Bool}:SeqAt.EqAt A.in1 s x y false→LtAt A.in1 s x y b→yU A s fin ((x,y)::r) b
section
open PySem.SeqAt
open PySem.AutoSeq1 (wpAny_loadPart')
open PySem.MeetsSeq PySem.MeetsSeq2 PySem.MeetsSeq3
theorem zS (l b:Addr) (items items2:Array Value) (n n2:Nat) (dd dd2:Option Addr) (sl sl2:Array (Option Value)) (res:Bool):
  Meets (Builtin.«tuple.__lt__» ⟨[.ref l, .ref b],[]⟩)
   (fun A R s=>s.heap.get? l=some {cls:= .type "tuple",dict:=dd,data:= .seq items n,slots:=sl}∧s.heap.get? b=some {cls:= .type "tuple",dict:=dd2,data:= .seq items2 n2,slots:=sl2}∧
    yU A s (decide (items.size<items2.size)) (items.toList.zip items2.toList) res∧R (.ok (.ret (.bool res))) s):=
 .of_wp fun prog w A R s h=>by
  obtain ⟨hp,g,d,tk,os⟩:=s; obtain ⟨hl,hb,hx,h⟩:=h; have f2:=AutoSeq1.sub_tuple_tuple
  wp_walk using wpAny_loadPart' hl,wpAny_loadPart' hb,wpAny_forIn_list _ (fun rest b s'=>b.1=none∧s'=⟨hp,g,d,tk,os⟩∧yU A ⟨hp,g,d,tk,os⟩ (decide (items.size<items2.size)) rest res) _
  case turn=>
   rintro ⟨y,x⟩ rest b s' ⟨hb',rfl,hv⟩; cases hv with
   | eq he hr=>
    refine wpAny_bind (he prog w _ _ ?_)
    wp_walk
    exact ⟨rfl,rfl,hr⟩
   | lt he hlt=>
    refine wpAny_bind (he prog w _ _ ?_); have hri:=hlt prog w
    wp_walk using hri
    exact ⟨_,rfl,by simpa using h⟩
  case fin=>
   rintro ⟨b1,b2⟩ s' ⟨hb',rfl,hv⟩; simp only at hb'; subst hb'; cases hv
   wp_walk
   exact ⟨_,rfl,by simpa [Builtin.Tuple.tupleCompareSizes] using h⟩
  case h=>exact ⟨rfl,rfl,hx⟩
theorem lt_tup_gen {A:Around} {s:Shared} {l b:Addr} {items items2:Array Value} {res:Bool} (hl:IsTup s.heap l items) (hb:IsTup s.heap b items2) (hx:yU A s (decide (items.size<items2.size)) (items.toList.zip items2.toList) res)
  (hu:A.units<cLine):LtAt A s (.ref l) (.ref b) res:=fun prog w E Q h=>by
 obtain ⟨⟨cls,dd,data,sl⟩,ho,hc,n,hd⟩:=id hl; obtain ⟨⟨cls2,dd2,data2,sl2⟩,ho2,hc2,n2,hd2⟩:=id hb; simp only at hc hd hc2 hd2; subst hc hd hc2 hd2
 exact richCompare_meets_room (op:= .Lt) ⟨_,ho,rfl⟩ ⟨_,ho2,rfl⟩ PySem.F.slot_tuple_lt PySem.F.entry_tuple_lt (PySem.F.args_tuple_lt_2 _ _) (zS l b items items2 n n2 dd dd2 sl sl2 res)
  ⟨ho,ho2,hx,show Value.bool res≠Value.notImplemented∧Q (.bool res) s from ⟨(fun x=>nomatch x),h⟩⟩ hu
end
mutual
noncomputable def dlt:D→D→Bool
 | .int a, .int b=>decide (a<b)
 | .tup a, .tup b=>pM a b
 | _,_=>false
noncomputable def pM:List D→List D→Bool
 | [],[]=>false
 | [],_::_=>true
 | _::_,[]=>false
 | d::ds,e::es=>if deq d e=true then pM ds es else dlt d e
end
mutual
noncomputable def jR:D→D→Bool
 | .int _, .int _=>true
 | .tup a, .tup b=>sY a b
 | _,_=>false
noncomputable def sY:List D→List D→Bool
 | [],_=>true
 | _::_,[]=>true
 | d::ds,e::es=>jR d e && sY ds es
end
section
variable {P:Program} {w:World} {K:aA} {H:Hp} {s:Shared}
mutual
theorem ltAt_D (hok:HOk P w H s.heap):∀ (d:D) {d2:D} {v1 v2:V} {u1 u2:Value} {A:Around},jR d d2=true→pl d=true→pl d2=true→Rep K H d v1→Rep K H d2 v2→RelV v1 u1→RelV v2 u2→A.units+dep d<cLine→LtAt A s u1 u2 (dlt d d2)
 | .int a,d2,v1,v2,u1,u2,A,c,p1,p2,r1,r2,ru1,ru2,hu=>by
  cases d2 with
  | int b=>simp only [Rep] at r1 r2; subst r1 r2; obtain ⟨t,rfl⟩:=ru1; obtain ⟨t2,rfl⟩:=ru2; simp only [dlt]; exact fun prog w E Q h=>(PyProof.Rows.lt_int h:wpAny (model prog w) A (compareOp .Lt (.int a t) (.int b t2)) Q E s)
  | _=>simp [jR] at c
 | .tup ds,d2,v1,v2,u1,u2,A,c,p1,p2,r1,r2,ru1,ru2,hu=>by
  cases d2 with
  | tup es=>
   obtain ⟨a,xs,its,rfl,rfl,rl,rv,ht⟩:=iC hok r1 ru1; obtain ⟨b,ys,jts,rfl,rfl,rl2,rv2,ht2⟩:=iC hok r2 ru2; simp only [dlt]; have l1:its.length=ds.length:=by rw [← rv.length,rl.len]
   have l2:jts.length=es.length:=by rw [← rv2.length,rl2.len]
   simp only [pl] at p1 p2; simp only [dep] at hu; simp only [jR] at c; refine lt_tup_gen ht ht2 ?_ (by omega); exact ltAt_L hok ds c p1 p2 rl rl2 rv rv2 (by omega) (by simp [l1,l2])
  | _=>simp [jR] at c
 | .non,d2,_,_,_,_,_,c,_,_,_,_,_,_,_=>by cases d2<;>simp [jR] at c
 | .bl _,d2,_,_,_,_,_,c,_,_,_,_,_,_,_=>by cases d2<;>simp [jR] at c
 | .str _,d2,_,_,_,_,_,c,_,_,_,_,_,_,_=>by cases d2<;>simp [jR] at c
 | .lst _,d2,_,_,_,_,_,c,_,_,_,_,_,_,_=>by cases d2<;>simp [jR] at c
 | .dic,d2,_,_,_,_,_,c,_,_,_,_,_,_,_=>by cases d2<;>simp [jR] at c
 | .dki _ _,d2,_,_,_,_,_,c,_,_,_,_,_,_,_=>by cases d2<;>simp [jR] at c
 | .any _,d2,_,_,_,_,_,c,_,_,_,_,_,_,_=>by cases d2<;>simp [jR] at c
 | .scr _,d2,_,_,_,_,_,c,_,_,_,_,_,_,_=>by cases d2<;>simp [jR] at c
theorem ltAt_L (hok:HOk P w H s.heap):∀ (ds:List D) {es:List D} {xs ys:List V} {its jts:List Value} {A:Around} {fin:Bool},sY ds es=true→plL ds=true→plL es=true→RepL K H ds xs→RepL K H es ys→Vals xs its→Vals ys jts→A.units+1+iM ds<cLine→fin=decide (ds.length<es.length)→yU A s fin (its.zip jts) (pM ds es)
 | [],es,xs,ys,its,jts,A,fin,c,p1,p2,r1,r2,v1,v2,hu,hf=>by
  simp only [RepL] at r1; subst r1; cases v1; subst hf; rw [List.zip_nil_left]; cases es with
  | nil=>exact .nil
  | cons e es=>
   have:pM [] (e::es)=decide (([]:List D).length<(e::es).length):=by simp [pM]
   rw [this]; exact .nil
 | d::ds,[],xs,ys,its,jts,A,fin,c,p1,p2,r1,r2,v1,v2,hu,hf=>by
  simp only [RepL] at r2; subst r2; cases v2; subst hf; rw [List.zip_nil_right]; have:pM (d::ds) []=decide ((d::ds).length<([]:List D).length):=by simp [pM]
  rw [this]; exact .nil
 | d::ds,e::es,xs,ys,its,jts,A,fin,c,p1,p2,r1,r2,v1,v2,hu,hf=>by
  obtain ⟨x,xs,rfl,a1,r1⟩:=r1.uncons; obtain ⟨y,ys,rfl,a2,r2⟩:=r2.uncons; simp only [plL,bL] at p1 p2; simp only [sY,bL] at c; simp only [iM] at hu; cases v1 with
  | cons q1 v1=>
   cases v2 with
   | cons q2 v2=>
    rw [eX]; have he:=wH (A:=A.in1) hok d p1.1 p2.1 a1 a2 q1 q2 (by show A.units+1+dep d<cLine; omega); simp only [pM]
    by_cases z:deq d e=true
    ·rw [if_pos z]; rw [z] at he; exact .eq he (ltAt_L hok ds c.2 p1.2 p2.2 r1 r2 v1 v2 (by omega) (by rw [hf]; simp))
    ·rw [if_neg z]; rw [Bool.eq_false_iff.mpr z] at he; exact .lt he (ltAt_D (A:=A.in1) hok d c.1 p1.1 p2.1 a1 a2 q1 q2 (by show A.units+1+dep d<cLine; omega))
end
end
section
variable {prog:Program} {w:World} {A:Around} {E:Value→Shared→Prop} {s:Shared}
open HT
end
theorem first_iff {f:Nat→Bool} {A:List (List Int)}:(lM f A).isNone=true↔∀j,j<A.length→f j=false:=by
 constructor
 ·intro h j hj; cases e:f j with
  | false=>rfl
  | true=>exfalso; unfold lM at h; rw [Option.isNone_map] at h; have:=rJ.mp (Option.isNone_iff_eq_none.mp h) j (cN.mpr hj); exact this e
 ·intro h; rw [pU h]; rfl
theorem mQ (a:List Nat):(aY a).length=a.length:=by unfold aY; rw [aC]
noncomputable def shp {α β:Type} (n:β) (g:α→β):List Bool→List α→List β
 | [],_=>[]
 | false::m,as=>n::shp n g m as
 | true::m,[]=>n::shp n g m []
 | true::m,a::as=>g a::shp n g m as
noncomputable def GO (K:aA) (m:List Bool) (l:Addr) (ls:List Addr) (dss:List (List D)):V→Hp→Hp→Prop:=fun v F H=>v= .ref l∧H l=some (.lst (shp V.non V.ref m ls))∧InD K F H ls dss
structure Exc (h0 h:Heap) (H:Hp) (a T:Addr) (cls:Value):Prop where
 free:H a=none
 new:h0.get? a=none
 freeT:H T=none
 newT:h0.get? T=none
 obj:∃oe vs oT ts a0,h.get? a=some oe∧(oe.cls=cls∧vs[0]? =some a0)∧oe.data= .fields vs∧vs[1]? =some (.ref T)∧T≠a∧h.get? T=some oT∧oT.data= .fields ts∧ts[3]? =some .none
noncomputable def CX1 (P:Program) (w:World) (cls:Value):CXT:=fun outer H s E e s'=>∃a T H',e= .ref a∧s'.os=s.os∧AllBare s'.gens∧Un (frs outer) [] H H' s.heap s'.heap∧HOk P w H' s'.heap∧Exc s.heap s'.heap H' a T cls∧E (.ref a) (some a) H'
end DL
namespace DL
open PySem PySem.Spec PySem.Calls PySem.W PyProof.Rows Builtin Builtin.Getset_descriptor Builtin.ObjectAttr
section
variable {prog:Program} {w:World} {A:Around} {E:Value→Shared→Prop} {h:Heap} {g:Array GenState} {d:Drawn} {t:Nat} {os:OsState} {a C:Addr} {K:Frag}
structure XCls (K:Frag) (C:Addr):Prop where
 ha:findIn K (.ref C) "__class__"=some (some (.builtin "object.__class__"))
 hm:mroIn K C (.type "object")=some true
 hs:subIn K (.ref C) (.type "BaseException")=some true
 hg:findIn K (.ref C) "__getattribute__"=some (some (.builtin "BaseException.__getattribute__"))
 hn:findIn K (.ref C) "__getattr__"=some none
 hc:(clsIn K C).isSome=true
end
end DL
namespace DL
open PySem PySem.Spec PyProof.Rows L2
noncomputable def bmVE:List Value:=[.type "ValueError", .type "Exception", .type "BaseException", .type "object"]
section
variable {X:Cx} {sd:List Slot} {e a b c:Expr} {es:List Expr} {pos:Pos} {d:D} {ds:List D} {E:jG}
structure PEx (X:Cx) (sd:List Slot) (e:Expr):Prop where
 run:∀ (σ:St) (F H:Hp),StF X.K X.B₀ F H σ sd→wE X e σ H (fun _ _=>False)
noncomputable def spX (K:aA) (n:Nat) (C:List D→Prop):Sp:=fun vs H _ E=>vs.length=n∧Smp H∧∃ds,RepL K H ds vs∧C ds∧∀a H',Same H H'→Smp H'→E (.ref a) (some a) H'
structure CalleeX (P:Program) (w:World) (K:aA) (mg:Str→Option Value) (base:Heap) (x:Str) (k n:Nat) (C:List D→Prop) (cls:Value) (dvs:List V) (dws:List Value):Prop where
 ex:∃ (f:Addr) (fd:FuncData) (ps:List Str),mg x=some (.ref f)∧cY K (.ref f)=true∧Binds K fd ps dws∧Vals dvs dws∧FnOk P w K mg base (CX1 P w cls) k f fd ps (spX K n C)
end
section
variable {X:Cx} {pins:List (Addr × Obj)} {σ:St} {F H:Hp} {s:Shared} {sd:List Slot} {a T:Addr} {cls:Value} {M:Model} {A:Around} {Ex:Value→Shared→Prop}
structure Held (X:Cx) (pins:List (Addr × Obj)) (σ:St) (H:Hp) (s:Shared) (a T:Addr) (cls fl:Value):Prop where
 inv:Inv X pins σ H s
 fa:H a=none∧X.s₀.heap.get? a=none∧∀p∈X.pn++pins,p.1≠a
 fT:H T=none∧X.s₀.heap.get? T=none∧∀p∈X.pn++pins,p.1≠T
 obj:∃oe vs oT ts a0,s.heap.get? a=some oe∧(oe.cls=cls∧vs[0]? =some a0)∧oe.data= .fields vs∧vs[1]? =some (.ref T)∧T≠a∧s.heap.get? T=some oT∧oT.data= .fields ts∧ts[3]? =some fl
end
section
variable {X:Cx} {sd:List Slot} {e a b c:Expr} {es:List Expr} {pos:Pos} {d:D} {ds:List D} {E:jG}
noncomputable def spS (K:aA) (n:Nat) (G:V→Hp→Prop) (C:List D→Prop):Sp:=fun vs H _ E=>vs.length=n∧Smp H∧∃v us ds,vs=v::us∧G v H∧RepL K H ds us∧C ds∧∀a H',Same H H'→Smp H'→E (.ref a) (some a) H'
structure CalleeS (P:Program) (w:World) (K:aA) (mg:Str→Option Value) (base:Heap) (x:Str) (k n:Nat) (G:V→Hp→Prop) (C:List D→Prop) (cls:Value):Prop where
 ex:∃ (f:Addr) (fd:FuncData) (ps:List Str),mg x=some (.ref f)∧cY K (.ref f)=true∧Binds K fd ps []∧FnOk P w K mg base (CX1 P w cls) k f fd ps (spS K n G C)
structure PSh (X:Cx) (sd:List Slot) (e:Expr) (G:V→Hp→Prop):Prop where
 run:∀ (σ:St) (F H:Hp),StF X.K X.B₀ F H σ sd→wE X e σ H fun v H'=>∃F',StF X.K X.B₀ F' H' σ sd∧Same F F'∧G v F'
end
section
variable {X:Cx} {pins:List (Addr × Obj)} {σ:St} {F H:Hp} {s s':Shared} {sd:List Slot} {cls:Value} {e tg iter:Expr} {es:List Expr} {pos:Pos} {ds:List D} {Old:Addr→Prop} {E:jG}
structure ExcO (Old:Addr→Prop) (h:Heap) (H:Hp) (a T:Addr) (cls:Value):Prop where
 free:H a=none
 new:¬ Old a
 freeT:H T=none
 newT:¬ Old T
 obj:∃oe vs oT ts a0,h.get? a=some oe∧(oe.cls=cls∧vs[0]? =some a0)∧oe.data= .fields vs∧vs[1]? =some (.ref T)∧T≠a∧h.get? T=some oT∧oT.data= .fields ts∧ts[3]? =some .none
noncomputable def Ent (X:Cx):Addr→Prop:=fun b=>∃o,X.s₀.heap.get? b=some o
end
noncomputable def GI (K:aA) (l:Addr) (ks:List Key) (ls:List Addr) (dss:List (List D)):V→Hp→Hp→Prop:=fun v F H=>v= .ref l∧H l=some (.dK (ks.zip (ls.map V.ref)))∧ks.length=ls.length∧InD K F H ls dss
noncomputable def GW (K:aA) (m:List Bool) (l0 l:Addr) (ls:List Addr) (dss:List (List D)):V→Hp→Hp→Prop:=fun v F H=>v= .ref l0∧H l0=some (.lst [.ref l, .int 0])∧H l=some (.lst (shp V.non V.ref m ls))∧InD K F H ls dss
noncomputable abbrev Wnt:=List (Option Int)
noncomputable abbrev Exs:=List (List Int × Wnt)
noncomputable def bw:Option Int→Option Int→Option (Option Int)
 | none,b=>some b
 | some x,none=>some (some x)
 | some x,some y=>if y=x then some (some x) else none
structure EOk (p:Int × Int) (E:Exs):Prop where
 fil:∀x∈E,x.1∈cT p
 len:∀x∈E,x.2.length=p.2.toNat
 wd:∀x∈E,∀b w,x.2.getD b none=some w→0≤w∧w<((2^p.1.toNat:Nat):Int)
structure GOk (n:Nat) (E:Exs) (t:Nat) (G:List (List Int) × List Wnt):Prop where
 nd:G.1.Nodup
 ln:G.1.length=G.2.length
 mem:∀f,f∈G.1↔∃i,i<t∧(E.getD i ([],[])).1=f
 wl:∀u∈G.2,u.length=n
 has:∀i,i<t→∀b w,b<n→(E.getD i ([],[])).2.getD b none=some w→(G.2.getD (G.1.idxOf (E.getD i ([],[])).1) []).getD b none=some w
 from_:∀f∈G.1,∀b w,b<n→(G.2.getD (G.1.idxOf f) []).getD b none=some w→∃i,i<t∧(E.getD i ([],[])).1=f∧(E.getD i ([],[])).2.getD b none=some w
structure Xk34 (K:aA) (mg:Str→Option Value) (CN:Addr):Prop where
 xc:XCls K CN
 ex:PySem.W.excIn K CN bmVE "ValueError.__new__"=true
 le:∃C:Addr,mg "LeastError"=some (.ref C)∧PySem.W.exmOne K (.ref CN) (.ref C)=some true
 nw:mg "NoWish"=some (.ref CN)∧jU K (.ref CN) (.ref CN)=some true
 ve:mg "ValueError"=none∧jU K (.ref CN) (.type "ValueError")=some true
 nc:∃C:Addr,mg "NoChange"=some (.ref C)∧jU K (.ref CN) (.ref C)=some false
 nt:∃C:Addr,mg "NoText"=some (.ref C)∧jU K (.ref CN) (.ref C)=some false
 nd:∃C:Addr,mg "NoWindow"=some (.ref C)∧jU K (.ref CN) (.ref C)=some false
 tg:∃C:Addr,mg "TooGreat"=some (.ref C)∧jU K (.ref CN) (.ref C)=some false
structure DOk (L:List (Nat × Int)) (T:List Nat × List (List Int)):Prop where
 nd:T.1.Nodup
 ln:T.1.length=T.2.length
 mem:∀b,b∈T.1↔∃w,(b,w)∈L
 val:∀b∈T.1,∀w,w∈T.2.getD (T.1.idxOf b) []↔(b,w)∈L
 le:T.2.length≤L.length∧∀l∈T.2,l.length≤L.length
noncomputable abbrev Ch:=Nat × Nat × List Nat
noncomputable def wcQ (row:List Nat) (c:Ch):List Nat:=row.take c.1++c.2.2++row.drop (c.1+c.2.1)
noncomputable def prcI (L:List SK) (row:List Nat):Int:=sumI (prcL L row)
noncomputable def endQ (p:Int × Int) (L:List SK) (row:List Nat) (o:Option (List Nat)):List (List Int):=(cT p).map fun ws=>match o with
 | none=>nO p L row ws
 | some l=>l.map fun j=>(nO p L row ws).getD j 0
noncomputable def winB (row:List Nat) (c:Ch):Bool:=decide (1≤c.2.1∧c.1+c.2.1≤row.length)
noncomputable def hoQ (p:Int × Int) (L:List SK) (row:List Nat) (c:Ch) (o:Option (List Nat)):Bool:=winB row c && (decide (prcI L c.2.2<prcI L ((row.drop c.1).take c.2.1)) && decide (endQ p L (wcQ row c) o=endQ p L row o))
noncomputable def fD (L:List SK) (row:List Nat):Prop:=∀t∈row,t<L.length
structure Chn (p:Int × Int) (L:List SK) (o:Option (List Nat)) (row:List Nat) (cs:List Ch) (rs:List (List Nat)):Prop where
 len:rs.length=cs.length+1
 hd:rs.getD 0 []=row
 st:∀i,i<cs.length→hoQ p L (rs.getD i []) (cs.getD i (0,0,[])) o=true∧rs.getD (i+1) []=wcQ (rs.getD i []) (cs.getD i (0,0,[]))
 ok:∀r∈rs,fD L r∧r.length≤8+9 * cs.length
 pc:∀c∈cs,fD L c.2.2∧c.2.2.length≤9
theorem byKey {G K:Prop} (h:K→G) (k:K):G:=h k
section
variable {prog:Program} {w:World} {κ:Type} [DecidableEq κ] (knd:KeyKind prog w κ)
variable {knd}
variable {A:Around} {E:Value→Shared→Prop} {s:Shared}
end
structure HK (P:Program) (w:World) (κ:Type) [DecidableEq κ] where
 kind:HeapKind P w κ
 rel:Hp→κ→Addr→Prop
 mono:∀ {F F':Hp} {k:κ} {a:Addr},Same F F'→rel F k a→rel F' k a
 ok:∀ {H:Hp} {h:Heap} {k:κ} {a:Addr},HOk P w H h→rel H k a→kind.is h k a
 room:∀ {A:Around},A.units+2<cLine→kind.room A.in1
 dat:κ→D
 key:∀ {K:aA} {F:Hp} {k:κ} {v:V},Rep K F (dat k) v→∃a,v= .ref a∧rel F k a
 back:∀ {K:aA} {F:Hp} {k:κ} {a:Addr},rel F k a→Rep K F (dat k) (.ref a)
theorem uX {K:aA} {F:Hp}:∀k:List Key,RepL K F (k.map kD) (k.map kV)
 | []=> .nil
 | a::k=>by refine .cons ?_ (uX k); cases a<;>simp only [kD,kV,Rep]
noncomputable def tD (k:List Key):D:= .tup (k.map kD)
noncomputable def hkT (P:Program) (w:World):HK P w (List Key) where
 kind:=tupleKind (gC P w)
 rel:=fun F k a=>F a=some (.tup (k.map kV))
 mono:=fun s h=>s _ _ h
 ok:=fun ok h=>uU ok h
 room:=fun hu=>tupleKind_room_in1 (by omega)
 dat:=tD
 key:=fun r=>by simp only [tD,Rep] at r; obtain ⟨a,ys,rfl,ha,rl⟩:=r; rw [qL rl] at ha; exact ⟨a,rfl,ha⟩
 back:=fun {K F k a} h=>by simp only [tD,Rep]; exact ⟨a,_,rfl,h,uX k⟩
inductive R2k (F:Hp):List (List Key)→List V→Prop
 | nil:R2k F [] []
 | cons {k:List Key} {b:Addr} {ks:List (List Key)} {vs:List V}:F b=some (.tup (k.map kV))→R2k F ks vs→R2k F (k::ks) (.ref b::vs)
section
variable {P:Program} {w:World} {κ:Type} [DecidableEq κ] (hk:HK P w κ)
noncomputable abbrev KG (F:Hp):List (κ × V)→List (κ × Addr × Value)→Prop:=Paired fun p q=>p.1=q.1∧hk.rel F p.1 q.2.1∧RelV p.2 q.2.2
noncomputable def TG (K:aA) (F:Hp) (l:Addr) (o:Obj) (ks:List κ) (ds:List D):Prop:=
 ks.length=ds.length∧ks.length≤sizeLine∧(l==sysModules)=false∧ks.Nodup∧∃ (vs:List V) (xs:List (κ × Addr × Value)) (es:Array DictEntry) (ep:Nat),RepL K F ds vs∧KG hk F (ks.zip vs) xs∧o.ExactDict∧o.data= .dict es ep∧es.toList=xs.map (entryOfKey hk.kind)∧(xs.map (·.1)).Nodup
variable {hk} {K:aA} {F F' H:Hp} {l:Addr} {o:Obj} {ks:List κ} {ds:List D}
theorem KG.mono {kvs:List (κ × V)} {xs:List (κ × Addr × Value)} (s:Same F F') (r:KG hk F kvs xs):KG hk F' kvs xs:=Paired.mapP r fun _ _ z=>⟨z.1,hk.mono s z.2.1,z.2.2⟩
theorem TG.mono (s:Same F F') (t:TG hk K F l o ks ds):TG hk K F' l o ks ds:=by obtain ⟨h1,h2,h3,h4,vs,xs,es,ep,r,g,q⟩:=t; exact ⟨h1,h2,h3,h4,vs,xs,es,ep,r.mono s,g.mono s,q⟩
theorem KG.all {h:Heap} (ok:HOk P w H h) {l:List (κ × V)} {m:List (κ × Addr × Value)} (q:KG hk H l m):∀x∈m,hk.kind.is h x.1 x.2.1:=by
 induction q with
 | nil=>intro x hx; exact nomatch hx
 | @cons p q ps qs hq t ih=>
  intro x hx
  rcases aX.mp hx with e | hx
  ·subst e; exact hk.ok ok (by rw [← hq.1]; exact hq.2.1)
  ·exact ih x hx
theorem KG.val {kvs:List (κ × V)} {xs:List (κ × Addr × Value)} (r:KG hk F kvs xs) (k:κ):RelO (kH kvs k) ((atKey xs k).map (·.2)):=by
 induction r with
 | nil=>exact True.intro
 | @cons p q ps qs h t ih=>
  obtain ⟨h1,_,h2⟩:=h
  by_cases e:p.1=k
  ·have e':q.1=k:=h1.symm.trans e; have b:atKey (q::qs) k=some q.2:=by simp [atKey,gQ,e']
   rw [mP e,b]; exact h2
  ·have e':¬ q.1=k:=fun z=>e (h1.trans z)
   have b:atKey (q::qs) k=atKey qs k:=by simp [atKey,gQ,e']
   rw [kJ e,b]; exact ih
theorem KG.new {kvs:List (κ × V)} {xs:List (κ × Addr × Value)} (r:KG hk F kvs xs) {k:κ} (hn:kH kvs k=none) {b:Addr} {y:V} {u:Value} (hb:hk.rel F k b) (ry:RelV y u):KG hk F (kvs++[(k,y)]) (storedH xs k b u):=by
 have e:atKey xs k=none:=by
  have:=r.val k; rw [hn] at this; cases h:atKey xs k with
  | none=>rfl
  | some z=>rw [h] at this; cases this
 rw [storedH_new e]; exact Paired.snoc r ⟨rfl,hb,ry⟩
theorem rN {k:κ}:∀ {ks:List κ} {xs:List V},k∉ks→kH (ks.zip xs) k=none
 | [],_,_=>rfl
 | _::_,[],_=>rfl
 | j::js,x::xs,h=>by rw [eX,kJ (p:=(j,x)) (k:=k) (fun e=>h ((show j=k from e)▸aG))]; exact rN fun z=>h (aF _ z)
theorem zL:∀ {ks:List κ} {xs:List V} {n:Nat} {k:κ} {x:V},ks.Nodup→ks[n]? =some k→xs[n]? =some x→kH (ks.zip xs) k=some x
 | [],_,n,_,_,_,h,_=>by simp at h
 | _::_,[],n,_,_,_,_,h=>by simp at h
 | j::js,y::ys,0,k,x,nd,h1,h2=>by
  have e1:j=k:=by simpa using h1
  have e2:y=x:=by simpa using h2
  rw [eX,mP e1,e2]
 | j::js,y::ys,n+1,k,x,nd,h1,h2=>by
  obtain ⟨nj,nd⟩:=bT.mp nd; have h1:js[n]? =some k:=by simpa using h1
  have h2:ys[n]? =some x:=by simpa using h2
  rw [eX,kJ (p:=(j,y)) (k:=k) (fun e=>nj ((show j=k from e)▸bB h1))]; exact zL nd h1 h2
theorem valG_some {k:κ} {ks:List κ} {xs:List V} (nd:ks.Nodup) (hl:ks.length=xs.length) (h:k∈ks):(kH (ks.zip xs) k).isSome=true:=by obtain ⟨n,hn,rfl⟩:=eM h; rw [zL (n:=n) (x:=xs[n]'(by omega)) nd (by simp [hn]) (by simp [show n<xs.length by omega])]; rfl
theorem TG.dict {h:Heap} (ok:HOk P w H h) (s:Same F H) (hl:H l=some (exO l o)) (t:TG hk K F l o ks ds):∃ (vs:List V) (xs:List (κ × Addr × Value)),RepL K F ds vs∧KG hk F (ks.zip vs) xs∧h.DictOfH hk.kind l xs∧xs.length≤sizeLine∧(∀k,(atKey xs k).isSome=decide (k∈ks)):=by
 obtain ⟨h1,h2,h3,h4,vs,xs,es,ep,r,g,q1,q2,q3,q4⟩:=t; have ho:h.get? l=some o:=(ok l _ hl).1; refine ⟨vs,xs,r,g,⟨o,es,ep,ho,q1,q2,q3,KG.all ok (g.mono s),q4⟩, ?_,fun k=> ?_⟩
 ·rw [← Paired.length g,lC,r.len,← h1,tF]; exact h2
 ·have:=(g.val k).isSome_eq; rw [Option.isSome_map] at this; rw [← this]
  by_cases e:k∈ks
  ·rw [decide_eq_true e]; exact valG_some h4 (by rw [r.len,h1]) e
  ·rw [decide_eq_false e,rN e]; rfl
end
section
variable {P:Program} {w:World} {κ:Type} [DecidableEq κ]
noncomputable def GG (hk:HK P w κ) (K:aA) (l:Addr) (ks:List κ) (ds:List D):V→Hp→Hp→Prop:=fun v F H=>v= .ref l∧∃o,H l=some (exO l o)∧TG hk K F l o ks ds
noncomputable def oG (hk:HK P w κ) (K:aA) (l:Addr) (ks:List κ) (ds:List D):Slot:= .ox [l] (GG hk K l ks ds)
noncomputable def gD (hk:HK P w κ) (K:aA) (ks:List κ) (ds:List D):D:= .any fun v F=>∃l o,v= .ref l∧F l=some (exO l o)∧TG hk K F l o ks ds
variable {hk:HK P w κ} {K:aA} {H₀ F H:Hp} {σ:St} {sd:List Slot} {i:Nat} {l:Addr} {ks:List κ} {ds:List D} {o:Obj}
theorem TG.cell (t:TG hk K F l o ks ds):∀v,o.data≠ .cell v:=fun v z=>by obtain ⟨_,_,_,_,_,_,_,_,_,_,_,q,_⟩:=t; rw [q] at z; cases z
theorem uI (S:StF K H₀ F H σ sd) (hs:sd[i]? =some (oG hk K l ks ds)):σ[i]? =some (some (.ref l))∧F l=none∧∃o,H l=some (exO l o)∧TG hk K F l o ks ds:=by
 obtain ⟨o,h1,v,h2,h3,h4⟩:=S.slots.get hs; obtain ⟨e,ob,a,b⟩:=h4 F H (Same.refl _) fun _ _ _ q=>q
 subst e h2; exact ⟨h1,(h3 l (cP l)).1,ob,a,b⟩
theorem oG_mk (hF:F l=none) (h1:H l=some (exO l o)) (t:TG hk K F l o ks ds):iK K F H (oG hk K l ks ds) (some (.ref l)):=
 ⟨.ref l,rfl,fun a ha=>by
  rw [aI.mp ha]
  exact ⟨hF,_,h1,o,rfl,t.cell⟩,fun F' H' s k=>⟨rfl,o,k l (cP l) _ h1,t.mono s⟩⟩
theorem gD_rep {v:V}:Rep K F (gD hk K ks ds) v↔∃l o,v= .ref l∧F l=some (exO l o)∧TG hk K F l o ks ds:=by
 simp only [gD,Rep]
 constructor
 ·exact fun h=>h.2 F (Same.refl _)
 ·rintro ⟨l,o,rfl,e,t⟩; exact ⟨⟨l,rfl⟩,fun F' s=>⟨l,o,rfl,s _ _ e,t.mono s⟩⟩
end
section
variable {X:Cx} {sd:List Slot} {e a b c tg iter:Expr} {es:List Expr} {pos:Pos} {d:D} {ds:List D} {κ:Type} [DecidableEq κ] {hk:HK X.prog X.w κ} {ks:List κ} {k:κ} {E:jG} {l:Addr}
theorem psd_newG (hk:HK X.prog X.w κ) (i:Nat) {x:Str} {p p2:Pos} (hN:X.N.Nodup) (hi:X.N[i]? =some x) (hx:Loc X.env.scope x) (hE:∀l,E.nx (sd.set i (oG hk X.K l [] []))) (hs:swapsWith (.Dict [] [] p2) (some (.Name x p)) pos.line X.env=pure false:=by rfl)
  (hf:X.fn x=true∨X.env.scope.names.lookup x=some .local:=by first | exact .inl rfl | exact .inr rfl | assumption):PSd1 X sd (.Assign [.Name x p] (.Dict [] [] p2) pos) E:= .mk fun σ F H S=>
 (sG hN hi hx pe_dnewE hs hf).to fun q hq hm=>by
  have fp:F q=none:=S.sub.free hq
  have no:q∉cC sd:=fun hl=>by obtain ⟨_,ob,h,_⟩:=S.slots.owns hl; rw [hq] at h; cases h
  have S1:StF X.K X.B₀ F (upd H q (exO q dict0)) σ sd:=by
   refine ⟨S.base,fun b u e=> ?_,mW S.smp q,S.slots.mono (Same.refl _) fun l hl=> ?_,S.nd⟩
   ·rw [bO (cB e fp)]; exact S.sub _ _ e
   ·obtain ⟨n,ys,y,_⟩:=S.slots.owns hl; have hne:l≠q:=cB y hq; exact ⟨n,fun ys e=>by rw [bO hne]; exact e⟩
  refine ⟨_,F,S1.setT i (oG_mk (hk:=hk) (K:=X.K) (ks:=[]) (ds:=[]) fp bV ⟨rfl,cD _,hm,dG,[],[], #[],0, .nil, .nil,⟨rfl,rfl,rfl⟩,rfl,rfl,dG⟩) (by simp) fun a ha=> ?_,Same.refl _,hE q⟩; rw [aI.mp ha]; exact no
theorem psd_putG (i:Nat) {x:Str} {p p2:Pos} (hu:X.A.units+2<cLine) (hs:sd[i]? =some (oG hk X.K l ks ds)) (hx:PE X (.Name x p) (mG i)) (h:PEd X sd e (.val d)) (hb:PEd X sd b (.val (hk.dat k))) (hnk:k∉ks) (hl:ds.length≤1000) (hE:E.nx (sd.set i (oG hk X.K l (ks++[k]) (ds++[d]))))
  (hsw:swapsWith e (some (.Subscript (.Name x p) b p2)) pos.line X.env=pure false:=by rfl):PSd1 X sd (.Assign [.Subscript (.Name x p) b p2] e pos) E:= .mk fun σ F H S pins s I=>by
 refine wpAny_Assign_Subscript (thn (h σ F H S pins s I) fun r s1 ⟨v,H1,I1,rv,F1,S1,sF1,q1⟩=> ?_) hsw; obtain ⟨h1,_⟩:=uI S1 hs; refine thn (hx pins s1 σ H1 (fun v H2=>v= .ref l∧H2=H1) I1 ⟨.ref l,h1,rfl,rfl⟩) fun u s2 ⟨y,H2,I2,ry,e1,e2⟩=> ?_
 subst e1 e2; obtain rfl:u=Value.ref l:=ry; refine thn (hb σ F1 H2 S1 pins s2 I2) fun iv s3 ⟨y,H3,I3,ry,F3,S3,sF3,q3⟩=> ?_
 obtain ⟨g1,g2,o,g3,t⟩:=uI S3 hs; obtain ⟨ad,rfl,ha⟩:=hk.key q3; obtain rfl:iv=Value.ref ad:=ry; obtain ⟨vs,xs,r1,kg,dd,hz,hin⟩:=t.dict I3.hok S3.sub g3; obtain ⟨t1,t2,t3,t4,_⟩:=t; refine wpAny_setItem_heap (hsz:=hz) (hk.room hu) (hk.ok I3.hok (hk.mono S3.sub ha)) dd fun h' dd' hsm=> ?_
 obtain ⟨q,es',ep',hq,u2,u3,u4,_,u5⟩:=dd'; have I4:=tS (t':=s3.toks+hk.kind.draws k) I3 (ob:=exO l q) (by rw [g3]; exact True.intro) hsm ⟨q,hq⟩ (wF hq); have lz:ks.length=vs.length:=by rw [t1,r1.len]
 have kg':=kg.new (rN hnk) ha rv; rw [← rR lz] at kg'
 have t':TG hk X.K F3 l q (ks++[k]) (ds++[d]):=⟨by rw [aW,aW,t1]; rfl,by
  rw [aW,t1]; have:=fH hl; show ds.length+1≤sizeLine
  omega,t3,bM.mpr ⟨t4,by simp,fun a ha b hb e=>hnk (by rw [← aI.mp hb,← e]; exact ha)⟩,vs++[v],_,es',ep',r1.app (.one (Rep.mono sF3 q1)),kg',u2,u3,u4,u5⟩
 refine ⟨σ,_,I4,_,F3,S3.reT (z':=oG hk X.K l (ks++[k]) (ds++[d])) hs g1 (fun b ob hb q=> ?_) (mW S3.smp l) (oG_mk g2 bV t') (show [l].Nodup by simp) fun a ha=> .inl ha,sF1.trans sF3,hE⟩; rw [bO (show b≠l from fun z=>hb (z▸cP l))]; exact q
theorem psd_frzG (i:Nat) {sts:List Stmt} (hs:sd[i]? =some (oG hk X.K l ks ds)) (h:PSd X (sd.set i (.val (gD hk X.K ks ds))) sts E):PSd X sd sts E:= .mk fun σ F H S=>by
 obtain ⟨h1,h2,o,h3,t⟩:=uI S hs; have S0:=S.le (gX sd i); have no:l∉cC (sd.set i .un):=fun hb=>iQ S.nd hs (show l∈[l] from cP l) hb
 obtain ⟨S1,s1⟩:=S0.inN (l:=l) (ls:=[]) (fun a ha=>by rw [aI.mp ha]; exact h2) fun a ha=>by rw [aI.mp ha]; exact no
 have f1:(inF F H [l]) l=some (exO l o):=by rw [yD aG]; exact h3
 have S2:=S1.set (d:=gD hk X.K ks ds) (v:= .ref l) i (gD_rep.mpr ⟨l,o,rfl,f1,t.mono s1⟩); rw [jS,lF h1] at S2; exact lft_up s1 (h σ _ H S2)
structure PDc (X:Cx) (sd:List Slot) (e:Expr) {κ:Type} [DecidableEq κ] (hk:HK X.prog X.w κ) (ks:List κ) (ds:List D):Prop where
 get:∀ (σ:St) (F H:Hp),StF X.K X.B₀ F H σ sd→wE X e σ H fun v H1=>∃F1 l,StF X.K X.B₀ F1 H1 σ sd∧Same F F1∧v= .ref l∧∀F2 H2,StF X.K X.B₀ F2 H2 σ sd→Same F1 F2→∃o,H2 l=some (exO l o)∧TG hk X.K F2 l o ks ds
theorem pdc_own (i:Nat) {x:Str} {p:Pos} (hs:sd[i]? =some (oG hk X.K l ks ds)) (hx:PE X (.Name x p) (mG i)):PDc X sd (.Name x p) hk ks ds:=⟨fun σ F H S=>hx.to (by
 obtain ⟨h1,_⟩:=uI S hs
 exact ⟨.ref l,h1,F,l,S,Same.refl _,rfl,fun F2 H2 S2 _=>(uI S2 hs).2.2⟩)⟩
theorem pdc_val (h:PEd X sd e (.val (gD hk X.K ks ds))):PDc X sd e hk ks ds:=⟨fun σ F H S=>(h σ F H S).imp fun v H1 ⟨F1,S1,s1,q1⟩=>by
 obtain ⟨l,o,rfl,e,t⟩:=gD_rep.mp q1
 exact ⟨F1,l,S1,s1,rfl,fun F2 H2 S2 s2=>⟨o,S2.sub _ _ (s2 _ _ e),t.mono s2⟩⟩⟩
noncomputable def rIn (hk:HK X.prog X.w κ) (f:Bool→Bool):R2:=fun x y H Q=>∃ (F:Hp) (ad l:Addr) (o:Obj) (k:κ) (ks:List κ) (ds:List D),x= .ref ad∧y= .ref l∧Same F H∧hk.rel F k ad∧H l=some (exO l o)∧TG hk X.K F l o ks ds∧X.A.units+2<cLine∧Q (.bl (f (decide (k∈ks)))) H
theorem op_ninG:OpR X (compareOp .NotIn) (rIn hk (!·)):=by intro pins s σ H x y v u Q I rx ry h; obtain ⟨F,ad,l,o,k,ks,ds,rfl,rfl,sF,ha,hl,t,hu,q⟩:=h; obtain rfl:v=Value.ref ad:=rx; obtain rfl:u=Value.ref l:=ry; obtain ⟨vs,xs,_,_,dd,_,hin⟩:=t.dict I.hok sF hl; refine wpAny_notIn_heap (hk.room hu) (hk.ok I.hok (hk.mono sF ha)) t.2.2.1 dd ⟨.bl (!decide (k∈ks)),H,I.tok _, ?_,q⟩; show Value.bool _=Value.bool _; rw [hin]
theorem ptd_ninG (hu:X.A.units+2<cLine) (ha:PEd X sd a (.val (hk.dat k))) (hb:PDc X sd b hk ks ds) (hm:behindInMarks .NotIn b=false:=by with_unfolding_all rfl):PTd X sd (.Compare a [.NotIn] [b] pos) (!decide (k∈ks)):= .mk fun σ F H S=>
 (yQ (op_ninG (hk:=hk)) iJ iJ hm).to ((ha σ F H S).imp fun v H1 ⟨F1,S1,s1,q1⟩=>(hb.get σ F1 H1 S1).imp fun u H2 ⟨F2,l,S2,s2,eu,g⟩=>by
  obtain ⟨ad,rfl,hr⟩:=hk.key q1; obtain ⟨o,g1,g2⟩:=g F2 H2 S2 (Same.refl _)
  exact ⟨F2,ad,l,o,k,ks,ds,rfl,eu,S2.sub,hk.mono s2 hr,g1,g2,hu,_,rfl,rfl,F2,S2,s1.trans s2⟩)
theorem pd_subG {n:Nat} (hu:X.A.units+2<cLine) (ha:PDc X sd a hk ks ds) (hb:PEd X sd b (.val (hk.dat k))) (hkn:ks[n]? =some k) (hd:ds[n]? =some d) (hsl:NoSl b):PEd X sd (.Subscript a b pos) (.val d):= .mk fun σ F H S pins s I=>by
 refine subD_of PySem.F.slot_dict_getitem.lookup hsl (thn (ha.get σ F H S pins s I) fun u s1 ⟨y,H1,I1,ry,F1,l,S1,s1',ey,g⟩=> ?_); subst ey; obtain rfl:u=Value.ref l:=ry; refine thn (hb σ F1 H1 S1 pins s1 I1) fun iv s2 ⟨y,H2,I2,ry,F2,S2,sF,q2⟩=> ?_
 obtain ⟨o,g1,t⟩:=g F2 H2 S2 sF; obtain ⟨ad,rfl,hr⟩:=hk.key q2; obtain rfl:iv=Value.ref ad:=ry; obtain ⟨vs,xs,rl,kg,dd,_,_⟩:=t.dict I2.hok S2.sub g1; obtain ⟨v,hv,rv⟩:=rl.get hd; obtain ⟨w',hw,rw'⟩:=RelO.some_of (v:=v) (o:=(atKey xs k).map (·.2)) (by rw [← zL t.2.2.2.1 hkn hv]; exact kg.val k); obtain ⟨pr,hp,hp2⟩:=jV.mp hw; refine ⟨dd.typeIs,wpAny_getItem_heap (hk.room hu) (hk.ok I2.hok (hk.mono S2.sub hr)) dd hp ?_⟩; rw [hp2]; exact ⟨v,H2,I2.tok _,rw',F2,S2,s1'.trans sF,rv⟩
end
section
variable {prog:Program} {w:World} {A:Around} {E:Value→Shared→Prop} {s:Shared} {d it:Addr} {od:Obj} {es:Array DictEntry} {ep i:Nat}
theorem qX (g:s.heap.get? d=some od) (c:od.ExactDict):s.TypeIs (.ref d) "dict":=⟨od,g,c.1⟩
theorem walk_new {Q:Value→Shared→Prop} (sm:(d==sysModules)=false) (g:s.heap.get? d=some od) (c:od.ExactDict) (e:od.data= .dict es ep)
  (q:Q (.ref s.heap.objs.size) {s with heap:=s.heap.push {cls:= .type "dict_keyiterator",data:= .fields #[.ref d, .int 0 0, .int es.size 0, .int ep 0]}}):wpAny (model prog w) A (pyIter (.ref d)) Q E s:=by
 have ty:=qX g c; refine wpAny_pyIter_slot ty F.slot_dict_iter (wpAny_call_entry F.slot_dict_iter ty F.entry_dict_iter (wpAny_bind ?_) (F.args_dict_iter_1 _)); unfold Builtin.Dict.dictSlotNone; refine wpAny_bind (wpAny_notOrdered_dict ty (wpAny_pure (a:=Value.ref d) (wpAny_bind (m:=Builtin.Dict.showsAll d) ?_))); unfold Builtin.Dict.showsAll; rw [sm,if_neg bI]; exact wpAny_pure (wpAny_bind (wpAny_dictEntries g e (wpAny_bind (wpAny_dictEpoch g e (wpAny_bind (wpAny_newObj_type (wpAny_pure ⟨_,rfl,"dict_keyiterator",_,⟨_,bG _ rfl,rfl⟩,F.slot_dict_keyiterator_next.lookup,q⟩)))))))
theorem walk_next {Q:Option Value→Shared→Prop} (ki:s.heap.IsKeyIter it d i es.size ep) (g:s.heap.get? d=some od) (e:od.data= .dict es ep) (hi:i<es.size)
  (q:∀h',h'.IsKeyIter it d (i+1) es.size ep→Heap.SameBut it s.heap h'→Q (some es[i].key) {s with heap:=h'}):wpAny (model prog w) A (pyNext (.ref it)) Q E s:=by
 have ty:=ki.typeIs; obtain ⟨o,g1,c1,f1⟩:=ki; unfold pyNext; refine wpAny_bind (wpAny_attempt (wpAny_callSpecial?_slot (name:=Str.ofString "__next__") ty F.slot_dict_keyiterator_next (wpAny_call_entry F.slot_dict_keyiterator_next ty F.entry_dict_keyiterator_next (wpAny_bind (wpAny_pure (wpAny_bind (wpAny_bind ?_)))) (F.args_dict_keyiterator_next_1 _)))); refine wpAny_bind (wpAny_typeNameOfWhole_keyiter ty (wpAny_pure (wpAny_bind (wpAny_fieldsOf g1 f1 ?_)))); rw [if_neg (by decide)]; show wpAny _ _ (ite ((Value.ref d==Value.none)=true) _ _) _ _ _; rw [if_neg (c:=(Value.ref d==Value.none)=true) (fun z=>by cases z)]; refine wpAny_bind (wpAny_pure (wpAny_bind (wpAny_dictEntries g e ?_))); rw [if_neg (by simp)]; refine wpAny_bind (wpAny_pure (wpAny_bind (wpAny_dictEpoch g e ?_))); rw [if_neg (by simp)]; refine wpAny_pure ?_; have ix:(if (i:Int)<0 then none else es[(i:Int).toNat]?)=some es[i]:=by rw [if_neg (by omega),dO,Array.getElem?_eq_getElem hi]
 simp only [ix]
 have up:(s.heap.update it (Obj.mapFields (·.setIfInBounds 1 (rawInt ((i:Int)+1))))).IsKeyIter it d (i+1) es.size ep:=
  ⟨_,gH _ g1 (Obj.isFreed_of_fields (Obj.data_mapFields f1 _)),(Obj.cls_mapFields ..).trans c1,by rw [Obj.data_mapFields f1]; simp [rawInt]⟩
 refine wpAny_bind (wpAny_bind (wpAny_typeNameOfWhole_keyiter ty (wpAny_pure (wpAny_bind (wpAny_isOneOf_keyiter ty (wpAny_bind (wpAny_setField g1 f1 (show (0:Nat)+1<4 by decide) (wpAny_bind (wpAny_holding ?_))))))))); refine wpAny_bind (wpAny_isOneOf_keyiter up.typeIs ?_); exact wpAny_pure (wpAny_pure ⟨_,rfl,wpAny_pure (q _ up (Heap.SameBut.update ..))⟩)
theorem stop_run {Q:Option Value→Shared→Prop} {hp:Heap} (hh:A.handled=none) (sb:Heap.ExtBut it s.heap hp) (q:∀h',Heap.ExtBut it s.heap h'→Q none {s with heap:=h'}):
  wpAny (model prog w) A.in1 (newExc (.type "StopIteration") []>>=fun x=>(raiseNew x:Sem Fin)) (fun fin s'=>∃v,fin=Fin.done (Flow.ret v)∧wpAny (model prog w) A (pure (some v)) Q E s') (fun e s'=>wpAny (model prog w) A (do
   let b ← isInstance e (Value.type "StopIteration")
   if b=true then pure none else throw e) Q E s') {s with heap:=hp}:=by
 refine wpAny_bind ?_; simp only [newExc,newTuple]; refine wpAny_bind (wpAny_newObj_type (wpAny_bind (m:=firstArgMember _ _) (wpAny_of_eq (a:=Value.none) (by first | rfl | (simp only [firstArgMember]; rfl)) (wpAny_newObj_type ?_ (by size_fits)))) (by size_fits)); simp only [raiseNew]; refine wpAny_bind (wpAny_handled ?_); rw [show A.in1.handled=none from hh]; refine wpAny_bind (wpAny_pure (wpAny_throw ?_)); refine wpAny_bind (wpAny_isInstance (T:="StopIteration") (b:=true) ⟨_,bG _ rfl,rfl⟩ isSubtype_stop ?_); exact wpAny_pure (q _ ((sb.push _).push _))
theorem walk_end {Q:Option Value→Shared→Prop} (hh:A.handled=none) (ki:s.heap.IsKeyIter it d i es.size ep) (g:s.heap.get? d=some od) (e:od.data= .dict es ep) (hi:es.size≤i)
  (q:∀h',Heap.ExtBut it s.heap h'→Q none {s with heap:=h'}):wpAny (model prog w) A (pyNext (.ref it)) Q E s:=by
 have ty:=ki.typeIs; obtain ⟨o,g1,c1,f1⟩:=ki; unfold pyNext; refine wpAny_bind (wpAny_attempt (wpAny_callSpecial?_slot (name:=Str.ofString "__next__") ty F.slot_dict_keyiterator_next (wpAny_call_entry F.slot_dict_keyiterator_next ty F.entry_dict_keyiterator_next (wpAny_bind (wpAny_pure (wpAny_bind (wpAny_bind ?_)))) (F.args_dict_keyiterator_next_1 _)))); refine wpAny_bind (wpAny_typeNameOfWhole_keyiter ty (wpAny_pure (wpAny_bind (wpAny_fieldsOf g1 f1 ?_)))); rw [if_neg (by decide)]; show wpAny _ _ (ite ((Value.ref d==Value.none)=true) _ _) _ _ _; rw [if_neg (c:=(Value.ref d==Value.none)=true) (fun z=>by cases z)]; refine wpAny_bind (wpAny_pure (wpAny_bind (wpAny_dictEntries g e ?_))); rw [if_neg (by simp)]; refine wpAny_bind (wpAny_pure (wpAny_bind (wpAny_dictEpoch g e ?_))); rw [if_neg (by simp)]; refine wpAny_pure ?_; have ix:(if (i:Int)<0 then none else es[(i:Int).toNat]?)=none:=by rw [if_neg (by omega),dO,Array.getElem?_eq_none hi]
 simp only [ix]; refine wpAny_bind (wpAny_bind (wpAny_typeNameOfWhole_keyiter ty (wpAny_pure (wpAny_bind (wpAny_setField g1 f1 (show (0:Nat)<4 by decide) ?_))))); exact stop_run hh (Heap.SameBut.update ..).extBut q
end
section
variable {prog:Program} {w:World} {A:Around} {E:Value→Shared→Prop} {s:Shared} {d:Addr} {od:Obj} {es:Array DictEntry} {ep:Nat}
theorem dlen_meets (sm:(d==sysModules)=false):MeetsIn prog w (Builtin.«dict.__len__» ⟨[.ref d],[]⟩) (fun _ R s=>∃ (od:Obj) (es:Array DictEntry) (ep:Nat),s.heap.get? d=some od∧od.ExactDict∧od.data= .dict es ep∧R (.ok (.ret (.int es.size s.toks))) {s with toks:=s.toks+1}):=
 .of_wp fun A R s ⟨od,es,ep,g,c,e,q⟩=>by refine wpAny_bind (m:=Builtin.Dict.dictSlotNone "__len__" ⟨[.ref d],[]⟩) ?_; unfold Builtin.Dict.dictSlotNone; refine wpAny_bind (wpAny_notOrdered_dict (qX g c) (wpAny_pure (a:=Value.ref d) (wpAny_bind (wpAny_pure (wpAny_bind (m:=dictSize d) ?_))))); unfold dictSize; exact wpAny_bind (wpAny_dictEntries g e (wpAny_pure (wpAny_bind (wpAny_pendingCount_other sm (wpAny_ret_mkInt (by rw [show ((es.size:Nat):Int)+((0:Nat):Int)=(es.size:Int) from Int.add_zero _]; exact q))))))
theorem dlen_call {Q:Value→Shared→Prop} (sm:(d==sysModules)=false) (g:s.heap.get? d=some od) (c:od.ExactDict) (e:od.data= .dict es ep) (fit:es.size≤sizeLine) (q:∀t t2,Q (.int es.size t) {s with toks:=t2}):wpAny (model prog w) A (call (.builtin "len") [.ref d]) Q E s:=by
 have lim:sizeLine=16777216:=sizeLine_eq; have ty:=qX g c; refine Calls.call_function_entry kind_len plain_len entry_len (args_len1 _) ?_; refine wpAny_bind (m:=oneArg "len" _) (wpAny_pure (wpAny_bind (m:=callSpecial? (.ref d) (Str.ofString "__len__")) (wpAny_callSpecial?_slot (name:=Str.ofString "__len__") ty F.slot_dict_len (call_meetsIn F.slot_dict_len ty F.entry_dict_len (F.args_dict_len_1 _) (dlen_meets sm) ⟨od,es,ep,g,c,e, ?_⟩)))); refine wpAny_bind (wpAny_holding (wpAny_pure (wpAny_bind (wpAny_letGo ?_)))); refine wpAny_ite_split (fun z=>by omega) fun _=>wpAny_ite_split (fun z=>by omega) fun _=> ?_
 exact wpAny_bind (wpAny_mkInt (wpAny_pure ⟨_,rfl,q _ _⟩))
end
section
variable {X:Cx} {sd:List Slot} {e:Expr} {pos:Pos} {d:D} {ds:List D} {κ:Type} [DecidableEq κ] {hk:HK X.prog X.w κ} {ks:List κ}
theorem call_lenG:oB X (.builtin "len") (fun xs H Q=>∃ (l:Addr) (o:Obj) (es:Array DictEntry) (ep:Nat),xs=[.ref l]∧H l=some (exO l o)∧o.ExactDict∧o.data= .dict es ep∧(l==sysModules)=false∧es.size≤sizeLine∧Q (.int es.size) H):=by intro pins s σ H xs us Q I r h; obtain ⟨l,o,es,ep,rfl,hl,c,e,sm,fit,q⟩:=h; obtain ⟨u,rfl,rx⟩:=oJ r; cases (show u=Value.ref l from rx); exact dlen_call sm (I.hok l _ hl).1 c e fit fun t t2=>⟨.int es.size,H,I.tok _,⟨_,rfl⟩,q⟩
end
structure LyOk (K:aA) (F H:Hp) (p:Int) (L:Int→List D) (kvs:List (Key × V)) (ls:List Addr):Prop where
 live:∃ (lk:List Int) (dss:List (List D)),lk.Nodup∧lk.length=ls.length∧InD K F H ls dss∧(∀k,p<k→kH kvs (.inl k)=kH (lk.zip (ls.map V.ref)) k)∧(∀ (n:Nat) (k:Int),lk[n]? =some k→p<k∧dss[n]? =some (L k))∧∀k,p<k→k∉lk→L k=[]
 cur:(kH kvs (.inl p)=none∧L p=[])∨∃v,kH kvs (.inl p)=some v∧Rep K F (.lst (L p)) v
section
variable {K:aA} {H₀ F F' H H':Hp} {σ:St} {sd:List Slot} {i:Nat} {l:Addr} {p:Int} {L:Int→List D} {ls:List Addr} {kvs:List (Key × V)}
theorem InD.erase:∀ {as:List Addr} {dss:List (List D)} (n:Nat),InD K F H as dss→InD K F H (as.eraseIdx n) (dss.eraseIdx n)
 | [],[],n,h=>by simp; exact h
 | [],_::_,_,h=>h.elim
 | _::_,[],_,h=>h.elim
 | a::as,ds::dss,0,h=>h.2
 | a::as,ds::dss,n+1,h=>⟨h.1,InD.erase n h.2⟩
end
theorem xH {α β:Type} (f:α→β):∀ (l:List α) (n:Nat),(l.map f).eraseIdx n=(l.eraseIdx n).map f
 | [],_=>by simp
 | _::_,0=>rfl
 | a::l,n+1=>by show f a::(l.map f).eraseIdx n=f a::(l.eraseIdx n).map f; rw [xH f l n]
namespace S45
variable {T:Type} [DecidableEq T] (n:Nat) (pr:Nat→Int) (beh:Nat→T→T) (t0:T)
noncomputable abbrev Ent (T:Type):=Int × List Nat × T
noncomputable abbrev Lay (T:Type):=Int→List (List Nat × T)
noncomputable def tabQ (row:List Nat):T:=row.foldl (fun t k=>beh k t) t0
noncomputable def prQ (row:List Nat):Int:=(row.map pr).sum
theorem tab_snoc (row:List Nat) (k:Nat):tabQ beh t0 (row++[k])=beh k (tabQ beh t0 row):=by unfold tabQ; rw [jZ]; rfl
theorem pr_snoc (row:List Nat) (k:Nat):prQ pr (row++[k])=prQ pr row+pr k:=by unfold prQ; rw [bF,List.sum_append]; simp
noncomputable def put (t:Int) (row:List Nat) (tab:T):Nat→Lay T→Lay T
 | 0,ly=>ly
 | k+1,ly=>fun j=>if j=t+pr k then put t row tab k ly j++[(row++[k],beh k tab)] else put t row tab k ly j
noncomputable def one (t:Int) (s:List (Ent T) × Lay T) (e:List Nat × T):List (Ent T) × Lay T:=if e.2∉s.1.map (fun x=>x.2.2)∧s.1.length≤600 then (s.1++[(t,e.1,e.2)],put pr beh t e.1 e.2 n s.2) else s
noncomputable def lay0:Lay T:=fun j=>if j=0 then [([],t0)] else []
noncomputable def run:Nat→List (Ent T) × Lay T
 | 0=>([],lay0 t0)
 | t+1=>((run t).2 t).foldl (one n pr beh t) (run t)
structure Ok (t:Int) (rest:List (List Nat × T)) (s:List (Ent T) × Lay T):Prop where
 ent:∀e∈s.1,0≤e.1∧e.1≤t∧e.1=prQ pr e.2.1∧(∀k∈e.2.1,k<n)∧e.2.2=tabQ beh t0 e.2.1
 nd:(s.1.map fun x=>x.2.2).Nodup
 ly:∀ (j:Int) (x:List Nat × T),x∈s.2 j→j=prQ pr x.1∧(∀k∈x.1,k<n)∧x.2=tabQ beh t0 x.1∧(x.1=[]∨∃r k,x.1=r++[k]∧(prQ pr r,r,tabQ beh t0 r)∈s.1)
 par:∀ (i:Nat) (e:Ent T),s.1[i]? =some e→(e.2.1=[]∧i=0)∨∃r k i',e.2.1=r++[k]∧i'<i∧s.1[i']? =some (prQ pr r,r,tabQ beh t0 r)
 ch:∀e∈s.1,∀k,k<n→(e.2.1++[k],beh k e.2.2)∈s.2 (e.1+pr k)
 done:∀ (j:Int) (x:List Nat × T),j≤t→x∈s.2 j→(j=t∧x∈rest)∨(∃e∈s.1,e.2.2=x.2∧e.1≤j)∨600<(s.1.filter fun e=>decide (e.1≤j)).length
 sub:∀x∈rest,x∈s.2 t
 le:s.1.length≤601
variable {n pr beh t0}
variable (n pr beh)
variable {n pr beh}
end S45
end DL
namespace DL
open PySem PySem.Spec PyProof.Rows L2
section
variable {p:Int × Int} {L:List SK}
noncomputable def jL (p:Int × Int) (q:SQ):List Nat:=(cT p).map fun ws=>sJ p (onQ p q ws)
noncomputable def jB (other one:List Nat):List Nat:=one.map fun i=>other.getD i 0
noncomputable def jF (p:Int × Int) (nb:List Nat):List (List Int):=nb.map fun i=>(cT p).getD i []
noncomputable def jH (p:Int × Int) (L:List SK) (k:Nat) (t:List (List Int)):List (List Int):=t.map (onQ p (L.getD k default).1)
noncomputable def prK (L:List SK) (k:Nat):Int:=(L.getD k default).2
noncomputable def mvD (p:Int × Int) (s:SK):D:= .tup [.int s.2, .tup (aY (jL p s.1))]
noncomputable def NOk (p:Int × Int) (nb:List Nat):Prop:=nb.length=(cT p).length∧∀i∈nb,i<(cT p).length
theorem nos_len (p:Int × Int) (q:SQ):(jL p q).length=(cT p).length:=by unfold jL; rw [aC]
theorem nos_at (q:SQ) {i:Nat} (hi:i<(cT p).length):(jL p q).getD i 0=sJ p (onQ p q ((cT p).getD i [])):=by unfold jL; simp [bS,hi]
theorem filAt (hp:p∈bX) {i:Nat} (hi:i<(cT p).length):Fil p ((cT p).getD i []):=nR hp (getD_mem hi)
theorem nos_lt (hp:p∈bX) {q:SQ} (O:pW p q) {i:Nat} (hi:i<(cT p).length):(jL p q).getD i 0<(cT p).length:=by rw [nos_at q hi]; exact (num_ok hp (uA O (filAt hp hi))).2.1
theorem pick_ok (hp:p∈bX) {q:SQ} (O:pW p q) {nb:List Nat} (h:NOk p nb):NOk p (jB (jL p q) nb):=by refine ⟨by unfold jB; rw [aC]; exact h.1,fun i hi=> ?_⟩; obtain ⟨j,hj,rfl⟩:=aQ.mp hi; exact nos_lt hp O (h.2 j hj)
theorem tab_pick (hp:p∈bX) {q:SQ} (O:pW p q) {nb:List Nat} (h:NOk p nb):jF p (jB (jL p q) nb)=(jF p nb).map (onQ p q):=by
 unfold jF jB; rw [aR,aR]; refine bN fun i hi=> ?_
 show (cT p).getD ((jL p q).getD i 0) []=onQ p q ((cT p).getD i []); rw [nos_at q (h.2 i hi)]; exact (num_ok hp (uA O (filAt hp (h.2 i hi)))).2.2
theorem tabN_inj (hp:p∈bX) {a b:List Nat} (ha:NOk p a) (hb:NOk p b) (h:jF p a=jF p b):a=b:=by
 refine kM (ha.1.trans hb.1.symm) fun i h1 h2=> ?_
 have e:(jF p a)[i]'(by unfold jF; rw [aC]; exact h1)=(jF p b)[i]'(by unfold jF; rw [aC]; exact h2):=by simp only [h]
 unfold jF at e; rw [eC,eC] at e; rw [← num_at hp (ha.2 _ (fO h1)),← num_at hp (hb.2 _ (fO h2)),e]
noncomputable def st0 (p:Int × Int):List Nat:=bH (cT p).length
theorem st0_ok (p:Int × Int):NOk p (st0 p):=⟨by unfold st0; rw [gB],fun i hi=>cN.mp hi⟩
theorem tab_st0 (p:Int × Int):jF p (st0 p)=cT p:=by
 unfold jF st0; refine kM (by simp) fun i h1 h2=> ?_
 rw [eC,List.getElem_range]; simp [bS,h2]
noncomputable def nrQ (p:Int × Int) (L:List SK) (row:List Nat):List Nat:=row.foldl (fun nb k=>jB (jL p (L.getD k default).1) nb) (st0 p)
theorem yS (row:List Nat) (k:Nat):nrQ p L (row++[k])=jB (jL p (L.getD k default).1) (nrQ p L row):=by unfold nrQ; rw [jZ]; rfl
theorem xJ (hp:p∈bX) (S:∀s∈L,pW p s.1):∀ {row:List Nat},fD L row→NOk p (nrQ p L row)∧jF p (nrQ p L row)=S45.tabQ (jH p L) (cT p) row:=fun {row}=>by
 have g:∀ (row:List Nat) (nb:List Nat) (t:List (List Int)),NOk p nb→jF p nb=t→fD L row→NOk p (row.foldl (fun nb k=>jB (jL p (L.getD k default).1) nb) nb)∧jF p (row.foldl (fun nb k=>jB (jL p (L.getD k default).1) nb) nb)=row.foldl (fun t k=>jH p L k t) t:=fun row=>by
  induction row with
  | nil=>exact fun nb t h1 h2 _=>⟨h1,h2⟩
  | cons k row ih=>
   intro nb t h1 h2 h3; have O:pW p (L.getD k default).1:=S _ (DL.getD_mem (h3 k aG)); refine ih _ _ (pick_ok hp O h1) ?_ fun j hj=>h3 j (aF _ hj)
   rw [tab_pick hp O h1,h2]; rfl
 exact fun h=>g row (st0 p) (cT p) (st0_ok p) (tab_st0 p) h
end
open Classical in
noncomputable def vI (L:List SK) (d:D):SK:=if h:∃s,s∈L∧skD s=d then h.choose else default
theorem uZ {L:List SK} (nd:(L.map fun s=>sqD s.1).Nodup) {s:SK} (h:s∈L):vI L (skD s)=s:=by
 have ex:∃z,z∈L∧skD z=skD s:=⟨s,h,rfl⟩; unfold vI; rw [dif_pos ex]; obtain ⟨h1,h2⟩:=ex.choose_spec; generalize ex.choose=z at h1 h2; obtain ⟨i,hi,ez⟩:=eM h1; obtain ⟨j,hj,es⟩:=eM h
 have e:sqD z.1=sqD s.1:=by
  have h2:D.tup [sqD z.1, .int z.2]=D.tup [sqD s.1, .int s.2]:=h2; injection h2 with h2
  exact (List.cons.inj h2).1
 have:i=j:=(jA (i:=i) (j:=j) (h₀:=by rw [aC]; exact hi) (h₁:=by rw [aC]; exact hj) nd).mp (by rw [eC,eC,ez,es,e]); subst this; exact ez.symm.trans es
noncomputable def CNos:List D→R→Prop:=fun ds r=>∃p q,p∈bX∧pW p q∧ds=[cH p,sqD q]∧r= .val (.tup (aY (jL p q)))
noncomputable def CMoves:List D→R→Prop:=fun ds r=>∃p L,p∈bX∧StkOk p L∧(L.map fun s=>sqD s.1).Nodup∧ds=[cH p, .lst (L.map skD)]∧r= .own (L.map (mvD p))
noncomputable def CNbeh:List D→R→Prop:=fun ds r=>∃one other:List Nat,one.length≤100∧(∀i∈one,i<other.length)∧ds=[.tup (aY one), .tup (aY other)]∧r= .val (.tup (aY (jB other one)))
noncomputable def CTfrom:List D→R→Prop:=fun ds r=>∃ (B:List (List Int)) (nb:List Nat),nb.length≤100∧(∀i∈nb,i<B.length)∧ds=[.lst (B.map aV), .tup (aY nb)]∧r= .val (.tup ((nb.map fun i=>B.getD i []).map aV))
section
variable {X:Cx} {sd:List Slot} {a b:Expr} {pos:Pos} {ds:List D} {κ:Type} [DecidableEq κ] {hk:HK X.prog X.w κ} {ks:List κ} {k:κ} {kk:Bool}
theorem bool_mem (h:kk=true↔k∈ks):decide (k∈ks)=kk:=by
 cases kk with
 | true=>exact decide_eq_true (h.mp rfl)
 | false=>exact decide_eq_false fun z=>by cases h.mpr z
theorem ptd_ninK (h:kk=true↔k∈ks) (hu:X.A.units+2<cLine) (ha:PEd X sd a (.val (hk.dat k))) (hb:PDc X sd b hk ks ds) (hm:behindInMarks .NotIn b=false:=by with_unfolding_all rfl):PTd X sd (.Compare a [.NotIn] [b] pos) (!kk):=PTd.cast (ptd_ninG hu ha hb hm) (by rw [bool_mem h])
end
noncomputable abbrev Bk:=S45.Ent (List (List Int))
noncomputable def enD (e:Bk):D:= .tup [.int e.1, .tup (aY e.2.1), .tup (e.2.2.map aV)]
structure BkOk (p:Int × Int) (L:List SK) (b:Int) (B:List Bk):Prop where
 len:B.length≤700
 ent:∀e∈B,e.1=S45.prQ (prK L) e.2.1∧e.1≤b∧fD L e.2.1∧e.2.1.length≤400∧e.2.2=S45.tabQ (jH p L) (cT p) e.2.1
 nd:(B.map fun e=>e.2.2).Nodup
noncomputable def mE (nb:List Nat):List Key:=nb.map fun (i:Nat)=>(Sum.inl (i:Int):Key)
theorem natK_D (nb:List Nat):tD (mE nb)= .tup (aY nb):=by unfold tD mE aY; rw [aR]; rfl
theorem natK_inj:∀ {a b:List Nat},mE a=mE b→a=b
 | [],[],_=>rfl
 | [],_::_,h=>by cases h
 | _::_,[],h=>by cases h
 | x::a,y::b,h=>by
  have h:(Sum.inl (x:Int):Key)::mE a=(Sum.inl (y:Int):Key)::mE b:=h; injection h with h1 h2
  have:=Sum.inl.inj h1; rw [natK_inj h2]; congr 1; omega
theorem sum_pr (L:List SK) (row:List Nat):sumI (prcL L row)=S45.prQ (prK L) row:=by
 unfold S45.prQ prcL prK; generalize row.map (fun t=>(L.getD t default).2)=xs
 have g:∀n:Nat,sumI (xs.take n)=(xs.take n).sum:=fun n=>by
  induction n with
  | zero=>rfl
  | succ n ih=>
   by_cases h:n<xs.length
   ·rw [take_snoc 0 h,sumI_snoc,ih,List.sum_append]; simp
   ·have e:xs.take (n+1)=xs.take n:=by rw [fE (by omega),fE (by omega)]
    rw [e,ih]
 have:=g xs.length; rw [eY] at this; exact this
section
variable {prog:Program} {w:World} {A:Around} {E:Value→Shared→Prop} {s:Shared} {r:Addr} {n:Nat} {t u v:Tok}
theorem yY {Q:List Value→Shared→Prop} (hh:A.handled=none) (ir:IsRange s.heap r 0 (n:Int) 1 t u v) (hn:n≤1000)
  (q:∀ (h':Heap) (tk:Nat) (acc:Array Value),(∀b o,s.heap.get? b=some o→h'.get? b=some o)→ItemsOf (fun i v=>∃t,v= .int (0+i * 1) t) acc n→Q acc.toList {s with heap:=h',toks:=tk}):wpAny (model prog w) A (collect (.ref r)) Q E s:=by
 have sz:Builtin.Range.rangeSize 0 (n:Int) 1=(n:Int):=by
  rw [rangeSize_one]
  split<;>omega
 have fin:∀ (h':Heap) (tk:Nat) (acc:Array Value) (c':Nat),(∀b o,s.heap.get? b=some o→h'.get? b=some o)→h'.get? s.heap.objs.size=some {cls:= .type "list",dict:=none,data:= .seq acc c',slots:= #[]}→ItemsOf (fun i v=>∃t,v= .int (0+i * 1) t) acc n→wpAny (model prog w) A (do
   let o ← load s.heap.objs.size
   match o.data with
   | .seq xs _=>pure xs.toList
   | _=>unsupported "internal:collect") Q E {s with heap:=h',toks:=tk}:=fun h' tk acc c' k1 k2 k3=>wpAny_bind (wpAny_load k2 (wpAny_pure (q h' tk acc k1 k3)))
 have new:(s.heap.push {cls:= .type "list",data:= .seq ([]:List Value).toArray}).get? s.heap.objs.size=some {cls:= .type "list",data:= .seq #[]}:=bG _ rfl; have main:=wpAny_extend_range (prog:=prog) (w:=w) (A:=A) (s:={s with heap:=s.heap.push {cls:= .type "list",data:= .seq ([]:List Value).toArray}}) (R:=fun (x:Result) (st:Shared)=>∃ (h':Heap) (tk:Nat) (acc:Array Value) (c':Nat),x= .ok (.ret (.ref s.heap.objs.size))∧st={s with heap:=h',toks:=tk}∧(∀b o,s.heap.get? b=some o→h'.get? b=some o)∧h'.get? s.heap.objs.size=some {cls:= .type "list",dict:=none,data:= .seq acc c',slots:= #[]}∧ItemsOf (fun i v=>∃t,v= .int (0+i * 1) t) acc n) hh (aE _ ir) (small_one (by omega) (by omega) (by omega) (by omega)) sz (by omega) s.heap.objs.size (.ref s.heap.objs.size) 0 new fun h' tk acc c' k1 k2 k3=>⟨h',tk,acc,c',rfl,rfl,fun b o g=>k1 b o (bP (aO g)) (aE _ g),k2,k3⟩
 unfold collect; refine wpAny_bind (wpAny_runValue (codeAny_builtin entry_proto_collect' ?_)); rw [Around.under_plainId PySem.F.plain_proto_collect _]; refine wpAny_bind (m:=newList []) (wpAny_newObj_type (wpAny_pure ⟨plainId_quiet xY _,codeAny_builtin entry_list_iadd' ?_⟩)); rw [Around.under_plainId xY _]; refine wpAny_mono main (fun z st x=> ?_) fun z st x=> ?_
 ·cases z with
  | done f=>obtain ⟨h',tk,acc,c',e,rfl,k1,k2,k3⟩:=x; cases e; exact fin h' tk acc c' k1 k2 k3
  | again c1=>refine ⟨x.1,codeAny_mono x.2 fun y st y2=> ?_⟩; obtain ⟨h',tk,acc,c',rfl,rfl,k1,k2,k3⟩:=y2; exact fin h' tk acc c' k1 k2 k3
 ·obtain ⟨_,_,_,_,e,_⟩:=x; cases e
theorem yE (r:Addr) (n:Nat) (t u v:Tok) (hn:n≤1000):Meets (Builtin.«tuple.__new__» ⟨[.type "tuple", .ref r],[]⟩) (fun A R s=>A.handled=none∧IsRange s.heap r 0 (n:Int) 1 t u v∧∀ (h':Heap) (tk:Nat) (acc:Array Value),(∀b o,s.heap.get? b=some o→h'.get? b=some o)→ItemsOf (fun i v=>∃t,v= .int (0+i * 1) t) acc n→R (.ok (.ret (.ref h'.objs.size))) {s with heap:=h'.push {cls:= .type "tuple",data:= .seq acc},toks:=tk}):=
 .of_wp fun prog w A R s h=>by
  obtain ⟨hp,gn,dr,tk,os⟩:=s; obtain ⟨hh,ir,q⟩:=h; have a1:=sub_tuple_self; have a2:=init_tuple_lookup; have a3:=madeHere_tuple; have ty:Shared.TypeIs ⟨hp,gn,dr,tk,os⟩ (.ref r) "range":=⟨_,ir,rfl⟩; have hh1:A.in1.handled=none:=hh
  wp_walk using AutoSeq1.wpAny_loadPart' ir,wpAny_typeOf ty,yY (s:=⟨hp,gn,dr,tk,os⟩) hh1 ir hn
  intro h' tk' acc k1 k2; refine wpAny_bind (m:=Builtin.Tuple.tupleExact acc.toList.toArray) ?_; unfold Builtin.Tuple.tupleExact; have e:acc.toList.toArray=acc:=by simp
  rw [e]; exact wpAny_newObj_type (wpAny_pure ⟨_,rfl,q h' tk' acc k1 k2⟩) (show acc.size≤sizeLine by rw [k2.1]; exact dW (fH hn))
theorem wP {Q:Value→Shared→Prop} (hh:A.handled=none) (ir:IsRange s.heap r 0 (n:Int) 1 t u v) (hn:n≤1000)
  (q:∀ (h':Heap) (tk:Nat) (acc:Array Value),(∀b o,s.heap.get? b=some o→h'.get? b=some o)→ItemsOf (fun i v=>∃t,v= .int (0+i * 1) t) acc n→Q (.ref h'.objs.size) {s with heap:=h'.push {cls:= .type "tuple",data:= .seq acc},toks:=tk}):wpAny (model prog w) A (call (.type "tuple") [.ref r]) Q E s:=
 callType_new F.called_tuple (by decide) (F.typeCall_tuple_1 _) (F.newCall_tuple_1 _) (fun obj=>F.args_object_init_2 obj _) F.entry_tuple_new (yE r n t u v hn) ⟨hh,ir,fun h' tk acc k1 k2=>⟨⟨_,bG _ rfl,rfl⟩,q h' tk acc k1 k2⟩⟩
end
section
variable {X:Cx} {sd:List Slot} {e:Expr} {pos:Pos}
theorem pd_tupRange {p p2 q2:Pos} {n:Nat} (hg:Gl X "tuple") (hm:X.mg "tuple"=none) (hg2:Gl X "range") (hm2:X.mg "range"=none) (ha:PEd X sd e (.val (.int (n:Int)))) (h1:n≤1000)
  (hc:X.calm=true:=by rfl) (hst:starEach [e] X.env=(false,eval e X.env)::starEach [] X.env:=by rfl) (hst2:starEach [.Call (.Name "range" p2) [e] [] q2] X.env=(false,eval (.Call (.Name "range" p2) [e] [] q2) X.env)::starEach [] X.env:=by rfl):
  PEd X sd (.Call (.Name "tuple" p) [.Call (.Name "range" p2) [e] [] q2] [] pos) (.val (.tup (aY (bH n)))):= .mk fun σ F H S pins s I=>by
 refine wpAny_Call_Name_kw (mD I hg hm PyProof.Rows.boot_tuple (PyProof.Rows.callWith_type1 ?_ hst2 rfl)); rw [hst2]; refine Calls.spliced_cons (wpAny_Call_Name_kw (mD I hg2 hm2 boot_range ?_)); refine PyProof.Rows.callWith_type1 (thn ((iD (te:=wE X e) iJ pa_nil hst) q2 pins s σ H (fun us H1=>∃v F1,us=[v]∧StF X.K X.B₀ F1 H1 σ sd∧Same F F1∧ResOk X.K F1 H1 sd (.val (.int (n:Int))) v) I ((ha σ F H S).imp fun v H1 ⟨F1,S1,s1,q1⟩=>⟨v,F1,rfl,S1,s1,q1⟩)) fun us s1 hus=> ?_) hst rfl; obtain ⟨ws,H1,I1,rv,v,F1,rfl,S1,sF,q1⟩:=hus; obtain ⟨u,rfl,ru⟩:=oJ rv; simp only [ResOk,Rep] at q1; subst q1; obtain ⟨t,rfl⟩:=ru; refine call_range_1 (Calls.spliced_nil ?_); refine wP (I1.ok.hd hc) (IsRange.new ..) h1 fun h' tk acc kp it=> ?_
 have kp2:∀b o,s1.heap.get? b=some o→h'.get? b=some o:=fun b o g=>kp b o (aE _ g)
 have le:s1.heap.objs.size≤h'.objs.size:=dW (aO (kp s1.heap.objs.size _ (bG _ rfl))); have hD:H1 h'.objs.size=none:=I1.hok.fresh le; have ln:acc.toList.length=n:=by rw [cK]; exact it.1
 have vl:Vals ((bH n).map fun (k:Nat)=>V.int (k:Int)) acc.toList:=by
  have g:∀ (l:List Value) (f:Nat→Int),(∀ (j:Nat) (v:Value),l[j]? =some v→∃t,v= .int (f j) t)→Vals ((bH l.length).map fun (k:Nat)=>V.int (f k)) l:=fun l=>by
   induction l with
   | nil=>intro f _; exact .nil
   | cons x l ih=>intro f h; obtain ⟨t,e⟩:=h 0 x rfl; rw [bU,List.range_succ_eq_map,bA,aR]; exact .cons ⟨t,e⟩ (ih (fun k=>f (k+1)) fun j v hv=>h (j+1) v (by simpa using hv))
  have:=g acc.toList (fun k=>(k:Int)) fun j v hv=>by obtain ⟨t,e⟩:=it.2 j v (by rw [← dM]; exact hv); exact ⟨t,by rw [e]; congr 1; omega⟩
  rw [ln] at this; exact this
 have I3:Inv X pins σ (upd H1 h'.objs.size (.tup ((bH n).map fun (k:Nat)=>V.int (k:Int)))) {s1 with heap:=h'.push {cls:= .type "tuple",data:= .seq acc},toks:=tk}:=
  I1.laid (fun b o g=>aE _ (kp2 b o g)) le ⟨by rw [aC,gB]; exact dW (fH h1),acc.toList,vl,by simpa using IsTupD.new h' acc⟩
 obtain ⟨S4,s4⟩:=S1.lay (o:= .tup ((bH n).map fun (k:Nat)=>V.int (k:Int))) hD trivial; refine ⟨.ref h'.objs.size,_,I3,rfl,_,S4,sF.trans s4, ?_⟩; simp only [ResOk,Rep]; refine ⟨_,_,rfl,bV, ?_⟩
 have gg:∀ks:List Nat,RepL X.K (upd F1 h'.objs.size (.tup ((bH n).map fun (k:Nat)=>V.int (k:Int)))) (ks.map fun (k:Nat)=>D.int (k:Int)) (ks.map fun (k:Nat)=>V.int (k:Int)):=fun ks=>by
  induction ks with
  | nil=>exact .nil
  | cons k ks ih=>exact .cons (by simp only [Rep]) ih
 exact gg _
end
noncomputable def mx1 (c:Int) (k:Nat):Int:=(c%2147483647+69621 * (k:Int)+7919) * 48271%2147483647
noncomputable def mx2 (c:Int) (k:Nat):Int:=mx1 c k * mx1 c k%2147483629
noncomputable def mxS (c:Int) (k:Nat):Int:=if c%2=0 then c / ((2^(8 * k+1):Nat):Int) else (mx2 c k * mx2 c k+16807 * (k:Int))%2147483587
noncomputable def CMx:List D→R→Prop:=fun ds r=>∃ (c:Int) (k:Nat),ds=[.int c, .int (k:Int)]∧k≤400∧r= .val (.int (mxS c k))
noncomputable def CLw45:List D→R→Prop:=fun ds r=>∃p q ws,pW p q∧Fil p ws∧ds=[cH p,sqD q,aV ws]∧r= .val (.int (nwQ p q ws))
noncomputable def CAft45:List D→R→Prop:=fun ds r=>∃p q ws,pW p q∧Fil p ws∧ds=[cH p,sqD q,aV ws]∧r= .val (aV (onQ p q ws))
noncomputable def drQ (p:Int × Int) (c:Int):SQ:=((mxS c 1%10).toNat,mxS c 2%p.2,mxS c 4%p.2,mxS c 3%((2^p.1.toNat:Nat):Int))
noncomputable def CDr45:List D→R→Prop:=fun ds r=>∃p c,p∈bX∧ds=[cH p, .int c]∧r= .val (sqD (drQ p c))
theorem drQ_ok {p:Int × Int} (hp:p∈bX) (c:Int):pW p (drQ p c):=by
 obtain ⟨h1,h2,h3,h4,h5⟩:=pX p hp; have p20:(0:Int)<p.2:=by omega
 have m0:=pw0 p.1.toNat; have d1:=cS (mxS c 1) (show (0:Int)<10 by decide); exact ⟨hp,by show (mxS c 1%10).toNat<10; omega,⟨dY _ (lR p20),cS _ p20⟩,⟨dY _ (lR p20),cS _ p20⟩,⟨dY _ (lR m0),cS _ m0⟩⟩
theorem mV {α:Type} {f:α→D} {L:List α} {t:Nat} {d:D} (h:(L.map f)[t]? =some d):∃x,L[t]? =some x∧d=f x∧L.take (t+1)=L.take t++[x]:=by rw [bJ] at h; obtain ⟨x,h1,h2⟩:=jV.mp h; exact ⟨x,h1,h2.symm,by rw [eQ,h1]; rfl⟩
theorem nd_take {α:Type} {L:List α} (nd:L.Nodup) {t:Nat} {x:α} (h:L[t]? =some x):x∉L.take t:=fun z=>by
 obtain ⟨i,hi,e⟩:=eM z; have il:i<t:=by rw [dD] at hi; omega
 rw [List.getElem_take] at e; obtain ⟨t1,e2⟩:=aK.mp h; have:=(jA nd).mp (e.trans e2.symm); omega
theorem filA_nd45 {p:Int × Int} (hp:p∈bX):(cT p).Nodup:=by
 have e:(cT p).map (sJ p)=bH (cT p).length:=by
  refine kM (by simp) fun i h1 h2=> ?_
  have hi:i<(cT p).length:=by simpa using h1
  rw [eC,List.getElem_range]; have:=num_at hp hi; simpa [bS,hi] using this
 have nd:((cT p).map (sJ p)).Nodup:=by rw [e]; exact List.nodup_range
 exact List.Pairwise.of_map _ (fun a b h z=>h (by rw [z])) nd
noncomputable def inK (ws:List Int):List Key:=ws.map fun (i:Int)=>(Sum.inl i:Key)
theorem inK_D (ws:List Int):tD (inK ws)=aV ws:=by unfold tD inK aV; rw [aR]; rfl
theorem inK_inj:∀ {a b:List Int},inK a=inK b→a=b
 | [],[],_=>rfl
 | [],_::_,h=>by cases h
 | _::_,[],h=>by cases h
 | x::a,y::b,h=>by
  have h:(Sum.inl x:Key)::inK a=(Sum.inl y:Key)::inK b:=h; injection h with h1 h2
  rw [inK_inj h2,Sum.inl.inj h1]
noncomputable def mgD (P:Program) (w:World) (K:aA) (p:Int × Int) (s:SK):D:=gD (hkT P w) K ((cT p).map inK) ((cT p).map fun ws=>aV (onQ p s.1 ws))
noncomputable def CLMv (P:Program) (w:World) (K:aA):List D→R→Prop:=fun ds r=>∃p L,p∈bX∧StkOk p L∧ds=[cH p, .lst (L.map skD)]∧r= .own (L.map (mgD P w K p))
noncomputable def vE (L:List SK) (q:SQ):Bool:=(L.map fun s=>sqD s.1).any fun z=>deq z (sqD q)
theorem sqIn_no {L:List SK} {q:SQ} (h:vE L q=false):sqD q∉L.map fun s=>sqD s.1:=fun hm=>by
 unfold vE at h; have:=List.any_eq_false.mp h _ hm
 exact this (deq_refl _ (by
  show pl (iU _ _ _ _)=true; unfold iU
  split
  ·rfl
  ·split<;>rfl))
namespace S45
end S45
noncomputable abbrev St45:=List Bk × S45.Lay (List (List Int))
section
variable {p:Int × Int} {L:List SK}
theorem StkOk.pr (S:StkOk p L):∀k,k<L.length→1≤prK L k:=fun k hk=>(S.st _ (DL.getD_mem (d:=(default:SK)) hk)).2.1
theorem tab45_in (hp:p∈bX) (S:StkOk p L) {row:List Nat} (h:fD L row):∀ws∈S45.tabQ (jH p L) (cT p) row,ws∈cT p:=fun ws hw=>by obtain ⟨q1,q2⟩:=xJ hp (fun s hs=>(S.st s hs).1) h; rw [← q2] at hw; obtain ⟨i,hi,rfl⟩:=aQ.mp hw; exact DL.getD_mem (q1.2 i hi)
theorem tab45_len (hp:p∈bX) (S:StkOk p L) {row:List Nat} (h:fD L row):(S45.tabQ (jH p L) (cT p) row).length≤64:=by obtain ⟨q1,q2⟩:=xJ hp (fun s hs=>(S.st s hs).1) h; rw [← q2]; unfold jF; rw [aC,q1.1]; exact kY hp
end
end DL
namespace L2
open PySem PySem.Spec PyProof.Rows
end L2
namespace DL
open PySem PySem.Spec PyProof.Rows L2
section
variable {prog:Program} {w:World} {K:Type} [DecidableEq K] {knd:HeapKind prog w K} {A:Around} {E:Value→Shared→Prop} {s:Shared}
theorem zX {d a:Addr} {xs:List (K × Addr × Value)} {k:K} {j:Nat} {p:Addr × Value} {Q:Option DictEntry→Shared→Prop} (hu:knd.room A) (hkey:knd.is s.heap k a) (hm:s.heap.DictOfH knd d xs) (hj:xs[j]? =some (k,p))
  (hQ:∀h',h'.DictOfH knd d (xs.eraseIdx j)→Heap.SameBut d s.heap h'→Q (some (entryOfKey knd (k,p))) {s with heap:=h',toks:=s.toks+knd.draws k})
  (hsz:xs.length≤sizeLine):
  wpAny (model prog w) A (Builtin.Dict.takeOut d (.ref a)) Q E s:=by
 obtain ⟨o,es,ep,ho,hc,hd,he,his,hn⟩:=hm; have hes:es.size≤sizeLine:=by have e:=size_of_entries he; omega
 unfold Builtin.Dict.takeOut
 try with_reducible refine wpAny_holding ?_
 refine wpAny_bind (knd.pyHash hu hkey ?_); refine wpAny_bind (wpAny_dictFind_heap (s:={s with toks:=s.toks+knd.draws k}) hu hkey ho hd he his hn (fun no=>absurd hj (no j p)) fun j' p' hj'=> ?_)
 have ej:j'=j:=by obtain ⟨i1,e1⟩:=aK.mp hj'; obtain ⟨i2,e2⟩:=aK.mp hj; refine (jA (i:=j') (j:=j) (h₀:=by rw [aC]; exact i1) (h₁:=by rw [aC]; exact i2) hn).mp ?_; rw [eC,eC,e1,e2]
 subst ej; rw [hj] at hj'; cases hj'; refine wpAny_bind (wpAny_dictEntries (s:={s with toks:=s.toks+knd.draws k}) ho hd ?_); rw [entry_at he j',hj]; refine wpAny_bind (wpAny_updateDictKeys (hz:=hes) (s:={s with toks:=s.toks+knd.draws k}) ho hd (wpAny_pure (hQ _ ⟨_,_,ep+1,gH _ ho (Obj.isFreed_of_dict (Obj.data_mapDictKeys hd _)),hc.mapDictKeys _,Obj.data_mapDictKeys hd _, ?_,fun x hx=> ?_, ?_⟩ (Heap.SameBut.update ..))))
 ·have:(es.eraseIdxIfInBounds j').toList=es.toList.eraseIdx j':=by obtain ⟨l⟩:=es; simp
  rw [this,he,xH]
 ·exact knd.keeps (his x (jK hx)) ho hd (Heap.SameBut.update ..)
 ·exact hn.sublist ((oZ _ _).map _)
end
section
variable {prog:Program} {w:World} {K:Type} [DecidableEq K] (knd:HeapKind prog w K) (d a:Addr)
theorem meetsH_pop:
  MeetsIn prog w (Builtin.«dict.pop» ⟨[.ref d, .ref a],[]⟩) (fun A R s=>knd.room A.in1∧∃k xs j p,knd.is s.heap k a∧s.heap.DictOfH knd d xs∧xs.length≤sizeLine∧xs[j]? =some (k,p)∧
   ∀h',h'.DictOfH knd d (xs.eraseIdx j)→Heap.SameBut d s.heap h'→R (.ok (.ret p.2)) {s with heap:=h',toks:=s.toks+knd.draws k}):=
 .of_wp fun A R s ⟨hu,k,xs,j,p,hkey,hm,hz,hj,h⟩=>by
  unfold Builtin.«dict.pop»; refine wpAny_bind ?_; unfold Builtin.Dict.keyAndDefault; refine wpAny_bind (wpAny_notOrdered_dict hm.typeIs ?_); show wpAny _ _ (pure (d,Value.ref a,none)) _ _ s; refine wpAny_pure ?_; have hp:(keyPart (Value.ref a)).isSome=false:=rfl; simp only [hp,bY,if_false]; obtain ⟨o,es,ep,ho,hc,hd,he,his,hn⟩:=id hm; refine wpAny_bind (wpAny_dictEntries ho hd (wpAny_bind (wpAny_pure ?_)))
  have ne:es.isEmpty=false:=by have e:=size_of_entries he; have:=(aK.mp hj).1; rw [Array.isEmpty_eq_false_iff_exists_mem]; exact ⟨es[0],Array.getElem_mem (by omega)⟩
  simp only [ne,bY,if_false]; refine wpAny_bind (zX hu hkey hm hj (fun h' hm' hs'=> ?_) hz); simp only [Option.isNone_some,bY,if_false]; exact wpAny_bind (wpAny_letGo (wpAny_pure ⟨_,rfl,h h' hm' hs'⟩))
end
section
variable {X:Cx} {pins:List (Addr × Obj)} {σ:St} {H:Hp} {s:Shared} {sts:List Stmt}
noncomputable abbrev reB (X:Cx) (B:Hp) (h:∀b o,X.H₀ b=some o→zY o→B b=some o):Cx:={X with B₀:=B,hB:=h}
theorem inv_toB {B:Hp} {hb:∀b o,X.H₀ b=some o→zY o→B b=some o} (I:Inv X pins σ H s):Inv (reB X B hb) pins σ H s:=
 ⟨⟨I.ok.mod,I.ok.kind,I.ok.glob,I.ok.blt,I.ok.above,I.ok.inj,I.ok.has,I.ok.cab,I.ok.hd,I.ok.frames,I.ok.stk,I.ok.exf,I.ok.bs,I.ok.bsz,I.ok.noex,I.ok.exfs,I.ok.funs,I.ok.frf⟩,I.os,I.bare,I.base,I.loc,I.cell,I.free,I.freeC,I.pin,I.hok,I.len⟩
theorem tZ {B:Hp} {hb:∀b o,X.H₀ b=some o→zY o→B b=some o} (I:Inv (reB X B hb) pins σ H s):Inv X pins σ H s:=
 ⟨⟨I.ok.mod,I.ok.kind,I.ok.glob,I.ok.blt,I.ok.above,I.ok.inj,I.ok.has,I.ok.cab,I.ok.hd,I.ok.frames,I.ok.stk,I.ok.exf,I.ok.bs,I.ok.bsz,I.ok.noex,I.ok.exfs,I.ok.funs,I.ok.frf⟩,I.os,I.bare,I.base,I.loc,I.cell,I.free,I.freeC,I.pin,I.hok,I.len⟩
theorem pss_ofB {B:Hp} {hb:∀b o,X.H₀ b=some o→zY o→B b=some o} {D:sT} (h:wSs (reB X B hb) sts D σ H):wSs X sts D σ H:=fun pins s I=>thn (h pins s (inv_toB I)) fun f s' q=>by
 cases f with
 | next=>obtain ⟨σ',H',I',q⟩:=q; exact ⟨σ',H',tZ I',q⟩
 | brk=>obtain ⟨σ',H',I',q⟩:=q; exact ⟨σ',H',tZ I',q⟩
 | cont=>obtain ⟨σ',H',I',q⟩:=q; exact ⟨σ',H',tZ I',q⟩
 | ret u=>obtain ⟨v,σ',H',I',r,q⟩:=q; exact ⟨v,σ',H',tZ I',r,q⟩
end
noncomputable def spP (K:aA) (n:Nat) (C:List D→List D→R→Prop):Sp:=fun vs H Q _=>vs.length=n∧∃ (l:Addr) (us:List V) (F:Hp) (xs:List V) (ds0 ds:List D) (r:R),vs= .ref l::us∧F l=none∧H=upd F l (.lst xs)∧Smp F∧RepL K F ds0 xs∧RepL K F ds us∧C ds0 ds r∧∀v H',RetOk K F H' r v→Q v H'
structure CalleeP (P:Program) (w:World) (K:aA) (mg:Str→Option Value) (base:Heap) (x:Str) (k n:Nat) (C:List D→List D→R→Prop):Prop where
 ex:∃ (f:Addr) (fd:FuncData) (ps:List Str),mg x=some (.ref f)∧cY K (.ref f)=true∧Binds K fd ps []∧FnOk P w K mg base CX0 k f fd ps (spP K n C)
structure Lent (K:aA) where
 α:Type
 ad:α→Addr
 own:α→List Addr
 G:α→V→Hp→Hp→Prop
 hv:∀ {a:α} {v:V} {F H:Hp},G a v F H→v= .ref (ad a)
noncomputable def Lent.sl {K:aA} (Z:Lent K) (a:Z.α):Slot:= .ox (Z.own a) (Z.G a)
section
variable {K:aA} (Z:Lent K)
noncomputable def spL (n:Nat) (C:Z.α→List D→(Z.α→Prop)→Prop):Sp:=fun vs H Q _=>vs.length=n∧∃ (v:V) (us:List V) (F:Hp) (a:Z.α) (ds:List D) (post:Z.α→Prop),vs=v::us∧Same F H∧(∀b,b∉Z.own a→H b=F b)∧Smp H∧iK K F H (Z.sl a) (some v)∧(Z.own a).Nodup∧RepL K F ds us∧C a ds post∧(∀a',post a'→Z.ad a'=Z.ad a)∧
 ∀H',(∃F' a',post a'∧Same F F'∧Same F' H'∧Smp H'∧iK K F' H' (Z.sl a') (some v)∧(Z.own a').Nodup)→Q .non H'
noncomputable def spM (n:Nat) (C:Z.α→List D→(Z.α→Prop)→Prop):Sp:=fun vs H Q _=>vs.length=n∧Smp H∧∃ (v:V) (us:List V) (F:Hp) (a:Z.α) (ds:List D) (post:Z.α→Prop),vs=v::us∧Same F H∧iK K F H (Z.sl a) (some v)∧(Z.own a).Nodup∧RepL K F ds us∧C a ds post∧(∀a',post a'→Z.ad a'=Z.ad a)∧
 ∀F' H' a',post a'→Same F F'→Same F' H'→Smp H'→iK K F' H' (Z.sl a') (some v)→(Z.own a').Nodup→(∀b o,b∉Z.own a→H b=some o→H' b=some o)→(∀b o,b∉Z.own a→H b=some o→F b=none→F' b=none∧b∉Z.own a')→Q .non H'
end
open Classical in
noncomputable def vY (as:List Addr) (F H:Hp):Hp:=fun b=>if b∈as then H b else F b
open Classical in
noncomputable def lG (as:List Addr) (F H:Hp):Hp:=fun b=>if b∈as then F b else qT F H b
theorem mT {as:List Addr} {F H:Hp}:Same F (lG as F H):=fun b o e=>by
 unfold lG
 by_cases h:b∈as
 ·rw [if_pos h]; exact e
 ·rw [if_neg h]; exact qY _ _ e
theorem qS {as:List Addr} {F H:Hp} {b:Addr} (hb:b∉as) (h:F b=none):lG as F H b=H b:=by unfold lG; rw [if_neg hb]; exact qD h
theorem yC {as:List Addr} {F H:Hp} {b:Addr} (hb:b∈as):vY as F H b=H b:=by unfold vY; rw [if_pos hb]
theorem qW {as:List Addr} {F H:Hp} {b:Addr} (hb:b∉as):vY as F H b=F b:=by unfold vY; rw [if_neg hb]
theorem FnOk.framedL {P:Program} {w:World} {K:aA} {Z:Lent K} {mg:Str→Option Value} {base:Heap} {k n:Nat} {f:Addr} {fd:FuncData} {ps:List Str} {C:Z.α→List D→(Z.α→Prop)→Prop} (G:FnOk P w K mg base CX0 k f fd ps (spL Z n C)):FnOk P w K mg base CX0 k f fd ps (spM Z n C):=by
 have res:∀ {F H:Hp} {a:Z.α} {v:V},Same F H→iK K F H (Z.sl a) (some v)→Same F (vY (Z.own a) F H)∧Same (vY (Z.own a) F H) H∧iK K F (vY (Z.own a) F H) (Z.sl a) (some v):=fun {F H a v} sF so=>by
  obtain ⟨v',ev,ow,gg⟩:=so; refine ⟨fun b o e=> ?_,fun b o e=> ?_,v',ev,fun b hb=>⟨(ow b hb).1, ?_⟩,fun F' H' s k=>gg F' H' s fun b hb ob e=>k b hb ob (by rw [yC hb]; exact e)⟩
  ·by_cases h:b∈Z.own a
   ·rw [(ow b h).1] at e; cases e
   ·rw [qW h]; exact e
  ·by_cases h:b∈Z.own a
   ·rw [yC h] at e; exact e
   ·rw [qW h] at e; exact sF b o e
  ·rw [yC hb]; exact (ow b hb).2
 refine ⟨fun vs H Q E h=> ?_,fun A outer s H args us vs Q E hr e0 hb rv h=> ?_⟩
 ·obtain ⟨hl,sm,v,us,F,a,ds,post,e,sF,so,nd,rl,c,hp,_⟩:=h; obtain ⟨q1,q2,q3⟩:=res sF so; exact G.len vs (vY (Z.own a) F H) (fun _ _=>True) E ⟨hl,v,us,F,a,ds,post,e,q1,fun b hb=>qW hb,sm.sub q2,q3,nd,rl,c,hp,fun _ _=>trivial⟩
 ·obtain ⟨hl,sm,v,us',F,a,ds,post,ev,sF,so,nd,rl,c,hp,q⟩:=h; obtain ⟨q1,sU,q3⟩:=res sF so; obtain ⟨_,_,ow,_⟩:=id so; have nU:∀b,b∉Z.own a→F b=none→vY (Z.own a) F H b=none:=fun b hbl n=>by rw [qW hbl]; exact n
  have e1:Env0 P w K mg base A outer s (vY (Z.own a) F H):=⟨e0.frames,e0.mod,fun b o e=>⟨(e0.bs b o e).1,sU.free (e0.bs b o e).2⟩,e0.bsz,e0.funs,fun b hb=>sU.free (e0.frf b hb),fun b o e=>(e0.hok b o (sU b o e)).smp (sm b o (sU b o e)),e0.bare⟩; refine codeAny_mono (G.run A outer s (vY (Z.own a) F H) args us vs (fun v3 F3=>v3= .non∧∃F' a',post a'∧Same F F'∧Same F' F3∧Smp F3∧iK K F' F3 (Z.sl a') (some v)∧(Z.own a').Nodup) E hr e1 hb rv ⟨hl,v,us',F,a,ds,post,ev,q1,fun b hb=>qW hb,sm.sub sU,q3,nd,rl,c,hp,fun H' z=>⟨rfl,z⟩⟩) fun rr s' hrr=> ?_
  cases rr with
  | error e=>exact hrr
  | ok flw=>
   cases flw with
   | ret u=>
    obtain ⟨v3,F3,ho,ha,un,hk,ru,e3,F2,a',pa,s1,s2,sm3,so3,nd3⟩:=hrr; subst e3
    have keepF:∀b o,b∉Z.own a→H b=some o→F b=none→F3 b=none:=fun b o hbl e n=>by
     have lt:=e0.hok.lt e; cases g:s.heap.get? b with
     | none=>
      exfalso; have ob:=e0.hok b o e; have z:=sm b o e; cases o with
      | lst xs=>obtain ⟨_,_,_,_,g'⟩:=ob; rw [g] at g'; cases g'
      | tup xs=>obtain ⟨_,_,_,oo,g',_⟩:=ob; rw [g] at g'; cases g'
      | dK kvs=>obtain ⟨_,_,_,_,oo,_,_,g',_⟩:=ob; rw [g] at g'; cases g'
      | frz o2 u2=>obtain ⟨g',_⟩:=ob; rw [g] at g'; cases g'
      | ext φ=>obtain ⟨_,⟨oo,g'⟩,_⟩:=ob; rw [g] at g'; cases g'
      | _=>exact z
     | some ob=>exact un.free b ob g (nU b hbl n) (by simp)
    have keepO:∀b o,b∉Z.own a→H b=some o→F b=none→∀ob,s.heap.get? b=some ob→s'.heap.get? b=some ob:=fun b o hbl e n ob g=>un.keep b ob g (nU b hbl n) (fun hb=>by have:=e0.frf b hb; rw [e] at this; cases this) (by simp)
    have sH:∀b o,b∉Z.own a→H b=some o→lG (Z.own a) F3 H b=some o:=fun b o hbl e=>by
     cases g:F b with
     | none=>rw [qS hbl (keepF b o hbl e g)]; exact e
     | some o'=>have:=sF b o' g; rw [e] at this; cases this; exact mT _ _ (s2 _ _ (s1 _ _ g))
    have nl:∀ {b:Addr} {o:HO},H b=some o→¬ Wr b o→b∉Z.own a:=fun e no z=>by obtain ⟨_,ob,g,wr⟩:=ow _ z; rw [e] at g; cases g; exact no wr
    have nn:∀ {b:Addr},H b=none→b∉Z.own a:=fun e z=>by obtain ⟨_,ob,g,_⟩:=ow _ z; rw [e] at g; cases g
    have smM:Smp (lG (Z.own a) F3 H):=fun b o e=>by
     by_cases hbl:b∈Z.own a
     ·unfold lG at e; rw [if_pos hbl] at e; exact sm3 _ o e
     ·cases g:F3 b with
      | some o'=>have:=mT (as:=Z.own a) (H:=H) b o' g; rw [e] at this; cases this; exact sm3 b o g
      | none=>rw [qS hbl g] at e; exact sm b o e
    have soM:iK K F2 (lG (Z.own a) F3 H) (Z.sl a') (some v):=by obtain ⟨v',ev,ow3,gg⟩:=so3; refine ⟨v',ev,fun b hb=>⟨(ow3 b hb).1, ?_⟩,fun F' H' s k=>gg F' H' s fun b hb ob e=>k b hb ob (mT _ _ e)⟩; obtain ⟨_,ob,g,wr⟩:=ow3 b hb; exact ⟨ob,mT _ _ g,wr⟩
    refine ⟨.non,lG (Z.own a) F3 H,ho,ha,⟨fun b o g n hb hx=>un.keep b o g (sU.free n) hb hx,fun b o g n hb hx=>un.slot b o g (sU.free n) hb hx,fun b o g n hx=> ?_,un.there,fun b xs e=>sH _ _ (nl e fun z=>z) e,fun b o u e=>sH _ _ (nl e fun z=>z) e,fun b ps e=>⟨#[],by rw [sH _ _ (nl e fun z=>z) e]; simp⟩⟩,fun b o e=> ?_,ru, ?_⟩
    ·rw [qS (nn n) (un.free b o g (sU.free n) hx)]; exact n
    ·have z:=smM b o e
     by_cases hbl:b∈Z.own a
     ·have e':F3 b=some o:=by unfold lG at e; rw [if_pos hbl] at e; exact e
      exact (hk b o e').smp z
     ·cases g:F3 b with
      | some o'=>have:=mT (as:=Z.own a) (H:=H) b o' g; rw [e] at this; cases this; exact (hk b o g).smp z
      | none=>
       rw [qS hbl g] at e
       have n:F b=none:=by
        cases g2:F b with
        | none=>rfl
        | some o2=>rw [s2 _ _ (s1 _ _ g2)] at g; cases g
       have st:=(e0.hok b o e).smp (F:=fun _=>none) z
       have:ObjOk P w (fun _=>none) s'.heap b o:=st.stay (fun b2 u hb2 gg=>by
        rcases hb2 with rfl | hb2
        ·exact keepO _ o hbl e n u gg
        ·cases hb2) (fun b2 hb2=>nomatch hb2) fun b2 xs hb2=>nomatch hb2
       exact this.smp z
    ·refine q F2 (lG (Z.own a) F3 H) a' pa s1 (s2.trans mT) smM soM nd3 sH fun b o hbl e n=> ?_
     have n3:=keepF b o hbl e n; refine ⟨s2.free n3,fun hb=> ?_⟩; obtain ⟨_,_,ow3,_⟩:=so3; obtain ⟨_,ob,g,_⟩:=ow3 b hb; rw [n3] at g; cases g
   | _=>exact hrr
theorem pY:∀ {sd:List Slot} {i:Nat} {z:Slot},(cC sd).Nodup→sd[i]? =some z→(iB z).Nodup
 | [],_,_,_,e=>by simp at e
 | y::zs,0,z,h,e=>by
  have:y=z:=by simpa using e
  subst this; exact (bM.mp (show (iB y++cC zs).Nodup from h)).1
 | y::zs,i+1,z,h,e=>pY (sd:=zs) (i:=i) (bM.mp (show (iB y++cC zs).Nodup from h)).2.1 (by simpa using e)
structure tQ (P:Program) (w:World) (K:aA) (Z:Lent K) (mg:Str→Option Value) (base:Heap) (x:Str) (k n:Nat) (C:Z.α→List D→(Z.α→Prop)→Prop):Prop where
 ex:∃ (f:Addr) (fd:FuncData) (ps:List Str),mg x=some (.ref f)∧cY K (.ref f)=true∧Binds K fd ps []∧FnOk P w K mg base CX0 k f fd ps (spL Z n C)
noncomputable def zW {K:aA} (Z:Lent K) (n:Nat) (a:Z.α) (ds:List D):List Slot:=Z.sl a::(ds.map Slot.val++fV (n - (ds.length+1)) .un)
theorem def_okL {P:Program} {w:World} {K:aA} {Z:Lent K} {mg:Str→Option Value} {base:Heap} {x qual:Str} {st:Stmt} {f:Addr} {fd:FuncData} {N ps:List Str} {k:Nat} {C:Z.α→List D→(Z.α→Prop)→Prop} (F:Fun K x qual st f fd) (S:nQ N ps (bC st))
  (hm:mg x=some (.ref f)) (hb:∀ (kV doc pm:Value) (an:Option Addr) (cdv ct:Value) (us:List Value),us.length=ps.length→bindArgs (dL x qual (gU st) (fG st) (bC st) .none kV doc pm an cdv ct) ⟨us,[]⟩=pure (ps.zip us))
  (body:∀ (cdv:Value) (A:Around) (outer:List Env) (s:Shared) (H:Hp) (E:XK) (B:Hp) (hB:∀b o,H b=some o→zY o→B b=some o),Room k (A.deeper (envOfC qual (bC st) s.heap.objs.size f cdv))→∀a ds post,ds.length+1=ps.length→C a ds post→
   PSd (reB (nL CX0 P w K mg base N qual (bC st) f cdv A outer s H E).nox B hB) (zW Z N.length a ds) (fG st) {nx:=fun sd'=>∃a',post a'∧sd'[0]? =some (Z.sl a'),rt:=fun _=>False})
  (hw:∀ (a:Z.α) (v:V) (F H:Hp) (b:Addr) (o:HO),Z.G a v F H→b∈Z.own a→H b=some o→¬ zY o):tQ P w K Z mg base x (k+1) ps.length C:=by
 refine ⟨f,fd,ps,hm,F.kp,F.binds hb,F.ok S (fun vs H Q E h=>h.1) fun cdv A outer s H vs Q E hr h=> ?_⟩; obtain ⟨hl,v,us,F0,a,ds,post,rfl,sF,hH,sm,so,nd,rl,c,hp,q⟩:=h; have hds:ds.length+1=ps.length:=by rw [← rl.len]; exact hl
 have hB:∀b o,H b=some o→zY o→F0 b=some o:=fun b o e no=>by
  by_cases hbl:b∈Z.own a
  ·obtain ⟨_,_,_,gg⟩:=so; exact absurd no (hw a _ F0 H b o (gg F0 H (Same.refl _) fun _ _ _ e=>e) hbl e)
  ·rw [← hH b hbl]; exact e
 refine ⟨_,pss_w,pss_ofB (B:=F0) (hb:=hB) ?_⟩; have hlen:N.length - (us.length+1)=N.length - (ds.length+1):=by rw [rl.len]
 have S0:StF K F0 F0 H (L2.start N (v::us)) (zW Z N.length a ds):=by
  refine ⟨Same.refl _,sF,sm, ?_, ?_⟩
  ·unfold L2.start zW; show SlotsOk K F0 _ (_::_) (some v::(us.map some++fV (N.length - (us.length+1)) none)); rw [hlen]; exact ⟨_,_,rfl,so,nN (m:=0) rl⟩
  ·unfold zW; rw [pV,nM,cZ]; exact nd
 refine (body cdv A outer s _ E F0 hB hr a ds post hds c (L2.start N (v::us)) F0 _ S0).imp ?_ ?_ (fun _ _ ⟨_,_,_,_,z⟩=>z) fun _ _ ⟨_,_,_,_,z⟩=>z
 ·rintro σ' H' ⟨sd',F',S',s',a',pa,hs⟩; obtain ⟨o,h1,so'⟩:=S'.slots.get hs; obtain ⟨v',rfl,ow',gg⟩:=so'; have e1:=Z.hv (gg F' H' (Same.refl _) fun _ _ _ e=>e); obtain ⟨v0,ev,_,g0⟩:=so; cases ev; have e0:=Z.hv (g0 F0 H (Same.refl _) fun _ _ _ e=>e); have evv:v'=v:=by rw [e1,e0,hp a' pa]
  subst evv; refine q H' ⟨F',a',pa,S'.base,S'.sub,S'.smp,⟨v',rfl,ow',gg⟩, ?_⟩; have nd':=S'.nd; exact pY nd' hs
 ·rintro v' H' ⟨r',ro,e⟩; exact e.elim
section
variable {X:Cx} {sd:List Slot} {c:Expr} {es:List Expr} {pos cp p p2:Pos} {ds:List D} {E:jG} {k n:Nat} {f x:Str}
theorem psd_callL {Z:Lent X.K} {C:Z.α→List D→(Z.α→Prop)→Prop} {post:Z.α→Prop} {a:Z.α} (i:Nat) (hs:sd[i]? =some (Z.sl a)) (hxi:PE X (.Name x p2) (mG i)) (G:tQ X.prog X.w X.K Z X.mg X.base f k n C) (hr:Room k X.A) (hg:Gl X f) (ha:PAd X sd es (ds.map R.val)) (hc:C a ds post) (hp:∀a',post a'→Z.ad a'=Z.ad a) (hn:ds.length+1=n) (hE:∀a',post a'→E.nx (sd.set i (Z.sl a')))
  (hdb:(f==("__debug__":Str))=false:=by decide) (he:starEach (.Name x p2::es) X.env=(false,eval (.Name x p2) X.env)::starEach es X.env:=by rfl) (hpl:(backTo cp (starEach es X.env)).any (·.1)=false:=by rfl)
  (hsw:swapsWith (.Call (.Name f p) (.Name x p2::es) [] cp) none pos.line X.env=pure false:=by rfl):PSd1 X sd (.Expr (.Call (.Name f p) (.Name x p2::es) [] cp) pos) E:= .mk fun σ F H S=>by
 obtain ⟨fa,fd,ps,hm,hkp,bd,G⟩:=G.ex; obtain ⟨o0,h1,v,h2,_⟩:=S.slots.get hs; refine (uC (yM (FnOk.framedL G) hr hg hm hkp bd .nil pass0 (iD hxi vO he) hdb he hpl) hsw).to ⟨v,by rw [h1,h2],(ha σ F H S).imp fun us H1 ⟨F1,S1,s1,q1⟩=> ?_⟩; have rl:=q1.vals; obtain ⟨o1,g1,so⟩:=S1.slots.get hs
 have eo:o1=some v:=by rw [h1,h2] at g1; exact (cI.inj g1).symm
 subst eo; refine ⟨by rw [cZ,bU,rl.len]; exact hn,S1.smp,v,us,F1,a,ds,post,by rw [cZ],S1.sub,so,pY S1.nd hs,rl,hc,hp,fun F' H' a' pa s2 s3 sm so' nd kp kf=> ?_⟩; have S2:=S1.le (gX sd i); have no:∀b,b∈cC (sd.set i .un)→b∉Z.own a:=fun b hb z=>iQ S1.nd hs (show b∈iB (Z.sl a) from z) hb
 have S3:StF X.K X.B₀ F' H' σ (sd.set i .un):=⟨fun b o e=>s2 _ _ (S1.base _ _ e),s3,sm,S2.slots.mono s2 fun b hb=>by
  obtain ⟨n1,ob,e,_⟩:=S2.slots.owns hb
  exact ⟨(kf b ob (no b hb) e n1).1,fun xs e'=>kp b xs (no b hb) e'⟩,S2.nd⟩
 have S4:=S3.setT i so' nd fun b hb hb2=>by obtain ⟨n1,ob,e,_⟩:=S2.slots.owns hb2; exact (kf b ob (no b hb2) e n1).2 hb
 rw [jS,lF g1] at S4; exact ⟨_,F',S4,s1.trans s2,hE a' pa⟩
theorem psd_while {body:List Stmt} (W:Nat→List Slot→Prop) (h0:∃m sd0,Le sd sd0∧W m sd0)
  (hb:∀m sdm,W m sdm→∃t:Bool,PTd X sdm c t∧(t=false→E.nx sdm)∧(t=true→PSd X sdm body {E with nx:=fun sd'=>∃m' sd2,m'<m∧Le sd' sd2∧W m' sd2,ct:=fun sd'=>∃m' sd2,m'<m∧Le sd' sd2∧W m' sd2,bk:=E.nx}))
  (hp:PassesOwn (model X.prog X.w) X.A X.env X.xe:=by exact PassesOwn.never):PSd1 X sd (.While c body [] pos) E:= .mk fun σ F H S=>
 (ps_while hp pt_w pss_w).to (by
  obtain ⟨m0,sd0,le0,q0⟩:=h0; refine ⟨fun m σ' H'=>∃sdm F',StF X.K X.B₀ F' H' σ' sdm∧Same F F'∧W m sdm,⟨m0,sd0,F,S.le le0,Same.refl _,q0⟩, ?_⟩; rintro m σ' H' ⟨sdm,F',S',s',qm⟩; obtain ⟨t,ht,h1,h2⟩:=hb m sdm qm; refine (ht σ' F' H' S').imp fun b H1 ⟨eb,F1,S1,s1⟩=> ?_
  subst eb; cases b with
  | false=>exact iteF ⟨sdm,F1,S1,s'.trans s1,h1 rfl⟩
  | true=>
   refine iteT ⟨fun σ2 H2=>∃m' sd2 F2,m'<m∧StF X.K X.B₀ F2 H2 σ2 sd2∧Same F F2∧W m' sd2,fun σ2 H2 ⟨m',sd2,F2,lt,S2,s2,w2⟩=>⟨m',lt,sd2,F2,S2,s2,w2⟩, ?_⟩; refine (h2 rfl σ' F1 H1 S1).imp ?_ ?_ ?_ ?_
   ·rintro σ4 H4 ⟨sd4,F4,S4,s4,m',sd5,lt,le,q5⟩; exact ⟨m',sd5,F4,lt,S4.le le,(s'.trans s1).trans s4,q5⟩
   ·exact fun v H4 q=>q
   ·rintro σ4 H4 ⟨sd4,F4,S4,s4,q⟩; exact ⟨sd4,F4,S4,(s'.trans s1).trans s4,q⟩
   ·rintro σ4 H4 ⟨sd4,F4,S4,s4,m',sd5,lt,le,q5⟩
    exact ⟨m',sd5,F4,lt,S4.le le,(s'.trans s1).trans s4,q5⟩)
end
theorem zQ {P:Program} {w:World} {H:Hp} {h h':Heap} {cs:List Addr} (x:HOk P w H h) (k:∀b u,b∉cs→h.get? b=some u→h'.get? b=some u) (hn:∀b∈cs,H b=none):HOk P w H h':=fun a o e=>
 (x a o e).stay (fun b u hb q=>k b u (fun z=>by
  have n:=hn b z
  rcases hb with rfl | hb
  ·rw [e] at n; cases n
  ·rw [hb] at n
   cases n) q) (fun _ q=>q) fun _ _ q=>q
section
variable {prog:Program} {w:World} {A:Around} {d I:Addr} {od:Obj} {es:Array DictEntry} {ep:Nat}
theorem walksD (hh:A.handled=none) (c:od.data= .dict es ep) (ne:d≠I):Walks prog w A I [I,d] [I] es.size (fun i v=>∃u,es[i]? =some u∧v=u.key) (fun i h=>h.IsKeyIter I d i es.size ep∧h.get? d=some od) where
 sub:=fun b hb=>aX.mpr (.inl (aI.mp hb))
 frame:=fun i h h' st k=>by obtain ⟨⟨o,g,q⟩,g2⟩:=st; exact ⟨⟨o,k I aG o g,q⟩,k d (by simp) od g2⟩
 item:=fun i s Q E hi st q=>walk_next st.1 st.2 c hi fun h' st' sb=>q _ h' s.toks ⟨es[i],by simp [hi],rfl⟩ ⟨st',(sb.2 d ne).trans st.2⟩ fun b o hb g=>(sb.2 b fun z=>hb (by rw [z]; exact cP _)).trans g
 done:=fun s Q E st q=>walk_end hh st.1 st.2 c (aM _) fun h' eb=>q h' s.toks fun b o hb g=>eb b o (fun z=>hb (by rw [z]; exact cP _)) g
 self:=fun i s Q E st q=>wpAny_pyIter_keyiter st.1 q
theorem srcD (sm:(d==sysModules)=false) (x:od.ExactDict) (c:od.data= .dict es ep):PySem.W.KdlSrc prog w "dict" d d es.size (fun i v=>∃u,es[i]? =some u∧v=u.key) (fun h=>h.get? d=some od) where
 type:=fun s ok=>qX ok x
 there:=fun h ok=>⟨aO ok,aO ok⟩
 keep:=fun h h' ok k=>k d (.inl rfl) od ok
 notList:=by decide
 notTuple:=by decide
 hint:=fun A E s Q ok q=>PySem.W.kdl_hint_dict (qX ok x) q
 iter:=fun A s hh ok=>⟨_,_,fun E Q q=>walk_new sm ok x c q,walksD hh c (bP (aO ok)),⟨⟨_,bG _ rfl,rfl,rfl⟩,aE _ ok⟩⟩
end
section
variable {prog:Program} {w:World} {A:Around} {I:Addr} {fp wr:List Addr} {n:Nat} {P:Nat→Value→Prop} {St:Nat→Heap→Prop} {J:Heap→Prop} {bt:Nat→Nat→Bool} {R:Result→Shared→Prop} {S:Addr}
noncomputable def AskJ (prog:Program) (w:World) (A:Around) (J:Heap→Prop) (P:Nat→Value→Prop) (bt:Nat→Nat→Bool):Prop:=∀i k x y (t:Shared) (Q:Value→Shared→Prop) (E:Value→Shared→Prop),J t.heap→P i x→P k y→Q (.bool (bt i k)) t→wpAny (model prog w) A (richCompare .Lt x y) Q E t
noncomputable def StayJ (cs:List Addr) (J:Heap→Prop):Prop:=∀h h':Heap,J h→(∀b o,b∉cs→h.get? b=some o→h'.get? b=some o)→J h'
noncomputable def two2 (v:Value) (c:Nat):Obj:={cls:= .type "list",dict:=none,data:= .seq #[v,v] c,slots:= #[]}
theorem minJ_loop (W:Walks prog w A.in1 I fp wr n P St) (ask:AskJ prog w A.in1 J P bt) (stay:StayJ (S::wr) J) (nS:S∉fp):∀ (k j:Nat) (s:Shared) (v0:Value) (c:Nat),n=k+(j+1)→St (j+1) s.heap→P (argBest bt j) v0→J s.heap→s.heap.get? S=some (two2 v0 c)→
  (∀v h' tk,P (argBest bt (n - 1)) v→(∀b o,b∉S::wr→s.heap.get? b=some o→h'.get? b=some o)→R (.ok (.ret v)) {s with heap:=h',toks:=tk})→codeAny (model prog w) A (.builtin "min.loop" ⟨[.ref I, .none, .ref S],[]⟩) R s:=fun k=>by
 have nW:S∉wr:=fun z=>nS (W.sub S z)
 have nm:(toString "min"++toString ".loop":String)="min.loop":=by decide
 have upO:∀ {h:Heap} {f:Obj→Obj} {b:Addr} {o:Obj},b∉S::wr→h.get? b=some o→(h.update S f).get? b=some o:=fun {h f b o} hb g=>by rw [dH _ _ (fun z=>hb (by rw [← z]; exact aG))]; exact g
 have upF:∀ {h:Heap} {f:Obj→Obj} {i:Nat},St i h→St i (h.update S f):=fun {h f i} st=>W.frame _ _ _ st fun b hb o g=>by rw [dH _ _ (show S≠b from fun z=>nS (by rw [z]; exact hb))]; exact g
 have sub1:∀ {b:Addr},b∉S::wr→b∉wr:=fun hb z=>hb (aF _ z)
 induction k with
 | zero=>
  intro j s v0 c en st p0 hJ hS fin; have ej:n=j+1:=by omega
  refine codeAny_builtin F.entry_min_loop ?_; rw [Around.under_plainId F.plain_min_loop]; refine wpAny_bind (m:=seqItems? (.ref S)) (wpAny_seqItems hS rfl ?_); refine wpAny_bind (m:=tryCatch (pyNext (.ref I)) _) (wpAny_tryCatch (W.done s _ _ (by rw [ej]; exact st) fun h1 tk k1=> ?_)); refine wpAny_bind (m:=updateSeq S fun _=> #[]) (wpAny_updateSeq (k1 S _ nW hS) rfl (wpAny_bind (wpAny_letGo (wpAny_pure ?_)))); exact fin v0 _ tk (by rw [ej]; exact p0) fun b o hb g=>upO hb (k1 b o (sub1 hb) g)
 | succ k ih=>
  intro j s v0 c en st p0 hJ hS fin; refine codeAny_builtin F.entry_min_loop ?_; rw [Around.under_plainId F.plain_min_loop]; refine wpAny_bind (m:=seqItems? (.ref S)) (wpAny_seqItems hS rfl ?_); refine wpAny_bind (m:=tryCatch (pyNext (.ref I)) _) (wpAny_tryCatch (W.item (j+1) s _ _ (by omega) st fun v h1 tk pv st1 k1=> ?_)); have hS1:=k1 S _ nW hS; have hJ1:J h1:=stay _ _ hJ fun b o hb g=>k1 b o (sub1 hb) g
  refine wpAny_bind (m:=tryCatch (holding [v,v] (richCompare .Lt v v0>>=_)) _) (wpAny_tryCatch (wpAny_holding (wpAny_bind (ask (j+1) (argBest bt j) v v0 ⟨h1,s.gens,s.drawn,tk,s.os⟩ _ _ hJ1 pv p0 ?_)))); refine wpAny_bind (wpAny_holding (wpAny_truthy_bool (wpAny_bind (wpAny_letGo (wpAny_pure ?_))))); have ab:argBest bt (j+1)=if bt (j+1) (argBest bt j) then j+1 else argBest bt j:=rfl
  cases q:bt (j+1) (argBest bt j) with
  | true=>rw [q,if_pos rfl] at ab; simp only [if_true]; refine wpAny_bind (wpAny_updateSeq hS1 rfl (wpAny_bind (wpAny_letGo ?_))); rw [nm]; refine wpAny_pure ⟨plainId_quiet F.plain_min_loop _,ih (j+1) _ v _ (by omega) (upF st1) (by rw [ab]; exact pv) (stay _ _ hJ1 fun b o hb g=>upO hb g) (gH _ hS1 rfl) fun v' h2 tk2 p2 k2=> ?_⟩; exact fin v' h2 tk2 p2 fun b o hb g=>k2 b o hb (upO hb (k1 b o (sub1 hb) g))
  | false=>rw [q,if_neg bI] at ab; simp only [bY,if_false]; refine wpAny_bind (wpAny_letGo ?_); rw [nm]; refine wpAny_pure ⟨plainId_quiet F.plain_min_loop _,ih (j+1) _ v0 c (by omega) st1 (by rw [ab]; exact p0) hJ1 hS1 fun v' h2 tk2 p2 k2=> ?_⟩; exact fin v' h2 tk2 p2 fun b o hb g=>k2 b o hb (k1 b o (sub1 hb) g)
theorem minJ_first (W:Walks prog w A.in1 I fp wr n P St) (ask:AskJ prog w A.in1 J P bt) (stay:StayJ (S::wr) J) (nS:S∉fp) (h0:0<n) {s:Shared} {c:Nat} (st:St 0 s.heap) (hJ:J s.heap) (hS:s.heap.get? S=some {cls:= .type "list",dict:=none,data:= .seq #[] c,slots:= #[]})
  (fin:∀v h' tk,P (argBest bt (n - 1)) v→(∀b o,b∉S::wr→s.heap.get? b=some o→h'.get? b=some o)→R (.ok (.ret v)) {s with heap:=h',toks:=tk}):codeAny (model prog w) A (.builtin "min.loop" ⟨[.ref I, .none, .ref S],[]⟩) R s:=by
 have nW:S∉wr:=fun z=>nS (W.sub S z)
 have nm:(toString "min"++toString ".loop":String)="min.loop":=by decide
 have upO:∀ {h:Heap} {f:Obj→Obj} {b:Addr} {o:Obj},b∉S::wr→h.get? b=some o→(h.update S f).get? b=some o:=fun {h f b o} hb g=>by rw [dH _ _ (fun z=>hb (by rw [← z]; exact aG))]; exact g
 have sub1:∀ {b:Addr},b∉S::wr→b∉wr:=fun hb z=>hb (aF _ z)
 refine codeAny_builtin F.entry_min_loop ?_; rw [Around.under_plainId F.plain_min_loop]; refine wpAny_bind (m:=seqItems? (.ref S)) (wpAny_seqItems hS rfl ?_); refine wpAny_bind (m:=tryCatch (pyNext (.ref I)) _) (wpAny_tryCatch (W.item 0 s _ _ h0 st fun v h1 tk pv st1 k1=> ?_)); have hS1:=k1 S _ nW hS; refine wpAny_bind (m:=updateSeq S fun _=> #[v,v]) (wpAny_updateSeq hS1 rfl ?_); rw [nm]; refine wpAny_pure ⟨plainId_quiet F.plain_min_loop _,minJ_loop W ask stay nS (n - 1) 0 _ v _ (by omega) (W.frame _ _ _ st1 fun b hb o g=> ?_) pv (stay _ _ hJ fun b o hb g=>upO hb (k1 b o (sub1 hb) g)) (gH _ hS1 rfl) fun v' h2 tk2 p2 k2=> ?_⟩
 ·rw [dH _ _ (show S≠b from fun z=>nS (by rw [z]; exact hb))]; exact g
 ·exact fin v' h2 tk2 p2 fun b o hb g=>k2 b o hb (upO hb (k1 b o (sub1 hb) g))
theorem call_minJ {E:Value→Shared→Prop} {s:Shared} {x:Value} {Q:Value→Shared→Prop}
  (h:wpAny (model prog w) A.in1 (pyIter x) (fun it t=>∃ (I:Addr) (fp wr:List Addr) (n:Nat) (P:Nat→Value→Prop) (St:Nat→Heap→Prop) (J:Heap→Prop) (bt:Nat→Nat→Bool),it= .ref I∧Walks prog w A.in1 I fp wr n P St∧St 0 t.heap∧(∀b∈fp,b<t.heap.objs.size)∧0<n∧AskJ prog w A.in1 J P bt∧J t.heap∧StayJ (t.heap.objs.size::wr) J∧
   ∀v h' tk,P (argBest bt (n - 1)) v→(∀b o,b∉wr→t.heap.get? b=some o→h'.get? b=some o)→Q v {t with heap:=h',toks:=tk}) E s):
  wpAny (model prog w) A (call (.builtin "min") [x]) Q E s:=by
 have nm:(toString "min"++toString ".loop":String)="min.loop":=by decide
 refine call_function_tree F.kind_min F.plain_min F.entry_min (F.args_min1 _) ?_; refine wpAny_bind (m:=Builtin.Builtins.bindParams "min" ["key","default"] 0 ⟨[],[]⟩) (wpAny_of_eq (a:=[none,none]) rfl (wpAny_bind (wpAny_pure ?_))); refine wpAny_bind (wpAny_mono h (fun it t hx=> ?_) fun _ _ z=>z); obtain ⟨I,fp,wr,n,P,St,J,bt,rfl,W,st,hfp,h0,ask,hJ,stay,q⟩:=hx; refine wpAny_bind (wpAny_newObj_type ?_); have nS:t.heap.objs.size∉fp:=fun z=>eU _ (hfp _ z)
 rw [nm]; refine wpAny_pure ⟨plainId_quiet F.plain_min_loop _,minJ_first W ask stay nS h0 (W.frame _ _ _ st fun b _ o g=>aE _ g) (stay _ _ hJ fun b o _ g=>aE _ g) (bG _ rfl) fun v h' tk pv k=> ?_⟩; refine q v h' tk pv fun b o hb g=>k b o (fun z=> ?_) (aE _ g)
 rcases aX.mp z with z | z
 ·exact eU _ (z▸aO g)
 ·exact hb z
end
noncomputable def rkA (r:Keyed→Nat) (xs:Array Keyed) (i:Nat):Nat:=match xs[i]? with
 | some p=>r p
 | none=>0
noncomputable def AscR (r:Keyed→Nat) (xs:Array Keyed) (l h:Nat):Prop:=∀i j,l≤i→i<j→j<h→rkA r xs i<rkA r xs j
theorem iH {r:Keyed→Nat} {xs ys:Array Keyed} {i j:Nat} (h:xs[i]? =ys[j]?):rkA r xs i=rkA r ys j:=by unfold rkA; rw [h]
theorem dX {r:Keyed→Nat} {xs:Array Keyed} {i:Nat} (h:i<xs.size):rkA r xs i=r xs[i]:=by unfold rkA; rw [getElem?_pos xs i h]
structure kX (prog:Program) (w:World) (A:Around) (E:Value→Shared→Prop) (s:Shared) (κ:SortKind) (r:Keyed→Nat) (a₀:Array Keyed):Prop where
 ask:∀ {x y:Keyed} {st:SortSt} {Q:Option Bool→SortSt→Prop},x∈a₀.toList→y∈a₀.toList→kindOf st=κ→Q (some (decide (r x<r y))) st→wpS (model prog w) A E s (lt' x y) Q st
 nd:(a₀.toList.map r).Nodup
structure SB (κ:SortKind) (a₀:Array Keyed) (st:SortSt):Prop where
 perm:(arrOf st).Perm a₀
 kind:kindOf st=κ
 failed:failedOf st=none
structure Stp (κ:SortKind) (a₀:Array Keyed) (lo hi:Nat) (st st':SortSt):Prop where
 sb:SB κ a₀ st'
 pend:pendingOf st'=pendingOf st
 keep:∀k,k<lo∨hi≤k→(arrOf st')[k]? =(arrOf st)[k]?
section
variable {prog:Program} {w:World} {A:Around} {E:Value→Shared→Prop} {s:Shared} {κ:SortKind} {r:Keyed→Nat} {a₀:Array Keyed} {st st':SortSt}
theorem SB.size (h:SB κ a₀ st):(arrOf st).size=a₀.size:=h.perm.size_eq
theorem SB.mem (h:SB κ a₀ st) {i:Nat} (hi:i<(arrOf st).size):(arrOf st)[i]∈a₀.toList:=(gE.mp h.perm).mem_iff.mp (by simp)
theorem nd_ne {xs:Array Keyed} (nd:(xs.toList.map r).Nodup) {i j:Nat} (hi:i<xs.size) (hj:j<xs.size) (hij:i≠j):rkA r xs i≠rkA r xs j:=fun e=>by
 rw [dX hi,dX hj] at e; have e2:(xs.toList.map r)[i]'(by simpa using hi)=(xs.toList.map r)[j]'(by simpa using hj):=by simpa using e
 exact hij ((jA nd).mp e2)
theorem SB.nd (h:SB κ a₀ st) (K:kX prog w A E s κ r a₀):((arrOf st).toList.map r).Nodup:=(((gE.mp h.perm).map r).nodup_iff).mpr K.nd
theorem SB.ne (h:SB κ a₀ st) (K:kX prog w A E s κ r a₀) {i j:Nat} (hi:i<a₀.size) (hj:j<a₀.size) (hij:i≠j):rkA r (arrOf st) i≠rkA r (arrOf st) j:=
 nd_ne (h.nd K) (by rw [h.size]; exact hi) (by rw [h.size]; exact hj) hij
theorem Stp.refl (h:SB κ a₀ st) (lo hi:Nat):Stp κ a₀ lo hi st st:=⟨h,rfl,fun _ _=>rfl⟩
theorem Stp.trans {lo hi:Nat} {st'':SortSt} (h:Stp κ a₀ lo hi st st') (h2:Stp κ a₀ lo hi st' st''):Stp κ a₀ lo hi st st'':=⟨h2.sb,h2.pend.trans h.pend,fun k hk=>(h2.keep k hk).trans (h.keep k hk)⟩
theorem SB.setArr (h:SB κ a₀ st) {xs:Array Keyed} (hp:xs.Perm (arrOf st)):SB κ a₀ (setArr st xs):=⟨hp.trans h.perm,h.kind,h.failed⟩
theorem eE {xs:Array Keyed} {i:Nat} {Q:Keyed→SortSt→Prop} (hi:i<xs.size) (h:Q xs[i] st):wpS (model prog w) A E s (elem' xs i) Q st:=by rw [elem'_eq,getElem?_pos xs i hi]; exact wpS_pure h
theorem qU {i j:Nat} {Q:Option Bool→SortSt→Prop} (K:kX prog w A E s κ r a₀) (hB:SB κ a₀ st) (hi:i<a₀.size) (hj:j<a₀.size)
  (h:Q (some (decide (rkA r (arrOf st) i<rkA r (arrOf st) j))) st):wpS (model prog w) A E s (ltAt' i j) Q st:=by
 have hi':i<(arrOf st).size:=by rw [hB.size]; exact hi
 have hj':j<(arrOf st).size:=by rw [hB.size]; exact hj
 rw [ltAt'_eq]; refine wpS_bind (wpS_get ?_); show wpS _ _ _ _ (do let x ← elem' (arrOf st) i; let y ← elem' (arrOf st) j; lt' x y) Q st; refine wpS_bind (eE hi' (wpS_bind (eE hj' (K.ask (hB.mem hi') (hB.mem hj') hB.kind ?_)))); rw [dX hi',dX hj'] at h; exact h
theorem xK {xs:Array Keyed} {i j:Nat} (hj:j≤xs.size) (k:Nat):
  rkA r (mirror xs i j ((j - i) / 2)) k=if i≤k∧k<j then rkA r xs (i+j - 1 - k) else rkA r xs k:=by
 have e:=getElem?_mirror_all (i:=i) hj k
 by_cases h1:i≤k∧k<j
 ·rw [if_pos h1] at e ⊢; exact iH e
 ·rw [if_neg h1] at e ⊢; exact iH e
theorem xU {xs:Array Keyed} {src d:Nat} (hs:src<xs.size) (hd:d≤src) (k:Nat):
  rkA r (bubble xs src d) k=if k=src - d then rkA r xs src else if src - d<k∧k≤src then rkA r xs (k - 1) else rkA r xs k:=by
 have e:=getElem?_bubble hs d hd k
 by_cases h1:k=src - d
 ·rw [if_pos h1] at e ⊢; exact iH e
 ·rw [if_neg h1] at e ⊢
  by_cases h2:src - d<k∧k≤src
  ·rw [if_pos h2] at e ⊢; exact iH e
  ·rw [if_neg h2] at e ⊢; exact iH e
theorem AscR.snoc {xs:Array Keyed} {l h:Nat} (a:AscR r xs l h) (lt:l<h) (q:rkA r xs (h - 1)<rkA r xs h):AscR r xs l (h+1):=fun i j hi hij hj=>by
 by_cases e:j=h
 ·subst e
  by_cases e2:i=j - 1
  ·rw [e2]; exact q
  ·exact oQ (a i (j - 1) hi (by omega) (by omega)) q
 ·exact a i j hi hij (by omega)
theorem wpS_asc {lo a nrem:Nat} {Q:Option (Option Nat) × Nat→SortSt→Prop} (K:kX prog w A E s κ r a₀) (hB:SB κ a₀ st) (ha:1≤a) (han:a≤nrem) (hn:lo+nrem≤a₀.size) (hs:AscR r (arrOf st) lo (lo+a))
  (h:∀m,a≤m→m≤nrem→AscR r (arrOf st) lo (lo+m)→(m<nrem→rkA r (arrOf st) (lo+m)<rkA r (arrOf st) (lo+m - 1))→Q (none,m) st):
  wpS (model prog w) A E s (forIn [a:nrem] ((none,a):Option (Option Nat) × Nat) fun _ __s=>do
   let __x ← ltAt' (lo+__s.snd) (lo+__s.snd - 1)
   match __x with
   | some smaller=>if smaller=true then pure (ForInStep.done (none,__s.snd)) else pure (ForInStep.yield (none,__s.snd+1))
   | _=>pure (ForInStep.done (some none,__s.snd))) Q st:=by
 refine wpS_forRange (I:=fun x c st'=>st'=st∧c=(none,x)∧AscR r (arrOf st) lo (lo+x)) ?_ ?_ ⟨rfl,rfl,hs⟩
 ·rintro x c st' hx hxn ⟨rfl,rfl,hs'⟩; dsimp only; refine wpS_bind (qU K hB (by omega) (by omega) ?_)
  by_cases q:rkA r (arrOf st') (lo+x)<rkA r (arrOf st') (lo+x - 1)
  ·simp only [q,decide_true,if_true]; exact wpS_pure (h x hx (by omega) hs' fun _=>q)
  ·simp only [q,decide_false,bY,if_false]; refine wpS_pure ⟨rfl,rfl, ?_⟩; have ne:=hB.ne K (i:=lo+x) (j:=lo+x - 1) (by omega) (by omega) (by omega); exact hs'.snoc (by omega) (by omega)
 ·rintro c st' ⟨rfl,rfl,hs'⟩; rw [show max a nrem=nrem by omega] at hs' ⊢; exact h nrem han (aM _) hs' fun z=>absurd z (eU _)
noncomputable def DscR (r:Keyed→Nat) (xs:Array Keyed) (l h:Nat):Prop:=∀i j,l≤i→i<j→j<h→rkA r xs j<rkA r xs i
theorem DscR.snoc {xs:Array Keyed} {l h:Nat} (a:DscR r xs l h) (lt:l<h) (q:rkA r xs h<rkA r xs (h - 1)):DscR r xs l (h+1):=fun i j hi hij hj=>by
 by_cases e:j=h
 ·subst e
  by_cases e2:i=j - 1
  ·rw [e2]; exact q
  ·exact oQ q (a i (j - 1) hi (by omega) (by omega))
 ·exact a i j hi hij (by omega)
theorem wpS_countR {lo nrem:Nat} {Q:Option Nat→SortSt→Prop} (K:kX prog w A E s κ r a₀) (hB:SB κ a₀ st) (h1:1≤nrem) (hn:lo+nrem≤a₀.size)
  (h:∀m st',1≤m→m≤nrem→Stp κ a₀ lo (lo+nrem) st st'→AscR r (arrOf st') lo (lo+m)→Q (some m) st'):wpS (model prog w) A E s (countRun' lo nrem) Q st:=by
 rw [countRun'_eq]; refine wpS_bind (wpS_asc K hB (aM 1) h1 hn (fun i j h1 h2 h3=>by omega) fun m hm1 hm2 hs hq=> ?_); dsimp only
 by_cases e:m=nrem
 ·rw [if_pos (by simpa using e)]; exact wpS_pure (h m st hm1 hm2 (.refl hB _ _) hs)
 ·rw [if_neg (by simpa using e)]
  by_cases m1:m>1
  ·rw [if_pos m1]; refine wpS_bind (qU K hB (by omega) (by omega) ?_); rw [decide_eq_true (hs lo (lo+m - 1) (aM _) (by omega) (by omega))]; dsimp only; rw [if_pos rfl]; exact wpS_pure (h m st hm1 hm2 (.refl hB _ _) hs)
  ·rw [if_neg m1]; have em:m=1:=by omega
   subst em; have hq:=hq (by omega); refine wpS_bind (wpS_lift (wpAny_rule ⟨rfl, ?_⟩)); refine wpS_bind (wpS_mono (wpS_forRange (I:=fun x c st'=>st'=st∧c=(none,x,0)∧DscR r (arrOf st) lo (lo+x)) (Q:=fun c st'=>st'=st∧∃m,c=(none,m,0)∧2≤m∧m≤nrem∧DscR r (arrOf st) lo (lo+m)) ?step ?fin ⟨rfl,rfl, ?init⟩) ?post)
   case init=>
    intro i j h1 h2 h3; have e1:i=lo:=by omega
    have e2:j=lo+1:=by omega
    subst e1 e2; exact hq
   case step=>
    rintro x c st' hx hxn ⟨rfl,rfl,hs'⟩; dsimp only; refine wpS_bind (qU K hB (by omega) (by omega) ?_)
    by_cases q:rkA r (arrOf st') (lo+x)<rkA r (arrOf st') (lo+x - 1)
    ·simp only [q,decide_true,if_true]; rw [if_neg (by omega)]; exact wpS_pure ⟨rfl,rfl,hs'.snoc (by omega) q⟩
    ·simp only [q,decide_false,bY,if_false]; refine wpS_bind (qU K hB (by omega) (by omega) ?_); have ne:=hB.ne K (i:=lo+x) (j:=lo+x - 1) (by omega) (by omega) (by omega); rw [decide_eq_true (show rkA r (arrOf st') (lo+x - 1)<rkA r (arrOf st') (lo+x) by omega)]; dsimp only; rw [if_pos rfl]; exact wpS_pure ⟨rfl,x,rfl,hx,by omega,hs'⟩
   case fin=>rintro c st' ⟨rfl,rfl,hs'⟩; rw [show max (1+1) nrem=nrem by omega] at hs' ⊢; exact ⟨rfl,nrem,rfl,by omega,aM _,hs'⟩
   case post=>
    rintro c st' ⟨rfl,m,rfl,m2,mn,hd⟩; dsimp only; rw [if_neg (by omega),reverseSlice'_eq]; refine wpS_bind (wpS_modify ?_); have hz:lo+m≤(arrOf st').size:=by rw [hB.size]; omega
    have S:Stp κ a₀ lo (lo+nrem) st' (setArr st' (mirror (arrOf st') lo (lo+m) ((lo+m - lo) / 2))):=by refine ⟨hB.setArr (mirror_perm _ _ _ _),rfl,fun k hk=> ?_⟩; show (mirror (arrOf st') lo (lo+m) ((lo+m - lo) / 2))[k]? =_; rw [getElem?_mirror_all hz,if_neg (by omega)]
    refine wpS_bind (wpS_asc K S.sb (by omega) mn hn (fun i j h1 h2 h3=> ?_) fun m' a1 a2 a3 _=> ?_)
    ·show rkA r (mirror (arrOf st') lo (lo+m) ((lo+m - lo) / 2)) i<rkA r (mirror (arrOf st') lo (lo+m) ((lo+m - lo) / 2)) j; rw [xK hz,xK hz,if_pos (by omega),if_pos (by omega)]; exact hd _ _ (by omega) (by omega) (by omega)
    ·exact wpS_pure (h m' _ (by omega) a2 S a3)
theorem wpS_binR {lo n ok:Nat} {Q:Bool→SortSt→Prop} (K:kX prog w A E s κ r a₀) (hB:SB κ a₀ st) (hn:lo+n≤a₀.size) (hok:ok≤n) (hs:AscR r (arrOf st) lo (lo+ok))
  (h:∀st',Stp κ a₀ lo (lo+n) st st'→AscR r (arrOf st') lo (lo+n)→Q true st'):wpS (model prog w) A E s (binarySort' lo n ok) Q st:=by
 rw [binarySort'_eq]
 refine wpS_bind (wpS_mono (wpS_forRange (I:=fun k c st'=>c=(none,())∧Stp κ a₀ lo (lo+n) st st'∧AscR r (arrOf st') lo (lo+min k n))
  (Q:=fun c st'=>c=(none,())∧Stp κ a₀ lo (lo+n) st st'∧AscR r (arrOf st') lo (lo+n)) ?step ?fin ?init) ?post)
 case post=>rintro c st' ⟨rfl,S,hs'⟩; exact wpS_pure (h st' S hs')
 case init=>refine ⟨rfl, .refl hB _ _,fun i j hi hij hj=> ?_⟩; exact hs i j hi hij (by omega)
 case fin=>
  rintro c st' ⟨hc,S,hs'⟩; refine ⟨hc,S, ?_⟩
  rwa [show min (max (max ok 1) n) n=n by omega] at hs'
 case step=>
  rintro k c st' hak hkn ⟨rfl,S,hs'⟩; rw [show min k n=k by omega] at hs'; have hB':=S.sb; have hk:lo+k<a₀.size:=by omega
  refine wpS_bind (wpS_mono (wpS_forRange (I:=fun x c st''=>st''=st'∧∃l r',c=(none,l,r')∧l≤r'∧r'≤k∧r' - l≤k - x∧
    (∀i,i<l→rkA r (arrOf st') (lo+i)<rkA r (arrOf st') (lo+k))∧(∀i,r'≤i→i<k→rkA r (arrOf st') (lo+k)<rkA r (arrOf st') (lo+i)))
   (Q:=fun c st''=>st''=st'∧∃l r',c=(none,l,r')∧l≤k∧
    (∀i,i<l→rkA r (arrOf st') (lo+i)<rkA r (arrOf st') (lo+k))∧(∀i,l≤i→i<k→rkA r (arrOf st') (lo+k)<rkA r (arrOf st') (lo+i))) ?istep ?ifin ?iinit) ?ipost)
  case iinit=>exact ⟨rfl,0,k,rfl,by omega,by omega,by omega,fun i hi=>by omega,fun i h1 h2=>by omega⟩
  case ifin=>
   rintro c st'' ⟨rfl,l,r',rfl,hlr,hrk,hm,hlo,hhi⟩; have:l=r':=by omega
   subst this; exact ⟨rfl,l,l,rfl,hrk,hlo,hhi⟩
  case istep=>
   rintro x c st'' _ hxk ⟨rfl,l,r',rfl,hlr,hrk,hm,hlo,hhi⟩; dsimp only
   by_cases hge:l≥r'
   ·rw [if_pos hge]; have:l=r':=by omega
    subst this; exact wpS_pure ⟨rfl,l,l,rfl,hrk,hlo,hhi⟩
   ·rw [if_neg hge]; refine wpS_bind (qU K hB' hk (by omega) ?_)
    by_cases hless:rkA r (arrOf st'') (lo+k)<rkA r (arrOf st'') (lo+(l+r') / 2)
    ·simp only [hless,decide_true,if_true]; refine wpS_pure ⟨rfl,l,(l+r') / 2,rfl,by omega,by omega,by omega,hlo,fun i h1 h2=> ?_⟩
     by_cases e:i=(l+r') / 2
     ·rw [e]; exact hless
     ·exact oQ hless (hs' _ _ (by omega) (by omega) (by omega))
    ·simp only [hless,decide_false,bY,if_false]; have ne:=hB'.ne K (i:=lo+k) (j:=lo+(l+r') / 2) hk (by omega) (by omega); have hl:rkA r (arrOf st'') (lo+(l+r') / 2)<rkA r (arrOf st'') (lo+k):=by omega
     refine wpS_pure ⟨rfl,(l+r') / 2+1,r',rfl,by omega,by omega,by omega,fun i h1=> ?_,hhi⟩
     by_cases e:i=(l+r') / 2
     ·rw [e]; exact hl
     ·exact oQ (hs' _ _ (by omega) (by omega) (by omega)) hl
  case ipost=>
   rintro c st'' ⟨rfl,l,r',rfl,hlk,hlo,hhi⟩; show wpS _ _ _ _ (do moveDown' (lo+k) (lo+l); pure (ForInStep.yield (none,()))) _ _; rw [moveDown'_eq]; have hks:lo+k<(arrOf st'').size:=by rw [hB'.size]; exact hk
   have ed:lo+k - (lo+l)=k - l:=by omega
   rw [ed]; refine wpS_bind (wpS_modify (wpS_pure ⟨rfl,S.trans ⟨hB'.setArr (bubble_perm _ _ _),rfl,fun i hi=> ?_⟩, ?_⟩))
   ·show (bubble (arrOf st'') (lo+k) (k - l))[i]? =_; rw [getElem?_bubble hks _ (by omega),if_neg (by omega),if_neg (by omega)]
   rw [show min (k+1) n=k+1 by omega]; intro i j hi hij hj; show rkA r (bubble (arrOf st'') (lo+k) (k - l)) i<rkA r (bubble (arrOf st'') (lo+k) (k - l)) j; rw [xU hks (by omega),xU hks (by omega),show lo+k - (k - l)=lo+l by omega]
   have hlo':∀i,lo≤i→i<lo+l→rkA r (arrOf st'') i<rkA r (arrOf st'') (lo+k):=fun i a b=>by
    have:=hlo (i - lo) (by omega)
    rwa [show lo+(i - lo)=i by omega] at this
   have hhi':∀i,lo+l≤i→i<lo+k→rkA r (arrOf st'') (lo+k)<rkA r (arrOf st'') i:=fun i a b=>by
    have:=hhi (i - lo) (by omega) (by omega)
    rwa [show lo+(i - lo)=i by omega] at this
   repeat' split
   all_goals first
    | (exfalso; omega)
    | exact hlo' _ (by omega) (by omega)
    | exact hhi' _ (by omega) (by omega)
    | exact hs' _ _ (by omega) (by omega) (by omega)
end
noncomputable def lW:Bool→Keyed→Array Keyed→Nat→Nat→Nat→StateT SortSt Sem (Option Nat):=sortPriv%PySem.Builtin.gallop
noncomputable def bey (left:Bool) (key:Keyed) (arr:Array Keyed) (base i:Nat):StateT SortSt Sem (Option Bool):=do
  let x ← elem' arr (base+i)
  if left then lt' x key else return (← lt' key x).map (!·)
theorem gallop'_eq (left:Bool) (key:Keyed) (arr:Array Keyed) (base n hint:Nat):lW left key arr base n hint=(do
 let mut lastofs:=0
 let mut ofs:=1
 let mut lo:=0
 let mut hi:=0
 let some right ← bey left key arr base hint | return none
 if right then
  let maxofs:=n - hint
  for _ in [0:n] do
   if ofs≥maxofs then break
   let some more ← bey left key arr base (hint+ofs) | return none
   if !more then break
   lastofs:=ofs
   ofs:=2 * ofs+1
  lo:=hint+lastofs+1
  hi:=hint+min ofs maxofs
 else
  let maxofs:=hint+1
  for _ in [0:n] do
   if ofs≥maxofs then break
   let some found ← bey left key arr base (hint - ofs) | return none
   if found then break
   lastofs:=ofs
   ofs:=2 * ofs+1
  lo:=hint+1 - min ofs maxofs
  hi:=hint - lastofs
 for _ in [0:n] do
  if lo≥hi then break
  let m:=lo+(hi - lo) / 2
  let some more ← bey left key arr base m | return none
  if more then lo:=m+1 else hi:=m
 return some hi):=rfl
section
variable {prog:Program} {w:World} {A:Around} {E:Value→Shared→Prop} {s:Shared} {κ:SortKind} {r:Keyed→Nat} {a₀:Array Keyed} {st st':SortSt}
theorem qM {left:Bool} {key:Keyed} {xs:Array Keyed} {base i:Nat} {Q:Option Bool→SortSt→Prop} (K:kX prog w A E s κ r a₀) (hk:kindOf st=κ) (mx:∀x∈xs.toList,x∈a₀.toList) (mk:key∈a₀.toList) (hi:base+i<xs.size) (ne:rkA r xs (base+i)≠r key)
  (h:Q (some (decide (rkA r xs (base+i)<r key))) st):wpS (model prog w) A E s (bey left key xs base i) Q st:=by
 unfold bey; refine wpS_bind (eE hi ?_); have m1:xs[base+i]∈a₀.toList:=mx _ (by simp); rw [dX hi] at h ne; cases left with
 | true=>exact K.ask m1 mk hk h
 | false=>
  refine wpS_bind (K.ask mk m1 hk (wpS_pure ?_))
  have e:(!decide (r key<r xs[base+i]))=decide (r xs[base+i]<r key):=by
   by_cases q:r xs[base+i]<r key
   ·rw [decide_eq_true q,decide_eq_false (by omega)]; rfl
   ·rw [decide_eq_false q,decide_eq_true (by omega)]; rfl
  show Q (some (!decide (r key<r xs[base+i]))) st; rw [e]; exact h
theorem AscR.le {xs:Array Keyed} {base n:Nat} (a:AscR r xs base (base+n)) {i j:Nat} (hij:i≤j) (hj:j<n):rkA r xs (base+i)≤rkA r xs (base+j):=by
 by_cases e:i=j
 ·rw [e]; exact aM _
 ·exact dW (a _ _ (by omega) (by omega) (by omega))
theorem oV {left:Bool} {key:Keyed} {xs:Array Keyed} {base n hint:Nat} {Q:Option Nat→SortSt→Prop} (K:kX prog w A E s κ r a₀) (hk:kindOf st=κ) (mx:∀x∈xs.toList,x∈a₀.toList) (mk:key∈a₀.toList) (hx:base+n≤xs.size) (hh:hint<n)
  (asc:AscR r xs base (base+n)) (ne:∀i,i<n→rkA r xs (base+i)≠r key)
  (h:∀k,k≤n→(∀i,i<k→rkA r xs (base+i)<r key)→(∀i,k≤i→i<n→r key<rkA r xs (base+i))→Q (some k) st):wpS (model prog w) A E s (lW left key xs base n hint) Q st:=by
 rw [gallop'_eq]; refine wpS_bind (qM K hk mx mk (by omega) (ne _ hh) ?_)
 by_cases q:rkA r xs (base+hint)<r key
 ·simp only [q,decide_true,if_true]
  refine wpS_bind (wpS_mono (wpS_forRange (I:=fun x c st'=>st'=st∧∃last ofs,c=(none,last,ofs)∧last<ofs∧x+1≤ofs∧hint+last<n∧rkA r xs (base+(hint+last))<r key)
   (Q:=fun c st'=>st'=st∧∃last ofs,c=(none,last,ofs)∧last<ofs∧hint+last<n∧rkA r xs (base+(hint+last))<r key∧(n - hint≤ofs∨(hint+ofs<n∧r key<rkA r xs (base+(hint+ofs))))) ?step ?fin ⟨rfl,0,1,rfl,by omega,by omega,hh,q⟩) ?post)
  case fin=>rintro c st' ⟨rfl,last,ofs,rfl,a,b,c,d⟩; exact ⟨rfl,last,ofs,rfl,a,c,d, .inl (by omega)⟩
  case step=>
   rintro x c st' _ hxn ⟨rfl,last,ofs,rfl,a,b,c,d⟩; dsimp only
   by_cases z:ofs≥n - hint
   ·rw [if_pos z]; exact wpS_pure ⟨rfl,last,ofs,rfl,a,c,d, .inl z⟩
   ·rw [if_neg z]; refine wpS_bind (qM K hk mx mk (by omega) (ne _ (by omega)) ?_)
    by_cases y:rkA r xs (base+(hint+ofs))<r key
    ·simp only [y,decide_true,Bool.not_true,bY,if_false]; exact wpS_pure ⟨rfl,ofs,2 * ofs+1,rfl,by omega,by omega,by omega,y⟩
    ·simp only [y,decide_false,Bool.not_false,if_true]; have y':=ne (hint+ofs) (by omega); exact wpS_pure ⟨rfl,last,ofs,rfl,a,c,d, .inr ⟨by omega,by omega⟩⟩
  case post=>
   rintro c st' ⟨rfl,last,ofs,rfl,a,b,c,d⟩; dsimp only; have l1:hint+last+1≤hint+min ofs (n - hint):=by omega
   have l2:hint+min ofs (n - hint)≤n:=by omega
   have hl:∀i,i<hint+last+1→rkA r xs (base+i)<r key:=fun i hi=>cA (asc.le (by omega) b) c
   have hg:∀i,hint+min ofs (n - hint)≤i→i<n→r key<rkA r xs (base+i):=fun i h1 h2=>by
    rcases d with d | ⟨d1,d2⟩
    ·omega
    ·exact aU d2 (asc.le (by omega) h2)
   refine wpS_bind (wpS_mono (wpS_forRange (I:=fun x c st''=>st''=st'∧∃lo hi,c=(none,lo,hi)∧lo≤hi∧hi≤n∧hi - lo≤n - x∧(∀i,i<lo→rkA r xs (base+i)<r key)∧(∀i,hi≤i→i<n→r key<rkA r xs (base+i)))
    (Q:=fun c st''=>st''=st'∧∃k,c=(none,k,k)∧k≤n∧(∀i,i<k→rkA r xs (base+i)<r key)∧(∀i,k≤i→i<n→r key<rkA r xs (base+i))) ?step ?fin ⟨rfl,_,_,rfl,l1,l2,by omega,hl,hg⟩) ?post)
   case post=>rintro c st'' ⟨rfl,k,rfl,a,b,c⟩; exact wpS_pure (h k a b c)
   case fin=>
    rintro c st'' ⟨rfl,lo,hi,rfl,a,b,c,d,e⟩; have:lo=hi:=by omega
    subst this; exact ⟨rfl,lo,rfl,b,d,e⟩
   case step=>
    rintro x c st'' _ hxn ⟨rfl,lo,hi,rfl,a,b,c,d,e⟩; dsimp only
    by_cases q:lo≥hi
    ·rw [if_pos q]; have:lo=hi:=by omega
     subst this; exact wpS_pure ⟨rfl,lo,rfl,b,d,e⟩
    ·rw [if_neg q]; refine wpS_bind (qM K hk mx mk (by omega) (ne _ (by omega)) ?_)
     by_cases z:rkA r xs (base+(lo+(hi - lo) / 2))<r key
     ·simp only [z,decide_true,if_true]; refine wpS_pure ⟨rfl,lo+(hi - lo) / 2+1,hi,rfl,by omega,b,by omega,fun i hi'=> ?_,e⟩; exact cA (asc.le (by omega) (by omega)) z
     ·simp only [z,decide_false,bY,if_false]; have z':=ne (lo+(hi - lo) / 2) (by omega); refine wpS_pure ⟨rfl,lo,lo+(hi - lo) / 2,rfl,by omega,by omega,by omega,d,fun i h1 h2=> ?_⟩; exact aU (by omega) (asc.le h1 h2)
 ·simp only [q,decide_false,bY,if_false]; have q':=ne hint hh
  refine wpS_bind (wpS_mono (wpS_forRange (I:=fun x c st'=>st'=st∧∃last ofs,c=(none,last,ofs)∧last<ofs∧x+1≤ofs∧last≤hint∧r key<rkA r xs (base+(hint - last)))
   (Q:=fun c st'=>st'=st∧∃last ofs,c=(none,last,ofs)∧last<ofs∧last≤hint∧r key<rkA r xs (base+(hint - last))∧(hint+1≤ofs∨(ofs≤hint∧rkA r xs (base+(hint - ofs))<r key))) ?step ?fin ⟨rfl,0,1,rfl,by omega,by omega,by omega,by rw [Nat.sub_zero]; omega⟩) ?post)
  case fin=>rintro c st' ⟨rfl,last,ofs,rfl,a,b,c,d⟩; exact ⟨rfl,last,ofs,rfl,a,c,d, .inl (by omega)⟩
  case step=>
   rintro x c st' _ hxn ⟨rfl,last,ofs,rfl,a,b,c,d⟩; dsimp only
   by_cases z:ofs≥hint+1
   ·rw [if_pos z]; exact wpS_pure ⟨rfl,last,ofs,rfl,a,c,d, .inl z⟩
   ·rw [if_neg z]; refine wpS_bind (qM K hk mx mk (by omega) (ne _ (by omega)) ?_)
    by_cases y:rkA r xs (base+(hint - ofs))<r key
    ·simp only [y,decide_true,if_true]; exact wpS_pure ⟨rfl,last,ofs,rfl,a,c,d, .inr ⟨by omega,y⟩⟩
    ·simp only [y,decide_false,bY,if_false]; have y':=ne (hint - ofs) (by omega); exact wpS_pure ⟨rfl,ofs,2 * ofs+1,rfl,by omega,by omega,by omega,by omega⟩
  case post=>
   rintro c st' ⟨rfl,last,ofs,rfl,a,b,c,d⟩; dsimp only; have l1:hint+1 - min ofs (hint+1)≤hint - last:=by omega
   have l2:hint - last≤n:=by omega
   have hl:∀i,i<hint+1 - min ofs (hint+1)→rkA r xs (base+i)<r key:=fun i hi=>by
    rcases d with d | ⟨d1,d2⟩
    ·omega
    ·exact cA (asc.le (by omega) (by omega)) d2
   have hg:∀i,hint - last≤i→i<n→r key<rkA r xs (base+i):=fun i h1 h2=>aU c (asc.le (by omega) h2)
   refine wpS_bind (wpS_mono (wpS_forRange (I:=fun x c st''=>st''=st'∧∃lo hi,c=(none,lo,hi)∧lo≤hi∧hi≤n∧hi - lo≤n - x∧(∀i,i<lo→rkA r xs (base+i)<r key)∧(∀i,hi≤i→i<n→r key<rkA r xs (base+i)))
    (Q:=fun c st''=>st''=st'∧∃k,c=(none,k,k)∧k≤n∧(∀i,i<k→rkA r xs (base+i)<r key)∧(∀i,k≤i→i<n→r key<rkA r xs (base+i))) ?step ?fin ⟨rfl,_,_,rfl,l1,l2,by omega,hl,hg⟩) ?post)
   case post=>rintro c st'' ⟨rfl,k,rfl,a,b,c⟩; exact wpS_pure (h k a b c)
   case fin=>
    rintro c st'' ⟨rfl,lo,hi,rfl,a,b,c,d,e⟩; have:lo=hi:=by omega
    subst this; exact ⟨rfl,lo,rfl,b,d,e⟩
   case step=>
    rintro x c st'' _ hxn ⟨rfl,lo,hi,rfl,a,b,c,d,e⟩; dsimp only
    by_cases q:lo≥hi
    ·rw [if_pos q]; have:lo=hi:=by omega
     subst this; exact wpS_pure ⟨rfl,lo,rfl,b,d,e⟩
    ·rw [if_neg q]; refine wpS_bind (qM K hk mx mk (by omega) (ne _ (by omega)) ?_)
     by_cases z:rkA r xs (base+(lo+(hi - lo) / 2))<r key
     ·simp only [z,decide_true,if_true]; refine wpS_pure ⟨rfl,lo+(hi - lo) / 2+1,hi,rfl,by omega,b,by omega,fun i hi'=> ?_,e⟩; exact cA (asc.le (by omega) (by omega)) z
     ·simp only [z,decide_false,bY,if_false]; have z':=ne (lo+(hi - lo) / 2) (by omega); refine wpS_pure ⟨rfl,lo,lo+(hi - lo) / 2,rfl,by omega,by omega,by omega,d,fun i h1 h2=> ?_⟩; exact aU (by omega) (asc.le h1 h2)
end
structure MS (r:Keyed→Nat) (a b:Array Keyed) (out:List Keyed) (ia ib:Nat):Prop where
 ha:ia≤a.size
 hb:ib≤b.size
 perm:out.Perm (a.toList.take ia++b.toList.take ib)
 asc:(out.map r).Pairwise (·<·)
 la:∀x∈out,∀i,ia≤i→i<a.size→r x<rkA r a i
 lb:∀x∈out,∀i,ib≤i→i<b.size→r x<rkA r b i
noncomputable def MD (r:Keyed→Nat) (a b:Array Keyed) (out:List Keyed):Prop:=out.Perm (a.toList++b.toList)∧(out.map r).Pairwise (·<·)
section
variable {r:Keyed→Nat} {a b:Array Keyed} {out:List Keyed} {ia ib:Nat}
theorem MS.swap (m:MS r a b out ia ib):MS r b a out ib ia:=⟨m.hb,m.ha,m.perm.trans iO,m.asc,m.lb,m.la⟩
theorem MS.pushA (m:MS r a b out ia ib) (h:ia<a.size) (asa:AscR r a 0 a.size) (hb:∀j,ib≤j→j<b.size→rkA r a ia<rkA r b j):MS r a b (out++[a[ia]]) (ia+1) ib:=by
 refine ⟨h,m.hb, ?_, ?_,fun x hx i h1 h2=> ?_,fun x hx i h1 h2=> ?_⟩
 ·have e:a.toList.take (ia+1)=a.toList.take ia++[a[ia]]:=by rw [eQ]; simp [h]
  rw [e,eD]; refine (m.perm.append_right _).trans ?_; rw [eD]; exact List.Perm.append_left _ iO
 ·rw [bF,kQ]; refine ⟨m.asc,jT _ _,fun x hx y hy=> ?_⟩; obtain ⟨z,hz,rfl⟩:=aQ.mp hx; have:y=r a[ia]:=by simpa using hy
  rw [this,← dX (r:=r) h]; exact m.la z hz ia (aM _) h
 ·rcases bE.mp hx with hx | hx
  ·exact m.la x hx i (by omega) h2
  ·rw [aI.mp hx,← dX (r:=r) h]; exact asa ia i (cD _) (by omega) h2
 ·rcases bE.mp hx with hx | hx
  ·exact m.lb x hx i h1 h2
  ·rw [aI.mp hx,← dX (r:=r) h]; exact hb i h1 h2
theorem MS.pushB (m:MS r a b out ia ib) (h:ib<b.size) (asb:AscR r b 0 b.size) (hb:∀j,ia≤j→j<a.size→rkA r b ib<rkA r a j):MS r a b (out++[b[ib]]) ia (ib+1):=(m.swap.pushA h asb hb).swap
theorem ext_succ {k:Nat} (h:ia+k<a.size):(a.extract ia (ia+(k+1))).toList=(a.extract ia (ia+k)).toList++[a[ia+k]]:=by simp only [dP,cR]; rw [show ia+(k+1) - ia=k+1 by omega,show ia+k - ia=k by omega,eQ]; simp [h]
theorem ext_zero (i:Nat):(a.extract i (i+0)).toList=[]:=by simp [dP,cR]
theorem MS.extA (asa:AscR r a 0 a.size) (m:MS r a b out ia ib):∀k,ia+k≤a.size→(∀i,i<k→∀j,ib≤j→j<b.size→rkA r a (ia+i)<rkA r b j)→MS r a b (out++(a.extract ia (ia+k)).toList) (ia+k) ib
 | 0,_,_=>by rw [ext_zero,cZ]; exact m
 | k+1,h,hb=>by
  have ih:=MS.extA asa m k (by omega) fun i hi=>hb i (by omega)
  rw [ext_succ (by omega),← eD]; exact ih.pushA (by omega) asa (hb k (by omega))
theorem MS.extB (asb:AscR r b 0 b.size) (m:MS r a b out ia ib) (k:Nat) (h:ib+k≤b.size) (hb:∀i,i<k→∀j,ia≤j→j<a.size→rkA r b (ib+i)<rkA r a j):MS r a b (out++(b.extract ib (ib+k)).toList) ia (ib+k):=(m.swap.extA asb k h hb).swap
theorem MS.done (m:MS r a b out a.size b.size):MD r a b out:=by refine ⟨?_,m.asc⟩; have:=m.perm; rw [fE (by simp),fE (by simp)] at this; exact this
theorem MS.finA (m:MS r a b out ia b.size) (asa:AscR r a 0 a.size):MD r a b (out++(a.extract ia a.size).toList):=by
 have h:=m.ha; have:=m.extA asa (a.size - ia) (by omega) fun i hi j h1 h2=>by omega
 rw [show ia+(a.size - ia)=a.size by omega] at this; exact this.done
theorem MS.finL (m:MS r a b out ia ib) (asa:AscR r a 0 a.size) (asb:AscR r b 0 b.size) (h1:ia+1=a.size) (hab:∀j,j<b.size→rkA r b j<rkA r a (a.size - 1)):MD r a b (out++(b.extract ib b.size).toList++(a.extract ia a.size).toList):=by
 have h:=m.hb
 have:=m.extB asb (b.size - ib) (by omega) fun i hi j h1 h2=>by
  have e:j=a.size - 1:=by omega
  rw [e]; exact hab _ (by omega)
 rw [show ib+(b.size - ib)=b.size by omega] at this; exact this.finA asa
theorem ext_all (i:Nat) (h:a.size≤i):(a.extract i a.size).toList=[]:=by
 rw [dP,cR]; have:a.size - i=0:=by omega
 rw [this]; rfl
end
noncomputable def setG (st:SortSt) (g:Nat):SortSt:=SortSt.mk' (kindOf st) (arrOf st) (pendingOf st) g (failedOf st)
noncomputable def jC:Nat→StateT SortSt Sem Unit:=sortPriv%PySem.Builtin.setMinGallop
theorem iR (g:Nat):jC g=modify fun s=>setG s g:=rfl
noncomputable def vQ:Array Keyed→Array Keyed→StateT SortSt Sem (Array Keyed):=sortPriv%PySem.Builtin.mergeLo
structure SameG (st st':SortSt):Prop where
 kind:kindOf st'=kindOf st
 arr:arrOf st'=arrOf st
 pend:pendingOf st'=pendingOf st
 failed:failedOf st'=failedOf st
theorem SameG.refl (st:SortSt):SameG st st:=⟨rfl,rfl,rfl,rfl⟩
theorem SameG.set {st st':SortSt} (h:SameG st st') (g:Nat):SameG st (setG st' g):=⟨h.kind,h.arr,h.pend,h.failed⟩
structure MPre (r:Keyed→Nat) (a₀ a b:Array Keyed):Prop where
 a1:1≤a.size
 b1:1≤b.size
 asa:AscR r a 0 a.size
 asb:AscR r b 0 b.size
 ma:∀x∈a.toList,x∈a₀.toList
 mb:∀x∈b.toList,x∈a₀.toList
 ne:∀i j,i<a.size→j<b.size→rkA r a i≠rkA r b j
 first:rkA r b 0<rkA r a 0
 last:rkA r b (b.size - 1)<rkA r a (a.size - 1)
theorem AscR.le0 {r:Keyed→Nat} {xs:Array Keyed} {n i j:Nat} (a:AscR r xs 0 n) (hij:i≤j) (hj:j<n):rkA r xs i≤rkA r xs j:=by
 by_cases e:i=j
 ·rw [e]; exact aM _
 ·exact dW (a _ _ (by omega) (by omega) (by omega))
noncomputable abbrev SM:=StateT SortSt Sem
noncomputable abbrev ML1:=Option (Array Keyed) × Array Keyed × Nat × Nat × Nat × Nat
noncomputable abbrev ML2:=Option (Array Keyed) × Array Keyed × Nat × Nat × Nat × Nat × Nat
noncomputable abbrev ML0:=Option (Array Keyed) × Array Keyed × Nat × Nat × Nat
noncomputable def dnA (a b out:Array Keyed) (ia ib:Nat):Array Keyed:=out++a.extract ia a.size++b.extract ib b.size
noncomputable def lsA (a b out:Array Keyed) (ia ib:Nat):Array Keyed:=out++b.extract ib b.size++a.extract ia a.size
noncomputable def lo1 (a b:Array Keyed) (mg:Nat) (c:ML1):SM (ForInStep ML1):=do
 let y ← elem' b c.2.2.2.1
 let x ← elem' a c.2.2.1
 let q ← lt' y x
 match q with
 | some bw=>
  if bw=true then do
   let y ← elem' b c.2.2.2.1
   if (c.2.2.2.1+1==b.size)=true then pure (.done (some (dnA a b (c.2.1.push y) c.2.2.1 (c.2.2.2.1+1)),c.2.1.push y,c.2.2.1,c.2.2.2.1+1,0,c.2.2.2.2.2+1))
   else if c.2.2.2.2.2+1≥mg then pure (.done (none,c.2.1.push y,c.2.2.1,c.2.2.2.1+1,0,c.2.2.2.2.2+1))
   else pure (.yield (none,c.2.1.push y,c.2.2.1,c.2.2.2.1+1,0,c.2.2.2.2.2+1))
  else do
   let x ← elem' a c.2.2.1
   if (c.2.2.1+1+1==a.size)=true then pure (.done (some (lsA a b (c.2.1.push x) (c.2.2.1+1) c.2.2.2.1),c.2.1.push x,c.2.2.1+1,c.2.2.2.1,c.2.2.2.2.1+1,0))
   else if c.2.2.2.2.1+1≥mg then pure (.done (none,c.2.1.push x,c.2.2.1+1,c.2.2.2.1,c.2.2.2.2.1+1,0))
   else pure (.yield (none,c.2.1.push x,c.2.2.1+1,c.2.2.2.1,c.2.2.2.2.1+1,0))
 | _=>pure (.done (some (dnA a b c.2.1 c.2.2.1 c.2.2.2.1),c.2.1,c.2.2.1,c.2.2.2.1,c.2.2.2.2.1,c.2.2.2.2.2))
noncomputable def lo2c (a b out:Array Keyed) (ia ib mg k k1:Nat):SM (ForInStep ML2):=do
 let x ← elem' a ia
 if (ia+1+1==a.size)=true then pure (.done (some (lsA a b (out.push x) (ia+1) ib),out.push x,ia+1,ib,mg,k,k1))
 else if (decide (k<7) && decide (k1<7))=true then pure (.done (none,out.push x,ia+1,ib,mg,k,k1))
 else pure (.yield (none,out.push x,ia+1,ib,mg,k,k1))
noncomputable def lo2b (a b out:Array Keyed) (ia ib mg k bc:Nat):SM (ForInStep ML2):=do
 let y ← elem' b ib
 if (ib+1==b.size)=true then pure (.done (some (dnA a b (out.push y) ia (ib+1)),out.push y,ia,ib+1,mg,k,bc))
 else do
  let x ← elem' a ia
  let q ← lW true x b (ib+1) (b.size - (ib+1)) 0
  match q with
  | some k1=>
   if k1>0 then
    if (ib+1+k1==b.size)=true then pure (.done (some (dnA a b (out.push y++b.extract (ib+1) (ib+1+k1)) ia (ib+1+k1)),out.push y++b.extract (ib+1) (ib+1+k1),ia,ib+1+k1,mg,k,k1))
    else lo2c a b (out.push y++b.extract (ib+1) (ib+1+k1)) ia (ib+1+k1) mg k k1
   else lo2c a b (out.push y) ia (ib+1) mg k k1
  | _=>pure (.done (some (dnA a b (out.push y) ia (ib+1)),out.push y,ia,ib+1,mg,k,bc))
noncomputable def lo2a (a b out:Array Keyed) (ia ib mg ac bc:Nat):SM (ForInStep ML2):=do
 jC mg
 let y ← elem' b ib
 let q ← lW false y a ia (a.size - ia) 0
 match q with
 | some k=>
  if k>0 then
   if (ia+k+1==a.size)=true then pure (.done (some (lsA a b (out++a.extract ia (ia+k)) (ia+k) ib),out++a.extract ia (ia+k),ia+k,ib,mg,k,bc))
   else if (ia+k==a.size)=true then pure (.done (some (dnA a b (out++a.extract ia (ia+k)) (ia+k) ib),out++a.extract ia (ia+k),ia+k,ib,mg,k,bc))
   else lo2b a b (out++a.extract ia (ia+k)) (ia+k) ib mg k bc
  else lo2b a b out ia ib mg k bc
 | _=>pure (.done (some (dnA a b out ia ib),out,ia,ib,mg,ac,bc))
noncomputable def lo2 (a b:Array Keyed) (c:ML2):SM (ForInStep ML2):=
 if c.2.2.2.2.1>1 then lo2a a b c.2.1 c.2.2.1 c.2.2.2.1 (c.2.2.2.2.1 - 1) c.2.2.2.2.2.1 c.2.2.2.2.2.2
 else lo2a a b c.2.1 c.2.2.1 c.2.2.2.1 c.2.2.2.2.1 c.2.2.2.2.2.1 c.2.2.2.2.2.2
noncomputable def lo0 (a b:Array Keyed) (c:ML0):SM (ForInStep ML0):=do
 let d ← forIn [:a.size+b.size] ((none,c.2.1,c.2.2.1,c.2.2.2.1,0,0):ML1) fun _ d=>lo1 a b c.2.2.2.2 d
 match d.1 with
 | some r=>pure (.done (some r,d.2.1,d.2.2.1,d.2.2.2.1,c.2.2.2.2))
 | none=>do
  liftM (rule "list.sort.gallop")
  let e ← forIn [:a.size+b.size] ((none,d.2.1,d.2.2.1,d.2.2.2.1,c.2.2.2.2+1,d.2.2.2.2.1,d.2.2.2.2.2):ML2) fun _ e=>lo2 a b e
  match e.1 with
  | some r=>pure (.done (some r,e.2.1,e.2.2.1,e.2.2.2.1,e.2.2.2.2.1))
  | none=>do
   jC (e.2.2.2.2.1+1)
   pure (.yield (none,e.2.1,e.2.2.1,e.2.2.2.1,e.2.2.2.2.1+1))
noncomputable def loM (a b:Array Keyed):SM (Array Keyed):=do
 liftM (rule "list.sort.merge-lo")
 let y ← elem' b 0
 if (1==b.size)=true then pure (dnA a b #[y] 0 1)
 else if (0+1==a.size)=true then pure (lsA a b #[y] 0 1)
 else do
  let g ← get
  let c ← forIn [:a.size+b.size] ((none, #[y],0,1,gallopOf g):ML0) fun _ c=>lo0 a b c
  match c.1 with
  | some r=>pure r
  | none=>liftM (unsupported "internal:list.sort.merge-bound":Sem (Array Keyed))
theorem loM_eq (a b:Array Keyed):vQ a b=loM a b:=by kernel_rfl
noncomputable def FIN (r:Keyed→Nat) (a b:Array Keyed) (o:Option (Array Keyed)):Prop:=∃res,o=some res∧MD r a b res.toList
noncomputable def OKm (r:Keyed→Nat) (a b:Array Keyed) (N:Nat) (o:Option (Array Keyed)) (out:Array Keyed) (ia ib:Nat):Prop:=o=none∧MS r a b out.toList ia ib∧ia+1<a.size∧ib<b.size∧N≤ia+ib
theorem OKm.mono {r:Keyed→Nat} {a b:Array Keyed} {N N':Nat} {o:Option (Array Keyed)} {out:Array Keyed} {ia ib:Nat} (h:OKm r a b N o out ia ib) (le:N'≤N):OKm r a b N' o out ia ib:=⟨h.1,h.2.1,h.2.2.1,h.2.2.2.1,cE le h.2.2.2.2⟩
section
variable {prog:Program} {w:World} {A:Around} {E:Value→Shared→Prop} {s:Shared} {κ:SortKind} {r:Keyed→Nat} {a₀ a b out:Array Keyed} {st st0:SortSt} {ia ib:Nat}
theorem MPre.last' (M:MPre r a₀ a b):∀j,j<b.size→rkA r b j<rkA r a (a.size - 1):=fun j hj=>cA (M.asb.le0 (by omega) (by omega)) M.last
theorem zT (M:MPre r a₀ a b) (m:MS r a b out.toList ia ib) (h:ib=b.size):FIN r a b (some (dnA a b out ia ib)):=by subst h; refine ⟨_,rfl, ?_⟩; have:=m.finA M.asa; unfold dnA; rw [cV,cV,ext_all _ (aM _),cZ]; exact this
theorem yP (M:MPre r a₀ a b) (m:MS r a b out.toList ia ib) (h:ia+1=a.size):FIN r a b (some (lsA a b out ia ib)):=by refine ⟨_,rfl, ?_⟩; have:=m.finL M.asa M.asb h M.last'; unfold lsA; rw [cV,cV]; exact this
theorem MS.pushA' (M:MPre r a₀ a b) (m:MS r a b out.toList ia ib) (h:ia<a.size) (hb:∀j,ib≤j→j<b.size→rkA r a ia<rkA r b j):MS r a b (out.push a[ia]).toList (ia+1) ib:=by rw [jX]; exact m.pushA h M.asa hb
theorem MS.pushB' (M:MPre r a₀ a b) (m:MS r a b out.toList ia ib) (h:ib<b.size) (hb:∀j,ia≤j→j<a.size→rkA r b ib<rkA r a j):MS r a b (out.push b[ib]).toList ia (ib+1):=by rw [jX]; exact m.pushB h M.asb hb
theorem MS.extA' (M:MPre r a₀ a b) (m:MS r a b out.toList ia ib) {k:Nat} (h:ia+k≤a.size) (hb:∀i,i<k→∀j,ib≤j→j<b.size→rkA r a (ia+i)<rkA r b j):MS r a b (out++a.extract ia (ia+k)).toList (ia+k) ib:=by rw [cV]; exact m.extA M.asa k h hb
theorem MS.extB' (M:MPre r a₀ a b) (m:MS r a b out.toList ia ib) {k:Nat} (h:ib+k≤b.size) (hb:∀i,i<k→∀j,ia≤j→j<a.size→rkA r b (ib+i)<rkA r a j):MS r a b (out++b.extract ib (ib+k)).toList ia (ib+k):=by rw [cV]; exact m.extB M.asb k h hb
noncomputable def P2 (r:Keyed→Nat) (a b:Array Keyed) (st0:SortSt) (N:Nat):ForInStep ML2→SortSt→Prop:=fun q st'=>SameG st0 st'∧match q with
 | .done c=>FIN r a b c.1∨OKm r a b N c.1 c.2.1 c.2.2.1 c.2.2.2.1
 | .yield c=>OKm r a b N c.1 c.2.1 c.2.2.1 c.2.2.2.1
theorem lo2c_ok {N mg k k1:Nat} (M:MPre r a₀ a b) (S:SameG st0 st) (m:MS r a b out.toList ia ib) (h1:ia+1<a.size) (h2:ib<b.size) (hN:N≤ia+1+ib) (hb:∀j,ib≤j→j<b.size→rkA r a ia<rkA r b j):wpS (model prog w) A E s (lo2c a b out ia ib mg k k1) (P2 r a b st0 N) st:=by
 unfold lo2c; refine wpS_bind (eE (by omega) ?_); have m2:=m.pushA' M (by omega) hb
 by_cases e:ia+1+1=a.size
 ·rw [if_pos (by simpa using e)]; exact wpS_pure ⟨S, .inl (yP M m2 e)⟩
 ·rw [if_neg (by simpa using e)]
  split
  ·exact wpS_pure ⟨S, .inr ⟨rfl,m2,by show ia+1+1<_; omega,h2,hN⟩⟩
  ·exact wpS_pure ⟨S,rfl,m2,by show ia+1+1<_; omega,h2,hN⟩
theorem lo2b_ok {N mg k bc:Nat} (K:kX prog w A E s κ r a₀) (hk:kindOf st0=κ) (M:MPre r a₀ a b) (S:SameG st0 st) (m:MS r a b out.toList ia ib) (h1:ia+1<a.size) (h2:ib<b.size) (hN:N≤ia+1+ib) (hb:∀j,ia≤j→j<a.size→rkA r b ib<rkA r a j):wpS (model prog w) A E s (lo2b a b out ia ib mg k bc) (P2 r a b st0 N) st:=by
 unfold lo2b; refine wpS_bind (eE (by omega) ?_); have m2:=m.pushB' M h2 hb
 by_cases e:ib+1=b.size
 ·rw [if_pos (by simpa using e)]; exact wpS_pure ⟨S, .inl (zT M m2 e)⟩
 ·rw [if_neg (by simpa using e)]; have h1':ia<a.size:=by omega
  refine wpS_bind (eE h1' (wpS_bind (oV K (S.kind.trans hk) M.mb (M.ma _ (by simp)) (by omega) (by omega) (fun i j h1 h2 h3=>M.asb i j (by omega) h2 (by omega)) (fun i hi e=>M.ne ia (ib+1+i) h1' (by omega) (by rw [e,dX h1'])) fun k1 c1 c2 c3=> ?_))); dsimp only; rw [← dX (r:=r) h1'] at c2 c3; have m3:=m2.extB' M (k:=k1) (by omega) fun i hi j j1 j2=>aU (c2 i hi) (M.asa.le0 j1 j2)
  have c3':∀j,ib+1+k1≤j→j<b.size→rkA r a ia<rkA r b j:=fun j j1 j2=>by
   have:=c3 (j - (ib+1)) (by omega) (by omega)
   rwa [show ib+1+(j - (ib+1))=j by omega] at this
  by_cases z:k1>0
  ·rw [if_pos z]
   by_cases y:ib+1+k1=b.size
   ·rw [if_pos (by simpa using y)]; exact wpS_pure ⟨S, .inl (zT M m3 y)⟩
   ·rw [if_neg (by simpa using y)]; exact lo2c_ok M S m3 h1 (by omega) (by omega) c3'
  ·rw [if_neg z]; have z0:k1=0:=by omega
   subst z0; exact lo2c_ok M S m2 h1 (by omega) (by omega) c3'
theorem lo2a_ok {N mg ac bc:Nat} (K:kX prog w A E s κ r a₀) (hk:kindOf st0=κ) (M:MPre r a₀ a b) (S:SameG st0 st) (m:MS r a b out.toList ia ib) (h1:ia+1<a.size) (h2:ib<b.size) (hN:N≤ia+1+ib):wpS (model prog w) A E s (lo2a a b out ia ib mg ac bc) (P2 r a b st0 N) st:=by
 unfold lo2a; rw [iR]; refine wpS_bind (wpS_modify ?_); have S:=S.set mg; refine wpS_bind (eE h2 (wpS_bind (oV K (S.kind.trans hk) M.ma (M.mb _ (by simp)) (by omega) (by omega) (fun i j h1 h2 h3=>M.asa i j (by omega) h2 (by omega)) (fun i hi e=>M.ne (ia+i) ib (by omega) h2 (by rw [e,dX h2])) fun k c1 c2 c3=> ?_))); dsimp only; rw [← dX (r:=r) h2] at c2 c3; have m3:=m.extA' M (k:=k) (by omega) fun i hi j j1 j2=>aU (c2 i hi) (M.asb.le0 j1 j2)
 have c3':∀j,ia+k≤j→j<a.size→rkA r b ib<rkA r a j:=fun j j1 j2=>by
  have:=c3 (j - ia) (by omega) (by omega)
  rwa [show ia+(j - ia)=j by omega] at this
 have kl:ia+k<a.size:=by
  by_cases q:ia+k<a.size
  ·exact q
  ·have:=c2 (a.size - 1 - ia) (by omega); rw [show ia+(a.size - 1 - ia)=a.size - 1 by omega] at this; have:=M.last' ib h2; omega
 by_cases z:k>0
 ·rw [if_pos z]
  by_cases y:ia+k+1=a.size
  ·rw [if_pos (by simpa using y)]; exact wpS_pure ⟨S, .inl (yP M m3 y)⟩
  ·rw [if_neg (by simpa using y),if_neg (by simp; omega)]; exact lo2b_ok K hk M S m3 (by omega) h2 (by omega) c3'
 ·rw [if_neg z]; have z0:k=0:=by omega
  subst z0; exact lo2b_ok K hk M S m (by omega) h2 (by omega) c3'
noncomputable def P1 (r:Keyed→Nat) (a b:Array Keyed) (st:SortSt) (N:Nat):ForInStep ML1→SortSt→Prop:=fun q st'=>st'=st∧match q with
 | .done c=>FIN r a b c.1∨OKm r a b N c.1 c.2.1 c.2.2.1 c.2.2.2.1
 | .yield c=>OKm r a b N c.1 c.2.1 c.2.2.1 c.2.2.2.1
theorem lo1_ok {N mg:Nat} {c:ML1} (K:kX prog w A E s κ r a₀) (hk:kindOf st=κ) (M:MPre r a₀ a b) (h:OKm r a b N c.1 c.2.1 c.2.2.1 c.2.2.2.1):wpS (model prog w) A E s (lo1 a b mg c) (P1 r a b st (N+1)) st:=by
 obtain ⟨o,out,ia,ib,ac,bc⟩:=c; obtain ⟨h0,m,h1,h2,hN⟩:=h; dsimp only at h0 m h1 h2 hN; unfold lo1; dsimp only; have h1':ia<a.size:=by omega
 refine wpS_bind (eE h2 (wpS_bind (eE h1' (wpS_bind (K.ask (M.mb _ (by simp)) (M.ma _ (by simp)) hk ?_))))); dsimp only
 by_cases q:r b[ib]<r a[ia]
 ·rw [if_pos (by simpa using q)]; refine wpS_bind (eE h2 ?_); have q':rkA r b ib<rkA r a ia:=by rw [dX h2,dX h1']; exact q
  have m2:=m.pushB' M h2 fun j j1 j2=>aU q' (M.asa.le0 j1 j2)
  by_cases e:ib+1=b.size
  ·rw [if_pos (by simpa using e)]; exact wpS_pure ⟨rfl, .inl (zT M m2 e)⟩
  ·rw [if_neg (by simpa using e)]
   split
   ·exact wpS_pure ⟨rfl, .inr ⟨rfl,m2,h1,by show ib+1<_; omega,by show _≤ia+(ib+1); omega⟩⟩
   ·exact wpS_pure ⟨rfl,rfl,m2,h1,by show ib+1<_; omega,by show _≤ia+(ib+1); omega⟩
 ·rw [if_neg (by simpa using q)]; refine wpS_bind (eE h1' ?_)
  have q':rkA r a ia<rkA r b ib:=by have:=M.ne ia ib h1' h2; rw [dX h1',dX h2] at this ⊢; omega
  have m2:=m.pushA' M h1' fun j j1 j2=>aU q' (M.asb.le0 j1 j2)
  by_cases e:ia+1+1=a.size
  ·rw [if_pos (by simpa using e)]; exact wpS_pure ⟨rfl, .inl (yP M m2 e)⟩
  ·rw [if_neg (by simpa using e)]
   split
   ·exact wpS_pure ⟨rfl, .inr ⟨rfl,m2,by show ia+1+1<_; omega,h2,by show _≤ia+1+ib; omega⟩⟩
   ·exact wpS_pure ⟨rfl,rfl,m2,by show ia+1+1<_; omega,h2,by show _≤ia+1+ib; omega⟩
noncomputable def P0 (r:Keyed→Nat) (a b:Array Keyed) (st0:SortSt) (N:Nat):ForInStep ML0→SortSt→Prop:=fun q st'=>SameG st0 st'∧match q with
 | .done c=>FIN r a b c.1
 | .yield c=>OKm r a b N c.1 c.2.1 c.2.2.1 c.2.2.2.1
theorem lo0_ok {N:Nat} {c:ML0} (K:kX prog w A E s κ r a₀) (hk:kindOf st0=κ) (M:MPre r a₀ a b) (S:SameG st0 st) (h:OKm r a b N c.1 c.2.1 c.2.2.1 c.2.2.2.1):wpS (model prog w) A E s (lo0 a b c) (P0 r a b st0 (N+1)) st:=by
 obtain ⟨o,out,ia,ib,mg⟩:=c; obtain ⟨h0,m,h1,h2,hN⟩:=h; dsimp only at h0 m h1 h2 hN; unfold lo0; dsimp only; refine wpS_bind (wpS_mono (wpS_forRange (I:=fun x d st'=>st'=st∧OKm r a b (N+x) d.1 d.2.1 d.2.2.1 d.2.2.2.1) (Q:=fun d st'=>st'=st∧(FIN r a b d.1∨OKm r a b (N+1) d.1 d.2.1 d.2.2.1 d.2.2.2.1)) ?step ?fin ⟨rfl,rfl,m,h1,h2,hN⟩) ?post)
 case step=>
  rintro x d st' _ hx ⟨rfl,hd⟩; refine wpS_mono (lo1_ok K (S.kind.trans hk) M hd) fun q st'' hq=> ?_
  obtain ⟨rfl,hq⟩:=hq; cases q with
  | done d=>exact ⟨rfl,hq.imp id fun z=>z.mono (by omega)⟩
  | yield d=>exact ⟨rfl,hq⟩
 case fin=>rintro d st' ⟨rfl,_,_,h3,h4,h5⟩; omega
 case post=>
  rintro d st' ⟨rfl,hd⟩; obtain ⟨o1,out,ia,ib,ac,bc⟩:=d
  rcases hd with ⟨res,e,hres⟩ | ⟨e,m,h1,h2,hN⟩
  ·dsimp only at e; subst e; exact wpS_pure ⟨S,res,rfl,hres⟩
  ·dsimp only at e m h1 h2 hN; subst e; dsimp only; refine wpS_bind (wpS_lift (wpAny_rule ⟨rfl, ?_⟩)); refine wpS_bind (wpS_mono (wpS_forRange (I:=fun x d st'=>SameG st0 st'∧OKm r a b (N+1+x) d.1 d.2.1 d.2.2.1 d.2.2.2.1) (Q:=fun d st'=>SameG st0 st'∧(FIN r a b d.1∨OKm r a b (N+1) d.1 d.2.1 d.2.2.1 d.2.2.2.1)) ?step2 ?fin2 ⟨S,rfl,m,h1,h2,hN⟩) ?post2)
   case step2=>
    rintro x ⟨o2,out,ia,ib,mg,ac,bc⟩ st' _ hx ⟨S,_,m,h1,h2,hN⟩; dsimp only at m h1 h2 hN; have key:∀mg,wpS (model prog w) A E s (lo2a a b out ia ib mg ac bc) (P2 r a b st0 (N+1+(x+1))) st':=fun mg=>lo2a_ok K hk M S m h1 h2 (by omega)
    unfold lo2; dsimp only
    split<;>
    ·refine wpS_mono (key _) fun q st'' hq=> ?_
     obtain ⟨S',hq⟩:=hq; cases q with
     | done d=>exact ⟨S',hq.imp id fun z=>z.mono (by omega)⟩
     | yield d=>exact ⟨S',hq⟩
   case fin2=>rintro d st' ⟨_,_,_,h3,h4,h5⟩; omega
   case post2=>
    rintro ⟨o2,out,ia,ib,mg,ac,bc⟩ st' ⟨S,hd⟩
    rcases hd with ⟨res,e,hres⟩ | ⟨e,m,h1,h2,hN⟩
    ·dsimp only at e; subst e; exact wpS_pure ⟨S,res,rfl,hres⟩
    ·dsimp only at e m h1 h2 hN; subst e; dsimp only; rw [iR]; exact wpS_bind (wpS_modify (wpS_pure ⟨S.set _,rfl,m,h1,h2,hN⟩))
theorem wpS_mergeLo {Q:Array Keyed→SortSt→Prop} (K:kX prog w A E s κ r a₀) (hk:kindOf st=κ) (M:MPre r a₀ a b)
  (h:∀out st',MD r a b out.toList→SameG st st'→Q out st'):wpS (model prog w) A E s (vQ a b) Q st:=by
 rw [loM_eq]; unfold loM; refine wpS_bind (wpS_lift (wpAny_rule ⟨rfl, ?_⟩)); have b1:=M.b1; have a1:=M.a1; refine wpS_bind (eE (by omega) ?_); have m0:MS r a b (#[]:Array Keyed).toList 0 0:=⟨by omega,by omega,by simp,by simp,fun x hx=>by simp at hx,fun x hx=>by simp at hx⟩; have m:MS r a b (#[b[0]]:Array Keyed).toList 0 1:=m0.pushB' M (by omega) fun j j1 j2=>aU M.first (M.asa.le0 j1 j2)
 by_cases e:1=b.size
 ·rw [if_pos (by simpa using e)]; obtain ⟨res,e2,hr⟩:=zT M m e; cases e2; exact wpS_pure (h _ _ hr (.refl _))
 ·rw [if_neg (by simpa using e)]
  by_cases e1:0+1=a.size
  ·rw [if_pos (by simpa using e1)]; obtain ⟨res,e2,hr⟩:=yP M m e1; cases e2; exact wpS_pure (h _ _ hr (.refl _))
  ·rw [if_neg (by simpa using e1)]; refine wpS_bind (wpS_get (wpS_bind (wpS_mono (wpS_forRange (I:=fun x d st'=>SameG st st'∧OKm r a b (x+1) d.1 d.2.1 d.2.2.1 d.2.2.2.1) (Q:=fun d st'=>SameG st st'∧FIN r a b d.1) ?step ?fin ⟨.refl _,rfl,m,by show 0+1<_; omega,by show 1<_; omega,aM _⟩) ?post)))
   case step=>
    rintro x d st' _ hx ⟨S,hd⟩; refine wpS_mono (lo0_ok K hk M S hd) fun q st'' hq=> ?_
    obtain ⟨S',hq⟩:=hq; cases q with
    | done d=>exact ⟨S',hq⟩
    | yield d=>exact ⟨S',hq⟩
   case fin=>rintro d st' ⟨_,_,_,h3,h4,h5⟩; omega
   case post=>rintro d st' ⟨S,res,e,hr⟩; rw [e]; exact wpS_pure (h _ _ hr S)
end
structure HS (r:Keyed→Nat) (a b:Array Keyed) (out:List Keyed) (na nb:Nat):Prop where
 ha:na≤a.size
 hb:nb≤b.size
 perm:out.Perm (a.toList.drop na++b.toList.drop nb)
 dsc:(out.map r).Pairwise (fun x y=>y<x)
 la:∀x∈out,∀i,i<na→rkA r a i<r x
 lb:∀x∈out,∀i,i<nb→rkA r b i<r x
section
variable {r:Keyed→Nat} {a b:Array Keyed} {out:List Keyed} {na nb:Nat}
theorem HS.swap (m:HS r a b out na nb):HS r b a out nb na:=⟨m.hb,m.ha,m.perm.trans iO,m.dsc,m.lb,m.la⟩
theorem HS.pushA (m:HS r a b out (na+1) nb) (asa:AscR r a 0 a.size) (hb:∀j,j<nb→rkA r b j<rkA r a na):HS r a b (out++[a[na]'m.ha]) na nb:=by
 have h:na<a.size:=m.ha; refine ⟨dW h,m.hb, ?_, ?_,fun x hx i h1=> ?_,fun x hx i h1=> ?_⟩
 ·have e:a.toList.drop na=a[na]::a.toList.drop (na+1):=by rw [dQ (by simpa using h)]; simp
  rw [e,List.cons_append]; exact (iO).trans (List.Perm.cons _ m.perm)
 ·rw [bF,kQ]; refine ⟨m.dsc,jT _ _,fun x hx y hy=> ?_⟩; obtain ⟨z,hz,rfl⟩:=aQ.mp hx; have:y=r a[na]:=by simpa using hy
  rw [this,← dX (r:=r) h]; exact m.la z hz na (kO _)
 ·rcases bE.mp hx with hx | hx
  ·exact m.la x hx i (by omega)
  ·rw [aI.mp hx,← dX (r:=r) h]; exact asa i na (cD _) h1 h
 ·rcases bE.mp hx with hx | hx
  ·exact m.lb x hx i h1
  ·rw [aI.mp hx,← dX (r:=r) h]; exact hb i h1
theorem exr_succ {k:Nat} (h:k+1≤na) (h2:na≤a.size):(a.extract (na - (k+1)) na).toList.reverse=(a.extract (na - k) na).toList.reverse++[a[na - (k+1)]'(by omega)]:=by
 simp only [dP,cR]
 have e:a.toList.drop (na - (k+1))=a[na - (k+1)]'(by omega)::a.toList.drop (na - k):=by rw [dQ (by simp; omega)]; rw [show na - (k+1)+1=na - k by omega]; simp
 rw [e,show na - (na - (k+1))=(na - (na - k))+1 by omega,List.take_succ_cons,List.reverse_cons]
theorem HS.extA (asa:AscR r a 0 a.size) (m:HS r a b out na nb):∀k,k≤na→(∀i,na - k≤i→i<na→∀j,j<nb→rkA r b j<rkA r a i)→HS r a b (out++(a.extract (na - k) na).toList.reverse) (na - k) nb
 | 0,_,_=>by
  have e:(a.extract (na - 0) na).toList.reverse=[]:=by simp [dP,cR]
  rw [e,cZ]; exact m
 | k+1,h,hb=>by
  have ih:=HS.extA asa m k (by omega) fun i h1 h2=>hb i (by omega) h2
  rw [exr_succ h m.ha,← eD]; have e:na - k=na - (k+1)+1:=by omega
  rw [e] at ih; have:=ih.pushA asa (hb (na - (k+1)) (aM _) (by omega)); rw [show a.extract (na - k) na=a.extract (na - (k+1)+1) na by rw [e]]; exact this
theorem HS.extB (asb:AscR r b 0 b.size) (m:HS r a b out na nb) (k:Nat) (h:k≤nb) (hb:∀i,nb - k≤i→i<nb→∀j,j<na→rkA r a j<rkA r b i):HS r a b (out++(b.extract (nb - k) nb).toList.reverse) na (nb - k):=(m.swap.extA asb k h hb).swap
theorem HS.done (m:HS r a b out 0 0):MD r a b out.reverse:=by
 refine ⟨(List.reverse_perm _).trans ?_, ?_⟩
 ·have:=m.perm; simpa using this
 ·rw [List.map_reverse,List.pairwise_reverse]; exact m.dsc
theorem HS.finB (m:HS r a b out 0 nb) (asb:AscR r b 0 b.size):MD r a b ((b.extract 0 nb).toList++out.reverse):=by
 have:=m.extB asb nb (aM _) fun i h1 h2 j hj=>by omega
 rw [tG] at this; have:=this.done
 rwa [List.reverse_append,List.reverse_reverse] at this
theorem HS.finL (m:HS r a b out na 1) (asa:AscR r a 0 a.size) (asb:AscR r b 0 b.size) (first:∀i,i<a.size→rkA r b 0<rkA r a i):MD r a b ((b.extract 0 1).toList++(a.extract 0 na).toList++out.reverse):=by
 have ha:=m.ha
 have:=m.extA asa na (aM _) fun i h1 h2 j hj=>by
  have:j=0:=by omega
  subst this; exact first i (by omega)
 rw [tG] at this; have:=this.finB asb
 rwa [List.reverse_append,List.reverse_reverse,← eD] at this
end
noncomputable def vB:Array Keyed→Array Keyed→StateT SortSt Sem (Array Keyed):=sortPriv%PySem.Builtin.mergeHi
noncomputable abbrev MH1:=Option (Array Keyed) × Nat × Nat × Array Keyed × Nat × Nat
noncomputable abbrev MH2:=Option (Array Keyed) × Nat × Nat × Array Keyed × Nat × Nat × Nat
noncomputable abbrev MH0:=Option (Array Keyed) × Nat × Nat × Array Keyed × Nat
noncomputable def dnH (a b out:Array Keyed) (na nb:Nat):Array Keyed:=a.extract 0 na++b.extract 0 nb++out.reverse
noncomputable def fsB (a b out:Array Keyed) (na nb:Nat):Array Keyed:=b.extract 0 nb++a.extract 0 na++out.reverse
noncomputable def hi1 (a b:Array Keyed) (mg:Nat) (c:MH1):SM (ForInStep MH1):=do
 let y ← elem' b (c.2.2.1 - 1)
 let x ← elem' a (c.2.1 - 1)
 let q ← lt' y x
 match q with
 | some aw=>
  if aw=true then do
   let x ← elem' a (c.2.1 - 1)
   if (c.2.1 - 1==0)=true then pure (.done (some (dnH a b (c.2.2.2.1.push x) (c.2.1 - 1) c.2.2.1),c.2.1 - 1,c.2.2.1,c.2.2.2.1.push x,c.2.2.2.2.1+1,0))
   else if c.2.2.2.2.1+1≥mg then pure (.done (none,c.2.1 - 1,c.2.2.1,c.2.2.2.1.push x,c.2.2.2.2.1+1,0))
   else pure (.yield (none,c.2.1 - 1,c.2.2.1,c.2.2.2.1.push x,c.2.2.2.2.1+1,0))
  else do
   let y ← elem' b (c.2.2.1 - 1)
   if (c.2.2.1 - 1==1)=true then pure (.done (some (fsB a b (c.2.2.2.1.push y) c.2.1 (c.2.2.1 - 1)),c.2.1,c.2.2.1 - 1,c.2.2.2.1.push y,0,c.2.2.2.2.2+1))
   else if c.2.2.2.2.2+1≥mg then pure (.done (none,c.2.1,c.2.2.1 - 1,c.2.2.2.1.push y,0,c.2.2.2.2.2+1))
   else pure (.yield (none,c.2.1,c.2.2.1 - 1,c.2.2.2.1.push y,0,c.2.2.2.2.2+1))
 | _=>pure (.done (some (dnH a b c.2.2.2.1 c.2.1 c.2.2.1),c.2.1,c.2.2.1,c.2.2.2.1,c.2.2.2.2.1,c.2.2.2.2.2))
noncomputable def hi2c (a b out:Array Keyed) (na nb mg k k1:Nat):SM (ForInStep MH2):=do
 let x ← elem' a (na - 1)
 if (na - 1==0)=true then pure (.done (some (dnH a b (out.push x) (na - 1) nb),na - 1,nb,out.push x,mg,k,k1))
 else if (decide (k<7) && decide (k1<7))=true then pure (.done (none,na - 1,nb,out.push x,mg,k,k1))
 else pure (.yield (none,na - 1,nb,out.push x,mg,k,k1))
noncomputable def hi2b (a b out:Array Keyed) (na nb mg k bc:Nat):SM (ForInStep MH2):=do
 let y ← elem' b (nb - 1)
 if (nb - 1==1)=true then pure (.done (some (fsB a b (out.push y) na (nb - 1)),na,nb - 1,out.push y,mg,k,bc))
 else do
  let x ← elem' a (na - 1)
  let q ← lW true x b 0 (nb - 1) (nb - 1 - 1)
  match q with
  | some at_=>
   if nb - 1 - at_>0 then
    if (at_==1)=true then pure (.done (some (fsB a b (out.push y++(b.extract at_ (nb - 1)).reverse) na at_),na,at_,out.push y++(b.extract at_ (nb - 1)).reverse,mg,k,nb - 1 - at_))
    else if (at_==0)=true then pure (.done (some (dnH a b (out.push y++(b.extract at_ (nb - 1)).reverse) na at_),na,at_,out.push y++(b.extract at_ (nb - 1)).reverse,mg,k,nb - 1 - at_))
    else hi2c a b (out.push y++(b.extract at_ (nb - 1)).reverse) na at_ mg k (nb - 1 - at_)
   else hi2c a b (out.push y) na (nb - 1) mg k (nb - 1 - at_)
  | _=>pure (.done (some (dnH a b (out.push y) na (nb - 1)),na,nb - 1,out.push y,mg,k,bc))
noncomputable def hi2a (a b out:Array Keyed) (na nb mg ac bc:Nat):SM (ForInStep MH2):=do
 jC mg
 let y ← elem' b (nb - 1)
 let q ← lW false y a 0 na (na - 1)
 match q with
 | some at_=>
  if na - at_>0 then
   if (at_==0)=true then pure (.done (some (dnH a b (out++(a.extract at_ na).reverse) at_ nb),at_,nb,out++(a.extract at_ na).reverse,mg,na - at_,bc))
   else hi2b a b (out++(a.extract at_ na).reverse) at_ nb mg (na - at_) bc
  else hi2b a b out na nb mg (na - at_) bc
 | _=>pure (.done (some (dnH a b out na nb),na,nb,out,mg,ac,bc))
noncomputable def hi2 (a b:Array Keyed) (c:MH2):SM (ForInStep MH2):=
 if c.2.2.2.2.1>1 then hi2a a b c.2.2.2.1 c.2.1 c.2.2.1 (c.2.2.2.2.1 - 1) c.2.2.2.2.2.1 c.2.2.2.2.2.2
 else hi2a a b c.2.2.2.1 c.2.1 c.2.2.1 c.2.2.2.2.1 c.2.2.2.2.2.1 c.2.2.2.2.2.2
noncomputable def hi0 (a b:Array Keyed) (c:MH0):SM (ForInStep MH0):=do
 let d ← forIn [:a.size+b.size] ((none,c.2.1,c.2.2.1,c.2.2.2.1,0,0):MH1) fun _ d=>hi1 a b c.2.2.2.2 d
 match d.1 with
 | some r=>pure (.done (some r,d.2.1,d.2.2.1,d.2.2.2.1,c.2.2.2.2))
 | none=>do
  liftM (rule "list.sort.gallop")
  let e ← forIn [:a.size+b.size] ((none,d.2.1,d.2.2.1,d.2.2.2.1,c.2.2.2.2+1,d.2.2.2.2.1,d.2.2.2.2.2):MH2) fun _ e=>hi2 a b e
  match e.1 with
  | some r=>pure (.done (some r,e.2.1,e.2.2.1,e.2.2.2.1,e.2.2.2.2.1))
  | none=>do
   jC (e.2.2.2.2.1+1)
   pure (.yield (none,e.2.1,e.2.2.1,e.2.2.2.1,e.2.2.2.2.1+1))
noncomputable def hiM (a b:Array Keyed):SM (Array Keyed):=do
 liftM (rule "list.sort.merge-hi")
 let x ← elem' a (a.size - 1)
 if (a.size - 1==0)=true then pure (dnH a b #[x] (a.size - 1) b.size)
 else if (b.size==1)=true then pure (fsB a b #[x] (a.size - 1) b.size)
 else do
  let g ← get
  let c ← forIn [:a.size+b.size] ((none,a.size - 1,b.size, #[x],gallopOf g):MH0) fun _ c=>hi0 a b c
  match c.1 with
  | some r=>pure r
  | none=>liftM (unsupported "internal:list.sort.merge-bound":Sem (Array Keyed))
theorem hiM_eq (a b:Array Keyed):vB a b=hiM a b:=by kernel_rfl
noncomputable def OKh (r:Keyed→Nat) (a b:Array Keyed) (N:Nat) (o:Option (Array Keyed)) (out:Array Keyed) (na nb:Nat):Prop:=o=none∧HS r a b out.toList na nb∧1≤na∧2≤nb∧na+nb+N≤a.size+b.size
theorem OKh.mono {r:Keyed→Nat} {a b:Array Keyed} {N N':Nat} {o:Option (Array Keyed)} {out:Array Keyed} {na nb:Nat} (h:OKh r a b N o out na nb) (le:N'≤N):OKh r a b N' o out na nb:=⟨h.1,h.2.1,h.2.2.1,h.2.2.2.1,by have:=h.2.2.2.2; omega⟩
section
variable {prog:Program} {w:World} {A:Around} {E:Value→Shared→Prop} {s:Shared} {κ:SortKind} {r:Keyed→Nat} {a₀ a b out:Array Keyed} {st st0:SortSt} {na nb:Nat}
theorem MPre.first' (M:MPre r a₀ a b):∀i,i<a.size→rkA r b 0<rkA r a i:=fun i hi=>aU M.first (M.asa.le0 (cD _) hi)
theorem ex0 (xs:Array Keyed):(xs.extract 0 0).toList=[]:=by simp [dP,cR]
theorem yH (M:MPre r a₀ a b) (m:HS r a b out.toList na nb) (h:na=0):FIN r a b (some (dnH a b out na nb)):=by subst h; refine ⟨_,rfl, ?_⟩; have:=m.finB M.asb; unfold dnH; rw [cV,cV,ex0,wO,kP]; exact this
theorem yR (M:MPre r a₀ a b) (m:HS r a b out.toList na nb) (h:nb=1):FIN r a b (some (fsB a b out na nb)):=by subst h; refine ⟨_,rfl, ?_⟩; have:=m.finL M.asa M.asb M.first'; unfold fsB; rw [cV,cV,kP]; exact this
theorem HS.pushA' (M:MPre r a₀ a b) (m:HS r a b out.toList na nb) (h1:1≤na) (hb:∀j,j<nb→rkA r b j<rkA r a (na - 1)):HS r a b (out.push (a[na - 1]'(by have:=m.ha; omega))).toList (na - 1) nb:=by
 rw [jX]; have e:na=na - 1+1:=by omega
 have m':HS r a b out.toList (na - 1+1) nb:=by rw [← e]; exact m
 exact m'.pushA M.asa hb
theorem HS.pushB' (M:MPre r a₀ a b) (m:HS r a b out.toList na nb) (h1:1≤nb) (hb:∀j,j<na→rkA r a j<rkA r b (nb - 1)):HS r a b (out.push (b[nb - 1]'(by have:=m.hb; omega))).toList na (nb - 1):=by
 rw [jX]; have e:nb=nb - 1+1:=by omega
 have m':HS r a b out.toList na (nb - 1+1):=by rw [← e]; exact m
 exact (m'.swap.pushA M.asb hb).swap
theorem HS.extA' (M:MPre r a₀ a b) (m:HS r a b out.toList na nb) {t:Nat} (h:t≤na) (hb:∀i,t≤i→i<na→∀j,j<nb→rkA r b j<rkA r a i):HS r a b (out++(a.extract t na).reverse).toList t nb:=by rw [cV,kP]; have:=m.extA M.asa (na - t) (by omega) (by rw [show na - (na - t)=t by omega]; exact hb); rw [show na - (na - t)=t by omega] at this; exact this
theorem HS.extB' (M:MPre r a₀ a b) (m:HS r a b out.toList na nb) {t:Nat} (h:t≤nb) (hb:∀i,t≤i→i<nb→∀j,j<na→rkA r a j<rkA r b i):HS r a b (out++(b.extract t nb).reverse).toList na t:=by rw [cV,kP]; have:=m.extB M.asb (nb - t) (by omega) (by rw [show nb - (nb - t)=t by omega]; exact hb); rw [show nb - (nb - t)=t by omega] at this; exact this
noncomputable def H2 (r:Keyed→Nat) (a b:Array Keyed) (st0:SortSt) (N:Nat):ForInStep MH2→SortSt→Prop:=fun q st'=>SameG st0 st'∧match q with
 | .done c=>FIN r a b c.1∨OKh r a b N c.1 c.2.2.2.1 c.2.1 c.2.2.1
 | .yield c=>OKh r a b N c.1 c.2.2.2.1 c.2.1 c.2.2.1
theorem hi2c_ok {N mg k k1:Nat} (M:MPre r a₀ a b) (S:SameG st0 st) (m:HS r a b out.toList na nb) (h1:1≤na) (h2:2≤nb) (hN:na - 1+nb+N≤a.size+b.size) (hb:∀j,j<nb→rkA r b j<rkA r a (na - 1)):wpS (model prog w) A E s (hi2c a b out na nb mg k k1) (H2 r a b st0 N) st:=by
 unfold hi2c; have ha:=m.ha; refine wpS_bind (eE (by omega) ?_); have m2:=m.pushA' M h1 hb
 by_cases e:na - 1=0
 ·rw [if_pos (by simpa using e)]; exact wpS_pure ⟨S, .inl (yH M m2 e)⟩
 ·rw [if_neg (by simpa using e)]
  split
  ·exact wpS_pure ⟨S, .inr ⟨rfl,m2,by show 1≤na - 1; omega,h2,hN⟩⟩
  ·exact wpS_pure ⟨S,rfl,m2,by show 1≤na - 1; omega,h2,hN⟩
theorem hi2b_ok {N mg k bc:Nat} (K:kX prog w A E s κ r a₀) (hk:kindOf st0=κ) (M:MPre r a₀ a b) (S:SameG st0 st) (m:HS r a b out.toList na nb) (h1:1≤na) (h2:2≤nb) (hN:na - 1+nb+N≤a.size+b.size) (hb:∀j,j<na→rkA r a j<rkA r b (nb - 1)):wpS (model prog w) A E s (hi2b a b out na nb mg k bc) (H2 r a b st0 N) st:=by
 unfold hi2b; have ha:=m.ha; have hbb:=m.hb; refine wpS_bind (eE (by omega) ?_); have m2:=m.pushB' M (by omega) hb
 by_cases e:nb - 1=1
 ·rw [if_pos (by simpa using e)]; exact wpS_pure ⟨S, .inl (yR M m2 e)⟩
 ·rw [if_neg (by simpa using e)]; have h1':na - 1<a.size:=by omega
  refine wpS_bind (eE h1' (wpS_bind (oV K (S.kind.trans hk) M.mb (M.ma _ (by simp)) (by omega) (by omega) (fun i j h1 h2 h3=>M.asb i j (by omega) h2 (by omega)) (fun i hi e=>M.ne (na - 1) i h1' (by omega) (by rw [tH] at e; rw [e,dX h1'])) fun at_ c1 c2 c3=> ?_))); dsimp only; simp only [tH] at c2 c3; rw [← dX (r:=r) h1'] at c2 c3; have m3:=m2.extB' M (t:=at_) c1 fun i i1 i2 j hj=>cA (M.asa.le0 (by omega) h1') (c3 i i1 i2)
  have a0:1≤at_:=by
   by_cases q:at_=0
   ·subst q; have:=c3 0 (aM _) (by omega); have:=M.first' (na - 1) h1'; omega
   ·omega
  by_cases z:nb - 1 - at_>0
  ·rw [if_pos z]
   by_cases y:at_=1
   ·rw [if_pos (by simpa using y)]; exact wpS_pure ⟨S, .inl (yR M m3 y)⟩
   ·rw [if_neg (by simpa using y),if_neg (by simp; omega)]; exact hi2c_ok M S m3 h1 (by omega) (by omega) c2
  ·rw [if_neg z]; have z0:at_=nb - 1:=by omega
   subst z0; exact hi2c_ok M S m2 h1 (by omega) (by omega) c2
theorem hi2a_ok {N mg ac bc:Nat} (K:kX prog w A E s κ r a₀) (hk:kindOf st0=κ) (M:MPre r a₀ a b) (S:SameG st0 st) (m:HS r a b out.toList na nb) (h1:1≤na) (h2:2≤nb) (hN:na - 1+nb+N≤a.size+b.size):wpS (model prog w) A E s (hi2a a b out na nb mg ac bc) (H2 r a b st0 N) st:=by
 unfold hi2a; have ha:=m.ha; have hbb:=m.hb; rw [iR]; refine wpS_bind (wpS_modify ?_); have S:=S.set mg; have h2':nb - 1<b.size:=by omega
 refine wpS_bind (eE h2' (wpS_bind (oV K (S.kind.trans hk) M.ma (M.mb _ (by simp)) (by omega) (by omega) (fun i j h1 h2 h3=>M.asa i j (by omega) h2 (by omega)) (fun i hi e=>M.ne i (nb - 1) (by omega) h2' (by rw [tH] at e; rw [e,dX h2'])) fun at_ c1 c2 c3=> ?_))); dsimp only; simp only [tH] at c2 c3; rw [← dX (r:=r) h2'] at c2 c3; have m3:=m.extA' M (t:=at_) c1 fun i i1 i2 j hj=>cA (M.asb.le0 (by omega) h2') (c3 i i1 i2)
 by_cases z:na - at_>0
 ·rw [if_pos z]
  by_cases y:at_=0
  ·rw [if_pos (by simpa using y)]; exact wpS_pure ⟨S, .inl (yH M m3 y)⟩
  ·rw [if_neg (by simpa using y)]; exact hi2b_ok K hk M S m3 (by omega) h2 (by omega) c2
 ·rw [if_neg z]; have z0:at_=na:=by omega
  subst z0; exact hi2b_ok K hk M S m h1 h2 hN c2
noncomputable def H1 (r:Keyed→Nat) (a b:Array Keyed) (st:SortSt) (N:Nat):ForInStep MH1→SortSt→Prop:=fun q st'=>st'=st∧match q with
 | .done c=>FIN r a b c.1∨OKh r a b N c.1 c.2.2.2.1 c.2.1 c.2.2.1
 | .yield c=>OKh r a b N c.1 c.2.2.2.1 c.2.1 c.2.2.1
theorem hi1_ok {N mg:Nat} {c:MH1} (K:kX prog w A E s κ r a₀) (hk:kindOf st=κ) (M:MPre r a₀ a b) (h:OKh r a b N c.1 c.2.2.2.1 c.2.1 c.2.2.1):wpS (model prog w) A E s (hi1 a b mg c) (H1 r a b st (N+1)) st:=by
 obtain ⟨o,na,nb,out,ac,bc⟩:=c; obtain ⟨h0,m,h1,h2,hN⟩:=h; dsimp only at h0 m h1 h2 hN; unfold hi1; dsimp only; have ha:=m.ha; have hbb:=m.hb; have h1':na - 1<a.size:=by omega
 have h2':nb - 1<b.size:=by omega
 refine wpS_bind (eE h2' (wpS_bind (eE h1' (wpS_bind (K.ask (M.mb _ (by simp)) (M.ma _ (by simp)) hk ?_))))); dsimp only
 by_cases q:r b[nb - 1]<r a[na - 1]
 ·rw [if_pos (by simpa using q)]; refine wpS_bind (eE h1' ?_); have q':rkA r b (nb - 1)<rkA r a (na - 1):=by rw [dX h1',dX h2']; exact q
  have m2:=m.pushA' M h1 fun j hj=>cA (M.asb.le0 (by omega) h2') q'
  by_cases e:na - 1=0
  ·rw [if_pos (by simpa using e)]; exact wpS_pure ⟨rfl, .inl (yH M m2 e)⟩
  ·rw [if_neg (by simpa using e)]
   split
   ·exact wpS_pure ⟨rfl, .inr ⟨rfl,m2,by show 1≤na - 1; omega,h2,by show na - 1+nb+_≤_; omega⟩⟩
   ·exact wpS_pure ⟨rfl,rfl,m2,by show 1≤na - 1; omega,h2,by show na - 1+nb+_≤_; omega⟩
 ·rw [if_neg (by simpa using q)]; refine wpS_bind (eE h2' ?_)
  have q':rkA r a (na - 1)<rkA r b (nb - 1):=by have:=M.ne (na - 1) (nb - 1) h1' h2'; rw [dX h1',dX h2'] at this ⊢; omega
  have m2:=m.pushB' M (by omega) fun j hj=>cA (M.asa.le0 (by omega) h1') q'
  by_cases e:nb - 1=1
  ·rw [if_pos (by simpa using e)]; exact wpS_pure ⟨rfl, .inl (yR M m2 e)⟩
  ·rw [if_neg (by simpa using e)]
   split
   ·exact wpS_pure ⟨rfl, .inr ⟨rfl,m2,h1,by show 2≤nb - 1; omega,by show na+(nb - 1)+_≤_; omega⟩⟩
   ·exact wpS_pure ⟨rfl,rfl,m2,h1,by show 2≤nb - 1; omega,by show na+(nb - 1)+_≤_; omega⟩
noncomputable def H0 (r:Keyed→Nat) (a b:Array Keyed) (st0:SortSt) (N:Nat):ForInStep MH0→SortSt→Prop:=fun q st'=>SameG st0 st'∧match q with
 | .done c=>FIN r a b c.1
 | .yield c=>OKh r a b N c.1 c.2.2.2.1 c.2.1 c.2.2.1
theorem hi0_ok {N:Nat} {c:MH0} (K:kX prog w A E s κ r a₀) (hk:kindOf st0=κ) (M:MPre r a₀ a b) (S:SameG st0 st) (h:OKh r a b N c.1 c.2.2.2.1 c.2.1 c.2.2.1):wpS (model prog w) A E s (hi0 a b c) (H0 r a b st0 (N+1)) st:=by
 obtain ⟨o,na,nb,out,mg⟩:=c; obtain ⟨h0,m,h1,h2,hN⟩:=h; dsimp only at h0 m h1 h2 hN; unfold hi0; dsimp only; refine wpS_bind (wpS_mono (wpS_forRange (I:=fun x d st'=>st'=st∧OKh r a b (N+x) d.1 d.2.2.2.1 d.2.1 d.2.2.1) (Q:=fun d st'=>st'=st∧(FIN r a b d.1∨OKh r a b (N+1) d.1 d.2.2.2.1 d.2.1 d.2.2.1)) ?step ?fin ⟨rfl,rfl,m,h1,h2,hN⟩) ?post)
 case step=>
  rintro x d st' _ hx ⟨rfl,hd⟩; refine wpS_mono (hi1_ok K (S.kind.trans hk) M hd) fun q st'' hq=> ?_
  obtain ⟨rfl,hq⟩:=hq; cases q with
  | done d=>exact ⟨rfl,hq.imp id fun z=>z.mono (by omega)⟩
  | yield d=>exact ⟨rfl,hq⟩
 case fin=>rintro d st' ⟨rfl,_,_,h3,h4,h5⟩; omega
 case post=>
  rintro d st' ⟨rfl,hd⟩; obtain ⟨o1,na,nb,out,ac,bc⟩:=d
  rcases hd with ⟨res,e,hres⟩ | ⟨e,m,h1,h2,hN⟩
  ·dsimp only at e; subst e; exact wpS_pure ⟨S,res,rfl,hres⟩
  ·dsimp only at e m h1 h2 hN; subst e; dsimp only; refine wpS_bind (wpS_lift (wpAny_rule ⟨rfl, ?_⟩)); refine wpS_bind (wpS_mono (wpS_forRange (I:=fun x d st'=>SameG st0 st'∧OKh r a b (N+1+x) d.1 d.2.2.2.1 d.2.1 d.2.2.1) (Q:=fun d st'=>SameG st0 st'∧(FIN r a b d.1∨OKh r a b (N+1) d.1 d.2.2.2.1 d.2.1 d.2.2.1)) ?step2 ?fin2 ⟨S,rfl,m,h1,h2,hN⟩) ?post2)
   case step2=>
    rintro x ⟨o2,na,nb,out,mg,ac,bc⟩ st' _ hx ⟨S,_,m,h1,h2,hN⟩; dsimp only at m h1 h2 hN; have key:∀mg,wpS (model prog w) A E s (hi2a a b out na nb mg ac bc) (H2 r a b st0 (N+1+(x+1))) st':=fun mg=>hi2a_ok K hk M S m h1 h2 (by omega)
    unfold hi2; dsimp only
    split<;>
    ·refine wpS_mono (key _) fun q st'' hq=> ?_
     obtain ⟨S',hq⟩:=hq; cases q with
     | done d=>exact ⟨S',hq.imp id fun z=>z.mono (by omega)⟩
     | yield d=>exact ⟨S',hq⟩
   case fin2=>rintro d st' ⟨_,_,_,h3,h4,h5⟩; omega
   case post2=>
    rintro ⟨o2,na,nb,out,mg,ac,bc⟩ st' ⟨S,hd⟩
    rcases hd with ⟨res,e,hres⟩ | ⟨e,m,h1,h2,hN⟩
    ·dsimp only at e; subst e; exact wpS_pure ⟨S,res,rfl,hres⟩
    ·dsimp only at e m h1 h2 hN; subst e; dsimp only; rw [iR]; exact wpS_bind (wpS_modify (wpS_pure ⟨S.set _,rfl,m,h1,h2,hN⟩))
theorem wpS_mergeHi {Q:Array Keyed→SortSt→Prop} (K:kX prog w A E s κ r a₀) (hk:kindOf st=κ) (M:MPre r a₀ a b)
  (h:∀out st',MD r a b out.toList→SameG st st'→Q out st'):wpS (model prog w) A E s (vB a b) Q st:=by
 rw [hiM_eq]; unfold hiM; refine wpS_bind (wpS_lift (wpAny_rule ⟨rfl, ?_⟩)); have b1:=M.b1; have a1:=M.a1; refine wpS_bind (eE (by omega) ?_); have m0:HS r a b (#[]:Array Keyed).toList a.size b.size:=⟨aM _,aM _,by rw [List.drop_eq_nil_of_le (by simp),List.drop_eq_nil_of_le (by simp)]; exact .refl _,by simp,fun x hx=>by simp at hx,fun x hx=>by simp at hx⟩; have m:HS r a b (#[a[a.size - 1]]:Array Keyed).toList (a.size - 1) b.size:=m0.pushA' M a1 fun j hj=>M.last' j hj
 by_cases e:a.size - 1=0
 ·rw [if_pos (by simpa using e)]; obtain ⟨res,e2,hr⟩:=yH M m e; cases e2; exact wpS_pure (h _ _ hr (.refl _))
 ·rw [if_neg (by simpa using e)]
  by_cases e1:b.size=1
  ·rw [if_pos (by simpa using e1)]; obtain ⟨res,e2,hr⟩:=yR M m e1; cases e2; exact wpS_pure (h _ _ hr (.refl _))
  ·rw [if_neg (by simpa using e1)]; refine wpS_bind (wpS_get (wpS_bind (wpS_mono (wpS_forRange (I:=fun x d st'=>SameG st st'∧OKh r a b (x+1) d.1 d.2.2.2.1 d.2.1 d.2.2.1) (Q:=fun d st'=>SameG st st'∧FIN r a b d.1) ?step ?fin ⟨.refl _,rfl,m,by show 1≤a.size - 1; omega,by show 2≤b.size; omega,by show a.size - 1+b.size+(0+1)≤_; omega⟩) ?post)))
   case step=>
    rintro x d st' _ hx ⟨S,hd⟩; refine wpS_mono (hi0_ok K hk M S hd) fun q st'' hq=> ?_
    obtain ⟨S',hq⟩:=hq; cases q with
    | done d=>exact ⟨S',hq⟩
    | yield d=>exact ⟨S',hq⟩
   case fin=>rintro d st' ⟨_,_,_,h3,h4,h5⟩; omega
   case post=>rintro d st' ⟨S,res,e,hr⟩; rw [e]; exact wpS_pure (h _ _ hr S)
end
noncomputable abbrev Pnd:=Array (Nat × Nat × Nat)
noncomputable def wbA (sa:Nat) (m:Array Keyed) (xs:Array Keyed):Array Keyed:=m.toList.zipIdx.foldl (fun a (q:Keyed × Nat)=>a.setIfInBounds (sa+q.2) q.1) xs
noncomputable def mgC (x y:Array Keyed) (na nb sa:Nat):SM Bool:=do
 let merged ← if na≤nb then vQ x y else vB x y
 modify fun s=>setArr s (wbA sa merged (arrOf s))
 let s ← get
 pure (failedOf s).isNone
noncomputable def mgB (xs:Array Keyed) (sa na sb nb:Nat):SM Bool:=do
 if (na==0)=true then pure true
 else do
  let x ← elem' xs (sa+na - 1)
  let q ← lW true x xs sb nb (nb - 1)
  match q with
  | some nb=>if (nb==0)=true then pure true else mgC (xs.extract sa sb) (xs.extract sb (sb+nb)) na nb sa
  | _=>pure false
noncomputable def mgA (i:Nat):SM Bool:=do
 let s ← get
 match (pendingOf s)[i]?,(pendingOf s)[i+1]? with
 | some (sa,na,pw),some (sb,nb,_)=>do
  set (setPending s (((pendingOf s).setIfInBounds i (sa,na+nb,pw)).eraseIdxIfInBounds (i+1)))
  let y ← elem' (arrOf s) sb
  let q ← lW false y (arrOf s) sa na 0
  match q with
  | some k=>mgB (arrOf s) (sa+k) (na - k) sb nb
  | _=>pure false
 | _,_=>liftM (unsupported "internal:list.sort.pending":Sem Bool)
theorem mgA_eq (i:Nat):mergeAt' i=mgA i:=by kernel_rfl
noncomputable def srIn (pw:Nat):SM (ForInStep (Option Unit × Unit)):=do
 let s ← get
 match (if (pendingOf s).size>1 then (pendingOf s)[(pendingOf s).size - 2]? else none) with
 | some (_,_,older)=>
  if older≤pw then pure (.done (none,()))
  else do
   let b ← mergeAt' ((pendingOf s).size - 2)
   if (!b)=true then pure (.done (some (),())) else pure (.yield (none,()))
 | _=>pure (.done (none,()))
noncomputable def yJ (lo n size:Nat):SM (ForInStep (Option Unit × Nat)):=do
 let s ← get
 match (pendingOf s).back? with
 | some (s1,n1,_)=>do
  let c ← forIn [:size] ((none,()):Option Unit × Unit) fun _ _=>srIn (power' size (2 * s1+n1) (2 * s1+n1+n1+n) size)
  match c.1 with
  | some r=>pure (.done (some r,lo))
  | none=>do
   modify fun s=>setPending s ((pendingOf s).modify ((pendingOf s).size - 1) fun (st,len,_)=>(st,len,power' size (2 * s1+n1) (2 * s1+n1+n1+n) size))
   modify fun s=>setPending s ((pendingOf s).push (lo,n,0))
   pure (.yield (none,lo+n))
 | _=>do
  modify fun s=>setPending s ((pendingOf s).push (lo,n,0))
  pure (.yield (none,lo+n))
noncomputable def srBody (size minrun:Nat) (c:Option Unit × Nat):SM (ForInStep (Option Unit × Nat)):=
 if c.2≥size then pure (.done (none,c.2))
 else do
  let f ← countRun' c.2 (size - c.2)
  match f with
  | some found=>
   if found<minrun then do
    liftM (rule "list.sort.binary-insertion")
    let b ← binarySort' c.2 (min (size - c.2) minrun) found
    if (!b)=true then pure (.done (some (),c.2)) else yJ c.2 (min (size - c.2) minrun) size
   else yJ c.2 found size
  | _=>pure (.done (some (),c.2))
noncomputable def srEnd:SM (ForInStep (Option Unit × Unit)):=do
 let s ← get
 if (pendingOf s).size≤1 then pure (.done (none,()))
 else do
  let b ← mergeAt' (if ((if (pendingOf s).size - 2>0 then (pendingOf s)[(pendingOf s).size - 2 - 1]?.map (·.2.1) else none).any (·<((pendingOf s)[(pendingOf s).size - 2+1]?.elim 0 (·.2.1))))=true then (pendingOf s).size - 2 - 1 else (pendingOf s).size - 2)
  if (!b)=true then pure (.done (some (),())) else pure (.yield (none,()))
noncomputable def srM:SM Unit:=do
 let s ← get
 let c ← forIn [:(arrOf s).size] ((none,0):Option Unit × Nat) fun _ c=>srBody (arrOf s).size (minRun' (arrOf s).size (arrOf s).size 0) c
 match c.1 with
 | some r=>pure r
 | none=>do
  let d ← forIn [:(arrOf s).size] ((none,()):Option Unit × Unit) fun _ _=>srEnd
  match d.1 with
  | some r=>pure r
  | none=>pure ()
theorem srM_eq:sortRuns'=srM:=by kernel_rfl
section
variable {r:Keyed→Nat} {xs:Array Keyed}
theorem rk_ext {i j t:Nat} (h:i+t<j) (hj:j≤xs.size):rkA r (xs.extract i j) t=rkA r xs (i+t):=by refine iH ?_; rw [Array.getElem?_extract,if_pos (by omega)]
theorem wb_get (sa t:Nat):∀ (l:List Keyed) (n:Nat) (xs:Array Keyed),sa+n+l.length≤xs.size→((l.zipIdx n).foldl (fun a (q:Keyed × Nat)=>a.setIfInBounds (sa+q.2) q.1) xs)[t]? =if sa+n≤t∧t<sa+n+l.length then l[t - (sa+n)]? else xs[t]?
 | [],n,xs,_=>by rw [if_neg (by rw [gR]; omega)]; rfl
 | p::l,n,xs,h=>by
  rw [bU] at h
  have S:(xs.setIfInBounds (sa+n) p)[t]? =if sa+n=t then some p else xs[t]? :=by
   rw [Array.getElem?_setIfInBounds]
   by_cases e:sa+n=t
   ·rw [if_pos e,if_pos e,if_pos (by omega)]
   ·rw [if_neg e,if_neg e]
  rw [uD,List.foldl_cons,wb_get sa t l (n+1) _ (by rw [Array.size_setIfInBounds]; omega),bU,S]
  by_cases e:sa+n=t
  ·rw [if_neg (show ¬ (sa+(n+1)≤t∧t<sa+(n+1)+l.length) by omega),if_pos e,if_pos (show sa+n≤t∧t<sa+n+(l.length+1) by omega),show t - (sa+n)=0 by omega]; rfl
  ·by_cases q:sa+(n+1)≤t∧t<sa+(n+1)+l.length
   ·rw [if_pos q,if_pos (show sa+n≤t∧t<sa+n+(l.length+1) by omega),show t - (sa+n)=t - (sa+(n+1))+1 by omega,List.getElem?_cons_succ]
   ·rw [if_neg q,if_neg e,if_neg (show ¬ (sa+n≤t∧t<sa+n+(l.length+1)) by omega)]
theorem wb_at {sa:Nat} {m:Array Keyed} (h:sa+m.size≤xs.size) (t:Nat):(wbA sa m xs)[t]? =if sa≤t∧t<sa+m.size then m[t - sa]? else xs[t]? :=by have:=wb_get sa t m.toList 0 xs (by simpa using h); unfold wbA; rw [this]; simp
theorem wb_list {sa:Nat} {m:Array Keyed} (h:sa+m.size≤xs.size):(wbA sa m xs).toList=xs.toList.take sa++(m.toList++xs.toList.drop (sa+m.size)):=by
 apply sR; intro t; rw [dM,wb_at h]; have l1:(xs.toList.take sa).length=sa:=by rw [dD]; simp; omega
 by_cases h1:t<sa
 ·rw [if_neg (by omega),gL (by rw [l1]; exact h1),List.getElem?_take_of_lt h1,dM]
 ·rw [gF (by rw [l1]; omega),l1]
  by_cases h2:t<sa+m.size
  ·rw [if_pos ⟨by omega,h2⟩,gL (by simp; omega),dM]
  ·rw [if_neg (by omega),gF (by simp; omega),List.getElem?_drop,cK]; rw [show sa+m.size+(t - sa - m.size)=t by omega,dM]
theorem split_list {sa n:Nat} (h:sa+n≤xs.size):xs.toList=xs.toList.take sa++((xs.extract sa (sa+n)).toList++xs.toList.drop (sa+n)):=by
 rw [dP,cR,show sa+n - sa=n by omega]; have e:xs.toList.drop (sa+n)=(xs.toList.drop sa).drop n:=by rw [List.drop_drop]
 rw [e,kK,kK]
theorem wb_perm {sa:Nat} {m:Array Keyed} (h:sa+m.size≤xs.size) (hp:m.toList.Perm (xs.extract sa (sa+m.size)).toList):(wbA sa m xs).Perm xs:=by apply gE.mpr; rw [wb_list h]; refine List.Perm.trans ?_ (List.Perm.of_eq (split_list (xs:=xs) h).symm); exact List.Perm.append_left _ (List.Perm.append_right _ hp)
theorem ext_app {i j k:Nat} (h1:i≤j) (h2:j≤k) (h3:k≤xs.size):(xs.extract i j).toList++(xs.extract j k).toList=(xs.extract i k).toList:=by simp only [dP,cR]; rw [show k - i=(j - i)+(k - j) by omega,List.take_add,List.drop_drop,show i+(j - i)=j by omega]
end
section
variable {prog:Program} {w:World} {A:Around} {E:Value→Shared→Prop} {s:Shared} {κ:SortKind} {r:Keyed→Nat} {a₀:Array Keyed} {st st':SortSt}
theorem wpS_set {st2:SortSt} {Q:PUnit→SortSt→Prop} (h:Q ⟨⟩ st2):wpS (model prog w) A E s (set st2:StateT SortSt Sem PUnit) Q st:=by unfold wpS; rw [StateT.run_set]; exact wpAny_pure ⟨rfl,h⟩
theorem wpS_mergeAt {i sa na pw sb nb pw':Nat} {Q:Bool→SortSt→Prop} (K:kX prog w A E s κ r a₀) (hB:SB κ a₀ st) (p1:(pendingOf st)[i]? =some (sa,na,pw)) (p2:(pendingOf st)[i+1]? =some (sb,nb,pw')) (hs:sb=sa+na) (n1:1≤na) (n2:1≤nb) (hz:sb+nb≤a₀.size)
  (A1:AscR r (arrOf st) sa sb) (A2:AscR r (arrOf st) sb (sb+nb))
  (h:∀st',SB κ a₀ st'→pendingOf st'=((pendingOf st).setIfInBounds i (sa,na+nb,pw)).eraseIdxIfInBounds (i+1)→(∀k,k<sa∨sb+nb≤k→(arrOf st')[k]? =(arrOf st)[k]?)→AscR r (arrOf st') sa (sb+nb)→Q true st'):wpS (model prog w) A E s (mergeAt' i) Q st:=by
 have sz:=hB.size; have mem:∀x∈(arrOf st).toList,x∈a₀.toList:=fun x hx=>(gE.mp hB.perm).mem_iff.mp hx
 rw [mgA_eq]; unfold mgA; refine wpS_bind (wpS_get ?_); rw [p1,p2]; dsimp only; refine wpS_bind (wpS_set ?_); have hB1:SB κ a₀ (setPending st (((pendingOf st).setIfInBounds i (sa,na+nb,pw)).eraseIdxIfInBounds (i+1))):=⟨hB.perm,hB.kind,hB.failed⟩
 have h1:∀st',SameG (setPending st (((pendingOf st).setIfInBounds i (sa,na+nb,pw)).eraseIdxIfInBounds (i+1))) st'→AscR r (arrOf st) sa (sb+nb)→Q true st':=fun st' S a=>by refine h st' ⟨by rw [S.arr]; exact hB.perm,by rw [S.kind]; exact hB.kind,by rw [S.failed]; exact hB.failed⟩ S.pend (fun k _=>by rw [S.arr]) ?_; rw [S.arr]; exact a
 have hsb:sb<(arrOf st).size:=by omega
 refine wpS_bind (eE hsb (wpS_bind (oV K hB1.kind mem (mem _ (by simp)) (by omega) (by omega) (by rw [← hs]; exact A1) (fun j hj e=> ?_) fun k c1 c2 c3=> ?_)))
 ·rw [← dX (r:=r) hsb] at e; exact hB.ne K (i:=sa+j) (j:=sb) (by omega) (by omega) (by omega) e
 rw [← dX (r:=r) hsb] at c2 c3
 have c2':∀j,sa≤j→j<sa+k→rkA r (arrOf st) j<rkA r (arrOf st) sb:=fun j j1 j2=>by
  have:=c2 (j - sa) (by omega)
  rwa [show sa+(j - sa)=j by omega] at this
 have c3':∀j,sa+k≤j→j<sb→rkA r (arrOf st) sb<rkA r (arrOf st) j:=fun j j1 j2=>by
  have:=c3 (j - sa) (by omega) (by omega)
  rwa [show sa+(j - sa)=j by omega] at this
 have A2l:∀j,sb≤j→j<sb+nb→rkA r (arrOf st) sb≤rkA r (arrOf st) j:=fun j j1 j2=>by
  by_cases e:j=sb
  ·rw [e]; exact aM _
  ·exact dW (A2 sb j (aM _) (by omega) j2)
 dsimp only; unfold mgB
 by_cases e0:na - k=0
 ·rw [if_pos (by simpa using e0)]; refine wpS_pure (h1 _ (.refl _) fun i j i1 ij j1=> ?_)
  by_cases q1:j<sb
  ·exact A1 i j i1 ij q1
  ·by_cases q2:i<sb
   ·exact aU (c2' i i1 (by omega)) (A2l j (by omega) j1)
   ·exact A2 i j (by omega) ij j1
 ·rw [if_neg (by simpa using e0)]; have ekn:sa+k+(na - k) - 1=sb - 1:=by omega
  have hkb:sb - 1<(arrOf st).size:=by omega
  rw [ekn]; refine wpS_bind (eE hkb (wpS_bind (oV K hB1.kind mem (mem _ (by simp)) (by omega) (by omega) A2 (fun j hj e=> ?_) fun n2' d1 d2 d3=> ?_)))
  ·rw [← dX (r:=r) hkb] at e; exact hB.ne K (i:=sb+j) (j:=sb - 1) (by omega) (by omega) (by omega) e
  rw [← dX (r:=r) hkb] at d2 d3
  have d2':∀j,sb≤j→j<sb+n2'→rkA r (arrOf st) j<rkA r (arrOf st) (sb - 1):=fun j j1 j2=>by
   have:=d2 (j - sb) (by omega)
   rwa [show sb+(j - sb)=j by omega] at this
  have d3':∀j,sb+n2'≤j→j<sb+nb→rkA r (arrOf st) (sb - 1)<rkA r (arrOf st) j:=fun j j1 j2=>by
   have:=d3 (j - sb) (by omega) (by omega)
   rwa [show sb+(j - sb)=j by omega] at this
  have n2p:n2'≠0:=fun z=>by subst z; have a:=d3' sb (by omega) (by omega); have b:=c3' (sb - 1) (by omega) (by omega); omega
  dsimp only; rw [if_neg (by simpa using n2p)]; unfold mgC
  have M:MPre r a₀ ((arrOf st).extract (sa+k) sb) ((arrOf st).extract sb (sb+n2')):=by
   have s1:((arrOf st).extract (sa+k) sb).size=sb - (sa+k):=by rw [jN]; omega
   have s2:((arrOf st).extract sb (sb+n2')).size=n2':=by rw [jN]; omega
   have e1:∀t,t<sb - (sa+k)→rkA r ((arrOf st).extract (sa+k) sb) t=rkA r (arrOf st) (sa+k+t):=fun t ht=>rk_ext (by omega) (by omega)
   have e2:∀t,t<n2'→rkA r ((arrOf st).extract sb (sb+n2')) t=rkA r (arrOf st) (sb+t):=fun t ht=>rk_ext (by omega) (by omega)
   refine ⟨by omega,by omega,fun i j _ ij j1=> ?_,fun i j _ ij j1=> ?_,fun x hx=> ?_,fun x hx=> ?_,fun i j i1 j1=> ?_, ?_, ?_⟩
   ·rw [s1] at j1; rw [e1 i (by omega),e1 j j1]; exact A1 _ _ (by omega) (by omega) (by omega)
   ·rw [s2] at j1; rw [e2 i (by omega),e2 j j1]; exact A2 _ _ (by omega) (by omega) (by omega)
   ·rw [dP,cR] at hx; exact mem x (pI (pJ hx))
   ·rw [dP,cR] at hx; exact mem x (pI (pJ hx))
   ·rw [s1] at i1; rw [s2] at j1; rw [e1 i i1,e2 j j1]; exact hB.ne K (by omega) (by omega) (by omega)
   ·rw [e1 0 (by omega),e2 0 (by omega)]; exact c3' _ (by omega) (by omega)
   ·rw [s1,s2,e1 _ (by omega),e2 _ (by omega),show sa+k+(sb - (sa+k) - 1)=sb - 1 by omega]; exact d2' _ (by omega) (by omega)
  have fin:∀out st',MD r ((arrOf st).extract (sa+k) sb) ((arrOf st).extract sb (sb+n2')) out.toList→SameG (setPending st (((pendingOf st).setIfInBounds i (sa,na+nb,pw)).eraseIdxIfInBounds (i+1))) st'→wpS (model prog w) A E s (do
    modify fun s=>setArr s (wbA (sa+k) out (arrOf s))
    let s ← get
    pure (failedOf s).isNone) Q st':=fun out st' D S=>by
   refine wpS_bind (wpS_modify (wpS_bind (wpS_get (wpS_pure ?_))))
   have ep:out.toList.Perm ((arrOf st).extract (sa+k) (sb+n2')).toList:=by
    have:=D.1
    rwa [ext_app (by omega) (by omega) (by omega)] at this
   have sO:out.size=sb+n2' - (sa+k):=by have:=ep.length_eq; rw [cK,cK,jN] at this; omega
   have hz2:sa+k+out.size≤(arrOf st).size:=by omega
   have ep2:out.toList.Perm ((arrOf st).extract (sa+k) (sa+k+out.size)).toList:=by rw [sO,show sa+k+(sb+n2' - (sa+k))=sb+n2' by omega]; exact ep
   have ff:failedOf (setArr st' (wbA (sa+k) out (arrOf st')))=none:=by show failedOf st'=none; rw [S.failed]; exact hB.failed
   rw [ff]; have arr':arrOf st'=arrOf st:=S.arr
   have at_:∀t,(arrOf (setArr st' (wbA (sa+k) out (arrOf st'))))[t]? =if sa+k≤t∧t<sb+n2' then out[t - (sa+k)]? else (arrOf st)[t]? :=fun t=>by show (wbA (sa+k) out (arrOf st'))[t]? =_; rw [arr',wb_at hz2,sO,show sa+k+(sb+n2' - (sa+k))=sb+n2' by omega]
   refine h _ ⟨?_, ?_,ff⟩ ?_ (fun t ht=>by rw [at_,if_neg (by omega)]) ?_
   ·show (wbA (sa+k) out (arrOf st')).Perm a₀; rw [arr']; exact (wb_perm hz2 ep2).trans hB.perm
   ·show kindOf st'=κ; rw [S.kind]; exact hB.kind
   ·show pendingOf st'=_; rw [S.pend]
   ·have rin:∀t,sa+k≤t→t<sb+n2'→rkA r (arrOf (setArr st' (wbA (sa+k) out (arrOf st')))) t=rkA r out (t - (sa+k)):=fun t t1 t2=>iH (by rw [at_,if_pos ⟨t1,t2⟩])
    have rout:∀t,t<sa+k∨sb+n2'≤t→rkA r (arrOf (setArr st' (wbA (sa+k) out (arrOf st')))) t=rkA r (arrOf st) t:=fun t ht=>iH (by rw [at_,if_neg (by omega)])
    have mo:∀u,u<out.size→∃v,sa+k≤v∧v<sb+n2'∧rkA r out u=rkA r (arrOf st) v:=fun u hu=>by
     have hm:out[u]∈((arrOf st).extract (sa+k) (sb+n2')).toList:=ep.mem_iff.mp (by simp); obtain ⟨v,hv,ev⟩:=eM hm
     have hv':v<sb+n2' - (sa+k):=by have:=hv; rw [cK,jN] at this; omega
     refine ⟨sa+k+v,by omega,by omega, ?_⟩; rw [dX hu,← ev,← rk_ext (xs:=arrOf st) (i:=sa+k) (j:=sb+n2') (t:=v) (by omega) (by omega)]; rw [dX (by rw [jN]; omega)]; simp
    have asO:∀u v,u<v→v<out.size→rkA r out u<rkA r out v:=fun u v uv hv=>by have:=(List.pairwise_iff_getElem.mp D.2) u v (by simp; omega) (by simpa using hv) uv; rw [dX (by omega),dX hv]; simpa using this
    have low:∀t u,sa≤t→t<sa+k→u<out.size→rkA r (arrOf st) t<rkA r out u:=fun t u t1 t2 hu=>by
     obtain ⟨v,v1,v2,ev⟩:=mo u hu; rw [ev]
     by_cases q:v<sb
     ·exact A1 t v t1 (by omega) q
     ·exact aU (c2' t t1 t2) (A2l v (by omega) (by omega))
    have high:∀t u,sb+n2'≤t→t<sb+nb→u<out.size→rkA r out u<rkA r (arrOf st) t:=fun t u t1 t2 hu=>by
     obtain ⟨v,v1,v2,ev⟩:=mo u hu; rw [ev]
     by_cases q:v<sb
     ·refine cA ?_ (d3' t t1 t2)
      by_cases e:v=sb - 1
      ·rw [e]; exact aM _
      ·exact dW (A1 v (sb - 1) (by omega) (by omega) (by omega))
     ·exact A2 v t (by omega) (by omega) t2
    intro u v u1 uv v1
    by_cases q1:u<sa+k
    ·rw [rout u (.inl q1)]
     by_cases q2:v<sa+k
     ·rw [rout v (.inl q2)]; exact A1 u v u1 uv (by omega)
     ·by_cases q3:v<sb+n2'
      ·rw [rin v (by omega) q3]; exact low _ _ u1 q1 (by omega)
      ·rw [rout v (.inr (by omega))]; exact aU (c2' u u1 q1) (A2l v (by omega) v1)
    ·by_cases q2:u<sb+n2'
     ·rw [rin u (by omega) q2]
      by_cases q3:v<sb+n2'
      ·rw [rin v (by omega) q3]; exact asO _ _ (by omega) (by omega)
      ·rw [rout v (.inr (by omega))]; exact high _ _ (by omega) v1 (by omega)
     ·rw [rout u (.inr (by omega)),rout v (.inr (by omega))]; exact A2 u v (by omega) uv v1
  dsimp only
  split
  ·exact wpS_bind (wpS_mergeLo K hB1.kind M fin)
  ·exact wpS_bind (wpS_mergeHi K hB1.kind M fin)
end
noncomputable def Runs (r:Keyed→Nat) (xs:Array Keyed):Nat→List (Nat × Nat × Nat)→Nat→Prop
 | s,[],e=>s=e
 | s,p::l,e=>p.1=s∧1≤p.2.1∧AscR r xs s (s+p.2.1)∧Runs r xs (s+p.2.1) l e
section
variable {r:Keyed→Nat} {xs ys:Array Keyed}
theorem AscR.keep {s e:Nat} (h:AscR r xs s e) (k:∀t,s≤t→t<e→ys[t]? =xs[t]?):AscR r ys s e:=fun i j hi hij hj=>by rw [iH (k i hi (by omega)),iH (k j (by omega) hj)]; exact h i j hi hij hj
theorem Runs.le:∀ {l:List (Nat × Nat × Nat)} {s e:Nat},Runs r xs s l e→s+l.length≤e
 | [],s,e,h=>by rw [show s=e from h]; exact aM _
 | p::l,s,e,⟨_,h1,_,h2⟩=>by have:=h2.le; rw [bU]; omega
theorem Runs.keep:∀ {l:List (Nat × Nat × Nat)} {s e:Nat},Runs r xs s l e→(∀t,s≤t→t<e→ys[t]? =xs[t]?)→Runs r ys s l e
 | [],_,_,h,_=>h
 | p::l,s,e,⟨h0,h1,h2,h3⟩,k=>by have:=h3.le; exact ⟨h0,h1,h2.keep fun t t1 t2=>k t t1 (by omega),h3.keep fun t t1 t2=>k t (by omega) t2⟩
theorem Runs.split:∀ {l1 l2:List (Nat × Nat × Nat)} {s e:Nat},Runs r xs s (l1++l2) e→∃m,Runs r xs s l1 m∧Runs r xs m l2 e
 | [],l2,s,e,h=>⟨s,rfl,h⟩
 | p::l1,l2,s,e,⟨h0,h1,h2,h3⟩=>by obtain ⟨m,a,b⟩:=Runs.split h3; exact ⟨m,⟨h0,h1,h2,a⟩,b⟩
theorem Runs.app:∀ {l1 l2:List (Nat × Nat × Nat)} {s m e:Nat},Runs r xs s l1 m→Runs r xs m l2 e→Runs r xs s (l1++l2) e
 | [],l2,s,m,e,h,h2=>by rw [show s=m from h]; exact h2
 | p::l1,l2,s,m,e,⟨h0,h1,h2,h3⟩,b=>⟨h0,h1,h2,Runs.app h3 b⟩
theorem Runs.pow {l1:List (Nat × Nat × Nat)} {x y:Nat × Nat × Nat} {s e:Nat} (h:Runs r xs s (l1++[x]) e) (h1:y.1=x.1) (h2:y.2.1=x.2.1):Runs r xs s (l1++[y]) e:=by obtain ⟨m,a,b⟩:=h.split; refine a.app ?_; obtain ⟨b0,b1,b2,b3⟩:=b; exact ⟨h1.trans b0,by rw [h2]; exact b1,by rw [h2]; exact b2,by rw [h2]; exact b3⟩
theorem pnd_at {p:Pnd} {i:Nat} (h:i+1<p.size) (v:Nat × Nat × Nat):p.toList=p.toList.take i++p[i]::p[i+1]::p.toList.drop (i+2)∧((p.setIfInBounds i v).eraseIdxIfInBounds (i+1)).toList=p.toList.take i++v::p.toList.drop (i+2):=by
 have e1:p.toList=p.toList.take i++p[i]::p[i+1]::p.toList.drop (i+2):=by
  have a:p.toList.drop i=p[i]::p.toList.drop (i+1):=by rw [dQ (by simp; omega)]; simp
  have b:p.toList.drop (i+1)=p[i+1]::p.toList.drop (i+1+1):=by rw [dQ (by simp; omega)]; simp
  rw [← b,← a,kK]
 refine ⟨e1, ?_⟩; have l1:(p.toList.take i).length=i:=by rw [dD]; simp; omega
 rw [Array.toList_eraseIdxIfInBounds,Array.toList_setIfInBounds]; generalize p.toList.take i=u at e1 l1; generalize p.toList.drop (i+2)=z at e1; rw [e1]; rw [List.set_append_right _ _ (by omega),l1,tG,List.set_cons_zero,List.eraseIdx_append_of_length_le (by omega),l1,show i+1 - i=1 by omega]; rfl
end
section
variable {prog:Program} {w:World} {A:Around} {E:Value→Shared→Prop} {s:Shared} {κ:SortKind} {r:Keyed→Nat} {a₀:Array Keyed} {st st':SortSt}
theorem wpS_mrg {i e:Nat} {Q:Bool→SortSt→Prop} (K:kX prog w A E s κ r a₀) (hB:SB κ a₀ st) (R:Runs r (arrOf st) 0 (pendingOf st).toList e) (he:e≤a₀.size) (hi:i+1<(pendingOf st).size)
  (h:∀st',SB κ a₀ st'→Runs r (arrOf st') 0 (pendingOf st').toList e→(pendingOf st').size+1=(pendingOf st).size→(∀k,e≤k→(arrOf st')[k]? =(arrOf st)[k]?)→Q true st'):wpS (model prog w) A E s (mergeAt' i) Q st:=by
 obtain ⟨e1,_⟩:=pnd_at hi (0,0,0); have R0:=R; rw [e1] at R0; obtain ⟨m,R1,a1,a2,a3,b1,b2,b3,R2⟩:=R0.split
 have h1:(pendingOf st)[i]? =some (m,(pendingOf st)[i].2.1,(pendingOf st)[i].2.2):=by rw [getElem?_pos _ i (by omega)]; refine congrArg some ?_; rw [← a1]
 have h2:(pendingOf st)[i+1]? =some (m+(pendingOf st)[i].2.1,(pendingOf st)[i+1].2.1,(pendingOf st)[i+1].2.2):=by rw [getElem?_pos _ (i+1) (by omega)]; refine congrArg some ?_; rw [← b1]
 have l2:=R2.le; have l1:=R1.le; refine wpS_mergeAt K hB h1 h2 rfl a2 b2 (by omega) a3 b3 fun st' hB' hp hk ha=> ?_
 obtain ⟨_,e2⟩:=pnd_at hi (m,(pendingOf st)[i].2.1+(pendingOf st)[i+1].2.1,(pendingOf st)[i].2.2); have ep:(pendingOf st').toList=(pendingOf st).toList.take i++(m,(pendingOf st)[i].2.1+(pendingOf st)[i+1].2.1,(pendingOf st)[i].2.2)::(pendingOf st).toList.drop (i+2):=by rw [hp]; exact e2
 refine h st' hB' ?_ ?_ (fun k hk2=>hk k (.inr (by omega)))
 ·rw [ep]; refine (R1.keep fun t _ t2=>hk t (.inl t2)).app ⟨rfl,by show 1≤_+_; omega, ?_, ?_⟩
  ·show AscR r (arrOf st') m (m+(_+_)); rw [← Nat.add_assoc]; exact ha
  ·show Runs r (arrOf st') (m+(_+_)) _ e; rw [← Nat.add_assoc]; exact R2.keep fun t t1 _=>hk t (.inr t1)
 ·have:=congrArg wL ep; have q:=congrArg wL e1; simp only [cK,aW,bU] at this q; omega
structure SR (κ:SortKind) (r:Keyed→Nat) (a₀:Array Keyed) (lo:Nat) (st:SortSt):Prop where
 sb:SB κ a₀ st
 runs:Runs r (arrOf st) 0 (pendingOf st).toList lo
theorem wpS_push {lo n:Nat} {Q:ForInStep (Option Unit × Nat)→SortSt→Prop} (K:kX prog w A E s κ r a₀) (S:SR κ r a₀ lo st) (n1:1≤n) (hn:lo+n≤a₀.size) (ha:AscR r (arrOf st) lo (lo+n)) (h:∀st',SR κ r a₀ (lo+n) st'→Q (.yield (none,lo+n)) st'):wpS (model prog w) A E s (yJ lo n a₀.size) Q st:=by
 unfold yJ; refine wpS_bind (wpS_get ?_)
 have fin:∀st',SR κ r a₀ lo st'→AscR r (arrOf st') lo (lo+n)→SR κ r a₀ (lo+n) (setPending st' ((pendingOf st').push (lo,n,0))):=fun st' S' ha'=>by refine ⟨⟨S'.sb.perm,S'.sb.kind,S'.sb.failed⟩, ?_⟩; show Runs r (arrOf st') 0 ((pendingOf st').push (lo,n,0)).toList (lo+n); rw [jX]; exact S'.runs.app ⟨rfl,n1,ha',rfl⟩
 cases hb:(pendingOf st).back? with
 | none=>exact wpS_bind (wpS_modify (wpS_pure (h _ (fin st S ha))))
 | some p=>
  obtain ⟨s1,n1',p1⟩:=p; dsimp only; generalize power' a₀.size (2 * s1+n1') (2 * s1+n1'+n1'+n) a₀.size=pw
  have ne0:1≤(pendingOf st).size:=by
   rcases Nat.eq_zero_or_pos (pendingOf st).size with z | z
   ·rw [Array.eq_empty_of_size_eq_zero z] at hb; cases hb
   ·exact z
  refine wpS_bind (wpS_mono (wpS_forRange (I:=fun _ c st'=>c=(none,())∧SR κ r a₀ lo st'∧1≤(pendingOf st').size∧AscR r (arrOf st') lo (lo+n)) (Q:=fun c st'=>c=(none,())∧SR κ r a₀ lo st'∧1≤(pendingOf st').size∧AscR r (arrOf st') lo (lo+n)) ?step (fun _ _ z=>z) ⟨rfl,S,ne0,ha⟩) ?post)
  case step=>
   rintro x c st' _ hx ⟨rfl,S',ne',ha'⟩; unfold srIn; refine wpS_bind (wpS_get ?_)
   by_cases q:(pendingOf st').size>1
   ·rw [if_pos q,getElem?_pos _ _ (by omega)]; dsimp only
    split
    ·exact wpS_pure ⟨rfl,S',ne',ha'⟩
    ·refine wpS_bind (wpS_mrg K S'.sb S'.runs (by omega) (by omega) fun st'' hB hr hs hk=> ?_); rw [if_neg (by decide)]; exact wpS_pure ⟨rfl,⟨hB,hr⟩,by omega,ha'.keep fun t t1 _=>hk t t1⟩
   ·rw [if_neg q]; exact wpS_pure ⟨rfl,S',ne',ha'⟩
  case post=>
   rintro c st' ⟨rfl,S',ne',ha'⟩; dsimp only; refine wpS_bind (wpS_modify (wpS_bind (wpS_modify (wpS_pure (h _ (fin (setPending st' ((pendingOf st').modify ((pendingOf st').size - 1) fun (x:Nat × Nat × Nat)=>(x.1,x.2.1,pw))) ⟨⟨S'.sb.perm,S'.sb.kind,S'.sb.failed⟩, ?_⟩ ha')))))); show Runs r (arrOf st') 0 ((pendingOf st').modify ((pendingOf st').size - 1) fun (x:Nat × Nat × Nat)=>(x.1,x.2.1,pw)).toList lo
   have hl:(pendingOf st').toList≠[]:=fun z=>by have:=congrArg wL z; rw [cK,gR] at this; omega
   have e1:=(lB hl).symm; have R:=S'.runs; rw [e1] at R
   have e2:((pendingOf st').modify ((pendingOf st').size - 1) fun (x:Nat × Nat × Nat)=>(x.1,x.2.1,pw)).toList=(pendingOf st').toList.dropLast++[(((pendingOf st').toList.getLast hl).1,((pendingOf st').toList.getLast hl).2.1,pw)]:=by
    apply sR; intro t; rw [dM,Array.getElem?_modify]; have ld:(pendingOf st').toList.dropLast.length=(pendingOf st').size - 1:=by simp
    by_cases q:(pendingOf st').size - 1=t
    ·rw [if_pos q,gF (by rw [ld]; omega),ld,q,tG,← q]; rw [List.getLast_eq_getElem]; have:(pendingOf st').size - 1<(pendingOf st').size:=by omega
     simp [this]
    ·rw [if_neg q]
     by_cases q2:t<(pendingOf st').size - 1
     ·rw [gL (by rw [ld]; exact q2),List.getElem?_dropLast,if_pos (by simpa using q2),dM]
     ·rw [gF (by rw [ld]; omega),ld]; rw [Array.getElem?_eq_none (by omega),gG (by simp; omega)]
   rw [e2]; exact R.pow rfl rfl
theorem wpS_sortR {Q:Unit→SortSt→Prop} (K:kX prog w A E s κ r a₀) (hB:SB κ a₀ st) (hp:pendingOf st= #[]) (h:∀st',SB κ a₀ st'→AscR r (arrOf st') 0 a₀.size→Q () st'):wpS (model prog w) A E s sortRuns' Q st:=by
 rw [srM_eq]; unfold srM; refine wpS_bind (wpS_get ?_); have sz:=hB.size; rw [sz]; generalize minRun' a₀.size a₀.size 0=minrun; refine wpS_bind (wpS_mono (wpS_forRange (I:=fun x c st'=>∃lo,c=(none,lo)∧SR κ r a₀ lo st'∧lo≤a₀.size∧(x≤lo∨lo=a₀.size)) (Q:=fun c st'=>c=(none,a₀.size)∧SR κ r a₀ a₀.size st') ?step ?fin ⟨0,rfl,⟨hB,by rw [hp]; rfl⟩,cD _, .inl (aM _)⟩) ?post)
 case fin=>
  rintro c st' ⟨lo,rfl,S,h1,h2⟩; have:lo=a₀.size:=by omega
  subst this; exact ⟨rfl,S⟩
 case step=>
  rintro x c st' _ hx ⟨lo,rfl,S,h1,h2⟩; unfold srBody; dsimp only
  by_cases q:lo≥a₀.size
  ·rw [if_pos q]; have:lo=a₀.size:=by omega
   subst this; exact wpS_pure ⟨rfl,S⟩
  ·rw [if_neg q]; refine wpS_bind (wpS_countR K S.sb (by omega) (by omega) fun m st2 m1 m2 T ha=> ?_); have S2:SR κ r a₀ lo st2:=⟨T.sb,by rw [T.pend]; exact S.runs.keep fun t _ t2=>T.keep t (.inl t2)⟩; dsimp only
   by_cases z:m<minrun
   ·rw [if_pos z]; refine wpS_bind (wpS_lift (wpAny_rule ⟨rfl, ?_⟩)); refine wpS_bind (wpS_binR K S2.sb (by omega) (by omega) ha fun st3 T3 ha3=> ?_); rw [if_neg (by decide)]; refine wpS_push K ⟨T3.sb,by rw [T3.pend]; exact S2.runs.keep fun t _ t2=>T3.keep t (.inl t2)⟩ (by omega) (by omega) ha3 fun st4 S4=>⟨_,rfl,S4,by omega, .inl (by omega)⟩
   ·rw [if_neg z]; exact wpS_push K S2 m1 (by omega) ha fun st4 S4=>⟨_,rfl,S4,by omega, .inl (by omega)⟩
 case post=>
  rintro c st' ⟨rfl,S⟩; dsimp only
  have pl:(pendingOf st').size≤a₀.size:=by have:=S.runs.le; simpa using this
  refine wpS_bind (wpS_mono (wpS_forRange (I:=fun x c st''=>c=(none,())∧SR κ r a₀ a₀.size st''∧(pendingOf st'').size≤a₀.size - x) (Q:=fun c st''=>c=(none,())∧SR κ r a₀ a₀.size st''∧(pendingOf st'').size≤1) ?step2 ?fin2 ⟨rfl,S,by omega⟩) ?post2)
  case fin2=>rintro c st'' ⟨rfl,S,h1⟩; exact ⟨rfl,S,by omega⟩
  case step2=>
   rintro x c st'' _ hx ⟨rfl,S,h1⟩; unfold srEnd; refine wpS_bind (wpS_get ?_)
   by_cases q:(pendingOf st'').size≤1
   ·rw [if_pos q]; exact wpS_pure ⟨rfl,S,q⟩
   ·rw [if_neg q]; have go:∀i,i+1<(pendingOf st'').size→wpS (model prog w) A E s (mergeAt' i) (fun b st'=>b=true∧SR κ r a₀ a₀.size st'∧(pendingOf st').size≤a₀.size - (x+1)) st'':=fun i hi=>wpS_mrg K S.sb S.runs (aM _) hi fun st3 hB3 hr hs hk=>⟨rfl,⟨hB3,hr⟩,by omega⟩
    refine wpS_bind (wpS_mono (go _ ?_) fun b st3 hb=> ?_)
    ·have bd:∀c:Bool,(if c=true then (pendingOf st'').size - 2 - 1 else (pendingOf st'').size - 2)+1<(pendingOf st'').size:=fun c=>by
      cases c
      ·rw [if_neg (by decide)]; omega
      ·rw [if_pos rfl]; omega
     exact bd _
    ·obtain ⟨rfl,S3,h3⟩:=hb; rw [if_neg (by decide)]; exact wpS_pure ⟨rfl,S3,h3⟩
  case post2=>
   rintro c st'' ⟨rfl,S,h1⟩; refine wpS_pure (h st'' S.sb ?_); have R:=S.runs; generalize e:(pendingOf st'').toList=l at R; have ll:l.length≤1:=by rw [← e]; simpa using h1
   match l,ll with
   | [],_=>have:0=a₀.size:=R; intro i j _ _ hj; omega
   | [p],_=>obtain ⟨_,_,b,c⟩:=R; have c:0+p.2.1=a₀.size:=c; rw [c] at b; exact b
end
open PySem.W (KasT kas_sort kas_asc kas_desc kas_tail3 kas_descPart kas_count kas_place kas_bin kas_rev kas_ask kas_item kat_lt kat_cons kat_nil kat_yes kat_no kat_one kat_kind kat_run kat_snds KatTups)
inductive Bel {α:Type} (n:Nat) (P:α→Prop):KasT α→Prop
 | ret {a:α}:P a→Bel n P (.ret a)
 | ask {i j:Nat} {k:Bool→KasT α}:i<n→j<n→(∀b,Bel n P (k b))→Bel n P (.ask i j k)
noncomputable def PairAt (h:Heap) (v:Value) (x:Int × Int):Prop:=∃a o n t u,v= .ref a∧h.get? a=some o∧o.cls= .type "tuple"∧o.data= .seq #[.int x.1 t, .int x.2 u] n
inductive yV (h:Heap):List Value→List (Int × Int)→Prop
 | nil:yV h [] []
 | cons {v:Value} {x:Int × Int} {vs:List Value} {ps:List (Int × Int)}:PairAt h v x→yV h vs ps→yV h (v::vs) (x::ps)
open PySem.W (KasT kas_sort kas_asc kas_desc kas_tail3 kas_descPart kas_count kas_place kas_bin kas_rev)
structure Ord (n:Nat) (ans:Nat→Nat→Bool):Prop where
 tr:∀i j k,i<n→j<n→k<n→ans i j=true→ans j k=true→ans i k=true
 ir:∀i,i<n→ans i i=false
 tt:∀i j,i<n→j<n→i≠j→ans i j=true∨ans j i=true
noncomputable abbrev gN (p:Array Nat) (k:Nat):Nat:=p.getD k 0
open PySem.W (KasT kas_sort kas_asc kas_desc kas_tail3 kas_descPart kas_count kas_place kas_bin kas_rev kas_ask kas_item kat_lt kat_cons kat_nil kat_yes kat_no kat_one kat_kind kat_run kat_snds KatTups KatLex)
noncomputable def TupAt1 (h:Heap) (v:Value) (x:List Int):Prop:=∃a o n,∃its:List Value,v= .ref a∧h.get? a=some o∧o.cls= .type "tuple"∧o.data= .seq its.toArray n∧IntsAre its x∧x≠[]
inductive TupsAt (h:Heap):List Value→List (List Int)→Prop
 | nil:TupsAt h [] []
 | cons {v:Value} {x:List Int} {vs:List Value} {ps:List (List Int)}:TupAt1 h v x→TupsAt h vs ps→TupsAt h (v::vs) (x::ps)
noncomputable def advM (m:Nat) (p:SetTable.Probe):SetTable.Probe:=if p.more>0 then {p with j:=p.j+1,more:=p.more - 1} else {p with j:=(lX m p.i p.perturb).1,more:=SetTable.runEnd m (lX m p.i p.perturb).1 - (lX m p.i p.perturb).1,i:=(lX m p.i p.perturb).1,perturb:=(lX m p.i p.perturb).2}
noncomputable def at0 (m i q:Nat):SetTable.Probe:={j:=i,more:=SetTable.runEnd m i - i,i:=i,perturb:=q,dummy:=none}
noncomputable def pr (m:Nat) (h:Int):Nat→SetTable.Probe
 | 0=>at0 m (SetTable.bits h%(m+1)) (SetTable.bits h)
 | n+1=>advM m (pr m h n)
noncomputable def okM (m:Nat):Prop:=m=7∨m=31∨m=63∨m=127∨m=255
noncomputable abbrev RowT:=Nat × List Key × Addr
structure TabT (hs:List Key→Int) (t:SetTable) (es:Array (Int × Value)) (T:List RowT):Prop where
 om:okM t.mask
 pl:t.place=(T.map (·.1)).toArray
 en:es=(T.map fun r=>(hs r.2.1,Value.ref r.2.2)).toArray
 du:t.dummies= #[]
 rs:(T.map (·.1)).Pairwise (·<·)
 lt:∀r∈T,r.1≤t.mask
 rc:∀r∈T,∃n,(pr t.mask (hs r.2.1) n).j=r.1∧∀i,i<n→(pr t.mask (hs r.2.1) i).j∈T.map (·.1)
 kn:(T.map (·.2.1)).Nodup
structure LI (m:Nat) (ow:Array (Option Nat)) (dn:List Int):Prop where
 sz:ow.size=m+1
 at_:∀ (x:Nat) (h:Int),dn[x]? =some h→∃j,ow[j]? =some (some x)∧∃n,(pr m h n).j=j∧∀i,i<n→ow[(pr m h i).j]? ≠some none
 lt:∀ (j x:Nat),ow[j]? =some (some x)→x<dn.length
 un:∀ (j j' x:Nat),ow[j]? =some (some x)→ow[j']? =some (some x)→j=j'
section
variable {prog:Program} {w:World} {A:Around} {E:Value→Shared→Prop} {s:Shared}
noncomputable abbrev tK (prog:Program) (w:World):=tupleKind (gC prog w)
end
structure TabU (hs:List Key→Int) (t:SetTable) (es:Array (Int × Value)) (T:List RowT) (ds:List Nat):Prop where
 om:okM t.mask
 pl:t.place=(T.map (·.1)).toArray
 en:es=(T.map fun r=>(hs r.2.1,Value.ref r.2.2)).toArray
 du:t.dummies=ds.toArray
 rs:(T.map (·.1)).Pairwise (·<·)
 dr:ds.Pairwise (·<·)
 dj:∀d∈ds,d∉T.map (·.1)
 lt:∀r∈T,r.1≤t.mask
 rc:∀r∈T,∃n,(pr t.mask (hs r.2.1) n).j=r.1∧∀i,i<n→(pr t.mask (hs r.2.1) i).j∈T.map (·.1)++ds
 kn:(T.map (·.2.1)).Nodup
theorem zU {α β:Type} {f:α→β} {l:List α} {l':List β} (h:l'.Perm (l.map f)):∃l2:List α,l2.Perm l∧l'=l2.map f:=by
 generalize hy:l.map f=y at h
 induction h generalizing l with
 | nil=>
  have:l=[]:=by simpa using hy
  subst this; exact ⟨[], .refl _,rfl⟩
 | cons x p ih=>
  cases l with
  | nil=>simp at hy
  | cons a t=>simp only [bA,List.cons.injEq] at hy; obtain ⟨l3,q1,q2⟩:=ih hy.2; exact ⟨a::l3,q1.cons a,by rw [bA,hy.1,q2]⟩
 | swap x y l0=>
  match l,hy with
  | a::b::t,hy=>simp only [bA,List.cons.injEq] at hy; exact ⟨b::a::t,List.Perm.swap a b t,by rw [bA,bA,hy.1,hy.2.1,hy.2.2]⟩
  | [a],hy=>simp at hy
  | [],hy=>simp at hy
 | trans p1 p2 ih1 ih2=>obtain ⟨l3,q1,q2⟩:=ih2 hy; obtain ⟨l4,r1,r2⟩:=ih1 q2.symm; exact ⟨l4,r1.trans q1,r2⟩
section
variable {X:Cx} {sd:List Slot} {a b:Expr} {pos:Pos}
noncomputable def nG (k:List Key):D:= .tup (k.map kD)
end
structure TOk (w:World) (es:List (Int × Value)) (t:SetTable) (ks:List Nat):Prop where
 fit:t.fits es.toArray.size=true
 pl:t.plain=true
 led:t.led= !byT w
 place:t.place=ks.toArray
 asc:ks.Pairwise (·<·)
 len:es.length=ks.length
noncomputable def oD (h:Heap) (a:Addr) (vs:List Value):Heap:=((h.update a (Obj.mapSeq fun _=> #[])).push (seqObj "tuple" vs.toArray 0)).push (seqObj "list" #[] 0)
section
variable {prog:Program} {w:World} {A:Around} {E:Value→Shared→Prop} {s:Shared}
theorem qG (vs:List Value):(vs.toArray.zip vs.toArray).toList=vs.map fun v=>(v,v):=by
 rw [Array.toList_zip]; show vs.zip vs=_
 induction vs with
 | nil=>rfl
 | cons v vs ih=>rw [eX,ih]; rfl
theorem asks_of {κ:SortKind} {rk:Value→Nat} {vs:List Value} (nd:(vs.map rk).Nodup) (hask:∀x∈vs,∀y∈vs,∀ (Q:Bool→Shared→Prop) (E':Value→Shared→Prop),Q (decide (rk x<rk y)) s→wpAny (model prog w) A (keyLt' κ x y) Q E' s):kX prog w A E s κ (fun p=>rk p.1) (vs.toArray.zip vs.toArray):=by
 refine ⟨fun {x y st Q} hx hy hk h=> ?_, ?_⟩
 ·rw [qG] at hx hy; obtain ⟨u,hu,rfl⟩:=aQ.mp hx; obtain ⟨v,hv,rfl⟩:=aQ.mp hy; rw [lt'_eq]; refine wpS_bind (wpS_get ?_); rw [hk]; exact wpS_bind (wpS_lift (wpAny_attempt (hask u hu v hv _ _ ⟨rfl,wpS_pure h⟩)))
 ·rw [qG,aR]; exact nd
theorem wU {a:Addr} {vs:List Value} {n:Nat} {κ:SortKind} {rk:Value→Nat} {R:PySem.Fin→Shared→Prop} (ho:s.heap.get? a=some (seqObj "list" vs.toArray n)) (nd:(vs.map rk).Nodup) (hn:vs.length≤10000)
  (hkind:2≤vs.length→∀ (Q:SortKind→Shared→Prop),Q κ ⟨oD s.heap a vs,s.gens,s.drawn,s.toks,s.os⟩→wpAny (model prog w) A (keyKind' vs.toArray) Q E ⟨oD s.heap a vs,s.gens,s.drawn,s.toks,s.os⟩)
  (hask:∀x∈vs,∀y∈vs,∀ (Q:Bool→Shared→Prop) (E':Value→Shared→Prop),Q (decide (rk x<rk y)) ⟨oD s.heap a vs,s.gens,s.drawn,s.toks,s.os⟩→wpAny (model prog w) A (keyLt' κ x y) Q E' ⟨oD s.heap a vs,s.gens,s.drawn,s.toks,s.os⟩)
  (h:∀out:Array Value,out.toList.Perm vs→(out.toList.map rk).Pairwise (·<·)→R (.done (.ret .none)) {s with heap:=sortedHeap s.heap a vs out}):wpAny (model prog w) A (Builtin.«list.sort» ⟨[.ref a],[]⟩) R E s:=by
 have lt:a<s.heap.objs.size:=aO ho; have sz:vs.toArray.size=vs.length:=by simp
 obtain ⟨n0,g1⟩:∃n0,(s.heap.update a (Obj.mapSeq fun _=> #[])).get? a=some (seqObj "list" #[] n0):=⟨_,get?_update_seq ho (fun _=> #[])⟩
 have n1:a≠((s.heap.update a (Obj.mapSeq fun _=> #[])).push (seqObj "tuple" vs.toArray 0)).objs.size:=by rw [size_push',oF]; exact bP (nF lt)
 have n2:a≠(s.heap.update a (Obj.mapSeq fun _=> #[])).objs.size:=by rw [oF]; exact bP lt
 have g6:(oD s.heap a vs).get? a=some (seqObj "list" #[] n0):=by unfold oD; rw [Heap.get?_push_ne _ _ _ n1,Heap.get?_push_ne _ _ _ n2,g1]
 rw [list_sort_plain]; refine wpAny_bind (listItems_at ho rfl (wpAny_bind (listUpdate_at ho rfl (wpAny_bind (seqEpoch_at g1 rfl (wpAny_bind (wpAny_newTuple (wpAny_bind (wpAny_newList (wpAny_holding ?_) (cD _))) (by show vs.length≤_; rw [sizeLine_eq]; omega))))) (by rw [sz,sizeLine_eq]; omega) (cD _)))); show wpAny (model prog w) A _ R E ⟨oD s.heap a vs,s.gens,s.drawn,s.toks,s.os⟩; dsimp only
 by_cases h2:vs.toArray.size<2
 ·rw [if_pos h2,if_pos h2]; refine wpAny_bind (wpAny_pure ?_); rw [StateT.run_pure]; refine wpAny_bind (wpAny_pure (wpAny_bind (seqEpoch_at g6 rfl (wpAny_bind (listUpdate_at g6 rfl ?_ (cD _) ?_)))))
  ·simp only [bne_self_eq_false,if_false,bY]; refine wpAny_pure ?_
   have e:Array.map (fun (x:Keyed)=>x.2) (arrOf (SortSt.mk' general' (vs.toArray.zip vs.toArray) #[] 7 none))=vs.toArray:=by apply tI.mp; rw [tJ]; show (vs.toArray.zip vs.toArray).toList.map _=vs; rw [qG,aR]; exact iG _
   rw [e]; refine h vs.toArray (.refl _) ?_; rw [sz] at h2
   match vs,h2 with
   | [],_=>exact .nil
   | [v],_=>exact jT _ _
  ·show (Array.map _ (vs.toArray.zip vs.toArray)).size≤_; rw [Array.size_map,Array.size_zip,sz,sizeLine_eq]; omega
 ·rw [if_neg h2,if_neg h2]; rw [sz] at h2; refine wpAny_bind (hkind (by omega) _ ?_); have K:kX prog w A E ⟨oD s.heap a vs,s.gens,s.drawn,s.toks,s.os⟩ κ (fun p=>rk p.1) (vs.toArray.zip vs.toArray):=asks_of nd hask; refine wpAny_bind (wpAny_mono (wpS_sortR (Q:=fun _ st'=>SB κ (vs.toArray.zip vs.toArray) st'∧AscR (fun p=>rk p.1) (arrOf st') 0 (vs.toArray.zip vs.toArray).size) K (st:=SortSt.mk' κ (vs.toArray.zip vs.toArray) #[] 7 none) ⟨Array.Perm.refl _,rfl,rfl⟩ rfl fun st' b c=>⟨b,c⟩) ?_ fun _ _ z=>z); rintro ⟨⟨⟩,st'⟩ s' ⟨rfl,hB,hA⟩; dsimp only
  have pm:(arrOf st').toList.Perm (vs.map fun v=>(v,v)):=by
   have:=gE.mp hB.perm
   rwa [qG] at this
  have p2:((arrOf st').map (·.2)).toList.Perm vs:=by rw [tJ]; have:=pm.map (·.2); rw [aR] at this; exact this.trans (List.Perm.of_eq (iG _))
  have sO:((arrOf st').map (·.2)).size=vs.length:=by
   have:=p2.length_eq
   rwa [cK] at this
  refine wpAny_bind (seqEpoch_at g6 rfl (wpAny_bind (listUpdate_at g6 rfl ?_ (cD _) ?_)))
  ·rw [hB.failed]; simp only [bne_self_eq_false,if_false,bY]; refine wpAny_pure (h _ p2 ?_); rw [tJ,aR,List.pairwise_iff_getElem]; intro i j hi hj hij; rw [aC,cK] at hi hj; have q:=hA i j (cD _) hij (by rw [← hB.size]; exact hj); rw [dX hi,dX hj] at q
   have d:∀p∈(arrOf st').toList,p.1=p.2:=fun p hp=>by obtain ⟨v,_,rfl⟩:=aQ.mp (pm.mem_iff.mp hp); rfl
   rw [eC,eC]; have d1:=d (arrOf st')[i] (by simp); have d2:=d (arrOf st')[j] (by simp); rw [d1,d2] at q; simpa using q
  ·rw [sO,sizeLine_eq]; omega
end
open PySem.W (kat_lt kat_cons kat_nil kat_yes kat_no kat_one kat_kind KatTups KatLex)
section
variable {prog:Program} {w:World} {A:Around} {E:Value→Shared→Prop} {s:Shared}
theorem sorted_any {l:Addr} {vs:List Value} {κ:SortKind} {rk:Value→Nat} {Q:Value→Shared→Prop} (hl:s.heap.IsList l vs.toArray) (nd:(vs.map rk).Nodup) (hn:vs.length≤10000)
  (hkind:∀t:Shared,(∀b o,s.heap.get? b=some o→t.heap.get? b=some o)→2≤vs.length→∀ (A':Around) (R:SortKind→Shared→Prop) (E':Value→Shared→Prop),A'.units≤A.units+2→R κ t→wpAny (model prog w) A' (keyKind' vs.toArray) R E' t)
  (hask:∀t:Shared,(∀b o,s.heap.get? b=some o→t.heap.get? b=some o)→∀x∈vs,∀y∈vs,∀ (A':Around) (R:Bool→Shared→Prop) (E':Value→Shared→Prop),A'.units≤A.units+2→R (decide (rk x<rk y)) t→wpAny (model prog w) A' (keyLt' κ x y) R E' t)
  (h:∀out:Array Value,out.toList.Perm vs→(out.toList.map rk).Pairwise (·<·)→Q (.ref (s.heap.objs.size+1)) {s with heap:=sortedAll s.heap vs out}):wpAny (model prog w) A (call (.builtin "sorted") [.ref l]) Q E s:=by
 have hsz:((s.heap.push (seqObj "list" #[] 0)).update s.heap.objs.size (Obj.mapSeq (·++vs.toArray))).objs.size=s.heap.objs.size+1:=by rw [oF,size_push']
 have hoL:(((s.heap.push (seqObj "list" #[] 0)).update s.heap.objs.size (Obj.mapSeq (·++vs.toArray))).push (seqObj "list" vs.toArray 0)).get? (s.heap.objs.size+1)=some (seqObj "list" vs.toArray 0):=by rw [← hsz]; exact bG _ rfl
 have k2:∀b o,s.heap.get? b=some o→(((s.heap.push (seqObj "list" #[] 0)).update s.heap.objs.size (Obj.mapSeq (·++vs.toArray))).push (seqObj "list" vs.toArray 0)).get? b=some o:=fun b o g=>by
  have nb:s.heap.objs.size≠b:=fun z=>absurd (aO g) (by rw [← z]; exact eU _)
  refine aE _ ?_; rw [dH _ _ nb]; exact aE _ g
 have k6:∀b o,s.heap.get? b=some o→(oD (((s.heap.push (seqObj "list" #[] 0)).update s.heap.objs.size (Obj.mapSeq (·++vs.toArray))).push (seqObj "list" vs.toArray 0)) (s.heap.objs.size+1) vs).get? b=some o:=fun b o g=>by
  have nb:s.heap.objs.size+1≠b:=fun z=>by have:=aO g; rw [← z] at this; exact absurd this (Nat.not_lt.mpr (iZ _))
  unfold oD; refine aE _ (aE _ ?_); rw [dH _ _ nb]; exact k2 b o g
 refine Calls.call_function_entry kind_sorted plain_sorted entry_sorted (args_sorted1 (.ref l)) ?_; unfold Builtin.«sorted»; refine wpAny_bind (m:=checkCount "sorted" 1 1 _) (wpAny_pure (wpAny_bind (collect_list hl (wpAny_bind (wpAny_newList ?_ (by rw [sizeLine_eq]; omega))) (by rw [sizeLine_eq]; omega)))); show wpAny _ _ _ _ _ ⟨((s.heap.push (seqObj "list" #[] 0)).update s.heap.objs.size (Obj.mapSeq (·++vs.toArray))).push (seqObj "list" vs.toArray 0),s.gens,s.drawn,s.toks,s.os⟩; rw [hsz]; refine wpAny_bind (wpAny_holding (wpAny_call_entry slot_list_sort ⟨_,hoL,rfl⟩ entry_list_sort (wU (κ:=κ) (rk:=rk) (s:=⟨_,s.gens,s.drawn,s.toks,s.os⟩) hoL nd hn (fun h2 R q=>hkind ⟨oD (((s.heap.push (seqObj "list" #[] 0)).update s.heap.objs.size (Obj.mapSeq (·++vs.toArray))).push (seqObj "list" vs.toArray 0)) (s.heap.objs.size+1) vs,s.gens,s.drawn,s.toks,s.os⟩ k6 h2 _ R _ ?_ q) (fun x hx y hy R E' q=>hask ⟨oD (((s.heap.push (seqObj "list" #[] 0)).update s.heap.objs.size (Obj.mapSeq (·++vs.toArray))).push (seqObj "list" vs.toArray 0)) (s.heap.objs.size+1) vs,s.gens,s.drawn,s.toks,s.os⟩ k6 x hx y hy _ R E' ?_ q) fun out p1 p2=>⟨_,rfl,wpAny_pure ⟨_,rfl,h out p1 p2⟩⟩) (args_list_sort _)))
 all_goals simp only [Around.in1]; omega
theorem kat_lex {A:Around} {fin b:Bool} {Q:Bool→Shared→Prop} {r:List (Value × Value)} (x:yU A s fin r b):∀ {i:Nat},Q b s→KatLex prog w A false fin Q r i s:=by
 induction x with
 | nil=>intro i q; exact kat_nil q
 | eq he _ ih=>intro i q; exact kat_cons (SeqAt.EqAt.of_in1 he prog w _ _ (kat_yes (ih q)))
 | @lt x y r b he hl=>intro i q; refine kat_cons (SeqAt.EqAt.of_in1 he prog w _ _ (kat_no ?_)); rw [Bool.false_and]; exact kat_one x y (wpAny_of_in1 (hl prog w _ _ q))
end
theorem vN {α β:Type} {G:α→β→Prop}:∀ {l:List α} {m:List β} {n:Nat} {a:α},Paired G l m→l[n]? =some a→∃b,m[n]? =some b∧G a b
 | _,_,_,_, .nil,h=>by simp at h
 | _,_,0,_, .cons r _,h=>by cases h; exact ⟨_,rfl,r⟩
 | _,_,n+1,_, .cons _ t,h=>vN (n:=n) t (by simpa using h)
theorem rB {α β:Type} {G:α→β→Prop}:∀ {l:List α} {m:List β} (n:Nat),Paired G l m→Paired G (l.eraseIdx n) (m.eraseIdx n)
 | _,_,_, .nil=> .nil
 | _,_,0, .cons _ t=>t
 | _,_,n+1, .cons r t=> .cons r (rB n t)
section
variable {X:Cx}
noncomputable def rPop (X:Cx):V→List V→Hp→VK→Prop:=fun x vs H Q=>∃ (F:Hp) (l ad:Addr) (k:List Key) (y:V) (n:Nat) (o:Obj) (kvs:List (List Key × V)),x= .ref l∧vs=[.ref ad]∧Same F H∧H l=some (exO l o)∧F ad=some (.tup (k.map kV))∧X.A.units+1<cLine∧
 TDo X.prog X.w F l o kvs∧kvs[n]? =some (k,y)∧(∀o',(∀v,o'.data≠ .cell v)→TDo X.prog X.w F l o' (kvs.eraseIdx n)→Q y (upd H l (exO l o')))
theorem mt_pop:MtR X "dict.pop" (rPop X):=by
 intro pins s σ H x vs v us Q I rx rv h; obtain ⟨F,l,ad,k,y,n,o,kvs,rfl,rfl,sF,hl,ha,hu,⟨z,hm,ts,kt,es,ep,t1,t2,t3,t4⟩,hn,q1⟩:=h; obtain rfl:v=Value.ref l:=rx; obtain ⟨u,rfl,ru⟩:=Vals.one rv; obtain rfl:u=Value.ref ad:=ru; have ho:s.heap.get? l=some o:=(I.hok l _ hl).1; have ktH:KT H kvs ts:=kt.keeps fun b ys e=>sF _ _ e
 have dd:s.heap.DictOfH (tupleKind (gC X.prog X.w)) l ts:=⟨o,es,ep,ho,t1,t2,t3,KT.all I.hok ktH,t4⟩; have hz:ts.length≤sizeLine:=by rw [← Paired.length kt]; exact z
 obtain ⟨⟨k',b,w'⟩,hj,e1,_,rw'⟩:=vN kt hn; have e1:k=k':=e1; subst e1; refine call_meetsIn PySem.F.slot_dict_pop dd.typeIs PySem.F.entry_dict_pop (PySem.F.args_dict_pop_2 _ _) (meetsH_pop (tupleKind (gC X.prog X.w)) l ad) ⟨tupleKind_room_in1 hu,k,ts,n,(b,w'),uU I.hok (sF _ _ ha),dd,hz,hj,fun h' dd' hsm=> ?_⟩; obtain ⟨q,es',ep',hq,u2,u3,u4,_,u5⟩:=dd'; have I4:=tS (t':=s.toks+(tupleKind (gC X.prog X.w)).draws k) I (ob:=exO l q) (by rw [hl]; exact True.intro) hsm ⟨q,hq⟩ (wF hq); exact ⟨y,_,I4,rw',q1 q (fun v z=>by rw [u3] at z; cases z) ⟨by have:=List.length_eraseIdx_le kvs n; omega,hm,_,rB n kt,es',ep',u2,u3,u4,u5⟩⟩
end
section
variable {X:Cx} {sd:List Slot} {e:Expr} {pos:Pos} {l:Addr} {ls:List Addr} {ks:List (List Key)} {dss:List (List D)}
theorem pd_lenD (i:Nat) {x:Str} {p p2:Pos} (hg:Gl X "len") (hm:X.mg "len"=none) (hs:sd[i]? =some (odG X.prog X.w X.K l ks ls dss)) (hx:PE X (.Name x p2) (mG i)) (hst:starEach [.Name x p2] X.env=(false,eval (.Name x p2) X.env)::starEach [] X.env:=by rfl):PEd X sd (.Call (.Name "len" p) [.Name x p2] [] pos) (.val (.int (ks.length:Nat))):= .mk fun σ F H S=>
 (wC call_lenG hg hm PySem.boot_len (iD hx pa_nil hst) (by decide) (by decide) hst rfl).to (by
  obtain ⟨hv,hF,⟨o,g1,nc,hl,z,sm,xs,kt,es,ep,t1,t2,t3,t4⟩,hI,nd⟩:=iL S hs; refine ⟨.ref l,hv,l,o,es,ep,rfl,g1,t1,t2,sm, ?_,F,S,Same.refl _, ?_⟩
  ·have:=size_of_entries t3; have e2:=Paired.length kt; omega
  ·have:=size_of_entries t3; have e2:=Paired.length kt; have e3:(ks.zip (ls.map V.ref)).length=ks.length:=by rw [lC,aC,hl,tF]
   simp only [ResOk,Rep]
   rw [this,← e2,e3])
end
theorem kt_vals {F:Hp}:∀ {kvs:List (List Key × V)} {xs:List (List Key × Addr × Value)},KT F kvs xs→Vals (xs.map fun q=>V.ref q.2.1) (xs.map fun q=>Value.ref q.2.1)
 | _,_, .nil=> .nil
 | _,_, .cons _ t=> .cons rfl (kt_vals t)
theorem kt_rep {K:aA} {F:Hp}:∀ {kvs:List (List Key × V)} {xs:List (List Key × Addr × Value)},KT F kvs xs→RepL K F ((kvs.map (·.1)).map nG) (xs.map fun q=>V.ref q.2.1)
 | _,_, .nil=> .nil
 | _,_, @Paired.cons _ _ _ p q _ _ r t=>by refine .cons ?_ (kt_rep t); simp only [nG,Rep]; refine ⟨q.2.1,p.1.map kV,rfl,r.2.1, ?_⟩; exact uX _
section
variable {X:Cx} {sd:List Slot} {e:Expr} {pos:Pos} {l:Addr} {ls:List Addr} {ks:List (List Key)} {dss:List (List D)}
theorem pd_listD (i:Nat) {x:Str} {p p2:Pos} (hg:Gl X "list") (hm:X.mg "list"=none) (hs:sd[i]? =some (odG X.prog X.w X.K l ks ls dss)) (hx:PE X (.Name x p2) (mG i)) (hc:X.calm=true:=by rfl) (hst:starEach [.Name x p2] X.env=(false,eval (.Name x p2) X.env)::starEach [] X.env:=by rfl):PEd X sd (.Call (.Name "list" p) [.Name x p2] [] pos) (.own (ks.map nG)):= .mk fun σ F H S pins s I=>by
 obtain ⟨hv,hF,⟨o,g1,nc,hl,z,sm,xs,kt,es,ep,t1,t2,t3,t4⟩,hI,nd⟩:=iL S hs; refine wpAny_Call_Name_kw (mD I hg hm PyProof.Rows.boot_list ?_); refine PyProof.Rows.callWith_type1 (thn ((iD hx pa_nil hst) pos pins s σ H (fun us H1=>us=[.ref l]∧H1=H) I ⟨.ref l,hv,rfl,rfl⟩) fun us s1 hus=> ?_) hst rfl; obtain ⟨ws,H1,I1,rv,rfl,rfl⟩:=hus; obtain ⟨u,rfl,ru⟩:=oJ rv; cases (show u=Value.ref l from ru); have ez:es.size=xs.length:=size_of_entries t3
 have e3:(ks.zip (ls.map V.ref)).map (·.1)=ks:=by rw [List.map_fst_zip]; rw [aC]; omega
 have e2:xs.length=ks.length:=by have:=Paired.length kt; rw [lC,aC] at this; omega
 have ho:s1.heap.get? l=some o:=(I1.hok l _ g1).1; refine PySem.W.kdl_call (srcD sm t1 t2) (I1.ok.hd hc) ho (by have:=Paired.length kt; omega) fun h' tk acc c' kp gl it=> ?_
 have al:acc=(xs.map fun q=>Value.ref q.2.1).toArray:=by
  apply tI.mp; apply sR; intro j
  by_cases hj:j<acc.toList.length
  ·have e4:acc.toList[j]? =some acc.toList[j]:=by simp [hj]
   obtain ⟨u,q,ev⟩:=it.2 j acc.toList[j] (by rw [← dM]; exact e4); rw [e4,ev]; rw [← dM,t3,bJ] at q; obtain ⟨y,hy,ey⟩:=jV.mp q; rw [← ey]; simp [hy,entryOfKey]
  ·have a1:acc.toList.length=es.size:=by rw [cK]; exact it.1
   rw [gG (by omega),gG (by simp; omega)]
 subst al; have le2:s1.heap.objs.size≤s1.heap.objs.size:=aM _; have hD:H1 s1.heap.objs.size=none:=I1.hok.fresh le2
 have I4:Inv X pins σ (upd H1 s1.heap.objs.size (.lst (xs.map fun q=>V.ref q.2.1))) {s1 with heap:=h',toks:=tk}:=
  I1.laid kp le2 ⟨by rw [aC]; have:=Paired.length kt; omega,_,c',kt_vals kt,gl⟩
 obtain ⟨S4,fp,no⟩:=S.layO (xs:=xs.map fun q=>V.ref q.2.1) hD; refine ⟨.ref s1.heap.objs.size,_,I4,rfl,F,S4,Same.refl _,_,_,rfl,fp,bV, ?_,no⟩; have:=kt_rep (K:=X.K) kt; rw [e3] at this; exact this
end
section
variable {X:Cx} {sd:List Slot} {e:Expr} {pos:Pos}
noncomputable def jY (ds:List D):Nat:=argBest (fun i k=>dlt (ds.getD i .non) (ds.getD k .non)) (ds.length - 1)
structure MinOk (X:Cx) (ds:List D):Prop where
 ne:0<ds.length
 cmp:∀d∈ds,∀d2∈ds,jR d d2=true
 pl:∀d∈ds,pl d=true
 dep:∀d∈ds,X.A.units+1+dep d<cLine
theorem call_minC (hc:X.calm=true):oB X (.builtin "min") (fun vs H Q=>∃ (a:Addr) (xs:List V) (ds:List D),vs=[.ref a]∧SqL X.K H a xs∧RepL X.K H ds xs∧MinOk X ds∧∀v,xs[jY ds]? =some v→Q v H):=by
 intro pins s σ H vs us Q I r h; obtain ⟨a,xs,ds,rfl,ha,rl,M,q⟩:=h; obtain ⟨u,rfl,rx⟩:=oJ r; cases (show u=Value.ref a from rx); obtain ⟨its,rv,p,hz⟩:=I.list ha; have hl:=rv.length; have hd:=rl.len; have isl:s.heap.IsList a its.toArray:=p.isList; have alt:a<s.heap.objs.size:=by obtain ⟨o,ho,_⟩:=isl; exact aO ho
 refine call_minJ (wpAny_pyIter_list isl ?_); refine ⟨s.heap.objs.size,[s.heap.objs.size,a],[s.heap.objs.size],its.toArray.size,_,_,fun h=>HOk X.prog X.w H h,fun i k=>dlt (ds.getD i .non) (ds.getD k .non),rfl,Walks.list (A:=X.A.in1) (I.ok.hd hc) _ a (bP alt) its.toArray,⟨⟨_,bG _ rfl,rfl,rfl⟩,isl.push _⟩,fun b hb=> ?_,by simp; have:=M.ne; omega, ?_, ?_, ?_,fun v h' tk pv k=> ?_⟩
 ·rw [hG]; simp only [aX,dE,or_false] at hb
  rcases hb with rfl | rfl
  ·exact kO _
  ·exact nF alt
 ·intro i k x y t Q' E' hJ hx hy q'; have hx:its[i]? =some x:=by simpa using hx
  have hy:its[k]? =some y:=by simpa using hy
  have li:i<ds.length:=by have:=(aK.mp hx).1; omega
  have lk:k<ds.length:=by have:=(aK.mp hy).1; omega
  have ei:ds[i]? =some (ds.getD i .non):=by simp [bS,li]
  have ek:ds[k]? =some (ds.getD k .non):=by simp [bS,lk]
  obtain ⟨v1,g1,r1⟩:=rl.get ei; obtain ⟨v2,g2,r2⟩:=rl.get ek; obtain ⟨u1,w1,z1⟩:=rv.get g1; obtain ⟨u2,w2,z2⟩:=rv.get g2; rw [hx] at w1; rw [hy] at w2; cases w1; cases w2; have mi:=bB ei; have mk:=bB ek; exact ltAt_D hJ (ds.getD i .non) (M.cmp _ mi _ mk) (M.pl _ mi) (M.pl _ mk) r1 r2 z1 z2 (by have:=M.dep _ mi; simp only [Around.in1]; omega) X.prog X.w _ _ q'
 ·exact zQ (cs:=[]) I.hok (fun b u _ g=>aE _ g) (fun b hb=>by cases hb)
 ·intro h1 h2 j1 kp; refine zQ (cs:=[s.heap.objs.size+1,s.heap.objs.size]) j1 (fun b u hb g=>kp b u (fun z=>hb ?_) g) fun b hb=> ?_
  ·rw [hG] at z; exact z
  ·simp only [aX,dE,or_false] at hb
   rcases hb with rfl | rfl
   ·exact I.hok.fresh (iZ _)
   ·exact I.hok.fresh (aM _)
 ·have eb:argBest (fun i k=>dlt (ds.getD i .non) (ds.getD k .non)) (its.toArray.size - 1)=jY ds:=by unfold jY; rw [aS]; congr 1; omega
  rw [eb] at pv; have pv:its[jY ds]? =some v:=by simpa using pv
  have lb:jY ds<xs.length:=by have:=(aK.mp pv).1; omega
  have ex:xs[jY ds]? =some xs[jY ds]:=by simp [lb]
  obtain ⟨u,hu,ru⟩:=rv.get ex; rw [pv] at hu; cases hu; refine ⟨xs[jY ds],H,I.kept (t':=tk) fun b o g=>k b o (fun z=> ?_) (aE _ g),ru,q _ ex⟩; have zb:b=s.heap.objs.size:=by simpa using z
  exact bP (aO g) zb
theorem pd_minD {p:Pos} {ds:List D} {d:D} (hg:Gl X "min") (hm:X.mg "min"=none) (ha:PEd X sd e (.bor ds)) (M:MinOk X ds) (hd:ds[jY ds]? =some d) (hc:X.calm=true:=by rfl) (hst:starEach [e] X.env=(false,eval e X.env)::starEach [] X.env:=by rfl):PEd X sd (.Call (.Name "min" p) [e] [] pos) (.val d):=
 oI (he:=hst) (call_minC hc) hg hm boot_min (aD ha aP trivial hst) fun σ F H vs Q S q k=>by
  cases q with
  | cons q1 q2=>cases q2; obtain ⟨p,xs,rfl,hp,rl,_⟩:=q1; refine ⟨p,xs,ds,rfl, .of hp,rl.mono S.sub,M,fun v hv=>k v F H S (Same.refl _) ?_⟩; obtain ⟨v',g,r'⟩:=rl.get hd; rw [hv] at g; cases g; exact r'
end
theorem xV {α β:Type}:∀ (a:List α) (b:List β) (n:Nat),a.length=b.length→(a.zip b).eraseIdx n=(a.eraseIdx n).zip (b.eraseIdx n)
 | [],[],_,_=>by simp
 | _::_,[],_,h=>by simp at h
 | [],_::_,_,h=>by simp at h
 | x::a,y::b,0,_=>rfl
 | x::a,y::b,n+1,h=>by show (x,y)::(a.zip b).eraseIdx n=(x,y)::(a.eraseIdx n).zip (b.eraseIdx n); rw [xV a b n (by simpa using h)]
theorem xC {α β:Type} (f:α→β):∀ (l:List α) (n:Nat),(l.eraseIdx n).map f=(l.map f).eraseIdx n
 | [],_=>by simp
 | _::_,0=>rfl
 | x::l,n+1=>by show f x::(l.eraseIdx n).map f=f x::(l.map f).eraseIdx n; rw [xC f l n]
theorem mem_owned {sd:List Slot} {j:Nat} {z:Slot} {a:Addr} (h:sd[j]? =some z) (ha:a∈iB z):a∈cC sd:=eA.mpr ⟨z,bB h,ha⟩
section
variable {K:aA} {H₀ F F' H H':Hp} {σ:St} {sd:List Slot} {i:Nat} {l:Addr} {ls:List Addr} {dss:List (List D)} {P:Program} {w:World} {ks:List (List Key)}
theorem StF.popG {o:Obj} (n:Nat) (S:StF K H₀ F H σ sd) (hs:sd[i]? =some (odG P w K l ks ls dss)) (nc:∀v,o.data≠ .cell v) (td:TDo P w F l o ((ks.zip (ls.map V.ref)).eraseIdx n)):
  StF K H₀ F (upd H l (exO l o)) σ (sd.set i (odG P w K l (ks.eraseIdx n) (ls.eraseIdx n) (dss.eraseIdx n))):=by
 obtain ⟨g1,g2,⟨o',g3,nc',hl,_⟩,g4,g5⟩:=iL S hs; obtain ⟨n1,n2⟩:=bT.mp g5
 have sb:∀b,b∈l::ls.eraseIdx n→b∈l::ls:=fun b hb=>by
  rcases aX.mp hb with h | h
  ·exact h▸aG
  ·exact aF _ (jK h)
 refine S.reX (z':=odG P w K l (ks.eraseIdx n) (ls.eraseIdx n) (dss.eraseIdx n)) hs g1 (fun b ob hb q=> ?_) (mW S.smp l) (vW (fun b hb=>g2 b (sb b hb)) bV nc ?_ ?_ ?_) ?_ fun b hb=> .inl (sb b hb)
 ·rw [bO (show b≠l from fun z=>hb (z▸aG))]; exact q
 ·rw [List.length_eraseIdx,List.length_eraseIdx,hl]
 ·rw [xC,← xV _ _ _ (by rw [aC]; exact hl)]; exact td
 ·refine InD.erase n (g4.mono2 (Same.refl _) fun b hb ob q=> ?_); rw [bO (show b≠l from fun z=>n1 (z▸hb))]; exact q
 ·show (l::ls.eraseIdx n).Nodup; exact bT.mpr ⟨fun h=>n1 (jK h),n2.sublist (oZ _ _)⟩
end
open PySem.W (kat_lt kat_kind KatTups KatLex)
noncomputable abbrev Pr2:=List Int × List Int
noncomputable def p2D (x:Pr2):D:= .tup [aV x.1,aV x.2]
theorem rD:∀a b:List Int,sY (a.map D.int) (b.map D.int)=true
 | [],_=>rfl
 | _::_,[]=>rfl
 | x::a,y::b=>by show (true && sY (a.map D.int) (b.map D.int))=true; rw [rD a b]; rfl
theorem cmp_p2 (x y:Pr2):sY [aV x.1,aV x.2] [aV y.1,aV y.2]=true:=by show (sY (x.1.map D.int) (y.1.map D.int) && (sY (x.2.map D.int) (y.2.map D.int) && true))=true; rw [rD,rD]; rfl
theorem uT {K:aA} {F:Hp} {x:List Int} {v:V} (h:Rep K F (aV x) v):∃c,v= .ref c∧F c=some (.tup (x.map V.int)):=by simp only [aV,Rep] at h; obtain ⟨c,ys,rfl,e,r⟩:=h; have:=(show RepL K F (x.map D.int) ys from r).ints; subst this; exact ⟨c,rfl,e⟩
theorem yX:∀ {x y:List Int},x.map V.int=y.map V.int→x=y
 | [],[],_=>rfl
 | [],_::_,h=>by cases h
 | _::_,[],h=>by cases h
 | a::x,b::y,h=>by
  rw [bA,bA] at h; injection h with h1 h2
  injection h1 with h1
  rw [h1,yX h2]
theorem rep_p2 {K:aA} {F:Hp} {x:Pr2} {v:V} (h:Rep K F (p2D x) v):∃a c d,v= .ref a∧F a=some (.tup [.ref c, .ref d])∧F c=some (.tup (x.1.map V.int))∧F d=some (.tup (x.2.map V.int)):=by simp only [p2D,Rep] at h; obtain ⟨a,ys,rfl,e,r⟩:=h; obtain ⟨v1,ys1,rfl,r1,t1⟩:=r.uncons; obtain ⟨v2,ys2,rfl,r2,t2⟩:=t1.uncons; simp only [RepL] at t2; subst t2; obtain ⟨c,rfl,f1⟩:=uT r1; obtain ⟨d,rfl,f2⟩:=uT r2; exact ⟨a,c,d,rfl,e,f1,f2⟩
theorem rep_p2_inj {K:aA} {F:Hp} {x y:Pr2} {v:V} (h:Rep K F (p2D x) v) (g:Rep K F (p2D y) v):x=y:=by obtain ⟨a,c,d,rfl,e,f1,f2⟩:=rep_p2 h; obtain ⟨a',c',d',ea,e',f1',f2'⟩:=rep_p2 g; cases ea; rw [e] at e'; cases e'; rw [f1] at f1'; rw [f2] at f2'; have h1:=yX (HO.tup.inj (cI.inj f1')); have h2:=yX (HO.tup.inj (cI.inj f2')); exact Prod.ext h1 h2
structure SrtP (A:Around) (ps:List Pr2) (rk:Pr2→Nat):Prop where
 len:ps.length≤10000
 lt:∀x∈ps,∀y∈ps,dlt (p2D x) (p2D y)=decide (rk x<rk y)
 nd:(ps.map rk).Nodup
 un:A.units+8<cLine
section
variable {X:Cx}
theorem call_sortP:oB X (.builtin "sorted") (fun vs H Q=>∃ (a:Addr) (xs:List V) (ps:List Pr2) (rk:Pr2→Nat),vs=[.ref a]∧H a=some (.lst xs)∧RepL X.K H (ps.map p2D) xs∧SrtP X.A ps rk∧
  ∀ (D:Addr) (ys:List V) (qs:List Pr2),H D=none→qs.Perm ps→(qs.map rk).Pairwise (·<·)→(∀F,RepL X.K F (ps.map p2D) xs→RepL X.K F (qs.map p2D) ys)→Q (.ref D) (upd H D (.lst ys))):=by
 intro pins s σ H vs us Q I r h; obtain ⟨a,xs,ps,rk,rfl,ha,rl,M,q⟩:=h; obtain ⟨u,rfl,rx⟩:=oJ r; cases (show u=Value.ref a from rx); obtain ⟨z,its,n,rv,hl2,eo⟩:=I.lstM ha
 have tb:∀ {ps:List Pr2} {xs:List V} {us:List Value},RepL X.K H (ps.map p2D) xs→Vals xs us→∃T:List (Pr2 × Addr),us=(T.map fun r=>Value.ref r.2)∧xs=(T.map fun r=>V.ref r.2)∧ps=(T.map fun r=>r.1)∧∀r∈T,Rep X.K H (p2D r.1) (.ref r.2):=by
  intro ps
  induction ps with
  | nil=>intro xs us r rv; rw [eI] at r; simp only [RepL] at r; subst r; cases rv; exact ⟨[],rfl,rfl,rfl,fun r h=>(dE h).elim⟩
  | cons x ps ih=>
   intro xs us r rv; rw [bA] at r; obtain ⟨v,xs,rfl,a,rl⟩:=r.uncons; cases rv with
   | cons ru rv=>
    obtain ⟨T,e1,e2,e3,t1⟩:=ih rl rv; obtain ⟨b,c,d,rfl,_⟩:=rep_p2 a; cases ru; refine ⟨(x,b)::T,by rw [bA,← e1],by rw [bA,← e2],by rw [bA,← e3],fun r hr=> ?_⟩
    rcases aX.mp hr with rfl | hr
    ·exact a
    ·exact t1 r hr
 obtain ⟨T,rfl,rfl,rfl,tr⟩:=tb rl rv
 obtain ⟨rkW,hrk⟩:∃rkW:Value→Nat,∀r∈T,rkW (.ref r.2)=rk r.1:=by
  classical
  refine ⟨fun v=>if h:∃r∈T,v=Value.ref r.2 then rk h.choose.1 else 0,fun r hr=> ?_⟩; have h:∃r'∈T,Value.ref r.2=Value.ref r'.2:=⟨r,hr,rfl⟩; show (if h:∃r'∈T,Value.ref r.2=Value.ref r'.2 then rk h.choose.1 else 0)=_; rw [dif_pos h]
  have e2:r.2=h.choose.2:=by have:=h.choose_spec.2; injection this
  have r2:=tr _ h.choose_spec.1; rw [← e2] at r2; rw [rep_p2_inj r2 (tr r hr)]
 have lT:T.length≤10000:=by simpa using M.len
 have mv:∀x∈(T.map fun r=>Value.ref r.2),∃r∈T,x=Value.ref r.2:=fun x hx=>by obtain ⟨r,hr,e⟩:=aQ.mp hx; exact ⟨r,hr,e.symm⟩
 have ew:∀T':List (Pr2 × Addr),(∀r∈T',r∈T)→(T'.map fun r=>Value.ref r.2).map rkW=(T'.map fun r=>r.1).map rk:=fun T' h=>by rw [aR,aR]; exact bN fun r hr=>hrk r (h r hr)
 have hok':∀t:Shared,(∀b o,s.heap.get? b=some o→t.heap.get? b=some o)→HOk X.prog X.w H t.heap:=fun t k=>zQ (cs:=[]) I.hok (fun b u _ g=>k b u g) fun b hb=>(dE hb).elim
 refine sorted_any (l:=a) (vs:=T.map fun r=>Value.ref r.2) (κ:=tuples' false) (rk:=rkW) ⟨_,eo,rfl,n,rfl⟩ (by rw [ew T fun _ h=>h]; exact M.nd) (by rw [aC]; exact lT) (fun t kp h2 A' R E' _ hR=> ?_) (fun t kp x hx y hy A' R E' hA hR=> ?_) fun out p1 p2=> ?_
 ·have ok:=hok' t kp
  have kt:∀T':List (Pr2 × Addr),(∀r∈T',r∈T)→∃fs:List Value,KatTups t.heap (T'.map fun r=>Value.ref r.2) fs∧fs.length=T'.length∧∀v∈fs,∃c o,v= .ref c∧t.heap.get? c=some o∧o.cls= .type "tuple":=fun T'=>by
   induction T' with
   | nil=>exact fun _=>⟨[], .nil,rfl,fun v hv=>(dE hv).elim⟩
   | cons r T' ih=>
    intro h; obtain ⟨fs,k,l,i⟩:=ih fun r hr=>h r (aF _ hr)
    have rr:=tr r (h r aG); obtain ⟨b,ys,its,e1,e2,r2,v2,o,g,c,n',hd⟩:=iC ok rr (show RelV (.ref r.2) (.ref r.2) from rfl); cases e1; cases e2; have r2:RepL X.K H [aV r.1.1,aV r.1.2] ys:=r2; obtain ⟨w1,ys1,rfl,q1,t1⟩:=r2.uncons; obtain ⟨w2,ys2,rfl,q2,t2⟩:=t1.uncons; simp only [RepL] at t2; subst t2; obtain ⟨c1,rfl,f1⟩:=uT q1; cases v2 with
    | cons ru1 v2=>
     cases ru1; obtain ⟨b1,ys1,its1,e3,e4,_,_,o1,g1,cc1,_⟩:=iC ok q1 (show RelV (.ref c1) (.ref c1) from rfl); cases e3; refine ⟨.ref c1::fs,KatTups.cons g c hd (by simp) k,by rw [bU,bU,l],fun v hv=> ?_⟩
     rcases aX.mp hv with rfl | hv
     ·cases e4; exact ⟨_,o1,rfl,g1,cc1⟩
     ·exact i v hv
  obtain ⟨fs,k,l,i⟩:=kt T fun _ h=>h
  rw [aC] at h2; refine kat_kind (T:= .type "tuple") k (by omega) (fun v hv=> ?_) rfl hR; obtain ⟨c,o,rfl,g,e⟩:=i v hv; have:PySem.W.Looks (model X.prog X.w) t.heap (typeOf (.ref c)) o.cls:=(PySem.W.Looks.ld g).andThen .now; rw [e] at this; exact this
 ·have ok:=hok' t kp; obtain ⟨rx,hrx,rfl⟩:=mv x hx; obtain ⟨ry,hry,rfl⟩:=mv y hy; obtain ⟨b,ys,its,e1,e2,r2,v2,o,g,c,n',hd⟩:=iC ok (tr rx hrx) (show RelV (.ref rx.2) (.ref rx.2) from rfl); cases e1; cases e2; obtain ⟨b',ys',its',e1,e2,r2',v2',o',g',c',n'',hd'⟩:=iC ok (tr ry hry) (show RelV (.ref ry.2) (.ref ry.2) from rfl); cases e1; cases e2; have r2:RepL X.K H [aV rx.1.1,aV rx.1.2] ys:=r2; have r2':RepL X.K H [aV ry.1.1,aV ry.1.2] ys':=r2'; have l1:its.length=2:=by rw [← v2.length,r2.len]; rfl
  have l2:its'.length=2:=by rw [← v2'.length,r2'.len]; rfl
  refine kat_lt g hd g' hd' (kat_lex (A:=A') (b:=pM [aV rx.1.1,aV rx.1.2] [aV ry.1.1,aV ry.1.2]) ?_ ?_)
  ·refine ltAt_L ok [aV rx.1.1,aV rx.1.2] (es:=[aV ry.1.1,aV ry.1.2]) ?_ ?_ ?_ r2 r2' v2 v2' ?_ (by simp [l1,l2])
   ·exact cmp_p2 rx.1 ry.1
   ·show (pl (aV rx.1.1) && (pl (aV rx.1.2) && true))=true; rw [lV,lV]; rfl
   ·show (pl (aV ry.1.1) && (pl (aV ry.1.2) && true))=true; rw [lV,lV]; rfl
   ·have:=M.un; show A'.units+1+max (dep (aV rx.1.1)) (max (dep (aV rx.1.2)) 0)<cLine; rw [qK,qK]; show A'.units+1+1<cLine; omega
  ·have e:pM [aV rx.1.1,aV rx.1.2] [aV ry.1.1,aV ry.1.2]=decide (rkW (.ref rx.2)<rkW (.ref ry.2)):=by rw [hrk rx hrx,hrk ry hry]; exact M.lt _ (List.mem_map_of_mem (f:=fun r:Pr2 × Addr=>r.1) hrx) _ (List.mem_map_of_mem (f:=fun r:Pr2 × Addr=>r.1) hry)
   rw [e]; exact hR
 ·obtain ⟨T',q1,q2⟩:=zU (f:=fun r:Pr2 × Addr=>Value.ref r.2) (l:=T) (l':=out.toList) p1
  have eo2:out=(T'.map fun r=>Value.ref r.2).toArray:=by apply tI.mp; rw [q2]
  rw [q2,ew T' fun r hr=>q1.mem_iff.mp hr] at p2; subst eo2; obtain ⟨kp,n2,g2⟩:=srt_keep s.heap (T.map fun r=>Value.ref r.2) (T'.map fun r=>Value.ref r.2).toArray; have hD:H (s.heap.objs.size+1)=none:=I.hok.fresh (iZ _); have lT':T'.length=T.length:=q1.length_eq
  have vv:Vals (T'.map fun r=>V.ref r.2) (T'.map fun r=>Value.ref r.2):=by
   generalize T'=U
   induction U with
   | nil=>exact .nil
   | cons r U ih=>exact .cons rfl ih
  have I3:Inv X pins σ (upd H (s.heap.objs.size+1) (.lst (T'.map fun r=>V.ref r.2))) {s with heap:=sortedAll s.heap (T.map fun r=>Value.ref r.2) (T'.map fun r=>Value.ref r.2).toArray}:=
   I.laid (t':=s.toks) kp (iZ _) ⟨by rw [sizeLine_eq,aC]; omega,_,n2,vv,by simpa [seqObj] using g2⟩
  refine ⟨.ref (s.heap.objs.size+1),_,I3,rfl,q _ (T'.map fun r=>V.ref r.2) (T'.map fun r=>r.1) hD (q1.map _) p2 fun F rF=> ?_⟩
  have all:∀ {U:List (Pr2 × Addr)},RepL X.K F ((U.map fun r=>r.1).map p2D) (U.map fun r=>V.ref r.2)→∀r∈U,Rep X.K F (p2D r.1) (.ref r.2):=fun {U}=>by
   induction U with
   | nil=>exact fun _ r hr=>(dE hr).elim
   | cons y U ih=>
    intro h r hr; rw [bA,bA,bA] at h; obtain ⟨v,vs,e,a1,a2⟩:=h.uncons; cases e
    rcases aX.mp hr with rfl | hr
    ·exact a1
    ·exact ih a2 r hr
  have aT:=all rF; have rT:∀r∈T',Rep X.K F (p2D r.1) (.ref r.2):=fun r hr=>aT r (q1.mem_iff.mp hr)
  clear vv I3 g2 p2 q1 q2 p1 lT' kp
  induction T' with
  | nil=>exact .nil
  | cons r U ih=>exact .cons (rT r aG) (ih fun q hq=>rT q (aF _ hq))
end
section
variable {X:Cx} {sd:List Slot} {b:Expr} {pos:Pos} {ks:List (List Key)} {k:List Key} {E:jG} {l:Addr} {ls:List Addr} {dss:List (List D)} {ps:List Pr2} {rk:Pr2→Nat}
theorem psd_popS (i j n:Nat) {x y:Str} {px py p ap cp p2:Pos} (hu:X.A.units+1<cLine) (hg:Gl X "sorted") (hm:X.mg "sorted"=none) (hs:sd[i]? =some (odG X.prog X.w X.K l ks ls dss)) (hx:PE X (.Name x px) (mG i)) (hb:PEd X sd b (.val (.tup (k.map kD)))) (hk:ks[n]? =some k) (hd:dss[n]? =some (ps.map p2D)) (M:SrtP X.A ps rk)
  (hN:X.N.Nodup) (hj:X.N[j]? =some y) (hy:Loc X.env.scope y)
  (hE:∀ (l':Addr) (qs:List Pr2),qs.Perm ps→(qs.map rk).Pairwise (·<·)→E.nx ((sd.set i (odG X.prog X.w X.K l (ks.eraseIdx n) (ls.eraseIdx n) (dss.eraseIdx n))).set j (.own l' (qs.map p2D))))
  (hpop:PE X (.Call (.Attribute (.Name x px) "pop" ap) [b] [] cp) (fun σ H Q=>mG i σ H fun v H1=>(∃l ob,v= .ref l∧H1 l=some (exO l ob)∧ob.ExactDict)∧(pF (wE X b) tNil) σ H1 fun xs H2=>rPop X v xs H2 Q):=by exact pe_dm xX PySem.F.slot_dict_pop PySem.F.type_dict_pop mt_pop (pv _) (iD iJ pa_nil))
  (hst:starEach [.Call (.Attribute (.Name x px) "pop" ap) [b] [] cp] X.env=(false,eval (.Call (.Attribute (.Name x px) "pop" ap) [b] [] cp) X.env)::starEach [] X.env:=by rfl)
  (hsw:swapsWith (.Call (.Name "sorted" p) [.Call (.Attribute (.Name x px) "pop" ap) [b] [] cp] [] p2) (some (.Name y py)) pos.line X.env=pure false:=by rfl)
  (hf:X.fn y=true∨X.env.scope.names.lookup y=some .local:=by first | exact .inl rfl | exact .inr rfl | assumption):
  PSd1 X sd (.Assign [.Name y py] (.Call (.Name "sorted" p) [.Call (.Attribute (.Name x px) "pop" ap) [b] [] cp] [] p2) pos) E:= .mk fun σ F H S=>
 (sG hN hj hy (wC call_sortP hg hm boot_sorted (iD hpop pa_nil hst) (by decide) (by decide) hst rfl) hsw hf).to (by
  obtain ⟨h1,h2,⟨o,h3,nc,hk2,td⟩,h4,h5⟩:=iL S hs; refine ⟨.ref l,h1,⟨l,o,rfl,h3,td.2.2.choose_spec.2.choose_spec.choose_spec.1⟩,(hb σ F H S).imp fun v1 H1 ⟨F1,S1,s1,q1⟩=> ?_⟩; obtain ⟨g1,g2,⟨o2,g3,nc2,hk3,td2⟩,g4,g5⟩:=iL S1 hs; obtain ⟨n1,n2⟩:=bT.mp g5; simp only [ResOk,Rep] at q1; obtain ⟨ad,ys,rfl,ha,rl⟩:=q1; rw [qL rl] at ha; have nl:n<ls.length:=by have:=(aK.mp hk).1; omega
  have e3:ls[n]? =some ls[n]:=by simp [nl]
  generalize ls[n]=an at e3; obtain ⟨ds,xs,d1,d2,d3⟩:=g4.get e3; rw [hd] at d1; cases d1; have anl:an≠l:=fun z=>n1 (z▸bB e3)
  have zg:(ks.zip (ls.map V.ref))[n]? =some (k,V.ref an):=by rw [zZ]; exact ⟨hk,by rw [bJ,e3]; rfl⟩
  refine ⟨F1,l,ad,k, .ref an,n,o2,ks.zip (ls.map V.ref),rfl,rfl,S1.sub,g3,ha,hu,td2,zg,fun o' nc' td'=> ?_⟩; have S2:=S1.popG n hs nc' td'; refine ⟨an,xs,ps,rk,rfl,by rw [bO anl]; exact d2,d3.mono S2.sub,M,fun D ys qs hD pm pw hr=> ?_⟩; obtain ⟨S3,fp,no⟩:=S2.layO (xs:=ys) hD
  exact ⟨_,F1,S3.setO j fp bV (hr F1 d3) no,s1,hE D qs pm pw⟩)
end
theorem InD.snocL {K:aA} {F H:Hp} {a:Addr} {ds:List D} {xs:List V}:∀ {as:List Addr} {dss:List (List D)},InD K F H as dss→H a=some (.lst xs)→RepL K F ds xs→InD K F H (as++[a]) (dss++[ds])
 | [],[],_,e,r=>⟨⟨xs,e,r⟩,trivial⟩
 | [],_::_,h,_,_=>h.elim
 | _::_,[],h,_,_=>h.elim
 | _::_,_::_,h,e,r=>⟨h.1,InD.snocL h.2 e r⟩
section
variable {K:aA} {H₀ F F' H H':Hp} {σ:St} {sd:List Slot} {i:Nat} {l:Addr} {ls:List Addr} {dss:List (List D)} {P:Program} {w:World} {ks:List (List Key)}
theorem StF.newW {a:Addr} {o:Obj} {k:List Key} {ds:List D} {xs:List V} (S:StF K H₀ F H σ sd) (hs:sd[i]? =some (odG P w K l ks ls dss)) (fa:F a=none) (ha:H a=some (.lst xs)) (rl:RepL K F ds xs) (na:a∉cC sd) (nc:∀v,o.data≠ .cell v) (td:TDo P w F l o (ks.zip (ls.map V.ref)++[(k, .ref a)])):
  StF K H₀ F (upd H l (exO l o)) σ (sd.set i (odG P w K l (ks++[k]) (ls++[a]) (dss++[ds]))):=by
 obtain ⟨g1,g2,⟨o',g3,nc',hl,_⟩,g4,g5⟩:=iL S hs; obtain ⟨n1,n2⟩:=bT.mp g5; have ml:∀b∈l::ls,b∈cC sd:=fun b hb=>mem_owned hs hb
 have al:a≠l:=fun z=>na (z▸ml l aG)
 have als:a∉ls:=fun z=>na (ml a (aF _ z))
 have sp:∀b,b∈l::(ls++[a])→b∈l::ls∨b=a:=fun b hb=>by
  rcases aX.mp hb with h | h
  ·exact .inl (h▸aG)
  ·rcases bE.mp h with h | h
   ·exact .inl (aF _ h)
   ·exact .inr (aI.mp h)
 refine S.reX (z':=odG P w K l (ks++[k]) (ls++[a]) (dss++[ds])) hs g1 (fun b ob hb q=> ?_) (mW S.smp l) (vW (fun b hb=> ?_) bV nc (by rw [aW,aW,hl]; rfl) ?_ ?_) ?_ fun b hb=> ?_
 ·rw [bO (show b≠l from fun z=>hb (z▸aG))]; exact q
 ·rcases sp b hb with h | rfl
  ·exact g2 b h
  ·exact fa
 ·rw [bF,bA,eI,rR (by rw [aC]; exact hl)]; exact td
 ·refine InD.snocL (g4.mono2 (Same.refl _) fun b hb ob q=> ?_) ?_ rl
  ·rw [bO (show b≠l from fun z=>n1 (z▸hb))]; exact q
  ·rw [bO al]; exact ha
 ·show (l::(ls++[a])).Nodup; refine bT.mpr ⟨fun h=> ?_,bM.mpr ⟨n2,by simp,fun b hb c hc e=>als (aI.mp hc▸e▸hb)⟩⟩
  rcases bE.mp h with h | h
  ·exact n1 h
  ·exact al (aI.mp h).symm
 ·rcases sp b hb with h | rfl
  ·exact .inl h
  ·exact .inr na
end
section
variable {X:Cx} {sd:List Slot} {e:Expr} {pos:Pos} {ks:List (List Key)} {E:jG} {l:Addr} {ls:List Addr} {dss:List (List D)} {ds:List D}
theorem psd_putW (i:Nat) {x:Str} {p p2 q1 q2 tp:Pos} {c c':Int} {j1 j2 x1:Nat} (hu:X.A.units+1<cLine) (hs:sd[i]? =some (odG X.prog X.w X.K l ks ls dss)) (hx:PE X (.Name x p) (mG i)) (h:PEd X sd e (.own ds)) (hk:([Sum.inl c,Sum.inl c']:List Key)∉ks) (hl:dss.length≤1000)
  (hE:∀a,E.nx (sd.set i (odG X.prog X.w X.K l (ks++[[Sum.inl c,Sum.inl c']]) (ls++[a]) (dss++[ds]))))
  (hb:PE X (.Tuple [.Constant (.int c) j1 q1, .Constant (.int c') j2 q2] x1 tp) (tTup (pF (tC (.int c)) (pF (tC (.int c')) tNil))):=by exact pe_tup (iD pe_int (iD pe_int pa_nil)))
  (hsw:swapsWith e (some (.Subscript (.Name x p) (.Tuple [.Constant (.int c) j1 q1, .Constant (.int c') j2 q2] x1 tp) p2)) pos.line X.env=pure false:=by rfl):PSd1 X sd (.Assign [.Subscript (.Name x p) (.Tuple [.Constant (.int c) j1 q1, .Constant (.int c') j2 q2] x1 tp) p2] e pos) E:= .mk fun σ F H S pins s I=>by
 refine wpAny_Assign_Subscript (thn (h σ F H S pins s I) fun r s1 ⟨v,H1,I1,rv,F1,S1,sF1,q1⟩=> ?_) hsw; obtain ⟨a,xs,rfl,fa,ha,rl,na⟩:=q1; obtain rfl:r=Value.ref a:=rv; obtain ⟨h1,_⟩:=iL S1 hs; refine thn (hx pins s1 σ H1 (fun v H2=>v= .ref l∧H2=H1) I1 ⟨.ref l,h1,rfl,rfl⟩) fun u s2 ⟨y,H2,I2,ry,e1,e2⟩=> ?_
 subst e1 e2; obtain rfl:u=Value.ref l:=ry; refine thn (hb pins s2 σ H2 (fun v H3=>∃ad,v= .ref ad∧H2 ad=none∧H3=upd H2 ad (.tup [.int c, .int c'])) I2 ⟨by show 2≤sizeLine; decide,fun ad had=>⟨ad,rfl,had,rfl⟩⟩) fun iv s3 ⟨y,H3,I3,ry,ad,e1,fad,e3⟩=> ?_
 subst e1 e3; obtain rfl:iv=Value.ref ad:=ry; obtain ⟨S3,sF3⟩:=S1.lay (o:= .tup [.int c, .int c']) fad trivial; have ada:a≠ad:=fun z=>by rw [z,fad] at ha; cases ha
 have fa3:upd F1 ad (.tup [.int c, .int c']) a=none:=by rw [bO ada]; exact fa
 have ha3:upd H2 ad (.tup [.int c, .int c']) a=some (.lst xs):=by rw [bO ada]; exact ha
 obtain ⟨g1,g2,⟨o,g3,nc,hkl,z,hm,ts,kt,es,ep,t1,t2,t3,t4⟩,g4,g5⟩:=iL S3 hs; have had:upd F1 ad (.tup [.int c, .int c']) ad=some (.tup (([Sum.inl c,Sum.inl c']:List Key).map kV)):=bV; have ho:s3.heap.get? l=some o:=(I3.hok l _ g3).1; have ktH:=kt.keeps fun b ys e=>S3.sub _ _ e
 have dd:s3.heap.DictOfH (tupleKind (gC X.prog X.w)) l ts:=⟨o,es,ep,ho,t1,t2,t3,KT.all I3.hok ktH,t4⟩; have hz:ts.length≤sizeLine:=by rw [← Paired.length kt]; exact z
 have zl:(ks.zip (ls.map V.ref)).length=dss.length:=by rw [lC,aC,← hkl,tF,hkl,g4.len]
 have vn:kH (ks.zip (ls.map V.ref)) [Sum.inl c,Sum.inl c']=none:=xI hk fun _ z=>z
 have hl2:(putK (ks.zip (ls.map V.ref)) [Sum.inl c,Sum.inl c'] (.ref a)).length≤sizeLine:=by rw [vH _ vn,aW,zl]; have:=fH hl; show dss.length+1≤sizeLine; omega
 refine wpAny_setItem_heap (hsz:=hz) (tupleKind_room_in1 hu) (uU I3.hok (S3.sub _ _ had)) dd fun h' dd' hsm=> ?_
 obtain ⟨q,es',ep',hq,u2,u3,u4,_,u5⟩:=dd'; have I4:=tS (t':=s3.toks+(tupleKind (gC X.prog X.w)).draws [Sum.inl c,Sum.inl c']) I3 (ob:=exO l q) (by rw [g3]; exact True.intro) hsm ⟨q,hq⟩ (wF hq); have kt':=kt.put [Sum.inl c,Sum.inl c'] had (show RelV (.ref a) (.ref a) from rfl); rw [vH _ vn] at kt' hl2; exact ⟨σ,_,I4,_,_,S3.newW (o:=q) (k:=[Sum.inl c,Sum.inl c']) hs fa3 ha3 (rl.mono sF3) na (fun v z=>by rw [u3] at z; cases z) ⟨hl2,hm,_,kt',es',ep',u2,u3,u4,u5⟩,sF1.trans sF3,hE a⟩
end
noncomputable def rkK (r:Int × Int):List Key:=[Sum.inl r.1,Sum.inl r.2]
theorem rkK_inj {a b:Int × Int} (h:rkK a=rkK b):a=b:=by
 unfold rkK at h; injection h with h1 h2
 injection h2 with h2 _
 injection h1 with h1
 injection h2 with h2
 exact Prod.ext h1 h2
noncomputable abbrev WtT:=List ((Int × Int) × List Pr2)
structure Wt where
 l:Addr
 ls:List Addr
 T:WtT
noncomputable def wtK (T:WtT):List (List Key):=T.map fun t=>rkK t.1
noncomputable def wtD (T:WtT):List (List D):=T.map fun t=>t.2.map p2D
noncomputable def wtS (P:Program) (w:World) (K:aA) (a:Wt):Slot:=odG P w K a.l (wtK a.T) a.ls (wtD a.T)
noncomputable def wtL (P:Program) (w:World) (K:aA):Lent K:=⟨Wt,Wt.l,fun a=>a.l::a.ls,fun a=>Gg P w K a.l (wtK a.T) a.ls (wtD a.T),fun h=>h.1⟩
theorem wtL_soft (P:Program) (w:World) (K:aA) (a:Wt) (v:V) (F H:Hp) (b:Addr) (o:HO) (h:(wtL P w K).G a v F H) (hb:b∈(wtL P w K).own a) (e:H b=some o):¬ zY o:=by
 obtain ⟨_,⟨ob,g,_⟩,hI⟩:=h
 rcases aX.mp (show b∈a.l::a.ls from hb) with rfl | hb
 ·rw [g] at e; cases e; exact fun z=>z
 ·obtain ⟨xs,g2⟩:=InD.of hI b hb; rw [g2] at e; cases e; exact fun z=>z
noncomputable def jW:WtT→Int × Int→Pr2→WtT
 | [],r,x=>[(r,[x])]
 | t::T,r,x=>if t.1=r then (t.1,t.2++[x])::T else t::jW T r x
theorem uP {r:Int × Int} (x:Pr2):∀ {T:WtT},rkK r∉wtK T→jW T r x=T++[(r,[x])]
 | [],_=>rfl
 | t::T,h=>by
  have h1:t.1≠r:=fun e=>h (by unfold wtK; rw [bA,e]; exact aG)
  show (if t.1=r then _ else t::jW T r x)=_; rw [if_neg h1,uP x (T:=T) fun z=>h (aF _ z)]; rfl
theorem wD {r:Int × Int} (x:Pr2):∀ {T:WtT} {n:Nat} {ds:List D},(wtK T).Nodup→(wtK T)[n]? =some (rkK r)→(wtD T)[n]? =some ds→wtK (jW T r x)=wtK T∧wtD (jW T r x)=(wtD T).set n (ds++[p2D x])
 | [],n,ds,_,h,_=>by simp [wtK] at h
 | t::T,0,ds,nd,h,hd=>by
  have e:t.1=r:=rkK_inj (by simpa [wtK] using h); have e2:t.2.map p2D=ds:=by simpa [wtD] using hd
  have ea:jW (t::T) r x=(t.1,t.2++[x])::T:=if_pos e; rw [ea]; refine ⟨rfl, ?_⟩; show ((t.2++[x]).map p2D)::wtD T=((t.2.map p2D)::wtD T).set 0 _; rw [bF,e2]; rfl
 | t::T,n+1,ds,nd,h,hd=>by
  have nd':=bT.mp (show (rkK t.1::wtK T).Nodup from nd); have h':(wtK T)[n]? =some (rkK r):=by simpa [wtK] using h
  have hd':(wtD T)[n]? =some ds:=by simpa [wtD] using hd
  have ne:t.1≠r:=fun e=>nd'.1 (e▸bB h')
  have ea:jW (t::T) r x=t::jW T r x:=if_neg ne; obtain ⟨k1,k2⟩:=wD x nd'.2 h' hd'; rw [ea]; refine ⟨by show rkK t.1::wtK (jW T r x)=rkK t.1::wtK T; rw [k1], ?_⟩; show t.2.map p2D::wtD (jW T r x)=(t.2.map p2D::wtD T).set (n+1) _; rw [k2]; rfl
theorem addI_nd {r:Int × Int} (x:Pr2) {T:WtT} (nd:(wtK T).Nodup):(wtK (jW T r x)).Nodup:=by
 by_cases h:rkK r∈wtK T
 ·obtain ⟨n,hn⟩:=gS h
  have ln:n<T.length:=by have:=(aK.mp hn).1; simpa [wtK] using this
  obtain ⟨ds,hd⟩:∃ds,(wtD T)[n]? =some ds:=⟨_,by unfold wtD; rw [bJ,gW ln]; rfl⟩; rw [(wD x nd hn hd).1]; exact nd
 ·rw [uP x h]; unfold wtK; rw [bF]; refine bM.mpr ⟨nd,by simp,fun a ha b hb e=>h ?_⟩; have q:b=rkK r:=by simpa using hb
  rw [← q,← e]; exact ha
noncomputable def tot (T:WtT):Nat:=(T.map fun t=>t.2.length+1).sum
theorem tot_add (r:Int × Int) (x:Pr2):∀T:WtT,tot (jW T r x)≤tot T+2
 | []=>by simp [tot,jW]
 | t::T=>by
  have ih:=tot_add r x T; show tot (if t.1=r then (t.1,t.2++[x])::T else t::jW T r x)≤_
  split
  ·simp [tot]; omega
  ·simp [tot] at ih ⊢; omega
theorem tot_len (T:WtT):T.length≤tot T:=by
 induction T with
 | nil=>exact aM _
 | cons t T ih=>simp [tot] at ih ⊢; omega
theorem tot_mem {T:WtT}:∀ds∈wtD T,ds.length≤tot T:=by
 induction T with
 | nil=>exact fun ds h=>(dE h).elim
 | cons t T ih=>
  intro ds h
  rcases aX.mp (show ds∈t.2.map p2D::wtD T from h) with rfl | h
  ·rw [aC]; simp [tot]; omega
  ·have:=ih ds h; simp [tot] at this ⊢; omega
noncomputable def nP (x:List Nat × List Nat):Pr2:=(x.1.map fun (i:Nat)=>(i:Int),x.2.map fun (i:Nat)=>(i:Int))
theorem nP_D (x:List Nat × List Nat):p2D (nP x)= .tup [.tup (aY x.1), .tup (aY x.2)]:=by unfold p2D nP aV aY; rw [aR,aR]; rfl
noncomputable def lgQ (p:Int × Int) (L:List SK) (b:Int) (r:Int × Int) (row nb:List Nat):Nat→WtT→WtT
 | 0,T=>T
 | t+1,T=>if r.1+(L.getD t default).2≤b then jW (lgQ p L b r row nb t T) (r.1+(L.getD t default).2,r.2+1) (nP (row++[t],jB (jL p (L.getD t default).1) nb)) else lgQ p L b r row nb t T
theorem lg_nd {p:Int × Int} {L:List SK} {b:Int} {r:Int × Int} {row nb:List Nat} {T:WtT} (nd:(wtK T).Nodup):∀t,(wtK (lgQ p L b r row nb t T)).Nodup
 | 0=>nd
 | t+1=>by
  unfold lgQ
  split
  ·exact addI_nd _ (lg_nd nd t)
  ·exact lg_nd nd t
theorem lg_tot {p:Int × Int} {L:List SK} {b:Int} {r:Int × Int} {row nb:List Nat} {T:WtT}:∀t,tot (lgQ p L b r row nb t T)≤tot T+2 * t
 | 0=>aM _
 | t+1=>by
  have ih:=lg_tot (p:=p) (L:=L) (b:=b) (r:=r) (row:=row) (nb:=nb) (T:=T) t; unfold lgQ
  split
  ·have:=tot_add (r.1+(L.getD t default).2,r.2+1) (nP (row++[t],jB (jL p (L.getD t default).1) nb)) (lgQ p L b r row nb t T); omega
  ·omega
noncomputable def CPut (a:Wt) (ds:List D) (post:Wt→Prop):Prop:=∃p L b r row nb,p∈bX∧L.length≤100∧NOk p nb∧row.length≤400∧(wtK a.T).Nodup∧tot a.T+2 * L.length≤900∧ds=[.lst (L.map (mvD p)), .int b, .tup [.int r.1, .int r.2], .tup (aY row), .tup (aY nb)]∧post=fun a'=>a'.l=a.l∧a'.T=lgQ p L b r row nb L.length a.T
noncomputable def unP (y:Pr2):List Nat × List Nat:=(y.1.map qC,y.2.map qC)
theorem unP_nP (x:List Nat × List Nat):unP (nP x)=x:=by
 have g:∀l:List Nat,(l.map fun (i:Nat)=>(i:Int)).map qC=l:=fun l=>by rw [aR]; exact (bN fun i _=>dO i).trans (iG l)
 unfold unP nP; exact Prod.ext (g x.1) (g x.2)
structure FdS where
 T:WtT
 kn:List (List Nat)
 fd:List (Int × List Nat × List Nat)
noncomputable def fdI (p:Int × Int) (L:List SK) (b:Int) (r:Int × Int) (S:FdS) (x:List Nat × List Nat):FdS:=if x.2∈S.kn then S else ⟨lgQ p L b r x.1 x.2 L.length S.T,S.kn++[x.2],S.fd++[(r.1,x.1,x.2)]⟩
noncomputable def fdP (p:Int × Int) (L:List SK) (b:Int) (r:Int × Int) (S:FdS) (xs:List Pr2):FdS:=xs.foldl (fun S y=>fdI p L b r S (unP y)) S
theorem vJ (p:Int × Int) (L:List SK) (b:Int) (r:Int × Int) (S:FdS) (xs:List Pr2) (y:Pr2):fdP p L b r S (xs++[y])=fdI p L b r (fdP p L b r S xs) (unP y):=by unfold fdP; rw [jZ]; rfl
structure FdOk (S:FdS):Prop where
 nk:(wtK S.T).Nodup
 kn:S.kn=S.fd.map fun e=>e.2.2
 nd:S.kn.Nodup
theorem fdI_ok {p:Int × Int} {L:List SK} {b:Int} {r:Int × Int} {S:FdS} (h:FdOk S) (x:List Nat × List Nat):FdOk (fdI p L b r S x):=by
 unfold fdI
 split
 ·exact h
 ·rename_i q; refine ⟨lg_nd h.nk _, ?_,bM.mpr ⟨h.nd,by simp,fun a ha c hc e=>q ?_⟩⟩
  ·show S.kn++[x.2]=(S.fd++[(r.1,x.1,x.2)]).map _; rw [bF,← h.kn]; rfl
  ·have hc:c=x.2:=by simpa using hc
   rw [← hc,← e]; exact ha
noncomputable def rlt (r s:Int × Int):Prop:=r.1<s.1∨(r.1=s.1∧r.2<s.2)
instance (r s:Int × Int):Decidable (rlt r s):=inferInstanceAs (Decidable (_∨_))
noncomputable def rkD (r:Int × Int):D:= .tup [.int r.1, .int r.2]
theorem dlt_rk (r s:Int × Int):dlt (rkD r) (rkD s)=decide (rlt r s):=by
 have e:dlt (rkD r) (rkD s)=(if deq (.int r.1) (.int s.1)=true then (if deq (.int r.2) (.int s.2)=true then false else decide (r.2<s.2)) else decide (r.1<s.1)):=rfl; have d:∀a b:Int,deq (.int a) (.int b)=decide (a=b):=fun a b=>rfl
 rw [e,d,d]; unfold rlt
 by_cases h1:r.1=s.1
 ·by_cases h2:r.2=s.2
  ·simp [h1,h2]
  ·simp [h1,h2]
 ·have:¬ (r.1=s.1∧r.2<s.2):=fun z=>h1 z.1
  simp [h1]
theorem tU (bt:Nat→Nat→Bool):∀k,argBest bt k≤k
 | 0=>aM _
 | k+1=>by
  show (if bt (k+1) (argBest bt k)=true then k+1 else argBest bt k)≤k+1
  split
  ·exact aM _
  ·exact Nat.le_succ_of_le (tU bt k)
theorem uM (rs:List (Int × Int)):∀k,k<rs.length→∀j,j≤k→¬ rlt (rs.getD j (0,0)) (rs.getD (argBest (fun i k=>decide (rlt (rs.getD i (0,0)) (rs.getD k (0,0)))) k) (0,0))
 | 0,_,j,hj=>by
  have:j=0:=by omega
  subst this; show ¬ rlt _ (rs.getD 0 (0,0)); unfold rlt; omega
 | k+1,hk,j,hj=>by
  have ih:=uM rs k (by omega); generalize hb:argBest (fun i k=>decide (rlt (rs.getD i (0,0)) (rs.getD k (0,0)))) k=bk at ih
  have e:argBest (fun i k=>decide (rlt (rs.getD i (0,0)) (rs.getD k (0,0)))) (k+1)=if decide (rlt (rs.getD (k+1) (0,0)) (rs.getD bk (0,0)))=true then k+1 else bk:=by rw [← hb]; rfl
  rw [e]
  by_cases q:rlt (rs.getD (k+1) (0,0)) (rs.getD bk (0,0))
  ·rw [if_pos (decide_eq_true q)]
   by_cases hjk:j=k+1
   ·subst hjk; unfold rlt; omega
   ·have:=ih j (by omega); unfold rlt at *; omega
  ·rw [if_neg (by rw [decide_eq_false q]; decide)]
   by_cases hjk:j=k+1
   ·subst hjk; exact q
   ·exact ih j (by omega)
theorem pP {bt bt':Nat→Nat→Bool}:∀k,(∀i j,i≤k→j≤k→bt i j=bt' i j)→argBest bt k=argBest bt' k
 | 0,_=>rfl
 | k+1,h=>by
  have ih:=pP k fun i j hi hj=>h i j (by omega) (by omega)
  show (if bt (k+1) (argBest bt k)=true then k+1 else argBest bt k)=(if bt' (k+1) (argBest bt' k)=true then k+1 else argBest bt' k); have:=tU bt' k; rw [ih,h (k+1) (argBest bt' k) (aM _) (by omega)]
theorem min_wt {X:Cx} (hu:X.A.units+4<cLine) {T:WtT} (hne:T≠[]):MinOk X ((wtK T).map nG)∧∃t:(Int × Int) × List Pr2,T[jY ((wtK T).map nG)]? =some t∧((wtK T).map nG)[jY ((wtK T).map nG)]? =some (rkD t.1)∧(wtK T)[jY ((wtK T).map nG)]? =some (rkK t.1)∧(wtD T)[jY ((wtK T).map nG)]? =some (t.2.map p2D)∧∀s∈T,¬ rlt s.1 t.1:=by
 have l0:0<T.length:=jE.mpr hne
 have em:(wtK T).map nG=T.map fun t=>rkD t.1:=by unfold wtK; rw [aR]; rfl
 have ln:((wtK T).map nG).length=T.length:=by rw [em,aC]
 have mem:∀d∈(wtK T).map nG,∃r,d=rkD r:=fun d hd=>by rw [em] at hd; obtain ⟨t,_,rfl⟩:=aQ.mp hd; exact ⟨t.1,rfl⟩
 have gd:∀i,i<T.length→((wtK T).map nG).getD i .non=rkD ((T.map (·.1)).getD i (0,0)):=fun i hi=>by rw [em]; simp [bS,hi]
 have eb:jY ((wtK T).map nG)=argBest (fun i k=>decide (rlt ((T.map (·.1)).getD i (0,0)) ((T.map (·.1)).getD k (0,0)))) (T.length - 1):=by unfold jY; rw [ln]; exact pP _ fun i j hi hj=>by rw [gd i (by omega),gd j (by omega),dlt_rk]
 have bl:=tU (fun i k=>decide (rlt ((T.map (·.1)).getD i (0,0)) ((T.map (·.1)).getD k (0,0)))) (T.length - 1); have bm:=uM (T.map (·.1)) (T.length - 1) (by rw [aC]; omega); rw [← eb] at bl bm; generalize jY ((wtK T).map nG)=n at bl bm; have hn:n<T.length:=by omega
 have hT:T[n]? =some T[n]:=gW hn; refine ⟨⟨by rw [ln]; exact l0,fun d hd d2 hd2=> ?_,fun d hd=> ?_,fun d hd=> ?_⟩,T[n],hT, ?_, ?_, ?_,fun s hs=> ?_⟩
 ·obtain ⟨r,rfl⟩:=mem d hd; obtain ⟨r2,rfl⟩:=mem d2 hd2; rfl
 ·obtain ⟨r,rfl⟩:=mem d hd; rfl
 ·obtain ⟨r,rfl⟩:=mem d hd; show X.A.units+1+1<cLine; omega
 ·rw [em,bJ,hT]; rfl
 ·unfold wtK; rw [bJ,hT]; rfl
 ·unfold wtD; rw [bJ,hT]; rfl
 ·obtain ⟨j,hj⟩:=gS hs; have lj:j<T.length:=(aK.mp hj).1; have:=bm j (by omega); have e1:(T.map (·.1)).getD j (0,0)=s.1:=by simp [bS,hj]
  have e2:(T.map (·.1)).getD n (0,0)=T[n].1:=by simp [bS,hn]
  rw [e1,e2] at this; exact this
noncomputable def llt:List Int→List Int→Bool
 | [],[]=>false
 | [],_::_=>true
 | _::_,[]=>false
 | x::a,y::b=>if x=y then llt a b else decide (x<y)
theorem llt_D:∀a b:List Int,pM (a.map D.int) (b.map D.int)=llt a b
 | [],[]=>rfl
 | [],_::_=>rfl
 | _::_,[]=>rfl
 | x::a,y::b=>by
  have e:pM ((x::a).map D.int) ((y::b).map D.int)=if decide (x=y)=true then pM (a.map D.int) (b.map D.int) else decide (x<y):=rfl
  rw [e,llt_D a b]; show _=if x=y then llt a b else decide (x<y)
  by_cases h:x=y
  ·rw [if_pos (decide_eq_true h),if_pos h]
  ·rw [if_neg (by rw [decide_eq_false h]; decide),if_neg h]
theorem nV:∀a:List Int,llt a a=false
 | []=>rfl
 | x::a=>by show (if x=x then llt a a else decide (x<x))=false; rw [if_pos rfl]; exact nV a
theorem yW:∀a b:List Int,a≠b→llt a b=true∨llt b a=true
 | [],[],h=>absurd rfl h
 | [],_::_,_=> .inl rfl
 | _::_,[],_=> .inr rfl
 | x::a,y::b,h=>by
  show (if x=y then llt a b else decide (x<y))=true∨(if y=x then llt b a else decide (y<x))=true
  by_cases e:x=y
  ·subst e; rw [if_pos rfl,if_pos rfl]; exact yW a b fun z=>h (by rw [z])
  ·rw [if_neg e,if_neg (fun z=>e z.symm),decide_eq_true_iff,decide_eq_true_iff]; omega
theorem rZ:∀a b c:List Int,llt a b=true→llt b c=true→llt a c=true
 | [],[],_,h,_=>by cases h
 | [],_::_,[],_,h=>by cases h
 | [],_::_,_::_,_,_=>rfl
 | _::_,[],_,h,_=>by cases h
 | _::_,_::_,[],_,h=>by cases h
 | x::a,y::b,z::c,h1,h2=>by
  have h1:(if x=y then llt a b else decide (x<y))=true:=h1; have h2:(if y=z then llt b c else decide (y<z))=true:=h2; show (if x=z then llt a c else decide (x<z))=true
  by_cases e1:x=y
  ·subst e1; rw [if_pos rfl] at h1
   by_cases e2:x=z
   ·subst e2; rw [if_pos rfl] at h2 ⊢; exact rZ a b c h1 h2
   ·rw [if_neg e2] at h2 ⊢; exact h2
  ·rw [if_neg e1] at h1; have h1:=of_decide_eq_true h1
   by_cases e2:y=z
   ·subst e2; rw [if_neg e1]; exact decide_eq_true h1
   ·rw [if_neg e2] at h2; have h2:=of_decide_eq_true h2; rw [if_neg (by omega)]; exact decide_eq_true (by omega)
noncomputable def plt (x y:Pr2):Bool:=if x.1=y.1 then llt x.2 y.2 else llt x.1 y.1
theorem deq_T (a b:List Int):deq (aV a) (aV b)=decide (a=b):=oO a b
theorem plt_D (x y:Pr2):dlt (p2D x) (p2D y)=plt x y:=by
 have e:dlt (p2D x) (p2D y)=if deq (aV x.1) (aV y.1)=true then (if deq (aV x.2) (aV y.2)=true then false else pM (x.2.map D.int) (y.2.map D.int)) else pM (x.1.map D.int) (y.1.map D.int):=rfl
 rw [e,deq_T,deq_T,llt_D,llt_D]; unfold plt
 by_cases h:x.1=y.1
 ·rw [if_pos (decide_eq_true h),if_pos h]
  by_cases h2:x.2=y.2
  ·rw [if_pos (decide_eq_true h2),h2,nV]
  ·rw [if_neg (by rw [decide_eq_false h2]; decide)]
 ·rw [if_neg (by rw [decide_eq_false h]; decide),if_neg h]
theorem plt_irr (x:Pr2):plt x x=false:=by unfold plt; rw [if_pos rfl]; exact nV _
theorem yL {x y:Pr2} (h:x≠y):plt x y=true∨plt y x=true:=by
 unfold plt
 by_cases e:x.1=y.1
 ·rw [if_pos e,if_pos e.symm]; exact yW _ _ fun z=>h (Prod.ext e z)
 ·rw [if_neg e,if_neg fun z=>e z.symm]; exact yW _ _ e
theorem plt_tr {x y z:Pr2} (h1:plt x y=true) (h2:plt y z=true):plt x z=true:=by
 unfold plt at *
 by_cases e1:x.1=y.1
 ·rw [if_pos e1] at h1
  by_cases e2:y.1=z.1
  ·rw [if_pos e2] at h2; rw [if_pos (e1.trans e2)]; exact rZ _ _ _ h1 h2
  ·rw [if_neg e2] at h2; rw [e1,if_neg e2]; exact h2
 ·rw [if_neg e1] at h1
  by_cases e2:y.1=z.1
  ·rw [← e2,if_neg e1]; exact h1
  ·rw [if_neg e2] at h2
   by_cases e3:x.1=z.1
   ·have:=rZ _ _ _ h1 h2; rw [e3,nV] at this; cases this
   ·rw [if_neg e3]; exact rZ _ _ _ h1 h2
noncomputable def rkP (ps:List Pr2) (x:Pr2):Nat:=(ps.filter fun y=>plt y x).length
theorem vG {ps:List Pr2} {x y:Pr2} (hx:x∈ps) (h:plt x y=true):rkP ps x<rkP ps y:=by
 unfold rkP
 have e:ps.filter (fun z=>plt z x)=(ps.filter fun z=>plt z y).filter fun z=>plt z x:=by
  rw [List.filter_filter]; refine sS fun z _=> ?_
  cases q:plt z x with
  | false=>rfl
  | true=>rw [plt_tr q h]; rfl
 rw [e]; refine List.length_filter_lt_length_iff_exists.mpr ⟨x,gP.mpr ⟨hx,h⟩, ?_⟩; rw [plt_irr]; decide
theorem rkP_ok {A:Around} {ps:List Pr2} (nd:ps.Nodup) (hl:ps.length≤10000) (hu:A.units+8<cLine):SrtP A ps (rkP ps):=by
 have key:∀x∈ps,∀y∈ps,x≠y→rkP ps x≠rkP ps y:=fun x hx y hy ne=>by
  rcases yL ne with h | h
  ·exact bP (vG hx h)
  ·exact fQ (vG hy h)
 refine ⟨hl,fun x hx y hy=> ?_, ?_,hu⟩
 ·rw [plt_D]; cases h:plt x y with
  | true=>exact (decide_eq_true (vG hx h)).symm
  | false=>
   refine (decide_eq_false fun q=> ?_).symm
   by_cases e:x=y
   ·rw [e] at q; omega
   ·rcases yL e with z | z
    ·rw [h] at z; cases z
    ·have:=vG hy z; omega
 ·unfold List.Nodup; rw [mX]; exact List.Pairwise.imp_of_mem (fun {a b} ha hb h=>key a ha b hb h) nd
noncomputable def insP (x:Pr2):List Pr2→List Pr2
 | []=>[x]
 | y::l=>if plt x y then x::y::l else y::insP x l
noncomputable def iY:List Pr2→List Pr2
 | []=>[]
 | x::l=>insP x (iY l)
theorem rW (x:Pr2):∀l,(insP x l).Perm (x::l)
 | []=> .refl _
 | y::l=>by
  show (if plt x y then x::y::l else y::insP x l).Perm _
  split
  ·exact .refl _
  ·exact ((rW x l).cons y).trans (.swap x y l)
theorem iI:∀l,(iY l).Perm l
 | []=> .refl _
 | x::l=>(rW x (iY l)).trans ((iI l).cons x)
theorem insP_up {x:Pr2}:∀ {l:List Pr2},x∉l→l.Pairwise (fun a b=>plt a b=true)→(insP x l).Pairwise (fun a b=>plt a b=true)
 | [],_,_=>by simp [insP]
 | y::l,h,p=>by
  obtain ⟨p1,p2⟩:=jO.mp p; show (if plt x y then x::y::l else y::insP x l).Pairwise _
  by_cases q:plt x y=true
  ·rw [if_pos q]; refine jO.mpr ⟨fun z hz=> ?_,p⟩
   rcases aX.mp hz with rfl | hz
   ·exact q
   ·exact plt_tr q (p1 z hz)
  ·rw [if_neg q]; refine jO.mpr ⟨fun z hz=> ?_,insP_up (fun z=>h (aF _ z)) p2⟩
   rcases aX.mp ((rW x l).mem_iff.mp hz) with rfl | hz
   ·rcases yL (x:=z) (y:=y) (fun e=>h (e▸aG)) with w | w
    ·exact absurd w q
    ·exact w
   ·exact p1 z hz
theorem zR:∀ {l:List Pr2},l.Nodup→(iY l).Pairwise (fun a b=>plt a b=true)
 | [],_=>List.Pairwise.nil
 | x::l,h=>by obtain ⟨h1,h2⟩:=bT.mp h; exact insP_up (fun z=>h1 ((iI l).mem_iff.mp z)) (zR h2)
theorem srtP_eq {ps qs:List Pr2} (nd:ps.Nodup) (hp:qs.Perm ps) (hs:(qs.map (rkP ps)).Pairwise (·<·)):qs=iY ps:=by refine List.Perm.eq_of_pairwise (le:=fun x y=>rkP ps x<rkP ps y) (fun x y _ _ h1 h2=>by omega) (by rw [mX] at hs; exact hs) ?_ (hp.trans (iI ps).symm); exact List.Pairwise.imp_of_mem (fun {a b} ha _ h=>vG ((iI ps).mem_iff.mp ha) h) (zR nd)
noncomputable def fJ (T:WtT):Nat:=jY ((wtK T).map nG)
noncomputable def fdT (p:Int × Int) (L:List SK) (b:Int) (S:FdS):FdS:=match S.T[fJ S.T]? with
 | none=>S
 | some t=>fdP p L b t.1 {S with T:=S.T.eraseIdx (fJ S.T)} (iY t.2)
noncomputable def lH (p:Int × Int) (L:List SK) (b:Int):Nat→FdS→FdS
 | 0,S=>S
 | k+1,S=>if S.T=[] then S else lH p L b k (fdT p L b S)
noncomputable def inR (row:List Nat):List Int:=row.map fun (i:Nat)=>(i:Int)
theorem inR_inj {a b:List Nat} (h:inR a=inR b):a=b:=by
 have:(inR a).map qC=(inR b).map qC:=by rw [h]
 have g:∀l:List Nat,(inR l).map qC=l:=fun l=>by unfold inR; rw [aR]; exact (bN fun i _=>dO i).trans (iG l)
 rwa [g,g] at this
noncomputable def rwP (y:Pr2):List Nat:=(unP y).1
noncomputable def itP (p:Int × Int) (L:List SK) (row:List Nat):Pr2:=nP (row,nrQ p L row)
theorem pG (p:Int × Int) (L:List SK) (row:List Nat):rwP (itP p L row)=row:=by unfold rwP itP; rw [unP_nP]
theorem un_it (p:Int × Int) (L:List SK) (row:List Nat):unP (itP p L row)=(row,nrQ p L row):=unP_nP _
noncomputable def rkR (L:List SK) (row:List Nat):Int × Int:=(S45.prQ (prK L) row,(row.length:Int))
noncomputable def klt (L:List SK) (a c:List Nat):Prop:=rlt (rkR L a) (rkR L c)∨(rkR L a=rkR L c∧llt (inR a) (inR c)=true)
noncomputable def kle (L:List SK) (a c:List Nat):Prop:=a=c∨klt L a c
theorem rlt_tr {a b c:Int × Int} (h:rlt a b) (h2:rlt b c):rlt a c:=by unfold rlt at *; omega
theorem rlt_tot {a b:Int × Int} (h:a≠b) (h2:¬ rlt b a):rlt a b:=by
 obtain ⟨a1,a2⟩:=a; obtain ⟨b1,b2⟩:=b; unfold rlt at *; have:¬ (a1=b1∧a2=b2):=fun z=>h (by rw [z.1,z.2])
 simp only at *; omega
theorem klt_irr (L:List SK) (a:List Nat):¬ klt L a a:=by
 rintro (h | ⟨_,h⟩)
 ·unfold rlt at h; omega
 ·rw [nV] at h; cases h
theorem klt_tr {L:List SK} {a b c:List Nat} (h:klt L a b) (h2:klt L b c):klt L a c:=by
 rcases h with h | ⟨e,h⟩<;>rcases h2 with h2 | ⟨e2,h2⟩
 ·exact .inl (rlt_tr h h2)
 ·exact .inl (e2▸h)
 ·exact .inl (e▸h2)
 ·exact .inr ⟨e.trans e2,rZ _ _ _ h h2⟩
theorem kle_tr {L:List SK} {a b c:List Nat} (h:kle L a b) (h2:kle L b c):kle L a c:=by
 rcases h with rfl | h
 ·exact h2
 ·rcases h2 with rfl | h2
  ·exact .inr h
  ·exact .inr (klt_tr h h2)
theorem llt_snoc {x:Int}:∀ {a b:List Int},a.length=b.length→llt a b=true→llt (a++[x]) (b++[x])=true
 | [],[],_,h=>by cases h
 | [],_::_,h,_=>by cases h
 | _::_,[],h,_=>by cases h
 | u::a,v::b,hl,h=>by
  have h:(if u=v then llt a b else decide (u<v))=true:=h; show (if u=v then llt (a++[x]) (b++[x]) else decide (u<v))=true
  by_cases e:u=v
  ·rw [if_pos e] at h ⊢; exact llt_snoc (by simpa using hl) h
  ·rw [if_neg e] at h ⊢; exact h
theorem oU (L:List SK) (a:List Nat) (k:Nat):rkR L (a++[k])=((rkR L a).1+prK L k,(rkR L a).2+1):=by unfold rkR; rw [S45.pr_snoc,aW]; rfl
theorem kle_snoc {L:List SK} {a c:List Nat} (k:Nat) (h:kle L a c):kle L (a++[k]) (c++[k]):=by
 rcases h with rfl | h | ⟨e,h⟩
 ·exact .inl rfl
 ·refine .inr (.inl ?_); rw [oU,oU]; unfold rlt at *; simp only; omega
 ·refine .inr (.inr ⟨by rw [oU,oU,e], ?_⟩)
  have el:a.length=c.length:=by have:=congrArg Prod.snd e; have:(a.length:Int)=(c.length:Int):=this; omega
  show llt ((a++[k]).map fun (i:Nat)=>(i:Int)) ((c++[k]).map fun (i:Nat)=>(i:Int))=true; rw [bF,bF]; exact llt_snoc (by rw [aC,aC]; exact el) h
noncomputable def wrR (T:WtT):List (List Nat):=T.flatMap fun t=>t.2.map rwP
theorem wrR_mem {T:WtT} {row:List Nat}:row∈wrR T↔∃t∈T,∃y∈t.2,rwP y=row:=by
 unfold wrR; rw [eA]
 constructor
 ·rintro ⟨t,ht,h⟩; obtain ⟨y,hy,e⟩:=aQ.mp h; exact ⟨t,ht,y,hy,e⟩
 ·rintro ⟨t,ht,y,hy,e⟩; exact ⟨t,ht,aQ.mpr ⟨y,hy,e⟩⟩
theorem xL (r:Int × Int) (x:Pr2):∀T:WtT,(wrR (jW T r x)).Perm (rwP x::wrR T)
 | []=> .refl _
 | t::T=>by
  show (wrR (if t.1=r then (t.1,t.2++[x])::T else t::jW T r x)).Perm _
  split
  ·show ((t.2++[x]).map rwP++wrR T).Perm (rwP x::(t.2.map rwP++wrR T)); rw [bF,eD]; exact oE
  ·show (t.2.map rwP++wrR (jW T r x)).Perm (rwP x::(t.2.map rwP++wrR T)); exact ((xL r x T).append_left _).trans oE
theorem addI_mem {r:Int × Int} {x:Pr2}:∀ {T:WtT} {t':(Int × Int) × List Pr2},(∀t∈T,t.2≠[])→t'∈jW T r x→t'.2≠[]∧∀y∈t'.2,(y=x∧t'.1=r)∨∃t∈T,t.1=t'.1∧y∈t.2
 | [],t',_,h=>by
  have:t'=(r,[x]):=by simpa [jW] using h
  subst this; exact ⟨by simp,fun y hy=> .inl ⟨by simpa using hy,rfl⟩⟩
 | t::T,t',hn,h=>by
  have h:t'∈(if t.1=r then (t.1,t.2++[x])::T else t::jW T r x):=h
  by_cases e:t.1=r
  ·rw [if_pos e] at h
   rcases aX.mp h with rfl | h
   ·refine ⟨by simp,fun y hy=> ?_⟩
    rcases bE.mp hy with hy | hy
    ·exact .inr ⟨t,aG,rfl,hy⟩
    ·exact .inl ⟨by simpa using hy,e⟩
   ·exact ⟨hn _ (aF _ h),fun y hy=> .inr ⟨t',aF _ h,rfl,hy⟩⟩
  ·rw [if_neg e] at h
   rcases aX.mp h with rfl | h
   ·exact ⟨hn _ aG,fun y hy=> .inr ⟨t',aG,rfl,hy⟩⟩
   ·obtain ⟨h1,h2⟩:=addI_mem (fun z hz=>hn z (aF _ hz)) h; exact ⟨h1,fun y hy=>(h2 y hy).imp id fun ⟨z,hz,q⟩=>⟨z,aF _ hz,q⟩⟩
section
variable {p:Int × Int} {L:List SK} {b:Int} {r:Int × Int} {row nb:List Nat} {T:WtT}
noncomputable def chs (L:List SK) (b:Int) (r:Int × Int) (row:List Nat) (n:Nat):List (List Nat):=((bH n).filter fun k=>decide (r.1+prK L k≤b)).map fun k=>row++[k]
theorem chs_mem {n:Nat} {c:List Nat}:c∈chs L b r row n↔∃k,k<n∧r.1+prK L k≤b∧c=row++[k]:=by
 unfold chs; rw [aQ]
 constructor
 ·rintro ⟨k,hk,rfl⟩; obtain ⟨h1,h2⟩:=gP.mp hk; exact ⟨k,cN.mp h1,of_decide_eq_true h2,rfl⟩
 ·rintro ⟨k,h1,h2,rfl⟩; exact ⟨k,gP.mpr ⟨cN.mpr h1,decide_eq_true h2⟩,rfl⟩
theorem chs_nd (n:Nat):(chs L b r row n).Nodup:=by unfold chs List.Nodup; rw [mX]; refine List.Pairwise.imp (fun {a c} h e=>h ?_) (List.Pairwise.filter _ (List.nodup_range (n:=n))); simpa using List.append_cancel_left e
theorem lg_perm:∀n:Nat,(wrR (lgQ p L b r row nb n T)).Perm (chs L b r row n++wrR T)
 | 0=> .refl _
 | n+1=>by
  have ih:=lg_perm n
  have ec:chs L b r row (n+1)=chs L b r row n++(if r.1+prK L n≤b then [row++[n]] else []):=by
   unfold chs; rw [List.range_succ,List.filter_append,bF]; congr 1
   by_cases h:r.1+prK L n≤b
   ·simp [h]
   ·simp [h]
  rw [ec]; show (wrR (if r.1+(L.getD n default).2≤b then jW _ _ _ else _)).Perm _
  by_cases h:r.1+prK L n≤b
  ·rw [if_pos h,if_pos (show r.1+(L.getD n default).2≤b from h)]; refine (xL _ _ _).trans ?_
   have e:rwP (nP (row++[n],jB (jL p (L.getD n default).1) nb))=row++[n]:=by unfold rwP; rw [unP_nP]
   rw [e,eD]; exact (ih.cons _).trans oE.symm
  ·rw [if_neg h,if_neg (show ¬ r.1+(L.getD n default).2≤b from h),cZ]; exact ih
theorem yI:∀ (n:Nat) {t':(Int × Int) × List Pr2},(∀t∈T,t.2≠[])→t'∈lgQ p L b r row nb n T→t'.2≠[]∧∀y∈t'.2,(∃k,k<n∧r.1+prK L k≤b∧t'.1=(r.1+prK L k,r.2+1)∧y=nP (row++[k],jB (jL p (L.getD k default).1) nb))∨∃t∈T,t.1=t'.1∧y∈t.2
 | 0,t',hn,h=>⟨hn t' h,fun y hy=> .inr ⟨t',h,rfl,hy⟩⟩
 | n+1,t',hn,h=>by
  have h:t'∈(if r.1+(L.getD n default).2≤b then jW (lgQ p L b r row nb n T) (r.1+(L.getD n default).2,r.2+1) (nP (row++[n],jB (jL p (L.getD n default).1) nb)) else lgQ p L b r row nb n T):=h; have old:∀t∈lgQ p L b r row nb n T,t.2≠[]:=fun t ht=>(yI n hn ht).1
  by_cases q:r.1+(L.getD n default).2≤b
  ·rw [if_pos q] at h; obtain ⟨h1,h2⟩:=addI_mem old h; refine ⟨h1,fun y hy=> ?_⟩
   rcases h2 y hy with ⟨e1,e2⟩ | ⟨t,ht,e,hy2⟩
   ·exact .inl ⟨n,by omega,q,e2,e1⟩
   ·rcases (yI n hn ht).2 y hy2 with ⟨k,k1,k2,k3,k4⟩ | ⟨s,s1,s2,s3⟩
    ·exact .inl ⟨k,by omega,k2,e▸k3,k4⟩
    ·exact .inr ⟨s,s1,s2.trans e,s3⟩
  ·rw [if_neg q] at h; obtain ⟨h1,h2⟩:=yI n hn h; exact ⟨h1,fun y hy=>(h2 y hy).imp (fun ⟨k,k1,k2⟩=>⟨k,by omega,k2⟩) id⟩
end
theorem tot_wR:∀ {T:WtT},(∀t∈T,t.2≠[])→tot T≤2 * (wrR T).length
 | [],_=>aM _
 | t::T,h=>by
  have ih:=tot_wR (T:=T) fun z hz=>h z (aF _ hz)
  have h1:0<t.2.length:=jE.mpr (h t aG); have e1:tot (t::T)=(t.2.length+1)+tot T:=by simp [tot]
  have e2:(wrR (t::T)).length=t.2.length+(wrR T).length:=by show (t.2.map rwP++wrR T).length=_; rw [aW,aC]
  omega
structure vF (L:List SK) (b:Int) (U:List (List Nat)):Prop where
 len:U.length≤400
 rl:∀row∈U,row.length≤300
 all:∀row,fD L row→S45.prQ (prK L) row≤b→row∈U
noncomputable def Cov (p:Int × Int) (L:List SK) (S:FdS) (rest:List Pr2) (row:List Nat):Prop:=row∈wrR S.T∨row∈rest.map rwP∨∃e∈S.fd,e.2.2=nrQ p L row∧kle L e.2.1 row
structure Wk (p:Int × Int) (L:List SK) (b:Int) (dn:List (List Nat)) (r:Int × Int) (rest:List Pr2) (S:FdS):Prop where
 ok:FdOk S
 ne:∀t∈S.T,t.2≠[]
 wt:∀t∈S.T,∀y∈t.2,∃row,y=itP p L row∧fD L row∧t.1=rkR L row∧t.1.1≤b
 rs:∀y∈rest,∃row,y=itP p L row∧fD L row∧r=rkR L row∧r.1≤b
 up:rest.Pairwise fun x y=>plt x y=true
 gt:rest≠[]→∀t∈S.T,rlt r t.1
 nd:(dn++rest.map rwP++wrR S.T).Nodup
 fd:∀e∈S.fd,e.2.1∈dn∧fD L e.2.1∧e.1=S45.prQ (prK L) e.2.1∧e.1≤b∧e.2.2=nrQ p L e.2.1
 par:∀row,row∈dn++rest.map rwP++wrR S.T→row=[]∨∃q k,row=q++[k]∧q∈S.fd.map fun e=>e.2.1
 du:∀row∈dn,fD L row∧S45.prQ (prK L) row≤b
 srt:(S.fd.map fun e=>e.2.1).Pairwise (klt L)
 lt1:∀e∈S.fd,∀y∈rest,klt L e.2.1 (rwP y)
 lt2:∀e∈S.fd,∀row∈wrR S.T,klt L e.2.1 row
 cl:∀e∈S.fd,∀k,k<L.length→e.1+prK L k≤b→Cov p L S rest (e.2.1++[k])
 st:0≤b→Cov p L S rest []
section
variable {p:Int × Int} {L:List SK} {b:Int} {dn:List (List Nat)} {r:Int × Int} {rest:List Pr2} {S:FdS} {U:List (List Nat)}
theorem Wk.all (W:Wk p L b dn r rest S) (F:vF L b U):∀row∈dn++rest.map rwP++wrR S.T,row∈U:=fun row h=>by
 rcases bE.mp h with h | h
 ·rcases bE.mp h with h | h
  ·obtain ⟨h1,h2⟩:=W.du row h; exact F.all row h1 h2
  ·obtain ⟨y,hy,e⟩:=aQ.mp h; obtain ⟨q,rfl,q2,q3,q4⟩:=W.rs y hy; rw [pG] at e; subst e; exact F.all q q2 (by rw [q3] at q4; exact q4)
 ·obtain ⟨t,ht,y,hy,e⟩:=wrR_mem.mp h; obtain ⟨q,rfl,q2,q3,q4⟩:=W.wt t ht y hy; rw [pG] at e; subst e; exact F.all q q2 (by rw [q3] at q4; exact q4)
theorem Wk.few (W:Wk p L b dn r rest S) (F:vF L b U):dn.length+rest.length+(wrR S.T).length≤U.length:=by have:=W.nd.length_le_of_subset (W.all F); rw [aW,aW,aC] at this; exact this
theorem Wk.tot (W:Wk p L b dn r rest S) (F:vF L b U):tot S.T≤800:=by have:=tot_wR W.ne; have:=W.few F; have:=F.len; omega
theorem Wk.fdl (W:Wk p L b dn r rest S) (F:vF L b U):S.fd.length≤400:=by
 have nd:(S.fd.map fun e=>e.2.1).Nodup:=List.Pairwise.imp (S:=(·≠·)) (fun {a c} h e=>klt_irr L a (by rw [← e] at h; exact h)) W.srt
 have:=nd.length_le_of_subset (l₂:=dn) fun row h=>by obtain ⟨e,he,rfl⟩:=aQ.mp h; exact (W.fd e he).1
 rw [aC] at this; have:=W.few F; have:=F.len; omega
theorem Wk.step (hpr:∀k,k<L.length→1≤prK L k) {y:Pr2} (W:Wk p L b dn r (y::rest) S):Wk p L b (dn++[rwP y]) r rest (fdI p L b r S (unP y)):=by
 obtain ⟨row,ey,ro,er,rb⟩:=W.rs y aG; subst ey; have up:=jO.mp W.up; have rp:S45.prQ (prK L) row≤b:=by rw [er] at rb; exact rb
 rw [un_it]; have ew:(itP p L row::rest).map rwP=row::rest.map rwP:=by rw [bA,pG]
 have nd:=W.nd; have par:=W.par; rw [ew] at nd par; have e1:dn++row::rest.map rwP=(dn++[row])++rest.map rwP:=by simp
 rw [e1] at nd par; rw [pG]
 have cv:∀c,Cov p L S (itP p L row::rest) c→c=row∨Cov p L S rest c:=fun c h=>by
  rcases h with h | h | h
  ·exact .inr (.inl h)
  ·rw [ew] at h
   rcases aX.mp h with h | h
   ·exact .inl h
   ·exact .inr (.inr (.inl h))
  ·exact .inr (.inr (.inr h))
 have du:∀c∈dn++[row],fD L c∧S45.prQ (prK L) c≤b:=fun c h=>by
  rcases bE.mp h with h | h
  ·exact W.du c h
  ·rw [aI.mp h]; exact ⟨ro,rp⟩
 have rs:∀y∈rest,∃row,y=itP p L row∧fD L row∧r=rkR L row∧r.1≤b:=fun z hz=>W.rs z (aF _ hz)
 have gt:=W.gt (by simp); unfold fdI
 by_cases hk:nrQ p L row∈S.kn
 ·rw [if_pos hk]; rw [W.ok.kn] at hk; obtain ⟨e,he,en⟩:=aQ.mp hk
  have ke:klt L e.2.1 row:=by have:=W.lt1 e he _ aG; rw [pG] at this; exact this
  have cv2:∀c,Cov p L S (itP p L row::rest) c→Cov p L S rest c:=fun c h=>by
   rcases cv c h with rfl | h
   ·exact .inr (.inr ⟨e,he,en, .inr ke⟩)
   ·exact h
  exact ⟨W.ok,W.ne,W.wt,rs,up.2,fun _=>gt,nd,fun e he=>⟨cG _ (W.fd e he).1,(W.fd e he).2⟩,par,du,W.srt,fun e he z hz=>W.lt1 e he z (aF _ hz),W.lt2,fun e he k hk hle=>cv2 _ (W.cl e he k hk hle),fun h=>cv2 _ (W.st h)⟩
 ·have ok:=fdI_ok (p:=p) (L:=L) (b:=b) (r:=r) W.ok (row,nrQ p L row); unfold fdI at ok; rw [if_neg hk] at ok ⊢; have pm:=lg_perm (p:=p) (L:=L) (b:=b) (r:=r) (row:=row) (nb:=nrQ p L row) (T:=S.T) L.length; have lm:=fun t' h=>yI (p:=p) (L:=L) (b:=b) (r:=r) (row:=row) (nb:=nrQ p L row) (T:=S.T) L.length (t':=t') W.ne h
  have rno:row∉S.fd.map fun e=>e.2.1:=fun h=>by obtain ⟨e,he,ee⟩:=aQ.mp h; have:=(W.fd e he).1; rw [ee] at this; have n2:=(bM.mp (bM.mp nd).1).1; exact (bM.mp n2).2.2 row this row (by simp) rfl
  have mem':∀c,c∈wrR (lgQ p L b r row (nrQ p L row) L.length S.T)↔c∈chs L b r row L.length∨c∈wrR S.T:=fun c=>by rw [pm.mem_iff,bE]
  have ch_lt:∀c∈chs L b r row L.length,klt L row c:=fun c h=>by obtain ⟨k,k1,k2,rfl⟩:=chs_mem.mp h; refine .inl ?_; rw [oU]; have:=hpr k k1; unfold rlt; simp only; omega
  have T_lt:∀c∈wrR S.T,klt L row c:=fun c h=>by obtain ⟨t,ht,y,hy,e⟩:=wrR_mem.mp h; obtain ⟨q,rfl,q2,q3,q4⟩:=W.wt t ht y hy; rw [pG] at e; subst e; refine .inl ?_; rw [← er,← q3]; exact gt t ht
  have rest_lt:∀z∈rest,klt L row (rwP z):=fun z hz=>by
   obtain ⟨q,rfl,q2,q3,q4⟩:=rs z hz; rw [pG]; refine .inr ⟨er.symm.trans q3, ?_⟩; have:=up.1 _ hz; unfold plt at this
   by_cases e:(itP p L row).1=(itP p L q).1
   ·exfalso; have e2:row=q:=inR_inj e; subst e2; rw [if_pos rfl,nV] at this; cases this
   ·rw [if_neg e] at this; exact this
  have cvn:∀c,Cov p L S (itP p L row::rest) c→Cov p L ⟨lgQ p L b r row (nrQ p L row) L.length S.T,S.kn++[nrQ p L row],S.fd++[(r.1,row,nrQ p L row)]⟩ rest c:=fun c h=>by
   rcases cv c h with rfl | h | h | ⟨e,he,q⟩
   ·exact .inr (.inr ⟨(r.1,c,nrQ p L c),aN _ (cP _),rfl, .inl rfl⟩)
   ·exact .inl ((mem' c).mpr (.inr h))
   ·exact .inr (.inl h)
   ·exact .inr (.inr ⟨e,cG _ he,q⟩)
  have efd:(S.fd++[(r.1,row,nrQ p L row)]).map (fun e=>e.2.1)=S.fd.map (fun e=>e.2.1)++[row]:=by rw [bF]; rfl
  refine ⟨ok,fun t h=>(lm t h).1,fun t ht y hy=> ?_,rs,up.2,fun _ t ht=> ?_, ?_,fun e he=> ?_,fun c hc=> ?_,du, ?_,fun e he z hz=> ?_,fun e he c hc=> ?_,fun e he k hk hle=> ?_,fun h=>cvn _ (W.st h)⟩
  ·rcases (lm t ht).2 y hy with ⟨k,k1,k2,k3,k4⟩ | ⟨s,s1,s2,s3⟩
   ·refine ⟨row++[k],by rw [k4]; unfold itP; rw [yS],fun i hi=> ?_,by rw [k3,oU,er],by rw [k3]; exact k2⟩
    rcases bE.mp hi with hi | hi
    ·exact ro i hi
    ·rw [aI.mp hi]; exact k1
   ·rw [← s2]; exact W.wt s s1 y s3
  ·obtain ⟨h1,h2⟩:=lm t ht; obtain ⟨y,hy⟩:=List.exists_mem_of_ne_nil _ h1
   rcases h2 y hy with ⟨k,k1,k2,k3,k4⟩ | ⟨s,s1,s2,s3⟩
   ·rw [k3]; have:=hpr k k1; unfold rlt; simp only; omega
   ·rw [← s2]; exact gt s s1
  ·have pm2:((dn++[row]++rest.map rwP)++wrR (lgQ p L b r row (nrQ p L row) L.length S.T)).Perm (chs L b r row L.length++((dn++[row]++rest.map rwP)++wrR S.T)):=(pm.append_left _).trans (by
    rw [← eD,← eD (chs L b r row L.length)]
    exact iO.append_right _)
   refine pm2.nodup_iff.mpr (bM.mpr ⟨chs_nd _,nd,fun c hc d hd e=> ?_⟩); subst e; obtain ⟨k,k1,k2,rfl⟩:=chs_mem.mp hc
   rcases par _ hd with h | ⟨q,j,h1,h2⟩
   ·simp at h
   ·have:row=q:=(List.append_inj' h1 rfl).1; subst this; exact rno h2
  ·rcases bE.mp he with he | he
   ·exact ⟨cG _ (W.fd e he).1,(W.fd e he).2⟩
   ·rw [aI.mp he]; exact ⟨aN _ (cP _),ro,by rw [er]; rfl,rb,rfl⟩
  ·rw [efd]
   have h:c∈dn++[row]++rest.map rwP++wrR S.T∨c∈chs L b r row L.length:=by
    rcases bE.mp hc with h | h
    ·exact .inl (cG _ h)
    ·rcases (mem' c).mp h with h | h
     ·exact .inr h
     ·exact .inl (aN _ h)
   rcases h with h | h
   ·exact (par c h).imp id fun ⟨q,k,h1,h2⟩=>⟨q,k,h1,cG _ h2⟩
   ·obtain ⟨k,_,_,rfl⟩:=chs_mem.mp h; exact .inr ⟨row,k,rfl,aN _ (cP _)⟩
  ·rw [efd]; refine kQ.mpr ⟨W.srt,jT _ _,fun a ha c hc=> ?_⟩; rw [aI.mp hc]; obtain ⟨e,he,rfl⟩:=aQ.mp ha; have:=W.lt1 e he _ aG; rw [pG] at this; exact this
  ·rcases bE.mp he with he | he
   ·exact W.lt1 e he z (aF _ hz)
   ·rw [aI.mp he]; exact rest_lt z hz
  ·rcases bE.mp he with he | he
   ·rcases (mem' c).mp hc with h | h
    ·have:=W.lt1 e he _ aG; rw [pG] at this; exact klt_tr this (ch_lt c h)
    ·exact W.lt2 e he c h
   ·rw [aI.mp he]
    rcases (mem' c).mp hc with h | h
    ·exact ch_lt c h
    ·exact T_lt c h
  ·rcases bE.mp he with he | he
   ·exact cvn _ (W.cl e he k hk hle)
   ·rw [aI.mp he] at hle ⊢; exact .inl ((mem' _).mpr (.inl (chs_mem.mpr ⟨k,hk,hle,rfl⟩)))
theorem Wk.pop {n:Nat} {t:(Int × Int) × List Pr2} (W:Wk p L b dn r [] S) (hn:S.T[n]? =some t) (hm:∀s∈S.T,¬ rlt s.1 t.1):t.2.Nodup∧Wk p L b dn t.1 (iY t.2) {S with T:=S.T.eraseIdx n}:=by
 have tm:=bB hn; obtain ⟨nl,en⟩:=aK.mp hn
 have pT:S.T.Perm (t::S.T.eraseIdx n):=by
  have e1:S.T=S.T.take n++t::S.T.drop (n+1):=by rw [← en,← dQ nl,kK]
  rw [dJ]; exact (e1▸List.Perm.refl S.T:S.T.Perm (S.T.take n++t::S.T.drop (n+1))).trans oE
 have pw:(wrR S.T).Perm (t.2.map rwP++wrR (S.T.eraseIdx n)):=pT.flatMap_right _; have ps:((iY t.2).map rwP).Perm (t.2.map rwP):=(iI t.2).map _; have nd:=W.nd; rw [eI,cZ] at nd
 have pall:(dn++(iY t.2).map rwP++wrR (S.T.eraseIdx n)).Perm (dn++wrR S.T):=by rw [eD]; exact ((ps.append_right _).trans pw.symm).append_left _
 have ndt:t.2.Nodup:=by have h1:=(bM.mp (pw.nodup_iff.mp (bM.mp nd).2.1)).1; exact List.Pairwise.of_map _ (fun a c h e=>h (by rw [e])) h1
 have er:∀s∈S.T.eraseIdx n,s∈S.T:=fun s hs=>jK hs
 have sub:∀c∈wrR (S.T.eraseIdx n),c∈wrR S.T:=fun c hc=>pw.symm.mem_iff.mp (aN _ hc)
 have sub2:∀y∈iY t.2,rwP y∈wrR S.T:=fun y hy=>pw.symm.mem_iff.mp (cG _ (aQ.mpr ⟨y,(iI t.2).mem_iff.mp hy,rfl⟩))
 have cv:∀c,Cov p L S [] c→Cov p L {S with T:=S.T.eraseIdx n} (iY t.2) c:=fun c h=>by
  rcases h with h | h | h
  ·rcases bE.mp (pw.mem_iff.mp h) with h | h
   ·exact .inr (.inl (ps.symm.mem_iff.mp h))
   ·exact .inl h
  ·cases h
  ·exact .inr (.inr h)
 have ek:wtK (S.T.eraseIdx n)=(wtK S.T).eraseIdx n:=by unfold wtK; rw [dJ,dJ,bF,rG,nE]
 refine ⟨ndt,⟨by rw [ek]; exact W.ok.nk.sublist (oZ _ _),W.ok.kn,W.ok.nd⟩,fun s hs=>W.ne s (er s hs),fun s hs=>W.wt s (er s hs),fun y hy=>W.wt t tm y ((iI t.2).mem_iff.mp hy),zR ndt,fun _ s hs=> ?_,pall.nodup_iff.mpr nd,W.fd,fun c hc=> ?_,W.du,W.srt,fun e he y hy=>W.lt2 e he _ (sub2 y hy),fun e he c hc=>W.lt2 e he c (sub c hc),fun e he k hk hle=>cv _ (W.cl e he k hk hle),fun h=>cv _ (W.st h)⟩
 ·refine rlt_tot (fun e=> ?_) (hm s (er s hs)); have nk:=W.ok.nk; have pk:(wtK S.T).Perm (rkK t.1::wtK (S.T.eraseIdx n)):=pT.map _; have:=(bT.mp (pk.nodup_iff.mp nk)).1; refine this ?_; rw [e]; exact aQ.mpr ⟨s,hs,rfl⟩
 ·refine W.par c ?_; rw [eI,cZ]; exact pall.mem_iff.mp hc
end
theorem least_wt {T:WtT} (hne:T≠[]):∃t:(Int × Int) × List Pr2,T[fJ T]? =some t∧∀s∈T,¬ rlt s.1 t.1:=by
 have l0:0<T.length:=jE.mpr hne
 have em:(wtK T).map nG=T.map fun t=>rkD t.1:=by unfold wtK; rw [aR]; rfl
 have ln:((wtK T).map nG).length=T.length:=by rw [em,aC]
 have gd:∀i,i<T.length→((wtK T).map nG).getD i .non=rkD ((T.map (·.1)).getD i (0,0)):=fun i hi=>by rw [em]; simp [bS,hi]
 have eb:fJ T=argBest (fun i k=>decide (rlt ((T.map (·.1)).getD i (0,0)) ((T.map (·.1)).getD k (0,0)))) (T.length - 1):=by unfold fJ jY; rw [ln]; exact pP _ fun i j hi hj=>by rw [gd i (by omega),gd j (by omega),dlt_rk]
 have bl:=tU (fun i k=>decide (rlt ((T.map (·.1)).getD i (0,0)) ((T.map (·.1)).getD k (0,0)))) (T.length - 1); have bm:=uM (T.map (·.1)) (T.length - 1) (by rw [aC]; omega); rw [← eb] at bl bm; generalize fJ T=n at bl bm; have hn:n<T.length:=by omega
 refine ⟨T[n],gW hn,fun s hs=> ?_⟩; obtain ⟨j,hj⟩:=gS hs; have lj:j<T.length:=(aK.mp hj).1; have:=bm j (by omega); have e1:(T.map (·.1)).getD j (0,0)=s.1:=by simp [bS,hj]
 have e2:(T.map (·.1)).getD n (0,0)=T[n].1:=by simp [bS,hn]
 rw [e1,e2] at this; exact this
noncomputable def fd0 (p:Int × Int) (b:Int):FdS:=⟨if 0≤b then [((0,0),[nP ([],st0 p)])] else [],[],[]⟩
noncomputable def bkF (p:Int × Int) (L:List SK) (b:Int):List (Int × List Nat × List Nat):=(lH p L b 401 (fd0 p b)).fd
section
variable {p:Int × Int} {L:List SK} {b:Int} {dn:List (List Nat)} {r:Int × Int} {rest:List Pr2} {S:FdS} {U:List (List Nat)}
theorem wk0 (p:Int × Int) (L:List SK) (b:Int):Wk p L b [] (0,0) [] (fd0 p b):=by
 have e:nP ([],st0 p)=itP p L []:=rfl
 by_cases h:0≤b
 ·have e0:fd0 p b=⟨[((0,0),[itP p L []])],[],[]⟩:=by unfold fd0; rw [if_pos h,e]
  have ew:wrR [((0,0),[itP p L []])]=[[]]:=by show [rwP (itP p L [])]++[]=_; rw [pG]; rfl
  rw [e0]; refine ⟨⟨by simp [wtK],rfl,dG⟩,fun t ht=> ?_,fun t ht y hy=> ?_,fun y hy=>(nomatch hy),List.Pairwise.nil,fun h=>absurd rfl h, ?_,fun e he=>(nomatch he),fun row hr=> ?_,fun row hr=>(nomatch hr),List.Pairwise.nil,fun e he=>(nomatch he),fun e he=>(nomatch he),fun e he=>(nomatch he),fun _=> .inl ?_⟩
  ·rw [aI.mp ht]; simp
  ·rw [aI.mp ht] at hy ⊢; exact ⟨[],aI.mp hy,fun i hi=>(nomatch hi),rfl,h⟩
  ·show (wrR [((0,0),[itP p L []])]).Nodup; rw [ew]; simp
  ·have hr:row∈wrR [((0,0),[itP p L []])]:=hr; rw [ew] at hr; exact .inl (aI.mp hr)
  ·show []∈wrR [((0,0),[itP p L []])]; rw [ew]; exact cP _
 ·have e0:fd0 p b=⟨[],[],[]⟩:=by unfold fd0; rw [if_neg h]
  rw [e0]; exact ⟨⟨dG,rfl,dG⟩,fun t ht=>(nomatch ht),fun t ht=>(nomatch ht),fun y hy=>(nomatch hy),List.Pairwise.nil,fun h=>absurd rfl h,dG,fun e he=>(nomatch he),fun row hr=>(nomatch hr),fun row hr=>(nomatch hr),List.Pairwise.nil,fun e he=>(nomatch he),fun e he=>(nomatch he),fun e he=>(nomatch he),fun z=>absurd z h⟩
theorem Wk.take (hpr:∀k,k<L.length→1≤prK L k) (W:Wk p L b dn r rest S):∀j,j≤rest.length→Wk p L b (dn++(rest.take j).map rwP) r (rest.drop j) (fdP p L b r S (rest.take j))
 | 0,_=>by rw [List.take_zero,eI,cZ]; exact W
 | j+1,hj=>by
  have ih:=Wk.take hpr W j (by omega); have lj:j<rest.length:=by omega
  rw [dQ lj] at ih; have:=ih.step hpr; rw [← vJ] at this
  have et:rest.take (j+1)=rest.take j++[rest[j]]:=by rw [eQ,gW lj]; rfl
  rw [et,bF,← eD]; exact this
theorem Wk.turn (hpr:∀k,k<L.length→1≤prK L k) (W:Wk p L b dn r [] S) (hne:S.T≠[]):∃t:(Int × Int) × List Pr2,S.T[fJ S.T]? =some t∧(∀s∈S.T,¬ rlt s.1 t.1)∧t.2.Nodup∧t.2≠[]∧Wk p L b dn t.1 (iY t.2) {S with T:=S.T.eraseIdx (fJ S.T)}∧fdT p L b S=fdP p L b t.1 {S with T:=S.T.eraseIdx (fJ S.T)} (iY t.2)∧Wk p L b (dn++(iY t.2).map rwP) t.1 [] (fdT p L b S):=by
 obtain ⟨t,ht,hm⟩:=least_wt hne; obtain ⟨n1,W1⟩:=W.pop ht hm
 have e:fdT p L b S=fdP p L b t.1 {S with T:=S.T.eraseIdx (fJ S.T)} (iY t.2):=by unfold fdT; rw [ht]
 refine ⟨t,ht,hm,n1,W.ne t (bB ht),W1,e, ?_⟩; have:=W1.take hpr (iY t.2).length (aM _); rw [eY,uF] at this; rw [e]; exact this
theorem run_end (hpr:∀k,k<L.length→1≤prK L k) (F:vF L b U):∀ (m:Nat) {dn:List (List Nat)} {r:Int × Int} {S:FdS},Wk p L b dn r [] S→U.length<dn.length+m→∃dn' r',Wk p L b dn' r' [] (lH p L b m S)∧(lH p L b m S).T=[]
 | 0,dn,r,S,W,h=>by have:=W.few F; omega
 | m+1,dn,r,S,W,h=>by
  show ∃dn' r',Wk p L b dn' r' [] (if S.T=[] then S else lH p L b m (fdT p L b S))∧(if S.T=[] then S else lH p L b m (fdT p L b S)).T=[]
  by_cases q:S.T=[]
  ·rw [if_pos q]; exact ⟨dn,r,W,q⟩
  ·rw [if_neg q]; obtain ⟨t,_,_,_,ne,_,_,W2⟩:=W.turn hpr q; refine run_end hpr F m W2 ?_
   have:0<(iY t.2).length:=by rw [(iI t.2).length_eq]; exact jE.mpr ne
   rw [aW,aC]; omega
structure BkFOk (p:Int × Int) (L:List SK) (b:Int) (B:List (Int × List Nat × List Nat)):Prop where
 len:B.length≤400
 ent:∀e∈B,fD L e.2.1∧e.1=S45.prQ (prK L) e.2.1∧e.1≤b∧e.2.2=nrQ p L e.2.1∧e.2.1.length≤300
 nd:(B.map fun e=>e.2.2).Nodup
 srt:(B.map fun e=>e.2.1).Pairwise (klt L)
 cl:∀e∈B,∀k,k<L.length→e.1+prK L k≤b→∃e'∈B,e'.2.2=nrQ p L (e.2.1++[k])∧kle L e'.2.1 (e.2.1++[k])
 st:0≤b→∃e∈B,e.2.2=nrQ p L []∧kle L e.2.1 []
theorem bkF_ok (hpr:∀k,k<L.length→1≤prK L k) (F:vF L b U):BkFOk p L b (bkF p L b):=by
 obtain ⟨dn,r,W,e⟩:=run_end hpr F 401 (wk0 p L b) (by have:=F.len; simp; omega)
 have cv:∀c,Cov p L (lH p L b 401 (fd0 p b)) [] c→∃e∈(lH p L b 401 (fd0 p b)).fd,e.2.2=nrQ p L c∧kle L e.2.1 c:=fun c h=>by
  rcases h with h | h | h
  ·rw [e] at h; cases h
  ·cases h
  ·exact h
 refine ⟨W.fdl F,fun e he=> ?_,by have:=W.ok.nd; rw [W.ok.kn] at this; exact this,W.srt,fun e he k hk hle=>cv _ (W.cl e he k hk hle),fun h=>cv _ (W.st h)⟩; obtain ⟨h1,h2,h3,h4,h5⟩:=W.fd e he; exact ⟨h2,h3,h4,h5,F.rl _ (F.all _ h2 (by rw [← h3]; exact h4))⟩
theorem BkFOk.all {B:List (Int × List Nat × List Nat)} (hpr:∀k,k<L.length→1≤prK L k) (O:BkFOk p L b B):∀row,fD L row→S45.prQ (prK L) row≤b→∃e∈B,e.2.2=nrQ p L row∧kle L e.2.1 row:=by
 have g:∀ (n:Nat) (row:List Nat),row.length=n→fD L row→S45.prQ (prK L) row≤b→∃e∈B,e.2.2=nrQ p L row∧kle L e.2.1 row:=fun n=>by
  induction n with
  | zero=>intro row hl _ hb; have:row=[]:=fW hl; subst this; exact O.st hb
  | succ n ih=>
   intro row hl ho hb; have hne:row≠[]:=fun z=>by rw [z] at hl; cases hl
   have ed:=lB hne; generalize row.dropLast=q at ed; generalize row.getLast hne=k at ed; subst ed; have kn:k<L.length:=ho k (by simp); have h1:=hpr k kn; rw [S45.pr_snoc] at hb; obtain ⟨e,he,e1,e2⟩:=ih q (by simpa using hl) (fun i hi=>ho i (cG _ hi)) (by omega); obtain ⟨_,h3,_,h5,_⟩:=O.ent e he
   have le:S45.prQ (prK L) e.2.1≤S45.prQ (prK L) q:=by
    rcases e2 with z | (z | ⟨z,_⟩)
    ·rw [z]; exact Int.le_refl _
    ·have:(rkR L e.2.1).1≤(rkR L q).1:=by unfold rlt at z; omega
     exact this
    ·exact Int.le_of_eq (congrArg Prod.fst z)
   obtain ⟨e',he',e3,e4⟩:=O.cl e he k kn (by omega); refine ⟨e',he', ?_,kle_tr e4 (kle_snoc k e2)⟩; rw [e3,yS,yS,← h5,e1]
 exact fun row=>g row.length row rfl
end
noncomputable def fdD (e:Int × List Nat × List Nat):D:= .tup [.int e.1, .tup (aY e.2.1), .tup (aY e.2.2)]
noncomputable def CFnd41:List D→R→Prop:=fun ds r=>∃p L b U,p∈bX∧StkOk p L∧vF L b U∧ds=[.lst (L.map (mvD p)), .int b, .tup (aY (st0 p))]∧r= .own ((bkF p L b).map fdD)
noncomputable def xE (ds:List D):List Nat:=ds.map fun d=>match d with | .int i=>i.toNat | _=>0
theorem natOf_D (l:List Nat):xE (aY l)=l:=by unfold xE aY; rw [aR]; exact (bN fun i _=>dO i).trans (iG l)
noncomputable def unE:D→Int × List Nat × List Nat
 | .tup [.int a, .tup r, .tup n]=>(a,xE r,xE n)
 | _=>(0,[],[])
theorem unE_D (e:Int × List Nat × List Nat):unE (fdD e)=e:=by show (e.1,xE (aY e.2.1),xE (aY e.2.2))=e; rw [natOf_D,natOf_D]
noncomputable def bkQ (p:Int × Int) (L:List SK) (b:Int):List Bk:=(bkF p L b).map fun e=>(e.1,e.2.1,jF p e.2.2)
noncomputable def CBook:List D→R→Prop:=fun ds r=>∃p L b U,p∈bX∧StkOk p L∧(L.map fun s=>sqD s.1).Nodup∧vF L b U∧ds=[cH p, .lst (L.map skD), .int b]∧r= .own ((bkQ p L b).map enD)
noncomputable def bitI (i:Int):Prop:=Builtin.Int.intBits i≤1048576
theorem vC:∀ (ns:List Int),∀i∈ns,Builtin.Int.intBits i≤PySem.W.WData.weightAll (ns.map PySem.W.WData.int)
 | [],i,h=>by cases h
 | n::ns,i,h=>by
  rw [bA]; simp only [PySem.W.WData.weightAll,PySem.W.WData.weight]
  rcases aX.mp h with rfl | h
  ·unfold Builtin.Int.intBits; omega
  ·have:=vC ns i h; omega
theorem bit_of {ns:List Int} (h:PySem.W.WData.layableAll [PySem.W.WData.list (ns.map PySem.W.WData.int)]=true):∀i∈ns,bitI i:=fun i hi=>by
 have h1:=fM.mp h _ aG; unfold PySem.W.WData.layable at h1; have h2:=(Bool.and_eq_true_iff.mp h1).2; have h3:=of_decide_eq_true h2; have e:PySem.W.WData.weight (PySem.W.WData.list (ns.map PySem.W.WData.int))=PySem.W.WData.weightAll (ns.map PySem.W.WData.int):=by simp only [PySem.W.WData.weight]
 rw [e] at h3; exact cE (vC ns i hi) h3
noncomputable def CLawB:List D→R→Prop:=fun ds r=>∃ns:List Int,ds=[.scr ns]∧ns.length≤63∧(∀i∈ns,bitI i)∧r= .val (.bl true)
section
open PySem.W PySem.Calls Att
theorem zV {l:OpenLaw} {n:Nat} {q:Program} {loose:List Str} {XP:(Str→Option Value)→Heap→Prop} {YP:World→Heap→Prop} {d:DefRec}
  (hn:l.most=some n) (hdf:d.params.defaults=[])
  (call:∀ (w:World) (s₀ s₁:Shared) (mg mb:Str→Option Value) (fa:Addr) (o:Obj) (pm cd doc:Value) (a:Addr) (vs:List Value) (ns:List Int),
   Ground q loose [] XP w s₀ mg mb s₁.heap→YP w s₁.heap→
   s₁.heap.get? fa=some o→o.data= .func (docDef d.name d.params d.body d.scope pm cd doc)→s₁.heap.CodeRec cd d.name→mg d.name=some (.ref fa)→
   s₁.heap.get? a=some {cls:= .type "list",data:= .seq vs.toArray}→IntsAre vs ns→ns.length≤n→(∀i∈ns,bitI i)→s₁.gens= #[]→
   codeAny (model l.prog w) callerA (.call (.ref fa) ⟨[.ref a],[]⟩) (fun r s'=>r= .ok (.ret (.bool true))∧OldK s₁.heap s'.heap∧s'.os=s₁.os∧AllBare s'.gens) s₁):
  WalkO q loose XP YP l.row.toRowW d [] (fun f vs=>PySem.call f vs):=by
 intro w s₀ s₁ mg mb G Y fa o pm cd doc dV kV ho hd hcd hD hmg hg args vals as hpre hlay hrd hwl hlo; obtain rfl:dV= .none:=Dflts.none hD hdf; obtain rfl:kV= .none:=Dflts.noKw hD; obtain ⟨a,vs,ns,rfl,rfl,hobj,hints,hlen⟩:=script_of hn hpre hwl; refine enter_call (codeAny_mono (call w s₀ s₁ mg mb fa o pm cd doc a vs ns G Y ho (fd_plain hd) hcd hmg hobj hints hlen (bit_of hlay) hg) fun r s' hq=> ?_); obtain ⟨rfl,h2,h3,h4⟩:=hq; exact ⟨.inl ⟨.bool true, .bool true,[],rfl,fun _=>rfl, .bool true,post_true l _,fun _=>⟨List.Pairwise.nil,fun _ hm=>(nomatch hm)⟩⟩,h2,h3,h4⟩
end
theorem walkDB {l:PySem.W.OpenLaw} {k:Nat} {x:Str} {q:Program} {loose:List Str} {XP:(Str→Option Value)→Heap→Prop} {YP:World→Heap→Prop} {d:DefRec} {K:Params→aA} (hn:l.most=some 63) (hdf:d.params.defaults=[])
  (hr:Room k callerA) (hY:∀ (w:World) (h:Heap),YP w h→(K w.params).In h)
  (F:∀ (w:World) (mg:Str→Option Value) (fa:Addr) (h:Heap),(K w.params).In h→h.Ns mainGlobals mg→mg d.name=some (.ref fa)→
   ∃fd:FuncData,(∀ (s:Shared) (u:Value),BindsTo s fd ⟨[u],[]⟩ [(x,u)])∧∀base:Heap,(K w.params).In base→base.Ns mainGlobals mg→FnOk l.prog w (K w.params) mg base CX0 k fa fd [x] (spC (K w.params) 1 CLawB)):
  PySem.W.WalkO q loose XP YP l.row.toRowW d [] (fun f vs=>PySem.call f vs):=by
 refine zV hn hdf fun w s₀ s₁ mg mb fa o pm cd doc a vs ns G Y ho hd hcd hmg hobj hints hlen hbit hg=> ?_
 have KX:=hY w _ Y; obtain ⟨fd,hb,hF⟩:=F w mg fa _ KX G.T.g hmg
 exact law_call (CX:=CX0) (sp:=spC (K w.params) 1 CLawB) KX G.T.g G.T.b G.T.builtins G.T.nolimit hg hobj hints (cE hlen (by decide)) hr hF hb
  (fun H hO hS=>⟨rfl,smp_only hO,[.scr ns], .val (.bl true), .one (by simp only [Rep]; exact ⟨a,rfl,hS⟩),⟨ns,rfl,hlen,hbit,rfl⟩,fun v H' ⟨F,_,_,_,res⟩=>by simpa only [ResOk,Rep] using res⟩) fun H e s' z=>z
theorem mul_bit {i j:Int} (h:bitI i) (hj:Builtin.Int.intBits j≤1000):IntMulOk i j:=by unfold IntMulOk Builtin.Int.intTooBig; intro q; simp only [bL,decide_eq_true_eq] at q; unfold bitI at h; have e:bitsLine=134217728:=rfl; have:=q.2; rw [e] at this; omega
noncomputable def GtAt (A:Around) (s:Shared) (x y:Value) (b:Bool):Prop:=∀ (prog:Program) (w:World) (E:Value→Shared→Prop) (Q:Value→Shared→Prop),Q (.bool b) s→wpAny (model prog w) A (richCompare .Gt x y) Q E s
inductive LexG (A:Around) (s:Shared) (fin:Bool):List (Value × Value)→Bool→Prop
 | nil:LexG A s fin [] fin
 | eq {x y:Value} {r:List (Value × Value)} {b:Bool}:SeqAt.EqAt A.in1 s x y true→LexG A s fin r b→LexG A s fin ((x,y)::r) b
 | lt {x y:Value} {r:List (Value × Value)} {b:Bool}:SeqAt.EqAt A.in1 s x y false→GtAt A.in1 s x y b→LexG A s fin ((x,y)::r) b
section
open PySem.SeqAt
open PySem.AutoSeq1 (wpAny_loadPart')
open PySem.MeetsSeq PySem.MeetsSeq2 PySem.MeetsSeq3
theorem zH (l b:Addr) (items items2:Array Value) (n n2:Nat) (dd dd2:Option Addr) (sl sl2:Array (Option Value)) (res:Bool):
  Meets (Builtin.«tuple.__gt__» ⟨[.ref l, .ref b],[]⟩)
   (fun A R s=>s.heap.get? l=some {cls:= .type "tuple",dict:=dd,data:= .seq items n,slots:=sl}∧s.heap.get? b=some {cls:= .type "tuple",dict:=dd2,data:= .seq items2 n2,slots:=sl2}∧
    LexG A s (decide (items2.size<items.size)) (items.toList.zip items2.toList) res∧R (.ok (.ret (.bool res))) s):=
 .of_wp fun prog w A R s h=>by
  obtain ⟨hp,g,d,tk,os⟩:=s; obtain ⟨hl,hb,hx,h⟩:=h; have f2:=AutoSeq1.sub_tuple_tuple
  wp_walk using wpAny_loadPart' hl,wpAny_loadPart' hb,wpAny_forIn_list _ (fun rest b s'=>b.1=none∧s'=⟨hp,g,d,tk,os⟩∧LexG A ⟨hp,g,d,tk,os⟩ (decide (items2.size<items.size)) rest res) _
  case turn=>
   rintro ⟨y,x⟩ rest b s' ⟨hb',rfl,hv⟩; cases hv with
   | eq he hr=>
    refine wpAny_bind (he prog w _ _ ?_)
    wp_walk
    exact ⟨rfl,rfl,hr⟩
   | lt he hlt=>
    refine wpAny_bind (he prog w _ _ ?_); have hri:=hlt prog w
    wp_walk using hri
    exact ⟨_,rfl,by simpa using h⟩
  case fin=>
   rintro ⟨b1,b2⟩ s' ⟨hb',rfl,hv⟩; simp only at hb'; subst hb'; cases hv
   wp_walk
   exact ⟨_,rfl,by simpa [Builtin.Tuple.tupleCompareSizes] using h⟩
  case h=>exact ⟨rfl,rfl,hx⟩
theorem gt_tup_gen {A:Around} {s:Shared} {l b:Addr} {items items2:Array Value} {res:Bool} (hl:IsTup s.heap l items) (hb:IsTup s.heap b items2) (hx:LexG A s (decide (items2.size<items.size)) (items.toList.zip items2.toList) res)
  (hu:A.units<cLine):GtAt A s (.ref l) (.ref b) res:=fun prog w E Q h=>by
 obtain ⟨⟨cls,dd,data,sl⟩,ho,hc,n,hd⟩:=id hl; obtain ⟨⟨cls2,dd2,data2,sl2⟩,ho2,hc2,n2,hd2⟩:=id hb; simp only at hc hd hc2 hd2; subst hc hd hc2 hd2
 exact richCompare_meets_room (op:= .Gt) ⟨_,ho,rfl⟩ ⟨_,ho2,rfl⟩ PySem.F.slot_tuple_gt PySem.F.entry_tuple_gt (PySem.F.args_tuple_gt_2 _ _) (zH l b items items2 n n2 dd dd2 sl sl2 res)
  ⟨ho,ho2,hx,show Value.bool res≠Value.notImplemented∧Q (.bool res) s from ⟨(fun x=>nomatch x),h⟩⟩ hu
end
mutual
noncomputable def dgt:D→D→Bool
 | .int a, .int b=>decide (b<a)
 | .tup a, .tup b=>rM a b
 | _,_=>false
noncomputable def rM:List D→List D→Bool
 | [],[]=>false
 | [],_::_=>false
 | _::_,[]=>true
 | d::ds,e::es=>if deq d e=true then rM ds es else dgt d e
end
section
variable {P:Program} {w:World} {K:aA} {H:Hp} {s:Shared}
mutual
theorem gtAt_D (hok:HOk P w H s.heap):∀ (d:D) {d2:D} {v1 v2:V} {u1 u2:Value} {A:Around},jR d d2=true→pl d=true→pl d2=true→Rep K H d v1→Rep K H d2 v2→RelV v1 u1→RelV v2 u2→A.units+dep d<cLine→GtAt A s u1 u2 (dgt d d2)
 | .int a,d2,v1,v2,u1,u2,A,c,p1,p2,r1,r2,ru1,ru2,hu=>by
  cases d2 with
  | int b=>simp only [Rep] at r1 r2; subst r1 r2; obtain ⟨t,rfl⟩:=ru1; obtain ⟨t2,rfl⟩:=ru2; simp only [dgt]; exact fun prog w E Q h=>(PyProof.Rows.gt_int h:wpAny (model prog w) A (compareOp .Gt (.int a t) (.int b t2)) Q E s)
  | _=>simp [jR] at c
 | .tup ds,d2,v1,v2,u1,u2,A,c,p1,p2,r1,r2,ru1,ru2,hu=>by
  cases d2 with
  | tup es=>
   obtain ⟨a,xs,its,rfl,rfl,rl,rv,ht⟩:=iC hok r1 ru1; obtain ⟨b,ys,jts,rfl,rfl,rl2,rv2,ht2⟩:=iC hok r2 ru2; simp only [dgt]; have l1:its.length=ds.length:=by rw [← rv.length,rl.len]
   have l2:jts.length=es.length:=by rw [← rv2.length,rl2.len]
   simp only [pl] at p1 p2; simp only [dep] at hu; simp only [jR] at c; refine gt_tup_gen ht ht2 ?_ (by omega); exact gtAt_L hok ds c p1 p2 rl rl2 rv rv2 (by omega) (by simp [l1,l2])
  | _=>simp [jR] at c
 | .non,d2,_,_,_,_,_,c,_,_,_,_,_,_,_=>by cases d2<;>simp [jR] at c
 | .bl _,d2,_,_,_,_,_,c,_,_,_,_,_,_,_=>by cases d2<;>simp [jR] at c
 | .str _,d2,_,_,_,_,_,c,_,_,_,_,_,_,_=>by cases d2<;>simp [jR] at c
 | .lst _,d2,_,_,_,_,_,c,_,_,_,_,_,_,_=>by cases d2<;>simp [jR] at c
 | .dic,d2,_,_,_,_,_,c,_,_,_,_,_,_,_=>by cases d2<;>simp [jR] at c
 | .dki _ _,d2,_,_,_,_,_,c,_,_,_,_,_,_,_=>by cases d2<;>simp [jR] at c
 | .any _,d2,_,_,_,_,_,c,_,_,_,_,_,_,_=>by cases d2<;>simp [jR] at c
 | .scr _,d2,_,_,_,_,_,c,_,_,_,_,_,_,_=>by cases d2<;>simp [jR] at c
theorem gtAt_L (hok:HOk P w H s.heap):∀ (ds:List D) {es:List D} {xs ys:List V} {its jts:List Value} {A:Around} {fin:Bool},sY ds es=true→plL ds=true→plL es=true→RepL K H ds xs→RepL K H es ys→Vals xs its→Vals ys jts→A.units+1+iM ds<cLine→fin=decide (es.length<ds.length)→LexG A s fin (its.zip jts) (rM ds es)
 | [],es,xs,ys,its,jts,A,fin,c,p1,p2,r1,r2,v1,v2,hu,hf=>by
  simp only [RepL] at r1; subst r1; cases v1; subst hf; rw [List.zip_nil_left]; cases es with
  | nil=>exact .nil
  | cons e es=>
   have:rM [] (e::es)=decide ((e::es).length<([]:List D).length):=by simp [rM]
   rw [this]; exact .nil
 | d::ds,[],xs,ys,its,jts,A,fin,c,p1,p2,r1,r2,v1,v2,hu,hf=>by
  simp only [RepL] at r2; subst r2; cases v2; subst hf; rw [List.zip_nil_right]; have:rM (d::ds) []=decide (([]:List D).length<(d::ds).length):=by simp [rM]
  rw [this]; exact .nil
 | d::ds,e::es,xs,ys,its,jts,A,fin,c,p1,p2,r1,r2,v1,v2,hu,hf=>by
  obtain ⟨x,xs,rfl,a1,r1⟩:=r1.uncons; obtain ⟨y,ys,rfl,a2,r2⟩:=r2.uncons; simp only [plL,bL] at p1 p2; simp only [sY,bL] at c; simp only [iM] at hu; cases v1 with
  | cons q1 v1=>
   cases v2 with
   | cons q2 v2=>
    rw [eX]; have he:=wH (A:=A.in1) hok d p1.1 p2.1 a1 a2 q1 q2 (by show A.units+1+dep d<cLine; omega); simp only [rM]
    by_cases z:deq d e=true
    ·rw [if_pos z]; rw [z] at he; exact .eq he (gtAt_L hok ds c.2 p1.2 p2.2 r1 r2 v1 v2 (by omega) (by rw [hf]; simp))
    ·rw [if_neg z]; rw [Bool.eq_false_iff.mpr z] at he; exact .lt he (gtAt_D (A:=A.in1) hok d c.1 p1.1 p2.1 a1 a2 q1 q2 (by show A.units+1+dep d<cLine; omega))
end
end
section
variable {X:Cx} {sd:List Slot} {e a b c tg iter o:Expr} {es:List Expr} {pos:Pos} {r ra rb:R} {d d1 d2:D} {ds ls:List D} {st:Stmt} {rest:List Stmt} {E:jG}
theorem op_gtD (K:aA) (d1 d2:D) (hc:jR d1 d2=true) (p1:pl d1=true) (p2:pl d2=true) (hu:X.A.units+dep d1<cLine):OpR X (compareOp .Gt) (fun x y H Q=>Rep K H d1 x∧Rep K H d2 y∧Q (.bl (dgt d1 d2)) H):=by intro pins s σ H x y v u Q I rx ry h; obtain ⟨h1,h2,q⟩:=h; exact gtAt_D I.hok d1 hc p1 p2 h1 h2 rx ry hu _ _ _ _ ⟨.bl (dgt d1 d2),H,I,rfl,q⟩
theorem ptd_gtD (ha:PEd X sd a (.val d1)) (hb:PEd X sd b (.val d2)) (hc:jR d1 d2=true) (p1:pl d1=true) (p2:pl d2=true) (hu:X.A.units+dep d1<cLine):PTd X sd (.Compare a [.Gt] [b] pos) (dgt d1 d2):=
 jP (op_gtD X.K _ _ hc p1 p2 hu) ha hb trivial (hV _) fun σ F H v u Q S q1 q2 k=>⟨Rep.mono S.sub q1,Rep.mono S.sub q2,k F H S (Same.refl _)⟩
end
noncomputable def sz8L:List (Int × Int):=[(1,1),(1,2),(2,1),(2,2),(1,3),(3,1),(1,4),(4,1)]
theorem iE (x:Int) {n:Nat} (h:0<n):(x%(n:Int)).toNat<n∧0≤x%(n:Int):=by have h0:=dY x (show (n:Int)≠0 by omega); have h1:=cS x (show (0:Int)<n by omega); omega
theorem uV {l:List Int} {i:Nat} {d:Int} (h:i<l.length):(l.map D.int)[i]? =some (.int (l.getD i d)):=by simp [bS,h]
noncomputable def mM (c:Int):Int:=([1,1,3]:List Int).getD (mxS c 10%3).toNat 1
noncomputable def nH (c:Int):Nat:=1+(mxS c 11%4).toNat+(if mxS c 12%8=1 then 1 else 0)
noncomputable def xZ (c:Int):Int:=([1,1,2,3]:List Int).getD (mxS c 5%4).toNat 1
theorem vZ (c:Int):mM c=1∨mM c=3:=by
 have g:∀x∈([1,1,3]:List Int),x=1∨x=3:=by decide
 exact g _ (getD_mem (iE _ (n:=3) (by decide)).1)
theorem pr41_ok (c:Int):1≤xZ c∧xZ c≤3:=by
 have g:∀x∈([1,1,2,3]:List Int),1≤x∧x≤3:=by decide
 exact g _ (getD_mem (iE _ (n:=4) (by decide)).1)
theorem xD (c:Int):1≤nH c∧nH c≤5:=by
 have:=(iE (mxS c 11) (n:=4) (by decide)).1; unfold nH; have e:((4:Nat):Int)=4:=rfl; rw [e] at this
 split<;>omega
noncomputable def fY (p:Int × Int) (ns:List Int) (st:Nat) (f:Int):Nat→List SK
 | 0=>[]
 | t+1=>if vE (fY p ns st f t) (drQ p (ns.getD (st+1+t) 0)) then fY p ns st f t else fY p ns st f t++[(drQ p (ns.getD (st+1+t) 0),f * xZ (ns.getD (st+1+t) 0))]
noncomputable def uO (p:Int × Int) (ns:List Int) (st:Nat):List SK:=fY p ns st (mM (ns.getD st 0)) (nH (ns.getD st 0))
noncomputable def CKit41:List D→R→Prop:=fun ds r=>∃p ns st,p∈bX∧st≤100∧ds=[.scr ns, .int ((st:Nat):Int),cH p]∧r= .val (.tup [.lst ((uO p ns st).map skD), .int (mM (ns.getD st 0))])
structure KitOk (p:Int × Int) (f:Int) (L:List SK):Prop where
 pos:0<L.length
 le:L.length≤5
 st:∀s∈L,pW p s.1∧f≤s.2∧s.2≤3 * f
 nd:(L.map fun s=>sqD s.1).Nodup
 f13:f=1∨f=3
theorem KitOk.stk {p:Int × Int} {f:Int} {L:List SK} (h:KitOk p f L):StkOk p L:=⟨h.pos,by have:=h.le; omega,fun s hs=>by
 obtain ⟨h1,h2,h3⟩:=h.st s hs; have:=h.f13
 exact ⟨h1,by omega,by omega⟩⟩
theorem rX {p:Int × Int} (hp:p∈bX) (ns:List Int) (st:Nat) {f:Int} (hf:f=1∨f=3):∀t,(fY p ns st f t).length≤t∧(0<t→0<(fY p ns st f t).length)∧(∀s∈fY p ns st f t,pW p s.1∧f≤s.2∧s.2≤3 * f)∧((fY p ns st f t).map fun s=>sqD s.1).Nodup
 | 0=>⟨aM _,fun h=>by omega,fun s hs=>(nomatch hs),dG⟩
 | t+1=>by
  obtain ⟨a,b,c,d⟩:=rX hp ns st hf t; have e:fY p ns st f (t+1)=if vE (fY p ns st f t) (drQ p (ns.getD (st+1+t) 0)) then fY p ns st f t else fY p ns st f t++[(drQ p (ns.getD (st+1+t) 0),f * xZ (ns.getD (st+1+t) 0))]:=rfl
  rw [e]; clear e; cases h:vE (fY p ns st f t) (drQ p (ns.getD (st+1+t) 0)) with
  | true=>
   rw [if_pos rfl]; refine ⟨by omega,fun _=> ?_,c,d⟩; cases e:fY p ns st f t with
   | nil=>rw [e] at h; cases h
   | cons _ _=>simp
  | false=>
   rw [if_neg bI]; refine ⟨by rw [aW]; simp; omega,fun _=>by rw [aW]; simp,fun s hs=> ?_, ?_⟩
   ·rcases bE.mp hs with hs | hs
    ·exact c s hs
    ·rw [aI.mp hs]; obtain ⟨p1,p2⟩:=pr41_ok (ns.getD (st+1+t) 0); refine ⟨drQ_ok hp _, ?_⟩; show f≤f * _∧f * _≤3 * f
     rcases hf with rfl | rfl<;>omega
   ·rw [bF]; refine bM.mpr ⟨d,by simp,fun x hx y hy z=>sqIn_no h ?_⟩; have:y=sqD (drQ p (ns.getD (st+1+t) 0)):=by simpa using hy
    rw [← this,← z]; exact hx
theorem kit41_ok {p:Int × Int} (hp:p∈bX) (ns:List Int) (st:Nat):KitOk p (mM (ns.getD st 0)) (uO p ns st):=by obtain ⟨a,b,c,d⟩:=rX hp ns st (vZ (ns.getD st 0)) (nH (ns.getD st 0)); obtain ⟨m1,m2⟩:=xD (ns.getD st 0); exact ⟨b (by omega),cE a m2,c,d,vZ _⟩
noncomputable def oA (n:Nat):Nat:=([12,5,4,3,2]:List Nat).getD (n - 1) 0
noncomputable def xO (c:Int) (n:Nat) (f:Int):Int:=f * (c%((oA n:Int)+1))+c / 16%f
noncomputable def CBnd41:List D→R→Prop:=fun ds r=>∃ (c:Int) (L:List SK) (f:Int),0<L.length∧L.length≤5∧(f=1∨f=3)∧ds=[.int c, .lst (L.map skD), .int f]∧r= .val (.int (xO c L.length f))
theorem bnd41_ok (c:Int) (n:Nat) {f:Int} (hf:f=1∨f=3):0≤xO c n f∧xO c n f<f * ((oA n:Int)+1):=by
 have h0:=dY c (show (oA n:Int)+1≠0 by omega); have h1:=cS c (show (0:Int)<(oA n:Int)+1 by omega); unfold xO
 rcases hf with rfl | rfl<;>omega
noncomputable def rK (n:Nat):Nat→List (List Nat)
 | 0=>[[]]
 | k+1=>(bH n).flatMap fun i=>(rK n k).map fun r=>i::r
theorem rK_mem {n:Nat}:∀ {k:Nat} {row:List Nat},row∈rK n k↔row.length=k∧∀i∈row,i<n
 | 0,row=>by
  show row∈[[]]↔_; rw [aI]
  constructor
  ·rintro rfl; exact ⟨rfl,fun i hi=>(nomatch hi)⟩
  ·exact fun h=>fW h.1
 | k+1,row=>by
  show row∈(bH n).flatMap _↔_; rw [eA]
  constructor
  ·rintro ⟨i,hi,h⟩; obtain ⟨r,hr,rfl⟩:=aQ.mp h; obtain ⟨h1,h2⟩:=rK_mem.mp hr; refine ⟨by rw [bU,h1],fun j hj=> ?_⟩
   rcases aX.mp hj with rfl | hj
   ·exact cN.mp hi
   ·exact h2 j hj
  ·rintro ⟨h1,h2⟩; cases row with
   | nil=>cases h1
   | cons i r=>exact ⟨i,cN.mpr (h2 i aG),aQ.mpr ⟨r,rK_mem.mpr ⟨by simpa using h1,fun j hj=>h2 j (aF _ hj)⟩,rfl⟩⟩
noncomputable def upK (n K:Nat):List (List Nat):=(bH (K+1)).flatMap (rK n)
theorem upK_mem {n K:Nat} {row:List Nat}:row∈upK n K↔row.length≤K∧∀i∈row,i<n:=by
 unfold upK; rw [eA]
 constructor
 ·rintro ⟨k,hk,h⟩; obtain ⟨h1,h2⟩:=rK_mem.mp h; have:=cN.mp hk; exact ⟨by omega,h2⟩
 ·rintro ⟨h1,h2⟩; exact ⟨row.length,cN.mpr (by omega),rK_mem.mpr ⟨rfl,h2⟩⟩
theorem len_prf {f:Int} {pr:Nat→Int}:∀ (row:List Nat),(∀k∈row,f≤pr k)→f * (row.length:Int)≤S45.prQ pr row
 | [],_=>by simp [S45.prQ]
 | k::row,h=>by
  have ih:=len_prf row fun j hj=>h j (aF _ hj)
  have h1:=h k aG; show f * ((row.length+1:Nat):Int)≤(pr k::row.map pr).sum; rw [List.sum_cons]; have e:S45.prQ pr row=(row.map pr).sum:=rfl; rw [← e,Int.natCast_add,Int.mul_add]; omega
theorem few41 {p:Int × Int} {f:Int} {L:List SK} (h:KitOk p f L) {b:Int} (hb:b<f * ((oA L.length:Int)+1)):vF L b (upK L.length (oA L.length)):=by
 have g:∀n∈[1,2,3,4,5],(upK n (oA n)).length≤400∧oA n≤300:=by decide+kernel
 have hl:L.length∈[1,2,3,4,5]:=by
  have h1:=h.pos; have h2:=h.le; have e:L.length=1∨L.length=2∨L.length=3∨L.length=4∨L.length=5:=by omega
  rcases e with e | e | e | e | e<;>rw [e]<;>decide
 obtain ⟨g1,g2⟩:=g _ hl; refine ⟨g1,fun row hr=>cE (upK_mem.mp hr).1 g2,fun row ho hr=>upK_mem.mpr ⟨?_,ho⟩⟩; have:=len_prf (f:=f) (pr:=prK L) row fun k hk=>(h.st _ (getD_mem (d:=(default:SK)) (ho k hk))).2.1
 have hf:=h.f13
 rcases hf with rfl | rfl<;>omega
noncomputable def pE (L:List SK) (c:Int):Nat:=(c * 16807%2147483647%(L.length:Int)).toNat
structure RwsOk (L:List SK) (b:Int) (n:Nat) (R:List (List Nat)):Prop where
 ne:R≠[]
 len:R.length≤n+1
 ok:∀row∈R,fD L row∧S45.prQ (prK L) row≤b∧row.length≤n
theorem no41_lt {L:List SK} (h:0<L.length) (c:Int):pE L c<L.length:=(iE _ h).1
noncomputable def CKey41:List D→R→Prop:=fun ds r=>∃ (L:List SK) (row:List Nat),fD L row∧row.length≤400∧ds=[.lst (L.map skD), .tup (aY row)]∧r= .val (.tup [.int (S45.prQ (prK L) row), .int (row.length:Int), .tup (aY row)])
noncomputable def CPr41:List D→R→Prop:=fun ds r=>∃ (L:List SK) (row:List Nat),fD L row∧row.length≤400∧ds=[.lst (L.map skD), .tup (aY row)]∧r= .val (.int (S45.prQ (prK L) row))
noncomputable def CTab41 (P:Program) (w:World) (K:aA):List D→R→Prop:=fun ds r=>∃p L row,p∈bX∧StkOk p L∧fD L row∧row.length≤400∧ds=[cH p, .lst (L.map (mgD P w K p)), .tup (aY row)]∧r= .val (.tup ((S45.tabQ (jH p L) (cT p) row).map aV))
noncomputable def tE (L:List SK) (row:List Nat):D:= .tup [.int (S45.prQ (prK L) row), .int (row.length:Int), .tup (aY row)]
theorem lU (a:List Nat):aY a=(inR a).map D.int:=natI a
theorem lgt_D:∀a b:List Int,rM (a.map D.int) (b.map D.int)=llt b a
 | [],[]=>rfl
 | [],_::_=>rfl
 | _::_,[]=>rfl
 | x::a,y::b=>by
  have e:rM ((x::a).map D.int) ((y::b).map D.int)=if decide (x=y)=true then rM (a.map D.int) (b.map D.int) else decide (y<x):=rfl
  rw [e,lgt_D a b]; show _=if y=x then llt b a else decide (y<x)
  by_cases h:x=y
  ·rw [if_pos (decide_eq_true h),if_pos h.symm]
  ·rw [if_neg (by rw [decide_eq_false h]; decide),if_neg fun z=>h z.symm]
theorem key_ok (L:List SK) (a c:List Nat):jR (tE L a) (tE L c)=true∧pl (tE L a)=true∧dep (tE L a)=2:=by
 refine ⟨?_, ?_, ?_⟩
 ·show (true && (true && (sY (aY a) (aY c) && true)))=true; rw [lU,lU,rD]; rfl
 ·show (true && (true && (plL (aY a) && true)))=true; rw [(gJ a).1]; rfl
 ·show max 0 (max 0 (max (iM (aY a)+1) 0))+1=2; rw [(gJ a).2]; rfl
theorem kle_gt {L:List SK} {a c:List Nat} (h:kle L a c):dgt (tE L a) (tE L c)=false:=by
 rcases h with rfl | h
 ·have e:dgt (tE L a) (tE L a)=if decide (S45.prQ (prK L) a=S45.prQ (prK L) a)=true then (if decide ((a.length:Int)=(a.length:Int))=true then (if iP (aY a) (aY a)=true then false else rM (aY a) (aY a)) else decide ((a.length:Int)<a.length)) else decide (S45.prQ (prK L) a<S45.prQ (prK L) a):=rfl
  rw [e,if_pos (by simp),if_pos (by simp),if_pos (by rw [lU]; exact lA _ (by rw [← lU]; exact (gJ a).1))]
 ·have e:dgt (tE L a) (tE L c)=if decide (S45.prQ (prK L) a=S45.prQ (prK L) c)=true then (if decide ((a.length:Int)=(c.length:Int))=true then (if iP (aY a) (aY c)=true then false else rM (aY a) (aY c)) else decide ((c.length:Int)<a.length)) else decide (S45.prQ (prK L) c<S45.prQ (prK L) a):=rfl
  rw [e]
  rcases h with h | ⟨h1,h2⟩
  ·unfold rlt rkR at h; simp only at h
   by_cases q:S45.prQ (prK L) a=S45.prQ (prK L) c
   ·rw [if_pos (decide_eq_true q),if_neg (by simp; omega)]; exact decide_eq_false (by omega)
   ·rw [if_neg (by simpa using q)]; exact decide_eq_false (by omega)
  ·have e1:=congrArg Prod.fst h1; have e2:=congrArg Prod.snd h1; simp only [rkR] at e1 e2; rw [if_pos (decide_eq_true e1),if_pos (decide_eq_true e2)]
   split
   ·rfl
   ·rw [lU,lU,lgt_D]; cases z:llt (inR c) (inR a) with
    | false=>rfl
    | true=>have:=rZ _ _ _ h2 z; rw [nV] at this; cases this
theorem uG {α β:Type} {k:α→β} {P:α→Bool}:∀ {l:List α} {x:α},(l.map k).Nodup→x∈l→(∀y∈l,P y=true↔k y=k x)→l.filter P=[x]
 | [],x,_,h,_=>by cases h
 | y::l,x,nd,h,hP=>by
  obtain ⟨n1,n2⟩:=bT.mp (show (k y::l.map k).Nodup from nd)
  rcases aX.mp h with rfl | h
  ·have e:P x=true:=(hP x aG).mpr rfl; rw [List.filter_cons_of_pos e]; congr 1; refine List.filter_eq_nil_iff.mpr fun z hz q=>n1 ?_
   rw [← (hP z (aF _ hz)).mp q]; exact aQ.mpr ⟨z,hz,rfl⟩
  ·have e:¬ P y=true:=fun q=>n1 (by
    rw [(hP y aG).mp q]
    exact aQ.mpr ⟨x,h,rfl⟩)
   rw [List.filter_cons_of_neg e]; exact uG n2 h fun z hz=>hP z (aF _ hz)
noncomputable def thr41 (tab:List (List Int)):D→Bool
 | .tup [_,_,t]=>deq t (.tup (tab.map aV))
 | _=>false
theorem thr_en (tab:List (List Int)) (e:Bk):thr41 tab (enD e)=decide (e.2.2=tab):=wJ e.2.2 tab
structure BqOk (p:Int × Int) (L:List SK) (b:Int) (B:List Bk):Prop where
 len:B.length≤400
 ent:∀e∈B,fD L e.2.1∧e.1=S45.prQ (prK L) e.2.1∧e.1≤b∧e.2.2=S45.tabQ (jH p L) (cT p) e.2.1∧e.2.1.length≤300
 nd:(B.map fun e=>e.2.2).Nodup
 srt:(B.map fun e=>e.2.1).Pairwise (klt L)
 cl:∀e∈B,∀k,k<L.length→e.1+prK L k≤b→∃e'∈B,e'.2.2=jH p L k e.2.2∧kle L e'.2.1 (e.2.1++[k])
 st:0≤b→∃e∈B,e.2.2=cT p∧kle L e.2.1 []
 all:∀row,fD L row→S45.prQ (prK L) row≤b→∃e∈B,e.2.2=S45.tabQ (jH p L) (cT p) row∧kle L e.2.1 row
theorem bkQ_ok {p:Int × Int} {L:List SK} {b:Int} {U:List (List Nat)} (hp:p∈bX) (S:StkOk p L) (F:vF L b U):BqOk p L b (bkQ p L b):=by
 have O:=bkF_ok (p:=p) S.pr F; have nr:∀ {row:List Nat},fD L row→NOk p (nrQ p L row)∧jF p (nrQ p L row)=S45.tabQ (jH p L) (cT p) row:=fun h=>xJ hp (fun s hs=>(S.st s hs).1) h
 have mem:∀ {e:Int × List Nat × List Nat},e∈bkF p L b→(e.1,e.2.1,jF p e.2.2)∈bkQ p L b:=fun h=>aQ.mpr ⟨_,h,rfl⟩
 refine ⟨by unfold bkQ; rw [aC]; exact O.len,fun x hx=> ?_, ?_, ?_,fun x hx k hk hle=> ?_,fun h=> ?_,fun row ho hr=> ?_⟩
 ·obtain ⟨e,he,rfl⟩:=aQ.mp hx; obtain ⟨h1,h2,h3,h4,h5⟩:=O.ent e he; exact ⟨h1,h2,h3,by show jF p e.2.2=_; rw [h4]; exact (nr h1).2,h5⟩
 ·unfold bkQ; rw [aR]; have:(bkF p L b).map ((fun e:Bk=>e.2.2) ∘ fun e=>(e.1,e.2.1,jF p e.2.2))=((bkF p L b).map fun e=>e.2.2).map (jF p):=by rw [aR]; rfl
  rw [this]; have q:=O.nd; unfold List.Nodup at q ⊢; rw [mX]; refine List.Pairwise.imp_of_mem (fun {a c} ha hc h z=>h ?_) q; obtain ⟨e,he,rfl⟩:=aQ.mp ha; obtain ⟨e',he',rfl⟩:=aQ.mp hc; have n1:=(nr (O.ent e he).1).1; have n2:=(nr (O.ent e' he').1).1; rw [← (O.ent e he).2.2.2.1] at n1; rw [← (O.ent e' he').2.2.2.1] at n2; exact tabN_inj hp n1 n2 z
 ·unfold bkQ; rw [aR]; exact O.srt
 ·obtain ⟨e,he,rfl⟩:=aQ.mp hx; obtain ⟨e',he',h1,h2⟩:=O.cl e he k hk hle; obtain ⟨o1,_,_,o4,_⟩:=O.ent e he; refine ⟨_,mem he', ?_,h2⟩
  have ho:fD L (e.2.1++[k]):=fun i hi=>by
   rcases bE.mp hi with hi | hi
   ·exact o1 i hi
   ·rw [aI.mp hi]; exact hk
  show jF p e'.2.2=jH p L k (jF p e.2.2); rw [h1,(nr ho).2,S45.tab_snoc,o4,(nr o1).2]
 ·obtain ⟨e,he,h1,h2⟩:=O.st h; refine ⟨_,mem he, ?_,h2⟩; show jF p e.2.2=cT p; rw [h1]; exact tab_st0 p
 ·obtain ⟨e,he,h1,h2⟩:=O.all S.pr row ho hr; refine ⟨_,mem he, ?_,h2⟩; show jF p e.2.2=_; rw [h1]; exact (nr ho).2
theorem tab_all {p:Int × Int} {L:List SK} (hp:p∈bX) (S:StkOk p L) {row:List Nat} (h:fD L row):(S45.tabQ (jH p L) (cT p) row).length=(cT p).length:=by obtain ⟨q1,q2⟩:=xJ hp (fun s hs=>(S.st s hs).1) h; rw [← q2]; unfold jF; rw [aC]; exact q1.1
theorem Bq_inj {p:Int × Int} {L:List SK} {b:Int} {B:List Bk} (O:BqOk p L b B) {x y:Bk} (hx:x∈B) (hy:y∈B) (h:x.2.2=y.2.2):x=y:=by obtain ⟨i,hi,ex⟩:=eM hx; obtain ⟨j,hj,ey⟩:=eM hy; have:i=j:=(jA (i:=i) (j:=j) (h₀:=by rw [aC]; exact hi) (h₁:=by rw [aC]; exact hj) O.nd).mp (by rw [eC,eC,ex,ey,h]); subst this; rw [← ex,← ey]
theorem pl_en (e:Bk):pl (enD e)=true:=by show (true && (plL (aY e.2.1) && (plL (e.2.2.map aV) && true)))=true; rw [(gJ e.2.1).1,lN]; rfl
theorem dep_en (e:Bk):dep (enD e)≤3:=by show max 0 (max (iM (aY e.2.1)+1) (max (iM (e.2.2.map aV)+1) 0))+1≤3; have:=mO e.2.2; rw [(gJ e.2.1).2]; omega
theorem pls_en (B:List Bk):plL (B.map enD)=true∧iM (B.map enD)≤3:=⟨uW enD pl_en B,sK enD 3 dep_en B⟩
open PySem.W (KasT kas_sort)
noncomputable def CanC (p:Int × Int) (c:List (List Int)):Prop:=((cT p).filter fun f=>decide (f∈c))=c
section
variable {p:Int × Int} {τ:List Nat} {c d:List (List Int)} {W:List (Option (List (List Int)))} {T:List (List Int)}
structure WCan (p:Int × Int) (W:List (Option (List (List Int)))):Prop where
 len:W.length=(cT p).length
 ok:∀o∈W,∀c,o=some c→c≠[]∧CanC p c
end
structure ChN (A c:List (List Int)):Prop where
 ne:c≠[]
 nd:c.Nodup
 sub:∀f∈c,f∈A
structure WN (A:List (List Int)) (W:List (Option (List (List Int)))):Prop where
 len:W.length=A.length
 ok:∀o∈W,∀c,o=some c→ChN A c
theorem miss_iff {w:List (Option (List (List Int)))} {A T:List (List Int)}:(oM w A T).isNone=true↔∀j,j<A.length→misK w T j=false:=by unfold oM; exact first_iff
noncomputable def qF (L:List SK) (b:Int):List Nat→List Int→List Nat
 | q,[]=>q
 | q,c::cs=>if b<S45.prQ (prK L) (q++[pE L c]) then q else qF L b (q++[pE L c]) cs
theorem rwgo_ok {L:List SK} {b:Int} (hL:0<L.length):∀ (cs:List Int) {q:List Nat},fD L q→S45.prQ (prK L) q≤b→fD L (qF L b q cs)∧S45.prQ (prK L) (qF L b q cs)≤b∧(qF L b q cs).length≤q.length+cs.length
 | [],q,h1,h2=>⟨h1,h2,aM _⟩
 | c::cs,q,h1,h2=>by
  show fD L (if b<S45.prQ (prK L) (q++[pE L c]) then q else qF L b (q++[pE L c]) cs)∧S45.prQ (prK L) (if b<S45.prQ (prK L) (q++[pE L c]) then q else qF L b (q++[pE L c]) cs)≤b∧(if b<S45.prQ (prK L) (q++[pE L c]) then q else qF L b (q++[pE L c]) cs).length≤q.length+(c::cs).length
  by_cases h:b<S45.prQ (prK L) (q++[pE L c])
  ·rw [if_pos h]; exact ⟨h1,h2,by omega⟩
  ·rw [if_neg h]
   obtain ⟨a1,a2,a3⟩:=rwgo_ok hL cs (q:=q++[pE L c]) (fun i hi=>by
    rcases bE.mp hi with hi | hi
    ·exact h1 i hi
    ·rw [aI.mp hi]
     exact no41_lt hL c) (Int.not_lt.mp h)
   refine ⟨a1,a2, ?_⟩; rw [aW] at a3; simp at a3 ⊢; omega
noncomputable def uY (L:List SK) (b:Int) (ns:List Int) (st:Nat):List Nat:=qF L b [] (ns.drop st)
theorem row51_ok {L:List SK} {b:Int} (hL:0<L.length) (hb:0≤b) {ns:List Int} (h63:ns.length≤63) (st:Nat):fD L (uY L b ns st)∧S45.prQ (prK L) (uY L b ns st)≤b∧(uY L b ns st).length≤63:=by obtain ⟨a1,a2,a3⟩:=rwgo_ok (b:=b) hL (ns.drop st) (q:=[]) (fun i hi=>(nomatch hi)) hb; refine ⟨a1,a2,cE a3 ?_⟩; rw [gZ]; simp; omega
noncomputable def CRow51:List D→R→Prop:=fun ds r=>∃ns st p L b,StkOk p L∧0≤b∧st≤100∧ns.length≤63∧(∀i∈ns,bitI i)∧ds=[.scr ns, .int ((st:Nat):Int), .lst (L.map skD), .int b]∧r= .val (.tup (aY (uY L b ns st)))
noncomputable def doQ (p:Int × Int) (w:List (Option (List (List Int)))) (T:List (List Int)):Bool:=(oM w (cT p) T).isNone
noncomputable def ftQ (p:Int × Int) (w:List (Option (List (List Int)))) (B:List Bk):Option Bk:=B.find? fun e=>doQ p w e.2.2
noncomputable def oeD:Option Bk→D
 | none=> .non
 | some e=>enD e
noncomputable def lrD (p:Int × Int) (w:List (Option (List (List Int)))) (B:List Bk):D:=match ftQ p w B with
 | none=> .tup [.str "none", .lst (B.map enD)]
 | some e=> .tup [.str "row", .tup (aY e.2.1), .lst ((B.filter fun x=>decide (x.1<e.1)).map enD)]
noncomputable def CFt51:List D→R→Prop:=fun ds r=>∃p L b B w,p∈bX∧StkOk p L∧BqOk p L b B∧sD p w∧ds=[cH p, .lst (B.map enD), .lst (w.map wsD)]∧r= .val (oeD (ftQ p w B))
noncomputable def CLr51:List D→R→Prop:=fun ds r=>∃p L b U w,p∈bX∧StkOk p L∧(L.map fun s=>sqD s.1).Nodup∧vF L b U∧sD p w∧ds=[cH p, .lst (L.map skD), .int b, .lst (w.map wsD)]∧r= .val (lrD p w (bkQ p L b))
theorem tX {p:Int × Int} {L:List SK} (hp:p∈bX) (S:StkOk p L) {row:List Nat} (h:fD L row):kI p (S45.tabQ (jH p L) (cT p) row):=⟨tab_all hp S h,fun ws hw=>nR hp (tab45_in hp S h ws hw)⟩
theorem ft_some {p:Int × Int} {L:List SK} {b:Int} {B:List Bk} (O:BqOk p L b B) {w:List (Option (List (List Int)))} {e:Bk} (h:ftQ p w B=some e):e∈B∧doQ p w e.2.2=true∧∀row,fD L row→S45.prQ (prK L) row≤b→doQ p w (S45.tabQ (jH p L) (cT p) row)=true→kle L e.2.1 row:=by
 obtain ⟨h1,as,bs,e1,h2⟩:=List.find?_eq_some_iff_append.mp h; refine ⟨by rw [e1]; simp,h1,fun row ho hr hd=> ?_⟩; obtain ⟨x,hx,x1,x2⟩:=O.all row ho hr; refine kle_tr ?_ x2; rw [e1] at hx
 rcases bE.mp hx with hx | hx
 ·have:=h2 x hx; rw [x1] at this; simp [hd] at this
 ·rcases aX.mp hx with rfl | hx
  ·exact .inl rfl
  ·have:=O.srt; rw [e1,bF,bA] at this; have:=(jO.mp (kQ.mp this).2.1).1; exact .inr (this x.2.1 (aQ.mpr ⟨x,hx,rfl⟩))
theorem ft_none {p:Int × Int} {L:List SK} {b:Int} {B:List Bk} (O:BqOk p L b B) {w:List (Option (List (List Int)))} (h:ftQ p w B=none):∀row,fD L row→S45.prQ (prK L) row≤b→doQ p w (S45.tabQ (jH p L) (cT p) row)=false:=fun row ho hr=>by obtain ⟨x,hx,x1,x2⟩:=O.all row ho hr; have:=rJ.mp h x hx; rw [x1] at this; simpa using this
noncomputable def szQ51 (c:Int):Int × Int:=sz8L.getD (mxS c 30%8).toNat (1,1)
theorem sz51_ok (c:Int):szQ51 c∈bX:=by
 have g8:∀p∈sz8L,p∈bX:=by decide+kernel
 exact g8 _ (getD_mem (iE _ (n:=8) (by decide)).1)
noncomputable def CSz51:List D→R→Prop:=fun ds r=>∃c,ds=[.int c]∧r= .val (cH (szQ51 c))
noncomputable def FI (K:aA) (mg:Str→Option Value) (n:Str) (st:Stmt):Prop:=∃f fd,mg n=some (.ref f)∧Fun K n n st f fd
theorem FI.mk {K:aA} {h:Heap} {mg:Str→Option Value} {n:Str} {st:Stmt} {od an:Option Addr} {sl:Array (Option Value)} {oc kV dc pm cd ct:Value} {f:Addr} (X:K.In h) (G:h.Ns mainGlobals mg) (a:eH K mainGlobals n=some (some (.ref f))) (l:K.lookup f=some ⟨oc,od, .func (dL n n (gU st) (fG st) (bC st) .none kV dc pm an cd ct),sl⟩) (c:gY K cd n=true) (k:cY K (.ref f)=true):FI K mg n st:=⟨f,_,mH X G a,fun_mk (st:=st) l c k⟩
section
variable {X:Cx} {sd:List Slot} {a b e:Expr} {pos:Pos} {d:D} {ds:List D}
theorem pd_ninD (ha:PEd X sd a (.val d)) (hb:PEd X sd b (.val (.lst ds))) (p1:pl d=true) (p2:plL ds=true) (hu:X.A.units+1+iM ds<cLine) (hk:behindInMarks .NotIn b=false:=by with_unfolding_all rfl):PEd X sd (.Compare a [.NotIn] [b] pos) (.val (.bl (!ds.any fun z=>deq z d))):=
 tR (wZ d ds p1 p2 hu) ha hb trivial hk fun σ F H x u Q S q1 q2 k=>⟨Rep.mono S.sub q2,Rep.mono S.sub q1,k F H S (Same.refl _)⟩
theorem PEd.valW {p:Int × Int} {bs:List Nat} {T:List (List Int)} (h:PEd X sd e (wlR X.K p bs T)):PEd X sd e (.val (.lst ((wlQ p bs T).map wsD))):=by
 unfold wlR at h
 by_cases q:bs.length=0
 ·rw [if_pos q] at h; rw [wl_nil q]; exact h.val
 ·rw [if_neg q] at h; rw [wl_lst q]; exact h.valD
end
theorem wlR_two (K:aA) (p:Int × Int) (bs:List Nat) (T:List (List Int)):(∃d,wlR K p bs T= .own d)∨∃G,wlR K p bs T= .ox G:=by
 unfold wlR
 by_cases h:bs.length=0
 ·exact .inl ⟨_,if_pos h⟩
 ·exact .inr ⟨_,if_neg h⟩
section
variable {X:Cx} {sd:List Slot} {e:Expr} {es:List Expr} {pos:Pos} {ds:List D} {q:Int × Int} {bs:List Nat} {T:List (List Int)} {x:Str} {p:Pos} {k n:Nat} {C:List D→R→Prop}
theorem pd_callW (G:bK X.prog X.w X.K X.mg X.base x k n C) (hr:Room k X.A) (hg:Gl X x) (ha:PAd X sd (e::es) (ds.map R.val)) (hc:C ds (wlR X.K q bs T)) (hn:ds.length=n)
  (hdb:(x==("__debug__":Str))=false:=by decide) (he:starEach (e::es) X.env=(false,eval e X.env)::starEach es X.env:=by rfl) (hpl:(backTo pos (starEach es X.env)).any (·.1)=false:=by rfl):PEd X sd (.Call (.Name x p) (e::es) [] pos) (.val (.lst ((wlQ q bs T).map wsD))):=by
 refine PEd.valW ?_; have cs:=wlR_two X.K q bs T; generalize wlR X.K q bs T=r at cs hc ⊢
 rcases cs with ⟨d,rfl⟩ | ⟨G',rfl⟩
 ·exact bR G hr hg ha hc trivial hn hdb he hpl
 ·exact bR G hr hg ha hc trivial hn hdb he hpl
theorem pd_callDW (G:CalleeD X.prog X.w X.K X.mg X.base x k n C) (hr:Room k X.A) (hg:Gl X x) (ha:PAd X sd (e::es) (ds.map R.val)) (hc:C (ds++[.non]) (wlR X.K q bs T)) (hn:ds.length+1=n)
  (hdb:(x==("__debug__":Str))=false:=by decide) (he:starEach (e::es) X.env=(false,eval e X.env)::starEach es X.env:=by rfl) (hpl:(backTo pos (starEach es X.env)).any (·.1)=false:=by rfl):PEd X sd (.Call (.Name x p) (e::es) [] pos) (.val (.lst ((wlQ q bs T).map wsD))):=by
 refine PEd.valW ?_; have cs:=wlR_two X.K q bs T; generalize wlR X.K q bs T=r at cs hc ⊢
 rcases cs with ⟨d,rfl⟩ | ⟨G',rfl⟩
 ·exact pd_callD G hr hg ha hc trivial hn hdb he hpl
 ·exact pd_callD G hr hg ha hc trivial hn hdb he hpl
end
theorem tab_eq (p:Int × Int) (L:List SK) (row:List Nat):tabQ p L row=S45.tabQ (jH p L) (cT p) row:=by
 have g:∀ (row:List Nat) (A:List (List Int)),A.map (fun ws=>nO p L row ws)=row.foldl (fun t k=>jH p L k t) A:=fun row=>by
  induction row with
  | nil=>exact fun A=>(bN fun _ _=>rfl).trans (iG A)
  | cons k row ih=>intro A; show A.map (fun ws=>nO p L row (onQ p (L.getD k default).1 ws))=row.foldl (fun t k=>jH p L k t) (jH p L k A); rw [← ih]; unfold jH; rw [aR]; rfl
 exact g row (cT p)
noncomputable def bs56 (p:Int × Int) (c:Int):List Nat:=(bH p.2.toNat).filter fun k=>decide (0<mxS c k%3)
theorem bs56_lt {p:Int × Int} {c:Int}:∀b∈bs56 p c,b<p.2.toNat:=fun b hb=>cN.mp (gP.mp hb).1
theorem bs56_len {p:Int × Int} (hp:p∈bX) (c:Int):(bs56 p c).length≤6:=by have:=(pX p hp).2.2.2.1; have h:=iN (fun k=>decide (0<mxS c k%3)) (bH p.2.toNat); rw [gB] at h; unfold bs56; omega
theorem wl_do {p:Int × Int} {bs:List Nat} {T U:List (List Int)} (OT:kI p T) (OU:kI p U):doQ p (wlQ p bs T) U=true↔∀k,k<(cT p).length→wdQ bs (T.getD k [])=wdQ bs (U.getD k []):=by
 unfold doQ; rw [miss_iff]; refine ⟨fun h k hk=> ?_,fun h k hk=> ?_⟩
 ·have:=h k hk; rw [wl_mis bs OU (by rw [OT.len]; exact hk) (by rw [OU.len]; exact hk)] at this; unfold unlK at this; simpa using this
 ·rw [wl_mis bs OU (by rw [OT.len]; exact hk) (by rw [OU.len]; exact hk)]; unfold unlK; rw [h k hk]; simp
theorem wl_all {p:Int × Int} {T U:List (List Int)} (OT:kI p T) (OU:kI p U) (h:doQ p (wlQ p (bH p.2.toNat) T) U=true):U=T:=by
 have h:=(wl_do OT OU).mp h; refine kM (by rw [OT.len,OU.len]) fun k h1 h2=> ?_
 have:=h k (by rw [← OT.len]; exact h2); have e1:T.getD k []=T[k]:=by simp [bS,h2]
 have e2:U.getD k []=U[k]:=by simp [bS,h1]
 rw [e1,e2] at this; have l1:=(OT.fil _ (fO h2)).len; have l2:=(OU.fil _ (fO h1)).len; refine kM (by rw [l1,l2]) fun j j1 j2=> ?_
 have g:=congrArg (fun l=>l[j]?) this; unfold wdQ at g; simp only [bJ] at g; have jr:(bH p.2.toNat)[j]? =some j:=lP (by omega); rw [jr] at g; simp [bS,j1,j2] at g; exact g.symm
theorem wl_do_self {p:Int × Int} (bs:List Nat) {T:List (List Int)} (OT:kI p T):doQ p (wlQ p bs T) T=true:=by unfold doQ; rw [wl_self bs OT]; rfl
noncomputable def bxD56 (c:Int):D→Bool
 | .int k=>decide (0<mxS c k.toNat%3)
 | _=>false
noncomputable def snd56:D→D
 | .tup [_,b,_]=>b
 | d=>d
end DL
set_option maxHeartbeats 400000
namespace K56
open PySem PySem.Spec PyProof.Rows L2 DL
noncomputable def top (i:Nat):Stmt:=PySem.Challenge.pw_leastrow_k56_whole_rows_met_again.main.body.getD i (.Pass ⟨0,0,0,0⟩)
noncomputable abbrev sCount:Stmt:=top 4
noncomputable abbrev sEach:Stmt:=top 5
noncomputable abbrev sFill:Stmt:=top 6
noncomputable abbrev sNum:Stmt:=top 7
noncomputable abbrev sItself:Stmt:=top 10
noncomputable abbrev sAnother:Stmt:=top 11
noncomputable abbrev sNewWord:Stmt:=top 12
noncomputable abbrev sWritten:Stmt:=top 14
noncomputable abbrev sStepOn:Stmt:=top 13
noncomputable abbrev sNos:Stmt:=top 17
noncomputable abbrev sMoves:Stmt:=top 18
noncomputable abbrev sNbeh:Stmt:=top 19
noncomputable abbrev sPut:Stmt:=top 20
noncomputable abbrev sFd:Stmt:=top 21
noncomputable abbrev sTfrom:Stmt:=top 22
noncomputable abbrev sBook:Stmt:=top 23
noncomputable abbrev sRowOn:Stmt:=top 25
noncomputable abbrev sTable:Stmt:=top 27
noncomputable abbrev sBoxes:Stmt:=top 28
noncomputable abbrev vK:Stmt:=top 29
noncomputable abbrev sMiss:Stmt:=top 31
noncomputable abbrev sDoes:Stmt:=top 32
noncomputable abbrev yT:Stmt:=top 33
noncomputable abbrev qA:Stmt:=top 34
noncomputable abbrev sFt:Stmt:=top 36
noncomputable abbrev sLr:Stmt:=top 37
noncomputable abbrev sCellAt:Stmt:=top 39
noncomputable abbrev sMixed:Stmt:=top 40
noncomputable abbrev sLFill:Stmt:=top 41
noncomputable abbrev sLWord:Stmt:=top 42
noncomputable abbrev sAft:Stmt:=top 43
noncomputable abbrev sDrawn:Stmt:=top 45
noncomputable abbrev sLMv:Stmt:=top 48
noncomputable abbrev sSize:Stmt:=top 44
noncomputable abbrev sKit:Stmt:=top 46
noncomputable abbrev sBnd:Stmt:=top 47
noncomputable abbrev sLPr:Stmt:=top 50
noncomputable abbrev sKey:Stmt:=top 51
noncomputable abbrev sTab:Stmt:=top 49
noncomputable abbrev sRow:Stmt:=top 52
noncomputable abbrev mL:Stmt:=top 53
section
variable {P:Program} {w:World} {K:aA} {mg:Str→Option Value} {base:Heap} {f:Addr} {fd:FuncData}
theorem u_of {u d n c:Nat} (h:u+n<c) (hd:d+1≤n):u+d+1<c:=by omega
theorem pl_sq (q:SQ):pl (sqD q)=true:=by
 show pl (iU _ _ _ _)=true; unfold iU
 split
 ·rfl
 ·split<;>rfl
theorem dep_sq (q:SQ):dep (sqD q)=1:=by
 show dep (iU _ _ _ _)=1; unfold iU
 split
 ·rfl
 ·split<;>rfl
theorem noLs_map {α:Type} (g:α→D) (h:∀a,noL (g a)=true):∀l:List α,qE (l.map g)=true
 | []=>rfl
 | a::l=>by show (noL (g a) && qE (l.map g))=true; rw [h a,noLs_map g h l]; rfl
theorem plL_map {α:Type} (g:α→D) (h:∀a,pl (g a)=true):∀l:List α,plL (l.map g)=true
 | []=>rfl
 | a::l=>by show (pl (g a) && plL (l.map g))=true; rw [h a,plL_map g h l]; rfl
theorem depL_map {α:Type} (g:α→D) (n:Nat) (h:∀a,dep (g a)≤n):∀l:List α,iM (l.map g)≤n
 | []=>cD _
 | a::l=>Nat.max_le.mpr ⟨h a,depL_map g n h l⟩
noncomputable def zJ:List D→R→Prop:=fun ds r=>∃p:Int × Int,ds=[cH p]∧0≤p.1∧p.1≤60∧r= .val (.int (2^p.1.toNat))
theorem ok_count (F:Fun K "word_count" "word_count" sCount f fd) (zrange:mg "range"=none) (hm:mg "word_count"=some (.ref f)):bK P w K mg base "word_count" 1 1 zJ:=by
 have nd:(["size","count","bit"]:List Str).Nodup:=by decide+kernel
 refine dU (N:=["size","count","bit"]) (ps:=["size"]) (k:=0) F ⟨rfl,rfl,rfl,nd,rfl,by decide+kernel,by decide+kernel⟩ hm (fun _ _ _ _ _ _ us hl=>match us,hl with | [_],_=>rfl) fun cdv A outer s H E hr ds r hl c=> ?_
 obtain ⟨p,rfl,h0,h1,rfl⟩:=c; have ep:p.1=((p.1.toNat:Nat):Int):=by omega
 refine aH (cF 1 nd rfl (Or.inl rfl) aZ ?_); refine aH (qZ (ds:=gO 0 p.1.toNat) (fun k=>[.val (cH p), .val (.int (2^k)), .un]) (fun k=>[.val (cH p), .val (.int (2^k)), .val (.int (0+(k:Int)))]) (kB (n:=p.1.toNat) rfl zrange (PEd.cast (cJ (n:=0) (d:= .int p.1) (aB 0 rfl (pv 0)) aZ rfl fun _ _=>rfl) (by rw [← ep])) (by omega)) ⟨.inr rfl, .inr rfl, .inr rfl,trivial⟩ (fun i d hd=> ?_) (fun i d hd=> ?_) ?_)
 ·obtain ⟨_,rfl⟩:=kF hd; exact cU 2 (bW (i:=2) nd rfl (Or.inl rfl))
 ·refine bD (cF 1 nd rfl (Or.inl rfl) (cX jD (aB 1 rfl (pv 1)) aZ (mul64 (by decide) (by decide))) ?_); exact ⟨.inr rfl, .inr rfl, .inl rfl,trivial⟩
 ·refine bD (bQ (aB 1 rfl (pv 1)) trivial ?_); rw [hX]
noncomputable def CEach:List D→R→Prop:=fun ds r=>∃ (L:List (List Int)) (m:Nat),ds=[.lst (L.map aV), .int (m:Int)]∧L.length * m≤900∧m≤64∧(∀s∈L,s.length≤100)∧r= .own ((L.flatMap fun s=>(bH m).map fun (w:Nat)=>s++[(w:Int)]).map aV)
theorem ok_each (F:Fun K "with_each_word" "with_each_word" sEach f fd) (zrange:mg "range"=none) (hm:mg "with_each_word"=some (.ref f)):bK P w K mg base "with_each_word" 1 2 CEach:=by
 have nd:(["starts","count","longer","start"]:List Str).Nodup:=by decide+kernel
 refine dU (N:=["starts","count","longer","start"]) (ps:=["starts","count"]) (k:=0) F ⟨rfl,rfl,rfl,nd,rfl,by decide+kernel,by decide+kernel⟩ hm (fun _ _ _ _ _ _ us hl=>match us,hl with | [_,_],_=>rfl) fun cdv A outer s H E hr ds r hl c=> ?_
 obtain ⟨L,m,rfl,hL,hm64,hs,rfl⟩:=c; have nd2:(["word","start"]:List Str).Nodup:=by decide+kernel
 refine aH (gA 2 nd rfl (Or.inl rfl) (jQ (ds:=[]) aP (cD _)) fun l=> ?_); refine aH (qZ (ds:=L.map aV) (fun k=>[.val (.lst (L.map aV)), .val (.int (m:Int)), .own l (((L.take k).flatMap fun s=>(bH m).map fun (w:Nat)=>s++[(w:Int)]).map aV), .un]) (fun k=>[.val (.lst (L.map aV)), .val (.int (m:Int)), .own l (((L.take k).flatMap fun s=>(bH m).map fun (w:Nat)=>s++[(w:Int)]).map aV), .val (aV (L.getD k []))]) (eV (aB 0 rfl (pv 0))) ⟨.inr rfl, .inr rfl, .inr rfl, .inr rfl,trivial⟩ (fun k d hd=> ?_) (fun k d hd=> ?_) ?_)
 ·obtain ⟨_,rfl⟩:=lK hd; exact cU 3 (bW (i:=3) nd rfl (Or.inr rfl))
 ·obtain ⟨hk,rfl⟩:=lK hd; have hmem:L.getD k []∈L:=getD_mem hk
  have et:L.take (k+1)=L.take k++[L.getD k []]:=by rw [eQ]; simp [bS,hk]
  have lk:(L.take k).length * m+m≤900:=by
   have h1:(L.take k).length+1≤L.length:=by rw [dD]; omega
   have h2:=Nat.mul_le_mul_right m h1; rw [Nat.succ_mul] at h2; omega
  have comp:∀ {pos:Pos},PEd (nL CX0 P w K mg base ["starts","count","longer","start"] "with_each_word" (bC sEach) f cdv A outer s H E).nox [.val (.lst (L.map aV)), .val (.int (m:Int)), .own l (((L.take k).flatMap fun s=>(bH m).map fun (w:Nat)=>s++[(w:Int)]).map aV), .val (aV (L.getD k []))] (match (fG sEach).getD 1 (.Pass ⟨0,0,0,0⟩) with | .For _ _ [.Expr (.Call _ [c] _ _) _] _ _=>c | _=> .Constant .none 0 ⟨0,0,0,0⟩) (.own (((gO 0 m).filter fun _=>true).map fun d=>D.tup ((L.getD k []).map D.int++[d]))):=fun {pos}=>by
   refine fU (N:=["word","start"]) (M:=["starts","count","longer","start"]) (cap:=[none,some 3]) (sc:=bC sEach) (Tb:=fun d=>[.val d, .val (aV (L.getD k []))]) (fun _=>true) (fun d=>D.tup ((L.getD k []).map D.int++[d])) (kB (n:=m) rfl zrange (aB 1 rfl (pv 1)) (by omega)) (by rw [hX]; omega) rfl (by decide+kernel) rfl (by decide+kernel) rfl (fun cl C fp s H d _=>cU 0 (bW (i:=0) nd2 rfl (Or.inl rfl))) (fun d _=>⟨.inl rfl, .inr rfl,trivial⟩) (fun cl C fp s H d _=> .inl ⟨rfl,rfl⟩) fun cl C fp s H d _ _=> ?_
   refine lS (aB 1 rfl (pv 1)) (fP (ds:=[d]) (aD (aB 0 rfl (pv 0)) aP) (aJ rfl)) ?_; have:=hs _ hmem; simp only [aC,bU,gR]; omega
  have ec:((gO 0 m).filter fun _=>true).map (fun d=>D.tup ((L.getD k []).map D.int++[d]))=((bH m).map fun (w:Nat)=>L.getD k []++[(w:Int)]).map aV:=by
   rw [bZ.mpr (fun _ _=>rfl)]; unfold gO; rw [aR,aR]; refine bN fun w _=> ?_
   simp [aV]
  refine bD (vV 2 rfl (pv 2) (PEd.val (comp (pos:=⟨0,0,0,0⟩))) ?_ ?_)
  ·rw [aC,oK,ec,aC,aC,gB]; omega
  ·refine ⟨.inr rfl, .inr rfl, .inr ?_, .inl rfl,trivial⟩; rw [et,ec,List.flatMap_append,bF]; simp
 ·refine bD (oP 2 rfl (pv 2) ?_); show R.own _=R.own _; rw [aC,eY]
noncomputable def xS:List D→R→Prop:=fun ds r=>∃p,p∈bX∧ds=[cH p]∧r= .own ((gT (2^p.1.toNat) p.2.toNat).map aV)
theorem ok_fill (F:Fun K "fillings" "fillings" sFill f fd) (zrange:mg "range"=none) (hm:mg "fillings"=some (.ref f)) (GC:bK P w K mg base "word_count" 1 1 zJ) (GE:bK P w K mg base "with_each_word" 1 2 CEach):bK P w K mg base "fillings" 2 1 xS:=by
 have nd:(["size","count","told","box"]:List Str).Nodup:=by decide+kernel
 refine dU (N:=["size","count","told","box"]) (ps:=["size"]) (k:=1) F ⟨rfl,rfl,rfl,nd,rfl,by decide+kernel,by decide+kernel⟩ hm (fun _ _ _ _ _ _ us hl=>match us,hl with | [_],_=>rfl) fun cdv A outer s H E hr ds r hl c=> ?_
 obtain ⟨p,hp,rfl,rfl⟩:=c; obtain ⟨h1,h2,h3,h4,h5⟩:=pX p hp; have e2:p.2=((p.2.toNat:Nat):Int):=by omega
 have m64:2^p.1.toNat≤64:=by
  have:p.1.toNat≤6:=by omega
  exact cE (qB (by decide) this) (by decide)
 have ec:(2:Int)^p.1.toNat=((2^p.1.toNat:Nat):Int):=by push_cast; rfl
 refine aH (cF 1 nd rfl (Or.inl rfl) (bR (ds:=[cH p]) GC hr rfl (aD (aB 0 rfl (pv 0)) aP) ⟨p,rfl,by omega,by omega,rfl⟩ trivial rfl) ?_); refine aH (gA (ds:=[aV []]) 2 nd rfl (Or.inl rfl) (jQ (ds:=[aV []]) (aD (fP (ds:=[]) aP (cD _)) aP) (aJ rfl)) fun l=> ?_); refine aH (iF (ds:=gO 0 p.2.toNat) (fun k sd=>∃l,sd=[.val (cH p), .val (.int (2^p.1.toNat)), .own l ((gT (2^p.1.toNat) k).map aV), .un]) (kB (n:=p.2.toNat) rfl zrange (PEd.cast (cJ (n:=1) (d:= .int p.2) (aB 0 rfl (pv 0)) aZ rfl fun _ _=>rfl) (by rw [← e2])) (by omega)) ⟨_,Le.refl _,l,rfl⟩ (fun k d sdk hd hk=> ?_) fun sdn hn=> ?_)
 ·obtain ⟨hk2,rfl⟩:=kF hd; obtain ⟨l2,rfl⟩:=hk; refine ⟨[.val (cH p), .val (.int (2^p.1.toNat)), .own l2 ((gT (2^p.1.toNat) k).map aV), .val (.int (0+(k:Int)))],cU 3 (bW (i:=3) nd rfl (Or.inl rfl)), ?_⟩; refine iS 2 rfl ?_; refine bD (gA 2 nd rfl (Or.inl rfl) (bR (ds:=[.lst ((gT (2^p.1.toNat) k).map aV), .int ((2^p.1.toNat:Nat):Int)]) GE hr rfl (aD (aB 2 rfl (pv 2)) (aD (PEd.cast (aB 1 rfl (pv 1)) (by rw [ec])) aP)) ⟨gT (2^p.1.toNat) k,2^p.1.toNat,rfl, ?_,m64,fun s hs=> ?_,rfl⟩ trivial rfl) fun l3=> ?_)
  ·rw [tW]; exact xQ p hp k hk2
  ·rw [vD _ _ s hs]; omega
  ·exact ⟨[.val (cH p), .val (.int (2^p.1.toNat)), .own l3 ((gT (2^p.1.toNat) (k+1)).map aV), .un],⟨.inr rfl, .inr rfl, .inr rfl, .inl rfl,trivial⟩,l3,rfl⟩
 ·rw [hX] at hn; obtain ⟨l2,rfl⟩:=hn; exact bD (oP 2 rfl (pv 2) rfl)
noncomputable def CNum:List D→R→Prop:=fun ds r=>∃ (p:Int × Int) (ws:List Int),ds=[cH p,aV ws]∧0≤p.1∧p.1≤60∧r= .val (.int (sV (2^p.1.toNat) ws))
theorem ok_num (F:Fun K "number_of" "number_of" sNum f fd) (hm:mg "number_of"=some (.ref f)) (GC:bK P w K mg base "word_count" 1 1 zJ):bK P w K mg base "number_of" 2 2 CNum:=by
 have nd:(["size","filling","count","number","word"]:List Str).Nodup:=by decide+kernel
 refine dU (N:=["size","filling","count","number","word"]) (ps:=["size","filling"]) (k:=1) F ⟨rfl,rfl,rfl,nd,rfl,by decide+kernel,by decide+kernel⟩ hm (fun _ _ _ _ _ _ us hl=>match us,hl with | [_,_],_=>rfl) fun cdv A outer s H E hr ds r hl c=> ?_
 obtain ⟨p,ws,rfl,h0,h1,rfl⟩:=c
 have b1: -(2^64)<(2:Int)^p.1.toNat∧(2:Int)^p.1.toNat<2^64:=by
  have h3:p.1.toNat≤60:=by omega
  have h4:2^p.1.toNat≤2^60:=qB (by decide) h3; have h5:(2:Int)^p.1.toNat=((2^p.1.toNat:Nat):Int):=by push_cast; rfl
  rw [h5]; have h6:(2:Nat)^60=1152921504606846976:=by decide
  rw [h6] at h4; generalize 2^p.1.toNat=q at h4 ⊢; omega
 refine aH (cF 2 nd rfl (Or.inl rfl) (bR (ds:=[cH p]) GC hr rfl (aD (aB 0 rfl (pv 0)) aP) ⟨p,rfl,h0,h1,rfl⟩ trivial rfl) ?_); refine aH (cF 3 nd rfl (Or.inl rfl) aZ ?_); refine aH (qZ (ds:=ws.map D.int) (fun k=>[.val (cH p), .val (aV ws), .val (.int (2^p.1.toNat)), .val (.int (sV (2^p.1.toNat) (ws.take k))), .un]) (fun k=>[.val (cH p), .val (aV ws), .val (.int (2^p.1.toNat)), .val (.int (sV (2^p.1.toNat) (ws.take k))), .val (.int (ws.getD k 0))]) (kS (aB 1 rfl (pv 1))) ⟨.inr rfl, .inr rfl, .inr rfl, .inr rfl, .inr rfl,trivial⟩ (fun k d hd=> ?_) (fun k d hd=> ?_) ?_)
 ·obtain ⟨_,rfl⟩:=ints_get hd; exact cU 4 (bW (i:=4) nd rfl (Or.inl rfl))
 ·obtain ⟨hk,rfl⟩:=ints_get hd
  have et:ws.take (k+1)=ws.take k++[ws.getD k 0]:=by rw [eQ]; simp [bS,hk]
  refine bD (cF 3 nd rfl (Or.inl rfl) (gI iX (cX jD (aB 3 rfl (pv 3)) (aB 2 rfl (pv 2)) (mul64 b1.1 b1.2)) (aB 4 rfl (pv 4))) ?_); refine ⟨.inr rfl, .inr rfl, .inr rfl, .inr ?_, .inl rfl,trivial⟩; rw [et]; unfold sV; rw [jZ]; rfl
 ·refine bD (bQ (aB 3 rfl (pv 3)) trivial ?_); show R.val _=R.val _; rw [aC,eY]
noncomputable def CItself:List D→R→Prop:=fun ds r=>∃ (k:Nat) (m a:Int),ds=[.str (nm k), .int m, .int a]∧7≤k∧k<10∧0<m∧r= .val (.int (selfW k m a))
theorem ok_itself (F:Fun K "word_by_itself" "word_by_itself" sItself f fd) (hm:mg "word_by_itself"=some (.ref f)):bK P w K mg base "word_by_itself" 1 3 CItself:=by
 have nd:(["name","count","word"]:List Str).Nodup:=by decide+kernel
 refine dU (N:=["name","count","word"]) (ps:=["name","count","word"]) (k:=0) F ⟨rfl,rfl,rfl,nd,rfl,by decide+kernel,by decide+kernel⟩ hm (fun _ _ _ _ _ _ us hl=>match us,hl with | [_,_,_],_=>rfl) fun cdv A outer s H E hr ds r hl c=> ?_
 obtain ⟨k,m,a,rfl,h7,h10,hm0,rfl⟩:=c; refine aH (hW (k:=decide (k=7)) (cQ (aB 0 rfl (pv 0)) cW rfl rfl rfl (yA k h10)) (fun h=> ?_) fun h=>cM ?_)
 ·have:k=7:=by simpa using h
  subst this; exact bD (bQ (gI pQ (gI pQ (aB 1 rfl (pv 1)) aZ) (aB 2 rfl (pv 2))) trivial rfl)
 have n7:¬ k=7:=by simpa using h
 refine aH (hW (k:=decide (k=8)) (cQ (aB 0 rfl (pv 0)) cW rfl rfl rfl (nm_up k h10)) (fun h=> ?_) fun h=>cM ?_)
 ·have:k=8:=by simpa using h
  subst this; exact bD (bQ (cX fX (cX jD (aB 2 rfl (pv 2)) aZ (mul64 (by decide) (by decide))) (aB 1 rfl (pv 1)) hm0) trivial rfl)
 have n8:¬ k=8:=by simpa using h
 have:k=9:=by omega
 subst this; exact bD (bQ (cX op_fdiv (aB 2 rfl (pv 2)) aZ ⟨by decide,by decide⟩) trivial rfl)
noncomputable def CAnother:List D→R→Prop:=fun ds r=>∃ (k:Nat) (m a c:Int),ds=[.str (nm k), .int m, .int a, .int c]∧k<6∧0<m∧r= .val (.int (zG k m a c))
theorem ok_another (F:Fun K "word_by_another" "word_by_another" sAnother f fd) (hm:mg "word_by_another"=some (.ref f)):bK P w K mg base "word_by_another" 1 4 CAnother:=by
 have nd:(["name","count","word","other"]:List Str).Nodup:=by decide+kernel
 refine dU (N:=["name","count","word","other"]) (ps:=["name","count","word","other"]) (k:=0) F ⟨rfl,rfl,rfl,nd,rfl,by decide+kernel,by decide+kernel⟩ hm (fun _ _ _ _ _ _ us hl=>match us,hl with | [_,_,_,_],_=>rfl) fun cdv A outer s H E hr ds r hl c=> ?_
 obtain ⟨k,m,a,c,rfl,h6,hm0,rfl⟩:=c; have h10:k<10:=by omega
 refine aH (hW (k:=decide (k=0)) (cQ (aB 0 rfl (pv 0)) cW rfl rfl rfl (nm_and k h10)) (fun h=> ?_) fun h=>cM ?_)
 ·have:k=0:=by simpa using h
  subst this; exact bD (bQ (gI op_and (aB 2 rfl (pv 2)) (aB 3 rfl (pv 3))) trivial rfl)
 have n0:¬ k=0:=by simpa using h
 refine aH (hW (k:=decide (k=1)) (cQ (aB 0 rfl (pv 0)) cW rfl rfl rfl (nm_or k h10)) (fun h=> ?_) fun h=>cM ?_)
 ·have:k=1:=by simpa using h
  subst this; exact bD (bQ (gI op_or (aB 2 rfl (pv 2)) (aB 3 rfl (pv 3))) trivial rfl)
 have n1:¬ k=1:=by simpa using h
 refine aH (hW (k:=decide (k=2)) (cQ (aB 0 rfl (pv 0)) cW rfl rfl rfl (nm_xor k h10)) (fun h=> ?_) fun h=>cM ?_)
 ·have:k=2:=by simpa using h
  subst this; exact bD (bQ (gI op_xor (aB 2 rfl (pv 2)) (aB 3 rfl (pv 3))) trivial rfl)
 have n2:¬ k=2:=by simpa using h
 refine aH (hW (k:=decide (k=3)) (cQ (aB 0 rfl (pv 0)) cW rfl rfl rfl (nm_add k h10)) (fun h=> ?_) fun h=>cM ?_)
 ·have:k=3:=by simpa using h
  subst this; exact bD (bQ (cX fX (gI iX (aB 2 rfl (pv 2)) (aB 3 rfl (pv 3))) (aB 1 rfl (pv 1)) hm0) trivial rfl)
 have n3:¬ k=3:=by simpa using h
 refine aH (hW (k:=decide (k=4)) (cQ (aB 0 rfl (pv 0)) cW rfl rfl rfl (zO k h10)) (fun h=> ?_) fun h=>cM ?_)
 ·have:k=4:=by simpa using h
  subst this; exact bD (bQ (cX fX (gI pQ (aB 2 rfl (pv 2)) (aB 3 rfl (pv 3))) (aB 1 rfl (pv 1)) hm0) trivial rfl)
 have n4:¬ k=4:=by simpa using h
 have:k=5:=by omega
 subst this; exact bD (bQ (aB 3 rfl (pv 3)) trivial rfl)
structure StOk (p:Int × Int) (k:Nat) (i j n:Int) (ws:List Int):Prop where
 sz:p∈bX
 k10:k<10
 i0:0≤i∧i<p.2
 j0:0≤j∧j<p.2
 n0:0≤n∧n<((2^p.1.toNat:Nat):Int)
 len:ws.length=p.2.toNat
 wd:∀w∈ws,0≤w∧w<((2^p.1.toNat:Nat):Int)
noncomputable def nwOf (p:Int × Int) (k:Nat) (i j n:Int) (ws:List Int):Int:=newW k ((2^p.1.toNat:Nat):Int) (ws.getD i.toNat 0) (ws.getD j.toNat 0) n
noncomputable def CNewWord:List D→R→Prop:=fun ds r=>∃p k i j n ws,StOk p k i j n ws∧ds=[cH p,iU k i j n,aV ws]∧r= .val (.int (nwOf p k i j n ws))
theorem pw_pos (n:Nat):(0:Int)<((2^n:Nat):Int):=by have:0<2^n:=Nat.pow_pos (by decide); generalize 2^n=q at this ⊢; omega
theorem at_int {ws:List Int} {i:Int} {n:Nat} (h:ws.length=n) (h1:i<(n:Int)) (h0:0≤i):(ws.map D.int)[i.toNat]? =some (.int (ws.getD i.toNat 0)):=by
 have:i.toNat<ws.length:=by omega
 simp [bS,this]
theorem ok_newword (F:Fun K "new_word" "new_word" sNewWord f fd) (byself:∃ad,mg "BY_ITSELF"=some (.ref ad)∧∀H:Hp,SqT K H ad [V.str "not",V.str "up",V.str "down"]) (hm:mg "new_word"=some (.ref f)) (GC:bK P w K mg base "word_count" 1 1 zJ) (GI:bK P w K mg base "word_by_itself" 1 3 CItself) (GA:bK P w K mg base "word_by_another" 1 4 CAnother):bK P w K mg base "new_word" 2 3 CNewWord:=by
 have nd:(["size","step","filling","name","word"]:List Str).Nodup:=by decide+kernel
 refine dU (N:=["size","step","filling","name","word"]) (ps:=["size","step","filling"]) (k:=1) F ⟨rfl,rfl,rfl,nd,rfl,by decide+kernel,by decide+kernel⟩ hm (fun _ _ _ _ _ _ us hl=>match us,hl with | [_,_,_],_=>rfl) fun cdv A outer s H E hr ds r hl c=> ?_
 obtain ⟨p,k,i,j,n,ws,O,rfl,rfl⟩:=c; obtain ⟨h1,h2,h3,h4,h5⟩:=pX p O.sz; have hm0:=pw_pos p.1.toNat; have ec:(2:Int)^p.1.toNat=((2^p.1.toNat:Nat):Int):=by push_cast; rfl
 have e2:p.2=((p.2.toNat:Nat):Int):=by omega
 obtain ⟨ad,hB,hq⟩:=byself; have ai:(ws.map D.int)[i.toNat]? =some (.int (ws.getD i.toNat 0)):=at_int O.len (by have:=O.i0.2; omega) O.i0.1; have aj:(ws.map D.int)[j.toNat]? =some (.int (ws.getD j.toNat 0)):=at_int O.len (by have:=O.j0.2; omega) O.j0.1
 by_cases k6:k<6
 ·have es:iU k i j n= .tup [.str (nm k), .int i, .int j]:=by unfold iU; rw [if_pos k6]
  rw [es]; refine aH (cF 3 nd rfl (Or.inl rfl) (cJ (n:=0) (aB 1 rfl (pv 1)) aZ rfl fun _ _=>rfl) ?_); refine aH (eR (cQ (aB 3 rfl (pv 3)) cW rfl rfl rfl (sI k O.k10)) (by simp; omega) (cM ?_)); refine aH (cF 4 nd rfl (Or.inl rfl) (nT (i:=i) (aB 2 rfl (pv 2)) (cJ (n:=1) (aB 1 rfl (pv 1)) aZ rfl fun _ _=>rfl) O.i0.1 ai fun _ _=>rfl) ?_); refine aH (eR (ptd_inM rfl hB (fun H=>hq H) (aB 3 rfl (pv 3)) rfl rfl rfl) (by rw [nm_self k O.k10]; simp; omega) (cM ?_)); refine bD (bQ (bR (ds:=[.str (nm k), .int ((2^p.1.toNat:Nat):Int), .int (ws.getD i.toNat 0), .int (ws.getD j.toNat 0)]) GA hr rfl (aD (aB 3 rfl (pv 3)) (aD (PEd.cast (bR (ds:=[cH p]) GC hr rfl (aD (aB 0 rfl (pv 0)) aP) ⟨p,rfl,by omega,by omega,rfl⟩ trivial rfl) (by rw [ec])) (aD (aB 4 rfl (pv 4)) (aD (nT (i:=j) (aB 2 rfl (pv 2)) (cJ (n:=2) (aB 1 rfl (pv 1)) aZ rfl fun _ _=>rfl) O.j0.1 aj fun _ _=>rfl) aP)))) ⟨k,_,_,_,rfl,k6,hm0,rfl⟩ trivial rfl) trivial ?_); unfold nwOf newW; rw [if_neg (by omega),if_neg (by omega)]
 ·by_cases k6':k=6
  ·subst k6'; have es:iU 6 i j n= .tup [.str (nm 6), .int i, .int n]:=rfl; rw [es]; refine aH (cF 3 nd rfl (Or.inl rfl) (cJ (n:=0) (aB 1 rfl (pv 1)) aZ rfl fun _ _=>rfl) ?_); refine aH (iA (cQ (aB 3 rfl (pv 3)) cW rfl rfl rfl (sI 6 O.k10)) rfl ?_); exact bD (bQ (cJ (n:=2) (aB 1 rfl (pv 1)) aZ rfl fun _ _=>rfl) trivial rfl)
  ·have es:iU k i j n= .tup [.str (nm k), .int i]:=by unfold iU; rw [if_neg k6,if_neg k6']
   rw [es]; refine aH (cF 3 nd rfl (Or.inl rfl) (cJ (n:=0) (aB 1 rfl (pv 1)) aZ rfl fun _ _=>rfl) ?_); refine aH (eR (cQ (aB 3 rfl (pv 3)) cW rfl rfl rfl (sI k O.k10)) (by simp; omega) (cM ?_)); refine aH (cF 4 nd rfl (Or.inl rfl) (nT (i:=i) (aB 2 rfl (pv 2)) (cJ (n:=1) (aB 1 rfl (pv 1)) aZ rfl fun _ _=>rfl) O.i0.1 ai fun _ _=>rfl) ?_); refine aH (iA (ptd_inM rfl hB (fun H=>hq H) (aB 3 rfl (pv 3)) rfl rfl rfl) (by rw [nm_self k O.k10]; simp; omega) ?_); refine bD (bQ (bR (ds:=[.str (nm k), .int ((2^p.1.toNat:Nat):Int), .int (ws.getD i.toNat 0)]) GI hr rfl (aD (aB 3 rfl (pv 3)) (aD (PEd.cast (bR (ds:=[cH p]) GC hr rfl (aD (aB 0 rfl (pv 0)) aP) ⟨p,rfl,by omega,by omega,rfl⟩ trivial rfl) (by rw [ec])) (aD (aB 4 rfl (pv 4)) aP))) ⟨k,_,_,rfl,by omega,O.k10,hm0,rfl⟩ trivial rfl) trivial ?_); unfold nwOf newW; rw [if_neg k6',if_pos (by omega)]
noncomputable def CWritten:List D→R→Prop:=fun ds r=>∃k i j n,ds=[iU k i j n]∧r= .val (.int i)
theorem stp_one (k:Nat) (i j n:Int):∃es,iU k i j n= .tup (.str (nm k):: .int i::es):=by
 unfold iU
 split
 ·exact ⟨_,rfl⟩
 ·split
  ·exact ⟨_,rfl⟩
  ·exact ⟨_,rfl⟩
theorem ok_written (F:Fun K "written_box" "written_box" sWritten f fd) (hm:mg "written_box"=some (.ref f)):bK P w K mg base "written_box" 1 1 CWritten:=by
 have nd:(["step"]:List Str).Nodup:=by decide+kernel
 refine dU (N:=["step"]) (ps:=["step"]) (k:=0) F ⟨rfl,rfl,rfl,nd,rfl,by decide+kernel,by decide+kernel⟩ hm (fun _ _ _ _ _ _ us hl=>match us,hl with | [_],_=>rfl) fun cdv A outer s H E hr ds r hl c=> ?_
 obtain ⟨k,i,j,n,rfl,rfl⟩:=c; obtain ⟨es,e⟩:=stp_one k i j n; rw [e]; exact bD (bQ (cJ (n:=1) (aB 0 rfl (pv 0)) aZ rfl fun _ _=>rfl) trivial rfl)
noncomputable def onOf (p:Int × Int) (k:Nat) (i j n:Int) (ws:List Int):List Int:=ws.set i.toNat (nwOf p k i j n ws)
noncomputable def zF:List D→R→Prop:=fun ds r=>∃p k i j n ws,StOk p k i j n ws∧ds=[cH p,iU k i j n,aV ws]∧r= .val (aV (onOf p k i j n ws))
theorem rO (ws:List Int) {i:Nat} (h:i<ws.length):DL.cutD (ws.map D.int) none (some (i:Int))=(ws.take i).map D.int:=by
 unfold DL.cutD; have h1:HT.sIx (ws.map D.int).length 0 none=0:=rfl
 have h2:HT.sIx (ws.map D.int).length (ws.map D.int).length (some (i:Int))=i:=by rw [HT.sIx_nat,aC]; omega
 rw [h1,h2,rG]; simp
theorem qP (ws:List Int) {i:Nat} (h:i<ws.length):DL.cutD (ws.map D.int) (some ((i:Int)+1)) none=(ws.drop (i+1)).map D.int:=by
 unfold DL.cutD; have e:((i:Int)+1)=((i+1:Nat):Int):=by push_cast; rfl
 have h1:HT.sIx (ws.map D.int).length 0 (some ((i:Int)+1))=i+1:=by rw [e,HT.sIx_nat,aC]; omega
 have h2:HT.sIx (ws.map D.int).length (ws.map D.int).length none=ws.length:=by rw [HT.sIx_none,aC]
 rw [h1,h2,nE,fE (by rw [gZ,aC]; omega)]
theorem ok_stepon (F:Fun K "step_on" "step_on" sStepOn f fd) (hm:mg "step_on"=some (.ref f)) (GB:bK P w K mg base "written_box" 1 1 CWritten) (GN:bK P w K mg base "new_word" 2 3 CNewWord):bK P w K mg base "step_on" 3 3 zF:=by
 have nd:(["size","step","filling","box"]:List Str).Nodup:=by decide+kernel
 refine dU (N:=["size","step","filling","box"]) (ps:=["size","step","filling"]) (k:=2) F ⟨rfl,rfl,rfl,nd,rfl,by decide+kernel,by decide+kernel⟩ hm (fun _ _ _ _ _ _ us hl=>match us,hl with | [_,_,_],_=>rfl) fun cdv A outer s H E hr ds r hl c=> ?_
 obtain ⟨p,k,i,j,n,ws,O,rfl,rfl⟩:=c; obtain ⟨h1,h2,h3,h4,h5⟩:=pX p O.sz; have hr1:=hr.mono (show 1≤2 by decide); have li:i.toNat<ws.length:=by have:=O.i0; rw [O.len]; omega
 have ei:i=((i.toNat:Nat):Int):=by have:=O.i0; omega
 have l6:ws.length≤6:=by rw [O.len]; omega
 refine aH (cF (d:= .int ((i.toNat:Nat):Int)) 3 nd rfl (Or.inl rfl) (PEd.cast (bR (ds:=[iU k i j n]) GB hr1 rfl (aD (aB 1 rfl (pv 1)) aP) ⟨k,i,j,n,rfl,rfl⟩ trivial rfl) (by rw [← ei])) ?_); refine bD (bQ (PEd.cast (lS (lS (vM (ol:=none) (oh:=some ((i.toNat:Nat):Int)) (aB 2 rfl (pv 2)) trivial (aB 3 rfl (pv 3)) ?_) (fP (ds:=[.int (nwOf p k i j n ws)]) (aD (bR (ds:=[cH p,iU k i j n,aV ws]) GN hr rfl (aD (aB 0 rfl (pv 0)) (aD (aB 1 rfl (pv 1)) (aD (aB 2 rfl (pv 2)) aP))) ⟨p,k,i,j,n,ws,O,rfl,rfl⟩ trivial rfl) aP) (aJ rfl)) ?_) (vM (ol:=some (((i.toNat:Nat):Int)+1)) (oh:=none) (aB 2 rfl (pv 2)) (gI iX (aB 3 rfl (pv 3)) aZ) trivial ?_) ?_) ?_) trivial rfl)
 ·rw [HT.sIx_nat,aC]; omega
 ·rw [rO ws li]; simp only [aC,dD,bU,gR]; omega
 ·have e:(((i.toNat:Nat):Int)+1)=((i.toNat+1:Nat):Int):=by push_cast; rfl
  rw [e,HT.sIx_nat,aC]; omega
 ·rw [rO ws li,qP ws li]; simp only [aW,aC,dD,gZ,bU,gR]; omega
 ·rw [rO ws li,qP ws li]; unfold aV onOf; rw [sM,if_pos li]; simp
theorem onQ_on {p:Int × Int} {q:SQ} {ws:List Int} (O:pW p q) (G:Fil p ws):StOk p q.1 q.2.1 q.2.2.1 q.2.2.2 ws:=⟨O.sz,O.k10,O.i0,O.j0,O.n0,G.len,G.wd⟩
theorem ok_nos45 (F:Fun K "numbers_of_step" "numbers_of_step" sNos f fd) (ztuple:mg "tuple"=none) (hm:mg "numbers_of_step"=some (.ref f)) (GN:bK P w K mg base "number_of" 2 2 CNum) (GS:bK P w K mg base "step_on" 3 3 zF) (GF:bK P w K mg base "fillings" 2 1 xS):bK P w K mg base "numbers_of_step" 4 2 CNos:=by
 have nd:(["size","step"]:List Str).Nodup:=by decide+kernel
 have nd2:(["filling","size","step"]:List Str).Nodup:=by decide+kernel
 refine dU (N:=["size","step"]) (ps:=["size","step"]) (k:=3) F ⟨rfl,rfl,rfl,nd,rfl,by decide+kernel,by decide+kernel⟩ hm (fun _ _ _ _ _ _ us hl=>match us,hl with | [_,_],_=>rfl) fun cdv A outer s H E hr ds r hl c=> ?_
 obtain ⟨p,q,hp,O,rfl,rfl⟩:=c; have hr2:=hr.mono (show 2≤3 by decide); have f9:(cT p).length≤64:=kY hp; obtain ⟨h1,h2,h3,h4,h5⟩:=pX p hp
 have ec:(((cT p).map aV).filter fun _=>true).map (fun d=>D.int ((sJ p (onQ p q (iV d)):Nat):Int))=aY (jL p q):=by
  rw [bZ.mpr (fun _ _=>rfl)]; unfold aY jL; rw [aR,aR]; refine bN fun g _=> ?_
  show D.int ((sJ p (onQ p q (iV (aV g))):Nat):Int)=_; rw [gM]; rfl
 refine bD (bQ (kZ rfl ztuple (PEd.bor (PEd.val (PEd.cast (fU (ds:=(cT p).map aV) (N:=["filling","size","step"]) (M:=["size","step"]) (cap:=[none,some 0,some 1]) (sc:=bC sNos) (Tb:=fun d=>[.val d, .val (cH p), .val (sqD q)]) (fun _=>true) (fun d=>D.int ((sJ p (onQ p q (iV d)):Nat):Int)) (eV (PEd.val (bR (ds:=[cH p]) GF hr2 rfl (aD (aB 0 rfl (pv 0)) aP) ⟨p,hp,rfl,rfl⟩ trivial rfl))) (by rw [aC]; omega) rfl (by decide+kernel) rfl (by decide+kernel) rfl (fun cl C fp s H d hd=>cU 0 (bW (i:=0) nd2 rfl (Or.inl rfl))) (fun d hd=>⟨.inl rfl, .inr rfl, .inr rfl,trivial⟩) (fun cl C fp s H d hd=> .inl ⟨rfl,rfl⟩) fun cl C2 fp s H d hd _=> ?_) (by rw [ec]))))) trivial rfl); obtain ⟨g,hg,rfl⟩:=oN hd; rw [gM]; have G:=nR hp hg; have e:=(num_ok hp (uA O G)).1; exact bR (ds:=[cH p,aV (onQ p q g)]) GN hr2 rfl (aD (aB 1 rfl (pv 1)) (aD (bR (ds:=[cH p,sqD q,aV g]) GS hr rfl (aD (aB 1 rfl (pv 1)) (aD (aB 2 rfl (pv 2)) (aD (aB 0 rfl (pv 0)) aP))) ⟨p,_,_,_,_,g,onQ_on O G,rfl,rfl⟩ trivial rfl) aP)) ⟨p,_,rfl,by omega,by omega,by rw [e]⟩ trivial rfl
theorem ok_moves45 (F:Fun K "moves_of" "moves_of" sMoves f fd) (hm:mg "moves_of"=some (.ref f)) (GN:bK P w K mg base "numbers_of_step" 4 2 CNos):bK P w K mg base "moves_of" 5 2 CMoves:=by
 have nd:(["size","stock"]:List Str).Nodup:=by decide+kernel
 have nd2:(["step","price","size"]:List Str).Nodup:=by decide+kernel
 refine dU (N:=["size","stock"]) (ps:=["size","stock"]) (k:=4) F ⟨rfl,rfl,rfl,nd,rfl,by decide+kernel,by decide+kernel⟩ hm (fun _ _ _ _ _ _ us hl=>match us,hl with | [_,_],_=>rfl) fun cdv A outer s H E hr ds r hl c=> ?_
 obtain ⟨p,L,hp,S,dn,rfl,rfl⟩:=c; have l8:=S.le
 have ec:((L.map skD).filter fun _=>true).map (fun d=>mvD p (vI L d))=L.map (mvD p):=by
  rw [bZ.mpr (fun _ _=>rfl),aR]; refine bN fun s hs=> ?_
  show mvD p (vI L (skD s))=_; rw [uZ dn hs]
 refine bD (bQ (PEd.cast (fU (ds:=L.map skD) (N:=["step","price","size"]) (M:=["size","stock"]) (cap:=[none,none,some 0]) (sc:=bC sMoves) (Tb:=fun d=>[.val (sqD (vI L d).1), .val (.int (vI L d).2), .val (cH p)]) (fun _=>true) (fun d=>mvD p (vI L d)) (eV (aB 1 rfl (pv 1))) (by rw [aC]; omega) rfl (by decide+kernel) rfl (by decide+kernel) rfl (fun cl C fp s H d hd=> ?_) (fun d hd=>⟨.inl rfl, .inl rfl, .inr rfl,trivial⟩) (fun cl C fp s H d hd=> .inl ⟨rfl,rfl⟩) fun cl C2 fp s H d hd _=> ?_) (by rw [ec])) trivial rfl)
 ·obtain ⟨z,hz,rfl⟩:=aQ.mp hd; rw [uZ dn hz]; exact kU (ds:=[sqD z.1, .int z.2]) (js:=[0,1]) rfl (eZ (bW (i:=0) nd2 rfl (Or.inl rfl)) (eZ (bW (i:=1) nd2 rfl (Or.inl rfl)) kR)) rfl rfl
 ·obtain ⟨z,hz,rfl⟩:=aQ.mp hd; rw [uZ dn hz]; exact fP (ds:=[.int z.2, .tup (aY (jL p z.1))]) (aD (aB 1 rfl (pv 1)) (aD (bR (ds:=[cH p,sqD z.1]) GN hr rfl (aD (aB 2 rfl (pv 2)) (aD (aB 0 rfl (pv 0)) aP)) ⟨p,z.1,hp,(S.st z hz).1,rfl,rfl⟩ trivial rfl) aP)) (aJ rfl)
theorem ok_nbeh45 (F:Fun K "numbers_behind" "numbers_behind" sNbeh f fd) (ztuple:mg "tuple"=none) (hm:mg "numbers_behind"=some (.ref f)):bK P w K mg base "numbers_behind" 1 2 CNbeh:=by
 have nd:(["one","other"]:List Str).Nodup:=by decide+kernel
 have nd2:(["number","other"]:List Str).Nodup:=by decide+kernel
 refine dU (N:=["one","other"]) (ps:=["one","other"]) (k:=0) F ⟨rfl,rfl,rfl,nd,rfl,by decide+kernel,by decide+kernel⟩ hm (fun _ _ _ _ _ _ us hl=>match us,hl with | [_,_],_=>rfl) fun cdv A outer s H E hr ds r hl c=> ?_
 obtain ⟨one,other,h1,h2,rfl,rfl⟩:=c
 have ec:((aY one).filter fun _=>true).map (fun d=>match d with | .int i=>D.int ((other.getD i.toNat 0:Nat):Int) | _=> .non)=aY (jB other one):=by rw [bZ.mpr (fun _ _=>rfl)]; unfold aY jB; rw [aR,aR]; rfl
 refine bD (bQ (kZ rfl ztuple (PEd.bor (PEd.val (PEd.cast (fU (ds:=aY one) (N:=["number","other"]) (M:=["one","other"]) (cap:=[none,some 1]) (sc:=bC sNbeh) (Tb:=fun d=>[.val d, .val (.tup (aY other))]) (fun _=>true) (fun d=>match d with | .int i=>D.int ((other.getD i.toNat 0:Nat):Int) | _=> .non) (kS (aB 0 rfl (pv 0))) (by rw [mQ]; omega) rfl (by decide+kernel) rfl (by decide+kernel) rfl (fun cl C fp s H d hd=>cU 0 (bW (i:=0) nd2 rfl (Or.inl rfl))) (fun d hd=>⟨.inl rfl, .inr rfl,trivial⟩) (fun cl C fp s H d hd=> .inl ⟨rfl,rfl⟩) fun cl C2 fp s H d hd _=> ?_) (by rw [ec]))))) trivial rfl); obtain ⟨i,hi,rfl⟩:=aQ.mp hd; exact cJ (n:=i) (aB 1 rfl (pv 1)) (aB 0 rfl (pv 0)) (nat_at (h2 i hi)) fun _ _=>rfl
theorem ok_put41 (F:Fun K "put_longer_rows" "put_longer_rows" sPut f fd) (zenumerate:mg "enumerate"=none) (hm:mg "put_longer_rows"=some (.ref f)) (GB:bK P w K mg base "numbers_behind" 1 2 CNbeh):tQ P w K (wtL P w K) mg base "put_longer_rows" 2 6 CPut:=by
 have nd:(["waiting","moves","bound","rank","row","numbers","place","move","price","longer"]:List Str).Nodup:=by decide+kernel
 refine def_okL (Z:=wtL P w K) (N:=["waiting","moves","bound","rank","row","numbers","place","move","price","longer"]) (ps:=["waiting","moves","bound","rank","row","numbers"]) (k:=1) F ⟨rfl,rfl,rfl,nd,rfl,by decide+kernel,by decide+kernel⟩ hm (fun _ _ _ _ _ _ us hl=>match us,hl with | [_,_,_,_,_,_],_=>rfl) (fun cdv A outer s H E B hB hr a ds post hl c=> ?_) (wtL_soft P w K); obtain ⟨p,L,b,r,row,nb,hp,L9,hnb,r9,ndT,hT,rfl,rfl⟩:=c; have hu:(A.deeper (envOfC "put_longer_rows" (bC sPut) s.heap.objs.size f cdv)).units+4<cLine:=by have:=hr.un; omega
 have f9:(cT p).length≤64:=kY hp; refine bD (iF (ds:=sN (L.map (mvD p))) (fun t sd=>∃a':Wt,a'.l=a.l∧a'.T=lgQ p L b r row nb t a.T∧sd=[wtS P w K a', .val (.lst (L.map (mvD p))), .val (.int b), .val (.tup [.int r.1, .int r.2]), .val (.tup (aY row)), .val (.tup (aY nb)), .un, .un, .un, .un]) (pid_enum rfl zenumerate (aB 1 rfl (pv 1))) ⟨_,Le.refl _,a,rfl,rfl,rfl⟩ (fun t d sdt hd ht=> ?_) fun sdn hn=> ?_)
 ·obtain ⟨x,hx,rfl⟩:=rL hd; obtain ⟨a',el,eT,rfl⟩:=ht
  have tl:t<L.length:=by have:=(aK.mp hx).1; simpa using this
  have ex:x=mvD p (L.getD t default):=by rw [bJ,gW tl] at hx; rw [← cI.inj hx]; simp [bS,tl]
  subst ex; have es:lgQ p L b r row nb (t+1) a.T=if r.1+(L.getD t default).2≤b then jW (lgQ p L b r row nb t a.T) (r.1+(L.getD t default).2,r.2+1) (nP (row++[t],jB (jL p (L.getD t default).1) nb)) else lgQ p L b r row nb t a.T:=rfl
  have ndt:=lg_nd (p:=p) (L:=L) (b:=b) (r:=r) (row:=row) (nb:=nb) ndT t; have tt:=lg_tot (p:=p) (L:=L) (b:=b) (r:=r) (row:=row) (nb:=nb) (T:=a.T) t; rw [← eT] at es ndt tt; obtain ⟨pl0,pl1⟩:=hnb; generalize L.getD t default=m at es; refine ⟨[wtS P w K a', .val (.lst (L.map (mvD p))), .val (.int b), .val (.tup [.int r.1, .int r.2]), .val (.tup (aY row)), .val (.tup (aY nb)), .val (.int (t:Int)), .val (mvD p m), .un, .un],kU (js:=[6,7]) rfl (eZ (bW (i:=6) nd rfl (Or.inl rfl)) (eZ (bW (i:=7) nd rfl (Or.inl rfl)) kR)) rfl rfl, ?_⟩; refine aH (cF (d:= .int (r.1+m.2)) 8 nd rfl (Or.inl rfl) (gI iX (cJ (n:=0) (d:= .int r.1) (aB 3 rfl (pv 3)) aZ rfl fun _ _=>rfl) (cJ (n:=0) (d:= .int m.2) (aB 7 rfl (pv 7)) aZ rfl fun _ _=>rfl)) ?_); refine bD (hW (k:=decide (r.1+m.2≤b)) (nI op_le (aB 8 rfl (pv 8)) (aB 2 rfl (pv 2)) (hV _)) (fun q=> ?_) fun q=>cM ?_)
  ·rw [if_pos (of_decide_eq_true q)] at es; have e1:aY row++[.int (t:Int)]=aY (row++[t]):=by unfold aY; rw [bF]; rfl
   refine aH (cF (d:=p2D (nP (row++[t],jB (jL p m.1) nb))) 9 nd rfl (Or.inl rfl) (PEd.cast (fP (ds:=[.tup (aY (row++[t])), .tup (aY (jB (jL p m.1) nb))]) (aD (PEd.cast (lS (d1:=aY row) (d2:=[.int (t:Int)]) (aB 4 rfl (pv 4)) (fP (ds:=[.int (t:Int)]) (aD (aB 6 rfl (pv 6)) aP) (aJ rfl)) (by unfold aY; rw [aC]; show _+1≤1000; omega)) (by rw [e1])) (aD (bR (ds:=[.tup (aY nb), .tup (aY (jL p m.1))]) (r:= .val (.tup (aY (jB (jL p m.1) nb)))) GB hr rfl (aD (aB 5 rfl (pv 5)) (aD (cJ (n:=1) (d:= .tup (aY (jL p m.1))) (aB 7 rfl (pv 7)) aZ rfl fun _ _=>rfl) aP)) ⟨nb,jL p m.1,by omega,fun i hi=>by rw [nos_len]; exact pl1 i hi,rfl,rfl⟩ trivial rfl) aP)) (aJ rfl)) (by rw [nP_D])) ?_); generalize nP (row++[t],jB (jL p m.1) nb)=y at es; refine bD (psd_sdApp (k:=rkK (r.1+m.2,r.2+1)) (ks:=wtK a'.T) (ls:=a'.ls) (dss:=wtD a'.T) (d:=p2D y) 0 (by show (A.deeper _).units+1<cLine; omega) rfl (pv 0) (PEd.cast (fP (ds:=[.int (r.1+m.2), .int (r.2+1)]) (aD (aB 8 rfl (pv 8)) (aD (gI iX (cJ (n:=1) (d:= .int r.2) (aB 3 rfl (pv 3)) aZ rfl fun _ _=>rfl) aZ) aP)) (aJ rfl)) rfl) (fun z=>aB 9 rfl (pv 9)) (by have:=tot_len a'.T; unfold wtD; rw [aC]; omega) (fun ds hd=>by have:=tot_mem ds hd; omega) (fun n ds hk hd=> ?_) fun hk a9=> ?_)
   ·obtain ⟨k1,k2⟩:=wD y ndt hk hd; refine ⟨[wtS P w K ⟨a'.l,a'.ls,jW a'.T (r.1+m.2,r.2+1) y⟩, .val (.lst (L.map (mvD p))), .val (.int b), .val (.tup [.int r.1, .int r.2]), .val (.tup (aY row)), .val (.tup (aY nb)), .un, .un, .un, .un],⟨.inr ?_, .inr rfl, .inr rfl, .inr rfl, .inr rfl, .inr rfl, .inl rfl, .inl rfl, .inl rfl, .inl rfl,trivial⟩,⟨a'.l,a'.ls,jW a'.T (r.1+m.2,r.2+1) y⟩,el,es.symm,rfl⟩; unfold wtS; rw [k1,k2]; rfl
   ·have k1:=uP y hk; refine ⟨[wtS P w K ⟨a'.l,a'.ls++[a9],jW a'.T (r.1+m.2,r.2+1) y⟩, .val (.lst (L.map (mvD p))), .val (.int b), .val (.tup [.int r.1, .int r.2]), .val (.tup (aY row)), .val (.tup (aY nb)), .un, .un, .un, .un],⟨.inr ?_, .inr rfl, .inr rfl, .inr rfl, .inr rfl, .inr rfl, .inl rfl, .inl rfl, .inl rfl, .inl rfl,trivial⟩,⟨a'.l,a'.ls++[a9],jW a'.T (r.1+m.2,r.2+1) y⟩,el,es.symm,rfl⟩; unfold wtS; rw [k1]; unfold wtK wtD; rw [bF,bF]; rfl
  ·rw [if_neg (of_decide_eq_false q)] at es; exact ⟨[wtS P w K a', .val (.lst (L.map (mvD p))), .val (.int b), .val (.tup [.int r.1, .int r.2]), .val (.tup (aY row)), .val (.tup (aY nb)), .un, .un, .un, .un],⟨.inr rfl, .inr rfl, .inr rfl, .inr rfl, .inr rfl, .inr rfl, .inl rfl, .inl rfl, .inl rfl, .inr rfl,trivial⟩,a',el,es.symm,rfl⟩
 ·obtain ⟨a',el,eT,rfl⟩:=hn; refine ⟨a',⟨el, ?_⟩,rfl⟩; rw [eT,oS,aC]
theorem ok_found41 (F:Fun K "found_rows" "found_rows" sFd f fd) (zlen:mg "len"=none) (zmin:mg "min"=none) (zlist:mg "list"=none) (zsorted:mg "sorted"=none) (hmt:∃t,mg "MOST_TABLES"=some (.int 500 t)) (hm:mg "found_rows"=some (.ref f)) (GP:tQ P w K (wtL P w K) mg base "put_longer_rows" 2 6 CPut):bK P w K mg base "found_rows" 3 3 CFnd41:=by
 obtain ⟨tm,hmt⟩:=hmt; have nd:(["moves","bound","start","waiting","known","found","rank","ready","row","numbers"]:List Str).Nodup:=by decide+kernel
 refine dU (N:=["moves","bound","start","waiting","known","found","rank","ready","row","numbers"]) (ps:=["moves","bound","start"]) (k:=2) F ⟨rfl,rfl,rfl,nd,rfl,by decide+kernel,by decide+kernel⟩ hm (fun _ _ _ _ _ _ us hl=>match us,hl with | [_,_,_],_=>rfl) fun cdv A outer s H E hr ds r hl c=> ?_
 obtain ⟨p,L,b,U,hp,S0,FU,rfl,rfl⟩:=c; have hu8:(A.deeper (envOfC "found_rows" (bC sFd) s.heap.objs.size f cdv)).units+8<cLine:=by have:=hr.un; omega
 have hu4:(A.deeper (envOfC "found_rows" (bC sFd) s.heap.objs.size f cdv)).units+4<cLine:=by omega
 have hu2:(A.deeper (envOfC "found_rows" (bC sFd) s.heap.objs.size f cdv)).units+2<cLine:=by omega
 have hu1:(A.deeper (envOfC "found_rows" (bC sFd) s.heap.objs.size f cdv)).units+1<cLine:=by omega
 have hpr:=S0.pr; have l8:=S0.le; have u4:=FU.len; refine aH (psd_dnewG 3 nd rfl (Or.inl rfl) fun l3=> ?_); refine byKey (K:=∀ls T,(fd0 p b).T=T→PSd _ [.val (.lst (L.map (mvD p))), .val (.int b), .val (.tup (aY (st0 p))),wtS P w K ⟨l3,ls,T⟩, .un, .un, .un, .un, .un, .un] _ _) (fun key=>aH (hW (k:=decide (0≤b)) (nI op_ge (aB 1 rfl (pv 1)) aZ (hV _)) (fun q=> ?_) fun q=>cM (key [] [] (if_neg (of_decide_eq_false q))))) fun ls T e0=> ?_
 ·refine bD (psd_putW (ds:=[p2D (nP ([],st0 p))]) 3 hu1 rfl (pv 3) (jQ (ds:=[p2D (nP ([],st0 p))]) (aD (PEd.cast (fP (ds:=[.tup (aY []), .tup (aY (st0 p))]) (aD (fP (ds:=[]) aP (aJ rfl)) (aD (aB 2 rfl (pv 2)) aP)) (aJ rfl)) (by rw [nP_D])) aP) (aJ rfl)) (fun z=>nomatch z) (aJ rfl) fun a=> ?_); exact key [a] [((0,0),[nP ([],st0 p)])] (if_pos (of_decide_eq_true q))
 subst e0; refine aH (psd_newG (hkT P w) 4 nd rfl (Or.inl rfl) fun l4=> ?_); refine aH (gA (ds:=[]) 5 nd rfl (Or.inl rfl) (jQ (ds:=[]) aP (aJ rfl)) fun l5=> ?_); refine aH (psd_while (fun m sd=>∃S dn r ls,Wk p L b dn r [] S∧U.length<dn.length+m∧lH p L b m S=lH p L b 401 (fd0 p b)∧sd=[.val (.lst (L.map (mvD p))), .val (.int b), .val (.tup (aY (st0 p))),wtS P w K ⟨l3,ls,S.T⟩,oG (hkT P w) K l4 (S.kn.map mE) (S.kn.map fun _=> .bl true), .own l5 (S.fd.map fdD), .un, .un, .un, .un]) ⟨401,_,Le.refl _,fd0 p b,[],(0,0),ls,wk0 p L b,by simp; omega,rfl,rfl⟩ fun m sdm hw=> ?_); obtain ⟨S,dn,r,ls,W,hU,hR,rfl⟩:=hw; refine ⟨decide ((0:Int)<((wtK S.T).length:Int)),nI op_gt (pd_lenD 3 rfl zlen rfl (pv 3)) aZ (hV _),fun q=> ?_,fun q=> ?_⟩
 ·have e:S.T=[]:=by have:=of_decide_eq_false q; unfold wtK at this; rw [aC] at this; exact fW (by omega)
  have e2:lH p L b m S=S:=by
   cases m with
   | zero=>rfl
   | succ m=>exact if_pos e
  have e3:bkF p L b=S.fd:=by unfold bkF; rw [← hR,e2]
  rw [e3]; exact bD (oP 5 rfl (pv 5) rfl)
 ·have hne:S.T≠[]:=fun z=>by rw [z] at q; cases q
  obtain ⟨t,ht,hm,tnd,tne,W1,eT,W2⟩:=W.turn hpr hne; obtain ⟨M,t',g1,g2,g3,g4,_⟩:=min_wt (X:=(nL CX0 P w K mg base ["moves","bound","start","waiting","known","found","rank","ready","row","numbers"] "found_rows" (bC sFd) f cdv A outer s H E).nox) hu4 hne; have et:t=t':=(cI.inj (g1.symm.trans ht)).symm; subst et
  have tl:t.2.length≤10000:=by have:=W.few FU; have h1:=(iI t.2).length_eq; have h2:=W1.few FU; omega
  refine aH (cF (d:=rkD t.1) 6 nd rfl (Or.inl rfl) (pd_minD rfl zmin (PEd.bor (PEd.val (pd_listD 3 rfl zlist rfl (pv 3)))) M g2) ?_); refine aH (psd_popS (ps:=t.2) (rk:=rkP t.2) (k:=rkK t.1) 3 7 (fJ S.T) hu1 rfl zsorted rfl (pv 3) (PEd.cast (aB 6 rfl (pv 6)) rfl) g3 g4 (rkP_ok tnd tl hu8) nd rfl (Or.inl rfl) fun l7 qs qp qw=>iS 7 rfl ?_); have eq:=srtP_eq tnd qp qw; subst eq; have ek:wtK (S.T.eraseIdx (fJ S.T))=(wtK S.T).eraseIdx (fJ S.T):=by unfold wtK; rw [dJ,dJ,bF,rG,nE]
  have ed:wtD (S.T.eraseIdx (fJ S.T))=(wtD S.T).eraseIdx (fJ S.T):=by unfold wtD; rw [dJ,dJ,bF,rG,nE]
  have e5:odG P w K l3 ((wtK S.T).eraseIdx (fJ S.T)) (ls.eraseIdx (fJ S.T)) ((wtD S.T).eraseIdx (fJ S.T))=wtS P w K ⟨l3,ls.eraseIdx (fJ S.T),S.T.eraseIdx (fJ S.T)⟩:=by unfold wtS; rw [ek,ed]
  refine psd_le (sd':=[.val (.lst (L.map (mvD p))), .val (.int b), .val (.tup (aY (st0 p))),wtS P w K ⟨l3,ls.eraseIdx (fJ S.T),({S with T:=S.T.eraseIdx (fJ S.T)}:FdS).T⟩,oG (hkT P w) K l4 (({S with T:=S.T.eraseIdx (fJ S.T)}:FdS).kn.map mE) (({S with T:=S.T.eraseIdx (fJ S.T)}:FdS).kn.map fun _=> .bl true), .own l5 (({S with T:=S.T.eraseIdx (fJ S.T)}:FdS).fd.map fdD), .val (rkD t.1), .val (.lst ((iY t.2).map p2D)), .un, .un]) ⟨.inr rfl, .inr rfl, .inr rfl, .inr e5, .inr rfl, .inr rfl, .inr rfl, .inr rfl, .inr rfl, .inr rfl,trivial⟩ ?_
  have hR2:∃m',m=m'+1∧lH p L b m' (fdT p L b S)=lH p L b 401 (fd0 p b):=by
   cases m with
   | zero=>have:=W.few FU; omega
   | succ m'=>have e6:lH p L b (m'+1) S=lH p L b m' (fdT p L b S):=if_neg hne; exact ⟨m',rfl,by rw [← e6]; exact hR⟩
  obtain ⟨m',rfl,hR2⟩:=hR2
  have tpos:0<(iY t.2).length:=by rw [(iI t.2).length_eq]; exact jE.mpr tne
  rw [eT] at hR2 W2; clear hR e5 ek ed g1 g2 g3 g4 M qp qw eT; generalize ({S with T:=S.T.eraseIdx (fJ S.T)}:FdS)=S1 at W1 W2 hR2; generalize ls.eraseIdx (fJ S.T)=ls1; refine bD (iF (ds:=(iY t.2).map p2D) (fun j sd=>∃S' ls,S'=fdP p L b t.1 S1 ((iY t.2).take j)∧sd=[.val (.lst (L.map (mvD p))), .val (.int b), .val (.tup (aY (st0 p))),wtS P w K ⟨l3,ls,S'.T⟩,oG (hkT P w) K l4 (S'.kn.map mE) (S'.kn.map fun _=> .bl true), .own l5 (S'.fd.map fdD), .val (rkD t.1), .val (.lst ((iY t.2).map p2D)), .un, .un]) (eV (aB 7 rfl (pv 7))) ⟨_,Le.refl _,S1,ls1,rfl,rfl⟩ (fun j d sdj hd hj=> ?_) fun sdn hn=> ?_)
  ·obtain ⟨S',ls2,eS,rfl⟩:=hj; obtain ⟨y,hy,rfl,ey⟩:=mV hd; have jl:j<(iY t.2).length:=(aK.mp hy).1; have Wj:=W1.take hpr j (by omega); have Wj1:=W1.take hpr (j+1) (by omega); rw [ey,vJ,← eS] at Wj1; rw [← eS] at Wj; have eS1:fdP p L b t.1 S1 ((iY t.2).take (j+1))=fdI p L b t.1 S' (unP y):=by rw [ey,vJ,← eS]
   obtain ⟨row,rfl,ro,er,rb⟩:=W1.rs y (bB hy); rw [eS1]; rw [un_it] at Wj1 ⊢; have rU:row.length≤300:=FU.rl _ (FU.all _ ro (by rw [er] at rb; exact rb)); have nbo:=(xJ hp (fun s hs=>(S0.st s hs).1) ro).1; have f1:=Wj.fdl FU; have f2:=Wj1.fdl FU; have tt:=Wj.tot FU; have okj:=Wj.ok
   have kl:S'.kn.length≤400:=by rw [okj.kn,aC]; exact f1
   have dy:p2D (itP p L row)= .tup [.tup (aY row), .tup (aY (nrQ p L row))]:=nP_D _; rw [dy]; clear Wj Wj1 eS1 ey hy hd eS dy; refine ⟨[.val (.lst (L.map (mvD p))), .val (.int b), .val (.tup (aY (st0 p))),wtS P w K ⟨l3,ls2,S'.T⟩,oG (hkT P w) K l4 (S'.kn.map mE) (S'.kn.map fun _=> .bl true), .own l5 (S'.fd.map fdD), .val (rkD t.1), .val (.lst ((iY t.2).map p2D)), .val (.tup (aY row)), .val (.tup (aY (nrQ p L row)))],kU (ds:=[.tup (aY row), .tup (aY (nrQ p L row))]) (js:=[8,9]) rfl (eZ (bW (i:=8) nd rfl (Or.inl rfl)) (eZ (bW (i:=9) nd rfl (Or.inl rfl)) kR)) rfl rfl, ?_⟩
   have inj:decide (nrQ p L row∈S'.kn)=true↔mE (nrQ p L row)∈S'.kn.map mE:=by
    rw [decide_eq_true_iff]
    constructor
    ·exact fun h=>aQ.mpr ⟨_,h,rfl⟩
    ·intro h; obtain ⟨e,e1,e2⟩:=aQ.mp h; rw [← natK_inj e2]; exact e1
   refine byKey (K:=∀S2 ls3,S2=fdI p L b t.1 S' (row,nrQ p L row)→PSd _ [.val (.lst (L.map (mvD p))), .val (.int b), .val (.tup (aY (st0 p))),wtS P w K ⟨l3,ls3,S2.T⟩,oG (hkT P w) K l4 (S2.kn.map mE) (S2.kn.map fun _=> .bl true), .own l5 (S2.fd.map fdD), .val (rkD t.1), .val (.lst ((iY t.2).map p2D)), .val (.tup (aY row)), .val (.tup (aY (nrQ p L row)))] _ _) (fun key=>aH (hW (k:= !decide (nrQ p L row∈S'.kn)) (ptd_ninK (hk:=hkT P w) (k:=mE (nrQ p L row)) inj hu2 (PEd.cast (aB 9 rfl (pv 9)) (by rw [show (hkT P w).dat (mE (nrQ p L row))=tD (mE (nrQ p L row)) from rfl,natK_D])) (pdc_own 4 rfl (pv 4))) (fun q=> ?_) fun q=>cM (key S' ls2 (if_pos (by simpa using q)).symm))) fun S2 ls3 e2=> ?_
   ·have nk:nrQ p L row∉S'.kn:=by simpa using q
    refine aH (psd_putG (hk:=hkT P w) (k:=mE (nrQ p L row)) (d:= .bl true) 4 hu2 rfl (pv 4) pd_bl (PEd.cast (aB 9 rfl (pv 9)) (by rw [show (hkT P w).dat (mE (nrQ p L row))=tD (mE (nrQ p L row)) from rfl,natK_D])) (fun z=>nk (of_decide_eq_true (inj.mpr z))) (by rw [aC]; omega) ?_); refine aH (pS (d:=fdD (t.1.1,row,nrQ p L row)) 5 rfl (pv 5) (fP (ds:=[.int t.1.1, .tup (aY row), .tup (aY (nrQ p L row))]) (aD (cJ (n:=0) (d:= .int t.1.1) (aB 6 rfl (pv 6)) aZ rfl fun _ _=>rfl) (aD (aB 8 rfl (pv 8)) (aD (aB 9 rfl (pv 9)) aP))) (aJ rfl)) (by rw [aC]; omega) ?_); refine bD (psd_callL (Z:=wtL P w K) (a:=⟨l3,ls2,S'.T⟩) (ds:=[.lst (L.map (mvD p)), .int b, .tup [.int t.1.1, .int t.1.2], .tup (aY row), .tup (aY (nrQ p L row))]) 3 rfl (pv 3) GP hr rfl (aD (aB 0 rfl (pv 0)) (aD (aB 1 rfl (pv 1)) (aD (aB 6 rfl (pv 6)) (aD (aB 8 rfl (pv 8)) (aD (aB 9 rfl (pv 9)) aP))))) ⟨p,L,b,t.1,row,nrQ p L row,hp,by omega,nbo,by omega,okj.nk,by show tot S'.T+_≤_; omega,rfl,rfl⟩ (fun a' h=>h.1) rfl fun a' h=> ?_); obtain ⟨al,als,aT⟩:=a'; obtain ⟨h1,h2⟩:=h; have h1:al=l3:=h1; have h2:aT=lgQ p L b t.1 row (nrQ p L row) L.length S'.T:=h2; subst h1 h2; have k:=key ⟨lgQ p L b t.1 row (nrQ p L row) L.length S'.T,S'.kn++[nrQ p L row],S'.fd++[(t.1.1,row,nrQ p L row)]⟩ als (if_neg nk).symm; simp only [bF,bA,eI] at k; exact k
   ·rw [← e2] at f2; refine bD (eR (k:=decide ((500:Int)<(((S2.fd.map fdD).length:Nat):Int))) (nI op_gt (oY rfl zlen (pd_varB 5 rfl (pv 5))) (pd_globI (i:=500) rfl hmt ⟨tm,rfl⟩) (hV _)) (decide_eq_false (by rw [aC]; omega)) (cM ?_)); exact ⟨[.val (.lst (L.map (mvD p))), .val (.int b), .val (.tup (aY (st0 p))),wtS P w K ⟨l3,ls3,S2.T⟩,oG (hkT P w) K l4 (S2.kn.map mE) (S2.kn.map fun _=> .bl true), .own l5 (S2.fd.map fdD), .val (rkD t.1), .val (.lst ((iY t.2).map p2D)), .un, .un],⟨.inr rfl, .inr rfl, .inr rfl, .inr rfl, .inr rfl, .inr rfl, .inr rfl, .inr rfl, .inl rfl, .inl rfl,trivial⟩,S2,ls3,e2,rfl⟩
  ·obtain ⟨S',ls3,eS,rfl⟩:=hn; rw [aC,eY] at eS; subst eS; exact ⟨m',[.val (.lst (L.map (mvD p))), .val (.int b), .val (.tup (aY (st0 p))),wtS P w K ⟨l3,ls3,(fdP p L b t.1 S1 (iY t.2)).T⟩,oG (hkT P w) K l4 ((fdP p L b t.1 S1 (iY t.2)).kn.map mE) ((fdP p L b t.1 S1 (iY t.2)).kn.map fun _=> .bl true), .own l5 ((fdP p L b t.1 S1 (iY t.2)).fd.map fdD), .un, .un, .un, .un],kO _,⟨.inr rfl, .inr rfl, .inr rfl, .inr rfl, .inr rfl, .inr rfl, .inl rfl, .inl rfl, .inr rfl, .inr rfl,trivial⟩,fdP p L b t.1 S1 (iY t.2),dn++(iY t.2).map rwP,t.1,ls3,W2,by rw [aW,aC]; omega,hR2,rfl⟩
theorem ok_tfrom45 (F:Fun K "table_from" "table_from" sTfrom f fd) (ztuple:mg "tuple"=none) (hm:mg "table_from"=some (.ref f)):bK P w K mg base "table_from" 1 2 CTfrom:=by
 have nd:(["every","numbers"]:List Str).Nodup:=by decide+kernel
 have nd2:(["number","every"]:List Str).Nodup:=by decide+kernel
 refine dU (N:=["every","numbers"]) (ps:=["every","numbers"]) (k:=0) F ⟨rfl,rfl,rfl,nd,rfl,by decide+kernel,by decide+kernel⟩ hm (fun _ _ _ _ _ _ us hl=>match us,hl with | [_,_],_=>rfl) fun cdv A outer s H E hr ds r hl c=> ?_
 obtain ⟨B,nb,h1,h2,rfl,rfl⟩:=c
 have ec:((aY nb).filter fun _=>true).map (fun d=>match d with | .int i=>aV (B.getD i.toNat []) | _=> .non)=(nb.map fun i=>B.getD i []).map aV:=by rw [bZ.mpr (fun _ _=>rfl)]; unfold aY; rw [aR,aR]; rfl
 refine bD (bQ (kZ rfl ztuple (PEd.bor (PEd.val (PEd.cast (fU (ds:=aY nb) (N:=["number","every"]) (M:=["every","numbers"]) (cap:=[none,some 0]) (sc:=bC sTfrom) (Tb:=fun d=>[.val d, .val (.lst (B.map aV))]) (fun _=>true) (fun d=>match d with | .int i=>aV (B.getD i.toNat []) | _=> .non) (kS (aB 1 rfl (pv 1))) (by rw [mQ]; omega) rfl (by decide+kernel) rfl (by decide+kernel) rfl (fun cl C fp s H d hd=>cU 0 (bW (i:=0) nd2 rfl (Or.inl rfl))) (fun d hd=>⟨.inl rfl, .inr rfl,trivial⟩) (fun cl C fp s H d hd=> .inl ⟨rfl,rfl⟩) fun cl C2 fp s H d hd _=> ?_) (by rw [ec]))))) trivial rfl); obtain ⟨i,hi,rfl⟩:=aQ.mp hd; exact lY (n:=i) (PEd.bor (aB 1 rfl (pv 1))) (aB 0 rfl (pv 0)) (tups_at (h2 i hi)) fun _ _=>rfl
theorem ok_book41 (F:Fun K "book_of" "book_of" sBook f fd) (zlen:mg "len"=none) (zrange:mg "range"=none) (ztuple:mg "tuple"=none) (hm:mg "book_of"=some (.ref f)) (GF:bK P w K mg base "fillings" 2 1 xS) (GM:bK P w K mg base "moves_of" 5 2 CMoves) (GR:bK P w K mg base "found_rows" 3 3 CFnd41) (GT:bK P w K mg base "table_from" 1 2 CTfrom):bK P w K mg base "book_of" 6 3 CBook:=by
 have nd:(["size","stock","bound","every","found"]:List Str).Nodup:=by decide+kernel
 have nd2:(["price","row","numbers","every"]:List Str).Nodup:=by decide+kernel
 refine dU (N:=["size","stock","bound","every","found"]) (ps:=["size","stock","bound"]) (k:=5) F ⟨rfl,rfl,rfl,nd,rfl,by decide+kernel,by decide+kernel⟩ hm (fun _ _ _ _ _ _ us hl=>match us,hl with | [_,_,_],_=>rfl) fun cdv A outer s H E hr ds r hl c=> ?_
 obtain ⟨p,L,b,U,hp,S,dn,FU,rfl,rfl⟩:=c; have hr1:=hr.mono (show 1≤5 by decide); have hr2:=hr.mono (show 2≤5 by decide); have hr3:=hr.mono (show 3≤5 by decide); have f9:(cT p).length≤64:=kY hp; have O:=bkF_ok (p:=p) S.pr FU; have l4:=O.len; refine aH (gA (ds:=(cT p).map aV) 3 nd rfl (Or.inr rfl) (bR (ds:=[cH p]) GF hr2 rfl (aD (aB 0 rfl (pv 0)) aP) ⟨p,hp,rfl,rfl⟩ trivial rfl) fun l5=>iS 3 rfl ?_); refine aH (gA (ds:=(bkF p L b).map fdD) 4 nd rfl (Or.inl rfl) (bR (ds:=[.lst (L.map (mvD p)), .int b, .tup (aY (st0 p))]) GR hr3 rfl (aD (PEd.val (bR (ds:=[cH p, .lst (L.map skD)]) GM hr rfl (aD (aB 0 rfl (pv 0)) (aD (aB 1 rfl (pv 1)) aP)) ⟨p,L,hp,S,dn,rfl,rfl⟩ trivial rfl)) (aD (aB 2 rfl (pv 2)) (aD (pd_tupRange (n:=(cT p).length) rfl ztuple rfl zrange (PEd.ic (oY rfl zlen (PEd.bor (aB 3 rfl (pv 3)))) (by rw [aC])) (by omega)) aP))) ⟨p,L,b,U,hp,S,FU,rfl,rfl⟩ trivial rfl) fun l4=>iS 4 rfl ?_)
 have ec:(((bkF p L b).map fdD).filter fun _=>true).map (fun d=>enD ((unE d).1,(unE d).2.1,jF p (unE d).2.2))=(bkQ p L b).map enD:=by
  rw [bZ.mpr (fun _ _=>rfl),aR]; unfold bkQ; rw [aR]; refine bN fun e _=> ?_
  show enD ((unE (fdD e)).1,(unE (fdD e)).2.1,jF p (unE (fdD e)).2.2)=_; rw [unE_D]; rfl
 refine bD (bQ (PEd.cast (fU (ds:=(bkF p L b).map fdD) (N:=["price","row","numbers","every"]) (M:=["size","stock","bound","every","found"]) (cap:=[none,none,none,some 3]) (sc:=bC sBook) (Tb:=fun d=>[.val (.int (unE d).1), .val (.tup (aY (unE d).2.1)), .val (.tup (aY (unE d).2.2)), .val (.lst ((cT p).map aV))]) (fun _=>true) (fun d=>enD ((unE d).1,(unE d).2.1,jF p (unE d).2.2)) (eV (aB 4 rfl (pv 4))) (by rw [aC]; omega) rfl (by decide+kernel) rfl (by decide+kernel) rfl (fun cl C fp s H d hd=> ?_) (fun d hd=>⟨.inl rfl, .inl rfl, .inl rfl, .inr rfl,trivial⟩) (fun cl C fp s H d hd=> .inl ⟨rfl,rfl⟩) fun cl C2 fp s H d hd _=> ?_) (by rw [ec])) trivial rfl)
 ·obtain ⟨e,he,rfl⟩:=aQ.mp hd; rw [unE_D]; exact kU (ds:=[.int e.1, .tup (aY e.2.1), .tup (aY e.2.2)]) (js:=[0,1,2]) rfl (eZ (bW (i:=0) nd2 rfl (Or.inl rfl)) (eZ (bW (i:=1) nd2 rfl (Or.inl rfl)) (eZ (bW (i:=2) nd2 rfl (Or.inl rfl)) kR))) rfl rfl
 ·obtain ⟨e,he,rfl⟩:=aQ.mp hd; rw [unE_D]; obtain ⟨h1,h2,h3,h4,h5⟩:=O.ent e he; have nbo:=(xJ hp (fun s hs=>(S.st s hs).1) h1).1; rw [← h4] at nbo; exact fP (ds:=[.int e.1, .tup (aY e.2.1), .tup ((jF p e.2.2).map aV)]) (aD (aB 0 rfl (pv 0)) (aD (aB 1 rfl (pv 1)) (aD (bR (ds:=[.lst ((cT p).map aV), .tup (aY e.2.2)]) GT hr1 rfl (aD (aB 3 rfl (pv 3)) (aD (aB 2 rfl (pv 2)) aP)) ⟨cT p,e.2.2,by rw [nbo.1]; omega,nbo.2,rfl,rfl⟩ trivial rfl) aP))) (aJ rfl)
noncomputable def CRowOn:List D→R→Prop:=fun ds r=>∃p L row ws,p∈bX∧StkOk p L∧(∀t∈row,t<L.length)∧Fil p ws∧ds=[cH p, .lst (L.map skD), .tup (aY row),aV ws]∧r= .val (aV (nO p L row ws))
theorem ok_rowon (F:Fun K "row_on" "row_on" sRowOn f fd) (hm:mg "row_on"=some (.ref f)) (GS:bK P w K mg base "step_on" 3 3 zF):bK P w K mg base "row_on" 4 4 CRowOn:=by
 have nd:(["size","stock","row","filling","made","number"]:List Str).Nodup:=by decide+kernel
 refine dU (N:=["size","stock","row","filling","made","number"]) (ps:=["size","stock","row","filling"]) (k:=3) F ⟨rfl,rfl,rfl,nd,rfl,by decide+kernel,by decide+kernel⟩ hm (fun _ _ _ _ _ _ us hl=>match us,hl with | [_,_,_,_],_=>rfl) fun cdv A outer s H E hr ds r hl c=> ?_
 obtain ⟨p,L,row,ws,hp,S,hrow,G,rfl,rfl⟩:=c; refine aH (cF 4 nd rfl (Or.inl rfl) (aB 3 rfl (pv 3)) ?_); refine aH (qZ (ds:=aY row) (fun t=>[.val (cH p), .val (.lst (L.map skD)), .val (.tup (aY row)), .val (aV ws), .val (aV (nO p L (row.take t) ws)), .un]) (fun t=>[.val (cH p), .val (.lst (L.map skD)), .val (.tup (aY row)), .val (aV ws), .val (aV (nO p L (row.take t) ws)), .val (.int ((row.getD t 0:Nat):Int))]) (kS (aB 2 rfl (pv 2))) ⟨.inr rfl, .inr rfl, .inr rfl, .inr rfl, .inr rfl, .inr rfl,trivial⟩ (fun t d hd=> ?_) (fun t d hd=> ?_) ?_)
 ·obtain ⟨_,rfl⟩:=nat_get hd; exact cU 5 (bW (i:=5) nd rfl (Or.inl rfl))
 ·obtain ⟨ht,rfl⟩:=nat_get hd; have hn:=hrow (row.getD t 0) (DL.getD_mem ht); have G1:=rowQ_fil S (row.take t) ws (fun u hu=>hrow u (List.take_subset _ _ hu)) G; refine bD (cF (d:=aV (nO p L (row.take (t+1)) ws)) 4 nd rfl (Or.inl rfl) (bR (ds:=[cH p,sqD (L.getD (row.getD t 0) default).1,aV (nO p L (row.take t) ws)]) GS hr rfl (aD (aB 0 rfl (pv 0)) (aD (cJ (n:=0) (ds:=[sqD (L.getD (row.getD t 0) default).1, .int (L.getD (row.getD t 0) default).2]) (lY (PEd.bor (aB 1 rfl (pv 1))) (aB 5 rfl (pv 5)) (sk_get hn) fun _ _=>rfl) aZ rfl fun _ _=>rfl) (aD (aB 4 rfl (pv 4)) aP))) ⟨p,_,_,_,_,_,onQ_on (S.st _ (DL.getD_mem hn)).1 G1,rfl,by rw [row_take ht,rowQ_snoc]; rfl⟩ trivial rfl) ?_); exact ⟨.inr rfl, .inr rfl, .inr rfl, .inr rfl, .inr rfl, .inl rfl,trivial⟩
 ·refine bD (bQ (aB 4 rfl (pv 4)) trivial ?_); show R.val (aV (nO p L (row.take (aY row).length) ws))=_; rw [show (aY row).length=row.length from aC _,eY]
theorem ok_table (F:Fun K "table_of" "table_of" sTable f fd) (ztuple:mg "tuple"=none) (hm:mg "table_of"=some (.ref f)) (GF:bK P w K mg base "fillings" 2 1 xS) (GR:bK P w K mg base "row_on" 4 4 CRowOn):bK P w K mg base "table_of" 5 3 CTable:=by
 have nd:(["size","stock","row"]:List Str).Nodup:=by decide+kernel
 refine dU (N:=["size","stock","row"]) (ps:=["size","stock","row"]) (k:=4) F ⟨rfl,rfl,rfl,nd,rfl,by decide+kernel,by decide+kernel⟩ hm (fun _ _ _ _ _ _ us hl=>match us,hl with | [_,_,_],_=>rfl) fun cdv A outer s H E hr ds r hl c=> ?_
 obtain ⟨p,L,row,hp,S,hrow,rfl,rfl⟩:=c; have hr2:=hr.mono (show 2≤4 by decide); have nd2:(["filling","size","stock","row"]:List Str).Nodup:=by decide+kernel
 have f9:=kY hp; have fp:∀w∈gT (2^p.1.toNat) p.2.toNat,Fil p w:=fun w hw=>nR hp hw
 have et:tabQ p L row=(gT (2^p.1.toNat) p.2.toNat).map fun ws=>nO p L row ws:=rfl
 rw [et]; refine bD (bQ (kZ rfl ztuple (PEd.bor (PEd.val (PEd.cast (fU (ds:=(gT (2^p.1.toNat) p.2.toNat).map aV) (N:=["filling","size","stock","row"]) (M:=["size","stock","row"]) (cap:=[none,some 0,some 1,some 2]) (sc:=bC sTable) (Tb:=fun d=>[.val d, .val (cH p), .val (.lst (L.map skD)), .val (.tup (aY row))]) (fun _=>true) (fun d=>aV (nO p L row (iV d))) (eV (PEd.val (bR (ds:=[cH p]) GF hr2 rfl (aD (aB 0 rfl (pv 0)) aP) ⟨p,hp,rfl,rfl⟩ trivial rfl))) (by rw [aC]; omega) rfl (by decide+kernel) rfl (by decide+kernel) rfl (fun cl C fp s H d _=>cU 0 (bW (i:=0) nd2 rfl (Or.inl rfl))) (fun d _=>⟨.inl rfl, .inr rfl, .inr rfl, .inr rfl,trivial⟩) (fun cl C fp s H d hd=> .inl ⟨rfl,rfl⟩) fun cl C fp2 s H d hd _=> ?_) (?_:_=R.own (((gT (2^p.1.toNat) p.2.toNat).map fun ws=>nO p L row ws).map aV)))))) trivial rfl)
 ·obtain ⟨ws,hw,rfl⟩:=oN hd; rw [gM]; exact bR (ds:=[cH p, .lst (L.map skD), .tup (aY row),aV ws]) GR hr rfl (aD (aB 1 rfl (pv 1)) (aD (aB 2 rfl (pv 2)) (aD (aB 3 rfl (pv 3)) (aD (aB 0 rfl (pv 0)) aP)))) ⟨p,L,row,ws,hp,S,hrow,fp ws hw,rfl,rfl⟩ trivial rfl
 ·rw [bZ.mpr (fun _ _=>rfl),aR,aR]; congr 1; refine bN fun ws _=> ?_
  show aV (nO p L row (iV (aV ws)))=_; rw [gM]; rfl
theorem ok_boxes (F:Fun K "boxes_looked_at" "boxes_looked_at" sBoxes f fd) (zlist:mg "list"=none) (zrange:mg "range"=none) (hm:mg "boxes_looked_at"=some (.ref f)):bK P w K mg base "boxes_looked_at" 1 2 CBoxes:=by
 have nd:(["size","looked"]:List Str).Nodup:=by decide+kernel
 refine dU (N:=["size","looked"]) (ps:=["size","looked"]) (k:=0) F ⟨rfl,rfl,rfl,nd,rfl,by decide+kernel,by decide+kernel⟩ hm (fun _ _ _ _ _ _ us hl=>match us,hl with | [_,_],_=>rfl) fun cdv A outer s H E hr ds r hl c=> ?_
 obtain ⟨p,o,hp,rfl,rfl⟩:=c; obtain ⟨h1,h2,h3,h4,h5⟩:=pX p hp; have e2:p.2=((p.2.toNat:Nat):Int):=by omega
 cases o with
 | none=>exact aH (iA (tP (d:= .non) (aB 1 rfl (pv 1)) lZ) rfl (bD (bQ (PEd.cast (yZ (n:=p.2.toNat) rfl zlist rfl zrange (PEd.ic (cJ (n:=1) (d:= .int p.2) (aB 0 rfl (pv 0)) aZ rfl fun _ _=>rfl) e2) (by omega)) (by rw [range_nat]; rfl)) trivial rfl)))
 | some l=>refine aH (eR (tP (d:= .lst (aY l)) (aB 1 rfl (pv 1)) lZ) rfl (cM ?_)); exact bD (bQ (pd_listL rfl zlist (PEd.bor (aB 1 rfl (pv 1)))) trivial rfl)
theorem ok_wordsin (F:Fun K "words_in" "words_in" vK f fd) (hm:mg "words_in"=some (.ref f)):bK P w K mg base "words_in" 1 2 CWordsIn:=by
 have nd:(["boxes","filling"]:List Str).Nodup:=by decide+kernel
 refine dU (N:=["boxes","filling"]) (ps:=["boxes","filling"]) (k:=0) F ⟨rfl,rfl,rfl,nd,rfl,by decide+kernel,by decide+kernel⟩ hm (fun _ _ _ _ _ _ us hl=>match us,hl with | [_,_],_=>rfl) fun cdv A outer s H E hr ds r hl c=> ?_
 obtain ⟨bs,ws,hb,hw,rfl,rfl⟩:=c; have nd2:(["box","filling"]:List Str).Nodup:=by decide+kernel
 refine bD (bQ (PEd.cast (fU (ds:=aY bs) (N:=["box","filling"]) (M:=["boxes","filling"]) (cap:=[none,some 1]) (sc:=bC vK) (Tb:=fun d=>[.val d, .val (aV ws)]) (fun _=>true) (fun d=>match d with | .int i=>D.int (ws.getD i.toNat 0) | _=> .non) (eV (aB 0 rfl (pv 0))) (by unfold aY; rw [aC]; omega) rfl (by decide+kernel) rfl (by decide+kernel) rfl (fun cl C fp s H d _=>cU 0 (bW (i:=0) nd2 rfl (Or.inl rfl))) (fun d _=>⟨.inl rfl, .inr rfl,trivial⟩) (fun cl C fp s H d hd=> .inl ⟨rfl,rfl⟩) fun cl C fp s H d hd _=> ?_) ?_) trivial rfl)
 ·obtain ⟨b,hb2,rfl⟩:=aQ.mp hd; have:=hw b hb2; exact cJ (n:=b) (d:= .int (ws.getD b 0)) (aB 1 rfl (pv 1)) (aB 0 rfl (pv 0)) (by simp [bS,this]) fun _ _=>rfl
 ·rw [bZ.mpr (fun _ _=>rfl)]; unfold aY; rw [aR,aR]; rfl
theorem ok_misses (F:Fun K "misses_at" "misses_at" sMiss f fd) (zenumerate:mg "enumerate"=none) (hm:mg "misses_at"=some (.ref f)) (GF:bK P w K mg base "fillings" 2 1 xS):bK P w K mg base "misses_at" 3 3 CMiss:=by
 have nd:(["size","wish","table","number","filling"]:List Str).Nodup:=by decide+kernel
 refine dU (N:=["size","wish","table","number","filling"]) (ps:=["size","wish","table"]) (k:=2) F ⟨rfl,rfl,rfl,nd,rfl,by decide+kernel,by decide+kernel⟩ hm (fun _ _ _ _ _ _ us hl=>match us,hl with | [_,_,_],_=>rfl) fun cdv A outer s H E hr ds r hl c=> ?_
 obtain ⟨p,w,T,hp,W,OT,rfl,rfl⟩:=c; have hu:(A.deeper (envOfC "misses_at" (bC sMiss) s.heap.objs.size f cdv)).units+4<cLine:=by have:=hr.un; omega
 refine aH (iF (ds:=sN ((cT p).map aV)) (fun k sd=>(∀j,j<k→misK w T j=false)∧sd=[.val (cH p), .val (.lst (w.map wsD)), .val (.tup (T.map aV)), .un, .un]) (pid_enum rfl zenumerate (PEd.val (bR (ds:=[cH p]) GF hr rfl (aD (aB 0 rfl (pv 0)) aP) ⟨p,hp,rfl,rfl⟩ trivial rfl))) ⟨_,Le.refl _,fun j hj=>by omega,rfl⟩ (fun k d sdk hd hk=> ?_) fun sdn hn=> ?_)
 ·obtain ⟨x,hx,rfl⟩:=rL hd; obtain ⟨hk2,rfl⟩:=lK hx; obtain ⟨hn,rfl⟩:=hk; have kT:k<T.length:=by rw [OT.len]; exact hk2
  have kW:k<w.length:=by rw [W.len]; exact hk2
  refine ⟨[.val (cH p), .val (.lst (w.map wsD)), .val (.tup (T.map aV)), .val (.int (k:Int)), .val (aV ((cT p).getD k []))],kU (js:=[3,4]) rfl (eZ (bW (i:=3) nd rfl (Or.inl rfl)) (eZ (bW (i:=4) nd rfl (Or.inl rfl)) kR)) rfl rfl, ?_⟩; refine bD (hW (k:=misK w T k) ?_ (fun h=> ?_) fun h=>cM ?_)
  ·have ka:=ws_at kW; unfold misK; cases hq:w.getD k none with
   | none=>rw [hq] at ka; exact PWd.pt (pwd_and (k:=false) (j:=false) (ptd_notN (d:= .non) (lY (n:=k) (d:= .non) (PEd.bor (aB 1 rfl (pv 1))) (aB 3 rfl (pv 3)) ka fun _ _=>rfl) lZ) fun h=>by cases h)
   | some L=>rw [hq] at ka; exact PWd.pt (pwd_and (k:=true) (j:= !decide (T.getD k []∈L)) (ptd_notN (d:= .lst (L.map aV)) (lY (n:=k) (d:= .lst (L.map aV)) (PEd.bor (aB 1 rfl (pv 1))) (aB 3 rfl (pv 3)) ka fun _ _=>rfl) lZ) fun _=>pwd_and1 (PTd.cast (ptd_ninD (d:=aV (T.getD k [])) (ds:=L.map aV) (cJ (n:=k) (aB 2 rfl (pv 2)) (aB 3 rfl (pv 3)) (tups_at kT) fun _ _=>rfl) (lY (n:=k) (d:= .lst (L.map aV)) (PEd.bor (aB 1 rfl (pv 1))) (aB 3 rfl (pv 3)) ka fun _ _=>rfl) (lV _) (lN L) (by have:=mO L; show (A.deeper _).units+1+_<cLine; omega)) (by rw [any_tups])))
  ·refine bD (bQ (aB 4 rfl (pv 4)) trivial ?_); show R.val _=R.val (optD (oM w (cT p) T)); rw [show oM w (cT p) T=some ((cT p).getD k []) from first_some hk2 h hn]; rfl
  ·refine ⟨[.val (cH p), .val (.lst (w.map wsD)), .val (.tup (T.map aV)), .un, .un],⟨.inr rfl, .inr rfl, .inr rfl, .inl rfl, .inl rfl,trivial⟩,fun j hj=> ?_,rfl⟩
   by_cases q:j<k
   ·exact hn j q
   ·have:j=k:=by omega
    subst this; exact h
 ·obtain ⟨hn,rfl⟩:=hn; rw [oS,aC] at hn; refine bD (bQ lZ trivial ?_); show R.val _=R.val (optD (oM w (cT p) T)); rw [show oM w (cT p) T=none from pU hn]; rfl
theorem ok_does (F:Fun K "does_wish" "does_wish" sDoes f fd) (hm:mg "does_wish"=some (.ref f)) (GM:bK P w K mg base "misses_at" 3 3 CMiss):bK P w K mg base "does_wish" 4 3 CDoes:=by
 have nd:(["size","wish","table"]:List Str).Nodup:=by decide+kernel
 refine dU (N:=["size","wish","table"]) (ps:=["size","wish","table"]) (k:=3) F ⟨rfl,rfl,rfl,nd,rfl,by decide+kernel,by decide+kernel⟩ hm (fun _ _ _ _ _ _ us hl=>match us,hl with | [_,_,_],_=>rfl) fun cdv A outer s H E hr ds r hl c=> ?_
 obtain ⟨p,w,T,hp,W,OT,rfl,rfl⟩:=c; exact bD (bQ (PEd.cast (pd_isN (bR (ds:=[cH p, .lst (w.map wsD), .tup (T.map aV)]) GM hr rfl (aD (aB 0 rfl (pv 0)) (aD (aB 1 rfl (pv 1)) (aD (aB 2 rfl (pv 2)) aP))) ⟨p,w,T,hp,W,OT,rfl,rfl⟩ trivial rfl) lZ) (by rw [isN_opt])) trivial rfl)
theorem ok_flike (F:Fun K "fillings_like" "fillings_like" yT f fd) (hm:mg "fillings_like"=some (.ref f)) (GW:bK P w K mg base "words_in" 1 2 CWordsIn) (GF:bK P w K mg base "fillings" 2 1 xS):bK P w K mg base "fillings_like" 3 3 CFLike:=by
 have nd:(["size","boxes","filling","words"]:List Str).Nodup:=by decide+kernel
 refine dU (N:=["size","boxes","filling","words"]) (ps:=["size","boxes","filling"]) (k:=2) F ⟨rfl,rfl,rfl,nd,rfl,by decide+kernel,by decide+kernel⟩ hm (fun _ _ _ _ _ _ us hl=>match us,hl with | [_,_,_],_=>rfl) fun cdv A outer s H E hr ds r hl c=> ?_
 obtain ⟨p,bs,u,hp,lb,hb,G,rfl,rfl⟩:=c; obtain ⟨h1,h2,h3,h4,h5⟩:=pX p hp; have hr1:=hr.mono (show 1≤2 by decide); have f9:(cT p).length≤64:=kY hp; have hu:(A.deeper (envOfC "fillings_like" (bC yT) s.heap.objs.size f cdv)).units+3<cLine:=by have:=hr.un; omega
 refine aH (gA (ds:=(wdQ bs u).map D.int) 3 nd rfl (Or.inr rfl) (bR (ds:=[.lst (aY bs),aV u]) GW hr1 rfl (aD (aB 1 rfl (pv 1)) (aD (aB 2 rfl (pv 2)) aP)) ⟨bs,u,lb,fun b h=>by rw [G.len]; exact hb b h,rfl,rfl⟩ trivial rfl) fun l3=>iS 3 rfl ?_)
 have ec:(((cT p).map aV).filter fun d=>decide (wdQ bs (iV d)=wdQ bs u)).map (fun d=>d)=(lI p bs u).map aV:=by
  rw [List.map_id',lD]; unfold lI; congr 1; refine sS fun g _=> ?_
  show decide (wdQ bs (iV (aV g))=wdQ bs u)=_; rw [gM]
 refine bD (bQ (PEd.cast (fU (ds:=(cT p).map aV) (N:=["other","boxes","words"]) (M:=["size","boxes","filling","words"]) (cap:=[none,some 1,some 3]) (sc:=bC yT) (Tb:=fun d=>[.val d, .val (.lst (aY bs)), .val (.lst ((wdQ bs u).map D.int))]) (fun d=>decide (wdQ bs (iV d)=wdQ bs u)) (fun d=>d) (eV (PEd.val (bR (ds:=[cH p]) GF hr rfl (aD (aB 0 rfl (pv 0)) aP) ⟨p,hp,rfl,rfl⟩ trivial rfl))) (by rw [aC]; omega) rfl (by decide+kernel) rfl (by decide+kernel) rfl (fun cl C fp s H d _=>cU 0 (bW (i:=0) (show (["other","boxes","words"]:List Str).Nodup by decide+kernel) rfl (Or.inl rfl))) (fun d _=>⟨.inl rfl, .inr rfl, .inr rfl,trivial⟩) (fun cl C fp s H d hd=> .inr ⟨_,rfl, ?_⟩) fun cl C fp s H d hd _=>(aB 0 rfl (pv 0))) (by rw [ec])) trivial rfl); obtain ⟨g,hg,rfl⟩:=oN hd; have GG:=nR hp hg; rw [gM]; exact PTd.cast (ptd_eqD (ra:= .val (.lst ((wdQ bs g).map D.int))) (rb:= .val (.lst ((wdQ bs u).map D.int))) (PEd.val (bR (ds:=[.lst (aY bs),aV g]) GW hr1 rfl (aD (aB 1 rfl (pv 1)) (aD (aB 0 rfl (pv 0)) aP)) ⟨bs,g,lb,fun b h=>by rw [GG.len]; exact hb b h,rfl,rfl⟩ trivial rfl)) (aB 2 rfl (pv 2)) trivial trivial (.inr ⟨rfl,rfl⟩) (qQ _) (qQ _) (u_of hu (by show iM _+1+1≤3; rw [rV]; decide))) (by show iP _ _=_; rw [vA])
theorem ok_wlike (F:FunD K "wish_like" "wish_like" qA f fd) (zlen:mg "len"=none) (hm:mg "wish_like"=some (.ref f)) (GB:bK P w K mg base "boxes_looked_at" 1 2 CBoxes) (GL:bK P w K mg base "fillings_like" 3 3 CFLike):CalleeD P w K mg base "wish_like" 4 3 (CWLike K):=by
 have nd:(["size","table","looked","boxes"]:List Str).Nodup:=by decide+kernel
 refine def_okD (N:=["size","table","looked","boxes"]) (ps:=["size","table","looked"]) (k:=3) F ⟨rfl,rfl,rfl,nd,rfl,by decide+kernel,by decide+kernel⟩ hm (fun s T o nn _ _ _ _ _ _ us hT hS hl=>match us,hl with | [_,_,_],_=>BindsTo.of_defaults rfl hT hS rfl rfl) (fun s T o nn _ _ _ _ _ _ us hT hS hl=>match us,hl with | [_,_],_=>BindsTo.of_defaults rfl hT hS rfl rfl) fun cdv A outer s H E hr ds r hl c=> ?_
 obtain ⟨p,T,o,hp,O,hlk,rfl,rfl⟩:=c; have hr1:=hr.mono (show 1≤3 by decide); have f9:(cT p).length≤64:=kY hp; obtain ⟨lb,hb⟩:=bx_ok hp hlk; refine aH (gA (ds:=aY (bxQ p.2.toNat o)) 3 nd rfl (Or.inr rfl) (bR (ds:=[cH p,lkD o]) GB hr1 rfl (aD (aB 0 rfl (pv 0)) (aD (aB 2 rfl (pv 2)) aP)) ⟨p,o,hp,rfl,rfl⟩ trivial rfl) fun l3=>iS 3 rfl ?_); generalize bxQ p.2.toNat o=bs at lb hb; have nl:(aY bs).length=bs.length:=aC _; refine aH (hW (ptd_eqI (PEd.ic (oY rfl zlen (PEd.bor (aB 3 rfl (pv 3)))) (by rw [nl])) aZ) (fun h=> ?_) fun h=>cM ?_)
 ·have h':bs.length=0:=by
   have:(bs.length:Int)=0:=by simpa using h
   omega
  unfold wlR; rw [if_pos h']
  have ec:((T.map aV).filter fun _=>true).map (fun _=>D.non)=T.map fun _=>D.non:=by rw [bZ.mpr (fun _ _=>rfl),aR]; rfl
  exact bD (bQ (PEd.cast (fU (ds:=T.map aV) (N:=["filling"]) (M:=["size","table","looked","boxes"]) (cap:=[none]) (sc:=bC qA) (Tb:=fun d=>[.val d]) (fun _=>true) (fun _=>D.non) (kS (aB 1 rfl (pv 1))) (by rw [aC,O.len]; omega) rfl (by decide+kernel) rfl (by decide+kernel) rfl (fun cl C fp s H d _=>cU 0 (bW (i:=0) (show (["filling"]:List Str).Nodup by decide+kernel) rfl (Or.inl rfl))) (fun d _=>⟨.inl rfl,trivial⟩) (fun cl C fp s H d hd=> .inl ⟨rfl,rfl⟩) fun cl C fp s H d hd _=>lZ) (by rw [ec])) trivial rfl)
 ·have h':¬ bs.length=0:=by
   have:¬ (bs.length:Int)=0:=by simpa using h
   omega
  unfold wlR; rw [if_neg h']
  have ec:((T.map aV).filter fun _=>true).map (fun d=>(lI p bs (iV d)).map aV)=T.map fun f=>(lI p bs f).map aV:=by
   rw [bZ.mpr (fun _ _=>rfl),aR]; refine bN fun f _=> ?_
   show (lI p bs (iV (aV f))).map aV=_; rw [gM]
  have nf:∀d,qE ((lI p bs (iV d)).map aV)=true:=fun d=>noLs_map aV (fun ws=>noLs_int ws) _
  refine bD (bQ (PEd.cast (pd_compN (ds:=T.map aV) (N:=["filling","boxes","size"]) (M:=["size","table","looked","boxes"]) (cap:=[none,some 3,some 0]) (sc:=bC qA) (Tb:=fun d=>[.val d, .val (.lst (aY bs)), .val (cH p)]) (fun _=>true) (fun d=>(lI p bs (iV d)).map aV) nf (kS (aB 1 rfl (pv 1))) (by rw [aC,O.len]; omega) rfl (by decide+kernel) rfl (by decide+kernel) rfl (fun cl C fp s H d _=>cU 0 (bW (i:=0) (show (["filling","boxes","size"]:List Str).Nodup by decide+kernel) rfl (Or.inl rfl))) (fun d _=>⟨.inl rfl, .inr rfl, .inr rfl,trivial⟩) (fun cl C fp s H d hd=> .inl ⟨rfl,rfl⟩) fun cl C fp s H d hd _=> ?_) (by rw [ec]; rfl)) trivial rfl); obtain ⟨f,hf,rfl⟩:=oN hd; rw [gM]; exact bR (ds:=[cH p, .lst (aY bs),aV f]) GL hr rfl (aD (aB 2 rfl (pv 2)) (aD (aB 1 rfl (pv 1)) (aD (aB 0 rfl (pv 0)) aP))) ⟨p,bs,f,hp,lb,hb,O.fil f hf,rfl,rfl⟩ trivial rfl
theorem ok_ft51 (F:Fun K "first_that_does" "first_that_does" sFt f fd) (hm:mg "first_that_does"=some (.ref f)) (GD:bK P w K mg base "does_wish" 4 3 CDoes):bK P w K mg base "first_that_does" 5 3 CFt51:=by
 have nd:(["size","book","wish","entry"]:List Str).Nodup:=by decide+kernel
 refine dU (N:=["size","book","wish","entry"]) (ps:=["size","book","wish"]) (k:=4) F ⟨rfl,rfl,rfl,nd,rfl,by decide+kernel,by decide+kernel⟩ hm (fun _ _ _ _ _ _ us hl=>match us,hl with | [_,_,_],_=>rfl) fun cdv A outer s H E hr ds r hl c=> ?_
 obtain ⟨p,L,b,B,w,hp,S,O,W,rfl,rfl⟩:=c; refine aH (iF (ds:=B.map enD) (fun t sd=>ftQ p w B=ftQ p w (B.drop t)∧sd=[.val (cH p), .val (.lst (B.map enD)), .val (.lst (w.map wsD)), .un]) (eV (aB 1 rfl (pv 1))) ⟨_,Le.refl _,rfl,rfl⟩ (fun t d sdt hd ht=> ?_) fun sdn hn=> ?_)
 ·obtain ⟨q,rfl⟩:=ht; obtain ⟨e,he,rfl,_⟩:=mV hd; obtain ⟨tl,ee⟩:=aK.mp he; obtain ⟨x1,x2,x3,x4,x5⟩:=O.ent e (bB he); have tk:kI p e.2.2:=by rw [x4]; exact tX hp S x1
  rw [dQ tl,ee] at q; refine ⟨[.val (cH p), .val (.lst (B.map enD)), .val (.lst (w.map wsD)), .val (enD e)],cU 3 (bW (i:=3) nd rfl (Or.inl rfl)), ?_⟩; refine bD (hW (k:=doQ p w e.2.2) (ptd_val (bR (ds:=[cH p, .lst (w.map wsD), .tup (e.2.2.map aV)]) GD hr rfl (aD (aB 0 rfl (pv 0)) (aD (aB 2 rfl (pv 2)) (aD (cJ (n:=2) (ds:=[.int e.1, .tup (aY e.2.1), .tup (e.2.2.map aV)]) (aB 3 rfl (pv 3)) aZ rfl fun _ _=>rfl) aP))) ⟨p,w,e.2.2,hp,W,tk,rfl,rfl⟩ trivial rfl)) (fun h=> ?_) fun h=>cM ?_)
  ·have e3:ftQ p w B=some e:=by rw [q]; exact List.find?_cons_of_pos (p:=fun e:Bk=>doQ p w e.2.2) h
   rw [e3]; exact bD (bQ (aB 3 rfl (pv 3)) trivial rfl)
  ·refine ⟨[.val (cH p), .val (.lst (B.map enD)), .val (.lst (w.map wsD)), .un],⟨.inr rfl, .inr rfl, .inr rfl, .inl rfl,trivial⟩, ?_,rfl⟩; rw [q]; exact List.find?_cons_of_neg (p:=fun e:Bk=>doQ p w e.2.2) (by rw [h]; decide)
 ·obtain ⟨q,rfl⟩:=hn; rw [aC,uF] at q; rw [q]; exact bD (bQ lZ trivial rfl)
noncomputable def lt51 (m:Int):D→Bool
 | .tup (.int a::_)=>decide (a<m)
 | _=>false
theorem ok_lr51 (F:Fun K "least_row" "least_row" sLr f fd) (hm:mg "least_row"=some (.ref f)) (GO:bK P w K mg base "book_of" 6 3 CBook) (GT:bK P w K mg base "first_that_does" 5 3 CFt51):bK P w K mg base "least_row" 7 4 CLr51:=by
 have nd:(["size","stock","bound","wish","book","found"]:List Str).Nodup:=by decide+kernel
 have nd2:(["entry","found"]:List Str).Nodup:=by decide+kernel
 refine dU (N:=["size","stock","bound","wish","book","found"]) (ps:=["size","stock","bound","wish"]) (k:=6) F ⟨rfl,rfl,rfl,nd,rfl,by decide+kernel,by decide+kernel⟩ hm (fun _ _ _ _ _ _ us hl=>match us,hl with | [_,_,_,_],_=>rfl) fun cdv A outer s H E hr ds r hl c=> ?_
 obtain ⟨p,L,b,U,w,hp,S,dn,FU,W,rfl,rfl⟩:=c; have hr5:=hr.mono (show 5≤6 by decide); have O:=bkQ_ok hp S FU; refine aH (gA (ds:=(bkQ p L b).map enD) 4 nd rfl (Or.inl rfl) (bR (ds:=[cH p, .lst (L.map skD), .int b]) GO hr rfl (aD (aB 0 rfl (pv 0)) (aD (aB 1 rfl (pv 1)) (aD (aB 2 rfl (pv 2)) aP))) ⟨p,L,b,U,hp,S,dn,FU,rfl,rfl⟩ trivial rfl) fun l4=>iS 4 rfl ?_); generalize bkQ p L b=B at O; have bl:=O.len; refine aH (cF (d:=oeD (ftQ p w B)) 5 nd rfl (Or.inr rfl) (bR (ds:=[cH p, .lst (B.map enD), .lst (w.map wsD)]) GT hr5 rfl (aD (aB 0 rfl (pv 0)) (aD (aB 4 rfl (pv 4)) (aD (aB 3 rfl (pv 3)) aP))) ⟨p,L,b,B,w,hp,S,O,W,rfl,rfl⟩ trivial rfl) ?_); unfold lrD; cases hq:ftQ p w B with
 | none=>refine aH (iA (k:=true) (PTd.cast (tP (d:= .non) (aB 5 rfl (pv 5)) lZ) rfl) rfl ?_); exact bD (bQ (fP (ds:=[.str "none", .lst (B.map enD)]) (aD cW (aD (aB 4 rfl (pv 4)) aP)) (aJ rfl)) trivial rfl)
 | some e=>
  have ec:((B.map enD).filter (lt51 e.1)).map id=(B.filter fun x=>decide (x.1<e.1)).map enD:=by rw [iG,lD]; rfl
  refine aH (eR (k:=false) (PTd.cast (tP (d:=enD e) (aB 5 rfl (pv 5)) lZ) rfl) rfl (cM ?_)); refine bD (bQ (fP (ds:=[.str "row", .tup (aY e.2.1), .lst ((B.filter fun x=>decide (x.1<e.1)).map enD)]) (aD cW (aD (cJ (n:=1) (ds:=[.int e.1, .tup (aY e.2.1), .tup (e.2.2.map aV)]) (aB 5 rfl (pv 5)) aZ rfl fun _ _=>rfl) (aD (PEd.val (PEd.cast (fU (ds:=B.map enD) (N:=["entry","found"]) (M:=["size","stock","bound","wish","book","found"]) (cap:=[none,some 5]) (sc:=bC sLr) (Tb:=fun d=>[.val d, .val (enD e)]) (lt51 e.1) id (eV (aB 4 rfl (pv 4))) (by rw [aC]; omega) rfl (by decide+kernel) rfl (by decide+kernel) rfl (fun cl C fp s H d hd=>cU 0 (bW (i:=0) nd2 rfl (Or.inl rfl))) (fun d hd=>⟨.inl rfl, .inr rfl,trivial⟩) (fun cl C fp s H d hd=> .inr ⟨_,rfl, ?_⟩) fun cl C2 fp s H d hd _=>(aB 0 rfl (pv 0))) (by rw [ec]))) aP))) (aJ rfl)) trivial rfl); obtain ⟨x,_,rfl⟩:=aQ.mp hd; exact nI (g:=fun i j=>decide (i<j)) op_lt (cJ (n:=0) (ds:=[.int x.1, .tup (aY x.2.1), .tup (x.2.2.map aV)]) (d:= .int x.1) (aB 0 rfl (pv 0)) aZ rfl fun _ _=>rfl) (cJ (n:=0) (ds:=[.int e.1, .tup (aY e.2.1), .tup (e.2.2.map aV)]) (d:= .int e.1) (aB 1 rfl (pv 1)) aZ rfl fun _ _=>rfl) (hV _)
theorem ok_cellat (F:Fun K "_law_cell_at" "_law_cell_at" sCellAt f fd) (zlen:mg "len"=none) (hm:mg "_law_cell_at"=some (.ref f)):bK P w K mg base "_law_cell_at" 1 2 CCell:=by
 have nd:(["_law_script","_law_k"]:List Str).Nodup:=by decide+kernel
 refine dU (N:=["_law_script","_law_k"]) (ps:=["_law_script","_law_k"]) (k:=0) F ⟨rfl,rfl,rfl,nd,rfl,by decide+kernel,by decide+kernel⟩ hm (fun _ _ _ _ _ _ us hl=>match us,hl with | [_,_],_=>rfl) fun cdv A outer s H E hr ds r hl c=> ?_
 obtain ⟨ns,k,rfl,hk,rfl⟩:=c; refine aH (hW (nI op_lt (aB 1 rfl (pv 1)) (pd_lenS rfl zlen (aB 0 rfl (pv 0))) (hV _)) (fun h=> ?_) fun h=>cM ?_)
 ·have h':k<ns.length:=by simpa using h
  exact bD (bQ (pd_ixS (z:=ns.getD k 0) (aB 0 rfl (pv 0)) (aB 1 rfl (pv 1)) (by simp [h']) fun _ _=>rfl) trivial rfl)
 ·have h':¬ k<ns.length:=by simpa using h
  refine bD (bQ aZ trivial ?_); show R.val (.int 0)=R.val (.int (ns.getD k 0)); simp [bS,h']
theorem ok_mix45 (F:Fun K "_law_mixed" "_law_mixed" sMixed f fd) (hm:mg "_law_mixed"=some (.ref f)):bK P w K mg base "_law_mixed" 1 2 CMx:=by
 have nd:(["_law_cell","_law_k","_law_number"]:List Str).Nodup:=by decide+kernel
 refine dU (N:=["_law_cell","_law_k","_law_number"]) (ps:=["_law_cell","_law_k"]) (k:=0) F ⟨rfl,rfl,rfl,nd,rfl,by decide+kernel,by decide+kernel⟩ hm (fun _ _ _ _ _ _ us hl=>match us,hl with | [_,_],_=>rfl) fun cdv A outer s H E hr ds r hl c=> ?_
 obtain ⟨c,k,rfl,hk,rfl⟩:=c; have kb:((k:Nat):Int).natAbs<2^250:=cA (by omega:_≤1000) (by decide); refine aH (hW (ptd_eqI (cX fX (aB 0 rfl (pv 0)) aZ (by decide)) aZ) (fun h=> ?_) fun h=>cM ?_)
 ·have h':c%2=0:=by simpa using h
  have e2:(2:Int) * 2^((8:Int) * (k:Int)).toNat=((2^(8 * k+1):Nat):Int):=by
   have:((8:Int) * (k:Int)).toNat=8 * k:=by omega
   rw [this,Nat.pow_succ]
   push_cast
   exact Int.mul_comm _ _
  have lg:(2^(8 * k+1):Nat).log2<9000:=by rw [Nat.log2_two_pow]; omega
  refine bD (bQ (cX vP (aB 0 rfl (pv 0)) (PEd.ic (cX op_shl aZ (cX jD aZ (aB 1 rfl (pv 1)) (jJ (by decide) kb)) ⟨by omega,by omega,by decide⟩) e2) ⟨pw0 _,lg⟩) trivial ?_); unfold mxS; rw [if_pos h']
 have h':¬ c%2=0:=by simpa using h
 have c1:=dY c (show (2147483647:Int)≠0 by decide); have c2:=cS c (show (0:Int)<2147483647 by decide); have big:∀z:Int,0≤z∧z<2147483647+69621 * 400+7919→z.natAbs<2^250:=fun z hz=>cA (by omega:z.natAbs≤3000000000) (by decide)
 refine aH (cF (d:= .int (mx1 c k)) 2 nd rfl (Or.inl rfl) (cX fX (cX jD (gI iX (gI iX (cX fX (aB 0 rfl (pv 0)) aZ (by decide)) (cX jD aZ (aB 1 rfl (pv 1)) (jJ (by decide) kb))) aZ) aZ (jJ (big _ ⟨by omega,by omega⟩) (by decide))) aZ (by decide)) ?_); have r1:0≤mx1 c k∧mx1 c k<2147483647:=⟨dY _ (by decide),cS _ (by decide)⟩; refine aH (cF (d:= .int (mx2 c k)) 2 nd rfl (Or.inl rfl) (cX fX (cX jD (aB 2 rfl (pv 2)) (aB 2 rfl (pv 2)) (jJ (big _ ⟨by omega,by omega⟩) (big _ ⟨by omega,by omega⟩))) aZ (by decide)) ?_); have r2:0≤mx2 c k∧mx2 c k<2147483629:=⟨dY _ (by decide),cS _ (by decide)⟩; refine bD (bQ (cX fX (gI iX (cX jD (aB 2 rfl (pv 2)) (aB 2 rfl (pv 2)) (jJ (big _ ⟨by omega,by omega⟩) (big _ ⟨by omega,by omega⟩))) (cX jD aZ (aB 1 rfl (pv 1)) (jJ (by decide) kb))) aZ (by decide)) trivial ?_); unfold mxS; rw [if_neg h']
noncomputable def CLFill:List D→R→Prop:=fun ds r=>∃p,p∈bX∧ds=[cH p]∧r= .own ((gT (2^p.1.toNat) p.2.toNat).map aV)
theorem ok_lfill41 (F:Fun K "_law_fillings" "_law_fillings" sLFill f fd) (zrange:mg "range"=none) (hm:mg "_law_fillings"=some (.ref f)):bK P w K mg base "_law_fillings" 1 1 CLFill:=by
 have nd:(["_law_size_here","_law_found","_law_box","_law_longer","_law_one"]:List Str).Nodup:=by decide+kernel
 refine dU (N:=["_law_size_here","_law_found","_law_box","_law_longer","_law_one"]) (ps:=["_law_size_here"]) (k:=0) F ⟨rfl,rfl,rfl,nd,rfl,by decide+kernel,by decide+kernel⟩ hm (fun _ _ _ _ _ _ us hl=>match us,hl with | [_],_=>rfl) fun cdv A outer s H E hr ds r hl c=> ?_
 obtain ⟨p,hp,rfl,rfl⟩:=c; obtain ⟨h1,h2,h3,h4,h5⟩:=pX p hp; have e2:p.2=((p.2.toNat:Nat):Int):=by omega
 have e1:p.1=((p.1.toNat:Nat):Int):=by omega
 have nd2:(["_law_word_here","_law_one"]:List Str).Nodup:=by decide+kernel
 have m64:2^p.1.toNat≤64:=by
  have:p.1.toNat≤6:=by omega
  exact cE (qB (by decide) this) (by decide)
 refine aH (gA (ds:=[aV []]) 1 nd rfl (Or.inl rfl) (jQ (ds:=[aV []]) (aD (fP (ds:=[]) aP (cD _)) aP) (aJ rfl)) fun l=> ?_); refine aH (iF (ds:=gO 0 p.2.toNat) (fun k sd=>∃l,sd=[.val (cH p), .own l ((gT (2^p.1.toNat) k).map aV), .un, .un, .un]) (kB (n:=p.2.toNat) rfl zrange (PEd.cast (cJ (n:=1) (d:= .int p.2) (aB 0 rfl (pv 0)) aZ rfl fun _ _=>rfl) (by rw [← e2])) (by omega)) ⟨_,Le.refl _,l,rfl⟩ (fun k d sdk hd hk=> ?_) fun sdn hn=> ?_)
 ·obtain ⟨hk2,rfl⟩:=kF hd; obtain ⟨l2,rfl⟩:=hk
  have hsm:(gT (2^p.1.toNat) k).length * 2^p.1.toNat≤900:=by rw [tW]; exact xQ p hp k hk2
  have lens:=vD (2^p.1.toNat) k; have eL:gT (2^p.1.toNat) (k+1)=(gT (2^p.1.toNat) k).flatMap fun s=>(bH (2^p.1.toNat)).map fun (w:Nat)=>s++[(w:Int)]:=rfl
  rw [eL]; generalize gT (2^p.1.toNat) k=L at *; refine ⟨_,cU 2 (bW (i:=2) nd rfl (Or.inl rfl)),iS 1 rfl ?_⟩; refine aH (gA 3 nd rfl (Or.inl rfl) (jQ (ds:=[]) aP (cD _)) fun l3=> ?_); refine aH (qZ (ds:=L.map aV) (fun t=>[.val (cH p), .val (.lst (L.map aV)), .un, .own l3 (((L.take t).flatMap fun s=>(bH (2^p.1.toNat)).map fun (w:Nat)=>s++[(w:Int)]).map aV), .un]) (fun t=>[.val (cH p), .val (.lst (L.map aV)), .un, .own l3 (((L.take t).flatMap fun s=>(bH (2^p.1.toNat)).map fun (w:Nat)=>s++[(w:Int)]).map aV), .val (aV (L.getD t []))]) (eV (aB 1 rfl (pv 1))) ⟨.inr rfl, .inr rfl, .inl rfl, .inr rfl, .inr rfl,trivial⟩ (fun t d hd=> ?_) (fun t d hd=> ?_) ?_)
  ·obtain ⟨_,rfl⟩:=lK hd; exact cU 4 (bW (i:=4) nd rfl (Or.inr rfl))
  ·obtain ⟨ht,rfl⟩:=lK hd; have hmem:L.getD t []∈L:=DL.getD_mem ht
   have et:L.take (t+1)=L.take t++[L.getD t []]:=by rw [eQ]; simp [bS,ht]
   have lk:(L.take t).length * 2^p.1.toNat+2^p.1.toNat≤900:=by
    have h1:(L.take t).length+1≤L.length:=by rw [dD]; omega
    have h2:=Nat.mul_le_mul_right (2^p.1.toNat) h1; rw [Nat.succ_mul] at h2; omega
   have ec:((gO 0 (2^p.1.toNat)).filter fun _=>true).map (fun d=>D.tup ((L.getD t []).map D.int++[d]))=((bH (2^p.1.toNat)).map fun (w:Nat)=>L.getD t []++[(w:Int)]).map aV:=by
    rw [bZ.mpr (fun _ _=>rfl)]; unfold gO; rw [aR,aR]; refine bN fun w _=> ?_
    simp [aV]
   have lt:=lens _ hmem; refine bD (vV (ds2:=((bH (2^p.1.toNat)).map fun (w:Nat)=>L.getD t []++[(w:Int)]).map aV) 3 rfl (pv 3) (PEd.val (PEd.cast (fU (N:=["_law_word_here","_law_one"]) (M:=["_law_size_here","_law_found","_law_box","_law_longer","_law_one"]) (cap:=[none,some 4]) (sc:=bC sLFill) (Tb:=fun d=>[.val d, .val (aV (L.getD t []))]) (fun _=>true) (fun d=>D.tup ((L.getD t []).map D.int++[d])) (kB (n:=2^p.1.toNat) rfl zrange (zI (k:=p.1.toNat) (PEd.ic (cJ (n:=0) (aB 0 rfl (pv 0)) aZ rfl fun _ _=>rfl) e1) (by omega)) (by omega)) (by rw [hX]; omega) rfl (by decide+kernel) rfl (by decide+kernel) rfl (fun cl C fp s H d _=>cU 0 (bW (i:=0) nd2 rfl (Or.inl rfl))) (fun d _=>⟨.inl rfl, .inr rfl,trivial⟩) (fun cl C fp s H d _=> .inl ⟨rfl,rfl⟩) fun cl C fp s H d _ _=>lS (aB 1 rfl (pv 1)) (fP (ds:=[d]) (aD (aB 0 rfl (pv 0)) aP) (aJ rfl)) ?_) (by rw [ec]))) ?_ ?_)
   ·simp only [aC,bU,gR]; omega
   ·rw [aC,oK,aC,aC,gB]; omega
   ·refine ⟨.inr rfl, .inr rfl, .inr rfl, .inr ?_, .inl rfl,trivial⟩; rw [et,List.flatMap_append,bF]; simp
  ·rw [aC,eY]; refine bD (psd_move 1 3 rfl nd rfl (Or.inl rfl) (pv 3) ?_); exact ⟨_,Le.refl _,l3,rfl⟩
 ·obtain ⟨l2,rfl⟩:=hn; refine bD (oP 1 rfl (pv 1) ?_); show R.own _=R.own _; rw [hX]
theorem zP:∀k,k<10→decide (V.str (nm k)=V.str "down")=decide (k=9):=by decide+kernel
theorem at_i45 {ws:List Int} {i:Nat} (h:i<ws.length):(ws.map D.int)[i]? =some (.int (ws.getD i 0)):=by simp [bS,h]
theorem ok_lw41 (F:Fun K "_law_word" "_law_word" sLWord f fd) (hm:mg "_law_word"=some (.ref f)):bK P w K mg base "_law_word" 1 3 CLw45:=by
 have nd:(["_law_size_here","_law_step","_law_filling","_law_most","_law_name","_law_a","_law_b"]:List Str).Nodup:=by decide+kernel
 refine dU (N:=["_law_size_here","_law_step","_law_filling","_law_most","_law_name","_law_a","_law_b"]) (ps:=["_law_size_here","_law_step","_law_filling"]) (k:=0) F ⟨rfl,rfl,rfl,nd,rfl,by decide+kernel,by decide+kernel⟩ hm (fun _ _ _ _ _ _ us hl=>match us,hl with | [_,_,_],_=>rfl) fun cdv A outer s H E hr ds r hl c=> ?_
 obtain ⟨p,⟨k,i,j,n⟩,ws,O,G,rfl,rfl⟩:=c; obtain ⟨h1,h2,h3,h4,h5⟩:=pX p O.sz; have e1:p.1=((p.1.toNat:Nat):Int):=by omega
 have m0:=pw0 p.1.toNat; have wl:=G.len; obtain ⟨_,k10,i0,j0,n0⟩:=O; simp only at i0 j0 k10; have ai:(ws.map D.int)[i.toNat]? =some (.int (ws.getD i.toNat 0)):=at_i45 (by omega); have aj:(ws.map D.int)[j.toNat]? =some (.int (ws.getD j.toNat 0)):=at_i45 (by omega); show PSd _ (init _ [cH p,iU k i j n,aV ws]) _ {nx:=fun _=>R.val (.int (newW k ((2^p.1.toNat:Nat):Int) (ws.getD i.toNat 0) (ws.getD j.toNat 0) n))= .val .non,rt:=fun r'=>r'= .val (.int (newW k ((2^p.1.toNat:Nat):Int) (ws.getD i.toNat 0) (ws.getD j.toNat 0) n))}; have t_put:=sI k k10; have t_not:=yA k k10; have t_up:=nm_up k k10; have t_dn:=zP k k10; refine aH (cF (d:= .int ((2^p.1.toNat:Nat):Int)) 3 nd rfl (Or.inl rfl) (zI (PEd.ic (cJ (n:=0) (d:= .int p.1) (aB 0 rfl (pv 0)) aZ rfl fun _ _=>rfl) e1) (by omega)) ?_)
 by_cases k6:k<6
 ·have es:iU k i j n= .tup [.str (nm k), .int i, .int j]:=by unfold iU; rw [if_pos k6]
  have en:newW k ((2^p.1.toNat:Nat):Int) (ws.getD i.toNat 0) (ws.getD j.toNat 0) n=zG k ((2^p.1.toNat:Nat):Int) (ws.getD i.toNat 0) (ws.getD j.toNat 0):=by unfold newW; rw [if_neg (by omega),if_neg (by omega)]
  rw [es,en]; refine aH (cF (d:= .str (nm k)) 4 nd rfl (Or.inl rfl) (cJ (n:=0) (aB 1 rfl (pv 1)) aZ rfl fun _ _=>rfl) ?_); refine aH (cF (d:= .int (ws.getD i.toNat 0)) 5 nd rfl (Or.inl rfl) (nT (i:=i) (aB 2 rfl (pv 2)) (cJ (n:=1) (aB 1 rfl (pv 1)) aZ rfl fun _ _=>rfl) i0.1 ai fun _ _=>rfl) ?_); refine aH (eR (cQ (aB 4 rfl (pv 4)) cW rfl rfl rfl t_put) (decide_eq_false (by omega)) (cM ?_)); refine aH (eR (cQ (aB 4 rfl (pv 4)) cW rfl rfl rfl t_not) (decide_eq_false (by omega)) (cM ?_)); refine aH (eR (cQ (aB 4 rfl (pv 4)) cW rfl rfl rfl t_up) (decide_eq_false (by omega)) (cM ?_)); refine aH (eR (cQ (aB 4 rfl (pv 4)) cW rfl rfl rfl t_dn) (decide_eq_false (by omega)) (cM ?_)); refine aH (cF (d:= .int (ws.getD j.toNat 0)) 6 nd rfl (Or.inl rfl) (nT (i:=j) (aB 2 rfl (pv 2)) (cJ (n:=2) (aB 1 rfl (pv 1)) aZ rfl fun _ _=>rfl) j0.1 aj fun _ _=>rfl) ?_)
  by_cases k0':k=0
  ·refine aH (iA (cQ (aB 4 rfl (pv 4)) cW rfl rfl rfl (nm_and k k10)) (decide_eq_true k0') (bD (bQ (gI op_and (aB 5 rfl (pv 5)) (aB 6 rfl (pv 6))) trivial ?_))); rw [k0']; rfl
  refine aH (eR (cQ (aB 4 rfl (pv 4)) cW rfl rfl rfl (nm_and k k10)) (decide_eq_false k0') (cM ?_))
  by_cases k1':k=1
  ·refine aH (iA (cQ (aB 4 rfl (pv 4)) cW rfl rfl rfl (nm_or k k10)) (decide_eq_true k1') (bD (bQ (gI op_or (aB 5 rfl (pv 5)) (aB 6 rfl (pv 6))) trivial ?_))); rw [k1']; rfl
  refine aH (eR (cQ (aB 4 rfl (pv 4)) cW rfl rfl rfl (nm_or k k10)) (decide_eq_false k1') (cM ?_))
  by_cases k2':k=2
  ·refine aH (iA (cQ (aB 4 rfl (pv 4)) cW rfl rfl rfl (nm_xor k k10)) (decide_eq_true k2') (bD (bQ (gI op_xor (aB 5 rfl (pv 5)) (aB 6 rfl (pv 6))) trivial ?_))); rw [k2']; rfl
  refine aH (eR (cQ (aB 4 rfl (pv 4)) cW rfl rfl rfl (nm_xor k k10)) (decide_eq_false k2') (cM ?_))
  by_cases k3':k=3
  ·refine aH (iA (cQ (aB 4 rfl (pv 4)) cW rfl rfl rfl (nm_add k k10)) (decide_eq_true k3') (bD (bQ (cX fX (gI iX (aB 5 rfl (pv 5)) (aB 6 rfl (pv 6))) (aB 3 rfl (pv 3)) m0) trivial ?_))); rw [k3']; rfl
  refine aH (eR (cQ (aB 4 rfl (pv 4)) cW rfl rfl rfl (nm_add k k10)) (decide_eq_false k3') (cM ?_))
  by_cases k4':k=4
  ·refine aH (iA (cQ (aB 4 rfl (pv 4)) cW rfl rfl rfl (zO k k10)) (decide_eq_true k4') (bD (bQ (cX fX (gI pQ (aB 5 rfl (pv 5)) (aB 6 rfl (pv 6))) (aB 3 rfl (pv 3)) m0) trivial ?_))); rw [k4']; rfl
  refine aH (eR (cQ (aB 4 rfl (pv 4)) cW rfl rfl rfl (zO k k10)) (decide_eq_false k4') (cM ?_)); have k5:k=5:=by omega
  refine bD (bQ (aB 6 rfl (pv 6)) trivial ?_); rw [k5]; rfl
 by_cases k6':k=6
 ·have es:iU k i j n= .tup [.str (nm k), .int i, .int n]:=by unfold iU; rw [if_neg k6,if_pos k6']
  rw [es]; refine aH (cF (d:= .str (nm k)) 4 nd rfl (Or.inl rfl) (cJ (n:=0) (aB 1 rfl (pv 1)) aZ rfl fun _ _=>rfl) ?_); refine aH (cF (d:= .int (ws.getD i.toNat 0)) 5 nd rfl (Or.inl rfl) (nT (i:=i) (aB 2 rfl (pv 2)) (cJ (n:=1) (aB 1 rfl (pv 1)) aZ rfl fun _ _=>rfl) i0.1 ai fun _ _=>rfl) ?_); refine aH (iA (cQ (aB 4 rfl (pv 4)) cW rfl rfl rfl t_put) (decide_eq_true k6') (bD (bQ (cJ (n:=2) (aB 1 rfl (pv 1)) aZ rfl fun _ _=>rfl) trivial ?_))); rw [k6']; rfl
 have es:iU k i j n= .tup [.str (nm k), .int i]:=by unfold iU; rw [if_neg k6,if_neg k6']
 rw [es]; refine aH (cF (d:= .str (nm k)) 4 nd rfl (Or.inl rfl) (cJ (n:=0) (aB 1 rfl (pv 1)) aZ rfl fun _ _=>rfl) ?_); refine aH (cF (d:= .int (ws.getD i.toNat 0)) 5 nd rfl (Or.inl rfl) (nT (i:=i) (aB 2 rfl (pv 2)) (cJ (n:=1) (aB 1 rfl (pv 1)) aZ rfl fun _ _=>rfl) i0.1 ai fun _ _=>rfl) ?_); refine aH (eR (cQ (aB 4 rfl (pv 4)) cW rfl rfl rfl t_put) (decide_eq_false (by omega)) (cM ?_))
 by_cases k7:k=7
 ·refine aH (iA (cQ (aB 4 rfl (pv 4)) cW rfl rfl rfl t_not) (decide_eq_true k7) (bD (bQ (gI pQ (gI pQ (aB 3 rfl (pv 3)) aZ) (aB 5 rfl (pv 5))) trivial ?_))); rw [k7]; rfl
 refine aH (eR (cQ (aB 4 rfl (pv 4)) cW rfl rfl rfl t_not) (decide_eq_false k7) (cM ?_))
 by_cases k8:k=8
 ·refine aH (iA (cQ (aB 4 rfl (pv 4)) cW rfl rfl rfl t_up) (decide_eq_true k8) (bD (bQ (PEd.ic (cX fX (cX op_mul aZ (aB 5 rfl (pv 5)) (.inl ⟨by decide,by decide⟩)) (aB 3 rfl (pv 3)) m0) (by rw [Int.mul_comm])) trivial ?_))); rw [k8]; rfl
 refine aH (eR (cQ (aB 4 rfl (pv 4)) cW rfl rfl rfl t_up) (decide_eq_false k8) (cM ?_)); have k9:k=9:=by omega
 refine aH (iA (cQ (aB 4 rfl (pv 4)) cW rfl rfl rfl t_dn) (decide_eq_true k9) (bD (bQ (cX vP (aB 5 rfl (pv 5)) aZ ⟨by decide,by decide⟩) trivial ?_))); rw [k9]; rfl
theorem sq_one45 (q:SQ):∃es,sqD q= .tup (.str (nm q.1):: .int q.2.1::es):=by
 show ∃es,iU _ _ _ _=_; unfold iU
 split
 ·exact ⟨_,rfl⟩
 ·split
  ·exact ⟨_,rfl⟩
  ·exact ⟨_,rfl⟩
theorem ok_aft41 (F:Fun K "_law_after" "_law_after" sAft f fd) (hm:mg "_law_after"=some (.ref f)) (GW:bK P w K mg base "_law_word" 1 3 CLw45):bK P w K mg base "_law_after" 2 3 CAft45:=by
 have nd:(["_law_size_here","_law_step","_law_filling"]:List Str).Nodup:=by decide+kernel
 refine dU (N:=["_law_size_here","_law_step","_law_filling"]) (ps:=["_law_size_here","_law_step","_law_filling"]) (k:=1) F ⟨rfl,rfl,rfl,nd,rfl,by decide+kernel,by decide+kernel⟩ hm (fun _ _ _ _ _ _ us hl=>match us,hl with | [_,_,_],_=>rfl) fun cdv A outer s H E hr ds r hl c=> ?_
 obtain ⟨p,q,ws,O,G,rfl,rfl⟩:=c; obtain ⟨h1,h2,h3,h4,h5⟩:=pX p O.sz; have wl:=G.len; have i0:=O.i0; have li:q.2.1.toNat<ws.length:=by omega
 have ei:q.2.1=((q.2.1.toNat:Nat):Int):=by omega
 obtain ⟨es0,es1⟩:=sq_one45 q; have bx:∀ {X:Cx} {sd:List Slot} {a:Expr} {n0:Nat} {p1 p2:Pos},PEd X sd a (.val (sqD q))→PEd X sd (.Subscript a (.Constant (.int 1) n0 p1) p2) (.val (.int ((q.2.1.toNat:Nat):Int))):=fun ha=>PEd.ic (cJ (n:=1) (ds:= .str (nm q.1):: .int q.2.1::es0) (PEd.cast ha (by rw [es1])) aZ rfl fun _ _=>rfl) ei
 refine bD (bQ (PEd.cast (lS (lS (vM (ol:=none) (oh:=some ((q.2.1.toNat:Nat):Int)) (aB 2 rfl (pv 2)) trivial (bx (aB 1 rfl (pv 1))) ?_) (fP (ds:=[.int (nwQ p q ws)]) (aD (bR (ds:=[cH p,sqD q,aV ws]) GW hr rfl (aD (aB 0 rfl (pv 0)) (aD (aB 1 rfl (pv 1)) (aD (aB 2 rfl (pv 2)) aP))) ⟨p,q,ws,O,G,rfl,rfl⟩ trivial rfl) aP) (aJ rfl)) ?_) (vM (ol:=some (((q.2.1.toNat:Nat):Int)+1)) (oh:=none) (aB 2 rfl (pv 2)) (gI iX (bx (aB 1 rfl (pv 1))) aZ) trivial ?_) ?_) ?_) trivial rfl)
 ·rw [HT.sIx_nat,aC]; omega
 ·rw [rO ws li]; simp only [aC,dD,bU,gR]; omega
 ·have e:(((q.2.1.toNat:Nat):Int)+1)=((q.2.1.toNat+1:Nat):Int):=by push_cast; rfl
  rw [e,HT.sIx_nat,aC]; omega
 ·rw [rO ws li,qP ws li]; simp only [aW,aC,dD,gZ,bU,gR]; omega
 ·rw [rO ws li,qP ws li]; unfold aV onQ; rw [sM,if_pos li]; simp
theorem nm_at45:∀k:Nat,k<10→([.str "and", .str "or", .str "xor", .str "add", .str "take", .str "copy", .str "put", .str "not", .str "up", .str "down"]:List D)[k]? =some (.str (nm k)):=by
 intro k hk
 match k,hk with
 | 0,_=>rfl
 | 1,_=>rfl
 | 2,_=>rfl
 | 3,_=>rfl
 | 4,_=>rfl
 | 5,_=>rfl
 | 6,_=>rfl
 | 7,_=>rfl
 | 8,_=>rfl
 | 9,_=>rfl
theorem ok_dr41 (F:Fun K "_law_drawn" "_law_drawn" sDrawn f fd) (hm:mg "_law_drawn"=some (.ref f)) (GM:bK P w K mg base "_law_mixed" 1 2 CMx):bK P w K mg base "_law_drawn" 2 2 CDr45:=by
 have nd:(["_law_size_here","_law_cell","_law_name","_law_i"]:List Str).Nodup:=by decide+kernel
 refine dU (N:=["_law_size_here","_law_cell","_law_name","_law_i"]) (ps:=["_law_size_here","_law_cell"]) (k:=1) F ⟨rfl,rfl,rfl,nd,rfl,by decide+kernel,by decide+kernel⟩ hm (fun _ _ _ _ _ _ us hl=>match us,hl with | [_,_],_=>rfl) fun cdv A outer s H E hr ds r hl c=> ?_
 obtain ⟨p,c,hp,rfl,rfl⟩:=c; obtain ⟨h1,h2,h3,h4,h5⟩:=pX p hp; have m0:=pw0 p.1.toNat; have e1:p.1=((p.1.toNat:Nat):Int):=by omega
 have p20:(0:Int)<p.2:=by omega
 have d0:=dY (mxS c 1) (show (10:Int)≠0 by decide); have d1:=cS (mxS c 1) (show (0:Int)<10 by decide); have mx:∀ {sd:List Slot} {j0:Nat} {p1 p2 p3 p4:Pos} (k:Nat),k≤400→sd[1]? =some (.val (.int c))→PEd (nL CX0 P w K mg base ["_law_size_here","_law_cell","_law_name","_law_i"] "_law_drawn" (bC sDrawn) f cdv A outer s H E).nox sd (.Call (.Name "_law_mixed" p1) [.Name "_law_cell" p2, .Constant (.int (k:Int)) j0 p4] [] p3) (.val (.int (mxS c k))):=fun k hk hs=>bR (ds:=[.int c, .int (k:Int)]) GM hr rfl (aD (aB 1 hs (pv 1)) (aD aZ aP)) ⟨c,k,rfl,hk,rfl⟩ trivial rfl
 refine aH (cF (d:= .str (nm (mxS c 1%10).toNat)) 2 nd rfl (Or.inl rfl) (qO (i:=mxS c 1%10) (ds:=[.str "and", .str "or", .str "xor", .str "add", .str "take", .str "copy", .str "put", .str "not", .str "up", .str "down"]) (PEd.bor (PEd.val (jQ (ds:=[.str "and", .str "or", .str "xor", .str "add", .str "take", .str "copy", .str "put", .str "not", .str "up", .str "down"]) ?_ (aJ rfl)))) (cX fX (mx 1 (by decide) rfl) aZ (by decide)) d0 (nm_at45 _ (by omega)) fun _ _=>rfl) ?_)
 ·show PAd _ _ _ [.val (.str "and"), .val (.str "or"), .val (.str "xor"), .val (.str "add"), .val (.str "take"), .val (.str "copy"), .val (.str "put"), .val (.str "not"), .val (.str "up"), .val (.str "down")]
  repeat' (first | exact aP | refine aD cW ?_)
 refine aH (cF (d:= .int (mxS c 2%p.2)) 3 nd rfl (Or.inl rfl) (cX fX (mx 2 (by decide) rfl) (cJ (n:=1) (d:= .int p.2) (aB 0 rfl (pv 0)) aZ rfl fun _ _=>rfl) p20) ?_); have k10:(mxS c 1%10).toNat<10:=by omega
 show PSd _ _ _ {nx:=fun _=>R.val (iU (mxS c 1%10).toNat (mxS c 2%p.2) (mxS c 4%p.2) (mxS c 3%((2^p.1.toNat:Nat):Int)))= .val .non,rt:=fun r'=>r'= .val (iU (mxS c 1%10).toNat (mxS c 2%p.2) (mxS c 4%p.2) (mxS c 3%((2^p.1.toNat:Nat):Int)))}; generalize (mxS c 1%10).toNat=k at *
 by_cases k6:k=6
 ·refine aH (iA (cQ (aB 2 rfl (pv 2)) cW rfl rfl rfl (sI k k10)) (decide_eq_true k6) (bD (bQ (fP (ds:=[.str (nm k), .int (mxS c 2%p.2), .int (mxS c 3%((2^p.1.toNat:Nat):Int))]) (aD (aB 2 rfl (pv 2)) (aD (aB 3 rfl (pv 3)) (aD (cX fX (mx 3 (by decide) rfl) (zI (PEd.ic (cJ (n:=0) (d:= .int p.1) (aB 0 rfl (pv 0)) aZ rfl fun _ _=>rfl) e1) (by omega)) m0) aP))) (aJ rfl)) trivial ?_))); show R.val _=R.val _; unfold iU; rw [if_neg (by omega),if_pos k6]
 refine aH (eR (cQ (aB 2 rfl (pv 2)) cW rfl rfl rfl (sI k k10)) (decide_eq_false k6) (cM ?_))
 by_cases k7:7≤k
 ·refine aH (iA (PWd.pt (rS (cQ (aB 2 rfl (pv 2)) cW rfl rfl rfl (yA k k10)) fun _=>rS (cQ (aB 2 rfl (pv 2)) cW rfl rfl rfl (nm_up k k10)) fun _=>tN (cQ (aB 2 rfl (pv 2)) cW rfl rfl rfl (zP k k10)))) (by rcases (by omega:k=7∨k=8∨k=9) with h | h | h<;>simp [h]) (bD (bQ (fP (ds:=[.str (nm k), .int (mxS c 2%p.2)]) (aD (aB 2 rfl (pv 2)) (aD (aB 3 rfl (pv 3)) aP)) (aJ rfl)) trivial ?_)))
  show R.val _=R.val _; unfold iU; rw [if_neg (by omega),if_neg k6]
 refine aH (eR (PWd.pt (rS (cQ (aB 2 rfl (pv 2)) cW rfl rfl rfl (yA k k10)) fun _=>rS (cQ (aB 2 rfl (pv 2)) cW rfl rfl rfl (nm_up k k10)) fun _=>tN (cQ (aB 2 rfl (pv 2)) cW rfl rfl rfl (zP k k10)))) (by
  have a1:¬ k=7:=by omega
  have a2:¬ k=8:=by omega
  have a3:¬ k=9:=by omega
  simp [a1,a2,a3]) (cM ?_))
 refine bD (bQ (fP (ds:=[.str (nm k), .int (mxS c 2%p.2), .int (mxS c 4%p.2)]) (aD (aB 2 rfl (pv 2)) (aD (aB 3 rfl (pv 3)) (aD (cX fX (mx 4 (by decide) rfl) (cJ (n:=1) (d:= .int p.2) (aB 0 rfl (pv 0)) aZ rfl fun _ _=>rfl) p20) aP))) (aJ rfl)) trivial ?_); show R.val _=R.val _; unfold iU; rw [if_pos (by omega)]
theorem ok_lmv41 (F:Fun K "_law_moves" "_law_moves" sLMv f fd) (hm:mg "_law_moves"=some (.ref f)) (GF:bK P w K mg base "_law_fillings" 1 1 CLFill) (GA:bK P w K mg base "_law_after" 2 3 CAft45):bK P w K mg base "_law_moves" 3 2 (CLMv P w K):=by
 have nd:(["_law_size_here","_law_kit_here","_law_moves_here","_law_step","_law_price_here","_law_made","_law_filling"]:List Str).Nodup:=by decide+kernel
 refine dU (N:=["_law_size_here","_law_kit_here","_law_moves_here","_law_step","_law_price_here","_law_made","_law_filling"]) (ps:=["_law_size_here","_law_kit_here"]) (k:=2) F ⟨rfl,rfl,rfl,nd,rfl,by decide+kernel,by decide+kernel⟩ hm (fun _ _ _ _ _ _ us hl=>match us,hl with | [_,_],_=>rfl) fun cdv A outer s H E hr ds r hl c=> ?_
 obtain ⟨p,L,hp,S,rfl,rfl⟩:=c; have hr1:=hr.mono (show 1≤2 by decide); have hu:(A.deeper (envOfC "_law_moves" (bC sLMv) s.heap.objs.size f cdv)).units+2<cLine:=by have:=hr.un; omega
 have f9:(cT p).length≤64:=kY hp; have l8:=S.le; refine aH (gA (ds:=[]) 2 nd rfl (Or.inl rfl) (jQ (ds:=[]) aP (cD _)) fun l2=> ?_); refine aH (iF (ds:=L.map skD) (fun t sd=>sd=[.val (cH p), .val (.lst (L.map skD)), .own l2 ((L.take t).map (mgD P w K p)), .un, .un, .un, .un]) (eV (aB 1 rfl (pv 1))) ⟨_,Le.refl _,rfl⟩ (fun t d sdt hd ht=> ?_) fun sdn hn=> ?_)
 ·obtain ⟨sk,hsk,rfl,et⟩:=mV hd; have O:=(S.st sk (bB hsk)).1; have tk:((L.take t).map (mgD P w K p)).length≤1000:=by rw [aC,dD]; omega
  rw [et,bF]; subst ht; generalize (L.take t).map (mgD P w K p)=vs at tk; refine ⟨[.val (cH p), .val (.lst (L.map skD)), .own l2 vs, .val (sqD sk.1), .val (.int sk.2), .un, .un],kU (ds:=[sqD sk.1, .int sk.2]) (js:=[3,4]) rfl (eZ (bW (i:=3) nd rfl (Or.inl rfl)) (eZ (bW (i:=4) nd rfl (Or.inl rfl)) kR)) rfl rfl, ?_⟩; refine aH (psd_newG (hkT P w) 5 nd rfl (Or.inl rfl) fun l5=> ?_); refine aH (iF (ds:=(cT p).map aV) (fun m sd=>sd=[.val (cH p), .val (.lst (L.map skD)), .own l2 vs, .val (sqD sk.1), .val (.int sk.2),oG (hkT P w) K l5 (((cT p).take m).map inK) (((cT p).take m).map fun ws=>aV (onQ p sk.1 ws)), .un]) (eV (PEd.val (bR (ds:=[cH p]) GF hr1 rfl (aD (aB 0 rfl (pv 0)) aP) ⟨p,hp,rfl,rfl⟩ trivial rfl))) ⟨_,Le.refl _,rfl⟩ (fun m d sdm hd hm=> ?_) fun sdn hn=> ?_)
  ·obtain ⟨ws,hws,rfl,em⟩:=mV hd; have G:=nR hp (bB hws)
   have nk:inK ws∉((cT p).take m).map inK:=fun z=>by obtain ⟨y,y1,y2⟩:=aQ.mp z; rw [inK_inj y2] at y1; exact nd_take (filA_nd45 hp) hws y1
   have tk2:(((cT p).take m).map fun ws=>aV (onQ p sk.1 ws)).length≤1000:=by rw [aC,dD]; omega
   rw [em,bF,bF]; subst hm; generalize ((cT p).take m).map inK=ks at nk; generalize ((cT p).take m).map (fun ws=>aV (onQ p sk.1 ws))=us at tk2; refine ⟨[.val (cH p), .val (.lst (L.map skD)), .own l2 vs, .val (sqD sk.1), .val (.int sk.2),oG (hkT P w) K l5 ks us, .val (aV ws)],cU 6 (bW (i:=6) nd rfl (Or.inl rfl)), ?_⟩; exact bD (psd_putG (hk:=hkT P w) (k:=inK ws) (d:=aV (onQ p sk.1 ws)) 5 hu rfl (pv 5) (bR (ds:=[cH p,sqD sk.1,aV ws]) GA hr rfl (aD (aB 0 rfl (pv 0)) (aD (aB 3 rfl (pv 3)) (aD (aB 6 rfl (pv 6)) aP))) ⟨p,sk.1,ws,O,G,rfl,rfl⟩ trivial rfl) (PEd.cast (aB 6 rfl (pv 6)) (by rw [show (hkT P w).dat (inK ws)=tD (inK ws) from rfl,inK_D])) nk tk2 ⟨[.val (cH p), .val (.lst (L.map skD)), .own l2 vs, .val (sqD sk.1), .val (.int sk.2),oG (hkT P w) K l5 (ks++[inK ws]) (us++[aV (onQ p sk.1 ws)]), .un],⟨.inr rfl, .inr rfl, .inr rfl, .inr rfl, .inr rfl, .inr rfl, .inl rfl,trivial⟩,rfl⟩)
  ·subst hn; rw [aC,eY]; refine psd_frzG 5 rfl ?_; refine bD (pS (d:=mgD P w K p sk) 2 rfl (pv 2) (aB 5 rfl (pv 5)) tk ?_); exact ⟨[.val (cH p), .val (.lst (L.map skD)), .own l2 (vs++[mgD P w K p sk]), .un, .un, .un, .un],⟨.inr rfl, .inr rfl, .inr rfl, .inl rfl, .inl rfl, .inl rfl, .inl rfl,trivial⟩,rfl⟩
 ·subst hn; rw [aC,eY]; exact bD (oP 2 rfl (pv 2) rfl)
theorem ok_size51 (F:Fun K "_law_size" "_law_size" sSize f fd) (hm:mg "_law_size"=some (.ref f)) (GM:bK P w K mg base "_law_mixed" 1 2 CMx):bK P w K mg base "_law_size" 2 1 CSz51:=by
 have nd:(["_law_cell"]:List Str).Nodup:=by decide+kernel
 refine dU (N:=["_law_cell"]) (ps:=["_law_cell"]) (k:=1) F ⟨rfl,rfl,rfl,nd,rfl,by decide+kernel,by decide+kernel⟩ hm (fun _ _ _ _ _ _ us hl=>match us,hl with | [_],_=>rfl) fun cdv A outer s H E hr ds r hl c=> ?_
 obtain ⟨c,rfl,rfl⟩:=c; obtain ⟨h1,h0⟩:=iE (mxS c 30) (n:=8) (by decide)
 have g:(sz8L.map cH)[(mxS c 30%8).toNat]? =some (cH (sz8L.getD (mxS c 30%8).toNat (1,1))):=by have hl:(mxS c 30%8).toNat<sz8L.length:=h1; rw [bJ]; simp [bS,hl]
 refine bD (bQ (qO (i:=mxS c 30%8) (ds:=sz8L.map cH) (PEd.bor (PEd.val (jQ (ds:=sz8L.map cH) ?_ (aJ rfl)))) (cX fX (bR (ds:=[.int c, .int ((30:Nat):Int)]) GM hr rfl (aD (aB 0 rfl (pv 0)) (aD aZ aP)) ⟨c,30,rfl,by decide,rfl⟩ trivial rfl) aZ (by decide)) h0 g fun _ _=>rfl) trivial rfl); show PAd _ _ _ ([.tup [.int 1, .int 1], .tup [.int 1, .int 2], .tup [.int 2, .int 1], .tup [.int 2, .int 2], .tup [.int 1, .int 3], .tup [.int 3, .int 1], .tup [.int 1, .int 4], .tup [.int 4, .int 1]].map R.val)
 repeat' (first | exact aP | refine aD (fP (ds:=[.int _, .int _]) (aD aZ (aD aZ aP)) (aJ rfl)) ?_)
noncomputable def sP:D→D
 | .tup [a,_]=>a
 | d=>d
noncomputable def two45:D→List Slot
 | .tup [a,b]=>[.val a, .val b]
 | _=>[.un, .un]
theorem ok_kit41 (F:Fun K "_law_kit" "_law_kit" sKit f fd) (zrange:mg "range"=none) (zint:mg "int"=none) (hm:mg "_law_kit"=some (.ref f)) (GC:bK P w K mg base "_law_cell_at" 1 2 CCell) (GM:bK P w K mg base "_law_mixed" 1 2 CMx) (GD:bK P w K mg base "_law_drawn" 2 2 CDr45):bK P w K mg base "_law_kit" 3 3 CKit41:=by
 have nd:(["_law_script","_law_start","_law_size_here","_law_head","_law_factor","_law_many","_law_kit_here","_law_k","_law_cell","_law_step"]:List Str).Nodup:=by decide+kernel
 have nd3:(["_law_one","_law_price_here"]:List Str).Nodup:=by decide+kernel
 refine dU (N:=["_law_script","_law_start","_law_size_here","_law_head","_law_factor","_law_many","_law_kit_here","_law_k","_law_cell","_law_step"]) (ps:=["_law_script","_law_start","_law_size_here"]) (k:=2) F ⟨rfl,rfl,rfl,nd,rfl,by decide+kernel,by decide+kernel⟩ hm (fun _ _ _ _ _ _ us hl=>match us,hl with | [_,_,_],_=>rfl) fun cdv A outer s H E hr ds r hl c=> ?_
 obtain ⟨p,ns,st,hp,hst,rfl,rfl⟩:=c; have hr1:=hr.mono (show 1≤2 by decide); have hu:(A.deeper (envOfC "_law_kit" (bC sKit) s.heap.objs.size f cdv)).units+4<cLine:=by have:=hr.un; omega
 have mx:∀ {sd:List Slot} {x:Str} {p1 p2 p3 p4:Pos} {j1:Nat} (i:Nat) (c:Int) (k:Nat),k≤400→sd[i]? =some (.val (.int c))→PE (nL CX0 P w K mg base ["_law_script","_law_start","_law_size_here","_law_head","_law_factor","_law_many","_law_kit_here","_law_k","_law_cell","_law_step"] "_law_kit" (bC sKit) f cdv A outer s H E).nox (.Name x p2) (mG i)→PEd (nL CX0 P w K mg base ["_law_script","_law_start","_law_size_here","_law_head","_law_factor","_law_many","_law_kit_here","_law_k","_law_cell","_law_step"] "_law_kit" (bC sKit) f cdv A outer s H E).nox sd (.Call (.Name "_law_mixed" p1) [.Name x p2, .Constant (.int (k:Int)) j1 p3] [] p4) (.val (.int (mxS c k))):=fun i c k hk hs hx=>bR (ds:=[.int c, .int (k:Int)]) GM hr1 rfl (aD (aB i hs hx) (aD aZ aP)) ⟨c,k,rfl,hk,rfl⟩ trivial rfl
 refine aH (cF (d:= .int (ns.getD st 0)) 3 nd rfl (Or.inl rfl) (bR (ds:=[.scr ns, .int (st:Int)]) GC hr1 rfl (aD (aB 0 rfl (pv 0)) (aD (aB 1 rfl (pv 1)) aP)) ⟨ns,st,rfl,by omega,rfl⟩ trivial rfl) ?_); have eK:uO p ns st=fY p ns st (mM (ns.getD st 0)) (nH (ns.getD st 0)):=rfl; rw [eK]; generalize ns.getD st 0=c; have hf:=vZ c; obtain ⟨m1,m2⟩:=xD c; have eF:(([1,1,3]:List Int).map D.int)[(mxS c 10%3).toNat]? =some (.int (mM c)):=uV (show (mxS c 10%3).toNat<([1,1,3]:List Int).length from (iE (mxS c 10) (n:=3) (by decide)).1); refine aH (cF (d:= .int (mM c)) 4 nd rfl (Or.inl rfl) (qO (i:=mxS c 10%3) (ds:=([1,1,3]:List Int).map D.int) (PEd.bor (PEd.val (jQ (ds:=[.int 1, .int 1, .int 3]) (aD aZ (aD aZ (aD aZ aP))) (aJ rfl)))) (cX fX (mx 3 c 10 (by decide) rfl (pv 3)) aZ (by decide)) (iE (mxS c 10) (n:=3) (by decide)).2 eF fun _ _=>rfl) ?_); refine aH (cF (d:= .int ((nH c:Nat):Int)) 5 nd rfl (Or.inl rfl) (PEd.ic (gI iX (gI iX aZ (cX fX (mx 3 c 11 (by decide) rfl (pv 3)) aZ (by decide))) (pd_intB rfl zint (pd_eqI (cX fX (mx 3 c 12 (by decide) rfl (pv 3)) aZ (by decide)) aZ))) ?_) ?_)
 ·have h0:=(iE (mxS c 11) (n:=4) (by decide)).2; have h0:0≤mxS c 11%4:=h0; unfold nH
  by_cases h:mxS c 12%8=1
  ·rw [if_pos h,if_pos (decide_eq_true h)]; omega
  ·rw [if_neg h,if_neg (by simpa using h)]; omega
 generalize mM c=fc at hf; generalize nH c=mn at m1 m2; refine aH (gA (ds:=([]:List SK).map skD) 6 nd rfl (Or.inl rfl) (jQ (ds:=[]) aP (cD _)) fun l3=> ?_); refine aH (iF (ds:=gO 0 mn) (fun t sd=>sd=[.val (.scr ns), .val (.int (st:Int)), .val (cH p), .un, .val (.int fc), .un, .own l3 ((fY p ns st fc t).map skD), .un, .un, .un]) (kB (n:=mn) rfl zrange (aB 5 rfl (pv 5)) (by omega)) ⟨[.val (.scr ns), .val (.int (st:Int)), .val (cH p), .un, .val (.int fc), .un, .own l3 ((fY p ns st fc 0).map skD), .un, .un, .un],⟨.inr rfl, .inr rfl, .inr rfl, .inl rfl, .inr rfl, .inl rfl, .inr rfl, .inr rfl, .inr rfl, .inr rfl,trivial⟩,rfl⟩ (fun t d sdt hd ht=> ?_) fun sdn hn=> ?_)
 ·subst ht; obtain ⟨ht,rfl⟩:=kF hd; rw [oR]; refine ⟨[.val (.scr ns), .val (.int (st:Int)), .val (cH p), .un, .val (.int fc), .un, .own l3 ((fY p ns st fc t).map skD), .val (.int (t:Int)), .un, .un],cU 7 (bW (i:=7) nd rfl (Or.inl rfl)), ?_⟩; have ll:(fY p ns st fc t).length≤5:=cE (rX hp ns st hf t).1 (by omega); have eN:fY p ns st fc (t+1)=if vE (fY p ns st fc t) (drQ p (ns.getD (st+1+t) 0)) then fY p ns st fc t else fY p ns st fc t++[(drQ p (ns.getD (st+1+t) 0),fc * xZ (ns.getD (st+1+t) 0))]:=rfl
  rw [eN]; refine aH (cF (d:= .int (ns.getD (st+1+t) 0)) 8 nd rfl (Or.inl rfl) (bR (ds:=[.scr ns, .int ((st+1+t:Nat):Int)]) GC hr1 rfl (aD (aB 0 rfl (pv 0)) (aD (PEd.ic (gI iX (gI iX (aB 1 rfl (pv 1)) aZ) (aB 7 rfl (pv 7))) (by omega)) aP)) ⟨ns,st+1+t,rfl,by omega,rfl⟩ trivial rfl) ?_); generalize ns.getD (st+1+t) 0=x; generalize fY p ns st fc t=L at *; refine aH (cF (d:=sqD (drQ p x)) 9 nd rfl (Or.inl rfl) (bR (ds:=[cH p, .int x]) GD hr rfl (aD (aB 2 rfl (pv 2)) (aD (aB 8 rfl (pv 8)) aP)) ⟨p,x,hp,rfl,rfl⟩ trivial rfl) ?_); generalize drQ p x=q
  have plc:plL ((L.map skD).map sP)=true∧iM ((L.map skD).map sP)≤1:=by rw [aR]; exact ⟨plL_map (fun s:SK=>sP (skD s)) (fun s=>pl_sq s.1) _,depL_map (fun s:SK=>sP (skD s)) 1 (fun s=>Nat.le_of_eq (dep_sq s.1)) _⟩
  have ef:((L.map skD).filter fun _=>true).map sP=(L.map skD).map sP:=by rw [bZ.mpr (fun _ _=>rfl)]
  have es:((L.map skD).map sP).any (fun z=>deq z (sqD q))=vE L q:=by unfold vE; rw [aR]; rfl
  have pb:=pr41_ok x; have eP:(([1,1,2,3]:List Int).map D.int)[(mxS x 5%4).toNat]? =some (.int (xZ x)):=uV (show (mxS x 5%4).toNat<([1,1,2,3]:List Int).length from (iE (mxS x 5) (n:=4) (by decide)).1); refine bD (hW (k:= !vE L q) (PTd.lend 6 rfl (oth_b rfl) (PTd.cast (ptd_ninD (aB 9 rfl (pv 9)) (PEd.val (PEd.cast (fU (ds:=L.map skD) (N:=["_law_one","_law_price_here"]) (M:=["_law_script","_law_start","_law_size_here","_law_head","_law_factor","_law_many","_law_kit_here","_law_k","_law_cell","_law_step"]) (cap:=[none,none]) (sc:=bC sKit) (Tb:=two45) (fun _=>true) sP (eV (aB 6 rfl (pv 6))) (by rw [aC]; omega) rfl (by decide+kernel) rfl (by decide+kernel) rfl (fun cl C fp s H d hd=> ?_) (fun d hd=> ?_) (fun cl C fp s H d hd=> .inl ⟨rfl,rfl⟩) fun cl C fp s H d hd _=> ?_) (by rw [ef]))) (pl_sq q) plc.1 (by have:=plc.2; show (A.deeper (envOfC "_law_kit" (bC sKit) s.heap.objs.size f cdv)).units+1+_<cLine; omega)) (by rw [es]))) (fun h=> ?_) fun h=> ?_)
  ·obtain ⟨s,_,rfl⟩:=aQ.mp hd; exact kU (js:=[0,1]) rfl (eZ (bW (i:=0) nd3 rfl (Or.inl rfl)) (eZ (bW (i:=1) nd3 rfl (Or.inl rfl)) kR)) rfl rfl
  ·obtain ⟨s,_,rfl⟩:=aQ.mp hd; exact ⟨.inl rfl, .inl rfl,trivial⟩
  ·obtain ⟨s,_,rfl⟩:=aQ.mp hd; exact (aB 0 rfl (pv 0))
  ·have h':vE L q=false:=by simpa using h
   rw [h']; refine bD (pS (d:=skD (q,fc * xZ x)) 6 rfl (pv 6) (fP (ds:=[sqD q, .int (fc * xZ x)]) (aD (aB 9 rfl (pv 9)) (aD (cX jD (aB 4 rfl (pv 4)) (qO (i:=mxS x 5%4) (ds:=([1,1,2,3]:List Int).map D.int) (PEd.bor (PEd.val (jQ (ds:=[.int 1, .int 1, .int 2, .int 3]) (aD aZ (aD aZ (aD aZ (aD aZ aP)))) (aJ rfl)))) (cX fX (mx 8 x 5 (by decide) rfl (pv 8)) aZ (by decide)) (iE (mxS x 5) (n:=4) (by decide)).2 eP fun _ _=>rfl) (jJ (cA (by omega:_≤3) (by decide)) (cA (by omega:_≤3) (by decide)))) aP)) (aJ rfl)) (by rw [aC]; omega) ⟨[.val (.scr ns), .val (.int (st:Int)), .val (cH p), .un, .val (.int fc), .un, .own l3 ((L++[(q,fc * xZ x)]).map skD), .un, .un, .un],⟨.inr rfl, .inr rfl, .inr rfl, .inr rfl, .inr rfl, .inr rfl, .inr ?_, .inl rfl, .inl rfl, .inl rfl,trivial⟩,rfl⟩); rw [bF]; rfl
  ·have h':vE L q=true:=by simpa using h
   rw [h']; exact cM ⟨[.val (.scr ns), .val (.int (st:Int)), .val (cH p), .un, .val (.int fc), .un, .own l3 (L.map skD), .un, .un, .un],⟨.inr rfl, .inr rfl, .inr rfl, .inr rfl, .inr rfl, .inr rfl, .inr rfl, .inl rfl, .inl rfl, .inl rfl,trivial⟩,rfl⟩
 ·subst hn; rw [hX]; refine iS 6 rfl ?_; exact bD (bQ (fP (ds:=[.lst ((fY p ns st fc mn).map skD), .int fc]) (aD (aB 6 rfl (pv 6)) (aD (aB 4 rfl (pv 4)) aP)) (aJ rfl)) trivial rfl)
theorem ok_bnd41 (F:Fun K "_law_bound" "_law_bound" sBnd f fd) (zlen:mg "len"=none) (hm:mg "_law_bound"=some (.ref f)):bK P w K mg base "_law_bound" 1 3 CBnd41:=by
 have nd:(["_law_cell","_law_kit_here","_law_factor"]:List Str).Nodup:=by decide+kernel
 refine dU (N:=["_law_cell","_law_kit_here","_law_factor"]) (ps:=["_law_cell","_law_kit_here","_law_factor"]) (k:=0) F ⟨rfl,rfl,rfl,nd,rfl,by decide+kernel,by decide+kernel⟩ hm (fun _ _ _ _ _ _ us hl=>match us,hl with | [_,_,_],_=>rfl) fun cdv A outer s H E hr ds r hl c=> ?_
 obtain ⟨c,L,fc,l1,l2,hf,rfl,rfl⟩:=c; have g0:∀n:Nat,n<5→([12,5,4,3,2]:List Int).getD n 0=((([12,5,4,3,2]:List Nat).getD n 0:Nat):Int):=by decide+kernel
 have g:∀n:Nat,n<5→(([12,5,4,3,2]:List Int).map D.int)[n]? =some (.int ((([12,5,4,3,2]:List Nat).getD n 0:Nat):Int)):=fun n hn=>by rw [← g0 n hn]; exact uV hn
 have g2:∀n:Nat,n<5→([12,5,4,3,2]:List Nat).getD n 0≤12:=by decide+kernel
 have gm:oA L.length≤12:=g2 _ (by omega); have h0:=dY c (show (oA L.length:Int)+1≠0 by omega); have h1:=cS c (show (0:Int)<(oA L.length:Int)+1 by omega); refine bD (bQ (PEd.ic (gI iX (cX jD (aB 2 rfl (pv 2)) (cX fX (aB 0 rfl (pv 0)) (gI iX (qO (i:=(L.length:Int) - 1) (d:= .int ((oA L.length:Nat):Int)) (ds:=([12,5,4,3,2]:List Int).map D.int) (PEd.bor (PEd.val (jQ (ds:=[.int 12, .int 5, .int 4, .int 3, .int 2]) (aD aZ (aD aZ (aD aZ (aD aZ (aD aZ aP))))) (aJ rfl)))) (gI pQ (PEd.ic (oY rfl zlen (PEd.bor (aB 1 rfl (pv 1)))) (by rw [aC])) aZ) (by omega) ?_ fun _ _=>rfl) aZ) (by omega)) (jJ (cA (by omega:_≤3) (by decide)) (cA (by omega:_≤13) (by decide)))) (cX fX (cX vP (aB 0 rfl (pv 0)) aZ ⟨by decide,by decide⟩) (aB 2 rfl (pv 2)) (by omega))) rfl) trivial rfl); have e:((L.length:Int) - 1).toNat=L.length - 1:=by omega
 rw [e]; exact g _ (by omega)
theorem ok_lpr51 (F:Fun K "_law_price" "_law_price" sLPr f fd) (zsum:mg "sum"=none) (hm:mg "_law_price"=some (.ref f)):bK P w K mg base "_law_price" 1 2 CPr41:=by
 have nd:(["_law_kit_here","_law_row_here"]:List Str).Nodup:=by decide+kernel
 refine dU (N:=["_law_kit_here","_law_row_here"]) (ps:=["_law_kit_here","_law_row_here"]) (k:=0) F ⟨rfl,rfl,rfl,nd,rfl,by decide+kernel,by decide+kernel⟩ hm (fun _ _ _ _ _ _ us hl=>match us,hl with | [_,_],_=>rfl) fun cdv A outer s H E hr ds r hl c=> ?_
 obtain ⟨L,row,hrow,hl2,rfl,rfl⟩:=c; have nd2:(["_law_number","_law_kit_here"]:List Str).Nodup:=by decide+kernel
 have ec:((aY row).filter fun _=>true).map (fun d=>match d with | .int t=>D.int (L.getD t.toNat default).2 | _=> .non)=(prcL L row).map D.int:=by
  rw [bZ.mpr (fun _ _=>rfl)]; unfold aY prcL; rw [aR,aR]; refine bN fun t _=> ?_
  simp
 refine bD (bQ (PEd.ic (pd_sumL (ns:=prcL L row) rfl zsum (PEd.bor (PEd.val (PEd.cast (fU (ds:=aY row) (N:=["_law_number","_law_kit_here"]) (M:=["_law_kit_here","_law_row_here"]) (cap:=[none,some 0]) (sc:=bC sLPr) (Tb:=fun d=>[.val d, .val (.lst (L.map skD))]) (fun _=>true) (fun d=>match d with | .int t=>D.int (L.getD t.toNat default).2 | _=> .non) (kS (aB 1 rfl (pv 1))) (by rw [show (aY row).length=row.length from aC _]; omega) rfl (by decide+kernel) rfl (by decide+kernel) rfl (fun cl C fp s H d _=>cU 0 (bW (i:=0) nd2 rfl (Or.inl rfl))) (fun d _=>⟨.inl rfl, .inr rfl,trivial⟩) (fun cl C fp s H d hd=> .inl ⟨rfl,rfl⟩) fun cl C fp s H d hd _=> ?_) (by rw [ec]))))) (sum_pr L row)) trivial rfl); obtain ⟨t,ht,rfl⟩:=aQ.mp hd; have hn:=hrow t ht; exact cJ (n:=1) (ds:=[sqD (L.getD t default).1, .int (L.getD t default).2]) (lY (n:=t) (PEd.bor (aB 1 rfl (pv 1))) (aB 0 rfl (pv 0)) (sk_get hn) fun _ _=>rfl) aZ rfl fun _ _=>rfl
theorem ok_key51 (F:Fun K "_law_key" "_law_key" sKey f fd) (zlen:mg "len"=none) (hm:mg "_law_key"=some (.ref f)) (GP:bK P w K mg base "_law_price" 1 2 CPr41):bK P w K mg base "_law_key" 2 2 CKey41:=by
 have nd:(["_law_kit_here","_law_row_here"]:List Str).Nodup:=by decide+kernel
 refine dU (N:=["_law_kit_here","_law_row_here"]) (ps:=["_law_kit_here","_law_row_here"]) (k:=1) F ⟨rfl,rfl,rfl,nd,rfl,by decide+kernel,by decide+kernel⟩ hm (fun _ _ _ _ _ _ us hl=>match us,hl with | [_,_],_=>rfl) fun cdv A outer s H E hr ds r hl c=> ?_
 obtain ⟨L,row,ho,rl,rfl,rfl⟩:=c; exact bD (bQ (fP (ds:=[.int (S45.prQ (prK L) row), .int (row.length:Int), .tup (aY row)]) (aD (bR (ds:=[.lst (L.map skD), .tup (aY row)]) GP hr rfl (aD (aB 0 rfl (pv 0)) (aD (aB 1 rfl (pv 1)) aP)) ⟨L,row,ho,rl,rfl,rfl⟩ trivial rfl) (aD (PEd.ic (pd_lenT rfl zlen (aB 1 rfl (pv 1))) (by rw [mQ])) (aD (aB 1 rfl (pv 1)) aP))) (aJ rfl)) trivial rfl)
theorem ok_tab51 (F:Fun K "_law_table" "_law_table" sTab f fd) (ztuple:mg "tuple"=none) (hm:mg "_law_table"=some (.ref f)) (GF:bK P w K mg base "_law_fillings" 1 1 CLFill):bK P w K mg base "_law_table" 2 3 (CTab41 P w K):=by
 have nd:(["_law_size_here","_law_moves_here","_law_row_here","_law_table_here","_law_number"]:List Str).Nodup:=by decide+kernel
 have nd2:(["_law_filling","_law_moves_here","_law_number"]:List Str).Nodup:=by decide+kernel
 refine dU (N:=["_law_size_here","_law_moves_here","_law_row_here","_law_table_here","_law_number"]) (ps:=["_law_size_here","_law_moves_here","_law_row_here"]) (k:=1) F ⟨rfl,rfl,rfl,nd,rfl,by decide+kernel,by decide+kernel⟩ hm (fun _ _ _ _ _ _ us hl=>match us,hl with | [_,_,_],_=>rfl) fun cdv A outer s H E hr ds r hl c=> ?_
 obtain ⟨p,L,row,hp,S,ho,rl,rfl,rfl⟩:=c; have hu:(A.deeper (envOfC "_law_table" (bC sTab) s.heap.objs.size f cdv)).units+2<cLine:=by have:=hr.un; omega
 refine aH (cF (d:= .tup ((cT p).map aV)) 3 nd rfl (Or.inl rfl) (kZ rfl ztuple (PEd.bor (PEd.val (bR (ds:=[cH p]) GF hr rfl (aD (aB 0 rfl (pv 0)) aP) ⟨p,hp,rfl,rfl⟩ trivial rfl)))) ?_); refine aH (iF (ds:=aY row) (fun t sd=>sd=[.val (cH p), .val (.lst (L.map (mgD P w K p))), .val (.tup (aY row)), .val (.tup ((S45.tabQ (jH p L) (cT p) (row.take t)).map aV)), .un]) (kS (aB 2 rfl (pv 2))) ⟨_,Le.refl _,rfl⟩ (fun t d sdt hd ht=> ?_) fun sdn hn=> ?_)
 ·subst ht; obtain ⟨k,hk,rfl,et⟩:=mV hd; have kl:k<L.length:=ho k (bB hk); have hot:fD L (row.take t):=fun i hi=>ho i (pJ hi)
  have tl:=tab45_len hp S hot; have ti:=tab45_in hp S hot; rw [et,S45.tab_snoc]; have eB:∀T,jH p L k T=T.map (onQ p (L.getD k default).1):=fun _=>rfl
  rw [eB]
  have mv1:(L.map (mgD P w K p))[k]? =some (mgD P w K p (L.getD k default)):=by rw [bJ]; simp [bS,kl]
  generalize S45.tabQ (jH p L) (cT p) (row.take t)=tab at tl ti; generalize L.getD k default=sk at mv1; refine ⟨[.val (cH p), .val (.lst (L.map (mgD P w K p))), .val (.tup (aY row)), .val (.tup (tab.map aV)), .val (.int (k:Int))],cU 4 (bW (i:=4) nd rfl (Or.inr rfl)), ?_⟩
  have ec:((tab.map aV).filter fun _=>true).map (fun d=>aV (onQ p sk.1 (iV d)))=(tab.map (onQ p sk.1)).map aV:=by
   rw [bZ.mpr (fun _ _=>rfl),aR,aR]; refine bN fun ws _=> ?_
   show aV (onQ p sk.1 (iV (aV ws)))=_; rw [gM]; rfl
  refine bD (cF (d:= .tup ((tab.map (onQ p sk.1)).map aV)) 3 nd rfl (Or.inl rfl) (kZ rfl ztuple (PEd.bor (PEd.val (PEd.cast (fU (ds:=tab.map aV) (N:=["_law_filling","_law_moves_here","_law_number"]) (M:=["_law_size_here","_law_moves_here","_law_row_here","_law_table_here","_law_number"]) (cap:=[none,some 1,some 4]) (sc:=bC sTab) (Tb:=fun d=>[.val d, .val (.lst (L.map (mgD P w K p))), .val (.int (k:Int))]) (fun _=>true) (fun d=>aV (onQ p sk.1 (iV d))) (kS (aB 3 rfl (pv 3))) (by rw [aC]; omega) rfl (by decide+kernel) rfl (by decide+kernel) rfl (fun cl C fp s H d hd=>cU 0 (bW (i:=0) nd2 rfl (Or.inl rfl))) (fun d hd=>⟨.inl rfl, .inr rfl, .inr rfl,trivial⟩) (fun cl C fp s H d hd=> .inl ⟨rfl,rfl⟩) fun cl C2 fp s H d hd _=> ?_) (by rw [ec]))))) ⟨[.val (cH p), .val (.lst (L.map (mgD P w K p))), .val (.tup (aY row)), .val (.tup ((tab.map (onQ p sk.1)).map aV)), .un],⟨.inr rfl, .inr rfl, .inr rfl, .inr rfl, .inl rfl,trivial⟩,rfl⟩); obtain ⟨ws,hw,rfl⟩:=oN hd; obtain ⟨i,hi⟩:=gS (ti ws hw); rw [gM]; exact pd_subG (hk:=hkT P w) (k:=inK ws) (n:=i) (d:=aV (onQ p sk.1 ws)) hu (pdc_val (lY (n:=k) (PEd.bor (aB 1 rfl (pv 1))) (aB 2 rfl (pv 2)) mv1 fun _ _=>rfl)) (PEd.cast (aB 0 rfl (pv 0)) (by rw [show (hkT P w).dat (inK ws)=tD (inK ws) from rfl,inK_D])) (by rw [bJ,hi]; rfl) (by rw [bJ,hi]; rfl) fun _ _=>rfl
 ·subst hn; rw [mQ,eY]; exact bD (bQ (aB 3 rfl (pv 3)) trivial rfl)
theorem ok_row51 (F:Fun K "_law_row" "_law_row" sRow f fd) (zlen:mg "len"=none) (hm:mg "_law_row"=some (.ref f)) (GP:bK P w K mg base "_law_price" 1 2 CPr41):bK P w K mg base "_law_row" 2 4 CRow51:=by
 have nd:(["_law_script","_law_start","_law_kit_here","_law_bound_here","_law_row_here","_law_cell","_law_number"]:List Str).Nodup:=by decide+kernel
 refine dU (N:=["_law_script","_law_start","_law_kit_here","_law_bound_here","_law_row_here","_law_cell","_law_number"]) (ps:=["_law_script","_law_start","_law_kit_here","_law_bound_here"]) (k:=1) F ⟨rfl,rfl,rfl,nd,rfl,by decide+kernel,by decide+kernel⟩ hm (fun _ _ _ _ _ _ us hl=>match us,hl with | [_,_,_,_],_=>rfl) fun cdv A outer s H E hr ds r hl c=> ?_
 obtain ⟨ns,st,p,L,b,S,hb,hst,n63,hbit,rfl,rfl⟩:=c; have hL:=S.pos; have l8:=S.le; have e0:uY L b ns st=qF L b [] (ns.drop st):=rfl; have cbit:∀c∈ns.drop st,bitI c:=fun c hc=>hbit c (pI hc)
 have cl:(ns.drop st).length≤63:=by rw [gZ]; omega
 have ec:DL.cutD (ns.map D.int) (some (st:Int)) none=(ns.drop st).map D.int:=by rw [cutD_drop,nE]
 rw [e0]; generalize ns.drop st=cs at cbit cl ec; refine aH (cF (d:= .tup (aY [])) 4 nd rfl (Or.inl rfl) (fP (ds:=[]) aP (aJ rfl)) ?_); refine aH (iF (ds:=cs.map D.int) (fun t sd=>∃q,fD L q∧q.length≤t∧qF L b q (cs.drop t)=qF L b [] cs∧sd=[.val (.scr ns), .val (.int (st:Int)), .val (.lst (L.map skD)), .val (.int b), .val (.tup (aY q)), .un, .un]) (eV (PEd.val (PEd.cast (pd_slS (ol:=some (st:Int)) (oh:=none) (aB 0 rfl (pv 0)) (aB 1 rfl (pv 1)) trivial) (by rw [ec])))) ⟨_,Le.refl _,[],fun i hi=>(nomatch hi),aM _,rfl,rfl⟩ (fun t d sdt hd ht=> ?_) fun sdn hn=> ?_)
 ·obtain ⟨q,q1,q2,q3,rfl⟩:=ht; obtain ⟨c,hc,rfl,_⟩:=mV hd; obtain ⟨tl,etc⟩:=aK.mp hc; have cb:=cbit c (bB hc); have ed:cs.drop t=c::cs.drop (t+1):=by rw [dQ tl,etc]
  rw [ed] at q3; have q3:(if b<S45.prQ (prK L) (q++[pE L c]) then q else qF L b (q++[pE L c]) (cs.drop (t+1)))=qF L b [] cs:=q3; have hn:=no41_lt hL c
  have en:((pE L c:Nat):Int)=c * 16807%2147483647%(L.length:Int):=by unfold pE; have:=(iE (c * 16807%2147483647) hL).2; omega
  generalize pE L c=m at q3 hn en; refine ⟨[.val (.scr ns), .val (.int (st:Int)), .val (.lst (L.map skD)), .val (.int b), .val (.tup (aY q)), .val (.int c), .un],cU 5 (bW (i:=5) nd rfl (Or.inl rfl)), ?_⟩; refine aH (cF (d:= .int (m:Int)) 6 nd rfl (Or.inl rfl) (PEd.ic (cX fX (cX fX (cX jD (aB 5 rfl (pv 5)) aZ (mul_bit cb (by decide+kernel))) aZ (by decide)) (PEd.ic (oY rfl zlen (PEd.bor (aB 2 rfl (pv 2)))) (by rw [aC])) (by omega)) en.symm) ?_); have es:aY q++[.int (m:Int)]=aY (q++[m]):=by unfold aY; rw [bF]; rfl
  have ho1:fD L (q++[m]):=fun i hi=>by
   rcases bE.mp hi with hi | hi
   ·exact q1 i hi
   ·rw [aI.mp hi]; exact hn
  have ql:(q++[m]).length≤t+1:=by rw [aW]; show _+1≤_; omega
  have longer:∀ {sd:List Slot} {p1 p2 p3 p4:Pos} {x1:Nat},sd[4]? =some (.val (.tup (aY q)))→sd[6]? =some (.val (.int (m:Int)))→PEd (nL CX0 P w K mg base ["_law_script","_law_start","_law_kit_here","_law_bound_here","_law_row_here","_law_cell","_law_number"] "_law_row" (bC sRow) f cdv A outer s H E).nox sd (.BinOp (.Name "_law_row_here" p1) .Add (.Tuple [.Name "_law_number" p2] x1 p3) p4) (.val (.tup (aY (q++[m])))):=fun h1 h2=>PEd.cast (lS (d1:=aY q) (d2:=[.int (m:Int)]) (aB 4 h1 (pv 4)) (fP (ds:=[.int (m:Int)]) (aD (aB 6 h2 (pv 6)) aP) (aJ rfl)) (by rw [mQ]; show _+1≤1000; omega)) (by rw [es])
  refine aH (hW (k:=decide (b<S45.prQ (prK L) (q++[m]))) (nI op_gt (bR (ds:=[.lst (L.map skD), .tup (aY (q++[m]))]) GP hr rfl (aD (aB 2 rfl (pv 2)) (aD (longer rfl rfl) aP)) ⟨L,q++[m],ho1,by omega,rfl,rfl⟩ trivial rfl) (aB 3 rfl (pv 3)) (hV _)) (fun h=> ?_) fun h=>cM ?_)
  ·rw [if_pos (of_decide_eq_true h)] at q3; rw [← q3]; exact bD (bQ (aB 4 rfl (pv 4)) trivial rfl)
  ·rw [if_neg (of_decide_eq_false h)] at q3; exact bD (cF (d:= .tup (aY (q++[m]))) 4 nd rfl (Or.inl rfl) (longer rfl rfl) ⟨[.val (.scr ns), .val (.int (st:Int)), .val (.lst (L.map skD)), .val (.int b), .val (.tup (aY (q++[m]))), .un, .un],⟨.inr rfl, .inr rfl, .inr rfl, .inr rfl, .inr rfl, .inl rfl, .inl rfl,trivial⟩,q++[m],ho1,ql,q3,rfl⟩)
 ·obtain ⟨q,q1,q2,q3,rfl⟩:=hn; rw [aC,uF] at q3; have q3:q=qF L b [] cs:=q3; rw [← q3]; exact bD (bQ (aB 4 rfl (pv 4)) trivial rfl)
theorem ok_law (F:Fun K "law" "law" mL f fd) (zlen:mg "len"=none) (zrange:mg "range"=none) (zzip:mg "zip"=none) (GC:bK P w K mg base "_law_cell_at" 1 2 CCell) (GX:bK P w K mg base "_law_mixed" 1 2 CMx) (GZ:bK P w K mg base "_law_size" 2 1 CSz51) (GK:bK P w K mg base "_law_kit" 3 3 CKit41) (GB:bK P w K mg base "_law_bound" 1 3 CBnd41) (GM:bK P w K mg base "_law_moves" 3 2 (CLMv P w K)) (GR:bK P w K mg base "_law_row" 2 4 CRow51) (GT:bK P w K mg base "_law_table" 2 3 (CTab41 P w K)) (GA:bK P w K mg base "table_of" 5 3 CTable) (GW:CalleeD P w K mg base "wish_like" 4 3 (CWLike K)) (GL:bK P w K mg base "least_row" 7 4 CLr51) (GO:bK P w K mg base "book_of" 6 3 CBook) (GY:bK P w K mg base "_law_key" 2 2 CKey41):FnOk P w K mg base CX0 8 f fd ["_law_script"] (spC K 1 CLawB):=by
 have nd:(["_law_script","_law_size_here","_law_kit_here","_law_factor","_law_bound_here","_law_moves_here","_law_row_here","_law_table_here","_law_looked","_law_found","_law_one","_law_other","_law_book","_law_there"]:List Str).Nodup:=by decide+kernel
 have nd1:(["_law_box","_law_script"]:List Str).Nodup:=by decide+kernel
 have nd2:(["_law_entry","_law_table_here"]:List Str).Nodup:=by decide+kernel
 have nd3:(["_law_box","_law_one"]:List Str).Nodup:=by decide+kernel
 have nd4:(["_law_box","_law_other"]:List Str).Nodup:=by decide+kernel
 have nd5:(["_law_entry","_law_there"]:List Str).Nodup:=by decide+kernel
 have nd6:(["_law_entry"]:List Str).Nodup:=by decide+kernel
 refine def_fn (N:=["_law_script","_law_size_here","_law_kit_here","_law_factor","_law_bound_here","_law_moves_here","_law_row_here","_law_table_here","_law_looked","_law_found","_law_one","_law_other","_law_book","_law_there"]) (ps:=["_law_script"]) (k:=7) F ⟨rfl,rfl,rfl,nd,rfl,by decide+kernel,by decide+kernel⟩ fun cdv A outer s H E hr ds r hl c=> ?_
 obtain ⟨ns,rfl,n63,hbit,rfl⟩:=c; have hr1:=hr.mono (show 1≤7 by decide); have hr2:=hr.mono (show 2≤7 by decide); have hr3:=hr.mono (show 3≤7 by decide); have hr4:=hr.mono (show 4≤7 by decide); have hr5:=hr.mono (show 5≤7 by decide); have hr6:=hr.mono (show 6≤7 by decide); have hu:(A.deeper (envOfC "law" (bC mL) s.heap.objs.size f cdv)).units+6<cLine:=by have:=hr.un; omega
 have cell:∀ {sd:List Slot} {p1 p2 p3 p4:Pos} {j1:Nat} (k:Nat),k≤1000→sd[0]? =some (.val (.scr ns))→PEd (nL CX0 P w K mg base ["_law_script","_law_size_here","_law_kit_here","_law_factor","_law_bound_here","_law_moves_here","_law_row_here","_law_table_here","_law_looked","_law_found","_law_one","_law_other","_law_book","_law_there"] "law" (bC mL) f cdv A outer s H E).nox sd (.Call (.Name "_law_cell_at" p1) [.Name "_law_script" p2, .Constant (.int (k:Int)) j1 p3] [] p4) (.val (.int (ns.getD k 0))):=fun k hk hs=>bR (ds:=[.scr ns, .int (k:Int)]) GC hr1 rfl (aD (aB 0 hs (pv 0)) (aD aZ aP)) ⟨ns,k,rfl,hk,rfl⟩ trivial rfl
 refine aH (cF (d:=cH (szQ51 (ns.getD 0 0))) 1 nd rfl (Or.inl rfl) (bR (ds:=[.int (ns.getD 0 0)]) GZ hr2 rfl (aD (cell 0 (by decide) rfl) aP) ⟨_,rfl,rfl⟩ trivial rfl) ?_); have hp:=sz51_ok (ns.getD 0 0); generalize szQ51 (ns.getD 0 0)=p at hp; have KO:=kit41_ok hp ns 2; refine aH (psd_asg (d:= .tup [.lst ((uO p ns 2).map skD), .int (mM (ns.getD 2 0))]) (sd':=[.val (.scr ns), .val (cH p), .val (.lst ((uO p ns 2).map skD)), .val (.int (mM (ns.getD 2 0))), .un, .un, .un, .un, .un, .un, .un, .un, .un, .un]) (bR (ds:=[.scr ns, .int ((2:Nat):Int),cH p]) GK hr3 rfl (aD (aB 0 rfl (pv 0)) (aD aZ (aD (aB 1 rfl (pv 1)) aP))) ⟨p,ns,2,hp,by decide,rfl,rfl⟩ trivial rfl) (kU (ds:=[.lst ((uO p ns 2).map skD), .int (mM (ns.getD 2 0))]) (js:=[2,3]) rfl (eZ (bW (i:=2) nd rfl (Or.inl rfl)) (eZ (bW (i:=3) nd rfl (Or.inl rfl)) kR)) rfl rfl) ?_); generalize uO p ns 2=L at KO; generalize mM (ns.getD 2 0)=fc at KO; have S:=KO.stk; have l5:=KO.le; obtain ⟨b0,b1⟩:=bnd41_ok (ns.getD 1 0) L.length KO.f13; refine aH (cF (d:= .int (xO (ns.getD 1 0) L.length fc)) 4 nd rfl (Or.inl rfl) (bR (ds:=[.int (ns.getD 1 0), .lst (L.map skD), .int fc]) GB hr1 rfl (aD (cell 1 (by decide) rfl) (aD (aB 2 rfl (pv 2)) (aD (aB 3 rfl (pv 3)) aP))) ⟨_,L,fc,KO.pos,l5,KO.f13,rfl,rfl⟩ trivial rfl) ?_); generalize xO (ns.getD 1 0) L.length fc=b at b0 b1; have FU:=few41 KO b1; have O:=bkQ_ok hp S FU; refine aH (gA (ds:=L.map (mgD P w K p)) 5 nd rfl (Or.inl rfl) (bR (ds:=[cH p, .lst (L.map skD)]) GM hr3 rfl (aD (aB 1 rfl (pv 1)) (aD (aB 2 rfl (pv 2)) aP)) ⟨p,L,hp,S,rfl,rfl⟩ trivial rfl) fun l5=>iS 5 rfl ?_); obtain ⟨r1,r2,r3⟩:=row51_ok (b:=b) KO.pos b0 n63 9; refine aH (cF (d:= .tup (aY (uY L b ns 9))) 6 nd rfl (Or.inl rfl) (bR (ds:=[.scr ns, .int ((9:Nat):Int), .lst (L.map skD), .int b]) GR hr2 rfl (aD (aB 0 rfl (pv 0)) (aD aZ (aD (aB 2 rfl (pv 2)) (aD (aB 4 rfl (pv 4)) aP)))) ⟨ns,9,p,L,b,S,b0,by decide,n63,hbit,rfl,rfl⟩ trivial rfl) ?_); generalize uY L b ns 9=own at r1 r2 r3; refine aH (cF (d:= .tup ((S45.tabQ (jH p L) (cT p) own).map aV)) 7 nd rfl (Or.inr rfl) (bR (ds:=[cH p, .lst (L.map (mgD P w K p)), .tup (aY own)]) GT hr2 rfl (aD (aB 1 rfl (pv 1)) (aD (aB 5 rfl (pv 5)) (aD (aB 6 rfl (pv 6)) aP))) ⟨p,L,own,hp,S,r1,by omega,rfl,rfl⟩ trivial rfl) ?_); have eqT:∀T:List (List Int),iP (T.map aV) (T.map aV)=true:=fun T=>by rw [wJ,decide_eq_true rfl]
 have OT:=tX hp S r1; refine aH (eR (k:=false) (PTd.cast (tT (ra:= .val (.tup ((S45.tabQ (jH p L) (cT p) own).map aV))) (rb:= .val (.tup ((S45.tabQ (jH p L) (cT p) own).map aV))) (PEd.cast (bR (ds:=[cH p, .lst (L.map skD), .tup (aY own)]) GA hr5 rfl (aD (aB 1 rfl (pv 1)) (aD (aB 2 rfl (pv 2)) (aD (aB 6 rfl (pv 6)) aP))) ⟨p,L,own,hp,S,r1,rfl,rfl⟩ trivial rfl) (by rw [tab_eq])) (aB 7 rfl (pv 7)) trivial trivial (.inl ⟨rfl,rfl⟩) (lN _) (lN _) (xN hu (by show iM ((S45.tabQ (jH p L) (cT p) own).map aV)+1+1≤6; have:=mO (S45.tabQ (jH p L) (cT p) own); omega))) (by show (!iP _ _)=false; rw [eqT]; rfl)) rfl (cM ?_)); obtain ⟨s1,s2,s3,s4,s5⟩:=pX p hp; have pn:((p.2.toNat:Nat):Int)=p.2:=by omega
 have el:((gO 0 p.2.toNat).filter (bxD56 (ns.getD 8 0))).map id=aY (bs56 p (ns.getD 8 0)):=by
  rw [iG]; unfold bs56 aY gO; rw [lD]
  have:(bH p.2.toNat).filter (bxD56 (ns.getD 8 0) ∘ fun (i:Nat)=>D.int (0+(i:Int)))=(bH p.2.toNat).filter fun k=>decide (0<mxS (ns.getD 8 0) k%3):=sS fun k _=>by show decide (0<mxS (ns.getD 8 0) ((0:Int)+(k:Int)).toNat%3)=_; rw [oR,dO]
  rw [this]; refine bN fun k _=> ?_
  rw [oR]
 refine aH (psd_setC (ds:=gO 0 p.2.toNat) 8 (N:=["_law_box","_law_script"]) (M:=["_law_script","_law_size_here","_law_kit_here","_law_factor","_law_bound_here","_law_moves_here","_law_row_here","_law_table_here","_law_looked","_law_found","_law_one","_law_other","_law_book","_law_there"]) (cap:=[none,some 0]) (sc:=bC mL) (Tb:=fun d=>[.val d, .val (.scr ns)]) (bxD56 (ns.getD 8 0)) id rfl nd rfl rfl rfl (kB (n:=p.2.toNat) rfl zrange (PEd.ic (cJ (n:=1) (d:= .int p.2) (aB 1 rfl (pv 1)) aZ rfl fun _ _=>rfl) pn.symm) (by omega)) (by rw [hX]; omega) rfl (by decide+kernel) rfl (by decide+kernel) rfl (fun cl C fp s H d hd=>cU 0 (bW (i:=0) nd1 rfl (Or.inl rfl))) (fun d hd=>⟨.inl rfl, .inr rfl,trivial⟩) (fun cl C fp s H d hd=> .inr ⟨_,rfl, ?_⟩) (fun cl C2 fp s H d hd _=>(aB 0 rfl (pv 0))) fun l8=>iS 8 rfl ?_)
 ·obtain ⟨k,hk⟩:=gS hd; obtain ⟨k6,rfl⟩:=kF hk; rw [oR]; show PTd _ _ _ (decide (0<mxS (ns.getD 8 0) k%3)); exact nI (g:=fun i j=>decide (j<i)) op_gt (cX fX (bR (ds:=[.int (ns.getD 8 0), .int (k:Int)]) GX hr1 rfl (aD (bR (ds:=[.scr ns, .int ((8:Nat):Int)]) GC hr1 rfl (aD (aB 1 rfl (pv 1)) (aD aZ aP)) ⟨ns,8,rfl,by decide,rfl⟩ trivial rfl) (aD (aB 0 rfl (pv 0)) aP)) ⟨_,k,rfl,by omega,rfl⟩ trivial rfl) aZ (by decide)) aZ (hV _)
 rw [el]; have blt:=bs56_lt (p:=p) (c:=ns.getD 8 0); have bln:=bs56_len hp (ns.getD 8 0); generalize bs56 p (ns.getD 8 0)=bs at blt bln; have tdo:∀bs,doQ p (wlQ p bs (S45.tabQ (jH p L) (cT p) own)) (S45.tabQ (jH p L) (cT p) own)=true:=fun bs=>wl_do_self bs OT
 have W1:=wl_ok hp bs OT; have W2:=wl_ok hp (bH p.2.toNat) OT
 have TQ:∀row,fD L row→S45.prQ (prK L) row≤b→row.length≤400:=fun row h1 h2=>by have:=FU.rl row (FU.all row h1 h2); omega
 have cO:∀ds r,ds=[cH p, .lst (L.map skD), .int b]→r=R.own ((bkQ p L b).map enD)→CBook ds r:=fun ds r e1 e2=>⟨p,L,b,_,hp,S,KO.nd,FU,e1,e2⟩
 have cL:∀w' ds r,sD p w'→ds=[cH p, .lst (L.map skD), .int b, .lst (w'.map wsD)]→r=R.val (lrD p w' (bkQ p L b))→CLr51 ds r:=fun w' ds r W e1 e2=>⟨p,L,b,_,w',hp,S,KO.nd,FU,W,e1,e2⟩
 generalize bkQ p L b=B at O cO cL; have bl:=O.len; obtain ⟨e3,e3m,e3t,e3k⟩:=O.all own r1 r2; generalize hT:S45.tabQ (jH p L) (cT p) own=T at OT tdo W1 W2 e3t ⊢; refine psd_le (sd':=[.val (.scr ns), .val (cH p), .val (.lst (L.map skD)), .val (.int fc), .val (.int b), .val (.lst (L.map (mgD P w K p))), .val (.tup (aY own)), .val (.tup (T.map aV)), .val (.lst (aY bs)), .un, .un, .un, .un, .un]) ⟨.inr rfl, .inr rfl, .inr rfl, .inr rfl, .inr rfl, .inr rfl, .inr rfl, .inr rfl, .inr rfl, .inr rfl, .inr rfl, .inr rfl, .inr rfl, .inr rfl,trivial⟩ ?_; refine aH (cF (d:=lrD p (wlQ p bs T) B) 9 nd rfl (Or.inl rfl) (bR (ds:=[cH p, .lst (L.map skD), .int b, .lst ((wlQ p bs T).map wsD)]) GL hr rfl (aD (aB 1 rfl (pv 1)) (aD (aB 2 rfl (pv 2)) (aD (aB 4 rfl (pv 4)) (aD (pd_callW (ds:=[cH p, .tup (T.map aV), .lst (aY bs)]) GW.full hr4 rfl (aD (aB 1 rfl (pv 1)) (aD (aB 7 rfl (pv 7)) (aD (aB 8 rfl (pv 8)) aP))) ⟨p,T,some bs,hp,OT,fun l hl=>by cases hl; exact ⟨by omega,blt⟩,rfl,rfl⟩ rfl) aP)))) (cL _ _ _ W1 rfl rfl) trivial rfl) ?_); have key:∀ {sd:List Slot} {g:Expr} {p1 p2 p6:Pos} (row:List Nat),fD L row→S45.prQ (prK L) row≤b→sd[2]? =some (.val (.lst (L.map skD)))→PAd (nL CX0 P w K mg base ["_law_script","_law_size_here","_law_kit_here","_law_factor","_law_bound_here","_law_moves_here","_law_row_here","_law_table_here","_law_looked","_law_found","_law_one","_law_other","_law_book","_law_there"] "law" (bC mL) f cdv A outer s H E).nox sd [g] ([D.tup (aY row)].map R.val)→PAd (nL CX0 P w K mg base ["_law_script","_law_size_here","_law_kit_here","_law_factor","_law_bound_here","_law_moves_here","_law_row_here","_law_table_here","_law_looked","_law_found","_law_one","_law_other","_law_book","_law_there"] "law" (bC mL) f cdv A outer s H E).nox sd [.Name "_law_kit_here" p2,g] ([D.lst (L.map skD),D.tup (aY row)].map R.val):=fun row h1 h2 h3 h4=>aD (aB 2 h3 (pv 2)) h4
 clear key; unfold lrD; cases hq:ftQ p (wlQ p bs T) B with
 | none=>have:=ft_none O hq own r1 r2; rw [hT,tdo bs] at this; cases this
 | some e=>
  obtain ⟨f1,f2,f3⟩:=ft_some O hq; obtain ⟨x1,x2,x3,x4,x5⟩:=O.ent e f1; have ke:=f3 own r1 r2 (by rw [hT]; exact tdo bs); have OE:kI p e.2.2:=by rw [x4]; exact tX hp S x1
  have wd:=(wl_do OT OE).mp f2; obtain ⟨k1,k2,k3⟩:=key_ok L e.2.1 own; obtain ⟨_,k4,_⟩:=key_ok L own own; show PSd _ [.val (.scr ns), .val (cH p), .val (.lst (L.map skD)), .val (.int fc), .val (.int b), .val (.lst (L.map (mgD P w K p))), .val (.tup (aY own)), .val (.tup (T.map aV)), .val (.lst (aY bs)), .val (.tup [.str "row", .tup (aY e.2.1), .lst ((B.filter fun (x:Bk)=>decide (x.1<e.1)).map enD)]), .un, .un, .un, .un] _ _; refine aH (eR (k:=false) (PWd.pt (rS (k:=false) (j:=false) (ptd_neS (d1:= .str "row") (d2:= .str "row") (cJ (n:=0) (ds:=[.str "row", .tup (aY e.2.1), .lst ((B.filter fun (x:Bk)=>decide (x.1<e.1)).map enD)]) (aB 9 rfl (pv 9)) aZ rfl fun _ _=>rfl) cW rfl rfl rfl (by decide+kernel)) fun _=>tN (PTd.cast (ptd_gtD (d1:=tE L e.2.1) (d2:=tE L own) (bR (ds:=[.lst (L.map skD), .tup (aY e.2.1)]) GY hr2 rfl (aD (aB 2 rfl (pv 2)) (aD (cJ (n:=1) (ds:=[.str "row", .tup (aY e.2.1), .lst ((B.filter fun (x:Bk)=>decide (x.1<e.1)).map enD)]) (aB 9 rfl (pv 9)) aZ rfl fun _ _=>rfl) aP)) ⟨L,e.2.1,x1,by omega,rfl,rfl⟩ trivial rfl) (bR (ds:=[.lst (L.map skD), .tup (aY own)]) GY hr2 rfl (aD (aB 2 rfl (pv 2)) (aD (aB 6 rfl (pv 6)) aP)) ⟨L,own,r1,by omega,rfl,rfl⟩ trivial rfl) k1 k2 k4 (by rw [k3]; show (A.deeper (envOfC "law" (bC mL) s.heap.objs.size f cdv)).units+2<cLine; omega)) (kle_gt ke)))) rfl (cM ?_)); refine aH (iF (ds:=zipD (e.2.2.map aV) (T.map aV)) (fun t sd=>sd=[.val (.scr ns), .val (cH p), .val (.lst (L.map skD)), .val (.int fc), .val (.int b), .val (.lst (L.map (mgD P w K p))), .val (.tup (aY own)), .val (.tup (T.map aV)), .val (.lst (aY bs)), .val (.tup [.str "row", .tup (aY e.2.1), .lst ((B.filter fun (x:Bk)=>decide (x.1<e.1)).map enD)]), .un, .un, .un, .un]) (pid_zip true true rfl zzip (PEd.cast (bR (ds:=[cH p, .lst (L.map (mgD P w K p)), .tup (aY e.2.1)]) GT hr2 rfl (aD (aB 1 rfl (pv 1)) (aD (aB 5 rfl (pv 5)) (aD (cJ (n:=1) (ds:=[.str "row", .tup (aY e.2.1), .lst ((B.filter fun (x:Bk)=>decide (x.1<e.1)).map enD)]) (aB 9 rfl (pv 9)) aZ rfl fun _ _=>rfl) aP))) ⟨p,L,e.2.1,hp,S,x1,by omega,rfl,rfl⟩ trivial rfl) (by rw [← x4]; rfl)) (aB 7 rfl (pv 7))) ⟨_,Le.refl _,rfl⟩ (fun t d sdt hd ht=> ?_) fun sdn hn=> ?_)
  ·subst ht; obtain ⟨x,y,hx,hy,rfl⟩:=zipD_get hd; obtain ⟨kE,rfl⟩:=lK hx; obtain ⟨kT,rfl⟩:=lK hy; have eW:=wd t (by rw [← OT.len]; exact kT); have lu:=(OE.fil _ (getD_mem (d:=[]) kE)).len; have lv:=(OT.fil _ (getD_mem (d:=[]) kT)).len; clear hx hy hd; generalize e.2.2.getD t []=u at eW lu; generalize T.getD t []=v at eW lv; refine ⟨[.val (.scr ns), .val (cH p), .val (.lst (L.map skD)), .val (.int fc), .val (.int b), .val (.lst (L.map (mgD P w K p))), .val (.tup (aY own)), .val (.tup (T.map aV)), .val (.lst (aY bs)), .val (.tup [.str "row", .tup (aY e.2.1), .lst ((B.filter fun (x:Bk)=>decide (x.1<e.1)).map enD)]), .val (aV u), .val (aV v), .un, .un],kU (ds:=[aV u,aV v]) (js:=[10,11]) rfl (eZ (bW (i:=10) nd rfl (Or.inr rfl)) (eZ (bW (i:=11) nd rfl (Or.inr rfl)) kR)) rfl rfl, ?_⟩
   have ec:∀u:List Int,((aY bs).filter fun _=>true).map (fun d=>match d with | .int i=>D.int (u.getD i.toNat 0) | _=> .non)=(wdQ bs u).map D.int:=fun u=>by
    rw [bZ.mpr (fun _ _=>rfl)]; unfold aY wdQ; rw [aR,aR]; refine bN fun j _=> ?_
    simp
   have bl0:(aY bs).length≤1000:=by rw [mQ]; omega
   refine bD (eR (k:=false) (PTd.cast (tT (ra:= .val (.lst ((wdQ bs u).map D.int))) (rb:= .val (.lst ((wdQ bs v).map D.int))) (PEd.val (PEd.cast (fU (ds:=aY bs) (N:=["_law_box","_law_one"]) (M:=["_law_script","_law_size_here","_law_kit_here","_law_factor","_law_bound_here","_law_moves_here","_law_row_here","_law_table_here","_law_looked","_law_found","_law_one","_law_other","_law_book","_law_there"]) (cap:=[none,some 10]) (sc:=bC mL) (Tb:=fun d=>[.val d, .val (aV u)]) (fun _=>true) (fun d=>match d with | .int i=>D.int (u.getD i.toNat 0) | _=> .non) (eV (aB 8 rfl (pv 8))) bl0 rfl (by decide+kernel) rfl (by decide+kernel) rfl (fun cl C fp s H d hd=>cU 0 (bW (i:=0) nd3 rfl (Or.inl rfl))) (fun d hd=>⟨.inl rfl, .inr rfl,trivial⟩) (fun cl C fp s H d hd=> .inl ⟨rfl,rfl⟩) fun cl C2 fp s H d hd _=> ?_) (by rw [ec]))) (PEd.val (PEd.cast (fU (ds:=aY bs) (N:=["_law_box","_law_other"]) (M:=["_law_script","_law_size_here","_law_kit_here","_law_factor","_law_bound_here","_law_moves_here","_law_row_here","_law_table_here","_law_looked","_law_found","_law_one","_law_other","_law_book","_law_there"]) (cap:=[none,some 11]) (sc:=bC mL) (Tb:=fun d=>[.val d, .val (aV v)]) (fun _=>true) (fun d=>match d with | .int i=>D.int (v.getD i.toNat 0) | _=> .non) (eV (aB 8 rfl (pv 8))) bl0 rfl (by decide+kernel) rfl (by decide+kernel) rfl (fun cl C fp s H d hd=>cU 0 (bW (i:=0) nd4 rfl (Or.inl rfl))) (fun d hd=>⟨.inl rfl, .inr rfl,trivial⟩) (fun cl C fp s H d hd=> .inl ⟨rfl,rfl⟩) fun cl C2 fp s H d hd _=> ?_) (by rw [ec]))) trivial trivial (.inr ⟨rfl,rfl⟩) (lV _) (lV _) (xN hu (by show dep (aV (wdQ bs u))+1≤6; rw [qK]; decide))) (by show (!iP _ _)=false; rw [eW]; have:=oO (wdQ bs u) (wdQ bs u); rw [decide_eq_true rfl] at this; have this:iP ((wdQ bs u).map D.int) ((wdQ bs u).map D.int)=true:=this; rw [this]; rfl)) rfl (cM ⟨[.val (.scr ns), .val (cH p), .val (.lst (L.map skD)), .val (.int fc), .val (.int b), .val (.lst (L.map (mgD P w K p))), .val (.tup (aY own)), .val (.tup (T.map aV)), .val (.lst (aY bs)), .val (.tup [.str "row", .tup (aY e.2.1), .lst ((B.filter fun (x:Bk)=>decide (x.1<e.1)).map enD)]), .un, .un, .un, .un],⟨.inr rfl, .inr rfl, .inr rfl, .inr rfl, .inr rfl, .inr rfl, .inr rfl, .inr rfl, .inr rfl, .inr rfl, .inl rfl, .inl rfl, .inr rfl, .inr rfl,trivial⟩,rfl⟩))
   ·obtain ⟨j,hj,rfl⟩:=aQ.mp hd; have:=blt j hj; exact cJ (n:=j) (ds:=u.map D.int) (aB 1 rfl (pv 1)) (aB 0 rfl (pv 0)) (uV (by omega)) fun _ _=>rfl
   ·obtain ⟨j,hj,rfl⟩:=aQ.mp hd; have:=blt j hj; exact cJ (n:=j) (ds:=v.map D.int) (aB 1 rfl (pv 1)) (aB 0 rfl (pv 0)) (uV (by omega)) fun _ _=>rfl
  ·subst hn; clear k1 k2 k3 ke wd OE f3 x1 x2 x3 x4 x5 f1 f2 hq; refine aH (cF (d:=lrD p (wlQ p (bH p.2.toNat) T) B) 9 nd rfl (Or.inl rfl) (bR (ds:=[cH p, .lst (L.map skD), .int b, .lst ((wlQ p (bH p.2.toNat) T).map wsD)]) GL hr rfl (aD (aB 1 rfl (pv 1)) (aD (aB 2 rfl (pv 2)) (aD (aB 4 rfl (pv 4)) (aD (pd_callDW (ds:=[cH p, .tup (T.map aV)]) GW hr4 rfl (aD (aB 1 rfl (pv 1)) (aD (aB 7 rfl (pv 7)) aP)) ⟨p,T,none,hp,OT,(fun l hl=>nomatch hl),rfl,rfl⟩ rfl) aP)))) (cL _ _ _ W2 rfl rfl) trivial rfl) ?_); unfold lrD; cases hq:ftQ p (wlQ p (bH p.2.toNat) T) B with
   | none=>have:=ft_none O hq own r1 r2; rw [hT,tdo _] at this; cases this
   | some e'=>
    obtain ⟨f1,f2,_⟩:=ft_some O hq; obtain ⟨x1,x2,x3,x4,x5⟩:=O.ent e' f1; have OE:kI p e'.2.2:=by rw [x4]; exact tX hp S x1
    have ee:e'=e3:=Bq_inj O f1 e3m (by rw [e3t]; exact wl_all OT OE f2); subst ee; show PSd _ [.val (.scr ns), .val (cH p), .val (.lst (L.map skD)), .val (.int fc), .val (.int b), .val (.lst (L.map (mgD P w K p))), .val (.tup (aY own)), .val (.tup (T.map aV)), .val (.lst (aY bs)), .val (.tup [.str "row", .tup (aY e'.2.1), .lst ((B.filter fun (x:Bk)=>decide (x.1<e'.1)).map enD)]), .un, .un, .un, .un] _ _; refine aH (gA (ds:=B.map enD) 12 nd rfl (Or.inl rfl) (bR (ds:=[cH p, .lst (L.map skD), .int b]) GO hr6 rfl (aD (aB 1 rfl (pv 1)) (aD (aB 2 rfl (pv 2)) (aD (aB 4 rfl (pv 4)) aP))) (cO _ _ rfl rfl) trivial rfl) fun l12=>iS 12 rfl ?_)
    have ecT:((B.map enD).filter (thr41 T)).map id=[enD e']:=by
     rw [iG,lD]
     have:B.filter (thr41 T ∘ enD)=[e']:=uG (k:=fun e:Bk=>e.2.2) O.nd e3m fun y _=>by show thr41 T (enD y)=true↔y.2.2=e'.2.2; rw [thr_en,decide_eq_true_iff,e3t]
     rw [this]; rfl
    have bl1:(B.map enD).length≤1000:=by rw [aC]; omega
    refine aH (gA (ds:=[enD e']) 13 nd rfl (Or.inr rfl) (PEd.cast (fU (ds:=B.map enD) (N:=["_law_entry","_law_table_here"]) (M:=["_law_script","_law_size_here","_law_kit_here","_law_factor","_law_bound_here","_law_moves_here","_law_row_here","_law_table_here","_law_looked","_law_found","_law_one","_law_other","_law_book","_law_there"]) (cap:=[none,some 7]) (sc:=bC mL) (Tb:=fun d=>[.val d, .val (.tup (T.map aV))]) (thr41 T) id (eV (aB 12 rfl (pv 12))) bl1 rfl (by decide+kernel) rfl (by decide+kernel) rfl (fun cl C fp s H d hd=>cU 0 (bW (i:=0) nd2 rfl (Or.inl rfl))) (fun d hd=>⟨.inl rfl, .inr rfl,trivial⟩) (fun cl C fp s H d hd=> .inr ⟨_,rfl, ?_⟩) fun cl C2 fp s H d hd _=>(aB 0 rfl (pv 0))) (by rw [ecT])) fun l13=>iS 13 rfl ?_)
    ·obtain ⟨y,_,rfl⟩:=aQ.mp hd; exact ptd_eqD (ra:= .val (.tup (y.2.2.map aV))) (rb:= .val (.tup (T.map aV))) (cJ (n:=2) (ds:=[.int y.1, .tup (aY y.2.1), .tup (y.2.2.map aV)]) (aB 0 rfl (pv 0)) aZ rfl fun _ _=>rfl) (aB 1 rfl (pv 1)) trivial trivial (.inl ⟨rfl,rfl⟩) (lN _) (lN _) (xN hu (by show iM (y.2.2.map aV)+1+1≤6; have:=mO y.2.2; omega))
    show PSd _ [.val (.scr ns), .val (cH p), .val (.lst (L.map skD)), .val (.int fc), .val (.int b), .val (.lst (L.map (mgD P w K p))), .val (.tup (aY own)), .val (.tup (T.map aV)), .val (.lst (aY bs)), .val (.tup [.str "row", .tup (aY e'.2.1), .lst ((B.filter fun (x:Bk)=>decide (x.1<e'.1)).map enD)]), .un, .un, .val (.lst (B.map enD)), .val (.lst [enD e'])] _ _
    have p2:pl (.tup [.str "row", .tup (aY e'.2.1)])=true:=by show (true && (plL (aY e'.2.1) && true))=true; rw [(gJ e'.2.1).1]; rfl
    refine aH (eR (k:=false) (PWd.pt (rS (k:=false) (j:=false) (PTd.cast (ptd_neI (i:=1) (j:=1) (PEd.ic (oY rfl zlen (PEd.bor (aB 13 rfl (pv 13)))) rfl) aZ) rfl) fun _=>tN (PTd.cast (tT (ra:= .val (.tup [.str "row", .tup (aY e'.2.1)])) (rb:= .val (.tup [.str "row", .tup (aY e'.2.1)])) (PEd.cast (vM (ds:=[.str "row", .tup (aY e'.2.1), .lst ((B.filter fun (x:Bk)=>decide (x.1<e'.1)).map enD)]) (ol:=none) (oh:=some ((2:Nat):Int)) (aB 9 rfl (pv 9)) trivial aZ (by show ¬ (HT.sIx 3 0 none=0∧HT.sIx 3 3 (some 2)=3); decide)) (by rw [cutD_take]; rfl)) (fP (ds:=[.str "row", .tup (aY e'.2.1)]) (aD cW (aD (cJ (n:=1) (ds:=[.int e'.1, .tup (aY e'.2.1), .tup (e'.2.2.map aV)]) (lY (n:=0) (ds:=[enD e']) (PEd.bor (aB 13 rfl (pv 13))) aZ rfl fun _ _=>rfl) aZ rfl fun _ _=>rfl) aP)) (aJ rfl)) trivial trivial (.inl ⟨rfl,rfl⟩) p2 p2 (xN hu (by show max 0 (max (iM (aY e'.2.1)+1) 0)+1+1≤6; rw [(gJ e'.2.1).2]; decide))) (by show (!iP _ _)=false; rw [lA _ (show plL [.str "row", .tup (aY e'.2.1)]=true from p2)]; rfl)))) rfl (cM ?_))
    have ecL:((B.map enD).filter (lt51 e'.1)).map id=(B.filter fun (x:Bk)=>decide (x.1<e'.1)).map enD:=by rw [iG,lD]; rfl
    obtain ⟨pq,dq⟩:=pls_en (B.filter fun (x:Bk)=>decide (x.1<e'.1)); refine aH (eR (k:=false) (PTd.cast (tT (ra:= .val (.lst ((B.filter fun (x:Bk)=>decide (x.1<e'.1)).map enD))) (rb:= .val (.lst ((B.filter fun (x:Bk)=>decide (x.1<e'.1)).map enD))) (cJ (n:=2) (ds:=[.str "row", .tup (aY e'.2.1), .lst ((B.filter fun (x:Bk)=>decide (x.1<e'.1)).map enD)]) (aB 9 rfl (pv 9)) aZ rfl fun _ _=>rfl) (PEd.val (PEd.cast (fU (ds:=B.map enD) (N:=["_law_entry","_law_there"]) (M:=["_law_script","_law_size_here","_law_kit_here","_law_factor","_law_bound_here","_law_moves_here","_law_row_here","_law_table_here","_law_looked","_law_found","_law_one","_law_other","_law_book","_law_there"]) (cap:=[none,some 13]) (sc:=bC mL) (Tb:=fun d=>[.val d, .val (.lst [enD e'])]) (lt51 e'.1) id (eV (aB 12 rfl (pv 12))) bl1 rfl (by decide+kernel) rfl (by decide+kernel) rfl (fun cl C fp s H d hd=>cU 0 (bW (i:=0) nd5 rfl (Or.inl rfl))) (fun d hd=>⟨.inl rfl, .inr rfl,trivial⟩) (fun cl C fp s H d hd=> .inr ⟨_,rfl, ?_⟩) fun cl C2 fp s H d hd _=>(aB 0 rfl (pv 0))) (by rw [ecL]))) trivial trivial (.inr ⟨rfl,rfl⟩) pq pq (xN hu (by show iM ((B.filter fun (x:Bk)=>decide (x.1<e'.1)).map enD)+1+1≤6; omega))) (by show (!iP _ _)=false; rw [lA _ pq]; rfl)) rfl (cM ?_))
    ·obtain ⟨x,_,rfl⟩:=aQ.mp hd; exact nI (g:=fun i j=>decide (i<j)) op_lt (cJ (n:=0) (ds:=[.int x.1, .tup (aY x.2.1), .tup (x.2.2.map aV)]) (d:= .int x.1) (aB 0 rfl (pv 0)) aZ rfl fun _ _=>rfl) (cJ (n:=0) (ds:=[.int e'.1, .tup (aY e'.2.1), .tup (e'.2.2.map aV)]) (d:= .int e'.1) (lY (n:=0) (ds:=[enD e']) (PEd.bor (aB 1 rfl (pv 1))) aZ rfl fun _ _=>rfl) aZ rfl fun _ _=>rfl) (hV _)
    have ecR:((B.map enD).filter fun _=>true).map snd56=B.map fun (e:Bk)=>D.tup (aY e.2.1):=by rw [bZ.mpr (fun _ _=>rfl),aR]; rfl
    have dN:∀a c:List Nat,deq (.tup (aY a)) (.tup (aY c))=decide (a=c):=fun a c=>by
     rw [lU,lU]; rw [show deq (.tup ((inR a).map D.int)) (.tup ((inR c).map D.int))=decide (inR a=inR c) from oO _ _]
     by_cases h:a=c
     ·rw [h,decide_eq_true rfl,decide_eq_true rfl]
     ·rw [decide_eq_false h,decide_eq_false fun z=>h (inR_inj z)]
    have pR:plL (B.map fun (e:Bk)=>D.tup (aY e.2.1))=true∧iM (B.map fun (e:Bk)=>D.tup (aY e.2.1))≤1:=⟨uW (fun e:Bk=>D.tup (aY e.2.1)) (fun e=>(gJ e.2.1).1) B,sK (fun e:Bk=>D.tup (aY e.2.1)) 1 (fun e=>by show iM (aY e.2.1)+1≤1; rw [(gJ e.2.1).2]; decide) B⟩; refine bD (bQ (PEd.cast (pd_or (k:= !(B.map fun (e:Bk)=>D.tup (aY e.2.1)).any fun z=>deq z (.tup (aY own))) (j:=deq (.tup (aY e'.2.1)) (.tup (aY own))) (pd_ninD (d:= .tup (aY own)) (ds:=B.map fun (e:Bk)=>D.tup (aY e.2.1)) (aB 6 rfl (pv 6)) (PEd.val (PEd.cast (fU (ds:=B.map enD) (N:=["_law_entry"]) (M:=["_law_script","_law_size_here","_law_kit_here","_law_factor","_law_bound_here","_law_moves_here","_law_row_here","_law_table_here","_law_looked","_law_found","_law_one","_law_other","_law_book","_law_there"]) (cap:=[none]) (sc:=bC mL) (Tb:=fun d=>[.val d]) (fun _=>true) snd56 (eV (aB 12 rfl (pv 12))) bl1 rfl (by decide+kernel) rfl (by decide+kernel) rfl (fun cl C fp s H d hd=>cU 0 (bW (i:=0) nd6 rfl (Or.inl rfl))) (fun d hd=>⟨.inl rfl,trivial⟩) (fun cl C fp s H d hd=> .inl ⟨rfl,rfl⟩) fun cl C2 fp s H d hd _=> ?_) (by rw [ecR]))) (gJ own).1 pR.1 (by have:=pR.2; show (A.deeper (envOfC "law" (bC mL) s.heap.objs.size f cdv)).units+1+_<cLine; omega)) fun _=>pd_one (pd_eqD (ra:= .val (.tup (aY e'.2.1))) (rb:= .val (.tup (aY own))) (cJ (n:=1) (ds:=[.str "row", .tup (aY e'.2.1), .lst ((B.filter fun (x:Bk)=>decide (x.1<e'.1)).map enD)]) (aB 9 rfl (pv 9)) aZ rfl fun _ _=>rfl) (aB 6 rfl (pv 6)) trivial trivial (.inl ⟨rfl,rfl⟩) (gJ _).1 (gJ _).1 (xN hu (by show iM (aY e'.2.1)+1+1≤6; rw [(gJ e'.2.1).2]; decide)))) ?_) trivial rfl)
    ·obtain ⟨x,_,rfl⟩:=aQ.mp hd; exact cJ (n:=1) (ds:=[.int x.1, .tup (aY x.2.1), .tup (x.2.2.map aV)]) (aB 0 rfl (pv 0)) aZ rfl fun _ _=>rfl
    ·congr 2; cases q:(B.map fun (e:Bk)=>D.tup (aY e.2.1)).any fun z=>deq z (.tup (aY own)) with
     | false=>rfl
     | true=>obtain ⟨z,hz,hq2⟩:=uE.mp q; obtain ⟨y,hy,rfl⟩:=aQ.mp hz; rw [dN,decide_eq_true_iff] at hq2; have:y=e':=Bq_inj O hy e3m (by rw [(O.ent y hy).2.2.2.1,hq2,hT,e3t]); rw [← this,dN,decide_eq_true hq2]; rfl
end
theorem byself_vals {t1 t2 t3:Tok}:Vals [V.str "not",V.str "up",V.str "down"] (#[Value.str "not" t1,Value.str "up" t2,Value.str "down" t3]:Array Value).toList:= .cons ⟨_,rfl⟩ (.cons ⟨_,rfl⟩ (.cons ⟨_,rfl⟩ .nil))
theorem all_mk {P:Program} {w:World} {K:aA} {h:Heap} {mg:Str→Option Value} {fa:Addr} (X:K.In h) (G:h.Ns mainGlobals mg) (hfa:mg "law"=some (.ref fa))
  {odWl anWl:Option Addr} {slWl:Array (Option Value)} {ocWl kVWl dcWl pmWl cdWl ctWl:Value} {fWl:Addr} {dTWl:Addr} {tcWl:Value} {tdWl:Option Addr} {tnWl:Nat} {tsWl:Array (Option Value)} {odL anL:Option Addr} {slL:Array (Option Value)} {ocL kVL dcL pmL cdL ctL:Value} {fL:Addr} {fBY:Addr} {dB:Option Addr} {t1 t2 t3:Tok} {nB:Nat} {sB:Array (Option Value)} {tmst:Tok}
  (aWl:eH K mainGlobals "wish_like"=some (some (.ref fWl))) (lWl:K.lookup fWl=some ⟨ocWl,odWl, .func (dL "wish_like" "wish_like" (gU qA) (fG qA) (bC qA) (.ref dTWl) kVWl dcWl pmWl anWl cdWl ctWl),slWl⟩) (cWl:gY K cdWl "wish_like"=true) (kWl:cY K (.ref fWl)=true) (tWl:K.lookup dTWl=some ⟨tcWl,tdWl, .seq #[.none] tnWl,tsWl⟩) (aL:eH K mainGlobals "law"=some (some (.ref fL))) (lL:K.lookup fL=some ⟨ocL,odL, .func (dL "law" "law" (gU mL) (fG mL) (bC mL) .none kVL dcL pmL anL cdL ctL),slL⟩) (cL:gY K cdL "law"=true) (kL:cY K (.ref fL)=true) (nrange:eH K mainGlobals "range"=some none) (ntuple:eH K mainGlobals "tuple"=some none) (nenumerate:eH K mainGlobals "enumerate"=some none) (nlen:eH K mainGlobals "len"=some none) (nmin:eH K mainGlobals "min"=some none) (nlist:eH K mainGlobals "list"=some none) (nsorted:eH K mainGlobals "sorted"=some none) (nint:eH K mainGlobals "int"=some none) (nsum:eH K mainGlobals "sum"=some none) (nzip:eH K mainGlobals "zip"=some none) (aBY:eH K mainGlobals "BY_ITSELF"=some (some (.ref fBY))) (lBY:K.lookup fBY=some ⟨.type "tuple",dB, .seq #[.str "not" t1, .str "up" t2, .str "down" t3] nB,sB⟩) (amst:eH K mainGlobals "MOST_TABLES"=some (some (.int 500 tmst))) (hC:FI K mg "word_count" sCount) (hEa:FI K mg "with_each_word" sEach) (hFi:FI K mg "fillings" sFill) (hNu:FI K mg "number_of" sNum) (hI:FI K mg "word_by_itself" sItself) (hA:FI K mg "word_by_another" sAnother) (hN:FI K mg "new_word" sNewWord) (hB:FI K mg "written_box" sWritten) (hS:FI K mg "step_on" sStepOn) (hNo:FI K mg "numbers_of_step" sNos) (hMo:FI K mg "moves_of" sMoves) (hNb:FI K mg "numbers_behind" sNbeh) (hPu:FI K mg "put_longer_rows" sPut) (hFo:FI K mg "found_rows" sFd) (hTf:FI K mg "table_from" sTfrom) (hBk:FI K mg "book_of" sBook) (hR:FI K mg "row_on" sRowOn) (hTa:FI K mg "table_of" sTable) (hBo:FI K mg "boxes_looked_at" sBoxes) (hWi:FI K mg "words_in" vK) (hMs:FI K mg "misses_at" sMiss) (hDo:FI K mg "does_wish" sDoes) (hFl:FI K mg "fillings_like" yT) (hFt:FI K mg "first_that_does" sFt) (hLr:FI K mg "least_row" sLr) (hCa:FI K mg "_law_cell_at" sCellAt) (hMi:FI K mg "_law_mixed" sMixed) (hF:FI K mg "_law_fillings" sLFill) (hLw:FI K mg "_law_word" sLWord) (hAf:FI K mg "_law_after" sAft) (hDr:FI K mg "_law_drawn" sDrawn) (hLm:FI K mg "_law_moves" sLMv) (hZ:FI K mg "_law_size" sSize) (hK:FI K mg "_law_kit" sKit) (hBd:FI K mg "_law_bound" sBnd) (hLp:FI K mg "_law_price" sLPr) (hKy:FI K mg "_law_key" sKey) (hTb:FI K mg "_law_table" sTab) (hRo:FI K mg "_law_row" sRow):
  ∃fd:FuncData,(∀ (s:Shared) (v:Value),BindsTo s fd ⟨[v],[]⟩ [("_law_script",v)])∧∀base:Heap,K.In base→base.Ns mainGlobals mg→FnOk P w K mg base CX0 8 fa fd ["_law_script"] (spC K 1 CLawB):=by
 have e:=hfa.symm.trans (mH X G aL); cases e; have zrange:=eG X G nrange; have ztuple:=eG X G ntuple; have zenumerate:=eG X G nenumerate; have zlen:=eG X G nlen; have zmin:=eG X G nmin; have zlist:=eG X G nlist; have zsorted:=eG X G nsorted; have zint:=eG X G nint; have zsum:=eG X G nsum; have zzip:=eG X G nzip; have byself:∃ad,mg "BY_ITSELF"=some (.ref ad)∧∀H:Hp,SqT K H ad [V.str "not",V.str "up",V.str "down"]:=⟨_,mH X G aBY,fun H=> .inr ⟨_,_,_,lBY,rfl,rfl,aJ rfl,byself_vals⟩⟩; have mst:∃t,mg "MOST_TABLES"=some (.int 500 t):=⟨_,mH X G amst⟩; obtain ⟨fC,dC,mC,FC⟩:=hC; obtain ⟨fEa,dEa,mEa,FEa⟩:=hEa; obtain ⟨fFi,dFi,mFi,FFi⟩:=hFi; obtain ⟨fNu,dNu,mNu,FNu⟩:=hNu; obtain ⟨fI,dI,mI,FI⟩:=hI; obtain ⟨fA,dA,mA,FA⟩:=hA; obtain ⟨fN,dN,mN,FN⟩:=hN; obtain ⟨fB,dB,mB,FB⟩:=hB; obtain ⟨fS,dS,mS,FS⟩:=hS; obtain ⟨fNo,dNo,mNo,FNo⟩:=hNo; obtain ⟨fMo,dMo,mMo,FMo⟩:=hMo; obtain ⟨fNb,dNb,mNb,FNb⟩:=hNb; obtain ⟨fPu,dPu,mPu,FPu⟩:=hPu; obtain ⟨fFo,dFo,mFo,FFo⟩:=hFo; obtain ⟨fTf,dTf,mTf,FTf⟩:=hTf; obtain ⟨fBk,dBk,mBk,FBk⟩:=hBk; obtain ⟨fR,dR,mR,FR⟩:=hR; obtain ⟨fTa,dTa,mTa,FTa⟩:=hTa; obtain ⟨fBo,dBo,mBo,FBo⟩:=hBo; obtain ⟨fWi,dWi,mWi,FWi⟩:=hWi; obtain ⟨fMs,dMs,mMs,FMs⟩:=hMs; obtain ⟨fDo,dDo,mDo,FDo⟩:=hDo; obtain ⟨fFl,dFl,mFl,FFl⟩:=hFl; have FWl:=funD_mk (st:=qA) lWl cWl kWl tWl; have mWl:=mH X G aWl; obtain ⟨fFt,dFt,mFt,FFt⟩:=hFt; obtain ⟨fLr,dLr,mLr,FLr⟩:=hLr; obtain ⟨fCa,dCa,mCa,FCa⟩:=hCa; obtain ⟨fMi,dMi,mMi,FMi⟩:=hMi; obtain ⟨fF,dF,mF,FF⟩:=hF; obtain ⟨fLw,dLw,mLw,FLw⟩:=hLw; obtain ⟨fAf,dAf,mAf,FAf⟩:=hAf; obtain ⟨fDr,dDr,mDr,FDr⟩:=hDr; obtain ⟨fLm,dLm,mLm,FLm⟩:=hLm; obtain ⟨fZ,dZ,mZ,FZ⟩:=hZ; obtain ⟨fK,dK,mK,FK⟩:=hK; obtain ⟨fBd,dBd,mBd,FBd⟩:=hBd; obtain ⟨fLp,dLp,mLp,FLp⟩:=hLp; obtain ⟨fKy,dKy,mKy,FKy⟩:=hKy; obtain ⟨fTb,dTb,mTb,FTb⟩:=hTb; obtain ⟨fRo,dRo,mRo,FRo⟩:=hRo; have FL:=fun_mk (st:=mL) lL cL kL; refine ⟨dL "law" "law" (gU mL) (fG mL) (bC mL) .none kVL dcL pmL anL cdL ctL,fun s v=> .of_eq rfl,fun base _ _=> ?_⟩; have GC:=ok_count (P:=P) (w:=w) (base:=base) FC zrange mC ; have GEa:=ok_each (P:=P) (w:=w) (base:=base) FEa zrange mEa ; have GFi:=ok_fill (P:=P) (w:=w) (base:=base) FFi zrange mFi GC GEa; have GNu:=ok_num (P:=P) (w:=w) (base:=base) FNu mNu GC; have GI:=ok_itself (P:=P) (w:=w) (base:=base) FI mI ; have GA:=ok_another (P:=P) (w:=w) (base:=base) FA mA ; have GN:=ok_newword (P:=P) (w:=w) (base:=base) FN byself mN GC GI GA; have GB:=ok_written (P:=P) (w:=w) (base:=base) FB mB ; have GS:=ok_stepon (P:=P) (w:=w) (base:=base) FS mS GB GN; have GNo:=ok_nos45 (P:=P) (w:=w) (base:=base) FNo ztuple mNo GNu GS GFi; have GMo:=ok_moves45 (P:=P) (w:=w) (base:=base) FMo mMo GNo; have GNb:=ok_nbeh45 (P:=P) (w:=w) (base:=base) FNb ztuple mNb ; have GPu:=ok_put41 (P:=P) (w:=w) (base:=base) FPu zenumerate mPu GNb; have GFo:=ok_found41 (P:=P) (w:=w) (base:=base) FFo zlen zmin zlist zsorted mst mFo GPu; have GTf:=ok_tfrom45 (P:=P) (w:=w) (base:=base) FTf ztuple mTf ; have GBk:=ok_book41 (P:=P) (w:=w) (base:=base) FBk zlen zrange ztuple mBk GFi GMo GFo GTf; have GR:=ok_rowon (P:=P) (w:=w) (base:=base) FR mR GS; have GTa:=ok_table (P:=P) (w:=w) (base:=base) FTa ztuple mTa GFi GR; have GBo:=ok_boxes (P:=P) (w:=w) (base:=base) FBo zlist zrange mBo ; have GWi:=ok_wordsin (P:=P) (w:=w) (base:=base) FWi mWi ; have GMs:=ok_misses (P:=P) (w:=w) (base:=base) FMs zenumerate mMs GFi; have GDo:=ok_does (P:=P) (w:=w) (base:=base) FDo mDo GMs; have GFl:=ok_flike (P:=P) (w:=w) (base:=base) FFl mFl GWi GFi; have GWl:=ok_wlike (P:=P) (w:=w) (base:=base) FWl zlen mWl GBo GFl; have GFt:=ok_ft51 (P:=P) (w:=w) (base:=base) FFt mFt GDo; have GLr:=ok_lr51 (P:=P) (w:=w) (base:=base) FLr mLr GBk GFt; have GCa:=ok_cellat (P:=P) (w:=w) (base:=base) FCa zlen mCa ; have GMi:=ok_mix45 (P:=P) (w:=w) (base:=base) FMi mMi ; have GF:=ok_lfill41 (P:=P) (w:=w) (base:=base) FF zrange mF ; have GLw:=ok_lw41 (P:=P) (w:=w) (base:=base) FLw mLw ; have GAf:=ok_aft41 (P:=P) (w:=w) (base:=base) FAf mAf GLw; have GDr:=ok_dr41 (P:=P) (w:=w) (base:=base) FDr mDr GMi; have GLm:=ok_lmv41 (P:=P) (w:=w) (base:=base) FLm mLm GF GAf; have GZ:=ok_size51 (P:=P) (w:=w) (base:=base) FZ mZ GMi; have GK:=ok_kit41 (P:=P) (w:=w) (base:=base) FK zrange zint mK GCa GMi GDr; have GBd:=ok_bnd41 (P:=P) (w:=w) (base:=base) FBd zlen mBd ; have GLp:=ok_lpr51 (P:=P) (w:=w) (base:=base) FLp zsum mLp ; have GKy:=ok_key51 (P:=P) (w:=w) (base:=base) FKy zlen mKy GLp; have GTb:=ok_tab51 (P:=P) (w:=w) (base:=base) FTb ztuple mTb GF; have GRo:=ok_row51 (P:=P) (w:=w) (base:=base) FRo zlen mRo GLp; exact ok_law FL zlen zrange zzip GCa GMi GZ GK GBd GLm GRo GTb GTa GWl GLr GBk GKy
end K56
open PySem PySem.W PyProof.Rows
theorem PySem.W.Fast.tw10158956203309070979 : True := trivial
theorem PySem.W.Fast.tw10538997442664659099 : True := trivial
theorem PySem.W.Fast.tw11220802861361879768 : True := trivial
theorem PySem.W.Fast.tw11435179206570378106 : True := trivial
theorem PySem.W.Fast.tw11734669880911701399 : True := trivial
theorem PySem.W.Fast.tw11810541331360758493 : True := trivial
theorem PySem.W.Fast.tw11925645426866024907 : True := trivial
theorem PySem.W.Fast.tw12756776856291944288 : True := trivial
theorem PySem.W.Fast.tw12771042558211167051 : True := trivial
theorem PySem.W.Fast.tw14216544315549463041 : True := trivial
theorem PySem.W.Fast.tw15142370787685858199 : True := trivial
theorem PySem.W.Fast.tw15197916896626251281 : True := trivial
theorem PySem.W.Fast.tw15364779515169001994 : True := trivial
theorem PySem.W.Fast.tw16443001976521915220 : True := trivial
theorem PySem.W.Fast.tw16444119690579495287 : True := trivial
theorem PySem.W.Fast.tw17079829103561902437 : True := trivial
theorem PySem.W.Fast.tw17129122047805310817 : True := trivial
theorem PySem.W.Fast.tw17296220578463197784 : True := trivial
theorem PySem.W.Fast.tw17750741272906945097 : True := trivial
theorem PySem.W.Fast.tw17879157813109333199 : True := trivial
theorem PySem.W.Fast.tw2426793980663896351 : True := trivial
theorem PySem.W.Fast.tw2478743817046243988 : True := trivial
theorem PySem.W.Fast.tw323756433942587434 : True := trivial
theorem PySem.W.Fast.tw4400032781704010849 : True := trivial
theorem PySem.W.Fast.tw5012198038442825784 : True := trivial
theorem PySem.W.Fast.tw5061058587660133991 : True := trivial
theorem PySem.W.Fast.tw6132351086720359392 : True := trivial
theorem PySem.W.Fast.tw649996637880443985 : True := trivial
theorem PySem.W.Fast.tw7009199547525358466 : True := trivial
theorem PySem.W.Fast.tw8459191989960456795 : True := trivial
theorem PySem.W.Fast.tw8763376615711467727 : True := trivial
theorem PySem.W.Fast.tw9715146138113552362 : True := trivial
theorem PySem.W.Fast.tw987813368060609158 : True := trivial
set_option maxRecDepth 100000 in
set_option maxHeartbeats 0 in
theorem PySem.Challenge.cw_leastrow_k56_whole_rows_met_again_holds : PySem.Challenge.rw_leastrow_k56_whole_rows_met_again.Holds := by
 w_on; o_law; k_head; (case hw=>w_witness2)
 k_fill
 refine DL.walkDB (l:=PySem.Challenge.rw_leastrow_k56_whole_rows_met_again) (k:=8) (x:="_law_script") rfl rfl ⟨rfl,by decide,by decide,rfl⟩ (fun w h Y=>PySem.W.kIn_of Y) ?F
 case F=>
  intro w mg fa h KX G hmg; refine' K56.all_mk KX G hmg ?aWl ?lWl ?cWl ?kWl ?tWl ?aL ?lL ?cL ?kL ?nrange ?ntuple ?nenumerate ?nlen ?nmin ?nlist ?nsorted ?nint ?nsum ?nzip ?aBY ?lBY ?amst (DL.FI.mk KX G ?a0 ?l0 ?c0 ?k0) (DL.FI.mk KX G ?a1 ?l1 ?c1 ?k1) (DL.FI.mk KX G ?a2 ?l2 ?c2 ?k2) (DL.FI.mk KX G ?a3 ?l3 ?c3 ?k3) (DL.FI.mk KX G ?a4 ?l4 ?c4 ?k4) (DL.FI.mk KX G ?a5 ?l5 ?c5 ?k5) (DL.FI.mk KX G ?a6 ?l6 ?c6 ?k6) (DL.FI.mk KX G ?a7 ?l7 ?c7 ?k7) (DL.FI.mk KX G ?a8 ?l8 ?c8 ?k8) (DL.FI.mk KX G ?a9 ?l9 ?c9 ?k9) (DL.FI.mk KX G ?a10 ?l10 ?c10 ?k10) (DL.FI.mk KX G ?a11 ?l11 ?c11 ?k11) (DL.FI.mk KX G ?a12 ?l12 ?c12 ?k12) (DL.FI.mk KX G ?a13 ?l13 ?c13 ?k13) (DL.FI.mk KX G ?a14 ?l14 ?c14 ?k14) (DL.FI.mk KX G ?a15 ?l15 ?c15 ?k15) (DL.FI.mk KX G ?a16 ?l16 ?c16 ?k16) (DL.FI.mk KX G ?a17 ?l17 ?c17 ?k17) (DL.FI.mk KX G ?a18 ?l18 ?c18 ?k18) (DL.FI.mk KX G ?a19 ?l19 ?c19 ?k19) (DL.FI.mk KX G ?a20 ?l20 ?c20 ?k20) (DL.FI.mk KX G ?a21 ?l21 ?c21 ?k21) (DL.FI.mk KX G ?a22 ?l22 ?c22 ?k22) (DL.FI.mk KX G ?a23 ?l23 ?c23 ?k23) (DL.FI.mk KX G ?a24 ?l24 ?c24 ?k24) (DL.FI.mk KX G ?a25 ?l25 ?c25 ?k25) (DL.FI.mk KX G ?a26 ?l26 ?c26 ?k26) (DL.FI.mk KX G ?a27 ?l27 ?c27 ?k27) (DL.FI.mk KX G ?a28 ?l28 ?c28 ?k28) (DL.FI.mk KX G ?a29 ?l29 ?c29 ?k29) (DL.FI.mk KX G ?a30 ?l30 ?c30 ?k30) (DL.FI.mk KX G ?a31 ?l31 ?c31 ?k31) (DL.FI.mk KX G ?a32 ?l32 ?c32 ?k32) (DL.FI.mk KX G ?a33 ?l33 ?c33 ?k33) (DL.FI.mk KX G ?a34 ?l34 ?c34 ?k34) (DL.FI.mk KX G ?a35 ?l35 ?c35 ?k35) (DL.FI.mk KX G ?a36 ?l36 ?c36 ?k36) (DL.FI.mk KX G ?a37 ?l37 ?c37 ?k37) (DL.FI.mk KX G ?a38 ?l38 ?c38 ?k38)
  (case aWl=>k_is); (case lWl=>k_is); (case cWl=>k_is); (case kWl=>k_is); (case tWl=>k_is); (case aL=>k_is); (case lL=>k_is); (case cL=>k_is); (case kL=>k_is); (case nrange=>k_is); (case ntuple=>k_is); (case nenumerate=>k_is); (case nlen=>k_is); (case nmin=>k_is); (case nlist=>k_is); (case nsorted=>k_is); (case nint=>k_is); (case nsum=>k_is); (case nzip=>k_is); (case aBY=>k_is); (case lBY=>k_is); (case amst=>k_is); (case a0=>k_is); (case l0=>k_is); (case c0=>k_is); (case k0=>k_is); (case a1=>k_is); (case l1=>k_is); (case c1=>k_is); (case k1=>k_is); (case a2=>k_is); (case l2=>k_is); (case c2=>k_is); (case k2=>k_is); (case a3=>k_is); (case l3=>k_is); (case c3=>k_is); (case k3=>k_is); (case a4=>k_is); (case l4=>k_is); (case c4=>k_is); (case k4=>k_is); (case a5=>k_is); (case l5=>k_is); (case c5=>k_is); (case k5=>k_is); (case a6=>k_is); (case l6=>k_is); (case c6=>k_is); (case k6=>k_is); (case a7=>k_is); (case l7=>k_is); (case c7=>k_is); (case k7=>k_is); (case a8=>k_is); (case l8=>k_is); (case c8=>k_is); (case k8=>k_is); (case a9=>k_is); (case l9=>k_is); (case c9=>k_is); (case k9=>k_is); (case a10=>k_is); (case l10=>k_is); (case c10=>k_is); (case k10=>k_is); (case a11=>k_is); (case l11=>k_is); (case c11=>k_is); (case k11=>k_is); (case a12=>k_is); (case l12=>k_is); (case c12=>k_is); (case k12=>k_is); (case a13=>k_is); (case l13=>k_is); (case c13=>k_is); (case k13=>k_is); (case a14=>k_is); (case l14=>k_is); (case c14=>k_is); (case k14=>k_is); (case a15=>k_is); (case l15=>k_is); (case c15=>k_is); (case k15=>k_is); (case a16=>k_is); (case l16=>k_is); (case c16=>k_is); (case k16=>k_is); (case a17=>k_is); (case l17=>k_is); (case c17=>k_is); (case k17=>k_is); (case a18=>k_is); (case l18=>k_is); (case c18=>k_is); (case k18=>k_is); (case a19=>k_is); (case l19=>k_is); (case c19=>k_is); (case k19=>k_is); (case a20=>k_is); (case l20=>k_is); (case c20=>k_is); (case k20=>k_is); (case a21=>k_is); (case l21=>k_is); (case c21=>k_is); (case k21=>k_is); (case a22=>k_is); (case l22=>k_is); (case c22=>k_is); (case k22=>k_is); (case a23=>k_is); (case l23=>k_is); (case c23=>k_is); (case k23=>k_is); (case a24=>k_is); (case l24=>k_is); (case c24=>k_is); (case k24=>k_is); (case a25=>k_is); (case l25=>k_is); (case c25=>k_is); (case k25=>k_is); (case a26=>k_is); (case l26=>k_is); (case c26=>k_is); (case k26=>k_is); (case a27=>k_is); (case l27=>k_is); (case c27=>k_is); (case k27=>k_is); (case a28=>k_is); (case l28=>k_is); (case c28=>k_is); (case k28=>k_is); (case a29=>k_is); (case l29=>k_is); (case c29=>k_is); (case k29=>k_is); (case a30=>k_is); (case l30=>k_is); (case c30=>k_is); (case k30=>k_is); (case a31=>k_is); (case l31=>k_is); (case c31=>k_is); (case k31=>k_is); (case a32=>k_is); (case l32=>k_is); (case c32=>k_is); (case k32=>k_is); (case a33=>k_is); (case l33=>k_is); (case c33=>k_is); (case k33=>k_is); (case a34=>k_is); (case l34=>k_is); (case c34=>k_is); (case k34=>k_is); (case a35=>k_is); (case l35=>k_is); (case c35=>k_is); (case k35=>k_is); (case a36=>k_is); (case l36=>k_is); (case c36=>k_is); (case k36=>k_is); (case a37=>k_is); (case l37=>k_is); (case c37=>k_is); (case k37=>k_is); (case a38=>k_is); (case l38=>k_is); (case c38=>k_is); (case k38=>k_is)
