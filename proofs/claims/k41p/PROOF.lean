import PyProof.Rows.All
import PyProof.RangeIter
import Wide.All
import OpenK.AllK
import Wide.FinOn
import Lean
import PyProof.EqAt
import PyProof.EqKinds
import PyProof.TupleCall
import PyProof.RulesAs
import PyProof.NsDelKeeps
import PyProof.ReprRoads
import PyProof.ReprLen
import PyProof.Rows.FactsT3
import PyProof.NeData
import PyProof.ListRange
import PyProof.ZipIter
import PyProof.Rows.ZipGen
import PyProof.ConsumeWalk
import PyProof.Rows.RuleM_int
import PyProof.Rows.SeqGen
import PyProof.MinMaxWalk
import PyProof.WalkInts
import PyProof.SeqI3
import PyProof.Rows.SeqCalls
import PyProof.Rows.Range3
import PyProof.EnumIter
import PyProof.EnumFor
import PyProof.EnumMake
import PyProof.EnumStmt
import PyProof.MeetsSeq
import PyProof.Rows.RuleIs
import PySem.SetOps
import PyProof.SetKind
import PyProof.DictIter
import PyProof.FactsAll.set
import PyProof.CollectWalk
import PyProof.DictWalks
import PyProof.SeqWrite
import PyProof.Walk
import PyProof.Rows.SetFrom
import PyProof.ExcAttrAll.ValueError
import PyProof.ExcArgsOwn
import PyProof.Rows.CountFlat
import PyProof.CallFns
import Open.Seg
import Open.Fast
import Open.Tree
import Open.Boot
import PySem.Challenge.RW_linegate_k41_a_new_gate
set_option Elab.async false
set_option linter.all false
set_option maxRecDepth 100000
namespace L2
open PySem PySem.Spec
theorem entry_unchain:entryFor table "proto.unchain"=some Builtin.«proto.unchain»:=entryFor_of_tree (by kernel_rfl)
theorem raiseNew_hd {prog:Program}{w:World}{A:Around}{E:Value→Shared→Prop}{s:Shared}{α:Type}{e h:Addr}{oe oh:Obj}{ve vh:Array Value}{Q:α→Shared→Prop} (hh:A.handled=some (.ref h)) (he:s.heap.get? e=some oe) (hd:oe.data=.fields ve) (h2:2 < ve.size)
  (hx:s.heap.get? h=some oh) (hxd:oh.data=.fields vh) (hx2:vh[2]? = some .none) (ne:h≠e) (q:E (.ref e) { s with heap:=s.heap.update e (Obj.mapFields (·.setIfInBounds 2 (.ref h))) }):wpAny (model prog w) A (raiseNew (.ref e):Sem α) Q E s:=by
 unfold raiseNew
 refine wpAny_bind (wpAny_handled ?_)
 rw [hh]
 dsimp only
 rw [if_pos (by simpa using ne)]
 refine wpAny_bind (wpAny_holding (wpAny_runValue (codeAny_builtin entry_unchain ?_)))
 unfold Builtin.«proto.unchain»
 refine wpAny_bind (wpAny_field hx hxd hx2 ?_)
 rw [if_pos (by rfl)]
 refine wpAny_pure ?_
 refine wpAny_bind ?_
 unfold updateField
 refine wpAny_bind (wpAny_load he ?_)
 rw [hd]
 dsimp only
 rw [if_pos h2]
 exact wpAny_update' he (wpAny_throw q)
theorem range_endH {prog:Program}{w:World}{A:Around}{E:Value→Shared→Prop}{s:Shared}{it h:Addr}{x left step:Int}{oh:Obj}{vh:Array Value}{Q:Option Value→Shared→Prop} (hh:A.handled=some (.ref h)) (hx:s.heap.get? h=some oh) (hxd:oh.data=.fields vh) (hx2:vh[2]? = some .none) (hit:IsRangeIter s.heap it x left step) (hleft:left≤0)
  (hQ:∀ h',Heap.ExtBut it s.heap h'→Q none { s with heap:=h' }):wpAny (model prog w) A (pyNext (.ref it)) Q E s:=by
 have hT:s.TypeIs (.ref it) "range_iterator":=⟨_,hit,rfl⟩
 unfold pyNext
 refine wpAny_bind (wpAny_attempt (wpAny_callSpecial?_slot (name:=Str.ofString "__next__") hT F.slot_range_iterator_next
  (wpAny_call_entry F.slot_range_iterator_next hT F.entry_range_iterator_next ?_ (F.args_range_iterator_next_1 _))))
 show wpAny _ _ (field (.ref it) 0 >>= _) _ _ s
 refine wpAny_bind (wpAny_field hit rfl (x:=rawInt x) rfl ?_)
 show wpAny _ _ (field (.ref it) 1 >>= _) _ _ s
 refine wpAny_bind (wpAny_field hit rfl (x:=rawInt left) rfl ?_)
 show wpAny _ _ (field (.ref it) 2 >>= _) _ _ s
 refine wpAny_bind (wpAny_field hit rfl (x:=rawInt step) rfl ?_)
 show wpAny _ _ (if left≤0 then _ else _) _ _ s
 rw [if_pos hleft]
 refine wpAny_bind (wpAny_rule ?_)
 refine wpAny_bind ?_
 show wpAny _ _ (newExc (.type "StopIteration") [] >>= _) _ _ _
 refine wpAny_bind ?_
 simp only [newExc,newTuple]
 refine wpAny_bind (wpAny_newObj_type ?_ (by size_fits))
 refine wpAny_bind (m:=firstArgMember _ _) (wpAny_of_eq (a:=Value.none) (by first | rfl | (simp only [firstArgMember];rfl)) ?_)
 refine wpAny_newObj_type ?_ (by size_fits)
 have hn:h≠(s.heap.push { cls:=.type "tuple",dict:=none,data:=.seq ([]:List Value).toArray }).objs.size:=Nat.ne_of_lt (Heap.lt_size (Heap.get?_push_of_some _ hx))
 refine raiseNew_hd (h:=h) (by first | exact hh | (show A.in1.handled=_;exact hh)) (Heap.get?_push_size _ rfl) rfl (by simp <;> omega) (Heap.get?_push_of_some _ (Heap.get?_push_of_some _ hx)) hxd hx2 hn ?_
 refine wpAny_bind (wpAny_isInstance (T:="StopIteration") (b:=true) ⟨_,Heap.get?_update_self _ (Heap.get?_push_size _ rfl) rfl,rfl⟩ isSubtype_stop ?_)
 refine wpAny_pure (hQ _ fun b o hb e=>?_)
 rw [Heap.get?_update_other _ _ (Ne.symm (Nat.ne_of_lt (Heap.lt_size (Heap.get?_push_of_some _ e))))]
 exact Heap.get?_push_of_some _ (Heap.get?_push_of_some _ e)
open PySem PySem.Spec PyProof.Rows
abbrev Key:=Sum Int Str
def keyIs:Key→Value→Bool
 | .inl k,v=>Value.isInt k v
 | .inr x,v=>Value.isStrOf x v
def keyH (w:World):Key→Int
 | .inl k=>hashInt k
 | .inr x=>hashStr w x
theorem keyIs_shape:∀ {k:Key}{v:Value},keyIs k v=true→(∃ i t,k=Sum.inl i∧v=Value.int i t)∨(∃ x t,k=Sum.inr x∧v=Value.str x t)
 | .inl i,v,h=>by
  obtain ⟨t,e⟩:=Value.isInt_shape (k:=i) (v:=v) h
  exact .inl ⟨i,t,rfl,e⟩
 | .inr x,v,h=>by
  obtain ⟨t,e⟩:=Value.isStrOf_shape (x:=x) (v:=v) h
  exact .inr ⟨x,t,rfl,e⟩
theorem keyIs_int (i:Int) (t:Tok):keyIs (.inl i) (.int i t)=true:=by simp [keyIs,Value.isInt]
theorem keyIs_str (x:Str) (t:Tok):keyIs (.inr x) (.str x t)=true:=by simp [keyIs,Value.isStrOf]
theorem key_ll (a b:Int):decide ((Sum.inl a:Key)=Sum.inl b)=(a == b):=by
 by_cases e:a=b
 ·subst e;simp
 ·have h:¬ (Sum.inl a:Key)=Sum.inl b:=fun q=>e (Sum.inl.inj q)
  rw [decide_eq_false h]
  exact (beq_eq_false_iff_ne.mpr e).symm
theorem key_rr (a b:Str):decide ((Sum.inr a:Key)=Sum.inr b)=decide (a=b):=by
 by_cases e:a=b
 ·subst e;simp
 ·have h:¬ (Sum.inr a:Key)=Sum.inr b:=fun q=>e (Sum.inr.inj q)
  rw [decide_eq_false h,decide_eq_false e]
theorem key_lr (a:Int) (b:Str):decide ((Sum.inl a:Key)=Sum.inr b)=false:=decide_eq_false (fun q=>nomatch q)
theorem key_rl (a:Str) (b:Int):decide ((Sum.inr a:Key)=Sum.inl b)=false:=decide_eq_false (fun q=>nomatch q)
def mixKind (prog:Program) (w:World):PySem.KeyKind prog w Key where
 is:=keyIs
 hash:=keyH w
 inj:=fun v a b ha hb=>by
  rcases keyIs_shape ha with ⟨i,t,rfl,rfl⟩ | ⟨x,t,rfl,rfl⟩
  ·rcases keyIs_shape hb with ⟨j,u,rfl,e⟩ | ⟨y,u,rfl,e⟩
   ·injection e with e1 _;rw [e1]
   ·exact nomatch e
  ·rcases keyIs_shape hb with ⟨j,u,rfl,e⟩ | ⟨y,u,rfl,e⟩
   ·exact nomatch e
   ·injection e with e1 _;rw [e1]
 byValue:=fun k v h=>by
  rcases keyIs_shape h with ⟨i,t,rfl,rfl⟩ | ⟨x,t,rfl,rfl⟩ <;> rfl
 pyHash:=fun hv h=>by
  rcases keyIs_shape hv with ⟨i,t,rfl,rfl⟩ | ⟨x,t,rfl,rfl⟩
  ·exact wpAny_pyHash_int h
  ·exact wpAny_pyHash_str h
 eqBool:=fun hu hv h=>by
  rcases keyIs_shape hu with ⟨i,t,rfl,rfl⟩ | ⟨x,t,rfl,rfl⟩
  ·rcases keyIs_shape hv with ⟨j,u,rfl,rfl⟩ | ⟨y,u,rfl,rfl⟩
   ·rw [key_ll] at h;exact wpAny_eqBool_int h
   ·rw [key_lr] at h;exact SeqAt.EqAt.int_str i t y u _ _ _ _ h
  ·rcases keyIs_shape hv with ⟨j,u,rfl,rfl⟩ | ⟨y,u,rfl,rfl⟩
   ·rw [key_rl] at h;exact SeqAt.EqAt.str_int x t j u _ _ _ _ h
   ·rw [key_rr] at h;exact wpAny_eqBool_str h
 «strs»:=fun k x t v h=>by
  rcases keyIs_shape h with ⟨i,u,rfl,e⟩ | ⟨y,u,rfl,e⟩
  ·exact nomatch e
  ·injection e with e1 _
   subst e1
   cases v <;> rfl
theorem mixKind_int (prog:Program) (w:World) (i:Int) (t:Tok):(mixKind prog w).is (.inl i) (.int i t)=true:=keyIs_int i t
theorem mixKind_str (prog:Program) (w:World) (x:Str) (t:Tok):(mixKind prog w).is (.inr x) (.str x t)=true:=keyIs_str x t
inductive V where
 | non | bl (b:Bool) | int (i:Int) | str (x:Str) | byt (b:Array UInt8) | flt (b:UInt64) | ref (a:Addr) | ty (n:String)
 deriving DecidableEq
def RelV:V→Value→Prop
 | .non,u=>u=Value.none
 | .bl b,u=>u=Value.bool b
 | .int i,u=>∃ t,u=Value.int i t
 | .str x,u=>∃ t,u=Value.str x t
 | .byt b,u=>∃ t,u=Value.bytes b t
 | .flt b,u=>∃ t,u=Value.float b t
 | .ref a,u=>u=Value.ref a
 | .ty n,u=>u=Value.type n
abbrev Vals:List V→List Value→Prop:=Paired RelV
theorem Vals.length {xs:List V}{us:List Value} (r:Vals xs us):xs.length=us.length:=Paired.length r
theorem Vals.get:∀ {xs:List V}{us:List Value}{i:Nat}{x:V},Vals xs us→xs[i]? = some x→∃ u,us[i]? = some u∧RelV x u
 | _,_,_,_,.nil,e=>by simp at e
 | _,_,0,_,.cons r _,e=>by simp at e;subst e;exact ⟨_,rfl,r⟩
 | _,_,i + 1,x,.cons _ t,e=>by
  obtain ⟨u,h1,h2⟩:=Vals.get (i:=i) (x:=x) t (by simpa using e)
  exact ⟨u,by simpa using h1,h2⟩
theorem Vals.set {x:V}{u:Value} (r:RelV x u):∀ {xs:List V}{us:List Value} (i:Nat),Vals xs us→Vals (xs.set i x) (us.set i u)
 | _,_,_,.nil=>.nil
 | _,_,0,.cons _ t=>.cons r t
 | _,_,i + 1,.cons q t=>.cons q (Vals.set r i t)
theorem Vals.append:∀ {xs ys:List V}{us ws:List Value},Vals xs us→Vals ys ws→Vals (xs++ys) (us++ws)
 | _,_,_,_,.nil,s=>s
 | _,_,_,_,.cons r t,s=>.cons r (Vals.append t s)
theorem Vals.take:∀ {xs:List V}{us:List Value} (n:Nat),Vals xs us→Vals (xs.take n) (us.take n)
 | _,_,0,_=>.nil
 | _,_,_ + 1,.nil=>.nil
 | _,_,n + 1,.cons r t=>.cons r (Vals.take n t)
theorem Vals.drop:∀ {xs:List V}{us:List Value} (n:Nat),Vals xs us→Vals (xs.drop n) (us.drop n)
 | _,_,0,r=>r
 | _,_,_ + 1,.nil=>.nil
 | _,_,n + 1,.cons _ t=>Vals.drop n t
def RelO:Option V→Option Value→Prop
 | some v,some u=>RelV v u
 | none,none=>True
 | _,_=>False
def KV {κ:Type}:List (κ×V)→List (κ×Value)→Prop:=Paired fun (p:κ×V) (q:κ×Value)=>p.1=q.1∧RelV p.2 q.2
def kV:Key→V
 | .inl i=>.int i
 | .inr x=>.str x
def PlainT (h:Heap) (a:Addr) (items:Array Value):Prop:=∃ o,h.get? a=some o∧o.cls=.type "tuple"∧o.dict=none∧∃ n,o.data=.seq items n
theorem PlainT.isTup {h:Heap}{a:Addr}{items:Array Value} (x:PlainT h a items):IsTup h a items:=let ⟨o,e,c,_,d⟩:=x;⟨o,e,c,d⟩
theorem PlainT.lt {h:Heap}{a:Addr}{items:Array Value} (x:PlainT h a items):a < h.objs.size:=let ⟨_,e,_⟩:=x;Heap.lt_size e
theorem PlainT.new (h:Heap) (items:Array Value):PlainT (h.push { cls:=.type "tuple",data:=.seq items }) h.objs.size items:=⟨_,Heap.get?_push_size _ rfl,rfl,rfl,_,rfl⟩
inductive HO where
 | lst (xs:List V)
 | tup (xs:List V)
 | dK (kvs:List (Key×V)) | dT (kvs:List (List Key×V))
 | set (S:Int→Bool) (n:Nat)
 | ins (C dx:Addr) (fs:List (Str×V))
 | own (x:Addr)
 | xd (fs:List (Str×V))
 | met (f x:Addr)
 | rng (lo hi:Int)
 | frz (o:Obj) (u:HO)
 | tbl (ps:Array Value)
 | ext (φ:Heap→Prop)
abbrev Hp:=Addr→Option HO
def upd (H:Hp) (a:Addr) (o:HO):Hp:=fun b=>if b=a then some o else H b
theorem upd_same {H:Hp}{a:Addr}{o:HO}:upd H a o a=some o:=by unfold upd;rw [if_pos rfl]
theorem upd_ne {H:Hp}{a b:Addr}{o:HO} (h:b≠a):upd H a o b=H b:=by unfold upd;rw [if_neg h]
theorem ne_of {H:Hp}{a b:Addr}{o u:HO} (h:H a=some o) (h':H b=some u) (d:o≠u):a≠b:=by
 intro e;subst e;rw [h] at h';exact d (Option.some.inj h')
theorem ne_of_none {H:Hp}{a b:Addr}{o:HO} (h:H a=some o) (h':H b=none):a≠b:=by
 intro e;subst e;rw [h] at h';cases h'
section
variable (P:Program) (w:World)
def ObjOk (H:Hp) (h:Heap) (a:Addr):HO→Prop
 | .lst xs=>xs.length≤sizeLine∧∃ (its:List Value) (n:Nat),Vals xs its∧h.get? a=some { cls:=.type "list",data:=.seq its.toArray n }
 | .tup xs=>xs.length≤sizeLine∧∃ its:List Value,Vals xs its∧PlainT h a its.toArray
 | .dK kvs=>kvs.length≤sizeLine∧(a == sysModules)=false∧∃ vs,KV kvs vs∧h.DictOf (mixKind P w) a vs
 | .dT kvs=>kvs.length≤sizeLine∧(a == sysModules)=false∧∃ xs:List (List Key×Addr×Value),
   Paired (fun (p:List Key×V) (q:List Key×Addr×Value)=>p.1=q.1∧H q.2.1=some (.tup (p.1.map kV))∧RelV p.2 q.2.2) kvs xs ∧
   ∃ o es ep,h.get? a=some o∧o.ExactDict∧o.data=.dict es ep∧es.toList=xs.map (entryOfKey (tupleKind (mixKind P w)))∧(xs.map (·.1)).Nodup
 | .set S n=>h.SetOf (intKind P w) a S n
 | .ins C dx fs=>H dx=some (.own a)∧fs.length≤1000∧dx≠a∧h.get? a=some (PySem.W.instObj C dx) ∧
   ∃ mA,h.Ns1 dx mA∧(∀ f,RelO (fs.lookup f) (mA f))∧PySem.Within mA (fs.map (·.1))
 | .own _=>∃ o,h.get? a=some o
 | .xd fs=>∃ mA,h.Ns1 a mA∧∀ f,RelO (fs.lookup f) (mA f)
 | .rng lo hi=>∃ t u v,h.get? a=some { cls:=.type "range",data:=.fields #[.int lo t,.int hi u,.int 1 v] }
 | .frz o u=>h.get? a=some o∧ObjOk H h a u
 | .tbl ps=>h.get? a=some { cls:=.none,data:=.fields ps }
 | .met f x=>h.get? a=some (PySem.W.methodObj (.ref f) (.ref x))
 | .ext φ=>φ h∧(∃ o,h.get? a=some o)∧∀ h1 h2:Heap,φ h1→(∀ o,h1.get? a=some o→h2.get? a=some o)→φ h2
def HOk (H:Hp) (h:Heap):Prop:=∀ a o,H a=some o→ObjOk P w H h a o
end
section
variable {P:Program}{w:World}{H H':Hp}{h h':Heap}{a:Addr}{o:HO}
theorem ObjOk.lt (x:ObjOk P w H h a o):a < h.objs.size:=by
 cases o with
 | lst xs=>obtain ⟨_,_,_,_,e⟩:=x;exact Heap.lt_size e
 | tup xs=>obtain ⟨_,_,_,p⟩:=x;exact p.lt
 | dK kvs=>obtain ⟨_,_,_,_,o,_,_,e,_⟩:=x;exact Heap.lt_size e
 | dT kvs=>obtain ⟨_,_,_,_,o,_,_,e,_⟩:=x;exact Heap.lt_size e
 | set S n=>obtain ⟨o,_,_,_,e,_⟩:=x;exact Heap.lt_size e
 | ins C dx fs=>obtain ⟨_,_,_,e,_⟩:=x;exact Heap.lt_size e
 | own y=>obtain ⟨_,e⟩:=x;exact Heap.lt_size e
 | xd fs=>obtain ⟨_,⟨_,_,_,e,_⟩,_⟩:=x;exact Heap.lt_size e
 | rng lo hi=>obtain ⟨_,_,_,e⟩:=x;exact Heap.lt_size e
 | frz ob u=>obtain ⟨e,_⟩:=x;exact Heap.lt_size e
 | tbl ps=>exact Heap.lt_size (show h.get? a=some _ from x)
 | met f y=>exact Heap.lt_size (show h.get? a=some _ from x)
 | ext φ=>obtain ⟨_,⟨_,e⟩,_⟩:=x;exact Heap.lt_size e
theorem Paired.mapP {α β:Type}{F G:α→β→Prop}:∀ {l₁:List α}{l₂:List β},Paired F l₁ l₂→(∀ a b,F a b→G a b)→Paired G l₁ l₂
 | _,_,.nil,_=>.nil
 | _,_,.cons r t,f=>.cons (f _ _ r) (Paired.mapP t f)
theorem ObjOk.stay (x:ObjOk P w H h a o) (k:∀ b u,(b=a∨H b=some (.own a))→h.get? b=some u→h'.get? b=some u)
  (ho:∀ b,H b=some (.own a)→H' b=some (.own a)) (ht:∀ b xs,H b=some (.tup xs)→H' b=some (.tup xs)):ObjOk P w H' h' a o:=by
 induction o with
 | lst xs=>obtain ⟨z,its,n,r,e⟩:=x;exact ⟨z,its,n,r,k _ _ (.inl rfl) e⟩
 | tup xs=>obtain ⟨z,its,r,ob,e,c⟩:=x;exact ⟨z,its,r,ob,k _ _ (.inl rfl) e,c⟩
 | dK kvs=>obtain ⟨z,y,vs,r,ob,es,ep,e,c⟩:=x;exact ⟨z,y,vs,r,ob,es,ep,k _ _ (.inl rfl) e,c⟩
 | dT kvs=>
  obtain ⟨z,y,xs,r,ob,es,ep,e,c⟩:=x
  exact ⟨z,y,xs,Paired.mapP r fun p q z=>⟨z.1,ht _ _ z.2.1,z.2.2⟩,ob,es,ep,k _ _ (.inl rfl) e,c⟩
 | set S n=>obtain ⟨ob,es,ep,t,e,c⟩:=x;exact ⟨ob,es,ep,t,k _ _ (.inl rfl) e,c⟩
 | ins C dx fs=>
  obtain ⟨d,z,ne,e,mA,⟨od,es,ep,e2,c⟩,r⟩:=x
  exact ⟨ho _ d,z,ne,k _ _ (.inl rfl) e,mA,⟨od,es,ep,k _ _ (.inr d) e2,c⟩,r⟩
 | own y=>obtain ⟨ob,e⟩:=x;exact ⟨ob,k _ _ (.inl rfl) e⟩
 | xd fs=>obtain ⟨mA,⟨od,es,ep,e,c⟩,r⟩:=x;exact ⟨mA,⟨od,es,ep,k _ _ (.inl rfl) e,c⟩,r⟩
 | rng lo hi=>obtain ⟨t,u,v,e⟩:=x;exact ⟨t,u,v,k _ _ (.inl rfl) e⟩
 | frz ob u ih=>obtain ⟨e,q⟩:=x;exact ⟨k _ _ (.inl rfl) e,ih q⟩
 | tbl ps=>
  have e:h.get? a=some { cls:=.none,data:=.fields ps }:=x
  show h'.get? a=some { cls:=.none,data:=.fields ps }
  exact k a _ (.inl rfl) e
 | met f y=>
  have e:h.get? a=some (PySem.W.methodObj (.ref f) (.ref y)):=x
  show h'.get? a=some (PySem.W.methodObj (.ref f) (.ref y))
  exact k a _ (.inl rfl) e
 | ext φ=>obtain ⟨p,⟨o,e⟩,st⟩:=x;exact ⟨st _ _ p fun o q=>k _ _ (.inl rfl) q,⟨o,k _ _ (.inl rfl) e⟩,st⟩
theorem HOk.lt (x:HOk P w H h) (e:H a=some o):a < h.objs.size:=(x a o e).lt
theorem HOk.fresh (x:HOk P w H h) (e:h.objs.size≤a):H a=none:=by
 cases q:H a with
 | none=>rfl
 | some u=>exact absurd (Nat.lt_of_lt_of_le (x.lt q) e) (Nat.lt_irrefl _)
theorem HOk.kept (x:HOk P w H h) (k:∀ b u,h.get? b=some u→h'.get? b=some u):HOk P w H h':=fun a o e=>
 (x a o e).stay (fun b u _ q=>k b u q) (fun _ q=>q) fun _ _ q=>q
theorem HOk.laid (x:HOk P w H h) (k:∀ b u,h.get? b=some u→h'.get? b=some u) (hp:h.objs.size≤a) (new:ObjOk P w (upd H a o) h' a o):HOk P w (upd H a o) h':=fun b u e=>by
 have hn:=x.fresh hp
 by_cases hb:b=a
 ·subst hb;rw [upd_same] at e;cases e;exact new
 ·rw [upd_ne hb] at e
  exact (x b u e).stay (fun c v _ q=>k c v q) (fun c q=>by rw [upd_ne (ne_of_none q hn)];exact q) fun c xs q=>by rw [upd_ne (ne_of_none q hn)];exact q
end
def Rd (H:Hp) (a:Addr) (u:HO):Prop:=H a=some u∨∃ o,H a=some (.frz o u)
theorem Rd.ok {P:Program}{w:World}{H:Hp}{h:Heap}{a:Addr}{u:HO} (r:Rd H a u) (x:HOk P w H h):ObjOk P w H h a u:=by
 rcases r with r | ⟨o,r⟩
 ·exact x a u r
 ·obtain ⟨_,q⟩:=x a _ r
  exact q
def Mut:Option HO→Prop
 | some (.lst _)=>True
 | some (.dK _)=>True
 | some (.dT _)=>True
 | some (.set _ _)=>True
 | some (.ins _ _ _)=>True
 | some (.ext _)=>True
 | _=>False
section
variable {P:Program}{w:World}{H:Hp}{h h':Heap}{x e:Addr}{o':HO}
theorem HOk.write (ok:HOk P w H h) (mu:Mut (H x)) (he:e=x∨H e=some (.own x)) (k:∀ b u,b≠e→h.get? b=some u→h'.get? b=some u) (heo:∃ u,h'.get? e=some u)
  (new:ObjOk P w (upd H x o') h' x o'):HOk P w (upd H x o') h':=fun b u q=>by
 have nown:∀ c y,H c=some (.own y)→c≠x:=fun c y r z=>by subst z;rw [r] at mu;exact mu
 have ntup:∀ c xs,H c=some (.tup xs)→c≠x:=fun c xs r z=>by subst z;rw [r] at mu;exact mu
 by_cases hb:b=x
 ·subst hb;rw [upd_same] at q;cases q;exact new
 ·rw [upd_ne hb] at q
  by_cases hbe:b=e
  ·have q':H b=some (.own x):=by
    rcases he with z | z
    ·exact absurd (hbe.trans z) hb
    ·rw [hbe];exact z
   rw [q] at q';cases q'
   obtain ⟨v,hv⟩:=heo
   exact ⟨v,by rw [hbe];exact hv⟩
  ·refine (ok b u q).stay (fun c v hc r=>k c v ?_ r) (fun c r=>by rw [upd_ne (nown c b r)];exact r) fun c xs r=>by rw [upd_ne (ntup c xs r)];exact r
   rcases hc with rfl | hc
   ·exact hbe
   ·rintro rfl
    rcases he with z | z
    ·exact nown c b hc z
    ·rw [hc] at z;cases z;exact hb rfl
end
structure Un (fs ex:List Addr) (H H':Hp) (h h':Heap):Prop where
 keep:∀ b o,h.get? b=some o→H b=none→b∉fs→b∉ex→h'.get? b=some o
 slot:∀ b o,h.get? b=some o→H b=none→b∈fs→b∉ex→∃ sl,h'.get? b=some { o with slots:=sl }
 free:∀ b o,h.get? b=some o→H b=none→b∉ex→H' b=none
 there:∀ b o,h.get? b=some o→b∉ex→∃ o',h'.get? b=some o'
 tups:∀ b xs,H b=some (.tup xs)→H' b=some (.tup xs)
 frzs:∀ b o u,H b=some (.frz o u)→H' b=some (.frz o u)
 tbls:∀ b ps,H b=some (.tbl ps)→∃ more,H' b=some (.tbl (ps++more))
section
variable {fs fs' ex ex':List Addr}{H H1 H2:Hp}{h h1 h2 h':Heap}{a x e:Addr}{o:HO}
theorem Un.any (u:Un fs ex H H1 h h1) {b:Addr}{ob:Obj} (q:h.get? b=some ob) (n:H b=none) (hx:b∉ex):∃ sl,h1.get? b=some { ob with slots:=sl }:=by
 by_cases hb:b∈fs
 ·exact u.slot b ob q n hb hx
 ·exact ⟨ob.slots,u.keep b ob q n hb hx⟩
theorem Un.kept (k:∀ b u,h.get? b=some u→h'.get? b=some u):Un fs ex H H h h':=
 ⟨fun b ob q _ _ _=>k b ob q,fun b ob q _ _ _=>⟨ob.slots,k b ob q⟩,fun _ _ _ n _=>n,fun b ob q _=>⟨ob,k b ob q⟩,fun _ _ q=>q,fun _ _ _ q=>q,fun _ ps q=>⟨#[],by rw [q];simp⟩⟩
theorem Un.refl:Un fs ex H H h h:=Un.kept fun _ _ q=>q
theorem Un.laid (k:∀ b u,h.get? b=some u→h'.get? b=some u) (hp:h.objs.size≤a) (hn:H a=none):Un fs ex H (upd H a o) h h' where
 keep:=fun b u q _ _ _=>k b u q
 slot:=fun b u q _ _ _=>⟨u.slots,k b u q⟩
 free:=fun b u q n _=>by rw [upd_ne (Nat.ne_of_lt (Nat.lt_of_lt_of_le (Heap.lt_size q) hp))];exact n
 there:=fun b u q _=>⟨u,k b u q⟩
 tups:=fun b xs q=>by rw [upd_ne (ne_of_none q hn)];exact q
 frzs:=fun b u xs q=>by rw [upd_ne (ne_of_none q hn)];exact q
 tbls:=fun b ps q=>⟨#[],by rw [upd_ne (ne_of_none q hn),q];simp⟩
theorem Un.write (mu:Mut (H x)) (he:e=x∨H e=some (.own x)) (k:∀ b u,b≠e→h.get? b=some u→h'.get? b=some u) (heo:∃ u,h'.get? e=some u):Un fs ex H (upd H x o) h h':=by
 have hx:∀ b,H b=none→b≠x:=fun b n z=>by subst z;rw [n] at mu;exact mu
 have hb:∀ b,H b=none→b≠e:=fun b n z=>by
  subst z
  rcases he with r | r
  ·exact hx b n r
  ·rw [n] at r;cases r
 have hm:∀ b u,H b=some u→¬ Mut (some u)→b≠x:=fun b u q nm z=>by subst z;rw [q] at mu;exact nm mu
 refine ⟨fun b u q n _ _=>k b u (hb b n) q,fun b u q n _ _=>⟨u.slots,k b u (hb b n) q⟩,fun b u q n _=>by rw [upd_ne (hx b n)];exact n,fun b u q _=>?_,
  fun b xs q=>by rw [upd_ne (hm b _ q fun z=>z)];exact q,fun b u xs q=>by rw [upd_ne (hm b _ q fun z=>z)];exact q,fun b ps q=>⟨#[],by rw [upd_ne (hm b _ q fun z=>z),q];simp⟩⟩
 by_cases hbe:b=e
 ·subst hbe;exact heo
 ·exact ⟨u,k b u hbe q⟩
end
def trk (h:Heap) (H:Hp):List Addr:=(List.range h.objs.size).filter fun a=>(H a).isSome
def hidT (h:Heap) (H:Hp):Heap:=PySem.W.hideAll h (trk h H)
theorem hidT_size (h:Heap) (H:Hp):(hidT h H).objs.size=h.objs.size:=PySem.W.hideAll_size _ _
theorem hidT_get {h:Heap}{H:Hp}{b:Addr}{o:Obj} (e:h.get? b=some o) (n:H b=none):(hidT h H).get? b=some o:=
 PySem.W.hideAll_get _ e fun hm=>by
  have q:(H b).isSome=true:=(List.mem_filter.mp hm).2
  rw [n] at q;simp at q
theorem of_hidT {h:Heap}{H:Hp}{b:Addr}{o:Obj} (e:(hidT h H).get? b=some o):h.get? b=some o∧H b=none:=by
 have e':h.get? b=some o:=PySem.W.of_hideAll (trk h H) e
 refine ⟨e',?_⟩
 cases q:H b with
 | none=>rfl
 | some x=>
  have hm:b∈trk h H:=List.mem_filter.mpr ⟨List.mem_range.mpr (Heap.lt_size e'),by simp [q]⟩
  have z:(hidT h H).get? b=none:=PySem.W.hideAll_none (trk h H) hm
  rw [z] at e;cases e
structure Mod (K:PySem.W.Frag) (mg:Str→Option Value) (base:Heap):Prop where
 kin:K.In base
 glob:base.Ns mainGlobals mg
 blt:∃ mb,base.Ns builtinsNs mb∧∀ x:Str,x≠"__name__"→mb x=bootBuiltins x
 nolimit:base.NoLimit
structure Cx where
 prog:Program
 w:World
 K:PySem.W.Frag
 mg:Str→Option Value
 base:Heap
 A:Around
 N:List Str
 s₀:Shared
 H₀:Hp
 env:Env
 outer:List Env
 stack:List Env
 ex:List Addr
 fn:Str→Bool
 calm:Bool
 pn:List (Addr×Obj)
 xe:Value→Shared→Prop
def frs (l:List Env):List Addr:=l.filterMap (·.frame)
abbrev Cx.fs (X:Cx):List Addr:=frs X.outer
def Vis (sc:Scope) (x:Str):Prop:=sc.names.lookup x=some .local∨sc.names.lookup x=some .cell∨sc.names.lookup x=some .free
def Loc (sc:Scope) (x:Str):Prop:=sc.names.lookup x=some .local∨sc.names.lookup x=some .cell
def Look (env:Env) (h:Heap) (m:Str→Option Value) (x:Str) (u:Value):Prop:=
 (env.kindOf x=some .local∧m x=some u)∨((env.kindOf x=some .cell∨env.kindOf x=some .free)∧∃ c,env.cells.lookup x=some c∧h.IsCell c (some u))
structure Cx.Ok (X:Cx):Prop where
 mod:Mod X.K X.mg X.base
 kind:X.env.scope.kind=.function
 glob:X.env.globals=mainGlobals
 blt:X.env.builtins=builtinsNs
 above:X.s₀.heap.objs.size≤X.env.locals
 inj:∀ x y c,X.env.cells.lookup x=some c→X.env.cells.lookup y=some c→x=y
 has:∀ x,(X.env.kindOf x=some .cell∨X.env.kindOf x=some .free)→∃ c,X.env.cells.lookup x=some c
 cab:∀ x c,X.fn x=true→X.env.cells.lookup x=some c→X.s₀.heap.objs.size≤c
 hd:X.calm=true→X.A.handled=none
 frames:X.A.frames=some X.stack
 stk:X.stack=X.outer∨(X.stack=X.env::X.outer∧X.env.frame=some X.env.locals)
 exf:∀ b∈X.ex,b≠X.env.locals∧∀ x c,X.env.cells.lookup x=some c→c≠b
 bs:∀ b o,X.base.get? b=some o→X.s₀.heap.get? b=some o∧X.H₀ b=none
 bsz:X.base.objs.size≤X.s₀.heap.objs.size
 noex:∀ b o,X.base.get? b=some o→b∉X.ex
 exfs:∀ b∈X.ex,b∉X.fs
 funs:X.s₀.heap.FunFrames X.base X.outer
 frf:∀ b∈X.fs,X.H₀ b=none
def HdOk (A:Around) (H:Hp):Prop:=A.handled=none∨∃ (a:Addr) (ob:Obj) (u:HO) (vs:Array Value),A.handled=some (.ref a)∧H a=some (.frz ob u)∧ob.data=.fields vs∧vs[2]? = some .none
theorem HdOk.mono {A:Around}{H H':Hp} (h:HdOk A H) (f:∀ b o u,H b=some (.frz o u)→H' b=some (.frz o u)):HdOk A H':=h.elim .inl fun ⟨a,ob,u,vs,h1,h2,h3⟩=>.inr ⟨a,ob,u,vs,h1,f _ _ _ h2,h3⟩
structure Inv (X:Cx) (pins:List (Addr×Obj)) (σ:List (Option V)) (H:Hp) (s:Shared):Prop where
 ok:X.Ok
 os:s.os=X.s₀.os
 bare:AllBare s.gens
 base:Un X.fs X.ex X.H₀ H X.s₀.heap s.heap
 loc:∃ m,s.heap.Ns X.env.locals m∧∀ (i:Nat) (x:Str) (v:V),X.N[i]? = some x→σ[i]? = some (some v)→Vis X.env.scope x→∃ u,RelV v u∧Look X.env s.heap m x u
 cell:∀ x c,X.env.cells.lookup x=some c→∃ v,s.heap.IsCell c v
 free:H X.env.locals=none
 freeC:∀ x c,X.env.cells.lookup x=some c→H c=none
 pin:∀ p∈X.pn++pins,s.heap.get? p.1=some p.2∧H p.1=none∧p.1≠X.env.locals∧p.1∉X.fs∧∀ v,p.2.data≠.cell v
 hok:HOk X.prog X.w H s.heap
 len:σ.length=X.N.length
 hq:HdOk X.A H
section
variable {X:Cx}{pins:List (Addr×Obj)}{σ:List (Option V)}{H H':Hp}{s:Shared}{h':Heap}
theorem Cx.Ok.nofr (ok:X.Ok) {b:Addr}{o:Obj} (e:X.base.get? b=some o):b∉X.fs:=fun hb=>by
 have:=(ok.funs.mem hb).1
 rw [e] at this;cases this
theorem Inv.bs (I:Inv X pins σ H s):∀ b o,X.base.get? b=some o→s.heap.get? b=some o∧H b=none:=fun b o e=>
 ⟨I.base.keep b o (I.ok.bs b o e).1 (I.ok.bs b o e).2 (I.ok.nofr e) (I.ok.noex b o e),I.base.free b o (I.ok.bs b o e).1 (I.ok.bs b o e).2 (I.ok.noex b o e)⟩
theorem Inv.bk (I:Inv X pins σ H s):∀ b o,X.base.get? b=some o→s.heap.get? b=some o:=fun b o e=>(I.bs b o e).1
theorem Inv.mod (I:Inv X pins σ H s):Mod X.K X.mg X.base:=I.ok.mod
theorem Inv.kIn (I:Inv X pins σ H s):X.K.In s.heap:=I.ok.mod.kin.keeps I.bk
theorem Inv.lt (I:Inv X pins σ H s):X.env.locals < s.heap.objs.size:=let ⟨_,hn,_⟩:=I.loc;hn.lt
theorem Inv.sz (I:Inv X pins σ H s):X.s₀.heap.objs.size≤s.heap.objs.size:=Nat.le_trans I.ok.above (Nat.le_of_lt I.lt)
theorem Inv.nofs (I:Inv X pins σ H s) {a:Addr} (h:s.heap.objs.size≤a):a∉X.fs:=fun hb=>by
 obtain ⟨_,o,ho,_⟩:=I.ok.funs.mem hb
 exact absurd (Nat.lt_of_lt_of_le (Heap.lt_size ho) (Nat.le_trans I.sz h)) (Nat.lt_irrefl _)
theorem Inv.cne (I:Inv X pins σ H s):∀ x c,X.env.cells.lookup x=some c→c≠X.env.locals:=fun x c e z=>by
 obtain ⟨v,o,ho,hd⟩:=I.cell x c e
 obtain ⟨m,⟨o',es,ep,ho',hd',_⟩,_⟩:=I.loc
 rw [z,ho'] at ho;cases ho;rw [hd'] at hd;cases hd
theorem Inv.funs (I:Inv X pins σ H s):s.heap.FunFrames X.base X.outer:=by
 have all:∀ (l:List Env),(∀ b∈frs l,b∈X.fs)→X.s₀.heap.FunFrames X.base l→s.heap.FunFrames X.base l:=by
  intro l
  induction l with
  | nil=>intro _ _;trivial
  | cons env r ih=>
   intro hs hl
   obtain ⟨hk,⟨L,o,hf,hn,ho,hd⟩,hr⟩:=hl
   have hL:L∈X.fs:=hs L (by unfold frs;rw [List.filterMap_cons,hf];exact List.mem_cons_self)
   obtain ⟨sl,e⟩:=I.base.slot L o ho (I.ok.frf L hL) hL fun z=>I.ok.exfs L z hL
   exact ⟨hk,⟨L,_,hf,hn,e,hd⟩,ih (fun b hb=>hs b (by unfold frs;rw [List.filterMap_cons,hf];exact List.mem_cons_of_mem _ hb)) hr⟩
 exact all X.outer (fun _ hb=>hb) I.ok.funs
theorem Inv.stack (I:Inv X pins σ H s):s.heap.FunFrames X.base X.stack:=by
 rcases I.ok.stk with e | ⟨e,hf⟩
 ·rw [e];exact I.funs
 ·rw [e]
  obtain ⟨m,hn,_⟩:=I.loc
  refine .cons (by rw [I.ok.kind];decide) hf hn ?_ I.funs
  exact Heap.get?_none_of_le (Nat.le_trans I.ok.bsz I.ok.above)
theorem Inv.stkSub (I:Inv X pins σ H s):∀ b∈frs X.stack,b∈X.env.locals::X.fs:=fun b hb=>by
 rcases I.ok.stk with e | ⟨e,hf⟩
 ·rw [e] at hb;exact List.mem_cons_of_mem _ hb
 ·rw [e] at hb
  unfold frs at hb
  rw [List.filterMap_cons,hf] at hb
  exact hb
theorem Inv.stkFree (I:Inv X pins σ H s):∀ b∈frs X.stack,H b=none:=fun b hb=>by
 rcases List.mem_cons.mp (I.stkSub b hb) with e | hb
 ·rw [e];exact I.free
 ·obtain ⟨_,o,ho,_⟩:=I.ok.funs.mem hb
  exact I.base.free b o ho (I.ok.frf b hb) fun z=>I.ok.exfs b z hb
theorem Inv.step {g':Array GenState}{t':Nat}{d':Drawn}{ch:List Addr} (I:Inv X pins σ H s)
  (hch:∀ b∈ch,(b∈X.ex∨X.s₀.heap.objs.size≤b)∧b≠X.env.locals∧(∀ x c,X.env.cells.lookup x=some c→c≠b)∧∀ p∈X.pn++pins,p.1≠b)
  (keep:∀ b o,b≠X.env.locals→b∉X.fs→b∉ch→s.heap.get? b=some o→H b=none→h'.get? b=some o)
  (slot:∀ b o,b≠X.env.locals→b∈X.fs→b∉ch→s.heap.get? b=some o→H b=none→∃ sl,h'.get? b=some { o with slots:=sl }) (free:∀ b o,b∉ch→s.heap.get? b=some o→H b=none→H' b=none)
  (there:∀ b o,b∉ch→s.heap.get? b=some o→∃ o',h'.get? b=some o')
  (tups:∀ b xs,H b=some (.tup xs)→H' b=some (.tup xs)) (frzs:∀ b o u,H b=some (.frz o u)→H' b=some (.frz o u)) (tbls:∀ b ps,H b=some (.tbl ps)→∃ more,H' b=some (.tbl (ps++more)))
  (ns:∀ m,s.heap.Ns X.env.locals m→h'.Ns X.env.locals m) (hok:HOk X.prog X.w H' h') (hg:AllBare g') :
  Inv X pins σ H' { s with heap:=h',gens:=g',drawn:=d',toks:=t' }:=by
 have neL:∀ b o,X.s₀.heap.get? b=some o→b≠X.env.locals:=fun b o e=>Nat.ne_of_lt (Nat.lt_of_lt_of_le (Heap.lt_size e) I.ok.above)
 have neC:∀ b o,X.s₀.heap.get? b=some o→b∉X.ex→b∉ch:=fun b o e hx hb=>by
  rcases (hch b hb).1 with z | z
  ·exact hx z
  ·exact absurd (Nat.lt_of_lt_of_le (Heap.lt_size e) z) (Nat.lt_irrefl _)
 have cellK:∀ x c,X.env.cells.lookup x=some c→∀ v,s.heap.IsCell c v→h'.IsCell c v:=fun x c e v ⟨o,ho,hd⟩=>by
  have nch:c∉ch:=fun z=>(hch c z).2.2.1 x c e rfl
  by_cases hc:c∈X.fs
  ·obtain ⟨sl,q⟩:=slot c o (I.cne x c e) hc nch ho (I.freeC x c e)
   exact ⟨_,q,hd⟩
  ·exact ⟨o,keep c o (I.cne x c e) hc nch ho (I.freeC x c e),hd⟩
 refine ⟨I.ok,I.os,hg,⟨fun b o e n hb hx=>?_,fun b o e n hb hx=>?_,fun b o e n hx=>?_,fun b o e hx=>?_,fun b xs e=>tups b xs (I.base.tups b xs e),fun b o xs e=>frzs b o xs (I.base.frzs b o xs e),fun b ps e=>?_⟩,?_,fun x c e=>?_,?_,fun x c e=>?_,fun p hp=>?_,hok,I.len,I.hq.mono frzs⟩
 ·exact keep b o (neL b o e) hb (neC b o e hx) (I.base.keep b o e n hb hx) (I.base.free b o e n hx)
 ·obtain ⟨sl,e1⟩:=I.base.slot b o e n hb hx
  obtain ⟨sl',e2⟩:=slot b _ (neL b o e) hb (neC b o e hx) e1 (I.base.free b o e n hx)
  exact ⟨sl',e2⟩
 ·obtain ⟨o',e1⟩:=I.base.there b o e hx
  exact free b o' (neC b o e hx) e1 (I.base.free b o e n hx)
 ·obtain ⟨o',e1⟩:=I.base.there b o e hx
  exact there b o' (neC b o e hx) e1
 ·obtain ⟨m1,e1⟩:=I.base.tbls b ps e
  obtain ⟨m2,e2⟩:=tbls b _ e1
  exact ⟨m1++m2,by rw [e2,Array.append_assoc]⟩
 ·obtain ⟨m,hn,hl⟩:=I.loc
  refine ⟨m,ns m hn,fun i x v e1 e2 e3=>?_⟩
  obtain ⟨u,r,l⟩:=hl i x v e1 e2 e3
  refine ⟨u,r,?_⟩
  rcases l with l | ⟨k,c,e,z⟩
  ·exact .inl l
  ·exact .inr ⟨k,c,e,cellK x c e _ z⟩
 ·obtain ⟨v,z⟩:=I.cell x c e
  exact ⟨v,cellK x c e v z⟩
 ·obtain ⟨m,⟨o,_,_,ho,_⟩,_⟩:=I.loc
  exact free _ o (fun z=>(hch _ z).2.1 rfl) ho I.free
 ·obtain ⟨v,o,ho,hd⟩:=I.cell x c e
  exact free c o (fun z=>(hch c z).2.2.1 x c e rfl) ho (I.freeC x c e)
 ·obtain ⟨e,n,ne,nf,d⟩:=I.pin p hp
  have nch:p.1∉ch:=fun z=>(hch p.1 z).2.2.2 p hp rfl
  exact ⟨keep p.1 p.2 ne nf nch e n,free p.1 p.2 nch e n,ne,nf,d⟩
theorem Inv.un {t':Nat} (I:Inv X pins σ H s) (u:Un X.fs [] H H' s.heap h') (hok:HOk X.prog X.w H' h'):Inv X pins σ H' { s with heap:=h',toks:=t' }:=by
 obtain ⟨m,⟨o,es,ep,ho,r⟩,_⟩:=id I.loc
 obtain ⟨sl,hL⟩:=u.any ho I.free (by simp)
 exact I.step (g':=s.gens) (d':=s.drawn) (ch:=[]) (fun _ z=>nomatch z) (fun b o _ hb _ e n=>u.keep b o e n hb (by simp)) (fun b o _ hb _ e n=>u.slot b o e n hb (by simp)) (fun b o _ e n=>u.free b o e n (by simp)) (fun b o _ e=>u.there b o e (by simp)) u.tups u.frzs u.tbls (fun m' hm=>by
  obtain ⟨o',es',ep',ho',r'⟩:=hm
  rw [ho] at ho';cases ho'
  exact ⟨_,es',ep',hL,r'⟩) hok I.bare
theorem Inv.call {g':Array GenState}{t':Nat}{d':Drawn}{ch:List Addr} (I:Inv X pins σ H s) (u:Un (frs X.stack) ch H H' s.heap h') (hok:HOk X.prog X.w H' h') (hg:AllBare g')
  (hch:∀ b∈ch,(b∈X.ex∨X.s₀.heap.objs.size≤b)∧b≠X.env.locals∧(∀ x c,X.env.cells.lookup x=some c→c≠b)∧∀ p∈X.pn++pins,p.1≠b) :
  Inv X pins σ H' { s with heap:=h',gens:=g',drawn:=d',toks:=t' }:=by
 obtain ⟨m,⟨o,es,ep,ho,r⟩,_⟩:=id I.loc
 obtain ⟨sl,hL⟩:=u.any ho I.free fun z=>(hch _ z).2.1 rfl
 exact I.step (ch:=ch) hch (fun b o hL hb hc e n=>u.keep b o e n (fun z=>(List.mem_cons.mp (I.stkSub b z)).elim hL hb) hc) (fun b o _ _ hc e n=>u.any e n hc) (fun b o hc e n=>u.free b o e n hc) (fun b o hc e=>u.there b o e hc) u.tups u.frzs u.tbls (fun m' hm=>by
  obtain ⟨o',es',ep',ho',r'⟩:=hm
  rw [ho] at ho';cases ho'
  exact ⟨_,es',ep',hL,r'⟩) hok hg
theorem Inv.turned {t':Nat}{it:Addr} (I:Inv X pins σ H s) (k:∀ b o,b≠it→s.heap.get? b=some o→h'.get? b=some o) (hn:H it=none) (hL:it≠X.env.locals)
  (h1:it∈X.ex∨X.s₀.heap.objs.size≤it) (h2:∀ x c,X.env.cells.lookup x=some c→c≠it) (h3:∀ p∈X.pn++pins,p.1≠it):Inv X pins σ H { s with heap:=h',toks:=t' }:=by
 have nit:∀ b u,H b=some u→b≠it:=fun b u e z=>by rw [z,hn] at e;cases e
 refine I.step (g':=s.gens) (d':=s.drawn) (ch:=[it]) (fun b hb=>?_) (fun b o _ _ hc e _=>k b o (fun z=>hc (by simp [z])) e) (fun b o _ _ hc e _=>⟨o.slots,k b o (fun z=>hc (by simp [z])) e⟩) (fun _ _ _ _ n=>n)
  (fun b o hc e=>⟨o,k b o (fun z=>hc (by simp [z])) e⟩) (fun _ _ e=>e) (fun _ _ _ e=>e) (fun b ps e=>⟨#[],by rw [e];simp⟩) (fun m hm=>?_) (fun b u e=>?_) I.bare
 ·have e:b=it:=by simpa using hb
  subst e
  exact ⟨h1,hL,h2,h3⟩
 ·obtain ⟨o,es,ep,ho,r⟩:=hm
  exact ⟨o,es,ep,k _ o (Ne.symm hL) ho,r⟩
 ·refine (I.hok b u e).stay (fun c v hc q=>k c v ?_ q) (fun _ q=>q) fun _ _ q=>q
  rcases hc with z | z
  ·rw [z];exact nit b u e
  ·exact nit c _ z
theorem Inv.tok (I:Inv X pins σ H s) (t:Nat):Inv X pins σ H { s with toks:=t }:=I.un (h':=s.heap) (t':=t) Un.refl I.hok
theorem Inv.kept {t':Nat} (I:Inv X pins σ H s) (k:∀ b u,s.heap.get? b=some u→h'.get? b=some u):Inv X pins σ H { s with heap:=h',toks:=t' }:=I.un (Un.kept k) (I.hok.kept k)
theorem Inv.laid {a:Addr}{o:HO}{t':Nat} (I:Inv X pins σ H s) (k:∀ b u,s.heap.get? b=some u→h'.get? b=some u) (hp:s.heap.objs.size≤a) (new:ObjOk X.prog X.w (upd H a o) h' a o) :
  Inv X pins σ (upd H a o) { s with heap:=h',toks:=t' }:=I.un (Un.laid k hp (I.hok.fresh hp)) (I.hok.laid k hp new)
theorem Inv.write {x e:Addr}{o:HO}{t':Nat} (I:Inv X pins σ H s) (mu:Mut (H x)) (he:e=x∨H e=some (.own x)) (k:∀ b u,b≠e→s.heap.get? b=some u→h'.get? b=some u) (heo:∃ u,h'.get? e=some u)
  (new:ObjOk X.prog X.w (upd H x o) h' x o):Inv X pins σ (upd H x o) { s with heap:=h',toks:=t' }:=I.un (Un.write mu he k heo) (I.hok.write mu he k heo new)
theorem Inv.pins_of {pins':List (Addr×Obj)} (I:Inv X pins σ H s) (h:∀ p∈pins',s.heap.get? p.1=some p.2∧H p.1=none∧p.1≠X.env.locals∧p.1∉X.fs∧∀ v,p.2.data≠.cell v):Inv X pins' σ H s:=
 ⟨I.ok,I.os,I.bare,I.base,I.loc,I.cell,I.free,I.freeC,fun p hp=>(List.mem_append.mp hp).elim (fun z=>I.pin p (List.mem_append_left _ z)) (h p),I.hok,I.len,I.hq⟩
theorem nodup_ix {N:List Str} (hN:N.Nodup) {i j:Nat}{x:Str} (a:N[i]? = some x) (b:N[j]? = some x):i=j:=by
 obtain ⟨h1,e1⟩:=List.getElem?_eq_some_iff.mp a
 obtain ⟨h2,e2⟩:=List.getElem?_eq_some_iff.mp b
 exact (List.getElem_inj hN).mp (e1.trans e2.symm)
theorem store_ok2 {M:Model}{A:Around}{E:Value→Shared→Prop}{i:Nat}{x:Str}{v:V}{u:Value}{Q:Unit→Shared→Prop} (I:Inv X pins σ H s) (hN:X.N.Nodup) (hi:X.N[i]? = some x) (hx:Loc X.env.scope x) (r:RelV v u)
  (h:∀ s',Inv X pins (σ.set i (some v)) H s'→(∃ a,Heap.SameBut a s.heap s'.heap∧(a=X.env.locals∨X.env.cells.lookup x=some a))→Q () s') (hf:X.fn x=true∨X.env.scope.names.lookup x=some .local:=by first | exact .inl rfl | exact .inr rfl | assumption):wpAny M A (storeName X.env x u) Q E s:=by
 obtain ⟨m,hn,hl⟩:=id I.loc
 have hcls:(X.env.scope.kind == .class||(X.env.scope.kind == .module&&X.env.locals != X.env.globals))=false:=by rw [I.ok.kind];rfl
 have hiσ:i < σ.length:=by rw [I.len];exact (List.getElem?_eq_some_iff.mp hi).1
 have cne:=I.cne
 have tracked:∀ {a:Addr}{h':Heap},(∃ o,s.heap.get? a=some o∧H a=none)→Heap.SameBut a s.heap h'→HOk X.prog X.w H h':=fun {a h'} ha hs b ob e=>by
  obtain ⟨_,_,hfree⟩:=ha
  refine (I.hok b ob e).stay (fun c w' hc q=>(hs.2 c ?_).trans q) (fun _ q=>q) fun _ _ q=>q
  rintro rfl
  rcases hc with rfl | hc
  ·rw [hfree] at e;cases e
  ·rw [hfree] at hc;cases hc
 rcases hx with hk | hk
 ·refine wpAny_storeName_local hk hn (fun h' hn' hs=>?_) hcls
  obtain ⟨oL,_,_,hoL,_⟩:=id hn
  refine h _ ⟨I.ok,I.os,I.bare,⟨fun b o e n hb hx=>?_,fun b o e n hb hx=>?_,I.base.free,fun b o e hx=>?_,I.base.tups,I.base.frzs,I.base.tbls⟩,⟨_,hn',fun j y v' e1 e2 e3=>?_⟩,fun y c e=>?_,I.free,I.freeC,fun p hp=>?_,tracked ⟨oL,hoL,I.free⟩ hs,by simpa using I.len,I.hq⟩ ⟨_,hs,.inl rfl⟩
  ·exact (hs.2 b (Nat.ne_of_lt (Nat.lt_of_lt_of_le (Heap.lt_size e) I.ok.above))).trans (I.base.keep b o e n hb hx)
  ·obtain ⟨sl,e1⟩:=I.base.slot b o e n hb hx
   exact ⟨sl,(hs.2 b (Nat.ne_of_lt (Nat.lt_of_lt_of_le (Heap.lt_size e) I.ok.above))).trans e1⟩
  ·obtain ⟨o',e1⟩:=I.base.there b o e hx
   exact ⟨o',(hs.2 b (Nat.ne_of_lt (Nat.lt_of_lt_of_le (Heap.lt_size e) I.ok.above))).trans e1⟩
  ·by_cases hj:j=i
   ·subst hj
    rw [hi] at e1;cases e1
    rw [List.getElem?_set_self hiσ] at e2
    cases e2
    exact ⟨u,r,.inl ⟨hk,by simp⟩⟩
   ·rw [List.getElem?_set_ne (Ne.symm hj)] at e2
    obtain ⟨u',r',q⟩:=hl j y v' e1 e2 e3
    refine ⟨u',r',?_⟩
    rcases q with ⟨k,e⟩ | ⟨k,c,e,z⟩
    ·refine .inl ⟨k,?_⟩
     have:y≠x:=fun e=>hj (nodup_ix hN e1 (e ▸ hi))
     simp [this,e]
    ·exact .inr ⟨k,c,e,z.sameBut hs (cne y c e)⟩
  ·obtain ⟨w',z⟩:=I.cell y c e
   exact ⟨w',z.sameBut hs (cne y c e)⟩
  ·obtain ⟨e,n,ne,nf,d⟩:=I.pin p hp
   exact ⟨(hs.2 p.1 ne).trans e,n,ne,nf,d⟩
 ·have hfn:X.fn x=true:=by
   rcases hf with z | z
   ·exact z
   ·rw [z] at hk;cases hk
  obtain ⟨c,hc⟩:=I.ok.has x (.inl hk)
  obtain ⟨w',z⟩:=I.cell x c hc
  refine wpAny_storeName_cell I.ok.kind hk hc z (fun h' hc' hs=>?_)
  obtain ⟨oc,hoc,hocd⟩:=id z
  refine h { s with heap:=h' } ⟨I.ok,I.os,I.bare,⟨fun b o e n hb hx=>?_,fun b o e n hb hx=>?_,I.base.free,fun b o e hx=>?_,I.base.tups,I.base.frzs,I.base.tbls⟩,⟨m,hn.sameBut hs (Ne.symm (cne x c hc)),fun j y v' e1 e2 e3=>?_⟩,fun y c' e=>?_,I.free,I.freeC,fun p hp=>?_,tracked ⟨oc,hoc,I.freeC x c hc⟩ hs,by simpa using I.len,I.hq⟩ ⟨c,hs,.inr hc⟩
  ·exact (hs.2 b (Nat.ne_of_lt (Nat.lt_of_lt_of_le (Heap.lt_size e) (I.ok.cab x c hfn hc)))).trans (I.base.keep b o e n hb hx)
  ·obtain ⟨sl,e1⟩:=I.base.slot b o e n hb hx
   exact ⟨sl,(hs.2 b (Nat.ne_of_lt (Nat.lt_of_lt_of_le (Heap.lt_size e) (I.ok.cab x c hfn hc)))).trans e1⟩
  ·obtain ⟨o',e1⟩:=I.base.there b o e hx
   exact ⟨o',(hs.2 b (Nat.ne_of_lt (Nat.lt_of_lt_of_le (Heap.lt_size e) (I.ok.cab x c hfn hc)))).trans e1⟩
  ·by_cases hj:j=i
   ·subst hj
    rw [hi] at e1;cases e1
    rw [List.getElem?_set_self hiσ] at e2
    cases e2
    exact ⟨u,r,.inr ⟨.inl hk,c,hc,hc'⟩⟩
   ·rw [List.getElem?_set_ne (Ne.symm hj)] at e2
    obtain ⟨u',r',q⟩:=hl j y v' e1 e2 e3
    refine ⟨u',r',?_⟩
    rcases q with q | ⟨k,c',e,z'⟩
    ·exact .inl q
    ·refine .inr ⟨k,c',e,z'.sameBut hs ?_⟩
     rintro rfl
     exact hj (nodup_ix hN e1 (I.ok.inj _ _ _ e hc ▸ hi))
  ·by_cases hcc:c'=c
   ·subst hcc;exact ⟨_,hc'⟩
   ·obtain ⟨w2,z2⟩:=I.cell y c' e
    exact ⟨w2,z2.sameBut hs hcc⟩
  ·obtain ⟨e,n,ne,nf,d⟩:=I.pin p hp
   refine ⟨(hs.2 p.1 ?_).trans e,n,ne,nf,d⟩
   intro q
   rw [q,hoc] at e
   have q':oc=p.2:=Option.some.inj e
   exact d w' (by rw [← q'];exact hocd)
theorem store_ok {M:Model}{A:Around}{E:Value→Shared→Prop}{i:Nat}{x:Str}{v:V}{u:Value}{Q:Unit→Shared→Prop} (I:Inv X pins σ H s) (hN:X.N.Nodup) (hi:X.N[i]? = some x) (hx:Loc X.env.scope x) (r:RelV v u)
  (h:∀ s',Inv X pins (σ.set i (some v)) H s'→Q () s') (hf:X.fn x=true∨X.env.scope.names.lookup x=some .local:=by first | exact .inl rfl | exact .inr rfl | assumption):wpAny M A (storeName X.env x u) Q E s:=
 store_ok2 I hN hi hx r (fun s' I' _=>h s' I') hf
theorem Inv.call' {s':Shared}{ch:List Addr} (I:Inv X pins σ H s) (ho:s'.os=s.os) (u:Un (frs X.stack) ch H H' s.heap s'.heap) (hok:HOk X.prog X.w H' s'.heap) (hg:AllBare s'.gens)
  (hch:∀ b∈ch,(b∈X.ex∨X.s₀.heap.objs.size≤b)∧b≠X.env.locals∧(∀ x c,X.env.cells.lookup x=some c→c≠b)∧∀ p∈X.pn++pins,p.1≠b):Inv X pins σ H' s':=by
 obtain ⟨h',g',d',t',o'⟩:=s'
 have e:o'=s.os:=ho
 subst e
 exact I.call (g':=g') (t':=t') (d':=d') u hok hg hch
end
abbrev XK:=Value→Option Addr→Hp→Prop
abbrev St:=List (Option V)
abbrev VK:=V→Hp→Prop
abbrev TE:=St→Hp→VK→Prop
abbrev TT:=St→Hp→(Bool→Hp→Prop)→Prop
abbrev TA:=St→Hp→(List V→Hp→Prop)→Prop
structure Ends where
 nx:St→Hp→Prop
 rt:VK
 bk:St→Hp→Prop:=fun _ _=>False
 ct:St→Hp→Prop:=fun _ _=>False
abbrev TS:=Ends→St→Hp→Prop
def EP (X:Cx) (pins:List (Addr×Obj)) (σ:St) (Q:VK) (u:Value) (s':Shared):Prop:=∃ v H',Inv X pins σ H' s'∧RelV v u∧Q v H'
def TP (X:Cx) (pins:List (Addr×Obj)) (σ:St) (Q:Bool→Hp→Prop) (b:Bool) (s':Shared):Prop:=∃ H',Inv X pins σ H' s'∧Q b H'
def AP (X:Cx) (pins:List (Addr×Obj)) (σ:St) (Q:List V→Hp→Prop) (us:List Value) (s':Shared):Prop:=∃ vs H',Inv X pins σ H' s'∧Vals vs us∧Q vs H'
def SP (X:Cx) (pins:List (Addr×Obj)) (D:Ends) (f:Flow) (s':Shared):Prop:=
 match f with
 | .next=>∃ σ' H',Inv X pins σ' H' s'∧D.nx σ' H'
 | .brk=>∃ σ' H',Inv X pins σ' H' s'∧D.bk σ' H'
 | .cont=>∃ σ' H',Inv X pins σ' H' s'∧D.ct σ' H'
 | .ret u=>∃ v σ' H',Inv X pins σ' H' s'∧RelV v u∧D.rt v H'
def PE (X:Cx) (e:Expr) (t:TE):Prop:=
 ∀ (pins:List (Addr×Obj)) (s:Shared) (σ:St) (H:Hp) (Q:VK),Inv X pins σ H s→t σ H Q→wpAny (model X.prog X.w) X.A (eval e X.env) (EP X pins σ Q) X.xe s
def PT (X:Cx) (e:Expr) (t:TT):Prop:=
 ∀ (pins:List (Addr×Obj)) (s:Shared) (σ:St) (H:Hp) (Q:Bool→Hp→Prop),Inv X pins σ H s→t σ H Q→wpAny (model X.prog X.w) X.A (isTrue e X.env (eval e X.env)) (TP X pins σ Q) X.xe s
def PW (X:Cx) (e:Expr) (t:TT):Prop:=
 ∀ (whole:Sem Value) (pins:List (Addr×Obj)) (s:Shared) (σ:St) (H:Hp) (Q:Bool→Hp→Prop),Inv X pins σ H s→t σ H Q→wpAny (model X.prog X.w) X.A (isTrue e X.env whole) (TP X pins σ Q) X.xe s
theorem PW.pt {X:Cx}{e:Expr}{t:TT} (h:PW X e t):PT X e t:=h _
def PA (X:Cx) (es:List Expr) (t:TA):Prop:=
 ∀ (pos:Pos) (pins:List (Addr×Obj)) (s:Shared) (σ:St) (H:Hp) (Q:List V→Hp→Prop),Inv X pins σ H s→t σ H Q→wpAny (model X.prog X.w) X.A (spliced (backTo pos (starEach es X.env))) (AP X pins σ Q) X.xe s
def PS (X:Cx) (st:Stmt) (t:TS):Prop:=
 ∀ (pins:List (Addr×Obj)) (s:Shared) (σ:St) (H:Hp) (D:Ends),Inv X pins σ H s→t D σ H→wpAny (model X.prog X.w) X.A (exec st X.env) (SP X pins D) X.xe s
def PSs (X:Cx) (st:List Stmt) (t:TS):Prop:=
 ∀ (pins:List (Addr×Obj)) (s:Shared) (σ:St) (H:Hp) (D:Ends),Inv X pins σ H s→t D σ H→wpAny (model X.prog X.w) X.A (execs st X.env) (SP X pins D) X.xe s
theorem thn {α:Type}{t:Sem α}{Q Q':α→Shared→Prop}{M:Model}{A:Around}{E:Value→Shared→Prop}{s:Shared} (h:wpAny M A t Q E s) (hQ:∀ a s,Q a s→Q' a s):wpAny M A t Q' E s:=wpAny_mono h hQ fun _ _ x=>x
section
variable {X:Cx}
theorem bin {a b:Expr}{ta tb:TE} (ha:PE X a ta) (hb:PE X b tb) {pins:List (Addr×Obj)}{s:Shared}{σ:St}{H:Hp}{R:V→V→Hp→Prop} (I:Inv X pins σ H s) (h:ta σ H fun x H1=>tb σ H1 fun y H2=>R x y H2)
  {α:Type}{Q:α→Shared→Prop}{f:Value→Value→Sem α}
  (hf:∀ v u s2 x y H2,Inv X pins σ H2 s2→RelV x v→RelV y u→R x y H2→wpAny (model X.prog X.w) X.A (f v u) Q X.xe s2) :
  wpAny (model X.prog X.w) X.A (eval a X.env) (fun v s₁=>wpAny (model X.prog X.w) X.A (eval b X.env) (fun u s₂=>wpAny (model X.prog X.w) X.A (f v u) Q X.xe s₂) X.xe s₁) X.xe s:=by
 refine thn (ha pins s σ H _ I h) fun v s1 ⟨x,H1,I1,r1,q1⟩=>?_
 refine thn (hb pins s1 σ H1 _ I1 q1) fun u s2 ⟨y,H2,I2,r2,q2⟩=>?_
 exact hf v u s2 x y H2 I2 r1 r2 q2
def tVar (i:Nat):TE:=fun σ H Q=>∃ v,σ[i]? = some (some v)∧Q v H
def tC (v:V):TE:=fun _ H Q=>Q v H
theorem pe_var {i:Nat}{x:Str}{pos:Pos} (hN:X.N[i]? = some x) (hv:Vis X.env.scope x) (hd:(x == ("__debug__":Str))=false:=by decide) (hcd:(x == ("__classdict__":Str))=false:=by decide):PE X (.Name x pos) (tVar i):=by
 intro pins s σ H Q I h
 obtain ⟨v,e,h⟩:=h
 obtain ⟨m,hn,hl⟩:=I.loc
 obtain ⟨u,r,l⟩:=hl i x v hN e hv
 have fin:EP X pins σ Q u s:=⟨v,H,I,r,h⟩
 rcases l with ⟨hk,hm⟩ | ⟨hk,c,hc,hcell⟩
 ·exact wpAny_Name (wpAny_loadName_local I.ok.kind hk hn hm fin) hd
 ·rcases hk with hk | hk
  ·exact wpAny_Name (wpAny_loadName_cell I.ok.kind hk hc hcell fin) hd
  ·exact wpAny_Name (wpAny_loadName_free I.ok.kind hk hc hcell fin hcd) hd
theorem pe_int {i j pos}:PE X (.Constant (.int i) j pos) (tC (.int i)):=fun _ _ _ H _ I h=>wpAny_Constant_int ⟨.int i,H,I.tok _,⟨_,rfl⟩,h⟩
theorem pe_bl {b j pos}:PE X (.Constant (.bool b) j pos) (tC (.bl b)):=fun _ _ _ H _ I h=>Constant_bool ⟨.bl b,H,I,rfl,h⟩
theorem pe_non {j pos}:PE X (.Constant .none j pos) (tC .non):=fun _ _ _ H _ I h=>Constant_none ⟨.non,H,I,rfl,h⟩
theorem pe_str {x j pos}:PE X (.Constant (.str x) j pos) (tC (.str x)):=fun _ _ _ H _ I h=>Calls.Constant_str ⟨.str x,H,I.tok _,⟨_,rfl⟩,h⟩
def Gl (X:Cx) (x:Str):Prop:=X.env.kindOf x=some .globalImplicit
theorem ld_glob {E:Value→Shared→Prop}{pins:List (Addr×Obj)}{s:Shared}{σ:St}{H:Hp}{x:Str}{u:Value}{pos:Pos}{Q:Value→Shared→Prop} (I:Inv X pins σ H s) (hg:Gl X x) (hm:X.mg x=some u) (h:Q u s)
  (hd:(x == ("__debug__":Str))=false:=by decide):wpAny (model X.prog X.w) X.A (eval (.Name x pos) X.env) Q E s:=
 Calls.Name_function_global I.ok.kind hg (Calls.loadGlobal_global (by rw [I.ok.glob];exact I.mod.glob.keeps I.bk) hm h) hd
theorem ld_blt {E:Value→Shared→Prop}{pins:List (Addr×Obj)}{s:Shared}{σ:St}{H:Hp}{x:Str}{u:Value}{pos:Pos}{Q:Value→Shared→Prop} (I:Inv X pins σ H s) (hg:Gl X x) (hm:X.mg x=none) (hv:bootBuiltins x=some u) (h:Q u s)
  (hn:x≠"__name__":=by decide) (hd:(x == ("__debug__":Str))=false:=by decide):wpAny (model X.prog X.w) X.A (eval (.Name x pos) X.env) Q E s:=by
 obtain ⟨mb,h1,h2⟩:=I.mod.blt
 exact Calls.Name_function_global I.ok.kind hg (Calls.loadGlobal_builtin (by rw [I.ok.glob];exact I.mod.glob.keeps I.bk) hm (by rw [I.ok.blt];exact h1.keeps I.bk) ((h2 x hn).trans hv) h) hd
theorem pe_glob {x:Str}{v:V}{u:Value}{pos:Pos} (hg:Gl X x) (hm:X.mg x=some u) (r:RelV v u) (hd:(x == ("__debug__":Str))=false:=by decide):PE X (.Name x pos) (tC v):=
 fun _ _ _ H _ I h=>ld_glob I hg hm ⟨v,H,I,r,h⟩ hd
theorem pe_bltn {x:Str}{v:V}{u:Value}{pos:Pos} (hg:Gl X x) (hm:X.mg x=none) (hv:bootBuiltins x=some u) (r:RelV v u) (hn:x≠"__name__":=by decide) (hd:(x == ("__debug__":Str))=false:=by decide):PE X (.Name x pos) (tC v):=
 fun _ _ _ H _ I h=>ld_blt I hg hm hv ⟨v,H,I,r,h⟩ hn hd
variable {a b:Expr}{ta tb:TE}{pos:Pos}
def PC (X:Cx) (op:CmpOp) (a b:Expr) (t:TE):Prop:=
 ∀ (pins:List (Addr×Obj)) (s:Shared) (σ:St) (H:Hp) (Q:VK),Inv X pins σ H s→t σ H Q →
  wpAny (model X.prog X.w) X.A (eval a X.env) (fun v s₁=>wpAny (model X.prog X.w) X.A (eval b X.env) (fun u s₂=>wpAny (model X.prog X.w) X.A (compareOp op v u) (EP X pins σ Q) X.xe s₂) X.xe s₁) X.xe s
def tB (t:TE):TT:=fun σ H Q=>t σ H fun x H1=>∃ c,x=.bl c∧Q c H1
theorem pt_cmp {op:CmpOp}{t:TE} (h:PC X op a b t) (h1:behindInMarks op b=false:=by first | exact nobehind _ (by decide) (by decide) | rfl):PT X (.Compare a [op] [b] pos) (tB t):=by
 intro pins s σ H Q I hw
 refine wpAny_isTrue_Compare1 (thn (h pins s σ H _ I hw) fun v s1 h1=>thn h1 fun u s2 h2=>thn h2 fun c s3 ⟨x,H1,I1,r1,q1⟩=>?_) h1
 obtain ⟨d,rfl,q⟩:=q1
 cases r1
 exact wpAny_truthy_bool ⟨H1,I1,q⟩
theorem pt_val {e:Expr}{t:TE} (h:PE X e t) (he:∀ whole,isTrue e X.env whole=(do let v ← whole;standAt e.pos;holding [v] (truthy v)):=by intro _;rfl):PT X e (tB t):=by
 intro pins s σ H Q I hw
 refine isTrue_plain (thn (h pins s σ H _ I hw) fun v s1 ⟨x,H1,I1,r1,q1⟩=>?_) (he _)
 obtain ⟨d,rfl,q⟩:=q1
 cases r1
 exact wpAny_truthy_bool ⟨H1,I1,q⟩
variable {tA tB':TT}{rest:List Expr}
def tAnd (t u:TT):TT:=fun σ H Q=>t σ H fun c H1=>if c=true then u σ H1 Q else Q false H1
def tOr (t u:TT):TT:=fun σ H Q=>t σ H fun c H1=>if c=true then Q true H1 else u σ H1 Q
def tNot (t:TT):TT:=fun σ H Q=>t σ H fun c H1=>Q (!c) H1
theorem pw_and1 (ha:PT X a tA):PW X (.BoolOp .And [a] pos) tA:=by
 intro wh pins s σ H Q I h
 refine isTrue_and (thn (ha pins s σ H Q I h) fun c s1 e=>?_)
 cases c with
 | true=>exact isTrue_and_nil e
 | false=>exact e
theorem pw_or1 (ha:PT X a tA):PW X (.BoolOp .Or [a] pos) tA:=by
 intro wh pins s σ H Q I h
 refine isTrue_or (thn (ha pins s σ H Q I h) fun c s1 e=>?_)
 cases c with
 | false=>exact isTrue_or_nil e
 | true=>exact e
theorem pw_and (ha:PT X a tA) (hb:PW X (.BoolOp .And (b::rest) pos) tB'):PW X (.BoolOp .And (a::b::rest) pos) (tAnd tA tB'):=by
 intro wh pins s σ H Q I h
 refine isTrue_and (thn (ha pins s σ H _ I h) fun c s1 ⟨H1,I1,q1⟩=>?_)
 cases c with
 | true=>exact hb wh pins s1 σ H1 Q I1 q1
 | false=>exact ⟨H1,I1,q1⟩
theorem pw_or (ha:PT X a tA) (hb:PW X (.BoolOp .Or (b::rest) pos) tB'):PW X (.BoolOp .Or (a::b::rest) pos) (tOr tA tB'):=by
 intro wh pins s σ H Q I h
 refine isTrue_or (thn (ha pins s σ H _ I h) fun c s1 ⟨H1,I1,q1⟩=>?_)
 cases c with
 | true=>exact ⟨H1,I1,q1⟩
 | false=>exact hb wh pins s1 σ H1 Q I1 q1
theorem pt_not (ha:PT X a tA):PT X (.UnaryOp .Not a pos) (tNot tA):=by
 intro pins s σ H Q I h
 exact isTrue_not (ha pins s σ H (fun c H1=>Q (!c) H1) I h)
def tAndV (ta tb:TE):TE:=fun σ H Q=>ta σ H fun x H1=>∃ c,x=.bl c∧if c=true then tb σ H1 Q else Q (.bl false) H1
def tNotV (ta:TE):TE:=fun σ H Q=>ta σ H fun x H1=>∃ c,x=.bl c∧Q (.bl (!c)) H1
theorem pe_one {op}{t:TE} (h:PE X a t):PE X (.BoolOp op [a] pos) t:=fun pins s σ H Q I hw=>BoolOp_one (h pins s σ H Q I hw)
theorem pe_and (ha:PE X a ta) (hb:PE X (.BoolOp .And (b::rest) pos) tb):PE X (.BoolOp .And (a::b::rest) pos) (tAndV ta tb):=by
 intro pins s σ H Q I h
 refine BoolOp_and (thn (ha pins s σ H _ I h) fun v s1 ⟨x,H1,I1,r1,q1⟩=>?_)
 obtain ⟨c,rfl,q1⟩:=q1
 cases r1
 refine wpAny_truthy_bool ?_
 cases c with
 | true=>exact hb pins s1 σ H1 Q I1 q1
 | false=>exact ⟨.bl false,H1,I1,rfl,q1⟩
theorem pe_not (ha:PE X a ta):PE X (.UnaryOp .Not a pos) (tNotV ta):=by
 intro pins s σ H Q I h
 refine UnaryOp_ (thn (ha pins s σ H _ I h) fun v s1 ⟨x,H1,I1,r1,q1⟩=>?_)
 obtain ⟨c,rfl,q1⟩:=q1
 cases r1
 exact not_of (wpAny_truthy_bool ⟨.bl (!c),H1,I1,rfl,q1⟩)
end
def SqL (K:PySem.W.Frag) (H:Hp) (a:Addr) (xs:List V):Prop:=
 Rd H a (.lst xs) ∨
  ∃ (o:Obj) (its:Array Value) (n:Nat),K.lookup a=some o∧o.cls=.type "list"∧o.dict=none∧o.data=.seq its n∧its.size≤sizeLine∧Vals xs its.toList
def SqT (K:PySem.W.Frag) (H:Hp) (a:Addr) (xs:List V):Prop:=
 Rd H a (.tup xs) ∨
  ∃ (o:Obj) (its:Array Value) (n:Nat),K.lookup a=some o∧o.cls=.type "tuple"∧o.dict=none∧o.data=.seq its n∧its.size≤sizeLine∧Vals xs its.toList
def absV:Value→Option V
 | .none=>some .non
 | .bool b=>some (.bl b)
 | .int i _=>some (.int i)
 | .str x _=>some (.str x)
 | .bytes b _=>some (.byt b)
 | .float b _=>some (.flt b)
 | .ref a=>some (.ref a)
 | .type n=>some (.ty n)
 | _=>none
theorem RelV.abs {x:V}{u:Value} (r:RelV x u):absV u=some x:=by
 cases x with
 | non=>cases r;rfl
 | bl _=>cases r;rfl
 | int _=>obtain ⟨t,rfl⟩:=r;rfl
 | str _=>obtain ⟨t,rfl⟩:=r;rfl
 | byt _=>obtain ⟨t,rfl⟩:=r;rfl
 | flt _=>obtain ⟨t,rfl⟩:=r;rfl
 | ref _=>cases r;rfl
 | ty _=>cases r;rfl
theorem RelV.inj {x y:V}{u:Value} (r:RelV x u) (q:RelV y u):x=y:=Option.some.inj (r.abs.symm.trans q.abs)
theorem Vals.inj:∀ {xs ys:List V}{us:List Value},Vals xs us→Vals ys us→xs=ys
 | _,_,_,.nil,.nil=>rfl
 | _,_,_,.cons r t,.cons r' t'=>by rw [r.inj r',Vals.inj t t']
section
variable {X:Cx}{pins:List (Addr×Obj)}{σ:St}{H:Hp}{s:Shared}{a:Addr}{xs ys:List V}
theorem SqL.of {K:PySem.W.Frag} (h:H a=some (.lst xs)):SqL K H a xs:=.inl (.inl h)
theorem SqT.of {K:PySem.W.Frag} (h:H a=some (.tup xs)):SqT K H a xs:=.inl (.inl h)
theorem Inv.list (I:Inv X pins σ H s) (h:SqL X.K H a xs):∃ its:List Value,Vals xs its∧PlainL s.heap a its.toArray∧xs.length≤sizeLine:=by
 rcases h with h | ⟨o,its,n,hk,hc,hd,hs,hz,r⟩
 ·obtain ⟨z,its,n,r,e⟩:=h.ok I.hok
  exact ⟨its,r,⟨_,n,e,rfl,rfl,rfl⟩,z⟩
 ·refine ⟨its.toList,r,⟨o,n,I.kIn a o hk,hc,hd,by simpa using hs⟩,?_⟩
  have e:=r.length
  simp only [Array.length_toList] at e
  omega
theorem Inv.tupleN (I:Inv X pins σ H s) (h:SqT X.K H a xs):∃ its:List Value,Vals xs its∧PlainT s.heap a its.toArray∧xs.length≤sizeLine:=by
 rcases h with h | ⟨o,its,n,hk,hc,hd,hs,hz,r⟩
 ·obtain ⟨z,its,r,p⟩:=h.ok I.hok
  exact ⟨its,r,p,z⟩
 ·refine ⟨its.toList,r,⟨o,I.kIn a o hk,hc,hd,n,by simpa using hs⟩,?_⟩
  have e:=r.length
  simp only [Array.length_toList] at e
  omega
theorem Inv.tuple (I:Inv X pins σ H s) (h:SqT X.K H a xs):∃ its:List Value,Vals xs its∧IsTup s.heap a its.toArray∧xs.length≤sizeLine:=by
 rcases h with h | ⟨o,its,n,hk,hc,hd,hs,hz,r⟩
 ·obtain ⟨z,its,r,p⟩:=h.ok I.hok
  exact ⟨its,r,p.isTup,z⟩
 ·refine ⟨its.toList,r,⟨o,I.kIn a o hk,hc,n,by simpa using hs⟩,?_⟩
  have e:=r.length
  simp only [Array.length_toList] at e
  omega
theorem Inv.list_inj (I:Inv X pins σ H s) (h:SqL X.K H a xs) (h':SqL X.K H a ys):xs=ys:=by
 obtain ⟨its,r,⟨o,n,e,_,_,d⟩,_⟩:=I.list h
 obtain ⟨its',r',⟨o',n',e',_,_,d'⟩,_⟩:=I.list h'
 rw [e] at e';cases e'
 rw [d] at d'
 injection d' with d1 _
 have:its=its':=by simpa using congrArg Array.toList d1
 subst this
 exact r.inj r'
theorem Inv.tuple_inj (I:Inv X pins σ H s) (h:SqT X.K H a xs) (h':SqT X.K H a ys):xs=ys:=by
 obtain ⟨its,r,⟨o,e,_,n,d⟩,_⟩:=I.tuple h
 obtain ⟨its',r',⟨o',e',_,n',d'⟩,_⟩:=I.tuple h'
 rw [e] at e';cases e'
 rw [d] at d'
 injection d' with d1 _
 have:its=its':=by simpa using congrArg Array.toList d1
 subst this
 exact r.inj r'
end
abbrev Cx.wish (X:Cx) (E:Value→Shared→Prop):Cx:={ X with xe:=E }
abbrev Cx.nox (X:Cx):Cx:=X.wish fun _ _=>False
theorem Cx.Ok.wish {X:Cx} (ok:X.Ok) (E:Value→Shared→Prop):(X.wish E).Ok:=
 ⟨ok.mod,ok.kind,ok.glob,ok.blt,ok.above,ok.inj,ok.has,ok.cab,ok.hd,ok.frames,ok.stk,ok.exf,ok.bs,ok.bsz,ok.noex,ok.exfs,ok.funs,ok.frf⟩
theorem Cx.Ok.unwish {X:Cx}{E:Value→Shared→Prop} (ok:(X.wish E).Ok):X.Ok:=
 ⟨ok.mod,ok.kind,ok.glob,ok.blt,ok.above,ok.inj,ok.has,ok.cab,ok.hd,ok.frames,ok.stk,ok.exf,ok.bs,ok.bsz,ok.noex,ok.exfs,ok.funs,ok.frf⟩
section
variable {X:Cx}{pins:List (Addr×Obj)}{σ:St}{H:Hp}{s:Shared}{E:Value→Shared→Prop}
theorem Inv.wish (I:Inv X pins σ H s) (E:Value→Shared→Prop):Inv (X.wish E) pins σ H s:=⟨I.ok.wish E,I.os,I.bare,I.base,I.loc,I.cell,I.free,I.freeC,I.pin,I.hok,I.len,I.hq⟩
theorem Inv.unwish (I:Inv (X.wish E) pins σ H s):Inv X pins σ H s:=⟨I.ok.unwish,I.os,I.bare,I.base,I.loc,I.cell,I.free,I.freeC,I.pin,I.hok,I.len,I.hq⟩
theorem SP.unwish {D:Ends}{f:Flow}{s':Shared} (h:SP (X.wish E) pins D f s'):SP X pins D f s':=by
 cases f with
 | next=>obtain ⟨σ',H',I,q⟩:=h;exact ⟨σ',H',I.unwish,q⟩
 | brk=>obtain ⟨σ',H',I,q⟩:=h;exact ⟨σ',H',I.unwish,q⟩
 | cont=>obtain ⟨σ',H',I,q⟩:=h;exact ⟨σ',H',I.unwish,q⟩
 | ret u=>obtain ⟨v,σ',H',I,r,q⟩:=h;exact ⟨v,σ',H',I.unwish,r,q⟩
theorem PSs.nox {st:List Stmt}{t:TS} (h:PSs X.nox st t):PSs X st t:=fun pins s σ H D I hw=>
 wpAny_mono (h pins s σ H D (I.wish _) hw) (fun _ _ q=>q.unwish) fun _ _ z=>False.elim z
end
section
variable {X:Cx}{st:Stmt}{rest:List Stmt}{t u:TS}{e:Expr}{te:TE}{pos:Pos}
def tNext:TS:=fun D σ H=>D.nx σ H
def tSeq (t u:TS):TS:=fun D σ H=>t { D with nx:=u D } σ H
theorem pss_nil:PSs X [] tNext:=fun _ _ σ H _ I h=>wpAny_execs_nil ⟨σ,H,I,h⟩
theorem pss_cons (h1:PS X st t) (h2:PSs X rest u):PSs X (st::rest) (tSeq t u):=by
 intro pins s σ H D I h
 refine wpAny_execs_cons (thn (h1 pins s σ H { D with nx:=u D } I h) fun f s1 q=>?_)
 cases f with
 | next=>
  obtain ⟨σ',H',I',q⟩:=q
  exact h2 pins s1 σ' H' D I' q
 | ret v=>exact q
 | brk=>exact q
 | cont=>exact q
theorem pss_one (h1:PS X st t):PSs X [st] t:=by
 intro pins s σ H D I h
 refine wpAny_execs_cons (thn (h1 pins s σ H D I h) fun f s1 q=>?_)
 cases f with
 | next=>exact wpAny_execs_nil q
 | ret v=>exact q
 | brk=>exact q
 | cont=>exact q
theorem Inv.quiet {pins:List (Addr×Obj)}{σ:St}{H:Hp}{s:Shared} (I:Inv X pins σ H s):interactive X.env=false:=by simp [interactive,I.ok.kind]
def tDrop (te:TE):TS:=fun D σ H=>te σ H fun _ H1=>D.nx σ H1
theorem ps_expr (he:PE X e te) (hs:swapsWith e none pos.line X.env=pure false:=by rfl):PS X (.Expr e pos) (tDrop te):=by
 intro pins s σ H D I h
 exact wpAny_Expr_any (thn (he pins s σ H _ I h) fun v s1 ⟨x,H1,I1,r1,q1⟩=>⟨σ,H1,I1,q1⟩) I.quiet hs
def tRet (te:TE):TS:=fun D σ H=>te σ H D.rt
theorem ps_ret (he:PE X e te):PS X (.Return (some e) pos) (tRet te):=by
 intro pins s σ H D I h
 exact wpAny_Return_some (thn (he pins s σ H _ I h) fun v s1 ⟨x,H1,I1,r1,q1⟩=>⟨x,σ,H1,I1,r1,q1⟩)
def tIfS (c:TT) (t u:TS):TS:=fun D σ H=>c σ H fun b H1=>if b=true then t D σ H1 else u D σ H1
theorem ps_if {c:Expr}{a b:List Stmt}{tc:TT} (hc:PT X c tc) (ha:PSs X a t) (hb:PSs X b u):PS X (.If c a b pos) (tIfS tc t u):=by
 intro pins s σ H D I h
 refine wpAny_If (thn (hc pins s σ H _ I h) fun d s1 ⟨H1,I1,q1⟩=>?_)
 cases d with
 | true=>exact ha pins s1 σ H1 D I1 q1
 | false=>exact hb pins s1 σ H1 D I1 q1
def tNever:TS:=fun _ _ _=>False
theorem ps_never:PS X st tNever:=fun _ _ _ _ _ _ h=>h.elim
end
abbrev TG:=V→St→Hp→(St→Hp→Prop)→Prop
abbrev TGs:=List V→St→Hp→(St→Hp→Prop)→Prop
def PG (X:Cx) (target:Expr) (t:TG):Prop:=
 ∀ (pins:List (Addr×Obj)) (s:Shared) (σ:St) (H:Hp) (v:V) (u:Value) (Q:St→Hp→Prop),Inv X pins σ H s→RelV v u→t v σ H Q →
  wpAny (model X.prog X.w) X.A (assign target X.env u) (fun _ s'=>∃ σ' H',Inv X pins σ' H' s'∧Q σ' H') X.xe s
def PGs (X:Cx) (ts:List Expr) (t:TGs):Prop:=
 ∀ (pins:List (Addr×Obj)) (s:Shared) (σ:St) (H:Hp) (vs:List V) (us:List Value) (Q:St→Hp→Prop),Inv X pins σ H s→Vals vs us→t vs σ H Q →
  wpAny (model X.prog X.w) X.A (assignInOrder ((assignEach ts X.env).map (·.2)) us) (fun _ s'=>∃ σ' H',Inv X pins σ' H' s'∧Q σ' H') X.xe s
abbrev TSet:=V→V→V→Hp→(Hp→Prop)→Prop
def PSet (X:Cx) (t:TSet):Prop:=
 ∀ (pins:List (Addr×Obj)) (s:Shared) (σ:St) (H:Hp) (o i v:V) (ov iv u:Value) (Q:Hp→Prop),Inv X pins σ H s→RelV o ov→RelV i iv→RelV v u→t o i v H Q →
  wpAny (model X.prog X.w) X.A (setItem ov iv u) (fun _ s'=>∃ H',Inv X pins σ H' s'∧Q H') X.xe s
section
variable {X:Cx}{pos:Pos}
def gName (i:Nat):TG:=fun v σ H Q=>Q (σ.set i (some v)) H
theorem pg_name {i:Nat}{x:Str} (hN:X.N.Nodup) (hi:X.N[i]? = some x) (hx:Loc X.env.scope x) (hf:X.fn x=true∨X.env.scope.names.lookup x=some .local:=by first | exact .inl rfl | exact .inr rfl | assumption):PG X (.Name x pos) (gName i):=by
 intro pins s σ H v u Q I r h
 exact wpAny_assign_Name (store_ok I hN hi hx r (fun s' I'=>⟨_,H,I',h⟩) hf)
def gNil:TGs:=fun vs σ H Q=>vs=[]∧Q σ H
def gCons (t:TG) (u:TGs):TGs:=fun vs σ H Q=>∃ v r,vs=v::r∧t v σ H fun σ' H'=>u r σ' H' Q
theorem pgs_nil:PGs X [] gNil:=by
 intro pins s σ H vs us Q I r h
 obtain ⟨e,h⟩:=h
 subst e
 cases r
 exact assignInOrder_nil ⟨σ,H,I,h⟩
theorem pgs_cons {e:Expr}{es:List Expr}{t:TG}{u:TGs} (h1:PG X e t) (h2:PGs X es u)
  (hs:(assignEach (e::es) X.env).map (·.2)=assign e X.env::(assignEach es X.env).map (·.2):=by rfl):PGs X (e::es) (gCons t u):=by
 intro pins s σ H vs us Q I r h
 obtain ⟨v,vr,e1,h⟩:=h
 subst e1
 cases r with
 | cons r rr=>
  rw [hs]
  refine assignInOrder_cons (thn (h1 pins s σ H _ _ _ I r h) fun _ s1 ⟨σ1,H1,I1,q1⟩=>?_)
  exact h2 pins s1 σ1 H1 _ _ Q I1 rr q1
def gTup (K:PySem.W.Frag) (n:Nat) (t:TGs):TG:=fun v σ H Q=>∃ a xs,v=.ref a∧SqT K H a xs∧xs.length=n∧t xs σ H Q
theorem pg_tup {es:List Expr}{k:Nat}{t:TGs}{n:Nat} (hc:X.calm=true) (h:PGs X es t)
  (hn:(assignEach es X.env).length=n:=by rfl) (hst:(assignEach es X.env).findIdx? (·.1)=none:=by rfl):PG X (.Tuple es k pos) (gTup X.K n t):=by
 intro pins s σ H v u Q I r hw
 obtain ⟨a,xs,e1,hq,hl,hw⟩:=hw
 subst e1
 cases r
 obtain ⟨its,rv,ht,hz⟩:=I.tuple hq
 refine assign_Tuple_tuple (I.ok.hd hc) ht (by simp [hn,← hl,rv.length]) hst fun h' hx=>?_
 have I1:Inv X pins σ H { s with heap:=h' }:=I.kept (t':=s.toks) fun b o e=>hx b o (Nat.ne_of_lt (Heap.lt_size e)) e
 exact h pins _ σ H xs _ Q I1 (by simpa using rv) hw
def gSub (to ti:TE) (t:TSet):TG:=fun v σ H Q=>to σ H fun o H1=>ti σ H1 fun i H2=>t o i v H2 fun H3=>Q σ H3
theorem pg_sub {o i:Expr}{to ti:TE}{t:TSet} (ho:PE X o to) (hi:PE X i ti) (hs:PSet X t)
  (ha:∀ v,assign (.Subscript o i pos) X.env v=(do
   let ov ← holding [v] (eval o X.env)
   let iv ← holding [v,ov] (eval i X.env)
   standAt pos
   holding [v,ov,iv] (setItem ov iv v)
   release [v,ov,iv] []):=by intro _;rfl):PG X (.Subscript o i pos) (gSub to ti t):=by
 intro pins s σ H v u Q I r h
 rw [ha]
 refine wpAny_bind (wpAny_holding (thn (ho pins s σ H _ I h) fun ov s1 ⟨x,H1,I1,r1,q1⟩=>?_))
 refine wpAny_bind (wpAny_holding (thn (hi pins s1 σ H1 _ I1 q1) fun iv s2 ⟨y,H2,I2,r2,q2⟩=>?_))
 refine wpAny_bind (wpAny_standAt (wpAny_bind (wpAny_holding (thn (hs pins s2 σ H2 x y v ov iv u _ I2 r1 r2 r q2) fun _ s3 ⟨H3,I3,q3⟩=>?_))))
 exact wpAny_release ⟨σ,H3,I3,q3⟩
def tAsg (te:TE) (g:TG):TS:=fun D σ H=>te σ H fun x H1=>g x σ H1 D.nx
theorem ps_asg {tg e:Expr}{te:TE}{g:TG} (he:PE X e te) (hg:PG X tg g) (hs:swapsWithSole [tg] e pos.line X.env=pure false:=by rfl) (hw:swappedStores [tg] e X.env=pure none:=by rfl)
  (h1:(assignEach [tg] X.env).map (·.2)=[assign tg X.env]:=by rfl):PS X (.Assign [tg] e pos) (tAsg te g):=by
 intro pins s σ H D I h
 refine wpAny_Assign_stores (thn (he pins s σ H _ I h) fun v s1 ⟨x,H1,I1,r1,q1⟩=>?_) hs hw
 rw [h1]
 exact thn (hg pins s1 σ H1 x v _ I1 r1 q1) fun _ s2 q=>q
theorem ps_set {i:Nat}{x:Str}{e:Expr}{te:TE}{pos':Pos} (hN:X.N.Nodup) (hi:X.N[i]? = some x) (hx:Loc X.env.scope x) (he:PE X e te) (hs:swapsWith e (some (.Name x pos')) pos.line X.env=pure false:=by rfl) (hf:X.fn x=true∨X.env.scope.names.lookup x=some .local:=by first | exact .inl rfl | exact .inr rfl | assumption) :
  PS X (.Assign [.Name x pos'] e pos) (tAsg te (gName i)):=by
 intro pins s σ H D I h
 refine wpAny_Assign_Name (thn (he pins s σ H _ I h) fun v s1 ⟨y,H1,I1,r1,q1⟩=>?_) hs
 exact store_ok I1 hN hi hx r1 (fun s2 I2=>⟨_,H1,I2,q1⟩) hf
end
structure It where
 go:Nat→Hp→Prop
 yld:Nat→Hp→V→Hp→Prop
 stop:Nat→Hp→Prop
 rg:Bool
def FpOk (X:Cx) (pins:List (Addr×Obj)) (H:Hp) (b:Addr):Prop:=
 H b=none∧b≠X.env.locals∧b∉X.fs∧(b∈X.ex∨X.s₀.heap.objs.size≤b)∧(∀ x c,X.env.cells.lookup x=some c→c≠b)∧∀ p∈X.pn++pins,p.1≠b
theorem Inv.fpOk {X:Cx}{pins:List (Addr×Obj)}{σ:St}{H H':Hp}{s:Shared}{b:Addr} (I:Inv X pins σ H s) (hb:s.heap.objs.size≤b) (hn:H' b=none):FpOk X pins H' b:=by
 refine ⟨hn,Nat.ne_of_gt (Nat.lt_of_lt_of_le I.lt hb),I.nofs hb,.inr (Nat.le_trans I.sz hb),fun x c e z=>?_,fun p hp z=>?_⟩
 ·obtain ⟨v,q⟩:=I.cell x c e
  exact absurd (Nat.lt_of_lt_of_le q.lt (by rw [z];exact hb)) (Nat.lt_irrefl _)
 ·exact absurd (Nat.lt_of_lt_of_le (Heap.lt_size (I.pin p hp).1) (by rw [z];exact hb)) (Nat.lt_irrefl _)
structure Turn (P:Program) (w:World) (K:PySem.W.Frag) (tg:Expr) (J:It) (fp:List Addr) (it:Addr) (tn:Nat→Heap→Prop):Prop where
 mem:it∈fp
 obj:∀ i h,tn i h→∀ b∈fp,∃ o,h.get? b=some o∧∀ v,o.data≠.cell v
 keep:∀ i h h',tn i h→(∀ b∈fp,∀ o,h.get? b=some o→h'.get? b=some o)→tn i h'
 item:∀ (X:Cx),X.prog=P→X.w=w→X.K=K→(X.calm=true∨J.rg=true)→∀ (i:Nat) (pins:List (Addr×Obj)) (s:Shared) (σ:St) (H:Hp) (E:Value→Shared→Prop),Inv X pins σ H s→(∀ b∈fp,FpOk X pins H b)→tn i s.heap→J.go i H →
  wpAny (model P w) X.A (pyNext (.ref it)) (fun r s1=>∃ u,r=some u ∧
   wpAny (model P w) X.A (letOwnedTupleGo tg (.ref it) u) (fun _ s2=>∃ x H',Inv X pins σ H' s2∧RelV x u∧J.yld i H x H'∧tn (i + 1) s2.heap∧∀ b∈fp,H' b=none) E s1) E s
 done:∀ (X:Cx),X.prog=P→X.w=w→X.K=K→(X.calm=true∨J.rg=true)→∀ (i:Nat) (pins:List (Addr×Obj)) (s:Shared) (σ:St) (H:Hp) (E:Value→Shared→Prop),Inv X pins σ H s→(∀ b∈fp,FpOk X pins H b)→tn i s.heap→J.stop i H →
  wpAny (model P w) X.A (pyNext (.ref it)) (fun r s1=>r=none∧Inv X pins σ H s1) E s
 self:∀ (A:Around) (i:Nat) (s:Shared) (Q:Value→Shared→Prop) (E:Value→Shared→Prop),tn i s.heap→Q (.ref it) s→wpAny (model P w) A (pyIter (.ref it)) Q E s
abbrev TI:=St→Hp→(It→Hp→Prop)→Prop
def PIE (X:Cx) (pins:List (Addr×Obj)) (σ:St) (tg:Expr) (R:It→Hp→Prop) (itv:Value) (s2:Shared):Prop:=
 ∃ (it:Addr) (fp:List Addr) (tn:Nat→Heap→Prop) (J:It) (H':Hp),itv=.ref it∧Inv X pins σ H' s2∧Turn X.prog X.w X.K tg J fp it tn∧tn 0 s2.heap∧(∀ b∈fp,FpOk X pins H' b)∧R J H'
def PI (X:Cx) (tg iter:Expr) (wi:TI):Prop:=
 ∀ (pins:List (Addr×Obj)) (s:Shared) (σ:St) (H:Hp) (R:It→Hp→Prop),Inv X pins σ H s→wi σ H R →
  wpAny (model X.prog X.w) X.A (eval iter X.env) (fun v s1=>wpAny (model X.prog X.w) X.A (pyIter v) (PIE X pins σ tg R) X.xe s1) X.xe s
theorem go_of {M:Model}{A:Around}{E:Value→Shared→Prop}{s:Shared}{tg:Expr}{it:Addr}{u:Value}{o:Obj}{n:String}{vs:Array Value}{Q:Unit→Shared→Prop} (ho:s.heap.get? it=some o) (hc:o.cls=.type n) (hd:o.data=.fields vs)
    (hn:["enumerate","zip","dict_itemiterator","dict_reverseitemiterator","odict_iterator","itertools.zip_longest","itertools.pairwise"].contains n=false) (hQ:Q () s):wpAny M A (letOwnedTupleGo tg (.ref it) u) Q E s:=by
  unfold letOwnedTupleGo
  cases tg <;> first
    | exact wpAny_pure hQ
    | (cases u <;> first
        | exact wpAny_pure hQ
        | (refine wpAny_bind (wpAny_load ho ?_)
           rw [hc,hd]
           show wpAny M A (if (["enumerate","zip","dict_itemiterator","dict_reverseitemiterator","odict_iterator","itertools.zip_longest","itertools.pairwise"].contains n&&vs[0]? == some (rawInt _))=true then _ else _) Q E s
           rw [if_neg (by intro h;rw [hn,Bool.false_and] at h;cases h)]
           exact wpAny_pure hQ))
def Itl (K:PySem.W.Frag) (a:Addr):It:=
 ⟨fun i H=>∃ xs x,SqL K H a xs∧xs[i]? = some x,fun i H x H'=>H'=H∧∀ xs,SqL K H a xs→xs[i]? = some x,fun i H=>∃ xs,SqL K H a xs∧xs.length≤i,false⟩
def Itt (K:PySem.W.Frag) (a:Addr):It:=
 ⟨fun i H=>∃ xs x,SqT K H a xs∧xs[i]? = some x,fun i H x H'=>H'=H∧∀ xs,SqT K H a xs→xs[i]? = some x,fun i H=>∃ xs,SqT K H a xs∧xs.length≤i,false⟩
def Itr (lo:Int) (n:Nat):It:=⟨fun i _=>i < n,fun i H x H'=>H'=H∧x=.int (lo + i),fun i _=>n≤i,true⟩
theorem turn_list {P:Program}{w:World}{K:PySem.W.Frag}{tg:Expr} (a it:Addr):Turn P w K tg (Itl K a) [it] it (fun i h=>h.IsListIter it a i) where
 mem:=by simp
 obj:=fun i h st b hb=>by
  have e:b=it:=by simpa using hb
  subst e
  obtain ⟨o,e,c,d⟩:=st
  exact ⟨o,e,fun v z=>by rw [d] at z;cases z⟩
 keep:=fun i h h' st k=>st.at fun o e=>k it (by simp) o e
 item:=by
  intro X hP hw hK hc i pins s σ H E I hf st hg
  subst hP hw hK
  obtain ⟨xs,x,hq,hx⟩:=hg
  obtain ⟨its,rv,p,hz⟩:=I.list hq
  obtain ⟨u,hu,ru⟩:=rv.get hx
  obtain ⟨f0,f1,f2,f3,f4,f5⟩:=hf it (by simp)
  refine wpAny_pyNext_list_item st p.isList (x:=u) (by simpa using hu) fun h' st' sb=>?_
  have I1:Inv X pins σ H { s with heap:=h' }:=I.turned (t':=s.toks) (fun b o hb e=>(sb.2 b hb).trans e) f0 f1 f3 f4 f5
  obtain ⟨o,e,c,d⟩:=id st'
  exact ⟨u,rfl,go_of (s:={ s with heap:=h' }) e c d (by decide) ⟨x,H,I1,ru,⟨rfl,fun ys hy=>by rw [I.list_inj hy hq];exact hx⟩,st',fun b hb=>(hf b hb).1⟩⟩
 done:=by
  intro X hP hw hK hc i pins s σ H E I hf st hg
  subst hP hw hK
  obtain ⟨xs,hq,hx⟩:=hg
  obtain ⟨its,rv,p,hz⟩:=I.list hq
  obtain ⟨f0,f1,f2,f3,f4,f5⟩:=hf it (by simp)
  have hl:=rv.length
  exact wpAny_pyNext_list_end (I.ok.hd (hc.resolve_right fun z=>Bool.false_ne_true z)) st p.isList (by simp;omega) fun h' eb=>⟨rfl,I.turned (t':=s.toks) (fun b o hb e=>eb b o hb e) f0 f1 f3 f4 f5⟩
 self:=fun _ _ _ _ _ st h=>wpAny_pyIter_listiter st h
theorem turn_tuple {P:Program}{w:World}{K:PySem.W.Frag}{tg:Expr} (a it:Addr):Turn P w K tg (Itt K a) [it] it (fun i h=>h.IsTupleIter it a i) where
 mem:=by simp
 obj:=fun i h st b hb=>by
  have e:b=it:=by simpa using hb
  subst e
  obtain ⟨o,e,c,d⟩:=st
  exact ⟨o,e,fun v z=>by rw [d] at z;cases z⟩
 keep:=fun i h h' st k=>st.at fun o e=>k it (by simp) o e
 item:=by
  intro X hP hw hK hc i pins s σ H E I hf st hg
  subst hP hw hK
  obtain ⟨xs,x,hq,hx⟩:=hg
  obtain ⟨its,rv,p,hz⟩:=I.tuple hq
  obtain ⟨u,hu,ru⟩:=rv.get hx
  obtain ⟨f0,f1,f2,f3,f4,f5⟩:=hf it (by simp)
  refine wpAny_pyNext_tuple_item st (show s.heap.IsTuple a its.toArray from p) (x:=u) (by simpa using hu) fun h' st' sb=>?_
  have I1:Inv X pins σ H { s with heap:=h' }:=I.turned (t':=s.toks) (fun b o hb e=>(sb.2 b hb).trans e) f0 f1 f3 f4 f5
  obtain ⟨o,e,c,d⟩:=id st'
  exact ⟨u,rfl,go_of (s:={ s with heap:=h' }) e c d (by decide) ⟨x,H,I1,ru,⟨rfl,fun ys hy=>by rw [I.tuple_inj hy hq];exact hx⟩,st',fun b hb=>(hf b hb).1⟩⟩
 done:=by
  intro X hP hw hK hc i pins s σ H E I hf st hg
  subst hP hw hK
  obtain ⟨xs,hq,hx⟩:=hg
  obtain ⟨its,rv,p,hz⟩:=I.tuple hq
  obtain ⟨f0,f1,f2,f3,f4,f5⟩:=hf it (by simp)
  have hl:=rv.length
  exact wpAny_pyNext_tuple_end (I.ok.hd (hc.resolve_right fun z=>Bool.false_ne_true z)) st (show s.heap.IsTuple a its.toArray from p) (by simp;omega) fun h' eb=>⟨rfl,I.turned (t':=s.toks) (fun b o hb e=>eb b o hb e) f0 f1 f3 f4 f5⟩
 self:=fun _ _ _ _ _ st h=>wpAny_pyIter_tupleiter st h
theorem turn_range {P:Program}{w:World}{K:PySem.W.Frag}{tg:Expr} (it:Addr) (lo:Int) (n:Nat):Turn P w K tg (Itr lo n) [it] it (fun i h=>IsRangeIter h it (lo + (i:Nat) * 1) ((n:Int) - (i:Nat)) 1) where
 mem:=by simp
 obj:=fun i h st b hb=>by
  have e:b=it:=by simpa using hb
  subst e
  exact ⟨_,st,fun v z=>by
   have z':Data.fields _=Data.cell v:=z
   cases z'⟩
 keep:=fun i h h' st k=>k it (by simp) _ st
 item:=by
  intro X hP hw hK hc i pins s σ H E I hf st hg
  subst hP hw hK
  obtain ⟨f0,f1,f2,f3,f4,f5⟩:=hf it (by simp)
  refine wpAny_pyNext_range_item st (by have:i < n:=hg;omega) fun h' st' sb=>?_
  have I1:Inv X pins σ H { s with heap:=h',toks:=s.toks + 1 }:=I.turned (fun b o hb e=>(sb.2 b hb).trans e) f0 f1 f3 f4 f5
  have e1:lo + ((i + 1:Nat):Int) * 1=lo + (i:Int) * 1 + 1:=by omega
  have e2:(n:Int) - ((i + 1:Nat):Int)=(n:Int) - (i:Int) - 1:=by omega
  refine ⟨_,rfl,go_of (s:={ s with heap:=h',toks:=s.toks + 1 }) (n:="range_iterator") st' rfl rfl (by decide) ⟨.int (lo + i),H,I1,⟨s.toks,?_⟩,⟨rfl,rfl⟩,by rw [e1,e2];exact st',fun b hb=>(hf b hb).1⟩⟩
  rw [Int.mul_one]
 done:=by
  intro X hP hw hK hc i pins s σ H E I hf st hg
  subst hP hw hK
  obtain ⟨f0,f1,f2,f3,f4,f5⟩:=hf it (by simp)
  rcases I.hq with h0 | ⟨a',ob,u,vs,h0,h1,h2,h3⟩
  ·exact wpAny_pyNext_range_end h0 st (by have:n≤i:=hg;omega) fun h' eb=>⟨rfl,I.turned (t':=s.toks) (fun b o hb e=>eb b o hb e) f0 f1 f3 f4 f5⟩
  ·exact range_endH h0 (I.hok a' _ h1).1 h2 h3 st (by have:n≤i:=hg;omega) fun h' eb=>⟨rfl,I.turned (t':=s.toks) (fun b o hb e=>eb b o hb e) f0 f1 f3 f4 f5⟩
 self:=fun _ _ _ _ _ st h=>wpAny_pyIter_rangeiter st h
section
variable {X:Cx}{tg:Expr}
def iList (K:PySem.W.Frag) (tl:TE):TI:=fun σ H R=>tl σ H fun x H1=>∃ a,x=.ref a∧(∃ xs,SqL K H1 a xs)∧R (Itl K a) H1
theorem pi_list {l:Expr}{tl:TE} (hl:PE X l tl):PI X tg l (iList X.K tl):=by
 intro pins s σ H R I h
 refine thn (hl pins s σ H _ I h) fun v s1 ⟨x,H1,I1,r1,q1⟩=>?_
 obtain ⟨a,e,⟨xs,hq⟩,q⟩:=q1
 subst e
 cases r1
 obtain ⟨its,rv,p,hz⟩:=I1.list hq
 refine wpAny_pyIter_list p.isList ?_
 refine ⟨s1.heap.objs.size,[s1.heap.objs.size],_,_,H1,rfl,I1.kept (t':=s1.toks) fun b o e=>Heap.get?_push_of_some _ e,turn_list a _,⟨_,Heap.get?_push_size _ rfl,rfl,rfl⟩,fun b hb=>?_,q⟩
 have e:b=s1.heap.objs.size:=by simpa using hb
 subst e
 exact I1.fpOk (Nat.le_refl _) (I1.hok.fresh (Nat.le_refl _))
theorem range_it {pins:List (Addr×Obj)}{σ:St}{H:Hp}{s:Shared}{R:It→Hp→Prop}{E:Value→Shared→Prop}{lo hi:Int}{t u v:Tok}{tk:Nat} (I:Inv X pins σ H s) (h1:-(2 ^ 62)≤lo) (h2:lo < 2 ^ 62) (h3:-(2 ^ 62)≤hi) (h4:hi < 2 ^ 62)
  (q:R (Itr lo (hi - lo).toNat) H):wpAny (model X.prog X.w) X.A (pyIter (.ref s.heap.objs.size)) (PIE X pins σ tg R) E { s with heap:=s.heap.push { cls:=.type "range",data:=.fields #[.int lo t,.int hi u,.int 1 v] },toks:=tk }:=by
 refine wpAny_pyIter_range (IsRange.new ..) (small_one h1 h2 h3 h4) ?_
 have I1:Inv X pins σ H { s with heap:=s.heap.push { cls:=.type "range",data:=.fields #[.int lo t,.int hi u,.int 1 v] },toks:=tk }:=I.kept fun b o e=>Heap.get?_push_of_some _ e
 refine ⟨(s.heap.push { cls:=.type "range",data:=.fields #[.int lo t,.int hi u,.int 1 v] }).objs.size,[(s.heap.push { cls:=.type "range",data:=.fields #[.int lo t,.int hi u,.int 1 v] }).objs.size],_,_,H,rfl,
  I1.kept (t':=tk) fun b o e=>Heap.get?_push_of_some _ e,turn_range _ lo (hi - lo).toNat,?_,fun b hb=>?_,q⟩
 ·have e1:lo + ((0:Nat):Int) * 1=lo:=by simp
  have e2:(((hi - lo).toNat:Nat):Int) - ((0:Nat):Int)=Builtin.Range.rangeSize lo hi 1:=by rw [rangeSize_one];split <;> omega
  show IsRangeIter _ _ (lo + ((0:Nat):Int) * 1) ((((hi - lo).toNat:Nat):Int) - ((0:Nat):Int)) 1
  rw [e1,e2]
  exact Heap.get?_push_size _ rfl
 ·have e:b=(s.heap.push { cls:=.type "range",data:=.fields #[.int lo t,.int hi u,.int 1 v] }).objs.size:=by simpa using hb
  subst e
  exact I1.fpOk (Nat.le_refl _) (I1.hok.fresh (Nat.le_refl _))
def iRng1 (ta:TA):TI:=fun σ H R=>ta σ H fun vs H1=>∃ j:Int,vs=[.int j]∧-(2 ^ 62)≤j∧j < 2 ^ 62∧R (Itr 0 j.toNat) H1
def iRng2 (ta:TA):TI:=fun σ H R=>ta σ H fun vs H1=>∃ i j:Int,vs=[.int i,.int j]∧(-(2 ^ 62)≤i∧i < 2 ^ 62∧-(2 ^ 62)≤j∧j < 2 ^ 62)∧R (Itr i (j - i).toNat) H1
theorem pi_range1 {a:Expr}{ta:TA}{p pos:Pos} (hg:Gl X "range") (hm:X.mg "range"=none) (ha:PA X [a] ta) (hs:starEach [a] X.env=[(false,eval a X.env)]:=by rfl):PI X tg (.Call (.Name "range" p) [a] [] pos) (iRng1 ta):=by
 intro pins s σ H R I h
 refine Call_ (ld_blt I hg hm boot_range (PyProof.Rows.callWith_type1 (thn (ha pos pins s σ H _ I h) fun us s1 ⟨vs,H1,I1,r1,q1⟩=>?_) hs rfl))
 obtain ⟨j,e,q1,q2,q⟩:=q1
 subst e
 cases r1 with
 | cons r rr=>
  cases rr
  obtain ⟨t,rfl⟩:=r
  exact call_range_1 (range_it I1 (by omega) (by omega) q1 q2 (by simpa using q))
theorem pi_range2 {a b:Expr}{ta:TA}{p pos:Pos} (hg:Gl X "range") (hm:X.mg "range"=none) (ha:PA X [a,b] ta) (hs:starEach [a,b] X.env=[(false,eval a X.env),(false,eval b X.env)]:=by rfl) (hs2:starEach [b] X.env=[(false,eval b X.env)]:=by rfl) :
  PI X tg (.Call (.Name "range" p) [a,b] [] pos) (iRng2 ta):=by
 intro pins s σ H R I h
 refine Call_ (ld_blt I hg hm boot_range (PyProof.Rows.callWith_type1 (thn (ha pos pins s σ H _ I h) fun us s1 ⟨vs,H1,I1,r1,q1⟩=>?_) (by rw [hs,hs2]) (by rw [hs2];rfl)))
 obtain ⟨i,j,e,⟨q1,q2,q3,q4⟩,q⟩:=q1
 subst e
 cases r1 with
 | cons r rr=>
  cases rr with
  | cons r' rr=>
   cases rr
   obtain ⟨t,rfl⟩:=r
   obtain ⟨t',rfl⟩:=r'
   exact call_range_2 (range_it I1 q1 q2 q3 q4 q)
def tFor (wi:TI) (g:TG) (tb:TS):TS:=fun D σ H=>wi σ H fun J H1=>∃ W:Nat→Nat→St→Hp→Prop,(∃ m,W 0 m σ H1)∧∀ i m σ H,W i m σ H →
 (J.stop i H∧D.nx σ H)∨(J.go i H∧∃ N:St→Hp→Prop,(∀ σ' H',N σ' H'→∃ m',m' < m∧W (i + 1) m' σ' H')∧∀ x H',J.yld i H x H'→g x σ H' fun σ2 H2=>tb { D with nx:=N,ct:=N,bk:=D.nx } σ2 H2)
def pinsAt (fp:List Addr) (h:Heap):List (Addr×Obj):=fp.filterMap fun b=>(h.get? b).map fun o=>(b,o)
theorem mem_pinsAt {fp:List Addr}{h:Heap}{b:Addr}{o:Obj} (hb:b∈fp) (e:h.get? b=some o):(b,o)∈pinsAt fp h:=List.mem_filterMap.mpr ⟨b,hb,by rw [e];rfl⟩
theorem of_pinsAt {fp:List Addr}{h:Heap}{p:Addr×Obj} (hp:p∈pinsAt fp h):p.1∈fp∧h.get? p.1=some p.2:=by
 obtain ⟨b,hb,e⟩:=List.mem_filterMap.mp hp
 cases q:h.get? b with
 | none=>rw [q] at e;cases e
 | some o=>
  rw [q] at e
  have e':(b,o)=p:=Option.some.inj e
  subst e'
  exact ⟨hb,q⟩
theorem Inv.pinned {pins:List (Addr×Obj)}{σ:St}{H:Hp}{s:Shared}{fp:List Addr} (I:Inv X pins σ H s) (hf:∀ b∈fp,FpOk X pins H b) (ho:∀ b∈fp,∃ o,s.heap.get? b=some o∧∀ v,o.data≠.cell v):Inv X (pins++pinsAt fp s.heap) σ H s:=
 I.pins_of fun p hp=>(List.mem_append.mp hp).elim (fun z=>I.pin p (List.mem_append_right _ z)) fun z=>by
  obtain ⟨hb,e⟩:=of_pinsAt z
  obtain ⟨f0,f1,f2,_⟩:=hf p.1 hb
  obtain ⟨o,e',d⟩:=ho p.1 hb
  rw [e] at e';cases e'
  exact ⟨e,f0,f1,f2,d⟩
theorem Inv.unpinned {pins pl:List (Addr×Obj)}{σ:St}{H:Hp}{s:Shared} (I:Inv X (pins++pl) σ H s):Inv X pins σ H s:=I.pins_of fun p hp=>I.pin p (List.mem_append_right _ (List.mem_append_left _ hp))
theorem ps_for {iter:Expr}{body:List Stmt}{wi:TI}{g:TG}{tb:TS}{pos:Pos} (hp:PassesOwn (model X.prog X.w) X.A X.env X.xe) (hc:X.calm=true) (hi:PI X tg iter wi) (hg:PG X tg g) (hb:PSs X body tb)
  (hs:∀ x,foldedSetIterable iter X.env x=pure x:=by intro _;rfl):PS X (.For tg iter body [] pos) (tFor wi g tb):=by
 intro pins s σ H D I h
 refine wpAny_For (thn (hi pins s σ H _ I h) fun v s1 h1=>thn h1 fun itv s2 h2=>?_) hs
 obtain ⟨it,fp,tn,J,H2,e,I2,T,st2,f2,W,⟨m0,w0⟩,turn⟩:=h2
 subst e
 have stat:∀ {H':Hp},(∀ b∈fp,H' b=none)→∀ b∈fp,FpOk X pins H' b:=fun hn b hb=>⟨hn b hb,(f2 b hb).2⟩
 refine codeAny_forLoop_any (fun n s'=>∃ i σ' H',Inv X pins σ' H' s'∧tn i s'.heap∧(∀ b∈fp,H' b=none)∧W i n σ' H') ?_ m0 ⟨0,σ,H2,I2,st2,fun b hb=>(f2 b hb).1,w0⟩
 rintro n s3 ⟨i,σ3,H3,I3,st3,fr3,w3⟩
 rcases turn i n σ3 H3 w3 with ⟨stop,qn⟩ | ⟨go,N,hN,step⟩
 ·refine wpAny_passesOwn hp (thn (T.done X rfl rfl rfl (.inl hc) i pins s3 σ3 H3 X.xe I3 (stat fr3) st3 stop) fun r s4 ⟨hr,I4⟩=>?_)
  subst hr
  exact wpAny_execs_nil ⟨σ3,H3,I4,qn⟩
 ·refine wpAny_passesOwn hp (thn (T.item X rfl rfl rfl (.inl hc) i pins s3 σ3 H3 X.xe I3 (stat fr3) st3 go) fun r s4 ⟨u,hr,h4⟩=>?_)
  subst hr
  refine wpAny_passesOwn hp (thn h4 fun _ s5 ⟨x,H5,I5,r5,y5,st5,fr5⟩=>?_)
  have I5':=I5.pinned (stat fr5) (T.obj _ _ st5)
  refine wpAny_passesOwn hp (thn (hg _ s5 σ3 H5 x u _ I5' r5 (step x H5 y5)) fun _ s6 ⟨σ6,H6,I6,q6⟩=>?_)
  refine wpAny_passesOwn hp (thn (hb _ s6 σ6 H6 _ I6 q6) fun f s7 q7=>?_)
  have again:∀ {σ7:St}{H7:Hp},Inv X (pins++pinsAt fp s5.heap) σ7 H7 s7→N σ7 H7→∃ m,m < n∧∃ i σ' H',Inv X pins σ' H' s7∧tn i s7.heap∧(∀ b∈fp,H' b=none)∧W i m σ' H':=fun {σ7 H7} I7 n7=>by
   obtain ⟨m',hm,w7⟩:=hN σ7 H7 n7
   refine ⟨m',hm,i + 1,σ7,H7,I7.unpinned,T.keep _ _ _ st5 fun b hb o e=>(I7.pin (b,o) (List.mem_append_right _ (List.mem_append_right _ (mem_pinsAt hb e)))).1,fun b hb=>?_,w7⟩
   obtain ⟨o,e,d⟩:=T.obj _ _ st5 b hb
   exact (I7.pin (b,o) (List.mem_append_right _ (List.mem_append_right _ (mem_pinsAt hb e)))).2.1
  cases f with
  | next=>obtain ⟨σ7,H7,I7,n7⟩:=q7;exact again I7 n7
  | cont=>obtain ⟨σ7,H7,I7,n7⟩:=q7;exact again I7 n7
  | brk=>obtain ⟨σ7,H7,I7,q7⟩:=q7;exact ⟨σ7,H7,I7.unpinned,q7⟩
  | ret v=>obtain ⟨x7,σ7,H7,I7,r7,q7⟩:=q7;exact ⟨x7,σ7,H7,I7.unpinned,r7,q7⟩
end
abbrev R2:=V→V→Hp→VK→Prop
def OpR (X:Cx) (f:Value→Value→Sem Value) (r:R2):Prop:=
 ∀ (pins:List (Addr×Obj)) (s:Shared) (σ:St) (H:Hp) (x y:V) (v u:Value) (Q:VK),Inv X pins σ H s→RelV x v→RelV y u→r x y H Q →
  wpAny (model X.prog X.w) X.A (f v u) (EP X pins σ Q) X.xe s
def UnR (X:Cx) (f:Value→Sem Value) (r:V→Hp→VK→Prop):Prop:=
 ∀ (pins:List (Addr×Obj)) (s:Shared) (σ:St) (H:Hp) (x:V) (v:Value) (Q:VK),Inv X pins σ H s→RelV x v→r x H Q →
  wpAny (model X.prog X.w) X.A (f v) (EP X pins σ Q) X.xe s
def CallR (X:Cx) (f:Value) (r:List V→Hp→VK→Prop):Prop:=
 ∀ (pins:List (Addr×Obj)) (s:Shared) (σ:St) (H:Hp) (xs:List V) (us:List Value) (Q:VK),Inv X pins σ H s→Vals xs us→r xs H Q →
  wpAny (model X.prog X.w) X.A (call f us) (EP X pins σ Q) X.xe s
def tOp (r:R2) (ta tb:TE):TE:=fun σ H Q=>ta σ H fun x H1=>tb σ H1 fun y H2=>r x y H2 Q
def tUn (r:V→Hp→VK→Prop) (ta:TE):TE:=fun σ H Q=>ta σ H fun x H1=>r x H1 Q
def rI (C:Int→Int→Prop) (g:Int→Int→V):R2:=fun x y H Q=>∃ i j,x=.int i∧y=.int j∧C i j∧Q (g i j) H
def rI0 (g:Int→Int→V):R2:=fun x y H Q=>∃ i j,x=.int i∧y=.int j∧Q (g i j) H
def rU (g:Int→V):V→Hp→VK→Prop:=fun x H Q=>∃ i,x=.int i∧Q (g i) H
section
variable {X:Cx}{a b c:Expr}{ta tb tc:TE}{pos:Pos}
theorem binT (ha:PE X a ta) (hb:PE X b tb) {pins:List (Addr×Obj)}{s:Shared}{σ:St}{H:Hp}{R:V→V→Hp→Prop} (I:Inv X pins σ H s)
  (h:ta σ H fun x H1=>tb σ H1 fun y H2=>R x y H2) {Q:Value→Shared→Prop}{f:Value→Value→Sem Value}
  (hf:∀ v u s2 x y H2,Inv X pins σ H2 s2→RelV x v→RelV y u→R x y H2→wpAny (model X.prog X.w) X.A (f v u) Q X.xe s2) :
  wpAny (model X.prog X.w) X.A (eval a X.env) (fun v s₁=>wpAny (model X.prog X.w) X.A (eval b X.env) (fun u s₂=>wpAny (model X.prog X.w) X.A (f v u) Q X.xe s₂) X.xe s₁) X.xe s:=by
 refine thn (ha pins s σ H _ I h) fun v s1 ⟨x,H1,I1,r1,q1⟩=>?_
 refine thn (hb pins s1 σ H1 _ I1 q1) fun u s2 ⟨y,H2,I2,r2,q2⟩=>?_
 exact hf v u s2 x y H2 I2 r1 r2 q2
theorem pe_op {op:Operator}{r:R2} (ho:OpR X (binaryOp op) r) (ha:PE X a ta) (hb:PE X b tb):PE X (.BinOp a op b pos) (tOp r ta tb):=by
 intro pins s σ H Q I h
 exact wpAny_BinOp (binT ha hb I h fun v u s2 x y H2 I2 rx ry q=>ho pins s2 σ H2 x y v u Q I2 rx ry q)
theorem pe_un {op:UnaryOp}{r:V→Hp→VK→Prop} (ho:UnR X (unaryOp op) r) (ha:PE X a ta):PE X (.UnaryOp op a pos) (tUn r ta):=by
 intro pins s σ H Q I h
 exact UnaryOp_ (thn (ha pins s σ H _ I h) fun v s1 ⟨x,H1,I1,r1,q1⟩=>ho pins s1 σ H1 x v Q I1 r1 q1)
theorem opI {f:Value→Value→Sem Value}{C:Int→Int→Prop}{g:Int→Int→Int}
  (rule:∀ (i j:Int) (t u:Tok) (s:Shared) (Q:Value→Shared→Prop) (E:Value→Shared→Prop),C i j→Q (.int (g i j) s.toks) { s with toks:=s.toks + 1 }→wpAny (model X.prog X.w) X.A (f (.int i t) (.int j u)) Q E s) :
  OpR X f (rI C fun i j=>.int (g i j)):=by
 intro pins s σ H x y v u Q I rx ry h
 obtain ⟨i,j,rfl,rfl,hc,q⟩:=h
 obtain ⟨t,rfl⟩:=rx
 obtain ⟨t',rfl⟩:=ry
 exact rule i j t t' s _ _ hc ⟨.int (g i j),H,I.tok _,⟨_,rfl⟩,q⟩
theorem opI0 {f:Value→Value→Sem Value}{g:Int→Int→Int}
  (rule:∀ (i j:Int) (t u:Tok) (s:Shared) (Q:Value→Shared→Prop) (E:Value→Shared→Prop),Q (.int (g i j) s.toks) { s with toks:=s.toks + 1 }→wpAny (model X.prog X.w) X.A (f (.int i t) (.int j u)) Q E s) :
  OpR X f (rI0 fun i j=>.int (g i j)):=by
 intro pins s σ H x y v u Q I rx ry h
 obtain ⟨i,j,rfl,rfl,q⟩:=h
 obtain ⟨t,rfl⟩:=rx
 obtain ⟨t',rfl⟩:=ry
 exact rule i j t t' s _ _ ⟨.int (g i j),H,I.tok _,⟨_,rfl⟩,q⟩
theorem opB0 {f:Value→Value→Sem Value}{g:Int→Int→Bool}
  (rule:∀ (i j:Int) (t u:Tok) (s:Shared) (Q:Value→Shared→Prop) (E:Value→Shared→Prop),Q (.bool (g i j)) s→wpAny (model X.prog X.w) X.A (f (.int i t) (.int j u)) Q E s) :
  OpR X f (rI0 fun i j=>.bl (g i j)):=by
 intro pins s σ H x y v u Q I rx ry h
 obtain ⟨i,j,rfl,rfl,q⟩:=h
 obtain ⟨t,rfl⟩:=rx
 obtain ⟨t',rfl⟩:=ry
 exact rule i j t t' s _ _ ⟨.bl (g i j),H,I,rfl,q⟩
def CPow (i j:Int):Prop:=0≤j∧j≤1000000∧i.natAbs < 2 ^ 64
theorem op_add:OpR X (binaryOp .Add) (rI0 fun i j=>.int (i + j)):=opI0 fun _ _ _ _ _ _ _ q=>add_int q
theorem op_sub:OpR X (binaryOp .Sub) (rI0 fun i j=>.int (i - j)):=opI0 fun _ _ _ _ _ _ _ q=>sub_int q
theorem op_mod:OpR X (binaryOp .Mod) (rI (fun _ j=>0 < j) fun i j=>.int (i % j)):=opI fun i j _ _ _ _ _ hc q=>by
 have h1:(0:Int) < j:=hc
 exact mod_int' (by omega) (by rw [Int.fmod_eq_emod_of_nonneg i (by omega)];exact q)
theorem op_pow:OpR X (binaryOp .Pow) (rI CPow fun i j=>.int (i ^ j.toNat)):=opI fun _ _ _ _ _ _ _ hc q=>pow_int_small hc.1 hc.2.1 hc.2.2 q
theorem unI {f:Value→Sem Value}{g:Int→Int}
  (rule:∀ (i:Int) (t:Tok) (s:Shared) (Q:Value→Shared→Prop) (E:Value→Shared→Prop),Q (.int (g i) s.toks) { s with toks:=s.toks + 1 }→wpAny (model X.prog X.w) X.A (f (.int i t)) Q E s) :
  UnR X f (rU fun i=>.int (g i)):=by
 intro pins s σ H x v Q I rx h
 obtain ⟨i,rfl,q⟩:=h
 obtain ⟨t,rfl⟩:=rx
 exact rule i t s _ _ ⟨.int (g i),H,I.tok _,⟨_,rfl⟩,q⟩
theorem un_neg:UnR X (unaryOp .USub) (rU fun i=>.int (-i)):=unI fun _ _ _ _ _ q=>neg_int q
end
def scal:V→V→Bool
 | .non,.non=>true | .non,.int _=>true | .int _,.non=>true | .non,.bl _=>true | .bl _,.non=>true | .non,.str _=>true | .str _,.non=>true
 | .int _,.int _=>true | .bl _,.bl _=>true | .str _,.str _=>true | .byt _,.byt _=>true
 | .int _,.str _=>true | .str _,.int _=>true | .bl _,.str _=>true | .str _,.bl _=>true
 | _,_=>false
def rEq:R2:=fun x y H Q=>scal x y=true∧Q (.bl (decide (x=y))) H
def rNe:R2:=fun x y H Q=>scal x y=true∧Q (.bl (!decide (x=y))) H
theorem dec_int {i j:Int}:decide (V.int i=V.int j)=(i == j):=by
 rw [Bool.eq_iff_iff]
 simp
theorem dec_bl {i j:Bool}:decide (V.bl i=V.bl j)=(i == j):=by
 rw [Bool.eq_iff_iff]
 simp
theorem dec_str {i j:Str}:decide (V.str i=V.str j)=(i == j):=by
 rw [Bool.eq_iff_iff]
 simp
theorem dec_byt {i j:Array UInt8}:decide (V.byt i=V.byt j)=(i.toList == j.toList):=by
 rw [Bool.eq_iff_iff]
 cases i
 cases j
 simp
section
variable {X:Cx}{a b c:Expr}{ta tb tc:TE}{pos:Pos}
theorem fin_bl {pins:List (Addr×Obj)}{σ:St}{H:Hp}{s:Shared}{Q:VK}{k k':Bool} (I:Inv X pins σ H s) (q:Q (.bl k) H) (e:k=k'):EP X pins σ Q (.bool k') s:=by
 subst e
 exact ⟨.bl k,H,I,rfl,q⟩
theorem op_eq:OpR X (compareOp .Eq) rEq:=by
 intro pins s σ H x y v u Q I rx ry h
 obtain ⟨hs,q⟩:=h
 cases x with
 | non=>
  cases rx
  cases y with
  | non=>cases ry;exact PySem.EqNone.eq_none_none (fin_bl I q (by simp))
  | bl j=>cases ry;exact PySem.EqNone.eq_none_bool (fin_bl I q (by simp))
  | int j=>obtain ⟨t',rfl⟩:=ry;exact PySem.EqNone.eq_none_int (fin_bl I q (by simp))
  | str j=>obtain ⟨t',rfl⟩:=ry;exact PySem.EqNone.eq_none_str (fin_bl I q (by simp))
  | _=>exact absurd (show false=true from hs) Bool.false_ne_true
 | bl i=>
  cases rx
  cases y with
  | non=>cases ry;exact PySem.EqNone.eq_bool_none (fin_bl I q (by simp))
  | bl j=>cases ry;exact eq_bool (fin_bl I q dec_bl)
  | str j=>obtain ⟨t',rfl⟩:=ry;exact PySem.EqMixed.eq_bool_str (fin_bl I q (by simp))
  | _=>exact absurd (show false=true from hs) Bool.false_ne_true
 | int i=>
  obtain ⟨t,rfl⟩:=rx
  cases y with
  | non=>cases ry;exact PySem.EqNone.eq_int_none (fin_bl I q (by simp))
  | int j=>obtain ⟨t',rfl⟩:=ry;exact eq_int (fin_bl I q dec_int)
  | str j=>obtain ⟨t',rfl⟩:=ry;exact PySem.EqMixed.eq_int_str (fin_bl I q (by simp))
  | _=>exact absurd (show false=true from hs) Bool.false_ne_true
 | str i=>
  obtain ⟨t,rfl⟩:=rx
  cases y with
  | non=>cases ry;exact PySem.EqNone.eq_str_none (fin_bl I q (by simp))
  | bl j=>cases ry;exact PySem.EqMixed.eq_str_bool (fin_bl I q (by simp))
  | int j=>obtain ⟨t',rfl⟩:=ry;exact PySem.EqMixed.eq_str_int (fin_bl I q (by simp))
  | str j=>obtain ⟨t',rfl⟩:=ry;exact eq_str (fin_bl I q dec_str)
  | _=>exact absurd (show false=true from hs) Bool.false_ne_true
 | byt i=>
  obtain ⟨t,rfl⟩:=rx
  cases y with
  | byt j=>obtain ⟨t',rfl⟩:=ry;exact PySem.W.eq_bytes (fin_bl I q dec_byt)
  | _=>exact absurd (show false=true from hs) Bool.false_ne_true
 | _=>cases y <;> exact absurd (show false=true from hs) Bool.false_ne_true
theorem op_ne:OpR X (compareOp .NotEq) rNe:=by
 intro pins s σ H x y v u Q I rx ry h
 obtain ⟨hs,q⟩:=h
 cases x with
 | non=>
  cases rx
  cases y with
  | non=>cases ry;exact PySem.EqNone.ne_none_none (fin_bl I q (by simp))
  | bl j=>cases ry;exact PySem.EqNone.ne_none_bool (fin_bl I q (by simp))
  | int j=>obtain ⟨t',rfl⟩:=ry;exact PySem.EqNone.ne_none_int (fin_bl I q (by simp))
  | str j=>obtain ⟨t',rfl⟩:=ry;exact PySem.EqNone.ne_none_str (fin_bl I q (by simp))
  | _=>exact absurd (show false=true from hs) Bool.false_ne_true
 | bl i=>
  cases rx
  cases y with
  | non=>cases ry;exact PySem.EqNone.ne_bool_none (fin_bl I q (by simp))
  | bl j=>cases ry;exact ne_bool (fin_bl I q (congrArg not dec_bl))
  | str j=>obtain ⟨t',rfl⟩:=ry;exact PySem.EqMixed.ne_bool_str (fin_bl I q (by simp))
  | _=>exact absurd (show false=true from hs) Bool.false_ne_true
 | int i=>
  obtain ⟨t,rfl⟩:=rx
  cases y with
  | non=>cases ry;exact PySem.EqNone.ne_int_none (fin_bl I q (by simp))
  | int j=>obtain ⟨t',rfl⟩:=ry;exact ne_int (fin_bl I q (congrArg not dec_int))
  | str j=>obtain ⟨t',rfl⟩:=ry;exact PySem.EqMixed.ne_int_str (fin_bl I q (by simp))
  | _=>exact absurd (show false=true from hs) Bool.false_ne_true
 | str i=>
  obtain ⟨t,rfl⟩:=rx
  cases y with
  | non=>cases ry;exact PySem.EqNone.ne_str_none (fin_bl I q (by simp))
  | bl j=>cases ry;exact PySem.EqMixed.ne_str_bool (fin_bl I q (by simp))
  | int j=>obtain ⟨t',rfl⟩:=ry;exact PySem.EqMixed.ne_str_int (fin_bl I q (by simp))
  | str j=>obtain ⟨t',rfl⟩:=ry;exact ne_str (fin_bl I q (congrArg not dec_str))
  | _=>exact absurd (show false=true from hs) Bool.false_ne_true
 | byt i=>
  obtain ⟨t,rfl⟩:=rx
  cases y with
  | byt j=>obtain ⟨t',rfl⟩:=ry;exact PySem.W.ne_bytes (fin_bl I q (congrArg not dec_byt))
  | _=>exact absurd (show false=true from hs) Bool.false_ne_true
 | _=>cases y <;> exact absurd (show false=true from hs) Bool.false_ne_true
theorem op_lt:OpR X (compareOp .Lt) (rI0 fun i j=>.bl (decide (i < j))):=opB0 fun _ _ _ _ _ _ _ q=>lt_int q
theorem op_le:OpR X (compareOp .LtE) (rI0 fun i j=>.bl (decide (i≤j))):=opB0 fun _ _ _ _ _ _ _ q=>le_int q
theorem op_ge:OpR X (compareOp .GtE) (rI0 fun i j=>.bl (decide (j≤i))):=opB0 fun _ _ _ _ _ _ _ q=>ge_int q
theorem op_isN:OpR X (compareOp .Is) (fun x y H Q=>y=.non∧Q (.bl (decide (x=.non))) H):=by
 intro pins s σ H x y v u Q I rx ry h
 obtain ⟨rfl,q⟩:=h
 cases ry
 refine is_none_gen (fin_bl I q ?_)
 cases x <;> first
  | (cases rx;rfl)
  | (obtain ⟨t,rfl⟩:=rx;rfl)
theorem op_notN:OpR X (compareOp .IsNot) (fun x y H Q=>y=.non∧Q (.bl (!decide (x=.non))) H):=by
 intro pins s σ H x y v u Q I rx ry h
 obtain ⟨rfl,q⟩:=h
 cases ry
 refine isnot_none_gen (fin_bl I q ?_)
 cases x <;> first
  | (cases rx;rfl)
  | (obtain ⟨t,rfl⟩:=rx;rfl)
theorem nomark (b:Expr) {op:CmpOp} (h:op≠.In:=by decide) (h2:op≠.NotIn:=by decide):behindInMarks op b=false:=by
 have e1:(op == CmpOp.In)=false:=by cases op <;> first | rfl | exact absurd rfl h
 have e2:(op == CmpOp.NotIn)=false:=by cases op <;> first | rfl | exact absurd rfl h2
 cases b <;> simp [behindInMarks,e1,e2]
theorem pe_cmpR {op:CmpOp}{r:R2} (ho:OpR X (compareOp op) r) (ha:PE X a ta) (hb:PE X b tb) (hm:behindInMarks op b=false):PE X (.Compare a [op] [b] pos) (tOp r ta tb):=by
 intro pins s σ H Q I h
 exact wpAny_Compare1 (binT ha hb I h fun v u s2 x y H2 I2 rx ry q=>ho pins s2 σ H2 x y v u Q I2 rx ry q) hm
def tTest (t:TE):TT:=fun σ H Q=>t σ H fun x H'=>∃ k,x=.bl k∧Q k H'
theorem pt_cmpR {op:CmpOp}{r:R2} (ho:OpR X (compareOp op) r) (ha:PE X a ta) (hb:PE X b tb) (hm:behindInMarks op b=false):PT X (.Compare a [op] [b] pos) (tTest (tOp r ta tb)):=by
 intro pins s σ H Q I h
 refine wpAny_isTrue_Compare1 (thn (ha pins s σ H _ I h) fun v s1 ⟨x,H1,I1,r1,q1⟩=>thn (hb pins s1 σ H1 _ I1 q1) fun u s2 ⟨y,H2,I2,r2,q2⟩=>
  thn (ho pins s2 σ H2 x y v u _ I2 r1 r2 q2) fun c s3 ⟨z,H3,I3,r3,k,e,q3⟩=>?_) hm
 subst e
 cases r3
 exact wpAny_truthy_bool ⟨H3,I3,q3⟩
def tChain (r r':R2) (ta tb tc:TE):TE:=fun σ H Q=>ta σ H fun x H1=>tb σ H1 fun y H2=>r x y H2 fun z H3=>∃ k,z=.bl k ∧
 (if k=true then tc σ H3 fun w' H4=>r' y w' H4 Q else Q (.bl false) H3)
theorem pe_chain {op op':CmpOp}{r r':R2} (ho:OpR X (compareOp op) r) (ho':OpR X (compareOp op') r') (ha:PE X a ta) (hb:PE X b tb) (hc:PE X c tc)
  (hm:lastMarks [op,op'] [b,c]=false:=by with_unfolding_all rfl):PE X (.Compare a [op,op'] [b,c] pos) (tChain r r' ta tb tc):=by
 intro pins s σ H Q I h
 refine Compare_chain (thn (ha pins s σ H _ I h) fun v s1 ⟨x,H1,I1,r1,q1⟩=>chain_link (thn (hb pins s1 σ H1 _ I1 q1) fun u s2 ⟨y,H2,I2,r2,q2⟩=>
  thn (ho pins s2 σ H2 x y v u _ I2 r1 r2 q2) fun d s3 ⟨z,H3,I3,r3,k,e,q3⟩=>?_)) hm
 subst e
 cases r3
 refine wpAny_truthy_bool ?_
 cases k with
 | false=>exact ite_ff ⟨.bl false,H3,I3,rfl,q3⟩
 | true=>exact ite_tt (chain_last (thn (hc pins s3 σ H3 _ I3 q3) fun w' s4 ⟨z',H4,I4,r4,q4⟩=>ho' pins s4 σ H4 y z' u w' Q I4 r2 r4 q4))
theorem line63:(sizeLine:Nat) < 2 ^ 63:=by rw [sizeLine_eq];decide
theorem vals1 {x:V}{us:List Value} (r:Vals [x] us):∃ u,us=[u]∧RelV x u:=by
 cases r with
 | cons r1 r2=>cases r2;exact ⟨_,rfl,r1⟩
theorem vals2 {x y:V}{us:List Value} (r:Vals [x,y] us):∃ u w',us=[u,w']∧RelV x u∧RelV y w':=by
 cases r with
 | cons r1 r2=>
  cases r2 with
  | cons r3 r4=>cases r4;exact ⟨_,_,rfl,r1,r3⟩
end
structure ObjM (h:Heap) (x dx C:Addr) (mA:Str→Option Value):Prop where
 obj:h.get? x=some (PySem.W.instObj C dx)
 ns:h.Ns1 dx mA
 ne:dx≠x
theorem lookIn_ns {h:Heap}{dx:Addr}{mA:Str→Option Value} (n:h.Ns1 dx mA):∃ od,h.get? dx=some od∧∀ name,PySem.W.lookIn name od=some (mA name):=by
 obtain ⟨o,es,ep,ho,hd,hk,_,hm⟩:=n
 refine ⟨o,ho,fun name=>?_⟩
 have e:=hm name
 unfold nsFind findBy at e
 rw [← Array.find?_toList] at e
 unfold PySem.W.lookIn
 rw [hd]
 dsimp only
 split
 ·rename_i y q
  rw [q] at e
  exact congrArg some e
 ·rename_i q
  rw [q] at e
  have a:es.toList.any (·.refKey)=false:=by
   rw [List.any_eq_false]
   intro y hy
   obtain ⟨z,t,hkey⟩:=hk y (Array.mem_toList_iff.mp hy)
   simp [DictEntry.refKey,hkey]
  have a':¬ es.toList.any (·.refKey)=true:=by rw [a];exact Bool.false_ne_true
  rw [if_neg a']
  exact congrArg some e
theorem ObjM.look {h:Heap}{x dx C:Addr}{mA:Str→Option Value} (I:ObjM h x dx C mA):∃ od,PySem.W.InstAt h x (PySem.W.instObj C dx) C (some od)∧∀ name,PySem.W.lookIn name od=some (mA name):=
 let ⟨od,ho,hl⟩:=lookIn_ns I.ns
 ⟨od,⟨I.obj,rfl,rfl,ho⟩,hl⟩
section
variable {prog:Program}{w:World}{A:Around}{E:Value→Shared→Prop}{s:Shared}{K:PySem.W.Frag}{x dx C f:Addr}{mA:Str→Option Value}{name:Str}{v:Value}
theorem get_map {expr:Bool}{Q:Value→Shared→Prop} (X:K.In s.heap) (I:ObjM s.heap x dx C mA) (hg:PySem.W.plainGet K C name=true) (hh:PySem.W.hasDictIn K C=true)
  (ha:PySem.W.findIn K (.ref C) name=some none) (hv:mA name=some v) (hv':PySem.W.handedIn v=true) (h:Q v { s with toks:=s.toks + 1 }) :
  wpAny (model prog w) A (getAttr (.ref x) name expr) Q E s:=by
 obtain ⟨od,J,hl⟩:=I.look
 exact PySem.W.get_value X J (PySem.W.plainGet_of hg).1 (PySem.W.findObj_own hh ha rfl (by rw [hl,hv])) hv' h
theorem get_meth {pl:Sem Bool}{Q:Value×List Value→Shared→Prop} (X:K.In s.heap) (I:ObjM s.heap x dx C mA) (hg:PySem.W.plainGet K C name=true)
  (hf:PySem.W.findIn K (.ref C) name=some (some (.ref f))) (ht:PySem.W.isFn K (.ref f)=true) (hv:mA name=none) (h:Q (.ref f,[.ref x]) s) :
  wpAny (model prog w) A (getMethod (.ref x) name pl) Q E s:=by
 obtain ⟨od,J,hl⟩:=I.look
 exact PySem.W.method_fn X J (PySem.W.plainGet_of hg).1 (PySem.W.plainGet_of hg).2 hf (beq_iff_eq.mp ht) (by show (PySem.W.lookIn name od).map (·.isSome)=some false;rw [hl,hv];rfl) h
theorem set_map {ns:List Str}{Q:Unit→Shared→Prop} (X:K.In s.heap) (I:ObjM s.heap x dx C mA)
  (hs:PySem.W.findIn K (.ref C) "__setattr__"=some (some (.builtin "object.__setattr__"))) (hp:PySem.W.plainOver K C=true) (ht:PySem.W.takerIn K C name=some none) (hh:PySem.W.hasDictIn K C=true)
  (hw:PySem.Within mA ns) (hsz:ns.length≤sizeLine)
  (h:∀ h',ObjM h' x dx C (fun y=>if y=name then some v else mA y)→Heap.SameBut dx s.heap h'→Q () { s with heap:=h',toks:=s.toks + 2 }) :
  wpAny (model prog w) A (setAttr (.ref x) name v) Q E s:=by
 obtain ⟨od,J,hl⟩:=I.look
 refine PySem.W.set_plain X J hs (PySem.W.osa_open (s:={ s with toks:=s.toks + 1 }) (r:=none) X J hp ht fun b=>?_)
 obtain ⟨cd,hc,hd'⟩:=PySem.W.any_some hh
 have hx:s.heap.get? x=some ⟨.ref C,some dx,.plain,#[]⟩:=I.obj
 refine wpAny_bind (wpAny_pure (wpAny_bind (wpAny_bind (wpAny_loadPart hx (wpAny_bind (PySem.W.Looks.here (s:={ s with toks:=s.toks + 1 }) (PySem.W.looks_clsIn X hc) ?_))))))
 rw [hd']
 refine wpAny_pure (a:=some dx) (wpAny_bind (wpAny_pure (wpAny_bind ?_)))
 refine wpAny_nsSet1 (s:={ s with toks:=s.toks + 1 }) I.ns fun h' hn2 hs2=>?_
 obtain ⟨oD,esD,epD,hoD,hdD,hcD⟩:=hn2.count (PySem.Within.cons name v hw)
 refine wpAny_bind (wpAny_lookBehind hoD (by rw [hdD];exact pastItsLine_dict (Nat.le_trans hcD (by rw [List.length_cons];omega))) ?_)
 exact wpAny_pure (h _ ⟨(hs2.2 _ (Ne.symm I.ne)).trans I.obj,hn2,I.ne⟩ hs2)
theorem make_map {R:Result→Shared→Prop}{vs:List Value}{kw:List (Str×Value)} (X:K.In s.heap) (hm:PySem.W.makesIn K C=true)
  (hi:PySem.W.findIn K (.ref C) "__init__"=some (some (.ref f))) (hf:PySem.W.typeIn K (.ref f)=some (.type "function"))
  (h:codeAny (model prog w) (A.under (.builtin "type.__call__" ⟨.ref C::vs,kw⟩)) (.call (.ref f) ⟨.ref (s.heap.objs.size + 1)::vs,kw⟩) (PySem.W.InitBack (s.heap.objs.size + 1) R)
   { s with heap:=(s.heap.push PySem.W.emptyDict).push (PySem.W.instObj C s.heap.objs.size) }) :
  codeAny (model prog w) A (.call (.ref C) ⟨vs,kw⟩) R s:=by
 obtain ⟨hh,g,d,t,os⟩:=s
 exact PySem.W.make_core (PySem.W.makes_of X hm) (PySem.W.looks_findIn X hi) (fun self=>PySem.W.bind_fn X self hf) (.inl rfl) h
end
def putF (f:Str) (v:V):List (Str×V)→List (Str×V)
 | []=>[(f,v)]
 | (g,x)::r=>if g=f then (g,v)::r else (g,x)::putF f v r
theorem lookup_putF (f g:Str) (v:V):∀ fs:List (Str×V),(putF f v fs).lookup g=if g=f then some v else fs.lookup g
 | []=>by
  show List.lookup g [(f,v)]=_
  by_cases h:g=f
  ·have hb:(g == f)=true:=beq_iff_eq.mpr h
   simp only [List.lookup,hb,if_pos h]
  ·have hb:(g == f)=false:=beq_eq_false_iff_ne.mpr h
   simp only [List.lookup,hb,if_neg h]
 | (k,x)::r=>by
  have ih:=lookup_putF f g v r
  rw [show putF f v ((k,x)::r)=(if k=f then (k,v)::r else (k,x)::putF f v r) from rfl]
  by_cases hk:k=f
  ·rw [if_pos hk]
   by_cases h:g=k
   ·have hb:(g == k)=true:=beq_iff_eq.mpr h
    simp only [List.lookup,hb,if_pos (h.trans hk)]
   ·have hb:(g == k)=false:=beq_eq_false_iff_ne.mpr h
    simp only [List.lookup,hb,if_neg (fun e:g=f=>h (e.trans hk.symm))]
  ·rw [if_neg hk]
   by_cases h:g=k
   ·have hb:(g == k)=true:=beq_iff_eq.mpr h
    simp only [List.lookup,hb,if_neg (fun e:g=f=>hk (h.symm.trans e))]
   ·have hb:(g == k)=false:=beq_eq_false_iff_ne.mpr h
    simp only [List.lookup,hb]
    exact ih
theorem keys_putF (f:Str) (v:V):∀ fs:List (Str×V),f∈(putF f v fs).map (·.1)∧∀ g,g∈fs.map (·.1)→g∈(putF f v fs).map (·.1)
 | []=>⟨by simp [putF],fun g h=>by simp at h⟩
 | (k,x)::r=>by
  obtain ⟨i1,i2⟩:=keys_putF f v r
  rw [show putF f v ((k,x)::r)=(if k=f then (k,v)::r else (k,x)::putF f v r) from rfl]
  by_cases hk:k=f
  ·rw [if_pos hk]
   subst hk
   exact ⟨by simp,fun g h=>by simpa using h⟩
  ·rw [if_neg hk]
   refine ⟨?_,fun g h=>?_⟩
   ·rw [List.map_cons]
    exact List.mem_cons_of_mem _ i1
   ·rw [List.map_cons] at h ⊢
    rcases List.mem_cons.mp h with e | e
    ·exact List.mem_cons.mpr (.inl e)
    ·exact List.mem_cons_of_mem _ (i2 g e)
theorem length_putF (f:Str) (v:V):∀ fs:List (Str×V),(putF f v fs).length≤fs.length + 1
 | []=>by simp [putF]
 | (k,x)::r=>by
  have ih:=length_putF f v r
  rw [show putF f v ((k,x)::r)=(if k=f then (k,v)::r else (k,x)::putF f v r) from rfl]
  by_cases hk:k=f
  ·rw [if_pos hk,List.length_cons,List.length_cons];omega
  ·rw [if_neg hk,List.length_cons,List.length_cons];omega
theorem RelO.some_of {v:V}{o:Option Value} (r:RelO (some v) o):∃ u,o=some u∧RelV v u:=by
 cases o with
 | none=>exact (show False from r).elim
 | some u=>exact ⟨u,rfl,r⟩
theorem RelO.none_of {o:Option Value} (r:RelO none o):o=none:=by
 cases o with
 | none=>rfl
 | some u=>exact (show False from r).elim
theorem handed_of {v:V}{u:Value} (r:RelV v u):PySem.W.handedIn u=true:=by
 cases v with
 | non=>cases (show u=Value.none from r);rfl
 | bl b=>cases (show u=Value.bool b from r);rfl
 | int i=>obtain ⟨t,e⟩:=(show ∃ t,u=Value.int i t from r);cases e;rfl
 | str x=>obtain ⟨t,e⟩:=(show ∃ t,u=Value.str x t from r);cases e;rfl
 | byt b=>obtain ⟨t,e⟩:=(show ∃ t,u=Value.bytes b t from r);cases e;rfl
 | flt b=>obtain ⟨t,e⟩:=(show ∃ t,u=Value.float b t from r);cases e;rfl
 | ref a=>cases (show u=Value.ref a from r);rfl
 | ty n=>cases (show u=Value.type n from r);rfl
section
variable {P:Program}{w:World}{H H':Hp}{h h':Heap}{a C dx:Addr}{fs fs':List (Str×V)}
theorem ins_get (hok:HOk P w H h) (e:H a=some (.ins C dx fs)):∃ mA,ObjM h a dx C mA∧(∀ f,RelO (fs.lookup f) (mA f))∧PySem.Within mA (fs.map (·.1))∧fs.length≤1000∧H dx=some (.own a):=by
 obtain ⟨d,z,ne,ob,mA,n,r,q⟩:=(show ObjOk P w H h a (.ins C dx fs) from hok a _ e)
 exact ⟨mA,⟨ob,n,ne⟩,r,q,z,d⟩
end
structure Cls (K:PySem.W.Frag) (C:Addr):Prop where
 pg:PySem.W.plainGet K C Str.empty=true
 hd:PySem.W.hasDictIn K C=true
 po:PySem.W.plainOver K C=true
 sa:PySem.W.findIn K (.ref C) "__setattr__"=some (some (.builtin "object.__setattr__"))
theorem Cls.get {K:PySem.W.Frag}{C:Addr} (c:Cls K C) (f:Str):PySem.W.plainGet K C f=true:=c.pg
def NoAttr (K:PySem.W.Frag) (C:Addr) (f:Str):Prop:=PySem.W.findIn K (.ref C) f=some none
theorem NoAttr.taker {K:PySem.W.Frag}{C:Addr}{f:Str} (n:NoAttr K C f):PySem.W.takerIn K C f=some none:=by
 unfold PySem.W.takerIn
 rw [show PySem.W.findIn K (.ref C) f=some none from n]
 rfl
structure Meth (K:PySem.W.Frag) (C:Addr) (m:Str) (f:Addr):Prop where
 at_:PySem.W.findIn K (.ref C) m=some (some (.ref f))
 fn:PySem.W.isFn K (.ref f)=true
 kp:PySem.W.keepIn K (.ref f)=true
section
variable {X:Cx}{pins:List (Addr×Obj)}{σ:St}{H:Hp}{s:Shared}{a C dx:Addr}{fs:List (Str×V)}{f:Str}{v:V}{A:Around}{E:Value→Shared→Prop}
theorem getattr_ok {b:Bool}{Q:Value→Shared→Prop} (I:Inv X pins σ H s) (e:H a=some (.ins C dx fs)) (c:Cls X.K C) (n:NoAttr X.K C f) (l:fs.lookup f=some v)
  (h:∀ u s',Inv X pins σ H s'→RelV v u→Q u s'):wpAny (model X.prog X.w) A (getAttr (.ref a) f b) Q E s:=by
 obtain ⟨mA,O,r,_,_,_⟩:=ins_get I.hok e
 obtain ⟨u,hu,ru⟩:=RelO.some_of (v:=v) (o:=mA f) (by rw [← l];exact r f)
 exact get_map I.kIn O (c.get f) c.hd n hu (handed_of ru) (h u _ (I.tok _) ru)
theorem getmeth_ok {m:Str}{g:Addr}{pl:Sem Bool}{Q:Value×List Value→Shared→Prop} (I:Inv X pins σ H s) (e:H a=some (.ins C dx fs)) (c:Cls X.K C) (k:Meth X.K C m g) (l:fs.lookup m=none)
  (h:Q (.ref g,[.ref a]) s):wpAny (model X.prog X.w) A (getMethod (.ref a) m pl) Q E s:=by
 obtain ⟨mA,O,r,_,_,_⟩:=ins_get I.hok e
 have hn:mA m=none:=RelO.none_of (by rw [← l];exact r m)
 exact get_meth I.kIn O (c.get m) k.at_ k.fn hn h
theorem setattr_ok {y:V}{u:Value}{Q:Unit→Shared→Prop} (I:Inv X pins σ H s) (e:H a=some (.ins C dx fs)) (c:Cls X.K C) (n:NoAttr X.K C f) (hl:fs.length < 1000) (ry:RelV y u)
  (h:∀ s',Inv X pins σ (upd H a (.ins C dx (putF f y fs))) s'→Q () s'):wpAny (model X.prog X.w) A (setAttr (.ref a) f u) Q E s:=by
 obtain ⟨mA,O,r,wi,_,ho⟩:=ins_get I.hok e
 have hz:(fs.map (·.1)).length≤sizeLine:=by rw [List.length_map,sizeLine_eq];omega
 refine set_map I.kIn O c.sa c.po n.taker c.hd wi hz fun h' O' sb=>h _ ?_
 have hd:∃ o,h'.get? dx=some o:=let ⟨o,_,_,e',_⟩:=O'.ns;⟨o,e'⟩
 refine I.write (x:=a) (e:=dx) (by rw [e];exact True.intro) (.inr ho) (fun b q hb z=>(sb.2 b hb).trans z) hd ?_
 refine ⟨by rw [upd_ne O.ne];exact ho,?_,O.ne,O'.obj,_,O'.ns,fun g=>?_,fun g hg=>?_⟩
 ·have:=length_putF f y fs;omega
 ·show RelO ((putF f y fs).lookup g) (if g=f then some u else mA g)
  rw [lookup_putF]
  by_cases q:g=f
  ·rw [if_pos q,if_pos q];exact ry
  ·rw [if_neg q,if_neg q];exact r g
 ·by_cases q:g=f
  ·rw [q];exact (keys_putF f y fs).1
  ·refine (keys_putF f y fs).2 g (wi g fun z=>hg ?_)
   show (if g=f then some u else mA g)=none
   rw [if_neg q];exact z
theorem Inv.made (I:Inv X pins σ H s):Inv X pins σ (upd (upd H s.heap.objs.size (.own (s.heap.objs.size + 1))) (s.heap.objs.size + 1) (.ins C s.heap.objs.size []))
  { s with heap:=(s.heap.push PySem.W.emptyDict).push (PySem.W.instObj C s.heap.objs.size) }:=by
 have e1:(s.heap.push PySem.W.emptyDict).get? s.heap.objs.size=some PySem.W.emptyDict:=Heap.get?_push_size s.heap rfl
 have e2:((s.heap.push PySem.W.emptyDict).push (PySem.W.instObj C s.heap.objs.size)).get? (s.heap.objs.size + 1)=some (PySem.W.instObj C s.heap.objs.size):=by
  have:=Heap.get?_push_size (s.heap.push PySem.W.emptyDict) (o:=PySem.W.instObj C s.heap.objs.size) rfl
  rwa [Heap.size_push] at this
 have e3:(s.heap.push PySem.W.emptyDict).Ns s.heap.objs.size (fun _=>none):=⟨PySem.W.emptyDict,#[],_,e1,rfl,(fun e he=>absurd he (by simp)),fun _=>rfl⟩
 have I1:=I.laid (a:=s.heap.objs.size) (o:=.own (s.heap.objs.size + 1)) (h':=s.heap.push PySem.W.emptyDict) (t':=s.toks) (fun b u q=>Heap.get?_push_of_some _ q) (Nat.le_refl _) ⟨_,e1⟩
 refine I1.laid (a:=s.heap.objs.size + 1) (o:=.ins C s.heap.objs.size []) (t':=s.toks) (fun b u q=>Heap.get?_push_of_some _ q) (Nat.le_of_eq (Heap.size_push _ _)) ?_
 have ne:s.heap.objs.size≠s.heap.objs.size + 1:=Nat.ne_of_lt (Nat.lt_succ_self _)
 refine ⟨by rw [upd_ne ne,upd_same],Nat.zero_le _,ne,e2,fun _=>none,(Heap.Ns1.of_empty e3).at fun o q=>Heap.get?_push_of_some _ q,fun _=>True.intro,fun y hy=>absurd rfl hy⟩
theorem attr_of {prog:Program}{w:World}{env:Env}{e:Expr}{f:Str}{pos:Pos}{s:Shared}{Q:Value→Shared→Prop} (hb:attributeBase e f env (eval e env)=eval e env)
  (h:wpAny (model prog w) A (eval e env) (fun o s₁=>wpAny (model prog w) A (getAttr o f true) Q E s₁) E s):wpAny (model prog w) A (eval (.Attribute e f pos) env) Q E s:=
 Attribute_any_ h (by rw [arm_eval_Attribute,hb])
end
def tFld (K:PySem.W.Frag) (ta:TE) (f:Str):TE:=fun σ H Q=>ta σ H fun x H1=>∃ a C dx fs v,x=.ref a∧H1 a=some (.ins C dx fs)∧Cls K C∧NoAttr K C f∧fs.lookup f=some v∧Q v H1
def sFld (K:PySem.W.Frag) (ta tv:TE) (f:Str):TS:=fun D σ H=>tv σ H fun y H1=>ta σ H1 fun x H2=>∃ a C dx fs,x=.ref a∧H2 a=some (.ins C dx fs)∧Cls K C∧NoAttr K C f∧fs.length < 1000 ∧
 D.nx σ (upd H2 a (.ins C dx (putF f y fs)))
section
variable {X:Cx}{o e value:Expr}{f:Str}{pos pos' tpos:Pos}{ta tv:TE}
theorem pe_fld (he:PE X e ta) (hb:attributeBase e f X.env (eval e X.env)=eval e X.env):PE X (.Attribute e f pos) (tFld X.K ta f):=by
 intro pins s σ H Q I h
 refine attr_of hb (thn (he pins s σ H _ I h) fun u s1 ⟨x,H1,I1,rx,a,C,dx,fs,v,ex,ea,c,n,l,q⟩=>?_)
 subst ex
 obtain rfl:u=Value.ref a:=rx
 exact getattr_ok I1 ea c n l fun u' s2 I2 ru=>⟨v,H1,I2,ru,q⟩
theorem ps_fld (ha:PE X o ta) (hv:PE X value tv) (hs:swapsWith value (some (.Attribute o f pos')) pos.line X.env=pure false):PS X (.Assign [.Attribute o f pos'] value pos) (sFld X.K ta tv f):=by
 intro pins s σ H D I h
 refine plainObj_wpAny_Assign_Attribute (thn (hv pins s σ H _ I h) fun u s1 ⟨y,H1,I1,ry,q⟩=>thn (ha pins s1 σ H1 _ I1 q) fun ov s2 ⟨x,H2,I2,rx,a,C,dx,fs,ex,ea,c,n,l,q2⟩=>?_) hs
 subst ex
 obtain rfl:ov=Value.ref a:=rx
 exact setattr_ok I2 ea c n l ry fun s3 I3=>⟨σ,_,I3,q2⟩
theorem methcall_of {pl:Sem Bool}{m:Str}{apos:Pos}{args:List Expr}{pins:List (Addr×Obj)}{s:Shared}{σ:St}{H:Hp}{Q:Value→Shared→Prop}{te:TE} (he:PE X e te) (I:Inv X pins σ H s)
  (h:te σ H fun x H1=>∃ a C dx fs g,x=.ref a∧H1 a=some (.ins C dx fs)∧Cls X.K C∧Meth X.K C m g∧fs.lookup m=none ∧
   ∀ s1,Inv X pins σ H1 s1→wpAny (model X.prog X.w) X.A (callWith pos (.ref g) [.ref a] (backTo pos (starEach args X.env)) (backToKw pos (keywordEach [] X.env))) Q X.xe s1)
  (ht:eval (.Call (.Attribute e m apos) args [] pos) X.env=(do
   let ov ← eval e X.env
   standAt apos.atName
   let (f,first) ← holding [ov] (getMethod ov m pl)
   callWith pos f first (backTo pos (starEach args X.env)) (backToKw pos (keywordEach [] X.env)))) :
  wpAny (model X.prog X.w) X.A (eval (.Call (.Attribute e m apos) args [] pos) X.env) Q X.xe s:=by
 refine PySem.W.methodCall_KW (pl:=pl) (thn (he pins s σ H _ I h) fun u s1 ⟨x,H1,I1,rx,a,C,dx,fs,g,ex,ea,c,k,l,q⟩=>?_) ht
 subst ex
 obtain rfl:u=Value.ref a:=rx
 exact getmeth_ok I1 ea c k l (q s1 I1)
end
section
variable {X:Cx}{pins:List (Addr×Obj)}{σ:St}{H:Hp}{s:Shared}{A:Around}{E:Value→Shared→Prop}{Q:Value→Shared→Prop}{c:Value}{b:Bool}
inductive TyOf (K:PySem.W.Frag) (H:Hp):V→Value→Prop where
 | non:TyOf K H .non (.type "NoneType")
 | bl (x:Bool):TyOf K H (.bl x) (.type "bool")
 | int (i:Int):TyOf K H (.int i) (.type "int")
 | str (x:Str):TyOf K H (.str x) (.type "str")
 | flt (x:UInt64):TyOf K H (.flt x) (.type "float")
 | lst {a:Addr}{xs:List V} (e:H a=some (.lst xs)):TyOf K H (.ref a) (.type "list")
 | frz {a:Addr}{o:Obj}{xs:List V} (e:H a=some (.frz o (.lst xs))):TyOf K H (.ref a) (.type "list")
 | tup {a:Addr}{xs:List V} (e:H a=some (.tup xs)):TyOf K H (.ref a) (.type "tuple")
 | dK {a:Addr}{kvs:List (Key×V)} (e:H a=some (.dK kvs)):TyOf K H (.ref a) (.type "dict")
 | dT {a:Addr}{kvs:List (List Key×V)} (e:H a=some (.dT kvs)):TyOf K H (.ref a) (.type "dict")
 | ins {a C dx:Addr}{fs:List (Str×V)} (e:H a=some (.ins C dx fs)) (cl:Cls K C) (ha:PySem.W.findIn K (.ref C) "__class__"=some (some (.builtin "object.__class__")))
   (hn:PySem.W.specialIn K (.builtin "object.__class__") "__get__"=some (some (.builtin "getset_descriptor.__get__"))) (htk:PySem.W.takesIn K (.builtin "object.__class__")=some true)
   (hm:PySem.W.mroIn K C (.type "object")=some true):TyOf K H (.ref a) (.ref C)
theorem isinst_ok {x:V}{u t:Value} (I:Inv X pins σ H s) (rx:RelV x u) (ty:TyOf X.K H x t) (e:PySem.W.kitOne X.K t c=some b) (h:∀ tk,Q (.bool b) { s with toks:=tk }) :
  wpAny (model X.prog X.w) A (call (.builtin "isinstance") [u,c]) Q E s:=by
 cases ty with
 | non=>cases (show u=Value.none from rx);exact PySem.W.kia_one PySem.W.kitx_none I.kIn True.intro e (fun z=>nomatch z) h
 | bl y=>cases (show u=Value.bool y from rx);exact PySem.W.kia_one PySem.W.kitx_bool I.kIn True.intro e (fun z=>nomatch z) h
 | int i=>obtain ⟨t,q⟩:=(show ∃ t,u=Value.int i t from rx);cases q;exact PySem.W.kia_one PySem.W.kitx_int I.kIn True.intro e (fun z=>nomatch z) h
 | str y=>obtain ⟨t,q⟩:=(show ∃ t,u=Value.str y t from rx);cases q;exact PySem.W.kia_one PySem.W.kitx_str I.kIn True.intro e (fun z=>nomatch z) h
 | flt y=>obtain ⟨t,q⟩:=(show ∃ t,u=Value.float y t from rx);cases q;exact PySem.W.kia_one PySem.W.kitx_float I.kIn True.intro e (fun z=>nomatch z) h
 | @lst a xs ea=>
  cases (show u=Value.ref a from rx)
  obtain ⟨_,_,n,_,h1⟩:=(show ObjOk X.prog X.w H s.heap a (.lst xs) from I.hok a _ ea)
  exact PySem.W.kia_one PySem.W.kitx_list I.kIn ⟨_,h1,rfl⟩ e (fun z=>nomatch z) h
 | @frz a ob xs ea=>
  cases (show u=Value.ref a from rx)
  obtain ⟨_,_,_,n,_,h1⟩:=(show ObjOk X.prog X.w H s.heap a (.frz ob (.lst xs)) from I.hok a _ ea)
  exact PySem.W.kia_one PySem.W.kitx_list I.kIn ⟨_,h1,rfl⟩ e (fun z=>nomatch z) h
 | @tup a xs ea=>
  cases (show u=Value.ref a from rx)
  obtain ⟨_,_,_,p⟩:=(show ObjOk X.prog X.w H s.heap a (.tup xs) from I.hok a _ ea)
  obtain ⟨o,h1,h2,_⟩:=p
  exact PySem.W.kia_one PySem.W.kitx_tuple I.kIn ⟨o,h1,h2⟩ e (fun z=>nomatch z) h
 | @dK a kvs ea=>
  cases (show u=Value.ref a from rx)
  obtain ⟨_,_,vs,_,p⟩:=(show ObjOk X.prog X.w H s.heap a (.dK kvs) from I.hok a _ ea)
  obtain ⟨o,es,ep,h1,h2,_⟩:=p
  exact PySem.W.kia_one PySem.W.kitx_dict I.kIn ⟨o,h1,h2.1⟩ e (fun z=>nomatch z) h
 | @dT a kvs ea=>
  cases (show u=Value.ref a from rx)
  obtain ⟨_,_,xs,_,o,es,ep,h1,h2,_⟩:=(show ObjOk X.prog X.w H s.heap a (.dT kvs) from I.hok a _ ea)
  exact PySem.W.kia_one PySem.W.kitx_dict I.kIn ⟨o,h1,h2.1⟩ e (fun z=>nomatch z) h
 | @ins a C dx fs ea cl ha hn htk hm=>
  cases (show u=Value.ref a from rx)
  obtain ⟨mA,O,_⟩:=ins_get I.hok ea
  obtain ⟨od,J,_⟩:=O.look
  exact PySem.W.kia_one (PySem.W.kitx_own (cl.get _) cl.hd ha hn htk hm) I.kIn J e (fun z=>nomatch z) h
end
structure Room (k:Nat) (A:Around) (cm:Bool:=true):Prop where
 hd:cm=true→A.handled=none
 dp:A.depth + 3 * k + 5 < recursionLimit
 un:A.units + 16 * k + 200 < cLine
 gd:A.guards=some []
theorem Room.mono {j k:Nat}{A:Around}{cm:Bool} (r:Room k A cm) (h:j≤k):Room j A cm:=⟨r.hd,by have:=r.dp;omega,by have:=r.un;omega,r.gd⟩
theorem Room.deeper {k:Nat}{A:Around}{cm:Bool} (r:Room (k + 1) A cm) (env:Env):Room k (A.deeper env) cm:=
 ⟨r.hd,by have:=r.dp;show A.depth + 1 + 3 * k + 5 < _;omega,by have:=r.un;show A.units + 3 + 16 * k + 200 < _;omega,r.gd⟩
theorem make_depth {A:Around}{C:Addr}{us:List Value}{kw:List (Str×Value)}:(A.under (.builtin "type.__call__" ⟨.ref C::us,kw⟩)).depth=A.depth + 1:=by
 first | rfl | simp [Around.under,Code.weight,Code.isCreation,Code.isGuard,Code.isCaller,Code.frames,Code.isFrame,guardIds]
theorem make_units {A:Around}{C:Addr}{us:List Value}{kw:List (Str×Value)}:(A.under (.builtin "type.__call__" ⟨.ref C::us,kw⟩)).units=A.units + 1:=by
 first | rfl | simp [Around.under,Code.cUnits,Code.frames,Code.isFrame]
theorem Room.make {k:Nat}{A:Around}{cm:Bool} (r:Room (k + 1) A cm) (C:Addr) (us:List Value) (kw:List (Str×Value)):Room k (A.under (.builtin "type.__call__" ⟨.ref C::us,kw⟩)) cm:=
 ⟨r.hd,by have:=r.dp;rw [make_depth];omega,by have:=r.un;rw [make_units];omega,by first | exact r.gd | (simp [Around.under,Code.guards,Code.isGuard,guardIds,pushGuards];exact r.gd)⟩
theorem Room.depth {k:Nat}{A:Around}{cm:Bool} (r:Room k A cm):A.depth < recursionLimit:=by have:=r.dp;omega
theorem Room.units {k:Nat}{A:Around}{cm:Bool} (r:Room k A cm):A.units + 64 < cLine:=by have:=r.un;omega
def tNil:TA:=fun _ H Q=>Q [] H
def tCons (ta:TE) (tr:TA):TA:=fun σ H Q=>ta σ H fun x H1=>tr σ H1 fun xs H2=>Q (x::xs) H2
section
variable {X:Cx}{e:Expr}{es:List Expr}{te:TE}{t:TA}{pos:Pos}
theorem pa_nil:PA X [] tNil:=fun _ _ _ _ H Q I h=>Calls.spliced_nil ⟨[],H,I,.nil,h⟩
theorem pa_cons (ha:PE X e te) (hr:PA X es t) (hs:starEach (e::es) X.env=(false,eval e X.env)::starEach es X.env:=by rfl):PA X (e::es) (tCons te t):=by
 intro pos pins s σ H Q I h
 rw [hs]
 show wpAny _ _ (spliced ((false,eval e X.env)::backTo pos (starEach es X.env))) _ _ s
 refine Calls.spliced_cons (thn (ha pins s σ H _ I h) fun u s1 ⟨x,H1,I1,r1,q1⟩=>?_)
 exact thn (hr pos pins s1 σ H1 _ I1 q1) fun us s2 ⟨xs,H2,I2,r2,q2⟩=>⟨x::xs,H2,I2,.cons r1 r2,q2⟩
def tTup (t:TA):TE:=fun σ H Q=>t σ H fun xs H1=>xs.length≤sizeLine∧∀ p,H1 p=none→Q (.ref p) (upd H1 p (.tup xs))
def tLst (t:TA):TE:=fun σ H Q=>t σ H fun xs H1=>xs.length≤sizeLine∧∀ p,H1 p=none→Q (.ref p) (upd H1 p (.lst xs))
theorem pe_tup {x1} (h:PA X es t):PE X (.Tuple es x1 pos) (tTup t):=by
 intro pins s σ H Q I hq
 refine wpAny_Tuple_spliced (thn (h pos pins s σ H _ I hq) fun us s1 ⟨xs,H1,I1,r,z,q⟩=>⟨by rw [← r.length];exact z,?_⟩)
 have hf:H1 s1.heap.objs.size=none:=I1.hok.fresh (Nat.le_refl _)
 refine ⟨.ref s1.heap.objs.size,upd H1 s1.heap.objs.size (.tup xs),I1.laid (t':=s1.toks) (fun b u e=>Heap.get?_push_of_some _ e) (Nat.le_refl _) ?_,rfl,q _ hf⟩
 exact ⟨z,us,r,⟨_,Heap.get?_push_size _ rfl,rfl,rfl,_,rfl⟩⟩
theorem pe_lst (h:PA X es t):PE X (.List es pos) (tLst t):=by
 intro pins s σ H Q I hq
 refine wpAny_List_spliced (thn (h pos pins s σ H _ I hq) fun us s1 ⟨xs,H1,I1,r,z,q⟩=>⟨by rw [← r.length];exact z,?_⟩)
 have hf:H1 s1.heap.objs.size=none:=I1.hok.fresh (Nat.le_refl _)
 refine ⟨.ref s1.heap.objs.size,upd H1 s1.heap.objs.size (.lst xs),I1.laid (t':=s1.toks) (fun b u e=>Heap.get?_push_of_some _ e) (Nat.le_refl _) ?_,rfl,q _ hf⟩
 exact ⟨z,us,0,r,Heap.get?_push_size _ rfl⟩
end
abbrev Sp:=List V→Hp→VK→XK→Prop
abbrev CXT:=List Env→Hp→Shared→XK→Value→Shared→Prop
structure Env0 (P:Program) (w:World) (K:PySem.W.Frag) (mg:Str→Option Value) (base:Heap) (A:Around) (outer:List Env) (s:Shared) (H:Hp):Prop where
 frames:A.frames=some outer
 mod:Mod K mg base
 bs:∀ b o,base.get? b=some o→s.heap.get? b=some o∧H b=none
 bsz:base.objs.size≤s.heap.objs.size
 funs:s.heap.FunFrames base outer
 frf:∀ b∈frs outer,H b=none
 hok:HOk P w H s.heap
 bare:AllBare s.gens
 hq:HdOk A H
def CE (outer:List Env) (P:Program) (w:World) (H:Hp) (s:Shared) (Q:VK) (u:Value) (s':Shared):Prop:=
 ∃ v H',s'.os=s.os∧AllBare s'.gens∧Un (frs outer) [] H H' s.heap s'.heap∧HOk P w H' s'.heap∧RelV v u∧Q v H'
def CR (CX:CXT) (outer:List Env) (P:Program) (w:World) (H:Hp) (s:Shared) (Q:VK) (E:XK) (r:Result) (s':Shared):Prop:=
 match r with
 | .ok (.ret u)=>CE outer P w H s Q u s'
 | .ok _=>False
 | .error e=>CX outer H s E e s'
structure FnOk (P:Program) (w:World) (K:PySem.W.Frag) (mg:Str→Option Value) (base:Heap) (CX:CXT) (k:Nat) (f:Addr) (fd:FuncData) (ps:List Str) (sp:Sp) (cm:Bool:=true):Prop where
 len:∀ vs H Q E,sp vs H Q E→vs.length=ps.length
 run:∀ (A:Around) (outer:List Env) (s:Shared) (H:Hp) (args:Args) (us:List Value) (vs:List V) (Q:VK) (E:XK),Room k A cm→Env0 P w K mg base A outer s H→BindsTo s fd args (ps.zip us)→Vals vs us→sp vs H Q E →
  codeAny (model P w) A (.call (.ref f) args) (CR CX outer P w H s Q E) s
theorem Env0.make {P:Program}{w:World}{K:PySem.W.Frag}{mg:Str→Option Value}{base:Heap}{A:Around}{outer:List Env}{s:Shared}{H:Hp} (e:Env0 P w K mg base A outer s H) (C:Addr) (us:List Value) (kw:List (Str×Value)) :
  Env0 P w K mg base (A.under (.builtin "type.__call__" ⟨.ref C::us,kw⟩)) outer s H:=⟨by first | exact e.frames | (simpa [Around.under,Code.envs,Code.isFrame,pushEnvs] using e.frames),e.mod,e.bs,e.bsz,e.funs,e.frf,e.hok,e.bare,e.hq⟩
section
variable {X:Cx}{pins:List (Addr×Obj)}{σ:St}{H:Hp}{s s':Shared}
theorem Inv.env0 (I:Inv X pins σ H s):Env0 X.prog X.w X.K X.mg X.base X.A X.stack s H:=
 ⟨I.ok.frames,I.ok.mod,I.bs,Nat.le_trans I.ok.bsz I.sz,I.stack,I.stkFree,I.hok,I.bare,I.hq⟩
theorem Inv.after {Q:VK}{u:Value} (I:Inv X pins σ H s) (h:CE X.stack X.prog X.w H s Q u s'):EP X pins σ Q u s':=by
 obtain ⟨v,H',os,bare,un,hok,r,q⟩:=h
 obtain ⟨hh,g,d,t,os'⟩:=s'
 obtain rfl:os'=s.os:=os
 exact ⟨v,H',I.call (h':=hh) (g':=g) (d':=d) (t':=t) (ch:=[]) un hok bare (fun b z=>absurd z (by simp)),r,q⟩
end
def tCall (sp:Sp) (dvs:List V) (E:XK) (t:TA):TE:=fun σ H Q=>t σ H fun vs H1=>sp (vs++dvs) H1 Q E
def tMeth (C:Addr) (m:Str) (sp:Sp) (dvs:List V) (E:XK) (ta:TE) (t:TA):TE:=fun σ H Q=>ta σ H fun x H1=>∃ a dx fs,x=.ref a∧H1 a=some (.ins C dx fs)∧fs.lookup m=none ∧
 t σ H1 fun vs H2=>sp (x::(vs++dvs)) H2 Q E
def tMake (C:Addr) (sp:Sp) (dvs:List V) (E:XK) (t:TA):TE:=fun σ H Q=>t σ H fun vs H1=>∀ x dx,H1 x=none→H1 dx=none→dx≠x →
 sp (.ref x::(vs++dvs)) (upd (upd H1 dx (.own x)) x (.ins C dx [])) (fun v H2=>v=.non∧Q (.ref x) H2) E
def Binds (K:PySem.W.Frag) (fd:FuncData) (ps:List Str) (ds:List Value):Prop:=
 ∀ (s:Shared) (us:List Value),K.In s.heap→(us++ds).length=ps.length→BindsTo s fd ⟨us,[]⟩ (ps.zip (us++ds))
theorem Binds.all {K:PySem.W.Frag}{fd:FuncData}{ps:List Str} (h:∀ us:List Value,us.length=ps.length→bindArgs fd ⟨us,[]⟩=pure (ps.zip us)):Binds K fd ps []:=fun s us _ hl=>by
 rw [List.append_nil] at hl ⊢
 exact .of_eq (h us hl)
def Passes (CX:CXT) (X:Cx) (E:XK):Prop:=∀ (pins:List (Addr×Obj)) (σ:St) (H:Hp) (s:Shared) (e:Value) (s':Shared),Inv X pins σ H s→CX X.stack H s E e s'→X.xe e s'
section
variable {X:Cx}{CX:CXT}{k:Nat}{f C:Addr}{fd:FuncData}{ps:List Str}{sp:Sp}{dvs:List V}{ds:List Value}{E:XK}{x m:Str}{p pos apos:Pos}{e o:Expr}{es:List Expr}{ta:TE}{t:TA}
variable {cm:Bool}
theorem run_fn {pins:List (Addr×Obj)}{σ:St}{H:Hp}{s:Shared}{Q:VK}{us:List Value}{vs:List V} (F:FnOk X.prog X.w X.K X.mg X.base CX k f fd ps sp cm) (hr:Room k X.A cm) (hb:Binds X.K fd ps ds) (hd:Vals dvs ds) (hx:Passes CX X E)
  (I:Inv X pins σ H s) (r:Vals vs us) (h:sp (vs++dvs) H Q E):wpAny (model X.prog X.w) X.A (call (.ref f) us) (EP X pins σ Q) X.xe s:=by
 have r2:Vals (vs++dvs) (us++ds):=r.append hd
 have hl:(us++ds).length=ps.length:=by rw [← r2.length];exact F.len _ _ _ _ h
 refine wpAny_call (codeAny_mono (F.run X.A X.stack s H ⟨us,[]⟩ (us++ds) (vs++dvs) Q E hr I.env0 (hb s us I.kIn hl) r2 h) fun r s' hq=>?_)
 cases r with
 | error e=>exact hx pins σ H s e s' I hq
 | ok fl=>
  cases fl with
  | ret u=>exact I.after hq
  | next=>exact False.elim hq
  | brk=>exact False.elim hq
  | cont=>exact False.elim hq
theorem pe_call (F:FnOk X.prog X.w X.K X.mg X.base CX k f fd ps sp cm) (hr:Room k X.A cm) (hg:Gl X x) (hm:X.mg x=some (.ref f)) (hk:PySem.W.keepIn X.K (.ref f)=true) (hb:Binds X.K fd ps ds) (hd:Vals dvs ds) (hx:Passes CX X E)
  (ha:PA X (e::es) t) (hdb:(x == ("__debug__":Str))=false:=by decide) (he:starEach (e::es) X.env=(false,eval e X.env)::starEach es X.env:=by rfl) (hpl:(backTo pos (starEach es X.env)).any (·.1)=false:=by rfl) :
  PE X (.Call (.Name x p) (e::es) [] pos) (tCall sp dvs E t):=by
 intro pins s σ H Q I h
 refine wpAny_Call_Name_kw (ld_glob I hg hm ?_ hdb)
 refine PySem.W.callWith_K (h₀:=X.base) I.ok.mod.kin hk (thn (ha pos pins s σ H _ I h) fun us s1 ⟨vs,H1,I1,r,q⟩=>⟨I1.kIn,?_⟩) he hpl
 exact run_fn F hr hb hd hx I1 r q
theorem pe_meth {pl:Sem Bool} (he:PE X o ta) (c:Cls X.K C) (hm:Meth X.K C m f) (F:FnOk X.prog X.w X.K X.mg X.base CX k f fd ps sp cm) (hr:Room k X.A cm) (hb:Binds X.K fd ps ds) (hd:Vals dvs ds) (hx:Passes CX X E) (ha:PA X (e::es) t)
  (hst:starEach (e::es) X.env=(false,eval e X.env)::starEach es X.env:=by rfl) (hpl:(backTo pos (starEach es X.env)).any (·.1)=false:=by rfl)
  (ht:eval (.Call (.Attribute o m apos) (e::es) [] pos) X.env=(do
   let ov ← eval o X.env
   standAt apos.atName
   let (f,first) ← holding [ov] (getMethod ov m pl)
   callWith pos f first (backTo pos (starEach (e::es) X.env)) (backToKw pos (keywordEach [] X.env))):=by rfl) :
  PE X (.Call (.Attribute o m apos) (e::es) [] pos) (tMeth C m sp dvs E ta t):=by
 intro pins s σ H Q I h
 refine PySem.W.methodCall_KW (pl:=pl) (thn (he pins s σ H _ I h) fun u s1 ⟨x,H1,I1,rx,a,dx,fs,ex,ea,l,q⟩=>?_) ht
 subst ex
 obtain rfl:u=Value.ref a:=rx
 refine getmeth_ok I1 ea c hm l ?_
 refine PySem.W.callWith_K (first:=[.ref a]) (h₀:=X.base) I.ok.mod.kin hm.kp (thn (ha pos pins s1 σ H1 _ I1 q) fun us s2 ⟨vs,H2,I2,r,q2⟩=>⟨I2.kIn,?_⟩) hst hpl
 exact run_fn (us:=.ref a::us) (vs:=.ref a::vs) F hr hb hd hx I2 (.cons rfl r) q2
theorem pe_meth0 {pl:Sem Bool} (he:PE X o ta) (c:Cls X.K C) (hm:Meth X.K C m f) (F:FnOk X.prog X.w X.K X.mg X.base CX k f fd ps sp cm) (hr:Room k X.A cm) (hb:Binds X.K fd ps ds) (hd:Vals dvs ds) (hx:Passes CX X E)
  (ht:eval (.Call (.Attribute o m apos) [] [] pos) X.env=(do
   let ov ← eval o X.env
   standAt apos.atName
   let (f,first) ← holding [ov] (getMethod ov m pl)
   callWith pos f first (backTo pos (starEach [] X.env)) (backToKw pos (keywordEach [] X.env))):=by rfl) :
  PE X (.Call (.Attribute o m apos) [] [] pos) (tMeth C m sp dvs E ta tNil):=by
 intro pins s σ H Q I h
 refine PySem.W.methodCall_KW (pl:=pl) (thn (he pins s σ H _ I h) fun u s1 ⟨x,H1,I1,rx,a,dx,fs,ex,ea,l,q⟩=>?_) ht
 subst ex
 obtain rfl:u=Value.ref a:=rx
 refine getmeth_ok I1 ea c hm l ?_
 exact PySem.W.callWith_K0 (first:=[.ref a]) I1.kIn hm.kp (run_fn (us:=[.ref a]) (vs:=[.ref a]) F hr hb hd hx I1 (.cons rfl .nil) q)
structure Mk (K:PySem.W.Frag) (C f:Addr):Prop where
 makes:PySem.W.makesIn K C=true
 init:PySem.W.findIn K (.ref C) "__init__"=some (some (.ref f))
 fn:PySem.W.isFn K (.ref f)=true
 kp:PySem.W.keepIn K (.ref C)=true
theorem run_make {pins:List (Addr×Obj)}{σ:St}{H:Hp}{s:Shared}{Q:VK}{us:List Value}{vs:List V} (M:Mk X.K C f) (F:FnOk X.prog X.w X.K X.mg X.base CX k f fd ps sp cm) (hr:Room (k + 1) X.A cm) (hb:Binds X.K fd ps ds) (hd:Vals dvs ds)
  (hx:Passes CX X E) (I:Inv X pins σ H s) (r:Vals vs us)
  (h:∀ x dx,H x=none→H dx=none→dx≠x→sp (.ref x::(vs++dvs)) (upd (upd H dx (.own x)) x (.ins C dx [])) (fun v H2=>v=.non∧Q (.ref x) H2) E) :
  wpAny (model X.prog X.w) X.A (call (.ref C) us) (EP X pins σ Q) X.xe s:=by
 have hq:=h (s.heap.objs.size + 1) s.heap.objs.size (I.hok.fresh (Nat.le_succ _)) (I.hok.fresh (Nat.le_refl _)) (Nat.ne_of_lt (Nat.lt_succ_self _))
 have I2:=Inv.made (C:=C) I
 have r2:Vals (V.ref (s.heap.objs.size + 1)::(vs++dvs)) (Value.ref (s.heap.objs.size + 1)::(us++ds)):=.cons rfl (r.append hd)
 have hl:(Value.ref (s.heap.objs.size + 1)::us++ds).length=ps.length:=by
  have e:=r2.length
  rw [F.len _ _ _ _ hq] at e
  exact e.symm
 refine wpAny_call (make_map (f:=f) I.kIn M.makes M.init (beq_iff_eq.mp M.fn) (codeAny_mono (F.run _ X.stack _ _ ⟨Value.ref (s.heap.objs.size + 1)::us,[]⟩ (Value.ref (s.heap.objs.size + 1)::(us++ds)) _ _ E (hr.make C us [])
  (I2.env0.make C us []) (hb _ (Value.ref (s.heap.objs.size + 1)::us) I2.kIn hl) r2 hq) fun r s' hq'=>?_))
 cases r with
 | error e=>exact hx pins σ _ _ e s' I2 hq'
 | ok fl=>
  cases fl with
  | ret u=>
   obtain ⟨v,H',I3,rv,ev,q3⟩:=I2.after hq'
   subst ev
   exact ⟨rv,⟨V.ref (s.heap.objs.size + 1),H',I3,rfl,q3⟩⟩
  | next=>exact False.elim hq'
  | brk=>exact False.elim hq'
  | cont=>exact False.elim hq'
theorem pe_make (M:Mk X.K C f) (F:FnOk X.prog X.w X.K X.mg X.base CX k f fd ps sp cm) (hr:Room (k + 1) X.A cm) (hg:Gl X x) (hm:X.mg x=some (.ref C)) (hb:Binds X.K fd ps ds) (hd:Vals dvs ds) (hx:Passes CX X E)
  (ha:PA X (e::es) t) (hdb:(x == ("__debug__":Str))=false:=by decide) (he:starEach (e::es) X.env=(false,eval e X.env)::starEach es X.env:=by rfl) (hpl:(backTo pos (starEach es X.env)).any (·.1)=false:=by rfl) :
  PE X (.Call (.Name x p) (e::es) [] pos) (tMake C sp dvs E t):=by
 intro pins s σ H Q I h
 refine wpAny_Call_Name_kw (ld_glob I hg hm ?_ hdb)
 refine PySem.W.callWith_K (h₀:=X.base) I.ok.mod.kin M.kp (thn (ha pos pins s σ H _ I h) fun us s1 ⟨vs,H1,I1,r,q⟩=>⟨I1.kIn,?_⟩) he hpl
 exact run_make M F hr hb hd hx I1 r q
theorem pe_make0 (M:Mk X.K C f) (F:FnOk X.prog X.w X.K X.mg X.base CX k f fd ps sp cm) (hr:Room (k + 1) X.A cm) (hg:Gl X x) (hm:X.mg x=some (.ref C)) (hb:Binds X.K fd ps ds) (hd:Vals dvs ds) (hx:Passes CX X E)
  (hdb:(x == ("__debug__":Str))=false:=by decide):PE X (.Call (.Name x p) [] [] pos) (tMake C sp dvs E tNil):=by
 intro pins s σ H Q I h
 refine wpAny_Call_Name_kw (ld_glob I hg hm ?_ hdb)
 exact PySem.W.callWith_K0 I.kIn M.kp (run_make (us:=[]) M F hr hb hd hx I .nil h)
end
structure FnScope (N P:List Str) (sc:Scope):Prop where
 kind:sc.kind=.function
 co:sc.isCoroutine=false
 gen:sc.isGenerator=false
 nd:N.Nodup
 pre:N.take P.length=P
 par:∀ x∈P,sc.names.lookup x=some .local∨sc.names.lookup x=some .cell
 nofree:∀ y∈sc.names,y.2≠.free
theorem bindL_out {kindOf:Str→Option NameKind}{x:Str}:∀ {binds:List (Str×Value)}{m:Str→Option Value},(∀ v,(x,v)∉binds)→bindL kindOf binds m x=m x
 | [],_,_=>rfl
 | (n,v)::r,m,h=>by
  unfold bindL
  rw [bindL_out fun w hw=>h w (List.mem_cons_of_mem _ hw)]
  split
  ·have:x≠n:=by rintro rfl;exact h v List.mem_cons_self
   simp [this]
  ·rfl
theorem bindC_out {kindOf:Str→Option NameKind}{x:Str}:∀ {binds:List (Str×Value)}{m:Str→Option Value},(∀ v,(x,v)∉binds)→bindC kindOf binds m x=m x
 | [],_,_=>rfl
 | (n,v)::r,m,h=>by
  unfold bindC
  rw [bindC_out fun w hw=>h w (List.mem_cons_of_mem _ hw)]
  split
  ·rfl
  ·have:x≠n:=by rintro rfl;exact h v List.mem_cons_self
   simp [this]
theorem bindL_get {kindOf:Str→Option NameKind}{x:Str}{v:Value}:∀ {P:List Str}{vs:List Value}{i:Nat}{m:Str→Option Value},P.Nodup→P[i]? = some x→vs[i]? = some v→kindOf x=some .local →
  bindL kindOf (P.zip vs) m x=some v
 | [],_,_,_,_,h,_,_=>by simp at h
 | _::_,[],_,_,_,_,h,_=>by simp at h
 | p::P,w::vs,0,m,nd,h1,h2,hk=>by
  simp at h1 h2;subst h1;subst h2
  show bindL kindOf ((p,w)::P.zip vs) m p=_
  unfold bindL
  rw [bindL_out fun v hv=>(List.nodup_cons.mp nd).1 (List.of_mem_zip hv).1,if_pos hk]
  simp
 | p::P,w::vs,i + 1,m,nd,h1,h2,hk=>by
  show bindL kindOf ((p,w)::P.zip vs) m x=_
  unfold bindL
  exact bindL_get (i:=i) (List.nodup_cons.mp nd).2 (by simpa using h1) (by simpa using h2) hk
theorem bindC_get {kindOf:Str→Option NameKind}{x:Str}{v:Value}:∀ {P:List Str}{vs:List Value}{i:Nat}{m:Str→Option Value},P.Nodup→P[i]? = some x→vs[i]? = some v→kindOf x≠some .local →
  bindC kindOf (P.zip vs) m x=some v
 | [],_,_,_,_,h,_,_=>by simp at h
 | _::_,[],_,_,_,_,h,_=>by simp at h
 | p::P,w::vs,0,m,nd,h1,h2,hk=>by
  simp at h1 h2;subst h1;subst h2
  show bindC kindOf ((p,w)::P.zip vs) m p=_
  unfold bindC
  rw [bindC_out fun v hv=>(List.nodup_cons.mp nd).1 (List.of_mem_zip hv).1,if_neg hk]
  simp
 | p::P,w::vs,i + 1,m,nd,h1,h2,hk=>by
  show bindC kindOf ((p,w)::P.zip vs) m x=_
  unfold bindC
  exact bindC_get (i:=i) (List.nodup_cons.mp nd).2 (by simpa using h1) (by simpa using h2) hk
def start (N:List Str) (vs:List V):St:=vs.map some++List.replicate (N.length - vs.length) none
def cxOf (CX:CXT) (P:Program) (w:World) (K:PySem.W.Frag) (mg:Str→Option Value) (base:Heap) (N:List Str) (qual:Str) (scope:Scope) (f:Addr) (cd:Value) (A:Around) (outer:List Env) (s:Shared) (H:Hp) (E:XK) (cm:Bool:=true):Cx where
 prog:=P
 w:=w
 K:=K
 mg:=mg
 base:=base
 A:=A.deeper (envOfC qual scope s.heap.objs.size f cd)
 N:=N
 s₀:=s
 H₀:=H
 env:=envOfC qual scope s.heap.objs.size f cd
 outer:=outer
 stack:=envOfC qual scope s.heap.objs.size f cd::outer
 ex:=[]
 calm:=cm
 fn:=fun _=>true
 pn:=[]
 xe:=fun e s'=>wpAny (model P w) (A.deeper (envOfC qual scope s.heap.objs.size f cd)) (leaving (envOfC qual scope s.heap.objs.size f cd) e) (fun _ s''=>CX outer H s E e s'') (fun e' s''=>CX outer H s E e' s'') s'
theorem cell_has {sc:Scope}{n:Nat}{x:Str} (h:sc.names.lookup x=some .cell):∃ c,(cellsFrom n sc.names []).lookup x=some c:=by
 have q:=PySem.W.cellsFrom_some sc.names n [] (.inl h)
 exact Option.isSome_iff_exists.mp q
theorem inv_start {CX:CXT}{P:Program}{w:World}{K:PySem.W.Frag}{mg:Str→Option Value}{base:Heap}{N ps:List Str}{qual:Str}{scope:Scope}{f:Addr}{cd:Value}{A:Around}{outer:List Env}{s s1:Shared}{H:Hp}{E:XK}{cm:Bool}{us:List Value}{vs:List V}
  (S:FnScope N ps scope) (hd:cm=true→A.handled=none) (e0:Env0 P w K mg base A outer s H) (hl:vs.length=ps.length) (r:Vals vs us)
  (x:InCallC s s.heap.objs.size (bindL (envOfC qual scope s.heap.objs.size f cd).kindOf (ps.zip us) fun _=>none) (cellsFrom (s.heap.objs.size + 1) scope.names []) (bindC (envOfC qual scope s.heap.objs.size f cd).kindOf (ps.zip us) fun _=>none) s1) :
  Inv (cxOf CX P w K mg base N qual scope f cd A outer s H E cm) [] (start N vs) H s1:=by
 have hpl:ps.length≤N.length:=by have:=congrArg List.length S.pre;rw [List.length_take] at this;omega
 obtain ⟨h1,tk,rfl,hk⟩:=x.done
 have noA:∀ b:Addr,b∉(cxOf CX P w K mg base N qual scope f cd A outer s H E cm).ex:=fun b z=>absurd (show b∈([]:List Addr) from z) (by simp)
 refine ⟨⟨e0.mod,S.kind,rfl,rfl,Nat.le_refl _,fun y z c h1 h2=>?_,fun y hy=>?_,fun y c _ h=>?_,hd,Around.frames_deeper e0.frames,.inr ⟨rfl,rfl⟩,fun b z=>absurd z (noA b),e0.bs,e0.bsz,fun b _ _=>noA b,fun b z=>absurd z (noA b),e0.funs,e0.frf⟩,
  rfl,e0.bare,Un.kept hk,⟨_,x.toInCall.ns,fun i y v h1 h2 h3=>?_⟩,fun y c h=>⟨_,x.cell y c h⟩,e0.hok.fresh (Nat.le_refl _),fun y c h=>?_,fun p hp=>absurd (show p∈([]:List (Addr×Obj)) from hp) (by simp),e0.hok.kept hk,?_,e0.hq⟩
 ·exact name_of_addr x.apart (PySem.mem_of_lookup h1) (PySem.mem_of_lookup h2)
 ·have hy:scope.names.lookup y=some .cell∨scope.names.lookup y=some .free:=hy
  rcases hy with hy | hy
  ·exact cell_has hy
  ·exact absurd rfl (S.nofree _ (PySem.mem_of_lookup hy))
 ·exact Nat.le_of_lt (x.above y c (PySem.mem_of_lookup h))
 ·have hi:i < vs.length:=by
   unfold start at h2
   by_cases hi:i < vs.length
   ·exact hi
   ·rw [List.getElem?_append_right (by simpa using hi)] at h2
    rw [List.getElem?_replicate] at h2
    split at h2 <;> cases h2
  have ha:vs[i]? = some v:=by
   unfold start at h2
   rw [List.getElem?_append_left (by simpa using hi),List.getElem?_map] at h2
   cases e:vs[i]? with
   | none=>rw [e] at h2;cases h2
   | some a=>rw [e] at h2;cases h2;rfl
  obtain ⟨u,hu,rv⟩:=r.get ha
  have hp:ps[i]? = some y:=by
   rw [← S.pre,List.getElem?_take_of_lt (by omega)];exact h1
  have ndP:ps.Nodup:=by rw [← S.pre];exact S.nd.sublist (List.take_sublist _ _)
  refine ⟨u,rv,?_⟩
  rcases S.par y (List.mem_of_getElem? hp) with k | k
  ·exact .inl ⟨k,bindL_get ndP hp hu k⟩
  ·obtain ⟨c,e⟩:=cell_has (n:=s.heap.objs.size + 1) k
   refine .inr ⟨.inl k,c,e,?_⟩
   have q:=x.cell y c e
   rw [bindC_get ndP hp hu (by show scope.names.lookup y≠_;rw [k];decide)] at q
   exact q
 ·exact e0.hok.fresh (Nat.le_of_lt (x.above y c (PySem.mem_of_lookup h)))
 ·unfold start
  show _=N.length
  rw [List.length_append,List.length_map,List.length_replicate]
  omega
theorem fn_of {CX:CXT}{P:Program}{w:World}{K:PySem.W.Frag}{mg:Str→Option Value}{base:Heap}{k:Nat}{f:Addr}{name qual:Str}{params:Arguments}{body:List Stmt}{scope:Scope}{dV kV doc pm cdv ct oc:Value}{an od:Option Addr}
  {osl:Array (Option Value)}{N ps:List Str}{sp:Sp}{cm:Bool} (lk:K.lookup f=some ⟨oc,od,.func (PySem.W.fnOf name qual params body scope dV kV doc pm an cdv ct),osl⟩) (hcd:PySem.W.codeIn K cdv qual=true) (S:FnScope N ps scope)
  (len:∀ vs H Q E,sp vs H Q E→vs.length=ps.length)
  (hbody:∀ (A:Around) (outer:List Env) (s:Shared) (H:Hp) (vs:List V) (Q:VK) (E:XK),Room k (A.deeper (envOfC qual scope s.heap.objs.size f cdv)) cm→sp vs H Q E →
   ∃ t,PSs (cxOf CX P w K mg base N qual scope f cdv A outer s H E cm) body t∧t { nx:=fun _ H'=>Q .non H',rt:=Q } (start N vs) H) :
  FnOk P w K mg base CX (k + 1) f (PySem.W.fnOf name qual params body scope dV kV doc pm an cdv ct) ps sp cm:=by
 refine ⟨len,fun A outer s H args us vs Q E hr e0 hb r hsp=>?_⟩
 have hl:=len _ _ _ _ hsp
 have KX:K.In s.heap:=e0.mod.kin.keeps fun b o e=>(e0.bs b o e).1
 have lim:s.heap.NoLimit:=e0.mod.nolimit.keeps fun b o e=>(e0.bs b o e).1
 have hkind:∀ y∈ps.zip us,scope.names.lookup y.1=some .local∨(scope.names.lookup y.1=some .cell∧((cellsFrom (s.heap.objs.size + 1) scope.names []).lookup y.1).isSome=true):=fun ⟨n,v⟩ hy=>by
  rcases S.par n (List.of_mem_zip hy).1 with q | q
  ·exact .inl q
  ·exact .inr ⟨q,PySem.W.cellsFrom_some _ _ _ (.inl q)⟩
 refine codeAny_call_function hr.depth (KX _ _ lk) rfl S.co S.gen rfl (PySem.W.codeRec_of KX hcd) (hb _ _ _ _ ?_)
 refine wpAny_newFunctionEnv_cells S.kind hkind fun env he s1 x=>?_
 subst he
 refine ⟨lim.keeps x.toInCall.keep,codeAny_func ?_⟩
 obtain ⟨t,ht,hq⟩:=hbody A outer s H vs Q E (hr.deeper _) hsp
 have I:Inv (cxOf CX P w K mg base N qual scope f cdv A outer s H E cm) [] (start N vs) H s1:=inv_start S hr.hd e0 hl r x
 refine wpAny_mono (ht [] s1 (start N vs) H _ I hq) (fun fl s' hs=>?_) fun e s' hs=>hs
 have fin:∀ {σ':St}{H':Hp}{v:V}{u:Value},Inv (cxOf CX P w K mg base N qual scope f cdv A outer s H E cm) [] σ' H' s'→RelV v u→Q v H'→CE outer P w H s Q u s':=
  fun {σ' H' v u} J rv q=>⟨v,H',J.os,J.bare,J.base,J.hok,rv,q⟩
 cases fl with
 | ret u=>
  obtain ⟨v,σ',H',J,rv,q⟩:=hs
  exact fin J rv q
 | next=>
  obtain ⟨σ',H',J,q⟩:=hs
  exact fin (v:=V.non) (u:=Value.none) J rfl q
 | brk=>
  obtain ⟨_,_,_,q⟩:=hs
  exact False.elim q
 | cont=>
  obtain ⟨_,_,_,q⟩:=hs
  exact False.elim q
section
variable {X:Cx}{x:Str}{p pos:Pos}{e:Expr}{es:List Expr}{t:TA}{id T:String}{r:List V→Hp→VK→Prop}
def tCB (r:List V→Hp→VK→Prop) (t:TA):TE:=fun σ H Q=>t σ H fun vs H1=>r vs H1 Q
theorem pe_callB (hc:CallR X (.builtin id) r) (hg:Gl X x) (hm:X.mg x=none) (hv:bootBuiltins x=some (.builtin id)) (ha:PA X (e::es) t) (hn:x≠"__name__":=by decide) (hdb:(x == ("__debug__":Str))=false:=by decide)
  (he:starEach (e::es) X.env=(false,eval e X.env)::starEach es X.env:=by rfl) (hpl:(backTo pos (starEach es X.env)).any (·.1)=false:=by rfl):PE X (.Call (.Name x p) (e::es) [] pos) (tCB r t):=by
 intro pins s σ H Q I h
 refine wpAny_Call_Name_kw (ld_blt I hg hm hv ?_ hn hdb)
 exact PyProof.Rows.callWith_builtin1 (thn (ha pos pins s σ H _ I h) fun us s1 ⟨vs,H1,I1,r1,q1⟩=>hc pins s1 σ H1 vs us Q I1 r1 q1) he hpl
theorem pe_callTy (hc:CallR X (.type T) r) (hg:Gl X x) (hm:X.mg x=none) (hv:bootBuiltins x=some (.type T)) (ha:PA X (e::es) t) (hn:x≠"__name__":=by decide) (hdb:(x == ("__debug__":Str))=false:=by decide)
  (he:starEach (e::es) X.env=(false,eval e X.env)::starEach es X.env:=by rfl) (hpl:(backTo pos (starEach es X.env)).any (·.1)=false:=by rfl):PE X (.Call (.Name x p) (e::es) [] pos) (tCB r t):=by
 intro pins s σ H Q I h
 refine wpAny_Call_Name_kw (ld_blt I hg hm hv ?_ hn hdb)
 exact PyProof.Rows.callWith_type1 (thn (ha pos pins s σ H _ I h) fun us s1 ⟨vs,H1,I1,r1,q1⟩=>hc pins s1 σ H1 vs us Q I1 r1 q1) he hpl
end
end L2
namespace HT
open PySem PyProof.Rows
section
variable {prog:Program}{w:World}{A:Around}{E:Value→Shared→Prop}{s:Shared}
def sIx (n d:Nat):Option Int→Nat
 | none=>d
 | some v=>if v < 0 then (v + (n:Int)).toNat else min v.toNat n
theorem sIx_none (n d:Nat):sIx n d none=d:=rfl
theorem sIx_nat (n d k:Nat):sIx n d (some (k:Int))=min k n:=by
 show (if (k:Int) < 0 then ((k:Int) + (n:Int)).toNat else min (k:Int).toNat n)=min k n
 rw [if_neg (by omega),Int.toNat_natCast]
end
end HT
namespace L2
open PySem PySem.Spec PyProof.Rows
abbrev TO:=St→Hp→(Option Int→Hp→Prop)→Prop
def PO (X:Cx) (e:Option Expr) (t:TO):Prop:=
 ∀ (pins:List (Addr×Obj)) (s:Shared) (σ:St) (H:Hp) (Q:Option Int→Hp→Prop),Inv X pins σ H s→t σ H Q →
  wpAny (model X.prog X.w) X.A (evalPart e X.env) (fun u s'=>∃ o H',Inv X pins σ H' s'∧IsPart u o∧Q o H') X.xe s
def tNoPart:TO:=fun _ H Q=>Q none H
def tPart (t:TE):TO:=fun σ H Q=>t σ H fun x H1=>∃ i,x=.int i∧Q (some i) H1
theorem intsAre_of {ns:List Int}:∀ {us:List Value},Vals (ns.map V.int) us→IntsAre us ns:=by
 induction ns with
 | nil=>intro us r;rw [List.map_nil] at r;cases r;exact .nil
 | cons n ns ih=>
  intro us r
  rw [List.map_cons] at r
  cases r with
  | cons r1 r2=>
   obtain ⟨t,e⟩:=r1
   subst e
   exact .cons n t (ih r2)
section
variable {X:Cx}{e:Expr}{te:TE}{lo hi:Option Expr}{tl th:TO}{pos p2:Pos}
theorem po_none:PO X none tNoPart:=by
 intro pins s σ H Q I h
 rw [evalPart_none]
 exact wpAny_pure ⟨none,H,I,.none,h⟩
theorem po_some (h:PE X e te):PO X (some e) (tPart te):=by
 intro pins s σ H Q I hw
 rw [evalPart_some]
 refine thn (h pins s σ H _ I hw) fun u s1 ⟨x,H1,I1,r1,q1⟩=>?_
 obtain ⟨i,rfl,q⟩:=q1
 obtain ⟨t,rfl⟩:=r1
 exact ⟨some i,H1,I1,.int i t,q⟩
def SlR (X:Cx) (r:V→Option Int→Option Int→Hp→VK→Prop):Prop:=
 ∀ (pins:List (Addr×Obj)) (s:Shared) (σ:St) (H:Hp) (x:V) (v vl vu:Value) (lo hi:Option Int) (sl:Addr) (Q:VK),Inv X pins σ H s→RelV x v→s.heap.IsSliceOf sl vl vu .none→IsPart vl lo→IsPart vu hi→r x lo hi H Q →
  ∃ T id,typeLookup (.type T) "__getitem__"=pure (some (.builtin id))∧s.TypeIs v T∧wpAny (model X.prog X.w) X.A (getItem v (.ref sl)) (EP X pins σ Q) X.xe s
def tSl (r:V→Option Int→Option Int→Hp→VK→Prop) (te:TE) (tl th:TO):TE:=fun σ H Q=>te σ H fun x H1=>tl σ H1 fun l H2=>th σ H2 fun u H3=>r x l u H3 Q
theorem pe_slice {r:V→Option Int→Option Int→Hp→VK→Prop} (hr:SlR X r) (he:PE X e te) (hl:PO X lo tl) (hu:PO X hi th):PE X (.Subscript e (.Slice lo hi none p2) pos) (tSl r te tl th):=by
 intro pins s σ H Q I h
 refine Subscript_ (thn (he pins s σ H _ I h) fun v s1 ⟨x,H1,I1,r1,q1⟩=>?_)
 refine wpAny_Slice (thn (hl pins s1 σ H1 _ I1 q1) fun vl s2 ⟨l,H2,I2,pl,q2⟩=>thn (hu pins s2 σ H2 _ I2 q2) fun vu s3 ⟨u,H3,I3,pu,q3⟩=>?_)
 rw [evalPart_none]
 refine wpAny_pure ?_
 have I4:Inv X pins σ H3 { s3 with heap:=s3.heap.push { cls:=.type "slice",data:=.fields #[vl,vu,.none] } }:=I3.kept (t':=s3.toks) fun b ob q=>Heap.get?_push_of_some _ q
 obtain ⟨T,id,hT,ht,hg⟩:=hr pins { s3 with heap:=s3.heap.push { cls:=.type "slice",data:=.fields #[vl,vu,.none] } } σ H3 x v vl vu l u s3.heap.objs.size Q I4 r1 (Heap.IsSliceOf.new ..) pl pu q3
 show wpAny (model X.prog X.w) X.A (subscriptTail e (.Slice lo hi none p2) v (.ref s3.heap.objs.size)) (EP X pins σ Q) X.xe { s3 with heap:=s3.heap.push { cls:=.type "slice",data:=.fields #[vl,vu,.none] } }
 exact tail_any (ops:=[.ref s3.heap.objs.size,v]) ht hT hg (by with_unfolding_all rfl)
def cutV (xs:List V) (lo hi:Option Int):List V:=(xs.drop (HT.sIx xs.length 0 lo)).take (HT.sIx xs.length xs.length hi - HT.sIx xs.length 0 lo)
theorem cutV_length (xs:List V) (lo hi:Option Int):(cutV xs lo hi).length≤xs.length:=by
 unfold cutV
 rw [List.length_take,List.length_drop]
 omega
end
def ixN (n:Nat) (i:Int):Option Nat:=if 0≤i then (if i < n then some i.toNat else none) else if -(n:Int)≤i then some (i + n).toNat else none
def atI {α:Type} (xs:List α) (i:Int):Option α:=(ixN xs.length i).bind fun j=>xs[j]?
theorem ixN_seq {n:Nat}{i:Int}{j:Nat} (h:ixN n i=some j):seqIndex? i n=some j∧j < n∧-(n:Int)≤i∧i < n:=by
 unfold ixN at h
 by_cases h0:0≤i
 ·rw [if_pos h0] at h
  by_cases h1:i < n
  ·rw [if_pos h1] at h
   have e:i.toNat=j:=Option.some.inj h
   exact ⟨by rw [seqIndex_of h0 h1,e],by omega,by omega,h1⟩
  ·rw [if_neg h1] at h;cases h
 ·rw [if_neg h0] at h
  by_cases h1:-(n:Int)≤i
  ·rw [if_pos h1] at h
   have e:(i + n).toNat=j:=Option.some.inj h
   exact ⟨by rw [seqIndex_neg (by omega) h1,e],by omega,h1,by omega⟩
  ·rw [if_neg h1] at h;cases h
theorem atI_get {α:Type}{xs:List α}{i:Int}{v:α} (h:atI xs i=some v):∃ j,seqIndex? i xs.length=some j∧xs[j]? = some v∧j < xs.length∧-(xs.length:Int)≤i∧i < xs.length:=by
 unfold atI at h
 cases e:ixN xs.length i with
 | none=>rw [e] at h;cases h
 | some j=>
  rw [e] at h
  obtain ⟨h1,h2,h3,h4⟩:=ixN_seq e
  exact ⟨j,h1,h,h2,h3,h4⟩
def PlainIx (b:Expr):Prop:=∀ o i,subscripted b false o i=operate [o,i] (getItem o i)
def IxR (X:Cx) (r:R2):Prop:=
 ∀ (value slice:Expr) (pins:List (Addr×Obj)) (s:Shared) (σ:St) (H:Hp) (x y:V) (v u:Value) (Q:VK),Inv X pins σ H s→RelV x v→RelV y u→r x y H Q →
  subscripted slice false v u=operate [v,u] (getItem v u)→wpAny (model X.prog X.w) X.A (subscriptTail value slice v u) (EP X pins σ Q) X.xe s
def MtR (X:Cx) (id:String) (r:V→List V→Hp→VK→Prop):Prop:=
 ∀ (pins:List (Addr×Obj)) (s:Shared) (σ:St) (H:Hp) (x:V) (xs:List V) (v:Value) (us:List Value) (Q:VK),Inv X pins σ H s→RelV x v→Vals xs us→r x xs H Q →
  wpAny (model X.prog X.w) X.A (call (.builtin id) (v::us)) (EP X pins σ Q) X.xe s
section
variable {X:Cx}{a b:Expr}{ta tb:TE}{pos:Pos}
theorem IxR.or {r r':R2} (h:IxR X r) (h':IxR X r'):IxR X (fun x y H Q=>r x y H Q∨r' x y H Q):=by
 intro value slice pins s σ H x y v u Q I rx ry q hs
 rcases q with q | q
 ·exact h value slice pins s σ H x y v u Q I rx ry q hs
 ·exact h' value slice pins s σ H x y v u Q I rx ry q hs
theorem pe_ix {r:R2} (hr:IxR X r) (ha:PE X a ta) (hb:PE X b tb) (hs:PlainIx b):PE X (.Subscript a b pos) (tOp r ta tb):=by
 intro pins s σ H Q I h
 exact Subscript_ (binT ha hb I h fun v u s2 x y H2 I2 rx ry q=>hr a b pins s2 σ H2 x y v u Q I2 rx ry q (hs _ _))
def rIxL (K:PySem.W.Frag):R2:=fun x y H Q=>∃ p xs i v,x=.ref p∧y=.int i∧SqL K H p xs∧atI xs i=some v∧Q v H
def rIxT (K:PySem.W.Frag):R2:=fun x y H Q=>∃ p xs i v,x=.ref p∧y=.int i∧SqT K H p xs∧atI xs i=some v∧Q v H
def rIxS:R2:=fun x y H Q=>∃ z i c,x=.str z∧y=.int i∧z.length≤sizeLine∧atI z.cps.toList i=some c∧Q (.str ⟨#[c]⟩) H
theorem ix_list:IxR X (rIxL X.K):=by
 intro value slice pins s σ H x y v u Q I rx ry h hs
 obtain ⟨p,xs,i,z,rfl,rfl,hq,he,q⟩:=h
 cases rx
 obtain ⟨t,rfl⟩:=ry
 obtain ⟨its,r,pl,hz⟩:=I.list hq
 obtain ⟨j,h1,h2,h3,h4,h5⟩:=atI_get he
 obtain ⟨w,ew,rw'⟩:=r.get h2
 have hl:=r.length
 have hn:=line63
 have fin:EP X pins σ Q w s:=⟨z,H,I,rw',q⟩
 by_cases h0:0≤i
 ·have hj:i.toNat=j:=by
   rw [seqIndex_of h0 h5] at h1
   exact Option.some.inj h1
  exact item_listR pl.isList h0 (by omega) (by rw [hj];simpa using ew) fin hs
 ·have hj:(i + (its.toArray.size:Int)).toNat=j:=by
   rw [seqIndex_neg (by omega) h4] at h1
   rw [List.size_toArray,← hl]
   exact Option.some.inj h1
  exact subscriptTail_builtinR (x:=w) pl.isList.typeIs slot_list_getitem.lookup
   (wpAny_getItem_list_neg (Q:=fun r s'=>r=w∧EP X pins σ Q r s') pl.isList (by omega) (by rw [List.size_toArray] <;> omega) (by omega) (by rw [hj];simpa using ew) ⟨rfl,fin⟩) hs
theorem ix_tup:IxR X (rIxT X.K):=by
 intro value slice pins s σ H x y v u Q I rx ry h hs
 obtain ⟨p,xs,i,z,rfl,rfl,hq,he,q⟩:=h
 cases rx
 obtain ⟨t,rfl⟩:=ry
 obtain ⟨its,r,pl,hz⟩:=I.tuple hq
 obtain ⟨j,h1,h2,h3,h4,h5⟩:=atI_get he
 obtain ⟨w,ew,rw'⟩:=r.get h2
 have hl:=r.length
 have hn:=line63
 have fin:EP X pins σ Q w s:=⟨z,H,I,rw',q⟩
 exact subscriptTail_builtinR (x:=w) pl.typeIs slot_tuple_getitem.lookup
  (getItem_tuple (j:=j) (Q:=fun r s'=>r=w∧EP X pins σ Q r s') pl (by omega) (by omega) (by rw [List.size_toArray,← hl];exact h1) (by simpa using ew) ⟨rfl,fin⟩) hs
theorem ix_str:IxR X rIxS:=by
 intro value slice pins s σ H x y v u Q I rx ry h hs
 obtain ⟨z,i,c,rfl,rfl,hz,he,q⟩:=h
 obtain ⟨t,rfl⟩:=rx
 obtain ⟨t',rfl⟩:=ry
 obtain ⟨j,h1,h2,h3,h4,h5⟩:=atI_get he
 have hl:z.cps.toList.length=z.length:=by simp [Str.length]
 rw [hl] at h1 h4 h5
 have hn:=line63
 exact tail_any (typeIs_str s z t) slot_str_getitem.lookup (getItem_str (c:=c) (by
  have e1:decide (i < -(2 ^ 63:Int))=false:=decide_eq_false (by omega)
  have e2:decide (i ≥ 2 ^ 63)=false:=decide_eq_false (by omega)
  rw [e1,e2,Bool.or_false]) (by rw [h1];simpa using h2) ⟨.str ⟨#[c]⟩,H,I.tok _,⟨_,rfl⟩,q⟩) hs
def rIx (K:PySem.W.Frag):R2:=fun x y H Q=>rIxL K x y H Q∨rIxT K x y H Q∨rIxS x y H Q
theorem ix_seq:IxR X (rIx X.K):=ix_list.or (ix_tup.or ix_str)
theorem mapSeq_set (its:List Value) (n j:Nat) (u:Value):Obj.mapSeq (·.setIfInBounds j u) { cls:=.type "list",data:=.seq its.toArray n }={ cls:=.type "list",data:=.seq (its.set j u).toArray n }:=by
 simp [Obj.mapSeq]
theorem Inv.lst {pins:List (Addr×Obj)}{σ:St}{H:Hp}{s:Shared}{p:Addr}{xs:List V} (I:Inv X pins σ H s) (h:H p=some (.lst xs)) :
  ∃ (its:List Value) (n:Nat),Vals xs its∧s.heap.get? p=some { cls:=.type "list",data:=.seq its.toArray n }∧xs.length≤sizeLine:=by
 obtain ⟨z,its,n,r,e⟩:=I.hok p _ h
 exact ⟨its,n,r,e,z⟩
theorem Inv.lstUpd {pins:List (Addr×Obj)}{σ:St}{H:Hp}{s:Shared}{p:Addr}{xs ys:List V}{its its':List Value}{n n':Nat}{f:Obj→Obj} (I:Inv X pins σ H s) (h:H p=some (.lst xs))
  (ho:s.heap.get? p=some { cls:=.type "list",data:=.seq its.toArray n }) (hf:f { cls:=.type "list",data:=.seq its.toArray n }={ cls:=.type "list",data:=.seq its'.toArray n' }) (r:Vals ys its') (hz:ys.length≤sizeLine) (t:Nat) :
  Inv X pins σ (upd H p (.lst ys)) { s with heap:=s.heap.update p f,toks:=t }:=by
 have e:(s.heap.update p f).get? p=some { cls:=.type "list",data:=.seq its'.toArray n' }:=by
  rw [Heap.get?_update_self f ho (by rw [hf] <;> rfl),hf]
 refine I.write (x:=p) (e:=p) (by rw [h];trivial) (.inl rfl) (fun b u hb q=>(Heap.get?_update_other _ _ (Ne.symm hb)).trans q) ⟨_,e⟩ ?_
 exact ⟨hz,its',n',r,e⟩
def rSetL:V→V→V→Hp→(Hp→Prop)→Prop:=fun o i v H Q=>∃ p xs k j,o=.ref p∧i=.int k∧H p=some (.lst xs)∧ixN xs.length k=some j∧Q (upd H p (.lst (xs.set j v)))
theorem set_list:PSet X rSetL:=by
 intro pins s σ H o i v ov iv u Q I ro ri rv h
 obtain ⟨p,xs,k,j,rfl,rfl,hp,hj,q⟩:=h
 cases ro
 obtain ⟨t,rfl⟩:=ri
 obtain ⟨its,n,r,ho,hz⟩:=I.lst hp
 obtain ⟨h1,h2,h3,h4⟩:=ixN_seq hj
 have hl:=r.length
 have hn:=line63
 have I':Inv X pins σ (upd H p (.lst (xs.set j v))) { s with heap:=s.heap.update p (Obj.mapSeq (·.setIfInBounds j u)) }:=
  I.lstUpd hp ho (mapSeq_set its n j u) (r.set rv j) (by rw [List.length_set];exact hz) s.toks
 by_cases h0:0≤k
 ·have hk:k.toNat=j:=by
   rw [seqIndex_of h0 h4] at h1
   exact Option.some.inj h1
  exact PySem.W.ki_setAt ho h0 (by omega) (by rw [List.size_toArray,← hl];exact h4) (by rw [hk];exact ⟨_,I',q⟩)
 ·have hk:(k + (its.toArray.size:Int)).toNat=j:=by
   rw [seqIndex_neg (by omega) h3] at h1
   rw [List.size_toArray,← hl]
   exact Option.some.inj h1
  exact PySem.W.ki_setBack ho (by omega) (by rw [List.size_toArray,← hl];exact h3) (by omega) (by rw [hk];exact ⟨_,I',q⟩)
theorem slice_bounds (lo hi:Option Int) (n:Nat):(sliceBounds lo hi none n).1=((HT.sIx n 0 lo:Nat):Int)∧(sliceBounds lo hi none n).2.1=((HT.sIx n n hi:Nat):Int)∧(sliceBounds lo hi none n).2.2=1:=by
 refine ⟨?_,?_,rfl⟩
 ·cases lo with
  | none=>simp [sliceBounds,HT.sIx]
  | some i=>
   simp only [sliceBounds,HT.sIx,Option.getD_none,show (1:Int) > 0 by decide,if_true]
   by_cases h:i < 0
   ·simp only [h,if_true] <;> omega
   ·simp only [h,if_false] <;> omega
 ·cases hi with
  | none=>simp [sliceBounds,HT.sIx]
  | some i=>
   simp only [sliceBounds,HT.sIx,Option.getD_none,show (1:Int) > 0 by decide,if_true]
   by_cases h:i < 0
   ·simp only [h,if_true] <;> omega
   ·simp only [h,if_false] <;> omega
theorem slicePick_cut (its:List Value) (lo hi:Option Int):slicePick its.toArray lo hi none=((its.drop (HT.sIx its.length 0 lo)).take (HT.sIx its.length its.length hi - HT.sIx its.length 0 lo)).toArray:=by
 obtain ⟨h1,h2,h3⟩:=slice_bounds lo hi its.toArray.size
 unfold slicePick
 rw [h1,h2,h3]
 simp only [sliceRange_one,pick_run,List.size_toArray] <;> rfl
def rSlL (K:PySem.W.Frag):V→Option Int→Option Int→Hp→VK→Prop:=fun x lo hi H Q=>∃ a xs,x=.ref a∧SqL K H a xs∧∀ p,H p=none→Q (.ref p) (upd H p (.lst (cutV xs lo hi)))
theorem sl_list:SlR X (rSlL X.K):=by
 intro pins s σ H x v vl vu lo hi sl Q I rx hs pl pu h
 obtain ⟨a,xs,rfl,hx,q⟩:=h
 cases rx
 obtain ⟨its,r,ht,hz⟩:=I.list hx
 have hlen:=r.length
 refine ⟨"list",_,slot_list_getitem.lookup,ht.isList.typeIs,?_⟩
 refine wpAny_getItem_list_slice ht.isList hs pl pu .none (by simp) ?_ (by rw [List.size_toArray] <;> omega)
 rw [slicePick_cut,← hlen]
 refine ⟨.ref s.heap.objs.size,_,I.laid (t':=s.toks) (o:=.lst (cutV xs lo hi)) (fun b ob q=>Heap.get?_push_of_some _ q) (Nat.le_refl _) ?_,rfl,q _ (I.hok.fresh (Nat.le_refl _))⟩
 exact ⟨Nat.le_trans (cutV_length xs lo hi) hz,_,0,(r.drop (HT.sIx xs.length 0 lo)).take (HT.sIx xs.length xs.length hi - HT.sIx xs.length 0 lo),Heap.get?_push_size _ rfl⟩
def flatV:V→Bool
 | .non=>true
 | .bl _=>true
 | .int _=>true
 | .str _=>true
 | _=>false
def eqV:V→V→Bool
 | .non,.non=>true
 | .bl a,.bl b=>a == b
 | .bl a,.int b=>(if a then 1 else 0) == b
 | .int a,.bl b=>a == (if b then 1 else 0)
 | .int a,.int b=>a == b
 | .str a,.str b=>a == b
 | _,_=>false
theorem eqAt_V {A:Around}{s:Shared}{y x:V}{u v:Value} (ry:RelV y u) (rx:RelV x v) (fy:flatV y=true) (fx:flatV x=true):SeqAt.EqAt A s u v (eqV y x):=by
 cases y with
 | non=>
  cases ry
  cases x with
  | non=>cases rx;exact SeqAt.EqAt.same _
  | bl b=>cases rx;exact SeqAt.EqAt.none_bool b
  | int b=>obtain ⟨t,rfl⟩:=rx;exact SeqAt.EqAt.none_int b t
  | str b=>obtain ⟨t,rfl⟩:=rx;exact SeqAt.EqAt.none_str b t
  | _=>exact absurd (show false=true from fx) Bool.false_ne_true
 | bl a=>
  cases ry
  cases x with
  | non=>cases rx;exact SeqAt.EqAt.bool_none a
  | bl b=>cases rx;exact SeqAt.EqAt.bool_bool a b
  | int b=>obtain ⟨t,rfl⟩:=rx;exact SeqAt.EqAt.bool_int a b t
  | str b=>obtain ⟨t,rfl⟩:=rx;exact SeqAt.EqAt.bool_str a b t
  | _=>exact absurd (show false=true from fx) Bool.false_ne_true
 | int a=>
  obtain ⟨t',rfl⟩:=ry
  cases x with
  | non=>cases rx;exact SeqAt.EqAt.int_none a t'
  | bl b=>cases rx;exact SeqAt.EqAt.int_bool a t' b
  | int b=>obtain ⟨t,rfl⟩:=rx;exact SeqAt.EqAt.int_int a t' b t
  | str b=>obtain ⟨t,rfl⟩:=rx;exact SeqAt.EqAt.int_str a t' b t
  | _=>exact absurd (show false=true from fx) Bool.false_ne_true
 | str a=>
  obtain ⟨t',rfl⟩:=ry
  cases x with
  | non=>cases rx;exact SeqAt.EqAt.str_none a t'
  | bl b=>cases rx;exact SeqAt.EqAt.str_bool a t' b
  | int b=>obtain ⟨t,rfl⟩:=rx;exact SeqAt.EqAt.str_int a t' b t
  | str b=>obtain ⟨t,rfl⟩:=rx;exact SeqAt.EqAt.str_str a t' b t
  | _=>exact absurd (show false=true from fx) Bool.false_ne_true
 | _=>exact absurd (show false=true from fy) Bool.false_ne_true
def eqU (x:V) (u:Value):Bool:=match u with
 | .none=>eqV .non x
 | .bool b=>eqV (.bl b) x
 | .int i _=>eqV (.int i) x
 | .str z _=>eqV (.str z) x
 | _=>false
theorem eqU_of {x y:V}{u:Value} (r:RelV y u) (f:flatV y=true):eqU x u=eqV y x:=by
 cases y with
 | non=>cases r;rfl
 | bl b=>cases r;rfl
 | int i=>obtain ⟨t,rfl⟩:=r;rfl
 | str z=>obtain ⟨t,rfl⟩:=r;rfl
 | _=>exact absurd (show false=true from f) Bool.false_ne_true
theorem any_eqU {x:V}:∀ {xs:List V}{us:List Value},Vals xs us→xs.all flatV=true→us.any (eqU x)=xs.any fun y=>eqV y x
 | _,_,.nil,_=>rfl
 | y::xs,u::us,.cons r t,f=>by
  rw [List.all_cons,Bool.and_eq_true] at f
  rw [List.any_cons,List.any_cons,eqU_of r f.1,any_eqU t f.2]
theorem mem_eqAt {A:Around}{s:Shared}{x:V}{v:Value} (rx:RelV x v) (fx:flatV x=true):∀ {xs:List V}{us:List Value},Vals xs us→xs.all flatV=true→∀ u∈us,SeqAt.EqAt A s u v (eqU x u)
 | _,_,.nil,_=>fun u hu=>by cases hu
 | y::xs,u::us,.cons r t,f=>fun u' hu=>by
  rw [List.all_cons,Bool.and_eq_true] at f
  rcases List.mem_cons.mp hu with rfl | hu
  ·rw [eqU_of r f.1];exact eqAt_V r rx f.1 fx
  ·exact mem_eqAt rx fx t f.2 u' hu
def inV (x:V) (xs:List V):Bool:=xs.any fun y=>eqV y x
def rIn (K:PySem.W.Frag) (neg:Bool):R2:=fun x y H Q=>∃ p xs,y=.ref p∧(SqL K H p xs∨SqT K H p xs)∧flatV x=true∧xs.all flatV=true∧Q (.bl (if neg then !inV x xs else inV x xs)) H
theorem op_notIn_seq:OpR X (compareOp .NotIn) (rIn X.K true):=by
 intro pins s σ H x y v u Q I rx ry h
 obtain ⟨p,xs,rfl,hq,fx,fs,q⟩:=h
 cases ry
 rcases hq with hq | hq
 ·obtain ⟨its,r,pl,hz⟩:=I.list hq
  refine SeqAt.notIn_listAt (eqU x) pl.isList (fun w hw=>mem_eqAt rx fx r fs w (by simpa using hw)) ⟨.bl _,H,I,rfl,?_⟩
  rw [show its.toArray.any (eqU x)=its.any (eqU x) by simp,any_eqU r fs]
  exact q
 ·obtain ⟨its,r,pl,hz⟩:=I.tuple hq
  refine SeqAt.notIn_tupleAt (eqU x) pl (fun w hw=>mem_eqAt rx fx r fs w (by simpa using hw)) ⟨.bl _,H,I,rfl,?_⟩
  rw [show its.toArray.any (eqU x)=its.any (eqU x) by simp,any_eqU r fs]
  exact q
theorem call_len_seq:CallR X (.builtin "len") (fun xs H Q=>∃ p ys,xs=[.ref p]∧(SqL X.K H p ys∨SqT X.K H p ys)∧Q (.int ys.length) H):=by
 intro pins s σ H xs us Q I r h
 obtain ⟨p,ys,rfl,hq,q⟩:=h
 obtain ⟨u,rfl,rx⟩:=vals1 r
 cases rx
 have hn:=line63
 rcases hq with hq | hq
 ·obtain ⟨its,r',pl,hz⟩:=I.list hq
  have hlen:=r'.length
  exact Calls.call_len_list pl.isList (by simp only [List.size_toArray] <;> omega) ⟨.int ys.length,H,I.tok _,⟨s.toks + 1,by rw [List.size_toArray,hlen]⟩,q⟩
 ·obtain ⟨its,r',pl,hz⟩:=I.tuple hq
  have hlen:=r'.length
  exact len_tuple pl (by simp only [List.size_toArray] <;> omega) ⟨.int ys.length,H,I.tok _,⟨s.toks + 1,by rw [List.size_toArray,hlen]⟩,q⟩
theorem call_list_of:CallR X (.type "list") (fun xs H Q=>∃ p ys,xs=[.ref p]∧(SqL X.K H p ys∨SqT X.K H p ys)∧∀ l,H l=none→Q (.ref l) (upd H l (.lst ys))):=by
 intro pins s σ H xs us Q I r h
 obtain ⟨p,ys,rfl,hq,q⟩:=h
 obtain ⟨u,rfl,rx⟩:=vals1 r
 cases rx
 have fin:∀ (its:List Value),Vals ys its→ys.length≤sizeLine→∀ (h':Heap) (c':Nat),(∀ b o',s.heap.get? b=some o'→h'.get? b=some o') →
   h'.get? s.heap.objs.size=some { cls:=.type "list",dict:=none,data:=.seq its.toArray c',slots:=#[] }→EP X pins σ Q (.ref s.heap.objs.size) { s with heap:=h' }:=fun its r' hz h' c' kp e=>
  ⟨.ref s.heap.objs.size,_,I.laid (t':=s.toks) kp (Nat.le_refl _) (show ObjOk X.prog X.w _ h' _ (.lst ys) from ⟨hz,its,c',r',e⟩),rfl,q _ (I.hok.fresh (Nat.le_refl _))⟩
 rcases hq with hq | hq
 ·obtain ⟨its,r',pl,hz⟩:=I.list hq
  have hlen:=r'.length
  obtain ⟨o,ho,hc,n,hd⟩:=pl.isList
  exact call_list_seq p (.inl rfl) ho hc hd (fun h' c' kp e=>fin its r' hz h' c' kp e) (by simp only [List.size_toArray] <;> omega)
 ·obtain ⟨its,r',pl,hz⟩:=I.tuple hq
  have hlen:=r'.length
  obtain ⟨o,ho,hc,n,hd⟩:=pl
  exact call_list_seq p (.inr rfl) ho hc hd (fun h' c' kp e=>fin its r' hz h' c' kp e) (by simp only [List.size_toArray] <;> omega)
theorem call_tuple_of:CallR X (.type "tuple") (fun xs H Q=>∃ p ys,xs=[.ref p]∧((SqL X.K H p ys∧∀ l,H l=none→Q (.ref l) (upd H l (.tup ys)))∨(SqT X.K H p ys∧Q (.ref p) H))):=by
 intro pins s σ H xs us Q I r h
 obtain ⟨p,ys,rfl,h⟩:=h
 obtain ⟨u,rfl,rx⟩:=vals1 r
 cases rx
 rcases h with ⟨hq,q⟩ | ⟨hq,q⟩
 ·obtain ⟨its,r',pl,hz⟩:=I.list hq
  have hlen:=r'.length
  refine call_tuple_list pl.isList (fun h' kp=>?_) (by simp only [List.size_toArray] <;> omega)
  have I1:Inv X pins σ H { s with heap:=h' }:=I.kept (t':=s.toks) kp
  have I2:Inv X pins σ (upd H h'.objs.size (.tup ys)) { s with heap:=h'.push { cls:=.type "tuple",data:=.seq its.toArray } }:=
   I1.laid (t':=s.toks) (fun b o e=>Heap.get?_push_of_some _ e) (Nat.le_refl _) (show ObjOk X.prog X.w _ _ _ (.tup ys) from ⟨hz,its,r',PlainT.new _ _⟩)
  exact ⟨.ref h'.objs.size,_,I2,rfl,q _ (I1.hok.fresh (Nat.le_refl _))⟩
 ·obtain ⟨its,r',pl,hz⟩:=I.tuple hq
  exact call_tuple_same pl ⟨.ref p,H,I,rfl,q⟩
def tyV (K:PySem.W.Frag) (T:String) (x:V) (H:Hp):Prop:=match x with
 | .str _=>T="str"
 | .int _=>T="int"
 | .ref p=>(T="list"∧∃ xs,SqL K H p xs)∨(T="tuple"∧∃ o,K.lookup p=some o∧o.cls=.type "tuple"∧o.dict=none) ∨
   (T="dict"∧((∃ kvs,H p=some (.dK kvs))∨∃ kvs,H p=some (.dT kvs)))∨(T="set"∧∃ S n,H p=some (.set S n))
 | _=>False
theorem tyV_is {pins:List (Addr×Obj)}{σ:St}{H:Hp}{s:Shared}{T:String}{x:V}{v:Value} (I:Inv X pins σ H s) (r:RelV x v) (ty:tyV X.K T x H) :
  s.TypeIs v T∧∀ a,v=.ref a→∃ ob,s.heap.get? a=some ob∧ob.dict=none:=by
 cases x with
 | str z=>
  obtain ⟨t,rfl⟩:=r
  cases (show T="str" from ty)
  exact ⟨typeIs_str s z t,fun _ e=>nomatch e⟩
 | int i=>
  obtain ⟨t,rfl⟩:=r
  cases (show T="int" from ty)
  exact ⟨typeIs_int s i t,fun _ e=>nomatch e⟩
 | ref p=>
  cases r
  rcases ty with ⟨rfl,xs,hq⟩ | ⟨rfl,o,hk,hc,hd⟩ | ⟨rfl,hk⟩ | ⟨rfl,S,n,hk⟩
  ·obtain ⟨its,_,pl,_⟩:=I.list hq
   refine ⟨pl.isList.typeIs,fun a e=>?_⟩
   cases e
   obtain ⟨o,n,e,c,hd,_⟩:=pl
   exact ⟨o,e,hd⟩
  ·refine ⟨⟨o,I.kIn p o hk,hc⟩,fun a e=>?_⟩
   cases e
   exact ⟨o,I.kIn _ o hk,hd⟩
  ·have z:∃ o,s.heap.get? p=some o∧o.ExactDict:=by
    rcases hk with ⟨kvs,hk⟩ | ⟨kvs,hk⟩
    ·obtain ⟨_,_,_,_,o,_,_,e,ex,_⟩:=I.hok p _ hk
     exact ⟨o,e,ex⟩
    ·obtain ⟨_,_,_,_,o,_,_,e,ex,_⟩:=I.hok p _ hk
     exact ⟨o,e,ex⟩
   obtain ⟨o,e,ex⟩:=z
   refine ⟨⟨o,e,ex.1⟩,fun a e2=>?_⟩
   cases e2
   exact ⟨o,e,ex.2.1⟩
  ·obtain ⟨o,_,_,_,e,ex,_⟩:=I.hok p _ hk
   refine ⟨⟨o,e,ex.1⟩,fun a e2=>?_⟩
   cases e2
   exact ⟨o,e,ex.2.1⟩
 | _=>exact False.elim ty
def tBM0 (K:PySem.W.Frag) (T:String) (r:V→List V→Hp→VK→Prop) (to:TE):TE:=fun σ H Q=>to σ H fun x H1=>tyV K T x H1∧r x [] H1 Q
def tBM (K:PySem.W.Frag) (T:String) (r:V→List V→Hp→VK→Prop) (to:TE) (t:TA):TE:=fun σ H Q=>to σ H fun x H1=>tyV K T x H1∧t σ H1 fun xs H2=>r x xs H2 Q
variable {o e:Expr}{es:List Expr}{to:TE}{t:TA}{name:Str}{apos cpos:Pos}{T id:String}{r:V→List V→Hp→VK→Prop}
theorem pe_bm0 (pa:PlainAttrs T) (slot:Slot T name id) (hty:typeOf (.builtin id)=pure (.type "method_descriptor")) (hm:MtR X id r) (ho:PE X o to)
  (hbase:attributeBase o name X.env (eval o X.env)=eval o X.env:=by rfl) (hline:(apos.endLine == cpos.line)=true:=by rfl):PE X (.Call (.Attribute o name apos) [] [] cpos) (tBM0 X.K T r to):=by
 intro pins s σ H Q I h
 refine wpAny_Call_method0_late hbase hline (thn (ho pins s σ H _ I h) fun v s1 ⟨x,H1,I1,r1,ty,q1⟩=>?_)
 obtain ⟨h1,h2⟩:=tyV_is I1 r1 ty
 exact ⟨T,id,pa,slot,hty,h1,h2,Calls.callWith_builtin rfl (PySem.evalArgs_none (hm pins s1 σ H1 x [] v [] Q I1 r1 .nil q1))⟩
theorem pe_bm (pa:PlainAttrs T) (slot:Slot T name id) (hty:typeOf (.builtin id)=pure (.type "method_descriptor")) (hm:MtR X id r) (ho:PE X o to) (ha:PA X (e::es) t)
  (hbase:attributeBase o name X.env (eval o X.env)=eval o X.env:=by rfl)
  (hfew:((backTo cpos (starEach (e::es) X.env)).all (fun x=>!x.1)&&(backToKw cpos (keywordEach [] X.env)).all (fun x=>x.1.isSome)
   && decide ((e::es).length + ([]:List Keyword).length + (if ([]:List Keyword).isEmpty then 0 else 1) < 30))=true:=by rfl)
  (hline:(apos.endLine == cpos.line)=true:=by rfl) (hs:starEach (e::es) X.env=(false,eval e X.env)::starEach es X.env:=by rfl) (hplain:(backTo cpos (starEach es X.env)).any (·.1)=false:=by rfl) :
  PE X (.Call (.Attribute o name apos) (e::es) [] cpos) (tBM X.K T r to t):=by
 intro pins s σ H Q I h
 refine wpAny_Call_method_late hbase hfew hline rfl (thn (ho pins s σ H _ I h) fun v s1 ⟨x,H1,I1,r1,ty,q1⟩=>?_)
 obtain ⟨h1,h2⟩:=tyV_is I1 r1 ty
 refine ⟨T,id,pa,slot,hty,h1,h2,?_⟩
 have hA:=ha cpos pins s1 σ H1 _ I1 q1
 rw [hs] at hA ⊢
 refine Calls.callWith_builtin (by show (false||(backTo cpos (starEach es X.env)).any (·.1))=false;rw [hplain] <;> rfl) (Calls.evalArgs_plain ?_)
 exact thn hA fun us s2 ⟨vs,H2,I2,r2,q2⟩=>hm pins s2 σ H2 x vs v us Q I2 r1 r2 q2
end
def MtM (X:Cx) (id:String) (r:V→List V→Hp→VK→Prop):Prop:=
 ∀ (pins:List (Addr×Obj)) (s:Shared) (σ:St) (H:Hp) (x:V) (xs:List V) (v:Value) (us:List Value) (Q:VK),Inv X pins σ H s→RelV x v→Vals xs us→r x xs H Q →
  wpAny (model X.prog X.w) X.A (call (.builtin id) (v::us)) (EP X pins σ Q) X.xe s
theorem Vals.one:∀ {x:V}{us:List Value},Vals [x] us→∃ u,us=[u]∧RelV x u
 | _,_,.cons r .nil=>⟨_,rfl,r⟩
theorem Vals.zero:∀ {us:List Value},Vals [] us→us=[]
 | _,.nil=>rfl
theorem Vals.dropLast {xs:List V}{us:List Value} (h:Vals xs us):Vals xs.dropLast us.dropLast:=by
 induction h with
 | nil=>exact .nil
 | cons r t ih=>
  cases t with
  | nil=>exact .nil
  | cons q t'=>exact .cons r ih
theorem Vals.reverse {xs:List V}{us:List Value} (h:Vals xs us):Vals xs.reverse us.reverse:=by
 induction h with
 | nil=>exact .nil
 | cons r t ih=>rw [List.reverse_cons,List.reverse_cons];exact Vals.append ih (.cons r .nil)
theorem erase_last {α:Type} (l:List α):l.eraseIdx (l.length - 1)=l.dropLast:=by
 induction l with
 | nil=>rfl
 | cons a r ih=>
  cases r with
  | nil=>rfl
  | cons b r=>
   have e:(a::b::r).length - 1=((b::r).length - 1) + 1:=by
    have h1:(a::b::r).length=r.length + 2:=rfl
    have h2:(b::r).length=r.length + 1:=rfl
    omega
   rw [e,List.eraseIdx_cons_succ,ih]
   all_goals rfl
section
variable {X:Cx}{pins:List (Addr×Obj)}{σ:St}{H:Hp}{s:Shared}{l b:Addr}{xs ys zs:List V}
theorem Inv.lset {its its':List Value}{n:Nat}{f:Array Value→Array Value}{t':Nat} (I:Inv X pins σ H s) (hH:H l=some (.lst xs))
  (e:s.heap.get? l=some { cls:=.type "list",data:=.seq its.toArray n }) (hf:f its.toArray=its'.toArray) (hv:Vals ys its') (hz:ys.length≤sizeLine) :
  Inv X pins σ (upd H l (.lst ys)) { s with heap:=s.heap.update l (Obj.mapSeq f),toks:=t' }:=by
 have q:=PySem.IsL.update e f
 rw [hf] at q
 refine I.write (x:=l) (e:=l) (by rw [hH];exact trivial) (.inl rfl) (fun b' u hb hu=>(Heap.get?_update_other s.heap (Obj.mapSeq f) (Ne.symm hb)).trans hu) ⟨_,q⟩ ?_
 exact ⟨hz,its',_,hv,q⟩
theorem Inv.lstM (I:Inv X pins σ H s) (hH:H l=some (.lst xs)):xs.length≤sizeLine∧∃ (its:List Value) (n:Nat),Vals xs its∧xs.length=its.length∧s.heap.get? l=some { cls:=.type "list",data:=.seq its.toArray n }:=by
 obtain ⟨z,its,n,r,e⟩:=I.hok l _ hH
 exact ⟨z,its,n,r,r.length,e⟩
theorem notLongL {n:Nat} (h:n≤sizeLine):Builtin.List.listTooLong n=false:=by
 unfold Builtin.List.listTooLong
 exact decide_eq_false (by omega)
end
section
variable {X:Cx}
def rAppend:V→List V→Hp→VK→Prop:=fun x vs H Q=>∃ l xs y,x=.ref l∧vs=[y]∧H l=some (.lst xs)∧xs.length < sizeLine∧Q .non (upd H l (.lst (xs++[y])))
theorem mt_append:MtM X "list.append" rAppend:=by
 intro pins s σ H x vs v us Q I rx rv h
 obtain ⟨l,xs,y,rfl,rfl,hH,hz,q⟩:=h
 cases rx
 obtain ⟨u,rfl,ru⟩:=rv.one
 obtain ⟨z,its,n,r,hl,e⟩:=I.lstM hH
 refine call_meets F.slot_list_append ⟨_,e,rfl⟩ F.entry_list_append (F.args_list_append_2 _ _) (PySem.list_append l its.toArray n u (by rw [List.size_toArray];omega)) ⟨e,?_⟩
 refine ⟨.non,_,I.lset (its':=its++[u]) hH e (by simp) (r.append (.cons ru .nil)) ?_,rfl,q⟩
 rw [List.length_append,List.length_singleton]
 omega
def rExtend:V→List V→Hp→VK→Prop:=fun x vs H Q=>∃ l b xs zs,x=.ref l∧vs=[.ref b]∧H l=some (.lst xs)∧H b=some (.lst zs)∧xs.length + zs.length≤sizeLine∧Q .non (upd H l (.lst (xs++zs)))
theorem mt_extend:MtM X "list.extend" rExtend:=by
 intro pins s σ H x vs v us Q I rx rv h
 obtain ⟨l,b,xs,zs,rfl,rfl,hH,hB,hz,q⟩:=h
 cases rx
 obtain ⟨u,rfl,ru⟩:=rv.one
 cases ru
 obtain ⟨z,its,n,r,hl,e⟩:=I.lstM hH
 obtain ⟨z2,its2,n2,r2,hl2,e2⟩:=I.lstM hB
 have hsz:its.toArray.size + its2.toArray.size≤sizeLine:=by rw [List.size_toArray,List.size_toArray];omega
 have hlong:¬ (!its.toArray.isEmpty&&Builtin.List.listTooLong (its.toArray.size + its2.toArray.size))=true:=by
  rw [notLongL hsz,Bool.and_false]
  exact Bool.false_ne_true
 refine call_meets F.slot_list_extend ⟨_,e,rfl⟩ F.entry_list_extend (F.args_list_extend_2 _ _)
  (AutoSeq1.list_extend_list_list_0 l its.toArray n b its2.toArray n2 hlong (by rw [List.size_toArray];omega) (by omega)) ⟨e,e2,?_⟩
 refine ⟨.non,_,I.lset (its':=its++its2) hH e (by simp) (r.append r2) ?_,rfl,q⟩
 rw [List.length_append]
 omega
def rPop:V→List V→Hp→VK→Prop:=fun x vs H Q=>∃ l xs y,x=.ref l∧vs=[]∧H l=some (.lst xs)∧xs[xs.length - 1]? = some y∧Q y (upd H l (.lst xs.dropLast))
theorem mt_pop:MtM X "list.pop" rPop:=by
 intro pins s σ H x vs v us Q I rx rv h
 obtain ⟨l,xs,y,rfl,rfl,hH,hy,q⟩:=h
 cases rx
 have hus:=rv.zero
 subst hus
 obtain ⟨z,its,n,r,hl,e⟩:=I.lstM hH
 obtain ⟨u,hu,ru⟩:=r.get hy
 have hy':its.toArray[its.toArray.size - 1]? = some u:=by
  show its.toArray[its.length - 1]? = some u
  rw [← Array.getElem?_toList,← hl]
  exact hu
 refine call_meets F.slot_list_pop ⟨_,e,rfl⟩ F.entry_list_pop (F.args_list_pop_1 _) (MeetsSeq.list_pop_last l its.toArray n u hy' (by rw [List.size_toArray];omega)) ⟨e,?_⟩
 refine ⟨y,_,I.lset (its':=its.dropLast) hH e ?_ r.dropLast ?_,ru,q⟩
 ·show its.toArray.eraseIdxIfInBounds (its.toArray.size - 1)=its.dropLast.toArray
  rw [List.size_toArray,List.eraseIdxIfInBounds_toArray,erase_last]
 ·rw [List.length_dropLast]
  omega
end
section
variable {κ:Type} [DecidableEq κ]
def valV (kvs:List (κ×V)) (k:κ):Option V:=(kvs.find? fun kv=>decide (kv.1=k)).map (·.2)
def putK (kvs:List (κ×V)) (k:κ) (v:V):List (κ×V):=
 if (kvs.any fun kv=>decide (kv.1=k))=true then kvs.map (fun kv=>if kv.1=k then (kv.1,v) else kv) else kvs++[(k,v)]
theorem valV_pos {p:κ×V}{r:List (κ×V)}{k:κ} (e:p.1=k):valV (p::r) k=some p.2:=by simp [valV,List.find?_cons,e]
theorem valV_neg {p:κ×V}{r:List (κ×V)}{k:κ} (e:¬ p.1=k):valV (p::r) k=valV r k:=by simp [valV,List.find?_cons,e]
theorem valV_any (k:κ):∀ kvs:List (κ×V),(kvs.any fun kv=>decide (kv.1=k))=(valV kvs k).isSome
 | []=>rfl
 | p::r=>by
  rw [List.any_cons]
  by_cases e:p.1=k
  ·simp only [valV_pos e,decide_eq_true e,Bool.true_or,Option.isSome_some]
  ·rw [valV_neg e,decide_eq_false e,Bool.false_or];exact valV_any k r
theorem length_putK (kvs:List (κ×V)) (k:κ) (v:V):(putK kvs k v).length≤kvs.length + 1:=by
 unfold putK
 split
 ·rw [List.length_map];omega
 ·rw [List.length_append,List.length_cons,List.length_nil];omega
theorem RelO.isSome_eq {o:Option V}{u:Option Value} (r:RelO o u):o.isSome=u.isSome:=by
 cases o with
 | none=>cases u with
  | none=>rfl
  | some _=>exact (show False from r).elim
 | some _=>cases u with
  | none=>exact (show False from r).elim
  | some _=>rfl
theorem RelO.getD {o:Option V}{u:Option Value}{d:V}{d':Value} (r:RelO o u) (rd:RelV d d'):RelV (o.getD d) (u.getD d'):=by
 cases o with
 | none=>cases u with
  | none=>exact rd
  | some _=>exact (show False from r).elim
 | some _=>cases u with
  | none=>exact (show False from r).elim
  | some _=>exact r
theorem KV.val {kvs:List (κ×V)}{vs:List (κ×Value)} (r:KV kvs vs) (k:κ):RelO (valV kvs k) (valueAt vs k):=by
 unfold KV at r
 induction r with
 | nil=>exact True.intro
 | @cons p q ps qs h t ih=>
  obtain ⟨h1,h2⟩:=h
  by_cases e:p.1=k
  ·have e':q.1=k:=h1.symm.trans e
   have b:valueAt (q::qs) k=some q.2:=by simp [valueAt,List.find?_cons,e']
   rw [valV_pos e,b];exact h2
  ·have e':¬ q.1=k:=fun z=>e (h1.trans z)
   have b:valueAt (q::qs) k=valueAt qs k:=by simp [valueAt,List.find?_cons,e']
   rw [valV_neg e,b];exact ih
theorem KV.any {kvs:List (κ×V)}{vs:List (κ×Value)} (r:KV kvs vs) (k:κ):(kvs.any fun kv=>decide (kv.1=k))=vs.any fun kv=>decide (kv.1=k):=by
 unfold KV at r
 induction r with
 | nil=>rfl
 | cons h t ih=>rw [List.any_cons,List.any_cons,ih,h.1]
theorem KV.repl {kvs:List (κ×V)}{vs:List (κ×Value)} (r:KV kvs vs) (k:κ) {y:V}{u:Value} (ry:RelV y u) :
  KV (kvs.map fun kv=>if kv.1=k then (kv.1,y) else kv) (vs.map fun kv=>if kv.1=k then (kv.1,u) else kv):=by
 unfold KV at r ⊢
 induction r with
 | nil=>exact .nil
 | @cons p q ps qs h t ih=>
  rw [List.map_cons,List.map_cons]
  refine .cons ?_ ih
  obtain ⟨h1,h2⟩:=h
  by_cases e:p.1=k
  ·rw [if_pos e,if_pos (h1.symm.trans e)];exact ⟨h1,ry⟩
  ·rw [if_neg e,if_neg (fun z=>e (h1.trans z))];exact ⟨h1,h2⟩
theorem KV.put {kvs:List (κ×V)}{vs:List (κ×Value)} (r:KV kvs vs) (k:κ) {y:V}{u:Value} (ry:RelV y u):KV (putK kvs k y) (stored vs k u):=by
 unfold putK stored
 rw [r.any k]
 by_cases e:(vs.any fun kv=>decide (kv.1=k))=true
 ·rw [if_pos e,if_pos e];exact r.repl k ry
 ·rw [if_neg e,if_neg e];exact Paired.snoc r ⟨rfl,ry⟩
theorem KV.keys {kvs:List (κ×V)}{vs:List (κ×Value)} (r:KV kvs vs):kvs.map (·.1)=vs.map (·.1):=by
 unfold KV at r
 induction r with
 | nil=>rfl
 | cons h t ih=>rw [List.map_cons,List.map_cons,ih,h.1]
theorem KV.length {kvs:List (κ×V)}{vs:List (κ×Value)} (r:KV kvs vs):kvs.length=vs.length:=Paired.length r
end
theorem kV_is {P:Program}{w:World}{k:Key}{u:Value} (r:RelV (kV k) u):(mixKind P w).is k u=true:=by
 cases k with
 | inl i=>obtain ⟨t,e⟩:=(show ∃ t,u=Value.int i t from r);subst e;exact mixKind_int P w i t
 | inr x=>obtain ⟨t,e⟩:=(show ∃ t,u=Value.str x t from r);subst e;exact mixKind_str P w x t
theorem items_are {P:Program}{w:World}:∀ {ks:List Key}{us:List Value},Vals (ks.map kV) us→ItemsAre (mixKind P w) ks us
 | [],_,r=>by rw [List.map_nil] at r;cases r;exact .nil
 | k::ks,_,r=>by
  rw [List.map_cons] at r
  cases r with
  | cons h t=>exact .cons (kV_is h) (items_are t)
abbrev KT (H:Hp):List (List Key×V)→List (List Key×Addr×Value)→Prop:=Paired fun p q=>p.1=q.1∧H q.2.1=some (.tup (p.1.map kV))∧RelV p.2 q.2.2
theorem KT.val {H:Hp}{kvs:List (List Key×V)}{xs:List (List Key×Addr×Value)} (r:KT H kvs xs) (k:List Key):RelO (valV kvs k) ((atKey xs k).map (·.2)):=by
 induction r with
 | nil=>exact True.intro
 | @cons p q ps qs h t ih=>
  obtain ⟨h1,_,h2⟩:=h
  by_cases e:p.1=k
  ·have e':q.1=k:=h1.symm.trans e
   have b:atKey (q::qs) k=some q.2:=by simp [atKey,List.find?_cons,e']
   rw [valV_pos e,b];exact h2
  ·have e':¬ q.1=k:=fun z=>e (h1.trans z)
   have b:atKey (q::qs) k=atKey qs k:=by simp [atKey,List.find?_cons,e']
   rw [valV_neg e,b];exact ih
theorem KT.repl {H:Hp}{kvs:List (List Key×V)}{xs:List (List Key×Addr×Value)} (r:KT H kvs xs) (k:List Key) {y:V}{u:Value} (ry:RelV y u) :
  KT H (kvs.map fun kv=>if kv.1=k then (kv.1,y) else kv) (xs.map (putAt k u)):=by
 induction r with
 | nil=>exact .nil
 | @cons p q ps qs h t ih=>
  rw [List.map_cons,List.map_cons]
  refine .cons ?_ ih
  obtain ⟨h1,h2,h3⟩:=h
  unfold putAt
  by_cases e:p.1=k
  ·rw [if_pos e,if_pos (h1.symm.trans e)];exact ⟨h1,h2,ry⟩
  ·rw [if_neg e,if_neg (fun z=>e (h1.trans z))];exact ⟨h1,h2,h3⟩
theorem KT.put {H:Hp}{kvs:List (List Key×V)}{xs:List (List Key×Addr×Value)} (r:KT H kvs xs) (k:List Key) {b:Addr}{y:V}{u:Value} (hb:H b=some (.tup (k.map kV))) (ry:RelV y u) :
  KT H (putK kvs k y) (storedH xs k b u):=by
 have e:(kvs.any fun kv=>decide (kv.1=k))=(atKey xs k).isSome:=by
  rw [valV_any,(r.val k).isSome_eq,Option.isSome_map]
 unfold putK storedH
 rw [e]
 by_cases q:(atKey xs k).isSome=true
 ·rw [if_pos q,if_pos q];exact r.repl k ry
 ·rw [if_neg q,if_neg q];exact Paired.snoc r ⟨rfl,hb,ry⟩
theorem KT.keeps {H H':Hp}{kvs:List (List Key×V)}{xs:List (List Key×Addr×Value)} (r:KT H kvs xs) (ht:∀ b ys,H b=some (.tup ys)→H' b=some (.tup ys)):KT H' kvs xs:=
 Paired.mapP r fun _ _ z=>⟨z.1,ht _ _ z.2.1,z.2.2⟩
section
variable {P:Program}{w:World}{H:Hp}{h:Heap}{a:Addr}
theorem rd_of {u:HO} (ok:HOk P w H h) (e:Rd H a u):ObjOk P w H h a u:=e.ok ok
theorem dk_rd {kvs:List (Key×V)} (ok:HOk P w H h) (e:Rd H a (.dK kvs)):kvs.length≤sizeLine∧(a == sysModules)=false∧∃ vs,KV kvs vs∧h.DictOf (mixKind P w) a vs:=
 show ObjOk P w H h a (.dK kvs) from rd_of ok e
theorem dk_of {kvs:List (Key×V)} (ok:HOk P w H h) (e:H a=some (.dK kvs)):kvs.length≤sizeLine∧(a == sysModules)=false∧∃ vs,KV kvs vs∧h.DictOf (mixKind P w) a vs:=dk_rd ok (.inl e)
theorem key_of {ks:List Key} (ok:HOk P w H h) (e:H a=some (.tup (ks.map kV))):(tupleKind (mixKind P w)).is h ks a:=by
 obtain ⟨_,its,r,o,h1,h2,_,n,h3⟩:=(show ObjOk P w H h a (.tup (ks.map kV)) from ok a _ e)
 exact ⟨o,its.toArray,n,h1,h2,h3,by simpa using items_are r⟩
theorem dt_rd {kvs:List (List Key×V)} (ok:HOk P w H h) (e:Rd H a (.dT kvs)):kvs.length≤sizeLine∧(a == sysModules)=false ∧
  ∃ xs,KT H kvs xs∧h.DictOfH (tupleKind (mixKind P w)) a xs:=by
 obtain ⟨z,y,xs,r,o,es,ep,h1,h2,h3,h4,h5⟩:=(show ObjOk P w H h a (.dT kvs) from rd_of ok e)
 refine ⟨z,y,xs,r,o,es,ep,h1,h2,h3,h4,fun x hx=>?_,h5⟩
 have all:∀ {l:List (List Key×V)}{m:List (List Key×Addr×Value)},KT H l m→∀ x∈m,(tupleKind (mixKind P w)).is h x.1 x.2.1:=by
  intro l m q
  induction q with
  | nil=>intro x hx;exact nomatch hx
  | @cons p q ps qs hq t ih=>
   intro x hx
   rcases List.mem_cons.mp hx with e | hx
   ·subst e
    exact key_of ok (by rw [← hq.1];exact hq.2.1)
   ·exact ih x hx
 exact all r x hx
theorem dt_of {kvs:List (List Key×V)} (ok:HOk P w H h) (e:H a=some (.dT kvs)):kvs.length≤sizeLine∧(a == sysModules)=false ∧
  ∃ xs,KT H kvs xs∧h.DictOfH (tupleKind (mixKind P w)) a xs:=dt_rd ok (.inl e)
end
def DGet (H:Hp) (a:Addr) (y:V) (r:Option V):Prop:=
 (∃ kvs k,Rd H a (.dK kvs)∧y=kV k∧r=valV kvs k)∨∃ kvs k b,Rd H a (.dT kvs)∧y=.ref b∧H b=some (.tup (k.map kV))∧r=valV kvs k
def DPut (H:Hp) (a:Addr) (y v:V) (H':Hp):Prop:=
 (∃ kvs k,H a=some (.dK kvs)∧y=kV k∧kvs.length < sizeLine∧H'=upd H a (.dK (putK kvs k v))) ∨
 ∃ kvs k b,H a=some (.dT kvs)∧y=.ref b∧H b=some (.tup (k.map kV))∧kvs.length < sizeLine∧H'=upd H a (.dT (putK kvs k v))
theorem DGet.k {H:Hp}{a:Addr}{kvs:List (Key×V)}{k:Key} (e:H a=some (.dK kvs)):DGet H a (kV k) (valV kvs k):=.inl ⟨kvs,k,.inl e,rfl,rfl⟩
theorem DPut.k {H:Hp}{a:Addr}{kvs:List (Key×V)}{k:Key}{v:V} (e:H a=some (.dK kvs)) (hl:kvs.length < sizeLine):DPut H a (kV k) v (upd H a (.dK (putK kvs k v))):=.inl ⟨kvs,k,e,rfl,hl,rfl⟩
section
variable {X:Cx}{pins:List (Addr×Obj)}{σ:St}{H:Hp}{s:Shared}{a:Addr}{y v:V}{u r:Value}{o:Option V}{A:Around}{E:Value→Shared→Prop}
theorem Inv.big (I:Inv X pins σ H s):sysModules < s.heap.objs.size:=by
 have h:mainGlobals < s.heap.objs.size:=(I.mod.glob.keeps I.bk).lt
 exact Nat.lt_trans (by decide) h
theorem d_getItem {Q:Value→Shared→Prop} (hu:A.units + 1 < cLine) (I:Inv X pins σ H s) (g:DGet H a y (some v)) (ry:RelV y u) (h:∀ w' s',Inv X pins σ H s'→RelV v w'→Q w' s') :
  wpAny (model X.prog X.w) A (getItem (.ref a) u) Q E s:=by
 rcases g with ⟨kvs,k,e,ey,l⟩ | ⟨kvs,k,b,e,ey,eb,l⟩
 ·subst ey
  obtain ⟨z,hd,vs,rel,dd⟩:=dk_rd I.hok e
  obtain ⟨w',hw,rw'⟩:=RelO.some_of (v:=v) (o:=valueAt vs k) (by rw [l];exact rel.val k)
  exact wpAny_getItem_of (kV_is ry) dd.mapOf hw (h w' _ (I.tok _) rw')
 ·subst ey
  cases (show u=Value.ref b from ry)
  obtain ⟨z,hd,xs,rel,dd⟩:=dt_rd I.hok e
  obtain ⟨w',hw,rw'⟩:=RelO.some_of (v:=v) (o:=(atKey xs k).map (·.2)) (by rw [l];exact rel.val k)
  obtain ⟨p,hp,hp2⟩:=Option.map_eq_some_iff.mp hw
  refine wpAny_getItem_heap (tupleKind_room_in1 hu) (key_of I.hok eb) dd hp ?_
  rw [hp2]
  exact h w' _ (I.tok _) rw'
theorem d_write {h':Heap}{t':Nat}{ob:HO} (I:Inv X pins σ H s) (mu:Mut (H a)) (hs:Heap.SameBut a s.heap h') (he:∃ q,h'.get? a=some q) (new:ObjOk X.prog X.w (upd H a ob) h' a ob) :
  Inv X pins σ (upd H a ob) { s with heap:=h',toks:=t' }:=
 I.write (x:=a) (e:=a) mu (.inl rfl) (fun b q hb z=>(hs.2 b hb).trans z) he new
theorem dk_new {P:Program}{w:World}{H':Hp}{h':Heap}{kvs:List (Key×V)}{vs:List (Key×Value)} (z:kvs.length≤sizeLine) (hd:(a == sysModules)=false) (rel:KV kvs vs) (dd:h'.DictOf (mixKind P w) a vs) :
  ObjOk P w H' h' a (.dK kvs):=⟨z,hd,vs,rel,dd⟩
theorem d_setItem {H':Hp}{Q:Unit→Shared→Prop} (hu:A.units + 1 < cLine) (I:Inv X pins σ H s) (g:DPut H a y v H') (ry:RelV y u) (rv:RelV v r) (h:∀ s',Inv X pins σ H' s'→Q () s') :
  wpAny (model X.prog X.w) A (setItem (.ref a) u r) Q E s:=by
 rcases g with ⟨kvs,k,e,ey,l,eH⟩ | ⟨kvs,k,b,e,ey,eb,l,eH⟩
 ·subst ey eH
  obtain ⟨z,hd,vs,rel,dd⟩:=dk_of I.hok e
  have hz:vs.length≤sizeLine:=by rw [← rel.length];exact z
  have hl:(putK kvs k v).length≤sizeLine:=by have:=length_putK kvs k v;omega
  refine wpAny_setItem_pairs (hsz:=hz) (kV_is ry) dd fun h' dd' hs=>h _ ?_
  have he:∃ q,h'.get? a=some q:=let ⟨q,_,_,hq,_⟩:=dd';⟨q,hq⟩
  exact d_write I (by rw [e];exact True.intro) hs he (dk_new hl hd (rel.put k rv) dd')
 ·subst ey eH
  cases (show u=Value.ref b from ry)
  obtain ⟨z,hd,xs,rel,dd⟩:=dt_of I.hok e
  have hz:xs.length≤sizeLine:=by rw [← Paired.length rel];exact z
  have hl:(putK kvs k v).length≤sizeLine:=by have:=length_putK kvs k v;omega
  refine wpAny_setItem_heap (hsz:=hz) (tupleKind_room_in1 hu) (key_of I.hok eb) dd fun h' dd' hs=>h _ ?_
  obtain ⟨q,es,ep,hq,h2,h3,h4,_,h5⟩:=dd'
  refine d_write I (by rw [e];exact True.intro) hs ⟨q,hq⟩ ⟨hl,hd,_,(rel.put k eb rv).keeps fun c ys ec=>?_,q,es,ep,hq,h2,h3,h4,h5⟩
  rw [upd_ne (ne_of ec e (fun z=>nomatch z))]
  exact ec
end
section
variable {X:Cx}{pins:List (Addr×Obj)}{σ:St}{H:Hp}{s:Shared}{a:Addr}{kvs:List (Key×V)}{k:Key}{u:Value}{A:Around}{E:Value→Shared→Prop}
theorem d_len {Q:Value→Shared→Prop} (I:Inv X pins σ H s) (e:Rd H a (.dK kvs)) (h:∀ t s',Inv X pins σ H s'→Q (.int kvs.length t) s'):wpAny (model X.prog X.w) A (call (.builtin "len") [.ref a]) Q E s:=by
 obtain ⟨z,hd,vs,rel,dd⟩:=dk_rd I.hok e
 refine call_len_dict hd dd (by rw [← rel.length];rw [sizeLine_eq] at z;omega) ?_
 rw [← rel.length]
 exact h _ _ (I.tok _)
end
def NoSl (i:Expr):Prop:=∀ ov iv,subscripted i false ov iv=operate [ov,iv] (getItem ov iv)
theorem subD_of {prog:Program}{w:World}{A:Around}{E:Value→Shared→Prop}{s:Shared}{env:Env}{value slice:Expr}{pos:Pos}{T id:String}{Q:Value→Shared→Prop}
  (hl:typeLookup (.type T) "__getitem__"=pure (some (.builtin id))) (hs:NoSl slice)
  (h:wpAny (model prog w) A (eval value env) (fun o s₁=>wpAny (model prog w) A (eval slice env) (fun i s₂=>s₂.TypeIs o T∧wpAny (model prog w) A (getItem o i) Q E s₂) E s₁) E s) :
  wpAny (model prog w) A (eval (.Subscript value slice pos) env) Q E s:=by
 refine Subscript_ (wpAny_mono h (fun o s₁ h₁=>wpAny_mono h₁ (fun i s₂ h₂=>?_) fun _ _ x=>x) fun _ _ x=>x)
 obtain ⟨hT,h₂⟩:=h₂
 unfold subscriptTail
 refine wpAny_bind ?_
 rw [getitemInPython_of_ne hT.not_modules]
 refine wpAny_bind (wpAny_specialOf hT hl ?_)
 have fin:wpAny (model prog w) A (subscripted slice false o i) (fun r s₃=>wpAny (model prog w) A (letTemporaryGo value o r >>= fun _=>pure r) Q E s₃) E s₂:=by
  rw [hs o i]
  exact wpAny_operating (wpAny_mono h₂ (fun r s₃ h₃=>wpAny_bind (wpAny_letTemporaryGo (wpAny_pure h₃))) fun _ _ x=>x)
 first
  | exact wpAny_pure (wpAny_bind fin)
  | exact wpAny_bind (wpAny_pure (wpAny_bind fin))
  | exact wpAny_bind fin
theorem dict_typeIs {X:Cx}{pins:List (Addr×Obj)}{σ:St}{H:Hp}{s:Shared}{a:Addr}{y:V}{o:Option V} (I:Inv X pins σ H s) (g:DGet H a y o):s.TypeIs (.ref a) "dict":=by
 rcases g with ⟨kvs,k,e,_,_⟩ | ⟨kvs,k,b,e,_,_,_⟩
 ·obtain ⟨_,_,vs,_,dd⟩:=dk_rd I.hok e
  exact dd.typeIs
 ·obtain ⟨_,_,xs,_,dd⟩:=dt_rd I.hok e
  exact dd.typeIs
def tDGet (td ty:TE):TE:=fun σ H Q=>td σ H fun x H1=>ty σ H1 fun y H2=>∃ a v,x=.ref a∧DGet H2 a y (some v)∧Q v H2
def sDPut (td ty tv:TE):TS:=fun D σ H=>tv σ H fun v H1=>td σ H1 fun x H2=>ty σ H2 fun y H3=>∃ a H4,x=.ref a∧DPut H3 a y v H4∧D.nx σ H4
section
variable {X:Cx}{o i e value:Expr}{pos pos' tpos:Pos}{td ty tv:TE}
theorem pe_dget (hu:X.A.units + 1 < cLine) (ho:PE X o td) (hi:PE X i ty) (hs:NoSl i):PE X (.Subscript o i pos) (tDGet td ty):=by
 intro pins s σ H Q I h
 refine subD_of PySem.F.slot_dict_getitem.lookup hs (thn (ho pins s σ H _ I h) fun u s1 ⟨x,H1,I1,rx,q1⟩=>thn (hi pins s1 σ H1 _ I1 q1) fun iv s2 ⟨y,H2,I2,ry,a,v,ex,g,q2⟩=>?_)
 subst ex
 obtain rfl:u=Value.ref a:=rx
 exact ⟨dict_typeIs I2 g,d_getItem hu I2 g ry fun w' s3 I3 rw'=>⟨v,H2,I3,rw',q2⟩⟩
theorem ps_dput (hu:X.A.units + 1 < cLine) (ho:PE X o td) (hi:PE X i ty) (hv:PE X value tv) (hs:swapsWith value (some (.Subscript o i pos')) pos.line X.env=pure false) :
  PS X (.Assign [.Subscript o i pos'] value pos) (sDPut td ty tv):=by
 intro pins s σ H D I h
 refine wpAny_Assign_Subscript (thn (hv pins s σ H _ I h) fun r s1 ⟨v,H1,I1,rv,q1⟩=>thn (ho pins s1 σ H1 _ I1 q1) fun u s2 ⟨x,H2,I2,rx,q2⟩=>thn (hi pins s2 σ H2 _ I2 q2) fun iv s3 ⟨y,H3,I3,ry,a,H4,ex,g,q3⟩=>?_) hs
 subst ex
 obtain rfl:u=Value.ref a:=rx
 exact d_setItem hu I3 g ry rv fun s4 I4=>⟨σ,H4,I4,q3⟩
end
theorem dk_empty {P:Program}{w:World}{H:Hp} (h:Heap) (hb:sysModules < h.objs.size):ObjOk P w H (h.push { cls:=.type "dict",data:=.dict #[] }) h.objs.size (.dK []):=
 ⟨Nat.zero_le _,beq_eq_false_iff_ne.mpr (Ne.symm (Nat.ne_of_lt hb)),[],.nil,Heap.DictOf.new h⟩
def tDNewK:TE:=fun _ H Q=>∀ p,H p=none→Q (.ref p) (upd H p (.dK []))
section
variable {X:Cx}{pos:Pos}
theorem pe_dnewK:PE X (.Dict [] [] pos) tDNewK:=fun pins s σ H Q I h=>
 wpAny_Dict_empty ⟨.ref s.heap.objs.size,_,I.laid (a:=s.heap.objs.size) (o:=.dK []) (t':=s.toks) (fun _ _ q=>Heap.get?_push_of_some _ q) (Nat.le_refl _) (dk_empty s.heap I.big),rfl,h _ (I.hok.fresh (Nat.le_refl _))⟩
end
structure M2 (X:Cx) (o:Expr) (m:Str) (apos:Pos) (e f:Expr) (cpos:Pos):Prop where
 base:attributeBase o m X.env (eval o X.env)=eval o X.env
 few:((backTo cpos (starEach [e,f] X.env)).all (fun x=>!x.1)&&(backToKw cpos (keywordEach [] X.env)).all (fun x=>x.1.isSome)
  && decide (([e,f]:List Expr).length + ([]:List Keyword).length + (if ([]:List Keyword).isEmpty then 0 else 1) < 30))=true
 line:(apos.endLine == cpos.line)=true
 trees:backTo cpos (starEach [e,f] X.env)=[(false,eval e X.env),(false,eval f X.env)]
def IsD (H:Hp) (a:Addr):Prop:=(∃ kvs,Rd H a (.dK kvs))∨∃ kvs,Rd H a (.dT kvs)
theorem isD_at {X:Cx}{pins:List (Addr×Obj)}{σ:St}{H:Hp}{s:Shared}{a:Addr} (I:Inv X pins σ H s) (d:IsD H a) :
  s.TypeIs (.ref a) "dict"∧(∀ b,Value.ref a=.ref b→∃ ob,s.heap.get? b=some ob∧ob.dict=none)∧(a == sysModules)=false:=by
 rcases d with ⟨kvs,e⟩ | ⟨kvs,e⟩
 ·obtain ⟨_,hd,vs,_,dd⟩:=dk_rd I.hok e
  refine ⟨dd.typeIs,fun b q=>?_,hd⟩
  cases q
  obtain ⟨ob,_,_,h1,h2,_⟩:=dd
  exact ⟨ob,h1,h2.2.1⟩
 ·obtain ⟨_,hd,xs,_,dd⟩:=dt_rd I.hok e
  refine ⟨dd.typeIs,fun b q=>?_,hd⟩
  cases q
  obtain ⟨ob,_,_,h1,h2,_⟩:=dd
  exact ⟨ob,h1,h2.2.1⟩
section
variable {X:Cx}{pins:List (Addr×Obj)}{σ:St}{H:Hp}{s:Shared}{a:Addr}{y d:V}{u r:Value}{o:Option V}{A:Around}{E:Value→Shared→Prop}
theorem d_get2 {Q:Value→Shared→Prop} (hu:A.units + 1 < cLine) (I:Inv X pins σ H s) (g:DGet H a y o) (ry:RelV y u) (rd:RelV d r) (h:∀ w' s',Inv X pins σ H s'→RelV (o.getD d) w'→Q w' s') :
  wpAny (model X.prog X.w) A (call (.builtin "dict.get") [.ref a,u,r]) Q E s:=by
 rcases g with ⟨kvs,k,e,ey,l⟩ | ⟨kvs,k,b,e,ey,eb,l⟩
 ·subst ey
  obtain ⟨z,hd,vs,rel,dd⟩:=dk_rd I.hok e
  refine call_meetsIn PySem.F.slot_dict_get dd.typeIs PySem.F.entry_dict_get (PySem.F.args_dict_get_3 _ _ _) (meets_dict_get_default (mixKind X.prog X.w) a (kV_is ry) hd r) ⟨_,dd.mapOf,h _ _ (I.tok _) ?_⟩
  rw [l]
  exact (rel.val k).getD rd
 ·subst ey
  cases (show u=Value.ref b from ry)
  obtain ⟨z,hd,xs,rel,dd⟩:=dt_rd I.hok e
  refine call_meetsIn PySem.F.slot_dict_get dd.typeIs PySem.F.entry_dict_get (PySem.F.args_dict_get_3 _ _ _) (meetsH_dict_get_default (tupleKind (mixKind X.prog X.w)) a b hd r) ⟨tupleKind_room_in1 hu,k,xs,key_of I.hok eb,dd,h _ _ (I.tok _) ?_⟩
  rw [l]
  exact (rel.val k).getD rd
end
def tDGet2 (td ty tx:TE):TE:=fun σ H Q=>td σ H fun x H1=>∃ a,x=.ref a∧IsD H1 a∧ty σ H1 fun y H2=>tx σ H2 fun z H3=>∃ o,DGet H3 a y o∧Q (o.getD z) H3
section
variable {X:Cx}{o e f:Expr}{apos cpos:Pos}{td ty tx:TE}
theorem pe_dget2 (hu:X.A.units + 1 < cLine) (ho:PE X o td) (he:PE X e ty) (hf:PE X f tx) (m:M2 X o "get" apos e f cpos):PE X (.Call (.Attribute o "get" apos) [e,f] [] cpos) (tDGet2 td ty tx):=by
 intro pins s σ H Q I h
 refine wpAny_Call_method m.base m.few m.line PySem.F.plainAttrs_dict PySem.F.slot_dict_get PySem.F.type_dict_get (thn (ho pins s σ H _ I h) fun u s1 ⟨x,H1,I1,rx,a,ex,d,q1⟩=>?_)
 subst ex
 obtain rfl:u=Value.ref a:=rx
 obtain ⟨t1,t2,_⟩:=isD_at I1 d
 refine ⟨t1,t2,?_⟩
 rw [m.trees]
 refine Calls.callWith_builtin rfl (Calls.evalArgs_plain (Calls.spliced_cons (thn (he pins s1 σ H1 _ I1 q1) fun iv s2 ⟨y,H2,I2,ry,q2⟩=>
  Calls.spliced_cons (thn (hf pins s2 σ H2 _ I2 q2) fun fv s3 ⟨z,H3,I3,rz,ov,g,q3⟩=>Calls.spliced_nil ?_))))
 exact d_get2 hu I3 g ry rz fun w' s4 I4 rw'=>⟨_,H3,I4,rw',q3⟩
end
section
variable {X:Cx}{pins:List (Addr×Obj)}{σ:St}{H:Hp}{s:Shared}{a:Addr}{kvs:List (Key×V)}{A:Around}{E:Value→Shared→Prop}
theorem d_copyOf {Q:Value→Shared→Prop} (I:Inv X pins σ H s) (e:Rd H a (.dK kvs)) (h:∀ p s',H p=none→Inv X pins σ (upd H p (.dK kvs)) s'→Q (.ref p) s'):wpAny (model X.prog X.w) A (call (.type "dict") [.ref a]) Q E s:=by
 obtain ⟨z,hd,vs,rel,dd⟩:=dk_rd I.hok e
 refine kt_call_dict hd dd (by rw [← rel.length];exact z) fun h' dd' hs=>?_
 refine h _ _ (I.hok.fresh (Nat.le_refl _)) (I.laid (a:=s.heap.objs.size) (o:=.dK kvs) (t':=s.toks) (fun b q hq=>?_) (Nat.le_refl _) (dk_new z (beq_eq_false_iff_ne.mpr (Ne.symm (Nat.ne_of_lt I.big))) rel dd'))
 exact (hs.2 b (Nat.ne_of_lt (Heap.lt_size hq))).trans (Heap.get?_push_of_some _ hq)
end
end L2
namespace Att
open PySem PySem.W PySem.Calls PyProof.Rows
theorem ints_of_wellAll {P:Params}{h:Heap}:∀ (ns:List Int) (vs:List Value),WellAll P h vs (ns.map WData.int)→IntsAre vs ns:=by
 intro ns
 induction ns with
 | nil=>
  intro vs w
  rw [List.map_nil] at w
  cases w
  exact .nil
 | cons n ns ih=>
  intro vs w
  rw [List.map_cons] at w
  cases w with
  | cons a b=>
   cases a
   exact .cons _ _ (ih _ b)
theorem script_of {l:OpenLaw}{n:Nat} (hn:l.most=some n) {P:Params}{h:Heap}{args:List WData}{vals:List Value}
  (hpre:l.row.toRowW.claim.pre args=true) (hwl:WellAll P h vals args) :
  ∃ a vs ns,vals=[Value.ref a]∧args=[WData.list (ns.map WData.int)]∧h.get? a=some { cls:=.type "list",data:=.seq vs.toArray }∧IntsAre vs ns∧ns.length≤n:=by
 have hsh:WShape.hasAll [] args [.list .int]=true:=(pre_splitW hpre).1
 have hc:l.pre.holds [] { args:=args }=true:=(pre_splitW hpre).2
 obtain ⟨d,r,rfl,h1,h2⟩:=hasAllW_cons hsh
 obtain rfl:=hasAllW_nil h2
 obtain ⟨xs,rfl,h3⟩:=hasW_list h1
 obtain ⟨ns,rfl⟩:=items_int h3
 have hlen:ns.length≤n:=by
  unfold OpenLaw.pre at hc
  have h4:(WTm.not (.lt (.lit (.int (n:Int))) (.len (.arg 0)))).holds [] { args:=[.list (ns.map .int)] }=true:=by
   have h4:=(holds_andW hc).1
   rw [hn] at h4
   exact h4
  have h5:=condW_of h4 (w_not (w_lt w_lit (w_len_list (w_arg rfl))))
  rw [List.length_map] at h5
  refine Nat.le_of_not_lt fun q=>?_
  have q':(n:Int) < ((ns.length:Nat):Int):=by omega
  first
   | (rw [decide_eq_true q'] at h5;exact absurd h5 (by decide))
   | (simp at h5;omega)
 cases hwl with
 | cons w1 w2=>
  cases w2
  cases w1 with
  | list ho hall=>exact ⟨_,_,ns,rfl,rfl,ho,ints_of_wellAll ns _ hall,hlen⟩
theorem post_true (l:OpenLaw) (args:List WData):l.row.toRowW.claim.post args (.bool true) args=true:=
 postW_of (r:=l.row.toRowW) (X:=(true == true))
  (show WShape.has [] (.bool true) .bool=true by first | rfl | decide | simp [WShape.has,WShape.arms,WShape.armsAll])
  (show (WTm.eq .res (.lit (.bool true))).value [] { args:=args,res:=some (.bool true),after:=args }=some (.bool (true == true)) from w_eq_bool (w_res rfl) w_lit) rfl
theorem attach_call {l:OpenLaw}{n:Nat}{q:Program}{loose:List Str}{XP:(Str→Option Value)→Heap→Prop}{YP:World→Heap→Prop}{d:DefRec}
  (hn:l.most=some n) (hdf:d.params.defaults=[])
  (call:∀ (w:World) (s₀ s₁:Shared) (mg mb:Str→Option Value) (fa:Addr) (o:Obj) (pm cd doc:Value) (a:Addr) (vs:List Value) (ns:List Int),
   Ground q loose [] XP w s₀ mg mb s₁.heap→YP w s₁.heap →
   s₁.heap.get? fa=some o→o.data=.func (docDef d.name d.params d.body d.scope pm cd doc)→s₁.heap.CodeRec cd d.name→mg d.name=some (.ref fa) →
   s₁.heap.get? a=some { cls:=.type "list",data:=.seq vs.toArray }→IntsAre vs ns→ns.length≤n→s₁.gens=#[] →
   codeAny (model l.prog w) callerA (.call (.ref fa) ⟨[.ref a],[]⟩) (fun r s'=>r=.ok (.ret (.bool true))∧OldK s₁.heap s'.heap∧s'.os=s₁.os∧AllBare s'.gens) s₁) :
  WalkO q loose XP YP l.row.toRowW d [] (fun f vs=>PySem.call f vs):=by
 intro w s₀ s₁ mg mb G Y fa o pm cd doc dV kV ho hd hcd hD hmg hg args vals as hpre hlay hrd hwl hlo
 obtain rfl:dV=.none:=Dflts.none hD hdf
 obtain rfl:kV=.none:=Dflts.noKw hD
 obtain ⟨a,vs,ns,rfl,rfl,hobj,hints,hlen⟩:=script_of hn hpre hwl
 refine enter_call (codeAny_mono (call w s₀ s₁ mg mb fa o pm cd doc a vs ns G Y ho (fd_plain hd) hcd hmg hobj hints hlen hg) fun r s' hq=>?_)
 obtain ⟨rfl,h2,h3,h4⟩:=hq
 exact ⟨.inl ⟨.bool true,.bool true,[],rfl,fun _=>rfl,.bool true,post_true l _,fun _=>⟨List.Pairwise.nil,fun _ hm=>(nomatch hm)⟩⟩,h2,h3,h4⟩
end Att
namespace L2
open PySem PySem.Spec PyProof.Rows
theorem vals_ints:∀ {vs:List Value}{ns:List Int},IntsAre vs ns→Vals (ns.map V.int) vs
 | _,_,.nil=>.nil
 | _,_,.cons n t h=>.cons ⟨t,rfl⟩ (vals_ints h)
def Only (H:Hp):Prop:=∀ b,H b=none∨∃ o xs,H b=some (.frz o (.lst xs))
theorem law_call {P:Program}{w:World}{K:PySem.W.Frag}{mg mb:Str→Option Value}{CX:CXT}{k:Nat}{fa a:Addr}{fd:FuncData}{x:Str}{sp:Sp}{s₁:Shared}{vs:List Value}{ns:List Int}
  (KX:K.In s₁.heap) (hns:s₁.heap.Ns mainGlobals mg) (hb:s₁.heap.Ns builtinsNs mb) (hbb:∀ x:Str,x≠"__name__"→mb x=bootBuiltins x) (hlim:s₁.heap.NoLimit) (hg:s₁.gens=#[])
  (ha:s₁.heap.get? a=some { cls:=.type "list",data:=.seq vs.toArray }) (hi:IntsAre vs ns) (hl:ns.length≤sizeLine) (hr:Room k callerA)
  (F:∀ base:Heap,K.In base→base.Ns mainGlobals mg→FnOk P w K mg base CX k fa fd [x] sp) (hbind:∀ (s:Shared) (u:Value),BindsTo s fd ⟨[u],[]⟩ [(x,u)])
  (hsp:∀ H:Hp,Only H→SqL K H a (ns.map V.int)→sp [.ref a] H (fun v _=>v=.bl true) fun _ _ _=>False)
  (hCX:∀ H e s',CX [] H s₁ (fun _ _ _=>False) e s'→False) :
  codeAny (model P w) callerA (.call (.ref fa) ⟨[.ref a],[]⟩) (fun r s'=>r=.ok (.ret (.bool true))∧OldK s₁.heap s'.heap∧s'.os=s₁.os∧AllBare s'.gens) s₁:=by
 have rv:=vals_ints hi
 have lenV:=hi.length
 have core:∀ H:Hp,Only H→SqL K H a (ns.map V.int)→HOk P w H s₁.heap→(∀ b,H b≠none→b=a)→(H a≠none→K.lookup a=none) →
   codeAny (model P w) callerA (.call (.ref fa) ⟨[.ref a],[]⟩) (fun r s'=>r=.ok (.ret (.bool true))∧OldK s₁.heap s'.heap∧s'.os=s₁.os∧AllBare s'.gens) s₁:=by
  intro H hO hS hok hA hK
  have base_of:∀ {b:Addr}{o:Obj},s₁.heap.get? b=some o→H b=none→(hidT s₁.heap H).get? b=some o:=fun e n=>hidT_get e n
  have noA:∀ {b:Addr}{o:Obj}{es:Array DictEntry}{ep:Nat},s₁.heap.get? b=some o→o.data=.dict es ep→H b=none:=fun {b o es ep} e d=>by
   cases q:H b with
   | none=>rfl
   | some u=>
    have e':b=a:=hA b (by rw [q];simp)
    subst e'
    rw [ha] at e;cases e
    have d':Data.seq vs.toArray _=Data.dict es ep:=d
    cases d'
  have nsK:∀ {b:Addr}{m:Str→Option Value},s₁.heap.Ns b m→(hidT s₁.heap H).Ns b m:=fun {b m} ⟨o,es,ep,e,d,r⟩=>⟨o,es,ep,base_of e (noA e d),d,r⟩
  have hKb:K.In (hidT s₁.heap H):=fun b o e=>base_of (KX b o e) (by
   cases q:H b with
   | none=>rfl
   | some u=>
    have e':b=a:=hA b (by rw [q];simp)
    subst e'
    rw [hK (by rw [q];simp)] at e;cases e)
  have hM:Mod K mg (hidT s₁.heap H):=⟨hKb,nsK hns,⟨mb,nsK hb,hbb⟩,let ⟨mc,h1,h2⟩:=hlim;⟨mc,nsK h1,h2⟩⟩
  have e0:Env0 P w K mg (hidT s₁.heap H) callerA [] s₁ H:=⟨rfl,hM,fun b o e=>of_hidT e,Nat.le_of_eq (hidT_size _ _),trivial,fun b hb=>absurd (show b∈([]:List Addr) from hb) (by simp),hok,.of_eq hg,.inl rfl⟩
  refine codeAny_mono ((F _ hKb (nsK hns)).run callerA [] s₁ H ⟨[.ref a],[]⟩ [.ref a] [.ref a] _ _ hr e0 (hbind s₁ (.ref a)) (.cons rfl .nil) (hsp H hO hS)) fun r s' h=>?_
  cases r with
  | error e=>exact (hCX H e s' h).elim
  | ok fl=>
   cases fl with
   | next=>exact False.elim h
   | brk=>exact False.elim h
   | cont=>exact False.elim h
   | ret u=>
    obtain ⟨v,H',os,bare,un,hok',r',q⟩:=h
    have q':v=.bl true:=q
    subst q'
    obtain rfl:u=Value.bool true:=r'
    refine ⟨rfl,OldK.of_keep fun b o e=>?_,os,bare⟩
    cases q:H b with
    | none=>exact un.keep b o e q (by intro z;exact absurd (show b∈([]:List Addr) from z) (by simp)) (by simp)
    | some u=>
     rcases hO b with z | ⟨ob,xs,z⟩
     ·rw [q] at z;cases z
     ·have z2:=un.frzs b ob _ z
      obtain ⟨e1,_⟩:=hok b _ z
      obtain ⟨e2,_⟩:=hok' b _ z2
      rw [e] at e1;cases e1
      exact e2
 cases hk:K.lookup a with
 | some o=>
  have e:=KX a o hk
  rw [ha] at e
  cases e
  refine core (fun _=>none) (fun _=>.inl rfl) (.inr ⟨_,vs.toArray,_,hk,rfl,rfl,rfl,by rw [List.size_toArray,lenV];exact hl,by simpa using rv⟩) (fun b u z=>by have z':(none:Option HO)=some u:=z;cases z') (fun b z=>absurd rfl z) fun z=>absurd rfl z
 | none=>
  refine core (fun b=>if b=a then some (.frz { cls:=.type "list",data:=.seq vs.toArray } (.lst (ns.map V.int))) else none) (fun b=>?_) (.inl (.inr ⟨{ cls:=.type "list",data:=.seq vs.toArray },if_pos rfl⟩)) (fun b u z=>?_) (fun b z=>?_) fun _=>hk
  ·by_cases hb:b=a
   ·exact .inr ⟨_,_,if_pos hb⟩
   ·exact .inl (if_neg hb)
  ·by_cases hb:b=a
   ·have z':=(if_pos hb).symm.trans z
    cases z'
    subst hb
    exact ⟨ha,by rw [List.length_map];exact hl,vs,_,rv,ha⟩
   ·have z':=(if_neg hb).symm.trans z
    cases z'
  ·by_cases hb:b=a
   ·exact hb
   ·exact absurd (if_neg hb) z
theorem walk_of {l:PySem.W.OpenLaw}{n k:Nat}{q:Program}{loose:List Str}{XP:(Str→Option Value)→Heap→Prop}{YP:World→Heap→Prop}{d:DefRec}{K:Params→PySem.W.Frag}{CX:World→CXT}{sp:World→Sp}{x:Str}
  (hn:l.most=some n) (hn2:n≤sizeLine) (hdf:d.params.defaults=[]) (hr:Room k callerA)
  (hY:∀ (w:World) (h:Heap),YP w h→(K w.params).In h)
  (F:∀ (w:World) (mg:Str→Option Value) (fa:Addr) (h:Heap),(K w.params).In h→h.Ns mainGlobals mg→mg d.name=some (.ref fa) →
   ∃ fd:FuncData,(∀ (s:Shared) (u:Value),BindsTo s fd ⟨[u],[]⟩ [(x,u)]) ∧
    ∀ base:Heap,(K w.params).In base→base.Ns mainGlobals mg→FnOk l.prog w (K w.params) mg base (CX w) k fa fd [x] (sp w))
  (hsp:∀ (w:World) (H:Hp) (a:Addr) (ns:List Int),ns.length≤n→Only H→SqL (K w.params) H a (ns.map V.int)→sp w [.ref a] H (fun v _=>v=.bl true) fun _ _ _=>False)
  (hCX:∀ (w:World) (H:Hp) (s:Shared) (e:Value) (s':Shared),CX w [] H s (fun _ _ _=>False) e s'→False) :
  PySem.W.WalkO q loose XP YP l.row.toRowW d [] (fun f vs=>PySem.call f vs):=by
 refine Att.attach_call hn hdf fun w s₀ s₁ mg mb fa o pm cd doc a vs ns G Y ho hd hcd hmg hobj hints hlen hg=>?_
 have KX:=hY w _ Y
 obtain ⟨fd,hb,hF⟩:=F w mg fa _ KX G.T.g hmg
 exact law_call KX G.T.g G.T.b G.T.builtins G.T.nolimit hg hobj hints (Nat.le_trans hlen hn2) hr hF hb (fun H hO hS=>hsp w H a ns hlen hO hS) fun H e s'=>hCX w H s₁ e s'
def inClass (s:Stmt) (j:Nat):Stmt:=match s with
 | .ClassDef _ _ _ body _ _ _ _ _ _ _=>body.getD j (.Pass ⟨0,0,0,0⟩)
 | _=>.Pass ⟨0,0,0,0⟩
def defArgs (s:Stmt):Arguments:=match s with
 | .FunctionDef _ a _ _ _ _ _ _ _ _=>a
 | _=>{ posonlyargs:=[],args:=[],vararg:=none,kwonlyargs:=[],kw_defaults:=[],kwarg:=none,defaults:=[] }
def defBody (s:Stmt):List Stmt:=match s with
 | .FunctionDef _ _ b _ _ _ _ _ _ _=>b
 | _=>[]
def defScope (s:Stmt):Scope:=match s with
 | .FunctionDef _ _ _ _ _ _ sc _ _ _=>sc
 | _=>{ kind:=.function,names:=[],isGenerator:=false,isCoroutine:=false }
abbrev CX0:CXT:=fun _ _ _ _ _ _=>False
abbrev E0:XK:=fun _ _ _=>False
theorem pass0 {X:Cx}:Passes CX0 X E0:=fun _ _ _ _ _ _ _ h=>h.elim
structure Fun (K:PySem.W.Frag) (x qual:Str) (st:Stmt) (f:Addr) (fd:FuncData):Prop where
 ex:∃ (oc:Value) (od:Option Addr) (kV doc pm:Value) (an:Option Addr) (cdv ct:Value) (osl:Array (Option Value)),
  fd=PySem.W.fnOf x qual (defArgs st) (defBody st) (defScope st) .none kV doc pm an cdv ct∧K.lookup f=some ⟨oc,od,.func fd,osl⟩∧PySem.W.codeIn K cdv qual=true
 kp:PySem.W.keepIn K (.ref f)=true
section
variable {P:Program}{w:World}{K:PySem.W.Frag}{mg:Str→Option Value}{base:Heap}
theorem Fun.ok {x qual:Str}{st:Stmt}{f:Addr}{fd:FuncData}{N ps:List Str}{k:Nat}{sp:Sp}{cm:Bool} (F:Fun K x qual st f fd) (S:FnScope N ps (defScope st)) (len:∀ vs H Q E,sp vs H Q E→vs.length=ps.length)
  (hbody:∀ (cdv:Value) (A:Around) (outer:List Env) (s:Shared) (H:Hp) (vs:List V) (Q:VK) (E:XK),Room k (A.deeper (envOfC qual (defScope st) s.heap.objs.size f cdv)) cm→sp vs H Q E →
   ∃ t,PSs (cxOf CX0 P w K mg base N qual (defScope st) f cdv A outer s H E cm).nox (defBody st) t∧t { nx:=fun _ H'=>Q .non H',rt:=Q } (start N vs) H):FnOk P w K mg base CX0 (k + 1) f fd ps sp cm:=by
 obtain ⟨oc,od,kV,doc,pm,an,cdv,ct,osl,rfl,lk,hcd⟩:=F.ex
 refine fn_of lk hcd S len fun A outer s H vs Q E hr hsp=>?_
 obtain ⟨t,h,q⟩:=hbody cdv A outer s H vs Q E hr hsp
 exact ⟨t,h.nox,q⟩
theorem Fun.binds {x qual:Str}{st:Stmt}{f:Addr}{fd:FuncData}{ps:List Str} (F:Fun K x qual st f fd)
  (h:∀ (kV doc pm:Value) (an:Option Addr) (cdv ct:Value) (us:List Value),us.length=ps.length→bindArgs (PySem.W.fnOf x qual (defArgs st) (defBody st) (defScope st) .none kV doc pm an cdv ct) ⟨us,[]⟩=pure (ps.zip us)):Binds K fd ps []:=by
 obtain ⟨oc,od,kV,doc,pm,an,cdv,ct,osl,rfl,lk,hcd⟩:=F.ex
 exact .all (h kV doc pm an cdv ct)
theorem fun_mk {x qual:Str}{st:Stmt}{f:Addr}{oc:Value}{od an:Option Addr}{osl:Array (Option Value)}{kV doc pm cdv ct:Value} (l:K.lookup f=some ⟨oc,od,.func (PySem.W.fnOf x qual (defArgs st) (defBody st) (defScope st) .none kV doc pm an cdv ct),osl⟩)
  (c:PySem.W.codeIn K cdv qual=true) (k:PySem.W.keepIn K (.ref f)=true):Fun K x qual st f (PySem.W.fnOf x qual (defArgs st) (defBody st) (defScope st) .none kV doc pm an cdv ct):=⟨⟨oc,od,kV,doc,pm,an,cdv,ct,osl,rfl,l,c⟩,k⟩
end
theorem hu_of {A:Around}{k:Nat}{cm:Bool} (hr:Room k A cm):A.units + 1 < cLine:=Nat.lt_of_le_of_lt (Nat.add_le_add_left (by decide:1≤64) _) hr.units
theorem small1000 {n:Nat} (h:n≤1000):n < sizeLine:=Nat.lt_of_le_of_lt h (by decide)
theorem iteF {A B:Prop} (h:B):if false=true then A else B:=by
 rw [if_neg Bool.false_ne_true]
 exact h
theorem iteT {A B:Prop} (h:A):if true=true then A else B:=by
 rw [if_pos rfl]
 exact h
def Same (H H':Hp):Prop:=∀ b o,H b=some o→H' b=some o
theorem Same.refl (H:Hp):Same H H:=fun _ _ h=>h
theorem Same.trans {H H1 H2:Hp} (a:Same H H1) (b:Same H1 H2):Same H H2:=fun c o h=>b c o (a c o h)
theorem Same.free {H H':Hp} (e:Same H H') {l:Addr} (h:H' l=Option.none):H l=Option.none:=by
 cases q:H l with
 | none=>rfl
 | some o=>
  rw [e l o q] at h
  cases h
section
variable {X:Cx}
theorem call_lenD:CallR X (.builtin "len") (fun xs H Q=>∃ a kvs,xs=[V.ref a]∧H a=some (.dK kvs)∧Q (.int kvs.length) H):=by
 intro pins s σ H xs us Q I r h
 obtain ⟨a,kvs,rfl,ha,q⟩:=h
 obtain ⟨u,rfl,ru⟩:=vals1 r
 cases ru
 exact d_len I (.inl ha) fun t s' I'=>⟨.int kvs.length,H,I',⟨t,rfl⟩,q⟩
end
def ExcO (a:Addr) (cls:Value) (de:Option Addr):HO:=.ext fun h=>∃ oe,h.get? a=some oe∧oe.cls=cls∧(∀ dx,de=some dx→oe.dict=some dx∧PySem.W.notCls oe=true)
theorem excO_ok {P:Program}{w:World}{H:Hp}{h:Heap}{a:Addr}{cls:Value}{de:Option Addr}{oe:Obj} (e:h.get? a=some oe) (c:oe.cls=cls) (d:∀ dx,de=some dx→oe.dict=some dx∧PySem.W.notCls oe=true):ObjOk P w H h a (ExcO a cls de):=
 ⟨⟨oe,e,c,d⟩,⟨oe,e⟩,fun _ _ ⟨o,q,z⟩ k=>⟨o,k o q,z⟩⟩
theorem excO_get {P:Program}{w:World}{H:Hp}{h:Heap}{a:Addr}{cls:Value}{de:Option Addr} (x:HOk P w H h) (e:H a=some (ExcO a cls de)):∃ oe,h.get? a=some oe∧oe.cls=cls:=let ⟨oe,a,b,_⟩:=(x a _ e).1;⟨oe,a,b⟩
def ExcF (ob:Obj) (a:Addr) (cls:Value) (de:Option Addr):HO:=.frz ob (ExcO a cls de)
theorem excF_get {P:Program}{w:World}{H:Hp}{h:Heap}{a:Addr}{ob:Obj}{cls:Value}{de:Option Addr} (x:HOk P w H h) (e:H a=some (ExcF ob a cls de)):∃ oe,h.get? a=some oe∧oe.cls=cls:=let ⟨oe,a,b,_⟩:=(x a _ e).2.1;⟨oe,a,b⟩
def slotM (n:Nat) (t:Tok):Str→Option Value:=fun y=>if y="slot" then some (.int n t) else none
def XdO (dx:Addr) (n:Nat):HO:=.ext fun h=>∃ t,h.Ns1 dx (slotM n t)
theorem xdO_ok {P:Program}{w:World}{H:Hp}{h:Heap}{dx:Addr}{n:Nat}{t:Tok} (e:h.Ns1 dx (slotM n t)):ObjOk P w H h dx (XdO dx n):=
 ⟨⟨t,e⟩,let ⟨o,_,_,q,_⟩:=e;⟨o,q⟩,fun _ _ ⟨t,e⟩ k=>⟨t,e.at k⟩⟩
def fld2 (o:Obj):Option Value:=match o.data with
 | .fields vs=>vs[2]?
 | _=>none
def DK {α:Type}:Sem α→Prop
 | .pure _=>True
 | .raise _=>True
 | .unsupported _=>True
 | .finish _=>True
 | .rule _ k=>DK (k ())
 | .at _ k=>DK (k ())
 | .load _ _ k=>∀ o,DK (k o)
 | .update _ _ f k=>(∀ o,(f o).dict=o.dict∧fld2 (f o)=fld2 o)∧DK (k ())
 | .alloc _ k=>∀ a,DK (k a)
 | .stack k=>∀ l,DK (k l)
 | _=>False
def Kd (h h':Heap):Prop:=∀ (a:Nat) (o:Obj),h.objs[a]? = some o→∃ o',h'.objs[a]? = some o'∧o'.dict=o.dict∧fld2 o'=fld2 o
theorem Kd.refl (h:Heap):Kd h h:=fun a o e=>⟨o,e,rfl,rfl⟩
theorem Kd.trans {h h1 h2:Heap} (x:Kd h h1) (y:Kd h1 h2):Kd h h2:=fun a o e=>by
 obtain ⟨o1,e1,d1,f1⟩:=x a o e
 obtain ⟨o2,e2,d2,f2⟩:=y a o1 e1
 exact ⟨o2,e2,d2.trans d1,f2.trans f1⟩
theorem Kd.push (h:Heap) (o:Obj):Kd h (h.push o):=fun a u e=>by
 obtain ⟨objs,l⟩:=h
 refine ⟨u,?_,rfl,rfl⟩
 show (objs.push o)[a]? = some u
 have lt:a < objs.size:=(Array.getElem?_eq_some_iff.mp e).1
 rw [Array.getElem?_push_lt lt]
 rw [Array.getElem?_eq_getElem lt] at e
 exact e
theorem Kd.update (h:Heap) (b:Addr) {f:Obj→Obj} (hf:∀ o,(f o).dict=o.dict∧fld2 (f o)=fld2 o):Kd h (h.update b f):=fun a u e=>by
 obtain ⟨objs,l⟩:=h
 show ∃ o',(objs.modify b f)[a]? = some o'∧_
 have e:objs[a]? = some u:=e
 rw [Array.getElem?_modify,e]
 split
 ·exact ⟨f u,rfl,hf u⟩
 ·exact ⟨u,rfl,rfl,rfl⟩
theorem Kd.at {h h':Heap} (k:Kd h h') {a:Addr}{o o':Obj} (e:h.get? a=some o) (e':h'.get? a=some o'):o'.dict=o.dict∧fld2 o'=fld2 o:=by
 have raw:∀ {h:Heap}{o:Obj},h.get? a=some o→h.objs[a]? = some o:=fun {h o} e=>by
  unfold Heap.get? at e
  split at e
  ·cases e
  ·exact e
 obtain ⟨u,q,d⟩:=k a o (raw e)
 rw [raw e'] at q
 cases q
 exact d
section
variable {α β:Type}{M:Model}
theorem wp_dk {Γ:PySem.Ctx}{h0:Heap}:∀ (t:Sem α) {Q:α→Pos→Shared→Prop}{E:Value→Pos→Shared→Prop}{p:Pos}{s:Shared},DK t→Kd h0 s.heap→Sem.wp M Γ t Q E p s→Sem.wp M Γ t (fun a p' s'=>Q a p' s'∧Kd h0 s'.heap) (fun e p' s'=>E e p' s'∧Kd h0 s'.heap) p s:=by
 intro t
 induction t with
 | pure a=>intro Q E p s d k h;exact ⟨h,k⟩
 | raise e=>intro Q E p s d k h;exact ⟨h,k⟩
 | unsupported w=>intro Q E p s d k h;exact h
 | finish e=>intro Q E p s d k h;exact h
 | rule tag f ih=>intro Q E p s d k h;exact ih () d k h
 | «at» pos f ih=>intro Q E p s d k h;exact ih () d k h
 | load a part f ih=>intro Q E p s d k h;obtain ⟨o,e,h⟩:=h;exact ⟨o,e,ih o (d o) k h⟩
 | update a part f g ih=>intro Q E p s d k h;exact ⟨h.1,ih () d.2 (k.trans (Kd.update _ _ d.1)) h.2⟩
 | alloc o f ih=>intro Q E p s d k h;exact ih _ (d _) (k.trans (Kd.push _ _)) h
 | stack f ih=>intro Q E p s d k h;exact ih _ (d _) k h
 | loadIfAlive=>intro Q E p s d;exact d.elim
 | point=>intro Q E p s d;exact d.elim
 | register=>intro Q E p s d;exact d.elim
 | fresh=>intro Q E p s d;exact d.elim
 | ask=>intro Q E p s d;exact d.elim
 | choose=>intro Q E p s d;exact d.elim
 | os=>intro Q E p s d;exact d.elim
 | call=>intro Q E p s d;exact d.elim
 | handled=>intro Q E p s d;exact d.elim
 | newGen=>intro Q E p s d;exact d.elim
 | genState=>intro Q E p s d;exact d.elim
 | resume=>intro Q E p s d;exact d.elim
 | yield=>intro Q E p s d;exact d.elim
 | fork=>intro Q E p s d;exact d.elim
 | thread=>intro Q E p s d;exact d.elim
 | await=>intro Q E p s d;exact d.elim
theorem wpAny_dk {A:Around}{t:Sem α}{Q:α→Shared→Prop}{E:Value→Shared→Prop}{s:Shared} (d:DK t) (h:wpAny M A t Q E s):wpAny M A t (fun a s'=>Q a s'∧Kd s.heap s'.heap) (fun e s'=>E e s'∧Kd s.heap s'.heap) s:=
 fun Γ p hΓ=>wp_dk t d (Kd.refl _) (h Γ p hΓ)
theorem DK.bind {f:α→Sem β}:∀ {m:Sem α},DK m→(∀ a,DK (f a))→DK (m >>= f):=by
 intro m
 show DK m→_→DK (Sem.bind m f)
 induction m with
 | pure a=>intro d h;exact h a
 | raise e=>intro d h;exact d
 | unsupported w=>intro d h;exact d
 | finish e=>intro d h;exact d
 | rule tag g ih=>intro d h;exact ih () d h
 | «at» pos g ih=>intro d h;exact ih () d h
 | load a part g ih=>intro d h o;exact ih o (d o) h
 | update a part f g ih=>intro d h;exact ⟨d.1,ih () d.2 h⟩
 | alloc o g ih=>intro d h a;exact ih a (d a) h
 | stack g ih=>intro d h l;exact ih l (d l) h
 | loadIfAlive=>intro d;exact d.elim
 | point=>intro d;exact d.elim
 | register=>intro d;exact d.elim
 | fresh=>intro d;exact d.elim
 | ask=>intro d;exact d.elim
 | choose=>intro d;exact d.elim
 | os=>intro d;exact d.elim
 | call=>intro d;exact d.elim
 | handled=>intro d;exact d.elim
 | newGen=>intro d;exact d.elim
 | genState=>intro d;exact d.elim
 | resume=>intro d;exact d.elim
 | yield=>intro d;exact d.elim
 | fork=>intro d;exact d.elim
 | thread=>intro d;exact d.elim
 | await=>intro d;exact d.elim
end
theorem dk_load (a:Addr):DK (load a):=fun _=>trivial
theorem dk_fieldsOf (v:Value):DK (fieldsOf v):=by
 unfold fieldsOf
 split
 ·refine (dk_load _).bind fun o=>?_
  split <;> trivial
 ·trivial
theorem dk_field (v:Value) (i:Nat):DK (field v i):=by
 unfold field
 refine (dk_fieldsOf v).bind fun o=>?_
 split <;> trivial
theorem dk_setField (v:Value) (i:Nat) (x:Value) (hi:i≠2):DK (setField v i x):=by
 unfold setField
 split
 ·unfold updateField
  refine (dk_load _).bind fun o=>?_
  split
  ·split
   ·refine ⟨fun o=>?_,trivial⟩
    obtain ⟨c,d,dt,sl⟩:=o
    cases dt with
    | fields vs=>exact ⟨rfl,by show (vs.setIfInBounds i x)[2]? = vs[2]?;rw [Array.getElem?_setIfInBounds_ne hi]⟩
    | _=>exact ⟨rfl,rfl⟩
   ·trivial
  ·trivial
 ·trivial
theorem dk_setFlight (e:Value) (f:Option Addr):DK (setFlight e f):=by
 unfold setFlight
 refine (dk_field e 1).bind fun tb=>?_
 split
 ·exact dk_setField _ _ _ (by decide)
 ·trivial
theorem dk_behind (env:Env) (outer:List Env):DK (behindIsImport env outer):=by
 unfold behindIsImport
 split
 ·trivial
 ·split
  ·trivial
  ·exact (dk_field _ _).bind fun _=>trivial
theorem dk_under:DK underTheClaimsCaller:=fun _=>trivial
theorem dk_kept (env:Env) (i:Bool) (l:List Env):DK (keptBack env i l):=by
 unfold keptBack
 split
 ·split
  ·trivial
  ·exact dk_under.bind fun _=>trivial
 ·trivial
theorem dk_ready:∀ l:List Env,DK (readyFrames l)
 | []=>trivial
 | env::outer=>by
  unfold readyFrames
  split
  ·refine (dk_load _).bind fun o=>?_
   split
   ·trivial
   ·refine (dk_behind _ _).bind fun _=>(dk_kept _ _ _).bind fun _=>?_
    exact ⟨fun _=>⟨rfl,rfl⟩,dk_ready outer⟩
  ·trivial
theorem dk_frameOf (env:Env):DK (PySem.frameOf env):=by
 unfold PySem.frameOf
 refine DK.bind (fun _=>trivial) fun l=>?_
 refine DK.bind ?_ fun r=>?_
 ·unfold frameObject
  split
  ·trivial
  ·exact (dk_ready _).bind fun _=>trivial
 ·split <;> trivial
theorem dk_place (f:Addr) (b:Bool):DK (entryPlaceOf f b):=by
 unfold entryPlaceOf
 refine DK.bind (fun _=>trivial) fun l=>?_
 split <;> trivial
theorem dk_entry (a b c d e:Value) (pl:List Value):DK (EntryCells.newEntry a b c d e pl):=by
 unfold EntryCells.newEntry newFields newObj
 dsimp only
 split <;> split <;> first | trivial | exact fun _=>trivial
theorem dk_note (e:Value) (env:Env):DK (noteFrame e env):=by
 unfold noteFrame
 split
 ·refine (dk_field e 1).bind fun head=>?_
  have rest:∀ f:Addr,DK (do setField e 1 (← EntryCells.newEntry head (← PySem.frameOf env) .none (rawInt f) .none (← entryPlaceOf f (head != .none)))):=fun f=>(dk_frameOf env).bind fun _=>(dk_place _ _).bind fun _=>(dk_entry _ _ _ _ _ _).bind fun _=>dk_setField _ _ _ (by decide)
  split
  ·refine (dk_field head 3).bind fun x=>?_
   split
   ·trivial
   ·exact (dk_setField _ _ _ (by decide)).bind fun _=>rest _
  ·exact rest _
 ·trivial
theorem dk_leaving (env:Env) (e:Value):DK (leaving env e):=(dk_note e env).bind fun _=>dk_setFlight e none
section
variable {P:Program}{w:World}{H:Hp}{h h':Heap}
theorem HOk.tracked (x:HOk P w H h) (k:∀ b u o,H b=some o→h.get? b=some u→h'.get? b=some u):HOk P w H h':=fun a o e=>
 (x a o e).stay (fun b u hb q=>hb.elim (fun z=>k b u o (by rw [z];exact e) q) fun z=>k b u _ z q) (fun _ z=>z) fun _ _ z=>z
theorem HOk.alive (x:HOk P w H h) {a:Addr}{o:HO} (e:H a=some o):∃ u,h.get? a=some u:=by
 have q:=x a o e
 cases o with
 | lst xs=>obtain ⟨_,_,_,_,e⟩:=q;exact ⟨_,e⟩
 | tup xs=>obtain ⟨_,_,_,ob,e,_⟩:=q;exact ⟨_,e⟩
 | dK kvs=>obtain ⟨_,_,_,_,ob,_,_,e,_⟩:=q;exact ⟨_,e⟩
 | dT kvs=>obtain ⟨_,_,_,_,ob,_,_,e,_⟩:=q;exact ⟨_,e⟩
 | set S n=>obtain ⟨ob,_,_,_,e,_⟩:=q;exact ⟨_,e⟩
 | ins C dx fs=>obtain ⟨_,_,_,e,_⟩:=q;exact ⟨_,e⟩
 | own y=>exact q
 | xd fs=>obtain ⟨_,⟨_,_,_,e,_⟩,_⟩:=q;exact ⟨_,e⟩
 | rng lo hi=>obtain ⟨_,_,_,e⟩:=q;exact ⟨_,e⟩
 | frz ob u=>exact ⟨_,q.1⟩
 | tbl ps=>exact ⟨_,(show h.get? a=some _ from q)⟩
 | met f y=>exact ⟨_,(show h.get? a=some _ from q)⟩
 | ext φ=>exact q.2.1
end
def PayD (h:Heap) (H:Hp) (nw:Addr→Prop) (e:Addr):Option Addr→Prop
 | none=>True
 | some n=>∃ oe dx t,h.get? e=some oe∧oe.dict=some dx∧h.Ns1 dx (slotM n t)∧H dx=none∧nw dx
def PayOk (h:Heap) (H:Hp) (nw:Addr→Prop) (e:Addr) (pay:Option Addr):Prop:=(∃ oe,h.get? e=some oe∧fld2 oe=some .none)∧PayD h H nw e pay
theorem PayOk.keep {h h':Heap}{H:Hp}{nw nw':Addr→Prop}{e:Addr}{pay:Option Addr} (x:PayOk h H nw e pay) (kd:Kd h h') (he:∃ o,h'.get? e=some o) (st:∀ b o,h.get? b=some o→(∀ vs,o.data≠.fields vs)→∃ sl,h'.get? b=some { o with slots:=sl }) (hn:∀ a,nw a→nw' a):PayOk h' H nw' e pay:=by
 obtain ⟨⟨o0,g1,g2⟩,x⟩:=x
 obtain ⟨oe',he⟩:=he
 refine ⟨⟨oe',he,(kd.at g1 he).2.trans g2⟩,?_⟩
 cases pay with
 | none=>trivial
 | some n=>
  obtain ⟨oe,dx,t,h1,h2,⟨o,es,ep,q1,q2,q3⟩,h4,h5⟩:=x
  obtain ⟨sl,q4⟩:=st dx o q1 fun vs z=>by rw [q2] at z;cases z
  exact ⟨oe',dx,t,he,(kd.at h1 he).1.trans h2,⟨_,es,ep,q4,q2,q3⟩,h4,hn dx h5⟩
theorem PayOk.imp {h:Heap}{H:Hp}{nw nw':Addr→Prop}{e:Addr}{pay:Option Addr} (x:PayOk h H nw e pay) (hn:∀ a,nw a→nw' a):PayOk h H nw' e pay:=by
 obtain ⟨g,x⟩:=x
 refine ⟨g,?_⟩
 cases pay with
 | none=>trivial
 | some n=>
  obtain ⟨oe,dx,t,h1,h2,h3,h4,h5⟩:=x
  exact ⟨oe,dx,t,h1,h2,h3,h4,hn dx h5⟩
structure FlyT (h:Heap) (H:Hp) (h0:Heap) (e:Addr) (cls:Value) (pay:Option Addr):Prop where
 py:PayOk h H (fun a=>h0.get? a=none) e pay
 nw:h0.get? e=none
 fr:H e=none
 ob:∃ oe vs a0 T oT ts,h.get? e=some oe∧oe.cls=cls∧vs[0]? = some a0∧oe.data=.fields vs∧vs[1]? = some (.ref T)∧T≠e∧h0.get? T=none∧H T=none∧h.get? T=some oT∧oT.data=.fields ts∧ts[3]? = some .none
structure FlyN (h:Heap) (H:Hp) (h0:Heap) (e:Addr) (cls:Value) (pay:Option Addr):Prop where
 py:PayOk h H (fun a=>h0.get? a=none) e pay
 nw:h0.get? e=none
 fr:H e=none
 ob:∃ oe vs a0,h.get? e=some oe∧oe.cls=cls∧vs[0]? = some a0∧oe.data=.fields vs∧vs[1]? = some .none
def Fly (h:Heap) (H:Hp) (h0:Heap) (e:Addr) (cls:Value) (pay:Option Addr):Prop:=FlyN h H h0 e cls pay∨FlyT h H h0 e cls pay
def CXE (P:Program) (w:World):CXT:=fun outer H s E e s'=>∃ a H' cls pay,e=.ref a∧s'.os=s.os∧AllBare s'.gens∧Un (frs outer) [] H H' s.heap s'.heap∧HOk P w H' s'.heap∧FlyT s'.heap H' s.heap a cls pay∧E cls pay H'
theorem Un.dead {fs:List Addr}{H H':Hp}{h h':Heap} (u:Un fs [] H H' h h') {a:Addr} (n:h'.get? a=none):h.get? a=none:=by
 cases q:h.get? a with
 | none=>rfl
 | some o=>
  obtain ⟨o',e⟩:=u.there a o q (by simp)
  rw [n] at e;cases e
theorem leave_exc {P:Program}{w:World}{K:PySem.W.Frag}{mg:Str→Option Value}{base:Heap}{N:List Str}{qual:Str}{scope:Scope}{f:Addr}{cd:Value}{A:Around}{outer:List Env}{s0 s:Shared}{H0 H:Hp}{E:XK}{pins:List (Addr×Obj)}{σ:St}{e:Addr}{cls:Value}{pay:Option Addr}
  (I:Inv (cxOf (CXE P w) P w K mg base N qual scope f cd A outer s0 H0 E) pins σ H s) (fl:Fly s.heap H s0.heap e cls pay) (hE:E cls pay H) :
  (cxOf (CXE P w) P w K mg base N qual scope f cd A outer s0 H0 E).xe (.ref e) s:=by
 generalize hX:cxOf (CXE P w) P w K mg base N qual scope f cd A outer s0 H0 E=X at I ⊢
 have hxe:X.xe=fun e s'=>wpAny (model P w) X.A (leaving X.env e) (fun _ s''=>CXE P w outer H0 s0 E e s'') (fun e' s''=>CXE P w outer H0 s0 E e' s'') s':=by rw [← hX];rfl
 have hst:X.stack=X.env::outer:=by rw [← hX];rfl
 have hfr:X.A.frames=some (X.env::outer):=by rw [← hst];exact I.ok.frames
 have hf:X.env.frame=some X.env.locals:=by rw [← hX];rfl
 have hl:=I.stack
 rw [hst] at hl
 have u:Un (frs outer) [] H0 H s0.heap s.heap:=by
  have:=I.base
  rw [← hX] at this
  exact this
 have hos:s.os=s0.os:=by
  have:=I.os
  rw [← hX] at this
  exact this
 have hok:HOk P w H s.heap:=by
  have:=I.hok
  rw [← hX] at this
  exact this
 have free:=I.stkFree
 rw [hst] at free
 have lf:∀ b,b∈frs (X.env::outer)→(∃ o,s.heap.get? b=some o∧∀ vs,o.data≠.fields vs):=fun b m=>(hl.mem m).2
 have fnw:s0.heap.get? e=none:=fl.elim (·.nw) (·.nw)
 have ffr:H e=none:=fl.elim (·.fr) (·.fr)
 have fpy:PayOk s.heap H (fun a=>s0.heap.get? a=none) e pay:=fl.elim (·.py) (·.py)
 rw [hxe]
 dsimp only
 have fin:∀ (xs:List Addr) (h':Heap),(∀ x∈xs,s0.heap.get? x=none∧H x=none)→(∃ a0,Heap.LeftW (PySem.W.hideAll s.heap (frs (X.env::outer)++xs)) (X.env::outer) e cls a0 s.heap h')→e∈xs→Kd s.heap h'→CXE P w outer H0 s0 E (.ref e) { s with heap:=h' }:=fun xs h' hxs hL mex kd=>by
  obtain ⟨a0,k1,k2,k3,k4⟩:=hL
  have stay:∀ b o,s.heap.get? b=some o→b∉frs (X.env::outer)→b∉xs→h'.get? b=some o:=fun b o q n1 n2=>k1 b o (PySem.W.hideAll_get _ q fun m=>(List.mem_append.mp m).elim n1 n2)
  have nx:∀ b o,s0.heap.get? b=some o→b∉xs:=fun b o q m=>by rw [(hxs b m).1] at q;cases q
  have nloc:∀ b o,s0.heap.get? b=some o→b≠X.env.locals:=fun b o q z=>by
   have h1:=I.ok.above
   have h2:X.s₀=s0:=by rw [← hX];rfl
   rw [h2,← z] at h1
   exact absurd (Heap.lt_size q) (Nat.not_lt.mpr h1)
  have nfr:∀ b o,s0.heap.get? b=some o→b∉frs outer→b∉frs (X.env::outer):=fun b o q n m=>by
   have m:b∈(X.env::outer).filterMap (·.frame):=m
   rw [List.filterMap_cons,hf] at m
   exact (List.mem_cons.mp m).elim (nloc b o q) n
  have sub:∀ b,b∈frs outer→b∈frs (X.env::outer):=fun b m=>by
   show b∈(X.env::outer).filterMap (·.frame)
   rw [List.filterMap_cons,hf]
   exact List.mem_cons_of_mem _ m
  refine ⟨e,H,cls,pay,rfl,hos,I.bare,⟨fun b o q n nf _=>?_,fun b o q n m _=>?_,u.free,fun b o q _=>?_,u.tups,u.frzs,u.tbls⟩,hok.tracked fun b v o hb q=>?_,⟨fpy.keep kd (by obtain ⟨oe,vs,T,oT,ts,r1,_⟩:=k3;exact ⟨oe,r1⟩) k4 fun _ z=>z,fnw,ffr,?_⟩,hE⟩
  ·exact stay b o (u.keep b o q n nf (by simp)) (nfr b o q nf) (nx b o q)
  ·obtain ⟨sl,q2⟩:=u.slot b o q n m (by simp)
   obtain ⟨o2,q3,q4⟩:=lf b (sub b m)
   rw [q2] at q3
   cases q3
   obtain ⟨sl',q5⟩:=k4 b _ q2 q4
   exact ⟨sl',q5⟩
  ·obtain ⟨o',q2⟩:=u.there b o q (by simp)
   by_cases m:b∈frs (X.env::outer)
   ·obtain ⟨o2,q3,q4⟩:=lf b m
    rw [q2] at q3
    cases q3
    obtain ⟨sl',q5⟩:=k4 b _ q2 q4
    exact ⟨_,q5⟩
   ·exact ⟨o',stay b o' q2 m (nx b o q)⟩
  ·refine stay b v q (fun m=>?_) fun m=>?_
   ·rw [free b m] at hb;cases hb
   ·rw [(hxs b m).2] at hb;cases hb
  ·obtain ⟨oe,vs,T,oT,ts,r1,⟨r2,r0⟩,r3,r4,r5,r6,r7,r8,r9⟩:=k3
   refine ⟨oe,vs,a0,T,oT,ts,r1,r2,r0,r3,r4,r6,?_,?_,r7,r8,r9⟩
   ·cases q:s0.heap.get? T with
    | none=>rfl
    | some o=>
     exfalso
     obtain ⟨o',q2⟩:=u.there T o q (by simp)
     by_cases m:T∈frs (X.env::outer)
     ·obtain ⟨o2,q3,q4⟩:=(k2.mem m).2
      rw [r7] at q3
      cases q3
      exact q4 ts r8
     ·have:=PySem.W.hideAll_get (frs (X.env::outer)++xs) q2 fun z=>(List.mem_append.mp z).elim m (nx T o q)
      rw [r5] at this;cases this
   ·cases q:H T with
    | none=>rfl
    | some o=>
     exfalso
     obtain ⟨v,q2⟩:=hok.alive q
     have:=PySem.W.hideAll_get (frs (X.env::outer)++xs) q2 fun z=>(List.mem_append.mp z).elim (fun m=>by rw [free T m] at q;cases q) fun m=>by rw [(hxs T m).2] at q;cases q
     rw [r5] at this;cases this
 have hide:∀ xs:List Addr,s.heap.FunFrames (PySem.W.hideAll s.heap (frs (X.env::outer)++xs)) (X.env::outer):=fun xs=>PySem.W.funFrames_hide hl fun env' he a ha=>List.mem_append_left _ (List.mem_filterMap.mpr ⟨env',he,ha⟩)
 rcases fl with fl | fl
 ·obtain ⟨oe,vs,a0,h1,h2,h0,h3,h5⟩:=fl.ob
  refine wpAny_mono (wpAny_dk (dk_leaving _ _) (wpAny_leaving_firstW (Q:=fun _ s''=>∃ h',s''={ s with heap:=h' }∧Heap.LeftW (PySem.W.hideAll s.heap (frs (X.env::outer)++[e])) (X.env::outer) e oe.cls a0 s.heap h') (E:=fun _ _=>False) (base:=PySem.W.hideAll s.heap (frs (X.env::outer)++[e])) hfr (hide _) hf h1 (fun b o q=>PySem.W.of_hideAll _ q) (PySem.W.hideAll_none _ (by simp)) h3 h5 h0 fun h' hL=>⟨h',rfl,hL⟩)) (fun _ s'' ⟨⟨h',eh,hL⟩,kd⟩=>?_) fun _ _ z=>z.1.elim
  subst eh
  rw [h2] at hL
  exact fin [e] h' (fun x m=>by rw [List.mem_singleton.mp m];exact ⟨fnw,ffr⟩) ⟨a0,hL⟩ (by simp) kd
 ·obtain ⟨oe,vs,a0,T,oT,ts,h1,h2,h0,h3,t1,t2,t3,t4,t5,t6,t7⟩:=fl.ob
  refine wpAny_mono (wpAny_dk (dk_leaving _ _) (wpAny_leaving_nextW (Q:=fun _ s''=>∃ h',s''={ s with heap:=h' }∧Heap.LeftW (PySem.W.hideAll s.heap (frs (X.env::outer)++[e,T])) (X.env::outer) e cls a0 s.heap h') (E:=fun _ _=>False) (base:=PySem.W.hideAll s.heap (frs (X.env::outer)++[e,T])) (cls:=cls) (a0:=a0) hfr (hide _) hf ⟨oe,vs,T,oT,ts,h1,⟨h2,h0⟩,h3,t1,PySem.W.hideAll_none _ (by simp),t2,t5,t6,t7⟩ (fun b o q=>PySem.W.of_hideAll _ q) (PySem.W.hideAll_none _ (by simp)) fun h' hL=>⟨h',rfl,hL⟩)) (fun _ s'' ⟨⟨h',eh,hL⟩,kd⟩=>?_) fun _ _ z=>z.1.elim
  subst eh
  refine fin [e,T] h' (fun x m=>?_) ⟨a0,hL⟩ (by simp) kd
  rcases List.mem_cons.mp m with z | z
  ·rw [z];exact ⟨fnw,ffr⟩
  ·rw [List.mem_singleton.mp z];exact ⟨t3,t4⟩
abbrev XS:=Value→Option Addr→St→Hp→Prop
def ThrowsN (X:Cx) (E:XS):Prop:=∀ (pins:List (Addr×Obj)) (σ:St) (H:Hp) (s:Shared) (e:Addr) (cls:Value) (pay:Option Addr),Inv X pins σ H s→FlyN s.heap H X.s₀.heap e cls pay→E cls pay σ H→X.xe (.ref e) s
theorem throwsN_def {P:Program}{w:World}{K:PySem.W.Frag}{mg:Str→Option Value}{base:Heap}{N:List Str}{qual:Str}{scope:Scope}{f:Addr}{cd:Value}{A:Around}{outer:List Env}{s0:Shared}{H0:Hp}{E:XK} :
  ThrowsN (cxOf (CXE P w) P w K mg base N qual scope f cd A outer s0 H0 E) (fun cls pay _ H=>E cls pay H):=fun pins σ H s e cls pay I fl hE=>leave_exc I (.inl fl) hE
structure ExcCls (K:PySem.W.Frag) (C:Addr):Prop where
 ex:∃ B newId initId bmB bm N nm qn bs hdct sn sub ab col dd k0 k1 k2 k3 k5,ExcBaseFacts B newId initId bmB∧K.lookup C=some (excClassObj nm qn C N bs bm hdct sn sub ab col dd k0 k1 k2 k3 k5 newId) ∧
  PySem.W.nsOkIn K N=true∧PySem.W.nsIn K N "__init__"=some none∧PySem.W.tailIn K bmB bm=true
def tRaise (C:Addr) (E:XS) (t:TA):TS:=fun _ σ H=>t σ H fun vs H1=>vs.length≤sizeLine∧E (.ref C) none σ H1
section
variable {X:Cx}{x:Str}{C:Addr}{np cpos pos:Pos}{e:Expr}{es:List Expr}{t:TA}{E:XS}
theorem ps_raise (hc:X.calm=true) (hx:X.ex=[]) (th:ThrowsN X E) (cl:ExcCls X.K C) (hg:Gl X x) (hm:X.mg x=some (.ref C)) (ha:PA X (e::es) t) (hdb:(x == ("__debug__":Str))=false:=by decide)
  (he:starEach (e::es) X.env=(false,eval e X.env)::starEach es X.env:=by rfl) (hpl:(backTo cpos (starEach es X.env)).any (·.1)=false:=by rfl) :
  PS X (.Raise (some (.Call (.Name x np) (e::es) [] cpos)) none pos) (tRaise C E t):=by
 intro pins s σ H D I h
 obtain ⟨B,newId,initId,bmB,bm,N,nm,qn,bs,hdct,sn,sub,ab,col,dd,k0,k1,k2,k3,k5,FB,hl,n1,n2,n3⟩:=cl.ex
 have hh:X.A.handled=none:=I.ok.hd hc
 have KI:=I.ok.mod.kin
 have hC:=KI _ _ hl
 have hN:=Heap.Ns.of_isNs (PySem.W.isNs_of_in KI n1)
 have hni:=PySem.W.nsMap_none_of_in KI n1 n2
 have T:=PySem.W.tail_of_in KI n3
 refine wpAny_Raise_call_subT (C:=C) (nm:=nm) (q:=qn) (N:=N) (bs:=bs) (bm:=bm) (hdct:=hdct) (sn:=sn) (sub:=sub) (ab:=ab) (col:=col) (dd:=dd) (k0:=k0) (k1:=k1) (k2:=k2) (k3:=k3) (k5:=k5)
  FB (T.hasType FB.hasBase) hh (by rw [he];show (false||(backTo cpos (starEach es X.env)).any (·.1))=false;rw [hpl];rfl) hni (ld_glob I hg hm ⟨rfl,?_⟩ hdb)
 have key:=ha cpos pins s σ H _ I h
 rw [he] at key ⊢
 refine Calls.evalArgs_plain (wpAny_mono key (fun us s1 hq=>?_) fun _ _ y=>y)
 obtain ⟨vs,H1,I1,r,hz,q1⟩:=hq
 refine ⟨rfl,by rw [← r.length];exact hz,I1.bk _ _ hC,hN.keeps I1.bk,T.keeps I1.bk,fun h' e' hm'=>?_⟩
 have I2:Inv X pins σ H1 { s1 with heap:=h' }:=I1.kept (t':=s1.toks) hm'.keeps
 refine th pins σ H1 _ e' (.ref C) none I2 ⟨⟨?_,trivial⟩,?_,?_,?_⟩ q1
 ·obtain ⟨tp,z,_,_⟩:=hm'.there
  exact ⟨_,z,rfl⟩
 ·have u:=I1.base
  rw [hx] at u
  exact u.dead hm'.new
 ·cases qq:H1 e' with
  | none=>rfl
  | some o=>
   obtain ⟨v,z⟩:=I1.hok.alive qq
   rw [hm'.new] at z;cases z
 ·obtain ⟨tp,z,_,_⟩:=hm'.there
  exact ⟨_,_,_,z,rfl,rfl,rfl,rfl⟩
end
section
variable {X:Cx}{pins:List (Addr×Obj)}{σ:St}{H:Hp}{s:Shared}{h':Heap}
theorem Inv.slots (I:Inv X pins σ H s) (xs:List Addr) (stay:∀ b o,s.heap.get? b=some o→b∉frs X.stack→b∉xs→h'.get? b=some o) (slot:∀ b o,s.heap.get? b=some o→b∈frs X.stack→∃ sl,h'.get? b=some { o with slots:=sl })
  (hxs:∀ x∈xs,X.s₀.heap.get? x=none∧H x=none∧x≠X.env.locals∧(∀ y c,X.env.cells.lookup y=some c→c≠x)∧∀ p∈X.pn++pins,p.1≠x):Inv X pins σ H { s with heap:=h' }:=by
 have any:∀ b o,s.heap.get? b=some o→b∉xs→∃ sl,h'.get? b=some { o with slots:=sl }:=fun b o q n=>by
  by_cases m:b∈frs X.stack
  ·exact slot b o q m
  ·exact ⟨o.slots,stay b o q m n⟩
 have out:∀ b,b≠X.env.locals→b∉X.fs→b∉frs X.stack:=fun b n1 n2 m=>(List.mem_cons.mp (I.stkSub b m)).elim n1 n2
 have neL:∀ b o,X.s₀.heap.get? b=some o→b≠X.env.locals:=fun b o e=>Nat.ne_of_lt (Nat.lt_of_lt_of_le (Heap.lt_size e) I.ok.above)
 have neX:∀ b o,X.s₀.heap.get? b=some o→b∉xs:=fun b o e m=>by rw [(hxs b m).1] at e;cases e
 have cellK:∀ x c,X.env.cells.lookup x=some c→∀ v,s.heap.IsCell c v→h'.IsCell c v:=fun x c e v ⟨o,ho,hd⟩=>by
  obtain ⟨sl,q⟩:=any c o ho fun z=>(hxs c z).2.2.2.1 x c e rfl
  exact ⟨_,q,hd⟩
 refine ⟨I.ok,I.os,I.bare,⟨fun b o e n hb hx=>?_,fun b o e n hb hx=>?_,I.base.free,fun b o e hx=>?_,I.base.tups,I.base.frzs,I.base.tbls⟩,?_,fun x c e=>?_,I.free,I.freeC,fun p hp=>?_,I.hok.tracked fun b v o hb q=>?_,I.len,I.hq⟩
 ·exact stay b o (I.base.keep b o e n hb hx) (out b (neL b o e) hb) (neX b o e)
 ·obtain ⟨sl,e1⟩:=I.base.slot b o e n hb hx
  obtain ⟨sl',e2⟩:=any b _ e1 (neX b o e)
  exact ⟨sl',e2⟩
 ·obtain ⟨o',e1⟩:=I.base.there b o e hx
  obtain ⟨sl,e2⟩:=any b o' e1 (neX b o e)
  exact ⟨_,e2⟩
 ·obtain ⟨m,⟨o,es,ep,ho,r⟩,hl⟩:=I.loc
  obtain ⟨sl,hL⟩:=any _ o ho fun z=>(hxs _ z).2.2.1 rfl
  refine ⟨m,⟨_,es,ep,hL,r⟩,fun i x v e1 e2 e3=>?_⟩
  obtain ⟨u,rr,l⟩:=hl i x v e1 e2 e3
  refine ⟨u,rr,?_⟩
  rcases l with l | ⟨k,c,e,z⟩
  ·exact .inl l
  ·exact .inr ⟨k,c,e,cellK x c e _ z⟩
 ·obtain ⟨v,z⟩:=I.cell x c e
  exact ⟨v,cellK x c e v z⟩
 ·obtain ⟨e,n,ne,nf,d⟩:=I.pin p hp
  exact ⟨stay p.1 p.2 e (out p.1 ne nf) fun z=>(hxs p.1 z).2.2.2.2 p hp rfl,n,ne,nf,d⟩
 ·refine stay b v q (fun m=>?_) fun m=>?_
  ·rw [I.stkFree b m] at hb;cases hb
  ·rw [(hxs b m).2.1] at hb;cases hb
theorem Inv.apart (I:Inv X pins σ H s) {x:Addr} (hx:X.ex=[]) (n:s.heap.get? x=none):X.s₀.heap.get? x=none∧x≠X.env.locals∧(∀ y c,X.env.cells.lookup y=some c→c≠x)∧∀ p∈X.pn++pins,p.1≠x:=by
 refine ⟨?_,fun z=>?_,fun y c e z=>?_,fun p hp z=>?_⟩
 ·have u:=I.base
  rw [hx] at u
  exact u.dead n
 ·obtain ⟨m,⟨o,_,_,ho,_⟩,_⟩:=I.loc
  rw [← z,n] at ho;cases ho
 ·obtain ⟨v,o,ho,_⟩:=I.cell y c e
  rw [z,n] at ho;cases ho
 ·have:=(I.pin p hp).1
  rw [z,n] at this;cases this
abbrev Apart (X:Cx) (pins:List (Addr×Obj)) (a:Addr):Prop:=X.s₀.heap.get? a=none∧a≠X.env.locals∧(∀ y c,X.env.cells.lookup y=some c→c≠a)∧∀ p∈X.pn++pins,p.1≠a
structure Landed (X:Cx) (pins:List (Addr×Obj)) (σ:St) (H:Hp) (e:Addr) (cls:Value) (pay:Option Addr) (s:Shared):Prop where
 py:PayOk s.heap H (Apart X pins) e pay
 inv:Inv X pins σ H s
 fr:H e=none
 ap:X.s₀.heap.get? e=none∧e≠X.env.locals∧(∀ y c,X.env.cells.lookup y=some c→c≠e)∧∀ p∈X.pn++pins,p.1≠e
 ob:∃ oe vs a0 T oT ts,s.heap.get? e=some oe∧oe.cls=cls∧vs[0]? = some a0∧oe.data=.fields vs∧vs[1]? = some (.ref T)∧T≠e∧H T=none∧(X.s₀.heap.get? T=none∧T≠X.env.locals∧(∀ y c,X.env.cells.lookup y=some c→c≠T)∧∀ p∈X.pn++pins,p.1≠T)∧s.heap.get? T=some oT∧oT.data=.fields ts∧ts[3]? = some .none
end
section
variable {X:Cx}{pins:List (Addr×Obj)}{σ:St}{H:Hp}{s:Shared}{e:Addr}{cls:Value}{pay:Option Addr}{M:Model}{A':Around}{E':Value→Shared→Prop}
theorem land {xs:List Addr}{h':Heap}{a0:Value} (I:Inv X pins σ H s) (hx:X.ex=[]) (fr:H e=none) (ap:X.s₀.heap.get? e=none∧e≠X.env.locals∧(∀ y c,X.env.cells.lookup y=some c→c≠e)∧∀ p∈X.pn++pins,p.1≠e) (mex:e∈xs)
  (hxs:∀ x∈xs,H x=none∧X.s₀.heap.get? x=none∧x≠X.env.locals∧(∀ y c,X.env.cells.lookup y=some c→c≠x)∧∀ p∈X.pn++pins,p.1≠x)
  (fl:Heap.FlyingW (PySem.W.hideAll s.heap (frs X.stack++xs)) X.stack e cls a0 h') (up:s.heap.UpToSlots h') (py:PayOk s.heap H (Apart X pins) e pay) (kd:Kd s.heap h'):Landed X pins σ H e cls pay { s with heap:=h' }:=by
 obtain ⟨k1,k2,k3,oe,vs,T,oT,ts,r1,⟨r2,r0⟩,r3,r4,r5,r6,r7,r8,r9⟩:=fl
 have stay:∀ b o,s.heap.get? b=some o→b∉frs X.stack→b∉xs→h'.get? b=some o:=fun b o q n1 n2=>k1 b o (PySem.W.hideAll_get _ q fun m=>(List.mem_append.mp m).elim n1 n2)
 have slot:∀ b o,s.heap.get? b=some o→b∈frs X.stack→∃ sl,h'.get? b=some { o with slots:=sl }:=fun b o q m=>by
  obtain ⟨_,o2,q3,q4⟩:=I.stack.mem m
  rw [q] at q3
  cases q3
  exact up b o q q4
 have J:Inv X pins σ H { s with heap:=h' }:=I.slots xs stay slot fun x m=>let ⟨a,b,c⟩:=hxs x m;⟨b,a,c⟩
 have tH:H T=none:=by
  cases q:H T with
  | none=>rfl
  | some o=>
   exfalso
   obtain ⟨v,q2⟩:=I.hok.alive q
   have:=PySem.W.hideAll_get (frs X.stack++xs) q2 fun z=>(List.mem_append.mp z).elim (fun m=>by rw [I.stkFree T m] at q;cases q) fun m=>by rw [(hxs T m).1] at q;cases q
   rw [r5] at this;cases this
 have tF:T∉frs X.stack:=fun m=>by
  obtain ⟨_,o2,q3,q4⟩:=k3.mem m
  rw [r7] at q3
  cases q3
  exact q4 ts r8
 have tA:X.s₀.heap.get? T=none∧T≠X.env.locals∧(∀ y c,X.env.cells.lookup y=some c→c≠T)∧∀ p∈X.pn++pins,p.1≠T:=by
  by_cases m:T∈xs
  ·exact (hxs T m).2
  ·have dead:s.heap.get? T=none:=by
    cases q:s.heap.get? T with
    | none=>rfl
    | some o=>
     have:=PySem.W.hideAll_get (frs X.stack++xs) q fun z=>(List.mem_append.mp z).elim tF m
     rw [r5] at this;cases this
   refine ⟨?_,fun z=>?_,fun y c e z=>?_,fun p hp z=>?_⟩
   ·cases q:X.s₀.heap.get? T with
    | none=>rfl
    | some o=>
     exfalso
     obtain ⟨o',q2⟩:=I.base.there T o q (by rw [hx];simp)
     rw [dead] at q2;cases q2
   ·obtain ⟨m,⟨o,_,_,ho,_⟩,_⟩:=I.loc
    rw [← z,dead] at ho;cases ho
   ·obtain ⟨v,o,ho,_⟩:=I.cell y c e
    rw [z,dead] at ho;cases ho
   ·have:=(I.pin p hp).1
    rw [z,dead] at this;cases this
 exact ⟨py.keep kd ⟨oe,r1⟩ up fun _ z=>z,J,fr,ap,oe,vs,a0,T,oT,ts,r1,r2,r0,r3,r4,r6,tH,tA,r7,r8,r9⟩
theorem Landed.looks {R:Shared→Prop} (L:Landed X pins σ H e cls pay s) (hx:X.ex=[]) (hst:X.stack=X.env::X.outer) (hf:X.env.frame=some X.env.locals) (k:∀ s3,Landed X pins σ H e cls pay s3→R s3) :
  wpAny M X.A (noteFrame (.ref e) X.env) (fun _ s2=>wpAny M X.A (setFlight (.ref e) none) (fun _ s3=>R s3) E' s2) E' s:=by
 obtain ⟨oe,vs,a0,T,oT,ts,h1,h2,h0,h3,t1,t2,tH,tA,t5,t6,t7⟩:=L.ob
 have I:=L.inv
 have hfr:X.A.frames=some (X.env::X.outer):=by rw [← hst];exact I.ok.frames
 have F:Heap.FlyingW (PySem.W.hideAll s.heap (frs X.stack++[e,T])) (X.env::X.outer) e cls a0 s.heap:=by
  rw [← hst]
  exact ⟨fun b o q=>PySem.W.of_hideAll _ q,PySem.W.hideAll_none _ (by simp),PySem.W.funFrames_hide I.stack fun env' he a ha=>List.mem_append_left _ (List.mem_filterMap.mpr ⟨env',he,ha⟩),oe,vs,T,oT,ts,h1,⟨h2,h0⟩,h3,t1,PySem.W.hideAll_none _ (by simp),t2,t5,t6,t7⟩
 refine wpAny_mono (wpAny_dk (dk_note _ _) (wpAny_looks_onW (Q:=fun _ s4=>∃ h4,s4={ s with heap:=h4 }∧Heap.HeldW (PySem.W.hideAll s.heap (frs X.stack++[e,T])) (X.env::X.outer) e cls a0 X.env.locals h4∧s.heap.UpToSlots h4) (E:=fun _ _=>False) hfr hf F fun h4 held up4=>⟨h4,rfl,held,up4⟩)) (fun _ s4 ⟨⟨h4,e4,held,up4⟩,kd4⟩=>?_) fun _ _ z=>z.1.elim
 subst e4
 refine wpAny_mono (wpAny_dk (dk_setFlight _ _) (wpAny_landsW (s:={ s with heap:=h4 }) (Q:=fun _ s5=>∃ h5,s5={ s with heap:=h5 }∧Heap.FlyingW (PySem.W.hideAll s.heap (frs X.stack++[e,T])) (X.env::X.outer) e cls a0 h5∧h4.UpToSlots h5) (E:=fun _ _=>False) held fun h5 fl5 up5=>⟨h5,rfl,fl5,up5⟩)) (fun _ s5 ⟨⟨h5,e5,fl5,up5⟩,kd5⟩=>?_) fun _ _ z=>z.1.elim
 subst e5
 refine k _ (show Landed X pins σ H e cls pay { s with heap:=h5 } from land (s:=s) (a0:=a0) (xs:=[e,T]) I hx L.fr L.ap (by simp) (fun x m=>?_) ?_ (up4.trans up5) L.py (kd4.trans kd5))
 ·rcases List.mem_cons.mp m with z | z
  ·rw [z];exact ⟨L.fr,L.ap⟩
  ·rw [List.mem_singleton.mp z];exact ⟨tH,tA⟩
 ·rw [← hst] at fl5
  exact fl5
theorem Landed.flyT (L:Landed X pins σ H e cls pay s):FlyT s.heap H X.s₀.heap e cls pay:=by
 obtain ⟨oe,vs,a0,T,oT,ts,h1,h2,h0,h3,t1,t2,tH,tA,t⟩:=L.ob
 exact ⟨L.py.imp fun _ z=>z.1,L.ap.1,L.fr,oe,vs,a0,T,oT,ts,h1,h2,h0,h3,t1,t2,tA.1,tH,t⟩
end
def ThrowsT (X:Cx) (E:XS):Prop:=∀ (pins:List (Addr×Obj)) (σ:St) (H:Hp) (s:Shared) (e:Addr) (cls:Value) (pay:Option Addr),Landed X pins σ H e cls pay s→E cls pay σ H→X.xe (.ref e) s
theorem throwsT_def {P:Program}{w:World}{K:PySem.W.Frag}{mg:Str→Option Value}{base:Heap}{N:List Str}{qual:Str}{scope:Scope}{f:Addr}{cd:Value}{A:Around}{outer:List Env}{s0:Shared}{H0:Hp}{E:XK} :
  ThrowsT (cxOf (CXE P w) P w K mg base N qual scope f cd A outer s0 H0 E) (fun cls pay _ H=>E cls pay H):=fun pins σ H s e cls pay L hE=>leave_exc L.inv (.inr L.flyT) hE
section
variable {M:Model}{A:Around}{E:Value→Shared→Prop}
variable {nm q:Str}{C N:Addr}{bs bm:List Value}{hdct:Bool}{sn:List Str}{sub:List Value}{ab:Bool}{col:Option Bool}{dd:Option Addr}{k0 k1 k2 k3 k5:Option Value}{newId:String}
variable {nm' q':Str}{D N':Addr}{bs' bm':List Value}{hdct':Bool}{sn':List Str}{sub':List Value}{ab':Bool}{col':Option Bool}{dd':Option Addr}{j0 j1 j2 j3 j5:Option Value}{newId':String}
theorem matches_own {h:Heap}{g:Array GenState}{d:Drawn}{t:Nat}{os:OsState}{e:Addr}{oe:Obj}{Q:Bool→Shared→Prop}
  (hC:h.get? C=some (excClassObj nm q C N bs bm hdct sn sub ab col dd k0 k1 k2 k3 k5 newId)) (hD:h.get? D=some (excClassObj nm' q' D N' bs' bm' hdct' sn' sub' ab' col' dd' j0 j1 j2 j3 j5 newId')) (he:h.get? e=some oe) (hcls:oe.cls=.ref C)
  (hb:bm'.contains (.type "BaseException")=true) (hq:Q ((Value.ref C::bm).contains (.ref D)) ⟨h,g,d,t,os⟩):wpAny M A (excMatches (.ref e) (.ref D)) Q E ⟨h,g,d,t,os⟩:=by
 have hcB:(Value.ref D::bm').contains (.type "BaseException")=true:=by rw [List.contains_cons,hb,Bool.or_true]
 have f:=tc_notTuple
 unfold excMatches
 repeat (first | (with_reducible refine wpAny_loadPart_at he ?_;rw [hcls]) | with_reducible refine wpAny_loadPart_at hD ?_ | (with_reducible refine wpAny_isSubtype_exc hD ?_;rw [hcB]) | (with_reducible refine wpAny_isSubtype_exc hC ?_) | wp_step)
 cases hz:(Value.ref C::bm).contains (.ref D) <;> (rw [hz] at hq;wp_walk;exact hq)
end
section
variable {X:Cx}{pins:List (Addr×Obj)}{σ:St}{H:Hp}{s:Shared}{e:Addr}{cls:Value}{pay:Option Addr}{M:Model}{A':Around}{E':Value→Shared→Prop}
theorem Landed.again {Q:Unit→Shared→Prop} (L:Landed X pins σ H e cls pay s) (hx:X.ex=[]) (k:∀ s',Landed X pins σ H e cls pay s'→Q () s'):wpAny M A' (setFlight (.ref e) none) Q E' s:=by
 obtain ⟨oe,vs,a0,T,oT,ts,h1,h2,h0,h3,t1,t2,tH,tA,t5,t6,t7⟩:=L.ob
 have I:=L.inv
 refine wpAny_mono (wpAny_dk (dk_setFlight _ _) (wpAny_setFlight_noneW (Q:=fun _ s'=>∃ h',s'={ s with heap:=h' }∧(PySem.W.hideAll s.heap (frs X.stack++[e,T])).StaysIn h'∧h'.FunFrames (PySem.W.hideAll s.heap (frs X.stack++[e,T])) X.stack∧h'.TracedW (PySem.W.hideAll s.heap (frs X.stack++[e,T])) e cls a0∧(∀ b o,s.heap.get? b=some o→(∀ vs,o.data≠.fields vs)→h'.get? b=some o)) (E:=fun _ _=>False) (base:=PySem.W.hideAll s.heap (frs X.stack++[e,T])) (l:=X.stack) (cls:=cls) (a0:=a0) (fl:=.none) (fun b o q=>PySem.W.of_hideAll _ q)
  (PySem.W.funFrames_hide I.stack fun env' he a ha=>List.mem_append_left _ (List.mem_filterMap.mpr ⟨env',he,ha⟩)) ⟨oe,vs,T,oT,ts,h1,⟨h2,h0⟩,h3,t1,PySem.W.hideAll_none _ (by simp),t2,t5,t6,t7⟩ fun h' k1 k2 k3 k4=>⟨h',rfl,k1,k2,k3,k4⟩)) (fun _ s' ⟨⟨h',eh,k1,k2,k3,k4⟩,kd⟩=>?_) fun _ _ z=>z.1.elim
 subst eh
 refine k _ (land (a0:=a0) (xs:=[e,T]) I hx L.fr L.ap (by simp) (fun x m=>?_) ⟨k1,PySem.W.hideAll_none _ (by simp),k2,k3⟩ (fun b o q n=>⟨o.slots,k4 b o q n⟩) L.py kd)
 rcases List.mem_cons.mp m with z | z
 ·rw [z];exact ⟨L.fr,L.ap⟩
 ·rw [List.mem_singleton.mp z];exact ⟨tH,tA⟩
end
def XEnd (X:Cx) (pins:List (Addr×Obj)) (σ:St) (E:XK) (e:Value) (s':Shared):Prop:=∃ a cls pay H',e=.ref a∧Landed X pins σ H' a cls pay s'∧E cls pay H'
abbrev TX:=St→Hp→VK→XK→Prop
def PX (X:Cx) (e:Expr) (t:TX):Prop:=
 ∀ (pins:List (Addr×Obj)) (s:Shared) (σ:St) (H:Hp) (Q:VK) (E:XK),Inv X pins σ H s→t σ H Q E→wpAny (model X.prog X.w) X.A (eval e X.env) (EP X pins σ Q) (XEnd X pins σ E) s
section
variable {X:Cx}{cm:Bool}{k:Nat}{f C:Addr}{fd:FuncData}{ps:List Str}{sp:Sp}{dvs:List V}{ds:List Value}{x m:Str}{p pos apos:Pos}{e o:Expr}{es:List Expr}{ta:TE}{t:TA}
theorem landed_of {pins:List (Addr×Obj)}{σ:St}{H:Hp}{s s':Shared}{E:XK}{e:Value} (I:Inv X pins σ H s) (hx:X.ex=[]) (h:CXE X.prog X.w X.stack H s E e s'):XEnd X pins σ E e s':=by
 obtain ⟨a,H',cls,pay,rfl,os,bare,un,hok,fl,hE⟩:=h
 have I':Inv X pins σ H' s':=I.call' (ch:=[]) os un hok bare fun b z=>absurd z (by simp)
 obtain ⟨oe,vs,a0,T,oT,ts,h1,h2,h0,h3,t1,t2,t3,t4,t5⟩:=fl.ob
 exact ⟨a,cls,pay,H',rfl,⟨fl.py.imp fun _ z=>I.apart hx z,I',fl.fr,I.apart hx fl.nw,oe,vs,a0,T,oT,ts,h1,h2,h0,h3,t1,t2,t4,I.apart hx t3,t5⟩,hE⟩
def tMakeX (C:Addr) (sp:Sp) (dvs:List V) (t:TA):TX:=fun σ H Q E=>t σ H fun vs H1=>∀ x dx,H1 x=none→H1 dx=none→dx≠x →
 sp (.ref x::(vs++dvs)) (upd (upd H1 dx (.own x)) x (.ins C dx [])) (fun v H2=>v=.non∧Q (.ref x) H2) E
theorem pa_x {pins:List (Addr×Obj)}{s:Shared}{σ:St}{H:Hp}{Q:List V→Hp→Prop}{E':Value→Shared→Prop} (ha:PA X.nox es t) (I:Inv X pins σ H s) (h:t σ H Q) :
  wpAny (model X.prog X.w) X.A (spliced (backTo pos (starEach es X.env))) (AP X pins σ Q) E' s:=
 wpAny_mono (ha pos pins s σ H Q (I.wish _) h) (fun us s1 ⟨vs,H1,I1,q⟩=>⟨vs,H1,I1.unwish,q⟩) fun _ _ z=>False.elim z
theorem run_makeX {pins:List (Addr×Obj)}{σ:St}{H:Hp}{s:Shared}{Q:VK}{E:XK}{us:List Value}{vs:List V} (M:Mk X.K C f) (F:FnOk X.prog X.w X.K X.mg X.base (CXE X.prog X.w) k f fd ps sp cm) (hr:Room (k + 1) X.A cm) (hb:Binds X.K fd ps ds) (hd:Vals dvs ds)
  (hx:X.ex=[]) (I:Inv X pins σ H s) (r:Vals vs us)
  (h:∀ x dx,H x=none→H dx=none→dx≠x→sp (.ref x::(vs++dvs)) (upd (upd H dx (.own x)) x (.ins C dx [])) (fun v H2=>v=.non∧Q (.ref x) H2) E) :
  wpAny (model X.prog X.w) X.A (call (.ref C) us) (EP X pins σ Q) (XEnd X pins σ E) s:=by
 have hq:=h (s.heap.objs.size + 1) s.heap.objs.size (I.hok.fresh (Nat.le_succ _)) (I.hok.fresh (Nat.le_refl _)) (Nat.ne_of_lt (Nat.lt_succ_self _))
 have I2:=Inv.made (C:=C) I
 have r2:Vals (V.ref (s.heap.objs.size + 1)::(vs++dvs)) (Value.ref (s.heap.objs.size + 1)::(us++ds)):=.cons rfl (r.append hd)
 have hl:(Value.ref (s.heap.objs.size + 1)::us++ds).length=ps.length:=r2.length.symm.trans (F.len _ _ _ _ hq)
 refine wpAny_call (make_map (f:=f) I.kIn M.makes M.init (beq_iff_eq.mp M.fn) (codeAny_mono (F.run _ X.stack _ _ ⟨Value.ref (s.heap.objs.size + 1)::us,[]⟩ (Value.ref (s.heap.objs.size + 1)::(us++ds)) _ _ E (hr.make C us [])
  (I2.env0.make C us []) (hb _ (Value.ref (s.heap.objs.size + 1)::us) I2.kIn hl) r2 hq) fun r s' hq'=>?_))
 cases r with
 | error e=>exact landed_of I2 hx hq'
 | ok fl=>
  cases fl with
  | ret u=>
   obtain ⟨v,H',I3,rv,ev,q3⟩:=I2.after hq'
   subst ev
   exact ⟨rv,⟨V.ref (s.heap.objs.size + 1),H',I3,rfl,q3⟩⟩
  | next=>exact False.elim hq'
  | brk=>exact False.elim hq'
  | cont=>exact False.elim hq'
theorem px_make (M:Mk X.K C f) (F:FnOk X.prog X.w X.K X.mg X.base (CXE X.prog X.w) k f fd ps sp cm) (hr:Room (k + 1) X.A cm) (hx:X.ex=[]) (hg:Gl X x) (hm:X.mg x=some (.ref C)) (hb:Binds X.K fd ps ds) (hd:Vals dvs ds)
  (ha:PA X.nox (e::es) t) (hdb:(x == ("__debug__":Str))=false:=by decide) (he:starEach (e::es) X.env=(false,eval e X.env)::starEach es X.env:=by rfl) (hpl:(backTo pos (starEach es X.env)).any (·.1)=false:=by rfl) :
  PX X (.Call (.Name x p) (e::es) [] pos) (tMakeX C sp dvs t):=by
 intro pins s σ H Q E I h
 refine wpAny_Call_Name_kw (ld_glob I hg hm ?_ hdb)
 exact PySem.W.callWith_K (h₀:=X.base) I.ok.mod.kin M.kp (thn (pa_x ha I h) fun us s1 ⟨vs,H1,I1,r,q⟩=>⟨I1.kIn,run_makeX M F hr hb hd hx I1 r q⟩) he hpl
end
section
variable {X:Cx}{e:Expr}{t:TX}{ES:XS}{pos:Pos}
theorem xend {pins:List (Addr×Obj)}{σ:St}{v:Value}{s:Shared} (th:ThrowsT X ES) (h:XEnd X pins σ (fun cls pay H=>ES cls pay σ H) v s):X.xe v s:=by
 obtain ⟨a,cls,pay,H',rfl,L,q⟩:=h
 exact th pins σ H' s a cls pay L q
def tSetX (i:Nat) (ES:XS) (t:TX):TS:=fun D σ H=>t σ H (fun v H1=>D.nx (σ.set i (some v)) H1) fun cls pay H'=>ES cls pay σ H'
theorem ps_setX {i:Nat}{x:Str}{pos':Pos} (th:ThrowsT X ES) (hN:X.N.Nodup) (hi:X.N[i]? = some x) (hx:Loc X.env.scope x) (he:PX X e t) (hs:swapsWith e (some (.Name x pos')) pos.line X.env=pure false:=by rfl) (hf:X.fn x=true∨X.env.scope.names.lookup x=some .local:=by first | exact .inl rfl | exact .inr rfl | assumption) :
  PS X (.Assign [.Name x pos'] e pos) (tSetX i ES t):=by
 intro pins s σ H D I h
 refine wpAny_Assign_Name (wpAny_mono (he pins s σ H _ _ I h) (fun v s1 ⟨y,H1,I1,r1,q1⟩=>?_) fun _ _ z=>xend th z) hs
 exact store_ok I1 hN hi hx r1 (fun s2 I2=>⟨_,H1,I2,q1⟩) hf
def tDropX (ES:XS) (t:TX):TS:=fun D σ H=>t σ H (fun _ H1=>D.nx σ H1) fun cls pay H'=>ES cls pay σ H'
theorem ps_exprX (th:ThrowsT X ES) (he:PX X e t) (hs:swapsWith e none pos.line X.env=pure false:=by rfl):PS X (.Expr e pos) (tDropX ES t):=by
 intro pins s σ H D I h
 exact wpAny_Expr_any (wpAny_mono (he pins s σ H _ _ I h) (fun v s1 ⟨x,H1,I1,r1,q1⟩=>⟨σ,H1,I1,q1⟩) fun _ _ z=>xend th z) I.quiet hs
end
abbrev Cx.inTry (X:Cx) (pins:List (Addr×Obj)) (R:XS):Cx:={ X with pn:=X.pn++pins,xe:=fun e s'=>∃ σ H a cls pay,e=.ref a∧Landed X pins σ H a cls pay s'∧R cls pay σ H }
section
variable {X:Cx}{pins pins':List (Addr×Obj)}{R:XS}{σ:St}{H:Hp}{s:Shared}{e:Addr}{cls:Value}{pay:Option Addr}
theorem Cx.Ok.inTry (ok:X.Ok):(X.inTry pins R).Ok:=
 ⟨ok.mod,ok.kind,ok.glob,ok.blt,ok.above,ok.inj,ok.has,ok.cab,ok.hd,ok.frames,ok.stk,ok.exf,ok.bs,ok.bsz,ok.noex,ok.exfs,ok.funs,ok.frf⟩
theorem Cx.Ok.offTry (ok:(X.inTry pins R).Ok):X.Ok:=
 ⟨ok.mod,ok.kind,ok.glob,ok.blt,ok.above,ok.inj,ok.has,ok.cab,ok.hd,ok.frames,ok.stk,ok.exf,ok.bs,ok.bsz,ok.noex,ok.exfs,ok.funs,ok.frf⟩
theorem Inv.inTry (I:Inv X pins σ H s):Inv (X.inTry pins R) [] σ H s:=⟨I.ok.inTry,I.os,I.bare,I.base,I.loc,I.cell,I.free,I.freeC,fun p hp=>I.pin p (by simpa using hp),I.hok,I.len,I.hq⟩
theorem Inv.offTry (I:Inv (X.inTry pins R) pins' σ H s):Inv X pins σ H s:=⟨I.ok.offTry,I.os,I.bare,I.base,I.loc,I.cell,I.free,I.freeC,fun p hp=>I.pin p (List.mem_append_left _ hp),I.hok,I.len,I.hq⟩
theorem Landed.offTry (L:Landed (X.inTry pins R) pins' σ H e cls pay s):Landed X pins σ H e cls pay s:=by
 obtain ⟨py,I,fr,⟨a1,a2,a3,a4⟩,oe,vs,a0,T,oT,ts,h1,h2,h0,h3,t1,t2,tH,⟨b1,b2,b3,b4⟩,t5⟩:=L
 exact ⟨py.imp fun _ z=>⟨z.1,z.2.1,z.2.2.1,fun p hp=>z.2.2.2 p (List.mem_append_left _ hp)⟩,I.offTry,fr,⟨a1,a2,a3,fun p hp=>a4 p (List.mem_append_left _ hp)⟩,oe,vs,a0,T,oT,ts,h1,h2,h0,h3,t1,t2,tH,⟨b1,b2,b3,fun p hp=>b4 p (List.mem_append_left _ hp)⟩,t5⟩
theorem throwsT_try:ThrowsT (X.inTry pins R) R:=fun pins' σ H s e cls pay L q=>⟨σ,H,e,cls,pay,rfl,L.offTry,q⟩
end
abbrev Cx.inSuite (X:Cx) (a:Addr):Cx:={ X with A:=X.A.mark (some (.ref a)),calm:=false,xe:=fun _ _=>False }
section
variable {X:Cx}{pins:List (Addr×Obj)}{σ:St}{H:Hp}{s:Shared}{e:Addr}{cls:Value}{pay:Option Addr}
theorem Inv.inSuite (I:Inv X pins σ H s) (a:Addr) (hq:HdOk (X.A.mark (some (.ref a))) H):Inv (X.inSuite a) pins σ H s:=
 ⟨⟨I.ok.mod,I.ok.kind,I.ok.glob,I.ok.blt,I.ok.above,I.ok.inj,I.ok.has,I.ok.cab,fun z=>Bool.noConfusion z,I.ok.frames,I.ok.stk,I.ok.exf,I.ok.bs,I.ok.bsz,I.ok.noex,I.ok.exfs,I.ok.funs,I.ok.frf⟩,I.os,I.bare,I.base,I.loc,I.cell,I.free,I.freeC,I.pin,I.hok,I.len,hq⟩
theorem Inv.offSuite {a:Addr}{σ':St}{H':Hp}{s':Shared} (hc:X.calm=true) (I0:Inv X pins σ H s) (I:Inv (X.inSuite a) pins σ' H' s'):Inv X pins σ' H' s':=
 ⟨I0.ok,I.os,I.bare,I.base,I.loc,I.cell,I.free,I.freeC,I.pin,I.hok,I.len,.inl (I0.ok.hd hc)⟩
theorem Inv.track {u:HO} (I:Inv X pins σ H s) (fr:H e=none) (ap:Apart X pins e) (ok:ObjOk X.prog X.w (upd H e u) s.heap e u):Inv X pins σ (upd H e u) s:=by
 obtain ⟨a1,a2,a3,a4⟩:=ap
 have ne:∀ {b:Addr}{o:HO},H b=some o→b≠e:=fun {b o} q z=>by rw [z,fr] at q;cases q
 refine ⟨I.ok,I.os,I.bare,⟨I.base.keep,I.base.slot,fun b o q n hx=>?_,I.base.there,fun b xs q=>?_,fun b o u q=>?_,fun b ps q=>?_⟩,I.loc,I.cell,?_,fun x c q=>?_,fun p hp=>?_,fun b o q=>?_,I.len,I.hq.mono fun b o u q=>by rw [upd_ne (ne q)];exact q⟩
 ·rw [upd_ne fun z=>by rw [z,a1] at q;cases q]
  exact I.base.free b o q n hx
 ·have w:=I.base.tups b xs q
  rw [upd_ne (ne w)];exact w
 ·have w:=I.base.frzs b o u q
  rw [upd_ne (ne w)];exact w
 ·obtain ⟨more,w⟩:=I.base.tbls b ps q
  exact ⟨more,by rw [upd_ne (ne w)];exact w⟩
 ·rw [upd_ne fun z=>a2 z.symm];exact I.free
 ·rw [upd_ne (a3 x c q)];exact I.freeC x c q
 ·obtain ⟨p1,p2,p3⟩:=I.pin p hp
  exact ⟨p1,by rw [upd_ne (a4 p hp)];exact p2,p3⟩
 ·by_cases z:b=e
  ·subst z
   rw [upd_same] at q
   cases q
   exact ok
  ·rw [upd_ne z] at q
   exact (I.hok b o q).stay (fun _ _ _ q=>q) (fun c q=>by rw [upd_ne (ne q)];exact q) fun c xs q=>by rw [upd_ne (ne q)];exact q
def Knows (H H':Hp) (a:Addr) (cls:Value) (pay:Option Addr):Prop:=∃ ob vs,ob.data=.fields vs∧vs[2]? = some .none∧match pay with
 | none=>H'=upd H a (ExcF ob a cls none)
 | some n=>∃ dx,dx≠a∧H dx=none∧H'=upd (upd H dx (XdO dx n)) a (ExcF ob a cls (some dx))
theorem Landed.known (L:Landed X pins σ H e cls pay s):∃ H',Knows H H' e cls pay∧Inv X pins σ H' s:=by
 obtain ⟨oe,vs,a0,T,oT,ts,h1,h2,h0,hd,_⟩:=L.ob
 obtain ⟨⟨o0,c1,c2⟩,py⟩:=L.py
 rw [h1] at c1
 cases c1
 have c3:vs[2]? = some .none:=by unfold fld2 at c2;rw [hd] at c2;exact c2
 have nc:PySem.W.notCls oe=true:=by
  obtain ⟨c,d,dt,sl⟩:=oe
  dsimp only at hd
  subst hd;rfl
 cases pay with
 | none=>exact ⟨_,⟨oe,vs,hd,c3,rfl⟩,L.inv.track (u:=ExcF oe e cls none) L.fr L.ap ⟨h1,excO_ok h1 h2 fun _ z=>by cases z⟩⟩
 | some n=>
  obtain ⟨oe',dx,t,g1,g2,g3,g4,g5⟩:=py
  rw [h1] at g1
  cases g1
  have ne:dx≠e:=fun z=>by
   obtain ⟨o,es,ep,q1,q2,_⟩:=g3
   rw [z,h1] at q1
   cases q1
   rw [hd] at q2;cases q2
  have I1:Inv X pins σ (upd H dx (XdO dx n)) s:=L.inv.track g4 g5 (xdO_ok g3)
  exact ⟨_,⟨oe,vs,hd,c3,dx,ne,g4,rfl⟩,I1.track (u:=ExcF oe e cls (some dx)) (by rw [upd_ne ne.symm];exact L.fr) L.ap ⟨h1,excO_ok h1 h2 fun _ z=>by cases z;exact ⟨g2,nc⟩⟩⟩
theorem Knows.hq {A:Around}{H H':Hp}{a:Addr}{cls:Value}{pay:Option Addr} (k:Knows H H' a cls pay):HdOk (A.mark (some (.ref a))) H':=by
 obtain ⟨ob,vs,h1,h2,k⟩:=k
 refine .inr ⟨a,ob,?_⟩
 cases pay with
 | none=>subst k;exact ⟨_,vs,rfl,upd_same,h1,h2⟩
 | some n=>obtain ⟨dx,_,_,rfl⟩:=k;exact ⟨_,vs,rfl,upd_same,h1,h2⟩
theorem Knows.same {H H':Hp}{a:Addr}{cls:Value}{pay:Option Addr} (k:Knows H H' a cls pay) (fr:H a=none) {b:Addr}{o:HO} (q:H b=some o):H' b=some o:=by
 obtain ⟨ob,vs,_,_,k⟩:=k
 cases pay with
 | none=>subst k;rw [upd_ne (ne_of_none q fr)];exact q
 | some n=>obtain ⟨dx,ne,d,rfl⟩:=k;rw [upd_ne (ne_of_none q fr),upd_ne (ne_of_none q d)];exact q
end
section
variable {prog:Program}{w:World}{A:Around}{R:Result→Shared→Prop}{s:Shared}
theorem comp_loop {elt tg iter:Expr}{ifs:List Expr}{scope:Scope}{pos:Pos}{it acc:Value}{env:Env} (Iv:Nat→Shared→Prop)
  (turn:∀ n s,Iv n s→wpAny (model prog w) A (pyNext it) (fun r s1=>match r with
   | none=>R (.ok .next) s1
   | some v=>wpAny (model prog w) A (letOwnedTupleGo tg it v) (fun _ s1'=>wpAny (model prog w) A (assign tg env v) (fun _ s2=>
     wpAny (model prog w) A (forIn ifs true fun c r=>if r=true then do let ok ← isTrue c env (eval c env);pure (ForInStep.yield ok) else pure (ForInStep.yield r)) (fun ok s3=>
      if ok=true then wpAny (model prog w) A (eval elt env) (fun x s4=>
       wpAny (model prog w) A (call (.builtin "list.append") [acc,x]) (fun _ s5=>∃ m,m < n∧Iv m s5) (fun _ _=>False) s4) (fun _ _=>False) s3
      else ∃ m,m < n∧Iv m s3) (fun _ _=>False) s2) (fun _ _=>False) s1') (fun _ _=>False) s1) (fun _ _=>False) s)
  (n:Nat) (hn:Iv n s):codeAny (model prog w) A (.compLoop (.ListComp elt [⟨tg,iter,ifs,0⟩] scope pos) 0 it acc env) R s:=by
 have ff:∀ {E:Value→Shared→Prop} (x:Value) (s:Shared),False→E x s:=fun _ _ f=>f.elim
 refine codeAny_loop rfl Iv (fun k s0 hI=>?_) n hn
 show wpAny (model prog w) A ((compTurn (.ListComp elt [⟨tg,iter,ifs,0⟩] scope pos) 0 it acc env).onRaise (fun x=>do noteFrame x env;theTreesLotGoes x)) _ _ s0
 refine wpAny_noted ?_
 rw [compTurn_list]
 refine wpAny_bind (wpAny_standAt (wpAny_bind (wpAny_mono (turn k s0 hI) (fun r s1 h1=>?_) ff)))
 cases r with
 | none=>exact wpAny_pure h1
 | some v=>
  refine wpAny_bind (wpAny_mono h1 (fun _ s1' h1'=>wpAny_bind (wpAny_mono h1' (fun _ s2 h2=>wpAny_bind (wpAny_mono h2 (fun ok s3 h3=>?_) ff)) ff)) ff)
  cases ok with
  | false=>exact wpAny_pure ⟨rfl,h3⟩
  | true=>exact wpAny_bind (wpAny_bind (wpAny_mono h3 (fun x s4 h4=>wpAny_bind (wpAny_mono h4 (fun _ s5 h5=>wpAny_pure (wpAny_pure ⟨rfl,h5⟩)) ff)) ff))
end
def frees (sc:Scope):List Str:=(sc.names.filter fun x=>x.2 == .free).map (·.1)
def cellPairs (env:Env):List (Str×NameKind)→List (Str×Addr)→List (Str×Addr)
 | [],cs=>cs
 | (n,k)::r,cs=>cellPairs env r (if k == .free then (n,(env.cells.lookup n).getD 0)::cs else cs)
theorem clos_of {env:Env}{sc:Scope} (h:∀ x∈frees sc,∃ c,env.cells.lookup x=some c):closureFor sc env=pure (cellPairs env sc.names []):=by
 have key:∀ (l:List (Str×NameKind)) (cs:List (Str×Addr)),(∀ x∈(l.filter fun x=>x.2 == .free).map (·.1),∃ c,env.cells.lookup x=some c) →
   (forIn l cs fun x r=>(do
    let (name,kind):=x
    if kind == .free then do
     let a ← cellOf env name
     pure (ForInStep.yield ((name,a)::r))
    else pure (ForInStep.yield r):Sem (ForInStep (List (Str×Addr)))))=pure (cellPairs env l cs):=by
  intro l
  induction l with
  | nil=>intro cs _;rfl
  | cons p r ih=>
   obtain ⟨n,k⟩:=p
   intro cs h
   rw [List.forIn_cons]
   by_cases hk:(k == NameKind.free)=true
   ·obtain ⟨c,hc⟩:=h n (by simp [hk])
    have ih':=ih ((n,c)::cs) fun x hx=>h x (by simp only [List.filter_cons,hk,if_true,List.map_cons,List.mem_cons];exact Or.inr hx)
    have e:cellOf env n=pure c:=by unfold cellOf;rw [hc]
    simp only [hk,if_true,e,pure_bind,cellPairs,hc,Option.getD_some]
    exact ih'
   ·have ih':=ih cs fun x hx=>h x (by simp only [List.filter_cons,hk];exact hx)
    simp only [hk,cellPairs,Bool.false_eq_true,if_false,pure_bind]
    exact ih'
 unfold closureFor
 have k:=key sc.names [] h
 simp only [bind_pure] at k ⊢
 first
  | exact k
  | (simp only [pure_bind];exact k)
theorem cellPairs_get {env:Env}:∀ {l:List (Str×NameKind)}{cs:List (Str×Addr)}{x:Str}{c:Addr},(cellPairs env l cs).lookup x=some c →
  cs.lookup x=some c∨((x,NameKind.free)∈l∧c=(env.cells.lookup x).getD 0)
 | [],_,_,_,h=>.inl h
 | (n,k)::r,cs,x,c,h=>by
  rcases cellPairs_get (l:=r) h with q | ⟨q,e⟩
  ·by_cases hk:(k == NameKind.free)=true
   ·rw [if_pos hk,List.lookup_cons] at q
    by_cases hx:(x == n)=true
    ·rw [hx] at q
     have e:=eq_of_beq hx
     subst e
     have hk':k=.free:=by cases k <;> first | rfl | exact absurd hk (by decide)
     subst hk'
     exact .inr ⟨List.mem_cons_self,(Option.some.inj q).symm⟩
    ·rw [Bool.not_eq_true] at hx
     rw [hx] at q
     exact .inl q
   ·rw [if_neg hk] at q
    exact .inl q
  ·exact .inr ⟨List.mem_cons_of_mem _ q,e⟩
theorem cellPairs_has {env:Env}:∀ {l:List (Str×NameKind)}{cs:List (Str×Addr)}{x:Str},(∃ c,cs.lookup x=some c)∨(x,NameKind.free)∈l→∃ c,(cellPairs env l cs).lookup x=some c
 | [],_,_,h=>h.elim id fun z=>nomatch z
 | (n,k)::r,cs,x,h=>by
  refine cellPairs_has (l:=r) ?_
  rcases h with ⟨c,h⟩ | h
  ·left
   by_cases hk:(k == NameKind.free)=true
   ·rw [if_pos hk,List.lookup_cons]
    by_cases hx:(x == n)=true
    ·rw [hx];exact ⟨_,rfl⟩
    ·rw [Bool.not_eq_true] at hx;rw [hx];exact ⟨c,h⟩
   ·rw [if_neg hk];exact ⟨c,h⟩
  ·rcases List.mem_cons.mp h with e | h
   ·left
    cases e
    rw [if_pos (by decide),List.lookup_cons,beq_self_eq_true]
    exact ⟨_,rfl⟩
   ·exact .inr h
def cxComp (X:Cx) (N:List Str) (sc:Scope) (s3:Shared) (H3:Hp) (fp:List Addr):Cx:=
 { X with N:=N,s₀:=s3,H₀:=H3,env:=compEnvC sc (cellPairs X.env sc.names []) s3.heap.objs.size X.env,outer:=X.stack,stack:=X.stack,ex:=fp,fn:=fun _=>false,pn:=[],xe:=fun _ _=>False }
def iniC (js:List (Option Nat)) (σ:St):St:=js.map fun j=>match j with
 | none=>none
 | some j=>(σ[j]?).join
def capOk (N:List Str) (sc:Scope):List Str→List (Option Nat)→Bool
 | [],[]=>true
 | x::r,none::js=>capOk N sc r js
 | x::r,some j::js=>decide (N[j]? = some x)&&decide (sc.names.lookup x=some .free)&&capOk N sc r js
 | _,_=>false
theorem capOk_len {N:List Str}{sc:Scope}:∀ {M:List Str}{js:List (Option Nat)},capOk N sc M js=true→js.length=M.length
 | [],[],_=>rfl
 | _::r,none::js,h=>by
  have:=capOk_len (M:=r) (js:=js) h
  simp [this]
 | _::r,some j::js,h=>by
  unfold capOk at h
  have:=capOk_len (M:=r) (js:=js) ((Bool.and_eq_true _ _).mp h).2
  simp [this]
 | [],_::_,h=>by cases h
 | _::_,[],h=>by cases h
theorem capOk_at {N:List Str}{sc:Scope}:∀ {M:List Str}{js:List (Option Nat)}{i j:Nat}{x:Str},capOk N sc M js=true→M[i]? = some x→js[i]? = some (some j)→N[j]? = some x∧sc.names.lookup x=some .free
 | [],_,_,_,_,_,h,_=>by simp at h
 | _::_,[],_,_,_,h,_,_=>by cases h
 | y::r,none::js,0,j,x,h,h1,h2=>by simp at h2
 | y::r,some q::js,0,j,x,h,h1,h2=>by
  simp at h1 h2
  subst h1 h2
  unfold capOk at h
  obtain ⟨a,b⟩:=(Bool.and_eq_true _ _).mp ((Bool.and_eq_true _ _).mp h).1
  exact ⟨of_decide_eq_true a,of_decide_eq_true b⟩
 | y::r,none::js,i + 1,j,x,h,h1,h2=>capOk_at (M:=r) (js:=js) h (by simpa using h1) (by simpa using h2)
 | y::r,some q::js,i + 1,j,x,h,h1,h2=>by
  unfold capOk at h
  exact capOk_at (M:=r) (js:=js) ((Bool.and_eq_true _ _).mp h).2 (by simpa using h1) (by simpa using h2)
structure CompScope (X:Cx) (M:List Str) (js:List (Option Nat)) (sc:Scope):Prop where
 kind:sc.kind=.function
 nocell:∀ y∈sc.names,y.2≠.cell
 loc:∀ y∈sc.names,y.2=.local→sc.names.lookup y.1=some .local
 cap:capOk X.N sc M js=true
 free:∀ x∈frees sc,X.env.kindOf x=some .cell∨X.env.kindOf x=some .free
 nd:M.Nodup
def tComp (wi:TI) (js:List (Option Nat)) (g:TG) (tt:TT) (te:TE):TE:=fun σ H Q=>wi σ H fun J H1=>∀ D,H1 D=none →
 ∃ W:Nat→Nat→St→Hp→Prop,(∃ m,W 0 m (iniC js σ) (upd H1 D (.lst [])))∧∀ i m σ' H',W i m σ' H' →
  (J.stop i H'∧Q (.ref D) H')∨(J.go i H'∧∀ x H2,J.yld i H' x H2→g x σ' H2 fun σ3 H3=>tt σ3 H3 fun b H4=>
   if b=true then te σ3 H4 fun y H5=>∃ xs,H5 D=some (.lst xs)∧xs.length < sizeLine∧∃ m',m' < m∧W (i + 1) m' σ3 (upd H5 D (.lst (xs++[y])))
   else ∃ m',m' < m∧W (i + 1) m' σ3 H4)
def PTs (X:Cx) (ifs:List Expr) (t:TT):Prop:=
 ∀ (pins:List (Addr×Obj)) (s:Shared) (σ:St) (H:Hp) (Q:Bool→Hp→Prop),Inv X pins σ H s→t σ H Q →
  wpAny (model X.prog X.w) X.A (forIn ifs true fun c r=>if r=true then do let ok ← isTrue c X.env (eval c X.env);pure (ForInStep.yield ok) else pure (ForInStep.yield r)) (TP X pins σ Q) X.xe s
theorem pts_one {X:Cx}{c:Expr}{t:TT} (h:PT X c t):PTs X [c] t:=fun pins s σ H Q I q=>wpAny_tests_one (h pins s σ H Q I q)
section
variable {X:Cx}
theorem Inv.comp {pins:List (Addr×Obj)}{σ:St}{H3:Hp}{s3:Shared}{M:List Str}{js:List (Option Nat)}{sc:Scope}{fp:List Addr}{h':Heap}{tk:Nat} (S:CompScope X M js sc) (I:Inv X pins σ H3 s3)
  (hf:∀ b∈fp,FpOk X pins H3 b) (hlt:∀ b∈fp,b < s3.heap.objs.size) (hn:h'.Ns s3.heap.objs.size fun _=>none) (hk:∀ b o,s3.heap.get? b=some o→h'.get? b=some o) :
  Inv (cxComp X M sc s3 H3 fp) [] (iniC js σ) H3 { s3 with heap:=h',toks:=tk }:=by
 have cl:∀ {x:Str}{c:Addr},(cellPairs X.env sc.names []).lookup x=some c→X.env.cells.lookup x=some c:=fun {x c} e=>by
  rcases cellPairs_get e with q | ⟨q,e'⟩
  ·cases q
  ·obtain ⟨c',hc⟩:=I.ok.has x (S.free x (List.mem_map.mpr ⟨(x,.free),List.mem_filter.mpr ⟨q,rfl⟩,rfl⟩))
   rw [hc] at e' ⊢
   rw [e'];rfl
 have bsz:X.base.objs.size≤s3.heap.objs.size:=Nat.le_trans I.ok.bsz I.sz
 have lk:∀ {x:Str},sc.names.lookup x=some .free→(relabel sc X.env).names.lookup x=some .cell∨(relabel sc X.env).names.lookup x=some .free:=fun {x} e=>by
  have key:∀ (l:List (Str×NameKind)),l.lookup x=some .free→(l.map fun (n,k)=>if (k == NameKind.free&&X.env.scope.kind == .function&&X.env.kindOf n == some .cell) then (n,NameKind.cell) else (n,k)).lookup x=some .cell ∨
    (l.map fun (n,k)=>if (k == NameKind.free&&X.env.scope.kind == .function&&X.env.kindOf n == some .cell) then (n,NameKind.cell) else (n,k)).lookup x=some .free:=by
   intro l
   induction l with
   | nil=>intro e;cases e
   | cons p r ih=>
    obtain ⟨n,k⟩:=p
    intro e
    rw [List.lookup_cons] at e
    rw [List.map_cons]
    by_cases hx:(x == n)=true
    ·rw [hx] at e
     have e':k=.free:=Option.some.inj e
     subst e'
     dsimp only
     split
     ·left;rw [List.lookup_cons,hx]
     ·right;rw [List.lookup_cons,hx]
    ·rw [Bool.not_eq_true] at hx
     rw [hx] at e
     dsimp only
     split <;> (rw [List.lookup_cons,hx];exact ih e)
  exact key sc.names e
 have kf:∀ {x:Str},((relabel sc X.env).names.lookup x=some .cell∨(relabel sc X.env).names.lookup x=some .free)→(x,NameKind.free)∈sc.names:=fun {x} e=>by
  have key:∀ (l:List (Str×NameKind)),(∀ y∈l,y.2≠.cell)→((l.map fun (n,k)=>if (k == NameKind.free&&X.env.scope.kind == .function&&X.env.kindOf n == some .cell) then (n,NameKind.cell) else (n,k)).lookup x=some .cell ∨
    (l.map fun (n,k)=>if (k == NameKind.free&&X.env.scope.kind == .function&&X.env.kindOf n == some .cell) then (n,NameKind.cell) else (n,k)).lookup x=some .free)→(x,NameKind.free)∈l:=by
   intro l
   induction l with
   | nil=>intro _ e;rcases e with e | e <;> cases e
   | cons p r ih=>
    obtain ⟨n,k⟩:=p
    intro nc e
    rw [List.map_cons] at e
    by_cases hx:(x == n)=true
    ·have e0:=eq_of_beq hx
     subst e0
     have hkf:k=.free:=by
      dsimp only at e
      split at e
      ·rename_i hc
       have:=((Bool.and_eq_true _ _).mp ((Bool.and_eq_true _ _).mp hc).1).1
       cases k <;> first | rfl | exact absurd this (by decide)
      ·rw [List.lookup_cons,beq_self_eq_true] at e
       rcases e with e | e
       ·exact absurd (Option.some.inj e) (nc _ List.mem_cons_self)
       ·exact Option.some.inj e
     rw [hkf];exact List.mem_cons_self
    ·rw [Bool.not_eq_true] at hx
     refine List.mem_cons_of_mem _ (ih (fun y hy=>nc y (List.mem_cons_of_mem _ hy)) ?_)
     dsimp only at e
     split at e <;> (rw [List.lookup_cons,hx] at e;exact e)
  exact key sc.names S.nocell e
 refine ⟨⟨I.ok.mod,S.kind,I.ok.glob,I.ok.blt,Nat.le_refl _,fun x y c h1 h2=>I.ok.inj x y c (cl h1) (cl h2),fun x hx=>cellPairs_has (.inr (kf hx)),(fun x c h _=>by cases h),I.ok.hd,I.ok.frames,.inl rfl,fun b hb=>⟨Nat.ne_of_lt (hlt b hb),fun x c e=>(hf b hb).2.2.2.2.1 x c (cl e)⟩,
   I.bs,bsz,fun b o e hb=>?_,fun b hb hb'=>?_,I.stack,I.stkFree⟩,
  rfl,I.bare,Un.kept hk,⟨_,hn,fun i x v h1 h2 h3=>?_⟩,fun x c e=>?_,I.hok.fresh (Nat.le_refl _),fun x c e=>I.freeC x c (cl e),fun p hp=>absurd (show p∈([]:List (Addr×Obj)) from hp) (by simp),I.hok.kept hk,?_,I.hq⟩
 ·rcases (hf b hb).2.2.2.1 with z | z
  ·exact I.ok.noex b o e z
  ·exact absurd (Nat.lt_of_lt_of_le (Heap.lt_size e) (Nat.le_trans I.ok.bsz z)) (Nat.lt_irrefl _)
 ·rcases List.mem_cons.mp (I.stkSub b hb') with z | z
  ·exact (hf b hb).2.1 z
  ·exact (hf b hb).2.2.1 z
 ·have hlen:=capOk_len S.cap
  have hi:i < js.length:=by rw [hlen];exact (List.getElem?_eq_some_iff.mp h1).1
  unfold iniC at h2
  rw [List.getElem?_map,List.getElem?_eq_getElem hi,Option.map_some] at h2
  cases hj:js[i] with
  | none=>rw [hj] at h2;cases h2
  | some j=>
   rw [hj] at h2
   have h2':(σ[j]?).join=some v:=Option.some.inj h2
   obtain ⟨a,b⟩:=capOk_at S.cap h1 (by rw [List.getElem?_eq_getElem hi,hj])
   have hs:σ[j]? = some (some v):=by
    cases q:σ[j]? with
    | none=>rw [q] at h2';cases h2'
    | some z=>rw [q] at h2';rw [show z=some v from h2']
   have hfr:=S.free x (List.mem_map.mpr ⟨(x,.free),List.mem_filter.mpr ⟨PySem.mem_of_lookup b,rfl⟩,rfl⟩)
   obtain ⟨m,hm,hl⟩:=I.loc
   obtain ⟨u,ru,l⟩:=hl j x v a hs (hfr.elim (fun z=>.inr (.inl z)) fun z=>.inr (.inr z))
   refine ⟨u,ru,.inr ⟨lk b,?_⟩⟩
   rcases l with ⟨k,_⟩ | ⟨_,c,e,hc⟩
   ·rcases hfr with z | z <;> (rw [z] at k;cases k)
   ·obtain ⟨c',hc'⟩:=cellPairs_has (env:=X.env) (l:=sc.names) (cs:=[]) (x:=x) (.inr (PySem.mem_of_lookup b))
    have e':=cl hc'
    rw [e] at e'
    have e2:c=c':=Option.some.inj e'
    subst e2
    obtain ⟨o,ho,hd⟩:=hc
    exact ⟨c,hc',o,hk _ _ ho,hd⟩
 ·obtain ⟨v,o,ho,hd⟩:=I.cell x c (cl e)
  exact ⟨v,o,hk _ _ ho,hd⟩
 ·unfold iniC
  rw [List.length_map]
  exact capOk_len S.cap
theorem Inv.uncomp {pins pins':List (Addr×Obj)}{σ σ':St}{H3 H':Hp}{s3 s':Shared}{M:List Str}{sc:Scope}{fp:List Addr}{h':Heap} (I:Inv X pins σ H3 s3) (hf:∀ b∈fp,FpOk X pins H3 b)
  (J:Inv (cxComp X M sc s3 H3 fp) pins' σ' H' s') (hs:Heap.SameBut s3.heap.objs.size s'.heap h'):Inv X pins σ H' { s' with heap:=h' }:=by
 have B:Un (frs X.stack) fp H3 H' s3.heap s'.heap:=J.base
 have ne:∀ {b:Addr}{o:Obj},s3.heap.get? b=some o→b≠s3.heap.objs.size:=fun e=>Nat.ne_of_lt (Heap.lt_size e)
 have B':Un (frs X.stack) fp H3 H' s3.heap h':=⟨fun b o e n hb hx=>(hs.2 b (ne e)).trans (B.keep b o e n hb hx),fun b o e n hb hx=>let ⟨sl,q⟩:=B.slot b o e n hb hx;⟨sl,(hs.2 b (ne e)).trans q⟩,B.free,
  fun b o e hx=>let ⟨o',q⟩:=B.there b o e hx;⟨o',(hs.2 b (ne e)).trans q⟩,B.tups,B.frzs,B.tbls⟩
 have fr:H' s3.heap.objs.size=none:=J.free
 refine I.call' (s':={ s' with heap:=h' }) (ch:=fp) J.os B' (fun b u e=>?_) J.bare fun b hb=>⟨(hf b hb).2.2.2.1,(hf b hb).2.1,(hf b hb).2.2.2.2.1,(hf b hb).2.2.2.2.2⟩
 refine (J.hok b u e).stay (fun c v hc q=>(hs.2 c ?_).trans q) (fun _ q=>q) fun _ _ q=>q
 rintro rfl
 rcases hc with rfl | hc
 ·rw [fr] at e;cases e
 ·rw [fr] at hc;cases hc
theorem comp_block {tg iter elt:Expr}{ifs:List Expr}{sc:Scope}{pos:Pos}{M:List Str}{js:List (Option Nat)}{g:TG}{tt:TT}{te:TE}{pins:List (Addr×Obj)}{σ:St}{H2:Hp}{s2:Shared}{it:Addr}{fp:List Addr}
  {tn:Nat→Heap→Prop}{J:It}{Q:VK}{RR:Value→Addr→Result→Shared→Prop} (S:CompScope X M js sc) (hc:X.calm=true∨J.rg=true) (I2:Inv X pins σ H2 s2) (T:Turn X.prog X.w X.K tg J fp it tn) (st:tn 0 s2.heap) (hf:∀ b∈fp,FpOk X pins H2 b)
  (hb:∀ s3 H3 fp,PG (cxComp X M sc s3 H3 fp) tg g∧PTs (cxComp X M sc s3 H3 fp) ifs tt∧PE (cxComp X M sc s3 H3 fp) elt te)
  (h:∀ D,H2 D=none→∃ W:Nat→Nat→St→Hp→Prop,(∃ m,W 0 m (iniC js σ) (upd H2 D (.lst [])))∧∀ i m σ' H',W i m σ' H' →
   (J.stop i H'∧Q (.ref D) H')∨(J.go i H'∧∀ x H2,J.yld i H' x H2→g x σ' H2 fun σ3 H3=>tt σ3 H3 fun b H4=>
    if b=true then te σ3 H4 fun y H5=>∃ xs,H5 D=some (.lst xs)∧xs.length < sizeLine∧∃ m',m' < m∧W (i + 1) m' σ3 (upd H5 D (.lst (xs++[y])))
    else ∃ m',m' < m∧W (i + 1) m' σ3 H4))
  (hR:∀ D s3 H3 s' σ' H',Inv X pins σ H3 s3→(∀ b∈fp,FpOk X pins H3 b)→Inv (cxComp X M sc s3 H3 fp) [] σ' H' s'→Q (.ref D) H'→RR (.ref D) s3.heap.objs.size (.ok .next) s') :
  wpAny (model X.prog X.w) X.A (newList []) (fun acc s₃=>wpAny (model X.prog X.w) X.A (newFunctionEnv sc X.env.globals (cellPairs X.env sc.names []) [] X.env.qual none .none (some X.env)) (fun cenv s₄=>
   codeAny (model X.prog X.w) X.A (.compStart (.ListComp elt [⟨tg,iter,ifs,0⟩] sc pos) 0 (.ref it) acc { cenv with scope:=relabel sc X.env }) (RR acc cenv.locals) s₄) X.xe s₃) X.xe s2:=by
 have fresh2:H2 s2.heap.objs.size=none:=I2.hok.fresh (Nat.le_refl _)
 obtain ⟨W,⟨m0,w0⟩,turn⟩:=h _ fresh2
 have I3:Inv X pins σ (upd H2 s2.heap.objs.size (.lst [])) { s2 with heap:=s2.heap.push { cls:=.type "list",data:=.seq ([]:List Value).toArray } }:=
  I2.laid (t':=s2.toks) (fun _ _ q=>Heap.get?_push_of_some _ q) (Nat.le_refl _) ⟨Nat.zero_le _,[],0,.nil,Heap.get?_push_size _ rfl⟩
 have fpl:∀ b∈fp,b < s2.heap.objs.size:=fun b hb=>let ⟨_,e,_⟩:=T.obj _ _ st b hb;Heap.lt_size e
 have hf3:∀ b∈fp,FpOk X pins (upd H2 s2.heap.objs.size (.lst [])) b:=fun b hb=>⟨by rw [upd_ne (Nat.ne_of_lt (fpl b hb))];exact (hf b hb).1,(hf b hb).2⟩
 have hsz:(s2.heap.push { cls:=.type "list",data:=.seq ([]:List Value).toArray }).objs.size=s2.heap.objs.size + 1:=Heap.size_push ..
 refine wpAny_newObj_type (wpAny_newFunctionEnv S.nocell (fun y hy=>nomatch hy) (fun h1 hn1 hs1=>?_) S.kind)
 generalize hs3:({ s2 with heap:=s2.heap.push { cls:=.type "list",dict:=none,data:=.seq ([]:List Value).toArray } }:Shared)=s3 at *
 have hk1:∀ b o,s3.heap.get? b=some o→h1.get? b=some o:=fun b o e=>(hs1.2 b (Nat.ne_of_lt (Heap.lt_size e))).trans (Heap.get?_push_of_some _ e)
 have lt3:∀ b∈fp,b < s3.heap.objs.size:=fun b hb=>by rw [← hs3];show b < (s2.heap.push _).objs.size;rw [hsz];exact Nat.lt_succ_of_lt (fpl b hb)
 have I4:Inv (cxComp X M sc s3 (upd H2 s2.heap.objs.size (.lst [])) fp) [] (iniC js σ) (upd H2 s2.heap.objs.size (.lst [])) { s3 with heap:=h1,toks:=s3.toks + ([]:List (Str×Value)).length }:=I3.comp S hf3 lt3 hn1 hk1
 obtain ⟨hg,ht,he⟩:=hb s3 (upd H2 s2.heap.objs.size (.lst [])) fp
 have stat:∀ {H':Hp},(∀ b∈fp,H' b=none)→∀ b∈fp,FpOk (cxComp X M sc s3 (upd H2 s2.heap.objs.size (.lst [])) fp) [] H' b:=fun {H'} hn b hb=>
  ⟨hn b hb,Nat.ne_of_lt (lt3 b hb),I4.ok.exfs b hb,.inl hb,(I4.ok.exf b hb).2,fun p hp=>absurd (show p∈([]:List (Addr×Obj)) from hp) (by simp)⟩
 have st4:tn 0 h1:=T.keep _ _ _ st fun b hb o e=>hk1 b o (by rw [← hs3];exact Heap.get?_push_of_some _ e)
 have fr4:∀ b∈fp,upd H2 s2.heap.objs.size (.lst []) b=none:=fun b hb=>(hf3 b hb).1
 have loop:codeAny (model X.prog X.w) X.A (.compLoop (.ListComp elt [⟨tg,iter,ifs,0⟩] sc pos) 0 (.ref it) (.ref s2.heap.objs.size) (compEnvC sc (cellPairs X.env sc.names []) s3.heap.objs.size X.env)) (RR (.ref s2.heap.objs.size) s3.heap.objs.size)
   { s3 with heap:=h1,toks:=s3.toks + ([]:List (Str×Value)).length }:=by
  refine comp_loop (fun n s'=>∃ i σ' H',Inv (cxComp X M sc s3 (upd H2 s2.heap.objs.size (.lst [])) fp) [] σ' H' s'∧tn i s'.heap∧(∀ b∈fp,H' b=none)∧W i n σ' H') ?_ m0 ⟨0,_,_,I4,st4,fr4,w0⟩
  rintro n s5 ⟨i,σ5,H5,I5,st5,fr5,w5⟩
  rcases turn i n σ5 H5 w5 with ⟨stop,q⟩ | ⟨go,step⟩
  ·refine thn (T.done (cxComp X M sc s3 (upd H2 s2.heap.objs.size (.lst [])) fp) rfl rfl rfl hc i [] s5 σ5 H5 _ I5 (stat fr5) st5 stop) fun r s6 ⟨hr,I6⟩=>?_
   subst hr
   exact hR _ _ _ _ _ _ I3 hf3 I6 q
  ·refine thn (T.item (cxComp X M sc s3 (upd H2 s2.heap.objs.size (.lst [])) fp) rfl rfl rfl hc i [] s5 σ5 H5 _ I5 (stat fr5) st5 go) fun r s6 ⟨u,hr,h6⟩=>?_
   subst hr
   refine thn h6 fun _ s7 ⟨x,H7,I7,r7,y7,st7,fr7⟩=>?_
   have I7':=I7.pinned (stat fr7) (T.obj _ _ st7)
   have back:∀ {σ8:St}{H8:Hp}{s8:Shared},Inv (cxComp X M sc s3 (upd H2 s2.heap.objs.size (.lst [])) fp) ([]++pinsAt fp s7.heap) σ8 H8 s8→tn (i + 1) s8.heap∧(∀ b∈fp,H8 b=none):=fun {σ8 H8 s8} I8=>
    ⟨T.keep _ _ _ st7 fun b hb o e=>(I8.pin (b,o) (List.mem_append_right _ (List.mem_append_right _ (mem_pinsAt hb e)))).1,fun b hb=>by
     obtain ⟨o,e,_⟩:=T.obj _ _ st7 b hb
     exact (I8.pin (b,o) (List.mem_append_right _ (List.mem_append_right _ (mem_pinsAt hb e)))).2.1⟩
   refine thn (hg _ s7 σ5 H7 x u _ I7' r7 (step x H7 y7)) fun _ s8 ⟨σ8,H8,I8,q8⟩=>?_
   refine thn (ht _ s8 σ8 H8 _ I8 q8) fun ok s9 ⟨H9,I9,q9⟩=>?_
   cases ok with
   | false=>
    rw [if_neg Bool.false_ne_true] at q9 ⊢
    obtain ⟨m',hm,w9⟩:=q9
    obtain ⟨a9,b9⟩:=back I9
    exact ⟨m',hm,i + 1,σ8,H9,I9.unpinned,a9,b9,w9⟩
   | true=>
    rw [if_pos rfl] at q9 ⊢
    refine thn (he _ s9 σ8 H9 _ I9 q9) fun y s10 ⟨yv,H10,I10,r10,xs,hD,hz,m',hm,w10⟩=>?_
    refine thn (mt_append _ s10 σ8 H10 (.ref s2.heap.objs.size) [yv] (.ref s2.heap.objs.size) [y] (fun v H11=>v=.non∧H11=upd H10 s2.heap.objs.size (.lst (xs++[yv]))) I10 rfl (.cons r10 .nil) ⟨_,xs,yv,rfl,rfl,hD,hz,rfl,rfl⟩) fun _ s11 ⟨v11,H11,I11,_,_,e11⟩=>?_
    subst e11
    obtain ⟨a9,b9⟩:=back I11
    exact ⟨m',hm,i + 1,σ8,_,I11.unpinned,a9,b9,w10⟩
 exact codeAny_compStart_list loop (T.self _ 0 _ _ _ st4 loop)
theorem pe_comp {tg iter elt:Expr}{ifs:List Expr}{sc:Scope}{pos:Pos}{M:List Str}{js:List (Option Nat)}{wi:TI}{g:TG}{tt:TT}{te:TE} (S:CompScope X M js sc) (hc:X.calm=true) (hi:PI X tg iter wi)
  (hb:∀ s3 H3 fp,PG (cxComp X M sc s3 H3 fp) tg g∧PTs (cxComp X M sc s3 H3 fp) ifs tt∧PE (cxComp X M sc s3 H3 fp) elt te) (hs:∀ x,foldedSetIterable iter X.env x=pure x:=by intro _;rfl) :
  PE X (.ListComp elt [⟨tg,iter,ifs,0⟩] sc pos) (tComp wi js g tt te):=by
 intro pins s σ H Q I h
 rw [eval_ListComp]
 refine wpAny_comprehension_free (use:=none) rfl hs (clos_of fun x hx=>I.ok.has x (S.free x hx)) S.kind S.loc ?_
 show wpAny (model X.prog X.w) X.A (eval iter X.env) _ _ s
 refine thn (hi pins s σ H _ I h) fun v s1 h1=>thn h1 fun itv s2 ⟨it,fp,tn,J,H2,e,I2,T,st2,f2,h2⟩=>?_
 subst e
 refine comp_block (RR:=fun acc C=>compPost (model X.prog X.w) X.A X.xe none (EP X pins σ Q) acc C) S (.inl hc) I2 T st2 f2 hb h2 fun D s3 H3 s' σ' H' I3 f3 J' q=>?_
 obtain ⟨m,hm,_⟩:=J'.loc
 exact ⟨m,hm,fun h' hs'=>⟨.ref D,H',I3.uncomp f3 J' hs',rfl,q⟩⟩
end
theorem len_dict_special:typeLookup (.type "dict") "__len__"=pure (some (.builtin "dict.__len__")):=by rw [typeLookup_type,builtinLookup_eq_fast];kernel_rfl
section
variable {prog:Program}{w:World}{A:Around}{E:Value→Shared→Prop}{s:Shared}
theorem collect_dict {κ:Type} [DecidableEq κ] {knd:KeyKind prog w κ}{d:Addr}{kvs:List (κ×Value)}{Q:List Value→Shared→Prop} (hh:A.handled=none) (hd:(d == sysModules)=false) (hm:s.heap.DictOf knd d kvs) (hz:kvs.length≤sizeLine)
  (hQ:∀ s' acc,s.heap.objs.size≤s'.heap.objs.size→(∀ b o,s.heap.get? b=some o→s'.heap.get? b=some o)→s'.gens=s.gens→s'.drawn=s.drawn→s'.os=s.os→ItemsOf (fun i v=>∃ k x,kvs[i]? = some (k,x)∧knd.is k v=true) acc kvs.length→Q acc.toList s') :
  wpAny (model prog w) A (collect (.ref d)) Q E s:=by
 obtain ⟨ep,hm⟩:=hm.dictAt
 have hlt:d < s.heap.objs.size:=hm.lt_size
 unfold collect
 refine wpAny_bind (wpAny_runValue (codeAny_builtin F.entry_proto_collect ?_))
 rw [Around.under_plainId F.plain_proto_collect _]
 show wpAny (model prog w) A.in1 (newList [] >>= fun l=>again (.builtin "list.__iadd__" ⟨[l,.ref d],[]⟩)) _ _ s
 refine wpAny_bind (wpAny_newObj_type ?_)
 refine wpAny_pure ⟨plainId_quiet F.plain_list_iadd _,codeAny_builtin F.entry_list_iadd ?_⟩
 rw [Around.under_plainId F.plain_list_iadd _]
 have hm1:=hm.push { cls:=.type "list",data:=.seq ([]:List Value).toArray }
 have hT1:({ s with heap:=s.heap.push { cls:=.type "list",data:=.seq ([]:List Value).toArray } }:Shared).TypeIs (.ref d) "dict":=hm1.dictOf.typeIs
 show wpAny (model prog w) A.in1 (Builtin.List.listExtendWith (.ref s.heap.objs.size) (.ref d) (.ref s.heap.objs.size)) _ _ _
 unfold Builtin.List.listExtendWith
 refine wpAny_bind (wpAny_typeOf hT1 ?_)
 have h1:Builtin.List.listSameRef (.ref s.heap.objs.size) (.ref d)=false:=by simp [Builtin.List.listSameRef,Nat.ne_of_gt hlt]
 have h2:(Value.type "dict" == Value.type "list")=false:=by decide
 have h3:(Value.type "dict" == Value.type "tuple")=false:=by decide
 simp only [h1,h2,h3,Bool.or_false,Bool.false_eq_true,if_false]
 refine wpAny_bind (wpAny_pyIter_dict hd hm1 ?_)
 refine wpAny_bind (wpAny_holding ?_)
 have hm2:=hm1.push { cls:=.type "dict_keyiterator",data:=.fields #[.ref d,.int 0 0,.int kvs.length 0,.int ep 0] }
 have hT2:({ s with heap:=(s.heap.push { cls:=.type "list",data:=.seq ([]:List Value).toArray }).push { cls:=.type "dict_keyiterator",data:=.fields #[.ref d,.int 0 0,.int kvs.length 0,.int ep 0] } }:Shared).TypeIs (.ref d) "dict":=hm2.dictOf.typeIs
 unfold Builtin.List.listLengthHint
 refine wpAny_bind (wpAny_specialOf hT2 len_dict_special ?_)
 generalize hid:("dict.__len__":String)=id0
 (fail_if_success (clear hid id0))
 wp_delta
 rw [show splitId id0=some ("dict","__len__") from by subst hid;decide +kernel]
 subst hid
 refine wpAny_bind (wpAny_isInstance (b:=true) hT2 (by rw [isSubtype_type];kernel_rfl) ?_)
 show wpAny (model prog w) A.in1 (typeOf (.ref d) >>= _) _ _ _
 refine wpAny_bind (wpAny_typeOf hT2 ?_)
 refine wpAny_pure ?_
 show wpAny (model prog w) A.in1 (rule "list.extend.makes-room" >>= fun _=>Builtin.List.listTouch (.ref s.heap.objs.size) >>= fun _=>again (.builtin "list.extend.loop" ⟨[.ref s.heap.objs.size,.ref _,.ref s.heap.objs.size],[]⟩)) _ _ _
 refine wpAny_bind (wpAny_rule ?_)
 have hsz:(s.heap.push { cls:=.type "list",data:=.seq ([]:List Value).toArray }).objs.size=s.heap.objs.size + 1:=Heap.size_push ..
 generalize hh1:s.heap.push { cls:=.type "list",data:=.seq ([]:List Value).toArray }=h1 at *
 have hS1:h1.get? s.heap.objs.size=some { cls:=.type "list",data:=.seq ([]:List Value).toArray }:=by rw [← hh1];exact Heap.get?_push_size _ rfl
 have old1:∀ b o,s.heap.get? b=some o→h1.get? b=some o:=fun b o e=>by rw [← hh1];exact Heap.get?_push_of_some _ e
 dsimp only
 have hI2:(h1.push { cls:=.type "dict_keyiterator",data:=.fields #[.ref d,.int 0 0,.int kvs.length 0,.int ep 0] }).get? h1.objs.size=some { cls:=.type "dict_keyiterator",data:=.fields #[.ref d,.int 0 0,.int kvs.length 0,.int ep 0] }:=Heap.get?_push_size _ rfl
 have hS2:(h1.push { cls:=.type "dict_keyiterator",data:=.fields #[.ref d,.int 0 0,.int kvs.length 0,.int ep 0] }).get? s.heap.objs.size=some { cls:=.type "list",data:=.seq ([]:List Value).toArray }:=Heap.get?_push_of_some _ hS1
 have old2:∀ b o,s.heap.get? b=some o→(h1.push { cls:=.type "dict_keyiterator",data:=.fields #[.ref d,.int 0 0,.int kvs.length 0,.int ep 0] }).get? b=some o:=fun b o e=>Heap.get?_push_of_some _ (old1 b o e)
 generalize hh2:h1.push { cls:=.type "dict_keyiterator",data:=.fields #[.ref d,.int 0 0,.int kvs.length 0,.int ep 0] }=h2 at *
 have nSI:s.heap.objs.size≠h1.objs.size:=by rw [hsz];exact Nat.ne_of_lt (Nat.lt_succ_self _)
 have nSd:s.heap.objs.size≠d:=Nat.ne_of_gt hlt
 have ndI:d≠h1.objs.size:=by rw [hsz];exact Nat.ne_of_lt (Nat.lt_succ_of_lt hlt)
 refine wpAny_bind ?_
 show wpAny (model prog w) A.in1 (updateSeq s.heap.objs.size (·.push .none) >>= fun _=>updateSeq s.heap.objs.size (·.pop)) _ _ _
 refine wpAny_bind (wpAny_updateSeq hS2 rfl ?_)
 have hS3:=Heap.get?_update_self (Obj.mapSeq (·.push Value.none)) hS2 rfl
 refine wpAny_updateSeq hS3 rfl ?_
 have hS4:=Heap.get?_update_self (Obj.mapSeq (·.pop)) hS3 rfl
 have oth:∀ b o,b≠s.heap.objs.size→h2.get? b=some o→((h2.update s.heap.objs.size (Obj.mapSeq (·.push Value.none))).update s.heap.objs.size (Obj.mapSeq (·.pop))).get? b=some o:=
  fun b o hb e=>(Heap.get?_update_other _ _ (Ne.symm hb)).trans ((Heap.get?_update_other _ _ (Ne.symm hb)).trans e)
 have W:=(Walks.dictKeys (prog:=prog) (w:=w) (A:=A.in1) (knd:=knd) hh h1.objs.size d ndI kvs ep).toS
 refine wpAny_pure ⟨plainId_quiet F.plain_extend_loop _,codeAny_extend_loopS W hz s.heap.objs.size (by simp;exact ⟨nSI,nSd⟩) _ kvs.length 0 _ _ _ rfl (Nat.zero_le _) ?_ hS4 (ItemsOf.nil _) fun s' acc' c' hmv hS' hacc=>?_⟩
 ·exact ⟨⟨_,oth _ _ (Ne.symm nSI) hI2,rfl,rfl⟩,hm2.at' fun o e=>oth _ _ (Ne.symm nSd) e⟩
 ·show wpAny (model prog w) A (load s.heap.objs.size >>= _) _ _ s'
  refine wpAny_bind (wpAny_load hS' ?_)
  refine wpAny_pure (hQ s' acc' (Nat.le_of_lt (Heap.lt_size hS')) (fun b o e=>?_) hmv.gens hmv.drawn hmv.os hacc)
  have hb:b < s.heap.objs.size:=Heap.lt_size e
  refine hmv.heap b o ?_ (oth b o (Nat.ne_of_lt hb) (old2 b o e))
  intro m
  rcases List.mem_cons.mp m with z | z
  ·exact absurd hb (by rw [z];exact Nat.lt_irrefl _)
  ·have z:=List.mem_singleton.mp z
   rw [hsz] at z
   exact absurd hb (by rw [z];exact Nat.not_lt.mpr (Nat.le_succ _))
theorem sorted_by {x:Value}{Q:Value→Shared→Prop} (hc:∀ (Q':List Value→Shared→Prop),(∀ vs s',(∃ ns,IntsAre vs ns∧∀ (out:Array Value) (ns':List Int),IntsAre out.toList ns'→ns'.Perm ns→ns'.Pairwise (·≤·) →
    Q (.ref s'.heap.objs.size) { s' with heap:=sortedHeap (s'.heap.push (seqObj "list" vs.toArray 0)) s'.heap.objs.size vs out })∧vs.length < 64→Q' vs s')→wpAny (model prog w) A.in1 (collect x) Q' E s):wpAny (model prog w) A (call (.builtin "sorted") [x]) Q E s:=by
 refine call_function_tree kind_sorted plain_sorted entry_sorted (args_sorted1 _) ?_
 unfold Builtin.«sorted»
 refine wpAny_bind (m:=checkCount "sorted" 1 1 _) (wpAny_pure ?_)
 refine wpAny_bind (hc _ fun vs s' ⟨⟨ns,hI,h⟩,h64⟩=>?_)
 refine wpAny_bind (wpAny_newList ?_)
 have hoL:(s'.heap.push (seqObj "list" vs.toArray 0)).get? s'.heap.objs.size=some (seqObj "list" vs.toArray 0):=Heap.get?_push_size _ rfl
 show wpAny _ _ _ _ _ { s' with heap:=s'.heap.push (seqObj "list" vs.toArray 0) }
 refine wpAny_bind (wpAny_holding (wpAny_call_entry slot_list_sort ⟨_,hoL,rfl⟩ entry_list_sort (list_sort_tree hoL hI h64 fun out ns' a1 a2 a3=>⟨_,rfl,?_⟩) (args_list_sort _)))
 exact wpAny_pure (h out ns' a1 a2 a3)
end
section
variable {X:Cx}
theorem ints_keys {P:Program}{w:World}:∀ {ks:List Int}{kvs:List (Key×Value)}{vs:List Value},kvs.map (·.1)=ks.map Sum.inl→vs.length=kvs.length→(∀ (i:Nat) v,vs[i]? = some v→∃ k x,kvs[i]? = some (k,x)∧(mixKind P w).is k v=true)→IntsAre vs ks
 | [],[],vs,_,hl,_=>by cases vs with
  | nil=>exact .nil
  | cons _ _=>simp at hl
 | [],_::_,_,e,_,_=>by simp at e
 | _::_,[],_,e,_,_=>by simp at e
 | k::ks,(q,x)::kvs,vs,e,hl,h=>by
  simp only [List.map_cons,List.cons.injEq] at e
  obtain ⟨rfl,e⟩:=e
  cases vs with
  | nil=>simp at hl
  | cons v vs=>
   obtain ⟨k',x',e0,hk⟩:=h 0 v rfl
   have e0':(Sum.inl k,x)=(k',x'):=Option.some.inj e0
   cases e0'
   rcases keyIs_shape (show keyIs (Sum.inl k) v=true from hk) with ⟨i,t,e1,e2⟩ | ⟨y,t,e1,e2⟩
   ·cases e1
    subst e2
    exact .cons k t (ints_keys e (by simpa using hl) fun i v hv=>h (i + 1) v (by simpa using hv))
   ·cases e1
def rSorted (K:PySem.W.Frag):List V→Hp→VK→Prop:=fun xs H Q=>∃ (p:Addr) (ks:List Int),xs=[.ref p]∧ks.length < 64∧((∃ kvs:List (Key×V),H p=some (.dK kvs)∧kvs.map (·.1)=ks.map Sum.inl)∨SqL K H p (ks.map V.int)) ∧
 ∀ (l:Addr) (ks':List Int),H l=none→ks'.Perm ks→ks'.Pairwise (·≤·)→Q (.ref l) (upd H l (.lst (ks'.map V.int)))
theorem call_sorted (hc:X.calm=true):CallR X (.builtin "sorted") (rSorted X.K):=by
 intro pins s σ H xs us Q I r h
 obtain ⟨p,ks,rfl,h64,hsrc,q⟩:=h
 obtain ⟨u,rfl,ru⟩:=vals1 r
 cases ru
 have fin:∀ (vs:List Value) (s':Shared),s.heap.objs.size≤s'.heap.objs.size→(∀ b o,s.heap.get? b=some o→s'.heap.get? b=some o)→s'.gens=s.gens→s'.drawn=s.drawn→s'.os=s.os→∀ (out:Array Value) (ns':List Int),IntsAre out.toList ns'→ns'.Perm ks→ns'.Pairwise (·≤·) →
   EP X pins σ Q (.ref s'.heap.objs.size) { s' with heap:=sortedHeap (s'.heap.push (seqObj "list" vs.toArray 0)) s'.heap.objs.size vs out }:=by
  intro vs s' hle hk e1 e2 e3 out ns' a1 a2 a3
  obtain ⟨h',g',d',t',o'⟩:=s'
  dsimp only at e1 e2 e3 hk hle
  subst e1 e2 e3
  obtain ⟨e,he⟩:=sortedHeap_at (vs:=vs) (n:=0) (out:=out) (show (h'.push (seqObj "list" vs.toArray 0)).get? h'.objs.size=some (seqObj "list" vs.toArray 0) from Heap.get?_push_size _ rfl)
  have hlen:ns'.length < 64:=by rw [a2.length_eq];exact h64
  refine ⟨.ref h'.objs.size,upd H h'.objs.size (.lst (ns'.map V.int)),I.laid (t':=t') (fun b o eb=>?_) hle ?_,rfl,q _ ns' (I.hok.fresh hle) a2 a3⟩
  ·have hb:b < h'.objs.size:=Heap.lt_size (hk b o eb)
   rw [sortedHeap_old (Nat.ne_of_lt hb) (by rw [Heap.size_push];exact Nat.lt_succ_of_lt hb)]
   exact Heap.get?_push_of_some _ (hk b o eb)
  ·exact ⟨by rw [List.length_map];exact Nat.le_of_lt (small1000 (by omega)),out.toList,e,vals_ints a1,by rw [he]⟩
 have hh:X.A.handled=none:=I.ok.hd hc
 refine sorted_by fun Q' hQ'=>?_
 rcases hsrc with ⟨kvs,hp,hk⟩ | hp
 ·obtain ⟨hz,hd,vs,rel,dd⟩:=dk_of I.hok hp
  refine collect_dict (A:=X.A.in1) hh hd dd (by rw [← rel.length];exact hz) fun s' acc hle kp e1 e2 e3 it=>hQ' _ s' ⟨⟨ks,?_,fun out ns' a1 a2 a3=>fin _ s' hle kp e1 e2 e3 out ns' a1 a2 a3⟩,?_⟩
  ·refine ints_keys (P:=X.prog) (w:=X.w) (kvs:=vs) (by rw [← rel.keys];exact hk) (by rw [Array.length_toList];exact it.1) fun i v hv=>it.2 i v (by rw [← Array.getElem?_toList];exact hv)
  ·rw [Array.length_toList,it.1,← rel.length]
   have:=congrArg List.length hk
   rw [List.length_map,List.length_map] at this
   omega
 ·obtain ⟨its,rv,pl,hz⟩:=I.list hp
  have hi:=intsAre_of rv
  have k1:s.heap.objs.size≤((s.heap.push (seqObj "list" #[] 0)).update s.heap.objs.size (Obj.mapSeq (·++its.toArray))).objs.size:=by
   rw [Heap.size_update,Heap.size_push];exact Nat.le_succ _
  have k2:∀ b o,s.heap.get? b=some o→((s.heap.push (seqObj "list" #[] 0)).update s.heap.objs.size (Obj.mapSeq (·++its.toArray))).get? b=some o:=fun b o e=>
   (Heap.get?_update_other _ _ (Nat.ne_of_gt (Heap.lt_size e))).trans (Heap.get?_push_of_some _ e)
  refine collect_list pl.isList (hQ' _ _ ⟨⟨ks,hi,fun out ns' a1 a2 a3=>fin its { s with heap:=(s.heap.push (seqObj "list" #[] 0)).update s.heap.objs.size (Obj.mapSeq (·++its.toArray)) } k1 k2 rfl rfl rfl out ns' a1 a2 a3⟩,?_⟩) (by rw [← rv.length];exact hz)
  rw [← rv.length,List.length_map];exact h64
end
theorem argsMinD (a d:Value):argsOk "min" ⟨[a],[("default",d)]⟩:=by unfold argsOk;kernel_rfl
section
variable {prog:Program}{w:World}{A:Around}{R:Result→Shared→Prop}{it:Addr}{fps wrs:List Addr}{n:Nat}{P:Nat→Value→Prop}{T:Nat→Heap→Prop}
theorem nameMin:(toString "min"++toString ".loop":String)="min.loop":=by decide
theorem minD_loop (W:Walks prog w A.in1 it fps wrs n P T) (bt:Nat→Nat→Bool) (hcmp:CmpOf prog w A.in1 .Lt P bt) (kw:List (Str×Value)) (B:Addr) (hB:B∉fps) :
  ∀ (k j:Nat) (s:Shared) (vb:Value) (c:Nat),n - (j + 1)=k→j + 1≤n→T (j + 1) s.heap→P (argBest bt j) vb→s.heap.get? B=some { cls:=.type "list",dict:=none,data:=.seq #[vb,vb] c,slots:=#[] } →
   (∀ v h' tk,P (argBest bt (n - 1)) v→(∀ b o,b∉wrs→b≠B→s.heap.get? b=some o→h'.get? b=some o)→R (.ok (.ret v)) { s with heap:=h',toks:=tk }) →
   codeAny (model prog w) A (.builtin "min.loop" ⟨[.ref it,.none,.ref B],kw⟩) R s:=by
 have nB:B∉wrs:=fun m=>hB (W.sub _ m)
 intro k
 induction k with
 | zero=>
  intro j s vb c e1 e2 st pb gB fin
  have en:j + 1=n:=by omega
  refine codeAny_builtin F.entry_min_loop ?_
  rw [Around.under_plainId F.plain_min_loop _]
  show wpAny (model prog w) A.in1 (seqItems? (.ref B) >>= _) _ _ s
  refine wpAny_bind (wpAny_seqItems gB rfl ?_)
  show wpAny (model prog w) A.in1 (tryCatch (pyNext (.ref it)) _ >>= _) _ _ s
  refine wpAny_bind (wpAny_tryCatch (W.done s _ _ (en ▸ st) fun h1 t1 kp=>?_))
  have gB1:=kp B _ nB gB
  show wpAny (model prog w) A.in1 (updateSeq B (fun _=>#[]) >>= _) _ _ _
  refine wpAny_bind (wpAny_updateSeq gB1 rfl (wpAny_bind (wpAny_letGo (wpAny_pure ?_))))
  exact fin vb _ t1 (by rw [← en];exact pb) fun b o m1 m2 e=>(Heap.get?_update_other _ _ (Ne.symm m2)).trans (kp b o m1 e)
 | succ k ih=>
  intro j s vb c e1 e2 st pb gB fin
  have lt:j + 1 < n:=by omega
  refine codeAny_builtin F.entry_min_loop ?_
  rw [Around.under_plainId F.plain_min_loop _]
  show wpAny (model prog w) A.in1 (seqItems? (.ref B) >>= _) _ _ s
  refine wpAny_bind (wpAny_seqItems gB rfl ?_)
  show wpAny (model prog w) A.in1 (tryCatch (pyNext (.ref it)) _ >>= _) _ _ s
  refine wpAny_bind (wpAny_tryCatch (W.item (j + 1) s _ _ lt st fun v h1 t1 pv st1 kp=>?_))
  have gB1:=kp B _ nB gB
  show wpAny (model prog w) A.in1 (tryCatch (holding [v,v] (richCompare .Lt v vb >>= _)) _ >>= _) _ _ _
  refine wpAny_bind (wpAny_tryCatch (wpAny_holding (wpAny_bind (hcmp (j + 1) (argBest bt j) v vb _ _ _ pv pb ?_))))
  refine wpAny_bind (wpAny_holding (wpAny_truthy_bool (wpAny_bind (wpAny_letGo (wpAny_pure ?_)))))
  cases hb:bt (j + 1) (argBest bt j) with
  | true=>
   simp only [if_true]
   refine wpAny_bind (wpAny_updateSeq gB1 rfl (wpAny_bind (wpAny_letGo ?_)))
   rw [nameMin]
   refine wpAny_pure ⟨plainId_quiet F.plain_min_loop _,ih (j + 1) _ v _ (by omega) lt (W.frame _ _ _ st1 fun b m o e=>(Heap.get?_update_other _ _ (fun z:B=b=>hB (by rw [z];exact m))).trans e)
    (by simp only [argBest,hb,if_true];exact pv) (Heap.get?_update_self _ gB1 rfl) fun v2 h2 t2 p2 k2=>?_⟩
   exact fin v2 h2 t2 p2 fun b o m1 m2 e=>k2 b o m1 m2 ((Heap.get?_update_other _ _ (Ne.symm m2)).trans (kp b o m1 e))
  | false=>
   simp only [Bool.false_eq_true,if_false]
   refine wpAny_bind (wpAny_letGo ?_)
   rw [nameMin]
   refine wpAny_pure ⟨plainId_quiet F.plain_min_loop _,ih (j + 1) _ vb c (by omega) lt st1 (by simp only [argBest,hb,Bool.false_eq_true,if_false];exact pb) gB1 fun v2 h2 t2 p2 k2=>?_⟩
   exact fin v2 h2 t2 p2 fun b o m1 m2 e=>k2 b o m1 m2 (kp b o m1 e)
theorem minD_first (W:Walks prog w A.in1 it fps wrs n P T) (bt:Nat→Nat→Bool) (hcmp:CmpOf prog w A.in1 .Lt P bt) (key:Str) (dv:Value) (B:Addr) (hB:B∉fps) {s:Shared}{c:Nat} (st:T 0 s.heap)
  (gB:s.heap.get? B=some { cls:=.type "list",dict:=none,data:=.seq #[] c,slots:=#[] })
  (fin:∀ v h' tk,(n=0∧v=dv∨0 < n∧P (argBest bt (n - 1)) v)→(∀ b o,b∉wrs→b≠B→s.heap.get? b=some o→h'.get? b=some o)→R (.ok (.ret v)) { s with heap:=h',toks:=tk }) :
  codeAny (model prog w) A (.builtin "min.loop" ⟨[.ref it,.none,.ref B],[(key,dv)]⟩) R s:=by
 have nB:B∉wrs:=fun m=>hB (W.sub _ m)
 refine codeAny_builtin F.entry_min_loop ?_
 rw [Around.under_plainId F.plain_min_loop _]
 show wpAny (model prog w) A.in1 (seqItems? (.ref B) >>= _) _ _ s
 refine wpAny_bind (wpAny_seqItems gB rfl ?_)
 show wpAny (model prog w) A.in1 (tryCatch (pyNext (.ref it)) _ >>= _) _ _ s
 by_cases hn:0 < n
 ·refine wpAny_bind (wpAny_tryCatch (W.item 0 s _ _ hn st fun v h1 t1 pv st1 kp=>?_))
  have gB1:=kp B _ nB gB
  show wpAny (model prog w) A.in1 (updateSeq B (fun _=>#[v,v]) >>= _) _ _ _
  refine wpAny_bind (wpAny_updateSeq gB1 rfl ?_)
  rw [nameMin]
  refine wpAny_pure ⟨plainId_quiet F.plain_min_loop _,minD_loop W bt hcmp _ B hB _ 0 _ v _ rfl hn (W.frame _ _ _ st1 fun b m o e=>(Heap.get?_update_other _ _ (fun z:B=b=>hB (by rw [z];exact m))).trans e) pv (Heap.get?_update_self _ gB1 rfl) fun v2 h2 t2 p2 k2=>?_⟩
  exact fin v2 h2 t2 (.inr ⟨hn,p2⟩) fun b o m1 m2 e=>k2 b o m1 m2 ((Heap.get?_update_other _ _ (Ne.symm m2)).trans (kp b o m1 e))
 ·have en:n=0:=by omega
  refine wpAny_bind (wpAny_tryCatch (W.done s _ _ (en ▸ st) fun h1 t1 kp=>?_))
  show wpAny (model prog w) A.in1 (rule _ >>= fun _=>ret dv) _ _ _
  exact wpAny_bind (wpAny_rule (wpAny_pure (fin dv h1 t1 (.inl ⟨en,rfl⟩) fun b o m1 _ e=>kp b o m1 e)))
end
section
variable {prog:Program}{w:World}{A:Around}{E:Value→Shared→Prop}{s:Shared}
theorem call_tree_kw {id:String}{b:Builtin}{args:List Value}{kw:List (Str×Value)}{Q:Value→Shared→Prop} (hk:builtinKind id=none) (hp:plainId id=true) (hb:entryFor table id=some b) (ha:argsOk id ⟨args,kw⟩)
  (hc:wpAny (model prog w) A.in1 (b ⟨args,kw⟩) (fun fin s'=>match fin with
   | .done f=>(match (Except.ok f:Result) with | .ok (.ret v)=>Q v s' | .ok _=>False | .error e=>E e s')
   | .again c=>c.quiet=true∧codeAny (model prog w) A c (fun r s'=>match r with | .ok (.ret v)=>Q v s' | .ok _=>False | .error e=>E e s') s') E s):wpAny (model prog w) A (call (.builtin id) args kw) Q E s:=by
 refine wpAny_call (codeAny_call_builtin hp hb ?_)
 simp only [checkBuiltinCall,hk]
 cases hsig:Manifest.signature? id with
 | none=>exact wpAny_pure hc
 | some sig=>
  have h2:Bind.checkArgs id sig ⟨args,kw⟩=pure ():=by simpa only [argsOk,hsig] using ha
  simp only [h2]
  exact wpAny_pure hc
theorem ints_at:∀ {vs:List Value}{ns:List Int}{i:Nat}{v:Value},IntsAre vs ns→vs[i]? = some v→∃ t,v=Value.int (ns.getD i 0) t
 | _,_,_,_,.nil,e=>by simp at e
 | _,_,0,_,.cons n t h,e=>by
  have e':=Option.some.inj e
  subst e'
  exact ⟨t,rfl⟩
 | _,_,i + 1,v,.cons n t h,e=>by
  obtain ⟨u,eu⟩:=ints_at (i:=i) (v:=v) h (by simpa using e)
  exact ⟨u,by simpa using eu⟩
theorem mem_getD' {ns:List Int}{i:Nat} (h:i < ns.length):ns.getD i 0∈ns:=by
 rw [List.getD_eq_getElem?_getD,List.getElem?_eq_getElem h]
 exact List.getElem_mem h
theorem minD_list {l:Addr}{vs:List Value}{ns:List Int}{dv:Value}{Q:Value→Shared→Prop} (hh:A.handled=none) (hl:s.heap.IsList l vs.toArray) (hi:IntsAre vs ns)
  (fin:∀ v h' tk,(ns=[]∧v=dv∨∃ m t,v=.int m t∧m∈ns∧∀ x∈ns,m≤x)→(∀ b o,s.heap.get? b=some o→h'.get? b=some o)→Q v { s with heap:=h',toks:=tk }) :
  wpAny (model prog w) A (call (.builtin "min") [.ref l] [("default",dv)]) Q E s:=by
 refine call_tree_kw F.kind_min F.plain_min F.entry_min (argsMinD _ _) ?_
 show wpAny (model prog w) A.in1 (Builtin.Builtins.bindParams "min" ["key","default"] 0 ⟨[],[("default",dv)]⟩ >>= _) _ _ s
 refine wpAny_bind (wpAny_of_eq (show Builtin.Builtins.bindParams "min" ["key","default"] 0 ⟨[],[("default",dv)]⟩=pure [none,some dv] from rfl) ?_)
 refine wpAny_bind (wpAny_pure (wpAny_bind (wpAny_pyIter_list hl ?_)))
 refine wpAny_bind (wpAny_newObj_type ?_)
 rw [nameMin]
 have hls:l < s.heap.objs.size:=let ⟨_,ho,_⟩:=hl;Heap.lt_size ho
 have hsz:(s.heap.push { cls:=.type "list_iterator",data:=.fields #[.ref l,.int 0 0] }).objs.size=s.heap.objs.size + 1:=Heap.size_push ..
 have hv:∀ (i:Nat) (v:Value),vs.toArray[i]? = some v→∃ t,v=Value.int (ns.getD i 0) t:=fun i v e=>ints_at hi (by simpa using e)
 have hlen:vs.length=ns.length:=hi.length
 generalize hh1:s.heap.push { cls:=.type "list_iterator",data:=.fields #[.ref l,.int 0 0] }=h1 at *
 have g1:h1.get? s.heap.objs.size=some { cls:=.type "list_iterator",data:=.fields #[.ref l,.int 0 0] }:=by rw [← hh1];exact Heap.get?_push_size _ rfl
 have old:∀ b o,s.heap.get? b=some o→h1.get? b=some o:=fun b o e=>by rw [← hh1];exact Heap.get?_push_of_some _ e
 have nl:l≠s.heap.objs.size:=Nat.ne_of_lt hls
 have W:=Walks.list (prog:=prog) (w:=w) (A:=A.in1.in1) hh s.heap.objs.size l nl vs.toArray
 have hB:h1.objs.size∉[s.heap.objs.size,l]:=by
  intro m
  rcases List.mem_cons.mp m with z | z
  ·rw [hsz] at z;exact absurd z (Nat.ne_of_gt (Nat.lt_succ_self _))
  ·have z:=List.mem_singleton.mp z
   rw [hsz] at z
   exact absurd z (Nat.ne_of_gt (Nat.lt_succ_of_lt hls))
 refine wpAny_pure ⟨plainId_quiet F.plain_min_loop _,minD_first W.of_in1 (fun i j=>decide (ns.getD i 0 < ns.getD j 0)) (CmpOf.ints_lt (fun i=>ns.getD i 0) hv) _ dv h1.objs.size hB (c:=0) ?_ (Heap.get?_push_size _ rfl) fun v h' tk hres kp=>?_⟩
 ·exact ⟨⟨_,Heap.get?_push_of_some _ g1,rfl,rfl⟩,hl.at fun o e=>Heap.get?_push_of_some _ (old l o e)⟩
 ·refine fin v h' tk ?_ fun b o e=>kp b o ?_ ?_ (Heap.get?_push_of_some _ (old b o e))
  ·have hs2:vs.toArray.size=ns.length:=by rw [List.size_toArray,hlen]
   rw [hs2] at hres
   rcases hres with ⟨h0,e⟩ | ⟨h0,pv⟩
   ·exact .inl ⟨List.eq_nil_of_length_eq_zero h0,e⟩
   ·obtain ⟨t,e⟩:=hv _ v pv
    obtain ⟨a1,a2⟩:=argBest_lt (fun i=>ns.getD i 0) (ns.length - 1)
    refine .inr ⟨_,t,e,mem_getD' (by omega),fun x hx=>?_⟩
    obtain ⟨j,hj,rfl⟩:=List.getElem_of_mem hx
    have:=a2 j (by omega)
    rw [show ns[j]=ns.getD j 0 by rw [List.getD_eq_getElem?_getD,List.getElem?_eq_getElem hj];rfl]
    exact this
  ·intro m
   exact absurd (Heap.lt_size e) (by rw [List.mem_singleton.mp m];exact Nat.lt_irrefl _)
  ·intro z
   exact absurd (Heap.lt_size e) (by rw [z,hsz];exact Nat.not_lt.mpr (Nat.le_succ _))
end
section
variable {X:Cx}{p pos:Pos}{a:Expr}{ta td:TE}
def tMinD (K:PySem.W.Frag) (ta td:TE):TE:=fun σ H Q=>ta σ H fun x H1=>td σ H1 fun y H2=>∃ (l:Addr) (ns:List Int),x=.ref l∧SqL K H2 l (ns.map V.int)∧((ns=[]∧Q y H2)∨ns≠[]∧∀ m,m∈ns→(∀ n∈ns,m≤n)→Q (.int m) H2)
theorem pe_minD {b:Expr}{kp:Pos} (hc:X.calm=true) (hm:X.mg "min"=none) (ha:PE X a ta) (hb:PE X b td) (hg:Gl X "min":=by rfl) (hs:starEach [a] X.env=[(false,eval a X.env)]:=by rfl)
  (h1:backTo pos (starEach [a] X.env)=(false,eval a X.env)::backTo pos (starEach [] X.env):=by rfl) (h2:(backTo pos (starEach [a] X.env)).any (·.1)=false:=by rfl)
  (h3:(backToKw pos (keywordEach [⟨some "default",b,kp⟩] X.env)).all (·.1.isSome)=true:=by rfl) (h4:(backToKw pos (keywordEach [⟨some "default",b,kp⟩] X.env)).any (·.1.isNone)=false:=by rfl)
  (h5:(backToKw pos (keywordEach [⟨some "default",b,kp⟩] X.env)).filterMap (·.1)=[("default":Str)]:=by rfl) :
  PE X (.Call (.Name "min" p) [a] [⟨some "default",b,kp⟩] pos) (tMinD X.K ta td):=by
 intro pins s σ H Q I h
 refine wpAny_Call_Name_kw (ld_blt I hg hm (show bootBuiltins "min"=some (.builtin "min") by decide +kernel) ?_ (by decide) (by decide))
 refine callWith_kw ?_ h1 h2 h3 h4
 rw [h5]
 refine thn (pa_cons ha pa_nil hs pos pins s σ H (fun vs H1=>match vs with | [x]=>td σ H1 fun y H2=>∃ (l:Addr) (ns:List Int),x=.ref l∧SqL X.K H2 l (ns.map V.int)∧((ns=[]∧Q y H2)∨ns≠[]∧∀ m,m∈ns→(∀ n∈ns,m≤n)→Q (.int m) H2) | _=>False) I h) fun us s1 ⟨vs,H1,I1,rv,q1⟩=>?_
 rcases vs with _ | ⟨x,_ | ⟨x2,r2⟩⟩
 ·exact q1.elim
 ·obtain ⟨u,rfl,ru⟩:=vals1 rv
  refine kws_cons (thn (hb pins s1 σ H1 _ I1 q1) fun dv s2 ⟨y,H2,I2,ry,l,ns,ex,hq,q2⟩=>kws_nil ?_)
  subst ex
  cases ru
  obtain ⟨its,ri,pl,hz⟩:=I2.list hq
  refine minD_list (I2.ok.hd hc) pl.isList (intsAre_of ri) fun v h' tk hres kp=>?_
  rcases hres with ⟨en,ev⟩ | ⟨m,t,ev,hm1,hm2⟩
  ·subst ev
   rcases q2 with ⟨_,q2⟩ | ⟨ne,_⟩
   ·exact ⟨y,H2,I2.kept (t':=tk) kp,ry,q2⟩
   ·exact absurd en ne
  ·subst ev
   rcases q2 with ⟨en,_⟩ | ⟨_,q2⟩
   ·rw [en] at hm1;cases hm1
   ·exact ⟨.int m,H2,I2.kept (t':=tk) kp,⟨t,rfl⟩,q2 m hm1 hm2⟩
 ·exact q1.elim
end
end L2
namespace PySem
theorem ld_nokeys_list:typeLookup (.type "list") "keys"=pure none:=by rw [typeLookup_type,builtinLookup_eq_fast];kernel_rfl
theorem ld_nokeys_tuple:typeLookup (.type "tuple") "keys"=pure none:=by rw [typeLookup_type,builtinLookup_eq_fast];kernel_rfl
section
variable {prog:Program}{w:World}{A:Around}{E:Value→Shared→Prop}{s:Shared}{a:Addr}{xs:Array Value}{k:Nat}{sl:Array (Option Value)}{Q:Option Value→Shared→Prop}
theorem ld_keys_list (hx:s.heap.get? a=some { cls:=.type "list",dict:=none,data:=.seq xs k,slots:=sl }) (hA:A.handled=none)
  (h:∀ h' tk,(∀ b o,s.heap.get? b=some o→h'.get? b=some o)→Q none { s with heap:=h',toks:=tk }):wpAny (model prog w) A (getAttr? (.ref a) "keys") Q E s:=by
 obtain ⟨hp,g,d,tk,os⟩:=s
 have hT:∀ tk',(⟨hp,g,d,tk',os⟩:Shared).TypeIs (.ref a) "list":=fun _=>⟨_,hx,rfl⟩
 have f1:=sub_AttributeError
 have f3:=F.slot_list_getattribute.lookup
 have f4:=F.slot_list_getattribute.bind (.ref a)
 have f5:=am_list_getattr_none
 unfold getAttr? getAttrBy? getAttrBy
 repeat (any_goals (first | assumption | exact hT _ | ((with_reducible show wpAny _ _ (call (Value.builtin "list.__getattribute__") _ _) _ _ _);refine call_meets F.slot_list_getattribute (hT _) am_entry_list_getattribute (F.args_list_getattribute_2 _ _) (meets_getattribute_miss_list a xs k sl "keys" _ ld_nokeys_list (by decide +kernel)) ⟨hx,hA,fun h' tk' e hx'=>?_⟩) | wp_step))
 obtain ⟨t',u',he⟩:=hx'.there
 show wpAny _ _ (getattributeRaised _ _ _ _ _ _ _) _ _ _
 unfold getattributeRaised
 repeat (any_goals (first | assumption | wp_step))
 all_goals exact h _ _ hx'.keeps
theorem ld_keys_tuple (hx:s.heap.get? a=some { cls:=.type "tuple",dict:=none,data:=.seq xs k,slots:=sl }) (hA:A.handled=none)
  (h:∀ h' tk,(∀ b o,s.heap.get? b=some o→h'.get? b=some o)→Q none { s with heap:=h',toks:=tk }):wpAny (model prog w) A (getAttr? (.ref a) "keys") Q E s:=by
 obtain ⟨hp,g,d,tk,os⟩:=s
 have hT:∀ tk',(⟨hp,g,d,tk',os⟩:Shared).TypeIs (.ref a) "tuple":=fun _=>⟨_,hx,rfl⟩
 have f1:=sub_AttributeError
 have f3:=F.slot_tuple_getattribute.lookup
 have f4:=F.slot_tuple_getattribute.bind (.ref a)
 have f5:=am_tuple_getattr_none
 unfold getAttr? getAttrBy? getAttrBy
 repeat (any_goals (first | assumption | exact hT _ | ((with_reducible show wpAny _ _ (call (Value.builtin "tuple.__getattribute__") _ _) _ _ _);refine call_meets F.slot_tuple_getattribute (hT _) am_entry_tuple_getattribute (F.args_tuple_getattribute_2 _ _) (meets_getattribute_miss_tuple a xs k sl "keys" _ ld_nokeys_tuple (by decide +kernel)) ⟨hx,hA,fun h' tk' e hx'=>?_⟩) | wp_step))
 obtain ⟨t',u',he⟩:=hx'.there
 show wpAny _ _ (getattributeRaised _ _ _ _ _ _ _) _ _ _
 unfold getattributeRaised
 repeat (any_goals (first | assumption | wp_step))
 all_goals exact h _ _ hx'.keeps
end
end PySem
namespace L2
open PySem PySem.Spec PyProof.Rows
theorem ld_plain_loop:plainId "dict.update.loop"=true:=by decide +kernel
theorem ld_entry_loop:entryFor table "dict.update.loop"=some Builtin.«dict.update.loop»:=entryFor_of_fast (by kernel_rfl)
def pairAt {prog:Program}{w:World}{κ:Type} [DecidableEq κ] (knd:KeyKind prog w κ) (h:Heap) (no:List Addr) (v:Value) (p:κ×Value):Prop:=∃ a key,v=.ref a∧a∉no∧IsTup h a #[key,p.2]∧knd.is p.1 key=true
section
variable {prog:Program}{w:World}{A:Around}{R:Result→Shared→Prop}{κ:Type} [DecidableEq κ] {knd:KeyKind prog w κ}{it d:Addr}{fps wrs:List Addr}{n:Nat}{P:Nat→Value→Prop}{T:Nat→Heap→Prop}
theorem dictOf_loop (W:Walks prog w A.in1 it fps wrs n P T) (hd:d∉fps) (h0:Heap) (ps:List (κ×Value)) (hn:ps.length=n) (hP:∀ i v,P i v→∃ p,ps[i]? = some p∧pairAt knd h0 (d::wrs) v p) (res:Value) :
  ∀ (k i:Nat) (s:Shared) (m:List (κ×Value)) (tki:Tok),n - i=k→i≤n→T i s.heap→s.heap.DictOf knd d m→m.length + (n - i)≤sizeLine→(∀ b o,b∉d::wrs→h0.get? b=some o→s.heap.get? b=some o) →
   (∀ h' tk,h'.DictOf knd d ((ps.drop i).foldl (fun m p=>stored m p.1 p.2) m)→(∀ b o,b∉d::wrs→h0.get? b=some o→h'.get? b=some o)→R (.ok (.ret res)) { s with heap:=h',toks:=tk }) →
   codeAny (model prog w) A (.builtin "dict.update.loop" ⟨[.ref d,.ref it,.int i tki,res],[]⟩) R s:=by
 have nd:d∉wrs:=fun m=>hd (W.sub _ m)
 intro k
 induction k with
 | zero=>
  intro i s m tki e1 e2 st dm hz kp fin
  have en:i=n:=by omega
  subst en
  refine codeAny_builtin ld_entry_loop ?_
  rw [Around.under_plainId ld_plain_loop _]
  show wpAny (model prog w) A.in1 (pyNext (.ref it) >>= _) _ _ s
  refine wpAny_bind (W.done s _ _ st fun h1 t1 k1=>?_)
  show wpAny (model prog w) A.in1 (Builtin.Dict.addKeywords d [] >>= fun _=>ret res) _ _ _
  refine wpAny_bind (wpAny_pure (wpAny_pure (fin h1 t1 ?_ fun b o mb e=>k1 b o (fun z=>mb (List.mem_cons_of_mem _ z)) (kp b o mb e))))
  rw [List.drop_eq_nil_of_le (by omega)]
  obtain ⟨o,es,ep,ho,r⟩:=dm
  exact ⟨o,es,ep,k1 d o nd ho,r⟩
 | succ k ih=>
  intro i s m tki e1 e2 st dm hz kp fin
  have lt:i < n:=by omega
  refine codeAny_builtin ld_entry_loop ?_
  rw [Around.under_plainId ld_plain_loop _]
  show wpAny (model prog w) A.in1 (pyNext (.ref it) >>= _) _ _ s
  refine wpAny_bind (W.item i s _ _ lt st fun v h1 t1 pv st1 k1=>?_)
  obtain ⟨p,ep,a,key,rfl,na,hpt,hkey⟩:=hP i v pv
  have dm1:h1.DictOf knd d m:=by
   obtain ⟨o,es,ep,ho,r⟩:=dm
   exact ⟨o,es,ep,k1 d o nd ho,r⟩
  obtain ⟨oa,hoa,hca,na',hda⟩:=hpt
  have ga:h1.get? a=some oa:=k1 a oa (fun z=>na (List.mem_cons_of_mem _ z)) (kp a oa na hoa)
  refine wpAny_bind (wpAny_holding ?_)
  refine wpAny_bind (wpAny_tryCatch ?_)
  unfold Builtin.Dict.pairItems
  refine wpAny_bind (wpAny_typeOf (T:="tuple") ⟨oa,ga,hca⟩ ?_)
  rw [if_pos (by decide)]
  refine wpAny_bind (wpAny_seqItems ga hda (wpAny_pure ?_))
  refine wpAny_holding (wpAny_dictSet_pairs hkey dm1 (fun h2 dm2 sb=>?_) (by omega))
  have h2d:∀ b o,b≠d→h1.get? b=some o→h2.get? b=some o:=fun b o hb e=>(sb.2 b hb).trans e
  have st2:T (i + 1) h2:=W.frame _ _ _ st1 fun b mb o e=>h2d b o (fun z=>hd (by rw [← z];exact mb)) e
  have hl2:(stored m p.1 p.2).length≤m.length + 1:=by
   unfold stored
   split
   ·rw [List.length_map];exact Nat.le_succ _
   ·rw [List.length_append];exact Nat.le_refl _
  refine wpAny_pure ⟨plainId_quiet ld_plain_loop _,?_⟩
  refine ih (i + 1) _ (stored m p.1 p.2) 0 (by omega) lt st2 dm2 (by omega) (fun b o mb e=>h2d b o (fun z=>mb (by rw [z];exact List.mem_cons_self)) (k1 b o (fun z=>mb (List.mem_cons_of_mem _ z)) (kp b o mb e))) fun h3 t3 dm3 k3=>?_
  refine fin h3 t3 ?_ k3
  have hi:i < ps.length:=by omega
  have ep':ps[i]=p:=by rw [List.getElem?_eq_getElem hi] at ep;exact Option.some.inj ep
  rw [List.drop_eq_getElem_cons hi,List.foldl_cons,ep']
  exact dm3
theorem call_dict_seq {E:Value→Shared→Prop}{s:Shared}{x:Value}{Q:Value→Shared→Prop} (ps:List (κ×Value)) (hz:ps.length≤sizeLine) (T0:String) (hT0:(Value.type T0 != Value.type "dict")=true)
  (hty:∀ o,({ s with heap:=s.heap.push o }:Shared).TypeIs x T0)
  (hk:∀ (o:Obj) (Q':Option Value→Shared→Prop) (E':Value→Shared→Prop),(∀ h' tk,(∀ b ob,(s.heap.push o).get? b=some ob→h'.get? b=some ob)→Q' none { s with heap:=h',toks:=tk })→wpAny (model prog w) A.in1.in1 (getAttr? x "keys") Q' E' { s with heap:=s.heap.push o })
  (hi:∀ (s2:Shared) (Q':Value→Shared→Prop) (E':Value→Shared→Prop),(∀ b ob,s.heap.get? b=some ob→s2.heap.get? b=some ob)→(∃ o,s2.heap.get? s.heap.objs.size=some o) →
   (∀ I fps wrs n P T h3,Walks prog w A.in1.in1 I fps wrs n P T→T 0 h3→ps.length=n→s.heap.objs.size∉fps→(∀ b ob,s2.heap.get? b=some ob→h3.get? b=some ob)→(∀ b∈wrs,s.heap.get? b=none)→(∀ i v,P i v→∃ p,ps[i]? = some p∧pairAt knd s.heap (s.heap.objs.size::wrs) v p)→Q' (.ref I) { s2 with heap:=h3 }) →
   wpAny (model prog w) A.in1.in1 (pyIter x) Q' E' s2)
  (h:∀ h' tk,h'.DictOf knd s.heap.objs.size (ps.foldl (fun m p=>stored m p.1 p.2) [])→(∀ b o,s.heap.get? b=some o→h'.get? b=some o)→Q (.ref s.heap.objs.size) { s with heap:=h',toks:=tk }) :
  wpAny (model prog w) A (call (.type "dict") [x]) Q E s:=by
 refine callType_codes (Q₁:=fun obj s₁=>obj=.ref s.heap.objs.size∧s₁={ s with heap:=s.heap.push { cls:=.type "dict",data:=.dict #[] } }) F.kt_called_dict (F.kt_typeCall_dict_1 _) F.entry_dict_init (kt_code_dict_new _ ⟨rfl,rfl⟩) ?_
 rintro obj s₁ ⟨rfl,rfl⟩
 have hnew:(s.heap.push { cls:=.type "dict",data:=.dict #[] }).DictOf knd s.heap.objs.size []:=Heap.DictOf.new s.heap
 refine ⟨hnew.typeIs,F.args_dict_init_2 _ _,?_⟩
 unfold Builtin.«dict.__init__»
 refine wpAny_bind ?_
 unfold Builtin.Dict.selfAndRest
 refine wpAny_bind (wpAny_notOrdered_dict hnew.typeIs ?_)
 show wpAny (model prog w) _ (pure (s.heap.objs.size,[x])) _ _ _
 refine wpAny_pure ?_
 show wpAny (model prog w) _ (Builtin.Dict.updateFrom "dict.__init__" s.heap.objs.size x [] .none) _ _ _
 unfold Builtin.Dict.updateFrom
 refine wpAny_bind (wpAny_typeOf (hty _) ?_)
 rw [if_pos hT0]
 refine wpAny_bind (hk _ _ _ fun h1 t1 k1=>?_)
 refine wpAny_bind (wpAny_rule (wpAny_bind ?_))
 have o1:∀ b ob,s.heap.get? b=some ob→h1.get? b=some ob:=fun b ob e=>k1 b ob (Heap.get?_push_of_some _ e)
 refine hi { s with heap:=h1,toks:=t1 } _ _ o1 ⟨_,k1 _ _ (Heap.get?_push_size _ rfl)⟩ (fun I fps wrs n P T h3 W st hn hd k3 hw hP=>?_)
 have dm3:h3.DictOf knd s.heap.objs.size []:=by
  obtain ⟨o,es,ep,ho,r⟩:=hnew
  exact ⟨o,es,ep,k3 _ o (k1 _ o ho),r⟩
 refine wpAny_pure ⟨plainId_quiet ld_plain_loop _,dictOf_loop (A:=A.in1) W hd s.heap ps hn hP .none n 0 _ [] 0 rfl (Nat.zero_le _) st dm3 (by rw [List.length_nil];omega) (fun b o _ e=>k3 b o (o1 b o e)) fun h4 t4 dm4 k4=>?_⟩
 refine ⟨rfl,h h4 t4 (by simpa using dm4) fun b o e=>k4 b o (fun m=>?_) e⟩
 rcases List.mem_cons.mp m with z | z
 ·exact absurd (Heap.lt_size e) (by rw [z];exact Nat.lt_irrefl _)
 ·rw [hw b z] at e;cases e
end
section
variable {X:Cx}
theorem foldl_KV {κ:Type} [DecidableEq κ]:∀ {ps:List (κ×V)}{qs:List (κ×Value)}{m:List (κ×V)}{r:List (κ×Value)},KV ps qs→KV m r→KV (ps.foldl (fun m p=>putK m p.1 p.2) m) (qs.foldl (fun m p=>stored m p.1 p.2) r)
 | _,_,_,_,.nil,h=>h
 | _,_,_,_,.cons (a:=p) (b:=q) e t,h=>by
  rw [List.foldl_cons,List.foldl_cons]
  refine foldl_KV t ?_
  rw [← e.1]
  exact h.put p.1 e.2
def rDictOf (K:PySem.W.Frag):List V→Hp→VK→Prop:=fun xs H Q=>∃ (p:Addr) (ys:List V) (ps:List (Key×V)),xs=[.ref p]∧(SqL K H p ys∨SqT K H p ys)∧Paired (fun y (q:Key×V)=>∃ a,y=.ref a∧SqT K H a [kV q.1,q.2]) ys ps ∧
 ∀ l,H l=none→Q (.ref l) (upd H l (.dK (ps.foldl (fun m q=>putK m q.1 q.2) [])))
theorem pairs_of {pins:List (Addr×Obj)}{σ:St}{H:Hp}{s:Shared} (I:Inv X pins σ H s):∀ {ys:List V}{ps:List (Key×V)}{its:List Value},Paired (fun y (q:Key×V)=>∃ a,y=.ref a∧SqT X.K H a [kV q.1,q.2]) ys ps→Vals ys its →
  ∃ qs:List (Key×Value),KV ps qs∧∀ (i:Nat) (v:Value),its[i]? = some v→∃ q,qs[i]? = some q∧∃ a key,v=.ref a∧IsTup s.heap a #[key,q.2]∧(mixKind X.prog X.w).is q.1 key=true
 | _,_,_,.nil,.nil=>⟨[],.nil,fun i v e=>by simp at e⟩
 | _,_,_,.cons (b:=q) ⟨a,ey,hr⟩ t,.cons (b:=u) r rs=>by
  obtain ⟨qs,h1,h2⟩:=pairs_of I t rs
  subst ey
  cases r
  obtain ⟨us,ru,pt,_⟩:=I.tuple hr
  obtain ⟨key,x,rfl,rk,rx⟩:=vals2 ru
  refine ⟨(q.1,x)::qs,.cons ⟨rfl,rx⟩ h1,fun i v e=>?_⟩
  cases i with
  | zero=>
   have e':=Option.some.inj e
   subst e'
   exact ⟨_,rfl,a,key,rfl,pt,kV_is rk⟩
  | succ i=>
   obtain ⟨q',e1,e2⟩:=h2 i v (by simpa using e)
   exact ⟨q',by simpa using e1,e2⟩
theorem call_dictOf (hc:X.calm=true):CallR X (.type "dict") (rDictOf X.K):=by
 intro pins s σ H xs us Q I r h
 obtain ⟨p,ys,ps,rfl,hsrc,hps,q⟩:=h
 obtain ⟨u,rfl,ru⟩:=vals1 r
 cases ru
 have hh:X.A.handled=none:=I.ok.hd hc
 have big:=I.big
 have fin:∀ (its:List Value) (qs:List (Key×Value)),KV ps qs→ys.length≤sizeLine→∀ h' tk,h'.DictOf (mixKind X.prog X.w) s.heap.objs.size (qs.foldl (fun m p=>stored m p.1 p.2) [])→(∀ b o,s.heap.get? b=some o→h'.get? b=some o) →
   EP X pins σ Q (.ref s.heap.objs.size) { s with heap:=h',toks:=tk }:=by
  intro its qs hkv hz h' tk dm kp
  have rel:=foldl_KV (m:=[]) (r:=[]) hkv .nil
  have lenF:∀ (l:List (Key×V)) (m:List (Key×V)),(l.foldl (fun m q=>putK m q.1 q.2) m).length≤m.length + l.length:=by
   intro l
   induction l with
   | nil=>intro m;exact Nat.le_refl _
   | cons a l ih=>
    intro m
    rw [List.foldl_cons]
    have h1:=ih (putK m a.1 a.2)
    have h2:=length_putK m a.1 a.2
    rw [List.length_cons]
    omega
  have hl:ps.length=ys.length:=(Paired.length hps).symm
  refine ⟨.ref s.heap.objs.size,_,I.laid (a:=s.heap.objs.size) (o:=.dK _) (t':=tk) kp (Nat.le_refl _) (dk_new ?_ (beq_eq_false_iff_ne.mpr (Ne.symm (Nat.ne_of_lt big))) rel dm),rfl,q _ (I.hok.fresh (Nat.le_refl _))⟩
  have:=lenF ps []
  rw [List.length_nil] at this
  omega
 have lenQ:∀ {qs:List (Key×Value)},KV ps qs→qs.length=ys.length:=fun h=>by rw [← h.length];exact (Paired.length hps).symm
 have lts:∀ {s2:Shared},(∃ o,s2.heap.get? s.heap.objs.size=some o)→s.heap.objs.size < s2.heap.objs.size:=fun ⟨_,e⟩=>Heap.lt_size e
 rcases hsrc with hq | hq
 ·obtain ⟨its,rv,pl,hz⟩:=I.list hq
  obtain ⟨qs,hkv,hat⟩:=pairs_of I hps rv
  obtain ⟨o,n,ho,hoc,hod,hdat⟩:=pl
  have hp:p < s.heap.objs.size:=Heap.lt_size ho
  refine call_dict_seq (knd:=mixKind X.prog X.w) qs (by rw [lenQ hkv];exact hz) "list" (by decide) (fun ob=>⟨o,Heap.get?_push_of_some _ ho,hoc⟩) (fun ob Q' E' k=>?_) (fun s2 Q' E' o2 hS k=>?_) (fun h' tk dm kp=>fin its qs hkv hz h' tk dm kp)
  ·obtain ⟨c0,d0,dt0,sl0⟩:=o
   dsimp only at hoc hod hdat
   subst hoc hod hdat
   exact ld_keys_list (A:=X.A.in1.in1) (Heap.get?_push_of_some _ ho) hh fun h1 t1 kp=>k h1 t1 kp
  ·have hl2:s2.heap.IsList p its.toArray:=⟨o,o2 p o ho,hoc,n,hdat⟩
   refine wpAny_pyIter_list hl2 (k s2.heap.objs.size [s2.heap.objs.size,p] [s2.heap.objs.size] _ _ _ _ (Walks.list (A:=X.A.in1.in1) hh s2.heap.objs.size p (Nat.ne_of_lt (Nat.lt_trans hp (lts hS))) its.toArray) ⟨⟨_,Heap.get?_push_size _ rfl,rfl,rfl⟩,hl2.push _⟩ (by rw [lenQ hkv,List.size_toArray,← rv.length]) ?_ (fun b ob e=>Heap.get?_push_of_some _ e) ?_ fun i v e=>?_)
   ·intro m
    rcases List.mem_cons.mp m with z | z
    ·exact absurd z (Nat.ne_of_lt (lts hS))
    ·exact absurd (List.mem_singleton.mp z) (Nat.ne_of_gt hp)
   ·intro b m
    rw [List.mem_singleton.mp m]
    exact Heap.get?_none_of_le (Nat.le_of_lt (lts hS))
   ·obtain ⟨q',e1,a,key,e2,e3,e4⟩:=hat i v (by simpa using e)
    refine ⟨q',e1,a,key,e2,fun m=>?_,e3,e4⟩
    obtain ⟨oa,ha,_⟩:=e3
    rcases List.mem_cons.mp m with z | z
    ·exact absurd (Heap.lt_size ha) (by rw [z];exact Nat.lt_irrefl _)
    ·exact absurd (Heap.lt_size ha) (by rw [List.mem_singleton.mp z];exact Nat.not_lt.mpr (Nat.le_of_lt (lts hS)))
 ·obtain ⟨its,rv,⟨o,ho,hoc,hod,n,hdat⟩,hz⟩:=I.tupleN hq
  obtain ⟨qs,hkv,hat⟩:=pairs_of I hps rv
  have hp:p < s.heap.objs.size:=Heap.lt_size ho
  refine call_dict_seq (knd:=mixKind X.prog X.w) qs (by rw [lenQ hkv];exact hz) "tuple" (by decide) (fun ob=>⟨o,Heap.get?_push_of_some _ ho,hoc⟩) (fun ob Q' E' k=>?_) (fun s2 Q' E' o2 hS k=>?_) (fun h' tk dm kp=>fin its qs hkv hz h' tk dm kp)
  ·obtain ⟨c0,d0,dt0,sl0⟩:=o
   dsimp only at hoc hod hdat
   subst hoc hod hdat
   exact ld_keys_tuple (A:=X.A.in1.in1) (Heap.get?_push_of_some _ ho) hh fun h1 t1 kp=>k h1 t1 kp
  ·have hl2:s2.heap.IsTuple p its.toArray:=⟨o,o2 p o ho,hoc,n,hdat⟩
   refine wpAny_pyIter_tuple hl2 (k s2.heap.objs.size [s2.heap.objs.size,p] [s2.heap.objs.size] _ _ _ _ (Walks.tuple (A:=X.A.in1.in1) hh s2.heap.objs.size p (Nat.ne_of_lt (Nat.lt_trans hp (lts hS))) its.toArray) ⟨⟨_,Heap.get?_push_size _ rfl,rfl,rfl⟩,hl2.push _⟩ (by rw [lenQ hkv,List.size_toArray,← rv.length]) ?_ (fun b ob e=>Heap.get?_push_of_some _ e) ?_ fun i v e=>?_)
   ·intro m
    rcases List.mem_cons.mp m with z | z
    ·exact absurd z (Nat.ne_of_lt (lts hS))
    ·exact absurd (List.mem_singleton.mp z) (Nat.ne_of_gt hp)
   ·intro b m
    rw [List.mem_singleton.mp m]
    exact Heap.get?_none_of_le (Nat.le_of_lt (lts hS))
   ·obtain ⟨q',e1,a,key,e2,e3,e4⟩:=hat i v (by simpa using e)
    refine ⟨q',e1,a,key,e2,fun m=>?_,e3,e4⟩
    obtain ⟨oa,ha,_⟩:=e3
    rcases List.mem_cons.mp m with z | z
    ·exact absurd (Heap.lt_size ha) (by rw [z];exact Nat.lt_irrefl _)
    ·exact absurd (Heap.lt_size ha) (by rw [List.mem_singleton.mp z];exact Nat.not_lt.mpr (Nat.le_of_lt (lts hS)))
end
end L2
namespace L2.Ev
open PySem PySem.Spec PyProof.Rows
abbrev XN:=Str×Option Nat
inductive D where
 | non | bl (b:Bool) | int (i:Int) | str (x:Str) | tup (ds:List D) | lst (ds:List D) | fls (ds:List D) | dic (kvs:List (Key×D)) | dit (kvs:List (List Key×D)) | ins (cn:Str) (fs:List (Str×D)) | exc (cn:XN)
def Frz (K:PySem.W.Frag) (H:Hp) (a:Addr) (xs:List V):Prop:=(∃ o,H a=some (.frz o (.lst xs))) ∨
 ∃ (o:Obj) (its:Array Value) (n:Nat),K.lookup a=some o∧o.cls=.type "list"∧o.dict=none∧o.data=.seq its n∧its.size≤sizeLine∧Vals xs its.toList
theorem Frz.sq {K:PySem.W.Frag}{H:Hp}{a:Addr}{xs:List V} (h:Frz K H a xs):SqL K H a xs:=h.elim (fun z=>.inl (.inr z)) .inr
mutual
inductive Rep (K:PySem.W.Frag) (H:Hp):D→V→List Addr→Prop
 | non:Rep K H .non .non []
 | bl (b:Bool):Rep K H (.bl b) (.bl b) []
 | int (i:Int):Rep K H (.int i) (.int i) []
 | str (x:Str):Rep K H (.str x) (.str x) []
 | tup {a:Addr}{xs:List V}{ds:List D}{fp:List Addr}:SqT K H a xs→Reps K H ds xs fp→Rep K H (.tup ds) (.ref a) fp
 | lst {a:Addr}{xs:List V}{ds:List D}{fp:List Addr}:H a=some (.lst xs)→Reps K H ds xs fp→Rep K H (.lst ds) (.ref a) (a::fp)
 | lsf {a:Addr}{xs:List V}{ds:List D}{fp:List Addr}:Frz K H a xs→Reps K H ds xs fp→Rep K H (.fls ds) (.ref a) fp
 | dic {a:Addr}{kvs:List (Key×V)}{es:List (Key×D)}{fp:List Addr}:H a=some (.dK kvs)→es.map (·.1)=kvs.map (·.1)→Reps K H (es.map (·.2)) (kvs.map (·.2)) fp→Rep K H (.dic es) (.ref a) (a::fp)
 | dit {a:Addr}{kvs:List (List Key×V)}{es:List (List Key×D)}{fp:List Addr}:H a=some (.dT kvs)→es.map (·.1)=kvs.map (·.1)→Reps K H (es.map (·.2)) (kvs.map (·.2)) fp→Rep K H (.dit es) (.ref a) (a::fp)
 | ins {cn:Str}{a C dx:Addr}{fs:List (Str×V)}{es:List (Str×D)}{fp:List Addr}:PySem.W.nsIn K mainGlobals cn=some (some (.ref C))→H a=some (.ins C dx fs)→H dx=some (.own a)→es.map (·.1)=fs.map (·.1)→Reps K H (es.map (·.2)) (fs.map (·.2)) fp→Rep K H (.ins cn es) (.ref a) (a::dx::fp)
 | exc {cn:XN}{a C:Addr}{de:Option Addr}{ob:Obj}:PySem.W.nsIn K mainGlobals cn.1=some (some (.ref C))→H a=some (ExcF ob a (.ref C) de)→(∀ n,cn.2=some n→∃ dx,de=some dx∧H dx=some (XdO dx n))→Rep K H (.exc cn) (.ref a) []
inductive Reps (K:PySem.W.Frag) (H:Hp):List D→List V→List Addr→Prop
 | nil:Reps K H [] [] []
 | cons {d:D}{v:V}{ds:List D}{vs:List V}{f1 f2:List Addr}:Rep K H d v f1→Reps K H ds vs f2→Reps K H (d::ds) (v::vs) (f1++f2)
end
def Imm (H H':Hp):Prop:=(∀ a xs,H a=some (.tup xs)→H' a=some (.tup xs))∧(∀ a o u,H a=some (.frz o u)→H' a=some (.frz o u))∧∀ a φ,H a=some (.ext φ)→H' a=some (.ext φ)
theorem Imm.sqt {K:PySem.W.Frag}{H H':Hp}{a:Addr}{xs:List V} (i:Imm H H') (h:SqT K H a xs):SqT K H' a xs:=by
 rcases h with (h | ⟨o,h⟩) | h
 ·exact .inl (.inl (i.1 _ _ h))
 ·exact .inl (.inr ⟨o,i.2.1 _ _ _ h⟩)
 ·exact .inr h
theorem Imm.frz {K:PySem.W.Frag}{H H':Hp}{a:Addr}{xs:List V} (i:Imm H H') (h:Frz K H a xs):Frz K H' a xs:=by
 rcases h with ⟨o,h⟩ | h
 ·exact .inl ⟨o,i.2.1 _ _ _ h⟩
 ·exact .inr h
theorem Imm.of {H H':Hp} (h:Same H H'):Imm H H':=⟨fun _ _ e=>h _ _ e,fun _ _ _ e=>h _ _ e,fun _ _ e=>h _ _ e⟩
theorem Imm.trans {H H1 H2:Hp} (a:Imm H H1) (b:Imm H1 H2):Imm H H2:=⟨fun _ _ e=>b.1 _ _ (a.1 _ _ e),fun _ _ _ e=>b.2.1 _ _ _ (a.2.1 _ _ _ e),fun _ _ e=>b.2.2 _ _ (a.2.2 _ _ e)⟩
def MutO:HO→Bool
 | .lst _ | .dK _ | .dT _ | .ins _ _ _ | .own _=>true
 | _=>false
theorem Imm.upd {H:Hp}{p:Addr}{o o':HO} (h:H p=some o) (m:MutO o=true):Imm H (upd H p o'):=by
 refine ⟨fun a xs e=>?_,fun a q u e=>?_,fun a q e=>?_⟩
 ·rw [upd_ne]
  ·exact e
  ·rintro rfl;rw [h] at e;cases e;cases m
 ·rw [upd_ne]
  ·exact e
  ·rintro rfl;rw [h] at e;cases e;cases m
 ·rw [upd_ne]
  ·exact e
  ·rintro rfl;rw [h] at e;cases e;cases m
section
variable {K:PySem.W.Frag}{H H':Hp}
mutual
theorem Rep.frame:∀ {d:D}{v:V}{fp:List Addr},Rep K H d v fp→(∀ a∈fp,H' a=H a)→Imm H H'→Rep K H' d v fp
 | _,_,_,.non,_,_=>.non
 | _,_,_,.bl b,_,_=>.bl b
 | _,_,_,.int i,_,_=>.int i
 | _,_,_,.str x,_,_=>.str x
 | _,_,_,.tup h r,k,i=>.tup (i.sqt h) (Reps.frame r k i)
 | _,_,_,.lst h r,k,i=>.lst ((k _ List.mem_cons_self).trans h) (Reps.frame r (fun a m=>k a (List.mem_cons_of_mem _ m)) i)
 | _,_,_,.lsf h r,k,i=>.lsf (i.frz h) (Reps.frame r k i)
 | _,_,_,.dic h e r,k,i=>.dic ((k _ List.mem_cons_self).trans h) e (Reps.frame r (fun a m=>k a (List.mem_cons_of_mem _ m)) i)
 | _,_,_,.dit h e r,k,i=>.dit ((k _ List.mem_cons_self).trans h) e (Reps.frame r (fun a m=>k a (List.mem_cons_of_mem _ m)) i)
 | _,_,_,.exc g h p,k,i=>.exc g (i.2.1 _ _ _ h) fun n e=>let ⟨dx,q,z⟩:=p n e;⟨dx,q,i.2.2 _ _ z⟩
 | _,_,_,.ins g h h2 e r,k,i=>.ins g ((k _ List.mem_cons_self).trans h) ((k _ (List.mem_cons_of_mem _ List.mem_cons_self)).trans h2) e (Reps.frame r (fun a m=>k a (List.mem_cons_of_mem _ (List.mem_cons_of_mem _ m))) i)
theorem Reps.frame:∀ {ds:List D}{vs:List V}{fp:List Addr},Reps K H ds vs fp→(∀ a∈fp,H' a=H a)→Imm H H'→Reps K H' ds vs fp
 | _,_,_,.nil,_,_=>.nil
 | _,_,_,.cons h t,k,i=>.cons (Rep.frame h (fun a m=>k a (List.mem_append_left _ m)) i) (Reps.frame t (fun a m=>k a (List.mem_append_right _ m)) i)
end
mutual
theorem Rep.dom:∀ {d:D}{v:V}{fp:List Addr},Rep K H d v fp→∀ a∈fp,∃ o,H a=some o∧MutO o=true
 | _,_,_,.non,_,m=>nomatch m
 | _,_,_,.bl b,_,m=>nomatch m
 | _,_,_,.int i,_,m=>nomatch m
 | _,_,_,.str x,_,m=>nomatch m
 | _,_,_,.tup h r,a,m=>Reps.dom r a m
 | _,_,_,.lst h r,a,m=>(List.mem_cons.mp m).elim (fun e=>⟨_,e ▸ h,rfl⟩) fun m=>Reps.dom r a m
 | _,_,_,.lsf h r,a,m=>Reps.dom r a m
 | _,_,_,.dic h e r,a,m=>(List.mem_cons.mp m).elim (fun e=>⟨_,e ▸ h,rfl⟩) fun m=>Reps.dom r a m
 | _,_,_,.dit h e r,a,m=>(List.mem_cons.mp m).elim (fun e=>⟨_,e ▸ h,rfl⟩) fun m=>Reps.dom r a m
 | _,_,_,.exc _ _ _,_,m=>nomatch m
 | _,_,_,.ins _ h h2 e r,a,m=>(List.mem_cons.mp m).elim (fun e=>⟨_,e ▸ h,rfl⟩) fun m=>(List.mem_cons.mp m).elim (fun e=>⟨_,e ▸ h2,rfl⟩) fun m=>Reps.dom r a m
theorem Reps.dom:∀ {ds:List D}{vs:List V}{fp:List Addr},Reps K H ds vs fp→∀ a∈fp,∃ o,H a=some o∧MutO o=true
 | _,_,_,.nil,_,m=>nomatch m
 | _,_,_,.cons h t,a,m=>(List.mem_append.mp m).elim (Rep.dom h a) (Reps.dom t a)
end
theorem Rep.same {d:D}{v:V}{fp:List Addr} (h:Rep K H d v fp) (s:Same H H'):Rep K H' d v fp:=
 h.frame (fun a m=>let ⟨o,e,_⟩:=h.dom a m;(s a o e).trans e.symm) (.of s)
theorem Reps.same {ds:List D}{vs:List V}{fp:List Addr} (h:Reps K H ds vs fp) (s:Same H H'):Reps K H' ds vs fp:=
 h.frame (fun a m=>let ⟨o,e,_⟩:=h.dom a m;(s a o e).trans e.symm) (.of s)
theorem Reps.length:∀ {ds:List D}{vs:List V}{fp:List Addr},Reps K H ds vs fp→ds.length=vs.length
 | _,_,_,.nil=>rfl
 | _,_,_,.cons _ t=>by rw [List.length_cons,List.length_cons,Reps.length t]
theorem Reps.get:∀ {ds:List D}{vs:List V}{fp:List Addr}{i:Nat}{d:D},Reps K H ds vs fp→ds[i]? = some d→∃ v f,vs[i]? = some v∧Rep K H d v f∧∀ a∈f,a∈fp
 | _,_,_,_,_,.nil,e=>by simp at e
 | _,_,_,0,_,.cons h t,e=>by
  have e':=Option.some.inj e
  subst e'
  exact ⟨_,_,rfl,h,fun a m=>List.mem_append_left _ m⟩
 | _,_,_,i + 1,d,.cons h t,e=>by
  obtain ⟨v,f,e1,r,s⟩:=Reps.get (i:=i) (d:=d) t (by simpa using e)
  exact ⟨v,f,by simpa using e1,r,fun a m=>List.mem_append_right _ (s a m)⟩
theorem Reps.append:∀ {ds es:List D}{vs ws:List V}{f g:List Addr},Reps K H ds vs f→Reps K H es ws g→Reps K H (ds++es) (vs++ws) (f++g)
 | _,_,_,_,_,_,.nil,s=>s
 | _,_,_,_,_,g,.cons h t,s=>by
  rw [List.append_assoc]
  exact .cons h (Reps.append t s)
end
theorem Rep.int_of {K:PySem.W.Frag}{H:Hp}{i:Int}{v:V}{fp:List Addr} (r:Rep K H (.int i) v fp):v=.int i∧fp=[]:=by cases r;exact ⟨rfl,rfl⟩
theorem Rep.bl_of {K:PySem.W.Frag}{H:Hp}{i:Bool}{v:V}{fp:List Addr} (r:Rep K H (.bl i) v fp):v=.bl i∧fp=[]:=by cases r;exact ⟨rfl,rfl⟩
theorem Rep.str_of {K:PySem.W.Frag}{H:Hp}{i:Str}{v:V}{fp:List Addr} (r:Rep K H (.str i) v fp):v=.str i∧fp=[]:=by cases r;exact ⟨rfl,rfl⟩
theorem Rep.non_of {K:PySem.W.Frag}{H:Hp}{v:V}{fp:List Addr} (r:Rep K H .non v fp):v=.non∧fp=[]:=by cases r;exact ⟨rfl,rfl⟩
mutual
def imm:D→Bool
 | .lst _ | .dic _ | .dit _ | .ins _ _=>false
 | .tup ds=>immAll ds
 | .fls ds=>immAll ds
 | _=>true
def immAll:List D→Bool
 | []=>true
 | d::ds=>imm d&&immAll ds
end
section
variable {K:PySem.W.Frag}{H H':Hp}
mutual
theorem Rep.imm:∀ {d:D}{v:V}{fp:List Addr},Rep K H d v fp→imm d=true→fp=[]
 | _,_,_,.non,_=>rfl
 | _,_,_,.bl _,_=>rfl
 | _,_,_,.int _,_=>rfl
 | _,_,_,.str _,_=>rfl
 | _,_,_,.tup _ r,e=>Reps.imm r (by unfold L2.Ev.imm at e;exact e)
 | _,_,_,.lst _ _,e=>by unfold L2.Ev.imm at e;cases e
 | _,_,_,.lsf _ r,e=>by unfold L2.Ev.imm at e;exact Reps.imm r e
 | _,_,_,.dic _ _ _,e=>by unfold L2.Ev.imm at e;cases e
 | _,_,_,.dit _ _ _,e=>by unfold L2.Ev.imm at e;cases e
 | _,_,_,.ins _ _ _ _ _,e=>by unfold L2.Ev.imm at e;cases e
 | _,_,_,.exc _ _ _,_=>rfl
theorem Reps.imm:∀ {ds:List D}{vs:List V}{fp:List Addr},Reps K H ds vs fp→immAll ds=true→fp=[]
 | _,_,_,.nil,_=>rfl
 | _,_,_,.cons h t,e=>by
  unfold immAll at e
  obtain ⟨a,b⟩:=(Bool.and_eq_true _ _).mp e
  rw [Rep.imm h a,Reps.imm t b]
  rfl
end
end
inductive Tag where
 | own | lk | sh (o:List Nat)
abbrev Slot:=Option (D×Tag)
abbrev Rho:=List Slot
def InZ (z:Addr→Option Nat) (i:Nat):Tag→List Addr→Prop
 | .sh o,fp=>∀ a∈fp,∀ j,z a=some j→j∈o
 | _,fp=>fp.Nodup∧∀ a∈fp,z a=some i
def NoOwn (ρ:Rho) (j:Nat):Prop:=∀ d,ρ[j]?≠some (some (d,.own))
structure Held where
 d:D
 v:V
 fp:List Addr
 z0:Addr→Option Nat
structure Ok (K:PySem.W.Frag) (H0:Hp) (S:List Addr) (z:Addr→Option Nat) (held:List Held) (ρ:Rho) (σ:St) (H:Hp):Prop where
 sl:∀ i d t,ρ[i]? = some (some (d,t))→∃ v fp,σ[i]? = some (some v)∧Rep K H d v fp∧InZ z i t fp
 hl:∀ p∈held,Rep K H p.d p.v p.fp∧∀ a∈p.fp,∀ j,z a=some j→p.z0 a=some j∧NoOwn ρ j
 zd:∀ a j,z a=some j→(∃ o,H a=some o)∧(H0 a=none∨a∈S)
 en:∀ a o,H0 a=some o→a∉S→H a=some o
 ln:ρ.length=σ.length
theorem Ok.same {K:PySem.W.Frag}{H0:Hp}{S:List Addr}{z:Addr→Option Nat}{held:List Held}{ρ:Rho}{σ:St}{H H':Hp} (h:Ok K H0 S z held ρ σ H) (s:Same H H'):Ok K H0 S z held ρ σ H':=
 ⟨fun i d t e=>let ⟨v,fp,a,b,c⟩:=h.sl i d t e;⟨v,fp,a,b.same s,c⟩,fun p m=>let ⟨a,b⟩:=h.hl p m;⟨a.same s,b⟩,
  fun a j e=>let ⟨⟨o,x⟩,y⟩:=h.zd a j e;⟨⟨o,s _ _ x⟩,y⟩,fun a o e n=>s _ _ (h.en a o e n),h.ln⟩
def TagOk (z:Addr→Option Nat) (H:Hp):Tag→List Addr→Prop
 | .sh o,fp=>∀ a∈fp,∀ j,z a=some j→j∈o
 | _,fp=>fp.Nodup∧∀ a∈fp,H a=none
theorem TagOk.nil {z:Addr→Option Nat}{H:Hp}{t:Tag}:TagOk z H t []:=by
 cases t with
 | sh o=>intro a m;cases m
 | own=>exact ⟨List.nodup_nil,fun a m=>nomatch m⟩
 | lk=>exact ⟨List.nodup_nil,fun a m=>nomatch m⟩
abbrev EF:=Rho→Option (D×Tag)
def FP (X:Cx) (e:Expr) (f:EF):Prop:=∃ t,PE X e t∧∀ (H0:Hp) (S:List Addr) (z:Addr→Option Nat) (held:List Held) (ρ:Rho) (σ:St) (H:Hp) (Q:VK) (d:D) (tg:Tag),
 Ok X.K H0 S z held ρ σ H→f ρ=some (d,tg)→(∀ H' v fp,Same H H'→Rep X.K H' d v fp→TagOk z H tg fp→Q v H')→t σ H Q
abbrev AF:=Rho→Option (List (D×Tag))
abbrev TF:=Rho→Option Bool
def FT (X:Cx) (e:Expr) (f:TF):Prop:=∃ t,PT X e t∧∀ (H0:Hp) (S:List Addr) (z:Addr→Option Nat) (held:List Held) (ρ:Rho) (σ:St) (H:Hp) (Q:Bool→Hp→Prop) (b:Bool),
 Ok X.K H0 S z held ρ σ H→f ρ=some b→(∀ H',Same H H'→Q b H')→t σ H Q
def tagOf (i:Nat):Tag→Tag
 | .sh o=>.sh o
 | _=>.sh [i]
def eVar (i:Nat):EF:=fun ρ=>match ρ[i]? with
 | some (some (d,t))=>some (d,tagOf i t)
 | _=>none
section
variable {X:Cx}
theorem fp_var (i:Nat) {x:Str}{pos:Pos} (hN:X.N[i]? = some x:=by rfl) (hv:Vis X.env.scope x:=by first | exact Or.inl rfl | exact Or.inr (Or.inl rfl) | exact Or.inr (Or.inr rfl)) (hd:(x == ("__debug__":Str))=false:=by decide)
  (hcd:(x == ("__classdict__":Str))=false:=by decide):FP X (.Name x pos) (eVar i):=by
 refine ⟨_,pe_var (i:=i) hN hv hd hcd,fun H0 S z held ρ σ H Q d tg ok e q=>?_⟩
 unfold eVar at e
 cases h:ρ[i]? with
 | none=>rw [h] at e;cases e
 | some s=>
  cases s with
  | none=>rw [h] at e;cases e
  | some p=>
   obtain ⟨d',t⟩:=p
   rw [h] at e
   have e':=Option.some.inj e
   have e1:d'=d:=congrArg Prod.fst e'
   have e2:tagOf i t=tg:=congrArg Prod.snd e'
   subst e1 e2
   obtain ⟨v,fp,hs,r,zz⟩:=ok.sl i d' t h
   refine ⟨v,hs,q H v fp (Same.refl H) r ?_⟩
   cases t with
   | sh o=>exact zz
   | own=>intro a m j ej;rw [zz.2 a m] at ej;cases ej;exact List.mem_cons_self
   | lk=>intro a m j ej;rw [zz.2 a m] at ej;cases ej;exact List.mem_cons_self
def eC (d:D):EF:=fun _=>some (d,.own)
theorem fp_int {i j pos}:FP X (.Constant (.int i) j pos) (eC (.int i)):=⟨_,pe_int,fun _ _ _ _ _ _ H _ _ _ _ e q=>by cases e;exact q H _ _ (Same.refl H) (.int i) .nil⟩
theorem fp_bl {b j pos}:FP X (.Constant (.bool b) j pos) (eC (.bl b)):=⟨_,pe_bl,fun _ _ _ _ _ _ H _ _ _ _ e q=>by cases e;exact q H _ _ (Same.refl H) (.bl b) .nil⟩
theorem fp_non {j pos}:FP X (.Constant .none j pos) (eC .non):=⟨_,pe_non,fun _ _ _ _ _ _ H _ _ _ _ e q=>by cases e;exact q H _ _ (Same.refl H) .non .nil⟩
theorem fp_str {x j pos}:FP X (.Constant (.str x) j pos) (eC (.str x)):=⟨_,pe_str,fun _ _ _ _ _ _ H _ _ _ _ e q=>by cases e;exact q H _ _ (Same.refl H) (.str x) .nil⟩
def e2 (op:D→D→Option D) (fa fb:EF):EF:=fun ρ=>match fa ρ,fb ρ with
 | some (d1,_),some (d2,_)=>(op d1 d2).map fun d=>(d,.own)
 | _,_=>none
theorem e2_of {op:D→D→Option D}{fa fb:EF}{ρ:Rho}{d:D}{tg:Tag} (e:e2 op fa fb ρ=some (d,tg)):∃ d1 t1 d2 t2,fa ρ=some (d1,t1)∧fb ρ=some (d2,t2)∧op d1 d2=some d∧tg=.own:=by
 unfold e2 at e
 cases h1:fa ρ with
 | none=>rw [h1] at e;cases e
 | some p=>
  obtain ⟨d1,t1⟩:=p
  cases h2:fb ρ with
  | none=>rw [h1,h2] at e;cases e
  | some p=>
   obtain ⟨d2,t2⟩:=p
   rw [h1,h2] at e
   dsimp only at e
   cases h3:op d1 d2 with
   | none=>rw [h3] at e;cases e
   | some d3=>
    rw [h3] at e
    cases e
    exact ⟨d1,t1,d2,t2,rfl,rfl,h3,rfl⟩
def Does2 (K:PySem.W.Frag) (r:R2) (op:D→D→Option D):Prop:=∀ (H:Hp) (x y:V) (d1 d2:D) (f1 f2:List Addr) (d:D) (Q:VK),Rep K H d1 x f1→Rep K H d2 y f2→op d1 d2=some d →
 (∀ H' v,Same H H'→Rep K H' d v []→Q v H')→r x y H Q
theorem fp_2 {a b e:Expr}{fa fb:EF}{r:R2}{op:D→D→Option D} (dd:Does2 X.K r op) (ha:FP X a fa) (hb:FP X b fb) (he:∀ ta tb,PE X a ta→PE X b tb→PE X e (tOp r ta tb)):FP X e (e2 op fa fb):=by
 obtain ⟨ta,pa,sa⟩:=ha
 obtain ⟨tb,pb,sb⟩:=hb
 refine ⟨_,he ta tb pa pb,fun H0 S z held ρ σ H Q d tg ok e q=>?_⟩
 obtain ⟨d1,t1,d2,t2,e1,e2',e3,rfl⟩:=e2_of e
 refine sa H0 S z held ρ σ H _ d1 t1 ok e1 fun H1 x f1 s1 r1 _=>?_
 refine sb H0 S z held ρ σ H1 _ d2 t2 (ok.same s1) e2' fun H2 y f2 s2 r2 _=>?_
 exact dd H2 x y d1 d2 f1 f2 d Q (r1.same s2) r2 e3 fun H3 v s3 r3=>q H3 v [] ((s1.trans s2).trans s3) r3 .nil
end
end L2.Ev
namespace L2.Ev
open PySem PySem.Spec PyProof.Rows
def joinT:Tag→Tag→Tag
 | .sh o,.sh p=>.sh (o++p)
 | .sh o,_=>.sh o
 | _,t=>t
def joinA:List (D×Tag)→Tag
 | []=>.own
 | p::r=>joinT p.2 (joinA r)
def FA (X:Cx) (es:List Expr) (f:AF):Prop:=∃ t,PA X es t∧(∀ ρ ps,f ρ=some ps→ps.length=es.length)∧∀ (H0:Hp) (S:List Addr) (z:Addr→Option Nat) (held:List Held) (ρ:Rho) (σ:St) (H:Hp) (Q:List V→Hp→Prop) (ps:List (D×Tag)),
 Ok X.K H0 S z held ρ σ H→f ρ=some ps→(∀ H' vs fp,Same H H'→Reps X.K H' (ps.map (·.1)) vs fp→TagOk z H (joinA ps) fp→Q vs H')→t σ H Q
def aNil:AF:=fun _=>some []
def aCons (f:EF) (g:AF):AF:=fun ρ=>match f ρ,g ρ with
 | some p,some ps=>some (p::ps)
 | _,_=>none
theorem aCons_of {f:EF}{g:AF}{ρ:Rho}{ps:List (D×Tag)} (e:aCons f g ρ=some ps):∃ d t r,f ρ=some (d,t)∧g ρ=some r∧ps=(d,t)::r:=by
 unfold aCons at e
 cases h1:f ρ with
 | none=>rw [h1] at e;cases e
 | some p=>
  cases h2:g ρ with
  | none=>rw [h1,h2] at e;cases e
  | some r=>
   rw [h1,h2] at e
   cases e
   exact ⟨p.1,p.2,r,rfl,rfl,rfl⟩
theorem TagOk.join {K:PySem.W.Frag}{H0:Hp}{S:List Addr}{z:Addr→Option Nat}{held:List Held}{ρ:Rho}{σ:St}{H H1:Hp}{t1 t2:Tag}{f1 f2:List Addr} (ok:Ok K H0 S z held ρ σ H) (s:Same H H1)
  (h1:TagOk z H t1 f1) (d1:∀ a∈f1,∃ o,H1 a=some o∧MutO o=true) (h2:TagOk z H1 t2 f2):TagOk z H (joinT t1 t2) (f1++f2):=by
 have nz:∀ {a:Addr}{j:Nat},H a=none→z a=some j→False:=fun {a j} e q=>by
  obtain ⟨⟨o,w⟩,_⟩:=ok.zd a j q
  rw [e] at w;cases w
 have both:∀ {t1 t2:Tag},(f1.Nodup∧∀ a∈f1,H a=none)→(f2.Nodup∧∀ a∈f2,H1 a=none)→(f1++f2).Nodup∧∀ a∈f1++f2,H a=none:=fun p q=>by
  refine ⟨List.nodup_append.mpr ⟨p.1,q.1,fun a m b m' e=>?_⟩,fun a m=>?_⟩
  ·subst e
   obtain ⟨o,w,_⟩:=d1 a m
   rw [q.2 a m'] at w;cases w
  ·rcases List.mem_append.mp m with m | m
   ·exact p.2 a m
   ·exact s.free (q.2 a m)
 cases t1 with
 | sh o=>
  have h1':∀ a∈f1,∀ j,z a=some j→j∈o:=h1
  cases t2 with
  | sh p=>
   intro a m j q
   rcases List.mem_append.mp m with m | m
   ·exact List.mem_append_left _ (h1' a m j q)
   ·exact List.mem_append_right _ (h2 a m j q)
  | own=>
   intro a m j q
   rcases List.mem_append.mp m with m | m
   ·exact h1' a m j q
   ·exact (nz (s.free (h2.2 a m)) q).elim
  | lk=>
   intro a m j q
   rcases List.mem_append.mp m with m | m
   ·exact h1' a m j q
   ·exact (nz (s.free (h2.2 a m)) q).elim
 | own=>
  cases t2 with
  | sh p=>
   intro a m j q
   rcases List.mem_append.mp m with m | m
   ·exact (nz (h1.2 a m) q).elim
   ·exact h2 a m j q
  | own=>exact both (t1:=.own) (t2:=.own) h1 h2
  | lk=>exact both (t1:=.own) (t2:=.own) h1 h2
 | lk=>
  cases t2 with
  | sh p=>
   intro a m j q
   rcases List.mem_append.mp m with m | m
   ·exact (nz (h1.2 a m) q).elim
   ·exact h2 a m j q
  | own=>exact both (t1:=.own) (t2:=.own) h1 h2
  | lk=>exact both (t1:=.own) (t2:=.own) h1 h2
section
variable {X:Cx}{pos:Pos}
theorem fa_nil:FA X [] aNil:=⟨_,pa_nil,fun _ _ e=>by cases e;rfl,fun _ _ _ _ _ _ H _ _ _ e q=>by cases e;exact q H _ _ (Same.refl H) .nil .nil⟩
theorem fa_cons {e:Expr}{es:List Expr}{f:EF}{g:AF} (ha:FP X e f) (hr:FA X es g) (hs:starEach (e::es) X.env=(false,eval e X.env)::starEach es X.env:=by rfl):FA X (e::es) (aCons f g):=by
 obtain ⟨t,p,q⟩:=ha
 obtain ⟨t',p',l',q'⟩:=hr
 refine ⟨_,pa_cons p p' hs,fun ρ ps e=>by obtain ⟨d,tg,r,e1,e2,rfl⟩:=aCons_of e;rw [List.length_cons,List.length_cons,l' ρ r e2],fun H0 S z held ρ σ H Q ps ok e k=>?_⟩
 obtain ⟨d,tg,r,e1,e2,rfl⟩:=aCons_of e
 refine q H0 S z held ρ σ H _ d tg ok e1 fun H1 v f1 s1 r1 g1=>?_
 refine q' H0 S z held ρ σ H1 _ r (ok.same s1) e2 fun H2 vs f2 s2 r2 g2=>?_
 exact k H2 (v::vs) (f1++f2) (s1.trans s2) (.cons (r1.same s2) r2) (TagOk.join ok s1 g1 r1.dom g2)
def eTup (g:AF):EF:=fun ρ=>(g ρ).map fun ps=>(.tup (ps.map (·.1)),joinA ps)
theorem fp_tup {es:List Expr}{g:AF} {x1} (h:FA X es g) (hl:es.length≤1000:=by decide):FP X (.Tuple es x1 pos) (eTup g):=by
 obtain ⟨t,p,hg,q⟩:=h
 refine ⟨_,pe_tup p,fun H0 S z held ρ σ H Q d tg ok e k=>?_⟩
 unfold eTup at e
 cases h1:g ρ with
 | none=>rw [h1] at e;cases e
 | some ps=>
  rw [h1] at e
  cases e
  refine q H0 S z held ρ σ H _ ps ok h1 fun H1 vs fp s1 r1 g1=>⟨?_,fun a ha=>?_⟩
  ·rw [← r1.length,List.length_map,hg ρ ps h1]
   exact Nat.le_of_lt (small1000 hl)
  ·have s2:Same H1 (upd H1 a (.tup vs)):=fun b o e=>by rw [upd_ne (ne_of_none e ha)];exact e
   exact k _ _ fp (s1.trans s2) (.tup (SqT.of upd_same) (r1.same s2)) g1
def eLst (g:AF):EF:=fun ρ=>(g ρ).map fun ps=>(.lst (ps.map (·.1)),joinA ps)
theorem TagOk.cons {K:PySem.W.Frag}{H0:Hp}{S:List Addr}{z:Addr→Option Nat}{held:List Held}{ρ:Rho}{σ:St}{H H1:Hp}{t:Tag}{fp:List Addr}{a:Addr} (ok:Ok K H0 S z held ρ σ H) (s:Same H H1) (h:TagOk z H t fp)
  (d:∀ b∈fp,∃ o,H1 b=some o∧MutO o=true) (ha:H1 a=none):TagOk z H t (a::fp):=by
 have na:H a=none:=s.free ha
 have both:(fp.Nodup∧∀ b∈fp,H b=none)→(a::fp).Nodup∧∀ b∈a::fp,H b=none:=fun p=>by
  refine ⟨List.nodup_cons.mpr ⟨fun m=>?_,p.1⟩,fun b m=>?_⟩
  ·obtain ⟨o,w,_⟩:=d a m
   rw [ha] at w;cases w
  ·rcases List.mem_cons.mp m with e | m
   ·rw [e];exact na
   ·exact p.2 b m
 cases t with
 | sh o=>
  intro b m j q
  rcases List.mem_cons.mp m with e | m
  ·obtain ⟨⟨o,w⟩,_⟩:=ok.zd b j q
   rw [e,na] at w;cases w
  ·exact h b m j q
 | own=>exact both h
 | lk=>exact both h
theorem fp_lst {es:List Expr}{g:AF} (h:FA X es g) (hl:es.length≤1000:=by decide):FP X (.List es pos) (eLst g):=by
 obtain ⟨t,p,hg,q⟩:=h
 refine ⟨_,pe_lst p,fun H0 S z held ρ σ H Q d tg ok e k=>?_⟩
 unfold eLst at e
 cases h1:g ρ with
 | none=>rw [h1] at e;cases e
 | some ps=>
  rw [h1] at e
  cases e
  refine q H0 S z held ρ σ H _ ps ok h1 fun H1 vs fp s1 r1 g1=>⟨?_,fun a ha=>?_⟩
  ·rw [← r1.length,List.length_map,hg ρ ps h1]
   exact Nat.le_of_lt (small1000 hl)
  ·have s2:Same H1 (upd H1 a (.lst vs)):=fun b o e=>by rw [upd_ne (ne_of_none e ha)];exact e
   exact k _ _ (a::fp) (s1.trans s2) (.lst upd_same (r1.same s2)) (g1.cons ok s1 r1.dom ha)
end
def spF (K:PySem.W.Frag) (F:List D→Option D):Sp:=fun vs H Q _=>∃ ds fp d,Reps K H ds vs fp∧F ds=some d∧∀ H' v fp',Same H H'→Rep K H' d v fp'→fp'.Nodup→(∀ a∈fp',H a=none)→Q v H'
def eCall (F:List D→Option D) (g:AF):EF:=fun ρ=>(g ρ).bind fun ps=>(F (ps.map (·.1))).map fun d=>(d,.own)
theorem eCall_of {F:List D→Option D}{g:AF}{ρ:Rho}{d:D}{tg:Tag} (e:eCall F g ρ=some (d,tg)):∃ ps,g ρ=some ps∧F (ps.map (·.1))=some d∧tg=.own:=by
 unfold eCall at e
 cases h1:g ρ with
 | none=>rw [h1] at e;cases e
 | some ps=>
  rw [h1,Option.bind_some] at e
  cases h2:F (ps.map (·.1)) with
  | none=>rw [h2] at e;cases e
  | some d'=>
   rw [h2] at e
   cases e
   exact ⟨ps,rfl,h2,rfl⟩
section
variable {X:Cx}{x:Str}{p pos:Pos}{e:Expr}{es:List Expr}{k:Nat}{f:Addr}{fd:FuncData}{ps:List Str}{F:List D→Option D}{g:AF}
theorem fp_call {cm:Bool} (G:FnOk X.prog X.w X.K X.mg X.base CX0 k f fd ps (spF X.K F) cm) (hr:Room k X.A cm) (hm:X.mg x=some (.ref f)) (hk:PySem.W.keepIn X.K (.ref f)=true) (hb:Binds X.K fd ps []) (ha:FA X (e::es) g)
  (hg:Gl X x:=by rfl) (hdb:(x == ("__debug__":Str))=false:=by decide)
  (he:starEach (e::es) X.env=(false,eval e X.env)::starEach es X.env:=by rfl) (hpl:(backTo pos (starEach es X.env)).any (·.1)=false:=by rfl):FP X (.Call (.Name x p) (e::es) [] pos) (eCall F g):=by
 obtain ⟨t,pa,_,sa⟩:=ha
 refine ⟨_,pe_call G hr hg hm hk hb .nil pass0 pa hdb he hpl,fun H0 S z held ρ σ H Q d tg ok e0 q=>?_⟩
 obtain ⟨qs,e1,e2,rfl⟩:=eCall_of e0
 refine sa H0 S z held ρ σ H _ qs ok e1 fun H1 vs fp s1 r1 _=>?_
 rw [List.append_nil]
 exact ⟨_,fp,d,r1,e2,fun H2 v fp' s2 r2 nd fr=>q H2 v fp' (s1.trans s2) r2 ⟨nd,fun a m=>s1.free (fr a m)⟩⟩
end
section
variable {X:Cx}{pos:Pos}
def tV (f:EF):TF:=fun ρ=>match f ρ with
 | some (.bl b,_)=>some b
 | _=>none
theorem tV_of {f:EF}{ρ:Rho}{b:Bool} (e:tV f ρ=some b):∃ t,f ρ=some (.bl b,t):=by
 unfold tV at e
 cases h:f ρ with
 | none=>rw [h] at e;cases e
 | some p=>
  obtain ⟨d,t⟩:=p
  rw [h] at e
  cases d <;> first | (cases e;exact ⟨t,rfl⟩) | cases e
theorem ft_val {e:Expr}{f:EF} (h:FP X e f) (he:∀ whole,isTrue e X.env whole=(do let v ← whole;standAt e.pos;holding [v] (truthy v)):=by intro _;rfl):FT X e (tV f):=by
 obtain ⟨t,p,q⟩:=h
 refine ⟨_,pt_val p he,fun H0 S z held ρ σ H Q b ok e k=>?_⟩
 obtain ⟨tg,e1⟩:=tV_of e
 refine q H0 S z held ρ σ H _ _ tg ok e1 fun H1 v fp s1 r1 _=>?_
 cases r1
 exact ⟨b,rfl,k H1 s1⟩
theorem ft_cmp {op:CmpOp}{r:R2}{o:D→D→Option D}{a b:Expr}{fa fb:EF} (ho:OpR X (compareOp op) r) (dd:Does2 X.K r o) (ha:FP X a fa) (hb:FP X b fb) (hm:behindInMarks op b=false):FT X (.Compare a [op] [b] pos) (tV (e2 o fa fb)):=by
 obtain ⟨ta,pa,sa⟩:=ha
 obtain ⟨tb,pb,sb⟩:=hb
 refine ⟨_,pt_cmpR ho pa pb hm,fun H0 S z held ρ σ H Q c ok e k=>?_⟩
 obtain ⟨tg,e0⟩:=tV_of e
 obtain ⟨d1,t1,d2,t2,e1,e2',e3,rfl⟩:=e2_of e0
 refine sa H0 S z held ρ σ H _ d1 t1 ok e1 fun H1 x f1 s1 r1 _=>?_
 refine sb H0 S z held ρ σ H1 _ d2 t2 (ok.same s1) e2' fun H2 y f2 s2 r2 _=>?_
 refine dd H2 x y d1 d2 f1 f2 _ _ (r1.same s2) r2 e3 fun H3 v s3 r3=>?_
 cases r3
 exact ⟨c,rfl,k H3 ((s1.trans s2).trans s3)⟩
theorem fp_cmp {op:CmpOp}{r:R2}{o:D→D→Option D}{a b:Expr}{fa fb:EF} (ho:OpR X (compareOp op) r) (dd:Does2 X.K r o) (ha:FP X a fa) (hb:FP X b fb) (hm:behindInMarks op b=false):FP X (.Compare a [op] [b] pos) (e2 o fa fb):=
 fp_2 dd ha hb fun _ _ pa pb=>pe_cmpR ho pa pb hm
theorem fp_bin {op:Operator}{r:R2}{o:D→D→Option D}{a b:Expr}{fa fb:EF} (ho:OpR X (binaryOp op) r) (dd:Does2 X.K r o) (ha:FP X a fa) (hb:FP X b fb):FP X (.BinOp a op b pos) (e2 o fa fb):=
 fp_2 dd ha hb fun _ _ pa pb=>pe_op ho pa pb
def tAnd2 (f g:TF):TF:=fun ρ=>match f ρ with
 | some true=>g ρ
 | some false=>some false
 | none=>none
def tOr2 (f g:TF):TF:=fun ρ=>match f ρ with
 | some true=>some true
 | some false=>g ρ
 | none=>none
def tNot1 (f:TF):TF:=fun ρ=>(f ρ).map fun b=>!b
def FW (X:Cx) (e:Expr) (f:TF):Prop:=∃ t,PW X e t∧∀ (H0:Hp) (S:List Addr) (z:Addr→Option Nat) (held:List Held) (ρ:Rho) (σ:St) (H:Hp) (Q:Bool→Hp→Prop) (b:Bool),
 Ok X.K H0 S z held ρ σ H→f ρ=some b→(∀ H',Same H H'→Q b H')→t σ H Q
theorem FW.ft {e:Expr}{f:TF} (h:FW X e f):FT X e f:=let ⟨t,p,q⟩:=h;⟨t,p.pt,q⟩
theorem fw_and1 {a:Expr}{f:TF} (h:FT X a f):FW X (.BoolOp .And [a] pos) f:=let ⟨t,p,q⟩:=h;⟨t,pw_and1 p,q⟩
theorem fw_or1 {a:Expr}{f:TF} (h:FT X a f):FW X (.BoolOp .Or [a] pos) f:=let ⟨t,p,q⟩:=h;⟨t,pw_or1 p,q⟩
theorem fw_and {a b:Expr}{rest:List Expr}{f g:TF} (ha:FT X a f) (hb:FW X (.BoolOp .And (b::rest) pos) g):FW X (.BoolOp .And (a::b::rest) pos) (tAnd2 f g):=by
 obtain ⟨t,p,q⟩:=ha
 obtain ⟨t',p',q'⟩:=hb
 refine ⟨_,pw_and p p',fun H0 S z held ρ σ H Q c ok e k=>?_⟩
 unfold tAnd2 at e
 cases h:f ρ with
 | none=>rw [h] at e;cases e
 | some y=>
  rw [h] at e
  cases y with
  | false=>
   cases e
   refine q H0 S z held ρ σ H _ false ok h fun H1 s1=>?_
   rw [if_neg Bool.false_ne_true]
   exact k H1 s1
  | true=>
   refine q H0 S z held ρ σ H _ true ok h fun H1 s1=>?_
   rw [if_pos rfl]
   exact q' H0 S z held ρ σ H1 _ c (ok.same s1) e fun H2 s2=>k H2 (s1.trans s2)
theorem fw_or {a b:Expr}{rest:List Expr}{f g:TF} (ha:FT X a f) (hb:FW X (.BoolOp .Or (b::rest) pos) g):FW X (.BoolOp .Or (a::b::rest) pos) (tOr2 f g):=by
 obtain ⟨t,p,q⟩:=ha
 obtain ⟨t',p',q'⟩:=hb
 refine ⟨_,pw_or p p',fun H0 S z held ρ σ H Q c ok e k=>?_⟩
 unfold tOr2 at e
 cases h:f ρ with
 | none=>rw [h] at e;cases e
 | some y=>
  rw [h] at e
  cases y with
  | true=>
   cases e
   refine q H0 S z held ρ σ H _ true ok h fun H1 s1=>?_
   rw [if_pos rfl]
   exact k H1 s1
  | false=>
   refine q H0 S z held ρ σ H _ false ok h fun H1 s1=>?_
   rw [if_neg Bool.false_ne_true]
   exact q' H0 S z held ρ σ H1 _ c (ok.same s1) e fun H2 s2=>k H2 (s1.trans s2)
theorem ft_not {a:Expr}{f:TF} (ha:FT X a f):FT X (.UnaryOp .Not a pos) (tNot1 f):=by
 obtain ⟨t,p,q⟩:=ha
 refine ⟨_,pt_not p,fun H0 S z held ρ σ H Q c ok e k=>?_⟩
 unfold tNot1 at e
 cases h:f ρ with
 | none=>rw [h] at e;cases e
 | some y=>
  rw [h] at e
  cases e
  exact q H0 S z held ρ σ H _ y ok h fun H1 s1=>k H1 s1
end
inductive Out where
 | nx (ρ:Rho) | rt (d:D) | bk (ρ:Rho) | ct (ρ:Rho)
 | er (raw:Bool) (cn:XN) (ρ:Rho)
abbrev SF:=Rho→Option Out
def kpt (X:Cx) (x:Str):Bool:=x == ("self":Str)||(X.fn ("self":Str)&&!X.fn x)
def Kp (X:Cx) (σ σ':St):Prop:=∀ (i:Nat) (x:Str),X.N[i]? = some x→kpt X x=true→σ'[i]? = σ[i]?
theorem Kp.refl (X:Cx) (σ:St):Kp X σ σ:=fun _ _ _ _=>rfl
theorem Kp.trans {X:Cx}{σ σ1 σ2:St} (a:Kp X σ σ1) (b:Kp X σ1 σ2):Kp X σ σ2:=fun i x h k=>(b i x h k).trans (a i x h k)
theorem Kp.set {X:Cx}{σ:St}{i:Nat}{x:Str}{v:Option V} (hi:X.N[i]? = some x) (hs:kpt X x=false):Kp X σ (σ.set i v):=fun j y h k=>by
 refine List.getElem?_set_ne fun e=>?_
 subst e
 rw [hi] at h
 have h:=Option.some.inj h
 subst h
 rw [hs] at k;cases k
def PostE (X:Cx) (H0:Hp) (S:List Addr) (held:List Held) (σ0:St) (raw:Bool) (cn:XN) (ρ:Rho):Prop:=∃ ES:XS,(if raw=true then ThrowsN X ES else ThrowsT X ES) ∧
 ∀ z σ H C,Ok X.K H0 S z held ρ σ H→Kp X σ0 σ→PySem.W.nsIn X.K mainGlobals cn.1=some (some (.ref C))→ES (.ref C) cn.2 σ H
theorem PostE.of {X:Cx}{H0:Hp}{S:List Addr}{held:List Held}{σ σ':St}{raw:Bool}{cn:XN}{ρ:Rho} (k:PostE X H0 S held σ raw cn ρ) (a:Kp X σ σ'):PostE X H0 S held σ' raw cn ρ:=
 let ⟨ES,th,q⟩:=k;⟨ES,th,fun z s H C ok b hC=>q z s H C ok (a.trans b) hC⟩
def Post (X:Cx) (H0:Hp) (S:List Addr) (held:List Held) (σ0:St) (E:Ends):Out→Prop
 | .nx ρ=>∀ z σ H,Ok X.K H0 S z held ρ σ H→Kp X σ0 σ→E.nx σ H
 | .bk ρ=>∀ z σ H,Ok X.K H0 S z held ρ σ H→Kp X σ0 σ→E.bk σ H
 | .ct ρ=>∀ z σ H,Ok X.K H0 S z held ρ σ H→Kp X σ0 σ→E.ct σ H
 | .er raw cn ρ=>PostE X H0 S held σ0 raw cn ρ
 | .rt d=>∀ H v fp,(∀ a o,H0 a=some o→a∉S→H a=some o)→Rep X.K H d v fp→fp.Nodup→(∀ a∈fp,H0 a=none∨a∈S)→E.rt v H
def FS (X:Cx) (st:List Stmt) (f:SF):Prop:=∃ t,PSs X st t∧∀ (H0:Hp) (S:List Addr) (z:Addr→Option Nat) (held:List Held) (ρ:Rho) (σ:St) (H:Hp) (E:Ends) (o:Out),
 Ok X.K H0 S z held ρ σ H→f ρ=some o→Post X H0 S held σ E o→t E σ H
def FS1 (X:Cx) (st:Stmt) (f:SF):Prop:=∃ t,PS X st t∧∀ (H0:Hp) (S:List Addr) (z:Addr→Option Nat) (held:List Held) (ρ:Rho) (σ:St) (H:Hp) (E:Ends) (o:Out),
 Ok X.K H0 S z held ρ σ H→f ρ=some o→Post X H0 S held σ E o→t E σ H
theorem Post.of {X:Cx}{H0:Hp}{S:List Addr}{held:List Held}{σ σ':St}{E:Ends}{o:Out} (k:Post X H0 S held σ E o) (a:Kp X σ σ'):Post X H0 S held σ' E o:=by
 cases o with
 | nx ρ=>exact fun z s H ok b=>k z s H ok (a.trans b)
 | bk ρ=>exact fun z s H ok b=>k z s H ok (a.trans b)
 | ct ρ=>exact fun z s H ok b=>k z s H ok (a.trans b)
 | rt d=>exact k
 | er raw cn ρ=>exact PostE.of k a
def sNx:SF:=fun ρ=>some (.nx ρ)
def sSeq (f g:SF):SF:=fun ρ=>match f ρ with
 | some (.nx ρ')=>g ρ'
 | o=>o
section
variable {X:Cx}{pos:Pos}
theorem fs_nil:FS X [] sNx:=⟨_,pss_nil,fun _ _ z _ _ σ H _ _ ok e k=>by cases e;exact k z σ H ok (.refl _ _)⟩
theorem fs_one {st:Stmt}{f:SF} (h:FS1 X st f):FS X [st] f:=let ⟨t,p,q⟩:=h;⟨t,pss_one p,q⟩
theorem fs_cons {st:Stmt}{rest:List Stmt}{f g:SF} (h1:FS1 X st f) (h2:FS X rest g):FS X (st::rest) (sSeq f g):=by
 obtain ⟨t,p,q⟩:=h1
 obtain ⟨t',p',q'⟩:=h2
 refine ⟨_,pss_cons p p',fun H0 S z held ρ σ H E o ok e k=>?_⟩
 unfold sSeq at e
 cases h:f ρ with
 | none=>rw [h] at e;cases e
 | some w=>
  refine q H0 S z held ρ σ H _ w ok h ?_
  rw [h] at e
  cases w with
  | nx ρ'=>exact fun z' σ' H' ok' a=>q' H0 S z' held ρ' σ' H' E o ok' e (k.of a)
  | rt d=>cases e;exact k
  | bk ρ'=>cases e;exact k
  | ct ρ'=>cases e;exact k
  | er _ _ _=>cases e;exact k
def sNo:SF:=fun _=>none
theorem fs_no {st:Stmt}:FS1 X st sNo:=⟨_,ps_never,fun _ _ _ _ _ _ _ _ _ _ e _=>by cases e⟩
def sIf (c:TF) (f g:SF):SF:=fun ρ=>match c ρ with
 | some true=>f ρ
 | some false=>g ρ
 | none=>none
theorem fs_if {c:Expr}{a b:List Stmt}{tc:TF}{f g:SF} (hc:FT X c tc) (ha:FS X a f) (hb:FS X b g):FS1 X (.If c a b pos) (sIf tc f g):=by
 obtain ⟨t,p,q⟩:=hc
 obtain ⟨t1,p1,q1⟩:=ha
 obtain ⟨t2,p2,q2⟩:=hb
 refine ⟨_,ps_if p p1 p2,fun H0 S z held ρ σ H E o ok e k=>?_⟩
 unfold sIf at e
 cases h:tc ρ with
 | none=>rw [h] at e;cases e
 | some y=>
  rw [h] at e
  refine q H0 S z held ρ σ H _ y ok h fun H1 s1=>?_
  cases y with
  | true=>rw [if_pos rfl];exact q1 H0 S z held ρ σ H1 E o (ok.same s1) e k
  | false=>rw [if_neg Bool.false_ne_true];exact q2 H0 S z held ρ σ H1 E o (ok.same s1) e k
def isOwn:Tag→Bool
 | .sh _=>false
 | _=>true
def sRet (f:EF):SF:=fun ρ=>match f ρ with
 | some (d,t)=>if isOwn t=true then some (.rt d) else if imm d=true then some (.rt d) else none
 | none=>none
theorem fs_ret {e:Expr}{f:EF} (he:FP X e f):FS1 X (.Return (some e) pos) (sRet f):=by
 obtain ⟨t,p,q⟩:=he
 refine ⟨_,ps_ret p,fun H0 S z held ρ σ H E o ok e k=>?_⟩
 unfold sRet at e
 cases h:f ρ with
 | none=>rw [h] at e;cases e
 | some w=>
  obtain ⟨d,tg⟩:=w
  rw [h] at e
  dsimp only at e
  refine q H0 S z held ρ σ H _ d tg ok h fun H1 v fp s1 r1 g1=>?_
  have en:∀ a o,H0 a=some o→a∉S→H1 a=some o:=fun a o e n=>s1 _ _ (ok.en a o e n)
  by_cases ho:isOwn tg=true
  ·rw [if_pos ho] at e
   cases e
   have g:fp.Nodup∧∀ a∈fp,H a=none:=by cases tg <;> first | exact g1 | cases ho
   refine k H1 v fp en r1 g.1 fun a m=>?_
   cases h0:H0 a with
   | none=>exact .inl rfl
   | some o=>
    by_cases hs:a∈S
    ·exact .inr hs
    ·have w:=ok.en a o h0 hs
     rw [g.2 a m] at w;cases w
  ·rw [if_neg ho] at e
   by_cases hi:imm d=true
   ·rw [if_pos hi] at e
    cases e
    have hn:=r1.imm hi
    subst hn
    exact k H1 v [] en r1 List.nodup_nil fun a m=>nomatch m
   ·rw [if_neg hi] at e;cases e
def sRetV (i:Nat):SF:=fun ρ=>match ρ[i]? with
 | some (some (d,t))=>if isOwn t=true then some (.rt d) else if imm d=true then some (.rt d) else none
 | _=>none
theorem fs_retV (i:Nat) {x:Str}{pos':Pos} (hN:X.N[i]? = some x:=by rfl) (hv:Vis X.env.scope x:=by first | exact Or.inl rfl | exact Or.inr (Or.inl rfl) | exact Or.inr (Or.inr rfl)) (hd:(x == ("__debug__":Str))=false:=by decide)
  (hcd:(x == ("__classdict__":Str))=false:=by decide):FS1 X (.Return (some (.Name x pos')) pos) (sRetV i):=by
 refine ⟨_,ps_ret (pe_var (i:=i) hN hv hd hcd),fun H0 S z held ρ σ H E o ok e k=>?_⟩
 unfold sRetV at e
 cases h:ρ[i]? with
 | none=>rw [h] at e;cases e
 | some w=>
  cases w with
  | none=>rw [h] at e;cases e
  | some w=>
   obtain ⟨d,tg⟩:=w
   rw [h] at e
   dsimp only at e
   obtain ⟨v,fp,hs,r,zz⟩:=ok.sl i d tg h
   refine ⟨v,hs,?_⟩
   by_cases ho:isOwn tg=true
   ·rw [if_pos ho] at e
    cases e
    have g:fp.Nodup∧∀ a∈fp,z a=some i:=by cases tg <;> first | exact zz | cases ho
    exact k H v fp ok.en r g.1 fun a m=>(ok.zd a i (g.2 a m)).2
   ·rw [if_neg ho] at e
    by_cases hi:imm d=true
    ·rw [if_pos hi] at e
     cases e
     have hn:=r.imm hi
     subst hn
     exact k H v [] ok.en r List.nodup_nil fun a m=>nomatch m
    ·rw [if_neg hi] at e;cases e
def setS (ρ:Rho) (i:Nat) (d:D):Tag→Rho
 | .sh o=>ρ.set i (some (d,.sh o))
 | _=>ρ.set i (some (d,.own))
def sSet (i:Nat) (f:EF):SF:=fun ρ=>match f ρ with
 | some (d,t)=>some (.nx (setS ρ i d t))
 | none=>none
theorem Ok.set {K:PySem.W.Frag}{H0:Hp}{S:List Addr}{z:Addr→Option Nat}{held:List Held}{ρ:Rho}{σ:St}{H H1:Hp}{i:Nat}{d:D}{t:Tag}{v:V}{fp:List Addr} (ok:Ok K H0 S z held ρ σ H) (hi:i < σ.length) (s:Same H H1)
  (r:Rep K H1 d v fp) (g:TagOk z H t fp):∃ z',Ok K H0 S z' held (setS ρ i d t) (σ.set i (some v)) H1:=by
 classical
 have hiρ:i < ρ.length:=by rw [ok.ln];exact hi
 have dH:∀ {a:Addr},H a=none→z a=none:=fun {a} e=>by
  cases q:z a with
  | none=>rfl
  | some j=>obtain ⟨⟨o,w⟩,_⟩:=ok.zd a j q;rw [e] at w;cases w
 have main:∀ (fo:List Addr) (tg:Tag),(∀ a∈fo,H a=none∧∃ o,H1 a=some o)→InZ (fun a=>if a∈fo then some i else if z a=some i then none else z a) i tg fp →
   Ok K H0 S (fun a=>if a∈fo then some i else if z a=some i then none else z a) held (ρ.set i (some (d,tg))) (σ.set i (some v)) H1:=by
  intro fo tg hfo hz
  have old:∀ {fp':List Addr},(∀ a∈fp',∃ o,H a=some o∧MutO o=true)→∀ a∈fp',(if a∈fo then some i else if z a=some i then none else z a)=(if z a=some i then none else z a):=fun {fp'} h a m=>by
   rw [if_neg fun q=>?_]
   obtain ⟨o,w,_⟩:=h a m
   rw [(hfo a q).1] at w;cases w
  refine ⟨fun j d' t' e=>?_,fun p hp=>?_,fun a j e=>?_,fun a o e n=>s _ _ (ok.en a o e n),by rw [List.length_set,List.length_set];exact ok.ln⟩
  ·by_cases hj:j=i
   ·subst hj
    rw [List.getElem?_set_self hiρ] at e
    cases e
    exact ⟨v,fp,List.getElem?_set_self hi,r,hz⟩
   ·rw [List.getElem?_set_ne (Ne.symm hj)] at e
    obtain ⟨v',fp',hs',r',z'⟩:=ok.sl j d' t' e
    refine ⟨v',fp',by rw [List.getElem?_set_ne (Ne.symm hj)];exact hs',r'.same s,?_⟩
    have o1:=old r'.dom
    cases t' with
    | sh o=>
     intro a m k q
     dsimp only at q
     rw [o1 a m] at q
     by_cases w:z a=some i
     ·rw [if_pos w] at q;cases q
     ·rw [if_neg w] at q;exact z' a m k q
    | own=>exact ⟨z'.1,fun a m=>by dsimp only;rw [o1 a m,if_neg (by rw [z'.2 a m];intro w;exact hj (Option.some.inj w))];exact z'.2 a m⟩
    | lk=>exact ⟨z'.1,fun a m=>by dsimp only;rw [o1 a m,if_neg (by rw [z'.2 a m];intro w;exact hj (Option.some.inj w))];exact z'.2 a m⟩
  ·obtain ⟨r',hl'⟩:=ok.hl p hp
   refine ⟨r'.same s,fun a m j q=>?_⟩
   rw [old r'.dom a m] at q
   by_cases w:z a=some i
   ·rw [if_pos w] at q;cases q
   ·rw [if_neg w] at q
    obtain ⟨z0',e'⟩:=hl' a m j q
    have hj:j≠i:=fun e=>w (by rw [← e];exact q)
    exact ⟨z0',fun d'=>by rw [List.getElem?_set_ne (Ne.symm hj)];exact e' d'⟩
  ·by_cases w:a∈fo
   ·obtain ⟨w1,w2⟩:=hfo a w
    refine ⟨w2,?_⟩
    cases h0:H0 a with
    | none=>exact .inl rfl
    | some o=>
     by_cases hs:a∈S
     ·exact .inr hs
     ·have q:=ok.en a o h0 hs
      rw [w1] at q;cases q
   ·rw [if_neg w] at e
    by_cases w':z a=some i
    ·rw [if_pos w'] at e;cases e
    ·rw [if_neg w'] at e
     obtain ⟨⟨o,x⟩,y⟩:=ok.zd a j e
     exact ⟨⟨o,s _ _ x⟩,y⟩
 have own:(fp.Nodup∧∀ a∈fp,H a=none)→Ok K H0 S (fun a=>if a∈fp then some i else if z a=some i then none else z a) held (ρ.set i (some (d,.own))) (σ.set i (some v)) H1:=fun g=>
  main fp .own (fun a m=>⟨g.2 a m,let ⟨o,w,_⟩:=r.dom a m;⟨o,w⟩⟩) ⟨g.1,fun a m=>if_pos m⟩
 cases t with
 | own=>exact ⟨_,own g⟩
 | lk=>exact ⟨_,own g⟩
 | sh o=>
  refine ⟨_,main [] (.sh o) (fun a m=>nomatch m) fun a m j q=>?_⟩
  have q:(if a∈([]:List Addr) then some i else if z a=some i then none else z a)=some j:=q
  rw [if_neg (show ¬ a∈([]:List Addr) from fun w=>nomatch w)] at q
  by_cases w:z a=some i
  ·rw [if_pos w] at q;cases q
  ·rw [if_neg w] at q;exact g a m j q
theorem Ok.stored {K:PySem.W.Frag}{H0:Hp}{S:List Addr}{z:Addr→Option Nat}{held:List Held}{ρ:Rho}{σ:St}{H H1:Hp}{i:Nat}{d:D}{t:Tag}{v:V}{fp:List Addr}{G:Prop} (ok:Ok K H0 S z held ρ σ H) (s:Same H H1)
  (r:Rep K H1 d v fp) (g:TagOk z H t fp) (k:∀ z',Ok K H0 S z' held (setS ρ i d t) (σ.set i (some v)) H1→G):G:=by
 by_cases hi:i < σ.length
 ·obtain ⟨z',ok'⟩:=ok.set hi s r g
  exact k z' ok'
 ·have e1:σ.set i (some v)=σ:=List.set_eq_of_length_le (Nat.le_of_not_lt hi)
  have e2:∀ w,ρ.set i w=ρ:=fun w=>List.set_eq_of_length_le (by rw [ok.ln];exact Nat.le_of_not_lt hi)
  have e3:setS ρ i d t=ρ:=by cases t <;> exact e2 _
  refine k z ?_
  rw [e1,e3]
  exact ok.same s
theorem fs_set (i:Nat) {x:Str}{e:Expr}{f:EF}{pos':Pos} (he:FP X e f) (hN:X.N.Nodup) (hi:X.N[i]? = some x:=by rfl) (hx:Loc X.env.scope x:=by first | exact Or.inl rfl | exact Or.inr rfl)
  (hs:swapsWith e (some (.Name x pos')) pos.line X.env=pure false:=by rfl) (hf:X.fn x=true∨X.env.scope.names.lookup x=some .local:=by first | exact .inl rfl | exact .inr rfl) (hself:kpt X x=false:=by rfl):FS1 X (.Assign [.Name x pos'] e pos) (sSet i f):=by
 obtain ⟨t,p,q⟩:=he
 refine ⟨_,ps_set (i:=i) hN hi hx p hs hf,fun H0 S z held ρ σ H E o ok e k=>?_⟩
 unfold sSet at e
 cases h:f ρ with
 | none=>rw [h] at e;cases e
 | some w=>
  obtain ⟨d,tg⟩:=w
  rw [h] at e
  cases e
  refine q H0 S z held ρ σ H _ d tg ok h fun H1 v fp s1 r1 g1=>?_
  exact ok.stored s1 r1 g1 fun z' ok'=>k z' _ H1 ok' (.set hi hself)
end
abbrev GF:=D→Tag→Rho→Option Rho
def FG (X:Cx) (tg:Expr) (g:GF) (is:List Nat):Prop:=(∀ i∈is,∀ x,X.N[i]? = some x→kpt X x=false)∧∃ t,PG X tg t∧∀ (H0:Hp) (S:List Addr) (z:Addr→Option Nat) (held:List Held) (ρ:Rho) (σ:St) (H H1:Hp) (v:V) (d:D) (tag:Tag) (fp:List Addr) (Q:St→Hp→Prop) (ρ':Rho),
 Ok X.K H0 S z held ρ σ H→Same H H1→Rep X.K H1 d v fp→TagOk z H tag fp→g d tag ρ=some ρ'→(∀ z' σ',Ok X.K H0 S z' held ρ' σ' H1→(σ'.length=σ.length∧∀ j,j∉is→σ'[j]? = σ[j]?)→Q σ' H1)→t v σ H1 Q
def gN (i:Nat):GF:=fun d t ρ=>some (setS ρ i d t)
abbrev GsF:=List D→Rho→Option Rho
theorem Kp.off {X:Cx}{σ σ':St}{is:List Nat} (hk:∀ i∈is,∀ x,X.N[i]? = some x→kpt X x=false) (h:∀ j,j∉is→σ'[j]? = σ[j]?):Kp X σ σ':=fun i x e k=>h i fun m=>by rw [hk i m x e] at k;cases k
def FGs (X:Cx) (ts:List Expr) (g:GsF) (is:List Nat):Prop:=(∀ i∈is,∀ x,X.N[i]? = some x→kpt X x=false)∧∃ t,PGs X ts t∧(∀ ds ρ ρ',g ds ρ=some ρ'→ds.length=ts.length)∧∀ (H0:Hp) (S:List Addr) (z:Addr→Option Nat) (held:List Held) (ρ:Rho) (σ:St) (H:Hp) (vs:List V) (ds:List D) (fp:List Addr) (Q:St→Hp→Prop) (ρ':Rho),
 Ok X.K H0 S z held ρ σ H→Reps X.K H ds vs fp→g ds ρ=some ρ'→(∀ z' σ',Ok X.K H0 S z' held ρ' σ' H→(σ'.length=σ.length∧∀ j,j∉is→σ'[j]? = σ[j]?)→Q σ' H)→t vs σ H Q
def gsNil:GsF:=fun ds ρ=>match ds with
 | []=>some ρ
 | _=>none
def gsCons (g:GF) (gs:GsF):GsF:=fun ds ρ=>match ds with
 | d::r=>if imm d=true then (g d .own ρ).bind fun ρ'=>gs r ρ' else none
 | _=>none
theorem gsCons_of {g:GF}{gs:GsF}{ds:List D}{ρ ρ':Rho} (e:gsCons g gs ds ρ=some ρ'):∃ d r ρ1,ds=d::r∧imm d=true∧g d .own ρ=some ρ1∧gs r ρ1=some ρ':=by
 cases ds with
 | nil=>cases e
 | cons d r=>
  unfold gsCons at e
  dsimp only at e
  by_cases hi:imm d=true
  ·rw [if_pos hi] at e
   cases h:g d .own ρ with
   | none=>rw [h] at e;cases e
   | some ρ1=>
    rw [h,Option.bind_some] at e
    exact ⟨d,r,ρ1,rfl,hi,h,e⟩
  ·rw [if_neg hi] at e;cases e
def gT (gs:GsF):GF:=fun d _ ρ=>match d with
 | .tup ds=>gs ds ρ
 | _=>none
section
variable {X:Cx}{pos:Pos}
theorem fg_name (i:Nat) {x:Str} (hN:X.N.Nodup) (hi:X.N[i]? = some x:=by rfl) (hx:Loc X.env.scope x:=by first | exact Or.inl rfl | exact Or.inr rfl) (hf:X.fn x=true∨X.env.scope.names.lookup x=some .local:=by first | exact .inl rfl | exact .inr rfl) (hself:kpt X x=false:=by rfl):FG X (.Name x pos) (gN i) [i]:=by
 refine ⟨fun j m y e=>by rw [List.mem_singleton.mp m,hi] at e;have e:=Option.some.inj e;subst e;exact hself,_,pg_name (i:=i) hN hi hx hf,fun H0 S z held ρ σ H H1 v d tag fp Q ρ' ok s r g e k=>?_⟩
 cases e
 exact ok.stored s r g fun z' ok'=>k z' _ ok' ⟨List.length_set ..,fun j hj=>List.getElem?_set_ne fun e=>hj (by rw [e];exact List.mem_cons_self)⟩
theorem fgs_nil:FGs X [] gsNil []:=by
 refine ⟨fun j m=>(nomatch m),_,pgs_nil,fun ds ρ ρ' e=>?_,fun H0 S z held ρ σ H vs ds fp Q ρ' ok r e k=>?_⟩
 ·cases ds with
  | nil=>rfl
  | cons _ _=>cases e
 ·cases ds with
  | nil=>cases r;cases e;exact ⟨rfl,k z σ ok ⟨rfl,fun _ _=>rfl⟩⟩
  | cons _ _=>cases e
theorem fgs_cons {e:Expr}{es:List Expr}{g:GF}{gs:GsF}{is ks:List Nat} (h1:FG X e g is) (h2:FGs X es gs ks) (hs:(assignEach (e::es) X.env).map (·.2)=assign e X.env::(assignEach es X.env).map (·.2):=by rfl):FGs X (e::es) (gsCons g gs) (is++ks):=by
 obtain ⟨n1,t,p,q⟩:=h1
 obtain ⟨n2,t',p',l',q'⟩:=h2
 refine ⟨fun j m=>(List.mem_append.mp m).elim (n1 j) (n2 j),_,pgs_cons p p' hs,fun ds ρ ρ' e=>?_,fun H0 S z held ρ σ H vs ds fp Q ρ' ok r e k=>?_⟩
 ·obtain ⟨d,r,ρ1,rfl,_,_,h⟩:=gsCons_of e
  rw [List.length_cons,List.length_cons,l' r ρ1 ρ' h]
 ·obtain ⟨d,dr,ρ1,rfl,hi,h1,h2⟩:=gsCons_of e
  cases r with
  | @cons _ v _ vr f1 f2 r1 r2=>
   have hn:=r1.imm hi
   subst hn
   exact ⟨v,vr,rfl,q H0 S z held ρ σ H H v d .own [] _ ρ1 ok (Same.refl H) r1 .nil h1 fun z1 σ1 ok1 a1=>q' H0 S z1 held ρ1 σ1 H vr dr f2 Q ρ' ok1 r2 h2 fun z2 σ2 ok2 a2=>k z2 σ2 ok2 ⟨a2.1.trans a1.1,fun j hj=>(a2.2 j fun m=>hj (List.mem_append_right _ m)).trans (a1.2 j fun m=>hj (List.mem_append_left _ m))⟩⟩
theorem fg_tup {es:List Expr}{k:Nat}{gs:GsF}{is:List Nat} (hc:X.calm=true) (h:FGs X es gs is) (hn:(assignEach es X.env).length=es.length:=by rfl) (hst:(assignEach es X.env).findIdx? (·.1)=none:=by rfl):FG X (.Tuple es k pos) (gT gs) is:=by
 obtain ⟨n1,t,p,l,q⟩:=h
 refine ⟨n1,_,pg_tup hc p hn hst,fun H0 S z held ρ σ H H1 v d tag fp Q ρ' ok s r g e k=>?_⟩
 cases r with
 | @tup a xs ds fp hq rs=>
  have e:gs ds ρ=some ρ':=e
  exact ⟨a,xs,rfl,hq,by rw [← rs.length];exact l ds ρ ρ' e,q H0 S z held ρ σ H1 xs ds fp Q ρ' (ok.same s) rs e k⟩
 | _=>cases e
end
structure Hv where
 d:D
 v:V
 fp:List Addr
def ItOk (K:PySem.W.Frag) (J:It) (ds:List D) (hv:List Hv):Prop:=∀ (H:Hp) (i:Nat),(∀ h∈hv,Rep K H h.d h.v h.fp) →
 (∀ d,ds[i]? = some d→J.go i H∧∀ x H1,J.yld i H x H1→Same H H1∧∃ fp,Rep K H1 d x fp∧∀ a∈fp,∃ h∈hv,a∈h.fp)∧(ds.length≤i→J.stop i H)
abbrev IF:=Rho→Option (List D×Tag)
def FI (X:Cx) (tg iter:Expr) (f:IF):Prop:=∃ wi,PI X tg iter wi∧∀ (H0:Hp) (S:List Addr) (z:Addr→Option Nat) (held:List Held) (ρ:Rho) (σ:St) (H:Hp) (R:It→Hp→Prop) (ds:List D) (t:Tag),
 Ok X.K H0 S z held ρ σ H→f ρ=some (ds,t)→(∀ H1 J hv,Same H H1→(∀ h∈hv,Rep X.K H1 h.d h.v h.fp∧∀ a∈h.fp,∀ j,z a=some j→∃ o,t=.sh o∧j∈o)→ItOk X.K J ds hv→R J H1)→wi σ H R
def iSeqF (f:EF):IF:=fun ρ=>match f ρ with
 | some (.lst ds,t)=>some (ds,t)
 | some (.fls ds,t)=>some (ds,t)
 | some (.tup ds,t)=>some (ds,t)
 | _=>none
def iSeq (K:PySem.W.Frag) (tl:TE):TI:=fun σ H R=>tl σ H fun x H1=>∃ a,x=.ref a∧(((∃ xs,SqL K H1 a xs)∧R (Itl K a) H1)∨((∃ xs,SqT K H1 a xs)∧R (Itt K a) H1))
section
variable {X:Cx}{tg:Expr}
theorem pi_seq {l:Expr}{tl:TE} (hl:PE X l tl):PI X tg l (iSeq X.K tl):=by
 intro pins s σ H R I h
 refine thn (hl pins s σ H _ I h) fun v s1 ⟨x,H1,I1,r1,q1⟩=>?_
 obtain ⟨a,e,q⟩:=q1
 subst e
 cases r1
 rcases q with ⟨⟨xs,hq⟩,q⟩ | ⟨⟨xs,hq⟩,q⟩
 ·obtain ⟨its,rv,p,hz⟩:=I1.list hq
  refine wpAny_pyIter_list p.isList ?_
  refine ⟨s1.heap.objs.size,[s1.heap.objs.size],_,_,H1,rfl,I1.kept (t':=s1.toks) (fun b o e=>Heap.get?_push_of_some _ e),turn_list a _,⟨_,Heap.get?_push_size _ rfl,rfl,rfl⟩,fun b hb=>?_,q⟩
  obtain rfl:b=s1.heap.objs.size:=by simpa using hb
  exact I1.fpOk (Nat.le_refl _) (I1.hok.fresh (Nat.le_refl _))
 ·obtain ⟨its,rv,p,hz⟩:=I1.tuple hq
  refine wpAny_pyIter_tuple (show s1.heap.IsTuple a its.toArray from p) ?_
  refine ⟨s1.heap.objs.size,[s1.heap.objs.size],_,_,H1,rfl,I1.kept (t':=s1.toks) (fun b o e=>Heap.get?_push_of_some _ e),turn_tuple a _,⟨_,Heap.get?_push_size _ rfl,rfl,rfl⟩,fun b hb=>?_,q⟩
  obtain rfl:b=s1.heap.objs.size:=by simpa using hb
  exact I1.fpOk (Nat.le_refl _) (I1.hok.fresh (Nat.le_refl _))
theorem Rep.lst_of {K:PySem.W.Frag}{H:Hp}{ds:List D}{v:V}{fp:List Addr} (r:Rep K H (.lst ds) v fp):∃ a xs f,v=.ref a∧SqL K H a xs∧Reps K H ds xs f∧∀ b∈f,b∈fp:=by
 cases r with
 | lst h rs=>exact ⟨_,_,_,rfl,SqL.of h,rs,fun b m=>List.mem_cons_of_mem _ m⟩
theorem Rep.fls_of {K:PySem.W.Frag}{H:Hp}{ds:List D}{v:V}{fp:List Addr} (r:Rep K H (.fls ds) v fp):∃ a xs,v=.ref a∧SqL K H a xs∧Reps K H ds xs fp:=by
 cases r with
 | lsf h rs=>exact ⟨_,_,rfl,h.sq,rs⟩
theorem Rep.tup_of {K:PySem.W.Frag}{H:Hp}{ds:List D}{v:V}{fp:List Addr} (r:Rep K H (.tup ds) v fp):∃ a xs,v=.ref a∧SqT K H a xs∧Reps K H ds xs fp:=by
 cases r with
 | tup h rs=>exact ⟨_,_,rfl,h,rs⟩
theorem itOk_list {K:PySem.W.Frag}{a:Addr}{ds:List D}{fp:List Addr}:ItOk K (Itl K a) ds [⟨.lst ds,.ref a,fp⟩]:=by
 intro H i hh
 have r:Rep K H (.lst ds) (.ref a) fp:=hh ⟨.lst ds,.ref a,fp⟩ List.mem_cons_self
 obtain ⟨a',xs,f,e,hq,rs,sub⟩:=r.lst_of
 cases e
 refine ⟨fun d hd=>?_,fun hl=>⟨xs,hq,by rw [← rs.length];exact hl⟩⟩
 obtain ⟨v,f',hv,rv,s'⟩:=rs.get hd
 refine ⟨⟨xs,v,hq,hv⟩,fun x H1 y=>?_⟩
 obtain ⟨e1,y⟩:=y
 subst e1
 have e2:=y xs hq
 rw [hv] at e2
 cases e2
 exact ⟨Same.refl _,f',rv,fun b m=>⟨_,List.mem_cons_self,sub b (s' b m)⟩⟩
theorem itOk_fls {K:PySem.W.Frag}{a:Addr}{ds:List D}{fp:List Addr}:ItOk K (Itl K a) ds [⟨.fls ds,.ref a,fp⟩]:=by
 intro H i hh
 have r:Rep K H (.fls ds) (.ref a) fp:=hh ⟨.fls ds,.ref a,fp⟩ List.mem_cons_self
 obtain ⟨a',xs,e,hq,rs⟩:=r.fls_of
 cases e
 refine ⟨fun d hd=>?_,fun hl=>⟨xs,hq,by rw [← rs.length];exact hl⟩⟩
 obtain ⟨v,f',hv,rv,s'⟩:=rs.get hd
 refine ⟨⟨xs,v,hq,hv⟩,fun x H1 y=>?_⟩
 obtain ⟨e1,y⟩:=y
 subst e1
 have e2:=y xs hq
 rw [hv] at e2
 cases e2
 exact ⟨Same.refl _,f',rv,fun b m=>⟨_,List.mem_cons_self,s' b m⟩⟩
theorem itOk_tup {K:PySem.W.Frag}{a:Addr}{ds:List D}{fp:List Addr}:ItOk K (Itt K a) ds [⟨.tup ds,.ref a,fp⟩]:=by
 intro H i hh
 have r:Rep K H (.tup ds) (.ref a) fp:=hh ⟨.tup ds,.ref a,fp⟩ List.mem_cons_self
 obtain ⟨a',xs,e,hq,rs⟩:=r.tup_of
 cases e
 refine ⟨fun d hd=>?_,fun hl=>⟨xs,hq,by rw [← rs.length];exact hl⟩⟩
 obtain ⟨v,f',hv,rv,s'⟩:=rs.get hd
 refine ⟨⟨xs,v,hq,hv⟩,fun x H1 y=>?_⟩
 obtain ⟨e1,y⟩:=y
 subst e1
 have e2:=y xs hq
 rw [hv] at e2
 cases e2
 exact ⟨Same.refl _,f',rv,fun b m=>⟨_,List.mem_cons_self,s' b m⟩⟩
theorem itOk_range {K:PySem.W.Frag}{lo:Int}{n:Nat}:ItOk K (Itr lo n) ((List.range n).map fun i:Nat=>D.int (lo + (i:Int))) []:=by
 intro H i _
 refine ⟨fun d hd=>?_,fun hl=>?_⟩
 ·rw [List.getElem?_map] at hd
  by_cases hi:i < n
  ·rw [List.getElem?_range hi] at hd
   cases hd
   refine ⟨hi,fun x H1 y=>?_⟩
   obtain ⟨e1,e2⟩:=y
   subst e1 e2
   exact ⟨Same.refl _,[],.int _,fun b m=>nomatch m⟩
  ·rw [List.getElem?_eq_none (by simpa using hi)] at hd
   cases hd
 ·rw [List.length_map,List.length_range] at hl
  exact hl
theorem TagOk.over {K:PySem.W.Frag}{H0:Hp}{S:List Addr}{z:Addr→Option Nat}{held:List Held}{ρ:Rho}{σ:St}{H:Hp}{t:Tag}{fp:List Addr} (ok:Ok K H0 S z held ρ σ H) (g:TagOk z H t fp):∀ a∈fp,∀ j,z a=some j→∃ o,t=.sh o∧j∈o:=by
 intro a m j q
 cases t with
 | sh o=>exact ⟨o,rfl,g a m j q⟩
 | own=>obtain ⟨⟨o,w⟩,_⟩:=ok.zd a j q;rw [g.2 a m] at w;cases w
 | lk=>obtain ⟨⟨o,w⟩,_⟩:=ok.zd a j q;rw [g.2 a m] at w;cases w
theorem fi_seq {l:Expr}{f:EF} (hl:FP X l f):FI X tg l (iSeqF f):=by
 obtain ⟨t,p,q⟩:=hl
 refine ⟨_,pi_seq p,fun H0 S z held ρ σ H R ds tg ok e k=>?_⟩
 unfold iSeqF at e
 cases h:f ρ with
 | none=>rw [h] at e;cases e
 | some w=>
  obtain ⟨d,tg'⟩:=w
  rw [h] at e
  cases d with
  | lst es=>
   cases e
   refine q H0 S z held ρ σ H _ _ _ ok h fun H1 v fp s1 r1 g1=>?_
   obtain ⟨a,xs,f,rfl,hq,rs,sub⟩:=r1.lst_of
   exact ⟨a,rfl,.inl ⟨⟨xs,hq⟩,k H1 _ [⟨.lst ds,.ref a,fp⟩] s1 (fun h m=>by cases List.mem_singleton.mp m;exact ⟨r1,g1.over ok⟩) itOk_list⟩⟩
  | fls es=>
   cases e
   refine q H0 S z held ρ σ H _ _ _ ok h fun H1 v fp s1 r1 g1=>?_
   obtain ⟨a,xs,rfl,hq,rs⟩:=r1.fls_of
   exact ⟨a,rfl,.inl ⟨⟨xs,hq⟩,k H1 _ [⟨.fls ds,.ref a,fp⟩] s1 (fun h m=>by cases List.mem_singleton.mp m;exact ⟨r1,g1.over ok⟩) itOk_fls⟩⟩
  | tup es=>
   cases e
   refine q H0 S z held ρ σ H _ _ _ ok h fun H1 v fp s1 r1 g1=>?_
   obtain ⟨a,xs,rfl,hq,rs⟩:=r1.tup_of
   exact ⟨a,rfl,.inr ⟨⟨xs,hq⟩,k H1 _ [⟨.tup ds,.ref a,fp⟩] s1 (fun h m=>by cases List.mem_singleton.mp m;exact ⟨r1,g1.over ok⟩) itOk_tup⟩⟩
  | _=>cases e
def small (i:Int):Bool:=decide (-(2 ^ 62)≤i)&&decide (i < 2 ^ 62)
def iR1 (g:EF):IF:=fun ρ=>match g ρ with
 | some (.int j,_)=>if small j=true then some ((List.range j.toNat).map fun i:Nat=>D.int (0 + (i:Int)),.own) else none
 | _=>none
def iR2 (f g:EF):IF:=fun ρ=>match f ρ,g ρ with
 | some (.int i,_),some (.int j,_)=>if (small i&&small j)=true then some ((List.range (j - i).toNat).map fun k:Nat=>D.int (i + (k:Int)),.own) else none
 | _,_=>none
theorem small_of {i:Int} (h:small i=true):-(2 ^ 62)≤i∧i < 2 ^ 62:=by
 obtain ⟨a,b⟩:=(Bool.and_eq_true _ _).mp h
 exact ⟨of_decide_eq_true a,of_decide_eq_true b⟩
theorem fi_range1 {a:Expr}{g:EF}{p pos:Pos} (hm:X.mg "range"=none) (ha:FP X a g) (hg:Gl X "range":=by rfl) (hs:starEach [a] X.env=[(false,eval a X.env)]:=by rfl):FI X tg (.Call (.Name "range" p) [a] [] pos) (iR1 g):=by
 obtain ⟨t,pa,q⟩:=ha
 refine ⟨_,pi_range1 hg hm (pa_cons pa pa_nil hs) hs,fun H0 S z held ρ σ H R ds tg ok e k=>?_⟩
 unfold iR1 at e
 cases h:g ρ with
 | none=>rw [h] at e;cases e
 | some w=>
  obtain ⟨d,tg'⟩:=w
  rw [h] at e
  cases d with
  | int j=>
   dsimp only at e
   by_cases hj:small j=true
   ·rw [if_pos hj] at e
    cases e
    refine q H0 S z held ρ σ H _ _ _ ok h fun H1 v fp s1 r1 g1=>?_
    cases r1
    exact ⟨j,rfl,(small_of hj).1,(small_of hj).2,k H1 _ [] s1 (fun h m=>nomatch m) itOk_range⟩
   ·rw [if_neg hj] at e;cases e
  | _=>cases e
theorem fi_range2 {a b:Expr}{f g:EF}{p pos:Pos} (hm:X.mg "range"=none) (ha:FP X a f) (hb:FP X b g) (hg:Gl X "range":=by rfl) (hs:starEach [a,b] X.env=[(false,eval a X.env),(false,eval b X.env)]:=by rfl) (hs2:starEach [b] X.env=[(false,eval b X.env)]:=by rfl) :
  FI X tg (.Call (.Name "range" p) [a,b] [] pos) (iR2 f g):=by
 obtain ⟨t,pa,q⟩:=ha
 obtain ⟨t',pb,q'⟩:=hb
 refine ⟨_,pi_range2 hg hm (pa_cons pa (pa_cons pb pa_nil hs2) (by rw [hs,hs2])) hs hs2,fun H0 S z held ρ σ H R ds tg ok e k=>?_⟩
 unfold iR2 at e
 cases h:f ρ with
 | none=>rw [h] at e;cases e
 | some w=>
  obtain ⟨d,tg'⟩:=w
  cases h2:g ρ with
  | none=>rw [h,h2] at e;cases d <;> cases e
  | some w=>
   obtain ⟨d2,tg2⟩:=w
   rw [h,h2] at e
   cases d with
   | int i=>
    cases d2 with
    | int j=>
     dsimp only at e
     by_cases hj:(small i&&small j)=true
     ·rw [if_pos hj] at e
      cases e
      obtain ⟨si,sj⟩:=(Bool.and_eq_true _ _).mp hj
      refine q H0 S z held ρ σ H _ _ _ ok h fun H1 v fp s1 r1 g1=>?_
      cases r1
      refine q' H0 S z held ρ σ H1 _ _ _ (ok.same s1) h2 fun H2 v fp s2 r2 g2=>?_
      cases r2
      exact ⟨i,j,rfl,⟨(small_of si).1,(small_of si).2,(small_of sj).1,(small_of sj).2⟩,k H2 _ [] (s1.trans s2) (fun h m=>nomatch m) itOk_range⟩
     ·rw [if_neg hj] at e;cases e
    | _=>cases e
   | _=>cases e
end
def ovr:Tag→List Nat
 | .sh o=>o
 | _=>[]
def itag (t:Tag):Tag:=.sh (ovr t)
def ownAt (ρ:Rho) (j:Nat):Bool:=match ρ[j]? with
 | some (some (_,.own))=>true
 | _=>false
def ownsIn (o:List Nat) (ρ:Rho):List Nat:=o.filter (ownAt ρ)
def lockT:Tag→Tag
 | .own=>.lk
 | t=>t
def unlockT:Tag→Tag
 | .lk=>.own
 | t=>t
def onT (f:Tag→Tag):Slot→Slot
 | some (d,t)=>some (d,f t)
 | none=>none
def lockS:List Nat→Rho→Rho
 | [],ρ=>ρ
 | j::r,ρ=>lockS r (ρ.modify j (onT lockT))
def unlockS:List Nat→Rho→Rho
 | [],ρ=>ρ
 | j::r,ρ=>unlockS r (ρ.modify j (onT unlockT))
def loopF (g:GF) (t:Tag) (f:SF):List D→SF
 | [],ρ=>some (.nx ρ)
 | d::ds,ρ=>match g d t ρ with
  | none=>none
  | some ρ1=>match f ρ1 with
   | some (.nx ρ2)=>loopF g t f ds ρ2
   | some (.ct ρ2)=>loopF g t f ds ρ2
   | some (.bk ρ2)=>some (.nx ρ2)
   | some (.rt r)=>some (.rt r)
   | some (.er raw cn ρ2)=>some (.er raw cn ρ2)
   | none=>none
def sFor (it:IF) (g:GF) (f:SF):SF:=fun ρ=>match it ρ with
 | none=>none
 | some (ds,t)=>match loopF g (itag t) f ds (lockS (ownsIn (ovr t) ρ) ρ) with
  | some (.nx ρ')=>some (.nx (unlockS (ownsIn (ovr t) ρ) ρ'))
  | some (.rt d)=>some (.rt d)
  | some (.er raw cn ρ')=>some (.er raw cn (unlockS (ownsIn (ovr t) ρ) ρ'))
  | _=>none
theorem lockS_at:∀ {ks:List Nat}{ρ:Rho}{i:Nat}{d:D}{t:Tag},(lockS ks ρ)[i]? = some (some (d,t))→∃ t',ρ[i]? = some (some (d,t'))∧(t=t'∨(t'=.own∧t=.lk))∧(i∈ks→t≠.own)
 | [],ρ,i,d,t,h=>⟨t,h,.inl rfl,fun m=>nomatch m⟩
 | j::r,ρ,i,d,t,h=>by
  obtain ⟨t1,h1,h2,h3⟩:=lockS_at (ks:=r) h
  rw [List.getElem?_modify] at h1
  cases e:ρ[i]? with
  | none=>rw [e] at h1;cases h1
  | some s=>
   rw [e] at h1
   have h1':(if j=i then onT lockT s else s)=some (d,t1):=Option.some.inj h1
   by_cases hj:j=i
   ·rw [if_pos hj] at h1'
    cases s with
    | none=>cases h1'
    | some p=>
     obtain ⟨d0,t0⟩:=p
     cases h1'
     refine ⟨t0,rfl,?_,fun _=>?_⟩
     ·rcases h2 with h2 | ⟨h2,h2'⟩
      ·cases t0 <;> first | exact .inl h2 | exact .inr ⟨rfl,h2⟩
      ·cases t0 <;> cases h2
     ·rcases h2 with h2 | ⟨h2,h2'⟩
      ·rw [h2];cases t0 <;> (intro z;cases z)
      ·rw [h2'];intro z;cases z
   ·rw [if_neg hj] at h1'
    subst h1'
    refine ⟨t1,rfl,h2,fun m=>?_⟩
    rcases List.mem_cons.mp m with z | z
    ·exact absurd z.symm hj
    ·exact h3 z
theorem lockS_len:∀ {ks:List Nat}{ρ:Rho},(lockS ks ρ).length=ρ.length
 | [],_=>rfl
 | _::r,ρ=>(lockS_len (ks:=r)).trans (List.length_modify ..)
theorem unlockS_len:∀ {ks:List Nat}{ρ:Rho},(unlockS ks ρ).length=ρ.length
 | [],_=>rfl
 | _::r,ρ=>(unlockS_len (ks:=r)).trans (List.length_modify ..)
theorem unlockS_at:∀ {ks:List Nat}{ρ:Rho}{i:Nat}{d:D}{t:Tag},(unlockS ks ρ)[i]? = some (some (d,t))→∃ t',ρ[i]? = some (some (d,t'))∧(t=t'∨(t'=.lk∧t=.own∧i∈ks))
 | [],ρ,i,d,t,h=>⟨t,h,.inl rfl⟩
 | j::r,ρ,i,d,t,h=>by
  obtain ⟨t1,h1,h2⟩:=unlockS_at (ks:=r) h
  rw [List.getElem?_modify] at h1
  cases e:ρ[i]? with
  | none=>rw [e] at h1;cases h1
  | some s=>
   rw [e] at h1
   have h1':(if j=i then onT unlockT s else s)=some (d,t1):=Option.some.inj h1
   by_cases hj:j=i
   ·rw [if_pos hj] at h1'
    cases s with
    | none=>cases h1'
    | some p=>
     obtain ⟨d0,t0⟩:=p
     cases h1'
     refine ⟨t0,rfl,?_⟩
     rcases h2 with h2 | ⟨h2,h2',h3⟩
     ·cases t0 <;> first | exact .inl h2 | exact .inr ⟨rfl,h2,by rw [hj];exact List.mem_cons_self⟩
     ·cases t0 <;> cases h2
   ·rw [if_neg hj] at h1'
    subst h1'
    refine ⟨t1,rfl,?_⟩
    rcases h2 with h2 | ⟨h2,h2',h3⟩
    ·exact .inl h2
    ·exact .inr ⟨h2,h2',List.mem_cons_of_mem _ h3⟩
def heldAt (z:Addr→Option Nat) (hv:List Hv):List Held:=hv.map fun h=>⟨h.d,h.v,h.fp,z⟩
def rezone (z:Addr→Option Nat) (held:List Held):List Held:=held.map fun h=>{ h with z0:=z }
section
variable {K:PySem.W.Frag}{H0:Hp}{S:List Addr}{z:Addr→Option Nat}{held:List Held}{ρ:Rho}{σ:St}{H:Hp}
theorem Ok.begin {hv:List Hv}{t:Tag} (ok:Ok K H0 S z held ρ σ H) (hh:∀ h∈hv,Rep K H h.d h.v h.fp∧∀ a∈h.fp,∀ j,z a=some j→∃ o,t=.sh o∧j∈o) :
  Ok K H0 S z (heldAt z hv++rezone z held) (lockS (ownsIn (ovr t) ρ) ρ) σ H:=by
 refine ⟨fun i d tg e=>?_,fun p m=>?_,ok.zd,ok.en,by rw [lockS_len];exact ok.ln⟩
 ·obtain ⟨t',e',h,_⟩:=lockS_at e
  obtain ⟨v,fp,a,b,c⟩:=ok.sl i d t' e'
  refine ⟨v,fp,a,b,?_⟩
  rcases h with h | ⟨h,h'⟩
  ·subst h;exact c
  ·subst h h';exact c
 ·have lockNo:∀ j,NoOwn ρ j→NoOwn (lockS (ownsIn (ovr t) ρ) ρ) j:=fun j n d e=>by
   obtain ⟨t',e',h,_⟩:=lockS_at e
   rcases h with h | ⟨h,h'⟩
   ·subst h;exact n d e'
   ·cases h'
  rcases List.mem_append.mp m with m | m
  ·obtain ⟨h,hm,rfl⟩:=List.mem_map.mp m
   refine ⟨(hh h hm).1,fun a ha j q=>⟨q,fun d e=>?_⟩⟩
   obtain ⟨o,rfl,hj⟩:=(hh h hm).2 a ha j q
   obtain ⟨t',e',h',n⟩:=lockS_at e
   rcases h' with h' | ⟨h',h''⟩
   ·subst h'
    exact n (List.mem_filter.mpr ⟨hj,by unfold ownAt;rw [e']⟩) rfl
   ·cases h''
  ·obtain ⟨h,hm,rfl⟩:=List.mem_map.mp m
   obtain ⟨r,hz⟩:=ok.hl h hm
   exact ⟨r,fun a ha j q=>⟨q,lockNo j (hz a ha j q).2⟩⟩
theorem Ok.fin {hv:List Hv}{t:Tag}{z':Addr→Option Nat}{ρ':Rho}{σ':St}{H':Hp} (ok:Ok K H0 S z held ρ σ H) (ok':Ok K H0 S z' (heldAt z hv++rezone z held) ρ' σ' H'):Ok K H0 S z' held (unlockS (ownsIn (ovr t) ρ) ρ') σ' H':=by
 refine ⟨fun i d tg e=>?_,fun p m=>?_,ok'.zd,ok'.en,by rw [unlockS_len];exact ok'.ln⟩
 ·obtain ⟨t',e',h⟩:=unlockS_at e
  obtain ⟨v,fp,a,b,c⟩:=ok'.sl i d t' e'
  refine ⟨v,fp,a,b,?_⟩
  rcases h with h | ⟨h,h',_⟩
  ·subst h;exact c
  ·subst h h';exact c
 ·obtain ⟨r,hz⟩:=ok'.hl { p with z0:=z } (List.mem_append_right _ (List.mem_map.mpr ⟨p,m,rfl⟩))
  refine ⟨r,fun a ha j q=>?_⟩
  obtain ⟨h1,h2⟩:=hz a ha j q
  have h1:z a=some j:=h1
  obtain ⟨h3,h4⟩:=(ok.hl p m).2 a ha j h1
  refine ⟨h3,fun d e=>?_⟩
  obtain ⟨t',e',h⟩:=unlockS_at e
  rcases h with h | ⟨h,_,hk⟩
  ·subst h;exact h2 d e'
  ·have ho:=(List.mem_filter.mp hk).2
   unfold ownAt at ho
   cases e0:ρ[j]? with
   | none=>rw [e0] at ho;cases ho
   | some s=>
    rw [e0] at ho
    cases s with
    | none=>cases ho
    | some p=>
     obtain ⟨d0,t0⟩:=p
     cases t0 <;> first | exact h4 d0 e0 | cases ho
end
section
variable {X:Cx}{pos:Pos}
theorem fs_for {tg iter:Expr}{body:List Stmt}{it:IF}{g:GF}{f:SF}{is:List Nat} (hc:X.calm=true) (hi:FI X tg iter it) (hg:FG X tg g is) (hb:FS X body f) (hp:PassesOwn (model X.prog X.w) X.A X.env X.xe:=by exact PassesOwn.never)
  (hs:∀ x,foldedSetIterable iter X.env x=pure x:=by intro _;rfl):FS1 X (.For tg iter body [] pos) (sFor it g f):=by
 obtain ⟨wi,pi,si⟩:=hi
 obtain ⟨n1,tgt,pg,sg⟩:=hg
 obtain ⟨tb,pb,sb⟩:=hb
 refine ⟨_,ps_for hp hc pi pg pb hs,fun H0 S z held ρ σ H E o ok e k=>?_⟩
 unfold sFor at e
 cases h:it ρ with
 | none=>rw [h] at e;cases e
 | some w=>
  obtain ⟨ds,t⟩:=w
  rw [h] at e
  dsimp only at e
  refine si H0 S z held ρ σ H _ ds t ok h fun H1 J hv s1 hh itok=>?_
  cases ho:loopF g (itag t) f ds (lockS (ownsIn (ovr t) ρ) ρ) with
  | none=>rw [ho] at e;cases e
  | some out=>
   rw [ho] at e
   have ok1:=ok.same s1
   have ok2:=ok1.begin (t:=t) hh
   have fin:∀ {z':Addr→Option Nat}{ρ':Rho}{σ':St}{H':Hp},Ok X.K H0 S z' (heldAt z hv++rezone z held) ρ' σ' H'→out=.nx ρ'→Kp X σ σ'→E.nx σ' H':=fun {z' ρ' σ' H'} ok' eo kp=>by
    subst eo
    cases e
    exact k z' σ' H' (ok1.fin (t:=t) ok') kp
   refine ⟨fun i m σ' H'=>m=ds.length - i∧∃ z' ρ',Ok X.K H0 S z' (heldAt z hv++rezone z held) ρ' σ' H'∧loopF g (itag t) f (ds.drop i) ρ'=some out∧Kp X σ σ',⟨ds.length,rfl,z,_,ok2,ho,.refl _ _⟩,?_⟩
   rintro i m σ' H' ⟨rfl,z',ρ',ok',e',kp⟩
   have hH:∀ h∈hv,Rep X.K H' h.d h.v h.fp:=fun h m=>(ok'.hl _ (List.mem_append_left _ (List.mem_map.mpr ⟨h,m,rfl⟩))).1
   obtain ⟨go,stop⟩:=itok H' i hH
   by_cases hl:ds.length≤i
   ·refine .inl ⟨stop hl,?_⟩
    rw [List.drop_eq_nil_of_le hl] at e'
    cases e'
    exact fin ok' rfl kp
   ·have hlt:i < ds.length:=Nat.lt_of_not_le hl
    rw [List.drop_eq_getElem_cons hlt] at e'
    obtain ⟨g1,g2⟩:=go ds[i] (List.getElem?_eq_getElem hlt)
    refine .inr ⟨g1,fun σ2 H2=>∃ z' ρ',Ok X.K H0 S z' (heldAt z hv++rezone z held) ρ' σ2 H2∧loopF g (itag t) f (ds.drop (i + 1)) ρ'=some out∧Kp X σ σ2,fun σ2 H2 hn=>⟨ds.length - (i + 1),by omega,rfl,hn⟩,fun x H2 y=>?_⟩
    obtain ⟨s2,fp,r2,sub⟩:=g2 x H2 y
    unfold loopF at e'
    cases hg1:g ds[i] (itag t) ρ' with
    | none=>rw [hg1] at e';cases e'
    | some ρ1=>
     rw [hg1] at e'
     dsimp only at e'
     refine sg H0 S z' _ ρ' σ' H' H2 x ds[i] (itag t) fp _ ρ1 ok' s2 r2 (fun a ha j q=>?_) hg1 fun z2 σ2 ok3 a3=>?_
     ·obtain ⟨h,hm,ha'⟩:=sub a ha
      obtain ⟨_,hz⟩:=ok'.hl _ (List.mem_append_left _ (List.mem_map.mpr ⟨h,hm,rfl⟩))
      obtain ⟨q0,_⟩:=hz a ha' j q
      obtain ⟨o',rfl,hj⟩:=(hh h hm).2 a ha' j q0
      exact hj
     ·cases hf:f ρ1 with
      | none=>rw [hf] at e';cases e'
      | some o1=>
       rw [hf] at e'
       refine sb H0 S z2 _ ρ1 σ2 H2 _ o1 ok3 hf ?_
       cases o1 with
       | nx ρ2=>exact fun z3 σ3 H3 ok4 b=>⟨z3,ρ2,ok4,e',(kp.trans (.off n1 a3.2)).trans b⟩
       | ct ρ2=>exact fun z3 σ3 H3 ok4 b=>⟨z3,ρ2,ok4,e',(kp.trans (.off n1 a3.2)).trans b⟩
       | bk ρ2=>
        cases e'
        exact fun z3 σ3 H3 ok4 b=>fin ok4 rfl ((kp.trans (.off n1 a3.2)).trans b)
       | rt d=>
        cases e'
        cases e
        exact k
       | er raw cn ρ2=>
        cases e'
        cases e
        obtain ⟨ES,th,q⟩:=k
        exact ⟨ES,th,fun z3 σ3 H3 C ok4 b hC=>q z3 σ3 H3 C (ok1.fin (t:=t) ok4) ((kp.trans (.off n1 a3.2)).trans b) hC⟩
end
def teS (K:PySem.W.Frag) (f:EF):TE:=fun σ H Q=>∃ H0 S z held ρ d tg,Ok K H0 S z held ρ σ H∧f ρ=some (d,tg)∧∀ H' v fp,Same H H'→Rep K H' d v fp→TagOk z H tg fp→Q v H'
def ttS (K:PySem.W.Frag) (f:TF):TT:=fun σ H Q=>∃ H0 S z held ρ b,Ok K H0 S z held ρ σ H∧f ρ=some b∧∀ H',Same H H'→Q b H'
def tgS (K:PySem.W.Frag) (g:GF) (is:List Nat):TG:=fun v σ H1 Q=>∃ H0 S z held ρ H d tag fp ρ',Ok K H0 S z held ρ σ H∧Same H H1∧Rep K H1 d v fp∧TagOk z H tag fp∧g d tag ρ=some ρ' ∧
 ∀ z' σ',Ok K H0 S z' held ρ' σ' H1→(σ'.length=σ.length∧∀ j,j∉is→σ'[j]? = σ[j]?)→Q σ' H1
section
variable {X:Cx}
theorem FP.pe {e:Expr}{f:EF} (h:FP X e f):PE X e (teS X.K f):=by
 obtain ⟨t,p,q⟩:=h
 intro pins s σ H Q I ⟨H0,S,z,held,ρ,d,tg,ok,e,k⟩
 exact p pins s σ H Q I (q H0 S z held ρ σ H Q d tg ok e k)
theorem FT.pt {e:Expr}{f:TF} (h:FT X e f):PT X e (ttS X.K f):=by
 obtain ⟨t,p,q⟩:=h
 intro pins s σ H Q I ⟨H0,S,z,held,ρ,b,ok,e,k⟩
 exact p pins s σ H Q I (q H0 S z held ρ σ H Q b ok e k)
theorem FG.pg {e:Expr}{g:GF}{is:List Nat} (h:FG X e g is):PG X e (tgS X.K g is):=by
 obtain ⟨_,t,p,q⟩:=h
 intro pins s σ H1 v u Q I r ⟨H0,S,z,held,ρ,H,d,tag,fp,ρ',ok,sm,rp,tk,e,k⟩
 exact p pins s σ H1 v u Q I r (q H0 S z held ρ σ H H1 v d tag fp Q ρ' ok sm rp tk e k)
end
def FTs (X:Cx) (ifs:List Expr) (f:TF):Prop:=PTs X ifs (ttS X.K f)
def tTrue:TF:=fun _=>some true
theorem fts_nil {X:Cx}:FTs X [] tTrue:=by
 intro pins s σ H Q I ⟨H0,S,z,held,ρ,b,ok,e,k⟩
 cases e
 exact wpAny_tests_nil ⟨H,I,k H (Same.refl H)⟩
theorem fts_one {X:Cx}{c:Expr}{f:TF} (h:FT X c f):FTs X [c] f:=pts_one h.pt
def iniR (js:List (Option Nat)) (ρ:Rho):Rho:=js.map fun j=>match j with
 | none=>none
 | some j=>match ρ[j]? with
  | some (some (d,_))=>some (d,.sh [])
  | _=>none
def compE (g:GF) (tt:TF) (te:EF) (ρ:Rho) (d:D):Option (Option D):=match g d (.sh []) ρ with
 | none=>none
 | some ρ1=>match tt ρ1 with
  | none=>none
  | some false=>some none
  | some true=>match te ρ1 with
   | none=>none
   | some (e,t)=>if isOwn t=true then some (some e) else if imm e=true then some (some e) else none
def compF (h:D→Option (Option D)):List D→Option (List D)
 | []=>some []
 | d::ds=>match h d with
  | none=>none
  | some none=>compF h ds
  | some (some e)=>match compF h ds with
   | none=>none
   | some es=>some (e::es)
def eComp (js:List (Option Nat)) (it:IF) (g:GF) (tt:TF) (te:EF):EF:=fun ρ=>match it ρ with
 | none=>none
 | some (ds,_)=>if ds.length < sizeLine then (compF (compE g tt te (iniR js ρ)) ds).map fun es=>(.lst es,.own) else none
theorem compF_ok {h:D→Option (Option D)}{k:D→Option D}:∀ {ds:List D},(∀ d∈ds,h d=some (k d))→compF h ds=some (ds.filterMap k)
 | [],_=>rfl
 | d::ds,e=>by
  unfold compF
  rw [e d List.mem_cons_self,compF_ok fun x m=>e x (List.mem_cons_of_mem _ m),List.filterMap_cons]
  cases k d <;> rfl
section
variable {X:Cx}{pos:Pos}
theorem comp_read {wi:TI}{it:IF}{js:List (Option Nat)}{g:GF}{tt:TF}{te:EF}{is:List Nat} (hjs:∀ i∈is,js[i]? = some none)
  (si:∀ (H0:Hp) (S:List Addr) (z:Addr→Option Nat) (held:List Held) (ρ:Rho) (σ:St) (H:Hp) (R:It→Hp→Prop) (ds:List D) (t:Tag),
   Ok X.K H0 S z held ρ σ H→it ρ=some (ds,t)→(∀ H1 J hv,Same H H1→(∀ h∈hv,Rep X.K H1 h.d h.v h.fp∧∀ a∈h.fp,∀ j,z a=some j→∃ o,t=.sh o∧j∈o)→ItOk X.K J ds hv→R J H1)→wi σ H R)
  (H0:Hp) (S:List Addr) (z:Addr→Option Nat) (held:List Held) (ρ:Rho) (σ:St) (H:Hp) (Q:VK) (d:D) (tg:Tag) (ok:Ok X.K H0 S z held ρ σ H) (e:eComp js it g tt te ρ=some (d,tg))
  (k:∀ H' v fp,Same H H'→Rep X.K H' d v fp→TagOk z H tg fp→Q v H'):tComp wi js (tgS X.K g is) (ttS X.K tt) (teS X.K te) σ H Q:=by
 unfold eComp at e
 cases h:it ρ with
 | none=>rw [h] at e;cases e
 | some w=>
  obtain ⟨ds,t⟩:=w
  rw [h] at e
  dsimp only at e
  by_cases hz:ds.length < sizeLine
  ·rw [if_pos hz] at e
   cases hcf:compF (compE g tt te (iniR js ρ)) ds with
   | none=>rw [hcf] at e;cases e
   | some es=>
    rw [hcf] at e
    cases e
    refine si H0 S z held ρ σ H _ ds t ok h fun H1 J hv s1 hh itok Dd hDd=>?_
    have ok1:=ok.same s1
    have inner:∀ (σ':St) (H2:Hp),Same H1 H2→(∃ o,H2 Dd=some o)→σ'.length=js.length→(∀ j,j∉is→σ'[j]? = (iniC js σ)[j]?)→Ok X.K H1 [] (fun a=>if a=Dd then some js.length else none) (heldAt (fun _=>none) hv) (iniR js ρ) σ' H2:=by
     intro σ' H2 s2 hoD hlen hag
     have nD:∀ {a:Addr}{o:HO},H1 a=some o→a≠Dd:=fun e=>ne_of_none e hDd
     refine ⟨fun i d t e=>?_,fun p m=>?_,fun a j e=>?_,fun a o e _=>s2 _ _ e,by unfold iniR;rw [List.length_map,hlen]⟩
     ·unfold iniR at e
      rw [List.getElem?_map] at e
      cases hj:js[i]? with
      | none=>rw [hj] at e;cases e
      | some o=>
       rw [hj] at e
       cases o with
       | none=>cases e
       | some j=>
        have e:(match ρ[j]? with | some (some (d,_))=>some (d,Tag.sh []) | _=>none)=some (d,t):=Option.some.inj e
        cases hr:ρ[j]? with
        | none=>rw [hr] at e;cases e
        | some s=>
         rw [hr] at e
         cases s with
         | none=>cases e
         | some p=>
          obtain ⟨d0,t0⟩:=p
          have e1:d0=d∧Tag.sh []=t:=Prod.mk.inj (Option.some.inj e)
          obtain ⟨rfl,rfl⟩:=e1
          obtain ⟨v,fp,hs,r,_⟩:=ok1.sl j d0 t0 hr
          have hi:i∉is:=fun m=>by rw [hjs i m] at hj;cases hj
          refine ⟨v,fp,?_,r.same s2,fun a m q e=>?_⟩
          ·rw [hag i hi]
           unfold iniC
           rw [List.getElem?_map,hj]
           show some ((σ[j]?).join)=some (some v)
           rw [hs];rfl
          ·obtain ⟨o,w,_⟩:=r.dom a m
           dsimp only at e
           rw [if_neg (nD w)] at e
           cases e
     ·obtain ⟨h,hm,rfl⟩:=List.mem_map.mp m
      refine ⟨(hh h hm).1.same s2,fun a ha q e=>?_⟩
      obtain ⟨o,w,_⟩:=(hh h hm).1.dom a ha
      rw [if_neg (nD w)] at e
      cases e
     ·by_cases w:a=Dd
      ·rw [w];exact ⟨hoD,.inl hDd⟩
      ·rw [if_neg w] at e;cases e
    refine ⟨fun i m σ' H'=>m=ds.length - i∧Same H1 H'∧σ'.length=js.length∧(∀ j,j∉is→σ'[j]? = (iniC js σ)[j]?)∧∃ done rest vs fp,H' Dd=some (.lst vs)∧Reps X.K H' done vs fp∧fp.Nodup∧(∀ a∈fp,H1 a=none∧a≠Dd) ∧
     compF (compE g tt te (iniR js ρ)) (ds.drop i)=some rest∧done++rest=es∧done.length≤i,?_,?_⟩
    ·refine ⟨ds.length,rfl,fun b o e=>by rw [upd_ne (ne_of_none e hDd)];exact e,by unfold iniC;rw [List.length_map],fun _ _=>rfl,[],es,[],[],upd_same,.nil,List.nodup_nil,(fun a m=>nomatch m),hcf,rfl,Nat.le_refl _⟩
    ·rintro i m σ' H' ⟨rfl,sH,hlen,hag,done,rest,vs,fp,hD,rs,nd,fr,hr,rfl,hle⟩
     obtain ⟨go,stop⟩:=itok H' i fun h m=>(hh h m).1.same sH
     by_cases hl:ds.length≤i
     ·refine .inl ⟨stop hl,?_⟩
      rw [List.drop_eq_nil_of_le hl] at hr
      cases hr
      rw [List.append_nil] at k
      refine k H' (.ref Dd) (Dd::fp) (s1.trans sH) (.lst hD rs) ⟨List.nodup_cons.mpr ⟨fun m=>(fr Dd m).2 rfl,nd⟩,fun a m=>?_⟩
      rcases List.mem_cons.mp m with e | m
      ·rw [e];exact s1.free hDd
      ·exact s1.free (fr a m).1
     ·have hlt:i < ds.length:=Nat.lt_of_not_le hl
      rw [List.drop_eq_getElem_cons hlt] at hr
      obtain ⟨g1,g2⟩:=go ds[i] (List.getElem?_eq_getElem hlt)
      refine .inr ⟨g1,fun x H2 y=>?_⟩
      obtain ⟨s2,fp2,r2,sub⟩:=g2 x H2 y
      have ok2:=inner σ' H' sH ⟨_,hD⟩ hlen hag
      unfold compF at hr
      cases hE:compE g tt te (iniR js ρ) ds[i] with
      | none=>rw [hE] at hr;cases hr
      | some oe=>
       rw [hE] at hr
       unfold compE at hE
       cases hg1:g ds[i] (.sh []) (iniR js ρ) with
       | none=>rw [hg1] at hE;cases hE
       | some ρ1=>
        rw [hg1] at hE
        dsimp only at hE
        have tko:TagOk (fun a=>if a=Dd then some js.length else none) H' (.sh []) fp2:=fun a m j e=>by
         obtain ⟨h,hm,ha⟩:=sub a m
         obtain ⟨o,w,_⟩:=(hh h hm).1.dom a ha
         dsimp only at e
         rw [if_neg (ne_of_none w hDd)] at e
         cases e
        refine ⟨H1,[],_,_,iniR js ρ,H',ds[i],.sh [],fp2,ρ1,ok2,s2,r2,tko,hg1,fun z3 σ3 ok3 ag3=>?_⟩
        have len3:σ3.length=js.length:=ag3.1.trans hlen
        have agc:∀ j,j∉is→σ3[j]? = (iniC js σ)[j]? :=fun j hj=>(ag3.2 j hj).trans (hag j hj)
        cases ht:tt ρ1 with
        | none=>rw [ht] at hE;cases hE
        | some b=>
         rw [ht] at hE
         refine ⟨H1,[],z3,_,ρ1,b,ok3,ht,fun H4 s4=>?_⟩
         have s14:Same H1 H4:=(sH.trans s2).trans s4
         have s04:Same H' H4:=s2.trans s4
         cases b with
         | false=>
          cases hE
          refine iteF ?_
          exact ⟨ds.length - (i + 1),by omega,rfl,s14,len3,agc,done,rest,vs,fp,s04 _ _ hD,rs.same s04,nd,fr,hr,rfl,Nat.le_succ_of_le hle⟩
         | true=>
          refine iteT ?_
          dsimp only at hE
          cases hte:te ρ1 with
          | none=>rw [hte] at hE;cases hE
          | some w=>
           obtain ⟨y,ty⟩:=w
           rw [hte] at hE
           dsimp only at hE
           refine ⟨H1,[],z3,_,ρ1,y,ty,ok3.same s4,hte,fun H5 yv fy s5 ry gy=>?_⟩
           have oe':oe=some y∧fy.Nodup∧∀ a∈fy,H4 a=none:=by
            by_cases ho:isOwn ty=true
            ·rw [if_pos ho] at hE
             cases hE
             exact ⟨rfl,by cases ty <;> first | exact gy | cases ho⟩
            ·rw [if_neg ho] at hE
             by_cases hi:imm y=true
             ·rw [if_pos hi] at hE
              cases hE
              have hn:=ry.imm hi
              subst hn
              exact ⟨rfl,List.nodup_nil,fun a m=>nomatch m⟩
             ·rw [if_neg hi] at hE;cases hE
           obtain ⟨rfl,ndy,fry⟩:=oe'
           dsimp only at hr
           cases hrest:compF (compE g tt te (iniR js ρ)) (ds.drop (i + 1)) with
           | none=>rw [hrest] at hr;cases hr
           | some r'=>
            rw [hrest] at hr
            cases hr
            have s05:Same H' H5:=s04.trans s5
            have hD5:H5 Dd=some (.lst vs):=s05 _ _ hD
            have lv:vs.length < sizeLine:=by rw [← rs.length];omega
            have im:Imm H5 (upd H5 Dd (.lst (vs++[yv]))):=Imm.upd hD5 rfl
            have n1:∀ a∈fp++fy,a≠Dd:=fun a m=>by
             rcases List.mem_append.mp m with m | m
             ·exact (fr a m).2
             ·intro e
              have:=fry a m
              rw [e,s04 _ _ hD] at this;cases this
            have rs5:Reps X.K H5 (done++[y]) (vs++[yv]) (fp++fy):=by
             have q:=Reps.append (rs.same s05) (Reps.cons ry .nil)
             rw [List.append_nil] at q
             exact q
            refine ⟨vs,hD5,lv,ds.length - (i + 1),by omega,rfl,fun b o e=>?_,len3,agc,done++[y],r',vs++[yv],fp++fy,upd_same,rs5.frame (fun a m=>upd_ne (n1 a m)) im,?_,fun a m=>?_,hrest,?_,?_⟩
            ·rw [upd_ne (ne_of_none e hDd)]
             exact s5 _ _ (s14 _ _ e)
            ·refine List.nodup_append.mpr ⟨nd,ndy,fun a m b m' e=>?_⟩
             subst e
             obtain ⟨o,w,_⟩:=(rs.same s04).dom a m
             rw [fry a m'] at w;cases w
            ·refine ⟨?_,n1 a m⟩
             rcases List.mem_append.mp m with m | m
             ·exact (fr a m).1
             ·exact s14.free (fry a m)
            ·rw [List.append_assoc];rfl
            ·rw [List.length_append,List.length_singleton];omega
  ·rw [if_neg hz] at e;cases e
theorem fp_comp {tg iter elt:Expr}{ifs:List Expr}{sc:Scope}{M:List Str}{js:List (Option Nat)}{it:IF}{g:GF}{tt:TF}{te:EF}{is:List Nat} (S:CompScope X M js sc) (hc:X.calm=true) (hi:FI X tg iter it) (hjs:∀ i∈is,js[i]? = some none)
  (hb:∀ s3 H3 fp,FG (cxComp X M sc s3 H3 fp) tg g is∧FTs (cxComp X M sc s3 H3 fp) ifs tt∧FP (cxComp X M sc s3 H3 fp) elt te) (hs:∀ x,foldedSetIterable iter X.env x=pure x:=by intro _;rfl) :
  FP X (.ListComp elt [⟨tg,iter,ifs,0⟩] sc pos) (eComp js it g tt te):=by
 obtain ⟨wi,pi,si⟩:=hi
 exact ⟨_,pe_comp (g:=tgS X.K g is) (tt:=ttS X.K tt) (te:=teS X.K te) S hc pi (fun s3 H3 fp=>⟨(hb s3 H3 fp).1.pg,(hb s3 H3 fp).2.1,(hb s3 H3 fp).2.2.pe⟩) hs,fun H0 S z held ρ σ H Q d tg ok e k=>comp_read hjs si H0 S z held ρ σ H Q d tg ok e k⟩
end
def iniF (n:Nat) (ds:List D):Rho:=ds.map (fun d=>some (d,.sh []))++List.replicate (n - ds.length) none
def runF (n N:Nat) (b:SF):List D→Option D:=fun ds=>if ds.length=n then (match b (iniF N ds) with
 | some (.rt d)=>some d
 | some (.nx _)=>some .non
 | _=>none) else none
section
variable {P:Program}{w:World}{K:PySem.W.Frag}{mg:Str→Option Value}{base:Heap}
theorem fn_F {cm:Bool}{x qual:Str}{st:Stmt}{f:Addr}{fd:FuncData}{N ps:List Str}{k:Nat}{b:SF} (F:Fun K x qual st f fd) (S:FnScope N ps (defScope st))
  (hb:∀ (cdv:Value) (A:Around) (outer:List Env) (s:Shared) (H:Hp) (E:XK),Room k (A.deeper (envOfC qual (defScope st) s.heap.objs.size f cdv)) cm→FS (cxOf CX0 P w K mg base N qual (defScope st) f cdv A outer s H E cm).nox (defBody st) b) :
  FnOk P w K mg base CX0 (k + 1) f fd ps (spF K (runF ps.length N.length b)) cm:=by
 have lenF:∀ {ds:List D}{d:D},runF ps.length N.length b ds=some d→ds.length=ps.length:=fun {ds d} e=>by
  unfold runF at e
  by_cases h:ds.length=ps.length
  ·exact h
  ·rw [if_neg h] at e;cases e
 refine F.ok S (fun vs H Q E ⟨ds,fp,d,rs,e,_⟩=>?_) (fun cdv A outer s H vs Q E hr ⟨ds,fp,d,rs,e,q⟩=>?_)
 ·rw [← rs.length];exact lenF e
 ·obtain ⟨t,p,sd⟩:=hb cdv A outer s H E hr
  refine ⟨t,p,?_⟩
  have hl:=lenF e
  have hlv:=rs.length
  have ok:Ok K H [] (fun _=>none) [] (iniF N.length ds) (start N vs) H:=by
   refine ⟨fun i d' t' e'=>?_,(fun p m=>by cases m),(fun a j e=>by cases e),(fun a o e _=>e),?_⟩
   ·unfold iniF at e'
    by_cases hi:i < ds.length
    ·rw [List.getElem?_append_left (by rw [List.length_map];exact hi),List.getElem?_map,List.getElem?_eq_getElem hi] at e'
     cases e'
     obtain ⟨v,f',hv,rv,_⟩:=rs.get (List.getElem?_eq_getElem hi)
     refine ⟨v,f',?_,rv,fun a _ j e=>by cases e⟩
     unfold start
     rw [List.getElem?_append_left (by rw [List.length_map];omega),List.getElem?_map,hv]
     rfl
    ·rw [List.getElem?_append_right (by rw [List.length_map];omega),List.getElem?_replicate] at e'
     split at e' <;> cases e'
   ·unfold iniF start
    rw [List.length_append,List.length_append,List.length_map,List.length_map,List.length_replicate,List.length_replicate,hlv]
  unfold runF at e
  rw [if_pos hl] at e
  cases ho:b (iniF N.length ds) with
  | none=>rw [ho] at e;cases e
  | some o=>
   rw [ho] at e
   refine sd H [] (fun _=>none) [] (iniF N.length ds) (start N vs) H _ o ok ho ?_
   cases o with
   | rt d'=>
    cases e
    exact fun H' v fp' en r nd fr=>q H' v fp' (fun a o e=>en a o e (fun m=>nomatch m)) r nd fun a m=>(fr a m).resolve_right fun m=>nomatch m
   | nx ρ'=>
    cases e
    exact fun z' σ' H' ok' _=>q H' .non [] (fun a o e=>ok'.en a o e (fun m=>nomatch m)) .non List.nodup_nil fun a m=>nomatch m
   | bk _=>cases e
   | ct _=>cases e
   | er _ _ _=>cases e
end
def iop (f:Int→Int→Int):D→D→Option D
 | .int i,.int j=>some (.int (f i j))
 | _,_=>none
def iopC (C:Int→Int→Bool) (f:Int→Int→Int):D→D→Option D
 | .int i,.int j=>if C i j=true then some (.int (f i j)) else none
 | _,_=>none
def iopB (f:Int→Int→Bool):D→D→Option D
 | .int i,.int j=>some (.bl (f i j))
 | _,_=>none
def oAdd:=iop fun i j=>i + j
def oSub:=iop fun i j=>i - j
def oLt:=iopB fun i j=>decide (i < j)
def oLe:=iopB fun i j=>decide (i≤j)
def oGe:=iopB fun i j=>decide (j≤i)
def oEq:D→D→Option D
 | .int i,.int j=>some (.bl (i == j))
 | .bl i,.bl j=>some (.bl (i == j))
 | .str i,.str j=>some (.bl (i == j))
 | .non,.non=>some (.bl true)
 | _,_=>none
def oNe:D→D→Option D
 | .int i,.int j=>some (.bl (!(i == j)))
 | .bl i,.bl j=>some (.bl (!(i == j)))
 | .str i,.str j=>some (.bl (!(i == j)))
 | .non,.non=>some (.bl false)
 | _,_=>none
def isNon:D→Bool
 | .non=>true
 | _=>false
def oIsN:D→D→Option D
 | d,.non=>some (.bl (isNon d))
 | _,_=>none
def oNotN:D→D→Option D
 | d,.non=>some (.bl (!isNon d))
 | _,_=>none
section
variable {K:PySem.W.Frag}
theorem does_i {g:Int→Int→Int}:Does2 K (rI0 fun i j=>.int (g i j)) (iop g):=by
 intro H x y d1 d2 f1 f2 d Q r1 r2 e k
 unfold iop at e
 split at e
 ·cases e
  exact ⟨_,_,r1.int_of.1,r2.int_of.1,k H _ (Same.refl H) (.int _)⟩
 ·cases e
theorem does_iB {g:Int→Int→Bool}:Does2 K (rI0 fun i j=>.bl (g i j)) (iopB g):=by
 intro H x y d1 d2 f1 f2 d Q r1 r2 e k
 unfold iopB at e
 split at e
 ·cases e
  exact ⟨_,_,r1.int_of.1,r2.int_of.1,k H _ (Same.refl H) (.bl _)⟩
 ·cases e
theorem does_iC {C:Int→Int→Prop}{c:Int→Int→Bool}{g:Int→Int→Int} (h:∀ i j,c i j=true→C i j):Does2 K (rI C fun i j=>.int (g i j)) (iopC c g):=by
 intro H x y d1 d2 f1 f2 d Q r1 r2 e k
 unfold iopC at e
 split at e
 ·rename_i i j
  by_cases hc:c i j=true
  ·rw [if_pos hc] at e
   cases e
   exact ⟨i,j,r1.int_of.1,r2.int_of.1,h i j hc,k H _ (Same.refl H) (.int _)⟩
  ·rw [if_neg hc] at e;cases e
 ·cases e
theorem does_eq:Does2 K rEq oEq:=by
 intro H x y d1 d2 f1 f2 d Q r1 r2 e k
 unfold oEq at e
 split at e
 ·cases e;rw [r1.int_of.1,r2.int_of.1];refine ⟨rfl,?_⟩;rw [dec_int];exact k H _ (Same.refl H) (.bl _)
 ·cases e;rw [r1.bl_of.1,r2.bl_of.1];refine ⟨rfl,?_⟩;rw [dec_bl];exact k H _ (Same.refl H) (.bl _)
 ·cases e;rw [r1.str_of.1,r2.str_of.1];refine ⟨rfl,?_⟩;rw [dec_str];exact k H _ (Same.refl H) (.bl _)
 ·cases e;rw [r1.non_of.1,r2.non_of.1];exact ⟨rfl,by have:=k H (.bl true) (Same.refl H) (.bl _);simpa using this⟩
 ·cases e
theorem does_ne:Does2 K rNe oNe:=by
 intro H x y d1 d2 f1 f2 d Q r1 r2 e k
 unfold oNe at e
 split at e
 ·cases e;rw [r1.int_of.1,r2.int_of.1];refine ⟨rfl,?_⟩;rw [dec_int];exact k H _ (Same.refl H) (.bl _)
 ·cases e;rw [r1.bl_of.1,r2.bl_of.1];refine ⟨rfl,?_⟩;rw [dec_bl];exact k H _ (Same.refl H) (.bl _)
 ·cases e;rw [r1.str_of.1,r2.str_of.1];refine ⟨rfl,?_⟩;rw [dec_str];exact k H _ (Same.refl H) (.bl _)
 ·cases e;rw [r1.non_of.1,r2.non_of.1];exact ⟨rfl,by have:=k H (.bl false) (Same.refl H) (.bl _);simpa using this⟩
 ·cases e
theorem Rep.isNon {H:Hp}{d:D}{v:V}{fp:List Addr} (r:Rep K H d v fp):decide (v=.non)=isNon d:=by
 cases r <;> first | rfl | exact decide_eq_false (fun e=>nomatch e)
theorem does_isN:Does2 K (fun x y H Q=>y=.non∧Q (.bl (decide (x=.non))) H) oIsN:=by
 intro H x y d1 d2 f1 f2 d Q r1 r2 e k
 cases r2 with
 | non=>
  have e:some (D.bl (Ev.isNon d1))=some d:=by cases d1 <;> exact e
  cases e
  refine ⟨rfl,?_⟩
  rw [r1.isNon]
  exact k H _ (Same.refl H) (.bl _)
 | _=>cases d1 <;> cases e
theorem does_notN:Does2 K (fun x y H Q=>y=.non∧Q (.bl (!decide (x=.non))) H) oNotN:=by
 intro H x y d1 d2 f1 f2 d Q r1 r2 e k
 cases r2 with
 | non=>
  have e:some (D.bl (!Ev.isNon d1))=some d:=by cases d1 <;> exact e
  cases e
  refine ⟨rfl,?_⟩
  rw [r1.isNon]
  exact k H _ (Same.refl H) (.bl _)
 | _=>cases d1 <;> cases e
end
section
variable {X:Cx}{a b:Expr}{fa fb:EF}{pos:Pos}
theorem fp_add (ha:FP X a fa) (hb:FP X b fb):FP X (.BinOp a .Add b pos) (e2 oAdd fa fb):=fp_bin op_add does_i ha hb
theorem fp_sub (ha:FP X a fa) (hb:FP X b fb):FP X (.BinOp a .Sub b pos) (e2 oSub fa fb):=fp_bin op_sub does_i ha hb
theorem ft_lt (ha:FP X a fa) (hb:FP X b fb):FT X (.Compare a [.Lt] [b] pos) (tV (e2 oLt fa fb)):=ft_cmp op_lt does_iB ha hb (nomark _)
theorem ft_ge (ha:FP X a fa) (hb:FP X b fb):FT X (.Compare a [.GtE] [b] pos) (tV (e2 oGe fa fb)):=ft_cmp op_ge does_iB ha hb (nomark _)
theorem ft_eq (ha:FP X a fa) (hb:FP X b fb):FT X (.Compare a [.Eq] [b] pos) (tV (e2 oEq fa fb)):=ft_cmp op_eq does_eq ha hb (nomark _)
theorem ft_ne (ha:FP X a fa) (hb:FP X b fb):FT X (.Compare a [.NotEq] [b] pos) (tV (e2 oNe fa fb)):=ft_cmp op_ne does_ne ha hb (nomark _)
theorem ft_isN (ha:FP X a fa) (hb:FP X b fb):FT X (.Compare a [.Is] [b] pos) (tV (e2 oIsN fa fb)):=ft_cmp op_isN does_isN ha hb (nomark _)
theorem ft_notN (ha:FP X a fa) (hb:FP X b fb):FT X (.Compare a [.IsNot] [b] pos) (tV (e2 oNotN fa fb)):=ft_cmp op_notN does_notN ha hb (nomark _)
theorem fp_eq (ha:FP X a fa) (hb:FP X b fb):FP X (.Compare a [.Eq] [b] pos) (e2 oEq fa fb):=fp_cmp op_eq does_eq ha hb (nomark _)
def e1 (op:D→Option D) (fa:EF):EF:=fun ρ=>match fa ρ with
 | some (d1,_)=>(op d1).map fun d=>(d,.own)
 | none=>none
theorem e1_of {op:D→Option D}{fa:EF}{ρ:Rho}{d:D}{tg:Tag} (e:e1 op fa ρ=some (d,tg)):∃ d1 t1,fa ρ=some (d1,t1)∧op d1=some d∧tg=.own:=by
 unfold e1 at e
 cases h1:fa ρ with
 | none=>rw [h1] at e;cases e
 | some p=>
  obtain ⟨d1,t1⟩:=p
  rw [h1] at e
  dsimp only at e
  cases h3:op d1 with
  | none=>rw [h3] at e;cases e
  | some d3=>rw [h3] at e;cases e;exact ⟨d1,t1,rfl,h3,rfl⟩
def Does1 (K:PySem.W.Frag) (r:List V→Hp→VK→Prop) (op:D→Option D):Prop:=∀ (H:Hp) (x:V) (d1:D) (f1:List Addr) (d:D) (Q:VK),Rep K H d1 x f1→op d1=some d →
 (∀ H' v fp,Same H H'→Rep K H' d v fp→fp.Nodup→(∀ a∈fp,H a=none)→Q v H')→r [x] H Q
theorem fp_1 {e:Expr}{r:List V→Hp→VK→Prop}{op:D→Option D} (dd:Does1 X.K r op) (ha:FP X a fa) (he:∀ ta,PE X a ta→PE X e (tCB r (tCons ta tNil))):FP X e (e1 op fa):=by
 obtain ⟨t,p,q⟩:=ha
 refine ⟨_,he t p,fun H0 S z held ρ σ H Q d tg ok e k=>?_⟩
 obtain ⟨d1,t1,h1,h2,rfl⟩:=e1_of e
 refine q H0 S z held ρ σ H _ d1 t1 ok h1 fun H1 x f1 s1 r1 _=>?_
 exact dd H1 x d1 f1 d Q r1 h2 fun H2 v fp s2 r2 nd fr=>k H2 v fp (s1.trans s2) r2 ⟨nd,fun a m=>s1.free (fr a m)⟩
def oLen:D→Option D
 | .lst ds=>some (.int ds.length)
 | .fls ds=>some (.int ds.length)
 | .tup ds=>some (.int ds.length)
 | .dic es=>some (.int es.length)
 | _=>none
theorem CallR.or' {f:Value}{r r':List V→Hp→VK→Prop} (h:CallR X f r) (h':CallR X f r'):CallR X f (fun xs H Q=>r xs H Q∨r' xs H Q):=by
 intro pins s σ H xs us Q I rv q
 rcases q with q | q
 ·exact h pins s σ H xs us Q I rv q
 ·exact h' pins s σ H xs us Q I rv q
theorem does_len:Does1 X.K (fun xs H Q=>(∃ p ys,xs=[V.ref p]∧(SqL X.K H p ys∨SqT X.K H p ys)∧Q (.int ys.length) H)∨(∃ a kvs,xs=[V.ref a]∧H a=some (.dK kvs)∧Q (.int kvs.length) H)) oLen:=by
 intro H x d1 f1 d Q r e k
 have fin:∀ n:Nat,d=.int n→Q (.int n) H:=fun n e=>by subst e;exact k H _ [] (Same.refl H) (.int _) List.nodup_nil fun a m=>nomatch m
 cases d1 with
 | lst ds=>
  obtain ⟨a,xs,f,rfl,hq,rs,_⟩:=r.lst_of
  cases e
  exact .inl ⟨a,xs,rfl,.inl hq,by rw [← rs.length];exact fin _ rfl⟩
 | fls ds=>
  obtain ⟨a,xs,rfl,hq,rs⟩:=r.fls_of
  cases e
  exact .inl ⟨a,xs,rfl,.inl hq,by rw [← rs.length];exact fin _ rfl⟩
 | tup ds=>
  obtain ⟨a,xs,rfl,hq,rs⟩:=r.tup_of
  cases e
  exact .inl ⟨a,xs,rfl,.inr hq,by rw [← rs.length];exact fin _ rfl⟩
 | dic es=>
  cases r with
  | dic h hk rs=>
   cases e
   refine .inr ⟨_,_,rfl,h,?_⟩
   have hl:=congrArg List.length hk
   rw [List.length_map,List.length_map] at hl
   rw [← hl]
   exact fin _ rfl
 | _=>cases e
theorem fp_len {p:Pos} (hm:X.mg "len"=none) (ha:FP X a fa) (hg:Gl X "len":=by rfl) (hs:starEach [a] X.env=[(false,eval a X.env)]:=by rfl):FP X (.Call (.Name "len" p) [a] [] pos) (e1 oLen fa):=
 fp_1 does_len ha fun ta pa=>pe_callB (CallR.or' call_len_seq call_lenD) hg hm PySem.boot_len (pa_cons pa pa_nil hs) (he:=hs) (hpl:=rfl)
def oList:D→Option D
 | .lst ds=>if immAll ds=true then some (.lst ds) else none
 | .tup ds=>if immAll ds=true then some (.lst ds) else none
 | _=>none
theorem does_list:Does1 X.K (fun xs H Q=>∃ p ys,xs=[V.ref p]∧(SqL X.K H p ys∨SqT X.K H p ys)∧∀ l,H l=none→Q (.ref l) (upd H l (.lst ys))) oList:=by
 intro H x d1 f1 d Q r e k
 have fin:∀ {ds:List D}{xs:List V}{f:List Addr},Reps X.K H ds xs f→(if immAll ds=true then some (D.lst ds) else none)=some d→∀ l,H l=none→Q (.ref l) (upd H l (.lst xs)):=fun {ds xs f} rs e l hl=>by
  by_cases hi:immAll ds=true
  ·rw [if_pos hi] at e
   cases e
   have hn:=rs.imm hi
   subst hn
   have s2:Same H (upd H l (.lst xs)):=fun b o e=>by rw [upd_ne (ne_of_none e hl)];exact e
   exact k _ _ [l] s2 (.lst upd_same (rs.same s2)) (List.nodup_cons.mpr ⟨(fun m=>by cases m),List.nodup_nil⟩) fun a m=>by cases List.mem_singleton.mp m;exact hl
  ·rw [if_neg hi] at e;cases e
 cases d1 with
 | lst ds=>
  obtain ⟨a,xs,f,rfl,hq,rs,_⟩:=r.lst_of
  exact ⟨a,xs,rfl,.inl hq,fin rs e⟩
 | tup ds=>
  obtain ⟨a,xs,rfl,hq,rs⟩:=r.tup_of
  exact ⟨a,xs,rfl,.inr hq,fin rs e⟩
 | _=>cases e
theorem fp_list {p:Pos} (hm:X.mg "list"=none) (ha:FP X a fa) (hg:Gl X "list":=by rfl) (hs:starEach [a] X.env=[(false,eval a X.env)]:=by rfl):FP X (.Call (.Name "list" p) [a] [] pos) (e1 oList fa):=
 fp_1 does_list ha fun ta pa=>pe_callTy call_list_of hg hm (by rfl) (pa_cons pa pa_nil hs) (he:=hs) (hpl:=rfl)
end
def oIx:D→D→Option D
 | .fls ds,.int i=>(atI ds i).bind fun d=>if imm d=true then some d else none
 | .lst ds,.int i=>(atI ds i).bind fun d=>if imm d=true then some d else none
 | .tup ds,.int i=>(atI ds i).bind fun d=>if imm d=true then some d else none
 | _,_=>none
theorem does_ix {K:PySem.W.Frag}:Does2 K (fun x y H Q=>rIxL K x y H Q∨rIxT K x y H Q∨rIxS x y H Q) oIx:=by
 intro H x y d1 d2 f1 f2 d Q r1 r2 e k
 have key:∀ {ds:List D}{xs:List V}{f:List Addr}{i:Int},Reps K H ds xs f→((atI ds i).bind fun d=>if imm d=true then some d else none)=some d→∃ v,atI xs i=some v∧Rep K H d v []:=fun {ds xs f i} rs e=>by
  unfold atI at e ⊢
  rw [← rs.length]
  cases h:ixN ds.length i with
  | none=>rw [h] at e;cases e
  | some j=>
   rw [h,Option.bind_some] at e
   rw [Option.bind_some]
   cases h2:ds[j]? with
   | none=>rw [h2] at e;cases e
   | some d'=>
    rw [h2,Option.bind_some] at e
    by_cases hi:imm d'=true
    ·rw [if_pos hi] at e
     cases e
     obtain ⟨v,f',hv,rv,_⟩:=rs.get h2
     have hn:=rv.imm hi
     subst hn
     exact ⟨v,hv,rv⟩
    ·rw [if_neg hi] at e;cases e
 unfold oIx at e
 split at e
 ·obtain ⟨a,xs,rfl,hq,rs⟩:=r1.fls_of
  obtain ⟨v,hv,rv⟩:=key rs e
  exact .inl ⟨a,xs,_,v,rfl,r2.int_of.1,hq,hv,k H v (Same.refl H) rv⟩
 ·obtain ⟨a,xs,f,rfl,hq,rs,_⟩:=r1.lst_of
  obtain ⟨v,hv,rv⟩:=key rs e
  exact .inl ⟨a,xs,_,v,rfl,r2.int_of.1,hq,hv,k H v (Same.refl H) rv⟩
 ·obtain ⟨a,xs,rfl,hq,rs⟩:=r1.tup_of
  obtain ⟨v,hv,rv⟩:=key rs e
  exact .inr (.inl ⟨a,xs,_,v,rfl,r2.int_of.1,hq,hv,k H v (Same.refl H) rv⟩)
 ·cases e
theorem fp_ix {X:Cx}{a b:Expr}{fa fb:EF}{pos:Pos} (ha:FP X a fa) (hb:FP X b fb) (hs:PlainIx b:=by exact fun _ _=>rfl):FP X (.Subscript a b pos) (e2 oIx fa fb):=fp_2 does_ix ha hb fun _ _ pa pb=>pe_ix ix_seq pa pb hs
section
variable {ρ ρ':Rho}{i j:Nat}{d d1 d2:D}{t t1 t2:Tag}{op2:D→D→Option D}{op1:D→Option D}{f g fa fb:EF}{tf tg:TF}{sf sg:SF}{o:Out}
def varK (i:Nat):Option Slot→Option (D×Tag)
 | some (some (d,t))=>some (d,tagOf i t)
 | _=>none
theorem s_eC:eC d ρ=some (d,.own):=rfl
def k1 (op:D→Option D):Option (D×Tag)→Option (D×Tag)
 | some (d,_)=>(op d).map fun d=>(d,.own)
 | none=>none
theorem s_e1:e1 op1 fa ρ=k1 op1 (fa ρ):=by unfold e1 k1;cases fa ρ <;> rfl
theorem s_k1:k1 op1 (some (d,t))=(op1 d).map fun d=>(d,.own):=rfl
def k2 (op:D→D→Option D):Option (D×Tag)→Option (D×Tag)→Option (D×Tag)
 | some (d1,_),some (d2,_)=>(op d1 d2).map fun d=>(d,.own)
 | _,_=>none
theorem s_e2:e2 op2 fa fb ρ=k2 op2 (fa ρ) (fb ρ):=by unfold e2 k2;cases fa ρ <;> cases fb ρ <;> rfl
theorem s_k2:k2 op2 (some (d1,t1)) (some (d2,t2))=(op2 d1 d2).map fun d=>(d,.own):=rfl
def kV:Option (D×Tag)→Option Bool
 | some (.bl b,_)=>some b
 | _=>none
theorem s_tV:tV fa ρ=Ev.kV (fa ρ):=by
 unfold tV Ev.kV
 cases fa ρ with
 | none=>rfl
 | some p=>obtain ⟨d,t⟩:=p;cases d <;> rfl
theorem s_and:tAnd2 tf tg ρ=(match tf ρ with | some true=>tg ρ | some false=>some false | none=>none):=rfl
theorem s_and2 {a b:Bool} (h:tf ρ=some a) (h2:tg ρ=some b):tAnd2 tf tg ρ=some (a&&b):=by unfold tAnd2;rw [h];cases a <;> first | exact h2 | rfl
theorem s_or2 {a b:Bool} (h:tf ρ=some a) (h2:tg ρ=some b):tOr2 tf tg ρ=some (a||b):=by unfold tOr2;rw [h];cases a <;> first | exact h2 | rfl
theorem s_not:tNot1 tf ρ=(tf ρ).map fun b=>!b:=rfl
theorem s_nx:sNx ρ=some (.nx ρ):=rfl
def seqK (g:SF):Option Out→Option Out
 | some (.nx ρ)=>g ρ
 | o=>o
theorem s_seq:sSeq sf sg ρ=seqK sg (sf ρ):=by
 unfold sSeq seqK
 cases sf ρ with
 | none=>rfl
 | some o=>cases o <;> rfl
theorem s_seqN:seqK sg (some (.nx ρ))=sg ρ:=rfl
def ifK (sf sg:SF) (ρ:Rho):Option Bool→Option Out
 | some true=>sf ρ
 | some false=>sg ρ
 | none=>none
theorem s_if:sIf tf sf sg ρ=ifK sf sg ρ (tf ρ):=by unfold sIf ifK;cases tf ρ <;> rfl
theorem s_ifT:ifK sf sg ρ (some true)=sf ρ:=rfl
theorem s_ifF:ifK sf sg ρ (some false)=sg ρ:=rfl
def retK:Option (D×Tag)→Option Out
 | some (d,t)=>if isOwn t=true then some (.rt d) else if imm d=true then some (.rt d) else none
 | none=>none
theorem s_ret:sRet fa ρ=retK (fa ρ):=by unfold sRet retK;cases fa ρ <;> rfl
def setK (i:Nat) (ρ:Rho):Option (D×Tag)→Option Out
 | some (d,t)=>some (.nx (setS ρ i d t))
 | none=>none
theorem s_set:sSet i fa ρ=setK i ρ (fa ρ):=by unfold sSet setK;cases fa ρ <;> rfl
theorem s_aNil:aNil ρ=some []:=rfl
def consK:Option (D×Tag)→Option (List (D×Tag))→Option (List (D×Tag))
 | some p,some ps=>some (p::ps)
 | _,_=>none
theorem s_aCons {a:AF}:aCons fa a ρ=consK (fa ρ) (a ρ):=by unfold aCons consK;cases fa ρ <;> cases a ρ <;> rfl
theorem s_consK {p:D×Tag}{ps:List (D×Tag)}:consK (some p) (some ps)=some (p::ps):=rfl
theorem s_call {F:List D→Option D}{a:AF}:eCall F a ρ=(a ρ).bind fun ps=>(F (ps.map (·.1))).map fun d=>(d,.own):=rfl
theorem s_bind {α β:Type}{f:α→Option β}{a:α}:(some a).bind f=f a:=rfl
theorem s_lst {a:AF}:eLst a ρ=(a ρ).map fun ps=>(.lst (ps.map (·.1)),joinA ps):=rfl
variable {m n:Int}
theorem s_oLe:oLe (.int m) (.int n)=some (.bl (decide (m≤n))):=rfl
theorem runF_rt {n N:Nat}{b:SF}{ds:List D} (hl:ds.length=n) (h:b (iniF N ds)=some (.rt d)):runF n N b ds=some d:=by unfold runF;rw [if_pos hl,h]
end
def dI (ns:List Int):D:=.fls (ns.map D.int)
section
variable {κ:Type} [DecidableEq κ]
def valD (es:List (κ×D)) (k:κ):Option D:=(es.find? fun kv=>decide (kv.1=k)).map (·.2)
def putD (es:List (κ×D)) (k:κ) (d:D):List (κ×D):=
 if (es.any fun kv=>decide (kv.1=k))=true then es.map (fun kv=>if kv.1=k then (kv.1,d) else kv) else es++[(k,d)]
theorem rep_val {K:PySem.W.Frag}{H:Hp}{k:κ}:∀ {es:List (κ×D)}{kvs:List (κ×V)}{fp:List Addr},es.map (·.1)=kvs.map (·.1)→Reps K H (es.map (·.2)) (kvs.map (·.2)) fp →
  (∀ d,valD es k=some d→∃ v f,valV kvs k=some v∧Rep K H d v f∧∀ a∈f,a∈fp)∧(valD es k=none→valV kvs k=none)
 | [],[],_,_,_=>⟨fun d e=>(nomatch e),fun _=>rfl⟩
 | [],_::_,_,e,_=>by simp at e
 | _::_,[],_,e,_=>by simp at e
 | (q,d0)::es,(q',v0)::kvs,fp,e,r=>by
  simp only [List.map_cons,List.cons.injEq] at e
  obtain ⟨rfl,e⟩:=e
  simp only [List.map_cons] at r
  cases r with
  | @cons _ _ _ _ f1 f2 r1 r2=>
   obtain ⟨i1,i2⟩:=rep_val (k:=k) e r2
   by_cases h:q=k
   ·have e1:valD ((q,d0)::es) k=some d0:=by unfold valD;rw [List.find?_cons,decide_eq_true h];rfl
    refine ⟨fun d ed=>?_,fun en=>?_⟩
    ·rw [e1] at ed
     cases ed
     exact ⟨v0,f1,valV_pos h,r1,fun a m=>List.mem_append_left _ m⟩
    ·rw [e1] at en;cases en
   ·have e1:valD ((q,d0)::es) k=valD es k:=by unfold valD;rw [List.find?_cons,decide_eq_false h]
    rw [e1,valV_neg h]
    exact ⟨fun d ed=>let ⟨v,f,a,b,c⟩:=i1 d ed;⟨v,f,a,b,fun x m=>List.mem_append_right _ (c x m)⟩,i2⟩
theorem putD_keys {es:List (κ×D)}{kvs:List (κ×V)}{k:κ}{d:D}{v:V} (e:es.map (·.1)=kvs.map (·.1)):(putD es k d).map (·.1)=(putK kvs k v).map (·.1):=by
 have any:(es.any fun kv=>decide (kv.1=k))=kvs.any fun kv=>decide (kv.1=k):=by
  have h1:(es.any fun kv=>decide (kv.1=k))=(es.map (·.1)).any fun x=>decide (x=k):=by rw [List.any_map];rfl
  have h2:(kvs.any fun kv=>decide (kv.1=k))=(kvs.map (·.1)).any fun x=>decide (x=k):=by rw [List.any_map];rfl
  rw [h1,h2,e]
 have m1:∀ l:List (κ×D),(l.map fun kv=>if kv.1=k then (kv.1,d) else kv).map (·.1)=l.map (·.1):=fun l=>by
  rw [List.map_map];congr 1;funext kv;show (if kv.1=k then (kv.1,d) else kv).1=kv.1;split <;> rfl
 have m2:∀ l:List (κ×V),(l.map fun kv=>if kv.1=k then (kv.1,v) else kv).map (·.1)=l.map (·.1):=fun l=>by
  rw [List.map_map];congr 1;funext kv;show (if kv.1=k then (kv.1,v) else kv).1=kv.1;split <;> rfl
 unfold putD putK
 rw [any]
 by_cases h:(kvs.any fun kv=>decide (kv.1=k))=true
 ·rw [if_pos h,if_pos h,m1,m2,e]
 ·rw [if_neg h,if_neg h,List.map_append,List.map_append,e];rfl
theorem putD_reps {K:PySem.W.Frag}{H:Hp}{k:κ}{d:D}{v:V}{es:List (κ×D)}{kvs:List (κ×V)} (e:es.map (·.1)=kvs.map (·.1)) (r:Reps K H (es.map (·.2)) (kvs.map (·.2)) []) (rv:Rep K H d v []) :
  Reps K H ((putD es k d).map (·.2)) ((putK kvs k v).map (·.2)) []:=by
 have any:(es.any fun kv=>decide (kv.1=k))=kvs.any fun kv=>decide (kv.1=k):=by
  have h1:(es.any fun kv=>decide (kv.1=k))=(es.map (·.1)).any fun x=>decide (x=k):=by rw [List.any_map];rfl
  have h2:(kvs.any fun kv=>decide (kv.1=k))=(kvs.map (·.1)).any fun x=>decide (x=k):=by rw [List.any_map];rfl
  rw [h1,h2,e]
 have go:∀ (es:List (κ×D)) (kvs:List (κ×V)),es.map (·.1)=kvs.map (·.1)→Reps K H (es.map (·.2)) (kvs.map (·.2)) []→Reps K H ((es.map fun kv=>if kv.1=k then (kv.1,d) else kv).map (·.2)) ((kvs.map fun kv=>if kv.1=k then (kv.1,v) else kv).map (·.2)) []:=by
  intro es
  induction es with
  | nil=>
   intro kvs e r
   cases kvs with
   | nil=>exact .nil
   | cons _ _=>simp at e
  | cons p es ih=>
   intro kvs e r
   cases kvs with
   | nil=>simp at e
   | cons p' kvs=>
    obtain ⟨q,d0⟩:=p
    obtain ⟨q',v0⟩:=p'
    simp only [List.map_cons,List.cons.injEq] at e
    obtain ⟨rfl,e⟩:=e
    simp only [List.map_cons] at r ⊢
    generalize hf:([]:List Addr)=fp at r
    cases r with
    | @cons _ _ _ _ f1 f2 r1 r2=>
     obtain ⟨h1,h2⟩:=List.append_eq_nil_iff.mp hf.symm
     subst h1 h2
     have t:=ih kvs e r2
     by_cases h:q=k
     ·rw [if_pos h,if_pos h];exact Reps.cons (f1:=[]) (f2:=[]) rv t
     ·rw [if_neg h,if_neg h];exact Reps.cons (f1:=[]) (f2:=[]) r1 t
 unfold putD putK
 rw [any]
 by_cases h:(kvs.any fun kv=>decide (kv.1=k))=true
 ·rw [if_pos h,if_pos h];exact go es kvs e r
 ·rw [if_neg h,if_neg h,List.map_append,List.map_append]
  exact Reps.append (f:=[]) (g:=[]) r (Reps.cons (f1:=[]) (f2:=[]) rv .nil)
end
def keyD:D→Option Key
 | .int i=>some (.inl i)
 | .str x=>some (.inr x)
 | _=>none
theorem Rep.key {K:PySem.W.Frag}{H:Hp}{d:D}{y:V}{fp:List Addr}{k:Key} (r:Rep K H d y fp) (e:keyD d=some k):y=L2.kV k:=by
 cases r <;> cases e <;> rfl
def oGet:D→D→Option D
 | .dic es,kd=>match keyD kd with
  | some k=>(valD es k).bind fun d=>if imm d=true then some d else none
  | none=>none
 | _,_=>none
def tDg:R2:=fun x y H Q=>∃ a v,x=.ref a∧DGet H a y (some v)∧Q v H
theorem does_get {K:PySem.W.Frag}:Does2 K tDg oGet:=by
 intro H x y d1 d2 f1 f2 d Q r1 r2 e k
 cases r1 with
 | @dic a kvs es fp h hk rs=>
  have e:(match keyD d2 with | some k=>(valD es k).bind fun d=>if imm d=true then some d else none | none=>none)=some d:=e
  cases hkd:keyD d2 with
  | none=>rw [hkd] at e;cases e
  | some key=>
   rw [hkd] at e
   dsimp only at e
   cases hv:valD es key with
   | none=>rw [hv] at e;cases e
   | some d'=>
    rw [hv,Option.bind_some] at e
    by_cases hi:imm d'=true
    ·rw [if_pos hi] at e
     cases e
     obtain ⟨v,f,h1,r,_⟩:=(rep_val (k:=key) hk rs).1 d hv
     have hn:=r.imm hi
     subst hn
     have ek:=r2.key hkd
     subst ek
     have g:=DGet.k (k:=key) h
     rw [h1] at g
     exact ⟨a,v,rfl,g,k H v (Same.refl H) r⟩
    ·rw [if_neg hi] at e;cases e
 | _=>cases e
section
variable {X:Cx}{a b c:Expr}{fa fb fc:EF}{pos:Pos}
theorem fp_dget (hu:X.A.units + 1 < cLine) (ha:FP X a fa) (hb:FP X b fb) (hs:NoSl b:=by exact fun _ _=>rfl):FP X (.Subscript a b pos) (e2 oGet fa fb):=
 fp_2 does_get ha hb fun _ _ pa pb=>pe_dget hu pa pb hs
def oGetD (d1 d2 d3:D):Option D:=match d1,keyD d2 with
 | .dic es,some k=>match valD es k with
  | some d=>if imm d=true then some d else none
  | none=>if imm d3=true then some d3 else none
 | _,_=>none
def e3 (op:D→D→D→Option D) (fa fb fc:EF):EF:=fun ρ=>match fa ρ,fb ρ,fc ρ with
 | some (d1,_),some (d2,_),some (d3,_)=>(op d1 d2 d3).map fun d=>(d,.own)
 | _,_,_=>none
theorem e3_of {op:D→D→D→Option D}{ρ:Rho}{d:D}{tg:Tag} (e:e3 op fa fb fc ρ=some (d,tg)):∃ d1 t1 d2 t2 d3 t3,fa ρ=some (d1,t1)∧fb ρ=some (d2,t2)∧fc ρ=some (d3,t3)∧op d1 d2 d3=some d∧tg=.own:=by
 unfold e3 at e
 cases h1:fa ρ with
 | none=>rw [h1] at e;cases e
 | some p=>
  cases h2:fb ρ with
  | none=>rw [h1,h2] at e;cases e
  | some q=>
   cases h3:fc ρ with
   | none=>rw [h1,h2,h3] at e;cases e
   | some r=>
    obtain ⟨d1,t1⟩:=p
    obtain ⟨d2,t2⟩:=q
    obtain ⟨d3,t3⟩:=r
    rw [h1,h2,h3] at e
    dsimp only at e
    cases h4:op d1 d2 d3 with
    | none=>rw [h4] at e;cases e
    | some d4=>rw [h4] at e;cases e;exact ⟨d1,t1,d2,t2,d3,t3,rfl,rfl,rfl,h4,rfl⟩
theorem fp_dget2 {apos cpos:Pos} (hu:X.A.units + 1 < cLine) (ha:FP X a fa) (hb:FP X b fb) (hc:FP X c fc) (m:M2 X a "get" apos b c cpos:=by exact ⟨rfl,rfl,rfl,rfl⟩):FP X (.Call (.Attribute a "get" apos) [b,c] [] cpos) (e3 oGetD fa fb fc):=by
 obtain ⟨ta,pa,sa⟩:=ha
 obtain ⟨tb,pb,sb⟩:=hb
 obtain ⟨tc,pc,sc⟩:=hc
 refine ⟨_,pe_dget2 hu pa pb pc m,fun H0 S z held ρ σ H Q d tg ok e k=>?_⟩
 obtain ⟨d1,t1,d2,t2,d3,t3,h1,h2,h3,h4,rfl⟩:=e3_of e
 refine sa H0 S z held ρ σ H _ d1 t1 ok h1 fun H1 x f1 s1 r1 _=>?_
 cases d1 with
 | dic es=>
  cases r1 with
  | @dic p kvs _ fp h hk rs=>
   refine ⟨p,rfl,.inl ⟨kvs,.inl h⟩,?_⟩
   refine sb H0 S z held ρ σ H1 _ d2 t2 (ok.same s1) h2 fun H2 y f2 s2 r2 _=>?_
   refine sc H0 S z held ρ σ H2 _ d3 t3 ((ok.same s1).same s2) h3 fun H3 w f3 s3 r3 _=>?_
   unfold oGetD at h4
   cases hkd:keyD d2 with
   | none=>rw [hkd] at h4;cases h4
   | some key=>
    rw [hkd] at h4
    dsimp only at h4
    have ek:=r2.key hkd
    subst ek
    have h3':H3 p=some (.dK kvs):=s3 _ _ (s2 _ _ h)
    have g:=DGet.k (k:=key) h3'
    refine ⟨_,g,?_⟩
    have sAll:=(s1.trans s2).trans s3
    obtain ⟨i1,i2⟩:=rep_val (k:=key) hk ((rs.same s2).same s3)
    cases hv:valD es key with
    | some d'=>
     rw [hv] at h4
     dsimp only at h4
     by_cases hi:imm d'=true
     ·rw [if_pos hi] at h4
      cases h4
      obtain ⟨v,f,e1,r,_⟩:=i1 d hv
      have hn:=r.imm hi
      subst hn
      rw [e1]
      exact k H3 v [] sAll r .nil
     ·rw [if_neg hi] at h4;cases h4
    | none=>
     rw [hv] at h4
     dsimp only at h4
     by_cases hi:imm d3=true
     ·rw [if_pos hi] at h4
      cases h4
      rw [i2 hv]
      have hn:=r3.imm hi
      subst hn
      exact k H3 w [] sAll r3 .nil
     ·rw [if_neg hi] at h4;cases h4
 | _=>cases h4
theorem fp_dnew:FP X (.Dict [] [] pos) (eC (.dic [])):=by
 refine ⟨_,pe_dnewK,fun H0 S z held ρ σ H Q d tg ok e k p hp=>?_⟩
 cases e
 have s2:Same H (upd H p (.dK [])):=fun b o e=>by rw [upd_ne (ne_of_none e hp)];exact e
 exact k _ _ [p] s2 (.dic upd_same rfl .nil) ⟨List.nodup_cons.mpr ⟨(fun m=>by cases m),List.nodup_nil⟩,fun a m=>by cases List.mem_singleton.mp m;exact hp⟩
end
def dropT (i:Nat):Slot→Slot
 | some (d,.sh o)=>if o.contains i=true then none else some (d,.sh o)
 | s=>s
def mutS (ρ:Rho) (i:Nat) (d:D):Rho:=(ρ.map (dropT i)).set i (some (d,.own))
theorem Ok.mutate {K:PySem.W.Frag}{H0:Hp}{S:List Addr}{z:Addr→Option Nat}{held:List Held}{ρ:Rho}{σ:St}{H:Hp}{i:Nat}{d0 d1:D}{v:V}{fp:List Addr}{p:Addr}{o o':HO} (ok:Ok K H0 S z held ρ σ H) (h:ρ[i]? = some (some (d0,.own)))
  (hs:σ[i]? = some (some v)) (zz:InZ z i .own fp) (hp:p∈fp) (ho:H p=some o) (mo:MutO o=true) (r1:Rep K (upd H p o') d1 v fp):Ok K H0 S z held (mutS ρ i d1) σ (upd H p o'):=by
 have im:Imm H (upd H p o'):=Imm.upd ho mo
 have zp:z p=some i:=zz.2 p hp
 have hiρ:i < ρ.length:=(List.getElem?_eq_some_iff.mp h).1
 refine ⟨fun j d t e=>?_,fun q m=>?_,fun a j e=>?_,fun a u e n=>?_,?_⟩
 ·unfold mutS at e
  by_cases hj:j=i
  ·subst hj
   rw [List.getElem?_set_self (by rw [List.length_map];exact hiρ)] at e
   cases e
   exact ⟨v,fp,hs,r1,zz⟩
  ·rw [List.getElem?_set_ne (Ne.symm hj),List.getElem?_map] at e
   cases e0:ρ[j]? with
   | none=>rw [e0] at e;cases e
   | some s=>
    rw [e0] at e
    have e:dropT i s=some (d,t):=Option.some.inj e
    have e1:s=some (d,t)∧∀ o,t=.sh o→¬ i∈o:=by
     cases s with
     | none=>cases e
     | some w=>
      obtain ⟨d',t'⟩:=w
      cases t' with
      | sh o=>
       have e:(if o.contains i=true then none else some (d',Tag.sh o))=some (d,t):=e
       by_cases hc:o.contains i=true
       ·rw [if_pos hc] at e;cases e
       ·rw [if_neg hc] at e
        cases e
        exact ⟨rfl,fun o' eo m=>by cases eo;exact hc (List.contains_iff_mem.mpr m)⟩
      | own=>cases e;exact ⟨rfl,fun o eo=>by cases eo⟩
      | lk=>cases e;exact ⟨rfl,fun o eo=>by cases eo⟩
    obtain ⟨rfl,nd⟩:=e1
    obtain ⟨v',fp',hs',r',z'⟩:=ok.sl j d t e0
    have np:∀ a∈fp',a≠p:=fun a m e=>by
     subst e
     cases t with
     | sh o=>exact nd o rfl (z' a m i zp)
     | own=>have:=z'.2 a m;rw [zp] at this;exact hj (Option.some.inj this).symm
     | lk=>have:=z'.2 a m;rw [zp] at this;exact hj (Option.some.inj this).symm
    exact ⟨v',fp',hs',r'.frame (fun a m=>upd_ne (np a m)) im,z'⟩
 ·obtain ⟨r,hz⟩:=ok.hl q m
  have np:∀ a∈q.fp,a≠p:=fun a m e=>by
   subst e
   exact (hz a m i zp).2 d0 h
  refine ⟨r.frame (fun a m=>upd_ne (np a m)) im,fun a ha j e=>?_⟩
  obtain ⟨h1,h2⟩:=hz a ha j e
  have hj:j≠i:=fun e=>h2 d0 (by rw [e];exact h)
  refine ⟨h1,fun d e=>?_⟩
  unfold mutS at e
  rw [List.getElem?_set_ne (Ne.symm hj),List.getElem?_map] at e
  cases e0:ρ[j]? with
  | none=>rw [e0] at e;cases e
  | some s=>
   rw [e0] at e
   have e:dropT i s=some (d,.own):=Option.some.inj e
   cases s with
   | none=>cases e
   | some w=>
    obtain ⟨d',t'⟩:=w
    cases t' with
    | sh o=>
     have e:(if o.contains i=true then none else some (d',Tag.sh o))=some (d,.own):=e
     split at e <;> cases e
    | own=>exact h2 d' e0
    | lk=>cases e
 ·obtain ⟨⟨u,w⟩,y⟩:=ok.zd a j e
  refine ⟨?_,y⟩
  by_cases ea:a=p
  ·subst ea;exact ⟨_,upd_same⟩
  ·exact ⟨u,by rw [upd_ne ea];exact w⟩
 ·have w:=ok.en a u e n
  rw [upd_ne]
  ·exact w
  ·intro ea
   subst ea
   rcases (ok.zd a i zp).2 with q | q
   ·rw [q] at e;cases e
   ·exact n q
 ·unfold mutS
  rw [List.length_set,List.length_map]
  exact ok.ln
section
variable {X:Cx}{pos:Pos}
def sDput (i:Nat) (fk fv:EF):SF:=fun ρ=>match fv ρ,ρ[i]?,fk ρ with
 | some (d,_),some (some (.dic es,.own)),some (kd,_)=>match keyD kd with
  | some k=>if (imm d&&immAll (es.map (·.2))&&decide (es.length < sizeLine))=true then some (.nx (mutS ρ i (.dic (putD es k d)))) else none
  | none=>none
 | _,_,_=>none
theorem fs_dput (i:Nat) {x:Str}{k v:Expr}{fk fv:EF}{p1 pos':Pos} (hu:X.A.units + 1 < cLine) (hk:FP X k fk) (hv:FP X v fv) (hN:X.N[i]? = some x:=by rfl) (hvis:Vis X.env.scope x:=by first | exact Or.inl rfl | exact Or.inr (Or.inl rfl) | exact Or.inr (Or.inr rfl))
  (hd:(x == ("__debug__":Str))=false:=by decide) (hcd:(x == ("__classdict__":Str))=false:=by decide) (hs:swapsWith v (some (.Subscript (.Name x p1) k pos')) pos.line X.env=pure false:=by rfl) :
  FS1 X (.Assign [.Subscript (.Name x p1) k pos'] v pos) (sDput i fk fv):=by
 obtain ⟨tk,pk,sk⟩:=hk
 obtain ⟨tv,pv',sv⟩:=hv
 refine ⟨_,ps_dput hu (pe_var (i:=i) hN hvis hd hcd) pk pv' hs,fun H0 S z held ρ σ H E o ok e q=>?_⟩
 unfold sDput at e
 cases h1:fv ρ with
 | none=>rw [h1] at e;cases e
 | some w=>
  obtain ⟨d,td⟩:=w
  cases h2:ρ[i]? with
  | none=>rw [h1,h2] at e;cases e
  | some s=>
   cases h3:fk ρ with
   | none=>rw [h1,h2,h3] at e;cases s with
    | none=>cases e
    | some w=>obtain ⟨d',t'⟩:=w;cases d' <;> cases t' <;> cases e
   | some w=>
    obtain ⟨kd,tkd⟩:=w
    rw [h1,h2,h3] at e
    cases s with
    | none=>cases e
    | some w=>
     obtain ⟨d',t'⟩:=w
     cases d' with
     | dic es=>
      cases t' with
      | own=>
       dsimp only at e
       cases h4:keyD kd with
       | none=>rw [h4] at e;cases e
       | some key=>
        rw [h4] at e
        dsimp only at e
        by_cases hc:(imm d&&immAll (es.map (·.2))&&decide (es.length < sizeLine))=true
        ·rw [if_pos hc] at e
         cases e
         obtain ⟨hc1,hc3⟩:=(Bool.and_eq_true _ _).mp hc
         obtain ⟨hc1,hc2⟩:=(Bool.and_eq_true _ _).mp hc1
         have hz:=of_decide_eq_true hc3
         refine sv H0 S z held ρ σ H _ d td ok h1 fun H1 v fv' s1 rv _=>?_
         obtain ⟨xv,fp,hs',r,zz⟩:=(ok.same s1).sl i _ _ h2
         refine ⟨xv,hs',?_⟩
         refine sk H0 S z held ρ σ H1 _ kd tkd (ok.same s1) h3 fun H2 y fk' s2 rk _=>?_
         have ek:=rk.key h4
         subst ek
         have r':=r.same s2
         cases r' with
         | @dic a kvs _ f h hke rs=>
          have hn:=rs.imm hc2
          subst hn
          have hnv:=rv.imm hc1
          subst hnv
          have hl:kvs.length=es.length:=by have:=congrArg List.length hke;simpa using this.symm
          refine ⟨a,_,rfl,DPut.k (k:=key) h (by rw [hl];exact hz),?_⟩
          have im:Imm H2 (upd H2 a (.dK (putK kvs key v))):=Imm.upd h rfl
          refine q z σ _ (Ok.mutate ((ok.same s1).same s2) h2 hs' zz List.mem_cons_self h rfl (.dic upd_same (putD_keys hke) ?_)) (.refl _ _)
          exact putD_reps hke (rs.frame (fun a m=>nomatch m) im) ((rv.same s2).frame (fun a m=>nomatch m) im)
        ·rw [if_neg hc] at e;cases e
      | _=>cases e
     | _=>cases t' <;> cases e
end
def ins1 (x:Int):List Int→List Int
 | []=>[x]
 | y::r=>if x≤y then x::y::r else y::ins1 x r
def srt:List Int→List Int
 | []=>[]
 | x::r=>ins1 x (srt r)
theorem ins1_perm (x:Int):∀ l:List Int,(ins1 x l).Perm (x::l)
 | []=>.refl _
 | y::r=>by
  unfold ins1
  split
  ·exact .refl _
  ·exact ((ins1_perm x r).cons y).trans (.swap x y r)
theorem srt_perm:∀ l:List Int,(srt l).Perm l
 | []=>.refl _
 | x::r=>(ins1_perm x (srt r)).trans ((srt_perm r).cons x)
theorem ins1_sorted (x:Int):∀ {l:List Int},l.Pairwise (·≤·)→(ins1 x l).Pairwise (·≤·)
 | [],_=>List.pairwise_singleton _ _
 | y::r,h=>by
  obtain ⟨h1,h2⟩:=List.pairwise_cons.mp h
  unfold ins1
  split
  ·rename_i hx
   exact List.pairwise_cons.mpr ⟨fun z m=>(List.mem_cons.mp m).elim (fun e=>e ▸ hx) fun m=>Int.le_trans hx (h1 z m),h⟩
  ·rename_i hx
   refine List.pairwise_cons.mpr ⟨fun z m=>?_,ins1_sorted x h2⟩
   rcases List.mem_cons.mp ((ins1_perm x r).mem_iff.mp m) with e | m
   ·rw [e];omega
   ·exact h1 z m
theorem srt_sorted:∀ l:List Int,(srt l).Pairwise (·≤·)
 | []=>.nil
 | x::r=>ins1_sorted x (srt_sorted r)
theorem srt_unique {a b:List Int} (p:a.Perm b) (s:a.Pairwise (·≤·)):a=srt b:=by
 have q:a.Perm (srt b):=p.trans (srt_perm b).symm
 exact q.eq_of_pairwise (fun x y _ _ h1 h2=>Int.le_antisymm h1 h2) s (srt_sorted b)
def intsD:List D→Option (List Int)
 | []=>some []
 | .int i::r=>(intsD r).map (i::·)
 | _=>none
def keysI {α:Type}:List (Key×α)→Option (List Int)
 | []=>some []
 | (.inl i,_)::r=>(keysI r).map (i::·)
 | _=>none
theorem intsD_of {K:PySem.W.Frag}{H:Hp}:∀ {ds:List D}{xs:List V}{fp:List Addr}{ns:List Int},Reps K H ds xs fp→intsD ds=some ns→xs=ns.map V.int
 | _,_,_,ns,.nil,e=>by cases e;rfl
 | _,_,_,ns,.cons (d:=d) h t,e=>by
  cases d with
  | int i=>
   unfold intsD at e
   cases q:intsD _ with
   | none=>rw [q] at e;cases e
   | some r=>
    rw [q] at e
    cases e
    cases h
    rw [intsD_of t q];rfl
  | _=>cases e
theorem intsD_map (ns:List Int):intsD (ns.map D.int)=some ns:=by
 induction ns with
 | nil=>rfl
 | cons n r ih=>rw [List.map_cons];unfold intsD;rw [ih];rfl
theorem keysI_of {α:Type}:∀ {es:List (Key×α)}{ks:List Int},keysI es=some ks→es.map (·.1)=ks.map Sum.inl
 | [],ks,e=>by cases e;rfl
 | (.inl i,_)::r,ks,e=>by
  unfold keysI at e
  cases q:keysI r with
  | none=>rw [q] at e;cases e
  | some l=>
   rw [q] at e
   cases e
   rw [List.map_cons,keysI_of q];rfl
 | (.inr _,_)::_,_,e=>by cases e
def oSorted:D→Option D
 | .lst ds=>match intsD ds with
  | some ns=>if ns.length < 64 then some (.lst ((srt ns).map D.int)) else none
  | none=>none
 | .dic es=>match keysI es with
  | some ns=>if ns.length < 64 then some (.lst ((srt ns).map D.int)) else none
  | none=>none
 | _=>none
theorem reps_ints {K:PySem.W.Frag}{H:Hp}:∀ ns:List Int,Reps K H (ns.map D.int) (ns.map V.int) []
 | []=>.nil
 | n::r=>Reps.cons (f1:=[]) (f2:=[]) (.int n) (reps_ints r)
theorem does_sorted {K:PySem.W.Frag}:Does1 K (rSorted K) oSorted:=by
 intro H x d1 f1 d Q r e k
 have fin:∀ (ns:List Int),(if ns.length < 64 then some (D.lst ((srt ns).map D.int)) else none)=some d→ns.length < 64∧∀ l (ks':List Int),H l=none→ks'.Perm ns→ks'.Pairwise (·≤·)→Q (.ref l) (upd H l (.lst (ks'.map V.int))):=fun ns e=>by
  by_cases h:ns.length < 64
  ·rw [if_pos h] at e
   cases e
   refine ⟨h,fun l ks' hl p s=>?_⟩
   have eq:=srt_unique p s
   subst eq
   have s2:Same H (upd H l (.lst ((srt ns).map V.int))):=fun b o e=>by rw [upd_ne (ne_of_none e hl)];exact e
   exact k _ _ [l] s2 (.lst upd_same (reps_ints _)) (List.nodup_cons.mpr ⟨(fun m=>by cases m),List.nodup_nil⟩) fun a m=>by cases List.mem_singleton.mp m;exact hl
  ·rw [if_neg h] at e;cases e
 cases d1 with
 | lst ds=>
  obtain ⟨a,xs,f,rfl,hq,rs,_⟩:=r.lst_of
  have e:(match intsD ds with | some ns=>if ns.length < 64 then some (D.lst ((srt ns).map D.int)) else none | none=>none)=some d:=e
  cases h:intsD ds with
  | none=>rw [h] at e;cases e
  | some ns=>
   rw [h] at e
   obtain ⟨h1,h2⟩:=fin ns e
   have ex:=intsD_of rs h
   subst ex
   exact ⟨a,ns,rfl,h1,.inr hq,h2⟩
 | dic es=>
  cases r with
  | @dic a kvs _ fp h hk rs=>
   have e:(match keysI es with | some ns=>if ns.length < 64 then some (D.lst ((srt ns).map D.int)) else none | none=>none)=some d:=e
   cases h':keysI es with
   | none=>rw [h'] at e;cases e
   | some ns=>
    rw [h'] at e
    obtain ⟨h1,h2⟩:=fin ns e
    exact ⟨a,ns,rfl,h1,.inl ⟨kvs,h,by rw [← hk];exact keysI_of h'⟩,h2⟩
 | _=>cases e
def pairsD:List D→Option (List (Key×D))
 | []=>some []
 | .tup [kd,d]::r=>match keyD kd,pairsD r with
  | some k,some ps=>if imm d=true then some ((k,d)::ps) else none
  | _,_=>none
 | _=>none
def oDict:D→Option D
 | .lst ds=>(pairsD ds).map fun ps=>.dic (ps.foldl (fun m p=>putD m p.1 p.2) [])
 | .tup ds=>(pairsD ds).map fun ps=>.dic (ps.foldl (fun m p=>putD m p.1 p.2) [])
 | .dic es=>if immAll (es.map (·.2))=true then some (.dic es) else none
 | _=>none
theorem boot_sorted':bootBuiltins "sorted"=some (.builtin "sorted"):=by decide +kernel
section
variable {X:Cx}{a b:Expr}{fa fb:EF}{pos:Pos}
theorem fp_sorted {p:Pos} (hc:X.calm=true) (hm:X.mg "sorted"=none) (ha:FP X a fa) (hg:Gl X "sorted":=by rfl) (hs:starEach [a] X.env=[(false,eval a X.env)]:=by rfl):FP X (.Call (.Name "sorted" p) [a] [] pos) (e1 oSorted fa):=
 fp_1 does_sorted ha fun ta pa=>pe_callB (call_sorted hc) hg hm boot_sorted' (pa_cons pa pa_nil hs) (he:=hs) (hpl:=rfl)
def minI:List Int→Int
 | []=>0
 | [x]=>x
 | x::r=>if x≤minI r then x else minI r
theorem minI_spec:∀ {l:List Int},l≠[]→minI l∈l∧∀ x∈l,minI l≤x
 | [x],_=>⟨List.mem_cons_self,fun y m=>by rw [List.mem_singleton.mp m];exact Int.le_refl _⟩
 | x::y::r,_=>by
  obtain ⟨h1,h2⟩:=minI_spec (l:=y::r) (by simp)
  show (if x≤minI (y::r) then x else minI (y::r))∈_∧∀ z∈_,(if x≤minI (y::r) then x else minI (y::r))≤z
  by_cases h:x≤minI (y::r)
  ·rw [if_pos h]
   exact ⟨List.mem_cons_self,fun z m=>(List.mem_cons.mp m).elim (fun e=>by rw [e];exact Int.le_refl _) fun m=>Int.le_trans h (h2 z m)⟩
  ·rw [if_neg h]
   exact ⟨List.mem_cons_of_mem _ h1,fun z m=>(List.mem_cons.mp m).elim (fun e=>by rw [e];omega) fun m=>h2 z m⟩
def oMinD:D→D→Option D
 | .lst ds,z=>match intsD ds with
  | some []=>if imm z=true then some z else none
  | some (n::r)=>some (.int (minI (n::r)))
  | none=>none
 | _,_=>none
theorem fp_minD {p kp:Pos} (hc:X.calm=true) (hm:X.mg "min"=none) (ha:FP X a fa) (hb:FP X b fb) (hg:Gl X "min":=by rfl) (hs:starEach [a] X.env=[(false,eval a X.env)]:=by rfl)
  (h1:backTo pos (starEach [a] X.env)=(false,eval a X.env)::backTo pos (starEach [] X.env):=by rfl) (h2:(backTo pos (starEach [a] X.env)).any (·.1)=false:=by rfl)
  (h3:(backToKw pos (keywordEach [⟨some "default",b,kp⟩] X.env)).all (·.1.isSome)=true:=by rfl) (h4:(backToKw pos (keywordEach [⟨some "default",b,kp⟩] X.env)).any (·.1.isNone)=false:=by rfl)
  (h5:(backToKw pos (keywordEach [⟨some "default",b,kp⟩] X.env)).filterMap (·.1)=[("default":Str)]:=by rfl) :
  FP X (.Call (.Name "min" p) [a] [⟨some "default",b,kp⟩] pos) (e2 oMinD fa fb):=by
 obtain ⟨ta,pa,sa⟩:=ha
 obtain ⟨tb,pb,sb⟩:=hb
 refine ⟨_,pe_minD hc hm pa pb hg hs h1 h2 h3 h4 h5,fun H0 S z held ρ σ H Q d tg ok e k=>?_⟩
 obtain ⟨d1,t1,d2,t2,g1,g2,g3,rfl⟩:=e2_of e
 refine sa H0 S z held ρ σ H _ d1 t1 ok g1 fun H1 x f1 s1 r1 _=>?_
 refine sb H0 S z held ρ σ H1 _ d2 t2 (ok.same s1) g2 fun H2 y f2 s2 r2 _=>?_
 cases d1 with
 | lst ds=>
  obtain ⟨l,xs,f,rfl,hq,rs,_⟩:=(r1.same s2).lst_of
  have g3:(match intsD ds with | some []=>if imm d2=true then some d2 else none | some (n::r)=>some (.int (minI (n::r))) | none=>none)=some d:=g3
  cases h:intsD ds with
  | none=>rw [h] at g3;cases g3
  | some ns=>
   rw [h] at g3
   have ex:=intsD_of rs h
   subst ex
   refine ⟨l,ns,rfl,hq,?_⟩
   cases ns with
   | nil=>
    have g3:(if imm d2=true then some d2 else none)=some d:=g3
    by_cases hi:imm d2=true
    ·rw [if_pos hi] at g3
     cases g3
     have hn:=r2.imm hi
     subst hn
     exact .inl ⟨rfl,k H2 y [] (s1.trans s2) r2 .nil⟩
    ·rw [if_neg hi] at g3;cases g3
   | cons n r=>
    cases g3
    refine .inr ⟨by simp,fun m hm1 hm2=>?_⟩
    obtain ⟨q1,q2⟩:=minI_spec (l:=n::r) (by simp)
    have em:m=minI (n::r):=Int.le_antisymm (hm2 _ q1) (q2 m hm1)
    rw [em]
    exact k H2 _ [] (s1.trans s2) (.int _) .nil
 | _=>cases g3
end
theorem pairs_rep {K:PySem.W.Frag}{H:Hp}:∀ {ds:List D}{xs:List V}{fp:List Addr}{ps:List (Key×D)},Reps K H ds xs fp→pairsD ds=some ps →
  ∃ qs:List (Key×V),Paired (fun y (q:Key×V)=>∃ a,y=.ref a∧SqT K H a [L2.kV q.1,q.2]) xs qs∧ps.map (·.1)=qs.map (·.1)∧Reps K H (ps.map (·.2)) (qs.map (·.2)) []
 | _,_,_,ps,.nil,e=>by cases e;exact ⟨[],.nil,rfl,.nil⟩
 | _,_,_,ps,.cons (d:=d) (ds:=dr) h t,e=>by
  unfold pairsD at e
  split at e
  ·rename_i heq;cases heq
  ·rename_i kd d' r heq
   cases heq
   cases h1:keyD kd with
   | none=>rw [h1] at e;cases e
   | some k=>
    cases h2:pairsD dr with
    | none=>rw [h1,h2] at e;cases e
    | some pr=>
     rw [h1,h2] at e
     dsimp only at e
     by_cases hi:imm d'=true
     ·rw [if_pos hi] at e
      cases e
      obtain ⟨qs,a1,a2,a3⟩:=pairs_rep t h2
      obtain ⟨a,ys,rfl,hq,rs⟩:=h.tup_of
      cases rs with
      | cons rk rs=>
       cases rs with
       | cons rv rs=>
        cases rs with
        | nil=>
         have ek:=rk.key h1
         subst ek
         have hn:=rv.imm hi
         subst hn
         exact ⟨(k,_)::qs,.cons ⟨a,rfl,hq⟩ a1,by rw [List.map_cons,List.map_cons,a2],Reps.cons (f1:=[]) (f2:=[]) rv a3⟩
     ·rw [if_neg hi] at e;cases e
  ·cases e
theorem fold_rep {K:PySem.W.Frag}{H:Hp}:∀ {ps:List (Key×D)}{qs:List (Key×V)}{es:List (Key×D)}{kvs:List (Key×V)},ps.map (·.1)=qs.map (·.1)→Reps K H (ps.map (·.2)) (qs.map (·.2)) []→es.map (·.1)=kvs.map (·.1)→Reps K H (es.map (·.2)) (kvs.map (·.2)) [] →
  (ps.foldl (fun m p=>putD m p.1 p.2) es).map (·.1)=(qs.foldl (fun m q=>putK m q.1 q.2) kvs).map (·.1)∧Reps K H ((ps.foldl (fun m p=>putD m p.1 p.2) es).map (·.2)) ((qs.foldl (fun m q=>putK m q.1 q.2) kvs).map (·.2)) []
 | [],[],_,_,_,_,h1,h2=>⟨h1,h2⟩
 | [],_::_,_,_,e,_,_,_=>by simp at e
 | _::_,[],_,_,e,_,_,_=>by simp at e
 | (k,d)::ps,(k',v)::qs,es,kvs,e,r,h1,h2=>by
  simp only [List.map_cons,List.cons.injEq] at e
  obtain ⟨rfl,e⟩:=e
  simp only [List.map_cons] at r
  generalize hf:([]:List Addr)=fp at r
  cases r with
  | @cons _ _ _ _ f1 f2 r1 r2=>
   obtain ⟨z1,z2⟩:=List.append_eq_nil_iff.mp hf.symm
   subst z1 z2
   rw [List.foldl_cons,List.foldl_cons]
   exact fold_rep e r2 (putD_keys h1) (putD_reps h1 h2 r1)
theorem does_dict {K:PySem.W.Frag}:Does1 K (fun xs H Q=>rDictOf K xs H Q∨∃ a kvs,xs=[V.ref a]∧H a=some (.dK kvs)∧∀ l,H l=none→Q (.ref l) (upd H l (.dK kvs))) oDict:=by
 intro H x d1 f1 d Q r e k
 have fresh:∀ {o:HO}{l:Addr},H l=none→Same H (upd H l o):=fun hl b o e=>by rw [upd_ne (ne_of_none e hl)];exact e
 have nd1:∀ l:Addr,([l]:List Addr).Nodup:=fun l=>List.nodup_cons.mpr ⟨(fun m=>by cases m),List.nodup_nil⟩
 have seq:∀ {ds:List D}{xs:List V}{f:List Addr}{p:Addr},Reps K H ds xs f→(SqL K H p xs∨SqT K H p xs)→((pairsD ds).map fun ps=>D.dic (ps.foldl (fun m p=>putD m p.1 p.2) []))=some d→rDictOf K [.ref p] H Q:=fun {ds xs f p} rs hq e=>by
  cases h:pairsD ds with
  | none=>rw [h] at e;cases e
  | some ps=>
   rw [h] at e
   cases e
   obtain ⟨qs,a1,a2,a3⟩:=pairs_rep rs h
   refine ⟨p,xs,qs,rfl,hq,a1,fun l hl=>?_⟩
   obtain ⟨b1,b2⟩:=fold_rep (es:=[]) (kvs:=[]) a2 a3 rfl .nil
   exact k _ _ [l] (fresh hl) (.dic upd_same b1 (b2.same (fresh hl))) (nd1 l) fun a m=>by cases List.mem_singleton.mp m;exact hl
 cases d1 with
 | lst ds=>
  obtain ⟨a,xs,f,rfl,hq,rs,_⟩:=r.lst_of
  exact .inl (seq rs (.inl hq) e)
 | tup ds=>
  obtain ⟨a,xs,rfl,hq,rs⟩:=r.tup_of
  exact .inl (seq rs (.inr hq) e)
 | dic es=>
  cases r with
  | @dic a kvs _ fp h hk rs=>
   have e:(if immAll (es.map (·.2))=true then some (D.dic es) else none)=some d:=e
   by_cases hi:immAll (es.map (·.2))=true
   ·rw [if_pos hi] at e
    cases e
    have hn:=rs.imm hi
    subst hn
    exact .inr ⟨a,kvs,rfl,h,fun l hl=>k _ _ [l] (fresh hl) (.dic upd_same hk (rs.same (fresh hl))) (nd1 l) fun a m=>by cases List.mem_singleton.mp m;exact hl⟩
   ·rw [if_neg hi] at e;cases e
 | _=>cases e
section
variable {X:Cx}{a b:Expr}{fa fb:EF}{pos:Pos}
theorem call_dict_copy:CallR X (.type "dict") (fun xs H Q=>∃ a kvs,xs=[V.ref a]∧H a=some (.dK kvs)∧∀ l,H l=none→Q (.ref l) (upd H l (.dK kvs))):=by
 intro pins s σ H xs us Q I r h
 obtain ⟨a,kvs,rfl,ha,q⟩:=h
 obtain ⟨u,rfl,ru⟩:=vals1 r
 cases ru
 exact d_copyOf I (.inl ha) fun p s' hp I'=>⟨.ref p,_,I',rfl,q p hp⟩
theorem fp_dict {p:Pos} (hc:X.calm=true) (hm:X.mg "dict"=none) (ha:FP X a fa) (hg:Gl X "dict":=by rfl) (hs:starEach [a] X.env=[(false,eval a X.env)]:=by rfl):FP X (.Call (.Name "dict" p) [a] [] pos) (e1 oDict fa):=
 fp_1 does_dict ha fun ta pa=>pe_callTy (CallR.or' (call_dictOf hc) call_dict_copy) hg hm (show bootBuiltins "dict"=some (.type "dict") by decide +kernel) (pa_cons pa pa_nil hs) (he:=hs) (hpl:=rfl)
def oTuple:D→Option D
 | .lst ds=>if immAll ds=true then some (.tup ds) else none
 | .tup ds=>if immAll ds=true then some (.tup ds) else none
 | _=>none
theorem does_tuple:Does1 X.K (fun xs H Q=>∃ p ys,xs=[V.ref p]∧((SqL X.K H p ys∧∀ l,H l=none→Q (.ref l) (upd H l (.tup ys)))∨(SqT X.K H p ys∧Q (.ref p) H))) oTuple:=by
 intro H x d1 f1 d Q r e k
 cases d1 with
 | lst ds=>
  obtain ⟨a,xs,f,rfl,hq,rs,_⟩:=r.lst_of
  have e:(if immAll ds=true then some (D.tup ds) else none)=some d:=e
  by_cases hi:immAll ds=true
  ·rw [if_pos hi] at e
   cases e
   have hn:=rs.imm hi
   subst hn
   refine ⟨a,xs,rfl,.inl ⟨hq,fun l hl=>?_⟩⟩
   have s2:Same H (upd H l (.tup xs)):=fun b o e=>by rw [upd_ne (ne_of_none e hl)];exact e
   exact k _ _ [] s2 (.tup (SqT.of upd_same) (rs.same s2)) List.nodup_nil fun a m=>nomatch m
  ·rw [if_neg hi] at e;cases e
 | tup ds=>
  obtain ⟨a,xs,rfl,hq,rs⟩:=r.tup_of
  have e:(if immAll ds=true then some (D.tup ds) else none)=some d:=e
  by_cases hi:immAll ds=true
  ·rw [if_pos hi] at e
   cases e
   have hn:=rs.imm hi
   subst hn
   exact ⟨a,xs,rfl,.inr ⟨hq,k H _ [] (Same.refl H) (.tup hq rs) List.nodup_nil fun a m=>nomatch m⟩⟩
  ·rw [if_neg hi] at e;cases e
 | _=>cases e
theorem fp_tuple {p:Pos} (hm:X.mg "tuple"=none) (ha:FP X a fa) (hg:Gl X "tuple":=by rfl) (hs:starEach [a] X.env=[(false,eval a X.env)]:=by rfl):FP X (.Call (.Name "tuple" p) [a] [] pos) (e1 oTuple fa):=
 fp_1 does_tuple ha fun ta pa=>pe_callTy call_tuple_of hg hm (show bootBuiltins "tuple"=some (.type "tuple") by decide +kernel) (pa_cons pa pa_nil hs) (he:=hs) (hpl:=rfl)
end
mutual
def eqD:D→D→Option Bool
 | .int i,.int j=>some (i == j)
 | .bl i,.bl j=>some (i == j)
 | .str i,.str j=>some (i == j)
 | .non,.non=>some true
 | .tup a,.tup b=>eqDs a b
 | .lst a,.lst b=>eqDs a b
 | _,_=>none
def eqDs:List D→List D→Option Bool
 | [],[]=>some true
 | x::xs,y::ys=>match eqD x y,eqDs xs ys with
  | some p,some q=>some (p&&q)
  | _,_=>none
 | _,_=>some false
end
section
variable {X:Cx}{pins:List (Addr×Obj)}{σ:St}{H:Hp}{s:Shared}
def scopeOk (N:List Str) (osc sc:Scope) (M:List Str) (js:List (Option Nat)):Bool:=
 (sc.kind == .function)&&sc.names.all (fun y=>y.2 != .cell)&&sc.names.all (fun y=>if y.2 == .local then sc.names.lookup y.1 == some .local else true)&&capOk N sc M js&&(frees sc).all (fun x=>osc.names.lookup x == some .cell||osc.names.lookup x == some .free)&&decide M.Nodup
theorem compScope_mk {X:Cx}{N:List Str}{osc sc:Scope}{M:List Str}{js:List (Option Nat)} (h1:X.N=N) (h2:X.env.scope=osc) (h3:X.env.kindOf=fun x=>osc.names.lookup x) (h:scopeOk N osc sc M js=true):CompScope X M js sc:=by
 unfold scopeOk at h
 obtain ⟨h,a6⟩:=(Bool.and_eq_true _ _).mp h
 obtain ⟨h,a5⟩:=(Bool.and_eq_true _ _).mp h
 obtain ⟨h,a4⟩:=(Bool.and_eq_true _ _).mp h
 obtain ⟨h,a3⟩:=(Bool.and_eq_true _ _).mp h
 obtain ⟨a1,a2⟩:=(Bool.and_eq_true _ _).mp h
 refine ⟨?_,fun y hy=>?_,fun y hy hl=>?_,?_,fun x hx=>?_,of_decide_eq_true a6⟩
 ·cases hk:sc.kind <;> rw [hk] at a1 <;> first | rfl | exact absurd a1 (by decide)
 ·have:=List.all_eq_true.mp a2 y hy
  intro z
  rw [z] at this
  exact absurd this (by decide)
 ·have:=List.all_eq_true.mp a3 y hy
  rw [hl] at this
  have this:(sc.names.lookup y.1 == some NameKind.local)=true:=this
  cases q:sc.names.lookup y.1 with
  | none=>rw [q] at this;exact absurd this (by decide)
  | some k=>rw [q] at this;cases k <;> first | rfl | exact absurd this (by decide)
 ·rw [h1];exact a4
 ·have:=List.all_eq_true.mp a5 x hx
  rw [h3]
  dsimp only
  cases q:osc.names.lookup x with
  | none=>rw [q] at this;exact absurd this (by decide)
  | some k=>rw [q] at this;cases k <;> first | exact .inl rfl | exact .inr rfl | exact absurd this (by decide)
end
section
variable {X:Cx}{pos:Pos}
def sLset (i:Nat) (fk fv:EF):SF:=fun ρ=>match fv ρ,ρ[i]?,fk ρ with
 | some (d,_),some (some (.lst ds,.own)),some (.int k,_)=>match ixN ds.length k with
  | some j=>if (imm d&&immAll ds)=true then some (.nx (mutS ρ i (.lst (ds.set j d)))) else none
  | none=>none
 | _,_,_=>none
theorem Reps.setN {K:PySem.W.Frag}{H:Hp}{d:D}{v:V} (rv:Rep K H d v []):∀ {ds:List D}{xs:List V}{j:Nat},Reps K H ds xs []→Reps K H (ds.set j d) (xs.set j v) []
 | [],_,_,r=>by cases r;exact .nil
 | x::ds,xs,j,r=>by
  generalize hf:([]:List Addr)=fp at r
  cases r with
  | @cons _ _ _ _ f1 f2 r1 r2=>
   obtain ⟨z1,z2⟩:=List.append_eq_nil_iff.mp hf.symm
   subst z1 z2
   cases j with
   | zero=>exact Reps.cons (f1:=[]) (f2:=[]) rv r2
   | succ j=>exact Reps.cons (f1:=[]) (f2:=[]) r1 (Reps.setN rv r2)
theorem fs_lset (i:Nat) {x:Str}{k v:Expr}{fk fv:EF}{p1 pos':Pos} (hk:FP X k fk) (hv:FP X v fv) (hN:X.N[i]? = some x:=by rfl) (hvis:Vis X.env.scope x:=by first | exact Or.inl rfl | exact Or.inr (Or.inl rfl) | exact Or.inr (Or.inr rfl))
  (hd:(x == ("__debug__":Str))=false:=by decide) (hcd:(x == ("__classdict__":Str))=false:=by decide)
  (ha:∀ w,assign (.Subscript (.Name x p1) k pos') X.env w=(do
   let ov ← holding [w] (eval (.Name x p1) X.env)
   let iv ← holding [w,ov] (eval k X.env)
   standAt pos'
   holding [w,ov,iv] (setItem ov iv w)
   release [w,ov,iv] []):=by intro _;rfl)
  (hs:swapsWithSole [.Subscript (.Name x p1) k pos'] v pos.line X.env=pure false:=by rfl) (hw:swappedStores [.Subscript (.Name x p1) k pos'] v X.env=pure none:=by rfl) (h1:(assignEach [.Subscript (.Name x p1) k pos'] X.env).map (·.2)=[assign (.Subscript (.Name x p1) k pos') X.env]:=by rfl) :
  FS1 X (.Assign [.Subscript (.Name x p1) k pos'] v pos) (sLset i fk fv):=by
 obtain ⟨tk,pk,sk⟩:=hk
 obtain ⟨tv,pv',sv⟩:=hv
 refine ⟨_,ps_asg pv' (pg_sub (pe_var (i:=i) hN hvis hd hcd) pk set_list ha) hs hw h1,fun H0 S z held ρ σ H E o ok e q=>?_⟩
 unfold sLset at e
 split at e
 ·rename_i d td ds kk tkk g1 g2 g3
  cases hj:ixN ds.length kk with
  | none=>rw [hj] at e;cases e
  | some j=>
   rw [hj] at e
   dsimp only at e
   by_cases hc:(imm d&&immAll ds)=true
   ·rw [if_pos hc] at e
    cases e
    obtain ⟨c1,c2⟩:=(Bool.and_eq_true _ _).mp hc
    refine sv H0 S z held ρ σ H _ d td ok g1 fun H1 v fv' s1 rv _=>?_
    obtain ⟨xv,fp,hs',r,zz⟩:=(ok.same s1).sl i _ _ g2
    refine ⟨xv,hs',?_⟩
    refine sk H0 S z held ρ σ H1 _ _ tkk (ok.same s1) g3 fun H2 y fk' s2 rk _=>?_
    cases rk
    have r':=r.same s2
    have ok2:=(ok.same s1).same s2
    cases r' with
    | @lst a xs _ f h rs=>
     have hn:=rs.imm c2
     subst hn
     have hnv:=rv.imm c1
     subst hnv
     refine ⟨a,xs,kk,j,rfl,rfl,h,by rw [← rs.length];exact hj,?_⟩
     have im:Imm H2 (upd H2 a (.lst (xs.set j v))):=Imm.upd h rfl
     refine q z σ _ (Ok.mutate ok2 g2 hs' zz List.mem_cons_self h rfl (.lst upd_same ?_)) (.refl _ _)
     exact Reps.setN ((rv.same s2).frame (fun a m=>nomatch m) im) (rs.frame (fun a m=>nomatch m) im)
   ·rw [if_neg hc] at e;cases e
 ·cases e
end
end L2.Ev
namespace L2.Ev
open PySem PySem.Spec PyProof.Rows
theorem TagOk.back {z:Addr→Option Nat}{H H1:Hp}{t:Tag}{fp:List Addr} (g:TagOk z H1 t fp) (s:Same H H1):TagOk z H t fp:=by
 cases t with
 | sh o=>exact g
 | own=>exact ⟨g.1,fun a m=>s.free (g.2 a m)⟩
 | lk=>exact ⟨g.1,fun a m=>s.free (g.2 a m)⟩
section
variable {X:Cx}{a b:Expr}{fa fb:EF}{pos:Pos}
def eAnd (fa fb:EF):EF:=fun ρ=>match fa ρ with
 | some (.bl true,_)=>fb ρ
 | some (.bl false,_)=>some (.bl false,.own)
 | _=>none
def oNot:D→Option D
 | .bl b=>some (.bl (!b))
 | _=>none
theorem fp_one {op} (h:FP X a fa):FP X (.BoolOp op [a] pos) fa:=let ⟨t,p,q⟩:=h;⟨t,pe_one p,q⟩
theorem fp_and {rest:List Expr} (ha:FP X a fa) (hb:FP X (.BoolOp .And (b::rest) pos) fb):FP X (.BoolOp .And (a::b::rest) pos) (eAnd fa fb):=by
 obtain ⟨t,p,q⟩:=ha
 obtain ⟨t',p',q'⟩:=hb
 refine ⟨_,pe_and p p',fun H0 S z held ρ σ H Q d tg ok e k=>?_⟩
 unfold eAnd at e
 split at e
 ·rename_i tt h
  refine q H0 S z held ρ σ H _ _ tt ok h fun H1 v fp s1 r1 _=>?_
  cases r1
  refine ⟨true,rfl,?_⟩
  rw [if_pos rfl]
  exact q' H0 S z held ρ σ H1 _ d tg (ok.same s1) e fun H2 v fp s2 r2 g2=>k H2 v fp (s1.trans s2) r2 (g2.back s1)
 ·rename_i tt h
  cases e
  refine q H0 S z held ρ σ H _ _ tt ok h fun H1 v fp s1 r1 _=>?_
  cases r1
  refine ⟨false,rfl,?_⟩
  rw [if_neg Bool.false_ne_true]
  exact k H1 _ [] s1 (.bl _) .nil
 ·cases e
theorem fp_not (ha:FP X a fa):FP X (.UnaryOp .Not a pos) (e1 oNot fa):=by
 obtain ⟨t,p,q⟩:=ha
 refine ⟨_,pe_not p,fun H0 S z held ρ σ H Q d tg ok e k=>?_⟩
 obtain ⟨d1,t1,h1,h2,rfl⟩:=e1_of e
 refine q H0 S z held ρ σ H _ d1 t1 ok h1 fun H1 v fp s1 r1 _=>?_
 cases r1 <;> cases h2
 exact ⟨_,rfl,k H1 _ [] s1 (.bl _) .nil⟩
def tyD:D→Option String
 | .int _=>some "int"
 | .bl _=>some "bool"
 | .str _=>some "str"
 | .non=>some "NoneType"
 | .lst _=>some "list"
 | .dic _=>some "dict"
 | _=>none
def oIsi (T:String) (d:D):Option D:=match tyD d with
 | some t=>some (.bl (t == T||(t == "bool"&&T == "int")))
 | none=>none
def isiOk (T:String):Prop:=∀ (K:PySem.W.Frag) (t:String),t∈["int","bool","str","NoneType","list","dict"]→PySem.W.kitOne K (.type t) (.type T)=some (t == T||(t == "bool"&&T == "int"))
theorem isi_int:isiOk "int":=by
 intro K t m
 simp only [List.mem_cons,List.not_mem_nil,or_false] at m
 rcases m with rfl | rfl | rfl | rfl | rfl | rfl <;> rfl
theorem isi_bool:isiOk "bool":=by
 intro K t m
 simp only [List.mem_cons,List.not_mem_nil,or_false] at m
 rcases m with rfl | rfl | rfl | rfl | rfl | rfl <;> rfl
theorem isi_list:isiOk "list":=by
 intro K t m
 simp only [List.mem_cons,List.not_mem_nil,or_false] at m
 rcases m with rfl | rfl | rfl | rfl | rfl | rfl <;> rfl
theorem call_isi (T:String):CallR X (.builtin "isinstance") (fun xs H Q=>∃ x t b,xs=[x,V.ty T]∧TyOf X.K H x t∧PySem.W.kitOne X.K t (.type T)=some b∧Q (.bl b) H):=by
 intro pins s σ H xs us Q I r h
 obtain ⟨x,t,bb,rfl,ty,e,q⟩:=h
 obtain ⟨u,w',rfl,ru,rw'⟩:=vals2 r
 cases rw'
 exact isinst_ok I ru ty e fun tk=>⟨.bl bb,H,I.tok tk,rfl,q⟩
theorem Rep.ty {K:PySem.W.Frag}{H:Hp}{d:D}{v:V}{fp:List Addr}{t:String} (r:Rep K H d v fp) (e:tyD d=some t):TyOf K H v (.type t)∧t∈["int","bool","str","NoneType","list","dict"]:=by
 cases r with
 | non=>cases e;exact ⟨.non,by decide⟩
 | bl b=>cases e;exact ⟨.bl b,by decide⟩
 | int i=>cases e;exact ⟨.int i,by decide⟩
 | str x=>cases e;exact ⟨.str x,by decide⟩
 | lst h _=>cases e;exact ⟨.lst h,by decide⟩
 | dic h _ _=>cases e;exact ⟨.dK h,by decide⟩
 | tup _ _=>cases e
 | lsf _ _=>cases e
 | dit _ _ _=>cases e
 | ins _ _ _ _=>cases e
 | exc _ _ _=>cases e
theorem fp_isi {T:String}{x:Str}{p p2:Pos} (hT:isiOk T) (hm:X.mg "isinstance"=none) (hmT:X.mg x=none) (ha:FP X a fa) (hbT:bootBuiltins x=some (.type T):=by decide +kernel) (hg:Gl X "isinstance":=by rfl) (hgT:Gl X x:=by rfl) (hn:x≠"__name__":=by decide) (hdb:(x == ("__debug__":Str))=false:=by decide)
  (hs:starEach [a,.Name x p2] X.env=[(false,eval a X.env),(false,eval (.Name x p2) X.env)]:=by rfl) (hpl:(backTo pos (starEach [.Name x p2] X.env)).any (·.1)=false:=by rfl):FP X (.Call (.Name "isinstance" p) [a,.Name x p2] [] pos) (e1 (oIsi T) fa):=by
 obtain ⟨ta,pa,sa⟩:=ha
 have hs2:starEach [.Name x p2] X.env=[(false,eval (.Name x p2) X.env)]:=rfl
 refine ⟨_,pe_callB (call_isi T) hg hm (show bootBuiltins "isinstance"=some (.builtin "isinstance") by decide +kernel) (pa_cons pa (pa_cons (pe_bltn (v:=.ty T) hgT hmT hbT rfl hn hdb) pa_nil) (by rw [hs,hs2])) (he:=by rw [hs,hs2]) (hpl:=hpl),fun H0 S z held ρ σ H Q d tg ok e k=>?_⟩
 obtain ⟨d1,t1,h1,h2,rfl⟩:=e1_of e
 refine sa H0 S z held ρ σ H _ d1 t1 ok h1 fun H1 v fp s1 r1 _=>?_
 unfold oIsi at h2
 cases ht:tyD d1 with
 | none=>rw [ht] at h2;cases h2
 | some t=>
  rw [ht] at h2
  cases h2
  obtain ⟨ty,mem⟩:=r1.ty ht
  exact ⟨v,_,_,rfl,ty,hT X.K t mem,k H1 _ [] s1 (.bl _) .nil⟩
end
end L2.Ev
namespace L2.Ev
open PySem
section
variable {ρ:Rho}{fa fb fc:EF}{d d1 d2 d3:D}{t t1 t2 t3:Tag}{op3:D→D→D→Option D}{tf tg:TF}
def k3 (op:D→D→D→Option D):Option (D×Tag)→Option (D×Tag)→Option (D×Tag)→Option (D×Tag)
 | some (d1,_),some (d2,_),some (d3,_)=>(op d1 d2 d3).map fun d=>(d,.own)
 | _,_,_=>none
def eAndK (fb:EF) (ρ:Rho):Option (D×Tag)→Option (D×Tag)
 | some (.bl true,_)=>fb ρ
 | some (.bl false,_)=>some (.bl false,.own)
 | _=>none
theorem s_eAnd:eAnd fa fb ρ=eAndK fb ρ (fa ρ):=by
 unfold eAnd eAndK
 cases fa ρ with
 | none=>rfl
 | some w=>obtain ⟨d,t⟩:=w;cases d <;> first | rfl | (rename_i b;cases b <;> rfl)
theorem s_eAndT:eAndK fb ρ (some (.bl true,t))=fb ρ:=rfl
end
section
variable {g:GF}{t:Tag}{f:SF}
theorem loop_nx (P:Nat→Rho→Prop):∀ {ds:List D}{ρ:Rho}{n:Nat},P n ρ→(∀ j ρ d,ds[j]? = some d→P (n + j) ρ→∃ ρ1 ρ2,g d t ρ=some ρ1∧(f ρ1=some (.nx ρ2)∨f ρ1=some (.ct ρ2))∧P (n + j + 1) ρ2) →
  ∃ ρ',loopF g t f ds ρ=some (.nx ρ')∧P (n + ds.length) ρ'
 | [],ρ,n,h,_=>⟨ρ,rfl,h⟩
 | d::ds,ρ,n,h,hs=>by
  obtain ⟨ρ1,ρ2,h1,h2,h3⟩:=hs 0 ρ d rfl h
  obtain ⟨ρ',h4,h5⟩:=loop_nx P (ds:=ds) (ρ:=ρ2) (n:=n + 1) h3 fun j ρ d hd hp=>by
   have:=hs (j + 1) ρ d hd (by rw [show n + (j + 1)=n + 1 + j by omega];exact hp)
   rw [show n + (j + 1) + 1=n + 1 + j + 1 by omega] at this
   exact this
  refine ⟨ρ',?_,by rw [List.length_cons,show n + (ds.length + 1)=n + 1 + ds.length by omega];exact h5⟩
  unfold loopF
  rw [h1]
  rcases h2 with h2 | h2 <;> (dsimp only;rw [h2];exact h4)
theorem for_nx {it:IF}{ds:List D}{ρ ρ':Rho} (hi:it ρ=some (ds,t)) (h:loopF g (itag t) f ds (lockS (ownsIn (ovr t) ρ) ρ)=some (.nx ρ')):sFor it g f ρ=some (.nx (unlockS (ownsIn (ovr t) ρ) ρ')):=by unfold sFor;rw [hi];dsimp only;rw [h]
theorem for_nx0 {it:IF}{ds:List D}{ρ ρ':Rho} (hi:it ρ=some (ds,.own)) (h:loopF g (.sh []) f ds ρ=some (.nx ρ')):sFor it g f ρ=some (.nx ρ'):=for_nx hi h
theorem ir1 {e:EF}{ρ:Rho}{n:Int}{t:Tag} (h:e ρ=some (.int n,t)) (hs:small n=true):iR1 e ρ=some ((List.range n.toNat).map fun i:Nat=>D.int (0 + (i:Int)),.own):=by unfold iR1;rw [h];dsimp only;rw [if_pos hs]
theorem range_at {n j:Nat}{d:D} (h:((List.range n).map fun i:Nat=>D.int (0 + (i:Int)))[j]? = some d):d=.int j∧j < n:=by
 rw [List.getElem?_map] at h
 cases e:(List.range n)[j]? with
 | none=>rw [e] at h;cases h
 | some x=>
  rw [e] at h
  obtain ⟨hl,hx⟩:=List.getElem?_eq_some_iff.mp e
  rw [List.getElem_range] at hx
  rw [List.length_range] at hl
  subst hx
  refine ⟨?_,hl⟩
  have:=Option.some.inj h
  rw [← this]
  exact congrArg D.int (Int.zero_add _)
theorem comp_ok {js:List (Option Nat)}{it:IF}{tt:TF}{te:EF}{ρ:Rho}{ds:List D}{k:D→Option D} (hi:it ρ=some (ds,t)) (hl:ds.length < sizeLine) (h:∀ d∈ds,compE g tt te (iniR js ρ) d=some (k d)) :
  eComp js it g tt te ρ=some (.lst (ds.filterMap k),.own):=by unfold eComp;rw [hi];dsimp only;rw [if_pos hl,compF_ok h];rfl
theorem compE_own {tt:TF}{te:EF}{ρ ρ1:Rho}{d e:D} (h1:g d (.sh []) ρ=some ρ1) (h2:tt ρ1=some true) (h3:te ρ1=some (e,.own)):compE g tt te ρ d=some (some e):=by unfold compE;rw [h1];dsimp only;rw [h2];dsimp only;rw [h3];rfl
end
open PySem PySem.Spec PyProof.Rows
def eIx (fa fb:EF):EF:=fun ρ=>match fa ρ,fb ρ with
 | some (.lst ds,.sh o),some (.int i,_)=>(atI ds i).map fun d=>(d,.sh o)
 | _,_=>none
theorem eIx_of {fa fb:EF}{ρ:Rho}{d:D}{tg:Tag} (e:eIx fa fb ρ=some (d,tg)):∃ ds o i t2,fa ρ=some (.lst ds,.sh o)∧fb ρ=some (.int i,t2)∧atI ds i=some d∧tg=.sh o:=by
 unfold eIx at e
 split at e
 ·rename_i ds o i t2 h1 h2
  cases h3:atI ds i with
  | none=>rw [h3] at e;cases e
  | some d3=>
   rw [h3] at e
   cases e
   exact ⟨ds,o,i,t2,h1,h2,h3,rfl⟩
 ·cases e
theorem fp_ixP {X:Cx}{a b:Expr}{fa fb:EF}{pos:Pos} (ha:FP X a fa) (hb:FP X b fb) (hs:PlainIx b:=by exact fun _ _=>rfl):FP X (.Subscript a b pos) (eIx fa fb):=by
 obtain ⟨ta,pa,sa⟩:=ha
 obtain ⟨tb,pb,sb⟩:=hb
 refine ⟨_,pe_ix ix_seq pa pb hs,fun H0 S z held ρ σ H Q d tg ok e q=>?_⟩
 obtain ⟨ds,o,i,t2,e1,e2',e3,rfl⟩:=eIx_of e
 refine sa H0 S z held ρ σ H _ _ _ ok e1 fun H1 x f1 s1 r1 g1=>?_
 refine sb H0 S z held ρ σ H1 _ _ t2 (ok.same s1) e2' fun H2 y f2 s2 r2 _=>?_
 have r1:=r1.same s2
 obtain ⟨p,xs,f,rfl,hq,rs,hf⟩:=r1.lst_of
 cases r2
 unfold atI at e3
 cases h:ixN ds.length i with
 | none=>rw [h] at e3;cases e3
 | some j=>
  rw [h,Option.bind_some] at e3
  obtain ⟨v,f',hv,rv,hm⟩:=rs.get e3
  refine .inl ⟨p,xs,i,v,rfl,rfl,hq,?_,q H2 v f' (s1.trans s2) rv fun a m=>g1 a ?_⟩
  ·unfold atI
   rw [← rs.length,h,Option.bind_some];exact hv
  ·exact hf a (hm a m)
mutual
def py:D→PyData
 | .bl b=>.bool b
 | .int i=>.int i
 | .str x=>.str x
 | .tup ds=>.tuple (pys ds)
 | .lst ds=>.list (pys ds)
 | .fls ds=>.list (pys ds)
 | _=>.none
def pys:List D→List PyData
 | []=>[]
 | d::ds=>py d::pys ds
end
mutual
def okPy:D→Bool
 | .non | .bl _ | .int _ | .str _=>true
 | .tup ds | .lst ds | .fls ds=>okPys ds
 | _=>false
def okPys:List D→Bool
 | []=>true
 | d::ds=>okPy d&&okPys ds
end
section
variable {X:Cx}{pins:List (Addr×Obj)}{σ:St}{H:Hp}{s:Shared}
mutual
theorem reads_of (I:Inv X pins σ H s):∀ {d:D}{v:V}{f:List Addr}{u:Value},Rep X.K H d v f→RelV v u→okPy d=true→∃ as,Reads s.heap u (py d) as
 | .non,_,_,_,r,q,_=>by cases r;cases q;exact ⟨_,by unfold py;exact .none⟩
 | .bl b,_,_,_,r,q,_=>by cases r;cases q;exact ⟨_,by unfold py;exact .bool b⟩
 | .int i,_,_,_,r,q,_=>by cases r;obtain ⟨t,rfl⟩:=q;exact ⟨_,by unfold py;exact .int i t⟩
 | .str x,_,_,_,r,q,_=>by cases r;obtain ⟨t,rfl⟩:=q;exact ⟨_,by unfold py;exact .str x t⟩
 | .tup ds,_,_,_,r,q,e=>by
  obtain ⟨a,xs,rfl,hq,rs⟩:=r.tup_of
  cases q
  obtain ⟨us,v1,⟨o,h1,h2,n,h3⟩,_⟩:=I.tuple hq
  obtain ⟨as,ra⟩:=readsAll_of I rs v1 (by unfold okPy at e;exact e)
  exact ⟨_,by unfold py;exact .tuple h1 h2 h3 (by simpa using ra)⟩
 | .lst ds,_,_,_,r,q,e=>by
  obtain ⟨a,xs,f,rfl,hq,rs,_⟩:=r.lst_of
  cases q
  obtain ⟨us,v1,⟨o,n,h1,h2,_,h3⟩,_⟩:=I.list hq
  obtain ⟨as,ra⟩:=readsAll_of I rs v1 (by unfold okPy at e;exact e)
  exact ⟨_,by unfold py;exact .list h1 h2 h3 (by simpa using ra)⟩
 | .fls ds,_,_,_,r,q,e=>by
  obtain ⟨a,xs,rfl,hq,rs⟩:=r.fls_of
  cases q
  obtain ⟨us,v1,⟨o,n,h1,h2,_,h3⟩,_⟩:=I.list hq
  obtain ⟨as,ra⟩:=readsAll_of I rs v1 (by unfold okPy at e;exact e)
  exact ⟨_,by unfold py;exact .list h1 h2 h3 (by simpa using ra)⟩
 | .dic _,_,_,_,_,_,e=>by unfold okPy at e;cases e
 | .dit _,_,_,_,_,_,e=>by unfold okPy at e;cases e
 | .ins _ _,_,_,_,_,_,e=>by unfold okPy at e;cases e
 | .exc _,_,_,_,_,_,e=>by unfold okPy at e;cases e
theorem readsAll_of (I:Inv X pins σ H s):∀ {ds:List D}{xs:List V}{f:List Addr}{us:List Value},Reps X.K H ds xs f→Vals xs us→okPys ds=true→∃ as,ReadsAll s.heap us (pys ds) as
 | [],_,_,_,r,q,_=>by cases r;cases q;exact ⟨_,by unfold pys;exact .nil⟩
 | d::ds,_,_,_,r,q,e=>by
  cases r with
  | cons r1 r2=>
   cases q with
   | cons q1 q2=>
    unfold okPys at e
    obtain ⟨e1,e2⟩:=(Bool.and_eq_true _ _).mp e
    obtain ⟨as,h1⟩:=reads_of I r1 q1 e1
    obtain ⟨bs,h2⟩:=readsAll_of I r2 q2 e2
    exact ⟨_,by unfold pys;exact .cons h1 h2⟩
end
end
def layOk (d:D):Bool:=okPy d&&(py d).canLay0&&decide ((py d).depth≤40)
def oEqP (d1 d2:D):Option D:=if (layOk d1&&layOk d2)=true then some (.bl (PyData.eqv (py d1) (py d2))) else none
def rEqP (K:PySem.W.Frag) (neg:Bool):R2:=fun x y H Q=>∃ d1 d2 f1 f2,Rep K H d1 x f1∧Rep K H d2 y f2∧layOk d1=true∧layOk d2=true∧Q (.bl (if neg=true then !PyData.eqv (py d1) (py d2) else PyData.eqv (py d1) (py d2))) H
section
variable {X:Cx}{a b:Expr}{fa fb:EF}{pos:Pos}
theorem lay_of {d:D} (h:layOk d=true):okPy d=true∧(py d).canLay0=true∧(py d).depth≤40:=by
 unfold layOk at h
 obtain ⟨h,h3⟩:=(Bool.and_eq_true _ _).mp h
 obtain ⟨h1,h2⟩:=(Bool.and_eq_true _ _).mp h
 exact ⟨h1,h2,of_decide_eq_true h3⟩
theorem op_neP (hu:X.A.units + 64 < cLine):OpR X (compareOp .NotEq) (rEqP X.K true):=by
 intro pins s σ H x y v u Q I rx ry h
 obtain ⟨d1,d2,f1,f2,r1,r2,l1,l2,q⟩:=h
 obtain ⟨a1,a2,a3⟩:=lay_of l1
 obtain ⟨b1,b2,b3⟩:=lay_of l2
 obtain ⟨as,ra⟩:=reads_of I r1 rx a1
 obtain ⟨bs,rb⟩:=reads_of I r2 ry b1
 exact SeqAt.compareNe_reads ra rb a2 b2 (by omega) ⟨.bl _,H,I,rfl,q⟩
theorem op_eqP (hu:X.A.units + 64 < cLine):OpR X (compareOp .Eq) (rEqP X.K false):=by
 intro pins s σ H x y v u Q I rx ry h
 obtain ⟨d1,d2,f1,f2,r1,r2,l1,l2,q⟩:=h
 obtain ⟨a1,a2,a3⟩:=lay_of l1
 obtain ⟨b1,b2,b3⟩:=lay_of l2
 obtain ⟨as,ra⟩:=reads_of I r1 rx a1
 obtain ⟨bs,rb⟩:=reads_of I r2 ry b1
 exact SeqAt.compareEq_reads ra rb a2 b2 (by omega) ⟨.bl _,H,I,rfl,q⟩
theorem does_eqP {K:PySem.W.Frag}:Does2 K (rEqP K false) oEqP:=by
 intro H x y d1 d2 f1 f2 d Q r1 r2 e k
 unfold oEqP at e
 by_cases hc:(layOk d1&&layOk d2)=true
 ·rw [if_pos hc] at e
  cases e
  obtain ⟨c1,c2⟩:=(Bool.and_eq_true _ _).mp hc
  exact ⟨d1,d2,f1,f2,r1,r2,c1,c2,k H _ (Same.refl H) (.bl _)⟩
 ·rw [if_neg hc] at e;cases e
theorem fp_eqP (hu:X.A.units + 64 < cLine) (ha:FP X a fa) (hb:FP X b fb):FP X (.Compare a [.Eq] [b] pos) (e2 oEqP fa fb):=fp_cmp (op_eqP hu) does_eqP ha hb (nomark _)
end
end L2.Ev
namespace L2.Ev
open PySem PySem.Spec PyProof.Rows
theorem isi_tuple:isiOk "tuple":=by
 intro K t m
 simp only [List.mem_cons,List.not_mem_nil,or_false] at m
 rcases m with rfl | rfl | rfl | rfl | rfl | rfl <;> rfl
theorem isi_str:isiOk "str":=by
 intro K t m
 simp only [List.mem_cons,List.not_mem_nil,or_false] at m
 rcases m with rfl | rfl | rfl | rfl | rfl | rfl <;> rfl
section
variable {X:Cx}{a b c:Expr}{fa fb:EF}{tc:TF}{pos:Pos}
def cPw (i j:Int):Bool:=decide (0≤j)&&decide (j≤1000000)&&decide (i.natAbs < 2 ^ 64)
def oPow:=iopC cPw fun i j=>i ^ j.toNat
theorem fp_pow (ha:FP X a fa) (hb:FP X b fb):FP X (.BinOp a .Pow b pos) (e2 oPow fa fb):=fp_bin op_pow (does_iC fun i j h=>by
 obtain ⟨h,h3⟩:=(Bool.and_eq_true _ _).mp h
 obtain ⟨h1,h2⟩:=(Bool.and_eq_true _ _).mp h
 exact ⟨of_decide_eq_true h1,of_decide_eq_true h2,of_decide_eq_true h3⟩) ha hb
def oIn (neg:Bool):D→D→Option D
 | .int i,.lst ds=>(intsD ds).map fun ns=>.bl (if neg=true then !(ns.any (· == i)) else ns.any (· == i))
 | _,_=>none
theorem inV_ints (i:Int) (ns:List Int):inV (.int i) (ns.map V.int)=ns.any (· == i):=by
 unfold inV
 rw [List.any_map]
 rfl
theorem flat_ints (ns:List Int):(ns.map V.int).all flatV=true:=by
 rw [List.all_map]
 exact List.all_eq_true.mpr fun _ _=>rfl
theorem does_in {K:PySem.W.Frag}{neg:Bool}:Does2 K (rIn K neg) (oIn neg):=by
 intro H x y d1 d2 f1 f2 d Q r1 r2 e k
 cases d1 with
 | int i=>
  cases d2 with
  | lst ds=>
   have e:((intsD ds).map fun ns=>D.bl (if neg=true then !(ns.any (· == i)) else ns.any (· == i)))=some d:=e
   cases h:intsD ds with
   | none=>rw [h] at e;cases e
   | some ns=>
    rw [h] at e
    cases e
    obtain ⟨p,xs,f,rfl,hq,rs,_⟩:=r2.lst_of
    cases r1
    have ex:=intsD_of rs h
    subst ex
    refine ⟨p,_,rfl,.inl hq,rfl,flat_ints ns,?_⟩
    rw [inV_ints]
    exact k H _ (Same.refl H) (.bl _)
  | _=>cases e
 | _=>cases e
theorem fp_notIn (ha:FP X a fa) (hb:FP X b fb) (hm:behindInMarks .NotIn b=false:=by rfl):FP X (.Compare a [.NotIn] [b] pos) (e2 (oIn true) fa fb):=fp_cmp op_notIn_seq does_in ha hb hm
def cutD (ds:List D) (lo hi:Option Int):List D:=(ds.drop (HT.sIx ds.length 0 lo)).take (HT.sIx ds.length ds.length hi - HT.sIx ds.length 0 lo)
def oCut (lo hi:Option Int):D→Option D
 | .lst ds=>if immAll ds=true then some (.lst (cutD ds lo hi)) else none
 | .fls ds=>if immAll ds=true then some (.lst (cutD ds lo hi)) else none
 | _=>none
theorem Reps.drop0 {K:PySem.W.Frag}{H:Hp}:∀ {ds:List D}{xs:List V} (n:Nat),Reps K H ds xs []→Reps K H (ds.drop n) (xs.drop n) []
 | ds,xs,0,r=>r
 | [],_,n + 1,r=>by cases r;exact .nil
 | d::ds,xs,n + 1,r=>by
  generalize hf:([]:List Addr)=fp at r
  cases r with
  | @cons _ _ _ _ f1 f2 r1 r2=>
   obtain ⟨z1,z2⟩:=List.append_eq_nil_iff.mp hf.symm
   subst z1 z2
   exact Reps.drop0 n r2
theorem Reps.take0 {K:PySem.W.Frag}{H:Hp}:∀ {ds:List D}{xs:List V} (n:Nat),Reps K H ds xs []→Reps K H (ds.take n) (xs.take n) []
 | ds,xs,0,r=>.nil
 | [],_,n + 1,r=>by cases r;exact .nil
 | d::ds,xs,n + 1,r=>by
  generalize hf:([]:List Addr)=fp at r
  cases r with
  | @cons _ _ _ _ f1 f2 r1 r2=>
   obtain ⟨z1,z2⟩:=List.append_eq_nil_iff.mp hf.symm
   subst z1 z2
   exact Reps.cons (f1:=[]) (f2:=[]) r1 (Reps.take0 n r2)
def PCut (X:Cx) (e:Option Expr) (v:Option Int):Prop:=∃ t,PO X e t∧∀ σ H Q,Q v H→t σ H Q
theorem pc_none:PCut X none none:=⟨_,po_none,fun _ _ _ q=>q⟩
theorem pc_int {i:Int} {j p}:PCut X (some (.Constant (.int i) j p)) (some i):=⟨_,po_some pe_int,fun _ _ _ q=>⟨i,rfl,q⟩⟩
theorem fp_cut {lo hi:Option Expr}{l h:Option Int}{p2:Pos} (hl:PCut X lo l) (hh:PCut X hi h) (ha:FP X a fa):FP X (.Subscript a (.Slice lo hi none p2) pos) (e1 (oCut l h) fa):=by
 obtain ⟨t,p,q⟩:=ha
 obtain ⟨tl,pl,ql⟩:=hl
 obtain ⟨th,ph,qh⟩:=hh
 refine ⟨_,pe_slice sl_list p pl ph,fun H0 S z held ρ σ H Q d tg ok e k=>?_⟩
 obtain ⟨d1,t1,g1,g2,rfl⟩:=e1_of e
 refine q H0 S z held ρ σ H _ d1 t1 ok g1 fun H1 x f1 s1 r1 _=>?_
 refine ql σ H1 _ (qh σ H1 _ ?_)
 have fin:∀ {ds:List D}{xs:List V}{f:List Addr}{w:Addr},Reps X.K H1 ds xs f→SqL X.K H1 w xs→(if immAll ds=true then some (D.lst (cutD ds l h)) else none)=some d→rSlL X.K (.ref w) l h H1 Q:=fun {ds xs f w} rs hq e=>by
  by_cases hi:immAll ds=true
  ·rw [if_pos hi] at e
   cases e
   have hn:=rs.imm hi
   subst hn
   refine ⟨w,xs,rfl,hq,fun p hp=>?_⟩
   have s2:Same H1 (upd H1 p (.lst (cutV xs l h))):=fun b o e=>by rw [upd_ne (ne_of_none e hp)];exact e
   have rr:Reps X.K H1 (cutD ds l h) (cutV xs l h) []:=by
    unfold cutD cutV
    rw [rs.length]
    exact Reps.take0 _ (Reps.drop0 _ rs)
   refine k _ _ [p] (s1.trans s2) (.lst upd_same (rr.same s2)) ⟨List.nodup_cons.mpr ⟨(fun m=>by cases m),List.nodup_nil⟩,fun a m=>?_⟩
   cases List.mem_singleton.mp m
   exact s1.free hp
  ·rw [if_neg hi] at e;cases e
 cases d1 with
 | lst ds=>
  obtain ⟨w,xs,f,rfl,hq,rs,_⟩:=r1.lst_of
  exact fin rs hq g2
 | fls ds=>
  obtain ⟨w,xs,rfl,hq,rs⟩:=r1.fls_of
  exact fin rs hq g2
 | _=>cases g2
end
end L2.Ev
namespace L2
open PySem PySem.Spec PyProof.Rows
namespace Rv
theorem slot_next:Slot "list_reverseiterator" "__next__" "list_reverseiterator.__next__":=.of (owner:="list_reverseiterator") (n:="__next__") (by rw [typeLookup_type,builtinLookup_eq_fast];kernel_rfl) (by decide +kernel) (by decide +kernel) (by decide +kernel) (by first | exact .inl (by decide +kernel) | exact .inr (by decide +kernel)) (by rw [isSubtype_type];kernel_rfl)
theorem slot_iter:Slot "list_reverseiterator" "__iter__" "list_reverseiterator.__iter__":=.of (owner:="list_reverseiterator") (n:="__iter__") (by rw [typeLookup_type,builtinLookup_eq_fast];kernel_rfl) (by decide +kernel) (by decide +kernel) (by decide +kernel) (by first | exact .inl (by decide +kernel) | exact .inr (by decide +kernel)) (by rw [isSubtype_type];kernel_rfl)
theorem entry_next:entryFor table "list_reverseiterator.__next__"=some Builtin.«list_reverseiterator.__next__»:=entryFor_of_tree (by kernel_rfl)
theorem entry_iter:entryFor table "list_reverseiterator.__iter__"=some Builtin.«dict_keyiterator.__iter__»:=entryFor_alias (id':="dict_keyiterator.__iter__") (by kernel_rfl) rfl (by decide +kernel) (by kernel_rfl)
theorem args_next (a:Value):argsOk "list_reverseiterator.__next__" ⟨[a],[]⟩:=by unfold argsOk;kernel_rfl
theorem args_iter (a:Value):argsOk "list_reverseiterator.__iter__" ⟨[a],[]⟩:=by unfold argsOk;kernel_rfl
theorem look_len:typeLookup (.type "list_reverseiterator") "__len__"=pure none:=by rw [typeLookup_type,builtinLookup_eq_fast];kernel_rfl
theorem look_hint:typeLookup (.type "list_reverseiterator") "__length_hint__"=pure (some (.builtin "list_reverseiterator.__length_hint__")):=by rw [typeLookup_type,builtinLookup_eq_fast];kernel_rfl
abbrev IsRev (h:Heap) (it l:Addr) (i:Int):Prop:=h.get? it=some { cls:=.type "list_reverseiterator",data:=.fields #[.ref l,rawInt i] }
section
variable {prog:Program}{w:World}{A:Around}{E:Value→Shared→Prop}{s:Shared}{it l:Addr}{items:Array Value}
theorem next_item {i:Nat}{x:Value}{Q:Option Value→Shared→Prop} (h1:IsRev s.heap it l i) (hl:s.heap.IsList l items) (hx:items[i]? = some x)
  (hQ:∀ h',IsRev h' it l ((i:Int) - 1)→Heap.SameBut it s.heap h'→Q (some x) { s with heap:=h' }):wpAny (model prog w) A (pyNext (.ref it)) Q E s:=by
 obtain ⟨ol,hol,_,nl,hdl⟩:=hl
 have ty:s.TypeIs (.ref it) "list_reverseiterator":=⟨_,h1,rfl⟩
 unfold pyNext
 refine wpAny_bind (wpAny_attempt (wpAny_callSpecial?_slot (name:=Str.ofString "__next__") ty slot_next (wpAny_call_entry slot_next ty entry_next ?_ (args_next _))))
 show wpAny _ _ (field (.ref it) 1 >>= fun v=>_) _ _ s
 refine wpAny_bind (wpAny_field h1 rfl (x:=.int i 0) rfl ?_)
 show wpAny _ _ (if ((i:Int) < 0) then _ else _) _ _ s
 rw [if_neg (by omega)]
 show wpAny _ _ (field (.ref it) 0 >>= fun v=>_) _ _ s
 refine wpAny_bind (wpAny_field h1 rfl (x:=.ref l) rfl ?_)
 refine wpAny_bind (wpAny_seqItems hol hdl ?_)
 simp only [Int.toNat_natCast,hx]
 refine wpAny_bind (wpAny_setField_rec h1 (by simp) fun h' e1 sb=>wpAny_pure ⟨x,rfl,wpAny_pure (hQ h' ?_ sb)⟩)
 exact e1
theorem next_end {Q:Option Value→Shared→Prop} (hh:A.handled=none) (h1:IsRev s.heap it l (-1)) (hQ:∀ h',Heap.ExtBut it s.heap h'→Q none { s with heap:=h' }):wpAny (model prog w) A (pyNext (.ref it)) Q E s:=by
 have ty:s.TypeIs (.ref it) "list_reverseiterator":=⟨_,h1,rfl⟩
 unfold pyNext
 refine wpAny_bind (wpAny_attempt (wpAny_callSpecial?_slot (name:=Str.ofString "__next__") ty slot_next (wpAny_call_entry slot_next ty entry_next ?_ (args_next _))))
 show wpAny _ _ (field (.ref it) 1 >>= fun v=>_) _ _ s
 refine wpAny_bind (wpAny_field h1 rfl (x:=.int (-1) 0) rfl ?_)
 show wpAny _ _ (if ((-1:Int) < 0) then _ else _) _ _ s
 rw [if_pos (by omega)]
 refine wpAny_bind (wpAny_rule ?_)
 refine wpAny_bind ?_
 unfold Builtin.SmallTypes.stopIteration
 refine wpAny_bind ?_
 unfold newExc newTuple
 refine wpAny_bind (wpAny_newObj_type ?_ (by size_fits))
 refine wpAny_bind (m:=firstArgMember _ _) (wpAny_of_eq (a:=Value.none) (by first | (simp only [firstArgMember];rfl) | rfl) ?_)
 refine wpAny_newObj_type ?_ (by size_fits)
 unfold raiseNew
 refine wpAny_bind (wpAny_handled ?_)
 have hh1:A.in1.handled=none:=hh
 rw [hh1]
 refine wpAny_bind (wpAny_pure (wpAny_throw ?_))
 refine wpAny_bind (wpAny_isInstance (T:="StopIteration") (b:=true) ⟨_,Heap.get?_push_size _ rfl,rfl⟩ isSubtype_stop (wpAny_pure (hQ _ ?_)))
 exact fun b o _ e=>Heap.get?_push_of_some _ (Heap.get?_push_of_some _ e)
theorem walks (hh:A.handled=none) (hne:l≠it):Walks prog w A it [it,l] [it] items.size (fun i v=>items[items.size - 1 - i]? = some v) (fun i h=>IsRev h it l ((items.size:Int) - 1 - (i:Nat))∧h.IsList l items) where
 sub:=fun b hb=>by simp at hb;simp [hb]
 frame:=fun _ _ _ st hk=>⟨hk it (by simp) _ st.1,st.2.at fun o e=>hk l (by simp) o e⟩
 item:=fun i s Q E hi st hQ=>by
  have e1:IsRev s.heap it l ((items.size - 1 - i:Nat):Int):=by
   have:=st.1
   rw [show ((items.size - 1 - i:Nat):Int)=(items.size:Int) - 1 - (i:Nat) by omega]
   exact this
  have hx:items[items.size - 1 - i]? = some items[items.size - 1 - i]:=by simp
  refine next_item e1 st.2 hx fun h' r' sb=>hQ _ h' s.toks hx ⟨?_,st.2.extBut sb.extBut hne⟩ fun b o hb e=>sb.extBut b o (fun z=>hb (by simp [z])) e
  have:=r'
  rw [show ((items.size - 1 - i:Nat):Int) - 1=(items.size:Int) - 1 - ((i + 1:Nat):Int) by omega] at this
  exact this
 done:=fun s Q E st hQ=>by
  have e1:IsRev s.heap it l (-1):=by
   have:=st.1
   rw [show (items.size:Int) - 1 - ((items.size:Nat):Int)=-1 by omega] at this
   exact this
  exact next_end hh e1 fun h' eb=>hQ h' s.toks fun b o hb e=>eb b o (fun z=>hb (by simp [z])) e
 self:=fun i s Q E st hQ=>by
  have ty:s.TypeIs (.ref it) "list_reverseiterator":=⟨_,st.1,rfl⟩
  refine wpAny_pyIter_slot ty slot_iter (wpAny_call_entry slot_iter ty entry_iter ?_ (args_iter _))
  show wpAny _ _ (ret (.ref it)) _ _ s
  exact wpAny_pure ⟨_,rfl,"list_reverseiterator",_,ty,slot_next.lookup,hQ⟩
theorem hint {i:Int}{Q:Bool→Shared→Prop} (h1:IsRev s.heap it l i) (h:Q false s):wpAny (model prog w) A (Builtin.List.listLengthHint (.ref it)) Q E s:=by
 have ty:s.TypeIs (.ref it) "list_reverseiterator":=⟨_,h1,rfl⟩
 unfold Builtin.List.listLengthHint
 refine wpAny_bind (wpAny_specialOf ty look_len ?_)
 show wpAny _ _ (specialOf (.ref it) "__length_hint__" >>= fun v=>_) _ _ s
 refine wpAny_bind (wpAny_specialOf ty look_hint ?_)
 generalize hid:("list_reverseiterator.__length_hint__":String)=id0
 (fail_if_success (clear hid id0))
 wp_delta
 rw [show splitId id0=some ("list_reverseiterator","__length_hint__") from by subst hid;decide +kernel]
 subst hid
 refine wpAny_bind (wpAny_isInstance (b:=true) ty (by rw [isSubtype_type];kernel_rfl) ?_)
 refine wpAny_ite_split (fun z=>absurd z (by decide)) fun _=>?_
 refine wpAny_ite_split (fun _=>?_) fun z=>absurd (by decide +kernel) z
 exact wpAny_ite_split (fun z=>absurd z (by decide +kernel)) fun _=>wpAny_pure h
theorem extend {R:Result→Shared→Prop} (hh:A.handled=none) (h1:IsRev s.heap it l ((items.size:Int) - 1)) (hl:s.heap.IsList l items) (hne:l≠it) (hz:items.size≤sizeLine) (S:Addr) (hSl:S≠l) (hSi:S≠it) (res:Value) (c₀:Nat) (hS:s.heap.get? S=some { cls:=.type "list",data:=.seq #[] c₀ })
  (hR:∀ h' tk acc' c',(∀ b o,b≠S→b≠it→s.heap.get? b=some o→h'.get? b=some o)→h'.get? S=some { cls:=.type "list",dict:=none,data:=.seq acc' c',slots:=#[] }→ItemsOf (fun i v=>items[items.size - 1 - i]? = some v) acc' items.size→R (.ok (.ret res)) { s with heap:=h',toks:=tk }) :
  wpAny (model prog w) A.in1 (Builtin.List.listExtendWith (.ref S) (.ref it) res) (fun fin s'=>match fin with | .done f=>R (.ok f) s' | .again c'=>c'.quiet=true∧codeAny (model prog w) A c' R s') (fun e s'=>R (.error e) s') s:=by
 have ty:s.TypeIs (.ref it) "list_reverseiterator":=⟨_,h1,rfl⟩
 have W:=walks (prog:=prog) (w:=w) (A:=A.in1) (it:=it) (l:=l) (items:=items) hh hne
 have st:IsRev s.heap it l ((items.size:Int) - 1 - ((0:Nat):Int))∧s.heap.IsList l items:=⟨by simpa using h1,hl⟩
 unfold Builtin.List.listExtendWith
 refine wpAny_bind (wpAny_typeOf ty ?_)
 have q1:Builtin.List.listSameRef (.ref S) (.ref it)=false:=by simp [Builtin.List.listSameRef,hSi]
 have q2:(Value.type "list_reverseiterator" == Value.type "list")=false:=by decide
 have q3:(Value.type "list_reverseiterator" == Value.type "tuple")=false:=by decide
 simp only [q1,q2,q3,Bool.or_self,Bool.false_eq_true,if_false]
 refine wpAny_bind (W.self 0 s _ _ st ?_)
 refine wpAny_bind (wpAny_holding (hint h1 ?_))
 refine wpAny_ite_split (fun z=>absurd z (by decide +kernel)) fun _=>wpAny_pure ⟨plainId_quiet F.plain_extend_loop _,?_⟩
 refine codeAny_extend_loopS W.toS hz S (fun m=>?_) res items.size 0 s #[] c₀ rfl (Nat.zero_le _) st hS (ItemsOf.nil _) fun s' acc' c' hm hS' hacc=>?_
 ·rcases List.mem_cons.mp m with z | z
  ·exact hSi z
  ·exact hSl (List.mem_singleton.mp z)
 ·rw [Moved.eq_with hm]
  refine hR s'.heap s'.toks acc' c' (fun b o hb hi e=>hm.heap b o (fun z=>?_) e) hS' hacc
  rcases List.mem_cons.mp z with z | z
  ·exact hb z
  ·exact hi (List.mem_singleton.mp z)
theorem call_list {Q:Value→Shared→Prop} (hh:A.handled=none) (h1:IsRev s.heap it l ((items.size:Int) - 1)) (hl:s.heap.IsList l items) (hne:l≠it) (hz:items.size≤sizeLine)
  (hQ:∀ h' tk acc' c',(∀ b o,b≠it→s.heap.get? b=some o→h'.get? b=some o)→h'.get? s.heap.objs.size=some { cls:=.type "list",dict:=none,data:=.seq acc' c',slots:=#[] }→ItemsOf (fun i v=>items[items.size - 1 - i]? = some v) acc' items.size→Q (.ref s.heap.objs.size) { s with heap:=h',toks:=tk }) :
  wpAny (model prog w) A (call (.type "list") [.ref it]) Q E s:=by
 have li:it < s.heap.objs.size:=Heap.lt_size h1
 have ll:l < s.heap.objs.size:=let ⟨o,e,_⟩:=hl;Heap.lt_size e
 refine callType_codes (Q₁:=fun obj s₁=>obj=.ref s.heap.objs.size∧s₁={ s with heap:=s.heap.push { cls:=.type "list",data:=.seq #[] } }) F.called_list (F.typeCall_list_1 _) F.entry_list_init (code_list_new _ ⟨rfl,rfl⟩) fun obj s₁ g=>?_
 obtain ⟨rfl,rfl⟩:=g
 have hS:(s.heap.push { cls:=.type "list",data:=.seq #[] }).get? s.heap.objs.size=some { cls:=.type "list",data:=.seq #[] }:=Heap.get?_push_size _ rfl
 refine ⟨⟨_,hS,rfl⟩,F.args_list_init_2 _ _,?_⟩
 show wpAny _ _ (Builtin.List.listItems (.ref s.heap.objs.size) >>= fun old=>Builtin.List.listUpdate (.ref s.heap.objs.size) (fun _=>#[]) >>= fun _=>letGo old.toList.reverse >>= fun _=>Builtin.List.listExtendWith (.ref s.heap.objs.size) (.ref it) .none) _ _ _
 refine wpAny_bind ?_
 unfold Builtin.List.listItems
 refine wpAny_bind (wpAny_seqItems hS rfl (wpAny_pure ?_))
 refine wpAny_bind ?_
 show wpAny _ _ (updateSeq s.heap.objs.size (fun _=>#[])) _ _ _
 refine wpAny_updateSeq hS rfl ?_
 have hS₂:=Heap.get?_update_self (Obj.mapSeq (fun _=>(#[]:Array Value))) hS rfl
 have old:∀ b o,s.heap.get? b=some o→((s.heap.push { cls:=.type "list",data:=.seq #[] }).update s.heap.objs.size (Obj.mapSeq (fun _=>(#[]:Array Value)))).get? b=some o:=fun b o e=>
  (Heap.get?_update_other _ _ (Nat.ne_of_gt (Heap.lt_size e))).trans (Heap.get?_push_of_some _ e)
 refine wpAny_bind (wpAny_letGo ?_)
 refine extend (A:=A.in1) hh (old _ _ h1) (hl.at fun o e=>old _ _ e) hne hz _ (Nat.ne_of_gt ll) (Nat.ne_of_gt li) .none _ hS₂ fun h' tk acc' c' hk hS' hacc=>?_
 exact ⟨rfl,hQ h' tk acc' c' (fun b o hb e=>hk b o (Nat.ne_of_lt (Heap.lt_size e)) hb (old b o e)) hS' hacc⟩
end
end Rv
namespace Rv
theorem sub_rev:isSubtype (.type "reversed") (.type "reversed")=pure true:=by rw [isSubtype_type];kernel_rfl
theorem look_rev:typeLookup (.type "list") "__reversed__"=pure (some (.builtin "list.__reversed__")):=by rw [typeLookup_type,builtinLookup_eq_fast];kernel_rfl
theorem new_rev (l:Addr) (items:Array Value) (n:Nat):Meets (Builtin.«reversed.__new__» ⟨[.type "reversed",.ref l],[]⟩) (fun _ R s=>s.heap.get? l=some { cls:=.type "list",data:=.seq items n } ∧
  R (.ok (.ret (.ref s.heap.objs.size))) { s with heap:=s.heap.push { cls:=.type "list_reverseiterator",data:=.fields #[.ref l,rawInt ((items.size:Int) - 1)] } }):=.of_wp fun prog w A R s h=>by
 obtain ⟨hp,g,d,tk,os⟩:=s
 obtain ⟨hl,h⟩:=h
 have hsub:=sub_rev
 have ty:Shared.TypeIs ⟨hp,g,d,tk,os⟩ (.ref l) "list":=⟨_,hl,rfl⟩
 wp_walk using wpAny_specialOf ty look_rev
 refine wpAny_of_eq (F.slot_list_reversed.bind (.ref l)) ?_
 refine wpAny_ite_split (fun z=>absurd z (by decide)) fun _=>?_
 refine wpAny_bind (wpAny_rule ?_)
 show wpAny _ _ (call (.builtin "list.__reversed__") [.ref l] >>= fun v=>_) _ _ _
 refine wpAny_bind (call_meets F.slot_list_reversed ty F.entry_list_reversed (F.args_list_reversed_1 _) (AutoListH.list___reversed___list_0 l items n) ⟨hl,?_⟩)
 exact wpAny_pure ⟨_,rfl,h⟩
theorem mro_rev:mroOf (.type "reversed")=pure [.type "reversed",.type "object"]:=by rw [mroOf_type];kernel_rfl
theorem look_new:typeLookup (.type "reversed") "__new__"=pure (some (.builtin "reversed.__new__")):=by rw [typeLookup_type,builtinLookup_eq_fast];kernel_rfl
theorem made_rev:Bind.madeBy (.type "reversed")=pure (some "reversed.__new__"):=madeBy_type mro_rev look_new (by decide +kernel)
theorem entry_new:entryFor table "reversed.__new__"=some Builtin.«reversed.__new__»:=entryFor_of_tree (by kernel_rfl)
theorem tcall (a:Value):checkTypeCall "reversed" ⟨[a],[]⟩=pure ():=by kernel_rfl
theorem ncall (a:Value):checkBuiltinCall "reversed.__new__" ⟨[.type "reversed",a],[]⟩=pure ():=by kernel_rfl
theorem nosub:isSubtype (.type "list_reverseiterator") (.type "reversed")=pure false:=by rw [isSubtype_type];kernel_rfl
section
variable {prog:Program}{w:World}{A:Around}{E:Value→Shared→Prop}{s:Shared}{l:Addr}{items:Array Value}{n:Nat}
theorem call_rev {Q:Value→Shared→Prop} (hl:s.heap.get? l=some { cls:=.type "list",data:=.seq items n })
  (hQ:Q (.ref s.heap.objs.size) { s with heap:=s.heap.push { cls:=.type "list_reverseiterator",data:=.fields #[.ref l,rawInt ((items.size:Int) - 1)] } }):wpAny (model prog w) A (call (.type "reversed") [.ref l]) Q E s:=by
 have hmro:=mro_rev
 have hmade:=made_rev
 have hsub:=sub_rev
 have hns:=nosub
 have hct:=tcall (.ref l)
 refine wpAny_call (codeAny_of_tree ?_)
 show wpAny _ _ (callAny (.type "reversed") _) _ _ _
 refine wpAny_pure ⟨Code.quiet_builtin _ (by decide +kernel),codeAny_builtin F.entry_type_call ?_⟩
 rw [Around.under_plain (weight_type_call_type "reversed" [.ref l] []) rfl]
 have g1:(Value.type "reversed" == Value.type "type")=false:=by decide +kernel
 have g2:((Manifest.find? "reversed").bind (·.mro.findSome? fun t=>(Manifest.find? t).bind fun b=>if b.noNew then some true else if b.attrs.any (·.1 == "__new__") then some false else none)).getD false=false:=by decide +kernel
 repeat (any_goals (first | assumption | wp_step))
 have hn:codeAny (model prog w) A.in1 (.call (.builtin "reversed.__new__") ⟨[.type "reversed",.ref l],[]⟩) (fun r s'=>r=.ok (.ret (.ref s.heap.objs.size))∧s'={ s with heap:=s.heap.push { cls:=.type "list_reverseiterator",data:=.fields #[.ref l,rawInt ((items.size:Int) - 1)] } }) s:=
  codeAny_call_builtin (by decide +kernel) entry_new (wpAny_of_eq (ncall (.ref l)) (new_rev l items n prog w A.in1 (fun r s'=>r=.ok (.ret (.ref s.heap.objs.size))∧s'={ s with heap:=s.heap.push { cls:=.type "list_reverseiterator",data:=.fields #[.ref l,rawInt ((items.size:Int) - 1)] } }) s ⟨hl,rfl,rfl⟩))
 refine codeAny_mono hn fun r s₁ hr=>?_
 obtain ⟨rfl,rfl⟩:=hr
 have ty:Shared.TypeIs { s with heap:=s.heap.push { cls:=.type "list_reverseiterator",data:=.fields #[.ref l,rawInt ((items.size:Int) - 1)] } } (.ref s.heap.objs.size) "list_reverseiterator":=⟨_,Heap.get?_push_size _ rfl,rfl⟩
 refine wpAny_bind (wpAny_isInstance (b:=false) ty nosub ?_)
 refine wpAny_ite_split (fun _=>?_) fun z=>absurd rfl z
 refine wpAny_bind (wpAny_rule ?_)
 exact wpAny_pure hQ
end
end Rv
section
variable {X:Cx}{a:Expr}{ta:TE}{p1 p2 p3 pos:Pos}
def tRev (ta:TE):TE:=fun σ H Q=>ta σ H fun x H1=>∃ p xs,x=.ref p∧H1 p=some (.lst xs)∧∀ l,H1 l=none→Q (.ref l) (upd H1 l (.lst xs.reverse))
theorem items_rev {xs:List V}{its:List Value}{acc:Array Value} (hv:Vals xs its) (h:ItemsOf (fun i v=>its.toArray[its.toArray.size - 1 - i]? = some v) acc its.toArray.size):Vals xs.reverse acc.toList:=by
 have e:acc.toList=its.reverse:=by
  have h1:acc.size=its.length:=by have:=h.1;simpa using this
  have h2:=h.2
  refine List.ext_getElem? fun i=>?_
  by_cases hi:i < its.length
  ·have hs:acc[i]? = some (acc[i]'(by omega)):=by simp
   have:=h2 i _ hs
   dsimp only at this
   rw [List.size_toArray,List.getElem?_toArray] at this
   rw [List.getElem?_reverse hi,this,Array.getElem?_toList,hs]
  ·rw [List.getElem?_eq_none (by rw [Array.length_toList];omega),List.getElem?_eq_none (by rw [List.length_reverse];omega)]
 rw [e]
 exact hv.reverse
theorem Inv.turnNew {pins:List (Addr×Obj)}{σ:St}{H:Hp}{s:Shared}{h':Heap}{ch:List Addr}{T:Addr}{o:HO}{t':Nat} (I:Inv X pins σ H s) (hf:∀ b∈ch,FpOk X pins H b) (k:∀ b o,b∉ch→s.heap.get? b=some o→h'.get? b=some o)
  (hT:s.heap.objs.size≤T) (new:ObjOk X.prog X.w (upd H T o) h' T o):Inv X pins σ (upd H T o) { s with heap:=h',toks:=t' }:=by
 have nT:H T=none:=I.hok.fresh hT
 have nch:∀ b u,H b=some u→b∉ch:=fun b u e m=>by rw [(hf b m).1] at e;cases e
 refine I.step (g':=s.gens) (d':=s.drawn) (ch:=ch) (fun b m=>⟨(hf b m).2.2.2.1,(hf b m).2.1,(hf b m).2.2.2.2.1,(hf b m).2.2.2.2.2⟩) (fun b o _ _ m e _=>k b o m e) (fun b o _ _ m e _=>⟨o.slots,k b o m e⟩)
  (fun b o _ e n=>by rw [upd_ne (Nat.ne_of_lt (Nat.lt_of_lt_of_le (Heap.lt_size e) hT))];exact n) (fun b o m e=>⟨o,k b o m e⟩) (fun b xs e=>by rw [upd_ne (ne_of_none e nT)];exact e) (fun b o u e=>by rw [upd_ne (ne_of_none e nT)];exact e)
  (fun b ps e=>⟨#[],by rw [upd_ne (ne_of_none e nT),e];simp⟩) (fun m hm=>?_) (fun b u e=>?_) I.bare
 ·obtain ⟨o,es,ep,ho,r⟩:=hm
  exact ⟨o,es,ep,k _ o (fun m=>(hf _ m).2.1 rfl) ho,r⟩
 ·by_cases hb:b=T
  ·subst hb;rw [upd_same] at e;cases e;exact new
  ·rw [upd_ne hb] at e
   refine (I.hok b u e).stay (fun c v hc q=>k c v ?_ q) (fun c q=>by rw [upd_ne (ne_of_none q nT)];exact q) fun c xs q=>by rw [upd_ne (ne_of_none q nT)];exact q
   rcases hc with z | z
   ·rw [z];exact nch b u e
   ·exact nch c _ z
theorem Inv.turnL {pins:List (Addr×Obj)}{σ:St}{H:Hp}{s:Shared}{h':Heap}{ch:List Addr}{t':Nat} (I:Inv X pins σ H s) (hf:∀ b∈ch,FpOk X pins H b) (k:∀ b o,b∉ch→s.heap.get? b=some o→h'.get? b=some o):Inv X pins σ H { s with heap:=h',toks:=t' }:=by
 have nch:∀ b u,H b=some u→b∉ch:=fun b u e m=>by rw [(hf b m).1] at e;cases e
 refine I.step (g':=s.gens) (d':=s.drawn) (ch:=ch) (fun b m=>⟨(hf b m).2.2.2.1,(hf b m).2.1,(hf b m).2.2.2.2.1,(hf b m).2.2.2.2.2⟩) (fun b o _ _ m e _=>k b o m e) (fun b o _ _ m e _=>⟨o.slots,k b o m e⟩)
  (fun b o _ e n=>n) (fun b o m e=>⟨o,k b o m e⟩) (fun b xs e=>e) (fun b o u e=>e) (fun b ps e=>⟨#[],by rw [e];simp⟩) (fun m hm=>?_) (fun b u e=>?_) I.bare
 ·obtain ⟨o,es,ep,ho,r⟩:=hm
  exact ⟨o,es,ep,k _ o (fun m=>(hf _ m).2.1 rfl) ho,r⟩
 ·refine (I.hok b u e).stay (fun c v hc q=>k c v ?_ q) (fun c q=>q) fun c xs q=>q
  rcases hc with z | z
  ·rw [z];exact nch b u e
  ·exact nch c _ z
theorem pe_rev (hc:X.calm=true) (hm:X.mg "list"=none) (hm2:X.mg "reversed"=none) (ha:PE X a ta) (hg:Gl X "list":=by rfl) (hg2:Gl X "reversed":=by rfl) (hs:starEach [a] X.env=[(false,eval a X.env)]:=by rfl)
  (hs2:starEach [.Call (.Name "reversed" p2) [a] [] p3] X.env=[(false,eval (.Call (.Name "reversed" p2) [a] [] p3) X.env)]:=by rfl):PE X (.Call (.Name "list" p1) [.Call (.Name "reversed" p2) [a] [] p3] [] pos) (tRev ta):=by
 intro pins s σ H Q I h
 refine wpAny_Call_Name_kw (ld_blt I hg hm (show bootBuiltins "list"=some (.type "list") by decide +kernel) ?_)
 refine PyProof.Rows.callWith_type1 ?_ hs2 rfl
 rw [hs2]
 refine Calls.spliced_cons ?_
 refine wpAny_Call_Name_kw (ld_blt I hg2 hm2 boot_reversed ?_)
 refine PyProof.Rows.callWith_type1 ?_ hs rfl
 rw [hs]
 refine Calls.spliced_cons (thn (ha pins s σ H _ I h) fun u s1 ⟨x,H1,I1,r1,q1⟩=>?_)
 refine Calls.spliced_nil ?_
 obtain ⟨p,xs,rfl,hp,q⟩:=q1
 cases r1
 obtain ⟨z,its,n,hv,hl,e⟩:=I1.lstM hp
 refine Rv.call_rev e ?_
 refine Calls.spliced_nil ?_
 have lp:p < s1.heap.objs.size:=Heap.lt_size e
 have I2:Inv X pins σ H1 { s1 with heap:=s1.heap.push { cls:=.type "list_reverseiterator",data:=.fields #[.ref p,rawInt ((its.toArray.size:Int) - 1)] } }:=I1.kept (t':=s1.toks) fun b o e=>Heap.get?_push_of_some _ e
 refine Rv.call_list (items:=its.toArray) (l:=p) (I2.ok.hd hc) (Heap.get?_push_size _ rfl) ⟨_,Heap.get?_push_of_some _ e,rfl,_,rfl⟩ (Nat.ne_of_lt lp) (by rw [List.size_toArray];omega) fun h' tk acc' c' hk hS' hacc=>?_
 have f:=I1.fpOk (H':=H1) (Nat.le_refl _) (I1.hok.fresh (Nat.le_refl _))
 refine ⟨.ref _,_,I2.turnNew (ch:=[s1.heap.objs.size]) (fun b m=>by rw [List.mem_singleton.mp m];exact f) (fun b o m e=>hk b o (fun z=>m (by rw [z];exact List.mem_singleton.mpr rfl)) e) (Nat.le_refl _) (show ObjOk X.prog X.w _ h' _ (.lst xs.reverse) from ⟨by rw [List.length_reverse];exact z,acc'.toList,c',items_rev hv hacc,by simpa using hS'⟩),rfl,q _ (I2.hok.fresh (Nat.le_refl _))⟩
end
def Itz (K:PySem.W.Frag) (l1 l2:Addr):It:=
  ⟨fun i H=>∃ xs ys x y,SqL K H l1 xs∧SqL K H l2 ys∧xs[i]? = some x∧ys[i]? = some y,
   fun i H v H'=>∃ T a b,H T=none∧v=.ref T∧H'=upd H T (.tup [a,b])∧(∀ xs,SqL K H l1 xs→xs[i]? = some a)∧∀ ys,SqL K H l2 ys→ys[i]? = some b,
   fun i H=>∃ xs ys,SqL K H l1 xs∧SqL K H l2 ys∧(xs.length≤i∨ys.length≤i),false⟩
def ZipSt (z TI TO i1 i2 l1 l2:Addr) (i:Nat) (h:Heap):Prop:=IsZip h z TI TO .none∧IsPair h TI (.ref i1) (.ref i2)∧(∃ a b,IsPair h TO a b)∧h.IsListIter i1 l1 i∧h.IsListIter i2 l2 i
theorem turn_zip {P:Program}{w:World}{K:PySem.W.Frag}{elts:List Expr} {x1}{pos:Pos}{z TI TO i1 i2 l1 l2:Addr} (D:ZipApart z TI TO i1 i2 l1 l2) :
  Turn P w K (.Tuple elts x1 pos) (Itz K l1 l2) [z,TI,TO,i1,i2] z (ZipSt z TI TO i1 i2 l1 l2) where
 mem:=by simp
 obj:=fun i h st b hb=>by
  obtain ⟨s1,s2,⟨a,b',s3⟩,⟨o4,e4,c4,d4⟩,⟨o5,e5,c5,d5⟩⟩:=st
  simp only [List.mem_cons,List.not_mem_nil,or_false] at hb
  rcases hb with rfl | rfl | rfl | rfl | rfl
  ·exact ⟨_,s1,fun v q=>by cases q⟩
  ·exact ⟨_,s2,fun v q=>by cases q⟩
  ·exact ⟨_,s3,fun v q=>by cases q⟩
  ·exact ⟨o4,e4,fun v q=>by rw [d4] at q;cases q⟩
  ·exact ⟨o5,e5,fun v q=>by rw [d5] at q;cases q⟩
 keep:=fun i h h' st k=>by
  obtain ⟨s1,s2,⟨a,b',s3⟩,s4,s5⟩:=st
  exact ⟨k _ (by simp) _ s1,k _ (by simp) _ s2,⟨a,b',k _ (by simp) _ s3⟩,s4.at fun o e=>k _ (by simp) o e,s5.at fun o e=>k _ (by simp) o e⟩
 item:=by
  intro X hP hw hK hc i pins s σ H E I hf st hg
  subst hP hw hK
  obtain ⟨s1,s2,⟨a,b',s3⟩,s4,s5⟩:=st
  obtain ⟨xs,ys,x,y,q1,q2,e1,e2⟩:=hg
  obtain ⟨us,v1,p1,z1⟩:=I.list q1
  obtain ⟨ws,v2,p2,z2⟩:=I.list q2
  obtain ⟨u,hu,ru⟩:=v1.get e1
  obtain ⟨t,ht,rt⟩:=v2.get e2
  refine wpAny_pyNext_zip_item D s1 s2 s3 s4 s5 p1.isList p2.isList (x:=u) (y:=t) (by simpa using hu) (by simpa using ht) fun h' a1 a2 a3 a4 a5 a6 a7=>⟨_,rfl,?_⟩
  refine wpAny_letOwnedTupleGo_zip a1 fun h'' b1 b2=>?_
  have lz:z < s.heap.objs.size:=Heap.lt_size s1
  have nz:s.heap.objs.size≠z:=Nat.ne_of_gt lz
  have T2:IsPair h'' s.heap.objs.size u t:=b2.extBut _ _ nz a5
  have nT:H s.heap.objs.size=none:=I.hok.fresh (Nat.le_refl _)
  have I1:Inv X pins σ (upd H s.heap.objs.size (.tup [x,y])) { s with heap:=h'' }:=I.turnNew (t':=s.toks) (ch:=[z,TO,i1,i2]) (fun b m=>hf b (by
    simp only [List.mem_cons,List.not_mem_nil,or_false] at m ⊢
    rcases m with rfl | rfl | rfl | rfl <;> simp)) (fun b o m e=>by
    simp only [List.mem_cons,List.not_mem_nil,or_false,not_or] at m
    exact b2.extBut _ _ m.1 (a7 b o m.1 m.2.1 m.2.2.1 m.2.2.2 e)) (Nat.le_refl _) (show ObjOk X.prog X.w _ h'' _ (.tup [x,y]) from ⟨show 2≤sizeLine by unfold sizeLine;omega,[u,t],.cons ru (.cons rt .nil),⟨_,T2,rfl,rfl,_,rfl⟩⟩)
  refine ⟨.ref s.heap.objs.size,_,I1,rfl,⟨_,x,y,nT,rfl,rfl,fun xs' h=>by rw [I.list_inj h q1];exact e1,fun ys' h=>by rw [I.list_inj h q2];exact e2⟩,?_,fun b m=>?_⟩
  ·have up:∀ c o,c≠z→h'.get? c=some o→h''.get? c=some o:=fun c o n e=>b2.extBut _ _ n e
   exact ⟨b1,up _ _ D.TIz (a7 TI _ D.TIz D.TITO D.TIi1 D.TIi2 s2),⟨u,t,up _ _ D.TOz a2⟩,a3.at fun o e=>up _ o D.i1z e,a4.at fun o e=>up _ o D.i2z e⟩
  ·rw [upd_ne]
   ·exact (hf b m).1
   ·rintro rfl
    obtain ⟨o4,e4,_⟩:=id s4
    obtain ⟨o5,e5,_⟩:=id s5
    simp only [List.mem_cons,List.not_mem_nil,or_false] at m
    rcases m with m | m | m | m | m
    ·exact nz m
    ·exact absurd (Heap.lt_size s2) (by rw [← m];exact Nat.lt_irrefl _)
    ·exact absurd (Heap.lt_size s3) (by rw [← m];exact Nat.lt_irrefl _)
    ·exact absurd (Heap.lt_size e4) (by rw [← m];exact Nat.lt_irrefl _)
    ·exact absurd (Heap.lt_size e5) (by rw [← m];exact Nat.lt_irrefl _)
 done:=by
  intro X hP hw hK hc i pins s σ H E I hf st hg
  subst hP hw hK
  obtain ⟨s1,s2,⟨a,b',s3⟩,s4,s5⟩:=st
  obtain ⟨xs,ys,q1,q2,e⟩:=hg
  obtain ⟨us,v1,p1,z1⟩:=I.list q1
  obtain ⟨ws,v2,p2,z2⟩:=I.list q2
  have l1:=v1.length
  have l2:=v2.length
  refine wpAny_pyNext_zip_end (I.ok.hd (hc.resolve_right fun z=>Bool.false_ne_true z)) D s1 s2 s3 s4 s5 p1.isList p2.isList (e.imp (fun e=>by simp;omega) fun e=>by simp;omega) fun h' k=>⟨rfl,I.turnL (t':=s.toks) (ch:=[z,TO,i1,i2]) (fun b m=>hf b (by
    simp only [List.mem_cons,List.not_mem_nil,or_false] at m ⊢
    rcases m with rfl | rfl | rfl | rfl <;> simp)) fun b o m e=>?_⟩
  simp only [List.mem_cons,List.not_mem_nil,or_false,not_or] at m
  exact k b o m.1 m.2.1 m.2.2.1 m.2.2.2 e
 self:=fun _ _ _ _ _ st h=>wpAny_pyIter_zip st.1 h
section
variable {X:Cx}{elts:List Expr}{tp:Pos}{a b:Expr}{ta:TA}{p pos:Pos}
def iZip (K:PySem.W.Frag) (ta:TA):TI:=fun σ H R=>ta σ H fun vs H1=>∃ l1 l2 xs ys,vs=[.ref l1,.ref l2]∧SqL K H1 l1 xs∧SqL K H1 l2 ys∧R (Itz K l1 l2) H1
theorem pi_zip {x1} (hg:Gl X "zip") (hm:X.mg "zip"=none) (ha:PA X [a,b] ta) (hs:starEach [a,b] X.env=[(false,eval a X.env),(false,eval b X.env)]:=by rfl) (hs2:starEach [b] X.env=[(false,eval b X.env)]:=by rfl) :
  PI X (.Tuple elts x1 tp) (.Call (.Name "zip" p) [a,b] [] pos) (iZip X.K ta):=by
 intro pins s σ H R I h
 refine wpAny_Call_Name_kw (ld_blt I hg hm boot_zip (PyProof.Rows.callWith_type1 (thn (ha pos pins s σ H _ I h) fun us s1 ⟨vs,H1,I1,r1,q1⟩=>?_) (by rw [hs,hs2]) (by rw [hs2];rfl)))
 obtain ⟨l1,l2,xs,ys,rfl,h1,h2,q⟩:=q1
 obtain ⟨u,v,rfl,ru,rv⟩:=vals2 r1
 cases ru
 cases rv
 obtain ⟨us,v1,p1,z1⟩:=I1.list h1
 obtain ⟨ws,v2,p2,z2⟩:=I1.list h2
 have b1:l1 < s1.heap.objs.size:=let ⟨o,n,e,_⟩:=p1;Heap.lt_size e
 have b2:l2 < s1.heap.objs.size:=let ⟨o,n,e,_⟩:=p2;Heap.lt_size e
 refine call_zip_2 p1.isList p2.isList fun h' g1 g2 g3 g4 g5 g6 k=>?_
 refine wpAny_pyIter_zip g1 ?_
 refine ⟨_,_,_,_,H1,rfl,I1.kept (t':=s1.toks) k,turn_zip (zipApart_new b1 b2),⟨g1,g2,⟨_,_,g3⟩,g4,g5⟩,fun c hc=>?_,q⟩
 have up:∀ j,FpOk X pins H1 (s1.heap.objs.size + j):=fun j=>I1.fpOk (Nat.le_add_right _ _) (I1.hok.fresh (Nat.le_add_right _ _))
 simp only [List.mem_cons,List.not_mem_nil,or_false] at hc
 rcases hc with rfl | rfl | rfl | rfl | rfl
 ·exact up 4
 ·exact up 2
 ·exact up 3
 ·exact up 0
 ·exact up 1
end
end L2
namespace L2.Ev
open PySem PySem.Spec PyProof.Rows
section
variable {X:Cx}{elts:List Expr}{tp:Pos}{a b:Expr}{fa fb:EF}{p pos:Pos}
def iZipF (fa fb:EF):IF:=fun ρ=>match fa ρ,fb ρ with
 | some (.lst ds,t1),some (.lst es,t2)=>if (immAll ds&&immAll es)=true then some ((ds.zip es).map fun p=>.tup [p.1,p.2],joinA [(.lst ds,t1),(.lst es,t2)]) else none
 | _,_=>none
theorem Reps.get0 {K:PySem.W.Frag}{H:Hp}{ds:List D}{vs:List V}{i:Nat}{d:D} (r:Reps K H ds vs []) (e:ds[i]? = some d):∃ v,vs[i]? = some v∧Rep K H d v []:=by
 obtain ⟨v,f,e1,r1,s⟩:=r.get e
 have:f=[]:=List.eq_nil_iff_forall_not_mem.mpr fun a m=>by have:=s a m;cases this
 subst this
 exact ⟨v,e1,r1⟩
theorem itOk_zip {K:PySem.W.Frag}{l1 l2:Addr}{ds es:List D}{f1 f2:List Addr} (c1:immAll ds=true) (c2:immAll es=true) :
  ItOk K (Itz K l1 l2) ((ds.zip es).map fun p=>.tup [p.1,p.2]) [⟨.lst ds,.ref l1,f1⟩,⟨.lst es,.ref l2,f2⟩]:=by
 intro H i hh
 obtain ⟨p1,xs,g1,e1,q1,r1,_⟩:=(hh _ List.mem_cons_self).lst_of
 obtain ⟨p2,ys,g2,e2,q2,r2,_⟩:=(hh _ (List.mem_cons_of_mem _ List.mem_cons_self)).lst_of
 cases e1
 cases e2
 have n1:=r1.imm c1
 have n2:=r2.imm c2
 subst n1 n2
 refine ⟨fun d hd=>?_,fun hl=>?_⟩
 ·rw [List.getElem?_map] at hd
  cases hz:(ds.zip es)[i]? with
  | none=>rw [hz] at hd;cases hd
  | some pr=>
   rw [hz] at hd
   cases hd
   obtain ⟨k1,k2⟩:=List.getElem?_zip_eq_some.mp hz
   obtain ⟨x,hx,rx⟩:=r1.get0 k1
   obtain ⟨y,hy,ry⟩:=r2.get0 k2
   refine ⟨⟨xs,ys,x,y,q1,q2,hx,hy⟩,fun v H1 hv=>?_⟩
   obtain ⟨T,a,b,hT,rfl,rfl,ha,hb⟩:=hv
   have ea:=ha xs q1
   have eb:=hb ys q2
   rw [hx] at ea
   rw [hy] at eb
   cases ea
   cases eb
   have s2:Same H (upd H T (.tup [x,y])):=fun b o e=>by rw [upd_ne (ne_of_none e hT)];exact e
   exact ⟨s2,[],.tup (SqT.of upd_same) (Reps.cons (f1:=[]) (f2:=[]) (rx.same s2) (Reps.cons (f1:=[]) (f2:=[]) (ry.same s2) .nil)),fun a m=>nomatch m⟩
 ·rw [List.length_map,List.length_zip,r1.length,r2.length] at hl
  exact ⟨xs,ys,q1,q2,by omega⟩
theorem fi_zip {x1} (hm:X.mg "zip"=none) (ha:FP X a fa) (hb:FP X b fb) (hg:Gl X "zip":=by rfl) (hs:starEach [a,b] X.env=[(false,eval a X.env),(false,eval b X.env)]:=by rfl) (hs2:starEach [b] X.env=[(false,eval b X.env)]:=by rfl) :
  FI X (.Tuple elts x1 tp) (.Call (.Name "zip" p) [a,b] [] pos) (iZipF fa fb):=by
 obtain ⟨t,pa,hlen,q⟩:=fa_cons ha (fa_cons hb fa_nil hs2) (by rw [hs,hs2])
 refine ⟨_,pi_zip hg hm pa hs hs2,fun H0 S z held ρ σ H R ds tg ok e k=>?_⟩
 unfold iZipF at e
 split at e
 ·rename_i d1 t1 d2 t2 h1 h2
  by_cases hc:(immAll d1&&immAll d2)=true
  ·rw [if_pos hc] at e
   cases e
   obtain ⟨c1,c2⟩:=(Bool.and_eq_true _ _).mp hc
   refine q H0 S z held ρ σ H _ [(.lst d1,t1),(.lst d2,t2)] ok (by unfold aCons aNil;rw [h1,h2]) fun H1 vs fp s1 r g=>?_
   cases r with
   | @cons _ v1 _ _ f1 _ r1 r=>
    cases r with
    | @cons _ v2 _ _ f2 _ r2 r=>
     cases r
     obtain ⟨l1,xs,g1,rfl,q1,_,_⟩:=r1.lst_of
     obtain ⟨l2,ys,g2,rfl,q2,_,_⟩:=r2.lst_of
     refine ⟨l1,l2,xs,ys,rfl,q1,q2,k H1 _ [⟨.lst d1,.ref l1,f1⟩,⟨.lst d2,.ref l2,f2⟩] s1 (fun h m=>?_) (itOk_zip c1 c2)⟩
     have go:=g.over ok
     rcases List.mem_cons.mp m with rfl | m
     ·exact ⟨r1,fun a ma=>go a (List.mem_append_left _ ma)⟩
     ·cases List.mem_singleton.mp m
      exact ⟨r2,fun a ma=>go a (List.mem_append_right _ (List.mem_append_left _ ma))⟩
  ·rw [if_neg hc] at e;cases e
 ·cases e
def oRev:D→Option D
 | .lst ds=>if immAll ds=true then some (.lst ds.reverse) else none
 | _=>none
theorem Reps.rev0 {K:PySem.W.Frag}{H:Hp}:∀ {ds:List D}{xs:List V},Reps K H ds xs []→Reps K H ds.reverse xs.reverse []
 | [],_,r=>by cases r;exact .nil
 | d::ds,xs,r=>by
  generalize hf:([]:List Addr)=fp at r
  cases r with
  | @cons _ _ _ _ f1 f2 r1 r2=>
   obtain ⟨z1,z2⟩:=List.append_eq_nil_iff.mp hf.symm
   subst z1 z2
   rw [List.reverse_cons,List.reverse_cons]
   exact Reps.append (f:=[]) (g:=[]) (Reps.rev0 r2) (Reps.cons (f1:=[]) (f2:=[]) r1 .nil)
theorem fp_rev {p2 p3:Pos} (hc:X.calm=true) (hm:X.mg "list"=none) (hm2:X.mg "reversed"=none) (ha:FP X a fa) (hg:Gl X "list":=by rfl) (hg2:Gl X "reversed":=by rfl) (hs:starEach [a] X.env=[(false,eval a X.env)]:=by rfl)
  (hs2:starEach [.Call (.Name "reversed" p2) [a] [] p3] X.env=[(false,eval (.Call (.Name "reversed" p2) [a] [] p3) X.env)]:=by rfl):FP X (.Call (.Name "list" p) [.Call (.Name "reversed" p2) [a] [] p3] [] pos) (e1 oRev fa):=by
 obtain ⟨t,pa,q⟩:=ha
 refine ⟨_,pe_rev hc hm hm2 pa hg hg2 hs hs2,fun H0 S z held ρ σ H Q d tg ok e k=>?_⟩
 obtain ⟨d1,t1,g1,g2,rfl⟩:=e1_of e
 refine q H0 S z held ρ σ H _ d1 t1 ok g1 fun H1 x f1 s1 r1 _=>?_
 cases r1 with
 | @lst l xs ds f h rs=>
  have g2:(if immAll ds=true then some (D.lst ds.reverse) else none)=some d:=g2
  by_cases hi:immAll ds=true
  ·rw [if_pos hi] at g2
   cases g2
   have hn:=rs.imm hi
   subst hn
   refine ⟨l,xs,rfl,h,fun l' hl=>?_⟩
   have s2:Same H1 (upd H1 l' (.lst xs.reverse)):=fun b o e=>by rw [upd_ne (ne_of_none e hl)];exact e
   refine k _ _ [l'] (s1.trans s2) (.lst upd_same ((Reps.rev0 rs).same s2)) ⟨List.nodup_cons.mpr ⟨(fun m=>by cases m),List.nodup_nil⟩,fun a m=>?_⟩
   cases List.mem_singleton.mp m
   exact s1.free hl
  ·rw [if_neg hi] at g2;cases g2
 | _=>cases g2
end
end L2.Ev
namespace L2
open PySem PySem.Spec PyProof.Rows
section
variable {X:Cx}
theorem vals_bl:∀ {bs:List Bool}{us:List Value},Vals (bs.map V.bl) us→us=bs.map Value.bool
 | [],_,r=>by rw [List.map_nil] at r;cases r;rfl
 | b::bs,_,r=>by
  rw [List.map_cons] at r
  cases r with
  | cons r1 r2=>cases r1;rw [vals_bl r2];rfl
theorem range_all (bs:List Bool):(List.range bs.length).all (fun j=>bs.getD j true)=bs.all id:=by
 induction bs with
 | nil=>rfl
 | cons b r ih=>
  rw [List.length_cons,List.range_succ_eq_map,List.all_cons,List.all_map,List.all_cons,← ih]
  rfl
theorem call_allL (hc:X.calm=true):CallR X (.builtin "all") (fun xs H Q=>∃ (p:Addr) (bs:List Bool),xs=[V.ref p]∧SqL X.K H p (bs.map V.bl)∧Q (.bl (bs.all id)) H):=by
 intro pins s σ H xs us Q I r h
 obtain ⟨p,bs,rfl,hq,q⟩:=h
 obtain ⟨u,rfl,ru⟩:=vals1 r
 cases ru
 obtain ⟨its,v1,pl,hz⟩:=I.list hq
 have ei:=vals_bl v1
 subst ei
 have lp:p < s.heap.objs.size:=let ⟨o,n,e,_⟩:=pl;Heap.lt_size e
 have hh:X.A.in1.handled=none:=I.ok.hd hc
 refine call_all_walk (wpAny_pyIter_list pl.isList ?_)
 refine ⟨s.heap.objs.size,_,_,_,_,_,fun j=>bs.getD j true,rfl,Walks.list hh s.heap.objs.size p (Nat.ne_of_lt lp) (bs.map Value.bool).toArray,⟨⟨_,Heap.get?_push_size _ rfl,rfl,rfl⟩,pl.isList.at fun o e=>Heap.get?_push_of_some _ e⟩,?_,fun h' tk hk=>?_⟩
 ·intro i v s' Q' E' hv hQ
  rw [List.getElem?_toArray,List.getElem?_map] at hv
  cases e:bs[i]? with
  | none=>rw [e] at hv;cases hv
  | some b=>
   rw [e] at hv
   cases hv
   dsimp only at hQ
   rw [List.getD_eq_getElem?_getD,e] at hQ
   exact wpAny_truthy_bool hQ
 ·have f:=I.fpOk (H':=H) (Nat.le_refl s.heap.objs.size) (I.hok.fresh (Nat.le_refl _))
  have I1:Inv X pins σ H { s with heap:=s.heap.push { cls:=.type "list_iterator",data:=.fields #[.ref p,.int 0 0] } }:=I.kept (t':=s.toks) fun b o e=>Heap.get?_push_of_some _ e
  rw [List.size_toArray,List.length_map,range_all]
  exact ⟨.bl _,H,I1.turnL (t':=tk) (ch:=[s.heap.objs.size]) (fun b m=>by rw [List.mem_singleton.mp m];exact f) fun b o m e=>hk b o m e,rfl,q⟩
end
end L2
namespace L2.Ev
open PySem PySem.Spec PyProof.Rows
section
variable {X:Cx}{a b c:Expr}{fa fb:EF}{p pos:Pos}
def boolsD:List D→Option (List Bool)
 | []=>some []
 | .bl b::r=>(boolsD r).map (b::·)
 | _=>none
theorem boolsD_of {K:PySem.W.Frag}{H:Hp}:∀ {ds:List D}{xs:List V}{fp:List Addr}{bs:List Bool},Reps K H ds xs fp→boolsD ds=some bs→xs=bs.map V.bl
 | [],_,_,bs,r,e=>by cases r;cases e;rfl
 | d::ds,_,_,bs,r,e=>by
  cases r with
  | cons h t=>
   cases d <;> try (cases e;done)
   cases h
   unfold boolsD at e
   cases q:boolsD ds with
   | none=>rw [q] at e;cases e
   | some r=>
    rw [q] at e
    cases e
    rw [boolsD_of t q];rfl
def oAll:D→Option D
 | .lst ds=>(boolsD ds).map fun bs=>.bl (bs.all id)
 | _=>none
theorem does_all {K:PySem.W.Frag}:Does1 K (fun xs H Q=>∃ (p:Addr) (bs:List Bool),xs=[V.ref p]∧SqL K H p (bs.map V.bl)∧Q (.bl (bs.all id)) H) oAll:=by
 intro H x d1 f1 d Q r e k
 cases d1 with
 | lst ds=>
  obtain ⟨p,xs,f,rfl,hq,rs,_⟩:=r.lst_of
  have e:(boolsD ds).map (fun bs=>D.bl (bs.all id))=some d:=e
  cases h:boolsD ds with
  | none=>rw [h] at e;cases e
  | some bs=>
   rw [h] at e
   cases e
   have ex:=boolsD_of rs h
   subst ex
   exact ⟨p,bs,rfl,hq,k H _ [] (Same.refl H) (.bl _) List.nodup_nil fun a m=>nomatch m⟩
 | _=>cases e
theorem fp_all (hc:X.calm=true) (hm:X.mg "all"=none) (ha:FP X a fa) (hg:Gl X "all":=by rfl) (hs:starEach [a] X.env=[(false,eval a X.env)]:=by rfl):FP X (.Call (.Name "all" p) [a] [] pos) (e1 oAll fa):=
 fp_1 does_all ha fun ta pa=>pe_callB (call_allL hc) hg hm boot_all (pa_cons pa pa_nil hs) (he:=hs) (hpl:=rfl)
end
abbrev XF:=Rho→Option (D×Rho)
abbrev XTF:=Rho→Option (Bool×Rho)
abbrev XAF:=Rho→Option (List D×Rho)
def Stay (z:Addr→Option Nat) (H H':Hp):Prop:=Imm H H'∧∀ a o,z a=none→H a=some o→H' a=some o
theorem Stay.of {z:Addr→Option Nat}{H H':Hp} (s:Same H H'):Stay z H H':=⟨.of s,fun a o _ e=>s _ _ e⟩
theorem Stay.trans {z:Addr→Option Nat}{H H1 H2:Hp} (a:Stay z H H1) (b:Stay z H1 H2):Stay z H H2:=⟨a.1.trans b.1,fun c o e q=>b.2 c o e (a.2 c o e q)⟩
theorem Rep.stay {K:PySem.W.Frag}{z:Addr→Option Nat}{H H':Hp}{d:D}{v:V} (r:Rep K H d v []) (s:Stay z H H'):Rep K H' d v []:=r.frame (fun a m=>nomatch m) s.1
theorem Reps.stay {K:PySem.W.Frag}{z:Addr→Option Nat}{H H':Hp}{d:List D}{v:List V} (r:Reps K H d v []) (s:Stay z H H'):Reps K H' d v []:=r.frame (fun a m=>nomatch m) s.1
def FX (X:Cx) (e:Expr) (f:XF):Prop:=∃ t,PE X e t∧∀ (H0:Hp) (S:List Addr) (z:Addr→Option Nat) (held:List Held) (ρ:Rho) (σ:St) (H:Hp) (Q:VK) (d:D) (ρ':Rho),
 Ok X.K H0 S z held ρ σ H→f ρ=some (d,ρ')→(∀ H' v,Ok X.K H0 S z held ρ' σ H'→Stay z H H'→Rep X.K H' d v []→Q v H')→t σ H Q
def FXA (X:Cx) (es:List Expr) (f:XAF):Prop:=∃ t,PA X es t∧(∀ ρ ds ρ',f ρ=some (ds,ρ')→ds.length=es.length)∧∀ (H0:Hp) (S:List Addr) (z:Addr→Option Nat) (held:List Held) (ρ:Rho) (σ:St) (H:Hp) (Q:List V→Hp→Prop) (ds:List D) (ρ':Rho),
 Ok X.K H0 S z held ρ σ H→f ρ=some (ds,ρ')→(∀ H' vs,Ok X.K H0 S z held ρ' σ H'→Stay z H H'→Reps X.K H' ds vs []→Q vs H')→t σ H Q
section
variable {X:Cx}{a b c e:Expr}{es:List Expr}{f g:XF}{pos:Pos}
def xP (f:EF):XF:=fun ρ=>match f ρ with
 | some (d,_)=>if imm d=true then some (d,ρ) else none
 | none=>none
theorem fx_fp {f:EF} (h:FP X e f):FX X e (xP f):=by
 obtain ⟨t,p,q⟩:=h
 refine ⟨t,p,fun H0 S z held ρ σ H Q d ρ' ok e k=>?_⟩
 unfold xP at e
 cases h:f ρ with
 | none=>rw [h] at e;cases e
 | some w=>
  obtain ⟨d0,t0⟩:=w
  rw [h] at e
  dsimp only at e
  by_cases hi:imm d0=true
  ·rw [if_pos hi] at e
   cases e
   refine q H0 S z held ρ σ H _ d t0 ok h fun H1 v fp s1 r1 _=>?_
   have hn:=r1.imm hi
   subst hn
   exact k H1 v (ok.same s1) (.of s1) r1
  ·rw [if_neg hi] at e;cases e
def x2 (op:D→D→Option D) (f g:XF):XF:=fun ρ=>match f ρ with
 | some (d1,ρ1)=>match g ρ1 with
  | some (d2,ρ2)=>(op d1 d2).map fun d=>(d,ρ2)
  | none=>none
 | none=>none
theorem x2_of {op:D→D→Option D}{ρ ρ':Rho}{d:D} (e:x2 op f g ρ=some (d,ρ')):∃ d1 ρ1 d2,f ρ=some (d1,ρ1)∧g ρ1=some (d2,ρ')∧op d1 d2=some d:=by
 unfold x2 at e
 cases h1:f ρ with
 | none=>rw [h1] at e;cases e
 | some w=>
  obtain ⟨d1,ρ1⟩:=w
  rw [h1] at e
  dsimp only at e
  cases h2:g ρ1 with
  | none=>rw [h2] at e;cases e
  | some w=>
   obtain ⟨d2,ρ2⟩:=w
   rw [h2] at e
   dsimp only at e
   cases h3:op d1 d2 with
   | none=>rw [h3] at e;cases e
   | some d3=>rw [h3] at e;cases e;exact ⟨d1,ρ1,d2,rfl,h2,h3⟩
theorem fx_bin {op:Operator}{r:R2}{o:D→D→Option D} (ho:OpR X (binaryOp op) r) (dd:Does2 X.K r o) (ha:FX X a f) (hb:FX X b g):FX X (.BinOp a op b pos) (x2 o f g):=by
 obtain ⟨ta,pa,sa⟩:=ha
 obtain ⟨tb,pb,sb⟩:=hb
 refine ⟨_,pe_op ho pa pb,fun H0 S z held ρ σ H Q d ρ' ok e k=>?_⟩
 obtain ⟨d1,ρ1,d2,e1,e2,e3⟩:=x2_of e
 refine sa H0 S z held ρ σ H _ d1 ρ1 ok e1 fun H1 x ok1 s1 r1=>?_
 refine sb H0 S z held ρ1 σ H1 _ d2 ρ' ok1 e2 fun H2 y ok2 s2 r2=>?_
 exact dd H2 x y d1 d2 [] [] d Q (r1.stay s2) r2 e3 fun H3 v s3 r3=>k H3 v (ok2.same s3) ((s1.trans s2).trans (.of s3)) r3
theorem fx_add (ha:FX X a f) (hb:FX X b g):FX X (.BinOp a .Add b pos) (x2 oAdd f g):=fx_bin op_add does_i ha hb
def xV (f:XF):XTF:=fun ρ=>match f ρ with
 | some (.bl b,ρ')=>some (b,ρ')
 | _=>none
def xaNil:XAF:=fun ρ=>some ([],ρ)
def xaCons (f:XF) (g:XAF):XAF:=fun ρ=>match f ρ with
 | some (d,ρ1)=>match g ρ1 with
  | some (ds,ρ2)=>some (d::ds,ρ2)
  | none=>none
 | none=>none
theorem xaCons_of {g:XAF}{ρ ρ':Rho}{ds:List D} (e:xaCons f g ρ=some (ds,ρ')):∃ d ρ1 r,f ρ=some (d,ρ1)∧g ρ1=some (r,ρ')∧ds=d::r:=by
 unfold xaCons at e
 cases h1:f ρ with
 | none=>rw [h1] at e;cases e
 | some w=>
  obtain ⟨d,ρ1⟩:=w
  rw [h1] at e
  dsimp only at e
  cases h2:g ρ1 with
  | none=>rw [h2] at e;cases e
  | some w=>
   obtain ⟨r,ρ2⟩:=w
   rw [h2] at e
   cases e
   exact ⟨d,ρ1,r,rfl,h2,rfl⟩
theorem fxa_nil:FXA X [] xaNil:=⟨_,pa_nil,fun _ _ _ e=>by cases e;rfl,fun _ _ _ _ _ _ H _ _ _ ok e q=>by cases e;exact q H _ ok (.of (Same.refl H)) .nil⟩
theorem fxa_cons {g:XAF} (ha:FX X e f) (hr:FXA X es g) (hs:starEach (e::es) X.env=(false,eval e X.env)::starEach es X.env:=by rfl):FXA X (e::es) (xaCons f g):=by
 obtain ⟨t,p,q⟩:=ha
 obtain ⟨t',p',l',q'⟩:=hr
 refine ⟨_,pa_cons p p' hs,fun ρ ds ρ' e=>by obtain ⟨d,ρ1,r,e1,e2,rfl⟩:=xaCons_of e;rw [List.length_cons,List.length_cons,l' _ _ _ e2],fun H0 S z held ρ σ H Q ds ρ' ok e k=>?_⟩
 obtain ⟨d,ρ1,r,e1,e2,rfl⟩:=xaCons_of e
 refine q H0 S z held ρ σ H _ d ρ1 ok e1 fun H1 v ok1 s1 r1=>?_
 refine q' H0 S z held ρ1 σ H1 _ r ρ' ok1 e2 fun H2 vs ok2 s2 r2=>?_
 exact k H2 (v::vs) ok2 (s1.trans s2) (Reps.cons (f1:=[]) (f2:=[]) (r1.stay s2) r2)
def xIx (g:XAF) (f:XF):XF:=fun ρ=>match g ρ with
 | some (ds,ρ1)=>match f ρ1 with
  | some (.int i,ρ2)=>(atI ds i).map fun d=>(d,ρ2)
  | _=>none
 | none=>none
theorem fx_ix {g:XAF}{p2:Pos} (ha:FXA X es g) (hc:FX X c f) (hl:es.length≤1000:=by decide) (hs:PlainIx c:=by exact fun _ _=>rfl):FX X (.Subscript (.List es p2) c pos) (xIx g f):=by
 obtain ⟨t,p,hg,q⟩:=ha
 obtain ⟨tc,pc,qc⟩:=hc
 refine ⟨_,pe_ix ix_seq (pe_lst p) pc hs,fun H0 S z held ρ σ H Q d ρ' ok e k=>?_⟩
 unfold xIx at e
 cases h1:g ρ with
 | none=>rw [h1] at e;cases e
 | some w=>
  obtain ⟨ds,ρ1⟩:=w
  rw [h1] at e
  dsimp only at e
  cases h2:f ρ1 with
  | none=>rw [h2] at e;cases e
  | some w=>
   obtain ⟨di,ρ2⟩:=w
   rw [h2] at e
   cases di <;> try (cases e;done)
   rename_i i
   dsimp only at e
   cases h3:atI ds i with
   | none=>rw [h3] at e;cases e
   | some d3=>
    rw [h3] at e
    cases e
    refine q H0 S z held ρ σ H _ ds ρ1 ok h1 fun H1 vs ok1 s1 r1=>⟨?_,fun l hl1=>?_⟩
    ·rw [← r1.length,hg ρ ds ρ1 h1]
     exact Nat.le_of_lt (small1000 hl)
    ·have s2:Same H1 (upd H1 l (.lst vs)):=fun b o e=>by rw [upd_ne (ne_of_none e hl1)];exact e
     have zl:z l=none:=by
      cases hz:z l with
      | none=>rfl
      | some j=>obtain ⟨⟨o,w⟩,_⟩:=ok1.zd l j hz;rw [hl1] at w;cases w
     refine qc H0 S z held ρ1 σ _ _ _ ρ' (ok1.same s2) h2 fun H3 y ok3 s3 r3=>?_
     have hl3:H3 l=some (.lst vs):=s3.2 l _ zl upd_same
     cases r3
     unfold atI at h3
     cases hj:ixN ds.length i with
     | none=>rw [hj] at h3;cases h3
     | some j=>
      rw [hj,Option.bind_some] at h3
      have r3:=(r1.same s2).stay s3
      obtain ⟨v,hv,rv⟩:=r3.get0 h3
      refine .inl ⟨l,vs,i,v,rfl,rfl,SqL.of hl3,?_,k H3 v ok3 ((s1.trans (.of s2)).trans s3) rv⟩
      unfold atI
      rw [← r1.length,hj,Option.bind_some];exact hv
def spM (K:PySem.W.Frag) (G:List Int→List D→Option (D×List Int)):Sp:=fun vs H Q _=>∃ a ns ws es d ns',vs=V.ref a::ws∧H a=some (.lst (ns.map V.int))∧Reps K H es ws []∧G ns es=some (d,ns') ∧
 ∀ H' v,(∀ b o,b≠a→H b=some o→H' b=some o)→H' a=some (.lst (ns'.map V.int))→Rep K H' d v []→Q v H'
def xM (i:Nat) (G:List Int→List D→Option (D×List Int)) (g:XAF):XF:=fun ρ=>match ρ[i]?,g ρ with
 | some (some _),some (es,ρ1)=>match ρ1[i]? with
  | some (some (.lst ds,.own))=>match intsD ds with
   | some ns=>(G ns es).map fun w=>(w.1,mutS ρ1 i (.lst (w.2.map D.int)))
   | none=>none
  | _=>none
 | _,_=>none
theorem intsD_imm:∀ {ds:List D}{ns:List Int},intsD ds=some ns→immAll ds=true
 | [],_,_=>rfl
 | d::r,ns,h=>by
  cases d <;> try (cases h;done)
  unfold intsD at h
  cases q:intsD r with
  | none=>rw [q] at h;cases h
  | some m=>unfold immAll;rw [intsD_imm q];rfl
theorem fx_callM (i:Nat) {x xn:Str}{p p1:Pos}{k:Nat}{fa:Addr}{fd:FuncData}{ps:List Str}{G:List Int→List D→Option (D×List Int)}{g:XAF} (GG:FnOk X.prog X.w X.K X.mg X.base CX0 k fa fd ps (spM X.K G)) (hr:Room k X.A) (hm:X.mg x=some (.ref fa)) (hk:PySem.W.keepIn X.K (.ref fa)=true) (hb:Binds X.K fd ps []) (ha:FXA X es g)
  (hN:X.N[i]? = some xn:=by rfl) (hvis:Vis X.env.scope xn:=by first | exact Or.inl rfl | exact Or.inr (Or.inl rfl) | exact Or.inr (Or.inr rfl)) (hd:(xn == ("__debug__":Str))=false:=by decide) (hcd:(xn == ("__classdict__":Str))=false:=by decide)
  (hg:Gl X x:=by rfl) (hdb:(x == ("__debug__":Str))=false:=by decide) (he:starEach (.Name xn p1::es) X.env=(false,eval (.Name xn p1) X.env)::starEach es X.env:=by rfl) (hpl:(backTo pos (starEach es X.env)).any (·.1)=false:=by rfl) :
  FX X (.Call (.Name x p) (.Name xn p1::es) [] pos) (xM i G g):=by
 obtain ⟨t,pa,_,sa⟩:=ha
 refine ⟨_,pe_call GG hr hg hm hk hb .nil pass0 (pa_cons (pe_var (i:=i) hN hvis hd hcd) pa he) hdb he hpl,fun H0 S z held ρ σ H Q d ρ' ok e0 q=>?_⟩
 unfold xM at e0
 split at e0
 ·rename_i w0 eds ρ1 h0 h1
  split at e0
  ·rename_i ds h2
   cases h3:intsD ds with
   | none=>rw [h3] at e0;cases e0
   | some ns=>
    rw [h3] at e0
    dsimp only at e0
    cases h4:G ns eds with
    | none=>rw [h4] at e0;cases e0
    | some w=>
     obtain ⟨d',ns'⟩:=w
     rw [h4] at e0
     cases e0
     obtain ⟨d0,t0⟩:=w0
     obtain ⟨v,fp,hs,_,_⟩:=ok.sl i d0 t0 h0
     refine ⟨v,hs,?_⟩
     refine sa H0 S z held ρ σ H _ eds ρ1 ok h1 fun H1 vs ok1 s1 r1=>?_
     obtain ⟨v',fp',hs',r',zz⟩:=ok1.sl i _ _ h2
     rw [hs] at hs'
     cases hs'
     rw [List.append_nil]
     cases r' with
     | @lst l xs _ f h rs=>
      have ex:=intsD_of rs h3
      subst ex
      have him:f=[]:=by
       have hm:immAll ds=true:=intsD_imm h3
       exact rs.imm hm
      subst him
      refine ⟨l,ns,vs,eds,_,ns',rfl,h,r1,h4,fun H' v kp hl rv=>?_⟩
      have s2:Same (upd H1 l (.lst (ns'.map V.int))) H':=fun b o e=>by
       by_cases hb:b=l
       ·subst hb;rw [upd_same] at e;cases e;exact hl
       ·rw [upd_ne hb] at e;exact kp b o hb e
      have ok2:=Ok.mutate ok1 h2 hs zz List.mem_cons_self h rfl (d1:=.lst (ns'.map D.int)) (o':=.lst (ns'.map V.int)) (.lst upd_same (reps_ints ns'))
      refine q H' v (ok2.same s2) (s1.trans ⟨(Imm.upd h rfl).trans (.of s2),fun b o zb e=>?_⟩) rv
      exact kp b o (fun hb=>by subst hb;rw [zz.2 _ List.mem_cons_self] at zb;cases zb) e
  ·cases e0
 ·cases e0
def sSetX (i:Nat) (f:XF):SF:=fun ρ=>match f ρ with
 | some (d,ρ')=>some (.nx (setS ρ' i d .own))
 | none=>none
theorem fs_setX (i:Nat) {x:Str}{pos':Pos} (he:FX X e f) (hN:X.N.Nodup) (hi:X.N[i]? = some x:=by rfl) (hx:Loc X.env.scope x:=by first | exact Or.inl rfl | exact Or.inr rfl)
  (hs:swapsWith e (some (.Name x pos')) pos.line X.env=pure false:=by rfl) (hf:X.fn x=true∨X.env.scope.names.lookup x=some .local:=by first | exact .inl rfl | exact .inr rfl) (hself:kpt X x=false:=by rfl):FS1 X (.Assign [.Name x pos'] e pos) (sSetX i f):=by
 obtain ⟨t,p,q⟩:=he
 refine ⟨_,ps_set (i:=i) hN hi hx p hs hf,fun H0 S z held ρ σ H E o ok e k=>?_⟩
 unfold sSetX at e
 cases h:f ρ with
 | none=>rw [h] at e;cases e
 | some w=>
  obtain ⟨d,ρ1⟩:=w
  rw [h] at e
  cases e
  refine q H0 S z held ρ σ H _ d ρ1 ok h fun H1 v ok1 s1 r1=>?_
  exact ok1.stored (t:=.own) (Same.refl H1) r1 .nil fun z' ok'=>k z' _ H1 ok' (.set hi hself)
def takeG:List Int→List D→Option (D×List Int)
 | ns,[.int m]=>if ns=[] then some (.int 0,[]) else if 0 < m then some (.int (ns.getLastD 0 % m),ns.dropLast) else none
 | _,_=>none
end
theorem take_len {K:PySem.W.Frag}{vs:List V}{H:Hp}{Q:VK}{E:XK} (h:spM K takeG vs H Q E):vs.length=2:=by
 obtain ⟨a,ns,ws,es,d,ns',rfl,h1,h2,h3,_⟩:=h
 rw [List.length_cons,← h2.length]
 cases es with
 | nil=>cases h3
 | cons e es=>
  cases es with
  | nil=>rfl
  | cons e' es=>cases e <;> cases h3
theorem take_ok {X:Cx}{c z e:Expr}{p1 p2 p3:Pos}{N:List Str}{vs:List V}{H:Hp}{Q:VK}{E:XK} (hN:N.length=2) (hc:FT X c (tV (e2 oEq (e1 oLen (eVar 0)) (eC (.int 0))))) (hz:PE X z (tC (.int 0)))
  (hp:PE X e (tOp (rI (fun _ j=>0 < j) fun i j=>.int (i % j)) (tBM0 X.K "list" rPop (tVar 0)) (tVar 1))) (h:spM X.K takeG vs H Q E) :
  ∃ t,PSs X [.If c [.Return (some z) p1] [] p2,.Return (some e) p3] t∧t { nx:=fun _ H'=>Q .non H',rt:=Q } (start N vs) H:=by
 have hl:=take_len h
 obtain ⟨a,ns,ws,es,d,ns',rfl,h1,h2,h3,q⟩:=h
 obtain ⟨tt,pt,qt⟩:=hc
 refine ⟨_,pss_cons (ps_if pt (pss_one (ps_ret hz)) pss_nil) (pss_one (ps_ret hp)),?_⟩
 generalize hf:([]:List Addr)=fp at h2
 cases h2 with
 | nil=>cases h3
 | @cons d0 v0 ds0 vs0 f1 f2 r1 r2=>
  obtain ⟨z1,z2⟩:=List.append_eq_nil_iff.mp hf.symm
  subst z1 z2
  have hv:vs0=[]:=List.eq_nil_of_length_eq_zero (by simpa using hl)
  subst hv
  cases r2
  cases r1 <;> try (cases h3;done)
  rename_i m
  have st:start N [V.ref a,V.int m]=[some (.ref a),some (.int m)]:=by unfold start;rw [hN];rfl
  rw [st]
  have ok:Ok X.K H [] (fun _=>none) [] [some (.lst (ns.map D.int),.sh []),some (.int m,.sh [])] [some (.ref a),some (.int m)] H:=by
   refine ⟨fun i d t e=>?_,(fun p m=>nomatch m),(fun a j e=>nomatch e),(fun a o e _=>e),rfl⟩
   match i,e with
   | 0,e=>cases e;exact ⟨_,_,rfl,.lst h1 (reps_ints ns),fun b _ j e=>nomatch e⟩
   | 1,e=>cases e;exact ⟨_,_,rfl,.int m,fun b m=>nomatch m⟩
  by_cases hn:ns=[]
  ·subst hn
   have h3:some (D.int 0,([]:List Int))=some (d,ns'):=h3
   cases h3
   refine qt H [] (fun _=>none) [] _ _ H _ true ok rfl fun H1 s1=>?_
   rw [if_pos rfl]
   exact q H1 _ (fun b o _ e=>s1 _ _ e) (s1 _ _ h1) (.int 0)
  ·have h3:(if ns=[] then some (D.int 0,([]:List Int)) else if 0 < m then some (D.int (ns.getLastD 0 % m),ns.dropLast) else none)=some (d,ns'):=h3
   rw [if_neg hn] at h3
   by_cases hm:0 < m
   ·rw [if_pos hm] at h3
    cases h3
    have hb:tV (e2 oEq (e1 oLen (eVar 0)) (eC (.int 0))) [some (.lst (ns.map D.int),.sh []),some (.int m,.sh [])]=some false:=by
     show some ((((ns.map D.int).length:Int)) == 0)=some false
     have:((ns.map D.int).length:Int)≠0:=by
      rw [List.length_map]
      intro z
      exact hn (List.eq_nil_of_length_eq_zero (by omega))
     rw [beq_eq_false_iff_ne.mpr this]
    refine qt H [] (fun _=>none) [] _ _ H _ false ok hb fun H1 s1=>?_
    rw [if_neg Bool.false_ne_true]
    have g1:=s1 _ _ h1
    have hlen:0 < ns.length:=List.length_pos_iff.mpr hn
    have hy:(ns.map V.int)[(ns.map V.int).length - 1]? = some (.int (ns.getLastD 0)):=by
     rw [List.length_map,List.getElem?_map,List.getElem?_eq_getElem (by omega),List.getLastD_eq_getLast?,List.getLast?_eq_getElem?,List.getElem?_eq_getElem (by omega)]
     rfl
    refine ⟨.ref a,rfl,.inl ⟨rfl,_,SqL.of g1⟩,a,_,_,rfl,rfl,g1,hy,.int m,rfl,ns.getLastD 0,m,rfl,rfl,hm,?_⟩
    refine q _ _ (fun b o hb e=>by rw [upd_ne hb];exact s1 _ _ e) ?_ (.int _)
    rw [upd_same,List.map_dropLast]
   ·rw [if_neg hm] at h3;cases h3
theorem fn_none {P:Program}{w:World}{K:PySem.W.Frag}{mg:Str→Option Value}{base:Heap}{x qual:Str}{st:Stmt}{f:Addr}{fd:FuncData}{N ps:List Str}{k:Nat} (F:Fun K x qual st f fd) (S:FnScope N ps (defScope st)) :
  FnOk P w K mg base CX0 (k + 1) f fd ps (spF K fun _=>none):=F.ok S (fun vs H Q E ⟨_,_,_,_,e,_⟩=>nomatch e) fun cdv A outer s H vs Q E hr ⟨_,_,_,_,e,_⟩=>nomatch e
section
variable {X:Cx}{a b:Expr}{fa fb:EF}{pos:Pos}
theorem fp_lt (ha:FP X a fa) (hb:FP X b fb):FP X (.Compare a [.Lt] [b] pos) (e2 oLt fa fb):=fp_cmp op_lt does_iB ha hb (nomark _)
theorem fp_le (ha:FP X a fa) (hb:FP X b fb):FP X (.Compare a [.LtE] [b] pos) (e2 oLe fa fb):=fp_cmp op_le does_iB ha hb (nomark _)
theorem fp_isN (ha:FP X a fa) (hb:FP X b fb):FP X (.Compare a [.Is] [b] pos) (e2 oIsN fa fb):=fp_cmp op_isN does_isN ha hb (nomark _)
end
end L2.Ev
namespace L2.Ev
open PySem
theorem take_at (ls:List Int) {m:Int} (hm:0 < m):∃ v ls',0≤v∧v < m∧takeG ls [.int m]=some (.int v,ls'):=by
 by_cases h:ls=[]
 ·subst h
  exact ⟨0,[],Int.le_refl _,hm,rfl⟩
 ·refine ⟨ls.getLastD 0 % m,ls.dropLast,Int.emod_nonneg _ (by omega),Int.emod_lt_of_pos _ hm,?_⟩
  show (if ls=[] then _ else if 0 < m then _ else none)=_
  rw [if_neg h,if_pos hm]
theorem xm_at {i:Nat}{g:XAF}{ρ ρ1:Rho}{w:D×Tag}{ls ls':List Int}{es:List D}{d:D}{G:List Int→List D→Option (D×List Int)} (h0:ρ[i]? = some (some w)) (hg:g ρ=some (es,ρ1)) (h1:ρ1[i]? = some (some (.lst (ls.map D.int),.own))) (h:G ls es=some (d,ls')) :
  xM i G g ρ=some (d,mutS ρ1 i (.lst (ls'.map D.int))):=by
 unfold xM
 rw [h0,hg]
 dsimp only
 rw [h1]
 dsimp only
 rw [intsD_map]
 dsimp only
 rw [h];rfl
theorem s_xP {f:EF}{ρ:Rho}{d:D}{t:Tag} (h:f ρ=some (d,t)) (hi:imm d=true):xP f ρ=some (d,ρ):=by unfold xP;rw [h];dsimp only;rw [if_pos hi]
theorem s_x2 {op:D→D→Option D}{f g:XF}{ρ ρ1 ρ2:Rho}{d1 d2 d:D} (h1:f ρ=some (d1,ρ1)) (h2:g ρ1=some (d2,ρ2)) (h:op d1 d2=some d):x2 op f g ρ=some (d,ρ2):=by unfold x2;rw [h1];dsimp only;rw [h2];dsimp only;rw [h];rfl
theorem s_xa0 {ρ:Rho}:xaNil ρ=some ([],ρ):=rfl
theorem s_xa {f:XF}{g:XAF}{ρ ρ1 ρ2:Rho}{d:D}{ds:List D} (h1:f ρ=some (d,ρ1)) (h2:g ρ1=some (ds,ρ2)):xaCons f g ρ=some (d::ds,ρ2):=by unfold xaCons;rw [h1];dsimp only;rw [h2]
theorem s_xIx {g:XAF}{f:XF}{ρ ρ1 ρ2:Rho}{ds:List D}{i:Int}{d:D} (h1:g ρ=some (ds,ρ1)) (h2:f ρ1=some (.int i,ρ2)) (h:atI ds i=some d):xIx g f ρ=some (d,ρ2):=by unfold xIx;rw [h1];dsimp only;rw [h2];dsimp only;rw [h];rfl
theorem s_setX {i:Nat}{f:XF}{ρ ρ1:Rho}{d:D} (h:f ρ=some (d,ρ1)):sSetX i f ρ=some (.nx (ρ1.set i (some (d,.own)))):=by unfold sSetX;rw [h];rfl
theorem imm_ints:∀ ns:List Int,immAll (ns.map D.int)=true
 | []=>rfl
 | n::r=>by rw [List.map_cons];unfold immAll;rw [imm_ints r];rfl
theorem cut200 {ns:List Int} (h:ns.length≤63):oCut none (some 200) (dI ns)=some (.lst (ns.map D.int)):=by
 show (if immAll (ns.map D.int)=true then some (D.lst (cutD (ns.map D.int) none (some 200))) else none)=_
 rw [if_pos (imm_ints ns)]
 have:cutD (ns.map D.int) none (some 200)=ns.map D.int:=by
  unfold cutD
  have e:HT.sIx (ns.map D.int).length (ns.map D.int).length (some 200)=(ns.map D.int).length:=by
   have q:=HT.sIx_nat (ns.map D.int).length (ns.map D.int).length 200
   rw [show ((200:Nat):Int)=200 from rfl] at q
   rw [q,List.length_map];omega
  rw [HT.sIx_none,e,List.drop_zero,Nat.sub_zero,List.take_length]
 rw [this]
open PySem PySem.Spec PyProof.Rows
theorem Ok.put {K:PySem.W.Frag}{H0:Hp}{S:List Addr}{z:Addr→Option Nat}{held:List Held}{ρ:Rho}{σ:St}{H H':Hp}{i:Nat}{d0 d1:D}{v:V}{fp0 fp1:List Addr} (ok:Ok K H0 S z held ρ σ H) (h:ρ[i]? = some (some (d0,.own)))
  (hs:σ[i]? = some (some v)) (zz:InZ z i .own fp0) (im:Imm H H') (keep:∀ b o,b∉fp0→H b=some o→H' b=some o) (r1:Rep K H' d1 v fp1) (nd:fp1.Nodup) (fr:∀ b∈fp1,b∈fp0∨H b=none):∃ z',Ok K H0 S z' held (mutS ρ i d1) σ H':=by
 classical
 have hiρ:i < ρ.length:=(List.getElem?_eq_some_iff.mp h).1
 have inz:∀ {a:Addr},a∈fp0→z a=some i:=fun {a} m=>zz.2 a m
 have old:∀ {a:Addr}{o:HO},a∉fp0→H a=some o→(if a∈fp1 then some i else if z a=some i then none else z a)=(if z a=some i then none else z a):=fun {a o} n e=>by
  rw [if_neg fun m=>?_]
  rcases fr a m with q | q
  ·exact n q
  ·rw [e] at q;cases q
 have dr:∀ {j:Nat}{d:D}{t:Tag},j≠i→(mutS ρ i d1)[j]? = some (some (d,t))→ρ[j]? = some (some (d,t))∧∀ o,t=.sh o→i∉o:=fun {j d t} hj e=>by
  unfold mutS at e
  rw [List.getElem?_set_ne (Ne.symm hj),List.getElem?_map] at e
  cases e0:ρ[j]? with
  | none=>rw [e0] at e;cases e
  | some s=>
   rw [e0] at e
   have e:dropT i s=some (d,t):=Option.some.inj e
   cases s with
   | none=>cases e
   | some w=>
    obtain ⟨d',t'⟩:=w
    cases t' with
    | sh o=>
     have e:(if o.contains i=true then none else some (d',Tag.sh o))=some (d,t):=e
     by_cases hc:o.contains i=true
     ·rw [if_pos hc] at e;cases e
     ·rw [if_neg hc] at e
      cases e
      exact ⟨rfl,fun o' eo m=>by cases eo;exact hc (List.contains_iff_mem.mpr m)⟩
    | own=>cases e;exact ⟨rfl,fun o eo=>by cases eo⟩
    | lk=>cases e;exact ⟨rfl,fun o eo=>by cases eo⟩
 refine ⟨fun a=>if a∈fp1 then some i else if z a=some i then none else z a,fun j d t e=>?_,fun q m=>?_,fun a j e=>?_,fun a u e n=>?_,?_⟩
 ·by_cases hj:j=i
  ·subst hj
   unfold mutS at e
   rw [List.getElem?_set_self (by rw [List.length_map];exact hiρ)] at e
   cases e
   exact ⟨v,fp1,hs,r1,nd,fun a m=>if_pos m⟩
  ·obtain ⟨e0,nd'⟩:=dr hj e
   obtain ⟨v',fp',hs',r',z'⟩:=ok.sl j d t e0
   have nz:∀ a∈fp',z a≠some i:=fun a m q=>by
    cases t with
    | sh o=>exact nd' o rfl (z' a m i q)
    | own=>have:=z'.2 a m;rw [q] at this;exact hj (Option.some.inj this).symm
    | lk=>have:=z'.2 a m;rw [q] at this;exact hj (Option.some.inj this).symm
   have n0:∀ a∈fp',a∉fp0:=fun a m q=>nz a m (inz q)
   refine ⟨v',fp',hs',r'.frame (fun a m=>?_) im,?_⟩
   ·obtain ⟨o,w,_⟩:=r'.dom a m
    rw [keep a o (n0 a m) w,w]
   ·have at_:∀ a∈fp',(if a∈fp1 then some i else if z a=some i then none else z a)=z a:=fun a m=>by
     obtain ⟨o,w,_⟩:=r'.dom a m
     rw [old (n0 a m) w,if_neg (nz a m)]
    cases t with
    | sh o=>exact fun a m k q=>z' a m k (by rw [← at_ a m];exact q)
    | own=>exact ⟨z'.1,fun a m=>(at_ a m).trans (z'.2 a m)⟩
    | lk=>exact ⟨z'.1,fun a m=>(at_ a m).trans (z'.2 a m)⟩
 ·obtain ⟨r,hz⟩:=ok.hl q m
  have nz:∀ a∈q.fp,z a≠some i:=fun a m e=>(hz a m i e).2 d0 h
  have n0:∀ a∈q.fp,a∉fp0:=fun a m e=>nz a m (inz e)
  refine ⟨r.frame (fun a m=>?_) im,fun a ha j e=>?_⟩
  ·obtain ⟨o,w,_⟩:=r.dom a m
   rw [keep a o (n0 a m) w,w]
  ·obtain ⟨o,w,_⟩:=r.dom a ha
   rw [old (n0 a ha) w,if_neg (nz a ha)] at e
   obtain ⟨h1,h2⟩:=hz a ha j e
   have hj:j≠i:=fun q=>nz a ha (by rw [← q];exact e)
   exact ⟨h1,fun d e=>h2 d (dr hj e).1⟩
 ·by_cases m:a∈fp1
  ·obtain ⟨o,w,_⟩:=r1.dom a m
   refine ⟨⟨o,w⟩,?_⟩
   rcases fr a m with q | q
   ·exact (ok.zd a i (inz q)).2
   ·cases h0:H0 a with
    | none=>exact .inl rfl
    | some o=>
     by_cases hs:a∈S
     ·exact .inr hs
     ·have w:=ok.en a o h0 hs
      rw [q] at w;cases w
  ·rw [if_neg m] at e
   by_cases q:z a=some i
   ·rw [if_pos q] at e;cases e
   ·rw [if_neg q] at e
    obtain ⟨⟨o,w⟩,y⟩:=ok.zd a j e
    exact ⟨⟨o,keep a o (fun m=>q (inz m)) w⟩,y⟩
 ·have w:=ok.en a u e n
  refine keep a u (fun m=>?_) w
  rcases (ok.zd a i (inz m)).2 with q | q
  ·rw [e] at q;cases q
  ·exact n q
 ·unfold mutS
  rw [List.length_set,List.length_map]
  exact ok.ln
theorem Reps.look {K:PySem.W.Frag}{H:Hp}:∀ {es:List (Str×D)}{fs:List (Str×V)}{fp:List Addr}{f:Str}{d:D},es.map (·.1)=fs.map (·.1)→Reps K H (es.map (·.2)) (fs.map (·.2)) fp→es.lookup f=some d→∃ v g,fs.lookup f=some v∧Rep K H d v g∧∀ a∈g,a∈fp
 | [],[],_,_,_,_,_,e=>by cases e
 | [],_::_,_,_,_,k,_,_=>by simp at k
 | _::_,[],_,_,_,k,_,_=>by simp at k
 | (x,d0)::es,(y,v0)::fs,fp,f,d,k,r,e=>by
  simp only [List.map_cons,List.cons.injEq] at k
  obtain ⟨rfl,k⟩:=k
  cases r with
  | cons r1 r2=>
   by_cases hx:(f == x)=true
   ·simp only [List.lookup,hx] at e ⊢
    cases e
    exact ⟨v0,_,rfl,r1,fun a m=>List.mem_append_left _ m⟩
   ·have hx:(f == x)=false:=by simpa using hx
    simp only [List.lookup,hx] at e ⊢
    obtain ⟨v,g,h1,h2,h3⟩:=Reps.look (f:=f) (d:=d) k r2 e
    exact ⟨v,g,h1,h2,fun a m=>List.mem_append_right _ (h3 a m)⟩
theorem look_none:∀ {es:List (Str×D)}{fs:List (Str×V)}{f:Str},es.map (·.1)=fs.map (·.1)→es.lookup f=none→fs.lookup f=none
 | [],[],_,_,_=>rfl
 | [],_::_,_,k,_=>by simp at k
 | _::_,[],_,k,_=>by simp at k
 | (x,d0)::es,(y,v0)::fs,f,k,e=>by
  simp only [List.map_cons,List.cons.injEq] at k
  obtain ⟨rfl,k⟩:=k
  by_cases hx:(f == x)=true
  ·simp only [List.lookup,hx] at e;cases e
  ·have hx:(f == x)=false:=by simpa using hx
   simp only [List.lookup,hx] at e ⊢
   exact look_none k e
structure ClsAt (K:PySem.W.Frag) (cn:Str) (C:Addr):Prop where
 ns:PySem.W.nsIn K mainGlobals cn=some (some (.ref C))
 cl:Cls K C
theorem Rep.ins_of {K:PySem.W.Frag}{H:Hp}{cn:Str}{es:List (Str×D)}{v:V}{fp:List Addr}{C:Addr} (r:Rep K H (.ins cn es) v fp) (hn:PySem.W.nsIn K mainGlobals cn=some (some (.ref C))) :
  ∃ a dx fs g,v=.ref a∧fp=a::dx::g∧H a=some (.ins C dx fs)∧H dx=some (.own a)∧es.map (·.1)=fs.map (·.1)∧Reps K H (es.map (·.2)) (fs.map (·.2)) g:=by
 cases r with
 | @ins _ a C' dx fs _ g h0 h1 h2 h3 h4=>
  rw [hn] at h0
  cases h0
  exact ⟨a,dx,fs,g,rfl,rfl,h1,h2,h3,h4⟩
def eFld (cn f:Str) (fa:EF):EF:=fun ρ=>match fa ρ with
 | some (.ins c es,t)=>if c=cn then (es.lookup f).map fun d=>(d,itag t) else none
 | _=>none
section
variable {X:Cx}{a:Expr}{fa:EF}{pos:Pos}
theorem TagOk.sub {z:Addr→Option Nat}{H:Hp}{t:Tag}{f g:List Addr} (hz:∀ a j,z a=some j→∃ o,H a=some o) (h:TagOk z H t f) (s:∀ a∈g,a∈f):TagOk z H (itag t) g:=by
 cases t with
 | sh o=>exact fun a m j q=>h a (s a m) j q
 | own=>exact fun a m j q=>by obtain ⟨o,w⟩:=hz a j q;rw [h.2 a (s a m)] at w;cases w
 | lk=>exact fun a m j q=>by obtain ⟨o,w⟩:=hz a j q;rw [h.2 a (s a m)] at w;cases w
theorem fp_fld {cn f:Str}{C:Addr} (hC:ClsAt X.K cn C) (na:NoAttr X.K C f) (ha:FP X a fa) (hb:attributeBase a f X.env (eval a X.env)=eval a X.env:=by rfl):FP X (.Attribute a f pos) (eFld cn f fa):=by
 obtain ⟨t,p,q⟩:=ha
 refine ⟨_,pe_fld p hb,fun H0 S z held ρ σ H Q d tg ok e k=>?_⟩
 unfold eFld at e
 cases h:fa ρ with
 | none=>rw [h] at e;cases e
 | some w=>
  obtain ⟨d0,t0⟩:=w
  rw [h] at e
  cases d0 <;> try (cases e;done)
  rename_i c es
  dsimp only at e
  by_cases hc:c=cn
  ·subst hc
   rw [if_pos rfl] at e
   cases hl:es.lookup f with
   | none=>rw [hl] at e;cases e
   | some d1=>
    rw [hl] at e
    cases e
    refine q H0 S z held ρ σ H _ _ t0 ok h fun H1 v fp s1 r1 g1=>?_
    obtain ⟨b,dx,fs,g,rfl,rfl,h1,h2,h3,h4⟩:=r1.ins_of hC.ns
    obtain ⟨u,gf,h5,h6,h7⟩:=Reps.look h3 h4 hl
    exact ⟨b,C,dx,fs,u,rfl,h1,hC.cl,na,h5,k H1 u gf s1 h6 (TagOk.sub (fun a j e=>(ok.zd a j e).1) g1 fun a m=>List.mem_cons_of_mem _ (List.mem_cons_of_mem _ (h7 a m)))⟩
  ·rw [if_neg hc] at e;cases e
end
def eMeth (cn m:Str) (F:List D→Option D) (fo:EF) (g:AF):EF:=fun ρ=>match fo ρ with
 | some (.ins c es,_)=>if c=cn∧es.lookup m=none then (g ρ).bind fun ps=>(F (.ins c es::ps.map (·.1))).map fun d=>(d,.own) else none
 | _=>none
section
variable {X:Cx}{o e:Expr}{es:List Expr}{fo:EF}{g:AF}{m cn:Str}{apos pos:Pos}{k:Nat}{C f:Addr}{fd:FuncData}{ps:List Str}{F:List D→Option D}{pl:Sem Bool}
theorem meth_read {t:TE}{ta:TA} (hC:ClsAt X.K cn C) (q:∀ (H0:Hp) (S:List Addr) (z:Addr→Option Nat) (held:List Held) (ρ:Rho) (σ:St) (H:Hp) (Q:VK) (d:D) (tg:Tag),Ok X.K H0 S z held ρ σ H→fo ρ=some (d,tg)→(∀ H' v fp,Same H H'→Rep X.K H' d v fp→TagOk z H tg fp→Q v H')→t σ H Q)
  (qa:∀ (H0:Hp) (S:List Addr) (z:Addr→Option Nat) (held:List Held) (ρ:Rho) (σ:St) (H:Hp) (Q:List V→Hp→Prop) (ps:List (D×Tag)),Ok X.K H0 S z held ρ σ H→g ρ=some ps→(∀ H' vs fp,Same H H'→Reps X.K H' (ps.map (·.1)) vs fp→TagOk z H (joinA ps) fp→Q vs H')→ta σ H Q)
  {H0:Hp}{S:List Addr}{z:Addr→Option Nat}{held:List Held}{ρ:Rho}{σ:St}{H:Hp}{Q:VK}{d:D}{tg:Tag} (ok:Ok X.K H0 S z held ρ σ H) (e0:eMeth cn m F fo g ρ=some (d,tg)) (kk:∀ H' v fp,Same H H'→Rep X.K H' d v fp→TagOk z H tg fp→Q v H') :
  tMeth C m (spF X.K F) [] E0 t ta σ H Q:=by
 unfold eMeth at e0
 cases h:fo ρ with
 | none=>rw [h] at e0;cases e0
 | some w=>
  obtain ⟨d0,t0⟩:=w
  rw [h] at e0
  cases d0 <;> try (cases e0;done)
  rename_i c fs0
  dsimp only at e0
  by_cases hc:c=cn∧fs0.lookup m=none
  ·rw [if_pos hc] at e0
   obtain ⟨rfl,hm⟩:=hc
   cases h2:g ρ with
   | none=>rw [h2] at e0;cases e0
   | some qs=>
    rw [h2,Option.bind_some] at e0
    cases h3:F (.ins c fs0::qs.map (·.1)) with
    | none=>rw [h3] at e0;cases e0
    | some d1=>
     rw [h3] at e0
     cases e0
     refine q H0 S z held ρ σ H _ _ t0 ok h fun H1 v fp s1 r1 g1=>?_
     obtain ⟨b,dx,fs,gf,rfl,rfl,h4,h5,h6,h7⟩:=r1.ins_of hC.ns
     refine ⟨b,dx,fs,rfl,h4,look_none h6 hm,?_⟩
     refine qa H0 S z held ρ σ H1 _ qs (ok.same s1) h2 fun H2 vs fp2 s2 r2 _=>?_
     rw [List.append_nil]
     exact ⟨_,_,d,.cons (r1.same s2) r2,h3,fun H3 u fp' s3 r3 nd fr=>kk H3 u fp' ((s1.trans s2).trans s3) r3 ⟨nd,fun a m=>s1.free (s2.free (fr a m))⟩⟩
  ·rw [if_neg hc] at e0;cases e0
theorem fp_meth (hC:ClsAt X.K cn C) (hm:Meth X.K C m f) (G:FnOk X.prog X.w X.K X.mg X.base CX0 k f fd ps (spF X.K F)) (hr:Room k X.A) (hb:Binds X.K fd ps []) (ho:FP X o fo) (ha:FA X (e::es) g)
  (hst:starEach (e::es) X.env=(false,eval e X.env)::starEach es X.env:=by rfl) (hpl:(backTo pos (starEach es X.env)).any (·.1)=false:=by rfl)
  (ht:eval (.Call (.Attribute o m apos) (e::es) [] pos) X.env=(do
   let ov ← eval o X.env
   standAt apos.atName
   let (f,first) ← holding [ov] (getMethod ov m pl)
   callWith pos f first (backTo pos (starEach (e::es) X.env)) (backToKw pos (keywordEach [] X.env))):=by rfl):FP X (.Call (.Attribute o m apos) (e::es) [] pos) (eMeth cn m F fo g):=by
 obtain ⟨t,p,q⟩:=ho
 obtain ⟨ta,pa,_,qa⟩:=ha
 exact ⟨_,pe_meth (pl:=pl) p hC.cl hm G hr hb .nil pass0 pa hst hpl ht,fun H0 S z held ρ σ H Q d tg ok e0 kk=>meth_read hC q qa ok e0 kk⟩
theorem fp_meth0 (hC:ClsAt X.K cn C) (hm:Meth X.K C m f) (G:FnOk X.prog X.w X.K X.mg X.base CX0 k f fd ps (spF X.K F)) (hr:Room k X.A) (hb:Binds X.K fd ps []) (ho:FP X o fo)
  (ht:eval (.Call (.Attribute o m apos) [] [] pos) X.env=(do
   let ov ← eval o X.env
   standAt apos.atName
   let (f,first) ← holding [ov] (getMethod ov m pl)
   callWith pos f first (backTo pos (starEach [] X.env)) (backToKw pos (keywordEach [] X.env))):=by rfl):FP X (.Call (.Attribute o m apos) [] [] pos) (eMeth cn m F fo aNil):=by
 obtain ⟨t,p,q⟩:=ho
 obtain ⟨ta,pa,_,qa⟩:=fa_nil (X:=X)
 refine ⟨_,pe_meth0 (pl:=pl) p hC.cl hm G hr hb .nil pass0 ht,fun H0 S z held ρ σ H Q d tg ok e0 kk=>meth_read (ta:=tNil) (g:=aNil) hC q (fun _ _ _ _ _ _ H _ _ _ e q=>by cases e;exact q H _ _ (Same.refl H) .nil .nil) ok e0 kk⟩
end
abbrev MF:=D→List D→Option (D×D)
def spO (K:PySem.W.Frag) (G:MF):Sp:=fun vs H Q _=>∃ a ws d0 fp0 ds fps r d1,vs=V.ref a::ws∧Rep K H d0 (.ref a) fp0∧fp0.Nodup∧Reps K H ds ws fps∧(∀ b∈fps,b∉fp0)∧G d0 ds=some (r,d1) ∧
 ∀ H' v fp1,Imm H H'→(∀ b o,b∉fp0→H b=some o→H' b=some o)→Rep K H' d1 (.ref a) fp1→fp1.Nodup→(∀ b∈fp1,b∈fp0∨H b=none)→Rep K H' r v []→Q v H'
def apart (i:Nat) (ps:List (D×Tag)):Bool:=match joinA ps with
 | .sh o=>!o.contains i
 | _=>true
theorem apart_of {K:PySem.W.Frag}{H0:Hp}{S:List Addr}{z:Addr→Option Nat}{held:List Held}{ρ:Rho}{σ:St}{H:Hp}{i:Nat}{ps:List (D×Tag)}{fp fp0:List Addr} (ok:Ok K H0 S z held ρ σ H) (h:apart i ps=true) (g:TagOk z H (joinA ps) fp) (zz:InZ z i .own fp0):∀ b∈fp,b∉fp0:=by
 intro b m n
 unfold apart at h
 have zb:=zz.2 b n
 cases ht:joinA ps with
 | sh o=>
  rw [ht] at h g
  have:=g b m i zb
  simp at h
  exact h this
 | own=>
  rw [ht] at g
  obtain ⟨⟨o,w⟩,_⟩:=ok.zd b i zb
  rw [g.2 b m] at w;cases w
 | lk=>
  rw [ht] at g
  obtain ⟨⟨o,w⟩,_⟩:=ok.zd b i zb
  rw [g.2 b m] at w;cases w
def xO (i:Nat) (cn m:Str) (G:MF) (g:AF):XF:=fun ρ=>match ρ[i]?,g ρ with
 | some (some (.ins c es,.own)),some ps=>if c=cn∧es.lookup m=none∧apart i ps=true then (G (.ins c es) (ps.map (·.1))).map fun w=>(w.1,mutS ρ i w.2) else none
 | _,_=>none
theorem xO_of {i:Nat}{cn m:Str}{G:MF}{g:AF}{ρ ρ':Rho}{r:D} (e:xO i cn m G g ρ=some (r,ρ')):∃ es ps d1,ρ[i]? = some (some (.ins cn es,.own))∧g ρ=some ps∧es.lookup m=none∧apart i ps=true∧G (.ins cn es) (ps.map (·.1))=some (r,d1)∧ρ'=mutS ρ i d1:=by
 unfold xO at e
 split at e
 ·rename_i c es ps h1 h2
  by_cases hc:c=cn∧es.lookup m=none∧apart i ps=true
  ·rw [if_pos hc] at e
   obtain ⟨rfl,hm,ha⟩:=hc
   cases h3:G (.ins c es) (ps.map (·.1)) with
   | none=>rw [h3] at e;cases e
   | some w=>
    rw [h3] at e
    cases e
    exact ⟨es,ps,w.2,h1,h2,hm,ha,h3,rfl⟩
  ·rw [if_neg hc] at e;cases e
 ·cases e
def FZ (X:Cx) (e:Expr) (f:XF):Prop:=∃ t,PE X e t∧∀ (H0:Hp) (S:List Addr) (z:Addr→Option Nat) (held:List Held) (ρ:Rho) (σ:St) (H:Hp) (Q:VK) (d:D) (ρ':Rho),
 Ok X.K H0 S z held ρ σ H→f ρ=some (d,ρ')→(∀ z' H' v,Ok X.K H0 S z' held ρ' σ H'→Rep X.K H' d v []→Q v H')→t σ H Q
section
variable {X:Cx}{e:Expr}{es:List Expr}{g:AF}{m cn x:Str}{p1 apos pos:Pos}{k:Nat}{C f:Addr}{fd:FuncData}{ps:List Str}{G:MF}{pl:Sem Bool}{fx:XF}
theorem methO_read {i:Nat}{ta:TA} (hC:ClsAt X.K cn C) (hN:X.N[i]? = some x)
  (qa:∀ (H0:Hp) (S:List Addr) (z:Addr→Option Nat) (held:List Held) (ρ:Rho) (σ:St) (H:Hp) (Q:List V→Hp→Prop) (ps:List (D×Tag)),Ok X.K H0 S z held ρ σ H→g ρ=some ps→(∀ H' vs fp,Same H H'→Reps X.K H' (ps.map (·.1)) vs fp→TagOk z H (joinA ps) fp→Q vs H')→ta σ H Q)
  {H0:Hp}{S:List Addr}{z:Addr→Option Nat}{held:List Held}{ρ:Rho}{σ:St}{H:Hp}{Q:VK}{d:D}{ρ':Rho} (ok:Ok X.K H0 S z held ρ σ H) (e0:xO i cn m G g ρ=some (d,ρ')) (kk:∀ z' H' v,Ok X.K H0 S z' held ρ' σ H'→Rep X.K H' d v []→Q v H') :
  tMeth C m (spO X.K G) [] E0 (tVar i) ta σ H Q:=by
 obtain ⟨fs0,qs,d1,h1,h2,hm,hap,hG,rfl⟩:=xO_of e0
 obtain ⟨v,fp0,hs,r0,zz⟩:=ok.sl i _ _ h1
 refine ⟨v,hs,?_⟩
 obtain ⟨b,dx,fs,gf,rfl,hfp,h4,h5,h6,h7⟩:=r0.ins_of hC.ns
 refine ⟨b,dx,fs,rfl,h4,look_none h6 hm,?_⟩
 refine qa H0 S z held ρ σ H _ qs ok h2 fun H2 vs fp2 s2 r2 g2=>?_
 rw [List.append_nil]
 have ok2:=ok.same s2
 refine ⟨b,vs,_,fp0,_,fp2,d,d1,rfl,r0.same s2,zz.1,r2,apart_of ok hap g2 zz,hG,fun H3 u fp1 im kp r1 nd fr rr=>?_⟩
 obtain ⟨z',ok3⟩:=ok2.put h1 hs zz im kp r1 nd fr
 exact kk z' H3 u ok3 rr
theorem fz_meth (i:Nat) (hC:ClsAt X.K cn C) (hm:Meth X.K C m f) (GG:FnOk X.prog X.w X.K X.mg X.base CX0 k f fd ps (spO X.K G)) (hr:Room k X.A) (hb:Binds X.K fd ps []) (ha:FA X (e::es) g) (hN:X.N[i]? = some x:=by rfl)
  (hvis:Vis X.env.scope x:=by first | exact Or.inl rfl | exact Or.inr (Or.inl rfl) | exact Or.inr (Or.inr rfl)) (hd:(x == ("__debug__":Str))=false:=by decide) (hcd:(x == ("__classdict__":Str))=false:=by decide)
  (hst:starEach (e::es) X.env=(false,eval e X.env)::starEach es X.env:=by rfl) (hpl:(backTo pos (starEach es X.env)).any (·.1)=false:=by rfl)
  (ht:eval (.Call (.Attribute (.Name x p1) m apos) (e::es) [] pos) X.env=(do
   let ov ← eval (.Name x p1) X.env
   standAt apos.atName
   let (f,first) ← holding [ov] (getMethod ov m pl)
   callWith pos f first (backTo pos (starEach (e::es) X.env)) (backToKw pos (keywordEach [] X.env))):=by rfl):FZ X (.Call (.Attribute (.Name x p1) m apos) (e::es) [] pos) (xO i cn m G g):=by
 obtain ⟨ta,pa,_,qa⟩:=ha
 exact ⟨_,pe_meth (pl:=pl) (pe_var (i:=i) hN hvis hd hcd) hC.cl hm GG hr hb .nil pass0 pa hst hpl ht,fun H0 S z held ρ σ H Q d ρ' ok e0 kk=>methO_read hC hN qa ok e0 kk⟩
end
def eMake (cn:Str) (G:MF) (g:AF):EF:=fun ρ=>(g ρ).bind fun ps=>match G (.ins cn []) (ps.map (·.1)) with
 | some (.non,d)=>some (d,.own)
 | _=>none
section
variable {X:Cx}{e:Expr}{es:List Expr}{g:AF}{cn x:Str}{p pos:Pos}{k:Nat}{C f:Addr}{fd:FuncData}{ps:List Str}{G:MF}
theorem make_read {ta:TA} (hn:PySem.W.nsIn X.K mainGlobals cn=some (some (.ref C)))
  (qa:∀ (H0:Hp) (S:List Addr) (z:Addr→Option Nat) (held:List Held) (ρ:Rho) (σ:St) (H:Hp) (Q:List V→Hp→Prop) (ps:List (D×Tag)),Ok X.K H0 S z held ρ σ H→g ρ=some ps→(∀ H' vs fp,Same H H'→Reps X.K H' (ps.map (·.1)) vs fp→TagOk z H (joinA ps) fp→Q vs H')→ta σ H Q)
  {H0:Hp}{S:List Addr}{z:Addr→Option Nat}{held:List Held}{ρ:Rho}{σ:St}{H:Hp}{Q:VK}{d:D}{tg:Tag} (ok:Ok X.K H0 S z held ρ σ H) (e0:eMake cn G g ρ=some (d,tg)) (kk:∀ H' v fp,Same H H'→Rep X.K H' d v fp→TagOk z H tg fp→Q v H') :
  tMake C (spO X.K G) [] E0 ta σ H Q:=by
 unfold eMake at e0
 cases h2:g ρ with
 | none=>rw [h2] at e0;cases e0
 | some qs=>
  rw [h2,Option.bind_some] at e0
  cases h3:G (.ins cn []) (qs.map (·.1)) with
  | none=>rw [h3] at e0;cases e0
  | some w=>
   obtain ⟨r,d1⟩:=w
   rw [h3] at e0
   cases r <;> try (cases e0;done)
   cases e0
   refine qa H0 S z held ρ σ H _ qs ok h2 fun H1 vs fp s1 r1 _=>?_
   intro b dx nb ndx ne
   rw [List.append_nil]
   have s2:Same H1 (upd (upd H1 dx (.own b)) b (.ins C dx [])):=fun c o e=>by rw [upd_ne (ne_of_none e nb),upd_ne (ne_of_none e ndx)];exact e
   refine ⟨b,vs,.ins cn [],[b,dx],_,fp,.non,d,rfl,.ins hn upd_same (by rw [upd_ne ne];exact upd_same) rfl .nil,?_,r1.same s2,fun c m n=>?_,h3,fun H3 u fp1 im kp r3 nd fr rr=>?_⟩
   ·exact List.nodup_cons.mpr ⟨fun m=>ne (List.mem_singleton.mp m).symm,List.nodup_cons.mpr ⟨(fun m=>nomatch m),List.nodup_nil⟩⟩
   ·obtain ⟨o,w,_⟩:=r1.dom c m
    rcases List.mem_cons.mp n with e | n
    ·rw [e,nb] at w;cases w
    ·rw [List.mem_singleton.mp n,ndx] at w;cases w
   ·cases rr
    refine ⟨rfl,kk H3 _ fp1 (fun c o e=>?_) r3 ⟨nd,fun c m=>?_⟩⟩
    ·have e1:=s1 c o e
     refine kp c o (fun n=>?_) (s2 c o e1)
     rcases List.mem_cons.mp n with q | n
     ·rw [q,nb] at e1;cases e1
     ·rw [List.mem_singleton.mp n,ndx] at e1;cases e1
    ·rcases fr c m with q | q
     ·refine s1.free ?_
      rcases List.mem_cons.mp q with q | q
      ·rw [q];exact nb
      ·rw [List.mem_singleton.mp q];exact ndx
     ·exact s1.free (s2.free q)
theorem fp_make0 (hn:PySem.W.nsIn X.K mainGlobals cn=some (some (.ref C))) (M:Mk X.K C f) (GG:FnOk X.prog X.w X.K X.mg X.base CX0 k f fd ps (spO X.K G)) (hr:Room (k + 1) X.A) (hm:X.mg x=some (.ref C)) (hb:Binds X.K fd ps []) (hg:Gl X x:=by rfl) (hdb:(x == ("__debug__":Str))=false:=by decide) :
  FP X (.Call (.Name x p) [] [] pos) (eMake cn G aNil):=
 ⟨_,pe_make0 M GG hr hg hm hb .nil pass0 hdb,fun H0 S z held ρ σ H Q d tg ok e0 kk=>make_read (ta:=tNil) (g:=aNil) hn (fun _ _ _ _ _ _ H _ _ _ e q=>by cases e;exact q H _ _ (Same.refl H) .nil .nil) ok e0 kk⟩
theorem fp_make (hn:PySem.W.nsIn X.K mainGlobals cn=some (some (.ref C))) (M:Mk X.K C f) (GG:FnOk X.prog X.w X.K X.mg X.base CX0 k f fd ps (spO X.K G)) (hr:Room (k + 1) X.A) (hm:X.mg x=some (.ref C)) (hb:Binds X.K fd ps []) (ha:FA X (e::es) g) (hg:Gl X x:=by rfl) (hdb:(x == ("__debug__":Str))=false:=by decide)
  (he:starEach (e::es) X.env=(false,eval e X.env)::starEach es X.env:=by rfl) (hpl:(backTo pos (starEach es X.env)).any (·.1)=false:=by rfl):FP X (.Call (.Name x p) (e::es) [] pos) (eMake cn G g):=by
 obtain ⟨ta,pa,_,qa⟩:=ha
 exact ⟨_,pe_make M GG hr hg hm hb .nil pass0 pa hdb he hpl,fun H0 S z held ρ σ H Q d tg ok e0 kk=>make_read hn qa ok e0 kk⟩
end
def PostM (X:Cx) (H0:Hp) (S:List Addr) (held:List Held) (σ0:St) (E:Ends):Out→Prop
 | .nx ρ=>∀ z σ H,Ok X.K H0 S z held ρ σ H→Kp X σ0 σ→E.nx σ H
 | .bk ρ=>∀ z σ H,Ok X.K H0 S z held ρ σ H→Kp X σ0 σ→E.bk σ H
 | .ct ρ=>∀ z σ H,Ok X.K H0 S z held ρ σ H→Kp X σ0 σ→E.ct σ H
 | .er raw cn ρ=>PostE X H0 S held σ0 raw cn ρ
 | .rt p=>∃ r d0,p=.tup [r,d0]∧∀ z ρ σ H v,Ok X.K H0 S z held ρ σ H→ρ[0]? = some (some (d0,.own))→Kp X σ0 σ→Rep X.K H r v []→E.rt v H
def FM (X:Cx) (st:List Stmt) (f:SF):Prop:=∃ t,PSs X st t∧∀ (H0:Hp) (S:List Addr) (z:Addr→Option Nat) (held:List Held) (ρ:Rho) (σ:St) (H:Hp) (E:Ends) (o:Out),
 Ok X.K H0 S z held ρ σ H→f ρ=some o→PostM X H0 S held σ E o→t E σ H
def FM1 (X:Cx) (st:Stmt) (f:SF):Prop:=∃ t,PS X st t∧∀ (H0:Hp) (S:List Addr) (z:Addr→Option Nat) (held:List Held) (ρ:Rho) (σ:St) (H:Hp) (E:Ends) (o:Out),
 Ok X.K H0 S z held ρ σ H→f ρ=some o→PostM X H0 S held σ E o→t E σ H
theorem PostM.of {X:Cx}{H0:Hp}{S:List Addr}{held:List Held}{σ σ':St}{E:Ends}{o:Out} (k:PostM X H0 S held σ E o) (a:Kp X σ σ'):PostM X H0 S held σ' E o:=by
 cases o with
 | nx ρ=>exact fun z s H ok b=>k z s H ok (a.trans b)
 | bk ρ=>exact fun z s H ok b=>k z s H ok (a.trans b)
 | ct ρ=>exact fun z s H ok b=>k z s H ok (a.trans b)
 | er raw cn ρ=>exact PostE.of k a
 | rt d=>obtain ⟨r,d0,e,k⟩:=k;exact ⟨r,d0,e,fun z ρ s H v ok h b=>k z ρ s H v ok h (a.trans b)⟩
def noRt (f:SF):SF:=fun ρ=>match f ρ with
 | some (.nx ρ')=>some (.nx ρ')
 | some (.bk ρ')=>some (.bk ρ')
 | some (.ct ρ')=>some (.ct ρ')
 | some (.er raw cn ρ')=>some (.er raw cn ρ')
 | _=>none
section
variable {X:Cx}{pos:Pos}{st:Stmt}{rest:List Stmt}{f g:SF}
theorem fm_of (h:FS1 X st f):FM1 X st (noRt f):=by
 obtain ⟨t,p,q⟩:=h
 refine ⟨t,p,fun H0 S z held ρ σ H E o ok e k=>?_⟩
 unfold noRt at e
 cases h:f ρ with
 | none=>rw [h] at e;cases e
 | some w=>
  rw [h] at e
  refine q H0 S z held ρ σ H E w ok h ?_
  cases w <;> first | (cases e;done) | (cases e;exact k)
theorem fm_nil:FM X [] sNx:=⟨_,pss_nil,fun _ _ z _ _ σ H _ _ ok e k=>by cases e;exact k z σ H ok (.refl _ _)⟩
theorem fm_one (h:FM1 X st f):FM X [st] f:=let ⟨t,p,q⟩:=h;⟨t,pss_one p,q⟩
theorem fm_cons (h1:FM1 X st f) (h2:FM X rest g):FM X (st::rest) (sSeq f g):=by
 obtain ⟨t,p,q⟩:=h1
 obtain ⟨t',p',q'⟩:=h2
 refine ⟨_,pss_cons p p',fun H0 S z held ρ σ H E o ok e k=>?_⟩
 unfold sSeq at e
 cases h:f ρ with
 | none=>rw [h] at e;cases e
 | some w=>
  refine q H0 S z held ρ σ H _ w ok h ?_
  rw [h] at e
  cases w with
  | nx ρ'=>exact fun z' σ' H' ok' a=>q' H0 S z' held ρ' σ' H' E o ok' e (k.of a)
  | rt d=>cases e;exact k
  | bk ρ'=>cases e;exact k
  | ct ρ'=>cases e;exact k
  | er _ _ _=>cases e;exact k
theorem fm_if {c:Expr}{a b:List Stmt}{tc:TF} (hc:FT X c tc) (ha:FM X a f) (hb:FM X b g):FM1 X (.If c a b pos) (sIf tc f g):=by
 obtain ⟨t,p,q⟩:=hc
 obtain ⟨t1,p1,q1⟩:=ha
 obtain ⟨t2,p2,q2⟩:=hb
 refine ⟨_,ps_if p p1 p2,fun H0 S z held ρ σ H E o ok e k=>?_⟩
 unfold sIf at e
 cases h:tc ρ with
 | none=>rw [h] at e;cases e
 | some y=>
  rw [h] at e
  refine q H0 S z held ρ σ H _ y ok h fun H1 s1=>?_
  cases y with
  | true=>rw [if_pos rfl];exact q1 H0 S z held ρ σ H1 E o (ok.same s1) e k
  | false=>rw [if_neg Bool.false_ne_true];exact q2 H0 S z held ρ σ H1 E o (ok.same s1) e k
theorem fm_no:FM1 X st sNo:=⟨_,ps_never,fun _ _ _ _ _ _ _ _ _ _ e _=>by cases e⟩
def sRetM (f:EF):SF:=fun ρ=>match f ρ,ρ[0]? with
 | some (r,_),some (some (d0,Tag.own))=>if imm r=true then some (.rt (.tup [r,d0])) else none
 | _,_=>none
theorem fm_ret {e:Expr}{f:EF} (he:FP X e f):FM1 X (.Return (some e) pos) (sRetM f):=by
 obtain ⟨t,p,q⟩:=he
 refine ⟨_,ps_ret p,fun H0 S z held ρ σ H E o ok e k=>?_⟩
 unfold sRetM at e
 split at e
 ·rename_i r tg d0 h1 h2
  by_cases hi:imm r=true
  ·rw [if_pos hi] at e
   cases e
   obtain ⟨r',d0',ee,k⟩:=k
   cases ee
   refine q H0 S z held ρ σ H _ _ _ ok h1 fun H1 v fp s1 r1 _=>?_
   have hn:=r1.imm hi
   subst hn
   exact k z ρ σ H1 v (ok.same s1) h2 (.refl _ _) r1
  ·rw [if_neg hi] at e;cases e
 ·cases e
def sRetZ (f:XF):SF:=fun ρ=>match f ρ with
 | some (r,ρ')=>match ρ'[0]? with
  | some (some (d0,Tag.own))=>some (.rt (.tup [r,d0]))
  | _=>none
 | none=>none
end
def iniM (n:Nat) (d0:D) (ds:List D):Rho:=some (d0,.own)::(ds.map (fun d=>some (d,.sh []))++List.replicate (n - (ds.length + 1)) none)
def runM (n N:Nat) (b:SF):MF:=fun d0 ds=>if ds.length + 1=n then (match b (iniM N d0 ds) with
 | some (.rt (.tup [r,d1]))=>some (r,d1)
 | some (.nx ρ)=>match ρ[0]? with
  | some (some (d1,Tag.own))=>some (.non,d1)
  | _=>none
 | _=>none) else none
theorem Reps.at_arg {K:PySem.W.Frag}{H:Hp}{ds:List D}{vs:List V}{fp:List Addr}{i:Nat}{d:D} (r:Reps K H ds vs fp) (e:ds[i]? = some d):∃ v f,vs[i]? = some v∧Rep K H d v f∧∀ a∈f,a∈fp:=r.get e
section
variable {P:Program}{w:World}{K:PySem.W.Frag}{mg:Str→Option Value}{base:Heap}
theorem fn_M {x qual:Str}{st:Stmt}{f:Addr}{fd:FuncData}{N ps:List Str}{k:Nat}{b:SF} (F:Fun K x qual st f fd) (S:FnScope N ps (defScope st)) (h0:N[0]? = some ("self":Str)) (hps:ps.length≤N.length)
  (hb:∀ (cdv:Value) (A:Around) (outer:List Env) (s:Shared) (H:Hp) (E:XK),Room k (A.deeper (envOfC qual (defScope st) s.heap.objs.size f cdv))→FM (cxOf CX0 P w K mg base N qual (defScope st) f cdv A outer s H E).nox (defBody st) b) :
  FnOk P w K mg base CX0 (k + 1) f fd ps (spO K (runM ps.length N.length b)):=by
 classical
 refine F.ok S (fun vs H Q E h=>?_) fun cdv A outer s H vs Q E hr h=>?_
 ·obtain ⟨a,ws,d0,fp0,ds,fps,r,d1,rfl,_,_,rs,_,e,_⟩:=h
  unfold runM at e
  by_cases hl:ds.length + 1=ps.length
  ·rw [List.length_cons,← rs.length,hl]
  ·rw [if_neg hl] at e;cases e
 ·obtain ⟨a,ws,d0,fp0,ds,fps,r,d1,rfl,r0,nd0,rs,dj,e,q⟩:=h
  obtain ⟨t,pt,sd⟩:=hb cdv A outer s H E hr
  refine ⟨t,pt,?_⟩
  unfold runM at e
  by_cases hl:ds.length + 1=ps.length
  ·rw [if_pos hl] at e
   have lw:=rs.length
   have ok:Ok K H fp0 (fun c=>if c∈fp0 then some 0 else none) [] (iniM N.length d0 ds) (start N (V.ref a::ws)) H:=by
    refine ⟨fun i d t e'=>?_,fun p m=>(nomatch m),fun c j e'=>?_,fun c o e' _=>e',?_⟩
    ·cases i with
     | zero=>
      have e':some (some (d0,Tag.own))=some (some (d,t)):=e'
      cases e'
      exact ⟨.ref a,fp0,rfl,r0,nd0,fun c m=>if_pos m⟩
     | succ i=>
      have e':(ds.map (fun d=>some (d,Tag.sh []))++List.replicate (N.length - (ds.length + 1)) none)[i]? = some (some (d,t)):=e'
      by_cases hi:i < ds.length
      ·rw [List.getElem?_append_left (by rw [List.length_map];exact hi),List.getElem?_map] at e'
       cases ed:ds[i]? with
       | none=>rw [ed] at e';cases e'
       | some d'=>
        rw [ed] at e'
        cases e'
        obtain ⟨v,g,hv,rv,sub⟩:=rs.at_arg ed
        refine ⟨v,g,?_,rv,fun c m j e''=>?_⟩
        ·show (some (V.ref a)::(ws.map some++List.replicate (N.length - (ws.length + 1)) none))[i + 1]? = _
         rw [List.getElem?_cons_succ,List.getElem?_append_left (by rw [List.length_map,← lw];exact hi),List.getElem?_map,hv];rfl
        ·have e'':(if c∈fp0 then some 0 else none)=some j:=e''
         rw [if_neg (dj c (sub c m))] at e'';cases e''
      ·rw [List.getElem?_append_right (by rw [List.length_map];omega),List.getElem?_replicate] at e'
       split at e' <;> cases e'
    ·have e':(if c∈fp0 then some 0 else none)=some j:=e'
     by_cases m:c∈fp0
     ·obtain ⟨o,w,_⟩:=r0.dom c m
      exact ⟨⟨o,w⟩,.inr m⟩
     ·rw [if_neg m] at e';cases e'
    ·unfold iniM start
     rw [List.length_cons,List.length_append,List.length_append,List.length_map,List.length_map,List.length_replicate,List.length_replicate,List.length_cons,lw]
     omega
   have fin:∀ {z:Addr→Option Nat}{ρ:Rho}{σ:St}{H':Hp}{v:V},Ok K H fp0 z [] ρ σ H'→ρ[0]? = some (some (d1,.own))→Kp (cxOf CX0 P w K mg base N qual (defScope st) f cdv A outer s H E).nox (start N (V.ref a::ws)) σ→Rep K H' r v []→Q v H':=by
    intro z ρ σ H' v ok' h1 kp rr
    obtain ⟨u,fp1,hs,r1,zz⟩:=ok'.sl 0 d1 .own h1
    have hk:=kp 0 _ h0 rfl
    have hk:σ[0]? = some (some (V.ref a)):=hk
    rw [hk] at hs
    cases hs
    refine q H' v fp1 ⟨fun c xs e'=>?_,fun c o u e'=>?_,fun c φ e'=>?_⟩ (fun c o n e'=>ok'.en c o e' n) r1 zz.1 (fun c m=>?_) rr
    ·refine ok'.en c _ e' fun m=>?_
     obtain ⟨o,w,mo⟩:=r0.dom c m
     rw [e'] at w;cases w;cases mo
    ·refine ok'.en c _ e' fun m=>?_
     obtain ⟨o,w,mo⟩:=r0.dom c m
     rw [e'] at w;cases w;cases mo
    ·refine ok'.en c _ e' fun m=>?_
     obtain ⟨o,w,mo⟩:=r0.dom c m
     rw [e'] at w;cases w;cases mo
    ·exact ((ok'.zd c 0 (zz.2 c m)).2).symm.imp id id
   cases ho:b (iniM N.length d0 ds) with
   | none=>rw [ho] at e;cases e
   | some o=>
    rw [ho] at e
    refine sd H fp0 _ [] _ _ H _ o ok ho ?_
    cases o with
    | rt p=>
     have hp:p=.tup [r,d1]:=by
      split at e <;> rename_i hh
      ·cases e;cases hh;rfl
      ·cases hh
      ·cases e
     exact ⟨r,d1,hp,fun z ρ σ H' v ok' h1 kp rr=>fin ok' h1 kp rr⟩
    | nx ρ'=>
     dsimp only at e
     split at e
     ·rename_i dd h1
      cases e
      exact fun z σ H' ok' kp=>fin ok' h1 kp .non
     ·cases e
    | bk _=>cases e
    | ct _=>cases e
    | er _ _ _=>cases e
  ·rw [if_neg hl] at e;cases e
end
def putFD (f:Str) (d:D):List (Str×D)→List (Str×D)
 | []=>[(f,d)]
 | (g,x)::r=>if g=f then (g,d)::r else (g,x)::putFD f d r
theorem putFD_keys {f:Str}{d:D}{v:V}:∀ {es:List (Str×D)}{fs:List (Str×V)},es.map (·.1)=fs.map (·.1)→(putFD f d es).map (·.1)=(putF f v fs).map (·.1)
 | [],[],_=>rfl
 | [],_::_,k=>by simp at k
 | _::_,[],k=>by simp at k
 | (x,d0)::es,(y,v0)::fs,k=>by
  simp only [List.map_cons,List.cons.injEq] at k
  obtain ⟨rfl,k⟩:=k
  unfold putFD putF
  by_cases hx:x=f
  ·rw [if_pos hx,if_pos hx,List.map_cons,List.map_cons,k]
  ·rw [if_neg hx,if_neg hx,List.map_cons,List.map_cons,putFD_keys k]
theorem putFD_same {f:Str}{d d0:D}:∀ {es:List (Str×D)},es.lookup f=some d0→(putFD f d es).map (·.1)=es.map (·.1)
 | [],e=>by cases e
 | (x,d1)::es,e=>by
  unfold putFD
  by_cases hx:x=f
  ·rw [if_pos hx];rfl
  ·have hb:(f == x)=false:=beq_eq_false_iff_ne.mpr fun q=>hx q.symm
   simp only [List.lookup,hb] at e
   rw [if_neg hx,List.map_cons,putFD_same e];rfl
section
variable {K:PySem.W.Frag}{H H':Hp}
theorem Reps.putF {f:Str}{d:D}{v:V}{fd:List Addr} (rd:Rep K H d v fd):∀ {es:List (Str×D)}{fs:List (Str×V)}{g:List Addr},es.map (·.1)=fs.map (·.1)→Reps K H (es.map (·.2)) (fs.map (·.2)) g →
  ∃ g',Reps K H ((putFD f d es).map (·.2)) ((L2.putF f v fs).map (·.2)) g'∧(∀ a∈g',a∈g∨a∈fd)∧(g.Nodup→fd.Nodup→(∀ a∈fd,a∉g)→g'.Nodup)
 | [],[],_,_,r=>by
  cases r
  exact ⟨fd++[],.cons rd .nil,fun a m=>.inr (by simpa using m),fun _ n _=>by simpa using n⟩
 | [],_::_,_,k,_=>by simp at k
 | _::_,[],_,k,_=>by simp at k
 | (x,d0)::es,(y,v0)::fs,_,k,r=>by
  simp only [List.map_cons,List.cons.injEq] at k
  obtain ⟨rfl,k⟩:=k
  cases r with
  | @cons _ _ _ _ f1 f2 r1 r2=>
   unfold putFD L2.putF
   by_cases hx:x=f
   ·rw [if_pos hx,if_pos hx]
    refine ⟨fd++f2,.cons rd r2,fun a m=>(List.mem_append.mp m).elim .inr fun m=>.inl (List.mem_append_right _ m),fun n1 n2 n3=>?_⟩
    exact List.nodup_append.mpr ⟨n2,(List.nodup_append.mp n1).2.1,fun a ma b mb e=>n3 a ma (List.mem_append_right _ (e ▸ mb))⟩
   ·rw [if_neg hx,if_neg hx]
    obtain ⟨g',h1,h2,h3⟩:=Reps.putF (f:=f) rd k r2
    refine ⟨f1++g',.cons r1 h1,fun a m=>?_,fun n1 n2 n3=>?_⟩
    ·rcases List.mem_append.mp m with m | m
     ·exact .inl (List.mem_append_left _ m)
     ·exact (h2 a m).imp (List.mem_append_right _) id
    ·obtain ⟨a1,a2,a3⟩:=List.nodup_append.mp n1
     refine List.nodup_append.mpr ⟨a1,h3 a2 n2 (fun a m q=>n3 a m (List.mem_append_right _ q)),fun a ma b mb e=>?_⟩
     rcases h2 b mb with q | q
     ·exact a3 a ma b q e
     ·exact n3 b q (List.mem_append_left _ (e ▸ ma))
theorem Reps.place {f:Str}{d0:D}:∀ {es:List (Str×D)}{fs:List (Str×V)}{g:List Addr},es.map (·.1)=fs.map (·.1)→Reps K H (es.map (·.2)) (fs.map (·.2)) g→g.Nodup→es.lookup f=some d0 →
  ∃ v gf,fs.lookup f=some v∧Rep K H d0 v gf∧gf.Nodup∧(∀ a∈gf,a∈g)∧∀ (H':Hp) (d1:D) (g1:List Addr),Imm H H'→(∀ b o,b∉gf→H b=some o→H' b=some o)→Rep K H' d1 v g1→g1.Nodup→(∀ b∈g1,b∈gf∨H b=none) →
   ∃ g',Reps K H' ((putFD f d1 es).map (·.2)) (fs.map (·.2)) g'∧g'.Nodup∧∀ b∈g',b∈g∨H b=none
 | [],_,_,_,_,_,e=>by cases e
 | _::_,[],_,k,_,_,_=>by simp at k
 | (x,d)::es,(y,v0)::fs,_,k,r,nd,e=>by
  simp only [List.map_cons,List.cons.injEq] at k
  obtain ⟨rfl,k⟩:=k
  cases r with
  | @cons _ _ _ _ f1 f2 r1 r2=>
   obtain ⟨a1,a2,a3⟩:=List.nodup_append.mp nd
   by_cases hx:x=f
   ·subst hx
    have hb:(x == x)=true:=beq_self_eq_true x
    simp only [List.lookup,hb] at e ⊢
    cases e
    refine ⟨v0,f1,rfl,r1,a1,fun a m=>List.mem_append_left _ m,fun H' d1 g1 im kp rr n1 fr=>?_⟩
    refine ⟨g1++f2,?_,List.nodup_append.mpr ⟨n1,a2,fun a ma b mb e=>?_⟩,fun b m=>?_⟩
    ·unfold putFD
     rw [if_pos rfl]
     refine .cons rr (r2.frame (fun a m=>?_) im)
     obtain ⟨o,w,_⟩:=r2.dom a m
     rw [kp a o (fun q=>a3 a q a m rfl) w,w]
    ·subst e
     obtain ⟨o,w,_⟩:=r2.dom a mb
     rcases fr a ma with q | q
     ·exact a3 a q a mb rfl
     ·rw [q] at w;cases w
    ·rcases List.mem_append.mp m with m | m
     ·exact (fr b m).imp (List.mem_append_left _) id
     ·exact .inl (List.mem_append_right _ m)
   ·have hb:(f == x)=false:=beq_eq_false_iff_ne.mpr fun q=>hx q.symm
    simp only [List.lookup,hb] at e ⊢
    obtain ⟨v,gf,h1,h2,h3,h4,h5⟩:=Reps.place (f:=f) (d0:=d0) k r2 a2 e
    refine ⟨v,gf,h1,h2,h3,fun a m=>List.mem_append_right _ (h4 a m),fun H' d1 g1 im kp rr n1 fr=>?_⟩
    obtain ⟨g',c1,c2,c3⟩:=h5 H' d1 g1 im kp rr n1 fr
    refine ⟨f1++g',?_,List.nodup_append.mpr ⟨a1,c2,fun a ma b mb e=>?_⟩,fun b m=>?_⟩
    ·unfold putFD
     rw [if_neg hx]
     refine .cons (r1.frame (fun a m=>?_) im) c1
     obtain ⟨o,w,_⟩:=r1.dom a m
     rw [kp a o (fun q=>a3 a m a (h4 a q) rfl) w,w]
    ·subst e
     obtain ⟨o,w,_⟩:=r1.dom a ma
     rcases c3 a mb with q | q
     ·exact a3 a ma a q rfl
     ·rw [q] at w;cases w
    ·rcases List.mem_append.mp m with m | m
     ·exact .inl (List.mem_append_left _ m)
     ·exact (c3 b m).imp (List.mem_append_right _) id
theorem Rep.place {cn f:Str}{es:List (Str×D)}{v:V}{fp:List Addr}{d0:D}{C:Addr} (r:Rep K H (.ins cn es) v fp) (hn:PySem.W.nsIn K mainGlobals cn=some (some (.ref C))) (nd:fp.Nodup) (e:es.lookup f=some d0) :
  ∃ a dx fs u gf,v=.ref a∧H a=some (.ins C dx fs)∧fs.lookup f=some u∧Rep K H d0 u gf∧gf.Nodup∧(∀ b∈gf,b∈fp)∧∀ (H':Hp) (d1:D) (g1:List Addr),Imm H H'→(∀ b o,b∉gf→H b=some o→H' b=some o)→Rep K H' d1 u g1→g1.Nodup→(∀ b∈g1,b∈gf∨H b=none) →
   ∃ fp1,Rep K H' (.ins cn (putFD f d1 es)) v fp1∧fp1.Nodup∧∀ b∈fp1,b∈fp∨H b=none:=by
 obtain ⟨a,dx,fs,g,rfl,rfl,h1,h2,h3,h4⟩:=r.ins_of hn
 obtain ⟨n1,n2⟩:=List.nodup_cons.mp nd
 obtain ⟨n3,n4⟩:=List.nodup_cons.mp n2
 obtain ⟨u,gf,c1,c2,c3,c4,c5⟩:=Reps.place h3 h4 n4 e
 refine ⟨a,dx,fs,u,gf,rfl,h1,c1,c2,c3,fun b m=>List.mem_cons_of_mem _ (List.mem_cons_of_mem _ (c4 b m)),fun H' d1 g1 im kp rr m1 fr=>?_⟩
 obtain ⟨g',e1,e2,e3⟩:=c5 H' d1 g1 im kp rr m1 fr
 have ka:H' a=some (.ins C dx fs):=kp a _ (fun q=>n1 (List.mem_cons_of_mem _ (c4 a q))) h1
 have kd:H' dx=some (.own a):=kp dx _ (fun q=>n3 (c4 dx q)) h2
 refine ⟨a::dx::g',.ins hn ka kd (by rw [putFD_same e];exact h3) e1,?_,fun b m=>?_⟩
 ·refine List.nodup_cons.mpr ⟨fun m=>?_,List.nodup_cons.mpr ⟨fun m=>?_,e2⟩⟩
  ·rcases List.mem_cons.mp m with q | m
   ·exact n1 (by rw [q];exact List.mem_cons_self)
   ·rcases e3 a m with q | q
    ·exact n1 (List.mem_cons_of_mem _ q)
    ·rw [h1] at q;cases q
  ·rcases e3 dx m with q | q
   ·exact n3 q
   ·rw [h2] at q;cases q
 ·rcases List.mem_cons.mp m with q | m
  ·exact .inl (by rw [q];exact List.mem_cons_self)
  ·rcases List.mem_cons.mp m with q | m
   ·exact .inl (by rw [q];exact List.mem_cons_of_mem _ List.mem_cons_self)
   ·exact (e3 b m).imp (fun q=>List.mem_cons_of_mem _ (List.mem_cons_of_mem _ q)) id
end
def sFldSet (i:Nat) (cn f:Str) (fv:EF):SF:=fun ρ=>match fv ρ,ρ[i]? with
 | some (d,t),some (some (.ins c es,.own))=>if c=cn∧es.length < 1000∧(isOwn t||imm d)=true then some (.nx (mutS ρ i (.ins c (putFD f d es)))) else none
 | _,_=>none
section
variable {X:Cx}{a:Expr}{fv:EF}{pos pos' p1 p2 p3:Pos}{x cn f:Str}{C:Addr}
theorem fs_fldSet (i:Nat) (hC:ClsAt X.K cn C) (na:NoAttr X.K C f) (hv:FP X a fv) (hN:X.N[i]? = some x:=by rfl) (hvis:Vis X.env.scope x:=by first | exact Or.inl rfl | exact Or.inr (Or.inl rfl) | exact Or.inr (Or.inr rfl)) (hd:(x == ("__debug__":Str))=false:=by decide)
  (hcd:(x == ("__classdict__":Str))=false:=by decide) (hs:swapsWith a (some (.Attribute (.Name x p1) f pos')) pos.line X.env=pure false:=by rfl):FS1 X (.Assign [.Attribute (.Name x p1) f pos'] a pos) (sFldSet i cn f fv):=by
 obtain ⟨t,p,q⟩:=hv
 refine ⟨_,ps_fld (pe_var (i:=i) hN hvis hd hcd) p hs,fun H0 S z held ρ σ H E o ok e k=>?_⟩
 unfold sFldSet at e
 split at e
 ·rename_i d tg c es h1 h2
  by_cases hc:c=cn∧es.length < 1000∧(isOwn tg||imm d)=true
  ·rw [if_pos hc] at e
   cases e
   obtain ⟨rfl,hl,ho⟩:=hc
   obtain ⟨v,fp0,hs',r0,zz⟩:=ok.sl i _ _ h2
   refine q H0 S z held ρ σ H _ d tg ok h1 fun H1 y fd s1 r1 g1=>?_
   refine ⟨v,hs',?_⟩
   obtain ⟨b,dx,fs,g,rfl,rfl,h3,h4,h5,h6⟩:=(r0.same s1).ins_of hC.ns
   have lf:fs.length < 1000:=by have:=congrArg List.length h5;rw [List.length_map,List.length_map] at this;omega
   refine ⟨b,C,dx,fs,rfl,h3,hC.cl,na,lf,?_⟩
   have ndf:fd.Nodup∧∀ c∈fd,c∉(b::dx::g):=by
    rcases (Bool.or_eq_true _ _).mp ho with h | h
    ·have g:fd.Nodup∧∀ a∈fd,H a=none:=by cases tg <;> first | exact g1 | cases h
     refine ⟨g.1,fun c m n=>?_⟩
     obtain ⟨⟨o,w⟩,_⟩:=ok.zd c i (zz.2 c n)
     rw [g.2 c m] at w;cases w
    ·have:=r1.imm h
     subst this
     exact ⟨List.nodup_nil,fun c m=>(nomatch m)⟩
   have zz1:=zz
   obtain ⟨n1,n2⟩:=List.nodup_cons.mp zz.1
   obtain ⟨n3,n4⟩:=List.nodup_cons.mp n2
   have im:Imm H1 (upd H1 b (.ins C dx (L2.putF f y fs))):=Imm.upd h3 rfl
   have kp:∀ c o,c∉(b::dx::g)→H1 c=some o→upd H1 b (.ins C dx (L2.putF f y fs)) c=some o:=fun c o n e=>by rw [upd_ne fun q=>n (by rw [q];exact List.mem_cons_self)];exact e
   have rd':Rep X.K (upd H1 b (.ins C dx (L2.putF f y fs))) d y fd:=r1.frame (fun c m=>upd_ne fun q=>ndf.2 c m (by rw [q];exact List.mem_cons_self)) im
   have rs':Reps X.K (upd H1 b (.ins C dx (L2.putF f y fs))) (es.map (·.2)) (fs.map (·.2)) g:=h6.frame (fun c m=>upd_ne fun q=>n1 (by rw [← q];exact List.mem_cons_of_mem _ m)) im
   obtain ⟨g',c1,c2,c3⟩:=Reps.putF (f:=f) rd' h5 rs'
   have nd':(b::dx::g').Nodup:=by
    refine List.nodup_cons.mpr ⟨fun m=>?_,List.nodup_cons.mpr ⟨fun m=>?_,c3 n4 ndf.1 fun c m n=>ndf.2 c m (List.mem_cons_of_mem _ (List.mem_cons_of_mem _ n))⟩⟩
    ·rcases List.mem_cons.mp m with q | m
     ·exact n1 (by rw [q];exact List.mem_cons_self)
     ·rcases c2 b m with q | q
      ·exact n1 (List.mem_cons_of_mem _ q)
      ·exact ndf.2 b q List.mem_cons_self
    ·rcases c2 dx m with q | q
     ·exact n3 q
     ·exact ndf.2 dx q (List.mem_cons_of_mem _ List.mem_cons_self)
   obtain ⟨z',ok'⟩:=ok.put (fp1:=b::dx::g') (d1:=.ins c (putFD f d es)) h2 hs' zz ((Imm.of s1).trans im) (fun c o n e=>kp c o n (s1 c o e)) (.ins hC.ns upd_same (by rw [upd_ne fun q=>n1 (by rw [q];exact List.mem_cons_self)];exact h4) (putFD_keys h5) c1) nd' fun c m=>by
    rcases List.mem_cons.mp m with q | m
    ·exact .inl (by rw [q];exact List.mem_cons_self)
    ·rcases List.mem_cons.mp m with q | m
     ·exact .inl (by rw [q];exact List.mem_cons_of_mem _ List.mem_cons_self)
     ·rcases c2 c m with q | q
      ·exact .inl (List.mem_cons_of_mem _ (List.mem_cons_of_mem _ q))
      ·rcases (Bool.or_eq_true _ _).mp ho with h | h
       ·have g:fd.Nodup∧∀ a∈fd,H a=none:=by cases tg <;> first | exact g1 | cases h
        exact .inr (g.2 c q)
       ·have:=r1.imm h
        rw [this] at q;cases q
   exact k z' σ _ ok' (.refl _ _)
  ·rw [if_neg hc] at e;cases e
 ·cases e
end
section
variable {X:Cx}{a b:Expr}{fa fb:EF}{p pos:Pos}
def oMax2:D→D→Option D
 | .int i,.int j=>some (.int (if j > i then j else i))
 | _,_=>none
def oNeg:D→Option D
 | .int i=>some (.int (-i))
 | _=>none
theorem fp_neg (ha:FP X a fa):FP X (.UnaryOp .USub a pos) (e1 oNeg fa):=by
 obtain ⟨t,pa,q⟩:=ha
 refine ⟨_,pe_un un_neg pa,fun H0 S z held ρ σ H Q d tg ok e k=>?_⟩
 obtain ⟨d1,t1,g1,g2,rfl⟩:=e1_of e
 refine q H0 S z held ρ σ H _ d1 t1 ok g1 fun H1 x f1 s1 r1 _=>?_
 cases r1 <;> cases g2
 exact ⟨_,rfl,k H1 _ [] s1 (.int _) .nil⟩
end
section
variable {X:Cx}{a b c:Expr}{fa fb fc fv:EF}{p p1 p2 p3 pos:Pos}
theorem fp_globI {x:Str}{n:Int}{tk:Tok} (hm:X.mg x=some (.int n tk)) (hg:Gl X x:=by rfl) (hd:(x == ("__debug__":Str))=false:=by decide):FP X (.Name x pos) (eC (.int n)):=
 ⟨_,pe_glob hg hm (v:=.int n) ⟨_,rfl⟩ hd,fun _ _ _ _ _ _ H _ _ _ _ e q=>by cases e;exact q H _ _ (Same.refl H) (.int n) .nil⟩
def eChain (o o':D→D→Option D) (fa fb fc:EF):EF:=fun ρ=>match fa ρ,fb ρ with
 | some (d1,_),some (d2,_)=>match o d1 d2 with
  | some (.bl true)=>match fc ρ with
   | some (d3,_)=>(o' d2 d3).map fun d=>(d,.own)
   | none=>none
  | some (.bl false)=>some (.bl false,.own)
  | _=>none
 | _,_=>none
theorem fp_chain {op op':CmpOp}{r r':R2}{o o':D→D→Option D} (ho:OpR X (compareOp op) r) (ho':OpR X (compareOp op') r') (dd:Does2 X.K r o) (dd':Does2 X.K r' o') (ha:FP X a fa) (hb:FP X b fb) (hc:FP X c fc) (hm:lastMarks [op,op'] [b,c]=false:=by with_unfolding_all rfl) :
  FP X (.Compare a [op,op'] [b,c] pos) (eChain o o' fa fb fc):=by
 obtain ⟨ta,pa,sa⟩:=ha
 obtain ⟨tb,pb,sb⟩:=hb
 obtain ⟨tc,pc,sc⟩:=hc
 refine ⟨_,pe_chain ho ho' pa pb pc hm,fun H0 S z held ρ σ H Q d tg ok e k=>?_⟩
 unfold eChain at e
 split at e
 ·rename_i d1 t1 d2 t2 e1 e2
  refine sa H0 S z held ρ σ H _ d1 t1 ok e1 fun H1 x f1 s1 r1 _=>?_
  refine sb H0 S z held ρ σ H1 _ d2 t2 (ok.same s1) e2 fun H2 y f2 s2 r2 _=>?_
  cases h:o d1 d2 with
  | none=>rw [h] at e;cases e
  | some w=>
   refine dd H2 x y d1 d2 f1 f2 w _ (r1.same s2) r2 h fun H3 u s3 r3=>?_
   rw [h] at e
   cases w <;> try (cases e;done)
   rename_i b'
   cases r3
   refine ⟨b',rfl,?_⟩
   cases b' with
   | false=>
    cases e
    rw [if_neg Bool.false_ne_true]
    exact k H3 _ [] ((s1.trans s2).trans s3) (.bl false) .nil
   | true=>
    rw [if_pos rfl]
    dsimp only at e
    cases h3:fc ρ with
    | none=>rw [h3] at e;cases e
    | some w3=>
     obtain ⟨d3,t3⟩:=w3
     rw [h3] at e
     dsimp only at e
     cases h4:o' d2 d3 with
     | none=>rw [h4] at e;cases e
     | some d4=>
      rw [h4] at e
      cases e
      refine sc H0 S z held ρ σ H3 _ d3 t3 (((ok.same s1).same s2).same s3) h3 fun H4 w' f4 s4 r4 _=>?_
      exact dd' H4 y w' d2 d3 f2 f4 d Q ((r2.same s3).same s4) r4 h4 fun H5 v5 s5 r5=>k H5 v5 [] ((((s1.trans s2).trans s3).trans s4).trans s5) r5 .nil
 ·cases e
theorem fp_le2 (ha:FP X a fa) (hb:FP X b fb) (hc:FP X c fc) (hm:lastMarks [.LtE,.LtE] [b,c]=false:=by with_unfolding_all rfl):FP X (.Compare a [.LtE,.LtE] [b,c] pos) (eChain oLe oLe fa fb fc):=fp_chain op_le op_le does_iB does_iB ha hb hc hm
end
section
variable {X:Cx}{a b o:Expr}{fa fb fv fo:EF}{p p1 p2 p3 pos:Pos}{x cn f:Str}{C:Addr}
def sAppO (i:Nat) (fv:EF):SF:=fun ρ=>match fv ρ,ρ[i]? with
 | some (d,t),some (some (.lst ds,.own))=>if ((isOwn t||imm d)&&decide (ds.length < sizeLine))=true then some (.nx (mutS ρ i (.lst (ds++[d])))) else none
 | _,_=>none
theorem fs_appO (i:Nat) (hv:FP X a fv) (hN:X.N[i]? = some x:=by rfl) (hvis:Vis X.env.scope x:=by first | exact Or.inl rfl | exact Or.inr (Or.inl rfl) | exact Or.inr (Or.inr rfl))
  (hd:(x == ("__debug__":Str))=false:=by decide) (hcd:(x == ("__classdict__":Str))=false:=by decide) (hs:starEach [a] X.env=[(false,eval a X.env)]:=by rfl)
  (hbase:attributeBase (.Name x p1) "append" X.env (eval (.Name x p1) X.env)=eval (.Name x p1) X.env:=by rfl)
  (hfew:((backTo p3 (starEach [a] X.env)).all (fun x=>!x.1)&&(backToKw p3 (keywordEach [] X.env)).all (fun x=>x.1.isSome)&&decide ([a].length + ([]:List Keyword).length + (if ([]:List Keyword).isEmpty then 0 else 1) < 30))=true:=by rfl)
  (hline:(p2.endLine == p3.line)=true:=by rfl) (hsw:swapsWith (.Call (.Attribute (.Name x p1) "append" p2) [a] [] p3) none pos.line X.env=pure false:=by rfl) :
  FS1 X (.Expr (.Call (.Attribute (.Name x p1) "append" p2) [a] [] p3) pos) (sAppO i fv):=by
 obtain ⟨tv,pv',sv⟩:=hv
 refine ⟨_,ps_expr (pe_bm PySem.F.plainAttrs_list PySem.F.slot_list_append PySem.F.type_list_append mt_append (pe_var (i:=i) hN hvis hd hcd) (pa_cons pv' pa_nil hs) hbase hfew hline hs rfl) hsw,fun H0 S z held ρ σ H E o ok e q=>?_⟩
 unfold sAppO at e
 split at e
 ·rename_i d td ds g1 g2
  by_cases hc:((isOwn td||imm d)&&decide (ds.length < sizeLine))=true
  ·rw [if_pos hc] at e
   cases e
   obtain ⟨c1,c3⟩:=(Bool.and_eq_true _ _).mp hc
   obtain ⟨xv,fp,hs',r,zz⟩:=ok.sl i _ _ g2
   refine ⟨xv,hs',?_⟩
   obtain ⟨l,xs,f,rfl,hq,_,_⟩:=r.lst_of
   refine ⟨.inl ⟨rfl,_,hq⟩,?_⟩
   refine sv H0 S z held ρ σ H _ d td ok g1 fun H1 v fd s1 rv gv=>?_
   have r':=r.same s1
   generalize hw:(V.ref l)=w at r' hs'
   cases r' with
   | @lst a' ys _ f' h rs=>
    cases hw
    have ndf:fd.Nodup∧(∀ c∈fd,c∉(l::f'))∧∀ c∈fd,H c=none:=by
     rcases (Bool.or_eq_true _ _).mp c1 with hh | hh
     ·have g:fd.Nodup∧∀ a∈fd,H a=none:=by cases td <;> first | exact gv | cases hh
      refine ⟨g.1,fun c m n=>?_,g.2⟩
      obtain ⟨⟨o,w⟩,_⟩:=ok.zd c i (zz.2 c n)
      rw [g.2 c m] at w;cases w
     ·have:=rv.imm hh
      subst this
      exact ⟨List.nodup_nil,fun c m=>(nomatch m),fun c m=>(nomatch m)⟩
    refine ⟨_,ys,v,rfl,rfl,h,by rw [← rs.length];exact of_decide_eq_true c3,?_⟩
    obtain ⟨n1,n2⟩:=List.nodup_cons.mp zz.1
    have im:Imm H1 (upd H1 l (.lst (ys++[v]))):=Imm.upd h rfl
    have rs':=rs.frame (H':=upd H1 l (.lst (ys++[v]))) (fun c m=>upd_ne fun q=>n1 (by rw [← q];exact m)) im
    have rd':=rv.frame (H':=upd H1 l (.lst (ys++[v]))) (fun c m=>upd_ne fun q=>ndf.2.1 c m (by rw [q];exact List.mem_cons_self)) im
    have nd1:(l::(f'++(fd++[]))).Nodup:=by
     rw [List.append_nil]
     refine List.nodup_cons.mpr ⟨fun m=>?_,List.nodup_append.mpr ⟨n2,ndf.1,fun c mc e me ee=>ndf.2.1 e me (by rw [← ee];exact List.mem_cons_of_mem _ mc)⟩⟩
     rcases List.mem_append.mp m with m | m
     ·exact n1 m
     ·exact ndf.2.1 l m List.mem_cons_self
    have fr1:∀ c∈l::(f'++(fd++[])),c∈l::f'∨H c=none:=by
     intro c m
     rw [List.append_nil] at m
     rcases List.mem_cons.mp m with q | m
     ·exact .inl (by rw [q];exact List.mem_cons_self)
     ·rcases List.mem_append.mp m with m | m
      ·exact .inl (List.mem_cons_of_mem _ m)
      ·exact .inr (ndf.2.2 c m)
    obtain ⟨z',ok'⟩:=ok.put (fp1:=l::(f'++(fd++[]))) (d1:=.lst (ds++[d])) g2 hs' zz ((Imm.of s1).trans im) (fun c o n e=>by rw [upd_ne fun q=>n (by rw [q];exact List.mem_cons_self)];exact s1 c o e)
     (.lst upd_same (Reps.append rs' (.cons rd' .nil))) nd1 fr1
    exact q z' σ _ ok' (.refl _ _)
  ·rw [if_neg hc] at e;cases e
 ·cases e
def sFldApp (i:Nat) (cn f:Str) (fv:EF):SF:=fun ρ=>match fv ρ,ρ[i]? with
 | some (d,_),some (some (.ins c es,.own))=>if c=cn then (match es.lookup f with
  | some (.lst ds)=>if (imm d&&immAll ds&&decide (ds.length < sizeLine))=true then some (.nx (mutS ρ i (.ins c (putFD f (.lst (ds++[d])) es)))) else none
  | _=>none) else none
 | _,_=>none
theorem fs_fldApp (i:Nat) (hC:ClsAt X.K cn C) (na:NoAttr X.K C f) (hv:FP X a fv) (hN:X.N[i]? = some x:=by rfl) (hvis:Vis X.env.scope x:=by first | exact Or.inl rfl | exact Or.inr (Or.inl rfl) | exact Or.inr (Or.inr rfl))
  (hd:(x == ("__debug__":Str))=false:=by decide) (hcd:(x == ("__classdict__":Str))=false:=by decide) (hs:starEach [a] X.env=[(false,eval a X.env)]:=by rfl)
  (hb:attributeBase (.Name x p) f X.env (eval (.Name x p) X.env)=eval (.Name x p) X.env:=by rfl)
  (hbase:attributeBase (.Attribute (.Name x p) f p1) "append" X.env (eval (.Attribute (.Name x p) f p1) X.env)=eval (.Attribute (.Name x p) f p1) X.env:=by rfl)
  (hfew:((backTo p3 (starEach [a] X.env)).all (fun x=>!x.1)&&(backToKw p3 (keywordEach [] X.env)).all (fun x=>x.1.isSome)&&decide ([a].length + ([]:List Keyword).length + (if ([]:List Keyword).isEmpty then 0 else 1) < 30))=true:=by rfl)
  (hline:(p2.endLine == p3.line)=true:=by rfl) (hsw:swapsWith (.Call (.Attribute (.Attribute (.Name x p) f p1) "append" p2) [a] [] p3) none pos.line X.env=pure false:=by rfl) :
  FS1 X (.Expr (.Call (.Attribute (.Attribute (.Name x p) f p1) "append" p2) [a] [] p3) pos) (sFldApp i cn f fv):=by
 obtain ⟨tv,pv',sv⟩:=hv
 refine ⟨_,ps_expr (pe_bm PySem.F.plainAttrs_list PySem.F.slot_list_append PySem.F.type_list_append mt_append (pe_fld (pe_var (i:=i) hN hvis hd hcd) hb) (pa_cons pv' pa_nil hs) hbase hfew hline hs rfl) hsw,fun H0 S z held ρ σ H E o ok e q=>?_⟩
 unfold sFldApp at e
 split at e
 ·rename_i d td c es g1 g2
  by_cases hc:c=cn
  ·subst hc
   rw [if_pos rfl] at e
   split at e
   ·rename_i ds hl
    by_cases hc:(imm d&&immAll ds&&decide (ds.length < sizeLine))=true
    ·rw [if_pos hc] at e
     cases e
     obtain ⟨c1,c3⟩:=(Bool.and_eq_true _ _).mp hc
     obtain ⟨c1,c2⟩:=(Bool.and_eq_true _ _).mp c1
     obtain ⟨xv,fp,hs',r,zz⟩:=ok.sl i _ _ g2
     refine ⟨xv,hs',?_⟩
     obtain ⟨b0,dx,fs,u,gf,rfl,h1,h2,h3,h4,h5,h6⟩:=r.place hC.ns zz.1 hl
     refine ⟨b0,C,dx,fs,u,rfl,h1,hC.cl,na,h2,?_⟩
     obtain ⟨l,xs,f0,rfl,hq,_,_⟩:=h3.lst_of
     refine ⟨.inl ⟨rfl,_,hq⟩,?_⟩
     refine sv H0 S z held ρ σ H _ d td ok g1 fun H1 v fd s1 rv gv=>?_
     have hn:=rv.imm c1
     subst hn
     generalize hw:(V.ref l)=w at h3 h6
     cases h3 with
     | @lst a' ys _ f' h rs=>
      cases hw
      have hn:=rs.imm c2
      subst hn
      have hl1:=s1 _ _ h
      refine ⟨_,ys,v,rfl,rfl,hl1,by rw [← rs.length];exact of_decide_eq_true c3,?_⟩
      have im:Imm H1 (upd H1 l (.lst (ys++[v]))):=Imm.upd hl1 rfl
      obtain ⟨fp1,k1,k2,k3⟩:=h6 (upd H1 l (.lst (ys++[v]))) (.lst (ds++[d])) [l] ((Imm.of s1).trans im) (fun c o n e=>by rw [upd_ne fun q=>n (by rw [q];exact List.mem_cons_self)];exact s1 c o e)
       (.lst upd_same (Reps.append (f:=[]) (g:=[]) ((rs.same s1).frame (fun a m=>nomatch m) im) (Reps.cons (f1:=[]) (f2:=[]) (rv.frame (fun a m=>nomatch m) im) .nil))) h4 (fun c m=>.inl m)
      obtain ⟨z',ok'⟩:=ok.put g2 hs' zz ((Imm.of s1).trans im) (fun c o n e=>by rw [upd_ne fun q=>n (by rw [q];exact h5 l List.mem_cons_self)];exact s1 c o e) k1 k2 k3
      exact q z' σ _ ok' (.refl _ _)
    ·rw [if_neg hc] at e;cases e
   ·cases e
  ·rw [if_neg hc] at e;cases e
 ·cases e
end
end L2.Ev
namespace L2.SetT
open PySem
def Rs (t:SetTable):Prop:=t.place.toList.Pairwise (· < ·)∧t.dummies=#[]
def Tl (t:SetTable) (led:Bool):Prop:=t.led=led∧Rs t
section
variable {prog:Program}{w:World}{K:Type} [DecidableEq K] (knd:KeyKind prog w K)
structure Full (S:K→Bool) (led:Bool) (es:Array (Int×Value)) (t:SetTable):Prop where
 el:ElemsOf knd es.toList
 me:∀ k,S k=true↔∃ e∈es.toList,knd.is k e.2=true
 bd:es.size < scanBound
 ft:t.fits es.size=true
 tl:Tl t led
def SetL (h:Heap) (a:Addr) (S:K→Bool) (n:Nat) (led:Bool):Prop:=
 ∃ o es ep t,h.get? a=some o∧o.ExactSet∧o.data=.set es ep t∧ElemsOf knd es.toList∧(∀ k,S k=true↔∃ e∈es.toList,knd.is k e.2=true)
  ∧ es.size < scanBound∧t.fits es.size=true∧es.size=n∧Tl t led
variable {knd}
variable {A:Around}{E:Value→Shared→Prop}{s:Shared}{led:Bool}
theorem SetL_store {h:Heap}{a:Addr}{o:Obj}{es:Array (Int×Value)}{ep:Nat}{t:SetTable} (ho:h.get? a=some o) (hex:o.ExactSet) (hd:o.data=.set es ep t)
  {es':Array (Int×Value)}{t':SetTable}{S':K→Bool} (hel:ElemsOf knd es'.toList) (hmem:∀ k,S' k=true↔∃ e∈es'.toList,knd.is k e.2=true) (hb:es'.size < scanBound) (hf:t'.fits es'.size=true) (hl:Tl t' led) :
  (h.update a (Obj.putSet es' t')).get? a=some { o with data:=.set es' (ep + 1) t' }∧SetL knd (h.update a (Obj.putSet es' t')) a S' es'.size led:=by
 obtain ⟨hg,_⟩:=SetOf_store (knd:=knd) ho hex hd hel hmem hb hf
 exact ⟨hg,_,es',ep + 1,t',hg,hex,rfl,hel,hmem,hb,hf,rfl,hl⟩
theorem stored {a:Addr}{o:Obj}{es:Array (Int×Value)}{ep:Nat}{t:SetTable}{es':Array (Int×Value)}{t':SetTable}{S':K→Bool}{Q:Unit→Shared→Prop} (ho:s.heap.get? a=some o) (hex:o.ExactSet) (hd:o.data=.set es ep t) (f:Full knd S' led es' t')
  (h:∀ h',Heap.SameBut a s.heap h'→h'.get? a=some { o with data:=.set es' (ep + 1) t' }→SetL knd h' a S' es'.size led→Q () { s with heap:=h' }):wpAny (model prog w) A (storeSet a es' t') Q E s:=by
 obtain ⟨q1,q2⟩:=SetL_store (knd:=knd) (led:=led) ho hex hd f.el f.me f.bd f.ft f.tl
 exact wpAny_storeSet_of ho hd (h _ (Heap.SameBut.update s.heap a _) q1 q2) (fits_of_scanBound f.bd)
end
def IsSI (h:Heap) (I:Addr) (first:Value) (i:Nat) (a:Addr) (n ep:Nat):Prop:=∃ o,h.get? I=some o∧o.cls=.type "set_iterator"∧o.data=.fields #[first,.int i 0,.ref a,.int n 0,.int ep 0]
theorem IsSI.at {h h':Heap}{I a:Addr}{first:Value}{i n ep:Nat} (x:IsSI h I first i a n ep) (e:∀ o,h.get? I=some o→h'.get? I=some o):IsSI h' I first i a n ep:=let ⟨o,ho,r⟩:=x;⟨o,e o ho,r⟩
end L2.SetT
namespace L2.Ev
open PySem PySem.Spec PyProof.Rows L2.SetT
theorem Rep.dic_of {K:PySem.W.Frag}{H:Hp}{es:List (Key×D)}{v:V}{fp:List Addr} (r:Rep K H (.dic es) v fp):∃ a kvs,v=.ref a∧H a=some (.dK kvs)∧es.map (·.1)=kvs.map (·.1):=by
 cases r with
 | dic h e _=>exact ⟨_,_,rfl,h,e⟩
end L2.Ev
namespace L2
open PySem PySem.Spec PyProof.Rows
section
variable {X:Cx}{pins:List (Addr×Obj)}{σ:St}{H:Hp}{s:Shared}
theorem gone_ok {M:Model}{A:Around}{E:Value→Shared→Prop}{i:Nat}{n:Str}{pos:Pos}{Q:Unit→Shared→Prop} (I:Inv X pins σ H s) (hN:X.N.Nodup) (hi:X.N[i]? = some n) (hk:X.env.scope.names.lookup n=some .local)
  (h:∀ s',Inv X pins (σ.set i none) H s'→Q () s'):wpAny M A (do bindName X.env n .none;unbindBehindTheSuite X.env n pos) Q E s:=by
 obtain ⟨m,hn,hl⟩:=id I.loc
 have hcls:(X.env.scope.kind == .class||(X.env.scope.kind == .module&&X.env.locals != X.env.globals))=false:=by rw [I.ok.kind];rfl
 have cne:=I.cne
 have lo:∀ {b:Addr}{o:Obj},X.s₀.heap.get? b=some o→b≠X.env.locals:=fun {b o} e=>Nat.ne_of_lt (Nat.lt_of_lt_of_le (Heap.lt_size e) I.ok.above)
 refine wpAny_nameGoes_keeps hk hn hcls fun h' v hn' hs=>?_
 refine h _ ⟨I.ok,I.os,I.bare,⟨fun b o e n hb hx=>(hs.2 b (lo e)).trans (I.base.keep b o e n hb hx),fun b o e n hb hx=>?_,I.base.free,fun b o e hx=>?_,I.base.tups,I.base.frzs,I.base.tbls⟩,⟨_,hn',fun j y v' e1 e2 e3=>?_⟩,fun y c e=>?_,I.free,I.freeC,fun p hp=>?_,
  I.hok.tracked fun b u o hb q=>(hs.2 b fun z=>by rw [z,I.free] at hb;cases hb).trans q,by simpa using I.len,I.hq⟩
 ·obtain ⟨sl,e1⟩:=I.base.slot b o e n hb hx
  exact ⟨sl,(hs.2 b (lo e)).trans e1⟩
 ·obtain ⟨o',e1⟩:=I.base.there b o e hx
  exact ⟨o',(hs.2 b (lo e)).trans e1⟩
 ·have hj:j≠i:=fun z=>by
   subst z
   have hlt:j < σ.length:=by rw [I.len];exact (List.getElem?_eq_some_iff.mp hi).1
   rw [List.getElem?_set_self hlt] at e2
   cases e2
  rw [List.getElem?_set_ne (Ne.symm hj)] at e2
  obtain ⟨u',r',q⟩:=hl j y v' e1 e2 e3
  refine ⟨u',r',?_⟩
  rcases q with ⟨k,e⟩ | ⟨k,c,e,z⟩
  ·refine .inl ⟨k,?_⟩
   have:y≠n:=fun e=>hj (nodup_ix hN e1 (e ▸ hi))
   exact (if_neg this).trans e
  ·exact .inr ⟨k,c,e,z.sameBut hs (cne y c e)⟩
 ·obtain ⟨w',z⟩:=I.cell y c e
  exact ⟨w',z.sameBut hs (cne y c e)⟩
 ·obtain ⟨e,n,ne,nf,d⟩:=I.pin p hp
  exact ⟨(hs.2 p.1 ne).trans e,n,ne,nf,d⟩
end
def Catches (K:PySem.W.Frag) (C D:Addr):Prop:=∃ nm q N bs bm hdct sn sub ab col dd k0 k1 k2 k3 k5 newId,K.lookup C=some (excClassObj nm q C N bs bm hdct sn sub ab col dd k0 k1 k2 k3 k5 newId) ∧
 ∃ nm' q' N' bs' bm' hdct' sn' sub' ab' col' dd' j0 j1 j2 j3 j5 newId',K.lookup D=some (excClassObj nm' q' D N' bs' bm' hdct' sn' sub' ab' col' dd' j0 j1 j2 j3 j5 newId')∧bm'.contains (.type "BaseException")=true∧(Value.ref C::bm).contains (.ref D)=true
section
variable {X:Cx}{pins:List (Addr×Obj)}{σ:St}{H:Hp}{s:Shared}{pay:Option Addr}{a C D:Addr}{x n:Str}{i:Nat}{px pos:Pos}{b0:Stmt}{suite:List Stmt}{W:Ends}
theorem match_ok {R:Result→Shared→Prop} (L:Landed X pins σ H a (.ref C) pay s) (cat:Catches X.K C D) (hg:Gl X x) (hm:X.mg x=some (.ref D)) (k:R (.ok .brk) s) (hdb:(x == ("__debug__":Str))=false:=by decide) :
  codeAny (model X.prog X.w) (X.A.mark (some (.ref a))) (.handlers (.ref a) [.ExceptHandler (some (.Name x px)) none [] pos] X.env) R s:=by
 obtain ⟨nm,q,N,bs,bm,hdct,sn,sub,ab,col,dd,k0,k1,k2,k3,k5,newId,hC,nm',q',N',bs',bm',hdct',sn',sub',ab',col',dd',j0,j1,j2,j3,j5,newId',hD,hb,hc⟩:=cat
 have I:=L.known.choose_spec.2.inSuite a L.known.choose_spec.1.hq
 have KI:=L.inv.kIn
 obtain ⟨oe,vs,a0,T,oT,ts,h1,h2,_⟩:=L.ob
 refine codeAny_handlers_test (ld_glob (X:=X.inSuite a) I hg hm ?_ hdb)
 obtain ⟨hh,g,d,t,os⟩:=s
 refine matches_own (KI _ _ hC) (KI _ _ hD) h1 h2 hb ?_
 rw [hc]
 exact k
theorem handle_as (L:Landed X pins σ H a (.ref C) pay s) (hc:X.calm=true) (hx:X.ex=[]) (hst:X.stack=X.env::X.outer) (hf:X.env.frame=some X.env.locals) (cat:Catches X.K C D) (hg:Gl X x) (hm:X.mg x=some (.ref D))
  (hN:X.N.Nodup) (hi:X.N[i]? = some n) (hk:X.env.scope.names.lookup n=some .local)
  (h:∀ s5 H5,Knows H H5 a (.ref C) pay→Inv (X.inSuite a) pins (σ.set i (some (.ref a))) H5 s5 →
   wpAny (model X.prog X.w) (X.A.mark (some (.ref a))) (execs (b0::suite) X.env) (SP (X.inSuite a) pins { nx:=fun σ H=>W.nx (σ.set i none) H,rt:=W.rt,bk:=fun σ H=>W.bk (σ.set i none) H,ct:=fun σ H=>W.ct (σ.set i none) H }) (fun _ _=>False) s5)
  (hdb:(x == ("__debug__":Str))=false:=by decide) :
  wpAny (model X.prog X.w) X.A (noteFrame (.ref a) X.env) (fun _ s2=>wpAny (model X.prog X.w) X.A (setFlight (.ref a) none) (fun _ s3=>wpAny (model X.prog X.w) X.A (handleBy (.ref a) X.env [.ExceptHandler (some (.Name x px)) (some n) (b0::suite) pos]) (SP X pins W) X.xe s3) X.xe s2) X.xe s:=by
 refine L.looks hx hst hf fun s3 L3=>wpAny_handleBy_cons (match_ok L3 cat hg hm ?_ hdb) (fun z=>nomatch z)
 refine codeAny_handlers_suite_as (L3.again hx fun s4 L4=>?_)
 obtain ⟨H5,kn,I4⟩:=L4.known
 have I4:=I4.inSuite a kn.hq
 refine store_ok (X:=X.inSuite a) I4 hN hi (.inl hk) (v:=V.ref a) (show RelV (V.ref a) (Value.ref a) from rfl) (fun s5 I5=>?_) (.inr hk)
 refine wpAny_mono (h s5 H5 kn I5) (fun f s6 q=>?_) fun _ _ z=>False.elim z
 have fin:∀ {σ6:St}{H6:Hp}{Z:Shared→Prop},Inv (X.inSuite a) pins σ6 H6 s6→(∀ s7,Inv X pins (σ6.set i none) H6 s7→Z s7)→wpAny (model X.prog X.w) X.A (do bindName X.env n .none;unbindBehindTheSuite X.env n pos) (fun _ s7=>Z s7) X.xe s6:=fun {σ6 H6 Z} I6 k=>
  gone_ok (L4.inv.offSuite hc I6) hN hi hk k
 cases f with
 | next=>obtain ⟨σ6,H6,I6,q6⟩:=q;exact fin I6 fun s7 I7=>⟨_,H6,I7,q6⟩
 | brk=>obtain ⟨σ6,H6,I6,q6⟩:=q;exact fin I6 fun s7 I7=>⟨_,H6,I7,q6⟩
 | cont=>obtain ⟨σ6,H6,I6,q6⟩:=q;exact fin I6 fun s7 I7=>⟨_,H6,I7,q6⟩
 | ret u=>obtain ⟨v,σ6,H6,I6,r6,q6⟩:=q;exact fin I6 fun s7 I7=>⟨v,_,H6,I7,r6,q6⟩
end
open PySem PySem.Spec PySem.W PySem.Calls PyProof.Rows Builtin Builtin.ObjectAttr Builtin.Getset_descriptor
structure ExcKit (K:Frag) (C:Addr):Prop where
 ga:findIn K (.ref C) "__getattribute__"=some (some (.builtin "BaseException.__getattribute__"))
 gh:findIn K (.ref C) "__getattr__"=some none
 at_:findIn K (.ref C) "__class__"=some (some (.builtin "object.__class__"))
 get:specialIn K (.builtin "object.__class__") "__get__"=some (some (.builtin "getset_descriptor.__get__"))
 tk:takesIn K (.builtin "object.__class__")=some true
 mo:mroIn K C (.type "object")=some true
 mb:mroIn K C (.type "BaseException")=some true
 cl:(clsIn K C).isSome=true
section
variable {prog:Program}{w:World}{A:Around}{E:Value→Shared→Prop}{s:Shared}{K:Frag}{x C:Addr}{ox:Obj}
theorem exc_class_get {R:Result→Shared→Prop}{tp:Value} (X:K.In s.heap) (hx:s.heap.get? x=some ox) (hc:ox.cls=.ref C) (hm:mroIn K C (.type "object")=some true)
  (h:R (.ok (.ret (.ref C))) s):codeAny (model prog w) A (.call (.builtin "getset_descriptor.__get__") ⟨[.builtin "object.__class__",.ref x,tp],[]⟩) R s:=by
 obtain ⟨hh,g,dr,t,os⟩:=s
 have L0:Looks (model prog w) hh (typeOf (.ref x)) (.ref C):=hc ▸ (Looks.ld hx).andThen .now
 have L1:=looks_mroIn (M:=model prog w) X hm
 refine codeAny_call_builtin KF.slot_gs.plain KF.entry_gs (KF.slot_gs.check _ _ _ _ _ _ _ _ KF.type_class (KF.args_gs _ _ _) ?_)
 unfold Builtin.«getset_descriptor.__get__» descrGet
 rw [dga_obj]
 refine wpAny_bind (wpAny_pure ?_)
 unfold descrGetter descrCheckInstance descrNameAndClass isInstance
 simp only [KF.owner_class]
 repeat lk
 refine ⟨Code.quiet_builtin _ (by decide +kernel),codeAny_builtin KF.entry_class ?_⟩
 unfold Builtin.«object.__class__» shownTypeOf
 repeat lk
 exact h
theorem exc_find (X:K.In s.heap) (k:ExcKit K C):Looks (model prog w) s.heap (find (.ref x) (.ref C) "__class__") (.bind (.builtin "getset_descriptor.__get__") (.builtin "object.__class__")):=by
 have L1:=looks_findIn (M:=model prog w) X k.at_
 have L2:Looks (model prog w) s.heap (getOf (some (.builtin "object.__class__"))) (some (.builtin "getset_descriptor.__get__")):=looks_specialIn X k.get
 have L3:=looks_takesIn (M:=model prog w) X k.tk
 exact L1.andThen (L2.andThen ((show Looks (model prog w) s.heap (dataDescriptor? (some (.builtin "object.__class__")) (some (.builtin "getset_descriptor.__get__"))) (some (.builtin "getset_descriptor.__get__",.builtin "object.__class__")) from L3.andThen .now).andThen (Looks.tag .now)))
theorem exc_check {M:Model}{nameV:Value}{Q:Unit→Shared→Prop} (X:K.In s.heap) (k:ExcKit K C) (hx:s.heap.get? x=some ox) (hc:ox.cls=.ref C) (hq:Q () s):wpAny M A (checkBuiltinCall "BaseException.__getattribute__" ⟨[.ref x,nameV],[]⟩) Q E s:=by
 obtain ⟨hh,g,dr,t,os⟩:=s
 have hk:builtinKind "BaseException.__getattribute__"=some .slot:=by decide +kernel
 have hsplit:splitId "BaseException.__getattribute__"=some ("BaseException","__getattribute__"):=by decide +kernel
 have L0:Looks M hh (typeOf (.ref x)) (.ref C):=hc ▸ (Looks.ld hx).andThen .now
 have L1:=looks_mroIn (M:=M) X k.mb
 have LI:Looks M hh (isInstance (.ref x) (.type "BaseException")) true:=L0.andThen L1
 have ha:=F.args_bexc_ga (.ref x) nameV
 simp only [checkBuiltinCall,hk,hsplit]
 refine wpAny_bind (LI.at ?_)
 repeat (first | assumption | wp_step)
theorem exc_entry {tk:Tok}{Q:Fin→Shared→Prop} (X:K.In s.heap) (k:ExcKit K C) (hx:s.heap.get? x=some ox) (hc:ox.cls=.ref C) (hq:Q (.done (.ret (.ref C))) s) :
  wpAny (model prog w) A (Builtin.«object.__getattribute__» ⟨[.ref x,.str "__class__" tk],[]⟩) Q E s:=by
 obtain ⟨hh,g,dr,t,os⟩:=s
 have L0:Looks (model prog w) hh (typeOf (.ref x)) (.ref C):=hc ▸ (Looks.ld hx).andThen .now
 have L1:=exc_find (prog:=prog) (w:=w) (s:=⟨hh,g,dr,t,os⟩) (x:=x) X k
 refine wpAny_bind (wpAny_pure (wpAny_bind (wpAny_pure (wpAny_bind (L0.at (wpAny_bind (L1.at ?_)))))))
 show wpAny _ _ (holding [Value.builtin "object.__class__"] (call (.builtin "getset_descriptor.__get__") [.builtin "object.__class__",.ref x,.ref C]) >>= ret) _ _ _
 exact wpAny_bind (wpAny_holding (wpAny_call (exc_class_get (s:=⟨hh,g,dr,t,os⟩) X hx hc k.mo (wpAny_pure hq))))
theorem exc_class {Q:Option Value→Shared→Prop} (X:K.In s.heap) (k:ExcKit K C) (hx:s.heap.get? x=some ox) (hc:ox.cls=.ref C) (h:Q (some (.ref C)) { s with toks:=s.toks + 1 }):wpAny (model prog w) A (getAttr? (.ref x) "__class__") Q E s:=by
 obtain ⟨hh,g,dr,t,os⟩:=s
 have L0:Looks (model prog w) hh (typeOf (.ref x)) (.ref C):=hc ▸ (Looks.ld hx).andThen .now
 have L1:=looks_findIn (M:=model prog w) X k.ga
 have L2:=looks_findIn (M:=model prog w) X k.gh
 have f3:=F.attr_ValueError.ga.bind (.ref x)
 have hx0:(false&&onTheHeap (Value.builtin "BaseException.__getattribute__"))=false:=rfl
 have hx2:(Value.builtin "BaseException.__getattribute__" == Value.builtin "object.__getattribute__")=false:=by decide +kernel
 have hx1:(onTheHeap (Value.ref C)&&Value.builtin "BaseException.__getattribute__" == Value.builtin "object.__getattribute__")=false:=by rw [hx2];rfl
 unfold getAttr? getAttrBy? getAttrBy
 refine wpAny_bind (wpAny_mkText (wpAny_bind (wpAny_attempt (wpAny_holding (wpAny_bind (L0.at (wpAny_bind (L1.at ?_))))))))
 dsimp only
 rw [if_neg (by rw [hx1];decide)]
 unfold getAttrByItsOwn hookBefore
 refine wpAny_bind ?_
 rw [if_pos (show onTheHeap (Value.ref C)=true from rfl)]
 refine L2.at ?_
 refine wpAny_bind (wpAny_attempt (wpAny_holding ?_))
 unfold callGetattribute
 rw [if_neg (by rw [hx0];decide)]
 unfold boundAndCalled
 rw [f3]
 refine wpAny_bind (wpAny_pure (wpAny_call ?_))
 refine codeAny_call_builtin F.attr_ValueError.ga.plain F.entry_bexc_ga (exc_check (s:=⟨hh,g,dr,t + 1,os⟩) X k hx hc (exc_entry (s:=⟨hh,g,dr,t + 1,os⟩) X k hx hc ?_))
 show wpAny _ _ (handedOut (.ref C)) _ _ _
 exact wpAny_pure (wpAny_pure h)
end
theorem kitx_exc {K:Frag}{x C:Addr} (k:ExcKit K C):KitX K (.ref x) (.ref C) (fun h=>∃ o,h.get? x=some o∧o.cls=.ref C) where
 ty:=fun _ _ _ ⟨o,h1,h2⟩=>h2 ▸ (Looks.ld h1).andThen .now
 it:=fun _ _ X _=>by
  obtain ⟨cd,hcd⟩:=Option.isSome_iff_exists.mp k.cl
  unfold clsIn at hcd
  split at hcd
  ·rename_i c' d' cd' sl' ho
   intro A' Q' E' s' k q
   unfold isType loadHead
   exact wpAny_bind (wpAny_loadPart (k _ _ (X _ _ ho)) (wpAny_pure q))
  ·cases hcd
 ne:=fun h tp dd its n sl X htp=>by
  obtain ⟨cd,hcd⟩:=Option.isSome_iff_exists.mp k.cl
  refine Bool.eq_false_iff.mpr fun q=>?_
  have e:C=tp:=Value.ref.inj (beq_iff_eq.mp q)
  subst e
  unfold clsIn at hcd
  split at hcd
  ·rename_i c' d' cd' sl' ho
   have z:=(X _ _ ho).symm.trans htp
   cases z
  ·cases hcd
 ca:=fun X ⟨o,h1,h2⟩ q=>exc_class X k h1 h2 q
theorem call_isiE {X:Cx}:CallR X (.builtin "isinstance") (fun xs H Q=>∃ a C c cv b de ob,xs=[V.ref a,c]∧(∀ u,RelV c u→u=cv)∧H a=some (ExcF ob a (.ref C) de)∧ExcKit X.K C∧kitOne X.K (.ref C) cv=some b∧Q (.bl b) H):=by
 intro pins s σ H xs us Q I r h
 obtain ⟨a,C,c,cv,bb,de,ob,rfl,hc,ha,k,e,q⟩:=h
 obtain ⟨u,w',rfl,ru,rw'⟩:=vals2 r
 obtain rfl:=hc w' rw'
 cases (show u=Value.ref a from ru)
 exact kia_one (kitx_exc k) I.kIn (excF_get I.hok ha) e (fun z=>nomatch z) fun tk=>⟨.bl bb,H,I.tok tk,rfl,q⟩
theorem pe_own {X:Cx}{x:Str}{pos:Pos}{C:Addr} (hg:Gl X x) (hm:X.mg x=some (.ref C)) (hdb:(x == ("__debug__":Str))=false:=by decide):PE X (.Name x pos) (fun _ H Q=>Q (.ref C) H):=fun pins s σ H Q I h=>ld_glob I hg hm ⟨V.ref C,H,I,(rfl:Value.ref C=Value.ref C),h⟩ hdb
end L2
namespace L2.Ev
open PySem PySem.Spec PyProof.Rows
def wk (X:Cx) (st:Stmt):TS:=fun W σ H=>∀ (pins:List (Addr×Obj)) (s:Shared),Inv X pins σ H s→wpAny (model X.prog X.w) X.A (exec st X.env) (SP X pins W) X.xe s
theorem ps_wk {X:Cx}{st:Stmt}:PS X st (wk X st):=fun pins s _ _ _ I h=>h pins s I
def sRaise (cn:Str) (g:AF):SF:=fun ρ=>match g ρ with
 | some _=>some (.er true (cn,none) ρ)
 | none=>none
section
variable {X:Cx}{x cn:Str}{C:Addr}{np cpos pos:Pos}{e:Expr}{es:List Expr}{g:AF}
theorem fs_raise (hc:X.calm=true) (cl:ExcCls X.K C) (hn:PySem.W.nsIn X.K mainGlobals cn=some (some (.ref C))) (hm:X.mg x=some (.ref C)) (ha:FA X (e::es) g) (hl:(e::es).length≤1000:=by decide) (hx:X.ex=[]:=by rfl) (hg:Gl X x:=by rfl) (hdb:(x == ("__debug__":Str))=false:=by decide)
  (he:starEach (e::es) X.env=(false,eval e X.env)::starEach es X.env:=by rfl) (hpl:(backTo cpos (starEach es X.env)).any (·.1)=false:=by rfl):FS1 X (.Raise (some (.Call (.Name x np) (e::es) [] cpos)) none pos) (sRaise cn g):=by
 obtain ⟨t,pa,hz,qa⟩:=ha
 refine ⟨_,ps_wk,fun H0 S z held ρ σ H E o ok e0 k=>?_⟩
 unfold sRaise at e0
 cases h1:g ρ with
 | none=>rw [h1] at e0;cases e0
 | some qs=>
  rw [h1] at e0
  cases e0
  obtain ⟨ES,th,kk⟩:=k
  intro pins s I
  refine ps_raise hc hx th cl hg hm pa hdb he hpl pins s σ H E I ?_
  refine qa H0 S z held ρ σ H _ qs ok h1 fun H1 vs fp s1 r1 _=>⟨?_,kk z σ H1 C (ok.same s1) (.refl _ _) hn⟩
  rw [← r1.length,List.length_map,hz ρ qs h1]
  exact Nat.le_of_lt (small1000 hl)
end
inductive ER where
 | ok (d:D) (ρ:Rho) | er (cn:XN) (ρ:Rho)
def PostX (X:Cx) (H0:Hp) (S:List Addr) (held:List Held) (σ:St) (Q:VK) (E:XK):ER→Prop
 | .ok d ρ=>∀ z H1 H' v fp,Ok X.K H0 S z held ρ σ H1→Same H1 H'→Rep X.K H' d v fp→TagOk z H1 .own fp→Q v H'
 | .er cn ρ=>∀ z H' C,Ok X.K H0 S z held ρ σ H'→PySem.W.nsIn X.K mainGlobals cn.1=some (some (.ref C))→E (.ref C) cn.2 H'
abbrev XR:=Rho→Option ER
def FE (X:Cx) (e:Expr) (f:XR):Prop:=∃ t,PX X e t∧∀ (H0:Hp) (S:List Addr) (z:Addr→Option Nat) (held:List Held) (ρ:Rho) (σ:St) (H:Hp) (Q:VK) (E:XK) (r:ER),
 Ok X.K H0 S z held ρ σ H→f ρ=some r→PostX X H0 S held σ Q E r→t σ H Q E
theorem throwsT_no {X:Cx}:ThrowsT X (fun _ _ _ _=>False):=fun _ _ _ _ _ _ _ _ z=>z.elim
def sSetE (i:Nat) (f:XR):SF:=fun ρ=>match f ρ with
 | some (.ok d ρ')=>some (.nx (setS ρ' i d .own))
 | some (.er cn ρ')=>some (.er false cn ρ')
 | none=>none
def sExprE (f:XR):SF:=fun ρ=>match f ρ with
 | some (.ok d ρ')=>some (.nx ρ')
 | some (.er cn ρ')=>some (.er false cn ρ')
 | none=>none
section
variable {X:Cx}{e:Expr}{f:XR}{pos:Pos}
theorem fs_setE (i:Nat) {x:Str}{pos':Pos} (he:FE X e f) (hN:X.N.Nodup) (hi:X.N[i]? = some x:=by rfl) (hx:Loc X.env.scope x:=by first | exact Or.inl rfl | exact Or.inr rfl)
  (hs:swapsWith e (some (.Name x pos')) pos.line X.env=pure false:=by rfl) (hf:X.fn x=true∨X.env.scope.names.lookup x=some .local:=by first | exact .inl rfl | exact .inr rfl) (hself:kpt X x=false:=by rfl):FS1 X (.Assign [.Name x pos'] e pos) (sSetE i f):=by
 obtain ⟨t,p,q⟩:=he
 refine ⟨_,ps_wk,fun H0 S z held ρ σ H E o ok e k=>?_⟩
 unfold sSetE at e
 cases h:f ρ with
 | none=>rw [h] at e;cases e
 | some r=>
  rw [h] at e
  intro pins s I
  cases r with
  | ok d ρ1=>
   cases e
   refine ps_setX throwsT_no hN hi hx p hs hf pins s σ H E I ?_
   exact q H0 S z held ρ σ H _ _ _ ok h fun z1 H1 H2 v fp ok1 s1 r1 g1=>ok1.stored (t:=.own) s1 r1 g1 fun z' ok'=>k z' _ H2 ok' (.set hi hself)
  | er cn ρ1=>
   cases e
   obtain ⟨ES,th,kk⟩:=k
   refine ps_setX th hN hi hx p hs hf pins s σ H E I ?_
   exact q H0 S z held ρ σ H _ _ _ ok h fun z1 H1 C ok1 hC=>kk z1 σ H1 C ok1 (.refl _ _) hC
theorem fs_exprE (he:FE X e f) (hs:swapsWith e none pos.line X.env=pure false:=by rfl):FS1 X (.Expr e pos) (sExprE f):=by
 obtain ⟨t,p,q⟩:=he
 refine ⟨_,ps_wk,fun H0 S z held ρ σ H E o ok e k=>?_⟩
 unfold sExprE at e
 cases h:f ρ with
 | none=>rw [h] at e;cases e
 | some r=>
  rw [h] at e
  intro pins s I
  cases r with
  | ok d ρ1=>
   cases e
   refine ps_exprX throwsT_no p hs pins s σ H E I ?_
   exact q H0 S z held ρ σ H _ _ _ ok h fun z1 H1 H2 v fp ok1 s1 r1 g1=>k z1 σ H2 (ok1.same s1) (.refl _ _)
  | er cn ρ1=>
   cases e
   obtain ⟨ES,th,kk⟩:=k
   refine ps_exprX th p hs pins s σ H E I ?_
   exact q H0 S z held ρ σ H _ _ _ ok h fun z1 H1 C ok1 hC=>kk z1 σ H1 C ok1 (.refl _ _) hC
end
def sTryAs (i:Nat) (sub:Str→Bool) (f g:SF):SF:=fun ρ=>match f ρ with
 | some (.er false cn ρ')=>if sub cn.1=true then (match g (ρ'.set i (some (.exc cn,.own))) with
  | some (.nx ρ2)=>some (.nx (ρ2.set i none))
  | some (.bk ρ2)=>some (.bk (ρ2.set i none))
  | some (.ct ρ2)=>some (.ct (ρ2.set i none))
  | some (.rt d)=>some (.rt d)
  | _=>none) else none
 | some (.er true _ _)=>none
 | o=>o
theorem rep_known {K:PySem.W.Frag}{H H':Hp}{cn:XN}{a C:Addr} (hC:PySem.W.nsIn K mainGlobals cn.1=some (some (.ref C))) (k:Knows H H' a (.ref C) cn.2):Rep K H' (.exc cn) (.ref a) []:=by
 obtain ⟨c,pay⟩:=cn
 obtain ⟨ob,vs,_,_,k⟩:=k
 cases pay with
 | none=>cases k;exact .exc hC upd_same fun _ e=>by cases e
 | some n=>obtain ⟨dx,ne,_,rfl⟩:=k;exact .exc hC upd_same fun m e=>by cases e;exact ⟨dx,rfl,by rw [upd_ne ne,upd_same]⟩
theorem Ok.unset {K:PySem.W.Frag}{H0:Hp}{S:List Addr}{z:Addr→Option Nat}{held:List Held}{ρ:Rho}{σ:St}{H:Hp} (ok:Ok K H0 S z held ρ σ H) (i:Nat):Ok K H0 S z held (ρ.set i none) (σ.set i none) H:=by
 have at_:∀ {j:Nat}{w:D×Tag},(ρ.set i none)[j]? = some (some w)→j≠i∧ρ[j]? = some (some w):=fun {j w} e=>by
  have hj:j≠i:=fun q=>by
   subst q
   by_cases hl:j < ρ.length
   ·rw [List.getElem?_set_self hl] at e;cases e
   ·rw [List.getElem?_eq_none (by rw [List.length_set];exact Nat.le_of_not_lt hl)] at e;cases e
  exact ⟨hj,by rw [List.getElem?_set_ne (Ne.symm hj)] at e;exact e⟩
 refine ⟨fun j d t e=>?_,fun p m=>?_,ok.zd,ok.en,by rw [List.length_set,List.length_set];exact ok.ln⟩
 ·obtain ⟨hj,e⟩:=at_ e
  obtain ⟨v,fp,a,b,c⟩:=ok.sl j d t e
  exact ⟨v,fp,by rw [List.getElem?_set_ne (Ne.symm hj)];exact a,b,c⟩
 ·obtain ⟨r,h⟩:=ok.hl p m
  exact ⟨r,fun a ha j q=>let ⟨h1,h2⟩:=h a ha j q;⟨h1,fun d e=>h2 d (at_ e).2⟩⟩
section
variable {X:Cx}{x n:Str}{Dc:Addr}{px hpos pos:Pos}{body suite:List Stmt}{b0:Stmt}{f g:SF}{sub:Str→Bool}
theorem sp_offTry {pins:List (Addr×Obj)}{R:XS}{E:Ends}{fl:Flow}{s:Shared} (q:SP (X.inTry pins R) [] E fl s):SP X pins E fl s:=by
 cases fl with
 | next=>obtain ⟨σ',H',I,q⟩:=q;exact ⟨σ',H',I.offTry,q⟩
 | brk=>obtain ⟨σ',H',I,q⟩:=q;exact ⟨σ',H',I.offTry,q⟩
 | cont=>obtain ⟨σ',H',I,q⟩:=q;exact ⟨σ',H',I.offTry,q⟩
 | ret u=>obtain ⟨v,σ',H',I,r,q⟩:=q;exact ⟨v,σ',H',I.offTry,r,q⟩
theorem try_core {h0:ExceptHandler}{pins:List (Addr×Obj)}{s:Shared}{H0:Hp}{S:List Addr}{z:Addr→Option Nat}{held:List Held}{ρ:Rho}{σ:St}{H:Hp}{E:Ends}{o1:Out} (hb:∀ pins R,FS (X.inTry pins R) body f) (I:Inv X pins σ H s) (ok:Ok X.K H0 S z held ρ σ H) (hf:f ρ=some o1)
  (k:match o1 with
   | .er true _ _=>False
   | .er false cn ρ'=>∀ z' σ' H' C a s',Ok X.K H0 S z' held ρ' σ' H'→Kp X σ σ'→PySem.W.nsIn X.K mainGlobals cn.1=some (some (.ref C))→Landed X pins σ' H' a (.ref C) cn.2 s' →
    wpAny (model X.prog X.w) X.A (noteFrame (.ref a) X.env) (fun _ s2=>wpAny (model X.prog X.w) X.A (setFlight (.ref a) none) (fun _ s3=>wpAny (model X.prog X.w) X.A (handleBy (.ref a) X.env [h0]) (SP X pins E) X.xe s3) X.xe s2) X.xe s'
   | o=>Post X H0 S held σ E o) :
  wpAny (model X.prog X.w) X.A (exec (.Try body [h0] [] [] pos) X.env) (SP X pins E) X.xe s:=by
 refine wpAny_Try_except ?_
 obtain ⟨tb,pb,sb⟩:=hb pins (fun cls pay σ' H'=>∀ a s',Landed X pins σ' H' a cls pay s' →
    wpAny (model X.prog X.w) X.A (noteFrame (.ref a) X.env) (fun _ s2=>wpAny (model X.prog X.w) X.A (setFlight (.ref a) none) (fun _ s3=>wpAny (model X.prog X.w) X.A (handleBy (.ref a) X.env [h0]) (SP X pins E) X.xe s3) X.xe s2) X.xe s')
 have hbody:tb E σ H:=by
  refine sb H0 S z held ρ σ H E o1 ok hf ?_
  cases o1 with
  | nx ρ'=>exact k
  | rt d=>exact k
  | bk ρ'=>exact k
  | ct ρ'=>exact k
  | er raw cn ρ'=>
   cases raw with
   | true=>exact False.elim k
   | false=>exact ⟨_,throwsT_try,fun z' σ' H' C ok' kp hC a s' L=>k z' σ' H' C a s' ok' kp hC L⟩
 refine wpAny_mono (pb [] s σ H E I.inTry hbody) (fun fl s1 q=>?_) (fun ev s1 q=>?_)
 ·have q':=sp_offTry q
  cases fl with
  | next=>exact wpAny_execs_nil q'
  | brk=>exact q'
  | cont=>exact q'
  | ret u=>exact q'
 ·obtain ⟨σ',H',a,cls,pay,rfl,L,r⟩:=q
  exact r a s1 L
theorem fs_try_as (i:Nat) (hb:∀ pins R,FS (X.inTry pins R) body f) (hs:∀ a,FS (X.inSuite a) (b0::suite) g) (hcat:∀ cn C,sub cn=true→PySem.W.nsIn X.K mainGlobals cn=some (some (.ref C))→Catches X.K C Dc) (hm:X.mg x=some (.ref Dc)) (hN:X.N.Nodup)
  (hcm:X.calm=true:=by rfl) (hx:X.ex=[]:=by rfl) (hst:X.stack=X.env::X.outer:=by rfl) (hfr:X.env.frame=some X.env.locals:=by rfl) (hg:Gl X x:=by rfl) (hi:X.N[i]? = some n:=by rfl) (hk:X.env.scope.names.lookup n=some .local:=by rfl) (hself:kpt X n=false:=by rfl) (hdb:(x == ("__debug__":Str))=false:=by decide) :
  FS1 X (.Try body [.ExceptHandler (some (.Name x px)) (some n) (b0::suite) hpos] [] [] pos) (sTryAs i sub f g):=by
 refine ⟨_,ps_wk,fun H0 S z held ρ σ H E o ok e k=>?_⟩
 intro pins s I
 unfold sTryAs at e
 cases hf:f ρ with
 | none=>rw [hf] at e;cases e
 | some o1=>
  rw [hf] at e
  refine try_core hb I ok hf ?_
  cases o1 with
  | nx ρ'=>cases e;exact k
  | rt d=>cases e;exact k
  | bk ρ'=>cases e;exact k
  | ct ρ'=>cases e;exact k
  | er raw cn ρ'=>
   cases raw with
   | true=>cases e
   | false=>
    dsimp only at e ⊢
    by_cases hsub:sub cn.1=true
    ·rw [if_pos hsub] at e
     intro z' σ' H' C a s' ok' kp hC L
     refine handle_as L hcm hx hst hfr (hcat cn.1 C hsub hC) hg hm hN hi hk (fun s5 H5 kn I5=>?_) hdb
     obtain ⟨ts,ps',ss⟩:=hs a
     refine ps' pins s5 _ _ _ I5 ?_
     have sm:Same H' H5:=fun b o q=>kn.same L.fr q
     refine ok'.stored (i:=i) (t:=.own) sm (rep_known hC kn) .nil fun z5 ok5=>?_
     have ok5:Ok X.K H0 S z5 held (ρ'.set i (some (.exc cn,.own))) (σ'.set i (some (.ref a))) H5:=ok5
     have kps:∀ {σ6:St},Kp X (σ'.set i (some (.ref a))) σ6→Kp X σ (σ6.set i none):=fun {σ6} b=>((kp.trans (.set hi hself)).trans b).trans (.set hi hself)
     cases hg2:g (ρ'.set i (some (.exc cn,.own))) with
     | none=>rw [hg2] at e;cases e
     | some o2=>
      rw [hg2] at e
      refine ss H0 S z5 held _ _ _ _ o2 ok5 hg2 ?_
      cases o2 with
      | nx ρ2=>cases e;exact fun z6 σ6 H6 ok6 b=>k z6 _ H6 (ok6.unset i) (kps b)
      | bk ρ2=>cases e;exact fun z6 σ6 H6 ok6 b=>k z6 _ H6 (ok6.unset i) (kps b)
      | ct ρ2=>cases e;exact fun z6 σ6 H6 ok6 b=>k z6 _ H6 (ok6.unset i) (kps b)
      | rt d=>cases e;exact k
      | er _ _ _=>cases e
    ·rw [if_neg hsub] at e;cases e
end
inductive Rz where
 | ok (d:D) | er (cn:XN)
def spR (K:PySem.W.Frag) (F:List D→Option Rz):Sp:=fun vs H Q E=>∃ ds fp r,Reps K H ds vs fp∧F ds=some r∧match r with
 | .ok d=>∀ H' v fp',Same H H'→Rep K H' d v fp'→fp'.Nodup→(∀ a∈fp',H a=none)→Q v H'
 | .er cn=>∀ H' C,Same H H'→PySem.W.nsIn K mainGlobals cn.1=some (some (.ref C))→E (.ref C) cn.2 H'
def runR (n N:Nat) (b:SF):List D→Option Rz:=fun ds=>if ds.length=n then (match b (iniF N ds) with
 | some (.rt d)=>some (.ok d)
 | some (.nx _)=>some (.ok .non)
 | some (.er _ cn _)=>some (.er cn)
 | _=>none) else none
theorem ok_iniF {K:PySem.W.Frag}{N:List Str}{H:Hp}{ds:List D}{vs:List V}{fp:List Addr} (rs:Reps K H ds vs fp) (hn:ds.length≤N.length):Ok K H [] (fun _=>none) [] (iniF N.length ds) (start N vs) H:=by
 have hlv:=rs.length
 refine ⟨fun i d' t' e'=>?_,(fun p m=>by cases m),(fun a j e=>by cases e),(fun a o e _=>e),?_⟩
 ·unfold iniF at e'
  by_cases hi:i < ds.length
  ·rw [List.getElem?_append_left (by rw [List.length_map];exact hi),List.getElem?_map,List.getElem?_eq_getElem hi] at e'
   cases e'
   obtain ⟨v,f',hv,rv,_⟩:=rs.get (List.getElem?_eq_getElem hi)
   refine ⟨v,f',?_,rv,fun a _ j e=>by cases e⟩
   unfold start
   rw [List.getElem?_append_left (by rw [List.length_map,← hlv];exact hi),List.getElem?_map,hv];rfl
  ·rw [List.getElem?_append_right (by rw [List.length_map];omega),List.getElem?_replicate] at e'
   split at e' <;> cases e'
 ·unfold iniF start
  rw [List.length_append,List.length_append,List.length_map,List.length_map,List.length_replicate,List.length_replicate,hlv]
section
variable {P:Program}{w:World}{K:PySem.W.Frag}{mg:Str→Option Value}{base:Heap}
theorem fn_R {x qual:Str}{st:Stmt}{f:Addr}{fd:FuncData}{N ps:List Str}{k:Nat}{b:SF} (F:Fun K x qual st f fd) (S:FnScope N ps (defScope st)) (hps:ps.length≤N.length)
  (hb:∀ (cdv:Value) (A:Around) (outer:List Env) (s:Shared) (H:Hp) (E:XK),Room k (A.deeper (envOfC qual (defScope st) s.heap.objs.size f cdv))→FS (cxOf (CXE P w) P w K mg base N qual (defScope st) f cdv A outer s H E) (defBody st) b) :
  FnOk P w K mg base (CXE P w) (k + 1) f fd ps (spR K (runR ps.length N.length b)):=by
 have lenF:∀ {ds:List D}{r:Rz},runR ps.length N.length b ds=some r→ds.length=ps.length:=fun {ds d} e=>by
  unfold runR at e
  by_cases h:ds.length=ps.length
  ·exact h
  ·rw [if_neg h] at e;cases e
 obtain ⟨oc,od,kV,doc,pm,an,cdv,ct,osl,rfl,lk,hcd⟩:=F.ex
 refine fn_of lk hcd S (fun vs H Q E ⟨ds,fp,r,rs,e,_⟩=>by rw [← rs.length];exact lenF e) fun A outer s H vs Q E hr ⟨ds,fp,r,rs,e,q⟩=>?_
 obtain ⟨t,p,sd⟩:=hb cdv A outer s H E hr
 refine ⟨t,p,?_⟩
 have hl:=lenF e
 have ok:=ok_iniF (N:=N) rs (by rw [hl];exact hps)
 unfold runR at e
 rw [if_pos hl] at e
 cases ho:b (iniF N.length ds) with
 | none=>rw [ho] at e;cases e
 | some o=>
  rw [ho] at e
  refine sd H [] (fun _=>none) [] (iniF N.length ds) (start N vs) H _ o ok ho ?_
  cases o with
  | rt d'=>
   cases e
   exact fun H' v fp' en r nd fr=>q H' v fp' (fun a o e=>en a o e (fun m=>nomatch m)) r nd fun a m=>(fr a m).resolve_right fun m=>nomatch m
  | nx ρ'=>
   cases e
   exact fun z' σ' H' ok' _=>q H' .non [] (fun a o e=>ok'.en a o e (fun m=>nomatch m)) .non List.nodup_nil fun a m=>nomatch m
  | bk _=>cases e
  | ct _=>cases e
  | er raw cn ρ'=>
   cases e
   cases raw with
   | true=>exact ⟨_,throwsN_def,fun z' σ' H' C ok' _ hC=>q H' C (fun a o e=>ok'.en a o e (fun m=>nomatch m)) hC⟩
   | false=>exact ⟨_,throwsT_def,fun z' σ' H' C ok' _ hC=>q H' C (fun a o e=>ok'.en a o e (fun m=>nomatch m)) hC⟩
end
inductive RM where
 | ok (r d:D) | er (cn:XN) (d:D)
abbrev MR:=D→List D→Option RM
def spOR (K:PySem.W.Frag) (G:MR):Sp:=fun vs H Q E=>∃ a ws d0 fp0 ds fps r,vs=V.ref a::ws∧Rep K H d0 (.ref a) fp0∧fp0.Nodup∧Reps K H ds ws fps∧(∀ b∈fps,b∉fp0)∧G d0 ds=some r∧match r with
 | .ok r d1=>∀ H' v fp1,Imm H H'→(∀ b o,b∉fp0→H b=some o→H' b=some o)→Rep K H' d1 (.ref a) fp1→fp1.Nodup→(∀ b∈fp1,b∈fp0∨H b=none)→Rep K H' r v []→Q v H'
 | .er cn d1=>∀ H' C fp1,Imm H H'→(∀ b o,b∉fp0→H b=some o→H' b=some o)→Rep K H' d1 (.ref a) fp1→fp1.Nodup→(∀ b∈fp1,b∈fp0∨H b=none)→PySem.W.nsIn K mainGlobals cn.1=some (some (.ref C))→E (.ref C) cn.2 H'
def runMR (n N:Nat) (b:SF):MR:=fun d0 ds=>if ds.length + 1=n then (match b (iniM N d0 ds) with
 | some (.rt (.tup [r,d1]))=>some (.ok r d1)
 | some (.nx ρ)=>match ρ[0]? with
  | some (some (d1,Tag.own))=>some (.ok .non d1)
  | _=>none
 | some (.er _ cn ρ)=>match ρ[0]? with
  | some (some (d1,Tag.own))=>some (.er cn d1)
  | _=>none
 | _=>none) else none
section
variable {P:Program}{w:World}{K:PySem.W.Frag}{mg:Str→Option Value}{base:Heap}
theorem fn_MR {x qual:Str}{st:Stmt}{f:Addr}{fd:FuncData}{N ps:List Str}{k:Nat}{b:SF} (F:Fun K x qual st f fd) (S:FnScope N ps (defScope st)) (h0:N[0]? = some ("self":Str)) (hps:ps.length≤N.length)
  (hb:∀ (cdv:Value) (A:Around) (outer:List Env) (s:Shared) (H:Hp) (E:XK),Room k (A.deeper (envOfC qual (defScope st) s.heap.objs.size f cdv))→FM (cxOf (CXE P w) P w K mg base N qual (defScope st) f cdv A outer s H E) (defBody st) b) :
  FnOk P w K mg base (CXE P w) (k + 1) f fd ps (spOR K (runMR ps.length N.length b)):=by
 classical
 obtain ⟨oc,od,kV,doc,pm,an,cdv,ct,osl,rfl,lk,hcd⟩:=F.ex
 refine fn_of lk hcd S (fun vs H Q E h=>?_) fun A outer s H vs Q E hr h=>?_
 ·obtain ⟨a,ws,d0,fp0,ds,fps,r,rfl,_,_,rs,_,e,_⟩:=h
  unfold runMR at e
  by_cases hl:ds.length + 1=ps.length
  ·rw [List.length_cons,← rs.length,hl]
  ·rw [if_neg hl] at e;cases e
 ·obtain ⟨a,ws,d0,fp0,ds,fps,r,rfl,r0,nd0,rs,dj,e,q⟩:=h
  obtain ⟨t,pt,sd⟩:=hb cdv A outer s H E hr
  refine ⟨t,pt,?_⟩
  unfold runMR at e
  by_cases hl:ds.length + 1=ps.length
  ·rw [if_pos hl] at e
   have lw:=rs.length
   have ok:Ok K H fp0 (fun c=>if c∈fp0 then some 0 else none) [] (iniM N.length d0 ds) (start N (V.ref a::ws)) H:=by
    refine ⟨fun i d t e'=>?_,fun p m=>(nomatch m),fun c j e'=>?_,fun c o e' _=>e',?_⟩
    ·cases i with
     | zero=>
      have e':some (some (d0,Tag.own))=some (some (d,t)):=e'
      cases e'
      exact ⟨.ref a,fp0,rfl,r0,nd0,fun c m=>if_pos m⟩
     | succ i=>
      have e':(ds.map (fun d=>some (d,Tag.sh []))++List.replicate (N.length - (ds.length + 1)) none)[i]? = some (some (d,t)):=e'
      by_cases hi:i < ds.length
      ·rw [List.getElem?_append_left (by rw [List.length_map];exact hi),List.getElem?_map] at e'
       cases ed:ds[i]? with
       | none=>rw [ed] at e';cases e'
       | some d'=>
        rw [ed] at e'
        cases e'
        obtain ⟨v,g,hv,rv,sub⟩:=rs.at_arg ed
        refine ⟨v,g,?_,rv,fun c m j e''=>?_⟩
        ·show (some (V.ref a)::(ws.map some++List.replicate (N.length - (ws.length + 1)) none))[i + 1]? = _
         rw [List.getElem?_cons_succ,List.getElem?_append_left (by rw [List.length_map,← lw];exact hi),List.getElem?_map,hv];rfl
        ·have e'':(if c∈fp0 then some 0 else none)=some j:=e''
         rw [if_neg (dj c (sub c m))] at e'';cases e''
      ·rw [List.getElem?_append_right (by rw [List.length_map];omega),List.getElem?_replicate] at e'
       split at e' <;> cases e'
    ·have e':(if c∈fp0 then some 0 else none)=some j:=e'
     by_cases m:c∈fp0
     ·obtain ⟨o,w,_⟩:=r0.dom c m
      exact ⟨⟨o,w⟩,.inr m⟩
     ·rw [if_neg m] at e';cases e'
    ·unfold iniM start
     rw [List.length_cons,List.length_append,List.length_append,List.length_map,List.length_map,List.length_replicate,List.length_replicate,List.length_cons,lw]
     omega
   have fin:∀ {z:Addr→Option Nat}{ρ:Rho}{σ:St}{H':Hp}{d1:D},Ok K H fp0 z [] ρ σ H'→ρ[0]? = some (some (d1,.own))→Kp (cxOf (CXE P w) P w K mg base N qual (defScope st) f cdv A outer s H E) (start N (V.ref a::ws)) σ →
     ∃ fp1,Imm H H'∧(∀ b o,b∉fp0→H b=some o→H' b=some o)∧Rep K H' d1 (.ref a) fp1∧fp1.Nodup∧∀ b∈fp1,b∈fp0∨H b=none:=by
    intro z ρ σ H' d1 ok' h1 kp
    obtain ⟨u,fp1,hs,r1,zz⟩:=ok'.sl 0 d1 .own h1
    have hk:σ[0]? = some (some (V.ref a)):=kp 0 _ h0 rfl
    rw [hk] at hs
    cases hs
    have st:∀ {c:Addr}{o:HO},H c=some o→MutO o=false→H' c=some o:=fun {c o} e' mo=>ok'.en c _ e' fun m=>by
     obtain ⟨o',w,mo'⟩:=r0.dom c m
     rw [e'] at w;cases w;rw [mo] at mo';cases mo'
    exact ⟨fp1,⟨fun c xs e'=>st e' rfl,fun c o u e'=>st e' rfl,fun c φ e'=>st e' rfl⟩,fun c o n e'=>ok'.en c o e' n,r1,zz.1,fun c m=>((ok'.zd c 0 (zz.2 c m)).2).symm.imp id id⟩
   cases ho:b (iniM N.length d0 ds) with
   | none=>rw [ho] at e;cases e
   | some o=>
    rw [ho] at e
    refine sd H fp0 _ [] _ _ H _ o ok ho ?_
    cases o with
    | rt p=>
     obtain ⟨r1,d1,hp,rfl⟩:∃ r1 d1,p=.tup [r1,d1]∧r=.ok r1 d1:=by
      split at e <;> rename_i hh
      ·cases e;cases hh;exact ⟨_,_,rfl,rfl⟩
      ·cases hh
      ·cases hh
      ·cases e
     refine ⟨r1,d1,hp,fun z ρ σ H' v ok' h1 kp rr=>?_⟩
     obtain ⟨fp1,i1,i2,i3,i4,i5⟩:=fin ok' h1 kp
     exact q H' v fp1 i1 i2 i3 i4 i5 rr
    | nx ρ'=>
     dsimp only at e
     split at e
     ·rename_i dd h1
      cases e
      intro z σ H' ok' kp
      obtain ⟨fp1,i1,i2,i3,i4,i5⟩:=fin ok' h1 kp
      exact q H' .non fp1 i1 i2 i3 i4 i5 .non
     ·cases e
    | bk _=>cases e
    | ct _=>cases e
    | er raw cn ρ'=>
     dsimp only at e
     split at e
     ·rename_i dd h1
      cases e
      have kk:∀ z' σ' H' C,Ok K H fp0 z' [] ρ' σ' H'→Kp (cxOf (CXE P w) P w K mg base N qual (defScope st) f cdv A outer s H E) (start N (V.ref a::ws)) σ'→PySem.W.nsIn K mainGlobals cn.1=some (some (.ref C))→E (.ref C) cn.2 H':=fun z' σ' H' C ok' kp hC=>by
       obtain ⟨fp1,i1,i2,i3,i4,i5⟩:=fin ok' h1 kp
       exact q H' C fp1 i1 i2 i3 i4 i5 hC
      cases raw with
      | true=>exact ⟨_,throwsN_def,kk⟩
      | false=>exact ⟨_,throwsT_def,kk⟩
     ·cases e
  ·rw [if_neg hl] at e;cases e
end
def xCallR (F:List D→Option Rz) (g:AF):XR:=fun ρ=>match g ρ with
 | some ps=>match F (ps.map (·.1)) with
  | some (.ok d)=>some (.ok d ρ)
  | some (.er cn)=>some (.er cn ρ)
  | none=>none
 | none=>none
def xMakeR (cn:Str) (G:MR) (g:AF):XR:=fun ρ=>match g ρ with
 | some ps=>match G (.ins cn []) (ps.map (·.1)) with
  | some (.ok .non d)=>some (.ok d ρ)
  | some (.er en _)=>some (.er en ρ)
  | _=>none
 | none=>none
section
variable {X:Cx}{x m cn:Str}{p p1 pos apos:Pos}{e:Expr}{es:List Expr}{k:Nat}{C f:Addr}{fd:FuncData}{ps:List Str}{F:List D→Option Rz}{G:MR}{g:AF}{pl:Sem Bool}
theorem fe_make (hn:PySem.W.nsIn X.K mainGlobals cn=some (some (.ref C))) (M:Mk X.K C f) (GG:FnOk X.prog X.w X.K X.mg X.base (CXE X.prog X.w) k f fd ps (spOR X.K G)) (hr:Room (k + 1) X.A) (hm:X.mg x=some (.ref C)) (hb:Binds X.K fd ps []) (ha:FA X.nox (e::es) g) (hx:X.ex=[]:=by rfl) (hg:Gl X x:=by rfl) (hdb:(x == ("__debug__":Str))=false:=by decide)
  (he:starEach (e::es) X.env=(false,eval e X.env)::starEach es X.env:=by rfl) (hpl:(backTo pos (starEach es X.env)).any (·.1)=false:=by rfl):FE X (.Call (.Name x p) (e::es) [] pos) (xMakeR cn G g):=by
 obtain ⟨ta,pa,_,qa⟩:=ha
 refine ⟨_,px_make M GG hr hx hg hm hb .nil pa hdb he hpl,fun H0 S z held ρ σ H Q E r ok e0 kk=>?_⟩
 unfold xMakeR at e0
 cases h2:g ρ with
 | none=>rw [h2] at e0;cases e0
 | some qs=>
  rw [h2] at e0
  dsimp only at e0
  cases h3:G (.ins cn []) (qs.map (·.1)) with
  | none=>rw [h3] at e0;cases e0
  | some w=>
   rw [h3] at e0
   refine qa H0 S z held ρ σ H _ qs ok h2 fun H1 vs fp s1 r1 _=>?_
   intro b dx nb ndx ne
   rw [List.append_nil]
   have s2:Same H1 (upd (upd H1 dx (.own b)) b (.ins C dx [])):=fun c o e=>by rw [upd_ne (ne_of_none e nb),upd_ne (ne_of_none e ndx)];exact e
   have nd0:[b,dx].Nodup:=List.nodup_cons.mpr ⟨fun m=>ne (List.mem_singleton.mp m).symm,List.nodup_cons.mpr ⟨(fun m=>nomatch m),List.nodup_nil⟩⟩
   have dj:∀ c∈fp,c∉[b,dx]:=fun c m n=>by
    obtain ⟨o,w,_⟩:=r1.dom c m
    rcases List.mem_cons.mp n with e | n
    ·rw [e,nb] at w;cases w
    ·rw [List.mem_singleton.mp n,ndx] at w;cases w
   have sm:∀ {H3:Hp},(∀ c o,c∉[b,dx]→upd (upd H1 dx (.own b)) b (.ins C dx []) c=some o→H3 c=some o)→Same H1 H3:=fun {H3} kp c o e=>by
    refine kp c o (fun n=>?_) (s2 c o e)
    rcases List.mem_cons.mp n with q | n
    ·rw [q,nb] at e;cases e
    ·rw [List.mem_singleton.mp n,ndx] at e;cases e
   cases w with
   | ok r1' d1=>
    cases r1' <;> try (cases e0;done)
    cases e0
    refine ⟨b,vs,.ins cn [],[b,dx],_,fp,_,rfl,.ins hn upd_same (by rw [upd_ne ne];exact upd_same) rfl .nil,nd0,r1.same s2,dj,h3,fun H3 u fp1 im kp r3 nd fr rr=>?_⟩
    cases rr
    refine ⟨rfl,kk z H1 H3 _ fp1 (ok.same s1) (sm kp) r3 ⟨nd,fun c m=>?_⟩⟩
    rcases fr c m with q | q
    ·rcases List.mem_cons.mp q with q | q
     ·rw [q];exact nb
     ·rw [List.mem_singleton.mp q];exact ndx
    ·exact s2.free q
   | er en d1=>
    cases e0
    exact ⟨b,vs,.ins cn [],[b,dx],_,fp,_,rfl,.ins hn upd_same (by rw [upd_ne ne];exact upd_same) rfl .nil,nd0,r1.same s2,dj,h3,fun H3 C3 fp1 im kp r3 nd fr hC=>kk z H3 C3 ((ok.same s1).same (sm kp)) hC⟩
end
def oIsE (T:List (Str×Bool)):D→Option D
 | .exc cn=>(T.lookup cn.1).map .bl
 | _=>none
def KitT (K:PySem.W.Frag) (T:List (Str×Bool)) (c:Value):Prop:=∀ cn b C,T.lookup cn=some b→PySem.W.nsIn K mainGlobals cn=some (some (.ref C))→ExcKit K C∧PySem.W.kitOne K (.ref C) c=some b
section
variable {X:Cx}{a:Expr}{fa:EF}{x:Str}{T:List (Str×Bool)}{p p2 pos:Pos}
theorem isE_core {cv:Value}{c:V}{tc:TE} (hc:∀ u,RelV c u→u=cv) (hT:KitT X.K T cv) (hm:X.mg "isinstance"=none) (ha:FP X a fa) (pc:PE X (.Name x p2) (fun _ H Q=>Q c H)) (hg:Gl X "isinstance":=by rfl)
  (hs:starEach [a,.Name x p2] X.env=[(false,eval a X.env),(false,eval (.Name x p2) X.env)]:=by rfl) (hpl:(backTo pos (starEach [.Name x p2] X.env)).any (·.1)=false:=by rfl):FP X (.Call (.Name "isinstance" p) [a,.Name x p2] [] pos) (e1 (oIsE T) fa):=by
 obtain ⟨ta,pa,sa⟩:=ha
 have hs2:starEach [.Name x p2] X.env=[(false,eval (.Name x p2) X.env)]:=rfl
 refine ⟨_,pe_callB call_isiE hg hm (show bootBuiltins "isinstance"=some (.builtin "isinstance") by decide +kernel) (pa_cons pa (pa_cons pc pa_nil) (by rw [hs,hs2])) (he:=by rw [hs,hs2]) (hpl:=hpl),fun H0 S z held ρ σ H Q d tg ok e k=>?_⟩
 obtain ⟨d1,t1,h1,h2,rfl⟩:=e1_of e
 refine sa H0 S z held ρ σ H _ d1 t1 ok h1 fun H1 v fp s1 r1 _=>?_
 unfold oIsE at h2
 split at h2
 ·rename_i cn
  cases hl:T.lookup cn.1 with
  | none=>rw [hl] at h2;cases h2
  | some b=>
   rw [hl] at h2
   cases h2
   cases r1 with
   | @exc _ a' C de ob hn ho _=>
    obtain ⟨kk,ke⟩:=hT cn.1 b C hl hn
    exact ⟨a',C,c,cv,b,de,ob,rfl,hc,ho,kk,ke,k H1 _ [] s1 (.bl _) .nil⟩
 ·cases h2
theorem fp_isE {C:Addr} (hT:KitT X.K T (.ref C)) (hm:X.mg "isinstance"=none) (hmx:X.mg x=some (.ref C)) (ha:FP X a fa) (hg:Gl X "isinstance":=by rfl) (hgx:Gl X x:=by rfl) (hdb:(x == ("__debug__":Str))=false:=by decide)
  (hs:starEach [a,.Name x p2] X.env=[(false,eval a X.env),(false,eval (.Name x p2) X.env)]:=by rfl) (hpl:(backTo pos (starEach [.Name x p2] X.env)).any (·.1)=false:=by rfl):FP X (.Call (.Name "isinstance" p) [a,.Name x p2] [] pos) (e1 (oIsE T) fa):=
 isE_core (tc:=fun _ H Q=>Q (.ref C) H) (c:=.ref C) (fun u r=>r) hT hm ha (pe_own hgx hmx hdb) hg hs hpl
theorem fp_isEB {B:String} (hT:KitT X.K T (.type B)) (hm:X.mg "isinstance"=none) (hmx:X.mg x=none) (ha:FP X a fa) (hbT:bootBuiltins x=some (.type B):=by decide +kernel) (hg:Gl X "isinstance":=by rfl) (hgx:Gl X x:=by rfl) (hn:x≠"__name__":=by decide) (hdb:(x == ("__debug__":Str))=false:=by decide)
  (hs:starEach [a,.Name x p2] X.env=[(false,eval a X.env),(false,eval (.Name x p2) X.env)]:=by rfl) (hpl:(backTo pos (starEach [.Name x p2] X.env)).any (·.1)=false:=by rfl):FP X (.Call (.Name "isinstance" p) [a,.Name x p2] [] pos) (e1 (oIsE T) fa):=
 isE_core (tc:=fun _ H Q=>Q (.ty B) H) (c:=.ty B) (fun u r=>r) hT hm ha (pe_bltn (v:=.ty B) hgx hmx hbT rfl hn hdb) hg hs hpl
end
end L2.Ev
namespace L2.Ev
open PySem PySem.W
abbrev veMro:List Value:=[.type "ValueError",.type "Exception",.type "BaseException",.type "object"]
theorem exc_shape {K:Frag}{C:Addr}{bmB:List Value}{newId:String} (q:excIn K C bmB newId=true):∃ nm qn N bs bm hdct sn sub ab col dd k0 k1 k2 k3 k5,K.lookup C=some (excClassObj nm qn C N bs bm hdct sn sub ab col dd k0 k1 k2 k3 k5 newId) ∧
  tailIn K bmB bm=true∧nsOkIn K N=true∧nsIn K N "__init__"=some none:=by
 unfold excIn at q
 split at q
 ·rename_i dd cd sl ho
  split at q
  ·rename_i C' bm k0 k1 k2 k3 n k5 hm hs
   simp only [Bool.and_eq_true,beq_iff_eq,Bool.not_eq_true'] at q
   obtain ⟨⟨⟨⟨⟨rfl,rfl⟩,hdel⟩,ht⟩,hok⟩,hni⟩:=q
   obtain ⟨nm,bs,mro,ns,qn,hd,sn,sub,ab,col,del⟩:=cd
   dsimp only at hm hdel hok hni
   subst hm hdel
   have hsl:sl=#[k0,k1,k2,k3,some (.builtin n),k5]:=by
    obtain ⟨l⟩:=sl
    simp only at hs
    rw [hs]
   subst hsl
   exact ⟨nm,qn,ns,bs,bm,hd,sn,sub,ab,col,dd,k0,k1,k2,k3,k5,ho,ht,hok,hni⟩
  ·cases q
 ·cases q
theorem excCls_of {K:Frag}{C:Addr} (q:excIn K C veMro "ValueError.__new__"=true):ExcCls K C:=by
 obtain ⟨nm,qn,N,bs,bm,hdct,sn,sub,ab,col,dd,k0,k1,k2,k3,k5,h1,h2,h3,h4⟩:=exc_shape q
 exact ⟨⟨_,_,_,_,bm,N,nm,qn,bs,hdct,sn,sub,ab,col,dd,k0,k1,k2,k3,k5,PySem.F.excBase_ValueError,h1,h3,h4,h2⟩⟩
def Shape (K:Frag) (C:Addr):Prop:=∃ nm qn N bs bm hdct sn sub ab col dd k0 k1 k2 k3 k5 newId,K.lookup C=some (excClassObj nm qn C N bs bm hdct sn sub ab col dd k0 k1 k2 k3 k5 newId)
theorem shape_of {K:Frag}{C:Addr}{bmB:List Value}{newId:String} (q:excIn K C bmB newId=true):Shape K C:=by
 obtain ⟨nm,qn,N,bs,bm,hdct,sn,sub,ab,col,dd,k0,k1,k2,k3,k5,h1,_⟩:=exc_shape q
 exact ⟨nm,qn,N,bs,bm,hdct,sn,sub,ab,col,dd,k0,k1,k2,k3,k5,newId,h1⟩
theorem mro_at {K:Frag}{C:Addr}{nm qn:Str}{N:Addr}{bs bm:List Value}{hdct:Bool}{sn:List Str}{sub:List Value}{ab:Bool}{col:Option Bool}{dd:Option Addr}{k0 k1 k2 k3 k5:Option Value}{newId:String}{v:Value}
  (h:K.lookup C=some (excClassObj nm qn C N bs bm hdct sn sub ab col dd k0 k1 k2 k3 k5 newId)) (m:mroIn K C v=some true):(Value.ref C::bm).contains v=true:=by
 unfold mroIn clsIn at m
 rw [h] at m
 dsimp only at m
 rw [Option.bind_some,if_neg (by simp)] at m
 exact Option.some.inj m
theorem catches_of {K:Frag}{C D:Addr} (hC:Shape K C) (hD:Shape K D) (m:mroIn K C (.ref D)=some true) (b:mroIn K D (.type "BaseException")=some true):Catches K C D:=by
 obtain ⟨nm,qn,N,bs,bm,hdct,sn,sub,ab,col,dd,k0,k1,k2,k3,k5,newId,h1⟩:=hC
 obtain ⟨nm',qn',N',bs',bm',hdct',sn',sub',ab',col',dd',j0,j1,j2,j3,j5,newId',h2⟩:=hD
 refine ⟨nm,qn,N,bs,bm,hdct,sn,sub,ab,col,dd,k0,k1,k2,k3,k5,newId,h1,nm',qn',N',bs',bm',hdct',sn',sub',ab',col',dd',j0,j1,j2,j3,j5,newId',h2,?_,mro_at h1 m⟩
 have:=mro_at h2 b
 rw [List.contains_cons] at this
 rcases (Bool.or_eq_true _ _).mp this with q | q
 ·cases beq_iff_eq.mp q
 ·exact q
def subOf (names:List Str):Str→Bool:=fun cn=>names.contains cn
def CatchT (K:Frag) (names:List Str) (Dc:Addr):Prop:=∀ cn C,subOf names cn=true→nsIn K mainGlobals cn=some (some (.ref C))→Catches K C Dc
theorem catchT_nil {K:Frag}{Dc:Addr}:CatchT K [] Dc:=fun _ _ h _=>by cases h
theorem catchT_cons {K:Frag}{c:Str}{C Dc:Addr}{names:List Str} (n:nsIn K mainGlobals c=some (some (.ref C))) (x:Catches K C Dc) (r:CatchT K names Dc):CatchT K (c::names) Dc:=fun cn C' h hn=>by
 unfold subOf at h
 rw [List.contains_cons] at h
 rcases (Bool.or_eq_true _ _).mp h with q | q
 ·have e:=beq_iff_eq.mp q
  subst e
  rw [n] at hn
  cases hn
  exact x
 ·exact r cn C' q hn
theorem kitT_nil {K:Frag}{c:Value}:KitT K [] c:=fun _ _ _ h _=>by cases h
theorem kitT_cons {K:Frag}{cn:Str}{C:Addr}{c:Value}{b:Bool}{T:List (Str×Bool)} (n:nsIn K mainGlobals cn=some (some (.ref C))) (k:ExcKit K C) (e:kitOne K (.ref C) c=some b) (r:KitT K T c):KitT K ((cn,b)::T) c:=fun cn' b' C' h hn=>by
 rw [List.lookup_cons] at h
 by_cases q:cn' == cn
 ·rw [q] at h
  cases h
  have e':=beq_iff_eq.mp q
  subst e'
  rw [n] at hn
  cases hn
  exact ⟨k,e⟩
 ·have q':(cn' == cn)=false:=by simpa using q
  rw [q'] at h
  exact r cn' b' C' h hn
theorem runMR_er {n N:Nat}{b:SF}{d0 d1:D}{ds:List D}{ρ:Rho}{raw:Bool}{cn:XN} (hl:ds.length + 1=n) (h:b (iniM N d0 ds)=some (.er raw cn ρ)) (h0:ρ[0]? = some (some (d1,.own))):runMR n N b d0 ds=some (.er cn d1):=by
 unfold runMR;rw [if_pos hl,h];dsimp only;rw [h0]
theorem s_seqE {f g:SF}{ρ ρ':Rho}{raw:Bool}{cn:XN} (h:f ρ=some (.er raw cn ρ')):sSeq f g ρ=some (.er raw cn ρ'):=by unfold sSeq;rw [h]
theorem cls_of_mro {K:Frag}{C:Addr}{v:Value}{b:Bool} (m:mroIn K C v=some b):(clsIn K C).isSome=true:=by
 unfold mroIn at m
 cases h:clsIn K C with
 | none=>rw [h] at m;cases m
 | some _=>rfl
end L2.Ev
namespace L2
open PySem PySem.Spec PyProof.Rows
section
variable {X:Cx}{e:Expr}{ES:XS}{pos:Pos}
theorem px_pe {t:TE} (h:PE X.nox e t):PX X e (fun σ H Q _=>t σ H Q):=fun pins s σ H Q E I hw=>
 wpAny_mono (h pins s σ H Q (I.wish _) hw) (fun _ _ ⟨v,H',I',r,q⟩=>⟨v,H',I'.unwish,r,q⟩) fun _ _ z=>False.elim z
abbrev Cx.keepN (X:Cx) (xs:List Str):Cx:={ X with fn:=fun y=>!(xs.contains y) }
theorem PSs.keepN {st:List Stmt}{t:TS}{xs:List Str} (hX:X.fn=fun _=>true) (h:PSs (X.keepN xs) st t):PSs X st t:=fun pins s σ H W I hw=>by
 have I':Inv (X.keepN xs) pins σ H s:=⟨⟨I.ok.mod,I.ok.kind,I.ok.glob,I.ok.blt,I.ok.above,I.ok.inj,I.ok.has,fun x c _ e=>I.ok.cab x c (by rw [hX]) e,I.ok.hd,I.ok.frames,I.ok.stk,I.ok.exf,I.ok.bs,I.ok.bsz,I.ok.noex,I.ok.exfs,I.ok.funs,I.ok.frf⟩,I.os,I.bare,I.base,I.loc,I.cell,I.free,I.freeC,I.pin,I.hok,I.len,I.hq⟩
 have back:∀ {σ':St}{H':Hp}{s':Shared},Inv (X.keepN xs) pins σ' H' s'→Inv X pins σ' H' s':=fun J=>⟨I.ok,J.os,J.bare,J.base,J.loc,J.cell,J.free,J.freeC,J.pin,J.hok,J.len,J.hq⟩
 refine wpAny_mono (h pins s σ H W I' hw) (fun f s' q=>?_) fun _ _ z=>z
 cases f with
 | next=>obtain ⟨a,b,J,q⟩:=q;exact ⟨a,b,back J,q⟩
 | brk=>obtain ⟨a,b,J,q⟩:=q;exact ⟨a,b,back J,q⟩
 | cont=>obtain ⟨a,b,J,q⟩:=q;exact ⟨a,b,back J,q⟩
 | ret u=>obtain ⟨v,a,b,J,r,q⟩:=q;exact ⟨v,a,b,back J,r,q⟩
end
end L2
namespace L2.Ev
open PySem PySem.Spec PyProof.Rows
def spP (K:PySem.W.Frag) (G:MF):Sp:=fun vs H Q _=>∃ v0 ws d0 fp0 ds fps r d1,vs=v0::ws∧Rep K H d0 v0 fp0∧fp0.Nodup∧Reps K H ds ws fps∧(∀ b∈fps,b∉fp0)∧G d0 ds=some (r,d1) ∧
 ∀ H' v fp1 fpr,Imm H H'→(∀ b o,b∉fp0→H b=some o→H' b=some o)→Rep K H' d1 v0 fp1→fp1.Nodup→(∀ b∈fp1,b∈fp0∨H b=none)→Rep K H' r v fpr→fpr.Nodup→(∀ b∈fpr,(b∈fp0∨H b=none)∧b∉fp1)→Q v H'
def PostP (X:Cx) (H0:Hp) (S:List Addr) (held:List Held) (σ0:St) (E:Ends):Out→Prop
 | .nx ρ=>∀ z σ H,Ok X.K H0 S z held ρ σ H→Kp X σ0 σ→E.nx σ H
 | .bk ρ=>∀ z σ H,Ok X.K H0 S z held ρ σ H→Kp X σ0 σ→E.bk σ H
 | .ct ρ=>∀ z σ H,Ok X.K H0 S z held ρ σ H→Kp X σ0 σ→E.ct σ H
 | .er raw cn ρ=>PostE X H0 S held σ0 raw cn ρ
 | .rt p=>∃ r d0,p=.tup [r,d0]∧∀ z ρ σ H v fpr,Ok X.K H0 S z held ρ σ H→ρ[0]? = some (some (d0,.own))→Kp X σ0 σ→Rep X.K H r v fpr→fpr.Nodup→(∀ b∈fpr,(H0 b=none∨b∈S)∧z b≠some 0)→E.rt v H
def FQ (X:Cx) (st:List Stmt) (f:SF):Prop:=∃ t,PSs X st t∧∀ (H0:Hp) (S:List Addr) (z:Addr→Option Nat) (held:List Held) (ρ:Rho) (σ:St) (H:Hp) (E:Ends) (o:Out),
 Ok X.K H0 S z held ρ σ H→f ρ=some o→PostP X H0 S held σ E o→t E σ H
def FQ1 (X:Cx) (st:Stmt) (f:SF):Prop:=∃ t,PS X st t∧∀ (H0:Hp) (S:List Addr) (z:Addr→Option Nat) (held:List Held) (ρ:Rho) (σ:St) (H:Hp) (E:Ends) (o:Out),
 Ok X.K H0 S z held ρ σ H→f ρ=some o→PostP X H0 S held σ E o→t E σ H
theorem PostP.of {X:Cx}{H0:Hp}{S:List Addr}{held:List Held}{σ σ':St}{E:Ends}{o:Out} (k:PostP X H0 S held σ E o) (a:Kp X σ σ'):PostP X H0 S held σ' E o:=by
 cases o with
 | nx ρ=>exact fun z s H ok b=>k z s H ok (a.trans b)
 | bk ρ=>exact fun z s H ok b=>k z s H ok (a.trans b)
 | ct ρ=>exact fun z s H ok b=>k z s H ok (a.trans b)
 | er raw cn ρ=>exact PostE.of k a
 | rt d=>obtain ⟨r,d0,e,k⟩:=k;exact ⟨r,d0,e,fun z ρ s H v fpr ok h b=>k z ρ s H v fpr ok h (a.trans b)⟩
section
variable {X:Cx}{pos:Pos}{st:Stmt}{rest:List Stmt}{f g:SF}
theorem fq_fm (h:FM1 X st f):FQ1 X st f:=by
 obtain ⟨t,p,q⟩:=h
 refine ⟨t,p,fun H0 S z held ρ σ H E o ok e k=>q H0 S z held ρ σ H E o ok e ?_⟩
 cases o with
 | nx ρ=>exact k
 | bk ρ=>exact k
 | ct ρ=>exact k
 | er raw cn ρ=>exact k
 | rt d=>obtain ⟨r,d0,e,k⟩:=k;exact ⟨r,d0,e,fun z ρ s H v ok h b rr=>k z ρ s H v [] ok h b rr List.nodup_nil fun b m=>nomatch m⟩
theorem fq_one (h:FQ1 X st f):FQ X [st] f:=let ⟨t,p,q⟩:=h;⟨t,pss_one p,q⟩
theorem fq_cons (h1:FQ1 X st f) (h2:FQ X rest g):FQ X (st::rest) (sSeq f g):=by
 obtain ⟨t,p,q⟩:=h1
 obtain ⟨t',p',q'⟩:=h2
 refine ⟨_,pss_cons p p',fun H0 S z held ρ σ H E o ok e k=>?_⟩
 unfold sSeq at e
 cases h:f ρ with
 | none=>rw [h] at e;cases e
 | some w=>
  refine q H0 S z held ρ σ H _ w ok h ?_
  rw [h] at e
  cases w with
  | nx ρ'=>exact fun z' σ' H' ok' a=>q' H0 S z' held ρ' σ' H' E o ok' e (k.of a)
  | rt d=>cases e;exact k
  | bk ρ'=>cases e;exact k
  | ct ρ'=>cases e;exact k
  | er _ _ _=>cases e;exact k
def sRetQ2 (i j:Nat):SF:=fun ρ=>match ρ[i]?,ρ[j]?,ρ[0]? with
 | some (some (d1,_)),some (some (d2,Tag.own)),some (some (d0,Tag.own))=>if imm d1=true∧j≠0 then some (.rt (.tup [.tup [d1,d2],d0])) else none
 | _,_,_=>none
end
section
variable {P:Program}{w:World}{K:PySem.W.Frag}{mg:Str→Option Value}{base:Heap}
theorem fn_P {x qual x0:Str}{st:Stmt}{f:Addr}{fd:FuncData}{N ps:List Str}{k:Nat}{b:SF} (F:Fun K x qual st f fd) (S:FnScope N ps (defScope st)) (h0:N[0]? = some x0) (hps:ps.length≤N.length)
  (hb:∀ (cdv:Value) (A:Around) (outer:List Env) (s:Shared) (H:Hp) (E:XK),Room k (A.deeper (envOfC qual (defScope st) s.heap.objs.size f cdv))→FQ ((cxOf CX0 P w K mg base N qual (defScope st) f cdv A outer s H E).nox.keepN [x0]) (defBody st) b) (hx0:([x0].contains ("self":Str))=false:=by decide) :
  FnOk P w K mg base CX0 (k + 1) f fd ps (spP K (runM ps.length N.length b)):=by
 classical
 refine F.ok S (fun vs H Q E h=>?_) fun cdv A outer s H vs Q E hr h=>?_
 ·obtain ⟨v0,ws,d0,fp0,ds,fps,r,d1,rfl,_,_,rs,_,e,_⟩:=h
  unfold runM at e
  by_cases hl:ds.length + 1=ps.length
  ·rw [List.length_cons,← rs.length,hl]
  ·rw [if_neg hl] at e;cases e
 ·obtain ⟨v0,ws,d0,fp0,ds,fps,r,d1,rfl,r0,nd0,rs,dj,e,q⟩:=h
  obtain ⟨t,pt,sd⟩:=hb cdv A outer s H E hr
  refine ⟨t,pt.keepN rfl,?_⟩
  unfold runM at e
  by_cases hl:ds.length + 1=ps.length
  ·rw [if_pos hl] at e
   have lw:=rs.length
   have ok:Ok K H fp0 (fun c=>if c∈fp0 then some 0 else none) [] (iniM N.length d0 ds) (start N (v0::ws)) H:=by
    refine ⟨fun i d t e'=>?_,fun p m=>(nomatch m),fun c j e'=>?_,fun c o e' _=>e',?_⟩
    ·cases i with
     | zero=>
      have e':some (some (d0,Tag.own))=some (some (d,t)):=e'
      cases e'
      exact ⟨v0,fp0,rfl,r0,nd0,fun c m=>if_pos m⟩
     | succ i=>
      have e':(ds.map (fun d=>some (d,Tag.sh []))++List.replicate (N.length - (ds.length + 1)) none)[i]? = some (some (d,t)):=e'
      by_cases hi:i < ds.length
      ·rw [List.getElem?_append_left (by rw [List.length_map];exact hi),List.getElem?_map] at e'
       cases ed:ds[i]? with
       | none=>rw [ed] at e';cases e'
       | some d'=>
        rw [ed] at e'
        cases e'
        obtain ⟨v,g,hv,rv,sub⟩:=rs.at_arg ed
        refine ⟨v,g,?_,rv,fun c m j e''=>?_⟩
        ·show (some v0::(ws.map some++List.replicate (N.length - (ws.length + 1)) none))[i + 1]? = _
         rw [List.getElem?_cons_succ,List.getElem?_append_left (by rw [List.length_map,← lw];exact hi),List.getElem?_map,hv];rfl
        ·have e'':(if c∈fp0 then some 0 else none)=some j:=e''
         rw [if_neg (dj c (sub c m))] at e'';cases e''
      ·rw [List.getElem?_append_right (by rw [List.length_map];omega),List.getElem?_replicate] at e'
       split at e' <;> cases e'
    ·have e':(if c∈fp0 then some 0 else none)=some j:=e'
     by_cases m:c∈fp0
     ·obtain ⟨o,w,_⟩:=r0.dom c m
      exact ⟨⟨o,w⟩,.inr m⟩
     ·rw [if_neg m] at e';cases e'
    ·unfold iniM start
     rw [List.length_cons,List.length_append,List.length_append,List.length_map,List.length_map,List.length_replicate,List.length_replicate,List.length_cons,lw]
     omega
   have fin:∀ {z:Addr→Option Nat}{ρ:Rho}{σ:St}{H':Hp}{v:V}{fpr:List Addr},Ok K H fp0 z [] ρ σ H'→ρ[0]? = some (some (d1,.own))→Kp ((cxOf CX0 P w K mg base N qual (defScope st) f cdv A outer s H E).nox.keepN [x0]) (start N (v0::ws)) σ→Rep K H' r v fpr→fpr.Nodup→(∀ b∈fpr,(H b=none∨b∈fp0)∧z b≠some 0)→Q v H':=by
    intro z ρ σ H' v fpr ok' h1 kp rr ndr frr
    obtain ⟨u,fp1,hs,r1,zz⟩:=ok'.sl 0 d1 .own h1
    have hk:σ[0]? = some (some v0):=kp 0 _ h0 (by show (x0 == ("self":Str)||(!([x0].contains ("self":Str))&&!(!([x0].contains x0))))=true;rw [hx0];simp)
    rw [hk] at hs
    cases hs
    have st:∀ {c:Addr}{o:HO},H c=some o→MutO o=false→H' c=some o:=fun {c o} e' mo=>ok'.en c _ e' fun m=>by
     obtain ⟨o',w,mo'⟩:=r0.dom c m
     rw [e'] at w;cases w;rw [mo] at mo';cases mo'
    exact q H' v fp1 fpr ⟨fun c xs e'=>st e' rfl,fun c o u e'=>st e' rfl,fun c φ e'=>st e' rfl⟩ (fun c o n e'=>ok'.en c o e' n) r1 zz.1 (fun c m=>((ok'.zd c 0 (zz.2 c m)).2).symm.imp id id) rr ndr fun c m=>⟨(frr c m).1.symm.imp id id,fun m'=>(frr c m).2 (zz.2 c m')⟩
   cases ho:b (iniM N.length d0 ds) with
   | none=>rw [ho] at e;cases e
   | some o=>
    rw [ho] at e
    refine sd H fp0 _ [] _ _ H _ o ok ho ?_
    cases o with
    | rt p=>
     have hp:p=.tup [r,d1]:=by
      split at e <;> rename_i hh
      ·cases e;cases hh;rfl
      ·cases hh
      ·cases e
     exact ⟨r,d1,hp,fun z ρ σ H' v fpr ok' h1 kp rr ndr frr=>fin ok' h1 kp rr ndr frr⟩
    | nx ρ'=>
     dsimp only at e
     split at e
     ·rename_i dd h1
      cases e
      exact fun z σ H' ok' kp=>fin ok' h1 kp .non List.nodup_nil fun b m=>nomatch m
     ·cases e
    | bk _=>cases e
    | ct _=>cases e
    | er _ _ _=>cases e
  ·rw [if_neg hl] at e;cases e
end
section
variable {K:PySem.W.Frag}{H H':Hp}
theorem aside {fp0 fp1 fpr:List Addr}{d1 r:D}{v0 u:V} (im:Imm H H') (kp:∀ b o,b∉fp0→H b=some o→H' b=some o) (r1:Rep K H' d1 v0 fp1) (rr:Rep K H' r u fpr) (frr:∀ b∈fpr,(b∈fp0∨H b=none)∧b∉fp1) :
  ∃ H4:Hp,Imm H H4∧(∀ b o,b∉fp0→H b=some o→H4 b=some o)∧Rep K H4 d1 v0 fp1∧Same H4 H'∧∀ a∈fpr,H4 a=none:=by
 classical
 have st:∀ {c:Addr}{o:HO},H' c=some o→MutO o=false→(if c∈fpr then none else H' c)=some o:=fun {c o} e mo=>by
  rw [if_neg fun m=>?_]
  ·exact e
  ·obtain ⟨o',w,mo'⟩:=rr.dom c m
   rw [e] at w;cases w;rw [mo] at mo';cases mo'
 refine ⟨fun c=>if c∈fpr then none else H' c,⟨fun c xs e=>st (im.1 c xs e) rfl,fun c o u e=>st (im.2.1 c o u e) rfl,fun c φ e=>st (im.2.2 c φ e) rfl⟩,fun b o n e=>?_,r1.frame (fun c m=>if_neg fun q=>(frr c q).2 m) ⟨fun c xs e=>st e rfl,fun c o u e=>st e rfl,fun c φ e=>st e rfl⟩,fun c o e=>?_,fun a m=>if_pos m⟩
 ·show (if b∈fpr then none else H' b)=some o
  rw [if_neg fun m=>?_]
  ·exact kp b o n e
  ·rcases (frr b m).1 with q | q
   ·exact n q
   ·rw [e] at q;cases q
 ·have e:(if c∈fpr then none else H' c)=some o:=e
  by_cases m:c∈fpr
  ·rw [if_pos m] at e;cases e
  ·rw [if_neg m] at e;exact e
theorem Reps.nth {d0:D}:∀ {ds:List D}{vs:List V}{g:List Addr}{k:Nat},Reps K H ds vs g→g.Nodup→ds[k]? = some d0 →
  ∃ v gf,vs[k]? = some v∧Rep K H d0 v gf∧gf.Nodup∧(∀ a∈gf,a∈g)∧∀ (H':Hp) (d1:D) (g1:List Addr),Imm H H'→(∀ b o,b∉gf→H b=some o→H' b=some o)→Rep K H' d1 v g1→g1.Nodup→(∀ b∈g1,b∈gf∨H b=none) →
   ∃ g',Reps K H' (ds.set k d1) vs g'∧g'.Nodup∧∀ b∈g',b∈g∨H b=none
 | _,_,_,_,.nil,_,e=>by simp at e
 | _,_,_,0,.cons (f1:=f1) (f2:=f2) r1 r2,nd,e=>by
  have e:=Option.some.inj e
  subst e
  obtain ⟨a1,a2,a3⟩:=List.nodup_append.mp nd
  refine ⟨_,f1,rfl,r1,a1,fun a m=>List.mem_append_left _ m,fun H' d1 g1 im kp rr n1 fr=>⟨g1++f2,.cons rr (r2.frame (fun a m=>?_) im),List.nodup_append.mpr ⟨n1,a2,fun a ma b mb e=>?_⟩,fun b m=>?_⟩⟩
  ·obtain ⟨o,w,_⟩:=r2.dom a m
   rw [kp a o (fun q=>a3 a q a m rfl) w,w]
  ·subst e
   obtain ⟨o,w,_⟩:=r2.dom a mb
   rcases fr a ma with q | q
   ·exact a3 a q a mb rfl
   ·rw [q] at w;cases w
  ·rcases List.mem_append.mp m with m | m
   ·exact (fr b m).imp (List.mem_append_left _) id
   ·exact .inl (List.mem_append_right _ m)
 | _,_,_,k + 1,.cons (f1:=f1) (f2:=f2) r1 r2,nd,e=>by
  obtain ⟨a1,a2,a3⟩:=List.nodup_append.mp nd
  obtain ⟨v,gf,h1,h2,h3,h4,h5⟩:=Reps.nth (k:=k) r2 a2 (by simpa using e)
  refine ⟨v,gf,by simpa using h1,h2,h3,fun a m=>List.mem_append_right _ (h4 a m),fun H' d1 g1 im kp rr n1 fr=>?_⟩
  obtain ⟨g',c1,c2,c3⟩:=h5 H' d1 g1 im kp rr n1 fr
  refine ⟨f1++g',.cons (r1.frame (fun a m=>?_) im) c1,List.nodup_append.mpr ⟨a1,c2,fun a ma b mb e=>?_⟩,fun b m=>?_⟩
  ·obtain ⟨o,w,_⟩:=r1.dom a m
   rw [kp a o (fun q=>a3 a m a (h4 a q) rfl) w,w]
  ·subst e
   obtain ⟨o,w,_⟩:=r1.dom a ma
   rcases c3 a mb with q | q
   ·exact a3 a ma a q rfl
   ·rw [q] at w;cases w
  ·rcases List.mem_append.mp m with m | m
   ·exact .inl (List.mem_append_left _ m)
   ·exact (c3 b m).imp (List.mem_append_right _) id
theorem Rep.nth {ds:List D}{v:V}{fp:List Addr}{d0:D}{k:Nat} (r:Rep K H (.lst ds) v fp) (nd:fp.Nodup) (e:ds[k]? = some d0) :
  ∃ l xs u gf,v=.ref l∧H l=some (.lst xs)∧xs.length=ds.length∧xs[k]? = some u∧Rep K H d0 u gf∧gf.Nodup∧(∀ b∈gf,b∈fp)∧∀ (H':Hp) (d1:D) (g1:List Addr),Imm H H'→(∀ b o,b∉gf→H b=some o→H' b=some o)→Rep K H' d1 u g1→g1.Nodup→(∀ b∈g1,b∈gf∨H b=none) →
   ∃ fp1,Rep K H' (.lst (ds.set k d1)) v fp1∧fp1.Nodup∧∀ b∈fp1,b∈fp∨H b=none:=by
 cases r with
 | @lst l xs _ g h rs=>
  obtain ⟨n1,n2⟩:=List.nodup_cons.mp nd
  obtain ⟨u,gf,c1,c2,c3,c4,c5⟩:=rs.nth n2 e
  refine ⟨l,xs,u,gf,rfl,h,rs.length.symm,c1,c2,c3,fun b m=>List.mem_cons_of_mem _ (c4 b m),fun H' d1 g1 im kp rr m1 fr=>?_⟩
  obtain ⟨g',e1,e2,e3⟩:=c5 H' d1 g1 im kp rr m1 fr
  have kl:H' l=some (.lst xs):=kp l _ (fun q=>n1 (c4 l q)) h
  refine ⟨l::g',.lst kl e1,List.nodup_cons.mpr ⟨fun m=>?_,e2⟩,fun b m=>?_⟩
  ·rcases e3 l m with q | q
   ·exact n1 q
   ·rw [q] at h;cases h
  ·rcases List.mem_cons.mp m with q | m
   ·exact .inl (by rw [q];exact List.mem_cons_self)
   ·exact (e3 b m).imp (List.mem_cons_of_mem _) id
end
def xCallP (i:Nat) (G:MF) (g:AF):XR:=fun ρ=>match ρ[i]?,g ρ with
 | some (some (d0,.own)),some ps=>if apart i ps=true then (G d0 (ps.map (·.1))).map fun w=>.ok w.1 (mutS ρ i w.2) else none
 | _,_=>none
section
variable {X:Cx}{x xn:Str}{p p1 p2 pos:Pos}{b:Expr}{es:List Expr}{k:Nat}{f:Addr}{fd:FuncData}{ps:List Str}{G:MF}{g:AF}{fk:EF}
theorem fe_callP (i:Nat) (GG:FnOk X.prog X.w X.K X.mg X.base CX0 k f fd ps (spP X.K G)) (hr:Room k X.A) (hm:X.mg x=some (.ref f)) (hk:PySem.W.keepIn X.K (.ref f)=true) (hb:Binds X.K fd ps []) (ha:FA X.nox es g)
  (hN:X.N[i]? = some xn:=by rfl) (hvis:Vis X.env.scope xn:=by first | exact Or.inl rfl | exact Or.inr (Or.inl rfl) | exact Or.inr (Or.inr rfl)) (hd:(xn == ("__debug__":Str))=false:=by decide) (hcd:(xn == ("__classdict__":Str))=false:=by decide)
  (hg:Gl X x:=by rfl) (hdb:(x == ("__debug__":Str))=false:=by decide) (he:starEach (.Name xn p1::es) X.env=(false,eval (.Name xn p1) X.env)::starEach es X.env:=by rfl) (hpl:(backTo pos (starEach es X.env)).any (·.1)=false:=by rfl) :
  FE X (.Call (.Name x p) (.Name xn p1::es) [] pos) (xCallP i G g):=by
 obtain ⟨t,pa,_,sa⟩:=ha
 refine ⟨_,px_pe (pe_call (X:=X.nox) GG hr hg hm hk hb .nil pass0 (pa_cons (pe_var (X:=X.nox) (i:=i) hN hvis hd hcd) pa he) hdb he hpl),fun H0 S z held ρ σ H Q E r ok e0 kk=>?_⟩
 unfold xCallP at e0
 split at e0
 ·rename_i d0 qs h1 h2
  by_cases hap:apart i qs=true
  ·rw [if_pos hap] at e0
   cases h3:G d0 (qs.map (·.1)) with
   | none=>rw [h3] at e0;cases e0
   | some w=>
    rw [h3] at e0
    cases e0
    obtain ⟨v,fp0,hs,r0,zz⟩:=ok.sl i _ _ h1
    refine ⟨v,hs,?_⟩
    refine sa H0 S z held ρ σ H _ qs ok h2 fun H2 vs fp2 s2 r2 g2=>?_
    show spP X.K G ((v::vs)++[]) H2 Q E0
    rw [List.append_nil]
    have ok2:=ok.same s2
    refine ⟨v,vs,d0,fp0,_,fp2,w.1,w.2,rfl,r0.same s2,zz.1,r2,apart_of ok hap g2 zz,h3,fun H3 u fp1 fpr im kp r1 nd fr rr ndr frr=>?_⟩
    obtain ⟨H4,i4,k4,r4,s4,n4⟩:=aside im kp r1 rr frr
    obtain ⟨z',ok3⟩:=ok2.put h1 hs zz i4 k4 r4 nd fr
    exact kk z' H4 H3 u fpr ok3 s4 rr ⟨ndr,n4⟩
  ·rw [if_neg hap] at e0;cases e0
 ·cases e0
end
end L2.Ev
namespace L2
open PySem PySem.Spec PyProof.Rows
theorem op_isnB {X:Cx}:OpR X (compareOp .IsNot) (fun x y H Q=>∃ a b,x=.bl a∧y=.bl b∧Q (.bl (a != b)) H):=by
 intro pins s σ H x y v u Q I rx ry h
 obtain ⟨a,b,rfl,rfl,q⟩:=h
 cases rx
 cases ry
 exact isnot_bool (fin_bl I q rfl)
end L2
namespace L2.Ev
open PySem PySem.Spec PyProof.Rows
def oIsnB:D→D→Option D
 | .bl a,.bl b=>some (.bl (a != b))
 | _,_=>none
theorem does_isnB {K:PySem.W.Frag}:Does2 K (fun x y H Q=>∃ a b,x=.bl a∧y=.bl b∧Q (.bl (a != b)) H) oIsnB:=by
 intro H x y d1 d2 f1 f2 d Q r1 r2 e k
 unfold oIsnB at e
 split at e
 ·cases r1
  cases r2
  cases e
  exact ⟨_,_,rfl,rfl,k H _ (Same.refl H) (.bl _)⟩
 ·cases e
theorem ft_isnB {X:Cx}{a b:Expr}{fa fb:EF}{pos:Pos} (ha:FP X a fa) (hb:FP X b fb):FT X (.Compare a [.IsNot] [b] pos) (tV (e2 oIsnB fa fb)):=ft_cmp op_isnB does_isnB ha hb (nomark _)
section
variable (P:Program) (w:World) (K:PySem.W.Frag) (mg:Str→Option Value) (base:Heap) (CX:CXT) (k:Nat)
def FN (x:Str) (ps:List Str) (sp:Sp) (cm:Bool:=true):Prop:=∃ a fd,FnOk P w K mg base CX k a fd ps sp cm∧mg x=some (.ref a)∧PySem.W.keepIn K (.ref a)=true∧Binds K fd ps []
def MT (C:Addr) (x:Str) (ps:List Str) (sp:Sp) (cm:Bool:=true):Prop:=∃ a fd,FnOk P w K mg base CX k a fd ps sp cm∧Binds K fd ps []∧Meth K C x a
def MI (C:Addr) (ps:List Str) (sp:Sp) (cm:Bool:=true):Prop:=∃ a fd,FnOk P w K mg base CX k a fd ps sp cm∧Binds K fd ps []∧Mk K C a
end
def GL (K:PySem.W.Frag) (x q:Str) (st:Stmt) (f:Addr):Prop:=∃ oc od kV dc pm an cd ct sl,K.lookup f=some ⟨oc,od,.func (PySem.W.fnOf x q (defArgs st) (defBody st) (defScope st) .none kV dc pm an cd ct),sl⟩∧PySem.W.codeIn K cd q=true∧PySem.W.keepIn K (.ref f)=true
def GFn (K:PySem.W.Frag) (x:Str) (st:Stmt):Prop:=∃ f,PySem.W.nsIn K mainGlobals x=some (some (.ref f))∧GL K x x st f
def GM (K:PySem.W.Frag) (C:Addr) (x q:Str) (st:Stmt):Prop:=∃ f,PySem.W.findIn K (.ref C) x=some (some (.ref f))∧PySem.W.isFn K (.ref f)=true∧GL K x q st f
abbrev BA (x q:Str) (st:Stmt) (ps:List Str):Prop:=∀ (kV doc pm:Value) (an:Option Addr) (cdv ct:Value) (us:List Value),us.length=ps.length→bindArgs (PySem.W.fnOf x q (defArgs st) (defBody st) (defScope st) .none kV doc pm an cdv ct) ⟨us,[]⟩=pure (ps.zip us)
theorem gl_fun {K:PySem.W.Frag}{x q:Str}{st:Stmt}{f:Addr} (l:GL K x q st f):PySem.W.keepIn K (.ref f)=true∧∃ fd,Fun K x q st f fd:=by
 obtain ⟨oc,od,kV,dc,pm,an,cd,ct,sl,h1,h2,h3⟩:=l
 exact ⟨h3,_,fun_mk h1 h2 h3⟩
section
variable {P:Program}{w:World}{K:PySem.W.Frag}{h:Heap}{mg:Str→Option Value}{base:Heap}{CX:CXT}{k:Nat}{C:Addr}{x q:Str}{st:Stmt}{ps:List Str}{sp:Sp}{cm:Bool}
theorem fnW (X:K.In h) (G:h.Ns mainGlobals mg) (l:GFn K x st) (ok:∀ {f:Addr}{fd:FuncData},Fun K x x st f fd→FnOk P w K mg base CX k f fd ps sp cm) (b:BA x x st ps):FN P w K mg base CX k x ps sp cm:=by
 obtain ⟨f,a,l⟩:=l
 obtain ⟨kp,fd,F⟩:=gl_fun l
 exact ⟨f,fd,ok F,PySem.W.mg_of X G a,kp,F.binds b⟩
theorem mtW (l:GM K C x q st) (ok:∀ {f:Addr}{fd:FuncData},Fun K x q st f fd→FnOk P w K mg base CX k f fd ps sp cm) (b:BA x q st ps):MT P w K mg base CX k C x ps sp cm:=by
 obtain ⟨f,a,i,l⟩:=l
 obtain ⟨kp,fd,F⟩:=gl_fun l
 exact ⟨f,fd,ok F,F.binds b,⟨a,i,kp⟩⟩
theorem miW (l:GM K C "__init__" q st) (m1:PySem.W.makesIn K C=true) (m2:PySem.W.keepIn K (.ref C)=true) (ok:∀ {f:Addr}{fd:FuncData},Fun K "__init__" q st f fd→FnOk P w K mg base CX k f fd ps sp cm) (b:BA "__init__" q st ps):MI P w K mg base CX k C ps sp cm:=by
 obtain ⟨f,a,i,l⟩:=l
 obtain ⟨kp,fd,F⟩:=gl_fun l
 exact ⟨f,fd,ok F,F.binds b,⟨m1,a,i,m2⟩⟩
theorem lawW {fa:Addr}{p:Str}{sp:Heap→Sp} (X:K.In h) (G:h.Ns mainGlobals mg) (hfa:mg "law"=some (.ref fa)) (l:GFn K "law" st)
  (b:∀ (kV doc pm:Value) (an:Option Addr) (cdv ct:Value) (s:Shared) (v:Value),BindsTo s (PySem.W.fnOf "law" "law" (defArgs st) (defBody st) (defScope st) .none kV doc pm an cdv ct) ⟨[v],[]⟩ [(p,v)])
  (ok:∀ base:Heap,K.In base→base.Ns mainGlobals mg→∀ {f:Addr}{fd:FuncData},Fun K "law" "law" st f fd→FnOk P w K mg base CX k f fd [p] (sp base) cm) :
  ∃ fd:FuncData,(∀ (s:Shared) (v:Value),BindsTo s fd ⟨[v],[]⟩ [(p,v)])∧∀ base:Heap,K.In base→base.Ns mainGlobals mg→FnOk P w K mg base CX k fa fd [p] (sp base) cm:=by
 obtain ⟨f,a,oc,od,kV,dc,pm,an,cd,ct,sl,h1,h2,h3⟩:=l
 have e:=hfa.symm.trans (PySem.W.mg_of X G a)
 cases e
 exact ⟨_,b kV dc pm an cd ct,fun base K1 G1=>ok base K1 G1 (fun_mk h1 h2 h3)⟩
end
end L2.Ev
namespace L2
open PySem PySem.Spec PyProof.Rows
namespace Zt
section
variable {prog:Program}{w:World}{A:Around}{E:Value→Shared→Prop}{s:Shared}
theorem drawn {it t:Addr}{i:Nat}{items:Array Value}{x:Value}{Q:Value→Shared→Prop} (hit:s.heap.IsTupleIter it t i) (ht:s.heap.IsTuple t items) (hx:items[i]? = some x)
  (hQ:∀ h',h'.IsTupleIter it t (i + 1)→Heap.SameBut it s.heap h'→Q x { s with heap:=h' }):wpAny (model prog w) A (Builtin.SmallTypes.nextOf (.ref it)) Q E s:=by
 obtain ⟨oi,ei,ci,di⟩:=id hit
 obtain ⟨ot,et,_,nt,dt⟩:=ht
 unfold Builtin.SmallTypes.nextOf
 refine wpAny_bind (wpAny_callSpecial?_slot (name:=Str.ofString "__next__") hit.typeIs F.slot_tuple_iterator_next (wpAny_call_entry F.slot_tuple_iterator_next hit.typeIs F.entry_tuple_iterator_next ?_ (F.args_tuple_iterator_next_1 _)))
 show wpAny _ _ (field (.ref it) 0 >>= fun v=>_) _ _ s
 refine wpAny_bind (wpAny_field ei di (x:=.ref t) rfl ?_)
 refine wpAny_ite_split (fun z=>absurd z Bool.false_ne_true) fun _=>?_
 show wpAny _ _ (field (.ref it) 1 >>= fun v=>_) _ _ s
 refine wpAny_bind (wpAny_field ei di (x:=.int i 0) rfl ?_)
 refine wpAny_bind (wpAny_seqItems et dt ?_)
 simp only [Int.toNat_natCast,hx]
 refine wpAny_bind (wpAny_setField ei di (by simp) (wpAny_pure ⟨x,rfl,wpAny_pure (hQ _ ⟨_,Heap.get?_update_self _ ei (Obj.isFreed_of_fields (Obj.data_mapFields di _)),(Obj.cls_mapFields ..).trans ci,?_⟩ (Heap.SameBut.update ..))⟩))
 rw [Obj.data_mapFields di]
 simp [rawInt]
theorem ended {it t:Addr}{i:Nat}{items:Array Value}{Q:Value→Shared→Prop} (hh:A.handled=none) (hit:s.heap.IsTupleIter it t i) (ht:s.heap.IsTuple t items) (hx:items[i]? = none)
  (hE:∀ h' e,Heap.ExtBut it s.heap h'→(∃ o,h'.get? e=some o∧o.cls=.type "StopIteration")→E (.ref e) { s with heap:=h' }):wpAny (model prog w) A (Builtin.SmallTypes.nextOf (.ref it)) Q E s:=by
 obtain ⟨oi,ei,ci,di⟩:=id hit
 obtain ⟨ot,et,_,nt,dt⟩:=ht
 have hh1:A.in1.handled=none:=hh
 unfold Builtin.SmallTypes.nextOf
 refine wpAny_bind (wpAny_callSpecial?_slot (name:=Str.ofString "__next__") hit.typeIs F.slot_tuple_iterator_next (wpAny_call_entry F.slot_tuple_iterator_next hit.typeIs F.entry_tuple_iterator_next ?_ (F.args_tuple_iterator_next_1 _)))
 show wpAny _ _ (field (.ref it) 0 >>= fun v=>_) _ _ s
 refine wpAny_bind (wpAny_field ei di (x:=.ref t) rfl ?_)
 refine wpAny_ite_split (fun z=>absurd z Bool.false_ne_true) fun _=>?_
 show wpAny _ _ (field (.ref it) 1 >>= fun v=>_) _ _ s
 refine wpAny_bind (wpAny_field ei di (x:=.int i 0) rfl ?_)
 refine wpAny_bind (wpAny_seqItems et dt ?_)
 simp only [Int.toNat_natCast,hx]
 refine wpAny_bind (wpAny_rule (wpAny_bind (wpAny_setField ei di (by simp) ?_)))
 unfold Builtin.SmallTypes.stopIteration
 refine wpAny_bind ?_
 unfold newExc newTuple
 refine wpAny_bind (wpAny_newObj_type ?_ (by size_fits))
 refine wpAny_bind (m:=firstArgMember _ _) (wpAny_of_eq (a:=Value.none) (by first | (simp only [firstArgMember];rfl) | rfl) ?_)
 refine wpAny_newObj_type ?_ (by size_fits)
 unfold raiseNew
 refine wpAny_bind (wpAny_handled ?_)
 rw [hh1]
 exact wpAny_bind (wpAny_pure (wpAny_throw (hE _ _ (((Heap.SameBut.update ..).extBut.push _).push _) ⟨_,Heap.get?_push_size _ rfl,rfl⟩)))
theorem step {z TI TO i1 i2 l1 l2:Addr}{k:Nat}{xs ys:Array Value}{a b:Value}{Q:Fin→Shared→Prop} (D:ZipApart z TI TO i1 i2 l1 l2)
  (hz:IsZip s.heap z TI TO .none) (hTI:IsPair s.heap TI (.ref i1) (.ref i2)) (hTO:IsPair s.heap TO a b)
  (h1:s.heap.IsTupleIter i1 l1 k) (h2:s.heap.IsTupleIter i2 l2 k) (t1:s.heap.IsTuple l1 xs) (t2:s.heap.IsTuple l2 ys)
  (hQ:∀ x y h',xs[k]? = some x→ys[k]? = some y→IsZip h' z TI TO (rawInt s.heap.objs.size)→IsPair h' TO x y→h'.IsTupleIter i1 l1 (k + 1)→h'.IsTupleIter i2 l2 (k + 1)→IsPair h' s.heap.objs.size x y →
   (∀ c o,c∉[z,TO,i1,i2]→s.heap.get? c=some o→h'.get? c=some o)→Q (.done (.ret (.ref s.heap.objs.size))) { s with heap:=h' })
  (hE:(xs[k]? = none∨ys[k]? = none)→A.handled=none∧∀ h' e,(∀ c o,c∉[z,TO,i1,i2]→s.heap.get? c=some o→h'.get? c=some o)→(∃ o,h'.get? e=some o∧o.cls=.type "StopIteration")→E (.ref e) { s with heap:=h' }) :
  wpAny (model prog w) A (Builtin.«zip.__next__» ⟨[.ref z],[]⟩) Q E s:=by
 show wpAny _ _ (field (.ref z) 2 >>= fun v=>_) _ _ _
 refine wpAny_bind (wpAny_field hz rfl (x:=.bool false) rfl ?_)
 show wpAny _ _ (field (.ref z) 3 >>= fun v=>_) _ _ _
 refine wpAny_bind (wpAny_field hz rfl (x:=.ref TI) rfl (wpAny_bind (wpAny_seqItems hTI rfl ?_)))
 show wpAny _ _ (Builtin.SmallTypes.ownedTupleIsFree (.ref z) >>= fun v=>_) _ _ _
 refine wpAny_bind ?_
 unfold Builtin.SmallTypes.ownedTupleIsFree
 refine wpAny_bind (wpAny_field hz rfl (x:=.none) rfl (wpAny_pure ?_))
 simp only [if_true]
 refine wpAny_bind (wpAny_rule (wpAny_bind (wpAny_field hz rfl (x:=.ref TO) rfl (wpAny_bind (wpAny_setField_rec hz (by simp) fun g1 z1 b1=>?_)))))
 have z1':IsZip g1 z TI TO .ellipsis:=z1
 have D1:=D
 obtain ⟨TIz,TOz,i1z,i2z,TITO,TIi1,TIi2,TOi1,TOi2,i12,l1z,l1TO,l1i1,l1i2,l2z,l2TO,l2i1,l2i2⟩:=D1
 refine wpAny_bind ?_
 simp only [List.zipIdx_cons,List.zipIdx_nil,List.forIn_cons,List.forIn_nil]
 refine wpAny_bind (wpAny_bind (wpAny_onRaise ?_))
 show wpAny _ _ (Builtin.SmallTypes.nextOf (.ref i1) >>= fun v=>_) _ _ _
 cases hx:xs[k]? with
 | none=>
  obtain ⟨hh,fin⟩:=hE (.inl hx)
  refine wpAny_bind (ended hh (h1.extBut b1.extBut i1z) (t1.extBut b1.extBut l1z) hx fun g2 e b2 ⟨oe,he,ce⟩=>?_)
  have z2:IsZip g2 z TI TO .ellipsis:=b2 _ _ i1z.symm z1'
  have ez:e≠z:=fun q=>by subst q;rw [z2] at he;cases he;simp at ce
  refine wpAny_setField_rec z2 (by simp) fun g3 _ b3=>fin g3 e (fun c o m q=>?_) ⟨oe,b3.extBut _ _ ez he,ce⟩
  simp only [List.mem_cons,List.not_mem_nil,or_false,not_or] at m
  exact b3.extBut _ _ m.1 (b2 _ _ m.2.2.1 (b1.extBut _ _ m.1 q))
 | some x=>
  refine wpAny_bind (drawn (h1.extBut b1.extBut i1z) (t1.extBut b1.extBut l1z) hx fun g2 i2' b2=>wpAny_pure ?_)
  have o2:IsPair g2 TO a b:=b2.extBut _ _ TOi1 (b1.extBut _ _ TOz hTO)
  refine wpAny_bind (wpAny_seqItems o2 rfl (wpAny_bind (wpAny_updateSeq_pair o2 fun g3 o3 b3=>wpAny_bind (wpAny_letGo (wpAny_pure ?_)))))
  have o3':IsPair g3 TO x b:=o3
  refine wpAny_bind (wpAny_bind (wpAny_onRaise ?_))
  show wpAny _ _ (Builtin.SmallTypes.nextOf (.ref i2) >>= fun v=>_) _ _ _
  have j2:g3.IsTupleIter i2 l2 k:=((h2.extBut b1.extBut i2z).extBut b2.extBut i12.symm).extBut b3.extBut TOi2.symm
  have u2:g3.IsTuple l2 ys:=((t2.extBut b1.extBut l2z).extBut b2.extBut l2i1).extBut b3.extBut l2TO
  cases hy:ys[k]? with
  | none=>
   obtain ⟨hh,fin⟩:=hE (.inr hy)
   refine wpAny_bind (ended hh j2 u2 hy fun g4 e b4 ⟨oe,he,ce⟩=>?_)
   have z4:IsZip g4 z TI TO .ellipsis:=b4 _ _ i2z.symm (b3.extBut _ _ TOz.symm (b2.extBut _ _ i1z.symm z1'))
   have ez:e≠z:=fun q=>by subst q;rw [z4] at he;cases he;simp at ce
   refine wpAny_setField_rec z4 (by simp) fun g5 _ b5=>fin g5 e (fun c o m q=>?_) ⟨oe,b5.extBut _ _ ez he,ce⟩
   simp only [List.mem_cons,List.not_mem_nil,or_false,not_or] at m
   exact b5.extBut _ _ m.1 (b4 _ _ m.2.2.2 (b3.extBut _ _ m.2.1 (b2.extBut _ _ m.2.2.1 (b1.extBut _ _ m.1 q))))
  | some y=>
   refine wpAny_bind (drawn j2 u2 hy fun g4 k2 b4=>wpAny_pure ?_)
   have o4:IsPair g4 TO x b:=b4.extBut _ _ TOi2 o3'
   refine wpAny_bind (wpAny_seqItems o4 rfl (wpAny_bind (wpAny_updateSeq_pair o4 fun g5 o5 b5=>wpAny_bind (wpAny_letGo (wpAny_pure (wpAny_pure ?_))))))
   have o5':IsPair g5 TO x y:=o5
   refine wpAny_bind (wpAny_seqItems o5' rfl (wpAny_bind (wpAny_newTuple ?_)))
   have sz:g5.objs.size=s.heap.objs.size:=by rw [b5.1,b4.1,b3.1,b2.1,b1.1]
   have z5:IsZip g5 z TI TO .ellipsis:=b5.extBut _ _ TOz.symm (b4.extBut _ _ i2z.symm (b3.extBut _ _ TOz.symm (b2.extBut _ _ i1z.symm z1')))
   have zl:g5.objs.size≠z:=Nat.ne_of_gt (Heap.lt_size z5)
   show wpAny _ _ (Builtin.SmallTypes.ownedTupleHandOut (.ref z) (.ref g5.objs.size) >>= fun v=>_) _ _ _
   refine wpAny_bind ?_
   unfold Builtin.SmallTypes.ownedTupleHandOut
   have z6:IsZip (g5.push { cls:=.type "tuple",data:=.seq #[x,y] }) z TI TO .ellipsis:=Heap.get?_push_of_some _ z5
   refine wpAny_bind (wpAny_setField_rec z6 (by simp) fun g7 z7 b7=>?_)
   have z7':IsZip g7 z TI TO (rawInt g5.objs.size):=z7
   refine wpAny_setField_rec z7' (by simp) fun g8 z8 b8=>?_
   have z8':IsZip g8 z TI TO (rawInt g5.objs.size):=z8
   have up:∀ c o,c≠z→g5.get? c=some o→g8.get? c=some o:=fun c o n q=>b8.extBut _ _ n (b7.extBut _ _ n (Heap.get?_push_of_some _ q))
   have new:IsPair g8 g5.objs.size x y:=b8.extBut _ _ zl (b7.extBut _ _ zl (Heap.get?_push_size _ rfl))
   rw [sz] at z8' new
   have r1:g5.IsTupleIter i1 l1 (k + 1):=((i2'.extBut b3.extBut TOi1.symm).extBut b4.extBut i12).extBut b5.extBut TOi1.symm
   have r2:g5.IsTupleIter i2 l2 (k + 1):=k2.extBut b5.extBut TOi2.symm
   refine wpAny_pure ?_
   show Q (.done (.ret (.ref g5.objs.size))) _
   rw [sz]
   refine hQ x y g8 hx hy z8' (up _ _ TOz o5') (r1.at fun o q=>up _ o i1z q) (r2.at fun o q=>up _ o i2z q) new fun c o m q=>?_
   simp only [List.mem_cons,List.not_mem_nil,or_false,not_or] at m
   exact up c o m.1 (b5.extBut _ _ m.2.1 (b4.extBut _ _ m.2.2.2 (b3.extBut _ _ m.2.1 (b2.extBut _ _ m.2.2.1 (b1.extBut _ _ m.1 q)))))
end
end Zt
namespace Zt
section
variable {prog:Program}{w:World}{A:Around}{E:Value→Shared→Prop}{s:Shared}
theorem next {z TI TO i1 i2 l1 l2:Addr}{k:Nat}{xs ys:Array Value}{a b:Value}{Q:Option Value→Shared→Prop} (D:ZipApart z TI TO i1 i2 l1 l2)
  (hz:IsZip s.heap z TI TO .none) (hTI:IsPair s.heap TI (.ref i1) (.ref i2)) (hTO:IsPair s.heap TO a b)
  (h1:s.heap.IsTupleIter i1 l1 k) (h2:s.heap.IsTupleIter i2 l2 k) (t1:s.heap.IsTuple l1 xs) (t2:s.heap.IsTuple l2 ys)
  (hQ:∀ x y h',xs[k]? = some x→ys[k]? = some y→IsZip h' z TI TO (rawInt s.heap.objs.size)→IsPair h' TO x y→h'.IsTupleIter i1 l1 (k + 1)→h'.IsTupleIter i2 l2 (k + 1)→IsPair h' s.heap.objs.size x y →
   (∀ c o,c∉[z,TO,i1,i2]→s.heap.get? c=some o→h'.get? c=some o)→Q (some (.ref s.heap.objs.size)) { s with heap:=h' })
  (hE:(xs[k]? = none∨ys[k]? = none)→A.handled=none∧∀ h',(∀ c o,c∉[z,TO,i1,i2]→s.heap.get? c=some o→h'.get? c=some o)→Q none { s with heap:=h' }) :
  wpAny (model prog w) A (pyNext (.ref z)) Q E s:=by
 have ty:s.TypeIs (.ref z) "zip":=⟨_,hz,rfl⟩
 unfold pyNext
 refine wpAny_bind (wpAny_attempt (wpAny_callSpecial?_slot (name:=Str.ofString "__next__") ty F.slot_zip_next (wpAny_call_entry F.slot_zip_next ty F.entry_zip_next (step D hz hTI hTO h1 h2 t1 t2 ?_ ?_) (F.args_zip_next_1 _))))
 ·exact fun x y h' e1 e2 a1 a2 a3 a4 a5 a6=>⟨_,rfl,wpAny_pure (hQ x y h' e1 e2 a1 a2 a3 a4 a5 a6)⟩
 ·intro en
  obtain ⟨hh,fin⟩:=hE en
  exact ⟨hh,fun h' e kp ⟨o,ho,hc⟩=>wpAny_bind (wpAny_isInstance (T:="StopIteration") (b:=true) ⟨o,ho,hc⟩ isSubtype_stop (wpAny_pure (fin _ kp)))⟩
end
end Zt
def Itzt (K:PySem.W.Frag) (l1 l2:Addr):It:=
  ⟨fun i H=>∃ xs ys x y,SqT K H l1 xs∧SqT K H l2 ys∧xs[i]? = some x∧ys[i]? = some y,
   fun i H v H'=>∃ T a b,H T=none∧v=.ref T∧H'=upd H T (.tup [a,b])∧(∀ xs,SqT K H l1 xs→xs[i]? = some a)∧∀ ys,SqT K H l2 ys→ys[i]? = some b,
   fun i H=>∃ xs ys,SqT K H l1 xs∧SqT K H l2 ys∧(xs.length≤i∨ys.length≤i),false⟩
def ZtSt (z TI TO i1 i2 l1 l2:Addr) (i:Nat) (h:Heap):Prop:=IsZip h z TI TO .none∧IsPair h TI (.ref i1) (.ref i2)∧(∃ a b,IsPair h TO a b)∧h.IsTupleIter i1 l1 i∧h.IsTupleIter i2 l2 i
theorem turn_zipT {P:Program}{w:World}{K:PySem.W.Frag}{elts:List Expr} {x1}{pos:Pos}{z TI TO i1 i2 l1 l2:Addr} (D:ZipApart z TI TO i1 i2 l1 l2) :
  Turn P w K (.Tuple elts x1 pos) (Itzt K l1 l2) [z,TI,TO,i1,i2] z (ZtSt z TI TO i1 i2 l1 l2) where
 mem:=by simp
 obj:=fun i h st b hb=>by
  obtain ⟨s1,s2,⟨a,b',s3⟩,⟨o4,e4,c4,d4⟩,⟨o5,e5,c5,d5⟩⟩:=st
  simp only [List.mem_cons,List.not_mem_nil,or_false] at hb
  rcases hb with rfl | rfl | rfl | rfl | rfl
  ·exact ⟨_,s1,fun v q=>by cases q⟩
  ·exact ⟨_,s2,fun v q=>by cases q⟩
  ·exact ⟨_,s3,fun v q=>by cases q⟩
  ·exact ⟨o4,e4,fun v q=>by rw [d4] at q;cases q⟩
  ·exact ⟨o5,e5,fun v q=>by rw [d5] at q;cases q⟩
 keep:=fun i h h' st k=>by
  obtain ⟨s1,s2,⟨a,b',s3⟩,s4,s5⟩:=st
  exact ⟨k _ (by simp) _ s1,k _ (by simp) _ s2,⟨a,b',k _ (by simp) _ s3⟩,s4.at fun o e=>k _ (by simp) o e,s5.at fun o e=>k _ (by simp) o e⟩
 item:=by
  intro X hP hw hK hc i pins s σ H E I hf st hg
  subst hP hw hK
  obtain ⟨s1,s2,⟨a,b',s3⟩,s4,s5⟩:=st
  obtain ⟨xs,ys,x,y,q1,q2,e1,e2⟩:=hg
  obtain ⟨us,v1,p1,z1⟩:=I.tuple q1
  obtain ⟨ws,v2,p2,z2⟩:=I.tuple q2
  obtain ⟨u,hu,ru⟩:=v1.get e1
  obtain ⟨t,ht,rt⟩:=v2.get e2
  refine Zt.next D s1 s2 s3 s4 s5 (show s.heap.IsTuple l1 us.toArray from p1) (show s.heap.IsTuple l2 ws.toArray from p2) (fun u' t' h' f1 f2 a1 a2 a3 a4 a5 a7=>⟨_,rfl,?_⟩) fun z=>?_
  ·have f1':us[i]? = some u':=by simpa using f1
   have f2':ws[i]? = some t':=by simpa using f2
   rw [hu] at f1'
   rw [ht] at f2'
   cases f1'
   cases f2'
   refine wpAny_letOwnedTupleGo_zip a1 fun h'' b1 b2=>?_
   have lz:z < s.heap.objs.size:=Heap.lt_size s1
   have nz:s.heap.objs.size≠z:=Nat.ne_of_gt lz
   have T2:IsPair h'' s.heap.objs.size u t:=b2.extBut _ _ nz a5
   have nT:H s.heap.objs.size=none:=I.hok.fresh (Nat.le_refl _)
   have I1:Inv X pins σ (upd H s.heap.objs.size (.tup [x,y])) { s with heap:=h'' }:=I.turnNew (t':=s.toks) (ch:=[z,TO,i1,i2]) (fun b m=>hf b (by
     simp only [List.mem_cons,List.not_mem_nil,or_false] at m ⊢
     rcases m with rfl | rfl | rfl | rfl <;> simp)) (fun b o m e=>b2.extBut _ _ (fun q=>m (by rw [q];exact List.mem_cons_self)) (a7 b o m e)) (Nat.le_refl _)
     (show ObjOk X.prog X.w _ h'' _ (.tup [x,y]) from ⟨show 2≤sizeLine by unfold sizeLine;omega,[u,t],.cons ru (.cons rt .nil),⟨_,T2,rfl,rfl,_,rfl⟩⟩)
   refine ⟨.ref s.heap.objs.size,_,I1,rfl,⟨_,x,y,nT,rfl,rfl,fun xs' h=>by rw [I.tuple_inj h q1];exact e1,fun ys' h=>by rw [I.tuple_inj h q2];exact e2⟩,?_,fun b m=>?_⟩
   ·have up:∀ c o,c≠z→h'.get? c=some o→h''.get? c=some o:=fun c o n e=>b2.extBut _ _ n e
    exact ⟨b1,up _ _ D.TIz (a7 TI _ (by simp [D.TIz,D.TITO,D.TIi1,D.TIi2]) s2),⟨u,t,up _ _ D.TOz a2⟩,a3.at fun o e=>up _ o D.i1z e,a4.at fun o e=>up _ o D.i2z e⟩
   ·rw [upd_ne]
    ·exact (hf b m).1
    ·rintro rfl
     obtain ⟨o4,e4,_⟩:=id s4
     obtain ⟨o5,e5,_⟩:=id s5
     simp only [List.mem_cons,List.not_mem_nil,or_false] at m
     rcases m with m | m | m | m | m
     ·exact nz m
     ·exact absurd (Heap.lt_size s2) (by rw [← m];exact Nat.lt_irrefl _)
     ·exact absurd (Heap.lt_size s3) (by rw [← m];exact Nat.lt_irrefl _)
     ·exact absurd (Heap.lt_size e4) (by rw [← m];exact Nat.lt_irrefl _)
     ·exact absurd (Heap.lt_size e5) (by rw [← m];exact Nat.lt_irrefl _)
  ·have z1:us[i]? = none∨ws[i]? = none:=by simpa using z
   rw [hu,ht] at z1
   rcases z1 with z1 | z1 <;> cases z1
 done:=by
  intro X hP hw hK hc i pins s σ H E I hf st hg
  subst hP hw hK
  obtain ⟨s1,s2,⟨a,b',s3⟩,s4,s5⟩:=st
  obtain ⟨xs,ys,q1,q2,e⟩:=hg
  obtain ⟨us,v1,p1,z1⟩:=I.tuple q1
  obtain ⟨ws,v2,p2,z2⟩:=I.tuple q2
  have l1:=v1.length
  have l2:=v2.length
  refine Zt.next D s1 s2 s3 s4 s5 (show s.heap.IsTuple _ us.toArray from p1) (show s.heap.IsTuple _ ws.toArray from p2) (fun u' t' h' f1 f2=>?_) fun _=>⟨I.ok.hd (hc.resolve_right fun z=>Bool.false_ne_true z),fun h' k=>⟨rfl,I.turnL (t':=s.toks) (ch:=[z,TO,i1,i2]) (fun b m=>hf b (by
    simp only [List.mem_cons,List.not_mem_nil,or_false] at m ⊢
    rcases m with rfl | rfl | rfl | rfl <;> simp)) k⟩⟩
  have g1:=(List.getElem?_eq_some_iff.mp (show us[i]? = some u' by simpa using f1)).1
  have g2:=(List.getElem?_eq_some_iff.mp (show ws[i]? = some t' by simpa using f2)).1
  omega
 self:=fun _ _ _ _ _ st h=>wpAny_pyIter_zip st.1 h
end L2
namespace L2.Ev
open PySem PySem.Spec PyProof.Rows
section
variable {X:Cx}{elts:List Expr}{tp:Pos}{a b:Expr}{fa fb:EF}{p pos:Pos}
def oIsiB (T:String):D→Option D
 | .tup _=>some (.bl ("tuple" == T))
 | .fls _=>some (.bl ("list" == T))
 | d=>oIsi T d
def isiOkB (T:String):Prop:=∀ (K:PySem.W.Frag) (t:String),t∈["tuple","list"]→PySem.W.kitOne K (.type t) (.type T)=some (t == T)
theorem isiB_tuple:isiOkB "tuple":=by
 intro K t m
 simp only [List.mem_cons,List.not_mem_nil,or_false] at m
 rcases m with rfl | rfl <;> rfl
theorem call_isiB (T:String):CallR X (.builtin "isinstance") (fun xs H Q=>(∃ x t b,xs=[x,V.ty T]∧TyOf X.K H x t∧PySem.W.kitOne X.K t (.type T)=some b∧Q (.bl b) H) ∨
  (∃ a ys b,xs=[.ref a,V.ty T]∧SqT X.K H a ys∧PySem.W.kitOne X.K (.type "tuple") (.type T)=some b∧Q (.bl b) H)∨(∃ a ys b,xs=[.ref a,V.ty T]∧SqL X.K H a ys∧PySem.W.kitOne X.K (.type "list") (.type T)=some b∧Q (.bl b) H)):=by
 intro pins s σ H xs us Q I r h
 rcases h with h | ⟨a,ys,bb,rfl,hq,e,q⟩ | ⟨a,ys,bb,rfl,hq,e,q⟩
 ·exact call_isi T pins s σ H xs us Q I r h
 ·obtain ⟨u,w',rfl,ru,rw'⟩:=vals2 r
  cases rw'
  cases (show u=Value.ref a from ru)
  obtain ⟨its,_,⟨o,h1,h2,_⟩,_⟩:=I.tuple hq
  exact PySem.W.kia_one PySem.W.kitx_tuple I.kIn ⟨o,h1,h2⟩ e (fun z=>nomatch z) fun tk=>⟨.bl bb,H,I.tok tk,rfl,q⟩
 ·obtain ⟨u,w',rfl,ru,rw'⟩:=vals2 r
  cases rw'
  cases (show u=Value.ref a from ru)
  obtain ⟨its,_,⟨o,n,h1,h2,_⟩,_⟩:=I.list hq
  exact PySem.W.kia_one PySem.W.kitx_list I.kIn ⟨o,h1,h2⟩ e (fun z=>nomatch z) fun tk=>⟨.bl bb,H,I.tok tk,rfl,q⟩
theorem fp_isiB {T:String}{x:Str}{p p2:Pos} (hT:isiOk T) (hTB:isiOkB T) (hm:X.mg "isinstance"=none) (hmT:X.mg x=none) (ha:FP X a fa) (hbT:bootBuiltins x=some (.type T):=by decide +kernel) (hg:Gl X "isinstance":=by rfl) (hgT:Gl X x:=by rfl) (hn:x≠"__name__":=by decide) (hdb:(x == ("__debug__":Str))=false:=by decide)
  (hs:starEach [a,.Name x p2] X.env=[(false,eval a X.env),(false,eval (.Name x p2) X.env)]:=by rfl) (hpl:(backTo pos (starEach [.Name x p2] X.env)).any (·.1)=false:=by rfl):FP X (.Call (.Name "isinstance" p) [a,.Name x p2] [] pos) (e1 (oIsiB T) fa):=by
 obtain ⟨ta,pa,sa⟩:=ha
 have hs2:starEach [.Name x p2] X.env=[(false,eval (.Name x p2) X.env)]:=rfl
 refine ⟨_,pe_callB (call_isiB T) hg hm (show bootBuiltins "isinstance"=some (.builtin "isinstance") by decide +kernel) (pa_cons pa (pa_cons (pe_bltn (v:=.ty T) hgT hmT hbT rfl hn hdb) pa_nil) (by rw [hs,hs2])) (he:=by rw [hs,hs2]) (hpl:=hpl),fun H0 S z held ρ σ H Q d tg ok e k=>?_⟩
 obtain ⟨d1,t1,h1,h2,rfl⟩:=e1_of e
 refine sa H0 S z held ρ σ H _ d1 t1 ok h1 fun H1 v fp s1 r1 _=>?_
 unfold oIsiB at h2
 split at h2
 ·cases h2
  obtain ⟨w,xs,rfl,hq,_⟩:=r1.tup_of
  exact .inr (.inl ⟨w,xs,_,rfl,hq,hTB X.K "tuple" (by decide),k H1 _ [] s1 (.bl _) .nil⟩)
 ·cases h2
  obtain ⟨w,xs,rfl,hq,_⟩:=r1.fls_of
  exact .inr (.inr ⟨w,xs,_,rfl,hq,hTB X.K "list" (by decide),k H1 _ [] s1 (.bl _) .nil⟩)
 ·unfold oIsi at h2
  cases ht:tyD d1 with
  | none=>rw [ht] at h2;cases h2
  | some t=>
   rw [ht] at h2
   cases h2
   obtain ⟨ty,mem⟩:=r1.ty ht
   exact .inl ⟨v,_,_,rfl,ty,hT X.K t mem,k H1 _ [] s1 (.bl _) .nil⟩
end
end L2.Ev
namespace L2
open PySem PySem.Spec PyProof.Rows
section
variable {X:Cx}{pins:List (Addr×Obj)}{σ:St}{H:Hp}{s:Shared}
theorem Inv.freezeD {a:Addr}{o:Obj}{kvs:List (Key×V)} (I:Inv X pins σ H s) (ha:H a=some (.dK kvs)) (ho:s.heap.get? a=some o):Inv X pins σ (upd H a (.frz o (.dK kvs))) s:=
 I.write (h':=s.heap) (t':=s.toks) (o:=.frz o (.dK kvs)) (x:=a) (e:=a) (by rw [ha];trivial) (.inl rfl) (fun _ _ _ q=>q) ⟨o,ho⟩ ⟨ho,I.hok a _ ha⟩
theorem Inv.thaw {a:Addr}{o:Obj}{kvs:List (Key×V)} (I:Inv X pins σ H s) (ha:H a=some (.frz o (.dK kvs))) (h0:∀ o u,X.H₀ a≠some (.frz o u)) (hd:X.A.handled=none):Inv X pins σ (upd H a (.dK kvs)) s:=by
 have nn:∀ {b:Addr},H b=none→upd H a (.dK kvs) b=none:=fun {b} e=>by rw [upd_ne (fun q=>by rw [q,ha] at e;cases e)];exact e
 have ne:∀ {b:Addr}{u:HO},H b=some u→(∀ o u',u≠.frz o u')→upd H a (.dK kvs) b=some u:=fun {b u} e n=>by
  rw [upd_ne (fun q=>by rw [q,ha] at e;cases e;exact n _ _ rfl)];exact e
 refine ⟨I.ok,I.os,I.bare,⟨I.base.keep,I.base.slot,fun b o e n hx=>nn (I.base.free b o e n hx),I.base.there,fun b xs e=>ne (I.base.tups b xs e) (fun _ _ q=>by cases q),fun b o u e=>?_,fun b ps e=>?_⟩,I.loc,I.cell,nn I.free,fun x c e=>nn (I.freeC x c e),fun p hp=>?_,fun b u e=>?_,I.len,.inl hd⟩
 ·rw [upd_ne (fun q=>h0 o u (by rw [← q];exact e))]
  exact I.base.frzs b o u e
 ·obtain ⟨m,q⟩:=I.base.tbls b ps e
  exact ⟨m,ne q (fun _ _ q=>by cases q)⟩
 ·obtain ⟨e,n,r⟩:=I.pin p hp
  exact ⟨e,nn n,r⟩
 ·by_cases hb:b=a
  ·subst hb
   rw [upd_same] at e
   cases e
   exact (I.hok b _ ha).2
  ·rw [upd_ne hb] at e
   exact (I.hok b u e).stay (fun c v _ q=>q) (fun c q=>ne q (fun _ _ q=>by cases q)) fun c xs q=>ne q (fun _ _ q=>by cases q)
def Itd0 (a:Addr) (o:Obj):It:=⟨fun _ _=>False,fun _ _ _ _=>False,fun i H=>i=0∧H a=some (.frz o (.dK [])),false⟩
theorem turn_dict0 {P:Program}{w:World}{K:PySem.W.Frag}{tg:Expr} (a it:Addr) {o:Obj}{es:Array DictEntry}{ep:Nat} (h1:o.ExactDict) (h2:o.data=.dict es ep) (h3:KeysOf (mixKind P w) es) (h4:Pairs (mixKind P w) es.toList []) :
  Turn P w K tg (Itd0 a o) [it] it (fun i h=>h.IsKeyIter it a 0 0 ep) where
 mem:=by simp
 obj:=fun i h st b hb=>by
  have e:b=it:=by simpa using hb
  subst e
  obtain ⟨o,e,c,d⟩:=st
  exact ⟨o,e,fun v z=>by rw [d] at z;cases z⟩
 keep:=fun i h h' st k=>by
  obtain ⟨o,e,c,d⟩:=st
  exact ⟨o,k it (by simp) o e,c,d⟩
 item:=by
  intro X hP hw hK hc i pins s σ H E I hf st hg
  exact hg.elim
 done:=by
  intro X hP hw hK hc i pins s σ H E I hf st hg
  subst hP hw hK
  obtain ⟨rfl,hH⟩:=hg
  obtain ⟨ho,_⟩:=(show s.heap.get? a=some o∧ObjOk X.prog X.w H s.heap a (.dK []) from I.hok a _ hH)
  obtain ⟨f0,f1,f2,f3,f4,f5⟩:=hf it (by simp)
  exact wpAny_pyNext_dict_end (knd:=mixKind X.prog X.w) (kvs:=[]) (I.ok.hd (hc.resolve_right fun z=>Bool.false_ne_true z)) st ⟨o,es,ho,h1,h2,h3,h4,List.nodup_nil⟩ rfl fun h' eb=>⟨rfl,I.turned (t':=s.toks) (fun b o hb e=>eb b o hb e) f0 f1 f3 f4 f5⟩
 self:=fun _ _ _ _ _ st h=>wpAny_pyIter_keyiter st h
def iDz (X:Cx) (tl:TE):TI:=fun σ H R=>tl σ H fun x H1=>∃ a,x=.ref a∧H1 a=some (.dK [])∧∀ o,(∀ o u,X.H₀ a≠some (.frz o u))→R (Itd0 a o) (upd H1 a (.frz o (.dK [])))
theorem pi_dz {tg l:Expr}{tl:TE} (hl:PE X l tl):PI X tg l (iDz X tl):=by
 intro pins s σ H R I h
 refine thn (hl pins s σ H _ I h) fun v s1 ⟨x,H1,I1,r1,q1⟩=>?_
 obtain ⟨a,e,ha,q⟩:=q1
 subst e
 cases r1
 obtain ⟨_,hsys,vs,kv,od⟩:=(show ([]:List (Key×V)).length≤sizeLine∧(a == sysModules)=false∧∃ vs,KV [] vs∧s1.heap.DictOf (mixKind X.prog X.w) a vs from I1.hok a _ ha)
 cases kv
 obtain ⟨ep,hat⟩:=od.dictAt
 obtain ⟨o,es,ho,h1,h2,h3,h4,h5⟩:=id hat
 refine wpAny_pyIter_dict hsys hat ?_
 have I2:=I1.freezeD ha ho
 refine ⟨s1.heap.objs.size,[s1.heap.objs.size],_,_,_,rfl,I2.kept (t':=s1.toks) fun b o e=>Heap.get?_push_of_some _ e,turn_dict0 a _ h1 h2 h3 h4,⟨_,Heap.get?_push_size _ rfl,rfl,rfl⟩,fun b hb=>?_,q o fun o u z=>by rw [I1.base.frzs a o u z] at ha;cases ha⟩
 have e:b=s1.heap.objs.size:=by simpa using hb
 subst e
 exact I2.fpOk (Nat.le_refl _) (I2.hok.fresh (Nat.le_refl _))
def tCompD0 (tl:TE):TE:=fun σ H Q=>tl σ H fun x H1=>∃ a,x=.ref a∧H1 a=some (.dK [])∧∀ D,H1 D=none→Q (.ref D) (upd H1 D (.lst []))
theorem pe_compD0 {tg iter elt:Expr}{ifs:List Expr}{sc:Scope}{pos:Pos}{M:List Str}{js:List (Option Nat)}{tl:TE} (S:CompScope X M js sc) (hc:X.calm=true) (hl:PE X iter tl)
  (hmono:∀ (σ:St) (H:Hp) (Q Q':VK),(∀ v H',Q v H'→Q' v H')→tl σ H Q→tl σ H Q') (hs:∀ x,foldedSetIterable iter X.env x=pure x:=by intro _;rfl) :
  PE X (.ListComp elt [⟨tg,iter,ifs,0⟩] sc pos) (tCompD0 tl):=by
 intro pins s σ H Q I h
 have P:=pe_comp (tg:=tg) (elt:=elt) (ifs:=ifs) (pos:=pos) (wi:=iDz X tl) (g:=fun _ _ _ _=>False) (tt:=fun _ _ _=>False) (te:=fun _ _ _=>False) S hc (pi_dz (tg:=tg) hl)
  (fun s3 H3 fp=>⟨fun _ _ _ _ _ _ _ _ _ h=>h.elim,fun _ _ _ _ _ _ h=>h.elim,fun _ _ _ _ _ _ h=>h.elim⟩) hs
 refine thn (P pins s σ H (fun v H'=>∃ a o H1,(∀ o u,X.H₀ a≠some (.frz o u))∧H1 a=some (.dK [])∧(∃ D,v=.ref D∧H1 D=none∧H'=upd (upd H1 a (.frz o (.dK []))) D (.lst [])∧Q v (upd H1 D (.lst [])))) I ?_) fun v s1 ⟨x,H',I',r,a,o,H1,h0,ha,D,e1,hD,e2,q⟩=>?_
 ·refine hmono σ H _ _ (fun x H1 ⟨a,e,ha,q⟩=>⟨a,e,ha,fun o h0 D hD=>?_⟩) h
  have hne:D≠a:=fun z=>by rw [z,upd_same] at hD;cases hD
  rw [upd_ne hne] at hD
  refine ⟨fun i m σ' H'=>i=0∧H'=upd (upd H1 a (.frz o (.dK []))) D (.lst []),⟨0,rfl,rfl⟩,?_⟩
  rintro i m σ' H' ⟨rfl,rfl⟩
  refine .inl ⟨⟨rfl,?_⟩,a,o,H1,h0,ha,D,rfl,hD,rfl,q D hD⟩
  rw [upd_ne (Ne.symm hne),upd_same]
 ·subst e1 e2
  have hne:D≠a:=fun z=>by rw [z,ha] at hD;cases hD
  have ha':upd (upd H1 a (.frz o (.dK []))) D (.lst []) a=some (.frz o (.dK [])):=by rw [upd_ne (Ne.symm hne),upd_same]
  have I2:=I'.thaw ha' h0 (I.ok.hd hc)
  have e:upd (upd (upd H1 a (.frz o (.dK []))) D (.lst [])) a (.dK [])=upd H1 D (.lst []):=by
   funext b
   by_cases h1:b=a
   ·subst h1
    rw [upd_same,upd_ne (Ne.symm hne),ha]
   ·rw [upd_ne h1]
    by_cases h2:b=D
    ·subst h2;rw [upd_same,upd_same]
    ·rw [upd_ne h2,upd_ne h2,upd_ne h1]
  rw [e] at I2
  exact ⟨_,_,I2,r,q⟩
end
end L2
namespace L2.Ev
open PySem PySem.Spec PyProof.Rows
section
variable {X:Cx}{a b e:Expr}{fa fb fv:EF}{fx:XF}{pos:Pos}
def eCompD0 (fa:EF):EF:=fun ρ=>match fa ρ with
 | some (.dic [],_)=>some (.lst [],.own)
 | _=>none
theorem fp_compD0 {tg iter elt:Expr}{ifs:List Expr}{sc:Scope}{M:List Str}{js:List (Option Nat)} (S:CompScope X M js sc) (hc:X.calm=true) (ha:FP X iter fa) (hs:∀ x,foldedSetIterable iter X.env x=pure x:=by intro _;rfl) :
  FP X (.ListComp elt [⟨tg,iter,ifs,0⟩] sc pos) (eCompD0 fa):=by
 refine ⟨_,pe_compD0 S hc ha.pe (fun σ H Q Q' m h=>?_) hs,fun H0 S z held ρ σ H Q d tg ok e k=>?_⟩
 ·obtain ⟨H0,S,z,held,ρ,d,tg,ok,e,k⟩:=h
  exact ⟨H0,S,z,held,ρ,d,tg,ok,e,fun H' v fp h1 h2 h3=>m _ _ (k H' v fp h1 h2 h3)⟩
 ·unfold eCompD0 at e
  split at e
  ·rename_i t h
   cases e
   refine ⟨H0,S,z,held,ρ,_,_,ok,h,fun H1 v fp s1 r1 _=>?_⟩
   obtain ⟨a,kvs,rfl,h1,h2⟩:=r1.dic_of
   have:kvs=[]:=by cases kvs with | nil=>rfl | cons _ _=>cases h2
   subst this
   refine ⟨a,rfl,h1,fun D hD=>?_⟩
   have s2:Same H1 (upd H1 D (.lst [])):=fun b o e=>by rw [upd_ne (ne_of_none e hD)];exact e
   refine k _ _ [D] (s1.trans s2) (.lst upd_same .nil) ⟨List.nodup_cons.mpr ⟨(fun m=>by cases m),List.nodup_nil⟩,fun a m=>?_⟩
   cases List.mem_singleton.mp m
   exact s1.free hD
  ·cases e
def oNotB:D→D→Option D
 | .bl a,.bl b=>some (.bl (!(a == b)))
 | _,_=>none
def sFldExt (i:Nat) (cn f:Str) (fv:EF):SF:=fun ρ=>match fv ρ,ρ[i]? with
 | some (.lst ls,_),some (some (.ins c es,.own))=>if c=cn then (match es.lookup f with
  | some (.lst ds)=>if (immAll ls&&immAll ds&&decide (ds.length + ls.length≤sizeLine))=true then some (.nx (mutS ρ i (.ins c (putFD f (.lst (ds++ls)) es)))) else none
  | _=>none) else none
 | _,_=>none
theorem fs_fldExt {x cn f:Str}{C:Addr}{p p1 p2 p3:Pos} (i:Nat) (hC:ClsAt X.K cn C) (na:NoAttr X.K C f) (hv:FP X a fv) (hN:X.N[i]? = some x:=by rfl) (hvis:Vis X.env.scope x:=by first | exact Or.inl rfl | exact Or.inr (Or.inl rfl) | exact Or.inr (Or.inr rfl))
  (hd:(x == ("__debug__":Str))=false:=by decide) (hcd:(x == ("__classdict__":Str))=false:=by decide) (hs:starEach [a] X.env=[(false,eval a X.env)]:=by rfl)
  (hb:attributeBase (.Name x p) f X.env (eval (.Name x p) X.env)=eval (.Name x p) X.env:=by rfl)
  (hbase:attributeBase (.Attribute (.Name x p) f p1) "extend" X.env (eval (.Attribute (.Name x p) f p1) X.env)=eval (.Attribute (.Name x p) f p1) X.env:=by rfl)
  (hfew:((backTo p3 (starEach [a] X.env)).all (fun x=>!x.1)&&(backToKw p3 (keywordEach [] X.env)).all (fun x=>x.1.isSome)&&decide ([a].length + ([]:List Keyword).length + (if ([]:List Keyword).isEmpty then 0 else 1) < 30))=true:=by rfl)
  (hline:(p2.endLine == p3.line)=true:=by rfl) (hsw:swapsWith (.Call (.Attribute (.Attribute (.Name x p) f p1) "extend" p2) [a] [] p3) none pos.line X.env=pure false:=by rfl) :
  FS1 X (.Expr (.Call (.Attribute (.Attribute (.Name x p) f p1) "extend" p2) [a] [] p3) pos) (sFldExt i cn f fv):=by
 obtain ⟨tv,pv',sv⟩:=hv
 refine ⟨_,ps_expr (pe_bm PySem.F.plainAttrs_list PySem.F.slot_list_extend PySem.F.type_list_extend mt_extend (pe_fld (pe_var (i:=i) hN hvis hd hcd) hb) (pa_cons pv' pa_nil hs) hbase hfew hline hs rfl) hsw,fun H0 S z held ρ σ H E o ok e q=>?_⟩
 unfold sFldExt at e
 split at e
 ·rename_i ls td c es g1 g2
  by_cases hc:c=cn
  ·subst hc
   rw [if_pos rfl] at e
   split at e
   ·rename_i ds hl
    by_cases hc:(immAll ls&&immAll ds&&decide (ds.length + ls.length≤sizeLine))=true
    ·rw [if_pos hc] at e
     cases e
     obtain ⟨c1,c3⟩:=(Bool.and_eq_true _ _).mp hc
     obtain ⟨c1,c2⟩:=(Bool.and_eq_true _ _).mp c1
     obtain ⟨xv,fp,hs',r,zz⟩:=ok.sl i _ _ g2
     refine ⟨xv,hs',?_⟩
     obtain ⟨b0,dx,fs,u,gf,rfl,h1,h2,h3,h4,h5,h6⟩:=r.place hC.ns zz.1 hl
     refine ⟨b0,C,dx,fs,u,rfl,h1,hC.cl,na,h2,?_⟩
     obtain ⟨l,xs,f0,rfl,hq,_,_⟩:=h3.lst_of
     refine ⟨.inl ⟨rfl,_,hq⟩,?_⟩
     refine sv H0 S z held ρ σ H _ _ td ok g1 fun H1 v fd s1 rv gv=>?_
     generalize hw:(V.ref l)=w at h3 h6
     cases h3 with
     | @lst a' ys _ f' h rs=>
      cases hw
      have hn:=rs.imm c2
      subst hn
      cases rv with
      | @lst b' zs _ f2 h' rz=>
       have hn:=rz.imm c1
       subst hn
       have hl1:=s1 _ _ h
       refine ⟨_,b',ys,zs,rfl,rfl,hl1,h',by rw [← rs.length,← rz.length];exact of_decide_eq_true c3,?_⟩
       have im:Imm H1 (upd H1 l (.lst (ys++zs))):=Imm.upd hl1 rfl
       obtain ⟨fp1,k1,k2,k3⟩:=h6 (upd H1 l (.lst (ys++zs))) (.lst (ds++ls)) [l] ((Imm.of s1).trans im) (fun c o n e=>by rw [upd_ne fun q=>n (by rw [q];exact List.mem_cons_self)];exact s1 c o e)
        (.lst upd_same (Reps.append (f:=[]) (g:=[]) ((rs.same s1).frame (fun a m=>nomatch m) im) (rz.frame (fun a m=>nomatch m) im))) h4 (fun c m=>.inl m)
       obtain ⟨z',ok'⟩:=ok.put g2 hs' zz ((Imm.of s1).trans im) (fun c o n e=>by rw [upd_ne fun q=>n (by rw [q];exact h5 l List.mem_cons_self)];exact s1 c o e) k1 k2 k3
       exact q z' σ _ ok' (.refl _ _)
    ·rw [if_neg hc] at e;cases e
   ·cases e
  ·rw [if_neg hc] at e;cases e
 ·cases e
def xAndZ (fa:EF) (fx:XF):XF:=fun ρ=>match fa ρ with
 | some (.bl true,_)=>fx ρ
 | some (.bl false,_)=>some (.bl false,ρ)
 | _=>none
theorem fz_and (ha:FP X a fa) (hb:FZ X b fx):FZ X (.BoolOp .And [a,b] pos) (xAndZ fa fx):=by
 obtain ⟨t,p,q⟩:=ha
 obtain ⟨t',p',q'⟩:=hb
 refine ⟨_,pe_and p (pe_one p'),fun H0 S z held ρ σ H Q d ρ' ok e k=>?_⟩
 unfold xAndZ at e
 split at e
 ·rename_i tt h
  refine q H0 S z held ρ σ H _ _ tt ok h fun H1 v fp s1 r1 _=>?_
  cases r1
  refine ⟨true,rfl,?_⟩
  rw [if_pos rfl]
  exact q' H0 S z held ρ σ H1 _ d ρ' (ok.same s1) e k
 ·rename_i tt h
  cases e
  refine q H0 S z held ρ σ H _ _ tt ok h fun H1 v fp s1 r1 _=>?_
  cases r1
  refine ⟨false,rfl,?_⟩
  rw [if_neg Bool.false_ne_true]
  exact k z H1 _ (ok.same s1) (.bl _)
 ·cases e
def xEqZ (fx:XF) (fb:EF):XF:=fun ρ=>match fx ρ with
 | some (d1,ρ')=>match fb ρ' with
  | some (d2,_)=>(oEq d1 d2).map fun d=>(d,ρ')
  | none=>none
 | none=>none
theorem fz_eq (ha:FZ X a fx) (hb:FP X b fb):FZ X (.Compare a [.Eq] [b] pos) (xEqZ fx fb):=by
 obtain ⟨ta,pa,sa⟩:=ha
 obtain ⟨tb,pb,sb⟩:=hb
 refine ⟨_,pe_cmpR op_eq pa pb (nomark _),fun H0 S z held ρ σ H Q d ρ' ok e k=>?_⟩
 unfold xEqZ at e
 cases h1:fx ρ with
 | none=>rw [h1] at e;cases e
 | some w=>
  obtain ⟨d1,ρ1⟩:=w
  rw [h1] at e
  dsimp only at e
  cases h2:fb ρ1 with
  | none=>rw [h2] at e;cases e
  | some w2=>
   obtain ⟨d2,t2⟩:=w2
   rw [h2] at e
   dsimp only at e
   cases h3:oEq d1 d2 with
   | none=>rw [h3] at e;cases e
   | some d3=>
    rw [h3] at e
    cases e
    refine sa H0 S z held ρ σ H _ d1 _ ok h1 fun z1 H1 x ok1 r1=>?_
    refine sb H0 S z1 held _ σ H1 _ d2 t2 ok1 h2 fun H2 y f2 s2 r2 _=>?_
    exact does_eq H2 x y d1 d2 [] f2 _ _ (r1.same s2) r2 h3 fun H3 v s3 r3=>k z1 H3 v ((ok1.same s2).same s3) r3
def sRetX (f:XF):SF:=fun ρ=>match f ρ with
 | some (d,_)=>some (.rt d)
 | none=>none
theorem fs_retX {f:XF} (he:FZ X e f):FS1 X (.Return (some e) pos) (sRetX f):=by
 obtain ⟨t,p,q⟩:=he
 refine ⟨_,ps_ret p,fun H0 S z held ρ σ H E o ok e k=>?_⟩
 unfold sRetX at e
 cases h:f ρ with
 | none=>rw [h] at e;cases e
 | some w=>
  obtain ⟨d,ρ1⟩:=w
  rw [h] at e
  cases e
  exact q H0 S z held ρ σ H _ d ρ1 ok h fun z' H1 v ok1 r1=>k H1 v [] (fun a o e n=>ok1.en a o e n) r1 List.nodup_nil fun a m=>nomatch m
def KitTs (K:PySem.W.Frag) (T:List (Str×Bool)) (cs:List Addr):Prop:=∀ cn b C,T.lookup cn=some b→PySem.W.nsIn K mainGlobals cn=some (some (.ref C))→ExcKit K C∧PySem.W.kitAny K (.ref C) (cs.map Value.ref)=some b
theorem vals_refs:∀ {cs:List Addr}{us:List Value},Vals (cs.map V.ref) us→us=cs.map Value.ref
 | [],_,.nil=>rfl
 | c::cs,_,.cons r t=>by rw [vals_refs t];cases r;rfl
theorem call_isiET {cs:List Addr}:CallR X (.builtin "isinstance") (fun xs H Q=>∃ a C l b de ob,xs=[V.ref a,V.ref l]∧H l=some (.tup (cs.map V.ref))∧H a=some (ExcF ob a (.ref C) de)∧ExcKit X.K C∧PySem.W.kitAny X.K (.ref C) (cs.map Value.ref)=some b∧Q (.bl b) H):=by
 intro pins s σ H xs us Q I r h
 obtain ⟨a,C,l,bb,de,ob,rfl,hl,ha,k,e,q⟩:=h
 obtain ⟨u,w',rfl,ru,rw'⟩:=vals2 r
 cases (show u=Value.ref a from ru)
 cases (show w'=Value.ref l from rw')
 obtain ⟨_,its,rv,o,ho,hc,hd,n,hdat⟩:=(show (cs.map V.ref).length≤sizeLine∧∃ its:List Value,Vals (cs.map V.ref) its∧PlainT s.heap l its.toArray from I.hok l _ hl)
 have:=vals_refs rv
 subst this
 obtain ⟨cl,dd,dat,sl⟩:=o
 cases hc
 cases hdat
 exact PySem.W.kia_tup (kitx_exc k) I.kIn (excF_get I.hok ha) ho e (fun z=>nomatch z) fun tk=>⟨.bl bb,H,I.tok tk,rfl,q⟩
theorem fp_isET {T:List (Str×Bool)}{cs:List Addr}{es:List Expr}{ta:TA}{p p2:Pos} {x1} (hT:KitTs X.K T cs) (hm:X.mg "isinstance"=none) (ha:FP X a fa) (pc:PA X es ta) (hta:∀ (σ:St) (H:Hp) (Q:List V→Hp→Prop),Q (cs.map V.ref) H→ta σ H Q) (hlen:cs.length≤1000) (hg:Gl X "isinstance":=by rfl)
  (hs:starEach [a,.Tuple es x1 p2] X.env=[(false,eval a X.env),(false,eval (.Tuple es x1 p2) X.env)]:=by rfl) (hpl:(backTo pos (starEach [.Tuple es x1 p2] X.env)).any (·.1)=false:=by rfl):FP X (.Call (.Name "isinstance" p) [a,.Tuple es x1 p2] [] pos) (e1 (oIsE T) fa):=by
 obtain ⟨t,pa,sa⟩:=ha
 have hs2:starEach [.Tuple es x1 p2] X.env=[(false,eval (.Tuple es x1 p2) X.env)]:=rfl
 refine ⟨_,pe_callB (call_isiET (cs:=cs)) hg hm (show bootBuiltins "isinstance"=some (.builtin "isinstance") by decide +kernel) (pa_cons pa (pa_cons (pe_tup pc) pa_nil) (by rw [hs,hs2])) (he:=by rw [hs,hs2]) (hpl:=hpl),fun H0 S z held ρ σ H Q d tg ok e k=>?_⟩
 obtain ⟨d1,t1,h1,h2,rfl⟩:=e1_of e
 refine sa H0 S z held ρ σ H _ d1 t1 ok h1 fun H1 v fp s1 r1 _=>?_
 refine hta σ H1 _ ⟨by rw [List.length_map];exact Nat.le_of_lt (small1000 hlen),fun l hl=>?_⟩
 have s2:Same H1 (upd H1 l (.tup (cs.map V.ref))):=fun b o e=>by rw [upd_ne (ne_of_none e hl)];exact e
 unfold oIsE at h2
 split at h2
 ·rename_i cn
  cases hlk:T.lookup cn.1 with
  | none=>rw [hlk] at h2;cases h2
  | some b=>
   rw [hlk] at h2
   cases h2
   cases r1 with
   | @exc _ a' C de ob hn ho _=>
    obtain ⟨kk,ke⟩:=hT cn.1 b C hlk hn
    exact ⟨a',C,l,b,de,ob,rfl,upd_same,s2 _ _ ho,kk,ke,k _ _ [] (s1.trans s2) (.bl _) .nil⟩
 ·cases h2
end
theorem Ok.forget {K:PySem.W.Frag}{H0:Hp}{S:List Addr}{z:Addr→Option Nat}{held:List Held}{ρ ρ':Rho}{σ:St}{H:Hp} (ok:Ok K H0 S z held ρ σ H) (hl:ρ'.length=ρ.length) (h:∀ (k:Nat) (w:D×Tag),ρ'[k]? = some (some w)→ρ[k]? = some (some w)):Ok K H0 S z held ρ' σ H:=
 ⟨fun i d t e=>ok.sl i d t (h i _ e),fun p m=>let ⟨r,q⟩:=ok.hl p m;⟨r,fun a ma j e=>let ⟨q1,q2⟩:=q a ma j e;⟨q1,fun d e=>q2 d (h j _ e)⟩⟩,ok.zd,ok.en,hl.trans ok.ln⟩
theorem dropT_idem (i:Nat) (s:Slot):dropT i (dropT i s)=dropT i s:=by
 cases s with
 | none=>rfl
 | some p=>
  obtain ⟨d,t⟩:=p
  cases t with
  | sh o=>
   show dropT i (if o.contains i=true then none else some (d,Tag.sh o))=(if o.contains i=true then none else some (d,Tag.sh o))
   by_cases hc:o.contains i=true
   ·rw [if_pos hc];rfl
   ·rw [if_neg hc]
    show (if o.contains i=true then none else some (d,Tag.sh o))=_
    rw [if_neg hc]
  | own=>rfl
  | lk=>rfl
theorem mutS_mutS {ρ:Rho}{i:Nat}{d d':D}:mutS (mutS ρ i d) i d'=mutS ρ i d':=by
 unfold mutS
 rw [List.map_set,List.map_map,show dropT i (some (d,.own))=some (d,.own) from rfl,List.set_set]
 congr 1
 exact List.map_congr_left fun s _=>dropT_idem i s
theorem mutS_set {ρ:Rho}{i j:Nat}{d:D}{s:Slot} (h:i≠j):(mutS (ρ.set j s) i d).set j none=(mutS ρ i d).set j none:=by
 unfold mutS
 rw [List.map_set,List.set_comm _ _ (Ne.symm h),List.set_set]
def isLi:D→Bool
 | .lst es=>immAll es&&decide (es.length < sizeLine)
 | _=>false
def appD (d:D):D→D
 | .lst es=>.lst (es++[d])
 | x=>x
def sAppEach (i j:Nat) (d:D):SF:=fun ρ=>match ρ[i]? with
 | some (some (.lst ds,.own))=>if (imm d&&ds.all isLi&&decide (j < ρ.length))=true then some (.nx ((mutS ρ i (.lst (ds.map (appD d)))).set j none)) else none
 | _=>none
theorem mix_set {α:Type}{f:α→α}{ds:List α}{k:Nat} (h:k < ds.length):((ds.take k).map f++ds.drop k).set k (f ds[k])=(ds.take (k + 1)).map f++ds.drop (k + 1):=by
 have e:((ds.take k).map f).length=k:=by rw [List.length_map,List.length_take];omega
 rw [List.set_append_right _ _ (by omega),e,Nat.sub_self,List.drop_eq_getElem_cons h,List.set_cons_zero,List.take_succ_eq_append_getElem h,List.map_append,List.append_assoc];rfl
theorem fs_appEach {X:Cx}{x y:Str}{p p0 p1 p2 p3 pos pos2:Pos}{a:Expr}{dv:D}{tv:Tag}{fv:EF} (i j:Nat) (hij:i≠j) (hND:X.N.Nodup) (hc:X.calm=true) (hv:FP X a fv) (hfv:∀ ρ,fv ρ=some (dv,tv)) (hN:X.N[i]? = some x:=by rfl)
  (hvis:Vis X.env.scope x:=by first | exact Or.inl rfl | exact Or.inr (Or.inl rfl) | exact Or.inr (Or.inr rfl)) (hd:(x == ("__debug__":Str))=false:=by decide) (hcd:(x == ("__classdict__":Str))=false:=by decide)
  (hN2:X.N[j]? = some y:=by rfl) (hvis2:Vis X.env.scope y:=by first | exact Or.inl rfl | exact Or.inr (Or.inl rfl) | exact Or.inr (Or.inr rfl)) (hd2:(y == ("__debug__":Str))=false:=by decide) (hcd2:(y == ("__classdict__":Str))=false:=by decide)
  (hx:Loc X.env.scope y:=by first | exact Or.inl rfl | exact Or.inr rfl) (hf:X.fn y=true∨X.env.scope.names.lookup y=some .local:=by first | exact .inl rfl | exact .inr rfl) (hself:kpt X y=false:=by rfl)
  (hs:starEach [a] X.env=[(false,eval a X.env)]:=by rfl)
  (hbase:attributeBase (.Name y p1) "append" X.env (eval (.Name y p1) X.env)=eval (.Name y p1) X.env:=by rfl)
  (hfew:((backTo p3 (starEach [a] X.env)).all (fun x=>!x.1)&&(backToKw p3 (keywordEach [] X.env)).all (fun x=>x.1.isSome)&&decide ([a].length + ([]:List Keyword).length + (if ([]:List Keyword).isEmpty then 0 else 1) < 30))=true:=by rfl)
  (hline:(p2.endLine == p3.line)=true:=by rfl) (hsw:swapsWith (.Call (.Attribute (.Name y p1) "append" p2) [a] [] p3) none pos2.line X.env=pure false:=by rfl)
  (hp:PassesOwn (model X.prog X.w) X.A X.env X.xe:=by exact PassesOwn.never) (hfs:∀ z,foldedSetIterable (.Name x p) X.env z=pure z:=by intro _;rfl) :
  FS1 X (.For (.Name y p0) (.Name x p) [.Expr (.Call (.Attribute (.Name y p1) "append" p2) [a] [] p3) pos2] [] pos) (sAppEach i j dv):=by
 obtain ⟨tv',pv',sv⟩:=hv
 refine ⟨_,ps_for hp hc (pi_list (pe_var (i:=i) hN hvis hd hcd)) (pg_name (i:=j) hND hN2 hx hf) (pss_one (ps_expr (pe_bm PySem.F.plainAttrs_list PySem.F.slot_list_append PySem.F.type_list_append mt_append (pe_var (i:=j) hN2 hvis2 hd2 hcd2) (pa_cons pv' pa_nil hs) hbase hfew hline hs rfl) hsw)) hfs,fun H0 S z held ρ σ H E o ok e q=>?_⟩
 unfold sAppEach at e
 split at e
 ·rename_i ds h1
  by_cases hcc:(imm dv&&ds.all isLi&&decide (j < ρ.length))=true
  ·rw [if_pos hcc] at e
   cases e
   obtain ⟨c1,c3⟩:=(Bool.and_eq_true _ _).mp hcc
   obtain ⟨c1,c2⟩:=(Bool.and_eq_true _ _).mp c1
   have c3:=of_decide_eq_true c3
   obtain ⟨v,fp,hs',r,zz⟩:=ok.sl i _ _ h1
   obtain ⟨l,xs,f0,rfl,hq,rs0,_⟩:=r.lst_of
   refine ⟨.ref l,hs',l,rfl,⟨xs,hq⟩,?_⟩
   refine ⟨fun k m σ' H'=>m=ds.length - k∧k≤ds.length∧∃ z' ρ',Ok X.K H0 S z' held ρ' σ' H'∧ρ'[i]? = some (some (.lst ((ds.take k).map (appD dv)++ds.drop k),.own))∧σ'[i]? = some (some (.ref l))∧ρ'.length=ρ.length∧(∀ D,(mutS ρ' i D).set j none=(mutS ρ i D).set j none)∧Kp X σ σ',
    ⟨ds.length,rfl,Nat.zero_le _,z,ρ,ok,by simpa using h1,hs',rfl,fun _=>rfl,.refl _ _⟩,?_⟩
   rintro k m σ' H' ⟨rfl,hk,z',ρ',ok',hi,hsl,hlen',hm,kp⟩
   obtain ⟨v',fp',hs2,r',zz'⟩:=ok'.sl i _ _ hi
   rw [hsl] at hs2
   cases hs2
   have hiρ:i < ρ'.length:=(List.getElem?_eq_some_iff.mp hi).1
   by_cases hl:ds.length≤k
   ·have hkk:k=ds.length:=by omega
    subst hkk
    refine .inl ⟨?_,?_⟩
    ·obtain ⟨l2,xs2,f2,e2,hq2,rs2,_⟩:=r'.lst_of
     cases e2
     exact ⟨xs2,hq2,by rw [← rs2.length];simp⟩
    ·refine q z' σ' H' (ok'.forget (by simp [mutS,hlen']) fun n w hw=>?_) kp
     rw [← hm] at hw
     by_cases hnj:n=j
     ·subst hnj
      rw [List.getElem?_set_self (by unfold mutS;simp;omega)] at hw
      cases hw
     ·rw [List.getElem?_set_ne (Ne.symm hnj)] at hw
      unfold mutS at hw
      by_cases hni:n=i
      ·subst hni
       rw [List.getElem?_set_self (by simp;omega)] at hw
       rw [hi,← hw]
       simp
      ·rw [List.getElem?_set_ne (Ne.symm hni),List.getElem?_map] at hw
       cases hr:ρ'[n]? with
       | none=>rw [hr] at hw;cases hw
       | some s=>
        rw [hr] at hw
        have hw:=Option.some.inj hw
        cases s with
        | none=>cases hw
        | some pr=>
         obtain ⟨d0,t0⟩:=pr
         cases t0 with
         | sh o=>
          have hw:(if o.contains i=true then none else some (d0,Tag.sh o))=some w:=hw
          by_cases hcn:o.contains i=true
          ·rw [if_pos hcn] at hw;cases hw
          ·rw [if_neg hcn] at hw;rw [hw]
         | own=>cases hw;rfl
         | lk=>cases hw;rfl
   ·have hlt:k < ds.length:=by omega
    have hnth:((ds.take k).map (appD dv)++ds.drop k)[k]? = some ds[k]:=by
     rw [List.getElem?_append_right (by simp;omega),List.length_map,List.length_take,Nat.min_eq_left hk,Nat.sub_self,List.getElem?_drop]
     simp [hlt]
    have isl:=List.all_eq_true.mp c2 ds[k] (List.getElem_mem hlt)
    obtain ⟨es,hes,es1,es2⟩:∃ es,ds[k]=.lst es∧immAll es=true∧es.length < sizeLine:=by
     cases hd:ds[k] with
     | lst es=>
      rw [hd] at isl
      obtain ⟨i1,i2⟩:=(Bool.and_eq_true _ _).mp (show (immAll es&&decide (es.length < sizeLine))=true from isl)
      exact ⟨es,rfl,i1,of_decide_eq_true i2⟩
     | _=>rw [hd] at isl;cases isl
    obtain ⟨l1,xs1,u,gf,e1,hl1,hlen,hu,ru,ndu,subu,_⟩:=r'.nth zz'.1 hnth
    cases e1
    refine .inr ⟨⟨xs1,u,SqL.of hl1,hu⟩,fun σ2 H2=>k + 1≤ds.length∧∃ z' ρ',Ok X.K H0 S z' held ρ' σ2 H2∧ρ'[i]? = some (some (.lst ((ds.take (k + 1)).map (appD dv)++ds.drop (k + 1)),.own))∧σ2[i]? = some (some (.ref l))∧ρ'.length=ρ.length∧(∀ D,(mutS ρ' i D).set j none=(mutS ρ i D).set j none)∧Kp X σ σ2,
     fun σ2 H2 hn=>⟨ds.length - (k + 1),by omega,rfl,hn⟩,fun w H2 yl=>?_⟩
    obtain ⟨e2,hw⟩:=yl
    subst e2
    have hww:=hw xs1 (SqL.of hl1)
    rw [hu] at hww
    cases hww
    show _
    refine ok'.stored (i:=j) (t:=.sh [i]) (Same.refl _) ru (fun b mb jj qz=>?_) fun z2 ok2=>?_
    ·have:=zz'.2 b (subu b mb)
     rw [qz] at this
     cases this
     exact List.mem_cons_self
    ·have hρ2:setS ρ' j ds[k] (.sh [i])=ρ'.set j (some (ds[k],.sh [i])):=rfl
     rw [hρ2] at ok2
     have hi2:(ρ'.set j (some (ds[k],.sh [i])))[i]? = some (some (.lst ((ds.take k).map (appD dv)++ds.drop k),.own)):=by rw [List.getElem?_set_ne (Ne.symm hij)];exact hi
     have hsl2:(σ'.set j (some u))[i]? = some (some (.ref l)):=by rw [List.getElem?_set_ne (Ne.symm hij)];exact hsl
     have hj2:(σ'.set j (some u))[j]? = some (some u):=by rw [List.getElem?_set_self (by rw [← ok'.ln];omega)]
     obtain ⟨v2,fp2,hs3,r2,zz2⟩:=ok2.sl i _ _ hi2
     rw [hsl2] at hs3
     cases hs3
     obtain ⟨l3,xs3,u3,gf3,e3,hl3,hlen3,hu3,ru3,ndu3,subu3,c53⟩:=r2.nth zz2.1 hnth
     cases e3
     rw [hl1] at hl3
     cases hl3
     rw [hu] at hu3
     cases hu3
     rw [hes] at ru3
     obtain ⟨l4,ys4,f4,rfl,hq4,_,_⟩:=ru3.lst_of
     refine ⟨.ref l4,hj2,.inl ⟨rfl,_,hq4⟩,?_⟩
     refine sv H0 S z2 held _ _ _ _ dv tv ok2 (hfv _) fun H3 wv fd s3 rv gv=>?_
     have hn:=rv.imm c1
     subst hn
     generalize hgw:(V.ref l4)=w4 at ru3 c53
     cases ru3 with
     | @lst a' ys _ f' h rs=>
      cases hgw
      have hn:=rs.imm es1
      subst hn
      have hl5:=s3 _ _ h
      refine ⟨_,ys,wv,rfl,rfl,hl5,by rw [← rs.length];exact es2,?_⟩
      have im:Imm H3 (upd H3 l4 (.lst (ys++[wv]))):=Imm.upd hl5 rfl
      obtain ⟨fp1,k1,k2,k3⟩:=c53 (upd H3 l4 (.lst (ys++[wv]))) (.lst (es++[dv])) [l4] ((Imm.of s3).trans im) (fun c o n e=>by rw [upd_ne fun q=>n (by rw [q];exact List.mem_cons_self)];exact s3 c o e)
       (.lst upd_same (Reps.append (f:=[]) (g:=[]) ((rs.same s3).frame (fun a m=>nomatch m) im) (Reps.cons (f1:=[]) (f2:=[]) (rv.frame (fun a m=>nomatch m) im) .nil))) ndu3 (fun c m=>.inl m)
      obtain ⟨z4,ok4⟩:=ok2.put hi2 hsl2 zz2 ((Imm.of s3).trans im) (fun c o n e=>by rw [upd_ne fun q=>n (by rw [q];exact subu3 l4 List.mem_cons_self)];exact s3 c o e) k1 k2 k3
      have hset:((ds.take k).map (appD dv)++ds.drop k).set k (.lst (es++[dv]))=(ds.take (k + 1)).map (appD dv)++ds.drop (k + 1):=by
       rw [← mix_set hlt,hes];rfl
      rw [hset] at ok4
      refine ⟨hlt,z4,_,ok4,?_,hsl2,?_,fun D=>?_,kp.trans (.set hN2 hself)⟩
      ·unfold mutS
       rw [List.getElem?_set_self (by simp;omega)]
      ·unfold mutS
       simp [hlen']
      ·rw [mutS_mutS,mutS_set hij,hm]
  ·rw [if_neg hcc] at e;cases e
 ·cases e
section
variable {X:Cx}{pos:Pos}
def eLstI (g:AF):EF:=fun ρ=>(g ρ).bind fun ps=>if immAll (ps.map (·.1))=true then some (.lst (ps.map (·.1)),.own) else none
theorem fp_lstI {es:List Expr}{g:AF} (h:FA X es g) (hl:es.length≤1000:=by decide):FP X (.List es pos) (eLstI g):=by
 obtain ⟨t,p,hg,q⟩:=h
 refine ⟨_,pe_lst p,fun H0 S z held ρ σ H Q d tg ok e k=>?_⟩
 unfold eLstI at e
 cases h1:g ρ with
 | none=>rw [h1] at e;cases e
 | some ps=>
  rw [h1,Option.bind_some] at e
  by_cases hi:immAll (ps.map (·.1))=true
  ·rw [if_pos hi] at e
   cases e
   refine q H0 S z held ρ σ H _ ps ok h1 fun H1 vs fp s1 r1 g1=>⟨?_,fun a ha=>?_⟩
   ·rw [← r1.length,List.length_map,hg ρ ps h1]
    exact Nat.le_of_lt (small1000 hl)
   ·have hn:=r1.imm hi
    subst hn
    have s2:Same H1 (upd H1 a (.lst vs)):=fun b o e=>by rw [upd_ne (ne_of_none e ha)];exact e
    refine k _ _ [a] (s1.trans s2) (.lst upd_same (r1.same s2)) ⟨List.nodup_cons.mpr ⟨(fun m=>by cases m),List.nodup_nil⟩,fun b m=>?_⟩
    cases List.mem_singleton.mp m
    exact s1.free ha
  ·rw [if_neg hi] at e;cases e
def sRetQ (f:EF):SF:=fun ρ=>match f ρ,ρ[0]? with
 | some (r,Tag.own),some (some (d0,Tag.own))=>some (.rt (.tup [r,d0]))
 | _,_=>none
theorem fq_ret {e:Expr}{f:EF} (he:FP X e f):FQ1 X (.Return (some e) pos) (sRetQ f):=by
 obtain ⟨t,p,q⟩:=he
 refine ⟨_,ps_ret p,fun H0 S z held ρ σ H E o ok e k=>?_⟩
 unfold sRetQ at e
 split at e
 ·rename_i r d0 h1 h0
  cases e
  obtain ⟨r',d0',ee,k⟩:=k
  cases ee
  refine q H0 S z held ρ σ H _ _ _ ok h1 fun H1 v fp s1 r1 g1=>?_
  refine k z ρ σ H1 v fp (ok.same s1) h0 (.refl _ _) r1 g1.1 fun b m=>⟨?_,fun zb=>?_⟩
  ·cases hb:H0 b with
   | none=>exact .inl rfl
   | some o=>
    by_cases hS:b∈S
    ·exact .inr hS
    ·have:=ok.en b o hb hS
     rw [g1.2 b m] at this;cases this
  ·obtain ⟨⟨o,w⟩,_⟩:=ok.zd b 0 zb
   rw [g1.2 b m] at w;cases w
 ·cases e
def sLsetX (i:Nat) (fk:EF) (fx:XF):SF:=fun ρ=>match fx ρ with
 | some (d,ρ')=>match ρ'[i]?,fk ρ' with
  | some (some (.lst ds,.own)),some (.int k,_)=>(match ixN ds.length k with
   | some j=>if (imm d&&immAll ds)=true then some (.nx (mutS ρ' i (.lst (ds.set j d)))) else none
   | none=>none)
  | _,_=>none
 | none=>none
theorem fs_lsetX (i:Nat) {x:Str}{k v:Expr}{fk:EF}{fx:XF}{p1 pos':Pos} (hk:FP X k fk) (hv:FX X v fx) (hN:X.N[i]? = some x:=by rfl) (hvis:Vis X.env.scope x:=by first | exact Or.inl rfl | exact Or.inr (Or.inl rfl) | exact Or.inr (Or.inr rfl))
  (hd:(x == ("__debug__":Str))=false:=by decide) (hcd:(x == ("__classdict__":Str))=false:=by decide)
  (ha:∀ w,assign (.Subscript (.Name x p1) k pos') X.env w=(do
   let ov ← holding [w] (eval (.Name x p1) X.env)
   let iv ← holding [w,ov] (eval k X.env)
   standAt pos'
   holding [w,ov,iv] (setItem ov iv w)
   release [w,ov,iv] []):=by intro _;rfl)
  (hs:swapsWithSole [.Subscript (.Name x p1) k pos'] v pos.line X.env=pure false:=by rfl) (hw:swappedStores [.Subscript (.Name x p1) k pos'] v X.env=pure none:=by rfl) (h1:(assignEach [.Subscript (.Name x p1) k pos'] X.env).map (·.2)=[assign (.Subscript (.Name x p1) k pos') X.env]:=by rfl) :
  FS1 X (.Assign [.Subscript (.Name x p1) k pos'] v pos) (sLsetX i fk fx):=by
 obtain ⟨tk,pk,sk⟩:=hk
 obtain ⟨tv,pv',sv⟩:=hv
 refine ⟨_,ps_asg pv' (pg_sub (pe_var (i:=i) hN hvis hd hcd) pk set_list ha) hs hw h1,fun H0 S z held ρ σ H E o ok e q=>?_⟩
 unfold sLsetX at e
 cases g1:fx ρ with
 | none=>rw [g1] at e;cases e
 | some w=>
  obtain ⟨d,ρ'⟩:=w
  rw [g1] at e
  dsimp only at e
  split at e
  ·rename_i ds kk tkk g2 g3
   cases hj:ixN ds.length kk with
   | none=>rw [hj] at e;cases e
   | some j=>
    rw [hj] at e
    dsimp only at e
    by_cases hc:(imm d&&immAll ds)=true
    ·rw [if_pos hc] at e
     cases e
     obtain ⟨c1,c2⟩:=(Bool.and_eq_true _ _).mp hc
     refine sv H0 S z held ρ σ H _ d ρ' ok g1 fun H1 v ok1 _ rv=>?_
     obtain ⟨xv,fp,hs',r,zz⟩:=ok1.sl i _ _ g2
     refine ⟨xv,hs',?_⟩
     refine sk H0 S z held ρ' σ H1 _ _ tkk ok1 g3 fun H2 y fk' s2 rk _=>?_
     cases rk
     have r':=r.same s2
     have ok2:=ok1.same s2
     cases r' with
     | @lst a xs _ f h rs=>
      have hn:=rs.imm c2
      subst hn
      refine ⟨a,xs,kk,j,rfl,rfl,h,by rw [← rs.length];exact hj,?_⟩
      have im:Imm H2 (upd H2 a (.lst (xs.set j v))):=Imm.upd h rfl
      refine q z σ _ (Ok.mutate ok2 g2 hs' zz List.mem_cons_self h rfl (.lst upd_same ?_)) (.refl _ _)
      exact Reps.setN ((rv.same s2).frame (fun a m=>nomatch m) im) (rs.frame (fun a m=>nomatch m) im)
    ·rw [if_neg hc] at e;cases e
  ·cases e
end
end L2.Ev
namespace L2.Ev
open PySem PySem.W
section
variable {P:Program}{w:World}{K:Frag}{h base:Heap}{mg:Str→Option Value}{CX:CXT}{k:Nat}{x:Str}{st:Stmt}{ps:List Str}{sp:Sp}{cm:Bool}
theorem fnWr (X:K.In h) (G:h.Ns mainGlobals mg) (l:GFn K x st) (ok:∀ {f:Addr}{fd:FuncData},mg x=some (.ref f)→keepIn K (.ref f)=true→Binds K fd ps []→Fun K x x st f fd→FnOk P w K mg base CX k f fd ps sp cm) (b:BA x x st ps):FN P w K mg base CX k x ps sp cm:=by
 obtain ⟨f,a,l⟩:=l
 obtain ⟨kp,fd,F⟩:=gl_fun l
 exact ⟨f,fd,ok (mg_of X G a) kp (F.binds b) F,mg_of X G a,kp,F.binds b⟩
end
theorem kitTs_nil {K:Frag}{cs:List Addr}:KitTs K [] cs:=fun _ _ _ h _=>by cases h
theorem kitTs_cons {K:Frag}{cn:Str}{C:Addr}{cs:List Addr}{b:Bool}{T:List (Str×Bool)} (n:nsIn K mainGlobals cn=some (some (.ref C))) (k:ExcKit K C) (e:kitAny K (.ref C) (cs.map Value.ref)=some b) (r:KitTs K T cs):KitTs K ((cn,b)::T) cs:=fun cn' b' C' h hn=>by
 rw [List.lookup_cons] at h
 by_cases q:cn' == cn
 ·rw [q] at h
  cases h
  have e':=beq_iff_eq.mp q
  subst e'
  rw [n] at hn
  cases hn
  exact ⟨k,e⟩
 ·rw [Bool.eq_false_iff.mpr q] at h
  exact r cn' b' C' h hn
theorem kitAny_nil {K:Frag}{t:Value}:kitAny K t (([]:List Addr).map Value.ref)=some false:=rfl
theorem kitAny_f {K:Frag}{t:Value}{c:Addr}{cs:List Addr}{b:Bool} (h:kitOne K t (.ref c)=some false) (r:kitAny K t (cs.map Value.ref)=some b):kitAny K t ((c::cs).map Value.ref)=some b:=by
 rw [List.map_cons];unfold kitAny;rw [h];exact r
end L2.Ev
namespace K41
open PySem L2 L2.Ev
def top (i:Nat):Stmt:=PySem.Challenge.pw_linegate_k41_a_new_gate.main.body.getD i (.Pass ⟨0,0,0,0⟩)
variable {P:Program}{w:World}{K:PySem.W.Frag}{mg:Str→Option Value}{base:Heap}{f:Addr}{fd:FuncData}
abbrev s_within:Stmt:=top 13
theorem sc_within:FnScope ["value","least","most"] ["value","least","most"] (defScope s_within):=⟨rfl,rfl,rfl,by decide +kernel,rfl,by decide +kernel,by decide +kernel⟩
def B_within:SF:=(sRet (eAnd (e1 (oIsi "int") (eVar 0)) (eAnd (e1 oNot (e1 (oIsi "bool") (eVar 0))) (eChain oLe oLe (eVar 1) (eVar 0) (eVar 2)))))
def F_within:List D→Option D:=runF 3 3 B_within
theorem ok_within (g_bool:mg "bool"=none) (g_int:mg "int"=none) (g_isinstance:mg "isinstance"=none) (F:Fun K "within" "within" s_within f fd):FnOk P w K mg base CX0 1 f fd ["value","least","most"] (spF K F_within):=by
 have sc:=sc_within
 refine fn_F F sc_within fun cdv A outer s H E hr=>?_
 have hu:=hu_of hr
 exact (fs_one (fs_ret (fp_and (fp_isi isi_int g_isinstance g_int (fp_var 0)) (fp_and (fp_not (fp_isi isi_bool g_isinstance g_bool (fp_var 0))) (fp_one (fp_le2 (fp_var 1) (fp_var 0) (fp_var 2)))))))
abbrev s_rising:Stmt:=top 14
theorem sc_rising:FnScope ["numbers"] ["numbers"] (defScope s_rising):=⟨rfl,rfl,rfl,by decide +kernel,rfl,by decide +kernel,by decide +kernel⟩
def B_rising:SF:=(sRet (e1 oAll (eComp [none,none] (iZipF (eVar 0) (e1 (oCut (some 1) none) (eVar 0))) (gT (gsCons (gN 0) (gsCons (gN 1) gsNil))) tTrue (e2 oLt (eVar 0) (eVar 1)))))
def F_rising:List D→Option D:=runF 1 1 B_rising
theorem ok_rising (g_all:mg "all"=none) (g_zip:mg "zip"=none) (F:Fun K "rising" "rising" s_rising f fd):FnOk P w K mg base CX0 1 f fd ["numbers"] (spF K F_rising):=by
 have sc:=sc_rising
 refine fn_F F sc_rising fun cdv A outer s H E hr=>?_
 have hu:=hu_of hr
 exact (fs_one (fs_ret (fp_all rfl g_all (fp_comp (M:=["low","high"]) (js:=[none,none]) (is:=[0,1]) (compScope_mk (N:=["numbers"]) (osc:=defScope s_rising) rfl rfl rfl (by decide +kernel)) rfl (fi_zip g_zip (fp_var 0) (fp_cut pc_int pc_none (fp_var 0))) (by decide) fun s3 H3 fp=>⟨(fg_tup rfl (fgs_cons (fg_name 0 (show (["low","high"]:List Str).Nodup by decide +kernel)) (fgs_cons (fg_name 1 (show (["low","high"]:List Str).Nodup by decide +kernel)) fgs_nil))),fts_nil,(fp_lt (fp_var 0) (fp_var 1))⟩))))
abbrev s_misfit:Stmt:=top 21
theorem sc_misfit:FnScope ["values","edits"] ["values","edits"] (defScope s_misfit):=⟨rfl,rfl,rfl,by decide +kernel,rfl,by decide +kernel,by decide +kernel⟩
def B_misfit:SF:=(sRet (e2 oMinD (eComp [none,none,none,some 0] (iSeqF (eVar 1)) (gT (gsCons (gN 0) (gsCons (gN 1) (gsCons (gN 2) gsNil)))) (tV (e2 oNe (e3 oGetD (eVar 3) (eVar 0) (eC (.int 0))) (eVar 1))) (eVar 0)) (eC .non)))
def F_misfit:List D→Option D:=runF 2 2 B_misfit
theorem ok_misfit (g_min:mg "min"=none) (F:Fun K "misfit" "misfit" s_misfit f fd):FnOk P w K mg base CX0 1 f fd ["values","edits"] (spF K F_misfit):=by
 have sc:=sc_misfit
 refine fn_F F sc_misfit fun cdv A outer s H E hr=>?_
 have hu:=hu_of hr
 exact (fs_one (fs_ret (fp_minD rfl g_min (fp_comp (M:=["slot","old","new","values"]) (js:=[none,none,none,some 0]) (is:=[0,1,2]) (compScope_mk (N:=["values","edits"]) (osc:=defScope s_misfit) rfl rfl rfl (by decide +kernel)) rfl (fi_seq (fp_var 1)) (by decide) fun s3 H3 fp=>⟨(fg_tup rfl (fgs_cons (fg_name 0 (show (["slot","old","new","values"]:List Str).Nodup by decide +kernel)) (fgs_cons (fg_name 1 (show (["slot","old","new","values"]:List Str).Nodup by decide +kernel)) (fgs_cons (fg_name 2 (show (["slot","old","new","values"]:List Str).Nodup by decide +kernel)) fgs_nil)))),(fts_one (ft_ne (fp_dget2 hu (fp_var 3) (fp_var 0) fp_int) (fp_var 1))),(fp_var 0)⟩) fp_non)))
abbrev s_sheet_of_values:Stmt:=top 22
theorem sc_sheet_of_values:FnScope ["values"] ["values"] (defScope s_sheet_of_values):=⟨rfl,rfl,rfl,by decide +kernel,rfl,by decide +kernel,by decide +kernel⟩
def B_sheet_of_values:SF:=(sRet (eComp [none,some 0] (iSeqF (e1 oSorted (eVar 0))) (gN 0) (tV (e2 oNe (e2 oGet (eVar 1) (eVar 0)) (eC (.int 0)))) (eTup (aCons (eVar 0) (aCons (e2 oGet (eVar 1) (eVar 0)) aNil)))))
def F_sheet_of_values:List D→Option D:=runF 1 1 B_sheet_of_values
theorem ok_sheet_of_values (g_sorted:mg "sorted"=none) (F:Fun K "sheet_of_values" "sheet_of_values" s_sheet_of_values f fd):FnOk P w K mg base CX0 1 f fd ["values"] (spF K F_sheet_of_values):=by
 have sc:=sc_sheet_of_values
 refine fn_F F sc_sheet_of_values fun cdv A outer s H E hr=>?_
 have hu:=hu_of hr
 exact (fs_one (fs_ret (fp_comp (M:=["slot","values"]) (js:=[none,some 0]) (is:=[0]) (compScope_mk (N:=["values"]) (osc:=defScope s_sheet_of_values) rfl rfl rfl (by decide +kernel)) rfl (fi_seq (fp_sorted rfl g_sorted (fp_var 0))) (by decide) fun s3 H3 fp=>⟨(fg_name 0 (show (["slot","values"]:List Str).Nodup by decide +kernel)),(fts_one (ft_ne (fp_dget hu (fp_var 1) (fp_var 0)) fp_int)),(fp_tup (fa_cons (fp_var 0) (fa_cons (fp_dget hu (fp_var 1) (fp_var 0)) fa_nil)))⟩)))
abbrev s_edited_in_turn:Stmt:=top 19
theorem sc_edited_in_turn:FnScope ["sheet","edits_in_turn","values","edits","least","slot","old","new"] ["sheet","edits_in_turn"] (defScope s_edited_in_turn):=⟨rfl,rfl,rfl,by decide +kernel,rfl,by decide +kernel,by decide +kernel⟩
def B_edited_in_turn:SF:=(sSeq (sSet 2 (e1 oDict (eVar 0))) (sSeq (sFor (iSeqF (eVar 1)) (gN 3) (sSeq (sSet 4 (eCall F_misfit (aCons (eVar 2) (aCons (eVar 3) aNil)))) (sSeq (sIf (tV (e2 oNotN (eVar 4) (eC .non))) sNo sNx) (sFor (iSeqF (eVar 3)) (gT (gsCons (gN 5) (gsCons (gN 6) (gsCons (gN 7) gsNil)))) (sDput 2 (eVar 5) (eVar 7)))))) (sRet (eCall F_sheet_of_values (aCons (eVar 2) aNil)))))
def F_edited_in_turn:List D→Option D:=runF 2 8 B_edited_in_turn
theorem ok_edited_in_turn (g_dict:mg "dict"=none) (W_misfit:FN P w K mg base CX0 1 "misfit" ["values","edits"] (spF K F_misfit)) (W_sheet_of_values:FN P w K mg base CX0 1 "sheet_of_values" ["values"] (spF K F_sheet_of_values)) (F:Fun K "edited_in_turn" "edited_in_turn" s_edited_in_turn f fd):FnOk P w K mg base CX0 2 f fd ["sheet","edits_in_turn"] (spF K F_edited_in_turn):=by
 obtain ⟨_,_,G_misfit,m_misfit,k_misfit,b_misfit⟩:=W_misfit
 obtain ⟨_,_,G_sheet_of_values,m_sheet_of_values,k_sheet_of_values,b_sheet_of_values⟩:=W_sheet_of_values
 have sc:=sc_edited_in_turn
 refine fn_F F sc_edited_in_turn fun cdv A outer s H E hr=>?_
 have hu:=hu_of hr
 exact (fs_cons (fs_set 2 (fp_dict rfl g_dict (fp_var 0)) sc.nd) (fs_cons (fs_for rfl (fi_seq (fp_var 1)) (fg_name 3 sc.nd) (fs_cons (fs_set 4 (fp_call G_misfit (hr.mono (by decide)) m_misfit k_misfit b_misfit (fa_cons (fp_var 2) (fa_cons (fp_var 3) fa_nil))) sc.nd) (fs_cons (fs_if (ft_notN (fp_var 4) fp_non) (fs_one fs_no) fs_nil) (fs_one (fs_for rfl (fi_seq (fp_var 3)) (fg_tup rfl (fgs_cons (fg_name 5 sc.nd) (fgs_cons (fg_name 6 sc.nd) (fgs_cons (fg_name 7 sc.nd) fgs_nil)))) (fs_one (fs_dput 2 hu (fp_var 5) (fp_var 7)))))))) (fs_one (fs_ret (fp_call G_sheet_of_values (hr.mono (by decide)) m_sheet_of_values k_sheet_of_values b_sheet_of_values (fa_cons (fp_var 2) fa_nil))))))
abbrev s_are_edits:Stmt:=top 20
theorem sc_are_edits:FnScope ["edits","slot","old","new"] ["edits"] (defScope s_are_edits):=⟨rfl,rfl,rfl,by decide +kernel,rfl,by decide +kernel,by decide +kernel⟩
def B_are_edits:SF:=(sSeq (sFor (iSeqF (eVar 0)) (gT (gsCons (gN 1) (gsCons (gN 2) (gsCons (gN 3) gsNil)))) (sSeq (sIf (tNot1 (tAnd2 (tV (eCall F_within (aCons (eVar 1) (aCons (eC (.int 0)) (aCons (eC (.int 999)) aNil))))) (tV (eCall F_within (aCons (eVar 2) (aCons (eC (.int 0)) (aCons (eC (.int 1000000000)) aNil))))))) (sRet (eC (.bl false))) sNx) (sIf (tOr2 (tNot1 (tV (eCall F_within (aCons (eVar 3) (aCons (eC (.int 0)) (aCons (eC (.int 1000000000)) aNil)))))) (tV (e2 oEq (eVar 2) (eVar 3)))) (sRet (eC (.bl false))) sNx))) (sRet (eCall F_rising (aCons (eComp [none] (iSeqF (eVar 0)) (gN 0) tTrue (e2 oIx (eVar 0) (eC (.int 0)))) aNil))))
def F_are_edits:List D→Option D:=runF 1 4 B_are_edits
theorem ok_are_edits {t_GREATEST_SLOT:Tok} (m_GREATEST_SLOT:mg "GREATEST_SLOT"=some (.int 999 t_GREATEST_SLOT)) {t_GREATEST_VALUE:Tok} (m_GREATEST_VALUE:mg "GREATEST_VALUE"=some (.int 1000000000 t_GREATEST_VALUE)) (W_within:FN P w K mg base CX0 1 "within" ["value","least","most"] (spF K F_within)) (W_rising:FN P w K mg base CX0 1 "rising" ["numbers"] (spF K F_rising)) (F:Fun K "are_edits" "are_edits" s_are_edits f fd):FnOk P w K mg base CX0 2 f fd ["edits"] (spF K F_are_edits):=by
 obtain ⟨_,_,G_within,m_within,k_within,b_within⟩:=W_within
 obtain ⟨_,_,G_rising,m_rising,k_rising,b_rising⟩:=W_rising
 have sc:=sc_are_edits
 refine fn_F F sc_are_edits fun cdv A outer s H E hr=>?_
 have hu:=hu_of hr
 exact (fs_cons (fs_for rfl (fi_seq (fp_var 0)) (fg_tup rfl (fgs_cons (fg_name 1 sc.nd) (fgs_cons (fg_name 2 sc.nd) (fgs_cons (fg_name 3 sc.nd) fgs_nil)))) (fs_cons (fs_if (ft_not (FW.ft (fw_and (ft_val (fp_call G_within (hr.mono (by decide)) m_within k_within b_within (fa_cons (fp_var 1) (fa_cons fp_int (fa_cons (fp_globI m_GREATEST_SLOT) fa_nil))))) (fw_and1 (ft_val (fp_call G_within (hr.mono (by decide)) m_within k_within b_within (fa_cons (fp_var 2) (fa_cons fp_int (fa_cons (fp_globI m_GREATEST_VALUE) fa_nil))))))))) (fs_one (fs_ret fp_bl)) fs_nil) (fs_one (fs_if (FW.ft (fw_or (ft_not (ft_val (fp_call G_within (hr.mono (by decide)) m_within k_within b_within (fa_cons (fp_var 3) (fa_cons fp_int (fa_cons (fp_globI m_GREATEST_VALUE) fa_nil)))))) (fw_or1 (ft_eq (fp_var 2) (fp_var 3))))) (fs_one (fs_ret fp_bl)) fs_nil)))) (fs_one (fs_ret (fp_call G_rising (hr.mono (by decide)) m_rising k_rising b_rising (fa_cons (fp_comp (M:=["edit"]) (js:=[none]) (is:=[0]) (compScope_mk (N:=["edits","slot","old","new"]) (osc:=defScope s_are_edits) rfl rfl rfl (by decide +kernel)) rfl (fi_seq (fp_var 0)) (by decide) fun s3 H3 fp=>⟨(fg_name 0 (show (["edit"]:List Str).Nodup by decide +kernel)),fts_nil,(fp_ix (fp_var 0) fp_int)⟩) fa_nil)))))
abbrev s_Changes_init:Stmt:=inClass (top 27) 0
theorem sc_Changes_init:FnScope ["self"] ["self"] (defScope s_Changes_init):=⟨rfl,rfl,rfl,by decide +kernel,rfl,by decide +kernel,by decide +kernel⟩
def B_Changes_init:SF:=(noRt (sFldSet 0 "Changes" "entries" (eLst aNil)))
def F_Changes_init:MF:=runM 1 1 B_Changes_init
theorem ok_Changes_init {c_Changes:Addr} (C_Changes:ClsAt K "Changes" c_Changes) (na_Changes_entries:NoAttr K c_Changes "entries") (F:Fun K "__init__" "Changes.__init__" s_Changes_init f fd):FnOk P w K mg base CX0 1 f fd ["self"] (spO K F_Changes_init):=by
 have sc:=sc_Changes_init
 refine fn_M F sc_Changes_init rfl (by decide) fun cdv A outer s H E hr=>?_
 have hu:=hu_of hr
 exact (fm_one (fm_of (fs_fldSet 0 C_Changes na_Changes_entries (fp_lst fa_nil))))
abbrev s_Changes_many:Stmt:=inClass (top 27) 2
theorem sc_Changes_many:FnScope ["self"] ["self"] (defScope s_Changes_many):=⟨rfl,rfl,rfl,by decide +kernel,rfl,by decide +kernel,by decide +kernel⟩
def B_Changes_many:SF:=(sRet (e1 oLen (eFld "Changes" "entries" (eVar 0))))
def F_Changes_many:List D→Option D:=runF 1 1 B_Changes_many
theorem ok_Changes_many (g_len:mg "len"=none) {c_Changes:Addr} (C_Changes:ClsAt K "Changes" c_Changes) (na_Changes_entries:NoAttr K c_Changes "entries") (F:Fun K "many" "Changes.many" s_Changes_many f fd):FnOk P w K mg base CX0 1 f fd ["self"] (spF K F_Changes_many):=by
 have sc:=sc_Changes_many
 refine fn_F F sc_Changes_many fun cdv A outer s H E hr=>?_
 have hu:=hu_of hr
 exact (fs_one (fs_ret (fp_len g_len (fp_fld C_Changes na_Changes_entries (fp_var 0)))))
abbrev s_Changes_has:Stmt:=inClass (top 27) 9
theorem sc_Changes_has:FnScope ["self","number"] ["self","number"] (defScope s_Changes_has):=⟨rfl,rfl,rfl,by decide +kernel,rfl,by decide +kernel,by decide +kernel⟩
def B_Changes_has:SF:=(sRet (eCall F_within (aCons (eVar 1) (aCons (eC (.int 1)) (aCons (eMeth "Changes" "many" F_Changes_many (eVar 0) aNil) aNil)))))
def F_Changes_has:List D→Option D:=runF 2 2 B_Changes_has
theorem ok_Changes_has {c_Changes:Addr} (C_Changes:ClsAt K "Changes" c_Changes) (W_within:FN P w K mg base CX0 1 "within" ["value","least","most"] (spF K F_within)) (W_Changes_many:MT P w K mg base CX0 1 c_Changes "many" ["self"] (spF K F_Changes_many)) (F:Fun K "has" "Changes.has" s_Changes_has f fd):FnOk P w K mg base CX0 2 f fd ["self","number"] (spF K F_Changes_has):=by
 obtain ⟨_,_,G_within,m_within,k_within,b_within⟩:=W_within
 obtain ⟨_,_,G_Changes_many,b_Changes_many,mt_Changes_many⟩:=W_Changes_many
 have sc:=sc_Changes_has
 refine fn_F F sc_Changes_has fun cdv A outer s H E hr=>?_
 have hu:=hu_of hr
 exact (fs_one (fs_ret (fp_call G_within (hr.mono (by decide)) m_within k_within b_within (fa_cons (fp_var 1) (fa_cons fp_int (fa_cons (fp_meth0 C_Changes mt_Changes_many G_Changes_many (hr.mono (by decide)) b_Changes_many (fp_var 0)) fa_nil))))))
abbrev s_Changes_makes_change:Stmt:=inClass (top 27) 11
theorem sc_Changes_makes_change:FnScope ["self","rank","leans","edits"] ["self","rank","leans","edits"] (defScope s_Changes_makes_change):=⟨rfl,rfl,rfl,by decide +kernel,rfl,by decide +kernel,by decide +kernel⟩
def B_Changes_makes_change:SF:=(sSeq (sIf (tNot1 (tV (eCall F_within (aCons (eVar 1) (aCons (eC (.int 0)) (aCons (eC (.int 9)) aNil)))))) (sRet (eC (.bl false))) sNx) (sSeq (sIf (tOr2 (tNot1 (tV (e1 oAll (eComp [none,some 0] (iSeqF (eVar 2)) (gN 0) tTrue (eMeth "Changes" "has" F_Changes_has (eVar 1) (aCons (eVar 0) aNil)))))) (tNot1 (tV (eCall F_rising (aCons (eVar 2) aNil))))) (sRet (eC (.bl false))) sNx) (sRet (eAnd (e2 oLe (e1 oLen (eVar 3)) (eC (.int 20))) (eCall F_are_edits (aCons (eVar 3) aNil))))))
def F_Changes_makes_change:List D→Option D:=runF 4 4 B_Changes_makes_change
theorem ok_Changes_makes_change (g_all:mg "all"=none) (g_len:mg "len"=none) {t_GREATEST_RANK:Tok} (m_GREATEST_RANK:mg "GREATEST_RANK"=some (.int 9 t_GREATEST_RANK)) {t_MOST_EDITS:Tok} (m_MOST_EDITS:mg "MOST_EDITS"=some (.int 20 t_MOST_EDITS)) {c_Changes:Addr} (C_Changes:ClsAt K "Changes" c_Changes) (W_within:FN P w K mg base CX0 1 "within" ["value","least","most"] (spF K F_within)) (W_rising:FN P w K mg base CX0 1 "rising" ["numbers"] (spF K F_rising)) (W_Changes_has:MT P w K mg base CX0 2 c_Changes "has" ["self","number"] (spF K F_Changes_has)) (W_are_edits:FN P w K mg base CX0 2 "are_edits" ["edits"] (spF K F_are_edits)) (F:Fun K "makes_change" "Changes.makes_change" s_Changes_makes_change f fd):FnOk P w K mg base CX0 3 f fd ["self","rank","leans","edits"] (spF K F_Changes_makes_change):=by
 obtain ⟨_,_,G_within,m_within,k_within,b_within⟩:=W_within
 obtain ⟨_,_,G_rising,m_rising,k_rising,b_rising⟩:=W_rising
 obtain ⟨_,_,G_Changes_has,b_Changes_has,mt_Changes_has⟩:=W_Changes_has
 obtain ⟨_,_,G_are_edits,m_are_edits,k_are_edits,b_are_edits⟩:=W_are_edits
 have sc:=sc_Changes_makes_change
 refine fn_F F sc_Changes_makes_change fun cdv A outer s H E hr=>?_
 have hu:=hu_of hr
 exact (fs_cons (fs_if (ft_not (ft_val (fp_call G_within (hr.mono (by decide)) m_within k_within b_within (fa_cons (fp_var 1) (fa_cons fp_int (fa_cons (fp_globI m_GREATEST_RANK) fa_nil)))))) (fs_one (fs_ret fp_bl)) fs_nil) (fs_cons (fs_if (FW.ft (fw_or (ft_not (ft_val (fp_all rfl g_all (fp_comp (M:=["lean","self"]) (js:=[none,some 0]) (is:=[0]) (compScope_mk (N:=["self","rank","leans","edits"]) (osc:=defScope s_Changes_makes_change) rfl rfl rfl (by decide +kernel)) rfl (fi_seq (fp_var 2)) (by decide) fun s3 H3 fp=>⟨(fg_name 0 (show (["lean","self"]:List Str).Nodup by decide +kernel)),fts_nil,(fp_meth C_Changes mt_Changes_has G_Changes_has (hr.mono (by decide)) b_Changes_has (fp_var 1) (fa_cons (fp_var 0) fa_nil))⟩)))) (fw_or1 (ft_not (ft_val (fp_call G_rising (hr.mono (by decide)) m_rising k_rising b_rising (fa_cons (fp_var 2) fa_nil))))))) (fs_one (fs_ret fp_bl)) fs_nil) (fs_one (fs_ret (fp_and (fp_le (fp_len g_len (fp_var 3)) (fp_globI m_MOST_EDITS)) (fp_one (fp_call G_are_edits (hr.mono (by decide)) m_are_edits k_are_edits b_are_edits (fa_cons (fp_var 3) fa_nil))))))))
abbrev s_Changes_added:Stmt:=inClass (top 27) 1
theorem sc_Changes_added:FnScope ["self","rank","leans","edits"] ["self","rank","leans","edits"] (defScope s_Changes_added):=⟨rfl,rfl,rfl,by decide +kernel,rfl,by decide +kernel,by decide +kernel⟩
def B_Changes_added:SF:=(sSeq (sIf (tNot1 (tV (eMeth "Changes" "makes_change" F_Changes_makes_change (eVar 0) (aCons (eVar 1) (aCons (eVar 2) (aCons (eVar 3) aNil)))))) sNo sNx) (sSeq (sIf (tV (e2 oGe (eMeth "Changes" "many" F_Changes_many (eVar 0) aNil) (eC (.int 60)))) sNo sNx) (sSeq (noRt (sFldApp 0 "Changes" "entries" (eTup (aCons (eVar 1) (aCons (e1 oTuple (eVar 2)) (aCons (e1 oTuple (eComp [none] (iSeqF (eVar 3)) (gN 0) tTrue (e1 oTuple (eVar 0)))) aNil)))))) (sRetM (eMeth "Changes" "many" F_Changes_many (eVar 0) aNil)))))
def F_Changes_added:MF:=runM 4 4 B_Changes_added
theorem ok_Changes_added (g_tuple:mg "tuple"=none) {t_MOST_CHANGES:Tok} (m_MOST_CHANGES:mg "MOST_CHANGES"=some (.int 60 t_MOST_CHANGES)) {c_Changes:Addr} (C_Changes:ClsAt K "Changes" c_Changes) (na_Changes_entries:NoAttr K c_Changes "entries") (W_Changes_makes_change:MT P w K mg base CX0 3 c_Changes "makes_change" ["self","rank","leans","edits"] (spF K F_Changes_makes_change)) (W_Changes_many:MT P w K mg base CX0 1 c_Changes "many" ["self"] (spF K F_Changes_many)) (F:Fun K "added" "Changes.added" s_Changes_added f fd):FnOk P w K mg base CX0 4 f fd ["self","rank","leans","edits"] (spO K F_Changes_added):=by
 obtain ⟨_,_,G_Changes_makes_change,b_Changes_makes_change,mt_Changes_makes_change⟩:=W_Changes_makes_change
 obtain ⟨_,_,G_Changes_many,b_Changes_many,mt_Changes_many⟩:=W_Changes_many
 have sc:=sc_Changes_added
 refine fn_M F sc_Changes_added rfl (by decide) fun cdv A outer s H E hr=>?_
 have hu:=hu_of hr
 exact (fm_cons (fm_if (ft_not (ft_val (fp_meth C_Changes mt_Changes_makes_change G_Changes_makes_change (hr.mono (by decide)) b_Changes_makes_change (fp_var 0) (fa_cons (fp_var 1) (fa_cons (fp_var 2) (fa_cons (fp_var 3) fa_nil)))))) (fm_one fm_no) fm_nil) (fm_cons (fm_if (ft_ge (fp_meth0 C_Changes mt_Changes_many G_Changes_many (hr.mono (by decide)) b_Changes_many (fp_var 0)) (fp_globI m_MOST_CHANGES)) (fm_one fm_no) fm_nil) (fm_cons (fm_of (fs_fldApp 0 C_Changes na_Changes_entries (fp_tup (fa_cons (fp_var 1) (fa_cons (fp_tuple g_tuple (fp_var 2)) (fa_cons (fp_tuple g_tuple (fp_comp (M:=["edit"]) (js:=[none]) (is:=[0]) (compScope_mk (N:=["self","rank","leans","edits"]) (osc:=defScope s_Changes_added) rfl rfl rfl (by decide +kernel)) rfl (fi_seq (fp_var 3)) (by decide) fun s3 H3 fp=>⟨(fg_name 0 (show (["edit"]:List Str).Nodup by decide +kernel)),fts_nil,(fp_tuple g_tuple (fp_var 0))⟩)) fa_nil)))))) (fm_one (fm_ret (fp_meth0 C_Changes mt_Changes_many G_Changes_many (hr.mono (by decide)) b_Changes_many (fp_var 0)))))))
abbrev s_Changes_entry_of:Stmt:=inClass (top 27) 10
theorem sc_Changes_entry_of:FnScope ["self","number"] ["self","number"] (defScope s_Changes_entry_of):=⟨rfl,rfl,rfl,by decide +kernel,rfl,by decide +kernel,by decide +kernel⟩
def B_Changes_entry_of:SF:=(sSeq (sIf (tNot1 (tV (eMeth "Changes" "has" F_Changes_has (eVar 0) (aCons (eVar 1) aNil)))) sNo sNx) (sRet (e2 oIx (eFld "Changes" "entries" (eVar 0)) (e2 oSub (eVar 1) (eC (.int 1))))))
def F_Changes_entry_of:List D→Option D:=runF 2 2 B_Changes_entry_of
theorem ok_Changes_entry_of {c_Changes:Addr} (C_Changes:ClsAt K "Changes" c_Changes) (na_Changes_entries:NoAttr K c_Changes "entries") (W_Changes_has:MT P w K mg base CX0 2 c_Changes "has" ["self","number"] (spF K F_Changes_has)) (F:Fun K "entry_of" "Changes.entry_of" s_Changes_entry_of f fd):FnOk P w K mg base CX0 3 f fd ["self","number"] (spF K F_Changes_entry_of):=by
 obtain ⟨_,_,G_Changes_has,b_Changes_has,mt_Changes_has⟩:=W_Changes_has
 have sc:=sc_Changes_entry_of
 refine fn_F F sc_Changes_entry_of fun cdv A outer s H E hr=>?_
 have hu:=hu_of hr
 exact (fs_cons (fs_if (ft_not (ft_val (fp_meth C_Changes mt_Changes_has G_Changes_has (hr.mono (by decide)) b_Changes_has (fp_var 0) (fa_cons (fp_var 1) fa_nil)))) (fs_one fs_no) fs_nil) (fs_one (fs_ret (fp_ix (fp_fld C_Changes na_Changes_entries (fp_var 0)) (fp_sub (fp_var 1) fp_int)))))
abbrev s_Changes_edits_of:Stmt:=inClass (top 27) 5
theorem sc_Changes_edits_of:FnScope ["self","number"] ["self","number"] (defScope s_Changes_edits_of):=⟨rfl,rfl,rfl,by decide +kernel,rfl,by decide +kernel,by decide +kernel⟩
def B_Changes_edits_of:SF:=(sRet (e1 oList (e2 oIx (eMeth "Changes" "entry_of" F_Changes_entry_of (eVar 0) (aCons (eVar 1) aNil)) (eC (.int 2)))))
def F_Changes_edits_of:List D→Option D:=runF 2 2 B_Changes_edits_of
theorem ok_Changes_edits_of (g_list:mg "list"=none) {c_Changes:Addr} (C_Changes:ClsAt K "Changes" c_Changes) (W_Changes_entry_of:MT P w K mg base CX0 3 c_Changes "entry_of" ["self","number"] (spF K F_Changes_entry_of)) (F:Fun K "edits_of" "Changes.edits_of" s_Changes_edits_of f fd):FnOk P w K mg base CX0 4 f fd ["self","number"] (spF K F_Changes_edits_of):=by
 obtain ⟨_,_,G_Changes_entry_of,b_Changes_entry_of,mt_Changes_entry_of⟩:=W_Changes_entry_of
 have sc:=sc_Changes_edits_of
 refine fn_F F sc_Changes_edits_of fun cdv A outer s H E hr=>?_
 have hu:=hu_of hr
 exact (fs_one (fs_ret (fp_list g_list (fp_ix (fp_meth C_Changes mt_Changes_entry_of G_Changes_entry_of (hr.mono (by decide)) b_Changes_entry_of (fp_var 0) (fa_cons (fp_var 1) fa_nil)) fp_int))))
abbrev s_Changes_copied:Stmt:=inClass (top 27) 8
theorem sc_Changes_copied:FnScope ["self","other"] ["self"] (defScope s_Changes_copied):=⟨rfl,rfl,rfl,by decide +kernel,rfl,by decide +kernel,by decide +kernel⟩
def B_Changes_copied:SF:=(sSeq (sSet 1 (eMake "Changes" F_Changes_init aNil)) (sSeq (sFldExt 1 "Changes" "entries" (eFld "Changes" "entries" (eVar 0))) (sRetV 1)))
def F_Changes_copied:List D→Option D:=runF 1 2 B_Changes_copied
theorem ok_Changes_copied {c_Changes:Addr} (C_Changes:ClsAt K "Changes" c_Changes) (na_Changes_entries:NoAttr K c_Changes "entries") (W_Changes_init:MI P w K mg base CX0 1 c_Changes ["self"] (spO K F_Changes_init)) (m_Changes:mg "Changes"=some (.ref c_Changes)) (F:Fun K "copied" "Changes.copied" s_Changes_copied f fd):FnOk P w K mg base CX0 3 f fd ["self"] (spF K F_Changes_copied):=by
 obtain ⟨_,_,G_Changes_init,b_Changes_init,M_Changes⟩:=W_Changes_init
 have sc:=sc_Changes_copied
 refine fn_F F sc_Changes_copied fun cdv A outer s H E hr=>?_
 have hu:=hu_of hr
 exact (fs_cons (fs_set 1 (fp_make0 C_Changes.ns M_Changes G_Changes_init (hr.mono (by decide)) m_Changes b_Changes_init) sc.nd) (fs_cons (fs_fldExt 1 C_Changes na_Changes_entries (fp_fld C_Changes na_Changes_entries (fp_var 0))) (fs_one (fs_retV 1))))
abbrev s_sheet_of:Stmt:=top 28
theorem sc_sheet_of:FnScope ["changes","row"] ["changes","row"] (defScope s_sheet_of):=⟨rfl,rfl,rfl,by decide +kernel,rfl,by decide +kernel,by decide +kernel⟩
def B_sheet_of:SF:=(sRet (eCall F_edited_in_turn (aCons (eLst aNil) (aCons (eComp [none,some 0] (iSeqF (eVar 1)) (gN 0) tTrue (eMeth "Changes" "edits_of" F_Changes_edits_of (eVar 1) (aCons (eVar 0) aNil))) aNil))))
def F_sheet_of:List D→Option D:=runF 2 2 B_sheet_of
theorem ok_sheet_of {c_Changes:Addr} (C_Changes:ClsAt K "Changes" c_Changes) (W_edited_in_turn:FN P w K mg base CX0 2 "edited_in_turn" ["sheet","edits_in_turn"] (spF K F_edited_in_turn)) (W_Changes_edits_of:MT P w K mg base CX0 4 c_Changes "edits_of" ["self","number"] (spF K F_Changes_edits_of)) (F:Fun K "sheet_of" "sheet_of" s_sheet_of f fd):FnOk P w K mg base CX0 5 f fd ["changes","row"] (spF K F_sheet_of):=by
 obtain ⟨_,_,G_edited_in_turn,m_edited_in_turn,k_edited_in_turn,b_edited_in_turn⟩:=W_edited_in_turn
 obtain ⟨_,_,G_Changes_edits_of,b_Changes_edits_of,mt_Changes_edits_of⟩:=W_Changes_edits_of
 have sc:=sc_sheet_of
 refine fn_F F sc_sheet_of fun cdv A outer s H E hr=>?_
 have hu:=hu_of hr
 exact (fs_one (fs_ret (fp_call G_edited_in_turn (hr.mono (by decide)) m_edited_in_turn k_edited_in_turn b_edited_in_turn (fa_cons (fp_lst fa_nil) (fa_cons (fp_comp (M:=["number","changes"]) (js:=[none,some 0]) (is:=[0]) (compScope_mk (N:=["changes","row"]) (osc:=defScope s_sheet_of) rfl rfl rfl (by decide +kernel)) rfl (fi_seq (fp_var 1)) (by decide) fun s3 H3 fp=>⟨(fg_name 0 (show (["number","changes"]:List Str).Nodup by decide +kernel)),fts_nil,(fp_meth C_Changes mt_Changes_edits_of G_Changes_edits_of (hr.mono (by decide)) b_Changes_edits_of (fp_var 1) (fa_cons (fp_var 0) fa_nil))⟩) fa_nil)))))
abbrev s_makes_tally:Stmt:=top 43
theorem sc_makes_tally:FnScope ["need","tries"] ["need","tries"] (defScope s_makes_tally):=⟨rfl,rfl,rfl,by decide +kernel,rfl,by decide +kernel,by decide +kernel⟩
def B_makes_tally:SF:=(sRet (eAnd (eCall F_within (aCons (eVar 1) (aCons (eC (.int 1)) (aCons (eC (.int 20)) aNil)))) (eCall F_within (aCons (eVar 0) (aCons (eC (.int 1)) (aCons (eVar 1) aNil))))))
def F_makes_tally:List D→Option D:=runF 2 2 B_makes_tally
theorem ok_makes_tally {t_MOST_TRIES:Tok} (m_MOST_TRIES:mg "MOST_TRIES"=some (.int 20 t_MOST_TRIES)) (W_within:FN P w K mg base CX0 1 "within" ["value","least","most"] (spF K F_within)) (F:Fun K "makes_tally" "makes_tally" s_makes_tally f fd):FnOk P w K mg base CX0 2 f fd ["need","tries"] (spF K F_makes_tally):=by
 obtain ⟨_,_,G_within,m_within,k_within,b_within⟩:=W_within
 have sc:=sc_makes_tally
 refine fn_F F sc_makes_tally fun cdv A outer s H E hr=>?_
 have hu:=hu_of hr
 exact (fs_one (fs_ret (fp_and (fp_call G_within (hr.mono (by decide)) m_within k_within b_within (fa_cons (fp_var 1) (fa_cons fp_int (fa_cons (fp_globI m_MOST_TRIES) fa_nil)))) (fp_one (fp_call G_within (hr.mono (by decide)) m_within k_within b_within (fa_cons (fp_var 0) (fa_cons fp_int (fa_cons (fp_var 1) fa_nil))))))))
abbrev s_Gate_init:Stmt:=inClass (top 48) 0
theorem sc_Gate_init:FnScope ["self","width","hands","need","tries"] ["self","width","hands","need","tries"] (defScope s_Gate_init):=⟨rfl,rfl,rfl,by decide +kernel,rfl,by decide +kernel,by decide +kernel⟩
def B_Gate_init:SF:=(sSeq (sIf (tNot1 (tAnd2 (tV (eCall F_within (aCons (eVar 1) (aCons (eC (.int 1)) (aCons (eC (.int 16)) aNil))))) (tAnd2 (tV (eCall F_within (aCons (eVar 2) (aCons (eC (.int 1)) (aCons (eC (.int 8)) aNil))))) (tV (eCall F_makes_tally (aCons (eVar 3) (aCons (eVar 4) aNil))))))) sNo sNx) (sSeq (noRt (sFldSet 0 "Gate" "numbers" (eTup (aCons (eVar 1) (aCons (eVar 2) (aCons (eVar 3) (aCons (eVar 4) aNil))))))) (sSeq (noRt (sFldSet 0 "Gate" "known" (eMake "Changes" F_Changes_init aNil))) (sSeq (noRt (sFldSet 0 "Gate" "on_line" (eLst aNil))) (sSeq (noRt (sFldSet 0 "Gate" "laid_ones" (eLst aNil))) (sSeq (noRt (sFldSet 0 "Gate" "grounds" (eC (.dic [])))) (sSeq (noRt (sFldSet 0 "Gate" "tallies" (eC (.dic [])))) (sSeq (noRt (sFldSet 0 "Gate" "looks" (eLst aNil))) (sSeq (noRt (sFldSet 0 "Gate" "halted" (eC (.bl false)))) (sSeq (noRt (sFldSet 0 "Gate" "grown" (eLst aNil))) (sSeq (noRt (sFldSet 0 "Gate" "ended" (eLst aNil))) (sSeq (noRt (sFldSet 0 "Gate" "answers" (eC (.int 0)))) (noRt (sFldSet 0 "Gate" "breaks" (eC (.int 0))))))))))))))))
def F_Gate_init:MF:=runM 5 5 B_Gate_init
theorem ok_Gate_init {t_MOST_HANDS:Tok} (m_MOST_HANDS:mg "MOST_HANDS"=some (.int 8 t_MOST_HANDS)) {t_MOST_WIDTH:Tok} (m_MOST_WIDTH:mg "MOST_WIDTH"=some (.int 16 t_MOST_WIDTH)) {c_Changes:Addr} (C_Changes:ClsAt K "Changes" c_Changes) {c_Gate:Addr} (C_Gate:ClsAt K "Gate" c_Gate) (na_Gate_answers:NoAttr K c_Gate "answers") (na_Gate_breaks:NoAttr K c_Gate "breaks") (na_Gate_ended:NoAttr K c_Gate "ended") (na_Gate_grounds:NoAttr K c_Gate "grounds") (na_Gate_grown:NoAttr K c_Gate "grown") (na_Gate_halted:NoAttr K c_Gate "halted") (na_Gate_known:NoAttr K c_Gate "known") (na_Gate_laid_ones:NoAttr K c_Gate "laid_ones") (na_Gate_looks:NoAttr K c_Gate "looks") (na_Gate_numbers:NoAttr K c_Gate "numbers") (na_Gate_on_line:NoAttr K c_Gate "on_line") (na_Gate_tallies:NoAttr K c_Gate "tallies") (W_makes_tally:FN P w K mg base CX0 2 "makes_tally" ["need","tries"] (spF K F_makes_tally)) (W_within:FN P w K mg base CX0 1 "within" ["value","least","most"] (spF K F_within)) (W_Changes_init:MI P w K mg base CX0 1 c_Changes ["self"] (spO K F_Changes_init)) (m_Changes:mg "Changes"=some (.ref c_Changes)) (F:Fun K "__init__" "Gate.__init__" s_Gate_init f fd):FnOk P w K mg base CX0 3 f fd ["self","width","hands","need","tries"] (spO K F_Gate_init):=by
 obtain ⟨_,_,G_makes_tally,m_makes_tally,k_makes_tally,b_makes_tally⟩:=W_makes_tally
 obtain ⟨_,_,G_within,m_within,k_within,b_within⟩:=W_within
 obtain ⟨_,_,G_Changes_init,b_Changes_init,M_Changes⟩:=W_Changes_init
 have sc:=sc_Gate_init
 refine fn_M F sc_Gate_init rfl (by decide) fun cdv A outer s H E hr=>?_
 have hu:=hu_of hr
 exact (fm_cons (fm_if (ft_not (FW.ft (fw_and (ft_val (fp_call G_within (hr.mono (by decide)) m_within k_within b_within (fa_cons (fp_var 1) (fa_cons fp_int (fa_cons (fp_globI m_MOST_WIDTH) fa_nil))))) (fw_and (ft_val (fp_call G_within (hr.mono (by decide)) m_within k_within b_within (fa_cons (fp_var 2) (fa_cons fp_int (fa_cons (fp_globI m_MOST_HANDS) fa_nil))))) (fw_and1 (ft_val (fp_call G_makes_tally (hr.mono (by decide)) m_makes_tally k_makes_tally b_makes_tally (fa_cons (fp_var 3) (fa_cons (fp_var 4) fa_nil))))))))) (fm_one fm_no) fm_nil) (fm_cons (fm_of (fs_fldSet 0 C_Gate na_Gate_numbers (fp_tup (fa_cons (fp_var 1) (fa_cons (fp_var 2) (fa_cons (fp_var 3) (fa_cons (fp_var 4) fa_nil))))))) (fm_cons (fm_of (fs_fldSet 0 C_Gate na_Gate_known (fp_make0 C_Changes.ns M_Changes G_Changes_init (hr.mono (by decide)) m_Changes b_Changes_init))) (fm_cons (fm_of (fs_fldSet 0 C_Gate na_Gate_on_line (fp_lst fa_nil))) (fm_cons (fm_of (fs_fldSet 0 C_Gate na_Gate_laid_ones (fp_lst fa_nil))) (fm_cons (fm_of (fs_fldSet 0 C_Gate na_Gate_grounds fp_dnew)) (fm_cons (fm_of (fs_fldSet 0 C_Gate na_Gate_tallies fp_dnew)) (fm_cons (fm_of (fs_fldSet 0 C_Gate na_Gate_looks (fp_lst fa_nil))) (fm_cons (fm_of (fs_fldSet 0 C_Gate na_Gate_halted fp_bl)) (fm_cons (fm_of (fs_fldSet 0 C_Gate na_Gate_grown (fp_lst fa_nil))) (fm_cons (fm_of (fs_fldSet 0 C_Gate na_Gate_ended (fp_lst fa_nil))) (fm_cons (fm_of (fs_fldSet 0 C_Gate na_Gate_answers fp_int)) (fm_one (fm_of (fs_fldSet 0 C_Gate na_Gate_breaks fp_int)))))))))))))))
abbrev s_Gate_line:Stmt:=inClass (top 48) 6
theorem sc_Gate_line:FnScope ["self"] ["self"] (defScope s_Gate_line):=⟨rfl,rfl,rfl,by decide +kernel,rfl,by decide +kernel,by decide +kernel⟩
def B_Gate_line:SF:=(sRet (e1 oList (eFld "Gate" "on_line" (eVar 0))))
def F_Gate_line:List D→Option D:=runF 1 1 B_Gate_line
theorem ok_Gate_line (g_list:mg "list"=none) {c_Gate:Addr} (C_Gate:ClsAt K "Gate" c_Gate) (na_Gate_on_line:NoAttr K c_Gate "on_line") (F:Fun K "line" "Gate.line" s_Gate_line f fd):FnOk P w K mg base CX0 1 f fd ["self"] (spF K F_Gate_line):=by
 have sc:=sc_Gate_line
 refine fn_F F sc_Gate_line fun cdv A outer s H E hr=>?_
 have hu:=hu_of hr
 exact (fs_one (fs_ret (fp_list g_list (fp_fld C_Gate na_Gate_on_line (fp_var 0)))))
abbrev s_Gate_laid:Stmt:=inClass (top 48) 7
theorem sc_Gate_laid:FnScope ["self"] ["self"] (defScope s_Gate_laid):=⟨rfl,rfl,rfl,by decide +kernel,rfl,by decide +kernel,by decide +kernel⟩
def B_Gate_laid:SF:=(sRet (e1 oList (eFld "Gate" "laid_ones" (eVar 0))))
def F_Gate_laid:List D→Option D:=runF 1 1 B_Gate_laid
theorem ok_Gate_laid (g_list:mg "list"=none) {c_Gate:Addr} (C_Gate:ClsAt K "Gate" c_Gate) (na_Gate_laid_ones:NoAttr K c_Gate "laid_ones") (F:Fun K "laid" "Gate.laid" s_Gate_laid f fd):FnOk P w K mg base CX0 1 f fd ["self"] (spF K F_Gate_laid):=by
 have sc:=sc_Gate_laid
 refine fn_F F sc_Gate_laid fun cdv A outer s H E hr=>?_
 have hu:=hu_of hr
 exact (fs_one (fs_ret (fp_list g_list (fp_fld C_Gate na_Gate_laid_ones (fp_var 0)))))
abbrev s_Gate_waits:Stmt:=inClass (top 48) 19
theorem sc_Gate_waits:FnScope ["self","number"] ["self","number"] (defScope s_Gate_waits):=⟨rfl,rfl,rfl,by decide +kernel,rfl,by decide +kernel,by decide +kernel⟩
def B_Gate_waits:SF:=(sRet (eAnd (e2 (oIn true) (eVar 1) (eFld "Gate" "on_line" (eVar 0))) (eAnd (e2 (oIn true) (eVar 1) (eFld "Gate" "laid_ones" (eVar 0))) (e2 (oIn true) (eVar 1) (eFld "Gate" "grounds" (eVar 0))))))
def F_Gate_waits:List D→Option D:=runF 2 2 B_Gate_waits
theorem ok_Gate_waits {c_Gate:Addr} (C_Gate:ClsAt K "Gate" c_Gate) (na_Gate_grounds:NoAttr K c_Gate "grounds") (na_Gate_laid_ones:NoAttr K c_Gate "laid_ones") (na_Gate_on_line:NoAttr K c_Gate "on_line") (F:Fun K "waits" "Gate.waits" s_Gate_waits f fd):FnOk P w K mg base CX0 1 f fd ["self","number"] (spF K F_Gate_waits):=by
 have sc:=sc_Gate_waits
 refine fn_F F sc_Gate_waits fun cdv A outer s H E hr=>?_
 have hu:=hu_of hr
 exact (fs_one (fs_ret (fp_and (fp_notIn (fp_var 1) (fp_fld C_Gate na_Gate_on_line (fp_var 0))) (fp_and (fp_notIn (fp_var 1) (fp_fld C_Gate na_Gate_laid_ones (fp_var 0))) (fp_one (fp_notIn (fp_var 1) (fp_fld C_Gate na_Gate_grounds (fp_var 0))))))))
abbrev s_Gate_waiting:Stmt:=inClass (top 48) 8
theorem sc_Gate_waiting:FnScope ["self"] ["self"] (defScope s_Gate_waiting):=⟨rfl,rfl,rfl,by decide +kernel,rfl,by decide +kernel,by decide +kernel⟩
def B_Gate_waiting:SF:=(sRet (eComp [none,some 0] (iR2 (eC (.int 1)) (e2 oAdd (eMeth "Changes" "many" F_Changes_many (eFld "Gate" "known" (eVar 0)) aNil) (eC (.int 1)))) (gN 0) (tV (eMeth "Gate" "waits" F_Gate_waits (eVar 1) (aCons (eVar 0) aNil))) (eVar 0)))
def F_Gate_waiting:List D→Option D:=runF 1 1 B_Gate_waiting
theorem ok_Gate_waiting (g_range:mg "range"=none) {c_Changes:Addr} (C_Changes:ClsAt K "Changes" c_Changes) {c_Gate:Addr} (C_Gate:ClsAt K "Gate" c_Gate) (na_Gate_known:NoAttr K c_Gate "known") (W_Changes_many:MT P w K mg base CX0 1 c_Changes "many" ["self"] (spF K F_Changes_many)) (W_Gate_waits:MT P w K mg base CX0 1 c_Gate "waits" ["self","number"] (spF K F_Gate_waits)) (F:Fun K "waiting" "Gate.waiting" s_Gate_waiting f fd):FnOk P w K mg base CX0 2 f fd ["self"] (spF K F_Gate_waiting):=by
 obtain ⟨_,_,G_Changes_many,b_Changes_many,mt_Changes_many⟩:=W_Changes_many
 obtain ⟨_,_,G_Gate_waits,b_Gate_waits,mt_Gate_waits⟩:=W_Gate_waits
 have sc:=sc_Gate_waiting
 refine fn_F F sc_Gate_waiting fun cdv A outer s H E hr=>?_
 have hu:=hu_of hr
 exact (fs_one (fs_ret (fp_comp (M:=["number","self"]) (js:=[none,some 0]) (is:=[0]) (compScope_mk (N:=["self"]) (osc:=defScope s_Gate_waiting) rfl rfl rfl (by decide +kernel)) rfl (fi_range2 g_range fp_int (fp_add (fp_meth0 C_Changes mt_Changes_many G_Changes_many (hr.mono (by decide)) b_Changes_many (fp_fld C_Gate na_Gate_known (fp_var 0))) fp_int)) (by decide) fun s3 H3 fp=>⟨(fg_name 0 (show (["number","self"]:List Str).Nodup by decide +kernel)),(fts_one (ft_val (fp_meth C_Gate mt_Gate_waits G_Gate_waits (hr.mono (by decide)) b_Gate_waits (fp_var 1) (fa_cons (fp_var 0) fa_nil)))),(fp_var 0)⟩)))
abbrev s_Gate_outs:Stmt:=inClass (top 48) 9
theorem sc_Gate_outs:FnScope ["self"] ["self"] (defScope s_Gate_outs):=⟨rfl,rfl,rfl,by decide +kernel,rfl,by decide +kernel,by decide +kernel⟩
def B_Gate_outs:SF:=(sRet (eComp [none,some 0] (iSeqF (e1 oSorted (eFld "Gate" "grounds" (eVar 0)))) (gN 0) tTrue (eTup (aCons (eVar 0) (aCons (e2 oIx (eFld "Gate" "grounds" (eVar 1)) (eVar 0)) aNil)))))
def F_Gate_outs:List D→Option D:=runF 1 1 B_Gate_outs
theorem ok_Gate_outs (g_sorted:mg "sorted"=none) {c_Gate:Addr} (C_Gate:ClsAt K "Gate" c_Gate) (na_Gate_grounds:NoAttr K c_Gate "grounds") (F:Fun K "outs" "Gate.outs" s_Gate_outs f fd):FnOk P w K mg base CX0 1 f fd ["self"] (spF K F_Gate_outs):=by
 have sc:=sc_Gate_outs
 refine fn_F F sc_Gate_outs fun cdv A outer s H E hr=>?_
 have hu:=hu_of hr
 exact (fs_one (fs_ret (fp_comp (M:=["number","self"]) (js:=[none,some 0]) (is:=[0]) (compScope_mk (N:=["self"]) (osc:=defScope s_Gate_outs) rfl rfl rfl (by decide +kernel)) rfl (fi_seq (fp_sorted rfl g_sorted (fp_fld C_Gate na_Gate_grounds (fp_var 0)))) (by decide) fun s3 H3 fp=>⟨(fg_name 0 (show (["number","self"]:List Str).Nodup by decide +kernel)),fts_nil,(fp_tup (fa_cons (fp_var 0) (fa_cons (fp_ix (fp_fld C_Gate na_Gate_grounds (fp_var 1)) (fp_var 0)) fa_nil)))⟩)))
abbrev s_Gate_wanted:Stmt:=inClass (top 48) 10
theorem sc_Gate_wanted:FnScope ["self"] ["self"] (defScope s_Gate_wanted):=⟨rfl,rfl,rfl,by decide +kernel,rfl,by decide +kernel,by decide +kernel⟩
def B_Gate_wanted:SF:=(sRet (e1 oList (eFld "Gate" "looks" (eVar 0))))
def F_Gate_wanted:List D→Option D:=runF 1 1 B_Gate_wanted
theorem ok_Gate_wanted (g_list:mg "list"=none) {c_Gate:Addr} (C_Gate:ClsAt K "Gate" c_Gate) (na_Gate_looks:NoAttr K c_Gate "looks") (F:Fun K "wanted" "Gate.wanted" s_Gate_wanted f fd):FnOk P w K mg base CX0 1 f fd ["self"] (spF K F_Gate_wanted):=by
 have sc:=sc_Gate_wanted
 refine fn_F F sc_Gate_wanted fun cdv A outer s H E hr=>?_
 have hu:=hu_of hr
 exact (fs_one (fs_ret (fp_list g_list (fp_fld C_Gate na_Gate_looks (fp_var 0)))))
abbrev s_Gate_bad:Stmt:=inClass (top 48) 11
theorem sc_Gate_bad:FnScope ["self","place"] ["self"] (defScope s_Gate_bad):=⟨rfl,rfl,rfl,by decide +kernel,rfl,by decide +kernel,by decide +kernel⟩
def B_Gate_bad:SF:=(sSeq (sFor (iR2 (eC (.int 1)) (e2 oAdd (e1 oLen (eFld "Gate" "laid_ones" (eVar 0))) (eC (.int 1)))) (gN 1) sNo) (sRet (eC .non)))
def F_Gate_bad:List D→Option D:=runF 1 2 B_Gate_bad
theorem ok_Gate_bad (g_len:mg "len"=none) (g_range:mg "range"=none) {c_Gate:Addr} (C_Gate:ClsAt K "Gate" c_Gate) (na_Gate_laid_ones:NoAttr K c_Gate "laid_ones") (F:Fun K "bad" "Gate.bad" s_Gate_bad f fd):FnOk P w K mg base CX0 1 f fd ["self"] (spF K F_Gate_bad):=by
 have sc:=sc_Gate_bad
 refine fn_F F sc_Gate_bad fun cdv A outer s H E hr=>?_
 have hu:=hu_of hr
 exact (fs_cons (fs_for rfl (fi_range2 g_range fp_int (fp_add (fp_len g_len (fp_fld C_Gate na_Gate_laid_ones (fp_var 0))) fp_int)) (fg_name 1 sc.nd) (fs_one fs_no)) (fs_one (fs_ret fp_non)))
abbrev s_Gate_stopped:Stmt:=inClass (top 48) 12
theorem sc_Gate_stopped:FnScope ["self"] ["self"] (defScope s_Gate_stopped):=⟨rfl,rfl,rfl,by decide +kernel,rfl,by decide +kernel,by decide +kernel⟩
def B_Gate_stopped:SF:=(sRet (eFld "Gate" "halted" (eVar 0)))
def F_Gate_stopped:List D→Option D:=runF 1 1 B_Gate_stopped
theorem ok_Gate_stopped {c_Gate:Addr} (C_Gate:ClsAt K "Gate" c_Gate) (na_Gate_halted:NoAttr K c_Gate "halted") (F:Fun K "stopped" "Gate.stopped" s_Gate_stopped f fd):FnOk P w K mg base CX0 1 f fd ["self"] (spF K F_Gate_stopped):=by
 have sc:=sc_Gate_stopped
 refine fn_F F sc_Gate_stopped fun cdv A outer s H E hr=>?_
 have hu:=hu_of hr
 exact (fs_one (fs_ret (fp_fld C_Gate na_Gate_halted (fp_var 0))))
abbrev s_Gate_sheet:Stmt:=inClass (top 48) 13
theorem sc_Gate_sheet:FnScope ["self"] ["self"] (defScope s_Gate_sheet):=⟨rfl,rfl,rfl,by decide +kernel,rfl,by decide +kernel,by decide +kernel⟩
def B_Gate_sheet:SF:=(sRet (eCall F_sheet_of (aCons (eFld "Gate" "known" (eVar 0)) (aCons (eFld "Gate" "on_line" (eVar 0)) aNil))))
def F_Gate_sheet:List D→Option D:=runF 1 1 B_Gate_sheet
theorem ok_Gate_sheet {c_Gate:Addr} (C_Gate:ClsAt K "Gate" c_Gate) (na_Gate_known:NoAttr K c_Gate "known") (na_Gate_on_line:NoAttr K c_Gate "on_line") (W_sheet_of:FN P w K mg base CX0 5 "sheet_of" ["changes","row"] (spF K F_sheet_of)) (F:Fun K "sheet" "Gate.sheet" s_Gate_sheet f fd):FnOk P w K mg base CX0 6 f fd ["self"] (spF K F_Gate_sheet):=by
 obtain ⟨_,_,G_sheet_of,m_sheet_of,k_sheet_of,b_sheet_of⟩:=W_sheet_of
 have sc:=sc_Gate_sheet
 refine fn_F F sc_Gate_sheet fun cdv A outer s H E hr=>?_
 have hu:=hu_of hr
 exact (fs_one (fs_ret (fp_call G_sheet_of (hr.mono (by decide)) m_sheet_of k_sheet_of b_sheet_of (fa_cons (fp_fld C_Gate na_Gate_known (fp_var 0)) (fa_cons (fp_fld C_Gate na_Gate_on_line (fp_var 0)) fa_nil)))))
abbrev s_Gate_growths:Stmt:=inClass (top 48) 14
theorem sc_Gate_growths:FnScope ["self"] ["self"] (defScope s_Gate_growths):=⟨rfl,rfl,rfl,by decide +kernel,rfl,by decide +kernel,by decide +kernel⟩
def B_Gate_growths:SF:=(sRet (e1 oList (eFld "Gate" "grown" (eVar 0))))
def F_Gate_growths:List D→Option D:=runF 1 1 B_Gate_growths
theorem ok_Gate_growths (g_list:mg "list"=none) {c_Gate:Addr} (C_Gate:ClsAt K "Gate" c_Gate) (na_Gate_grown:NoAttr K c_Gate "grown") (F:Fun K "growths" "Gate.growths" s_Gate_growths f fd):FnOk P w K mg base CX0 1 f fd ["self"] (spF K F_Gate_growths):=by
 have sc:=sc_Gate_growths
 refine fn_F F sc_Gate_growths fun cdv A outer s H E hr=>?_
 have hu:=hu_of hr
 exact (fs_one (fs_ret (fp_list g_list (fp_fld C_Gate na_Gate_grown (fp_var 0)))))
abbrev s_Gate_settled:Stmt:=inClass (top 48) 15
theorem sc_Gate_settled:FnScope ["self"] ["self"] (defScope s_Gate_settled):=⟨rfl,rfl,rfl,by decide +kernel,rfl,by decide +kernel,by decide +kernel⟩
def B_Gate_settled:SF:=(sRet (e1 oList (eFld "Gate" "ended" (eVar 0))))
def F_Gate_settled:List D→Option D:=runF 1 1 B_Gate_settled
theorem ok_Gate_settled (g_list:mg "list"=none) {c_Gate:Addr} (C_Gate:ClsAt K "Gate" c_Gate) (na_Gate_ended:NoAttr K c_Gate "ended") (F:Fun K "settled" "Gate.settled" s_Gate_settled f fd):FnOk P w K mg base CX0 1 f fd ["self"] (spF K F_Gate_settled):=by
 have sc:=sc_Gate_settled
 refine fn_F F sc_Gate_settled fun cdv A outer s H E hr=>?_
 have hu:=hu_of hr
 exact (fs_one (fs_ret (fp_list g_list (fp_fld C_Gate na_Gate_ended (fp_var 0)))))
abbrev s_Gate_settings:Stmt:=inClass (top 48) 16
theorem sc_Gate_settings:FnScope ["self"] ["self"] (defScope s_Gate_settings):=⟨rfl,rfl,rfl,by decide +kernel,rfl,by decide +kernel,by decide +kernel⟩
def B_Gate_settings:SF:=(sRet (eFld "Gate" "numbers" (eVar 0)))
def F_Gate_settings:List D→Option D:=runF 1 1 B_Gate_settings
theorem ok_Gate_settings {c_Gate:Addr} (C_Gate:ClsAt K "Gate" c_Gate) (na_Gate_numbers:NoAttr K c_Gate "numbers") (F:Fun K "settings" "Gate.settings" s_Gate_settings f fd):FnOk P w K mg base CX0 1 f fd ["self"] (spF K F_Gate_settings):=by
 have sc:=sc_Gate_settings
 refine fn_F F sc_Gate_settings fun cdv A outer s H E hr=>?_
 have hu:=hu_of hr
 exact (fs_one (fs_ret (fp_fld C_Gate na_Gate_numbers (fp_var 0))))
abbrev s_Gate_changes:Stmt:=inClass (top 48) 17
theorem sc_Gate_changes:FnScope ["self"] ["self"] (defScope s_Gate_changes):=⟨rfl,rfl,rfl,by decide +kernel,rfl,by decide +kernel,by decide +kernel⟩
def B_Gate_changes:SF:=(sRet (eMeth "Changes" "copied" F_Changes_copied (eFld "Gate" "known" (eVar 0)) aNil))
def F_Gate_changes:List D→Option D:=runF 1 1 B_Gate_changes
theorem ok_Gate_changes {c_Changes:Addr} (C_Changes:ClsAt K "Changes" c_Changes) {c_Gate:Addr} (C_Gate:ClsAt K "Gate" c_Gate) (na_Gate_known:NoAttr K c_Gate "known") (W_Changes_copied:MT P w K mg base CX0 3 c_Changes "copied" ["self"] (spF K F_Changes_copied)) (F:Fun K "changes" "Gate.changes" s_Gate_changes f fd):FnOk P w K mg base CX0 4 f fd ["self"] (spF K F_Gate_changes):=by
 obtain ⟨_,_,G_Changes_copied,b_Changes_copied,mt_Changes_copied⟩:=W_Changes_copied
 have sc:=sc_Gate_changes
 refine fn_F F sc_Gate_changes fun cdv A outer s H E hr=>?_
 have hu:=hu_of hr
 exact (fs_one (fs_ret (fp_meth0 C_Changes mt_Changes_copied G_Changes_copied (hr.mono (by decide)) b_Changes_copied (fp_fld C_Gate na_Gate_known (fp_var 0)))))
abbrev s_Gate_counts:Stmt:=inClass (top 48) 18
theorem sc_Gate_counts:FnScope ["self","yes","out_by_look"] ["self"] (defScope s_Gate_counts):=⟨rfl,rfl,rfl,by decide +kernel,rfl,by decide +kernel,by decide +kernel⟩
def B_Gate_counts:SF:=(sSeq (sSet 1 (e1 oLen (eFld "Gate" "grown" (eVar 0)))) (sSeq (sSet 2 (e1 oLen (eCompD0 (eFld "Gate" "grounds" (eVar 0))))) (sRet (eTup (aCons (eVar 1) (aCons (e2 oSub (e1 oLen (eFld "Gate" "ended" (eVar 0))) (eVar 1)) (aCons (eFld "Gate" "answers" (eVar 0)) (aCons (eVar 2) (aCons (eFld "Gate" "breaks" (eVar 0)) aNil)))))))))
def F_Gate_counts:List D→Option D:=runF 1 3 B_Gate_counts
theorem ok_Gate_counts (g_len:mg "len"=none) {c_Gate:Addr} (C_Gate:ClsAt K "Gate" c_Gate) (na_Gate_answers:NoAttr K c_Gate "answers") (na_Gate_breaks:NoAttr K c_Gate "breaks") (na_Gate_ended:NoAttr K c_Gate "ended") (na_Gate_grounds:NoAttr K c_Gate "grounds") (na_Gate_grown:NoAttr K c_Gate "grown") (F:Fun K "counts" "Gate.counts" s_Gate_counts f fd):FnOk P w K mg base CX0 1 f fd ["self"] (spF K F_Gate_counts):=by
 have sc:=sc_Gate_counts
 refine fn_F F sc_Gate_counts fun cdv A outer s H E hr=>?_
 have hu:=hu_of hr
 exact (fs_cons (fs_set 1 (fp_len g_len (fp_fld C_Gate na_Gate_grown (fp_var 0))) sc.nd) (fs_cons (fs_set 2 (fp_len g_len (fp_compD0 (M:=["number","self"]) (js:=[none,some 0]) (compScope_mk (N:=["self","yes","out_by_look"]) (osc:=defScope s_Gate_counts) rfl rfl rfl (by decide +kernel)) rfl (fp_fld C_Gate na_Gate_grounds (fp_var 0)))) sc.nd) (fs_one (fs_ret (fp_tup (fa_cons (fp_var 1) (fa_cons (fp_sub (fp_len g_len (fp_fld C_Gate na_Gate_ended (fp_var 0))) (fp_var 1)) (fa_cons (fp_fld C_Gate na_Gate_answers (fp_var 0)) (fa_cons (fp_var 2) (fa_cons (fp_fld C_Gate na_Gate_breaks (fp_var 0)) fa_nil))))))))))
abbrev s_L_take:Stmt:=top 50
theorem sc_L_take:FnScope ["_law_left","_law_many"] ["_law_left","_law_many"] (defScope s_L_take):=⟨rfl,rfl,rfl,by decide +kernel,rfl,by decide +kernel,by decide +kernel⟩
theorem ok_L_take {P:Program}{w:World}{K:PySem.W.Frag}{mg:Str→Option Value}{base:Heap}{f:Addr}{fd:FuncData} (g_len:mg "len"=none) (F:Fun K "_law_take" "_law_take" s_L_take f fd):FnOk P w K mg base CX0 1 f fd ["_law_left","_law_many"] (spM K takeG):=by
 have sc:=sc_L_take
 refine F.ok sc_L_take (fun vs H Q E h=>take_len h) fun cdv A outer s H vs Q E hr h=>?_
 exact take_ok (N:=["_law_left","_law_many"]) rfl (ft_eq (fp_len g_len (fp_var 0)) fp_int) pe_int (pe_op op_mod (pe_bm0 PySem.F.plainAttrs_list PySem.F.slot_list_pop PySem.F.type_list_pop mt_pop (pe_var (i:=0) rfl (Or.inl rfl))) (pe_var (i:=1) rfl (Or.inl rfl))) h
abbrev s_L_same:Stmt:=top 51
theorem sc_L_same:FnScope ["_law_found","_law_due"] ["_law_found","_law_due"] (defScope s_L_same):=⟨rfl,rfl,rfl,by decide +kernel,rfl,by decide +kernel,by decide +kernel⟩
def B1_L_same:SF:=(sSeq (sIf (tV (e1 (oIsiB "tuple") (eVar 1))) (sSeq (sIf (tOr2 (tNot1 (tV (e1 (oIsiB "tuple") (eVar 0)))) (tV (e2 oNe (e1 oLen (eVar 0)) (e1 oLen (eVar 1))))) (sRet (eC (.bl false))) sNx) (sRet (e1 oAll (eComp [none,some 0,some 1] (iR1 (e1 oLen (eVar 1))) (gN 0) tTrue (eCall (fun _=>none) (aCons (e2 oIx (eVar 1) (eVar 0)) (aCons (e2 oIx (eVar 2) (eVar 0)) aNil))))))) sNx) (sSeq (sIf (tV (e1 (oIsi "list") (eVar 1))) (sSeq (sIf (tOr2 (tNot1 (tV (e1 (oIsi "list") (eVar 0)))) (tV (e2 oNe (e1 oLen (eVar 0)) (e1 oLen (eVar 1))))) (sRet (eC (.bl false))) sNx) (sRet (e1 oAll (eComp [none,some 0,some 1] (iR1 (e1 oLen (eVar 1))) (gN 0) tTrue (eCall (fun _=>none) (aCons (eIx (eVar 1) (eVar 0)) (aCons (eIx (eVar 2) (eVar 0)) aNil))))))) sNx) (sSeq (sIf (tV (e2 oIsN (eVar 1) (eC .non))) (sRet (e2 oIsN (eVar 0) (eC .non))) sNx) (sSeq (sIf (tV (e1 (oIsi "str") (eVar 1))) (sRet (eAnd (e1 (oIsi "str") (eVar 0)) (e2 oEq (eVar 0) (eVar 1)))) sNx) (sRet (eAnd (e1 (oIsi "int") (eVar 0)) (eAnd (e1 oNot (e1 (oIsi "bool") (eVar 0))) (e2 oEq (eVar 0) (eVar 1)))))))))
def F1_L_same:List D→Option D:=runF 2 2 B1_L_same
def B2_L_same:SF:=(sSeq (sIf (tV (e1 (oIsiB "tuple") (eVar 1))) (sSeq (sIf (tOr2 (tNot1 (tV (e1 (oIsiB "tuple") (eVar 0)))) (tV (e2 oNe (e1 oLen (eVar 0)) (e1 oLen (eVar 1))))) (sRet (eC (.bl false))) sNx) (sRet (e1 oAll (eComp [none,some 0,some 1] (iR1 (e1 oLen (eVar 1))) (gN 0) tTrue (eCall F1_L_same (aCons (e2 oIx (eVar 1) (eVar 0)) (aCons (e2 oIx (eVar 2) (eVar 0)) aNil))))))) sNx) (sSeq (sIf (tV (e1 (oIsi "list") (eVar 1))) (sSeq (sIf (tOr2 (tNot1 (tV (e1 (oIsi "list") (eVar 0)))) (tV (e2 oNe (e1 oLen (eVar 0)) (e1 oLen (eVar 1))))) (sRet (eC (.bl false))) sNx) (sRet (e1 oAll (eComp [none,some 0,some 1] (iR1 (e1 oLen (eVar 1))) (gN 0) tTrue (eCall F1_L_same (aCons (eIx (eVar 1) (eVar 0)) (aCons (eIx (eVar 2) (eVar 0)) aNil))))))) sNx) (sSeq (sIf (tV (e2 oIsN (eVar 1) (eC .non))) (sRet (e2 oIsN (eVar 0) (eC .non))) sNx) (sSeq (sIf (tV (e1 (oIsi "str") (eVar 1))) (sRet (eAnd (e1 (oIsi "str") (eVar 0)) (e2 oEq (eVar 0) (eVar 1)))) sNx) (sRet (eAnd (e1 (oIsi "int") (eVar 0)) (eAnd (e1 oNot (e1 (oIsi "bool") (eVar 0))) (e2 oEq (eVar 0) (eVar 1)))))))))
def F2_L_same:List D→Option D:=runF 2 2 B2_L_same
abbrev F_L_same:List D→Option D:=F2_L_same
theorem ok_L_same (g_all:mg "all"=none) (g_bool:mg "bool"=none) (g_int:mg "int"=none) (g_isinstance:mg "isinstance"=none) (g_len:mg "len"=none) (g_list:mg "list"=none) (g_range:mg "range"=none) (g_str:mg "str"=none) (g_tuple:mg "tuple"=none) (m_L_same:mg "_law_same"=some (.ref f)) (k_L_same:PySem.W.keepIn K (.ref f)=true) (b_L_same:Binds K fd ["_law_found","_law_due"] []) (F:Fun K "_law_same" "_law_same" s_L_same f fd):FnOk P w K mg base CX0 3 f fd ["_law_found","_law_due"] (spF K F_L_same):=by
 have sc:=sc_L_same
 have GR_L_same:FnOk P w K mg base CX0 1 f fd ["_law_found","_law_due"] (spF K fun _=>none):=fn_none F sc_L_same
 have GR1:FnOk P w K mg base CX0 2 f fd ["_law_found","_law_due"] (spF K F1_L_same):=by
  refine fn_F F sc_L_same fun cdv A outer s H E hr=>?_
  have hu:=hu_of hr
  exact (fs_cons (fs_if (ft_val (fp_isiB isi_tuple isiB_tuple g_isinstance g_tuple (fp_var 1))) (fs_cons (fs_if (FW.ft (fw_or (ft_not (ft_val (fp_isiB isi_tuple isiB_tuple g_isinstance g_tuple (fp_var 0)))) (fw_or1 (ft_ne (fp_len g_len (fp_var 0)) (fp_len g_len (fp_var 1)))))) (fs_one (fs_ret fp_bl)) fs_nil) (fs_one (fs_ret (fp_all rfl g_all (fp_comp (M:=["_law_k","_law_found","_law_due"]) (js:=[none,some 0,some 1]) (is:=[0]) (compScope_mk (N:=["_law_found","_law_due"]) (osc:=defScope s_L_same) rfl rfl rfl (by decide +kernel)) rfl (fi_range1 g_range (fp_len g_len (fp_var 1))) (by decide) fun s3 H3 fp=>⟨(fg_name 0 (show (["_law_k","_law_found","_law_due"]:List Str).Nodup by decide +kernel)),fts_nil,(fp_call GR_L_same (hr.mono (by decide)) m_L_same k_L_same b_L_same (fa_cons (fp_ix (fp_var 1) (fp_var 0)) (fa_cons (fp_ix (fp_var 2) (fp_var 0)) fa_nil)))⟩))))) fs_nil) (fs_cons (fs_if (ft_val (fp_isi isi_list g_isinstance g_list (fp_var 1))) (fs_cons (fs_if (FW.ft (fw_or (ft_not (ft_val (fp_isi isi_list g_isinstance g_list (fp_var 0)))) (fw_or1 (ft_ne (fp_len g_len (fp_var 0)) (fp_len g_len (fp_var 1)))))) (fs_one (fs_ret fp_bl)) fs_nil) (fs_one (fs_ret (fp_all rfl g_all (fp_comp (M:=["_law_k","_law_found","_law_due"]) (js:=[none,some 0,some 1]) (is:=[0]) (compScope_mk (N:=["_law_found","_law_due"]) (osc:=defScope s_L_same) rfl rfl rfl (by decide +kernel)) rfl (fi_range1 g_range (fp_len g_len (fp_var 1))) (by decide) fun s3 H3 fp=>⟨(fg_name 0 (show (["_law_k","_law_found","_law_due"]:List Str).Nodup by decide +kernel)),fts_nil,(fp_call GR_L_same (hr.mono (by decide)) m_L_same k_L_same b_L_same (fa_cons (fp_ixP (fp_var 1) (fp_var 0)) (fa_cons (fp_ixP (fp_var 2) (fp_var 0)) fa_nil)))⟩))))) fs_nil) (fs_cons (fs_if (ft_isN (fp_var 1) fp_non) (fs_one (fs_ret (fp_isN (fp_var 0) fp_non))) fs_nil) (fs_cons (fs_if (ft_val (fp_isi isi_str g_isinstance g_str (fp_var 1))) (fs_one (fs_ret (fp_and (fp_isi isi_str g_isinstance g_str (fp_var 0)) (fp_one (fp_eq (fp_var 0) (fp_var 1)))))) fs_nil) (fs_one (fs_ret (fp_and (fp_isi isi_int g_isinstance g_int (fp_var 0)) (fp_and (fp_not (fp_isi isi_bool g_isinstance g_bool (fp_var 0))) (fp_one (fp_eq (fp_var 0) (fp_var 1)))))))))))
 clear GR_L_same
 have GR_L_same:=GR1
 refine fn_F F sc_L_same fun cdv A outer s H E hr=>?_
 have hu:=hu_of hr
 exact (fs_cons (fs_if (ft_val (fp_isiB isi_tuple isiB_tuple g_isinstance g_tuple (fp_var 1))) (fs_cons (fs_if (FW.ft (fw_or (ft_not (ft_val (fp_isiB isi_tuple isiB_tuple g_isinstance g_tuple (fp_var 0)))) (fw_or1 (ft_ne (fp_len g_len (fp_var 0)) (fp_len g_len (fp_var 1)))))) (fs_one (fs_ret fp_bl)) fs_nil) (fs_one (fs_ret (fp_all rfl g_all (fp_comp (M:=["_law_k","_law_found","_law_due"]) (js:=[none,some 0,some 1]) (is:=[0]) (compScope_mk (N:=["_law_found","_law_due"]) (osc:=defScope s_L_same) rfl rfl rfl (by decide +kernel)) rfl (fi_range1 g_range (fp_len g_len (fp_var 1))) (by decide) fun s3 H3 fp=>⟨(fg_name 0 (show (["_law_k","_law_found","_law_due"]:List Str).Nodup by decide +kernel)),fts_nil,(fp_call GR_L_same (hr.mono (by decide)) m_L_same k_L_same b_L_same (fa_cons (fp_ix (fp_var 1) (fp_var 0)) (fa_cons (fp_ix (fp_var 2) (fp_var 0)) fa_nil)))⟩))))) fs_nil) (fs_cons (fs_if (ft_val (fp_isi isi_list g_isinstance g_list (fp_var 1))) (fs_cons (fs_if (FW.ft (fw_or (ft_not (ft_val (fp_isi isi_list g_isinstance g_list (fp_var 0)))) (fw_or1 (ft_ne (fp_len g_len (fp_var 0)) (fp_len g_len (fp_var 1)))))) (fs_one (fs_ret fp_bl)) fs_nil) (fs_one (fs_ret (fp_all rfl g_all (fp_comp (M:=["_law_k","_law_found","_law_due"]) (js:=[none,some 0,some 1]) (is:=[0]) (compScope_mk (N:=["_law_found","_law_due"]) (osc:=defScope s_L_same) rfl rfl rfl (by decide +kernel)) rfl (fi_range1 g_range (fp_len g_len (fp_var 1))) (by decide) fun s3 H3 fp=>⟨(fg_name 0 (show (["_law_k","_law_found","_law_due"]:List Str).Nodup by decide +kernel)),fts_nil,(fp_call GR_L_same (hr.mono (by decide)) m_L_same k_L_same b_L_same (fa_cons (fp_ixP (fp_var 1) (fp_var 0)) (fa_cons (fp_ixP (fp_var 2) (fp_var 0)) fa_nil)))⟩))))) fs_nil) (fs_cons (fs_if (ft_isN (fp_var 1) fp_non) (fs_one (fs_ret (fp_isN (fp_var 0) fp_non))) fs_nil) (fs_cons (fs_if (ft_val (fp_isi isi_str g_isinstance g_str (fp_var 1))) (fs_one (fs_ret (fp_and (fp_isi isi_str g_isinstance g_str (fp_var 0)) (fp_one (fp_eq (fp_var 0) (fp_var 1)))))) fs_nil) (fs_one (fs_ret (fp_and (fp_isi isi_int g_isinstance g_int (fp_var 0)) (fp_and (fp_not (fp_isi isi_bool g_isinstance g_bool (fp_var 0))) (fp_one (fp_eq (fp_var 0) (fp_var 1)))))))))))
abbrev s_Gate_initR:Stmt:=inClass (top 48) 0
theorem sc_Gate_initR:FnScope ["self","width","hands","need","tries"] ["self","width","hands","need","tries"] (defScope s_Gate_initR):=⟨rfl,rfl,rfl,by decide +kernel,rfl,by decide +kernel,by decide +kernel⟩
def B_Gate_initR:SF:=(sSeq (sIf (tNot1 (tAnd2 (tV (eCall F_within (aCons (eVar 1) (aCons (eC (.int 1)) (aCons (eC (.int 16)) aNil))))) (tAnd2 (tV (eCall F_within (aCons (eVar 2) (aCons (eC (.int 1)) (aCons (eC (.int 8)) aNil))))) (tV (eCall F_makes_tally (aCons (eVar 3) (aCons (eVar 4) aNil))))))) (noRt (sRaise "NoRule" (aCons (eC (.str "these four numbers make no gate")) aNil))) sNx) (sSeq (noRt (sFldSet 0 "Gate" "numbers" (eTup (aCons (eVar 1) (aCons (eVar 2) (aCons (eVar 3) (aCons (eVar 4) aNil))))))) (sSeq (noRt (sFldSet 0 "Gate" "known" (eMake "Changes" F_Changes_init aNil))) (sSeq (noRt (sFldSet 0 "Gate" "on_line" (eLst aNil))) (sSeq (noRt (sFldSet 0 "Gate" "laid_ones" (eLst aNil))) (sSeq (noRt (sFldSet 0 "Gate" "grounds" (eC (.dic [])))) (sSeq (noRt (sFldSet 0 "Gate" "tallies" (eC (.dic [])))) (sSeq (noRt (sFldSet 0 "Gate" "looks" (eLst aNil))) (sSeq (noRt (sFldSet 0 "Gate" "halted" (eC (.bl false)))) (sSeq (noRt (sFldSet 0 "Gate" "grown" (eLst aNil))) (sSeq (noRt (sFldSet 0 "Gate" "ended" (eLst aNil))) (sSeq (noRt (sFldSet 0 "Gate" "answers" (eC (.int 0)))) (noRt (sFldSet 0 "Gate" "breaks" (eC (.int 0))))))))))))))))
def F_Gate_initR:MR:=runMR 5 5 B_Gate_initR
theorem ok_Gate_initR {t_MOST_HANDS:Tok} (m_MOST_HANDS:mg "MOST_HANDS"=some (.int 8 t_MOST_HANDS)) {t_MOST_WIDTH:Tok} (m_MOST_WIDTH:mg "MOST_WIDTH"=some (.int 16 t_MOST_WIDTH)) {c_NoRule:Addr} (m_NoRule:mg "NoRule"=some (.ref c_NoRule)) (X_NoRule:ExcCls K c_NoRule) (n_NoRule:PySem.W.nsIn K mainGlobals "NoRule"=some (some (.ref c_NoRule))) {c_Changes:Addr} (C_Changes:ClsAt K "Changes" c_Changes) {c_Gate:Addr} (C_Gate:ClsAt K "Gate" c_Gate) (na_Gate_answers:NoAttr K c_Gate "answers") (na_Gate_breaks:NoAttr K c_Gate "breaks") (na_Gate_ended:NoAttr K c_Gate "ended") (na_Gate_grounds:NoAttr K c_Gate "grounds") (na_Gate_grown:NoAttr K c_Gate "grown") (na_Gate_halted:NoAttr K c_Gate "halted") (na_Gate_known:NoAttr K c_Gate "known") (na_Gate_laid_ones:NoAttr K c_Gate "laid_ones") (na_Gate_looks:NoAttr K c_Gate "looks") (na_Gate_numbers:NoAttr K c_Gate "numbers") (na_Gate_on_line:NoAttr K c_Gate "on_line") (na_Gate_tallies:NoAttr K c_Gate "tallies") (W_makes_tally:FN P w K mg base CX0 2 "makes_tally" ["need","tries"] (spF K F_makes_tally)) (W_within:FN P w K mg base CX0 1 "within" ["value","least","most"] (spF K F_within)) (W_Changes_init:MI P w K mg base CX0 1 c_Changes ["self"] (spO K F_Changes_init)) (m_Changes:mg "Changes"=some (.ref c_Changes)) (F:Fun K "__init__" "Gate.__init__" s_Gate_initR f fd):FnOk P w K mg base (CXE P w) 3 f fd ["self","width","hands","need","tries"] (spOR K F_Gate_initR):=by
 obtain ⟨_,_,G_makes_tally,m_makes_tally,k_makes_tally,b_makes_tally⟩:=W_makes_tally
 obtain ⟨_,_,G_within,m_within,k_within,b_within⟩:=W_within
 obtain ⟨_,_,G_Changes_init,b_Changes_init,M_Changes⟩:=W_Changes_init
 have sc:=sc_Gate_initR
 refine fn_MR F sc_Gate_initR rfl (by decide) fun cdv A outer s H E hr=>?_
 have hu:=hu_of hr
 exact (fm_cons (fm_if (ft_not (FW.ft (fw_and (ft_val (fp_call G_within (hr.mono (by decide)) m_within k_within b_within (fa_cons (fp_var 1) (fa_cons fp_int (fa_cons (fp_globI m_MOST_WIDTH) fa_nil))))) (fw_and (ft_val (fp_call G_within (hr.mono (by decide)) m_within k_within b_within (fa_cons (fp_var 2) (fa_cons fp_int (fa_cons (fp_globI m_MOST_HANDS) fa_nil))))) (fw_and1 (ft_val (fp_call G_makes_tally (hr.mono (by decide)) m_makes_tally k_makes_tally b_makes_tally (fa_cons (fp_var 3) (fa_cons (fp_var 4) fa_nil))))))))) (fm_one (fm_of (fs_raise rfl X_NoRule n_NoRule m_NoRule (fa_cons fp_str fa_nil)))) fm_nil) (fm_cons (fm_of (fs_fldSet 0 C_Gate na_Gate_numbers (fp_tup (fa_cons (fp_var 1) (fa_cons (fp_var 2) (fa_cons (fp_var 3) (fa_cons (fp_var 4) fa_nil))))))) (fm_cons (fm_of (fs_fldSet 0 C_Gate na_Gate_known (fp_make0 C_Changes.ns M_Changes G_Changes_init (hr.mono (by decide)) m_Changes b_Changes_init))) (fm_cons (fm_of (fs_fldSet 0 C_Gate na_Gate_on_line (fp_lst fa_nil))) (fm_cons (fm_of (fs_fldSet 0 C_Gate na_Gate_laid_ones (fp_lst fa_nil))) (fm_cons (fm_of (fs_fldSet 0 C_Gate na_Gate_grounds fp_dnew)) (fm_cons (fm_of (fs_fldSet 0 C_Gate na_Gate_tallies fp_dnew)) (fm_cons (fm_of (fs_fldSet 0 C_Gate na_Gate_looks (fp_lst fa_nil))) (fm_cons (fm_of (fs_fldSet 0 C_Gate na_Gate_halted fp_bl)) (fm_cons (fm_of (fs_fldSet 0 C_Gate na_Gate_grown (fp_lst fa_nil))) (fm_cons (fm_of (fs_fldSet 0 C_Gate na_Gate_ended (fp_lst fa_nil))) (fm_cons (fm_of (fs_fldSet 0 C_Gate na_Gate_answers fp_int)) (fm_one (fm_of (fs_fldSet 0 C_Gate na_Gate_breaks fp_int)))))))))))))))
abbrev s_L_refused:Stmt:=top 52
theorem sc_L_refused:FnScope ["_law_some","_law_word","e","_law_other"] ["_law_some"] (defScope s_L_refused):=⟨rfl,rfl,rfl,by decide +kernel,rfl,by decide +kernel,by decide +kernel⟩
def B_L_refused:SF:=(sSeq (sSet 1 (eTup aNil)) (sSeq (sTryAs 2 (subOf ["NoRule"]) (sExprE (xMakeR "Gate" F_Gate_initR (aCons (e2 oIx (eVar 0) (eC (.int 0))) (aCons (e2 oIx (eVar 0) (eC (.int 1))) (aCons (e2 oIx (eVar 0) (eC (.int 2))) (aCons (e2 oIx (eVar 0) (eC (.int 3))) aNil)))))) (sSeq (sSet 3 (e1 (oIsE [("NoRule",false)]) (eVar 2))) (sSet 1 (eTup (aCons (e1 (oIsE [("NoRule",true)]) (eVar 2)) (aCons (e1 (oIsE [("NoRule",true)]) (eVar 2)) (aCons (eVar 3) aNil))))))) (sRet (e2 oEqP (eVar 1) (eTup (aCons (eC (.bl true)) (aCons (eC (.bl true)) (aCons (eC (.bl false)) aNil))))))))
def F_L_refused:List D→Option D:=runF 1 4 B_L_refused
theorem ok_L_refused (g_ValueError:mg "ValueError"=none) (g_isinstance:mg "isinstance"=none) {c_LinegateError:Addr} (m_LinegateError:mg "LinegateError"=some (.ref c_LinegateError)) {c_NoAnswer:Addr} (m_NoAnswer:mg "NoAnswer"=some (.ref c_NoAnswer)) {c_NoChange:Addr} (m_NoChange:mg "NoChange"=some (.ref c_NoChange)) {c_NoFit:Addr} (m_NoFit:mg "NoFit"=some (.ref c_NoFit)) {c_NoLook:Addr} (m_NoLook:mg "NoLook"=some (.ref c_NoLook)) {c_NoRow:Addr} (m_NoRow:mg "NoRow"=some (.ref c_NoRow)) {c_NoRule:Addr} (m_NoRule:mg "NoRule"=some (.ref c_NoRule)) {c_NoText:Addr} (m_NoText:mg "NoText"=some (.ref c_NoText)) {c_TooLate:Addr} (m_TooLate:mg "TooLate"=some (.ref c_TooLate)) {c_TooMany:Addr} (m_TooMany:mg "TooMany"=some (.ref c_TooMany)) (CT_LinegateError:CatchT K ["NoRule"] c_LinegateError) (KT_NoAnswer:KitT K [("NoRule",false)] (.ref c_NoAnswer)) (KT_NoChange:KitT K [("NoRule",false)] (.ref c_NoChange)) (KT_NoFit:KitT K [("NoRule",false)] (.ref c_NoFit)) (KT_NoLook:KitT K [("NoRule",false)] (.ref c_NoLook)) (KT_NoRow:KitT K [("NoRule",false)] (.ref c_NoRow)) (KT_NoRule:KitT K [("NoRule",true)] (.ref c_NoRule)) (KT_NoText:KitT K [("NoRule",false)] (.ref c_NoText)) (KT_TooLate:KitT K [("NoRule",false)] (.ref c_TooLate)) (KT_TooMany:KitT K [("NoRule",false)] (.ref c_TooMany)) (KT_ValueError:KitT K [("NoRule",true)] (.type "ValueError")) (KTT:KitTs K [("NoRule",false)] [c_NoAnswer,c_NoChange,c_NoFit,c_NoLook,c_NoRow,c_NoText,c_TooLate,c_TooMany]) {c_Gate:Addr} (C_Gate:ClsAt K "Gate" c_Gate) (W_Gate_initR:MI P w K mg base (CXE P w) 3 c_Gate ["self","width","hands","need","tries"] (spOR K F_Gate_initR)) (m_Gate:mg "Gate"=some (.ref c_Gate)) (F:Fun K "_law_refused" "_law_refused" s_L_refused f fd):FnOk P w K mg base CX0 5 f fd ["_law_some"] (spF K F_L_refused):=by
 obtain ⟨_,_,G_Gate_initR,b_Gate_initR,M_Gate⟩:=W_Gate_initR
 have sc:=sc_L_refused
 refine fn_F F sc_L_refused fun cdv A outer s H E hr=>?_
 have hu:=hu_of hr
 exact (fs_cons (fs_set 1 (fp_tup fa_nil) sc.nd) (fs_cons (fs_try_as 2 (fun pins R=>(fs_one (fs_exprE (fe_make C_Gate.ns M_Gate G_Gate_initR (hr.mono (by decide)) m_Gate b_Gate_initR (fa_cons (fp_ix (fp_var 0) fp_int) (fa_cons (fp_ix (fp_var 0) fp_int) (fa_cons (fp_ix (fp_var 0) fp_int) (fa_cons (fp_ix (fp_var 0) fp_int) fa_nil)))))))) (fun a=>(fs_cons (fs_set 3 (fp_isET KTT g_isinstance (fp_var 2) (pa_cons (pe_own rfl m_NoAnswer) (pa_cons (pe_own rfl m_NoChange) (pa_cons (pe_own rfl m_NoFit) (pa_cons (pe_own rfl m_NoLook) (pa_cons (pe_own rfl m_NoRow) (pa_cons (pe_own rfl m_NoText) (pa_cons (pe_own rfl m_TooLate) (pa_cons (pe_own rfl m_TooMany) pa_nil)))))))) (fun _ _ _ q=>q) (by show (8:Nat)≤1000;decide)) sc.nd) (fs_one (fs_set 1 (fp_tup (fa_cons (fp_isE KT_NoRule g_isinstance m_NoRule (fp_var 2)) (fa_cons (fp_isEB KT_ValueError g_isinstance g_ValueError (fp_var 2)) (fa_cons (fp_var 3) fa_nil)))) sc.nd)))) CT_LinegateError m_LinegateError sc.nd) (fs_one (fs_ret (fp_eqP hr.units (fp_var 1) (fp_tup (fa_cons fp_bl (fa_cons fp_bl (fa_cons fp_bl fa_nil)))))))))
abbrev s_L_within:Stmt:=top 53
theorem sc_L_within:FnScope ["_law_left","_law_width","_law_hands","_law_tries","_law_need"] ["_law_left"] (defScope s_L_within):=⟨rfl,rfl,rfl,by decide +kernel,rfl,by decide +kernel,by decide +kernel⟩
def B_L_within:SF:=(sSeq (noRt (sSetX 1 (xIx (xaCons (xP (eC (.int 1))) (xaCons (xP (eC (.int 16))) (xaCons (x2 oAdd (xP (eC (.int 1))) (xM 0 takeG (xaCons (xP (eC (.int 16))) xaNil))) xaNil))) (xM 0 takeG (xaCons (xP (eC (.int 3))) xaNil))))) (sSeq (noRt (sSetX 2 (xIx (xaCons (xP (eC (.int 1))) (xaCons (xP (eC (.int 8))) (xaCons (x2 oAdd (xP (eC (.int 1))) (xM 0 takeG (xaCons (xP (eC (.int 8))) xaNil))) xaNil))) (xM 0 takeG (xaCons (xP (eC (.int 3))) xaNil))))) (sSeq (noRt (sSetX 3 (xIx (xaCons (xP (eC (.int 1))) (xaCons (xP (eC (.int 20))) (xaCons (x2 oAdd (xP (eC (.int 1))) (xM 0 takeG (xaCons (xP (eC (.int 20))) xaNil))) xaNil))) (xM 0 takeG (xaCons (xP (eC (.int 3))) xaNil))))) (sSeq (noRt (sSetX 4 (xIx (xaCons (xP (eC (.int 1))) (xaCons (xP (eVar 3)) (xaCons (x2 oAdd (xP (eC (.int 1))) (xM 0 takeG (xaCons (xP (eVar 3)) xaNil))) xaNil))) (xM 0 takeG (xaCons (xP (eC (.int 3))) xaNil))))) (sRetQ (eLstI (aCons (eVar 1) (aCons (eVar 2) (aCons (eVar 4) (aCons (eVar 3) aNil))))))))))
def F_L_within:MF:=runM 1 5 B_L_within
theorem ok_L_within (W_L_take:FN P w K mg base CX0 1 "_law_take" ["_law_left","_law_many"] (spM K takeG)) (F:Fun K "_law_within" "_law_within" s_L_within f fd):FnOk P w K mg base CX0 2 f fd ["_law_left"] (spP K F_L_within):=by
 obtain ⟨_,_,G_L_take,m_L_take,k_L_take,b_L_take⟩:=W_L_take
 have sc:=sc_L_within
 refine fn_P F sc_L_within rfl (by decide) fun cdv A outer s H E hr=>?_
 have hu:=hu_of hr
 exact (fq_cons (fq_fm (fm_of (fs_setX 1 (fx_ix (fxa_cons (fx_fp fp_int) (fxa_cons (fx_fp fp_int) (fxa_cons (fx_add (fx_fp fp_int) (fx_callM 0 G_L_take (hr.mono (by decide)) m_L_take k_L_take b_L_take (fxa_cons (fx_fp fp_int) fxa_nil))) fxa_nil))) (fx_callM 0 G_L_take (hr.mono (by decide)) m_L_take k_L_take b_L_take (fxa_cons (fx_fp fp_int) fxa_nil))) sc.nd))) (fq_cons (fq_fm (fm_of (fs_setX 2 (fx_ix (fxa_cons (fx_fp fp_int) (fxa_cons (fx_fp fp_int) (fxa_cons (fx_add (fx_fp fp_int) (fx_callM 0 G_L_take (hr.mono (by decide)) m_L_take k_L_take b_L_take (fxa_cons (fx_fp fp_int) fxa_nil))) fxa_nil))) (fx_callM 0 G_L_take (hr.mono (by decide)) m_L_take k_L_take b_L_take (fxa_cons (fx_fp fp_int) fxa_nil))) sc.nd))) (fq_cons (fq_fm (fm_of (fs_setX 3 (fx_ix (fxa_cons (fx_fp fp_int) (fxa_cons (fx_fp fp_int) (fxa_cons (fx_add (fx_fp fp_int) (fx_callM 0 G_L_take (hr.mono (by decide)) m_L_take k_L_take b_L_take (fxa_cons (fx_fp fp_int) fxa_nil))) fxa_nil))) (fx_callM 0 G_L_take (hr.mono (by decide)) m_L_take k_L_take b_L_take (fxa_cons (fx_fp fp_int) fxa_nil))) sc.nd))) (fq_cons (fq_fm (fm_of (fs_setX 4 (fx_ix (fxa_cons (fx_fp fp_int) (fxa_cons (fx_fp (fp_var 3)) (fxa_cons (fx_add (fx_fp fp_int) (fx_callM 0 G_L_take (hr.mono (by decide)) m_L_take k_L_take b_L_take (fxa_cons (fx_fp (fp_var 3)) fxa_nil))) fxa_nil))) (fx_callM 0 G_L_take (hr.mono (by decide)) m_L_take k_L_take b_L_take (fxa_cons (fx_fp fp_int) fxa_nil))) sc.nd))) (fq_one (fq_ret (fp_lstI (fa_cons (fp_var 1) (fa_cons (fp_var 2) (fa_cons (fp_var 4) (fa_cons (fp_var 3) fa_nil)))))))))))
abbrev s_L_new:Stmt:=top 54
theorem sc_L_new:FnScope ["_law_gate","_law_settings","_law_lists","_law_one","_law_changes"] ["_law_gate","_law_settings"] (defScope s_L_new):=⟨rfl,rfl,rfl,by decide +kernel,rfl,by decide +kernel,by decide +kernel⟩
def B_L_new:SF:=(sSeq (sSet 2 (eLst (aCons (eMeth "Gate" "line" F_Gate_line (eVar 0) aNil) (aCons (eMeth "Gate" "laid" F_Gate_laid (eVar 0) aNil) (aCons (eMeth "Gate" "waiting" F_Gate_waiting (eVar 0) aNil) (aCons (eMeth "Gate" "outs" F_Gate_outs (eVar 0) aNil) (aCons (eMeth "Gate" "wanted" F_Gate_wanted (eVar 0) aNil) (aCons (eMeth "Gate" "growths" F_Gate_growths (eVar 0) aNil) (aCons (eMeth "Gate" "settled" F_Gate_settled (eVar 0) aNil) aNil))))))))) (sSeq (sAppO 2 (eMeth "Gate" "sheet" F_Gate_sheet (eVar 0) aNil)) (sSeq (sIf (tOr2 (tNot1 (tV (eCall F_L_same (aCons (eVar 2) (aCons (eLst (aCons (eLst aNil) (aCons (eLst aNil) (aCons (eLst aNil) (aCons (eLst aNil) (aCons (eLst aNil) (aCons (eLst aNil) (aCons (eLst aNil) (aCons (eLst aNil) aNil))))))))) aNil))))) (tNot1 (tV (eCall F_L_same (aCons (eMeth "Gate" "settings" F_Gate_settings (eVar 0) aNil) (aCons (e1 oTuple (eVar 1)) aNil)))))) (sRet (eC (.bl false))) sNx) (sSeq (sIf (tOr2 (tV (e2 oNotN (eMeth "Gate" "bad" F_Gate_bad (eVar 0) aNil) (eC .non))) (tOr2 (tV (e2 oIsnB (eMeth "Gate" "stopped" F_Gate_stopped (eVar 0) aNil) (eC (.bl false)))) (tNot1 (tV (eCall F_L_same (aCons (eMeth "Gate" "counts" F_Gate_counts (eVar 0) aNil) (aCons (eTup (aCons (eC (.int 0)) (aCons (eC (.int 0)) (aCons (eC (.int 0)) (aCons (eC (.int 0)) (aCons (eC (.int 0)) aNil)))))) aNil))))))) (sRet (eC (.bl false))) sNx) (sSeq (sAppEach 2 3 (.tup [.int 1,.int 2])) (sSeq (sSet 4 (eMeth "Gate" "changes" F_Gate_changes (eVar 0) aNil)) (sRetX (xAndZ (eCall F_L_same (aCons (eMeth "Changes" "many" F_Changes_many (eVar 4) aNil) (aCons (eC (.int 0)) aNil))) (xEqZ (xO 4 "Changes" "added" F_Changes_added (aCons (eC (.int 3)) (aCons (eLst aNil) (aCons (eLst (aCons (eTup (aCons (eC (.int 5)) (aCons (eC (.int 0)) (aCons (eC (.int 7)) aNil)))) aNil)) aNil)))) (eC (.int 1)))))))))))
def F_L_new:List D→Option D:=runF 2 5 B_L_new
theorem ok_L_new (g_tuple:mg "tuple"=none) {c_Changes:Addr} (C_Changes:ClsAt K "Changes" c_Changes) {c_Gate:Addr} (C_Gate:ClsAt K "Gate" c_Gate) (W_Gate_settled:MT P w K mg base CX0 1 c_Gate "settled" ["self"] (spF K F_Gate_settled)) (W_Gate_growths:MT P w K mg base CX0 1 c_Gate "growths" ["self"] (spF K F_Gate_growths)) (W_Gate_wanted:MT P w K mg base CX0 1 c_Gate "wanted" ["self"] (spF K F_Gate_wanted)) (W_Gate_outs:MT P w K mg base CX0 1 c_Gate "outs" ["self"] (spF K F_Gate_outs)) (W_Gate_waiting:MT P w K mg base CX0 2 c_Gate "waiting" ["self"] (spF K F_Gate_waiting)) (W_Gate_laid:MT P w K mg base CX0 1 c_Gate "laid" ["self"] (spF K F_Gate_laid)) (W_Gate_line:MT P w K mg base CX0 1 c_Gate "line" ["self"] (spF K F_Gate_line)) (W_Gate_sheet:MT P w K mg base CX0 6 c_Gate "sheet" ["self"] (spF K F_Gate_sheet)) (W_L_same:FN P w K mg base CX0 3 "_law_same" ["_law_found","_law_due"] (spF K F_L_same)) (W_Gate_settings:MT P w K mg base CX0 1 c_Gate "settings" ["self"] (spF K F_Gate_settings)) (W_Gate_counts:MT P w K mg base CX0 1 c_Gate "counts" ["self"] (spF K F_Gate_counts)) (W_Gate_stopped:MT P w K mg base CX0 1 c_Gate "stopped" ["self"] (spF K F_Gate_stopped)) (W_Gate_bad:MT P w K mg base CX0 1 c_Gate "bad" ["self"] (spF K F_Gate_bad)) (W_Gate_changes:MT P w K mg base CX0 4 c_Gate "changes" ["self"] (spF K F_Gate_changes)) (W_Changes_added:MT P w K mg base CX0 4 c_Changes "added" ["self","rank","leans","edits"] (spO K F_Changes_added)) (W_Changes_many:MT P w K mg base CX0 1 c_Changes "many" ["self"] (spF K F_Changes_many)) (F:Fun K "_law_new" "_law_new" s_L_new f fd):FnOk P w K mg base CX0 7 f fd ["_law_gate","_law_settings"] (spF K F_L_new):=by
 obtain ⟨_,_,G_Gate_settled,b_Gate_settled,mt_Gate_settled⟩:=W_Gate_settled
 obtain ⟨_,_,G_Gate_growths,b_Gate_growths,mt_Gate_growths⟩:=W_Gate_growths
 obtain ⟨_,_,G_Gate_wanted,b_Gate_wanted,mt_Gate_wanted⟩:=W_Gate_wanted
 obtain ⟨_,_,G_Gate_outs,b_Gate_outs,mt_Gate_outs⟩:=W_Gate_outs
 obtain ⟨_,_,G_Gate_waiting,b_Gate_waiting,mt_Gate_waiting⟩:=W_Gate_waiting
 obtain ⟨_,_,G_Gate_laid,b_Gate_laid,mt_Gate_laid⟩:=W_Gate_laid
 obtain ⟨_,_,G_Gate_line,b_Gate_line,mt_Gate_line⟩:=W_Gate_line
 obtain ⟨_,_,G_Gate_sheet,b_Gate_sheet,mt_Gate_sheet⟩:=W_Gate_sheet
 obtain ⟨_,_,G_L_same,m_L_same,k_L_same,b_L_same⟩:=W_L_same
 obtain ⟨_,_,G_Gate_settings,b_Gate_settings,mt_Gate_settings⟩:=W_Gate_settings
 obtain ⟨_,_,G_Gate_counts,b_Gate_counts,mt_Gate_counts⟩:=W_Gate_counts
 obtain ⟨_,_,G_Gate_stopped,b_Gate_stopped,mt_Gate_stopped⟩:=W_Gate_stopped
 obtain ⟨_,_,G_Gate_bad,b_Gate_bad,mt_Gate_bad⟩:=W_Gate_bad
 obtain ⟨_,_,G_Gate_changes,b_Gate_changes,mt_Gate_changes⟩:=W_Gate_changes
 obtain ⟨_,_,G_Changes_added,b_Changes_added,mt_Changes_added⟩:=W_Changes_added
 obtain ⟨_,_,G_Changes_many,b_Changes_many,mt_Changes_many⟩:=W_Changes_many
 have sc:=sc_L_new
 refine fn_F F sc_L_new fun cdv A outer s H E hr=>?_
 have hu:=hu_of hr
 exact (fs_cons (fs_set 2 (fp_lst (fa_cons (fp_meth0 C_Gate mt_Gate_line G_Gate_line (hr.mono (by decide)) b_Gate_line (fp_var 0)) (fa_cons (fp_meth0 C_Gate mt_Gate_laid G_Gate_laid (hr.mono (by decide)) b_Gate_laid (fp_var 0)) (fa_cons (fp_meth0 C_Gate mt_Gate_waiting G_Gate_waiting (hr.mono (by decide)) b_Gate_waiting (fp_var 0)) (fa_cons (fp_meth0 C_Gate mt_Gate_outs G_Gate_outs (hr.mono (by decide)) b_Gate_outs (fp_var 0)) (fa_cons (fp_meth0 C_Gate mt_Gate_wanted G_Gate_wanted (hr.mono (by decide)) b_Gate_wanted (fp_var 0)) (fa_cons (fp_meth0 C_Gate mt_Gate_growths G_Gate_growths (hr.mono (by decide)) b_Gate_growths (fp_var 0)) (fa_cons (fp_meth0 C_Gate mt_Gate_settled G_Gate_settled (hr.mono (by decide)) b_Gate_settled (fp_var 0)) fa_nil)))))))) sc.nd) (fs_cons (fs_appO 2 (fp_meth0 C_Gate mt_Gate_sheet G_Gate_sheet (hr.mono (by decide)) b_Gate_sheet (fp_var 0))) (fs_cons (fs_if (FW.ft (fw_or (ft_not (ft_val (fp_call G_L_same (hr.mono (by decide)) m_L_same k_L_same b_L_same (fa_cons (fp_var 2) (fa_cons (fp_lst (fa_cons (fp_lst fa_nil) (fa_cons (fp_lst fa_nil) (fa_cons (fp_lst fa_nil) (fa_cons (fp_lst fa_nil) (fa_cons (fp_lst fa_nil) (fa_cons (fp_lst fa_nil) (fa_cons (fp_lst fa_nil) (fa_cons (fp_lst fa_nil) fa_nil))))))))) fa_nil))))) (fw_or1 (ft_not (ft_val (fp_call G_L_same (hr.mono (by decide)) m_L_same k_L_same b_L_same (fa_cons (fp_meth0 C_Gate mt_Gate_settings G_Gate_settings (hr.mono (by decide)) b_Gate_settings (fp_var 0)) (fa_cons (fp_tuple g_tuple (fp_var 1)) fa_nil)))))))) (fs_one (fs_ret fp_bl)) fs_nil) (fs_cons (fs_if (FW.ft (fw_or (ft_notN (fp_meth0 C_Gate mt_Gate_bad G_Gate_bad (hr.mono (by decide)) b_Gate_bad (fp_var 0)) fp_non) (fw_or (ft_isnB (fp_meth0 C_Gate mt_Gate_stopped G_Gate_stopped (hr.mono (by decide)) b_Gate_stopped (fp_var 0)) fp_bl) (fw_or1 (ft_not (ft_val (fp_call G_L_same (hr.mono (by decide)) m_L_same k_L_same b_L_same (fa_cons (fp_meth0 C_Gate mt_Gate_counts G_Gate_counts (hr.mono (by decide)) b_Gate_counts (fp_var 0)) (fa_cons (fp_tup (fa_cons fp_int (fa_cons fp_int (fa_cons fp_int (fa_cons fp_int (fa_cons fp_int fa_nil)))))) fa_nil))))))))) (fs_one (fs_ret fp_bl)) fs_nil) (fs_cons (fs_appEach 2 3 (by decide) sc.nd rfl (fp_tup (fa_cons fp_int (fa_cons fp_int fa_nil))) (fun _=>rfl)) (fs_cons (fs_set 4 (fp_meth0 C_Gate mt_Gate_changes G_Gate_changes (hr.mono (by decide)) b_Gate_changes (fp_var 0)) sc.nd) (fs_one (fs_retX (fz_and (fp_call G_L_same (hr.mono (by decide)) m_L_same k_L_same b_L_same (fa_cons (fp_meth0 C_Changes mt_Changes_many G_Changes_many (hr.mono (by decide)) b_Changes_many (fp_var 4)) (fa_cons fp_int fa_nil))) (fz_eq (fz_meth 4 C_Changes mt_Changes_added G_Changes_added (hr.mono (by decide)) b_Changes_added (fa_cons fp_int (fa_cons (fp_lst fa_nil) (fa_cons (fp_lst (fa_cons (fp_tup (fa_cons fp_int (fa_cons fp_int (fa_cons fp_int fa_nil)))) fa_nil)) fa_nil)))) fp_int))))))))))
abbrev s_law:Stmt:=top 55
theorem sc_law:FnScope ["_law_script","_law_left","_law_some","_law_others","_law_far","_law_at","_law_bad","_law_gate","_law_other","_law_turn"] ["_law_script"] (defScope s_law):=⟨rfl,rfl,rfl,by decide +kernel,rfl,by decide +kernel,by decide +kernel⟩
def B_law:SF:=(sSeq (sSet 1 (e1 oRev (e1 (oCut none (some 200)) (eVar 0)))) (sSeq (sSetE 2 (xCallP 1 F_L_within aNil)) (sSeq (sSetE 3 (xCallP 1 F_L_within aNil)) (sSeq (sSetX 4 (xIx (xaCons (xP (eC (.int 0))) (xaCons (xP (eC (.int 1))) (xaCons (xP (e2 oPow (eC (.int 10)) (eC (.int 20)))) xaNil))) (xM 1 takeG (xaCons (xP (eC (.int 3))) xaNil)))) (sSeq (sSetX 5 (xM 1 takeG (xaCons (xP (eC (.int 7))) xaNil))) (sSeq (sSet 6 (e1 oList (eVar 2))) (sSeq (sIf (tV (e2 oLt (eVar 5) (eC (.int 4)))) (sLset 6 (eVar 5) (e1 oNeg (eVar 4))) sNx) (sSeq (sIf (tV (e2 oEq (eVar 5) (eC (.int 4)))) (sLset 6 (eC (.int 0)) (e2 oAdd (eC (.int 17)) (eVar 4))) sNx) (sSeq (sIf (tV (e2 oEq (eVar 5) (eC (.int 5)))) (sLset 6 (eC (.int 1)) (e2 oAdd (eC (.int 9)) (eVar 4))) sNx) (sSeq (sIf (tV (e2 oEq (eVar 5) (eC (.int 6)))) (sLsetX 6 (eC (.int 3)) (xIx (xaCons (xP (e2 oAdd (eC (.int 21)) (eVar 4))) (xaCons (xP (e2 oSub (e2 oIx (eVar 6) (eC (.int 2))) (eC (.int 1)))) xaNil)) (xM 1 takeG (xaCons (xP (eC (.int 2))) xaNil)))) sNx) (sSeq (sIf (tNot1 (tV (eCall F_L_refused (aCons (eVar 6) aNil)))) (sRet (eC (.bl false))) sNx) (sSeq (sSet 7 (eMake "Gate" F_Gate_init (aCons (e2 oIx (eVar 2) (eC (.int 0))) (aCons (e2 oIx (eVar 2) (eC (.int 1))) (aCons (e2 oIx (eVar 2) (eC (.int 2))) (aCons (e2 oIx (eVar 2) (eC (.int 3))) aNil)))))) (sSeq (sSet 8 (eMake "Gate" F_Gate_init (aCons (e2 oIx (eVar 3) (eC (.int 0))) (aCons (e2 oIx (eVar 3) (eC (.int 1))) (aCons (e2 oIx (eVar 3) (eC (.int 2))) (aCons (e2 oIx (eVar 3) (eC (.int 3))) aNil)))))) (sSeq (sFor (iR1 (eC (.int 2))) (gN 9) (sIf (tOr2 (tNot1 (tV (eCall F_L_new (aCons (eVar 7) (aCons (eVar 2) aNil))))) (tNot1 (tV (eCall F_L_new (aCons (eVar 8) (aCons (eVar 3) aNil)))))) (sRet (eC (.bl false))) sNx)) (sRet (eC (.bl true)))))))))))))))))
def F_law:List D→Option D:=runF 1 10 B_law
theorem ok_law (g_list:mg "list"=none) (g_range:mg "range"=none) (g_reversed:mg "reversed"=none) {c_Gate:Addr} (C_Gate:ClsAt K "Gate" c_Gate) (W_L_within:FN P w K mg base CX0 2 "_law_within" ["_law_left"] (spP K F_L_within)) (W_L_take:FN P w K mg base CX0 1 "_law_take" ["_law_left","_law_many"] (spM K takeG)) (W_L_refused:FN P w K mg base CX0 5 "_law_refused" ["_law_some"] (spF K F_L_refused)) (W_Gate_init:MI P w K mg base CX0 3 c_Gate ["self","width","hands","need","tries"] (spO K F_Gate_init)) (m_Gate:mg "Gate"=some (.ref c_Gate)) (W_L_new:FN P w K mg base CX0 7 "_law_new" ["_law_gate","_law_settings"] (spF K F_L_new)) (F:Fun K "law" "law" s_law f fd):FnOk P w K mg base CX0 8 f fd ["_law_script"] (spF K F_law):=by
 obtain ⟨_,_,G_L_within,m_L_within,k_L_within,b_L_within⟩:=W_L_within
 obtain ⟨_,_,G_L_take,m_L_take,k_L_take,b_L_take⟩:=W_L_take
 obtain ⟨_,_,G_L_refused,m_L_refused,k_L_refused,b_L_refused⟩:=W_L_refused
 obtain ⟨_,_,G_Gate_init,b_Gate_init,M_Gate⟩:=W_Gate_init
 obtain ⟨_,_,G_L_new,m_L_new,k_L_new,b_L_new⟩:=W_L_new
 have sc:=sc_law
 refine fn_F F sc_law fun cdv A outer s H E hr=>?_
 have hu:=hu_of hr
 exact (fs_cons (fs_set 1 (fp_rev rfl g_list g_reversed (fp_cut pc_none pc_int (fp_var 0))) sc.nd) (fs_cons (fs_setE 2 (fe_callP 1 G_L_within (hr.mono (by decide)) m_L_within k_L_within b_L_within fa_nil) sc.nd) (fs_cons (fs_setE 3 (fe_callP 1 G_L_within (hr.mono (by decide)) m_L_within k_L_within b_L_within fa_nil) sc.nd) (fs_cons (fs_setX 4 (fx_ix (fxa_cons (fx_fp fp_int) (fxa_cons (fx_fp fp_int) (fxa_cons (fx_fp (fp_pow fp_int fp_int)) fxa_nil))) (fx_callM 1 G_L_take (hr.mono (by decide)) m_L_take k_L_take b_L_take (fxa_cons (fx_fp fp_int) fxa_nil))) sc.nd) (fs_cons (fs_setX 5 (fx_callM 1 G_L_take (hr.mono (by decide)) m_L_take k_L_take b_L_take (fxa_cons (fx_fp fp_int) fxa_nil)) sc.nd) (fs_cons (fs_set 6 (fp_list g_list (fp_var 2)) sc.nd) (fs_cons (fs_if (ft_lt (fp_var 5) fp_int) (fs_one (fs_lset 6 (fp_var 5) (fp_neg (fp_var 4)))) fs_nil) (fs_cons (fs_if (ft_eq (fp_var 5) fp_int) (fs_one (fs_lset 6 fp_int (fp_add fp_int (fp_var 4)))) fs_nil) (fs_cons (fs_if (ft_eq (fp_var 5) fp_int) (fs_one (fs_lset 6 fp_int (fp_add fp_int (fp_var 4)))) fs_nil) (fs_cons (fs_if (ft_eq (fp_var 5) fp_int) (fs_one (fs_lsetX 6 fp_int (fx_ix (fxa_cons (fx_fp (fp_add fp_int (fp_var 4))) (fxa_cons (fx_fp (fp_sub (fp_ix (fp_var 6) fp_int) fp_int)) fxa_nil)) (fx_callM 1 G_L_take (hr.mono (by decide)) m_L_take k_L_take b_L_take (fxa_cons (fx_fp fp_int) fxa_nil))))) fs_nil) (fs_cons (fs_if (ft_not (ft_val (fp_call G_L_refused (hr.mono (by decide)) m_L_refused k_L_refused b_L_refused (fa_cons (fp_var 6) fa_nil)))) (fs_one (fs_ret fp_bl)) fs_nil) (fs_cons (fs_set 7 (fp_make C_Gate.ns M_Gate G_Gate_init (hr.mono (by decide)) m_Gate b_Gate_init (fa_cons (fp_ix (fp_var 2) fp_int) (fa_cons (fp_ix (fp_var 2) fp_int) (fa_cons (fp_ix (fp_var 2) fp_int) (fa_cons (fp_ix (fp_var 2) fp_int) fa_nil))))) sc.nd) (fs_cons (fs_set 8 (fp_make C_Gate.ns M_Gate G_Gate_init (hr.mono (by decide)) m_Gate b_Gate_init (fa_cons (fp_ix (fp_var 3) fp_int) (fa_cons (fp_ix (fp_var 3) fp_int) (fa_cons (fp_ix (fp_var 3) fp_int) (fa_cons (fp_ix (fp_var 3) fp_int) fa_nil))))) sc.nd) (fs_cons (fs_for rfl (fi_range1 g_range fp_int) (fg_name 9 sc.nd) (fs_one (fs_if (FW.ft (fw_or (ft_not (ft_val (fp_call G_L_new (hr.mono (by decide)) m_L_new k_L_new b_L_new (fa_cons (fp_var 7) (fa_cons (fp_var 2) fa_nil))))) (fw_or1 (ft_not (ft_val (fp_call G_L_new (hr.mono (by decide)) m_L_new k_L_new b_L_new (fa_cons (fp_var 8) (fa_cons (fp_var 3) fa_nil)))))))) (fs_one (fs_ret fp_bl)) fs_nil))) (fs_one (fs_ret fp_bl))))))))))))))))
end K41
namespace K41
open PySem L2 L2.Ev
theorem f_within {v a b:Int}:F_within [.int v,.int a,.int b]=some (.bl (decide (a≤v)&&decide (v≤b))):=by
 refine runF_rt rfl ?_
 show B_within [some (.int v,.sh []),some (.int a,.sh []),some (.int b,.sh [])]=_
 unfold B_within
 have q1:e1 (oIsi "int") (eVar 0) [some (.int v,.sh []),some (.int a,.sh []),some (.int b,.sh [])]=some (.bl true,.own):=rfl
 have q2:e1 oNot (e1 (oIsi "bool") (eVar 0)) [some (.int v,.sh []),some (.int a,.sh []),some (.int b,.sh [])]=some (.bl true,.own):=rfl
 rw [s_ret,s_eAnd,q1,s_eAndT,s_eAnd,q2,s_eAndT]
 by_cases h:a≤v
 ·have e1:oLe (.int a) (.int v)=some (.bl true):=by rw [s_oLe,decide_eq_true h]
  have:eChain oLe oLe (eVar 1) (eVar 0) (eVar 2) [some (.int v,.sh []),some (.int a,.sh []),some (.int b,.sh [])]=some (.bl (decide (v≤b)),.own):=by
   unfold eChain
   show (match oLe (.int a) (.int v) with | some (.bl true)=>(oLe (.int v) (.int b)).map (fun d=>(d,Tag.own)) | some (.bl false)=>some (.bl false,.own) | _=>none)=_
   rw [e1] <;> rfl
  rw [this,decide_eq_true h];rfl
 ·have e1:oLe (.int a) (.int v)=some (.bl false):=by rw [s_oLe,decide_eq_false h]
  have:eChain oLe oLe (eVar 1) (eVar 0) (eVar 2) [some (.int v,.sh []),some (.int a,.sh []),some (.int b,.sh [])]=some (.bl false,.own):=by
   unfold eChain
   show (match oLe (.int a) (.int v) with | some (.bl true)=>(oLe (.int v) (.int b)).map (fun d=>(d,Tag.own)) | some (.bl false)=>some (.bl false,.own) | _=>none)=_
   rw [e1] <;> rfl
  rw [this,decide_eq_false h];rfl
def inR (v a b:Int):Bool:=decide (a≤v)&&decide (v≤b)
theorem v_with {ρ:Rho}{i:Nat}{v a b:Int}{t:Tag} (h:eVar i ρ=some (.int v,t)):tV (eCall F_within (aCons (eVar i) (aCons (eC (.int a)) (aCons (eC (.int b)) aNil)))) ρ=some (inR v a b):=by
 rw [s_tV,s_call,s_aCons,s_aCons,s_aCons,h,s_eC,s_eC,s_aNil,s_consK,s_consK,s_consK,s_bind]
 simp only [List.map_cons,List.map_nil]
 rw [f_within];rfl
def tal (n t:Int):Bool:=inR t 1 20&&inR n 1 t
theorem f_tally {n t:Int}:F_makes_tally [.int n,.int t]=some (.bl (tal n t)):=by
 refine runF_rt rfl ?_
 show B_makes_tally [some (.int n,.sh []),some (.int t,.sh [])]=_
 unfold B_makes_tally
 have w1:eCall F_within (aCons (eVar 1) (aCons (eC (.int 1)) (aCons (eC (.int 20)) aNil))) [some (.int n,.sh []),some (.int t,.sh [])]=some (.bl (inR t 1 20),.own):=by
  have v1:eVar 1 [some (.int n,.sh []),some (.int t,.sh [])]=some (.int t,.sh []):=rfl
  rw [s_call,s_aCons,s_aCons,s_aCons,v1,s_eC,s_eC,s_aNil,s_consK,s_consK,s_consK,s_bind]
  simp only [List.map_cons,List.map_nil]
  rw [f_within];rfl
 have w2:eCall F_within (aCons (eVar 0) (aCons (eC (.int 1)) (aCons (eVar 1) aNil))) [some (.int n,.sh []),some (.int t,.sh [])]=some (.bl (inR n 1 t),.own):=by
  have v1:eVar 1 [some (.int n,.sh []),some (.int t,.sh [])]=some (.int t,.sh []):=rfl
  have v0:eVar 0 [some (.int n,.sh []),some (.int t,.sh [])]=some (.int n,.sh []):=rfl
  rw [s_call,s_aCons,s_aCons,s_aCons,v1,v0,s_eC,s_aNil,s_consK,s_consK,s_consK,s_bind]
  simp only [List.map_cons,List.map_nil]
  rw [f_within];rfl
 unfold tal
 rw [s_ret,s_eAnd,w1]
 cases inR t 1 20 with
 | false=>rfl
 | true=>rw [s_eAndT,w2];rfl
def okN (w h n t:Int):Bool:=inR w 1 16&&(inR h 1 8&&tal n t)
theorem t_ok {ρ:Rho}{w h n t:Int}{t1 t2 t3 t4:Tag} (v1:eVar 1 ρ=some (.int w,t1)) (v2:eVar 2 ρ=some (.int h,t2)) (v3:eVar 3 ρ=some (.int n,t3)) (v4:eVar 4 ρ=some (.int t,t4)) :
  tNot1 (tAnd2 (tV (eCall F_within (aCons (eVar 1) (aCons (eC (.int 1)) (aCons (eC (.int 16)) aNil))))) (tAnd2 (tV (eCall F_within (aCons (eVar 2) (aCons (eC (.int 1)) (aCons (eC (.int 8)) aNil))))) (tV (eCall F_makes_tally (aCons (eVar 3) (aCons (eVar 4) aNil)))))) ρ=some (!okN w h n t):=by
 have w3:tV (eCall F_makes_tally (aCons (eVar 3) (aCons (eVar 4) aNil))) ρ=some (tal n t):=by
  rw [s_tV,s_call,s_aCons,s_aCons,v3,v4,s_aNil,s_consK,s_consK,s_bind]
  simp only [List.map_cons,List.map_nil]
  rw [f_tally];rfl
 rw [s_not,s_and2 (v_with v1) (s_and2 (v_with v2) w3)];rfl
def gD (w h n t:Int):D:=.ins "Gate" [("numbers",.tup [.int w,.int h,.int n,.int t]),("known",.ins "Changes" [("entries",.lst [])]),("on_line",.lst []),("laid_ones",.lst []),("grounds",.dic []),("tallies",.dic []),("looks",.lst []),("halted",.bl false),("grown",.lst []),("ended",.lst []),("answers",.int 0),("breaks",.int 0)]
theorem f_init {w h n t:Int} (ok:okN w h n t=true):F_Gate_init (.ins "Gate" []) [.int w,.int h,.int n,.int t]=some (.non,gD w h n t):=by
 have e:B_Gate_init [some (.ins "Gate" [],.own),some (.int w,.sh []),some (.int h,.sh []),some (.int n,.sh []),some (.int t,.sh [])]=some (.nx [some (gD w h n t,.own),some (.int w,.sh []),some (.int h,.sh []),some (.int n,.sh []),some (.int t,.sh [])]):=by
  unfold B_Gate_init
  rw [s_seq,s_if,t_ok (t1:=.sh []) (t2:=.sh []) (t3:=.sh []) (t4:=.sh []) rfl rfl rfl rfl,ok]
  kernel_rfl
 unfold F_Gate_init runM
 rw [if_pos (show [D.int w,D.int h,D.int n,D.int t].length + 1=5 from rfl)]
 show (match B_Gate_init [some (.ins "Gate" [],.own),some (.int w,.sh []),some (.int h,.sh []),some (.int n,.sh []),some (.int t,.sh [])] with | some (.rt (.tup [r,d1]))=>_ | some (.nx ρ)=>_ | _=>_)=_
 rw [e];rfl
theorem f_initR {w h n t:Int} (ok:okN w h n t=false):F_Gate_initR (.ins "Gate" []) [.int w,.int h,.int n,.int t]=some (.er ("NoRule",none) (.ins "Gate" [])):=by
 refine runMR_er rfl (raw:=true) (ρ:=[some (.ins "Gate" [],.own),some (.int w,.sh []),some (.int h,.sh []),some (.int n,.sh []),some (.int t,.sh [])]) ?_ rfl
 show B_Gate_initR [some (.ins "Gate" [],.own),some (.int w,.sh []),some (.int h,.sh []),some (.int n,.sh []),some (.int t,.sh [])]=_
 unfold B_Gate_initR
 refine s_seqE ?_
 rw [s_if,t_ok (t1:=.sh []) (t2:=.sh []) (t3:=.sh []) (t4:=.sh []) rfl rfl rfl rfl,ok]
 rfl
theorem ix4 {f:EF}{ρ:Rho}{t:Tag}{a b c d x:Int}{i:Int} (h:f ρ=some (.lst [.int a,.int b,.int c,.int d],t)) (hx:atI [D.int a,.int b,.int c,.int d] i=some (.int x)):e2 oIx f (eC (.int i)) ρ=some (.int x,.own):=by
 rw [s_e2,h,s_eC,s_k2]
 show Option.map _ ((atI [D.int a,.int b,.int c,.int d] i).bind fun d=>if imm d=true then some d else none)=_
 rw [hx];rfl
theorem a4 {ρ:Rho}{t:Tag}{i:Nat}{a b c d:Int} (h:eVar i ρ=some (.lst [.int a,.int b,.int c,.int d],t)) :
  aCons (e2 oIx (eVar i) (eC (.int 0))) (aCons (e2 oIx (eVar i) (eC (.int 1))) (aCons (e2 oIx (eVar i) (eC (.int 2))) (aCons (e2 oIx (eVar i) (eC (.int 3))) aNil))) ρ=some [(.int a,.own),(.int b,.own),(.int c,.own),(.int d,.own)]:=by
 rw [s_aCons,s_aCons,s_aCons,s_aCons,ix4 h (x:=a) rfl,ix4 h (x:=b) rfl,ix4 h (x:=c) rfl,ix4 h (x:=d) rfl,s_aNil,s_consK,s_consK,s_consK,s_consK]
theorem f_refused {a b c d:Int} (ok:okN a b c d=false):F_L_refused [.lst [.int a,.int b,.int c,.int d]]=some (.bl true):=by
 refine runF_rt rfl ?_
 show B_L_refused [some (.lst [.int a,.int b,.int c,.int d],.sh []),none,none,none]=_
 have g1:sSet 1 (eTup aNil) [some (.lst [.int a,.int b,.int c,.int d],.sh []),none,none,none]=some (.nx [some (.lst [.int a,.int b,.int c,.int d],.sh []),some (.tup [],.own),none,none]):=rfl
 have mk:xMakeR "Gate" F_Gate_initR (aCons (e2 oIx (eVar 0) (eC (.int 0))) (aCons (e2 oIx (eVar 0) (eC (.int 1))) (aCons (e2 oIx (eVar 0) (eC (.int 2))) (aCons (e2 oIx (eVar 0) (eC (.int 3))) aNil)))) [some (.lst [.int a,.int b,.int c,.int d],.sh []),some (.tup [],.own),none,none] =
   some (.er ("NoRule",none) [some (.lst [.int a,.int b,.int c,.int d],.sh []),some (.tup [],.own),none,none]):=by
  unfold xMakeR
  rw [a4 (t:=.sh []) rfl]
  dsimp only
  simp only [List.map_cons,List.map_nil]
  rw [f_initR ok]
 unfold B_L_refused
 rw [s_seq,g1,s_seqN,s_seq]
 unfold sTryAs sExprE
 rw [mk]
 rfl
theorem same1 {a:Int}:F1_L_same [.int a,.int a]=some (.bl true):=by
 refine runF_rt rfl ?_
 show B1_L_same [some (.int a,.sh []),some (.int a,.sh [])]=_
 have e:e2 oEq (eVar 0) (eVar 1) [some (.int a,.sh []),some (.int a,.sh [])]=some (.bl true,.own):=by
  show some (D.bl (a == a),Tag.own)=_
  rw [beq_self_eq_true]
 unfold B1_L_same
 show sRet (eAnd (e1 (oIsi "int") (eVar 0)) (eAnd (e1 oNot (e1 (oIsi "bool") (eVar 0))) (e2 oEq (eVar 0) (eVar 1)))) [some (.int a,.sh []),some (.int a,.sh [])]=_
 have q1:e1 (oIsi "int") (eVar 0) [some (.int a,.sh []),some (.int a,.sh [])]=some (.bl true,.own):=rfl
 have q2:e1 oNot (e1 (oIsi "bool") (eVar 0)) [some (.int a,.sh []),some (.int a,.sh [])]=some (.bl true,.own):=rfl
 rw [s_ret,s_eAnd,q1,s_eAndT,s_eAnd,q2,s_eAndT,e];rfl
section
variable {w h n t:Int}
theorem f_line:F_Gate_line [gD w h n t]=some (.lst []):=by kernel_rfl
theorem f_laid:F_Gate_laid [gD w h n t]=some (.lst []):=by kernel_rfl
theorem f_waiting:F_Gate_waiting [gD w h n t]=some (.lst []):=by kernel_rfl
theorem f_outs:F_Gate_outs [gD w h n t]=some (.lst []):=by kernel_rfl
theorem f_wanted:F_Gate_wanted [gD w h n t]=some (.lst []):=by kernel_rfl
theorem f_growths:F_Gate_growths [gD w h n t]=some (.lst []):=by kernel_rfl
theorem f_settled:F_Gate_settled [gD w h n t]=some (.lst []):=by kernel_rfl
theorem f_sheet:F_Gate_sheet [gD w h n t]=some (.lst []):=by kernel_rfl
theorem f_settings:F_Gate_settings [gD w h n t]=some (.tup [.int w,.int h,.int n,.int t]):=by kernel_rfl
theorem f_bad:F_Gate_bad [gD w h n t]=some .non:=by kernel_rfl
theorem f_stopped:F_Gate_stopped [gD w h n t]=some (.bl false):=by kernel_rfl
theorem f_counts:F_Gate_counts [gD w h n t]=some (.tup [.int 0,.int 0,.int 0,.int 0,.int 0]):=by kernel_rfl
theorem f_changes:F_Gate_changes [gD w h n t]=some (.ins "Changes" [("entries",.lst [])]):=by kernel_rfl
theorem f_added:F_Changes_added (.ins "Changes" [("entries",.lst [])]) [.int 3,.lst [],.lst [.tup [.int 5,.int 0,.int 7]]]=some (.int 1,.ins "Changes" [("entries",.lst [.tup [.int 3,.tup [],.tup [.tup [.int 5,.int 0,.int 7]]]])]):=by kernel_rfl
theorem same_e:F_L_same [.lst [.lst [],.lst [],.lst [],.lst [],.lst [],.lst [],.lst [],.lst []],.lst [.lst [],.lst [],.lst [],.lst [],.lst [],.lst [],.lst [],.lst []]]=some (.bl true):=by kernel_rfl
theorem same_0:F_L_same [.tup [.int 0,.int 0,.int 0,.int 0,.int 0],.tup [.int 0,.int 0,.int 0,.int 0,.int 0]]=some (.bl true):=by kernel_rfl
theorem same_i0:F_L_same [.int 0,.int 0]=some (.bl true):=by kernel_rfl
end
theorem same_4 {w h n t:Int}:F_L_same [.tup [.int w,.int h,.int n,.int t],.tup [.int w,.int h,.int n,.int t]]=some (.bl true):=by
 refine runF_rt rfl ?_
 show B2_L_same [some (.tup [.int w,.int h,.int n,.int t],.sh []),some (.tup [.int w,.int h,.int n,.int t],.sh [])]=_
 unfold B2_L_same
 have c1:tV (e1 (oIsiB "tuple") (eVar 1)) [some (.tup [.int w,.int h,.int n,.int t],.sh []),some (.tup [.int w,.int h,.int n,.int t],.sh [])]=some true:=rfl
 have c2:tOr2 (tNot1 (tV (e1 (oIsiB "tuple") (eVar 0)))) (tV (e2 oNe (e1 oLen (eVar 0)) (e1 oLen (eVar 1)))) [some (.tup [.int w,.int h,.int n,.int t],.sh []),some (.tup [.int w,.int h,.int n,.int t],.sh [])]=some false:=rfl
 have hi:iR1 (e1 oLen (eVar 1)) [some (.tup [.int w,.int h,.int n,.int t],.sh []),some (.tup [.int w,.int h,.int n,.int t],.sh [])]=some ([.int 0,.int 1,.int 2,.int 3],.own):=by kernel_rfl
 have st:∀ (i x:Int),atI [D.int w,.int h,.int n,.int t] i=some (.int x)→compE (gN 0) tTrue (eCall F1_L_same (aCons (e2 oIx (eVar 1) (eVar 0)) (aCons (e2 oIx (eVar 2) (eVar 0)) aNil))) [none,some (.tup [.int w,.int h,.int n,.int t],.sh []),some (.tup [.int w,.int h,.int n,.int t],.sh [])] (.int i)=some (some (.bl true)):=fun i x hx=>by
  refine compE_own (ρ1:=[some (.int i,.sh []),some (.tup [.int w,.int h,.int n,.int t],.sh []),some (.tup [.int w,.int h,.int n,.int t],.sh [])]) rfl rfl ?_
  have v0:eVar 0 [some (.int i,.sh []),some (.tup [.int w,.int h,.int n,.int t],.sh []),some (.tup [.int w,.int h,.int n,.int t],.sh [])]=some (.int i,.sh []):=rfl
  have ix:∀ k,eVar k [some (.int i,.sh []),some (.tup [.int w,.int h,.int n,.int t],.sh []),some (.tup [.int w,.int h,.int n,.int t],.sh [])]=some (.tup [.int w,.int h,.int n,.int t],.sh [])→e2 oIx (eVar k) (eVar 0) [some (.int i,.sh []),some (.tup [.int w,.int h,.int n,.int t],.sh []),some (.tup [.int w,.int h,.int n,.int t],.sh [])]=some (.int x,.own):=fun k hk=>by
   rw [s_e2,hk,v0,s_k2]
   show Option.map _ ((atI [D.int w,.int h,.int n,.int t] i).bind fun d=>if imm d=true then some d else none)=_
   rw [hx];rfl
  rw [s_call,s_aCons,s_aCons,ix 1 rfl,ix 2 rfl,s_aNil,s_consK,s_consK,s_bind]
  simp only [List.map_cons,List.map_nil]
  rw [same1];rfl
 have hc:=comp_ok (js:=[none,some 0,some 1]) (g:=gN 0) (tt:=tTrue) (te:=eCall F1_L_same (aCons (e2 oIx (eVar 1) (eVar 0)) (aCons (e2 oIx (eVar 2) (eVar 0)) aNil))) (k:=fun _=>some (.bl true)) hi (by decide) (fun d m=>by
  simp only [List.mem_cons,List.not_mem_nil,or_false] at m
  rcases m with rfl | rfl | rfl | rfl
  ·exact st 0 w rfl
  ·exact st 1 h rfl
  ·exact st 2 n rfl
  ·exact st 3 t rfl)
 rw [s_seq,s_if,c1,s_ifT,s_seq,s_if,c2,s_ifF,s_nx,s_seqN,s_ret,s_e1,hc]
 kernel_rfl
theorem s_meth {ρ:Rho}{cn m:Str}{F:List D→Option D}{fo:EF}{g:AF}{es:List (Str×D)}{t:Tag}{ps:List (D×Tag)}{d:D} (h:fo ρ=some (.ins cn es,t)) (hm:es.lookup m=none) (hg:g ρ=some ps) (hF:F (.ins cn es::ps.map (·.1))=some d) :
  eMeth cn m F fo g ρ=some (d,.own):=by
 unfold eMeth
 rw [h]
 dsimp only
 rw [if_pos ⟨rfl,hm⟩,hg,Option.bind_some,hF];rfl
theorem m_g {w h n t:Int}{ρ:Rho}{m:Str}{F:List D→Option D}{tg:Tag}{d:D} (v:eVar 0 ρ=some (gD w h n t,tg)) (hF:F [gD w h n t]=some d) (hm:(["numbers","known","on_line","laid_ones","grounds","tallies","looks","halted","grown","ended","answers","breaks"]:List Str).contains m=false):eMeth "Gate" m F (eVar 0) aNil ρ=some (d,.own):=by
 refine s_meth (ps:=[]) v ?_ s_aNil hF
 simp only [List.contains_cons,List.contains_nil,Bool.or_false,Bool.or_eq_false_iff] at hm
 simp only [List.lookup,hm]
def rG (w h n t:Int) (s2 s3 s4:Slot):Rho:=[some (gD w h n t,.sh []),some (.lst [.int w,.int h,.int n,.int t],.sh []),s2,s3,s4]
def cD:D:=.ins "Changes" [("entries",.lst [])]
theorem f_new {w h n t:Int}:F_L_new [gD w h n t,.lst [.int w,.int h,.int n,.int t]]=some (.bl true):=by
 refine runF_rt rfl ?_
 show B_L_new (rG w h n t none none none)=_
 have vg:∀ s2 s3 s4,eVar 0 (rG w h n t s2 s3 s4)=some (gD w h n t,.sh []):=fun _ _ _=>rfl
 have g1:sSet 2 (eLst (aCons (eMeth "Gate" "line" F_Gate_line (eVar 0) aNil) (aCons (eMeth "Gate" "laid" F_Gate_laid (eVar 0) aNil) (aCons (eMeth "Gate" "waiting" F_Gate_waiting (eVar 0) aNil) (aCons (eMeth "Gate" "outs" F_Gate_outs (eVar 0) aNil) (aCons (eMeth "Gate" "wanted" F_Gate_wanted (eVar 0) aNil) (aCons (eMeth "Gate" "growths" F_Gate_growths (eVar 0) aNil) (aCons (eMeth "Gate" "settled" F_Gate_settled (eVar 0) aNil) aNil)))))))) (rG w h n t none none none)=some (.nx (rG w h n t (some (.lst [.lst [],.lst [],.lst [],.lst [],.lst [],.lst [],.lst []],.own)) none none)):=by
  rw [s_set,s_lst,s_aCons,s_aCons,s_aCons,s_aCons,s_aCons,s_aCons,s_aCons,m_g (vg _ _ _) f_line (by decide),m_g (vg _ _ _) f_laid (by decide),m_g (vg _ _ _) f_waiting (by decide),m_g (vg _ _ _) f_outs (by decide),m_g (vg _ _ _) f_wanted (by decide),m_g (vg _ _ _) f_growths (by decide),m_g (vg _ _ _) f_settled (by decide)]
  rfl
 have g2:sAppO 2 (eMeth "Gate" "sheet" F_Gate_sheet (eVar 0) aNil) (rG w h n t (some (.lst [.lst [],.lst [],.lst [],.lst [],.lst [],.lst [],.lst []],.own)) none none)=some (.nx (rG w h n t (some (.lst [.lst [],.lst [],.lst [],.lst [],.lst [],.lst [],.lst [],.lst []],.own)) none none)):=by
  unfold sAppO
  rw [m_g (vg _ _ _) f_sheet (by decide)]
  kernel_rfl
 have g3:tOr2 (tNot1 (tV (eCall F_L_same (aCons (eVar 2) (aCons (eLst (aCons (eLst aNil) (aCons (eLst aNil) (aCons (eLst aNil) (aCons (eLst aNil) (aCons (eLst aNil) (aCons (eLst aNil) (aCons (eLst aNil) (aCons (eLst aNil) aNil))))))))) aNil))))) (tNot1 (tV (eCall F_L_same (aCons (eMeth "Gate" "settings" F_Gate_settings (eVar 0) aNil) (aCons (e1 oTuple (eVar 1)) aNil))))) (rG w h n t (some (.lst [.lst [],.lst [],.lst [],.lst [],.lst [],.lst [],.lst [],.lst []],.own)) none none)=some (false||false):=by
  refine s_or2 ?_ ?_
  ·have e:eCall F_L_same (aCons (eVar 2) (aCons (eLst (aCons (eLst aNil) (aCons (eLst aNil) (aCons (eLst aNil) (aCons (eLst aNil) (aCons (eLst aNil) (aCons (eLst aNil) (aCons (eLst aNil) (aCons (eLst aNil) aNil))))))))) aNil)) (rG w h n t (some (.lst [.lst [],.lst [],.lst [],.lst [],.lst [],.lst [],.lst [],.lst []],.own)) none none)=some (.bl true,.own):=by
    show (F_L_same [.lst [.lst [],.lst [],.lst [],.lst [],.lst [],.lst [],.lst [],.lst []],.lst [.lst [],.lst [],.lst [],.lst [],.lst [],.lst [],.lst [],.lst []]]).map (fun d=>(d,Tag.own))=_
    rw [same_e];rfl
   rw [s_not,s_tV,e];rfl
  ·have v1:e1 oTuple (eVar 1) (rG w h n t (some (.lst [.lst [],.lst [],.lst [],.lst [],.lst [],.lst [],.lst [],.lst []],.own)) none none)=some (.tup [.int w,.int h,.int n,.int t],.own):=rfl
   rw [s_not,s_tV,s_call,s_aCons,s_aCons,m_g (vg _ _ _) f_settings (by decide),v1,s_aNil,s_consK,s_consK,s_bind]
   simp only [List.map_cons,List.map_nil]
   rw [same_4];rfl
 have g4:tOr2 (tV (e2 oNotN (eMeth "Gate" "bad" F_Gate_bad (eVar 0) aNil) (eC .non))) (tOr2 (tV (e2 oIsnB (eMeth "Gate" "stopped" F_Gate_stopped (eVar 0) aNil) (eC (.bl false)))) (tNot1 (tV (eCall F_L_same (aCons (eMeth "Gate" "counts" F_Gate_counts (eVar 0) aNil) (aCons (eTup (aCons (eC (.int 0)) (aCons (eC (.int 0)) (aCons (eC (.int 0)) (aCons (eC (.int 0)) (aCons (eC (.int 0)) aNil)))))) aNil)))))) (rG w h n t (some (.lst [.lst [],.lst [],.lst [],.lst [],.lst [],.lst [],.lst [],.lst []],.own)) none none)=some (false||(false||false)):=by
  refine s_or2 ?_ (s_or2 ?_ ?_)
  ·rw [s_tV,s_e2,m_g (vg _ _ _) f_bad (by decide)];rfl
  ·rw [s_tV,s_e2,m_g (vg _ _ _) f_stopped (by decide)];rfl
  ·have v1:eTup (aCons (eC (.int 0)) (aCons (eC (.int 0)) (aCons (eC (.int 0)) (aCons (eC (.int 0)) (aCons (eC (.int 0)) aNil))))) (rG w h n t (some (.lst [.lst [],.lst [],.lst [],.lst [],.lst [],.lst [],.lst [],.lst []],.own)) none none)=some (.tup [.int 0,.int 0,.int 0,.int 0,.int 0],.own):=rfl
   rw [s_not,s_tV,s_call,s_aCons,s_aCons,m_g (vg _ _ _) f_counts (by decide),v1,s_aNil,s_consK,s_consK,s_bind]
   simp only [List.map_cons,List.map_nil]
   rw [same_0];rfl
 have g5:sAppEach 2 3 (.tup [.int 1,.int 2]) (rG w h n t (some (.lst [.lst [],.lst [],.lst [],.lst [],.lst [],.lst [],.lst [],.lst []],.own)) none none)=some (.nx (rG w h n t (some (.lst [.lst [.tup [.int 1,.int 2]],.lst [.tup [.int 1,.int 2]],.lst [.tup [.int 1,.int 2]],.lst [.tup [.int 1,.int 2]],.lst [.tup [.int 1,.int 2]],.lst [.tup [.int 1,.int 2]],.lst [.tup [.int 1,.int 2]],.lst [.tup [.int 1,.int 2]]],.own)) none none)):=by kernel_rfl
 generalize (some (D.lst [.lst [.tup [.int 1,.int 2]],.lst [.tup [.int 1,.int 2]],.lst [.tup [.int 1,.int 2]],.lst [.tup [.int 1,.int 2]],.lst [.tup [.int 1,.int 2]],.lst [.tup [.int 1,.int 2]],.lst [.tup [.int 1,.int 2]],.lst [.tup [.int 1,.int 2]]],Tag.own):L2.Ev.Slot)=s2 at g5
 have g6:sSet 4 (eMeth "Gate" "changes" F_Gate_changes (eVar 0) aNil) (rG w h n t s2 none none)=some (.nx (rG w h n t s2 none (some (cD,.own)))):=by
  rw [s_set,m_g (vg _ _ _) f_changes (by decide)];rfl
 have g7:eCall F_L_same (aCons (eMeth "Changes" "many" F_Changes_many (eVar 4) aNil) (aCons (eC (.int 0)) aNil)) (rG w h n t s2 none (some (cD,.own)))=some (.bl true,.own):=by
  have m:eMeth "Changes" "many" F_Changes_many (eVar 4) aNil (rG w h n t s2 none (some (cD,.own)))=some (.int 0,.own):=by kernel_rfl
  rw [s_call,s_aCons,s_aCons,m,s_eC,s_aNil,s_consK,s_consK,s_bind]
  simp only [List.map_cons,List.map_nil]
  rw [same_i0];rfl
 have g8:∃ ρ',xO 4 "Changes" "added" F_Changes_added (aCons (eC (.int 3)) (aCons (eLst aNil) (aCons (eLst (aCons (eTup (aCons (eC (.int 5)) (aCons (eC (.int 0)) (aCons (eC (.int 7)) aNil)))) aNil)) aNil))) (rG w h n t s2 none (some (cD,.own)))=some (.int 1,ρ'):=by
  have u:(rG w h n t s2 none (some (cD,.own)))[4]? = some (some (.ins "Changes" [("entries",.lst [])],.own)):=rfl
  have a:aCons (eC (.int 3)) (aCons (eLst aNil) (aCons (eLst (aCons (eTup (aCons (eC (.int 5)) (aCons (eC (.int 0)) (aCons (eC (.int 7)) aNil)))) aNil)) aNil)) (rG w h n t s2 none (some (cD,.own)))=some [(.int 3,.own),(.lst [],.own),(.lst [.tup [.int 5,.int 0,.int 7]],.own)]:=rfl
  unfold xO
  rw [u,a]
  dsimp only
  rw [if_pos ⟨rfl,(by decide),rfl⟩]
  simp only [List.map_cons,List.map_nil]
  rw [f_added]
  exact ⟨_,rfl⟩
 obtain ⟨ρ',g8⟩:=g8
 have g9:sRetX (xAndZ (eCall F_L_same (aCons (eMeth "Changes" "many" F_Changes_many (eVar 4) aNil) (aCons (eC (.int 0)) aNil))) (xEqZ (xO 4 "Changes" "added" F_Changes_added (aCons (eC (.int 3)) (aCons (eLst aNil) (aCons (eLst (aCons (eTup (aCons (eC (.int 5)) (aCons (eC (.int 0)) (aCons (eC (.int 7)) aNil)))) aNil)) aNil)))) (eC (.int 1)))) (rG w h n t s2 none (some (cD,.own)))=some (.rt (.bl true)):=by
  unfold sRetX xAndZ
  rw [g7]
  dsimp only
  unfold xEqZ
  rw [g8]
  rfl
 unfold B_L_new
 rw [s_seq,g1,s_seqN,s_seq,g2,s_seqN,s_seq,s_if,g3]
 show seqK _ (sNx _)=_
 rw [s_nx,s_seqN,s_seq,s_if,g4]
 show seqK _ (sNx _)=_
 rw [s_nx,s_seqN,s_seq,g5,s_seqN,s_seq,g6,s_seqN,g9]
theorem mut_at {ρ:Rho}{i:Nat}{w:Option (D×Tag)}{d:D} (h:ρ[i]? = some w):(mutS ρ i d)[i]? = some (some (d,.own)):=by
 unfold mutS
 rw [List.getElem?_set_self (by rw [List.length_map];exact (List.getElem?_eq_some_iff.mp h).1)]
theorem x_take {ρ:Rho}{i:Nat}{ls:List Int}{fm:EF}{m:Int}{t:Tag} (h:ρ[i]? = some (some (.lst (ls.map D.int),.own))) (hm:fm ρ=some (.int m,t)) (h0:0 < m) :
  ∃ (v:Int) (ls':List Int),0≤v∧v < m∧xM i takeG (xaCons (xP fm) xaNil) ρ=some (.int v,mutS ρ i (.lst (ls'.map D.int))):=by
 obtain ⟨v,ls',h1,h2,h3⟩:=take_at ls h0
 exact ⟨v,ls',h1,h2,xm_at (ρ1:=ρ) h (s_xa (s_xP hm rfl) s_xa0) h h3⟩
theorem pick {ρ:Rho}{i:Nat}{ls:List Int}{fa fb fm:EF}{a b m:Int}{ta tb tm:Tag} (h:ρ[i]? = some (some (.lst (ls.map D.int),.own))) (ha:fa ρ=some (.int a,ta)) (hb:fb ρ=some (.int b,tb)) (hm:fm ρ=some (.int m,tm)) (h0:0 < m) :
  ∃ (v:Int) (ls':List Int),(v=a∨v=b∨(1≤v∧v≤m))∧xIx (xaCons (xP fa) (xaCons (xP fb) (xaCons (x2 oAdd (xP (eC (.int 1))) (xM i takeG (xaCons (xP fm) xaNil))) xaNil))) (xM i takeG (xaCons (xP (eC (.int 3))) xaNil)) ρ=some (.int v,mutS ρ i (.lst (ls'.map D.int))):=by
 obtain ⟨v1,ls1,h1,h2,h3⟩:=x_take h hm h0
 obtain ⟨v2,ls2,k1,k2,k3⟩:=x_take (ρ:=mutS ρ i (.lst (ls1.map D.int))) (ls:=ls1) (fm:=eC (.int 3)) (m:=3) (t:=.own) (mut_at h) rfl (by omega)
 rw [mutS_mutS] at k3
 have e1:xP (eC (.int 1)) ρ=some (.int 1,ρ):=rfl
 have hl:=s_xa (s_xP ha rfl) (s_xa (s_xP hb rfl) (s_xa (s_x2 e1 h3 (show oAdd (.int 1) (.int v1)=some (.int (1 + v1)) from rfl)) s_xa0))
 have cc:v2=0∨v2=1∨v2=2:=by omega
 rcases cc with rfl | rfl | rfl
 ·exact ⟨a,ls2,.inl rfl,s_xIx hl k3 rfl⟩
 ·exact ⟨b,ls2,.inr (.inl rfl),s_xIx hl k3 rfl⟩
 ·exact ⟨1 + v1,ls2,.inr (.inr (by omega)),s_xIx hl k3 rfl⟩
def rI (ls:List Int) (s1 s2 s3 s4:Slot):Rho:=[some (.lst (ls.map D.int),.own),s1,s2,s3,s4]
theorem f_Lwithin (ls:List Int):∃ (w h n t:Int) (ls':List Int),okN w h n t=true∧F_L_within (.lst (ls.map D.int)) []=some (.lst [.int w,.int h,.int n,.int t],.lst (ls'.map D.int)):=by
 obtain ⟨w,l1,hw,q1⟩:=pick (ρ:=rI ls none none none none) (i:=0) (ls:=ls) (fa:=eC (.int 1)) (fb:=eC (.int 16)) (fm:=eC (.int 16)) (a:=1) (b:=16) (m:=16) (ta:=.own) (tb:=.own) (tm:=.own) rfl rfl rfl rfl (by omega)
 obtain ⟨h,l2,hh,q2⟩:=pick (ρ:=rI l1 (some (.int w,.own)) none none none) (i:=0) (ls:=l1) (fa:=eC (.int 1)) (fb:=eC (.int 8)) (fm:=eC (.int 8)) (a:=1) (b:=8) (m:=8) (ta:=.own) (tb:=.own) (tm:=.own) rfl rfl rfl rfl (by omega)
 obtain ⟨t,l3,ht,q3⟩:=pick (ρ:=rI l2 (some (.int w,.own)) (some (.int h,.own)) none none) (i:=0) (ls:=l2) (fa:=eC (.int 1)) (fb:=eC (.int 20)) (fm:=eC (.int 20)) (a:=1) (b:=20) (m:=20) (ta:=.own) (tb:=.own) (tm:=.own) rfl rfl rfl rfl (by omega)
 have ht1:1≤t∧t≤20:=by omega
 obtain ⟨n,l4,hn,q4⟩:=pick (ρ:=rI l3 (some (.int w,.own)) (some (.int h,.own)) (some (.int t,.own)) none) (i:=0) (ls:=l3) (fa:=eC (.int 1)) (fb:=eVar 3) (fm:=eVar 3) (a:=1) (b:=t) (m:=t) (ta:=.own) (tb:=.sh [3]) (tm:=.sh [3]) rfl rfl rfl rfl (by omega)
 refine ⟨w,h,n,t,l4,?_,?_⟩
 ·unfold okN tal inR
  rw [decide_eq_true (show 1≤w by omega),decide_eq_true (show w≤16 by omega),decide_eq_true (show 1≤h by omega),decide_eq_true (show h≤8 by omega),decide_eq_true ht1.1,decide_eq_true ht1.2,decide_eq_true (show 1≤n by omega),decide_eq_true (show n≤t by omega)];rfl
 ·have g1:=s_setX (i:=1) q1
  have g2:=s_setX (i:=2) q2
  have g3:=s_setX (i:=3) q3
  have g4:=s_setX (i:=4) q4
  have nr:∀ {f:SF}{ρ ρ':Rho},f ρ=some (.nx ρ')→noRt f ρ=some (.nx ρ'):=fun {f ρ ρ'} e=>by unfold noRt;rw [e]
  have e:B_L_within (rI ls none none none none)=some (.rt (.tup [.lst [.int w,.int h,.int n,.int t],.lst (l4.map D.int)])):=by
   unfold B_L_within
   rw [s_seq,nr g1,s_seqN]
   show sSeq _ _ (rI l1 (some (.int w,.own)) none none none)=_
   rw [s_seq,nr g2,s_seqN]
   show sSeq _ _ (rI l2 (some (.int w,.own)) (some (.int h,.own)) none none)=_
   rw [s_seq,nr g3,s_seqN]
   show sSeq _ _ (rI l3 (some (.int w,.own)) (some (.int h,.own)) (some (.int t,.own)) none)=_
   rw [s_seq,nr g4,s_seqN]
   rfl
  unfold F_L_within runM
  rw [if_pos (show ([]:List D).length + 1=1 from rfl)]
  show (match B_L_within (rI ls none none none none) with | some (.rt (.tup [r,d1]))=>_ | some (.nx ρ)=>_ | _=>_)=_
  rw [e]
def dL (a b c d:Int):D:=.lst [.int a,.int b,.int c,.int d]
def rW (ns ls:List Int) (s2 s3 s4 s5 s6 s7 s8 s9:Slot):Rho:=[some (dI ns,.sh []),some (.lst (ls.map D.int),.own),s2,s3,s4,s5,s6,s7,s8,s9]
theorem no_w {w h n t:Int} (h1:w < 1∨16 < w):okN w h n t=false:=by
 unfold okN inR
 rcases h1 with h1 | h1
 ·rw [decide_eq_false (by omega)];rfl
 ·rw [decide_eq_false (show ¬ w≤16 by omega),Bool.and_false];rfl
theorem no_h {w h n t:Int} (h1:h < 1∨8 < h):okN w h n t=false:=by
 unfold okN
 rw [show inR h 1 8=false from by
  unfold inR
  rcases h1 with h1 | h1
  ·rw [decide_eq_false (by omega)];rfl
  ·rw [decide_eq_false (show ¬ h≤8 by omega),Bool.and_false],Bool.false_and,Bool.and_false]
theorem no_n {w h n t:Int} (h1:n < 1∨t < n):okN w h n t=false:=by
 unfold okN tal
 rw [show inR n 1 t=false from by
  unfold inR
  rcases h1 with h1 | h1
  ·rw [decide_eq_false (by omega)];rfl
  ·rw [decide_eq_false (show ¬ n≤t by omega),Bool.and_false],Bool.and_false,Bool.and_false,Bool.and_false]
theorem no_t {w h n t:Int} (h1:t < 1∨20 < t):okN w h n t=false:=by
 unfold okN tal
 rw [show inR t 1 20=false from by
  unfold inR
  rcases h1 with h1 | h1
  ·rw [decide_eq_false (by omega)];rfl
  ·rw [decide_eq_false (show ¬ t≤20 by omega),Bool.and_false],Bool.false_and,Bool.and_false,Bool.and_false]
theorem lset {ρ:Rho}{i:Nat}{a b c d x k:Int}{fk fv:EF}{tk tv:Tag}{j:Nat} (hv:fv ρ=some (.int x,tv)) (h:ρ[i]? = some (some (dL a b c d,.own))) (hk:fk ρ=some (.int k,tk)) (hj:ixN 4 k=some j) :
  sLset i fk fv ρ=some (.nx (mutS ρ i (.lst ([D.int a,.int b,.int c,.int d].set j (.int x))))):=by
 unfold sLset
 rw [hv,h,hk]
 unfold dL
 dsimp only
 rw [show ixN [D.int a,.int b,.int c,.int d].length k=some j from hj]
 rfl
theorem callP {ρ:Rho}{i:Nat}{d0 d1 r:D}{G:MF} (h:ρ[i]? = some (some (d0,.own))) (hG:G d0 []=some (r,d1)):xCallP i G aNil ρ=some (.ok r (mutS ρ i d1)):=by
 unfold xCallP
 rw [h,s_aNil]
 dsimp only
 rw [if_pos (show apart i []=true from rfl),List.map_nil,hG];rfl
theorem f_law {ns:List Int} (hl:ns.length≤63):F_law [dI ns]=some (.bl true):=by
 refine runF_rt rfl ?_
 show B_law [some (dI ns,.sh []),none,none,none,none,none,none,none,none,none]=_
 have q1:∃ ls:List Int,sSet 1 (e1 oRev (e1 (oCut none (some 200)) (eVar 0))) [some (dI ns,.sh []),none,none,none,none,none,none,none,none,none]=some (.nx (rW ns ls none none none none none none none none)):=by
  refine ⟨ns.reverse,?_⟩
  have v0:eVar 0 [some (dI ns,.sh []),none,none,none,none,none,none,none,none,none]=some (dI ns,.sh []):=rfl
  rw [s_set,s_e1,s_e1,v0,s_k1,cut200 hl]
  show setK 1 _ (Option.map _ (if immAll (ns.map D.int)=true then some (D.lst (ns.map D.int).reverse) else none))=_
  rw [if_pos (imm_ints ns),← List.map_reverse];rfl
 obtain ⟨l0,q1⟩:=q1
 obtain ⟨w,h,n,t,l1,ok1,fw1⟩:=f_Lwithin l0
 have q2:sSetE 2 (xCallP 1 F_L_within aNil) (rW ns l0 none none none none none none none none)=some (.nx (rW ns l1 (some (dL w h n t,.own)) none none none none none none none)):=by
  unfold sSetE
  rw [callP (d0:=.lst (l0.map D.int)) rfl fw1]
  rfl
 obtain ⟨w2,h2,n2,t2,l2,ok2,fw2⟩:=f_Lwithin l1
 have q3:sSetE 3 (xCallP 1 F_L_within aNil) (rW ns l1 (some (dL w h n t,.own)) none none none none none none none)=some (.nx (rW ns l2 (some (dL w h n t,.own)) (some (dL w2 h2 n2 t2,.own)) none none none none none none)):=by
  unfold sSetE
  rw [callP (d0:=.lst (l1.map D.int)) rfl fw2]
  rfl
 have q4:∃ (far:Int) (l3:List Int),0≤far∧sSetX 4 (xIx (xaCons (xP (eC (.int 0))) (xaCons (xP (eC (.int 1))) (xaCons (xP (e2 oPow (eC (.int 10)) (eC (.int 20)))) xaNil))) (xM 1 takeG (xaCons (xP (eC (.int 3))) xaNil))) (rW ns l2 (some (dL w h n t,.own)) (some (dL w2 h2 n2 t2,.own)) none none none none none none)=some (.nx (rW ns l3 (some (dL w h n t,.own)) (some (dL w2 h2 n2 t2,.own)) (some (.int far,.own)) none none none none none)):=by
  obtain ⟨v,l3,k1,k2,h3⟩:=x_take (ρ:=rW ns l2 (some (dL w h n t,.own)) (some (dL w2 h2 n2 t2,.own)) none none none none none none) (i:=1) (ls:=l2) (fm:=eC (.int 3)) (m:=3) (t:=.own) rfl rfl (by omega)
  have hl:(xaCons (xP (eC (.int 0))) (xaCons (xP (eC (.int 1))) (xaCons (xP (e2 oPow (eC (.int 10)) (eC (.int 20)))) xaNil))) (rW ns l2 (some (dL w h n t,.own)) (some (dL w2 h2 n2 t2,.own)) none none none none none none)=some ([.int 0,.int 1,.int 100000000000000000000],rW ns l2 (some (dL w h n t,.own)) (some (dL w2 h2 n2 t2,.own)) none none none none none none):=by kernel_rfl
  have cc:v=0∨v=1∨v=2:=by omega
  rcases cc with rfl | rfl | rfl
  ·exact ⟨0,l3,by omega,by rw [s_setX (s_xIx hl h3 rfl)];rfl⟩
  ·exact ⟨1,l3,by omega,by rw [s_setX (s_xIx hl h3 rfl)];rfl⟩
  ·exact ⟨100000000000000000000,l3,by omega,by rw [s_setX (s_xIx hl h3 rfl)];rfl⟩
 obtain ⟨far,l3,hfar,q4⟩:=q4
 obtain ⟨at_,l4,ha0,ha7,h5⟩:=x_take (ρ:=rW ns l3 (some (dL w h n t,.own)) (some (dL w2 h2 n2 t2,.own)) (some (.int far,.own)) none none none none none) (i:=1) (ls:=l3) (fm:=eC (.int 7)) (m:=7) (t:=.own) rfl rfl (by omega)
 have q5:sSetX 5 (xM 1 takeG (xaCons (xP (eC (.int 7))) xaNil)) (rW ns l3 (some (dL w h n t,.own)) (some (dL w2 h2 n2 t2,.own)) (some (.int far,.own)) none none none none none)=some (.nx (rW ns l4 (some (dL w h n t,.own)) (some (dL w2 h2 n2 t2,.own)) (some (.int far,.own)) (some (.int at_,.own)) none none none none)):=by
  rw [s_setX h5];rfl
 have q6:sSet 6 (e1 oList (eVar 2)) (rW ns l4 (some (dL w h n t,.own)) (some (dL w2 h2 n2 t2,.own)) (some (.int far,.own)) (some (.int at_,.own)) none none none none)=some (.nx (rW ns l4 (some (dL w h n t,.own)) (some (dL w2 h2 n2 t2,.own)) (some (.int far,.own)) (some (.int at_,.own)) (some (dL w h n t,.own)) none none none)):=rfl
 have ok1':(1≤w∧w≤16)∧(1≤h∧h≤8)∧(1≤t∧t≤20)∧1≤n∧n≤t:=by
  unfold okN tal inR at ok1
  simp only [Bool.and_eq_true,decide_eq_true_eq] at ok1
  omega
 let R:=fun (ls:List Int) (a b c d:Int)=>rW ns ls (some (dL w h n t,.own)) (some (dL w2 h2 n2 t2,.own)) (some (.int far,.own)) (some (.int at_,.own)) (some (dL a b c d,.own)) none none none
 have v4:∀ ls a b c d,eVar 4 (R ls a b c d)=some (.int far,.sh [4]):=fun _ _ _ _ _=>rfl
 have v5:∀ ls a b c d,eVar 5 (R ls a b c d)=some (.int at_,.sh [5]):=fun _ _ _ _ _=>rfl
 have c4:∀ ls a b c d,tV (e2 oLt (eVar 5) (eC (.int 4))) (R ls a b c d)=some (decide (at_ < 4)):=fun _ _ _ _ _=>rfl
 have ce:∀ k ls a b c d,tV (e2 oEq (eVar 5) (eC (.int k))) (R ls a b c d)=some (at_ == k):=fun _ _ _ _ _ _=>rfl
 have key:∃ (l5:List Int) (a b c d:Int),okN a b c d=false∧∀ rest:SF,sSeq (sIf (tV (e2 oLt (eVar 5) (eC (.int 4)))) (sLset 6 (eVar 5) (e1 oNeg (eVar 4))) sNx) (sSeq (sIf (tV (e2 oEq (eVar 5) (eC (.int 4)))) (sLset 6 (eC (.int 0)) (e2 oAdd (eC (.int 17)) (eVar 4))) sNx) (sSeq (sIf (tV (e2 oEq (eVar 5) (eC (.int 5)))) (sLset 6 (eC (.int 1)) (e2 oAdd (eC (.int 9)) (eVar 4))) sNx) (sSeq (sIf (tV (e2 oEq (eVar 5) (eC (.int 6)))) (sLsetX 6 (eC (.int 3)) (xIx (xaCons (xP (e2 oAdd (eC (.int 21)) (eVar 4))) (xaCons (xP (e2 oSub (e2 oIx (eVar 6) (eC (.int 2))) (eC (.int 1)))) xaNil)) (xM 1 takeG (xaCons (xP (eC (.int 2))) xaNil)))) sNx) rest))) (R l4 w h n t)=rest (R l5 a b c d):=by
  have no:∀ {k:Int}{X:SF} {ls a b c d},at_≠k→∀ rest:SF,sSeq (sIf (tV (e2 oEq (eVar 5) (eC (.int k)))) X sNx) rest (R ls a b c d)=rest (R ls a b c d):=fun {k X ls a b c d} hk rest=>by
   rw [s_seq,s_if,ce,show (at_ == k)=false from by simpa using hk,s_ifF,s_nx,s_seqN]
  have yes:∀ {k:Int}{X:SF} {ls ls' a b c d a' b' c' d'},at_=k→X (R ls a b c d)=some (.nx (R ls' a' b' c' d'))→∀ rest:SF,sSeq (sIf (tV (e2 oEq (eVar 5) (eC (.int k)))) X sNx) rest (R ls a b c d)=rest (R ls' a' b' c' d'):=fun {k X ls ls' a b c d a' b' c' d'} hk hX rest=>by
   rw [s_seq,s_if,ce,show (at_ == k)=true from by simpa using hk,s_ifT,hX,s_seqN]
  by_cases h4:at_ < 4
  ·have vn:e1 oNeg (eVar 4) (R l4 w h n t)=some (.int (-far),.own):=rfl
   have fin:∀ {a b c d:Int},okN a b c d=false→sLset 6 (eVar 5) (e1 oNeg (eVar 4)) (R l4 w h n t)=some (.nx (R l4 a b c d))→∃ (l5:List Int) (a b c d:Int),okN a b c d=false∧∀ rest:SF,sSeq (sIf (tV (e2 oLt (eVar 5) (eC (.int 4)))) (sLset 6 (eVar 5) (e1 oNeg (eVar 4))) sNx) (sSeq (sIf (tV (e2 oEq (eVar 5) (eC (.int 4)))) (sLset 6 (eC (.int 0)) (e2 oAdd (eC (.int 17)) (eVar 4))) sNx) (sSeq (sIf (tV (e2 oEq (eVar 5) (eC (.int 5)))) (sLset 6 (eC (.int 1)) (e2 oAdd (eC (.int 9)) (eVar 4))) sNx) (sSeq (sIf (tV (e2 oEq (eVar 5) (eC (.int 6)))) (sLsetX 6 (eC (.int 3)) (xIx (xaCons (xP (e2 oAdd (eC (.int 21)) (eVar 4))) (xaCons (xP (e2 oSub (e2 oIx (eVar 6) (eC (.int 2))) (eC (.int 1)))) xaNil)) (xM 1 takeG (xaCons (xP (eC (.int 2))) xaNil)))) sNx) rest))) (R l4 w h n t)=rest (R l5 a b c d):=fun {a b c d} hno hset=>by
    refine ⟨l4,a,b,c,d,hno,fun rest=>?_⟩
    rw [s_seq,s_if,c4,decide_eq_true h4,s_ifT,hset,s_seqN,no (by omega),no (by omega),no (by omega)]
   have cc:at_=0∨at_=1∨at_=2∨at_=3:=by omega
   have st:∀ {j:Nat},at_=(j:Int)→ixN 4 (j:Int)=some j→sLset 6 (eVar 5) (e1 oNeg (eVar 4)) (R l4 w h n t)=some (.nx (mutS (R l4 w h n t) 6 (.lst ([D.int w,.int h,.int n,.int t].set j (.int (-far)))))):=fun {j} e hj=>lset vn rfl (v5 _ _ _ _ _) (by rw [e];exact hj)
   rcases cc with e | e | e | e
   ·exact fin (a:=-far) (b:=h) (c:=n) (d:=t) (no_w (.inl (by omega))) (st (j:=0) e rfl)
   ·exact fin (a:=w) (b:=-far) (c:=n) (d:=t) (no_h (.inl (by omega))) (st (j:=1) e rfl)
   ·exact fin (a:=w) (b:=h) (c:=-far) (d:=t) (no_n (.inl (by omega))) (st (j:=2) e rfl)
   ·exact fin (a:=w) (b:=h) (c:=n) (d:=-far) (no_t (.inl (by omega))) (st (j:=3) e rfl)
  ·have skip:∀ rest:SF,sSeq (sIf (tV (e2 oLt (eVar 5) (eC (.int 4)))) (sLset 6 (eVar 5) (e1 oNeg (eVar 4))) sNx) rest (R l4 w h n t)=rest (R l4 w h n t):=fun rest=>by
    rw [s_seq,s_if,c4,decide_eq_false h4,s_ifF,s_nx,s_seqN]
   have cc:at_=4∨at_=5∨at_=6:=by omega
   rcases cc with e | e | e
   ·refine ⟨l4,17 + far,h,n,t,no_w (.inr (by omega)),fun rest=>?_⟩
    have vv:e2 oAdd (eC (.int 17)) (eVar 4) (R l4 w h n t)=some (.int (17 + far),.own):=rfl
    rw [skip,yes (a':=17 + far) (b':=h) (c':=n) (d':=t) (ls':=l4) e (lset vv rfl rfl (j:=0) rfl),no (by omega),no (by omega)]
   ·refine ⟨l4,w,9 + far,n,t,no_h (.inr (by omega)),fun rest=>?_⟩
    have vv:e2 oAdd (eC (.int 9)) (eVar 4) (R l4 w h n t)=some (.int (9 + far),.own):=rfl
    rw [skip,no (by omega),yes (a':=w) (b':=9 + far) (c':=n) (d':=t) (ls':=l4) e (lset vv rfl rfl (j:=1) rfl),no (by omega)]
   ·obtain ⟨v,l5,k1,k2,k3⟩:=x_take (ρ:=R l4 w h n t) (i:=1) (ls:=l4) (fm:=eC (.int 2)) (m:=2) (t:=.own) rfl rfl (by omega)
    have e1':xP (e2 oAdd (eC (.int 21)) (eVar 4)) (R l4 w h n t)=some (.int (21 + far),R l4 w h n t):=rfl
    have e2':xP (e2 oSub (e2 oIx (eVar 6) (eC (.int 2))) (eC (.int 1))) (R l4 w h n t)=some (.int (n - 1),R l4 w h n t):=rfl
    have hl:=s_xa e1' (s_xa e2' s_xa0)
    have fin:∀ x:Int,okN w h n x=false→(xIx (xaCons (xP (e2 oAdd (eC (.int 21)) (eVar 4))) (xaCons (xP (e2 oSub (e2 oIx (eVar 6) (eC (.int 2))) (eC (.int 1)))) xaNil)) (xM 1 takeG (xaCons (xP (eC (.int 2))) xaNil))) (R l4 w h n t)=some (.int x,mutS (R l4 w h n t) 1 (.lst (l5.map D.int)))→_:=fun x hno hx=>(⟨l5,w,h,n,x,hno,fun rest=>by
     have hs:sLsetX 6 (eC (.int 3)) (xIx (xaCons (xP (e2 oAdd (eC (.int 21)) (eVar 4))) (xaCons (xP (e2 oSub (e2 oIx (eVar 6) (eC (.int 2))) (eC (.int 1)))) xaNil)) (xM 1 takeG (xaCons (xP (eC (.int 2))) xaNil))) (R l4 w h n t)=some (.nx (R l5 w h n x)):=by
      unfold sLsetX
      rw [hx]
      rfl
     rw [skip,no (by omega),no (by omega),yes e hs]⟩:∃ (l5:List Int) (a b c d:Int),okN a b c d=false∧∀ rest:SF,sSeq (sIf (tV (e2 oLt (eVar 5) (eC (.int 4)))) (sLset 6 (eVar 5) (e1 oNeg (eVar 4))) sNx) (sSeq (sIf (tV (e2 oEq (eVar 5) (eC (.int 4)))) (sLset 6 (eC (.int 0)) (e2 oAdd (eC (.int 17)) (eVar 4))) sNx) (sSeq (sIf (tV (e2 oEq (eVar 5) (eC (.int 5)))) (sLset 6 (eC (.int 1)) (e2 oAdd (eC (.int 9)) (eVar 4))) sNx) (sSeq (sIf (tV (e2 oEq (eVar 5) (eC (.int 6)))) (sLsetX 6 (eC (.int 3)) (xIx (xaCons (xP (e2 oAdd (eC (.int 21)) (eVar 4))) (xaCons (xP (e2 oSub (e2 oIx (eVar 6) (eC (.int 2))) (eC (.int 1)))) xaNil)) (xM 1 takeG (xaCons (xP (eC (.int 2))) xaNil)))) sNx) rest))) (R l4 w h n t)=rest (R l5 a b c d))
    have cv:v=0∨v=1:=by omega
    rcases cv with rfl | rfl
    ·exact fin _ (no_t (.inr (by omega))) (s_xIx hl k3 rfl)
    ·exact fin _ (no_n (.inr (by omega))) (s_xIx hl k3 rfl)
 obtain ⟨l5,a,b,c,d,hno,key⟩:=key
 have q7:tNot1 (tV (eCall F_L_refused (aCons (eVar 6) aNil))) (R l5 a b c d)=some false:=by
  have v6:eVar 6 (R l5 a b c d)=some (dL a b c d,.sh [6]):=rfl
  rw [s_not,s_tV,s_call,s_aCons,v6,s_aNil,s_consK,s_bind]
  simp only [List.map_cons,List.map_nil]
  unfold dL
  rw [f_refused hno];rfl
 have q8:sSet 7 (eMake "Gate" F_Gate_init (aCons (e2 oIx (eVar 2) (eC (.int 0))) (aCons (e2 oIx (eVar 2) (eC (.int 1))) (aCons (e2 oIx (eVar 2) (eC (.int 2))) (aCons (e2 oIx (eVar 2) (eC (.int 3))) aNil))))) (R l5 a b c d)=some (.nx (rW ns l5 (some (dL w h n t,.own)) (some (dL w2 h2 n2 t2,.own)) (some (.int far,.own)) (some (.int at_,.own)) (some (dL a b c d,.own)) (some (gD w h n t,.own)) none none)):=by
  rw [s_set]
  unfold eMake
  rw [a4 (a:=w) (b:=h) (c:=n) (d:=t) (t:=.sh [2]) rfl,Option.bind_some]
  simp only [List.map_cons,List.map_nil]
  rw [f_init ok1];rfl
 have q9:sSet 8 (eMake "Gate" F_Gate_init (aCons (e2 oIx (eVar 3) (eC (.int 0))) (aCons (e2 oIx (eVar 3) (eC (.int 1))) (aCons (e2 oIx (eVar 3) (eC (.int 2))) (aCons (e2 oIx (eVar 3) (eC (.int 3))) aNil))))) (rW ns l5 (some (dL w h n t,.own)) (some (dL w2 h2 n2 t2,.own)) (some (.int far,.own)) (some (.int at_,.own)) (some (dL a b c d,.own)) (some (gD w h n t,.own)) none none)=some (.nx (rW ns l5 (some (dL w h n t,.own)) (some (dL w2 h2 n2 t2,.own)) (some (.int far,.own)) (some (.int at_,.own)) (some (dL a b c d,.own)) (some (gD w h n t,.own)) (some (gD w2 h2 n2 t2,.own)) none)):=by
  rw [s_set]
  unfold eMake
  rw [a4 (a:=w2) (b:=h2) (c:=n2) (d:=t2) (t:=.sh [3]) rfl,Option.bind_some]
  simp only [List.map_cons,List.map_nil]
  rw [f_init ok2];rfl
 let Z:=fun (s9:L2.Ev.Slot)=>rW ns l5 (some (dL w h n t,.own)) (some (dL w2 h2 n2 t2,.own)) (some (.int far,.own)) (some (.int at_,.own)) (some (dL a b c d,.own)) (some (gD w h n t,.own)) (some (gD w2 h2 n2 t2,.own)) s9
 obtain ⟨ρ',l1',s9,rfl⟩:=loop_nx (g:=gN 9) (t:=.sh []) (f:=sIf (tOr2 (tNot1 (tV (eCall F_L_new (aCons (eVar 7) (aCons (eVar 2) aNil))))) (tNot1 (tV (eCall F_L_new (aCons (eVar 8) (aCons (eVar 3) aNil)))))) (sRet (eC (.bl false))) sNx) (fun _ ρ=>∃ s9,ρ=Z s9)
  (ds:=(List.range (2:Int).toNat).map fun i:Nat=>D.int (0 + (i:Int))) (ρ:=Z none) (n:=0) ⟨none,rfl⟩ (fun j ρ dd hd hp=>by
   obtain ⟨rfl,hj⟩:=range_at hd
   obtain ⟨s9,rfl⟩:=hp
   refine ⟨Z (some (.int j,.sh [])),Z (some (.int j,.sh [])),rfl,.inl ?_,some (.int j,.sh []),rfl⟩
   have z1:tNot1 (tV (eCall F_L_new (aCons (eVar 7) (aCons (eVar 2) aNil)))) (Z (some (.int j,.sh [])))=some false:=by
    have v7:eVar 7 (Z (some (.int j,.sh [])))=some (gD w h n t,.sh [7]):=rfl
    have v2:eVar 2 (Z (some (.int j,.sh [])))=some (dL w h n t,.sh [2]):=rfl
    rw [s_not,s_tV,s_call,s_aCons,s_aCons,v7,v2,s_aNil,s_consK,s_consK,s_bind]
    simp only [List.map_cons,List.map_nil]
    unfold dL
    rw [f_new];rfl
   have z2:tNot1 (tV (eCall F_L_new (aCons (eVar 8) (aCons (eVar 3) aNil)))) (Z (some (.int j,.sh [])))=some false:=by
    have v7:eVar 8 (Z (some (.int j,.sh [])))=some (gD w2 h2 n2 t2,.sh [8]):=rfl
    have v2:eVar 3 (Z (some (.int j,.sh [])))=some (dL w2 h2 n2 t2,.sh [3]):=rfl
    rw [s_not,s_tV,s_call,s_aCons,s_aCons,v7,v2,s_aNil,s_consK,s_consK,s_bind]
    simp only [List.map_cons,List.map_nil]
    unfold dL
    rw [f_new];rfl
   rw [s_if,s_or2 z1 z2]
   rfl)
 unfold B_law
 rw [s_seq,q1,s_seqN,s_seq,q2,s_seqN,s_seq,q3,s_seqN,s_seq,q4,s_seqN,s_seq,q5,s_seqN,s_seq,q6,s_seqN]
 show sSeq _ _ (R l4 w h n t)=_
 rw [key,s_seq,s_if,q7,s_ifF,s_nx,s_seqN,s_seq,q8,s_seqN,s_seq,q9,s_seqN]
 show sSeq _ _ (Z none)=_
 rw [s_seq,for_nx0 (ir1 (t:=.own) rfl (by decide)) l1',s_seqN]
 rfl
end K41
namespace HT
open PySem PySem.W PyProof.Rows
def oddL:List Obj→List Obj
 | []=>[]
 | [a]=>[a]
 | a::_::l=>a::oddL l
def ofL:Nat→List Obj→BT
 | 0,_=>.nil
 | _ + 1,[]=>.nil
 | k + 1,o::l=>.node o (ofL k (oddL l)) (ofL k (oddL l.tail))
def runT (tb:String→Option Builtin) (p:Program) (w:World) (n₀:Nat) (ann:Option Value):Nat→SharedT→Thread→Option SharedT
 | 0,_,_=>none
 | k + 1,s,t=>match through t with
  | true=>some s
  | false=>match stepOk n₀ ann t with
   | false=>none
   | true=>match stepT (denote tb) p w s t with
    | none=>none
    | some (s',t')=>runT tb p w n₀ ann k s' t'
theorem runT_is {tb:String→Option Builtin}{p:Program}{w:World}{n₀:Nat}{ann:Option Value}:∀ {k:Nat}{s s':SharedT}{t:Thread},runT tb p w n₀ ann k s t=some s'→topRun tb p w n₀ ann k s.abs t=some s'.abs
 | 0,_,_,_,h=>by cases h
 | k + 1,s,s',t,h=>by
  unfold runT at h
  unfold topRun
  cases e:through t with
  | true=>rw [e] at h;cases h;rfl
  | false=>
   rw [e] at h
   cases o:stepOk n₀ ann t with
   | false=>rw [o] at h;cases h
   | true=>
    rw [o] at h
    cases g:stepT (denote tb) p w s t with
    | none=>rw [g] at h;cases h
    | some r=>obtain ⟨s2,t2⟩:=r;rw [g] at h;rw [stepT_spec g];exact runT_is h
noncomputable def bootT (P:Params):BT:=ofL 12 (boot_heap P).objs.toList
def bootN:Nat:=11
theorem boot_size (P:Params):(boot_heap P).objs.size=bootN:=by kernel_rfl
theorem boot_abs (P:Params):absHeap (bootT P) bootN (boot_heap P).life=boot_heap P:=by kernel_rfl
noncomputable def s0T (P:Params) (os:OsState):SharedT:=⟨bootT P,bootN,(boot_heap P).life,Array.mk [],boot_drawn,boot_toks,os⟩
theorem left_T {p q:Program}{loose:List Str}{Xt:Shared→Bool}{α:Type}{Yf:Shared→α}{Ya:World→α}{N:Nat}{ann:Option Value}
  (he:opening p=plainProg p.main.scope.names) (hf:∀ s,fenceModules? p s=some s) (hN:Nat.ble 600 N=true)
  (hz:∀ P:Params,((boot_heap P).isNs mainGlobals,(boot_heap P).nsMap mainGlobals "__annotations__")=(true,ann))
  (h:∀ (w:World) (os:OsState),(runT treeTable p w bootN ann N (s0T w.params os) (topStub p)).map (fun sT=>
    ((staticsOk (importedModules p.main.body) (boot_heap w.params) sT.abs.heap&&namesBound p sT.abs.heap&&gensDone sT.abs&&laidKept (boot_heap w.params) sT.abs.heap),openSeen q loose (importedModules p.main.body) Xt true sT.abs,Yf sT.abs))=some (true,openGood q loose,Ya w)) :
  LeftO p q loose Xt Yf Ya N:=fun w=>by
 obtain ⟨⟨hh,gs,d,k,os⟩,e,e'⟩:=Option.map_eq_some_iff.mp (boot_open he hN hf w)
 obtain ⟨rfl,rfl,rfl,rfl⟩:hh=boot_heap w.params∧gs=Array.mk []∧d=boot_drawn∧k=boot_toks:=by simpa using e'
 obtain ⟨z1,z2⟩:_∧_:=by simpa only [Prod.mk.injEq] using hz w.params
 obtain ⟨sT,r,l⟩:=Option.map_eq_some_iff.mp (h w os)
 obtain ⟨l1,l2,l3⟩:_∧_∧_:=by simpa only [Prod.mk.injEq] using l
 have r':=runT_is r
 have ab:(s0T w.params os).abs=⟨boot_heap w.params,Array.mk [],boot_drawn,boot_toks,os⟩:=by
  show Shared.mk (absHeap (bootT w.params) bootN (boot_heap w.params).life) _ _ _ _=_
  rw [boot_abs];rfl
 rw [ab] at r'
 have t:topFrom treeTable p w N ⟨boot_heap w.params,Array.mk [],boot_drawn,boot_toks,os⟩=some sT.abs:=by
  unfold topFrom
  dsimp only
  rw [z1,z2,boot_size,r']
  show (match staticsOk (importedModules p.main.body) (boot_heap w.params) sT.abs.heap&&namesBound p sT.abs.heap&&gensDone sT.abs&&laidKept (boot_heap w.params) sT.abs.heap with | true=>_ | false=>_)=_
  rw [l1]
 unfold openEnds
 rw [e]
 show (topFrom treeTable p w N _).map _=_
 rw [t]
 exact congrArg some (Prod.ext l2 l3)
theorem left_T2 {p q:Program}{loose:List Str}{Xt:Shared→Bool}{α:Type}{Yf:Shared→α}{Ya:World→α}{N:Nat}{ann:Option Value}
  (he:opening p=plainProg p.main.scope.names) (hf:∀ s,fenceModules? p s=some s) (hN:Nat.ble 600 N=true)
  (hz:∀ P:Params,((boot_heap P).isNs mainGlobals,(boot_heap P).nsMap mainGlobals "__annotations__")=(true,ann))
  (h1:∀ (w:World) (os:OsState),(runT treeTable p w bootN ann N (s0T w.params os) (topStub p)).map (fun sT=>((staticsOk (importedModules p.main.body) (boot_heap w.params) sT.abs.heap&&namesBound p sT.abs.heap&&gensDone sT.abs&&laidKept (boot_heap w.params) sT.abs.heap),openSeen q loose (importedModules p.main.body) Xt true sT.abs))=some (true,openGood q loose))
  (h3:∀ (w:World) (os:OsState),(runT treeTable p w bootN ann N (s0T w.params os) (topStub p)).map (fun sT=>Yf sT.abs)=some (Ya w)) :
  LeftO p q loose Xt Yf Ya N:=left_T he hf hN hz fun w os=>by
 obtain ⟨sT,r,e1⟩:=Option.map_eq_some_iff.mp (h1 w os)
 have e3:=h3 w os
 rw [r] at e3 ⊢
 have e3:=Option.some.inj e3
 obtain ⟨e1,e2⟩:_∧_:=by simpa only [Prod.mk.injEq] using e1
 show some (_,_,_)=some (true,openGood q loose,Ya w)
 rw [e1,← e2,← e3]
def tg (s:SharedT) (a:Nat):Option Obj:=match Nat.blt a s.n with
 | true=>match s.tree.get a with
  | some o=>alive o
  | none=>none
 | false=>none
theorem tg_is {s:SharedT}{a:Nat}{o:Obj} (h:tg s a=some o):s.abs.heap.get? a=some o:=by
 unfold tg at h
 cases e:Nat.blt a s.n with
 | false=>rw [e] at h;cases h
 | true=>
  rw [e] at h
  dsimp only at h
  cases g:s.tree.get a with
  | none=>rw [g] at h;cases h
  | some o'=>
   rw [g] at h
   have hlt:a < s.n:=by simpa using e
   exact (abs_get (life:=s.life) hlt g).trans h
theorem tgs_is {s:SharedT}:∀ {as:List Addr}{os:List Obj},as.map (tg s)=os.map some→as.map s.abs.heap.get? = os.map some
 | [],[],_=>rfl
 | [],_::_,h=>by cases h
 | _::_,[],h=>by cases h
 | a::as,o::os,h=>by
  rw [List.map_cons,List.map_cons] at h
  injection h with h1 h2
  rw [List.map_cons,List.map_cons,tg_is h1,tgs_is h2]
section
variable {p q:Program}{loose:List Str}{Xt:Shared→Bool}{N:Nat}{ann:Option Value}{K:Params→Frag}{as ts:List Addr}{e:∀ P,as=(K P).map (·.1)}
theorem left_Tkm (he:opening p=plainProg p.main.scope.names) (hf:∀ s,fenceModules? p s=some s) (hN:Nat.ble 600 N=true)
  (hz:∀ P:Params,((boot_heap P).isNs mainGlobals,(boot_heap P).nsMap mainGlobals "__annotations__")=(true,ann))
  (h1:∀ (w:World) (os:OsState),(runT treeTable p w bootN ann N (s0T w.params os) (topStub p)).map (fun sT=>((staticsOk (importedModules p.main.body) (boot_heap w.params) sT.abs.heap&&namesBound p sT.abs.heap&&gensDone sT.abs&&laidKept (boot_heap w.params) sT.abs.heap),openSeen q loose (importedModules p.main.body) Xt true sT.abs))=some (true,openGood q loose))
  (h3:∀ (w:World) (os:OsState),(runT treeTable p w bootN ann N (s0T w.params os) (topStub p)).map (fun sT=>(as.map (tg sT),ts.map (tg sT)))=some (((K w.params).map (·.2)).map some,(ts.map fun _=>tabObj #[]).map some)) :
  LeftO p q loose Xt (Hook.obs (kmHook K as e ts)) (Hook.val (kmHook K as e ts)) N:=left_T2 he hf hN hz h1 fun w os=>by
 obtain ⟨sT,r,e1⟩:=Option.map_eq_some_iff.mp (h3 w os)
 obtain ⟨e1,e2⟩:_∧_:=by simpa only [Prod.mk.injEq] using e1
 rw [r]
 show some (as.map sT.abs.heap.get?,ts.map sT.abs.heap.get?)=some ((K w.params).map fun p=>some p.2,ts.map fun _=>some (tabObj #[]))
 rw [tgs_is e1,tgs_is e2,List.map_map,List.map_map];rfl
end
end HT
namespace K41
open PySem L2 L2.Ev
local macro_rules | `(tactic| walk_at "ba1")=>`(tactic| exact fun _ _ _ _ _ _ us hl=>match us,hl with | [_],_=>rfl)
local macro_rules | `(tactic| walk_at "ba2")=>`(tactic| exact fun _ _ _ _ _ _ us hl=>match us,hl with | [_,_],_=>rfl)
local macro_rules | `(tactic| walk_at "ba3")=>`(tactic| exact fun _ _ _ _ _ _ us hl=>match us,hl with | [_,_,_],_=>rfl)
local macro_rules | `(tactic| walk_at "ba4")=>`(tactic| exact fun _ _ _ _ _ _ us hl=>match us,hl with | [_,_,_,_],_=>rfl)
local macro_rules | `(tactic| walk_at "ba5")=>`(tactic| exact fun _ _ _ _ _ _ us hl=>match us,hl with | [_,_,_,_,_],_=>rfl)
set_option maxHeartbeats 0 in
theorem all_mk {l:PySem.W.OpenLaw}{w:World}{K:PySem.W.Frag}{h:Heap}{mg:Str→Option Value}{fa c_Changes c_Gate c_LinegateError c_NoAnswer c_NoChange c_NoFit c_NoLook c_NoRow c_NoRule c_NoText c_TooLate c_TooMany:Addr} (X:K.In h) (G:h.Ns mainGlobals mg) (hfa:mg "law"=some (.ref fa))
  {t_GREATEST_RANK t_GREATEST_SLOT t_GREATEST_VALUE t_MOST_CHANGES t_MOST_EDITS t_MOST_HANDS t_MOST_TRIES t_MOST_WIDTH:Tok}
  (n_LinegateError:PySem.W.nsIn K mainGlobals "LinegateError"=some (some (.ref c_LinegateError)))
  (n_NoAnswer:PySem.W.nsIn K mainGlobals "NoAnswer"=some (some (.ref c_NoAnswer)))
  (n_NoChange:PySem.W.nsIn K mainGlobals "NoChange"=some (some (.ref c_NoChange)))
  (n_NoFit:PySem.W.nsIn K mainGlobals "NoFit"=some (some (.ref c_NoFit)))
  (n_NoLook:PySem.W.nsIn K mainGlobals "NoLook"=some (some (.ref c_NoLook)))
  (n_NoRow:PySem.W.nsIn K mainGlobals "NoRow"=some (some (.ref c_NoRow)))
  (n_NoRule:PySem.W.nsIn K mainGlobals "NoRule"=some (some (.ref c_NoRule)))
  (n_NoText:PySem.W.nsIn K mainGlobals "NoText"=some (some (.ref c_NoText)))
  (n_TooLate:PySem.W.nsIn K mainGlobals "TooLate"=some (some (.ref c_TooLate)))
  (n_TooMany:PySem.W.nsIn K mainGlobals "TooMany"=some (some (.ref c_TooMany)))
  (x_LinegateError:PySem.W.excIn K c_LinegateError veMro "ValueError.__new__"=true)
  (x_NoRule:PySem.W.excIn K c_NoRule veMro "ValueError.__new__"=true)
  (mb_LinegateError:PySem.W.mroIn K c_LinegateError (.type "BaseException")=some true)
  (mr_NoRule_LinegateError:PySem.W.mroIn K c_NoRule (.ref c_LinegateError)=some true)
  (sg:PySem.W.specialIn K (.builtin "object.__class__") "__get__"=some (some (.builtin "getset_descriptor.__get__")))
  (tk:PySem.W.takesIn K (.builtin "object.__class__")=some true)
  (ga_NoRule:PySem.W.findIn K (.ref c_NoRule) "__getattribute__"=some (some (.builtin "BaseException.__getattribute__")))
  (gh_NoRule:PySem.W.findIn K (.ref c_NoRule) "__getattr__"=some none)
  (at_NoRule:PySem.W.findIn K (.ref c_NoRule) "__class__"=some (some (.builtin "object.__class__")))
  (mo_NoRule:PySem.W.mroIn K c_NoRule (.type "object")=some true)
  (me_NoRule:PySem.W.mroIn K c_NoRule (.type "BaseException")=some true)
  (kt_NoAnswer_NoRule:PySem.W.kitOne K (.ref c_NoRule) (.ref c_NoAnswer)=some false)
  (kt_NoChange_NoRule:PySem.W.kitOne K (.ref c_NoRule) (.ref c_NoChange)=some false)
  (kt_NoFit_NoRule:PySem.W.kitOne K (.ref c_NoRule) (.ref c_NoFit)=some false)
  (kt_NoLook_NoRule:PySem.W.kitOne K (.ref c_NoRule) (.ref c_NoLook)=some false)
  (kt_NoRow_NoRule:PySem.W.kitOne K (.ref c_NoRule) (.ref c_NoRow)=some false)
  (kt_NoRule_NoRule:PySem.W.kitOne K (.ref c_NoRule) (.ref c_NoRule)=some true)
  (kt_NoText_NoRule:PySem.W.kitOne K (.ref c_NoRule) (.ref c_NoText)=some false)
  (kt_TooLate_NoRule:PySem.W.kitOne K (.ref c_NoRule) (.ref c_TooLate)=some false)
  (kt_TooMany_NoRule:PySem.W.kitOne K (.ref c_NoRule) (.ref c_TooMany)=some false)
  (kt_ValueError_NoRule:PySem.W.kitOne K (.ref c_NoRule) (.type "ValueError")=some true)
  (n_Changes:PySem.W.nsIn K mainGlobals "Changes"=some (some (.ref c_Changes)))
  (pg_Changes:PySem.W.plainGet K c_Changes Str.empty=true)
  (hd_Changes:PySem.W.hasDictIn K c_Changes=true)
  (po_Changes:PySem.W.plainOver K c_Changes=true)
  (sa_Changes:PySem.W.findIn K (.ref c_Changes) "__setattr__"=some (some (.builtin "object.__setattr__")))
  (n_Gate:PySem.W.nsIn K mainGlobals "Gate"=some (some (.ref c_Gate)))
  (pg_Gate:PySem.W.plainGet K c_Gate Str.empty=true)
  (hd_Gate:PySem.W.hasDictIn K c_Gate=true)
  (po_Gate:PySem.W.plainOver K c_Gate=true)
  (sa_Gate:PySem.W.findIn K (.ref c_Gate) "__setattr__"=some (some (.builtin "object.__setattr__")))
  (mk_Changes:PySem.W.makesIn K c_Changes=true)
  (kc_Changes:PySem.W.keepIn K (.ref c_Changes)=true)
  (mk_Gate:PySem.W.makesIn K c_Gate=true)
  (kc_Gate:PySem.W.keepIn K (.ref c_Gate)=true)
  (na_Changes_entries:PySem.W.findIn K (.ref c_Changes) "entries"=some none)
  (na_Gate_answers:PySem.W.findIn K (.ref c_Gate) "answers"=some none)
  (na_Gate_breaks:PySem.W.findIn K (.ref c_Gate) "breaks"=some none)
  (na_Gate_ended:PySem.W.findIn K (.ref c_Gate) "ended"=some none)
  (na_Gate_grounds:PySem.W.findIn K (.ref c_Gate) "grounds"=some none)
  (na_Gate_grown:PySem.W.findIn K (.ref c_Gate) "grown"=some none)
  (na_Gate_halted:PySem.W.findIn K (.ref c_Gate) "halted"=some none)
  (na_Gate_known:PySem.W.findIn K (.ref c_Gate) "known"=some none)
  (na_Gate_laid_ones:PySem.W.findIn K (.ref c_Gate) "laid_ones"=some none)
  (na_Gate_looks:PySem.W.findIn K (.ref c_Gate) "looks"=some none)
  (na_Gate_numbers:PySem.W.findIn K (.ref c_Gate) "numbers"=some none)
  (na_Gate_on_line:PySem.W.findIn K (.ref c_Gate) "on_line"=some none)
  (na_Gate_tallies:PySem.W.findIn K (.ref c_Gate) "tallies"=some none)
  (l0:GFn K "_law_take" s_L_take)
  (l1:GFn K "_law_within" s_L_within)
  (l2:GFn K "within" s_within)
  (l3:GFn K "makes_tally" s_makes_tally)
  (l4:GM K c_Changes "__init__" "Changes.__init__" s_Changes_init)
  (l5:GM K c_Gate "__init__" "Gate.__init__" s_Gate_initR)
  (l6:GFn K "_law_refused" s_L_refused)
  (l7:GM K c_Gate "__init__" "Gate.__init__" s_Gate_init)
  (l8:GM K c_Gate "settled" "Gate.settled" s_Gate_settled)
  (l9:GM K c_Gate "growths" "Gate.growths" s_Gate_growths)
  (l10:GM K c_Gate "wanted" "Gate.wanted" s_Gate_wanted)
  (l11:GM K c_Gate "outs" "Gate.outs" s_Gate_outs)
  (l12:GM K c_Changes "many" "Changes.many" s_Changes_many)
  (l13:GM K c_Gate "waits" "Gate.waits" s_Gate_waits)
  (l14:GM K c_Gate "waiting" "Gate.waiting" s_Gate_waiting)
  (l15:GM K c_Gate "laid" "Gate.laid" s_Gate_laid)
  (l16:GM K c_Gate "line" "Gate.line" s_Gate_line)
  (l17:GFn K "misfit" s_misfit)
  (l18:GFn K "sheet_of_values" s_sheet_of_values)
  (l19:GFn K "edited_in_turn" s_edited_in_turn)
  (l20:GM K c_Changes "has" "Changes.has" s_Changes_has)
  (l21:GM K c_Changes "entry_of" "Changes.entry_of" s_Changes_entry_of)
  (l22:GM K c_Changes "edits_of" "Changes.edits_of" s_Changes_edits_of)
  (l23:GFn K "sheet_of" s_sheet_of)
  (l24:GM K c_Gate "sheet" "Gate.sheet" s_Gate_sheet)
  (l25:GFn K "_law_same" s_L_same)
  (l26:GM K c_Gate "settings" "Gate.settings" s_Gate_settings)
  (l27:GM K c_Gate "counts" "Gate.counts" s_Gate_counts)
  (l28:GM K c_Gate "stopped" "Gate.stopped" s_Gate_stopped)
  (l29:GM K c_Gate "bad" "Gate.bad" s_Gate_bad)
  (l30:GM K c_Changes "copied" "Changes.copied" s_Changes_copied)
  (l31:GM K c_Gate "changes" "Gate.changes" s_Gate_changes)
  (l32:GFn K "rising" s_rising)
  (l33:GFn K "are_edits" s_are_edits)
  (l34:GM K c_Changes "makes_change" "Changes.makes_change" s_Changes_makes_change)
  (l35:GM K c_Changes "added" "Changes.added" s_Changes_added)
  (l36:GFn K "_law_new" s_L_new)
  (l37:GFn K "law" s_law)
  (z_GREATEST_RANK:PySem.W.nsIn K mainGlobals "GREATEST_RANK"=some (some (.int 9 t_GREATEST_RANK)))
  (z_GREATEST_SLOT:PySem.W.nsIn K mainGlobals "GREATEST_SLOT"=some (some (.int 999 t_GREATEST_SLOT)))
  (z_GREATEST_VALUE:PySem.W.nsIn K mainGlobals "GREATEST_VALUE"=some (some (.int 1000000000 t_GREATEST_VALUE)))
  (z_MOST_CHANGES:PySem.W.nsIn K mainGlobals "MOST_CHANGES"=some (some (.int 60 t_MOST_CHANGES)))
  (z_MOST_EDITS:PySem.W.nsIn K mainGlobals "MOST_EDITS"=some (some (.int 20 t_MOST_EDITS)))
  (z_MOST_HANDS:PySem.W.nsIn K mainGlobals "MOST_HANDS"=some (some (.int 8 t_MOST_HANDS)))
  (z_MOST_TRIES:PySem.W.nsIn K mainGlobals "MOST_TRIES"=some (some (.int 20 t_MOST_TRIES)))
  (z_MOST_WIDTH:PySem.W.nsIn K mainGlobals "MOST_WIDTH"=some (some (.int 16 t_MOST_WIDTH)))
  (z_ValueError:PySem.W.nsIn K mainGlobals "ValueError"=some none)
  (z_all:PySem.W.nsIn K mainGlobals "all"=some none)
  (z_bool:PySem.W.nsIn K mainGlobals "bool"=some none)
  (z_dict:PySem.W.nsIn K mainGlobals "dict"=some none)
  (z_int:PySem.W.nsIn K mainGlobals "int"=some none)
  (z_isinstance:PySem.W.nsIn K mainGlobals "isinstance"=some none)
  (z_len:PySem.W.nsIn K mainGlobals "len"=some none)
  (z_list:PySem.W.nsIn K mainGlobals "list"=some none)
  (z_min:PySem.W.nsIn K mainGlobals "min"=some none)
  (z_range:PySem.W.nsIn K mainGlobals "range"=some none)
  (z_reversed:PySem.W.nsIn K mainGlobals "reversed"=some none)
  (z_sorted:PySem.W.nsIn K mainGlobals "sorted"=some none)
  (z_str:PySem.W.nsIn K mainGlobals "str"=some none)
  (z_tuple:PySem.W.nsIn K mainGlobals "tuple"=some none)
  (z_zip:PySem.W.nsIn K mainGlobals "zip"=some none)
  : ∃ fd:FuncData,(∀ (s:Shared) (v:Value),BindsTo s fd ⟨[v],[]⟩ [("_law_script",v)])∧∀ base:Heap,K.In base→base.Ns mainGlobals mg→FnOk l.prog w K mg base CX0 8 fa fd ["_law_script"] (spF K F_law):=by
 have g_ValueError:=PySem.W.mg_none_of X G z_ValueError
 have g_all:=PySem.W.mg_none_of X G z_all
 have g_bool:=PySem.W.mg_none_of X G z_bool
 have g_dict:=PySem.W.mg_none_of X G z_dict
 have g_int:=PySem.W.mg_none_of X G z_int
 have g_isinstance:=PySem.W.mg_none_of X G z_isinstance
 have g_len:=PySem.W.mg_none_of X G z_len
 have g_list:=PySem.W.mg_none_of X G z_list
 have g_min:=PySem.W.mg_none_of X G z_min
 have g_range:=PySem.W.mg_none_of X G z_range
 have g_reversed:=PySem.W.mg_none_of X G z_reversed
 have g_sorted:=PySem.W.mg_none_of X G z_sorted
 have g_str:=PySem.W.mg_none_of X G z_str
 have g_tuple:=PySem.W.mg_none_of X G z_tuple
 have g_zip:=PySem.W.mg_none_of X G z_zip
 have m_GREATEST_RANK:=PySem.W.mg_of X G z_GREATEST_RANK
 have m_GREATEST_SLOT:=PySem.W.mg_of X G z_GREATEST_SLOT
 have m_GREATEST_VALUE:=PySem.W.mg_of X G z_GREATEST_VALUE
 have m_MOST_CHANGES:=PySem.W.mg_of X G z_MOST_CHANGES
 have m_MOST_EDITS:=PySem.W.mg_of X G z_MOST_EDITS
 have m_MOST_HANDS:=PySem.W.mg_of X G z_MOST_HANDS
 have m_MOST_TRIES:=PySem.W.mg_of X G z_MOST_TRIES
 have m_MOST_WIDTH:=PySem.W.mg_of X G z_MOST_WIDTH
 have m_LinegateError:=PySem.W.mg_of X G n_LinegateError
 have m_NoAnswer:=PySem.W.mg_of X G n_NoAnswer
 have m_NoChange:=PySem.W.mg_of X G n_NoChange
 have m_NoFit:=PySem.W.mg_of X G n_NoFit
 have m_NoLook:=PySem.W.mg_of X G n_NoLook
 have m_NoRow:=PySem.W.mg_of X G n_NoRow
 have m_NoRule:=PySem.W.mg_of X G n_NoRule
 have m_NoText:=PySem.W.mg_of X G n_NoText
 have m_TooLate:=PySem.W.mg_of X G n_TooLate
 have m_TooMany:=PySem.W.mg_of X G n_TooMany
 have X_NoRule:=excCls_of x_NoRule
 have CT_LinegateError:=(catchT_cons n_NoRule (catches_of (shape_of x_NoRule) (shape_of x_LinegateError) mr_NoRule_LinegateError mb_LinegateError) catchT_nil)
 have EK_NoRule:ExcKit K c_NoRule:=⟨ga_NoRule,gh_NoRule,at_NoRule,sg,tk,mo_NoRule,me_NoRule,cls_of_mro mo_NoRule⟩
 have KT_NoAnswer:=(kitT_cons n_NoRule EK_NoRule kt_NoAnswer_NoRule kitT_nil)
 have KT_NoChange:=(kitT_cons n_NoRule EK_NoRule kt_NoChange_NoRule kitT_nil)
 have KT_NoFit:=(kitT_cons n_NoRule EK_NoRule kt_NoFit_NoRule kitT_nil)
 have KT_NoLook:=(kitT_cons n_NoRule EK_NoRule kt_NoLook_NoRule kitT_nil)
 have KT_NoRow:=(kitT_cons n_NoRule EK_NoRule kt_NoRow_NoRule kitT_nil)
 have KT_NoRule:=(kitT_cons n_NoRule EK_NoRule kt_NoRule_NoRule kitT_nil)
 have KT_NoText:=(kitT_cons n_NoRule EK_NoRule kt_NoText_NoRule kitT_nil)
 have KT_TooLate:=(kitT_cons n_NoRule EK_NoRule kt_TooLate_NoRule kitT_nil)
 have KT_TooMany:=(kitT_cons n_NoRule EK_NoRule kt_TooMany_NoRule kitT_nil)
 have KT_ValueError:=(kitT_cons n_NoRule EK_NoRule kt_ValueError_NoRule kitT_nil)
 have KTT:=(kitTs_cons n_NoRule EK_NoRule (kitAny_f kt_NoAnswer_NoRule (kitAny_f kt_NoChange_NoRule (kitAny_f kt_NoFit_NoRule (kitAny_f kt_NoLook_NoRule (kitAny_f kt_NoRow_NoRule (kitAny_f kt_NoText_NoRule (kitAny_f kt_TooLate_NoRule (kitAny_f kt_TooMany_NoRule kitAny_nil)))))))) kitTs_nil)
 have C_Changes:ClsAt K "Changes" c_Changes:=⟨n_Changes,⟨pg_Changes,hd_Changes,po_Changes,sa_Changes⟩⟩
 have m_Changes:=PySem.W.mg_of X G n_Changes
 have C_Gate:ClsAt K "Gate" c_Gate:=⟨n_Gate,⟨pg_Gate,hd_Gate,po_Gate,sa_Gate⟩⟩
 have m_Gate:=PySem.W.mg_of X G n_Gate
 refine lawW (sp:=fun _=>spF K F_law) X G hfa l37 (fun _ _ _ _ _ _ _ _=>.of_eq rfl) fun base _ _ _ _ F=>?_
 have W0:=fnW X G l0 (fun F=>ok_L_take (P:=l.prog) (w:=w) (mg:=mg) (base:=base) g_len F) (by walk_at "ba2")
 have W1:=fnW X G l1 (fun F=>ok_L_within (P:=l.prog) (w:=w) (mg:=mg) (base:=base) W0 F) (by walk_at "ba1")
 have W2:=fnW X G l2 (fun F=>ok_within (P:=l.prog) (w:=w) (mg:=mg) (base:=base) g_bool g_int g_isinstance F) (by walk_at "ba3")
 have W3:=fnW X G l3 (fun F=>ok_makes_tally (P:=l.prog) (w:=w) (mg:=mg) (base:=base) m_MOST_TRIES W2 F) (by walk_at "ba2")
 have W4:=miW l4 mk_Changes kc_Changes (fun F=>ok_Changes_init (P:=l.prog) (w:=w) (mg:=mg) (base:=base) C_Changes na_Changes_entries F) (by walk_at "ba1")
 have W5:=miW l5 mk_Gate kc_Gate (fun F=>ok_Gate_initR (P:=l.prog) (w:=w) (mg:=mg) (base:=base) m_MOST_HANDS m_MOST_WIDTH m_NoRule X_NoRule n_NoRule C_Changes C_Gate na_Gate_answers na_Gate_breaks na_Gate_ended na_Gate_grounds na_Gate_grown na_Gate_halted na_Gate_known na_Gate_laid_ones na_Gate_looks na_Gate_numbers na_Gate_on_line na_Gate_tallies W3 W2 W4 m_Changes F) (by walk_at "ba5")
 have W6:=fnW X G l6 (fun F=>ok_L_refused (P:=l.prog) (w:=w) (mg:=mg) (base:=base) g_ValueError g_isinstance m_LinegateError m_NoAnswer m_NoChange m_NoFit m_NoLook m_NoRow m_NoRule m_NoText m_TooLate m_TooMany CT_LinegateError KT_NoAnswer KT_NoChange KT_NoFit KT_NoLook KT_NoRow KT_NoRule KT_NoText KT_TooLate KT_TooMany KT_ValueError KTT C_Gate W5 m_Gate F) (by walk_at "ba1")
 have W7:=miW l7 mk_Gate kc_Gate (fun F=>ok_Gate_init (P:=l.prog) (w:=w) (mg:=mg) (base:=base) m_MOST_HANDS m_MOST_WIDTH C_Changes C_Gate na_Gate_answers na_Gate_breaks na_Gate_ended na_Gate_grounds na_Gate_grown na_Gate_halted na_Gate_known na_Gate_laid_ones na_Gate_looks na_Gate_numbers na_Gate_on_line na_Gate_tallies W3 W2 W4 m_Changes F) (by walk_at "ba5")
 have W8:=mtW l8 (fun F=>ok_Gate_settled (P:=l.prog) (w:=w) (mg:=mg) (base:=base) g_list C_Gate na_Gate_ended F) (by walk_at "ba1")
 have W9:=mtW l9 (fun F=>ok_Gate_growths (P:=l.prog) (w:=w) (mg:=mg) (base:=base) g_list C_Gate na_Gate_grown F) (by walk_at "ba1")
 have W10:=mtW l10 (fun F=>ok_Gate_wanted (P:=l.prog) (w:=w) (mg:=mg) (base:=base) g_list C_Gate na_Gate_looks F) (by walk_at "ba1")
 have W11:=mtW l11 (fun F=>ok_Gate_outs (P:=l.prog) (w:=w) (mg:=mg) (base:=base) g_sorted C_Gate na_Gate_grounds F) (by walk_at "ba1")
 have W12:=mtW l12 (fun F=>ok_Changes_many (P:=l.prog) (w:=w) (mg:=mg) (base:=base) g_len C_Changes na_Changes_entries F) (by walk_at "ba1")
 have W13:=mtW l13 (fun F=>ok_Gate_waits (P:=l.prog) (w:=w) (mg:=mg) (base:=base) C_Gate na_Gate_grounds na_Gate_laid_ones na_Gate_on_line F) (by walk_at "ba2")
 have W14:=mtW l14 (fun F=>ok_Gate_waiting (P:=l.prog) (w:=w) (mg:=mg) (base:=base) g_range C_Changes C_Gate na_Gate_known W12 W13 F) (by walk_at "ba1")
 have W15:=mtW l15 (fun F=>ok_Gate_laid (P:=l.prog) (w:=w) (mg:=mg) (base:=base) g_list C_Gate na_Gate_laid_ones F) (by walk_at "ba1")
 have W16:=mtW l16 (fun F=>ok_Gate_line (P:=l.prog) (w:=w) (mg:=mg) (base:=base) g_list C_Gate na_Gate_on_line F) (by walk_at "ba1")
 have W17:=fnW X G l17 (fun F=>ok_misfit (P:=l.prog) (w:=w) (mg:=mg) (base:=base) g_min F) (by walk_at "ba2")
 have W18:=fnW X G l18 (fun F=>ok_sheet_of_values (P:=l.prog) (w:=w) (mg:=mg) (base:=base) g_sorted F) (by walk_at "ba1")
 have W19:=fnW X G l19 (fun F=>ok_edited_in_turn (P:=l.prog) (w:=w) (mg:=mg) (base:=base) g_dict W17 W18 F) (by walk_at "ba2")
 have W20:=mtW l20 (fun F=>ok_Changes_has (P:=l.prog) (w:=w) (mg:=mg) (base:=base) C_Changes W2 W12 F) (by walk_at "ba2")
 have W21:=mtW l21 (fun F=>ok_Changes_entry_of (P:=l.prog) (w:=w) (mg:=mg) (base:=base) C_Changes na_Changes_entries W20 F) (by walk_at "ba2")
 have W22:=mtW l22 (fun F=>ok_Changes_edits_of (P:=l.prog) (w:=w) (mg:=mg) (base:=base) g_list C_Changes W21 F) (by walk_at "ba2")
 have W23:=fnW X G l23 (fun F=>ok_sheet_of (P:=l.prog) (w:=w) (mg:=mg) (base:=base) C_Changes W19 W22 F) (by walk_at "ba2")
 have W24:=mtW l24 (fun F=>ok_Gate_sheet (P:=l.prog) (w:=w) (mg:=mg) (base:=base) C_Gate na_Gate_known na_Gate_on_line W23 F) (by walk_at "ba1")
 have W25:=fnWr X G l25 (fun m k b F=>ok_L_same (P:=l.prog) (w:=w) (mg:=mg) (base:=base) g_all g_bool g_int g_isinstance g_len g_list g_range g_str g_tuple m k b F) (by walk_at "ba2")
 have W26:=mtW l26 (fun F=>ok_Gate_settings (P:=l.prog) (w:=w) (mg:=mg) (base:=base) C_Gate na_Gate_numbers F) (by walk_at "ba1")
 have W27:=mtW l27 (fun F=>ok_Gate_counts (P:=l.prog) (w:=w) (mg:=mg) (base:=base) g_len C_Gate na_Gate_answers na_Gate_breaks na_Gate_ended na_Gate_grounds na_Gate_grown F) (by walk_at "ba1")
 have W28:=mtW l28 (fun F=>ok_Gate_stopped (P:=l.prog) (w:=w) (mg:=mg) (base:=base) C_Gate na_Gate_halted F) (by walk_at "ba1")
 have W29:=mtW l29 (fun F=>ok_Gate_bad (P:=l.prog) (w:=w) (mg:=mg) (base:=base) g_len g_range C_Gate na_Gate_laid_ones F) (by walk_at "ba1")
 have W30:=mtW l30 (fun F=>ok_Changes_copied (P:=l.prog) (w:=w) (mg:=mg) (base:=base) C_Changes na_Changes_entries W4 m_Changes F) (by walk_at "ba1")
 have W31:=mtW l31 (fun F=>ok_Gate_changes (P:=l.prog) (w:=w) (mg:=mg) (base:=base) C_Changes C_Gate na_Gate_known W30 F) (by walk_at "ba1")
 have W32:=fnW X G l32 (fun F=>ok_rising (P:=l.prog) (w:=w) (mg:=mg) (base:=base) g_all g_zip F) (by walk_at "ba1")
 have W33:=fnW X G l33 (fun F=>ok_are_edits (P:=l.prog) (w:=w) (mg:=mg) (base:=base) m_GREATEST_SLOT m_GREATEST_VALUE W2 W32 F) (by walk_at "ba1")
 have W34:=mtW l34 (fun F=>ok_Changes_makes_change (P:=l.prog) (w:=w) (mg:=mg) (base:=base) g_all g_len m_GREATEST_RANK m_MOST_EDITS C_Changes W2 W32 W20 W33 F) (by walk_at "ba4")
 have W35:=mtW l35 (fun F=>ok_Changes_added (P:=l.prog) (w:=w) (mg:=mg) (base:=base) g_tuple m_MOST_CHANGES C_Changes na_Changes_entries W34 W12 F) (by walk_at "ba4")
 have W36:=fnW X G l36 (fun F=>ok_L_new (P:=l.prog) (w:=w) (mg:=mg) (base:=base) g_tuple C_Changes C_Gate W8 W9 W10 W11 W14 W15 W16 W24 W25 W26 W27 W28 W29 W31 W35 W12 F) (by walk_at "ba2")
 exact ok_law g_list g_range g_reversed C_Gate W1 W0 W6 W7 m_Gate W36 F
theorem walk {l:PySem.W.OpenLaw}{q:Program}{loose:List Str}{XP:(Str→Option Value)→Heap→Prop}{YP:World→Heap→Prop}{d:DefRec}{K:Params→PySem.W.Frag} (hn:l.most=some 63) (hdf:d.params.defaults=[])
  (hY:∀ (w:World) (h:Heap),YP w h→(K w.params).In h)
  (F:∀ (w:World) (mg:Str→Option Value) (fa:Addr) (h:Heap),(K w.params).In h→h.Ns mainGlobals mg→mg d.name=some (.ref fa) →
   ∃ fd:FuncData,(∀ (s:Shared) (u:Value),BindsTo s fd ⟨[u],[]⟩ [("_law_script",u)])∧∀ base:Heap,(K w.params).In base→base.Ns mainGlobals mg→FnOk l.prog w (K w.params) mg base CX0 8 fa fd ["_law_script"] (spF (K w.params) F_law)) :
  PySem.W.WalkO q loose XP YP l.row.toRowW d [] (fun f vs=>PySem.call f vs):=
 L2.walk_of (n:=63) (k:=8) (x:="_law_script") (CX:=fun _=>CX0) (sp:=fun w=>spF (K w.params) F_law) hn (by decide) hdf ⟨fun _=>rfl,by decide,by decide,rfl⟩ hY F (fun w H a ns hl hO hS=>by
  have hz:Frz (K w.params) H a (ns.map V.int):=by
   rcases hS with (h | h) | h
   ·rcases hO a with z | ⟨o,xs,z⟩ <;> rw [z] at h <;> cases h
   ·exact .inl h
   ·exact .inr h
  refine ⟨[dI ns],[]++[],.bl true,.cons (.lsf hz (reps_ints ns)) .nil,f_law hl,fun H' v fp' _ r _ _=>?_⟩
  cases r
  rfl) fun _ _ _ _ _ z=>z
end K41
namespace K41
open PySem PySem.W PyProof.Rows
def isNm:Stmt→Bool
 | .FunctionDef x ..=>!(x == "law")
 | _=>true
def lo:List Str:=(["_wall","LinegateError","NoFit","NoChange","TooMany","NoRule","NoAnswer","NoLook","TooLate","NoRow","NoText","within","rising","GREATEST_SLOT","GREATEST_VALUE","unfit","edited_in_turn","are_edits","misfit","sheet_of_values","MOST_CHANGES","MOST_EDITS","GREATEST_RANK","Changes","sheet_of","free","filled","first_fitting","in_turn","values_behind","fits","wanted_places","middle_of_gap","WORDS","MOST_TRIES","Tally","makes_tally","MOST_WIDTH","MOST_HANDS","BAD_WORDS","Gate","_law_take","_law_same","_law_refused","_law_within","_law_new"]:List String).map Str.ofString
def vw:Program:={ PySem.Challenge.pw_linegate_k41_a_new_gate with main:={ (PySem.Challenge.pw_linegate_k41_a_new_gate).main with body:=(PySem.Challenge.pw_linegate_k41_a_new_gate).main.body.filter fun s=>!isNm s } }
def xt (s:Shared):Bool:=xlAt vw [] s&&recOk (RowW.records (OpenRow.toRowW (OpenLaw.row PySem.Challenge.rw_linegate_k41_a_new_gate))) s
theorem xt1 (s:Shared) (e:xt s=true):XL vw [] (s.heap.nsMap mainGlobals) s.heap:=xl_of s (Bool.and_eq_true_iff.mp e).1
theorem rn (w:World) (os:OsState):(HT.runT treeTable PySem.Challenge.pw_linegate_k41_a_new_gate w HT.bootN (some (.ref 6)) 20000 (HT.s0T w.params os) (topStub PySem.Challenge.pw_linegate_k41_a_new_gate)).map (fun sT=>((staticsOk (importedModules (PySem.Challenge.pw_linegate_k41_a_new_gate).main.body) (boot_heap w.params) sT.abs.heap&&namesBound PySem.Challenge.pw_linegate_k41_a_new_gate sT.abs.heap&&gensDone sT.abs&&laidKept (boot_heap w.params) sT.abs.heap),openSeen vw lo (importedModules (PySem.Challenge.pw_linegate_k41_a_new_gate).main.body) xt true sT.abs))=some (true,openGood vw lo):=by kernel_rfl
theorem xt2 (s:Shared) (e:xt s=true):RecFacts (RowW.records (OpenRow.toRowW (OpenLaw.row PySem.Challenge.rw_linegate_k41_a_new_gate))) s.heap:=recFacts_of (Bool.and_eq_true_iff.mp e).2
end K41
open PySem PySem.W PyProof.Rows
local macro_rules | `(tactic| o_head $H)=>`(tactic| (refine PySem.W.holds_open (q:=K41.vw) (loose:=K41.lo) (N:=20000) (Xt:=K41.xt) (XP:=XL K41.vw []) (Yf:=Hook.obs $H) (Ya:=Hook.val $H) (YP:=Hook.says $H) ?hl (Hook.of $H) (Hook.keeps $H) K41.xt1 XL.keeps (by rfl) (by rfl) (by rfl) K41.xt2 (by rfl) (by assumption) (by decide +kernel) ⟨rfl,rfl,rfl,rfl,rfl,by decide +kernel⟩ ?hw ?hc;(case hl=>exact HT.left_Tkm (ann:=some (.ref 6)) (by rfl) (fun _=>rfl) (by decide) (fun _=>by kernel_rfl) K41.rn fun w os=>by kernel_rfl);(case hw=>w_witness2)))
local macro_rules | `(tactic| walk_at "lkf")=>`(tactic| exact ⟨_,by k_is,_,_,_,_,_,_,_,_,_,by k_is,by k_is,by k_is⟩)
local macro_rules | `(tactic| walk_at "lkm")=>`(tactic| exact ⟨_,by k_is,by k_is,_,_,_,_,_,_,_,_,_,by k_is,by k_is,by k_is⟩)
set_option maxRecDepth 100000 in
set_option maxHeartbeats 0 in
theorem PySem.Challenge.cw_linegate_k41_a_new_gate_holds : PySem.Challenge.rw_linegate_k41_a_new_gate.Holds := by
 w_on;o_law;k_head
 k_fill
 refine K41.walk (l:=PySem.Challenge.rw_linegate_k41_a_new_gate) rfl rfl (fun w h Y=>PySem.W.km_in_of Y) ?F
 case F=>
  intro w mg fa h KX G hmg
  refine' K41.all_mk KX G hmg ?n_LinegateError ?n_NoAnswer ?n_NoChange ?n_NoFit ?n_NoLook ?n_NoRow ?n_NoRule ?n_NoText ?n_TooLate ?n_TooMany ?x_LinegateError ?x_NoRule ?mb_LinegateError ?mr_NoRule_LinegateError ?sg ?tk ?ga_NoRule ?gh_NoRule ?at_NoRule ?mo_NoRule ?me_NoRule ?kt_NoAnswer_NoRule ?kt_NoChange_NoRule ?kt_NoFit_NoRule ?kt_NoLook_NoRule ?kt_NoRow_NoRule ?kt_NoRule_NoRule ?kt_NoText_NoRule ?kt_TooLate_NoRule ?kt_TooMany_NoRule ?kt_ValueError_NoRule ?n_Changes ?pg_Changes ?hd_Changes ?po_Changes ?sa_Changes ?n_Gate ?pg_Gate ?hd_Gate ?po_Gate ?sa_Gate ?mk_Changes ?kc_Changes ?mk_Gate ?kc_Gate ?na_Changes_entries ?na_Gate_answers ?na_Gate_breaks ?na_Gate_ended ?na_Gate_grounds ?na_Gate_grown ?na_Gate_halted ?na_Gate_known ?na_Gate_laid_ones ?na_Gate_looks ?na_Gate_numbers ?na_Gate_on_line ?na_Gate_tallies ?l0 ?l1 ?l2 ?l3 ?l4 ?l5 ?l6 ?l7 ?l8 ?l9 ?l10 ?l11 ?l12 ?l13 ?l14 ?l15 ?l16 ?l17 ?l18 ?l19 ?l20 ?l21 ?l22 ?l23 ?l24 ?l25 ?l26 ?l27 ?l28 ?l29 ?l30 ?l31 ?l32 ?l33 ?l34 ?l35 ?l36 ?l37 ?z_GREATEST_RANK ?z_GREATEST_SLOT ?z_GREATEST_VALUE ?z_MOST_CHANGES ?z_MOST_EDITS ?z_MOST_HANDS ?z_MOST_TRIES ?z_MOST_WIDTH ?z_ValueError ?z_all ?z_bool ?z_dict ?z_int ?z_isinstance ?z_len ?z_list ?z_min ?z_range ?z_reversed ?z_sorted ?z_str ?z_tuple ?z_zip
  case n_LinegateError | n_NoAnswer | n_NoChange | n_NoFit | n_NoLook | n_NoRow | n_NoRule | n_NoText | n_TooLate | n_TooMany=>k_is
  case x_LinegateError | x_NoRule=>k_exc
  case mb_LinegateError | mr_NoRule_LinegateError | sg | tk | ga_NoRule | gh_NoRule | at_NoRule | mo_NoRule | me_NoRule=>k_is
  case kt_NoAnswer_NoRule | kt_NoChange_NoRule | kt_NoFit_NoRule | kt_NoLook_NoRule | kt_NoRow_NoRule | kt_NoRule_NoRule | kt_NoText_NoRule | kt_TooLate_NoRule | kt_TooMany_NoRule | kt_ValueError_NoRule=>kit_is
  case n_Changes | pg_Changes | hd_Changes | po_Changes | sa_Changes | n_Gate | pg_Gate | hd_Gate | po_Gate | sa_Gate | mk_Changes | kc_Changes | mk_Gate | kc_Gate | na_Changes_entries | na_Gate_answers | na_Gate_breaks | na_Gate_ended | na_Gate_grounds | na_Gate_grown | na_Gate_halted | na_Gate_known | na_Gate_laid_ones | na_Gate_looks | na_Gate_numbers | na_Gate_on_line | na_Gate_tallies=>k_is
  case l0 | l1 | l2 | l3=>walk_at "lkf"
  case l4 | l5=>walk_at "lkm"
  case l6=>walk_at "lkf"
  case l7 | l8 | l9 | l10 | l11 | l12 | l13 | l14 | l15 | l16=>walk_at "lkm"
  case l17 | l18 | l19=>walk_at "lkf"
  case l20 | l21 | l22=>walk_at "lkm"
  case l23=>walk_at "lkf"
  case l24=>walk_at "lkm"
  case l25=>walk_at "lkf"
  case l26 | l27 | l28 | l29 | l30 | l31=>walk_at "lkm"
  case l32 | l33=>walk_at "lkf"
  case l34 | l35=>walk_at "lkm"
  case l36 | l37=>walk_at "lkf"
  case z_GREATEST_RANK | z_GREATEST_SLOT | z_GREATEST_VALUE | z_MOST_CHANGES | z_MOST_EDITS | z_MOST_HANDS | z_MOST_TRIES | z_MOST_WIDTH | z_ValueError | z_all | z_bool | z_dict | z_int | z_isinstance | z_len | z_list | z_min | z_range | z_reversed | z_sorted | z_str | z_tuple | z_zip=>k_is
