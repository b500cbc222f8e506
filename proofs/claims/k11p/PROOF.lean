import PyProof.Rows.All
import PyProof.RangeIter
import Wide.All
import OpenK.AllK
import Wide.FinOn
import Lean
import PyProof.EqAt
import PyProof.EqKinds
import PyProof.TupleCall
import PyProof.RulesAs
import PyProof.NsDelKeeps
import PyProof.ReprRoads
import PyProof.ReprLen
import PyProof.Rows.FactsT3
import PyProof.NeData
import PyProof.ListRange
import PyProof.ZipIter
import PyProof.Rows.ZipGen
import PyProof.ConsumeWalk
import PyProof.Rows.RuleM_int
import PyProof.Rows.SeqGen
import PyProof.MinMaxWalk
import PyProof.WalkInts
import PyProof.SeqI3
import PyProof.Rows.SeqCalls
import PyProof.Rows.Range3
import PyProof.EnumIter
import PyProof.EnumFor
import PyProof.EnumMake
import PyProof.EnumStmt
import PyProof.MeetsSeq
import PyProof.Rows.RuleIs
import PySem.SetOps
import PyProof.SetKind
import PyProof.DictIter
import PyProof.FactsAll.set
import PyProof.CollectWalk
import PyProof.DictWalks
import PyProof.SeqWrite
import PyProof.Walk
import PyProof.Rows.SetFrom
import PyProof.ExcAttrAll.ValueError
import PyProof.ExcArgsOwn
import PyProof.Rows.CountFlat
import PyProof.CallFns
import Open.Seg
import Open.Fast
import Open.Tree
import Open.Boot
import PySem.Challenge.RW_linegate_k11_changes_added
set_option Elab.async false
set_option linter.all false
set_option maxRecDepth 100000
namespace L2
open PySem PySem.Spec
theorem entry_unchain:entryFor table "proto.unchain"=some Builtin.«proto.unchain»:=entryFor_of_tree (by kernel_rfl)
theorem raiseNew_hd {prog:Program}{w:World}{A:Around}{E:Value→Shared→Prop}{s:Shared}{α:Type}{e h:Addr}{oe oh:Obj}{ve vh:Array Value}{Q:α→Shared→Prop} (hh:A.handled=some (.ref h)) (he:s.heap.get? e=some oe) (hd:oe.data=.fields ve) (h2:2 < ve.size)
  (hx:s.heap.get? h=some oh) (hxd:oh.data=.fields vh) (hx2:vh[2]? = some .none) (ne:h≠e) (q:E (.ref e) { s with heap:=s.heap.update e (Obj.mapFields (·.setIfInBounds 2 (.ref h))) }):wpAny (model prog w) A (raiseNew (.ref e):Sem α) Q E s:=by
 unfold raiseNew
 refine wpAny_bind (wpAny_handled ?_)
 rw [hh]
 dsimp only
 rw [if_pos (by simpa using ne)]
 refine wpAny_bind (wpAny_holding (wpAny_runValue (codeAny_builtin entry_unchain ?_)))
 unfold Builtin.«proto.unchain»
 refine wpAny_bind (wpAny_field hx hxd hx2 ?_)
 rw [if_pos (by rfl)]
 refine wpAny_pure ?_
 refine wpAny_bind ?_
 unfold updateField
 refine wpAny_bind (wpAny_load he ?_)
 rw [hd]
 dsimp only
 rw [if_pos h2]
 exact wpAny_update' he (wpAny_throw q)
theorem range_endH {prog:Program}{w:World}{A:Around}{E:Value→Shared→Prop}{s:Shared}{it h:Addr}{x left step:Int}{oh:Obj}{vh:Array Value}{Q:Option Value→Shared→Prop} (hh:A.handled=some (.ref h)) (hx:s.heap.get? h=some oh) (hxd:oh.data=.fields vh) (hx2:vh[2]? = some .none) (hit:IsRangeIter s.heap it x left step) (hleft:left≤0)
  (hQ:∀ h',Heap.ExtBut it s.heap h'→Q none { s with heap:=h' }):wpAny (model prog w) A (pyNext (.ref it)) Q E s:=by
 have hT:s.TypeIs (.ref it) "range_iterator":=⟨_,hit,rfl⟩
 unfold pyNext
 refine wpAny_bind (wpAny_attempt (wpAny_callSpecial?_slot (name:=Str.ofString "__next__") hT F.slot_range_iterator_next
  (wpAny_call_entry F.slot_range_iterator_next hT F.entry_range_iterator_next ?_ (F.args_range_iterator_next_1 _))))
 show wpAny _ _ (field (.ref it) 0 >>= _) _ _ s
 refine wpAny_bind (wpAny_field hit rfl (x:=rawInt x) rfl ?_)
 show wpAny _ _ (field (.ref it) 1 >>= _) _ _ s
 refine wpAny_bind (wpAny_field hit rfl (x:=rawInt left) rfl ?_)
 show wpAny _ _ (field (.ref it) 2 >>= _) _ _ s
 refine wpAny_bind (wpAny_field hit rfl (x:=rawInt step) rfl ?_)
 show wpAny _ _ (if left≤0 then _ else _) _ _ s
 rw [if_pos hleft]
 refine wpAny_bind (wpAny_rule ?_)
 refine wpAny_bind ?_
 show wpAny _ _ (newExc (.type "StopIteration") [] >>= _) _ _ _
 refine wpAny_bind ?_
 simp only [newExc,newTuple]
 refine wpAny_bind (wpAny_newObj_type ?_ (by size_fits))
 refine wpAny_bind (m:=firstArgMember _ _) (wpAny_of_eq (a:=Value.none) (by first | rfl | (simp only [firstArgMember];rfl)) ?_)
 refine wpAny_newObj_type ?_ (by size_fits)
 have hn:h≠(s.heap.push { cls:=.type "tuple",dict:=none,data:=.seq ([]:List Value).toArray }).objs.size:=Nat.ne_of_lt (Heap.lt_size (Heap.get?_push_of_some _ hx))
 refine raiseNew_hd (h:=h) (by first | exact hh | (show A.in1.handled=_;exact hh)) (Heap.get?_push_size _ rfl) rfl (by simp <;> omega) (Heap.get?_push_of_some _ (Heap.get?_push_of_some _ hx)) hxd hx2 hn ?_
 refine wpAny_bind (wpAny_isInstance (T:="StopIteration") (b:=true) ⟨_,Heap.get?_update_self _ (Heap.get?_push_size _ rfl) rfl,rfl⟩ isSubtype_stop ?_)
 refine wpAny_pure (hQ _ fun b o hb e=>?_)
 rw [Heap.get?_update_other _ _ (Ne.symm (Nat.ne_of_lt (Heap.lt_size (Heap.get?_push_of_some _ e))))]
 exact Heap.get?_push_of_some _ (Heap.get?_push_of_some _ e)
open PySem PySem.Spec PyProof.Rows
abbrev Key:=Sum Int Str
def keyIs:Key→Value→Bool
 | .inl k,v=>Value.isInt k v
 | .inr x,v=>Value.isStrOf x v
def keyH (w:World):Key→Int
 | .inl k=>hashInt k
 | .inr x=>hashStr w x
theorem keyIs_shape:∀ {k:Key}{v:Value},keyIs k v=true→(∃ i t,k=Sum.inl i∧v=Value.int i t)∨(∃ x t,k=Sum.inr x∧v=Value.str x t)
 | .inl i,v,h=>by
  obtain ⟨t,e⟩:=Value.isInt_shape (k:=i) (v:=v) h
  exact .inl ⟨i,t,rfl,e⟩
 | .inr x,v,h=>by
  obtain ⟨t,e⟩:=Value.isStrOf_shape (x:=x) (v:=v) h
  exact .inr ⟨x,t,rfl,e⟩
theorem keyIs_int (i:Int) (t:Tok):keyIs (.inl i) (.int i t)=true:=by simp [keyIs,Value.isInt]
theorem keyIs_str (x:Str) (t:Tok):keyIs (.inr x) (.str x t)=true:=by simp [keyIs,Value.isStrOf]
theorem key_ll (a b:Int):decide ((Sum.inl a:Key)=Sum.inl b)=(a == b):=by
 by_cases e:a=b
 ·subst e;simp
 ·have h:¬ (Sum.inl a:Key)=Sum.inl b:=fun q=>e (Sum.inl.inj q)
  rw [decide_eq_false h]
  exact (beq_eq_false_iff_ne.mpr e).symm
theorem key_rr (a b:Str):decide ((Sum.inr a:Key)=Sum.inr b)=decide (a=b):=by
 by_cases e:a=b
 ·subst e;simp
 ·have h:¬ (Sum.inr a:Key)=Sum.inr b:=fun q=>e (Sum.inr.inj q)
  rw [decide_eq_false h,decide_eq_false e]
theorem key_lr (a:Int) (b:Str):decide ((Sum.inl a:Key)=Sum.inr b)=false:=decide_eq_false (fun q=>nomatch q)
theorem key_rl (a:Str) (b:Int):decide ((Sum.inr a:Key)=Sum.inl b)=false:=decide_eq_false (fun q=>nomatch q)
def mixKind (prog:Program) (w:World):PySem.KeyKind prog w Key where
 is:=keyIs
 hash:=keyH w
 inj:=fun v a b ha hb=>by
  rcases keyIs_shape ha with ⟨i,t,rfl,rfl⟩ | ⟨x,t,rfl,rfl⟩
  ·rcases keyIs_shape hb with ⟨j,u,rfl,e⟩ | ⟨y,u,rfl,e⟩
   ·injection e with e1 _;rw [e1]
   ·exact nomatch e
  ·rcases keyIs_shape hb with ⟨j,u,rfl,e⟩ | ⟨y,u,rfl,e⟩
   ·exact nomatch e
   ·injection e with e1 _;rw [e1]
 byValue:=fun k v h=>by
  rcases keyIs_shape h with ⟨i,t,rfl,rfl⟩ | ⟨x,t,rfl,rfl⟩ <;> rfl
 pyHash:=fun hv h=>by
  rcases keyIs_shape hv with ⟨i,t,rfl,rfl⟩ | ⟨x,t,rfl,rfl⟩
  ·exact wpAny_pyHash_int h
  ·exact wpAny_pyHash_str h
 eqBool:=fun hu hv h=>by
  rcases keyIs_shape hu with ⟨i,t,rfl,rfl⟩ | ⟨x,t,rfl,rfl⟩
  ·rcases keyIs_shape hv with ⟨j,u,rfl,rfl⟩ | ⟨y,u,rfl,rfl⟩
   ·rw [key_ll] at h;exact wpAny_eqBool_int h
   ·rw [key_lr] at h;exact SeqAt.EqAt.int_str i t y u _ _ _ _ h
  ·rcases keyIs_shape hv with ⟨j,u,rfl,rfl⟩ | ⟨y,u,rfl,rfl⟩
   ·rw [key_rl] at h;exact SeqAt.EqAt.str_int x t j u _ _ _ _ h
   ·rw [key_rr] at h;exact wpAny_eqBool_str h
 «strs»:=fun k x t v h=>by
  rcases keyIs_shape h with ⟨i,u,rfl,e⟩ | ⟨y,u,rfl,e⟩
  ·exact nomatch e
  ·injection e with e1 _
   subst e1
   cases v <;> rfl
theorem mixKind_int (prog:Program) (w:World) (i:Int) (t:Tok):(mixKind prog w).is (.inl i) (.int i t)=true:=keyIs_int i t
theorem mixKind_str (prog:Program) (w:World) (x:Str) (t:Tok):(mixKind prog w).is (.inr x) (.str x t)=true:=keyIs_str x t
inductive V where
 | non | bl (b:Bool) | int (i:Int) | str (x:Str) | byt (b:Array UInt8) | flt (b:UInt64) | ref (a:Addr) | ty (n:String)
 deriving DecidableEq
def RelV:V→Value→Prop
 | .non,u=>u=Value.none
 | .bl b,u=>u=Value.bool b
 | .int i,u=>∃ t,u=Value.int i t
 | .str x,u=>∃ t,u=Value.str x t
 | .byt b,u=>∃ t,u=Value.bytes b t
 | .flt b,u=>∃ t,u=Value.float b t
 | .ref a,u=>u=Value.ref a
 | .ty n,u=>u=Value.type n
abbrev Vals:List V→List Value→Prop:=Paired RelV
theorem Vals.length {xs:List V}{us:List Value} (r:Vals xs us):xs.length=us.length:=Paired.length r
theorem Vals.get:∀ {xs:List V}{us:List Value}{i:Nat}{x:V},Vals xs us→xs[i]? = some x→∃ u,us[i]? = some u∧RelV x u
 | _,_,_,_,.nil,e=>by simp at e
 | _,_,0,_,.cons r _,e=>by simp at e;subst e;exact ⟨_,rfl,r⟩
 | _,_,i + 1,x,.cons _ t,e=>by
  obtain ⟨u,h1,h2⟩:=Vals.get (i:=i) (x:=x) t (by simpa using e)
  exact ⟨u,by simpa using h1,h2⟩
theorem Vals.append:∀ {xs ys:List V}{us ws:List Value},Vals xs us→Vals ys ws→Vals (xs++ys) (us++ws)
 | _,_,_,_,.nil,s=>s
 | _,_,_,_,.cons r t,s=>.cons r (Vals.append t s)
theorem Vals.take:∀ {xs:List V}{us:List Value} (n:Nat),Vals xs us→Vals (xs.take n) (us.take n)
 | _,_,0,_=>.nil
 | _,_,_ + 1,.nil=>.nil
 | _,_,n + 1,.cons r t=>.cons r (Vals.take n t)
theorem Vals.drop:∀ {xs:List V}{us:List Value} (n:Nat),Vals xs us→Vals (xs.drop n) (us.drop n)
 | _,_,0,r=>r
 | _,_,_ + 1,.nil=>.nil
 | _,_,n + 1,.cons _ t=>Vals.drop n t
def RelO:Option V→Option Value→Prop
 | some v,some u=>RelV v u
 | none,none=>True
 | _,_=>False
def KV {κ:Type}:List (κ×V)→List (κ×Value)→Prop:=Paired fun (p:κ×V) (q:κ×Value)=>p.1=q.1∧RelV p.2 q.2
def kV:Key→V
 | .inl i=>.int i
 | .inr x=>.str x
def PlainT (h:Heap) (a:Addr) (items:Array Value):Prop:=∃ o,h.get? a=some o∧o.cls=.type "tuple"∧o.dict=none∧∃ n,o.data=.seq items n
theorem PlainT.isTup {h:Heap}{a:Addr}{items:Array Value} (x:PlainT h a items):IsTup h a items:=let ⟨o,e,c,_,d⟩:=x;⟨o,e,c,d⟩
theorem PlainT.lt {h:Heap}{a:Addr}{items:Array Value} (x:PlainT h a items):a < h.objs.size:=let ⟨_,e,_⟩:=x;Heap.lt_size e
theorem PlainT.new (h:Heap) (items:Array Value):PlainT (h.push { cls:=.type "tuple",data:=.seq items }) h.objs.size items:=⟨_,Heap.get?_push_size _ rfl,rfl,rfl,_,rfl⟩
inductive HO where
 | lst (xs:List V)
 | tup (xs:List V)
 | dK (kvs:List (Key×V)) | dT (kvs:List (List Key×V))
 | set (S:Int→Bool) (n:Nat)
 | ins (C dx:Addr) (fs:List (Str×V))
 | own (x:Addr)
 | xd (fs:List (Str×V))
 | met (f x:Addr)
 | rng (lo hi:Int)
 | frz (o:Obj) (u:HO)
 | tbl (ps:Array Value)
 | ext (φ:Heap→Prop)
abbrev Hp:=Addr→Option HO
def upd (H:Hp) (a:Addr) (o:HO):Hp:=fun b=>if b=a then some o else H b
theorem upd_same {H:Hp}{a:Addr}{o:HO}:upd H a o a=some o:=by unfold upd;rw [if_pos rfl]
theorem upd_ne {H:Hp}{a b:Addr}{o:HO} (h:b≠a):upd H a o b=H b:=by unfold upd;rw [if_neg h]
theorem ne_of {H:Hp}{a b:Addr}{o u:HO} (h:H a=some o) (h':H b=some u) (d:o≠u):a≠b:=by
 intro e;subst e;rw [h] at h';exact d (Option.some.inj h')
theorem ne_of_none {H:Hp}{a b:Addr}{o:HO} (h:H a=some o) (h':H b=none):a≠b:=by
 intro e;subst e;rw [h] at h';cases h'
section
variable (P:Program) (w:World)
def ObjOk (H:Hp) (h:Heap) (a:Addr):HO→Prop
 | .lst xs=>xs.length≤sizeLine∧∃ (its:List Value) (n:Nat),Vals xs its∧h.get? a=some { cls:=.type "list",data:=.seq its.toArray n }
 | .tup xs=>xs.length≤sizeLine∧∃ its:List Value,Vals xs its∧PlainT h a its.toArray
 | .dK kvs=>kvs.length≤sizeLine∧(a == sysModules)=false∧∃ vs,KV kvs vs∧h.DictOf (mixKind P w) a vs
 | .dT kvs=>kvs.length≤sizeLine∧(a == sysModules)=false∧∃ xs:List (List Key×Addr×Value),
   Paired (fun (p:List Key×V) (q:List Key×Addr×Value)=>p.1=q.1∧H q.2.1=some (.tup (p.1.map kV))∧RelV p.2 q.2.2) kvs xs ∧
   ∃ o es ep,h.get? a=some o∧o.ExactDict∧o.data=.dict es ep∧es.toList=xs.map (entryOfKey (tupleKind (mixKind P w)))∧(xs.map (·.1)).Nodup
 | .set S n=>h.SetOf (intKind P w) a S n
 | .ins C dx fs=>H dx=some (.own a)∧fs.length≤1000∧dx≠a∧h.get? a=some (PySem.W.instObj C dx) ∧
   ∃ mA,h.Ns1 dx mA∧(∀ f,RelO (fs.lookup f) (mA f))∧PySem.Within mA (fs.map (·.1))
 | .own _=>∃ o,h.get? a=some o
 | .xd fs=>∃ mA,h.Ns1 a mA∧∀ f,RelO (fs.lookup f) (mA f)
 | .rng lo hi=>∃ t u v,h.get? a=some { cls:=.type "range",data:=.fields #[.int lo t,.int hi u,.int 1 v] }
 | .frz o u=>h.get? a=some o∧ObjOk H h a u
 | .tbl ps=>h.get? a=some { cls:=.none,data:=.fields ps }
 | .met f x=>h.get? a=some (PySem.W.methodObj (.ref f) (.ref x))
 | .ext φ=>φ h∧(∃ o,h.get? a=some o)∧∀ h1 h2:Heap,φ h1→(∀ o,h1.get? a=some o→h2.get? a=some o)→φ h2
def HOk (H:Hp) (h:Heap):Prop:=∀ a o,H a=some o→ObjOk P w H h a o
end
section
variable {P:Program}{w:World}{H H':Hp}{h h':Heap}{a:Addr}{o:HO}
theorem ObjOk.lt (x:ObjOk P w H h a o):a < h.objs.size:=by
 cases o with
 | lst xs=>obtain ⟨_,_,_,_,e⟩:=x;exact Heap.lt_size e
 | tup xs=>obtain ⟨_,_,_,p⟩:=x;exact p.lt
 | dK kvs=>obtain ⟨_,_,_,_,o,_,_,e,_⟩:=x;exact Heap.lt_size e
 | dT kvs=>obtain ⟨_,_,_,_,o,_,_,e,_⟩:=x;exact Heap.lt_size e
 | set S n=>obtain ⟨o,_,_,_,e,_⟩:=x;exact Heap.lt_size e
 | ins C dx fs=>obtain ⟨_,_,_,e,_⟩:=x;exact Heap.lt_size e
 | own y=>obtain ⟨_,e⟩:=x;exact Heap.lt_size e
 | xd fs=>obtain ⟨_,⟨_,_,_,e,_⟩,_⟩:=x;exact Heap.lt_size e
 | rng lo hi=>obtain ⟨_,_,_,e⟩:=x;exact Heap.lt_size e
 | frz ob u=>obtain ⟨e,_⟩:=x;exact Heap.lt_size e
 | tbl ps=>exact Heap.lt_size (show h.get? a=some _ from x)
 | met f y=>exact Heap.lt_size (show h.get? a=some _ from x)
 | ext φ=>obtain ⟨_,⟨_,e⟩,_⟩:=x;exact Heap.lt_size e
theorem Paired.mapP {α β:Type}{F G:α→β→Prop}:∀ {l₁:List α}{l₂:List β},Paired F l₁ l₂→(∀ a b,F a b→G a b)→Paired G l₁ l₂
 | _,_,.nil,_=>.nil
 | _,_,.cons r t,f=>.cons (f _ _ r) (Paired.mapP t f)
theorem ObjOk.stay (x:ObjOk P w H h a o) (k:∀ b u,(b=a∨H b=some (.own a))→h.get? b=some u→h'.get? b=some u)
  (ho:∀ b,H b=some (.own a)→H' b=some (.own a)) (ht:∀ b xs,H b=some (.tup xs)→H' b=some (.tup xs)):ObjOk P w H' h' a o:=by
 induction o with
 | lst xs=>obtain ⟨z,its,n,r,e⟩:=x;exact ⟨z,its,n,r,k _ _ (.inl rfl) e⟩
 | tup xs=>obtain ⟨z,its,r,ob,e,c⟩:=x;exact ⟨z,its,r,ob,k _ _ (.inl rfl) e,c⟩
 | dK kvs=>obtain ⟨z,y,vs,r,ob,es,ep,e,c⟩:=x;exact ⟨z,y,vs,r,ob,es,ep,k _ _ (.inl rfl) e,c⟩
 | dT kvs=>
  obtain ⟨z,y,xs,r,ob,es,ep,e,c⟩:=x
  exact ⟨z,y,xs,Paired.mapP r fun p q z=>⟨z.1,ht _ _ z.2.1,z.2.2⟩,ob,es,ep,k _ _ (.inl rfl) e,c⟩
 | set S n=>obtain ⟨ob,es,ep,t,e,c⟩:=x;exact ⟨ob,es,ep,t,k _ _ (.inl rfl) e,c⟩
 | ins C dx fs=>
  obtain ⟨d,z,ne,e,mA,⟨od,es,ep,e2,c⟩,r⟩:=x
  exact ⟨ho _ d,z,ne,k _ _ (.inl rfl) e,mA,⟨od,es,ep,k _ _ (.inr d) e2,c⟩,r⟩
 | own y=>obtain ⟨ob,e⟩:=x;exact ⟨ob,k _ _ (.inl rfl) e⟩
 | xd fs=>obtain ⟨mA,⟨od,es,ep,e,c⟩,r⟩:=x;exact ⟨mA,⟨od,es,ep,k _ _ (.inl rfl) e,c⟩,r⟩
 | rng lo hi=>obtain ⟨t,u,v,e⟩:=x;exact ⟨t,u,v,k _ _ (.inl rfl) e⟩
 | frz ob u ih=>obtain ⟨e,q⟩:=x;exact ⟨k _ _ (.inl rfl) e,ih q⟩
 | tbl ps=>
  have e:h.get? a=some { cls:=.none,data:=.fields ps }:=x
  show h'.get? a=some { cls:=.none,data:=.fields ps }
  exact k a _ (.inl rfl) e
 | met f y=>
  have e:h.get? a=some (PySem.W.methodObj (.ref f) (.ref y)):=x
  show h'.get? a=some (PySem.W.methodObj (.ref f) (.ref y))
  exact k a _ (.inl rfl) e
 | ext φ=>obtain ⟨p,⟨o,e⟩,st⟩:=x;exact ⟨st _ _ p fun o q=>k _ _ (.inl rfl) q,⟨o,k _ _ (.inl rfl) e⟩,st⟩
theorem HOk.lt (x:HOk P w H h) (e:H a=some o):a < h.objs.size:=(x a o e).lt
theorem HOk.fresh (x:HOk P w H h) (e:h.objs.size≤a):H a=none:=by
 cases q:H a with
 | none=>rfl
 | some u=>exact absurd (Nat.lt_of_lt_of_le (x.lt q) e) (Nat.lt_irrefl _)
theorem HOk.kept (x:HOk P w H h) (k:∀ b u,h.get? b=some u→h'.get? b=some u):HOk P w H h':=fun a o e=>
 (x a o e).stay (fun b u _ q=>k b u q) (fun _ q=>q) fun _ _ q=>q
theorem HOk.laid (x:HOk P w H h) (k:∀ b u,h.get? b=some u→h'.get? b=some u) (hp:h.objs.size≤a) (new:ObjOk P w (upd H a o) h' a o):HOk P w (upd H a o) h':=fun b u e=>by
 have hn:=x.fresh hp
 by_cases hb:b=a
 ·subst hb;rw [upd_same] at e;cases e;exact new
 ·rw [upd_ne hb] at e
  exact (x b u e).stay (fun c v _ q=>k c v q) (fun c q=>by rw [upd_ne (ne_of_none q hn)];exact q) fun c xs q=>by rw [upd_ne (ne_of_none q hn)];exact q
end
def Rd (H:Hp) (a:Addr) (u:HO):Prop:=H a=some u∨∃ o,H a=some (.frz o u)
theorem Rd.ok {P:Program}{w:World}{H:Hp}{h:Heap}{a:Addr}{u:HO} (r:Rd H a u) (x:HOk P w H h):ObjOk P w H h a u:=by
 rcases r with r | ⟨o,r⟩
 ·exact x a u r
 ·obtain ⟨_,q⟩:=x a _ r
  exact q
def Mut:Option HO→Prop
 | some (.lst _)=>True
 | some (.dK _)=>True
 | some (.dT _)=>True
 | some (.set _ _)=>True
 | some (.ins _ _ _)=>True
 | some (.ext _)=>True
 | _=>False
section
variable {P:Program}{w:World}{H:Hp}{h h':Heap}{x e:Addr}{o':HO}
theorem HOk.write (ok:HOk P w H h) (mu:Mut (H x)) (he:e=x∨H e=some (.own x)) (k:∀ b u,b≠e→h.get? b=some u→h'.get? b=some u) (heo:∃ u,h'.get? e=some u)
  (new:ObjOk P w (upd H x o') h' x o'):HOk P w (upd H x o') h':=fun b u q=>by
 have nown:∀ c y,H c=some (.own y)→c≠x:=fun c y r z=>by subst z;rw [r] at mu;exact mu
 have ntup:∀ c xs,H c=some (.tup xs)→c≠x:=fun c xs r z=>by subst z;rw [r] at mu;exact mu
 by_cases hb:b=x
 ·subst hb;rw [upd_same] at q;cases q;exact new
 ·rw [upd_ne hb] at q
  by_cases hbe:b=e
  ·have q':H b=some (.own x):=by
    rcases he with z | z
    ·exact absurd (hbe.trans z) hb
    ·rw [hbe];exact z
   rw [q] at q';cases q'
   obtain ⟨v,hv⟩:=heo
   exact ⟨v,by rw [hbe];exact hv⟩
  ·refine (ok b u q).stay (fun c v hc r=>k c v ?_ r) (fun c r=>by rw [upd_ne (nown c b r)];exact r) fun c xs r=>by rw [upd_ne (ntup c xs r)];exact r
   rcases hc with rfl | hc
   ·exact hbe
   ·rintro rfl
    rcases he with z | z
    ·exact nown c b hc z
    ·rw [hc] at z;cases z;exact hb rfl
end
structure Un (fs ex:List Addr) (H H':Hp) (h h':Heap):Prop where
 keep:∀ b o,h.get? b=some o→H b=none→b∉fs→b∉ex→h'.get? b=some o
 slot:∀ b o,h.get? b=some o→H b=none→b∈fs→b∉ex→∃ sl,h'.get? b=some { o with slots:=sl }
 free:∀ b o,h.get? b=some o→H b=none→b∉ex→H' b=none
 there:∀ b o,h.get? b=some o→b∉ex→∃ o',h'.get? b=some o'
 tups:∀ b xs,H b=some (.tup xs)→H' b=some (.tup xs)
 frzs:∀ b o u,H b=some (.frz o u)→H' b=some (.frz o u)
 tbls:∀ b ps,H b=some (.tbl ps)→∃ more,H' b=some (.tbl (ps++more))
section
variable {fs fs' ex ex':List Addr}{H H1 H2:Hp}{h h1 h2 h':Heap}{a x e:Addr}{o:HO}
theorem Un.any (u:Un fs ex H H1 h h1) {b:Addr}{ob:Obj} (q:h.get? b=some ob) (n:H b=none) (hx:b∉ex):∃ sl,h1.get? b=some { ob with slots:=sl }:=by
 by_cases hb:b∈fs
 ·exact u.slot b ob q n hb hx
 ·exact ⟨ob.slots,u.keep b ob q n hb hx⟩
theorem Un.kept (k:∀ b u,h.get? b=some u→h'.get? b=some u):Un fs ex H H h h':=
 ⟨fun b ob q _ _ _=>k b ob q,fun b ob q _ _ _=>⟨ob.slots,k b ob q⟩,fun _ _ _ n _=>n,fun b ob q _=>⟨ob,k b ob q⟩,fun _ _ q=>q,fun _ _ _ q=>q,fun _ ps q=>⟨#[],by rw [q];simp⟩⟩
theorem Un.refl:Un fs ex H H h h:=Un.kept fun _ _ q=>q
theorem Un.laid (k:∀ b u,h.get? b=some u→h'.get? b=some u) (hp:h.objs.size≤a) (hn:H a=none):Un fs ex H (upd H a o) h h' where
 keep:=fun b u q _ _ _=>k b u q
 slot:=fun b u q _ _ _=>⟨u.slots,k b u q⟩
 free:=fun b u q n _=>by rw [upd_ne (Nat.ne_of_lt (Nat.lt_of_lt_of_le (Heap.lt_size q) hp))];exact n
 there:=fun b u q _=>⟨u,k b u q⟩
 tups:=fun b xs q=>by rw [upd_ne (ne_of_none q hn)];exact q
 frzs:=fun b u xs q=>by rw [upd_ne (ne_of_none q hn)];exact q
 tbls:=fun b ps q=>⟨#[],by rw [upd_ne (ne_of_none q hn),q];simp⟩
theorem Un.write (mu:Mut (H x)) (he:e=x∨H e=some (.own x)) (k:∀ b u,b≠e→h.get? b=some u→h'.get? b=some u) (heo:∃ u,h'.get? e=some u):Un fs ex H (upd H x o) h h':=by
 have hx:∀ b,H b=none→b≠x:=fun b n z=>by subst z;rw [n] at mu;exact mu
 have hb:∀ b,H b=none→b≠e:=fun b n z=>by
  subst z
  rcases he with r | r
  ·exact hx b n r
  ·rw [n] at r;cases r
 have hm:∀ b u,H b=some u→¬ Mut (some u)→b≠x:=fun b u q nm z=>by subst z;rw [q] at mu;exact nm mu
 refine ⟨fun b u q n _ _=>k b u (hb b n) q,fun b u q n _ _=>⟨u.slots,k b u (hb b n) q⟩,fun b u q n _=>by rw [upd_ne (hx b n)];exact n,fun b u q _=>?_,
  fun b xs q=>by rw [upd_ne (hm b _ q fun z=>z)];exact q,fun b u xs q=>by rw [upd_ne (hm b _ q fun z=>z)];exact q,fun b ps q=>⟨#[],by rw [upd_ne (hm b _ q fun z=>z),q];simp⟩⟩
 by_cases hbe:b=e
 ·subst hbe;exact heo
 ·exact ⟨u,k b u hbe q⟩
end
def trk (h:Heap) (H:Hp):List Addr:=(List.range h.objs.size).filter fun a=>(H a).isSome
def hidT (h:Heap) (H:Hp):Heap:=PySem.W.hideAll h (trk h H)
theorem hidT_size (h:Heap) (H:Hp):(hidT h H).objs.size=h.objs.size:=PySem.W.hideAll_size _ _
theorem hidT_get {h:Heap}{H:Hp}{b:Addr}{o:Obj} (e:h.get? b=some o) (n:H b=none):(hidT h H).get? b=some o:=
 PySem.W.hideAll_get _ e fun hm=>by
  have q:(H b).isSome=true:=(List.mem_filter.mp hm).2
  rw [n] at q;simp at q
theorem of_hidT {h:Heap}{H:Hp}{b:Addr}{o:Obj} (e:(hidT h H).get? b=some o):h.get? b=some o∧H b=none:=by
 have e':h.get? b=some o:=PySem.W.of_hideAll (trk h H) e
 refine ⟨e',?_⟩
 cases q:H b with
 | none=>rfl
 | some x=>
  have hm:b∈trk h H:=List.mem_filter.mpr ⟨List.mem_range.mpr (Heap.lt_size e'),by simp [q]⟩
  have z:(hidT h H).get? b=none:=PySem.W.hideAll_none (trk h H) hm
  rw [z] at e;cases e
structure Mod (K:PySem.W.Frag) (mg:Str→Option Value) (base:Heap):Prop where
 kin:K.In base
 glob:base.Ns mainGlobals mg
 blt:∃ mb,base.Ns builtinsNs mb∧∀ x:Str,x≠"__name__"→mb x=bootBuiltins x
 nolimit:base.NoLimit
structure Cx where
 prog:Program
 w:World
 K:PySem.W.Frag
 mg:Str→Option Value
 base:Heap
 A:Around
 N:List Str
 s₀:Shared
 H₀:Hp
 env:Env
 outer:List Env
 stack:List Env
 ex:List Addr
 fn:Str→Bool
 calm:Bool
 pn:List (Addr×Obj)
 xe:Value→Shared→Prop
def frs (l:List Env):List Addr:=l.filterMap (·.frame)
abbrev Cx.fs (X:Cx):List Addr:=frs X.outer
def Vis (sc:Scope) (x:Str):Prop:=sc.names.lookup x=some .local∨sc.names.lookup x=some .cell∨sc.names.lookup x=some .free
def Loc (sc:Scope) (x:Str):Prop:=sc.names.lookup x=some .local∨sc.names.lookup x=some .cell
def Look (env:Env) (h:Heap) (m:Str→Option Value) (x:Str) (u:Value):Prop:=
 (env.kindOf x=some .local∧m x=some u)∨((env.kindOf x=some .cell∨env.kindOf x=some .free)∧∃ c,env.cells.lookup x=some c∧h.IsCell c (some u))
structure Cx.Ok (X:Cx):Prop where
 mod:Mod X.K X.mg X.base
 kind:X.env.scope.kind=.function
 glob:X.env.globals=mainGlobals
 blt:X.env.builtins=builtinsNs
 above:X.s₀.heap.objs.size≤X.env.locals
 inj:∀ x y c,X.env.cells.lookup x=some c→X.env.cells.lookup y=some c→x=y
 has:∀ x,(X.env.kindOf x=some .cell∨X.env.kindOf x=some .free)→∃ c,X.env.cells.lookup x=some c
 cab:∀ x c,X.fn x=true→X.env.cells.lookup x=some c→X.s₀.heap.objs.size≤c
 hd:X.calm=true→X.A.handled=none
 frames:X.A.frames=some X.stack
 stk:X.stack=X.outer∨(X.stack=X.env::X.outer∧X.env.frame=some X.env.locals)
 exf:∀ b∈X.ex,b≠X.env.locals∧∀ x c,X.env.cells.lookup x=some c→c≠b
 bs:∀ b o,X.base.get? b=some o→X.s₀.heap.get? b=some o∧X.H₀ b=none
 bsz:X.base.objs.size≤X.s₀.heap.objs.size
 noex:∀ b o,X.base.get? b=some o→b∉X.ex
 exfs:∀ b∈X.ex,b∉X.fs
 funs:X.s₀.heap.FunFrames X.base X.outer
 frf:∀ b∈X.fs,X.H₀ b=none
def HdOk (A:Around) (H:Hp):Prop:=A.handled=none∨∃ (a:Addr) (ob:Obj) (u:HO) (vs:Array Value),A.handled=some (.ref a)∧H a=some (.frz ob u)∧ob.data=.fields vs∧vs[2]? = some .none
theorem HdOk.mono {A:Around}{H H':Hp} (h:HdOk A H) (f:∀ b o u,H b=some (.frz o u)→H' b=some (.frz o u)):HdOk A H':=h.elim .inl fun ⟨a,ob,u,vs,h1,h2,h3⟩=>.inr ⟨a,ob,u,vs,h1,f _ _ _ h2,h3⟩
structure Inv (X:Cx) (pins:List (Addr×Obj)) (σ:List (Option V)) (H:Hp) (s:Shared):Prop where
 ok:X.Ok
 os:s.os=X.s₀.os
 bare:AllBare s.gens
 base:Un X.fs X.ex X.H₀ H X.s₀.heap s.heap
 loc:∃ m,s.heap.Ns X.env.locals m∧∀ (i:Nat) (x:Str) (v:V),X.N[i]? = some x→σ[i]? = some (some v)→Vis X.env.scope x→∃ u,RelV v u∧Look X.env s.heap m x u
 cell:∀ x c,X.env.cells.lookup x=some c→∃ v,s.heap.IsCell c v
 free:H X.env.locals=none
 freeC:∀ x c,X.env.cells.lookup x=some c→H c=none
 pin:∀ p∈X.pn++pins,s.heap.get? p.1=some p.2∧H p.1=none∧p.1≠X.env.locals∧p.1∉X.fs∧∀ v,p.2.data≠.cell v
 hok:HOk X.prog X.w H s.heap
 len:σ.length=X.N.length
 hq:HdOk X.A H
section
variable {X:Cx}{pins:List (Addr×Obj)}{σ:List (Option V)}{H H':Hp}{s:Shared}{h':Heap}
theorem Cx.Ok.nofr (ok:X.Ok) {b:Addr}{o:Obj} (e:X.base.get? b=some o):b∉X.fs:=fun hb=>by
 have:=(ok.funs.mem hb).1
 rw [e] at this;cases this
theorem Inv.bs (I:Inv X pins σ H s):∀ b o,X.base.get? b=some o→s.heap.get? b=some o∧H b=none:=fun b o e=>
 ⟨I.base.keep b o (I.ok.bs b o e).1 (I.ok.bs b o e).2 (I.ok.nofr e) (I.ok.noex b o e),I.base.free b o (I.ok.bs b o e).1 (I.ok.bs b o e).2 (I.ok.noex b o e)⟩
theorem Inv.bk (I:Inv X pins σ H s):∀ b o,X.base.get? b=some o→s.heap.get? b=some o:=fun b o e=>(I.bs b o e).1
theorem Inv.mod (I:Inv X pins σ H s):Mod X.K X.mg X.base:=I.ok.mod
theorem Inv.kIn (I:Inv X pins σ H s):X.K.In s.heap:=I.ok.mod.kin.keeps I.bk
theorem Inv.lt (I:Inv X pins σ H s):X.env.locals < s.heap.objs.size:=let ⟨_,hn,_⟩:=I.loc;hn.lt
theorem Inv.sz (I:Inv X pins σ H s):X.s₀.heap.objs.size≤s.heap.objs.size:=Nat.le_trans I.ok.above (Nat.le_of_lt I.lt)
theorem Inv.nofs (I:Inv X pins σ H s) {a:Addr} (h:s.heap.objs.size≤a):a∉X.fs:=fun hb=>by
 obtain ⟨_,o,ho,_⟩:=I.ok.funs.mem hb
 exact absurd (Nat.lt_of_lt_of_le (Heap.lt_size ho) (Nat.le_trans I.sz h)) (Nat.lt_irrefl _)
theorem Inv.cne (I:Inv X pins σ H s):∀ x c,X.env.cells.lookup x=some c→c≠X.env.locals:=fun x c e z=>by
 obtain ⟨v,o,ho,hd⟩:=I.cell x c e
 obtain ⟨m,⟨o',es,ep,ho',hd',_⟩,_⟩:=I.loc
 rw [z,ho'] at ho;cases ho;rw [hd'] at hd;cases hd
theorem Inv.funs (I:Inv X pins σ H s):s.heap.FunFrames X.base X.outer:=by
 have all:∀ (l:List Env),(∀ b∈frs l,b∈X.fs)→X.s₀.heap.FunFrames X.base l→s.heap.FunFrames X.base l:=by
  intro l
  induction l with
  | nil=>intro _ _;trivial
  | cons env r ih=>
   intro hs hl
   obtain ⟨hk,⟨L,o,hf,hn,ho,hd⟩,hr⟩:=hl
   have hL:L∈X.fs:=hs L (by unfold frs;rw [List.filterMap_cons,hf];exact List.mem_cons_self)
   obtain ⟨sl,e⟩:=I.base.slot L o ho (I.ok.frf L hL) hL fun z=>I.ok.exfs L z hL
   exact ⟨hk,⟨L,_,hf,hn,e,hd⟩,ih (fun b hb=>hs b (by unfold frs;rw [List.filterMap_cons,hf];exact List.mem_cons_of_mem _ hb)) hr⟩
 exact all X.outer (fun _ hb=>hb) I.ok.funs
theorem Inv.stack (I:Inv X pins σ H s):s.heap.FunFrames X.base X.stack:=by
 rcases I.ok.stk with e | ⟨e,hf⟩
 ·rw [e];exact I.funs
 ·rw [e]
  obtain ⟨m,hn,_⟩:=I.loc
  refine .cons (by rw [I.ok.kind];decide) hf hn ?_ I.funs
  exact Heap.get?_none_of_le (Nat.le_trans I.ok.bsz I.ok.above)
theorem Inv.stkSub (I:Inv X pins σ H s):∀ b∈frs X.stack,b∈X.env.locals::X.fs:=fun b hb=>by
 rcases I.ok.stk with e | ⟨e,hf⟩
 ·rw [e] at hb;exact List.mem_cons_of_mem _ hb
 ·rw [e] at hb
  unfold frs at hb
  rw [List.filterMap_cons,hf] at hb
  exact hb
theorem Inv.stkFree (I:Inv X pins σ H s):∀ b∈frs X.stack,H b=none:=fun b hb=>by
 rcases List.mem_cons.mp (I.stkSub b hb) with e | hb
 ·rw [e];exact I.free
 ·obtain ⟨_,o,ho,_⟩:=I.ok.funs.mem hb
  exact I.base.free b o ho (I.ok.frf b hb) fun z=>I.ok.exfs b z hb
theorem Inv.step {g':Array GenState}{t':Nat}{d':Drawn}{ch:List Addr} (I:Inv X pins σ H s)
  (hch:∀ b∈ch,(b∈X.ex∨X.s₀.heap.objs.size≤b)∧b≠X.env.locals∧(∀ x c,X.env.cells.lookup x=some c→c≠b)∧∀ p∈X.pn++pins,p.1≠b)
  (keep:∀ b o,b≠X.env.locals→b∉X.fs→b∉ch→s.heap.get? b=some o→H b=none→h'.get? b=some o)
  (slot:∀ b o,b≠X.env.locals→b∈X.fs→b∉ch→s.heap.get? b=some o→H b=none→∃ sl,h'.get? b=some { o with slots:=sl }) (free:∀ b o,b∉ch→s.heap.get? b=some o→H b=none→H' b=none)
  (there:∀ b o,b∉ch→s.heap.get? b=some o→∃ o',h'.get? b=some o')
  (tups:∀ b xs,H b=some (.tup xs)→H' b=some (.tup xs)) (frzs:∀ b o u,H b=some (.frz o u)→H' b=some (.frz o u)) (tbls:∀ b ps,H b=some (.tbl ps)→∃ more,H' b=some (.tbl (ps++more)))
  (ns:∀ m,s.heap.Ns X.env.locals m→h'.Ns X.env.locals m) (hok:HOk X.prog X.w H' h') (hg:AllBare g') :
  Inv X pins σ H' { s with heap:=h',gens:=g',drawn:=d',toks:=t' }:=by
 have neL:∀ b o,X.s₀.heap.get? b=some o→b≠X.env.locals:=fun b o e=>Nat.ne_of_lt (Nat.lt_of_lt_of_le (Heap.lt_size e) I.ok.above)
 have neC:∀ b o,X.s₀.heap.get? b=some o→b∉X.ex→b∉ch:=fun b o e hx hb=>by
  rcases (hch b hb).1 with z | z
  ·exact hx z
  ·exact absurd (Nat.lt_of_lt_of_le (Heap.lt_size e) z) (Nat.lt_irrefl _)
 have cellK:∀ x c,X.env.cells.lookup x=some c→∀ v,s.heap.IsCell c v→h'.IsCell c v:=fun x c e v ⟨o,ho,hd⟩=>by
  have nch:c∉ch:=fun z=>(hch c z).2.2.1 x c e rfl
  by_cases hc:c∈X.fs
  ·obtain ⟨sl,q⟩:=slot c o (I.cne x c e) hc nch ho (I.freeC x c e)
   exact ⟨_,q,hd⟩
  ·exact ⟨o,keep c o (I.cne x c e) hc nch ho (I.freeC x c e),hd⟩
 refine ⟨I.ok,I.os,hg,⟨fun b o e n hb hx=>?_,fun b o e n hb hx=>?_,fun b o e n hx=>?_,fun b o e hx=>?_,fun b xs e=>tups b xs (I.base.tups b xs e),fun b o xs e=>frzs b o xs (I.base.frzs b o xs e),fun b ps e=>?_⟩,?_,fun x c e=>?_,?_,fun x c e=>?_,fun p hp=>?_,hok,I.len,I.hq.mono frzs⟩
 ·exact keep b o (neL b o e) hb (neC b o e hx) (I.base.keep b o e n hb hx) (I.base.free b o e n hx)
 ·obtain ⟨sl,e1⟩:=I.base.slot b o e n hb hx
  obtain ⟨sl',e2⟩:=slot b _ (neL b o e) hb (neC b o e hx) e1 (I.base.free b o e n hx)
  exact ⟨sl',e2⟩
 ·obtain ⟨o',e1⟩:=I.base.there b o e hx
  exact free b o' (neC b o e hx) e1 (I.base.free b o e n hx)
 ·obtain ⟨o',e1⟩:=I.base.there b o e hx
  exact there b o' (neC b o e hx) e1
 ·obtain ⟨m1,e1⟩:=I.base.tbls b ps e
  obtain ⟨m2,e2⟩:=tbls b _ e1
  exact ⟨m1++m2,by rw [e2,Array.append_assoc]⟩
 ·obtain ⟨m,hn,hl⟩:=I.loc
  refine ⟨m,ns m hn,fun i x v e1 e2 e3=>?_⟩
  obtain ⟨u,r,l⟩:=hl i x v e1 e2 e3
  refine ⟨u,r,?_⟩
  rcases l with l | ⟨k,c,e,z⟩
  ·exact .inl l
  ·exact .inr ⟨k,c,e,cellK x c e _ z⟩
 ·obtain ⟨v,z⟩:=I.cell x c e
  exact ⟨v,cellK x c e v z⟩
 ·obtain ⟨m,⟨o,_,_,ho,_⟩,_⟩:=I.loc
  exact free _ o (fun z=>(hch _ z).2.1 rfl) ho I.free
 ·obtain ⟨v,o,ho,hd⟩:=I.cell x c e
  exact free c o (fun z=>(hch c z).2.2.1 x c e rfl) ho (I.freeC x c e)
 ·obtain ⟨e,n,ne,nf,d⟩:=I.pin p hp
  have nch:p.1∉ch:=fun z=>(hch p.1 z).2.2.2 p hp rfl
  exact ⟨keep p.1 p.2 ne nf nch e n,free p.1 p.2 nch e n,ne,nf,d⟩
theorem Inv.un {t':Nat} (I:Inv X pins σ H s) (u:Un X.fs [] H H' s.heap h') (hok:HOk X.prog X.w H' h'):Inv X pins σ H' { s with heap:=h',toks:=t' }:=by
 obtain ⟨m,⟨o,es,ep,ho,r⟩,_⟩:=id I.loc
 obtain ⟨sl,hL⟩:=u.any ho I.free (by simp)
 exact I.step (g':=s.gens) (d':=s.drawn) (ch:=[]) (fun _ z=>nomatch z) (fun b o _ hb _ e n=>u.keep b o e n hb (by simp)) (fun b o _ hb _ e n=>u.slot b o e n hb (by simp)) (fun b o _ e n=>u.free b o e n (by simp)) (fun b o _ e=>u.there b o e (by simp)) u.tups u.frzs u.tbls (fun m' hm=>by
  obtain ⟨o',es',ep',ho',r'⟩:=hm
  rw [ho] at ho';cases ho'
  exact ⟨_,es',ep',hL,r'⟩) hok I.bare
theorem Inv.call {g':Array GenState}{t':Nat}{d':Drawn}{ch:List Addr} (I:Inv X pins σ H s) (u:Un (frs X.stack) ch H H' s.heap h') (hok:HOk X.prog X.w H' h') (hg:AllBare g')
  (hch:∀ b∈ch,(b∈X.ex∨X.s₀.heap.objs.size≤b)∧b≠X.env.locals∧(∀ x c,X.env.cells.lookup x=some c→c≠b)∧∀ p∈X.pn++pins,p.1≠b) :
  Inv X pins σ H' { s with heap:=h',gens:=g',drawn:=d',toks:=t' }:=by
 obtain ⟨m,⟨o,es,ep,ho,r⟩,_⟩:=id I.loc
 obtain ⟨sl,hL⟩:=u.any ho I.free fun z=>(hch _ z).2.1 rfl
 exact I.step (ch:=ch) hch (fun b o hL hb hc e n=>u.keep b o e n (fun z=>(List.mem_cons.mp (I.stkSub b z)).elim hL hb) hc) (fun b o _ _ hc e n=>u.any e n hc) (fun b o hc e n=>u.free b o e n hc) (fun b o hc e=>u.there b o e hc) u.tups u.frzs u.tbls (fun m' hm=>by
  obtain ⟨o',es',ep',ho',r'⟩:=hm
  rw [ho] at ho';cases ho'
  exact ⟨_,es',ep',hL,r'⟩) hok hg
theorem Inv.turned {t':Nat}{it:Addr} (I:Inv X pins σ H s) (k:∀ b o,b≠it→s.heap.get? b=some o→h'.get? b=some o) (hn:H it=none) (hL:it≠X.env.locals)
  (h1:it∈X.ex∨X.s₀.heap.objs.size≤it) (h2:∀ x c,X.env.cells.lookup x=some c→c≠it) (h3:∀ p∈X.pn++pins,p.1≠it):Inv X pins σ H { s with heap:=h',toks:=t' }:=by
 have nit:∀ b u,H b=some u→b≠it:=fun b u e z=>by rw [z,hn] at e;cases e
 refine I.step (g':=s.gens) (d':=s.drawn) (ch:=[it]) (fun b hb=>?_) (fun b o _ _ hc e _=>k b o (fun z=>hc (by simp [z])) e) (fun b o _ _ hc e _=>⟨o.slots,k b o (fun z=>hc (by simp [z])) e⟩) (fun _ _ _ _ n=>n)
  (fun b o hc e=>⟨o,k b o (fun z=>hc (by simp [z])) e⟩) (fun _ _ e=>e) (fun _ _ _ e=>e) (fun b ps e=>⟨#[],by rw [e];simp⟩) (fun m hm=>?_) (fun b u e=>?_) I.bare
 ·have e:b=it:=by simpa using hb
  subst e
  exact ⟨h1,hL,h2,h3⟩
 ·obtain ⟨o,es,ep,ho,r⟩:=hm
  exact ⟨o,es,ep,k _ o (Ne.symm hL) ho,r⟩
 ·refine (I.hok b u e).stay (fun c v hc q=>k c v ?_ q) (fun _ q=>q) fun _ _ q=>q
  rcases hc with z | z
  ·rw [z];exact nit b u e
  ·exact nit c _ z
theorem Inv.tok (I:Inv X pins σ H s) (t:Nat):Inv X pins σ H { s with toks:=t }:=I.un (h':=s.heap) (t':=t) Un.refl I.hok
theorem Inv.kept {t':Nat} (I:Inv X pins σ H s) (k:∀ b u,s.heap.get? b=some u→h'.get? b=some u):Inv X pins σ H { s with heap:=h',toks:=t' }:=I.un (Un.kept k) (I.hok.kept k)
theorem Inv.laid {a:Addr}{o:HO}{t':Nat} (I:Inv X pins σ H s) (k:∀ b u,s.heap.get? b=some u→h'.get? b=some u) (hp:s.heap.objs.size≤a) (new:ObjOk X.prog X.w (upd H a o) h' a o) :
  Inv X pins σ (upd H a o) { s with heap:=h',toks:=t' }:=I.un (Un.laid k hp (I.hok.fresh hp)) (I.hok.laid k hp new)
theorem Inv.write {x e:Addr}{o:HO}{t':Nat} (I:Inv X pins σ H s) (mu:Mut (H x)) (he:e=x∨H e=some (.own x)) (k:∀ b u,b≠e→s.heap.get? b=some u→h'.get? b=some u) (heo:∃ u,h'.get? e=some u)
  (new:ObjOk X.prog X.w (upd H x o) h' x o):Inv X pins σ (upd H x o) { s with heap:=h',toks:=t' }:=I.un (Un.write mu he k heo) (I.hok.write mu he k heo new)
theorem Inv.pins_of {pins':List (Addr×Obj)} (I:Inv X pins σ H s) (h:∀ p∈pins',s.heap.get? p.1=some p.2∧H p.1=none∧p.1≠X.env.locals∧p.1∉X.fs∧∀ v,p.2.data≠.cell v):Inv X pins' σ H s:=
 ⟨I.ok,I.os,I.bare,I.base,I.loc,I.cell,I.free,I.freeC,fun p hp=>(List.mem_append.mp hp).elim (fun z=>I.pin p (List.mem_append_left _ z)) (h p),I.hok,I.len,I.hq⟩
theorem nodup_ix {N:List Str} (hN:N.Nodup) {i j:Nat}{x:Str} (a:N[i]? = some x) (b:N[j]? = some x):i=j:=by
 obtain ⟨h1,e1⟩:=List.getElem?_eq_some_iff.mp a
 obtain ⟨h2,e2⟩:=List.getElem?_eq_some_iff.mp b
 exact (List.getElem_inj hN).mp (e1.trans e2.symm)
theorem store_ok2 {M:Model}{A:Around}{E:Value→Shared→Prop}{i:Nat}{x:Str}{v:V}{u:Value}{Q:Unit→Shared→Prop} (I:Inv X pins σ H s) (hN:X.N.Nodup) (hi:X.N[i]? = some x) (hx:Loc X.env.scope x) (r:RelV v u)
  (h:∀ s',Inv X pins (σ.set i (some v)) H s'→(∃ a,Heap.SameBut a s.heap s'.heap∧(a=X.env.locals∨X.env.cells.lookup x=some a))→Q () s') (hf:X.fn x=true∨X.env.scope.names.lookup x=some .local:=by first | exact .inl rfl | exact .inr rfl | assumption):wpAny M A (storeName X.env x u) Q E s:=by
 obtain ⟨m,hn,hl⟩:=id I.loc
 have hcls:(X.env.scope.kind == .class||(X.env.scope.kind == .module&&X.env.locals != X.env.globals))=false:=by rw [I.ok.kind];rfl
 have hiσ:i < σ.length:=by rw [I.len];exact (List.getElem?_eq_some_iff.mp hi).1
 have cne:=I.cne
 have tracked:∀ {a:Addr}{h':Heap},(∃ o,s.heap.get? a=some o∧H a=none)→Heap.SameBut a s.heap h'→HOk X.prog X.w H h':=fun {a h'} ha hs b ob e=>by
  obtain ⟨_,_,hfree⟩:=ha
  refine (I.hok b ob e).stay (fun c w' hc q=>(hs.2 c ?_).trans q) (fun _ q=>q) fun _ _ q=>q
  rintro rfl
  rcases hc with rfl | hc
  ·rw [hfree] at e;cases e
  ·rw [hfree] at hc;cases hc
 rcases hx with hk | hk
 ·refine wpAny_storeName_local hk hn (fun h' hn' hs=>?_) hcls
  obtain ⟨oL,_,_,hoL,_⟩:=id hn
  refine h _ ⟨I.ok,I.os,I.bare,⟨fun b o e n hb hx=>?_,fun b o e n hb hx=>?_,I.base.free,fun b o e hx=>?_,I.base.tups,I.base.frzs,I.base.tbls⟩,⟨_,hn',fun j y v' e1 e2 e3=>?_⟩,fun y c e=>?_,I.free,I.freeC,fun p hp=>?_,tracked ⟨oL,hoL,I.free⟩ hs,by simpa using I.len,I.hq⟩ ⟨_,hs,.inl rfl⟩
  ·exact (hs.2 b (Nat.ne_of_lt (Nat.lt_of_lt_of_le (Heap.lt_size e) I.ok.above))).trans (I.base.keep b o e n hb hx)
  ·obtain ⟨sl,e1⟩:=I.base.slot b o e n hb hx
   exact ⟨sl,(hs.2 b (Nat.ne_of_lt (Nat.lt_of_lt_of_le (Heap.lt_size e) I.ok.above))).trans e1⟩
  ·obtain ⟨o',e1⟩:=I.base.there b o e hx
   exact ⟨o',(hs.2 b (Nat.ne_of_lt (Nat.lt_of_lt_of_le (Heap.lt_size e) I.ok.above))).trans e1⟩
  ·by_cases hj:j=i
   ·subst hj
    rw [hi] at e1;cases e1
    rw [List.getElem?_set_self hiσ] at e2
    cases e2
    exact ⟨u,r,.inl ⟨hk,by simp⟩⟩
   ·rw [List.getElem?_set_ne (Ne.symm hj)] at e2
    obtain ⟨u',r',q⟩:=hl j y v' e1 e2 e3
    refine ⟨u',r',?_⟩
    rcases q with ⟨k,e⟩ | ⟨k,c,e,z⟩
    ·refine .inl ⟨k,?_⟩
     have:y≠x:=fun e=>hj (nodup_ix hN e1 (e ▸ hi))
     simp [this,e]
    ·exact .inr ⟨k,c,e,z.sameBut hs (cne y c e)⟩
  ·obtain ⟨w',z⟩:=I.cell y c e
   exact ⟨w',z.sameBut hs (cne y c e)⟩
  ·obtain ⟨e,n,ne,nf,d⟩:=I.pin p hp
   exact ⟨(hs.2 p.1 ne).trans e,n,ne,nf,d⟩
 ·have hfn:X.fn x=true:=by
   rcases hf with z | z
   ·exact z
   ·rw [z] at hk;cases hk
  obtain ⟨c,hc⟩:=I.ok.has x (.inl hk)
  obtain ⟨w',z⟩:=I.cell x c hc
  refine wpAny_storeName_cell I.ok.kind hk hc z (fun h' hc' hs=>?_)
  obtain ⟨oc,hoc,hocd⟩:=id z
  refine h { s with heap:=h' } ⟨I.ok,I.os,I.bare,⟨fun b o e n hb hx=>?_,fun b o e n hb hx=>?_,I.base.free,fun b o e hx=>?_,I.base.tups,I.base.frzs,I.base.tbls⟩,⟨m,hn.sameBut hs (Ne.symm (cne x c hc)),fun j y v' e1 e2 e3=>?_⟩,fun y c' e=>?_,I.free,I.freeC,fun p hp=>?_,tracked ⟨oc,hoc,I.freeC x c hc⟩ hs,by simpa using I.len,I.hq⟩ ⟨c,hs,.inr hc⟩
  ·exact (hs.2 b (Nat.ne_of_lt (Nat.lt_of_lt_of_le (Heap.lt_size e) (I.ok.cab x c hfn hc)))).trans (I.base.keep b o e n hb hx)
  ·obtain ⟨sl,e1⟩:=I.base.slot b o e n hb hx
   exact ⟨sl,(hs.2 b (Nat.ne_of_lt (Nat.lt_of_lt_of_le (Heap.lt_size e) (I.ok.cab x c hfn hc)))).trans e1⟩
  ·obtain ⟨o',e1⟩:=I.base.there b o e hx
   exact ⟨o',(hs.2 b (Nat.ne_of_lt (Nat.lt_of_lt_of_le (Heap.lt_size e) (I.ok.cab x c hfn hc)))).trans e1⟩
  ·by_cases hj:j=i
   ·subst hj
    rw [hi] at e1;cases e1
    rw [List.getElem?_set_self hiσ] at e2
    cases e2
    exact ⟨u,r,.inr ⟨.inl hk,c,hc,hc'⟩⟩
   ·rw [List.getElem?_set_ne (Ne.symm hj)] at e2
    obtain ⟨u',r',q⟩:=hl j y v' e1 e2 e3
    refine ⟨u',r',?_⟩
    rcases q with q | ⟨k,c',e,z'⟩
    ·exact .inl q
    ·refine .inr ⟨k,c',e,z'.sameBut hs ?_⟩
     rintro rfl
     exact hj (nodup_ix hN e1 (I.ok.inj _ _ _ e hc ▸ hi))
  ·by_cases hcc:c'=c
   ·subst hcc;exact ⟨_,hc'⟩
   ·obtain ⟨w2,z2⟩:=I.cell y c' e
    exact ⟨w2,z2.sameBut hs hcc⟩
  ·obtain ⟨e,n,ne,nf,d⟩:=I.pin p hp
   refine ⟨(hs.2 p.1 ?_).trans e,n,ne,nf,d⟩
   intro q
   rw [q,hoc] at e
   have q':oc=p.2:=Option.some.inj e
   exact d w' (by rw [← q'];exact hocd)
theorem store_ok {M:Model}{A:Around}{E:Value→Shared→Prop}{i:Nat}{x:Str}{v:V}{u:Value}{Q:Unit→Shared→Prop} (I:Inv X pins σ H s) (hN:X.N.Nodup) (hi:X.N[i]? = some x) (hx:Loc X.env.scope x) (r:RelV v u)
  (h:∀ s',Inv X pins (σ.set i (some v)) H s'→Q () s') (hf:X.fn x=true∨X.env.scope.names.lookup x=some .local:=by first | exact .inl rfl | exact .inr rfl | assumption):wpAny M A (storeName X.env x u) Q E s:=
 store_ok2 I hN hi hx r (fun s' I' _=>h s' I') hf
theorem Inv.call' {s':Shared}{ch:List Addr} (I:Inv X pins σ H s) (ho:s'.os=s.os) (u:Un (frs X.stack) ch H H' s.heap s'.heap) (hok:HOk X.prog X.w H' s'.heap) (hg:AllBare s'.gens)
  (hch:∀ b∈ch,(b∈X.ex∨X.s₀.heap.objs.size≤b)∧b≠X.env.locals∧(∀ x c,X.env.cells.lookup x=some c→c≠b)∧∀ p∈X.pn++pins,p.1≠b):Inv X pins σ H' s':=by
 obtain ⟨h',g',d',t',o'⟩:=s'
 have e:o'=s.os:=ho
 subst e
 exact I.call (g':=g') (t':=t') (d':=d') u hok hg hch
end
abbrev XK:=Value→Option Addr→Hp→Prop
abbrev St:=List (Option V)
abbrev VK:=V→Hp→Prop
abbrev TE:=St→Hp→VK→Prop
abbrev TT:=St→Hp→(Bool→Hp→Prop)→Prop
abbrev TA:=St→Hp→(List V→Hp→Prop)→Prop
structure Ends where
 nx:St→Hp→Prop
 rt:VK
 bk:St→Hp→Prop:=fun _ _=>False
 ct:St→Hp→Prop:=fun _ _=>False
abbrev TS:=Ends→St→Hp→Prop
def EP (X:Cx) (pins:List (Addr×Obj)) (σ:St) (Q:VK) (u:Value) (s':Shared):Prop:=∃ v H',Inv X pins σ H' s'∧RelV v u∧Q v H'
def TP (X:Cx) (pins:List (Addr×Obj)) (σ:St) (Q:Bool→Hp→Prop) (b:Bool) (s':Shared):Prop:=∃ H',Inv X pins σ H' s'∧Q b H'
def AP (X:Cx) (pins:List (Addr×Obj)) (σ:St) (Q:List V→Hp→Prop) (us:List Value) (s':Shared):Prop:=∃ vs H',Inv X pins σ H' s'∧Vals vs us∧Q vs H'
def SP (X:Cx) (pins:List (Addr×Obj)) (D:Ends) (f:Flow) (s':Shared):Prop:=
 match f with
 | .next=>∃ σ' H',Inv X pins σ' H' s'∧D.nx σ' H'
 | .brk=>∃ σ' H',Inv X pins σ' H' s'∧D.bk σ' H'
 | .cont=>∃ σ' H',Inv X pins σ' H' s'∧D.ct σ' H'
 | .ret u=>∃ v σ' H',Inv X pins σ' H' s'∧RelV v u∧D.rt v H'
def PE (X:Cx) (e:Expr) (t:TE):Prop:=
 ∀ (pins:List (Addr×Obj)) (s:Shared) (σ:St) (H:Hp) (Q:VK),Inv X pins σ H s→t σ H Q→wpAny (model X.prog X.w) X.A (eval e X.env) (EP X pins σ Q) X.xe s
def PT (X:Cx) (e:Expr) (t:TT):Prop:=
 ∀ (pins:List (Addr×Obj)) (s:Shared) (σ:St) (H:Hp) (Q:Bool→Hp→Prop),Inv X pins σ H s→t σ H Q→wpAny (model X.prog X.w) X.A (isTrue e X.env (eval e X.env)) (TP X pins σ Q) X.xe s
def PW (X:Cx) (e:Expr) (t:TT):Prop:=
 ∀ (whole:Sem Value) (pins:List (Addr×Obj)) (s:Shared) (σ:St) (H:Hp) (Q:Bool→Hp→Prop),Inv X pins σ H s→t σ H Q→wpAny (model X.prog X.w) X.A (isTrue e X.env whole) (TP X pins σ Q) X.xe s
theorem PW.pt {X:Cx}{e:Expr}{t:TT} (h:PW X e t):PT X e t:=h _
def PA (X:Cx) (es:List Expr) (t:TA):Prop:=
 ∀ (pos:Pos) (pins:List (Addr×Obj)) (s:Shared) (σ:St) (H:Hp) (Q:List V→Hp→Prop),Inv X pins σ H s→t σ H Q→wpAny (model X.prog X.w) X.A (spliced (backTo pos (starEach es X.env))) (AP X pins σ Q) X.xe s
def PS (X:Cx) (st:Stmt) (t:TS):Prop:=
 ∀ (pins:List (Addr×Obj)) (s:Shared) (σ:St) (H:Hp) (D:Ends),Inv X pins σ H s→t D σ H→wpAny (model X.prog X.w) X.A (exec st X.env) (SP X pins D) X.xe s
def PSs (X:Cx) (st:List Stmt) (t:TS):Prop:=
 ∀ (pins:List (Addr×Obj)) (s:Shared) (σ:St) (H:Hp) (D:Ends),Inv X pins σ H s→t D σ H→wpAny (model X.prog X.w) X.A (execs st X.env) (SP X pins D) X.xe s
theorem thn {α:Type}{t:Sem α}{Q Q':α→Shared→Prop}{M:Model}{A:Around}{E:Value→Shared→Prop}{s:Shared} (h:wpAny M A t Q E s) (hQ:∀ a s,Q a s→Q' a s):wpAny M A t Q' E s:=wpAny_mono h hQ fun _ _ x=>x
section
variable {X:Cx}
theorem bin {a b:Expr}{ta tb:TE} (ha:PE X a ta) (hb:PE X b tb) {pins:List (Addr×Obj)}{s:Shared}{σ:St}{H:Hp}{R:V→V→Hp→Prop} (I:Inv X pins σ H s) (h:ta σ H fun x H1=>tb σ H1 fun y H2=>R x y H2)
  {α:Type}{Q:α→Shared→Prop}{f:Value→Value→Sem α}
  (hf:∀ v u s2 x y H2,Inv X pins σ H2 s2→RelV x v→RelV y u→R x y H2→wpAny (model X.prog X.w) X.A (f v u) Q X.xe s2) :
  wpAny (model X.prog X.w) X.A (eval a X.env) (fun v s₁=>wpAny (model X.prog X.w) X.A (eval b X.env) (fun u s₂=>wpAny (model X.prog X.w) X.A (f v u) Q X.xe s₂) X.xe s₁) X.xe s:=by
 refine thn (ha pins s σ H _ I h) fun v s1 ⟨x,H1,I1,r1,q1⟩=>?_
 refine thn (hb pins s1 σ H1 _ I1 q1) fun u s2 ⟨y,H2,I2,r2,q2⟩=>?_
 exact hf v u s2 x y H2 I2 r1 r2 q2
def tVar (i:Nat):TE:=fun σ H Q=>∃ v,σ[i]? = some (some v)∧Q v H
def tC (v:V):TE:=fun _ H Q=>Q v H
theorem pe_var {i:Nat}{x:Str}{pos:Pos} (hN:X.N[i]? = some x) (hv:Vis X.env.scope x) (hd:(x == ("__debug__":Str))=false:=by decide) (hcd:(x == ("__classdict__":Str))=false:=by decide):PE X (.Name x pos) (tVar i):=by
 intro pins s σ H Q I h
 obtain ⟨v,e,h⟩:=h
 obtain ⟨m,hn,hl⟩:=I.loc
 obtain ⟨u,r,l⟩:=hl i x v hN e hv
 have fin:EP X pins σ Q u s:=⟨v,H,I,r,h⟩
 rcases l with ⟨hk,hm⟩ | ⟨hk,c,hc,hcell⟩
 ·exact wpAny_Name (wpAny_loadName_local I.ok.kind hk hn hm fin) hd
 ·rcases hk with hk | hk
  ·exact wpAny_Name (wpAny_loadName_cell I.ok.kind hk hc hcell fin) hd
  ·exact wpAny_Name (wpAny_loadName_free I.ok.kind hk hc hcell fin hcd) hd
theorem pe_int {i j pos}:PE X (.Constant (.int i) j pos) (tC (.int i)):=fun _ _ _ H _ I h=>wpAny_Constant_int ⟨.int i,H,I.tok _,⟨_,rfl⟩,h⟩
theorem pe_bl {b j pos}:PE X (.Constant (.bool b) j pos) (tC (.bl b)):=fun _ _ _ H _ I h=>Constant_bool ⟨.bl b,H,I,rfl,h⟩
def Gl (X:Cx) (x:Str):Prop:=X.env.kindOf x=some .globalImplicit
theorem ld_glob {E:Value→Shared→Prop}{pins:List (Addr×Obj)}{s:Shared}{σ:St}{H:Hp}{x:Str}{u:Value}{pos:Pos}{Q:Value→Shared→Prop} (I:Inv X pins σ H s) (hg:Gl X x) (hm:X.mg x=some u) (h:Q u s)
  (hd:(x == ("__debug__":Str))=false:=by decide):wpAny (model X.prog X.w) X.A (eval (.Name x pos) X.env) Q E s:=
 Calls.Name_function_global I.ok.kind hg (Calls.loadGlobal_global (by rw [I.ok.glob];exact I.mod.glob.keeps I.bk) hm h) hd
theorem ld_blt {E:Value→Shared→Prop}{pins:List (Addr×Obj)}{s:Shared}{σ:St}{H:Hp}{x:Str}{u:Value}{pos:Pos}{Q:Value→Shared→Prop} (I:Inv X pins σ H s) (hg:Gl X x) (hm:X.mg x=none) (hv:bootBuiltins x=some u) (h:Q u s)
  (hn:x≠"__name__":=by decide) (hd:(x == ("__debug__":Str))=false:=by decide):wpAny (model X.prog X.w) X.A (eval (.Name x pos) X.env) Q E s:=by
 obtain ⟨mb,h1,h2⟩:=I.mod.blt
 exact Calls.Name_function_global I.ok.kind hg (Calls.loadGlobal_builtin (by rw [I.ok.glob];exact I.mod.glob.keeps I.bk) hm (by rw [I.ok.blt];exact h1.keeps I.bk) ((h2 x hn).trans hv) h) hd
theorem pe_glob {x:Str}{v:V}{u:Value}{pos:Pos} (hg:Gl X x) (hm:X.mg x=some u) (r:RelV v u) (hd:(x == ("__debug__":Str))=false:=by decide):PE X (.Name x pos) (tC v):=
 fun _ _ _ H _ I h=>ld_glob I hg hm ⟨v,H,I,r,h⟩ hd
theorem pe_bltn {x:Str}{v:V}{u:Value}{pos:Pos} (hg:Gl X x) (hm:X.mg x=none) (hv:bootBuiltins x=some u) (r:RelV v u) (hn:x≠"__name__":=by decide) (hd:(x == ("__debug__":Str))=false:=by decide):PE X (.Name x pos) (tC v):=
 fun _ _ _ H _ I h=>ld_blt I hg hm hv ⟨v,H,I,r,h⟩ hn hd
variable {a b:Expr}{ta tb:TE}{pos:Pos}
def PC (X:Cx) (op:CmpOp) (a b:Expr) (t:TE):Prop:=
 ∀ (pins:List (Addr×Obj)) (s:Shared) (σ:St) (H:Hp) (Q:VK),Inv X pins σ H s→t σ H Q →
  wpAny (model X.prog X.w) X.A (eval a X.env) (fun v s₁=>wpAny (model X.prog X.w) X.A (eval b X.env) (fun u s₂=>wpAny (model X.prog X.w) X.A (compareOp op v u) (EP X pins σ Q) X.xe s₂) X.xe s₁) X.xe s
def tB (t:TE):TT:=fun σ H Q=>t σ H fun x H1=>∃ c,x=.bl c∧Q c H1
theorem pt_cmp {op:CmpOp}{t:TE} (h:PC X op a b t) (h1:behindInMarks op b=false:=by first | exact nobehind _ (by decide) (by decide) | rfl):PT X (.Compare a [op] [b] pos) (tB t):=by
 intro pins s σ H Q I hw
 refine wpAny_isTrue_Compare1 (thn (h pins s σ H _ I hw) fun v s1 h1=>thn h1 fun u s2 h2=>thn h2 fun c s3 ⟨x,H1,I1,r1,q1⟩=>?_) h1
 obtain ⟨d,rfl,q⟩:=q1
 cases r1
 exact wpAny_truthy_bool ⟨H1,I1,q⟩
theorem pt_val {e:Expr}{t:TE} (h:PE X e t) (he:∀ whole,isTrue e X.env whole=(do let v ← whole;standAt e.pos;holding [v] (truthy v)):=by intro _;rfl):PT X e (tB t):=by
 intro pins s σ H Q I hw
 refine isTrue_plain (thn (h pins s σ H _ I hw) fun v s1 ⟨x,H1,I1,r1,q1⟩=>?_) (he _)
 obtain ⟨d,rfl,q⟩:=q1
 cases r1
 exact wpAny_truthy_bool ⟨H1,I1,q⟩
variable {tA tB':TT}{rest:List Expr}
def tAnd (t u:TT):TT:=fun σ H Q=>t σ H fun c H1=>if c=true then u σ H1 Q else Q false H1
def tOr (t u:TT):TT:=fun σ H Q=>t σ H fun c H1=>if c=true then Q true H1 else u σ H1 Q
def tNot (t:TT):TT:=fun σ H Q=>t σ H fun c H1=>Q (!c) H1
theorem pw_and1 (ha:PT X a tA):PW X (.BoolOp .And [a] pos) tA:=by
 intro wh pins s σ H Q I h
 refine isTrue_and (thn (ha pins s σ H Q I h) fun c s1 e=>?_)
 cases c with
 | true=>exact isTrue_and_nil e
 | false=>exact e
theorem pw_or1 (ha:PT X a tA):PW X (.BoolOp .Or [a] pos) tA:=by
 intro wh pins s σ H Q I h
 refine isTrue_or (thn (ha pins s σ H Q I h) fun c s1 e=>?_)
 cases c with
 | false=>exact isTrue_or_nil e
 | true=>exact e
theorem pw_and (ha:PT X a tA) (hb:PW X (.BoolOp .And (b::rest) pos) tB'):PW X (.BoolOp .And (a::b::rest) pos) (tAnd tA tB'):=by
 intro wh pins s σ H Q I h
 refine isTrue_and (thn (ha pins s σ H _ I h) fun c s1 ⟨H1,I1,q1⟩=>?_)
 cases c with
 | true=>exact hb wh pins s1 σ H1 Q I1 q1
 | false=>exact ⟨H1,I1,q1⟩
theorem pw_or (ha:PT X a tA) (hb:PW X (.BoolOp .Or (b::rest) pos) tB'):PW X (.BoolOp .Or (a::b::rest) pos) (tOr tA tB'):=by
 intro wh pins s σ H Q I h
 refine isTrue_or (thn (ha pins s σ H _ I h) fun c s1 ⟨H1,I1,q1⟩=>?_)
 cases c with
 | true=>exact ⟨H1,I1,q1⟩
 | false=>exact hb wh pins s1 σ H1 Q I1 q1
theorem pt_not (ha:PT X a tA):PT X (.UnaryOp .Not a pos) (tNot tA):=by
 intro pins s σ H Q I h
 exact isTrue_not (ha pins s σ H (fun c H1=>Q (!c) H1) I h)
def tAndV (ta tb:TE):TE:=fun σ H Q=>ta σ H fun x H1=>∃ c,x=.bl c∧if c=true then tb σ H1 Q else Q (.bl false) H1
def tOrV (ta tb:TE):TE:=fun σ H Q=>ta σ H fun x H1=>∃ c,x=.bl c∧if c=true then Q (.bl true) H1 else tb σ H1 Q
def tNotV (ta:TE):TE:=fun σ H Q=>ta σ H fun x H1=>∃ c,x=.bl c∧Q (.bl (!c)) H1
theorem pe_one {op}{t:TE} (h:PE X a t):PE X (.BoolOp op [a] pos) t:=fun pins s σ H Q I hw=>BoolOp_one (h pins s σ H Q I hw)
theorem pe_and (ha:PE X a ta) (hb:PE X (.BoolOp .And (b::rest) pos) tb):PE X (.BoolOp .And (a::b::rest) pos) (tAndV ta tb):=by
 intro pins s σ H Q I h
 refine BoolOp_and (thn (ha pins s σ H _ I h) fun v s1 ⟨x,H1,I1,r1,q1⟩=>?_)
 obtain ⟨c,rfl,q1⟩:=q1
 cases r1
 refine wpAny_truthy_bool ?_
 cases c with
 | true=>exact hb pins s1 σ H1 Q I1 q1
 | false=>exact ⟨.bl false,H1,I1,rfl,q1⟩
theorem pe_or (ha:PE X a ta) (hb:PE X (.BoolOp .Or (b::rest) pos) tb):PE X (.BoolOp .Or (a::b::rest) pos) (tOrV ta tb):=by
 intro pins s σ H Q I h
 refine BoolOp_or (thn (ha pins s σ H _ I h) fun v s1 ⟨x,H1,I1,r1,q1⟩=>?_)
 obtain ⟨c,rfl,q1⟩:=q1
 cases r1
 refine wpAny_truthy_bool ?_
 cases c with
 | false=>exact hb pins s1 σ H1 Q I1 q1
 | true=>exact ⟨.bl true,H1,I1,rfl,q1⟩
theorem pe_not (ha:PE X a ta):PE X (.UnaryOp .Not a pos) (tNotV ta):=by
 intro pins s σ H Q I h
 refine UnaryOp_ (thn (ha pins s σ H _ I h) fun v s1 ⟨x,H1,I1,r1,q1⟩=>?_)
 obtain ⟨c,rfl,q1⟩:=q1
 cases r1
 exact not_of (wpAny_truthy_bool ⟨.bl (!c),H1,I1,rfl,q1⟩)
end
def SqL (K:PySem.W.Frag) (H:Hp) (a:Addr) (xs:List V):Prop:=
 Rd H a (.lst xs) ∨
  ∃ (o:Obj) (its:Array Value) (n:Nat),K.lookup a=some o∧o.cls=.type "list"∧o.dict=none∧o.data=.seq its n∧its.size≤sizeLine∧Vals xs its.toList
def SqT (K:PySem.W.Frag) (H:Hp) (a:Addr) (xs:List V):Prop:=
 Rd H a (.tup xs) ∨
  ∃ (o:Obj) (its:Array Value) (n:Nat),K.lookup a=some o∧o.cls=.type "tuple"∧o.dict=none∧o.data=.seq its n∧its.size≤sizeLine∧Vals xs its.toList
def absV:Value→Option V
 | .none=>some .non
 | .bool b=>some (.bl b)
 | .int i _=>some (.int i)
 | .str x _=>some (.str x)
 | .bytes b _=>some (.byt b)
 | .float b _=>some (.flt b)
 | .ref a=>some (.ref a)
 | .type n=>some (.ty n)
 | _=>none
theorem RelV.abs {x:V}{u:Value} (r:RelV x u):absV u=some x:=by
 cases x with
 | non=>cases r;rfl
 | bl _=>cases r;rfl
 | int _=>obtain ⟨t,rfl⟩:=r;rfl
 | str _=>obtain ⟨t,rfl⟩:=r;rfl
 | byt _=>obtain ⟨t,rfl⟩:=r;rfl
 | flt _=>obtain ⟨t,rfl⟩:=r;rfl
 | ref _=>cases r;rfl
 | ty _=>cases r;rfl
theorem RelV.inj {x y:V}{u:Value} (r:RelV x u) (q:RelV y u):x=y:=Option.some.inj (r.abs.symm.trans q.abs)
theorem Vals.inj:∀ {xs ys:List V}{us:List Value},Vals xs us→Vals ys us→xs=ys
 | _,_,_,.nil,.nil=>rfl
 | _,_,_,.cons r t,.cons r' t'=>by rw [r.inj r',Vals.inj t t']
section
variable {X:Cx}{pins:List (Addr×Obj)}{σ:St}{H:Hp}{s:Shared}{a:Addr}{xs ys:List V}
theorem SqL.of {K:PySem.W.Frag} (h:H a=some (.lst xs)):SqL K H a xs:=.inl (.inl h)
theorem SqT.of {K:PySem.W.Frag} (h:H a=some (.tup xs)):SqT K H a xs:=.inl (.inl h)
theorem Inv.list (I:Inv X pins σ H s) (h:SqL X.K H a xs):∃ its:List Value,Vals xs its∧PlainL s.heap a its.toArray∧xs.length≤sizeLine:=by
 rcases h with h | ⟨o,its,n,hk,hc,hd,hs,hz,r⟩
 ·obtain ⟨z,its,n,r,e⟩:=h.ok I.hok
  exact ⟨its,r,⟨_,n,e,rfl,rfl,rfl⟩,z⟩
 ·refine ⟨its.toList,r,⟨o,n,I.kIn a o hk,hc,hd,by simpa using hs⟩,?_⟩
  have e:=r.length
  simp only [Array.length_toList] at e
  omega
theorem Inv.tuple (I:Inv X pins σ H s) (h:SqT X.K H a xs):∃ its:List Value,Vals xs its∧IsTup s.heap a its.toArray∧xs.length≤sizeLine:=by
 rcases h with h | ⟨o,its,n,hk,hc,hd,hs,hz,r⟩
 ·obtain ⟨z,its,r,p⟩:=h.ok I.hok
  exact ⟨its,r,p.isTup,z⟩
 ·refine ⟨its.toList,r,⟨o,I.kIn a o hk,hc,n,by simpa using hs⟩,?_⟩
  have e:=r.length
  simp only [Array.length_toList] at e
  omega
theorem Inv.list_inj (I:Inv X pins σ H s) (h:SqL X.K H a xs) (h':SqL X.K H a ys):xs=ys:=by
 obtain ⟨its,r,⟨o,n,e,_,_,d⟩,_⟩:=I.list h
 obtain ⟨its',r',⟨o',n',e',_,_,d'⟩,_⟩:=I.list h'
 rw [e] at e';cases e'
 rw [d] at d'
 injection d' with d1 _
 have:its=its':=by simpa using congrArg Array.toList d1
 subst this
 exact r.inj r'
theorem Inv.tuple_inj (I:Inv X pins σ H s) (h:SqT X.K H a xs) (h':SqT X.K H a ys):xs=ys:=by
 obtain ⟨its,r,⟨o,e,_,n,d⟩,_⟩:=I.tuple h
 obtain ⟨its',r',⟨o',e',_,n',d'⟩,_⟩:=I.tuple h'
 rw [e] at e';cases e'
 rw [d] at d'
 injection d' with d1 _
 have:its=its':=by simpa using congrArg Array.toList d1
 subst this
 exact r.inj r'
end
abbrev Cx.wish (X:Cx) (E:Value→Shared→Prop):Cx:={ X with xe:=E }
abbrev Cx.nox (X:Cx):Cx:=X.wish fun _ _=>False
theorem Cx.Ok.wish {X:Cx} (ok:X.Ok) (E:Value→Shared→Prop):(X.wish E).Ok:=
 ⟨ok.mod,ok.kind,ok.glob,ok.blt,ok.above,ok.inj,ok.has,ok.cab,ok.hd,ok.frames,ok.stk,ok.exf,ok.bs,ok.bsz,ok.noex,ok.exfs,ok.funs,ok.frf⟩
theorem Cx.Ok.unwish {X:Cx}{E:Value→Shared→Prop} (ok:(X.wish E).Ok):X.Ok:=
 ⟨ok.mod,ok.kind,ok.glob,ok.blt,ok.above,ok.inj,ok.has,ok.cab,ok.hd,ok.frames,ok.stk,ok.exf,ok.bs,ok.bsz,ok.noex,ok.exfs,ok.funs,ok.frf⟩
section
variable {X:Cx}{pins:List (Addr×Obj)}{σ:St}{H:Hp}{s:Shared}{E:Value→Shared→Prop}
theorem Inv.wish (I:Inv X pins σ H s) (E:Value→Shared→Prop):Inv (X.wish E) pins σ H s:=⟨I.ok.wish E,I.os,I.bare,I.base,I.loc,I.cell,I.free,I.freeC,I.pin,I.hok,I.len,I.hq⟩
theorem Inv.unwish (I:Inv (X.wish E) pins σ H s):Inv X pins σ H s:=⟨I.ok.unwish,I.os,I.bare,I.base,I.loc,I.cell,I.free,I.freeC,I.pin,I.hok,I.len,I.hq⟩
theorem SP.unwish {D:Ends}{f:Flow}{s':Shared} (h:SP (X.wish E) pins D f s'):SP X pins D f s':=by
 cases f with
 | next=>obtain ⟨σ',H',I,q⟩:=h;exact ⟨σ',H',I.unwish,q⟩
 | brk=>obtain ⟨σ',H',I,q⟩:=h;exact ⟨σ',H',I.unwish,q⟩
 | cont=>obtain ⟨σ',H',I,q⟩:=h;exact ⟨σ',H',I.unwish,q⟩
 | ret u=>obtain ⟨v,σ',H',I,r,q⟩:=h;exact ⟨v,σ',H',I.unwish,r,q⟩
theorem PSs.nox {st:List Stmt}{t:TS} (h:PSs X.nox st t):PSs X st t:=fun pins s σ H D I hw=>
 wpAny_mono (h pins s σ H D (I.wish _) hw) (fun _ _ q=>q.unwish) fun _ _ z=>False.elim z
end
section
variable {X:Cx}{st:Stmt}{rest:List Stmt}{t u:TS}{e:Expr}{te:TE}{pos:Pos}
def tNext:TS:=fun D σ H=>D.nx σ H
def tSeq (t u:TS):TS:=fun D σ H=>t { D with nx:=u D } σ H
theorem pss_nil:PSs X [] tNext:=fun _ _ σ H _ I h=>wpAny_execs_nil ⟨σ,H,I,h⟩
theorem pss_cons (h1:PS X st t) (h2:PSs X rest u):PSs X (st::rest) (tSeq t u):=by
 intro pins s σ H D I h
 refine wpAny_execs_cons (thn (h1 pins s σ H { D with nx:=u D } I h) fun f s1 q=>?_)
 cases f with
 | next=>
  obtain ⟨σ',H',I',q⟩:=q
  exact h2 pins s1 σ' H' D I' q
 | ret v=>exact q
 | brk=>exact q
 | cont=>exact q
theorem pss_one (h1:PS X st t):PSs X [st] t:=by
 intro pins s σ H D I h
 refine wpAny_execs_cons (thn (h1 pins s σ H D I h) fun f s1 q=>?_)
 cases f with
 | next=>exact wpAny_execs_nil q
 | ret v=>exact q
 | brk=>exact q
 | cont=>exact q
theorem Inv.quiet {pins:List (Addr×Obj)}{σ:St}{H:Hp}{s:Shared} (I:Inv X pins σ H s):interactive X.env=false:=by simp [interactive,I.ok.kind]
def tDrop (te:TE):TS:=fun D σ H=>te σ H fun _ H1=>D.nx σ H1
theorem ps_expr (he:PE X e te) (hs:swapsWith e none pos.line X.env=pure false:=by rfl):PS X (.Expr e pos) (tDrop te):=by
 intro pins s σ H D I h
 exact wpAny_Expr_any (thn (he pins s σ H _ I h) fun v s1 ⟨x,H1,I1,r1,q1⟩=>⟨σ,H1,I1,q1⟩) I.quiet hs
def tRet (te:TE):TS:=fun D σ H=>te σ H D.rt
theorem ps_ret (he:PE X e te):PS X (.Return (some e) pos) (tRet te):=by
 intro pins s σ H D I h
 exact wpAny_Return_some (thn (he pins s σ H _ I h) fun v s1 ⟨x,H1,I1,r1,q1⟩=>⟨x,σ,H1,I1,r1,q1⟩)
def tIfS (c:TT) (t u:TS):TS:=fun D σ H=>c σ H fun b H1=>if b=true then t D σ H1 else u D σ H1
theorem ps_if {c:Expr}{a b:List Stmt}{tc:TT} (hc:PT X c tc) (ha:PSs X a t) (hb:PSs X b u):PS X (.If c a b pos) (tIfS tc t u):=by
 intro pins s σ H D I h
 refine wpAny_If (thn (hc pins s σ H _ I h) fun d s1 ⟨H1,I1,q1⟩=>?_)
 cases d with
 | true=>exact ha pins s1 σ H1 D I1 q1
 | false=>exact hb pins s1 σ H1 D I1 q1
def tNever:TS:=fun _ _ _=>False
theorem ps_never:PS X st tNever:=fun _ _ _ _ _ _ h=>h.elim
end
abbrev TG:=V→St→Hp→(St→Hp→Prop)→Prop
abbrev TGs:=List V→St→Hp→(St→Hp→Prop)→Prop
def PG (X:Cx) (target:Expr) (t:TG):Prop:=
 ∀ (pins:List (Addr×Obj)) (s:Shared) (σ:St) (H:Hp) (v:V) (u:Value) (Q:St→Hp→Prop),Inv X pins σ H s→RelV v u→t v σ H Q →
  wpAny (model X.prog X.w) X.A (assign target X.env u) (fun _ s'=>∃ σ' H',Inv X pins σ' H' s'∧Q σ' H') X.xe s
def PGs (X:Cx) (ts:List Expr) (t:TGs):Prop:=
 ∀ (pins:List (Addr×Obj)) (s:Shared) (σ:St) (H:Hp) (vs:List V) (us:List Value) (Q:St→Hp→Prop),Inv X pins σ H s→Vals vs us→t vs σ H Q →
  wpAny (model X.prog X.w) X.A (assignInOrder ((assignEach ts X.env).map (·.2)) us) (fun _ s'=>∃ σ' H',Inv X pins σ' H' s'∧Q σ' H') X.xe s
section
variable {X:Cx}{pos:Pos}
def gName (i:Nat):TG:=fun v σ H Q=>Q (σ.set i (some v)) H
theorem pg_name {i:Nat}{x:Str} (hN:X.N.Nodup) (hi:X.N[i]? = some x) (hx:Loc X.env.scope x) (hf:X.fn x=true∨X.env.scope.names.lookup x=some .local:=by first | exact .inl rfl | exact .inr rfl | assumption):PG X (.Name x pos) (gName i):=by
 intro pins s σ H v u Q I r h
 exact wpAny_assign_Name (store_ok I hN hi hx r (fun s' I'=>⟨_,H,I',h⟩) hf)
def gNil:TGs:=fun vs σ H Q=>vs=[]∧Q σ H
def gCons (t:TG) (u:TGs):TGs:=fun vs σ H Q=>∃ v r,vs=v::r∧t v σ H fun σ' H'=>u r σ' H' Q
theorem pgs_nil:PGs X [] gNil:=by
 intro pins s σ H vs us Q I r h
 obtain ⟨e,h⟩:=h
 subst e
 cases r
 exact assignInOrder_nil ⟨σ,H,I,h⟩
theorem pgs_cons {e:Expr}{es:List Expr}{t:TG}{u:TGs} (h1:PG X e t) (h2:PGs X es u)
  (hs:(assignEach (e::es) X.env).map (·.2)=assign e X.env::(assignEach es X.env).map (·.2):=by rfl):PGs X (e::es) (gCons t u):=by
 intro pins s σ H vs us Q I r h
 obtain ⟨v,vr,e1,h⟩:=h
 subst e1
 cases r with
 | cons r rr=>
  rw [hs]
  refine assignInOrder_cons (thn (h1 pins s σ H _ _ _ I r h) fun _ s1 ⟨σ1,H1,I1,q1⟩=>?_)
  exact h2 pins s1 σ1 H1 _ _ Q I1 rr q1
def gTup (K:PySem.W.Frag) (n:Nat) (t:TGs):TG:=fun v σ H Q=>∃ a xs,v=.ref a∧SqT K H a xs∧xs.length=n∧t xs σ H Q
theorem pg_tup {es:List Expr}{k:Nat}{t:TGs}{n:Nat} (hc:X.calm=true) (h:PGs X es t)
  (hn:(assignEach es X.env).length=n:=by rfl) (hst:(assignEach es X.env).findIdx? (·.1)=none:=by rfl):PG X (.Tuple es k pos) (gTup X.K n t):=by
 intro pins s σ H v u Q I r hw
 obtain ⟨a,xs,e1,hq,hl,hw⟩:=hw
 subst e1
 cases r
 obtain ⟨its,rv,ht,hz⟩:=I.tuple hq
 refine assign_Tuple_tuple (I.ok.hd hc) ht (by simp [hn,← hl,rv.length]) hst fun h' hx=>?_
 have I1:Inv X pins σ H { s with heap:=h' }:=I.kept (t':=s.toks) fun b o e=>hx b o (Nat.ne_of_lt (Heap.lt_size e)) e
 exact h pins _ σ H xs _ Q I1 (by simpa using rv) hw
def tAsg (te:TE) (g:TG):TS:=fun D σ H=>te σ H fun x H1=>g x σ H1 D.nx
theorem ps_set {i:Nat}{x:Str}{e:Expr}{te:TE}{pos':Pos} (hN:X.N.Nodup) (hi:X.N[i]? = some x) (hx:Loc X.env.scope x) (he:PE X e te) (hs:swapsWith e (some (.Name x pos')) pos.line X.env=pure false:=by rfl) (hf:X.fn x=true∨X.env.scope.names.lookup x=some .local:=by first | exact .inl rfl | exact .inr rfl | assumption) :
  PS X (.Assign [.Name x pos'] e pos) (tAsg te (gName i)):=by
 intro pins s σ H D I h
 refine wpAny_Assign_Name (thn (he pins s σ H _ I h) fun v s1 ⟨y,H1,I1,r1,q1⟩=>?_) hs
 exact store_ok I1 hN hi hx r1 (fun s2 I2=>⟨_,H1,I2,q1⟩) hf
end
structure It where
 go:Nat→Hp→Prop
 yld:Nat→Hp→V→Hp→Prop
 stop:Nat→Hp→Prop
 rg:Bool
def FpOk (X:Cx) (pins:List (Addr×Obj)) (H:Hp) (b:Addr):Prop:=
 H b=none∧b≠X.env.locals∧b∉X.fs∧(b∈X.ex∨X.s₀.heap.objs.size≤b)∧(∀ x c,X.env.cells.lookup x=some c→c≠b)∧∀ p∈X.pn++pins,p.1≠b
theorem Inv.fpOk {X:Cx}{pins:List (Addr×Obj)}{σ:St}{H H':Hp}{s:Shared}{b:Addr} (I:Inv X pins σ H s) (hb:s.heap.objs.size≤b) (hn:H' b=none):FpOk X pins H' b:=by
 refine ⟨hn,Nat.ne_of_gt (Nat.lt_of_lt_of_le I.lt hb),I.nofs hb,.inr (Nat.le_trans I.sz hb),fun x c e z=>?_,fun p hp z=>?_⟩
 ·obtain ⟨v,q⟩:=I.cell x c e
  exact absurd (Nat.lt_of_lt_of_le q.lt (by rw [z];exact hb)) (Nat.lt_irrefl _)
 ·exact absurd (Nat.lt_of_lt_of_le (Heap.lt_size (I.pin p hp).1) (by rw [z];exact hb)) (Nat.lt_irrefl _)
structure Turn (P:Program) (w:World) (K:PySem.W.Frag) (tg:Expr) (J:It) (fp:List Addr) (it:Addr) (tn:Nat→Heap→Prop):Prop where
 mem:it∈fp
 obj:∀ i h,tn i h→∀ b∈fp,∃ o,h.get? b=some o∧∀ v,o.data≠.cell v
 keep:∀ i h h',tn i h→(∀ b∈fp,∀ o,h.get? b=some o→h'.get? b=some o)→tn i h'
 item:∀ (X:Cx),X.prog=P→X.w=w→X.K=K→(X.calm=true∨J.rg=true)→∀ (i:Nat) (pins:List (Addr×Obj)) (s:Shared) (σ:St) (H:Hp) (E:Value→Shared→Prop),Inv X pins σ H s→(∀ b∈fp,FpOk X pins H b)→tn i s.heap→J.go i H →
  wpAny (model P w) X.A (pyNext (.ref it)) (fun r s1=>∃ u,r=some u ∧
   wpAny (model P w) X.A (letOwnedTupleGo tg (.ref it) u) (fun _ s2=>∃ x H',Inv X pins σ H' s2∧RelV x u∧J.yld i H x H'∧tn (i + 1) s2.heap∧∀ b∈fp,H' b=none) E s1) E s
 done:∀ (X:Cx),X.prog=P→X.w=w→X.K=K→(X.calm=true∨J.rg=true)→∀ (i:Nat) (pins:List (Addr×Obj)) (s:Shared) (σ:St) (H:Hp) (E:Value→Shared→Prop),Inv X pins σ H s→(∀ b∈fp,FpOk X pins H b)→tn i s.heap→J.stop i H →
  wpAny (model P w) X.A (pyNext (.ref it)) (fun r s1=>r=none∧Inv X pins σ H s1) E s
 self:∀ (A:Around) (i:Nat) (s:Shared) (Q:Value→Shared→Prop) (E:Value→Shared→Prop),tn i s.heap→Q (.ref it) s→wpAny (model P w) A (pyIter (.ref it)) Q E s
abbrev TI:=St→Hp→(It→Hp→Prop)→Prop
def PIE (X:Cx) (pins:List (Addr×Obj)) (σ:St) (tg:Expr) (R:It→Hp→Prop) (itv:Value) (s2:Shared):Prop:=
 ∃ (it:Addr) (fp:List Addr) (tn:Nat→Heap→Prop) (J:It) (H':Hp),itv=.ref it∧Inv X pins σ H' s2∧Turn X.prog X.w X.K tg J fp it tn∧tn 0 s2.heap∧(∀ b∈fp,FpOk X pins H' b)∧R J H'
def PI (X:Cx) (tg iter:Expr) (wi:TI):Prop:=
 ∀ (pins:List (Addr×Obj)) (s:Shared) (σ:St) (H:Hp) (R:It→Hp→Prop),Inv X pins σ H s→wi σ H R →
  wpAny (model X.prog X.w) X.A (eval iter X.env) (fun v s1=>wpAny (model X.prog X.w) X.A (pyIter v) (PIE X pins σ tg R) X.xe s1) X.xe s
theorem go_of {M:Model}{A:Around}{E:Value→Shared→Prop}{s:Shared}{tg:Expr}{it:Addr}{u:Value}{o:Obj}{n:String}{vs:Array Value}{Q:Unit→Shared→Prop} (ho:s.heap.get? it=some o) (hc:o.cls=.type n) (hd:o.data=.fields vs)
    (hn:["enumerate","zip","dict_itemiterator","dict_reverseitemiterator","odict_iterator","itertools.zip_longest","itertools.pairwise"].contains n=false) (hQ:Q () s):wpAny M A (letOwnedTupleGo tg (.ref it) u) Q E s:=by
  unfold letOwnedTupleGo
  cases tg <;> first
    | exact wpAny_pure hQ
    | (cases u <;> first
        | exact wpAny_pure hQ
        | (refine wpAny_bind (wpAny_load ho ?_)
           rw [hc,hd]
           show wpAny M A (if (["enumerate","zip","dict_itemiterator","dict_reverseitemiterator","odict_iterator","itertools.zip_longest","itertools.pairwise"].contains n&&vs[0]? == some (rawInt _))=true then _ else _) Q E s
           rw [if_neg (by intro h;rw [hn,Bool.false_and] at h;cases h)]
           exact wpAny_pure hQ))
def Itl (K:PySem.W.Frag) (a:Addr):It:=
 ⟨fun i H=>∃ xs x,SqL K H a xs∧xs[i]? = some x,fun i H x H'=>H'=H∧∀ xs,SqL K H a xs→xs[i]? = some x,fun i H=>∃ xs,SqL K H a xs∧xs.length≤i,false⟩
def Itt (K:PySem.W.Frag) (a:Addr):It:=
 ⟨fun i H=>∃ xs x,SqT K H a xs∧xs[i]? = some x,fun i H x H'=>H'=H∧∀ xs,SqT K H a xs→xs[i]? = some x,fun i H=>∃ xs,SqT K H a xs∧xs.length≤i,false⟩
def Itr (lo:Int) (n:Nat):It:=⟨fun i _=>i < n,fun i H x H'=>H'=H∧x=.int (lo + i),fun i _=>n≤i,true⟩
theorem turn_list {P:Program}{w:World}{K:PySem.W.Frag}{tg:Expr} (a it:Addr):Turn P w K tg (Itl K a) [it] it (fun i h=>h.IsListIter it a i) where
 mem:=by simp
 obj:=fun i h st b hb=>by
  have e:b=it:=by simpa using hb
  subst e
  obtain ⟨o,e,c,d⟩:=st
  exact ⟨o,e,fun v z=>by rw [d] at z;cases z⟩
 keep:=fun i h h' st k=>st.at fun o e=>k it (by simp) o e
 item:=by
  intro X hP hw hK hc i pins s σ H E I hf st hg
  subst hP hw hK
  obtain ⟨xs,x,hq,hx⟩:=hg
  obtain ⟨its,rv,p,hz⟩:=I.list hq
  obtain ⟨u,hu,ru⟩:=rv.get hx
  obtain ⟨f0,f1,f2,f3,f4,f5⟩:=hf it (by simp)
  refine wpAny_pyNext_list_item st p.isList (x:=u) (by simpa using hu) fun h' st' sb=>?_
  have I1:Inv X pins σ H { s with heap:=h' }:=I.turned (t':=s.toks) (fun b o hb e=>(sb.2 b hb).trans e) f0 f1 f3 f4 f5
  obtain ⟨o,e,c,d⟩:=id st'
  exact ⟨u,rfl,go_of (s:={ s with heap:=h' }) e c d (by decide) ⟨x,H,I1,ru,⟨rfl,fun ys hy=>by rw [I.list_inj hy hq];exact hx⟩,st',fun b hb=>(hf b hb).1⟩⟩
 done:=by
  intro X hP hw hK hc i pins s σ H E I hf st hg
  subst hP hw hK
  obtain ⟨xs,hq,hx⟩:=hg
  obtain ⟨its,rv,p,hz⟩:=I.list hq
  obtain ⟨f0,f1,f2,f3,f4,f5⟩:=hf it (by simp)
  have hl:=rv.length
  exact wpAny_pyNext_list_end (I.ok.hd (hc.resolve_right fun z=>Bool.false_ne_true z)) st p.isList (by simp;omega) fun h' eb=>⟨rfl,I.turned (t':=s.toks) (fun b o hb e=>eb b o hb e) f0 f1 f3 f4 f5⟩
 self:=fun _ _ _ _ _ st h=>wpAny_pyIter_listiter st h
theorem turn_tuple {P:Program}{w:World}{K:PySem.W.Frag}{tg:Expr} (a it:Addr):Turn P w K tg (Itt K a) [it] it (fun i h=>h.IsTupleIter it a i) where
 mem:=by simp
 obj:=fun i h st b hb=>by
  have e:b=it:=by simpa using hb
  subst e
  obtain ⟨o,e,c,d⟩:=st
  exact ⟨o,e,fun v z=>by rw [d] at z;cases z⟩
 keep:=fun i h h' st k=>st.at fun o e=>k it (by simp) o e
 item:=by
  intro X hP hw hK hc i pins s σ H E I hf st hg
  subst hP hw hK
  obtain ⟨xs,x,hq,hx⟩:=hg
  obtain ⟨its,rv,p,hz⟩:=I.tuple hq
  obtain ⟨u,hu,ru⟩:=rv.get hx
  obtain ⟨f0,f1,f2,f3,f4,f5⟩:=hf it (by simp)
  refine wpAny_pyNext_tuple_item st (show s.heap.IsTuple a its.toArray from p) (x:=u) (by simpa using hu) fun h' st' sb=>?_
  have I1:Inv X pins σ H { s with heap:=h' }:=I.turned (t':=s.toks) (fun b o hb e=>(sb.2 b hb).trans e) f0 f1 f3 f4 f5
  obtain ⟨o,e,c,d⟩:=id st'
  exact ⟨u,rfl,go_of (s:={ s with heap:=h' }) e c d (by decide) ⟨x,H,I1,ru,⟨rfl,fun ys hy=>by rw [I.tuple_inj hy hq];exact hx⟩,st',fun b hb=>(hf b hb).1⟩⟩
 done:=by
  intro X hP hw hK hc i pins s σ H E I hf st hg
  subst hP hw hK
  obtain ⟨xs,hq,hx⟩:=hg
  obtain ⟨its,rv,p,hz⟩:=I.tuple hq
  obtain ⟨f0,f1,f2,f3,f4,f5⟩:=hf it (by simp)
  have hl:=rv.length
  exact wpAny_pyNext_tuple_end (I.ok.hd (hc.resolve_right fun z=>Bool.false_ne_true z)) st (show s.heap.IsTuple a its.toArray from p) (by simp;omega) fun h' eb=>⟨rfl,I.turned (t':=s.toks) (fun b o hb e=>eb b o hb e) f0 f1 f3 f4 f5⟩
 self:=fun _ _ _ _ _ st h=>wpAny_pyIter_tupleiter st h
theorem turn_range {P:Program}{w:World}{K:PySem.W.Frag}{tg:Expr} (it:Addr) (lo:Int) (n:Nat):Turn P w K tg (Itr lo n) [it] it (fun i h=>IsRangeIter h it (lo + (i:Nat) * 1) ((n:Int) - (i:Nat)) 1) where
 mem:=by simp
 obj:=fun i h st b hb=>by
  have e:b=it:=by simpa using hb
  subst e
  exact ⟨_,st,fun v z=>by
   have z':Data.fields _=Data.cell v:=z
   cases z'⟩
 keep:=fun i h h' st k=>k it (by simp) _ st
 item:=by
  intro X hP hw hK hc i pins s σ H E I hf st hg
  subst hP hw hK
  obtain ⟨f0,f1,f2,f3,f4,f5⟩:=hf it (by simp)
  refine wpAny_pyNext_range_item st (by have:i < n:=hg;omega) fun h' st' sb=>?_
  have I1:Inv X pins σ H { s with heap:=h',toks:=s.toks + 1 }:=I.turned (fun b o hb e=>(sb.2 b hb).trans e) f0 f1 f3 f4 f5
  have e1:lo + ((i + 1:Nat):Int) * 1=lo + (i:Int) * 1 + 1:=by omega
  have e2:(n:Int) - ((i + 1:Nat):Int)=(n:Int) - (i:Int) - 1:=by omega
  refine ⟨_,rfl,go_of (s:={ s with heap:=h',toks:=s.toks + 1 }) (n:="range_iterator") st' rfl rfl (by decide) ⟨.int (lo + i),H,I1,⟨s.toks,?_⟩,⟨rfl,rfl⟩,by rw [e1,e2];exact st',fun b hb=>(hf b hb).1⟩⟩
  rw [Int.mul_one]
 done:=by
  intro X hP hw hK hc i pins s σ H E I hf st hg
  subst hP hw hK
  obtain ⟨f0,f1,f2,f3,f4,f5⟩:=hf it (by simp)
  rcases I.hq with h0 | ⟨a',ob,u,vs,h0,h1,h2,h3⟩
  ·exact wpAny_pyNext_range_end h0 st (by have:n≤i:=hg;omega) fun h' eb=>⟨rfl,I.turned (t':=s.toks) (fun b o hb e=>eb b o hb e) f0 f1 f3 f4 f5⟩
  ·exact range_endH h0 (I.hok a' _ h1).1 h2 h3 st (by have:n≤i:=hg;omega) fun h' eb=>⟨rfl,I.turned (t':=s.toks) (fun b o hb e=>eb b o hb e) f0 f1 f3 f4 f5⟩
 self:=fun _ _ _ _ _ st h=>wpAny_pyIter_rangeiter st h
section
variable {X:Cx}{tg:Expr}
theorem range_it {pins:List (Addr×Obj)}{σ:St}{H:Hp}{s:Shared}{R:It→Hp→Prop}{E:Value→Shared→Prop}{lo hi:Int}{t u v:Tok}{tk:Nat} (I:Inv X pins σ H s) (h1:-(2 ^ 62)≤lo) (h2:lo < 2 ^ 62) (h3:-(2 ^ 62)≤hi) (h4:hi < 2 ^ 62)
  (q:R (Itr lo (hi - lo).toNat) H):wpAny (model X.prog X.w) X.A (pyIter (.ref s.heap.objs.size)) (PIE X pins σ tg R) E { s with heap:=s.heap.push { cls:=.type "range",data:=.fields #[.int lo t,.int hi u,.int 1 v] },toks:=tk }:=by
 refine wpAny_pyIter_range (IsRange.new ..) (small_one h1 h2 h3 h4) ?_
 have I1:Inv X pins σ H { s with heap:=s.heap.push { cls:=.type "range",data:=.fields #[.int lo t,.int hi u,.int 1 v] },toks:=tk }:=I.kept fun b o e=>Heap.get?_push_of_some _ e
 refine ⟨(s.heap.push { cls:=.type "range",data:=.fields #[.int lo t,.int hi u,.int 1 v] }).objs.size,[(s.heap.push { cls:=.type "range",data:=.fields #[.int lo t,.int hi u,.int 1 v] }).objs.size],_,_,H,rfl,
  I1.kept (t':=tk) fun b o e=>Heap.get?_push_of_some _ e,turn_range _ lo (hi - lo).toNat,?_,fun b hb=>?_,q⟩
 ·have e1:lo + ((0:Nat):Int) * 1=lo:=by simp
  have e2:(((hi - lo).toNat:Nat):Int) - ((0:Nat):Int)=Builtin.Range.rangeSize lo hi 1:=by rw [rangeSize_one];split <;> omega
  show IsRangeIter _ _ (lo + ((0:Nat):Int) * 1) ((((hi - lo).toNat:Nat):Int) - ((0:Nat):Int)) 1
  rw [e1,e2]
  exact Heap.get?_push_size _ rfl
 ·have e:b=(s.heap.push { cls:=.type "range",data:=.fields #[.int lo t,.int hi u,.int 1 v] }).objs.size:=by simpa using hb
  subst e
  exact I1.fpOk (Nat.le_refl _) (I1.hok.fresh (Nat.le_refl _))
def iRng1 (ta:TA):TI:=fun σ H R=>ta σ H fun vs H1=>∃ j:Int,vs=[.int j]∧-(2 ^ 62)≤j∧j < 2 ^ 62∧R (Itr 0 j.toNat) H1
def iRng2 (ta:TA):TI:=fun σ H R=>ta σ H fun vs H1=>∃ i j:Int,vs=[.int i,.int j]∧(-(2 ^ 62)≤i∧i < 2 ^ 62∧-(2 ^ 62)≤j∧j < 2 ^ 62)∧R (Itr i (j - i).toNat) H1
theorem pi_range1 {a:Expr}{ta:TA}{p pos:Pos} (hg:Gl X "range") (hm:X.mg "range"=none) (ha:PA X [a] ta) (hs:starEach [a] X.env=[(false,eval a X.env)]:=by rfl):PI X tg (.Call (.Name "range" p) [a] [] pos) (iRng1 ta):=by
 intro pins s σ H R I h
 refine Call_ (ld_blt I hg hm boot_range (PyProof.Rows.callWith_type1 (thn (ha pos pins s σ H _ I h) fun us s1 ⟨vs,H1,I1,r1,q1⟩=>?_) hs rfl))
 obtain ⟨j,e,q1,q2,q⟩:=q1
 subst e
 cases r1 with
 | cons r rr=>
  cases rr
  obtain ⟨t,rfl⟩:=r
  exact call_range_1 (range_it I1 (by omega) (by omega) q1 q2 (by simpa using q))
theorem pi_range2 {a b:Expr}{ta:TA}{p pos:Pos} (hg:Gl X "range") (hm:X.mg "range"=none) (ha:PA X [a,b] ta) (hs:starEach [a,b] X.env=[(false,eval a X.env),(false,eval b X.env)]:=by rfl) (hs2:starEach [b] X.env=[(false,eval b X.env)]:=by rfl) :
  PI X tg (.Call (.Name "range" p) [a,b] [] pos) (iRng2 ta):=by
 intro pins s σ H R I h
 refine Call_ (ld_blt I hg hm boot_range (PyProof.Rows.callWith_type1 (thn (ha pos pins s σ H _ I h) fun us s1 ⟨vs,H1,I1,r1,q1⟩=>?_) (by rw [hs,hs2]) (by rw [hs2];rfl)))
 obtain ⟨i,j,e,⟨q1,q2,q3,q4⟩,q⟩:=q1
 subst e
 cases r1 with
 | cons r rr=>
  cases rr with
  | cons r' rr=>
   cases rr
   obtain ⟨t,rfl⟩:=r
   obtain ⟨t',rfl⟩:=r'
   exact call_range_2 (range_it I1 q1 q2 q3 q4 q)
def tFor (wi:TI) (g:TG) (tb:TS):TS:=fun D σ H=>wi σ H fun J H1=>∃ W:Nat→Nat→St→Hp→Prop,(∃ m,W 0 m σ H1)∧∀ i m σ H,W i m σ H →
 (J.stop i H∧D.nx σ H)∨(J.go i H∧∃ N:St→Hp→Prop,(∀ σ' H',N σ' H'→∃ m',m' < m∧W (i + 1) m' σ' H')∧∀ x H',J.yld i H x H'→g x σ H' fun σ2 H2=>tb { D with nx:=N,ct:=N,bk:=D.nx } σ2 H2)
def pinsAt (fp:List Addr) (h:Heap):List (Addr×Obj):=fp.filterMap fun b=>(h.get? b).map fun o=>(b,o)
theorem mem_pinsAt {fp:List Addr}{h:Heap}{b:Addr}{o:Obj} (hb:b∈fp) (e:h.get? b=some o):(b,o)∈pinsAt fp h:=List.mem_filterMap.mpr ⟨b,hb,by rw [e];rfl⟩
theorem of_pinsAt {fp:List Addr}{h:Heap}{p:Addr×Obj} (hp:p∈pinsAt fp h):p.1∈fp∧h.get? p.1=some p.2:=by
 obtain ⟨b,hb,e⟩:=List.mem_filterMap.mp hp
 cases q:h.get? b with
 | none=>rw [q] at e;cases e
 | some o=>
  rw [q] at e
  have e':(b,o)=p:=Option.some.inj e
  subst e'
  exact ⟨hb,q⟩
theorem Inv.pinned {pins:List (Addr×Obj)}{σ:St}{H:Hp}{s:Shared}{fp:List Addr} (I:Inv X pins σ H s) (hf:∀ b∈fp,FpOk X pins H b) (ho:∀ b∈fp,∃ o,s.heap.get? b=some o∧∀ v,o.data≠.cell v):Inv X (pins++pinsAt fp s.heap) σ H s:=
 I.pins_of fun p hp=>(List.mem_append.mp hp).elim (fun z=>I.pin p (List.mem_append_right _ z)) fun z=>by
  obtain ⟨hb,e⟩:=of_pinsAt z
  obtain ⟨f0,f1,f2,_⟩:=hf p.1 hb
  obtain ⟨o,e',d⟩:=ho p.1 hb
  rw [e] at e';cases e'
  exact ⟨e,f0,f1,f2,d⟩
theorem Inv.unpinned {pins pl:List (Addr×Obj)}{σ:St}{H:Hp}{s:Shared} (I:Inv X (pins++pl) σ H s):Inv X pins σ H s:=I.pins_of fun p hp=>I.pin p (List.mem_append_right _ (List.mem_append_left _ hp))
theorem ps_for {iter:Expr}{body:List Stmt}{wi:TI}{g:TG}{tb:TS}{pos:Pos} (hp:PassesOwn (model X.prog X.w) X.A X.env X.xe) (hc:X.calm=true) (hi:PI X tg iter wi) (hg:PG X tg g) (hb:PSs X body tb)
  (hs:∀ x,foldedSetIterable iter X.env x=pure x:=by intro _;rfl):PS X (.For tg iter body [] pos) (tFor wi g tb):=by
 intro pins s σ H D I h
 refine wpAny_For (thn (hi pins s σ H _ I h) fun v s1 h1=>thn h1 fun itv s2 h2=>?_) hs
 obtain ⟨it,fp,tn,J,H2,e,I2,T,st2,f2,W,⟨m0,w0⟩,turn⟩:=h2
 subst e
 have stat:∀ {H':Hp},(∀ b∈fp,H' b=none)→∀ b∈fp,FpOk X pins H' b:=fun hn b hb=>⟨hn b hb,(f2 b hb).2⟩
 refine codeAny_forLoop_any (fun n s'=>∃ i σ' H',Inv X pins σ' H' s'∧tn i s'.heap∧(∀ b∈fp,H' b=none)∧W i n σ' H') ?_ m0 ⟨0,σ,H2,I2,st2,fun b hb=>(f2 b hb).1,w0⟩
 rintro n s3 ⟨i,σ3,H3,I3,st3,fr3,w3⟩
 rcases turn i n σ3 H3 w3 with ⟨stop,qn⟩ | ⟨go,N,hN,step⟩
 ·refine wpAny_passesOwn hp (thn (T.done X rfl rfl rfl (.inl hc) i pins s3 σ3 H3 X.xe I3 (stat fr3) st3 stop) fun r s4 ⟨hr,I4⟩=>?_)
  subst hr
  exact wpAny_execs_nil ⟨σ3,H3,I4,qn⟩
 ·refine wpAny_passesOwn hp (thn (T.item X rfl rfl rfl (.inl hc) i pins s3 σ3 H3 X.xe I3 (stat fr3) st3 go) fun r s4 ⟨u,hr,h4⟩=>?_)
  subst hr
  refine wpAny_passesOwn hp (thn h4 fun _ s5 ⟨x,H5,I5,r5,y5,st5,fr5⟩=>?_)
  have I5':=I5.pinned (stat fr5) (T.obj _ _ st5)
  refine wpAny_passesOwn hp (thn (hg _ s5 σ3 H5 x u _ I5' r5 (step x H5 y5)) fun _ s6 ⟨σ6,H6,I6,q6⟩=>?_)
  refine wpAny_passesOwn hp (thn (hb _ s6 σ6 H6 _ I6 q6) fun f s7 q7=>?_)
  have again:∀ {σ7:St}{H7:Hp},Inv X (pins++pinsAt fp s5.heap) σ7 H7 s7→N σ7 H7→∃ m,m < n∧∃ i σ' H',Inv X pins σ' H' s7∧tn i s7.heap∧(∀ b∈fp,H' b=none)∧W i m σ' H':=fun {σ7 H7} I7 n7=>by
   obtain ⟨m',hm,w7⟩:=hN σ7 H7 n7
   refine ⟨m',hm,i + 1,σ7,H7,I7.unpinned,T.keep _ _ _ st5 fun b hb o e=>(I7.pin (b,o) (List.mem_append_right _ (List.mem_append_right _ (mem_pinsAt hb e)))).1,fun b hb=>?_,w7⟩
   obtain ⟨o,e,d⟩:=T.obj _ _ st5 b hb
   exact (I7.pin (b,o) (List.mem_append_right _ (List.mem_append_right _ (mem_pinsAt hb e)))).2.1
  cases f with
  | next=>obtain ⟨σ7,H7,I7,n7⟩:=q7;exact again I7 n7
  | cont=>obtain ⟨σ7,H7,I7,n7⟩:=q7;exact again I7 n7
  | brk=>obtain ⟨σ7,H7,I7,q7⟩:=q7;exact ⟨σ7,H7,I7.unpinned,q7⟩
  | ret v=>obtain ⟨x7,σ7,H7,I7,r7,q7⟩:=q7;exact ⟨x7,σ7,H7,I7.unpinned,r7,q7⟩
end
abbrev R2:=V→V→Hp→VK→Prop
def OpR (X:Cx) (f:Value→Value→Sem Value) (r:R2):Prop:=
 ∀ (pins:List (Addr×Obj)) (s:Shared) (σ:St) (H:Hp) (x y:V) (v u:Value) (Q:VK),Inv X pins σ H s→RelV x v→RelV y u→r x y H Q →
  wpAny (model X.prog X.w) X.A (f v u) (EP X pins σ Q) X.xe s
def UnR (X:Cx) (f:Value→Sem Value) (r:V→Hp→VK→Prop):Prop:=
 ∀ (pins:List (Addr×Obj)) (s:Shared) (σ:St) (H:Hp) (x:V) (v:Value) (Q:VK),Inv X pins σ H s→RelV x v→r x H Q →
  wpAny (model X.prog X.w) X.A (f v) (EP X pins σ Q) X.xe s
def CallR (X:Cx) (f:Value) (r:List V→Hp→VK→Prop):Prop:=
 ∀ (pins:List (Addr×Obj)) (s:Shared) (σ:St) (H:Hp) (xs:List V) (us:List Value) (Q:VK),Inv X pins σ H s→Vals xs us→r xs H Q →
  wpAny (model X.prog X.w) X.A (call f us) (EP X pins σ Q) X.xe s
def tOp (r:R2) (ta tb:TE):TE:=fun σ H Q=>ta σ H fun x H1=>tb σ H1 fun y H2=>r x y H2 Q
def tUn (r:V→Hp→VK→Prop) (ta:TE):TE:=fun σ H Q=>ta σ H fun x H1=>r x H1 Q
def rI (C:Int→Int→Prop) (g:Int→Int→V):R2:=fun x y H Q=>∃ i j,x=.int i∧y=.int j∧C i j∧Q (g i j) H
def rI0 (g:Int→Int→V):R2:=fun x y H Q=>∃ i j,x=.int i∧y=.int j∧Q (g i j) H
def rU (g:Int→V):V→Hp→VK→Prop:=fun x H Q=>∃ i,x=.int i∧Q (g i) H
section
variable {X:Cx}{a b c:Expr}{ta tb tc:TE}{pos:Pos}
theorem binT (ha:PE X a ta) (hb:PE X b tb) {pins:List (Addr×Obj)}{s:Shared}{σ:St}{H:Hp}{R:V→V→Hp→Prop} (I:Inv X pins σ H s)
  (h:ta σ H fun x H1=>tb σ H1 fun y H2=>R x y H2) {Q:Value→Shared→Prop}{f:Value→Value→Sem Value}
  (hf:∀ v u s2 x y H2,Inv X pins σ H2 s2→RelV x v→RelV y u→R x y H2→wpAny (model X.prog X.w) X.A (f v u) Q X.xe s2) :
  wpAny (model X.prog X.w) X.A (eval a X.env) (fun v s₁=>wpAny (model X.prog X.w) X.A (eval b X.env) (fun u s₂=>wpAny (model X.prog X.w) X.A (f v u) Q X.xe s₂) X.xe s₁) X.xe s:=by
 refine thn (ha pins s σ H _ I h) fun v s1 ⟨x,H1,I1,r1,q1⟩=>?_
 refine thn (hb pins s1 σ H1 _ I1 q1) fun u s2 ⟨y,H2,I2,r2,q2⟩=>?_
 exact hf v u s2 x y H2 I2 r1 r2 q2
theorem pe_op {op:Operator}{r:R2} (ho:OpR X (binaryOp op) r) (ha:PE X a ta) (hb:PE X b tb):PE X (.BinOp a op b pos) (tOp r ta tb):=by
 intro pins s σ H Q I h
 exact wpAny_BinOp (binT ha hb I h fun v u s2 x y H2 I2 rx ry q=>ho pins s2 σ H2 x y v u Q I2 rx ry q)
theorem pe_un {op:UnaryOp}{r:V→Hp→VK→Prop} (ho:UnR X (unaryOp op) r) (ha:PE X a ta):PE X (.UnaryOp op a pos) (tUn r ta):=by
 intro pins s σ H Q I h
 exact UnaryOp_ (thn (ha pins s σ H _ I h) fun v s1 ⟨x,H1,I1,r1,q1⟩=>ho pins s1 σ H1 x v Q I1 r1 q1)
theorem opI {f:Value→Value→Sem Value}{C:Int→Int→Prop}{g:Int→Int→Int}
  (rule:∀ (i j:Int) (t u:Tok) (s:Shared) (Q:Value→Shared→Prop) (E:Value→Shared→Prop),C i j→Q (.int (g i j) s.toks) { s with toks:=s.toks + 1 }→wpAny (model X.prog X.w) X.A (f (.int i t) (.int j u)) Q E s) :
  OpR X f (rI C fun i j=>.int (g i j)):=by
 intro pins s σ H x y v u Q I rx ry h
 obtain ⟨i,j,rfl,rfl,hc,q⟩:=h
 obtain ⟨t,rfl⟩:=rx
 obtain ⟨t',rfl⟩:=ry
 exact rule i j t t' s _ _ hc ⟨.int (g i j),H,I.tok _,⟨_,rfl⟩,q⟩
theorem opI0 {f:Value→Value→Sem Value}{g:Int→Int→Int}
  (rule:∀ (i j:Int) (t u:Tok) (s:Shared) (Q:Value→Shared→Prop) (E:Value→Shared→Prop),Q (.int (g i j) s.toks) { s with toks:=s.toks + 1 }→wpAny (model X.prog X.w) X.A (f (.int i t) (.int j u)) Q E s) :
  OpR X f (rI0 fun i j=>.int (g i j)):=by
 intro pins s σ H x y v u Q I rx ry h
 obtain ⟨i,j,rfl,rfl,q⟩:=h
 obtain ⟨t,rfl⟩:=rx
 obtain ⟨t',rfl⟩:=ry
 exact rule i j t t' s _ _ ⟨.int (g i j),H,I.tok _,⟨_,rfl⟩,q⟩
theorem opB0 {f:Value→Value→Sem Value}{g:Int→Int→Bool}
  (rule:∀ (i j:Int) (t u:Tok) (s:Shared) (Q:Value→Shared→Prop) (E:Value→Shared→Prop),Q (.bool (g i j)) s→wpAny (model X.prog X.w) X.A (f (.int i t) (.int j u)) Q E s) :
  OpR X f (rI0 fun i j=>.bl (g i j)):=by
 intro pins s σ H x y v u Q I rx ry h
 obtain ⟨i,j,rfl,rfl,q⟩:=h
 obtain ⟨t,rfl⟩:=rx
 obtain ⟨t',rfl⟩:=ry
 exact rule i j t t' s _ _ ⟨.bl (g i j),H,I,rfl,q⟩
def CMul (i j:Int):Prop:=(-(2 ^ 64) < i∧i < 2 ^ 64)∨(-(2 ^ 64) < j∧j < 2 ^ 64)
theorem CMul.ok {i j:Int} (h:CMul i j):IntMulOk i j:=by
 rcases h with ⟨h1,h2⟩ | ⟨h1,h2⟩
 ·exact .of_left (intBits_le_64 h1 h2)
 ·exact .of_right (intBits_le_64 h1 h2)
theorem op_add:OpR X (binaryOp .Add) (rI0 fun i j=>.int (i + j)):=opI0 fun _ _ _ _ _ _ _ q=>add_int q
theorem op_sub:OpR X (binaryOp .Sub) (rI0 fun i j=>.int (i - j)):=opI0 fun _ _ _ _ _ _ _ q=>sub_int q
theorem op_mul:OpR X (binaryOp .Mult) (rI CMul fun i j=>.int (i * j)):=opI fun _ _ _ _ _ _ _ hc q=>mul_int q hc.ok
theorem op_mod:OpR X (binaryOp .Mod) (rI (fun _ j=>0 < j) fun i j=>.int (i % j)):=opI fun i j _ _ _ _ _ hc q=>by
 have h1:(0:Int) < j:=hc
 exact mod_int' (by omega) (by rw [Int.fmod_eq_emod_of_nonneg i (by omega)];exact q)
theorem unI {f:Value→Sem Value}{g:Int→Int}
  (rule:∀ (i:Int) (t:Tok) (s:Shared) (Q:Value→Shared→Prop) (E:Value→Shared→Prop),Q (.int (g i) s.toks) { s with toks:=s.toks + 1 }→wpAny (model X.prog X.w) X.A (f (.int i t)) Q E s) :
  UnR X f (rU fun i=>.int (g i)):=by
 intro pins s σ H x v Q I rx h
 obtain ⟨i,rfl,q⟩:=h
 obtain ⟨t,rfl⟩:=rx
 exact rule i t s _ _ ⟨.int (g i),H,I.tok _,⟨_,rfl⟩,q⟩
theorem un_neg:UnR X (unaryOp .USub) (rU fun i=>.int (-i)):=unI fun _ _ _ _ _ q=>neg_int q
end
def scal:V→V→Bool
 | .non,.non=>true | .non,.int _=>true | .int _,.non=>true | .non,.bl _=>true | .bl _,.non=>true | .non,.str _=>true | .str _,.non=>true
 | .int _,.int _=>true | .bl _,.bl _=>true | .str _,.str _=>true | .byt _,.byt _=>true
 | .int _,.str _=>true | .str _,.int _=>true | .bl _,.str _=>true | .str _,.bl _=>true
 | _,_=>false
def rEq:R2:=fun x y H Q=>scal x y=true∧Q (.bl (decide (x=y))) H
def rNe:R2:=fun x y H Q=>scal x y=true∧Q (.bl (!decide (x=y))) H
theorem dec_int {i j:Int}:decide (V.int i=V.int j)=(i == j):=by
 rw [Bool.eq_iff_iff]
 simp
theorem dec_bl {i j:Bool}:decide (V.bl i=V.bl j)=(i == j):=by
 rw [Bool.eq_iff_iff]
 simp
theorem dec_str {i j:Str}:decide (V.str i=V.str j)=(i == j):=by
 rw [Bool.eq_iff_iff]
 simp
theorem dec_byt {i j:Array UInt8}:decide (V.byt i=V.byt j)=(i.toList == j.toList):=by
 rw [Bool.eq_iff_iff]
 cases i
 cases j
 simp
section
variable {X:Cx}{a b c:Expr}{ta tb tc:TE}{pos:Pos}
theorem fin_bl {pins:List (Addr×Obj)}{σ:St}{H:Hp}{s:Shared}{Q:VK}{k k':Bool} (I:Inv X pins σ H s) (q:Q (.bl k) H) (e:k=k'):EP X pins σ Q (.bool k') s:=by
 subst e
 exact ⟨.bl k,H,I,rfl,q⟩
theorem op_eq:OpR X (compareOp .Eq) rEq:=by
 intro pins s σ H x y v u Q I rx ry h
 obtain ⟨hs,q⟩:=h
 cases x with
 | non=>
  cases rx
  cases y with
  | non=>cases ry;exact PySem.EqNone.eq_none_none (fin_bl I q (by simp))
  | bl j=>cases ry;exact PySem.EqNone.eq_none_bool (fin_bl I q (by simp))
  | int j=>obtain ⟨t',rfl⟩:=ry;exact PySem.EqNone.eq_none_int (fin_bl I q (by simp))
  | str j=>obtain ⟨t',rfl⟩:=ry;exact PySem.EqNone.eq_none_str (fin_bl I q (by simp))
  | _=>exact absurd (show false=true from hs) Bool.false_ne_true
 | bl i=>
  cases rx
  cases y with
  | non=>cases ry;exact PySem.EqNone.eq_bool_none (fin_bl I q (by simp))
  | bl j=>cases ry;exact eq_bool (fin_bl I q dec_bl)
  | str j=>obtain ⟨t',rfl⟩:=ry;exact PySem.EqMixed.eq_bool_str (fin_bl I q (by simp))
  | _=>exact absurd (show false=true from hs) Bool.false_ne_true
 | int i=>
  obtain ⟨t,rfl⟩:=rx
  cases y with
  | non=>cases ry;exact PySem.EqNone.eq_int_none (fin_bl I q (by simp))
  | int j=>obtain ⟨t',rfl⟩:=ry;exact eq_int (fin_bl I q dec_int)
  | str j=>obtain ⟨t',rfl⟩:=ry;exact PySem.EqMixed.eq_int_str (fin_bl I q (by simp))
  | _=>exact absurd (show false=true from hs) Bool.false_ne_true
 | str i=>
  obtain ⟨t,rfl⟩:=rx
  cases y with
  | non=>cases ry;exact PySem.EqNone.eq_str_none (fin_bl I q (by simp))
  | bl j=>cases ry;exact PySem.EqMixed.eq_str_bool (fin_bl I q (by simp))
  | int j=>obtain ⟨t',rfl⟩:=ry;exact PySem.EqMixed.eq_str_int (fin_bl I q (by simp))
  | str j=>obtain ⟨t',rfl⟩:=ry;exact eq_str (fin_bl I q dec_str)
  | _=>exact absurd (show false=true from hs) Bool.false_ne_true
 | byt i=>
  obtain ⟨t,rfl⟩:=rx
  cases y with
  | byt j=>obtain ⟨t',rfl⟩:=ry;exact PySem.W.eq_bytes (fin_bl I q dec_byt)
  | _=>exact absurd (show false=true from hs) Bool.false_ne_true
 | _=>cases y <;> exact absurd (show false=true from hs) Bool.false_ne_true
theorem op_ne:OpR X (compareOp .NotEq) rNe:=by
 intro pins s σ H x y v u Q I rx ry h
 obtain ⟨hs,q⟩:=h
 cases x with
 | non=>
  cases rx
  cases y with
  | non=>cases ry;exact PySem.EqNone.ne_none_none (fin_bl I q (by simp))
  | bl j=>cases ry;exact PySem.EqNone.ne_none_bool (fin_bl I q (by simp))
  | int j=>obtain ⟨t',rfl⟩:=ry;exact PySem.EqNone.ne_none_int (fin_bl I q (by simp))
  | str j=>obtain ⟨t',rfl⟩:=ry;exact PySem.EqNone.ne_none_str (fin_bl I q (by simp))
  | _=>exact absurd (show false=true from hs) Bool.false_ne_true
 | bl i=>
  cases rx
  cases y with
  | non=>cases ry;exact PySem.EqNone.ne_bool_none (fin_bl I q (by simp))
  | bl j=>cases ry;exact ne_bool (fin_bl I q (congrArg not dec_bl))
  | str j=>obtain ⟨t',rfl⟩:=ry;exact PySem.EqMixed.ne_bool_str (fin_bl I q (by simp))
  | _=>exact absurd (show false=true from hs) Bool.false_ne_true
 | int i=>
  obtain ⟨t,rfl⟩:=rx
  cases y with
  | non=>cases ry;exact PySem.EqNone.ne_int_none (fin_bl I q (by simp))
  | int j=>obtain ⟨t',rfl⟩:=ry;exact ne_int (fin_bl I q (congrArg not dec_int))
  | str j=>obtain ⟨t',rfl⟩:=ry;exact PySem.EqMixed.ne_int_str (fin_bl I q (by simp))
  | _=>exact absurd (show false=true from hs) Bool.false_ne_true
 | str i=>
  obtain ⟨t,rfl⟩:=rx
  cases y with
  | non=>cases ry;exact PySem.EqNone.ne_str_none (fin_bl I q (by simp))
  | bl j=>cases ry;exact PySem.EqMixed.ne_str_bool (fin_bl I q (by simp))
  | int j=>obtain ⟨t',rfl⟩:=ry;exact PySem.EqMixed.ne_str_int (fin_bl I q (by simp))
  | str j=>obtain ⟨t',rfl⟩:=ry;exact ne_str (fin_bl I q (congrArg not dec_str))
  | _=>exact absurd (show false=true from hs) Bool.false_ne_true
 | byt i=>
  obtain ⟨t,rfl⟩:=rx
  cases y with
  | byt j=>obtain ⟨t',rfl⟩:=ry;exact PySem.W.ne_bytes (fin_bl I q (congrArg not dec_byt))
  | _=>exact absurd (show false=true from hs) Bool.false_ne_true
 | _=>cases y <;> exact absurd (show false=true from hs) Bool.false_ne_true
theorem op_lt:OpR X (compareOp .Lt) (rI0 fun i j=>.bl (decide (i < j))):=opB0 fun _ _ _ _ _ _ _ q=>lt_int q
theorem op_le:OpR X (compareOp .LtE) (rI0 fun i j=>.bl (decide (i≤j))):=opB0 fun _ _ _ _ _ _ _ q=>le_int q
theorem op_gt:OpR X (compareOp .Gt) (rI0 fun i j=>.bl (decide (j < i))):=opB0 fun _ _ _ _ _ _ _ q=>gt_int q
theorem op_ge:OpR X (compareOp .GtE) (rI0 fun i j=>.bl (decide (j≤i))):=opB0 fun _ _ _ _ _ _ _ q=>ge_int q
theorem nomark (b:Expr) {op:CmpOp} (h:op≠.In:=by decide) (h2:op≠.NotIn:=by decide):behindInMarks op b=false:=by
 have e1:(op == CmpOp.In)=false:=by cases op <;> first | rfl | exact absurd rfl h
 have e2:(op == CmpOp.NotIn)=false:=by cases op <;> first | rfl | exact absurd rfl h2
 cases b <;> simp [behindInMarks,e1,e2]
theorem pe_cmpR {op:CmpOp}{r:R2} (ho:OpR X (compareOp op) r) (ha:PE X a ta) (hb:PE X b tb) (hm:behindInMarks op b=false):PE X (.Compare a [op] [b] pos) (tOp r ta tb):=by
 intro pins s σ H Q I h
 exact wpAny_Compare1 (binT ha hb I h fun v u s2 x y H2 I2 rx ry q=>ho pins s2 σ H2 x y v u Q I2 rx ry q) hm
def tTest (t:TE):TT:=fun σ H Q=>t σ H fun x H'=>∃ k,x=.bl k∧Q k H'
theorem pt_cmpR {op:CmpOp}{r:R2} (ho:OpR X (compareOp op) r) (ha:PE X a ta) (hb:PE X b tb) (hm:behindInMarks op b=false):PT X (.Compare a [op] [b] pos) (tTest (tOp r ta tb)):=by
 intro pins s σ H Q I h
 refine wpAny_isTrue_Compare1 (thn (ha pins s σ H _ I h) fun v s1 ⟨x,H1,I1,r1,q1⟩=>thn (hb pins s1 σ H1 _ I1 q1) fun u s2 ⟨y,H2,I2,r2,q2⟩=>
  thn (ho pins s2 σ H2 x y v u _ I2 r1 r2 q2) fun c s3 ⟨z,H3,I3,r3,k,e,q3⟩=>?_) hm
 subst e
 cases r3
 exact wpAny_truthy_bool ⟨H3,I3,q3⟩
def tChain (r r':R2) (ta tb tc:TE):TE:=fun σ H Q=>ta σ H fun x H1=>tb σ H1 fun y H2=>r x y H2 fun z H3=>∃ k,z=.bl k ∧
 (if k=true then tc σ H3 fun w' H4=>r' y w' H4 Q else Q (.bl false) H3)
theorem pe_chain {op op':CmpOp}{r r':R2} (ho:OpR X (compareOp op) r) (ho':OpR X (compareOp op') r') (ha:PE X a ta) (hb:PE X b tb) (hc:PE X c tc)
  (hm:lastMarks [op,op'] [b,c]=false:=by with_unfolding_all rfl):PE X (.Compare a [op,op'] [b,c] pos) (tChain r r' ta tb tc):=by
 intro pins s σ H Q I h
 refine Compare_chain (thn (ha pins s σ H _ I h) fun v s1 ⟨x,H1,I1,r1,q1⟩=>chain_link (thn (hb pins s1 σ H1 _ I1 q1) fun u s2 ⟨y,H2,I2,r2,q2⟩=>
  thn (ho pins s2 σ H2 x y v u _ I2 r1 r2 q2) fun d s3 ⟨z,H3,I3,r3,k,e,q3⟩=>?_)) hm
 subst e
 cases r3
 refine wpAny_truthy_bool ?_
 cases k with
 | false=>exact ite_ff ⟨.bl false,H3,I3,rfl,q3⟩
 | true=>exact ite_tt (chain_last (thn (hc pins s3 σ H3 _ I3 q3) fun w' s4 ⟨z',H4,I4,r4,q4⟩=>ho' pins s4 σ H4 y z' u w' Q I4 r2 r4 q4))
theorem line63:(sizeLine:Nat) < 2 ^ 63:=by rw [sizeLine_eq];decide
theorem vals1 {x:V}{us:List Value} (r:Vals [x] us):∃ u,us=[u]∧RelV x u:=by
 cases r with
 | cons r1 r2=>cases r2;exact ⟨_,rfl,r1⟩
theorem vals2 {x y:V}{us:List Value} (r:Vals [x,y] us):∃ u w',us=[u,w']∧RelV x u∧RelV y w':=by
 cases r with
 | cons r1 r2=>
  cases r2 with
  | cons r3 r4=>cases r4;exact ⟨_,_,rfl,r1,r3⟩
theorem call_min2 (hc:X.calm=true):CallR X (.builtin "min") (fun xs H Q=>∃ i j,xs=[.int i,.int j]∧Q (.int (if j < i then j else i)) H):=by
 intro pins s σ H xs us Q I r h
 obtain ⟨i,j,rfl,q⟩:=h
 obtain ⟨u,w',rfl,⟨t,rfl⟩,⟨t',rfl⟩⟩:=vals2 r
 refine min_two_ints (I.ok.hd hc) fun h' tk k=>⟨_,H,I.kept k,?_,q⟩
 by_cases hj:j < i
 ·rw [if_pos hj,if_pos hj];exact ⟨_,rfl⟩
 ·rw [if_neg hj,if_neg hj];exact ⟨_,rfl⟩
end
structure ObjM (h:Heap) (x dx C:Addr) (mA:Str→Option Value):Prop where
 obj:h.get? x=some (PySem.W.instObj C dx)
 ns:h.Ns1 dx mA
 ne:dx≠x
theorem lookIn_ns {h:Heap}{dx:Addr}{mA:Str→Option Value} (n:h.Ns1 dx mA):∃ od,h.get? dx=some od∧∀ name,PySem.W.lookIn name od=some (mA name):=by
 obtain ⟨o,es,ep,ho,hd,hk,_,hm⟩:=n
 refine ⟨o,ho,fun name=>?_⟩
 have e:=hm name
 unfold nsFind findBy at e
 rw [← Array.find?_toList] at e
 unfold PySem.W.lookIn
 rw [hd]
 dsimp only
 split
 ·rename_i y q
  rw [q] at e
  exact congrArg some e
 ·rename_i q
  rw [q] at e
  have a:es.toList.any (·.refKey)=false:=by
   rw [List.any_eq_false]
   intro y hy
   obtain ⟨z,t,hkey⟩:=hk y (Array.mem_toList_iff.mp hy)
   simp [DictEntry.refKey,hkey]
  have a':¬ es.toList.any (·.refKey)=true:=by rw [a];exact Bool.false_ne_true
  rw [if_neg a']
  exact congrArg some e
theorem ObjM.look {h:Heap}{x dx C:Addr}{mA:Str→Option Value} (I:ObjM h x dx C mA):∃ od,PySem.W.InstAt h x (PySem.W.instObj C dx) C (some od)∧∀ name,PySem.W.lookIn name od=some (mA name):=
 let ⟨od,ho,hl⟩:=lookIn_ns I.ns
 ⟨od,⟨I.obj,rfl,rfl,ho⟩,hl⟩
section
variable {prog:Program}{w:World}{A:Around}{E:Value→Shared→Prop}{s:Shared}{K:PySem.W.Frag}{x dx C f:Addr}{mA:Str→Option Value}{name:Str}{v:Value}
theorem get_map {expr:Bool}{Q:Value→Shared→Prop} (X:K.In s.heap) (I:ObjM s.heap x dx C mA) (hg:PySem.W.plainGet K C name=true) (hh:PySem.W.hasDictIn K C=true)
  (ha:PySem.W.findIn K (.ref C) name=some none) (hv:mA name=some v) (hv':PySem.W.handedIn v=true) (h:Q v { s with toks:=s.toks + 1 }) :
  wpAny (model prog w) A (getAttr (.ref x) name expr) Q E s:=by
 obtain ⟨od,J,hl⟩:=I.look
 exact PySem.W.get_value X J (PySem.W.plainGet_of hg).1 (PySem.W.findObj_own hh ha rfl (by rw [hl,hv])) hv' h
theorem get_meth {pl:Sem Bool}{Q:Value×List Value→Shared→Prop} (X:K.In s.heap) (I:ObjM s.heap x dx C mA) (hg:PySem.W.plainGet K C name=true)
  (hf:PySem.W.findIn K (.ref C) name=some (some (.ref f))) (ht:PySem.W.isFn K (.ref f)=true) (hv:mA name=none) (h:Q (.ref f,[.ref x]) s) :
  wpAny (model prog w) A (getMethod (.ref x) name pl) Q E s:=by
 obtain ⟨od,J,hl⟩:=I.look
 exact PySem.W.method_fn X J (PySem.W.plainGet_of hg).1 (PySem.W.plainGet_of hg).2 hf (beq_iff_eq.mp ht) (by show (PySem.W.lookIn name od).map (·.isSome)=some false;rw [hl,hv];rfl) h
theorem set_map {ns:List Str}{Q:Unit→Shared→Prop} (X:K.In s.heap) (I:ObjM s.heap x dx C mA)
  (hs:PySem.W.findIn K (.ref C) "__setattr__"=some (some (.builtin "object.__setattr__"))) (hp:PySem.W.plainOver K C=true) (ht:PySem.W.takerIn K C name=some none) (hh:PySem.W.hasDictIn K C=true)
  (hw:PySem.Within mA ns) (hsz:ns.length≤sizeLine)
  (h:∀ h',ObjM h' x dx C (fun y=>if y=name then some v else mA y)→Heap.SameBut dx s.heap h'→Q () { s with heap:=h',toks:=s.toks + 2 }) :
  wpAny (model prog w) A (setAttr (.ref x) name v) Q E s:=by
 obtain ⟨od,J,hl⟩:=I.look
 refine PySem.W.set_plain X J hs (PySem.W.osa_open (s:={ s with toks:=s.toks + 1 }) (r:=none) X J hp ht fun b=>?_)
 obtain ⟨cd,hc,hd'⟩:=PySem.W.any_some hh
 have hx:s.heap.get? x=some ⟨.ref C,some dx,.plain,#[]⟩:=I.obj
 refine wpAny_bind (wpAny_pure (wpAny_bind (wpAny_bind (wpAny_loadPart hx (wpAny_bind (PySem.W.Looks.here (s:={ s with toks:=s.toks + 1 }) (PySem.W.looks_clsIn X hc) ?_))))))
 rw [hd']
 refine wpAny_pure (a:=some dx) (wpAny_bind (wpAny_pure (wpAny_bind ?_)))
 refine wpAny_nsSet1 (s:={ s with toks:=s.toks + 1 }) I.ns fun h' hn2 hs2=>?_
 obtain ⟨oD,esD,epD,hoD,hdD,hcD⟩:=hn2.count (PySem.Within.cons name v hw)
 refine wpAny_bind (wpAny_lookBehind hoD (by rw [hdD];exact pastItsLine_dict (Nat.le_trans hcD (by rw [List.length_cons];omega))) ?_)
 exact wpAny_pure (h _ ⟨(hs2.2 _ (Ne.symm I.ne)).trans I.obj,hn2,I.ne⟩ hs2)
theorem make_map {R:Result→Shared→Prop}{vs:List Value}{kw:List (Str×Value)} (X:K.In s.heap) (hm:PySem.W.makesIn K C=true)
  (hi:PySem.W.findIn K (.ref C) "__init__"=some (some (.ref f))) (hf:PySem.W.typeIn K (.ref f)=some (.type "function"))
  (h:codeAny (model prog w) (A.under (.builtin "type.__call__" ⟨.ref C::vs,kw⟩)) (.call (.ref f) ⟨.ref (s.heap.objs.size + 1)::vs,kw⟩) (PySem.W.InitBack (s.heap.objs.size + 1) R)
   { s with heap:=(s.heap.push PySem.W.emptyDict).push (PySem.W.instObj C s.heap.objs.size) }) :
  codeAny (model prog w) A (.call (.ref C) ⟨vs,kw⟩) R s:=by
 obtain ⟨hh,g,d,t,os⟩:=s
 exact PySem.W.make_core (PySem.W.makes_of X hm) (PySem.W.looks_findIn X hi) (fun self=>PySem.W.bind_fn X self hf) (.inl rfl) h
end
def putF (f:Str) (v:V):List (Str×V)→List (Str×V)
 | []=>[(f,v)]
 | (g,x)::r=>if g=f then (g,v)::r else (g,x)::putF f v r
theorem lookup_putF (f g:Str) (v:V):∀ fs:List (Str×V),(putF f v fs).lookup g=if g=f then some v else fs.lookup g
 | []=>by
  show List.lookup g [(f,v)]=_
  by_cases h:g=f
  ·have hb:(g == f)=true:=beq_iff_eq.mpr h
   simp only [List.lookup,hb,if_pos h]
  ·have hb:(g == f)=false:=beq_eq_false_iff_ne.mpr h
   simp only [List.lookup,hb,if_neg h]
 | (k,x)::r=>by
  have ih:=lookup_putF f g v r
  rw [show putF f v ((k,x)::r)=(if k=f then (k,v)::r else (k,x)::putF f v r) from rfl]
  by_cases hk:k=f
  ·rw [if_pos hk]
   by_cases h:g=k
   ·have hb:(g == k)=true:=beq_iff_eq.mpr h
    simp only [List.lookup,hb,if_pos (h.trans hk)]
   ·have hb:(g == k)=false:=beq_eq_false_iff_ne.mpr h
    simp only [List.lookup,hb,if_neg (fun e:g=f=>h (e.trans hk.symm))]
  ·rw [if_neg hk]
   by_cases h:g=k
   ·have hb:(g == k)=true:=beq_iff_eq.mpr h
    simp only [List.lookup,hb,if_neg (fun e:g=f=>hk (h.symm.trans e))]
   ·have hb:(g == k)=false:=beq_eq_false_iff_ne.mpr h
    simp only [List.lookup,hb]
    exact ih
theorem keys_putF (f:Str) (v:V):∀ fs:List (Str×V),f∈(putF f v fs).map (·.1)∧∀ g,g∈fs.map (·.1)→g∈(putF f v fs).map (·.1)
 | []=>⟨by simp [putF],fun g h=>by simp at h⟩
 | (k,x)::r=>by
  obtain ⟨i1,i2⟩:=keys_putF f v r
  rw [show putF f v ((k,x)::r)=(if k=f then (k,v)::r else (k,x)::putF f v r) from rfl]
  by_cases hk:k=f
  ·rw [if_pos hk]
   subst hk
   exact ⟨by simp,fun g h=>by simpa using h⟩
  ·rw [if_neg hk]
   refine ⟨?_,fun g h=>?_⟩
   ·rw [List.map_cons]
    exact List.mem_cons_of_mem _ i1
   ·rw [List.map_cons] at h ⊢
    rcases List.mem_cons.mp h with e | e
    ·exact List.mem_cons.mpr (.inl e)
    ·exact List.mem_cons_of_mem _ (i2 g e)
theorem length_putF (f:Str) (v:V):∀ fs:List (Str×V),(putF f v fs).length≤fs.length + 1
 | []=>by simp [putF]
 | (k,x)::r=>by
  have ih:=length_putF f v r
  rw [show putF f v ((k,x)::r)=(if k=f then (k,v)::r else (k,x)::putF f v r) from rfl]
  by_cases hk:k=f
  ·rw [if_pos hk,List.length_cons,List.length_cons];omega
  ·rw [if_neg hk,List.length_cons,List.length_cons];omega
theorem RelO.some_of {v:V}{o:Option Value} (r:RelO (some v) o):∃ u,o=some u∧RelV v u:=by
 cases o with
 | none=>exact (show False from r).elim
 | some u=>exact ⟨u,rfl,r⟩
theorem RelO.none_of {o:Option Value} (r:RelO none o):o=none:=by
 cases o with
 | none=>rfl
 | some u=>exact (show False from r).elim
theorem handed_of {v:V}{u:Value} (r:RelV v u):PySem.W.handedIn u=true:=by
 cases v with
 | non=>cases (show u=Value.none from r);rfl
 | bl b=>cases (show u=Value.bool b from r);rfl
 | int i=>obtain ⟨t,e⟩:=(show ∃ t,u=Value.int i t from r);cases e;rfl
 | str x=>obtain ⟨t,e⟩:=(show ∃ t,u=Value.str x t from r);cases e;rfl
 | byt b=>obtain ⟨t,e⟩:=(show ∃ t,u=Value.bytes b t from r);cases e;rfl
 | flt b=>obtain ⟨t,e⟩:=(show ∃ t,u=Value.float b t from r);cases e;rfl
 | ref a=>cases (show u=Value.ref a from r);rfl
 | ty n=>cases (show u=Value.type n from r);rfl
section
variable {P:Program}{w:World}{H H':Hp}{h h':Heap}{a C dx:Addr}{fs fs':List (Str×V)}
theorem ins_get (hok:HOk P w H h) (e:H a=some (.ins C dx fs)):∃ mA,ObjM h a dx C mA∧(∀ f,RelO (fs.lookup f) (mA f))∧PySem.Within mA (fs.map (·.1))∧fs.length≤1000∧H dx=some (.own a):=by
 obtain ⟨d,z,ne,ob,mA,n,r,q⟩:=(show ObjOk P w H h a (.ins C dx fs) from hok a _ e)
 exact ⟨mA,⟨ob,n,ne⟩,r,q,z,d⟩
end
structure Cls (K:PySem.W.Frag) (C:Addr):Prop where
 pg:PySem.W.plainGet K C Str.empty=true
 hd:PySem.W.hasDictIn K C=true
 po:PySem.W.plainOver K C=true
 sa:PySem.W.findIn K (.ref C) "__setattr__"=some (some (.builtin "object.__setattr__"))
theorem Cls.get {K:PySem.W.Frag}{C:Addr} (c:Cls K C) (f:Str):PySem.W.plainGet K C f=true:=c.pg
def NoAttr (K:PySem.W.Frag) (C:Addr) (f:Str):Prop:=PySem.W.findIn K (.ref C) f=some none
theorem NoAttr.taker {K:PySem.W.Frag}{C:Addr}{f:Str} (n:NoAttr K C f):PySem.W.takerIn K C f=some none:=by
 unfold PySem.W.takerIn
 rw [show PySem.W.findIn K (.ref C) f=some none from n]
 rfl
structure Meth (K:PySem.W.Frag) (C:Addr) (m:Str) (f:Addr):Prop where
 at_:PySem.W.findIn K (.ref C) m=some (some (.ref f))
 fn:PySem.W.isFn K (.ref f)=true
 kp:PySem.W.keepIn K (.ref f)=true
section
variable {X:Cx}{pins:List (Addr×Obj)}{σ:St}{H:Hp}{s:Shared}{a C dx:Addr}{fs:List (Str×V)}{f:Str}{v:V}{A:Around}{E:Value→Shared→Prop}
theorem getattr_ok {b:Bool}{Q:Value→Shared→Prop} (I:Inv X pins σ H s) (e:H a=some (.ins C dx fs)) (c:Cls X.K C) (n:NoAttr X.K C f) (l:fs.lookup f=some v)
  (h:∀ u s',Inv X pins σ H s'→RelV v u→Q u s'):wpAny (model X.prog X.w) A (getAttr (.ref a) f b) Q E s:=by
 obtain ⟨mA,O,r,_,_,_⟩:=ins_get I.hok e
 obtain ⟨u,hu,ru⟩:=RelO.some_of (v:=v) (o:=mA f) (by rw [← l];exact r f)
 exact get_map I.kIn O (c.get f) c.hd n hu (handed_of ru) (h u _ (I.tok _) ru)
theorem getmeth_ok {m:Str}{g:Addr}{pl:Sem Bool}{Q:Value×List Value→Shared→Prop} (I:Inv X pins σ H s) (e:H a=some (.ins C dx fs)) (c:Cls X.K C) (k:Meth X.K C m g) (l:fs.lookup m=none)
  (h:Q (.ref g,[.ref a]) s):wpAny (model X.prog X.w) A (getMethod (.ref a) m pl) Q E s:=by
 obtain ⟨mA,O,r,_,_,_⟩:=ins_get I.hok e
 have hn:mA m=none:=RelO.none_of (by rw [← l];exact r m)
 exact get_meth I.kIn O (c.get m) k.at_ k.fn hn h
theorem setattr_ok {y:V}{u:Value}{Q:Unit→Shared→Prop} (I:Inv X pins σ H s) (e:H a=some (.ins C dx fs)) (c:Cls X.K C) (n:NoAttr X.K C f) (hl:fs.length < 1000) (ry:RelV y u)
  (h:∀ s',Inv X pins σ (upd H a (.ins C dx (putF f y fs))) s'→Q () s'):wpAny (model X.prog X.w) A (setAttr (.ref a) f u) Q E s:=by
 obtain ⟨mA,O,r,wi,_,ho⟩:=ins_get I.hok e
 have hz:(fs.map (·.1)).length≤sizeLine:=by rw [List.length_map,sizeLine_eq];omega
 refine set_map I.kIn O c.sa c.po n.taker c.hd wi hz fun h' O' sb=>h _ ?_
 have hd:∃ o,h'.get? dx=some o:=let ⟨o,_,_,e',_⟩:=O'.ns;⟨o,e'⟩
 refine I.write (x:=a) (e:=dx) (by rw [e];exact True.intro) (.inr ho) (fun b q hb z=>(sb.2 b hb).trans z) hd ?_
 refine ⟨by rw [upd_ne O.ne];exact ho,?_,O.ne,O'.obj,_,O'.ns,fun g=>?_,fun g hg=>?_⟩
 ·have:=length_putF f y fs;omega
 ·show RelO ((putF f y fs).lookup g) (if g=f then some u else mA g)
  rw [lookup_putF]
  by_cases q:g=f
  ·rw [if_pos q,if_pos q];exact ry
  ·rw [if_neg q,if_neg q];exact r g
 ·by_cases q:g=f
  ·rw [q];exact (keys_putF f y fs).1
  ·refine (keys_putF f y fs).2 g (wi g fun z=>hg ?_)
   show (if g=f then some u else mA g)=none
   rw [if_neg q];exact z
theorem Inv.made (I:Inv X pins σ H s):Inv X pins σ (upd (upd H s.heap.objs.size (.own (s.heap.objs.size + 1))) (s.heap.objs.size + 1) (.ins C s.heap.objs.size []))
  { s with heap:=(s.heap.push PySem.W.emptyDict).push (PySem.W.instObj C s.heap.objs.size) }:=by
 have e1:(s.heap.push PySem.W.emptyDict).get? s.heap.objs.size=some PySem.W.emptyDict:=Heap.get?_push_size s.heap rfl
 have e2:((s.heap.push PySem.W.emptyDict).push (PySem.W.instObj C s.heap.objs.size)).get? (s.heap.objs.size + 1)=some (PySem.W.instObj C s.heap.objs.size):=by
  have:=Heap.get?_push_size (s.heap.push PySem.W.emptyDict) (o:=PySem.W.instObj C s.heap.objs.size) rfl
  rwa [Heap.size_push] at this
 have e3:(s.heap.push PySem.W.emptyDict).Ns s.heap.objs.size (fun _=>none):=⟨PySem.W.emptyDict,#[],_,e1,rfl,(fun e he=>absurd he (by simp)),fun _=>rfl⟩
 have I1:=I.laid (a:=s.heap.objs.size) (o:=.own (s.heap.objs.size + 1)) (h':=s.heap.push PySem.W.emptyDict) (t':=s.toks) (fun b u q=>Heap.get?_push_of_some _ q) (Nat.le_refl _) ⟨_,e1⟩
 refine I1.laid (a:=s.heap.objs.size + 1) (o:=.ins C s.heap.objs.size []) (t':=s.toks) (fun b u q=>Heap.get?_push_of_some _ q) (Nat.le_of_eq (Heap.size_push _ _)) ?_
 have ne:s.heap.objs.size≠s.heap.objs.size + 1:=Nat.ne_of_lt (Nat.lt_succ_self _)
 refine ⟨by rw [upd_ne ne,upd_same],Nat.zero_le _,ne,e2,fun _=>none,(Heap.Ns1.of_empty e3).at fun o q=>Heap.get?_push_of_some _ q,fun _=>True.intro,fun y hy=>absurd rfl hy⟩
theorem attr_of {prog:Program}{w:World}{env:Env}{e:Expr}{f:Str}{pos:Pos}{s:Shared}{Q:Value→Shared→Prop} (hb:attributeBase e f env (eval e env)=eval e env)
  (h:wpAny (model prog w) A (eval e env) (fun o s₁=>wpAny (model prog w) A (getAttr o f true) Q E s₁) E s):wpAny (model prog w) A (eval (.Attribute e f pos) env) Q E s:=
 Attribute_any_ h (by rw [arm_eval_Attribute,hb])
end
def tFld (K:PySem.W.Frag) (ta:TE) (f:Str):TE:=fun σ H Q=>ta σ H fun x H1=>∃ a C dx fs v,x=.ref a∧H1 a=some (.ins C dx fs)∧Cls K C∧NoAttr K C f∧fs.lookup f=some v∧Q v H1
def sFld (K:PySem.W.Frag) (ta tv:TE) (f:Str):TS:=fun D σ H=>tv σ H fun y H1=>ta σ H1 fun x H2=>∃ a C dx fs,x=.ref a∧H2 a=some (.ins C dx fs)∧Cls K C∧NoAttr K C f∧fs.length < 1000 ∧
 D.nx σ (upd H2 a (.ins C dx (putF f y fs)))
section
variable {X:Cx}{o e value:Expr}{f:Str}{pos pos' tpos:Pos}{ta tv:TE}
theorem pe_fld (he:PE X e ta) (hb:attributeBase e f X.env (eval e X.env)=eval e X.env):PE X (.Attribute e f pos) (tFld X.K ta f):=by
 intro pins s σ H Q I h
 refine attr_of hb (thn (he pins s σ H _ I h) fun u s1 ⟨x,H1,I1,rx,a,C,dx,fs,v,ex,ea,c,n,l,q⟩=>?_)
 subst ex
 obtain rfl:u=Value.ref a:=rx
 exact getattr_ok I1 ea c n l fun u' s2 I2 ru=>⟨v,H1,I2,ru,q⟩
theorem ps_fld (ha:PE X o ta) (hv:PE X value tv) (hs:swapsWith value (some (.Attribute o f pos')) pos.line X.env=pure false):PS X (.Assign [.Attribute o f pos'] value pos) (sFld X.K ta tv f):=by
 intro pins s σ H D I h
 refine plainObj_wpAny_Assign_Attribute (thn (hv pins s σ H _ I h) fun u s1 ⟨y,H1,I1,ry,q⟩=>thn (ha pins s1 σ H1 _ I1 q) fun ov s2 ⟨x,H2,I2,rx,a,C,dx,fs,ex,ea,c,n,l,q2⟩=>?_) hs
 subst ex
 obtain rfl:ov=Value.ref a:=rx
 exact setattr_ok I2 ea c n l ry fun s3 I3=>⟨σ,_,I3,q2⟩
theorem methcall_of {pl:Sem Bool}{m:Str}{apos:Pos}{args:List Expr}{pins:List (Addr×Obj)}{s:Shared}{σ:St}{H:Hp}{Q:Value→Shared→Prop}{te:TE} (he:PE X e te) (I:Inv X pins σ H s)
  (h:te σ H fun x H1=>∃ a C dx fs g,x=.ref a∧H1 a=some (.ins C dx fs)∧Cls X.K C∧Meth X.K C m g∧fs.lookup m=none ∧
   ∀ s1,Inv X pins σ H1 s1→wpAny (model X.prog X.w) X.A (callWith pos (.ref g) [.ref a] (backTo pos (starEach args X.env)) (backToKw pos (keywordEach [] X.env))) Q X.xe s1)
  (ht:eval (.Call (.Attribute e m apos) args [] pos) X.env=(do
   let ov ← eval e X.env
   standAt apos.atName
   let (f,first) ← holding [ov] (getMethod ov m pl)
   callWith pos f first (backTo pos (starEach args X.env)) (backToKw pos (keywordEach [] X.env)))) :
  wpAny (model X.prog X.w) X.A (eval (.Call (.Attribute e m apos) args [] pos) X.env) Q X.xe s:=by
 refine PySem.W.methodCall_KW (pl:=pl) (thn (he pins s σ H _ I h) fun u s1 ⟨x,H1,I1,rx,a,C,dx,fs,g,ex,ea,c,k,l,q⟩=>?_) ht
 subst ex
 obtain rfl:u=Value.ref a:=rx
 exact getmeth_ok I1 ea c k l (q s1 I1)
end
section
variable {X:Cx}{pins:List (Addr×Obj)}{σ:St}{H:Hp}{s:Shared}{A:Around}{E:Value→Shared→Prop}{Q:Value→Shared→Prop}{c:Value}{b:Bool}
inductive TyOf (K:PySem.W.Frag) (H:Hp):V→Value→Prop where
 | non:TyOf K H .non (.type "NoneType")
 | bl (x:Bool):TyOf K H (.bl x) (.type "bool")
 | int (i:Int):TyOf K H (.int i) (.type "int")
 | str (x:Str):TyOf K H (.str x) (.type "str")
 | flt (x:UInt64):TyOf K H (.flt x) (.type "float")
 | lst {a:Addr}{xs:List V} (e:H a=some (.lst xs)):TyOf K H (.ref a) (.type "list")
 | frz {a:Addr}{o:Obj}{xs:List V} (e:H a=some (.frz o (.lst xs))):TyOf K H (.ref a) (.type "list")
 | tup {a:Addr}{xs:List V} (e:H a=some (.tup xs)):TyOf K H (.ref a) (.type "tuple")
 | dK {a:Addr}{kvs:List (Key×V)} (e:H a=some (.dK kvs)):TyOf K H (.ref a) (.type "dict")
 | dT {a:Addr}{kvs:List (List Key×V)} (e:H a=some (.dT kvs)):TyOf K H (.ref a) (.type "dict")
 | ins {a C dx:Addr}{fs:List (Str×V)} (e:H a=some (.ins C dx fs)) (cl:Cls K C) (ha:PySem.W.findIn K (.ref C) "__class__"=some (some (.builtin "object.__class__")))
   (hn:PySem.W.specialIn K (.builtin "object.__class__") "__get__"=some (some (.builtin "getset_descriptor.__get__"))) (htk:PySem.W.takesIn K (.builtin "object.__class__")=some true)
   (hm:PySem.W.mroIn K C (.type "object")=some true):TyOf K H (.ref a) (.ref C)
theorem isinst_ok {x:V}{u t:Value} (I:Inv X pins σ H s) (rx:RelV x u) (ty:TyOf X.K H x t) (e:PySem.W.kitOne X.K t c=some b) (h:∀ tk,Q (.bool b) { s with toks:=tk }) :
  wpAny (model X.prog X.w) A (call (.builtin "isinstance") [u,c]) Q E s:=by
 cases ty with
 | non=>cases (show u=Value.none from rx);exact PySem.W.kia_one PySem.W.kitx_none I.kIn True.intro e (fun z=>nomatch z) h
 | bl y=>cases (show u=Value.bool y from rx);exact PySem.W.kia_one PySem.W.kitx_bool I.kIn True.intro e (fun z=>nomatch z) h
 | int i=>obtain ⟨t,q⟩:=(show ∃ t,u=Value.int i t from rx);cases q;exact PySem.W.kia_one PySem.W.kitx_int I.kIn True.intro e (fun z=>nomatch z) h
 | str y=>obtain ⟨t,q⟩:=(show ∃ t,u=Value.str y t from rx);cases q;exact PySem.W.kia_one PySem.W.kitx_str I.kIn True.intro e (fun z=>nomatch z) h
 | flt y=>obtain ⟨t,q⟩:=(show ∃ t,u=Value.float y t from rx);cases q;exact PySem.W.kia_one PySem.W.kitx_float I.kIn True.intro e (fun z=>nomatch z) h
 | @lst a xs ea=>
  cases (show u=Value.ref a from rx)
  obtain ⟨_,_,n,_,h1⟩:=(show ObjOk X.prog X.w H s.heap a (.lst xs) from I.hok a _ ea)
  exact PySem.W.kia_one PySem.W.kitx_list I.kIn ⟨_,h1,rfl⟩ e (fun z=>nomatch z) h
 | @frz a ob xs ea=>
  cases (show u=Value.ref a from rx)
  obtain ⟨_,_,_,n,_,h1⟩:=(show ObjOk X.prog X.w H s.heap a (.frz ob (.lst xs)) from I.hok a _ ea)
  exact PySem.W.kia_one PySem.W.kitx_list I.kIn ⟨_,h1,rfl⟩ e (fun z=>nomatch z) h
 | @tup a xs ea=>
  cases (show u=Value.ref a from rx)
  obtain ⟨_,_,_,p⟩:=(show ObjOk X.prog X.w H s.heap a (.tup xs) from I.hok a _ ea)
  obtain ⟨o,h1,h2,_⟩:=p
  exact PySem.W.kia_one PySem.W.kitx_tuple I.kIn ⟨o,h1,h2⟩ e (fun z=>nomatch z) h
 | @dK a kvs ea=>
  cases (show u=Value.ref a from rx)
  obtain ⟨_,_,vs,_,p⟩:=(show ObjOk X.prog X.w H s.heap a (.dK kvs) from I.hok a _ ea)
  obtain ⟨o,es,ep,h1,h2,_⟩:=p
  exact PySem.W.kia_one PySem.W.kitx_dict I.kIn ⟨o,h1,h2.1⟩ e (fun z=>nomatch z) h
 | @dT a kvs ea=>
  cases (show u=Value.ref a from rx)
  obtain ⟨_,_,xs,_,o,es,ep,h1,h2,_⟩:=(show ObjOk X.prog X.w H s.heap a (.dT kvs) from I.hok a _ ea)
  exact PySem.W.kia_one PySem.W.kitx_dict I.kIn ⟨o,h1,h2.1⟩ e (fun z=>nomatch z) h
 | @ins a C dx fs ea cl ha hn htk hm=>
  cases (show u=Value.ref a from rx)
  obtain ⟨mA,O,_⟩:=ins_get I.hok ea
  obtain ⟨od,J,_⟩:=O.look
  exact PySem.W.kia_one (PySem.W.kitx_own (cl.get _) cl.hd ha hn htk hm) I.kIn J e (fun z=>nomatch z) h
end
structure Room (k:Nat) (A:Around) (cm:Bool:=true):Prop where
 hd:cm=true→A.handled=none
 dp:A.depth + 3 * k + 5 < recursionLimit
 un:A.units + 16 * k + 200 < cLine
 gd:A.guards=some []
theorem Room.mono {j k:Nat}{A:Around}{cm:Bool} (r:Room k A cm) (h:j≤k):Room j A cm:=⟨r.hd,by have:=r.dp;omega,by have:=r.un;omega,r.gd⟩
theorem Room.deeper {k:Nat}{A:Around}{cm:Bool} (r:Room (k + 1) A cm) (env:Env):Room k (A.deeper env) cm:=
 ⟨r.hd,by have:=r.dp;show A.depth + 1 + 3 * k + 5 < _;omega,by have:=r.un;show A.units + 3 + 16 * k + 200 < _;omega,r.gd⟩
theorem make_depth {A:Around}{C:Addr}{us:List Value}{kw:List (Str×Value)}:(A.under (.builtin "type.__call__" ⟨.ref C::us,kw⟩)).depth=A.depth + 1:=by
 first | rfl | simp [Around.under,Code.weight,Code.isCreation,Code.isGuard,Code.isCaller,Code.frames,Code.isFrame,guardIds]
theorem make_units {A:Around}{C:Addr}{us:List Value}{kw:List (Str×Value)}:(A.under (.builtin "type.__call__" ⟨.ref C::us,kw⟩)).units=A.units + 1:=by
 first | rfl | simp [Around.under,Code.cUnits,Code.frames,Code.isFrame]
theorem Room.make {k:Nat}{A:Around}{cm:Bool} (r:Room (k + 1) A cm) (C:Addr) (us:List Value) (kw:List (Str×Value)):Room k (A.under (.builtin "type.__call__" ⟨.ref C::us,kw⟩)) cm:=
 ⟨r.hd,by have:=r.dp;rw [make_depth];omega,by have:=r.un;rw [make_units];omega,by first | exact r.gd | (simp [Around.under,Code.guards,Code.isGuard,guardIds,pushGuards];exact r.gd)⟩
theorem Room.depth {k:Nat}{A:Around}{cm:Bool} (r:Room k A cm):A.depth < recursionLimit:=by have:=r.dp;omega
theorem Room.units {k:Nat}{A:Around}{cm:Bool} (r:Room k A cm):A.units + 64 < cLine:=by have:=r.un;omega
def tNil:TA:=fun _ H Q=>Q [] H
def tCons (ta:TE) (tr:TA):TA:=fun σ H Q=>ta σ H fun x H1=>tr σ H1 fun xs H2=>Q (x::xs) H2
section
variable {X:Cx}{e:Expr}{es:List Expr}{te:TE}{t:TA}{pos:Pos}
theorem pa_nil:PA X [] tNil:=fun _ _ _ _ H Q I h=>Calls.spliced_nil ⟨[],H,I,.nil,h⟩
theorem pa_cons (ha:PE X e te) (hr:PA X es t) (hs:starEach (e::es) X.env=(false,eval e X.env)::starEach es X.env:=by rfl):PA X (e::es) (tCons te t):=by
 intro pos pins s σ H Q I h
 rw [hs]
 show wpAny _ _ (spliced ((false,eval e X.env)::backTo pos (starEach es X.env))) _ _ s
 refine Calls.spliced_cons (thn (ha pins s σ H _ I h) fun u s1 ⟨x,H1,I1,r1,q1⟩=>?_)
 exact thn (hr pos pins s1 σ H1 _ I1 q1) fun us s2 ⟨xs,H2,I2,r2,q2⟩=>⟨x::xs,H2,I2,.cons r1 r2,q2⟩
def tTup (t:TA):TE:=fun σ H Q=>t σ H fun xs H1=>xs.length≤sizeLine∧∀ p,H1 p=none→Q (.ref p) (upd H1 p (.tup xs))
def tLst (t:TA):TE:=fun σ H Q=>t σ H fun xs H1=>xs.length≤sizeLine∧∀ p,H1 p=none→Q (.ref p) (upd H1 p (.lst xs))
theorem pe_tup {x1} (h:PA X es t):PE X (.Tuple es x1 pos) (tTup t):=by
 intro pins s σ H Q I hq
 refine wpAny_Tuple_spliced (thn (h pos pins s σ H _ I hq) fun us s1 ⟨xs,H1,I1,r,z,q⟩=>⟨by rw [← r.length];exact z,?_⟩)
 have hf:H1 s1.heap.objs.size=none:=I1.hok.fresh (Nat.le_refl _)
 refine ⟨.ref s1.heap.objs.size,upd H1 s1.heap.objs.size (.tup xs),I1.laid (t':=s1.toks) (fun b u e=>Heap.get?_push_of_some _ e) (Nat.le_refl _) ?_,rfl,q _ hf⟩
 exact ⟨z,us,r,⟨_,Heap.get?_push_size _ rfl,rfl,rfl,_,rfl⟩⟩
theorem pe_lst (h:PA X es t):PE X (.List es pos) (tLst t):=by
 intro pins s σ H Q I hq
 refine wpAny_List_spliced (thn (h pos pins s σ H _ I hq) fun us s1 ⟨xs,H1,I1,r,z,q⟩=>⟨by rw [← r.length];exact z,?_⟩)
 have hf:H1 s1.heap.objs.size=none:=I1.hok.fresh (Nat.le_refl _)
 refine ⟨.ref s1.heap.objs.size,upd H1 s1.heap.objs.size (.lst xs),I1.laid (t':=s1.toks) (fun b u e=>Heap.get?_push_of_some _ e) (Nat.le_refl _) ?_,rfl,q _ hf⟩
 exact ⟨z,us,0,r,Heap.get?_push_size _ rfl⟩
end
abbrev Sp:=List V→Hp→VK→XK→Prop
abbrev CXT:=List Env→Hp→Shared→XK→Value→Shared→Prop
structure Env0 (P:Program) (w:World) (K:PySem.W.Frag) (mg:Str→Option Value) (base:Heap) (A:Around) (outer:List Env) (s:Shared) (H:Hp):Prop where
 frames:A.frames=some outer
 mod:Mod K mg base
 bs:∀ b o,base.get? b=some o→s.heap.get? b=some o∧H b=none
 bsz:base.objs.size≤s.heap.objs.size
 funs:s.heap.FunFrames base outer
 frf:∀ b∈frs outer,H b=none
 hok:HOk P w H s.heap
 bare:AllBare s.gens
 hq:HdOk A H
def CE (outer:List Env) (P:Program) (w:World) (H:Hp) (s:Shared) (Q:VK) (u:Value) (s':Shared):Prop:=
 ∃ v H',s'.os=s.os∧AllBare s'.gens∧Un (frs outer) [] H H' s.heap s'.heap∧HOk P w H' s'.heap∧RelV v u∧Q v H'
def CR (CX:CXT) (outer:List Env) (P:Program) (w:World) (H:Hp) (s:Shared) (Q:VK) (E:XK) (r:Result) (s':Shared):Prop:=
 match r with
 | .ok (.ret u)=>CE outer P w H s Q u s'
 | .ok _=>False
 | .error e=>CX outer H s E e s'
structure FnOk (P:Program) (w:World) (K:PySem.W.Frag) (mg:Str→Option Value) (base:Heap) (CX:CXT) (k:Nat) (f:Addr) (fd:FuncData) (ps:List Str) (sp:Sp) (cm:Bool:=true):Prop where
 len:∀ vs H Q E,sp vs H Q E→vs.length=ps.length
 run:∀ (A:Around) (outer:List Env) (s:Shared) (H:Hp) (args:Args) (us:List Value) (vs:List V) (Q:VK) (E:XK),Room k A cm→Env0 P w K mg base A outer s H→BindsTo s fd args (ps.zip us)→Vals vs us→sp vs H Q E →
  codeAny (model P w) A (.call (.ref f) args) (CR CX outer P w H s Q E) s
theorem Env0.make {P:Program}{w:World}{K:PySem.W.Frag}{mg:Str→Option Value}{base:Heap}{A:Around}{outer:List Env}{s:Shared}{H:Hp} (e:Env0 P w K mg base A outer s H) (C:Addr) (us:List Value) (kw:List (Str×Value)) :
  Env0 P w K mg base (A.under (.builtin "type.__call__" ⟨.ref C::us,kw⟩)) outer s H:=⟨by first | exact e.frames | (simpa [Around.under,Code.envs,Code.isFrame,pushEnvs] using e.frames),e.mod,e.bs,e.bsz,e.funs,e.frf,e.hok,e.bare,e.hq⟩
section
variable {X:Cx}{pins:List (Addr×Obj)}{σ:St}{H:Hp}{s s':Shared}
theorem Inv.env0 (I:Inv X pins σ H s):Env0 X.prog X.w X.K X.mg X.base X.A X.stack s H:=
 ⟨I.ok.frames,I.ok.mod,I.bs,Nat.le_trans I.ok.bsz I.sz,I.stack,I.stkFree,I.hok,I.bare,I.hq⟩
theorem Inv.after {Q:VK}{u:Value} (I:Inv X pins σ H s) (h:CE X.stack X.prog X.w H s Q u s'):EP X pins σ Q u s':=by
 obtain ⟨v,H',os,bare,un,hok,r,q⟩:=h
 obtain ⟨hh,g,d,t,os'⟩:=s'
 obtain rfl:os'=s.os:=os
 exact ⟨v,H',I.call (h':=hh) (g':=g) (d':=d) (t':=t) (ch:=[]) un hok bare (fun b z=>absurd z (by simp)),r,q⟩
end
def tCall (sp:Sp) (dvs:List V) (E:XK) (t:TA):TE:=fun σ H Q=>t σ H fun vs H1=>sp (vs++dvs) H1 Q E
def tMeth (C:Addr) (m:Str) (sp:Sp) (dvs:List V) (E:XK) (ta:TE) (t:TA):TE:=fun σ H Q=>ta σ H fun x H1=>∃ a dx fs,x=.ref a∧H1 a=some (.ins C dx fs)∧fs.lookup m=none ∧
 t σ H1 fun vs H2=>sp (x::(vs++dvs)) H2 Q E
def tMake (C:Addr) (sp:Sp) (dvs:List V) (E:XK) (t:TA):TE:=fun σ H Q=>t σ H fun vs H1=>∀ x dx,H1 x=none→H1 dx=none→dx≠x →
 sp (.ref x::(vs++dvs)) (upd (upd H1 dx (.own x)) x (.ins C dx [])) (fun v H2=>v=.non∧Q (.ref x) H2) E
def Binds (K:PySem.W.Frag) (fd:FuncData) (ps:List Str) (ds:List Value):Prop:=
 ∀ (s:Shared) (us:List Value),K.In s.heap→(us++ds).length=ps.length→BindsTo s fd ⟨us,[]⟩ (ps.zip (us++ds))
theorem Binds.all {K:PySem.W.Frag}{fd:FuncData}{ps:List Str} (h:∀ us:List Value,us.length=ps.length→bindArgs fd ⟨us,[]⟩=pure (ps.zip us)):Binds K fd ps []:=fun s us _ hl=>by
 rw [List.append_nil] at hl ⊢
 exact .of_eq (h us hl)
def Passes (CX:CXT) (X:Cx) (E:XK):Prop:=∀ (pins:List (Addr×Obj)) (σ:St) (H:Hp) (s:Shared) (e:Value) (s':Shared),Inv X pins σ H s→CX X.stack H s E e s'→X.xe e s'
section
variable {X:Cx}{CX:CXT}{k:Nat}{f C:Addr}{fd:FuncData}{ps:List Str}{sp:Sp}{dvs:List V}{ds:List Value}{E:XK}{x m:Str}{p pos apos:Pos}{e o:Expr}{es:List Expr}{ta:TE}{t:TA}
variable {cm:Bool}
theorem run_fn {pins:List (Addr×Obj)}{σ:St}{H:Hp}{s:Shared}{Q:VK}{us:List Value}{vs:List V} (F:FnOk X.prog X.w X.K X.mg X.base CX k f fd ps sp cm) (hr:Room k X.A cm) (hb:Binds X.K fd ps ds) (hd:Vals dvs ds) (hx:Passes CX X E)
  (I:Inv X pins σ H s) (r:Vals vs us) (h:sp (vs++dvs) H Q E):wpAny (model X.prog X.w) X.A (call (.ref f) us) (EP X pins σ Q) X.xe s:=by
 have r2:Vals (vs++dvs) (us++ds):=r.append hd
 have hl:(us++ds).length=ps.length:=by rw [← r2.length];exact F.len _ _ _ _ h
 refine wpAny_call (codeAny_mono (F.run X.A X.stack s H ⟨us,[]⟩ (us++ds) (vs++dvs) Q E hr I.env0 (hb s us I.kIn hl) r2 h) fun r s' hq=>?_)
 cases r with
 | error e=>exact hx pins σ H s e s' I hq
 | ok fl=>
  cases fl with
  | ret u=>exact I.after hq
  | next=>exact False.elim hq
  | brk=>exact False.elim hq
  | cont=>exact False.elim hq
theorem pe_call (F:FnOk X.prog X.w X.K X.mg X.base CX k f fd ps sp cm) (hr:Room k X.A cm) (hg:Gl X x) (hm:X.mg x=some (.ref f)) (hk:PySem.W.keepIn X.K (.ref f)=true) (hb:Binds X.K fd ps ds) (hd:Vals dvs ds) (hx:Passes CX X E)
  (ha:PA X (e::es) t) (hdb:(x == ("__debug__":Str))=false:=by decide) (he:starEach (e::es) X.env=(false,eval e X.env)::starEach es X.env:=by rfl) (hpl:(backTo pos (starEach es X.env)).any (·.1)=false:=by rfl) :
  PE X (.Call (.Name x p) (e::es) [] pos) (tCall sp dvs E t):=by
 intro pins s σ H Q I h
 refine wpAny_Call_Name_kw (ld_glob I hg hm ?_ hdb)
 refine PySem.W.callWith_K (h₀:=X.base) I.ok.mod.kin hk (thn (ha pos pins s σ H _ I h) fun us s1 ⟨vs,H1,I1,r,q⟩=>⟨I1.kIn,?_⟩) he hpl
 exact run_fn F hr hb hd hx I1 r q
theorem pe_meth {pl:Sem Bool} (he:PE X o ta) (c:Cls X.K C) (hm:Meth X.K C m f) (F:FnOk X.prog X.w X.K X.mg X.base CX k f fd ps sp cm) (hr:Room k X.A cm) (hb:Binds X.K fd ps ds) (hd:Vals dvs ds) (hx:Passes CX X E) (ha:PA X (e::es) t)
  (hst:starEach (e::es) X.env=(false,eval e X.env)::starEach es X.env:=by rfl) (hpl:(backTo pos (starEach es X.env)).any (·.1)=false:=by rfl)
  (ht:eval (.Call (.Attribute o m apos) (e::es) [] pos) X.env=(do
   let ov ← eval o X.env
   standAt apos.atName
   let (f,first) ← holding [ov] (getMethod ov m pl)
   callWith pos f first (backTo pos (starEach (e::es) X.env)) (backToKw pos (keywordEach [] X.env))):=by rfl) :
  PE X (.Call (.Attribute o m apos) (e::es) [] pos) (tMeth C m sp dvs E ta t):=by
 intro pins s σ H Q I h
 refine PySem.W.methodCall_KW (pl:=pl) (thn (he pins s σ H _ I h) fun u s1 ⟨x,H1,I1,rx,a,dx,fs,ex,ea,l,q⟩=>?_) ht
 subst ex
 obtain rfl:u=Value.ref a:=rx
 refine getmeth_ok I1 ea c hm l ?_
 refine PySem.W.callWith_K (first:=[.ref a]) (h₀:=X.base) I.ok.mod.kin hm.kp (thn (ha pos pins s1 σ H1 _ I1 q) fun us s2 ⟨vs,H2,I2,r,q2⟩=>⟨I2.kIn,?_⟩) hst hpl
 exact run_fn (us:=.ref a::us) (vs:=.ref a::vs) F hr hb hd hx I2 (.cons rfl r) q2
theorem pe_meth0 {pl:Sem Bool} (he:PE X o ta) (c:Cls X.K C) (hm:Meth X.K C m f) (F:FnOk X.prog X.w X.K X.mg X.base CX k f fd ps sp cm) (hr:Room k X.A cm) (hb:Binds X.K fd ps ds) (hd:Vals dvs ds) (hx:Passes CX X E)
  (ht:eval (.Call (.Attribute o m apos) [] [] pos) X.env=(do
   let ov ← eval o X.env
   standAt apos.atName
   let (f,first) ← holding [ov] (getMethod ov m pl)
   callWith pos f first (backTo pos (starEach [] X.env)) (backToKw pos (keywordEach [] X.env))):=by rfl) :
  PE X (.Call (.Attribute o m apos) [] [] pos) (tMeth C m sp dvs E ta tNil):=by
 intro pins s σ H Q I h
 refine PySem.W.methodCall_KW (pl:=pl) (thn (he pins s σ H _ I h) fun u s1 ⟨x,H1,I1,rx,a,dx,fs,ex,ea,l,q⟩=>?_) ht
 subst ex
 obtain rfl:u=Value.ref a:=rx
 refine getmeth_ok I1 ea c hm l ?_
 exact PySem.W.callWith_K0 (first:=[.ref a]) I1.kIn hm.kp (run_fn (us:=[.ref a]) (vs:=[.ref a]) F hr hb hd hx I1 (.cons rfl .nil) q)
structure Mk (K:PySem.W.Frag) (C f:Addr):Prop where
 makes:PySem.W.makesIn K C=true
 init:PySem.W.findIn K (.ref C) "__init__"=some (some (.ref f))
 fn:PySem.W.isFn K (.ref f)=true
 kp:PySem.W.keepIn K (.ref C)=true
theorem run_make {pins:List (Addr×Obj)}{σ:St}{H:Hp}{s:Shared}{Q:VK}{us:List Value}{vs:List V} (M:Mk X.K C f) (F:FnOk X.prog X.w X.K X.mg X.base CX k f fd ps sp cm) (hr:Room (k + 1) X.A cm) (hb:Binds X.K fd ps ds) (hd:Vals dvs ds)
  (hx:Passes CX X E) (I:Inv X pins σ H s) (r:Vals vs us)
  (h:∀ x dx,H x=none→H dx=none→dx≠x→sp (.ref x::(vs++dvs)) (upd (upd H dx (.own x)) x (.ins C dx [])) (fun v H2=>v=.non∧Q (.ref x) H2) E) :
  wpAny (model X.prog X.w) X.A (call (.ref C) us) (EP X pins σ Q) X.xe s:=by
 have hq:=h (s.heap.objs.size + 1) s.heap.objs.size (I.hok.fresh (Nat.le_succ _)) (I.hok.fresh (Nat.le_refl _)) (Nat.ne_of_lt (Nat.lt_succ_self _))
 have I2:=Inv.made (C:=C) I
 have r2:Vals (V.ref (s.heap.objs.size + 1)::(vs++dvs)) (Value.ref (s.heap.objs.size + 1)::(us++ds)):=.cons rfl (r.append hd)
 have hl:(Value.ref (s.heap.objs.size + 1)::us++ds).length=ps.length:=by
  have e:=r2.length
  rw [F.len _ _ _ _ hq] at e
  exact e.symm
 refine wpAny_call (make_map (f:=f) I.kIn M.makes M.init (beq_iff_eq.mp M.fn) (codeAny_mono (F.run _ X.stack _ _ ⟨Value.ref (s.heap.objs.size + 1)::us,[]⟩ (Value.ref (s.heap.objs.size + 1)::(us++ds)) _ _ E (hr.make C us [])
  (I2.env0.make C us []) (hb _ (Value.ref (s.heap.objs.size + 1)::us) I2.kIn hl) r2 hq) fun r s' hq'=>?_))
 cases r with
 | error e=>exact hx pins σ _ _ e s' I2 hq'
 | ok fl=>
  cases fl with
  | ret u=>
   obtain ⟨v,H',I3,rv,ev,q3⟩:=I2.after hq'
   subst ev
   exact ⟨rv,⟨V.ref (s.heap.objs.size + 1),H',I3,rfl,q3⟩⟩
  | next=>exact False.elim hq'
  | brk=>exact False.elim hq'
  | cont=>exact False.elim hq'
theorem pe_make0 (M:Mk X.K C f) (F:FnOk X.prog X.w X.K X.mg X.base CX k f fd ps sp cm) (hr:Room (k + 1) X.A cm) (hg:Gl X x) (hm:X.mg x=some (.ref C)) (hb:Binds X.K fd ps ds) (hd:Vals dvs ds) (hx:Passes CX X E)
  (hdb:(x == ("__debug__":Str))=false:=by decide):PE X (.Call (.Name x p) [] [] pos) (tMake C sp dvs E tNil):=by
 intro pins s σ H Q I h
 refine wpAny_Call_Name_kw (ld_glob I hg hm ?_ hdb)
 exact PySem.W.callWith_K0 I.kIn M.kp (run_make (us:=[]) M F hr hb hd hx I .nil h)
end
structure FnScope (N P:List Str) (sc:Scope):Prop where
 kind:sc.kind=.function
 co:sc.isCoroutine=false
 gen:sc.isGenerator=false
 nd:N.Nodup
 pre:N.take P.length=P
 par:∀ x∈P,sc.names.lookup x=some .local∨sc.names.lookup x=some .cell
 nofree:∀ y∈sc.names,y.2≠.free
theorem bindL_out {kindOf:Str→Option NameKind}{x:Str}:∀ {binds:List (Str×Value)}{m:Str→Option Value},(∀ v,(x,v)∉binds)→bindL kindOf binds m x=m x
 | [],_,_=>rfl
 | (n,v)::r,m,h=>by
  unfold bindL
  rw [bindL_out fun w hw=>h w (List.mem_cons_of_mem _ hw)]
  split
  ·have:x≠n:=by rintro rfl;exact h v List.mem_cons_self
   simp [this]
  ·rfl
theorem bindC_out {kindOf:Str→Option NameKind}{x:Str}:∀ {binds:List (Str×Value)}{m:Str→Option Value},(∀ v,(x,v)∉binds)→bindC kindOf binds m x=m x
 | [],_,_=>rfl
 | (n,v)::r,m,h=>by
  unfold bindC
  rw [bindC_out fun w hw=>h w (List.mem_cons_of_mem _ hw)]
  split
  ·rfl
  ·have:x≠n:=by rintro rfl;exact h v List.mem_cons_self
   simp [this]
theorem bindL_get {kindOf:Str→Option NameKind}{x:Str}{v:Value}:∀ {P:List Str}{vs:List Value}{i:Nat}{m:Str→Option Value},P.Nodup→P[i]? = some x→vs[i]? = some v→kindOf x=some .local →
  bindL kindOf (P.zip vs) m x=some v
 | [],_,_,_,_,h,_,_=>by simp at h
 | _::_,[],_,_,_,_,h,_=>by simp at h
 | p::P,w::vs,0,m,nd,h1,h2,hk=>by
  simp at h1 h2;subst h1;subst h2
  show bindL kindOf ((p,w)::P.zip vs) m p=_
  unfold bindL
  rw [bindL_out fun v hv=>(List.nodup_cons.mp nd).1 (List.of_mem_zip hv).1,if_pos hk]
  simp
 | p::P,w::vs,i + 1,m,nd,h1,h2,hk=>by
  show bindL kindOf ((p,w)::P.zip vs) m x=_
  unfold bindL
  exact bindL_get (i:=i) (List.nodup_cons.mp nd).2 (by simpa using h1) (by simpa using h2) hk
theorem bindC_get {kindOf:Str→Option NameKind}{x:Str}{v:Value}:∀ {P:List Str}{vs:List Value}{i:Nat}{m:Str→Option Value},P.Nodup→P[i]? = some x→vs[i]? = some v→kindOf x≠some .local →
  bindC kindOf (P.zip vs) m x=some v
 | [],_,_,_,_,h,_,_=>by simp at h
 | _::_,[],_,_,_,_,h,_=>by simp at h
 | p::P,w::vs,0,m,nd,h1,h2,hk=>by
  simp at h1 h2;subst h1;subst h2
  show bindC kindOf ((p,w)::P.zip vs) m p=_
  unfold bindC
  rw [bindC_out fun v hv=>(List.nodup_cons.mp nd).1 (List.of_mem_zip hv).1,if_neg hk]
  simp
 | p::P,w::vs,i + 1,m,nd,h1,h2,hk=>by
  show bindC kindOf ((p,w)::P.zip vs) m x=_
  unfold bindC
  exact bindC_get (i:=i) (List.nodup_cons.mp nd).2 (by simpa using h1) (by simpa using h2) hk
def start (N:List Str) (vs:List V):St:=vs.map some++List.replicate (N.length - vs.length) none
def cxOf (CX:CXT) (P:Program) (w:World) (K:PySem.W.Frag) (mg:Str→Option Value) (base:Heap) (N:List Str) (qual:Str) (scope:Scope) (f:Addr) (cd:Value) (A:Around) (outer:List Env) (s:Shared) (H:Hp) (E:XK) (cm:Bool:=true):Cx where
 prog:=P
 w:=w
 K:=K
 mg:=mg
 base:=base
 A:=A.deeper (envOfC qual scope s.heap.objs.size f cd)
 N:=N
 s₀:=s
 H₀:=H
 env:=envOfC qual scope s.heap.objs.size f cd
 outer:=outer
 stack:=envOfC qual scope s.heap.objs.size f cd::outer
 ex:=[]
 calm:=cm
 fn:=fun _=>true
 pn:=[]
 xe:=fun e s'=>wpAny (model P w) (A.deeper (envOfC qual scope s.heap.objs.size f cd)) (leaving (envOfC qual scope s.heap.objs.size f cd) e) (fun _ s''=>CX outer H s E e s'') (fun e' s''=>CX outer H s E e' s'') s'
theorem cell_has {sc:Scope}{n:Nat}{x:Str} (h:sc.names.lookup x=some .cell):∃ c,(cellsFrom n sc.names []).lookup x=some c:=by
 have q:=PySem.W.cellsFrom_some sc.names n [] (.inl h)
 exact Option.isSome_iff_exists.mp q
theorem inv_start {CX:CXT}{P:Program}{w:World}{K:PySem.W.Frag}{mg:Str→Option Value}{base:Heap}{N ps:List Str}{qual:Str}{scope:Scope}{f:Addr}{cd:Value}{A:Around}{outer:List Env}{s s1:Shared}{H:Hp}{E:XK}{cm:Bool}{us:List Value}{vs:List V}
  (S:FnScope N ps scope) (hd:cm=true→A.handled=none) (e0:Env0 P w K mg base A outer s H) (hl:vs.length=ps.length) (r:Vals vs us)
  (x:InCallC s s.heap.objs.size (bindL (envOfC qual scope s.heap.objs.size f cd).kindOf (ps.zip us) fun _=>none) (cellsFrom (s.heap.objs.size + 1) scope.names []) (bindC (envOfC qual scope s.heap.objs.size f cd).kindOf (ps.zip us) fun _=>none) s1) :
  Inv (cxOf CX P w K mg base N qual scope f cd A outer s H E cm) [] (start N vs) H s1:=by
 have hpl:ps.length≤N.length:=by have:=congrArg List.length S.pre;rw [List.length_take] at this;omega
 obtain ⟨h1,tk,rfl,hk⟩:=x.done
 have noA:∀ b:Addr,b∉(cxOf CX P w K mg base N qual scope f cd A outer s H E cm).ex:=fun b z=>absurd (show b∈([]:List Addr) from z) (by simp)
 refine ⟨⟨e0.mod,S.kind,rfl,rfl,Nat.le_refl _,fun y z c h1 h2=>?_,fun y hy=>?_,fun y c _ h=>?_,hd,Around.frames_deeper e0.frames,.inr ⟨rfl,rfl⟩,fun b z=>absurd z (noA b),e0.bs,e0.bsz,fun b _ _=>noA b,fun b z=>absurd z (noA b),e0.funs,e0.frf⟩,
  rfl,e0.bare,Un.kept hk,⟨_,x.toInCall.ns,fun i y v h1 h2 h3=>?_⟩,fun y c h=>⟨_,x.cell y c h⟩,e0.hok.fresh (Nat.le_refl _),fun y c h=>?_,fun p hp=>absurd (show p∈([]:List (Addr×Obj)) from hp) (by simp),e0.hok.kept hk,?_,e0.hq⟩
 ·exact name_of_addr x.apart (PySem.mem_of_lookup h1) (PySem.mem_of_lookup h2)
 ·have hy:scope.names.lookup y=some .cell∨scope.names.lookup y=some .free:=hy
  rcases hy with hy | hy
  ·exact cell_has hy
  ·exact absurd rfl (S.nofree _ (PySem.mem_of_lookup hy))
 ·exact Nat.le_of_lt (x.above y c (PySem.mem_of_lookup h))
 ·have hi:i < vs.length:=by
   unfold start at h2
   by_cases hi:i < vs.length
   ·exact hi
   ·rw [List.getElem?_append_right (by simpa using hi)] at h2
    rw [List.getElem?_replicate] at h2
    split at h2 <;> cases h2
  have ha:vs[i]? = some v:=by
   unfold start at h2
   rw [List.getElem?_append_left (by simpa using hi),List.getElem?_map] at h2
   cases e:vs[i]? with
   | none=>rw [e] at h2;cases h2
   | some a=>rw [e] at h2;cases h2;rfl
  obtain ⟨u,hu,rv⟩:=r.get ha
  have hp:ps[i]? = some y:=by
   rw [← S.pre,List.getElem?_take_of_lt (by omega)];exact h1
  have ndP:ps.Nodup:=by rw [← S.pre];exact S.nd.sublist (List.take_sublist _ _)
  refine ⟨u,rv,?_⟩
  rcases S.par y (List.mem_of_getElem? hp) with k | k
  ·exact .inl ⟨k,bindL_get ndP hp hu k⟩
  ·obtain ⟨c,e⟩:=cell_has (n:=s.heap.objs.size + 1) k
   refine .inr ⟨.inl k,c,e,?_⟩
   have q:=x.cell y c e
   rw [bindC_get ndP hp hu (by show scope.names.lookup y≠_;rw [k];decide)] at q
   exact q
 ·exact e0.hok.fresh (Nat.le_of_lt (x.above y c (PySem.mem_of_lookup h)))
 ·unfold start
  show _=N.length
  rw [List.length_append,List.length_map,List.length_replicate]
  omega
theorem fn_of {CX:CXT}{P:Program}{w:World}{K:PySem.W.Frag}{mg:Str→Option Value}{base:Heap}{k:Nat}{f:Addr}{name qual:Str}{params:Arguments}{body:List Stmt}{scope:Scope}{dV kV doc pm cdv ct oc:Value}{an od:Option Addr}
  {osl:Array (Option Value)}{N ps:List Str}{sp:Sp}{cm:Bool} (lk:K.lookup f=some ⟨oc,od,.func (PySem.W.fnOf name qual params body scope dV kV doc pm an cdv ct),osl⟩) (hcd:PySem.W.codeIn K cdv qual=true) (S:FnScope N ps scope)
  (len:∀ vs H Q E,sp vs H Q E→vs.length=ps.length)
  (hbody:∀ (A:Around) (outer:List Env) (s:Shared) (H:Hp) (vs:List V) (Q:VK) (E:XK),Room k (A.deeper (envOfC qual scope s.heap.objs.size f cdv)) cm→sp vs H Q E →
   ∃ t,PSs (cxOf CX P w K mg base N qual scope f cdv A outer s H E cm) body t∧t { nx:=fun _ H'=>Q .non H',rt:=Q } (start N vs) H) :
  FnOk P w K mg base CX (k + 1) f (PySem.W.fnOf name qual params body scope dV kV doc pm an cdv ct) ps sp cm:=by
 refine ⟨len,fun A outer s H args us vs Q E hr e0 hb r hsp=>?_⟩
 have hl:=len _ _ _ _ hsp
 have KX:K.In s.heap:=e0.mod.kin.keeps fun b o e=>(e0.bs b o e).1
 have lim:s.heap.NoLimit:=e0.mod.nolimit.keeps fun b o e=>(e0.bs b o e).1
 have hkind:∀ y∈ps.zip us,scope.names.lookup y.1=some .local∨(scope.names.lookup y.1=some .cell∧((cellsFrom (s.heap.objs.size + 1) scope.names []).lookup y.1).isSome=true):=fun ⟨n,v⟩ hy=>by
  rcases S.par n (List.of_mem_zip hy).1 with q | q
  ·exact .inl q
  ·exact .inr ⟨q,PySem.W.cellsFrom_some _ _ _ (.inl q)⟩
 refine codeAny_call_function hr.depth (KX _ _ lk) rfl S.co S.gen rfl (PySem.W.codeRec_of KX hcd) (hb _ _ _ _ ?_)
 refine wpAny_newFunctionEnv_cells S.kind hkind fun env he s1 x=>?_
 subst he
 refine ⟨lim.keeps x.toInCall.keep,codeAny_func ?_⟩
 obtain ⟨t,ht,hq⟩:=hbody A outer s H vs Q E (hr.deeper _) hsp
 have I:Inv (cxOf CX P w K mg base N qual scope f cdv A outer s H E cm) [] (start N vs) H s1:=inv_start S hr.hd e0 hl r x
 refine wpAny_mono (ht [] s1 (start N vs) H _ I hq) (fun fl s' hs=>?_) fun e s' hs=>hs
 have fin:∀ {σ':St}{H':Hp}{v:V}{u:Value},Inv (cxOf CX P w K mg base N qual scope f cdv A outer s H E cm) [] σ' H' s'→RelV v u→Q v H'→CE outer P w H s Q u s':=
  fun {σ' H' v u} J rv q=>⟨v,H',J.os,J.bare,J.base,J.hok,rv,q⟩
 cases fl with
 | ret u=>
  obtain ⟨v,σ',H',J,rv,q⟩:=hs
  exact fin J rv q
 | next=>
  obtain ⟨σ',H',J,q⟩:=hs
  exact fin (v:=V.non) (u:=Value.none) J rfl q
 | brk=>
  obtain ⟨_,_,_,q⟩:=hs
  exact False.elim q
 | cont=>
  obtain ⟨_,_,_,q⟩:=hs
  exact False.elim q
section
variable {X:Cx}{x:Str}{p pos:Pos}{e:Expr}{es:List Expr}{t:TA}{id T:String}{r:List V→Hp→VK→Prop}
def tCB (r:List V→Hp→VK→Prop) (t:TA):TE:=fun σ H Q=>t σ H fun vs H1=>r vs H1 Q
theorem pe_callB (hc:CallR X (.builtin id) r) (hg:Gl X x) (hm:X.mg x=none) (hv:bootBuiltins x=some (.builtin id)) (ha:PA X (e::es) t) (hn:x≠"__name__":=by decide) (hdb:(x == ("__debug__":Str))=false:=by decide)
  (he:starEach (e::es) X.env=(false,eval e X.env)::starEach es X.env:=by rfl) (hpl:(backTo pos (starEach es X.env)).any (·.1)=false:=by rfl):PE X (.Call (.Name x p) (e::es) [] pos) (tCB r t):=by
 intro pins s σ H Q I h
 refine wpAny_Call_Name_kw (ld_blt I hg hm hv ?_ hn hdb)
 exact PyProof.Rows.callWith_builtin1 (thn (ha pos pins s σ H _ I h) fun us s1 ⟨vs,H1,I1,r1,q1⟩=>hc pins s1 σ H1 vs us Q I1 r1 q1) he hpl
theorem pe_callTy (hc:CallR X (.type T) r) (hg:Gl X x) (hm:X.mg x=none) (hv:bootBuiltins x=some (.type T)) (ha:PA X (e::es) t) (hn:x≠"__name__":=by decide) (hdb:(x == ("__debug__":Str))=false:=by decide)
  (he:starEach (e::es) X.env=(false,eval e X.env)::starEach es X.env:=by rfl) (hpl:(backTo pos (starEach es X.env)).any (·.1)=false:=by rfl):PE X (.Call (.Name x p) (e::es) [] pos) (tCB r t):=by
 intro pins s σ H Q I h
 refine wpAny_Call_Name_kw (ld_blt I hg hm hv ?_ hn hdb)
 exact PyProof.Rows.callWith_type1 (thn (ha pos pins s σ H _ I h) fun us s1 ⟨vs,H1,I1,r1,q1⟩=>hc pins s1 σ H1 vs us Q I1 r1 q1) he hpl
end
end L2
namespace HT
open PySem PyProof.Rows
section
variable {prog:Program}{w:World}{A:Around}{E:Value→Shared→Prop}{s:Shared}
def sIx (n d:Nat):Option Int→Nat
 | none=>d
 | some v=>if v < 0 then (v + (n:Int)).toNat else min v.toNat n
theorem sIx_none (n d:Nat):sIx n d none=d:=rfl
theorem sIx_nat (n d k:Nat):sIx n d (some (k:Int))=min k n:=by
 show (if (k:Int) < 0 then ((k:Int) + (n:Int)).toNat else min (k:Int).toNat n)=min k n
 rw [if_neg (by omega),Int.toNat_natCast]
theorem sIx_le (n d:Nat) (hd:d≤n) (o:Option Int):sIx n d o≤n:=by
 cases o with
 | none=>exact hd
 | some v=>
  show (if v < 0 then (v + (n:Int)).toNat else min v.toNat n)≤n
  by_cases hv:v < 0
  ·rw [if_pos hv];omega
  ·rw [if_neg hv];exact Nat.min_le_right _ _
theorem clip_eq (v:Int) (n d:Nat):(if v < 0 then max (v + (n:Int)) 0 else min v (n:Int))=((sIx n d (some v):Nat):Int):=by
 show (if v < 0 then max (v + (n:Int)) 0 else min v (n:Int))=(((if v < 0 then (v + (n:Int)).toNat else min v.toNat n):Nat):Int)
 by_cases hv:v < 0
 ·simp only [if_pos hv];omega
 ·simp only [if_neg hv];omega
theorem adjust_gen (lo hi:Option Int) (n:Nat):Builtin.Slice.sliceAdjust lo hi 1 (n:Int)=(((sIx n 0 lo:Nat):Int),((sIx n n hi:Nat):Int)):=by
 have h1:¬ ((1:Int) < 0):=by omega
 unfold Builtin.Slice.sliceAdjust
 simp only [h1,if_false]
 refine Prod.ext ?_ ?_
 ·cases lo with
  | none=>rfl
  | some v=>exact clip_eq v n 0
 ·cases hi with
  | none=>rfl
  | some v=>exact clip_eq v n n
theorem places_gen (i j:Nat):Builtin.Slice.slicePlaces (i:Int) (j:Int) 1=j - i:=by
 unfold Builtin.Slice.slicePlaces
 have h1:(1:Int) > 0:=by omega
 simp only [h1,if_true,Int.ediv_one]
 split <;> omega
theorem slicePart_ {v:Value}{o:Option Int}{Q:Option Int→Shared→Prop} (p:IsPart v o) (h:Q o s):wpAny (model prog w) A (Builtin.Slice.slicePartIndex v) Q E s:=by
 cases p with
 | none=>exact slicePart_none h
 | int i t=>exact slicePart_int h
theorem sliceApplied_gen {sl:Addr}{vl vu:Value}{lo hi:Option Int}{n:Nat}{Q:Int×Int×Nat→Shared→Prop} (hs:s.heap.IsSliceOf sl vl vu .none) (pl:IsPart vl lo) (pu:IsPart vu hi)
  (h:Q (((sIx n 0 lo:Nat):Int),1,sIx n n hi - sIx n 0 lo) s):wpAny (model prog w) A (Builtin.Slice.sliceApplied (.ref sl) (pure (n:Int))) Q E s:=by
 obtain ⟨os,hos,hcs,hds⟩:=id hs
 unfold Builtin.Slice.sliceApplied Builtin.Slice.sliceFields
 refine wpAny_bind (wpAny_bind (wpAny_field hos hds (x:=vl) rfl (wpAny_bind (wpAny_field hos hds (x:=vu) rfl (wpAny_bind (wpAny_field hos hds (x:=.none) rfl (wpAny_pure ?_)))))))
 refine wpAny_bind (slicePart_none ?_)
 show wpAny _ _ (if ((1:Int) == 0)=true then _ else _) _ _ s
 rw [if_neg (by decide)]
 refine wpAny_bind (slicePart_ pl (wpAny_bind (slicePart_ pu (wpAny_bind (wpAny_pure ?_)))))
 show wpAny _ _ (match Builtin.Slice.sliceAdjust lo hi 1 (n:Int) with | (lo,hi)=>pure (lo,(1:Int),Builtin.Slice.slicePlaces lo hi 1)) _ _ s
 rw [adjust_gen lo hi n]
 show wpAny _ _ (pure (((sIx n 0 lo:Nat):Int),(1:Int),Builtin.Slice.slicePlaces ((sIx n 0 lo:Nat):Int) ((sIx n n hi:Nat):Int) 1)) _ _ s
 rw [places_gen]
 exact wpAny_pure h
theorem pick_gen (xs:Array Value) (i k:Nat):((List.range k).filterMap fun (m:Nat)=>xs[((i:Int) + (m:Int) * 1).toNat]?).toArray=((xs.toList.drop i).take k).toArray:=by
 have e:(fun (m:Nat)=>xs[((i:Int) + (m:Int) * 1).toNat]?)=fun m=>xs[i + m]? :=by
  funext m
  have:((i:Int) + (m:Int) * 1).toNat=i + m:=by omega
  rw [this]
 rw [e]
 have:=pick_run xs i k
 rw [List.filterMap_map] at this
 have e2:((fun x=>xs[x]?) ∘ fun x=>i + x)=fun m=>xs[i + m]? :=rfl
 rw [e2] at this
 rw [this]
theorem getItem_tuple_cut {t sl:Addr}{items:Array Value}{vl vu:Value}{lo hi:Option Int}{Q:Value→Shared→Prop} (ht:IsTup s.heap t items) (hs:s.heap.IsSliceOf sl vl vu .none) (pl:IsPart vl lo) (pu:IsPart vu hi)
  (hw:¬ (sIx items.size 0 lo=0∧sIx items.size items.size hi=items.size))
  (h:Q (.ref s.heap.objs.size) { s with heap:=s.heap.push { cls:=.type "tuple",data:=.seq ((items.toList.drop (sIx items.size 0 lo)).take (sIx items.size items.size hi - sIx items.size 0 lo)).toArray } })
  (hsz:items.size≤sizeLine):wpAny (model prog w) A (getItem (.ref t) (.ref sl)) Q E s:=by
 have htake:sizeOk (.seq ((items.toList.drop (sIx items.size 0 lo)).take (sIx items.size items.size hi - sIx items.size 0 lo)).toArray):=by
  show ((items.toList.drop (sIx items.size 0 lo)).take (sIx items.size items.size hi - sIx items.size 0 lo)).toArray.size≤sizeLine
  rw [List.size_toArray,List.length_take,List.length_drop,Array.length_toList]
  omega
 have hj:sIx items.size items.size hi≤items.size:=sIx_le _ _ (Nat.le_refl _) hi
 obtain ⟨os,hos,hcs,hds⟩:=id hs
 have hTs:s.TypeIs (.ref sl) "slice":=⟨os,hos,hcs⟩
 unfold getItem
 try with_reducible refine wpAny_holding ?_
 first | refine wpAny_bind (wpAny_pure ?_) | skip
 refine wpAny_bind (wpAny_sequenceKey ht.typeIs (by decide) ?_)
 refine wpAny_bind (wpAny_callSpecial?_slot (name:=Str.ofString "__getitem__") ht.typeIs PyProof.Rows.slot_tuple_getitem
  (wpAny_call_entry PyProof.Rows.slot_tuple_getitem ht.typeIs entry_tuple_getitem ?_ (args_tuple_getitem _ _)))
 show wpAny _ _ (Builtin.Tuple.tupleItemsOf (.ref t) >>= _) _ _ s
 refine wpAny_bind (tupleItemsOf_ ht ?_)
 refine wpAny_bind (wpAny_typeOf hTs ?_)
 rw [if_pos (by decide)]
 refine wpAny_bind (sliceApplied_gen hs pl pu ?_)
 have hno:¬ ((((sIx items.size 0 lo:Nat):Int) == 0&&(1:Int) == 1&&(sIx items.size items.size hi - sIx items.size 0 lo) == items.size)=true):=by
  intro q
  rw [Bool.and_eq_true,Bool.and_eq_true] at q
  have q1:((sIx items.size 0 lo:Nat):Int)=0:=eq_of_beq q.1.1
  have q2:sIx items.size items.size hi - sIx items.size 0 lo=items.size:=eq_of_beq q.2
  exact hw ⟨by omega,by omega⟩
 show wpAny _ _ (if (((sIx items.size 0 lo:Nat):Int) == 0&&(1:Int) == 1&&(sIx items.size items.size hi - sIx items.size 0 lo) == items.size)=true then _ else _) _ _ s
 rw [if_neg hno,pick_gen]
 first
  | exact wpAny_bind (m:=Builtin.Tuple.tupleExact _) (wpAny_newObj_type (wpAny_pure ⟨_,rfl,wpAny_pure h⟩) htake)
  | exact wpAny_bind (m:=Builtin.Tuple.tupleExact _) (wpAny_newObj_type (wpAny_bind (wpAny_pure (wpAny_pure ⟨_,rfl,wpAny_pure h⟩))) htake)
  | exact wpAny_bind (wpAny_bind (m:=Builtin.Tuple.tupleExact _) (wpAny_newObj_type (wpAny_pure (wpAny_pure ⟨_,rfl,wpAny_pure h⟩)) htake))
  | exact wpAny_bind (wpAny_bind (m:=Builtin.Tuple.tupleExact _) (wpAny_newObj_type (wpAny_pure ⟨_,rfl,wpAny_pure h⟩) htake))
end
end HT
namespace L2
open PySem PySem.Spec PyProof.Rows
abbrev TO:=St→Hp→(Option Int→Hp→Prop)→Prop
def PO (X:Cx) (e:Option Expr) (t:TO):Prop:=
 ∀ (pins:List (Addr×Obj)) (s:Shared) (σ:St) (H:Hp) (Q:Option Int→Hp→Prop),Inv X pins σ H s→t σ H Q →
  wpAny (model X.prog X.w) X.A (evalPart e X.env) (fun u s'=>∃ o H',Inv X pins σ H' s'∧IsPart u o∧Q o H') X.xe s
def tNoPart:TO:=fun _ H Q=>Q none H
def tPart (t:TE):TO:=fun σ H Q=>t σ H fun x H1=>∃ i,x=.int i∧Q (some i) H1
theorem intsAre_of {ns:List Int}:∀ {us:List Value},Vals (ns.map V.int) us→IntsAre us ns:=by
 induction ns with
 | nil=>intro us r;rw [List.map_nil] at r;cases r;exact .nil
 | cons n ns ih=>
  intro us r
  rw [List.map_cons] at r
  cases r with
  | cons r1 r2=>
   obtain ⟨t,e⟩:=r1
   subst e
   exact .cons n t (ih r2)
section
variable {X:Cx}{e:Expr}{te:TE}{lo hi:Option Expr}{tl th:TO}{pos p2:Pos}
theorem po_none:PO X none tNoPart:=by
 intro pins s σ H Q I h
 rw [evalPart_none]
 exact wpAny_pure ⟨none,H,I,.none,h⟩
theorem po_some (h:PE X e te):PO X (some e) (tPart te):=by
 intro pins s σ H Q I hw
 rw [evalPart_some]
 refine thn (h pins s σ H _ I hw) fun u s1 ⟨x,H1,I1,r1,q1⟩=>?_
 obtain ⟨i,rfl,q⟩:=q1
 obtain ⟨t,rfl⟩:=r1
 exact ⟨some i,H1,I1,.int i t,q⟩
def SlR (X:Cx) (r:V→Option Int→Option Int→Hp→VK→Prop):Prop:=
 ∀ (pins:List (Addr×Obj)) (s:Shared) (σ:St) (H:Hp) (x:V) (v vl vu:Value) (lo hi:Option Int) (sl:Addr) (Q:VK),Inv X pins σ H s→RelV x v→s.heap.IsSliceOf sl vl vu .none→IsPart vl lo→IsPart vu hi→r x lo hi H Q →
  ∃ T id,typeLookup (.type T) "__getitem__"=pure (some (.builtin id))∧s.TypeIs v T∧wpAny (model X.prog X.w) X.A (getItem v (.ref sl)) (EP X pins σ Q) X.xe s
theorem SlR.or {r r':V→Option Int→Option Int→Hp→VK→Prop} (h:SlR X r) (h':SlR X r'):SlR X (fun x lo hi H Q=>r x lo hi H Q∨r' x lo hi H Q):=by
 intro pins s σ H x v vl vu lo hi sl Q I rx hs pl pu q
 rcases q with q | q
 ·exact h pins s σ H x v vl vu lo hi sl Q I rx hs pl pu q
 ·exact h' pins s σ H x v vl vu lo hi sl Q I rx hs pl pu q
def tSl (r:V→Option Int→Option Int→Hp→VK→Prop) (te:TE) (tl th:TO):TE:=fun σ H Q=>te σ H fun x H1=>tl σ H1 fun l H2=>th σ H2 fun u H3=>r x l u H3 Q
theorem pe_slice {r:V→Option Int→Option Int→Hp→VK→Prop} (hr:SlR X r) (he:PE X e te) (hl:PO X lo tl) (hu:PO X hi th):PE X (.Subscript e (.Slice lo hi none p2) pos) (tSl r te tl th):=by
 intro pins s σ H Q I h
 refine Subscript_ (thn (he pins s σ H _ I h) fun v s1 ⟨x,H1,I1,r1,q1⟩=>?_)
 refine wpAny_Slice (thn (hl pins s1 σ H1 _ I1 q1) fun vl s2 ⟨l,H2,I2,pl,q2⟩=>thn (hu pins s2 σ H2 _ I2 q2) fun vu s3 ⟨u,H3,I3,pu,q3⟩=>?_)
 rw [evalPart_none]
 refine wpAny_pure ?_
 have I4:Inv X pins σ H3 { s3 with heap:=s3.heap.push { cls:=.type "slice",data:=.fields #[vl,vu,.none] } }:=I3.kept (t':=s3.toks) fun b ob q=>Heap.get?_push_of_some _ q
 obtain ⟨T,id,hT,ht,hg⟩:=hr pins { s3 with heap:=s3.heap.push { cls:=.type "slice",data:=.fields #[vl,vu,.none] } } σ H3 x v vl vu l u s3.heap.objs.size Q I4 r1 (Heap.IsSliceOf.new ..) pl pu q3
 show wpAny (model X.prog X.w) X.A (subscriptTail e (.Slice lo hi none p2) v (.ref s3.heap.objs.size)) (EP X pins σ Q) X.xe { s3 with heap:=s3.heap.push { cls:=.type "slice",data:=.fields #[vl,vu,.none] } }
 exact tail_any (ops:=[.ref s3.heap.objs.size,v]) ht hT hg (by with_unfolding_all rfl)
def cutV (xs:List V) (lo hi:Option Int):List V:=(xs.drop (HT.sIx xs.length 0 lo)).take (HT.sIx xs.length xs.length hi - HT.sIx xs.length 0 lo)
theorem cutV_length (xs:List V) (lo hi:Option Int):(cutV xs lo hi).length≤xs.length:=by
 unfold cutV
 rw [List.length_take,List.length_drop]
 omega
def rSlT (K:PySem.W.Frag):V→Option Int→Option Int→Hp→VK→Prop:=fun x lo hi H Q=>∃ a xs,x=.ref a∧SqT K H a xs ∧
 ¬ (HT.sIx xs.length 0 lo=0∧HT.sIx xs.length xs.length hi=xs.length)∧∀ p,H p=none→Q (.ref p) (upd H p (.tup (cutV xs lo hi)))
theorem sl_tup:SlR X (rSlT X.K):=by
 intro pins s σ H x v vl vu lo hi sl Q I rx hs pl pu h
 obtain ⟨a,xs,rfl,hx,hw,q⟩:=h
 cases rx
 obtain ⟨its,r,ht,hz⟩:=I.tuple hx
 have hlen:its.toArray.size=xs.length:=by rw [List.size_toArray];exact r.length.symm
 refine ⟨"tuple",_,PyProof.Rows.slot_tuple_getitem.lookup,ht.typeIs,?_⟩
 refine HT.getItem_tuple_cut ht hs pl pu (by rw [hlen];exact hw) ?_ (by rw [hlen];exact hz)
 rw [hlen]
 refine ⟨.ref s.heap.objs.size,_,I.laid (t':=s.toks) (o:=.tup (cutV xs lo hi)) (fun b ob q=>Heap.get?_push_of_some _ q) (Nat.le_refl _) ?_,rfl,q _ (I.hok.fresh (Nat.le_refl _))⟩
 exact ⟨Nat.le_trans (cutV_length xs lo hi) hz,_,(r.drop (HT.sIx xs.length 0 lo)).take (HT.sIx xs.length xs.length hi - HT.sIx xs.length 0 lo),PlainT.new _ _⟩
end
def ixN (n:Nat) (i:Int):Option Nat:=if 0≤i then (if i < n then some i.toNat else none) else if -(n:Int)≤i then some (i + n).toNat else none
def atI {α:Type} (xs:List α) (i:Int):Option α:=(ixN xs.length i).bind fun j=>xs[j]?
theorem ixN_seq {n:Nat}{i:Int}{j:Nat} (h:ixN n i=some j):seqIndex? i n=some j∧j < n∧-(n:Int)≤i∧i < n:=by
 unfold ixN at h
 by_cases h0:0≤i
 ·rw [if_pos h0] at h
  by_cases h1:i < n
  ·rw [if_pos h1] at h
   have e:i.toNat=j:=Option.some.inj h
   exact ⟨by rw [seqIndex_of h0 h1,e],by omega,by omega,h1⟩
  ·rw [if_neg h1] at h;cases h
 ·rw [if_neg h0] at h
  by_cases h1:-(n:Int)≤i
  ·rw [if_pos h1] at h
   have e:(i + n).toNat=j:=Option.some.inj h
   exact ⟨by rw [seqIndex_neg (by omega) h1,e],by omega,h1,by omega⟩
  ·rw [if_neg h1] at h;cases h
theorem atI_get {α:Type}{xs:List α}{i:Int}{v:α} (h:atI xs i=some v):∃ j,seqIndex? i xs.length=some j∧xs[j]? = some v∧j < xs.length∧-(xs.length:Int)≤i∧i < xs.length:=by
 unfold atI at h
 cases e:ixN xs.length i with
 | none=>rw [e] at h;cases h
 | some j=>
  rw [e] at h
  obtain ⟨h1,h2,h3,h4⟩:=ixN_seq e
  exact ⟨j,h1,h,h2,h3,h4⟩
theorem atI_nat {α:Type}{xs:List α}{j:Nat}{v:α} (h:xs[j]? = some v):atI xs (j:Int)=some v:=by
 have hj:j < xs.length:=(List.getElem?_eq_some_iff.mp h).1
 have e:ixN xs.length (j:Int)=some j:=by
  unfold ixN
  rw [if_pos (by omega),if_pos (by omega)];simp
 unfold atI;rw [e];exact h
def PlainIx (b:Expr):Prop:=∀ o i,subscripted b false o i=operate [o,i] (getItem o i)
def IxR (X:Cx) (r:R2):Prop:=
 ∀ (value slice:Expr) (pins:List (Addr×Obj)) (s:Shared) (σ:St) (H:Hp) (x y:V) (v u:Value) (Q:VK),Inv X pins σ H s→RelV x v→RelV y u→r x y H Q →
  subscripted slice false v u=operate [v,u] (getItem v u)→wpAny (model X.prog X.w) X.A (subscriptTail value slice v u) (EP X pins σ Q) X.xe s
def MtR (X:Cx) (id:String) (r:V→List V→Hp→VK→Prop):Prop:=
 ∀ (pins:List (Addr×Obj)) (s:Shared) (σ:St) (H:Hp) (x:V) (xs:List V) (v:Value) (us:List Value) (Q:VK),Inv X pins σ H s→RelV x v→Vals xs us→r x xs H Q →
  wpAny (model X.prog X.w) X.A (call (.builtin id) (v::us)) (EP X pins σ Q) X.xe s
section
variable {X:Cx}{a b:Expr}{ta tb:TE}{pos:Pos}
theorem IxR.or {r r':R2} (h:IxR X r) (h':IxR X r'):IxR X (fun x y H Q=>r x y H Q∨r' x y H Q):=by
 intro value slice pins s σ H x y v u Q I rx ry q hs
 rcases q with q | q
 ·exact h value slice pins s σ H x y v u Q I rx ry q hs
 ·exact h' value slice pins s σ H x y v u Q I rx ry q hs
theorem pe_ix {r:R2} (hr:IxR X r) (ha:PE X a ta) (hb:PE X b tb) (hs:PlainIx b):PE X (.Subscript a b pos) (tOp r ta tb):=by
 intro pins s σ H Q I h
 exact Subscript_ (binT ha hb I h fun v u s2 x y H2 I2 rx ry q=>hr a b pins s2 σ H2 x y v u Q I2 rx ry q (hs _ _))
def rIxL (K:PySem.W.Frag):R2:=fun x y H Q=>∃ p xs i v,x=.ref p∧y=.int i∧SqL K H p xs∧atI xs i=some v∧Q v H
def rIxT (K:PySem.W.Frag):R2:=fun x y H Q=>∃ p xs i v,x=.ref p∧y=.int i∧SqT K H p xs∧atI xs i=some v∧Q v H
def rIxS:R2:=fun x y H Q=>∃ z i c,x=.str z∧y=.int i∧z.length≤sizeLine∧atI z.cps.toList i=some c∧Q (.str ⟨#[c]⟩) H
theorem ix_list:IxR X (rIxL X.K):=by
 intro value slice pins s σ H x y v u Q I rx ry h hs
 obtain ⟨p,xs,i,z,rfl,rfl,hq,he,q⟩:=h
 cases rx
 obtain ⟨t,rfl⟩:=ry
 obtain ⟨its,r,pl,hz⟩:=I.list hq
 obtain ⟨j,h1,h2,h3,h4,h5⟩:=atI_get he
 obtain ⟨w,ew,rw'⟩:=r.get h2
 have hl:=r.length
 have hn:=line63
 have fin:EP X pins σ Q w s:=⟨z,H,I,rw',q⟩
 by_cases h0:0≤i
 ·have hj:i.toNat=j:=by
   rw [seqIndex_of h0 h5] at h1
   exact Option.some.inj h1
  exact item_listR pl.isList h0 (by omega) (by rw [hj];simpa using ew) fin hs
 ·have hj:(i + (its.toArray.size:Int)).toNat=j:=by
   rw [seqIndex_neg (by omega) h4] at h1
   rw [List.size_toArray,← hl]
   exact Option.some.inj h1
  exact subscriptTail_builtinR (x:=w) pl.isList.typeIs slot_list_getitem.lookup
   (wpAny_getItem_list_neg (Q:=fun r s'=>r=w∧EP X pins σ Q r s') pl.isList (by omega) (by rw [List.size_toArray] <;> omega) (by omega) (by rw [hj];simpa using ew) ⟨rfl,fin⟩) hs
theorem ix_tup:IxR X (rIxT X.K):=by
 intro value slice pins s σ H x y v u Q I rx ry h hs
 obtain ⟨p,xs,i,z,rfl,rfl,hq,he,q⟩:=h
 cases rx
 obtain ⟨t,rfl⟩:=ry
 obtain ⟨its,r,pl,hz⟩:=I.tuple hq
 obtain ⟨j,h1,h2,h3,h4,h5⟩:=atI_get he
 obtain ⟨w,ew,rw'⟩:=r.get h2
 have hl:=r.length
 have hn:=line63
 have fin:EP X pins σ Q w s:=⟨z,H,I,rw',q⟩
 exact subscriptTail_builtinR (x:=w) pl.typeIs slot_tuple_getitem.lookup
  (getItem_tuple (j:=j) (Q:=fun r s'=>r=w∧EP X pins σ Q r s') pl (by omega) (by omega) (by rw [List.size_toArray,← hl];exact h1) (by simpa using ew) ⟨rfl,fin⟩) hs
theorem ix_str:IxR X rIxS:=by
 intro value slice pins s σ H x y v u Q I rx ry h hs
 obtain ⟨z,i,c,rfl,rfl,hz,he,q⟩:=h
 obtain ⟨t,rfl⟩:=rx
 obtain ⟨t',rfl⟩:=ry
 obtain ⟨j,h1,h2,h3,h4,h5⟩:=atI_get he
 have hl:z.cps.toList.length=z.length:=by simp [Str.length]
 rw [hl] at h1 h4 h5
 have hn:=line63
 exact tail_any (typeIs_str s z t) slot_str_getitem.lookup (getItem_str (c:=c) (by
  have e1:decide (i < -(2 ^ 63:Int))=false:=decide_eq_false (by omega)
  have e2:decide (i ≥ 2 ^ 63)=false:=decide_eq_false (by omega)
  rw [e1,e2,Bool.or_false]) (by rw [h1];simpa using h2) ⟨.str ⟨#[c]⟩,H,I.tok _,⟨_,rfl⟩,q⟩) hs
def rIx (K:PySem.W.Frag):R2:=fun x y H Q=>rIxL K x y H Q∨rIxT K x y H Q∨rIxS x y H Q
theorem ix_seq:IxR X (rIx X.K):=ix_list.or (ix_tup.or ix_str)
theorem slice_bounds (lo hi:Option Int) (n:Nat):(sliceBounds lo hi none n).1=((HT.sIx n 0 lo:Nat):Int)∧(sliceBounds lo hi none n).2.1=((HT.sIx n n hi:Nat):Int)∧(sliceBounds lo hi none n).2.2=1:=by
 refine ⟨?_,?_,rfl⟩
 ·cases lo with
  | none=>simp [sliceBounds,HT.sIx]
  | some i=>
   simp only [sliceBounds,HT.sIx,Option.getD_none,show (1:Int) > 0 by decide,if_true]
   by_cases h:i < 0
   ·simp only [h,if_true] <;> omega
   ·simp only [h,if_false] <;> omega
 ·cases hi with
  | none=>simp [sliceBounds,HT.sIx]
  | some i=>
   simp only [sliceBounds,HT.sIx,Option.getD_none,show (1:Int) > 0 by decide,if_true]
   by_cases h:i < 0
   ·simp only [h,if_true] <;> omega
   ·simp only [h,if_false] <;> omega
theorem slicePick_cut (its:List Value) (lo hi:Option Int):slicePick its.toArray lo hi none=((its.drop (HT.sIx its.length 0 lo)).take (HT.sIx its.length its.length hi - HT.sIx its.length 0 lo)).toArray:=by
 obtain ⟨h1,h2,h3⟩:=slice_bounds lo hi its.toArray.size
 unfold slicePick
 rw [h1,h2,h3]
 simp only [sliceRange_one,pick_run,List.size_toArray] <;> rfl
def rSlL (K:PySem.W.Frag):V→Option Int→Option Int→Hp→VK→Prop:=fun x lo hi H Q=>∃ a xs,x=.ref a∧SqL K H a xs∧∀ p,H p=none→Q (.ref p) (upd H p (.lst (cutV xs lo hi)))
theorem sl_list:SlR X (rSlL X.K):=by
 intro pins s σ H x v vl vu lo hi sl Q I rx hs pl pu h
 obtain ⟨a,xs,rfl,hx,q⟩:=h
 cases rx
 obtain ⟨its,r,ht,hz⟩:=I.list hx
 have hlen:=r.length
 refine ⟨"list",_,slot_list_getitem.lookup,ht.isList.typeIs,?_⟩
 refine wpAny_getItem_list_slice ht.isList hs pl pu .none (by simp) ?_ (by rw [List.size_toArray] <;> omega)
 rw [slicePick_cut,← hlen]
 refine ⟨.ref s.heap.objs.size,_,I.laid (t':=s.toks) (o:=.lst (cutV xs lo hi)) (fun b ob q=>Heap.get?_push_of_some _ q) (Nat.le_refl _) ?_,rfl,q _ (I.hok.fresh (Nat.le_refl _))⟩
 exact ⟨Nat.le_trans (cutV_length xs lo hi) hz,_,0,(r.drop (HT.sIx xs.length 0 lo)).take (HT.sIx xs.length xs.length hi - HT.sIx xs.length 0 lo),Heap.get?_push_size _ rfl⟩
theorem call_len_seq:CallR X (.builtin "len") (fun xs H Q=>∃ p ys,xs=[.ref p]∧(SqL X.K H p ys∨SqT X.K H p ys)∧Q (.int ys.length) H):=by
 intro pins s σ H xs us Q I r h
 obtain ⟨p,ys,rfl,hq,q⟩:=h
 obtain ⟨u,rfl,rx⟩:=vals1 r
 cases rx
 have hn:=line63
 rcases hq with hq | hq
 ·obtain ⟨its,r',pl,hz⟩:=I.list hq
  have hlen:=r'.length
  exact Calls.call_len_list pl.isList (by simp only [List.size_toArray] <;> omega) ⟨.int ys.length,H,I.tok _,⟨s.toks + 1,by rw [List.size_toArray,hlen]⟩,q⟩
 ·obtain ⟨its,r',pl,hz⟩:=I.tuple hq
  have hlen:=r'.length
  exact len_tuple pl (by simp only [List.size_toArray] <;> omega) ⟨.int ys.length,H,I.tok _,⟨s.toks + 1,by rw [List.size_toArray,hlen]⟩,q⟩
theorem call_list_of:CallR X (.type "list") (fun xs H Q=>∃ p ys,xs=[.ref p]∧(SqL X.K H p ys∨SqT X.K H p ys)∧∀ l,H l=none→Q (.ref l) (upd H l (.lst ys))):=by
 intro pins s σ H xs us Q I r h
 obtain ⟨p,ys,rfl,hq,q⟩:=h
 obtain ⟨u,rfl,rx⟩:=vals1 r
 cases rx
 have fin:∀ (its:List Value),Vals ys its→ys.length≤sizeLine→∀ (h':Heap) (c':Nat),(∀ b o',s.heap.get? b=some o'→h'.get? b=some o') →
   h'.get? s.heap.objs.size=some { cls:=.type "list",dict:=none,data:=.seq its.toArray c',slots:=#[] }→EP X pins σ Q (.ref s.heap.objs.size) { s with heap:=h' }:=fun its r' hz h' c' kp e=>
  ⟨.ref s.heap.objs.size,_,I.laid (t':=s.toks) kp (Nat.le_refl _) (show ObjOk X.prog X.w _ h' _ (.lst ys) from ⟨hz,its,c',r',e⟩),rfl,q _ (I.hok.fresh (Nat.le_refl _))⟩
 rcases hq with hq | hq
 ·obtain ⟨its,r',pl,hz⟩:=I.list hq
  have hlen:=r'.length
  obtain ⟨o,ho,hc,n,hd⟩:=pl.isList
  exact call_list_seq p (.inl rfl) ho hc hd (fun h' c' kp e=>fin its r' hz h' c' kp e) (by simp only [List.size_toArray] <;> omega)
 ·obtain ⟨its,r',pl,hz⟩:=I.tuple hq
  have hlen:=r'.length
  obtain ⟨o,ho,hc,n,hd⟩:=pl
  exact call_list_seq p (.inr rfl) ho hc hd (fun h' c' kp e=>fin its r' hz h' c' kp e) (by simp only [List.size_toArray] <;> omega)
theorem call_tuple_of:CallR X (.type "tuple") (fun xs H Q=>∃ p ys,xs=[.ref p]∧((SqL X.K H p ys∧∀ l,H l=none→Q (.ref l) (upd H l (.tup ys)))∨(SqT X.K H p ys∧Q (.ref p) H))):=by
 intro pins s σ H xs us Q I r h
 obtain ⟨p,ys,rfl,h⟩:=h
 obtain ⟨u,rfl,rx⟩:=vals1 r
 cases rx
 rcases h with ⟨hq,q⟩ | ⟨hq,q⟩
 ·obtain ⟨its,r',pl,hz⟩:=I.list hq
  have hlen:=r'.length
  refine call_tuple_list pl.isList (fun h' kp=>?_) (by simp only [List.size_toArray] <;> omega)
  have I1:Inv X pins σ H { s with heap:=h' }:=I.kept (t':=s.toks) kp
  have I2:Inv X pins σ (upd H h'.objs.size (.tup ys)) { s with heap:=h'.push { cls:=.type "tuple",data:=.seq its.toArray } }:=
   I1.laid (t':=s.toks) (fun b o e=>Heap.get?_push_of_some _ e) (Nat.le_refl _) (show ObjOk X.prog X.w _ _ _ (.tup ys) from ⟨hz,its,r',PlainT.new _ _⟩)
  exact ⟨.ref h'.objs.size,_,I2,rfl,q _ (I1.hok.fresh (Nat.le_refl _))⟩
 ·obtain ⟨its,r',pl,hz⟩:=I.tuple hq
  exact call_tuple_same pl ⟨.ref p,H,I,rfl,q⟩
def tyV (K:PySem.W.Frag) (T:String) (x:V) (H:Hp):Prop:=match x with
 | .str _=>T="str"
 | .int _=>T="int"
 | .ref p=>(T="list"∧∃ xs,SqL K H p xs)∨(T="tuple"∧∃ o,K.lookup p=some o∧o.cls=.type "tuple"∧o.dict=none) ∨
   (T="dict"∧((∃ kvs,H p=some (.dK kvs))∨∃ kvs,H p=some (.dT kvs)))∨(T="set"∧∃ S n,H p=some (.set S n))
 | _=>False
theorem tyV_is {pins:List (Addr×Obj)}{σ:St}{H:Hp}{s:Shared}{T:String}{x:V}{v:Value} (I:Inv X pins σ H s) (r:RelV x v) (ty:tyV X.K T x H) :
  s.TypeIs v T∧∀ a,v=.ref a→∃ ob,s.heap.get? a=some ob∧ob.dict=none:=by
 cases x with
 | str z=>
  obtain ⟨t,rfl⟩:=r
  cases (show T="str" from ty)
  exact ⟨typeIs_str s z t,fun _ e=>nomatch e⟩
 | int i=>
  obtain ⟨t,rfl⟩:=r
  cases (show T="int" from ty)
  exact ⟨typeIs_int s i t,fun _ e=>nomatch e⟩
 | ref p=>
  cases r
  rcases ty with ⟨rfl,xs,hq⟩ | ⟨rfl,o,hk,hc,hd⟩ | ⟨rfl,hk⟩ | ⟨rfl,S,n,hk⟩
  ·obtain ⟨its,_,pl,_⟩:=I.list hq
   refine ⟨pl.isList.typeIs,fun a e=>?_⟩
   cases e
   obtain ⟨o,n,e,c,hd,_⟩:=pl
   exact ⟨o,e,hd⟩
  ·refine ⟨⟨o,I.kIn p o hk,hc⟩,fun a e=>?_⟩
   cases e
   exact ⟨o,I.kIn _ o hk,hd⟩
  ·have z:∃ o,s.heap.get? p=some o∧o.ExactDict:=by
    rcases hk with ⟨kvs,hk⟩ | ⟨kvs,hk⟩
    ·obtain ⟨_,_,_,_,o,_,_,e,ex,_⟩:=I.hok p _ hk
     exact ⟨o,e,ex⟩
    ·obtain ⟨_,_,_,_,o,_,_,e,ex,_⟩:=I.hok p _ hk
     exact ⟨o,e,ex⟩
   obtain ⟨o,e,ex⟩:=z
   refine ⟨⟨o,e,ex.1⟩,fun a e2=>?_⟩
   cases e2
   exact ⟨o,e,ex.2.1⟩
  ·obtain ⟨o,_,_,_,e,ex,_⟩:=I.hok p _ hk
   refine ⟨⟨o,e,ex.1⟩,fun a e2=>?_⟩
   cases e2
   exact ⟨o,e,ex.2.1⟩
 | _=>exact False.elim ty
def tBM0 (K:PySem.W.Frag) (T:String) (r:V→List V→Hp→VK→Prop) (to:TE):TE:=fun σ H Q=>to σ H fun x H1=>tyV K T x H1∧r x [] H1 Q
def tBM (K:PySem.W.Frag) (T:String) (r:V→List V→Hp→VK→Prop) (to:TE) (t:TA):TE:=fun σ H Q=>to σ H fun x H1=>tyV K T x H1∧t σ H1 fun xs H2=>r x xs H2 Q
variable {o e:Expr}{es:List Expr}{to:TE}{t:TA}{name:Str}{apos cpos:Pos}{T id:String}{r:V→List V→Hp→VK→Prop}
theorem pe_bm0 (pa:PlainAttrs T) (slot:Slot T name id) (hty:typeOf (.builtin id)=pure (.type "method_descriptor")) (hm:MtR X id r) (ho:PE X o to)
  (hbase:attributeBase o name X.env (eval o X.env)=eval o X.env:=by rfl) (hline:(apos.endLine == cpos.line)=true:=by rfl):PE X (.Call (.Attribute o name apos) [] [] cpos) (tBM0 X.K T r to):=by
 intro pins s σ H Q I h
 refine wpAny_Call_method0_late hbase hline (thn (ho pins s σ H _ I h) fun v s1 ⟨x,H1,I1,r1,ty,q1⟩=>?_)
 obtain ⟨h1,h2⟩:=tyV_is I1 r1 ty
 exact ⟨T,id,pa,slot,hty,h1,h2,Calls.callWith_builtin rfl (PySem.evalArgs_none (hm pins s1 σ H1 x [] v [] Q I1 r1 .nil q1))⟩
theorem pe_bm (pa:PlainAttrs T) (slot:Slot T name id) (hty:typeOf (.builtin id)=pure (.type "method_descriptor")) (hm:MtR X id r) (ho:PE X o to) (ha:PA X (e::es) t)
  (hbase:attributeBase o name X.env (eval o X.env)=eval o X.env:=by rfl)
  (hfew:((backTo cpos (starEach (e::es) X.env)).all (fun x=>!x.1)&&(backToKw cpos (keywordEach [] X.env)).all (fun x=>x.1.isSome)
   && decide ((e::es).length + ([]:List Keyword).length + (if ([]:List Keyword).isEmpty then 0 else 1) < 30))=true:=by rfl)
  (hline:(apos.endLine == cpos.line)=true:=by rfl) (hs:starEach (e::es) X.env=(false,eval e X.env)::starEach es X.env:=by rfl) (hplain:(backTo cpos (starEach es X.env)).any (·.1)=false:=by rfl) :
  PE X (.Call (.Attribute o name apos) (e::es) [] cpos) (tBM X.K T r to t):=by
 intro pins s σ H Q I h
 refine wpAny_Call_method_late hbase hfew hline rfl (thn (ho pins s σ H _ I h) fun v s1 ⟨x,H1,I1,r1,ty,q1⟩=>?_)
 obtain ⟨h1,h2⟩:=tyV_is I1 r1 ty
 refine ⟨T,id,pa,slot,hty,h1,h2,?_⟩
 have hA:=ha cpos pins s1 σ H1 _ I1 q1
 rw [hs] at hA ⊢
 refine Calls.callWith_builtin (by show (false||(backTo cpos (starEach es X.env)).any (·.1))=false;rw [hplain] <;> rfl) (Calls.evalArgs_plain ?_)
 exact thn hA fun us s2 ⟨vs,H2,I2,r2,q2⟩=>hm pins s2 σ H2 x vs v us Q I2 r1 r2 q2
end
def MtM (X:Cx) (id:String) (r:V→List V→Hp→VK→Prop):Prop:=
 ∀ (pins:List (Addr×Obj)) (s:Shared) (σ:St) (H:Hp) (x:V) (xs:List V) (v:Value) (us:List Value) (Q:VK),Inv X pins σ H s→RelV x v→Vals xs us→r x xs H Q →
  wpAny (model X.prog X.w) X.A (call (.builtin id) (v::us)) (EP X pins σ Q) X.xe s
theorem Vals.one:∀ {x:V}{us:List Value},Vals [x] us→∃ u,us=[u]∧RelV x u
 | _,_,.cons r .nil=>⟨_,rfl,r⟩
theorem Vals.zero:∀ {us:List Value},Vals [] us→us=[]
 | _,.nil=>rfl
theorem Vals.dropLast {xs:List V}{us:List Value} (h:Vals xs us):Vals xs.dropLast us.dropLast:=by
 induction h with
 | nil=>exact .nil
 | cons r t ih=>
  cases t with
  | nil=>exact .nil
  | cons q t'=>exact .cons r ih
theorem Vals.reverse {xs:List V}{us:List Value} (h:Vals xs us):Vals xs.reverse us.reverse:=by
 induction h with
 | nil=>exact .nil
 | cons r t ih=>rw [List.reverse_cons,List.reverse_cons];exact Vals.append ih (.cons r .nil)
theorem erase_last {α:Type} (l:List α):l.eraseIdx (l.length - 1)=l.dropLast:=by
 induction l with
 | nil=>rfl
 | cons a r ih=>
  cases r with
  | nil=>rfl
  | cons b r=>
   have e:(a::b::r).length - 1=((b::r).length - 1) + 1:=by
    have h1:(a::b::r).length=r.length + 2:=rfl
    have h2:(b::r).length=r.length + 1:=rfl
    omega
   rw [e,List.eraseIdx_cons_succ,ih]
   all_goals rfl
section
variable {X:Cx}{pins:List (Addr×Obj)}{σ:St}{H:Hp}{s:Shared}{l b:Addr}{xs ys zs:List V}
theorem Inv.lset {its its':List Value}{n:Nat}{f:Array Value→Array Value}{t':Nat} (I:Inv X pins σ H s) (hH:H l=some (.lst xs))
  (e:s.heap.get? l=some { cls:=.type "list",data:=.seq its.toArray n }) (hf:f its.toArray=its'.toArray) (hv:Vals ys its') (hz:ys.length≤sizeLine) :
  Inv X pins σ (upd H l (.lst ys)) { s with heap:=s.heap.update l (Obj.mapSeq f),toks:=t' }:=by
 have q:=PySem.IsL.update e f
 rw [hf] at q
 refine I.write (x:=l) (e:=l) (by rw [hH];exact trivial) (.inl rfl) (fun b' u hb hu=>(Heap.get?_update_other s.heap (Obj.mapSeq f) (Ne.symm hb)).trans hu) ⟨_,q⟩ ?_
 exact ⟨hz,its',_,hv,q⟩
theorem Inv.lstM (I:Inv X pins σ H s) (hH:H l=some (.lst xs)):xs.length≤sizeLine∧∃ (its:List Value) (n:Nat),Vals xs its∧xs.length=its.length∧s.heap.get? l=some { cls:=.type "list",data:=.seq its.toArray n }:=by
 obtain ⟨z,its,n,r,e⟩:=I.hok l _ hH
 exact ⟨z,its,n,r,r.length,e⟩
end
section
variable {X:Cx}
def rAppend:V→List V→Hp→VK→Prop:=fun x vs H Q=>∃ l xs y,x=.ref l∧vs=[y]∧H l=some (.lst xs)∧xs.length < sizeLine∧Q .non (upd H l (.lst (xs++[y])))
theorem mt_append:MtM X "list.append" rAppend:=by
 intro pins s σ H x vs v us Q I rx rv h
 obtain ⟨l,xs,y,rfl,rfl,hH,hz,q⟩:=h
 cases rx
 obtain ⟨u,rfl,ru⟩:=rv.one
 obtain ⟨z,its,n,r,hl,e⟩:=I.lstM hH
 refine call_meets F.slot_list_append ⟨_,e,rfl⟩ F.entry_list_append (F.args_list_append_2 _ _) (PySem.list_append l its.toArray n u (by rw [List.size_toArray];omega)) ⟨e,?_⟩
 refine ⟨.non,_,I.lset (its':=its++[u]) hH e (by simp) (r.append (.cons ru .nil)) ?_,rfl,q⟩
 rw [List.length_append,List.length_singleton]
 omega
def rPop:V→List V→Hp→VK→Prop:=fun x vs H Q=>∃ l xs y,x=.ref l∧vs=[]∧H l=some (.lst xs)∧xs[xs.length - 1]? = some y∧Q y (upd H l (.lst xs.dropLast))
theorem mt_pop:MtM X "list.pop" rPop:=by
 intro pins s σ H x vs v us Q I rx rv h
 obtain ⟨l,xs,y,rfl,rfl,hH,hy,q⟩:=h
 cases rx
 have hus:=rv.zero
 subst hus
 obtain ⟨z,its,n,r,hl,e⟩:=I.lstM hH
 obtain ⟨u,hu,ru⟩:=r.get hy
 have hy':its.toArray[its.toArray.size - 1]? = some u:=by
  show its.toArray[its.length - 1]? = some u
  rw [← Array.getElem?_toList,← hl]
  exact hu
 refine call_meets F.slot_list_pop ⟨_,e,rfl⟩ F.entry_list_pop (F.args_list_pop_1 _) (MeetsSeq.list_pop_last l its.toArray n u hy' (by rw [List.size_toArray];omega)) ⟨e,?_⟩
 refine ⟨y,_,I.lset (its':=its.dropLast) hH e ?_ r.dropLast ?_,ru,q⟩
 ·show its.toArray.eraseIdxIfInBounds (its.toArray.size - 1)=its.dropLast.toArray
  rw [List.size_toArray,List.eraseIdxIfInBounds_toArray,erase_last]
 ·rw [List.length_dropLast]
  omega
def rReverse:V→List V→Hp→VK→Prop:=fun x vs H Q=>∃ l xs,x=.ref l∧vs=[]∧H l=some (.lst xs)∧Q .non (upd H l (.lst xs.reverse))
theorem mt_reverse:MtM X "list.reverse" rReverse:=by
 intro pins s σ H x vs v us Q I rx rv h
 obtain ⟨l,xs,rfl,rfl,hH,q⟩:=h
 cases rx
 have hus:=rv.zero
 subst hus
 obtain ⟨z,its,n,r,hl,e⟩:=I.lstM hH
 refine call_meets F.slot_list_reverse ⟨_,e,rfl⟩ F.entry_list_reverse (F.args_list_reverse_1 _) (AutoSeq1.list_reverse_list_0 l its.toArray n (by rw [List.size_toArray];omega)) ⟨e,?_⟩
 refine ⟨.non,_,I.lset (its':=its.reverse) hH e (by simp) r.reverse ?_,rfl,q⟩
 rw [List.length_reverse]
 omega
def rClear:V→List V→Hp→VK→Prop:=fun x vs H Q=>∃ l xs,x=.ref l∧vs=[]∧H l=some (.lst xs)∧Q .non (upd H l (.lst []))
theorem mt_clear:MtM X "list.clear" rClear:=by
 intro pins s σ H x vs v us Q I rx rv h
 obtain ⟨l,xs,rfl,rfl,hH,q⟩:=h
 cases rx
 have hus:=rv.zero
 subst hus
 obtain ⟨z,its,n,r,hl,e⟩:=I.lstM hH
 refine call_meets F.slot_list_clear ⟨_,e,rfl⟩ F.entry_list_clear (F.args_list_clear_1 _) (AutoSeq1.list_clear_list_0 l its.toArray n (by rw [List.size_toArray];omega)) ⟨e,?_⟩
 exact ⟨.non,_,I.lset (its':=[]) (ys:=[]) hH e rfl .nil (Nat.zero_le _),rfl,q⟩
end
section
variable {κ:Type} [DecidableEq κ]
def valV (kvs:List (κ×V)) (k:κ):Option V:=(kvs.find? fun kv=>decide (kv.1=k)).map (·.2)
def putK (kvs:List (κ×V)) (k:κ) (v:V):List (κ×V):=
 if (kvs.any fun kv=>decide (kv.1=k))=true then kvs.map (fun kv=>if kv.1=k then (kv.1,v) else kv) else kvs++[(k,v)]
theorem valV_pos {p:κ×V}{r:List (κ×V)}{k:κ} (e:p.1=k):valV (p::r) k=some p.2:=by simp [valV,List.find?_cons,e]
theorem valV_neg {p:κ×V}{r:List (κ×V)}{k:κ} (e:¬ p.1=k):valV (p::r) k=valV r k:=by simp [valV,List.find?_cons,e]
theorem valV_any (k:κ):∀ kvs:List (κ×V),(kvs.any fun kv=>decide (kv.1=k))=(valV kvs k).isSome
 | []=>rfl
 | p::r=>by
  rw [List.any_cons]
  by_cases e:p.1=k
  ·simp only [valV_pos e,decide_eq_true e,Bool.true_or,Option.isSome_some]
  ·rw [valV_neg e,decide_eq_false e,Bool.false_or];exact valV_any k r
theorem length_putK (kvs:List (κ×V)) (k:κ) (v:V):(putK kvs k v).length≤kvs.length + 1:=by
 unfold putK
 split
 ·rw [List.length_map];omega
 ·rw [List.length_append,List.length_cons,List.length_nil];omega
theorem RelO.isSome_eq {o:Option V}{u:Option Value} (r:RelO o u):o.isSome=u.isSome:=by
 cases o with
 | none=>cases u with
  | none=>rfl
  | some _=>exact (show False from r).elim
 | some _=>cases u with
  | none=>exact (show False from r).elim
  | some _=>rfl
theorem KV.val {kvs:List (κ×V)}{vs:List (κ×Value)} (r:KV kvs vs) (k:κ):RelO (valV kvs k) (valueAt vs k):=by
 unfold KV at r
 induction r with
 | nil=>exact True.intro
 | @cons p q ps qs h t ih=>
  obtain ⟨h1,h2⟩:=h
  by_cases e:p.1=k
  ·have e':q.1=k:=h1.symm.trans e
   have b:valueAt (q::qs) k=some q.2:=by simp [valueAt,List.find?_cons,e']
   rw [valV_pos e,b];exact h2
  ·have e':¬ q.1=k:=fun z=>e (h1.trans z)
   have b:valueAt (q::qs) k=valueAt qs k:=by simp [valueAt,List.find?_cons,e']
   rw [valV_neg e,b];exact ih
theorem KV.any {kvs:List (κ×V)}{vs:List (κ×Value)} (r:KV kvs vs) (k:κ):(kvs.any fun kv=>decide (kv.1=k))=vs.any fun kv=>decide (kv.1=k):=by
 unfold KV at r
 induction r with
 | nil=>rfl
 | cons h t ih=>rw [List.any_cons,List.any_cons,ih,h.1]
theorem KV.repl {kvs:List (κ×V)}{vs:List (κ×Value)} (r:KV kvs vs) (k:κ) {y:V}{u:Value} (ry:RelV y u) :
  KV (kvs.map fun kv=>if kv.1=k then (kv.1,y) else kv) (vs.map fun kv=>if kv.1=k then (kv.1,u) else kv):=by
 unfold KV at r ⊢
 induction r with
 | nil=>exact .nil
 | @cons p q ps qs h t ih=>
  rw [List.map_cons,List.map_cons]
  refine .cons ?_ ih
  obtain ⟨h1,h2⟩:=h
  by_cases e:p.1=k
  ·rw [if_pos e,if_pos (h1.symm.trans e)];exact ⟨h1,ry⟩
  ·rw [if_neg e,if_neg (fun z=>e (h1.trans z))];exact ⟨h1,h2⟩
theorem KV.put {kvs:List (κ×V)}{vs:List (κ×Value)} (r:KV kvs vs) (k:κ) {y:V}{u:Value} (ry:RelV y u):KV (putK kvs k y) (stored vs k u):=by
 unfold putK stored
 rw [r.any k]
 by_cases e:(vs.any fun kv=>decide (kv.1=k))=true
 ·rw [if_pos e,if_pos e];exact r.repl k ry
 ·rw [if_neg e,if_neg e];exact Paired.snoc r ⟨rfl,ry⟩
theorem KV.keys {kvs:List (κ×V)}{vs:List (κ×Value)} (r:KV kvs vs):kvs.map (·.1)=vs.map (·.1):=by
 unfold KV at r
 induction r with
 | nil=>rfl
 | cons h t ih=>rw [List.map_cons,List.map_cons,ih,h.1]
theorem KV.length {kvs:List (κ×V)}{vs:List (κ×Value)} (r:KV kvs vs):kvs.length=vs.length:=Paired.length r
end
theorem kV_is {P:Program}{w:World}{k:Key}{u:Value} (r:RelV (kV k) u):(mixKind P w).is k u=true:=by
 cases k with
 | inl i=>obtain ⟨t,e⟩:=(show ∃ t,u=Value.int i t from r);subst e;exact mixKind_int P w i t
 | inr x=>obtain ⟨t,e⟩:=(show ∃ t,u=Value.str x t from r);subst e;exact mixKind_str P w x t
theorem items_are {P:Program}{w:World}:∀ {ks:List Key}{us:List Value},Vals (ks.map kV) us→ItemsAre (mixKind P w) ks us
 | [],_,r=>by rw [List.map_nil] at r;cases r;exact .nil
 | k::ks,_,r=>by
  rw [List.map_cons] at r
  cases r with
  | cons h t=>exact .cons (kV_is h) (items_are t)
abbrev KT (H:Hp):List (List Key×V)→List (List Key×Addr×Value)→Prop:=Paired fun p q=>p.1=q.1∧H q.2.1=some (.tup (p.1.map kV))∧RelV p.2 q.2.2
theorem KT.val {H:Hp}{kvs:List (List Key×V)}{xs:List (List Key×Addr×Value)} (r:KT H kvs xs) (k:List Key):RelO (valV kvs k) ((atKey xs k).map (·.2)):=by
 induction r with
 | nil=>exact True.intro
 | @cons p q ps qs h t ih=>
  obtain ⟨h1,_,h2⟩:=h
  by_cases e:p.1=k
  ·have e':q.1=k:=h1.symm.trans e
   have b:atKey (q::qs) k=some q.2:=by simp [atKey,List.find?_cons,e']
   rw [valV_pos e,b];exact h2
  ·have e':¬ q.1=k:=fun z=>e (h1.trans z)
   have b:atKey (q::qs) k=atKey qs k:=by simp [atKey,List.find?_cons,e']
   rw [valV_neg e,b];exact ih
theorem KT.repl {H:Hp}{kvs:List (List Key×V)}{xs:List (List Key×Addr×Value)} (r:KT H kvs xs) (k:List Key) {y:V}{u:Value} (ry:RelV y u) :
  KT H (kvs.map fun kv=>if kv.1=k then (kv.1,y) else kv) (xs.map (putAt k u)):=by
 induction r with
 | nil=>exact .nil
 | @cons p q ps qs h t ih=>
  rw [List.map_cons,List.map_cons]
  refine .cons ?_ ih
  obtain ⟨h1,h2,h3⟩:=h
  unfold putAt
  by_cases e:p.1=k
  ·rw [if_pos e,if_pos (h1.symm.trans e)];exact ⟨h1,h2,ry⟩
  ·rw [if_neg e,if_neg (fun z=>e (h1.trans z))];exact ⟨h1,h2,h3⟩
theorem KT.put {H:Hp}{kvs:List (List Key×V)}{xs:List (List Key×Addr×Value)} (r:KT H kvs xs) (k:List Key) {b:Addr}{y:V}{u:Value} (hb:H b=some (.tup (k.map kV))) (ry:RelV y u) :
  KT H (putK kvs k y) (storedH xs k b u):=by
 have e:(kvs.any fun kv=>decide (kv.1=k))=(atKey xs k).isSome:=by
  rw [valV_any,(r.val k).isSome_eq,Option.isSome_map]
 unfold putK storedH
 rw [e]
 by_cases q:(atKey xs k).isSome=true
 ·rw [if_pos q,if_pos q];exact r.repl k ry
 ·rw [if_neg q,if_neg q];exact Paired.snoc r ⟨rfl,hb,ry⟩
theorem KT.keeps {H H':Hp}{kvs:List (List Key×V)}{xs:List (List Key×Addr×Value)} (r:KT H kvs xs) (ht:∀ b ys,H b=some (.tup ys)→H' b=some (.tup ys)):KT H' kvs xs:=
 Paired.mapP r fun _ _ z=>⟨z.1,ht _ _ z.2.1,z.2.2⟩
section
variable {P:Program}{w:World}{H:Hp}{h:Heap}{a:Addr}
theorem rd_of {u:HO} (ok:HOk P w H h) (e:Rd H a u):ObjOk P w H h a u:=e.ok ok
theorem dk_rd {kvs:List (Key×V)} (ok:HOk P w H h) (e:Rd H a (.dK kvs)):kvs.length≤sizeLine∧(a == sysModules)=false∧∃ vs,KV kvs vs∧h.DictOf (mixKind P w) a vs:=
 show ObjOk P w H h a (.dK kvs) from rd_of ok e
theorem dk_of {kvs:List (Key×V)} (ok:HOk P w H h) (e:H a=some (.dK kvs)):kvs.length≤sizeLine∧(a == sysModules)=false∧∃ vs,KV kvs vs∧h.DictOf (mixKind P w) a vs:=dk_rd ok (.inl e)
theorem key_of {ks:List Key} (ok:HOk P w H h) (e:H a=some (.tup (ks.map kV))):(tupleKind (mixKind P w)).is h ks a:=by
 obtain ⟨_,its,r,o,h1,h2,_,n,h3⟩:=(show ObjOk P w H h a (.tup (ks.map kV)) from ok a _ e)
 exact ⟨o,its.toArray,n,h1,h2,h3,by simpa using items_are r⟩
theorem dt_rd {kvs:List (List Key×V)} (ok:HOk P w H h) (e:Rd H a (.dT kvs)):kvs.length≤sizeLine∧(a == sysModules)=false ∧
  ∃ xs,KT H kvs xs∧h.DictOfH (tupleKind (mixKind P w)) a xs:=by
 obtain ⟨z,y,xs,r,o,es,ep,h1,h2,h3,h4,h5⟩:=(show ObjOk P w H h a (.dT kvs) from rd_of ok e)
 refine ⟨z,y,xs,r,o,es,ep,h1,h2,h3,h4,fun x hx=>?_,h5⟩
 have all:∀ {l:List (List Key×V)}{m:List (List Key×Addr×Value)},KT H l m→∀ x∈m,(tupleKind (mixKind P w)).is h x.1 x.2.1:=by
  intro l m q
  induction q with
  | nil=>intro x hx;exact nomatch hx
  | @cons p q ps qs hq t ih=>
   intro x hx
   rcases List.mem_cons.mp hx with e | hx
   ·subst e
    exact key_of ok (by rw [← hq.1];exact hq.2.1)
   ·exact ih x hx
 exact all r x hx
theorem dt_of {kvs:List (List Key×V)} (ok:HOk P w H h) (e:H a=some (.dT kvs)):kvs.length≤sizeLine∧(a == sysModules)=false ∧
  ∃ xs,KT H kvs xs∧h.DictOfH (tupleKind (mixKind P w)) a xs:=dt_rd ok (.inl e)
end
def DGet (H:Hp) (a:Addr) (y:V) (r:Option V):Prop:=
 (∃ kvs k,Rd H a (.dK kvs)∧y=kV k∧r=valV kvs k)∨∃ kvs k b,Rd H a (.dT kvs)∧y=.ref b∧H b=some (.tup (k.map kV))∧r=valV kvs k
def DPut (H:Hp) (a:Addr) (y v:V) (H':Hp):Prop:=
 (∃ kvs k,H a=some (.dK kvs)∧y=kV k∧kvs.length < sizeLine∧H'=upd H a (.dK (putK kvs k v))) ∨
 ∃ kvs k b,H a=some (.dT kvs)∧y=.ref b∧H b=some (.tup (k.map kV))∧kvs.length < sizeLine∧H'=upd H a (.dT (putK kvs k v))
theorem DGet.k {H:Hp}{a:Addr}{kvs:List (Key×V)}{k:Key} (e:H a=some (.dK kvs)):DGet H a (kV k) (valV kvs k):=.inl ⟨kvs,k,.inl e,rfl,rfl⟩
theorem DPut.k {H:Hp}{a:Addr}{kvs:List (Key×V)}{k:Key}{v:V} (e:H a=some (.dK kvs)) (hl:kvs.length < sizeLine):DPut H a (kV k) v (upd H a (.dK (putK kvs k v))):=.inl ⟨kvs,k,e,rfl,hl,rfl⟩
section
variable {X:Cx}{pins:List (Addr×Obj)}{σ:St}{H:Hp}{s:Shared}{a:Addr}{y v:V}{u r:Value}{o:Option V}{A:Around}{E:Value→Shared→Prop}
theorem Inv.big (I:Inv X pins σ H s):sysModules < s.heap.objs.size:=by
 have h:mainGlobals < s.heap.objs.size:=(I.mod.glob.keeps I.bk).lt
 exact Nat.lt_trans (by decide) h
theorem d_getItem {Q:Value→Shared→Prop} (hu:A.units + 1 < cLine) (I:Inv X pins σ H s) (g:DGet H a y (some v)) (ry:RelV y u) (h:∀ w' s',Inv X pins σ H s'→RelV v w'→Q w' s') :
  wpAny (model X.prog X.w) A (getItem (.ref a) u) Q E s:=by
 rcases g with ⟨kvs,k,e,ey,l⟩ | ⟨kvs,k,b,e,ey,eb,l⟩
 ·subst ey
  obtain ⟨z,hd,vs,rel,dd⟩:=dk_rd I.hok e
  obtain ⟨w',hw,rw'⟩:=RelO.some_of (v:=v) (o:=valueAt vs k) (by rw [l];exact rel.val k)
  exact wpAny_getItem_of (kV_is ry) dd.mapOf hw (h w' _ (I.tok _) rw')
 ·subst ey
  cases (show u=Value.ref b from ry)
  obtain ⟨z,hd,xs,rel,dd⟩:=dt_rd I.hok e
  obtain ⟨w',hw,rw'⟩:=RelO.some_of (v:=v) (o:=(atKey xs k).map (·.2)) (by rw [l];exact rel.val k)
  obtain ⟨p,hp,hp2⟩:=Option.map_eq_some_iff.mp hw
  refine wpAny_getItem_heap (tupleKind_room_in1 hu) (key_of I.hok eb) dd hp ?_
  rw [hp2]
  exact h w' _ (I.tok _) rw'
theorem d_write {h':Heap}{t':Nat}{ob:HO} (I:Inv X pins σ H s) (mu:Mut (H a)) (hs:Heap.SameBut a s.heap h') (he:∃ q,h'.get? a=some q) (new:ObjOk X.prog X.w (upd H a ob) h' a ob) :
  Inv X pins σ (upd H a ob) { s with heap:=h',toks:=t' }:=
 I.write (x:=a) (e:=a) mu (.inl rfl) (fun b q hb z=>(hs.2 b hb).trans z) he new
theorem dk_new {P:Program}{w:World}{H':Hp}{h':Heap}{kvs:List (Key×V)}{vs:List (Key×Value)} (z:kvs.length≤sizeLine) (hd:(a == sysModules)=false) (rel:KV kvs vs) (dd:h'.DictOf (mixKind P w) a vs) :
  ObjOk P w H' h' a (.dK kvs):=⟨z,hd,vs,rel,dd⟩
theorem d_setItem {H':Hp}{Q:Unit→Shared→Prop} (hu:A.units + 1 < cLine) (I:Inv X pins σ H s) (g:DPut H a y v H') (ry:RelV y u) (rv:RelV v r) (h:∀ s',Inv X pins σ H' s'→Q () s') :
  wpAny (model X.prog X.w) A (setItem (.ref a) u r) Q E s:=by
 rcases g with ⟨kvs,k,e,ey,l,eH⟩ | ⟨kvs,k,b,e,ey,eb,l,eH⟩
 ·subst ey eH
  obtain ⟨z,hd,vs,rel,dd⟩:=dk_of I.hok e
  have hz:vs.length≤sizeLine:=by rw [← rel.length];exact z
  have hl:(putK kvs k v).length≤sizeLine:=by have:=length_putK kvs k v;omega
  refine wpAny_setItem_pairs (hsz:=hz) (kV_is ry) dd fun h' dd' hs=>h _ ?_
  have he:∃ q,h'.get? a=some q:=let ⟨q,_,_,hq,_⟩:=dd';⟨q,hq⟩
  exact d_write I (by rw [e];exact True.intro) hs he (dk_new hl hd (rel.put k rv) dd')
 ·subst ey eH
  cases (show u=Value.ref b from ry)
  obtain ⟨z,hd,xs,rel,dd⟩:=dt_of I.hok e
  have hz:xs.length≤sizeLine:=by rw [← Paired.length rel];exact z
  have hl:(putK kvs k v).length≤sizeLine:=by have:=length_putK kvs k v;omega
  refine wpAny_setItem_heap (hsz:=hz) (tupleKind_room_in1 hu) (key_of I.hok eb) dd fun h' dd' hs=>h _ ?_
  obtain ⟨q,es,ep,hq,h2,h3,h4,_,h5⟩:=dd'
  refine d_write I (by rw [e];exact True.intro) hs ⟨q,hq⟩ ⟨hl,hd,_,(rel.put k eb rv).keeps fun c ys ec=>?_,q,es,ep,hq,h2,h3,h4,h5⟩
  rw [upd_ne (ne_of ec e (fun z=>nomatch z))]
  exact ec
end
section
variable {X:Cx}{pins:List (Addr×Obj)}{σ:St}{H:Hp}{s:Shared}{a:Addr}{kvs:List (Key×V)}{k:Key}{u:Value}{A:Around}{E:Value→Shared→Prop}
theorem d_len {Q:Value→Shared→Prop} (I:Inv X pins σ H s) (e:Rd H a (.dK kvs)) (h:∀ t s',Inv X pins σ H s'→Q (.int kvs.length t) s'):wpAny (model X.prog X.w) A (call (.builtin "len") [.ref a]) Q E s:=by
 obtain ⟨z,hd,vs,rel,dd⟩:=dk_rd I.hok e
 refine call_len_dict hd dd (by rw [← rel.length];rw [sizeLine_eq] at z;omega) ?_
 rw [← rel.length]
 exact h _ _ (I.tok _)
end
def NoSl (i:Expr):Prop:=∀ ov iv,subscripted i false ov iv=operate [ov,iv] (getItem ov iv)
theorem subD_of {prog:Program}{w:World}{A:Around}{E:Value→Shared→Prop}{s:Shared}{env:Env}{value slice:Expr}{pos:Pos}{T id:String}{Q:Value→Shared→Prop}
  (hl:typeLookup (.type T) "__getitem__"=pure (some (.builtin id))) (hs:NoSl slice)
  (h:wpAny (model prog w) A (eval value env) (fun o s₁=>wpAny (model prog w) A (eval slice env) (fun i s₂=>s₂.TypeIs o T∧wpAny (model prog w) A (getItem o i) Q E s₂) E s₁) E s) :
  wpAny (model prog w) A (eval (.Subscript value slice pos) env) Q E s:=by
 refine Subscript_ (wpAny_mono h (fun o s₁ h₁=>wpAny_mono h₁ (fun i s₂ h₂=>?_) fun _ _ x=>x) fun _ _ x=>x)
 obtain ⟨hT,h₂⟩:=h₂
 unfold subscriptTail
 refine wpAny_bind ?_
 rw [getitemInPython_of_ne hT.not_modules]
 refine wpAny_bind (wpAny_specialOf hT hl ?_)
 have fin:wpAny (model prog w) A (subscripted slice false o i) (fun r s₃=>wpAny (model prog w) A (letTemporaryGo value o r >>= fun _=>pure r) Q E s₃) E s₂:=by
  rw [hs o i]
  exact wpAny_operating (wpAny_mono h₂ (fun r s₃ h₃=>wpAny_bind (wpAny_letTemporaryGo (wpAny_pure h₃))) fun _ _ x=>x)
 first
  | exact wpAny_pure (wpAny_bind fin)
  | exact wpAny_bind (wpAny_pure (wpAny_bind fin))
  | exact wpAny_bind fin
theorem dict_typeIs {X:Cx}{pins:List (Addr×Obj)}{σ:St}{H:Hp}{s:Shared}{a:Addr}{y:V}{o:Option V} (I:Inv X pins σ H s) (g:DGet H a y o):s.TypeIs (.ref a) "dict":=by
 rcases g with ⟨kvs,k,e,_,_⟩ | ⟨kvs,k,b,e,_,_,_⟩
 ·obtain ⟨_,_,vs,_,dd⟩:=dk_rd I.hok e
  exact dd.typeIs
 ·obtain ⟨_,_,xs,_,dd⟩:=dt_rd I.hok e
  exact dd.typeIs
def tDGet (td ty:TE):TE:=fun σ H Q=>td σ H fun x H1=>ty σ H1 fun y H2=>∃ a v,x=.ref a∧DGet H2 a y (some v)∧Q v H2
def sDPut (td ty tv:TE):TS:=fun D σ H=>tv σ H fun v H1=>td σ H1 fun x H2=>ty σ H2 fun y H3=>∃ a H4,x=.ref a∧DPut H3 a y v H4∧D.nx σ H4
section
variable {X:Cx}{o i e value:Expr}{pos pos' tpos:Pos}{td ty tv:TE}
theorem pe_dget (hu:X.A.units + 1 < cLine) (ho:PE X o td) (hi:PE X i ty) (hs:NoSl i):PE X (.Subscript o i pos) (tDGet td ty):=by
 intro pins s σ H Q I h
 refine subD_of PySem.F.slot_dict_getitem.lookup hs (thn (ho pins s σ H _ I h) fun u s1 ⟨x,H1,I1,rx,q1⟩=>thn (hi pins s1 σ H1 _ I1 q1) fun iv s2 ⟨y,H2,I2,ry,a,v,ex,g,q2⟩=>?_)
 subst ex
 obtain rfl:u=Value.ref a:=rx
 exact ⟨dict_typeIs I2 g,d_getItem hu I2 g ry fun w' s3 I3 rw'=>⟨v,H2,I3,rw',q2⟩⟩
theorem ps_dput (hu:X.A.units + 1 < cLine) (ho:PE X o td) (hi:PE X i ty) (hv:PE X value tv) (hs:swapsWith value (some (.Subscript o i pos')) pos.line X.env=pure false) :
  PS X (.Assign [.Subscript o i pos'] value pos) (sDPut td ty tv):=by
 intro pins s σ H D I h
 refine wpAny_Assign_Subscript (thn (hv pins s σ H _ I h) fun r s1 ⟨v,H1,I1,rv,q1⟩=>thn (ho pins s1 σ H1 _ I1 q1) fun u s2 ⟨x,H2,I2,rx,q2⟩=>thn (hi pins s2 σ H2 _ I2 q2) fun iv s3 ⟨y,H3,I3,ry,a,H4,ex,g,q3⟩=>?_) hs
 subst ex
 obtain rfl:u=Value.ref a:=rx
 exact d_setItem hu I3 g ry rv fun s4 I4=>⟨σ,H4,I4,q3⟩
end
theorem dk_empty {P:Program}{w:World}{H:Hp} (h:Heap) (hb:sysModules < h.objs.size):ObjOk P w H (h.push { cls:=.type "dict",data:=.dict #[] }) h.objs.size (.dK []):=
 ⟨Nat.zero_le _,beq_eq_false_iff_ne.mpr (Ne.symm (Nat.ne_of_lt hb)),[],.nil,Heap.DictOf.new h⟩
def tDNewK:TE:=fun _ H Q=>∀ p,H p=none→Q (.ref p) (upd H p (.dK []))
section
variable {X:Cx}{pos:Pos}
theorem pe_dnewK:PE X (.Dict [] [] pos) tDNewK:=fun pins s σ H Q I h=>
 wpAny_Dict_empty ⟨.ref s.heap.objs.size,_,I.laid (a:=s.heap.objs.size) (o:=.dK []) (t':=s.toks) (fun _ _ q=>Heap.get?_push_of_some _ q) (Nat.le_refl _) (dk_empty s.heap I.big),rfl,h _ (I.hok.fresh (Nat.le_refl _))⟩
end
end L2
namespace Att
open PySem PySem.W PySem.Calls PyProof.Rows
theorem ints_of_wellAll {P:Params}{h:Heap}:∀ (ns:List Int) (vs:List Value),WellAll P h vs (ns.map WData.int)→IntsAre vs ns:=by
 intro ns
 induction ns with
 | nil=>
  intro vs w
  rw [List.map_nil] at w
  cases w
  exact .nil
 | cons n ns ih=>
  intro vs w
  rw [List.map_cons] at w
  cases w with
  | cons a b=>
   cases a
   exact .cons _ _ (ih _ b)
theorem script_of {l:OpenLaw}{n:Nat} (hn:l.most=some n) {P:Params}{h:Heap}{args:List WData}{vals:List Value}
  (hpre:l.row.toRowW.claim.pre args=true) (hwl:WellAll P h vals args) :
  ∃ a vs ns,vals=[Value.ref a]∧args=[WData.list (ns.map WData.int)]∧h.get? a=some { cls:=.type "list",data:=.seq vs.toArray }∧IntsAre vs ns∧ns.length≤n:=by
 have hsh:WShape.hasAll [] args [.list .int]=true:=(pre_splitW hpre).1
 have hc:l.pre.holds [] { args:=args }=true:=(pre_splitW hpre).2
 obtain ⟨d,r,rfl,h1,h2⟩:=hasAllW_cons hsh
 obtain rfl:=hasAllW_nil h2
 obtain ⟨xs,rfl,h3⟩:=hasW_list h1
 obtain ⟨ns,rfl⟩:=items_int h3
 have hlen:ns.length≤n:=by
  unfold OpenLaw.pre at hc
  have h4:(WTm.not (.lt (.lit (.int (n:Int))) (.len (.arg 0)))).holds [] { args:=[.list (ns.map .int)] }=true:=by
   have h4:=(holds_andW hc).1
   rw [hn] at h4
   exact h4
  have h5:=condW_of h4 (w_not (w_lt w_lit (w_len_list (w_arg rfl))))
  rw [List.length_map] at h5
  refine Nat.le_of_not_lt fun q=>?_
  have q':(n:Int) < ((ns.length:Nat):Int):=by omega
  first
   | (rw [decide_eq_true q'] at h5;exact absurd h5 (by decide))
   | (simp at h5;omega)
 cases hwl with
 | cons w1 w2=>
  cases w2
  cases w1 with
  | list ho hall=>exact ⟨_,_,ns,rfl,rfl,ho,ints_of_wellAll ns _ hall,hlen⟩
theorem post_true (l:OpenLaw) (args:List WData):l.row.toRowW.claim.post args (.bool true) args=true:=
 postW_of (r:=l.row.toRowW) (X:=(true == true))
  (show WShape.has [] (.bool true) .bool=true by first | rfl | decide | simp [WShape.has,WShape.arms,WShape.armsAll])
  (show (WTm.eq .res (.lit (.bool true))).value [] { args:=args,res:=some (.bool true),after:=args }=some (.bool (true == true)) from w_eq_bool (w_res rfl) w_lit) rfl
theorem attach_call {l:OpenLaw}{n:Nat}{q:Program}{loose:List Str}{XP:(Str→Option Value)→Heap→Prop}{YP:World→Heap→Prop}{d:DefRec}
  (hn:l.most=some n) (hdf:d.params.defaults=[])
  (call:∀ (w:World) (s₀ s₁:Shared) (mg mb:Str→Option Value) (fa:Addr) (o:Obj) (pm cd doc:Value) (a:Addr) (vs:List Value) (ns:List Int),
   Ground q loose [] XP w s₀ mg mb s₁.heap→YP w s₁.heap →
   s₁.heap.get? fa=some o→o.data=.func (docDef d.name d.params d.body d.scope pm cd doc)→s₁.heap.CodeRec cd d.name→mg d.name=some (.ref fa) →
   s₁.heap.get? a=some { cls:=.type "list",data:=.seq vs.toArray }→IntsAre vs ns→ns.length≤n→s₁.gens=#[] →
   codeAny (model l.prog w) callerA (.call (.ref fa) ⟨[.ref a],[]⟩) (fun r s'=>r=.ok (.ret (.bool true))∧OldK s₁.heap s'.heap∧s'.os=s₁.os∧AllBare s'.gens) s₁) :
  WalkO q loose XP YP l.row.toRowW d [] (fun f vs=>PySem.call f vs):=by
 intro w s₀ s₁ mg mb G Y fa o pm cd doc dV kV ho hd hcd hD hmg hg args vals as hpre hlay hrd hwl hlo
 obtain rfl:dV=.none:=Dflts.none hD hdf
 obtain rfl:kV=.none:=Dflts.noKw hD
 obtain ⟨a,vs,ns,rfl,rfl,hobj,hints,hlen⟩:=script_of hn hpre hwl
 refine enter_call (codeAny_mono (call w s₀ s₁ mg mb fa o pm cd doc a vs ns G Y ho (fd_plain hd) hcd hmg hobj hints hlen hg) fun r s' hq=>?_)
 obtain ⟨rfl,h2,h3,h4⟩:=hq
 exact ⟨.inl ⟨.bool true,.bool true,[],rfl,fun _=>rfl,.bool true,post_true l _,fun _=>⟨List.Pairwise.nil,fun _ hm=>(nomatch hm)⟩⟩,h2,h3,h4⟩
end Att
namespace L2
open PySem PySem.Spec PyProof.Rows
theorem vals_ints:∀ {vs:List Value}{ns:List Int},IntsAre vs ns→Vals (ns.map V.int) vs
 | _,_,.nil=>.nil
 | _,_,.cons n t h=>.cons ⟨t,rfl⟩ (vals_ints h)
def Only (H:Hp):Prop:=∀ b,H b=none∨∃ o xs,H b=some (.frz o (.lst xs))
theorem law_call {P:Program}{w:World}{K:PySem.W.Frag}{mg mb:Str→Option Value}{CX:CXT}{k:Nat}{fa a:Addr}{fd:FuncData}{x:Str}{sp:Sp}{s₁:Shared}{vs:List Value}{ns:List Int}
  (KX:K.In s₁.heap) (hns:s₁.heap.Ns mainGlobals mg) (hb:s₁.heap.Ns builtinsNs mb) (hbb:∀ x:Str,x≠"__name__"→mb x=bootBuiltins x) (hlim:s₁.heap.NoLimit) (hg:s₁.gens=#[])
  (ha:s₁.heap.get? a=some { cls:=.type "list",data:=.seq vs.toArray }) (hi:IntsAre vs ns) (hl:ns.length≤sizeLine) (hr:Room k callerA)
  (F:∀ base:Heap,K.In base→base.Ns mainGlobals mg→FnOk P w K mg base CX k fa fd [x] sp) (hbind:∀ (s:Shared) (u:Value),BindsTo s fd ⟨[u],[]⟩ [(x,u)])
  (hsp:∀ H:Hp,Only H→SqL K H a (ns.map V.int)→sp [.ref a] H (fun v _=>v=.bl true) fun _ _ _=>False)
  (hCX:∀ H e s',CX [] H s₁ (fun _ _ _=>False) e s'→False) :
  codeAny (model P w) callerA (.call (.ref fa) ⟨[.ref a],[]⟩) (fun r s'=>r=.ok (.ret (.bool true))∧OldK s₁.heap s'.heap∧s'.os=s₁.os∧AllBare s'.gens) s₁:=by
 have rv:=vals_ints hi
 have lenV:=hi.length
 have core:∀ H:Hp,Only H→SqL K H a (ns.map V.int)→HOk P w H s₁.heap→(∀ b,H b≠none→b=a)→(H a≠none→K.lookup a=none) →
   codeAny (model P w) callerA (.call (.ref fa) ⟨[.ref a],[]⟩) (fun r s'=>r=.ok (.ret (.bool true))∧OldK s₁.heap s'.heap∧s'.os=s₁.os∧AllBare s'.gens) s₁:=by
  intro H hO hS hok hA hK
  have base_of:∀ {b:Addr}{o:Obj},s₁.heap.get? b=some o→H b=none→(hidT s₁.heap H).get? b=some o:=fun e n=>hidT_get e n
  have noA:∀ {b:Addr}{o:Obj}{es:Array DictEntry}{ep:Nat},s₁.heap.get? b=some o→o.data=.dict es ep→H b=none:=fun {b o es ep} e d=>by
   cases q:H b with
   | none=>rfl
   | some u=>
    have e':b=a:=hA b (by rw [q];simp)
    subst e'
    rw [ha] at e;cases e
    have d':Data.seq vs.toArray _=Data.dict es ep:=d
    cases d'
  have nsK:∀ {b:Addr}{m:Str→Option Value},s₁.heap.Ns b m→(hidT s₁.heap H).Ns b m:=fun {b m} ⟨o,es,ep,e,d,r⟩=>⟨o,es,ep,base_of e (noA e d),d,r⟩
  have hKb:K.In (hidT s₁.heap H):=fun b o e=>base_of (KX b o e) (by
   cases q:H b with
   | none=>rfl
   | some u=>
    have e':b=a:=hA b (by rw [q];simp)
    subst e'
    rw [hK (by rw [q];simp)] at e;cases e)
  have hM:Mod K mg (hidT s₁.heap H):=⟨hKb,nsK hns,⟨mb,nsK hb,hbb⟩,let ⟨mc,h1,h2⟩:=hlim;⟨mc,nsK h1,h2⟩⟩
  have e0:Env0 P w K mg (hidT s₁.heap H) callerA [] s₁ H:=⟨rfl,hM,fun b o e=>of_hidT e,Nat.le_of_eq (hidT_size _ _),trivial,fun b hb=>absurd (show b∈([]:List Addr) from hb) (by simp),hok,.of_eq hg,.inl rfl⟩
  refine codeAny_mono ((F _ hKb (nsK hns)).run callerA [] s₁ H ⟨[.ref a],[]⟩ [.ref a] [.ref a] _ _ hr e0 (hbind s₁ (.ref a)) (.cons rfl .nil) (hsp H hO hS)) fun r s' h=>?_
  cases r with
  | error e=>exact (hCX H e s' h).elim
  | ok fl=>
   cases fl with
   | next=>exact False.elim h
   | brk=>exact False.elim h
   | cont=>exact False.elim h
   | ret u=>
    obtain ⟨v,H',os,bare,un,hok',r',q⟩:=h
    have q':v=.bl true:=q
    subst q'
    obtain rfl:u=Value.bool true:=r'
    refine ⟨rfl,OldK.of_keep fun b o e=>?_,os,bare⟩
    cases q:H b with
    | none=>exact un.keep b o e q (by intro z;exact absurd (show b∈([]:List Addr) from z) (by simp)) (by simp)
    | some u=>
     rcases hO b with z | ⟨ob,xs,z⟩
     ·rw [q] at z;cases z
     ·have z2:=un.frzs b ob _ z
      obtain ⟨e1,_⟩:=hok b _ z
      obtain ⟨e2,_⟩:=hok' b _ z2
      rw [e] at e1;cases e1
      exact e2
 cases hk:K.lookup a with
 | some o=>
  have e:=KX a o hk
  rw [ha] at e
  cases e
  refine core (fun _=>none) (fun _=>.inl rfl) (.inr ⟨_,vs.toArray,_,hk,rfl,rfl,rfl,by rw [List.size_toArray,lenV];exact hl,by simpa using rv⟩) (fun b u z=>by have z':(none:Option HO)=some u:=z;cases z') (fun b z=>absurd rfl z) fun z=>absurd rfl z
 | none=>
  refine core (fun b=>if b=a then some (.frz { cls:=.type "list",data:=.seq vs.toArray } (.lst (ns.map V.int))) else none) (fun b=>?_) (.inl (.inr ⟨{ cls:=.type "list",data:=.seq vs.toArray },if_pos rfl⟩)) (fun b u z=>?_) (fun b z=>?_) fun _=>hk
  ·by_cases hb:b=a
   ·exact .inr ⟨_,_,if_pos hb⟩
   ·exact .inl (if_neg hb)
  ·by_cases hb:b=a
   ·have z':=(if_pos hb).symm.trans z
    cases z'
    subst hb
    exact ⟨ha,by rw [List.length_map];exact hl,vs,_,rv,ha⟩
   ·have z':=(if_neg hb).symm.trans z
    cases z'
  ·by_cases hb:b=a
   ·exact hb
   ·exact absurd (if_neg hb) z
theorem walk_of {l:PySem.W.OpenLaw}{n k:Nat}{q:Program}{loose:List Str}{XP:(Str→Option Value)→Heap→Prop}{YP:World→Heap→Prop}{d:DefRec}{K:Params→PySem.W.Frag}{CX:World→CXT}{sp:World→Sp}{x:Str}
  (hn:l.most=some n) (hn2:n≤sizeLine) (hdf:d.params.defaults=[]) (hr:Room k callerA)
  (hY:∀ (w:World) (h:Heap),YP w h→(K w.params).In h)
  (F:∀ (w:World) (mg:Str→Option Value) (fa:Addr) (h:Heap),(K w.params).In h→h.Ns mainGlobals mg→mg d.name=some (.ref fa) →
   ∃ fd:FuncData,(∀ (s:Shared) (u:Value),BindsTo s fd ⟨[u],[]⟩ [(x,u)]) ∧
    ∀ base:Heap,(K w.params).In base→base.Ns mainGlobals mg→FnOk l.prog w (K w.params) mg base (CX w) k fa fd [x] (sp w))
  (hsp:∀ (w:World) (H:Hp) (a:Addr) (ns:List Int),ns.length≤n→Only H→SqL (K w.params) H a (ns.map V.int)→sp w [.ref a] H (fun v _=>v=.bl true) fun _ _ _=>False)
  (hCX:∀ (w:World) (H:Hp) (s:Shared) (e:Value) (s':Shared),CX w [] H s (fun _ _ _=>False) e s'→False) :
  PySem.W.WalkO q loose XP YP l.row.toRowW d [] (fun f vs=>PySem.call f vs):=by
 refine Att.attach_call hn hdf fun w s₀ s₁ mg mb fa o pm cd doc a vs ns G Y ho hd hcd hmg hobj hints hlen hg=>?_
 have KX:=hY w _ Y
 obtain ⟨fd,hb,hF⟩:=F w mg fa _ KX G.T.g hmg
 exact law_call KX G.T.g G.T.b G.T.builtins G.T.nolimit hg hobj hints (Nat.le_trans hlen hn2) hr hF hb (fun H hO hS=>hsp w H a ns hlen hO hS) fun H e s'=>hCX w H s₁ e s'
def inClass (s:Stmt) (j:Nat):Stmt:=match s with
 | .ClassDef _ _ _ body _ _ _ _ _ _ _=>body.getD j (.Pass ⟨0,0,0,0⟩)
 | _=>.Pass ⟨0,0,0,0⟩
def defArgs (s:Stmt):Arguments:=match s with
 | .FunctionDef _ a _ _ _ _ _ _ _ _=>a
 | _=>{ posonlyargs:=[],args:=[],vararg:=none,kwonlyargs:=[],kw_defaults:=[],kwarg:=none,defaults:=[] }
def defBody (s:Stmt):List Stmt:=match s with
 | .FunctionDef _ _ b _ _ _ _ _ _ _=>b
 | _=>[]
def defScope (s:Stmt):Scope:=match s with
 | .FunctionDef _ _ _ _ _ _ sc _ _ _=>sc
 | _=>{ kind:=.function,names:=[],isGenerator:=false,isCoroutine:=false }
abbrev CX0:CXT:=fun _ _ _ _ _ _=>False
abbrev E0:XK:=fun _ _ _=>False
theorem pass0 {X:Cx}:Passes CX0 X E0:=fun _ _ _ _ _ _ _ h=>h.elim
structure Fun (K:PySem.W.Frag) (x qual:Str) (st:Stmt) (f:Addr) (fd:FuncData):Prop where
 ex:∃ (oc:Value) (od:Option Addr) (kV doc pm:Value) (an:Option Addr) (cdv ct:Value) (osl:Array (Option Value)),
  fd=PySem.W.fnOf x qual (defArgs st) (defBody st) (defScope st) .none kV doc pm an cdv ct∧K.lookup f=some ⟨oc,od,.func fd,osl⟩∧PySem.W.codeIn K cdv qual=true
 kp:PySem.W.keepIn K (.ref f)=true
section
variable {P:Program}{w:World}{K:PySem.W.Frag}{mg:Str→Option Value}{base:Heap}
theorem Fun.ok {x qual:Str}{st:Stmt}{f:Addr}{fd:FuncData}{N ps:List Str}{k:Nat}{sp:Sp}{cm:Bool} (F:Fun K x qual st f fd) (S:FnScope N ps (defScope st)) (len:∀ vs H Q E,sp vs H Q E→vs.length=ps.length)
  (hbody:∀ (cdv:Value) (A:Around) (outer:List Env) (s:Shared) (H:Hp) (vs:List V) (Q:VK) (E:XK),Room k (A.deeper (envOfC qual (defScope st) s.heap.objs.size f cdv)) cm→sp vs H Q E →
   ∃ t,PSs (cxOf CX0 P w K mg base N qual (defScope st) f cdv A outer s H E cm).nox (defBody st) t∧t { nx:=fun _ H'=>Q .non H',rt:=Q } (start N vs) H):FnOk P w K mg base CX0 (k + 1) f fd ps sp cm:=by
 obtain ⟨oc,od,kV,doc,pm,an,cdv,ct,osl,rfl,lk,hcd⟩:=F.ex
 refine fn_of lk hcd S len fun A outer s H vs Q E hr hsp=>?_
 obtain ⟨t,h,q⟩:=hbody cdv A outer s H vs Q E hr hsp
 exact ⟨t,h.nox,q⟩
theorem Fun.binds {x qual:Str}{st:Stmt}{f:Addr}{fd:FuncData}{ps:List Str} (F:Fun K x qual st f fd)
  (h:∀ (kV doc pm:Value) (an:Option Addr) (cdv ct:Value) (us:List Value),us.length=ps.length→bindArgs (PySem.W.fnOf x qual (defArgs st) (defBody st) (defScope st) .none kV doc pm an cdv ct) ⟨us,[]⟩=pure (ps.zip us)):Binds K fd ps []:=by
 obtain ⟨oc,od,kV,doc,pm,an,cdv,ct,osl,rfl,lk,hcd⟩:=F.ex
 exact .all (h kV doc pm an cdv ct)
theorem fun_mk {x qual:Str}{st:Stmt}{f:Addr}{oc:Value}{od an:Option Addr}{osl:Array (Option Value)}{kV doc pm cdv ct:Value} (l:K.lookup f=some ⟨oc,od,.func (PySem.W.fnOf x qual (defArgs st) (defBody st) (defScope st) .none kV doc pm an cdv ct),osl⟩)
  (c:PySem.W.codeIn K cdv qual=true) (k:PySem.W.keepIn K (.ref f)=true):Fun K x qual st f (PySem.W.fnOf x qual (defArgs st) (defBody st) (defScope st) .none kV doc pm an cdv ct):=⟨⟨oc,od,kV,doc,pm,an,cdv,ct,osl,rfl,l,c⟩,k⟩
end
theorem hu_of {A:Around}{k:Nat}{cm:Bool} (hr:Room k A cm):A.units + 1 < cLine:=Nat.lt_of_le_of_lt (Nat.add_le_add_left (by decide:1≤64) _) hr.units
theorem small1000 {n:Nat} (h:n≤1000):n < sizeLine:=Nat.lt_of_le_of_lt h (by decide)
theorem iteF {A B:Prop} (h:B):if false=true then A else B:=by
 rw [if_neg Bool.false_ne_true]
 exact h
theorem iteT {A B:Prop} (h:A):if true=true then A else B:=by
 rw [if_pos rfl]
 exact h
def Same (H H':Hp):Prop:=∀ b o,H b=some o→H' b=some o
theorem Same.refl (H:Hp):Same H H:=fun _ _ h=>h
theorem Same.trans {H H1 H2:Hp} (a:Same H H1) (b:Same H1 H2):Same H H2:=fun c o h=>b c o (a c o h)
theorem Same.free {H H':Hp} (e:Same H H') {l:Addr} (h:H' l=Option.none):H l=Option.none:=by
 cases q:H l with
 | none=>rfl
 | some o=>
  rw [e l o q] at h
  cases h
section
variable {X:Cx}
theorem call_lenD:CallR X (.builtin "len") (fun xs H Q=>∃ a kvs,xs=[V.ref a]∧H a=some (.dK kvs)∧Q (.int kvs.length) H):=by
 intro pins s σ H xs us Q I r h
 obtain ⟨a,kvs,rfl,ha,q⟩:=h
 obtain ⟨u,rfl,ru⟩:=vals1 r
 cases ru
 exact d_len I (.inl ha) fun t s' I'=>⟨.int kvs.length,H,I',⟨t,rfl⟩,q⟩
end
def ExcO (a:Addr) (cls:Value) (de:Option Addr):HO:=.ext fun h=>∃ oe,h.get? a=some oe∧oe.cls=cls∧(∀ dx,de=some dx→oe.dict=some dx∧PySem.W.notCls oe=true)
theorem excO_ok {P:Program}{w:World}{H:Hp}{h:Heap}{a:Addr}{cls:Value}{de:Option Addr}{oe:Obj} (e:h.get? a=some oe) (c:oe.cls=cls) (d:∀ dx,de=some dx→oe.dict=some dx∧PySem.W.notCls oe=true):ObjOk P w H h a (ExcO a cls de):=
 ⟨⟨oe,e,c,d⟩,⟨oe,e⟩,fun _ _ ⟨o,q,z⟩ k=>⟨o,k o q,z⟩⟩
theorem excO_get {P:Program}{w:World}{H:Hp}{h:Heap}{a:Addr}{cls:Value}{de:Option Addr} (x:HOk P w H h) (e:H a=some (ExcO a cls de)):∃ oe,h.get? a=some oe∧oe.cls=cls:=let ⟨oe,a,b,_⟩:=(x a _ e).1;⟨oe,a,b⟩
def ExcF (ob:Obj) (a:Addr) (cls:Value) (de:Option Addr):HO:=.frz ob (ExcO a cls de)
theorem excF_get {P:Program}{w:World}{H:Hp}{h:Heap}{a:Addr}{ob:Obj}{cls:Value}{de:Option Addr} (x:HOk P w H h) (e:H a=some (ExcF ob a cls de)):∃ oe,h.get? a=some oe∧oe.cls=cls:=let ⟨oe,a,b,_⟩:=(x a _ e).2.1;⟨oe,a,b⟩
def slotM (n:Nat) (t:Tok):Str→Option Value:=fun y=>if y="slot" then some (.int n t) else none
def XdO (dx:Addr) (n:Nat):HO:=.ext fun h=>∃ t,h.Ns1 dx (slotM n t)
theorem xdO_ok {P:Program}{w:World}{H:Hp}{h:Heap}{dx:Addr}{n:Nat}{t:Tok} (e:h.Ns1 dx (slotM n t)):ObjOk P w H h dx (XdO dx n):=
 ⟨⟨t,e⟩,let ⟨o,_,_,q,_⟩:=e;⟨o,q⟩,fun _ _ ⟨t,e⟩ k=>⟨t,e.at k⟩⟩
def fld2 (o:Obj):Option Value:=match o.data with
 | .fields vs=>vs[2]?
 | _=>none
def DK {α:Type}:Sem α→Prop
 | .pure _=>True
 | .raise _=>True
 | .unsupported _=>True
 | .finish _=>True
 | .rule _ k=>DK (k ())
 | .at _ k=>DK (k ())
 | .load _ _ k=>∀ o,DK (k o)
 | .update _ _ f k=>(∀ o,(f o).dict=o.dict∧fld2 (f o)=fld2 o)∧DK (k ())
 | .alloc _ k=>∀ a,DK (k a)
 | .stack k=>∀ l,DK (k l)
 | _=>False
def Kd (h h':Heap):Prop:=∀ (a:Nat) (o:Obj),h.objs[a]? = some o→∃ o',h'.objs[a]? = some o'∧o'.dict=o.dict∧fld2 o'=fld2 o
theorem Kd.refl (h:Heap):Kd h h:=fun a o e=>⟨o,e,rfl,rfl⟩
theorem Kd.trans {h h1 h2:Heap} (x:Kd h h1) (y:Kd h1 h2):Kd h h2:=fun a o e=>by
 obtain ⟨o1,e1,d1,f1⟩:=x a o e
 obtain ⟨o2,e2,d2,f2⟩:=y a o1 e1
 exact ⟨o2,e2,d2.trans d1,f2.trans f1⟩
theorem Kd.push (h:Heap) (o:Obj):Kd h (h.push o):=fun a u e=>by
 obtain ⟨objs,l⟩:=h
 refine ⟨u,?_,rfl,rfl⟩
 show (objs.push o)[a]? = some u
 have lt:a < objs.size:=(Array.getElem?_eq_some_iff.mp e).1
 rw [Array.getElem?_push_lt lt]
 rw [Array.getElem?_eq_getElem lt] at e
 exact e
theorem Kd.update (h:Heap) (b:Addr) {f:Obj→Obj} (hf:∀ o,(f o).dict=o.dict∧fld2 (f o)=fld2 o):Kd h (h.update b f):=fun a u e=>by
 obtain ⟨objs,l⟩:=h
 show ∃ o',(objs.modify b f)[a]? = some o'∧_
 have e:objs[a]? = some u:=e
 rw [Array.getElem?_modify,e]
 split
 ·exact ⟨f u,rfl,hf u⟩
 ·exact ⟨u,rfl,rfl,rfl⟩
theorem Kd.at {h h':Heap} (k:Kd h h') {a:Addr}{o o':Obj} (e:h.get? a=some o) (e':h'.get? a=some o'):o'.dict=o.dict∧fld2 o'=fld2 o:=by
 have raw:∀ {h:Heap}{o:Obj},h.get? a=some o→h.objs[a]? = some o:=fun {h o} e=>by
  unfold Heap.get? at e
  split at e
  ·cases e
  ·exact e
 obtain ⟨u,q,d⟩:=k a o (raw e)
 rw [raw e'] at q
 cases q
 exact d
section
variable {α β:Type}{M:Model}
theorem wp_dk {Γ:PySem.Ctx}{h0:Heap}:∀ (t:Sem α) {Q:α→Pos→Shared→Prop}{E:Value→Pos→Shared→Prop}{p:Pos}{s:Shared},DK t→Kd h0 s.heap→Sem.wp M Γ t Q E p s→Sem.wp M Γ t (fun a p' s'=>Q a p' s'∧Kd h0 s'.heap) (fun e p' s'=>E e p' s'∧Kd h0 s'.heap) p s:=by
 intro t
 induction t with
 | pure a=>intro Q E p s d k h;exact ⟨h,k⟩
 | raise e=>intro Q E p s d k h;exact ⟨h,k⟩
 | unsupported w=>intro Q E p s d k h;exact h
 | finish e=>intro Q E p s d k h;exact h
 | rule tag f ih=>intro Q E p s d k h;exact ih () d k h
 | «at» pos f ih=>intro Q E p s d k h;exact ih () d k h
 | load a part f ih=>intro Q E p s d k h;obtain ⟨o,e,h⟩:=h;exact ⟨o,e,ih o (d o) k h⟩
 | update a part f g ih=>intro Q E p s d k h;exact ⟨h.1,ih () d.2 (k.trans (Kd.update _ _ d.1)) h.2⟩
 | alloc o f ih=>intro Q E p s d k h;exact ih _ (d _) (k.trans (Kd.push _ _)) h
 | stack f ih=>intro Q E p s d k h;exact ih _ (d _) k h
 | loadIfAlive=>intro Q E p s d;exact d.elim
 | point=>intro Q E p s d;exact d.elim
 | register=>intro Q E p s d;exact d.elim
 | fresh=>intro Q E p s d;exact d.elim
 | ask=>intro Q E p s d;exact d.elim
 | choose=>intro Q E p s d;exact d.elim
 | os=>intro Q E p s d;exact d.elim
 | call=>intro Q E p s d;exact d.elim
 | handled=>intro Q E p s d;exact d.elim
 | newGen=>intro Q E p s d;exact d.elim
 | genState=>intro Q E p s d;exact d.elim
 | resume=>intro Q E p s d;exact d.elim
 | yield=>intro Q E p s d;exact d.elim
 | fork=>intro Q E p s d;exact d.elim
 | thread=>intro Q E p s d;exact d.elim
 | await=>intro Q E p s d;exact d.elim
theorem wpAny_dk {A:Around}{t:Sem α}{Q:α→Shared→Prop}{E:Value→Shared→Prop}{s:Shared} (d:DK t) (h:wpAny M A t Q E s):wpAny M A t (fun a s'=>Q a s'∧Kd s.heap s'.heap) (fun e s'=>E e s'∧Kd s.heap s'.heap) s:=
 fun Γ p hΓ=>wp_dk t d (Kd.refl _) (h Γ p hΓ)
theorem DK.bind {f:α→Sem β}:∀ {m:Sem α},DK m→(∀ a,DK (f a))→DK (m >>= f):=by
 intro m
 show DK m→_→DK (Sem.bind m f)
 induction m with
 | pure a=>intro d h;exact h a
 | raise e=>intro d h;exact d
 | unsupported w=>intro d h;exact d
 | finish e=>intro d h;exact d
 | rule tag g ih=>intro d h;exact ih () d h
 | «at» pos g ih=>intro d h;exact ih () d h
 | load a part g ih=>intro d h o;exact ih o (d o) h
 | update a part f g ih=>intro d h;exact ⟨d.1,ih () d.2 h⟩
 | alloc o g ih=>intro d h a;exact ih a (d a) h
 | stack g ih=>intro d h l;exact ih l (d l) h
 | loadIfAlive=>intro d;exact d.elim
 | point=>intro d;exact d.elim
 | register=>intro d;exact d.elim
 | fresh=>intro d;exact d.elim
 | ask=>intro d;exact d.elim
 | choose=>intro d;exact d.elim
 | os=>intro d;exact d.elim
 | call=>intro d;exact d.elim
 | handled=>intro d;exact d.elim
 | newGen=>intro d;exact d.elim
 | genState=>intro d;exact d.elim
 | resume=>intro d;exact d.elim
 | yield=>intro d;exact d.elim
 | fork=>intro d;exact d.elim
 | thread=>intro d;exact d.elim
 | await=>intro d;exact d.elim
end
theorem dk_load (a:Addr):DK (load a):=fun _=>trivial
theorem dk_fieldsOf (v:Value):DK (fieldsOf v):=by
 unfold fieldsOf
 split
 ·refine (dk_load _).bind fun o=>?_
  split <;> trivial
 ·trivial
theorem dk_field (v:Value) (i:Nat):DK (field v i):=by
 unfold field
 refine (dk_fieldsOf v).bind fun o=>?_
 split <;> trivial
theorem dk_setField (v:Value) (i:Nat) (x:Value) (hi:i≠2):DK (setField v i x):=by
 unfold setField
 split
 ·unfold updateField
  refine (dk_load _).bind fun o=>?_
  split
  ·split
   ·refine ⟨fun o=>?_,trivial⟩
    obtain ⟨c,d,dt,sl⟩:=o
    cases dt with
    | fields vs=>exact ⟨rfl,by show (vs.setIfInBounds i x)[2]? = vs[2]?;rw [Array.getElem?_setIfInBounds_ne hi]⟩
    | _=>exact ⟨rfl,rfl⟩
   ·trivial
  ·trivial
 ·trivial
theorem dk_setFlight (e:Value) (f:Option Addr):DK (setFlight e f):=by
 unfold setFlight
 refine (dk_field e 1).bind fun tb=>?_
 split
 ·exact dk_setField _ _ _ (by decide)
 ·trivial
theorem dk_behind (env:Env) (outer:List Env):DK (behindIsImport env outer):=by
 unfold behindIsImport
 split
 ·trivial
 ·split
  ·trivial
  ·exact (dk_field _ _).bind fun _=>trivial
theorem dk_under:DK underTheClaimsCaller:=fun _=>trivial
theorem dk_kept (env:Env) (i:Bool) (l:List Env):DK (keptBack env i l):=by
 unfold keptBack
 split
 ·split
  ·trivial
  ·exact dk_under.bind fun _=>trivial
 ·trivial
theorem dk_ready:∀ l:List Env,DK (readyFrames l)
 | []=>trivial
 | env::outer=>by
  unfold readyFrames
  split
  ·refine (dk_load _).bind fun o=>?_
   split
   ·trivial
   ·refine (dk_behind _ _).bind fun _=>(dk_kept _ _ _).bind fun _=>?_
    exact ⟨fun _=>⟨rfl,rfl⟩,dk_ready outer⟩
  ·trivial
theorem dk_frameOf (env:Env):DK (PySem.frameOf env):=by
 unfold PySem.frameOf
 refine DK.bind (fun _=>trivial) fun l=>?_
 refine DK.bind ?_ fun r=>?_
 ·unfold frameObject
  split
  ·trivial
  ·exact (dk_ready _).bind fun _=>trivial
 ·split <;> trivial
theorem dk_place (f:Addr) (b:Bool):DK (entryPlaceOf f b):=by
 unfold entryPlaceOf
 refine DK.bind (fun _=>trivial) fun l=>?_
 split <;> trivial
theorem dk_entry (a b c d e:Value) (pl:List Value):DK (EntryCells.newEntry a b c d e pl):=by
 unfold EntryCells.newEntry newFields newObj
 dsimp only
 split <;> split <;> first | trivial | exact fun _=>trivial
theorem dk_note (e:Value) (env:Env):DK (noteFrame e env):=by
 unfold noteFrame
 split
 ·refine (dk_field e 1).bind fun head=>?_
  have rest:∀ f:Addr,DK (do setField e 1 (← EntryCells.newEntry head (← PySem.frameOf env) .none (rawInt f) .none (← entryPlaceOf f (head != .none)))):=fun f=>(dk_frameOf env).bind fun _=>(dk_place _ _).bind fun _=>(dk_entry _ _ _ _ _ _).bind fun _=>dk_setField _ _ _ (by decide)
  split
  ·refine (dk_field head 3).bind fun x=>?_
   split
   ·trivial
   ·exact (dk_setField _ _ _ (by decide)).bind fun _=>rest _
  ·exact rest _
 ·trivial
theorem dk_leaving (env:Env) (e:Value):DK (leaving env e):=(dk_note e env).bind fun _=>dk_setFlight e none
section
variable {P:Program}{w:World}{H:Hp}{h h':Heap}
theorem HOk.tracked (x:HOk P w H h) (k:∀ b u o,H b=some o→h.get? b=some u→h'.get? b=some u):HOk P w H h':=fun a o e=>
 (x a o e).stay (fun b u hb q=>hb.elim (fun z=>k b u o (by rw [z];exact e) q) fun z=>k b u _ z q) (fun _ z=>z) fun _ _ z=>z
theorem HOk.alive (x:HOk P w H h) {a:Addr}{o:HO} (e:H a=some o):∃ u,h.get? a=some u:=by
 have q:=x a o e
 cases o with
 | lst xs=>obtain ⟨_,_,_,_,e⟩:=q;exact ⟨_,e⟩
 | tup xs=>obtain ⟨_,_,_,ob,e,_⟩:=q;exact ⟨_,e⟩
 | dK kvs=>obtain ⟨_,_,_,_,ob,_,_,e,_⟩:=q;exact ⟨_,e⟩
 | dT kvs=>obtain ⟨_,_,_,_,ob,_,_,e,_⟩:=q;exact ⟨_,e⟩
 | set S n=>obtain ⟨ob,_,_,_,e,_⟩:=q;exact ⟨_,e⟩
 | ins C dx fs=>obtain ⟨_,_,_,e,_⟩:=q;exact ⟨_,e⟩
 | own y=>exact q
 | xd fs=>obtain ⟨_,⟨_,_,_,e,_⟩,_⟩:=q;exact ⟨_,e⟩
 | rng lo hi=>obtain ⟨_,_,_,e⟩:=q;exact ⟨_,e⟩
 | frz ob u=>exact ⟨_,q.1⟩
 | tbl ps=>exact ⟨_,(show h.get? a=some _ from q)⟩
 | met f y=>exact ⟨_,(show h.get? a=some _ from q)⟩
 | ext φ=>exact q.2.1
end
def PayD (h:Heap) (H:Hp) (nw:Addr→Prop) (e:Addr):Option Addr→Prop
 | none=>True
 | some n=>∃ oe dx t,h.get? e=some oe∧oe.dict=some dx∧h.Ns1 dx (slotM n t)∧H dx=none∧nw dx
def PayOk (h:Heap) (H:Hp) (nw:Addr→Prop) (e:Addr) (pay:Option Addr):Prop:=(∃ oe,h.get? e=some oe∧fld2 oe=some .none)∧PayD h H nw e pay
theorem PayOk.keep {h h':Heap}{H:Hp}{nw nw':Addr→Prop}{e:Addr}{pay:Option Addr} (x:PayOk h H nw e pay) (kd:Kd h h') (he:∃ o,h'.get? e=some o) (st:∀ b o,h.get? b=some o→(∀ vs,o.data≠.fields vs)→∃ sl,h'.get? b=some { o with slots:=sl }) (hn:∀ a,nw a→nw' a):PayOk h' H nw' e pay:=by
 obtain ⟨⟨o0,g1,g2⟩,x⟩:=x
 obtain ⟨oe',he⟩:=he
 refine ⟨⟨oe',he,(kd.at g1 he).2.trans g2⟩,?_⟩
 cases pay with
 | none=>trivial
 | some n=>
  obtain ⟨oe,dx,t,h1,h2,⟨o,es,ep,q1,q2,q3⟩,h4,h5⟩:=x
  obtain ⟨sl,q4⟩:=st dx o q1 fun vs z=>by rw [q2] at z;cases z
  exact ⟨oe',dx,t,he,(kd.at h1 he).1.trans h2,⟨_,es,ep,q4,q2,q3⟩,h4,hn dx h5⟩
theorem PayOk.imp {h:Heap}{H:Hp}{nw nw':Addr→Prop}{e:Addr}{pay:Option Addr} (x:PayOk h H nw e pay) (hn:∀ a,nw a→nw' a):PayOk h H nw' e pay:=by
 obtain ⟨g,x⟩:=x
 refine ⟨g,?_⟩
 cases pay with
 | none=>trivial
 | some n=>
  obtain ⟨oe,dx,t,h1,h2,h3,h4,h5⟩:=x
  exact ⟨oe,dx,t,h1,h2,h3,h4,hn dx h5⟩
structure FlyT (h:Heap) (H:Hp) (h0:Heap) (e:Addr) (cls:Value) (pay:Option Addr):Prop where
 py:PayOk h H (fun a=>h0.get? a=none) e pay
 nw:h0.get? e=none
 fr:H e=none
 ob:∃ oe vs a0 T oT ts,h.get? e=some oe∧oe.cls=cls∧vs[0]? = some a0∧oe.data=.fields vs∧vs[1]? = some (.ref T)∧T≠e∧h0.get? T=none∧H T=none∧h.get? T=some oT∧oT.data=.fields ts∧ts[3]? = some .none
structure FlyN (h:Heap) (H:Hp) (h0:Heap) (e:Addr) (cls:Value) (pay:Option Addr):Prop where
 py:PayOk h H (fun a=>h0.get? a=none) e pay
 nw:h0.get? e=none
 fr:H e=none
 ob:∃ oe vs a0,h.get? e=some oe∧oe.cls=cls∧vs[0]? = some a0∧oe.data=.fields vs∧vs[1]? = some .none
def Fly (h:Heap) (H:Hp) (h0:Heap) (e:Addr) (cls:Value) (pay:Option Addr):Prop:=FlyN h H h0 e cls pay∨FlyT h H h0 e cls pay
def CXE (P:Program) (w:World):CXT:=fun outer H s E e s'=>∃ a H' cls pay,e=.ref a∧s'.os=s.os∧AllBare s'.gens∧Un (frs outer) [] H H' s.heap s'.heap∧HOk P w H' s'.heap∧FlyT s'.heap H' s.heap a cls pay∧E cls pay H'
theorem Un.dead {fs:List Addr}{H H':Hp}{h h':Heap} (u:Un fs [] H H' h h') {a:Addr} (n:h'.get? a=none):h.get? a=none:=by
 cases q:h.get? a with
 | none=>rfl
 | some o=>
  obtain ⟨o',e⟩:=u.there a o q (by simp)
  rw [n] at e;cases e
theorem leave_exc {P:Program}{w:World}{K:PySem.W.Frag}{mg:Str→Option Value}{base:Heap}{N:List Str}{qual:Str}{scope:Scope}{f:Addr}{cd:Value}{A:Around}{outer:List Env}{s0 s:Shared}{H0 H:Hp}{E:XK}{pins:List (Addr×Obj)}{σ:St}{e:Addr}{cls:Value}{pay:Option Addr}
  (I:Inv (cxOf (CXE P w) P w K mg base N qual scope f cd A outer s0 H0 E) pins σ H s) (fl:Fly s.heap H s0.heap e cls pay) (hE:E cls pay H) :
  (cxOf (CXE P w) P w K mg base N qual scope f cd A outer s0 H0 E).xe (.ref e) s:=by
 generalize hX:cxOf (CXE P w) P w K mg base N qual scope f cd A outer s0 H0 E=X at I ⊢
 have hxe:X.xe=fun e s'=>wpAny (model P w) X.A (leaving X.env e) (fun _ s''=>CXE P w outer H0 s0 E e s'') (fun e' s''=>CXE P w outer H0 s0 E e' s'') s':=by rw [← hX];rfl
 have hst:X.stack=X.env::outer:=by rw [← hX];rfl
 have hfr:X.A.frames=some (X.env::outer):=by rw [← hst];exact I.ok.frames
 have hf:X.env.frame=some X.env.locals:=by rw [← hX];rfl
 have hl:=I.stack
 rw [hst] at hl
 have u:Un (frs outer) [] H0 H s0.heap s.heap:=by
  have:=I.base
  rw [← hX] at this
  exact this
 have hos:s.os=s0.os:=by
  have:=I.os
  rw [← hX] at this
  exact this
 have hok:HOk P w H s.heap:=by
  have:=I.hok
  rw [← hX] at this
  exact this
 have free:=I.stkFree
 rw [hst] at free
 have lf:∀ b,b∈frs (X.env::outer)→(∃ o,s.heap.get? b=some o∧∀ vs,o.data≠.fields vs):=fun b m=>(hl.mem m).2
 have fnw:s0.heap.get? e=none:=fl.elim (·.nw) (·.nw)
 have ffr:H e=none:=fl.elim (·.fr) (·.fr)
 have fpy:PayOk s.heap H (fun a=>s0.heap.get? a=none) e pay:=fl.elim (·.py) (·.py)
 rw [hxe]
 dsimp only
 have fin:∀ (xs:List Addr) (h':Heap),(∀ x∈xs,s0.heap.get? x=none∧H x=none)→(∃ a0,Heap.LeftW (PySem.W.hideAll s.heap (frs (X.env::outer)++xs)) (X.env::outer) e cls a0 s.heap h')→e∈xs→Kd s.heap h'→CXE P w outer H0 s0 E (.ref e) { s with heap:=h' }:=fun xs h' hxs hL mex kd=>by
  obtain ⟨a0,k1,k2,k3,k4⟩:=hL
  have stay:∀ b o,s.heap.get? b=some o→b∉frs (X.env::outer)→b∉xs→h'.get? b=some o:=fun b o q n1 n2=>k1 b o (PySem.W.hideAll_get _ q fun m=>(List.mem_append.mp m).elim n1 n2)
  have nx:∀ b o,s0.heap.get? b=some o→b∉xs:=fun b o q m=>by rw [(hxs b m).1] at q;cases q
  have nloc:∀ b o,s0.heap.get? b=some o→b≠X.env.locals:=fun b o q z=>by
   have h1:=I.ok.above
   have h2:X.s₀=s0:=by rw [← hX];rfl
   rw [h2,← z] at h1
   exact absurd (Heap.lt_size q) (Nat.not_lt.mpr h1)
  have nfr:∀ b o,s0.heap.get? b=some o→b∉frs outer→b∉frs (X.env::outer):=fun b o q n m=>by
   have m:b∈(X.env::outer).filterMap (·.frame):=m
   rw [List.filterMap_cons,hf] at m
   exact (List.mem_cons.mp m).elim (nloc b o q) n
  have sub:∀ b,b∈frs outer→b∈frs (X.env::outer):=fun b m=>by
   show b∈(X.env::outer).filterMap (·.frame)
   rw [List.filterMap_cons,hf]
   exact List.mem_cons_of_mem _ m
  refine ⟨e,H,cls,pay,rfl,hos,I.bare,⟨fun b o q n nf _=>?_,fun b o q n m _=>?_,u.free,fun b o q _=>?_,u.tups,u.frzs,u.tbls⟩,hok.tracked fun b v o hb q=>?_,⟨fpy.keep kd (by obtain ⟨oe,vs,T,oT,ts,r1,_⟩:=k3;exact ⟨oe,r1⟩) k4 fun _ z=>z,fnw,ffr,?_⟩,hE⟩
  ·exact stay b o (u.keep b o q n nf (by simp)) (nfr b o q nf) (nx b o q)
  ·obtain ⟨sl,q2⟩:=u.slot b o q n m (by simp)
   obtain ⟨o2,q3,q4⟩:=lf b (sub b m)
   rw [q2] at q3
   cases q3
   obtain ⟨sl',q5⟩:=k4 b _ q2 q4
   exact ⟨sl',q5⟩
  ·obtain ⟨o',q2⟩:=u.there b o q (by simp)
   by_cases m:b∈frs (X.env::outer)
   ·obtain ⟨o2,q3,q4⟩:=lf b m
    rw [q2] at q3
    cases q3
    obtain ⟨sl',q5⟩:=k4 b _ q2 q4
    exact ⟨_,q5⟩
   ·exact ⟨o',stay b o' q2 m (nx b o q)⟩
  ·refine stay b v q (fun m=>?_) fun m=>?_
   ·rw [free b m] at hb;cases hb
   ·rw [(hxs b m).2] at hb;cases hb
  ·obtain ⟨oe,vs,T,oT,ts,r1,⟨r2,r0⟩,r3,r4,r5,r6,r7,r8,r9⟩:=k3
   refine ⟨oe,vs,a0,T,oT,ts,r1,r2,r0,r3,r4,r6,?_,?_,r7,r8,r9⟩
   ·cases q:s0.heap.get? T with
    | none=>rfl
    | some o=>
     exfalso
     obtain ⟨o',q2⟩:=u.there T o q (by simp)
     by_cases m:T∈frs (X.env::outer)
     ·obtain ⟨o2,q3,q4⟩:=(k2.mem m).2
      rw [r7] at q3
      cases q3
      exact q4 ts r8
     ·have:=PySem.W.hideAll_get (frs (X.env::outer)++xs) q2 fun z=>(List.mem_append.mp z).elim m (nx T o q)
      rw [r5] at this;cases this
   ·cases q:H T with
    | none=>rfl
    | some o=>
     exfalso
     obtain ⟨v,q2⟩:=hok.alive q
     have:=PySem.W.hideAll_get (frs (X.env::outer)++xs) q2 fun z=>(List.mem_append.mp z).elim (fun m=>by rw [free T m] at q;cases q) fun m=>by rw [(hxs T m).2] at q;cases q
     rw [r5] at this;cases this
 have hide:∀ xs:List Addr,s.heap.FunFrames (PySem.W.hideAll s.heap (frs (X.env::outer)++xs)) (X.env::outer):=fun xs=>PySem.W.funFrames_hide hl fun env' he a ha=>List.mem_append_left _ (List.mem_filterMap.mpr ⟨env',he,ha⟩)
 rcases fl with fl | fl
 ·obtain ⟨oe,vs,a0,h1,h2,h0,h3,h5⟩:=fl.ob
  refine wpAny_mono (wpAny_dk (dk_leaving _ _) (wpAny_leaving_firstW (Q:=fun _ s''=>∃ h',s''={ s with heap:=h' }∧Heap.LeftW (PySem.W.hideAll s.heap (frs (X.env::outer)++[e])) (X.env::outer) e oe.cls a0 s.heap h') (E:=fun _ _=>False) (base:=PySem.W.hideAll s.heap (frs (X.env::outer)++[e])) hfr (hide _) hf h1 (fun b o q=>PySem.W.of_hideAll _ q) (PySem.W.hideAll_none _ (by simp)) h3 h5 h0 fun h' hL=>⟨h',rfl,hL⟩)) (fun _ s'' ⟨⟨h',eh,hL⟩,kd⟩=>?_) fun _ _ z=>z.1.elim
  subst eh
  rw [h2] at hL
  exact fin [e] h' (fun x m=>by rw [List.mem_singleton.mp m];exact ⟨fnw,ffr⟩) ⟨a0,hL⟩ (by simp) kd
 ·obtain ⟨oe,vs,a0,T,oT,ts,h1,h2,h0,h3,t1,t2,t3,t4,t5,t6,t7⟩:=fl.ob
  refine wpAny_mono (wpAny_dk (dk_leaving _ _) (wpAny_leaving_nextW (Q:=fun _ s''=>∃ h',s''={ s with heap:=h' }∧Heap.LeftW (PySem.W.hideAll s.heap (frs (X.env::outer)++[e,T])) (X.env::outer) e cls a0 s.heap h') (E:=fun _ _=>False) (base:=PySem.W.hideAll s.heap (frs (X.env::outer)++[e,T])) (cls:=cls) (a0:=a0) hfr (hide _) hf ⟨oe,vs,T,oT,ts,h1,⟨h2,h0⟩,h3,t1,PySem.W.hideAll_none _ (by simp),t2,t5,t6,t7⟩ (fun b o q=>PySem.W.of_hideAll _ q) (PySem.W.hideAll_none _ (by simp)) fun h' hL=>⟨h',rfl,hL⟩)) (fun _ s'' ⟨⟨h',eh,hL⟩,kd⟩=>?_) fun _ _ z=>z.1.elim
  subst eh
  refine fin [e,T] h' (fun x m=>?_) ⟨a0,hL⟩ (by simp) kd
  rcases List.mem_cons.mp m with z | z
  ·rw [z];exact ⟨fnw,ffr⟩
  ·rw [List.mem_singleton.mp z];exact ⟨t3,t4⟩
abbrev XS:=Value→Option Addr→St→Hp→Prop
def ThrowsN (X:Cx) (E:XS):Prop:=∀ (pins:List (Addr×Obj)) (σ:St) (H:Hp) (s:Shared) (e:Addr) (cls:Value) (pay:Option Addr),Inv X pins σ H s→FlyN s.heap H X.s₀.heap e cls pay→E cls pay σ H→X.xe (.ref e) s
theorem throwsN_def {P:Program}{w:World}{K:PySem.W.Frag}{mg:Str→Option Value}{base:Heap}{N:List Str}{qual:Str}{scope:Scope}{f:Addr}{cd:Value}{A:Around}{outer:List Env}{s0:Shared}{H0:Hp}{E:XK} :
  ThrowsN (cxOf (CXE P w) P w K mg base N qual scope f cd A outer s0 H0 E) (fun cls pay _ H=>E cls pay H):=fun pins σ H s e cls pay I fl hE=>leave_exc I (.inl fl) hE
structure ExcCls (K:PySem.W.Frag) (C:Addr):Prop where
 ex:∃ B newId initId bmB bm N nm qn bs hdct sn sub ab col dd k0 k1 k2 k3 k5,ExcBaseFacts B newId initId bmB∧K.lookup C=some (excClassObj nm qn C N bs bm hdct sn sub ab col dd k0 k1 k2 k3 k5 newId) ∧
  PySem.W.nsOkIn K N=true∧PySem.W.nsIn K N "__init__"=some none∧PySem.W.tailIn K bmB bm=true
def tRaise (C:Addr) (E:XS) (t:TA):TS:=fun _ σ H=>t σ H fun vs H1=>vs.length≤sizeLine∧E (.ref C) none σ H1
section
variable {X:Cx}{x:Str}{C:Addr}{np cpos pos:Pos}{e:Expr}{es:List Expr}{t:TA}{E:XS}
theorem ps_raise (hc:X.calm=true) (hx:X.ex=[]) (th:ThrowsN X E) (cl:ExcCls X.K C) (hg:Gl X x) (hm:X.mg x=some (.ref C)) (ha:PA X (e::es) t) (hdb:(x == ("__debug__":Str))=false:=by decide)
  (he:starEach (e::es) X.env=(false,eval e X.env)::starEach es X.env:=by rfl) (hpl:(backTo cpos (starEach es X.env)).any (·.1)=false:=by rfl) :
  PS X (.Raise (some (.Call (.Name x np) (e::es) [] cpos)) none pos) (tRaise C E t):=by
 intro pins s σ H D I h
 obtain ⟨B,newId,initId,bmB,bm,N,nm,qn,bs,hdct,sn,sub,ab,col,dd,k0,k1,k2,k3,k5,FB,hl,n1,n2,n3⟩:=cl.ex
 have hh:X.A.handled=none:=I.ok.hd hc
 have KI:=I.ok.mod.kin
 have hC:=KI _ _ hl
 have hN:=Heap.Ns.of_isNs (PySem.W.isNs_of_in KI n1)
 have hni:=PySem.W.nsMap_none_of_in KI n1 n2
 have T:=PySem.W.tail_of_in KI n3
 refine wpAny_Raise_call_subT (C:=C) (nm:=nm) (q:=qn) (N:=N) (bs:=bs) (bm:=bm) (hdct:=hdct) (sn:=sn) (sub:=sub) (ab:=ab) (col:=col) (dd:=dd) (k0:=k0) (k1:=k1) (k2:=k2) (k3:=k3) (k5:=k5)
  FB (T.hasType FB.hasBase) hh (by rw [he];show (false||(backTo cpos (starEach es X.env)).any (·.1))=false;rw [hpl];rfl) hni (ld_glob I hg hm ⟨rfl,?_⟩ hdb)
 have key:=ha cpos pins s σ H _ I h
 rw [he] at key ⊢
 refine Calls.evalArgs_plain (wpAny_mono key (fun us s1 hq=>?_) fun _ _ y=>y)
 obtain ⟨vs,H1,I1,r,hz,q1⟩:=hq
 refine ⟨rfl,by rw [← r.length];exact hz,I1.bk _ _ hC,hN.keeps I1.bk,T.keeps I1.bk,fun h' e' hm'=>?_⟩
 have I2:Inv X pins σ H1 { s1 with heap:=h' }:=I1.kept (t':=s1.toks) hm'.keeps
 refine th pins σ H1 _ e' (.ref C) none I2 ⟨⟨?_,trivial⟩,?_,?_,?_⟩ q1
 ·obtain ⟨tp,z,_,_⟩:=hm'.there
  exact ⟨_,z,rfl⟩
 ·have u:=I1.base
  rw [hx] at u
  exact u.dead hm'.new
 ·cases qq:H1 e' with
  | none=>rfl
  | some o=>
   obtain ⟨v,z⟩:=I1.hok.alive qq
   rw [hm'.new] at z;cases z
 ·obtain ⟨tp,z,_,_⟩:=hm'.there
  exact ⟨_,_,_,z,rfl,rfl,rfl,rfl⟩
end
section
variable {X:Cx}{pins:List (Addr×Obj)}{σ:St}{H:Hp}{s:Shared}{h':Heap}
theorem Inv.slots (I:Inv X pins σ H s) (xs:List Addr) (stay:∀ b o,s.heap.get? b=some o→b∉frs X.stack→b∉xs→h'.get? b=some o) (slot:∀ b o,s.heap.get? b=some o→b∈frs X.stack→∃ sl,h'.get? b=some { o with slots:=sl })
  (hxs:∀ x∈xs,X.s₀.heap.get? x=none∧H x=none∧x≠X.env.locals∧(∀ y c,X.env.cells.lookup y=some c→c≠x)∧∀ p∈X.pn++pins,p.1≠x):Inv X pins σ H { s with heap:=h' }:=by
 have any:∀ b o,s.heap.get? b=some o→b∉xs→∃ sl,h'.get? b=some { o with slots:=sl }:=fun b o q n=>by
  by_cases m:b∈frs X.stack
  ·exact slot b o q m
  ·exact ⟨o.slots,stay b o q m n⟩
 have out:∀ b,b≠X.env.locals→b∉X.fs→b∉frs X.stack:=fun b n1 n2 m=>(List.mem_cons.mp (I.stkSub b m)).elim n1 n2
 have neL:∀ b o,X.s₀.heap.get? b=some o→b≠X.env.locals:=fun b o e=>Nat.ne_of_lt (Nat.lt_of_lt_of_le (Heap.lt_size e) I.ok.above)
 have neX:∀ b o,X.s₀.heap.get? b=some o→b∉xs:=fun b o e m=>by rw [(hxs b m).1] at e;cases e
 have cellK:∀ x c,X.env.cells.lookup x=some c→∀ v,s.heap.IsCell c v→h'.IsCell c v:=fun x c e v ⟨o,ho,hd⟩=>by
  obtain ⟨sl,q⟩:=any c o ho fun z=>(hxs c z).2.2.2.1 x c e rfl
  exact ⟨_,q,hd⟩
 refine ⟨I.ok,I.os,I.bare,⟨fun b o e n hb hx=>?_,fun b o e n hb hx=>?_,I.base.free,fun b o e hx=>?_,I.base.tups,I.base.frzs,I.base.tbls⟩,?_,fun x c e=>?_,I.free,I.freeC,fun p hp=>?_,I.hok.tracked fun b v o hb q=>?_,I.len,I.hq⟩
 ·exact stay b o (I.base.keep b o e n hb hx) (out b (neL b o e) hb) (neX b o e)
 ·obtain ⟨sl,e1⟩:=I.base.slot b o e n hb hx
  obtain ⟨sl',e2⟩:=any b _ e1 (neX b o e)
  exact ⟨sl',e2⟩
 ·obtain ⟨o',e1⟩:=I.base.there b o e hx
  obtain ⟨sl,e2⟩:=any b o' e1 (neX b o e)
  exact ⟨_,e2⟩
 ·obtain ⟨m,⟨o,es,ep,ho,r⟩,hl⟩:=I.loc
  obtain ⟨sl,hL⟩:=any _ o ho fun z=>(hxs _ z).2.2.1 rfl
  refine ⟨m,⟨_,es,ep,hL,r⟩,fun i x v e1 e2 e3=>?_⟩
  obtain ⟨u,rr,l⟩:=hl i x v e1 e2 e3
  refine ⟨u,rr,?_⟩
  rcases l with l | ⟨k,c,e,z⟩
  ·exact .inl l
  ·exact .inr ⟨k,c,e,cellK x c e _ z⟩
 ·obtain ⟨v,z⟩:=I.cell x c e
  exact ⟨v,cellK x c e v z⟩
 ·obtain ⟨e,n,ne,nf,d⟩:=I.pin p hp
  exact ⟨stay p.1 p.2 e (out p.1 ne nf) fun z=>(hxs p.1 z).2.2.2.2 p hp rfl,n,ne,nf,d⟩
 ·refine stay b v q (fun m=>?_) fun m=>?_
  ·rw [I.stkFree b m] at hb;cases hb
  ·rw [(hxs b m).2.1] at hb;cases hb
theorem Inv.apart (I:Inv X pins σ H s) {x:Addr} (hx:X.ex=[]) (n:s.heap.get? x=none):X.s₀.heap.get? x=none∧x≠X.env.locals∧(∀ y c,X.env.cells.lookup y=some c→c≠x)∧∀ p∈X.pn++pins,p.1≠x:=by
 refine ⟨?_,fun z=>?_,fun y c e z=>?_,fun p hp z=>?_⟩
 ·have u:=I.base
  rw [hx] at u
  exact u.dead n
 ·obtain ⟨m,⟨o,_,_,ho,_⟩,_⟩:=I.loc
  rw [← z,n] at ho;cases ho
 ·obtain ⟨v,o,ho,_⟩:=I.cell y c e
  rw [z,n] at ho;cases ho
 ·have:=(I.pin p hp).1
  rw [z,n] at this;cases this
abbrev Apart (X:Cx) (pins:List (Addr×Obj)) (a:Addr):Prop:=X.s₀.heap.get? a=none∧a≠X.env.locals∧(∀ y c,X.env.cells.lookup y=some c→c≠a)∧∀ p∈X.pn++pins,p.1≠a
structure Landed (X:Cx) (pins:List (Addr×Obj)) (σ:St) (H:Hp) (e:Addr) (cls:Value) (pay:Option Addr) (s:Shared):Prop where
 py:PayOk s.heap H (Apart X pins) e pay
 inv:Inv X pins σ H s
 fr:H e=none
 ap:X.s₀.heap.get? e=none∧e≠X.env.locals∧(∀ y c,X.env.cells.lookup y=some c→c≠e)∧∀ p∈X.pn++pins,p.1≠e
 ob:∃ oe vs a0 T oT ts,s.heap.get? e=some oe∧oe.cls=cls∧vs[0]? = some a0∧oe.data=.fields vs∧vs[1]? = some (.ref T)∧T≠e∧H T=none∧(X.s₀.heap.get? T=none∧T≠X.env.locals∧(∀ y c,X.env.cells.lookup y=some c→c≠T)∧∀ p∈X.pn++pins,p.1≠T)∧s.heap.get? T=some oT∧oT.data=.fields ts∧ts[3]? = some .none
end
section
variable {X:Cx}{pins:List (Addr×Obj)}{σ:St}{H:Hp}{s:Shared}{e:Addr}{cls:Value}{pay:Option Addr}{M:Model}{A':Around}{E':Value→Shared→Prop}
theorem land {xs:List Addr}{h':Heap}{a0:Value} (I:Inv X pins σ H s) (hx:X.ex=[]) (fr:H e=none) (ap:X.s₀.heap.get? e=none∧e≠X.env.locals∧(∀ y c,X.env.cells.lookup y=some c→c≠e)∧∀ p∈X.pn++pins,p.1≠e) (mex:e∈xs)
  (hxs:∀ x∈xs,H x=none∧X.s₀.heap.get? x=none∧x≠X.env.locals∧(∀ y c,X.env.cells.lookup y=some c→c≠x)∧∀ p∈X.pn++pins,p.1≠x)
  (fl:Heap.FlyingW (PySem.W.hideAll s.heap (frs X.stack++xs)) X.stack e cls a0 h') (up:s.heap.UpToSlots h') (py:PayOk s.heap H (Apart X pins) e pay) (kd:Kd s.heap h'):Landed X pins σ H e cls pay { s with heap:=h' }:=by
 obtain ⟨k1,k2,k3,oe,vs,T,oT,ts,r1,⟨r2,r0⟩,r3,r4,r5,r6,r7,r8,r9⟩:=fl
 have stay:∀ b o,s.heap.get? b=some o→b∉frs X.stack→b∉xs→h'.get? b=some o:=fun b o q n1 n2=>k1 b o (PySem.W.hideAll_get _ q fun m=>(List.mem_append.mp m).elim n1 n2)
 have slot:∀ b o,s.heap.get? b=some o→b∈frs X.stack→∃ sl,h'.get? b=some { o with slots:=sl }:=fun b o q m=>by
  obtain ⟨_,o2,q3,q4⟩:=I.stack.mem m
  rw [q] at q3
  cases q3
  exact up b o q q4
 have J:Inv X pins σ H { s with heap:=h' }:=I.slots xs stay slot fun x m=>let ⟨a,b,c⟩:=hxs x m;⟨b,a,c⟩
 have tH:H T=none:=by
  cases q:H T with
  | none=>rfl
  | some o=>
   exfalso
   obtain ⟨v,q2⟩:=I.hok.alive q
   have:=PySem.W.hideAll_get (frs X.stack++xs) q2 fun z=>(List.mem_append.mp z).elim (fun m=>by rw [I.stkFree T m] at q;cases q) fun m=>by rw [(hxs T m).1] at q;cases q
   rw [r5] at this;cases this
 have tF:T∉frs X.stack:=fun m=>by
  obtain ⟨_,o2,q3,q4⟩:=k3.mem m
  rw [r7] at q3
  cases q3
  exact q4 ts r8
 have tA:X.s₀.heap.get? T=none∧T≠X.env.locals∧(∀ y c,X.env.cells.lookup y=some c→c≠T)∧∀ p∈X.pn++pins,p.1≠T:=by
  by_cases m:T∈xs
  ·exact (hxs T m).2
  ·have dead:s.heap.get? T=none:=by
    cases q:s.heap.get? T with
    | none=>rfl
    | some o=>
     have:=PySem.W.hideAll_get (frs X.stack++xs) q fun z=>(List.mem_append.mp z).elim tF m
     rw [r5] at this;cases this
   refine ⟨?_,fun z=>?_,fun y c e z=>?_,fun p hp z=>?_⟩
   ·cases q:X.s₀.heap.get? T with
    | none=>rfl
    | some o=>
     exfalso
     obtain ⟨o',q2⟩:=I.base.there T o q (by rw [hx];simp)
     rw [dead] at q2;cases q2
   ·obtain ⟨m,⟨o,_,_,ho,_⟩,_⟩:=I.loc
    rw [← z,dead] at ho;cases ho
   ·obtain ⟨v,o,ho,_⟩:=I.cell y c e
    rw [z,dead] at ho;cases ho
   ·have:=(I.pin p hp).1
    rw [z,dead] at this;cases this
 exact ⟨py.keep kd ⟨oe,r1⟩ up fun _ z=>z,J,fr,ap,oe,vs,a0,T,oT,ts,r1,r2,r0,r3,r4,r6,tH,tA,r7,r8,r9⟩
theorem Landed.looks {R:Shared→Prop} (L:Landed X pins σ H e cls pay s) (hx:X.ex=[]) (hst:X.stack=X.env::X.outer) (hf:X.env.frame=some X.env.locals) (k:∀ s3,Landed X pins σ H e cls pay s3→R s3) :
  wpAny M X.A (noteFrame (.ref e) X.env) (fun _ s2=>wpAny M X.A (setFlight (.ref e) none) (fun _ s3=>R s3) E' s2) E' s:=by
 obtain ⟨oe,vs,a0,T,oT,ts,h1,h2,h0,h3,t1,t2,tH,tA,t5,t6,t7⟩:=L.ob
 have I:=L.inv
 have hfr:X.A.frames=some (X.env::X.outer):=by rw [← hst];exact I.ok.frames
 have F:Heap.FlyingW (PySem.W.hideAll s.heap (frs X.stack++[e,T])) (X.env::X.outer) e cls a0 s.heap:=by
  rw [← hst]
  exact ⟨fun b o q=>PySem.W.of_hideAll _ q,PySem.W.hideAll_none _ (by simp),PySem.W.funFrames_hide I.stack fun env' he a ha=>List.mem_append_left _ (List.mem_filterMap.mpr ⟨env',he,ha⟩),oe,vs,T,oT,ts,h1,⟨h2,h0⟩,h3,t1,PySem.W.hideAll_none _ (by simp),t2,t5,t6,t7⟩
 refine wpAny_mono (wpAny_dk (dk_note _ _) (wpAny_looks_onW (Q:=fun _ s4=>∃ h4,s4={ s with heap:=h4 }∧Heap.HeldW (PySem.W.hideAll s.heap (frs X.stack++[e,T])) (X.env::X.outer) e cls a0 X.env.locals h4∧s.heap.UpToSlots h4) (E:=fun _ _=>False) hfr hf F fun h4 held up4=>⟨h4,rfl,held,up4⟩)) (fun _ s4 ⟨⟨h4,e4,held,up4⟩,kd4⟩=>?_) fun _ _ z=>z.1.elim
 subst e4
 refine wpAny_mono (wpAny_dk (dk_setFlight _ _) (wpAny_landsW (s:={ s with heap:=h4 }) (Q:=fun _ s5=>∃ h5,s5={ s with heap:=h5 }∧Heap.FlyingW (PySem.W.hideAll s.heap (frs X.stack++[e,T])) (X.env::X.outer) e cls a0 h5∧h4.UpToSlots h5) (E:=fun _ _=>False) held fun h5 fl5 up5=>⟨h5,rfl,fl5,up5⟩)) (fun _ s5 ⟨⟨h5,e5,fl5,up5⟩,kd5⟩=>?_) fun _ _ z=>z.1.elim
 subst e5
 refine k _ (show Landed X pins σ H e cls pay { s with heap:=h5 } from land (s:=s) (a0:=a0) (xs:=[e,T]) I hx L.fr L.ap (by simp) (fun x m=>?_) ?_ (up4.trans up5) L.py (kd4.trans kd5))
 ·rcases List.mem_cons.mp m with z | z
  ·rw [z];exact ⟨L.fr,L.ap⟩
  ·rw [List.mem_singleton.mp z];exact ⟨tH,tA⟩
 ·rw [← hst] at fl5
  exact fl5
theorem Landed.flyT (L:Landed X pins σ H e cls pay s):FlyT s.heap H X.s₀.heap e cls pay:=by
 obtain ⟨oe,vs,a0,T,oT,ts,h1,h2,h0,h3,t1,t2,tH,tA,t⟩:=L.ob
 exact ⟨L.py.imp fun _ z=>z.1,L.ap.1,L.fr,oe,vs,a0,T,oT,ts,h1,h2,h0,h3,t1,t2,tA.1,tH,t⟩
end
def ThrowsT (X:Cx) (E:XS):Prop:=∀ (pins:List (Addr×Obj)) (σ:St) (H:Hp) (s:Shared) (e:Addr) (cls:Value) (pay:Option Addr),Landed X pins σ H e cls pay s→E cls pay σ H→X.xe (.ref e) s
theorem throwsT_def {P:Program}{w:World}{K:PySem.W.Frag}{mg:Str→Option Value}{base:Heap}{N:List Str}{qual:Str}{scope:Scope}{f:Addr}{cd:Value}{A:Around}{outer:List Env}{s0:Shared}{H0:Hp}{E:XK} :
  ThrowsT (cxOf (CXE P w) P w K mg base N qual scope f cd A outer s0 H0 E) (fun cls pay _ H=>E cls pay H):=fun pins σ H s e cls pay L hE=>leave_exc L.inv (.inr L.flyT) hE
section
variable {M:Model}{A:Around}{E:Value→Shared→Prop}
variable {nm q:Str}{C N:Addr}{bs bm:List Value}{hdct:Bool}{sn:List Str}{sub:List Value}{ab:Bool}{col:Option Bool}{dd:Option Addr}{k0 k1 k2 k3 k5:Option Value}{newId:String}
variable {nm' q':Str}{D N':Addr}{bs' bm':List Value}{hdct':Bool}{sn':List Str}{sub':List Value}{ab':Bool}{col':Option Bool}{dd':Option Addr}{j0 j1 j2 j3 j5:Option Value}{newId':String}
theorem matches_own {h:Heap}{g:Array GenState}{d:Drawn}{t:Nat}{os:OsState}{e:Addr}{oe:Obj}{Q:Bool→Shared→Prop}
  (hC:h.get? C=some (excClassObj nm q C N bs bm hdct sn sub ab col dd k0 k1 k2 k3 k5 newId)) (hD:h.get? D=some (excClassObj nm' q' D N' bs' bm' hdct' sn' sub' ab' col' dd' j0 j1 j2 j3 j5 newId')) (he:h.get? e=some oe) (hcls:oe.cls=.ref C)
  (hb:bm'.contains (.type "BaseException")=true) (hq:Q ((Value.ref C::bm).contains (.ref D)) ⟨h,g,d,t,os⟩):wpAny M A (excMatches (.ref e) (.ref D)) Q E ⟨h,g,d,t,os⟩:=by
 have hcB:(Value.ref D::bm').contains (.type "BaseException")=true:=by rw [List.contains_cons,hb,Bool.or_true]
 have f:=tc_notTuple
 unfold excMatches
 repeat (first | (with_reducible refine wpAny_loadPart_at he ?_;rw [hcls]) | with_reducible refine wpAny_loadPart_at hD ?_ | (with_reducible refine wpAny_isSubtype_exc hD ?_;rw [hcB]) | (with_reducible refine wpAny_isSubtype_exc hC ?_) | wp_step)
 cases hz:(Value.ref C::bm).contains (.ref D) <;> (rw [hz] at hq;wp_walk;exact hq)
end
section
variable {X:Cx}{pins:List (Addr×Obj)}{σ:St}{H:Hp}{s:Shared}{e:Addr}{cls:Value}{pay:Option Addr}{M:Model}{A':Around}{E':Value→Shared→Prop}
theorem Landed.again {Q:Unit→Shared→Prop} (L:Landed X pins σ H e cls pay s) (hx:X.ex=[]) (k:∀ s',Landed X pins σ H e cls pay s'→Q () s'):wpAny M A' (setFlight (.ref e) none) Q E' s:=by
 obtain ⟨oe,vs,a0,T,oT,ts,h1,h2,h0,h3,t1,t2,tH,tA,t5,t6,t7⟩:=L.ob
 have I:=L.inv
 refine wpAny_mono (wpAny_dk (dk_setFlight _ _) (wpAny_setFlight_noneW (Q:=fun _ s'=>∃ h',s'={ s with heap:=h' }∧(PySem.W.hideAll s.heap (frs X.stack++[e,T])).StaysIn h'∧h'.FunFrames (PySem.W.hideAll s.heap (frs X.stack++[e,T])) X.stack∧h'.TracedW (PySem.W.hideAll s.heap (frs X.stack++[e,T])) e cls a0∧(∀ b o,s.heap.get? b=some o→(∀ vs,o.data≠.fields vs)→h'.get? b=some o)) (E:=fun _ _=>False) (base:=PySem.W.hideAll s.heap (frs X.stack++[e,T])) (l:=X.stack) (cls:=cls) (a0:=a0) (fl:=.none) (fun b o q=>PySem.W.of_hideAll _ q)
  (PySem.W.funFrames_hide I.stack fun env' he a ha=>List.mem_append_left _ (List.mem_filterMap.mpr ⟨env',he,ha⟩)) ⟨oe,vs,T,oT,ts,h1,⟨h2,h0⟩,h3,t1,PySem.W.hideAll_none _ (by simp),t2,t5,t6,t7⟩ fun h' k1 k2 k3 k4=>⟨h',rfl,k1,k2,k3,k4⟩)) (fun _ s' ⟨⟨h',eh,k1,k2,k3,k4⟩,kd⟩=>?_) fun _ _ z=>z.1.elim
 subst eh
 refine k _ (land (a0:=a0) (xs:=[e,T]) I hx L.fr L.ap (by simp) (fun x m=>?_) ⟨k1,PySem.W.hideAll_none _ (by simp),k2,k3⟩ (fun b o q n=>⟨o.slots,k4 b o q n⟩) L.py kd)
 rcases List.mem_cons.mp m with z | z
 ·rw [z];exact ⟨L.fr,L.ap⟩
 ·rw [List.mem_singleton.mp z];exact ⟨tH,tA⟩
end
def XEnd (X:Cx) (pins:List (Addr×Obj)) (σ:St) (E:XK) (e:Value) (s':Shared):Prop:=∃ a cls pay H',e=.ref a∧Landed X pins σ H' a cls pay s'∧E cls pay H'
abbrev TX:=St→Hp→VK→XK→Prop
def PX (X:Cx) (e:Expr) (t:TX):Prop:=
 ∀ (pins:List (Addr×Obj)) (s:Shared) (σ:St) (H:Hp) (Q:VK) (E:XK),Inv X pins σ H s→t σ H Q E→wpAny (model X.prog X.w) X.A (eval e X.env) (EP X pins σ Q) (XEnd X pins σ E) s
section
variable {X:Cx}{cm:Bool}{k:Nat}{f C:Addr}{fd:FuncData}{ps:List Str}{sp:Sp}{dvs:List V}{ds:List Value}{x m:Str}{p pos apos:Pos}{e o:Expr}{es:List Expr}{ta:TE}{t:TA}
theorem landed_of {pins:List (Addr×Obj)}{σ:St}{H:Hp}{s s':Shared}{E:XK}{e:Value} (I:Inv X pins σ H s) (hx:X.ex=[]) (h:CXE X.prog X.w X.stack H s E e s'):XEnd X pins σ E e s':=by
 obtain ⟨a,H',cls,pay,rfl,os,bare,un,hok,fl,hE⟩:=h
 have I':Inv X pins σ H' s':=I.call' (ch:=[]) os un hok bare fun b z=>absurd z (by simp)
 obtain ⟨oe,vs,a0,T,oT,ts,h1,h2,h0,h3,t1,t2,t3,t4,t5⟩:=fl.ob
 exact ⟨a,cls,pay,H',rfl,⟨fl.py.imp fun _ z=>I.apart hx z,I',fl.fr,I.apart hx fl.nw,oe,vs,a0,T,oT,ts,h1,h2,h0,h3,t1,t2,t4,I.apart hx t3,t5⟩,hE⟩
theorem run_fnX {pins:List (Addr×Obj)}{σ:St}{H:Hp}{s:Shared}{Q:VK}{E:XK}{us:List Value}{vs:List V} (F:FnOk X.prog X.w X.K X.mg X.base (CXE X.prog X.w) k f fd ps sp cm) (hr:Room k X.A cm) (hb:Binds X.K fd ps ds) (hd:Vals dvs ds) (hx:X.ex=[])
  (I:Inv X pins σ H s) (r:Vals vs us) (h:sp (vs++dvs) H Q E):wpAny (model X.prog X.w) X.A (call (.ref f) us) (EP X pins σ Q) (XEnd X pins σ E) s:=by
 have r2:Vals (vs++dvs) (us++ds):=r.append hd
 have hl:(us++ds).length=ps.length:=by rw [← r2.length];exact F.len _ _ _ _ h
 refine wpAny_call (codeAny_mono (F.run X.A X.stack s H ⟨us,[]⟩ (us++ds) (vs++dvs) Q E hr I.env0 (hb s us I.kIn hl) r2 h) fun r s' hq=>?_)
 cases r with
 | error e=>exact landed_of I hx hq
 | ok fl=>
  cases fl with
  | ret u=>exact I.after hq
  | next=>exact False.elim hq
  | brk=>exact False.elim hq
  | cont=>exact False.elim hq
def tMethX (C:Addr) (m:Str) (sp:Sp) (dvs:List V) (ta:TE) (t:TA):TX:=fun σ H Q E=>ta σ H fun x H1=>∃ a dx fs,x=.ref a∧H1 a=some (.ins C dx fs)∧fs.lookup m=none ∧
 t σ H1 fun vs H2=>sp (x::(vs++dvs)) H2 Q E
theorem pa_x {pins:List (Addr×Obj)}{s:Shared}{σ:St}{H:Hp}{Q:List V→Hp→Prop}{E':Value→Shared→Prop} (ha:PA X.nox es t) (I:Inv X pins σ H s) (h:t σ H Q) :
  wpAny (model X.prog X.w) X.A (spliced (backTo pos (starEach es X.env))) (AP X pins σ Q) E' s:=
 wpAny_mono (ha pos pins s σ H Q (I.wish _) h) (fun us s1 ⟨vs,H1,I1,q⟩=>⟨vs,H1,I1.unwish,q⟩) fun _ _ z=>False.elim z
theorem pe_x {pins:List (Addr×Obj)}{s:Shared}{σ:St}{H:Hp}{Q:VK}{E':Value→Shared→Prop} (ha:PE X.nox o ta) (I:Inv X pins σ H s) (h:ta σ H Q) :
  wpAny (model X.prog X.w) X.A (eval o X.env) (EP X pins σ Q) E' s:=
 wpAny_mono (ha pins s σ H Q (I.wish _) h) (fun us s1 ⟨vs,H1,I1,q⟩=>⟨vs,H1,I1.unwish,q⟩) fun _ _ z=>False.elim z
theorem px_meth {pl:Sem Bool} (he:PE X.nox o ta) (c:Cls X.K C) (hm:Meth X.K C m f) (F:FnOk X.prog X.w X.K X.mg X.base (CXE X.prog X.w) k f fd ps sp cm) (hr:Room k X.A cm) (hx:X.ex=[]) (hb:Binds X.K fd ps ds) (hd:Vals dvs ds) (ha:PA X.nox (e::es) t)
  (hst:starEach (e::es) X.env=(false,eval e X.env)::starEach es X.env:=by rfl) (hpl:(backTo pos (starEach es X.env)).any (·.1)=false:=by rfl)
  (ht:eval (.Call (.Attribute o m apos) (e::es) [] pos) X.env=(do
   let ov ← eval o X.env
   standAt apos.atName
   let (f,first) ← holding [ov] (getMethod ov m pl)
   callWith pos f first (backTo pos (starEach (e::es) X.env)) (backToKw pos (keywordEach [] X.env))):=by rfl) :
  PX X (.Call (.Attribute o m apos) (e::es) [] pos) (tMethX C m sp dvs ta t):=by
 intro pins s σ H Q E I h
 refine PySem.W.methodCall_KW (pl:=pl) (thn (pe_x he I h) fun u s1 ⟨x,H1,I1,rx,a,dx,fs,ex,ea,l,q⟩=>?_) ht
 subst ex
 obtain rfl:u=Value.ref a:=rx
 refine getmeth_ok I1 ea c hm l ?_
 exact PySem.W.callWith_K (first:=[.ref a]) (h₀:=X.base) I.ok.mod.kin hm.kp (thn (pa_x ha I1 q) fun us s2 ⟨vs,H2,I2,r,q2⟩=>⟨I2.kIn,run_fnX (us:=.ref a::us) (vs:=.ref a::vs) F hr hb hd hx I2 (.cons rfl r) q2⟩) hst hpl
end
section
variable {X:Cx}{e:Expr}{t:TX}{ES:XS}{pos:Pos}
theorem xend {pins:List (Addr×Obj)}{σ:St}{v:Value}{s:Shared} (th:ThrowsT X ES) (h:XEnd X pins σ (fun cls pay H=>ES cls pay σ H) v s):X.xe v s:=by
 obtain ⟨a,cls,pay,H',rfl,L,q⟩:=h
 exact th pins σ H' s a cls pay L q
def tDropX (ES:XS) (t:TX):TS:=fun D σ H=>t σ H (fun _ H1=>D.nx σ H1) fun cls pay H'=>ES cls pay σ H'
theorem ps_exprX (th:ThrowsT X ES) (he:PX X e t) (hs:swapsWith e none pos.line X.env=pure false:=by rfl):PS X (.Expr e pos) (tDropX ES t):=by
 intro pins s σ H D I h
 exact wpAny_Expr_any (wpAny_mono (he pins s σ H _ _ I h) (fun v s1 ⟨x,H1,I1,r1,q1⟩=>⟨σ,H1,I1,q1⟩) fun _ _ z=>xend th z) I.quiet hs
def tRetX (ES:XS) (t:TX):TS:=fun D σ H=>t σ H D.rt fun cls pay H'=>ES cls pay σ H'
theorem ps_retX (th:ThrowsT X ES) (he:PX X e t):PS X (.Return (some e) pos) (tRetX ES t):=by
 intro pins s σ H D I h
 exact wpAny_Return_some (wpAny_mono (he pins s σ H _ _ I h) (fun v s1 ⟨x,H1,I1,r1,q1⟩=>⟨x,σ,H1,I1,r1,q1⟩) fun _ _ z=>xend th z)
end
abbrev Cx.inTry (X:Cx) (pins:List (Addr×Obj)) (R:XS):Cx:={ X with pn:=X.pn++pins,xe:=fun e s'=>∃ σ H a cls pay,e=.ref a∧Landed X pins σ H a cls pay s'∧R cls pay σ H }
section
variable {X:Cx}{pins pins':List (Addr×Obj)}{R:XS}{σ:St}{H:Hp}{s:Shared}{e:Addr}{cls:Value}{pay:Option Addr}
theorem Cx.Ok.inTry (ok:X.Ok):(X.inTry pins R).Ok:=
 ⟨ok.mod,ok.kind,ok.glob,ok.blt,ok.above,ok.inj,ok.has,ok.cab,ok.hd,ok.frames,ok.stk,ok.exf,ok.bs,ok.bsz,ok.noex,ok.exfs,ok.funs,ok.frf⟩
theorem Cx.Ok.offTry (ok:(X.inTry pins R).Ok):X.Ok:=
 ⟨ok.mod,ok.kind,ok.glob,ok.blt,ok.above,ok.inj,ok.has,ok.cab,ok.hd,ok.frames,ok.stk,ok.exf,ok.bs,ok.bsz,ok.noex,ok.exfs,ok.funs,ok.frf⟩
theorem Inv.inTry (I:Inv X pins σ H s):Inv (X.inTry pins R) [] σ H s:=⟨I.ok.inTry,I.os,I.bare,I.base,I.loc,I.cell,I.free,I.freeC,fun p hp=>I.pin p (by simpa using hp),I.hok,I.len,I.hq⟩
theorem Inv.offTry (I:Inv (X.inTry pins R) pins' σ H s):Inv X pins σ H s:=⟨I.ok.offTry,I.os,I.bare,I.base,I.loc,I.cell,I.free,I.freeC,fun p hp=>I.pin p (List.mem_append_left _ hp),I.hok,I.len,I.hq⟩
theorem Landed.offTry (L:Landed (X.inTry pins R) pins' σ H e cls pay s):Landed X pins σ H e cls pay s:=by
 obtain ⟨py,I,fr,⟨a1,a2,a3,a4⟩,oe,vs,a0,T,oT,ts,h1,h2,h0,h3,t1,t2,tH,⟨b1,b2,b3,b4⟩,t5⟩:=L
 exact ⟨py.imp fun _ z=>⟨z.1,z.2.1,z.2.2.1,fun p hp=>z.2.2.2 p (List.mem_append_left _ hp)⟩,I.offTry,fr,⟨a1,a2,a3,fun p hp=>a4 p (List.mem_append_left _ hp)⟩,oe,vs,a0,T,oT,ts,h1,h2,h0,h3,t1,t2,tH,⟨b1,b2,b3,fun p hp=>b4 p (List.mem_append_left _ hp)⟩,t5⟩
theorem throwsT_try:ThrowsT (X.inTry pins R) R:=fun pins' σ H s e cls pay L q=>⟨σ,H,e,cls,pay,rfl,L.offTry,q⟩
end
abbrev Cx.inSuite (X:Cx) (a:Addr):Cx:={ X with A:=X.A.mark (some (.ref a)),calm:=false,xe:=fun _ _=>False }
section
variable {X:Cx}{pins:List (Addr×Obj)}{σ:St}{H:Hp}{s:Shared}{e:Addr}{cls:Value}{pay:Option Addr}
theorem Inv.inSuite (I:Inv X pins σ H s) (a:Addr) (hq:HdOk (X.A.mark (some (.ref a))) H):Inv (X.inSuite a) pins σ H s:=
 ⟨⟨I.ok.mod,I.ok.kind,I.ok.glob,I.ok.blt,I.ok.above,I.ok.inj,I.ok.has,I.ok.cab,fun z=>Bool.noConfusion z,I.ok.frames,I.ok.stk,I.ok.exf,I.ok.bs,I.ok.bsz,I.ok.noex,I.ok.exfs,I.ok.funs,I.ok.frf⟩,I.os,I.bare,I.base,I.loc,I.cell,I.free,I.freeC,I.pin,I.hok,I.len,hq⟩
theorem Inv.offSuite {a:Addr}{σ':St}{H':Hp}{s':Shared} (hc:X.calm=true) (I0:Inv X pins σ H s) (I:Inv (X.inSuite a) pins σ' H' s'):Inv X pins σ' H' s':=
 ⟨I0.ok,I.os,I.bare,I.base,I.loc,I.cell,I.free,I.freeC,I.pin,I.hok,I.len,.inl (I0.ok.hd hc)⟩
theorem Inv.track {u:HO} (I:Inv X pins σ H s) (fr:H e=none) (ap:Apart X pins e) (ok:ObjOk X.prog X.w (upd H e u) s.heap e u):Inv X pins σ (upd H e u) s:=by
 obtain ⟨a1,a2,a3,a4⟩:=ap
 have ne:∀ {b:Addr}{o:HO},H b=some o→b≠e:=fun {b o} q z=>by rw [z,fr] at q;cases q
 refine ⟨I.ok,I.os,I.bare,⟨I.base.keep,I.base.slot,fun b o q n hx=>?_,I.base.there,fun b xs q=>?_,fun b o u q=>?_,fun b ps q=>?_⟩,I.loc,I.cell,?_,fun x c q=>?_,fun p hp=>?_,fun b o q=>?_,I.len,I.hq.mono fun b o u q=>by rw [upd_ne (ne q)];exact q⟩
 ·rw [upd_ne fun z=>by rw [z,a1] at q;cases q]
  exact I.base.free b o q n hx
 ·have w:=I.base.tups b xs q
  rw [upd_ne (ne w)];exact w
 ·have w:=I.base.frzs b o u q
  rw [upd_ne (ne w)];exact w
 ·obtain ⟨more,w⟩:=I.base.tbls b ps q
  exact ⟨more,by rw [upd_ne (ne w)];exact w⟩
 ·rw [upd_ne fun z=>a2 z.symm];exact I.free
 ·rw [upd_ne (a3 x c q)];exact I.freeC x c q
 ·obtain ⟨p1,p2,p3⟩:=I.pin p hp
  exact ⟨p1,by rw [upd_ne (a4 p hp)];exact p2,p3⟩
 ·by_cases z:b=e
  ·subst z
   rw [upd_same] at q
   cases q
   exact ok
  ·rw [upd_ne z] at q
   exact (I.hok b o q).stay (fun _ _ _ q=>q) (fun c q=>by rw [upd_ne (ne q)];exact q) fun c xs q=>by rw [upd_ne (ne q)];exact q
def Knows (H H':Hp) (a:Addr) (cls:Value) (pay:Option Addr):Prop:=∃ ob vs,ob.data=.fields vs∧vs[2]? = some .none∧match pay with
 | none=>H'=upd H a (ExcF ob a cls none)
 | some n=>∃ dx,dx≠a∧H dx=none∧H'=upd (upd H dx (XdO dx n)) a (ExcF ob a cls (some dx))
theorem Landed.known (L:Landed X pins σ H e cls pay s):∃ H',Knows H H' e cls pay∧Inv X pins σ H' s:=by
 obtain ⟨oe,vs,a0,T,oT,ts,h1,h2,h0,hd,_⟩:=L.ob
 obtain ⟨⟨o0,c1,c2⟩,py⟩:=L.py
 rw [h1] at c1
 cases c1
 have c3:vs[2]? = some .none:=by unfold fld2 at c2;rw [hd] at c2;exact c2
 have nc:PySem.W.notCls oe=true:=by
  obtain ⟨c,d,dt,sl⟩:=oe
  dsimp only at hd
  subst hd;rfl
 cases pay with
 | none=>exact ⟨_,⟨oe,vs,hd,c3,rfl⟩,L.inv.track (u:=ExcF oe e cls none) L.fr L.ap ⟨h1,excO_ok h1 h2 fun _ z=>by cases z⟩⟩
 | some n=>
  obtain ⟨oe',dx,t,g1,g2,g3,g4,g5⟩:=py
  rw [h1] at g1
  cases g1
  have ne:dx≠e:=fun z=>by
   obtain ⟨o,es,ep,q1,q2,_⟩:=g3
   rw [z,h1] at q1
   cases q1
   rw [hd] at q2;cases q2
  have I1:Inv X pins σ (upd H dx (XdO dx n)) s:=L.inv.track g4 g5 (xdO_ok g3)
  exact ⟨_,⟨oe,vs,hd,c3,dx,ne,g4,rfl⟩,I1.track (u:=ExcF oe e cls (some dx)) (by rw [upd_ne ne.symm];exact L.fr) L.ap ⟨h1,excO_ok h1 h2 fun _ z=>by cases z;exact ⟨g2,nc⟩⟩⟩
theorem Knows.hq {A:Around}{H H':Hp}{a:Addr}{cls:Value}{pay:Option Addr} (k:Knows H H' a cls pay):HdOk (A.mark (some (.ref a))) H':=by
 obtain ⟨ob,vs,h1,h2,k⟩:=k
 refine .inr ⟨a,ob,?_⟩
 cases pay with
 | none=>subst k;exact ⟨_,vs,rfl,upd_same,h1,h2⟩
 | some n=>obtain ⟨dx,_,_,rfl⟩:=k;exact ⟨_,vs,rfl,upd_same,h1,h2⟩
theorem Knows.same {H H':Hp}{a:Addr}{cls:Value}{pay:Option Addr} (k:Knows H H' a cls pay) (fr:H a=none) {b:Addr}{o:HO} (q:H b=some o):H' b=some o:=by
 obtain ⟨ob,vs,_,_,k⟩:=k
 cases pay with
 | none=>subst k;rw [upd_ne (ne_of_none q fr)];exact q
 | some n=>obtain ⟨dx,ne,d,rfl⟩:=k;rw [upd_ne (ne_of_none q fr),upd_ne (ne_of_none q d)];exact q
end
section
variable {prog:Program}{w:World}{A:Around}{R:Result→Shared→Prop}{s:Shared}
theorem comp_loop {elt tg iter:Expr}{ifs:List Expr}{scope:Scope}{pos:Pos}{it acc:Value}{env:Env} (Iv:Nat→Shared→Prop)
  (turn:∀ n s,Iv n s→wpAny (model prog w) A (pyNext it) (fun r s1=>match r with
   | none=>R (.ok .next) s1
   | some v=>wpAny (model prog w) A (letOwnedTupleGo tg it v) (fun _ s1'=>wpAny (model prog w) A (assign tg env v) (fun _ s2=>
     wpAny (model prog w) A (forIn ifs true fun c r=>if r=true then do let ok ← isTrue c env (eval c env);pure (ForInStep.yield ok) else pure (ForInStep.yield r)) (fun ok s3=>
      if ok=true then wpAny (model prog w) A (eval elt env) (fun x s4=>
       wpAny (model prog w) A (call (.builtin "list.append") [acc,x]) (fun _ s5=>∃ m,m < n∧Iv m s5) (fun _ _=>False) s4) (fun _ _=>False) s3
      else ∃ m,m < n∧Iv m s3) (fun _ _=>False) s2) (fun _ _=>False) s1') (fun _ _=>False) s1) (fun _ _=>False) s)
  (n:Nat) (hn:Iv n s):codeAny (model prog w) A (.compLoop (.ListComp elt [⟨tg,iter,ifs,0⟩] scope pos) 0 it acc env) R s:=by
 have ff:∀ {E:Value→Shared→Prop} (x:Value) (s:Shared),False→E x s:=fun _ _ f=>f.elim
 refine codeAny_loop rfl Iv (fun k s0 hI=>?_) n hn
 show wpAny (model prog w) A ((compTurn (.ListComp elt [⟨tg,iter,ifs,0⟩] scope pos) 0 it acc env).onRaise (fun x=>do noteFrame x env;theTreesLotGoes x)) _ _ s0
 refine wpAny_noted ?_
 rw [compTurn_list]
 refine wpAny_bind (wpAny_standAt (wpAny_bind (wpAny_mono (turn k s0 hI) (fun r s1 h1=>?_) ff)))
 cases r with
 | none=>exact wpAny_pure h1
 | some v=>
  refine wpAny_bind (wpAny_mono h1 (fun _ s1' h1'=>wpAny_bind (wpAny_mono h1' (fun _ s2 h2=>wpAny_bind (wpAny_mono h2 (fun ok s3 h3=>?_) ff)) ff)) ff)
  cases ok with
  | false=>exact wpAny_pure ⟨rfl,h3⟩
  | true=>exact wpAny_bind (wpAny_bind (wpAny_mono h3 (fun x s4 h4=>wpAny_bind (wpAny_mono h4 (fun _ s5 h5=>wpAny_pure (wpAny_pure ⟨rfl,h5⟩)) ff)) ff))
end
def frees (sc:Scope):List Str:=(sc.names.filter fun x=>x.2 == .free).map (·.1)
def cellPairs (env:Env):List (Str×NameKind)→List (Str×Addr)→List (Str×Addr)
 | [],cs=>cs
 | (n,k)::r,cs=>cellPairs env r (if k == .free then (n,(env.cells.lookup n).getD 0)::cs else cs)
theorem clos_of {env:Env}{sc:Scope} (h:∀ x∈frees sc,∃ c,env.cells.lookup x=some c):closureFor sc env=pure (cellPairs env sc.names []):=by
 have key:∀ (l:List (Str×NameKind)) (cs:List (Str×Addr)),(∀ x∈(l.filter fun x=>x.2 == .free).map (·.1),∃ c,env.cells.lookup x=some c) →
   (forIn l cs fun x r=>(do
    let (name,kind):=x
    if kind == .free then do
     let a ← cellOf env name
     pure (ForInStep.yield ((name,a)::r))
    else pure (ForInStep.yield r):Sem (ForInStep (List (Str×Addr)))))=pure (cellPairs env l cs):=by
  intro l
  induction l with
  | nil=>intro cs _;rfl
  | cons p r ih=>
   obtain ⟨n,k⟩:=p
   intro cs h
   rw [List.forIn_cons]
   by_cases hk:(k == NameKind.free)=true
   ·obtain ⟨c,hc⟩:=h n (by simp [hk])
    have ih':=ih ((n,c)::cs) fun x hx=>h x (by simp only [List.filter_cons,hk,if_true,List.map_cons,List.mem_cons];exact Or.inr hx)
    have e:cellOf env n=pure c:=by unfold cellOf;rw [hc]
    simp only [hk,if_true,e,pure_bind,cellPairs,hc,Option.getD_some]
    exact ih'
   ·have ih':=ih cs fun x hx=>h x (by simp only [List.filter_cons,hk];exact hx)
    simp only [hk,cellPairs,Bool.false_eq_true,if_false,pure_bind]
    exact ih'
 unfold closureFor
 have k:=key sc.names [] h
 simp only [bind_pure] at k ⊢
 first
  | exact k
  | (simp only [pure_bind];exact k)
theorem cellPairs_get {env:Env}:∀ {l:List (Str×NameKind)}{cs:List (Str×Addr)}{x:Str}{c:Addr},(cellPairs env l cs).lookup x=some c →
  cs.lookup x=some c∨((x,NameKind.free)∈l∧c=(env.cells.lookup x).getD 0)
 | [],_,_,_,h=>.inl h
 | (n,k)::r,cs,x,c,h=>by
  rcases cellPairs_get (l:=r) h with q | ⟨q,e⟩
  ·by_cases hk:(k == NameKind.free)=true
   ·rw [if_pos hk,List.lookup_cons] at q
    by_cases hx:(x == n)=true
    ·rw [hx] at q
     have e:=eq_of_beq hx
     subst e
     have hk':k=.free:=by cases k <;> first | rfl | exact absurd hk (by decide)
     subst hk'
     exact .inr ⟨List.mem_cons_self,(Option.some.inj q).symm⟩
    ·rw [Bool.not_eq_true] at hx
     rw [hx] at q
     exact .inl q
   ·rw [if_neg hk] at q
    exact .inl q
  ·exact .inr ⟨List.mem_cons_of_mem _ q,e⟩
theorem cellPairs_has {env:Env}:∀ {l:List (Str×NameKind)}{cs:List (Str×Addr)}{x:Str},(∃ c,cs.lookup x=some c)∨(x,NameKind.free)∈l→∃ c,(cellPairs env l cs).lookup x=some c
 | [],_,_,h=>h.elim id fun z=>nomatch z
 | (n,k)::r,cs,x,h=>by
  refine cellPairs_has (l:=r) ?_
  rcases h with ⟨c,h⟩ | h
  ·left
   by_cases hk:(k == NameKind.free)=true
   ·rw [if_pos hk,List.lookup_cons]
    by_cases hx:(x == n)=true
    ·rw [hx];exact ⟨_,rfl⟩
    ·rw [Bool.not_eq_true] at hx;rw [hx];exact ⟨c,h⟩
   ·rw [if_neg hk];exact ⟨c,h⟩
  ·rcases List.mem_cons.mp h with e | h
   ·left
    cases e
    rw [if_pos (by decide),List.lookup_cons,beq_self_eq_true]
    exact ⟨_,rfl⟩
   ·exact .inr h
def cxComp (X:Cx) (N:List Str) (sc:Scope) (s3:Shared) (H3:Hp) (fp:List Addr):Cx:=
 { X with N:=N,s₀:=s3,H₀:=H3,env:=compEnvC sc (cellPairs X.env sc.names []) s3.heap.objs.size X.env,outer:=X.stack,stack:=X.stack,ex:=fp,fn:=fun _=>false,pn:=[],xe:=fun _ _=>False }
def iniC (js:List (Option Nat)) (σ:St):St:=js.map fun j=>match j with
 | none=>none
 | some j=>(σ[j]?).join
def capOk (N:List Str) (sc:Scope):List Str→List (Option Nat)→Bool
 | [],[]=>true
 | x::r,none::js=>capOk N sc r js
 | x::r,some j::js=>decide (N[j]? = some x)&&decide (sc.names.lookup x=some .free)&&capOk N sc r js
 | _,_=>false
theorem capOk_len {N:List Str}{sc:Scope}:∀ {M:List Str}{js:List (Option Nat)},capOk N sc M js=true→js.length=M.length
 | [],[],_=>rfl
 | _::r,none::js,h=>by
  have:=capOk_len (M:=r) (js:=js) h
  simp [this]
 | _::r,some j::js,h=>by
  unfold capOk at h
  have:=capOk_len (M:=r) (js:=js) ((Bool.and_eq_true _ _).mp h).2
  simp [this]
 | [],_::_,h=>by cases h
 | _::_,[],h=>by cases h
theorem capOk_at {N:List Str}{sc:Scope}:∀ {M:List Str}{js:List (Option Nat)}{i j:Nat}{x:Str},capOk N sc M js=true→M[i]? = some x→js[i]? = some (some j)→N[j]? = some x∧sc.names.lookup x=some .free
 | [],_,_,_,_,_,h,_=>by simp at h
 | _::_,[],_,_,_,h,_,_=>by cases h
 | y::r,none::js,0,j,x,h,h1,h2=>by simp at h2
 | y::r,some q::js,0,j,x,h,h1,h2=>by
  simp at h1 h2
  subst h1 h2
  unfold capOk at h
  obtain ⟨a,b⟩:=(Bool.and_eq_true _ _).mp ((Bool.and_eq_true _ _).mp h).1
  exact ⟨of_decide_eq_true a,of_decide_eq_true b⟩
 | y::r,none::js,i + 1,j,x,h,h1,h2=>capOk_at (M:=r) (js:=js) h (by simpa using h1) (by simpa using h2)
 | y::r,some q::js,i + 1,j,x,h,h1,h2=>by
  unfold capOk at h
  exact capOk_at (M:=r) (js:=js) ((Bool.and_eq_true _ _).mp h).2 (by simpa using h1) (by simpa using h2)
structure CompScope (X:Cx) (M:List Str) (js:List (Option Nat)) (sc:Scope):Prop where
 kind:sc.kind=.function
 nocell:∀ y∈sc.names,y.2≠.cell
 loc:∀ y∈sc.names,y.2=.local→sc.names.lookup y.1=some .local
 cap:capOk X.N sc M js=true
 free:∀ x∈frees sc,X.env.kindOf x=some .cell∨X.env.kindOf x=some .free
 nd:M.Nodup
def tComp (wi:TI) (js:List (Option Nat)) (g:TG) (tt:TT) (te:TE):TE:=fun σ H Q=>wi σ H fun J H1=>∀ D,H1 D=none →
 ∃ W:Nat→Nat→St→Hp→Prop,(∃ m,W 0 m (iniC js σ) (upd H1 D (.lst [])))∧∀ i m σ' H',W i m σ' H' →
  (J.stop i H'∧Q (.ref D) H')∨(J.go i H'∧∀ x H2,J.yld i H' x H2→g x σ' H2 fun σ3 H3=>tt σ3 H3 fun b H4=>
   if b=true then te σ3 H4 fun y H5=>∃ xs,H5 D=some (.lst xs)∧xs.length < sizeLine∧∃ m',m' < m∧W (i + 1) m' σ3 (upd H5 D (.lst (xs++[y])))
   else ∃ m',m' < m∧W (i + 1) m' σ3 H4)
def PTs (X:Cx) (ifs:List Expr) (t:TT):Prop:=
 ∀ (pins:List (Addr×Obj)) (s:Shared) (σ:St) (H:Hp) (Q:Bool→Hp→Prop),Inv X pins σ H s→t σ H Q →
  wpAny (model X.prog X.w) X.A (forIn ifs true fun c r=>if r=true then do let ok ← isTrue c X.env (eval c X.env);pure (ForInStep.yield ok) else pure (ForInStep.yield r)) (TP X pins σ Q) X.xe s
theorem pts_one {X:Cx}{c:Expr}{t:TT} (h:PT X c t):PTs X [c] t:=fun pins s σ H Q I q=>wpAny_tests_one (h pins s σ H Q I q)
section
variable {X:Cx}
theorem Inv.comp {pins:List (Addr×Obj)}{σ:St}{H3:Hp}{s3:Shared}{M:List Str}{js:List (Option Nat)}{sc:Scope}{fp:List Addr}{h':Heap}{tk:Nat} (S:CompScope X M js sc) (I:Inv X pins σ H3 s3)
  (hf:∀ b∈fp,FpOk X pins H3 b) (hlt:∀ b∈fp,b < s3.heap.objs.size) (hn:h'.Ns s3.heap.objs.size fun _=>none) (hk:∀ b o,s3.heap.get? b=some o→h'.get? b=some o) :
  Inv (cxComp X M sc s3 H3 fp) [] (iniC js σ) H3 { s3 with heap:=h',toks:=tk }:=by
 have cl:∀ {x:Str}{c:Addr},(cellPairs X.env sc.names []).lookup x=some c→X.env.cells.lookup x=some c:=fun {x c} e=>by
  rcases cellPairs_get e with q | ⟨q,e'⟩
  ·cases q
  ·obtain ⟨c',hc⟩:=I.ok.has x (S.free x (List.mem_map.mpr ⟨(x,.free),List.mem_filter.mpr ⟨q,rfl⟩,rfl⟩))
   rw [hc] at e' ⊢
   rw [e'];rfl
 have bsz:X.base.objs.size≤s3.heap.objs.size:=Nat.le_trans I.ok.bsz I.sz
 have lk:∀ {x:Str},sc.names.lookup x=some .free→(relabel sc X.env).names.lookup x=some .cell∨(relabel sc X.env).names.lookup x=some .free:=fun {x} e=>by
  have key:∀ (l:List (Str×NameKind)),l.lookup x=some .free→(l.map fun (n,k)=>if (k == NameKind.free&&X.env.scope.kind == .function&&X.env.kindOf n == some .cell) then (n,NameKind.cell) else (n,k)).lookup x=some .cell ∨
    (l.map fun (n,k)=>if (k == NameKind.free&&X.env.scope.kind == .function&&X.env.kindOf n == some .cell) then (n,NameKind.cell) else (n,k)).lookup x=some .free:=by
   intro l
   induction l with
   | nil=>intro e;cases e
   | cons p r ih=>
    obtain ⟨n,k⟩:=p
    intro e
    rw [List.lookup_cons] at e
    rw [List.map_cons]
    by_cases hx:(x == n)=true
    ·rw [hx] at e
     have e':k=.free:=Option.some.inj e
     subst e'
     dsimp only
     split
     ·left;rw [List.lookup_cons,hx]
     ·right;rw [List.lookup_cons,hx]
    ·rw [Bool.not_eq_true] at hx
     rw [hx] at e
     dsimp only
     split <;> (rw [List.lookup_cons,hx];exact ih e)
  exact key sc.names e
 have kf:∀ {x:Str},((relabel sc X.env).names.lookup x=some .cell∨(relabel sc X.env).names.lookup x=some .free)→(x,NameKind.free)∈sc.names:=fun {x} e=>by
  have key:∀ (l:List (Str×NameKind)),(∀ y∈l,y.2≠.cell)→((l.map fun (n,k)=>if (k == NameKind.free&&X.env.scope.kind == .function&&X.env.kindOf n == some .cell) then (n,NameKind.cell) else (n,k)).lookup x=some .cell ∨
    (l.map fun (n,k)=>if (k == NameKind.free&&X.env.scope.kind == .function&&X.env.kindOf n == some .cell) then (n,NameKind.cell) else (n,k)).lookup x=some .free)→(x,NameKind.free)∈l:=by
   intro l
   induction l with
   | nil=>intro _ e;rcases e with e | e <;> cases e
   | cons p r ih=>
    obtain ⟨n,k⟩:=p
    intro nc e
    rw [List.map_cons] at e
    by_cases hx:(x == n)=true
    ·have e0:=eq_of_beq hx
     subst e0
     have hkf:k=.free:=by
      dsimp only at e
      split at e
      ·rename_i hc
       have:=((Bool.and_eq_true _ _).mp ((Bool.and_eq_true _ _).mp hc).1).1
       cases k <;> first | rfl | exact absurd this (by decide)
      ·rw [List.lookup_cons,beq_self_eq_true] at e
       rcases e with e | e
       ·exact absurd (Option.some.inj e) (nc _ List.mem_cons_self)
       ·exact Option.some.inj e
     rw [hkf];exact List.mem_cons_self
    ·rw [Bool.not_eq_true] at hx
     refine List.mem_cons_of_mem _ (ih (fun y hy=>nc y (List.mem_cons_of_mem _ hy)) ?_)
     dsimp only at e
     split at e <;> (rw [List.lookup_cons,hx] at e;exact e)
  exact key sc.names S.nocell e
 refine ⟨⟨I.ok.mod,S.kind,I.ok.glob,I.ok.blt,Nat.le_refl _,fun x y c h1 h2=>I.ok.inj x y c (cl h1) (cl h2),fun x hx=>cellPairs_has (.inr (kf hx)),(fun x c h _=>by cases h),I.ok.hd,I.ok.frames,.inl rfl,fun b hb=>⟨Nat.ne_of_lt (hlt b hb),fun x c e=>(hf b hb).2.2.2.2.1 x c (cl e)⟩,
   I.bs,bsz,fun b o e hb=>?_,fun b hb hb'=>?_,I.stack,I.stkFree⟩,
  rfl,I.bare,Un.kept hk,⟨_,hn,fun i x v h1 h2 h3=>?_⟩,fun x c e=>?_,I.hok.fresh (Nat.le_refl _),fun x c e=>I.freeC x c (cl e),fun p hp=>absurd (show p∈([]:List (Addr×Obj)) from hp) (by simp),I.hok.kept hk,?_,I.hq⟩
 ·rcases (hf b hb).2.2.2.1 with z | z
  ·exact I.ok.noex b o e z
  ·exact absurd (Nat.lt_of_lt_of_le (Heap.lt_size e) (Nat.le_trans I.ok.bsz z)) (Nat.lt_irrefl _)
 ·rcases List.mem_cons.mp (I.stkSub b hb') with z | z
  ·exact (hf b hb).2.1 z
  ·exact (hf b hb).2.2.1 z
 ·have hlen:=capOk_len S.cap
  have hi:i < js.length:=by rw [hlen];exact (List.getElem?_eq_some_iff.mp h1).1
  unfold iniC at h2
  rw [List.getElem?_map,List.getElem?_eq_getElem hi,Option.map_some] at h2
  cases hj:js[i] with
  | none=>rw [hj] at h2;cases h2
  | some j=>
   rw [hj] at h2
   have h2':(σ[j]?).join=some v:=Option.some.inj h2
   obtain ⟨a,b⟩:=capOk_at S.cap h1 (by rw [List.getElem?_eq_getElem hi,hj])
   have hs:σ[j]? = some (some v):=by
    cases q:σ[j]? with
    | none=>rw [q] at h2';cases h2'
    | some z=>rw [q] at h2';rw [show z=some v from h2']
   have hfr:=S.free x (List.mem_map.mpr ⟨(x,.free),List.mem_filter.mpr ⟨PySem.mem_of_lookup b,rfl⟩,rfl⟩)
   obtain ⟨m,hm,hl⟩:=I.loc
   obtain ⟨u,ru,l⟩:=hl j x v a hs (hfr.elim (fun z=>.inr (.inl z)) fun z=>.inr (.inr z))
   refine ⟨u,ru,.inr ⟨lk b,?_⟩⟩
   rcases l with ⟨k,_⟩ | ⟨_,c,e,hc⟩
   ·rcases hfr with z | z <;> (rw [z] at k;cases k)
   ·obtain ⟨c',hc'⟩:=cellPairs_has (env:=X.env) (l:=sc.names) (cs:=[]) (x:=x) (.inr (PySem.mem_of_lookup b))
    have e':=cl hc'
    rw [e] at e'
    have e2:c=c':=Option.some.inj e'
    subst e2
    obtain ⟨o,ho,hd⟩:=hc
    exact ⟨c,hc',o,hk _ _ ho,hd⟩
 ·obtain ⟨v,o,ho,hd⟩:=I.cell x c (cl e)
  exact ⟨v,o,hk _ _ ho,hd⟩
 ·unfold iniC
  rw [List.length_map]
  exact capOk_len S.cap
theorem Inv.uncomp {pins pins':List (Addr×Obj)}{σ σ':St}{H3 H':Hp}{s3 s':Shared}{M:List Str}{sc:Scope}{fp:List Addr}{h':Heap} (I:Inv X pins σ H3 s3) (hf:∀ b∈fp,FpOk X pins H3 b)
  (J:Inv (cxComp X M sc s3 H3 fp) pins' σ' H' s') (hs:Heap.SameBut s3.heap.objs.size s'.heap h'):Inv X pins σ H' { s' with heap:=h' }:=by
 have B:Un (frs X.stack) fp H3 H' s3.heap s'.heap:=J.base
 have ne:∀ {b:Addr}{o:Obj},s3.heap.get? b=some o→b≠s3.heap.objs.size:=fun e=>Nat.ne_of_lt (Heap.lt_size e)
 have B':Un (frs X.stack) fp H3 H' s3.heap h':=⟨fun b o e n hb hx=>(hs.2 b (ne e)).trans (B.keep b o e n hb hx),fun b o e n hb hx=>let ⟨sl,q⟩:=B.slot b o e n hb hx;⟨sl,(hs.2 b (ne e)).trans q⟩,B.free,
  fun b o e hx=>let ⟨o',q⟩:=B.there b o e hx;⟨o',(hs.2 b (ne e)).trans q⟩,B.tups,B.frzs,B.tbls⟩
 have fr:H' s3.heap.objs.size=none:=J.free
 refine I.call' (s':={ s' with heap:=h' }) (ch:=fp) J.os B' (fun b u e=>?_) J.bare fun b hb=>⟨(hf b hb).2.2.2.1,(hf b hb).2.1,(hf b hb).2.2.2.2.1,(hf b hb).2.2.2.2.2⟩
 refine (J.hok b u e).stay (fun c v hc q=>(hs.2 c ?_).trans q) (fun _ q=>q) fun _ _ q=>q
 rintro rfl
 rcases hc with rfl | hc
 ·rw [fr] at e;cases e
 ·rw [fr] at hc;cases hc
theorem comp_block {tg iter elt:Expr}{ifs:List Expr}{sc:Scope}{pos:Pos}{M:List Str}{js:List (Option Nat)}{g:TG}{tt:TT}{te:TE}{pins:List (Addr×Obj)}{σ:St}{H2:Hp}{s2:Shared}{it:Addr}{fp:List Addr}
  {tn:Nat→Heap→Prop}{J:It}{Q:VK}{RR:Value→Addr→Result→Shared→Prop} (S:CompScope X M js sc) (hc:X.calm=true∨J.rg=true) (I2:Inv X pins σ H2 s2) (T:Turn X.prog X.w X.K tg J fp it tn) (st:tn 0 s2.heap) (hf:∀ b∈fp,FpOk X pins H2 b)
  (hb:∀ s3 H3 fp,PG (cxComp X M sc s3 H3 fp) tg g∧PTs (cxComp X M sc s3 H3 fp) ifs tt∧PE (cxComp X M sc s3 H3 fp) elt te)
  (h:∀ D,H2 D=none→∃ W:Nat→Nat→St→Hp→Prop,(∃ m,W 0 m (iniC js σ) (upd H2 D (.lst [])))∧∀ i m σ' H',W i m σ' H' →
   (J.stop i H'∧Q (.ref D) H')∨(J.go i H'∧∀ x H2,J.yld i H' x H2→g x σ' H2 fun σ3 H3=>tt σ3 H3 fun b H4=>
    if b=true then te σ3 H4 fun y H5=>∃ xs,H5 D=some (.lst xs)∧xs.length < sizeLine∧∃ m',m' < m∧W (i + 1) m' σ3 (upd H5 D (.lst (xs++[y])))
    else ∃ m',m' < m∧W (i + 1) m' σ3 H4))
  (hR:∀ D s3 H3 s' σ' H',Inv X pins σ H3 s3→(∀ b∈fp,FpOk X pins H3 b)→Inv (cxComp X M sc s3 H3 fp) [] σ' H' s'→Q (.ref D) H'→RR (.ref D) s3.heap.objs.size (.ok .next) s') :
  wpAny (model X.prog X.w) X.A (newList []) (fun acc s₃=>wpAny (model X.prog X.w) X.A (newFunctionEnv sc X.env.globals (cellPairs X.env sc.names []) [] X.env.qual none .none (some X.env)) (fun cenv s₄=>
   codeAny (model X.prog X.w) X.A (.compStart (.ListComp elt [⟨tg,iter,ifs,0⟩] sc pos) 0 (.ref it) acc { cenv with scope:=relabel sc X.env }) (RR acc cenv.locals) s₄) X.xe s₃) X.xe s2:=by
 have fresh2:H2 s2.heap.objs.size=none:=I2.hok.fresh (Nat.le_refl _)
 obtain ⟨W,⟨m0,w0⟩,turn⟩:=h _ fresh2
 have I3:Inv X pins σ (upd H2 s2.heap.objs.size (.lst [])) { s2 with heap:=s2.heap.push { cls:=.type "list",data:=.seq ([]:List Value).toArray } }:=
  I2.laid (t':=s2.toks) (fun _ _ q=>Heap.get?_push_of_some _ q) (Nat.le_refl _) ⟨Nat.zero_le _,[],0,.nil,Heap.get?_push_size _ rfl⟩
 have fpl:∀ b∈fp,b < s2.heap.objs.size:=fun b hb=>let ⟨_,e,_⟩:=T.obj _ _ st b hb;Heap.lt_size e
 have hf3:∀ b∈fp,FpOk X pins (upd H2 s2.heap.objs.size (.lst [])) b:=fun b hb=>⟨by rw [upd_ne (Nat.ne_of_lt (fpl b hb))];exact (hf b hb).1,(hf b hb).2⟩
 have hsz:(s2.heap.push { cls:=.type "list",data:=.seq ([]:List Value).toArray }).objs.size=s2.heap.objs.size + 1:=Heap.size_push ..
 refine wpAny_newObj_type (wpAny_newFunctionEnv S.nocell (fun y hy=>nomatch hy) (fun h1 hn1 hs1=>?_) S.kind)
 generalize hs3:({ s2 with heap:=s2.heap.push { cls:=.type "list",dict:=none,data:=.seq ([]:List Value).toArray } }:Shared)=s3 at *
 have hk1:∀ b o,s3.heap.get? b=some o→h1.get? b=some o:=fun b o e=>(hs1.2 b (Nat.ne_of_lt (Heap.lt_size e))).trans (Heap.get?_push_of_some _ e)
 have lt3:∀ b∈fp,b < s3.heap.objs.size:=fun b hb=>by rw [← hs3];show b < (s2.heap.push _).objs.size;rw [hsz];exact Nat.lt_succ_of_lt (fpl b hb)
 have I4:Inv (cxComp X M sc s3 (upd H2 s2.heap.objs.size (.lst [])) fp) [] (iniC js σ) (upd H2 s2.heap.objs.size (.lst [])) { s3 with heap:=h1,toks:=s3.toks + ([]:List (Str×Value)).length }:=I3.comp S hf3 lt3 hn1 hk1
 obtain ⟨hg,ht,he⟩:=hb s3 (upd H2 s2.heap.objs.size (.lst [])) fp
 have stat:∀ {H':Hp},(∀ b∈fp,H' b=none)→∀ b∈fp,FpOk (cxComp X M sc s3 (upd H2 s2.heap.objs.size (.lst [])) fp) [] H' b:=fun {H'} hn b hb=>
  ⟨hn b hb,Nat.ne_of_lt (lt3 b hb),I4.ok.exfs b hb,.inl hb,(I4.ok.exf b hb).2,fun p hp=>absurd (show p∈([]:List (Addr×Obj)) from hp) (by simp)⟩
 have st4:tn 0 h1:=T.keep _ _ _ st fun b hb o e=>hk1 b o (by rw [← hs3];exact Heap.get?_push_of_some _ e)
 have fr4:∀ b∈fp,upd H2 s2.heap.objs.size (.lst []) b=none:=fun b hb=>(hf3 b hb).1
 have loop:codeAny (model X.prog X.w) X.A (.compLoop (.ListComp elt [⟨tg,iter,ifs,0⟩] sc pos) 0 (.ref it) (.ref s2.heap.objs.size) (compEnvC sc (cellPairs X.env sc.names []) s3.heap.objs.size X.env)) (RR (.ref s2.heap.objs.size) s3.heap.objs.size)
   { s3 with heap:=h1,toks:=s3.toks + ([]:List (Str×Value)).length }:=by
  refine comp_loop (fun n s'=>∃ i σ' H',Inv (cxComp X M sc s3 (upd H2 s2.heap.objs.size (.lst [])) fp) [] σ' H' s'∧tn i s'.heap∧(∀ b∈fp,H' b=none)∧W i n σ' H') ?_ m0 ⟨0,_,_,I4,st4,fr4,w0⟩
  rintro n s5 ⟨i,σ5,H5,I5,st5,fr5,w5⟩
  rcases turn i n σ5 H5 w5 with ⟨stop,q⟩ | ⟨go,step⟩
  ·refine thn (T.done (cxComp X M sc s3 (upd H2 s2.heap.objs.size (.lst [])) fp) rfl rfl rfl hc i [] s5 σ5 H5 _ I5 (stat fr5) st5 stop) fun r s6 ⟨hr,I6⟩=>?_
   subst hr
   exact hR _ _ _ _ _ _ I3 hf3 I6 q
  ·refine thn (T.item (cxComp X M sc s3 (upd H2 s2.heap.objs.size (.lst [])) fp) rfl rfl rfl hc i [] s5 σ5 H5 _ I5 (stat fr5) st5 go) fun r s6 ⟨u,hr,h6⟩=>?_
   subst hr
   refine thn h6 fun _ s7 ⟨x,H7,I7,r7,y7,st7,fr7⟩=>?_
   have I7':=I7.pinned (stat fr7) (T.obj _ _ st7)
   have back:∀ {σ8:St}{H8:Hp}{s8:Shared},Inv (cxComp X M sc s3 (upd H2 s2.heap.objs.size (.lst [])) fp) ([]++pinsAt fp s7.heap) σ8 H8 s8→tn (i + 1) s8.heap∧(∀ b∈fp,H8 b=none):=fun {σ8 H8 s8} I8=>
    ⟨T.keep _ _ _ st7 fun b hb o e=>(I8.pin (b,o) (List.mem_append_right _ (List.mem_append_right _ (mem_pinsAt hb e)))).1,fun b hb=>by
     obtain ⟨o,e,_⟩:=T.obj _ _ st7 b hb
     exact (I8.pin (b,o) (List.mem_append_right _ (List.mem_append_right _ (mem_pinsAt hb e)))).2.1⟩
   refine thn (hg _ s7 σ5 H7 x u _ I7' r7 (step x H7 y7)) fun _ s8 ⟨σ8,H8,I8,q8⟩=>?_
   refine thn (ht _ s8 σ8 H8 _ I8 q8) fun ok s9 ⟨H9,I9,q9⟩=>?_
   cases ok with
   | false=>
    rw [if_neg Bool.false_ne_true] at q9 ⊢
    obtain ⟨m',hm,w9⟩:=q9
    obtain ⟨a9,b9⟩:=back I9
    exact ⟨m',hm,i + 1,σ8,H9,I9.unpinned,a9,b9,w9⟩
   | true=>
    rw [if_pos rfl] at q9 ⊢
    refine thn (he _ s9 σ8 H9 _ I9 q9) fun y s10 ⟨yv,H10,I10,r10,xs,hD,hz,m',hm,w10⟩=>?_
    refine thn (mt_append _ s10 σ8 H10 (.ref s2.heap.objs.size) [yv] (.ref s2.heap.objs.size) [y] (fun v H11=>v=.non∧H11=upd H10 s2.heap.objs.size (.lst (xs++[yv]))) I10 rfl (.cons r10 .nil) ⟨_,xs,yv,rfl,rfl,hD,hz,rfl,rfl⟩) fun _ s11 ⟨v11,H11,I11,_,_,e11⟩=>?_
    subst e11
    obtain ⟨a9,b9⟩:=back I11
    exact ⟨m',hm,i + 1,σ8,_,I11.unpinned,a9,b9,w10⟩
 exact codeAny_compStart_list loop (T.self _ 0 _ _ _ st4 loop)
theorem pe_comp {tg iter elt:Expr}{ifs:List Expr}{sc:Scope}{pos:Pos}{M:List Str}{js:List (Option Nat)}{wi:TI}{g:TG}{tt:TT}{te:TE} (S:CompScope X M js sc) (hc:X.calm=true) (hi:PI X tg iter wi)
  (hb:∀ s3 H3 fp,PG (cxComp X M sc s3 H3 fp) tg g∧PTs (cxComp X M sc s3 H3 fp) ifs tt∧PE (cxComp X M sc s3 H3 fp) elt te) (hs:∀ x,foldedSetIterable iter X.env x=pure x:=by intro _;rfl) :
  PE X (.ListComp elt [⟨tg,iter,ifs,0⟩] sc pos) (tComp wi js g tt te):=by
 intro pins s σ H Q I h
 rw [eval_ListComp]
 refine wpAny_comprehension_free (use:=none) rfl hs (clos_of fun x hx=>I.ok.has x (S.free x hx)) S.kind S.loc ?_
 show wpAny (model X.prog X.w) X.A (eval iter X.env) _ _ s
 refine thn (hi pins s σ H _ I h) fun v s1 h1=>thn h1 fun itv s2 ⟨it,fp,tn,J,H2,e,I2,T,st2,f2,h2⟩=>?_
 subst e
 refine comp_block (RR:=fun acc C=>compPost (model X.prog X.w) X.A X.xe none (EP X pins σ Q) acc C) S (.inl hc) I2 T st2 f2 hb h2 fun D s3 H3 s' σ' H' I3 f3 J' q=>?_
 obtain ⟨m,hm,_⟩:=J'.loc
 exact ⟨m,hm,fun h' hs'=>⟨.ref D,H',I3.uncomp f3 J' hs',rfl,q⟩⟩
end
theorem len_dict_special:typeLookup (.type "dict") "__len__"=pure (some (.builtin "dict.__len__")):=by rw [typeLookup_type,builtinLookup_eq_fast];kernel_rfl
section
variable {prog:Program}{w:World}{A:Around}{E:Value→Shared→Prop}{s:Shared}
theorem collect_dict {κ:Type} [DecidableEq κ] {knd:KeyKind prog w κ}{d:Addr}{kvs:List (κ×Value)}{Q:List Value→Shared→Prop} (hh:A.handled=none) (hd:(d == sysModules)=false) (hm:s.heap.DictOf knd d kvs) (hz:kvs.length≤sizeLine)
  (hQ:∀ s' acc,s.heap.objs.size≤s'.heap.objs.size→(∀ b o,s.heap.get? b=some o→s'.heap.get? b=some o)→s'.gens=s.gens→s'.drawn=s.drawn→s'.os=s.os→ItemsOf (fun i v=>∃ k x,kvs[i]? = some (k,x)∧knd.is k v=true) acc kvs.length→Q acc.toList s') :
  wpAny (model prog w) A (collect (.ref d)) Q E s:=by
 obtain ⟨ep,hm⟩:=hm.dictAt
 have hlt:d < s.heap.objs.size:=hm.lt_size
 unfold collect
 refine wpAny_bind (wpAny_runValue (codeAny_builtin F.entry_proto_collect ?_))
 rw [Around.under_plainId F.plain_proto_collect _]
 show wpAny (model prog w) A.in1 (newList [] >>= fun l=>again (.builtin "list.__iadd__" ⟨[l,.ref d],[]⟩)) _ _ s
 refine wpAny_bind (wpAny_newObj_type ?_)
 refine wpAny_pure ⟨plainId_quiet F.plain_list_iadd _,codeAny_builtin F.entry_list_iadd ?_⟩
 rw [Around.under_plainId F.plain_list_iadd _]
 have hm1:=hm.push { cls:=.type "list",data:=.seq ([]:List Value).toArray }
 have hT1:({ s with heap:=s.heap.push { cls:=.type "list",data:=.seq ([]:List Value).toArray } }:Shared).TypeIs (.ref d) "dict":=hm1.dictOf.typeIs
 show wpAny (model prog w) A.in1 (Builtin.List.listExtendWith (.ref s.heap.objs.size) (.ref d) (.ref s.heap.objs.size)) _ _ _
 unfold Builtin.List.listExtendWith
 refine wpAny_bind (wpAny_typeOf hT1 ?_)
 have h1:Builtin.List.listSameRef (.ref s.heap.objs.size) (.ref d)=false:=by simp [Builtin.List.listSameRef,Nat.ne_of_gt hlt]
 have h2:(Value.type "dict" == Value.type "list")=false:=by decide
 have h3:(Value.type "dict" == Value.type "tuple")=false:=by decide
 simp only [h1,h2,h3,Bool.or_false,Bool.false_eq_true,if_false]
 refine wpAny_bind (wpAny_pyIter_dict hd hm1 ?_)
 refine wpAny_bind (wpAny_holding ?_)
 have hm2:=hm1.push { cls:=.type "dict_keyiterator",data:=.fields #[.ref d,.int 0 0,.int kvs.length 0,.int ep 0] }
 have hT2:({ s with heap:=(s.heap.push { cls:=.type "list",data:=.seq ([]:List Value).toArray }).push { cls:=.type "dict_keyiterator",data:=.fields #[.ref d,.int 0 0,.int kvs.length 0,.int ep 0] } }:Shared).TypeIs (.ref d) "dict":=hm2.dictOf.typeIs
 unfold Builtin.List.listLengthHint
 refine wpAny_bind (wpAny_specialOf hT2 len_dict_special ?_)
 generalize hid:("dict.__len__":String)=id0
 (fail_if_success (clear hid id0))
 wp_delta
 rw [show splitId id0=some ("dict","__len__") from by subst hid;decide +kernel]
 subst hid
 refine wpAny_bind (wpAny_isInstance (b:=true) hT2 (by rw [isSubtype_type];kernel_rfl) ?_)
 show wpAny (model prog w) A.in1 (typeOf (.ref d) >>= _) _ _ _
 refine wpAny_bind (wpAny_typeOf hT2 ?_)
 refine wpAny_pure ?_
 show wpAny (model prog w) A.in1 (rule "list.extend.makes-room" >>= fun _=>Builtin.List.listTouch (.ref s.heap.objs.size) >>= fun _=>again (.builtin "list.extend.loop" ⟨[.ref s.heap.objs.size,.ref _,.ref s.heap.objs.size],[]⟩)) _ _ _
 refine wpAny_bind (wpAny_rule ?_)
 have hsz:(s.heap.push { cls:=.type "list",data:=.seq ([]:List Value).toArray }).objs.size=s.heap.objs.size + 1:=Heap.size_push ..
 generalize hh1:s.heap.push { cls:=.type "list",data:=.seq ([]:List Value).toArray }=h1 at *
 have hS1:h1.get? s.heap.objs.size=some { cls:=.type "list",data:=.seq ([]:List Value).toArray }:=by rw [← hh1];exact Heap.get?_push_size _ rfl
 have old1:∀ b o,s.heap.get? b=some o→h1.get? b=some o:=fun b o e=>by rw [← hh1];exact Heap.get?_push_of_some _ e
 dsimp only
 have hI2:(h1.push { cls:=.type "dict_keyiterator",data:=.fields #[.ref d,.int 0 0,.int kvs.length 0,.int ep 0] }).get? h1.objs.size=some { cls:=.type "dict_keyiterator",data:=.fields #[.ref d,.int 0 0,.int kvs.length 0,.int ep 0] }:=Heap.get?_push_size _ rfl
 have hS2:(h1.push { cls:=.type "dict_keyiterator",data:=.fields #[.ref d,.int 0 0,.int kvs.length 0,.int ep 0] }).get? s.heap.objs.size=some { cls:=.type "list",data:=.seq ([]:List Value).toArray }:=Heap.get?_push_of_some _ hS1
 have old2:∀ b o,s.heap.get? b=some o→(h1.push { cls:=.type "dict_keyiterator",data:=.fields #[.ref d,.int 0 0,.int kvs.length 0,.int ep 0] }).get? b=some o:=fun b o e=>Heap.get?_push_of_some _ (old1 b o e)
 generalize hh2:h1.push { cls:=.type "dict_keyiterator",data:=.fields #[.ref d,.int 0 0,.int kvs.length 0,.int ep 0] }=h2 at *
 have nSI:s.heap.objs.size≠h1.objs.size:=by rw [hsz];exact Nat.ne_of_lt (Nat.lt_succ_self _)
 have nSd:s.heap.objs.size≠d:=Nat.ne_of_gt hlt
 have ndI:d≠h1.objs.size:=by rw [hsz];exact Nat.ne_of_lt (Nat.lt_succ_of_lt hlt)
 refine wpAny_bind ?_
 show wpAny (model prog w) A.in1 (updateSeq s.heap.objs.size (·.push .none) >>= fun _=>updateSeq s.heap.objs.size (·.pop)) _ _ _
 refine wpAny_bind (wpAny_updateSeq hS2 rfl ?_)
 have hS3:=Heap.get?_update_self (Obj.mapSeq (·.push Value.none)) hS2 rfl
 refine wpAny_updateSeq hS3 rfl ?_
 have hS4:=Heap.get?_update_self (Obj.mapSeq (·.pop)) hS3 rfl
 have oth:∀ b o,b≠s.heap.objs.size→h2.get? b=some o→((h2.update s.heap.objs.size (Obj.mapSeq (·.push Value.none))).update s.heap.objs.size (Obj.mapSeq (·.pop))).get? b=some o:=
  fun b o hb e=>(Heap.get?_update_other _ _ (Ne.symm hb)).trans ((Heap.get?_update_other _ _ (Ne.symm hb)).trans e)
 have W:=(Walks.dictKeys (prog:=prog) (w:=w) (A:=A.in1) (knd:=knd) hh h1.objs.size d ndI kvs ep).toS
 refine wpAny_pure ⟨plainId_quiet F.plain_extend_loop _,codeAny_extend_loopS W hz s.heap.objs.size (by simp;exact ⟨nSI,nSd⟩) _ kvs.length 0 _ _ _ rfl (Nat.zero_le _) ?_ hS4 (ItemsOf.nil _) fun s' acc' c' hmv hS' hacc=>?_⟩
 ·exact ⟨⟨_,oth _ _ (Ne.symm nSI) hI2,rfl,rfl⟩,hm2.at' fun o e=>oth _ _ (Ne.symm nSd) e⟩
 ·show wpAny (model prog w) A (load s.heap.objs.size >>= _) _ _ s'
  refine wpAny_bind (wpAny_load hS' ?_)
  refine wpAny_pure (hQ s' acc' (Nat.le_of_lt (Heap.lt_size hS')) (fun b o e=>?_) hmv.gens hmv.drawn hmv.os hacc)
  have hb:b < s.heap.objs.size:=Heap.lt_size e
  refine hmv.heap b o ?_ (oth b o (Nat.ne_of_lt hb) (old2 b o e))
  intro m
  rcases List.mem_cons.mp m with z | z
  ·exact absurd hb (by rw [z];exact Nat.lt_irrefl _)
  ·have z:=List.mem_singleton.mp z
   rw [hsz] at z
   exact absurd hb (by rw [z];exact Nat.not_lt.mpr (Nat.le_succ _))
theorem sorted_by {x:Value}{Q:Value→Shared→Prop} (hc:∀ (Q':List Value→Shared→Prop),(∀ vs s',(∃ ns,IntsAre vs ns∧∀ (out:Array Value) (ns':List Int),IntsAre out.toList ns'→ns'.Perm ns→ns'.Pairwise (·≤·) →
    Q (.ref s'.heap.objs.size) { s' with heap:=sortedHeap (s'.heap.push (seqObj "list" vs.toArray 0)) s'.heap.objs.size vs out })∧vs.length < 64→Q' vs s')→wpAny (model prog w) A.in1 (collect x) Q' E s):wpAny (model prog w) A (call (.builtin "sorted") [x]) Q E s:=by
 refine call_function_tree kind_sorted plain_sorted entry_sorted (args_sorted1 _) ?_
 unfold Builtin.«sorted»
 refine wpAny_bind (m:=checkCount "sorted" 1 1 _) (wpAny_pure ?_)
 refine wpAny_bind (hc _ fun vs s' ⟨⟨ns,hI,h⟩,h64⟩=>?_)
 refine wpAny_bind (wpAny_newList ?_)
 have hoL:(s'.heap.push (seqObj "list" vs.toArray 0)).get? s'.heap.objs.size=some (seqObj "list" vs.toArray 0):=Heap.get?_push_size _ rfl
 show wpAny _ _ _ _ _ { s' with heap:=s'.heap.push (seqObj "list" vs.toArray 0) }
 refine wpAny_bind (wpAny_holding (wpAny_call_entry slot_list_sort ⟨_,hoL,rfl⟩ entry_list_sort (list_sort_tree hoL hI h64 fun out ns' a1 a2 a3=>⟨_,rfl,?_⟩) (args_list_sort _)))
 exact wpAny_pure (h out ns' a1 a2 a3)
end
section
variable {X:Cx}
theorem ints_keys {P:Program}{w:World}:∀ {ks:List Int}{kvs:List (Key×Value)}{vs:List Value},kvs.map (·.1)=ks.map Sum.inl→vs.length=kvs.length→(∀ (i:Nat) v,vs[i]? = some v→∃ k x,kvs[i]? = some (k,x)∧(mixKind P w).is k v=true)→IntsAre vs ks
 | [],[],vs,_,hl,_=>by cases vs with
  | nil=>exact .nil
  | cons _ _=>simp at hl
 | [],_::_,_,e,_,_=>by simp at e
 | _::_,[],_,e,_,_=>by simp at e
 | k::ks,(q,x)::kvs,vs,e,hl,h=>by
  simp only [List.map_cons,List.cons.injEq] at e
  obtain ⟨rfl,e⟩:=e
  cases vs with
  | nil=>simp at hl
  | cons v vs=>
   obtain ⟨k',x',e0,hk⟩:=h 0 v rfl
   have e0':(Sum.inl k,x)=(k',x'):=Option.some.inj e0
   cases e0'
   rcases keyIs_shape (show keyIs (Sum.inl k) v=true from hk) with ⟨i,t,e1,e2⟩ | ⟨y,t,e1,e2⟩
   ·cases e1
    subst e2
    exact .cons k t (ints_keys e (by simpa using hl) fun i v hv=>h (i + 1) v (by simpa using hv))
   ·cases e1
def rSorted (K:PySem.W.Frag):List V→Hp→VK→Prop:=fun xs H Q=>∃ (p:Addr) (ks:List Int),xs=[.ref p]∧ks.length < 64∧((∃ kvs:List (Key×V),H p=some (.dK kvs)∧kvs.map (·.1)=ks.map Sum.inl)∨SqL K H p (ks.map V.int)) ∧
 ∀ (l:Addr) (ks':List Int),H l=none→ks'.Perm ks→ks'.Pairwise (·≤·)→Q (.ref l) (upd H l (.lst (ks'.map V.int)))
theorem call_sorted (hc:X.calm=true):CallR X (.builtin "sorted") (rSorted X.K):=by
 intro pins s σ H xs us Q I r h
 obtain ⟨p,ks,rfl,h64,hsrc,q⟩:=h
 obtain ⟨u,rfl,ru⟩:=vals1 r
 cases ru
 have fin:∀ (vs:List Value) (s':Shared),s.heap.objs.size≤s'.heap.objs.size→(∀ b o,s.heap.get? b=some o→s'.heap.get? b=some o)→s'.gens=s.gens→s'.drawn=s.drawn→s'.os=s.os→∀ (out:Array Value) (ns':List Int),IntsAre out.toList ns'→ns'.Perm ks→ns'.Pairwise (·≤·) →
   EP X pins σ Q (.ref s'.heap.objs.size) { s' with heap:=sortedHeap (s'.heap.push (seqObj "list" vs.toArray 0)) s'.heap.objs.size vs out }:=by
  intro vs s' hle hk e1 e2 e3 out ns' a1 a2 a3
  obtain ⟨h',g',d',t',o'⟩:=s'
  dsimp only at e1 e2 e3 hk hle
  subst e1 e2 e3
  obtain ⟨e,he⟩:=sortedHeap_at (vs:=vs) (n:=0) (out:=out) (show (h'.push (seqObj "list" vs.toArray 0)).get? h'.objs.size=some (seqObj "list" vs.toArray 0) from Heap.get?_push_size _ rfl)
  have hlen:ns'.length < 64:=by rw [a2.length_eq];exact h64
  refine ⟨.ref h'.objs.size,upd H h'.objs.size (.lst (ns'.map V.int)),I.laid (t':=t') (fun b o eb=>?_) hle ?_,rfl,q _ ns' (I.hok.fresh hle) a2 a3⟩
  ·have hb:b < h'.objs.size:=Heap.lt_size (hk b o eb)
   rw [sortedHeap_old (Nat.ne_of_lt hb) (by rw [Heap.size_push];exact Nat.lt_succ_of_lt hb)]
   exact Heap.get?_push_of_some _ (hk b o eb)
  ·exact ⟨by rw [List.length_map];exact Nat.le_of_lt (small1000 (by omega)),out.toList,e,vals_ints a1,by rw [he]⟩
 have hh:X.A.handled=none:=I.ok.hd hc
 refine sorted_by fun Q' hQ'=>?_
 rcases hsrc with ⟨kvs,hp,hk⟩ | hp
 ·obtain ⟨hz,hd,vs,rel,dd⟩:=dk_of I.hok hp
  refine collect_dict (A:=X.A.in1) hh hd dd (by rw [← rel.length];exact hz) fun s' acc hle kp e1 e2 e3 it=>hQ' _ s' ⟨⟨ks,?_,fun out ns' a1 a2 a3=>fin _ s' hle kp e1 e2 e3 out ns' a1 a2 a3⟩,?_⟩
  ·refine ints_keys (P:=X.prog) (w:=X.w) (kvs:=vs) (by rw [← rel.keys];exact hk) (by rw [Array.length_toList];exact it.1) fun i v hv=>it.2 i v (by rw [← Array.getElem?_toList];exact hv)
  ·rw [Array.length_toList,it.1,← rel.length]
   have:=congrArg List.length hk
   rw [List.length_map,List.length_map] at this
   omega
 ·obtain ⟨its,rv,pl,hz⟩:=I.list hp
  have hi:=intsAre_of rv
  have k1:s.heap.objs.size≤((s.heap.push (seqObj "list" #[] 0)).update s.heap.objs.size (Obj.mapSeq (·++its.toArray))).objs.size:=by
   rw [Heap.size_update,Heap.size_push];exact Nat.le_succ _
  have k2:∀ b o,s.heap.get? b=some o→((s.heap.push (seqObj "list" #[] 0)).update s.heap.objs.size (Obj.mapSeq (·++its.toArray))).get? b=some o:=fun b o e=>
   (Heap.get?_update_other _ _ (Nat.ne_of_gt (Heap.lt_size e))).trans (Heap.get?_push_of_some _ e)
  refine collect_list pl.isList (hQ' _ _ ⟨⟨ks,hi,fun out ns' a1 a2 a3=>fin its { s with heap:=(s.heap.push (seqObj "list" #[] 0)).update s.heap.objs.size (Obj.mapSeq (·++its.toArray)) } k1 k2 rfl rfl rfl out ns' a1 a2 a3⟩,?_⟩) (by rw [← rv.length];exact hz)
  rw [← rv.length,List.length_map];exact h64
end
end L2
namespace L2.Ev
open PySem PySem.Spec PyProof.Rows
abbrev XN:=Str×Option Nat
inductive D where
 | non | bl (b:Bool) | int (i:Int) | str (x:Str) | tup (ds:List D) | lst (ds:List D) | fls (ds:List D) | dic (kvs:List (Key×D)) | dit (kvs:List (List Key×D)) | ins (cn:Str) (fs:List (Str×D)) | exc (cn:XN)
def Frz (K:PySem.W.Frag) (H:Hp) (a:Addr) (xs:List V):Prop:=(∃ o,H a=some (.frz o (.lst xs))) ∨
 ∃ (o:Obj) (its:Array Value) (n:Nat),K.lookup a=some o∧o.cls=.type "list"∧o.dict=none∧o.data=.seq its n∧its.size≤sizeLine∧Vals xs its.toList
theorem Frz.sq {K:PySem.W.Frag}{H:Hp}{a:Addr}{xs:List V} (h:Frz K H a xs):SqL K H a xs:=h.elim (fun z=>.inl (.inr z)) .inr
mutual
inductive Rep (K:PySem.W.Frag) (H:Hp):D→V→List Addr→Prop
 | non:Rep K H .non .non []
 | bl (b:Bool):Rep K H (.bl b) (.bl b) []
 | int (i:Int):Rep K H (.int i) (.int i) []
 | str (x:Str):Rep K H (.str x) (.str x) []
 | tup {a:Addr}{xs:List V}{ds:List D}{fp:List Addr}:SqT K H a xs→Reps K H ds xs fp→Rep K H (.tup ds) (.ref a) fp
 | lst {a:Addr}{xs:List V}{ds:List D}{fp:List Addr}:H a=some (.lst xs)→Reps K H ds xs fp→Rep K H (.lst ds) (.ref a) (a::fp)
 | lsf {a:Addr}{xs:List V}{ds:List D}{fp:List Addr}:Frz K H a xs→Reps K H ds xs fp→Rep K H (.fls ds) (.ref a) fp
 | dic {a:Addr}{kvs:List (Key×V)}{es:List (Key×D)}{fp:List Addr}:H a=some (.dK kvs)→es.map (·.1)=kvs.map (·.1)→Reps K H (es.map (·.2)) (kvs.map (·.2)) fp→Rep K H (.dic es) (.ref a) (a::fp)
 | dit {a:Addr}{kvs:List (List Key×V)}{es:List (List Key×D)}{fp:List Addr}:H a=some (.dT kvs)→es.map (·.1)=kvs.map (·.1)→Reps K H (es.map (·.2)) (kvs.map (·.2)) fp→Rep K H (.dit es) (.ref a) (a::fp)
 | ins {cn:Str}{a C dx:Addr}{fs:List (Str×V)}{es:List (Str×D)}{fp:List Addr}:PySem.W.nsIn K mainGlobals cn=some (some (.ref C))→H a=some (.ins C dx fs)→H dx=some (.own a)→es.map (·.1)=fs.map (·.1)→Reps K H (es.map (·.2)) (fs.map (·.2)) fp→Rep K H (.ins cn es) (.ref a) (a::dx::fp)
 | exc {cn:XN}{a C:Addr}{de:Option Addr}{ob:Obj}:PySem.W.nsIn K mainGlobals cn.1=some (some (.ref C))→H a=some (ExcF ob a (.ref C) de)→(∀ n,cn.2=some n→∃ dx,de=some dx∧H dx=some (XdO dx n))→Rep K H (.exc cn) (.ref a) []
inductive Reps (K:PySem.W.Frag) (H:Hp):List D→List V→List Addr→Prop
 | nil:Reps K H [] [] []
 | cons {d:D}{v:V}{ds:List D}{vs:List V}{f1 f2:List Addr}:Rep K H d v f1→Reps K H ds vs f2→Reps K H (d::ds) (v::vs) (f1++f2)
end
def Imm (H H':Hp):Prop:=(∀ a xs,H a=some (.tup xs)→H' a=some (.tup xs))∧(∀ a o u,H a=some (.frz o u)→H' a=some (.frz o u))∧∀ a φ,H a=some (.ext φ)→H' a=some (.ext φ)
theorem Imm.sqt {K:PySem.W.Frag}{H H':Hp}{a:Addr}{xs:List V} (i:Imm H H') (h:SqT K H a xs):SqT K H' a xs:=by
 rcases h with (h | ⟨o,h⟩) | h
 ·exact .inl (.inl (i.1 _ _ h))
 ·exact .inl (.inr ⟨o,i.2.1 _ _ _ h⟩)
 ·exact .inr h
theorem Imm.frz {K:PySem.W.Frag}{H H':Hp}{a:Addr}{xs:List V} (i:Imm H H') (h:Frz K H a xs):Frz K H' a xs:=by
 rcases h with ⟨o,h⟩ | h
 ·exact .inl ⟨o,i.2.1 _ _ _ h⟩
 ·exact .inr h
theorem Imm.of {H H':Hp} (h:Same H H'):Imm H H':=⟨fun _ _ e=>h _ _ e,fun _ _ _ e=>h _ _ e,fun _ _ e=>h _ _ e⟩
theorem Imm.trans {H H1 H2:Hp} (a:Imm H H1) (b:Imm H1 H2):Imm H H2:=⟨fun _ _ e=>b.1 _ _ (a.1 _ _ e),fun _ _ _ e=>b.2.1 _ _ _ (a.2.1 _ _ _ e),fun _ _ e=>b.2.2 _ _ (a.2.2 _ _ e)⟩
def MutO:HO→Bool
 | .lst _ | .dK _ | .dT _ | .ins _ _ _ | .own _=>true
 | _=>false
theorem Imm.upd {H:Hp}{p:Addr}{o o':HO} (h:H p=some o) (m:MutO o=true):Imm H (upd H p o'):=by
 refine ⟨fun a xs e=>?_,fun a q u e=>?_,fun a q e=>?_⟩
 ·rw [upd_ne]
  ·exact e
  ·rintro rfl;rw [h] at e;cases e;cases m
 ·rw [upd_ne]
  ·exact e
  ·rintro rfl;rw [h] at e;cases e;cases m
 ·rw [upd_ne]
  ·exact e
  ·rintro rfl;rw [h] at e;cases e;cases m
section
variable {K:PySem.W.Frag}{H H':Hp}
mutual
theorem Rep.frame:∀ {d:D}{v:V}{fp:List Addr},Rep K H d v fp→(∀ a∈fp,H' a=H a)→Imm H H'→Rep K H' d v fp
 | _,_,_,.non,_,_=>.non
 | _,_,_,.bl b,_,_=>.bl b
 | _,_,_,.int i,_,_=>.int i
 | _,_,_,.str x,_,_=>.str x
 | _,_,_,.tup h r,k,i=>.tup (i.sqt h) (Reps.frame r k i)
 | _,_,_,.lst h r,k,i=>.lst ((k _ List.mem_cons_self).trans h) (Reps.frame r (fun a m=>k a (List.mem_cons_of_mem _ m)) i)
 | _,_,_,.lsf h r,k,i=>.lsf (i.frz h) (Reps.frame r k i)
 | _,_,_,.dic h e r,k,i=>.dic ((k _ List.mem_cons_self).trans h) e (Reps.frame r (fun a m=>k a (List.mem_cons_of_mem _ m)) i)
 | _,_,_,.dit h e r,k,i=>.dit ((k _ List.mem_cons_self).trans h) e (Reps.frame r (fun a m=>k a (List.mem_cons_of_mem _ m)) i)
 | _,_,_,.exc g h p,k,i=>.exc g (i.2.1 _ _ _ h) fun n e=>let ⟨dx,q,z⟩:=p n e;⟨dx,q,i.2.2 _ _ z⟩
 | _,_,_,.ins g h h2 e r,k,i=>.ins g ((k _ List.mem_cons_self).trans h) ((k _ (List.mem_cons_of_mem _ List.mem_cons_self)).trans h2) e (Reps.frame r (fun a m=>k a (List.mem_cons_of_mem _ (List.mem_cons_of_mem _ m))) i)
theorem Reps.frame:∀ {ds:List D}{vs:List V}{fp:List Addr},Reps K H ds vs fp→(∀ a∈fp,H' a=H a)→Imm H H'→Reps K H' ds vs fp
 | _,_,_,.nil,_,_=>.nil
 | _,_,_,.cons h t,k,i=>.cons (Rep.frame h (fun a m=>k a (List.mem_append_left _ m)) i) (Reps.frame t (fun a m=>k a (List.mem_append_right _ m)) i)
end
mutual
theorem Rep.dom:∀ {d:D}{v:V}{fp:List Addr},Rep K H d v fp→∀ a∈fp,∃ o,H a=some o∧MutO o=true
 | _,_,_,.non,_,m=>nomatch m
 | _,_,_,.bl b,_,m=>nomatch m
 | _,_,_,.int i,_,m=>nomatch m
 | _,_,_,.str x,_,m=>nomatch m
 | _,_,_,.tup h r,a,m=>Reps.dom r a m
 | _,_,_,.lst h r,a,m=>(List.mem_cons.mp m).elim (fun e=>⟨_,e ▸ h,rfl⟩) fun m=>Reps.dom r a m
 | _,_,_,.lsf h r,a,m=>Reps.dom r a m
 | _,_,_,.dic h e r,a,m=>(List.mem_cons.mp m).elim (fun e=>⟨_,e ▸ h,rfl⟩) fun m=>Reps.dom r a m
 | _,_,_,.dit h e r,a,m=>(List.mem_cons.mp m).elim (fun e=>⟨_,e ▸ h,rfl⟩) fun m=>Reps.dom r a m
 | _,_,_,.exc _ _ _,_,m=>nomatch m
 | _,_,_,.ins _ h h2 e r,a,m=>(List.mem_cons.mp m).elim (fun e=>⟨_,e ▸ h,rfl⟩) fun m=>(List.mem_cons.mp m).elim (fun e=>⟨_,e ▸ h2,rfl⟩) fun m=>Reps.dom r a m
theorem Reps.dom:∀ {ds:List D}{vs:List V}{fp:List Addr},Reps K H ds vs fp→∀ a∈fp,∃ o,H a=some o∧MutO o=true
 | _,_,_,.nil,_,m=>nomatch m
 | _,_,_,.cons h t,a,m=>(List.mem_append.mp m).elim (Rep.dom h a) (Reps.dom t a)
end
theorem Rep.same {d:D}{v:V}{fp:List Addr} (h:Rep K H d v fp) (s:Same H H'):Rep K H' d v fp:=
 h.frame (fun a m=>let ⟨o,e,_⟩:=h.dom a m;(s a o e).trans e.symm) (.of s)
theorem Reps.same {ds:List D}{vs:List V}{fp:List Addr} (h:Reps K H ds vs fp) (s:Same H H'):Reps K H' ds vs fp:=
 h.frame (fun a m=>let ⟨o,e,_⟩:=h.dom a m;(s a o e).trans e.symm) (.of s)
theorem Reps.length:∀ {ds:List D}{vs:List V}{fp:List Addr},Reps K H ds vs fp→ds.length=vs.length
 | _,_,_,.nil=>rfl
 | _,_,_,.cons _ t=>by rw [List.length_cons,List.length_cons,Reps.length t]
theorem Reps.get:∀ {ds:List D}{vs:List V}{fp:List Addr}{i:Nat}{d:D},Reps K H ds vs fp→ds[i]? = some d→∃ v f,vs[i]? = some v∧Rep K H d v f∧∀ a∈f,a∈fp
 | _,_,_,_,_,.nil,e=>by simp at e
 | _,_,_,0,_,.cons h t,e=>by
  have e':=Option.some.inj e
  subst e'
  exact ⟨_,_,rfl,h,fun a m=>List.mem_append_left _ m⟩
 | _,_,_,i + 1,d,.cons h t,e=>by
  obtain ⟨v,f,e1,r,s⟩:=Reps.get (i:=i) (d:=d) t (by simpa using e)
  exact ⟨v,f,by simpa using e1,r,fun a m=>List.mem_append_right _ (s a m)⟩
theorem Reps.append:∀ {ds es:List D}{vs ws:List V}{f g:List Addr},Reps K H ds vs f→Reps K H es ws g→Reps K H (ds++es) (vs++ws) (f++g)
 | _,_,_,_,_,_,.nil,s=>s
 | _,_,_,_,_,g,.cons h t,s=>by
  rw [List.append_assoc]
  exact .cons h (Reps.append t s)
end
theorem Rep.int_of {K:PySem.W.Frag}{H:Hp}{i:Int}{v:V}{fp:List Addr} (r:Rep K H (.int i) v fp):v=.int i∧fp=[]:=by cases r;exact ⟨rfl,rfl⟩
theorem Rep.bl_of {K:PySem.W.Frag}{H:Hp}{i:Bool}{v:V}{fp:List Addr} (r:Rep K H (.bl i) v fp):v=.bl i∧fp=[]:=by cases r;exact ⟨rfl,rfl⟩
theorem Rep.str_of {K:PySem.W.Frag}{H:Hp}{i:Str}{v:V}{fp:List Addr} (r:Rep K H (.str i) v fp):v=.str i∧fp=[]:=by cases r;exact ⟨rfl,rfl⟩
theorem Rep.non_of {K:PySem.W.Frag}{H:Hp}{v:V}{fp:List Addr} (r:Rep K H .non v fp):v=.non∧fp=[]:=by cases r;exact ⟨rfl,rfl⟩
mutual
def imm:D→Bool
 | .lst _ | .dic _ | .dit _ | .ins _ _=>false
 | .tup ds=>immAll ds
 | .fls ds=>immAll ds
 | _=>true
def immAll:List D→Bool
 | []=>true
 | d::ds=>imm d&&immAll ds
end
section
variable {K:PySem.W.Frag}{H H':Hp}
mutual
theorem Rep.imm:∀ {d:D}{v:V}{fp:List Addr},Rep K H d v fp→imm d=true→fp=[]
 | _,_,_,.non,_=>rfl
 | _,_,_,.bl _,_=>rfl
 | _,_,_,.int _,_=>rfl
 | _,_,_,.str _,_=>rfl
 | _,_,_,.tup _ r,e=>Reps.imm r (by unfold L2.Ev.imm at e;exact e)
 | _,_,_,.lst _ _,e=>by unfold L2.Ev.imm at e;cases e
 | _,_,_,.lsf _ r,e=>by unfold L2.Ev.imm at e;exact Reps.imm r e
 | _,_,_,.dic _ _ _,e=>by unfold L2.Ev.imm at e;cases e
 | _,_,_,.dit _ _ _,e=>by unfold L2.Ev.imm at e;cases e
 | _,_,_,.ins _ _ _ _ _,e=>by unfold L2.Ev.imm at e;cases e
 | _,_,_,.exc _ _ _,_=>rfl
theorem Reps.imm:∀ {ds:List D}{vs:List V}{fp:List Addr},Reps K H ds vs fp→immAll ds=true→fp=[]
 | _,_,_,.nil,_=>rfl
 | _,_,_,.cons h t,e=>by
  unfold immAll at e
  obtain ⟨a,b⟩:=(Bool.and_eq_true _ _).mp e
  rw [Rep.imm h a,Reps.imm t b]
  rfl
end
end
inductive Tag where
 | own | lk | sh (o:List Nat)
abbrev Slot:=Option (D×Tag)
abbrev Rho:=List Slot
def InZ (z:Addr→Option Nat) (i:Nat):Tag→List Addr→Prop
 | .sh o,fp=>∀ a∈fp,∀ j,z a=some j→j∈o
 | _,fp=>fp.Nodup∧∀ a∈fp,z a=some i
def NoOwn (ρ:Rho) (j:Nat):Prop:=∀ d,ρ[j]?≠some (some (d,.own))
structure Held where
 d:D
 v:V
 fp:List Addr
 z0:Addr→Option Nat
structure Ok (K:PySem.W.Frag) (H0:Hp) (S:List Addr) (z:Addr→Option Nat) (held:List Held) (ρ:Rho) (σ:St) (H:Hp):Prop where
 sl:∀ i d t,ρ[i]? = some (some (d,t))→∃ v fp,σ[i]? = some (some v)∧Rep K H d v fp∧InZ z i t fp
 hl:∀ p∈held,Rep K H p.d p.v p.fp∧∀ a∈p.fp,∀ j,z a=some j→p.z0 a=some j∧NoOwn ρ j
 zd:∀ a j,z a=some j→(∃ o,H a=some o)∧(H0 a=none∨a∈S)
 en:∀ a o,H0 a=some o→a∉S→H a=some o
 ln:ρ.length=σ.length
theorem Ok.same {K:PySem.W.Frag}{H0:Hp}{S:List Addr}{z:Addr→Option Nat}{held:List Held}{ρ:Rho}{σ:St}{H H':Hp} (h:Ok K H0 S z held ρ σ H) (s:Same H H'):Ok K H0 S z held ρ σ H':=
 ⟨fun i d t e=>let ⟨v,fp,a,b,c⟩:=h.sl i d t e;⟨v,fp,a,b.same s,c⟩,fun p m=>let ⟨a,b⟩:=h.hl p m;⟨a.same s,b⟩,
  fun a j e=>let ⟨⟨o,x⟩,y⟩:=h.zd a j e;⟨⟨o,s _ _ x⟩,y⟩,fun a o e n=>s _ _ (h.en a o e n),h.ln⟩
def TagOk (z:Addr→Option Nat) (H:Hp):Tag→List Addr→Prop
 | .sh o,fp=>∀ a∈fp,∀ j,z a=some j→j∈o
 | _,fp=>fp.Nodup∧∀ a∈fp,H a=none
theorem TagOk.nil {z:Addr→Option Nat}{H:Hp}{t:Tag}:TagOk z H t []:=by
 cases t with
 | sh o=>intro a m;cases m
 | own=>exact ⟨List.nodup_nil,fun a m=>nomatch m⟩
 | lk=>exact ⟨List.nodup_nil,fun a m=>nomatch m⟩
abbrev EF:=Rho→Option (D×Tag)
def FP (X:Cx) (e:Expr) (f:EF):Prop:=∃ t,PE X e t∧∀ (H0:Hp) (S:List Addr) (z:Addr→Option Nat) (held:List Held) (ρ:Rho) (σ:St) (H:Hp) (Q:VK) (d:D) (tg:Tag),
 Ok X.K H0 S z held ρ σ H→f ρ=some (d,tg)→(∀ H' v fp,Same H H'→Rep X.K H' d v fp→TagOk z H tg fp→Q v H')→t σ H Q
abbrev AF:=Rho→Option (List (D×Tag))
abbrev TF:=Rho→Option Bool
def FT (X:Cx) (e:Expr) (f:TF):Prop:=∃ t,PT X e t∧∀ (H0:Hp) (S:List Addr) (z:Addr→Option Nat) (held:List Held) (ρ:Rho) (σ:St) (H:Hp) (Q:Bool→Hp→Prop) (b:Bool),
 Ok X.K H0 S z held ρ σ H→f ρ=some b→(∀ H',Same H H'→Q b H')→t σ H Q
def tagOf (i:Nat):Tag→Tag
 | .sh o=>.sh o
 | _=>.sh [i]
def eVar (i:Nat):EF:=fun ρ=>match ρ[i]? with
 | some (some (d,t))=>some (d,tagOf i t)
 | _=>none
section
variable {X:Cx}
theorem fp_var (i:Nat) {x:Str}{pos:Pos} (hN:X.N[i]? = some x:=by rfl) (hv:Vis X.env.scope x:=by first | exact Or.inl rfl | exact Or.inr (Or.inl rfl) | exact Or.inr (Or.inr rfl)) (hd:(x == ("__debug__":Str))=false:=by decide)
  (hcd:(x == ("__classdict__":Str))=false:=by decide):FP X (.Name x pos) (eVar i):=by
 refine ⟨_,pe_var (i:=i) hN hv hd hcd,fun H0 S z held ρ σ H Q d tg ok e q=>?_⟩
 unfold eVar at e
 cases h:ρ[i]? with
 | none=>rw [h] at e;cases e
 | some s=>
  cases s with
  | none=>rw [h] at e;cases e
  | some p=>
   obtain ⟨d',t⟩:=p
   rw [h] at e
   have e':=Option.some.inj e
   have e1:d'=d:=congrArg Prod.fst e'
   have e2:tagOf i t=tg:=congrArg Prod.snd e'
   subst e1 e2
   obtain ⟨v,fp,hs,r,zz⟩:=ok.sl i d' t h
   refine ⟨v,hs,q H v fp (Same.refl H) r ?_⟩
   cases t with
   | sh o=>exact zz
   | own=>intro a m j ej;rw [zz.2 a m] at ej;cases ej;exact List.mem_cons_self
   | lk=>intro a m j ej;rw [zz.2 a m] at ej;cases ej;exact List.mem_cons_self
def eC (d:D):EF:=fun _=>some (d,.own)
theorem fp_int {i j pos}:FP X (.Constant (.int i) j pos) (eC (.int i)):=⟨_,pe_int,fun _ _ _ _ _ _ H _ _ _ _ e q=>by cases e;exact q H _ _ (Same.refl H) (.int i) .nil⟩
theorem fp_bl {b j pos}:FP X (.Constant (.bool b) j pos) (eC (.bl b)):=⟨_,pe_bl,fun _ _ _ _ _ _ H _ _ _ _ e q=>by cases e;exact q H _ _ (Same.refl H) (.bl b) .nil⟩
def e2 (op:D→D→Option D) (fa fb:EF):EF:=fun ρ=>match fa ρ,fb ρ with
 | some (d1,_),some (d2,_)=>(op d1 d2).map fun d=>(d,.own)
 | _,_=>none
theorem e2_of {op:D→D→Option D}{fa fb:EF}{ρ:Rho}{d:D}{tg:Tag} (e:e2 op fa fb ρ=some (d,tg)):∃ d1 t1 d2 t2,fa ρ=some (d1,t1)∧fb ρ=some (d2,t2)∧op d1 d2=some d∧tg=.own:=by
 unfold e2 at e
 cases h1:fa ρ with
 | none=>rw [h1] at e;cases e
 | some p=>
  obtain ⟨d1,t1⟩:=p
  cases h2:fb ρ with
  | none=>rw [h1,h2] at e;cases e
  | some p=>
   obtain ⟨d2,t2⟩:=p
   rw [h1,h2] at e
   dsimp only at e
   cases h3:op d1 d2 with
   | none=>rw [h3] at e;cases e
   | some d3=>
    rw [h3] at e
    cases e
    exact ⟨d1,t1,d2,t2,rfl,rfl,h3,rfl⟩
def Does2 (K:PySem.W.Frag) (r:R2) (op:D→D→Option D):Prop:=∀ (H:Hp) (x y:V) (d1 d2:D) (f1 f2:List Addr) (d:D) (Q:VK),Rep K H d1 x f1→Rep K H d2 y f2→op d1 d2=some d →
 (∀ H' v,Same H H'→Rep K H' d v []→Q v H')→r x y H Q
theorem fp_2 {a b e:Expr}{fa fb:EF}{r:R2}{op:D→D→Option D} (dd:Does2 X.K r op) (ha:FP X a fa) (hb:FP X b fb) (he:∀ ta tb,PE X a ta→PE X b tb→PE X e (tOp r ta tb)):FP X e (e2 op fa fb):=by
 obtain ⟨ta,pa,sa⟩:=ha
 obtain ⟨tb,pb,sb⟩:=hb
 refine ⟨_,he ta tb pa pb,fun H0 S z held ρ σ H Q d tg ok e q=>?_⟩
 obtain ⟨d1,t1,d2,t2,e1,e2',e3,rfl⟩:=e2_of e
 refine sa H0 S z held ρ σ H _ d1 t1 ok e1 fun H1 x f1 s1 r1 _=>?_
 refine sb H0 S z held ρ σ H1 _ d2 t2 (ok.same s1) e2' fun H2 y f2 s2 r2 _=>?_
 exact dd H2 x y d1 d2 f1 f2 d Q (r1.same s2) r2 e3 fun H3 v s3 r3=>q H3 v [] ((s1.trans s2).trans s3) r3 .nil
end
end L2.Ev
namespace L2.Ev
open PySem PySem.Spec PyProof.Rows
def joinT:Tag→Tag→Tag
 | .sh o,.sh p=>.sh (o++p)
 | .sh o,_=>.sh o
 | _,t=>t
def joinA:List (D×Tag)→Tag
 | []=>.own
 | p::r=>joinT p.2 (joinA r)
def FA (X:Cx) (es:List Expr) (f:AF):Prop:=∃ t,PA X es t∧(∀ ρ ps,f ρ=some ps→ps.length=es.length)∧∀ (H0:Hp) (S:List Addr) (z:Addr→Option Nat) (held:List Held) (ρ:Rho) (σ:St) (H:Hp) (Q:List V→Hp→Prop) (ps:List (D×Tag)),
 Ok X.K H0 S z held ρ σ H→f ρ=some ps→(∀ H' vs fp,Same H H'→Reps X.K H' (ps.map (·.1)) vs fp→TagOk z H (joinA ps) fp→Q vs H')→t σ H Q
def aNil:AF:=fun _=>some []
def aCons (f:EF) (g:AF):AF:=fun ρ=>match f ρ,g ρ with
 | some p,some ps=>some (p::ps)
 | _,_=>none
theorem aCons_of {f:EF}{g:AF}{ρ:Rho}{ps:List (D×Tag)} (e:aCons f g ρ=some ps):∃ d t r,f ρ=some (d,t)∧g ρ=some r∧ps=(d,t)::r:=by
 unfold aCons at e
 cases h1:f ρ with
 | none=>rw [h1] at e;cases e
 | some p=>
  cases h2:g ρ with
  | none=>rw [h1,h2] at e;cases e
  | some r=>
   rw [h1,h2] at e
   cases e
   exact ⟨p.1,p.2,r,rfl,rfl,rfl⟩
theorem TagOk.join {K:PySem.W.Frag}{H0:Hp}{S:List Addr}{z:Addr→Option Nat}{held:List Held}{ρ:Rho}{σ:St}{H H1:Hp}{t1 t2:Tag}{f1 f2:List Addr} (ok:Ok K H0 S z held ρ σ H) (s:Same H H1)
  (h1:TagOk z H t1 f1) (d1:∀ a∈f1,∃ o,H1 a=some o∧MutO o=true) (h2:TagOk z H1 t2 f2):TagOk z H (joinT t1 t2) (f1++f2):=by
 have nz:∀ {a:Addr}{j:Nat},H a=none→z a=some j→False:=fun {a j} e q=>by
  obtain ⟨⟨o,w⟩,_⟩:=ok.zd a j q
  rw [e] at w;cases w
 have both:∀ {t1 t2:Tag},(f1.Nodup∧∀ a∈f1,H a=none)→(f2.Nodup∧∀ a∈f2,H1 a=none)→(f1++f2).Nodup∧∀ a∈f1++f2,H a=none:=fun p q=>by
  refine ⟨List.nodup_append.mpr ⟨p.1,q.1,fun a m b m' e=>?_⟩,fun a m=>?_⟩
  ·subst e
   obtain ⟨o,w,_⟩:=d1 a m
   rw [q.2 a m'] at w;cases w
  ·rcases List.mem_append.mp m with m | m
   ·exact p.2 a m
   ·exact s.free (q.2 a m)
 cases t1 with
 | sh o=>
  have h1':∀ a∈f1,∀ j,z a=some j→j∈o:=h1
  cases t2 with
  | sh p=>
   intro a m j q
   rcases List.mem_append.mp m with m | m
   ·exact List.mem_append_left _ (h1' a m j q)
   ·exact List.mem_append_right _ (h2 a m j q)
  | own=>
   intro a m j q
   rcases List.mem_append.mp m with m | m
   ·exact h1' a m j q
   ·exact (nz (s.free (h2.2 a m)) q).elim
  | lk=>
   intro a m j q
   rcases List.mem_append.mp m with m | m
   ·exact h1' a m j q
   ·exact (nz (s.free (h2.2 a m)) q).elim
 | own=>
  cases t2 with
  | sh p=>
   intro a m j q
   rcases List.mem_append.mp m with m | m
   ·exact (nz (h1.2 a m) q).elim
   ·exact h2 a m j q
  | own=>exact both (t1:=.own) (t2:=.own) h1 h2
  | lk=>exact both (t1:=.own) (t2:=.own) h1 h2
 | lk=>
  cases t2 with
  | sh p=>
   intro a m j q
   rcases List.mem_append.mp m with m | m
   ·exact (nz (h1.2 a m) q).elim
   ·exact h2 a m j q
  | own=>exact both (t1:=.own) (t2:=.own) h1 h2
  | lk=>exact both (t1:=.own) (t2:=.own) h1 h2
section
variable {X:Cx}{pos:Pos}
theorem fa_nil:FA X [] aNil:=⟨_,pa_nil,fun _ _ e=>by cases e;rfl,fun _ _ _ _ _ _ H _ _ _ e q=>by cases e;exact q H _ _ (Same.refl H) .nil .nil⟩
theorem fa_cons {e:Expr}{es:List Expr}{f:EF}{g:AF} (ha:FP X e f) (hr:FA X es g) (hs:starEach (e::es) X.env=(false,eval e X.env)::starEach es X.env:=by rfl):FA X (e::es) (aCons f g):=by
 obtain ⟨t,p,q⟩:=ha
 obtain ⟨t',p',l',q'⟩:=hr
 refine ⟨_,pa_cons p p' hs,fun ρ ps e=>by obtain ⟨d,tg,r,e1,e2,rfl⟩:=aCons_of e;rw [List.length_cons,List.length_cons,l' ρ r e2],fun H0 S z held ρ σ H Q ps ok e k=>?_⟩
 obtain ⟨d,tg,r,e1,e2,rfl⟩:=aCons_of e
 refine q H0 S z held ρ σ H _ d tg ok e1 fun H1 v f1 s1 r1 g1=>?_
 refine q' H0 S z held ρ σ H1 _ r (ok.same s1) e2 fun H2 vs f2 s2 r2 g2=>?_
 exact k H2 (v::vs) (f1++f2) (s1.trans s2) (.cons (r1.same s2) r2) (TagOk.join ok s1 g1 r1.dom g2)
def eTup (g:AF):EF:=fun ρ=>(g ρ).map fun ps=>(.tup (ps.map (·.1)),joinA ps)
theorem fp_tup {es:List Expr}{g:AF} {x1} (h:FA X es g) (hl:es.length≤1000:=by decide):FP X (.Tuple es x1 pos) (eTup g):=by
 obtain ⟨t,p,hg,q⟩:=h
 refine ⟨_,pe_tup p,fun H0 S z held ρ σ H Q d tg ok e k=>?_⟩
 unfold eTup at e
 cases h1:g ρ with
 | none=>rw [h1] at e;cases e
 | some ps=>
  rw [h1] at e
  cases e
  refine q H0 S z held ρ σ H _ ps ok h1 fun H1 vs fp s1 r1 g1=>⟨?_,fun a ha=>?_⟩
  ·rw [← r1.length,List.length_map,hg ρ ps h1]
   exact Nat.le_of_lt (small1000 hl)
  ·have s2:Same H1 (upd H1 a (.tup vs)):=fun b o e=>by rw [upd_ne (ne_of_none e ha)];exact e
   exact k _ _ fp (s1.trans s2) (.tup (SqT.of upd_same) (r1.same s2)) g1
def eLst (g:AF):EF:=fun ρ=>(g ρ).map fun ps=>(.lst (ps.map (·.1)),joinA ps)
theorem TagOk.cons {K:PySem.W.Frag}{H0:Hp}{S:List Addr}{z:Addr→Option Nat}{held:List Held}{ρ:Rho}{σ:St}{H H1:Hp}{t:Tag}{fp:List Addr}{a:Addr} (ok:Ok K H0 S z held ρ σ H) (s:Same H H1) (h:TagOk z H t fp)
  (d:∀ b∈fp,∃ o,H1 b=some o∧MutO o=true) (ha:H1 a=none):TagOk z H t (a::fp):=by
 have na:H a=none:=s.free ha
 have both:(fp.Nodup∧∀ b∈fp,H b=none)→(a::fp).Nodup∧∀ b∈a::fp,H b=none:=fun p=>by
  refine ⟨List.nodup_cons.mpr ⟨fun m=>?_,p.1⟩,fun b m=>?_⟩
  ·obtain ⟨o,w,_⟩:=d a m
   rw [ha] at w;cases w
  ·rcases List.mem_cons.mp m with e | m
   ·rw [e];exact na
   ·exact p.2 b m
 cases t with
 | sh o=>
  intro b m j q
  rcases List.mem_cons.mp m with e | m
  ·obtain ⟨⟨o,w⟩,_⟩:=ok.zd b j q
   rw [e,na] at w;cases w
  ·exact h b m j q
 | own=>exact both h
 | lk=>exact both h
theorem fp_lst {es:List Expr}{g:AF} (h:FA X es g) (hl:es.length≤1000:=by decide):FP X (.List es pos) (eLst g):=by
 obtain ⟨t,p,hg,q⟩:=h
 refine ⟨_,pe_lst p,fun H0 S z held ρ σ H Q d tg ok e k=>?_⟩
 unfold eLst at e
 cases h1:g ρ with
 | none=>rw [h1] at e;cases e
 | some ps=>
  rw [h1] at e
  cases e
  refine q H0 S z held ρ σ H _ ps ok h1 fun H1 vs fp s1 r1 g1=>⟨?_,fun a ha=>?_⟩
  ·rw [← r1.length,List.length_map,hg ρ ps h1]
   exact Nat.le_of_lt (small1000 hl)
  ·have s2:Same H1 (upd H1 a (.lst vs)):=fun b o e=>by rw [upd_ne (ne_of_none e ha)];exact e
   exact k _ _ (a::fp) (s1.trans s2) (.lst upd_same (r1.same s2)) (g1.cons ok s1 r1.dom ha)
end
def spF (K:PySem.W.Frag) (F:List D→Option D):Sp:=fun vs H Q _=>∃ ds fp d,Reps K H ds vs fp∧F ds=some d∧∀ H' v fp',Same H H'→Rep K H' d v fp'→fp'.Nodup→(∀ a∈fp',H a=none)→Q v H'
def eCall (F:List D→Option D) (g:AF):EF:=fun ρ=>(g ρ).bind fun ps=>(F (ps.map (·.1))).map fun d=>(d,.own)
theorem eCall_of {F:List D→Option D}{g:AF}{ρ:Rho}{d:D}{tg:Tag} (e:eCall F g ρ=some (d,tg)):∃ ps,g ρ=some ps∧F (ps.map (·.1))=some d∧tg=.own:=by
 unfold eCall at e
 cases h1:g ρ with
 | none=>rw [h1] at e;cases e
 | some ps=>
  rw [h1,Option.bind_some] at e
  cases h2:F (ps.map (·.1)) with
  | none=>rw [h2] at e;cases e
  | some d'=>
   rw [h2] at e
   cases e
   exact ⟨ps,rfl,h2,rfl⟩
section
variable {X:Cx}{x:Str}{p pos:Pos}{e:Expr}{es:List Expr}{k:Nat}{f:Addr}{fd:FuncData}{ps:List Str}{F:List D→Option D}{g:AF}
theorem fp_call {cm:Bool} (G:FnOk X.prog X.w X.K X.mg X.base CX0 k f fd ps (spF X.K F) cm) (hr:Room k X.A cm) (hm:X.mg x=some (.ref f)) (hk:PySem.W.keepIn X.K (.ref f)=true) (hb:Binds X.K fd ps []) (ha:FA X (e::es) g)
  (hg:Gl X x:=by rfl) (hdb:(x == ("__debug__":Str))=false:=by decide)
  (he:starEach (e::es) X.env=(false,eval e X.env)::starEach es X.env:=by rfl) (hpl:(backTo pos (starEach es X.env)).any (·.1)=false:=by rfl):FP X (.Call (.Name x p) (e::es) [] pos) (eCall F g):=by
 obtain ⟨t,pa,_,sa⟩:=ha
 refine ⟨_,pe_call G hr hg hm hk hb .nil pass0 pa hdb he hpl,fun H0 S z held ρ σ H Q d tg ok e0 q=>?_⟩
 obtain ⟨qs,e1,e2,rfl⟩:=eCall_of e0
 refine sa H0 S z held ρ σ H _ qs ok e1 fun H1 vs fp s1 r1 _=>?_
 rw [List.append_nil]
 exact ⟨_,fp,d,r1,e2,fun H2 v fp' s2 r2 nd fr=>q H2 v fp' (s1.trans s2) r2 ⟨nd,fun a m=>s1.free (fr a m)⟩⟩
end
section
variable {X:Cx}{pos:Pos}
def tV (f:EF):TF:=fun ρ=>match f ρ with
 | some (.bl b,_)=>some b
 | _=>none
theorem tV_of {f:EF}{ρ:Rho}{b:Bool} (e:tV f ρ=some b):∃ t,f ρ=some (.bl b,t):=by
 unfold tV at e
 cases h:f ρ with
 | none=>rw [h] at e;cases e
 | some p=>
  obtain ⟨d,t⟩:=p
  rw [h] at e
  cases d <;> first | (cases e;exact ⟨t,rfl⟩) | cases e
theorem ft_val {e:Expr}{f:EF} (h:FP X e f) (he:∀ whole,isTrue e X.env whole=(do let v ← whole;standAt e.pos;holding [v] (truthy v)):=by intro _;rfl):FT X e (tV f):=by
 obtain ⟨t,p,q⟩:=h
 refine ⟨_,pt_val p he,fun H0 S z held ρ σ H Q b ok e k=>?_⟩
 obtain ⟨tg,e1⟩:=tV_of e
 refine q H0 S z held ρ σ H _ _ tg ok e1 fun H1 v fp s1 r1 _=>?_
 cases r1
 exact ⟨b,rfl,k H1 s1⟩
theorem ft_cmp {op:CmpOp}{r:R2}{o:D→D→Option D}{a b:Expr}{fa fb:EF} (ho:OpR X (compareOp op) r) (dd:Does2 X.K r o) (ha:FP X a fa) (hb:FP X b fb) (hm:behindInMarks op b=false):FT X (.Compare a [op] [b] pos) (tV (e2 o fa fb)):=by
 obtain ⟨ta,pa,sa⟩:=ha
 obtain ⟨tb,pb,sb⟩:=hb
 refine ⟨_,pt_cmpR ho pa pb hm,fun H0 S z held ρ σ H Q c ok e k=>?_⟩
 obtain ⟨tg,e0⟩:=tV_of e
 obtain ⟨d1,t1,d2,t2,e1,e2',e3,rfl⟩:=e2_of e0
 refine sa H0 S z held ρ σ H _ d1 t1 ok e1 fun H1 x f1 s1 r1 _=>?_
 refine sb H0 S z held ρ σ H1 _ d2 t2 (ok.same s1) e2' fun H2 y f2 s2 r2 _=>?_
 refine dd H2 x y d1 d2 f1 f2 _ _ (r1.same s2) r2 e3 fun H3 v s3 r3=>?_
 cases r3
 exact ⟨c,rfl,k H3 ((s1.trans s2).trans s3)⟩
theorem fp_cmp {op:CmpOp}{r:R2}{o:D→D→Option D}{a b:Expr}{fa fb:EF} (ho:OpR X (compareOp op) r) (dd:Does2 X.K r o) (ha:FP X a fa) (hb:FP X b fb) (hm:behindInMarks op b=false):FP X (.Compare a [op] [b] pos) (e2 o fa fb):=
 fp_2 dd ha hb fun _ _ pa pb=>pe_cmpR ho pa pb hm
theorem fp_bin {op:Operator}{r:R2}{o:D→D→Option D}{a b:Expr}{fa fb:EF} (ho:OpR X (binaryOp op) r) (dd:Does2 X.K r o) (ha:FP X a fa) (hb:FP X b fb):FP X (.BinOp a op b pos) (e2 o fa fb):=
 fp_2 dd ha hb fun _ _ pa pb=>pe_op ho pa pb
def tAnd2 (f g:TF):TF:=fun ρ=>match f ρ with
 | some true=>g ρ
 | some false=>some false
 | none=>none
def tOr2 (f g:TF):TF:=fun ρ=>match f ρ with
 | some true=>some true
 | some false=>g ρ
 | none=>none
def tNot1 (f:TF):TF:=fun ρ=>(f ρ).map fun b=>!b
def FW (X:Cx) (e:Expr) (f:TF):Prop:=∃ t,PW X e t∧∀ (H0:Hp) (S:List Addr) (z:Addr→Option Nat) (held:List Held) (ρ:Rho) (σ:St) (H:Hp) (Q:Bool→Hp→Prop) (b:Bool),
 Ok X.K H0 S z held ρ σ H→f ρ=some b→(∀ H',Same H H'→Q b H')→t σ H Q
theorem FW.ft {e:Expr}{f:TF} (h:FW X e f):FT X e f:=let ⟨t,p,q⟩:=h;⟨t,p.pt,q⟩
theorem fw_and1 {a:Expr}{f:TF} (h:FT X a f):FW X (.BoolOp .And [a] pos) f:=let ⟨t,p,q⟩:=h;⟨t,pw_and1 p,q⟩
theorem fw_or1 {a:Expr}{f:TF} (h:FT X a f):FW X (.BoolOp .Or [a] pos) f:=let ⟨t,p,q⟩:=h;⟨t,pw_or1 p,q⟩
theorem fw_and {a b:Expr}{rest:List Expr}{f g:TF} (ha:FT X a f) (hb:FW X (.BoolOp .And (b::rest) pos) g):FW X (.BoolOp .And (a::b::rest) pos) (tAnd2 f g):=by
 obtain ⟨t,p,q⟩:=ha
 obtain ⟨t',p',q'⟩:=hb
 refine ⟨_,pw_and p p',fun H0 S z held ρ σ H Q c ok e k=>?_⟩
 unfold tAnd2 at e
 cases h:f ρ with
 | none=>rw [h] at e;cases e
 | some y=>
  rw [h] at e
  cases y with
  | false=>
   cases e
   refine q H0 S z held ρ σ H _ false ok h fun H1 s1=>?_
   rw [if_neg Bool.false_ne_true]
   exact k H1 s1
  | true=>
   refine q H0 S z held ρ σ H _ true ok h fun H1 s1=>?_
   rw [if_pos rfl]
   exact q' H0 S z held ρ σ H1 _ c (ok.same s1) e fun H2 s2=>k H2 (s1.trans s2)
theorem fw_or {a b:Expr}{rest:List Expr}{f g:TF} (ha:FT X a f) (hb:FW X (.BoolOp .Or (b::rest) pos) g):FW X (.BoolOp .Or (a::b::rest) pos) (tOr2 f g):=by
 obtain ⟨t,p,q⟩:=ha
 obtain ⟨t',p',q'⟩:=hb
 refine ⟨_,pw_or p p',fun H0 S z held ρ σ H Q c ok e k=>?_⟩
 unfold tOr2 at e
 cases h:f ρ with
 | none=>rw [h] at e;cases e
 | some y=>
  rw [h] at e
  cases y with
  | true=>
   cases e
   refine q H0 S z held ρ σ H _ true ok h fun H1 s1=>?_
   rw [if_pos rfl]
   exact k H1 s1
  | false=>
   refine q H0 S z held ρ σ H _ false ok h fun H1 s1=>?_
   rw [if_neg Bool.false_ne_true]
   exact q' H0 S z held ρ σ H1 _ c (ok.same s1) e fun H2 s2=>k H2 (s1.trans s2)
theorem ft_not {a:Expr}{f:TF} (ha:FT X a f):FT X (.UnaryOp .Not a pos) (tNot1 f):=by
 obtain ⟨t,p,q⟩:=ha
 refine ⟨_,pt_not p,fun H0 S z held ρ σ H Q c ok e k=>?_⟩
 unfold tNot1 at e
 cases h:f ρ with
 | none=>rw [h] at e;cases e
 | some y=>
  rw [h] at e
  cases e
  exact q H0 S z held ρ σ H _ y ok h fun H1 s1=>k H1 s1
end
inductive Out where
 | nx (ρ:Rho) | rt (d:D) | bk (ρ:Rho) | ct (ρ:Rho)
 | er (raw:Bool) (cn:XN) (ρ:Rho)
abbrev SF:=Rho→Option Out
def kpt (X:Cx) (x:Str):Bool:=x == ("self":Str)||(X.fn ("self":Str)&&!X.fn x)
def Kp (X:Cx) (σ σ':St):Prop:=∀ (i:Nat) (x:Str),X.N[i]? = some x→kpt X x=true→σ'[i]? = σ[i]?
theorem Kp.refl (X:Cx) (σ:St):Kp X σ σ:=fun _ _ _ _=>rfl
theorem Kp.trans {X:Cx}{σ σ1 σ2:St} (a:Kp X σ σ1) (b:Kp X σ1 σ2):Kp X σ σ2:=fun i x h k=>(b i x h k).trans (a i x h k)
theorem Kp.set {X:Cx}{σ:St}{i:Nat}{x:Str}{v:Option V} (hi:X.N[i]? = some x) (hs:kpt X x=false):Kp X σ (σ.set i v):=fun j y h k=>by
 refine List.getElem?_set_ne fun e=>?_
 subst e
 rw [hi] at h
 have h:=Option.some.inj h
 subst h
 rw [hs] at k;cases k
def PostE (X:Cx) (H0:Hp) (S:List Addr) (held:List Held) (σ0:St) (raw:Bool) (cn:XN) (ρ:Rho):Prop:=∃ ES:XS,(if raw=true then ThrowsN X ES else ThrowsT X ES) ∧
 ∀ z σ H C,Ok X.K H0 S z held ρ σ H→Kp X σ0 σ→PySem.W.nsIn X.K mainGlobals cn.1=some (some (.ref C))→ES (.ref C) cn.2 σ H
theorem PostE.of {X:Cx}{H0:Hp}{S:List Addr}{held:List Held}{σ σ':St}{raw:Bool}{cn:XN}{ρ:Rho} (k:PostE X H0 S held σ raw cn ρ) (a:Kp X σ σ'):PostE X H0 S held σ' raw cn ρ:=
 let ⟨ES,th,q⟩:=k;⟨ES,th,fun z s H C ok b hC=>q z s H C ok (a.trans b) hC⟩
def Post (X:Cx) (H0:Hp) (S:List Addr) (held:List Held) (σ0:St) (E:Ends):Out→Prop
 | .nx ρ=>∀ z σ H,Ok X.K H0 S z held ρ σ H→Kp X σ0 σ→E.nx σ H
 | .bk ρ=>∀ z σ H,Ok X.K H0 S z held ρ σ H→Kp X σ0 σ→E.bk σ H
 | .ct ρ=>∀ z σ H,Ok X.K H0 S z held ρ σ H→Kp X σ0 σ→E.ct σ H
 | .er raw cn ρ=>PostE X H0 S held σ0 raw cn ρ
 | .rt d=>∀ H v fp,(∀ a o,H0 a=some o→a∉S→H a=some o)→Rep X.K H d v fp→fp.Nodup→(∀ a∈fp,H0 a=none∨a∈S)→E.rt v H
def FS (X:Cx) (st:List Stmt) (f:SF):Prop:=∃ t,PSs X st t∧∀ (H0:Hp) (S:List Addr) (z:Addr→Option Nat) (held:List Held) (ρ:Rho) (σ:St) (H:Hp) (E:Ends) (o:Out),
 Ok X.K H0 S z held ρ σ H→f ρ=some o→Post X H0 S held σ E o→t E σ H
def FS1 (X:Cx) (st:Stmt) (f:SF):Prop:=∃ t,PS X st t∧∀ (H0:Hp) (S:List Addr) (z:Addr→Option Nat) (held:List Held) (ρ:Rho) (σ:St) (H:Hp) (E:Ends) (o:Out),
 Ok X.K H0 S z held ρ σ H→f ρ=some o→Post X H0 S held σ E o→t E σ H
theorem Post.of {X:Cx}{H0:Hp}{S:List Addr}{held:List Held}{σ σ':St}{E:Ends}{o:Out} (k:Post X H0 S held σ E o) (a:Kp X σ σ'):Post X H0 S held σ' E o:=by
 cases o with
 | nx ρ=>exact fun z s H ok b=>k z s H ok (a.trans b)
 | bk ρ=>exact fun z s H ok b=>k z s H ok (a.trans b)
 | ct ρ=>exact fun z s H ok b=>k z s H ok (a.trans b)
 | rt d=>exact k
 | er raw cn ρ=>exact PostE.of k a
def sNx:SF:=fun ρ=>some (.nx ρ)
def sSeq (f g:SF):SF:=fun ρ=>match f ρ with
 | some (.nx ρ')=>g ρ'
 | o=>o
section
variable {X:Cx}{pos:Pos}
theorem fs_nil:FS X [] sNx:=⟨_,pss_nil,fun _ _ z _ _ σ H _ _ ok e k=>by cases e;exact k z σ H ok (.refl _ _)⟩
theorem fs_one {st:Stmt}{f:SF} (h:FS1 X st f):FS X [st] f:=let ⟨t,p,q⟩:=h;⟨t,pss_one p,q⟩
theorem fs_cons {st:Stmt}{rest:List Stmt}{f g:SF} (h1:FS1 X st f) (h2:FS X rest g):FS X (st::rest) (sSeq f g):=by
 obtain ⟨t,p,q⟩:=h1
 obtain ⟨t',p',q'⟩:=h2
 refine ⟨_,pss_cons p p',fun H0 S z held ρ σ H E o ok e k=>?_⟩
 unfold sSeq at e
 cases h:f ρ with
 | none=>rw [h] at e;cases e
 | some w=>
  refine q H0 S z held ρ σ H _ w ok h ?_
  rw [h] at e
  cases w with
  | nx ρ'=>exact fun z' σ' H' ok' a=>q' H0 S z' held ρ' σ' H' E o ok' e (k.of a)
  | rt d=>cases e;exact k
  | bk ρ'=>cases e;exact k
  | ct ρ'=>cases e;exact k
  | er _ _ _=>cases e;exact k
def sBk:SF:=fun ρ=>some (.bk ρ)
def sCt:SF:=fun ρ=>some (.ct ρ)
def sNo:SF:=fun _=>none
theorem fs_no {st:Stmt}:FS1 X st sNo:=⟨_,ps_never,fun _ _ _ _ _ _ _ _ _ _ e _=>by cases e⟩
def sIf (c:TF) (f g:SF):SF:=fun ρ=>match c ρ with
 | some true=>f ρ
 | some false=>g ρ
 | none=>none
theorem fs_if {c:Expr}{a b:List Stmt}{tc:TF}{f g:SF} (hc:FT X c tc) (ha:FS X a f) (hb:FS X b g):FS1 X (.If c a b pos) (sIf tc f g):=by
 obtain ⟨t,p,q⟩:=hc
 obtain ⟨t1,p1,q1⟩:=ha
 obtain ⟨t2,p2,q2⟩:=hb
 refine ⟨_,ps_if p p1 p2,fun H0 S z held ρ σ H E o ok e k=>?_⟩
 unfold sIf at e
 cases h:tc ρ with
 | none=>rw [h] at e;cases e
 | some y=>
  rw [h] at e
  refine q H0 S z held ρ σ H _ y ok h fun H1 s1=>?_
  cases y with
  | true=>rw [if_pos rfl];exact q1 H0 S z held ρ σ H1 E o (ok.same s1) e k
  | false=>rw [if_neg Bool.false_ne_true];exact q2 H0 S z held ρ σ H1 E o (ok.same s1) e k
def isOwn:Tag→Bool
 | .sh _=>false
 | _=>true
def sRet (f:EF):SF:=fun ρ=>match f ρ with
 | some (d,t)=>if isOwn t=true then some (.rt d) else if imm d=true then some (.rt d) else none
 | none=>none
theorem fs_ret {e:Expr}{f:EF} (he:FP X e f):FS1 X (.Return (some e) pos) (sRet f):=by
 obtain ⟨t,p,q⟩:=he
 refine ⟨_,ps_ret p,fun H0 S z held ρ σ H E o ok e k=>?_⟩
 unfold sRet at e
 cases h:f ρ with
 | none=>rw [h] at e;cases e
 | some w=>
  obtain ⟨d,tg⟩:=w
  rw [h] at e
  dsimp only at e
  refine q H0 S z held ρ σ H _ d tg ok h fun H1 v fp s1 r1 g1=>?_
  have en:∀ a o,H0 a=some o→a∉S→H1 a=some o:=fun a o e n=>s1 _ _ (ok.en a o e n)
  by_cases ho:isOwn tg=true
  ·rw [if_pos ho] at e
   cases e
   have g:fp.Nodup∧∀ a∈fp,H a=none:=by cases tg <;> first | exact g1 | cases ho
   refine k H1 v fp en r1 g.1 fun a m=>?_
   cases h0:H0 a with
   | none=>exact .inl rfl
   | some o=>
    by_cases hs:a∈S
    ·exact .inr hs
    ·have w:=ok.en a o h0 hs
     rw [g.2 a m] at w;cases w
  ·rw [if_neg ho] at e
   by_cases hi:imm d=true
   ·rw [if_pos hi] at e
    cases e
    have hn:=r1.imm hi
    subst hn
    exact k H1 v [] en r1 List.nodup_nil fun a m=>nomatch m
   ·rw [if_neg hi] at e;cases e
def sRetV (i:Nat):SF:=fun ρ=>match ρ[i]? with
 | some (some (d,t))=>if isOwn t=true then some (.rt d) else if imm d=true then some (.rt d) else none
 | _=>none
def setS (ρ:Rho) (i:Nat) (d:D):Tag→Rho
 | .sh o=>ρ.set i (some (d,.sh o))
 | _=>ρ.set i (some (d,.own))
def sSet (i:Nat) (f:EF):SF:=fun ρ=>match f ρ with
 | some (d,t)=>some (.nx (setS ρ i d t))
 | none=>none
theorem Ok.set {K:PySem.W.Frag}{H0:Hp}{S:List Addr}{z:Addr→Option Nat}{held:List Held}{ρ:Rho}{σ:St}{H H1:Hp}{i:Nat}{d:D}{t:Tag}{v:V}{fp:List Addr} (ok:Ok K H0 S z held ρ σ H) (hi:i < σ.length) (s:Same H H1)
  (r:Rep K H1 d v fp) (g:TagOk z H t fp):∃ z',Ok K H0 S z' held (setS ρ i d t) (σ.set i (some v)) H1:=by
 classical
 have hiρ:i < ρ.length:=by rw [ok.ln];exact hi
 have dH:∀ {a:Addr},H a=none→z a=none:=fun {a} e=>by
  cases q:z a with
  | none=>rfl
  | some j=>obtain ⟨⟨o,w⟩,_⟩:=ok.zd a j q;rw [e] at w;cases w
 have main:∀ (fo:List Addr) (tg:Tag),(∀ a∈fo,H a=none∧∃ o,H1 a=some o)→InZ (fun a=>if a∈fo then some i else if z a=some i then none else z a) i tg fp →
   Ok K H0 S (fun a=>if a∈fo then some i else if z a=some i then none else z a) held (ρ.set i (some (d,tg))) (σ.set i (some v)) H1:=by
  intro fo tg hfo hz
  have old:∀ {fp':List Addr},(∀ a∈fp',∃ o,H a=some o∧MutO o=true)→∀ a∈fp',(if a∈fo then some i else if z a=some i then none else z a)=(if z a=some i then none else z a):=fun {fp'} h a m=>by
   rw [if_neg fun q=>?_]
   obtain ⟨o,w,_⟩:=h a m
   rw [(hfo a q).1] at w;cases w
  refine ⟨fun j d' t' e=>?_,fun p hp=>?_,fun a j e=>?_,fun a o e n=>s _ _ (ok.en a o e n),by rw [List.length_set,List.length_set];exact ok.ln⟩
  ·by_cases hj:j=i
   ·subst hj
    rw [List.getElem?_set_self hiρ] at e
    cases e
    exact ⟨v,fp,List.getElem?_set_self hi,r,hz⟩
   ·rw [List.getElem?_set_ne (Ne.symm hj)] at e
    obtain ⟨v',fp',hs',r',z'⟩:=ok.sl j d' t' e
    refine ⟨v',fp',by rw [List.getElem?_set_ne (Ne.symm hj)];exact hs',r'.same s,?_⟩
    have o1:=old r'.dom
    cases t' with
    | sh o=>
     intro a m k q
     dsimp only at q
     rw [o1 a m] at q
     by_cases w:z a=some i
     ·rw [if_pos w] at q;cases q
     ·rw [if_neg w] at q;exact z' a m k q
    | own=>exact ⟨z'.1,fun a m=>by dsimp only;rw [o1 a m,if_neg (by rw [z'.2 a m];intro w;exact hj (Option.some.inj w))];exact z'.2 a m⟩
    | lk=>exact ⟨z'.1,fun a m=>by dsimp only;rw [o1 a m,if_neg (by rw [z'.2 a m];intro w;exact hj (Option.some.inj w))];exact z'.2 a m⟩
  ·obtain ⟨r',hl'⟩:=ok.hl p hp
   refine ⟨r'.same s,fun a m j q=>?_⟩
   rw [old r'.dom a m] at q
   by_cases w:z a=some i
   ·rw [if_pos w] at q;cases q
   ·rw [if_neg w] at q
    obtain ⟨z0',e'⟩:=hl' a m j q
    have hj:j≠i:=fun e=>w (by rw [← e];exact q)
    exact ⟨z0',fun d'=>by rw [List.getElem?_set_ne (Ne.symm hj)];exact e' d'⟩
  ·by_cases w:a∈fo
   ·obtain ⟨w1,w2⟩:=hfo a w
    refine ⟨w2,?_⟩
    cases h0:H0 a with
    | none=>exact .inl rfl
    | some o=>
     by_cases hs:a∈S
     ·exact .inr hs
     ·have q:=ok.en a o h0 hs
      rw [w1] at q;cases q
   ·rw [if_neg w] at e
    by_cases w':z a=some i
    ·rw [if_pos w'] at e;cases e
    ·rw [if_neg w'] at e
     obtain ⟨⟨o,x⟩,y⟩:=ok.zd a j e
     exact ⟨⟨o,s _ _ x⟩,y⟩
 have own:(fp.Nodup∧∀ a∈fp,H a=none)→Ok K H0 S (fun a=>if a∈fp then some i else if z a=some i then none else z a) held (ρ.set i (some (d,.own))) (σ.set i (some v)) H1:=fun g=>
  main fp .own (fun a m=>⟨g.2 a m,let ⟨o,w,_⟩:=r.dom a m;⟨o,w⟩⟩) ⟨g.1,fun a m=>if_pos m⟩
 cases t with
 | own=>exact ⟨_,own g⟩
 | lk=>exact ⟨_,own g⟩
 | sh o=>
  refine ⟨_,main [] (.sh o) (fun a m=>nomatch m) fun a m j q=>?_⟩
  have q:(if a∈([]:List Addr) then some i else if z a=some i then none else z a)=some j:=q
  rw [if_neg (show ¬ a∈([]:List Addr) from fun w=>nomatch w)] at q
  by_cases w:z a=some i
  ·rw [if_pos w] at q;cases q
  ·rw [if_neg w] at q;exact g a m j q
theorem Ok.stored {K:PySem.W.Frag}{H0:Hp}{S:List Addr}{z:Addr→Option Nat}{held:List Held}{ρ:Rho}{σ:St}{H H1:Hp}{i:Nat}{d:D}{t:Tag}{v:V}{fp:List Addr}{G:Prop} (ok:Ok K H0 S z held ρ σ H) (s:Same H H1)
  (r:Rep K H1 d v fp) (g:TagOk z H t fp) (k:∀ z',Ok K H0 S z' held (setS ρ i d t) (σ.set i (some v)) H1→G):G:=by
 by_cases hi:i < σ.length
 ·obtain ⟨z',ok'⟩:=ok.set hi s r g
  exact k z' ok'
 ·have e1:σ.set i (some v)=σ:=List.set_eq_of_length_le (Nat.le_of_not_lt hi)
  have e2:∀ w,ρ.set i w=ρ:=fun w=>List.set_eq_of_length_le (by rw [ok.ln];exact Nat.le_of_not_lt hi)
  have e3:setS ρ i d t=ρ:=by cases t <;> exact e2 _
  refine k z ?_
  rw [e1,e3]
  exact ok.same s
theorem fs_set (i:Nat) {x:Str}{e:Expr}{f:EF}{pos':Pos} (he:FP X e f) (hN:X.N.Nodup) (hi:X.N[i]? = some x:=by rfl) (hx:Loc X.env.scope x:=by first | exact Or.inl rfl | exact Or.inr rfl)
  (hs:swapsWith e (some (.Name x pos')) pos.line X.env=pure false:=by rfl) (hf:X.fn x=true∨X.env.scope.names.lookup x=some .local:=by first | exact .inl rfl | exact .inr rfl) (hself:kpt X x=false:=by rfl):FS1 X (.Assign [.Name x pos'] e pos) (sSet i f):=by
 obtain ⟨t,p,q⟩:=he
 refine ⟨_,ps_set (i:=i) hN hi hx p hs hf,fun H0 S z held ρ σ H E o ok e k=>?_⟩
 unfold sSet at e
 cases h:f ρ with
 | none=>rw [h] at e;cases e
 | some w=>
  obtain ⟨d,tg⟩:=w
  rw [h] at e
  cases e
  refine q H0 S z held ρ σ H _ d tg ok h fun H1 v fp s1 r1 g1=>?_
  exact ok.stored s1 r1 g1 fun z' ok'=>k z' _ H1 ok' (.set hi hself)
end
abbrev GF:=D→Tag→Rho→Option Rho
def FG (X:Cx) (tg:Expr) (g:GF) (is:List Nat):Prop:=(∀ i∈is,∀ x,X.N[i]? = some x→kpt X x=false)∧∃ t,PG X tg t∧∀ (H0:Hp) (S:List Addr) (z:Addr→Option Nat) (held:List Held) (ρ:Rho) (σ:St) (H H1:Hp) (v:V) (d:D) (tag:Tag) (fp:List Addr) (Q:St→Hp→Prop) (ρ':Rho),
 Ok X.K H0 S z held ρ σ H→Same H H1→Rep X.K H1 d v fp→TagOk z H tag fp→g d tag ρ=some ρ'→(∀ z' σ',Ok X.K H0 S z' held ρ' σ' H1→(σ'.length=σ.length∧∀ j,j∉is→σ'[j]? = σ[j]?)→Q σ' H1)→t v σ H1 Q
def gN (i:Nat):GF:=fun d t ρ=>some (setS ρ i d t)
abbrev GsF:=List D→Rho→Option Rho
theorem Kp.off {X:Cx}{σ σ':St}{is:List Nat} (hk:∀ i∈is,∀ x,X.N[i]? = some x→kpt X x=false) (h:∀ j,j∉is→σ'[j]? = σ[j]?):Kp X σ σ':=fun i x e k=>h i fun m=>by rw [hk i m x e] at k;cases k
def FGs (X:Cx) (ts:List Expr) (g:GsF) (is:List Nat):Prop:=(∀ i∈is,∀ x,X.N[i]? = some x→kpt X x=false)∧∃ t,PGs X ts t∧(∀ ds ρ ρ',g ds ρ=some ρ'→ds.length=ts.length)∧∀ (H0:Hp) (S:List Addr) (z:Addr→Option Nat) (held:List Held) (ρ:Rho) (σ:St) (H:Hp) (vs:List V) (ds:List D) (fp:List Addr) (Q:St→Hp→Prop) (ρ':Rho),
 Ok X.K H0 S z held ρ σ H→Reps X.K H ds vs fp→g ds ρ=some ρ'→(∀ z' σ',Ok X.K H0 S z' held ρ' σ' H→(σ'.length=σ.length∧∀ j,j∉is→σ'[j]? = σ[j]?)→Q σ' H)→t vs σ H Q
def gsNil:GsF:=fun ds ρ=>match ds with
 | []=>some ρ
 | _=>none
def gsCons (g:GF) (gs:GsF):GsF:=fun ds ρ=>match ds with
 | d::r=>if imm d=true then (g d .own ρ).bind fun ρ'=>gs r ρ' else none
 | _=>none
theorem gsCons_of {g:GF}{gs:GsF}{ds:List D}{ρ ρ':Rho} (e:gsCons g gs ds ρ=some ρ'):∃ d r ρ1,ds=d::r∧imm d=true∧g d .own ρ=some ρ1∧gs r ρ1=some ρ':=by
 cases ds with
 | nil=>cases e
 | cons d r=>
  unfold gsCons at e
  dsimp only at e
  by_cases hi:imm d=true
  ·rw [if_pos hi] at e
   cases h:g d .own ρ with
   | none=>rw [h] at e;cases e
   | some ρ1=>
    rw [h,Option.bind_some] at e
    exact ⟨d,r,ρ1,rfl,hi,h,e⟩
  ·rw [if_neg hi] at e;cases e
def gT (gs:GsF):GF:=fun d _ ρ=>match d with
 | .tup ds=>gs ds ρ
 | _=>none
section
variable {X:Cx}{pos:Pos}
theorem fg_name (i:Nat) {x:Str} (hN:X.N.Nodup) (hi:X.N[i]? = some x:=by rfl) (hx:Loc X.env.scope x:=by first | exact Or.inl rfl | exact Or.inr rfl) (hf:X.fn x=true∨X.env.scope.names.lookup x=some .local:=by first | exact .inl rfl | exact .inr rfl) (hself:kpt X x=false:=by rfl):FG X (.Name x pos) (gN i) [i]:=by
 refine ⟨fun j m y e=>by rw [List.mem_singleton.mp m,hi] at e;have e:=Option.some.inj e;subst e;exact hself,_,pg_name (i:=i) hN hi hx hf,fun H0 S z held ρ σ H H1 v d tag fp Q ρ' ok s r g e k=>?_⟩
 cases e
 exact ok.stored s r g fun z' ok'=>k z' _ ok' ⟨List.length_set ..,fun j hj=>List.getElem?_set_ne fun e=>hj (by rw [e];exact List.mem_cons_self)⟩
theorem fgs_nil:FGs X [] gsNil []:=by
 refine ⟨fun j m=>(nomatch m),_,pgs_nil,fun ds ρ ρ' e=>?_,fun H0 S z held ρ σ H vs ds fp Q ρ' ok r e k=>?_⟩
 ·cases ds with
  | nil=>rfl
  | cons _ _=>cases e
 ·cases ds with
  | nil=>cases r;cases e;exact ⟨rfl,k z σ ok ⟨rfl,fun _ _=>rfl⟩⟩
  | cons _ _=>cases e
theorem fgs_cons {e:Expr}{es:List Expr}{g:GF}{gs:GsF}{is ks:List Nat} (h1:FG X e g is) (h2:FGs X es gs ks) (hs:(assignEach (e::es) X.env).map (·.2)=assign e X.env::(assignEach es X.env).map (·.2):=by rfl):FGs X (e::es) (gsCons g gs) (is++ks):=by
 obtain ⟨n1,t,p,q⟩:=h1
 obtain ⟨n2,t',p',l',q'⟩:=h2
 refine ⟨fun j m=>(List.mem_append.mp m).elim (n1 j) (n2 j),_,pgs_cons p p' hs,fun ds ρ ρ' e=>?_,fun H0 S z held ρ σ H vs ds fp Q ρ' ok r e k=>?_⟩
 ·obtain ⟨d,r,ρ1,rfl,_,_,h⟩:=gsCons_of e
  rw [List.length_cons,List.length_cons,l' r ρ1 ρ' h]
 ·obtain ⟨d,dr,ρ1,rfl,hi,h1,h2⟩:=gsCons_of e
  cases r with
  | @cons _ v _ vr f1 f2 r1 r2=>
   have hn:=r1.imm hi
   subst hn
   exact ⟨v,vr,rfl,q H0 S z held ρ σ H H v d .own [] _ ρ1 ok (Same.refl H) r1 .nil h1 fun z1 σ1 ok1 a1=>q' H0 S z1 held ρ1 σ1 H vr dr f2 Q ρ' ok1 r2 h2 fun z2 σ2 ok2 a2=>k z2 σ2 ok2 ⟨a2.1.trans a1.1,fun j hj=>(a2.2 j fun m=>hj (List.mem_append_right _ m)).trans (a1.2 j fun m=>hj (List.mem_append_left _ m))⟩⟩
theorem fg_tup {es:List Expr}{k:Nat}{gs:GsF}{is:List Nat} (hc:X.calm=true) (h:FGs X es gs is) (hn:(assignEach es X.env).length=es.length:=by rfl) (hst:(assignEach es X.env).findIdx? (·.1)=none:=by rfl):FG X (.Tuple es k pos) (gT gs) is:=by
 obtain ⟨n1,t,p,l,q⟩:=h
 refine ⟨n1,_,pg_tup hc p hn hst,fun H0 S z held ρ σ H H1 v d tag fp Q ρ' ok s r g e k=>?_⟩
 cases r with
 | @tup a xs ds fp hq rs=>
  have e:gs ds ρ=some ρ':=e
  exact ⟨a,xs,rfl,hq,by rw [← rs.length];exact l ds ρ ρ' e,q H0 S z held ρ σ H1 xs ds fp Q ρ' (ok.same s) rs e k⟩
 | _=>cases e
end
structure Hv where
 d:D
 v:V
 fp:List Addr
def ItOk (K:PySem.W.Frag) (J:It) (ds:List D) (hv:List Hv):Prop:=∀ (H:Hp) (i:Nat),(∀ h∈hv,Rep K H h.d h.v h.fp) →
 (∀ d,ds[i]? = some d→J.go i H∧∀ x H1,J.yld i H x H1→Same H H1∧∃ fp,Rep K H1 d x fp∧∀ a∈fp,∃ h∈hv,a∈h.fp)∧(ds.length≤i→J.stop i H)
abbrev IF:=Rho→Option (List D×Tag)
def FI (X:Cx) (tg iter:Expr) (f:IF):Prop:=∃ wi,PI X tg iter wi∧∀ (H0:Hp) (S:List Addr) (z:Addr→Option Nat) (held:List Held) (ρ:Rho) (σ:St) (H:Hp) (R:It→Hp→Prop) (ds:List D) (t:Tag),
 Ok X.K H0 S z held ρ σ H→f ρ=some (ds,t)→(∀ H1 J hv,Same H H1→(∀ h∈hv,Rep X.K H1 h.d h.v h.fp∧∀ a∈h.fp,∀ j,z a=some j→∃ o,t=.sh o∧j∈o)→ItOk X.K J ds hv→R J H1)→wi σ H R
def iSeqF (f:EF):IF:=fun ρ=>match f ρ with
 | some (.lst ds,t)=>some (ds,t)
 | some (.fls ds,t)=>some (ds,t)
 | some (.tup ds,t)=>some (ds,t)
 | _=>none
def iSeq (K:PySem.W.Frag) (tl:TE):TI:=fun σ H R=>tl σ H fun x H1=>∃ a,x=.ref a∧(((∃ xs,SqL K H1 a xs)∧R (Itl K a) H1)∨((∃ xs,SqT K H1 a xs)∧R (Itt K a) H1))
section
variable {X:Cx}{tg:Expr}
theorem pi_seq {l:Expr}{tl:TE} (hl:PE X l tl):PI X tg l (iSeq X.K tl):=by
 intro pins s σ H R I h
 refine thn (hl pins s σ H _ I h) fun v s1 ⟨x,H1,I1,r1,q1⟩=>?_
 obtain ⟨a,e,q⟩:=q1
 subst e
 cases r1
 rcases q with ⟨⟨xs,hq⟩,q⟩ | ⟨⟨xs,hq⟩,q⟩
 ·obtain ⟨its,rv,p,hz⟩:=I1.list hq
  refine wpAny_pyIter_list p.isList ?_
  refine ⟨s1.heap.objs.size,[s1.heap.objs.size],_,_,H1,rfl,I1.kept (t':=s1.toks) (fun b o e=>Heap.get?_push_of_some _ e),turn_list a _,⟨_,Heap.get?_push_size _ rfl,rfl,rfl⟩,fun b hb=>?_,q⟩
  obtain rfl:b=s1.heap.objs.size:=by simpa using hb
  exact I1.fpOk (Nat.le_refl _) (I1.hok.fresh (Nat.le_refl _))
 ·obtain ⟨its,rv,p,hz⟩:=I1.tuple hq
  refine wpAny_pyIter_tuple (show s1.heap.IsTuple a its.toArray from p) ?_
  refine ⟨s1.heap.objs.size,[s1.heap.objs.size],_,_,H1,rfl,I1.kept (t':=s1.toks) (fun b o e=>Heap.get?_push_of_some _ e),turn_tuple a _,⟨_,Heap.get?_push_size _ rfl,rfl,rfl⟩,fun b hb=>?_,q⟩
  obtain rfl:b=s1.heap.objs.size:=by simpa using hb
  exact I1.fpOk (Nat.le_refl _) (I1.hok.fresh (Nat.le_refl _))
theorem Rep.lst_of {K:PySem.W.Frag}{H:Hp}{ds:List D}{v:V}{fp:List Addr} (r:Rep K H (.lst ds) v fp):∃ a xs f,v=.ref a∧SqL K H a xs∧Reps K H ds xs f∧∀ b∈f,b∈fp:=by
 cases r with
 | lst h rs=>exact ⟨_,_,_,rfl,SqL.of h,rs,fun b m=>List.mem_cons_of_mem _ m⟩
theorem Rep.fls_of {K:PySem.W.Frag}{H:Hp}{ds:List D}{v:V}{fp:List Addr} (r:Rep K H (.fls ds) v fp):∃ a xs,v=.ref a∧SqL K H a xs∧Reps K H ds xs fp:=by
 cases r with
 | lsf h rs=>exact ⟨_,_,rfl,h.sq,rs⟩
theorem Rep.tup_of {K:PySem.W.Frag}{H:Hp}{ds:List D}{v:V}{fp:List Addr} (r:Rep K H (.tup ds) v fp):∃ a xs,v=.ref a∧SqT K H a xs∧Reps K H ds xs fp:=by
 cases r with
 | tup h rs=>exact ⟨_,_,rfl,h,rs⟩
theorem itOk_list {K:PySem.W.Frag}{a:Addr}{ds:List D}{fp:List Addr}:ItOk K (Itl K a) ds [⟨.lst ds,.ref a,fp⟩]:=by
 intro H i hh
 have r:Rep K H (.lst ds) (.ref a) fp:=hh ⟨.lst ds,.ref a,fp⟩ List.mem_cons_self
 obtain ⟨a',xs,f,e,hq,rs,sub⟩:=r.lst_of
 cases e
 refine ⟨fun d hd=>?_,fun hl=>⟨xs,hq,by rw [← rs.length];exact hl⟩⟩
 obtain ⟨v,f',hv,rv,s'⟩:=rs.get hd
 refine ⟨⟨xs,v,hq,hv⟩,fun x H1 y=>?_⟩
 obtain ⟨e1,y⟩:=y
 subst e1
 have e2:=y xs hq
 rw [hv] at e2
 cases e2
 exact ⟨Same.refl _,f',rv,fun b m=>⟨_,List.mem_cons_self,sub b (s' b m)⟩⟩
theorem itOk_fls {K:PySem.W.Frag}{a:Addr}{ds:List D}{fp:List Addr}:ItOk K (Itl K a) ds [⟨.fls ds,.ref a,fp⟩]:=by
 intro H i hh
 have r:Rep K H (.fls ds) (.ref a) fp:=hh ⟨.fls ds,.ref a,fp⟩ List.mem_cons_self
 obtain ⟨a',xs,e,hq,rs⟩:=r.fls_of
 cases e
 refine ⟨fun d hd=>?_,fun hl=>⟨xs,hq,by rw [← rs.length];exact hl⟩⟩
 obtain ⟨v,f',hv,rv,s'⟩:=rs.get hd
 refine ⟨⟨xs,v,hq,hv⟩,fun x H1 y=>?_⟩
 obtain ⟨e1,y⟩:=y
 subst e1
 have e2:=y xs hq
 rw [hv] at e2
 cases e2
 exact ⟨Same.refl _,f',rv,fun b m=>⟨_,List.mem_cons_self,s' b m⟩⟩
theorem itOk_tup {K:PySem.W.Frag}{a:Addr}{ds:List D}{fp:List Addr}:ItOk K (Itt K a) ds [⟨.tup ds,.ref a,fp⟩]:=by
 intro H i hh
 have r:Rep K H (.tup ds) (.ref a) fp:=hh ⟨.tup ds,.ref a,fp⟩ List.mem_cons_self
 obtain ⟨a',xs,e,hq,rs⟩:=r.tup_of
 cases e
 refine ⟨fun d hd=>?_,fun hl=>⟨xs,hq,by rw [← rs.length];exact hl⟩⟩
 obtain ⟨v,f',hv,rv,s'⟩:=rs.get hd
 refine ⟨⟨xs,v,hq,hv⟩,fun x H1 y=>?_⟩
 obtain ⟨e1,y⟩:=y
 subst e1
 have e2:=y xs hq
 rw [hv] at e2
 cases e2
 exact ⟨Same.refl _,f',rv,fun b m=>⟨_,List.mem_cons_self,s' b m⟩⟩
theorem itOk_range {K:PySem.W.Frag}{lo:Int}{n:Nat}:ItOk K (Itr lo n) ((List.range n).map fun i:Nat=>D.int (lo + (i:Int))) []:=by
 intro H i _
 refine ⟨fun d hd=>?_,fun hl=>?_⟩
 ·rw [List.getElem?_map] at hd
  by_cases hi:i < n
  ·rw [List.getElem?_range hi] at hd
   cases hd
   refine ⟨hi,fun x H1 y=>?_⟩
   obtain ⟨e1,e2⟩:=y
   subst e1 e2
   exact ⟨Same.refl _,[],.int _,fun b m=>nomatch m⟩
  ·rw [List.getElem?_eq_none (by simpa using hi)] at hd
   cases hd
 ·rw [List.length_map,List.length_range] at hl
  exact hl
theorem TagOk.over {K:PySem.W.Frag}{H0:Hp}{S:List Addr}{z:Addr→Option Nat}{held:List Held}{ρ:Rho}{σ:St}{H:Hp}{t:Tag}{fp:List Addr} (ok:Ok K H0 S z held ρ σ H) (g:TagOk z H t fp):∀ a∈fp,∀ j,z a=some j→∃ o,t=.sh o∧j∈o:=by
 intro a m j q
 cases t with
 | sh o=>exact ⟨o,rfl,g a m j q⟩
 | own=>obtain ⟨⟨o,w⟩,_⟩:=ok.zd a j q;rw [g.2 a m] at w;cases w
 | lk=>obtain ⟨⟨o,w⟩,_⟩:=ok.zd a j q;rw [g.2 a m] at w;cases w
theorem fi_seq {l:Expr}{f:EF} (hl:FP X l f):FI X tg l (iSeqF f):=by
 obtain ⟨t,p,q⟩:=hl
 refine ⟨_,pi_seq p,fun H0 S z held ρ σ H R ds tg ok e k=>?_⟩
 unfold iSeqF at e
 cases h:f ρ with
 | none=>rw [h] at e;cases e
 | some w=>
  obtain ⟨d,tg'⟩:=w
  rw [h] at e
  cases d with
  | lst es=>
   cases e
   refine q H0 S z held ρ σ H _ _ _ ok h fun H1 v fp s1 r1 g1=>?_
   obtain ⟨a,xs,f,rfl,hq,rs,sub⟩:=r1.lst_of
   exact ⟨a,rfl,.inl ⟨⟨xs,hq⟩,k H1 _ [⟨.lst ds,.ref a,fp⟩] s1 (fun h m=>by cases List.mem_singleton.mp m;exact ⟨r1,g1.over ok⟩) itOk_list⟩⟩
  | fls es=>
   cases e
   refine q H0 S z held ρ σ H _ _ _ ok h fun H1 v fp s1 r1 g1=>?_
   obtain ⟨a,xs,rfl,hq,rs⟩:=r1.fls_of
   exact ⟨a,rfl,.inl ⟨⟨xs,hq⟩,k H1 _ [⟨.fls ds,.ref a,fp⟩] s1 (fun h m=>by cases List.mem_singleton.mp m;exact ⟨r1,g1.over ok⟩) itOk_fls⟩⟩
  | tup es=>
   cases e
   refine q H0 S z held ρ σ H _ _ _ ok h fun H1 v fp s1 r1 g1=>?_
   obtain ⟨a,xs,rfl,hq,rs⟩:=r1.tup_of
   exact ⟨a,rfl,.inr ⟨⟨xs,hq⟩,k H1 _ [⟨.tup ds,.ref a,fp⟩] s1 (fun h m=>by cases List.mem_singleton.mp m;exact ⟨r1,g1.over ok⟩) itOk_tup⟩⟩
  | _=>cases e
def small (i:Int):Bool:=decide (-(2 ^ 62)≤i)&&decide (i < 2 ^ 62)
def iR1 (g:EF):IF:=fun ρ=>match g ρ with
 | some (.int j,_)=>if small j=true then some ((List.range j.toNat).map fun i:Nat=>D.int (0 + (i:Int)),.own) else none
 | _=>none
def iR2 (f g:EF):IF:=fun ρ=>match f ρ,g ρ with
 | some (.int i,_),some (.int j,_)=>if (small i&&small j)=true then some ((List.range (j - i).toNat).map fun k:Nat=>D.int (i + (k:Int)),.own) else none
 | _,_=>none
theorem small_of {i:Int} (h:small i=true):-(2 ^ 62)≤i∧i < 2 ^ 62:=by
 obtain ⟨a,b⟩:=(Bool.and_eq_true _ _).mp h
 exact ⟨of_decide_eq_true a,of_decide_eq_true b⟩
theorem fi_range1 {a:Expr}{g:EF}{p pos:Pos} (hm:X.mg "range"=none) (ha:FP X a g) (hg:Gl X "range":=by rfl) (hs:starEach [a] X.env=[(false,eval a X.env)]:=by rfl):FI X tg (.Call (.Name "range" p) [a] [] pos) (iR1 g):=by
 obtain ⟨t,pa,q⟩:=ha
 refine ⟨_,pi_range1 hg hm (pa_cons pa pa_nil hs) hs,fun H0 S z held ρ σ H R ds tg ok e k=>?_⟩
 unfold iR1 at e
 cases h:g ρ with
 | none=>rw [h] at e;cases e
 | some w=>
  obtain ⟨d,tg'⟩:=w
  rw [h] at e
  cases d with
  | int j=>
   dsimp only at e
   by_cases hj:small j=true
   ·rw [if_pos hj] at e
    cases e
    refine q H0 S z held ρ σ H _ _ _ ok h fun H1 v fp s1 r1 g1=>?_
    cases r1
    exact ⟨j,rfl,(small_of hj).1,(small_of hj).2,k H1 _ [] s1 (fun h m=>nomatch m) itOk_range⟩
   ·rw [if_neg hj] at e;cases e
  | _=>cases e
theorem fi_range2 {a b:Expr}{f g:EF}{p pos:Pos} (hm:X.mg "range"=none) (ha:FP X a f) (hb:FP X b g) (hg:Gl X "range":=by rfl) (hs:starEach [a,b] X.env=[(false,eval a X.env),(false,eval b X.env)]:=by rfl) (hs2:starEach [b] X.env=[(false,eval b X.env)]:=by rfl) :
  FI X tg (.Call (.Name "range" p) [a,b] [] pos) (iR2 f g):=by
 obtain ⟨t,pa,q⟩:=ha
 obtain ⟨t',pb,q'⟩:=hb
 refine ⟨_,pi_range2 hg hm (pa_cons pa (pa_cons pb pa_nil hs2) (by rw [hs,hs2])) hs hs2,fun H0 S z held ρ σ H R ds tg ok e k=>?_⟩
 unfold iR2 at e
 cases h:f ρ with
 | none=>rw [h] at e;cases e
 | some w=>
  obtain ⟨d,tg'⟩:=w
  cases h2:g ρ with
  | none=>rw [h,h2] at e;cases d <;> cases e
  | some w=>
   obtain ⟨d2,tg2⟩:=w
   rw [h,h2] at e
   cases d with
   | int i=>
    cases d2 with
    | int j=>
     dsimp only at e
     by_cases hj:(small i&&small j)=true
     ·rw [if_pos hj] at e
      cases e
      obtain ⟨si,sj⟩:=(Bool.and_eq_true _ _).mp hj
      refine q H0 S z held ρ σ H _ _ _ ok h fun H1 v fp s1 r1 g1=>?_
      cases r1
      refine q' H0 S z held ρ σ H1 _ _ _ (ok.same s1) h2 fun H2 v fp s2 r2 g2=>?_
      cases r2
      exact ⟨i,j,rfl,⟨(small_of si).1,(small_of si).2,(small_of sj).1,(small_of sj).2⟩,k H2 _ [] (s1.trans s2) (fun h m=>nomatch m) itOk_range⟩
     ·rw [if_neg hj] at e;cases e
    | _=>cases e
   | _=>cases e
end
def ovr:Tag→List Nat
 | .sh o=>o
 | _=>[]
def itag (t:Tag):Tag:=.sh (ovr t)
def ownAt (ρ:Rho) (j:Nat):Bool:=match ρ[j]? with
 | some (some (_,.own))=>true
 | _=>false
def ownsIn (o:List Nat) (ρ:Rho):List Nat:=o.filter (ownAt ρ)
def lockT:Tag→Tag
 | .own=>.lk
 | t=>t
def unlockT:Tag→Tag
 | .lk=>.own
 | t=>t
def onT (f:Tag→Tag):Slot→Slot
 | some (d,t)=>some (d,f t)
 | none=>none
def lockS:List Nat→Rho→Rho
 | [],ρ=>ρ
 | j::r,ρ=>lockS r (ρ.modify j (onT lockT))
def unlockS:List Nat→Rho→Rho
 | [],ρ=>ρ
 | j::r,ρ=>unlockS r (ρ.modify j (onT unlockT))
def loopF (g:GF) (t:Tag) (f:SF):List D→SF
 | [],ρ=>some (.nx ρ)
 | d::ds,ρ=>match g d t ρ with
  | none=>none
  | some ρ1=>match f ρ1 with
   | some (.nx ρ2)=>loopF g t f ds ρ2
   | some (.ct ρ2)=>loopF g t f ds ρ2
   | some (.bk ρ2)=>some (.nx ρ2)
   | some (.rt r)=>some (.rt r)
   | some (.er raw cn ρ2)=>some (.er raw cn ρ2)
   | none=>none
def sFor (it:IF) (g:GF) (f:SF):SF:=fun ρ=>match it ρ with
 | none=>none
 | some (ds,t)=>match loopF g (itag t) f ds (lockS (ownsIn (ovr t) ρ) ρ) with
  | some (.nx ρ')=>some (.nx (unlockS (ownsIn (ovr t) ρ) ρ'))
  | some (.rt d)=>some (.rt d)
  | some (.er raw cn ρ')=>some (.er raw cn (unlockS (ownsIn (ovr t) ρ) ρ'))
  | _=>none
theorem lockS_at:∀ {ks:List Nat}{ρ:Rho}{i:Nat}{d:D}{t:Tag},(lockS ks ρ)[i]? = some (some (d,t))→∃ t',ρ[i]? = some (some (d,t'))∧(t=t'∨(t'=.own∧t=.lk))∧(i∈ks→t≠.own)
 | [],ρ,i,d,t,h=>⟨t,h,.inl rfl,fun m=>nomatch m⟩
 | j::r,ρ,i,d,t,h=>by
  obtain ⟨t1,h1,h2,h3⟩:=lockS_at (ks:=r) h
  rw [List.getElem?_modify] at h1
  cases e:ρ[i]? with
  | none=>rw [e] at h1;cases h1
  | some s=>
   rw [e] at h1
   have h1':(if j=i then onT lockT s else s)=some (d,t1):=Option.some.inj h1
   by_cases hj:j=i
   ·rw [if_pos hj] at h1'
    cases s with
    | none=>cases h1'
    | some p=>
     obtain ⟨d0,t0⟩:=p
     cases h1'
     refine ⟨t0,rfl,?_,fun _=>?_⟩
     ·rcases h2 with h2 | ⟨h2,h2'⟩
      ·cases t0 <;> first | exact .inl h2 | exact .inr ⟨rfl,h2⟩
      ·cases t0 <;> cases h2
     ·rcases h2 with h2 | ⟨h2,h2'⟩
      ·rw [h2];cases t0 <;> (intro z;cases z)
      ·rw [h2'];intro z;cases z
   ·rw [if_neg hj] at h1'
    subst h1'
    refine ⟨t1,rfl,h2,fun m=>?_⟩
    rcases List.mem_cons.mp m with z | z
    ·exact absurd z.symm hj
    ·exact h3 z
theorem lockS_len:∀ {ks:List Nat}{ρ:Rho},(lockS ks ρ).length=ρ.length
 | [],_=>rfl
 | _::r,ρ=>(lockS_len (ks:=r)).trans (List.length_modify ..)
theorem unlockS_len:∀ {ks:List Nat}{ρ:Rho},(unlockS ks ρ).length=ρ.length
 | [],_=>rfl
 | _::r,ρ=>(unlockS_len (ks:=r)).trans (List.length_modify ..)
theorem unlockS_at:∀ {ks:List Nat}{ρ:Rho}{i:Nat}{d:D}{t:Tag},(unlockS ks ρ)[i]? = some (some (d,t))→∃ t',ρ[i]? = some (some (d,t'))∧(t=t'∨(t'=.lk∧t=.own∧i∈ks))
 | [],ρ,i,d,t,h=>⟨t,h,.inl rfl⟩
 | j::r,ρ,i,d,t,h=>by
  obtain ⟨t1,h1,h2⟩:=unlockS_at (ks:=r) h
  rw [List.getElem?_modify] at h1
  cases e:ρ[i]? with
  | none=>rw [e] at h1;cases h1
  | some s=>
   rw [e] at h1
   have h1':(if j=i then onT unlockT s else s)=some (d,t1):=Option.some.inj h1
   by_cases hj:j=i
   ·rw [if_pos hj] at h1'
    cases s with
    | none=>cases h1'
    | some p=>
     obtain ⟨d0,t0⟩:=p
     cases h1'
     refine ⟨t0,rfl,?_⟩
     rcases h2 with h2 | ⟨h2,h2',h3⟩
     ·cases t0 <;> first | exact .inl h2 | exact .inr ⟨rfl,h2,by rw [hj];exact List.mem_cons_self⟩
     ·cases t0 <;> cases h2
   ·rw [if_neg hj] at h1'
    subst h1'
    refine ⟨t1,rfl,?_⟩
    rcases h2 with h2 | ⟨h2,h2',h3⟩
    ·exact .inl h2
    ·exact .inr ⟨h2,h2',List.mem_cons_of_mem _ h3⟩
def heldAt (z:Addr→Option Nat) (hv:List Hv):List Held:=hv.map fun h=>⟨h.d,h.v,h.fp,z⟩
def rezone (z:Addr→Option Nat) (held:List Held):List Held:=held.map fun h=>{ h with z0:=z }
section
variable {K:PySem.W.Frag}{H0:Hp}{S:List Addr}{z:Addr→Option Nat}{held:List Held}{ρ:Rho}{σ:St}{H:Hp}
theorem Ok.begin {hv:List Hv}{t:Tag} (ok:Ok K H0 S z held ρ σ H) (hh:∀ h∈hv,Rep K H h.d h.v h.fp∧∀ a∈h.fp,∀ j,z a=some j→∃ o,t=.sh o∧j∈o) :
  Ok K H0 S z (heldAt z hv++rezone z held) (lockS (ownsIn (ovr t) ρ) ρ) σ H:=by
 refine ⟨fun i d tg e=>?_,fun p m=>?_,ok.zd,ok.en,by rw [lockS_len];exact ok.ln⟩
 ·obtain ⟨t',e',h,_⟩:=lockS_at e
  obtain ⟨v,fp,a,b,c⟩:=ok.sl i d t' e'
  refine ⟨v,fp,a,b,?_⟩
  rcases h with h | ⟨h,h'⟩
  ·subst h;exact c
  ·subst h h';exact c
 ·have lockNo:∀ j,NoOwn ρ j→NoOwn (lockS (ownsIn (ovr t) ρ) ρ) j:=fun j n d e=>by
   obtain ⟨t',e',h,_⟩:=lockS_at e
   rcases h with h | ⟨h,h'⟩
   ·subst h;exact n d e'
   ·cases h'
  rcases List.mem_append.mp m with m | m
  ·obtain ⟨h,hm,rfl⟩:=List.mem_map.mp m
   refine ⟨(hh h hm).1,fun a ha j q=>⟨q,fun d e=>?_⟩⟩
   obtain ⟨o,rfl,hj⟩:=(hh h hm).2 a ha j q
   obtain ⟨t',e',h',n⟩:=lockS_at e
   rcases h' with h' | ⟨h',h''⟩
   ·subst h'
    exact n (List.mem_filter.mpr ⟨hj,by unfold ownAt;rw [e']⟩) rfl
   ·cases h''
  ·obtain ⟨h,hm,rfl⟩:=List.mem_map.mp m
   obtain ⟨r,hz⟩:=ok.hl h hm
   exact ⟨r,fun a ha j q=>⟨q,lockNo j (hz a ha j q).2⟩⟩
theorem Ok.fin {hv:List Hv}{t:Tag}{z':Addr→Option Nat}{ρ':Rho}{σ':St}{H':Hp} (ok:Ok K H0 S z held ρ σ H) (ok':Ok K H0 S z' (heldAt z hv++rezone z held) ρ' σ' H'):Ok K H0 S z' held (unlockS (ownsIn (ovr t) ρ) ρ') σ' H':=by
 refine ⟨fun i d tg e=>?_,fun p m=>?_,ok'.zd,ok'.en,by rw [unlockS_len];exact ok'.ln⟩
 ·obtain ⟨t',e',h⟩:=unlockS_at e
  obtain ⟨v,fp,a,b,c⟩:=ok'.sl i d t' e'
  refine ⟨v,fp,a,b,?_⟩
  rcases h with h | ⟨h,h',_⟩
  ·subst h;exact c
  ·subst h h';exact c
 ·obtain ⟨r,hz⟩:=ok'.hl { p with z0:=z } (List.mem_append_right _ (List.mem_map.mpr ⟨p,m,rfl⟩))
  refine ⟨r,fun a ha j q=>?_⟩
  obtain ⟨h1,h2⟩:=hz a ha j q
  have h1:z a=some j:=h1
  obtain ⟨h3,h4⟩:=(ok.hl p m).2 a ha j h1
  refine ⟨h3,fun d e=>?_⟩
  obtain ⟨t',e',h⟩:=unlockS_at e
  rcases h with h | ⟨h,_,hk⟩
  ·subst h;exact h2 d e'
  ·have ho:=(List.mem_filter.mp hk).2
   unfold ownAt at ho
   cases e0:ρ[j]? with
   | none=>rw [e0] at ho;cases ho
   | some s=>
    rw [e0] at ho
    cases s with
    | none=>cases ho
    | some p=>
     obtain ⟨d0,t0⟩:=p
     cases t0 <;> first | exact h4 d0 e0 | cases ho
end
section
variable {X:Cx}{pos:Pos}
theorem fs_for {tg iter:Expr}{body:List Stmt}{it:IF}{g:GF}{f:SF}{is:List Nat} (hc:X.calm=true) (hi:FI X tg iter it) (hg:FG X tg g is) (hb:FS X body f) (hp:PassesOwn (model X.prog X.w) X.A X.env X.xe:=by exact PassesOwn.never)
  (hs:∀ x,foldedSetIterable iter X.env x=pure x:=by intro _;rfl):FS1 X (.For tg iter body [] pos) (sFor it g f):=by
 obtain ⟨wi,pi,si⟩:=hi
 obtain ⟨n1,tgt,pg,sg⟩:=hg
 obtain ⟨tb,pb,sb⟩:=hb
 refine ⟨_,ps_for hp hc pi pg pb hs,fun H0 S z held ρ σ H E o ok e k=>?_⟩
 unfold sFor at e
 cases h:it ρ with
 | none=>rw [h] at e;cases e
 | some w=>
  obtain ⟨ds,t⟩:=w
  rw [h] at e
  dsimp only at e
  refine si H0 S z held ρ σ H _ ds t ok h fun H1 J hv s1 hh itok=>?_
  cases ho:loopF g (itag t) f ds (lockS (ownsIn (ovr t) ρ) ρ) with
  | none=>rw [ho] at e;cases e
  | some out=>
   rw [ho] at e
   have ok1:=ok.same s1
   have ok2:=ok1.begin (t:=t) hh
   have fin:∀ {z':Addr→Option Nat}{ρ':Rho}{σ':St}{H':Hp},Ok X.K H0 S z' (heldAt z hv++rezone z held) ρ' σ' H'→out=.nx ρ'→Kp X σ σ'→E.nx σ' H':=fun {z' ρ' σ' H'} ok' eo kp=>by
    subst eo
    cases e
    exact k z' σ' H' (ok1.fin (t:=t) ok') kp
   refine ⟨fun i m σ' H'=>m=ds.length - i∧∃ z' ρ',Ok X.K H0 S z' (heldAt z hv++rezone z held) ρ' σ' H'∧loopF g (itag t) f (ds.drop i) ρ'=some out∧Kp X σ σ',⟨ds.length,rfl,z,_,ok2,ho,.refl _ _⟩,?_⟩
   rintro i m σ' H' ⟨rfl,z',ρ',ok',e',kp⟩
   have hH:∀ h∈hv,Rep X.K H' h.d h.v h.fp:=fun h m=>(ok'.hl _ (List.mem_append_left _ (List.mem_map.mpr ⟨h,m,rfl⟩))).1
   obtain ⟨go,stop⟩:=itok H' i hH
   by_cases hl:ds.length≤i
   ·refine .inl ⟨stop hl,?_⟩
    rw [List.drop_eq_nil_of_le hl] at e'
    cases e'
    exact fin ok' rfl kp
   ·have hlt:i < ds.length:=Nat.lt_of_not_le hl
    rw [List.drop_eq_getElem_cons hlt] at e'
    obtain ⟨g1,g2⟩:=go ds[i] (List.getElem?_eq_getElem hlt)
    refine .inr ⟨g1,fun σ2 H2=>∃ z' ρ',Ok X.K H0 S z' (heldAt z hv++rezone z held) ρ' σ2 H2∧loopF g (itag t) f (ds.drop (i + 1)) ρ'=some out∧Kp X σ σ2,fun σ2 H2 hn=>⟨ds.length - (i + 1),by omega,rfl,hn⟩,fun x H2 y=>?_⟩
    obtain ⟨s2,fp,r2,sub⟩:=g2 x H2 y
    unfold loopF at e'
    cases hg1:g ds[i] (itag t) ρ' with
    | none=>rw [hg1] at e';cases e'
    | some ρ1=>
     rw [hg1] at e'
     dsimp only at e'
     refine sg H0 S z' _ ρ' σ' H' H2 x ds[i] (itag t) fp _ ρ1 ok' s2 r2 (fun a ha j q=>?_) hg1 fun z2 σ2 ok3 a3=>?_
     ·obtain ⟨h,hm,ha'⟩:=sub a ha
      obtain ⟨_,hz⟩:=ok'.hl _ (List.mem_append_left _ (List.mem_map.mpr ⟨h,hm,rfl⟩))
      obtain ⟨q0,_⟩:=hz a ha' j q
      obtain ⟨o',rfl,hj⟩:=(hh h hm).2 a ha' j q0
      exact hj
     ·cases hf:f ρ1 with
      | none=>rw [hf] at e';cases e'
      | some o1=>
       rw [hf] at e'
       refine sb H0 S z2 _ ρ1 σ2 H2 _ o1 ok3 hf ?_
       cases o1 with
       | nx ρ2=>exact fun z3 σ3 H3 ok4 b=>⟨z3,ρ2,ok4,e',(kp.trans (.off n1 a3.2)).trans b⟩
       | ct ρ2=>exact fun z3 σ3 H3 ok4 b=>⟨z3,ρ2,ok4,e',(kp.trans (.off n1 a3.2)).trans b⟩
       | bk ρ2=>
        cases e'
        exact fun z3 σ3 H3 ok4 b=>fin ok4 rfl ((kp.trans (.off n1 a3.2)).trans b)
       | rt d=>
        cases e'
        cases e
        exact k
       | er raw cn ρ2=>
        cases e'
        cases e
        obtain ⟨ES,th,q⟩:=k
        exact ⟨ES,th,fun z3 σ3 H3 C ok4 b hC=>q z3 σ3 H3 C (ok1.fin (t:=t) ok4) ((kp.trans (.off n1 a3.2)).trans b) hC⟩
end
def teS (K:PySem.W.Frag) (f:EF):TE:=fun σ H Q=>∃ H0 S z held ρ d tg,Ok K H0 S z held ρ σ H∧f ρ=some (d,tg)∧∀ H' v fp,Same H H'→Rep K H' d v fp→TagOk z H tg fp→Q v H'
def ttS (K:PySem.W.Frag) (f:TF):TT:=fun σ H Q=>∃ H0 S z held ρ b,Ok K H0 S z held ρ σ H∧f ρ=some b∧∀ H',Same H H'→Q b H'
def tgS (K:PySem.W.Frag) (g:GF) (is:List Nat):TG:=fun v σ H1 Q=>∃ H0 S z held ρ H d tag fp ρ',Ok K H0 S z held ρ σ H∧Same H H1∧Rep K H1 d v fp∧TagOk z H tag fp∧g d tag ρ=some ρ' ∧
 ∀ z' σ',Ok K H0 S z' held ρ' σ' H1→(σ'.length=σ.length∧∀ j,j∉is→σ'[j]? = σ[j]?)→Q σ' H1
section
variable {X:Cx}
theorem FP.pe {e:Expr}{f:EF} (h:FP X e f):PE X e (teS X.K f):=by
 obtain ⟨t,p,q⟩:=h
 intro pins s σ H Q I ⟨H0,S,z,held,ρ,d,tg,ok,e,k⟩
 exact p pins s σ H Q I (q H0 S z held ρ σ H Q d tg ok e k)
theorem FT.pt {e:Expr}{f:TF} (h:FT X e f):PT X e (ttS X.K f):=by
 obtain ⟨t,p,q⟩:=h
 intro pins s σ H Q I ⟨H0,S,z,held,ρ,b,ok,e,k⟩
 exact p pins s σ H Q I (q H0 S z held ρ σ H Q b ok e k)
theorem FG.pg {e:Expr}{g:GF}{is:List Nat} (h:FG X e g is):PG X e (tgS X.K g is):=by
 obtain ⟨_,t,p,q⟩:=h
 intro pins s σ H1 v u Q I r ⟨H0,S,z,held,ρ,H,d,tag,fp,ρ',ok,sm,rp,tk,e,k⟩
 exact p pins s σ H1 v u Q I r (q H0 S z held ρ σ H H1 v d tag fp Q ρ' ok sm rp tk e k)
end
def FTs (X:Cx) (ifs:List Expr) (f:TF):Prop:=PTs X ifs (ttS X.K f)
def tTrue:TF:=fun _=>some true
theorem fts_nil {X:Cx}:FTs X [] tTrue:=by
 intro pins s σ H Q I ⟨H0,S,z,held,ρ,b,ok,e,k⟩
 cases e
 exact wpAny_tests_nil ⟨H,I,k H (Same.refl H)⟩
theorem fts_one {X:Cx}{c:Expr}{f:TF} (h:FT X c f):FTs X [c] f:=pts_one h.pt
def iniR (js:List (Option Nat)) (ρ:Rho):Rho:=js.map fun j=>match j with
 | none=>none
 | some j=>match ρ[j]? with
  | some (some (d,_))=>some (d,.sh [])
  | _=>none
def compE (g:GF) (tt:TF) (te:EF) (ρ:Rho) (d:D):Option (Option D):=match g d (.sh []) ρ with
 | none=>none
 | some ρ1=>match tt ρ1 with
  | none=>none
  | some false=>some none
  | some true=>match te ρ1 with
   | none=>none
   | some (e,t)=>if isOwn t=true then some (some e) else if imm e=true then some (some e) else none
def compF (h:D→Option (Option D)):List D→Option (List D)
 | []=>some []
 | d::ds=>match h d with
  | none=>none
  | some none=>compF h ds
  | some (some e)=>match compF h ds with
   | none=>none
   | some es=>some (e::es)
def eComp (js:List (Option Nat)) (it:IF) (g:GF) (tt:TF) (te:EF):EF:=fun ρ=>match it ρ with
 | none=>none
 | some (ds,_)=>if ds.length < sizeLine then (compF (compE g tt te (iniR js ρ)) ds).map fun es=>(.lst es,.own) else none
theorem compF_ok {h:D→Option (Option D)}{k:D→Option D}:∀ {ds:List D},(∀ d∈ds,h d=some (k d))→compF h ds=some (ds.filterMap k)
 | [],_=>rfl
 | d::ds,e=>by
  unfold compF
  rw [e d List.mem_cons_self,compF_ok fun x m=>e x (List.mem_cons_of_mem _ m),List.filterMap_cons]
  cases k d <;> rfl
section
variable {X:Cx}{pos:Pos}
theorem comp_read {wi:TI}{it:IF}{js:List (Option Nat)}{g:GF}{tt:TF}{te:EF}{is:List Nat} (hjs:∀ i∈is,js[i]? = some none)
  (si:∀ (H0:Hp) (S:List Addr) (z:Addr→Option Nat) (held:List Held) (ρ:Rho) (σ:St) (H:Hp) (R:It→Hp→Prop) (ds:List D) (t:Tag),
   Ok X.K H0 S z held ρ σ H→it ρ=some (ds,t)→(∀ H1 J hv,Same H H1→(∀ h∈hv,Rep X.K H1 h.d h.v h.fp∧∀ a∈h.fp,∀ j,z a=some j→∃ o,t=.sh o∧j∈o)→ItOk X.K J ds hv→R J H1)→wi σ H R)
  (H0:Hp) (S:List Addr) (z:Addr→Option Nat) (held:List Held) (ρ:Rho) (σ:St) (H:Hp) (Q:VK) (d:D) (tg:Tag) (ok:Ok X.K H0 S z held ρ σ H) (e:eComp js it g tt te ρ=some (d,tg))
  (k:∀ H' v fp,Same H H'→Rep X.K H' d v fp→TagOk z H tg fp→Q v H'):tComp wi js (tgS X.K g is) (ttS X.K tt) (teS X.K te) σ H Q:=by
 unfold eComp at e
 cases h:it ρ with
 | none=>rw [h] at e;cases e
 | some w=>
  obtain ⟨ds,t⟩:=w
  rw [h] at e
  dsimp only at e
  by_cases hz:ds.length < sizeLine
  ·rw [if_pos hz] at e
   cases hcf:compF (compE g tt te (iniR js ρ)) ds with
   | none=>rw [hcf] at e;cases e
   | some es=>
    rw [hcf] at e
    cases e
    refine si H0 S z held ρ σ H _ ds t ok h fun H1 J hv s1 hh itok Dd hDd=>?_
    have ok1:=ok.same s1
    have inner:∀ (σ':St) (H2:Hp),Same H1 H2→(∃ o,H2 Dd=some o)→σ'.length=js.length→(∀ j,j∉is→σ'[j]? = (iniC js σ)[j]?)→Ok X.K H1 [] (fun a=>if a=Dd then some js.length else none) (heldAt (fun _=>none) hv) (iniR js ρ) σ' H2:=by
     intro σ' H2 s2 hoD hlen hag
     have nD:∀ {a:Addr}{o:HO},H1 a=some o→a≠Dd:=fun e=>ne_of_none e hDd
     refine ⟨fun i d t e=>?_,fun p m=>?_,fun a j e=>?_,fun a o e _=>s2 _ _ e,by unfold iniR;rw [List.length_map,hlen]⟩
     ·unfold iniR at e
      rw [List.getElem?_map] at e
      cases hj:js[i]? with
      | none=>rw [hj] at e;cases e
      | some o=>
       rw [hj] at e
       cases o with
       | none=>cases e
       | some j=>
        have e:(match ρ[j]? with | some (some (d,_))=>some (d,Tag.sh []) | _=>none)=some (d,t):=Option.some.inj e
        cases hr:ρ[j]? with
        | none=>rw [hr] at e;cases e
        | some s=>
         rw [hr] at e
         cases s with
         | none=>cases e
         | some p=>
          obtain ⟨d0,t0⟩:=p
          have e1:d0=d∧Tag.sh []=t:=Prod.mk.inj (Option.some.inj e)
          obtain ⟨rfl,rfl⟩:=e1
          obtain ⟨v,fp,hs,r,_⟩:=ok1.sl j d0 t0 hr
          have hi:i∉is:=fun m=>by rw [hjs i m] at hj;cases hj
          refine ⟨v,fp,?_,r.same s2,fun a m q e=>?_⟩
          ·rw [hag i hi]
           unfold iniC
           rw [List.getElem?_map,hj]
           show some ((σ[j]?).join)=some (some v)
           rw [hs];rfl
          ·obtain ⟨o,w,_⟩:=r.dom a m
           dsimp only at e
           rw [if_neg (nD w)] at e
           cases e
     ·obtain ⟨h,hm,rfl⟩:=List.mem_map.mp m
      refine ⟨(hh h hm).1.same s2,fun a ha q e=>?_⟩
      obtain ⟨o,w,_⟩:=(hh h hm).1.dom a ha
      rw [if_neg (nD w)] at e
      cases e
     ·by_cases w:a=Dd
      ·rw [w];exact ⟨hoD,.inl hDd⟩
      ·rw [if_neg w] at e;cases e
    refine ⟨fun i m σ' H'=>m=ds.length - i∧Same H1 H'∧σ'.length=js.length∧(∀ j,j∉is→σ'[j]? = (iniC js σ)[j]?)∧∃ done rest vs fp,H' Dd=some (.lst vs)∧Reps X.K H' done vs fp∧fp.Nodup∧(∀ a∈fp,H1 a=none∧a≠Dd) ∧
     compF (compE g tt te (iniR js ρ)) (ds.drop i)=some rest∧done++rest=es∧done.length≤i,?_,?_⟩
    ·refine ⟨ds.length,rfl,fun b o e=>by rw [upd_ne (ne_of_none e hDd)];exact e,by unfold iniC;rw [List.length_map],fun _ _=>rfl,[],es,[],[],upd_same,.nil,List.nodup_nil,(fun a m=>nomatch m),hcf,rfl,Nat.le_refl _⟩
    ·rintro i m σ' H' ⟨rfl,sH,hlen,hag,done,rest,vs,fp,hD,rs,nd,fr,hr,rfl,hle⟩
     obtain ⟨go,stop⟩:=itok H' i fun h m=>(hh h m).1.same sH
     by_cases hl:ds.length≤i
     ·refine .inl ⟨stop hl,?_⟩
      rw [List.drop_eq_nil_of_le hl] at hr
      cases hr
      rw [List.append_nil] at k
      refine k H' (.ref Dd) (Dd::fp) (s1.trans sH) (.lst hD rs) ⟨List.nodup_cons.mpr ⟨fun m=>(fr Dd m).2 rfl,nd⟩,fun a m=>?_⟩
      rcases List.mem_cons.mp m with e | m
      ·rw [e];exact s1.free hDd
      ·exact s1.free (fr a m).1
     ·have hlt:i < ds.length:=Nat.lt_of_not_le hl
      rw [List.drop_eq_getElem_cons hlt] at hr
      obtain ⟨g1,g2⟩:=go ds[i] (List.getElem?_eq_getElem hlt)
      refine .inr ⟨g1,fun x H2 y=>?_⟩
      obtain ⟨s2,fp2,r2,sub⟩:=g2 x H2 y
      have ok2:=inner σ' H' sH ⟨_,hD⟩ hlen hag
      unfold compF at hr
      cases hE:compE g tt te (iniR js ρ) ds[i] with
      | none=>rw [hE] at hr;cases hr
      | some oe=>
       rw [hE] at hr
       unfold compE at hE
       cases hg1:g ds[i] (.sh []) (iniR js ρ) with
       | none=>rw [hg1] at hE;cases hE
       | some ρ1=>
        rw [hg1] at hE
        dsimp only at hE
        have tko:TagOk (fun a=>if a=Dd then some js.length else none) H' (.sh []) fp2:=fun a m j e=>by
         obtain ⟨h,hm,ha⟩:=sub a m
         obtain ⟨o,w,_⟩:=(hh h hm).1.dom a ha
         dsimp only at e
         rw [if_neg (ne_of_none w hDd)] at e
         cases e
        refine ⟨H1,[],_,_,iniR js ρ,H',ds[i],.sh [],fp2,ρ1,ok2,s2,r2,tko,hg1,fun z3 σ3 ok3 ag3=>?_⟩
        have len3:σ3.length=js.length:=ag3.1.trans hlen
        have agc:∀ j,j∉is→σ3[j]? = (iniC js σ)[j]? :=fun j hj=>(ag3.2 j hj).trans (hag j hj)
        cases ht:tt ρ1 with
        | none=>rw [ht] at hE;cases hE
        | some b=>
         rw [ht] at hE
         refine ⟨H1,[],z3,_,ρ1,b,ok3,ht,fun H4 s4=>?_⟩
         have s14:Same H1 H4:=(sH.trans s2).trans s4
         have s04:Same H' H4:=s2.trans s4
         cases b with
         | false=>
          cases hE
          refine iteF ?_
          exact ⟨ds.length - (i + 1),by omega,rfl,s14,len3,agc,done,rest,vs,fp,s04 _ _ hD,rs.same s04,nd,fr,hr,rfl,Nat.le_succ_of_le hle⟩
         | true=>
          refine iteT ?_
          dsimp only at hE
          cases hte:te ρ1 with
          | none=>rw [hte] at hE;cases hE
          | some w=>
           obtain ⟨y,ty⟩:=w
           rw [hte] at hE
           dsimp only at hE
           refine ⟨H1,[],z3,_,ρ1,y,ty,ok3.same s4,hte,fun H5 yv fy s5 ry gy=>?_⟩
           have oe':oe=some y∧fy.Nodup∧∀ a∈fy,H4 a=none:=by
            by_cases ho:isOwn ty=true
            ·rw [if_pos ho] at hE
             cases hE
             exact ⟨rfl,by cases ty <;> first | exact gy | cases ho⟩
            ·rw [if_neg ho] at hE
             by_cases hi:imm y=true
             ·rw [if_pos hi] at hE
              cases hE
              have hn:=ry.imm hi
              subst hn
              exact ⟨rfl,List.nodup_nil,fun a m=>nomatch m⟩
             ·rw [if_neg hi] at hE;cases hE
           obtain ⟨rfl,ndy,fry⟩:=oe'
           dsimp only at hr
           cases hrest:compF (compE g tt te (iniR js ρ)) (ds.drop (i + 1)) with
           | none=>rw [hrest] at hr;cases hr
           | some r'=>
            rw [hrest] at hr
            cases hr
            have s05:Same H' H5:=s04.trans s5
            have hD5:H5 Dd=some (.lst vs):=s05 _ _ hD
            have lv:vs.length < sizeLine:=by rw [← rs.length];omega
            have im:Imm H5 (upd H5 Dd (.lst (vs++[yv]))):=Imm.upd hD5 rfl
            have n1:∀ a∈fp++fy,a≠Dd:=fun a m=>by
             rcases List.mem_append.mp m with m | m
             ·exact (fr a m).2
             ·intro e
              have:=fry a m
              rw [e,s04 _ _ hD] at this;cases this
            have rs5:Reps X.K H5 (done++[y]) (vs++[yv]) (fp++fy):=by
             have q:=Reps.append (rs.same s05) (Reps.cons ry .nil)
             rw [List.append_nil] at q
             exact q
            refine ⟨vs,hD5,lv,ds.length - (i + 1),by omega,rfl,fun b o e=>?_,len3,agc,done++[y],r',vs++[yv],fp++fy,upd_same,rs5.frame (fun a m=>upd_ne (n1 a m)) im,?_,fun a m=>?_,hrest,?_,?_⟩
            ·rw [upd_ne (ne_of_none e hDd)]
             exact s5 _ _ (s14 _ _ e)
            ·refine List.nodup_append.mpr ⟨nd,ndy,fun a m b m' e=>?_⟩
             subst e
             obtain ⟨o,w,_⟩:=(rs.same s04).dom a m
             rw [fry a m'] at w;cases w
            ·refine ⟨?_,n1 a m⟩
             rcases List.mem_append.mp m with m | m
             ·exact (fr a m).1
             ·exact s14.free (fry a m)
            ·rw [List.append_assoc];rfl
            ·rw [List.length_append,List.length_singleton];omega
  ·rw [if_neg hz] at e;cases e
theorem fp_comp {tg iter elt:Expr}{ifs:List Expr}{sc:Scope}{M:List Str}{js:List (Option Nat)}{it:IF}{g:GF}{tt:TF}{te:EF}{is:List Nat} (S:CompScope X M js sc) (hc:X.calm=true) (hi:FI X tg iter it) (hjs:∀ i∈is,js[i]? = some none)
  (hb:∀ s3 H3 fp,FG (cxComp X M sc s3 H3 fp) tg g is∧FTs (cxComp X M sc s3 H3 fp) ifs tt∧FP (cxComp X M sc s3 H3 fp) elt te) (hs:∀ x,foldedSetIterable iter X.env x=pure x:=by intro _;rfl) :
  FP X (.ListComp elt [⟨tg,iter,ifs,0⟩] sc pos) (eComp js it g tt te):=by
 obtain ⟨wi,pi,si⟩:=hi
 exact ⟨_,pe_comp (g:=tgS X.K g is) (tt:=ttS X.K tt) (te:=teS X.K te) S hc pi (fun s3 H3 fp=>⟨(hb s3 H3 fp).1.pg,(hb s3 H3 fp).2.1,(hb s3 H3 fp).2.2.pe⟩) hs,fun H0 S z held ρ σ H Q d tg ok e k=>comp_read hjs si H0 S z held ρ σ H Q d tg ok e k⟩
end
def iniF (n:Nat) (ds:List D):Rho:=ds.map (fun d=>some (d,.sh []))++List.replicate (n - ds.length) none
def runF (n N:Nat) (b:SF):List D→Option D:=fun ds=>if ds.length=n then (match b (iniF N ds) with
 | some (.rt d)=>some d
 | some (.nx _)=>some .non
 | _=>none) else none
section
variable {P:Program}{w:World}{K:PySem.W.Frag}{mg:Str→Option Value}{base:Heap}
theorem fn_F {cm:Bool}{x qual:Str}{st:Stmt}{f:Addr}{fd:FuncData}{N ps:List Str}{k:Nat}{b:SF} (F:Fun K x qual st f fd) (S:FnScope N ps (defScope st))
  (hb:∀ (cdv:Value) (A:Around) (outer:List Env) (s:Shared) (H:Hp) (E:XK),Room k (A.deeper (envOfC qual (defScope st) s.heap.objs.size f cdv)) cm→FS (cxOf CX0 P w K mg base N qual (defScope st) f cdv A outer s H E cm).nox (defBody st) b) :
  FnOk P w K mg base CX0 (k + 1) f fd ps (spF K (runF ps.length N.length b)) cm:=by
 have lenF:∀ {ds:List D}{d:D},runF ps.length N.length b ds=some d→ds.length=ps.length:=fun {ds d} e=>by
  unfold runF at e
  by_cases h:ds.length=ps.length
  ·exact h
  ·rw [if_neg h] at e;cases e
 refine F.ok S (fun vs H Q E ⟨ds,fp,d,rs,e,_⟩=>?_) (fun cdv A outer s H vs Q E hr ⟨ds,fp,d,rs,e,q⟩=>?_)
 ·rw [← rs.length];exact lenF e
 ·obtain ⟨t,p,sd⟩:=hb cdv A outer s H E hr
  refine ⟨t,p,?_⟩
  have hl:=lenF e
  have hlv:=rs.length
  have ok:Ok K H [] (fun _=>none) [] (iniF N.length ds) (start N vs) H:=by
   refine ⟨fun i d' t' e'=>?_,(fun p m=>by cases m),(fun a j e=>by cases e),(fun a o e _=>e),?_⟩
   ·unfold iniF at e'
    by_cases hi:i < ds.length
    ·rw [List.getElem?_append_left (by rw [List.length_map];exact hi),List.getElem?_map,List.getElem?_eq_getElem hi] at e'
     cases e'
     obtain ⟨v,f',hv,rv,_⟩:=rs.get (List.getElem?_eq_getElem hi)
     refine ⟨v,f',?_,rv,fun a _ j e=>by cases e⟩
     unfold start
     rw [List.getElem?_append_left (by rw [List.length_map];omega),List.getElem?_map,hv]
     rfl
    ·rw [List.getElem?_append_right (by rw [List.length_map];omega),List.getElem?_replicate] at e'
     split at e' <;> cases e'
   ·unfold iniF start
    rw [List.length_append,List.length_append,List.length_map,List.length_map,List.length_replicate,List.length_replicate,hlv]
  unfold runF at e
  rw [if_pos hl] at e
  cases ho:b (iniF N.length ds) with
  | none=>rw [ho] at e;cases e
  | some o=>
   rw [ho] at e
   refine sd H [] (fun _=>none) [] (iniF N.length ds) (start N vs) H _ o ok ho ?_
   cases o with
   | rt d'=>
    cases e
    exact fun H' v fp' en r nd fr=>q H' v fp' (fun a o e=>en a o e (fun m=>nomatch m)) r nd fun a m=>(fr a m).resolve_right fun m=>nomatch m
   | nx ρ'=>
    cases e
    exact fun z' σ' H' ok' _=>q H' .non [] (fun a o e=>ok'.en a o e (fun m=>nomatch m)) .non List.nodup_nil fun a m=>nomatch m
   | bk _=>cases e
   | ct _=>cases e
   | er _ _ _=>cases e
end
def iop (f:Int→Int→Int):D→D→Option D
 | .int i,.int j=>some (.int (f i j))
 | _,_=>none
def iopC (C:Int→Int→Bool) (f:Int→Int→Int):D→D→Option D
 | .int i,.int j=>if C i j=true then some (.int (f i j)) else none
 | _,_=>none
def iopB (f:Int→Int→Bool):D→D→Option D
 | .int i,.int j=>some (.bl (f i j))
 | _,_=>none
def cMul (i j:Int):Bool:=(decide (-(2 ^ 64) < i)&&decide (i < 2 ^ 64))||(decide (-(2 ^ 64) < j)&&decide (j < 2 ^ 64))
def cPos (_ j:Int):Bool:=decide (0 < j)
def oAdd:=iop fun i j=>i + j
def oSub:=iop fun i j=>i - j
def oMul:=iopC cMul fun i j=>i * j
def oMod:=iopC cPos fun i j=>i % j
def oLt:=iopB fun i j=>decide (i < j)
def oLe:=iopB fun i j=>decide (i≤j)
def oGt:=iopB fun i j=>decide (j < i)
def oGe:=iopB fun i j=>decide (j≤i)
def oEq:D→D→Option D
 | .int i,.int j=>some (.bl (i == j))
 | .bl i,.bl j=>some (.bl (i == j))
 | .str i,.str j=>some (.bl (i == j))
 | .non,.non=>some (.bl true)
 | _,_=>none
def oNe:D→D→Option D
 | .int i,.int j=>some (.bl (!(i == j)))
 | .bl i,.bl j=>some (.bl (!(i == j)))
 | .str i,.str j=>some (.bl (!(i == j)))
 | .non,.non=>some (.bl false)
 | _,_=>none
section
variable {K:PySem.W.Frag}
theorem does_i {g:Int→Int→Int}:Does2 K (rI0 fun i j=>.int (g i j)) (iop g):=by
 intro H x y d1 d2 f1 f2 d Q r1 r2 e k
 unfold iop at e
 split at e
 ·cases e
  exact ⟨_,_,r1.int_of.1,r2.int_of.1,k H _ (Same.refl H) (.int _)⟩
 ·cases e
theorem does_iB {g:Int→Int→Bool}:Does2 K (rI0 fun i j=>.bl (g i j)) (iopB g):=by
 intro H x y d1 d2 f1 f2 d Q r1 r2 e k
 unfold iopB at e
 split at e
 ·cases e
  exact ⟨_,_,r1.int_of.1,r2.int_of.1,k H _ (Same.refl H) (.bl _)⟩
 ·cases e
theorem does_iC {C:Int→Int→Prop}{c:Int→Int→Bool}{g:Int→Int→Int} (h:∀ i j,c i j=true→C i j):Does2 K (rI C fun i j=>.int (g i j)) (iopC c g):=by
 intro H x y d1 d2 f1 f2 d Q r1 r2 e k
 unfold iopC at e
 split at e
 ·rename_i i j
  by_cases hc:c i j=true
  ·rw [if_pos hc] at e
   cases e
   exact ⟨i,j,r1.int_of.1,r2.int_of.1,h i j hc,k H _ (Same.refl H) (.int _)⟩
  ·rw [if_neg hc] at e;cases e
 ·cases e
theorem cMul_ok (i j:Int) (h:cMul i j=true):CMul i j:=by
 unfold cMul at h
 unfold CMul
 rcases (Bool.or_eq_true _ _).mp h with h | h
 ·obtain ⟨a,b⟩:=(Bool.and_eq_true _ _).mp h
  exact .inl ⟨of_decide_eq_true a,of_decide_eq_true b⟩
 ·obtain ⟨a,b⟩:=(Bool.and_eq_true _ _).mp h
  exact .inr ⟨of_decide_eq_true a,of_decide_eq_true b⟩
theorem does_eq:Does2 K rEq oEq:=by
 intro H x y d1 d2 f1 f2 d Q r1 r2 e k
 unfold oEq at e
 split at e
 ·cases e;rw [r1.int_of.1,r2.int_of.1];refine ⟨rfl,?_⟩;rw [dec_int];exact k H _ (Same.refl H) (.bl _)
 ·cases e;rw [r1.bl_of.1,r2.bl_of.1];refine ⟨rfl,?_⟩;rw [dec_bl];exact k H _ (Same.refl H) (.bl _)
 ·cases e;rw [r1.str_of.1,r2.str_of.1];refine ⟨rfl,?_⟩;rw [dec_str];exact k H _ (Same.refl H) (.bl _)
 ·cases e;rw [r1.non_of.1,r2.non_of.1];exact ⟨rfl,by have:=k H (.bl true) (Same.refl H) (.bl _);simpa using this⟩
 ·cases e
theorem does_ne:Does2 K rNe oNe:=by
 intro H x y d1 d2 f1 f2 d Q r1 r2 e k
 unfold oNe at e
 split at e
 ·cases e;rw [r1.int_of.1,r2.int_of.1];refine ⟨rfl,?_⟩;rw [dec_int];exact k H _ (Same.refl H) (.bl _)
 ·cases e;rw [r1.bl_of.1,r2.bl_of.1];refine ⟨rfl,?_⟩;rw [dec_bl];exact k H _ (Same.refl H) (.bl _)
 ·cases e;rw [r1.str_of.1,r2.str_of.1];refine ⟨rfl,?_⟩;rw [dec_str];exact k H _ (Same.refl H) (.bl _)
 ·cases e;rw [r1.non_of.1,r2.non_of.1];exact ⟨rfl,by have:=k H (.bl false) (Same.refl H) (.bl _);simpa using this⟩
 ·cases e
end
section
variable {X:Cx}{a b:Expr}{fa fb:EF}{pos:Pos}
theorem fp_add (ha:FP X a fa) (hb:FP X b fb):FP X (.BinOp a .Add b pos) (e2 oAdd fa fb):=fp_bin op_add does_i ha hb
theorem fp_sub (ha:FP X a fa) (hb:FP X b fb):FP X (.BinOp a .Sub b pos) (e2 oSub fa fb):=fp_bin op_sub does_i ha hb
theorem fp_mul (ha:FP X a fa) (hb:FP X b fb):FP X (.BinOp a .Mult b pos) (e2 oMul fa fb):=fp_bin op_mul (does_iC cMul_ok) ha hb
theorem fp_mod (ha:FP X a fa) (hb:FP X b fb):FP X (.BinOp a .Mod b pos) (e2 oMod fa fb):=fp_bin op_mod (does_iC fun _ _ h=>of_decide_eq_true h) ha hb
theorem ft_gt (ha:FP X a fa) (hb:FP X b fb):FT X (.Compare a [.Gt] [b] pos) (tV (e2 oGt fa fb)):=ft_cmp op_gt does_iB ha hb (nomark _)
theorem ft_ge (ha:FP X a fa) (hb:FP X b fb):FT X (.Compare a [.GtE] [b] pos) (tV (e2 oGe fa fb)):=ft_cmp op_ge does_iB ha hb (nomark _)
theorem ft_eq (ha:FP X a fa) (hb:FP X b fb):FT X (.Compare a [.Eq] [b] pos) (tV (e2 oEq fa fb)):=ft_cmp op_eq does_eq ha hb (nomark _)
theorem ft_ne (ha:FP X a fa) (hb:FP X b fb):FT X (.Compare a [.NotEq] [b] pos) (tV (e2 oNe fa fb)):=ft_cmp op_ne does_ne ha hb (nomark _)
theorem fp_eq (ha:FP X a fa) (hb:FP X b fb):FP X (.Compare a [.Eq] [b] pos) (e2 oEq fa fb):=fp_cmp op_eq does_eq ha hb (nomark _)
def e1 (op:D→Option D) (fa:EF):EF:=fun ρ=>match fa ρ with
 | some (d1,_)=>(op d1).map fun d=>(d,.own)
 | none=>none
theorem e1_of {op:D→Option D}{fa:EF}{ρ:Rho}{d:D}{tg:Tag} (e:e1 op fa ρ=some (d,tg)):∃ d1 t1,fa ρ=some (d1,t1)∧op d1=some d∧tg=.own:=by
 unfold e1 at e
 cases h1:fa ρ with
 | none=>rw [h1] at e;cases e
 | some p=>
  obtain ⟨d1,t1⟩:=p
  rw [h1] at e
  dsimp only at e
  cases h3:op d1 with
  | none=>rw [h3] at e;cases e
  | some d3=>rw [h3] at e;cases e;exact ⟨d1,t1,rfl,h3,rfl⟩
def Does1 (K:PySem.W.Frag) (r:List V→Hp→VK→Prop) (op:D→Option D):Prop:=∀ (H:Hp) (x:V) (d1:D) (f1:List Addr) (d:D) (Q:VK),Rep K H d1 x f1→op d1=some d →
 (∀ H' v fp,Same H H'→Rep K H' d v fp→fp.Nodup→(∀ a∈fp,H a=none)→Q v H')→r [x] H Q
theorem fp_1 {e:Expr}{r:List V→Hp→VK→Prop}{op:D→Option D} (dd:Does1 X.K r op) (ha:FP X a fa) (he:∀ ta,PE X a ta→PE X e (tCB r (tCons ta tNil))):FP X e (e1 op fa):=by
 obtain ⟨t,p,q⟩:=ha
 refine ⟨_,he t p,fun H0 S z held ρ σ H Q d tg ok e k=>?_⟩
 obtain ⟨d1,t1,h1,h2,rfl⟩:=e1_of e
 refine q H0 S z held ρ σ H _ d1 t1 ok h1 fun H1 x f1 s1 r1 _=>?_
 exact dd H1 x d1 f1 d Q r1 h2 fun H2 v fp s2 r2 nd fr=>k H2 v fp (s1.trans s2) r2 ⟨nd,fun a m=>s1.free (fr a m)⟩
def oLen:D→Option D
 | .lst ds=>some (.int ds.length)
 | .fls ds=>some (.int ds.length)
 | .tup ds=>some (.int ds.length)
 | .dic es=>some (.int es.length)
 | _=>none
theorem CallR.or' {f:Value}{r r':List V→Hp→VK→Prop} (h:CallR X f r) (h':CallR X f r'):CallR X f (fun xs H Q=>r xs H Q∨r' xs H Q):=by
 intro pins s σ H xs us Q I rv q
 rcases q with q | q
 ·exact h pins s σ H xs us Q I rv q
 ·exact h' pins s σ H xs us Q I rv q
theorem does_len:Does1 X.K (fun xs H Q=>(∃ p ys,xs=[V.ref p]∧(SqL X.K H p ys∨SqT X.K H p ys)∧Q (.int ys.length) H)∨(∃ a kvs,xs=[V.ref a]∧H a=some (.dK kvs)∧Q (.int kvs.length) H)) oLen:=by
 intro H x d1 f1 d Q r e k
 have fin:∀ n:Nat,d=.int n→Q (.int n) H:=fun n e=>by subst e;exact k H _ [] (Same.refl H) (.int _) List.nodup_nil fun a m=>nomatch m
 cases d1 with
 | lst ds=>
  obtain ⟨a,xs,f,rfl,hq,rs,_⟩:=r.lst_of
  cases e
  exact .inl ⟨a,xs,rfl,.inl hq,by rw [← rs.length];exact fin _ rfl⟩
 | fls ds=>
  obtain ⟨a,xs,rfl,hq,rs⟩:=r.fls_of
  cases e
  exact .inl ⟨a,xs,rfl,.inl hq,by rw [← rs.length];exact fin _ rfl⟩
 | tup ds=>
  obtain ⟨a,xs,rfl,hq,rs⟩:=r.tup_of
  cases e
  exact .inl ⟨a,xs,rfl,.inr hq,by rw [← rs.length];exact fin _ rfl⟩
 | dic es=>
  cases r with
  | dic h hk rs=>
   cases e
   refine .inr ⟨_,_,rfl,h,?_⟩
   have hl:=congrArg List.length hk
   rw [List.length_map,List.length_map] at hl
   rw [← hl]
   exact fin _ rfl
 | _=>cases e
theorem fp_len {p:Pos} (hm:X.mg "len"=none) (ha:FP X a fa) (hg:Gl X "len":=by rfl) (hs:starEach [a] X.env=[(false,eval a X.env)]:=by rfl):FP X (.Call (.Name "len" p) [a] [] pos) (e1 oLen fa):=
 fp_1 does_len ha fun ta pa=>pe_callB (CallR.or' call_len_seq call_lenD) hg hm PySem.boot_len (pa_cons pa pa_nil hs) (he:=hs) (hpl:=rfl)
def oList:D→Option D
 | .lst ds=>if immAll ds=true then some (.lst ds) else none
 | .tup ds=>if immAll ds=true then some (.lst ds) else none
 | _=>none
theorem does_list:Does1 X.K (fun xs H Q=>∃ p ys,xs=[V.ref p]∧(SqL X.K H p ys∨SqT X.K H p ys)∧∀ l,H l=none→Q (.ref l) (upd H l (.lst ys))) oList:=by
 intro H x d1 f1 d Q r e k
 have fin:∀ {ds:List D}{xs:List V}{f:List Addr},Reps X.K H ds xs f→(if immAll ds=true then some (D.lst ds) else none)=some d→∀ l,H l=none→Q (.ref l) (upd H l (.lst xs)):=fun {ds xs f} rs e l hl=>by
  by_cases hi:immAll ds=true
  ·rw [if_pos hi] at e
   cases e
   have hn:=rs.imm hi
   subst hn
   have s2:Same H (upd H l (.lst xs)):=fun b o e=>by rw [upd_ne (ne_of_none e hl)];exact e
   exact k _ _ [l] s2 (.lst upd_same (rs.same s2)) (List.nodup_cons.mpr ⟨(fun m=>by cases m),List.nodup_nil⟩) fun a m=>by cases List.mem_singleton.mp m;exact hl
  ·rw [if_neg hi] at e;cases e
 cases d1 with
 | lst ds=>
  obtain ⟨a,xs,f,rfl,hq,rs,_⟩:=r.lst_of
  exact ⟨a,xs,rfl,.inl hq,fin rs e⟩
 | tup ds=>
  obtain ⟨a,xs,rfl,hq,rs⟩:=r.tup_of
  exact ⟨a,xs,rfl,.inr hq,fin rs e⟩
 | _=>cases e
theorem fp_list {p:Pos} (hm:X.mg "list"=none) (ha:FP X a fa) (hg:Gl X "list":=by rfl) (hs:starEach [a] X.env=[(false,eval a X.env)]:=by rfl):FP X (.Call (.Name "list" p) [a] [] pos) (e1 oList fa):=
 fp_1 does_list ha fun ta pa=>pe_callTy call_list_of hg hm (by rfl) (pa_cons pa pa_nil hs) (he:=hs) (hpl:=rfl)
end
def oIx:D→D→Option D
 | .fls ds,.int i=>(atI ds i).bind fun d=>if imm d=true then some d else none
 | .lst ds,.int i=>(atI ds i).bind fun d=>if imm d=true then some d else none
 | .tup ds,.int i=>(atI ds i).bind fun d=>if imm d=true then some d else none
 | _,_=>none
theorem does_ix {K:PySem.W.Frag}:Does2 K (fun x y H Q=>rIxL K x y H Q∨rIxT K x y H Q∨rIxS x y H Q) oIx:=by
 intro H x y d1 d2 f1 f2 d Q r1 r2 e k
 have key:∀ {ds:List D}{xs:List V}{f:List Addr}{i:Int},Reps K H ds xs f→((atI ds i).bind fun d=>if imm d=true then some d else none)=some d→∃ v,atI xs i=some v∧Rep K H d v []:=fun {ds xs f i} rs e=>by
  unfold atI at e ⊢
  rw [← rs.length]
  cases h:ixN ds.length i with
  | none=>rw [h] at e;cases e
  | some j=>
   rw [h,Option.bind_some] at e
   rw [Option.bind_some]
   cases h2:ds[j]? with
   | none=>rw [h2] at e;cases e
   | some d'=>
    rw [h2,Option.bind_some] at e
    by_cases hi:imm d'=true
    ·rw [if_pos hi] at e
     cases e
     obtain ⟨v,f',hv,rv,_⟩:=rs.get h2
     have hn:=rv.imm hi
     subst hn
     exact ⟨v,hv,rv⟩
    ·rw [if_neg hi] at e;cases e
 unfold oIx at e
 split at e
 ·obtain ⟨a,xs,rfl,hq,rs⟩:=r1.fls_of
  obtain ⟨v,hv,rv⟩:=key rs e
  exact .inl ⟨a,xs,_,v,rfl,r2.int_of.1,hq,hv,k H v (Same.refl H) rv⟩
 ·obtain ⟨a,xs,f,rfl,hq,rs,_⟩:=r1.lst_of
  obtain ⟨v,hv,rv⟩:=key rs e
  exact .inl ⟨a,xs,_,v,rfl,r2.int_of.1,hq,hv,k H v (Same.refl H) rv⟩
 ·obtain ⟨a,xs,rfl,hq,rs⟩:=r1.tup_of
  obtain ⟨v,hv,rv⟩:=key rs e
  exact .inr (.inl ⟨a,xs,_,v,rfl,r2.int_of.1,hq,hv,k H v (Same.refl H) rv⟩)
 ·cases e
theorem fp_ix {X:Cx}{a b:Expr}{fa fb:EF}{pos:Pos} (ha:FP X a fa) (hb:FP X b fb) (hs:PlainIx b:=by exact fun _ _=>rfl):FP X (.Subscript a b pos) (e2 oIx fa fb):=fp_2 does_ix ha hb fun _ _ pa pb=>pe_ix ix_seq pa pb hs
section
variable {ρ ρ':Rho}{i j:Nat}{d d1 d2:D}{t t1 t2:Tag}{op2:D→D→Option D}{op1:D→Option D}{f g fa fb:EF}{tf tg:TF}{sf sg:SF}{o:Out}
def varK (i:Nat):Option Slot→Option (D×Tag)
 | some (some (d,t))=>some (d,tagOf i t)
 | _=>none
theorem s_eVar:eVar i ρ=varK i ρ[i]? :=by
 unfold eVar varK
 cases ρ[i]? with
 | none=>rfl
 | some s=>cases s <;> rfl
theorem s_varK:varK i (some (some (d,t)))=some (d,tagOf i t):=rfl
theorem s_tagS {o:List Nat}:tagOf i (.sh o)=.sh o:=rfl
theorem s_tagO:tagOf i .own=.sh [i]:=rfl
theorem s_tagL:tagOf i .lk=.sh [i]:=rfl
theorem s_eC:eC d ρ=some (d,.own):=rfl
def k1 (op:D→Option D):Option (D×Tag)→Option (D×Tag)
 | some (d,_)=>(op d).map fun d=>(d,.own)
 | none=>none
theorem s_e1:e1 op1 fa ρ=k1 op1 (fa ρ):=by unfold e1 k1;cases fa ρ <;> rfl
theorem s_k1:k1 op1 (some (d,t))=(op1 d).map fun d=>(d,.own):=rfl
def k2 (op:D→D→Option D):Option (D×Tag)→Option (D×Tag)→Option (D×Tag)
 | some (d1,_),some (d2,_)=>(op d1 d2).map fun d=>(d,.own)
 | _,_=>none
theorem s_e2:e2 op2 fa fb ρ=k2 op2 (fa ρ) (fb ρ):=by unfold e2 k2;cases fa ρ <;> cases fb ρ <;> rfl
theorem s_k2:k2 op2 (some (d1,t1)) (some (d2,t2))=(op2 d1 d2).map fun d=>(d,.own):=rfl
theorem s_map {α β:Type}{f:α→β}{a:α}:(some a).map f=some (f a):=rfl
def kV:Option (D×Tag)→Option Bool
 | some (.bl b,_)=>some b
 | _=>none
theorem s_tV:tV fa ρ=Ev.kV (fa ρ):=by
 unfold tV Ev.kV
 cases fa ρ with
 | none=>rfl
 | some p=>obtain ⟨d,t⟩:=p;cases d <;> rfl
theorem s_kV {b:Bool}:Ev.kV (some (.bl b,t))=some b:=rfl
theorem s_and:tAnd2 tf tg ρ=(match tf ρ with | some true=>tg ρ | some false=>some false | none=>none):=rfl
theorem s_and2 {a b:Bool} (h:tf ρ=some a) (h2:tg ρ=some b):tAnd2 tf tg ρ=some (a&&b):=by unfold tAnd2;rw [h];cases a <;> first | exact h2 | rfl
theorem s_or2 {a b:Bool} (h:tf ρ=some a) (h2:tg ρ=some b):tOr2 tf tg ρ=some (a||b):=by unfold tOr2;rw [h];cases a <;> first | exact h2 | rfl
theorem s_not:tNot1 tf ρ=(tf ρ).map fun b=>!b:=rfl
theorem s_nx:sNx ρ=some (.nx ρ):=rfl
theorem s_bk:sBk ρ=some (.bk ρ):=rfl
theorem s_ct:sCt ρ=some (.ct ρ):=rfl
def seqK (g:SF):Option Out→Option Out
 | some (.nx ρ)=>g ρ
 | o=>o
theorem s_seq:sSeq sf sg ρ=seqK sg (sf ρ):=by
 unfold sSeq seqK
 cases sf ρ with
 | none=>rfl
 | some o=>cases o <;> rfl
theorem s_seqN:seqK sg (some (.nx ρ))=sg ρ:=rfl
theorem s_seqR:seqK sg (some (.rt d))=some (.rt d):=rfl
theorem s_seqB:seqK sg (some (.bk ρ))=some (.bk ρ):=rfl
theorem s_seqC:seqK sg (some (.ct ρ))=some (.ct ρ):=rfl
def ifK (sf sg:SF) (ρ:Rho):Option Bool→Option Out
 | some true=>sf ρ
 | some false=>sg ρ
 | none=>none
theorem s_if:sIf tf sf sg ρ=ifK sf sg ρ (tf ρ):=by unfold sIf ifK;cases tf ρ <;> rfl
theorem s_ifT:ifK sf sg ρ (some true)=sf ρ:=rfl
theorem s_ifF:ifK sf sg ρ (some false)=sg ρ:=rfl
def retK:Option (D×Tag)→Option Out
 | some (d,t)=>if isOwn t=true then some (.rt d) else if imm d=true then some (.rt d) else none
 | none=>none
theorem s_ret:sRet fa ρ=retK (fa ρ):=by unfold sRet retK;cases fa ρ <;> rfl
theorem s_retO:retK (some (d,.own))=some (.rt d):=rfl
def retVK:Option Slot→Option Out
 | some (some (d,t))=>if isOwn t=true then some (.rt d) else if imm d=true then some (.rt d) else none
 | _=>none
theorem s_retV:sRetV i ρ=retVK ρ[i]? :=by
 unfold sRetV retVK
 cases ρ[i]? with
 | none=>rfl
 | some s=>cases s <;> rfl
theorem s_retVO:retVK (some (some (d,.own)))=some (.rt d):=rfl
theorem s_retVL:retVK (some (some (d,.lk)))=some (.rt d):=rfl
def setK (i:Nat) (ρ:Rho):Option (D×Tag)→Option Out
 | some (d,t)=>some (.nx (setS ρ i d t))
 | none=>none
theorem s_set:sSet i fa ρ=setK i ρ (fa ρ):=by unfold sSet setK;cases fa ρ <;> rfl
theorem s_setO:setK i ρ (some (d,.own))=some (.nx (ρ.set i (some (d,.own)))):=rfl
theorem s_setS {o:List Nat}:setK i ρ (some (d,.sh o))=some (.nx (ρ.set i (some (d,.sh o)))):=rfl
theorem s_sS {o:List Nat}:setS ρ i d (.sh o)=ρ.set i (some (d,.sh o)):=rfl
theorem s_sO:setS ρ i d .own=ρ.set i (some (d,.own)):=rfl
theorem s_gN:gN i d t ρ=some (setS ρ i d t):=rfl
theorem s_aNil:aNil ρ=some []:=rfl
def consK:Option (D×Tag)→Option (List (D×Tag))→Option (List (D×Tag))
 | some p,some ps=>some (p::ps)
 | _,_=>none
theorem s_aCons {a:AF}:aCons fa a ρ=consK (fa ρ) (a ρ):=by unfold aCons consK;cases fa ρ <;> cases a ρ <;> rfl
theorem s_consK {p:D×Tag}{ps:List (D×Tag)}:consK (some p) (some ps)=some (p::ps):=rfl
theorem s_call {F:List D→Option D}{a:AF}:eCall F a ρ=(a ρ).bind fun ps=>(F (ps.map (·.1))).map fun d=>(d,.own):=rfl
theorem s_bind {α β:Type}{f:α→Option β}{a:α}:(some a).bind f=f a:=rfl
theorem s_tup {a:AF}:eTup a ρ=(a ρ).map fun ps=>(.tup (ps.map (·.1)),joinA ps):=rfl
theorem s_lst {a:AF}:eLst a ρ=(a ρ).map fun ps=>(.lst (ps.map (·.1)),joinA ps):=rfl
variable {m n:Int}
theorem s_oAdd:oAdd (.int m) (.int n)=some (.int (m + n)):=rfl
theorem s_oSub:oSub (.int m) (.int n)=some (.int (m - n)):=rfl
theorem s_oMul (h:cMul m n=true):oMul (.int m) (.int n)=some (.int (m * n)):=by show (if cMul m n=true then some (D.int (m * n)) else none)=_;rw [if_pos h]
theorem s_oMod (h:0 < n):oMod (.int m) (.int n)=some (.int (m % n)):=by show (if cPos m n=true then some (D.int (m % n)) else none)=_;rw [if_pos (show cPos m n=true from decide_eq_true h)]
theorem s_oLt:oLt (.int m) (.int n)=some (.bl (decide (m < n))):=rfl
theorem s_oLe:oLe (.int m) (.int n)=some (.bl (decide (m≤n))):=rfl
theorem s_oGt:oGt (.int m) (.int n)=some (.bl (decide (n < m))):=rfl
theorem s_oGe:oGe (.int m) (.int n)=some (.bl (decide (n≤m))):=rfl
theorem s_oEq:oEq (.int m) (.int n)=some (.bl (m == n)):=rfl
theorem s_oNe:oNe (.int m) (.int n)=some (.bl (!(m == n))):=rfl
theorem s_lenL {ds:List D}:oLen (.lst ds)=some (.int ds.length):=rfl
theorem s_lenF {ds:List D}:oLen (.fls ds)=some (.int ds.length):=rfl
theorem s_lenT {ds:List D}:oLen (.tup ds)=some (.int ds.length):=rfl
theorem s_lenD {es:List (Key×D)}:oLen (.dic es)=some (.int es.length):=rfl
theorem s_ixL {ds:List D} (h:atI ds m=some d) (hi:imm d=true):oIx (.lst ds) (.int m)=some d:=by show ((atI ds m).bind fun d=>if imm d=true then some d else none)=_;rw [h,Option.bind_some,if_pos hi]
theorem s_ixF {ds:List D} (h:atI ds m=some d) (hi:imm d=true):oIx (.fls ds) (.int m)=some d:=by show ((atI ds m).bind fun d=>if imm d=true then some d else none)=_;rw [h,Option.bind_some,if_pos hi]
theorem runF_rt {n N:Nat}{b:SF}{ds:List D} (hl:ds.length=n) (h:b (iniF N ds)=some (.rt d)):runF n N b ds=some d:=by unfold runF;rw [if_pos hl,h]
end
def dI (ns:List Int):D:=.fls (ns.map D.int)
theorem atI_ints {ns:List Int}{i:Int} (h0:0≤i) (h1:i < ns.length):atI (ns.map D.int) i=some (.int (ns.getD i.toNat 0)):=by
 unfold atI ixN
 have h2:i.toNat < ns.length:=by omega
 rw [List.length_map,if_pos h0,if_pos h1,Option.bind_some,List.getElem?_map,List.getElem?_eq_getElem h2,List.getD_eq_getElem?_getD,List.getElem?_eq_getElem h2]
 rfl
section
variable {κ:Type} [DecidableEq κ]
def valD (es:List (κ×D)) (k:κ):Option D:=(es.find? fun kv=>decide (kv.1=k)).map (·.2)
def putD (es:List (κ×D)) (k:κ) (d:D):List (κ×D):=
 if (es.any fun kv=>decide (kv.1=k))=true then es.map (fun kv=>if kv.1=k then (kv.1,d) else kv) else es++[(k,d)]
theorem rep_val {K:PySem.W.Frag}{H:Hp}{k:κ}:∀ {es:List (κ×D)}{kvs:List (κ×V)}{fp:List Addr},es.map (·.1)=kvs.map (·.1)→Reps K H (es.map (·.2)) (kvs.map (·.2)) fp →
  (∀ d,valD es k=some d→∃ v f,valV kvs k=some v∧Rep K H d v f∧∀ a∈f,a∈fp)∧(valD es k=none→valV kvs k=none)
 | [],[],_,_,_=>⟨fun d e=>(nomatch e),fun _=>rfl⟩
 | [],_::_,_,e,_=>by simp at e
 | _::_,[],_,e,_=>by simp at e
 | (q,d0)::es,(q',v0)::kvs,fp,e,r=>by
  simp only [List.map_cons,List.cons.injEq] at e
  obtain ⟨rfl,e⟩:=e
  simp only [List.map_cons] at r
  cases r with
  | @cons _ _ _ _ f1 f2 r1 r2=>
   obtain ⟨i1,i2⟩:=rep_val (k:=k) e r2
   by_cases h:q=k
   ·have e1:valD ((q,d0)::es) k=some d0:=by unfold valD;rw [List.find?_cons,decide_eq_true h];rfl
    refine ⟨fun d ed=>?_,fun en=>?_⟩
    ·rw [e1] at ed
     cases ed
     exact ⟨v0,f1,valV_pos h,r1,fun a m=>List.mem_append_left _ m⟩
    ·rw [e1] at en;cases en
   ·have e1:valD ((q,d0)::es) k=valD es k:=by unfold valD;rw [List.find?_cons,decide_eq_false h]
    rw [e1,valV_neg h]
    exact ⟨fun d ed=>let ⟨v,f,a,b,c⟩:=i1 d ed;⟨v,f,a,b,fun x m=>List.mem_append_right _ (c x m)⟩,i2⟩
theorem putD_keys {es:List (κ×D)}{kvs:List (κ×V)}{k:κ}{d:D}{v:V} (e:es.map (·.1)=kvs.map (·.1)):(putD es k d).map (·.1)=(putK kvs k v).map (·.1):=by
 have any:(es.any fun kv=>decide (kv.1=k))=kvs.any fun kv=>decide (kv.1=k):=by
  have h1:(es.any fun kv=>decide (kv.1=k))=(es.map (·.1)).any fun x=>decide (x=k):=by rw [List.any_map];rfl
  have h2:(kvs.any fun kv=>decide (kv.1=k))=(kvs.map (·.1)).any fun x=>decide (x=k):=by rw [List.any_map];rfl
  rw [h1,h2,e]
 have m1:∀ l:List (κ×D),(l.map fun kv=>if kv.1=k then (kv.1,d) else kv).map (·.1)=l.map (·.1):=fun l=>by
  rw [List.map_map];congr 1;funext kv;show (if kv.1=k then (kv.1,d) else kv).1=kv.1;split <;> rfl
 have m2:∀ l:List (κ×V),(l.map fun kv=>if kv.1=k then (kv.1,v) else kv).map (·.1)=l.map (·.1):=fun l=>by
  rw [List.map_map];congr 1;funext kv;show (if kv.1=k then (kv.1,v) else kv).1=kv.1;split <;> rfl
 unfold putD putK
 rw [any]
 by_cases h:(kvs.any fun kv=>decide (kv.1=k))=true
 ·rw [if_pos h,if_pos h,m1,m2,e]
 ·rw [if_neg h,if_neg h,List.map_append,List.map_append,e];rfl
theorem putD_reps {K:PySem.W.Frag}{H:Hp}{k:κ}{d:D}{v:V}{es:List (κ×D)}{kvs:List (κ×V)} (e:es.map (·.1)=kvs.map (·.1)) (r:Reps K H (es.map (·.2)) (kvs.map (·.2)) []) (rv:Rep K H d v []) :
  Reps K H ((putD es k d).map (·.2)) ((putK kvs k v).map (·.2)) []:=by
 have any:(es.any fun kv=>decide (kv.1=k))=kvs.any fun kv=>decide (kv.1=k):=by
  have h1:(es.any fun kv=>decide (kv.1=k))=(es.map (·.1)).any fun x=>decide (x=k):=by rw [List.any_map];rfl
  have h2:(kvs.any fun kv=>decide (kv.1=k))=(kvs.map (·.1)).any fun x=>decide (x=k):=by rw [List.any_map];rfl
  rw [h1,h2,e]
 have go:∀ (es:List (κ×D)) (kvs:List (κ×V)),es.map (·.1)=kvs.map (·.1)→Reps K H (es.map (·.2)) (kvs.map (·.2)) []→Reps K H ((es.map fun kv=>if kv.1=k then (kv.1,d) else kv).map (·.2)) ((kvs.map fun kv=>if kv.1=k then (kv.1,v) else kv).map (·.2)) []:=by
  intro es
  induction es with
  | nil=>
   intro kvs e r
   cases kvs with
   | nil=>exact .nil
   | cons _ _=>simp at e
  | cons p es ih=>
   intro kvs e r
   cases kvs with
   | nil=>simp at e
   | cons p' kvs=>
    obtain ⟨q,d0⟩:=p
    obtain ⟨q',v0⟩:=p'
    simp only [List.map_cons,List.cons.injEq] at e
    obtain ⟨rfl,e⟩:=e
    simp only [List.map_cons] at r ⊢
    generalize hf:([]:List Addr)=fp at r
    cases r with
    | @cons _ _ _ _ f1 f2 r1 r2=>
     obtain ⟨h1,h2⟩:=List.append_eq_nil_iff.mp hf.symm
     subst h1 h2
     have t:=ih kvs e r2
     by_cases h:q=k
     ·rw [if_pos h,if_pos h];exact Reps.cons (f1:=[]) (f2:=[]) rv t
     ·rw [if_neg h,if_neg h];exact Reps.cons (f1:=[]) (f2:=[]) r1 t
 unfold putD putK
 rw [any]
 by_cases h:(kvs.any fun kv=>decide (kv.1=k))=true
 ·rw [if_pos h,if_pos h];exact go es kvs e r
 ·rw [if_neg h,if_neg h,List.map_append,List.map_append]
  exact Reps.append (f:=[]) (g:=[]) r (Reps.cons (f1:=[]) (f2:=[]) rv .nil)
end
def keyD:D→Option Key
 | .int i=>some (.inl i)
 | .str x=>some (.inr x)
 | _=>none
theorem Rep.key {K:PySem.W.Frag}{H:Hp}{d:D}{y:V}{fp:List Addr}{k:Key} (r:Rep K H d y fp) (e:keyD d=some k):y=L2.kV k:=by
 cases r <;> cases e <;> rfl
def oGet:D→D→Option D
 | .dic es,kd=>match keyD kd with
  | some k=>(valD es k).bind fun d=>if imm d=true then some d else none
  | none=>none
 | _,_=>none
def tDg:R2:=fun x y H Q=>∃ a v,x=.ref a∧DGet H a y (some v)∧Q v H
theorem does_get {K:PySem.W.Frag}:Does2 K tDg oGet:=by
 intro H x y d1 d2 f1 f2 d Q r1 r2 e k
 cases r1 with
 | @dic a kvs es fp h hk rs=>
  have e:(match keyD d2 with | some k=>(valD es k).bind fun d=>if imm d=true then some d else none | none=>none)=some d:=e
  cases hkd:keyD d2 with
  | none=>rw [hkd] at e;cases e
  | some key=>
   rw [hkd] at e
   dsimp only at e
   cases hv:valD es key with
   | none=>rw [hv] at e;cases e
   | some d'=>
    rw [hv,Option.bind_some] at e
    by_cases hi:imm d'=true
    ·rw [if_pos hi] at e
     cases e
     obtain ⟨v,f,h1,r,_⟩:=(rep_val (k:=key) hk rs).1 d hv
     have hn:=r.imm hi
     subst hn
     have ek:=r2.key hkd
     subst ek
     have g:=DGet.k (k:=key) h
     rw [h1] at g
     exact ⟨a,v,rfl,g,k H v (Same.refl H) r⟩
    ·rw [if_neg hi] at e;cases e
 | _=>cases e
section
variable {X:Cx}{a b c:Expr}{fa fb fc:EF}{pos:Pos}
theorem fp_dget (hu:X.A.units + 1 < cLine) (ha:FP X a fa) (hb:FP X b fb) (hs:NoSl b:=by exact fun _ _=>rfl):FP X (.Subscript a b pos) (e2 oGet fa fb):=
 fp_2 does_get ha hb fun _ _ pa pb=>pe_dget hu pa pb hs
def oGetD (d1 d2 d3:D):Option D:=match d1,keyD d2 with
 | .dic es,some k=>match valD es k with
  | some d=>if imm d=true then some d else none
  | none=>if imm d3=true then some d3 else none
 | _,_=>none
def e3 (op:D→D→D→Option D) (fa fb fc:EF):EF:=fun ρ=>match fa ρ,fb ρ,fc ρ with
 | some (d1,_),some (d2,_),some (d3,_)=>(op d1 d2 d3).map fun d=>(d,.own)
 | _,_,_=>none
theorem fp_dnew:FP X (.Dict [] [] pos) (eC (.dic [])):=by
 refine ⟨_,pe_dnewK,fun H0 S z held ρ σ H Q d tg ok e k p hp=>?_⟩
 cases e
 have s2:Same H (upd H p (.dK [])):=fun b o e=>by rw [upd_ne (ne_of_none e hp)];exact e
 exact k _ _ [p] s2 (.dic upd_same rfl .nil) ⟨List.nodup_cons.mpr ⟨(fun m=>by cases m),List.nodup_nil⟩,fun a m=>by cases List.mem_singleton.mp m;exact hp⟩
end
def dropT (i:Nat):Slot→Slot
 | some (d,.sh o)=>if o.contains i=true then none else some (d,.sh o)
 | s=>s
def mutS (ρ:Rho) (i:Nat) (d:D):Rho:=(ρ.map (dropT i)).set i (some (d,.own))
theorem Ok.mutate {K:PySem.W.Frag}{H0:Hp}{S:List Addr}{z:Addr→Option Nat}{held:List Held}{ρ:Rho}{σ:St}{H:Hp}{i:Nat}{d0 d1:D}{v:V}{fp:List Addr}{p:Addr}{o o':HO} (ok:Ok K H0 S z held ρ σ H) (h:ρ[i]? = some (some (d0,.own)))
  (hs:σ[i]? = some (some v)) (zz:InZ z i .own fp) (hp:p∈fp) (ho:H p=some o) (mo:MutO o=true) (r1:Rep K (upd H p o') d1 v fp):Ok K H0 S z held (mutS ρ i d1) σ (upd H p o'):=by
 have im:Imm H (upd H p o'):=Imm.upd ho mo
 have zp:z p=some i:=zz.2 p hp
 have hiρ:i < ρ.length:=(List.getElem?_eq_some_iff.mp h).1
 refine ⟨fun j d t e=>?_,fun q m=>?_,fun a j e=>?_,fun a u e n=>?_,?_⟩
 ·unfold mutS at e
  by_cases hj:j=i
  ·subst hj
   rw [List.getElem?_set_self (by rw [List.length_map];exact hiρ)] at e
   cases e
   exact ⟨v,fp,hs,r1,zz⟩
  ·rw [List.getElem?_set_ne (Ne.symm hj),List.getElem?_map] at e
   cases e0:ρ[j]? with
   | none=>rw [e0] at e;cases e
   | some s=>
    rw [e0] at e
    have e:dropT i s=some (d,t):=Option.some.inj e
    have e1:s=some (d,t)∧∀ o,t=.sh o→¬ i∈o:=by
     cases s with
     | none=>cases e
     | some w=>
      obtain ⟨d',t'⟩:=w
      cases t' with
      | sh o=>
       have e:(if o.contains i=true then none else some (d',Tag.sh o))=some (d,t):=e
       by_cases hc:o.contains i=true
       ·rw [if_pos hc] at e;cases e
       ·rw [if_neg hc] at e
        cases e
        exact ⟨rfl,fun o' eo m=>by cases eo;exact hc (List.contains_iff_mem.mpr m)⟩
      | own=>cases e;exact ⟨rfl,fun o eo=>by cases eo⟩
      | lk=>cases e;exact ⟨rfl,fun o eo=>by cases eo⟩
    obtain ⟨rfl,nd⟩:=e1
    obtain ⟨v',fp',hs',r',z'⟩:=ok.sl j d t e0
    have np:∀ a∈fp',a≠p:=fun a m e=>by
     subst e
     cases t with
     | sh o=>exact nd o rfl (z' a m i zp)
     | own=>have:=z'.2 a m;rw [zp] at this;exact hj (Option.some.inj this).symm
     | lk=>have:=z'.2 a m;rw [zp] at this;exact hj (Option.some.inj this).symm
    exact ⟨v',fp',hs',r'.frame (fun a m=>upd_ne (np a m)) im,z'⟩
 ·obtain ⟨r,hz⟩:=ok.hl q m
  have np:∀ a∈q.fp,a≠p:=fun a m e=>by
   subst e
   exact (hz a m i zp).2 d0 h
  refine ⟨r.frame (fun a m=>upd_ne (np a m)) im,fun a ha j e=>?_⟩
  obtain ⟨h1,h2⟩:=hz a ha j e
  have hj:j≠i:=fun e=>h2 d0 (by rw [e];exact h)
  refine ⟨h1,fun d e=>?_⟩
  unfold mutS at e
  rw [List.getElem?_set_ne (Ne.symm hj),List.getElem?_map] at e
  cases e0:ρ[j]? with
  | none=>rw [e0] at e;cases e
  | some s=>
   rw [e0] at e
   have e:dropT i s=some (d,.own):=Option.some.inj e
   cases s with
   | none=>cases e
   | some w=>
    obtain ⟨d',t'⟩:=w
    cases t' with
    | sh o=>
     have e:(if o.contains i=true then none else some (d',Tag.sh o))=some (d,.own):=e
     split at e <;> cases e
    | own=>exact h2 d' e0
    | lk=>cases e
 ·obtain ⟨⟨u,w⟩,y⟩:=ok.zd a j e
  refine ⟨?_,y⟩
  by_cases ea:a=p
  ·subst ea;exact ⟨_,upd_same⟩
  ·exact ⟨u,by rw [upd_ne ea];exact w⟩
 ·have w:=ok.en a u e n
  rw [upd_ne]
  ·exact w
  ·intro ea
   subst ea
   rcases (ok.zd a i zp).2 with q | q
   ·rw [q] at e;cases e
   ·exact n q
 ·unfold mutS
  rw [List.length_set,List.length_map]
  exact ok.ln
section
variable {X:Cx}{pos:Pos}
def sDput (i:Nat) (fk fv:EF):SF:=fun ρ=>match fv ρ,ρ[i]?,fk ρ with
 | some (d,_),some (some (.dic es,.own)),some (kd,_)=>match keyD kd with
  | some k=>if (imm d&&immAll (es.map (·.2))&&decide (es.length < sizeLine))=true then some (.nx (mutS ρ i (.dic (putD es k d)))) else none
  | none=>none
 | _,_,_=>none
theorem fs_dput (i:Nat) {x:Str}{k v:Expr}{fk fv:EF}{p1 pos':Pos} (hu:X.A.units + 1 < cLine) (hk:FP X k fk) (hv:FP X v fv) (hN:X.N[i]? = some x:=by rfl) (hvis:Vis X.env.scope x:=by first | exact Or.inl rfl | exact Or.inr (Or.inl rfl) | exact Or.inr (Or.inr rfl))
  (hd:(x == ("__debug__":Str))=false:=by decide) (hcd:(x == ("__classdict__":Str))=false:=by decide) (hs:swapsWith v (some (.Subscript (.Name x p1) k pos')) pos.line X.env=pure false:=by rfl) :
  FS1 X (.Assign [.Subscript (.Name x p1) k pos'] v pos) (sDput i fk fv):=by
 obtain ⟨tk,pk,sk⟩:=hk
 obtain ⟨tv,pv',sv⟩:=hv
 refine ⟨_,ps_dput hu (pe_var (i:=i) hN hvis hd hcd) pk pv' hs,fun H0 S z held ρ σ H E o ok e q=>?_⟩
 unfold sDput at e
 cases h1:fv ρ with
 | none=>rw [h1] at e;cases e
 | some w=>
  obtain ⟨d,td⟩:=w
  cases h2:ρ[i]? with
  | none=>rw [h1,h2] at e;cases e
  | some s=>
   cases h3:fk ρ with
   | none=>rw [h1,h2,h3] at e;cases s with
    | none=>cases e
    | some w=>obtain ⟨d',t'⟩:=w;cases d' <;> cases t' <;> cases e
   | some w=>
    obtain ⟨kd,tkd⟩:=w
    rw [h1,h2,h3] at e
    cases s with
    | none=>cases e
    | some w=>
     obtain ⟨d',t'⟩:=w
     cases d' with
     | dic es=>
      cases t' with
      | own=>
       dsimp only at e
       cases h4:keyD kd with
       | none=>rw [h4] at e;cases e
       | some key=>
        rw [h4] at e
        dsimp only at e
        by_cases hc:(imm d&&immAll (es.map (·.2))&&decide (es.length < sizeLine))=true
        ·rw [if_pos hc] at e
         cases e
         obtain ⟨hc1,hc3⟩:=(Bool.and_eq_true _ _).mp hc
         obtain ⟨hc1,hc2⟩:=(Bool.and_eq_true _ _).mp hc1
         have hz:=of_decide_eq_true hc3
         refine sv H0 S z held ρ σ H _ d td ok h1 fun H1 v fv' s1 rv _=>?_
         obtain ⟨xv,fp,hs',r,zz⟩:=(ok.same s1).sl i _ _ h2
         refine ⟨xv,hs',?_⟩
         refine sk H0 S z held ρ σ H1 _ kd tkd (ok.same s1) h3 fun H2 y fk' s2 rk _=>?_
         have ek:=rk.key h4
         subst ek
         have r':=r.same s2
         cases r' with
         | @dic a kvs _ f h hke rs=>
          have hn:=rs.imm hc2
          subst hn
          have hnv:=rv.imm hc1
          subst hnv
          have hl:kvs.length=es.length:=by have:=congrArg List.length hke;simpa using this.symm
          refine ⟨a,_,rfl,DPut.k (k:=key) h (by rw [hl];exact hz),?_⟩
          have im:Imm H2 (upd H2 a (.dK (putK kvs key v))):=Imm.upd h rfl
          refine q z σ _ (Ok.mutate ((ok.same s1).same s2) h2 hs' zz List.mem_cons_self h rfl (.dic upd_same (putD_keys hke) ?_)) (.refl _ _)
          exact putD_reps hke (rs.frame (fun a m=>nomatch m) im) ((rv.same s2).frame (fun a m=>nomatch m) im)
        ·rw [if_neg hc] at e;cases e
      | _=>cases e
     | _=>cases t' <;> cases e
end
def ins1 (x:Int):List Int→List Int
 | []=>[x]
 | y::r=>if x≤y then x::y::r else y::ins1 x r
def srt:List Int→List Int
 | []=>[]
 | x::r=>ins1 x (srt r)
theorem ins1_perm (x:Int):∀ l:List Int,(ins1 x l).Perm (x::l)
 | []=>.refl _
 | y::r=>by
  unfold ins1
  split
  ·exact .refl _
  ·exact ((ins1_perm x r).cons y).trans (.swap x y r)
theorem srt_perm:∀ l:List Int,(srt l).Perm l
 | []=>.refl _
 | x::r=>(ins1_perm x (srt r)).trans ((srt_perm r).cons x)
theorem ins1_sorted (x:Int):∀ {l:List Int},l.Pairwise (·≤·)→(ins1 x l).Pairwise (·≤·)
 | [],_=>List.pairwise_singleton _ _
 | y::r,h=>by
  obtain ⟨h1,h2⟩:=List.pairwise_cons.mp h
  unfold ins1
  split
  ·rename_i hx
   exact List.pairwise_cons.mpr ⟨fun z m=>(List.mem_cons.mp m).elim (fun e=>e ▸ hx) fun m=>Int.le_trans hx (h1 z m),h⟩
  ·rename_i hx
   refine List.pairwise_cons.mpr ⟨fun z m=>?_,ins1_sorted x h2⟩
   rcases List.mem_cons.mp ((ins1_perm x r).mem_iff.mp m) with e | m
   ·rw [e];omega
   ·exact h1 z m
theorem srt_sorted:∀ l:List Int,(srt l).Pairwise (·≤·)
 | []=>.nil
 | x::r=>ins1_sorted x (srt_sorted r)
theorem srt_unique {a b:List Int} (p:a.Perm b) (s:a.Pairwise (·≤·)):a=srt b:=by
 have q:a.Perm (srt b):=p.trans (srt_perm b).symm
 exact q.eq_of_pairwise (fun x y _ _ h1 h2=>Int.le_antisymm h1 h2) s (srt_sorted b)
theorem srt_len (l:List Int):(srt l).length=l.length:=(srt_perm l).length_eq
def intsD:List D→Option (List Int)
 | []=>some []
 | .int i::r=>(intsD r).map (i::·)
 | _=>none
def keysI {α:Type}:List (Key×α)→Option (List Int)
 | []=>some []
 | (.inl i,_)::r=>(keysI r).map (i::·)
 | _=>none
theorem intsD_of {K:PySem.W.Frag}{H:Hp}:∀ {ds:List D}{xs:List V}{fp:List Addr}{ns:List Int},Reps K H ds xs fp→intsD ds=some ns→xs=ns.map V.int
 | _,_,_,ns,.nil,e=>by cases e;rfl
 | _,_,_,ns,.cons (d:=d) h t,e=>by
  cases d with
  | int i=>
   unfold intsD at e
   cases q:intsD _ with
   | none=>rw [q] at e;cases e
   | some r=>
    rw [q] at e
    cases e
    cases h
    rw [intsD_of t q];rfl
  | _=>cases e
theorem keysI_of {α:Type}:∀ {es:List (Key×α)}{ks:List Int},keysI es=some ks→es.map (·.1)=ks.map Sum.inl
 | [],ks,e=>by cases e;rfl
 | (.inl i,_)::r,ks,e=>by
  unfold keysI at e
  cases q:keysI r with
  | none=>rw [q] at e;cases e
  | some l=>
   rw [q] at e
   cases e
   rw [List.map_cons,keysI_of q];rfl
 | (.inr _,_)::_,_,e=>by cases e
def oSorted:D→Option D
 | .lst ds=>match intsD ds with
  | some ns=>if ns.length < 64 then some (.lst ((srt ns).map D.int)) else none
  | none=>none
 | .dic es=>match keysI es with
  | some ns=>if ns.length < 64 then some (.lst ((srt ns).map D.int)) else none
  | none=>none
 | _=>none
theorem reps_ints {K:PySem.W.Frag}{H:Hp}:∀ ns:List Int,Reps K H (ns.map D.int) (ns.map V.int) []
 | []=>.nil
 | n::r=>Reps.cons (f1:=[]) (f2:=[]) (.int n) (reps_ints r)
theorem does_sorted {K:PySem.W.Frag}:Does1 K (rSorted K) oSorted:=by
 intro H x d1 f1 d Q r e k
 have fin:∀ (ns:List Int),(if ns.length < 64 then some (D.lst ((srt ns).map D.int)) else none)=some d→ns.length < 64∧∀ l (ks':List Int),H l=none→ks'.Perm ns→ks'.Pairwise (·≤·)→Q (.ref l) (upd H l (.lst (ks'.map V.int))):=fun ns e=>by
  by_cases h:ns.length < 64
  ·rw [if_pos h] at e
   cases e
   refine ⟨h,fun l ks' hl p s=>?_⟩
   have eq:=srt_unique p s
   subst eq
   have s2:Same H (upd H l (.lst ((srt ns).map V.int))):=fun b o e=>by rw [upd_ne (ne_of_none e hl)];exact e
   exact k _ _ [l] s2 (.lst upd_same (reps_ints _)) (List.nodup_cons.mpr ⟨(fun m=>by cases m),List.nodup_nil⟩) fun a m=>by cases List.mem_singleton.mp m;exact hl
  ·rw [if_neg h] at e;cases e
 cases d1 with
 | lst ds=>
  obtain ⟨a,xs,f,rfl,hq,rs,_⟩:=r.lst_of
  have e:(match intsD ds with | some ns=>if ns.length < 64 then some (D.lst ((srt ns).map D.int)) else none | none=>none)=some d:=e
  cases h:intsD ds with
  | none=>rw [h] at e;cases e
  | some ns=>
   rw [h] at e
   obtain ⟨h1,h2⟩:=fin ns e
   have ex:=intsD_of rs h
   subst ex
   exact ⟨a,ns,rfl,h1,.inr hq,h2⟩
 | dic es=>
  cases r with
  | @dic a kvs _ fp h hk rs=>
   have e:(match keysI es with | some ns=>if ns.length < 64 then some (D.lst ((srt ns).map D.int)) else none | none=>none)=some d:=e
   cases h':keysI es with
   | none=>rw [h'] at e;cases e
   | some ns=>
    rw [h'] at e
    obtain ⟨h1,h2⟩:=fin ns e
    exact ⟨a,ns,rfl,h1,.inl ⟨kvs,h,by rw [← hk];exact keysI_of h'⟩,h2⟩
 | _=>cases e
theorem boot_min':bootBuiltins "min"=some (.builtin "min"):=by decide +kernel
theorem boot_sorted':bootBuiltins "sorted"=some (.builtin "sorted"):=by decide +kernel
section
variable {X:Cx}{a b:Expr}{fa fb:EF}{pos:Pos}
theorem fp_sorted {p:Pos} (hc:X.calm=true) (hm:X.mg "sorted"=none) (ha:FP X a fa) (hg:Gl X "sorted":=by rfl) (hs:starEach [a] X.env=[(false,eval a X.env)]:=by rfl):FP X (.Call (.Name "sorted" p) [a] [] pos) (e1 oSorted fa):=
 fp_1 does_sorted ha fun ta pa=>pe_callB (call_sorted hc) hg hm boot_sorted' (pa_cons pa pa_nil hs) (he:=hs) (hpl:=rfl)
def oMin2:D→D→Option D:=iop fun i j=>if j < i then j else i
theorem fp_min2 {p:Pos} (hc:X.calm=true) (hm:X.mg "min"=none) (ha:FP X a fa) (hb:FP X b fb) (hg:Gl X "min":=by rfl) (hs:starEach [a,b] X.env=[(false,eval a X.env),(false,eval b X.env)]:=by rfl) (hs2:starEach [b] X.env=[(false,eval b X.env)]:=by rfl) (hpl:(backTo pos (starEach [b] X.env)).any (·.1)=false:=by rfl) :
  FP X (.Call (.Name "min" p) [a,b] [] pos) (e2 oMin2 fa fb):=by
 obtain ⟨ta,pa,sa⟩:=ha
 obtain ⟨tb,pb,sb⟩:=hb
 refine ⟨_,pe_callB (call_min2 hc) hg hm boot_min' (pa_cons pa (pa_cons pb pa_nil hs2) (by rw [hs,hs2])) (he:=by rw [hs,hs2]) (hpl:=hpl),fun H0 S z held ρ σ H Q d tg ok e k=>?_⟩
 obtain ⟨d1,t1,d2,t2,h1,h2,h3,rfl⟩:=e2_of e
 refine sa H0 S z held ρ σ H _ d1 t1 ok h1 fun H1 x f1 s1 r1 _=>?_
 refine sb H0 S z held ρ σ H1 _ d2 t2 (ok.same s1) h2 fun H2 y f2 s2 r2 _=>?_
 unfold oMin2 iop at h3
 split at h3
 ·cases h3
  exact ⟨_,_,by rw [r1.int_of.1,r2.int_of.1],k H2 _ [] (s1.trans s2) (.int _) .nil⟩
 ·cases h3
def oTuple:D→Option D
 | .lst ds=>if immAll ds=true then some (.tup ds) else none
 | .tup ds=>if immAll ds=true then some (.tup ds) else none
 | _=>none
theorem does_tuple:Does1 X.K (fun xs H Q=>∃ p ys,xs=[V.ref p]∧((SqL X.K H p ys∧∀ l,H l=none→Q (.ref l) (upd H l (.tup ys)))∨(SqT X.K H p ys∧Q (.ref p) H))) oTuple:=by
 intro H x d1 f1 d Q r e k
 cases d1 with
 | lst ds=>
  obtain ⟨a,xs,f,rfl,hq,rs,_⟩:=r.lst_of
  have e:(if immAll ds=true then some (D.tup ds) else none)=some d:=e
  by_cases hi:immAll ds=true
  ·rw [if_pos hi] at e
   cases e
   have hn:=rs.imm hi
   subst hn
   refine ⟨a,xs,rfl,.inl ⟨hq,fun l hl=>?_⟩⟩
   have s2:Same H (upd H l (.tup xs)):=fun b o e=>by rw [upd_ne (ne_of_none e hl)];exact e
   exact k _ _ [] s2 (.tup (SqT.of upd_same) (rs.same s2)) List.nodup_nil fun a m=>nomatch m
  ·rw [if_neg hi] at e;cases e
 | tup ds=>
  obtain ⟨a,xs,rfl,hq,rs⟩:=r.tup_of
  have e:(if immAll ds=true then some (D.tup ds) else none)=some d:=e
  by_cases hi:immAll ds=true
  ·rw [if_pos hi] at e
   cases e
   have hn:=rs.imm hi
   subst hn
   exact ⟨a,xs,rfl,.inr ⟨hq,k H _ [] (Same.refl H) (.tup hq rs) List.nodup_nil fun a m=>nomatch m⟩⟩
  ·rw [if_neg hi] at e;cases e
 | _=>cases e
theorem fp_tuple {p:Pos} (hm:X.mg "tuple"=none) (ha:FP X a fa) (hg:Gl X "tuple":=by rfl) (hs:starEach [a] X.env=[(false,eval a X.env)]:=by rfl):FP X (.Call (.Name "tuple" p) [a] [] pos) (e1 oTuple fa):=
 fp_1 does_tuple ha fun ta pa=>pe_callTy call_tuple_of hg hm (show bootBuiltins "tuple"=some (.type "tuple") by decide +kernel) (pa_cons pa pa_nil hs) (he:=hs) (hpl:=rfl)
end
mutual
def dep:D→Nat
 | .tup a=>deps a + 1
 | .lst a=>deps a + 1
 | _=>0
def deps:List D→Nat
 | []=>0
 | x::xs=>max (dep x) (deps xs)
end
section
variable {X:Cx}{pins:List (Addr×Obj)}{σ:St}{H:Hp}{s:Shared}
def scopeOk (N:List Str) (osc sc:Scope) (M:List Str) (js:List (Option Nat)):Bool:=
 (sc.kind == .function)&&sc.names.all (fun y=>y.2 != .cell)&&sc.names.all (fun y=>if y.2 == .local then sc.names.lookup y.1 == some .local else true)&&capOk N sc M js&&(frees sc).all (fun x=>osc.names.lookup x == some .cell||osc.names.lookup x == some .free)&&decide M.Nodup
theorem compScope_mk {X:Cx}{N:List Str}{osc sc:Scope}{M:List Str}{js:List (Option Nat)} (h1:X.N=N) (h2:X.env.scope=osc) (h3:X.env.kindOf=fun x=>osc.names.lookup x) (h:scopeOk N osc sc M js=true):CompScope X M js sc:=by
 unfold scopeOk at h
 obtain ⟨h,a6⟩:=(Bool.and_eq_true _ _).mp h
 obtain ⟨h,a5⟩:=(Bool.and_eq_true _ _).mp h
 obtain ⟨h,a4⟩:=(Bool.and_eq_true _ _).mp h
 obtain ⟨h,a3⟩:=(Bool.and_eq_true _ _).mp h
 obtain ⟨a1,a2⟩:=(Bool.and_eq_true _ _).mp h
 refine ⟨?_,fun y hy=>?_,fun y hy hl=>?_,?_,fun x hx=>?_,of_decide_eq_true a6⟩
 ·cases hk:sc.kind <;> rw [hk] at a1 <;> first | rfl | exact absurd a1 (by decide)
 ·have:=List.all_eq_true.mp a2 y hy
  intro z
  rw [z] at this
  exact absurd this (by decide)
 ·have:=List.all_eq_true.mp a3 y hy
  rw [hl] at this
  have this:(sc.names.lookup y.1 == some NameKind.local)=true:=this
  cases q:sc.names.lookup y.1 with
  | none=>rw [q] at this;exact absurd this (by decide)
  | some k=>rw [q] at this;cases k <;> first | rfl | exact absurd this (by decide)
 ·rw [h1];exact a4
 ·have:=List.all_eq_true.mp a5 x hx
  rw [h3]
  dsimp only
  cases q:osc.names.lookup x with
  | none=>rw [q] at this;exact absurd this (by decide)
  | some k=>rw [q] at this;cases k <;> first | exact .inl rfl | exact .inr rfl | exact absurd this (by decide)
end
end L2.Ev
namespace L2.Ev
open PySem PySem.Spec PyProof.Rows
theorem TagOk.back {z:Addr→Option Nat}{H H1:Hp}{t:Tag}{fp:List Addr} (g:TagOk z H1 t fp) (s:Same H H1):TagOk z H t fp:=by
 cases t with
 | sh o=>exact g
 | own=>exact ⟨g.1,fun a m=>s.free (g.2 a m)⟩
 | lk=>exact ⟨g.1,fun a m=>s.free (g.2 a m)⟩
section
variable {X:Cx}{a b:Expr}{fa fb:EF}{pos:Pos}
def eAnd (fa fb:EF):EF:=fun ρ=>match fa ρ with
 | some (.bl true,_)=>fb ρ
 | some (.bl false,_)=>some (.bl false,.own)
 | _=>none
def eOr (fa fb:EF):EF:=fun ρ=>match fa ρ with
 | some (.bl true,_)=>some (.bl true,.own)
 | some (.bl false,_)=>fb ρ
 | _=>none
def oNot:D→Option D
 | .bl b=>some (.bl (!b))
 | _=>none
theorem fp_one {op} (h:FP X a fa):FP X (.BoolOp op [a] pos) fa:=let ⟨t,p,q⟩:=h;⟨t,pe_one p,q⟩
theorem fp_and {rest:List Expr} (ha:FP X a fa) (hb:FP X (.BoolOp .And (b::rest) pos) fb):FP X (.BoolOp .And (a::b::rest) pos) (eAnd fa fb):=by
 obtain ⟨t,p,q⟩:=ha
 obtain ⟨t',p',q'⟩:=hb
 refine ⟨_,pe_and p p',fun H0 S z held ρ σ H Q d tg ok e k=>?_⟩
 unfold eAnd at e
 split at e
 ·rename_i tt h
  refine q H0 S z held ρ σ H _ _ tt ok h fun H1 v fp s1 r1 _=>?_
  cases r1
  refine ⟨true,rfl,?_⟩
  rw [if_pos rfl]
  exact q' H0 S z held ρ σ H1 _ d tg (ok.same s1) e fun H2 v fp s2 r2 g2=>k H2 v fp (s1.trans s2) r2 (g2.back s1)
 ·rename_i tt h
  cases e
  refine q H0 S z held ρ σ H _ _ tt ok h fun H1 v fp s1 r1 _=>?_
  cases r1
  refine ⟨false,rfl,?_⟩
  rw [if_neg Bool.false_ne_true]
  exact k H1 _ [] s1 (.bl _) .nil
 ·cases e
theorem fp_or {rest:List Expr} (ha:FP X a fa) (hb:FP X (.BoolOp .Or (b::rest) pos) fb):FP X (.BoolOp .Or (a::b::rest) pos) (eOr fa fb):=by
 obtain ⟨t,p,q⟩:=ha
 obtain ⟨t',p',q'⟩:=hb
 refine ⟨_,pe_or p p',fun H0 S z held ρ σ H Q d tg ok e k=>?_⟩
 unfold eOr at e
 split at e
 ·rename_i tt h
  cases e
  refine q H0 S z held ρ σ H _ _ tt ok h fun H1 v fp s1 r1 _=>?_
  cases r1
  refine ⟨true,rfl,?_⟩
  rw [if_pos rfl]
  exact k H1 _ [] s1 (.bl _) .nil
 ·rename_i tt h
  refine q H0 S z held ρ σ H _ _ tt ok h fun H1 v fp s1 r1 _=>?_
  cases r1
  refine ⟨false,rfl,?_⟩
  rw [if_neg Bool.false_ne_true]
  exact q' H0 S z held ρ σ H1 _ d tg (ok.same s1) e fun H2 v fp s2 r2 g2=>k H2 v fp (s1.trans s2) r2 (g2.back s1)
 ·cases e
theorem fp_not (ha:FP X a fa):FP X (.UnaryOp .Not a pos) (e1 oNot fa):=by
 obtain ⟨t,p,q⟩:=ha
 refine ⟨_,pe_not p,fun H0 S z held ρ σ H Q d tg ok e k=>?_⟩
 obtain ⟨d1,t1,h1,h2,rfl⟩:=e1_of e
 refine q H0 S z held ρ σ H _ d1 t1 ok h1 fun H1 v fp s1 r1 _=>?_
 cases r1 <;> cases h2
 exact ⟨_,rfl,k H1 _ [] s1 (.bl _) .nil⟩
def tyD:D→Option String
 | .int _=>some "int"
 | .bl _=>some "bool"
 | .str _=>some "str"
 | .non=>some "NoneType"
 | .lst _=>some "list"
 | .dic _=>some "dict"
 | _=>none
def oIsi (T:String) (d:D):Option D:=match tyD d with
 | some t=>some (.bl (t == T||(t == "bool"&&T == "int")))
 | none=>none
def isiOk (T:String):Prop:=∀ (K:PySem.W.Frag) (t:String),t∈["int","bool","str","NoneType","list","dict"]→PySem.W.kitOne K (.type t) (.type T)=some (t == T||(t == "bool"&&T == "int"))
theorem isi_int:isiOk "int":=by
 intro K t m
 simp only [List.mem_cons,List.not_mem_nil,or_false] at m
 rcases m with rfl | rfl | rfl | rfl | rfl | rfl <;> rfl
theorem isi_bool:isiOk "bool":=by
 intro K t m
 simp only [List.mem_cons,List.not_mem_nil,or_false] at m
 rcases m with rfl | rfl | rfl | rfl | rfl | rfl <;> rfl
theorem call_isi (T:String):CallR X (.builtin "isinstance") (fun xs H Q=>∃ x t b,xs=[x,V.ty T]∧TyOf X.K H x t∧PySem.W.kitOne X.K t (.type T)=some b∧Q (.bl b) H):=by
 intro pins s σ H xs us Q I r h
 obtain ⟨x,t,bb,rfl,ty,e,q⟩:=h
 obtain ⟨u,w',rfl,ru,rw'⟩:=vals2 r
 cases rw'
 exact isinst_ok I ru ty e fun tk=>⟨.bl bb,H,I.tok tk,rfl,q⟩
theorem Rep.ty {K:PySem.W.Frag}{H:Hp}{d:D}{v:V}{fp:List Addr}{t:String} (r:Rep K H d v fp) (e:tyD d=some t):TyOf K H v (.type t)∧t∈["int","bool","str","NoneType","list","dict"]:=by
 cases r with
 | non=>cases e;exact ⟨.non,by decide⟩
 | bl b=>cases e;exact ⟨.bl b,by decide⟩
 | int i=>cases e;exact ⟨.int i,by decide⟩
 | str x=>cases e;exact ⟨.str x,by decide⟩
 | lst h _=>cases e;exact ⟨.lst h,by decide⟩
 | dic h _ _=>cases e;exact ⟨.dK h,by decide⟩
 | tup _ _=>cases e
 | lsf _ _=>cases e
 | dit _ _ _=>cases e
 | ins _ _ _ _=>cases e
 | exc _ _ _=>cases e
theorem fp_isi {T:String}{x:Str}{p p2:Pos} (hT:isiOk T) (hm:X.mg "isinstance"=none) (hmT:X.mg x=none) (ha:FP X a fa) (hbT:bootBuiltins x=some (.type T):=by decide +kernel) (hg:Gl X "isinstance":=by rfl) (hgT:Gl X x:=by rfl) (hn:x≠"__name__":=by decide) (hdb:(x == ("__debug__":Str))=false:=by decide)
  (hs:starEach [a,.Name x p2] X.env=[(false,eval a X.env),(false,eval (.Name x p2) X.env)]:=by rfl) (hpl:(backTo pos (starEach [.Name x p2] X.env)).any (·.1)=false:=by rfl):FP X (.Call (.Name "isinstance" p) [a,.Name x p2] [] pos) (e1 (oIsi T) fa):=by
 obtain ⟨ta,pa,sa⟩:=ha
 have hs2:starEach [.Name x p2] X.env=[(false,eval (.Name x p2) X.env)]:=rfl
 refine ⟨_,pe_callB (call_isi T) hg hm (show bootBuiltins "isinstance"=some (.builtin "isinstance") by decide +kernel) (pa_cons pa (pa_cons (pe_bltn (v:=.ty T) hgT hmT hbT rfl hn hdb) pa_nil) (by rw [hs,hs2])) (he:=by rw [hs,hs2]) (hpl:=hpl),fun H0 S z held ρ σ H Q d tg ok e k=>?_⟩
 obtain ⟨d1,t1,h1,h2,rfl⟩:=e1_of e
 refine sa H0 S z held ρ σ H _ d1 t1 ok h1 fun H1 v fp s1 r1 _=>?_
 unfold oIsi at h2
 cases ht:tyD d1 with
 | none=>rw [ht] at h2;cases h2
 | some t=>
  rw [ht] at h2
  cases h2
  obtain ⟨ty,mem⟩:=r1.ty ht
  exact ⟨v,_,_,rfl,ty,hT X.K t mem,k H1 _ [] s1 (.bl _) .nil⟩
end
end L2.Ev
namespace L2.Ev
open PySem
section
variable {ρ:Rho}{fa fb fc:EF}{d d1 d2 d3:D}{t t1 t2 t3:Tag}{op3:D→D→D→Option D}{tf tg:TF}
def k3 (op:D→D→D→Option D):Option (D×Tag)→Option (D×Tag)→Option (D×Tag)→Option (D×Tag)
 | some (d1,_),some (d2,_),some (d3,_)=>(op d1 d2 d3).map fun d=>(d,.own)
 | _,_,_=>none
def andK (tg:TF) (ρ:Rho):Option Bool→Option Bool
 | some true=>tg ρ
 | some false=>some false
 | none=>none
def orK (tg:TF) (ρ:Rho):Option Bool→Option Bool
 | some true=>some true
 | some false=>tg ρ
 | none=>none
theorem s_tAnd:tAnd2 tf tg ρ=andK tg ρ (tf ρ):=by unfold tAnd2 andK;cases tf ρ with | none=>rfl | some b=>cases b <;> rfl
theorem s_tOr:tOr2 tf tg ρ=orK tg ρ (tf ρ):=by unfold tOr2 orK;cases tf ρ with | none=>rfl | some b=>cases b <;> rfl
theorem s_andKT:andK tg ρ (some true)=tg ρ:=rfl
theorem s_andKF:andK tg ρ (some false)=some false:=rfl
theorem s_orKT:orK tg ρ (some true)=some true:=rfl
theorem s_orKF:orK tg ρ (some false)=tg ρ:=rfl
def eAndK (fb:EF) (ρ:Rho):Option (D×Tag)→Option (D×Tag)
 | some (.bl true,_)=>fb ρ
 | some (.bl false,_)=>some (.bl false,.own)
 | _=>none
theorem s_eAnd:eAnd fa fb ρ=eAndK fb ρ (fa ρ):=by
 unfold eAnd eAndK
 cases fa ρ with
 | none=>rfl
 | some w=>obtain ⟨d,t⟩:=w;cases d <;> first | rfl | (rename_i b;cases b <;> rfl)
theorem s_eAndT:eAndK fb ρ (some (.bl true,t))=fb ρ:=rfl
theorem s_eAndF:eAndK fb ρ (some (.bl false,t))=some (.bl false,.own):=rfl
theorem s_oNot {b:Bool}:oNot (.bl b)=some (.bl (!b)):=rfl
theorem s_min2 {m n:Int}:oMin2 (.int m) (.int n)=some (.int (if n < m then n else m)):=rfl
end
section
variable {g:GF}{t:Tag}{f:SF}
theorem loop_nx (P:Nat→Rho→Prop):∀ {ds:List D}{ρ:Rho}{n:Nat},P n ρ→(∀ j ρ d,ds[j]? = some d→P (n + j) ρ→∃ ρ1 ρ2,g d t ρ=some ρ1∧(f ρ1=some (.nx ρ2)∨f ρ1=some (.ct ρ2))∧P (n + j + 1) ρ2) →
  ∃ ρ',loopF g t f ds ρ=some (.nx ρ')∧P (n + ds.length) ρ'
 | [],ρ,n,h,_=>⟨ρ,rfl,h⟩
 | d::ds,ρ,n,h,hs=>by
  obtain ⟨ρ1,ρ2,h1,h2,h3⟩:=hs 0 ρ d rfl h
  obtain ⟨ρ',h4,h5⟩:=loop_nx P (ds:=ds) (ρ:=ρ2) (n:=n + 1) h3 fun j ρ d hd hp=>by
   have:=hs (j + 1) ρ d hd (by rw [show n + (j + 1)=n + 1 + j by omega];exact hp)
   rw [show n + (j + 1) + 1=n + 1 + j + 1 by omega] at this
   exact this
  refine ⟨ρ',?_,by rw [List.length_cons,show n + (ds.length + 1)=n + 1 + ds.length by omega];exact h5⟩
  unfold loopF
  rw [h1]
  rcases h2 with h2 | h2 <;> (dsimp only;rw [h2];exact h4)
theorem for_nx {it:IF}{ds:List D}{ρ ρ':Rho} (hi:it ρ=some (ds,t)) (h:loopF g (itag t) f ds (lockS (ownsIn (ovr t) ρ) ρ)=some (.nx ρ')):sFor it g f ρ=some (.nx (unlockS (ownsIn (ovr t) ρ) ρ')):=by unfold sFor;rw [hi];dsimp only;rw [h]
theorem for_rt {it:IF}{ds:List D}{ρ:Rho}{r:D} (hi:it ρ=some (ds,t)) (h:loopF g (itag t) f ds (lockS (ownsIn (ovr t) ρ) ρ)=some (.rt r)):sFor it g f ρ=some (.rt r):=by unfold sFor;rw [hi];dsimp only;rw [h]
theorem for_nx0 {it:IF}{ds:List D}{ρ ρ':Rho} (hi:it ρ=some (ds,.own)) (h:loopF g (.sh []) f ds ρ=some (.nx ρ')):sFor it g f ρ=some (.nx ρ'):=for_nx hi h
theorem ir1 {e:EF}{ρ:Rho}{n:Int}{t:Tag} (h:e ρ=some (.int n,t)) (hs:small n=true):iR1 e ρ=some ((List.range n.toNat).map fun i:Nat=>D.int (0 + (i:Int)),.own):=by unfold iR1;rw [h];dsimp only;rw [if_pos hs]
theorem range_at {n j:Nat}{d:D} (h:((List.range n).map fun i:Nat=>D.int (0 + (i:Int)))[j]? = some d):d=.int j∧j < n:=by
 rw [List.getElem?_map] at h
 cases e:(List.range n)[j]? with
 | none=>rw [e] at h;cases h
 | some x=>
  rw [e] at h
  obtain ⟨hl,hx⟩:=List.getElem?_eq_some_iff.mp e
  rw [List.getElem_range] at hx
  rw [List.length_range] at hl
  subst hx
  refine ⟨?_,hl⟩
  have:=Option.some.inj h
  rw [← this]
  exact congrArg D.int (Int.zero_add _)
theorem iseqL {e:EF}{ρ:Rho}{ds:List D} (h:e ρ=some (.lst ds,t)):iSeqF e ρ=some (ds,t):=by unfold iSeqF;rw [h]
theorem comp_ok {js:List (Option Nat)}{it:IF}{tt:TF}{te:EF}{ρ:Rho}{ds:List D}{k:D→Option D} (hi:it ρ=some (ds,t)) (hl:ds.length < sizeLine) (h:∀ d∈ds,compE g tt te (iniR js ρ) d=some (k d)) :
  eComp js it g tt te ρ=some (.lst (ds.filterMap k),.own):=by unfold eComp;rw [hi];dsimp only;rw [if_pos hl,compF_ok h];rfl
theorem compE_no {tt:TF}{te:EF}{ρ ρ1:Rho}{d:D} (h1:g d (.sh []) ρ=some ρ1) (h2:tt ρ1=some false):compE g tt te ρ d=some none:=by unfold compE;rw [h1];dsimp only;rw [h2]
theorem compE_own {tt:TF}{te:EF}{ρ ρ1:Rho}{d e:D} (h1:g d (.sh []) ρ=some ρ1) (h2:tt ρ1=some true) (h3:te ρ1=some (e,.own)):compE g tt te ρ d=some (some e):=by unfold compE;rw [h1];dsimp only;rw [h2];dsimp only;rw [h3];rfl
theorem compE_imm {tt:TF}{te:EF}{ρ ρ1:Rho}{d e:D}{tg:Tag} (h1:g d (.sh []) ρ=some ρ1) (h2:tt ρ1=some true) (h3:te ρ1=some (e,tg)) (hi:imm e=true):compE g tt te ρ d=some (some e):=by
 unfold compE;rw [h1];dsimp only;rw [h2];dsimp only;rw [h3];dsimp only
 by_cases ho:isOwn tg=true
 ·rw [if_pos ho]
 ·rw [if_neg ho,if_pos hi]
end
theorem inl_iff {a k:Int}:((Sum.inl a:Key)=Sum.inl k)↔a=k:=⟨fun h=>Sum.inl.inj h,fun h=>by rw [h]⟩
open PySem PySem.Spec PyProof.Rows
mutual
def py:D→PyData
 | .bl b=>.bool b
 | .int i=>.int i
 | .str x=>.str x
 | .tup ds=>.tuple (pys ds)
 | .lst ds=>.list (pys ds)
 | .fls ds=>.list (pys ds)
 | _=>.none
def pys:List D→List PyData
 | []=>[]
 | d::ds=>py d::pys ds
end
mutual
def okPy:D→Bool
 | .non | .bl _ | .int _ | .str _=>true
 | .tup ds | .lst ds | .fls ds=>okPys ds
 | _=>false
def okPys:List D→Bool
 | []=>true
 | d::ds=>okPy d&&okPys ds
end
section
variable {X:Cx}{pins:List (Addr×Obj)}{σ:St}{H:Hp}{s:Shared}
mutual
theorem reads_of (I:Inv X pins σ H s):∀ {d:D}{v:V}{f:List Addr}{u:Value},Rep X.K H d v f→RelV v u→okPy d=true→∃ as,Reads s.heap u (py d) as
 | .non,_,_,_,r,q,_=>by cases r;cases q;exact ⟨_,by unfold py;exact .none⟩
 | .bl b,_,_,_,r,q,_=>by cases r;cases q;exact ⟨_,by unfold py;exact .bool b⟩
 | .int i,_,_,_,r,q,_=>by cases r;obtain ⟨t,rfl⟩:=q;exact ⟨_,by unfold py;exact .int i t⟩
 | .str x,_,_,_,r,q,_=>by cases r;obtain ⟨t,rfl⟩:=q;exact ⟨_,by unfold py;exact .str x t⟩
 | .tup ds,_,_,_,r,q,e=>by
  obtain ⟨a,xs,rfl,hq,rs⟩:=r.tup_of
  cases q
  obtain ⟨us,v1,⟨o,h1,h2,n,h3⟩,_⟩:=I.tuple hq
  obtain ⟨as,ra⟩:=readsAll_of I rs v1 (by unfold okPy at e;exact e)
  exact ⟨_,by unfold py;exact .tuple h1 h2 h3 (by simpa using ra)⟩
 | .lst ds,_,_,_,r,q,e=>by
  obtain ⟨a,xs,f,rfl,hq,rs,_⟩:=r.lst_of
  cases q
  obtain ⟨us,v1,⟨o,n,h1,h2,_,h3⟩,_⟩:=I.list hq
  obtain ⟨as,ra⟩:=readsAll_of I rs v1 (by unfold okPy at e;exact e)
  exact ⟨_,by unfold py;exact .list h1 h2 h3 (by simpa using ra)⟩
 | .fls ds,_,_,_,r,q,e=>by
  obtain ⟨a,xs,rfl,hq,rs⟩:=r.fls_of
  cases q
  obtain ⟨us,v1,⟨o,n,h1,h2,_,h3⟩,_⟩:=I.list hq
  obtain ⟨as,ra⟩:=readsAll_of I rs v1 (by unfold okPy at e;exact e)
  exact ⟨_,by unfold py;exact .list h1 h2 h3 (by simpa using ra)⟩
 | .dic _,_,_,_,_,_,e=>by unfold okPy at e;cases e
 | .dit _,_,_,_,_,_,e=>by unfold okPy at e;cases e
 | .ins _ _,_,_,_,_,_,e=>by unfold okPy at e;cases e
 | .exc _,_,_,_,_,_,e=>by unfold okPy at e;cases e
theorem readsAll_of (I:Inv X pins σ H s):∀ {ds:List D}{xs:List V}{f:List Addr}{us:List Value},Reps X.K H ds xs f→Vals xs us→okPys ds=true→∃ as,ReadsAll s.heap us (pys ds) as
 | [],_,_,_,r,q,_=>by cases r;cases q;exact ⟨_,by unfold pys;exact .nil⟩
 | d::ds,_,_,_,r,q,e=>by
  cases r with
  | cons r1 r2=>
   cases q with
   | cons q1 q2=>
    unfold okPys at e
    obtain ⟨e1,e2⟩:=(Bool.and_eq_true _ _).mp e
    obtain ⟨as,h1⟩:=reads_of I r1 q1 e1
    obtain ⟨bs,h2⟩:=readsAll_of I r2 q2 e2
    exact ⟨_,by unfold pys;exact .cons h1 h2⟩
end
end
mutual
theorem noDict:∀ d:D,(py d).hasDict=false
 | .non=>by unfold py;simp only [PyData.hasDict]
 | .bl _=>by unfold py;simp only [PyData.hasDict]
 | .int _=>by unfold py;simp only [PyData.hasDict]
 | .str _=>by unfold py;simp only [PyData.hasDict]
 | .tup ds=>by unfold py;simp only [PyData.hasDict];exact noDicts ds
 | .lst ds=>by unfold py;simp only [PyData.hasDict];exact noDicts ds
 | .fls ds=>by unfold py;simp only [PyData.hasDict];exact noDicts ds
 | .dic _=>by unfold py;simp only [PyData.hasDict]
 | .dit _=>by unfold py;simp only [PyData.hasDict]
 | .ins _ _=>by unfold py;simp only [PyData.hasDict]
 | .exc _=>by unfold py;simp only [PyData.hasDict]
theorem noDicts:∀ ds:List D,PyData.hasDictAll (pys ds)=false
 | []=>by unfold pys;simp only [PyData.hasDictAll]
 | d::ds=>by unfold pys;simp only [PyData.hasDictAll,noDict d,noDicts ds,Bool.or_self]
end
def shw (d:D):Bool:=okPy d&&(py d).showable&&decide ((py d).depth≤40)&&decide ((py d).shown.length≤sizeLine)
def oRepr (d:D):Option D:=if shw d=true then (if decide (dep d≠0)=true then some (.str (py d).shown) else none) else none
def rRepr (K:PySem.W.Frag):List V→Hp→VK→Prop:=fun xs H Q=>∃ a d f,xs=[V.ref a]∧Rep K H d (.ref a) f∧shw d=true∧Q (.str (py d).shown) H
section
variable {X:Cx}
theorem call_repr {k:Nat} (hr:Room k X.A):CallR X (.builtin "repr") (rRepr X.K):=by
 intro pins s σ H xs us Q I r h
 obtain ⟨a,d,f,rfl,rd,hs,q⟩:=h
 obtain ⟨u,rfl,ru⟩:=vals1 r
 unfold shw at hs
 obtain ⟨hs,h4⟩:=(Bool.and_eq_true _ _).mp hs
 obtain ⟨hs,h3⟩:=(Bool.and_eq_true _ _).mp hs
 obtain ⟨h1,h2⟩:=(Bool.and_eq_true _ _).mp hs
 obtain ⟨as,rr⟩:=reads_of I rd ru h1
 cases ru
 have hu:=hr.un
 have h3:=of_decide_eq_true h3
 exact repr_of_reads' rr h2 (PyData.noDict_hsm (noDict d)) hr.gd (by omega) (fun b o e=>e) (fun h' t tk hk=>⟨.str (py d).shown,H,I.kept hk,⟨t,rfl⟩,q⟩) (of_decide_eq_true h4)
theorem does_repr {K:PySem.W.Frag}:Does1 K (rRepr K) oRepr:=by
 intro H x d1 f1 d Q r e k
 unfold oRepr at e
 by_cases h1:shw d1=true
 ·rw [if_pos h1] at e
  by_cases h2:decide (dep d1≠0)=true
  ·rw [if_pos h2] at e
   cases e
   have hr:∃ p,x=.ref p:=by
    cases r <;> first | exact ⟨_,rfl⟩ | (exact absurd rfl (of_decide_eq_true h2))
   obtain ⟨p,rfl⟩:=hr
   exact ⟨p,d1,f1,rfl,r,h1,k H _ [] (Same.refl H) (.str _) List.nodup_nil fun a m=>nomatch m⟩
  ·rw [if_neg h2] at e;cases e
 ·rw [if_neg h1] at e;cases e
end
theorem s_repr {d:D} (h:shw d=true) (hd:dep d≠0):oRepr d=some (.str (py d).shown):=by unfold oRepr;rw [if_pos h,if_pos (decide_eq_true hd)]
def small12 (i:Int):Prop:=i.natAbs < 10 ^ 12
def dRow (r:List Int):D:=.tup (r.map D.int)
def dRows (rs:List (List Int)):List D:=rs.map dRow
theorem pys_ints:∀ r:List Int,pys (r.map D.int)=r.map PyData.int
 | []=>rfl
 | i::r=>by rw [List.map_cons,List.map_cons];unfold pys;rw [pys_ints r];unfold py;rfl
theorem okPys_ints:∀ r:List Int,okPys (r.map D.int)=true
 | []=>rfl
 | i::r=>by rw [List.map_cons];unfold okPys;rw [okPys_ints r];rfl
theorem log2_small {n:Nat} (h:n < 10 ^ 12):n.log2 < 1920:=by
 by_cases hz:n=0
 ·subst hz;decide
 ·rw [Nat.log2_lt hz]
  exact Nat.lt_of_lt_of_le h (Nat.le_trans (show 10 ^ 12≤2 ^ 40 by decide) (Nat.pow_le_pow_right (by decide) (by decide)))
theorem showAll_ints:∀ r:List Int,(∀ i∈r,small12 i)→PyData.showableAll (r.map PyData.int)=true
 | [],_=>rfl
 | i::r,h=>by
  rw [List.map_cons]
  simp only [PyData.showableAll,PyData.showable,Bool.and_eq_true,decide_eq_true_eq]
  exact ⟨log2_small (h i List.mem_cons_self),showAll_ints r fun j m=>h j (List.mem_cons_of_mem _ m)⟩
theorem weightAll_ints:∀ r:List Int,(∀ i∈r,small12 i)→PyData.weightAll (r.map PyData.int)≤50 * r.length
 | [],_=>by simp [PyData.weightAll]
 | i::r,h=>by
  rw [List.map_cons,List.length_cons]
  have h1:i.natAbs < 10 ^ 12:=h i List.mem_cons_self
  have h2:=weightAll_ints r fun j m=>h j (List.mem_cons_of_mem _ m)
  have h3:(PyData.int i).weight≤41:=by
   simp only [PyData.weight]
   split
   ·omega
   ·rename_i hz
    have hz':i.natAbs≠0:=by
     intro q
     apply hz
     rw [Int.natAbs_eq_zero.mp q];rfl
    have:i.natAbs.log2 < 40:=by
     rw [Nat.log2_lt hz']
     exact Nat.lt_of_lt_of_le h1 (by decide)
    omega
  simp only [PyData.weightAll]
  omega
theorem leavesAll_ints:∀ r:List Int,(∀ i∈r,small12 i)→PyData.leavesShortAll 13 (r.map PyData.int)=true
 | [],_=>rfl
 | i::r,h=>by
  rw [List.map_cons]
  simp only [PyData.leavesShortAll,PyData.leavesShort,Bool.and_eq_true,decide_eq_true_eq]
  exact ⟨PyData.shown_int_le (h i List.mem_cons_self),leavesAll_ints r fun j m=>h j (List.mem_cons_of_mem _ m)⟩
theorem depthAll_ints:∀ r:List Int,PyData.depthAll (r.map PyData.int)=0
 | []=>rfl
 | i::r=>by rw [List.map_cons];simp only [PyData.depthAll,PyData.depth,depthAll_ints r];rfl
def pRow (r:List Int):PyData:=.tuple (r.map PyData.int)
theorem py_row (r:List Int):py (dRow r)=pRow r:=by unfold dRow pRow;unfold py;rw [pys_ints]
theorem pys_rows:∀ rs:List (List Int),pys (dRows rs)=rs.map pRow
 | []=>rfl
 | r::rs=>by
  show pys (dRow r::dRows rs)=pRow r::rs.map pRow
  unfold pys
  rw [py_row,pys_rows rs]
theorem okPys_rows:∀ rs:List (List Int),okPys (dRows rs)=true
 | []=>rfl
 | r::rs=>by
  show okPys (dRow r::dRows rs)=true
  unfold okPys
  rw [okPys_rows rs,Bool.and_true]
  unfold dRow okPy
  exact okPys_ints r
theorem rows_facts:∀ rs:List (List Int),(∀ r∈rs,r.length≤3∧∀ i∈r,small12 i)→PyData.showableAll (rs.map pRow)=true∧PyData.depthAll (rs.map pRow)≤1∧PyData.leavesShortAll 13 (rs.map pRow)=true∧PyData.weightAll (rs.map pRow)≤151 * rs.length
 | [],_=>⟨rfl,by simp [PyData.depthAll],rfl,by simp [PyData.weightAll]⟩
 | r::rs,h=>by
  obtain ⟨h1,h2⟩:=h r List.mem_cons_self
  obtain ⟨i1,i2,i3,i4⟩:=rows_facts rs fun q m=>h q (List.mem_cons_of_mem _ m)
  have w:=weightAll_ints r h2
  rw [List.map_cons,List.length_cons]
  refine ⟨?_,?_,?_,?_⟩
  ·simp only [PyData.showableAll,i1,Bool.and_true,pRow,PyData.showable];exact showAll_ints r h2
  ·simp only [PyData.depthAll,pRow,PyData.depth,depthAll_ints r];omega
  ·simp only [PyData.leavesShortAll,i3,Bool.and_true,pRow,PyData.leavesShort];exact leavesAll_ints r h2
  ·simp only [PyData.weightAll,pRow,PyData.weight];omega
theorem shw_rows {rs:List (List Int)} (h:∀ r∈rs,r.length≤3∧∀ i∈r,small12 i) (hl:rs.length≤6000):shw (.lst (dRows rs))=true:=by
 obtain ⟨h1,h2,h3,h4⟩:=rows_facts rs h
 have e:py (.lst (dRows rs))=.list (rs.map pRow):=by unfold py;rw [pys_rows]
 unfold shw
 rw [e]
 have a1:okPy (.lst (dRows rs))=true:=by unfold okPy;exact okPys_rows rs
 have a2:(PyData.list (rs.map pRow)).showable=true:=by simp only [PyData.showable];exact h1
 have a3:(PyData.list (rs.map pRow)).depth≤40:=by simp only [PyData.depth];omega
 have a4:(PyData.list (rs.map pRow)).shown.length≤sizeLine:=by
  refine PyData.shown_fits (B:=13) (by decide) (by decide) ?_ ?_
  ·simp only [PyData.leavesShort];exact h3
  ·simp only [PyData.weight]
   have:151 * rs.length≤151 * 6000:=Nat.mul_le_mul_left _ hl
   have e:(2:Nat) ^ 20=1048576:=by decide
   omega
 rw [a1,a2,decide_eq_true a3,decide_eq_true a4]
 rfl
theorem dep_lst (ds:List D):dep (.lst ds)≠0:=by unfold dep;omega
def layOk (d:D):Bool:=okPy d&&(py d).canLay0&&decide ((py d).depth≤40)
def oEqP (d1 d2:D):Option D:=if (layOk d1&&layOk d2)=true then some (.bl (PyData.eqv (py d1) (py d2))) else none
def rEqP (K:PySem.W.Frag) (neg:Bool):R2:=fun x y H Q=>∃ d1 d2 f1 f2,Rep K H d1 x f1∧Rep K H d2 y f2∧layOk d1=true∧layOk d2=true∧Q (.bl (if neg=true then !PyData.eqv (py d1) (py d2) else PyData.eqv (py d1) (py d2))) H
section
variable {X:Cx}{a b:Expr}{fa fb:EF}{pos:Pos}
theorem lay_of {d:D} (h:layOk d=true):okPy d=true∧(py d).canLay0=true∧(py d).depth≤40:=by
 unfold layOk at h
 obtain ⟨h,h3⟩:=(Bool.and_eq_true _ _).mp h
 obtain ⟨h1,h2⟩:=(Bool.and_eq_true _ _).mp h
 exact ⟨h1,h2,of_decide_eq_true h3⟩
theorem op_neP (hu:X.A.units + 64 < cLine):OpR X (compareOp .NotEq) (rEqP X.K true):=by
 intro pins s σ H x y v u Q I rx ry h
 obtain ⟨d1,d2,f1,f2,r1,r2,l1,l2,q⟩:=h
 obtain ⟨a1,a2,a3⟩:=lay_of l1
 obtain ⟨b1,b2,b3⟩:=lay_of l2
 obtain ⟨as,ra⟩:=reads_of I r1 rx a1
 obtain ⟨bs,rb⟩:=reads_of I r2 ry b1
 exact SeqAt.compareNe_reads ra rb a2 b2 (by omega) ⟨.bl _,H,I,rfl,q⟩
theorem op_eqP (hu:X.A.units + 64 < cLine):OpR X (compareOp .Eq) (rEqP X.K false):=by
 intro pins s σ H x y v u Q I rx ry h
 obtain ⟨d1,d2,f1,f2,r1,r2,l1,l2,q⟩:=h
 obtain ⟨a1,a2,a3⟩:=lay_of l1
 obtain ⟨b1,b2,b3⟩:=lay_of l2
 obtain ⟨as,ra⟩:=reads_of I r1 rx a1
 obtain ⟨bs,rb⟩:=reads_of I r2 ry b1
 exact SeqAt.compareEq_reads ra rb a2 b2 (by omega) ⟨.bl _,H,I,rfl,q⟩
theorem does_eqP {K:PySem.W.Frag}:Does2 K (rEqP K false) oEqP:=by
 intro H x y d1 d2 f1 f2 d Q r1 r2 e k
 unfold oEqP at e
 by_cases hc:(layOk d1&&layOk d2)=true
 ·rw [if_pos hc] at e
  cases e
  obtain ⟨c1,c2⟩:=(Bool.and_eq_true _ _).mp hc
  exact ⟨d1,d2,f1,f2,r1,r2,c1,c2,k H _ (Same.refl H) (.bl _)⟩
 ·rw [if_neg hc] at e;cases e
theorem fp_eqP (hu:X.A.units + 64 < cLine) (ha:FP X a fa) (hb:FP X b fb):FP X (.Compare a [.Eq] [b] pos) (e2 oEqP fa fb):=fp_cmp (op_eqP hu) does_eqP ha hb (nomark _)
end
theorem s_eqPR {d:D} (h:layOk d=true):oEqP d d=some (.bl true):=by unfold oEqP;rw [h,Bool.and_self,if_pos rfl,SeqAt.eqv_refl _ (lay_of h).2.1]
theorem canAll_ints:∀ r:List Int,PyData.canLayAll0 (r.map PyData.int)=true
 | []=>rfl
 | i::r=>by rw [List.map_cons];simp only [PyData.canLayAll0,PyData.canLay0,canAll_ints r,Bool.and_self]
theorem canAll_rows:∀ rs:List (List Int),PyData.canLayAll0 (rs.map pRow)=true∧PyData.depthAll (rs.map pRow)≤1
 | []=>⟨rfl,by simp [PyData.depthAll]⟩
 | r::rs=>by
  obtain ⟨h1,h2⟩:=canAll_rows rs
  rw [List.map_cons]
  refine ⟨by simp only [PyData.canLayAll0,pRow,PyData.canLay0,h1,Bool.and_true];exact canAll_ints r,?_⟩
  simp only [PyData.depthAll,pRow,PyData.depth,depthAll_ints r];omega
theorem lay_rows (rs:List (List Int)):layOk (.lst (dRows rs))=true:=by
 obtain ⟨h1,h2⟩:=canAll_rows rs
 have e:py (.lst (dRows rs))=.list (rs.map pRow):=by unfold py;rw [pys_rows]
 unfold layOk
 rw [e]
 have a1:okPy (.lst (dRows rs))=true:=by unfold okPy;exact okPys_rows rs
 have a2:(PyData.list (rs.map pRow)).canLay0=true:=by simp only [PyData.canLay0];exact h1
 have a3:(PyData.list (rs.map pRow)).depth≤40:=by simp only [PyData.depth];omega
 rw [a1,a2,decide_eq_true a3]
 rfl
end L2.Ev
namespace L2.Ev
open PySem PySem.Spec PyProof.Rows
theorem isi_tuple:isiOk "tuple":=by
 intro K t m
 simp only [List.mem_cons,List.not_mem_nil,or_false] at m
 rcases m with rfl | rfl | rfl | rfl | rfl | rfl <;> rfl
section
variable {X:Cx}{a b c:Expr}{fa fb:EF}{tc:TF}{pos:Pos}
def oIn (neg:Bool):D→D→Option D
 | .int i,.lst ds=>(intsD ds).map fun ns=>.bl (if neg=true then !(ns.any (· == i)) else ns.any (· == i))
 | _,_=>none
def sApp (i:Nat) (fv:EF):SF:=fun ρ=>match fv ρ,ρ[i]? with
 | some (d,_),some (some (.lst ds,.own))=>if (imm d&&immAll ds&&decide (ds.length < sizeLine))=true then some (.nx (mutS ρ i (.lst (ds++[d])))) else none
 | _,_=>none
theorem fs_app (i:Nat) {x:Str}{fv:EF}{p1 p2 p3:Pos} (hv:FP X a fv) (hN:X.N[i]? = some x:=by rfl) (hvis:Vis X.env.scope x:=by first | exact Or.inl rfl | exact Or.inr (Or.inl rfl) | exact Or.inr (Or.inr rfl))
  (hd:(x == ("__debug__":Str))=false:=by decide) (hcd:(x == ("__classdict__":Str))=false:=by decide) (hs:starEach [a] X.env=[(false,eval a X.env)]:=by rfl)
  (hbase:attributeBase (.Name x p1) "append" X.env (eval (.Name x p1) X.env)=eval (.Name x p1) X.env:=by rfl)
  (hfew:((backTo p3 (starEach [a] X.env)).all (fun x=>!x.1)&&(backToKw p3 (keywordEach [] X.env)).all (fun x=>x.1.isSome)&&decide ([a].length + ([]:List Keyword).length + (if ([]:List Keyword).isEmpty then 0 else 1) < 30))=true:=by rfl)
  (hline:(p2.endLine == p3.line)=true:=by rfl) (hsw:swapsWith (.Call (.Attribute (.Name x p1) "append" p2) [a] [] p3) none pos.line X.env=pure false:=by rfl) :
  FS1 X (.Expr (.Call (.Attribute (.Name x p1) "append" p2) [a] [] p3) pos) (sApp i fv):=by
 obtain ⟨tv,pv',sv⟩:=hv
 refine ⟨_,ps_expr (pe_bm PySem.F.plainAttrs_list PySem.F.slot_list_append PySem.F.type_list_append mt_append (pe_var (i:=i) hN hvis hd hcd) (pa_cons pv' pa_nil hs) hbase hfew hline hs rfl) hsw,fun H0 S z held ρ σ H E o ok e q=>?_⟩
 unfold sApp at e
 split at e
 ·rename_i d td ds g1 g2
  by_cases hc:(imm d&&immAll ds&&decide (ds.length < sizeLine))=true
  ·rw [if_pos hc] at e
   cases e
   obtain ⟨c1,c3⟩:=(Bool.and_eq_true _ _).mp hc
   obtain ⟨c1,c2⟩:=(Bool.and_eq_true _ _).mp c1
   obtain ⟨xv,fp,hs',r,zz⟩:=ok.sl i _ _ g2
   refine ⟨xv,hs',?_⟩
   obtain ⟨l,xs,f,rfl,hq,_,_⟩:=r.lst_of
   refine ⟨.inl ⟨rfl,_,hq⟩,?_⟩
   refine sv H0 S z held ρ σ H _ d td ok g1 fun H1 v fv' s1 rv _=>?_
   have r':=r.same s1
   have ok1:=ok.same s1
   generalize hw:(V.ref l)=w at r' hs'
   cases r' with
   | @lst a' ys _ f' h rs=>
    cases hw
    have hn:=rs.imm c2
    subst hn
    have hnv:=rv.imm c1
    subst hnv
    refine ⟨_,ys,v,rfl,rfl,h,by rw [← rs.length];exact of_decide_eq_true c3,?_⟩
    have im:Imm H1 (upd H1 l (.lst (ys++[v]))):=Imm.upd h rfl
    refine q z σ _ (Ok.mutate ok1 g2 hs' zz List.mem_cons_self h rfl (.lst upd_same ?_)) (.refl _ _)
    exact Reps.append (f:=[]) (g:=[]) (rs.frame (fun a m=>nomatch m) im) (Reps.cons (f1:=[]) (f2:=[]) (rv.frame (fun a m=>nomatch m) im) .nil)
  ·rw [if_neg hc] at e;cases e
 ·cases e
def sClr (i:Nat):SF:=fun ρ=>match ρ[i]? with
 | some (some (.lst ds,.own))=>if immAll ds=true then some (.nx (mutS ρ i (.lst []))) else none
 | _=>none
theorem fs_clr (i:Nat) {x:Str}{p1 p2 p3:Pos} (hN:X.N[i]? = some x:=by rfl) (hvis:Vis X.env.scope x:=by first | exact Or.inl rfl | exact Or.inr (Or.inl rfl) | exact Or.inr (Or.inr rfl))
  (hd:(x == ("__debug__":Str))=false:=by decide) (hcd:(x == ("__classdict__":Str))=false:=by decide)
  (hbase:attributeBase (.Name x p1) "clear" X.env (eval (.Name x p1) X.env)=eval (.Name x p1) X.env:=by rfl)
  (hline:(p2.endLine == p3.line)=true:=by rfl) (hsw:swapsWith (.Call (.Attribute (.Name x p1) "clear" p2) [] [] p3) none pos.line X.env=pure false:=by rfl) :
  FS1 X (.Expr (.Call (.Attribute (.Name x p1) "clear" p2) [] [] p3) pos) (sClr i):=by
 refine ⟨_,ps_expr (pe_bm0 PySem.F.plainAttrs_list PySem.F.slot_list_clear PySem.F.type_list_clear mt_clear (pe_var (i:=i) hN hvis hd hcd) hbase hline) hsw,fun H0 S z held ρ σ H E o ok e q=>?_⟩
 unfold sClr at e
 split at e
 ·rename_i ds g2
  by_cases hc:immAll ds=true
  ·rw [if_pos hc] at e
   cases e
   obtain ⟨xv,fp,hs',r,zz⟩:=ok.sl i _ _ g2
   refine ⟨xv,hs',?_⟩
   cases r with
   | @lst l ys _ f' h rs=>
    have hn:=rs.imm hc
    subst hn
    refine ⟨.inl ⟨rfl,_,SqL.of h⟩,l,ys,rfl,rfl,h,?_⟩
    exact q z σ _ (Ok.mutate ok g2 hs' zz List.mem_cons_self h rfl (.lst upd_same .nil)) (.refl _ _)
  ·rw [if_neg hc] at e;cases e
 ·cases e
def cutD (ds:List D) (lo hi:Option Int):List D:=(ds.drop (HT.sIx ds.length 0 lo)).take (HT.sIx ds.length ds.length hi - HT.sIx ds.length 0 lo)
theorem Reps.drop0 {K:PySem.W.Frag}{H:Hp}:∀ {ds:List D}{xs:List V} (n:Nat),Reps K H ds xs []→Reps K H (ds.drop n) (xs.drop n) []
 | ds,xs,0,r=>r
 | [],_,n + 1,r=>by cases r;exact .nil
 | d::ds,xs,n + 1,r=>by
  generalize hf:([]:List Addr)=fp at r
  cases r with
  | @cons _ _ _ _ f1 f2 r1 r2=>
   obtain ⟨z1,z2⟩:=List.append_eq_nil_iff.mp hf.symm
   subst z1 z2
   exact Reps.drop0 n r2
theorem Reps.take0 {K:PySem.W.Frag}{H:Hp}:∀ {ds:List D}{xs:List V} (n:Nat),Reps K H ds xs []→Reps K H (ds.take n) (xs.take n) []
 | ds,xs,0,r=>.nil
 | [],_,n + 1,r=>by cases r;exact .nil
 | d::ds,xs,n + 1,r=>by
  generalize hf:([]:List Addr)=fp at r
  cases r with
  | @cons _ _ _ _ f1 f2 r1 r2=>
   obtain ⟨z1,z2⟩:=List.append_eq_nil_iff.mp hf.symm
   subst z1 z2
   exact Reps.cons (f1:=[]) (f2:=[]) r1 (Reps.take0 n r2)
def PCut (X:Cx) (e:Option Expr) (v:Option Int):Prop:=∃ t,PO X e t∧∀ σ H Q,Q v H→t σ H Q
theorem pc_none:PCut X none none:=⟨_,po_none,fun _ _ _ q=>q⟩
theorem pc_int {i:Int} {j p}:PCut X (some (.Constant (.int i) j p)) (some i):=⟨_,po_some pe_int,fun _ _ _ q=>⟨i,rfl,q⟩⟩
end
end L2.Ev
namespace L2
open PySem PySem.Spec PyProof.Rows
section
variable {X:Cx}{a:Expr}{ta:TE}{p1 p2 p3 pos:Pos}
theorem Inv.turnNew {pins:List (Addr×Obj)}{σ:St}{H:Hp}{s:Shared}{h':Heap}{ch:List Addr}{T:Addr}{o:HO}{t':Nat} (I:Inv X pins σ H s) (hf:∀ b∈ch,FpOk X pins H b) (k:∀ b o,b∉ch→s.heap.get? b=some o→h'.get? b=some o)
  (hT:s.heap.objs.size≤T) (new:ObjOk X.prog X.w (upd H T o) h' T o):Inv X pins σ (upd H T o) { s with heap:=h',toks:=t' }:=by
 have nT:H T=none:=I.hok.fresh hT
 have nch:∀ b u,H b=some u→b∉ch:=fun b u e m=>by rw [(hf b m).1] at e;cases e
 refine I.step (g':=s.gens) (d':=s.drawn) (ch:=ch) (fun b m=>⟨(hf b m).2.2.2.1,(hf b m).2.1,(hf b m).2.2.2.2.1,(hf b m).2.2.2.2.2⟩) (fun b o _ _ m e _=>k b o m e) (fun b o _ _ m e _=>⟨o.slots,k b o m e⟩)
  (fun b o _ e n=>by rw [upd_ne (Nat.ne_of_lt (Nat.lt_of_lt_of_le (Heap.lt_size e) hT))];exact n) (fun b o m e=>⟨o,k b o m e⟩) (fun b xs e=>by rw [upd_ne (ne_of_none e nT)];exact e) (fun b o u e=>by rw [upd_ne (ne_of_none e nT)];exact e)
  (fun b ps e=>⟨#[],by rw [upd_ne (ne_of_none e nT),e];simp⟩) (fun m hm=>?_) (fun b u e=>?_) I.bare
 ·obtain ⟨o,es,ep,ho,r⟩:=hm
  exact ⟨o,es,ep,k _ o (fun m=>(hf _ m).2.1 rfl) ho,r⟩
 ·by_cases hb:b=T
  ·subst hb;rw [upd_same] at e;cases e;exact new
  ·rw [upd_ne hb] at e
   refine (I.hok b u e).stay (fun c v hc q=>k c v ?_ q) (fun c q=>by rw [upd_ne (ne_of_none q nT)];exact q) fun c xs q=>by rw [upd_ne (ne_of_none q nT)];exact q
   rcases hc with z | z
   ·rw [z];exact nch b u e
   ·exact nch c _ z
theorem Inv.turnL {pins:List (Addr×Obj)}{σ:St}{H:Hp}{s:Shared}{h':Heap}{ch:List Addr}{t':Nat} (I:Inv X pins σ H s) (hf:∀ b∈ch,FpOk X pins H b) (k:∀ b o,b∉ch→s.heap.get? b=some o→h'.get? b=some o):Inv X pins σ H { s with heap:=h',toks:=t' }:=by
 have nch:∀ b u,H b=some u→b∉ch:=fun b u e m=>by rw [(hf b m).1] at e;cases e
 refine I.step (g':=s.gens) (d':=s.drawn) (ch:=ch) (fun b m=>⟨(hf b m).2.2.2.1,(hf b m).2.1,(hf b m).2.2.2.2.1,(hf b m).2.2.2.2.2⟩) (fun b o _ _ m e _=>k b o m e) (fun b o _ _ m e _=>⟨o.slots,k b o m e⟩)
  (fun b o _ e n=>n) (fun b o m e=>⟨o,k b o m e⟩) (fun b xs e=>e) (fun b o u e=>e) (fun b ps e=>⟨#[],by rw [e];simp⟩) (fun m hm=>?_) (fun b u e=>?_) I.bare
 ·obtain ⟨o,es,ep,ho,r⟩:=hm
  exact ⟨o,es,ep,k _ o (fun m=>(hf _ m).2.1 rfl) ho,r⟩
 ·refine (I.hok b u e).stay (fun c v hc q=>k c v ?_ q) (fun c q=>q) fun c xs q=>q
  rcases hc with z | z
  ·rw [z];exact nch b u e
  ·exact nch c _ z
end
def Itz (K:PySem.W.Frag) (l1 l2:Addr):It:=
  ⟨fun i H=>∃ xs ys x y,SqL K H l1 xs∧SqL K H l2 ys∧xs[i]? = some x∧ys[i]? = some y,
   fun i H v H'=>∃ T a b,H T=none∧v=.ref T∧H'=upd H T (.tup [a,b])∧(∀ xs,SqL K H l1 xs→xs[i]? = some a)∧∀ ys,SqL K H l2 ys→ys[i]? = some b,
   fun i H=>∃ xs ys,SqL K H l1 xs∧SqL K H l2 ys∧(xs.length≤i∨ys.length≤i),false⟩
def ZipSt (z TI TO i1 i2 l1 l2:Addr) (i:Nat) (h:Heap):Prop:=IsZip h z TI TO .none∧IsPair h TI (.ref i1) (.ref i2)∧(∃ a b,IsPair h TO a b)∧h.IsListIter i1 l1 i∧h.IsListIter i2 l2 i
theorem turn_zip {P:Program}{w:World}{K:PySem.W.Frag}{elts:List Expr} {x1}{pos:Pos}{z TI TO i1 i2 l1 l2:Addr} (D:ZipApart z TI TO i1 i2 l1 l2) :
  Turn P w K (.Tuple elts x1 pos) (Itz K l1 l2) [z,TI,TO,i1,i2] z (ZipSt z TI TO i1 i2 l1 l2) where
 mem:=by simp
 obj:=fun i h st b hb=>by
  obtain ⟨s1,s2,⟨a,b',s3⟩,⟨o4,e4,c4,d4⟩,⟨o5,e5,c5,d5⟩⟩:=st
  simp only [List.mem_cons,List.not_mem_nil,or_false] at hb
  rcases hb with rfl | rfl | rfl | rfl | rfl
  ·exact ⟨_,s1,fun v q=>by cases q⟩
  ·exact ⟨_,s2,fun v q=>by cases q⟩
  ·exact ⟨_,s3,fun v q=>by cases q⟩
  ·exact ⟨o4,e4,fun v q=>by rw [d4] at q;cases q⟩
  ·exact ⟨o5,e5,fun v q=>by rw [d5] at q;cases q⟩
 keep:=fun i h h' st k=>by
  obtain ⟨s1,s2,⟨a,b',s3⟩,s4,s5⟩:=st
  exact ⟨k _ (by simp) _ s1,k _ (by simp) _ s2,⟨a,b',k _ (by simp) _ s3⟩,s4.at fun o e=>k _ (by simp) o e,s5.at fun o e=>k _ (by simp) o e⟩
 item:=by
  intro X hP hw hK hc i pins s σ H E I hf st hg
  subst hP hw hK
  obtain ⟨s1,s2,⟨a,b',s3⟩,s4,s5⟩:=st
  obtain ⟨xs,ys,x,y,q1,q2,e1,e2⟩:=hg
  obtain ⟨us,v1,p1,z1⟩:=I.list q1
  obtain ⟨ws,v2,p2,z2⟩:=I.list q2
  obtain ⟨u,hu,ru⟩:=v1.get e1
  obtain ⟨t,ht,rt⟩:=v2.get e2
  refine wpAny_pyNext_zip_item D s1 s2 s3 s4 s5 p1.isList p2.isList (x:=u) (y:=t) (by simpa using hu) (by simpa using ht) fun h' a1 a2 a3 a4 a5 a6 a7=>⟨_,rfl,?_⟩
  refine wpAny_letOwnedTupleGo_zip a1 fun h'' b1 b2=>?_
  have lz:z < s.heap.objs.size:=Heap.lt_size s1
  have nz:s.heap.objs.size≠z:=Nat.ne_of_gt lz
  have T2:IsPair h'' s.heap.objs.size u t:=b2.extBut _ _ nz a5
  have nT:H s.heap.objs.size=none:=I.hok.fresh (Nat.le_refl _)
  have I1:Inv X pins σ (upd H s.heap.objs.size (.tup [x,y])) { s with heap:=h'' }:=I.turnNew (t':=s.toks) (ch:=[z,TO,i1,i2]) (fun b m=>hf b (by
    simp only [List.mem_cons,List.not_mem_nil,or_false] at m ⊢
    rcases m with rfl | rfl | rfl | rfl <;> simp)) (fun b o m e=>by
    simp only [List.mem_cons,List.not_mem_nil,or_false,not_or] at m
    exact b2.extBut _ _ m.1 (a7 b o m.1 m.2.1 m.2.2.1 m.2.2.2 e)) (Nat.le_refl _) (show ObjOk X.prog X.w _ h'' _ (.tup [x,y]) from ⟨show 2≤sizeLine by unfold sizeLine;omega,[u,t],.cons ru (.cons rt .nil),⟨_,T2,rfl,rfl,_,rfl⟩⟩)
  refine ⟨.ref s.heap.objs.size,_,I1,rfl,⟨_,x,y,nT,rfl,rfl,fun xs' h=>by rw [I.list_inj h q1];exact e1,fun ys' h=>by rw [I.list_inj h q2];exact e2⟩,?_,fun b m=>?_⟩
  ·have up:∀ c o,c≠z→h'.get? c=some o→h''.get? c=some o:=fun c o n e=>b2.extBut _ _ n e
   exact ⟨b1,up _ _ D.TIz (a7 TI _ D.TIz D.TITO D.TIi1 D.TIi2 s2),⟨u,t,up _ _ D.TOz a2⟩,a3.at fun o e=>up _ o D.i1z e,a4.at fun o e=>up _ o D.i2z e⟩
  ·rw [upd_ne]
   ·exact (hf b m).1
   ·rintro rfl
    obtain ⟨o4,e4,_⟩:=id s4
    obtain ⟨o5,e5,_⟩:=id s5
    simp only [List.mem_cons,List.not_mem_nil,or_false] at m
    rcases m with m | m | m | m | m
    ·exact nz m
    ·exact absurd (Heap.lt_size s2) (by rw [← m];exact Nat.lt_irrefl _)
    ·exact absurd (Heap.lt_size s3) (by rw [← m];exact Nat.lt_irrefl _)
    ·exact absurd (Heap.lt_size e4) (by rw [← m];exact Nat.lt_irrefl _)
    ·exact absurd (Heap.lt_size e5) (by rw [← m];exact Nat.lt_irrefl _)
 done:=by
  intro X hP hw hK hc i pins s σ H E I hf st hg
  subst hP hw hK
  obtain ⟨s1,s2,⟨a,b',s3⟩,s4,s5⟩:=st
  obtain ⟨xs,ys,q1,q2,e⟩:=hg
  obtain ⟨us,v1,p1,z1⟩:=I.list q1
  obtain ⟨ws,v2,p2,z2⟩:=I.list q2
  have l1:=v1.length
  have l2:=v2.length
  refine wpAny_pyNext_zip_end (I.ok.hd (hc.resolve_right fun z=>Bool.false_ne_true z)) D s1 s2 s3 s4 s5 p1.isList p2.isList (e.imp (fun e=>by simp;omega) fun e=>by simp;omega) fun h' k=>⟨rfl,I.turnL (t':=s.toks) (ch:=[z,TO,i1,i2]) (fun b m=>hf b (by
    simp only [List.mem_cons,List.not_mem_nil,or_false] at m ⊢
    rcases m with rfl | rfl | rfl | rfl <;> simp)) fun b o m e=>?_⟩
  simp only [List.mem_cons,List.not_mem_nil,or_false,not_or] at m
  exact k b o m.1 m.2.1 m.2.2.1 m.2.2.2 e
 self:=fun _ _ _ _ _ st h=>wpAny_pyIter_zip st.1 h
end L2
namespace L2.Ev
open PySem PySem.Spec PyProof.Rows
section
variable {X:Cx}{elts:List Expr}{tp:Pos}{a b:Expr}{fa fb:EF}{p pos:Pos}
theorem Reps.get0 {K:PySem.W.Frag}{H:Hp}{ds:List D}{vs:List V}{i:Nat}{d:D} (r:Reps K H ds vs []) (e:ds[i]? = some d):∃ v,vs[i]? = some v∧Rep K H d v []:=by
 obtain ⟨v,f,e1,r1,s⟩:=r.get e
 have:f=[]:=List.eq_nil_iff_forall_not_mem.mpr fun a m=>by have:=s a m;cases this
 subst this
 exact ⟨v,e1,r1⟩
theorem itOk_zip {K:PySem.W.Frag}{l1 l2:Addr}{ds es:List D}{f1 f2:List Addr} (c1:immAll ds=true) (c2:immAll es=true) :
  ItOk K (Itz K l1 l2) ((ds.zip es).map fun p=>.tup [p.1,p.2]) [⟨.lst ds,.ref l1,f1⟩,⟨.lst es,.ref l2,f2⟩]:=by
 intro H i hh
 obtain ⟨p1,xs,g1,e1,q1,r1,_⟩:=(hh _ List.mem_cons_self).lst_of
 obtain ⟨p2,ys,g2,e2,q2,r2,_⟩:=(hh _ (List.mem_cons_of_mem _ List.mem_cons_self)).lst_of
 cases e1
 cases e2
 have n1:=r1.imm c1
 have n2:=r2.imm c2
 subst n1 n2
 refine ⟨fun d hd=>?_,fun hl=>?_⟩
 ·rw [List.getElem?_map] at hd
  cases hz:(ds.zip es)[i]? with
  | none=>rw [hz] at hd;cases hd
  | some pr=>
   rw [hz] at hd
   cases hd
   obtain ⟨k1,k2⟩:=List.getElem?_zip_eq_some.mp hz
   obtain ⟨x,hx,rx⟩:=r1.get0 k1
   obtain ⟨y,hy,ry⟩:=r2.get0 k2
   refine ⟨⟨xs,ys,x,y,q1,q2,hx,hy⟩,fun v H1 hv=>?_⟩
   obtain ⟨T,a,b,hT,rfl,rfl,ha,hb⟩:=hv
   have ea:=ha xs q1
   have eb:=hb ys q2
   rw [hx] at ea
   rw [hy] at eb
   cases ea
   cases eb
   have s2:Same H (upd H T (.tup [x,y])):=fun b o e=>by rw [upd_ne (ne_of_none e hT)];exact e
   exact ⟨s2,[],.tup (SqT.of upd_same) (Reps.cons (f1:=[]) (f2:=[]) (rx.same s2) (Reps.cons (f1:=[]) (f2:=[]) (ry.same s2) .nil)),fun a m=>nomatch m⟩
 ·rw [List.length_map,List.length_zip,r1.length,r2.length] at hl
  exact ⟨xs,ys,q1,q2,by omega⟩
end
end L2.Ev
namespace L2
open PySem PySem.Spec PyProof.Rows
section
variable {X:Cx}
theorem vals_bl:∀ {bs:List Bool}{us:List Value},Vals (bs.map V.bl) us→us=bs.map Value.bool
 | [],_,r=>by rw [List.map_nil] at r;cases r;rfl
 | b::bs,_,r=>by
  rw [List.map_cons] at r
  cases r with
  | cons r1 r2=>cases r1;rw [vals_bl r2];rfl
theorem range_all (bs:List Bool):(List.range bs.length).all (fun j=>bs.getD j true)=bs.all id:=by
 induction bs with
 | nil=>rfl
 | cons b r ih=>
  rw [List.length_cons,List.range_succ_eq_map,List.all_cons,List.all_map,List.all_cons,← ih]
  rfl
theorem call_allL (hc:X.calm=true):CallR X (.builtin "all") (fun xs H Q=>∃ (p:Addr) (bs:List Bool),xs=[V.ref p]∧SqL X.K H p (bs.map V.bl)∧Q (.bl (bs.all id)) H):=by
 intro pins s σ H xs us Q I r h
 obtain ⟨p,bs,rfl,hq,q⟩:=h
 obtain ⟨u,rfl,ru⟩:=vals1 r
 cases ru
 obtain ⟨its,v1,pl,hz⟩:=I.list hq
 have ei:=vals_bl v1
 subst ei
 have lp:p < s.heap.objs.size:=let ⟨o,n,e,_⟩:=pl;Heap.lt_size e
 have hh:X.A.in1.handled=none:=I.ok.hd hc
 refine call_all_walk (wpAny_pyIter_list pl.isList ?_)
 refine ⟨s.heap.objs.size,_,_,_,_,_,fun j=>bs.getD j true,rfl,Walks.list hh s.heap.objs.size p (Nat.ne_of_lt lp) (bs.map Value.bool).toArray,⟨⟨_,Heap.get?_push_size _ rfl,rfl,rfl⟩,pl.isList.at fun o e=>Heap.get?_push_of_some _ e⟩,?_,fun h' tk hk=>?_⟩
 ·intro i v s' Q' E' hv hQ
  rw [List.getElem?_toArray,List.getElem?_map] at hv
  cases e:bs[i]? with
  | none=>rw [e] at hv;cases hv
  | some b=>
   rw [e] at hv
   cases hv
   dsimp only at hQ
   rw [List.getD_eq_getElem?_getD,e] at hQ
   exact wpAny_truthy_bool hQ
 ·have f:=I.fpOk (H':=H) (Nat.le_refl s.heap.objs.size) (I.hok.fresh (Nat.le_refl _))
  have I1:Inv X pins σ H { s with heap:=s.heap.push { cls:=.type "list_iterator",data:=.fields #[.ref p,.int 0 0] } }:=I.kept (t':=s.toks) fun b o e=>Heap.get?_push_of_some _ e
  rw [List.size_toArray,List.length_map,range_all]
  exact ⟨.bl _,H,I1.turnL (t':=tk) (ch:=[s.heap.objs.size]) (fun b m=>by rw [List.mem_singleton.mp m];exact f) fun b o m e=>hk b o m e,rfl,q⟩
end
end L2
namespace L2.Ev
open PySem PySem.Spec PyProof.Rows
section
variable {X:Cx}{a b c:Expr}{fa fb:EF}{p pos:Pos}
def boolsD:List D→Option (List Bool)
 | []=>some []
 | .bl b::r=>(boolsD r).map (b::·)
 | _=>none
theorem boolsD_of {K:PySem.W.Frag}{H:Hp}:∀ {ds:List D}{xs:List V}{fp:List Addr}{bs:List Bool},Reps K H ds xs fp→boolsD ds=some bs→xs=bs.map V.bl
 | [],_,_,bs,r,e=>by cases r;cases e;rfl
 | d::ds,_,_,bs,r,e=>by
  cases r with
  | cons h t=>
   cases d <;> try (cases e;done)
   cases h
   unfold boolsD at e
   cases q:boolsD ds with
   | none=>rw [q] at e;cases e
   | some r=>
    rw [q] at e
    cases e
    rw [boolsD_of t q];rfl
def oAll:D→Option D
 | .lst ds=>(boolsD ds).map fun bs=>.bl (bs.all id)
 | _=>none
theorem does_all {K:PySem.W.Frag}:Does1 K (fun xs H Q=>∃ (p:Addr) (bs:List Bool),xs=[V.ref p]∧SqL K H p (bs.map V.bl)∧Q (.bl (bs.all id)) H) oAll:=by
 intro H x d1 f1 d Q r e k
 cases d1 with
 | lst ds=>
  obtain ⟨p,xs,f,rfl,hq,rs,_⟩:=r.lst_of
  have e:(boolsD ds).map (fun bs=>D.bl (bs.all id))=some d:=e
  cases h:boolsD ds with
  | none=>rw [h] at e;cases e
  | some bs=>
   rw [h] at e
   cases e
   have ex:=boolsD_of rs h
   subst ex
   exact ⟨p,bs,rfl,hq,k H _ [] (Same.refl H) (.bl _) List.nodup_nil fun a m=>nomatch m⟩
 | _=>cases e
theorem fp_all (hc:X.calm=true) (hm:X.mg "all"=none) (ha:FP X a fa) (hg:Gl X "all":=by rfl) (hs:starEach [a] X.env=[(false,eval a X.env)]:=by rfl):FP X (.Call (.Name "all" p) [a] [] pos) (e1 oAll fa):=
 fp_1 does_all ha fun ta pa=>pe_callB (call_allL hc) hg hm boot_all (pa_cons pa pa_nil hs) (he:=hs) (hpl:=rfl)
end
abbrev XF:=Rho→Option (D×Rho)
section
variable {X:Cx}{a b:Expr}{fa fb:EF}{pos:Pos}
theorem fp_lt (ha:FP X a fa) (hb:FP X b fb):FP X (.Compare a [.Lt] [b] pos) (e2 oLt fa fb):=fp_cmp op_lt does_iB ha hb (nomark _)
theorem fp_le (ha:FP X a fa) (hb:FP X b fb):FP X (.Compare a [.LtE] [b] pos) (e2 oLe fa fb):=fp_cmp op_le does_iB ha hb (nomark _)
end
end L2.Ev
namespace L2.Ev
open PySem
theorem imm_ints:∀ ns:List Int,immAll (ns.map D.int)=true
 | []=>rfl
 | n::r=>by rw [List.map_cons];unfold immAll;rw [imm_ints r];rfl
theorem s_listIT {ns:List Int}:oList (.tup (ns.map D.int))=some (.lst (ns.map D.int)):=by show (if immAll (ns.map D.int)=true then some (D.lst (ns.map D.int)) else none)=_;rw [if_pos (imm_ints ns)]
theorem s_tupI {ns:List Int}:oTuple (.lst (ns.map D.int))=some (.tup (ns.map D.int)):=by show (if immAll (ns.map D.int)=true then some (D.tup (ns.map D.int)) else none)=_;rw [if_pos (imm_ints ns)]
open PySem PySem.Spec PyProof.Rows
theorem Ok.put {K:PySem.W.Frag}{H0:Hp}{S:List Addr}{z:Addr→Option Nat}{held:List Held}{ρ:Rho}{σ:St}{H H':Hp}{i:Nat}{d0 d1:D}{v:V}{fp0 fp1:List Addr} (ok:Ok K H0 S z held ρ σ H) (h:ρ[i]? = some (some (d0,.own)))
  (hs:σ[i]? = some (some v)) (zz:InZ z i .own fp0) (im:Imm H H') (keep:∀ b o,b∉fp0→H b=some o→H' b=some o) (r1:Rep K H' d1 v fp1) (nd:fp1.Nodup) (fr:∀ b∈fp1,b∈fp0∨H b=none):∃ z',Ok K H0 S z' held (mutS ρ i d1) σ H':=by
 classical
 have hiρ:i < ρ.length:=(List.getElem?_eq_some_iff.mp h).1
 have inz:∀ {a:Addr},a∈fp0→z a=some i:=fun {a} m=>zz.2 a m
 have old:∀ {a:Addr}{o:HO},a∉fp0→H a=some o→(if a∈fp1 then some i else if z a=some i then none else z a)=(if z a=some i then none else z a):=fun {a o} n e=>by
  rw [if_neg fun m=>?_]
  rcases fr a m with q | q
  ·exact n q
  ·rw [e] at q;cases q
 have dr:∀ {j:Nat}{d:D}{t:Tag},j≠i→(mutS ρ i d1)[j]? = some (some (d,t))→ρ[j]? = some (some (d,t))∧∀ o,t=.sh o→i∉o:=fun {j d t} hj e=>by
  unfold mutS at e
  rw [List.getElem?_set_ne (Ne.symm hj),List.getElem?_map] at e
  cases e0:ρ[j]? with
  | none=>rw [e0] at e;cases e
  | some s=>
   rw [e0] at e
   have e:dropT i s=some (d,t):=Option.some.inj e
   cases s with
   | none=>cases e
   | some w=>
    obtain ⟨d',t'⟩:=w
    cases t' with
    | sh o=>
     have e:(if o.contains i=true then none else some (d',Tag.sh o))=some (d,t):=e
     by_cases hc:o.contains i=true
     ·rw [if_pos hc] at e;cases e
     ·rw [if_neg hc] at e
      cases e
      exact ⟨rfl,fun o' eo m=>by cases eo;exact hc (List.contains_iff_mem.mpr m)⟩
    | own=>cases e;exact ⟨rfl,fun o eo=>by cases eo⟩
    | lk=>cases e;exact ⟨rfl,fun o eo=>by cases eo⟩
 refine ⟨fun a=>if a∈fp1 then some i else if z a=some i then none else z a,fun j d t e=>?_,fun q m=>?_,fun a j e=>?_,fun a u e n=>?_,?_⟩
 ·by_cases hj:j=i
  ·subst hj
   unfold mutS at e
   rw [List.getElem?_set_self (by rw [List.length_map];exact hiρ)] at e
   cases e
   exact ⟨v,fp1,hs,r1,nd,fun a m=>if_pos m⟩
  ·obtain ⟨e0,nd'⟩:=dr hj e
   obtain ⟨v',fp',hs',r',z'⟩:=ok.sl j d t e0
   have nz:∀ a∈fp',z a≠some i:=fun a m q=>by
    cases t with
    | sh o=>exact nd' o rfl (z' a m i q)
    | own=>have:=z'.2 a m;rw [q] at this;exact hj (Option.some.inj this).symm
    | lk=>have:=z'.2 a m;rw [q] at this;exact hj (Option.some.inj this).symm
   have n0:∀ a∈fp',a∉fp0:=fun a m q=>nz a m (inz q)
   refine ⟨v',fp',hs',r'.frame (fun a m=>?_) im,?_⟩
   ·obtain ⟨o,w,_⟩:=r'.dom a m
    rw [keep a o (n0 a m) w,w]
   ·have at_:∀ a∈fp',(if a∈fp1 then some i else if z a=some i then none else z a)=z a:=fun a m=>by
     obtain ⟨o,w,_⟩:=r'.dom a m
     rw [old (n0 a m) w,if_neg (nz a m)]
    cases t with
    | sh o=>exact fun a m k q=>z' a m k (by rw [← at_ a m];exact q)
    | own=>exact ⟨z'.1,fun a m=>(at_ a m).trans (z'.2 a m)⟩
    | lk=>exact ⟨z'.1,fun a m=>(at_ a m).trans (z'.2 a m)⟩
 ·obtain ⟨r,hz⟩:=ok.hl q m
  have nz:∀ a∈q.fp,z a≠some i:=fun a m e=>(hz a m i e).2 d0 h
  have n0:∀ a∈q.fp,a∉fp0:=fun a m e=>nz a m (inz e)
  refine ⟨r.frame (fun a m=>?_) im,fun a ha j e=>?_⟩
  ·obtain ⟨o,w,_⟩:=r.dom a m
   rw [keep a o (n0 a m) w,w]
  ·obtain ⟨o,w,_⟩:=r.dom a ha
   rw [old (n0 a ha) w,if_neg (nz a ha)] at e
   obtain ⟨h1,h2⟩:=hz a ha j e
   have hj:j≠i:=fun q=>nz a ha (by rw [← q];exact e)
   exact ⟨h1,fun d e=>h2 d (dr hj e).1⟩
 ·by_cases m:a∈fp1
  ·obtain ⟨o,w,_⟩:=r1.dom a m
   refine ⟨⟨o,w⟩,?_⟩
   rcases fr a m with q | q
   ·exact (ok.zd a i (inz q)).2
   ·cases h0:H0 a with
    | none=>exact .inl rfl
    | some o=>
     by_cases hs:a∈S
     ·exact .inr hs
     ·have w:=ok.en a o h0 hs
      rw [q] at w;cases w
  ·rw [if_neg m] at e
   by_cases q:z a=some i
   ·rw [if_pos q] at e;cases e
   ·rw [if_neg q] at e
    obtain ⟨⟨o,w⟩,y⟩:=ok.zd a j e
    exact ⟨⟨o,keep a o (fun m=>q (inz m)) w⟩,y⟩
 ·have w:=ok.en a u e n
  refine keep a u (fun m=>?_) w
  rcases (ok.zd a i (inz m)).2 with q | q
  ·rw [e] at q;cases q
  ·exact n q
 ·unfold mutS
  rw [List.length_set,List.length_map]
  exact ok.ln
theorem Reps.look {K:PySem.W.Frag}{H:Hp}:∀ {es:List (Str×D)}{fs:List (Str×V)}{fp:List Addr}{f:Str}{d:D},es.map (·.1)=fs.map (·.1)→Reps K H (es.map (·.2)) (fs.map (·.2)) fp→es.lookup f=some d→∃ v g,fs.lookup f=some v∧Rep K H d v g∧∀ a∈g,a∈fp
 | [],[],_,_,_,_,_,e=>by cases e
 | [],_::_,_,_,_,k,_,_=>by simp at k
 | _::_,[],_,_,_,k,_,_=>by simp at k
 | (x,d0)::es,(y,v0)::fs,fp,f,d,k,r,e=>by
  simp only [List.map_cons,List.cons.injEq] at k
  obtain ⟨rfl,k⟩:=k
  cases r with
  | cons r1 r2=>
   by_cases hx:(f == x)=true
   ·simp only [List.lookup,hx] at e ⊢
    cases e
    exact ⟨v0,_,rfl,r1,fun a m=>List.mem_append_left _ m⟩
   ·have hx:(f == x)=false:=by simpa using hx
    simp only [List.lookup,hx] at e ⊢
    obtain ⟨v,g,h1,h2,h3⟩:=Reps.look (f:=f) (d:=d) k r2 e
    exact ⟨v,g,h1,h2,fun a m=>List.mem_append_right _ (h3 a m)⟩
theorem look_none:∀ {es:List (Str×D)}{fs:List (Str×V)}{f:Str},es.map (·.1)=fs.map (·.1)→es.lookup f=none→fs.lookup f=none
 | [],[],_,_,_=>rfl
 | [],_::_,_,k,_=>by simp at k
 | _::_,[],_,k,_=>by simp at k
 | (x,d0)::es,(y,v0)::fs,f,k,e=>by
  simp only [List.map_cons,List.cons.injEq] at k
  obtain ⟨rfl,k⟩:=k
  by_cases hx:(f == x)=true
  ·simp only [List.lookup,hx] at e;cases e
  ·have hx:(f == x)=false:=by simpa using hx
   simp only [List.lookup,hx] at e ⊢
   exact look_none k e
structure ClsAt (K:PySem.W.Frag) (cn:Str) (C:Addr):Prop where
 ns:PySem.W.nsIn K mainGlobals cn=some (some (.ref C))
 cl:Cls K C
theorem Rep.ins_of {K:PySem.W.Frag}{H:Hp}{cn:Str}{es:List (Str×D)}{v:V}{fp:List Addr}{C:Addr} (r:Rep K H (.ins cn es) v fp) (hn:PySem.W.nsIn K mainGlobals cn=some (some (.ref C))) :
  ∃ a dx fs g,v=.ref a∧fp=a::dx::g∧H a=some (.ins C dx fs)∧H dx=some (.own a)∧es.map (·.1)=fs.map (·.1)∧Reps K H (es.map (·.2)) (fs.map (·.2)) g:=by
 cases r with
 | @ins _ a C' dx fs _ g h0 h1 h2 h3 h4=>
  rw [hn] at h0
  cases h0
  exact ⟨a,dx,fs,g,rfl,rfl,h1,h2,h3,h4⟩
def eFld (cn f:Str) (fa:EF):EF:=fun ρ=>match fa ρ with
 | some (.ins c es,t)=>if c=cn then (es.lookup f).map fun d=>(d,itag t) else none
 | _=>none
section
variable {X:Cx}{a:Expr}{fa:EF}{pos:Pos}
theorem TagOk.sub {z:Addr→Option Nat}{H:Hp}{t:Tag}{f g:List Addr} (hz:∀ a j,z a=some j→∃ o,H a=some o) (h:TagOk z H t f) (s:∀ a∈g,a∈f):TagOk z H (itag t) g:=by
 cases t with
 | sh o=>exact fun a m j q=>h a (s a m) j q
 | own=>exact fun a m j q=>by obtain ⟨o,w⟩:=hz a j q;rw [h.2 a (s a m)] at w;cases w
 | lk=>exact fun a m j q=>by obtain ⟨o,w⟩:=hz a j q;rw [h.2 a (s a m)] at w;cases w
theorem fp_fld {cn f:Str}{C:Addr} (hC:ClsAt X.K cn C) (na:NoAttr X.K C f) (ha:FP X a fa) (hb:attributeBase a f X.env (eval a X.env)=eval a X.env:=by rfl):FP X (.Attribute a f pos) (eFld cn f fa):=by
 obtain ⟨t,p,q⟩:=ha
 refine ⟨_,pe_fld p hb,fun H0 S z held ρ σ H Q d tg ok e k=>?_⟩
 unfold eFld at e
 cases h:fa ρ with
 | none=>rw [h] at e;cases e
 | some w=>
  obtain ⟨d0,t0⟩:=w
  rw [h] at e
  cases d0 <;> try (cases e;done)
  rename_i c es
  dsimp only at e
  by_cases hc:c=cn
  ·subst hc
   rw [if_pos rfl] at e
   cases hl:es.lookup f with
   | none=>rw [hl] at e;cases e
   | some d1=>
    rw [hl] at e
    cases e
    refine q H0 S z held ρ σ H _ _ t0 ok h fun H1 v fp s1 r1 g1=>?_
    obtain ⟨b,dx,fs,g,rfl,rfl,h1,h2,h3,h4⟩:=r1.ins_of hC.ns
    obtain ⟨u,gf,h5,h6,h7⟩:=Reps.look h3 h4 hl
    exact ⟨b,C,dx,fs,u,rfl,h1,hC.cl,na,h5,k H1 u gf s1 h6 (TagOk.sub (fun a j e=>(ok.zd a j e).1) g1 fun a m=>List.mem_cons_of_mem _ (List.mem_cons_of_mem _ (h7 a m)))⟩
  ·rw [if_neg hc] at e;cases e
end
def eMeth (cn m:Str) (F:List D→Option D) (fo:EF) (g:AF):EF:=fun ρ=>match fo ρ with
 | some (.ins c es,_)=>if c=cn∧es.lookup m=none then (g ρ).bind fun ps=>(F (.ins c es::ps.map (·.1))).map fun d=>(d,.own) else none
 | _=>none
section
variable {X:Cx}{o e:Expr}{es:List Expr}{fo:EF}{g:AF}{m cn:Str}{apos pos:Pos}{k:Nat}{C f:Addr}{fd:FuncData}{ps:List Str}{F:List D→Option D}{pl:Sem Bool}
theorem meth_read {t:TE}{ta:TA} (hC:ClsAt X.K cn C) (q:∀ (H0:Hp) (S:List Addr) (z:Addr→Option Nat) (held:List Held) (ρ:Rho) (σ:St) (H:Hp) (Q:VK) (d:D) (tg:Tag),Ok X.K H0 S z held ρ σ H→fo ρ=some (d,tg)→(∀ H' v fp,Same H H'→Rep X.K H' d v fp→TagOk z H tg fp→Q v H')→t σ H Q)
  (qa:∀ (H0:Hp) (S:List Addr) (z:Addr→Option Nat) (held:List Held) (ρ:Rho) (σ:St) (H:Hp) (Q:List V→Hp→Prop) (ps:List (D×Tag)),Ok X.K H0 S z held ρ σ H→g ρ=some ps→(∀ H' vs fp,Same H H'→Reps X.K H' (ps.map (·.1)) vs fp→TagOk z H (joinA ps) fp→Q vs H')→ta σ H Q)
  {H0:Hp}{S:List Addr}{z:Addr→Option Nat}{held:List Held}{ρ:Rho}{σ:St}{H:Hp}{Q:VK}{d:D}{tg:Tag} (ok:Ok X.K H0 S z held ρ σ H) (e0:eMeth cn m F fo g ρ=some (d,tg)) (kk:∀ H' v fp,Same H H'→Rep X.K H' d v fp→TagOk z H tg fp→Q v H') :
  tMeth C m (spF X.K F) [] E0 t ta σ H Q:=by
 unfold eMeth at e0
 cases h:fo ρ with
 | none=>rw [h] at e0;cases e0
 | some w=>
  obtain ⟨d0,t0⟩:=w
  rw [h] at e0
  cases d0 <;> try (cases e0;done)
  rename_i c fs0
  dsimp only at e0
  by_cases hc:c=cn∧fs0.lookup m=none
  ·rw [if_pos hc] at e0
   obtain ⟨rfl,hm⟩:=hc
   cases h2:g ρ with
   | none=>rw [h2] at e0;cases e0
   | some qs=>
    rw [h2,Option.bind_some] at e0
    cases h3:F (.ins c fs0::qs.map (·.1)) with
    | none=>rw [h3] at e0;cases e0
    | some d1=>
     rw [h3] at e0
     cases e0
     refine q H0 S z held ρ σ H _ _ t0 ok h fun H1 v fp s1 r1 g1=>?_
     obtain ⟨b,dx,fs,gf,rfl,rfl,h4,h5,h6,h7⟩:=r1.ins_of hC.ns
     refine ⟨b,dx,fs,rfl,h4,look_none h6 hm,?_⟩
     refine qa H0 S z held ρ σ H1 _ qs (ok.same s1) h2 fun H2 vs fp2 s2 r2 _=>?_
     rw [List.append_nil]
     exact ⟨_,_,d,.cons (r1.same s2) r2,h3,fun H3 u fp' s3 r3 nd fr=>kk H3 u fp' ((s1.trans s2).trans s3) r3 ⟨nd,fun a m=>s1.free (s2.free (fr a m))⟩⟩
  ·rw [if_neg hc] at e0;cases e0
theorem fp_meth (hC:ClsAt X.K cn C) (hm:Meth X.K C m f) (G:FnOk X.prog X.w X.K X.mg X.base CX0 k f fd ps (spF X.K F)) (hr:Room k X.A) (hb:Binds X.K fd ps []) (ho:FP X o fo) (ha:FA X (e::es) g)
  (hst:starEach (e::es) X.env=(false,eval e X.env)::starEach es X.env:=by rfl) (hpl:(backTo pos (starEach es X.env)).any (·.1)=false:=by rfl)
  (ht:eval (.Call (.Attribute o m apos) (e::es) [] pos) X.env=(do
   let ov ← eval o X.env
   standAt apos.atName
   let (f,first) ← holding [ov] (getMethod ov m pl)
   callWith pos f first (backTo pos (starEach (e::es) X.env)) (backToKw pos (keywordEach [] X.env))):=by rfl):FP X (.Call (.Attribute o m apos) (e::es) [] pos) (eMeth cn m F fo g):=by
 obtain ⟨t,p,q⟩:=ho
 obtain ⟨ta,pa,_,qa⟩:=ha
 exact ⟨_,pe_meth (pl:=pl) p hC.cl hm G hr hb .nil pass0 pa hst hpl ht,fun H0 S z held ρ σ H Q d tg ok e0 kk=>meth_read hC q qa ok e0 kk⟩
theorem fp_meth0 (hC:ClsAt X.K cn C) (hm:Meth X.K C m f) (G:FnOk X.prog X.w X.K X.mg X.base CX0 k f fd ps (spF X.K F)) (hr:Room k X.A) (hb:Binds X.K fd ps []) (ho:FP X o fo)
  (ht:eval (.Call (.Attribute o m apos) [] [] pos) X.env=(do
   let ov ← eval o X.env
   standAt apos.atName
   let (f,first) ← holding [ov] (getMethod ov m pl)
   callWith pos f first (backTo pos (starEach [] X.env)) (backToKw pos (keywordEach [] X.env))):=by rfl):FP X (.Call (.Attribute o m apos) [] [] pos) (eMeth cn m F fo aNil):=by
 obtain ⟨t,p,q⟩:=ho
 obtain ⟨ta,pa,_,qa⟩:=fa_nil (X:=X)
 refine ⟨_,pe_meth0 (pl:=pl) p hC.cl hm G hr hb .nil pass0 ht,fun H0 S z held ρ σ H Q d tg ok e0 kk=>meth_read (ta:=tNil) (g:=aNil) hC q (fun _ _ _ _ _ _ H _ _ _ e q=>by cases e;exact q H _ _ (Same.refl H) .nil .nil) ok e0 kk⟩
end
abbrev MF:=D→List D→Option (D×D)
def spO (K:PySem.W.Frag) (G:MF):Sp:=fun vs H Q _=>∃ a ws d0 fp0 ds fps r d1,vs=V.ref a::ws∧Rep K H d0 (.ref a) fp0∧fp0.Nodup∧Reps K H ds ws fps∧(∀ b∈fps,b∉fp0)∧G d0 ds=some (r,d1) ∧
 ∀ H' v fp1,Imm H H'→(∀ b o,b∉fp0→H b=some o→H' b=some o)→Rep K H' d1 (.ref a) fp1→fp1.Nodup→(∀ b∈fp1,b∈fp0∨H b=none)→Rep K H' r v []→Q v H'
def apart (i:Nat) (ps:List (D×Tag)):Bool:=match joinA ps with
 | .sh o=>!o.contains i
 | _=>true
theorem apart_of {K:PySem.W.Frag}{H0:Hp}{S:List Addr}{z:Addr→Option Nat}{held:List Held}{ρ:Rho}{σ:St}{H:Hp}{i:Nat}{ps:List (D×Tag)}{fp fp0:List Addr} (ok:Ok K H0 S z held ρ σ H) (h:apart i ps=true) (g:TagOk z H (joinA ps) fp) (zz:InZ z i .own fp0):∀ b∈fp,b∉fp0:=by
 intro b m n
 unfold apart at h
 have zb:=zz.2 b n
 cases ht:joinA ps with
 | sh o=>
  rw [ht] at h g
  have:=g b m i zb
  simp at h
  exact h this
 | own=>
  rw [ht] at g
  obtain ⟨⟨o,w⟩,_⟩:=ok.zd b i zb
  rw [g.2 b m] at w;cases w
 | lk=>
  rw [ht] at g
  obtain ⟨⟨o,w⟩,_⟩:=ok.zd b i zb
  rw [g.2 b m] at w;cases w
def xO (i:Nat) (cn m:Str) (G:MF) (g:AF):XF:=fun ρ=>match ρ[i]?,g ρ with
 | some (some (.ins c es,.own)),some ps=>if c=cn∧es.lookup m=none∧apart i ps=true then (G (.ins c es) (ps.map (·.1))).map fun w=>(w.1,mutS ρ i w.2) else none
 | _,_=>none
theorem xO_of {i:Nat}{cn m:Str}{G:MF}{g:AF}{ρ ρ':Rho}{r:D} (e:xO i cn m G g ρ=some (r,ρ')):∃ es ps d1,ρ[i]? = some (some (.ins cn es,.own))∧g ρ=some ps∧es.lookup m=none∧apart i ps=true∧G (.ins cn es) (ps.map (·.1))=some (r,d1)∧ρ'=mutS ρ i d1:=by
 unfold xO at e
 split at e
 ·rename_i c es ps h1 h2
  by_cases hc:c=cn∧es.lookup m=none∧apart i ps=true
  ·rw [if_pos hc] at e
   obtain ⟨rfl,hm,ha⟩:=hc
   cases h3:G (.ins c es) (ps.map (·.1)) with
   | none=>rw [h3] at e;cases e
   | some w=>
    rw [h3] at e
    cases e
    exact ⟨es,ps,w.2,h1,h2,hm,ha,h3,rfl⟩
  ·rw [if_neg hc] at e;cases e
 ·cases e
def FZ (X:Cx) (e:Expr) (f:XF):Prop:=∃ t,PE X e t∧∀ (H0:Hp) (S:List Addr) (z:Addr→Option Nat) (held:List Held) (ρ:Rho) (σ:St) (H:Hp) (Q:VK) (d:D) (ρ':Rho),
 Ok X.K H0 S z held ρ σ H→f ρ=some (d,ρ')→(∀ z' H' v,Ok X.K H0 S z' held ρ' σ H'→Rep X.K H' d v []→Q v H')→t σ H Q
section
variable {X:Cx}{e:Expr}{es:List Expr}{g:AF}{m cn x:Str}{p1 apos pos:Pos}{k:Nat}{C f:Addr}{fd:FuncData}{ps:List Str}{G:MF}{pl:Sem Bool}{fx:XF}
theorem methO_read {i:Nat}{ta:TA} (hC:ClsAt X.K cn C) (hN:X.N[i]? = some x)
  (qa:∀ (H0:Hp) (S:List Addr) (z:Addr→Option Nat) (held:List Held) (ρ:Rho) (σ:St) (H:Hp) (Q:List V→Hp→Prop) (ps:List (D×Tag)),Ok X.K H0 S z held ρ σ H→g ρ=some ps→(∀ H' vs fp,Same H H'→Reps X.K H' (ps.map (·.1)) vs fp→TagOk z H (joinA ps) fp→Q vs H')→ta σ H Q)
  {H0:Hp}{S:List Addr}{z:Addr→Option Nat}{held:List Held}{ρ:Rho}{σ:St}{H:Hp}{Q:VK}{d:D}{ρ':Rho} (ok:Ok X.K H0 S z held ρ σ H) (e0:xO i cn m G g ρ=some (d,ρ')) (kk:∀ z' H' v,Ok X.K H0 S z' held ρ' σ H'→Rep X.K H' d v []→Q v H') :
  tMeth C m (spO X.K G) [] E0 (tVar i) ta σ H Q:=by
 obtain ⟨fs0,qs,d1,h1,h2,hm,hap,hG,rfl⟩:=xO_of e0
 obtain ⟨v,fp0,hs,r0,zz⟩:=ok.sl i _ _ h1
 refine ⟨v,hs,?_⟩
 obtain ⟨b,dx,fs,gf,rfl,hfp,h4,h5,h6,h7⟩:=r0.ins_of hC.ns
 refine ⟨b,dx,fs,rfl,h4,look_none h6 hm,?_⟩
 refine qa H0 S z held ρ σ H _ qs ok h2 fun H2 vs fp2 s2 r2 g2=>?_
 rw [List.append_nil]
 have ok2:=ok.same s2
 refine ⟨b,vs,_,fp0,_,fp2,d,d1,rfl,r0.same s2,zz.1,r2,apart_of ok hap g2 zz,hG,fun H3 u fp1 im kp r1 nd fr rr=>?_⟩
 obtain ⟨z',ok3⟩:=ok2.put h1 hs zz im kp r1 nd fr
 exact kk z' H3 u ok3 rr
theorem fz_meth (i:Nat) (hC:ClsAt X.K cn C) (hm:Meth X.K C m f) (GG:FnOk X.prog X.w X.K X.mg X.base CX0 k f fd ps (spO X.K G)) (hr:Room k X.A) (hb:Binds X.K fd ps []) (ha:FA X (e::es) g) (hN:X.N[i]? = some x:=by rfl)
  (hvis:Vis X.env.scope x:=by first | exact Or.inl rfl | exact Or.inr (Or.inl rfl) | exact Or.inr (Or.inr rfl)) (hd:(x == ("__debug__":Str))=false:=by decide) (hcd:(x == ("__classdict__":Str))=false:=by decide)
  (hst:starEach (e::es) X.env=(false,eval e X.env)::starEach es X.env:=by rfl) (hpl:(backTo pos (starEach es X.env)).any (·.1)=false:=by rfl)
  (ht:eval (.Call (.Attribute (.Name x p1) m apos) (e::es) [] pos) X.env=(do
   let ov ← eval (.Name x p1) X.env
   standAt apos.atName
   let (f,first) ← holding [ov] (getMethod ov m pl)
   callWith pos f first (backTo pos (starEach (e::es) X.env)) (backToKw pos (keywordEach [] X.env))):=by rfl):FZ X (.Call (.Attribute (.Name x p1) m apos) (e::es) [] pos) (xO i cn m G g):=by
 obtain ⟨ta,pa,_,qa⟩:=ha
 exact ⟨_,pe_meth (pl:=pl) (pe_var (i:=i) hN hvis hd hcd) hC.cl hm GG hr hb .nil pass0 pa hst hpl ht,fun H0 S z held ρ σ H Q d ρ' ok e0 kk=>methO_read hC hN qa ok e0 kk⟩
def sSetZ (i:Nat) (f:XF):SF:=fun ρ=>match f ρ with
 | some (d,ρ')=>some (.nx (setS ρ' i d .own))
 | none=>none
theorem fs_setZ (i:Nat) {pos':Pos} (he:FZ X e fx) (hN:X.N.Nodup) (hi:X.N[i]? = some x:=by rfl) (hx:Loc X.env.scope x:=by first | exact Or.inl rfl | exact Or.inr rfl)
  (hs:swapsWith e (some (.Name x pos')) pos.line X.env=pure false:=by rfl) (hf:X.fn x=true∨X.env.scope.names.lookup x=some .local:=by first | exact .inl rfl | exact .inr rfl) (hself:kpt X x=false:=by rfl):FS1 X (.Assign [.Name x pos'] e pos) (sSetZ i fx):=by
 obtain ⟨t,p,q⟩:=he
 refine ⟨_,ps_set (i:=i) hN hi hx p hs hf,fun H0 S z held ρ σ H E o ok e k=>?_⟩
 unfold sSetZ at e
 cases h:fx ρ with
 | none=>rw [h] at e;cases e
 | some w=>
  obtain ⟨d,ρ1⟩:=w
  rw [h] at e
  cases e
  refine q H0 S z held ρ σ H _ d ρ1 ok h fun z1 H1 v ok1 r1=>?_
  exact ok1.stored (t:=.own) (Same.refl H1) r1 .nil fun z' ok'=>k z' _ H1 ok' (.set hi hself)
end
def eMake (cn:Str) (G:MF) (g:AF):EF:=fun ρ=>(g ρ).bind fun ps=>match G (.ins cn []) (ps.map (·.1)) with
 | some (.non,d)=>some (d,.own)
 | _=>none
section
variable {X:Cx}{e:Expr}{es:List Expr}{g:AF}{cn x:Str}{p pos:Pos}{k:Nat}{C f:Addr}{fd:FuncData}{ps:List Str}{G:MF}
theorem make_read {ta:TA} (hn:PySem.W.nsIn X.K mainGlobals cn=some (some (.ref C)))
  (qa:∀ (H0:Hp) (S:List Addr) (z:Addr→Option Nat) (held:List Held) (ρ:Rho) (σ:St) (H:Hp) (Q:List V→Hp→Prop) (ps:List (D×Tag)),Ok X.K H0 S z held ρ σ H→g ρ=some ps→(∀ H' vs fp,Same H H'→Reps X.K H' (ps.map (·.1)) vs fp→TagOk z H (joinA ps) fp→Q vs H')→ta σ H Q)
  {H0:Hp}{S:List Addr}{z:Addr→Option Nat}{held:List Held}{ρ:Rho}{σ:St}{H:Hp}{Q:VK}{d:D}{tg:Tag} (ok:Ok X.K H0 S z held ρ σ H) (e0:eMake cn G g ρ=some (d,tg)) (kk:∀ H' v fp,Same H H'→Rep X.K H' d v fp→TagOk z H tg fp→Q v H') :
  tMake C (spO X.K G) [] E0 ta σ H Q:=by
 unfold eMake at e0
 cases h2:g ρ with
 | none=>rw [h2] at e0;cases e0
 | some qs=>
  rw [h2,Option.bind_some] at e0
  cases h3:G (.ins cn []) (qs.map (·.1)) with
  | none=>rw [h3] at e0;cases e0
  | some w=>
   obtain ⟨r,d1⟩:=w
   rw [h3] at e0
   cases r <;> try (cases e0;done)
   cases e0
   refine qa H0 S z held ρ σ H _ qs ok h2 fun H1 vs fp s1 r1 _=>?_
   intro b dx nb ndx ne
   rw [List.append_nil]
   have s2:Same H1 (upd (upd H1 dx (.own b)) b (.ins C dx [])):=fun c o e=>by rw [upd_ne (ne_of_none e nb),upd_ne (ne_of_none e ndx)];exact e
   refine ⟨b,vs,.ins cn [],[b,dx],_,fp,.non,d,rfl,.ins hn upd_same (by rw [upd_ne ne];exact upd_same) rfl .nil,?_,r1.same s2,fun c m n=>?_,h3,fun H3 u fp1 im kp r3 nd fr rr=>?_⟩
   ·exact List.nodup_cons.mpr ⟨fun m=>ne (List.mem_singleton.mp m).symm,List.nodup_cons.mpr ⟨(fun m=>nomatch m),List.nodup_nil⟩⟩
   ·obtain ⟨o,w,_⟩:=r1.dom c m
    rcases List.mem_cons.mp n with e | n
    ·rw [e,nb] at w;cases w
    ·rw [List.mem_singleton.mp n,ndx] at w;cases w
   ·cases rr
    refine ⟨rfl,kk H3 _ fp1 (fun c o e=>?_) r3 ⟨nd,fun c m=>?_⟩⟩
    ·have e1:=s1 c o e
     refine kp c o (fun n=>?_) (s2 c o e1)
     rcases List.mem_cons.mp n with q | n
     ·rw [q,nb] at e1;cases e1
     ·rw [List.mem_singleton.mp n,ndx] at e1;cases e1
    ·rcases fr c m with q | q
     ·refine s1.free ?_
      rcases List.mem_cons.mp q with q | q
      ·rw [q];exact nb
      ·rw [List.mem_singleton.mp q];exact ndx
     ·exact s1.free (s2.free q)
theorem fp_make0 (hn:PySem.W.nsIn X.K mainGlobals cn=some (some (.ref C))) (M:Mk X.K C f) (GG:FnOk X.prog X.w X.K X.mg X.base CX0 k f fd ps (spO X.K G)) (hr:Room (k + 1) X.A) (hm:X.mg x=some (.ref C)) (hb:Binds X.K fd ps []) (hg:Gl X x:=by rfl) (hdb:(x == ("__debug__":Str))=false:=by decide) :
  FP X (.Call (.Name x p) [] [] pos) (eMake cn G aNil):=
 ⟨_,pe_make0 M GG hr hg hm hb .nil pass0 hdb,fun H0 S z held ρ σ H Q d tg ok e0 kk=>make_read (ta:=tNil) (g:=aNil) hn (fun _ _ _ _ _ _ H _ _ _ e q=>by cases e;exact q H _ _ (Same.refl H) .nil .nil) ok e0 kk⟩
end
def PostM (X:Cx) (H0:Hp) (S:List Addr) (held:List Held) (σ0:St) (E:Ends):Out→Prop
 | .nx ρ=>∀ z σ H,Ok X.K H0 S z held ρ σ H→Kp X σ0 σ→E.nx σ H
 | .bk ρ=>∀ z σ H,Ok X.K H0 S z held ρ σ H→Kp X σ0 σ→E.bk σ H
 | .ct ρ=>∀ z σ H,Ok X.K H0 S z held ρ σ H→Kp X σ0 σ→E.ct σ H
 | .er raw cn ρ=>PostE X H0 S held σ0 raw cn ρ
 | .rt p=>∃ r d0,p=.tup [r,d0]∧∀ z ρ σ H v,Ok X.K H0 S z held ρ σ H→ρ[0]? = some (some (d0,.own))→Kp X σ0 σ→Rep X.K H r v []→E.rt v H
def FM (X:Cx) (st:List Stmt) (f:SF):Prop:=∃ t,PSs X st t∧∀ (H0:Hp) (S:List Addr) (z:Addr→Option Nat) (held:List Held) (ρ:Rho) (σ:St) (H:Hp) (E:Ends) (o:Out),
 Ok X.K H0 S z held ρ σ H→f ρ=some o→PostM X H0 S held σ E o→t E σ H
def FM1 (X:Cx) (st:Stmt) (f:SF):Prop:=∃ t,PS X st t∧∀ (H0:Hp) (S:List Addr) (z:Addr→Option Nat) (held:List Held) (ρ:Rho) (σ:St) (H:Hp) (E:Ends) (o:Out),
 Ok X.K H0 S z held ρ σ H→f ρ=some o→PostM X H0 S held σ E o→t E σ H
theorem PostM.of {X:Cx}{H0:Hp}{S:List Addr}{held:List Held}{σ σ':St}{E:Ends}{o:Out} (k:PostM X H0 S held σ E o) (a:Kp X σ σ'):PostM X H0 S held σ' E o:=by
 cases o with
 | nx ρ=>exact fun z s H ok b=>k z s H ok (a.trans b)
 | bk ρ=>exact fun z s H ok b=>k z s H ok (a.trans b)
 | ct ρ=>exact fun z s H ok b=>k z s H ok (a.trans b)
 | er raw cn ρ=>exact PostE.of k a
 | rt d=>obtain ⟨r,d0,e,k⟩:=k;exact ⟨r,d0,e,fun z ρ s H v ok h b=>k z ρ s H v ok h (a.trans b)⟩
def noRt (f:SF):SF:=fun ρ=>match f ρ with
 | some (.nx ρ')=>some (.nx ρ')
 | some (.bk ρ')=>some (.bk ρ')
 | some (.ct ρ')=>some (.ct ρ')
 | some (.er raw cn ρ')=>some (.er raw cn ρ')
 | _=>none
section
variable {X:Cx}{pos:Pos}{st:Stmt}{rest:List Stmt}{f g:SF}
theorem fm_of (h:FS1 X st f):FM1 X st (noRt f):=by
 obtain ⟨t,p,q⟩:=h
 refine ⟨t,p,fun H0 S z held ρ σ H E o ok e k=>?_⟩
 unfold noRt at e
 cases h:f ρ with
 | none=>rw [h] at e;cases e
 | some w=>
  rw [h] at e
  refine q H0 S z held ρ σ H E w ok h ?_
  cases w <;> first | (cases e;done) | (cases e;exact k)
theorem fm_nil:FM X [] sNx:=⟨_,pss_nil,fun _ _ z _ _ σ H _ _ ok e k=>by cases e;exact k z σ H ok (.refl _ _)⟩
theorem fm_one (h:FM1 X st f):FM X [st] f:=let ⟨t,p,q⟩:=h;⟨t,pss_one p,q⟩
theorem fm_cons (h1:FM1 X st f) (h2:FM X rest g):FM X (st::rest) (sSeq f g):=by
 obtain ⟨t,p,q⟩:=h1
 obtain ⟨t',p',q'⟩:=h2
 refine ⟨_,pss_cons p p',fun H0 S z held ρ σ H E o ok e k=>?_⟩
 unfold sSeq at e
 cases h:f ρ with
 | none=>rw [h] at e;cases e
 | some w=>
  refine q H0 S z held ρ σ H _ w ok h ?_
  rw [h] at e
  cases w with
  | nx ρ'=>exact fun z' σ' H' ok' a=>q' H0 S z' held ρ' σ' H' E o ok' e (k.of a)
  | rt d=>cases e;exact k
  | bk ρ'=>cases e;exact k
  | ct ρ'=>cases e;exact k
  | er _ _ _=>cases e;exact k
theorem fm_if {c:Expr}{a b:List Stmt}{tc:TF} (hc:FT X c tc) (ha:FM X a f) (hb:FM X b g):FM1 X (.If c a b pos) (sIf tc f g):=by
 obtain ⟨t,p,q⟩:=hc
 obtain ⟨t1,p1,q1⟩:=ha
 obtain ⟨t2,p2,q2⟩:=hb
 refine ⟨_,ps_if p p1 p2,fun H0 S z held ρ σ H E o ok e k=>?_⟩
 unfold sIf at e
 cases h:tc ρ with
 | none=>rw [h] at e;cases e
 | some y=>
  rw [h] at e
  refine q H0 S z held ρ σ H _ y ok h fun H1 s1=>?_
  cases y with
  | true=>rw [if_pos rfl];exact q1 H0 S z held ρ σ H1 E o (ok.same s1) e k
  | false=>rw [if_neg Bool.false_ne_true];exact q2 H0 S z held ρ σ H1 E o (ok.same s1) e k
theorem fm_no:FM1 X st sNo:=⟨_,ps_never,fun _ _ _ _ _ _ _ _ _ _ e _=>by cases e⟩
def sRetM (f:EF):SF:=fun ρ=>match f ρ,ρ[0]? with
 | some (r,_),some (some (d0,Tag.own))=>if imm r=true then some (.rt (.tup [r,d0])) else none
 | _,_=>none
theorem fm_ret {e:Expr}{f:EF} (he:FP X e f):FM1 X (.Return (some e) pos) (sRetM f):=by
 obtain ⟨t,p,q⟩:=he
 refine ⟨_,ps_ret p,fun H0 S z held ρ σ H E o ok e k=>?_⟩
 unfold sRetM at e
 split at e
 ·rename_i r tg d0 h1 h2
  by_cases hi:imm r=true
  ·rw [if_pos hi] at e
   cases e
   obtain ⟨r',d0',ee,k⟩:=k
   cases ee
   refine q H0 S z held ρ σ H _ _ _ ok h1 fun H1 v fp s1 r1 _=>?_
   have hn:=r1.imm hi
   subst hn
   exact k z ρ σ H1 v (ok.same s1) h2 (.refl _ _) r1
  ·rw [if_neg hi] at e;cases e
 ·cases e
def sRetZ (f:XF):SF:=fun ρ=>match f ρ with
 | some (r,ρ')=>match ρ'[0]? with
  | some (some (d0,Tag.own))=>some (.rt (.tup [r,d0]))
  | _=>none
 | none=>none
end
def iniM (n:Nat) (d0:D) (ds:List D):Rho:=some (d0,.own)::(ds.map (fun d=>some (d,.sh []))++List.replicate (n - (ds.length + 1)) none)
def runM (n N:Nat) (b:SF):MF:=fun d0 ds=>if ds.length + 1=n then (match b (iniM N d0 ds) with
 | some (.rt (.tup [r,d1]))=>some (r,d1)
 | some (.nx ρ)=>match ρ[0]? with
  | some (some (d1,Tag.own))=>some (.non,d1)
  | _=>none
 | _=>none) else none
theorem Reps.at_arg {K:PySem.W.Frag}{H:Hp}{ds:List D}{vs:List V}{fp:List Addr}{i:Nat}{d:D} (r:Reps K H ds vs fp) (e:ds[i]? = some d):∃ v f,vs[i]? = some v∧Rep K H d v f∧∀ a∈f,a∈fp:=r.get e
section
variable {P:Program}{w:World}{K:PySem.W.Frag}{mg:Str→Option Value}{base:Heap}
theorem fn_M {x qual:Str}{st:Stmt}{f:Addr}{fd:FuncData}{N ps:List Str}{k:Nat}{b:SF} (F:Fun K x qual st f fd) (S:FnScope N ps (defScope st)) (h0:N[0]? = some ("self":Str)) (hps:ps.length≤N.length)
  (hb:∀ (cdv:Value) (A:Around) (outer:List Env) (s:Shared) (H:Hp) (E:XK),Room k (A.deeper (envOfC qual (defScope st) s.heap.objs.size f cdv))→FM (cxOf CX0 P w K mg base N qual (defScope st) f cdv A outer s H E).nox (defBody st) b) :
  FnOk P w K mg base CX0 (k + 1) f fd ps (spO K (runM ps.length N.length b)):=by
 classical
 refine F.ok S (fun vs H Q E h=>?_) fun cdv A outer s H vs Q E hr h=>?_
 ·obtain ⟨a,ws,d0,fp0,ds,fps,r,d1,rfl,_,_,rs,_,e,_⟩:=h
  unfold runM at e
  by_cases hl:ds.length + 1=ps.length
  ·rw [List.length_cons,← rs.length,hl]
  ·rw [if_neg hl] at e;cases e
 ·obtain ⟨a,ws,d0,fp0,ds,fps,r,d1,rfl,r0,nd0,rs,dj,e,q⟩:=h
  obtain ⟨t,pt,sd⟩:=hb cdv A outer s H E hr
  refine ⟨t,pt,?_⟩
  unfold runM at e
  by_cases hl:ds.length + 1=ps.length
  ·rw [if_pos hl] at e
   have lw:=rs.length
   have ok:Ok K H fp0 (fun c=>if c∈fp0 then some 0 else none) [] (iniM N.length d0 ds) (start N (V.ref a::ws)) H:=by
    refine ⟨fun i d t e'=>?_,fun p m=>(nomatch m),fun c j e'=>?_,fun c o e' _=>e',?_⟩
    ·cases i with
     | zero=>
      have e':some (some (d0,Tag.own))=some (some (d,t)):=e'
      cases e'
      exact ⟨.ref a,fp0,rfl,r0,nd0,fun c m=>if_pos m⟩
     | succ i=>
      have e':(ds.map (fun d=>some (d,Tag.sh []))++List.replicate (N.length - (ds.length + 1)) none)[i]? = some (some (d,t)):=e'
      by_cases hi:i < ds.length
      ·rw [List.getElem?_append_left (by rw [List.length_map];exact hi),List.getElem?_map] at e'
       cases ed:ds[i]? with
       | none=>rw [ed] at e';cases e'
       | some d'=>
        rw [ed] at e'
        cases e'
        obtain ⟨v,g,hv,rv,sub⟩:=rs.at_arg ed
        refine ⟨v,g,?_,rv,fun c m j e''=>?_⟩
        ·show (some (V.ref a)::(ws.map some++List.replicate (N.length - (ws.length + 1)) none))[i + 1]? = _
         rw [List.getElem?_cons_succ,List.getElem?_append_left (by rw [List.length_map,← lw];exact hi),List.getElem?_map,hv];rfl
        ·have e'':(if c∈fp0 then some 0 else none)=some j:=e''
         rw [if_neg (dj c (sub c m))] at e'';cases e''
      ·rw [List.getElem?_append_right (by rw [List.length_map];omega),List.getElem?_replicate] at e'
       split at e' <;> cases e'
    ·have e':(if c∈fp0 then some 0 else none)=some j:=e'
     by_cases m:c∈fp0
     ·obtain ⟨o,w,_⟩:=r0.dom c m
      exact ⟨⟨o,w⟩,.inr m⟩
     ·rw [if_neg m] at e';cases e'
    ·unfold iniM start
     rw [List.length_cons,List.length_append,List.length_append,List.length_map,List.length_map,List.length_replicate,List.length_replicate,List.length_cons,lw]
     omega
   have fin:∀ {z:Addr→Option Nat}{ρ:Rho}{σ:St}{H':Hp}{v:V},Ok K H fp0 z [] ρ σ H'→ρ[0]? = some (some (d1,.own))→Kp (cxOf CX0 P w K mg base N qual (defScope st) f cdv A outer s H E).nox (start N (V.ref a::ws)) σ→Rep K H' r v []→Q v H':=by
    intro z ρ σ H' v ok' h1 kp rr
    obtain ⟨u,fp1,hs,r1,zz⟩:=ok'.sl 0 d1 .own h1
    have hk:=kp 0 _ h0 rfl
    have hk:σ[0]? = some (some (V.ref a)):=hk
    rw [hk] at hs
    cases hs
    refine q H' v fp1 ⟨fun c xs e'=>?_,fun c o u e'=>?_,fun c φ e'=>?_⟩ (fun c o n e'=>ok'.en c o e' n) r1 zz.1 (fun c m=>?_) rr
    ·refine ok'.en c _ e' fun m=>?_
     obtain ⟨o,w,mo⟩:=r0.dom c m
     rw [e'] at w;cases w;cases mo
    ·refine ok'.en c _ e' fun m=>?_
     obtain ⟨o,w,mo⟩:=r0.dom c m
     rw [e'] at w;cases w;cases mo
    ·refine ok'.en c _ e' fun m=>?_
     obtain ⟨o,w,mo⟩:=r0.dom c m
     rw [e'] at w;cases w;cases mo
    ·exact ((ok'.zd c 0 (zz.2 c m)).2).symm.imp id id
   cases ho:b (iniM N.length d0 ds) with
   | none=>rw [ho] at e;cases e
   | some o=>
    rw [ho] at e
    refine sd H fp0 _ [] _ _ H _ o ok ho ?_
    cases o with
    | rt p=>
     have hp:p=.tup [r,d1]:=by
      split at e <;> rename_i hh
      ·cases e;cases hh;rfl
      ·cases hh
      ·cases e
     exact ⟨r,d1,hp,fun z ρ σ H' v ok' h1 kp rr=>fin ok' h1 kp rr⟩
    | nx ρ'=>
     dsimp only at e
     split at e
     ·rename_i dd h1
      cases e
      exact fun z σ H' ok' kp=>fin ok' h1 kp .non
     ·cases e
    | bk _=>cases e
    | ct _=>cases e
    | er _ _ _=>cases e
  ·rw [if_neg hl] at e;cases e
end
def putFD (f:Str) (d:D):List (Str×D)→List (Str×D)
 | []=>[(f,d)]
 | (g,x)::r=>if g=f then (g,d)::r else (g,x)::putFD f d r
theorem putFD_keys {f:Str}{d:D}{v:V}:∀ {es:List (Str×D)}{fs:List (Str×V)},es.map (·.1)=fs.map (·.1)→(putFD f d es).map (·.1)=(putF f v fs).map (·.1)
 | [],[],_=>rfl
 | [],_::_,k=>by simp at k
 | _::_,[],k=>by simp at k
 | (x,d0)::es,(y,v0)::fs,k=>by
  simp only [List.map_cons,List.cons.injEq] at k
  obtain ⟨rfl,k⟩:=k
  unfold putFD putF
  by_cases hx:x=f
  ·rw [if_pos hx,if_pos hx,List.map_cons,List.map_cons,k]
  ·rw [if_neg hx,if_neg hx,List.map_cons,List.map_cons,putFD_keys k]
theorem putFD_same {f:Str}{d d0:D}:∀ {es:List (Str×D)},es.lookup f=some d0→(putFD f d es).map (·.1)=es.map (·.1)
 | [],e=>by cases e
 | (x,d1)::es,e=>by
  unfold putFD
  by_cases hx:x=f
  ·rw [if_pos hx];rfl
  ·have hb:(f == x)=false:=beq_eq_false_iff_ne.mpr fun q=>hx q.symm
   simp only [List.lookup,hb] at e
   rw [if_neg hx,List.map_cons,putFD_same e];rfl
section
variable {K:PySem.W.Frag}{H H':Hp}
theorem Reps.putF {f:Str}{d:D}{v:V}{fd:List Addr} (rd:Rep K H d v fd):∀ {es:List (Str×D)}{fs:List (Str×V)}{g:List Addr},es.map (·.1)=fs.map (·.1)→Reps K H (es.map (·.2)) (fs.map (·.2)) g →
  ∃ g',Reps K H ((putFD f d es).map (·.2)) ((L2.putF f v fs).map (·.2)) g'∧(∀ a∈g',a∈g∨a∈fd)∧(g.Nodup→fd.Nodup→(∀ a∈fd,a∉g)→g'.Nodup)
 | [],[],_,_,r=>by
  cases r
  exact ⟨fd++[],.cons rd .nil,fun a m=>.inr (by simpa using m),fun _ n _=>by simpa using n⟩
 | [],_::_,_,k,_=>by simp at k
 | _::_,[],_,k,_=>by simp at k
 | (x,d0)::es,(y,v0)::fs,_,k,r=>by
  simp only [List.map_cons,List.cons.injEq] at k
  obtain ⟨rfl,k⟩:=k
  cases r with
  | @cons _ _ _ _ f1 f2 r1 r2=>
   unfold putFD L2.putF
   by_cases hx:x=f
   ·rw [if_pos hx,if_pos hx]
    refine ⟨fd++f2,.cons rd r2,fun a m=>(List.mem_append.mp m).elim .inr fun m=>.inl (List.mem_append_right _ m),fun n1 n2 n3=>?_⟩
    exact List.nodup_append.mpr ⟨n2,(List.nodup_append.mp n1).2.1,fun a ma b mb e=>n3 a ma (List.mem_append_right _ (e ▸ mb))⟩
   ·rw [if_neg hx,if_neg hx]
    obtain ⟨g',h1,h2,h3⟩:=Reps.putF (f:=f) rd k r2
    refine ⟨f1++g',.cons r1 h1,fun a m=>?_,fun n1 n2 n3=>?_⟩
    ·rcases List.mem_append.mp m with m | m
     ·exact .inl (List.mem_append_left _ m)
     ·exact (h2 a m).imp (List.mem_append_right _) id
    ·obtain ⟨a1,a2,a3⟩:=List.nodup_append.mp n1
     refine List.nodup_append.mpr ⟨a1,h3 a2 n2 (fun a m q=>n3 a m (List.mem_append_right _ q)),fun a ma b mb e=>?_⟩
     rcases h2 b mb with q | q
     ·exact a3 a ma b q e
     ·exact n3 b q (List.mem_append_left _ (e ▸ ma))
theorem Reps.place {f:Str}{d0:D}:∀ {es:List (Str×D)}{fs:List (Str×V)}{g:List Addr},es.map (·.1)=fs.map (·.1)→Reps K H (es.map (·.2)) (fs.map (·.2)) g→g.Nodup→es.lookup f=some d0 →
  ∃ v gf,fs.lookup f=some v∧Rep K H d0 v gf∧gf.Nodup∧(∀ a∈gf,a∈g)∧∀ (H':Hp) (d1:D) (g1:List Addr),Imm H H'→(∀ b o,b∉gf→H b=some o→H' b=some o)→Rep K H' d1 v g1→g1.Nodup→(∀ b∈g1,b∈gf∨H b=none) →
   ∃ g',Reps K H' ((putFD f d1 es).map (·.2)) (fs.map (·.2)) g'∧g'.Nodup∧∀ b∈g',b∈g∨H b=none
 | [],_,_,_,_,_,e=>by cases e
 | _::_,[],_,k,_,_,_=>by simp at k
 | (x,d)::es,(y,v0)::fs,_,k,r,nd,e=>by
  simp only [List.map_cons,List.cons.injEq] at k
  obtain ⟨rfl,k⟩:=k
  cases r with
  | @cons _ _ _ _ f1 f2 r1 r2=>
   obtain ⟨a1,a2,a3⟩:=List.nodup_append.mp nd
   by_cases hx:x=f
   ·subst hx
    have hb:(x == x)=true:=beq_self_eq_true x
    simp only [List.lookup,hb] at e ⊢
    cases e
    refine ⟨v0,f1,rfl,r1,a1,fun a m=>List.mem_append_left _ m,fun H' d1 g1 im kp rr n1 fr=>?_⟩
    refine ⟨g1++f2,?_,List.nodup_append.mpr ⟨n1,a2,fun a ma b mb e=>?_⟩,fun b m=>?_⟩
    ·unfold putFD
     rw [if_pos rfl]
     refine .cons rr (r2.frame (fun a m=>?_) im)
     obtain ⟨o,w,_⟩:=r2.dom a m
     rw [kp a o (fun q=>a3 a q a m rfl) w,w]
    ·subst e
     obtain ⟨o,w,_⟩:=r2.dom a mb
     rcases fr a ma with q | q
     ·exact a3 a q a mb rfl
     ·rw [q] at w;cases w
    ·rcases List.mem_append.mp m with m | m
     ·exact (fr b m).imp (List.mem_append_left _) id
     ·exact .inl (List.mem_append_right _ m)
   ·have hb:(f == x)=false:=beq_eq_false_iff_ne.mpr fun q=>hx q.symm
    simp only [List.lookup,hb] at e ⊢
    obtain ⟨v,gf,h1,h2,h3,h4,h5⟩:=Reps.place (f:=f) (d0:=d0) k r2 a2 e
    refine ⟨v,gf,h1,h2,h3,fun a m=>List.mem_append_right _ (h4 a m),fun H' d1 g1 im kp rr n1 fr=>?_⟩
    obtain ⟨g',c1,c2,c3⟩:=h5 H' d1 g1 im kp rr n1 fr
    refine ⟨f1++g',?_,List.nodup_append.mpr ⟨a1,c2,fun a ma b mb e=>?_⟩,fun b m=>?_⟩
    ·unfold putFD
     rw [if_neg hx]
     refine .cons (r1.frame (fun a m=>?_) im) c1
     obtain ⟨o,w,_⟩:=r1.dom a m
     rw [kp a o (fun q=>a3 a m a (h4 a q) rfl) w,w]
    ·subst e
     obtain ⟨o,w,_⟩:=r1.dom a ma
     rcases c3 a mb with q | q
     ·exact a3 a ma a q rfl
     ·rw [q] at w;cases w
    ·rcases List.mem_append.mp m with m | m
     ·exact .inl (List.mem_append_left _ m)
     ·exact (c3 b m).imp (List.mem_append_right _) id
theorem Rep.place {cn f:Str}{es:List (Str×D)}{v:V}{fp:List Addr}{d0:D}{C:Addr} (r:Rep K H (.ins cn es) v fp) (hn:PySem.W.nsIn K mainGlobals cn=some (some (.ref C))) (nd:fp.Nodup) (e:es.lookup f=some d0) :
  ∃ a dx fs u gf,v=.ref a∧H a=some (.ins C dx fs)∧fs.lookup f=some u∧Rep K H d0 u gf∧gf.Nodup∧(∀ b∈gf,b∈fp)∧∀ (H':Hp) (d1:D) (g1:List Addr),Imm H H'→(∀ b o,b∉gf→H b=some o→H' b=some o)→Rep K H' d1 u g1→g1.Nodup→(∀ b∈g1,b∈gf∨H b=none) →
   ∃ fp1,Rep K H' (.ins cn (putFD f d1 es)) v fp1∧fp1.Nodup∧∀ b∈fp1,b∈fp∨H b=none:=by
 obtain ⟨a,dx,fs,g,rfl,rfl,h1,h2,h3,h4⟩:=r.ins_of hn
 obtain ⟨n1,n2⟩:=List.nodup_cons.mp nd
 obtain ⟨n3,n4⟩:=List.nodup_cons.mp n2
 obtain ⟨u,gf,c1,c2,c3,c4,c5⟩:=Reps.place h3 h4 n4 e
 refine ⟨a,dx,fs,u,gf,rfl,h1,c1,c2,c3,fun b m=>List.mem_cons_of_mem _ (List.mem_cons_of_mem _ (c4 b m)),fun H' d1 g1 im kp rr m1 fr=>?_⟩
 obtain ⟨g',e1,e2,e3⟩:=c5 H' d1 g1 im kp rr m1 fr
 have ka:H' a=some (.ins C dx fs):=kp a _ (fun q=>n1 (List.mem_cons_of_mem _ (c4 a q))) h1
 have kd:H' dx=some (.own a):=kp dx _ (fun q=>n3 (c4 dx q)) h2
 refine ⟨a::dx::g',.ins hn ka kd (by rw [putFD_same e];exact h3) e1,?_,fun b m=>?_⟩
 ·refine List.nodup_cons.mpr ⟨fun m=>?_,List.nodup_cons.mpr ⟨fun m=>?_,e2⟩⟩
  ·rcases List.mem_cons.mp m with q | m
   ·exact n1 (by rw [q];exact List.mem_cons_self)
   ·rcases e3 a m with q | q
    ·exact n1 (List.mem_cons_of_mem _ q)
    ·rw [h1] at q;cases q
  ·rcases e3 dx m with q | q
   ·exact n3 q
   ·rw [h2] at q;cases q
 ·rcases List.mem_cons.mp m with q | m
  ·exact .inl (by rw [q];exact List.mem_cons_self)
  ·rcases List.mem_cons.mp m with q | m
   ·exact .inl (by rw [q];exact List.mem_cons_of_mem _ List.mem_cons_self)
   ·exact (e3 b m).imp (fun q=>List.mem_cons_of_mem _ (List.mem_cons_of_mem _ q)) id
end
def sFldSet (i:Nat) (cn f:Str) (fv:EF):SF:=fun ρ=>match fv ρ,ρ[i]? with
 | some (d,t),some (some (.ins c es,.own))=>if c=cn∧es.length < 1000∧(isOwn t||imm d)=true then some (.nx (mutS ρ i (.ins c (putFD f d es)))) else none
 | _,_=>none
section
variable {X:Cx}{a:Expr}{fv:EF}{pos pos' p1 p2 p3:Pos}{x cn f:Str}{C:Addr}
theorem fs_fldSet (i:Nat) (hC:ClsAt X.K cn C) (na:NoAttr X.K C f) (hv:FP X a fv) (hN:X.N[i]? = some x:=by rfl) (hvis:Vis X.env.scope x:=by first | exact Or.inl rfl | exact Or.inr (Or.inl rfl) | exact Or.inr (Or.inr rfl)) (hd:(x == ("__debug__":Str))=false:=by decide)
  (hcd:(x == ("__classdict__":Str))=false:=by decide) (hs:swapsWith a (some (.Attribute (.Name x p1) f pos')) pos.line X.env=pure false:=by rfl):FS1 X (.Assign [.Attribute (.Name x p1) f pos'] a pos) (sFldSet i cn f fv):=by
 obtain ⟨t,p,q⟩:=hv
 refine ⟨_,ps_fld (pe_var (i:=i) hN hvis hd hcd) p hs,fun H0 S z held ρ σ H E o ok e k=>?_⟩
 unfold sFldSet at e
 split at e
 ·rename_i d tg c es h1 h2
  by_cases hc:c=cn∧es.length < 1000∧(isOwn tg||imm d)=true
  ·rw [if_pos hc] at e
   cases e
   obtain ⟨rfl,hl,ho⟩:=hc
   obtain ⟨v,fp0,hs',r0,zz⟩:=ok.sl i _ _ h2
   refine q H0 S z held ρ σ H _ d tg ok h1 fun H1 y fd s1 r1 g1=>?_
   refine ⟨v,hs',?_⟩
   obtain ⟨b,dx,fs,g,rfl,rfl,h3,h4,h5,h6⟩:=(r0.same s1).ins_of hC.ns
   have lf:fs.length < 1000:=by have:=congrArg List.length h5;rw [List.length_map,List.length_map] at this;omega
   refine ⟨b,C,dx,fs,rfl,h3,hC.cl,na,lf,?_⟩
   have ndf:fd.Nodup∧∀ c∈fd,c∉(b::dx::g):=by
    rcases (Bool.or_eq_true _ _).mp ho with h | h
    ·have g:fd.Nodup∧∀ a∈fd,H a=none:=by cases tg <;> first | exact g1 | cases h
     refine ⟨g.1,fun c m n=>?_⟩
     obtain ⟨⟨o,w⟩,_⟩:=ok.zd c i (zz.2 c n)
     rw [g.2 c m] at w;cases w
    ·have:=r1.imm h
     subst this
     exact ⟨List.nodup_nil,fun c m=>(nomatch m)⟩
   have zz1:=zz
   obtain ⟨n1,n2⟩:=List.nodup_cons.mp zz.1
   obtain ⟨n3,n4⟩:=List.nodup_cons.mp n2
   have im:Imm H1 (upd H1 b (.ins C dx (L2.putF f y fs))):=Imm.upd h3 rfl
   have kp:∀ c o,c∉(b::dx::g)→H1 c=some o→upd H1 b (.ins C dx (L2.putF f y fs)) c=some o:=fun c o n e=>by rw [upd_ne fun q=>n (by rw [q];exact List.mem_cons_self)];exact e
   have rd':Rep X.K (upd H1 b (.ins C dx (L2.putF f y fs))) d y fd:=r1.frame (fun c m=>upd_ne fun q=>ndf.2 c m (by rw [q];exact List.mem_cons_self)) im
   have rs':Reps X.K (upd H1 b (.ins C dx (L2.putF f y fs))) (es.map (·.2)) (fs.map (·.2)) g:=h6.frame (fun c m=>upd_ne fun q=>n1 (by rw [← q];exact List.mem_cons_of_mem _ m)) im
   obtain ⟨g',c1,c2,c3⟩:=Reps.putF (f:=f) rd' h5 rs'
   have nd':(b::dx::g').Nodup:=by
    refine List.nodup_cons.mpr ⟨fun m=>?_,List.nodup_cons.mpr ⟨fun m=>?_,c3 n4 ndf.1 fun c m n=>ndf.2 c m (List.mem_cons_of_mem _ (List.mem_cons_of_mem _ n))⟩⟩
    ·rcases List.mem_cons.mp m with q | m
     ·exact n1 (by rw [q];exact List.mem_cons_self)
     ·rcases c2 b m with q | q
      ·exact n1 (List.mem_cons_of_mem _ q)
      ·exact ndf.2 b q List.mem_cons_self
    ·rcases c2 dx m with q | q
     ·exact n3 q
     ·exact ndf.2 dx q (List.mem_cons_of_mem _ List.mem_cons_self)
   obtain ⟨z',ok'⟩:=ok.put (fp1:=b::dx::g') (d1:=.ins c (putFD f d es)) h2 hs' zz ((Imm.of s1).trans im) (fun c o n e=>kp c o n (s1 c o e)) (.ins hC.ns upd_same (by rw [upd_ne fun q=>n1 (by rw [q];exact List.mem_cons_self)];exact h4) (putFD_keys h5) c1) nd' fun c m=>by
    rcases List.mem_cons.mp m with q | m
    ·exact .inl (by rw [q];exact List.mem_cons_self)
    ·rcases List.mem_cons.mp m with q | m
     ·exact .inl (by rw [q];exact List.mem_cons_of_mem _ List.mem_cons_self)
     ·rcases c2 c m with q | q
      ·exact .inl (List.mem_cons_of_mem _ (List.mem_cons_of_mem _ q))
      ·rcases (Bool.or_eq_true _ _).mp ho with h | h
       ·have g:fd.Nodup∧∀ a∈fd,H a=none:=by cases tg <;> first | exact g1 | cases h
        exact .inr (g.2 c q)
       ·have:=r1.imm h
        rw [this] at q;cases q
   exact k z' σ _ ok' (.refl _ _)
  ·rw [if_neg hc] at e;cases e
 ·cases e
end
section
variable {X:Cx}{a b:Expr}{fa fb:EF}{p pos:Pos}
def oMax2:D→D→Option D
 | .int i,.int j=>some (.int (if j > i then j else i))
 | _,_=>none
def oNeg:D→Option D
 | .int i=>some (.int (-i))
 | _=>none
theorem fp_neg (ha:FP X a fa):FP X (.UnaryOp .USub a pos) (e1 oNeg fa):=by
 obtain ⟨t,pa,q⟩:=ha
 refine ⟨_,pe_un un_neg pa,fun H0 S z held ρ σ H Q d tg ok e k=>?_⟩
 obtain ⟨d1,t1,g1,g2,rfl⟩:=e1_of e
 refine q H0 S z held ρ σ H _ d1 t1 ok g1 fun H1 x f1 s1 r1 _=>?_
 cases r1 <;> cases g2
 exact ⟨_,rfl,k H1 _ [] s1 (.int _) .nil⟩
end
section
variable {X:Cx}{a b c:Expr}{fa fb fc fv:EF}{p p1 p2 p3 pos:Pos}
theorem fp_globI {x:Str}{n:Int}{tk:Tok} (hm:X.mg x=some (.int n tk)) (hg:Gl X x:=by rfl) (hd:(x == ("__debug__":Str))=false:=by decide):FP X (.Name x pos) (eC (.int n)):=
 ⟨_,pe_glob hg hm (v:=.int n) ⟨_,rfl⟩ hd,fun _ _ _ _ _ _ H _ _ _ _ e q=>by cases e;exact q H _ _ (Same.refl H) (.int n) .nil⟩
def eChain (o o':D→D→Option D) (fa fb fc:EF):EF:=fun ρ=>match fa ρ,fb ρ with
 | some (d1,_),some (d2,_)=>match o d1 d2 with
  | some (.bl true)=>match fc ρ with
   | some (d3,_)=>(o' d2 d3).map fun d=>(d,.own)
   | none=>none
  | some (.bl false)=>some (.bl false,.own)
  | _=>none
 | _,_=>none
theorem fp_chain {op op':CmpOp}{r r':R2}{o o':D→D→Option D} (ho:OpR X (compareOp op) r) (ho':OpR X (compareOp op') r') (dd:Does2 X.K r o) (dd':Does2 X.K r' o') (ha:FP X a fa) (hb:FP X b fb) (hc:FP X c fc) (hm:lastMarks [op,op'] [b,c]=false:=by with_unfolding_all rfl) :
  FP X (.Compare a [op,op'] [b,c] pos) (eChain o o' fa fb fc):=by
 obtain ⟨ta,pa,sa⟩:=ha
 obtain ⟨tb,pb,sb⟩:=hb
 obtain ⟨tc,pc,sc⟩:=hc
 refine ⟨_,pe_chain ho ho' pa pb pc hm,fun H0 S z held ρ σ H Q d tg ok e k=>?_⟩
 unfold eChain at e
 split at e
 ·rename_i d1 t1 d2 t2 e1 e2
  refine sa H0 S z held ρ σ H _ d1 t1 ok e1 fun H1 x f1 s1 r1 _=>?_
  refine sb H0 S z held ρ σ H1 _ d2 t2 (ok.same s1) e2 fun H2 y f2 s2 r2 _=>?_
  cases h:o d1 d2 with
  | none=>rw [h] at e;cases e
  | some w=>
   refine dd H2 x y d1 d2 f1 f2 w _ (r1.same s2) r2 h fun H3 u s3 r3=>?_
   rw [h] at e
   cases w <;> try (cases e;done)
   rename_i b'
   cases r3
   refine ⟨b',rfl,?_⟩
   cases b' with
   | false=>
    cases e
    rw [if_neg Bool.false_ne_true]
    exact k H3 _ [] ((s1.trans s2).trans s3) (.bl false) .nil
   | true=>
    rw [if_pos rfl]
    dsimp only at e
    cases h3:fc ρ with
    | none=>rw [h3] at e;cases e
    | some w3=>
     obtain ⟨d3,t3⟩:=w3
     rw [h3] at e
     dsimp only at e
     cases h4:o' d2 d3 with
     | none=>rw [h4] at e;cases e
     | some d4=>
      rw [h4] at e
      cases e
      refine sc H0 S z held ρ σ H3 _ d3 t3 (((ok.same s1).same s2).same s3) h3 fun H4 w' f4 s4 r4 _=>?_
      exact dd' H4 y w' d2 d3 f2 f4 d Q ((r2.same s3).same s4) r4 h4 fun H5 v5 s5 r5=>k H5 v5 [] ((((s1.trans s2).trans s3).trans s4).trans s5) r5 .nil
 ·cases e
theorem fp_le2 (ha:FP X a fa) (hb:FP X b fb) (hc:FP X c fc) (hm:lastMarks [.LtE,.LtE] [b,c]=false:=by with_unfolding_all rfl):FP X (.Compare a [.LtE,.LtE] [b,c] pos) (eChain oLe oLe fa fb fc):=fp_chain op_le op_le does_iB does_iB ha hb hc hm
end
section
variable {X:Cx}{a b o:Expr}{fa fb fv fo:EF}{p p1 p2 p3 pos:Pos}{x cn f:Str}{C:Addr}
def sAppO (i:Nat) (fv:EF):SF:=fun ρ=>match fv ρ,ρ[i]? with
 | some (d,t),some (some (.lst ds,.own))=>if ((isOwn t||imm d)&&decide (ds.length < sizeLine))=true then some (.nx (mutS ρ i (.lst (ds++[d])))) else none
 | _,_=>none
theorem fs_appO (i:Nat) (hv:FP X a fv) (hN:X.N[i]? = some x:=by rfl) (hvis:Vis X.env.scope x:=by first | exact Or.inl rfl | exact Or.inr (Or.inl rfl) | exact Or.inr (Or.inr rfl))
  (hd:(x == ("__debug__":Str))=false:=by decide) (hcd:(x == ("__classdict__":Str))=false:=by decide) (hs:starEach [a] X.env=[(false,eval a X.env)]:=by rfl)
  (hbase:attributeBase (.Name x p1) "append" X.env (eval (.Name x p1) X.env)=eval (.Name x p1) X.env:=by rfl)
  (hfew:((backTo p3 (starEach [a] X.env)).all (fun x=>!x.1)&&(backToKw p3 (keywordEach [] X.env)).all (fun x=>x.1.isSome)&&decide ([a].length + ([]:List Keyword).length + (if ([]:List Keyword).isEmpty then 0 else 1) < 30))=true:=by rfl)
  (hline:(p2.endLine == p3.line)=true:=by rfl) (hsw:swapsWith (.Call (.Attribute (.Name x p1) "append" p2) [a] [] p3) none pos.line X.env=pure false:=by rfl) :
  FS1 X (.Expr (.Call (.Attribute (.Name x p1) "append" p2) [a] [] p3) pos) (sAppO i fv):=by
 obtain ⟨tv,pv',sv⟩:=hv
 refine ⟨_,ps_expr (pe_bm PySem.F.plainAttrs_list PySem.F.slot_list_append PySem.F.type_list_append mt_append (pe_var (i:=i) hN hvis hd hcd) (pa_cons pv' pa_nil hs) hbase hfew hline hs rfl) hsw,fun H0 S z held ρ σ H E o ok e q=>?_⟩
 unfold sAppO at e
 split at e
 ·rename_i d td ds g1 g2
  by_cases hc:((isOwn td||imm d)&&decide (ds.length < sizeLine))=true
  ·rw [if_pos hc] at e
   cases e
   obtain ⟨c1,c3⟩:=(Bool.and_eq_true _ _).mp hc
   obtain ⟨xv,fp,hs',r,zz⟩:=ok.sl i _ _ g2
   refine ⟨xv,hs',?_⟩
   obtain ⟨l,xs,f,rfl,hq,_,_⟩:=r.lst_of
   refine ⟨.inl ⟨rfl,_,hq⟩,?_⟩
   refine sv H0 S z held ρ σ H _ d td ok g1 fun H1 v fd s1 rv gv=>?_
   have r':=r.same s1
   generalize hw:(V.ref l)=w at r' hs'
   cases r' with
   | @lst a' ys _ f' h rs=>
    cases hw
    have ndf:fd.Nodup∧(∀ c∈fd,c∉(l::f'))∧∀ c∈fd,H c=none:=by
     rcases (Bool.or_eq_true _ _).mp c1 with hh | hh
     ·have g:fd.Nodup∧∀ a∈fd,H a=none:=by cases td <;> first | exact gv | cases hh
      refine ⟨g.1,fun c m n=>?_,g.2⟩
      obtain ⟨⟨o,w⟩,_⟩:=ok.zd c i (zz.2 c n)
      rw [g.2 c m] at w;cases w
     ·have:=rv.imm hh
      subst this
      exact ⟨List.nodup_nil,fun c m=>(nomatch m),fun c m=>(nomatch m)⟩
    refine ⟨_,ys,v,rfl,rfl,h,by rw [← rs.length];exact of_decide_eq_true c3,?_⟩
    obtain ⟨n1,n2⟩:=List.nodup_cons.mp zz.1
    have im:Imm H1 (upd H1 l (.lst (ys++[v]))):=Imm.upd h rfl
    have rs':=rs.frame (H':=upd H1 l (.lst (ys++[v]))) (fun c m=>upd_ne fun q=>n1 (by rw [← q];exact m)) im
    have rd':=rv.frame (H':=upd H1 l (.lst (ys++[v]))) (fun c m=>upd_ne fun q=>ndf.2.1 c m (by rw [q];exact List.mem_cons_self)) im
    have nd1:(l::(f'++(fd++[]))).Nodup:=by
     rw [List.append_nil]
     refine List.nodup_cons.mpr ⟨fun m=>?_,List.nodup_append.mpr ⟨n2,ndf.1,fun c mc e me ee=>ndf.2.1 e me (by rw [← ee];exact List.mem_cons_of_mem _ mc)⟩⟩
     rcases List.mem_append.mp m with m | m
     ·exact n1 m
     ·exact ndf.2.1 l m List.mem_cons_self
    have fr1:∀ c∈l::(f'++(fd++[])),c∈l::f'∨H c=none:=by
     intro c m
     rw [List.append_nil] at m
     rcases List.mem_cons.mp m with q | m
     ·exact .inl (by rw [q];exact List.mem_cons_self)
     ·rcases List.mem_append.mp m with m | m
      ·exact .inl (List.mem_cons_of_mem _ m)
      ·exact .inr (ndf.2.2 c m)
    obtain ⟨z',ok'⟩:=ok.put (fp1:=l::(f'++(fd++[]))) (d1:=.lst (ds++[d])) g2 hs' zz ((Imm.of s1).trans im) (fun c o n e=>by rw [upd_ne fun q=>n (by rw [q];exact List.mem_cons_self)];exact s1 c o e)
     (.lst upd_same (Reps.append rs' (.cons rd' .nil))) nd1 fr1
    exact q z' σ _ ok' (.refl _ _)
  ·rw [if_neg hc] at e;cases e
 ·cases e
def sFldApp (i:Nat) (cn f:Str) (fv:EF):SF:=fun ρ=>match fv ρ,ρ[i]? with
 | some (d,_),some (some (.ins c es,.own))=>if c=cn then (match es.lookup f with
  | some (.lst ds)=>if (imm d&&immAll ds&&decide (ds.length < sizeLine))=true then some (.nx (mutS ρ i (.ins c (putFD f (.lst (ds++[d])) es)))) else none
  | _=>none) else none
 | _,_=>none
theorem fs_fldApp (i:Nat) (hC:ClsAt X.K cn C) (na:NoAttr X.K C f) (hv:FP X a fv) (hN:X.N[i]? = some x:=by rfl) (hvis:Vis X.env.scope x:=by first | exact Or.inl rfl | exact Or.inr (Or.inl rfl) | exact Or.inr (Or.inr rfl))
  (hd:(x == ("__debug__":Str))=false:=by decide) (hcd:(x == ("__classdict__":Str))=false:=by decide) (hs:starEach [a] X.env=[(false,eval a X.env)]:=by rfl)
  (hb:attributeBase (.Name x p) f X.env (eval (.Name x p) X.env)=eval (.Name x p) X.env:=by rfl)
  (hbase:attributeBase (.Attribute (.Name x p) f p1) "append" X.env (eval (.Attribute (.Name x p) f p1) X.env)=eval (.Attribute (.Name x p) f p1) X.env:=by rfl)
  (hfew:((backTo p3 (starEach [a] X.env)).all (fun x=>!x.1)&&(backToKw p3 (keywordEach [] X.env)).all (fun x=>x.1.isSome)&&decide ([a].length + ([]:List Keyword).length + (if ([]:List Keyword).isEmpty then 0 else 1) < 30))=true:=by rfl)
  (hline:(p2.endLine == p3.line)=true:=by rfl) (hsw:swapsWith (.Call (.Attribute (.Attribute (.Name x p) f p1) "append" p2) [a] [] p3) none pos.line X.env=pure false:=by rfl) :
  FS1 X (.Expr (.Call (.Attribute (.Attribute (.Name x p) f p1) "append" p2) [a] [] p3) pos) (sFldApp i cn f fv):=by
 obtain ⟨tv,pv',sv⟩:=hv
 refine ⟨_,ps_expr (pe_bm PySem.F.plainAttrs_list PySem.F.slot_list_append PySem.F.type_list_append mt_append (pe_fld (pe_var (i:=i) hN hvis hd hcd) hb) (pa_cons pv' pa_nil hs) hbase hfew hline hs rfl) hsw,fun H0 S z held ρ σ H E o ok e q=>?_⟩
 unfold sFldApp at e
 split at e
 ·rename_i d td c es g1 g2
  by_cases hc:c=cn
  ·subst hc
   rw [if_pos rfl] at e
   split at e
   ·rename_i ds hl
    by_cases hc:(imm d&&immAll ds&&decide (ds.length < sizeLine))=true
    ·rw [if_pos hc] at e
     cases e
     obtain ⟨c1,c3⟩:=(Bool.and_eq_true _ _).mp hc
     obtain ⟨c1,c2⟩:=(Bool.and_eq_true _ _).mp c1
     obtain ⟨xv,fp,hs',r,zz⟩:=ok.sl i _ _ g2
     refine ⟨xv,hs',?_⟩
     obtain ⟨b0,dx,fs,u,gf,rfl,h1,h2,h3,h4,h5,h6⟩:=r.place hC.ns zz.1 hl
     refine ⟨b0,C,dx,fs,u,rfl,h1,hC.cl,na,h2,?_⟩
     obtain ⟨l,xs,f0,rfl,hq,_,_⟩:=h3.lst_of
     refine ⟨.inl ⟨rfl,_,hq⟩,?_⟩
     refine sv H0 S z held ρ σ H _ d td ok g1 fun H1 v fd s1 rv gv=>?_
     have hn:=rv.imm c1
     subst hn
     generalize hw:(V.ref l)=w at h3 h6
     cases h3 with
     | @lst a' ys _ f' h rs=>
      cases hw
      have hn:=rs.imm c2
      subst hn
      have hl1:=s1 _ _ h
      refine ⟨_,ys,v,rfl,rfl,hl1,by rw [← rs.length];exact of_decide_eq_true c3,?_⟩
      have im:Imm H1 (upd H1 l (.lst (ys++[v]))):=Imm.upd hl1 rfl
      obtain ⟨fp1,k1,k2,k3⟩:=h6 (upd H1 l (.lst (ys++[v]))) (.lst (ds++[d])) [l] ((Imm.of s1).trans im) (fun c o n e=>by rw [upd_ne fun q=>n (by rw [q];exact List.mem_cons_self)];exact s1 c o e)
       (.lst upd_same (Reps.append (f:=[]) (g:=[]) ((rs.same s1).frame (fun a m=>nomatch m) im) (Reps.cons (f1:=[]) (f2:=[]) (rv.frame (fun a m=>nomatch m) im) .nil))) h4 (fun c m=>.inl m)
      obtain ⟨z',ok'⟩:=ok.put g2 hs' zz ((Imm.of s1).trans im) (fun c o n e=>by rw [upd_ne fun q=>n (by rw [q];exact h5 l List.mem_cons_self)];exact s1 c o e) k1 k2 k3
      exact q z' σ _ ok' (.refl _ _)
    ·rw [if_neg hc] at e;cases e
   ·cases e
  ·rw [if_neg hc] at e;cases e
 ·cases e
end
end L2.Ev
namespace L2
open PySem PySem.Spec PyProof.Rows
def Ite (K:PySem.W.Frag) (l:Addr):It:=
  ⟨fun i H=>∃ xs x,SqL K H l xs∧xs[i]? = some x,
   fun i H v H'=>∃ T x,H T=none∧v=.ref T∧H'=upd H T (.tup [.int i,x])∧∀ xs,SqL K H l xs→xs[i]? = some x,
   fun i H=>∃ xs,SqL K H l xs∧xs.length≤i,false⟩
def EnSt (e it l:Addr) (i:Nat) (h:Heap):Prop:=(∃ old,IsEnum h e it i old)∧h.IsListIter it l i
theorem turn_enum {P:Program}{w:World}{K:PySem.W.Frag}{elts:List Expr} {x1}{pos:Pos}{e it l:Addr} (hne:e≠it) :
  Turn P w K (.Tuple elts x1 pos) (Ite K l) [e,it] e (EnSt e it l) where
 mem:=by simp
 obj:=fun i h st b hb=>by
  obtain ⟨⟨old,s1⟩,⟨o4,e4,c4,d4⟩⟩:=st
  simp only [List.mem_cons,List.not_mem_nil,or_false] at hb
  rcases hb with rfl | rfl
  ·exact ⟨_,s1,fun v q=>by cases q⟩
  ·exact ⟨o4,e4,fun v q=>by rw [d4] at q;cases q⟩
 keep:=fun i h h' st k=>by
  obtain ⟨⟨old,s1⟩,s4⟩:=st
  exact ⟨⟨old,k _ (by simp) _ s1⟩,s4.at fun o e=>k _ (by simp) o e⟩
 item:=by
  intro X hP hw hK hc i pins s σ H E I hf st hg
  subst hP hw hK
  obtain ⟨⟨old,s1⟩,s4⟩:=st
  obtain ⟨xs,x,q1,e1⟩:=hg
  obtain ⟨us,v1,p1,z1⟩:=I.list q1
  obtain ⟨u,hu,ru⟩:=v1.get e1
  refine wpAny_pyNext_enum_item s1 s4 p1.isList (x:=u) (by simpa using hu) hne fun h' a1 a2 a3 a4 a5=>⟨_,rfl,?_⟩
  refine wpAny_letOwnedTupleGo_enum a1 fun h'' b1 b2=>?_
  have lz:e < s.heap.objs.size:=Heap.lt_size s1
  have nz:s.heap.objs.size≠e:=Nat.ne_of_gt lz
  have T2:h''.get? s.heap.objs.size=some { cls:=.type "tuple",data:=.seq #[.int i s.toks,u] }:=b2.extBut _ _ nz a3
  have nT:H s.heap.objs.size=none:=I.hok.fresh (Nat.le_refl _)
  have I1:Inv X pins σ (upd H s.heap.objs.size (.tup [.int i,x])) { s with heap:=h'',toks:=s.toks + 1 }:=I.turnNew (t':=s.toks + 1) (ch:=[e,it]) (fun b m=>hf b m) (fun b o m q=>by
    simp only [List.mem_cons,List.not_mem_nil,or_false,not_or] at m
    exact b2.extBut _ _ m.1 (a5 b o m.1 m.2 q)) (Nat.le_refl _) (show ObjOk X.prog X.w _ h'' _ (.tup [.int i,x]) from ⟨show 2≤sizeLine by unfold sizeLine;omega,[.int i s.toks,u],.cons ⟨_,rfl⟩ (.cons ru .nil),⟨_,T2,rfl,rfl,_,rfl⟩⟩)
  refine ⟨.ref s.heap.objs.size,_,I1,rfl,⟨_,x,nT,rfl,rfl,fun xs' h=>by rw [I.list_inj h q1];exact e1⟩,?_,fun b m=>?_⟩
  ·exact ⟨⟨u,b1⟩,a2.at fun o q=>b2.extBut _ o (Ne.symm hne) q⟩
  ·rw [upd_ne]
   ·exact (hf b m).1
   ·rintro rfl
    obtain ⟨o4,e4,_⟩:=id s4
    simp only [List.mem_cons,List.not_mem_nil,or_false] at m
    rcases m with m | m
    ·exact nz m
    ·exact absurd (Heap.lt_size e4) (by rw [← m];exact Nat.lt_irrefl _)
 done:=by
  intro X hP hw hK hc i pins s σ H E I hf st hg
  subst hP hw hK
  obtain ⟨⟨old,s1⟩,s4⟩:=st
  obtain ⟨xs,q1,e1⟩:=hg
  obtain ⟨us,v1,p1,z1⟩:=I.list q1
  have l1:=v1.length
  refine wpAny_pyNext_enum_end (I.ok.hd (hc.resolve_right fun z=>Bool.false_ne_true z)) s1 s4 p1.isList (by simp;omega) fun h' k=>⟨rfl,I.turnL (t':=s.toks) (ch:=[it]) (fun b m=>hf b (by
    simp only [List.mem_cons,List.not_mem_nil,or_false] at m ⊢
    exact .inr m)) fun b o m q=>?_⟩
  simp only [List.mem_cons,List.not_mem_nil,or_false] at m
  exact k b o m q
 self:=fun _ _ _ _ _ st h=>let ⟨⟨_,s1⟩,_⟩:=st;wpAny_pyIter_enum s1 h
section
variable {X:Cx}{elts:List Expr}{tp:Pos}{a b:Expr}{ta:TA}{p pos:Pos}
theorem boot_enumerate:bootBuiltins "enumerate"=some (.type "enumerate"):=by decide +kernel
def iEnum (K:PySem.W.Frag) (ta:TA):TI:=fun σ H R=>ta σ H fun vs H1=>∃ l xs,vs=[.ref l]∧SqL K H1 l xs∧R (Ite K l) H1
theorem pi_enum {x1} (hg:Gl X "enumerate") (hm:X.mg "enumerate"=none) (ha:PA X [a] ta) (hs:starEach [a] X.env=[(false,eval a X.env)]:=by rfl) :
  PI X (.Tuple elts x1 tp) (.Call (.Name "enumerate" p) [a] [] pos) (iEnum X.K ta):=by
 intro pins s σ H R I h
 refine wpAny_Call_Name_kw (ld_blt I hg hm boot_enumerate (PyProof.Rows.callWith_type1 (thn (ha pos pins s σ H _ I h) fun us s1 ⟨vs,H1,I1,r1,q1⟩=>?_) (by rw [hs];rfl) rfl))
 obtain ⟨l1,xs,rfl,h1,q⟩:=q1
 obtain ⟨u,rfl,ru⟩:=r1.one
 cases ru
 obtain ⟨us,v1,p1,z1⟩:=I1.list h1
 refine call_enumerate_list p1.isList fun h' g1 g2 g3 k=>?_
 refine wpAny_pyIter_enum g1 ?_
 refine ⟨_,_,_,_,H1,rfl,I1.kept (t':=s1.toks) k,turn_enum (Nat.ne_of_gt (Nat.lt_succ_self _)),⟨⟨_,g1⟩,g2⟩,fun c hc=>?_,q⟩
 have up:∀ j,FpOk X pins H1 (s1.heap.objs.size + j):=fun j=>I1.fpOk (Nat.le_add_right _ _) (I1.hok.fresh (Nat.le_add_right _ _))
 simp only [List.mem_cons,List.not_mem_nil,or_false] at hc
 rcases hc with rfl | rfl
 ·exact up 1
 ·exact up 0
end
end L2
namespace L2.Ev
open PySem PySem.Spec PyProof.Rows
section
variable {X:Cx}{elts:List Expr}{tp:Pos}{a b c:Expr}{fa fb fv:EF}{p p1 p2 p3 pos pos':Pos}{x:Str}
def iEnF (fa:EF):IF:=fun ρ=>match fa ρ with
 | some (.lst ds,t)=>if immAll ds=true then some ((List.range ds.length).map fun i:Nat=>D.tup [.int i,ds.getD i .non],joinA [(.lst ds,t)]) else none
 | _=>none
theorem itOk_enum {K:PySem.W.Frag}{l1:Addr}{ds:List D}{f1:List Addr} (c1:immAll ds=true) :
  ItOk K (Ite K l1) ((List.range ds.length).map fun i:Nat=>D.tup [.int i,ds.getD i .non]) [⟨.lst ds,.ref l1,f1⟩]:=by
 intro H i hh
 obtain ⟨p1,xs,g1,e1,q1,r1,_⟩:=(hh _ List.mem_cons_self).lst_of
 cases e1
 have n1:=r1.imm c1
 subst n1
 refine ⟨fun d hd=>?_,fun hl=>?_⟩
 ·rw [List.getElem?_map] at hd
  cases hz:(List.range ds.length)[i]? with
  | none=>rw [hz] at hd;cases hd
  | some j=>
   rw [hz] at hd
   cases hd
   obtain ⟨hi,ej⟩:=List.getElem?_eq_some_iff.mp hz
   rw [List.getElem_range] at ej
   subst ej
   rw [List.length_range] at hi
   obtain ⟨y,hy,ry⟩:=r1.get0 (List.getElem?_eq_getElem hi)
   refine ⟨⟨xs,y,q1,hy⟩,fun v H1 hv=>?_⟩
   obtain ⟨T,a,hT,rfl,rfl,ha⟩:=hv
   have ea:=ha xs q1
   rw [hy] at ea
   cases ea
   have s2:Same H (upd H T (.tup [.int i,y])):=fun b o e=>by rw [upd_ne (ne_of_none e hT)];exact e
   have eg:ds.getD i .non=ds[i]:=by rw [List.getD_eq_getElem?_getD,List.getElem?_eq_getElem hi];rfl
   dsimp only
   rw [eg]
   exact ⟨s2,[],.tup (SqT.of upd_same) (Reps.cons (f1:=[]) (f2:=[]) (.int _) (Reps.cons (f1:=[]) (f2:=[]) (ry.same s2) .nil)),fun a m=>nomatch m⟩
 ·rw [List.length_map,List.length_range,r1.length] at hl
  exact ⟨xs,q1,hl⟩
theorem fi_enum {x1} (hm:X.mg "enumerate"=none) (ha:FP X a fa) (hg:Gl X "enumerate":=by rfl) (hs:starEach [a] X.env=[(false,eval a X.env)]:=by rfl) :
  FI X (.Tuple elts x1 tp) (.Call (.Name "enumerate" p) [a] [] pos) (iEnF fa):=by
 obtain ⟨t,pa,hlen,q⟩:=fa_cons ha fa_nil (by rw [hs];rfl)
 refine ⟨_,pi_enum hg hm pa hs,fun H0 S z held ρ σ H R ds tg ok e k=>?_⟩
 unfold iEnF at e
 split at e
 ·rename_i d1 t1 h1
  by_cases hc:immAll d1=true
  ·rw [if_pos hc] at e
   cases e
   refine q H0 S z held ρ σ H _ [(.lst d1,t1)] ok (by unfold aCons aNil;rw [h1]) fun H1 vs fp s1 r g=>?_
   cases r with
   | @cons _ v1 _ _ f1 _ r1 r=>
    cases r
    obtain ⟨l1,xs,g1,rfl,q1,_,_⟩:=r1.lst_of
    refine ⟨l1,xs,rfl,q1,k H1 _ [⟨.lst d1,.ref l1,f1⟩] s1 (fun h m=>?_) (itOk_enum hc)⟩
    have go:=g.over ok
    cases List.mem_singleton.mp m
    exact ⟨r1,fun a ma=>go a (List.mem_append_left _ ma)⟩
  ·rw [if_neg hc] at e;cases e
 ·cases e
end
end L2.Ev
namespace L2.SetT
open PySem
def Rs (t:SetTable):Prop:=t.place.toList.Pairwise (· < ·)∧t.dummies=#[]
def Tl (t:SetTable) (led:Bool):Prop:=t.led=led∧Rs t
section
variable {prog:Program}{w:World}{K:Type} [DecidableEq K] (knd:KeyKind prog w K)
structure Full (S:K→Bool) (led:Bool) (es:Array (Int×Value)) (t:SetTable):Prop where
 el:ElemsOf knd es.toList
 me:∀ k,S k=true↔∃ e∈es.toList,knd.is k e.2=true
 bd:es.size < scanBound
 ft:t.fits es.size=true
 tl:Tl t led
def SetL (h:Heap) (a:Addr) (S:K→Bool) (n:Nat) (led:Bool):Prop:=
 ∃ o es ep t,h.get? a=some o∧o.ExactSet∧o.data=.set es ep t∧ElemsOf knd es.toList∧(∀ k,S k=true↔∃ e∈es.toList,knd.is k e.2=true)
  ∧ es.size < scanBound∧t.fits es.size=true∧es.size=n∧Tl t led
variable {knd}
variable {A:Around}{E:Value→Shared→Prop}{s:Shared}{led:Bool}
theorem SetL_store {h:Heap}{a:Addr}{o:Obj}{es:Array (Int×Value)}{ep:Nat}{t:SetTable} (ho:h.get? a=some o) (hex:o.ExactSet) (hd:o.data=.set es ep t)
  {es':Array (Int×Value)}{t':SetTable}{S':K→Bool} (hel:ElemsOf knd es'.toList) (hmem:∀ k,S' k=true↔∃ e∈es'.toList,knd.is k e.2=true) (hb:es'.size < scanBound) (hf:t'.fits es'.size=true) (hl:Tl t' led) :
  (h.update a (Obj.putSet es' t')).get? a=some { o with data:=.set es' (ep + 1) t' }∧SetL knd (h.update a (Obj.putSet es' t')) a S' es'.size led:=by
 obtain ⟨hg,_⟩:=SetOf_store (knd:=knd) ho hex hd hel hmem hb hf
 exact ⟨hg,_,es',ep + 1,t',hg,hex,rfl,hel,hmem,hb,hf,rfl,hl⟩
theorem stored {a:Addr}{o:Obj}{es:Array (Int×Value)}{ep:Nat}{t:SetTable}{es':Array (Int×Value)}{t':SetTable}{S':K→Bool}{Q:Unit→Shared→Prop} (ho:s.heap.get? a=some o) (hex:o.ExactSet) (hd:o.data=.set es ep t) (f:Full knd S' led es' t')
  (h:∀ h',Heap.SameBut a s.heap h'→h'.get? a=some { o with data:=.set es' (ep + 1) t' }→SetL knd h' a S' es'.size led→Q () { s with heap:=h' }):wpAny (model prog w) A (storeSet a es' t') Q E s:=by
 obtain ⟨q1,q2⟩:=SetL_store (knd:=knd) (led:=led) ho hex hd f.el f.me f.bd f.ft f.tl
 exact wpAny_storeSet_of ho hd (h _ (Heap.SameBut.update s.heap a _) q1 q2) (fits_of_scanBound f.bd)
end
def IsSI (h:Heap) (I:Addr) (first:Value) (i:Nat) (a:Addr) (n ep:Nat):Prop:=∃ o,h.get? I=some o∧o.cls=.type "set_iterator"∧o.data=.fields #[first,.int i 0,.ref a,.int n 0,.int ep 0]
theorem IsSI.at {h h':Heap}{I a:Addr}{first:Value}{i n ep:Nat} (x:IsSI h I first i a n ep) (e:∀ o,h.get? I=some o→h'.get? I=some o):IsSI h' I first i a n ep:=let ⟨o,ho,r⟩:=x;⟨o,e o ho,r⟩
end L2.SetT
namespace L2.Ev
open PySem PySem.Spec PyProof.Rows L2.SetT
theorem srt_mem {l:List Int}{k:Int}:k∈srt l↔k∈l:=(srt_perm l).mem_iff
theorem srt_lt {l:List Int} (h:l.Nodup):(srt l).Pairwise (· < ·):=by
 have n:(srt l).Nodup:=(srt_perm l).nodup_iff.mpr h
 exact (List.Pairwise.and (srt_sorted l) n).imp fun ⟨a,b⟩=>Int.lt_iff_le_and_ne.mpr ⟨a,b⟩
end L2.Ev
namespace L2
open PySem PySem.Spec PyProof.Rows
section
variable {X:Cx}{pins:List (Addr×Obj)}{σ:St}{H:Hp}{s:Shared}
theorem gone_ok {M:Model}{A:Around}{E:Value→Shared→Prop}{i:Nat}{n:Str}{pos:Pos}{Q:Unit→Shared→Prop} (I:Inv X pins σ H s) (hN:X.N.Nodup) (hi:X.N[i]? = some n) (hk:X.env.scope.names.lookup n=some .local)
  (h:∀ s',Inv X pins (σ.set i none) H s'→Q () s'):wpAny M A (do bindName X.env n .none;unbindBehindTheSuite X.env n pos) Q E s:=by
 obtain ⟨m,hn,hl⟩:=id I.loc
 have hcls:(X.env.scope.kind == .class||(X.env.scope.kind == .module&&X.env.locals != X.env.globals))=false:=by rw [I.ok.kind];rfl
 have cne:=I.cne
 have lo:∀ {b:Addr}{o:Obj},X.s₀.heap.get? b=some o→b≠X.env.locals:=fun {b o} e=>Nat.ne_of_lt (Nat.lt_of_lt_of_le (Heap.lt_size e) I.ok.above)
 refine wpAny_nameGoes_keeps hk hn hcls fun h' v hn' hs=>?_
 refine h _ ⟨I.ok,I.os,I.bare,⟨fun b o e n hb hx=>(hs.2 b (lo e)).trans (I.base.keep b o e n hb hx),fun b o e n hb hx=>?_,I.base.free,fun b o e hx=>?_,I.base.tups,I.base.frzs,I.base.tbls⟩,⟨_,hn',fun j y v' e1 e2 e3=>?_⟩,fun y c e=>?_,I.free,I.freeC,fun p hp=>?_,
  I.hok.tracked fun b u o hb q=>(hs.2 b fun z=>by rw [z,I.free] at hb;cases hb).trans q,by simpa using I.len,I.hq⟩
 ·obtain ⟨sl,e1⟩:=I.base.slot b o e n hb hx
  exact ⟨sl,(hs.2 b (lo e)).trans e1⟩
 ·obtain ⟨o',e1⟩:=I.base.there b o e hx
  exact ⟨o',(hs.2 b (lo e)).trans e1⟩
 ·have hj:j≠i:=fun z=>by
   subst z
   have hlt:j < σ.length:=by rw [I.len];exact (List.getElem?_eq_some_iff.mp hi).1
   rw [List.getElem?_set_self hlt] at e2
   cases e2
  rw [List.getElem?_set_ne (Ne.symm hj)] at e2
  obtain ⟨u',r',q⟩:=hl j y v' e1 e2 e3
  refine ⟨u',r',?_⟩
  rcases q with ⟨k,e⟩ | ⟨k,c,e,z⟩
  ·refine .inl ⟨k,?_⟩
   have:y≠n:=fun e=>hj (nodup_ix hN e1 (e ▸ hi))
   exact (if_neg this).trans e
  ·exact .inr ⟨k,c,e,z.sameBut hs (cne y c e)⟩
 ·obtain ⟨w',z⟩:=I.cell y c e
  exact ⟨w',z.sameBut hs (cne y c e)⟩
 ·obtain ⟨e,n,ne,nf,d⟩:=I.pin p hp
  exact ⟨(hs.2 p.1 ne).trans e,n,ne,nf,d⟩
end
def Catches (K:PySem.W.Frag) (C D:Addr):Prop:=∃ nm q N bs bm hdct sn sub ab col dd k0 k1 k2 k3 k5 newId,K.lookup C=some (excClassObj nm q C N bs bm hdct sn sub ab col dd k0 k1 k2 k3 k5 newId) ∧
 ∃ nm' q' N' bs' bm' hdct' sn' sub' ab' col' dd' j0 j1 j2 j3 j5 newId',K.lookup D=some (excClassObj nm' q' D N' bs' bm' hdct' sn' sub' ab' col' dd' j0 j1 j2 j3 j5 newId')∧bm'.contains (.type "BaseException")=true∧(Value.ref C::bm).contains (.ref D)=true
section
variable {X:Cx}{pins:List (Addr×Obj)}{σ:St}{H:Hp}{s:Shared}{pay:Option Addr}{a C D:Addr}{x n:Str}{i:Nat}{px pos:Pos}{b0:Stmt}{suite:List Stmt}{W:Ends}
theorem match_ok {R:Result→Shared→Prop} (L:Landed X pins σ H a (.ref C) pay s) (cat:Catches X.K C D) (hg:Gl X x) (hm:X.mg x=some (.ref D)) (k:R (.ok .brk) s) (hdb:(x == ("__debug__":Str))=false:=by decide) :
  codeAny (model X.prog X.w) (X.A.mark (some (.ref a))) (.handlers (.ref a) [.ExceptHandler (some (.Name x px)) none [] pos] X.env) R s:=by
 obtain ⟨nm,q,N,bs,bm,hdct,sn,sub,ab,col,dd,k0,k1,k2,k3,k5,newId,hC,nm',q',N',bs',bm',hdct',sn',sub',ab',col',dd',j0,j1,j2,j3,j5,newId',hD,hb,hc⟩:=cat
 have I:=L.known.choose_spec.2.inSuite a L.known.choose_spec.1.hq
 have KI:=L.inv.kIn
 obtain ⟨oe,vs,a0,T,oT,ts,h1,h2,_⟩:=L.ob
 refine codeAny_handlers_test (ld_glob (X:=X.inSuite a) I hg hm ?_ hdb)
 obtain ⟨hh,g,d,t,os⟩:=s
 refine matches_own (KI _ _ hC) (KI _ _ hD) h1 h2 hb ?_
 rw [hc]
 exact k
theorem handle_as (L:Landed X pins σ H a (.ref C) pay s) (hc:X.calm=true) (hx:X.ex=[]) (hst:X.stack=X.env::X.outer) (hf:X.env.frame=some X.env.locals) (cat:Catches X.K C D) (hg:Gl X x) (hm:X.mg x=some (.ref D))
  (hN:X.N.Nodup) (hi:X.N[i]? = some n) (hk:X.env.scope.names.lookup n=some .local)
  (h:∀ s5 H5,Knows H H5 a (.ref C) pay→Inv (X.inSuite a) pins (σ.set i (some (.ref a))) H5 s5 →
   wpAny (model X.prog X.w) (X.A.mark (some (.ref a))) (execs (b0::suite) X.env) (SP (X.inSuite a) pins { nx:=fun σ H=>W.nx (σ.set i none) H,rt:=W.rt,bk:=fun σ H=>W.bk (σ.set i none) H,ct:=fun σ H=>W.ct (σ.set i none) H }) (fun _ _=>False) s5)
  (hdb:(x == ("__debug__":Str))=false:=by decide) :
  wpAny (model X.prog X.w) X.A (noteFrame (.ref a) X.env) (fun _ s2=>wpAny (model X.prog X.w) X.A (setFlight (.ref a) none) (fun _ s3=>wpAny (model X.prog X.w) X.A (handleBy (.ref a) X.env [.ExceptHandler (some (.Name x px)) (some n) (b0::suite) pos]) (SP X pins W) X.xe s3) X.xe s2) X.xe s:=by
 refine L.looks hx hst hf fun s3 L3=>wpAny_handleBy_cons (match_ok L3 cat hg hm ?_ hdb) (fun z=>nomatch z)
 refine codeAny_handlers_suite_as (L3.again hx fun s4 L4=>?_)
 obtain ⟨H5,kn,I4⟩:=L4.known
 have I4:=I4.inSuite a kn.hq
 refine store_ok (X:=X.inSuite a) I4 hN hi (.inl hk) (v:=V.ref a) (show RelV (V.ref a) (Value.ref a) from rfl) (fun s5 I5=>?_) (.inr hk)
 refine wpAny_mono (h s5 H5 kn I5) (fun f s6 q=>?_) fun _ _ z=>False.elim z
 have fin:∀ {σ6:St}{H6:Hp}{Z:Shared→Prop},Inv (X.inSuite a) pins σ6 H6 s6→(∀ s7,Inv X pins (σ6.set i none) H6 s7→Z s7)→wpAny (model X.prog X.w) X.A (do bindName X.env n .none;unbindBehindTheSuite X.env n pos) (fun _ s7=>Z s7) X.xe s6:=fun {σ6 H6 Z} I6 k=>
  gone_ok (L4.inv.offSuite hc I6) hN hi hk k
 cases f with
 | next=>obtain ⟨σ6,H6,I6,q6⟩:=q;exact fin I6 fun s7 I7=>⟨_,H6,I7,q6⟩
 | brk=>obtain ⟨σ6,H6,I6,q6⟩:=q;exact fin I6 fun s7 I7=>⟨_,H6,I7,q6⟩
 | cont=>obtain ⟨σ6,H6,I6,q6⟩:=q;exact fin I6 fun s7 I7=>⟨_,H6,I7,q6⟩
 | ret u=>obtain ⟨v,σ6,H6,I6,r6,q6⟩:=q;exact fin I6 fun s7 I7=>⟨v,_,H6,I7,r6,q6⟩
end
open PySem PySem.Spec PySem.W PySem.Calls PyProof.Rows Builtin Builtin.ObjectAttr Builtin.Getset_descriptor
structure ExcKit (K:Frag) (C:Addr):Prop where
 ga:findIn K (.ref C) "__getattribute__"=some (some (.builtin "BaseException.__getattribute__"))
 gh:findIn K (.ref C) "__getattr__"=some none
 at_:findIn K (.ref C) "__class__"=some (some (.builtin "object.__class__"))
 get:specialIn K (.builtin "object.__class__") "__get__"=some (some (.builtin "getset_descriptor.__get__"))
 tk:takesIn K (.builtin "object.__class__")=some true
 mo:mroIn K C (.type "object")=some true
 mb:mroIn K C (.type "BaseException")=some true
 cl:(clsIn K C).isSome=true
section
variable {prog:Program}{w:World}{A:Around}{E:Value→Shared→Prop}{s:Shared}{K:Frag}{x C:Addr}{ox:Obj}
theorem exc_class_get {R:Result→Shared→Prop}{tp:Value} (X:K.In s.heap) (hx:s.heap.get? x=some ox) (hc:ox.cls=.ref C) (hm:mroIn K C (.type "object")=some true)
  (h:R (.ok (.ret (.ref C))) s):codeAny (model prog w) A (.call (.builtin "getset_descriptor.__get__") ⟨[.builtin "object.__class__",.ref x,tp],[]⟩) R s:=by
 obtain ⟨hh,g,dr,t,os⟩:=s
 have L0:Looks (model prog w) hh (typeOf (.ref x)) (.ref C):=hc ▸ (Looks.ld hx).andThen .now
 have L1:=looks_mroIn (M:=model prog w) X hm
 refine codeAny_call_builtin KF.slot_gs.plain KF.entry_gs (KF.slot_gs.check _ _ _ _ _ _ _ _ KF.type_class (KF.args_gs _ _ _) ?_)
 unfold Builtin.«getset_descriptor.__get__» descrGet
 rw [dga_obj]
 refine wpAny_bind (wpAny_pure ?_)
 unfold descrGetter descrCheckInstance descrNameAndClass isInstance
 simp only [KF.owner_class]
 repeat lk
 refine ⟨Code.quiet_builtin _ (by decide +kernel),codeAny_builtin KF.entry_class ?_⟩
 unfold Builtin.«object.__class__» shownTypeOf
 repeat lk
 exact h
theorem exc_find (X:K.In s.heap) (k:ExcKit K C):Looks (model prog w) s.heap (find (.ref x) (.ref C) "__class__") (.bind (.builtin "getset_descriptor.__get__") (.builtin "object.__class__")):=by
 have L1:=looks_findIn (M:=model prog w) X k.at_
 have L2:Looks (model prog w) s.heap (getOf (some (.builtin "object.__class__"))) (some (.builtin "getset_descriptor.__get__")):=looks_specialIn X k.get
 have L3:=looks_takesIn (M:=model prog w) X k.tk
 exact L1.andThen (L2.andThen ((show Looks (model prog w) s.heap (dataDescriptor? (some (.builtin "object.__class__")) (some (.builtin "getset_descriptor.__get__"))) (some (.builtin "getset_descriptor.__get__",.builtin "object.__class__")) from L3.andThen .now).andThen (Looks.tag .now)))
theorem exc_check {M:Model}{nameV:Value}{Q:Unit→Shared→Prop} (X:K.In s.heap) (k:ExcKit K C) (hx:s.heap.get? x=some ox) (hc:ox.cls=.ref C) (hq:Q () s):wpAny M A (checkBuiltinCall "BaseException.__getattribute__" ⟨[.ref x,nameV],[]⟩) Q E s:=by
 obtain ⟨hh,g,dr,t,os⟩:=s
 have hk:builtinKind "BaseException.__getattribute__"=some .slot:=by decide +kernel
 have hsplit:splitId "BaseException.__getattribute__"=some ("BaseException","__getattribute__"):=by decide +kernel
 have L0:Looks M hh (typeOf (.ref x)) (.ref C):=hc ▸ (Looks.ld hx).andThen .now
 have L1:=looks_mroIn (M:=M) X k.mb
 have LI:Looks M hh (isInstance (.ref x) (.type "BaseException")) true:=L0.andThen L1
 have ha:=F.args_bexc_ga (.ref x) nameV
 simp only [checkBuiltinCall,hk,hsplit]
 refine wpAny_bind (LI.at ?_)
 repeat (first | assumption | wp_step)
theorem exc_entry {tk:Tok}{Q:Fin→Shared→Prop} (X:K.In s.heap) (k:ExcKit K C) (hx:s.heap.get? x=some ox) (hc:ox.cls=.ref C) (hq:Q (.done (.ret (.ref C))) s) :
  wpAny (model prog w) A (Builtin.«object.__getattribute__» ⟨[.ref x,.str "__class__" tk],[]⟩) Q E s:=by
 obtain ⟨hh,g,dr,t,os⟩:=s
 have L0:Looks (model prog w) hh (typeOf (.ref x)) (.ref C):=hc ▸ (Looks.ld hx).andThen .now
 have L1:=exc_find (prog:=prog) (w:=w) (s:=⟨hh,g,dr,t,os⟩) (x:=x) X k
 refine wpAny_bind (wpAny_pure (wpAny_bind (wpAny_pure (wpAny_bind (L0.at (wpAny_bind (L1.at ?_)))))))
 show wpAny _ _ (holding [Value.builtin "object.__class__"] (call (.builtin "getset_descriptor.__get__") [.builtin "object.__class__",.ref x,.ref C]) >>= ret) _ _ _
 exact wpAny_bind (wpAny_holding (wpAny_call (exc_class_get (s:=⟨hh,g,dr,t,os⟩) X hx hc k.mo (wpAny_pure hq))))
theorem exc_class {Q:Option Value→Shared→Prop} (X:K.In s.heap) (k:ExcKit K C) (hx:s.heap.get? x=some ox) (hc:ox.cls=.ref C) (h:Q (some (.ref C)) { s with toks:=s.toks + 1 }):wpAny (model prog w) A (getAttr? (.ref x) "__class__") Q E s:=by
 obtain ⟨hh,g,dr,t,os⟩:=s
 have L0:Looks (model prog w) hh (typeOf (.ref x)) (.ref C):=hc ▸ (Looks.ld hx).andThen .now
 have L1:=looks_findIn (M:=model prog w) X k.ga
 have L2:=looks_findIn (M:=model prog w) X k.gh
 have f3:=F.attr_ValueError.ga.bind (.ref x)
 have hx0:(false&&onTheHeap (Value.builtin "BaseException.__getattribute__"))=false:=rfl
 have hx2:(Value.builtin "BaseException.__getattribute__" == Value.builtin "object.__getattribute__")=false:=by decide +kernel
 have hx1:(onTheHeap (Value.ref C)&&Value.builtin "BaseException.__getattribute__" == Value.builtin "object.__getattribute__")=false:=by rw [hx2];rfl
 unfold getAttr? getAttrBy? getAttrBy
 refine wpAny_bind (wpAny_mkText (wpAny_bind (wpAny_attempt (wpAny_holding (wpAny_bind (L0.at (wpAny_bind (L1.at ?_))))))))
 dsimp only
 rw [if_neg (by rw [hx1];decide)]
 unfold getAttrByItsOwn hookBefore
 refine wpAny_bind ?_
 rw [if_pos (show onTheHeap (Value.ref C)=true from rfl)]
 refine L2.at ?_
 refine wpAny_bind (wpAny_attempt (wpAny_holding ?_))
 unfold callGetattribute
 rw [if_neg (by rw [hx0];decide)]
 unfold boundAndCalled
 rw [f3]
 refine wpAny_bind (wpAny_pure (wpAny_call ?_))
 refine codeAny_call_builtin F.attr_ValueError.ga.plain F.entry_bexc_ga (exc_check (s:=⟨hh,g,dr,t + 1,os⟩) X k hx hc (exc_entry (s:=⟨hh,g,dr,t + 1,os⟩) X k hx hc ?_))
 show wpAny _ _ (handedOut (.ref C)) _ _ _
 exact wpAny_pure (wpAny_pure h)
end
theorem kitx_exc {K:Frag}{x C:Addr} (k:ExcKit K C):KitX K (.ref x) (.ref C) (fun h=>∃ o,h.get? x=some o∧o.cls=.ref C) where
 ty:=fun _ _ _ ⟨o,h1,h2⟩=>h2 ▸ (Looks.ld h1).andThen .now
 it:=fun _ _ X _=>by
  obtain ⟨cd,hcd⟩:=Option.isSome_iff_exists.mp k.cl
  unfold clsIn at hcd
  split at hcd
  ·rename_i c' d' cd' sl' ho
   intro A' Q' E' s' k q
   unfold isType loadHead
   exact wpAny_bind (wpAny_loadPart (k _ _ (X _ _ ho)) (wpAny_pure q))
  ·cases hcd
 ne:=fun h tp dd its n sl X htp=>by
  obtain ⟨cd,hcd⟩:=Option.isSome_iff_exists.mp k.cl
  refine Bool.eq_false_iff.mpr fun q=>?_
  have e:C=tp:=Value.ref.inj (beq_iff_eq.mp q)
  subst e
  unfold clsIn at hcd
  split at hcd
  ·rename_i c' d' cd' sl' ho
   have z:=(X _ _ ho).symm.trans htp
   cases z
  ·cases hcd
 ca:=fun X ⟨o,h1,h2⟩ q=>exc_class X k h1 h2 q
theorem call_isiE {X:Cx}:CallR X (.builtin "isinstance") (fun xs H Q=>∃ a C c cv b de ob,xs=[V.ref a,c]∧(∀ u,RelV c u→u=cv)∧H a=some (ExcF ob a (.ref C) de)∧ExcKit X.K C∧kitOne X.K (.ref C) cv=some b∧Q (.bl b) H):=by
 intro pins s σ H xs us Q I r h
 obtain ⟨a,C,c,cv,bb,de,ob,rfl,hc,ha,k,e,q⟩:=h
 obtain ⟨u,w',rfl,ru,rw'⟩:=vals2 r
 obtain rfl:=hc w' rw'
 cases (show u=Value.ref a from ru)
 exact kia_one (kitx_exc k) I.kIn (excF_get I.hok ha) e (fun z=>nomatch z) fun tk=>⟨.bl bb,H,I.tok tk,rfl,q⟩
theorem pe_own {X:Cx}{x:Str}{pos:Pos}{C:Addr} (hg:Gl X x) (hm:X.mg x=some (.ref C)) (hdb:(x == ("__debug__":Str))=false:=by decide):PE X (.Name x pos) (fun _ H Q=>Q (.ref C) H):=fun pins s σ H Q I h=>ld_glob I hg hm ⟨V.ref C,H,I,(rfl:Value.ref C=Value.ref C),h⟩ hdb
end L2
namespace L2.Ev
open PySem PySem.Spec PyProof.Rows
def wk (X:Cx) (st:Stmt):TS:=fun W σ H=>∀ (pins:List (Addr×Obj)) (s:Shared),Inv X pins σ H s→wpAny (model X.prog X.w) X.A (exec st X.env) (SP X pins W) X.xe s
theorem ps_wk {X:Cx}{st:Stmt}:PS X st (wk X st):=fun pins s _ _ _ I h=>h pins s I
def sRaise (cn:Str) (g:AF):SF:=fun ρ=>match g ρ with
 | some _=>some (.er true (cn,none) ρ)
 | none=>none
section
variable {X:Cx}{x cn:Str}{C:Addr}{np cpos pos:Pos}{e:Expr}{es:List Expr}{g:AF}
theorem fs_raise (hc:X.calm=true) (cl:ExcCls X.K C) (hn:PySem.W.nsIn X.K mainGlobals cn=some (some (.ref C))) (hm:X.mg x=some (.ref C)) (ha:FA X (e::es) g) (hl:(e::es).length≤1000:=by decide) (hx:X.ex=[]:=by rfl) (hg:Gl X x:=by rfl) (hdb:(x == ("__debug__":Str))=false:=by decide)
  (he:starEach (e::es) X.env=(false,eval e X.env)::starEach es X.env:=by rfl) (hpl:(backTo cpos (starEach es X.env)).any (·.1)=false:=by rfl):FS1 X (.Raise (some (.Call (.Name x np) (e::es) [] cpos)) none pos) (sRaise cn g):=by
 obtain ⟨t,pa,hz,qa⟩:=ha
 refine ⟨_,ps_wk,fun H0 S z held ρ σ H E o ok e0 k=>?_⟩
 unfold sRaise at e0
 cases h1:g ρ with
 | none=>rw [h1] at e0;cases e0
 | some qs=>
  rw [h1] at e0
  cases e0
  obtain ⟨ES,th,kk⟩:=k
  intro pins s I
  refine ps_raise hc hx th cl hg hm pa hdb he hpl pins s σ H E I ?_
  refine qa H0 S z held ρ σ H _ qs ok h1 fun H1 vs fp s1 r1 _=>⟨?_,kk z σ H1 C (ok.same s1) (.refl _ _) hn⟩
  rw [← r1.length,List.length_map,hz ρ qs h1]
  exact Nat.le_of_lt (small1000 hl)
end
inductive ER where
 | ok (d:D) (ρ:Rho) | er (cn:XN) (ρ:Rho)
def PostX (X:Cx) (H0:Hp) (S:List Addr) (held:List Held) (σ:St) (Q:VK) (E:XK):ER→Prop
 | .ok d ρ=>∀ z H1 H' v fp,Ok X.K H0 S z held ρ σ H1→Same H1 H'→Rep X.K H' d v fp→TagOk z H1 .own fp→Q v H'
 | .er cn ρ=>∀ z H' C,Ok X.K H0 S z held ρ σ H'→PySem.W.nsIn X.K mainGlobals cn.1=some (some (.ref C))→E (.ref C) cn.2 H'
abbrev XR:=Rho→Option ER
def FE (X:Cx) (e:Expr) (f:XR):Prop:=∃ t,PX X e t∧∀ (H0:Hp) (S:List Addr) (z:Addr→Option Nat) (held:List Held) (ρ:Rho) (σ:St) (H:Hp) (Q:VK) (E:XK) (r:ER),
 Ok X.K H0 S z held ρ σ H→f ρ=some r→PostX X H0 S held σ Q E r→t σ H Q E
theorem throwsT_no {X:Cx}:ThrowsT X (fun _ _ _ _=>False):=fun _ _ _ _ _ _ _ _ z=>z.elim
def sSetE (i:Nat) (f:XR):SF:=fun ρ=>match f ρ with
 | some (.ok d ρ')=>some (.nx (setS ρ' i d .own))
 | some (.er cn ρ')=>some (.er false cn ρ')
 | none=>none
def sExprE (f:XR):SF:=fun ρ=>match f ρ with
 | some (.ok d ρ')=>some (.nx ρ')
 | some (.er cn ρ')=>some (.er false cn ρ')
 | none=>none
def sRetE (f:XR):SF:=fun ρ=>match f ρ with
 | some (.ok d ρ')=>some (.rt d)
 | some (.er cn ρ')=>some (.er false cn ρ')
 | none=>none
section
variable {X:Cx}{e:Expr}{f:XR}{pos:Pos}
theorem fs_exprE (he:FE X e f) (hs:swapsWith e none pos.line X.env=pure false:=by rfl):FS1 X (.Expr e pos) (sExprE f):=by
 obtain ⟨t,p,q⟩:=he
 refine ⟨_,ps_wk,fun H0 S z held ρ σ H E o ok e k=>?_⟩
 unfold sExprE at e
 cases h:f ρ with
 | none=>rw [h] at e;cases e
 | some r=>
  rw [h] at e
  intro pins s I
  cases r with
  | ok d ρ1=>
   cases e
   refine ps_exprX throwsT_no p hs pins s σ H E I ?_
   exact q H0 S z held ρ σ H _ _ _ ok h fun z1 H1 H2 v fp ok1 s1 r1 g1=>k z1 σ H2 (ok1.same s1) (.refl _ _)
  | er cn ρ1=>
   cases e
   obtain ⟨ES,th,kk⟩:=k
   refine ps_exprX th p hs pins s σ H E I ?_
   exact q H0 S z held ρ σ H _ _ _ ok h fun z1 H1 C ok1 hC=>kk z1 σ H1 C ok1 (.refl _ _) hC
theorem fs_retE (he:FE X e f):FS1 X (.Return (some e) pos) (sRetE f):=by
 obtain ⟨t,p,q⟩:=he
 refine ⟨_,ps_wk,fun H0 S z held ρ σ H E o ok e k=>?_⟩
 unfold sRetE at e
 cases h:f ρ with
 | none=>rw [h] at e;cases e
 | some r=>
  rw [h] at e
  intro pins s I
  cases r with
  | ok d ρ1=>
   cases e
   refine ps_retX throwsT_no p pins s σ H E I ?_
   refine q H0 S z held ρ σ H _ _ _ ok h fun z1 H1 H2 v fp ok1 s1 r1 g1=>k H2 v fp (fun a o e n=>s1 _ _ (ok1.en a o e n)) r1 g1.1 fun a m=>?_
   cases h0:H0 a with
   | none=>exact .inl rfl
   | some o=>
    by_cases hs:a∈S
    ·exact .inr hs
    ·have w:=ok1.en a o h0 hs
     rw [g1.2 a m] at w;cases w
  | er cn ρ1=>
   cases e
   obtain ⟨ES,th,kk⟩:=k
   refine ps_retX th p pins s σ H E I ?_
   exact q H0 S z held ρ σ H _ _ _ ok h fun z1 H1 C ok1 hC=>kk z1 σ H1 C ok1 (.refl _ _) hC
end
def sTryAs (i:Nat) (sub:Str→Bool) (f g:SF):SF:=fun ρ=>match f ρ with
 | some (.er false cn ρ')=>if sub cn.1=true then (match g (ρ'.set i (some (.exc cn,.own))) with
  | some (.nx ρ2)=>some (.nx (ρ2.set i none))
  | some (.bk ρ2)=>some (.bk (ρ2.set i none))
  | some (.ct ρ2)=>some (.ct (ρ2.set i none))
  | some (.rt d)=>some (.rt d)
  | _=>none) else none
 | some (.er true _ _)=>none
 | o=>o
theorem rep_known {K:PySem.W.Frag}{H H':Hp}{cn:XN}{a C:Addr} (hC:PySem.W.nsIn K mainGlobals cn.1=some (some (.ref C))) (k:Knows H H' a (.ref C) cn.2):Rep K H' (.exc cn) (.ref a) []:=by
 obtain ⟨c,pay⟩:=cn
 obtain ⟨ob,vs,_,_,k⟩:=k
 cases pay with
 | none=>cases k;exact .exc hC upd_same fun _ e=>by cases e
 | some n=>obtain ⟨dx,ne,_,rfl⟩:=k;exact .exc hC upd_same fun m e=>by cases e;exact ⟨dx,rfl,by rw [upd_ne ne,upd_same]⟩
theorem Ok.unset {K:PySem.W.Frag}{H0:Hp}{S:List Addr}{z:Addr→Option Nat}{held:List Held}{ρ:Rho}{σ:St}{H:Hp} (ok:Ok K H0 S z held ρ σ H) (i:Nat):Ok K H0 S z held (ρ.set i none) (σ.set i none) H:=by
 have at_:∀ {j:Nat}{w:D×Tag},(ρ.set i none)[j]? = some (some w)→j≠i∧ρ[j]? = some (some w):=fun {j w} e=>by
  have hj:j≠i:=fun q=>by
   subst q
   by_cases hl:j < ρ.length
   ·rw [List.getElem?_set_self hl] at e;cases e
   ·rw [List.getElem?_eq_none (by rw [List.length_set];exact Nat.le_of_not_lt hl)] at e;cases e
  exact ⟨hj,by rw [List.getElem?_set_ne (Ne.symm hj)] at e;exact e⟩
 refine ⟨fun j d t e=>?_,fun p m=>?_,ok.zd,ok.en,by rw [List.length_set,List.length_set];exact ok.ln⟩
 ·obtain ⟨hj,e⟩:=at_ e
  obtain ⟨v,fp,a,b,c⟩:=ok.sl j d t e
  exact ⟨v,fp,by rw [List.getElem?_set_ne (Ne.symm hj)];exact a,b,c⟩
 ·obtain ⟨r,h⟩:=ok.hl p m
  exact ⟨r,fun a ha j q=>let ⟨h1,h2⟩:=h a ha j q;⟨h1,fun d e=>h2 d (at_ e).2⟩⟩
section
variable {X:Cx}{x n:Str}{Dc:Addr}{px hpos pos:Pos}{body suite:List Stmt}{b0:Stmt}{f g:SF}{sub:Str→Bool}
theorem sp_offTry {pins:List (Addr×Obj)}{R:XS}{E:Ends}{fl:Flow}{s:Shared} (q:SP (X.inTry pins R) [] E fl s):SP X pins E fl s:=by
 cases fl with
 | next=>obtain ⟨σ',H',I,q⟩:=q;exact ⟨σ',H',I.offTry,q⟩
 | brk=>obtain ⟨σ',H',I,q⟩:=q;exact ⟨σ',H',I.offTry,q⟩
 | cont=>obtain ⟨σ',H',I,q⟩:=q;exact ⟨σ',H',I.offTry,q⟩
 | ret u=>obtain ⟨v,σ',H',I,r,q⟩:=q;exact ⟨v,σ',H',I.offTry,r,q⟩
theorem try_core {h0:ExceptHandler}{pins:List (Addr×Obj)}{s:Shared}{H0:Hp}{S:List Addr}{z:Addr→Option Nat}{held:List Held}{ρ:Rho}{σ:St}{H:Hp}{E:Ends}{o1:Out} (hb:∀ pins R,FS (X.inTry pins R) body f) (I:Inv X pins σ H s) (ok:Ok X.K H0 S z held ρ σ H) (hf:f ρ=some o1)
  (k:match o1 with
   | .er true _ _=>False
   | .er false cn ρ'=>∀ z' σ' H' C a s',Ok X.K H0 S z' held ρ' σ' H'→Kp X σ σ'→PySem.W.nsIn X.K mainGlobals cn.1=some (some (.ref C))→Landed X pins σ' H' a (.ref C) cn.2 s' →
    wpAny (model X.prog X.w) X.A (noteFrame (.ref a) X.env) (fun _ s2=>wpAny (model X.prog X.w) X.A (setFlight (.ref a) none) (fun _ s3=>wpAny (model X.prog X.w) X.A (handleBy (.ref a) X.env [h0]) (SP X pins E) X.xe s3) X.xe s2) X.xe s'
   | o=>Post X H0 S held σ E o) :
  wpAny (model X.prog X.w) X.A (exec (.Try body [h0] [] [] pos) X.env) (SP X pins E) X.xe s:=by
 refine wpAny_Try_except ?_
 obtain ⟨tb,pb,sb⟩:=hb pins (fun cls pay σ' H'=>∀ a s',Landed X pins σ' H' a cls pay s' →
    wpAny (model X.prog X.w) X.A (noteFrame (.ref a) X.env) (fun _ s2=>wpAny (model X.prog X.w) X.A (setFlight (.ref a) none) (fun _ s3=>wpAny (model X.prog X.w) X.A (handleBy (.ref a) X.env [h0]) (SP X pins E) X.xe s3) X.xe s2) X.xe s')
 have hbody:tb E σ H:=by
  refine sb H0 S z held ρ σ H E o1 ok hf ?_
  cases o1 with
  | nx ρ'=>exact k
  | rt d=>exact k
  | bk ρ'=>exact k
  | ct ρ'=>exact k
  | er raw cn ρ'=>
   cases raw with
   | true=>exact False.elim k
   | false=>exact ⟨_,throwsT_try,fun z' σ' H' C ok' kp hC a s' L=>k z' σ' H' C a s' ok' kp hC L⟩
 refine wpAny_mono (pb [] s σ H E I.inTry hbody) (fun fl s1 q=>?_) (fun ev s1 q=>?_)
 ·have q':=sp_offTry q
  cases fl with
  | next=>exact wpAny_execs_nil q'
  | brk=>exact q'
  | cont=>exact q'
  | ret u=>exact q'
 ·obtain ⟨σ',H',a,cls,pay,rfl,L,r⟩:=q
  exact r a s1 L
theorem fs_try_as (i:Nat) (hb:∀ pins R,FS (X.inTry pins R) body f) (hs:∀ a,FS (X.inSuite a) (b0::suite) g) (hcat:∀ cn C,sub cn=true→PySem.W.nsIn X.K mainGlobals cn=some (some (.ref C))→Catches X.K C Dc) (hm:X.mg x=some (.ref Dc)) (hN:X.N.Nodup)
  (hcm:X.calm=true:=by rfl) (hx:X.ex=[]:=by rfl) (hst:X.stack=X.env::X.outer:=by rfl) (hfr:X.env.frame=some X.env.locals:=by rfl) (hg:Gl X x:=by rfl) (hi:X.N[i]? = some n:=by rfl) (hk:X.env.scope.names.lookup n=some .local:=by rfl) (hself:kpt X n=false:=by rfl) (hdb:(x == ("__debug__":Str))=false:=by decide) :
  FS1 X (.Try body [.ExceptHandler (some (.Name x px)) (some n) (b0::suite) hpos] [] [] pos) (sTryAs i sub f g):=by
 refine ⟨_,ps_wk,fun H0 S z held ρ σ H E o ok e k=>?_⟩
 intro pins s I
 unfold sTryAs at e
 cases hf:f ρ with
 | none=>rw [hf] at e;cases e
 | some o1=>
  rw [hf] at e
  refine try_core hb I ok hf ?_
  cases o1 with
  | nx ρ'=>cases e;exact k
  | rt d=>cases e;exact k
  | bk ρ'=>cases e;exact k
  | ct ρ'=>cases e;exact k
  | er raw cn ρ'=>
   cases raw with
   | true=>cases e
   | false=>
    dsimp only at e ⊢
    by_cases hsub:sub cn.1=true
    ·rw [if_pos hsub] at e
     intro z' σ' H' C a s' ok' kp hC L
     refine handle_as L hcm hx hst hfr (hcat cn.1 C hsub hC) hg hm hN hi hk (fun s5 H5 kn I5=>?_) hdb
     obtain ⟨ts,ps',ss⟩:=hs a
     refine ps' pins s5 _ _ _ I5 ?_
     have sm:Same H' H5:=fun b o q=>kn.same L.fr q
     refine ok'.stored (i:=i) (t:=.own) sm (rep_known hC kn) .nil fun z5 ok5=>?_
     have ok5:Ok X.K H0 S z5 held (ρ'.set i (some (.exc cn,.own))) (σ'.set i (some (.ref a))) H5:=ok5
     have kps:∀ {σ6:St},Kp X (σ'.set i (some (.ref a))) σ6→Kp X σ (σ6.set i none):=fun {σ6} b=>((kp.trans (.set hi hself)).trans b).trans (.set hi hself)
     cases hg2:g (ρ'.set i (some (.exc cn,.own))) with
     | none=>rw [hg2] at e;cases e
     | some o2=>
      rw [hg2] at e
      refine ss H0 S z5 held _ _ _ _ o2 ok5 hg2 ?_
      cases o2 with
      | nx ρ2=>cases e;exact fun z6 σ6 H6 ok6 b=>k z6 _ H6 (ok6.unset i) (kps b)
      | bk ρ2=>cases e;exact fun z6 σ6 H6 ok6 b=>k z6 _ H6 (ok6.unset i) (kps b)
      | ct ρ2=>cases e;exact fun z6 σ6 H6 ok6 b=>k z6 _ H6 (ok6.unset i) (kps b)
      | rt d=>cases e;exact k
      | er _ _ _=>cases e
    ·rw [if_neg hsub] at e;cases e
end
inductive Rz where
 | ok (d:D) | er (cn:XN)
def spR (K:PySem.W.Frag) (F:List D→Option Rz):Sp:=fun vs H Q E=>∃ ds fp r,Reps K H ds vs fp∧F ds=some r∧match r with
 | .ok d=>∀ H' v fp',Same H H'→Rep K H' d v fp'→fp'.Nodup→(∀ a∈fp',H a=none)→Q v H'
 | .er cn=>∀ H' C,Same H H'→PySem.W.nsIn K mainGlobals cn.1=some (some (.ref C))→E (.ref C) cn.2 H'
def runR (n N:Nat) (b:SF):List D→Option Rz:=fun ds=>if ds.length=n then (match b (iniF N ds) with
 | some (.rt d)=>some (.ok d)
 | some (.nx _)=>some (.ok .non)
 | some (.er _ cn _)=>some (.er cn)
 | _=>none) else none
theorem ok_iniF {K:PySem.W.Frag}{N:List Str}{H:Hp}{ds:List D}{vs:List V}{fp:List Addr} (rs:Reps K H ds vs fp) (hn:ds.length≤N.length):Ok K H [] (fun _=>none) [] (iniF N.length ds) (start N vs) H:=by
 have hlv:=rs.length
 refine ⟨fun i d' t' e'=>?_,(fun p m=>by cases m),(fun a j e=>by cases e),(fun a o e _=>e),?_⟩
 ·unfold iniF at e'
  by_cases hi:i < ds.length
  ·rw [List.getElem?_append_left (by rw [List.length_map];exact hi),List.getElem?_map,List.getElem?_eq_getElem hi] at e'
   cases e'
   obtain ⟨v,f',hv,rv,_⟩:=rs.get (List.getElem?_eq_getElem hi)
   refine ⟨v,f',?_,rv,fun a _ j e=>by cases e⟩
   unfold start
   rw [List.getElem?_append_left (by rw [List.length_map,← hlv];exact hi),List.getElem?_map,hv];rfl
  ·rw [List.getElem?_append_right (by rw [List.length_map];omega),List.getElem?_replicate] at e'
   split at e' <;> cases e'
 ·unfold iniF start
  rw [List.length_append,List.length_append,List.length_map,List.length_map,List.length_replicate,List.length_replicate,hlv]
section
variable {P:Program}{w:World}{K:PySem.W.Frag}{mg:Str→Option Value}{base:Heap}
theorem fn_R {x qual:Str}{st:Stmt}{f:Addr}{fd:FuncData}{N ps:List Str}{k:Nat}{b:SF} (F:Fun K x qual st f fd) (S:FnScope N ps (defScope st)) (hps:ps.length≤N.length)
  (hb:∀ (cdv:Value) (A:Around) (outer:List Env) (s:Shared) (H:Hp) (E:XK),Room k (A.deeper (envOfC qual (defScope st) s.heap.objs.size f cdv))→FS (cxOf (CXE P w) P w K mg base N qual (defScope st) f cdv A outer s H E) (defBody st) b) :
  FnOk P w K mg base (CXE P w) (k + 1) f fd ps (spR K (runR ps.length N.length b)):=by
 have lenF:∀ {ds:List D}{r:Rz},runR ps.length N.length b ds=some r→ds.length=ps.length:=fun {ds d} e=>by
  unfold runR at e
  by_cases h:ds.length=ps.length
  ·exact h
  ·rw [if_neg h] at e;cases e
 obtain ⟨oc,od,kV,doc,pm,an,cdv,ct,osl,rfl,lk,hcd⟩:=F.ex
 refine fn_of lk hcd S (fun vs H Q E ⟨ds,fp,r,rs,e,_⟩=>by rw [← rs.length];exact lenF e) fun A outer s H vs Q E hr ⟨ds,fp,r,rs,e,q⟩=>?_
 obtain ⟨t,p,sd⟩:=hb cdv A outer s H E hr
 refine ⟨t,p,?_⟩
 have hl:=lenF e
 have ok:=ok_iniF (N:=N) rs (by rw [hl];exact hps)
 unfold runR at e
 rw [if_pos hl] at e
 cases ho:b (iniF N.length ds) with
 | none=>rw [ho] at e;cases e
 | some o=>
  rw [ho] at e
  refine sd H [] (fun _=>none) [] (iniF N.length ds) (start N vs) H _ o ok ho ?_
  cases o with
  | rt d'=>
   cases e
   exact fun H' v fp' en r nd fr=>q H' v fp' (fun a o e=>en a o e (fun m=>nomatch m)) r nd fun a m=>(fr a m).resolve_right fun m=>nomatch m
  | nx ρ'=>
   cases e
   exact fun z' σ' H' ok' _=>q H' .non [] (fun a o e=>ok'.en a o e (fun m=>nomatch m)) .non List.nodup_nil fun a m=>nomatch m
  | bk _=>cases e
  | ct _=>cases e
  | er raw cn ρ'=>
   cases e
   cases raw with
   | true=>exact ⟨_,throwsN_def,fun z' σ' H' C ok' _ hC=>q H' C (fun a o e=>ok'.en a o e (fun m=>nomatch m)) hC⟩
   | false=>exact ⟨_,throwsT_def,fun z' σ' H' C ok' _ hC=>q H' C (fun a o e=>ok'.en a o e (fun m=>nomatch m)) hC⟩
end
theorem Room.mark {k:Nat}{A:Around} (r:Room k A) (v:Option Value):Room k (A.mark v) false:=⟨fun z=>Bool.noConfusion z,r.dp,r.un,r.gd⟩
def oIsE (T:List (Str×Bool)):D→Option D
 | .exc cn=>(T.lookup cn.1).map .bl
 | _=>none
def KitT (K:PySem.W.Frag) (T:List (Str×Bool)) (c:Value):Prop:=∀ cn b C,T.lookup cn=some b→PySem.W.nsIn K mainGlobals cn=some (some (.ref C))→ExcKit K C∧PySem.W.kitOne K (.ref C) c=some b
section
variable {X:Cx}{a:Expr}{fa:EF}{x:Str}{T:List (Str×Bool)}{p p2 pos:Pos}
theorem isE_core {cv:Value}{c:V}{tc:TE} (hc:∀ u,RelV c u→u=cv) (hT:KitT X.K T cv) (hm:X.mg "isinstance"=none) (ha:FP X a fa) (pc:PE X (.Name x p2) (fun _ H Q=>Q c H)) (hg:Gl X "isinstance":=by rfl)
  (hs:starEach [a,.Name x p2] X.env=[(false,eval a X.env),(false,eval (.Name x p2) X.env)]:=by rfl) (hpl:(backTo pos (starEach [.Name x p2] X.env)).any (·.1)=false:=by rfl):FP X (.Call (.Name "isinstance" p) [a,.Name x p2] [] pos) (e1 (oIsE T) fa):=by
 obtain ⟨ta,pa,sa⟩:=ha
 have hs2:starEach [.Name x p2] X.env=[(false,eval (.Name x p2) X.env)]:=rfl
 refine ⟨_,pe_callB call_isiE hg hm (show bootBuiltins "isinstance"=some (.builtin "isinstance") by decide +kernel) (pa_cons pa (pa_cons pc pa_nil) (by rw [hs,hs2])) (he:=by rw [hs,hs2]) (hpl:=hpl),fun H0 S z held ρ σ H Q d tg ok e k=>?_⟩
 obtain ⟨d1,t1,h1,h2,rfl⟩:=e1_of e
 refine sa H0 S z held ρ σ H _ d1 t1 ok h1 fun H1 v fp s1 r1 _=>?_
 unfold oIsE at h2
 split at h2
 ·rename_i cn
  cases hl:T.lookup cn.1 with
  | none=>rw [hl] at h2;cases h2
  | some b=>
   rw [hl] at h2
   cases h2
   cases r1 with
   | @exc _ a' C de ob hn ho _=>
    obtain ⟨kk,ke⟩:=hT cn.1 b C hl hn
    exact ⟨a',C,c,cv,b,de,ob,rfl,hc,ho,kk,ke,k H1 _ [] s1 (.bl _) .nil⟩
 ·cases h2
theorem fp_isE {C:Addr} (hT:KitT X.K T (.ref C)) (hm:X.mg "isinstance"=none) (hmx:X.mg x=some (.ref C)) (ha:FP X a fa) (hg:Gl X "isinstance":=by rfl) (hgx:Gl X x:=by rfl) (hdb:(x == ("__debug__":Str))=false:=by decide)
  (hs:starEach [a,.Name x p2] X.env=[(false,eval a X.env),(false,eval (.Name x p2) X.env)]:=by rfl) (hpl:(backTo pos (starEach [.Name x p2] X.env)).any (·.1)=false:=by rfl):FP X (.Call (.Name "isinstance" p) [a,.Name x p2] [] pos) (e1 (oIsE T) fa):=
 isE_core (tc:=fun _ H Q=>Q (.ref C) H) (c:=.ref C) (fun u r=>r) hT hm ha (pe_own hgx hmx hdb) hg hs hpl
theorem fp_isEB {B:String} (hT:KitT X.K T (.type B)) (hm:X.mg "isinstance"=none) (hmx:X.mg x=none) (ha:FP X a fa) (hbT:bootBuiltins x=some (.type B):=by decide +kernel) (hg:Gl X "isinstance":=by rfl) (hgx:Gl X x:=by rfl) (hn:x≠"__name__":=by decide) (hdb:(x == ("__debug__":Str))=false:=by decide)
  (hs:starEach [a,.Name x p2] X.env=[(false,eval a X.env),(false,eval (.Name x p2) X.env)]:=by rfl) (hpl:(backTo pos (starEach [.Name x p2] X.env)).any (·.1)=false:=by rfl):FP X (.Call (.Name "isinstance" p) [a,.Name x p2] [] pos) (e1 (oIsE T) fa):=
 isE_core (tc:=fun _ H Q=>Q (.ty B) H) (c:=.ty B) (fun u r=>r) hT hm ha (pe_bltn (v:=.ty B) hgx hmx hbT rfl hn hdb) hg hs hpl
end
end L2.Ev
namespace L2.Ev
open PySem PySem.W
abbrev veMro:List Value:=[.type "ValueError",.type "Exception",.type "BaseException",.type "object"]
theorem exc_shape {K:Frag}{C:Addr}{bmB:List Value}{newId:String} (q:excIn K C bmB newId=true):∃ nm qn N bs bm hdct sn sub ab col dd k0 k1 k2 k3 k5,K.lookup C=some (excClassObj nm qn C N bs bm hdct sn sub ab col dd k0 k1 k2 k3 k5 newId) ∧
  tailIn K bmB bm=true∧nsOkIn K N=true∧nsIn K N "__init__"=some none:=by
 unfold excIn at q
 split at q
 ·rename_i dd cd sl ho
  split at q
  ·rename_i C' bm k0 k1 k2 k3 n k5 hm hs
   simp only [Bool.and_eq_true,beq_iff_eq,Bool.not_eq_true'] at q
   obtain ⟨⟨⟨⟨⟨rfl,rfl⟩,hdel⟩,ht⟩,hok⟩,hni⟩:=q
   obtain ⟨nm,bs,mro,ns,qn,hd,sn,sub,ab,col,del⟩:=cd
   dsimp only at hm hdel hok hni
   subst hm hdel
   have hsl:sl=#[k0,k1,k2,k3,some (.builtin n),k5]:=by
    obtain ⟨l⟩:=sl
    simp only at hs
    rw [hs]
   subst hsl
   exact ⟨nm,qn,ns,bs,bm,hd,sn,sub,ab,col,dd,k0,k1,k2,k3,k5,ho,ht,hok,hni⟩
  ·cases q
 ·cases q
theorem excCls_of {K:Frag}{C:Addr} (q:excIn K C veMro "ValueError.__new__"=true):ExcCls K C:=by
 obtain ⟨nm,qn,N,bs,bm,hdct,sn,sub,ab,col,dd,k0,k1,k2,k3,k5,h1,h2,h3,h4⟩:=exc_shape q
 exact ⟨⟨_,_,_,_,bm,N,nm,qn,bs,hdct,sn,sub,ab,col,dd,k0,k1,k2,k3,k5,PySem.F.excBase_ValueError,h1,h3,h4,h2⟩⟩
def Shape (K:Frag) (C:Addr):Prop:=∃ nm qn N bs bm hdct sn sub ab col dd k0 k1 k2 k3 k5 newId,K.lookup C=some (excClassObj nm qn C N bs bm hdct sn sub ab col dd k0 k1 k2 k3 k5 newId)
theorem shape_of {K:Frag}{C:Addr}{bmB:List Value}{newId:String} (q:excIn K C bmB newId=true):Shape K C:=by
 obtain ⟨nm,qn,N,bs,bm,hdct,sn,sub,ab,col,dd,k0,k1,k2,k3,k5,h1,_⟩:=exc_shape q
 exact ⟨nm,qn,N,bs,bm,hdct,sn,sub,ab,col,dd,k0,k1,k2,k3,k5,newId,h1⟩
theorem mro_at {K:Frag}{C:Addr}{nm qn:Str}{N:Addr}{bs bm:List Value}{hdct:Bool}{sn:List Str}{sub:List Value}{ab:Bool}{col:Option Bool}{dd:Option Addr}{k0 k1 k2 k3 k5:Option Value}{newId:String}{v:Value}
  (h:K.lookup C=some (excClassObj nm qn C N bs bm hdct sn sub ab col dd k0 k1 k2 k3 k5 newId)) (m:mroIn K C v=some true):(Value.ref C::bm).contains v=true:=by
 unfold mroIn clsIn at m
 rw [h] at m
 dsimp only at m
 rw [Option.bind_some,if_neg (by simp)] at m
 exact Option.some.inj m
theorem catches_of {K:Frag}{C D:Addr} (hC:Shape K C) (hD:Shape K D) (m:mroIn K C (.ref D)=some true) (b:mroIn K D (.type "BaseException")=some true):Catches K C D:=by
 obtain ⟨nm,qn,N,bs,bm,hdct,sn,sub,ab,col,dd,k0,k1,k2,k3,k5,newId,h1⟩:=hC
 obtain ⟨nm',qn',N',bs',bm',hdct',sn',sub',ab',col',dd',j0,j1,j2,j3,j5,newId',h2⟩:=hD
 refine ⟨nm,qn,N,bs,bm,hdct,sn,sub,ab,col,dd,k0,k1,k2,k3,k5,newId,h1,nm',qn',N',bs',bm',hdct',sn',sub',ab',col',dd',j0,j1,j2,j3,j5,newId',h2,?_,mro_at h1 m⟩
 have:=mro_at h2 b
 rw [List.contains_cons] at this
 rcases (Bool.or_eq_true _ _).mp this with q | q
 ·cases beq_iff_eq.mp q
 ·exact q
def subOf (names:List Str):Str→Bool:=fun cn=>names.contains cn
def CatchT (K:Frag) (names:List Str) (Dc:Addr):Prop:=∀ cn C,subOf names cn=true→nsIn K mainGlobals cn=some (some (.ref C))→Catches K C Dc
theorem catchT_nil {K:Frag}{Dc:Addr}:CatchT K [] Dc:=fun _ _ h _=>by cases h
theorem catchT_cons {K:Frag}{c:Str}{C Dc:Addr}{names:List Str} (n:nsIn K mainGlobals c=some (some (.ref C))) (x:Catches K C Dc) (r:CatchT K names Dc):CatchT K (c::names) Dc:=fun cn C' h hn=>by
 unfold subOf at h
 rw [List.contains_cons] at h
 rcases (Bool.or_eq_true _ _).mp h with q | q
 ·have e:=beq_iff_eq.mp q
  subst e
  rw [n] at hn
  cases hn
  exact x
 ·exact r cn C' q hn
theorem kitT_nil {K:Frag}{c:Value}:KitT K [] c:=fun _ _ _ h _=>by cases h
theorem kitT_cons {K:Frag}{cn:Str}{C:Addr}{c:Value}{b:Bool}{T:List (Str×Bool)} (n:nsIn K mainGlobals cn=some (some (.ref C))) (k:ExcKit K C) (e:kitOne K (.ref C) c=some b) (r:KitT K T c):KitT K ((cn,b)::T) c:=fun cn' b' C' h hn=>by
 rw [List.lookup_cons] at h
 by_cases q:cn' == cn
 ·rw [q] at h
  cases h
  have e':=beq_iff_eq.mp q
  subst e'
  rw [n] at hn
  cases hn
  exact ⟨k,e⟩
 ·have q':(cn' == cn)=false:=by simpa using q
  rw [q'] at h
  exact r cn' b' C' h hn
theorem runR_er {n N:Nat}{b:SF}{ds:List D}{raw:Bool}{cn:XN}{ρ:Rho} (hl:ds.length=n) (h:b (iniF N ds)=some (.er raw cn ρ)):runR n N b ds=some (.er cn):=by unfold runR;rw [if_pos hl,h]
theorem s_seqE {f g:SF}{ρ ρ':Rho}{raw:Bool}{cn:XN} (h:f ρ=some (.er raw cn ρ')):sSeq f g ρ=some (.er raw cn ρ'):=by unfold sSeq;rw [h]
theorem cls_of_mro {K:Frag}{C:Addr}{v:Value}{b:Bool} (m:mroIn K C v=some b):(clsIn K C).isSome=true:=by
 unfold mroIn at m
 cases h:clsIn K C with
 | none=>rw [h] at m;cases m
 | some _=>rfl
end L2.Ev
namespace L2
open PySem PySem.Spec PyProof.Rows
section
variable {X:Cx}{e:Expr}{ES:XS}{pos:Pos}
abbrev Cx.keepN (X:Cx) (xs:List Str):Cx:={ X with fn:=fun y=>!(xs.contains y) }
theorem PSs.keepN {st:List Stmt}{t:TS}{xs:List Str} (hX:X.fn=fun _=>true) (h:PSs (X.keepN xs) st t):PSs X st t:=fun pins s σ H W I hw=>by
 have I':Inv (X.keepN xs) pins σ H s:=⟨⟨I.ok.mod,I.ok.kind,I.ok.glob,I.ok.blt,I.ok.above,I.ok.inj,I.ok.has,fun x c _ e=>I.ok.cab x c (by rw [hX]) e,I.ok.hd,I.ok.frames,I.ok.stk,I.ok.exf,I.ok.bs,I.ok.bsz,I.ok.noex,I.ok.exfs,I.ok.funs,I.ok.frf⟩,I.os,I.bare,I.base,I.loc,I.cell,I.free,I.freeC,I.pin,I.hok,I.len,I.hq⟩
 have back:∀ {σ':St}{H':Hp}{s':Shared},Inv (X.keepN xs) pins σ' H' s'→Inv X pins σ' H' s':=fun J=>⟨I.ok,J.os,J.bare,J.base,J.loc,J.cell,J.free,J.freeC,J.pin,J.hok,J.len,J.hq⟩
 refine wpAny_mono (h pins s σ H W I' hw) (fun f s' q=>?_) fun _ _ z=>z
 cases f with
 | next=>obtain ⟨a,b,J,q⟩:=q;exact ⟨a,b,back J,q⟩
 | brk=>obtain ⟨a,b,J,q⟩:=q;exact ⟨a,b,back J,q⟩
 | cont=>obtain ⟨a,b,J,q⟩:=q;exact ⟨a,b,back J,q⟩
 | ret u=>obtain ⟨v,a,b,J,r,q⟩:=q;exact ⟨v,a,b,back J,r,q⟩
end
end L2
namespace L2.Ev
open PySem PySem.Spec PyProof.Rows
def xMethS (cn m:Str) (F:List D→Option Rz) (fo:EF) (g:AF):XR:=fun ρ=>match fo ρ,g ρ with
 | some (.ins c es,_),some ps=>if c=cn∧es.lookup m=none then (match F (.ins c es::ps.map (·.1)) with
  | some (.ok d)=>some (.ok d ρ)
  | some (.er en)=>some (.er en ρ)
  | none=>none) else none
 | _,_=>none
section
variable {X:Cx}{o e:Expr}{es:List Expr}{fo:EF}{g:AF}{m cn:Str}{apos pos:Pos}{k:Nat}{C f:Addr}{fd:FuncData}{ps:List Str}{F:List D→Option Rz}{pl:Sem Bool}
theorem fe_methS (hC:ClsAt X.K cn C) (hm:Meth X.K C m f) (GG:FnOk X.prog X.w X.K X.mg X.base (CXE X.prog X.w) k f fd ps (spR X.K F)) (hr:Room k X.A) (hb:Binds X.K fd ps []) (ho:FP X.nox o fo) (ha:FA X.nox (e::es) g) (hx:X.ex=[]:=by rfl)
  (hst:starEach (e::es) X.env=(false,eval e X.env)::starEach es X.env:=by rfl) (hpl:(backTo pos (starEach es X.env)).any (·.1)=false:=by rfl)
  (ht:eval (.Call (.Attribute o m apos) (e::es) [] pos) X.env=(do
   let ov ← eval o X.env
   standAt apos.atName
   let (f,first) ← holding [ov] (getMethod ov m pl)
   callWith pos f first (backTo pos (starEach (e::es) X.env)) (backToKw pos (keywordEach [] X.env))):=by rfl):FE X (.Call (.Attribute o m apos) (e::es) [] pos) (xMethS cn m F fo g):=by
 obtain ⟨to,po,so⟩:=ho
 obtain ⟨ta,pa,_,qa⟩:=ha
 refine ⟨_,px_meth (pl:=pl) po hC.cl hm GG hr hx hb .nil pa hst hpl ht,fun H0 S z held ρ σ H Q E r ok e0 kk=>?_⟩
 unfold xMethS at e0
 split at e0
 ·rename_i c fs0 t0 qs h1 h2
  by_cases hc:c=cn∧fs0.lookup m=none
  ·rw [if_pos hc] at e0
   obtain ⟨rfl,hml⟩:=hc
   cases h3:F (.ins c fs0::qs.map (·.1)) with
   | none=>rw [h3] at e0;cases e0
   | some w=>
    rw [h3] at e0
    refine so H0 S z held ρ σ H _ _ t0 ok h1 fun H1 v fp s1 r1 _=>?_
    obtain ⟨b,dx,fs,gf,rfl,rfl,h4,h5,h6,h7⟩:=r1.ins_of hC.ns
    refine ⟨b,dx,fs,rfl,h4,look_none h6 hml,?_⟩
    refine qa H0 S z held ρ σ H1 _ qs (ok.same s1) h2 fun H2 vs fp2 s2 r2 _=>?_
    rw [List.append_nil]
    cases w with
    | ok d=>
     cases e0
     exact ⟨_,_,_,.cons (r1.same s2) r2,h3,fun H3 u fp' s3 r3 nd fr=>kk z H2 H3 u fp' ((ok.same s1).same s2) s3 r3 ⟨nd,fr⟩⟩
    | er en=>
     cases e0
     exact ⟨_,_,_,.cons (r1.same s2) r2,h3,fun H3 C3 s3 hn=>kk z H3 C3 (((ok.same s1).same s2).same s3) hn⟩
  ·rw [if_neg hc] at e0;cases e0
 ·cases e0
end
def FTZ (X:Cx) (e:Expr) (f:Rho→Option (Bool×Rho)):Prop:=∃ t,PT X e t∧∀ (H0:Hp) (S:List Addr) (z:Addr→Option Nat) (held:List Held) (ρ:Rho) (σ:St) (H:Hp) (Q:Bool→Hp→Prop) (b:Bool) (ρ':Rho),
 Ok X.K H0 S z held ρ σ H→f ρ=some (b,ρ')→(∀ z' H',Ok X.K H0 S z' held ρ' σ H'→Q b H')→t σ H Q
def sIfZ (c:Rho→Option (Bool×Rho)) (f g:SF):SF:=fun ρ=>match c ρ with
 | some (true,ρ')=>f ρ'
 | some (false,ρ')=>g ρ'
 | none=>none
section
variable {X:Cx}{a b:Expr}{fx:XF}{fb:EF}{pos:Pos}
theorem fs_ifZ {c:Expr}{s1 s2:List Stmt}{tc:Rho→Option (Bool×Rho)}{f g:SF} (hc:FTZ X c tc) (ha:FS X s1 f) (hb:FS X s2 g):FS1 X (.If c s1 s2 pos) (sIfZ tc f g):=by
 obtain ⟨t,p,q⟩:=hc
 obtain ⟨t1,p1,q1⟩:=ha
 obtain ⟨t2,p2,q2⟩:=hb
 refine ⟨_,ps_if p p1 p2,fun H0 S z held ρ σ H E o ok e k=>?_⟩
 unfold sIfZ at e
 cases h:tc ρ with
 | none=>rw [h] at e;cases e
 | some w=>
  obtain ⟨y,ρ1⟩:=w
  rw [h] at e
  refine q H0 S z held ρ σ H _ y ρ1 ok h fun z1 H1 ok1=>?_
  cases y with
  | true=>rw [if_pos rfl];exact q1 H0 S z1 held ρ1 σ H1 E o ok1 e k
  | false=>rw [if_neg Bool.false_ne_true];exact q2 H0 S z1 held ρ1 σ H1 E o ok1 e k
end
theorem log2_sm64 {n:Int} (h:n.natAbs < 2 ^ 64):n.natAbs.log2 < 1920:=by
 rcases Nat.eq_zero_or_pos n.natAbs with z | z
 ·rw [z];decide
 ·exact Nat.lt_of_lt_of_le ((Nat.log2_lt (by omega)).mpr h) (by decide)
theorem Reps.getS {K:PySem.W.Frag}{H:Hp}:∀ {ds:List D}{vs:List V}{fp:List Addr}{i:Nat}{d:D},Reps K H ds vs fp→ds[i]? = some d→∃ v f,vs[i]? = some v∧Rep K H d v f∧f.Sublist fp
 | _,_,_,_,_,.nil,e=>by simp at e
 | _,_,_,0,_,.cons (f2:=f2) h t,e=>by
  cases Option.some.inj e
  exact ⟨_,_,rfl,h,List.sublist_append_left _ _⟩
 | _,_,_,i + 1,d,.cons h t,e=>by
  obtain ⟨v,f,e1,r,s⟩:=Reps.getS (i:=i) (d:=d) t (by simpa using e)
  exact ⟨v,f,by simpa using e1,r,s.trans (List.sublist_append_right _ _)⟩
def eIxO (fa fb:EF):EF:=fun ρ=>match fa ρ,fb ρ with
 | some (.lst ds,.own),some (.int i,_)=>(atI ds i).map fun d=>(d,.own)
 | _,_=>none
theorem fp_ixO {X:Cx}{a b:Expr}{fa fb:EF}{pos:Pos} (ha:FP X a fa) (hb:FP X b fb) (hs:PlainIx b:=by exact fun _ _=>rfl):FP X (.Subscript a b pos) (eIxO fa fb):=by
 obtain ⟨ta,pa,sa⟩:=ha
 obtain ⟨tb,pb,sb⟩:=hb
 refine ⟨_,pe_ix ix_seq pa pb hs,fun H0 S z held ρ σ H Q d tg ok e q=>?_⟩
 unfold eIxO at e
 split at e
 ·rename_i ds i t2 e1 e2'
  cases e3:atI ds i with
  | none=>rw [e3] at e;cases e
  | some d'=>
   rw [e3] at e
   cases e
   refine sa H0 S z held ρ σ H _ _ _ ok e1 fun H1 x f1 s1 r1 g1=>?_
   refine sb H0 S z held ρ σ H1 _ _ t2 (ok.same s1) e2' fun H2 y f2 s2 r2 _=>?_
   have r1:=r1.same s2
   cases r2
   unfold atI at e3
   cases h:ixN ds.length i with
   | none=>rw [h] at e3;cases e3
   | some j=>
    rw [h,Option.bind_some] at e3
    cases r1 with
    | lst hq rs=>
     obtain ⟨v,f',hv,rv,hm⟩:=rs.getS e3
     have g1:(_::_:List Addr).Nodup∧∀ a∈_,H a=none:=g1
     refine .inl ⟨_,_,i,v,rfl,rfl,SqL.of hq,?_,q H2 v f' (s1.trans s2) rv ⟨hm.nodup (List.nodup_cons.mp g1.1).2,fun a m=>g1.2 a (List.mem_cons_of_mem _ (hm.subset m))⟩⟩
     unfold atI
     rw [← rs.length,h,Option.bind_some];exact hv
 ·cases e
section
variable (P:Program) (w:World) (K:PySem.W.Frag) (mg:Str→Option Value) (base:Heap) (CX:CXT) (k:Nat)
def FN (x:Str) (ps:List Str) (sp:Sp) (cm:Bool:=true):Prop:=∃ a fd,FnOk P w K mg base CX k a fd ps sp cm∧mg x=some (.ref a)∧PySem.W.keepIn K (.ref a)=true∧Binds K fd ps []
def MT (C:Addr) (x:Str) (ps:List Str) (sp:Sp) (cm:Bool:=true):Prop:=∃ a fd,FnOk P w K mg base CX k a fd ps sp cm∧Binds K fd ps []∧Meth K C x a
def MI (C:Addr) (ps:List Str) (sp:Sp) (cm:Bool:=true):Prop:=∃ a fd,FnOk P w K mg base CX k a fd ps sp cm∧Binds K fd ps []∧Mk K C a
end
def GL (K:PySem.W.Frag) (x q:Str) (st:Stmt) (f:Addr):Prop:=∃ oc od kV dc pm an cd ct sl,K.lookup f=some ⟨oc,od,.func (PySem.W.fnOf x q (defArgs st) (defBody st) (defScope st) .none kV dc pm an cd ct),sl⟩∧PySem.W.codeIn K cd q=true∧PySem.W.keepIn K (.ref f)=true
def GFn (K:PySem.W.Frag) (x:Str) (st:Stmt):Prop:=∃ f,PySem.W.nsIn K mainGlobals x=some (some (.ref f))∧GL K x x st f
def GM (K:PySem.W.Frag) (C:Addr) (x q:Str) (st:Stmt):Prop:=∃ f,PySem.W.findIn K (.ref C) x=some (some (.ref f))∧PySem.W.isFn K (.ref f)=true∧GL K x q st f
abbrev BA (x q:Str) (st:Stmt) (ps:List Str):Prop:=∀ (kV doc pm:Value) (an:Option Addr) (cdv ct:Value) (us:List Value),us.length=ps.length→bindArgs (PySem.W.fnOf x q (defArgs st) (defBody st) (defScope st) .none kV doc pm an cdv ct) ⟨us,[]⟩=pure (ps.zip us)
theorem gl_fun {K:PySem.W.Frag}{x q:Str}{st:Stmt}{f:Addr} (l:GL K x q st f):PySem.W.keepIn K (.ref f)=true∧∃ fd,Fun K x q st f fd:=by
 obtain ⟨oc,od,kV,dc,pm,an,cd,ct,sl,h1,h2,h3⟩:=l
 exact ⟨h3,_,fun_mk h1 h2 h3⟩
section
variable {P:Program}{w:World}{K:PySem.W.Frag}{h:Heap}{mg:Str→Option Value}{base:Heap}{CX:CXT}{k:Nat}{C:Addr}{x q:Str}{st:Stmt}{ps:List Str}{sp:Sp}{cm:Bool}
theorem fnW (X:K.In h) (G:h.Ns mainGlobals mg) (l:GFn K x st) (ok:∀ {f:Addr}{fd:FuncData},Fun K x x st f fd→FnOk P w K mg base CX k f fd ps sp cm) (b:BA x x st ps):FN P w K mg base CX k x ps sp cm:=by
 obtain ⟨f,a,l⟩:=l
 obtain ⟨kp,fd,F⟩:=gl_fun l
 exact ⟨f,fd,ok F,PySem.W.mg_of X G a,kp,F.binds b⟩
theorem mtW (l:GM K C x q st) (ok:∀ {f:Addr}{fd:FuncData},Fun K x q st f fd→FnOk P w K mg base CX k f fd ps sp cm) (b:BA x q st ps):MT P w K mg base CX k C x ps sp cm:=by
 obtain ⟨f,a,i,l⟩:=l
 obtain ⟨kp,fd,F⟩:=gl_fun l
 exact ⟨f,fd,ok F,F.binds b,⟨a,i,kp⟩⟩
theorem miW (l:GM K C "__init__" q st) (m1:PySem.W.makesIn K C=true) (m2:PySem.W.keepIn K (.ref C)=true) (ok:∀ {f:Addr}{fd:FuncData},Fun K "__init__" q st f fd→FnOk P w K mg base CX k f fd ps sp cm) (b:BA "__init__" q st ps):MI P w K mg base CX k C ps sp cm:=by
 obtain ⟨f,a,i,l⟩:=l
 obtain ⟨kp,fd,F⟩:=gl_fun l
 exact ⟨f,fd,ok F,F.binds b,⟨m1,a,i,m2⟩⟩
theorem lawW {fa:Addr}{p:Str}{sp:Heap→Sp} (X:K.In h) (G:h.Ns mainGlobals mg) (hfa:mg "law"=some (.ref fa)) (l:GFn K "law" st)
  (b:∀ (kV doc pm:Value) (an:Option Addr) (cdv ct:Value) (s:Shared) (v:Value),BindsTo s (PySem.W.fnOf "law" "law" (defArgs st) (defBody st) (defScope st) .none kV doc pm an cdv ct) ⟨[v],[]⟩ [(p,v)])
  (ok:∀ base:Heap,K.In base→base.Ns mainGlobals mg→∀ {f:Addr}{fd:FuncData},Fun K "law" "law" st f fd→FnOk P w K mg base CX k f fd [p] (sp base) cm) :
  ∃ fd:FuncData,(∀ (s:Shared) (v:Value),BindsTo s fd ⟨[v],[]⟩ [(p,v)])∧∀ base:Heap,K.In base→base.Ns mainGlobals mg→FnOk P w K mg base CX k fa fd [p] (sp base) cm:=by
 obtain ⟨f,a,oc,od,kV,dc,pm,an,cd,ct,sl,h1,h2,h3⟩:=l
 have e:=hfa.symm.trans (PySem.W.mg_of X G a)
 cases e
 exact ⟨_,b kV dc pm an cd ct,fun base K1 G1=>ok base K1 G1 (fun_mk h1 h2 h3)⟩
end
theorem dropT_of {i:Nat}{s:Slot}{d:D}{t:Tag} (e:dropT i s=some (d,t)):s=some (d,t)∧∀ o,t=.sh o→i∉o:=by
 cases s with
 | none=>cases e
 | some w=>
  obtain ⟨d',t'⟩:=w
  cases t' with
  | sh o=>
   have e:(if o.contains i=true then none else some (d',Tag.sh o))=some (d,t):=e
   split at e
   ·cases e
   ·rename_i hc
    cases e
    exact ⟨rfl,fun o' eo m=>by cases eo;exact hc (List.contains_iff_mem.mpr m)⟩
  | own=>cases e;exact ⟨rfl,fun o eo=>by cases eo⟩
  | lk=>cases e;exact ⟨rfl,fun o eo=>by cases eo⟩
end L2.Ev
namespace L2
open PySem PySem.Spec PyProof.Rows
namespace Ev
theorem reps_rev {K:PySem.W.Frag}{H:Hp}:∀ {ds:List D}{vs:List V},Reps K H ds vs []→Reps K H ds.reverse vs.reverse []:=by
 intro ds
 induction ds with
 | nil=>intro vs h;generalize hf:([]:List Addr)=fp at h;cases h;exact .nil
 | cons d r ih=>
  intro vs h
  generalize hf:([]:List Addr)=fp at h
  cases h with
  | @cons _ v _ vs f1 f2 h1 h2=>
   obtain ⟨rfl,rfl⟩:=List.append_eq_nil_iff.mp hf.symm
   rw [List.reverse_cons,List.reverse_cons]
   have:=Reps.append (ih h2) (Reps.cons h1 .nil)
   simpa using this
def sRvS (i:Nat):SF:=fun ρ=>match ρ[i]? with
 | some (some (.lst ds,.own))=>if immAll ds=true then some (.nx (mutS ρ i (.lst ds.reverse))) else none
 | _=>none
theorem fs_rvS {X:Cx}{pos:Pos} (i:Nat) {x:Str}{p1 p2 p3:Pos} (hN:X.N[i]? = some x:=by rfl) (hvis:Vis X.env.scope x:=by first | exact Or.inl rfl | exact Or.inr (Or.inl rfl) | exact Or.inr (Or.inr rfl))
  (hd:(x == ("__debug__":Str))=false:=by decide) (hcd:(x == ("__classdict__":Str))=false:=by decide)
  (hbase:attributeBase (.Name x p1) "reverse" X.env (eval (.Name x p1) X.env)=eval (.Name x p1) X.env:=by rfl)
  (hline:(p2.endLine == p3.line)=true:=by rfl) (hsw:swapsWith (.Call (.Attribute (.Name x p1) "reverse" p2) [] [] p3) none pos.line X.env=pure false:=by rfl) :
  FS1 X (.Expr (.Call (.Attribute (.Name x p1) "reverse" p2) [] [] p3) pos) (sRvS i):=by
 refine ⟨_,ps_expr (pe_bm0 PySem.F.plainAttrs_list PySem.F.slot_list_reverse PySem.F.type_list_reverse mt_reverse (pe_var (i:=i) hN hvis hd hcd) hbase hline) hsw,fun H0 S z held ρ σ H E o ok e q=>?_⟩
 unfold sRvS at e
 split at e
 ·rename_i ds g2
  by_cases hc:immAll ds=true
  ·rw [if_pos hc] at e
   cases e
   obtain ⟨xv,fp,hs',r,zz⟩:=ok.sl i _ _ g2
   refine ⟨xv,hs',?_⟩
   cases r with
   | @lst l ys _ f' h rs=>
    have hn:=rs.imm hc
    subst hn
    refine ⟨.inl ⟨rfl,_,SqL.of h⟩,l,ys,rfl,rfl,h,?_⟩
    exact q z σ _ (Ok.mutate ok g2 hs' zz List.mem_cons_self h rfl (.lst upd_same ((reps_rev rs).frame (fun a m=>nomatch m) (Imm.upd h rfl)))) (.refl _ _)
  ·rw [if_neg hc] at e;cases e
 ·cases e
end Ev
end L2
namespace L2.Ev
open PySem PySem.Spec PyProof.Rows
theorem Ok.put2 {K:PySem.W.Frag}{H0:Hp}{S:List Addr}{z:Addr→Option Nat}{held:List Held}{ρ:Rho}{σ:St}{H H':Hp}{i j:Nat}{d0 d1 e0 e1:D}{v w:V}{fp0 fp1 gp0 gp1:List Addr} (ok:Ok K H0 S z held ρ σ H) (hij:i≠j) (h:ρ[i]? = some (some (d0,.own))) (h':ρ[j]? = some (some (e0,.own)))
  (hs:σ[i]? = some (some v)) (hs':σ[j]? = some (some w)) (zz:InZ z i .own fp0) (zz':InZ z j .own gp0) (im:Imm H H') (keep:∀ b o,b∉fp0→b∉gp0→H b=some o→H' b=some o) (r1:Rep K H' d1 v fp1) (r2:Rep K H' e1 w gp1) (nd:fp1.Nodup) (nd':gp1.Nodup) (dj:∀ b∈gp1,b∉fp1)
  (fr:∀ b∈fp1,(b∈fp0∨b∈gp0)∨H b=none) (fr':∀ b∈gp1,(b∈fp0∨b∈gp0)∨H b=none):∃ z',Ok K H0 S z' held (mutS (mutS ρ i d1) j e1) σ H':=by
 classical
 have hiρ:i < ρ.length:=(List.getElem?_eq_some_iff.mp h).1
 have hjρ:j < ρ.length:=(List.getElem?_eq_some_iff.mp h').1
 have inz:∀ {a:Addr},a∈fp0→z a=some i:=fun {a} m=>zz.2 a m
 have inz':∀ {a:Addr},a∈gp0→z a=some j:=fun {a} m=>zz'.2 a m
 have old:∀ {a:Addr}{o:HO},a∉fp0→a∉gp0→H a=some o→a∉fp1∧a∉gp1:=fun {a o} n n' e=>by
  refine ⟨fun m=>?_,fun m=>?_⟩
  ·rcases fr a m with (q | q) | q
   ·exact n q
   ·exact n' q
   ·rw [e] at q;cases q
  ·rcases fr' a m with (q | q) | q
   ·exact n q
   ·exact n' q
   ·rw [e] at q;cases q
 have dr1:∀ {i:Nat}{s:Slot}{d:D}{t:Tag},dropT i s=some (d,t)→s=some (d,t)∧∀ o,t=.sh o→i∉o:=fun {i s d t} e=>dropT_of e
 have dr:∀ {k:Nat}{d:D}{t:Tag},k≠i→k≠j→(mutS (mutS ρ i d1) j e1)[k]? = some (some (d,t))→ρ[k]? = some (some (d,t))∧∀ o,t=.sh o→i∉o∧j∉o:=fun {k d t} hk hk' e=>by
  unfold mutS at e
  rw [List.getElem?_set_ne (Ne.symm hk'),List.getElem?_map,List.getElem?_set_ne (Ne.symm hk),List.getElem?_map] at e
  cases e0:ρ[k]? with
  | none=>rw [e0] at e;cases e
  | some s=>
   rw [e0] at e
   have e:dropT j (dropT i s)=some (d,t):=Option.some.inj e
   obtain ⟨a1,a2⟩:=dr1 e
   obtain ⟨b1,b2⟩:=dr1 a1
   exact ⟨by rw [b1],fun o eo=>⟨b2 o eo,a2 o eo⟩⟩
 let z':Addr→Option Nat:=fun a=>if a∈fp1 then some i else if a∈gp1 then some j else if z a=some i∨z a=some j then none else z a
 have zold:∀ {a:Addr}{o:HO},a∉fp0→a∉gp0→H a=some o→z a≠some i→z a≠some j→z' a=z a:=fun {a o} n n' e q q'=>by
  obtain ⟨m1,m2⟩:=old n n' e
  show (if a∈fp1 then some i else if a∈gp1 then some j else if z a=some i∨z a=some j then none else z a)=z a
  rw [if_neg m1,if_neg m2,if_neg fun x=>x.elim q q']
 refine ⟨z',fun k d t e=>?_,fun q m=>?_,fun a k e=>?_,fun a u e n=>?_,?_⟩
 ·by_cases hk':k=j
  ·subst hk'
   unfold mutS at e
   rw [List.getElem?_set_self (by rw [List.length_map,List.length_set,List.length_map];exact hjρ)] at e
   cases e
   exact ⟨w,gp1,hs',r2,nd',fun a m=>by show (if a∈fp1 then some i else if a∈gp1 then some k else _)=_;rw [if_neg (dj a m),if_pos m]⟩
  ·by_cases hk:k=i
   ·subst hk
    unfold mutS at e
    rw [List.getElem?_set_ne (Ne.symm hk'),List.getElem?_map,List.getElem?_set_self (by rw [List.length_map];exact hiρ)] at e
    cases e
    exact ⟨v,fp1,hs,r1,nd,fun a m=>if_pos m⟩
   ·obtain ⟨e0',nd0⟩:=dr hk hk' e
    obtain ⟨v',fp',hsv,r',zz2⟩:=ok.sl k d t e0'
    have nz:∀ a∈fp',z a≠some i∧z a≠some j:=fun a m=>by
     cases t with
     | sh o=>exact ⟨fun q=>(nd0 o rfl).1 (zz2 a m i q),fun q=>(nd0 o rfl).2 (zz2 a m j q)⟩
     | own=>have:=zz2.2 a m;exact ⟨fun q=>by rw [q] at this;exact hk (Option.some.inj this).symm,fun q=>by rw [q] at this;exact hk' (Option.some.inj this).symm⟩
     | lk=>have:=zz2.2 a m;exact ⟨fun q=>by rw [q] at this;exact hk (Option.some.inj this).symm,fun q=>by rw [q] at this;exact hk' (Option.some.inj this).symm⟩
    have n0:∀ a∈fp',a∉fp0:=fun a m q=>(nz a m).1 (inz q)
    have n1:∀ a∈fp',a∉gp0:=fun a m q=>(nz a m).2 (inz' q)
    refine ⟨v',fp',hsv,r'.frame (fun a m=>?_) im,?_⟩
    ·obtain ⟨o,w,_⟩:=r'.dom a m
     rw [keep a o (n0 a m) (n1 a m) w,w]
    ·have at_:∀ a∈fp',z' a=z a:=fun a m=>by
      obtain ⟨o,w,_⟩:=r'.dom a m
      exact zold (n0 a m) (n1 a m) w (nz a m).1 (nz a m).2
     cases t with
     | sh o=>exact fun a m k q=>zz2 a m k (by rw [← at_ a m];exact q)
     | own=>exact ⟨zz2.1,fun a m=>(at_ a m).trans (zz2.2 a m)⟩
     | lk=>exact ⟨zz2.1,fun a m=>(at_ a m).trans (zz2.2 a m)⟩
 ·obtain ⟨r,hz⟩:=ok.hl q m
  have nz:∀ a∈q.fp,z a≠some i:=fun a m e=>(hz a m i e).2 d0 h
  have nz':∀ a∈q.fp,z a≠some j:=fun a m e=>(hz a m j e).2 e0 h'
  have n0:∀ a∈q.fp,a∉fp0:=fun a m e=>nz a m (inz e)
  have n1:∀ a∈q.fp,a∉gp0:=fun a m e=>nz' a m (inz' e)
  refine ⟨r.frame (fun a m=>?_) im,fun a ha k e=>?_⟩
  ·obtain ⟨o,w,_⟩:=r.dom a m
   rw [keep a o (n0 a m) (n1 a m) w,w]
  ·obtain ⟨o,w,_⟩:=r.dom a ha
   rw [zold (n0 a ha) (n1 a ha) w (nz a ha) (nz' a ha)] at e
   obtain ⟨h1,h2⟩:=hz a ha k e
   refine ⟨h1,fun d e'=>?_⟩
   have hk:k≠i:=fun x=>by rw [x] at e;exact nz a ha e
   have hk':k≠j:=fun x=>by rw [x] at e;exact nz' a ha e
   exact h2 d (dr hk hk' e').1
 ·have e:(if a∈fp1 then some i else if a∈gp1 then some j else if z a=some i∨z a=some j then none else z a)=some k:=e
  have inS:∀ {b:Addr},(b∈fp0∨b∈gp0)∨H b=none→H0 b=none∨b∈S:=fun {b} q=>by
   rcases q with (q | q) | q
   ·exact (ok.zd b i (inz q)).2
   ·exact (ok.zd b j (inz' q)).2
   ·cases h0:H0 b with
    | none=>exact .inl rfl
    | some o=>
     by_cases hS:b∈S
     ·exact .inr hS
     ·rw [ok.en b o h0 hS] at q;cases q
  by_cases m1:a∈fp1
  ·obtain ⟨o,w,_⟩:=r1.dom a m1
   exact ⟨⟨o,w⟩,inS (fr a m1)⟩
  ·rw [if_neg m1] at e
   by_cases m2:a∈gp1
   ·obtain ⟨o,w,_⟩:=r2.dom a m2
    exact ⟨⟨o,w⟩,inS (fr' a m2)⟩
   ·rw [if_neg m2] at e
    by_cases hz:z a=some i∨z a=some j
    ·rw [if_pos hz] at e;cases e
    ·rw [if_neg hz] at e
     obtain ⟨⟨o,w⟩,y⟩:=ok.zd a k e
     exact ⟨⟨o,keep a o (fun m=>hz (.inl (inz m))) (fun m=>hz (.inr (inz' m))) w⟩,y⟩
 ·have w:=ok.en a u e n
  refine keep a u (fun m=>?_) (fun m=>?_) w
  ·rcases (ok.zd a i (inz m)).2 with q | q
   ·rw [e] at q;cases q
   ·exact n q
  ·rcases (ok.zd a j (inz' m)).2 with q | q
   ·rw [e] at q;cases q
   ·exact n q
 ·unfold mutS
  rw [List.length_set,List.length_map,List.length_set,List.length_map];exact ok.ln
def PostPP (X:Cx) (H0:Hp) (S:List Addr) (held:List Held) (σ0:St) (E:Ends):Out→Prop
 | .nx ρ=>∀ z σ H,Ok X.K H0 S z held ρ σ H→Kp X σ0 σ→E.nx σ H
 | .bk ρ=>∀ z σ H,Ok X.K H0 S z held ρ σ H→Kp X σ0 σ→E.bk σ H
 | .ct ρ=>∀ z σ H,Ok X.K H0 S z held ρ σ H→Kp X σ0 σ→E.ct σ H
 | .er raw cn ρ=>PostE X H0 S held σ0 raw cn ρ
 | .rt p=>∃ r d0 d1,p=.tup [r,d0,d1]∧∀ z ρ σ H v,Ok X.K H0 S z held ρ σ H→ρ[0]? = some (some (d0,.own))→ρ[1]? = some (some (d1,.own))→Kp X σ0 σ→Rep X.K H r v []→E.rt v H
def FPP (X:Cx) (st:List Stmt) (f:SF):Prop:=∃ t,PSs X st t∧∀ (H0:Hp) (S:List Addr) (z:Addr→Option Nat) (held:List Held) (ρ:Rho) (σ:St) (H:Hp) (E:Ends) (o:Out),
 Ok X.K H0 S z held ρ σ H→f ρ=some o→PostPP X H0 S held σ E o→t E σ H
def FPP1 (X:Cx) (st:Stmt) (f:SF):Prop:=∃ t,PS X st t∧∀ (H0:Hp) (S:List Addr) (z:Addr→Option Nat) (held:List Held) (ρ:Rho) (σ:St) (H:Hp) (E:Ends) (o:Out),
 Ok X.K H0 S z held ρ σ H→f ρ=some o→PostPP X H0 S held σ E o→t E σ H
theorem PostPP.of {X:Cx}{H0:Hp}{S:List Addr}{held:List Held}{σ σ':St}{E:Ends}{o:Out} (k:PostPP X H0 S held σ E o) (a:Kp X σ σ'):PostPP X H0 S held σ' E o:=by
 cases o with
 | nx ρ=>exact fun z s H ok b=>k z s H ok (a.trans b)
 | bk ρ=>exact fun z s H ok b=>k z s H ok (a.trans b)
 | ct ρ=>exact fun z s H ok b=>k z s H ok (a.trans b)
 | er raw cn ρ=>exact PostE.of k a
 | rt d=>obtain ⟨r,d0,d1,e,k⟩:=k;exact ⟨r,d0,d1,e,fun z ρ s H v ok h h' b=>k z ρ s H v ok h h' (a.trans b)⟩
section
variable {X:Cx}{pos:Pos}{st:Stmt}{rest:List Stmt}{f g:SF}
theorem pp_of (h:FS1 X st f):FPP1 X st (noRt f):=by
 obtain ⟨t,p,q⟩:=h
 refine ⟨t,p,fun H0 S z held ρ σ H E o ok e k=>?_⟩
 unfold noRt at e
 cases h:f ρ with
 | none=>rw [h] at e;cases e
 | some w=>
  rw [h] at e
  refine q H0 S z held ρ σ H E w ok h ?_
  cases w <;> first | (cases e;done) | (cases e;exact k)
theorem pp_nil:FPP X [] sNx:=⟨_,pss_nil,fun _ _ z _ _ σ H _ _ ok e k=>by cases e;exact k z σ H ok (.refl _ _)⟩
theorem pp_one (h:FPP1 X st f):FPP X [st] f:=let ⟨t,p,q⟩:=h;⟨t,pss_one p,q⟩
theorem pp_cons (h1:FPP1 X st f) (h2:FPP X rest g):FPP X (st::rest) (sSeq f g):=by
 obtain ⟨t,p,q⟩:=h1
 obtain ⟨t',p',q'⟩:=h2
 refine ⟨_,pss_cons p p',fun H0 S z held ρ σ H E o ok e k=>?_⟩
 unfold sSeq at e
 cases h:f ρ with
 | none=>rw [h] at e;cases e
 | some w=>
  refine q H0 S z held ρ σ H _ w ok h ?_
  rw [h] at e
  cases w with
  | nx ρ'=>exact fun z' σ' H' ok' a=>q' H0 S z' held ρ' σ' H' E o ok' e (k.of a)
  | rt d=>cases e;exact k
  | bk ρ'=>cases e;exact k
  | ct ρ'=>cases e;exact k
  | er _ _ _=>cases e;exact k
theorem pp_if {c:Expr}{a b:List Stmt}{tc:TF} (hc:FT X c tc) (ha:FPP X a f) (hb:FPP X b g):FPP1 X (.If c a b pos) (sIf tc f g):=by
 obtain ⟨t,p,q⟩:=hc
 obtain ⟨t1,p1,q1⟩:=ha
 obtain ⟨t2,p2,q2⟩:=hb
 refine ⟨_,ps_if p p1 p2,fun H0 S z held ρ σ H E o ok e k=>?_⟩
 unfold sIf at e
 cases h:tc ρ with
 | none=>rw [h] at e;cases e
 | some y=>
  rw [h] at e
  refine q H0 S z held ρ σ H _ y ok h fun H1 s1=>?_
  cases y with
  | true=>rw [if_pos rfl];exact q1 H0 S z held ρ σ H1 E o (ok.same s1) e k
  | false=>rw [if_neg Bool.false_ne_true];exact q2 H0 S z held ρ σ H1 E o (ok.same s1) e k
def sRetPP (f:EF):SF:=fun ρ=>match f ρ,ρ[0]?,ρ[1]? with
 | some (r,_),some (some (d0,Tag.own)),some (some (d1,Tag.own))=>if imm r=true then some (.rt (.tup [r,d0,d1])) else none
 | _,_,_=>none
theorem pp_ret {e:Expr}{f:EF} (he:FP X e f):FPP1 X (.Return (some e) pos) (sRetPP f):=by
 obtain ⟨t,p,q⟩:=he
 refine ⟨_,ps_ret p,fun H0 S z held ρ σ H E o ok e k=>?_⟩
 unfold sRetPP at e
 split at e
 ·rename_i r tg d0 d1 h1 h2 h3
  by_cases hi:imm r=true
  ·rw [if_pos hi] at e
   cases e
   obtain ⟨r',d0',d1',ee,k⟩:=k
   cases ee
   refine q H0 S z held ρ σ H _ _ _ ok h1 fun H1 v fp s1 r1 _=>?_
   have hn:=r1.imm hi
   subst hn
   exact k z ρ σ H1 v (ok.same s1) h2 h3 (.refl _ _) r1
  ·rw [if_neg hi] at e;cases e
 ·cases e
end
abbrev MF2:=D→D→List D→Option (D×D×D)
def iniPP (n:Nat) (d0 d1:D) (ds:List D):Rho:=some (d0,.own)::some (d1,.own)::(ds.map (fun d=>some (d,.sh []))++List.replicate (n - (ds.length + 2)) none)
def runPP (n N:Nat) (b:SF):MF2:=fun d0 d1 ds=>if ds.length + 2=n then (match b (iniPP N d0 d1 ds) with
 | some (.rt (.tup [r,e0,e1]))=>some (r,e0,e1)
 | _=>none) else none
def spPP (K:PySem.W.Frag) (G:MF2):Sp:=fun vs H Q _=>∃ v0 v1 ws d0 d1 fp0 fp1 ds fps r e0 e1,vs=v0::v1::ws∧Rep K H d0 v0 fp0∧Rep K H d1 v1 fp1∧fp0.Nodup∧fp1.Nodup∧(∀ b∈fp1,b∉fp0)∧Reps K H ds ws fps∧(∀ b∈fps,b∉fp0∧b∉fp1)∧G d0 d1 ds=some (r,e0,e1) ∧
 ∀ H' v g0 g1,Imm H H'→(∀ b o,b∉fp0→b∉fp1→H b=some o→H' b=some o)→Rep K H' e0 v0 g0→Rep K H' e1 v1 g1→g0.Nodup→g1.Nodup→(∀ b∈g1,b∉g0)→(∀ b∈g0,(b∈fp0∨b∈fp1)∨H b=none)→(∀ b∈g1,(b∈fp0∨b∈fp1)∨H b=none)→Rep K H' r v []→Q v H'
section
variable {P:Program}{w:World}{K:PySem.W.Frag}{mg:Str→Option Value}{base:Heap}
theorem fn_PP {x qual x0 x1:Str}{st:Stmt}{f:Addr}{fd:FuncData}{N ps:List Str}{k:Nat}{b:SF} (F:Fun K x qual st f fd) (S:FnScope N ps (defScope st)) (h0:N[0]? = some x0) (h1:N[1]? = some x1) (hps:ps.length≤N.length)
  (hb:∀ (cdv:Value) (A:Around) (outer:List Env) (s:Shared) (H:Hp) (E:XK),Room k (A.deeper (envOfC qual (defScope st) s.heap.objs.size f cdv))→FPP ((cxOf CX0 P w K mg base N qual (defScope st) f cdv A outer s H E).nox.keepN [x0,x1]) (defBody st) b) (hx0:([x0,x1].contains ("self":Str))=false:=by decide) :
  FnOk P w K mg base CX0 (k + 1) f fd ps (spPP K (runPP ps.length N.length b)):=by
 classical
 refine F.ok S (fun vs H Q E h=>?_) fun cdv A outer s H vs Q E hr h=>?_
 ·obtain ⟨v0,v1,ws,d0,d1,fp0,fp1,ds,fps,r,e0,e1,rfl,_,_,_,_,_,rs,_,e,_⟩:=h
  unfold runPP at e
  by_cases hl:ds.length + 2=ps.length
  ·rw [List.length_cons,List.length_cons,← rs.length,← hl]
  ·rw [if_neg hl] at e;cases e
 ·obtain ⟨v0,v1,ws,d0,d1,fp0,fp1,ds,fps,r,e0,e1,rfl,r0,r1,nd0,nd1,dj01,rs,dj,e,q⟩:=h
  obtain ⟨t,pt,sd⟩:=hb cdv A outer s H E hr
  refine ⟨t,pt.keepN rfl,?_⟩
  unfold runPP at e
  by_cases hl:ds.length + 2=ps.length
  ·rw [if_pos hl] at e
   have lw:=rs.length
   let z0:Addr→Option Nat:=fun c=>if c∈fp0 then some 0 else if c∈fp1 then some 1 else none
   have ok:Ok K H (fp0++fp1) z0 [] (iniPP N.length d0 d1 ds) (start N (v0::v1::ws)) H:=by
    refine ⟨fun i d t e'=>?_,fun p m=>(nomatch m),fun c j e'=>?_,fun c o e' _=>e',?_⟩
    ·match i with
     | 0=>
      have e':some (some (d0,Tag.own))=some (some (d,t)):=e'
      cases e'
      exact ⟨v0,fp0,rfl,r0,nd0,fun c m=>if_pos m⟩
     | 1=>
      have e':some (some (d1,Tag.own))=some (some (d,t)):=e'
      cases e'
      exact ⟨v1,fp1,rfl,r1,nd1,fun c m=>by show (if c∈fp0 then some 0 else if c∈fp1 then some 1 else none)=_;rw [if_neg (dj01 c m),if_pos m]⟩
     | i + 2=>
      have e':(ds.map (fun d=>some (d,Tag.sh []))++List.replicate (N.length - (ds.length + 2)) none)[i]? = some (some (d,t)):=e'
      by_cases hi:i < ds.length
      ·rw [List.getElem?_append_left (by rw [List.length_map];exact hi),List.getElem?_map] at e'
       cases ed:ds[i]? with
       | none=>rw [ed] at e';cases e'
       | some d'=>
        rw [ed] at e'
        cases e'
        obtain ⟨v,g,hv,rv,sub⟩:=rs.at_arg ed
        refine ⟨v,g,?_,rv,fun c m j e''=>?_⟩
        ·show (some v0::some v1::(ws.map some++List.replicate (N.length - (ws.length + 2)) none))[i + 2]? = _
         rw [List.getElem?_cons_succ,List.getElem?_cons_succ,List.getElem?_append_left (by rw [List.length_map,← lw];exact hi),List.getElem?_map,hv];rfl
        ·have e'':(if c∈fp0 then some 0 else if c∈fp1 then some 1 else none)=some j:=e''
         rw [if_neg (dj c (sub c m)).1,if_neg (dj c (sub c m)).2] at e'';cases e''
      ·rw [List.getElem?_append_right (by rw [List.length_map];omega),List.getElem?_replicate] at e'
       split at e' <;> cases e'
    ·have e':(if c∈fp0 then some 0 else if c∈fp1 then some 1 else none)=some j:=e'
     by_cases m:c∈fp0
     ·obtain ⟨o,w,_⟩:=r0.dom c m
      exact ⟨⟨o,w⟩,.inr (List.mem_append_left _ m)⟩
     ·rw [if_neg m] at e'
      by_cases m':c∈fp1
      ·obtain ⟨o,w,_⟩:=r1.dom c m'
       exact ⟨⟨o,w⟩,.inr (List.mem_append_right _ m')⟩
      ·rw [if_neg m'] at e';cases e'
    ·unfold iniPP start
     simp only [List.length_cons,List.length_append,List.length_map,List.length_replicate,lw]
     omega
   cases ho:b (iniPP N.length d0 d1 ds) with
   | none=>rw [ho] at e;cases e
   | some o=>
    rw [ho] at e
    refine sd H (fp0++fp1) _ [] _ _ H _ o ok ho ?_
    cases o with
    | rt p=>
     have hp:p=.tup [r,e0,e1]:=by
      split at e <;> rename_i hh
      ·cases e;cases hh;rfl
      ·cases e
     refine ⟨r,e0,e1,hp,fun z ρ σ H' v ok' a0 a1 kp rr=>?_⟩
     obtain ⟨u0,g0,hs0,q0,zz0⟩:=ok'.sl 0 e0 .own a0
     obtain ⟨u1,g1,hs1,q1,zz1⟩:=ok'.sl 1 e1 .own a1
     have hk0:σ[0]? = some (some v0):=kp 0 _ h0 (by show (x0 == ("self":Str)||(!([x0,x1].contains ("self":Str))&&!(!([x0,x1].contains x0))))=true;rw [hx0];simp)
     have hk1:σ[1]? = some (some v1):=kp 1 _ h1 (by show (x1 == ("self":Str)||(!([x0,x1].contains ("self":Str))&&!(!([x0,x1].contains x1))))=true;rw [hx0];simp)
     rw [hk0] at hs0
     cases hs0
     rw [hk1] at hs1
     cases hs1
     have st:∀ {c:Addr}{o:HO},H c=some o→MutO o=false→H' c=some o:=fun {c o} e' mo=>ok'.en c _ e' fun m=>by
      rcases List.mem_append.mp m with m | m
      ·obtain ⟨o',w,mo'⟩:=r0.dom c m
       rw [e'] at w;cases w;rw [mo] at mo';cases mo'
      ·obtain ⟨o',w,mo'⟩:=r1.dom c m
       rw [e'] at w;cases w;rw [mo] at mo';cases mo'
     have fr:∀ {n:Nat}{c:Addr},z c=some n→(c∈fp0∨c∈fp1)∨H c=none:=fun {n c} e'=>((ok'.zd c n e').2).symm.imp List.mem_append.mp id
     exact q H' v g0 g1 ⟨fun c xs e'=>st e' rfl,fun c o u e'=>st e' rfl,fun c φ e'=>st e' rfl⟩ (fun c o n n' e'=>ok'.en c o e' fun m=>(List.mem_append.mp m).elim n n') q0 q1 zz0.1 zz1.1 (fun c m m'=>by have:=zz0.2 c m';rw [zz1.2 c m] at this;cases this) (fun c m=>fr (zz0.2 c m)) (fun c m=>fr (zz1.2 c m)) rr
    | nx ρ'=>cases e
    | bk _=>cases e
    | ct _=>cases e
    | er _ _ _=>cases e
  ·rw [if_neg hl] at e;cases e
end
def xCallPP (i j:Nat) (G:MF2) (g:AF):XF:=fun ρ=>match ρ[i]?,ρ[j]?,g ρ with
 | some (some (d0,.own)),some (some (d1,.own)),some ps=>if i≠j∧apart i ps=true∧apart j ps=true then (match G d0 d1 (ps.map (·.1)) with
  | some (r,e0,e1)=>some (r,mutS (mutS ρ i e0) j e1)
  | none=>none) else none
 | _,_,_=>none
section
variable {X:Cx}{x xn yn:Str}{p p1 p2 pos:Pos}{es:List Expr}{k:Nat}{f:Addr}{fd:FuncData}{ps:List Str}{G:MF2}{g:AF}
theorem fz_callPP (i j:Nat) (GG:FnOk X.prog X.w X.K X.mg X.base CX0 k f fd ps (spPP X.K G)) (hr:Room k X.A) (hm:X.mg x=some (.ref f)) (hk:PySem.W.keepIn X.K (.ref f)=true) (hb:Binds X.K fd ps []) (ha:FA X es g)
  (hN:X.N[i]? = some xn:=by rfl) (hvis:Vis X.env.scope xn:=by first | exact Or.inl rfl | exact Or.inr (Or.inl rfl) | exact Or.inr (Or.inr rfl)) (hN2:X.N[j]? = some yn:=by rfl) (hvis2:Vis X.env.scope yn:=by first | exact Or.inl rfl | exact Or.inr (Or.inl rfl) | exact Or.inr (Or.inr rfl))
  (hd:(xn == ("__debug__":Str))=false:=by decide) (hcd:(xn == ("__classdict__":Str))=false:=by decide) (hd2:(yn == ("__debug__":Str))=false:=by decide) (hcd2:(yn == ("__classdict__":Str))=false:=by decide)
  (hg:Gl X x:=by rfl) (hdb:(x == ("__debug__":Str))=false:=by decide) (he:starEach (.Name xn p1::.Name yn p2::es) X.env=(false,eval (.Name xn p1) X.env)::starEach (.Name yn p2::es) X.env:=by rfl) (he2:starEach (.Name yn p2::es) X.env=(false,eval (.Name yn p2) X.env)::starEach es X.env:=by rfl) (hpl:(backTo pos (starEach (.Name yn p2::es) X.env)).any (·.1)=false:=by rfl) :
  FZ X (.Call (.Name x p) (.Name xn p1::.Name yn p2::es) [] pos) (xCallPP i j G g):=by
 obtain ⟨t,pa,_,sa⟩:=ha
 refine ⟨_,pe_call GG hr hg hm hk hb .nil pass0 (pa_cons (pe_var (i:=i) hN hvis hd hcd) (pa_cons (pe_var (i:=j) hN2 hvis2 hd2 hcd2) pa he2) he) hdb he hpl,fun H0 S z held ρ σ H Q d ρ' ok e0 kk=>?_⟩
 unfold xCallPP at e0
 split at e0
 ·rename_i d0 d1 qs h1 h2 h3
  by_cases hap:i≠j∧apart i qs=true∧apart j qs=true
  ·rw [if_pos hap] at e0
   obtain ⟨hij,ap1,ap2⟩:=hap
   split at e0
   ·rename_i r f0 f1 h4
    cases e0
    obtain ⟨v,fp0,hs,r0,zz⟩:=ok.sl i _ _ h1
    obtain ⟨u,fp1,hs2,r1,zz2⟩:=ok.sl j _ _ h2
    refine ⟨v,hs,u,hs2,?_⟩
    refine sa H0 S z held ρ σ H _ qs ok h3 fun H2 vs fp2 s2 r2 g2=>?_
    show spPP X.K G ((v::u::vs)++[]) H2 Q E0
    rw [List.append_nil]
    have ok2:=ok.same s2
    refine ⟨v,u,vs,d0,d1,fp0,fp1,_,fp2,_,f0,f1,rfl,r0.same s2,r1.same s2,zz.1,zz2.1,fun b m m'=>?_,r2,fun b m=>⟨apart_of ok ap1 g2 zz b m,apart_of ok ap2 g2 zz2 b m⟩,h4,fun H3 v' g0 g1 im kp q0 q1 n0 n1 dj fr fr' rr=>?_⟩
    ·have:=zz.2 b m'
     rw [zz2.2 b m] at this
     exact hij (Option.some.inj this).symm
    ·obtain ⟨z',ok3⟩:=ok2.put2 hij h1 h2 hs hs2 zz zz2 im kp q0 q1 n0 n1 dj fr fr'
     exact kk z' H3 v' ok3 rr
   ·cases e0
  ·rw [if_neg hap] at e0;cases e0
 ·cases e0
end
end L2.Ev
namespace L2
open PySem PySem.Spec PyProof.Rows
section
variable {X:Cx}
theorem Inv.freeze {pins:List (Addr×Obj)}{σ:St}{H:Hp}{s:Shared}{a:Addr}{xs:List V} (I:Inv X pins σ H s) (h:H a=some (.lst xs)):∃ o,Inv X pins σ (upd H a (.frz o (.lst xs))) s:=by
 obtain ⟨hz,its,n,rv,ho⟩:=I.hok a _ h
 have ne:∀ {b:Addr}{o:HO},H b=some o→(∀ xs,o≠.lst xs)→b≠a:=fun {b o} q n z=>by rw [z,h] at q;cases q;exact n _ rfl
 have nn:∀ {b:Addr},H b=none→b≠a:=fun {b} q z=>by rw [z,h] at q;cases q
 refine ⟨{ cls:=.type "list",data:=.seq its.toArray n },I.ok,I.os,I.bare,⟨I.base.keep,I.base.slot,fun b o q n hx=>?_,I.base.there,fun b xs q=>?_,fun b o u q=>?_,fun b ps q=>?_⟩,I.loc,I.cell,?_,fun x c q=>?_,fun p hp=>?_,fun b o q=>?_,I.len,I.hq.mono fun b o u q=>by rw [upd_ne (ne q fun _=>by simp)];exact q⟩
 ·have w:=I.base.free b o q n hx
  rw [upd_ne (nn w)];exact w
 ·have w:=I.base.tups b xs q
  rw [upd_ne (ne w fun _=>by simp)];exact w
 ·have w:=I.base.frzs b o u q
  rw [upd_ne (ne w fun _=>by simp)];exact w
 ·obtain ⟨more,w⟩:=I.base.tbls b ps q
  exact ⟨more,by rw [upd_ne (ne w fun _=>by simp)];exact w⟩
 ·rw [upd_ne (nn I.free)];exact I.free
 ·have w:=I.freeC x c q
  rw [upd_ne (nn w)];exact w
 ·obtain ⟨p1,p2,p3⟩:=I.pin p hp
  exact ⟨p1,by rw [upd_ne (nn p2)];exact p2,p3⟩
 ·by_cases z:b=a
  ·subst z
   rw [upd_same] at q
   cases q
   exact ⟨ho,hz,its,n,rv,ho⟩
  ·rw [upd_ne z] at q
   exact (I.hok b o q).stay (fun _ _ _ q=>q) (fun c q=>by rw [upd_ne (ne q fun _=>by simp)];exact q) fun c xs q=>by rw [upd_ne (ne q fun _=>by simp)];exact q
def tFrz (t:TE):TE:=fun σ H Q=>t σ H fun x H1=>∃ a xs,x=.ref a∧H1 a=some (.lst xs)∧∀ o,Q x (upd H1 a (.frz o (.lst xs)))
theorem pe_frz {e:Expr}{t:TE} (h:PE X e t):PE X e (tFrz t):=fun pins s σ H Q I hw=>
 thn (h pins s σ H _ I hw) fun u s1 ⟨x,H1,I1,r,a,xs,e1,ha,q⟩=>by
  obtain ⟨o,J⟩:=I1.freeze ha
  exact ⟨x,_,J,r,q o⟩
def tEr (t:TX):TX:=fun σ H _ E=>t σ H (fun _ _=>False) E
theorem px_sub0 {v s:Expr}{pos:Pos}{t:TX} (h:PX X v t):PX X (.Subscript v s pos) (tEr t):=fun pins st σ H Q E I hw=>by
 rw [arm_eval_Subscript]
 exact wpAny_bind (wpAny_mono (h pins st σ H _ E I hw) (fun _ _ ⟨_,_,_,_,z⟩=>z.elim) fun _ _ z=>z)
theorem px_list0 {v:Expr}{p pos:Pos}{t:TX} (hm:X.mg "list"=none) (h:PX X v t) (hg:Gl X "list":=by rfl) (hs:starEach [v] X.env=[(false,eval v X.env)]:=by rfl):PX X (.Call (.Name "list" p) [v] [] pos) (tEr t):=fun pins st σ H Q E I hw=>by
 refine wpAny_Call_Name_kw (wpAny_mono (ld_blt (X:=X.nox) (Q:=fun u s'=>u=.type "list"∧s'=st) (I.wish _) hg hm (show bootBuiltins "list"=some (.type "list") by rfl) ⟨rfl,rfl⟩ (by decide) (by decide)) (fun u s' z=>?_) fun _ _ z=>False.elim z)
 obtain ⟨rfl,rfl⟩:=z
 refine PyProof.Rows.callWith_type1 ?_ hs rfl
 rw [hs]
 exact Calls.spliced_cons (wpAny_mono (h pins _ σ H _ E I hw) (fun _ _ ⟨_,_,_,_,z⟩=>z.elim) fun _ _ z=>z)
end
section
variable {X:Cx}{e:Expr}{te:TE}
def tFt (x:Str) (te:TE):TE:=fun σ H Q=>te σ H fun v H1=>∃ n:Int,v=.int n∧n.natAbs.log2 < 1920∧Q (.str (Str.empty++x++Str.ofString (toString n))) H1
theorem pe_ft {x:Str}{j:Nat}{p1 p2 p3:Pos} (hx:x.length≤1000) (he:PE X e te):PE X (.JoinedStr [.Constant (.str x) j p1,.FormattedValue e (-1) none p2] p3) (tFt x te):=by
 intro pins s σ H Q I h
 have l0:(Str.empty++x).length=x.length:=by rw [strLen_append];show 0 + _=_;omega
 refine JoinedStr_many (joinParts_cons (Calls.Constant_str ⟨by rw [l0,sizeLine_eq];omega,?_⟩))
 refine joinParts_cons (FormattedValue_plain (thn (he pins _ σ H _ (I.tok _) h) fun u s1 ⟨v,H1,I1,r,n,e1,e2,q⟩=>?_))
 subst e1
 obtain ⟨t,rfl⟩:=r
 have l1:=int_text_length_le (k:=1920) (by decide) e2
 have l2:(Str.empty++x++Str.ofString (toString n)).length≤sizeLine:=by
  rw [strLen_append,l0,PySem.ofString_length,sizeLine_eq];omega
 refine formatField_int_small e2 ⟨l2,?_⟩
 exact joinParts_nil ⟨.str _,H1,I1.tok _,⟨_,rfl⟩,q⟩ l2
end
namespace Ev
section
variable {X:Cx}{e a b:Expr}{f:EF}{fx:XF}{pos:Pos}
def oFs (x:Str):D→Option D
 | .int n=>if n.natAbs < 2 ^ 64 then some (.str (Str.empty++x++Str.ofString (toString n))) else none
 | _=>none
theorem fp_fs {x:Str}{j:Nat}{p1 p2 p3:Pos} (hx:x.length≤1000) (h:FP X e f):FP X (.JoinedStr [.Constant (.str x) j p1,.FormattedValue e (-1) none p2] p3) (e1 (oFs x) f):=by
 obtain ⟨t,p,q⟩:=h
 refine ⟨_,pe_ft hx p,fun H0 S z held ρ σ H Q d tg ok e0 k=>?_⟩
 obtain ⟨d1,t1,h1,h2,rfl⟩:=e1_of e0
 unfold oFs at h2
 split at h2
 ·rename_i n
  by_cases hn:n.natAbs < 2 ^ 64
  ·rw [if_pos hn] at h2
   cases h2
   refine q H0 S z held ρ σ H _ _ _ ok h1 fun H1 v fp s1 r1 _=>?_
   cases r1
   exact ⟨n,rfl,log2_sm64 hn,k H1 _ [] s1 (.str _) .nil⟩
  ·rw [if_neg hn] at h2;cases h2
 ·cases h2
def eFrz (f:EF):EF:=fun ρ=>match f ρ with
 | some (.lst ds,.own)=>if immAll ds=true then some (.fls ds,.own) else none
 | _=>none
theorem fp_frz (h:FP X e f):FP X e (eFrz f):=by
 obtain ⟨t,p,q⟩:=h
 refine ⟨_,pe_frz p,fun H0 S z held ρ σ H Q d tg ok e0 k=>?_⟩
 unfold eFrz at e0
 split at e0
 ·rename_i ds h1
  by_cases hi:immAll ds=true
  ·rw [if_pos hi] at e0
   cases e0
   refine q H0 S z held ρ σ H _ _ _ ok h1 fun H1 v fp s1 r1 g1=>?_
   cases r1 with
   | @lst c xs _ f' hc rs=>
    have hn:=rs.imm hi
    subst hn
    refine ⟨c,xs,rfl,hc,fun o=>k _ _ [] (fun b o' e'=>?_) (.lsf (.inl ⟨o,upd_same⟩) (rs.frame (fun a m=>nomatch m) (Imm.upd hc rfl))) .nil⟩
    have fresh:=g1.2 c List.mem_cons_self
    rw [upd_ne (ne_of_none e' fresh)]
    exact s1 _ _ e'
  ·rw [if_neg hi] at e0;cases e0
 ·cases e0
def tNotZ (fx:XF):Rho→Option (Bool×Rho):=fun ρ=>match fx ρ with
 | some (.bl c,ρ')=>some (!c,ρ')
 | _=>none
theorem ftz_not (h:FZ X a fx) (he:∀ whole,isTrue a X.env whole=(do let v ← whole;standAt a.pos;holding [v] (truthy v)):=by intro _;rfl):FTZ X (.UnaryOp .Not a pos) (tNotZ fx):=by
 obtain ⟨t,p,q⟩:=h
 refine ⟨_,pt_not (pt_val p he),fun H0 S z held ρ σ H Q c ρ' ok e k=>?_⟩
 unfold tNotZ at e
 split at e
 ·rename_i c' ρ1 h1
  cases e
  refine q H0 S z held ρ σ H _ _ _ ok h1 fun z' H' v ok' r=>?_
  cases r
  exact ⟨_,rfl,k z' H' ok'⟩
 ·cases e
def tAndZ (ft:TF) (fz:Rho→Option (Bool×Rho)):Rho→Option (Bool×Rho):=fun ρ=>match ft ρ with
 | some true=>fz ρ
 | some false=>some (false,ρ)
 | none=>none
theorem ftz_and {ft:TF}{fz:Rho→Option (Bool×Rho)} (ha:FT X a ft) (hb:FTZ X b fz):FTZ X (.BoolOp .And [a,b] pos) (tAndZ ft fz):=by
 obtain ⟨t,p,q⟩:=ha
 obtain ⟨t',p',q'⟩:=hb
 refine ⟨_,(pw_and p (pw_and1 p')).pt,fun H0 S z held ρ σ H Q c ρ' ok e k=>?_⟩
 unfold tAndZ at e
 split at e
 ·rename_i h1
  refine q H0 S z held ρ σ H _ true ok h1 fun H1 s1=>?_
  rw [if_pos rfl]
  exact q' H0 S z held ρ σ H1 Q c ρ' (ok.same s1) e k
 ·rename_i h1
  cases e
  refine q H0 S z held ρ σ H _ false ok h1 fun H1 s1=>?_
  rw [if_neg Bool.false_ne_true]
  exact k z H1 (ok.same s1)
 ·cases e
def xEr (f:XR):XR:=fun ρ=>match f ρ with
 | some (.er cn ρ')=>some (.er cn ρ')
 | _=>none
theorem fe_sub0 {s:Expr}{f:XR} (h:FE X e f):FE X (.Subscript e s pos) (xEr f):=by
 obtain ⟨t,p,q⟩:=h
 refine ⟨_,px_sub0 p,fun H0 S z held ρ σ H Q E r ok e0 k=>?_⟩
 unfold xEr at e0
 split at e0
 ·rename_i cn ρ1 h1
  cases e0
  exact q H0 S z held ρ σ H _ E _ ok h1 k
 ·cases e0
theorem fe_list0 {f:XR}{p2:Pos} (hm:X.mg "list"=none) (h:FE X e f) (hg:Gl X "list":=by rfl) (hs:starEach [e] X.env=[(false,eval e X.env)]:=by rfl):FE X (.Call (.Name "list" p2) [e] [] pos) (xEr f):=by
 obtain ⟨t,p,q⟩:=h
 refine ⟨_,px_list0 hm p hg hs,fun H0 S z held ρ σ H Q E r ok e0 k=>?_⟩
 unfold xEr at e0
 split at e0
 ·rename_i cn ρ1 h1
  cases e0
  exact q H0 S z held ρ σ H _ E _ ok h1 k
 ·cases e0
end
end Ev
namespace Zt
section
variable {prog:Program}{w:World}{A:Around}{E:Value→Shared→Prop}{s:Shared}
theorem drawn {it t:Addr}{i:Nat}{items:Array Value}{x:Value}{Q:Value→Shared→Prop} (hit:s.heap.IsTupleIter it t i) (ht:s.heap.IsTuple t items) (hx:items[i]? = some x)
  (hQ:∀ h',h'.IsTupleIter it t (i + 1)→Heap.SameBut it s.heap h'→Q x { s with heap:=h' }):wpAny (model prog w) A (Builtin.SmallTypes.nextOf (.ref it)) Q E s:=by
 obtain ⟨oi,ei,ci,di⟩:=id hit
 obtain ⟨ot,et,_,nt,dt⟩:=ht
 unfold Builtin.SmallTypes.nextOf
 refine wpAny_bind (wpAny_callSpecial?_slot (name:=Str.ofString "__next__") hit.typeIs F.slot_tuple_iterator_next (wpAny_call_entry F.slot_tuple_iterator_next hit.typeIs F.entry_tuple_iterator_next ?_ (F.args_tuple_iterator_next_1 _)))
 show wpAny _ _ (field (.ref it) 0 >>= fun v=>_) _ _ s
 refine wpAny_bind (wpAny_field ei di (x:=.ref t) rfl ?_)
 refine wpAny_ite_split (fun z=>absurd z Bool.false_ne_true) fun _=>?_
 show wpAny _ _ (field (.ref it) 1 >>= fun v=>_) _ _ s
 refine wpAny_bind (wpAny_field ei di (x:=.int i 0) rfl ?_)
 refine wpAny_bind (wpAny_seqItems et dt ?_)
 simp only [Int.toNat_natCast,hx]
 refine wpAny_bind (wpAny_setField ei di (by simp) (wpAny_pure ⟨x,rfl,wpAny_pure (hQ _ ⟨_,Heap.get?_update_self _ ei (Obj.isFreed_of_fields (Obj.data_mapFields di _)),(Obj.cls_mapFields ..).trans ci,?_⟩ (Heap.SameBut.update ..))⟩))
 rw [Obj.data_mapFields di]
 simp [rawInt]
theorem ended {it t:Addr}{i:Nat}{items:Array Value}{Q:Value→Shared→Prop} (hh:A.handled=none) (hit:s.heap.IsTupleIter it t i) (ht:s.heap.IsTuple t items) (hx:items[i]? = none)
  (hE:∀ h' e,Heap.ExtBut it s.heap h'→(∃ o,h'.get? e=some o∧o.cls=.type "StopIteration")→E (.ref e) { s with heap:=h' }):wpAny (model prog w) A (Builtin.SmallTypes.nextOf (.ref it)) Q E s:=by
 obtain ⟨oi,ei,ci,di⟩:=id hit
 obtain ⟨ot,et,_,nt,dt⟩:=ht
 have hh1:A.in1.handled=none:=hh
 unfold Builtin.SmallTypes.nextOf
 refine wpAny_bind (wpAny_callSpecial?_slot (name:=Str.ofString "__next__") hit.typeIs F.slot_tuple_iterator_next (wpAny_call_entry F.slot_tuple_iterator_next hit.typeIs F.entry_tuple_iterator_next ?_ (F.args_tuple_iterator_next_1 _)))
 show wpAny _ _ (field (.ref it) 0 >>= fun v=>_) _ _ s
 refine wpAny_bind (wpAny_field ei di (x:=.ref t) rfl ?_)
 refine wpAny_ite_split (fun z=>absurd z Bool.false_ne_true) fun _=>?_
 show wpAny _ _ (field (.ref it) 1 >>= fun v=>_) _ _ s
 refine wpAny_bind (wpAny_field ei di (x:=.int i 0) rfl ?_)
 refine wpAny_bind (wpAny_seqItems et dt ?_)
 simp only [Int.toNat_natCast,hx]
 refine wpAny_bind (wpAny_rule (wpAny_bind (wpAny_setField ei di (by simp) ?_)))
 unfold Builtin.SmallTypes.stopIteration
 refine wpAny_bind ?_
 unfold newExc newTuple
 refine wpAny_bind (wpAny_newObj_type ?_ (by size_fits))
 refine wpAny_bind (m:=firstArgMember _ _) (wpAny_of_eq (a:=Value.none) (by first | (simp only [firstArgMember];rfl) | rfl) ?_)
 refine wpAny_newObj_type ?_ (by size_fits)
 unfold raiseNew
 refine wpAny_bind (wpAny_handled ?_)
 rw [hh1]
 exact wpAny_bind (wpAny_pure (wpAny_throw (hE _ _ (((Heap.SameBut.update ..).extBut.push _).push _) ⟨_,Heap.get?_push_size _ rfl,rfl⟩)))
theorem step {z TI TO i1 i2 l1 l2:Addr}{k:Nat}{xs ys:Array Value}{a b:Value}{Q:Fin→Shared→Prop} (D:ZipApart z TI TO i1 i2 l1 l2)
  (hz:IsZip s.heap z TI TO .none) (hTI:IsPair s.heap TI (.ref i1) (.ref i2)) (hTO:IsPair s.heap TO a b)
  (h1:s.heap.IsTupleIter i1 l1 k) (h2:s.heap.IsTupleIter i2 l2 k) (t1:s.heap.IsTuple l1 xs) (t2:s.heap.IsTuple l2 ys)
  (hQ:∀ x y h',xs[k]? = some x→ys[k]? = some y→IsZip h' z TI TO (rawInt s.heap.objs.size)→IsPair h' TO x y→h'.IsTupleIter i1 l1 (k + 1)→h'.IsTupleIter i2 l2 (k + 1)→IsPair h' s.heap.objs.size x y →
   (∀ c o,c∉[z,TO,i1,i2]→s.heap.get? c=some o→h'.get? c=some o)→Q (.done (.ret (.ref s.heap.objs.size))) { s with heap:=h' })
  (hE:(xs[k]? = none∨ys[k]? = none)→A.handled=none∧∀ h' e,(∀ c o,c∉[z,TO,i1,i2]→s.heap.get? c=some o→h'.get? c=some o)→(∃ o,h'.get? e=some o∧o.cls=.type "StopIteration")→E (.ref e) { s with heap:=h' }) :
  wpAny (model prog w) A (Builtin.«zip.__next__» ⟨[.ref z],[]⟩) Q E s:=by
 show wpAny _ _ (field (.ref z) 2 >>= fun v=>_) _ _ _
 refine wpAny_bind (wpAny_field hz rfl (x:=.bool false) rfl ?_)
 show wpAny _ _ (field (.ref z) 3 >>= fun v=>_) _ _ _
 refine wpAny_bind (wpAny_field hz rfl (x:=.ref TI) rfl (wpAny_bind (wpAny_seqItems hTI rfl ?_)))
 show wpAny _ _ (Builtin.SmallTypes.ownedTupleIsFree (.ref z) >>= fun v=>_) _ _ _
 refine wpAny_bind ?_
 unfold Builtin.SmallTypes.ownedTupleIsFree
 refine wpAny_bind (wpAny_field hz rfl (x:=.none) rfl (wpAny_pure ?_))
 simp only [if_true]
 refine wpAny_bind (wpAny_rule (wpAny_bind (wpAny_field hz rfl (x:=.ref TO) rfl (wpAny_bind (wpAny_setField_rec hz (by simp) fun g1 z1 b1=>?_)))))
 have z1':IsZip g1 z TI TO .ellipsis:=z1
 have D1:=D
 obtain ⟨TIz,TOz,i1z,i2z,TITO,TIi1,TIi2,TOi1,TOi2,i12,l1z,l1TO,l1i1,l1i2,l2z,l2TO,l2i1,l2i2⟩:=D1
 refine wpAny_bind ?_
 simp only [List.zipIdx_cons,List.zipIdx_nil,List.forIn_cons,List.forIn_nil]
 refine wpAny_bind (wpAny_bind (wpAny_onRaise ?_))
 show wpAny _ _ (Builtin.SmallTypes.nextOf (.ref i1) >>= fun v=>_) _ _ _
 cases hx:xs[k]? with
 | none=>
  obtain ⟨hh,fin⟩:=hE (.inl hx)
  refine wpAny_bind (ended hh (h1.extBut b1.extBut i1z) (t1.extBut b1.extBut l1z) hx fun g2 e b2 ⟨oe,he,ce⟩=>?_)
  have z2:IsZip g2 z TI TO .ellipsis:=b2 _ _ i1z.symm z1'
  have ez:e≠z:=fun q=>by subst q;rw [z2] at he;cases he;simp at ce
  refine wpAny_setField_rec z2 (by simp) fun g3 _ b3=>fin g3 e (fun c o m q=>?_) ⟨oe,b3.extBut _ _ ez he,ce⟩
  simp only [List.mem_cons,List.not_mem_nil,or_false,not_or] at m
  exact b3.extBut _ _ m.1 (b2 _ _ m.2.2.1 (b1.extBut _ _ m.1 q))
 | some x=>
  refine wpAny_bind (drawn (h1.extBut b1.extBut i1z) (t1.extBut b1.extBut l1z) hx fun g2 i2' b2=>wpAny_pure ?_)
  have o2:IsPair g2 TO a b:=b2.extBut _ _ TOi1 (b1.extBut _ _ TOz hTO)
  refine wpAny_bind (wpAny_seqItems o2 rfl (wpAny_bind (wpAny_updateSeq_pair o2 fun g3 o3 b3=>wpAny_bind (wpAny_letGo (wpAny_pure ?_)))))
  have o3':IsPair g3 TO x b:=o3
  refine wpAny_bind (wpAny_bind (wpAny_onRaise ?_))
  show wpAny _ _ (Builtin.SmallTypes.nextOf (.ref i2) >>= fun v=>_) _ _ _
  have j2:g3.IsTupleIter i2 l2 k:=((h2.extBut b1.extBut i2z).extBut b2.extBut i12.symm).extBut b3.extBut TOi2.symm
  have u2:g3.IsTuple l2 ys:=((t2.extBut b1.extBut l2z).extBut b2.extBut l2i1).extBut b3.extBut l2TO
  cases hy:ys[k]? with
  | none=>
   obtain ⟨hh,fin⟩:=hE (.inr hy)
   refine wpAny_bind (ended hh j2 u2 hy fun g4 e b4 ⟨oe,he,ce⟩=>?_)
   have z4:IsZip g4 z TI TO .ellipsis:=b4 _ _ i2z.symm (b3.extBut _ _ TOz.symm (b2.extBut _ _ i1z.symm z1'))
   have ez:e≠z:=fun q=>by subst q;rw [z4] at he;cases he;simp at ce
   refine wpAny_setField_rec z4 (by simp) fun g5 _ b5=>fin g5 e (fun c o m q=>?_) ⟨oe,b5.extBut _ _ ez he,ce⟩
   simp only [List.mem_cons,List.not_mem_nil,or_false,not_or] at m
   exact b5.extBut _ _ m.1 (b4 _ _ m.2.2.2 (b3.extBut _ _ m.2.1 (b2.extBut _ _ m.2.2.1 (b1.extBut _ _ m.1 q))))
  | some y=>
   refine wpAny_bind (drawn j2 u2 hy fun g4 k2 b4=>wpAny_pure ?_)
   have o4:IsPair g4 TO x b:=b4.extBut _ _ TOi2 o3'
   refine wpAny_bind (wpAny_seqItems o4 rfl (wpAny_bind (wpAny_updateSeq_pair o4 fun g5 o5 b5=>wpAny_bind (wpAny_letGo (wpAny_pure (wpAny_pure ?_))))))
   have o5':IsPair g5 TO x y:=o5
   refine wpAny_bind (wpAny_seqItems o5' rfl (wpAny_bind (wpAny_newTuple ?_)))
   have sz:g5.objs.size=s.heap.objs.size:=by rw [b5.1,b4.1,b3.1,b2.1,b1.1]
   have z5:IsZip g5 z TI TO .ellipsis:=b5.extBut _ _ TOz.symm (b4.extBut _ _ i2z.symm (b3.extBut _ _ TOz.symm (b2.extBut _ _ i1z.symm z1')))
   have zl:g5.objs.size≠z:=Nat.ne_of_gt (Heap.lt_size z5)
   show wpAny _ _ (Builtin.SmallTypes.ownedTupleHandOut (.ref z) (.ref g5.objs.size) >>= fun v=>_) _ _ _
   refine wpAny_bind ?_
   unfold Builtin.SmallTypes.ownedTupleHandOut
   have z6:IsZip (g5.push { cls:=.type "tuple",data:=.seq #[x,y] }) z TI TO .ellipsis:=Heap.get?_push_of_some _ z5
   refine wpAny_bind (wpAny_setField_rec z6 (by simp) fun g7 z7 b7=>?_)
   have z7':IsZip g7 z TI TO (rawInt g5.objs.size):=z7
   refine wpAny_setField_rec z7' (by simp) fun g8 z8 b8=>?_
   have z8':IsZip g8 z TI TO (rawInt g5.objs.size):=z8
   have up:∀ c o,c≠z→g5.get? c=some o→g8.get? c=some o:=fun c o n q=>b8.extBut _ _ n (b7.extBut _ _ n (Heap.get?_push_of_some _ q))
   have new:IsPair g8 g5.objs.size x y:=b8.extBut _ _ zl (b7.extBut _ _ zl (Heap.get?_push_size _ rfl))
   rw [sz] at z8' new
   have r1:g5.IsTupleIter i1 l1 (k + 1):=((i2'.extBut b3.extBut TOi1.symm).extBut b4.extBut i12).extBut b5.extBut TOi1.symm
   have r2:g5.IsTupleIter i2 l2 (k + 1):=k2.extBut b5.extBut TOi2.symm
   refine wpAny_pure ?_
   show Q (.done (.ret (.ref g5.objs.size))) _
   rw [sz]
   refine hQ x y g8 hx hy z8' (up _ _ TOz o5') (r1.at fun o q=>up _ o i1z q) (r2.at fun o q=>up _ o i2z q) new fun c o m q=>?_
   simp only [List.mem_cons,List.not_mem_nil,or_false,not_or] at m
   exact up c o m.1 (b5.extBut _ _ m.2.1 (b4.extBut _ _ m.2.2.2 (b3.extBut _ _ m.2.1 (b2.extBut _ _ m.2.2.1 (b1.extBut _ _ m.1 q)))))
end
end Zt
namespace Zt
section
variable {prog:Program}{w:World}{A:Around}{E:Value→Shared→Prop}{s:Shared}
def zH (h:Heap) (l1 l2:Addr):Heap:=
 ((((h.push { cls:=.type "tuple_iterator",data:=.fields #[.ref l1,.int 0 0] }).push { cls:=.type "tuple_iterator",data:=.fields #[.ref l2,.int 0 0] }).push { cls:=.type "tuple",data:=.seq #[.ref h.objs.size,.ref (h.objs.size + 1)] }).push
  { cls:=.type "tuple",data:=.seq #[.none,.none] }).push { cls:=.type "zip",data:=.fields #[.none,.bool false,.bool false,.ref (h.objs.size + 2),.ref (h.objs.size + 3)] }
theorem psz (h:Heap) (o:Obj):(h.push o).objs.size=h.objs.size + 1:=Heap.size_push ..
theorem new2 (l1 l2:Addr) (xs ys:Array Value):Meets (Builtin.«zip.__new__» ⟨[.type "zip",.ref l1,.ref l2],[]⟩) (fun _ R s=>s.heap.IsTuple l1 xs∧s.heap.IsTuple l2 ys ∧
  R (.ok (.ret (.ref (s.heap.objs.size + 4)))) { s with heap:=zH s.heap l1 l2 }):=
 .of_wp fun prog w A R s h=>by
  obtain ⟨hp,g,d,tk,os⟩:=s
  obtain ⟨hl1,hl2,h⟩:=h
  have hsub:=sub_zip
  have L1:Heap.IsTuple (Shared.heap ⟨hp,g,d,tk,os⟩) l1 xs:=hl1
  have L2:Heap.IsTuple (Shared.heap ⟨hp.push { cls:=.type "tuple_iterator",data:=.fields #[.ref l1,.int 0 0] },g,d,tk,os⟩) l2 ys:=Heap.IsTuple.push hl2 _
  wp_walk using wpAny_pyIter_tuple L1,wpAny_pyIter_tuple L2
  refine ⟨_,rfl,?_⟩
  unfold zH at h
  simp only [psz] at h ⊢
  exact h
theorem call2 {l1 l2:Addr}{xs ys:Array Value}{Q:Value→Shared→Prop} (t1:s.heap.IsTuple l1 xs) (t2:s.heap.IsTuple l2 ys)
  (h:∀ h',IsZip h' (s.heap.objs.size + 4) (s.heap.objs.size + 2) (s.heap.objs.size + 3) .none→IsPair h' (s.heap.objs.size + 2) (.ref s.heap.objs.size) (.ref (s.heap.objs.size + 1))→IsPair h' (s.heap.objs.size + 3) .none .none →
   h'.IsTupleIter s.heap.objs.size l1 0→h'.IsTupleIter (s.heap.objs.size + 1) l2 0→(∀ c o,s.heap.get? c=some o→h'.get? c=some o)→Q (.ref (s.heap.objs.size + 4)) { s with heap:=h' }) :
  wpAny (model prog w) A (call (.type "zip") [.ref l1,.ref l2]) Q E s:=by
 refine callType_new F.called_zip (by decide) (F.typeCall_zip_2 _ _) (F.newCall_zip_2 _ _) (fun obj=>F.args_object_init_3 obj _ _) F.entry_zip_new (new2 l1 l2 xs ys) ⟨t1,t2,?_⟩
 have at_:∀ {h:Heap}{o:Obj}{n:Nat},h.objs.size=n→(!o.isFreed)=true→(h.push o).get? n=some o:=fun {h o n} e f=>by subst e;exact Heap.get?_push_size _ (by simpa using f)
 have g5:IsZip (zH s.heap l1 l2) (s.heap.objs.size + 4) (s.heap.objs.size + 2) (s.heap.objs.size + 3) .none:=at_ (by simp only [psz]) rfl
 have g4:IsPair (zH s.heap l1 l2) (s.heap.objs.size + 3) .none .none:=Heap.get?_push_of_some _ (at_ (by simp only [psz]) rfl)
 have g3:IsPair (zH s.heap l1 l2) (s.heap.objs.size + 2) (.ref s.heap.objs.size) (.ref (s.heap.objs.size + 1)):=Heap.get?_push_of_some _ (Heap.get?_push_of_some _ (at_ (by simp only [psz]) rfl))
 have g2:(zH s.heap l1 l2).IsTupleIter (s.heap.objs.size + 1) l2 0:=⟨_,Heap.get?_push_of_some _ (Heap.get?_push_of_some _ (Heap.get?_push_of_some _ (at_ (by simp only [psz]) rfl))),rfl,rfl⟩
 have g1:(zH s.heap l1 l2).IsTupleIter s.heap.objs.size l1 0:=⟨_,Heap.get?_push_of_some _ (Heap.get?_push_of_some _ (Heap.get?_push_of_some _ (Heap.get?_push_of_some _ (at_ rfl rfl)))),rfl,rfl⟩
 exact ⟨⟨_,g5,rfl⟩,h _ g5 g3 g4 g1 g2 fun c o q=>Heap.get?_push_of_some _ (Heap.get?_push_of_some _ (Heap.get?_push_of_some _ (Heap.get?_push_of_some _ (Heap.get?_push_of_some _ q))))⟩
theorem next {z TI TO i1 i2 l1 l2:Addr}{k:Nat}{xs ys:Array Value}{a b:Value}{Q:Option Value→Shared→Prop} (D:ZipApart z TI TO i1 i2 l1 l2)
  (hz:IsZip s.heap z TI TO .none) (hTI:IsPair s.heap TI (.ref i1) (.ref i2)) (hTO:IsPair s.heap TO a b)
  (h1:s.heap.IsTupleIter i1 l1 k) (h2:s.heap.IsTupleIter i2 l2 k) (t1:s.heap.IsTuple l1 xs) (t2:s.heap.IsTuple l2 ys)
  (hQ:∀ x y h',xs[k]? = some x→ys[k]? = some y→IsZip h' z TI TO (rawInt s.heap.objs.size)→IsPair h' TO x y→h'.IsTupleIter i1 l1 (k + 1)→h'.IsTupleIter i2 l2 (k + 1)→IsPair h' s.heap.objs.size x y →
   (∀ c o,c∉[z,TO,i1,i2]→s.heap.get? c=some o→h'.get? c=some o)→Q (some (.ref s.heap.objs.size)) { s with heap:=h' })
  (hE:(xs[k]? = none∨ys[k]? = none)→A.handled=none∧∀ h',(∀ c o,c∉[z,TO,i1,i2]→s.heap.get? c=some o→h'.get? c=some o)→Q none { s with heap:=h' }) :
  wpAny (model prog w) A (pyNext (.ref z)) Q E s:=by
 have ty:s.TypeIs (.ref z) "zip":=⟨_,hz,rfl⟩
 unfold pyNext
 refine wpAny_bind (wpAny_attempt (wpAny_callSpecial?_slot (name:=Str.ofString "__next__") ty F.slot_zip_next (wpAny_call_entry F.slot_zip_next ty F.entry_zip_next (step D hz hTI hTO h1 h2 t1 t2 ?_ ?_) (F.args_zip_next_1 _))))
 ·exact fun x y h' e1 e2 a1 a2 a3 a4 a5 a6=>⟨_,rfl,wpAny_pure (hQ x y h' e1 e2 a1 a2 a3 a4 a5 a6)⟩
 ·intro en
  obtain ⟨hh,fin⟩:=hE en
  exact ⟨hh,fun h' e kp ⟨o,ho,hc⟩=>wpAny_bind (wpAny_isInstance (T:="StopIteration") (b:=true) ⟨o,ho,hc⟩ isSubtype_stop (wpAny_pure (fin _ kp)))⟩
theorem whole {t sl:Addr}{items:Array Value}{vl vu:Value}{lo hi:Option Int}{Q:Value→Shared→Prop} (ht:IsTup s.heap t items) (hs:s.heap.IsSliceOf sl vl vu .none) (pl:IsPart vl lo) (pu:IsPart vu hi)
  (hw:HT.sIx items.size 0 lo=0∧HT.sIx items.size items.size hi=items.size) (h:Q (.ref t) s):wpAny (model prog w) A (getItem (.ref t) (.ref sl)) Q E s:=by
 obtain ⟨os,hos,hcs,hds⟩:=id hs
 have hTs:s.TypeIs (.ref sl) "slice":=⟨os,hos,hcs⟩
 unfold getItem
 try with_reducible refine wpAny_holding ?_
 first | refine wpAny_bind (wpAny_pure ?_) | skip
 refine wpAny_bind (wpAny_sequenceKey ht.typeIs (by decide) ?_)
 refine wpAny_bind (wpAny_callSpecial?_slot (name:=Str.ofString "__getitem__") ht.typeIs PyProof.Rows.slot_tuple_getitem
  (wpAny_call_entry PyProof.Rows.slot_tuple_getitem ht.typeIs entry_tuple_getitem ?_ (args_tuple_getitem _ _)))
 show wpAny _ _ (Builtin.Tuple.tupleItemsOf (.ref t) >>= fun v=>_) _ _ s
 refine wpAny_bind (tupleItemsOf_ ht ?_)
 refine wpAny_bind (wpAny_typeOf hTs ?_)
 rw [if_pos (by decide)]
 refine wpAny_bind (HT.sliceApplied_gen hs pl pu ?_)
 rw [hw.1,hw.2]
 show wpAny _ _ (if (((0:Nat):Int) == 0&&(1:Int) == 1&&(items.size - 0) == items.size)=true then _ else _) _ _ s
 rw [if_pos (by simp)]
 unfold Builtin.Tuple.tupleIsExact
 refine wpAny_bind (wpAny_bind (wpAny_typeOf ht.typeIs (wpAny_pure ?_)))
 rw [if_pos (by simp)]
 exact wpAny_bind (wpAny_rule (wpAny_pure ⟨_,rfl,wpAny_pure h⟩))
end
end Zt
def rSlW (K:PySem.W.Frag):V→Option Int→Option Int→Hp→VK→Prop:=fun x lo hi H Q=>∃ a xs,x=.ref a∧SqT K H a xs∧(HT.sIx xs.length 0 lo=0∧HT.sIx xs.length xs.length hi=xs.length)∧Q (.ref a) H
theorem sl_whole {X:Cx}:SlR X (rSlW X.K):=by
 intro pins s σ H x v vl vu lo hi sl Q I rx hs pl pu h
 obtain ⟨a,xs,rfl,hx,hw,q⟩:=h
 cases rx
 obtain ⟨its,r,ht,hz⟩:=I.tuple hx
 have hlen:its.toArray.size=xs.length:=by rw [List.size_toArray];exact r.length.symm
 exact ⟨"tuple",_,PyProof.Rows.slot_tuple_getitem.lookup,ht.typeIs,Zt.whole ht hs pl pu (by rw [hlen];exact hw) ⟨.ref a,H,I,rfl,q⟩⟩
def Itzt (K:PySem.W.Frag) (l1 l2:Addr):It:=
  ⟨fun i H=>∃ xs ys x y,SqT K H l1 xs∧SqT K H l2 ys∧xs[i]? = some x∧ys[i]? = some y,
   fun i H v H'=>∃ T a b,H T=none∧v=.ref T∧H'=upd H T (.tup [a,b])∧(∀ xs,SqT K H l1 xs→xs[i]? = some a)∧∀ ys,SqT K H l2 ys→ys[i]? = some b,
   fun i H=>∃ xs ys,SqT K H l1 xs∧SqT K H l2 ys∧(xs.length≤i∨ys.length≤i),false⟩
def ZtSt (z TI TO i1 i2 l1 l2:Addr) (i:Nat) (h:Heap):Prop:=IsZip h z TI TO .none∧IsPair h TI (.ref i1) (.ref i2)∧(∃ a b,IsPair h TO a b)∧h.IsTupleIter i1 l1 i∧h.IsTupleIter i2 l2 i
theorem turn_zipT {P:Program}{w:World}{K:PySem.W.Frag}{elts:List Expr} {x1}{pos:Pos}{z TI TO i1 i2 l1 l2:Addr} (D:ZipApart z TI TO i1 i2 l1 l2) :
  Turn P w K (.Tuple elts x1 pos) (Itzt K l1 l2) [z,TI,TO,i1,i2] z (ZtSt z TI TO i1 i2 l1 l2) where
 mem:=by simp
 obj:=fun i h st b hb=>by
  obtain ⟨s1,s2,⟨a,b',s3⟩,⟨o4,e4,c4,d4⟩,⟨o5,e5,c5,d5⟩⟩:=st
  simp only [List.mem_cons,List.not_mem_nil,or_false] at hb
  rcases hb with rfl | rfl | rfl | rfl | rfl
  ·exact ⟨_,s1,fun v q=>by cases q⟩
  ·exact ⟨_,s2,fun v q=>by cases q⟩
  ·exact ⟨_,s3,fun v q=>by cases q⟩
  ·exact ⟨o4,e4,fun v q=>by rw [d4] at q;cases q⟩
  ·exact ⟨o5,e5,fun v q=>by rw [d5] at q;cases q⟩
 keep:=fun i h h' st k=>by
  obtain ⟨s1,s2,⟨a,b',s3⟩,s4,s5⟩:=st
  exact ⟨k _ (by simp) _ s1,k _ (by simp) _ s2,⟨a,b',k _ (by simp) _ s3⟩,s4.at fun o e=>k _ (by simp) o e,s5.at fun o e=>k _ (by simp) o e⟩
 item:=by
  intro X hP hw hK hc i pins s σ H E I hf st hg
  subst hP hw hK
  obtain ⟨s1,s2,⟨a,b',s3⟩,s4,s5⟩:=st
  obtain ⟨xs,ys,x,y,q1,q2,e1,e2⟩:=hg
  obtain ⟨us,v1,p1,z1⟩:=I.tuple q1
  obtain ⟨ws,v2,p2,z2⟩:=I.tuple q2
  obtain ⟨u,hu,ru⟩:=v1.get e1
  obtain ⟨t,ht,rt⟩:=v2.get e2
  refine Zt.next D s1 s2 s3 s4 s5 (show s.heap.IsTuple l1 us.toArray from p1) (show s.heap.IsTuple l2 ws.toArray from p2) (fun u' t' h' f1 f2 a1 a2 a3 a4 a5 a7=>⟨_,rfl,?_⟩) fun z=>?_
  ·have f1':us[i]? = some u':=by simpa using f1
   have f2':ws[i]? = some t':=by simpa using f2
   rw [hu] at f1'
   rw [ht] at f2'
   cases f1'
   cases f2'
   refine wpAny_letOwnedTupleGo_zip a1 fun h'' b1 b2=>?_
   have lz:z < s.heap.objs.size:=Heap.lt_size s1
   have nz:s.heap.objs.size≠z:=Nat.ne_of_gt lz
   have T2:IsPair h'' s.heap.objs.size u t:=b2.extBut _ _ nz a5
   have nT:H s.heap.objs.size=none:=I.hok.fresh (Nat.le_refl _)
   have I1:Inv X pins σ (upd H s.heap.objs.size (.tup [x,y])) { s with heap:=h'' }:=I.turnNew (t':=s.toks) (ch:=[z,TO,i1,i2]) (fun b m=>hf b (by
     simp only [List.mem_cons,List.not_mem_nil,or_false] at m ⊢
     rcases m with rfl | rfl | rfl | rfl <;> simp)) (fun b o m e=>b2.extBut _ _ (fun q=>m (by rw [q];exact List.mem_cons_self)) (a7 b o m e)) (Nat.le_refl _)
     (show ObjOk X.prog X.w _ h'' _ (.tup [x,y]) from ⟨show 2≤sizeLine by unfold sizeLine;omega,[u,t],.cons ru (.cons rt .nil),⟨_,T2,rfl,rfl,_,rfl⟩⟩)
   refine ⟨.ref s.heap.objs.size,_,I1,rfl,⟨_,x,y,nT,rfl,rfl,fun xs' h=>by rw [I.tuple_inj h q1];exact e1,fun ys' h=>by rw [I.tuple_inj h q2];exact e2⟩,?_,fun b m=>?_⟩
   ·have up:∀ c o,c≠z→h'.get? c=some o→h''.get? c=some o:=fun c o n e=>b2.extBut _ _ n e
    exact ⟨b1,up _ _ D.TIz (a7 TI _ (by simp [D.TIz,D.TITO,D.TIi1,D.TIi2]) s2),⟨u,t,up _ _ D.TOz a2⟩,a3.at fun o e=>up _ o D.i1z e,a4.at fun o e=>up _ o D.i2z e⟩
   ·rw [upd_ne]
    ·exact (hf b m).1
    ·rintro rfl
     obtain ⟨o4,e4,_⟩:=id s4
     obtain ⟨o5,e5,_⟩:=id s5
     simp only [List.mem_cons,List.not_mem_nil,or_false] at m
     rcases m with m | m | m | m | m
     ·exact nz m
     ·exact absurd (Heap.lt_size s2) (by rw [← m];exact Nat.lt_irrefl _)
     ·exact absurd (Heap.lt_size s3) (by rw [← m];exact Nat.lt_irrefl _)
     ·exact absurd (Heap.lt_size e4) (by rw [← m];exact Nat.lt_irrefl _)
     ·exact absurd (Heap.lt_size e5) (by rw [← m];exact Nat.lt_irrefl _)
  ·have z1:us[i]? = none∨ws[i]? = none:=by simpa using z
   rw [hu,ht] at z1
   rcases z1 with z1 | z1 <;> cases z1
 done:=by
  intro X hP hw hK hc i pins s σ H E I hf st hg
  subst hP hw hK
  obtain ⟨s1,s2,⟨a,b',s3⟩,s4,s5⟩:=st
  obtain ⟨xs,ys,q1,q2,e⟩:=hg
  obtain ⟨us,v1,p1,z1⟩:=I.tuple q1
  obtain ⟨ws,v2,p2,z2⟩:=I.tuple q2
  have l1:=v1.length
  have l2:=v2.length
  refine Zt.next D s1 s2 s3 s4 s5 (show s.heap.IsTuple _ us.toArray from p1) (show s.heap.IsTuple _ ws.toArray from p2) (fun u' t' h' f1 f2=>?_) fun _=>⟨I.ok.hd (hc.resolve_right fun z=>Bool.false_ne_true z),fun h' k=>⟨rfl,I.turnL (t':=s.toks) (ch:=[z,TO,i1,i2]) (fun b m=>hf b (by
    simp only [List.mem_cons,List.not_mem_nil,or_false] at m ⊢
    rcases m with rfl | rfl | rfl | rfl <;> simp)) k⟩⟩
  have g1:=(List.getElem?_eq_some_iff.mp (show us[i]? = some u' by simpa using f1)).1
  have g2:=(List.getElem?_eq_some_iff.mp (show ws[i]? = some t' by simpa using f2)).1
  omega
 self:=fun _ _ _ _ _ st h=>wpAny_pyIter_zip st.1 h
section
variable {X:Cx}{elts:List Expr}{tp:Pos}{a b:Expr}{ta:TA}{p pos:Pos}
def iZipB (K:PySem.W.Frag) (ta:TA):TI:=fun σ H R=>ta σ H fun vs H1=>∃ l1 l2 xs ys,vs=[.ref l1,.ref l2]∧((SqL K H1 l1 xs∧SqL K H1 l2 ys∧R (Itz K l1 l2) H1)∨(SqT K H1 l1 xs∧SqT K H1 l2 ys∧R (Itzt K l1 l2) H1))
theorem pi_zipB {x1} (hg:Gl X "zip") (hm:X.mg "zip"=none) (ha:PA X [a,b] ta) (hs:starEach [a,b] X.env=[(false,eval a X.env),(false,eval b X.env)]:=by rfl) (hs2:starEach [b] X.env=[(false,eval b X.env)]:=by rfl) :
  PI X (.Tuple elts x1 tp) (.Call (.Name "zip" p) [a,b] [] pos) (iZipB X.K ta):=by
 intro pins s σ H R I h
 refine wpAny_Call_Name_kw (ld_blt I hg hm boot_zip (PyProof.Rows.callWith_type1 (thn (ha pos pins s σ H _ I h) fun us s1 ⟨vs,H1,I1,r1,q1⟩=>?_) (by rw [hs,hs2]) (by rw [hs2];rfl)))
 obtain ⟨l1,l2,xs,ys,rfl,q⟩:=q1
 obtain ⟨u,v,rfl,ru,rv⟩:=vals2 r1
 cases ru
 cases rv
 have up:∀ j,FpOk X pins H1 (s1.heap.objs.size + j):=fun j=>I1.fpOk (Nat.le_add_right _ _) (I1.hok.fresh (Nat.le_add_right _ _))
 have fps:∀ c∈[s1.heap.objs.size + 4,s1.heap.objs.size + 2,s1.heap.objs.size + 3,s1.heap.objs.size,s1.heap.objs.size + 1],FpOk X pins H1 c:=fun c hc=>by
  simp only [List.mem_cons,List.not_mem_nil,or_false] at hc
  rcases hc with rfl | rfl | rfl | rfl | rfl
  ·exact up 4
  ·exact up 2
  ·exact up 3
  ·exact up 0
  ·exact up 1
 rcases q with ⟨h1,h2,q⟩ | ⟨h1,h2,q⟩
 ·obtain ⟨us,v1,p1,z1⟩:=I1.list h1
  obtain ⟨ws,v2,p2,z2⟩:=I1.list h2
  have b1:l1 < s1.heap.objs.size:=let ⟨o,n,e,_⟩:=p1;Heap.lt_size e
  have b2:l2 < s1.heap.objs.size:=let ⟨o,n,e,_⟩:=p2;Heap.lt_size e
  refine call_zip_2 p1.isList p2.isList fun h' g1 g2 g3 g4 g5 g6 k=>?_
  refine wpAny_pyIter_zip g1 ?_
  exact ⟨_,_,_,_,H1,rfl,I1.kept (t':=s1.toks) k,turn_zip (zipApart_new b1 b2),⟨g1,g2,⟨_,_,g3⟩,g4,g5⟩,fps,q⟩
 ·obtain ⟨us,v1,p1,z1⟩:=I1.tuple h1
  obtain ⟨ws,v2,p2,z2⟩:=I1.tuple h2
  have b1:l1 < s1.heap.objs.size:=let ⟨o,e,_⟩:=p1;Heap.lt_size e
  have b2:l2 < s1.heap.objs.size:=let ⟨o,e,_⟩:=p2;Heap.lt_size e
  refine Zt.call2 (show s1.heap.IsTuple l1 us.toArray from p1) (show s1.heap.IsTuple l2 ws.toArray from p2) fun h' g1 g2 g3 g4 g5 k=>?_
  refine wpAny_pyIter_zip g1 ?_
  exact ⟨_,_,_,_,H1,rfl,I1.kept (t':=s1.toks) k,turn_zipT (zipApart_new b1 b2),⟨g1,g2,⟨_,_,g3⟩,g4,g5⟩,fps,q⟩
end
end L2
namespace L2.Ev
open PySem PySem.Spec PyProof.Rows
section
variable {X:Cx}{elts:List Expr}{tp:Pos}{a b:Expr}{fa fb:EF}{p pos:Pos}
def iZipBF (fa fb:EF):IF:=fun ρ=>match fa ρ,fb ρ with
 | some (.lst ds,t1),some (.lst es,t2)=>if (immAll ds&&immAll es)=true then some ((ds.zip es).map fun p=>.tup [p.1,p.2],joinA [(.lst ds,t1),(.lst es,t2)]) else none
 | some (.tup ds,t1),some (.tup es,t2)=>if (immAll ds&&immAll es)=true then some ((ds.zip es).map fun p=>.tup [p.1,p.2],joinA [(.tup ds,t1),(.tup es,t2)]) else none
 | _,_=>none
theorem itOk_zipT {K:PySem.W.Frag}{l1 l2:Addr}{ds es:List D}{f1 f2:List Addr} (c1:immAll ds=true) (c2:immAll es=true) :
  ItOk K (Itzt K l1 l2) ((ds.zip es).map fun p=>.tup [p.1,p.2]) [⟨.tup ds,.ref l1,f1⟩,⟨.tup es,.ref l2,f2⟩]:=by
 intro H i hh
 obtain ⟨p1,xs,e1,q1,r1⟩:=(hh _ List.mem_cons_self).tup_of
 obtain ⟨p2,ys,e2,q2,r2⟩:=(hh _ (List.mem_cons_of_mem _ List.mem_cons_self)).tup_of
 cases e1
 cases e2
 have n1:=r1.imm c1
 have n2:=r2.imm c2
 dsimp only at n1 n2 r1 r2
 subst n1 n2
 refine ⟨fun d hd=>?_,fun hl=>?_⟩
 ·rw [List.getElem?_map] at hd
  cases hz:(ds.zip es)[i]? with
  | none=>rw [hz] at hd;cases hd
  | some pr=>
   rw [hz] at hd
   cases hd
   obtain ⟨k1,k2⟩:=List.getElem?_zip_eq_some.mp hz
   obtain ⟨x,hx,rx⟩:=r1.get0 k1
   obtain ⟨y,hy,ry⟩:=r2.get0 k2
   refine ⟨⟨xs,ys,x,y,q1,q2,hx,hy⟩,fun v H1 hv=>?_⟩
   obtain ⟨T,a,b,hT,rfl,rfl,ha,hb⟩:=hv
   have ea:=ha xs q1
   have eb:=hb ys q2
   rw [hx] at ea
   rw [hy] at eb
   cases ea
   cases eb
   have s2:Same H (upd H T (.tup [x,y])):=fun b o e=>by rw [upd_ne (ne_of_none e hT)];exact e
   exact ⟨s2,[],.tup (SqT.of upd_same) (Reps.cons (f1:=[]) (f2:=[]) (rx.same s2) (Reps.cons (f1:=[]) (f2:=[]) (ry.same s2) .nil)),fun a m=>nomatch m⟩
 ·rw [List.length_map,List.length_zip,r1.length,r2.length] at hl
  exact ⟨xs,ys,q1,q2,by omega⟩
theorem fi_zipB {x1} (hm:X.mg "zip"=none) (ha:FP X a fa) (hb:FP X b fb) (hg:Gl X "zip":=by rfl) (hs:starEach [a,b] X.env=[(false,eval a X.env),(false,eval b X.env)]:=by rfl) (hs2:starEach [b] X.env=[(false,eval b X.env)]:=by rfl) :
  FI X (.Tuple elts x1 tp) (.Call (.Name "zip" p) [a,b] [] pos) (iZipBF fa fb):=by
 obtain ⟨t,pa,hlen,q⟩:=fa_cons ha (fa_cons hb fa_nil hs2) (by rw [hs,hs2])
 refine ⟨_,pi_zipB hg hm pa hs hs2,fun H0 S z held ρ σ H R ds tg ok e k=>?_⟩
 unfold iZipBF at e
 split at e
 ·rename_i d1 t1 d2 t2 h1 h2
  by_cases hc:(immAll d1&&immAll d2)=true
  ·rw [if_pos hc] at e
   cases e
   obtain ⟨c1,c2⟩:=(Bool.and_eq_true _ _).mp hc
   refine q H0 S z held ρ σ H _ [(.lst d1,t1),(.lst d2,t2)] ok (by unfold aCons aNil;rw [h1,h2]) fun H1 vs fp s1 r g=>?_
   cases r with
   | @cons _ v1 _ _ f1 _ r1 r=>
    cases r with
    | @cons _ v2 _ _ f2 _ r2 r=>
     cases r
     obtain ⟨l1,xs,g1,rfl,q1,_,_⟩:=r1.lst_of
     obtain ⟨l2,ys,g2,rfl,q2,_,_⟩:=r2.lst_of
     refine ⟨l1,l2,xs,ys,rfl,.inl ⟨q1,q2,k H1 _ [⟨.lst d1,.ref l1,f1⟩,⟨.lst d2,.ref l2,f2⟩] s1 (fun h m=>?_) (itOk_zip c1 c2)⟩⟩
     have go:=g.over ok
     rcases List.mem_cons.mp m with rfl | m
     ·exact ⟨r1,fun a ma=>go a (List.mem_append_left _ ma)⟩
     ·cases List.mem_singleton.mp m
      exact ⟨r2,fun a ma=>go a (List.mem_append_right _ (List.mem_append_left _ ma))⟩
  ·rw [if_neg hc] at e;cases e
 ·rename_i d1 t1 d2 t2 h1 h2
  by_cases hc:(immAll d1&&immAll d2)=true
  ·rw [if_pos hc] at e
   cases e
   obtain ⟨c1,c2⟩:=(Bool.and_eq_true _ _).mp hc
   refine q H0 S z held ρ σ H _ [(.tup d1,t1),(.tup d2,t2)] ok (by unfold aCons aNil;rw [h1,h2]) fun H1 vs fp s1 r g=>?_
   cases r with
   | @cons _ v1 _ _ f1 _ r1 r=>
    cases r with
    | @cons _ v2 _ _ f2 _ r2 r=>
     cases r
     obtain ⟨l1,xs,rfl,q1,_⟩:=r1.tup_of
     obtain ⟨l2,ys,rfl,q2,_⟩:=r2.tup_of
     refine ⟨l1,l2,xs,ys,rfl,.inr ⟨q1,q2,k H1 _ [⟨.tup d1,.ref l1,f1⟩,⟨.tup d2,.ref l2,f2⟩] s1 (fun h m=>?_) (itOk_zipT c1 c2)⟩⟩
     have go:=g.over ok
     rcases List.mem_cons.mp m with rfl | m
     ·exact ⟨r1,fun a ma=>go a (List.mem_append_left _ ma)⟩
     ·cases List.mem_singleton.mp m
      exact ⟨r2,fun a ma=>go a (List.mem_append_right _ (List.mem_append_left _ ma))⟩
  ·rw [if_neg hc] at e;cases e
 ·cases e
def oCutB (lo hi:Option Int):D→Option D
 | .lst ds=>if immAll ds=true then some (.lst (cutD ds lo hi)) else none
 | .fls ds=>if immAll ds=true then some (.lst (cutD ds lo hi)) else none
 | .tup ds=>if immAll ds=true then some (.tup (cutD ds lo hi)) else none
 | _=>none
theorem fp_cutB {lo hi:Option Expr}{l h:Option Int}{p2:Pos} (hl:PCut X lo l) (hh:PCut X hi h) (ha:FP X a fa):FP X (.Subscript a (.Slice lo hi none p2) pos) (e1 (oCutB l h) fa):=by
 obtain ⟨t,p,q⟩:=ha
 obtain ⟨tl,pl,ql⟩:=hl
 obtain ⟨th,ph,qh⟩:=hh
 refine ⟨_,pe_slice (sl_list.or (sl_tup.or sl_whole)) p pl ph,fun H0 S z held ρ σ H Q d tg ok e k=>?_⟩
 obtain ⟨d1,t1,g1,g2,rfl⟩:=e1_of e
 refine q H0 S z held ρ σ H _ d1 t1 ok g1 fun H1 x f1 s1 r1 _=>?_
 refine ql σ H1 _ (qh σ H1 _ ?_)
 have fin:∀ {ds:List D}{xs:List V}{f:List Addr}{w:Addr},Reps X.K H1 ds xs f→SqL X.K H1 w xs→(if immAll ds=true then some (D.lst (cutD ds l h)) else none)=some d→rSlL X.K (.ref w) l h H1 Q:=fun {ds xs f w} rs hq e=>by
  by_cases hi:immAll ds=true
  ·rw [if_pos hi] at e
   cases e
   have hn:=rs.imm hi
   subst hn
   refine ⟨w,xs,rfl,hq,fun p hp=>?_⟩
   have s2:Same H1 (upd H1 p (.lst (cutV xs l h))):=fun b o e=>by rw [upd_ne (ne_of_none e hp)];exact e
   have rr:Reps X.K H1 (cutD ds l h) (cutV xs l h) []:=by
    unfold cutD cutV
    rw [rs.length]
    exact Reps.take0 _ (Reps.drop0 _ rs)
   refine k _ _ [p] (s1.trans s2) (.lst upd_same (rr.same s2)) ⟨List.nodup_cons.mpr ⟨(fun m=>by cases m),List.nodup_nil⟩,fun a m=>?_⟩
   cases List.mem_singleton.mp m
   exact s1.free hp
  ·rw [if_neg hi] at e;cases e
 cases d1 with
 | lst ds=>
  obtain ⟨w,xs,f,rfl,hq,rs,_⟩:=r1.lst_of
  exact .inl (fin rs hq g2)
 | fls ds=>
  obtain ⟨w,xs,rfl,hq,rs⟩:=r1.fls_of
  exact .inl (fin rs hq g2)
 | tup ds=>
  obtain ⟨w,xs,rfl,hq,rs⟩:=r1.tup_of
  have g2:(if immAll ds=true then some (D.tup (cutD ds l h)) else none)=some d:=g2
  by_cases hi:immAll ds=true
  ·rw [if_pos hi] at g2
   cases g2
   have hn:=rs.imm hi
   subst hn
   have rr:Reps X.K H1 (cutD ds l h) (cutV xs l h) []:=by
    unfold cutD cutV
    rw [rs.length]
    exact Reps.take0 _ (Reps.drop0 _ rs)
   by_cases hw:HT.sIx xs.length 0 l=0∧HT.sIx xs.length xs.length h=xs.length
   ·refine .inr (.inr ⟨w,xs,rfl,hq,hw,k _ _ [] s1 ?_ ⟨List.nodup_nil,fun a m=>by cases m⟩⟩)
    have:cutV xs l h=xs:=by
     unfold cutV
     rw [hw.1,hw.2]
     simp
    rw [this] at rr
    exact .tup hq rr
   ·refine .inr (.inl ⟨w,xs,rfl,hq,hw,fun p hp=>?_⟩)
    have s2:Same H1 (upd H1 p (.tup (cutV xs l h))):=fun b o e=>by rw [upd_ne (ne_of_none e hp)];exact e
    exact k _ _ [] (s1.trans s2) (.tup (SqT.of upd_same) (rr.same s2)) ⟨List.nodup_nil,fun a m=>by cases m⟩
  ·rw [if_neg hi] at g2;cases g2
 | _=>cases g2
def oListB:D→Option D
 | .lst ds=>if immAll ds=true then some (.lst ds) else none
 | .fls ds=>if immAll ds=true then some (.lst ds) else none
 | .tup ds=>if immAll ds=true then some (.lst ds) else none
 | _=>none
theorem does_listB:Does1 X.K (fun xs H Q=>∃ p ys,xs=[V.ref p]∧(SqL X.K H p ys∨SqT X.K H p ys)∧∀ l,H l=none→Q (.ref l) (upd H l (.lst ys))) oListB:=by
 intro H x d1 f1 d Q r e k
 have fin:∀ {ds:List D}{xs:List V}{f:List Addr},Reps X.K H ds xs f→(if immAll ds=true then some (D.lst ds) else none)=some d→∀ l,H l=none→Q (.ref l) (upd H l (.lst xs)):=fun {ds xs f} rs e l hl=>by
  by_cases hi:immAll ds=true
  ·rw [if_pos hi] at e
   cases e
   have hn:=rs.imm hi
   subst hn
   have s2:Same H (upd H l (.lst xs)):=fun b o e=>by rw [upd_ne (ne_of_none e hl)];exact e
   exact k _ _ [l] s2 (.lst upd_same (rs.same s2)) (List.nodup_cons.mpr ⟨(fun m=>by cases m),List.nodup_nil⟩) fun a m=>by cases List.mem_singleton.mp m;exact hl
  ·rw [if_neg hi] at e;cases e
 cases d1 with
 | lst ds=>
  obtain ⟨a,xs,f,rfl,hq,rs,_⟩:=r.lst_of
  exact ⟨a,xs,rfl,.inl hq,fin rs e⟩
 | fls ds=>
  obtain ⟨a,xs,rfl,hq,rs⟩:=r.fls_of
  exact ⟨a,xs,rfl,.inl hq,fin rs e⟩
 | tup ds=>
  obtain ⟨a,xs,rfl,hq,rs⟩:=r.tup_of
  exact ⟨a,xs,rfl,.inr hq,fin rs e⟩
 | _=>cases e
theorem fp_listB {p:Pos} (hm:X.mg "list"=none) (ha:FP X a fa) (hg:Gl X "list":=by rfl) (hs:starEach [a] X.env=[(false,eval a X.env)]:=by rfl):FP X (.Call (.Name "list" p) [a] [] pos) (e1 oListB fa):=
 fp_1 does_listB ha fun ta pa=>pe_callTy call_list_of hg hm (by rfl) (pa_cons pa pa_nil hs) (he:=hs) (hpl:=rfl)
def oTupleB:D→Option D
 | .lst ds=>if immAll ds=true then some (.tup ds) else none
 | .fls ds=>if immAll ds=true then some (.tup ds) else none
 | .tup ds=>if immAll ds=true then some (.tup ds) else none
 | _=>none
theorem does_tupleB:Does1 X.K (fun xs H Q=>∃ p ys,xs=[V.ref p]∧((SqL X.K H p ys∧∀ l,H l=none→Q (.ref l) (upd H l (.tup ys)))∨(SqT X.K H p ys∧Q (.ref p) H))) oTupleB:=by
 intro H x d1 f1 d Q r e k
 cases d1 with
 | lst ds=>exact does_tuple H x (.lst ds) f1 d Q r e k
 | tup ds=>exact does_tuple H x (.tup ds) f1 d Q r e k
 | fls ds=>
  obtain ⟨a,xs,rfl,hq,rs⟩:=r.fls_of
  have e:(if immAll ds=true then some (D.tup ds) else none)=some d:=e
  by_cases hi:immAll ds=true
  ·rw [if_pos hi] at e
   cases e
   have hn:=rs.imm hi
   subst hn
   refine ⟨a,xs,rfl,.inl ⟨hq,fun l hl=>?_⟩⟩
   have s2:Same H (upd H l (.tup xs)):=fun b o e=>by rw [upd_ne (ne_of_none e hl)];exact e
   exact k _ _ [] s2 (.tup (SqT.of upd_same) (rs.same s2)) List.nodup_nil fun a m=>nomatch m
  ·rw [if_neg hi] at e;cases e
 | _=>cases e
theorem fp_tupleB {p:Pos} (hm:X.mg "tuple"=none) (ha:FP X a fa) (hg:Gl X "tuple":=by rfl) (hs:starEach [a] X.env=[(false,eval a X.env)]:=by rfl):FP X (.Call (.Name "tuple" p) [a] [] pos) (e1 oTupleB fa):=
 fp_1 does_tupleB ha fun ta pa=>pe_callTy call_tuple_of hg hm (show bootBuiltins "tuple"=some (.type "tuple") by decide +kernel) (pa_cons pa pa_nil hs) (he:=hs) (hpl:=rfl)
def oReprB:D→Option D
 | .fls ds=>if shw (.fls ds)=true then some (.str (py (.fls ds)).shown) else none
 | d=>oRepr d
theorem does_reprB {K:PySem.W.Frag}:Does1 K (rRepr K) oReprB:=by
 intro H x d1 f1 d Q r e k
 unfold oReprB at e
 split at e
 ·rename_i ds
  by_cases h1:shw (.fls ds)=true
  ·rw [if_pos h1] at e
   cases e
   obtain ⟨a,xs,rfl,hq,rs⟩:=r.fls_of
   exact ⟨a,.fls ds,f1,rfl,r,h1,k H _ [] (Same.refl H) (.str _) List.nodup_nil fun a m=>nomatch m⟩
  ·rw [if_neg h1] at e;cases e
 ·exact does_repr H x d1 f1 d Q r e k
theorem fp_reprB {k:Nat} (hr:Room k X.A) (hm:X.mg "repr"=none) (ha:FP X a fa) (hg:Gl X "repr":=by rfl) (hs:starEach [a] X.env=[(false,eval a X.env)]:=by rfl):FP X (.Call (.Name "repr" p) [a] [] pos) (e1 oReprB fa):=
 fp_1 does_reprB ha fun ta pa=>pe_callB (call_repr hr) hg hm boot_repr (pa_cons pa pa_nil hs) (he:=hs) (hpl:=rfl)
def oIsiB (T:String):D→Option D
 | .tup _=>some (.bl ("tuple" == T))
 | .fls _=>some (.bl ("list" == T))
 | d=>oIsi T d
def isiOkB (T:String):Prop:=∀ (K:PySem.W.Frag) (t:String),t∈["tuple","list"]→PySem.W.kitOne K (.type t) (.type T)=some (t == T)
theorem isiB_tuple:isiOkB "tuple":=by
 intro K t m
 simp only [List.mem_cons,List.not_mem_nil,or_false] at m
 rcases m with rfl | rfl <;> rfl
theorem call_isiB (T:String):CallR X (.builtin "isinstance") (fun xs H Q=>(∃ x t b,xs=[x,V.ty T]∧TyOf X.K H x t∧PySem.W.kitOne X.K t (.type T)=some b∧Q (.bl b) H) ∨
  (∃ a ys b,xs=[.ref a,V.ty T]∧SqT X.K H a ys∧PySem.W.kitOne X.K (.type "tuple") (.type T)=some b∧Q (.bl b) H)∨(∃ a ys b,xs=[.ref a,V.ty T]∧SqL X.K H a ys∧PySem.W.kitOne X.K (.type "list") (.type T)=some b∧Q (.bl b) H)):=by
 intro pins s σ H xs us Q I r h
 rcases h with h | ⟨a,ys,bb,rfl,hq,e,q⟩ | ⟨a,ys,bb,rfl,hq,e,q⟩
 ·exact call_isi T pins s σ H xs us Q I r h
 ·obtain ⟨u,w',rfl,ru,rw'⟩:=vals2 r
  cases rw'
  cases (show u=Value.ref a from ru)
  obtain ⟨its,_,⟨o,h1,h2,_⟩,_⟩:=I.tuple hq
  exact PySem.W.kia_one PySem.W.kitx_tuple I.kIn ⟨o,h1,h2⟩ e (fun z=>nomatch z) fun tk=>⟨.bl bb,H,I.tok tk,rfl,q⟩
 ·obtain ⟨u,w',rfl,ru,rw'⟩:=vals2 r
  cases rw'
  cases (show u=Value.ref a from ru)
  obtain ⟨its,_,⟨o,n,h1,h2,_⟩,_⟩:=I.list hq
  exact PySem.W.kia_one PySem.W.kitx_list I.kIn ⟨o,h1,h2⟩ e (fun z=>nomatch z) fun tk=>⟨.bl bb,H,I.tok tk,rfl,q⟩
theorem fp_isiB {T:String}{x:Str}{p p2:Pos} (hT:isiOk T) (hTB:isiOkB T) (hm:X.mg "isinstance"=none) (hmT:X.mg x=none) (ha:FP X a fa) (hbT:bootBuiltins x=some (.type T):=by decide +kernel) (hg:Gl X "isinstance":=by rfl) (hgT:Gl X x:=by rfl) (hn:x≠"__name__":=by decide) (hdb:(x == ("__debug__":Str))=false:=by decide)
  (hs:starEach [a,.Name x p2] X.env=[(false,eval a X.env),(false,eval (.Name x p2) X.env)]:=by rfl) (hpl:(backTo pos (starEach [.Name x p2] X.env)).any (·.1)=false:=by rfl):FP X (.Call (.Name "isinstance" p) [a,.Name x p2] [] pos) (e1 (oIsiB T) fa):=by
 obtain ⟨ta,pa,sa⟩:=ha
 have hs2:starEach [.Name x p2] X.env=[(false,eval (.Name x p2) X.env)]:=rfl
 refine ⟨_,pe_callB (call_isiB T) hg hm (show bootBuiltins "isinstance"=some (.builtin "isinstance") by decide +kernel) (pa_cons pa (pa_cons (pe_bltn (v:=.ty T) hgT hmT hbT rfl hn hdb) pa_nil) (by rw [hs,hs2])) (he:=by rw [hs,hs2]) (hpl:=hpl),fun H0 S z held ρ σ H Q d tg ok e k=>?_⟩
 obtain ⟨d1,t1,h1,h2,rfl⟩:=e1_of e
 refine sa H0 S z held ρ σ H _ d1 t1 ok h1 fun H1 v fp s1 r1 _=>?_
 unfold oIsiB at h2
 split at h2
 ·cases h2
  obtain ⟨w,xs,rfl,hq,_⟩:=r1.tup_of
  exact .inr (.inl ⟨w,xs,_,rfl,hq,hTB X.K "tuple" (by decide),k H1 _ [] s1 (.bl _) .nil⟩)
 ·cases h2
  obtain ⟨w,xs,rfl,hq,_⟩:=r1.fls_of
  exact .inr (.inr ⟨w,xs,_,rfl,hq,hTB X.K "list" (by decide),k H1 _ [] s1 (.bl _) .nil⟩)
 ·unfold oIsi at h2
  cases ht:tyD d1 with
  | none=>rw [ht] at h2;cases h2
  | some t=>
   rw [ht] at h2
   cases h2
   obtain ⟨ty,mem⟩:=r1.ty ht
   exact .inl ⟨v,_,_,rfl,ty,hT X.K t mem,k H1 _ [] s1 (.bl _) .nil⟩
end
end L2.Ev
namespace K11
open PySem L2 L2.Ev
def top (i:Nat):Stmt:=PySem.Challenge.pw_linegate_k11_changes_added.main.body.getD i (.Pass ⟨0,0,0,0⟩)
variable {P:Program}{w:World}{K:PySem.W.Frag}{mg:Str→Option Value}{base:Heap}{f:Addr}{fd:FuncData}
abbrev s_within:Stmt:=top 13
theorem sc_within:FnScope ["value","least","most"] ["value","least","most"] (defScope s_within):=⟨rfl,rfl,rfl,by decide +kernel,rfl,by decide +kernel,by decide +kernel⟩
def B_within:SF:=(sRet (eAnd (e1 (oIsi "int") (eVar 0)) (eAnd (e1 oNot (e1 (oIsi "bool") (eVar 0))) (eChain oLe oLe (eVar 1) (eVar 0) (eVar 2)))))
def F_within:List D→Option D:=runF 3 3 B_within
theorem ok_within (g_bool:mg "bool"=none) (g_int:mg "int"=none) (g_isinstance:mg "isinstance"=none) (F:Fun K "within" "within" s_within f fd):FnOk P w K mg base CX0 1 f fd ["value","least","most"] (spF K F_within):=by
 have sc:=sc_within
 refine fn_F F sc_within fun cdv A outer s H E hr=>?_
 have hu:=hu_of hr
 exact (fs_one (fs_ret (fp_and (fp_isi isi_int g_isinstance g_int (fp_var 0)) (fp_and (fp_not (fp_isi isi_bool g_isinstance g_bool (fp_var 0))) (fp_one (fp_le2 (fp_var 1) (fp_var 0) (fp_var 2)))))))
abbrev s_rising:Stmt:=top 14
theorem sc_rising:FnScope ["numbers"] ["numbers"] (defScope s_rising):=⟨rfl,rfl,rfl,by decide +kernel,rfl,by decide +kernel,by decide +kernel⟩
def B_rising:SF:=(sRet (e1 oAll (eComp [none,none] (iZipBF (eVar 0) (e1 (oCutB (some 1) none) (eVar 0))) (gT (gsCons (gN 0) (gsCons (gN 1) gsNil))) tTrue (e2 oLt (eVar 0) (eVar 1)))))
def F_rising:List D→Option D:=runF 1 1 B_rising
theorem ok_rising (g_all:mg "all"=none) (g_zip:mg "zip"=none) (F:Fun K "rising" "rising" s_rising f fd):FnOk P w K mg base CX0 1 f fd ["numbers"] (spF K F_rising):=by
 have sc:=sc_rising
 refine fn_F F sc_rising fun cdv A outer s H E hr=>?_
 have hu:=hu_of hr
 exact (fs_one (fs_ret (fp_all rfl g_all (fp_comp (M:=["low","high"]) (js:=[none,none]) (is:=[0,1]) (compScope_mk (N:=["numbers"]) (osc:=defScope s_rising) rfl rfl rfl (by decide +kernel)) rfl (fi_zipB g_zip (fp_var 0) (fp_cutB pc_int pc_none (fp_var 0))) (by decide) fun s3 H3 fp=>⟨(fg_tup rfl (fgs_cons (fg_name 0 (show (["low","high"]:List Str).Nodup by decide +kernel)) (fgs_cons (fg_name 1 (show (["low","high"]:List Str).Nodup by decide +kernel)) fgs_nil))),fts_nil,(fp_lt (fp_var 0) (fp_var 1))⟩))))
abbrev s_are_edits:Stmt:=top 18
theorem sc_are_edits:FnScope ["edits","slot","old","new"] ["edits"] (defScope s_are_edits):=⟨rfl,rfl,rfl,by decide +kernel,rfl,by decide +kernel,by decide +kernel⟩
def B_are_edits:SF:=(sSeq (sFor (iSeqF (eVar 0)) (gT (gsCons (gN 1) (gsCons (gN 2) (gsCons (gN 3) gsNil)))) (sSeq (sIf (tNot1 (tAnd2 (tV (eCall F_within (aCons (eVar 1) (aCons (eC (.int 0)) (aCons (eC (.int 999)) aNil))))) (tV (eCall F_within (aCons (eVar 2) (aCons (eC (.int 0)) (aCons (eC (.int 1000000000)) aNil))))))) (sRet (eC (.bl false))) sNx) (sIf (tOr2 (tNot1 (tV (eCall F_within (aCons (eVar 3) (aCons (eC (.int 0)) (aCons (eC (.int 1000000000)) aNil)))))) (tV (e2 oEq (eVar 2) (eVar 3)))) (sRet (eC (.bl false))) sNx))) (sRet (eCall F_rising (aCons (eComp [none] (iSeqF (eVar 0)) (gN 0) tTrue (e2 oIx (eVar 0) (eC (.int 0)))) aNil))))
def F_are_edits:List D→Option D:=runF 1 4 B_are_edits
theorem ok_are_edits {t_GREATEST_SLOT:Tok} (m_GREATEST_SLOT:mg "GREATEST_SLOT"=some (.int 999 t_GREATEST_SLOT)) {t_GREATEST_VALUE:Tok} (m_GREATEST_VALUE:mg "GREATEST_VALUE"=some (.int 1000000000 t_GREATEST_VALUE)) (W_within:FN P w K mg base CX0 1 "within" ["value","least","most"] (spF K F_within)) (W_rising:FN P w K mg base CX0 1 "rising" ["numbers"] (spF K F_rising)) (F:Fun K "are_edits" "are_edits" s_are_edits f fd):FnOk P w K mg base CX0 2 f fd ["edits"] (spF K F_are_edits):=by
 obtain ⟨_,_,G_within,m_within,k_within,b_within⟩:=W_within
 obtain ⟨_,_,G_rising,m_rising,k_rising,b_rising⟩:=W_rising
 have sc:=sc_are_edits
 refine fn_F F sc_are_edits fun cdv A outer s H E hr=>?_
 have hu:=hu_of hr
 exact (fs_cons (fs_for rfl (fi_seq (fp_var 0)) (fg_tup rfl (fgs_cons (fg_name 1 sc.nd) (fgs_cons (fg_name 2 sc.nd) (fgs_cons (fg_name 3 sc.nd) fgs_nil)))) (fs_cons (fs_if (ft_not (FW.ft (fw_and (ft_val (fp_call G_within (hr.mono (by decide)) m_within k_within b_within (fa_cons (fp_var 1) (fa_cons fp_int (fa_cons (fp_globI m_GREATEST_SLOT) fa_nil))))) (fw_and1 (ft_val (fp_call G_within (hr.mono (by decide)) m_within k_within b_within (fa_cons (fp_var 2) (fa_cons fp_int (fa_cons (fp_globI m_GREATEST_VALUE) fa_nil))))))))) (fs_one (fs_ret fp_bl)) fs_nil) (fs_one (fs_if (FW.ft (fw_or (ft_not (ft_val (fp_call G_within (hr.mono (by decide)) m_within k_within b_within (fa_cons (fp_var 3) (fa_cons fp_int (fa_cons (fp_globI m_GREATEST_VALUE) fa_nil)))))) (fw_or1 (ft_eq (fp_var 2) (fp_var 3))))) (fs_one (fs_ret fp_bl)) fs_nil)))) (fs_one (fs_ret (fp_call G_rising (hr.mono (by decide)) m_rising k_rising b_rising (fa_cons (fp_comp (M:=["edit"]) (js:=[none]) (is:=[0]) (compScope_mk (N:=["edits","slot","old","new"]) (osc:=defScope s_are_edits) rfl rfl rfl (by decide +kernel)) rfl (fi_seq (fp_var 0)) (by decide) fun s3 H3 fp=>⟨(fg_name 0 (show (["edit"]:List Str).Nodup by decide +kernel)),fts_nil,(fp_ix (fp_var 0) fp_int)⟩) fa_nil)))))
abbrev s_Changes_init:Stmt:=inClass (top 23) 0
theorem sc_Changes_init:FnScope ["self"] ["self"] (defScope s_Changes_init):=⟨rfl,rfl,rfl,by decide +kernel,rfl,by decide +kernel,by decide +kernel⟩
def B_Changes_init:SF:=(noRt (sFldSet 0 "Changes" "entries" (eLst aNil)))
def F_Changes_init:MF:=runM 1 1 B_Changes_init
theorem ok_Changes_init {c_Changes:Addr} (C_Changes:ClsAt K "Changes" c_Changes) (na_Changes_entries:NoAttr K c_Changes "entries") (F:Fun K "__init__" "Changes.__init__" s_Changes_init f fd):FnOk P w K mg base CX0 1 f fd ["self"] (spO K F_Changes_init):=by
 have sc:=sc_Changes_init
 refine fn_M F sc_Changes_init rfl (by decide) fun cdv A outer s H E hr=>?_
 have hu:=hu_of hr
 exact (fm_one (fm_of (fs_fldSet 0 C_Changes na_Changes_entries (fp_lst fa_nil))))
abbrev s_Changes_many:Stmt:=inClass (top 23) 2
theorem sc_Changes_many:FnScope ["self"] ["self"] (defScope s_Changes_many):=⟨rfl,rfl,rfl,by decide +kernel,rfl,by decide +kernel,by decide +kernel⟩
def B_Changes_many:SF:=(sRet (e1 oLen (eFld "Changes" "entries" (eVar 0))))
def F_Changes_many:List D→Option D:=runF 1 1 B_Changes_many
theorem ok_Changes_many (g_len:mg "len"=none) {c_Changes:Addr} (C_Changes:ClsAt K "Changes" c_Changes) (na_Changes_entries:NoAttr K c_Changes "entries") (F:Fun K "many" "Changes.many" s_Changes_many f fd):FnOk P w K mg base CX0 1 f fd ["self"] (spF K F_Changes_many):=by
 have sc:=sc_Changes_many
 refine fn_F F sc_Changes_many fun cdv A outer s H E hr=>?_
 have hu:=hu_of hr
 exact (fs_one (fs_ret (fp_len g_len (fp_fld C_Changes na_Changes_entries (fp_var 0)))))
abbrev s_Changes_has:Stmt:=inClass (top 23) 9
theorem sc_Changes_has:FnScope ["self","number"] ["self","number"] (defScope s_Changes_has):=⟨rfl,rfl,rfl,by decide +kernel,rfl,by decide +kernel,by decide +kernel⟩
def B_Changes_has:SF:=(sRet (eCall F_within (aCons (eVar 1) (aCons (eC (.int 1)) (aCons (eMeth "Changes" "many" F_Changes_many (eVar 0) aNil) aNil)))))
def F_Changes_has:List D→Option D:=runF 2 2 B_Changes_has
theorem ok_Changes_has {c_Changes:Addr} (C_Changes:ClsAt K "Changes" c_Changes) (W_within:FN P w K mg base CX0 1 "within" ["value","least","most"] (spF K F_within)) (W_Changes_many:MT P w K mg base CX0 1 c_Changes "many" ["self"] (spF K F_Changes_many)) (F:Fun K "has" "Changes.has" s_Changes_has f fd):FnOk P w K mg base CX0 2 f fd ["self","number"] (spF K F_Changes_has):=by
 obtain ⟨_,_,G_within,m_within,k_within,b_within⟩:=W_within
 obtain ⟨_,_,G_Changes_many,b_Changes_many,mt_Changes_many⟩:=W_Changes_many
 have sc:=sc_Changes_has
 refine fn_F F sc_Changes_has fun cdv A outer s H E hr=>?_
 have hu:=hu_of hr
 exact (fs_one (fs_ret (fp_call G_within (hr.mono (by decide)) m_within k_within b_within (fa_cons (fp_var 1) (fa_cons fp_int (fa_cons (fp_meth0 C_Changes mt_Changes_many G_Changes_many (hr.mono (by decide)) b_Changes_many (fp_var 0)) fa_nil))))))
abbrev s_Changes_makes_change:Stmt:=inClass (top 23) 11
theorem sc_Changes_makes_change:FnScope ["self","rank","leans","edits"] ["self","rank","leans","edits"] (defScope s_Changes_makes_change):=⟨rfl,rfl,rfl,by decide +kernel,rfl,by decide +kernel,by decide +kernel⟩
def B_Changes_makes_change:SF:=(sSeq (sIf (tNot1 (tV (eCall F_within (aCons (eVar 1) (aCons (eC (.int 0)) (aCons (eC (.int 9)) aNil)))))) (sRet (eC (.bl false))) sNx) (sSeq (sIf (tOr2 (tNot1 (tV (e1 oAll (eComp [none,some 0] (iSeqF (eVar 2)) (gN 0) tTrue (eMeth "Changes" "has" F_Changes_has (eVar 1) (aCons (eVar 0) aNil)))))) (tNot1 (tV (eCall F_rising (aCons (eVar 2) aNil))))) (sRet (eC (.bl false))) sNx) (sRet (eAnd (e2 oLe (e1 oLen (eVar 3)) (eC (.int 20))) (eCall F_are_edits (aCons (eVar 3) aNil))))))
def F_Changes_makes_change:List D→Option D:=runF 4 4 B_Changes_makes_change
theorem ok_Changes_makes_change (g_all:mg "all"=none) (g_len:mg "len"=none) {t_GREATEST_RANK:Tok} (m_GREATEST_RANK:mg "GREATEST_RANK"=some (.int 9 t_GREATEST_RANK)) {t_MOST_EDITS:Tok} (m_MOST_EDITS:mg "MOST_EDITS"=some (.int 20 t_MOST_EDITS)) {c_Changes:Addr} (C_Changes:ClsAt K "Changes" c_Changes) (W_within:FN P w K mg base CX0 1 "within" ["value","least","most"] (spF K F_within)) (W_rising:FN P w K mg base CX0 1 "rising" ["numbers"] (spF K F_rising)) (W_Changes_has:MT P w K mg base CX0 2 c_Changes "has" ["self","number"] (spF K F_Changes_has)) (W_are_edits:FN P w K mg base CX0 2 "are_edits" ["edits"] (spF K F_are_edits)) (F:Fun K "makes_change" "Changes.makes_change" s_Changes_makes_change f fd):FnOk P w K mg base CX0 3 f fd ["self","rank","leans","edits"] (spF K F_Changes_makes_change):=by
 obtain ⟨_,_,G_within,m_within,k_within,b_within⟩:=W_within
 obtain ⟨_,_,G_rising,m_rising,k_rising,b_rising⟩:=W_rising
 obtain ⟨_,_,G_Changes_has,b_Changes_has,mt_Changes_has⟩:=W_Changes_has
 obtain ⟨_,_,G_are_edits,m_are_edits,k_are_edits,b_are_edits⟩:=W_are_edits
 have sc:=sc_Changes_makes_change
 refine fn_F F sc_Changes_makes_change fun cdv A outer s H E hr=>?_
 have hu:=hu_of hr
 exact (fs_cons (fs_if (ft_not (ft_val (fp_call G_within (hr.mono (by decide)) m_within k_within b_within (fa_cons (fp_var 1) (fa_cons fp_int (fa_cons (fp_globI m_GREATEST_RANK) fa_nil)))))) (fs_one (fs_ret fp_bl)) fs_nil) (fs_cons (fs_if (FW.ft (fw_or (ft_not (ft_val (fp_all rfl g_all (fp_comp (M:=["lean","self"]) (js:=[none,some 0]) (is:=[0]) (compScope_mk (N:=["self","rank","leans","edits"]) (osc:=defScope s_Changes_makes_change) rfl rfl rfl (by decide +kernel)) rfl (fi_seq (fp_var 2)) (by decide) fun s3 H3 fp=>⟨(fg_name 0 (show (["lean","self"]:List Str).Nodup by decide +kernel)),fts_nil,(fp_meth C_Changes mt_Changes_has G_Changes_has (hr.mono (by decide)) b_Changes_has (fp_var 1) (fa_cons (fp_var 0) fa_nil))⟩)))) (fw_or1 (ft_not (ft_val (fp_call G_rising (hr.mono (by decide)) m_rising k_rising b_rising (fa_cons (fp_var 2) fa_nil))))))) (fs_one (fs_ret fp_bl)) fs_nil) (fs_one (fs_ret (fp_and (fp_le (fp_len g_len (fp_var 3)) (fp_globI m_MOST_EDITS)) (fp_one (fp_call G_are_edits (hr.mono (by decide)) m_are_edits k_are_edits b_are_edits (fa_cons (fp_var 3) fa_nil))))))))
abbrev s_Changes_added:Stmt:=inClass (top 23) 1
theorem sc_Changes_added:FnScope ["self","rank","leans","edits"] ["self","rank","leans","edits"] (defScope s_Changes_added):=⟨rfl,rfl,rfl,by decide +kernel,rfl,by decide +kernel,by decide +kernel⟩
def B_Changes_added:SF:=(sSeq (sIf (tNot1 (tV (eMeth "Changes" "makes_change" F_Changes_makes_change (eVar 0) (aCons (eVar 1) (aCons (eVar 2) (aCons (eVar 3) aNil)))))) sNo sNx) (sSeq (sIf (tV (e2 oGe (eMeth "Changes" "many" F_Changes_many (eVar 0) aNil) (eC (.int 60)))) sNo sNx) (sSeq (noRt (sFldApp 0 "Changes" "entries" (eTup (aCons (eVar 1) (aCons (e1 oTuple (eVar 2)) (aCons (e1 oTuple (eComp [none] (iSeqF (eVar 3)) (gN 0) tTrue (e1 oTuple (eVar 0)))) aNil)))))) (sRetM (eMeth "Changes" "many" F_Changes_many (eVar 0) aNil)))))
def F_Changes_added:MF:=runM 4 4 B_Changes_added
theorem ok_Changes_added (g_tuple:mg "tuple"=none) {t_MOST_CHANGES:Tok} (m_MOST_CHANGES:mg "MOST_CHANGES"=some (.int 60 t_MOST_CHANGES)) {c_Changes:Addr} (C_Changes:ClsAt K "Changes" c_Changes) (na_Changes_entries:NoAttr K c_Changes "entries") (W_Changes_makes_change:MT P w K mg base CX0 3 c_Changes "makes_change" ["self","rank","leans","edits"] (spF K F_Changes_makes_change)) (W_Changes_many:MT P w K mg base CX0 1 c_Changes "many" ["self"] (spF K F_Changes_many)) (F:Fun K "added" "Changes.added" s_Changes_added f fd):FnOk P w K mg base CX0 4 f fd ["self","rank","leans","edits"] (spO K F_Changes_added):=by
 obtain ⟨_,_,G_Changes_makes_change,b_Changes_makes_change,mt_Changes_makes_change⟩:=W_Changes_makes_change
 obtain ⟨_,_,G_Changes_many,b_Changes_many,mt_Changes_many⟩:=W_Changes_many
 have sc:=sc_Changes_added
 refine fn_M F sc_Changes_added rfl (by decide) fun cdv A outer s H E hr=>?_
 have hu:=hu_of hr
 exact (fm_cons (fm_if (ft_not (ft_val (fp_meth C_Changes mt_Changes_makes_change G_Changes_makes_change (hr.mono (by decide)) b_Changes_makes_change (fp_var 0) (fa_cons (fp_var 1) (fa_cons (fp_var 2) (fa_cons (fp_var 3) fa_nil)))))) (fm_one fm_no) fm_nil) (fm_cons (fm_if (ft_ge (fp_meth0 C_Changes mt_Changes_many G_Changes_many (hr.mono (by decide)) b_Changes_many (fp_var 0)) (fp_globI m_MOST_CHANGES)) (fm_one fm_no) fm_nil) (fm_cons (fm_of (fs_fldApp 0 C_Changes na_Changes_entries (fp_tup (fa_cons (fp_var 1) (fa_cons (fp_tuple g_tuple (fp_var 2)) (fa_cons (fp_tuple g_tuple (fp_comp (M:=["edit"]) (js:=[none]) (is:=[0]) (compScope_mk (N:=["self","rank","leans","edits"]) (osc:=defScope s_Changes_added) rfl rfl rfl (by decide +kernel)) rfl (fi_seq (fp_var 3)) (by decide) fun s3 H3 fp=>⟨(fg_name 0 (show (["edit"]:List Str).Nodup by decide +kernel)),fts_nil,(fp_tuple g_tuple (fp_var 0))⟩)) fa_nil)))))) (fm_one (fm_ret (fp_meth0 C_Changes mt_Changes_many G_Changes_many (hr.mono (by decide)) b_Changes_many (fp_var 0)))))))
abbrev s_Changes_entry_of:Stmt:=inClass (top 23) 10
theorem sc_Changes_entry_of:FnScope ["self","number"] ["self","number"] (defScope s_Changes_entry_of):=⟨rfl,rfl,rfl,by decide +kernel,rfl,by decide +kernel,by decide +kernel⟩
def B_Changes_entry_of:SF:=(sSeq (sIf (tNot1 (tV (eMeth "Changes" "has" F_Changes_has (eVar 0) (aCons (eVar 1) aNil)))) sNo sNx) (sRet (e2 oIx (eFld "Changes" "entries" (eVar 0)) (e2 oSub (eVar 1) (eC (.int 1))))))
def F_Changes_entry_of:List D→Option D:=runF 2 2 B_Changes_entry_of
theorem ok_Changes_entry_of {c_Changes:Addr} (C_Changes:ClsAt K "Changes" c_Changes) (na_Changes_entries:NoAttr K c_Changes "entries") (W_Changes_has:MT P w K mg base CX0 2 c_Changes "has" ["self","number"] (spF K F_Changes_has)) (F:Fun K "entry_of" "Changes.entry_of" s_Changes_entry_of f fd):FnOk P w K mg base CX0 3 f fd ["self","number"] (spF K F_Changes_entry_of):=by
 obtain ⟨_,_,G_Changes_has,b_Changes_has,mt_Changes_has⟩:=W_Changes_has
 have sc:=sc_Changes_entry_of
 refine fn_F F sc_Changes_entry_of fun cdv A outer s H E hr=>?_
 have hu:=hu_of hr
 exact (fs_cons (fs_if (ft_not (ft_val (fp_meth C_Changes mt_Changes_has G_Changes_has (hr.mono (by decide)) b_Changes_has (fp_var 0) (fa_cons (fp_var 1) fa_nil)))) (fs_one fs_no) fs_nil) (fs_one (fs_ret (fp_ix (fp_fld C_Changes na_Changes_entries (fp_var 0)) (fp_sub (fp_var 1) fp_int)))))
abbrev s_Changes_rank_of:Stmt:=inClass (top 23) 3
theorem sc_Changes_rank_of:FnScope ["self","number"] ["self","number"] (defScope s_Changes_rank_of):=⟨rfl,rfl,rfl,by decide +kernel,rfl,by decide +kernel,by decide +kernel⟩
def B_Changes_rank_of:SF:=(sRet (e2 oIx (eMeth "Changes" "entry_of" F_Changes_entry_of (eVar 0) (aCons (eVar 1) aNil)) (eC (.int 0))))
def F_Changes_rank_of:List D→Option D:=runF 2 2 B_Changes_rank_of
theorem ok_Changes_rank_of {c_Changes:Addr} (C_Changes:ClsAt K "Changes" c_Changes) (W_Changes_entry_of:MT P w K mg base CX0 3 c_Changes "entry_of" ["self","number"] (spF K F_Changes_entry_of)) (F:Fun K "rank_of" "Changes.rank_of" s_Changes_rank_of f fd):FnOk P w K mg base CX0 4 f fd ["self","number"] (spF K F_Changes_rank_of):=by
 obtain ⟨_,_,G_Changes_entry_of,b_Changes_entry_of,mt_Changes_entry_of⟩:=W_Changes_entry_of
 have sc:=sc_Changes_rank_of
 refine fn_F F sc_Changes_rank_of fun cdv A outer s H E hr=>?_
 have hu:=hu_of hr
 exact (fs_one (fs_ret (fp_ix (fp_meth C_Changes mt_Changes_entry_of G_Changes_entry_of (hr.mono (by decide)) b_Changes_entry_of (fp_var 0) (fa_cons (fp_var 1) fa_nil)) fp_int)))
abbrev s_Changes_leans_of:Stmt:=inClass (top 23) 4
theorem sc_Changes_leans_of:FnScope ["self","number"] ["self","number"] (defScope s_Changes_leans_of):=⟨rfl,rfl,rfl,by decide +kernel,rfl,by decide +kernel,by decide +kernel⟩
def B_Changes_leans_of:SF:=(sRet (e1 oList (e2 oIx (eMeth "Changes" "entry_of" F_Changes_entry_of (eVar 0) (aCons (eVar 1) aNil)) (eC (.int 1)))))
def F_Changes_leans_of:List D→Option D:=runF 2 2 B_Changes_leans_of
theorem ok_Changes_leans_of (g_list:mg "list"=none) {c_Changes:Addr} (C_Changes:ClsAt K "Changes" c_Changes) (W_Changes_entry_of:MT P w K mg base CX0 3 c_Changes "entry_of" ["self","number"] (spF K F_Changes_entry_of)) (F:Fun K "leans_of" "Changes.leans_of" s_Changes_leans_of f fd):FnOk P w K mg base CX0 4 f fd ["self","number"] (spF K F_Changes_leans_of):=by
 obtain ⟨_,_,G_Changes_entry_of,b_Changes_entry_of,mt_Changes_entry_of⟩:=W_Changes_entry_of
 have sc:=sc_Changes_leans_of
 refine fn_F F sc_Changes_leans_of fun cdv A outer s H E hr=>?_
 have hu:=hu_of hr
 exact (fs_one (fs_ret (fp_list g_list (fp_ix (fp_meth C_Changes mt_Changes_entry_of G_Changes_entry_of (hr.mono (by decide)) b_Changes_entry_of (fp_var 0) (fa_cons (fp_var 1) fa_nil)) fp_int))))
abbrev s_Changes_edits_of:Stmt:=inClass (top 23) 5
theorem sc_Changes_edits_of:FnScope ["self","number"] ["self","number"] (defScope s_Changes_edits_of):=⟨rfl,rfl,rfl,by decide +kernel,rfl,by decide +kernel,by decide +kernel⟩
def B_Changes_edits_of:SF:=(sRet (e1 oList (e2 oIx (eMeth "Changes" "entry_of" F_Changes_entry_of (eVar 0) (aCons (eVar 1) aNil)) (eC (.int 2)))))
def F_Changes_edits_of:List D→Option D:=runF 2 2 B_Changes_edits_of
theorem ok_Changes_edits_of (g_list:mg "list"=none) {c_Changes:Addr} (C_Changes:ClsAt K "Changes" c_Changes) (W_Changes_entry_of:MT P w K mg base CX0 3 c_Changes "entry_of" ["self","number"] (spF K F_Changes_entry_of)) (F:Fun K "edits_of" "Changes.edits_of" s_Changes_edits_of f fd):FnOk P w K mg base CX0 4 f fd ["self","number"] (spF K F_Changes_edits_of):=by
 obtain ⟨_,_,G_Changes_entry_of,b_Changes_entry_of,mt_Changes_entry_of⟩:=W_Changes_entry_of
 have sc:=sc_Changes_edits_of
 refine fn_F F sc_Changes_edits_of fun cdv A outer s H E hr=>?_
 have hu:=hu_of hr
 exact (fs_one (fs_ret (fp_list g_list (fp_ix (fp_meth C_Changes mt_Changes_entry_of G_Changes_entry_of (hr.mono (by decide)) b_Changes_entry_of (fp_var 0) (fa_cons (fp_var 1) fa_nil)) fp_int))))
abbrev s_Changes_over:Stmt:=inClass (top 23) 6
theorem sc_Changes_over:FnScope ["self","number","met","upper"] ["self","number"] (defScope s_Changes_over):=⟨rfl,rfl,rfl,by decide +kernel,rfl,by decide +kernel,by decide +kernel⟩
abbrev s_Changes_under:Stmt:=inClass (top 23) 7
theorem sc_Changes_under:FnScope ["self","number","met","lower","lean"] ["self","number"] (defScope s_Changes_under):=⟨rfl,rfl,rfl,by decide +kernel,rfl,by decide +kernel,by decide +kernel⟩
abbrev s_L_draw:Stmt:=top 25
theorem sc_L_draw:FnScope ["_law_script","_law_k","_law_prime","_law_many","_law_cell"] ["_law_script","_law_k","_law_prime","_law_many"] (defScope s_L_draw):=⟨rfl,rfl,rfl,by decide +kernel,rfl,by decide +kernel,by decide +kernel⟩
def B_L_draw:SF:=(sSeq (sSet 4 (eC (.int 0))) (sSeq (sIf (tV (e2 oGt (e1 oLen (eVar 0)) (eC (.int 0)))) (sSet 4 (e2 oIx (eVar 0) (e2 oMod (eVar 1) (e1 oLen (eVar 0))))) sNx) (sRet (e2 oMod (e2 oMod (e2 oAdd (e2 oMul (e2 oAdd (eVar 4) (e2 oMul (eVar 1) (eVar 1))) (eC (.int 48271))) (eC (.int 11))) (eVar 2)) (eVar 3)))))
def F_L_draw:List D→Option D:=runF 4 5 B_L_draw
theorem ok_L_draw (g_len:mg "len"=none) (F:Fun K "_law_draw" "_law_draw" s_L_draw f fd):FnOk P w K mg base CX0 1 f fd ["_law_script","_law_k","_law_prime","_law_many"] (spF K F_L_draw):=by
 have sc:=sc_L_draw
 refine fn_F F sc_L_draw fun cdv A outer s H E hr=>?_
 have hu:=hu_of hr
 exact (fs_cons (fs_set 4 fp_int sc.nd) (fs_cons (fs_if (ft_gt (fp_len g_len (fp_var 0)) fp_int) (fs_one (fs_set 4 (fp_ix (fp_var 0) (fp_mod (fp_var 1) (fp_len g_len (fp_var 0)))) sc.nd)) fs_nil) (fs_one (fs_ret (fp_mod (fp_mod (fp_add (fp_mul (fp_add (fp_var 4) (fp_mul (fp_var 1) (fp_var 1))) fp_int) fp_int) (fp_var 2)) (fp_var 3))))))
abbrev s_L_edits_of:Stmt:=top 26
theorem sc_L_edits_of:FnScope ["_law_script","_law_k","_law_many","_law_news","_law_at","_law_slot","_law_old","_law_new"] ["_law_script","_law_k"] (defScope s_L_edits_of):=⟨rfl,rfl,rfl,by decide +kernel,rfl,by decide +kernel,by decide +kernel⟩
def B_L_edits_of:SF:=(sSeq (sSet 2 (eCall F_L_draw (aCons (eVar 0) (aCons (eVar 1) (aCons (eC (.int 10169)) (aCons (eC (.int 5)) aNil)))))) (sSeq (sIf (tV (e2 oEq (eCall F_L_draw (aCons (eVar 0) (aCons (eVar 1) (aCons (eC (.int 10177)) (aCons (eC (.int 9)) aNil))))) (eC (.int 0)))) (sSet 2 (eC (.int 20))) sNx) (sSeq (sSet 3 (eC (.dic []))) (sSeq (sFor (iR1 (eVar 2)) (gN 4) (sSeq (sSet 5 (eCall F_L_draw (aCons (eVar 0) (aCons (e2 oAdd (eVar 1) (e2 oMul (eC (.int 5)) (eVar 4))) (aCons (eC (.int 10181)) (aCons (eC (.int 12)) aNil)))))) (sSeq (sIf (tV (e2 oEq (eCall F_L_draw (aCons (eVar 0) (aCons (eVar 1) (aCons (eC (.int 10193)) (aCons (eC (.int 2)) aNil))))) (eC (.int 0)))) (sSet 5 (eCall F_L_draw (aCons (eVar 0) (aCons (e2 oAdd (eVar 1) (e2 oMul (eC (.int 5)) (eVar 4))) (aCons (eC (.int 100003)) (aCons (eC (.int 1000)) aNil)))))) sNx) (sSeq (sSet 6 (e2 oMul (eCall F_L_draw (aCons (eVar 0) (aCons (e2 oAdd (eVar 1) (eVar 4)) (aCons (eC (.int 100019)) (aCons (eC (.int 3)) aNil))))) (eCall F_L_draw (aCons (eVar 0) (aCons (e2 oAdd (eVar 1) (eVar 4)) (aCons (eC (.int 1000003)) (aCons (eC (.int 333333334)) aNil))))))) (sSeq (sSet 7 (e2 oAdd (e2 oMul (eCall F_L_draw (aCons (eVar 0) (aCons (e2 oAdd (eVar 1) (e2 oMul (eC (.int 2)) (eVar 4))) (aCons (eC (.int 100043)) (aCons (eC (.int 4)) aNil))))) (eC (.int 333333333))) (eC (.int 1)))) (sSeq (sIf (tV (e2 oEq (eVar 6) (eVar 7))) (sSet 7 (e2 oSub (eVar 7) (eC (.int 1)))) sNx) (sDput 3 (eVar 5) (eTup (aCons (eVar 6) (aCons (eVar 7) aNil)))))))))) (sRet (eComp [none,some 3] (iSeqF (e1 oSorted (eVar 3))) (gN 0) tTrue (eTup (aCons (eVar 0) (aCons (e2 oIx (e2 oGet (eVar 1) (eVar 0)) (eC (.int 0))) (aCons (e2 oIx (e2 oGet (eVar 1) (eVar 0)) (eC (.int 1))) aNil))))))))))
def F_L_edits_of:List D→Option D:=runF 2 8 B_L_edits_of
theorem ok_L_edits_of (g_range:mg "range"=none) (g_sorted:mg "sorted"=none) (W_L_draw:FN P w K mg base CX0 1 "_law_draw" ["_law_script","_law_k","_law_prime","_law_many"] (spF K F_L_draw)) (F:Fun K "_law_edits_of" "_law_edits_of" s_L_edits_of f fd):FnOk P w K mg base CX0 2 f fd ["_law_script","_law_k"] (spF K F_L_edits_of):=by
 obtain ⟨_,_,G_L_draw,m_L_draw,k_L_draw,b_L_draw⟩:=W_L_draw
 have sc:=sc_L_edits_of
 refine fn_F F sc_L_edits_of fun cdv A outer s H E hr=>?_
 have hu:=hu_of hr
 exact (fs_cons (fs_set 2 (fp_call G_L_draw (hr.mono (by decide)) m_L_draw k_L_draw b_L_draw (fa_cons (fp_var 0) (fa_cons (fp_var 1) (fa_cons fp_int (fa_cons fp_int fa_nil))))) sc.nd) (fs_cons (fs_if (ft_eq (fp_call G_L_draw (hr.mono (by decide)) m_L_draw k_L_draw b_L_draw (fa_cons (fp_var 0) (fa_cons (fp_var 1) (fa_cons fp_int (fa_cons fp_int fa_nil))))) fp_int) (fs_one (fs_set 2 fp_int sc.nd)) fs_nil) (fs_cons (fs_set 3 fp_dnew sc.nd) (fs_cons (fs_for rfl (fi_range1 g_range (fp_var 2)) (fg_name 4 sc.nd) (fs_cons (fs_set 5 (fp_call G_L_draw (hr.mono (by decide)) m_L_draw k_L_draw b_L_draw (fa_cons (fp_var 0) (fa_cons (fp_add (fp_var 1) (fp_mul fp_int (fp_var 4))) (fa_cons fp_int (fa_cons fp_int fa_nil))))) sc.nd) (fs_cons (fs_if (ft_eq (fp_call G_L_draw (hr.mono (by decide)) m_L_draw k_L_draw b_L_draw (fa_cons (fp_var 0) (fa_cons (fp_var 1) (fa_cons fp_int (fa_cons fp_int fa_nil))))) fp_int) (fs_one (fs_set 5 (fp_call G_L_draw (hr.mono (by decide)) m_L_draw k_L_draw b_L_draw (fa_cons (fp_var 0) (fa_cons (fp_add (fp_var 1) (fp_mul fp_int (fp_var 4))) (fa_cons fp_int (fa_cons fp_int fa_nil))))) sc.nd)) fs_nil) (fs_cons (fs_set 6 (fp_mul (fp_call G_L_draw (hr.mono (by decide)) m_L_draw k_L_draw b_L_draw (fa_cons (fp_var 0) (fa_cons (fp_add (fp_var 1) (fp_var 4)) (fa_cons fp_int (fa_cons fp_int fa_nil))))) (fp_call G_L_draw (hr.mono (by decide)) m_L_draw k_L_draw b_L_draw (fa_cons (fp_var 0) (fa_cons (fp_add (fp_var 1) (fp_var 4)) (fa_cons fp_int (fa_cons fp_int fa_nil)))))) sc.nd) (fs_cons (fs_set 7 (fp_add (fp_mul (fp_call G_L_draw (hr.mono (by decide)) m_L_draw k_L_draw b_L_draw (fa_cons (fp_var 0) (fa_cons (fp_add (fp_var 1) (fp_mul fp_int (fp_var 4))) (fa_cons fp_int (fa_cons fp_int fa_nil))))) fp_int) fp_int) sc.nd) (fs_cons (fs_if (ft_eq (fp_var 6) (fp_var 7)) (fs_one (fs_set 7 (fp_sub (fp_var 7) fp_int) sc.nd)) fs_nil) (fs_one (fs_dput 3 hu (fp_var 5) (fp_tup (fa_cons (fp_var 6) (fa_cons (fp_var 7) fa_nil))))))))))) (fs_one (fs_ret (fp_comp (M:=["_law_slot","_law_news"]) (js:=[none,some 3]) (is:=[0]) (compScope_mk (N:=["_law_script","_law_k","_law_many","_law_news","_law_at","_law_slot","_law_old","_law_new"]) (osc:=defScope s_L_edits_of) rfl rfl rfl (by decide +kernel)) rfl (fi_seq (fp_sorted rfl g_sorted (fp_var 3))) (by decide) fun s3 H3 fp=>⟨(fg_name 0 (show (["_law_slot","_law_news"]:List Str).Nodup by decide +kernel)),fts_nil,(fp_tup (fa_cons (fp_var 0) (fa_cons (fp_ix (fp_dget hu (fp_var 1) (fp_var 0)) fp_int) (fa_cons (fp_ix (fp_dget hu (fp_var 1) (fp_var 0)) fp_int) fa_nil))))⟩)))))))
abbrev s_L_leans_of:Stmt:=top 27
theorem sc_L_leans_of:FnScope ["_law_script","_law_k","_law_many","_law_part"] ["_law_script","_law_k","_law_many"] (defScope s_L_leans_of):=⟨rfl,rfl,rfl,by decide +kernel,rfl,by decide +kernel,by decide +kernel⟩
def B_L_leans_of:SF:=(sSeq (sSet 3 (e2 oAdd (eC (.int 2)) (eCall F_L_draw (aCons (eVar 0) (aCons (eC (.int 60)) (aCons (eC (.int 10211)) (aCons (eC (.int 6)) aNil))))))) (sRet (eComp [none,some 0,some 1,some 3] (iR2 (eC (.int 1)) (e2 oAdd (eVar 2) (eC (.int 1)))) (gN 0) (tV (e2 oEq (eCall F_L_draw (aCons (eVar 1) (aCons (e2 oAdd (eVar 2) (e2 oMul (eC (.int 3)) (eVar 0))) (aCons (eC (.int 10223)) (aCons (eVar 3) aNil))))) (eC (.int 0)))) (eVar 0))))
def F_L_leans_of:List D→Option D:=runF 3 4 B_L_leans_of
theorem ok_L_leans_of (g_range:mg "range"=none) (W_L_draw:FN P w K mg base CX0 1 "_law_draw" ["_law_script","_law_k","_law_prime","_law_many"] (spF K F_L_draw)) (F:Fun K "_law_leans_of" "_law_leans_of" s_L_leans_of f fd):FnOk P w K mg base CX0 2 f fd ["_law_script","_law_k","_law_many"] (spF K F_L_leans_of):=by
 obtain ⟨_,_,G_L_draw,m_L_draw,k_L_draw,b_L_draw⟩:=W_L_draw
 have sc:=sc_L_leans_of
 refine fn_F F sc_L_leans_of fun cdv A outer s H E hr=>?_
 have hu:=hu_of hr
 exact (fs_cons (fs_set 3 (fp_add fp_int (fp_call G_L_draw (hr.mono (by decide)) m_L_draw k_L_draw b_L_draw (fa_cons (fp_var 0) (fa_cons fp_int (fa_cons fp_int (fa_cons fp_int fa_nil)))))) sc.nd) (fs_one (fs_ret (fp_comp (M:=["_law_number","_law_script","_law_k","_law_part"]) (js:=[none,some 0,some 1,some 3]) (is:=[0]) (compScope_mk (N:=["_law_script","_law_k","_law_many","_law_part"]) (osc:=defScope s_L_leans_of) rfl rfl rfl (by decide +kernel)) rfl (fi_range2 g_range fp_int (fp_add (fp_var 2) fp_int)) (by decide) fun s3 H3 fp=>⟨(fg_name 0 (show (["_law_number","_law_script","_law_k","_law_part"]:List Str).Nodup by decide +kernel)),(fts_one (ft_eq (fp_call G_L_draw (hr.mono (by decide)) m_L_draw k_L_draw b_L_draw (fa_cons (fp_var 1) (fa_cons (fp_add (fp_var 2) (fp_mul fp_int (fp_var 0))) (fa_cons fp_int (fa_cons (fp_var 3) fa_nil))))) fp_int)),(fp_var 0)⟩))))
abbrev s_L_kinds:Stmt:=top 28
theorem sc_L_kinds:FnScope ["_law_e"] ["_law_e"] (defScope s_L_kinds):=⟨rfl,rfl,rfl,by decide +kernel,rfl,by decide +kernel,by decide +kernel⟩
def B_L_kinds:SF:=(sRet (eLst (aCons (e1 (oIsE [("NoChange",true)]) (eVar 0)) (aCons (e1 (oIsE [("NoChange",true)]) (eVar 0)) (aCons (e1 (oIsE [("NoChange",false)]) (eVar 0)) (aCons (e1 (oIsE [("NoChange",true)]) (eVar 0)) (aCons (e1 (oIsE [("NoChange",false)]) (eVar 0)) (aCons (e1 (oIsE [("NoChange",false)]) (eVar 0)) (aCons (e1 (oIsE [("NoChange",false)]) (eVar 0)) (aCons (e1 (oIsE [("NoChange",false)]) (eVar 0)) (aCons (e1 (oIsE [("NoChange",false)]) (eVar 0)) (aCons (e1 (oIsE [("NoChange",false)]) (eVar 0)) (aCons (e1 (oIsE [("NoChange",false)]) (eVar 0)) aNil)))))))))))))
def F_L_kinds:List D→Option D:=runF 1 1 B_L_kinds
theorem ok_L_kinds (g_ValueError:mg "ValueError"=none) (g_isinstance:mg "isinstance"=none) {c_LinegateError:Addr} (m_LinegateError:mg "LinegateError"=some (.ref c_LinegateError)) {c_NoAnswer:Addr} (m_NoAnswer:mg "NoAnswer"=some (.ref c_NoAnswer)) {c_NoChange:Addr} (m_NoChange:mg "NoChange"=some (.ref c_NoChange)) {c_NoFit:Addr} (m_NoFit:mg "NoFit"=some (.ref c_NoFit)) {c_NoLook:Addr} (m_NoLook:mg "NoLook"=some (.ref c_NoLook)) {c_NoRow:Addr} (m_NoRow:mg "NoRow"=some (.ref c_NoRow)) {c_NoRule:Addr} (m_NoRule:mg "NoRule"=some (.ref c_NoRule)) {c_NoText:Addr} (m_NoText:mg "NoText"=some (.ref c_NoText)) {c_TooLate:Addr} (m_TooLate:mg "TooLate"=some (.ref c_TooLate)) {c_TooMany:Addr} (m_TooMany:mg "TooMany"=some (.ref c_TooMany)) (KT_LinegateError:KitT K [("NoChange",true)] (.ref c_LinegateError)) (KT_NoAnswer:KitT K [("NoChange",false)] (.ref c_NoAnswer)) (KT_NoChange:KitT K [("NoChange",true)] (.ref c_NoChange)) (KT_NoFit:KitT K [("NoChange",false)] (.ref c_NoFit)) (KT_NoLook:KitT K [("NoChange",false)] (.ref c_NoLook)) (KT_NoRow:KitT K [("NoChange",false)] (.ref c_NoRow)) (KT_NoRule:KitT K [("NoChange",false)] (.ref c_NoRule)) (KT_NoText:KitT K [("NoChange",false)] (.ref c_NoText)) (KT_TooLate:KitT K [("NoChange",false)] (.ref c_TooLate)) (KT_TooMany:KitT K [("NoChange",false)] (.ref c_TooMany)) (KT_ValueError:KitT K [("NoChange",true)] (.type "ValueError")) (F:Fun K "_law_kinds" "_law_kinds" s_L_kinds f fd):FnOk P w K mg base CX0 1 f fd ["_law_e"] (spF K F_L_kinds) false:=by
 have sc:=sc_L_kinds
 refine fn_F F sc_L_kinds fun cdv A outer s H E hr=>?_
 have hu:=hu_of hr
 exact (fs_one (fs_ret (fp_lst (fa_cons (fp_isE KT_LinegateError g_isinstance m_LinegateError (fp_var 0)) (fa_cons (fp_isEB KT_ValueError g_isinstance g_ValueError (fp_var 0)) (fa_cons (fp_isE KT_NoFit g_isinstance m_NoFit (fp_var 0)) (fa_cons (fp_isE KT_NoChange g_isinstance m_NoChange (fp_var 0)) (fa_cons (fp_isE KT_TooMany g_isinstance m_TooMany (fp_var 0)) (fa_cons (fp_isE KT_NoRule g_isinstance m_NoRule (fp_var 0)) (fa_cons (fp_isE KT_NoAnswer g_isinstance m_NoAnswer (fp_var 0)) (fa_cons (fp_isE KT_NoLook g_isinstance m_NoLook (fp_var 0)) (fa_cons (fp_isE KT_TooLate g_isinstance m_TooLate (fp_var 0)) (fa_cons (fp_isE KT_NoRow g_isinstance m_NoRow (fp_var 0)) (fa_cons (fp_isE KT_NoText g_isinstance m_NoText (fp_var 0)) fa_nil))))))))))))))
abbrev s_L_only:Stmt:=top 29
theorem sc_L_only:FnScope ["_law_kinds_here","_law_place"] ["_law_kinds_here","_law_place"] (defScope s_L_only):=⟨rfl,rfl,rfl,by decide +kernel,rfl,by decide +kernel,by decide +kernel⟩
def B_L_only:SF:=(sRet (e2 oEqP (eVar 0) (eComp [none,some 1] (iR1 (eC (.int 11))) (gN 0) tTrue (eOr (e2 oLt (eVar 0) (eC (.int 2))) (e2 oEq (eVar 0) (eVar 1))))))
def F_L_only:List D→Option D:=runF 2 2 B_L_only
theorem ok_L_only (g_range:mg "range"=none) (F:Fun K "_law_only" "_law_only" s_L_only f fd):FnOk P w K mg base CX0 1 f fd ["_law_kinds_here","_law_place"] (spF K F_L_only):=by
 have sc:=sc_L_only
 refine fn_F F sc_L_only fun cdv A outer s H E hr=>?_
 have hu:=hu_of hr
 exact (fs_one (fs_ret (fp_eqP hr.units (fp_var 0) (fp_comp (M:=["_law_k","_law_place"]) (js:=[none,some 1]) (is:=[0]) (compScope_mk (N:=["_law_kinds_here","_law_place"]) (osc:=defScope s_L_only) rfl rfl rfl (by decide +kernel)) rfl (fi_range1 g_range fp_int) (by decide) fun s3 H3 fp=>⟨(fg_name 0 (show (["_law_k","_law_place"]:List Str).Nodup by decide +kernel)),fts_nil,(fp_or (fp_lt (fp_var 0) fp_int) (fp_one (fp_eq (fp_var 0) (fp_var 1))))⟩))))
abbrev s_L_whole:Stmt:=top 30
theorem sc_L_whole:FnScope ["_law_found","_law_due"] ["_law_found","_law_due"] (defScope s_L_whole):=⟨rfl,rfl,rfl,by decide +kernel,rfl,by decide +kernel,by decide +kernel⟩
def B_L_whole:SF:=(sRet (eAnd (e1 (oIsi "int") (eVar 0)) (eAnd (e1 oNot (e1 (oIsi "bool") (eVar 0))) (e2 oEq (eVar 0) (eVar 1)))))
def F_L_whole:List D→Option D:=runF 2 2 B_L_whole
theorem ok_L_whole (g_bool:mg "bool"=none) (g_int:mg "int"=none) (g_isinstance:mg "isinstance"=none) (F:Fun K "_law_whole" "_law_whole" s_L_whole f fd):FnOk P w K mg base CX0 1 f fd ["_law_found","_law_due"] (spF K F_L_whole):=by
 have sc:=sc_L_whole
 refine fn_F F sc_L_whole fun cdv A outer s H E hr=>?_
 have hu:=hu_of hr
 exact (fs_one (fs_ret (fp_and (fp_isi isi_int g_isinstance g_int (fp_var 0)) (fp_and (fp_not (fp_isi isi_bool g_isinstance g_bool (fp_var 0))) (fp_one (fp_eq (fp_var 0) (fp_var 1)))))))
abbrev s_Changes_entry_ofR:Stmt:=inClass (top 23) 10
theorem sc_Changes_entry_ofR:FnScope ["self","number"] ["self","number"] (defScope s_Changes_entry_ofR):=⟨rfl,rfl,rfl,by decide +kernel,rfl,by decide +kernel,by decide +kernel⟩
def B_Changes_entry_ofR:SF:=(sSeq (sIf (tNot1 (tV (eMeth "Changes" "has" F_Changes_has (eVar 0) (aCons (eVar 1) aNil)))) (sRaise "NoChange" (aCons (e1 (oFs "no change has the number ") (eVar 1)) aNil)) sNx) (sRet (e2 oIx (eFld "Changes" "entries" (eVar 0)) (e2 oSub (eVar 1) (eC (.int 1))))))
def F_Changes_entry_ofR:List D→Option Rz:=runR 2 2 B_Changes_entry_ofR
theorem ok_Changes_entry_ofR {c_NoChange:Addr} (m_NoChange:mg "NoChange"=some (.ref c_NoChange)) (X_NoChange:ExcCls K c_NoChange) (n_NoChange:PySem.W.nsIn K mainGlobals "NoChange"=some (some (.ref c_NoChange))) {c_Changes:Addr} (C_Changes:ClsAt K "Changes" c_Changes) (na_Changes_entries:NoAttr K c_Changes "entries") (W_Changes_has:MT P w K mg base CX0 2 c_Changes "has" ["self","number"] (spF K F_Changes_has)) (F:Fun K "entry_of" "Changes.entry_of" s_Changes_entry_ofR f fd):FnOk P w K mg base (CXE P w) 3 f fd ["self","number"] (spR K F_Changes_entry_ofR):=by
 obtain ⟨_,_,G_Changes_has,b_Changes_has,mt_Changes_has⟩:=W_Changes_has
 have sc:=sc_Changes_entry_ofR
 refine fn_R F sc_Changes_entry_ofR (by decide) fun cdv A outer s H E hr=>?_
 have hu:=hu_of hr
 exact (fs_cons (fs_if (ft_not (ft_val (fp_meth C_Changes mt_Changes_has G_Changes_has (hr.mono (by decide)) b_Changes_has (fp_var 0) (fa_cons (fp_var 1) fa_nil)))) (fs_one (fs_raise rfl X_NoChange n_NoChange m_NoChange (fa_cons (fp_fs (by decide) (fp_var 1)) fa_nil))) fs_nil) (fs_one (fs_ret (fp_ix (fp_fld C_Changes na_Changes_entries (fp_var 0)) (fp_sub (fp_var 1) fp_int)))))
abbrev s_Changes_rank_ofR:Stmt:=inClass (top 23) 3
theorem sc_Changes_rank_ofR:FnScope ["self","number"] ["self","number"] (defScope s_Changes_rank_ofR):=⟨rfl,rfl,rfl,by decide +kernel,rfl,by decide +kernel,by decide +kernel⟩
def B_Changes_rank_ofR:SF:=(sRetE (xEr (xMethS "Changes" "entry_of" F_Changes_entry_ofR (eVar 0) (aCons (eVar 1) aNil))))
def F_Changes_rank_ofR:List D→Option Rz:=runR 2 2 B_Changes_rank_ofR
theorem ok_Changes_rank_ofR {c_Changes:Addr} (C_Changes:ClsAt K "Changes" c_Changes) (W_Changes_entry_ofR:MT P w K mg base (CXE P w) 3 c_Changes "entry_of" ["self","number"] (spR K F_Changes_entry_ofR)) (F:Fun K "rank_of" "Changes.rank_of" s_Changes_rank_ofR f fd):FnOk P w K mg base (CXE P w) 4 f fd ["self","number"] (spR K F_Changes_rank_ofR):=by
 obtain ⟨_,_,G_Changes_entry_ofR,b_Changes_entry_ofR,mt_Changes_entry_ofR⟩:=W_Changes_entry_ofR
 have sc:=sc_Changes_rank_ofR
 refine fn_R F sc_Changes_rank_ofR (by decide) fun cdv A outer s H E hr=>?_
 have hu:=hu_of hr
 exact (fs_one (fs_retE (fe_sub0 (fe_methS C_Changes mt_Changes_entry_ofR G_Changes_entry_ofR (hr.mono (by decide)) b_Changes_entry_ofR (fp_var 0) (fa_cons (fp_var 1) fa_nil)))))
abbrev s_Changes_leans_ofR:Stmt:=inClass (top 23) 4
theorem sc_Changes_leans_ofR:FnScope ["self","number"] ["self","number"] (defScope s_Changes_leans_ofR):=⟨rfl,rfl,rfl,by decide +kernel,rfl,by decide +kernel,by decide +kernel⟩
def B_Changes_leans_ofR:SF:=(sRetE (xEr (xEr (xMethS "Changes" "entry_of" F_Changes_entry_ofR (eVar 0) (aCons (eVar 1) aNil)))))
def F_Changes_leans_ofR:List D→Option Rz:=runR 2 2 B_Changes_leans_ofR
theorem ok_Changes_leans_ofR (g_list:mg "list"=none) {c_Changes:Addr} (C_Changes:ClsAt K "Changes" c_Changes) (W_Changes_entry_ofR:MT P w K mg base (CXE P w) 3 c_Changes "entry_of" ["self","number"] (spR K F_Changes_entry_ofR)) (F:Fun K "leans_of" "Changes.leans_of" s_Changes_leans_ofR f fd):FnOk P w K mg base (CXE P w) 4 f fd ["self","number"] (spR K F_Changes_leans_ofR):=by
 obtain ⟨_,_,G_Changes_entry_ofR,b_Changes_entry_ofR,mt_Changes_entry_ofR⟩:=W_Changes_entry_ofR
 have sc:=sc_Changes_leans_ofR
 refine fn_R F sc_Changes_leans_ofR (by decide) fun cdv A outer s H E hr=>?_
 have hu:=hu_of hr
 exact (fs_one (fs_retE (fe_list0 g_list (fe_sub0 (fe_methS C_Changes mt_Changes_entry_ofR G_Changes_entry_ofR (hr.mono (by decide)) b_Changes_entry_ofR (fp_var 0) (fa_cons (fp_var 1) fa_nil))))))
abbrev s_Changes_edits_ofR:Stmt:=inClass (top 23) 5
theorem sc_Changes_edits_ofR:FnScope ["self","number"] ["self","number"] (defScope s_Changes_edits_ofR):=⟨rfl,rfl,rfl,by decide +kernel,rfl,by decide +kernel,by decide +kernel⟩
def B_Changes_edits_ofR:SF:=(sRetE (xEr (xEr (xMethS "Changes" "entry_of" F_Changes_entry_ofR (eVar 0) (aCons (eVar 1) aNil)))))
def F_Changes_edits_ofR:List D→Option Rz:=runR 2 2 B_Changes_edits_ofR
theorem ok_Changes_edits_ofR (g_list:mg "list"=none) {c_Changes:Addr} (C_Changes:ClsAt K "Changes" c_Changes) (W_Changes_entry_ofR:MT P w K mg base (CXE P w) 3 c_Changes "entry_of" ["self","number"] (spR K F_Changes_entry_ofR)) (F:Fun K "edits_of" "Changes.edits_of" s_Changes_edits_ofR f fd):FnOk P w K mg base (CXE P w) 4 f fd ["self","number"] (spR K F_Changes_edits_ofR):=by
 obtain ⟨_,_,G_Changes_entry_ofR,b_Changes_entry_ofR,mt_Changes_entry_ofR⟩:=W_Changes_entry_ofR
 have sc:=sc_Changes_edits_ofR
 refine fn_R F sc_Changes_edits_ofR (by decide) fun cdv A outer s H E hr=>?_
 have hu:=hu_of hr
 exact (fs_one (fs_retE (fe_list0 g_list (fe_sub0 (fe_methS C_Changes mt_Changes_entry_ofR G_Changes_entry_ofR (hr.mono (by decide)) b_Changes_entry_ofR (fp_var 0) (fa_cons (fp_var 1) fa_nil))))))
abbrev s_Changes_overR:Stmt:=inClass (top 23) 6
theorem sc_Changes_overR:FnScope ["self","number","met","upper"] ["self","number"] (defScope s_Changes_overR):=⟨rfl,rfl,rfl,by decide +kernel,rfl,by decide +kernel,by decide +kernel⟩
def B_Changes_overR:SF:=(sSeq (sExprE (xMethS "Changes" "entry_of" F_Changes_entry_ofR (eVar 0) (aCons (eVar 1) aNil))) (sSeq sNo (sSeq sNo sNo)))
def F_Changes_overR:List D→Option Rz:=runR 2 4 B_Changes_overR
theorem ok_Changes_overR {c_Changes:Addr} (C_Changes:ClsAt K "Changes" c_Changes) (W_Changes_entry_ofR:MT P w K mg base (CXE P w) 3 c_Changes "entry_of" ["self","number"] (spR K F_Changes_entry_ofR)) (F:Fun K "over" "Changes.over" s_Changes_overR f fd):FnOk P w K mg base (CXE P w) 4 f fd ["self","number"] (spR K F_Changes_overR):=by
 obtain ⟨_,_,G_Changes_entry_ofR,b_Changes_entry_ofR,mt_Changes_entry_ofR⟩:=W_Changes_entry_ofR
 have sc:=sc_Changes_overR
 refine fn_R F sc_Changes_overR (by decide) fun cdv A outer s H E hr=>?_
 have hu:=hu_of hr
 exact (fs_cons (fs_exprE (fe_methS C_Changes mt_Changes_entry_ofR G_Changes_entry_ofR (hr.mono (by decide)) b_Changes_entry_ofR (fp_var 0) (fa_cons (fp_var 1) fa_nil))) (fs_cons fs_no (fs_cons fs_no (fs_one fs_no))))
abbrev s_Changes_underR:Stmt:=inClass (top 23) 7
theorem sc_Changes_underR:FnScope ["self","number","met","lower","lean"] ["self","number"] (defScope s_Changes_underR):=⟨rfl,rfl,rfl,by decide +kernel,rfl,by decide +kernel,by decide +kernel⟩
def B_Changes_underR:SF:=(sSeq (sExprE (xMethS "Changes" "entry_of" F_Changes_entry_ofR (eVar 0) (aCons (eVar 1) aNil))) (sSeq sNo (sSeq sNo sNo)))
def F_Changes_underR:List D→Option Rz:=runR 2 5 B_Changes_underR
theorem ok_Changes_underR {c_Changes:Addr} (C_Changes:ClsAt K "Changes" c_Changes) (W_Changes_entry_ofR:MT P w K mg base (CXE P w) 3 c_Changes "entry_of" ["self","number"] (spR K F_Changes_entry_ofR)) (F:Fun K "under" "Changes.under" s_Changes_underR f fd):FnOk P w K mg base (CXE P w) 4 f fd ["self","number"] (spR K F_Changes_underR):=by
 obtain ⟨_,_,G_Changes_entry_ofR,b_Changes_entry_ofR,mt_Changes_entry_ofR⟩:=W_Changes_entry_ofR
 have sc:=sc_Changes_underR
 refine fn_R F sc_Changes_underR (by decide) fun cdv A outer s H E hr=>?_
 have hu:=hu_of hr
 exact (fs_cons (fs_exprE (fe_methS C_Changes mt_Changes_entry_ofR G_Changes_entry_ofR (hr.mono (by decide)) b_Changes_entry_ofR (fp_var 0) (fa_cons (fp_var 1) fa_nil))) (fs_cons fs_no (fs_cons fs_no (fs_one fs_no))))
abbrev s_L_no_change:Stmt:=top 31
theorem sc_L_no_change:FnScope ["_law_way","_law_changes","_law_number","_law_kinds_here","_law_e"] ["_law_way","_law_changes","_law_number"] (defScope s_L_no_change):=⟨rfl,rfl,rfl,by decide +kernel,rfl,by decide +kernel,by decide +kernel⟩
def B_L_no_change:SF:=(sSeq (sSet 3 (eLst aNil)) (sSeq (sTryAs 4 (subOf ["NoChange"]) (sIf (tV (e2 oEq (eVar 0) (eC (.int 0)))) (sExprE (xMethS "Changes" "rank_of" F_Changes_rank_ofR (eVar 1) (aCons (eVar 2) aNil))) (sIf (tV (e2 oEq (eVar 0) (eC (.int 1)))) (sExprE (xMethS "Changes" "leans_of" F_Changes_leans_ofR (eVar 1) (aCons (eVar 2) aNil))) (sIf (tV (e2 oEq (eVar 0) (eC (.int 2)))) (sExprE (xMethS "Changes" "edits_of" F_Changes_edits_ofR (eVar 1) (aCons (eVar 2) aNil))) (sIf (tV (e2 oEq (eVar 0) (eC (.int 3)))) (sExprE (xMethS "Changes" "over" F_Changes_overR (eVar 1) (aCons (eVar 2) aNil))) (sExprE (xMethS "Changes" "under" F_Changes_underR (eVar 1) (aCons (eVar 2) aNil))))))) (sSet 3 (eCall F_L_kinds (aCons (eVar 4) aNil)))) (sRet (eCall F_L_only (aCons (eVar 3) (aCons (eC (.int 3)) aNil))))))
def F_L_no_change:List D→Option D:=runF 3 5 B_L_no_change
theorem ok_L_no_change {c_LinegateError:Addr} (m_LinegateError:mg "LinegateError"=some (.ref c_LinegateError)) (CT_LinegateError:CatchT K ["NoChange"] c_LinegateError) {c_Changes:Addr} (C_Changes:ClsAt K "Changes" c_Changes) (W_Changes_rank_ofR:MT P w K mg base (CXE P w) 4 c_Changes "rank_of" ["self","number"] (spR K F_Changes_rank_ofR)) (W_Changes_leans_ofR:MT P w K mg base (CXE P w) 4 c_Changes "leans_of" ["self","number"] (spR K F_Changes_leans_ofR)) (W_Changes_edits_ofR:MT P w K mg base (CXE P w) 4 c_Changes "edits_of" ["self","number"] (spR K F_Changes_edits_ofR)) (W_Changes_overR:MT P w K mg base (CXE P w) 4 c_Changes "over" ["self","number"] (spR K F_Changes_overR)) (W_Changes_underR:MT P w K mg base (CXE P w) 4 c_Changes "under" ["self","number"] (spR K F_Changes_underR)) (W_L_kinds:FN P w K mg base CX0 1 "_law_kinds" ["_law_e"] (spF K F_L_kinds) false) (W_L_only:FN P w K mg base CX0 1 "_law_only" ["_law_kinds_here","_law_place"] (spF K F_L_only)) (F:Fun K "_law_no_change" "_law_no_change" s_L_no_change f fd):FnOk P w K mg base CX0 5 f fd ["_law_way","_law_changes","_law_number"] (spF K F_L_no_change):=by
 obtain ⟨_,_,G_Changes_rank_ofR,b_Changes_rank_ofR,mt_Changes_rank_ofR⟩:=W_Changes_rank_ofR
 obtain ⟨_,_,G_Changes_leans_ofR,b_Changes_leans_ofR,mt_Changes_leans_ofR⟩:=W_Changes_leans_ofR
 obtain ⟨_,_,G_Changes_edits_ofR,b_Changes_edits_ofR,mt_Changes_edits_ofR⟩:=W_Changes_edits_ofR
 obtain ⟨_,_,G_Changes_overR,b_Changes_overR,mt_Changes_overR⟩:=W_Changes_overR
 obtain ⟨_,_,G_Changes_underR,b_Changes_underR,mt_Changes_underR⟩:=W_Changes_underR
 obtain ⟨_,_,G_L_kinds,m_L_kinds,k_L_kinds,b_L_kinds⟩:=W_L_kinds
 obtain ⟨_,_,G_L_only,m_L_only,k_L_only,b_L_only⟩:=W_L_only
 have sc:=sc_L_no_change
 refine fn_F F sc_L_no_change fun cdv A outer s H E hr=>?_
 have hu:=hu_of hr
 exact (fs_cons (fs_set 3 (fp_lst fa_nil) sc.nd) (fs_cons (fs_try_as 4 (fun pins R=>(fs_one (fs_if (ft_eq (fp_var 0) fp_int) (fs_one (fs_exprE (fe_methS C_Changes mt_Changes_rank_ofR G_Changes_rank_ofR (hr.mono (by decide)) b_Changes_rank_ofR (fp_var 1) (fa_cons (fp_var 2) fa_nil)))) (fs_one (fs_if (ft_eq (fp_var 0) fp_int) (fs_one (fs_exprE (fe_methS C_Changes mt_Changes_leans_ofR G_Changes_leans_ofR (hr.mono (by decide)) b_Changes_leans_ofR (fp_var 1) (fa_cons (fp_var 2) fa_nil)))) (fs_one (fs_if (ft_eq (fp_var 0) fp_int) (fs_one (fs_exprE (fe_methS C_Changes mt_Changes_edits_ofR G_Changes_edits_ofR (hr.mono (by decide)) b_Changes_edits_ofR (fp_var 1) (fa_cons (fp_var 2) fa_nil)))) (fs_one (fs_if (ft_eq (fp_var 0) fp_int) (fs_one (fs_exprE (fe_methS C_Changes mt_Changes_overR G_Changes_overR (hr.mono (by decide)) b_Changes_overR (fp_var 1) (fa_cons (fp_var 2) fa_nil)))) (fs_one (fs_exprE (fe_methS C_Changes mt_Changes_underR G_Changes_underR (hr.mono (by decide)) b_Changes_underR (fp_var 1) (fa_cons (fp_var 2) fa_nil))))))))))))) (fun a=>(fs_one (fs_set 3 (fp_call G_L_kinds (Room.mark (hr.mono (by decide)) _) m_L_kinds k_L_kinds b_L_kinds (fa_cons (fp_var 4) fa_nil)) sc.nd))) CT_LinegateError m_LinegateError sc.nd) (fs_one (fs_ret (fp_call G_L_only (hr.mono (by decide)) m_L_only k_L_only b_L_only (fa_cons (fp_var 3) (fa_cons fp_int fa_nil)))))))
abbrev s_L_right:Stmt:=top 32
theorem sc_L_right:FnScope ["_law_changes","_law_specs","_law_k","_law_spec","_law_turn","_law_leans","_law_edits"] ["_law_changes","_law_specs"] (defScope s_L_right):=⟨rfl,rfl,rfl,by decide +kernel,rfl,by decide +kernel,by decide +kernel⟩
def B_L_right:SF:=(sSeq (sIf (tNot1 (tV (eCall F_L_whole (aCons (eMeth "Changes" "many" F_Changes_many (eVar 0) aNil) (aCons (e1 oLen (eVar 1)) aNil))))) (sRet (eC (.bl false))) sNx) (sSeq (sFor (iEnF (eVar 1)) (gT (gsCons (gN 2) (gsCons (gN 3) gsNil))) (sSeq (sIf (tNot1 (tV (eCall F_L_whole (aCons (eMeth "Changes" "rank_of" F_Changes_rank_of (eVar 0) (aCons (e2 oAdd (eVar 2) (eC (.int 1))) aNil)) (aCons (e2 oIx (eVar 3) (eC (.int 0))) aNil))))) (sRet (eC (.bl false))) sNx) (sFor (iR1 (eC (.int 2))) (gN 4) (sSeq (sSet 5 (eMeth "Changes" "leans_of" F_Changes_leans_of (eVar 0) (aCons (e2 oAdd (eVar 2) (eC (.int 1))) aNil))) (sSeq (sSet 6 (eMeth "Changes" "edits_of" F_Changes_edits_of (eVar 0) (aCons (e2 oAdd (eVar 2) (eC (.int 1))) aNil))) (sSeq (sIf (tOr2 (tV (e2 oNe (e1 oReprB (eVar 5)) (e1 oReprB (e2 oIx (eVar 3) (eC (.int 1)))))) (tV (e2 oNe (e1 oReprB (eVar 6)) (e1 oReprB (e2 oIx (eVar 3) (eC (.int 2))))))) (sRet (eC (.bl false))) sNx) (sSeq (sAppO 5 (eC (.int 1))) (sClr 6)))))))) (sRet (eC (.bl true)))))
def F_L_right:List D→Option D:=runF 2 7 B_L_right
theorem ok_L_right (g_enumerate:mg "enumerate"=none) (g_len:mg "len"=none) (g_range:mg "range"=none) (g_repr:mg "repr"=none) {c_Changes:Addr} (C_Changes:ClsAt K "Changes" c_Changes) (W_L_whole:FN P w K mg base CX0 1 "_law_whole" ["_law_found","_law_due"] (spF K F_L_whole)) (W_Changes_many:MT P w K mg base CX0 1 c_Changes "many" ["self"] (spF K F_Changes_many)) (W_Changes_rank_of:MT P w K mg base CX0 4 c_Changes "rank_of" ["self","number"] (spF K F_Changes_rank_of)) (W_Changes_leans_of:MT P w K mg base CX0 4 c_Changes "leans_of" ["self","number"] (spF K F_Changes_leans_of)) (W_Changes_edits_of:MT P w K mg base CX0 4 c_Changes "edits_of" ["self","number"] (spF K F_Changes_edits_of)) (F:Fun K "_law_right" "_law_right" s_L_right f fd):FnOk P w K mg base CX0 5 f fd ["_law_changes","_law_specs"] (spF K F_L_right):=by
 obtain ⟨_,_,G_L_whole,m_L_whole,k_L_whole,b_L_whole⟩:=W_L_whole
 obtain ⟨_,_,G_Changes_many,b_Changes_many,mt_Changes_many⟩:=W_Changes_many
 obtain ⟨_,_,G_Changes_rank_of,b_Changes_rank_of,mt_Changes_rank_of⟩:=W_Changes_rank_of
 obtain ⟨_,_,G_Changes_leans_of,b_Changes_leans_of,mt_Changes_leans_of⟩:=W_Changes_leans_of
 obtain ⟨_,_,G_Changes_edits_of,b_Changes_edits_of,mt_Changes_edits_of⟩:=W_Changes_edits_of
 have sc:=sc_L_right
 refine fn_F F sc_L_right fun cdv A outer s H E hr=>?_
 have hu:=hu_of hr
 exact (fs_cons (fs_if (ft_not (ft_val (fp_call G_L_whole (hr.mono (by decide)) m_L_whole k_L_whole b_L_whole (fa_cons (fp_meth0 C_Changes mt_Changes_many G_Changes_many (hr.mono (by decide)) b_Changes_many (fp_var 0)) (fa_cons (fp_len g_len (fp_var 1)) fa_nil))))) (fs_one (fs_ret fp_bl)) fs_nil) (fs_cons (fs_for rfl (fi_enum g_enumerate (fp_var 1)) (fg_tup rfl (fgs_cons (fg_name 2 sc.nd) (fgs_cons (fg_name 3 sc.nd) fgs_nil))) (fs_cons (fs_if (ft_not (ft_val (fp_call G_L_whole (hr.mono (by decide)) m_L_whole k_L_whole b_L_whole (fa_cons (fp_meth C_Changes mt_Changes_rank_of G_Changes_rank_of (hr.mono (by decide)) b_Changes_rank_of (fp_var 0) (fa_cons (fp_add (fp_var 2) fp_int) fa_nil)) (fa_cons (fp_ix (fp_var 3) fp_int) fa_nil))))) (fs_one (fs_ret fp_bl)) fs_nil) (fs_one (fs_for rfl (fi_range1 g_range fp_int) (fg_name 4 sc.nd) (fs_cons (fs_set 5 (fp_meth C_Changes mt_Changes_leans_of G_Changes_leans_of (hr.mono (by decide)) b_Changes_leans_of (fp_var 0) (fa_cons (fp_add (fp_var 2) fp_int) fa_nil)) sc.nd) (fs_cons (fs_set 6 (fp_meth C_Changes mt_Changes_edits_of G_Changes_edits_of (hr.mono (by decide)) b_Changes_edits_of (fp_var 0) (fa_cons (fp_add (fp_var 2) fp_int) fa_nil)) sc.nd) (fs_cons (fs_if (FW.ft (fw_or (ft_ne (fp_reprB hr g_repr (fp_var 5)) (fp_reprB hr g_repr (fp_ix (fp_var 3) fp_int))) (fw_or1 (ft_ne (fp_reprB hr g_repr (fp_var 6)) (fp_reprB hr g_repr (fp_ix (fp_var 3) fp_int)))))) (fs_one (fs_ret fp_bl)) fs_nil) (fs_cons (fs_appO 5 fp_int) (fs_one (fs_clr 6)))))))))) (fs_one (fs_ret fp_bl))))
abbrev s_L_added:Stmt:=top 33
theorem sc_L_added:FnScope ["_law_changes","_law_specs","_law_spec","_law_leans","_law_edits","_law_found","_law_fine"] ["_law_changes","_law_specs","_law_spec"] (defScope s_L_added):=⟨rfl,rfl,rfl,by decide +kernel,rfl,by decide +kernel,by decide +kernel⟩
def B_L_added:SF:=(sSeq (noRt (sSet 3 (e1 oListB (e2 oIx (eVar 2) (eC (.int 1)))))) (sSeq (noRt (sSet 4 (e1 oListB (e2 oIx (eVar 2) (eC (.int 2)))))) (sSeq (sIf (tV (e2 oEq (e2 oMod (e1 oLen (eVar 1)) (eC (.int 3))) (eC (.int 1)))) (sSeq (noRt (sSet 3 (e1 oTupleB (eVar 3)))) (noRt (sSet 4 (e1 oTupleB (eVar 4))))) sNx) (sSeq (noRt (sSetZ 5 (xO 0 "Changes" "added" F_Changes_added (aCons (e2 oIx (eVar 2) (eC (.int 0))) (aCons (eVar 3) (aCons (eVar 4) aNil)))))) (sSeq (noRt (sSet 6 (eAnd (eCall F_L_whole (aCons (eVar 5) (aCons (e2 oAdd (e1 oLen (eVar 1)) (eC (.int 1))) aNil))) (eAnd (e2 oEqP (eVar 3) (e2 oIx (eVar 2) (eC (.int 1)))) (e2 oEqP (eVar 4) (e2 oIx (eVar 2) (eC (.int 2)))))))) (sSeq (sIf (tV (e1 (oIsiB "tuple") (eVar 3))) (sSeq (noRt (sAppO 1 (eVar 2))) (sRetPP (eAnd (eCall F_L_whole (aCons (eVar 5) (aCons (e1 oLen (eVar 1)) aNil))) (eAnd (e2 oEqP (eVar 3) (e1 oTupleB (e2 oIx (eVar 2) (eC (.int 1))))) (e2 oEqP (eVar 4) (e1 oTupleB (e2 oIx (eVar 2) (eC (.int 2))))))))) sNx) (sSeq (noRt (sAppO 3 (eC (.int 60)))) (sSeq (noRt (sRvS 4)) (sSeq (noRt (sApp 4 (eTup (aCons (eC (.int 0)) (aCons (eC (.int 0)) (aCons (eC (.int 1)) aNil)))))) (sSeq (noRt (sAppO 1 (eVar 2))) (sRetPP (eVar 6))))))))))))
def F_L_added:MF2:=runPP 3 7 B_L_added
theorem ok_L_added (g_isinstance:mg "isinstance"=none) (g_len:mg "len"=none) (g_list:mg "list"=none) (g_tuple:mg "tuple"=none) {c_Changes:Addr} (C_Changes:ClsAt K "Changes" c_Changes) (W_Changes_added:MT P w K mg base CX0 4 c_Changes "added" ["self","rank","leans","edits"] (spO K F_Changes_added)) (W_L_whole:FN P w K mg base CX0 1 "_law_whole" ["_law_found","_law_due"] (spF K F_L_whole)) (F:Fun K "_law_added" "_law_added" s_L_added f fd):FnOk P w K mg base CX0 5 f fd ["_law_changes","_law_specs","_law_spec"] (spPP K F_L_added):=by
 obtain ⟨_,_,G_Changes_added,b_Changes_added,mt_Changes_added⟩:=W_Changes_added
 obtain ⟨_,_,G_L_whole,m_L_whole,k_L_whole,b_L_whole⟩:=W_L_whole
 have sc:=sc_L_added
 refine fn_PP F sc_L_added rfl rfl (by decide) fun cdv A outer s H E hr=>?_
 have hu:=hu_of hr
 exact (pp_cons (pp_of (fs_set 3 (fp_listB g_list (fp_ix (fp_var 2) fp_int)) sc.nd)) (pp_cons (pp_of (fs_set 4 (fp_listB g_list (fp_ix (fp_var 2) fp_int)) sc.nd)) (pp_cons (pp_if (ft_eq (fp_mod (fp_len g_len (fp_var 1)) fp_int) fp_int) (pp_cons (pp_of (fs_set 3 (fp_tupleB g_tuple (fp_var 3)) sc.nd)) (pp_one (pp_of (fs_set 4 (fp_tupleB g_tuple (fp_var 4)) sc.nd)))) pp_nil) (pp_cons (pp_of (fs_setZ 5 (fz_meth 0 C_Changes mt_Changes_added G_Changes_added (hr.mono (by decide)) b_Changes_added (fa_cons (fp_ix (fp_var 2) fp_int) (fa_cons (fp_var 3) (fa_cons (fp_var 4) fa_nil)))) sc.nd)) (pp_cons (pp_of (fs_set 6 (fp_and (fp_call G_L_whole (hr.mono (by decide)) m_L_whole k_L_whole b_L_whole (fa_cons (fp_var 5) (fa_cons (fp_add (fp_len g_len (fp_var 1)) fp_int) fa_nil))) (fp_and (fp_eqP hr.units (fp_var 3) (fp_ix (fp_var 2) fp_int)) (fp_one (fp_eqP hr.units (fp_var 4) (fp_ix (fp_var 2) fp_int))))) sc.nd)) (pp_cons (pp_if (ft_val (fp_isiB isi_tuple isiB_tuple g_isinstance g_tuple (fp_var 3))) (pp_cons (pp_of (fs_appO 1 (fp_var 2))) (pp_one (pp_ret (fp_and (fp_call G_L_whole (hr.mono (by decide)) m_L_whole k_L_whole b_L_whole (fa_cons (fp_var 5) (fa_cons (fp_len g_len (fp_var 1)) fa_nil))) (fp_and (fp_eqP hr.units (fp_var 3) (fp_tupleB g_tuple (fp_ix (fp_var 2) fp_int))) (fp_one (fp_eqP hr.units (fp_var 4) (fp_tupleB g_tuple (fp_ix (fp_var 2) fp_int))))))))) pp_nil) (pp_cons (pp_of (fs_appO 3 fp_int)) (pp_cons (pp_of (fs_rvS 4)) (pp_cons (pp_of (fs_app 4 (fp_tup (fa_cons fp_int (fa_cons fp_int (fa_cons fp_int fa_nil)))))) (pp_cons (pp_of (fs_appO 1 (fp_var 2))) (pp_one (pp_ret (fp_var 6)))))))))))))
abbrev s_law:Stmt:=top 34
theorem sc_law:FnScope ["_law_script","_law_changes","_law_other","_law_specs","_law_others","_law_k","_law_spec","_law_way","_law_number"] ["_law_script"] (defScope s_law):=⟨rfl,rfl,rfl,by decide +kernel,rfl,by decide +kernel,by decide +kernel⟩
def B_law:SF:=(sSeq (sSet 1 (eMake "Changes" F_Changes_init aNil)) (sSeq (sSet 2 (eMake "Changes" F_Changes_init aNil)) (sSeq (sSet 3 (eLst aNil)) (sSeq (sSet 4 (eLst aNil)) (sSeq (sIf (tOr2 (tNot1 (tV (eCall F_L_whole (aCons (eMeth "Changes" "many" F_Changes_many (eVar 1) aNil) (aCons (eC (.int 0)) aNil))))) (tNot1 (tV (eCall F_L_no_change (aCons (eCall F_L_draw (aCons (eVar 0) (aCons (eC (.int 1)) (aCons (eC (.int 10243)) (aCons (eC (.int 5)) aNil))))) (aCons (eVar 1) (aCons (eC (.int 1)) aNil))))))) (sRet (eC (.bl false))) sNx) (sSeq (sFor (iR1 (e2 oMin2 (eC (.int 60)) (e1 oLen (eVar 0)))) (gN 5) (sSeq (sSet 6 (eTup (aCons (eCall F_L_draw (aCons (eVar 0) (aCons (eVar 5) (aCons (eC (.int 10247)) (aCons (eC (.int 10)) aNil))))) (aCons (eFrz (eCall F_L_leans_of (aCons (eVar 0) (aCons (eVar 5) (aCons (e1 oLen (eVar 3)) aNil))))) (aCons (eFrz (eCall F_L_edits_of (aCons (eVar 0) (aCons (eVar 5) aNil)))) aNil))))) (sSeq (sIfZ (tNotZ (xCallPP 1 3 F_L_added (aCons (eVar 6) aNil))) (sRet (eC (.bl false))) sNx) (sIfZ (tAndZ (tV (e2 oEq (e2 oMod (eVar 5) (eC (.int 2))) (eC (.int 1)))) (tNotZ (xCallPP 2 4 F_L_added (aCons (eTup (aCons (e2 oIx (eVar 6) (eC (.int 0))) (aCons (eFrz (eLst aNil)) (aCons (e2 oIx (eVar 6) (eC (.int 2))) aNil)))) aNil)))) (sRet (eC (.bl false))) sNx)))) (sSeq (sFor (iR1 (eC (.int 5))) (gN 7) (sSeq (sSet 8 (eIxO (eLst (aCons (eC (.int 0)) (aCons (e2 oAdd (e1 oLen (eVar 3)) (eC (.int 1))) (aCons (e1 oNeg (eC (.int 1))) aNil)))) (e2 oMod (e2 oAdd (eVar 7) (eCall F_L_draw (aCons (eVar 0) (aCons (eC (.int 2)) (aCons (eC (.int 10253)) (aCons (eC (.int 3)) aNil)))))) (eC (.int 3))))) (sIf (tOr2 (tNot1 (tV (eCall F_L_no_change (aCons (eVar 7) (aCons (eVar 1) (aCons (eVar 8) aNil)))))) (tNot1 (tV (eCall F_L_no_change (aCons (eVar 7) (aCons (eVar 2) (aCons (e2 oAdd (e1 oLen (eVar 4)) (eC (.int 1))) aNil))))))) (sRet (eC (.bl false))) sNx))) (sRet (eAnd (eCall F_L_right (aCons (eVar 1) (aCons (eVar 3) aNil))) (eCall F_L_right (aCons (eVar 2) (aCons (eVar 4) aNil))))))))))))
def F_law:List D→Option D:=runF 1 9 B_law
theorem ok_law (g_len:mg "len"=none) (g_min:mg "min"=none) (g_range:mg "range"=none) {c_Changes:Addr} (C_Changes:ClsAt K "Changes" c_Changes) (W_Changes_init:MI P w K mg base CX0 1 c_Changes ["self"] (spO K F_Changes_init)) (m_Changes:mg "Changes"=some (.ref c_Changes)) (W_L_no_change:FN P w K mg base CX0 5 "_law_no_change" ["_law_way","_law_changes","_law_number"] (spF K F_L_no_change)) (W_L_draw:FN P w K mg base CX0 1 "_law_draw" ["_law_script","_law_k","_law_prime","_law_many"] (spF K F_L_draw)) (W_L_whole:FN P w K mg base CX0 1 "_law_whole" ["_law_found","_law_due"] (spF K F_L_whole)) (W_Changes_many:MT P w K mg base CX0 1 c_Changes "many" ["self"] (spF K F_Changes_many)) (W_L_edits_of:FN P w K mg base CX0 2 "_law_edits_of" ["_law_script","_law_k"] (spF K F_L_edits_of)) (W_L_leans_of:FN P w K mg base CX0 2 "_law_leans_of" ["_law_script","_law_k","_law_many"] (spF K F_L_leans_of)) (W_L_added:FN P w K mg base CX0 5 "_law_added" ["_law_changes","_law_specs","_law_spec"] (spPP K F_L_added)) (W_L_right:FN P w K mg base CX0 5 "_law_right" ["_law_changes","_law_specs"] (spF K F_L_right)) (F:Fun K "law" "law" s_law f fd):FnOk P w K mg base CX0 6 f fd ["_law_script"] (spF K F_law):=by
 obtain ⟨_,_,G_Changes_init,b_Changes_init,M_Changes⟩:=W_Changes_init
 obtain ⟨_,_,G_L_no_change,m_L_no_change,k_L_no_change,b_L_no_change⟩:=W_L_no_change
 obtain ⟨_,_,G_L_draw,m_L_draw,k_L_draw,b_L_draw⟩:=W_L_draw
 obtain ⟨_,_,G_L_whole,m_L_whole,k_L_whole,b_L_whole⟩:=W_L_whole
 obtain ⟨_,_,G_Changes_many,b_Changes_many,mt_Changes_many⟩:=W_Changes_many
 obtain ⟨_,_,G_L_edits_of,m_L_edits_of,k_L_edits_of,b_L_edits_of⟩:=W_L_edits_of
 obtain ⟨_,_,G_L_leans_of,m_L_leans_of,k_L_leans_of,b_L_leans_of⟩:=W_L_leans_of
 obtain ⟨_,_,G_L_added,m_L_added,k_L_added,b_L_added⟩:=W_L_added
 obtain ⟨_,_,G_L_right,m_L_right,k_L_right,b_L_right⟩:=W_L_right
 have sc:=sc_law
 refine fn_F F sc_law fun cdv A outer s H E hr=>?_
 have hu:=hu_of hr
 exact (fs_cons (fs_set 1 (fp_make0 C_Changes.ns M_Changes G_Changes_init (hr.mono (by decide)) m_Changes b_Changes_init) sc.nd) (fs_cons (fs_set 2 (fp_make0 C_Changes.ns M_Changes G_Changes_init (hr.mono (by decide)) m_Changes b_Changes_init) sc.nd) (fs_cons (fs_set 3 (fp_lst fa_nil) sc.nd) (fs_cons (fs_set 4 (fp_lst fa_nil) sc.nd) (fs_cons (fs_if (FW.ft (fw_or (ft_not (ft_val (fp_call G_L_whole (hr.mono (by decide)) m_L_whole k_L_whole b_L_whole (fa_cons (fp_meth0 C_Changes mt_Changes_many G_Changes_many (hr.mono (by decide)) b_Changes_many (fp_var 1)) (fa_cons fp_int fa_nil))))) (fw_or1 (ft_not (ft_val (fp_call G_L_no_change (hr.mono (by decide)) m_L_no_change k_L_no_change b_L_no_change (fa_cons (fp_call G_L_draw (hr.mono (by decide)) m_L_draw k_L_draw b_L_draw (fa_cons (fp_var 0) (fa_cons fp_int (fa_cons fp_int (fa_cons fp_int fa_nil))))) (fa_cons (fp_var 1) (fa_cons fp_int fa_nil))))))))) (fs_one (fs_ret fp_bl)) fs_nil) (fs_cons (fs_for rfl (fi_range1 g_range (fp_min2 rfl g_min fp_int (fp_len g_len (fp_var 0)))) (fg_name 5 sc.nd) (fs_cons (fs_set 6 (fp_tup (fa_cons (fp_call G_L_draw (hr.mono (by decide)) m_L_draw k_L_draw b_L_draw (fa_cons (fp_var 0) (fa_cons (fp_var 5) (fa_cons fp_int (fa_cons fp_int fa_nil))))) (fa_cons (fp_frz (fp_call G_L_leans_of (hr.mono (by decide)) m_L_leans_of k_L_leans_of b_L_leans_of (fa_cons (fp_var 0) (fa_cons (fp_var 5) (fa_cons (fp_len g_len (fp_var 3)) fa_nil))))) (fa_cons (fp_frz (fp_call G_L_edits_of (hr.mono (by decide)) m_L_edits_of k_L_edits_of b_L_edits_of (fa_cons (fp_var 0) (fa_cons (fp_var 5) fa_nil)))) fa_nil)))) sc.nd) (fs_cons (fs_ifZ (ftz_not (fz_callPP 1 3 G_L_added (hr.mono (by decide)) m_L_added k_L_added b_L_added (fa_cons (fp_var 6) fa_nil))) (fs_one (fs_ret fp_bl)) fs_nil) (fs_one (fs_ifZ (ftz_and (ft_eq (fp_mod (fp_var 5) fp_int) fp_int) (ftz_not (fz_callPP 2 4 G_L_added (hr.mono (by decide)) m_L_added k_L_added b_L_added (fa_cons (fp_tup (fa_cons (fp_ix (fp_var 6) fp_int) (fa_cons (fp_frz (fp_lst fa_nil)) (fa_cons (fp_ix (fp_var 6) fp_int) fa_nil)))) fa_nil)))) (fs_one (fs_ret fp_bl)) fs_nil))))) (fs_cons (fs_for rfl (fi_range1 g_range fp_int) (fg_name 7 sc.nd) (fs_cons (fs_set 8 (fp_ixO (fp_lst (fa_cons fp_int (fa_cons (fp_add (fp_len g_len (fp_var 3)) fp_int) (fa_cons (fp_neg fp_int) fa_nil)))) (fp_mod (fp_add (fp_var 7) (fp_call G_L_draw (hr.mono (by decide)) m_L_draw k_L_draw b_L_draw (fa_cons (fp_var 0) (fa_cons fp_int (fa_cons fp_int (fa_cons fp_int fa_nil)))))) fp_int)) sc.nd) (fs_one (fs_if (FW.ft (fw_or (ft_not (ft_val (fp_call G_L_no_change (hr.mono (by decide)) m_L_no_change k_L_no_change b_L_no_change (fa_cons (fp_var 7) (fa_cons (fp_var 1) (fa_cons (fp_var 8) fa_nil)))))) (fw_or1 (ft_not (ft_val (fp_call G_L_no_change (hr.mono (by decide)) m_L_no_change k_L_no_change b_L_no_change (fa_cons (fp_var 7) (fa_cons (fp_var 2) (fa_cons (fp_add (fp_len g_len (fp_var 4)) fp_int) fa_nil))))))))) (fs_one (fs_ret fp_bl)) fs_nil)))) (fs_one (fs_ret (fp_and (fp_call G_L_right (hr.mono (by decide)) m_L_right k_L_right b_L_right (fa_cons (fp_var 1) (fa_cons (fp_var 3) fa_nil))) (fp_one (fp_call G_L_right (hr.mono (by decide)) m_L_right k_L_right b_L_right (fa_cons (fp_var 2) (fa_cons (fp_var 4) fa_nil))))))))))))))
end K11
namespace K11
open PySem L2 L2.Ev
local macro_rules | `(tactic| walk_at "evs")=>`(tactic| simp only [s_eVar,s_varK,s_tagS,s_tagO,s_tagL,s_eC,s_e1,s_k1,s_e2,s_k2,s_map,s_tV,s_kV,s_not,s_nx,s_bk,s_ct,s_seq,s_seqN,s_seqR,s_seqB,s_seqC,s_if,s_ifT,s_ifF,s_ret,s_retO,s_retV,s_retVO,s_retVL,s_set,s_setO,s_setS,s_sS,s_sO,s_gN,s_aNil,s_aCons,s_consK,
 s_call,s_bind,s_tup,s_lst,s_oAdd,s_oSub,s_oLt,s_oLe,s_oGt,s_oGe,s_oEq,s_oNe,s_lenL,s_lenT,s_lenF,s_lenD,List.getElem?_cons_zero,List.getElem?_cons_succ,List.set_cons_zero,List.set_cons_succ,List.map_cons,List.map_nil,beq_self_eq_true,s_tAnd,s_tOr,s_andKT,s_andKF,s_orKT,s_orKF,s_eAnd,s_eAndT,s_eAndF,s_oNot,s_min2,List.length_map,decide_true,decide_false,if_true,if_false,Bool.not_true,Bool.not_false, *])
def cell (ns:List Int) (k:Int):Int:=if 0 < (ns.length:Int) then ns.getD (k % (ns.length:Int)).toNat 0 else 0
def draw (ns:List Int) (k p m:Int):Int:=((cell ns k + k * k) * 48271 + 11) % p % m
theorem draw_lt {ns:List Int}{k p m:Int} (hm:0 < m):0≤draw ns k p m∧draw ns k p m < m:=⟨Int.emod_nonneg _ (by omega),Int.emod_lt_of_pos _ hm⟩
theorem f_draw {ns:List Int}{k p m:Int} (hk:-(2 ^ 64) < k∧k < 2 ^ 64) (hp:0 < p) (hm:0 < m):F_L_draw [dI ns,.int k,.int p,.int m]=some (.int (draw ns k p m)):=by
 have c1:cMul k k=true:=by have h1:=hk.1;have h2:=hk.2;unfold cMul;rw [decide_eq_true h1,decide_eq_true h2];rfl
 have c2:∀ x,cMul x 48271=true:=fun x=>by unfold cMul;simp
 have q1:=@s_oMod
 have q2:=@s_oMul
 refine runF_rt rfl ?_
 show B_L_draw [some (.fls (ns.map D.int),.sh []),some (.int k,.sh []),some (.int p,.sh []),some (.int m,.sh []),none]=_
 unfold B_L_draw draw cell
 by_cases hl:0 < (ns.length:Int)
 ·have h0:0≤k % (ns.length:Int):=Int.emod_nonneg _ (by omega)
  have h1:k % (ns.length:Int) < (ns.length:Int):=Int.emod_lt_of_pos _ hl
  have ha:=s_ixF (atI_ints h0 h1) rfl
  walk_at "evs"
 ·walk_at "evs"
theorem f_within {v a b:Int}:F_within [.int v,.int a,.int b]=some (.bl (decide (a≤v)&&decide (v≤b))):=by
 refine runF_rt rfl ?_
 show B_within [some (.int v,.sh []),some (.int a,.sh []),some (.int b,.sh [])]=_
 unfold B_within
 have q1:e1 (oIsi "int") (eVar 0) [some (.int v,.sh []),some (.int a,.sh []),some (.int b,.sh [])]=some (.bl true,.own):=rfl
 have q2:e1 oNot (e1 (oIsi "bool") (eVar 0)) [some (.int v,.sh []),some (.int a,.sh []),some (.int b,.sh [])]=some (.bl true,.own):=rfl
 rw [s_ret,s_eAnd,q1,s_eAndT,s_eAnd,q2,s_eAndT]
 by_cases h:a≤v
 ·have e1:oLe (.int a) (.int v)=some (.bl true):=by rw [s_oLe,decide_eq_true h]
  have:eChain oLe oLe (eVar 1) (eVar 0) (eVar 2) [some (.int v,.sh []),some (.int a,.sh []),some (.int b,.sh [])]=some (.bl (decide (v≤b)),.own):=by
   unfold eChain
   show (match oLe (.int a) (.int v) with | some (.bl true)=>(oLe (.int v) (.int b)).map (fun d=>(d,Tag.own)) | some (.bl false)=>some (.bl false,.own) | _=>none)=_
   rw [e1] <;> rfl
  rw [this,decide_eq_true h];rfl
 ·have e1:oLe (.int a) (.int v)=some (.bl false):=by rw [s_oLe,decide_eq_false h]
  have:eChain oLe oLe (eVar 1) (eVar 0) (eVar 2) [some (.int v,.sh []),some (.int a,.sh []),some (.int b,.sh [])]=some (.bl false,.own):=by
   unfold eChain
   show (match oLe (.int a) (.int v) with | some (.bl true)=>(oLe (.int v) (.int b)).map (fun d=>(d,Tag.own)) | some (.bl false)=>some (.bl false,.own) | _=>none)=_
   rw [e1] <;> rfl
  rw [this,decide_eq_false h];rfl
def iL (l:List Int):D:=.lst (l.map D.int)
abbrev Ed:=Int×Int×Int
def dT (p:Ed):D:=.tup [.int p.1,.int p.2.1,.int p.2.2]
def eL (E:List Ed):D:=.lst (E.map dT)
theorem imm_eds:∀ E:List Ed,immAll (E.map dT)=true
 | []=>rfl
 | p::r=>by rw [List.map_cons];unfold immAll;rw [imm_eds r];rfl
theorem boolsD_bl:∀ bs:List Bool,boolsD (bs.map D.bl)=some bs
 | []=>rfl
 | b::r=>by rw [List.map_cons];unfold boolsD;rw [boolsD_bl r];rfl
theorem s_all {bs:List Bool}:oAll (.lst (bs.map D.bl))=some (.bl (bs.all id)):=by
 show (boolsD (bs.map D.bl)).map (fun bs=>D.bl (bs.all id))=_
 rw [boolsD_bl];rfl
theorem fm_some {α β:Type} (f:α→β):∀ l:List α,l.filterMap (fun x=>some (f x))=l.map f
 | []=>rfl
 | a::l=>by rw [List.filterMap_cons,List.map_cons];show _::_=_;rw [fm_some f l]
abbrev g2:GF:=gT (gsCons (gN 0) (gsCons (gN 1) gsNil))
theorem size_le {n:Nat} (h:n≤10000):n < sizeLine:=by unfold sizeLine;omega
theorem cut_from {ds:List D}{k:Nat} (hk:k≤ds.length):cutD ds (some (k:Int)) none=ds.drop k:=by
 unfold cutD
 rw [HT.sIx_nat,HT.sIx_none,Nat.min_eq_left hk,List.take_of_length_le (by rw [List.length_drop];exact Nat.le_refl _)]
theorem cut1 {ds:List D}:cutD ds (some 1) none=ds.drop 1:=by
 cases ds with
 | nil=>rfl
 | cons a r=>exact cut_from (k:=1) (by simp)
def sq (b:Bool) (ds:List D):D:=match b with
 | true=>.tup ds
 | false=>.lst ds
def iS (b:Bool) (l:List Int):D:=sq b (l.map D.int)
def eS (b:Bool) (E:List Ed):D:=sq b (E.map dT)
theorem iseqS {b:Bool}{f:EF}{ρ:Rho}{ds:List D}{t:Tag} (h:f ρ=some (sq b ds,t)):iSeqF f ρ=some (ds,t):=by
 unfold iSeqF
 rw [h]
 cases b <;> rfl
theorem lenS {b:Bool}{ds:List D}:oLen (sq b ds)=some (.int ds.length):=by cases b <;> rfl
def risB:List Int→Bool
 | x::y::r=>decide (x < y)&&risB (y::r)
 | _=>true
theorem ris_zip:∀ l:List Int,((l.zip (l.drop 1)).map fun p=>decide (p.1 < p.2)).all id=risB l
 | []=>rfl
 | [_]=>rfl
 | x::y::r=>by
  have ih:=ris_zip (y::r)
  show (decide (x < y)&&(((y::r).zip ((y::r).drop 1)).map fun p=>decide (p.1 < p.2)).all id)=_
  rw [ih];rfl
theorem ris_true:∀ {l:List Int},l.Pairwise (· < ·)→risB l=true
 | [],_=>rfl
 | [_],_=>rfl
 | x::y::r,h=>by
  obtain ⟨h1,h2⟩:=List.pairwise_cons.mp h
  show (decide (x < y)&&risB (y::r))=true
  rw [ris_true h2,decide_eq_true (h1 y List.mem_cons_self)];rfl
theorem f_rising {b:Bool}{l:List Int} (hl:l.length≤100):F_rising [iS b l]=some (.bl (risB l)):=by
 refine runF_rt rfl ?_
 show B_rising [some (iS b l,.sh [])]=_
 unfold B_rising
 have v0:eVar 0 [some (iS b l,.sh [])]=some (iS b l,.sh []):=rfl
 have q1:e1 (oCutB (some 1) none) (eVar 0) [some (iS b l,.sh [])]=some (iS b (l.drop 1),.own):=by
  rw [s_e1,v0,s_k1]
  cases b with
  | false=>
   show Option.map _ (if immAll (l.map D.int)=true then some (D.lst (cutD (l.map D.int) (some 1) none)) else none)=_
   rw [if_pos (imm_ints l),cut1,← List.map_drop];rfl
  | true=>
   show Option.map _ (if immAll (l.map D.int)=true then some (D.tup (cutD (l.map D.int) (some 1) none)) else none)=_
   rw [if_pos (imm_ints l),cut1,← List.map_drop];rfl
 have hz:iZipBF (eVar 0) (e1 (oCutB (some 1) none) (eVar 0)) [some (iS b l,.sh [])]=some (((l.zip (l.drop 1)).map fun p=>D.tup [.int p.1,.int p.2]),joinA [(iS b l,.sh []),(iS b (l.drop 1),.own)]):=by
  unfold iZipBF
  rw [v0,q1]
  cases b with
  | false=>
   show (if (immAll (l.map D.int)&&immAll ((l.drop 1).map D.int))=true then some (((l.map D.int).zip ((l.drop 1).map D.int)).map fun p=>D.tup [p.1,p.2],joinA [(iL l,.sh []),(iL (l.drop 1),.own)]) else none)=_
   rw [if_pos (by rw [imm_ints,imm_ints];rfl),List.zip_map,List.map_map]
   rfl
  | true=>
   show (if (immAll (l.map D.int)&&immAll ((l.drop 1).map D.int))=true then some (((l.map D.int).zip ((l.drop 1).map D.int)).map fun p=>D.tup [p.1,p.2],joinA [(iS true l,.sh []),(iS true (l.drop 1),.own)]) else none)=_
   rw [if_pos (by rw [imm_ints,imm_ints];rfl),List.zip_map,List.map_map]
   rfl
 have st:∀ a b:Int,compE g2 tTrue (e2 oLt (eVar 0) (eVar 1)) [none,none] (.tup [.int a,.int b])=some (some (.bl (decide (a < b)))):=fun a b=>by
  refine compE_own (ρ1:=[some (.int a,.own),some (.int b,.own)]) rfl rfl ?_
  show k2 oLt (some (.int a,.own)) (some (.int b,.own))=_
  rw [s_k2,s_oLt];rfl
 have hc:=comp_ok (js:=[none,none]) (g:=g2) (tt:=tTrue) (te:=e2 oLt (eVar 0) (eVar 1)) (k:=fun d=>match d with | .tup [.int a,.int b]=>some (.bl (decide (a < b))) | _=>none) hz (by rw [List.length_map,List.length_zip];exact size_le (by omega)) (fun d m=>by
  obtain ⟨⟨a,b⟩,mi,rfl⟩:=List.mem_map.mp m
  exact st a b)
 rw [s_ret,s_e1,hc,s_k1,List.filterMap_map]
 have e:(l.zip (l.drop 1)).filterMap ((fun d=>match d with | .tup [.int a,.int b]=>some (.bl (decide (a < b))) | _=>none) ∘ fun p:Int×Int=>D.tup [.int p.1,.int p.2])=((l.zip (l.drop 1)).map fun p=>decide (p.1 < p.2)).map D.bl:=by
  rw [List.map_map]
  exact fm_some (fun p:Int×Int=>D.bl (decide (p.1 < p.2))) _
 rw [e,s_all,ris_zip];rfl
theorem for_nx0' {g:GF}{f:SF}{it:IF}{ds:List D}{ρ ρ':Rho} (hi:it ρ=some (ds,.sh [])) (h:loopF g (.sh []) f ds ρ=some (.nx ρ')):sFor it g f ρ=some (.nx ρ'):=for_nx hi h
theorem for_rt0' {g:GF}{f:SF}{it:IF}{ds:List D}{ρ:Rho}{r:D} (hi:it ρ=some (ds,.sh [])) (h:loopF g (.sh []) f ds ρ=some (.rt r)):sFor it g f ρ=some (.rt r):=for_rt hi h
def inR (v a b:Int):Bool:=decide (a≤v)&&decide (v≤b)
def okE (p:Ed):Bool:=inR p.1 0 999&&inR p.2.1 0 1000000000&&inR p.2.2 0 1000000000&&!(p.2.1 == p.2.2)
def edsB (E:List Ed):Bool:=E.all okE&&risB (E.map (·.1))
abbrev gE:GF:=gT (gsCons (gN 1) (gsCons (gN 2) (gsCons (gN 3) gsNil)))
def bE:SF:=(sSeq (sIf (tNot1 (tAnd2 (tV (eCall F_within (aCons (eVar 1) (aCons (eC (.int 0)) (aCons (eC (.int 999)) aNil))))) (tV (eCall F_within (aCons (eVar 2) (aCons (eC (.int 0)) (aCons (eC (.int 1000000000)) aNil))))))) (sRet (eC (.bl false))) sNx) (sIf (tOr2 (tNot1 (tV (eCall F_within (aCons (eVar 3) (aCons (eC (.int 0)) (aCons (eC (.int 1000000000)) aNil)))))) (tV (e2 oEq (eVar 2) (eVar 3)))) (sRet (eC (.bl false))) sNx))
theorem v_with {ρ:Rho}{i:Nat}{v a b:Int}{t:Tag} (h:eVar i ρ=some (.int v,t)):tV (eCall F_within (aCons (eVar i) (aCons (eC (.int a)) (aCons (eC (.int b)) aNil)))) ρ=some (inR v a b):=by
 rw [s_tV,s_call,s_aCons,s_aCons,s_aCons,h,s_eC,s_eC,s_aNil,s_consK,s_consK,s_consK,s_bind]
 simp only [List.map_cons,List.map_nil]
 rw [f_within];rfl
def rE (L:D) (a b c:Int):Rho:=[some (L,.sh []),some (.int a,.own),some (.int b,.own),some (.int c,.own)]
theorem b_E {L:D}{a b c:Int}:bE (rE L a b c)=some (if okE (a,b,c)=true then .nx (rE L a b c) else .rt (.bl false)):=by
 have w1:tV (eCall F_within (aCons (eVar 1) (aCons (eC (.int 0)) (aCons (eC (.int 999)) aNil)))) (rE L a b c)=some (inR a 0 999):=v_with (t:=.sh [1]) rfl
 have w2:tV (eCall F_within (aCons (eVar 2) (aCons (eC (.int 0)) (aCons (eC (.int 1000000000)) aNil)))) (rE L a b c)=some (inR b 0 1000000000):=v_with (t:=.sh [2]) rfl
 have w3:tV (eCall F_within (aCons (eVar 3) (aCons (eC (.int 0)) (aCons (eC (.int 1000000000)) aNil)))) (rE L a b c)=some (inR c 0 1000000000):=v_with (t:=.sh [3]) rfl
 have w4:tV (e2 oEq (eVar 2) (eVar 3)) (rE L a b c)=some (b == c):=rfl
 have c1:=s_and2 w1 w2
 have c2:=s_or2 (show tNot1 (tV (eCall F_within (aCons (eVar 3) (aCons (eC (.int 0)) (aCons (eC (.int 1000000000)) aNil))))) (rE L a b c)=some (!inR c 0 1000000000) by rw [s_not,w3];rfl) w4
 unfold bE okE
 rw [s_seq,s_if,s_not,c1]
 cases inR a 0 999 <;> cases inR b 0 1000000000 <;> try rfl
 show seqK _ (sNx _)=_
 rw [s_nx,s_seqN,s_if,c2]
 cases inR c 0 1000000000 <;> cases (b == c) <;> rfl
theorem loop_E {L:D}:∀ {E:List Ed}{s1 s2 s3:Slot},∃ s1' s2' s3',loopF gE (.sh []) bE (E.map dT) [some (L,.sh []),s1,s2,s3]=some (if E.all okE=true then .nx [some (L,.sh []),s1',s2',s3'] else .rt (.bl false))
 | [],s1,s2,s3=>⟨s1,s2,s3,rfl⟩
 | (a,b,c)::E,s1,s2,s3=>by
  obtain ⟨t1,t2,t3,ih⟩:=loop_E (L:=L) (E:=E) (s1:=some (.int a,.own)) (s2:=some (.int b,.own)) (s3:=some (.int c,.own))
  refine ⟨t1,t2,t3,?_⟩
  rw [List.map_cons]
  show (match bE (rE L a b c) with | some (.nx ρ2)=>loopF gE (.sh []) bE (E.map dT) ρ2 | some (.ct ρ2)=>loopF gE (.sh []) bE (E.map dT) ρ2 | some (.bk ρ2)=>some (.nx ρ2) | some (.rt r)=>some (.rt r) | some (.er raw cn ρ2)=>some (.er raw cn ρ2) | none=>none)=_
  rw [b_E,List.all_cons]
  cases okE (a,b,c) with
  | true=>rw [if_pos rfl,Bool.true_and];exact ih
  | false=>rfl
theorem f_are {s:Bool}{E:List Ed} (hl:E.length≤100):F_are_edits [eS s E]=some (.bl (edsB E)):=by
 refine runF_rt rfl ?_
 show B_are_edits [some (eS s E,.sh []),none,none,none]=_
 have e:B_are_edits=sSeq (sFor (iSeqF (eVar 0)) gE bE) (sRet (eCall F_rising (aCons (eComp [none] (iSeqF (eVar 0)) (gN 0) tTrue (e2 oIx (eVar 0) (eC (.int 0)))) aNil))):=rfl
 have hi:∀ s1 s2 s3,iSeqF (eVar 0) [some (eS s E,.sh []),s1,s2,s3]=some (E.map dT,.sh []):=fun _ _ _=>iseqS rfl
 obtain ⟨t1,t2,t3,hlp⟩:=loop_E (L:=eS s E) (E:=E) (s1:=none) (s2:=none) (s3:=none)
 rw [e,s_seq]
 unfold edsB
 cases ha:E.all okE with
 | false=>
  rw [ha] at hlp
  rw [for_rt0' (hi _ _ _) hlp];rfl
 | true=>
  rw [ha] at hlp
  rw [for_nx0' (hi _ _ _) hlp,s_seqN,s_ret]
  have hc:=comp_ok (js:=[none]) (g:=gN 0) (tt:=tTrue) (te:=e2 oIx (eVar 0) (eC (.int 0))) (k:=fun d=>match d with | .tup [.int a,.int _,.int _]=>some (.int a) | _=>none) (hi t1 t2 t3) (by rw [List.length_map];exact size_le (by omega)) (fun d m=>by
   obtain ⟨⟨a,b,c⟩,mi,rfl⟩:=List.mem_map.mp m
   exact compE_own (ρ1:=[some (dT (a,b,c),.sh [])]) rfl rfl rfl)
  have e2:(E.map dT).filterMap (fun d=>match d with | .tup [.int a,.int _,.int _]=>some (.int a) | _=>none)=(E.map (·.1)).map D.int:=by
   rw [List.filterMap_map,List.map_map]
   exact fm_some (fun p:Ed=>D.int p.1) _
  rw [s_call,s_aCons,hc,e2,s_aNil,s_consK,s_bind]
  simp only [List.map_cons,List.map_nil]
  have:=f_rising (b:=false) (l:=E.map (·.1)) (by rw [List.length_map];exact hl)
  unfold iS sq at this
  dsimp only at this
  rw [List.map_map] at this ⊢
  rw [this];rfl
abbrev Ch:=Int×List Int×List Ed
def ent (c:Ch):D:=.tup [.int c.1,.tup (c.2.1.map D.int),.tup (c.2.2.map dT)]
def obj (C:List Ch):D:=.ins "Changes" [("entries",.lst (C.map ent))]
theorem imm_ent (c:Ch):imm (ent c)=true:=by
 unfold ent
 show immAll [.int c.1,.tup (c.2.1.map D.int),.tup (c.2.2.map dT)]=true
 unfold immAll;unfold immAll;unfold immAll;unfold immAll
 show (imm (.int c.1)&&(immAll (c.2.1.map D.int)&&(immAll (c.2.2.map dT)&&true)))=true
 rw [imm_ints,imm_eds];rfl
theorem imm_ents:∀ C:List Ch,immAll (C.map ent)=true
 | []=>rfl
 | c::r=>by rw [List.map_cons];unfold immAll;rw [imm_ents r,imm_ent];rfl
theorem s_meth {ρ:Rho}{cn m:Str}{F:List D→Option D}{fo:EF}{g:AF}{es:List (Str×D)}{t:Tag}{ps:List (D×Tag)}{d:D} (h:fo ρ=some (.ins cn es,t)) (hm:es.lookup m=none) (hg:g ρ=some ps) (hF:F (.ins cn es::ps.map (·.1))=some d) :
  eMeth cn m F fo g ρ=some (d,.own):=by
 unfold eMeth
 rw [h]
 dsimp only
 rw [if_pos ⟨rfl,hm⟩,hg,Option.bind_some,hF];rfl
theorem lk_none {mm:Str}{d:D} (h:(mm == ("entries":Str))=false):([("entries",d)]:List (Str×D)).lookup mm=none:=by simp only [List.lookup,h]
theorem f_many (C:List Ch):F_Changes_many [obj C]=some (.int C.length):=by
 refine runF_rt rfl ?_
 show B_Changes_many [some (obj C,.sh [])]=_
 have v:eFld "Changes" "entries" (eVar 0) [some (obj C,.sh [])]=some (.lst (C.map ent),.sh []):=rfl
 unfold B_Changes_many
 rw [s_ret,s_e1,v,s_k1,s_lenL,List.length_map];rfl
theorem m_many {C:List Ch}{ρ:Rho}{t:Tag}{i:Nat} (h:eVar i ρ=some (obj C,t)):eMeth "Changes" "many" F_Changes_many (eVar i) aNil ρ=some (.int C.length,.own):=
 s_meth h (lk_none (by decide)) s_aNil (f_many C)
theorem m_one {C:List Ch}{ρ:Rho}{t t2:Tag}{i:Nat}{mm:Str}{F:List D→Option D}{fa:EF}{x d:D} (h:eVar i ρ=some (obj C,t)) (ha:fa ρ=some (x,t2)) (hF:F [obj C,x]=some d) (hm:(mm == ("entries":Str))=false:=by decide) :
  eMeth "Changes" mm F (eVar i) (aCons fa aNil) ρ=some (d,.own):=
 s_meth (ps:=[(x,t2)]) h (lk_none hm) (by rw [s_aCons,ha,s_aNil,s_consK]) hF
theorem f_has (C:List Ch) (m:Int):F_Changes_has [obj C,.int m]=some (.bl (inR m 1 C.length)):=by
 refine runF_rt rfl ?_
 show B_Changes_has [some (obj C,.sh []),some (.int m,.sh [])]=_
 unfold B_Changes_has
 have v1:eVar 1 [some (obj C,.sh []),some (.int m,.sh [])]=some (.int m,.sh []):=rfl
 rw [s_ret,s_call,s_aCons,s_aCons,s_aCons,v1,s_eC,m_many (C:=C) rfl,s_aNil,s_consK,s_consK,s_consK,s_bind]
 simp only [List.map_cons,List.map_nil]
 rw [f_within];rfl
def mkB (n:Nat) (r:Int) (l:List Int) (E:List Ed):Bool:=inR r 0 9&&(l.all (fun x=>inR x 1 n)&&risB l)&&(decide ((E.length:Int)≤20)&&edsB E)
theorem f_makes {C:List Ch}{r:Int}{l:List Int}{E:List Ed}{s s2:Bool} (hl:l.length≤100) (hE:E.length≤100):F_Changes_makes_change [obj C,.int r,iS s l,eS s2 E]=some (.bl (mkB C.length r l E)):=by
 refine runF_rt rfl ?_
 generalize hρ:([some (obj C,.sh []),some (.int r,.sh []),some (iS s l,.sh []),some (eS s2 E,.sh [])]:Rho)=ρ
 show B_Changes_makes_change [some (obj C,.sh []),some (.int r,.sh []),some (iS s l,.sh []),some (eS s2 E,.sh [])]=_
 rw [hρ]
 have v0:eVar 0 ρ=some (obj C,.sh []):=by rw [← hρ];rfl
 have v1:eVar 1 ρ=some (.int r,.sh []):=by rw [← hρ];rfl
 have v2:eVar 2 ρ=some (iS s l,.sh []):=by rw [← hρ];rfl
 have v3:eVar 3 ρ=some (eS s2 E,.sh []):=by rw [← hρ];rfl
 have q1:tNot1 (tV (eCall F_within (aCons (eVar 1) (aCons (eC (.int 0)) (aCons (eC (.int 9)) aNil))))) ρ=some (!inR r 0 9):=by rw [s_not,v_with v1];rfl
 have hc:=comp_ok (js:=[none,some 0]) (g:=gN 0) (tt:=tTrue) (te:=eMeth "Changes" "has" F_Changes_has (eVar 1) (aCons (eVar 0) aNil)) (k:=fun d=>match d with | .int x=>some (.bl (inR x 1 C.length)) | _=>none) (it:=iSeqF (eVar 2)) (ρ:=ρ) (iseqS v2) (by rw [List.length_map];exact size_le (by omega)) (fun d m=>by
  obtain ⟨x,mx,rfl⟩:=List.mem_map.mp m
  refine compE_own (ρ1:=[some (.int x,.sh []),some (obj C,.sh [])]) ?_ rfl (m_one (C:=C) (t:=.sh []) (t2:=.sh []) rfl rfl (f_has C x))
  rw [← hρ];rfl)
 have q2:tOr2 (tNot1 (tV (e1 oAll (eComp [none,some 0] (iSeqF (eVar 2)) (gN 0) tTrue (eMeth "Changes" "has" F_Changes_has (eVar 1) (aCons (eVar 0) aNil)))))) (tNot1 (tV (eCall F_rising (aCons (eVar 2) aNil)))) ρ=some ((!(l.all fun x=>inR x 1 C.length))||!risB l):=by
  refine s_or2 ?_ ?_
  ·have e:(l.map D.int).filterMap (fun d=>match d with | .int x=>some (D.bl (inR x 1 C.length)) | _=>none)=(l.map fun x=>inR x 1 C.length).map D.bl:=by
    rw [List.filterMap_map,List.map_map]
    exact fm_some (fun x=>D.bl (inR x 1 C.length)) _
   rw [s_not,s_tV,s_e1,hc,s_k1,e,s_all,List.all_map];rfl
  ·rw [s_not,s_tV,s_call,s_aCons,v2,s_aNil,s_consK,s_bind]
   simp only [List.map_cons,List.map_nil]
   rw [f_rising hl];rfl
 have q3:e2 oLe (e1 oLen (eVar 3)) (eC (.int 20)) ρ=some (.bl (decide ((E.length:Int)≤20)),.own):=by
  rw [s_e2,s_e1,v3,s_eC,s_k1]
  unfold eS
  rw [lenS,List.length_map];rfl
 have q4:eCall F_are_edits (aCons (eVar 3) aNil) ρ=some (.bl (edsB E),.own):=by
  rw [s_call,s_aCons,v3,s_aNil,s_consK,s_bind]
  simp only [List.map_cons,List.map_nil]
  rw [f_are hE];rfl
 unfold B_Changes_makes_change mkB
 rw [s_seq,s_if,q1]
 cases inR r 0 9 with
 | false=>rfl
 | true=>
  show seqK _ (sNx _)=_
  rw [s_nx,s_seqN,s_seq,s_if,q2]
  generalize (l.all fun x=>inR x 1 C.length)=b1
  generalize risB l=b2
  cases b1 <;> cases b2 <;> try rfl
  show seqK _ (sNx _)=_
  rw [s_nx,s_seqN,s_ret,s_eAnd,q3]
  cases decide ((E.length:Int)≤20) with
  | false=>rfl
  | true=>rw [s_eAndT,q4];rfl
theorem s_fldApp {i:Nat}{cn f:Str}{fv:EF}{ρ:Rho}{d:D}{t:Tag}{es:List (Str×D)}{ds:List D} (h1:fv ρ=some (d,t)) (h2:ρ[i]? = some (some (.ins cn es,.own))) (hl:es.lookup f=some (.lst ds)) (hc:(imm d&&immAll ds&&decide (ds.length < sizeLine))=true) :
  sFldApp i cn f fv ρ=some (.nx (mutS ρ i (.ins cn (putFD f (.lst (ds++[d])) es)))):=by
 unfold sFldApp
 rw [h1,h2]
 dsimp only
 rw [if_pos rfl,hl]
 dsimp only
 rw [if_pos hc]
theorem s_noRt {f:SF}{ρ ρ':Rho} (h:f ρ=some (.nx ρ')):noRt f ρ=some (.nx ρ'):=by unfold noRt;rw [h]
theorem runM_rt {n N:Nat}{b:SF}{d0 r d1:D}{ds:List D} (hl:ds.length + 1=n) (h:b (iniM N d0 ds)=some (.rt (.tup [r,d1]))):runM n N b d0 ds=some (r,d1):=by unfold runM;rw [if_pos hl,h]
theorem m_makes {C:List Ch}{r:Int}{l:List Int}{E:List Ed}{s s2:Bool}{ρ:Rho}{t:Tag} (hl:l.length≤100) (hE:E.length≤100) (v0:eVar 0 ρ=some (obj C,t)) (v1:eVar 1 ρ=some (.int r,.sh [])) (v2:eVar 2 ρ=some (iS s l,.sh [])) (v3:eVar 3 ρ=some (eS s2 E,.sh [])) :
  tNot1 (tV (eMeth "Changes" "makes_change" F_Changes_makes_change (eVar 0) (aCons (eVar 1) (aCons (eVar 2) (aCons (eVar 3) aNil))))) ρ=some (!mkB C.length r l E):=by
 rw [s_not,s_tV,s_meth (ps:=[(.int r,.sh []),(iS s l,.sh []),(eS s2 E,.sh [])]) v0 (lk_none (by decide)) (by rw [s_aCons,s_aCons,s_aCons,v1,v2,v3,s_aNil,s_consK,s_consK,s_consK]) (f_makes hl hE)];rfl
theorem tups_E {E:List Ed}{s2:Bool}{ρ:Rho} (hE:E.length≤100) (v3:eVar 3 ρ=some (eS s2 E,.sh [])):e1 oTuple (eComp [none] (iSeqF (eVar 3)) (gN 0) tTrue (e1 oTuple (eVar 0))) ρ=some (.tup (E.map dT),.own):=by
 have hc:=comp_ok (js:=[none]) (g:=gN 0) (tt:=tTrue) (te:=e1 oTuple (eVar 0)) (k:=fun d=>some d) (it:=iSeqF (eVar 3)) (ρ:=ρ) (iseqS v3) (by rw [List.length_map];exact size_le (by omega)) (fun d m=>by
  obtain ⟨⟨a,b,c⟩,mx,rfl⟩:=List.mem_map.mp m
  exact compE_own (ρ1:=[some (dT (a,b,c),.sh [])]) rfl rfl rfl)
 have e:(E.map dT).filterMap (fun d=>some d)=E.map dT:=by rw [fm_some (fun d:D=>d)];exact List.map_id' _
 rw [s_e1,hc,e,s_k1]
 show Option.map _ (if immAll (E.map dT)=true then some (D.tup (E.map dT)) else none)=_
 rw [if_pos (imm_eds E)];rfl
theorem tupS {b:Bool}{l:List Int}:oTuple (iS b l)=some (.tup (l.map D.int)):=by
 cases b with
 | false=>exact s_tupI
 | true=>
  show (if immAll (l.map D.int)=true then some (D.tup (l.map D.int)) else none)=_
  rw [if_pos (imm_ints l)]
theorem f_added {C:List Ch}{r:Int}{l:List Int}{E:List Ed}{s s2:Bool} (hl:l.length≤100) (hE:E.length≤100) (hm:mkB C.length r l E=true) (hC:C.length < 60):F_Changes_added (obj C) [.int r,iS s l,eS s2 E]=some (.int (C.length + 1),obj (C++[(r,l,E)])):=by
 have e:B_Changes_added [some (obj C,.own),some (.int r,.sh []),some (iS s l,.sh []),some (eS s2 E,.sh [])]=some (.rt (.tup [.int (C.length + 1),obj (C++[(r,l,E)])])):=by
  unfold B_Changes_added
  have q1:tNot1 (tV (eMeth "Changes" "makes_change" F_Changes_makes_change (eVar 0) (aCons (eVar 1) (aCons (eVar 2) (aCons (eVar 3) aNil))))) [some (obj C,.own),some (.int r,.sh []),some (iS s l,.sh []),some (eS s2 E,.sh [])]=some false:=by
   rw [m_makes (C:=C) (t:=.sh [0]) hl hE rfl rfl rfl rfl,hm];rfl
  have q2:tV (e2 oGe (eMeth "Changes" "many" F_Changes_many (eVar 0) aNil) (eC (.int 60))) [some (obj C,.own),some (.int r,.sh []),some (iS s l,.sh []),some (eS s2 E,.sh [])]=some false:=by
   rw [s_tV,s_e2,m_many (C:=C) (t:=.sh [0]) rfl,s_eC,s_k2,s_oGe,decide_eq_false (by omega)];rfl
  have hv:∃ t,eTup (aCons (eVar 1) (aCons (e1 oTuple (eVar 2)) (aCons (e1 oTuple (eComp [none] (iSeqF (eVar 3)) (gN 0) tTrue (e1 oTuple (eVar 0)))) aNil))) [some (obj C,.own),some (.int r,.sh []),some (iS s l,.sh []),some (eS s2 E,.sh [])]=some (ent (r,l,E),t):=by
   have v2:eVar 2 [some (obj C,.own),some (.int r,.sh []),some (iS s l,.sh []),some (eS s2 E,.sh [])]=some (iS s l,.sh []):=rfl
   have v1:eVar 1 [some (obj C,.own),some (.int r,.sh []),some (iS s l,.sh []),some (eS s2 E,.sh [])]=some (.int r,.sh []):=rfl
   rw [s_tup,s_aCons,s_aCons,s_aCons,tups_E hE rfl,s_aNil,s_e1,v2,v1,s_k1,tupS]
   exact ⟨_,rfl⟩
  obtain ⟨t,hv⟩:=hv
  have q3:noRt (sFldApp 0 "Changes" "entries" (eTup (aCons (eVar 1) (aCons (e1 oTuple (eVar 2)) (aCons (e1 oTuple (eComp [none] (iSeqF (eVar 3)) (gN 0) tTrue (e1 oTuple (eVar 0)))) aNil))))) [some (obj C,.own),some (.int r,.sh []),some (iS s l,.sh []),some (eS s2 E,.sh [])]=some (.nx [some (obj (C++[(r,l,E)]),.own),some (.int r,.sh []),some (iS s l,.sh []),some (eS s2 E,.sh [])]):=by
   refine (s_noRt (s_fldApp (es:=[("entries",.lst (C.map ent))]) (ds:=C.map ent) hv rfl rfl (by rw [imm_ent,imm_ents,decide_eq_true (by rw [List.length_map];exact size_le (by omega))];rfl))).trans ?_
   have:obj (C++[(r,l,E)])=.ins "Changes" (putFD "entries" (.lst (C.map ent++[ent (r,l,E)])) [("entries",.lst (C.map ent))]):=by
    unfold obj putFD
    rw [if_pos rfl,List.map_append];rfl
   rw [this];rfl
  rw [s_seq,s_if,q1,s_ifF,s_nx,s_seqN,s_seq,s_if,q2,s_ifF,s_nx,s_seqN,s_seq,q3,s_seqN]
  unfold sRetM
  rw [m_many (C:=C++[(r,l,E)]) (t:=.sh [0]) rfl]
  rw [List.length_append]
  rfl
 exact runM_rt rfl e
theorem small_of_le {i:Int} (h1:-1000≤i) (h2:i≤1000):small i=true:=by
 unfold small
 rw [decide_eq_true (show -(2 ^ 62)≤i by omega),decide_eq_true (show i < 2 ^ 62 by omega)];rfl
def rng (a:Int) (n:Nat):List Int:=(List.range n).map fun i:Nat=>a + (i:Int)
theorem mem_rng {a x:Int}{n:Nat}:x∈rng a n↔a≤x∧x < a + n:=by
 unfold rng
 rw [List.mem_map]
 constructor
 ·rintro ⟨i,m,rfl⟩
  have:=List.mem_range.mp m
  omega
 ·intro h
  exact ⟨(x - a).toNat,List.mem_range.mpr (by omega),by omega⟩
theorem rng_inc (a:Int) (n:Nat):(rng a n).Pairwise (· < ·):=by
 unfold rng
 rw [List.pairwise_map]
 exact List.pairwise_lt_range.imp (fun h=>by omega)
theorem ir2 {f g:EF}{ρ:Rho}{i j:Int}{t t2:Tag} (h:f ρ=some (.int i,t)) (h2:g ρ=some (.int j,t2)) (hi:small i=true) (hj:small j=true):iR2 f g ρ=some ((rng i (j - i).toNat).map D.int,.own):=by
 unfold iR2
 rw [h,h2]
 dsimp only
 rw [if_pos (by rw [hi,hj];rfl)]
 unfold rng
 rw [List.map_map];rfl
theorem fm_if (p:Int→Bool) (f:Int→Int):∀ l:List Int,l.filterMap (fun x=>if p x=true then some (D.int (f x)) else none)=((l.filter p).map f).map D.int
 | []=>rfl
 | a::r=>by
  rw [List.filterMap_cons]
  by_cases hp:p a=true
  ·rw [List.filter_cons_of_pos hp,if_pos hp,fm_if p f r];rfl
  ·rw [List.filter_cons_of_neg hp,if_neg hp,fm_if p f r]
theorem c_ints {js:List (Option Nat)}{it:IF}{g:GF}{tt:TF}{te:EF}{ρ:Rho}{t:Tag}{l:List Int}{p:Int→Bool}{f:Int→Int} (hi:it ρ=some (l.map D.int,t)) (hl:l.length≤10000) (h:∀ x∈l,compE g tt te (iniR js ρ) (.int x)=some (if p x=true then some (.int (f x)) else none)) :
  eComp js it g tt te ρ=some (iL ((l.filter p).map f),.own):=by
 have hc:=comp_ok (js:=js) (g:=g) (tt:=tt) (te:=te) (k:=fun d=>match d with | .int x=>if p x=true then some (.int (f x)) else none | _=>none) hi (by rw [List.length_map];exact size_le hl) (fun d m=>by
  obtain ⟨x,mx,rfl⟩:=List.mem_map.mp m
  exact h x mx)
 rw [hc]
 congr 3
 clear hc h hi hl
 rw [List.filterMap_map]
 exact fm_if p f l
theorem dr {ns:List Int}{j p m:Int}{ρ:Rho}{fs fk fm:EF}{t t' ts:Tag} (h0:fs ρ=some (dI ns,ts)) (h:fk ρ=some (.int j,t)) (h2:fm ρ=some (.int m,t')) (hj:-(2 ^ 64) < j∧j < 2 ^ 64) (hp:0 < p) (hm:0 < m) :
  eCall F_L_draw (aCons fs (aCons fk (aCons (eC (.int p)) (aCons fm aNil)))) ρ=some (.int (draw ns j p m),.own):=by
 rw [s_call,s_aCons,s_aCons,s_aCons,s_aCons,h0,h,h2,s_eC,s_aNil,s_consK,s_consK,s_consK,s_consK,s_bind]
 simp only [List.map_cons,List.map_nil]
 rw [f_draw hj hp hm];rfl
structure GoodL (l:List Int) (n:Nat):Prop where
 inc:l.Pairwise (· < ·)
 bd:∀ x∈l,1≤x∧x≤n
 few:l.length≤n
theorem f_leans_of {ns:List Int}{k:Int}{n:Nat} (hk:0≤k∧k≤100) (hn:n≤60):∃ l,F_L_leans_of [dI ns,.int k,.int n]=some (iL l)∧GoodL l n:=by
 have hd:=draw_lt (ns:=ns) (k:=60) (p:=10211) (m:=6) (by omega)
 generalize hP:(2 + draw ns 60 10211 6:Int)=P
 refine ⟨(rng 1 n).filter fun x=>draw ns (k + 3 * x) 10223 P == 0,runF_rt rfl ?_,(rng_inc 1 n).filter _,fun x m=>?_,?_⟩
 ·show B_L_leans_of [some (dI ns,.sh []),some (.int k,.sh []),some (.int n,.sh []),none]=_
  have g1:sSet 3 (e2 oAdd (eC (.int 2)) (eCall F_L_draw (aCons (eVar 0) (aCons (eC (.int 60)) (aCons (eC (.int 10211)) (aCons (eC (.int 6)) aNil)))))) [some (dI ns,.sh []),some (.int k,.sh []),some (.int n,.sh []),none]=some (.nx [some (dI ns,.sh []),some (.int k,.sh []),some (.int n,.sh []),some (.int P,.own)]):=by
   rw [s_set,s_e2,dr (ns:=ns) (j:=60) (m:=6) (t:=.own) (t':=.own) (ts:=.sh []) rfl rfl rfl (by omega) (by omega) (by omega),← hP];rfl
  have hi:iR2 (eC (.int 1)) (e2 oAdd (eVar 2) (eC (.int 1))) [some (dI ns,.sh []),some (.int k,.sh []),some (.int n,.sh []),some (.int P,.own)]=some ((rng 1 n).map D.int,.own):=by
   have w:e2 oAdd (eVar 2) (eC (.int 1)) [some (dI ns,.sh []),some (.int k,.sh []),some (.int n,.sh []),some (.int P,.own)]=some (.int ((n:Int) + 1),.own):=rfl
   rw [ir2 (i:=1) (j:=(n:Int) + 1) (t:=.own) rfl w (small_of_le (by omega) (by omega)) (small_of_le (by omega) (by omega))]
   rw [show ((n:Int) + 1 - 1).toNat=n by omega]
  have hc:=c_ints (js:=[none,some 0,some 1,some 3]) (g:=gN 0) (tt:=tV (e2 oEq (eCall F_L_draw (aCons (eVar 1) (aCons (e2 oAdd (eVar 2) (e2 oMul (eC (.int 3)) (eVar 0))) (aCons (eC (.int 10223)) (aCons (eVar 3) aNil))))) (eC (.int 0)))) (te:=eVar 0) (p:=fun x=>draw ns (k + 3 * x) 10223 P == 0) (f:=fun x=>x) hi (by unfold rng;rw [List.length_map,List.length_range];omega) (fun x m=>by
   have hx:=mem_rng.mp m
   have ht:tV (e2 oEq (eCall F_L_draw (aCons (eVar 1) (aCons (e2 oAdd (eVar 2) (e2 oMul (eC (.int 3)) (eVar 0))) (aCons (eC (.int 10223)) (aCons (eVar 3) aNil))))) (eC (.int 0))) [some (.int x,.sh []),some (dI ns,.sh []),some (.int k,.sh []),some (.int P,.sh [])]=some (draw ns (k + 3 * x) 10223 P == 0):=by
    have w:e2 oAdd (eVar 2) (e2 oMul (eC (.int 3)) (eVar 0)) [some (.int x,.sh []),some (dI ns,.sh []),some (.int k,.sh []),some (.int P,.sh [])]=some (.int (k + 3 * x),.own):=by
     have w0:eVar 0 [some (.int x,.sh []),some (dI ns,.sh []),some (.int k,.sh []),some (.int P,.sh [])]=some (.int x,.sh []):=rfl
     have w2:eVar 2 [some (.int x,.sh []),some (dI ns,.sh []),some (.int k,.sh []),some (.int P,.sh [])]=some (.int k,.sh []):=rfl
     rw [s_e2,s_e2,w0,w2,s_eC,s_k2,s_oMul (by unfold cMul;simp)];rfl
    rw [s_tV,s_e2,dr (ns:=ns) (j:=k + 3 * x) (m:=P) (t:=.own) (t':=.sh []) (ts:=.sh []) rfl w rfl (by omega) (by omega) (by omega)];rfl
   by_cases h:(draw ns (k + 3 * x) 10223 P == 0)=true
   ·rw [if_pos h]
    exact compE_imm (ρ1:=[some (.int x,.sh []),some (dI ns,.sh []),some (.int k,.sh []),some (.int P,.sh [])]) (tg:=.sh []) rfl (by rw [ht,h]) rfl rfl
   ·rw [if_neg h]
    exact compE_no (ρ1:=[some (.int x,.sh []),some (dI ns,.sh []),some (.int k,.sh []),some (.int P,.sh [])]) rfl (by rw [ht,Bool.eq_false_iff.mpr h]))
  unfold B_L_leans_of
  rw [s_seq,g1,s_seqN,s_ret,hc,List.map_id'];rfl
 ·have:=mem_rng.mp (List.mem_filter.mp m).1;omega
 ·refine Nat.le_trans (List.length_filter_le _ _) ?_
  unfold rng;rw [List.length_map,List.length_range];exact Nat.le_refl _
def k3 (p:Ed):Key×D:=(Sum.inl p.1,.tup [.int p.2.1,.int p.2.2])
def dN (es:List Ed):D:=.dic (es.map k3)
def put3 (es:List Ed) (q:Ed):List Ed:=if (es.any fun p=>decide (p.1=q.1))=true then es.map (fun p=>if p.1=q.1 then (p.1,q.2) else p) else es++[q]
theorem any_k3 {es:List Ed}{k:Int}:((es.map k3).any fun kv=>decide (kv.1=(Sum.inl k:Key)))=es.any fun p=>decide (p.1=k):=by
 rw [List.any_map]
 congr 1
 funext p
 exact decide_eq_decide.mpr inl_iff
theorem putD_3 (es:List Ed) (q:Ed):putD (es.map k3) (Sum.inl q.1:Key) (.tup [.int q.2.1,.int q.2.2])=(put3 es q).map k3:=by
 unfold putD put3
 rw [any_k3]
 by_cases h:(es.any fun p=>decide (p.1=q.1))=true
 ·rw [if_pos h,if_pos h,List.map_map,List.map_map]
  refine List.map_congr_left fun a _=>?_
  show (if (Sum.inl a.1:Key)=Sum.inl q.1 then ((Sum.inl a.1:Key),D.tup [.int q.2.1,.int q.2.2]) else k3 a)=k3 (if a.1=q.1 then (a.1,q.2) else a)
  by_cases e:a.1=q.1
  ·rw [if_pos e,if_pos (inl_iff.mpr e)];rfl
  ·rw [if_neg e,if_neg fun x=>e (inl_iff.mp x)]
 ·rw [if_neg h,if_neg h,List.map_append];rfl
theorem put3_mem {es:List Ed}{q p:Ed} (m:p∈put3 es q):p∈es∨p=q:=by
 unfold put3 at m
 split at m
 ·obtain ⟨a,ma,e⟩:=List.mem_map.mp m
  split at e
  ·rename_i h;right;rw [← e,h]
  ·left;rw [← e];exact ma
 ·rcases List.mem_append.mp m with h | h
  ·exact .inl h
  ·exact .inr (List.mem_singleton.mp h)
theorem put3_keys (es:List Ed) (q:Ed):(put3 es q).map (·.1)=if q.1∈es.map (·.1) then es.map (·.1) else es.map (·.1)++[q.1]:=by
 unfold put3
 by_cases h:(es.any fun p=>decide (p.1=q.1))=true
 ·have hm:q.1∈es.map (·.1):=by
   obtain ⟨p,m,hp⟩:=List.any_eq_true.mp h
   exact List.mem_map.mpr ⟨p,m,of_decide_eq_true hp⟩
  rw [if_pos h,if_pos hm,List.map_map]
  refine List.map_congr_left fun a _=>?_
  show (if a.1=q.1 then (a.1,q.2) else a).1=a.1
  split <;> rfl
 ·have hm:q.1∉es.map (·.1):=fun m=>by
   obtain ⟨p,mp,e⟩:=List.mem_map.mp m
   exact h (List.any_eq_true.mpr ⟨p,mp,decide_eq_true e⟩)
  rw [if_neg h,if_neg hm,List.map_append];rfl
structure Nw (es:List Ed) (n:Nat):Prop where
 nd:(es.map (·.1)).Nodup
 ln:es.length≤n
 ok:∀ p∈es,okE p=true
theorem Nw.put {es:List Ed}{n:Nat}{q:Ed} (h:Nw es n) (hq:okE q=true):Nw (put3 es q) (n + 1):=by
 refine ⟨?_,?_,fun p m=>?_⟩
 ·rw [put3_keys]
  by_cases hm:q.1∈es.map (·.1)
  ·rw [if_pos hm];exact h.nd
  ·rw [if_neg hm]
   exact List.nodup_append.mpr ⟨h.nd,List.nodup_cons.mpr ⟨(fun m=>by cases m),List.nodup_nil⟩,fun a ha b hb e=>hm (by cases List.mem_singleton.mp hb;exact e ▸ ha)⟩
 ·have:=congrArg List.length (put3_keys es q)
  have hl:=h.ln
  rw [List.length_map] at this
  rw [this]
  split
  ·rw [List.length_map];omega
  ·rw [List.length_append,List.length_map,List.length_singleton];omega
 ·rcases put3_mem m with m | rfl
  ·exact h.ok p m
  ·exact hq
theorem imm_k3:∀ es:List Ed,immAll ((es.map k3).map (·.2))=true
 | []=>rfl
 | p::r=>by rw [List.map_cons,List.map_cons];unfold immAll;rw [imm_k3 r];rfl
def rD (ns:List Int) (k m:Int) (es:List Ed) (s4 s5 s6 s7:Slot):Rho:=[some (dI ns,.sh []),some (.int k,.sh []),some (.int m,.own),some (dN es,.own),s4,s5,s6,s7]
def bD:SF:=(sSeq (sSet 5 (eCall F_L_draw (aCons (eVar 0) (aCons (e2 oAdd (eVar 1) (e2 oMul (eC (.int 5)) (eVar 4))) (aCons (eC (.int 10181)) (aCons (eC (.int 12)) aNil)))))) (sSeq (sIf (tV (e2 oEq (eCall F_L_draw (aCons (eVar 0) (aCons (eVar 1) (aCons (eC (.int 10193)) (aCons (eC (.int 2)) aNil))))) (eC (.int 0)))) (sSet 5 (eCall F_L_draw (aCons (eVar 0) (aCons (e2 oAdd (eVar 1) (e2 oMul (eC (.int 5)) (eVar 4))) (aCons (eC (.int 100003)) (aCons (eC (.int 1000)) aNil)))))) sNx) (sSeq (sSet 6 (e2 oMul (eCall F_L_draw (aCons (eVar 0) (aCons (e2 oAdd (eVar 1) (eVar 4)) (aCons (eC (.int 100019)) (aCons (eC (.int 3)) aNil))))) (eCall F_L_draw (aCons (eVar 0) (aCons (e2 oAdd (eVar 1) (eVar 4)) (aCons (eC (.int 1000003)) (aCons (eC (.int 333333334)) aNil))))))) (sSeq (sSet 7 (e2 oAdd (e2 oMul (eCall F_L_draw (aCons (eVar 0) (aCons (e2 oAdd (eVar 1) (e2 oMul (eC (.int 2)) (eVar 4))) (aCons (eC (.int 100043)) (aCons (eC (.int 4)) aNil))))) (eC (.int 333333333))) (eC (.int 1)))) (sSeq (sIf (tV (e2 oEq (eVar 6) (eVar 7))) (sSet 7 (e2 oSub (eVar 7) (eC (.int 1)))) sNx) (sDput 3 (eVar 5) (eTup (aCons (eVar 6) (aCons (eVar 7) aNil)))))))))
theorem cmul_r {i j:Int} (h:0≤j∧j < 1000000000):cMul i j=true:=by
 unfold cMul
 rw [decide_eq_true (show -(2 ^ 64) < j by omega),decide_eq_true (show j < 2 ^ 64 by omega)];simp
theorem step_D {ns:List Int}{k m:Int}{j:Nat}{es:List Ed}{s5 s6 s7:Slot} (hk:0≤k∧k≤100) (hj:j≤20) (hl:es.length≤100) :
  ∃ q s5' s6' s7',okE q=true∧bD (rD ns k m es (some (.int j,.sh [])) s5 s6 s7)=some (.nx (rD ns k m (put3 es q) (some (.int j,.sh [])) s5' s6' s7')):=by
 have w5:∀ s5 s6 s7,e2 oAdd (eVar 1) (e2 oMul (eC (.int 5)) (eVar 4)) (rD ns k m es (some (.int j,.sh [])) s5 s6 s7)=some (.int (k + 5 * j),.own):=fun s5 s6 s7=>by
  have v4:eVar 4 (rD ns k m es (some (.int j,.sh [])) s5 s6 s7)=some (.int j,.sh []):=rfl
  have v1:eVar 1 (rD ns k m es (some (.int j,.sh [])) s5 s6 s7)=some (.int k,.sh []):=rfl
  rw [s_e2,s_e2,v4,v1,s_eC,s_k2,s_oMul (by unfold cMul;simp)];rfl
 have w2:∀ s5 s6 s7,e2 oAdd (eVar 1) (e2 oMul (eC (.int 2)) (eVar 4)) (rD ns k m es (some (.int j,.sh [])) s5 s6 s7)=some (.int (k + 2 * j),.own):=fun s5 s6 s7=>by
  have v4:eVar 4 (rD ns k m es (some (.int j,.sh [])) s5 s6 s7)=some (.int j,.sh []):=rfl
  have v1:eVar 1 (rD ns k m es (some (.int j,.sh [])) s5 s6 s7)=some (.int k,.sh []):=rfl
  rw [s_e2,s_e2,v4,v1,s_eC,s_k2,s_oMul (by unfold cMul;simp)];rfl
 have w1:∀ s5 s6 s7,e2 oAdd (eVar 1) (eVar 4) (rD ns k m es (some (.int j,.sh [])) s5 s6 s7)=some (.int (k + j),.own):=fun s5 s6 s7=>rfl
 have d1:=draw_lt (ns:=ns) (k:=k + 5 * j) (p:=10181) (m:=12) (by omega)
 have d2:=draw_lt (ns:=ns) (k:=k + 5 * j) (p:=100003) (m:=1000) (by omega)
 have d3:=draw_lt (ns:=ns) (k:=k + j) (p:=100019) (m:=3) (by omega)
 have d4:=draw_lt (ns:=ns) (k:=k + j) (p:=1000003) (m:=333333334) (by omega)
 have d5:=draw_lt (ns:=ns) (k:=k + 2 * j) (p:=100043) (m:=4) (by omega)
 have g1:sSet 5 (eCall F_L_draw (aCons (eVar 0) (aCons (e2 oAdd (eVar 1) (e2 oMul (eC (.int 5)) (eVar 4))) (aCons (eC (.int 10181)) (aCons (eC (.int 12)) aNil))))) (rD ns k m es (some (.int j,.sh [])) s5 s6 s7)=some (.nx (rD ns k m es (some (.int j,.sh [])) (some (.int (draw ns (k + 5 * j) 10181 12),.own)) s6 s7)):=by
  rw [s_set,dr (ns:=ns) (j:=k + 5 * j) (m:=12) (t:=.own) (t':=.own) (ts:=.sh []) rfl (w5 _ _ _) rfl (by omega) (by omega) (by omega)];rfl
 have g2:∃ s:Int,0≤s∧s≤999∧sIf (tV (e2 oEq (eCall F_L_draw (aCons (eVar 0) (aCons (eVar 1) (aCons (eC (.int 10193)) (aCons (eC (.int 2)) aNil))))) (eC (.int 0)))) (sSet 5 (eCall F_L_draw (aCons (eVar 0) (aCons (e2 oAdd (eVar 1) (e2 oMul (eC (.int 5)) (eVar 4))) (aCons (eC (.int 100003)) (aCons (eC (.int 1000)) aNil)))))) sNx (rD ns k m es (some (.int j,.sh [])) (some (.int (draw ns (k + 5 * j) 10181 12),.own)) s6 s7)=some (.nx (rD ns k m es (some (.int j,.sh [])) (some (.int s,.own)) s6 s7)):=by
  have c:tV (e2 oEq (eCall F_L_draw (aCons (eVar 0) (aCons (eVar 1) (aCons (eC (.int 10193)) (aCons (eC (.int 2)) aNil))))) (eC (.int 0))) (rD ns k m es (some (.int j,.sh [])) (some (.int (draw ns (k + 5 * j) 10181 12),.own)) s6 s7)=some (draw ns k 10193 2 == 0):=by
   rw [s_tV,s_e2,dr (ns:=ns) (j:=k) (m:=2) (t:=.sh []) (t':=.own) (ts:=.sh []) rfl rfl rfl (by omega) (by omega) (by omega)];rfl
  rw [s_if,c]
  cases (draw ns k 10193 2 == 0) with
  | true=>
   refine ⟨draw ns (k + 5 * j) 100003 1000,by omega,by omega,?_⟩
   rw [s_ifT,s_set,dr (ns:=ns) (j:=k + 5 * j) (m:=1000) (t:=.own) (t':=.own) (ts:=.sh []) rfl (w5 _ _ _) rfl (by omega) (by omega) (by omega)];rfl
  | false=>exact ⟨draw ns (k + 5 * j) 10181 12,by omega,by omega,rfl⟩
 obtain ⟨s,hs1,hs2,g2⟩:=g2
 generalize hO:draw ns (k + j) 100019 3 * draw ns (k + j) 1000003 333333334=old
 have ho:0≤old∧old≤1000000000:=by
  obtain ⟨a,b⟩:=d3
  have:draw ns (k + j) 100019 3=0∨draw ns (k + j) 100019 3=1∨draw ns (k + j) 100019 3=2:=by omega
  rcases this with e | e | e <;> rw [e] at hO <;> omega
 generalize hN:draw ns (k + 2 * j) 100043 4 * 333333333 + 1=new
 have hn:1≤new∧new≤1000000000:=by omega
 have g3:sSet 6 (e2 oMul (eCall F_L_draw (aCons (eVar 0) (aCons (e2 oAdd (eVar 1) (eVar 4)) (aCons (eC (.int 100019)) (aCons (eC (.int 3)) aNil))))) (eCall F_L_draw (aCons (eVar 0) (aCons (e2 oAdd (eVar 1) (eVar 4)) (aCons (eC (.int 1000003)) (aCons (eC (.int 333333334)) aNil)))))) (rD ns k m es (some (.int j,.sh [])) (some (.int s,.own)) s6 s7)=some (.nx (rD ns k m es (some (.int j,.sh [])) (some (.int s,.own)) (some (.int old,.own)) s7)):=by
  rw [s_set,s_e2,dr (ns:=ns) (j:=k + j) (m:=3) (t:=.own) (t':=.own) (ts:=.sh []) rfl (w1 _ _ _) rfl (by omega) (by omega) (by omega),dr (ns:=ns) (j:=k + j) (m:=333333334) (t:=.own) (t':=.own) (ts:=.sh []) rfl (w1 _ _ _) rfl (by omega) (by omega) (by omega),s_k2,s_oMul (cmul_r (by omega)),hO];rfl
 have g4:sSet 7 (e2 oAdd (e2 oMul (eCall F_L_draw (aCons (eVar 0) (aCons (e2 oAdd (eVar 1) (e2 oMul (eC (.int 2)) (eVar 4))) (aCons (eC (.int 100043)) (aCons (eC (.int 4)) aNil))))) (eC (.int 333333333))) (eC (.int 1))) (rD ns k m es (some (.int j,.sh [])) (some (.int s,.own)) (some (.int old,.own)) s7)=some (.nx (rD ns k m es (some (.int j,.sh [])) (some (.int s,.own)) (some (.int old,.own)) (some (.int new,.own)))):=by
  rw [s_set,s_e2,s_e2,dr (ns:=ns) (j:=k + 2 * j) (m:=4) (t:=.own) (t':=.own) (ts:=.sh []) rfl (w2 _ _ _) rfl (by omega) (by omega) (by omega),s_eC,s_eC,s_k2,s_oMul (cmul_r (by omega)),← hN];rfl
 have g5:∃ c:Int,0≤c∧c≤1000000000∧c≠old∧sIf (tV (e2 oEq (eVar 6) (eVar 7))) (sSet 7 (e2 oSub (eVar 7) (eC (.int 1)))) sNx (rD ns k m es (some (.int j,.sh [])) (some (.int s,.own)) (some (.int old,.own)) (some (.int new,.own)))=some (.nx (rD ns k m es (some (.int j,.sh [])) (some (.int s,.own)) (some (.int old,.own)) (some (.int c,.own)))):=by
  have c:tV (e2 oEq (eVar 6) (eVar 7)) (rD ns k m es (some (.int j,.sh [])) (some (.int s,.own)) (some (.int old,.own)) (some (.int new,.own)))=some (old == new):=rfl
  rw [s_if,c]
  cases e:(old == new) with
  | true=>
   have:=beq_iff_eq.mp e
   exact ⟨new - 1,by omega,by omega,by omega,rfl⟩
  | false=>
   have:old≠new:=by simpa using e
   exact ⟨new,by omega,by omega,fun h=>this h.symm,rfl⟩
 obtain ⟨c,hc1,hc2,hc3,g5⟩:=g5
 refine ⟨(s,old,c),some (.int s,.own),some (.int old,.own),some (.int c,.own),?_,?_⟩
 ·unfold okE inR
  dsimp only
  rw [decide_eq_true hs1,decide_eq_true hs2,decide_eq_true ho.1,decide_eq_true ho.2,decide_eq_true hc1,decide_eq_true hc2,show (old == c)=false from by simpa using fun h=>hc3 h.symm];rfl
 ·have g6:sDput 3 (eVar 5) (eTup (aCons (eVar 6) (aCons (eVar 7) aNil))) (rD ns k m es (some (.int j,.sh [])) (some (.int s,.own)) (some (.int old,.own)) (some (.int c,.own)))=some (.nx (rD ns k m (put3 es (s,old,c)) (some (.int j,.sh [])) (some (.int s,.own)) (some (.int old,.own)) (some (.int c,.own)))):=by
   have v:∃ t,eTup (aCons (eVar 6) (aCons (eVar 7) aNil)) (rD ns k m es (some (.int j,.sh [])) (some (.int s,.own)) (some (.int old,.own)) (some (.int c,.own)))=some (.tup [.int old,.int c],t):=⟨_,rfl⟩
   obtain ⟨t,v⟩:=v
   have v3:(rD ns k m es (some (.int j,.sh [])) (some (.int s,.own)) (some (.int old,.own)) (some (.int c,.own)))[3]? = some (some (.dic (es.map k3),.own)):=rfl
   have v5:eVar 5 (rD ns k m es (some (.int j,.sh [])) (some (.int s,.own)) (some (.int old,.own)) (some (.int c,.own)))=some (.int s,.sh [5]):=rfl
   unfold sDput
   rw [v,v3,v5]
   dsimp only [keyD]
   rw [if_pos (by rw [imm_k3,List.length_map,decide_eq_true (size_le (by omega))];rfl),putD_3 es (s,old,c)]
   rfl
  unfold bD
  rw [s_seq,g1,s_seqN,s_seq,g2,s_seqN,s_seq,g3,s_seqN,s_seq,g4,s_seqN,s_seq,g5,s_seqN,g6]
structure GoodE (E:List Ed):Prop where
 inc:(E.map (·.1)).Pairwise (· < ·)
 ok:∀ p∈E,okE p=true
 few:E.length≤20
theorem GoodE.eds {E:List Ed} (h:GoodE E):edsB E=true:=by
 unfold edsB
 rw [ris_true h.inc,List.all_eq_true.mpr h.ok];rfl
def look (es:List Ed) (x:Int):Int×Int:=((es.find? fun p=>decide (p.1=x)).map (·.2)).getD (0,0)
theorem look_mem {es:List Ed}{x:Int} (h:x∈es.map (·.1)):(x,look es x)∈es∧valD (es.map k3) (Sum.inl x:Key)=some (.tup [.int (look es x).1,.int (look es x).2]):=by
 obtain ⟨p,mp,e⟩:=List.mem_map.mp h
 obtain ⟨q,hq⟩:∃ q,es.find? (fun p=>decide (p.1=x))=some q:=by
  cases hf:es.find? fun p=>decide (p.1=x) with
  | some q=>exact ⟨q,rfl⟩
  | none=>exact absurd (decide_eq_true e) (List.find?_eq_none.mp hf p mp)
 have e1:q.1=x:=of_decide_eq_true (List.find?_some hq :)
 have e2:look es x=q.2:=by unfold look;rw [hq];rfl
 refine ⟨?_,?_⟩
 ·rw [e2,← e1];exact List.mem_of_find?_eq_some hq
 ·rw [e2]
  clear h e mp e2
  unfold valD
  induction es with
  | nil=>cases hq
  | cons a r ih=>
   rw [List.find?_cons] at hq
   rw [List.map_cons,List.find?_cons]
   by_cases h:a.1=x
   ·rw [decide_eq_true h] at hq
    cases hq
    rw [decide_eq_true (show (k3 q).1=Sum.inl x from inl_iff.mpr h)];rfl
   ·rw [decide_eq_false h] at hq
    rw [decide_eq_false (show ¬(k3 a).1=Sum.inl x from fun e=>h (inl_iff.mp e))]
    exact ih hq
theorem keysI_3:∀ es:List Ed,keysI (es.map k3)=some (es.map (·.1))
 | []=>rfl
 | p::r=>by rw [List.map_cons];show (keysI (r.map k3)).map (p.1::·)=_;rw [keysI_3 r];rfl
theorem f_edits_of {ns:List Int}{k:Int} (hk:0≤k∧k≤100):∃ E,F_L_edits_of [dI ns,.int k]=some (eL E)∧GoodE E:=by
 have d1:=draw_lt (ns:=ns) (k:=k) (p:=10169) (m:=5) (by omega)
 have g1:sSet 2 (eCall F_L_draw (aCons (eVar 0) (aCons (eVar 1) (aCons (eC (.int 10169)) (aCons (eC (.int 5)) aNil))))) [some (dI ns,.sh []),some (.int k,.sh []),none,none,none,none,none,none]=some (.nx [some (dI ns,.sh []),some (.int k,.sh []),some (.int (draw ns k 10169 5),.own),none,none,none,none,none]):=by
  rw [s_set,dr (ns:=ns) (j:=k) (m:=5) (t:=.sh []) (t':=.own) (ts:=.sh []) rfl rfl rfl (by omega) (by omega) (by omega)];rfl
 have g2:∃ m:Nat,m≤20∧sIf (tV (e2 oEq (eCall F_L_draw (aCons (eVar 0) (aCons (eVar 1) (aCons (eC (.int 10177)) (aCons (eC (.int 9)) aNil))))) (eC (.int 0)))) (sSet 2 (eC (.int 20))) sNx [some (dI ns,.sh []),some (.int k,.sh []),some (.int (draw ns k 10169 5),.own),none,none,none,none,none]=some (.nx [some (dI ns,.sh []),some (.int k,.sh []),some (.int (m:Int),.own),none,none,none,none,none]):=by
  have c:tV (e2 oEq (eCall F_L_draw (aCons (eVar 0) (aCons (eVar 1) (aCons (eC (.int 10177)) (aCons (eC (.int 9)) aNil))))) (eC (.int 0))) [some (dI ns,.sh []),some (.int k,.sh []),some (.int (draw ns k 10169 5),.own),none,none,none,none,none]=some (draw ns k 10177 9 == 0):=by
   rw [s_tV,s_e2,dr (ns:=ns) (j:=k) (m:=9) (t:=.sh []) (t':=.own) (ts:=.sh []) rfl rfl rfl (by omega) (by omega) (by omega)];rfl
  rw [s_if,c]
  cases (draw ns k 10177 9 == 0) with
  | true=>exact ⟨20,Nat.le_refl _,rfl⟩
  | false=>
   refine ⟨(draw ns k 10169 5).toNat,by omega,?_⟩
   rw [Int.toNat_of_nonneg d1.1];rfl
 obtain ⟨m,hm,g2⟩:=g2
 have g3:sSet 3 (eC (.dic [])) [some (dI ns,.sh []),some (.int k,.sh []),some (.int (m:Int),.own),none,none,none,none,none]=some (.nx (rD ns k m [] none none none none)):=rfl
 obtain ⟨ρ',q1,q2⟩:=loop_nx (g:=gN 4) (t:=.sh []) (f:=bD) (fun j ρ=>∃ es s4 s5 s6 s7,Nw es j∧ρ=rD ns k m es s4 s5 s6 s7)
  (ds:=(List.range (m:Int).toNat).map fun i:Nat=>D.int (0 + (i:Int))) (ρ:=rD ns k m [] none none none none) (n:=0) ⟨[],none,none,none,none,⟨List.nodup_nil,Nat.le_refl _,fun p m=>nomatch m⟩,rfl⟩
  (fun j ρ d hd hp=>by
   obtain ⟨rfl,hj⟩:=range_at hd
   obtain ⟨es,s4,s5,s6,s7,hv,rfl⟩:=hp
   rw [Int.toNat_natCast] at hj
   rw [Nat.zero_add] at hv ⊢
   obtain ⟨q,t5,t6,t7,hq,hb⟩:=step_D (ns:=ns) (k:=k) (m:=m) (j:=j) (es:=es) (s5:=s5) (s6:=s6) (s7:=s7) hk (by omega) (by have:=hv.ln;omega)
   exact ⟨rD ns k m es (some (.int j,.sh [])) s5 s6 s7,_,rfl,.inl hb,_,_,_,_,_,hv.put hq,rfl⟩)
 rw [List.length_map,List.length_range,Int.toNat_natCast,Nat.zero_add] at q2
 obtain ⟨es,s4,s5,s6,s7,hv,rfl⟩:=q2
 have hln:=hv.ln
 have hsm:small (m:Int)=true:=small_of_le (by omega) (by omega)
 have hs:(e1 oSorted (eVar 3)) (rD ns k m es s4 s5 s6 s7)=some (.lst ((srt (es.map (·.1))).map D.int),.own):=by
  rw [s_e1]
  show (oSorted (dN es)).map _=_
  have:oSorted (dN es)=some (.lst ((srt (es.map (·.1))).map D.int)):=by
   unfold dN oSorted;dsimp only
   rw [keysI_3];dsimp only;rw [if_pos (by rw [List.length_map];omega)]
  rw [this];rfl
 have hc:=comp_ok (js:=[none,some 3]) (g:=gN 0) (tt:=tTrue) (te:=eTup (aCons (eVar 0) (aCons (e2 oIx (e2 oGet (eVar 1) (eVar 0)) (eC (.int 0))) (aCons (e2 oIx (e2 oGet (eVar 1) (eVar 0)) (eC (.int 1))) aNil)))) (k:=fun d=>match d with | .int x=>some (dT (x,look es x)) | _=>none) (iseqL hs) (by rw [List.length_map,srt_len,List.length_map];exact size_le (by omega)) (fun d mm=>by
  obtain ⟨x,mx,rfl⟩:=List.mem_map.mp mm
  obtain ⟨_,hval⟩:=look_mem (srt_mem.mp mx)
  have hg:e2 oGet (eVar 1) (eVar 0) [some (.int x,.sh []),some (dN es,.sh [])]=some (.tup [.int (look es x).1,.int (look es x).2],.own):=by
   show ((valD (es.map k3) (Sum.inl x:Key)).bind fun d=>if imm d=true then some d else none).map (fun d=>(d,Tag.own))=_
   rw [hval];rfl
  have v0:eVar 0 [some (.int x,.sh []),some (dN es,.sh [])]=some (.int x,.sh []):=rfl
  have ht:∃ t,eTup (aCons (eVar 0) (aCons (e2 oIx (e2 oGet (eVar 1) (eVar 0)) (eC (.int 0))) (aCons (e2 oIx (e2 oGet (eVar 1) (eVar 0)) (eC (.int 1))) aNil))) [some (.int x,.sh []),some (dN es,.sh [])]=some (dT (x,look es x),t):=by
   have i0:e2 oIx (e2 oGet (eVar 1) (eVar 0)) (eC (.int 0)) [some (.int x,.sh []),some (dN es,.sh [])]=some (.int (look es x).1,.own):=by rw [s_e2,hg];rfl
   have i1:e2 oIx (e2 oGet (eVar 1) (eVar 0)) (eC (.int 1)) [some (.int x,.sh []),some (dN es,.sh [])]=some (.int (look es x).2,.own):=by rw [s_e2,hg];rfl
   rw [s_tup,s_aCons,s_aCons,s_aCons,v0,i0,i1]
   exact ⟨_,rfl⟩
  obtain ⟨t,ht⟩:=ht
  exact compE_imm (ρ1:=[some (.int x,.sh []),some (dN es,.sh [])]) (tg:=t) rfl rfl ht rfl)
 refine ⟨(srt (es.map (·.1))).map fun x=>(x,look es x),runF_rt rfl ?_,?_,fun p mp=>?_,?_⟩
 ·show B_L_edits_of [some (dI ns,.sh []),some (.int k,.sh []),none,none,none,none,none,none]=_
  have eB:B_L_edits_of=sSeq (sSet 2 (eCall F_L_draw (aCons (eVar 0) (aCons (eVar 1) (aCons (eC (.int 10169)) (aCons (eC (.int 5)) aNil)))))) (sSeq (sIf (tV (e2 oEq (eCall F_L_draw (aCons (eVar 0) (aCons (eVar 1) (aCons (eC (.int 10177)) (aCons (eC (.int 9)) aNil))))) (eC (.int 0)))) (sSet 2 (eC (.int 20))) sNx) (sSeq (sSet 3 (eC (.dic []))) (sSeq (sFor (iR1 (eVar 2)) (gN 4) bD) (sRet (eComp [none,some 3] (iSeqF (e1 oSorted (eVar 3))) (gN 0) tTrue (eTup (aCons (eVar 0) (aCons (e2 oIx (e2 oGet (eVar 1) (eVar 0)) (eC (.int 0))) (aCons (e2 oIx (e2 oGet (eVar 1) (eVar 0)) (eC (.int 1))) aNil))))))))):=rfl
  have eF:((srt (es.map (·.1))).map D.int).filterMap (fun d=>match d with | .int x=>some (dT (x,look es x)) | _=>none)=((srt (es.map (·.1))).map fun x=>((x,look es x):Ed)).map dT:=by
   rw [List.filterMap_map,List.map_map]
   exact fm_some (fun x=>dT (x,look es x)) _
  rw [eF] at hc
  rw [eB,s_seq,g1,s_seqN,s_seq,g2,s_seqN,s_seq,g3,s_seqN,s_seq,for_nx0 (ir1 (t:=.sh [2]) rfl hsm) q1,s_seqN,s_ret,hc,s_retO]
  rfl
 ·rw [List.map_map]
  have:((fun p:Ed=>p.1) ∘ fun x=>((x,look es x):Ed))=fun x=>x:=rfl
  rw [this,List.map_id']
  exact srt_lt hv.nd
 ·obtain ⟨x,mx,rfl⟩:=List.mem_map.mp mp
  exact hv.ok _ (look_mem (srt_mem.mp mx)).1
 ·rw [List.length_map,srt_len,List.length_map];omega
theorem f_entry {C:List Ch}{i:Nat}{c:Ch} (h:C[i]? = some c):F_Changes_entry_of [obj C,.int ((i:Int) + 1)]=some (ent c):=by
 have hi:i < C.length:=(List.getElem?_eq_some_iff.mp h).1
 refine runF_rt rfl ?_
 show B_Changes_entry_of [some (obj C,.sh []),some (.int ((i:Int) + 1),.sh [])]=_
 unfold B_Changes_entry_of
 have q:eMeth "Changes" "has" F_Changes_has (eVar 0) (aCons (eVar 1) aNil) [some (obj C,.sh []),some (.int ((i:Int) + 1),.sh [])]=some (.bl true,.own):=m_one (C:=C) (t:=.sh []) rfl rfl (by
  rw [f_has];unfold inR;rw [decide_eq_true (show (1:Int)≤(i:Int) + 1 by omega),decide_eq_true (show (i:Int) + 1≤C.length by omega)];rfl)
 have v:eFld "Changes" "entries" (eVar 0) [some (obj C,.sh []),some (.int ((i:Int) + 1),.sh [])]=some (.lst (C.map ent),.sh []):=rfl
 have w:e2 oSub (eVar 1) (eC (.int 1)) [some (obj C,.sh []),some (.int ((i:Int) + 1),.sh [])]=some (.int (i:Int),.own):=by
  show some (D.int (((i:Int) + 1) - 1),Tag.own)=_
  rw [Int.add_sub_cancel]
 have hx:oIx (.lst (C.map ent)) (.int (i:Int))=some (ent c):=by
  refine s_ixL (atI_nat ?_) (imm_ent c)
  rw [List.getElem?_map,h];rfl
 rw [s_seq,s_if,s_not,s_tV,q,s_kV]
 show seqK _ (sNx _)=_
 rw [s_nx,s_seqN,s_ret,s_e2,v,w,s_k2,hx];rfl
theorem m_entry {C:List Ch}{i:Nat}{c:Ch} (h:C[i]? = some c):eMeth "Changes" "entry_of" F_Changes_entry_of (eVar 0) (aCons (eVar 1) aNil) [some (obj C,.sh []),some (.int ((i:Int) + 1),.sh [])]=some (ent c,.own):=m_one (C:=C) (t:=.sh []) rfl rfl (f_entry h)
theorem f_rank {C:List Ch}{i:Nat}{c:Ch} (h:C[i]? = some c):F_Changes_rank_of [obj C,.int ((i:Int) + 1)]=some (.int c.1):=by
 refine runF_rt rfl ?_
 show B_Changes_rank_of [some (obj C,.sh []),some (.int ((i:Int) + 1),.sh [])]=_
 unfold B_Changes_rank_of
 rw [s_ret,s_e2,m_entry h,s_eC,s_k2];rfl
theorem imm_tI (l:List Int):imm (.tup (l.map D.int))=true:=imm_ints l
theorem imm_tE (E:List Ed):imm (.tup (E.map dT))=true:=imm_eds E
theorem f_leans {C:List Ch}{i:Nat}{c:Ch} (h:C[i]? = some c):F_Changes_leans_of [obj C,.int ((i:Int) + 1)]=some (iL c.2.1):=by
 refine runF_rt rfl ?_
 show B_Changes_leans_of [some (obj C,.sh []),some (.int ((i:Int) + 1),.sh [])]=_
 unfold B_Changes_leans_of
 have hx:oIx (ent c) (.int 1)=some (.tup (c.2.1.map D.int)):=by
  show (if imm (.tup (c.2.1.map D.int))=true then some (D.tup (c.2.1.map D.int)) else none)=_
  rw [if_pos (imm_tI _)]
 rw [s_ret,s_e1,s_e2,m_entry h,s_eC,s_k2,hx]
 show retK (Option.map _ (oList (.tup (c.2.1.map D.int))))=_
 rw [s_listIT];rfl
theorem f_edits {C:List Ch}{i:Nat}{c:Ch} (h:C[i]? = some c):F_Changes_edits_of [obj C,.int ((i:Int) + 1)]=some (eL c.2.2):=by
 refine runF_rt rfl ?_
 show B_Changes_edits_of [some (obj C,.sh []),some (.int ((i:Int) + 1),.sh [])]=_
 unfold B_Changes_edits_of
 have hx:oIx (ent c) (.int 2)=some (.tup (c.2.2.map dT)):=by
  show (if imm (.tup (c.2.2.map dT))=true then some (D.tup (c.2.2.map dT)) else none)=_
  rw [if_pos (imm_tE _)]
 have hy:oList (.tup (c.2.2.map dT))=some (eL c.2.2):=by
  show (if immAll (c.2.2.map dT)=true then some (D.lst (c.2.2.map dT)) else none)=_
  rw [if_pos (imm_eds _)];rfl
 rw [s_ret,s_e1,s_e2,m_entry h,s_eC,s_k2,hx]
 show retK (Option.map _ (oList (.tup (c.2.2.map dT))))=_
 rw [hy];rfl
abbrev NC:XN:=("NoChange",none)
theorem f_entryR {C:List Ch}{n:Int} (h:inR n 1 C.length=false) (hn:n.natAbs < 2 ^ 64):F_Changes_entry_ofR [obj C,.int n]=some (.er NC):=by
 refine runR_er (raw:=true) (ρ:=[some (obj C,.sh []),some (.int n,.sh [])]) rfl ?_
 show B_Changes_entry_ofR [some (obj C,.sh []),some (.int n,.sh [])]=_
 unfold B_Changes_entry_ofR
 have q:eMeth "Changes" "has" F_Changes_has (eVar 0) (aCons (eVar 1) aNil) [some (obj C,.sh []),some (.int n,.sh [])]=some (.bl false,.own):=m_one (C:=C) (t:=.sh []) rfl rfl (by rw [f_has,h])
 have v1:eVar 1 [some (obj C,.sh []),some (.int n,.sh [])]=some (.int n,.sh []):=rfl
 have w:∀ x,∃ d,e1 (oFs x) (eVar 1) [some (obj C,.sh []),some (.int n,.sh [])]=some (d,.own):=fun x=>by
  rw [s_e1,v1,s_k1]
  unfold oFs
  dsimp only
  rw [if_pos hn]
  exact ⟨_,rfl⟩
 obtain ⟨d,w⟩:=w "no change has the number "
 have r:sRaise "NoChange" (aCons (e1 (oFs "no change has the number ") (eVar 1)) aNil) [some (obj C,.sh []),some (.int n,.sh [])]=some (.er true NC [some (obj C,.sh []),some (.int n,.sh [])]):=by
  unfold sRaise
  rw [s_aCons,w,s_aNil,s_consK]
 refine s_seqE ?_
 rw [s_if,s_not,s_tV,q,s_kV]
 exact r
theorem x_meth {C:List Ch}{n:Int}{ρ:Rho}{t t2:Tag}{i:Nat}{mm:Str}{F:List D→Option Rz}{fa:EF} (h:eVar i ρ=some (obj C,t)) (ha:fa ρ=some (.int n,t2)) (hF:F [obj C,.int n]=some (.er NC)) (hm:(mm == ("entries":Str))=false:=by decide) :
  xMethS "Changes" mm F (eVar i) (aCons fa aNil) ρ=some (.er NC ρ):=by
 unfold xMethS
 rw [h,s_aCons,ha,s_aNil,s_consK]
 unfold obj
 dsimp only
 rw [if_pos ⟨rfl,lk_none hm⟩]
 simp only [List.map_cons,List.map_nil]
 show (match F [obj C,.int n] with | some (.ok d)=>_ | some (.er en)=>_ | none=>_)=_
 rw [hF]
theorem f_rankR {C:List Ch}{n:Int} (h:inR n 1 C.length=false) (hn:n.natAbs < 2 ^ 64):F_Changes_rank_ofR [obj C,.int n]=some (.er NC):=by
 refine runR_er (raw:=false) (ρ:=[some (obj C,.sh []),some (.int n,.sh [])]) rfl ?_
 show B_Changes_rank_ofR [some (obj C,.sh []),some (.int n,.sh [])]=_
 unfold B_Changes_rank_ofR sRetE xEr
 rw [x_meth (C:=C) (n:=n) (t:=.sh []) (t2:=.sh []) rfl rfl (f_entryR h hn)]
theorem f_leansR {C:List Ch}{n:Int} (h:inR n 1 C.length=false) (hn:n.natAbs < 2 ^ 64):F_Changes_leans_ofR [obj C,.int n]=some (.er NC):=by
 refine runR_er (raw:=false) (ρ:=[some (obj C,.sh []),some (.int n,.sh [])]) rfl ?_
 show B_Changes_leans_ofR [some (obj C,.sh []),some (.int n,.sh [])]=_
 unfold B_Changes_leans_ofR sRetE xEr
 rw [x_meth (C:=C) (n:=n) (t:=.sh []) (t2:=.sh []) rfl rfl (f_entryR h hn)]
theorem f_editsR {C:List Ch}{n:Int} (h:inR n 1 C.length=false) (hn:n.natAbs < 2 ^ 64):F_Changes_edits_ofR [obj C,.int n]=some (.er NC):=by
 refine runR_er (raw:=false) (ρ:=[some (obj C,.sh []),some (.int n,.sh [])]) rfl ?_
 show B_Changes_edits_ofR [some (obj C,.sh []),some (.int n,.sh [])]=_
 unfold B_Changes_edits_ofR sRetE xEr
 rw [x_meth (C:=C) (n:=n) (t:=.sh []) (t2:=.sh []) rfl rfl (f_entryR h hn)]
theorem f_overR {C:List Ch}{n:Int} (h:inR n 1 C.length=false) (hn:n.natAbs < 2 ^ 64):F_Changes_overR [obj C,.int n]=some (.er NC):=by
 refine runR_er (raw:=false) (ρ:=[some (obj C,.sh []),some (.int n,.sh []),none,none]) rfl ?_
 show B_Changes_overR [some (obj C,.sh []),some (.int n,.sh []),none,none]=_
 unfold B_Changes_overR
 refine s_seqE ?_
 unfold sExprE
 rw [x_meth (C:=C) (n:=n) (t:=.sh []) (t2:=.sh []) rfl rfl (f_entryR h hn)]
theorem f_underR {C:List Ch}{n:Int} (h:inR n 1 C.length=false) (hn:n.natAbs < 2 ^ 64):F_Changes_underR [obj C,.int n]=some (.er NC):=by
 refine runR_er (raw:=false) (ρ:=[some (obj C,.sh []),some (.int n,.sh []),none,none,none]) rfl ?_
 show B_Changes_underR [some (obj C,.sh []),some (.int n,.sh []),none,none,none]=_
 unfold B_Changes_underR
 refine s_seqE ?_
 unfold sExprE
 rw [x_meth (C:=C) (n:=n) (t:=.sh []) (t2:=.sh []) rfl rfl (f_entryR h hn)]
def rN (w:Int) (C:List Ch) (n:Int) (s4:Slot) (l:D):Rho:=[some (.int w,.sh []),some (obj C,.sh []),some (.int n,.sh []),some (l,.own),s4]
theorem f_no_change {C:List Ch}{w n:Int} (h:inR n 1 C.length=false) (hn:n.natAbs < 2 ^ 64):F_L_no_change [.int w,obj C,.int n]=some (.bl true):=by
 refine runF_rt rfl ?_
 show B_L_no_change [some (.int w,.sh []),some (obj C,.sh []),some (.int n,.sh []),none,none]=_
 have g1:sSet 3 (eLst aNil) [some (.int w,.sh []),some (obj C,.sh []),some (.int n,.sh []),none,none]=some (.nx (rN w C n none (.lst []))):=rfl
 have x:∀ {mm:Str}{F:List D→Option Rz} (hF:F [obj C,.int n]=some (.er NC)) (hm:(mm == ("entries":Str))=false),sExprE (xMethS "Changes" mm F (eVar 1) (aCons (eVar 2) aNil)) (rN w C n none (.lst []))=some (.er false NC (rN w C n none (.lst []))):=fun {mm F} hF hm=>by
  unfold sExprE
  rw [x_meth (C:=C) (n:=n) (t:=.sh []) (t2:=.sh []) rfl rfl hF hm]
 have c:∀ k,tV (e2 oEq (eVar 0) (eC (.int k))) (rN w C n none (.lst []))=some (w == k):=fun k=>rfl
 unfold B_L_no_change
 rw [s_seq,g1,s_seqN,s_seq]
 have hb:(sIf (tV (e2 oEq (eVar 0) (eC (.int 0)))) (sExprE (xMethS "Changes" "rank_of" F_Changes_rank_ofR (eVar 1) (aCons (eVar 2) aNil))) (sIf (tV (e2 oEq (eVar 0) (eC (.int 1)))) (sExprE (xMethS "Changes" "leans_of" F_Changes_leans_ofR (eVar 1) (aCons (eVar 2) aNil))) (sIf (tV (e2 oEq (eVar 0) (eC (.int 2)))) (sExprE (xMethS "Changes" "edits_of" F_Changes_edits_ofR (eVar 1) (aCons (eVar 2) aNil))) (sIf (tV (e2 oEq (eVar 0) (eC (.int 3)))) (sExprE (xMethS "Changes" "over" F_Changes_overR (eVar 1) (aCons (eVar 2) aNil))) (sExprE (xMethS "Changes" "under" F_Changes_underR (eVar 1) (aCons (eVar 2) aNil))))))) (rN w C n none (.lst []))=some (.er false NC (rN w C n none (.lst []))):=by
  rw [s_if,c]
  cases w == 0 with
  | true=>rw [s_ifT];exact x (f_rankR h hn) (by decide)
  | false=>
   rw [s_ifF,s_if,c]
   cases w == 1 with
   | true=>rw [s_ifT];exact x (f_leansR h hn) (by decide)
   | false=>
    rw [s_ifF,s_if,c]
    cases w == 2 with
    | true=>rw [s_ifT];exact x (f_editsR h hn) (by decide)
    | false=>
     rw [s_ifF,s_if,c]
     cases w == 3 with
     | true=>rw [s_ifT];exact x (f_overR h hn) (by decide)
     | false=>rw [s_ifF];exact x (f_underR h hn) (by decide)
 unfold sTryAs
 rw [hb]
 rfl
theorem f_whole {a b:Int}:F_L_whole [.int a,.int b]=some (.bl (a == b)):=by
 refine runF_rt rfl ?_
 show B_L_whole [some (.int a,.sh []),some (.int b,.sh [])]=_
 unfold B_L_whole
 have q1:e1 (oIsi "int") (eVar 0) [some (.int a,.sh []),some (.int b,.sh [])]=some (.bl true,.own):=rfl
 have q2:e1 oNot (e1 (oIsi "bool") (eVar 0)) [some (.int a,.sh []),some (.int b,.sh [])]=some (.bl true,.own):=rfl
 rw [s_ret,s_eAnd,q1,s_eAndT,s_eAnd,q2,s_eAndT];rfl
def spc (c:Ch):D:=.tup [.int c.1,.fls (c.2.1.map D.int),.fls (c.2.2.map dT)]
theorem imm_spc (c:Ch):imm (spc c)=true:=by
 unfold spc
 show immAll [.int c.1,.fls (c.2.1.map D.int),.fls (c.2.2.map dT)]=true
 unfold immAll;unfold immAll;unfold immAll;unfold immAll
 show (imm (.int c.1)&&(immAll (c.2.1.map D.int)&&(immAll (c.2.2.map dT)&&true)))=true
 rw [imm_ints,imm_eds];rfl
theorem imm_spcs:∀ C:List Ch,immAll (C.map spc)=true
 | []=>rfl
 | c::r=>by rw [List.map_cons];unfold immAll;rw [imm_spcs r,imm_spc];rfl
def row3 (p:Ed):List Int:=[p.1,p.2.1,p.2.2]
theorem rows3 (E:List Ed):E.map dT=dRows (E.map row3):=by unfold dRows;rw [List.map_map];rfl
theorem py_fls (ds:List D):py (.fls ds)=py (.lst ds):=by rw [py,py]
theorem okPy_fls (ds:List D):okPy (.fls ds)=okPy (.lst ds):=by rw [okPy,okPy]
theorem lay_fls (ds:List D):layOk (.fls ds)=layOk (.lst ds):=by unfold layOk;rw [okPy_fls,py_fls]
theorem shw_fls (ds:List D):shw (.fls ds)=shw (.lst ds):=by unfold shw;rw [okPy_fls,py_fls]
theorem lay_eL (E:List Ed):layOk (.lst (E.map dT))=true:=by rw [rows3];exact lay_rows _
theorem lay_iL (l:List Int):layOk (.lst (l.map D.int))=true:=by
 have e:py (.lst (l.map D.int))=.list (l.map PyData.int):=by unfold py;rw [pys_ints]
 unfold layOk
 rw [e]
 have a1:okPy (.lst (l.map D.int))=true:=by unfold okPy;exact okPys_ints l
 have a2:(PyData.list (l.map PyData.int)).canLay0=true:=by simp only [PyData.canLay0];exact canAll_ints l
 have a3:(PyData.list (l.map PyData.int)).depth≤40:=by simp only [PyData.depth,depthAll_ints];omega
 rw [a1,a2,decide_eq_true a3];rfl
theorem lay_tup {ds:List D} (h:layOk (.lst ds)=true):layOk (.tup ds)=true:=by
 obtain ⟨h1,h2,h3⟩:=lay_of h
 rw [okPy] at h1
 rw [py] at h2 h3
 simp only [PyData.canLay0,PyData.depth] at h2 h3
 unfold layOk
 have a2:(PyData.tuple (pys ds)).canLay0=true:=by simp only [PyData.canLay0];exact h2
 have a3:(PyData.tuple (pys ds)).depth≤40:=by simp only [PyData.depth];exact h3
 rw [okPy,py,h1,a2,decide_eq_true a3];rfl
theorem eq_fls {ds:List D} (h:layOk (.lst ds)=true):oEqP (.lst ds) (.fls ds)=some (.bl true):=by
 have:=s_eqPR h
 unfold oEqP at this ⊢
 rw [lay_fls,py_fls];exact this
theorem eq_tf {ds:List D} (h:layOk (.lst ds)=true):∃ y,oEqP (.tup ds) (.fls ds)=some (.bl y):=by
 unfold oEqP
 rw [lay_fls,lay_tup h,h]
 exact ⟨_,rfl⟩
def rA (C S:List Ch) (c:Ch) (s3 s4 s5 s6:Slot):Rho:=[some (obj C,.own),some (.lst (S.map spc),.own),some (spc c,.sh []),s3,s4,s5,s6]
theorem ix_0 {c:Ch}{ρ:Rho}{t:Tag}{i:Nat} (h:eVar i ρ=some (spc c,t)):e2 oIx (eVar i) (eC (.int 0)) ρ=some (.int c.1,.own):=by rw [s_e2,h,s_eC,s_k2];rfl
theorem ix_1 {c:Ch}{ρ:Rho}{t:Tag}{i:Nat} (h:eVar i ρ=some (spc c,t)):e2 oIx (eVar i) (eC (.int 1)) ρ=some (.fls (c.2.1.map D.int),.own):=by
 rw [s_e2,h,s_eC,s_k2]
 show Option.map _ (if imm (.fls (c.2.1.map D.int))=true then some (D.fls (c.2.1.map D.int)) else none)=_
 rw [if_pos (show imm (.fls (c.2.1.map D.int))=true from imm_ints _)];rfl
theorem ix_2 {c:Ch}{ρ:Rho}{t:Tag}{i:Nat} (h:eVar i ρ=some (spc c,t)):e2 oIx (eVar i) (eC (.int 2)) ρ=some (.fls (c.2.2.map dT),.own):=by
 rw [s_e2,h,s_eC,s_k2]
 show Option.map _ (if imm (.fls (c.2.2.map dT))=true then some (D.fls (c.2.2.map dT)) else none)=_
 rw [if_pos (show imm (.fls (c.2.2.map dT))=true from imm_eds _)];rfl
theorem list_f {ds:List D} (h:immAll ds=true):oListB (.fls ds)=some (.lst ds):=by
 show (if immAll ds=true then some (D.lst ds) else none)=_
 rw [if_pos h]
theorem tup_f {ds:List D} (h:immAll ds=true):oTupleB (.fls ds)=some (.tup ds):=by
 show (if immAll ds=true then some (D.tup ds) else none)=_
 rw [if_pos h]
theorem tup_l {ds:List D} (h:immAll ds=true):oTupleB (.lst ds)=some (.tup ds):=by
 show (if immAll ds=true then some (D.tup ds) else none)=_
 rw [if_pos h]
theorem runPP_rt {n N:Nat}{b:SF}{d0 d1 r e0 e1:D}{ds:List D} (hl:ds.length + 2=n) (h:b (iniPP N d0 d1 ds)=some (.rt (.tup [r,e0,e1]))):runPP n N b d0 d1 ds=some (r,e0,e1):=by unfold runPP;rw [if_pos hl,h]
theorem app1 {C S:List Ch}{c:Ch}{s3 s4 s5 s6:Slot} (hS:S.length≤100) (h3:dropT 1 s3=s3) (h4:dropT 1 s4=s4) (h5:dropT 1 s5=s5) (h6:dropT 1 s6=s6):noRt (sAppO 1 (eVar 2)) (rA C S c s3 s4 s5 s6)=some (.nx (rA C (S++[c]) c s3 s4 s5 s6)):=by
 refine s_noRt ?_
 have v2:eVar 2 (rA C S c s3 s4 s5 s6)=some (spc c,.sh []):=rfl
 have v1:(rA C S c s3 s4 s5 s6)[1]? = some (some (.lst (S.map spc),.own)):=rfl
 unfold sAppO
 rw [v2,v1]
 dsimp only
 rw [if_pos (by rw [imm_spc,List.length_map,decide_eq_true (size_le (by omega))];rfl)]
 unfold mutS rA
 simp only [List.map_cons,List.map_nil,h3,h4,h5,h6,List.map_append]
 rfl
theorem call_added {C:List Ch}{c:Ch}{b:Bool} (hl:c.2.1.length≤100) (hE:c.2.2.length≤100) (hm:mkB C.length c.1 c.2.1 c.2.2=true) (hC:C.length < 60) :
  noRt (sSetZ 5 (xO 0 "Changes" "added" F_Changes_added (aCons (e2 oIx (eVar 2) (eC (.int 0))) (aCons (eVar 3) (aCons (eVar 4) aNil))))) (rA C C c (some (iS b c.2.1,.own)) (some (eS b c.2.2,.own)) none none) =
   some (.nx (rA (C++[c]) C c (some (iS b c.2.1,.own)) (some (eS b c.2.2,.own)) (some (.int ((C.length:Int) + 1),.own)) none)):=by
 refine s_noRt ?_
 generalize hρ:rA C C c (some (iS b c.2.1,.own)) (some (eS b c.2.2,.own)) none none=ρ
 have v0:ρ[0]? = some (some (obj C,.own)):=by rw [← hρ];rfl
 have v2:eVar 2 ρ=some (spc c,.sh []):=by rw [← hρ];rfl
 have v3:eVar 3 ρ=some (iS b c.2.1,.sh [3]):=by rw [← hρ];rfl
 have v4:eVar 4 ρ=some (eS b c.2.2,.sh [4]):=by rw [← hρ];rfl
 have ha:aCons (e2 oIx (eVar 2) (eC (.int 0))) (aCons (eVar 3) (aCons (eVar 4) aNil)) ρ=some [(.int c.1,.own),(iS b c.2.1,.sh [3]),(eS b c.2.2,.sh [4])]:=by
  rw [s_aCons,s_aCons,s_aCons,ix_0 v2,v3,v4,s_aNil,s_consK,s_consK,s_consK]
 unfold sSetZ xO
 rw [v0,ha]
 unfold obj
 dsimp only
 rw [if_pos ⟨rfl,lk_none (by decide),rfl⟩]
 simp only [List.map_cons,List.map_nil]
 show (match Option.map _ (F_Changes_added (obj C) [.int c.1,iS b c.2.1,eS b c.2.2]) with | some (d,ρ')=>some (Out.nx (setS ρ' 5 d .own)) | none=>none)=_
 rw [f_added hl hE hm hC,← hρ]
 rfl
theorem fine_S {C:List Ch}{c:Ch}{b:Bool}:∃ y,(b=false→y=true) ∧
  noRt (sSet 6 (eAnd (eCall F_L_whole (aCons (eVar 5) (aCons (e2 oAdd (e1 oLen (eVar 1)) (eC (.int 1))) aNil))) (eAnd (e2 oEqP (eVar 3) (e2 oIx (eVar 2) (eC (.int 1)))) (e2 oEqP (eVar 4) (e2 oIx (eVar 2) (eC (.int 2))))))) (rA (C++[c]) C c (some (iS b c.2.1,.own)) (some (eS b c.2.2,.own)) (some (.int ((C.length:Int) + 1),.own)) none) =
   some (.nx (rA (C++[c]) C c (some (iS b c.2.1,.own)) (some (eS b c.2.2,.own)) (some (.int ((C.length:Int) + 1),.own)) (some (.bl y,.own)))):=by
 generalize hρ:rA (C++[c]) C c (some (iS b c.2.1,.own)) (some (eS b c.2.2,.own)) (some (.int ((C.length:Int) + 1),.own)) none=ρ
 have v1:eVar 1 ρ=some (.lst (C.map spc),.sh [1]):=by rw [← hρ];rfl
 have v2:eVar 2 ρ=some (spc c,.sh []):=by rw [← hρ];rfl
 have v3:eVar 3 ρ=some (iS b c.2.1,.sh [3]):=by rw [← hρ];rfl
 have v4:eVar 4 ρ=some (eS b c.2.2,.sh [4]):=by rw [← hρ];rfl
 have v5:eVar 5 ρ=some (.int ((C.length:Int) + 1),.sh [5]):=by rw [← hρ];rfl
 have w:eCall F_L_whole (aCons (eVar 5) (aCons (e2 oAdd (e1 oLen (eVar 1)) (eC (.int 1))) aNil)) ρ=some (.bl true,.own):=by
  rw [s_call,s_aCons,s_aCons,v5,s_e2,s_e1,v1,s_k1,s_lenL,List.length_map,s_eC]
  show (Option.bind (some [((.int ((C.length:Int) + 1),.sh [5]):D×Tag),(.int ((C.length:Int) + 1),.own)]) fun ps=>(F_L_whole (ps.map (·.1))).map fun d=>(d,Tag.own))=_
  rw [s_bind]
  simp only [List.map_cons,List.map_nil]
  rw [f_whole,beq_self_eq_true];rfl
 have x1:∃ y,(b=false→y=true)∧e2 oEqP (eVar 3) (e2 oIx (eVar 2) (eC (.int 1))) ρ=some (.bl y,.own):=by
  rw [s_e2,v3,ix_1 v2,s_k2]
  cases b with
  | false=>exact ⟨true,fun _=>rfl,by show Option.map _ (oEqP (.lst (c.2.1.map D.int)) (.fls (c.2.1.map D.int)))=_;rw [eq_fls (lay_iL _)];rfl⟩
  | true=>
   obtain ⟨y,hy⟩:=eq_tf (lay_iL c.2.1)
   exact ⟨y,fun e=>Bool.noConfusion e,by show Option.map _ (oEqP (.tup (c.2.1.map D.int)) (.fls (c.2.1.map D.int)))=_;rw [hy];rfl⟩
 have x2:∃ y,(b=false→y=true)∧e2 oEqP (eVar 4) (e2 oIx (eVar 2) (eC (.int 2))) ρ=some (.bl y,.own):=by
  rw [s_e2,v4,ix_2 v2,s_k2]
  cases b with
  | false=>exact ⟨true,fun _=>rfl,by show Option.map _ (oEqP (.lst (c.2.2.map dT)) (.fls (c.2.2.map dT)))=_;rw [eq_fls (lay_eL _)];rfl⟩
  | true=>
   obtain ⟨y,hy⟩:=eq_tf (lay_eL c.2.2)
   exact ⟨y,fun e=>Bool.noConfusion e,by show Option.map _ (oEqP (.tup (c.2.2.map dT)) (.fls (c.2.2.map dT)))=_;rw [hy];rfl⟩
 obtain ⟨y1,g1,x1⟩:=x1
 obtain ⟨y2,g2,x2⟩:=x2
 refine ⟨y1&&y2,fun e=>by rw [g1 e,g2 e];rfl,s_noRt ?_⟩
 rw [s_set,s_eAnd,w,s_eAndT,s_eAnd,x1,← hρ]
 cases y1 with
 | true=>rw [s_eAndT,hρ,x2,← hρ];rfl
 | false=>rw [s_eAndF];rfl
theorem f_Ladded {C:List Ch}{c:Ch} (hl:c.2.1.length≤100) (hE:c.2.2.length≤100) (hm:mkB C.length c.1 c.2.1 c.2.2=true) (hC:C.length < 60) :
  F_L_added (obj C) (.lst (C.map spc)) [spc c]=some (.bl true,obj (C++[c]),.lst ((C++[c]).map spc)):=by
 refine runPP_rt rfl ?_
 show B_L_added (rA C C c none none none none)=_
 have a1:noRt (sSet 3 (e1 oListB (e2 oIx (eVar 2) (eC (.int 1))))) (rA C C c none none none none)=some (.nx (rA C C c (some (iS false c.2.1,.own)) none none none)):=by
  refine s_noRt ?_
  rw [s_set,s_e1,ix_1 (c:=c) (t:=.sh []) rfl,s_k1,list_f (imm_ints _)];rfl
 have a2:noRt (sSet 4 (e1 oListB (e2 oIx (eVar 2) (eC (.int 2))))) (rA C C c (some (iS false c.2.1,.own)) none none none)=some (.nx (rA C C c (some (iS false c.2.1,.own)) (some (eS false c.2.2,.own)) none none)):=by
  refine s_noRt ?_
  rw [s_set,s_e1,ix_2 (c:=c) (t:=.sh []) rfl,s_k1,list_f (imm_eds _)];rfl
 have a3:∃ b,sIf (tV (e2 oEq (e2 oMod (e1 oLen (eVar 1)) (eC (.int 3))) (eC (.int 1)))) (sSeq (noRt (sSet 3 (e1 oTupleB (eVar 3)))) (noRt (sSet 4 (e1 oTupleB (eVar 4))))) sNx (rA C C c (some (iS false c.2.1,.own)) (some (eS false c.2.2,.own)) none none)=some (.nx (rA C C c (some (iS b c.2.1,.own)) (some (eS b c.2.2,.own)) none none)):=by
  have cc:∃ y,tV (e2 oEq (e2 oMod (e1 oLen (eVar 1)) (eC (.int 3))) (eC (.int 1))) (rA C C c (some (iS false c.2.1,.own)) (some (eS false c.2.2,.own)) none none)=some y:=by
   have v1:eVar 1 (rA C C c (some (iS false c.2.1,.own)) (some (eS false c.2.2,.own)) none none)=some (.lst (C.map spc),.sh [1]):=rfl
   rw [s_tV,s_e2,s_e2,s_e1,v1,s_k1,s_lenL,s_eC,s_eC]
   show ∃ y,kV (k2 oEq (k2 oMod (some (.int ((C.map spc).length:Int),.own)) (some (.int 3,.own))) (some (.int 1,.own)))=some y
   rw [s_k2,s_oMod (by omega)]
   exact ⟨_,rfl⟩
  obtain ⟨y,cc⟩:=cc
  rw [s_if,cc]
  cases y with
  | false=>exact ⟨false,rfl⟩
  | true=>
   refine ⟨true,?_⟩
   have t1:noRt (sSet 3 (e1 oTupleB (eVar 3))) (rA C C c (some (iS false c.2.1,.own)) (some (eS false c.2.2,.own)) none none)=some (.nx (rA C C c (some (iS true c.2.1,.own)) (some (eS false c.2.2,.own)) none none)):=by
    refine s_noRt ?_
    rw [s_set,s_e1]
    show setK 3 _ (k1 oTupleB (some (.lst (c.2.1.map D.int),.sh [3])))=_
    rw [s_k1,tup_l (imm_ints _)];rfl
   have t2:noRt (sSet 4 (e1 oTupleB (eVar 4))) (rA C C c (some (iS true c.2.1,.own)) (some (eS false c.2.2,.own)) none none)=some (.nx (rA C C c (some (iS true c.2.1,.own)) (some (eS true c.2.2,.own)) none none)):=by
    refine s_noRt ?_
    rw [s_set,s_e1]
    show setK 4 _ (k1 oTupleB (some (.lst (c.2.2.map dT),.sh [4])))=_
    rw [s_k1,tup_l (imm_eds _)];rfl
   rw [s_ifT,s_seq,t1,s_seqN,t2]
 obtain ⟨b,a3⟩:=a3
 have a4:=call_added (b:=b) hl hE hm hC
 obtain ⟨y,gy,a5⟩:=fine_S (C:=C) (c:=c) (b:=b)
 unfold B_L_added
 rw [s_seq,a1,s_seqN,s_seq,a2,s_seqN,s_seq,a3,s_seqN,s_seq,a4,s_seqN,s_seq,a5,s_seqN,s_seq,s_if]
 clear a1 a2 a3 a4 a5
 cases b with
 | true=>
  have c1:tV (e1 (oIsiB "tuple") (eVar 3)) (rA (C++[c]) C c (some (iS true c.2.1,.own)) (some (eS true c.2.2,.own)) (some (.int ((C.length:Int) + 1),.own)) (some (.bl y,.own)))=some true:=rfl
  have a6:=app1 (C:=C++[c]) (S:=C) (c:=c) (s3:=some (iS true c.2.1,.own)) (s4:=some (eS true c.2.2,.own)) (s5:=some (.int ((C.length:Int) + 1),.own)) (s6:=some (.bl y,.own)) (by omega) rfl rfl rfl rfl
  rw [c1,s_ifT,s_seq,a6,s_seqN]
  generalize hρ:rA (C++[c]) (C++[c]) c (some (iS true c.2.1,.own)) (some (eS true c.2.2,.own)) (some (.int ((C.length:Int) + 1),.own)) (some (.bl y,.own))=ρ
  have v1:eVar 1 ρ=some (.lst ((C++[c]).map spc),.sh [1]):=by rw [← hρ];rfl
  have v2:eVar 2 ρ=some (spc c,.sh []):=by rw [← hρ];rfl
  have v3:eVar 3 ρ=some (.tup (c.2.1.map D.int),.sh [3]):=by rw [← hρ];rfl
  have v4:eVar 4 ρ=some (.tup (c.2.2.map dT),.sh [4]):=by rw [← hρ];rfl
  have v5:eVar 5 ρ=some (.int ((C.length:Int) + 1),.sh [5]):=by rw [← hρ];rfl
  have u0:ρ[0]? = some (some (obj (C++[c]),.own)):=by rw [← hρ];rfl
  have u1:ρ[1]? = some (some (.lst ((C++[c]).map spc),.own)):=by rw [← hρ];rfl
  have w:eCall F_L_whole (aCons (eVar 5) (aCons (e1 oLen (eVar 1)) aNil)) ρ=some (.bl true,.own):=by
   rw [s_call,s_aCons,s_aCons,v5,s_e1,v1,s_k1,s_lenL,List.length_map,List.length_append,List.length_singleton,s_aNil]
   show (Option.bind (some [((.int ((C.length:Int) + 1),.sh [5]):D×Tag),(.int (((C.length + 1:Nat)):Int),.own)]) fun ps=>(F_L_whole (ps.map (·.1))).map fun d=>(d,Tag.own))=_
   rw [s_bind]
   simp only [List.map_cons,List.map_nil]
   rw [f_whole,Int.natCast_add,show (((1:Nat):Int))=1 from rfl,beq_self_eq_true];rfl
  have x1:e2 oEqP (eVar 3) (e1 oTupleB (e2 oIx (eVar 2) (eC (.int 1)))) ρ=some (.bl true,.own):=by
   rw [s_e2,v3,s_e1,ix_1 v2,s_k1,tup_f (imm_ints _)]
   show Option.map _ (oEqP (.tup (c.2.1.map D.int)) (.tup (c.2.1.map D.int)))=_
   rw [s_eqPR (lay_tup (lay_iL _))];rfl
  have x2:e2 oEqP (eVar 4) (e1 oTupleB (e2 oIx (eVar 2) (eC (.int 2)))) ρ=some (.bl true,.own):=by
   rw [s_e2,v4,s_e1,ix_2 v2,s_k1,tup_f (imm_eds _)]
   show Option.map _ (oEqP (.tup (c.2.2.map dT)) (.tup (c.2.2.map dT)))=_
   rw [s_eqPR (lay_tup (lay_eL _))];rfl
  have z:sRetPP (eAnd (eCall F_L_whole (aCons (eVar 5) (aCons (e1 oLen (eVar 1)) aNil))) (eAnd (e2 oEqP (eVar 3) (e1 oTupleB (e2 oIx (eVar 2) (eC (.int 1))))) (e2 oEqP (eVar 4) (e1 oTupleB (e2 oIx (eVar 2) (eC (.int 2))))))) ρ=some (.rt (.tup [.bl true,obj (C++[c]),.lst ((C++[c]).map spc)])):=by
   unfold sRetPP
   rw [s_eAnd,w,s_eAndT,s_eAnd,x1,s_eAndT,x2,u0,u1]
   rfl
  rw [z,s_seqR]
 | false=>
  have hy:=gy rfl
  subst hy
  have c1:tV (e1 (oIsiB "tuple") (eVar 3)) (rA (C++[c]) C c (some (iS false c.2.1,.own)) (some (eS false c.2.2,.own)) (some (.int ((C.length:Int) + 1),.own)) (some (.bl true,.own)))=some false:=rfl
  have b1:noRt (sAppO 3 (eC (.int 60))) (rA (C++[c]) C c (some (iS false c.2.1,.own)) (some (eS false c.2.2,.own)) (some (.int ((C.length:Int) + 1),.own)) (some (.bl true,.own)))=some (.nx (rA (C++[c]) C c (some (.lst (c.2.1.map D.int++[.int 60]),.own)) (some (eS false c.2.2,.own)) (some (.int ((C.length:Int) + 1),.own)) (some (.bl true,.own)))):=by
   refine s_noRt ?_
   show (if ((isOwn Tag.own||imm (.int 60))&&decide ((c.2.1.map D.int).length < sizeLine))=true then _ else none)=_
   rw [if_pos (by rw [List.length_map,decide_eq_true (size_le (by omega))];rfl)]
   rfl
  have b2:noRt (sRvS 4) (rA (C++[c]) C c (some (.lst (c.2.1.map D.int++[.int 60]),.own)) (some (eS false c.2.2,.own)) (some (.int ((C.length:Int) + 1),.own)) (some (.bl true,.own)))=some (.nx (rA (C++[c]) C c (some (.lst (c.2.1.map D.int++[.int 60]),.own)) (some (eS false c.2.2.reverse,.own)) (some (.int ((C.length:Int) + 1),.own)) (some (.bl true,.own)))):=by
   refine s_noRt ?_
   show (if immAll (c.2.2.map dT)=true then _ else none)=_
   rw [if_pos (imm_eds _),← List.map_reverse]
   rfl
  have b3:noRt (sApp 4 (eTup (aCons (eC (.int 0)) (aCons (eC (.int 0)) (aCons (eC (.int 1)) aNil))))) (rA (C++[c]) C c (some (.lst (c.2.1.map D.int++[.int 60]),.own)) (some (eS false c.2.2.reverse,.own)) (some (.int ((C.length:Int) + 1),.own)) (some (.bl true,.own)))=some (.nx (rA (C++[c]) C c (some (.lst (c.2.1.map D.int++[.int 60]),.own)) (some (.lst (c.2.2.reverse.map dT++[.tup [.int 0,.int 0,.int 1]]),.own)) (some (.int ((C.length:Int) + 1),.own)) (some (.bl true,.own)))):=by
   refine s_noRt ?_
   show (if (imm (.tup [.int 0,.int 0,.int 1])&&immAll (c.2.2.reverse.map dT)&&decide ((c.2.2.reverse.map dT).length < sizeLine))=true then _ else none)=_
   rw [if_pos (by rw [imm_eds,List.length_map,List.length_reverse,decide_eq_true (size_le (by omega))];rfl)]
   rfl
  have a6:=app1 (C:=C++[c]) (S:=C) (c:=c) (s3:=some (.lst (c.2.1.map D.int++[.int 60]),.own)) (s4:=some (.lst (c.2.2.reverse.map dT++[.tup [.int 0,.int 0,.int 1]]),.own)) (s5:=some (.int ((C.length:Int) + 1),.own)) (s6:=some (.bl true,.own)) (by omega) rfl rfl rfl rfl
  rw [c1,s_ifF,s_nx,s_seqN,s_seq,b1,s_seqN,s_seq,b2,s_seqN,s_seq,b3,s_seqN,s_seq,a6,s_seqN]
  rfl
theorem ne_str {x:Str}:oNe (.str x) (.str x)=some (.bl false):=by show some (D.bl (!(x == x)))=_;rw [beq_self_eq_true];rfl
theorem shw_ints {l:List Int} (h:∀ i∈l,small12 i) (hl:l.length≤60):shw (.lst (l.map D.int))=true:=by
 have e:py (.lst (l.map D.int))=.list (l.map PyData.int):=by unfold py;rw [pys_ints]
 unfold shw
 rw [e]
 have a1:okPy (.lst (l.map D.int))=true:=by unfold okPy;exact okPys_ints l
 have a2:(PyData.list (l.map PyData.int)).showable=true:=by simp only [PyData.showable];exact showAll_ints l h
 have a3:(PyData.list (l.map PyData.int)).depth≤40:=by simp only [PyData.depth,depthAll_ints];omega
 have a4:(PyData.list (l.map PyData.int)).shown.length≤sizeLine:=by
  refine PyData.shown_fits (B:=13) (by decide) (by decide) ?_ ?_
  ·simp only [PyData.leavesShort];exact leavesAll_ints l h
  ·simp only [PyData.weight]
   have:=weightAll_ints l h
   have e:(2:Nat) ^ 20=1048576:=by decide
   omega
 rw [a1,a2,decide_eq_true a3,decide_eq_true a4]
 rfl
theorem ok_small {p:Ed} (h:okE p=true):small12 p.1∧small12 p.2.1∧small12 p.2.2:=by
 unfold okE inR at h
 simp only [Bool.and_eq_true,decide_eq_true_eq] at h
 obtain ⟨⟨⟨h1,h2⟩,h3⟩,_⟩:=h
 unfold small12
 have e:(10:Nat) ^ 12=1000000000000:=by decide
 omega
theorem shw_eds {E:List Ed} (g:GoodE E):shw (.lst (E.map dT))=true:=by
 rw [rows3]
 refine shw_rows (fun r m=>?_) (by rw [List.length_map];have:=g.few;omega)
 obtain ⟨p,mp,rfl⟩:=List.mem_map.mp m
 obtain ⟨h1,h2,h3⟩:=ok_small (g.ok p mp)
 refine ⟨Nat.le_refl 3,fun i mi=>?_⟩
 unfold row3 at mi
 simp only [List.mem_cons,List.not_mem_nil,or_false] at mi
 rcases mi with rfl | rfl | rfl
 ·exact h1
 ·exact h2
 ·exact h3
theorem rp_l {ds:List D}{f:EF}{ρ:Rho}{t:Tag} (h:f ρ=some (.lst ds,t)) (hs:shw (.lst ds)=true):e1 oReprB f ρ=some (.str (py (.lst ds)).shown,.own):=by
 rw [s_e1,h,s_k1]
 show Option.map _ (oRepr (.lst ds))=_
 rw [s_repr hs (dep_lst _)];rfl
theorem rp_f {ds:List D}{f:EF}{ρ:Rho}{t:Tag} (h:f ρ=some (.fls ds,t)) (hs:shw (.lst ds)=true):e1 oReprB f ρ=some (.str (py (.lst ds)).shown,.own):=by
 rw [s_e1,h,s_k1]
 show Option.map _ (if shw (.fls ds)=true then some (D.str (py (.fls ds)).shown) else none)=_
 rw [if_pos (by rw [shw_fls];exact hs),py_fls];rfl
structure GoodC (C:List Ch):Prop where
 len:C.length≤60
 ls:∀ c∈C,c.2.1.length≤60∧∀ i∈c.2.1,small12 i
 es:∀ c∈C,GoodE c.2.2
def rR (C:List Ch) (s2 s3 s4 s5 s6:Slot):Rho:=[some (obj C,.sh []),some (.lst (C.map spc),.sh []),s2,s3,s4,s5,s6]
def bT:SF:=(sSeq (sSet 5 (eMeth "Changes" "leans_of" F_Changes_leans_of (eVar 0) (aCons (e2 oAdd (eVar 2) (eC (.int 1))) aNil))) (sSeq (sSet 6 (eMeth "Changes" "edits_of" F_Changes_edits_of (eVar 0) (aCons (e2 oAdd (eVar 2) (eC (.int 1))) aNil))) (sSeq (sIf (tOr2 (tV (e2 oNe (e1 oReprB (eVar 5)) (e1 oReprB (e2 oIx (eVar 3) (eC (.int 1)))))) (tV (e2 oNe (e1 oReprB (eVar 6)) (e1 oReprB (e2 oIx (eVar 3) (eC (.int 2))))))) (sRet (eC (.bl false))) sNx) (sSeq (sAppO 5 (eC (.int 1))) (sClr 6)))))
theorem step_T {C:List Ch}{c:Ch}{j t:Nat}{s5 s6:Slot} (g:GoodC C) (h:C[j]? = some c) :
  bT (rR C (some (.int j,.own)) (some (spc c,.own)) (some (.int t,.sh [])) s5 s6)=some (.nx (rR C (some (.int j,.own)) (some (spc c,.own)) (some (.int t,.sh [])) (some (.lst (c.2.1.map D.int++[.int 1]),.own)) (some (.lst [],.own)))):=by
 have mc:c∈C:=List.mem_of_getElem? h
 obtain ⟨l1,l2⟩:=g.ls c mc
 have hi:=shw_ints l2 l1
 have he:=shw_eds (g.es c mc)
 have g1:sSet 5 (eMeth "Changes" "leans_of" F_Changes_leans_of (eVar 0) (aCons (e2 oAdd (eVar 2) (eC (.int 1))) aNil)) (rR C (some (.int j,.own)) (some (spc c,.own)) (some (.int t,.sh [])) s5 s6)=some (.nx (rR C (some (.int j,.own)) (some (spc c,.own)) (some (.int t,.sh [])) (some (iL c.2.1,.own)) s6)):=by
  rw [s_set,m_one (C:=C) (t:=.sh []) (t2:=.own) (x:=.int ((j:Int) + 1)) rfl rfl (f_leans h)];rfl
 have g2:sSet 6 (eMeth "Changes" "edits_of" F_Changes_edits_of (eVar 0) (aCons (e2 oAdd (eVar 2) (eC (.int 1))) aNil)) (rR C (some (.int j,.own)) (some (spc c,.own)) (some (.int t,.sh [])) (some (iL c.2.1,.own)) s6)=some (.nx (rR C (some (.int j,.own)) (some (spc c,.own)) (some (.int t,.sh [])) (some (iL c.2.1,.own)) (some (eL c.2.2,.own)))):=by
  rw [s_set,m_one (C:=C) (t:=.sh []) (t2:=.own) (x:=.int ((j:Int) + 1)) rfl rfl (f_edits h)];rfl
 have g3:tOr2 (tV (e2 oNe (e1 oReprB (eVar 5)) (e1 oReprB (e2 oIx (eVar 3) (eC (.int 1)))))) (tV (e2 oNe (e1 oReprB (eVar 6)) (e1 oReprB (e2 oIx (eVar 3) (eC (.int 2)))))) (rR C (some (.int j,.own)) (some (spc c,.own)) (some (.int t,.sh [])) (some (iL c.2.1,.own)) (some (eL c.2.2,.own)))=some (false||false):=by
  refine s_or2 ?_ ?_
  ·rw [s_tV,s_e2,rp_l (ds:=c.2.1.map D.int) (t:=.sh [5]) rfl hi,rp_f (ix_1 (c:=c) (t:=.sh [3]) rfl) hi,s_k2,ne_str];rfl
  ·rw [s_tV,s_e2,rp_l (ds:=c.2.2.map dT) (t:=.sh [6]) rfl he,rp_f (ix_2 (c:=c) (t:=.sh [3]) rfl) he,s_k2,ne_str];rfl
 have g4:sAppO 5 (eC (.int 1)) (rR C (some (.int j,.own)) (some (spc c,.own)) (some (.int t,.sh [])) (some (iL c.2.1,.own)) (some (eL c.2.2,.own)))=some (.nx (rR C (some (.int j,.own)) (some (spc c,.own)) (some (.int t,.sh [])) (some (.lst (c.2.1.map D.int++[.int 1]),.own)) (some (eL c.2.2,.own)))):=by
  show (if ((isOwn Tag.own||imm (.int 1))&&decide ((c.2.1.map D.int).length < sizeLine))=true then _ else none)=_
  rw [if_pos (by rw [List.length_map,decide_eq_true (size_le (by omega))];rfl)]
  rfl
 have g5:sClr 6 (rR C (some (.int j,.own)) (some (spc c,.own)) (some (.int t,.sh [])) (some (.lst (c.2.1.map D.int++[.int 1]),.own)) (some (eL c.2.2,.own)))=some (.nx (rR C (some (.int j,.own)) (some (spc c,.own)) (some (.int t,.sh [])) (some (.lst (c.2.1.map D.int++[.int 1]),.own)) (some (.lst [],.own)))):=by
  show (if immAll (c.2.2.map dT)=true then _ else none)=_
  rw [if_pos (imm_eds _)]
  rfl
 unfold bT
 rw [s_seq,g1,s_seqN,s_seq,g2,s_seqN,s_seq,s_if,g3]
 show seqK _ (sNx _)=_
 rw [s_nx,s_seqN,s_seq,g4,s_seqN,g5]
def bR:SF:=(sSeq (sIf (tNot1 (tV (eCall F_L_whole (aCons (eMeth "Changes" "rank_of" F_Changes_rank_of (eVar 0) (aCons (e2 oAdd (eVar 2) (eC (.int 1))) aNil)) (aCons (e2 oIx (eVar 3) (eC (.int 0))) aNil))))) (sRet (eC (.bl false))) sNx) (sFor (iR1 (eC (.int 2))) (gN 4) bT))
theorem step_R {C:List Ch}{c:Ch}{j:Nat}{s4 s5 s6:Slot} (g:GoodC C) (h:C[j]? = some c):∃ t4 t5 t6,bR (rR C (some (.int j,.own)) (some (spc c,.own)) s4 s5 s6)=some (.nx (rR C (some (.int j,.own)) (some (spc c,.own)) t4 t5 t6)):=by
 have g1:tNot1 (tV (eCall F_L_whole (aCons (eMeth "Changes" "rank_of" F_Changes_rank_of (eVar 0) (aCons (e2 oAdd (eVar 2) (eC (.int 1))) aNil)) (aCons (e2 oIx (eVar 3) (eC (.int 0))) aNil)))) (rR C (some (.int j,.own)) (some (spc c,.own)) s4 s5 s6)=some false:=by
  rw [s_not,s_tV,s_call,s_aCons,s_aCons,m_one (C:=C) (t:=.sh []) (t2:=.own) (x:=.int ((j:Int) + 1)) rfl rfl (f_rank h),ix_0 (c:=c) (t:=.sh [3]) rfl,s_aNil,s_consK,s_consK,s_bind]
  simp only [List.map_cons,List.map_nil]
  rw [f_whole,beq_self_eq_true];rfl
 obtain ⟨ρ',q1,t4,t5,t6,rfl⟩:=loop_nx (g:=gN 4) (t:=.sh []) (f:=bT) (fun _ ρ=>∃ s4 s5 s6,ρ=rR C (some (.int j,.own)) (some (spc c,.own)) s4 s5 s6)
  (ds:=(List.range (2:Int).toNat).map fun i:Nat=>D.int (0 + (i:Int))) (ρ:=rR C (some (.int j,.own)) (some (spc c,.own)) s4 s5 s6) (n:=0) ⟨s4,s5,s6,rfl⟩ (fun i ρ d hd ⟨u4,u5,u6,e⟩=>by
   subst e
   obtain ⟨rfl,_⟩:=range_at hd
   exact ⟨rR C (some (.int j,.own)) (some (spc c,.own)) (some (.int i,.sh [])) u5 u6,_,rfl,.inl (step_T g h),_,_,_,rfl⟩)
 refine ⟨t4,t5,t6,?_⟩
 unfold bR
 rw [s_seq,s_if,g1]
 show seqK _ (sNx _)=_
 rw [s_nx,s_seqN,for_nx0 (ir1 (t:=.own) rfl (by decide)) q1]
theorem f_right {C:List Ch} (g:GoodC C):F_L_right [obj C,.lst (C.map spc)]=some (.bl true):=by
 refine runF_rt rfl ?_
 show B_L_right (rR C none none none none none)=_
 have e:B_L_right=sSeq (sIf (tNot1 (tV (eCall F_L_whole (aCons (eMeth "Changes" "many" F_Changes_many (eVar 0) aNil) (aCons (e1 oLen (eVar 1)) aNil))))) (sRet (eC (.bl false))) sNx) (sSeq (sFor (iEnF (eVar 1)) (gT (gsCons (gN 2) (gsCons (gN 3) gsNil))) bR) (sRet (eC (.bl true)))):=rfl
 have g1:tNot1 (tV (eCall F_L_whole (aCons (eMeth "Changes" "many" F_Changes_many (eVar 0) aNil) (aCons (e1 oLen (eVar 1)) aNil)))) (rR C none none none none none)=some false:=by
  have v1:eVar 1 (rR C none none none none none)=some (.lst (C.map spc),.sh []):=rfl
  rw [s_not,s_tV,s_call,s_aCons,s_aCons,m_many (C:=C) (t:=.sh []) rfl,s_e1,v1,s_k1,s_lenL,List.length_map]
  show (kV (Option.bind (some [((.int (C.length:Int),.own):D×Tag),(.int (C.length:Int),.own)]) fun ps=>(F_L_whole (ps.map (·.1))).map fun d=>(d,Tag.own))).map (fun b=>!b)=_
  rw [s_bind]
  simp only [List.map_cons,List.map_nil]
  rw [f_whole,beq_self_eq_true];rfl
 have hen:iEnF (eVar 1) (rR C none none none none none)=some ((List.range C.length).map fun i:Nat=>D.tup [.int i,(C.map spc).getD i .non],.sh []):=by
  show (if immAll (C.map spc)=true then some ((List.range (C.map spc).length).map fun i:Nat=>D.tup [.int i,(C.map spc).getD i .non],joinA [(.lst (C.map spc),.sh [])]) else none)=_
  rw [if_pos (imm_spcs C),List.length_map];rfl
 obtain ⟨ρ',q1,t2,t3,t4,t5,t6,rfl⟩:=loop_nx (g:=gT (gsCons (gN 2) (gsCons (gN 3) gsNil))) (t:=.sh []) (f:=bR) (fun _ ρ=>∃ s2 s3 s4 s5 s6,ρ=rR C s2 s3 s4 s5 s6)
  (ds:=(List.range C.length).map fun i:Nat=>D.tup [.int i,(C.map spc).getD i .non]) (ρ:=rR C none none none none none) (n:=0) ⟨none,none,none,none,none,rfl⟩ (fun j ρ d hd ⟨s2,s3,s4,s5,s6,e⟩=>by
   subst e
   rw [List.getElem?_map] at hd
   obtain ⟨c,hc,hd⟩:∃ c,C[j]? = some c∧d=D.tup [.int j,spc c]:=by
    cases er:(List.range C.length)[j]? with
    | none=>rw [er] at hd;cases hd
    | some i=>
     obtain ⟨hi,ei⟩:=List.getElem?_eq_some_iff.mp er
     rw [List.getElem_range] at ei
     rw [List.length_range] at hi
     subst ei
     rw [er] at hd
     refine ⟨C[j],List.getElem?_eq_getElem hi,(Option.some.inj hd).symm.trans ?_⟩
     show D.tup [.int (j:Int),(C.map spc).getD j .non]=_
     rw [List.getD_eq_getElem?_getD (l:=C.map spc),List.getElem?_map,List.getElem?_eq_getElem hi];rfl
   subst hd
   obtain ⟨t4,t5,t6,st⟩:=step_R (s4:=s4) (s5:=s5) (s6:=s6) g hc
   refine ⟨rR C (some (.int j,.own)) (some (spc c,.own)) s4 s5 s6,_,?_,.inl st,_,_,_,_,_,rfl⟩
   show (if imm (.int j)=true then (gN 2 (.int j) .own (rR C s2 s3 s4 s5 s6)).bind fun ρ'=>(if imm (spc c)=true then (gN 3 (spc c) .own ρ').bind fun ρ'=>gsNil [] ρ' else none) else none)=_
   rw [imm_spc];rfl)
 rw [e,s_seq,s_if,g1]
 show seqK _ (sNx _)=_
 rw [s_nx,s_seqN,s_seq,for_nx hen q1]
 rfl
theorem mk_good {n:Nat}{r:Int}{l:List Int}{E:List Ed} (hr:0≤r∧r≤9) (hl:GoodL l n) (hE:GoodE E):mkB n r l E=true:=by
 unfold mkB
 rw [hE.eds,ris_true hl.inc,show (l.all fun x=>inR x 1 n)=true from List.all_eq_true.mpr fun x m=>by unfold inR;rw [decide_eq_true (hl.bd x m).1,decide_eq_true (hl.bd x m).2];rfl,decide_eq_true (show (E.length:Int)≤20 by have:=hE.few;omega)]
 unfold inR
 rw [decide_eq_true hr.1,decide_eq_true hr.2];rfl
theorem goodL_nil {n:Nat}:GoodL [] n:=⟨List.Pairwise.nil,(fun x m=>nomatch m),Nat.zero_le _⟩
theorem GoodC.add {C:List Ch}{c:Ch} (g:GoodC C) (hC:C.length < 60) (hl:c.2.1.length≤60∧∀ i∈c.2.1,small12 i) (hE:GoodE c.2.2):GoodC (C++[c]):=by
 refine ⟨by rw [List.length_append,List.length_singleton];omega,fun d m=>?_,fun d m=>?_⟩
 ·rcases List.mem_append.mp m with m | m
  ·exact g.ls d m
  ·cases List.mem_singleton.mp m;exact hl
 ·rcases List.mem_append.mp m with m | m
  ·exact g.es d m
  ·cases List.mem_singleton.mp m;exact hE
theorem goodC_nil:GoodC []:=⟨by simp,fun c m=>(nomatch m),fun c m=>(nomatch m)⟩
def rW (ns:List Int) (C C2:List Ch) (s5 s6 s7 s8:Slot):Rho:=[some (dI ns,.sh []),some (obj C,.own),some (obj C2,.own),some (.lst (C.map spc),.own),some (.lst (C2.map spc),.own),s5,s6,s7,s8]
def bL:SF:=(sSeq (sSet 6 (eTup (aCons (eCall F_L_draw (aCons (eVar 0) (aCons (eVar 5) (aCons (eC (.int 10247)) (aCons (eC (.int 10)) aNil))))) (aCons (eFrz (eCall F_L_leans_of (aCons (eVar 0) (aCons (eVar 5) (aCons (e1 oLen (eVar 3)) aNil))))) (aCons (eFrz (eCall F_L_edits_of (aCons (eVar 0) (aCons (eVar 5) aNil)))) aNil))))) (sSeq (sIfZ (tNotZ (xCallPP 1 3 F_L_added (aCons (eVar 6) aNil))) (sRet (eC (.bl false))) sNx) (sIfZ (tAndZ (tV (e2 oEq (e2 oMod (eVar 5) (eC (.int 2))) (eC (.int 1)))) (tNotZ (xCallPP 2 4 F_L_added (aCons (eTup (aCons (e2 oIx (eVar 6) (eC (.int 0))) (aCons (eFrz (eLst aNil)) (aCons (e2 oIx (eVar 6) (eC (.int 2))) aNil)))) aNil)))) (sRet (eC (.bl false))) sNx)))
theorem step_L {ns:List Int}{C C2:List Ch}{j:Nat}{s6:Slot} (hj:j < 60) (hC:C.length=j) (hC2:C2.length≤j) (g:GoodC C) (g2:GoodC C2) :
  ∃ C' C2' s6',bL (rW ns C C2 (some (.int j,.sh [])) s6 none none)=some (.nx (rW ns C' C2' (some (.int j,.sh [])) s6' none none))∧C'.length=j + 1∧C2'.length≤j + 1∧GoodC C'∧GoodC C2':=by
 obtain ⟨l,hl,gl⟩:=f_leans_of (ns:=ns) (k:=(j:Int)) (n:=C.length) (by omega) (by omega)
 obtain ⟨E,hE,gE⟩:=f_edits_of (ns:=ns) (k:=(j:Int)) (by omega)
 have hr:=draw_lt (ns:=ns) (k:=(j:Int)) (p:=10247) (m:=10) (by omega)
 generalize hrr:draw ns (j:Int) 10247 10=r at hr
 have few:=gl.few
 have fewE:=gE.few
 have lsm:∀ i∈l,small12 i:=fun i m=>by
  have:=gl.bd i m
  unfold small12
  have e:(10:Nat) ^ 12=1000000000000:=by decide
  omega
 have q1:sSet 6 (eTup (aCons (eCall F_L_draw (aCons (eVar 0) (aCons (eVar 5) (aCons (eC (.int 10247)) (aCons (eC (.int 10)) aNil))))) (aCons (eFrz (eCall F_L_leans_of (aCons (eVar 0) (aCons (eVar 5) (aCons (e1 oLen (eVar 3)) aNil))))) (aCons (eFrz (eCall F_L_edits_of (aCons (eVar 0) (aCons (eVar 5) aNil)))) aNil)))) (rW ns C C2 (some (.int j,.sh [])) s6 none none)=some (.nx (rW ns C C2 (some (.int j,.sh [])) (some (spc (r,l,E),.own)) none none)):=by
  generalize hρ:rW ns C C2 (some (.int j,.sh [])) s6 none none=ρ
  have v0:eVar 0 ρ=some (dI ns,.sh []):=by rw [← hρ];rfl
  have v5:eVar 5 ρ=some (.int j,.sh []):=by rw [← hρ];rfl
  have v3:eVar 3 ρ=some (.lst (C.map spc),.sh [3]):=by rw [← hρ];rfl
  have w1:eCall F_L_draw (aCons (eVar 0) (aCons (eVar 5) (aCons (eC (.int 10247)) (aCons (eC (.int 10)) aNil)))) ρ=some (.int r,.own):=by
   rw [dr (ns:=ns) (j:=(j:Int)) (m:=10) v0 v5 rfl (by omega) (by omega) (by omega),hrr]
  have w2:eFrz (eCall F_L_leans_of (aCons (eVar 0) (aCons (eVar 5) (aCons (e1 oLen (eVar 3)) aNil)))) ρ=some (.fls (l.map D.int),.own):=by
   have c:eCall F_L_leans_of (aCons (eVar 0) (aCons (eVar 5) (aCons (e1 oLen (eVar 3)) aNil))) ρ=some (.lst (l.map D.int),.own):=by
    rw [s_call,s_aCons,s_aCons,s_aCons,v0,v5,s_e1,v3,s_k1,s_lenL,List.length_map]
    show (Option.bind (some [((dI ns,.sh []):D×Tag),(.int j,.sh []),(.int (C.length:Int),.own)]) fun ps=>(F_L_leans_of (ps.map (·.1))).map fun d=>(d,Tag.own))=_
    rw [s_bind]
    simp only [List.map_cons,List.map_nil]
    rw [hl];rfl
   unfold eFrz
   rw [c]
   dsimp only
   rw [if_pos (imm_ints l)]
  have w3:eFrz (eCall F_L_edits_of (aCons (eVar 0) (aCons (eVar 5) aNil))) ρ=some (.fls (E.map dT),.own):=by
   have c:eCall F_L_edits_of (aCons (eVar 0) (aCons (eVar 5) aNil)) ρ=some (.lst (E.map dT),.own):=by
    rw [s_call,s_aCons,s_aCons,v0,v5,s_aNil,s_consK,s_consK,s_bind]
    simp only [List.map_cons,List.map_nil]
    rw [hE];rfl
   unfold eFrz
   rw [c]
   dsimp only
   rw [if_pos (imm_eds E)]
  rw [s_set,s_tup,s_aCons,s_aCons,s_aCons,w1,w2,w3,← hρ]
  rfl
 have mk1:mkB C.length r l E=true:=mk_good (by omega) gl gE
 have q2:xCallPP 1 3 F_L_added (aCons (eVar 6) aNil) (rW ns C C2 (some (.int j,.sh [])) (some (spc (r,l,E),.own)) none none)=some (.bl true,rW ns (C++[(r,l,E)]) C2 (some (.int j,.sh [])) (some (spc (r,l,E),.own)) none none):=by
  generalize hρ:rW ns C C2 (some (.int j,.sh [])) (some (spc (r,l,E),.own)) none none=ρ
  have u1:ρ[1]? = some (some (obj C,.own)):=by rw [← hρ];rfl
  have u3:ρ[3]? = some (some (.lst (C.map spc),.own)):=by rw [← hρ];rfl
  have a:aCons (eVar 6) aNil ρ=some [(spc (r,l,E),.sh [6])]:=by rw [← hρ];rfl
  unfold xCallPP
  rw [u1,u3,a]
  dsimp only
  rw [if_pos ⟨by decide,rfl,rfl⟩]
  simp only [List.map_cons,List.map_nil]
  rw [f_Ladded (c:=(r,l,E)) (by dsimp only;omega) (by dsimp only;omega) mk1 (by omega),← hρ]
  rfl
 have gC:GoodC (C++[(r,l,E)]):=g.add (by omega) ⟨by dsimp only;omega,lsm⟩ gE
 have c3:∃ y,tV (e2 oEq (e2 oMod (eVar 5) (eC (.int 2))) (eC (.int 1))) (rW ns (C++[(r,l,E)]) C2 (some (.int j,.sh [])) (some (spc (r,l,E),.own)) none none)=some y:=by
  have v5:eVar 5 (rW ns (C++[(r,l,E)]) C2 (some (.int j,.sh [])) (some (spc (r,l,E),.own)) none none)=some (.int j,.sh []):=rfl
  rw [s_tV,s_e2,s_e2,v5,s_eC,s_eC,s_k2,s_oMod (by omega)]
  exact ⟨_,rfl⟩
 obtain ⟨y,c3⟩:=c3
 have h2:sIfZ (tNotZ (xCallPP 1 3 F_L_added (aCons (eVar 6) aNil))) (sRet (eC (.bl false))) sNx (rW ns C C2 (some (.int j,.sh [])) (some (spc (r,l,E),.own)) none none)=some (.nx (rW ns (C++[(r,l,E)]) C2 (some (.int j,.sh [])) (some (spc (r,l,E),.own)) none none)):=by
  unfold sIfZ tNotZ
  rw [q2];rfl
 unfold bL
 rw [s_seq,q1,s_seqN,s_seq,h2,s_seqN]
 clear q1 q2 h2
 cases y with
 | false=>
  refine ⟨C++[(r,l,E)],C2,some (spc (r,l,E),.own),?_,by rw [List.length_append,List.length_singleton,hC],by omega,gC,g2⟩
  unfold sIfZ tAndZ
  rw [c3];rfl
 | true=>
  have mk2:mkB C2.length r [] E=true:=mk_good (by omega) goodL_nil gE
  have q4:xCallPP 2 4 F_L_added (aCons (eTup (aCons (e2 oIx (eVar 6) (eC (.int 0))) (aCons (eFrz (eLst aNil)) (aCons (e2 oIx (eVar 6) (eC (.int 2))) aNil)))) aNil) (rW ns (C++[(r,l,E)]) C2 (some (.int j,.sh [])) (some (spc (r,l,E),.own)) none none)=some (.bl true,rW ns (C++[(r,l,E)]) (C2++[(r,[],E)]) (some (.int j,.sh [])) (some (spc (r,l,E),.own)) none none):=by
   generalize hρ:rW ns (C++[(r,l,E)]) C2 (some (.int j,.sh [])) (some (spc (r,l,E),.own)) none none=ρ
   have u2:ρ[2]? = some (some (obj C2,.own)):=by rw [← hρ];rfl
   have u4:ρ[4]? = some (some (.lst (C2.map spc),.own)):=by rw [← hρ];rfl
   have v6:eVar 6 ρ=some (spc (r,l,E),.sh [6]):=by rw [← hρ];rfl
   have fz:eFrz (eLst aNil) ρ=some (.fls [],.own):=rfl
   have a:∃ t,(t=Tag.own)∧aCons (eTup (aCons (e2 oIx (eVar 6) (eC (.int 0))) (aCons (eFrz (eLst aNil)) (aCons (e2 oIx (eVar 6) (eC (.int 2))) aNil)))) aNil ρ=some [(spc (r,[],E),t)]:=by
    rw [s_aCons,s_tup,s_aCons,s_aCons,s_aCons,ix_0 v6,ix_2 v6,fz]
    exact ⟨_,rfl,rfl⟩
   obtain ⟨t,rfl,a⟩:=a
   unfold xCallPP
   rw [u2,u4,a]
   dsimp only
   rw [if_pos ⟨by decide,rfl,rfl⟩]
   simp only [List.map_cons,List.map_nil]
   rw [f_Ladded (c:=(r,[],E)) (by simp) (by dsimp only;omega) mk2 (by omega),← hρ]
   rfl
  refine ⟨C++[(r,l,E)],C2++[(r,[],E)],some (spc (r,l,E),.own),?_,by rw [List.length_append,List.length_singleton,hC],by rw [List.length_append,List.length_singleton];omega,gC,g2.add (by omega) ⟨by simp,fun i m=>nomatch m⟩ gE⟩
  unfold sIfZ tAndZ
  rw [c3]
  dsimp only
  unfold tNotZ
  rw [q4];rfl
def bN:SF:=(sSeq (sSet 8 (eIxO (eLst (aCons (eC (.int 0)) (aCons (e2 oAdd (e1 oLen (eVar 3)) (eC (.int 1))) (aCons (e1 oNeg (eC (.int 1))) aNil)))) (e2 oMod (e2 oAdd (eVar 7) (eCall F_L_draw (aCons (eVar 0) (aCons (eC (.int 2)) (aCons (eC (.int 10253)) (aCons (eC (.int 3)) aNil)))))) (eC (.int 3))))) (sIf (tOr2 (tNot1 (tV (eCall F_L_no_change (aCons (eVar 7) (aCons (eVar 1) (aCons (eVar 8) aNil)))))) (tNot1 (tV (eCall F_L_no_change (aCons (eVar 7) (aCons (eVar 2) (aCons (e2 oAdd (e1 oLen (eVar 4)) (eC (.int 1))) aNil))))))) (sRet (eC (.bl false))) sNx))
theorem no_ch {C:List Ch}{w n:Int}{ρ:Rho}{f1 f2 f3:EF}{t1 t2 t3:Tag} (h1:f1 ρ=some (.int w,t1)) (h2:f2 ρ=some (obj C,t2)) (h3:f3 ρ=some (.int n,t3)) (h:inR n 1 C.length=false) (hn:n.natAbs < 2 ^ 64) :
  tNot1 (tV (eCall F_L_no_change (aCons f1 (aCons f2 (aCons f3 aNil))))) ρ=some false:=by
 rw [s_not,s_tV,s_call,s_aCons,s_aCons,s_aCons,h1,h2,h3,s_aNil,s_consK,s_consK,s_consK,s_bind]
 simp only [List.map_cons,List.map_nil]
 rw [f_no_change h hn];rfl
theorem out_n {C:List Ch}{n:Int} (h:n < 1∨(C.length:Int) < n):inR n 1 C.length=false:=by
 unfold inR
 rcases h with h | h
 ·rw [decide_eq_false (by omega)];rfl
 ·rw [decide_eq_false (show ¬ n≤(C.length:Int) by omega),Bool.and_false]
theorem p64:(2:Nat) ^ 64=18446744073709551616:=by decide
theorem step_N {ns:List Int}{C C2:List Ch}{j:Nat}{s5 s6 s8:Slot} (hj:j < 5) (g:GoodC C) (g2:GoodC C2):∃ s8',bN (rW ns C C2 s5 s6 (some (.int j,.sh [])) s8)=some (.nx (rW ns C C2 s5 s6 (some (.int j,.sh [])) s8')):=by
 have hr:=draw_lt (ns:=ns) (k:=2) (p:=10253) (m:=3) (by omega)
 generalize hrr:draw ns 2 10253 3=r at hr
 have p:=p64
 have lc:=g.len
 have lc2:=g2.len
 have q1:∃ n:Int,(n < 1∨(C.length:Int) < n)∧n.natAbs < 2 ^ 64∧sSet 8 (eIxO (eLst (aCons (eC (.int 0)) (aCons (e2 oAdd (e1 oLen (eVar 3)) (eC (.int 1))) (aCons (e1 oNeg (eC (.int 1))) aNil)))) (e2 oMod (e2 oAdd (eVar 7) (eCall F_L_draw (aCons (eVar 0) (aCons (eC (.int 2)) (aCons (eC (.int 10253)) (aCons (eC (.int 3)) aNil)))))) (eC (.int 3)))) (rW ns C C2 s5 s6 (some (.int j,.sh [])) s8)=some (.nx (rW ns C C2 s5 s6 (some (.int j,.sh [])) (some (.int n,.own)))):=by
  generalize hρ:rW ns C C2 s5 s6 (some (.int j,.sh [])) s8=ρ
  have v0:eVar 0 ρ=some (dI ns,.sh []):=by rw [← hρ];rfl
  have v7:eVar 7 ρ=some (.int j,.sh []):=by rw [← hρ];rfl
  have v3:eVar 3 ρ=some (.lst (C.map spc),.sh [3]):=by rw [← hρ];rfl
  have w1:eCall F_L_draw (aCons (eVar 0) (aCons (eC (.int 2)) (aCons (eC (.int 10253)) (aCons (eC (.int 3)) aNil)))) ρ=some (.int r,.own):=by
   rw [dr (ns:=ns) (j:=2) (m:=3) v0 rfl rfl (by omega) (by omega) (by omega),hrr]
  have w2:e2 oMod (e2 oAdd (eVar 7) (eCall F_L_draw (aCons (eVar 0) (aCons (eC (.int 2)) (aCons (eC (.int 10253)) (aCons (eC (.int 3)) aNil)))))) (eC (.int 3)) ρ=some (.int (((j:Int) + r) % 3),.own):=by
   rw [s_e2,s_e2,v7,w1,s_eC,s_k2,s_oAdd]
   show k2 oMod (some (.int ((j:Int) + r),.own)) (some (.int 3,.own))=_
   rw [s_k2,s_oMod (by omega)];rfl
  have w3:eLst (aCons (eC (.int 0)) (aCons (e2 oAdd (e1 oLen (eVar 3)) (eC (.int 1))) (aCons (e1 oNeg (eC (.int 1))) aNil))) ρ=some (.lst [.int 0,.int ((C.length:Int) + 1),.int (-1)],.own):=by
   have l3:e2 oAdd (e1 oLen (eVar 3)) (eC (.int 1)) ρ=some (.int ((C.length:Int) + 1),.own):=by
    rw [s_e2,s_e1,v3,s_k1,s_lenL,List.length_map];rfl
   rw [s_lst,s_aCons,s_aCons,s_aCons,l3];rfl
  have h0:0≤((j:Int) + r) % 3:=Int.emod_nonneg _ (by omega)
  have h3:((j:Int) + r) % 3 < 3:=Int.emod_lt_of_pos _ (by omega)
  generalize ((j:Int) + r) % 3=i at w2 h0 h3
  rw [s_set]
  unfold eIxO
  rw [w3,w2]
  have ci:i=0∨i=1∨i=2:=by omega
  rcases ci with rfl | rfl | rfl
  ·exact ⟨0,.inl (by omega),by omega,by rw [← hρ];rfl⟩
  ·exact ⟨(C.length:Int) + 1,.inr (by omega),by omega,by rw [← hρ];rfl⟩
  ·exact ⟨-1,.inl (by omega),by omega,by rw [← hρ];rfl⟩
 obtain ⟨n,hn,hn2,q1⟩:=q1
 refine ⟨some (.int n,.own),?_⟩
 have q2:tOr2 (tNot1 (tV (eCall F_L_no_change (aCons (eVar 7) (aCons (eVar 1) (aCons (eVar 8) aNil)))))) (tNot1 (tV (eCall F_L_no_change (aCons (eVar 7) (aCons (eVar 2) (aCons (e2 oAdd (e1 oLen (eVar 4)) (eC (.int 1))) aNil)))))) (rW ns C C2 s5 s6 (some (.int j,.sh [])) (some (.int n,.own)))=some (false||false):=by
  refine s_or2 (no_ch (C:=C) (w:=j) (n:=n) (t1:=.sh []) (t2:=.sh [1]) (t3:=.sh [8]) rfl rfl rfl (out_n hn) hn2) (no_ch (C:=C2) (w:=j) (n:=(C2.length:Int) + 1) (t1:=.sh []) (t2:=.sh [2]) (t3:=.own) rfl rfl ?_ (out_n (.inr (by omega))) (by omega))
  have v4:eVar 4 (rW ns C C2 s5 s6 (some (.int j,.sh [])) (some (.int n,.own)))=some (.lst (C2.map spc),.sh [4]):=rfl
  rw [s_e2,s_e1,v4,s_k1,s_lenL,List.length_map];rfl
 unfold bN
 rw [s_seq,q1,s_seqN,s_if,q2]
 rfl
theorem f_law {ns:List Int} (hl:ns.length≤63):F_law [dI ns]=some (.bl true):=by
 refine runF_rt rfl ?_
 show B_law [some (dI ns,.sh []),none,none,none,none,none,none,none,none]=_
 have eB:B_law=sSeq (sSet 1 (eMake "Changes" F_Changes_init aNil)) (sSeq (sSet 2 (eMake "Changes" F_Changes_init aNil)) (sSeq (sSet 3 (eLst aNil)) (sSeq (sSet 4 (eLst aNil)) (sSeq (sIf (tOr2 (tNot1 (tV (eCall F_L_whole (aCons (eMeth "Changes" "many" F_Changes_many (eVar 1) aNil) (aCons (eC (.int 0)) aNil))))) (tNot1 (tV (eCall F_L_no_change (aCons (eCall F_L_draw (aCons (eVar 0) (aCons (eC (.int 1)) (aCons (eC (.int 10243)) (aCons (eC (.int 5)) aNil))))) (aCons (eVar 1) (aCons (eC (.int 1)) aNil))))))) (sRet (eC (.bl false))) sNx) (sSeq (sFor (iR1 (e2 oMin2 (eC (.int 60)) (e1 oLen (eVar 0)))) (gN 5) bL) (sSeq (sFor (iR1 (eC (.int 5))) (gN 7) bN) (sRet (eAnd (eCall F_L_right (aCons (eVar 1) (aCons (eVar 3) aNil))) (eCall F_L_right (aCons (eVar 2) (aCons (eVar 4) aNil))))))))))):=rfl
 have q1:sSet 1 (eMake "Changes" F_Changes_init aNil) [some (dI ns,.sh []),none,none,none,none,none,none,none,none]=some (.nx [some (dI ns,.sh []),some (obj [],.own),none,none,none,none,none,none,none]):=rfl
 have q2:sSet 2 (eMake "Changes" F_Changes_init aNil) [some (dI ns,.sh []),some (obj [],.own),none,none,none,none,none,none,none]=some (.nx [some (dI ns,.sh []),some (obj [],.own),some (obj [],.own),none,none,none,none,none,none]):=rfl
 have q3:sSet 3 (eLst aNil) [some (dI ns,.sh []),some (obj [],.own),some (obj [],.own),none,none,none,none,none,none]=some (.nx [some (dI ns,.sh []),some (obj [],.own),some (obj [],.own),some (.lst [],.own),none,none,none,none,none]):=rfl
 have q4:sSet 4 (eLst aNil) [some (dI ns,.sh []),some (obj [],.own),some (obj [],.own),some (.lst [],.own),none,none,none,none,none]=some (.nx (rW ns [] [] none none none none)):=rfl
 have q5:tOr2 (tNot1 (tV (eCall F_L_whole (aCons (eMeth "Changes" "many" F_Changes_many (eVar 1) aNil) (aCons (eC (.int 0)) aNil))))) (tNot1 (tV (eCall F_L_no_change (aCons (eCall F_L_draw (aCons (eVar 0) (aCons (eC (.int 1)) (aCons (eC (.int 10243)) (aCons (eC (.int 5)) aNil))))) (aCons (eVar 1) (aCons (eC (.int 1)) aNil)))))) (rW ns [] [] none none none none)=some (false||false):=by
  have p:=p64
  refine s_or2 ?_ (no_ch (C:=[]) (w:=draw ns 1 10243 5) (n:=1) (t1:=.own) (t2:=.sh [1]) (t3:=.own) ?_ rfl rfl (out_n (.inr (by simp))) (by decide))
  ·rw [s_not,s_tV,s_call,s_aCons,s_aCons,m_many (C:=[]) (t:=.sh [1]) rfl,s_eC,s_aNil,s_consK,s_consK,s_bind]
   simp only [List.map_cons,List.map_nil]
   rw [f_whole];rfl
  ·exact dr (ns:=ns) (j:=1) (m:=5) (t:=.own) (t':=.own) (ts:=.sh []) rfl rfl rfl (by omega) (by omega) (by omega)
 have hm:∃ n:Nat,n≤60∧iR1 (e2 oMin2 (eC (.int 60)) (e1 oLen (eVar 0))) (rW ns [] [] none none none none)=some ((List.range (n:Int).toNat).map fun i:Nat=>D.int (0 + (i:Int)),.own):=by
  have e:e2 oMin2 (eC (.int 60)) (e1 oLen (eVar 0)) (rW ns [] [] none none none none)=some (.int (if (ns.length:Int) < 60 then (ns.length:Int) else 60),.own):=by
   show (oMin2 (.int 60) (.int ((ns.map D.int).length:Int))).map (fun d=>(d,Tag.own))=_
   rw [List.length_map];rfl
  generalize hM:(if (ns.length:Int) < 60 then (ns.length:Int) else 60)=M at e
  have hM0:0≤M∧M≤60:=by rw [← hM];split <;> omega
  obtain ⟨n,rfl⟩:∃ n:Nat,M=(n:Int):=⟨M.toNat,(Int.toNat_of_nonneg hM0.1).symm⟩
  exact ⟨n,by omega,ir1 e (small_of_le (by omega) (by omega))⟩
 obtain ⟨n,hn,hm⟩:=hm
 obtain ⟨ρ',l1,hP⟩:=loop_nx (g:=gN 5) (t:=.sh []) (f:=bL) (fun j ρ=>∃ C C2 s5 s6,C.length=j∧C2.length≤j∧GoodC C∧GoodC C2∧ρ=rW ns C C2 s5 s6 none none)
  (ds:=(List.range (n:Int).toNat).map fun i:Nat=>D.int (0 + (i:Int))) (ρ:=rW ns [] [] none none none none) (n:=0) ⟨[],[],none,none,rfl,Nat.le_refl _,goodC_nil,goodC_nil,rfl⟩ (fun j ρ d hd hp=>by
   obtain ⟨rfl,hj⟩:=range_at hd
   obtain ⟨C,C2,s5,s6,h1,h2,g1,g2,rfl⟩:=hp
   rw [Int.toNat_natCast] at hj
   rw [Nat.zero_add] at h1 h2 ⊢
   obtain ⟨C',C2',s6',st,k1,k2,k3,k4⟩:=step_L (ns:=ns) (s6:=s6) (by omega) h1 h2 g1 g2
   exact ⟨rW ns C C2 (some (.int j,.sh [])) s6 none none,_,rfl,.inl st,C',C2',_,s6',k1,k2,k3,k4,rfl⟩)
 obtain ⟨C,C2,s5,s6,_,_,g1,g2,rfl⟩:=hP
 obtain ⟨ρ',l2,s7,s8,rfl⟩:=loop_nx (g:=gN 7) (t:=.sh []) (f:=bN) (fun _ ρ=>∃ s7 s8,ρ=rW ns C C2 s5 s6 s7 s8)
  (ds:=(List.range (5:Int).toNat).map fun i:Nat=>D.int (0 + (i:Int))) (ρ:=rW ns C C2 s5 s6 none none) (n:=0) ⟨none,none,rfl⟩ (fun j ρ d hd hp=>by
   obtain ⟨rfl,hj⟩:=range_at hd
   obtain ⟨s7,s8,rfl⟩:=hp
   have hj:j < 5:=hj
   obtain ⟨s8',st⟩:=step_N (ns:=ns) (s5:=s5) (s6:=s6) (s8:=s8) hj g1 g2
   exact ⟨rW ns C C2 s5 s6 (some (.int j,.sh [])) s8,_,rfl,.inl st,_,s8',rfl⟩)
 have z1:eCall F_L_right (aCons (eVar 1) (aCons (eVar 3) aNil)) (rW ns C C2 s5 s6 s7 s8)=some (.bl true,.own):=by
  have v1:eVar 1 (rW ns C C2 s5 s6 s7 s8)=some (obj C,.sh [1]):=rfl
  have v3:eVar 3 (rW ns C C2 s5 s6 s7 s8)=some (.lst (C.map spc),.sh [3]):=rfl
  rw [s_call,s_aCons,s_aCons,v1,v3,s_aNil,s_consK,s_consK,s_bind]
  simp only [List.map_cons,List.map_nil]
  rw [f_right g1];rfl
 have z2:eCall F_L_right (aCons (eVar 2) (aCons (eVar 4) aNil)) (rW ns C C2 s5 s6 s7 s8)=some (.bl true,.own):=by
  have v1:eVar 2 (rW ns C C2 s5 s6 s7 s8)=some (obj C2,.sh [2]):=rfl
  have v3:eVar 4 (rW ns C C2 s5 s6 s7 s8)=some (.lst (C2.map spc),.sh [4]):=rfl
  rw [s_call,s_aCons,s_aCons,v1,v3,s_aNil,s_consK,s_consK,s_bind]
  simp only [List.map_cons,List.map_nil]
  rw [f_right g2];rfl
 rw [eB,s_seq,q1,s_seqN,s_seq,q2,s_seqN,s_seq,q3,s_seqN,s_seq,q4,s_seqN,s_seq,s_if,q5]
 show seqK _ (sNx _)=_
 rw [s_nx,s_seqN,s_seq,for_nx0 hm l1,s_seqN,s_seq,for_nx0 (ir1 (t:=.own) rfl (by decide)) l2,s_seqN,s_ret,s_eAnd,z1,s_eAndT,z2]
 rfl
end K11
namespace HT
open PySem PySem.W PyProof.Rows
def oddL:List Obj→List Obj
 | []=>[]
 | [a]=>[a]
 | a::_::l=>a::oddL l
def ofL:Nat→List Obj→BT
 | 0,_=>.nil
 | _ + 1,[]=>.nil
 | k + 1,o::l=>.node o (ofL k (oddL l)) (ofL k (oddL l.tail))
def runT (tb:String→Option Builtin) (p:Program) (w:World) (n₀:Nat) (ann:Option Value):Nat→SharedT→Thread→Option SharedT
 | 0,_,_=>none
 | k + 1,s,t=>match through t with
  | true=>some s
  | false=>match stepOk n₀ ann t with
   | false=>none
   | true=>match stepT (denote tb) p w s t with
    | none=>none
    | some (s',t')=>runT tb p w n₀ ann k s' t'
theorem runT_is {tb:String→Option Builtin}{p:Program}{w:World}{n₀:Nat}{ann:Option Value}:∀ {k:Nat}{s s':SharedT}{t:Thread},runT tb p w n₀ ann k s t=some s'→topRun tb p w n₀ ann k s.abs t=some s'.abs
 | 0,_,_,_,h=>by cases h
 | k + 1,s,s',t,h=>by
  unfold runT at h
  unfold topRun
  cases e:through t with
  | true=>rw [e] at h;cases h;rfl
  | false=>
   rw [e] at h
   cases o:stepOk n₀ ann t with
   | false=>rw [o] at h;cases h
   | true=>
    rw [o] at h
    cases g:stepT (denote tb) p w s t with
    | none=>rw [g] at h;cases h
    | some r=>obtain ⟨s2,t2⟩:=r;rw [g] at h;rw [stepT_spec g];exact runT_is h
noncomputable def bootT (P:Params):BT:=ofL 12 (boot_heap P).objs.toList
def bootN:Nat:=11
theorem boot_size (P:Params):(boot_heap P).objs.size=bootN:=by kernel_rfl
theorem boot_abs (P:Params):absHeap (bootT P) bootN (boot_heap P).life=boot_heap P:=by kernel_rfl
noncomputable def s0T (P:Params) (os:OsState):SharedT:=⟨bootT P,bootN,(boot_heap P).life,Array.mk [],boot_drawn,boot_toks,os⟩
theorem left_T {p q:Program}{loose:List Str}{Xt:Shared→Bool}{α:Type}{Yf:Shared→α}{Ya:World→α}{N:Nat}{ann:Option Value}
  (he:opening p=plainProg p.main.scope.names) (hf:∀ s,fenceModules? p s=some s) (hN:Nat.ble 600 N=true)
  (hz:∀ P:Params,((boot_heap P).isNs mainGlobals,(boot_heap P).nsMap mainGlobals "__annotations__")=(true,ann))
  (h:∀ (w:World) (os:OsState),(runT treeTable p w bootN ann N (s0T w.params os) (topStub p)).map (fun sT=>
    ((staticsOk (importedModules p.main.body) (boot_heap w.params) sT.abs.heap&&namesBound p sT.abs.heap&&gensDone sT.abs&&laidKept (boot_heap w.params) sT.abs.heap),openSeen q loose (importedModules p.main.body) Xt true sT.abs,Yf sT.abs))=some (true,openGood q loose,Ya w)) :
  LeftO p q loose Xt Yf Ya N:=fun w=>by
 obtain ⟨⟨hh,gs,d,k,os⟩,e,e'⟩:=Option.map_eq_some_iff.mp (boot_open he hN hf w)
 obtain ⟨rfl,rfl,rfl,rfl⟩:hh=boot_heap w.params∧gs=Array.mk []∧d=boot_drawn∧k=boot_toks:=by simpa using e'
 obtain ⟨z1,z2⟩:_∧_:=by simpa only [Prod.mk.injEq] using hz w.params
 obtain ⟨sT,r,l⟩:=Option.map_eq_some_iff.mp (h w os)
 obtain ⟨l1,l2,l3⟩:_∧_∧_:=by simpa only [Prod.mk.injEq] using l
 have r':=runT_is r
 have ab:(s0T w.params os).abs=⟨boot_heap w.params,Array.mk [],boot_drawn,boot_toks,os⟩:=by
  show Shared.mk (absHeap (bootT w.params) bootN (boot_heap w.params).life) _ _ _ _=_
  rw [boot_abs];rfl
 rw [ab] at r'
 have t:topFrom treeTable p w N ⟨boot_heap w.params,Array.mk [],boot_drawn,boot_toks,os⟩=some sT.abs:=by
  unfold topFrom
  dsimp only
  rw [z1,z2,boot_size,r']
  show (match staticsOk (importedModules p.main.body) (boot_heap w.params) sT.abs.heap&&namesBound p sT.abs.heap&&gensDone sT.abs&&laidKept (boot_heap w.params) sT.abs.heap with | true=>_ | false=>_)=_
  rw [l1]
 unfold openEnds
 rw [e]
 show (topFrom treeTable p w N _).map _=_
 rw [t]
 exact congrArg some (Prod.ext l2 l3)
end HT
namespace K11
open PySem L2 L2.Ev
local macro_rules | `(tactic| walk_at "ba1")=>`(tactic| exact fun _ _ _ _ _ _ us hl=>match us,hl with | [_],_=>rfl)
local macro_rules | `(tactic| walk_at "ba2")=>`(tactic| exact fun _ _ _ _ _ _ us hl=>match us,hl with | [_,_],_=>rfl)
local macro_rules | `(tactic| walk_at "ba3")=>`(tactic| exact fun _ _ _ _ _ _ us hl=>match us,hl with | [_,_,_],_=>rfl)
local macro_rules | `(tactic| walk_at "ba4")=>`(tactic| exact fun _ _ _ _ _ _ us hl=>match us,hl with | [_,_,_,_],_=>rfl)
theorem all_mk {l:PySem.W.OpenLaw}{w:World}{K:PySem.W.Frag}{h:Heap}{mg:Str→Option Value}{fa c_Changes c_LinegateError c_NoAnswer c_NoChange c_NoFit c_NoLook c_NoRow c_NoRule c_NoText c_TooLate c_TooMany:Addr} (X:K.In h) (G:h.Ns mainGlobals mg) (hfa:mg "law"=some (.ref fa))
  {t_GREATEST_RANK t_GREATEST_SLOT t_GREATEST_VALUE t_MOST_CHANGES t_MOST_EDITS:Tok}
  (n_LinegateError:PySem.W.nsIn K mainGlobals "LinegateError"=some (some (.ref c_LinegateError)))
  (n_NoAnswer:PySem.W.nsIn K mainGlobals "NoAnswer"=some (some (.ref c_NoAnswer)))
  (n_NoChange:PySem.W.nsIn K mainGlobals "NoChange"=some (some (.ref c_NoChange)))
  (n_NoFit:PySem.W.nsIn K mainGlobals "NoFit"=some (some (.ref c_NoFit)))
  (n_NoLook:PySem.W.nsIn K mainGlobals "NoLook"=some (some (.ref c_NoLook)))
  (n_NoRow:PySem.W.nsIn K mainGlobals "NoRow"=some (some (.ref c_NoRow)))
  (n_NoRule:PySem.W.nsIn K mainGlobals "NoRule"=some (some (.ref c_NoRule)))
  (n_NoText:PySem.W.nsIn K mainGlobals "NoText"=some (some (.ref c_NoText)))
  (n_TooLate:PySem.W.nsIn K mainGlobals "TooLate"=some (some (.ref c_TooLate)))
  (n_TooMany:PySem.W.nsIn K mainGlobals "TooMany"=some (some (.ref c_TooMany)))
  (x_LinegateError:PySem.W.excIn K c_LinegateError veMro "ValueError.__new__"=true)
  (x_NoChange:PySem.W.excIn K c_NoChange veMro "ValueError.__new__"=true)
  (mb_LinegateError:PySem.W.mroIn K c_LinegateError (.type "BaseException")=some true)
  (mr_NoChange_LinegateError:PySem.W.mroIn K c_NoChange (.ref c_LinegateError)=some true)
  (sg:PySem.W.specialIn K (.builtin "object.__class__") "__get__"=some (some (.builtin "getset_descriptor.__get__")))
  (tk:PySem.W.takesIn K (.builtin "object.__class__")=some true)
  (ga_NoChange:PySem.W.findIn K (.ref c_NoChange) "__getattribute__"=some (some (.builtin "BaseException.__getattribute__")))
  (gh_NoChange:PySem.W.findIn K (.ref c_NoChange) "__getattr__"=some none)
  (at_NoChange:PySem.W.findIn K (.ref c_NoChange) "__class__"=some (some (.builtin "object.__class__")))
  (mo_NoChange:PySem.W.mroIn K c_NoChange (.type "object")=some true)
  (me_NoChange:PySem.W.mroIn K c_NoChange (.type "BaseException")=some true)
  (kt_LinegateError_NoChange:PySem.W.kitOne K (.ref c_NoChange) (.ref c_LinegateError)=some true)
  (kt_NoAnswer_NoChange:PySem.W.kitOne K (.ref c_NoChange) (.ref c_NoAnswer)=some false)
  (kt_NoChange_NoChange:PySem.W.kitOne K (.ref c_NoChange) (.ref c_NoChange)=some true)
  (kt_NoFit_NoChange:PySem.W.kitOne K (.ref c_NoChange) (.ref c_NoFit)=some false)
  (kt_NoLook_NoChange:PySem.W.kitOne K (.ref c_NoChange) (.ref c_NoLook)=some false)
  (kt_NoRow_NoChange:PySem.W.kitOne K (.ref c_NoChange) (.ref c_NoRow)=some false)
  (kt_NoRule_NoChange:PySem.W.kitOne K (.ref c_NoChange) (.ref c_NoRule)=some false)
  (kt_NoText_NoChange:PySem.W.kitOne K (.ref c_NoChange) (.ref c_NoText)=some false)
  (kt_TooLate_NoChange:PySem.W.kitOne K (.ref c_NoChange) (.ref c_TooLate)=some false)
  (kt_TooMany_NoChange:PySem.W.kitOne K (.ref c_NoChange) (.ref c_TooMany)=some false)
  (kt_ValueError_NoChange:PySem.W.kitOne K (.ref c_NoChange) (.type "ValueError")=some true)
  (n_Changes:PySem.W.nsIn K mainGlobals "Changes"=some (some (.ref c_Changes)))
  (pg_Changes:PySem.W.plainGet K c_Changes Str.empty=true)
  (hd_Changes:PySem.W.hasDictIn K c_Changes=true)
  (po_Changes:PySem.W.plainOver K c_Changes=true)
  (sa_Changes:PySem.W.findIn K (.ref c_Changes) "__setattr__"=some (some (.builtin "object.__setattr__")))
  (mk_Changes:PySem.W.makesIn K c_Changes=true)
  (kc_Changes:PySem.W.keepIn K (.ref c_Changes)=true)
  (na_Changes_entries:PySem.W.findIn K (.ref c_Changes) "entries"=some none)
  (l0:GM K c_Changes "__init__" "Changes.__init__" s_Changes_init)
  (l1:GFn K "within" s_within)
  (l2:GM K c_Changes "many" "Changes.many" s_Changes_many)
  (l3:GM K c_Changes "has" "Changes.has" s_Changes_has)
  (l4:GM K c_Changes "entry_of" "Changes.entry_of" s_Changes_entry_ofR)
  (l5:GM K c_Changes "rank_of" "Changes.rank_of" s_Changes_rank_ofR)
  (l6:GM K c_Changes "leans_of" "Changes.leans_of" s_Changes_leans_ofR)
  (l7:GM K c_Changes "edits_of" "Changes.edits_of" s_Changes_edits_ofR)
  (l8:GM K c_Changes "over" "Changes.over" s_Changes_overR)
  (l9:GM K c_Changes "under" "Changes.under" s_Changes_underR)
  (l10:GFn K "_law_kinds" s_L_kinds)
  (l11:GFn K "_law_only" s_L_only)
  (l12:GFn K "_law_no_change" s_L_no_change)
  (l13:GFn K "_law_draw" s_L_draw)
  (l14:GFn K "_law_whole" s_L_whole)
  (l15:GFn K "_law_edits_of" s_L_edits_of)
  (l16:GFn K "_law_leans_of" s_L_leans_of)
  (l17:GFn K "rising" s_rising)
  (l18:GFn K "are_edits" s_are_edits)
  (l19:GM K c_Changes "makes_change" "Changes.makes_change" s_Changes_makes_change)
  (l20:GM K c_Changes "added" "Changes.added" s_Changes_added)
  (l21:GFn K "_law_added" s_L_added)
  (l22:GM K c_Changes "entry_of" "Changes.entry_of" s_Changes_entry_of)
  (l23:GM K c_Changes "rank_of" "Changes.rank_of" s_Changes_rank_of)
  (l24:GM K c_Changes "leans_of" "Changes.leans_of" s_Changes_leans_of)
  (l25:GM K c_Changes "edits_of" "Changes.edits_of" s_Changes_edits_of)
  (l26:GFn K "_law_right" s_L_right)
  (l27:GFn K "law" s_law)
  (z_GREATEST_RANK:PySem.W.nsIn K mainGlobals "GREATEST_RANK"=some (some (.int 9 t_GREATEST_RANK)))
  (z_GREATEST_SLOT:PySem.W.nsIn K mainGlobals "GREATEST_SLOT"=some (some (.int 999 t_GREATEST_SLOT)))
  (z_GREATEST_VALUE:PySem.W.nsIn K mainGlobals "GREATEST_VALUE"=some (some (.int 1000000000 t_GREATEST_VALUE)))
  (z_MOST_CHANGES:PySem.W.nsIn K mainGlobals "MOST_CHANGES"=some (some (.int 60 t_MOST_CHANGES)))
  (z_MOST_EDITS:PySem.W.nsIn K mainGlobals "MOST_EDITS"=some (some (.int 20 t_MOST_EDITS)))
  (z_ValueError:PySem.W.nsIn K mainGlobals "ValueError"=some none)
  (z_all:PySem.W.nsIn K mainGlobals "all"=some none)
  (z_bool:PySem.W.nsIn K mainGlobals "bool"=some none)
  (z_enumerate:PySem.W.nsIn K mainGlobals "enumerate"=some none)
  (z_int:PySem.W.nsIn K mainGlobals "int"=some none)
  (z_isinstance:PySem.W.nsIn K mainGlobals "isinstance"=some none)
  (z_len:PySem.W.nsIn K mainGlobals "len"=some none)
  (z_list:PySem.W.nsIn K mainGlobals "list"=some none)
  (z_min:PySem.W.nsIn K mainGlobals "min"=some none)
  (z_range:PySem.W.nsIn K mainGlobals "range"=some none)
  (z_repr:PySem.W.nsIn K mainGlobals "repr"=some none)
  (z_sorted:PySem.W.nsIn K mainGlobals "sorted"=some none)
  (z_tuple:PySem.W.nsIn K mainGlobals "tuple"=some none)
  (z_zip:PySem.W.nsIn K mainGlobals "zip"=some none)
  : ∃ fd:FuncData,(∀ (s:Shared) (v:Value),BindsTo s fd ⟨[v],[]⟩ [("_law_script",v)])∧∀ base:Heap,K.In base→base.Ns mainGlobals mg→FnOk l.prog w K mg base CX0 6 fa fd ["_law_script"] (spF K F_law):=by
 have g_ValueError:=PySem.W.mg_none_of X G z_ValueError
 have g_all:=PySem.W.mg_none_of X G z_all
 have g_bool:=PySem.W.mg_none_of X G z_bool
 have g_enumerate:=PySem.W.mg_none_of X G z_enumerate
 have g_int:=PySem.W.mg_none_of X G z_int
 have g_isinstance:=PySem.W.mg_none_of X G z_isinstance
 have g_len:=PySem.W.mg_none_of X G z_len
 have g_list:=PySem.W.mg_none_of X G z_list
 have g_min:=PySem.W.mg_none_of X G z_min
 have g_range:=PySem.W.mg_none_of X G z_range
 have g_repr:=PySem.W.mg_none_of X G z_repr
 have g_sorted:=PySem.W.mg_none_of X G z_sorted
 have g_tuple:=PySem.W.mg_none_of X G z_tuple
 have g_zip:=PySem.W.mg_none_of X G z_zip
 have m_GREATEST_RANK:=PySem.W.mg_of X G z_GREATEST_RANK
 have m_GREATEST_SLOT:=PySem.W.mg_of X G z_GREATEST_SLOT
 have m_GREATEST_VALUE:=PySem.W.mg_of X G z_GREATEST_VALUE
 have m_MOST_CHANGES:=PySem.W.mg_of X G z_MOST_CHANGES
 have m_MOST_EDITS:=PySem.W.mg_of X G z_MOST_EDITS
 have m_LinegateError:=PySem.W.mg_of X G n_LinegateError
 have m_NoAnswer:=PySem.W.mg_of X G n_NoAnswer
 have m_NoChange:=PySem.W.mg_of X G n_NoChange
 have m_NoFit:=PySem.W.mg_of X G n_NoFit
 have m_NoLook:=PySem.W.mg_of X G n_NoLook
 have m_NoRow:=PySem.W.mg_of X G n_NoRow
 have m_NoRule:=PySem.W.mg_of X G n_NoRule
 have m_NoText:=PySem.W.mg_of X G n_NoText
 have m_TooLate:=PySem.W.mg_of X G n_TooLate
 have m_TooMany:=PySem.W.mg_of X G n_TooMany
 have X_NoChange:=excCls_of x_NoChange
 have CT_LinegateError:=(catchT_cons n_NoChange (catches_of (shape_of x_NoChange) (shape_of x_LinegateError) mr_NoChange_LinegateError mb_LinegateError) catchT_nil)
 have EK_NoChange:ExcKit K c_NoChange:=⟨ga_NoChange,gh_NoChange,at_NoChange,sg,tk,mo_NoChange,me_NoChange,cls_of_mro mo_NoChange⟩
 have KT_LinegateError:=(kitT_cons n_NoChange EK_NoChange kt_LinegateError_NoChange kitT_nil)
 have KT_NoAnswer:=(kitT_cons n_NoChange EK_NoChange kt_NoAnswer_NoChange kitT_nil)
 have KT_NoChange:=(kitT_cons n_NoChange EK_NoChange kt_NoChange_NoChange kitT_nil)
 have KT_NoFit:=(kitT_cons n_NoChange EK_NoChange kt_NoFit_NoChange kitT_nil)
 have KT_NoLook:=(kitT_cons n_NoChange EK_NoChange kt_NoLook_NoChange kitT_nil)
 have KT_NoRow:=(kitT_cons n_NoChange EK_NoChange kt_NoRow_NoChange kitT_nil)
 have KT_NoRule:=(kitT_cons n_NoChange EK_NoChange kt_NoRule_NoChange kitT_nil)
 have KT_NoText:=(kitT_cons n_NoChange EK_NoChange kt_NoText_NoChange kitT_nil)
 have KT_TooLate:=(kitT_cons n_NoChange EK_NoChange kt_TooLate_NoChange kitT_nil)
 have KT_TooMany:=(kitT_cons n_NoChange EK_NoChange kt_TooMany_NoChange kitT_nil)
 have KT_ValueError:=(kitT_cons n_NoChange EK_NoChange kt_ValueError_NoChange kitT_nil)
 have C_Changes:ClsAt K "Changes" c_Changes:=⟨n_Changes,⟨pg_Changes,hd_Changes,po_Changes,sa_Changes⟩⟩
 have m_Changes:=PySem.W.mg_of X G n_Changes
 refine lawW (sp:=fun _=>spF K F_law) X G hfa l27 (fun _ _ _ _ _ _ _ _=>.of_eq rfl) fun base _ _ _ _ F=>?_
 have W0:=miW l0 mk_Changes kc_Changes (fun F=>ok_Changes_init (P:=l.prog) (w:=w) (mg:=mg) (base:=base) C_Changes na_Changes_entries F) (by walk_at "ba1")
 have W1:=fnW X G l1 (fun F=>ok_within (P:=l.prog) (w:=w) (mg:=mg) (base:=base) g_bool g_int g_isinstance F) (by walk_at "ba3")
 have W2:=mtW l2 (fun F=>ok_Changes_many (P:=l.prog) (w:=w) (mg:=mg) (base:=base) g_len C_Changes na_Changes_entries F) (by walk_at "ba1")
 have W3:=mtW l3 (fun F=>ok_Changes_has (P:=l.prog) (w:=w) (mg:=mg) (base:=base) C_Changes W1 W2 F) (by walk_at "ba2")
 have W4:=mtW l4 (fun F=>ok_Changes_entry_ofR (P:=l.prog) (w:=w) (mg:=mg) (base:=base) m_NoChange X_NoChange n_NoChange C_Changes na_Changes_entries W3 F) (by walk_at "ba2")
 have W5:=mtW l5 (fun F=>ok_Changes_rank_ofR (P:=l.prog) (w:=w) (mg:=mg) (base:=base) C_Changes W4 F) (by walk_at "ba2")
 have W6:=mtW l6 (fun F=>ok_Changes_leans_ofR (P:=l.prog) (w:=w) (mg:=mg) (base:=base) g_list C_Changes W4 F) (by walk_at "ba2")
 have W7:=mtW l7 (fun F=>ok_Changes_edits_ofR (P:=l.prog) (w:=w) (mg:=mg) (base:=base) g_list C_Changes W4 F) (by walk_at "ba2")
 have W8:=mtW l8 (fun F=>ok_Changes_overR (P:=l.prog) (w:=w) (mg:=mg) (base:=base) C_Changes W4 F) (by walk_at "ba2")
 have W9:=mtW l9 (fun F=>ok_Changes_underR (P:=l.prog) (w:=w) (mg:=mg) (base:=base) C_Changes W4 F) (by walk_at "ba2")
 have W10:=fnW X G l10 (fun F=>ok_L_kinds (P:=l.prog) (w:=w) (mg:=mg) (base:=base) g_ValueError g_isinstance m_LinegateError m_NoAnswer m_NoChange m_NoFit m_NoLook m_NoRow m_NoRule m_NoText m_TooLate m_TooMany KT_LinegateError KT_NoAnswer KT_NoChange KT_NoFit KT_NoLook KT_NoRow KT_NoRule KT_NoText KT_TooLate KT_TooMany KT_ValueError F) (by walk_at "ba1")
 have W11:=fnW X G l11 (fun F=>ok_L_only (P:=l.prog) (w:=w) (mg:=mg) (base:=base) g_range F) (by walk_at "ba2")
 have W12:=fnW X G l12 (fun F=>ok_L_no_change (P:=l.prog) (w:=w) (mg:=mg) (base:=base) m_LinegateError CT_LinegateError C_Changes W5 W6 W7 W8 W9 W10 W11 F) (by walk_at "ba3")
 have W13:=fnW X G l13 (fun F=>ok_L_draw (P:=l.prog) (w:=w) (mg:=mg) (base:=base) g_len F) (by walk_at "ba4")
 have W14:=fnW X G l14 (fun F=>ok_L_whole (P:=l.prog) (w:=w) (mg:=mg) (base:=base) g_bool g_int g_isinstance F) (by walk_at "ba2")
 have W15:=fnW X G l15 (fun F=>ok_L_edits_of (P:=l.prog) (w:=w) (mg:=mg) (base:=base) g_range g_sorted W13 F) (by walk_at "ba2")
 have W16:=fnW X G l16 (fun F=>ok_L_leans_of (P:=l.prog) (w:=w) (mg:=mg) (base:=base) g_range W13 F) (by walk_at "ba3")
 have W17:=fnW X G l17 (fun F=>ok_rising (P:=l.prog) (w:=w) (mg:=mg) (base:=base) g_all g_zip F) (by walk_at "ba1")
 have W18:=fnW X G l18 (fun F=>ok_are_edits (P:=l.prog) (w:=w) (mg:=mg) (base:=base) m_GREATEST_SLOT m_GREATEST_VALUE W1 W17 F) (by walk_at "ba1")
 have W19:=mtW l19 (fun F=>ok_Changes_makes_change (P:=l.prog) (w:=w) (mg:=mg) (base:=base) g_all g_len m_GREATEST_RANK m_MOST_EDITS C_Changes W1 W17 W3 W18 F) (by walk_at "ba4")
 have W20:=mtW l20 (fun F=>ok_Changes_added (P:=l.prog) (w:=w) (mg:=mg) (base:=base) g_tuple m_MOST_CHANGES C_Changes na_Changes_entries W19 W2 F) (by walk_at "ba4")
 have W21:=fnW X G l21 (fun F=>ok_L_added (P:=l.prog) (w:=w) (mg:=mg) (base:=base) g_isinstance g_len g_list g_tuple C_Changes W20 W14 F) (by walk_at "ba3")
 have W22:=mtW l22 (fun F=>ok_Changes_entry_of (P:=l.prog) (w:=w) (mg:=mg) (base:=base) C_Changes na_Changes_entries W3 F) (by walk_at "ba2")
 have W23:=mtW l23 (fun F=>ok_Changes_rank_of (P:=l.prog) (w:=w) (mg:=mg) (base:=base) C_Changes W22 F) (by walk_at "ba2")
 have W24:=mtW l24 (fun F=>ok_Changes_leans_of (P:=l.prog) (w:=w) (mg:=mg) (base:=base) g_list C_Changes W22 F) (by walk_at "ba2")
 have W25:=mtW l25 (fun F=>ok_Changes_edits_of (P:=l.prog) (w:=w) (mg:=mg) (base:=base) g_list C_Changes W22 F) (by walk_at "ba2")
 have W26:=fnW X G l26 (fun F=>ok_L_right (P:=l.prog) (w:=w) (mg:=mg) (base:=base) g_enumerate g_len g_range g_repr C_Changes W14 W2 W23 W24 W25 F) (by walk_at "ba2")
 exact ok_law g_len g_min g_range C_Changes W0 m_Changes W12 W13 W14 W2 W15 W16 W21 W26 F
theorem walk {l:PySem.W.OpenLaw}{q:Program}{loose:List Str}{XP:(Str→Option Value)→Heap→Prop}{YP:World→Heap→Prop}{d:DefRec}{K:Params→PySem.W.Frag} (hn:l.most=some 63) (hdf:d.params.defaults=[])
  (hY:∀ (w:World) (h:Heap),YP w h→(K w.params).In h)
  (F:∀ (w:World) (mg:Str→Option Value) (fa:Addr) (h:Heap),(K w.params).In h→h.Ns mainGlobals mg→mg d.name=some (.ref fa) →
   ∃ fd:FuncData,(∀ (s:Shared) (u:Value),BindsTo s fd ⟨[u],[]⟩ [("_law_script",u)])∧∀ base:Heap,(K w.params).In base→base.Ns mainGlobals mg→FnOk l.prog w (K w.params) mg base CX0 6 fa fd ["_law_script"] (spF (K w.params) F_law)) :
  PySem.W.WalkO q loose XP YP l.row.toRowW d [] (fun f vs=>PySem.call f vs):=
 L2.walk_of (n:=63) (k:=6) (x:="_law_script") (CX:=fun _=>CX0) (sp:=fun w=>spF (K w.params) F_law) hn (by decide) hdf ⟨fun _=>rfl,by decide,by decide,rfl⟩ hY F (fun w H a ns hl hO hS=>by
  have hz:Frz (K w.params) H a (ns.map V.int):=by
   rcases hS with (h | h) | h
   ·rcases hO a with z | ⟨o,xs,z⟩ <;> rw [z] at h <;> cases h
   ·exact .inl h
   ·exact .inr h
  refine ⟨[dI ns],[]++[],.bl true,.cons (.lsf hz (reps_ints ns)) .nil,f_law hl,fun H' v fp' _ r _ _=>?_⟩
  cases r
  rfl) fun _ _ _ _ _ z=>z
end K11
namespace K11
open PySem PySem.W PyProof.Rows
def isNm:Stmt→Bool
 | .Assign [.Name x _] _ _=>x == "__name__"
 | _=>false
def vw:Program:={ PySem.Challenge.pw_linegate_k11_changes_added with main:={ (PySem.Challenge.pw_linegate_k11_changes_added).main with body:=(PySem.Challenge.pw_linegate_k11_changes_added).main.body.filter fun s=>!isNm s } }
def xt (s:Shared):Bool:=xlAt vw [] s&&recOk (RowW.records (OpenRow.toRowW (OpenLaw.row PySem.Challenge.rw_linegate_k11_changes_added))) s
theorem xt1 (s:Shared) (e:xt s=true):XL vw [] (s.heap.nsMap mainGlobals) s.heap:=xl_of s (Bool.and_eq_true_iff.mp e).1
theorem xt2 (s:Shared) (e:xt s=true):RecFacts (RowW.records (OpenRow.toRowW (OpenLaw.row PySem.Challenge.rw_linegate_k11_changes_added))) s.heap:=recFacts_of (Bool.and_eq_true_iff.mp e).2
end K11
open PySem PySem.W PyProof.Rows
local macro_rules | `(tactic| o_head $H)=>`(tactic| (refine PySem.W.holds_open (q:=K11.vw) (loose:=[]) (N:=20000) (Xt:=K11.xt) (XP:=XL K11.vw []) (Yf:=Hook.obs $H) (Ya:=Hook.val $H) (YP:=Hook.says $H) ?hl (Hook.of $H) (Hook.keeps $H) K11.xt1 XL.keeps (by rfl) (by rfl) (by rfl) K11.xt2 (by rfl) (by assumption) (by decide +kernel) ⟨rfl,rfl,rfl,rfl,rfl,by decide +kernel⟩ ?hw ?hc;(case hl=>exact HT.left_T (ann:=some (.ref 6)) (by rfl) (fun _=>rfl) (by decide) (fun _=>by kernel_rfl) fun w os=>by kernel_rfl);(case hw=>w_witness2)))
local macro_rules | `(tactic| walk_at "lkf")=>`(tactic| exact ⟨_,by k_is,_,_,_,_,_,_,_,_,_,by k_is,by k_is,by k_is⟩)
local macro_rules | `(tactic| walk_at "lkm")=>`(tactic| exact ⟨_,by k_is,by k_is,_,_,_,_,_,_,_,_,_,by k_is,by k_is,by k_is⟩)
set_option maxRecDepth 100000 in
set_option maxHeartbeats 0 in
theorem PySem.Challenge.cw_linegate_k11_changes_added_holds : PySem.Challenge.rw_linegate_k11_changes_added.Holds := by
 w_on;o_law;k_head
 k_fill
 refine K11.walk (l:=PySem.Challenge.rw_linegate_k11_changes_added) rfl rfl (fun w h Y=>PySem.W.kIn_of Y) ?F
 case F=>
  intro w mg fa h KX G hmg
  refine' K11.all_mk KX G hmg ?n_LinegateError ?n_NoAnswer ?n_NoChange ?n_NoFit ?n_NoLook ?n_NoRow ?n_NoRule ?n_NoText ?n_TooLate ?n_TooMany ?x_LinegateError ?x_NoChange ?mb_LinegateError ?mr_NoChange_LinegateError ?sg ?tk ?ga_NoChange ?gh_NoChange ?at_NoChange ?mo_NoChange ?me_NoChange ?kt_LinegateError_NoChange ?kt_NoAnswer_NoChange ?kt_NoChange_NoChange ?kt_NoFit_NoChange ?kt_NoLook_NoChange ?kt_NoRow_NoChange ?kt_NoRule_NoChange ?kt_NoText_NoChange ?kt_TooLate_NoChange ?kt_TooMany_NoChange ?kt_ValueError_NoChange ?n_Changes ?pg_Changes ?hd_Changes ?po_Changes ?sa_Changes ?mk_Changes ?kc_Changes ?na_Changes_entries ?l0 ?l1 ?l2 ?l3 ?l4 ?l5 ?l6 ?l7 ?l8 ?l9 ?l10 ?l11 ?l12 ?l13 ?l14 ?l15 ?l16 ?l17 ?l18 ?l19 ?l20 ?l21 ?l22 ?l23 ?l24 ?l25 ?l26 ?l27 ?z_GREATEST_RANK ?z_GREATEST_SLOT ?z_GREATEST_VALUE ?z_MOST_CHANGES ?z_MOST_EDITS ?z_ValueError ?z_all ?z_bool ?z_enumerate ?z_int ?z_isinstance ?z_len ?z_list ?z_min ?z_range ?z_repr ?z_sorted ?z_tuple ?z_zip
  case n_LinegateError | n_NoAnswer | n_NoChange | n_NoFit | n_NoLook | n_NoRow | n_NoRule | n_NoText | n_TooLate | n_TooMany=>k_is
  case x_LinegateError | x_NoChange=>k_exc
  case mb_LinegateError | mr_NoChange_LinegateError | sg | tk | ga_NoChange | gh_NoChange | at_NoChange | mo_NoChange | me_NoChange=>k_is
  case kt_LinegateError_NoChange | kt_NoAnswer_NoChange | kt_NoChange_NoChange | kt_NoFit_NoChange | kt_NoLook_NoChange | kt_NoRow_NoChange | kt_NoRule_NoChange | kt_NoText_NoChange | kt_TooLate_NoChange | kt_TooMany_NoChange | kt_ValueError_NoChange=>kit_is
  case n_Changes | pg_Changes | hd_Changes | po_Changes | sa_Changes | mk_Changes | kc_Changes | na_Changes_entries=>k_is
  case l0=>walk_at "lkm"
  case l1=>walk_at "lkf"
  case l2 | l3 | l4 | l5 | l6 | l7 | l8 | l9=>walk_at "lkm"
  case l10 | l11 | l12 | l13 | l14 | l15 | l16 | l17 | l18=>walk_at "lkf"
  case l19 | l20=>walk_at "lkm"
  case l21=>walk_at "lkf"
  case l22 | l23 | l24 | l25=>walk_at "lkm"
  case l26 | l27=>walk_at "lkf"
  case z_GREATEST_RANK | z_GREATEST_SLOT | z_GREATEST_VALUE | z_MOST_CHANGES | z_MOST_EDITS | z_ValueError | z_all | z_bool | z_enumerate | z_int | z_isinstance | z_len | z_list | z_min | z_range | z_repr | z_sorted | z_tuple | z_zip=>k_is
