import PyProof.Rows.All
import PyProof.RangeIter
import Wide.All
import OpenK.AllK
import Wide.FinOn
import Lean
import PyProof.EqAt
import PyProof.EqKinds
import PyProof.TupleCall
import PyProof.RulesAs
import PyProof.NsDelKeeps
import PyProof.ReprRoads
import PyProof.ReprLen
import PyProof.Rows.FactsT3
import PyProof.NeData
import PyProof.ListRange
import PyProof.ZipIter
import PyProof.Rows.ZipGen
import PyProof.ConsumeWalk
import PyProof.Rows.RuleM_int
import PyProof.Rows.SeqGen
import PyProof.MinMaxWalk
import PyProof.WalkInts
import PyProof.SeqI3
import PyProof.Rows.SeqCalls
import PyProof.Rows.Range3
import PyProof.EnumIter
import PyProof.EnumFor
import PyProof.EnumMake
import PyProof.EnumStmt
import PyProof.MeetsSeq
import PyProof.Rows.RuleIs
import PySem.SetOps
import PyProof.SetKind
import PyProof.DictIter
import PyProof.FactsAll.set
import PyProof.CollectWalk
import PyProof.DictWalks
import PyProof.SeqWrite
import PyProof.Walk
import PyProof.Rows.SetFrom
import PyProof.ExcAttrAll.ValueError
import PyProof.ExcArgsOwn
import PyProof.Rows.CountFlat
import PyProof.CallFns
import PyProof.Conv_int_bool
import PyProof.Rows.RuleB_and
import PyProof.StrCalls2
import PyProof.StrLawsTight
import PyProof.StrLawsIn
import KE.KIntText
import KE.IntTextLaws
import PyProof.StrWalks
import PyProof.AutoSeq1
import Open.Seg
import Open.Fast
import Open.Tree
import Open.Boot
import PySem.Challenge.RW_linegate_k71_rows_read_and_shown
set_option Elab.async false
set_option linter.all false
set_option maxRecDepth 100000
namespace L2
open PySem PySem.Spec
theorem entry_unchain:entryFor table "proto.unchain"=some Builtin.«proto.unchain»:=entryFor_of_tree (by kernel_rfl)
theorem raiseNew_hd {prog:Program}{w:World}{A:Around}{E:Value→Shared→Prop}{s:Shared}{α:Type}{e h:Addr}{oe oh:Obj}{ve vh:Array Value}{Q:α→Shared→Prop} (hh:A.handled=some (.ref h)) (he:s.heap.get? e=some oe) (hd:oe.data=.fields ve) (h2:2 < ve.size)
  (hx:s.heap.get? h=some oh) (hxd:oh.data=.fields vh) (hx2:vh[2]? = some .none) (ne:h≠e) (q:E (.ref e) { s with heap:=s.heap.update e (Obj.mapFields (·.setIfInBounds 2 (.ref h))) }):wpAny (model prog w) A (raiseNew (.ref e):Sem α) Q E s:=by
 unfold raiseNew
 refine wpAny_bind (wpAny_handled ?_)
 rw [hh]
 dsimp only
 rw [if_pos (by simpa using ne)]
 refine wpAny_bind (wpAny_holding (wpAny_runValue (codeAny_builtin entry_unchain ?_)))
 unfold Builtin.«proto.unchain»
 refine wpAny_bind (wpAny_field hx hxd hx2 ?_)
 rw [if_pos (by rfl)]
 refine wpAny_pure ?_
 refine wpAny_bind ?_
 unfold updateField
 refine wpAny_bind (wpAny_load he ?_)
 rw [hd]
 dsimp only
 rw [if_pos h2]
 exact wpAny_update' he (wpAny_throw q)
theorem range_endH {prog:Program}{w:World}{A:Around}{E:Value→Shared→Prop}{s:Shared}{it h:Addr}{x left step:Int}{oh:Obj}{vh:Array Value}{Q:Option Value→Shared→Prop} (hh:A.handled=some (.ref h)) (hx:s.heap.get? h=some oh) (hxd:oh.data=.fields vh) (hx2:vh[2]? = some .none) (hit:IsRangeIter s.heap it x left step) (hleft:left≤0)
  (hQ:∀ h',Heap.ExtBut it s.heap h'→Q none { s with heap:=h' }):wpAny (model prog w) A (pyNext (.ref it)) Q E s:=by
 have hT:s.TypeIs (.ref it) "range_iterator":=⟨_,hit,rfl⟩
 unfold pyNext
 refine wpAny_bind (wpAny_attempt (wpAny_callSpecial?_slot (name:=Str.ofString "__next__") hT F.slot_range_iterator_next
  (wpAny_call_entry F.slot_range_iterator_next hT F.entry_range_iterator_next ?_ (F.args_range_iterator_next_1 _))))
 show wpAny _ _ (field (.ref it) 0 >>= _) _ _ s
 refine wpAny_bind (wpAny_field hit rfl (x:=rawInt x) rfl ?_)
 show wpAny _ _ (field (.ref it) 1 >>= _) _ _ s
 refine wpAny_bind (wpAny_field hit rfl (x:=rawInt left) rfl ?_)
 show wpAny _ _ (field (.ref it) 2 >>= _) _ _ s
 refine wpAny_bind (wpAny_field hit rfl (x:=rawInt step) rfl ?_)
 show wpAny _ _ (if left≤0 then _ else _) _ _ s
 rw [if_pos hleft]
 refine wpAny_bind (wpAny_rule ?_)
 refine wpAny_bind ?_
 show wpAny _ _ (newExc (.type "StopIteration") [] >>= _) _ _ _
 refine wpAny_bind ?_
 simp only [newExc,newTuple]
 refine wpAny_bind (wpAny_newObj_type ?_ (by size_fits))
 refine wpAny_bind (m:=firstArgMember _ _) (wpAny_of_eq (a:=Value.none) (by first | rfl | (simp only [firstArgMember];rfl)) ?_)
 refine wpAny_newObj_type ?_ (by size_fits)
 have hn:h≠(s.heap.push { cls:=.type "tuple",dict:=none,data:=.seq ([]:List Value).toArray }).objs.size:=Nat.ne_of_lt (Heap.lt_size (Heap.get?_push_of_some _ hx))
 refine raiseNew_hd (h:=h) (by first | exact hh | (show A.in1.handled=_;exact hh)) (Heap.get?_push_size _ rfl) rfl (by simp <;> omega) (Heap.get?_push_of_some _ (Heap.get?_push_of_some _ hx)) hxd hx2 hn ?_
 refine wpAny_bind (wpAny_isInstance (T:="StopIteration") (b:=true) ⟨_,Heap.get?_update_self _ (Heap.get?_push_size _ rfl) rfl,rfl⟩ isSubtype_stop ?_)
 refine wpAny_pure (hQ _ fun b o hb e=>?_)
 rw [Heap.get?_update_other _ _ (Ne.symm (Nat.ne_of_lt (Heap.lt_size (Heap.get?_push_of_some _ e))))]
 exact Heap.get?_push_of_some _ (Heap.get?_push_of_some _ e)
open PySem PySem.Spec PyProof.Rows
abbrev Key:=Sum Int Str
def keyIs:Key→Value→Bool
 | .inl k,v=>Value.isInt k v
 | .inr x,v=>Value.isStrOf x v
def keyH (w:World):Key→Int
 | .inl k=>hashInt k
 | .inr x=>hashStr w x
theorem keyIs_shape:∀ {k:Key}{v:Value},keyIs k v=true→(∃ i t,k=Sum.inl i∧v=Value.int i t)∨(∃ x t,k=Sum.inr x∧v=Value.str x t)
 | .inl i,v,h=>by
  obtain ⟨t,e⟩:=Value.isInt_shape (k:=i) (v:=v) h
  exact .inl ⟨i,t,rfl,e⟩
 | .inr x,v,h=>by
  obtain ⟨t,e⟩:=Value.isStrOf_shape (x:=x) (v:=v) h
  exact .inr ⟨x,t,rfl,e⟩
theorem key_ll (a b:Int):decide ((Sum.inl a:Key)=Sum.inl b)=(a == b):=by
 by_cases e:a=b
 ·subst e;simp
 ·have h:¬ (Sum.inl a:Key)=Sum.inl b:=fun q=>e (Sum.inl.inj q)
  rw [decide_eq_false h]
  exact (beq_eq_false_iff_ne.mpr e).symm
theorem key_rr (a b:Str):decide ((Sum.inr a:Key)=Sum.inr b)=decide (a=b):=by
 by_cases e:a=b
 ·subst e;simp
 ·have h:¬ (Sum.inr a:Key)=Sum.inr b:=fun q=>e (Sum.inr.inj q)
  rw [decide_eq_false h,decide_eq_false e]
theorem key_lr (a:Int) (b:Str):decide ((Sum.inl a:Key)=Sum.inr b)=false:=decide_eq_false (fun q=>nomatch q)
theorem key_rl (a:Str) (b:Int):decide ((Sum.inr a:Key)=Sum.inl b)=false:=decide_eq_false (fun q=>nomatch q)
def mixKind (prog:Program) (w:World):PySem.KeyKind prog w Key where
 is:=keyIs
 hash:=keyH w
 inj:=fun v a b ha hb=>by
  rcases keyIs_shape ha with ⟨i,t,rfl,rfl⟩ | ⟨x,t,rfl,rfl⟩
  ·rcases keyIs_shape hb with ⟨j,u,rfl,e⟩ | ⟨y,u,rfl,e⟩
   ·injection e with e1 _;rw [e1]
   ·exact nomatch e
  ·rcases keyIs_shape hb with ⟨j,u,rfl,e⟩ | ⟨y,u,rfl,e⟩
   ·exact nomatch e
   ·injection e with e1 _;rw [e1]
 byValue:=fun k v h=>by
  rcases keyIs_shape h with ⟨i,t,rfl,rfl⟩ | ⟨x,t,rfl,rfl⟩ <;> rfl
 pyHash:=fun hv h=>by
  rcases keyIs_shape hv with ⟨i,t,rfl,rfl⟩ | ⟨x,t,rfl,rfl⟩
  ·exact wpAny_pyHash_int h
  ·exact wpAny_pyHash_str h
 eqBool:=fun hu hv h=>by
  rcases keyIs_shape hu with ⟨i,t,rfl,rfl⟩ | ⟨x,t,rfl,rfl⟩
  ·rcases keyIs_shape hv with ⟨j,u,rfl,rfl⟩ | ⟨y,u,rfl,rfl⟩
   ·rw [key_ll] at h;exact wpAny_eqBool_int h
   ·rw [key_lr] at h;exact SeqAt.EqAt.int_str i t y u _ _ _ _ h
  ·rcases keyIs_shape hv with ⟨j,u,rfl,rfl⟩ | ⟨y,u,rfl,rfl⟩
   ·rw [key_rl] at h;exact SeqAt.EqAt.str_int x t j u _ _ _ _ h
   ·rw [key_rr] at h;exact wpAny_eqBool_str h
 «strs»:=fun k x t v h=>by
  rcases keyIs_shape h with ⟨i,u,rfl,e⟩ | ⟨y,u,rfl,e⟩
  ·exact nomatch e
  ·injection e with e1 _
   subst e1
   cases v <;> rfl
inductive V where
 | non | bl (b:Bool) | int (i:Int) | str (x:Str) | byt (b:Array UInt8) | flt (b:UInt64) | ref (a:Addr) | ty (n:String)
 deriving DecidableEq
def RelV:V→Value→Prop
 | .non,u=>u=Value.none
 | .bl b,u=>u=Value.bool b
 | .int i,u=>∃ t,u=Value.int i t
 | .str x,u=>∃ t,u=Value.str x t
 | .byt b,u=>∃ t,u=Value.bytes b t
 | .flt b,u=>∃ t,u=Value.float b t
 | .ref a,u=>u=Value.ref a
 | .ty n,u=>u=Value.type n
abbrev Vals:List V→List Value→Prop:=Paired RelV
theorem Vals.length {xs:List V}{us:List Value} (r:Vals xs us):xs.length=us.length:=Paired.length r
theorem Vals.get:∀ {xs:List V}{us:List Value}{i:Nat}{x:V},Vals xs us→xs[i]? = some x→∃ u,us[i]? = some u∧RelV x u
 | _,_,_,_,.nil,e=>by simp at e
 | _,_,0,_,.cons r _,e=>by simp at e;subst e;exact ⟨_,rfl,r⟩
 | _,_,i + 1,x,.cons _ t,e=>by
  obtain ⟨u,h1,h2⟩:=Vals.get (i:=i) (x:=x) t (by simpa using e)
  exact ⟨u,by simpa using h1,h2⟩
theorem Vals.append:∀ {xs ys:List V}{us ws:List Value},Vals xs us→Vals ys ws→Vals (xs++ys) (us++ws)
 | _,_,_,_,.nil,s=>s
 | _,_,_,_,.cons r t,s=>.cons r (Vals.append t s)
theorem Vals.take:∀ {xs:List V}{us:List Value} (n:Nat),Vals xs us→Vals (xs.take n) (us.take n)
 | _,_,0,_=>.nil
 | _,_,_ + 1,.nil=>.nil
 | _,_,n + 1,.cons r t=>.cons r (Vals.take n t)
theorem Vals.drop:∀ {xs:List V}{us:List Value} (n:Nat),Vals xs us→Vals (xs.drop n) (us.drop n)
 | _,_,0,r=>r
 | _,_,_ + 1,.nil=>.nil
 | _,_,n + 1,.cons _ t=>Vals.drop n t
def RelO:Option V→Option Value→Prop
 | some v,some u=>RelV v u
 | none,none=>True
 | _,_=>False
def KV {κ:Type}:List (κ×V)→List (κ×Value)→Prop:=Paired fun (p:κ×V) (q:κ×Value)=>p.1=q.1∧RelV p.2 q.2
def kV:Key→V
 | .inl i=>.int i
 | .inr x=>.str x
def PlainT (h:Heap) (a:Addr) (items:Array Value):Prop:=∃ o,h.get? a=some o∧o.cls=.type "tuple"∧o.dict=none∧∃ n,o.data=.seq items n
theorem PlainT.isTup {h:Heap}{a:Addr}{items:Array Value} (x:PlainT h a items):IsTup h a items:=let ⟨o,e,c,_,d⟩:=x;⟨o,e,c,d⟩
theorem PlainT.lt {h:Heap}{a:Addr}{items:Array Value} (x:PlainT h a items):a < h.objs.size:=let ⟨_,e,_⟩:=x;Heap.lt_size e
theorem PlainT.new (h:Heap) (items:Array Value):PlainT (h.push { cls:=.type "tuple",data:=.seq items }) h.objs.size items:=⟨_,Heap.get?_push_size _ rfl,rfl,rfl,_,rfl⟩
inductive HO where
 | lst (xs:List V)
 | tup (xs:List V)
 | dK (kvs:List (Key×V)) | dT (kvs:List (List Key×V))
 | set (S:Int→Bool) (n:Nat)
 | ins (C dx:Addr) (fs:List (Str×V))
 | own (x:Addr)
 | xd (fs:List (Str×V))
 | met (f x:Addr)
 | rng (lo hi:Int)
 | frz (o:Obj) (u:HO)
 | tbl (ps:Array Value)
 | ext (φ:Heap→Prop)
abbrev Hp:=Addr→Option HO
def upd (H:Hp) (a:Addr) (o:HO):Hp:=fun b=>if b=a then some o else H b
theorem upd_same {H:Hp}{a:Addr}{o:HO}:upd H a o a=some o:=by unfold upd;rw [if_pos rfl]
theorem upd_ne {H:Hp}{a b:Addr}{o:HO} (h:b≠a):upd H a o b=H b:=by unfold upd;rw [if_neg h]
theorem ne_of_none {H:Hp}{a b:Addr}{o:HO} (h:H a=some o) (h':H b=none):a≠b:=by
 intro e;subst e;rw [h] at h';cases h'
section
variable (P:Program) (w:World)
def ObjOk (H:Hp) (h:Heap) (a:Addr):HO→Prop
 | .lst xs=>xs.length≤sizeLine∧∃ (its:List Value) (n:Nat),Vals xs its∧h.get? a=some { cls:=.type "list",data:=.seq its.toArray n }
 | .tup xs=>xs.length≤sizeLine∧∃ its:List Value,Vals xs its∧PlainT h a its.toArray
 | .dK kvs=>kvs.length≤sizeLine∧(a == sysModules)=false∧∃ vs,KV kvs vs∧h.DictOf (mixKind P w) a vs
 | .dT kvs=>kvs.length≤sizeLine∧(a == sysModules)=false∧∃ xs:List (List Key×Addr×Value),
   Paired (fun (p:List Key×V) (q:List Key×Addr×Value)=>p.1=q.1∧H q.2.1=some (.tup (p.1.map kV))∧RelV p.2 q.2.2) kvs xs ∧
   ∃ o es ep,h.get? a=some o∧o.ExactDict∧o.data=.dict es ep∧es.toList=xs.map (entryOfKey (tupleKind (mixKind P w)))∧(xs.map (·.1)).Nodup
 | .set S n=>h.SetOf (intKind P w) a S n
 | .ins C dx fs=>H dx=some (.own a)∧fs.length≤1000∧dx≠a∧h.get? a=some (PySem.W.instObj C dx) ∧
   ∃ mA,h.Ns1 dx mA∧(∀ f,RelO (fs.lookup f) (mA f))∧PySem.Within mA (fs.map (·.1))
 | .own _=>∃ o,h.get? a=some o
 | .xd fs=>∃ mA,h.Ns1 a mA∧∀ f,RelO (fs.lookup f) (mA f)
 | .rng lo hi=>∃ t u v,h.get? a=some { cls:=.type "range",data:=.fields #[.int lo t,.int hi u,.int 1 v] }
 | .frz o u=>h.get? a=some o∧ObjOk H h a u
 | .tbl ps=>h.get? a=some { cls:=.none,data:=.fields ps }
 | .met f x=>h.get? a=some (PySem.W.methodObj (.ref f) (.ref x))
 | .ext φ=>φ h∧(∃ o,h.get? a=some o)∧∀ h1 h2:Heap,φ h1→(∀ o,h1.get? a=some o→h2.get? a=some o)→φ h2
def HOk (H:Hp) (h:Heap):Prop:=∀ a o,H a=some o→ObjOk P w H h a o
end
section
variable {P:Program}{w:World}{H H':Hp}{h h':Heap}{a:Addr}{o:HO}
theorem ObjOk.lt (x:ObjOk P w H h a o):a < h.objs.size:=by
 cases o with
 | lst xs=>obtain ⟨_,_,_,_,e⟩:=x;exact Heap.lt_size e
 | tup xs=>obtain ⟨_,_,_,p⟩:=x;exact p.lt
 | dK kvs=>obtain ⟨_,_,_,_,o,_,_,e,_⟩:=x;exact Heap.lt_size e
 | dT kvs=>obtain ⟨_,_,_,_,o,_,_,e,_⟩:=x;exact Heap.lt_size e
 | set S n=>obtain ⟨o,_,_,_,e,_⟩:=x;exact Heap.lt_size e
 | ins C dx fs=>obtain ⟨_,_,_,e,_⟩:=x;exact Heap.lt_size e
 | own y=>obtain ⟨_,e⟩:=x;exact Heap.lt_size e
 | xd fs=>obtain ⟨_,⟨_,_,_,e,_⟩,_⟩:=x;exact Heap.lt_size e
 | rng lo hi=>obtain ⟨_,_,_,e⟩:=x;exact Heap.lt_size e
 | frz ob u=>obtain ⟨e,_⟩:=x;exact Heap.lt_size e
 | tbl ps=>exact Heap.lt_size (show h.get? a=some _ from x)
 | met f y=>exact Heap.lt_size (show h.get? a=some _ from x)
 | ext φ=>obtain ⟨_,⟨_,e⟩,_⟩:=x;exact Heap.lt_size e
theorem Paired.mapP {α β:Type}{F G:α→β→Prop}:∀ {l₁:List α}{l₂:List β},Paired F l₁ l₂→(∀ a b,F a b→G a b)→Paired G l₁ l₂
 | _,_,.nil,_=>.nil
 | _,_,.cons r t,f=>.cons (f _ _ r) (Paired.mapP t f)
theorem ObjOk.stay (x:ObjOk P w H h a o) (k:∀ b u,(b=a∨H b=some (.own a))→h.get? b=some u→h'.get? b=some u)
  (ho:∀ b,H b=some (.own a)→H' b=some (.own a)) (ht:∀ b xs,H b=some (.tup xs)→H' b=some (.tup xs)):ObjOk P w H' h' a o:=by
 induction o with
 | lst xs=>obtain ⟨z,its,n,r,e⟩:=x;exact ⟨z,its,n,r,k _ _ (.inl rfl) e⟩
 | tup xs=>obtain ⟨z,its,r,ob,e,c⟩:=x;exact ⟨z,its,r,ob,k _ _ (.inl rfl) e,c⟩
 | dK kvs=>obtain ⟨z,y,vs,r,ob,es,ep,e,c⟩:=x;exact ⟨z,y,vs,r,ob,es,ep,k _ _ (.inl rfl) e,c⟩
 | dT kvs=>
  obtain ⟨z,y,xs,r,ob,es,ep,e,c⟩:=x
  exact ⟨z,y,xs,Paired.mapP r fun p q z=>⟨z.1,ht _ _ z.2.1,z.2.2⟩,ob,es,ep,k _ _ (.inl rfl) e,c⟩
 | set S n=>obtain ⟨ob,es,ep,t,e,c⟩:=x;exact ⟨ob,es,ep,t,k _ _ (.inl rfl) e,c⟩
 | ins C dx fs=>
  obtain ⟨d,z,ne,e,mA,⟨od,es,ep,e2,c⟩,r⟩:=x
  exact ⟨ho _ d,z,ne,k _ _ (.inl rfl) e,mA,⟨od,es,ep,k _ _ (.inr d) e2,c⟩,r⟩
 | own y=>obtain ⟨ob,e⟩:=x;exact ⟨ob,k _ _ (.inl rfl) e⟩
 | xd fs=>obtain ⟨mA,⟨od,es,ep,e,c⟩,r⟩:=x;exact ⟨mA,⟨od,es,ep,k _ _ (.inl rfl) e,c⟩,r⟩
 | rng lo hi=>obtain ⟨t,u,v,e⟩:=x;exact ⟨t,u,v,k _ _ (.inl rfl) e⟩
 | frz ob u ih=>obtain ⟨e,q⟩:=x;exact ⟨k _ _ (.inl rfl) e,ih q⟩
 | tbl ps=>
  have e:h.get? a=some { cls:=.none,data:=.fields ps }:=x
  show h'.get? a=some { cls:=.none,data:=.fields ps }
  exact k a _ (.inl rfl) e
 | met f y=>
  have e:h.get? a=some (PySem.W.methodObj (.ref f) (.ref y)):=x
  show h'.get? a=some (PySem.W.methodObj (.ref f) (.ref y))
  exact k a _ (.inl rfl) e
 | ext φ=>obtain ⟨p,⟨o,e⟩,st⟩:=x;exact ⟨st _ _ p fun o q=>k _ _ (.inl rfl) q,⟨o,k _ _ (.inl rfl) e⟩,st⟩
theorem HOk.lt (x:HOk P w H h) (e:H a=some o):a < h.objs.size:=(x a o e).lt
theorem HOk.fresh (x:HOk P w H h) (e:h.objs.size≤a):H a=none:=by
 cases q:H a with
 | none=>rfl
 | some u=>exact absurd (Nat.lt_of_lt_of_le (x.lt q) e) (Nat.lt_irrefl _)
theorem HOk.kept (x:HOk P w H h) (k:∀ b u,h.get? b=some u→h'.get? b=some u):HOk P w H h':=fun a o e=>
 (x a o e).stay (fun b u _ q=>k b u q) (fun _ q=>q) fun _ _ q=>q
theorem HOk.laid (x:HOk P w H h) (k:∀ b u,h.get? b=some u→h'.get? b=some u) (hp:h.objs.size≤a) (new:ObjOk P w (upd H a o) h' a o):HOk P w (upd H a o) h':=fun b u e=>by
 have hn:=x.fresh hp
 by_cases hb:b=a
 ·subst hb;rw [upd_same] at e;cases e;exact new
 ·rw [upd_ne hb] at e
  exact (x b u e).stay (fun c v _ q=>k c v q) (fun c q=>by rw [upd_ne (ne_of_none q hn)];exact q) fun c xs q=>by rw [upd_ne (ne_of_none q hn)];exact q
end
def Rd (H:Hp) (a:Addr) (u:HO):Prop:=H a=some u∨∃ o,H a=some (.frz o u)
theorem Rd.ok {P:Program}{w:World}{H:Hp}{h:Heap}{a:Addr}{u:HO} (r:Rd H a u) (x:HOk P w H h):ObjOk P w H h a u:=by
 rcases r with r | ⟨o,r⟩
 ·exact x a u r
 ·obtain ⟨_,q⟩:=x a _ r
  exact q
def Mut:Option HO→Prop
 | some (.lst _)=>True
 | some (.dK _)=>True
 | some (.dT _)=>True
 | some (.set _ _)=>True
 | some (.ins _ _ _)=>True
 | some (.ext _)=>True
 | _=>False
section
variable {P:Program}{w:World}{H:Hp}{h h':Heap}{x e:Addr}{o':HO}
theorem HOk.write (ok:HOk P w H h) (mu:Mut (H x)) (he:e=x∨H e=some (.own x)) (k:∀ b u,b≠e→h.get? b=some u→h'.get? b=some u) (heo:∃ u,h'.get? e=some u)
  (new:ObjOk P w (upd H x o') h' x o'):HOk P w (upd H x o') h':=fun b u q=>by
 have nown:∀ c y,H c=some (.own y)→c≠x:=fun c y r z=>by subst z;rw [r] at mu;exact mu
 have ntup:∀ c xs,H c=some (.tup xs)→c≠x:=fun c xs r z=>by subst z;rw [r] at mu;exact mu
 by_cases hb:b=x
 ·subst hb;rw [upd_same] at q;cases q;exact new
 ·rw [upd_ne hb] at q
  by_cases hbe:b=e
  ·have q':H b=some (.own x):=by
    rcases he with z | z
    ·exact absurd (hbe.trans z) hb
    ·rw [hbe];exact z
   rw [q] at q';cases q'
   obtain ⟨v,hv⟩:=heo
   exact ⟨v,by rw [hbe];exact hv⟩
  ·refine (ok b u q).stay (fun c v hc r=>k c v ?_ r) (fun c r=>by rw [upd_ne (nown c b r)];exact r) fun c xs r=>by rw [upd_ne (ntup c xs r)];exact r
   rcases hc with rfl | hc
   ·exact hbe
   ·rintro rfl
    rcases he with z | z
    ·exact nown c b hc z
    ·rw [hc] at z;cases z;exact hb rfl
end
structure Un (fs ex:List Addr) (H H':Hp) (h h':Heap):Prop where
 keep:∀ b o,h.get? b=some o→H b=none→b∉fs→b∉ex→h'.get? b=some o
 slot:∀ b o,h.get? b=some o→H b=none→b∈fs→b∉ex→∃ sl,h'.get? b=some { o with slots:=sl }
 free:∀ b o,h.get? b=some o→H b=none→b∉ex→H' b=none
 there:∀ b o,h.get? b=some o→b∉ex→∃ o',h'.get? b=some o'
 tups:∀ b xs,H b=some (.tup xs)→H' b=some (.tup xs)
 frzs:∀ b o u,H b=some (.frz o u)→H' b=some (.frz o u)
 tbls:∀ b ps,H b=some (.tbl ps)→∃ more,H' b=some (.tbl (ps++more))
section
variable {fs fs' ex ex':List Addr}{H H1 H2:Hp}{h h1 h2 h':Heap}{a x e:Addr}{o:HO}
theorem Un.any (u:Un fs ex H H1 h h1) {b:Addr}{ob:Obj} (q:h.get? b=some ob) (n:H b=none) (hx:b∉ex):∃ sl,h1.get? b=some { ob with slots:=sl }:=by
 by_cases hb:b∈fs
 ·exact u.slot b ob q n hb hx
 ·exact ⟨ob.slots,u.keep b ob q n hb hx⟩
theorem Un.kept (k:∀ b u,h.get? b=some u→h'.get? b=some u):Un fs ex H H h h':=
 ⟨fun b ob q _ _ _=>k b ob q,fun b ob q _ _ _=>⟨ob.slots,k b ob q⟩,fun _ _ _ n _=>n,fun b ob q _=>⟨ob,k b ob q⟩,fun _ _ q=>q,fun _ _ _ q=>q,fun _ ps q=>⟨#[],by rw [q];simp⟩⟩
theorem Un.refl:Un fs ex H H h h:=Un.kept fun _ _ q=>q
theorem Un.laid (k:∀ b u,h.get? b=some u→h'.get? b=some u) (hp:h.objs.size≤a) (hn:H a=none):Un fs ex H (upd H a o) h h' where
 keep:=fun b u q _ _ _=>k b u q
 slot:=fun b u q _ _ _=>⟨u.slots,k b u q⟩
 free:=fun b u q n _=>by rw [upd_ne (Nat.ne_of_lt (Nat.lt_of_lt_of_le (Heap.lt_size q) hp))];exact n
 there:=fun b u q _=>⟨u,k b u q⟩
 tups:=fun b xs q=>by rw [upd_ne (ne_of_none q hn)];exact q
 frzs:=fun b u xs q=>by rw [upd_ne (ne_of_none q hn)];exact q
 tbls:=fun b ps q=>⟨#[],by rw [upd_ne (ne_of_none q hn),q];simp⟩
theorem Un.write (mu:Mut (H x)) (he:e=x∨H e=some (.own x)) (k:∀ b u,b≠e→h.get? b=some u→h'.get? b=some u) (heo:∃ u,h'.get? e=some u):Un fs ex H (upd H x o) h h':=by
 have hx:∀ b,H b=none→b≠x:=fun b n z=>by subst z;rw [n] at mu;exact mu
 have hb:∀ b,H b=none→b≠e:=fun b n z=>by
  subst z
  rcases he with r | r
  ·exact hx b n r
  ·rw [n] at r;cases r
 have hm:∀ b u,H b=some u→¬ Mut (some u)→b≠x:=fun b u q nm z=>by subst z;rw [q] at mu;exact nm mu
 refine ⟨fun b u q n _ _=>k b u (hb b n) q,fun b u q n _ _=>⟨u.slots,k b u (hb b n) q⟩,fun b u q n _=>by rw [upd_ne (hx b n)];exact n,fun b u q _=>?_,
  fun b xs q=>by rw [upd_ne (hm b _ q fun z=>z)];exact q,fun b u xs q=>by rw [upd_ne (hm b _ q fun z=>z)];exact q,fun b ps q=>⟨#[],by rw [upd_ne (hm b _ q fun z=>z),q];simp⟩⟩
 by_cases hbe:b=e
 ·subst hbe;exact heo
 ·exact ⟨u,k b u hbe q⟩
end
def trk (h:Heap) (H:Hp):List Addr:=(List.range h.objs.size).filter fun a=>(H a).isSome
def hidT (h:Heap) (H:Hp):Heap:=PySem.W.hideAll h (trk h H)
theorem hidT_size (h:Heap) (H:Hp):(hidT h H).objs.size=h.objs.size:=PySem.W.hideAll_size _ _
theorem hidT_get {h:Heap}{H:Hp}{b:Addr}{o:Obj} (e:h.get? b=some o) (n:H b=none):(hidT h H).get? b=some o:=
 PySem.W.hideAll_get _ e fun hm=>by
  have q:(H b).isSome=true:=(List.mem_filter.mp hm).2
  rw [n] at q;simp at q
theorem of_hidT {h:Heap}{H:Hp}{b:Addr}{o:Obj} (e:(hidT h H).get? b=some o):h.get? b=some o∧H b=none:=by
 have e':h.get? b=some o:=PySem.W.of_hideAll (trk h H) e
 refine ⟨e',?_⟩
 cases q:H b with
 | none=>rfl
 | some x=>
  have hm:b∈trk h H:=List.mem_filter.mpr ⟨List.mem_range.mpr (Heap.lt_size e'),by simp [q]⟩
  have z:(hidT h H).get? b=none:=PySem.W.hideAll_none (trk h H) hm
  rw [z] at e;cases e
structure Mod (K:PySem.W.Frag) (mg:Str→Option Value) (base:Heap):Prop where
 kin:K.In base
 glob:base.Ns mainGlobals mg
 blt:∃ mb,base.Ns builtinsNs mb∧∀ x:Str,x≠"__name__"→mb x=bootBuiltins x
 nolimit:base.NoLimit
structure Cx where
 prog:Program
 w:World
 K:PySem.W.Frag
 mg:Str→Option Value
 base:Heap
 A:Around
 N:List Str
 s₀:Shared
 H₀:Hp
 env:Env
 outer:List Env
 stack:List Env
 ex:List Addr
 fn:Str→Bool
 calm:Bool
 pn:List (Addr×Obj)
 xe:Value→Shared→Prop
def frs (l:List Env):List Addr:=l.filterMap (·.frame)
abbrev Cx.fs (X:Cx):List Addr:=frs X.outer
def Vis (sc:Scope) (x:Str):Prop:=sc.names.lookup x=some .local∨sc.names.lookup x=some .cell∨sc.names.lookup x=some .free
def Loc (sc:Scope) (x:Str):Prop:=sc.names.lookup x=some .local∨sc.names.lookup x=some .cell
def Look (env:Env) (h:Heap) (m:Str→Option Value) (x:Str) (u:Value):Prop:=
 (env.kindOf x=some .local∧m x=some u)∨((env.kindOf x=some .cell∨env.kindOf x=some .free)∧∃ c,env.cells.lookup x=some c∧h.IsCell c (some u))
structure Cx.Ok (X:Cx):Prop where
 mod:Mod X.K X.mg X.base
 kind:X.env.scope.kind=.function
 glob:X.env.globals=mainGlobals
 blt:X.env.builtins=builtinsNs
 above:X.s₀.heap.objs.size≤X.env.locals
 inj:∀ x y c,X.env.cells.lookup x=some c→X.env.cells.lookup y=some c→x=y
 has:∀ x,(X.env.kindOf x=some .cell∨X.env.kindOf x=some .free)→∃ c,X.env.cells.lookup x=some c
 cab:∀ x c,X.fn x=true→X.env.cells.lookup x=some c→X.s₀.heap.objs.size≤c
 hd:X.calm=true→X.A.handled=none
 frames:X.A.frames=some X.stack
 stk:X.stack=X.outer∨(X.stack=X.env::X.outer∧X.env.frame=some X.env.locals)
 exf:∀ b∈X.ex,b≠X.env.locals∧∀ x c,X.env.cells.lookup x=some c→c≠b
 bs:∀ b o,X.base.get? b=some o→X.s₀.heap.get? b=some o∧X.H₀ b=none
 bsz:X.base.objs.size≤X.s₀.heap.objs.size
 noex:∀ b o,X.base.get? b=some o→b∉X.ex
 exfs:∀ b∈X.ex,b∉X.fs
 funs:X.s₀.heap.FunFrames X.base X.outer
 frf:∀ b∈X.fs,X.H₀ b=none
def HdOk (A:Around) (H:Hp):Prop:=A.handled=none∨∃ (a:Addr) (ob:Obj) (u:HO) (vs:Array Value),A.handled=some (.ref a)∧H a=some (.frz ob u)∧ob.data=.fields vs∧vs[2]? = some .none
theorem HdOk.mono {A:Around}{H H':Hp} (h:HdOk A H) (f:∀ b o u,H b=some (.frz o u)→H' b=some (.frz o u)):HdOk A H':=h.elim .inl fun ⟨a,ob,u,vs,h1,h2,h3⟩=>.inr ⟨a,ob,u,vs,h1,f _ _ _ h2,h3⟩
structure Inv (X:Cx) (pins:List (Addr×Obj)) (σ:List (Option V)) (H:Hp) (s:Shared):Prop where
 ok:X.Ok
 os:s.os=X.s₀.os
 bare:AllBare s.gens
 base:Un X.fs X.ex X.H₀ H X.s₀.heap s.heap
 loc:∃ m,s.heap.Ns X.env.locals m∧∀ (i:Nat) (x:Str) (v:V),X.N[i]? = some x→σ[i]? = some (some v)→Vis X.env.scope x→∃ u,RelV v u∧Look X.env s.heap m x u
 cell:∀ x c,X.env.cells.lookup x=some c→∃ v,s.heap.IsCell c v
 free:H X.env.locals=none
 freeC:∀ x c,X.env.cells.lookup x=some c→H c=none
 pin:∀ p∈X.pn++pins,s.heap.get? p.1=some p.2∧H p.1=none∧p.1≠X.env.locals∧p.1∉X.fs∧∀ v,p.2.data≠.cell v
 hok:HOk X.prog X.w H s.heap
 len:σ.length=X.N.length
 hq:HdOk X.A H
section
variable {X:Cx}{pins:List (Addr×Obj)}{σ:List (Option V)}{H H':Hp}{s:Shared}{h':Heap}
theorem Cx.Ok.nofr (ok:X.Ok) {b:Addr}{o:Obj} (e:X.base.get? b=some o):b∉X.fs:=fun hb=>by
 have:=(ok.funs.mem hb).1
 rw [e] at this;cases this
theorem Inv.bs (I:Inv X pins σ H s):∀ b o,X.base.get? b=some o→s.heap.get? b=some o∧H b=none:=fun b o e=>
 ⟨I.base.keep b o (I.ok.bs b o e).1 (I.ok.bs b o e).2 (I.ok.nofr e) (I.ok.noex b o e),I.base.free b o (I.ok.bs b o e).1 (I.ok.bs b o e).2 (I.ok.noex b o e)⟩
theorem Inv.bk (I:Inv X pins σ H s):∀ b o,X.base.get? b=some o→s.heap.get? b=some o:=fun b o e=>(I.bs b o e).1
theorem Inv.mod (I:Inv X pins σ H s):Mod X.K X.mg X.base:=I.ok.mod
theorem Inv.kIn (I:Inv X pins σ H s):X.K.In s.heap:=I.ok.mod.kin.keeps I.bk
theorem Inv.lt (I:Inv X pins σ H s):X.env.locals < s.heap.objs.size:=let ⟨_,hn,_⟩:=I.loc;hn.lt
theorem Inv.sz (I:Inv X pins σ H s):X.s₀.heap.objs.size≤s.heap.objs.size:=Nat.le_trans I.ok.above (Nat.le_of_lt I.lt)
theorem Inv.nofs (I:Inv X pins σ H s) {a:Addr} (h:s.heap.objs.size≤a):a∉X.fs:=fun hb=>by
 obtain ⟨_,o,ho,_⟩:=I.ok.funs.mem hb
 exact absurd (Nat.lt_of_lt_of_le (Heap.lt_size ho) (Nat.le_trans I.sz h)) (Nat.lt_irrefl _)
theorem Inv.cne (I:Inv X pins σ H s):∀ x c,X.env.cells.lookup x=some c→c≠X.env.locals:=fun x c e z=>by
 obtain ⟨v,o,ho,hd⟩:=I.cell x c e
 obtain ⟨m,⟨o',es,ep,ho',hd',_⟩,_⟩:=I.loc
 rw [z,ho'] at ho;cases ho;rw [hd'] at hd;cases hd
theorem Inv.funs (I:Inv X pins σ H s):s.heap.FunFrames X.base X.outer:=by
 have all:∀ (l:List Env),(∀ b∈frs l,b∈X.fs)→X.s₀.heap.FunFrames X.base l→s.heap.FunFrames X.base l:=by
  intro l
  induction l with
  | nil=>intro _ _;trivial
  | cons env r ih=>
   intro hs hl
   obtain ⟨hk,⟨L,o,hf,hn,ho,hd⟩,hr⟩:=hl
   have hL:L∈X.fs:=hs L (by unfold frs;rw [List.filterMap_cons,hf];exact List.mem_cons_self)
   obtain ⟨sl,e⟩:=I.base.slot L o ho (I.ok.frf L hL) hL fun z=>I.ok.exfs L z hL
   exact ⟨hk,⟨L,_,hf,hn,e,hd⟩,ih (fun b hb=>hs b (by unfold frs;rw [List.filterMap_cons,hf];exact List.mem_cons_of_mem _ hb)) hr⟩
 exact all X.outer (fun _ hb=>hb) I.ok.funs
theorem Inv.stack (I:Inv X pins σ H s):s.heap.FunFrames X.base X.stack:=by
 rcases I.ok.stk with e | ⟨e,hf⟩
 ·rw [e];exact I.funs
 ·rw [e]
  obtain ⟨m,hn,_⟩:=I.loc
  refine .cons (by rw [I.ok.kind];decide) hf hn ?_ I.funs
  exact Heap.get?_none_of_le (Nat.le_trans I.ok.bsz I.ok.above)
theorem Inv.stkSub (I:Inv X pins σ H s):∀ b∈frs X.stack,b∈X.env.locals::X.fs:=fun b hb=>by
 rcases I.ok.stk with e | ⟨e,hf⟩
 ·rw [e] at hb;exact List.mem_cons_of_mem _ hb
 ·rw [e] at hb
  unfold frs at hb
  rw [List.filterMap_cons,hf] at hb
  exact hb
theorem Inv.stkFree (I:Inv X pins σ H s):∀ b∈frs X.stack,H b=none:=fun b hb=>by
 rcases List.mem_cons.mp (I.stkSub b hb) with e | hb
 ·rw [e];exact I.free
 ·obtain ⟨_,o,ho,_⟩:=I.ok.funs.mem hb
  exact I.base.free b o ho (I.ok.frf b hb) fun z=>I.ok.exfs b z hb
theorem Inv.step {g':Array GenState}{t':Nat}{d':Drawn}{ch:List Addr} (I:Inv X pins σ H s)
  (hch:∀ b∈ch,(b∈X.ex∨X.s₀.heap.objs.size≤b)∧b≠X.env.locals∧(∀ x c,X.env.cells.lookup x=some c→c≠b)∧∀ p∈X.pn++pins,p.1≠b)
  (keep:∀ b o,b≠X.env.locals→b∉X.fs→b∉ch→s.heap.get? b=some o→H b=none→h'.get? b=some o)
  (slot:∀ b o,b≠X.env.locals→b∈X.fs→b∉ch→s.heap.get? b=some o→H b=none→∃ sl,h'.get? b=some { o with slots:=sl }) (free:∀ b o,b∉ch→s.heap.get? b=some o→H b=none→H' b=none)
  (there:∀ b o,b∉ch→s.heap.get? b=some o→∃ o',h'.get? b=some o')
  (tups:∀ b xs,H b=some (.tup xs)→H' b=some (.tup xs)) (frzs:∀ b o u,H b=some (.frz o u)→H' b=some (.frz o u)) (tbls:∀ b ps,H b=some (.tbl ps)→∃ more,H' b=some (.tbl (ps++more)))
  (ns:∀ m,s.heap.Ns X.env.locals m→h'.Ns X.env.locals m) (hok:HOk X.prog X.w H' h') (hg:AllBare g') :
  Inv X pins σ H' { s with heap:=h',gens:=g',drawn:=d',toks:=t' }:=by
 have neL:∀ b o,X.s₀.heap.get? b=some o→b≠X.env.locals:=fun b o e=>Nat.ne_of_lt (Nat.lt_of_lt_of_le (Heap.lt_size e) I.ok.above)
 have neC:∀ b o,X.s₀.heap.get? b=some o→b∉X.ex→b∉ch:=fun b o e hx hb=>by
  rcases (hch b hb).1 with z | z
  ·exact hx z
  ·exact absurd (Nat.lt_of_lt_of_le (Heap.lt_size e) z) (Nat.lt_irrefl _)
 have cellK:∀ x c,X.env.cells.lookup x=some c→∀ v,s.heap.IsCell c v→h'.IsCell c v:=fun x c e v ⟨o,ho,hd⟩=>by
  have nch:c∉ch:=fun z=>(hch c z).2.2.1 x c e rfl
  by_cases hc:c∈X.fs
  ·obtain ⟨sl,q⟩:=slot c o (I.cne x c e) hc nch ho (I.freeC x c e)
   exact ⟨_,q,hd⟩
  ·exact ⟨o,keep c o (I.cne x c e) hc nch ho (I.freeC x c e),hd⟩
 refine ⟨I.ok,I.os,hg,⟨fun b o e n hb hx=>?_,fun b o e n hb hx=>?_,fun b o e n hx=>?_,fun b o e hx=>?_,fun b xs e=>tups b xs (I.base.tups b xs e),fun b o xs e=>frzs b o xs (I.base.frzs b o xs e),fun b ps e=>?_⟩,?_,fun x c e=>?_,?_,fun x c e=>?_,fun p hp=>?_,hok,I.len,I.hq.mono frzs⟩
 ·exact keep b o (neL b o e) hb (neC b o e hx) (I.base.keep b o e n hb hx) (I.base.free b o e n hx)
 ·obtain ⟨sl,e1⟩:=I.base.slot b o e n hb hx
  obtain ⟨sl',e2⟩:=slot b _ (neL b o e) hb (neC b o e hx) e1 (I.base.free b o e n hx)
  exact ⟨sl',e2⟩
 ·obtain ⟨o',e1⟩:=I.base.there b o e hx
  exact free b o' (neC b o e hx) e1 (I.base.free b o e n hx)
 ·obtain ⟨o',e1⟩:=I.base.there b o e hx
  exact there b o' (neC b o e hx) e1
 ·obtain ⟨m1,e1⟩:=I.base.tbls b ps e
  obtain ⟨m2,e2⟩:=tbls b _ e1
  exact ⟨m1++m2,by rw [e2,Array.append_assoc]⟩
 ·obtain ⟨m,hn,hl⟩:=I.loc
  refine ⟨m,ns m hn,fun i x v e1 e2 e3=>?_⟩
  obtain ⟨u,r,l⟩:=hl i x v e1 e2 e3
  refine ⟨u,r,?_⟩
  rcases l with l | ⟨k,c,e,z⟩
  ·exact .inl l
  ·exact .inr ⟨k,c,e,cellK x c e _ z⟩
 ·obtain ⟨v,z⟩:=I.cell x c e
  exact ⟨v,cellK x c e v z⟩
 ·obtain ⟨m,⟨o,_,_,ho,_⟩,_⟩:=I.loc
  exact free _ o (fun z=>(hch _ z).2.1 rfl) ho I.free
 ·obtain ⟨v,o,ho,hd⟩:=I.cell x c e
  exact free c o (fun z=>(hch c z).2.2.1 x c e rfl) ho (I.freeC x c e)
 ·obtain ⟨e,n,ne,nf,d⟩:=I.pin p hp
  have nch:p.1∉ch:=fun z=>(hch p.1 z).2.2.2 p hp rfl
  exact ⟨keep p.1 p.2 ne nf nch e n,free p.1 p.2 nch e n,ne,nf,d⟩
theorem Inv.un {t':Nat} (I:Inv X pins σ H s) (u:Un X.fs [] H H' s.heap h') (hok:HOk X.prog X.w H' h'):Inv X pins σ H' { s with heap:=h',toks:=t' }:=by
 obtain ⟨m,⟨o,es,ep,ho,r⟩,_⟩:=id I.loc
 obtain ⟨sl,hL⟩:=u.any ho I.free (by simp)
 exact I.step (g':=s.gens) (d':=s.drawn) (ch:=[]) (fun _ z=>nomatch z) (fun b o _ hb _ e n=>u.keep b o e n hb (by simp)) (fun b o _ hb _ e n=>u.slot b o e n hb (by simp)) (fun b o _ e n=>u.free b o e n (by simp)) (fun b o _ e=>u.there b o e (by simp)) u.tups u.frzs u.tbls (fun m' hm=>by
  obtain ⟨o',es',ep',ho',r'⟩:=hm
  rw [ho] at ho';cases ho'
  exact ⟨_,es',ep',hL,r'⟩) hok I.bare
theorem Inv.call {g':Array GenState}{t':Nat}{d':Drawn}{ch:List Addr} (I:Inv X pins σ H s) (u:Un (frs X.stack) ch H H' s.heap h') (hok:HOk X.prog X.w H' h') (hg:AllBare g')
  (hch:∀ b∈ch,(b∈X.ex∨X.s₀.heap.objs.size≤b)∧b≠X.env.locals∧(∀ x c,X.env.cells.lookup x=some c→c≠b)∧∀ p∈X.pn++pins,p.1≠b) :
  Inv X pins σ H' { s with heap:=h',gens:=g',drawn:=d',toks:=t' }:=by
 obtain ⟨m,⟨o,es,ep,ho,r⟩,_⟩:=id I.loc
 obtain ⟨sl,hL⟩:=u.any ho I.free fun z=>(hch _ z).2.1 rfl
 exact I.step (ch:=ch) hch (fun b o hL hb hc e n=>u.keep b o e n (fun z=>(List.mem_cons.mp (I.stkSub b z)).elim hL hb) hc) (fun b o _ _ hc e n=>u.any e n hc) (fun b o hc e n=>u.free b o e n hc) (fun b o hc e=>u.there b o e hc) u.tups u.frzs u.tbls (fun m' hm=>by
  obtain ⟨o',es',ep',ho',r'⟩:=hm
  rw [ho] at ho';cases ho'
  exact ⟨_,es',ep',hL,r'⟩) hok hg
theorem Inv.turned {t':Nat}{it:Addr} (I:Inv X pins σ H s) (k:∀ b o,b≠it→s.heap.get? b=some o→h'.get? b=some o) (hn:H it=none) (hL:it≠X.env.locals)
  (h1:it∈X.ex∨X.s₀.heap.objs.size≤it) (h2:∀ x c,X.env.cells.lookup x=some c→c≠it) (h3:∀ p∈X.pn++pins,p.1≠it):Inv X pins σ H { s with heap:=h',toks:=t' }:=by
 have nit:∀ b u,H b=some u→b≠it:=fun b u e z=>by rw [z,hn] at e;cases e
 refine I.step (g':=s.gens) (d':=s.drawn) (ch:=[it]) (fun b hb=>?_) (fun b o _ _ hc e _=>k b o (fun z=>hc (by simp [z])) e) (fun b o _ _ hc e _=>⟨o.slots,k b o (fun z=>hc (by simp [z])) e⟩) (fun _ _ _ _ n=>n)
  (fun b o hc e=>⟨o,k b o (fun z=>hc (by simp [z])) e⟩) (fun _ _ e=>e) (fun _ _ _ e=>e) (fun b ps e=>⟨#[],by rw [e];simp⟩) (fun m hm=>?_) (fun b u e=>?_) I.bare
 ·have e:b=it:=by simpa using hb
  subst e
  exact ⟨h1,hL,h2,h3⟩
 ·obtain ⟨o,es,ep,ho,r⟩:=hm
  exact ⟨o,es,ep,k _ o (Ne.symm hL) ho,r⟩
 ·refine (I.hok b u e).stay (fun c v hc q=>k c v ?_ q) (fun _ q=>q) fun _ _ q=>q
  rcases hc with z | z
  ·rw [z];exact nit b u e
  ·exact nit c _ z
theorem Inv.tok (I:Inv X pins σ H s) (t:Nat):Inv X pins σ H { s with toks:=t }:=I.un (h':=s.heap) (t':=t) Un.refl I.hok
theorem Inv.kept {t':Nat} (I:Inv X pins σ H s) (k:∀ b u,s.heap.get? b=some u→h'.get? b=some u):Inv X pins σ H { s with heap:=h',toks:=t' }:=I.un (Un.kept k) (I.hok.kept k)
theorem Inv.laid {a:Addr}{o:HO}{t':Nat} (I:Inv X pins σ H s) (k:∀ b u,s.heap.get? b=some u→h'.get? b=some u) (hp:s.heap.objs.size≤a) (new:ObjOk X.prog X.w (upd H a o) h' a o) :
  Inv X pins σ (upd H a o) { s with heap:=h',toks:=t' }:=I.un (Un.laid k hp (I.hok.fresh hp)) (I.hok.laid k hp new)
theorem Inv.write {x e:Addr}{o:HO}{t':Nat} (I:Inv X pins σ H s) (mu:Mut (H x)) (he:e=x∨H e=some (.own x)) (k:∀ b u,b≠e→s.heap.get? b=some u→h'.get? b=some u) (heo:∃ u,h'.get? e=some u)
  (new:ObjOk X.prog X.w (upd H x o) h' x o):Inv X pins σ (upd H x o) { s with heap:=h',toks:=t' }:=I.un (Un.write mu he k heo) (I.hok.write mu he k heo new)
theorem Inv.pins_of {pins':List (Addr×Obj)} (I:Inv X pins σ H s) (h:∀ p∈pins',s.heap.get? p.1=some p.2∧H p.1=none∧p.1≠X.env.locals∧p.1∉X.fs∧∀ v,p.2.data≠.cell v):Inv X pins' σ H s:=
 ⟨I.ok,I.os,I.bare,I.base,I.loc,I.cell,I.free,I.freeC,fun p hp=>(List.mem_append.mp hp).elim (fun z=>I.pin p (List.mem_append_left _ z)) (h p),I.hok,I.len,I.hq⟩
theorem nodup_ix {N:List Str} (hN:N.Nodup) {i j:Nat}{x:Str} (a:N[i]? = some x) (b:N[j]? = some x):i=j:=by
 obtain ⟨h1,e1⟩:=List.getElem?_eq_some_iff.mp a
 obtain ⟨h2,e2⟩:=List.getElem?_eq_some_iff.mp b
 exact (List.getElem_inj hN).mp (e1.trans e2.symm)
theorem store_ok2 {M:Model}{A:Around}{E:Value→Shared→Prop}{i:Nat}{x:Str}{v:V}{u:Value}{Q:Unit→Shared→Prop} (I:Inv X pins σ H s) (hN:X.N.Nodup) (hi:X.N[i]? = some x) (hx:Loc X.env.scope x) (r:RelV v u)
  (h:∀ s',Inv X pins (σ.set i (some v)) H s'→(∃ a,Heap.SameBut a s.heap s'.heap∧(a=X.env.locals∨X.env.cells.lookup x=some a))→Q () s') (hf:X.fn x=true∨X.env.scope.names.lookup x=some .local:=by first | exact .inl rfl | exact .inr rfl | assumption):wpAny M A (storeName X.env x u) Q E s:=by
 obtain ⟨m,hn,hl⟩:=id I.loc
 have hcls:(X.env.scope.kind == .class||(X.env.scope.kind == .module&&X.env.locals != X.env.globals))=false:=by rw [I.ok.kind];rfl
 have hiσ:i < σ.length:=by rw [I.len];exact (List.getElem?_eq_some_iff.mp hi).1
 have cne:=I.cne
 have tracked:∀ {a:Addr}{h':Heap},(∃ o,s.heap.get? a=some o∧H a=none)→Heap.SameBut a s.heap h'→HOk X.prog X.w H h':=fun {a h'} ha hs b ob e=>by
  obtain ⟨_,_,hfree⟩:=ha
  refine (I.hok b ob e).stay (fun c w' hc q=>(hs.2 c ?_).trans q) (fun _ q=>q) fun _ _ q=>q
  rintro rfl
  rcases hc with rfl | hc
  ·rw [hfree] at e;cases e
  ·rw [hfree] at hc;cases hc
 rcases hx with hk | hk
 ·refine wpAny_storeName_local hk hn (fun h' hn' hs=>?_) hcls
  obtain ⟨oL,_,_,hoL,_⟩:=id hn
  refine h _ ⟨I.ok,I.os,I.bare,⟨fun b o e n hb hx=>?_,fun b o e n hb hx=>?_,I.base.free,fun b o e hx=>?_,I.base.tups,I.base.frzs,I.base.tbls⟩,⟨_,hn',fun j y v' e1 e2 e3=>?_⟩,fun y c e=>?_,I.free,I.freeC,fun p hp=>?_,tracked ⟨oL,hoL,I.free⟩ hs,by simpa using I.len,I.hq⟩ ⟨_,hs,.inl rfl⟩
  ·exact (hs.2 b (Nat.ne_of_lt (Nat.lt_of_lt_of_le (Heap.lt_size e) I.ok.above))).trans (I.base.keep b o e n hb hx)
  ·obtain ⟨sl,e1⟩:=I.base.slot b o e n hb hx
   exact ⟨sl,(hs.2 b (Nat.ne_of_lt (Nat.lt_of_lt_of_le (Heap.lt_size e) I.ok.above))).trans e1⟩
  ·obtain ⟨o',e1⟩:=I.base.there b o e hx
   exact ⟨o',(hs.2 b (Nat.ne_of_lt (Nat.lt_of_lt_of_le (Heap.lt_size e) I.ok.above))).trans e1⟩
  ·by_cases hj:j=i
   ·subst hj
    rw [hi] at e1;cases e1
    rw [List.getElem?_set_self hiσ] at e2
    cases e2
    exact ⟨u,r,.inl ⟨hk,by simp⟩⟩
   ·rw [List.getElem?_set_ne (Ne.symm hj)] at e2
    obtain ⟨u',r',q⟩:=hl j y v' e1 e2 e3
    refine ⟨u',r',?_⟩
    rcases q with ⟨k,e⟩ | ⟨k,c,e,z⟩
    ·refine .inl ⟨k,?_⟩
     have:y≠x:=fun e=>hj (nodup_ix hN e1 (e ▸ hi))
     simp [this,e]
    ·exact .inr ⟨k,c,e,z.sameBut hs (cne y c e)⟩
  ·obtain ⟨w',z⟩:=I.cell y c e
   exact ⟨w',z.sameBut hs (cne y c e)⟩
  ·obtain ⟨e,n,ne,nf,d⟩:=I.pin p hp
   exact ⟨(hs.2 p.1 ne).trans e,n,ne,nf,d⟩
 ·have hfn:X.fn x=true:=by
   rcases hf with z | z
   ·exact z
   ·rw [z] at hk;cases hk
  obtain ⟨c,hc⟩:=I.ok.has x (.inl hk)
  obtain ⟨w',z⟩:=I.cell x c hc
  refine wpAny_storeName_cell I.ok.kind hk hc z (fun h' hc' hs=>?_)
  obtain ⟨oc,hoc,hocd⟩:=id z
  refine h { s with heap:=h' } ⟨I.ok,I.os,I.bare,⟨fun b o e n hb hx=>?_,fun b o e n hb hx=>?_,I.base.free,fun b o e hx=>?_,I.base.tups,I.base.frzs,I.base.tbls⟩,⟨m,hn.sameBut hs (Ne.symm (cne x c hc)),fun j y v' e1 e2 e3=>?_⟩,fun y c' e=>?_,I.free,I.freeC,fun p hp=>?_,tracked ⟨oc,hoc,I.freeC x c hc⟩ hs,by simpa using I.len,I.hq⟩ ⟨c,hs,.inr hc⟩
  ·exact (hs.2 b (Nat.ne_of_lt (Nat.lt_of_lt_of_le (Heap.lt_size e) (I.ok.cab x c hfn hc)))).trans (I.base.keep b o e n hb hx)
  ·obtain ⟨sl,e1⟩:=I.base.slot b o e n hb hx
   exact ⟨sl,(hs.2 b (Nat.ne_of_lt (Nat.lt_of_lt_of_le (Heap.lt_size e) (I.ok.cab x c hfn hc)))).trans e1⟩
  ·obtain ⟨o',e1⟩:=I.base.there b o e hx
   exact ⟨o',(hs.2 b (Nat.ne_of_lt (Nat.lt_of_lt_of_le (Heap.lt_size e) (I.ok.cab x c hfn hc)))).trans e1⟩
  ·by_cases hj:j=i
   ·subst hj
    rw [hi] at e1;cases e1
    rw [List.getElem?_set_self hiσ] at e2
    cases e2
    exact ⟨u,r,.inr ⟨.inl hk,c,hc,hc'⟩⟩
   ·rw [List.getElem?_set_ne (Ne.symm hj)] at e2
    obtain ⟨u',r',q⟩:=hl j y v' e1 e2 e3
    refine ⟨u',r',?_⟩
    rcases q with q | ⟨k,c',e,z'⟩
    ·exact .inl q
    ·refine .inr ⟨k,c',e,z'.sameBut hs ?_⟩
     rintro rfl
     exact hj (nodup_ix hN e1 (I.ok.inj _ _ _ e hc ▸ hi))
  ·by_cases hcc:c'=c
   ·subst hcc;exact ⟨_,hc'⟩
   ·obtain ⟨w2,z2⟩:=I.cell y c' e
    exact ⟨w2,z2.sameBut hs hcc⟩
  ·obtain ⟨e,n,ne,nf,d⟩:=I.pin p hp
   refine ⟨(hs.2 p.1 ?_).trans e,n,ne,nf,d⟩
   intro q
   rw [q,hoc] at e
   have q':oc=p.2:=Option.some.inj e
   exact d w' (by rw [← q'];exact hocd)
theorem store_ok {M:Model}{A:Around}{E:Value→Shared→Prop}{i:Nat}{x:Str}{v:V}{u:Value}{Q:Unit→Shared→Prop} (I:Inv X pins σ H s) (hN:X.N.Nodup) (hi:X.N[i]? = some x) (hx:Loc X.env.scope x) (r:RelV v u)
  (h:∀ s',Inv X pins (σ.set i (some v)) H s'→Q () s') (hf:X.fn x=true∨X.env.scope.names.lookup x=some .local:=by first | exact .inl rfl | exact .inr rfl | assumption):wpAny M A (storeName X.env x u) Q E s:=
 store_ok2 I hN hi hx r (fun s' I' _=>h s' I') hf
theorem Inv.call' {s':Shared}{ch:List Addr} (I:Inv X pins σ H s) (ho:s'.os=s.os) (u:Un (frs X.stack) ch H H' s.heap s'.heap) (hok:HOk X.prog X.w H' s'.heap) (hg:AllBare s'.gens)
  (hch:∀ b∈ch,(b∈X.ex∨X.s₀.heap.objs.size≤b)∧b≠X.env.locals∧(∀ x c,X.env.cells.lookup x=some c→c≠b)∧∀ p∈X.pn++pins,p.1≠b):Inv X pins σ H' s':=by
 obtain ⟨h',g',d',t',o'⟩:=s'
 have e:o'=s.os:=ho
 subst e
 exact I.call (g':=g') (t':=t') (d':=d') u hok hg hch
end
abbrev XK:=Value→Option Addr→Hp→Prop
abbrev St:=List (Option V)
abbrev VK:=V→Hp→Prop
abbrev TE:=St→Hp→VK→Prop
abbrev TT:=St→Hp→(Bool→Hp→Prop)→Prop
abbrev TA:=St→Hp→(List V→Hp→Prop)→Prop
structure Ends where
 nx:St→Hp→Prop
 rt:VK
 bk:St→Hp→Prop:=fun _ _=>False
 ct:St→Hp→Prop:=fun _ _=>False
abbrev TS:=Ends→St→Hp→Prop
def EP (X:Cx) (pins:List (Addr×Obj)) (σ:St) (Q:VK) (u:Value) (s':Shared):Prop:=∃ v H',Inv X pins σ H' s'∧RelV v u∧Q v H'
def TP (X:Cx) (pins:List (Addr×Obj)) (σ:St) (Q:Bool→Hp→Prop) (b:Bool) (s':Shared):Prop:=∃ H',Inv X pins σ H' s'∧Q b H'
def AP (X:Cx) (pins:List (Addr×Obj)) (σ:St) (Q:List V→Hp→Prop) (us:List Value) (s':Shared):Prop:=∃ vs H',Inv X pins σ H' s'∧Vals vs us∧Q vs H'
def SP (X:Cx) (pins:List (Addr×Obj)) (D:Ends) (f:Flow) (s':Shared):Prop:=
 match f with
 | .next=>∃ σ' H',Inv X pins σ' H' s'∧D.nx σ' H'
 | .brk=>∃ σ' H',Inv X pins σ' H' s'∧D.bk σ' H'
 | .cont=>∃ σ' H',Inv X pins σ' H' s'∧D.ct σ' H'
 | .ret u=>∃ v σ' H',Inv X pins σ' H' s'∧RelV v u∧D.rt v H'
def PE (X:Cx) (e:Expr) (t:TE):Prop:=
 ∀ (pins:List (Addr×Obj)) (s:Shared) (σ:St) (H:Hp) (Q:VK),Inv X pins σ H s→t σ H Q→wpAny (model X.prog X.w) X.A (eval e X.env) (EP X pins σ Q) X.xe s
def PT (X:Cx) (e:Expr) (t:TT):Prop:=
 ∀ (pins:List (Addr×Obj)) (s:Shared) (σ:St) (H:Hp) (Q:Bool→Hp→Prop),Inv X pins σ H s→t σ H Q→wpAny (model X.prog X.w) X.A (isTrue e X.env (eval e X.env)) (TP X pins σ Q) X.xe s
def PW (X:Cx) (e:Expr) (t:TT):Prop:=
 ∀ (whole:Sem Value) (pins:List (Addr×Obj)) (s:Shared) (σ:St) (H:Hp) (Q:Bool→Hp→Prop),Inv X pins σ H s→t σ H Q→wpAny (model X.prog X.w) X.A (isTrue e X.env whole) (TP X pins σ Q) X.xe s
theorem PW.pt {X:Cx}{e:Expr}{t:TT} (h:PW X e t):PT X e t:=h _
def PA (X:Cx) (es:List Expr) (t:TA):Prop:=
 ∀ (pos:Pos) (pins:List (Addr×Obj)) (s:Shared) (σ:St) (H:Hp) (Q:List V→Hp→Prop),Inv X pins σ H s→t σ H Q→wpAny (model X.prog X.w) X.A (spliced (backTo pos (starEach es X.env))) (AP X pins σ Q) X.xe s
def PS (X:Cx) (st:Stmt) (t:TS):Prop:=
 ∀ (pins:List (Addr×Obj)) (s:Shared) (σ:St) (H:Hp) (D:Ends),Inv X pins σ H s→t D σ H→wpAny (model X.prog X.w) X.A (exec st X.env) (SP X pins D) X.xe s
def PSs (X:Cx) (st:List Stmt) (t:TS):Prop:=
 ∀ (pins:List (Addr×Obj)) (s:Shared) (σ:St) (H:Hp) (D:Ends),Inv X pins σ H s→t D σ H→wpAny (model X.prog X.w) X.A (execs st X.env) (SP X pins D) X.xe s
theorem thn {α:Type}{t:Sem α}{Q Q':α→Shared→Prop}{M:Model}{A:Around}{E:Value→Shared→Prop}{s:Shared} (h:wpAny M A t Q E s) (hQ:∀ a s,Q a s→Q' a s):wpAny M A t Q' E s:=wpAny_mono h hQ fun _ _ x=>x
section
variable {X:Cx}
theorem bin {a b:Expr}{ta tb:TE} (ha:PE X a ta) (hb:PE X b tb) {pins:List (Addr×Obj)}{s:Shared}{σ:St}{H:Hp}{R:V→V→Hp→Prop} (I:Inv X pins σ H s) (h:ta σ H fun x H1=>tb σ H1 fun y H2=>R x y H2)
  {α:Type}{Q:α→Shared→Prop}{f:Value→Value→Sem α}
  (hf:∀ v u s2 x y H2,Inv X pins σ H2 s2→RelV x v→RelV y u→R x y H2→wpAny (model X.prog X.w) X.A (f v u) Q X.xe s2) :
  wpAny (model X.prog X.w) X.A (eval a X.env) (fun v s₁=>wpAny (model X.prog X.w) X.A (eval b X.env) (fun u s₂=>wpAny (model X.prog X.w) X.A (f v u) Q X.xe s₂) X.xe s₁) X.xe s:=by
 refine thn (ha pins s σ H _ I h) fun v s1 ⟨x,H1,I1,r1,q1⟩=>?_
 refine thn (hb pins s1 σ H1 _ I1 q1) fun u s2 ⟨y,H2,I2,r2,q2⟩=>?_
 exact hf v u s2 x y H2 I2 r1 r2 q2
def tVar (i:Nat):TE:=fun σ H Q=>∃ v,σ[i]? = some (some v)∧Q v H
def tC (v:V):TE:=fun _ H Q=>Q v H
theorem pe_var {i:Nat}{x:Str}{pos:Pos} (hN:X.N[i]? = some x) (hv:Vis X.env.scope x) (hd:(x == ("__debug__":Str))=false:=by decide) (hcd:(x == ("__classdict__":Str))=false:=by decide):PE X (.Name x pos) (tVar i):=by
 intro pins s σ H Q I h
 obtain ⟨v,e,h⟩:=h
 obtain ⟨m,hn,hl⟩:=I.loc
 obtain ⟨u,r,l⟩:=hl i x v hN e hv
 have fin:EP X pins σ Q u s:=⟨v,H,I,r,h⟩
 rcases l with ⟨hk,hm⟩ | ⟨hk,c,hc,hcell⟩
 ·exact wpAny_Name (wpAny_loadName_local I.ok.kind hk hn hm fin) hd
 ·rcases hk with hk | hk
  ·exact wpAny_Name (wpAny_loadName_cell I.ok.kind hk hc hcell fin) hd
  ·exact wpAny_Name (wpAny_loadName_free I.ok.kind hk hc hcell fin hcd) hd
theorem pe_int {i j pos}:PE X (.Constant (.int i) j pos) (tC (.int i)):=fun _ _ _ H _ I h=>wpAny_Constant_int ⟨.int i,H,I.tok _,⟨_,rfl⟩,h⟩
theorem pe_bl {b j pos}:PE X (.Constant (.bool b) j pos) (tC (.bl b)):=fun _ _ _ H _ I h=>Constant_bool ⟨.bl b,H,I,rfl,h⟩
theorem pe_str {x j pos}:PE X (.Constant (.str x) j pos) (tC (.str x)):=fun _ _ _ H _ I h=>Calls.Constant_str ⟨.str x,H,I.tok _,⟨_,rfl⟩,h⟩
def Gl (X:Cx) (x:Str):Prop:=X.env.kindOf x=some .globalImplicit
theorem ld_glob {E:Value→Shared→Prop}{pins:List (Addr×Obj)}{s:Shared}{σ:St}{H:Hp}{x:Str}{u:Value}{pos:Pos}{Q:Value→Shared→Prop} (I:Inv X pins σ H s) (hg:Gl X x) (hm:X.mg x=some u) (h:Q u s)
  (hd:(x == ("__debug__":Str))=false:=by decide):wpAny (model X.prog X.w) X.A (eval (.Name x pos) X.env) Q E s:=
 Calls.Name_function_global I.ok.kind hg (Calls.loadGlobal_global (by rw [I.ok.glob];exact I.mod.glob.keeps I.bk) hm h) hd
theorem ld_blt {E:Value→Shared→Prop}{pins:List (Addr×Obj)}{s:Shared}{σ:St}{H:Hp}{x:Str}{u:Value}{pos:Pos}{Q:Value→Shared→Prop} (I:Inv X pins σ H s) (hg:Gl X x) (hm:X.mg x=none) (hv:bootBuiltins x=some u) (h:Q u s)
  (hn:x≠"__name__":=by decide) (hd:(x == ("__debug__":Str))=false:=by decide):wpAny (model X.prog X.w) X.A (eval (.Name x pos) X.env) Q E s:=by
 obtain ⟨mb,h1,h2⟩:=I.mod.blt
 exact Calls.Name_function_global I.ok.kind hg (Calls.loadGlobal_builtin (by rw [I.ok.glob];exact I.mod.glob.keeps I.bk) hm (by rw [I.ok.blt];exact h1.keeps I.bk) ((h2 x hn).trans hv) h) hd
theorem pe_glob {x:Str}{v:V}{u:Value}{pos:Pos} (hg:Gl X x) (hm:X.mg x=some u) (r:RelV v u) (hd:(x == ("__debug__":Str))=false:=by decide):PE X (.Name x pos) (tC v):=
 fun _ _ _ H _ I h=>ld_glob I hg hm ⟨v,H,I,r,h⟩ hd
theorem pe_bltn {x:Str}{v:V}{u:Value}{pos:Pos} (hg:Gl X x) (hm:X.mg x=none) (hv:bootBuiltins x=some u) (r:RelV v u) (hn:x≠"__name__":=by decide) (hd:(x == ("__debug__":Str))=false:=by decide):PE X (.Name x pos) (tC v):=
 fun _ _ _ H _ I h=>ld_blt I hg hm hv ⟨v,H,I,r,h⟩ hn hd
variable {a b:Expr}{ta tb:TE}{pos:Pos}
def PC (X:Cx) (op:CmpOp) (a b:Expr) (t:TE):Prop:=
 ∀ (pins:List (Addr×Obj)) (s:Shared) (σ:St) (H:Hp) (Q:VK),Inv X pins σ H s→t σ H Q →
  wpAny (model X.prog X.w) X.A (eval a X.env) (fun v s₁=>wpAny (model X.prog X.w) X.A (eval b X.env) (fun u s₂=>wpAny (model X.prog X.w) X.A (compareOp op v u) (EP X pins σ Q) X.xe s₂) X.xe s₁) X.xe s
def tB (t:TE):TT:=fun σ H Q=>t σ H fun x H1=>∃ c,x=.bl c∧Q c H1
theorem pt_cmp {op:CmpOp}{t:TE} (h:PC X op a b t) (h1:behindInMarks op b=false:=by first | exact nobehind _ (by decide) (by decide) | rfl):PT X (.Compare a [op] [b] pos) (tB t):=by
 intro pins s σ H Q I hw
 refine wpAny_isTrue_Compare1 (thn (h pins s σ H _ I hw) fun v s1 h1=>thn h1 fun u s2 h2=>thn h2 fun c s3 ⟨x,H1,I1,r1,q1⟩=>?_) h1
 obtain ⟨d,rfl,q⟩:=q1
 cases r1
 exact wpAny_truthy_bool ⟨H1,I1,q⟩
theorem pt_val {e:Expr}{t:TE} (h:PE X e t) (he:∀ whole,isTrue e X.env whole=(do let v ← whole;standAt e.pos;holding [v] (truthy v)):=by intro _;rfl):PT X e (tB t):=by
 intro pins s σ H Q I hw
 refine isTrue_plain (thn (h pins s σ H _ I hw) fun v s1 ⟨x,H1,I1,r1,q1⟩=>?_) (he _)
 obtain ⟨d,rfl,q⟩:=q1
 cases r1
 exact wpAny_truthy_bool ⟨H1,I1,q⟩
variable {tA tB':TT}{rest:List Expr}
def tAnd (t u:TT):TT:=fun σ H Q=>t σ H fun c H1=>if c=true then u σ H1 Q else Q false H1
def tOr (t u:TT):TT:=fun σ H Q=>t σ H fun c H1=>if c=true then Q true H1 else u σ H1 Q
def tNot (t:TT):TT:=fun σ H Q=>t σ H fun c H1=>Q (!c) H1
theorem pw_and1 (ha:PT X a tA):PW X (.BoolOp .And [a] pos) tA:=by
 intro wh pins s σ H Q I h
 refine isTrue_and (thn (ha pins s σ H Q I h) fun c s1 e=>?_)
 cases c with
 | true=>exact isTrue_and_nil e
 | false=>exact e
theorem pw_or1 (ha:PT X a tA):PW X (.BoolOp .Or [a] pos) tA:=by
 intro wh pins s σ H Q I h
 refine isTrue_or (thn (ha pins s σ H Q I h) fun c s1 e=>?_)
 cases c with
 | false=>exact isTrue_or_nil e
 | true=>exact e
theorem pw_and (ha:PT X a tA) (hb:PW X (.BoolOp .And (b::rest) pos) tB'):PW X (.BoolOp .And (a::b::rest) pos) (tAnd tA tB'):=by
 intro wh pins s σ H Q I h
 refine isTrue_and (thn (ha pins s σ H _ I h) fun c s1 ⟨H1,I1,q1⟩=>?_)
 cases c with
 | true=>exact hb wh pins s1 σ H1 Q I1 q1
 | false=>exact ⟨H1,I1,q1⟩
theorem pw_or (ha:PT X a tA) (hb:PW X (.BoolOp .Or (b::rest) pos) tB'):PW X (.BoolOp .Or (a::b::rest) pos) (tOr tA tB'):=by
 intro wh pins s σ H Q I h
 refine isTrue_or (thn (ha pins s σ H _ I h) fun c s1 ⟨H1,I1,q1⟩=>?_)
 cases c with
 | true=>exact ⟨H1,I1,q1⟩
 | false=>exact hb wh pins s1 σ H1 Q I1 q1
theorem pt_not (ha:PT X a tA):PT X (.UnaryOp .Not a pos) (tNot tA):=by
 intro pins s σ H Q I h
 exact isTrue_not (ha pins s σ H (fun c H1=>Q (!c) H1) I h)
def tAndV (ta tb:TE):TE:=fun σ H Q=>ta σ H fun x H1=>∃ c,x=.bl c∧if c=true then tb σ H1 Q else Q (.bl false) H1
def tOrV (ta tb:TE):TE:=fun σ H Q=>ta σ H fun x H1=>∃ c,x=.bl c∧if c=true then Q (.bl true) H1 else tb σ H1 Q
def tNotV (ta:TE):TE:=fun σ H Q=>ta σ H fun x H1=>∃ c,x=.bl c∧Q (.bl (!c)) H1
theorem pe_one {op}{t:TE} (h:PE X a t):PE X (.BoolOp op [a] pos) t:=fun pins s σ H Q I hw=>BoolOp_one (h pins s σ H Q I hw)
theorem pe_and (ha:PE X a ta) (hb:PE X (.BoolOp .And (b::rest) pos) tb):PE X (.BoolOp .And (a::b::rest) pos) (tAndV ta tb):=by
 intro pins s σ H Q I h
 refine BoolOp_and (thn (ha pins s σ H _ I h) fun v s1 ⟨x,H1,I1,r1,q1⟩=>?_)
 obtain ⟨c,rfl,q1⟩:=q1
 cases r1
 refine wpAny_truthy_bool ?_
 cases c with
 | true=>exact hb pins s1 σ H1 Q I1 q1
 | false=>exact ⟨.bl false,H1,I1,rfl,q1⟩
theorem pe_or (ha:PE X a ta) (hb:PE X (.BoolOp .Or (b::rest) pos) tb):PE X (.BoolOp .Or (a::b::rest) pos) (tOrV ta tb):=by
 intro pins s σ H Q I h
 refine BoolOp_or (thn (ha pins s σ H _ I h) fun v s1 ⟨x,H1,I1,r1,q1⟩=>?_)
 obtain ⟨c,rfl,q1⟩:=q1
 cases r1
 refine wpAny_truthy_bool ?_
 cases c with
 | false=>exact hb pins s1 σ H1 Q I1 q1
 | true=>exact ⟨.bl true,H1,I1,rfl,q1⟩
theorem pe_not (ha:PE X a ta):PE X (.UnaryOp .Not a pos) (tNotV ta):=by
 intro pins s σ H Q I h
 refine UnaryOp_ (thn (ha pins s σ H _ I h) fun v s1 ⟨x,H1,I1,r1,q1⟩=>?_)
 obtain ⟨c,rfl,q1⟩:=q1
 cases r1
 exact not_of (wpAny_truthy_bool ⟨.bl (!c),H1,I1,rfl,q1⟩)
def tIf (t:TT) (ta tb:TE):TE:=fun σ H Q=>t σ H fun c H1=>if c=true then ta σ H1 Q else tb σ H1 Q
theorem pe_ifExp {c:Expr} (hc:PT X c tA) (ha:PE X a ta) (hb:PE X b tb):PE X (.IfExp c a b pos) (tIf tA ta tb):=by
 intro pins s σ H Q I h
 refine wpAny_IfExp (thn (hc pins s σ H _ I h) fun d s1 ⟨H1,I1,q1⟩=>?_)
 cases d with
 | true=>exact ha pins s1 σ H1 Q I1 q1
 | false=>exact hb pins s1 σ H1 Q I1 q1
end
def SqL (K:PySem.W.Frag) (H:Hp) (a:Addr) (xs:List V):Prop:=
 Rd H a (.lst xs) ∨
  ∃ (o:Obj) (its:Array Value) (n:Nat),K.lookup a=some o∧o.cls=.type "list"∧o.dict=none∧o.data=.seq its n∧its.size≤sizeLine∧Vals xs its.toList
def SqT (K:PySem.W.Frag) (H:Hp) (a:Addr) (xs:List V):Prop:=
 Rd H a (.tup xs) ∨
  ∃ (o:Obj) (its:Array Value) (n:Nat),K.lookup a=some o∧o.cls=.type "tuple"∧o.dict=none∧o.data=.seq its n∧its.size≤sizeLine∧Vals xs its.toList
def absV:Value→Option V
 | .none=>some .non
 | .bool b=>some (.bl b)
 | .int i _=>some (.int i)
 | .str x _=>some (.str x)
 | .bytes b _=>some (.byt b)
 | .float b _=>some (.flt b)
 | .ref a=>some (.ref a)
 | .type n=>some (.ty n)
 | _=>none
theorem RelV.abs {x:V}{u:Value} (r:RelV x u):absV u=some x:=by
 cases x with
 | non=>cases r;rfl
 | bl _=>cases r;rfl
 | int _=>obtain ⟨t,rfl⟩:=r;rfl
 | str _=>obtain ⟨t,rfl⟩:=r;rfl
 | byt _=>obtain ⟨t,rfl⟩:=r;rfl
 | flt _=>obtain ⟨t,rfl⟩:=r;rfl
 | ref _=>cases r;rfl
 | ty _=>cases r;rfl
theorem RelV.inj {x y:V}{u:Value} (r:RelV x u) (q:RelV y u):x=y:=Option.some.inj (r.abs.symm.trans q.abs)
theorem Vals.inj:∀ {xs ys:List V}{us:List Value},Vals xs us→Vals ys us→xs=ys
 | _,_,_,.nil,.nil=>rfl
 | _,_,_,.cons r t,.cons r' t'=>by rw [r.inj r',Vals.inj t t']
section
variable {X:Cx}{pins:List (Addr×Obj)}{σ:St}{H:Hp}{s:Shared}{a:Addr}{xs ys:List V}
theorem SqL.of {K:PySem.W.Frag} (h:H a=some (.lst xs)):SqL K H a xs:=.inl (.inl h)
theorem SqT.of {K:PySem.W.Frag} (h:H a=some (.tup xs)):SqT K H a xs:=.inl (.inl h)
theorem Inv.list (I:Inv X pins σ H s) (h:SqL X.K H a xs):∃ its:List Value,Vals xs its∧PlainL s.heap a its.toArray∧xs.length≤sizeLine:=by
 rcases h with h | ⟨o,its,n,hk,hc,hd,hs,hz,r⟩
 ·obtain ⟨z,its,n,r,e⟩:=h.ok I.hok
  exact ⟨its,r,⟨_,n,e,rfl,rfl,rfl⟩,z⟩
 ·refine ⟨its.toList,r,⟨o,n,I.kIn a o hk,hc,hd,by simpa using hs⟩,?_⟩
  have e:=r.length
  simp only [Array.length_toList] at e
  omega
theorem Inv.tuple (I:Inv X pins σ H s) (h:SqT X.K H a xs):∃ its:List Value,Vals xs its∧IsTup s.heap a its.toArray∧xs.length≤sizeLine:=by
 rcases h with h | ⟨o,its,n,hk,hc,hd,hs,hz,r⟩
 ·obtain ⟨z,its,r,p⟩:=h.ok I.hok
  exact ⟨its,r,p.isTup,z⟩
 ·refine ⟨its.toList,r,⟨o,I.kIn a o hk,hc,n,by simpa using hs⟩,?_⟩
  have e:=r.length
  simp only [Array.length_toList] at e
  omega
theorem Inv.list_inj (I:Inv X pins σ H s) (h:SqL X.K H a xs) (h':SqL X.K H a ys):xs=ys:=by
 obtain ⟨its,r,⟨o,n,e,_,_,d⟩,_⟩:=I.list h
 obtain ⟨its',r',⟨o',n',e',_,_,d'⟩,_⟩:=I.list h'
 rw [e] at e';cases e'
 rw [d] at d'
 injection d' with d1 _
 have:its=its':=by simpa using congrArg Array.toList d1
 subst this
 exact r.inj r'
theorem Inv.tuple_inj (I:Inv X pins σ H s) (h:SqT X.K H a xs) (h':SqT X.K H a ys):xs=ys:=by
 obtain ⟨its,r,⟨o,e,_,n,d⟩,_⟩:=I.tuple h
 obtain ⟨its',r',⟨o',e',_,n',d'⟩,_⟩:=I.tuple h'
 rw [e] at e';cases e'
 rw [d] at d'
 injection d' with d1 _
 have:its=its':=by simpa using congrArg Array.toList d1
 subst this
 exact r.inj r'
end
abbrev Cx.wish (X:Cx) (E:Value→Shared→Prop):Cx:={ X with xe:=E }
abbrev Cx.nox (X:Cx):Cx:=X.wish fun _ _=>False
theorem Cx.Ok.wish {X:Cx} (ok:X.Ok) (E:Value→Shared→Prop):(X.wish E).Ok:=
 ⟨ok.mod,ok.kind,ok.glob,ok.blt,ok.above,ok.inj,ok.has,ok.cab,ok.hd,ok.frames,ok.stk,ok.exf,ok.bs,ok.bsz,ok.noex,ok.exfs,ok.funs,ok.frf⟩
theorem Cx.Ok.unwish {X:Cx}{E:Value→Shared→Prop} (ok:(X.wish E).Ok):X.Ok:=
 ⟨ok.mod,ok.kind,ok.glob,ok.blt,ok.above,ok.inj,ok.has,ok.cab,ok.hd,ok.frames,ok.stk,ok.exf,ok.bs,ok.bsz,ok.noex,ok.exfs,ok.funs,ok.frf⟩
section
variable {X:Cx}{pins:List (Addr×Obj)}{σ:St}{H:Hp}{s:Shared}{E:Value→Shared→Prop}
theorem Inv.wish (I:Inv X pins σ H s) (E:Value→Shared→Prop):Inv (X.wish E) pins σ H s:=⟨I.ok.wish E,I.os,I.bare,I.base,I.loc,I.cell,I.free,I.freeC,I.pin,I.hok,I.len,I.hq⟩
theorem Inv.unwish (I:Inv (X.wish E) pins σ H s):Inv X pins σ H s:=⟨I.ok.unwish,I.os,I.bare,I.base,I.loc,I.cell,I.free,I.freeC,I.pin,I.hok,I.len,I.hq⟩
theorem SP.unwish {D:Ends}{f:Flow}{s':Shared} (h:SP (X.wish E) pins D f s'):SP X pins D f s':=by
 cases f with
 | next=>obtain ⟨σ',H',I,q⟩:=h;exact ⟨σ',H',I.unwish,q⟩
 | brk=>obtain ⟨σ',H',I,q⟩:=h;exact ⟨σ',H',I.unwish,q⟩
 | cont=>obtain ⟨σ',H',I,q⟩:=h;exact ⟨σ',H',I.unwish,q⟩
 | ret u=>obtain ⟨v,σ',H',I,r,q⟩:=h;exact ⟨v,σ',H',I.unwish,r,q⟩
theorem PSs.nox {st:List Stmt}{t:TS} (h:PSs X.nox st t):PSs X st t:=fun pins s σ H D I hw=>
 wpAny_mono (h pins s σ H D (I.wish _) hw) (fun _ _ q=>q.unwish) fun _ _ z=>False.elim z
end
section
variable {X:Cx}{st:Stmt}{rest:List Stmt}{t u:TS}{e:Expr}{te:TE}{pos:Pos}
def tNext:TS:=fun D σ H=>D.nx σ H
def tSeq (t u:TS):TS:=fun D σ H=>t { D with nx:=u D } σ H
theorem pss_nil:PSs X [] tNext:=fun _ _ σ H _ I h=>wpAny_execs_nil ⟨σ,H,I,h⟩
theorem pss_cons (h1:PS X st t) (h2:PSs X rest u):PSs X (st::rest) (tSeq t u):=by
 intro pins s σ H D I h
 refine wpAny_execs_cons (thn (h1 pins s σ H { D with nx:=u D } I h) fun f s1 q=>?_)
 cases f with
 | next=>
  obtain ⟨σ',H',I',q⟩:=q
  exact h2 pins s1 σ' H' D I' q
 | ret v=>exact q
 | brk=>exact q
 | cont=>exact q
theorem pss_one (h1:PS X st t):PSs X [st] t:=by
 intro pins s σ H D I h
 refine wpAny_execs_cons (thn (h1 pins s σ H D I h) fun f s1 q=>?_)
 cases f with
 | next=>exact wpAny_execs_nil q
 | ret v=>exact q
 | brk=>exact q
 | cont=>exact q
theorem Inv.quiet {pins:List (Addr×Obj)}{σ:St}{H:Hp}{s:Shared} (I:Inv X pins σ H s):interactive X.env=false:=by simp [interactive,I.ok.kind]
def tDrop (te:TE):TS:=fun D σ H=>te σ H fun _ H1=>D.nx σ H1
theorem ps_expr (he:PE X e te) (hs:swapsWith e none pos.line X.env=pure false:=by rfl):PS X (.Expr e pos) (tDrop te):=by
 intro pins s σ H D I h
 exact wpAny_Expr_any (thn (he pins s σ H _ I h) fun v s1 ⟨x,H1,I1,r1,q1⟩=>⟨σ,H1,I1,q1⟩) I.quiet hs
def tRet (te:TE):TS:=fun D σ H=>te σ H D.rt
theorem ps_ret (he:PE X e te):PS X (.Return (some e) pos) (tRet te):=by
 intro pins s σ H D I h
 exact wpAny_Return_some (thn (he pins s σ H _ I h) fun v s1 ⟨x,H1,I1,r1,q1⟩=>⟨x,σ,H1,I1,r1,q1⟩)
def tIfS (c:TT) (t u:TS):TS:=fun D σ H=>c σ H fun b H1=>if b=true then t D σ H1 else u D σ H1
theorem ps_if {c:Expr}{a b:List Stmt}{tc:TT} (hc:PT X c tc) (ha:PSs X a t) (hb:PSs X b u):PS X (.If c a b pos) (tIfS tc t u):=by
 intro pins s σ H D I h
 refine wpAny_If (thn (hc pins s σ H _ I h) fun d s1 ⟨H1,I1,q1⟩=>?_)
 cases d with
 | true=>exact ha pins s1 σ H1 D I1 q1
 | false=>exact hb pins s1 σ H1 D I1 q1
def tNever:TS:=fun _ _ _=>False
theorem ps_never:PS X st tNever:=fun _ _ _ _ _ _ h=>h.elim
end
abbrev TG:=V→St→Hp→(St→Hp→Prop)→Prop
def PG (X:Cx) (target:Expr) (t:TG):Prop:=
 ∀ (pins:List (Addr×Obj)) (s:Shared) (σ:St) (H:Hp) (v:V) (u:Value) (Q:St→Hp→Prop),Inv X pins σ H s→RelV v u→t v σ H Q →
  wpAny (model X.prog X.w) X.A (assign target X.env u) (fun _ s'=>∃ σ' H',Inv X pins σ' H' s'∧Q σ' H') X.xe s
section
variable {X:Cx}{pos:Pos}
def gName (i:Nat):TG:=fun v σ H Q=>Q (σ.set i (some v)) H
theorem pg_name {i:Nat}{x:Str} (hN:X.N.Nodup) (hi:X.N[i]? = some x) (hx:Loc X.env.scope x) (hf:X.fn x=true∨X.env.scope.names.lookup x=some .local:=by first | exact .inl rfl | exact .inr rfl | assumption):PG X (.Name x pos) (gName i):=by
 intro pins s σ H v u Q I r h
 exact wpAny_assign_Name (store_ok I hN hi hx r (fun s' I'=>⟨_,H,I',h⟩) hf)
def tAsg (te:TE) (g:TG):TS:=fun D σ H=>te σ H fun x H1=>g x σ H1 D.nx
theorem ps_set {i:Nat}{x:Str}{e:Expr}{te:TE}{pos':Pos} (hN:X.N.Nodup) (hi:X.N[i]? = some x) (hx:Loc X.env.scope x) (he:PE X e te) (hs:swapsWith e (some (.Name x pos')) pos.line X.env=pure false:=by rfl) (hf:X.fn x=true∨X.env.scope.names.lookup x=some .local:=by first | exact .inl rfl | exact .inr rfl | assumption) :
  PS X (.Assign [.Name x pos'] e pos) (tAsg te (gName i)):=by
 intro pins s σ H D I h
 refine wpAny_Assign_Name (thn (he pins s σ H _ I h) fun v s1 ⟨y,H1,I1,r1,q1⟩=>?_) hs
 exact store_ok I1 hN hi hx r1 (fun s2 I2=>⟨_,H1,I2,q1⟩) hf
end
structure It where
 go:Nat→Hp→Prop
 yld:Nat→Hp→V→Hp→Prop
 stop:Nat→Hp→Prop
 rg:Bool
def FpOk (X:Cx) (pins:List (Addr×Obj)) (H:Hp) (b:Addr):Prop:=
 H b=none∧b≠X.env.locals∧b∉X.fs∧(b∈X.ex∨X.s₀.heap.objs.size≤b)∧(∀ x c,X.env.cells.lookup x=some c→c≠b)∧∀ p∈X.pn++pins,p.1≠b
theorem Inv.fpOk {X:Cx}{pins:List (Addr×Obj)}{σ:St}{H H':Hp}{s:Shared}{b:Addr} (I:Inv X pins σ H s) (hb:s.heap.objs.size≤b) (hn:H' b=none):FpOk X pins H' b:=by
 refine ⟨hn,Nat.ne_of_gt (Nat.lt_of_lt_of_le I.lt hb),I.nofs hb,.inr (Nat.le_trans I.sz hb),fun x c e z=>?_,fun p hp z=>?_⟩
 ·obtain ⟨v,q⟩:=I.cell x c e
  exact absurd (Nat.lt_of_lt_of_le q.lt (by rw [z];exact hb)) (Nat.lt_irrefl _)
 ·exact absurd (Nat.lt_of_lt_of_le (Heap.lt_size (I.pin p hp).1) (by rw [z];exact hb)) (Nat.lt_irrefl _)
structure Turn (P:Program) (w:World) (K:PySem.W.Frag) (tg:Expr) (J:It) (fp:List Addr) (it:Addr) (tn:Nat→Heap→Prop):Prop where
 mem:it∈fp
 obj:∀ i h,tn i h→∀ b∈fp,∃ o,h.get? b=some o∧∀ v,o.data≠.cell v
 keep:∀ i h h',tn i h→(∀ b∈fp,∀ o,h.get? b=some o→h'.get? b=some o)→tn i h'
 item:∀ (X:Cx),X.prog=P→X.w=w→X.K=K→(X.calm=true∨J.rg=true)→∀ (i:Nat) (pins:List (Addr×Obj)) (s:Shared) (σ:St) (H:Hp) (E:Value→Shared→Prop),Inv X pins σ H s→(∀ b∈fp,FpOk X pins H b)→tn i s.heap→J.go i H →
  wpAny (model P w) X.A (pyNext (.ref it)) (fun r s1=>∃ u,r=some u ∧
   wpAny (model P w) X.A (letOwnedTupleGo tg (.ref it) u) (fun _ s2=>∃ x H',Inv X pins σ H' s2∧RelV x u∧J.yld i H x H'∧tn (i + 1) s2.heap∧∀ b∈fp,H' b=none) E s1) E s
 done:∀ (X:Cx),X.prog=P→X.w=w→X.K=K→(X.calm=true∨J.rg=true)→∀ (i:Nat) (pins:List (Addr×Obj)) (s:Shared) (σ:St) (H:Hp) (E:Value→Shared→Prop),Inv X pins σ H s→(∀ b∈fp,FpOk X pins H b)→tn i s.heap→J.stop i H →
  wpAny (model P w) X.A (pyNext (.ref it)) (fun r s1=>r=none∧Inv X pins σ H s1) E s
 self:∀ (A:Around) (i:Nat) (s:Shared) (Q:Value→Shared→Prop) (E:Value→Shared→Prop),tn i s.heap→Q (.ref it) s→wpAny (model P w) A (pyIter (.ref it)) Q E s
abbrev TI:=St→Hp→(It→Hp→Prop)→Prop
def PIE (X:Cx) (pins:List (Addr×Obj)) (σ:St) (tg:Expr) (R:It→Hp→Prop) (itv:Value) (s2:Shared):Prop:=
 ∃ (it:Addr) (fp:List Addr) (tn:Nat→Heap→Prop) (J:It) (H':Hp),itv=.ref it∧Inv X pins σ H' s2∧Turn X.prog X.w X.K tg J fp it tn∧tn 0 s2.heap∧(∀ b∈fp,FpOk X pins H' b)∧R J H'
def PI (X:Cx) (tg iter:Expr) (wi:TI):Prop:=
 ∀ (pins:List (Addr×Obj)) (s:Shared) (σ:St) (H:Hp) (R:It→Hp→Prop),Inv X pins σ H s→wi σ H R →
  wpAny (model X.prog X.w) X.A (eval iter X.env) (fun v s1=>wpAny (model X.prog X.w) X.A (pyIter v) (PIE X pins σ tg R) X.xe s1) X.xe s
theorem go_of {M:Model}{A:Around}{E:Value→Shared→Prop}{s:Shared}{tg:Expr}{it:Addr}{u:Value}{o:Obj}{n:String}{vs:Array Value}{Q:Unit→Shared→Prop} (ho:s.heap.get? it=some o) (hc:o.cls=.type n) (hd:o.data=.fields vs)
    (hn:["enumerate","zip","dict_itemiterator","dict_reverseitemiterator","odict_iterator","itertools.zip_longest","itertools.pairwise"].contains n=false) (hQ:Q () s):wpAny M A (letOwnedTupleGo tg (.ref it) u) Q E s:=by
  unfold letOwnedTupleGo
  cases tg <;> first
    | exact wpAny_pure hQ
    | (cases u <;> first
        | exact wpAny_pure hQ
        | (refine wpAny_bind (wpAny_load ho ?_)
           rw [hc,hd]
           show wpAny M A (if (["enumerate","zip","dict_itemiterator","dict_reverseitemiterator","odict_iterator","itertools.zip_longest","itertools.pairwise"].contains n&&vs[0]? == some (rawInt _))=true then _ else _) Q E s
           rw [if_neg (by intro h;rw [hn,Bool.false_and] at h;cases h)]
           exact wpAny_pure hQ))
def Itl (K:PySem.W.Frag) (a:Addr):It:=
 ⟨fun i H=>∃ xs x,SqL K H a xs∧xs[i]? = some x,fun i H x H'=>H'=H∧∀ xs,SqL K H a xs→xs[i]? = some x,fun i H=>∃ xs,SqL K H a xs∧xs.length≤i,false⟩
def Itt (K:PySem.W.Frag) (a:Addr):It:=
 ⟨fun i H=>∃ xs x,SqT K H a xs∧xs[i]? = some x,fun i H x H'=>H'=H∧∀ xs,SqT K H a xs→xs[i]? = some x,fun i H=>∃ xs,SqT K H a xs∧xs.length≤i,false⟩
def Itr (lo:Int) (n:Nat):It:=⟨fun i _=>i < n,fun i H x H'=>H'=H∧x=.int (lo + i),fun i _=>n≤i,true⟩
theorem turn_list {P:Program}{w:World}{K:PySem.W.Frag}{tg:Expr} (a it:Addr):Turn P w K tg (Itl K a) [it] it (fun i h=>h.IsListIter it a i) where
 mem:=by simp
 obj:=fun i h st b hb=>by
  have e:b=it:=by simpa using hb
  subst e
  obtain ⟨o,e,c,d⟩:=st
  exact ⟨o,e,fun v z=>by rw [d] at z;cases z⟩
 keep:=fun i h h' st k=>st.at fun o e=>k it (by simp) o e
 item:=by
  intro X hP hw hK hc i pins s σ H E I hf st hg
  subst hP hw hK
  obtain ⟨xs,x,hq,hx⟩:=hg
  obtain ⟨its,rv,p,hz⟩:=I.list hq
  obtain ⟨u,hu,ru⟩:=rv.get hx
  obtain ⟨f0,f1,f2,f3,f4,f5⟩:=hf it (by simp)
  refine wpAny_pyNext_list_item st p.isList (x:=u) (by simpa using hu) fun h' st' sb=>?_
  have I1:Inv X pins σ H { s with heap:=h' }:=I.turned (t':=s.toks) (fun b o hb e=>(sb.2 b hb).trans e) f0 f1 f3 f4 f5
  obtain ⟨o,e,c,d⟩:=id st'
  exact ⟨u,rfl,go_of (s:={ s with heap:=h' }) e c d (by decide) ⟨x,H,I1,ru,⟨rfl,fun ys hy=>by rw [I.list_inj hy hq];exact hx⟩,st',fun b hb=>(hf b hb).1⟩⟩
 done:=by
  intro X hP hw hK hc i pins s σ H E I hf st hg
  subst hP hw hK
  obtain ⟨xs,hq,hx⟩:=hg
  obtain ⟨its,rv,p,hz⟩:=I.list hq
  obtain ⟨f0,f1,f2,f3,f4,f5⟩:=hf it (by simp)
  have hl:=rv.length
  exact wpAny_pyNext_list_end (I.ok.hd (hc.resolve_right fun z=>Bool.false_ne_true z)) st p.isList (by simp;omega) fun h' eb=>⟨rfl,I.turned (t':=s.toks) (fun b o hb e=>eb b o hb e) f0 f1 f3 f4 f5⟩
 self:=fun _ _ _ _ _ st h=>wpAny_pyIter_listiter st h
theorem turn_tuple {P:Program}{w:World}{K:PySem.W.Frag}{tg:Expr} (a it:Addr):Turn P w K tg (Itt K a) [it] it (fun i h=>h.IsTupleIter it a i) where
 mem:=by simp
 obj:=fun i h st b hb=>by
  have e:b=it:=by simpa using hb
  subst e
  obtain ⟨o,e,c,d⟩:=st
  exact ⟨o,e,fun v z=>by rw [d] at z;cases z⟩
 keep:=fun i h h' st k=>st.at fun o e=>k it (by simp) o e
 item:=by
  intro X hP hw hK hc i pins s σ H E I hf st hg
  subst hP hw hK
  obtain ⟨xs,x,hq,hx⟩:=hg
  obtain ⟨its,rv,p,hz⟩:=I.tuple hq
  obtain ⟨u,hu,ru⟩:=rv.get hx
  obtain ⟨f0,f1,f2,f3,f4,f5⟩:=hf it (by simp)
  refine wpAny_pyNext_tuple_item st (show s.heap.IsTuple a its.toArray from p) (x:=u) (by simpa using hu) fun h' st' sb=>?_
  have I1:Inv X pins σ H { s with heap:=h' }:=I.turned (t':=s.toks) (fun b o hb e=>(sb.2 b hb).trans e) f0 f1 f3 f4 f5
  obtain ⟨o,e,c,d⟩:=id st'
  exact ⟨u,rfl,go_of (s:={ s with heap:=h' }) e c d (by decide) ⟨x,H,I1,ru,⟨rfl,fun ys hy=>by rw [I.tuple_inj hy hq];exact hx⟩,st',fun b hb=>(hf b hb).1⟩⟩
 done:=by
  intro X hP hw hK hc i pins s σ H E I hf st hg
  subst hP hw hK
  obtain ⟨xs,hq,hx⟩:=hg
  obtain ⟨its,rv,p,hz⟩:=I.tuple hq
  obtain ⟨f0,f1,f2,f3,f4,f5⟩:=hf it (by simp)
  have hl:=rv.length
  exact wpAny_pyNext_tuple_end (I.ok.hd (hc.resolve_right fun z=>Bool.false_ne_true z)) st (show s.heap.IsTuple a its.toArray from p) (by simp;omega) fun h' eb=>⟨rfl,I.turned (t':=s.toks) (fun b o hb e=>eb b o hb e) f0 f1 f3 f4 f5⟩
 self:=fun _ _ _ _ _ st h=>wpAny_pyIter_tupleiter st h
theorem turn_range {P:Program}{w:World}{K:PySem.W.Frag}{tg:Expr} (it:Addr) (lo:Int) (n:Nat):Turn P w K tg (Itr lo n) [it] it (fun i h=>IsRangeIter h it (lo + (i:Nat) * 1) ((n:Int) - (i:Nat)) 1) where
 mem:=by simp
 obj:=fun i h st b hb=>by
  have e:b=it:=by simpa using hb
  subst e
  exact ⟨_,st,fun v z=>by
   have z':Data.fields _=Data.cell v:=z
   cases z'⟩
 keep:=fun i h h' st k=>k it (by simp) _ st
 item:=by
  intro X hP hw hK hc i pins s σ H E I hf st hg
  subst hP hw hK
  obtain ⟨f0,f1,f2,f3,f4,f5⟩:=hf it (by simp)
  refine wpAny_pyNext_range_item st (by have:i < n:=hg;omega) fun h' st' sb=>?_
  have I1:Inv X pins σ H { s with heap:=h',toks:=s.toks + 1 }:=I.turned (fun b o hb e=>(sb.2 b hb).trans e) f0 f1 f3 f4 f5
  have e1:lo + ((i + 1:Nat):Int) * 1=lo + (i:Int) * 1 + 1:=by omega
  have e2:(n:Int) - ((i + 1:Nat):Int)=(n:Int) - (i:Int) - 1:=by omega
  refine ⟨_,rfl,go_of (s:={ s with heap:=h',toks:=s.toks + 1 }) (n:="range_iterator") st' rfl rfl (by decide) ⟨.int (lo + i),H,I1,⟨s.toks,?_⟩,⟨rfl,rfl⟩,by rw [e1,e2];exact st',fun b hb=>(hf b hb).1⟩⟩
  rw [Int.mul_one]
 done:=by
  intro X hP hw hK hc i pins s σ H E I hf st hg
  subst hP hw hK
  obtain ⟨f0,f1,f2,f3,f4,f5⟩:=hf it (by simp)
  rcases I.hq with h0 | ⟨a',ob,u,vs,h0,h1,h2,h3⟩
  ·exact wpAny_pyNext_range_end h0 st (by have:n≤i:=hg;omega) fun h' eb=>⟨rfl,I.turned (t':=s.toks) (fun b o hb e=>eb b o hb e) f0 f1 f3 f4 f5⟩
  ·exact range_endH h0 (I.hok a' _ h1).1 h2 h3 st (by have:n≤i:=hg;omega) fun h' eb=>⟨rfl,I.turned (t':=s.toks) (fun b o hb e=>eb b o hb e) f0 f1 f3 f4 f5⟩
 self:=fun _ _ _ _ _ st h=>wpAny_pyIter_rangeiter st h
section
variable {X:Cx}{tg:Expr}
theorem range_it {pins:List (Addr×Obj)}{σ:St}{H:Hp}{s:Shared}{R:It→Hp→Prop}{E:Value→Shared→Prop}{lo hi:Int}{t u v:Tok}{tk:Nat} (I:Inv X pins σ H s) (h1:-(2 ^ 62)≤lo) (h2:lo < 2 ^ 62) (h3:-(2 ^ 62)≤hi) (h4:hi < 2 ^ 62)
  (q:R (Itr lo (hi - lo).toNat) H):wpAny (model X.prog X.w) X.A (pyIter (.ref s.heap.objs.size)) (PIE X pins σ tg R) E { s with heap:=s.heap.push { cls:=.type "range",data:=.fields #[.int lo t,.int hi u,.int 1 v] },toks:=tk }:=by
 refine wpAny_pyIter_range (IsRange.new ..) (small_one h1 h2 h3 h4) ?_
 have I1:Inv X pins σ H { s with heap:=s.heap.push { cls:=.type "range",data:=.fields #[.int lo t,.int hi u,.int 1 v] },toks:=tk }:=I.kept fun b o e=>Heap.get?_push_of_some _ e
 refine ⟨(s.heap.push { cls:=.type "range",data:=.fields #[.int lo t,.int hi u,.int 1 v] }).objs.size,[(s.heap.push { cls:=.type "range",data:=.fields #[.int lo t,.int hi u,.int 1 v] }).objs.size],_,_,H,rfl,
  I1.kept (t':=tk) fun b o e=>Heap.get?_push_of_some _ e,turn_range _ lo (hi - lo).toNat,?_,fun b hb=>?_,q⟩
 ·have e1:lo + ((0:Nat):Int) * 1=lo:=by simp
  have e2:(((hi - lo).toNat:Nat):Int) - ((0:Nat):Int)=Builtin.Range.rangeSize lo hi 1:=by rw [rangeSize_one];split <;> omega
  show IsRangeIter _ _ (lo + ((0:Nat):Int) * 1) ((((hi - lo).toNat:Nat):Int) - ((0:Nat):Int)) 1
  rw [e1,e2]
  exact Heap.get?_push_size _ rfl
 ·have e:b=(s.heap.push { cls:=.type "range",data:=.fields #[.int lo t,.int hi u,.int 1 v] }).objs.size:=by simpa using hb
  subst e
  exact I1.fpOk (Nat.le_refl _) (I1.hok.fresh (Nat.le_refl _))
def iRng1 (ta:TA):TI:=fun σ H R=>ta σ H fun vs H1=>∃ j:Int,vs=[.int j]∧-(2 ^ 62)≤j∧j < 2 ^ 62∧R (Itr 0 j.toNat) H1
theorem pi_range1 {a:Expr}{ta:TA}{p pos:Pos} (hg:Gl X "range") (hm:X.mg "range"=none) (ha:PA X [a] ta) (hs:starEach [a] X.env=[(false,eval a X.env)]:=by rfl):PI X tg (.Call (.Name "range" p) [a] [] pos) (iRng1 ta):=by
 intro pins s σ H R I h
 refine Call_ (ld_blt I hg hm boot_range (PyProof.Rows.callWith_type1 (thn (ha pos pins s σ H _ I h) fun us s1 ⟨vs,H1,I1,r1,q1⟩=>?_) hs rfl))
 obtain ⟨j,e,q1,q2,q⟩:=q1
 subst e
 cases r1 with
 | cons r rr=>
  cases rr
  obtain ⟨t,rfl⟩:=r
  exact call_range_1 (range_it I1 (by omega) (by omega) q1 q2 (by simpa using q))
def tFor (wi:TI) (g:TG) (tb:TS):TS:=fun D σ H=>wi σ H fun J H1=>∃ W:Nat→Nat→St→Hp→Prop,(∃ m,W 0 m σ H1)∧∀ i m σ H,W i m σ H →
 (J.stop i H∧D.nx σ H)∨(J.go i H∧∃ N:St→Hp→Prop,(∀ σ' H',N σ' H'→∃ m',m' < m∧W (i + 1) m' σ' H')∧∀ x H',J.yld i H x H'→g x σ H' fun σ2 H2=>tb { D with nx:=N,ct:=N,bk:=D.nx } σ2 H2)
def pinsAt (fp:List Addr) (h:Heap):List (Addr×Obj):=fp.filterMap fun b=>(h.get? b).map fun o=>(b,o)
theorem mem_pinsAt {fp:List Addr}{h:Heap}{b:Addr}{o:Obj} (hb:b∈fp) (e:h.get? b=some o):(b,o)∈pinsAt fp h:=List.mem_filterMap.mpr ⟨b,hb,by rw [e];rfl⟩
theorem of_pinsAt {fp:List Addr}{h:Heap}{p:Addr×Obj} (hp:p∈pinsAt fp h):p.1∈fp∧h.get? p.1=some p.2:=by
 obtain ⟨b,hb,e⟩:=List.mem_filterMap.mp hp
 cases q:h.get? b with
 | none=>rw [q] at e;cases e
 | some o=>
  rw [q] at e
  have e':(b,o)=p:=Option.some.inj e
  subst e'
  exact ⟨hb,q⟩
theorem Inv.pinned {pins:List (Addr×Obj)}{σ:St}{H:Hp}{s:Shared}{fp:List Addr} (I:Inv X pins σ H s) (hf:∀ b∈fp,FpOk X pins H b) (ho:∀ b∈fp,∃ o,s.heap.get? b=some o∧∀ v,o.data≠.cell v):Inv X (pins++pinsAt fp s.heap) σ H s:=
 I.pins_of fun p hp=>(List.mem_append.mp hp).elim (fun z=>I.pin p (List.mem_append_right _ z)) fun z=>by
  obtain ⟨hb,e⟩:=of_pinsAt z
  obtain ⟨f0,f1,f2,_⟩:=hf p.1 hb
  obtain ⟨o,e',d⟩:=ho p.1 hb
  rw [e] at e';cases e'
  exact ⟨e,f0,f1,f2,d⟩
theorem Inv.unpinned {pins pl:List (Addr×Obj)}{σ:St}{H:Hp}{s:Shared} (I:Inv X (pins++pl) σ H s):Inv X pins σ H s:=I.pins_of fun p hp=>I.pin p (List.mem_append_right _ (List.mem_append_left _ hp))
theorem ps_for {iter:Expr}{body:List Stmt}{wi:TI}{g:TG}{tb:TS}{pos:Pos} (hp:PassesOwn (model X.prog X.w) X.A X.env X.xe) (hc:X.calm=true) (hi:PI X tg iter wi) (hg:PG X tg g) (hb:PSs X body tb)
  (hs:∀ x,foldedSetIterable iter X.env x=pure x:=by intro _;rfl):PS X (.For tg iter body [] pos) (tFor wi g tb):=by
 intro pins s σ H D I h
 refine wpAny_For (thn (hi pins s σ H _ I h) fun v s1 h1=>thn h1 fun itv s2 h2=>?_) hs
 obtain ⟨it,fp,tn,J,H2,e,I2,T,st2,f2,W,⟨m0,w0⟩,turn⟩:=h2
 subst e
 have stat:∀ {H':Hp},(∀ b∈fp,H' b=none)→∀ b∈fp,FpOk X pins H' b:=fun hn b hb=>⟨hn b hb,(f2 b hb).2⟩
 refine codeAny_forLoop_any (fun n s'=>∃ i σ' H',Inv X pins σ' H' s'∧tn i s'.heap∧(∀ b∈fp,H' b=none)∧W i n σ' H') ?_ m0 ⟨0,σ,H2,I2,st2,fun b hb=>(f2 b hb).1,w0⟩
 rintro n s3 ⟨i,σ3,H3,I3,st3,fr3,w3⟩
 rcases turn i n σ3 H3 w3 with ⟨stop,qn⟩ | ⟨go,N,hN,step⟩
 ·refine wpAny_passesOwn hp (thn (T.done X rfl rfl rfl (.inl hc) i pins s3 σ3 H3 X.xe I3 (stat fr3) st3 stop) fun r s4 ⟨hr,I4⟩=>?_)
  subst hr
  exact wpAny_execs_nil ⟨σ3,H3,I4,qn⟩
 ·refine wpAny_passesOwn hp (thn (T.item X rfl rfl rfl (.inl hc) i pins s3 σ3 H3 X.xe I3 (stat fr3) st3 go) fun r s4 ⟨u,hr,h4⟩=>?_)
  subst hr
  refine wpAny_passesOwn hp (thn h4 fun _ s5 ⟨x,H5,I5,r5,y5,st5,fr5⟩=>?_)
  have I5':=I5.pinned (stat fr5) (T.obj _ _ st5)
  refine wpAny_passesOwn hp (thn (hg _ s5 σ3 H5 x u _ I5' r5 (step x H5 y5)) fun _ s6 ⟨σ6,H6,I6,q6⟩=>?_)
  refine wpAny_passesOwn hp (thn (hb _ s6 σ6 H6 _ I6 q6) fun f s7 q7=>?_)
  have again:∀ {σ7:St}{H7:Hp},Inv X (pins++pinsAt fp s5.heap) σ7 H7 s7→N σ7 H7→∃ m,m < n∧∃ i σ' H',Inv X pins σ' H' s7∧tn i s7.heap∧(∀ b∈fp,H' b=none)∧W i m σ' H':=fun {σ7 H7} I7 n7=>by
   obtain ⟨m',hm,w7⟩:=hN σ7 H7 n7
   refine ⟨m',hm,i + 1,σ7,H7,I7.unpinned,T.keep _ _ _ st5 fun b hb o e=>(I7.pin (b,o) (List.mem_append_right _ (List.mem_append_right _ (mem_pinsAt hb e)))).1,fun b hb=>?_,w7⟩
   obtain ⟨o,e,d⟩:=T.obj _ _ st5 b hb
   exact (I7.pin (b,o) (List.mem_append_right _ (List.mem_append_right _ (mem_pinsAt hb e)))).2.1
  cases f with
  | next=>obtain ⟨σ7,H7,I7,n7⟩:=q7;exact again I7 n7
  | cont=>obtain ⟨σ7,H7,I7,n7⟩:=q7;exact again I7 n7
  | brk=>obtain ⟨σ7,H7,I7,q7⟩:=q7;exact ⟨σ7,H7,I7.unpinned,q7⟩
  | ret v=>obtain ⟨x7,σ7,H7,I7,r7,q7⟩:=q7;exact ⟨x7,σ7,H7,I7.unpinned,r7,q7⟩
end
abbrev R2:=V→V→Hp→VK→Prop
def OpR (X:Cx) (f:Value→Value→Sem Value) (r:R2):Prop:=
 ∀ (pins:List (Addr×Obj)) (s:Shared) (σ:St) (H:Hp) (x y:V) (v u:Value) (Q:VK),Inv X pins σ H s→RelV x v→RelV y u→r x y H Q →
  wpAny (model X.prog X.w) X.A (f v u) (EP X pins σ Q) X.xe s
def CallR (X:Cx) (f:Value) (r:List V→Hp→VK→Prop):Prop:=
 ∀ (pins:List (Addr×Obj)) (s:Shared) (σ:St) (H:Hp) (xs:List V) (us:List Value) (Q:VK),Inv X pins σ H s→Vals xs us→r xs H Q →
  wpAny (model X.prog X.w) X.A (call f us) (EP X pins σ Q) X.xe s
def TruR (X:Cx) (r:V→Hp→(Bool→Hp→Prop)→Prop):Prop:=
 ∀ (pins:List (Addr×Obj)) (s:Shared) (σ:St) (H:Hp) (x:V) (v:Value) (Q:Bool→Hp→Prop),Inv X pins σ H s→RelV x v→r x H Q →
  wpAny (model X.prog X.w) X.A (truthy v) (TP X pins σ Q) X.xe s
def tOp (r:R2) (ta tb:TE):TE:=fun σ H Q=>ta σ H fun x H1=>tb σ H1 fun y H2=>r x y H2 Q
def rI (C:Int→Int→Prop) (g:Int→Int→V):R2:=fun x y H Q=>∃ i j,x=.int i∧y=.int j∧C i j∧Q (g i j) H
def rI0 (g:Int→Int→V):R2:=fun x y H Q=>∃ i j,x=.int i∧y=.int j∧Q (g i j) H
section
variable {X:Cx}{a b c:Expr}{ta tb tc:TE}{pos:Pos}
theorem binT (ha:PE X a ta) (hb:PE X b tb) {pins:List (Addr×Obj)}{s:Shared}{σ:St}{H:Hp}{R:V→V→Hp→Prop} (I:Inv X pins σ H s)
  (h:ta σ H fun x H1=>tb σ H1 fun y H2=>R x y H2) {Q:Value→Shared→Prop}{f:Value→Value→Sem Value}
  (hf:∀ v u s2 x y H2,Inv X pins σ H2 s2→RelV x v→RelV y u→R x y H2→wpAny (model X.prog X.w) X.A (f v u) Q X.xe s2) :
  wpAny (model X.prog X.w) X.A (eval a X.env) (fun v s₁=>wpAny (model X.prog X.w) X.A (eval b X.env) (fun u s₂=>wpAny (model X.prog X.w) X.A (f v u) Q X.xe s₂) X.xe s₁) X.xe s:=by
 refine thn (ha pins s σ H _ I h) fun v s1 ⟨x,H1,I1,r1,q1⟩=>?_
 refine thn (hb pins s1 σ H1 _ I1 q1) fun u s2 ⟨y,H2,I2,r2,q2⟩=>?_
 exact hf v u s2 x y H2 I2 r1 r2 q2
theorem pe_op {op:Operator}{r:R2} (ho:OpR X (binaryOp op) r) (ha:PE X a ta) (hb:PE X b tb):PE X (.BinOp a op b pos) (tOp r ta tb):=by
 intro pins s σ H Q I h
 exact wpAny_BinOp (binT ha hb I h fun v u s2 x y H2 I2 rx ry q=>ho pins s2 σ H2 x y v u Q I2 rx ry q)
theorem opI {f:Value→Value→Sem Value}{C:Int→Int→Prop}{g:Int→Int→Int}
  (rule:∀ (i j:Int) (t u:Tok) (s:Shared) (Q:Value→Shared→Prop) (E:Value→Shared→Prop),C i j→Q (.int (g i j) s.toks) { s with toks:=s.toks + 1 }→wpAny (model X.prog X.w) X.A (f (.int i t) (.int j u)) Q E s) :
  OpR X f (rI C fun i j=>.int (g i j)):=by
 intro pins s σ H x y v u Q I rx ry h
 obtain ⟨i,j,rfl,rfl,hc,q⟩:=h
 obtain ⟨t,rfl⟩:=rx
 obtain ⟨t',rfl⟩:=ry
 exact rule i j t t' s _ _ hc ⟨.int (g i j),H,I.tok _,⟨_,rfl⟩,q⟩
theorem opI0 {f:Value→Value→Sem Value}{g:Int→Int→Int}
  (rule:∀ (i j:Int) (t u:Tok) (s:Shared) (Q:Value→Shared→Prop) (E:Value→Shared→Prop),Q (.int (g i j) s.toks) { s with toks:=s.toks + 1 }→wpAny (model X.prog X.w) X.A (f (.int i t) (.int j u)) Q E s) :
  OpR X f (rI0 fun i j=>.int (g i j)):=by
 intro pins s σ H x y v u Q I rx ry h
 obtain ⟨i,j,rfl,rfl,q⟩:=h
 obtain ⟨t,rfl⟩:=rx
 obtain ⟨t',rfl⟩:=ry
 exact rule i j t t' s _ _ ⟨.int (g i j),H,I.tok _,⟨_,rfl⟩,q⟩
theorem opB0 {f:Value→Value→Sem Value}{g:Int→Int→Bool}
  (rule:∀ (i j:Int) (t u:Tok) (s:Shared) (Q:Value→Shared→Prop) (E:Value→Shared→Prop),Q (.bool (g i j)) s→wpAny (model X.prog X.w) X.A (f (.int i t) (.int j u)) Q E s) :
  OpR X f (rI0 fun i j=>.bl (g i j)):=by
 intro pins s σ H x y v u Q I rx ry h
 obtain ⟨i,j,rfl,rfl,q⟩:=h
 obtain ⟨t,rfl⟩:=rx
 obtain ⟨t',rfl⟩:=ry
 exact rule i j t t' s _ _ ⟨.bl (g i j),H,I,rfl,q⟩
def CPow (i j:Int):Prop:=0≤j∧j≤1000000∧i.natAbs < 2 ^ 64
def CMul (i j:Int):Prop:=(-(2 ^ 64) < i∧i < 2 ^ 64)∨(-(2 ^ 64) < j∧j < 2 ^ 64)
theorem CMul.ok {i j:Int} (h:CMul i j):IntMulOk i j:=by
 rcases h with ⟨h1,h2⟩ | ⟨h1,h2⟩
 ·exact .of_left (intBits_le_64 h1 h2)
 ·exact .of_right (intBits_le_64 h1 h2)
theorem op_add:OpR X (binaryOp .Add) (rI0 fun i j=>.int (i + j)):=opI0 fun _ _ _ _ _ _ _ q=>add_int q
theorem op_sub:OpR X (binaryOp .Sub) (rI0 fun i j=>.int (i - j)):=opI0 fun _ _ _ _ _ _ _ q=>sub_int q
theorem op_mul:OpR X (binaryOp .Mult) (rI CMul fun i j=>.int (i * j)):=opI fun _ _ _ _ _ _ _ hc q=>mul_int q hc.ok
theorem op_mod:OpR X (binaryOp .Mod) (rI (fun _ j=>0 < j) fun i j=>.int (i % j)):=opI fun i j _ _ _ _ _ hc q=>by
 have h1:(0:Int) < j:=hc
 exact mod_int' (by omega) (by rw [Int.fmod_eq_emod_of_nonneg i (by omega)];exact q)
theorem op_pow:OpR X (binaryOp .Pow) (rI CPow fun i j=>.int (i ^ j.toNat)):=opI fun _ _ _ _ _ _ _ hc q=>pow_int_small hc.1 hc.2.1 hc.2.2 q
end
def scal:V→V→Bool
 | .non,.non=>true | .non,.int _=>true | .int _,.non=>true | .non,.bl _=>true | .bl _,.non=>true | .non,.str _=>true | .str _,.non=>true
 | .int _,.int _=>true | .bl _,.bl _=>true | .str _,.str _=>true | .byt _,.byt _=>true
 | .int _,.str _=>true | .str _,.int _=>true | .bl _,.str _=>true | .str _,.bl _=>true
 | _,_=>false
def rEq:R2:=fun x y H Q=>scal x y=true∧Q (.bl (decide (x=y))) H
def rNe:R2:=fun x y H Q=>scal x y=true∧Q (.bl (!decide (x=y))) H
theorem dec_int {i j:Int}:decide (V.int i=V.int j)=(i == j):=by
 rw [Bool.eq_iff_iff]
 simp
theorem dec_bl {i j:Bool}:decide (V.bl i=V.bl j)=(i == j):=by
 rw [Bool.eq_iff_iff]
 simp
theorem dec_str {i j:Str}:decide (V.str i=V.str j)=(i == j):=by
 rw [Bool.eq_iff_iff]
 simp
theorem dec_byt {i j:Array UInt8}:decide (V.byt i=V.byt j)=(i.toList == j.toList):=by
 rw [Bool.eq_iff_iff]
 cases i
 cases j
 simp
section
variable {X:Cx}{a b c:Expr}{ta tb tc:TE}{pos:Pos}
theorem fin_bl {pins:List (Addr×Obj)}{σ:St}{H:Hp}{s:Shared}{Q:VK}{k k':Bool} (I:Inv X pins σ H s) (q:Q (.bl k) H) (e:k=k'):EP X pins σ Q (.bool k') s:=by
 subst e
 exact ⟨.bl k,H,I,rfl,q⟩
theorem op_eq:OpR X (compareOp .Eq) rEq:=by
 intro pins s σ H x y v u Q I rx ry h
 obtain ⟨hs,q⟩:=h
 cases x with
 | non=>
  cases rx
  cases y with
  | non=>cases ry;exact PySem.EqNone.eq_none_none (fin_bl I q (by simp))
  | bl j=>cases ry;exact PySem.EqNone.eq_none_bool (fin_bl I q (by simp))
  | int j=>obtain ⟨t',rfl⟩:=ry;exact PySem.EqNone.eq_none_int (fin_bl I q (by simp))
  | str j=>obtain ⟨t',rfl⟩:=ry;exact PySem.EqNone.eq_none_str (fin_bl I q (by simp))
  | _=>exact absurd (show false=true from hs) Bool.false_ne_true
 | bl i=>
  cases rx
  cases y with
  | non=>cases ry;exact PySem.EqNone.eq_bool_none (fin_bl I q (by simp))
  | bl j=>cases ry;exact eq_bool (fin_bl I q dec_bl)
  | str j=>obtain ⟨t',rfl⟩:=ry;exact PySem.EqMixed.eq_bool_str (fin_bl I q (by simp))
  | _=>exact absurd (show false=true from hs) Bool.false_ne_true
 | int i=>
  obtain ⟨t,rfl⟩:=rx
  cases y with
  | non=>cases ry;exact PySem.EqNone.eq_int_none (fin_bl I q (by simp))
  | int j=>obtain ⟨t',rfl⟩:=ry;exact eq_int (fin_bl I q dec_int)
  | str j=>obtain ⟨t',rfl⟩:=ry;exact PySem.EqMixed.eq_int_str (fin_bl I q (by simp))
  | _=>exact absurd (show false=true from hs) Bool.false_ne_true
 | str i=>
  obtain ⟨t,rfl⟩:=rx
  cases y with
  | non=>cases ry;exact PySem.EqNone.eq_str_none (fin_bl I q (by simp))
  | bl j=>cases ry;exact PySem.EqMixed.eq_str_bool (fin_bl I q (by simp))
  | int j=>obtain ⟨t',rfl⟩:=ry;exact PySem.EqMixed.eq_str_int (fin_bl I q (by simp))
  | str j=>obtain ⟨t',rfl⟩:=ry;exact eq_str (fin_bl I q dec_str)
  | _=>exact absurd (show false=true from hs) Bool.false_ne_true
 | byt i=>
  obtain ⟨t,rfl⟩:=rx
  cases y with
  | byt j=>obtain ⟨t',rfl⟩:=ry;exact PySem.W.eq_bytes (fin_bl I q dec_byt)
  | _=>exact absurd (show false=true from hs) Bool.false_ne_true
 | _=>cases y <;> exact absurd (show false=true from hs) Bool.false_ne_true
theorem op_ne:OpR X (compareOp .NotEq) rNe:=by
 intro pins s σ H x y v u Q I rx ry h
 obtain ⟨hs,q⟩:=h
 cases x with
 | non=>
  cases rx
  cases y with
  | non=>cases ry;exact PySem.EqNone.ne_none_none (fin_bl I q (by simp))
  | bl j=>cases ry;exact PySem.EqNone.ne_none_bool (fin_bl I q (by simp))
  | int j=>obtain ⟨t',rfl⟩:=ry;exact PySem.EqNone.ne_none_int (fin_bl I q (by simp))
  | str j=>obtain ⟨t',rfl⟩:=ry;exact PySem.EqNone.ne_none_str (fin_bl I q (by simp))
  | _=>exact absurd (show false=true from hs) Bool.false_ne_true
 | bl i=>
  cases rx
  cases y with
  | non=>cases ry;exact PySem.EqNone.ne_bool_none (fin_bl I q (by simp))
  | bl j=>cases ry;exact ne_bool (fin_bl I q (congrArg not dec_bl))
  | str j=>obtain ⟨t',rfl⟩:=ry;exact PySem.EqMixed.ne_bool_str (fin_bl I q (by simp))
  | _=>exact absurd (show false=true from hs) Bool.false_ne_true
 | int i=>
  obtain ⟨t,rfl⟩:=rx
  cases y with
  | non=>cases ry;exact PySem.EqNone.ne_int_none (fin_bl I q (by simp))
  | int j=>obtain ⟨t',rfl⟩:=ry;exact ne_int (fin_bl I q (congrArg not dec_int))
  | str j=>obtain ⟨t',rfl⟩:=ry;exact PySem.EqMixed.ne_int_str (fin_bl I q (by simp))
  | _=>exact absurd (show false=true from hs) Bool.false_ne_true
 | str i=>
  obtain ⟨t,rfl⟩:=rx
  cases y with
  | non=>cases ry;exact PySem.EqNone.ne_str_none (fin_bl I q (by simp))
  | bl j=>cases ry;exact PySem.EqMixed.ne_str_bool (fin_bl I q (by simp))
  | int j=>obtain ⟨t',rfl⟩:=ry;exact PySem.EqMixed.ne_str_int (fin_bl I q (by simp))
  | str j=>obtain ⟨t',rfl⟩:=ry;exact ne_str (fin_bl I q (congrArg not dec_str))
  | _=>exact absurd (show false=true from hs) Bool.false_ne_true
 | byt i=>
  obtain ⟨t,rfl⟩:=rx
  cases y with
  | byt j=>obtain ⟨t',rfl⟩:=ry;exact PySem.W.ne_bytes (fin_bl I q (congrArg not dec_byt))
  | _=>exact absurd (show false=true from hs) Bool.false_ne_true
 | _=>cases y <;> exact absurd (show false=true from hs) Bool.false_ne_true
theorem op_lt:OpR X (compareOp .Lt) (rI0 fun i j=>.bl (decide (i < j))):=opB0 fun _ _ _ _ _ _ _ q=>lt_int q
theorem op_le:OpR X (compareOp .LtE) (rI0 fun i j=>.bl (decide (i≤j))):=opB0 fun _ _ _ _ _ _ _ q=>le_int q
theorem op_in_str:OpR X (compareOp .In) (fun x y H Q=>∃ i j,x=.str i∧y=.str j∧Q (.bl (!(Builtin.Str.occurrences j i 0 j.length 1).isEmpty)) H):=by
 intro pins s σ H x y v u Q I rx ry h
 obtain ⟨i,j,rfl,rfl,q⟩:=h
 obtain ⟨t,rfl⟩:=rx
 obtain ⟨t',rfl⟩:=ry
 exact in_str (fin_bl I q rfl)
theorem nomark (b:Expr) {op:CmpOp} (h:op≠.In:=by decide) (h2:op≠.NotIn:=by decide):behindInMarks op b=false:=by
 have e1:(op == CmpOp.In)=false:=by cases op <;> first | rfl | exact absurd rfl h
 have e2:(op == CmpOp.NotIn)=false:=by cases op <;> first | rfl | exact absurd rfl h2
 cases b <;> simp [behindInMarks,e1,e2]
theorem pe_cmpR {op:CmpOp}{r:R2} (ho:OpR X (compareOp op) r) (ha:PE X a ta) (hb:PE X b tb) (hm:behindInMarks op b=false):PE X (.Compare a [op] [b] pos) (tOp r ta tb):=by
 intro pins s σ H Q I h
 exact wpAny_Compare1 (binT ha hb I h fun v u s2 x y H2 I2 rx ry q=>ho pins s2 σ H2 x y v u Q I2 rx ry q) hm
def tTest (t:TE):TT:=fun σ H Q=>t σ H fun x H'=>∃ k,x=.bl k∧Q k H'
theorem pt_cmpR {op:CmpOp}{r:R2} (ho:OpR X (compareOp op) r) (ha:PE X a ta) (hb:PE X b tb) (hm:behindInMarks op b=false):PT X (.Compare a [op] [b] pos) (tTest (tOp r ta tb)):=by
 intro pins s σ H Q I h
 refine wpAny_isTrue_Compare1 (thn (ha pins s σ H _ I h) fun v s1 ⟨x,H1,I1,r1,q1⟩=>thn (hb pins s1 σ H1 _ I1 q1) fun u s2 ⟨y,H2,I2,r2,q2⟩=>
  thn (ho pins s2 σ H2 x y v u _ I2 r1 r2 q2) fun c s3 ⟨z,H3,I3,r3,k,e,q3⟩=>?_) hm
 subst e
 cases r3
 exact wpAny_truthy_bool ⟨H3,I3,q3⟩
def tChain (r r':R2) (ta tb tc:TE):TE:=fun σ H Q=>ta σ H fun x H1=>tb σ H1 fun y H2=>r x y H2 fun z H3=>∃ k,z=.bl k ∧
 (if k=true then tc σ H3 fun w' H4=>r' y w' H4 Q else Q (.bl false) H3)
theorem pt_chain {op op':CmpOp}{r r':R2} (ho:OpR X (compareOp op) r) (ho':OpR X (compareOp op') r') (ha:PE X a ta) (hb:PE X b tb) (hc:PE X c tc)
  (hm:lastMarks [op,op'] [b,c]=false:=by with_unfolding_all rfl):PT X (.Compare a [op,op'] [b,c] pos) (tTest (tChain r r' ta tb tc)):=by
 intro pins s σ H Q I h
 refine isTrue_chain (thn (ha pins s σ H _ I h) fun v s1 ⟨x,H1,I1,r1,q1⟩=>test_link (thn (hb pins s1 σ H1 _ I1 q1) fun u s2 ⟨y,H2,I2,r2,q2⟩=>
  thn (ho pins s2 σ H2 x y v u _ I2 r1 r2 q2) fun d s3 ⟨z,H3,I3,r3,k,e,q3⟩=>?_)) hm
 subst e
 cases r3
 refine wpAny_truthy_bool ?_
 cases k with
 | false=>
  obtain ⟨k',e',q'⟩:=q3
  cases e'
  exact ite_ff ⟨H3,I3,q'⟩
 | true=>
  refine ite_tt (test_last (thn (hc pins s3 σ H3 _ I3 q3) fun w' s4 ⟨z',H4,I4,r4,q4⟩=>thn (ho' pins s4 σ H4 y z' u w' _ I4 r2 r4 q4) fun d' s5 ⟨z2,H5,I5,r5,k2,e2,q5⟩=>?_))
  subst e2
  cases r5
  exact wpAny_truthy_bool ⟨H5,I5,q5⟩
def TruV (K:PySem.W.Frag) (x:V) (H:Hp) (k:Bool):Prop:=
 match x with
 | .non=>k=false
 | .bl b=>k=b
 | .int i=>k=(i != 0)
 | .str y=>y.length≤sizeLine∧k=((y.length:Int) != 0)
 | .byt y=>y.size≤sizeLine∧k=((y.size:Int) != 0)
 | .ref p=>(∃ xs,SqL K H p xs∧k=!xs.isEmpty)∨(∃ xs,SqT K H p xs∧k=!xs.isEmpty)∨∃ kvs,H p=some (.dK kvs)∧k=!kvs.isEmpty
 | _=>False
theorem isEmpty_kv {κ:Type}{kvs:List (κ×V)}{vs:List (κ×Value)} (r:KV kvs vs):(!vs.isEmpty)=!kvs.isEmpty:=by
 cases r <;> rfl
theorem isEmpty_of {xs:List V}{its:List Value} (r:Vals xs its):(!its.toArray.isEmpty)=!xs.isEmpty:=by
 cases r <;> simp
theorem line63:(sizeLine:Nat) < 2 ^ 63:=by rw [sizeLine_eq];decide
theorem tru_ok:TruR X (fun x H Q=>∃ k,TruV X.K x H k∧Q k H):=by
 intro pins s σ H x v Q I rx h
 obtain ⟨k,e,q⟩:=h
 have hl:=line63
 have hs:sizeLine=16777216:=sizeLine_eq
 cases x with
 | non=>
  cases rx
  have e':k=false:=e
  subst e'
  exact truthy_none ⟨H,I,q⟩
 | bl b=>
  cases rx
  have e':k=b:=e
  subst e'
  exact wpAny_truthy_bool ⟨H,I,q⟩
 | int i=>
  obtain ⟨t,rfl⟩:=rx
  have e':k=(i != 0):=e
  subst e'
  exact PySem.P.truthy_int ⟨H,I,q⟩
 | str y=>
  obtain ⟨t,rfl⟩:=rx
  obtain ⟨hy,e'⟩:y.length≤sizeLine∧k=((y.length:Int) != 0):=e
  subst e'
  exact PySem.P.truthy_str (by omega) ⟨H,I.tok _,q⟩
 | byt y=>
  obtain ⟨t,rfl⟩:=rx
  obtain ⟨hy,e'⟩:y.size≤sizeLine∧k=((y.size:Int) != 0):=e
  subst e'
  exact PySem.W.truthy_bytes (by omega) ⟨H,I.tok _,q⟩
 | ref p=>
  cases rx
  have e':(∃ xs,SqL X.K H p xs∧k=!xs.isEmpty)∨(∃ xs,SqT X.K H p xs∧k=!xs.isEmpty)∨∃ kvs,H p=some (.dK kvs)∧k=!kvs.isEmpty:=e
  rcases e' with ⟨xs,hx,e'⟩ | ⟨xs,hx,e'⟩ | ⟨kvs,hx,e'⟩
  ·subst e'
   obtain ⟨its,r,pl,hz⟩:=I.list hx
   have hlen:=r.length
   exact wpAny_truthy_list pl.isList (by simp only [List.size_toArray];omega) ⟨H,I.tok _,by rw [isEmpty_of r];exact q⟩
  ·subst e'
   obtain ⟨its,r,pl,hz⟩:=I.tuple hx
   have hlen:=r.length
   exact truthy_tuple pl (by simp only [List.size_toArray];omega) ⟨H,I.tok _,by rw [isEmpty_of r];exact q⟩
  ·subst e'
   obtain ⟨hz,hS,vs,r,m⟩:kvs.length≤sizeLine∧(p == sysModules)=false∧∃ vs,KV kvs vs∧s.heap.DictOf (mixKind X.prog X.w) p vs:=I.hok p _ hx
   have hlen:kvs.length=vs.length:=Paired.length r
   exact wpAny_truthy_dict hS m (by omega) ⟨H,I.tok _,by rw [isEmpty_kv r];exact q⟩
 | _=>exact (show False from e).elim
theorem pt_truth (ha:PE X a ta) (he:∀ whole,isTrue a X.env whole=(do let v ← whole;standAt a.pos;holding [v] (truthy v))) :
  PT X a (fun σ H Q=>ta σ H fun x H'=>∃ k,TruV X.K x H' k∧Q k H'):=by
 intro pins s σ H Q I h
 exact isTrue_plain (thn (ha pins s σ H _ I h) fun v s1 ⟨x,H1,I1,r1,q1⟩=>tru_ok pins s1 σ H1 x v Q I1 r1 q1) (he _)
theorem op_add_str:OpR X (binaryOp .Add) (fun x y H Q=>∃ i j,x=.str i∧y=.str j∧i.length + j.length≤sizeLine∧Q (.str (i++j)) H):=by
 intro pins s σ H x y v u Q I rx ry h
 obtain ⟨i,j,rfl,rfl,hz,q⟩:=h
 obtain ⟨t,rfl⟩:=rx
 obtain ⟨t',rfl⟩:=ry
 exact add_str (fun t' tk=>⟨.str (i++j),H,I.tok _,⟨_,rfl⟩,q⟩) hz
theorem vals1 {x:V}{us:List Value} (r:Vals [x] us):∃ u,us=[u]∧RelV x u:=by
 cases r with
 | cons r1 r2=>cases r2;exact ⟨_,rfl,r1⟩
theorem vals2 {x y:V}{us:List Value} (r:Vals [x,y] us):∃ u w',us=[u,w']∧RelV x u∧RelV y w':=by
 cases r with
 | cons r1 r2=>
  cases r2 with
  | cons r3 r4=>cases r4;exact ⟨_,_,rfl,r1,r3⟩
end
structure ObjM (h:Heap) (x dx C:Addr) (mA:Str→Option Value):Prop where
 obj:h.get? x=some (PySem.W.instObj C dx)
 ns:h.Ns1 dx mA
 ne:dx≠x
theorem lookIn_ns {h:Heap}{dx:Addr}{mA:Str→Option Value} (n:h.Ns1 dx mA):∃ od,h.get? dx=some od∧∀ name,PySem.W.lookIn name od=some (mA name):=by
 obtain ⟨o,es,ep,ho,hd,hk,_,hm⟩:=n
 refine ⟨o,ho,fun name=>?_⟩
 have e:=hm name
 unfold nsFind findBy at e
 rw [← Array.find?_toList] at e
 unfold PySem.W.lookIn
 rw [hd]
 dsimp only
 split
 ·rename_i y q
  rw [q] at e
  exact congrArg some e
 ·rename_i q
  rw [q] at e
  have a:es.toList.any (·.refKey)=false:=by
   rw [List.any_eq_false]
   intro y hy
   obtain ⟨z,t,hkey⟩:=hk y (Array.mem_toList_iff.mp hy)
   simp [DictEntry.refKey,hkey]
  have a':¬ es.toList.any (·.refKey)=true:=by rw [a];exact Bool.false_ne_true
  rw [if_neg a']
  exact congrArg some e
theorem ObjM.look {h:Heap}{x dx C:Addr}{mA:Str→Option Value} (I:ObjM h x dx C mA):∃ od,PySem.W.InstAt h x (PySem.W.instObj C dx) C (some od)∧∀ name,PySem.W.lookIn name od=some (mA name):=
 let ⟨od,ho,hl⟩:=lookIn_ns I.ns
 ⟨od,⟨I.obj,rfl,rfl,ho⟩,hl⟩
section
variable {P:Program}{w:World}{H H':Hp}{h h':Heap}{a C dx:Addr}{fs fs':List (Str×V)}
theorem ins_get (hok:HOk P w H h) (e:H a=some (.ins C dx fs)):∃ mA,ObjM h a dx C mA∧(∀ f,RelO (fs.lookup f) (mA f))∧PySem.Within mA (fs.map (·.1))∧fs.length≤1000∧H dx=some (.own a):=by
 obtain ⟨d,z,ne,ob,mA,n,r,q⟩:=(show ObjOk P w H h a (.ins C dx fs) from hok a _ e)
 exact ⟨mA,⟨ob,n,ne⟩,r,q,z,d⟩
end
structure Cls (K:PySem.W.Frag) (C:Addr):Prop where
 pg:PySem.W.plainGet K C Str.empty=true
 hd:PySem.W.hasDictIn K C=true
 po:PySem.W.plainOver K C=true
 sa:PySem.W.findIn K (.ref C) "__setattr__"=some (some (.builtin "object.__setattr__"))
theorem Cls.get {K:PySem.W.Frag}{C:Addr} (c:Cls K C) (f:Str):PySem.W.plainGet K C f=true:=c.pg
section
variable {X:Cx}{pins:List (Addr×Obj)}{σ:St}{H:Hp}{s:Shared}{A:Around}{E:Value→Shared→Prop}{Q:Value→Shared→Prop}{c:Value}{b:Bool}
inductive TyOf (K:PySem.W.Frag) (H:Hp):V→Value→Prop where
 | non:TyOf K H .non (.type "NoneType")
 | bl (x:Bool):TyOf K H (.bl x) (.type "bool")
 | int (i:Int):TyOf K H (.int i) (.type "int")
 | str (x:Str):TyOf K H (.str x) (.type "str")
 | flt (x:UInt64):TyOf K H (.flt x) (.type "float")
 | lst {a:Addr}{xs:List V} (e:H a=some (.lst xs)):TyOf K H (.ref a) (.type "list")
 | frz {a:Addr}{o:Obj}{xs:List V} (e:H a=some (.frz o (.lst xs))):TyOf K H (.ref a) (.type "list")
 | tup {a:Addr}{xs:List V} (e:H a=some (.tup xs)):TyOf K H (.ref a) (.type "tuple")
 | dK {a:Addr}{kvs:List (Key×V)} (e:H a=some (.dK kvs)):TyOf K H (.ref a) (.type "dict")
 | dT {a:Addr}{kvs:List (List Key×V)} (e:H a=some (.dT kvs)):TyOf K H (.ref a) (.type "dict")
 | ins {a C dx:Addr}{fs:List (Str×V)} (e:H a=some (.ins C dx fs)) (cl:Cls K C) (ha:PySem.W.findIn K (.ref C) "__class__"=some (some (.builtin "object.__class__")))
   (hn:PySem.W.specialIn K (.builtin "object.__class__") "__get__"=some (some (.builtin "getset_descriptor.__get__"))) (htk:PySem.W.takesIn K (.builtin "object.__class__")=some true)
   (hm:PySem.W.mroIn K C (.type "object")=some true):TyOf K H (.ref a) (.ref C)
theorem isinst_ok {x:V}{u t:Value} (I:Inv X pins σ H s) (rx:RelV x u) (ty:TyOf X.K H x t) (e:PySem.W.kitOne X.K t c=some b) (h:∀ tk,Q (.bool b) { s with toks:=tk }) :
  wpAny (model X.prog X.w) A (call (.builtin "isinstance") [u,c]) Q E s:=by
 cases ty with
 | non=>cases (show u=Value.none from rx);exact PySem.W.kia_one PySem.W.kitx_none I.kIn True.intro e (fun z=>nomatch z) h
 | bl y=>cases (show u=Value.bool y from rx);exact PySem.W.kia_one PySem.W.kitx_bool I.kIn True.intro e (fun z=>nomatch z) h
 | int i=>obtain ⟨t,q⟩:=(show ∃ t,u=Value.int i t from rx);cases q;exact PySem.W.kia_one PySem.W.kitx_int I.kIn True.intro e (fun z=>nomatch z) h
 | str y=>obtain ⟨t,q⟩:=(show ∃ t,u=Value.str y t from rx);cases q;exact PySem.W.kia_one PySem.W.kitx_str I.kIn True.intro e (fun z=>nomatch z) h
 | flt y=>obtain ⟨t,q⟩:=(show ∃ t,u=Value.float y t from rx);cases q;exact PySem.W.kia_one PySem.W.kitx_float I.kIn True.intro e (fun z=>nomatch z) h
 | @lst a xs ea=>
  cases (show u=Value.ref a from rx)
  obtain ⟨_,_,n,_,h1⟩:=(show ObjOk X.prog X.w H s.heap a (.lst xs) from I.hok a _ ea)
  exact PySem.W.kia_one PySem.W.kitx_list I.kIn ⟨_,h1,rfl⟩ e (fun z=>nomatch z) h
 | @frz a ob xs ea=>
  cases (show u=Value.ref a from rx)
  obtain ⟨_,_,_,n,_,h1⟩:=(show ObjOk X.prog X.w H s.heap a (.frz ob (.lst xs)) from I.hok a _ ea)
  exact PySem.W.kia_one PySem.W.kitx_list I.kIn ⟨_,h1,rfl⟩ e (fun z=>nomatch z) h
 | @tup a xs ea=>
  cases (show u=Value.ref a from rx)
  obtain ⟨_,_,_,p⟩:=(show ObjOk X.prog X.w H s.heap a (.tup xs) from I.hok a _ ea)
  obtain ⟨o,h1,h2,_⟩:=p
  exact PySem.W.kia_one PySem.W.kitx_tuple I.kIn ⟨o,h1,h2⟩ e (fun z=>nomatch z) h
 | @dK a kvs ea=>
  cases (show u=Value.ref a from rx)
  obtain ⟨_,_,vs,_,p⟩:=(show ObjOk X.prog X.w H s.heap a (.dK kvs) from I.hok a _ ea)
  obtain ⟨o,es,ep,h1,h2,_⟩:=p
  exact PySem.W.kia_one PySem.W.kitx_dict I.kIn ⟨o,h1,h2.1⟩ e (fun z=>nomatch z) h
 | @dT a kvs ea=>
  cases (show u=Value.ref a from rx)
  obtain ⟨_,_,xs,_,o,es,ep,h1,h2,_⟩:=(show ObjOk X.prog X.w H s.heap a (.dT kvs) from I.hok a _ ea)
  exact PySem.W.kia_one PySem.W.kitx_dict I.kIn ⟨o,h1,h2.1⟩ e (fun z=>nomatch z) h
 | @ins a C dx fs ea cl ha hn htk hm=>
  cases (show u=Value.ref a from rx)
  obtain ⟨mA,O,_⟩:=ins_get I.hok ea
  obtain ⟨od,J,_⟩:=O.look
  exact PySem.W.kia_one (PySem.W.kitx_own (cl.get _) cl.hd ha hn htk hm) I.kIn J e (fun z=>nomatch z) h
end
structure Room (k:Nat) (A:Around) (cm:Bool:=true):Prop where
 hd:cm=true→A.handled=none
 dp:A.depth + 3 * k + 5 < recursionLimit
 un:A.units + 16 * k + 200 < cLine
 gd:A.guards=some []
theorem Room.mono {j k:Nat}{A:Around}{cm:Bool} (r:Room k A cm) (h:j≤k):Room j A cm:=⟨r.hd,by have:=r.dp;omega,by have:=r.un;omega,r.gd⟩
theorem Room.deeper {k:Nat}{A:Around}{cm:Bool} (r:Room (k + 1) A cm) (env:Env):Room k (A.deeper env) cm:=
 ⟨r.hd,by have:=r.dp;show A.depth + 1 + 3 * k + 5 < _;omega,by have:=r.un;show A.units + 3 + 16 * k + 200 < _;omega,r.gd⟩
theorem Room.depth {k:Nat}{A:Around}{cm:Bool} (r:Room k A cm):A.depth < recursionLimit:=by have:=r.dp;omega
theorem Room.units {k:Nat}{A:Around}{cm:Bool} (r:Room k A cm):A.units + 64 < cLine:=by have:=r.un;omega
def tNil:TA:=fun _ H Q=>Q [] H
def tCons (ta:TE) (tr:TA):TA:=fun σ H Q=>ta σ H fun x H1=>tr σ H1 fun xs H2=>Q (x::xs) H2
section
variable {X:Cx}{e:Expr}{es:List Expr}{te:TE}{t:TA}{pos:Pos}
theorem pa_nil:PA X [] tNil:=fun _ _ _ _ H Q I h=>Calls.spliced_nil ⟨[],H,I,.nil,h⟩
theorem pa_cons (ha:PE X e te) (hr:PA X es t) (hs:starEach (e::es) X.env=(false,eval e X.env)::starEach es X.env:=by rfl):PA X (e::es) (tCons te t):=by
 intro pos pins s σ H Q I h
 rw [hs]
 show wpAny _ _ (spliced ((false,eval e X.env)::backTo pos (starEach es X.env))) _ _ s
 refine Calls.spliced_cons (thn (ha pins s σ H _ I h) fun u s1 ⟨x,H1,I1,r1,q1⟩=>?_)
 exact thn (hr pos pins s1 σ H1 _ I1 q1) fun us s2 ⟨xs,H2,I2,r2,q2⟩=>⟨x::xs,H2,I2,.cons r1 r2,q2⟩
def tTup (t:TA):TE:=fun σ H Q=>t σ H fun xs H1=>xs.length≤sizeLine∧∀ p,H1 p=none→Q (.ref p) (upd H1 p (.tup xs))
def tLst (t:TA):TE:=fun σ H Q=>t σ H fun xs H1=>xs.length≤sizeLine∧∀ p,H1 p=none→Q (.ref p) (upd H1 p (.lst xs))
theorem pe_tup {x1} (h:PA X es t):PE X (.Tuple es x1 pos) (tTup t):=by
 intro pins s σ H Q I hq
 refine wpAny_Tuple_spliced (thn (h pos pins s σ H _ I hq) fun us s1 ⟨xs,H1,I1,r,z,q⟩=>⟨by rw [← r.length];exact z,?_⟩)
 have hf:H1 s1.heap.objs.size=none:=I1.hok.fresh (Nat.le_refl _)
 refine ⟨.ref s1.heap.objs.size,upd H1 s1.heap.objs.size (.tup xs),I1.laid (t':=s1.toks) (fun b u e=>Heap.get?_push_of_some _ e) (Nat.le_refl _) ?_,rfl,q _ hf⟩
 exact ⟨z,us,r,⟨_,Heap.get?_push_size _ rfl,rfl,rfl,_,rfl⟩⟩
theorem pe_lst (h:PA X es t):PE X (.List es pos) (tLst t):=by
 intro pins s σ H Q I hq
 refine wpAny_List_spliced (thn (h pos pins s σ H _ I hq) fun us s1 ⟨xs,H1,I1,r,z,q⟩=>⟨by rw [← r.length];exact z,?_⟩)
 have hf:H1 s1.heap.objs.size=none:=I1.hok.fresh (Nat.le_refl _)
 refine ⟨.ref s1.heap.objs.size,upd H1 s1.heap.objs.size (.lst xs),I1.laid (t':=s1.toks) (fun b u e=>Heap.get?_push_of_some _ e) (Nat.le_refl _) ?_,rfl,q _ hf⟩
 exact ⟨z,us,0,r,Heap.get?_push_size _ rfl⟩
end
abbrev Sp:=List V→Hp→VK→XK→Prop
abbrev CXT:=List Env→Hp→Shared→XK→Value→Shared→Prop
structure Env0 (P:Program) (w:World) (K:PySem.W.Frag) (mg:Str→Option Value) (base:Heap) (A:Around) (outer:List Env) (s:Shared) (H:Hp):Prop where
 frames:A.frames=some outer
 mod:Mod K mg base
 bs:∀ b o,base.get? b=some o→s.heap.get? b=some o∧H b=none
 bsz:base.objs.size≤s.heap.objs.size
 funs:s.heap.FunFrames base outer
 frf:∀ b∈frs outer,H b=none
 hok:HOk P w H s.heap
 bare:AllBare s.gens
 hq:HdOk A H
def CE (outer:List Env) (P:Program) (w:World) (H:Hp) (s:Shared) (Q:VK) (u:Value) (s':Shared):Prop:=
 ∃ v H',s'.os=s.os∧AllBare s'.gens∧Un (frs outer) [] H H' s.heap s'.heap∧HOk P w H' s'.heap∧RelV v u∧Q v H'
def CR (CX:CXT) (outer:List Env) (P:Program) (w:World) (H:Hp) (s:Shared) (Q:VK) (E:XK) (r:Result) (s':Shared):Prop:=
 match r with
 | .ok (.ret u)=>CE outer P w H s Q u s'
 | .ok _=>False
 | .error e=>CX outer H s E e s'
structure FnOk (P:Program) (w:World) (K:PySem.W.Frag) (mg:Str→Option Value) (base:Heap) (CX:CXT) (k:Nat) (f:Addr) (fd:FuncData) (ps:List Str) (sp:Sp) (cm:Bool:=true):Prop where
 len:∀ vs H Q E,sp vs H Q E→vs.length=ps.length
 run:∀ (A:Around) (outer:List Env) (s:Shared) (H:Hp) (args:Args) (us:List Value) (vs:List V) (Q:VK) (E:XK),Room k A cm→Env0 P w K mg base A outer s H→BindsTo s fd args (ps.zip us)→Vals vs us→sp vs H Q E →
  codeAny (model P w) A (.call (.ref f) args) (CR CX outer P w H s Q E) s
section
variable {X:Cx}{pins:List (Addr×Obj)}{σ:St}{H:Hp}{s s':Shared}
theorem Inv.env0 (I:Inv X pins σ H s):Env0 X.prog X.w X.K X.mg X.base X.A X.stack s H:=
 ⟨I.ok.frames,I.ok.mod,I.bs,Nat.le_trans I.ok.bsz I.sz,I.stack,I.stkFree,I.hok,I.bare,I.hq⟩
theorem Inv.after {Q:VK}{u:Value} (I:Inv X pins σ H s) (h:CE X.stack X.prog X.w H s Q u s'):EP X pins σ Q u s':=by
 obtain ⟨v,H',os,bare,un,hok,r,q⟩:=h
 obtain ⟨hh,g,d,t,os'⟩:=s'
 obtain rfl:os'=s.os:=os
 exact ⟨v,H',I.call (h':=hh) (g':=g) (d':=d) (t':=t) (ch:=[]) un hok bare (fun b z=>absurd z (by simp)),r,q⟩
end
def tCall (sp:Sp) (dvs:List V) (E:XK) (t:TA):TE:=fun σ H Q=>t σ H fun vs H1=>sp (vs++dvs) H1 Q E
def Binds (K:PySem.W.Frag) (fd:FuncData) (ps:List Str) (ds:List Value):Prop:=
 ∀ (s:Shared) (us:List Value),K.In s.heap→(us++ds).length=ps.length→BindsTo s fd ⟨us,[]⟩ (ps.zip (us++ds))
theorem Binds.all {K:PySem.W.Frag}{fd:FuncData}{ps:List Str} (h:∀ us:List Value,us.length=ps.length→bindArgs fd ⟨us,[]⟩=pure (ps.zip us)):Binds K fd ps []:=fun s us _ hl=>by
 rw [List.append_nil] at hl ⊢
 exact .of_eq (h us hl)
def Passes (CX:CXT) (X:Cx) (E:XK):Prop:=∀ (pins:List (Addr×Obj)) (σ:St) (H:Hp) (s:Shared) (e:Value) (s':Shared),Inv X pins σ H s→CX X.stack H s E e s'→X.xe e s'
section
variable {X:Cx}{CX:CXT}{k:Nat}{f C:Addr}{fd:FuncData}{ps:List Str}{sp:Sp}{dvs:List V}{ds:List Value}{E:XK}{x m:Str}{p pos apos:Pos}{e o:Expr}{es:List Expr}{ta:TE}{t:TA}
variable {cm:Bool}
theorem run_fn {pins:List (Addr×Obj)}{σ:St}{H:Hp}{s:Shared}{Q:VK}{us:List Value}{vs:List V} (F:FnOk X.prog X.w X.K X.mg X.base CX k f fd ps sp cm) (hr:Room k X.A cm) (hb:Binds X.K fd ps ds) (hd:Vals dvs ds) (hx:Passes CX X E)
  (I:Inv X pins σ H s) (r:Vals vs us) (h:sp (vs++dvs) H Q E):wpAny (model X.prog X.w) X.A (call (.ref f) us) (EP X pins σ Q) X.xe s:=by
 have r2:Vals (vs++dvs) (us++ds):=r.append hd
 have hl:(us++ds).length=ps.length:=by rw [← r2.length];exact F.len _ _ _ _ h
 refine wpAny_call (codeAny_mono (F.run X.A X.stack s H ⟨us,[]⟩ (us++ds) (vs++dvs) Q E hr I.env0 (hb s us I.kIn hl) r2 h) fun r s' hq=>?_)
 cases r with
 | error e=>exact hx pins σ H s e s' I hq
 | ok fl=>
  cases fl with
  | ret u=>exact I.after hq
  | next=>exact False.elim hq
  | brk=>exact False.elim hq
  | cont=>exact False.elim hq
theorem pe_call (F:FnOk X.prog X.w X.K X.mg X.base CX k f fd ps sp cm) (hr:Room k X.A cm) (hg:Gl X x) (hm:X.mg x=some (.ref f)) (hk:PySem.W.keepIn X.K (.ref f)=true) (hb:Binds X.K fd ps ds) (hd:Vals dvs ds) (hx:Passes CX X E)
  (ha:PA X (e::es) t) (hdb:(x == ("__debug__":Str))=false:=by decide) (he:starEach (e::es) X.env=(false,eval e X.env)::starEach es X.env:=by rfl) (hpl:(backTo pos (starEach es X.env)).any (·.1)=false:=by rfl) :
  PE X (.Call (.Name x p) (e::es) [] pos) (tCall sp dvs E t):=by
 intro pins s σ H Q I h
 refine wpAny_Call_Name_kw (ld_glob I hg hm ?_ hdb)
 refine PySem.W.callWith_K (h₀:=X.base) I.ok.mod.kin hk (thn (ha pos pins s σ H _ I h) fun us s1 ⟨vs,H1,I1,r,q⟩=>⟨I1.kIn,?_⟩) he hpl
 exact run_fn F hr hb hd hx I1 r q
end
structure FnScope (N P:List Str) (sc:Scope):Prop where
 kind:sc.kind=.function
 co:sc.isCoroutine=false
 gen:sc.isGenerator=false
 nd:N.Nodup
 pre:N.take P.length=P
 par:∀ x∈P,sc.names.lookup x=some .local∨sc.names.lookup x=some .cell
 nofree:∀ y∈sc.names,y.2≠.free
theorem bindL_out {kindOf:Str→Option NameKind}{x:Str}:∀ {binds:List (Str×Value)}{m:Str→Option Value},(∀ v,(x,v)∉binds)→bindL kindOf binds m x=m x
 | [],_,_=>rfl
 | (n,v)::r,m,h=>by
  unfold bindL
  rw [bindL_out fun w hw=>h w (List.mem_cons_of_mem _ hw)]
  split
  ·have:x≠n:=by rintro rfl;exact h v List.mem_cons_self
   simp [this]
  ·rfl
theorem bindC_out {kindOf:Str→Option NameKind}{x:Str}:∀ {binds:List (Str×Value)}{m:Str→Option Value},(∀ v,(x,v)∉binds)→bindC kindOf binds m x=m x
 | [],_,_=>rfl
 | (n,v)::r,m,h=>by
  unfold bindC
  rw [bindC_out fun w hw=>h w (List.mem_cons_of_mem _ hw)]
  split
  ·rfl
  ·have:x≠n:=by rintro rfl;exact h v List.mem_cons_self
   simp [this]
theorem bindL_get {kindOf:Str→Option NameKind}{x:Str}{v:Value}:∀ {P:List Str}{vs:List Value}{i:Nat}{m:Str→Option Value},P.Nodup→P[i]? = some x→vs[i]? = some v→kindOf x=some .local →
  bindL kindOf (P.zip vs) m x=some v
 | [],_,_,_,_,h,_,_=>by simp at h
 | _::_,[],_,_,_,_,h,_=>by simp at h
 | p::P,w::vs,0,m,nd,h1,h2,hk=>by
  simp at h1 h2;subst h1;subst h2
  show bindL kindOf ((p,w)::P.zip vs) m p=_
  unfold bindL
  rw [bindL_out fun v hv=>(List.nodup_cons.mp nd).1 (List.of_mem_zip hv).1,if_pos hk]
  simp
 | p::P,w::vs,i + 1,m,nd,h1,h2,hk=>by
  show bindL kindOf ((p,w)::P.zip vs) m x=_
  unfold bindL
  exact bindL_get (i:=i) (List.nodup_cons.mp nd).2 (by simpa using h1) (by simpa using h2) hk
theorem bindC_get {kindOf:Str→Option NameKind}{x:Str}{v:Value}:∀ {P:List Str}{vs:List Value}{i:Nat}{m:Str→Option Value},P.Nodup→P[i]? = some x→vs[i]? = some v→kindOf x≠some .local →
  bindC kindOf (P.zip vs) m x=some v
 | [],_,_,_,_,h,_,_=>by simp at h
 | _::_,[],_,_,_,_,h,_=>by simp at h
 | p::P,w::vs,0,m,nd,h1,h2,hk=>by
  simp at h1 h2;subst h1;subst h2
  show bindC kindOf ((p,w)::P.zip vs) m p=_
  unfold bindC
  rw [bindC_out fun v hv=>(List.nodup_cons.mp nd).1 (List.of_mem_zip hv).1,if_neg hk]
  simp
 | p::P,w::vs,i + 1,m,nd,h1,h2,hk=>by
  show bindC kindOf ((p,w)::P.zip vs) m x=_
  unfold bindC
  exact bindC_get (i:=i) (List.nodup_cons.mp nd).2 (by simpa using h1) (by simpa using h2) hk
def start (N:List Str) (vs:List V):St:=vs.map some++List.replicate (N.length - vs.length) none
def cxOf (CX:CXT) (P:Program) (w:World) (K:PySem.W.Frag) (mg:Str→Option Value) (base:Heap) (N:List Str) (qual:Str) (scope:Scope) (f:Addr) (cd:Value) (A:Around) (outer:List Env) (s:Shared) (H:Hp) (E:XK) (cm:Bool:=true):Cx where
 prog:=P
 w:=w
 K:=K
 mg:=mg
 base:=base
 A:=A.deeper (envOfC qual scope s.heap.objs.size f cd)
 N:=N
 s₀:=s
 H₀:=H
 env:=envOfC qual scope s.heap.objs.size f cd
 outer:=outer
 stack:=envOfC qual scope s.heap.objs.size f cd::outer
 ex:=[]
 calm:=cm
 fn:=fun _=>true
 pn:=[]
 xe:=fun e s'=>wpAny (model P w) (A.deeper (envOfC qual scope s.heap.objs.size f cd)) (leaving (envOfC qual scope s.heap.objs.size f cd) e) (fun _ s''=>CX outer H s E e s'') (fun e' s''=>CX outer H s E e' s'') s'
theorem cell_has {sc:Scope}{n:Nat}{x:Str} (h:sc.names.lookup x=some .cell):∃ c,(cellsFrom n sc.names []).lookup x=some c:=by
 have q:=PySem.W.cellsFrom_some sc.names n [] (.inl h)
 exact Option.isSome_iff_exists.mp q
theorem inv_start {CX:CXT}{P:Program}{w:World}{K:PySem.W.Frag}{mg:Str→Option Value}{base:Heap}{N ps:List Str}{qual:Str}{scope:Scope}{f:Addr}{cd:Value}{A:Around}{outer:List Env}{s s1:Shared}{H:Hp}{E:XK}{cm:Bool}{us:List Value}{vs:List V}
  (S:FnScope N ps scope) (hd:cm=true→A.handled=none) (e0:Env0 P w K mg base A outer s H) (hl:vs.length=ps.length) (r:Vals vs us)
  (x:InCallC s s.heap.objs.size (bindL (envOfC qual scope s.heap.objs.size f cd).kindOf (ps.zip us) fun _=>none) (cellsFrom (s.heap.objs.size + 1) scope.names []) (bindC (envOfC qual scope s.heap.objs.size f cd).kindOf (ps.zip us) fun _=>none) s1) :
  Inv (cxOf CX P w K mg base N qual scope f cd A outer s H E cm) [] (start N vs) H s1:=by
 have hpl:ps.length≤N.length:=by have:=congrArg List.length S.pre;rw [List.length_take] at this;omega
 obtain ⟨h1,tk,rfl,hk⟩:=x.done
 have noA:∀ b:Addr,b∉(cxOf CX P w K mg base N qual scope f cd A outer s H E cm).ex:=fun b z=>absurd (show b∈([]:List Addr) from z) (by simp)
 refine ⟨⟨e0.mod,S.kind,rfl,rfl,Nat.le_refl _,fun y z c h1 h2=>?_,fun y hy=>?_,fun y c _ h=>?_,hd,Around.frames_deeper e0.frames,.inr ⟨rfl,rfl⟩,fun b z=>absurd z (noA b),e0.bs,e0.bsz,fun b _ _=>noA b,fun b z=>absurd z (noA b),e0.funs,e0.frf⟩,
  rfl,e0.bare,Un.kept hk,⟨_,x.toInCall.ns,fun i y v h1 h2 h3=>?_⟩,fun y c h=>⟨_,x.cell y c h⟩,e0.hok.fresh (Nat.le_refl _),fun y c h=>?_,fun p hp=>absurd (show p∈([]:List (Addr×Obj)) from hp) (by simp),e0.hok.kept hk,?_,e0.hq⟩
 ·exact name_of_addr x.apart (PySem.mem_of_lookup h1) (PySem.mem_of_lookup h2)
 ·have hy:scope.names.lookup y=some .cell∨scope.names.lookup y=some .free:=hy
  rcases hy with hy | hy
  ·exact cell_has hy
  ·exact absurd rfl (S.nofree _ (PySem.mem_of_lookup hy))
 ·exact Nat.le_of_lt (x.above y c (PySem.mem_of_lookup h))
 ·have hi:i < vs.length:=by
   unfold start at h2
   by_cases hi:i < vs.length
   ·exact hi
   ·rw [List.getElem?_append_right (by simpa using hi)] at h2
    rw [List.getElem?_replicate] at h2
    split at h2 <;> cases h2
  have ha:vs[i]? = some v:=by
   unfold start at h2
   rw [List.getElem?_append_left (by simpa using hi),List.getElem?_map] at h2
   cases e:vs[i]? with
   | none=>rw [e] at h2;cases h2
   | some a=>rw [e] at h2;cases h2;rfl
  obtain ⟨u,hu,rv⟩:=r.get ha
  have hp:ps[i]? = some y:=by
   rw [← S.pre,List.getElem?_take_of_lt (by omega)];exact h1
  have ndP:ps.Nodup:=by rw [← S.pre];exact S.nd.sublist (List.take_sublist _ _)
  refine ⟨u,rv,?_⟩
  rcases S.par y (List.mem_of_getElem? hp) with k | k
  ·exact .inl ⟨k,bindL_get ndP hp hu k⟩
  ·obtain ⟨c,e⟩:=cell_has (n:=s.heap.objs.size + 1) k
   refine .inr ⟨.inl k,c,e,?_⟩
   have q:=x.cell y c e
   rw [bindC_get ndP hp hu (by show scope.names.lookup y≠_;rw [k];decide)] at q
   exact q
 ·exact e0.hok.fresh (Nat.le_of_lt (x.above y c (PySem.mem_of_lookup h)))
 ·unfold start
  show _=N.length
  rw [List.length_append,List.length_map,List.length_replicate]
  omega
theorem fn_of {CX:CXT}{P:Program}{w:World}{K:PySem.W.Frag}{mg:Str→Option Value}{base:Heap}{k:Nat}{f:Addr}{name qual:Str}{params:Arguments}{body:List Stmt}{scope:Scope}{dV kV doc pm cdv ct oc:Value}{an od:Option Addr}
  {osl:Array (Option Value)}{N ps:List Str}{sp:Sp}{cm:Bool} (lk:K.lookup f=some ⟨oc,od,.func (PySem.W.fnOf name qual params body scope dV kV doc pm an cdv ct),osl⟩) (hcd:PySem.W.codeIn K cdv qual=true) (S:FnScope N ps scope)
  (len:∀ vs H Q E,sp vs H Q E→vs.length=ps.length)
  (hbody:∀ (A:Around) (outer:List Env) (s:Shared) (H:Hp) (vs:List V) (Q:VK) (E:XK),Room k (A.deeper (envOfC qual scope s.heap.objs.size f cdv)) cm→sp vs H Q E →
   ∃ t,PSs (cxOf CX P w K mg base N qual scope f cdv A outer s H E cm) body t∧t { nx:=fun _ H'=>Q .non H',rt:=Q } (start N vs) H) :
  FnOk P w K mg base CX (k + 1) f (PySem.W.fnOf name qual params body scope dV kV doc pm an cdv ct) ps sp cm:=by
 refine ⟨len,fun A outer s H args us vs Q E hr e0 hb r hsp=>?_⟩
 have hl:=len _ _ _ _ hsp
 have KX:K.In s.heap:=e0.mod.kin.keeps fun b o e=>(e0.bs b o e).1
 have lim:s.heap.NoLimit:=e0.mod.nolimit.keeps fun b o e=>(e0.bs b o e).1
 have hkind:∀ y∈ps.zip us,scope.names.lookup y.1=some .local∨(scope.names.lookup y.1=some .cell∧((cellsFrom (s.heap.objs.size + 1) scope.names []).lookup y.1).isSome=true):=fun ⟨n,v⟩ hy=>by
  rcases S.par n (List.of_mem_zip hy).1 with q | q
  ·exact .inl q
  ·exact .inr ⟨q,PySem.W.cellsFrom_some _ _ _ (.inl q)⟩
 refine codeAny_call_function hr.depth (KX _ _ lk) rfl S.co S.gen rfl (PySem.W.codeRec_of KX hcd) (hb _ _ _ _ ?_)
 refine wpAny_newFunctionEnv_cells S.kind hkind fun env he s1 x=>?_
 subst he
 refine ⟨lim.keeps x.toInCall.keep,codeAny_func ?_⟩
 obtain ⟨t,ht,hq⟩:=hbody A outer s H vs Q E (hr.deeper _) hsp
 have I:Inv (cxOf CX P w K mg base N qual scope f cdv A outer s H E cm) [] (start N vs) H s1:=inv_start S hr.hd e0 hl r x
 refine wpAny_mono (ht [] s1 (start N vs) H _ I hq) (fun fl s' hs=>?_) fun e s' hs=>hs
 have fin:∀ {σ':St}{H':Hp}{v:V}{u:Value},Inv (cxOf CX P w K mg base N qual scope f cdv A outer s H E cm) [] σ' H' s'→RelV v u→Q v H'→CE outer P w H s Q u s':=
  fun {σ' H' v u} J rv q=>⟨v,H',J.os,J.bare,J.base,J.hok,rv,q⟩
 cases fl with
 | ret u=>
  obtain ⟨v,σ',H',J,rv,q⟩:=hs
  exact fin J rv q
 | next=>
  obtain ⟨σ',H',J,q⟩:=hs
  exact fin (v:=V.non) (u:=Value.none) J rfl q
 | brk=>
  obtain ⟨_,_,_,q⟩:=hs
  exact False.elim q
 | cont=>
  obtain ⟨_,_,_,q⟩:=hs
  exact False.elim q
section
variable {X:Cx}{x:Str}{p pos:Pos}{e:Expr}{es:List Expr}{t:TA}{id T:String}{r:List V→Hp→VK→Prop}
def tCB (r:List V→Hp→VK→Prop) (t:TA):TE:=fun σ H Q=>t σ H fun vs H1=>r vs H1 Q
theorem pe_callB (hc:CallR X (.builtin id) r) (hg:Gl X x) (hm:X.mg x=none) (hv:bootBuiltins x=some (.builtin id)) (ha:PA X (e::es) t) (hn:x≠"__name__":=by decide) (hdb:(x == ("__debug__":Str))=false:=by decide)
  (he:starEach (e::es) X.env=(false,eval e X.env)::starEach es X.env:=by rfl) (hpl:(backTo pos (starEach es X.env)).any (·.1)=false:=by rfl):PE X (.Call (.Name x p) (e::es) [] pos) (tCB r t):=by
 intro pins s σ H Q I h
 refine wpAny_Call_Name_kw (ld_blt I hg hm hv ?_ hn hdb)
 exact PyProof.Rows.callWith_builtin1 (thn (ha pos pins s σ H _ I h) fun us s1 ⟨vs,H1,I1,r1,q1⟩=>hc pins s1 σ H1 vs us Q I1 r1 q1) he hpl
theorem pe_callTy (hc:CallR X (.type T) r) (hg:Gl X x) (hm:X.mg x=none) (hv:bootBuiltins x=some (.type T)) (ha:PA X (e::es) t) (hn:x≠"__name__":=by decide) (hdb:(x == ("__debug__":Str))=false:=by decide)
  (he:starEach (e::es) X.env=(false,eval e X.env)::starEach es X.env:=by rfl) (hpl:(backTo pos (starEach es X.env)).any (·.1)=false:=by rfl):PE X (.Call (.Name x p) (e::es) [] pos) (tCB r t):=by
 intro pins s σ H Q I h
 refine wpAny_Call_Name_kw (ld_blt I hg hm hv ?_ hn hdb)
 exact PyProof.Rows.callWith_type1 (thn (ha pos pins s σ H _ I h) fun us s1 ⟨vs,H1,I1,r1,q1⟩=>hc pins s1 σ H1 vs us Q I1 r1 q1) he hpl
end
end L2
namespace HT
open PySem PyProof.Rows
section
variable {prog:Program}{w:World}{A:Around}{E:Value→Shared→Prop}{s:Shared}
def sIx (n d:Nat):Option Int→Nat
 | none=>d
 | some v=>if v < 0 then (v + (n:Int)).toNat else min v.toNat n
theorem sIx_none (n d:Nat):sIx n d none=d:=rfl
theorem sIx_nat (n d k:Nat):sIx n d (some (k:Int))=min k n:=by
 show (if (k:Int) < 0 then ((k:Int) + (n:Int)).toNat else min (k:Int).toNat n)=min k n
 rw [if_neg (by omega),Int.toNat_natCast]
theorem sIx_le (n d:Nat) (hd:d≤n) (o:Option Int):sIx n d o≤n:=by
 cases o with
 | none=>exact hd
 | some v=>
  show (if v < 0 then (v + (n:Int)).toNat else min v.toNat n)≤n
  by_cases hv:v < 0
  ·rw [if_pos hv];omega
  ·rw [if_neg hv];exact Nat.min_le_right _ _
theorem clip_eq (v:Int) (n d:Nat):(if v < 0 then max (v + (n:Int)) 0 else min v (n:Int))=((sIx n d (some v):Nat):Int):=by
 show (if v < 0 then max (v + (n:Int)) 0 else min v (n:Int))=(((if v < 0 then (v + (n:Int)).toNat else min v.toNat n):Nat):Int)
 by_cases hv:v < 0
 ·simp only [if_pos hv];omega
 ·simp only [if_neg hv];omega
theorem adjust_gen (lo hi:Option Int) (n:Nat):Builtin.Slice.sliceAdjust lo hi 1 (n:Int)=(((sIx n 0 lo:Nat):Int),((sIx n n hi:Nat):Int)):=by
 have h1:¬ ((1:Int) < 0):=by omega
 unfold Builtin.Slice.sliceAdjust
 simp only [h1,if_false]
 refine Prod.ext ?_ ?_
 ·cases lo with
  | none=>rfl
  | some v=>exact clip_eq v n 0
 ·cases hi with
  | none=>rfl
  | some v=>exact clip_eq v n n
theorem places_gen (i j:Nat):Builtin.Slice.slicePlaces (i:Int) (j:Int) 1=j - i:=by
 unfold Builtin.Slice.slicePlaces
 have h1:(1:Int) > 0:=by omega
 simp only [h1,if_true,Int.ediv_one]
 split <;> omega
theorem slicePart_ {v:Value}{o:Option Int}{Q:Option Int→Shared→Prop} (p:IsPart v o) (h:Q o s):wpAny (model prog w) A (Builtin.Slice.slicePartIndex v) Q E s:=by
 cases p with
 | none=>exact slicePart_none h
 | int i t=>exact slicePart_int h
theorem sliceApplied_gen {sl:Addr}{vl vu:Value}{lo hi:Option Int}{n:Nat}{Q:Int×Int×Nat→Shared→Prop} (hs:s.heap.IsSliceOf sl vl vu .none) (pl:IsPart vl lo) (pu:IsPart vu hi)
  (h:Q (((sIx n 0 lo:Nat):Int),1,sIx n n hi - sIx n 0 lo) s):wpAny (model prog w) A (Builtin.Slice.sliceApplied (.ref sl) (pure (n:Int))) Q E s:=by
 obtain ⟨os,hos,hcs,hds⟩:=id hs
 unfold Builtin.Slice.sliceApplied Builtin.Slice.sliceFields
 refine wpAny_bind (wpAny_bind (wpAny_field hos hds (x:=vl) rfl (wpAny_bind (wpAny_field hos hds (x:=vu) rfl (wpAny_bind (wpAny_field hos hds (x:=.none) rfl (wpAny_pure ?_)))))))
 refine wpAny_bind (slicePart_none ?_)
 show wpAny _ _ (if ((1:Int) == 0)=true then _ else _) _ _ s
 rw [if_neg (by decide)]
 refine wpAny_bind (slicePart_ pl (wpAny_bind (slicePart_ pu (wpAny_bind (wpAny_pure ?_)))))
 show wpAny _ _ (match Builtin.Slice.sliceAdjust lo hi 1 (n:Int) with | (lo,hi)=>pure (lo,(1:Int),Builtin.Slice.slicePlaces lo hi 1)) _ _ s
 rw [adjust_gen lo hi n]
 show wpAny _ _ (pure (((sIx n 0 lo:Nat):Int),(1:Int),Builtin.Slice.slicePlaces ((sIx n 0 lo:Nat):Int) ((sIx n n hi:Nat):Int) 1)) _ _ s
 rw [places_gen]
 exact wpAny_pure h
theorem pick_gen (xs:Array Value) (i k:Nat):((List.range k).filterMap fun (m:Nat)=>xs[((i:Int) + (m:Int) * 1).toNat]?).toArray=((xs.toList.drop i).take k).toArray:=by
 have e:(fun (m:Nat)=>xs[((i:Int) + (m:Int) * 1).toNat]?)=fun m=>xs[i + m]? :=by
  funext m
  have:((i:Int) + (m:Int) * 1).toNat=i + m:=by omega
  rw [this]
 rw [e]
 have:=pick_run xs i k
 rw [List.filterMap_map] at this
 have e2:((fun x=>xs[x]?) ∘ fun x=>i + x)=fun m=>xs[i + m]? :=rfl
 rw [e2] at this
 rw [this]
theorem getItem_tuple_cut {t sl:Addr}{items:Array Value}{vl vu:Value}{lo hi:Option Int}{Q:Value→Shared→Prop} (ht:IsTup s.heap t items) (hs:s.heap.IsSliceOf sl vl vu .none) (pl:IsPart vl lo) (pu:IsPart vu hi)
  (hw:¬ (sIx items.size 0 lo=0∧sIx items.size items.size hi=items.size))
  (h:Q (.ref s.heap.objs.size) { s with heap:=s.heap.push { cls:=.type "tuple",data:=.seq ((items.toList.drop (sIx items.size 0 lo)).take (sIx items.size items.size hi - sIx items.size 0 lo)).toArray } })
  (hsz:items.size≤sizeLine):wpAny (model prog w) A (getItem (.ref t) (.ref sl)) Q E s:=by
 have htake:sizeOk (.seq ((items.toList.drop (sIx items.size 0 lo)).take (sIx items.size items.size hi - sIx items.size 0 lo)).toArray):=by
  show ((items.toList.drop (sIx items.size 0 lo)).take (sIx items.size items.size hi - sIx items.size 0 lo)).toArray.size≤sizeLine
  rw [List.size_toArray,List.length_take,List.length_drop,Array.length_toList]
  omega
 have hj:sIx items.size items.size hi≤items.size:=sIx_le _ _ (Nat.le_refl _) hi
 obtain ⟨os,hos,hcs,hds⟩:=id hs
 have hTs:s.TypeIs (.ref sl) "slice":=⟨os,hos,hcs⟩
 unfold getItem
 try with_reducible refine wpAny_holding ?_
 first | refine wpAny_bind (wpAny_pure ?_) | skip
 refine wpAny_bind (wpAny_sequenceKey ht.typeIs (by decide) ?_)
 refine wpAny_bind (wpAny_callSpecial?_slot (name:=Str.ofString "__getitem__") ht.typeIs PyProof.Rows.slot_tuple_getitem
  (wpAny_call_entry PyProof.Rows.slot_tuple_getitem ht.typeIs entry_tuple_getitem ?_ (args_tuple_getitem _ _)))
 show wpAny _ _ (Builtin.Tuple.tupleItemsOf (.ref t) >>= _) _ _ s
 refine wpAny_bind (tupleItemsOf_ ht ?_)
 refine wpAny_bind (wpAny_typeOf hTs ?_)
 rw [if_pos (by decide)]
 refine wpAny_bind (sliceApplied_gen hs pl pu ?_)
 have hno:¬ ((((sIx items.size 0 lo:Nat):Int) == 0&&(1:Int) == 1&&(sIx items.size items.size hi - sIx items.size 0 lo) == items.size)=true):=by
  intro q
  rw [Bool.and_eq_true,Bool.and_eq_true] at q
  have q1:((sIx items.size 0 lo:Nat):Int)=0:=eq_of_beq q.1.1
  have q2:sIx items.size items.size hi - sIx items.size 0 lo=items.size:=eq_of_beq q.2
  exact hw ⟨by omega,by omega⟩
 show wpAny _ _ (if (((sIx items.size 0 lo:Nat):Int) == 0&&(1:Int) == 1&&(sIx items.size items.size hi - sIx items.size 0 lo) == items.size)=true then _ else _) _ _ s
 rw [if_neg hno,pick_gen]
 first
  | exact wpAny_bind (m:=Builtin.Tuple.tupleExact _) (wpAny_newObj_type (wpAny_pure ⟨_,rfl,wpAny_pure h⟩) htake)
  | exact wpAny_bind (m:=Builtin.Tuple.tupleExact _) (wpAny_newObj_type (wpAny_bind (wpAny_pure (wpAny_pure ⟨_,rfl,wpAny_pure h⟩))) htake)
  | exact wpAny_bind (wpAny_bind (m:=Builtin.Tuple.tupleExact _) (wpAny_newObj_type (wpAny_pure (wpAny_pure ⟨_,rfl,wpAny_pure h⟩)) htake))
  | exact wpAny_bind (wpAny_bind (m:=Builtin.Tuple.tupleExact _) (wpAny_newObj_type (wpAny_pure ⟨_,rfl,wpAny_pure h⟩) htake))
end
end HT
namespace L2
open PySem PySem.Spec PyProof.Rows
abbrev TO:=St→Hp→(Option Int→Hp→Prop)→Prop
def PO (X:Cx) (e:Option Expr) (t:TO):Prop:=
 ∀ (pins:List (Addr×Obj)) (s:Shared) (σ:St) (H:Hp) (Q:Option Int→Hp→Prop),Inv X pins σ H s→t σ H Q →
  wpAny (model X.prog X.w) X.A (evalPart e X.env) (fun u s'=>∃ o H',Inv X pins σ H' s'∧IsPart u o∧Q o H') X.xe s
def tNoPart:TO:=fun _ H Q=>Q none H
def tPart (t:TE):TO:=fun σ H Q=>t σ H fun x H1=>∃ i,x=.int i∧Q (some i) H1
section
variable {X:Cx}{e:Expr}{te:TE}{lo hi:Option Expr}{tl th:TO}{pos p2:Pos}
theorem po_none:PO X none tNoPart:=by
 intro pins s σ H Q I h
 rw [evalPart_none]
 exact wpAny_pure ⟨none,H,I,.none,h⟩
theorem po_some (h:PE X e te):PO X (some e) (tPart te):=by
 intro pins s σ H Q I hw
 rw [evalPart_some]
 refine thn (h pins s σ H _ I hw) fun u s1 ⟨x,H1,I1,r1,q1⟩=>?_
 obtain ⟨i,rfl,q⟩:=q1
 obtain ⟨t,rfl⟩:=r1
 exact ⟨some i,H1,I1,.int i t,q⟩
def SlR (X:Cx) (r:V→Option Int→Option Int→Hp→VK→Prop):Prop:=
 ∀ (pins:List (Addr×Obj)) (s:Shared) (σ:St) (H:Hp) (x:V) (v vl vu:Value) (lo hi:Option Int) (sl:Addr) (Q:VK),Inv X pins σ H s→RelV x v→s.heap.IsSliceOf sl vl vu .none→IsPart vl lo→IsPart vu hi→r x lo hi H Q →
  ∃ T id,typeLookup (.type T) "__getitem__"=pure (some (.builtin id))∧s.TypeIs v T∧wpAny (model X.prog X.w) X.A (getItem v (.ref sl)) (EP X pins σ Q) X.xe s
def tSl (r:V→Option Int→Option Int→Hp→VK→Prop) (te:TE) (tl th:TO):TE:=fun σ H Q=>te σ H fun x H1=>tl σ H1 fun l H2=>th σ H2 fun u H3=>r x l u H3 Q
theorem pe_slice {r:V→Option Int→Option Int→Hp→VK→Prop} (hr:SlR X r) (he:PE X e te) (hl:PO X lo tl) (hu:PO X hi th):PE X (.Subscript e (.Slice lo hi none p2) pos) (tSl r te tl th):=by
 intro pins s σ H Q I h
 refine Subscript_ (thn (he pins s σ H _ I h) fun v s1 ⟨x,H1,I1,r1,q1⟩=>?_)
 refine wpAny_Slice (thn (hl pins s1 σ H1 _ I1 q1) fun vl s2 ⟨l,H2,I2,pl,q2⟩=>thn (hu pins s2 σ H2 _ I2 q2) fun vu s3 ⟨u,H3,I3,pu,q3⟩=>?_)
 rw [evalPart_none]
 refine wpAny_pure ?_
 have I4:Inv X pins σ H3 { s3 with heap:=s3.heap.push { cls:=.type "slice",data:=.fields #[vl,vu,.none] } }:=I3.kept (t':=s3.toks) fun b ob q=>Heap.get?_push_of_some _ q
 obtain ⟨T,id,hT,ht,hg⟩:=hr pins { s3 with heap:=s3.heap.push { cls:=.type "slice",data:=.fields #[vl,vu,.none] } } σ H3 x v vl vu l u s3.heap.objs.size Q I4 r1 (Heap.IsSliceOf.new ..) pl pu q3
 show wpAny (model X.prog X.w) X.A (subscriptTail e (.Slice lo hi none p2) v (.ref s3.heap.objs.size)) (EP X pins σ Q) X.xe { s3 with heap:=s3.heap.push { cls:=.type "slice",data:=.fields #[vl,vu,.none] } }
 exact tail_any (ops:=[.ref s3.heap.objs.size,v]) ht hT hg (by with_unfolding_all rfl)
def cutV (xs:List V) (lo hi:Option Int):List V:=(xs.drop (HT.sIx xs.length 0 lo)).take (HT.sIx xs.length xs.length hi - HT.sIx xs.length 0 lo)
theorem cutV_length (xs:List V) (lo hi:Option Int):(cutV xs lo hi).length≤xs.length:=by
 unfold cutV
 rw [List.length_take,List.length_drop]
 omega
def rSlT (K:PySem.W.Frag):V→Option Int→Option Int→Hp→VK→Prop:=fun x lo hi H Q=>∃ a xs,x=.ref a∧SqT K H a xs ∧
 ¬ (HT.sIx xs.length 0 lo=0∧HT.sIx xs.length xs.length hi=xs.length)∧∀ p,H p=none→Q (.ref p) (upd H p (.tup (cutV xs lo hi)))
theorem sl_tup:SlR X (rSlT X.K):=by
 intro pins s σ H x v vl vu lo hi sl Q I rx hs pl pu h
 obtain ⟨a,xs,rfl,hx,hw,q⟩:=h
 cases rx
 obtain ⟨its,r,ht,hz⟩:=I.tuple hx
 have hlen:its.toArray.size=xs.length:=by rw [List.size_toArray];exact r.length.symm
 refine ⟨"tuple",_,PyProof.Rows.slot_tuple_getitem.lookup,ht.typeIs,?_⟩
 refine HT.getItem_tuple_cut ht hs pl pu (by rw [hlen];exact hw) ?_ (by rw [hlen];exact hz)
 rw [hlen]
 refine ⟨.ref s.heap.objs.size,_,I.laid (t':=s.toks) (o:=.tup (cutV xs lo hi)) (fun b ob q=>Heap.get?_push_of_some _ q) (Nat.le_refl _) ?_,rfl,q _ (I.hok.fresh (Nat.le_refl _))⟩
 exact ⟨Nat.le_trans (cutV_length xs lo hi) hz,_,(r.drop (HT.sIx xs.length 0 lo)).take (HT.sIx xs.length xs.length hi - HT.sIx xs.length 0 lo),PlainT.new _ _⟩
end
def ixN (n:Nat) (i:Int):Option Nat:=if 0≤i then (if i < n then some i.toNat else none) else if -(n:Int)≤i then some (i + n).toNat else none
def atI {α:Type} (xs:List α) (i:Int):Option α:=(ixN xs.length i).bind fun j=>xs[j]?
theorem ixN_seq {n:Nat}{i:Int}{j:Nat} (h:ixN n i=some j):seqIndex? i n=some j∧j < n∧-(n:Int)≤i∧i < n:=by
 unfold ixN at h
 by_cases h0:0≤i
 ·rw [if_pos h0] at h
  by_cases h1:i < n
  ·rw [if_pos h1] at h
   have e:i.toNat=j:=Option.some.inj h
   exact ⟨by rw [seqIndex_of h0 h1,e],by omega,by omega,h1⟩
  ·rw [if_neg h1] at h;cases h
 ·rw [if_neg h0] at h
  by_cases h1:-(n:Int)≤i
  ·rw [if_pos h1] at h
   have e:(i + n).toNat=j:=Option.some.inj h
   exact ⟨by rw [seqIndex_neg (by omega) h1,e],by omega,h1,by omega⟩
  ·rw [if_neg h1] at h;cases h
theorem atI_get {α:Type}{xs:List α}{i:Int}{v:α} (h:atI xs i=some v):∃ j,seqIndex? i xs.length=some j∧xs[j]? = some v∧j < xs.length∧-(xs.length:Int)≤i∧i < xs.length:=by
 unfold atI at h
 cases e:ixN xs.length i with
 | none=>rw [e] at h;cases h
 | some j=>
  rw [e] at h
  obtain ⟨h1,h2,h3,h4⟩:=ixN_seq e
  exact ⟨j,h1,h,h2,h3,h4⟩
def PlainIx (b:Expr):Prop:=∀ o i,subscripted b false o i=operate [o,i] (getItem o i)
def IxR (X:Cx) (r:R2):Prop:=
 ∀ (value slice:Expr) (pins:List (Addr×Obj)) (s:Shared) (σ:St) (H:Hp) (x y:V) (v u:Value) (Q:VK),Inv X pins σ H s→RelV x v→RelV y u→r x y H Q →
  subscripted slice false v u=operate [v,u] (getItem v u)→wpAny (model X.prog X.w) X.A (subscriptTail value slice v u) (EP X pins σ Q) X.xe s
def MtR (X:Cx) (id:String) (r:V→List V→Hp→VK→Prop):Prop:=
 ∀ (pins:List (Addr×Obj)) (s:Shared) (σ:St) (H:Hp) (x:V) (xs:List V) (v:Value) (us:List Value) (Q:VK),Inv X pins σ H s→RelV x v→Vals xs us→r x xs H Q →
  wpAny (model X.prog X.w) X.A (call (.builtin id) (v::us)) (EP X pins σ Q) X.xe s
section
variable {X:Cx}{a b:Expr}{ta tb:TE}{pos:Pos}
theorem IxR.or {r r':R2} (h:IxR X r) (h':IxR X r'):IxR X (fun x y H Q=>r x y H Q∨r' x y H Q):=by
 intro value slice pins s σ H x y v u Q I rx ry q hs
 rcases q with q | q
 ·exact h value slice pins s σ H x y v u Q I rx ry q hs
 ·exact h' value slice pins s σ H x y v u Q I rx ry q hs
theorem pe_ix {r:R2} (hr:IxR X r) (ha:PE X a ta) (hb:PE X b tb) (hs:PlainIx b):PE X (.Subscript a b pos) (tOp r ta tb):=by
 intro pins s σ H Q I h
 exact Subscript_ (binT ha hb I h fun v u s2 x y H2 I2 rx ry q=>hr a b pins s2 σ H2 x y v u Q I2 rx ry q (hs _ _))
def rIxL (K:PySem.W.Frag):R2:=fun x y H Q=>∃ p xs i v,x=.ref p∧y=.int i∧SqL K H p xs∧atI xs i=some v∧Q v H
def rIxT (K:PySem.W.Frag):R2:=fun x y H Q=>∃ p xs i v,x=.ref p∧y=.int i∧SqT K H p xs∧atI xs i=some v∧Q v H
def rIxS:R2:=fun x y H Q=>∃ z i c,x=.str z∧y=.int i∧z.length≤sizeLine∧atI z.cps.toList i=some c∧Q (.str ⟨#[c]⟩) H
theorem ix_list:IxR X (rIxL X.K):=by
 intro value slice pins s σ H x y v u Q I rx ry h hs
 obtain ⟨p,xs,i,z,rfl,rfl,hq,he,q⟩:=h
 cases rx
 obtain ⟨t,rfl⟩:=ry
 obtain ⟨its,r,pl,hz⟩:=I.list hq
 obtain ⟨j,h1,h2,h3,h4,h5⟩:=atI_get he
 obtain ⟨w,ew,rw'⟩:=r.get h2
 have hl:=r.length
 have hn:=line63
 have fin:EP X pins σ Q w s:=⟨z,H,I,rw',q⟩
 by_cases h0:0≤i
 ·have hj:i.toNat=j:=by
   rw [seqIndex_of h0 h5] at h1
   exact Option.some.inj h1
  exact item_listR pl.isList h0 (by omega) (by rw [hj];simpa using ew) fin hs
 ·have hj:(i + (its.toArray.size:Int)).toNat=j:=by
   rw [seqIndex_neg (by omega) h4] at h1
   rw [List.size_toArray,← hl]
   exact Option.some.inj h1
  exact subscriptTail_builtinR (x:=w) pl.isList.typeIs slot_list_getitem.lookup
   (wpAny_getItem_list_neg (Q:=fun r s'=>r=w∧EP X pins σ Q r s') pl.isList (by omega) (by rw [List.size_toArray] <;> omega) (by omega) (by rw [hj];simpa using ew) ⟨rfl,fin⟩) hs
theorem ix_tup:IxR X (rIxT X.K):=by
 intro value slice pins s σ H x y v u Q I rx ry h hs
 obtain ⟨p,xs,i,z,rfl,rfl,hq,he,q⟩:=h
 cases rx
 obtain ⟨t,rfl⟩:=ry
 obtain ⟨its,r,pl,hz⟩:=I.tuple hq
 obtain ⟨j,h1,h2,h3,h4,h5⟩:=atI_get he
 obtain ⟨w,ew,rw'⟩:=r.get h2
 have hl:=r.length
 have hn:=line63
 have fin:EP X pins σ Q w s:=⟨z,H,I,rw',q⟩
 exact subscriptTail_builtinR (x:=w) pl.typeIs slot_tuple_getitem.lookup
  (getItem_tuple (j:=j) (Q:=fun r s'=>r=w∧EP X pins σ Q r s') pl (by omega) (by omega) (by rw [List.size_toArray,← hl];exact h1) (by simpa using ew) ⟨rfl,fin⟩) hs
theorem ix_str:IxR X rIxS:=by
 intro value slice pins s σ H x y v u Q I rx ry h hs
 obtain ⟨z,i,c,rfl,rfl,hz,he,q⟩:=h
 obtain ⟨t,rfl⟩:=rx
 obtain ⟨t',rfl⟩:=ry
 obtain ⟨j,h1,h2,h3,h4,h5⟩:=atI_get he
 have hl:z.cps.toList.length=z.length:=by simp [Str.length]
 rw [hl] at h1 h4 h5
 have hn:=line63
 exact tail_any (typeIs_str s z t) slot_str_getitem.lookup (getItem_str (c:=c) (by
  have e1:decide (i < -(2 ^ 63:Int))=false:=decide_eq_false (by omega)
  have e2:decide (i ≥ 2 ^ 63)=false:=decide_eq_false (by omega)
  rw [e1,e2,Bool.or_false]) (by rw [h1];simpa using h2) ⟨.str ⟨#[c]⟩,H,I.tok _,⟨_,rfl⟩,q⟩) hs
def rIx (K:PySem.W.Frag):R2:=fun x y H Q=>rIxL K x y H Q∨rIxT K x y H Q∨rIxS x y H Q
theorem ix_seq:IxR X (rIx X.K):=ix_list.or (ix_tup.or ix_str)
theorem slice_bounds (lo hi:Option Int) (n:Nat):(sliceBounds lo hi none n).1=((HT.sIx n 0 lo:Nat):Int)∧(sliceBounds lo hi none n).2.1=((HT.sIx n n hi:Nat):Int)∧(sliceBounds lo hi none n).2.2=1:=by
 refine ⟨?_,?_,rfl⟩
 ·cases lo with
  | none=>simp [sliceBounds,HT.sIx]
  | some i=>
   simp only [sliceBounds,HT.sIx,Option.getD_none,show (1:Int) > 0 by decide,if_true]
   by_cases h:i < 0
   ·simp only [h,if_true] <;> omega
   ·simp only [h,if_false] <;> omega
 ·cases hi with
  | none=>simp [sliceBounds,HT.sIx]
  | some i=>
   simp only [sliceBounds,HT.sIx,Option.getD_none,show (1:Int) > 0 by decide,if_true]
   by_cases h:i < 0
   ·simp only [h,if_true] <;> omega
   ·simp only [h,if_false] <;> omega
theorem slicePick_cut (its:List Value) (lo hi:Option Int):slicePick its.toArray lo hi none=((its.drop (HT.sIx its.length 0 lo)).take (HT.sIx its.length its.length hi - HT.sIx its.length 0 lo)).toArray:=by
 obtain ⟨h1,h2,h3⟩:=slice_bounds lo hi its.toArray.size
 unfold slicePick
 rw [h1,h2,h3]
 simp only [sliceRange_one,pick_run,List.size_toArray] <;> rfl
def rSlL (K:PySem.W.Frag):V→Option Int→Option Int→Hp→VK→Prop:=fun x lo hi H Q=>∃ a xs,x=.ref a∧SqL K H a xs∧∀ p,H p=none→Q (.ref p) (upd H p (.lst (cutV xs lo hi)))
theorem sl_list:SlR X (rSlL X.K):=by
 intro pins s σ H x v vl vu lo hi sl Q I rx hs pl pu h
 obtain ⟨a,xs,rfl,hx,q⟩:=h
 cases rx
 obtain ⟨its,r,ht,hz⟩:=I.list hx
 have hlen:=r.length
 refine ⟨"list",_,slot_list_getitem.lookup,ht.isList.typeIs,?_⟩
 refine wpAny_getItem_list_slice ht.isList hs pl pu .none (by simp) ?_ (by rw [List.size_toArray] <;> omega)
 rw [slicePick_cut,← hlen]
 refine ⟨.ref s.heap.objs.size,_,I.laid (t':=s.toks) (o:=.lst (cutV xs lo hi)) (fun b ob q=>Heap.get?_push_of_some _ q) (Nat.le_refl _) ?_,rfl,q _ (I.hok.fresh (Nat.le_refl _))⟩
 exact ⟨Nat.le_trans (cutV_length xs lo hi) hz,_,0,(r.drop (HT.sIx xs.length 0 lo)).take (HT.sIx xs.length xs.length hi - HT.sIx xs.length 0 lo),Heap.get?_push_size _ rfl⟩
def flatV:V→Bool
 | .non=>true
 | .bl _=>true
 | .int _=>true
 | .str _=>true
 | _=>false
def eqV:V→V→Bool
 | .non,.non=>true
 | .bl a,.bl b=>a == b
 | .bl a,.int b=>(if a then 1 else 0) == b
 | .int a,.bl b=>a == (if b then 1 else 0)
 | .int a,.int b=>a == b
 | .str a,.str b=>a == b
 | _,_=>false
theorem eqAt_V {A:Around}{s:Shared}{y x:V}{u v:Value} (ry:RelV y u) (rx:RelV x v) (fy:flatV y=true) (fx:flatV x=true):SeqAt.EqAt A s u v (eqV y x):=by
 cases y with
 | non=>
  cases ry
  cases x with
  | non=>cases rx;exact SeqAt.EqAt.same _
  | bl b=>cases rx;exact SeqAt.EqAt.none_bool b
  | int b=>obtain ⟨t,rfl⟩:=rx;exact SeqAt.EqAt.none_int b t
  | str b=>obtain ⟨t,rfl⟩:=rx;exact SeqAt.EqAt.none_str b t
  | _=>exact absurd (show false=true from fx) Bool.false_ne_true
 | bl a=>
  cases ry
  cases x with
  | non=>cases rx;exact SeqAt.EqAt.bool_none a
  | bl b=>cases rx;exact SeqAt.EqAt.bool_bool a b
  | int b=>obtain ⟨t,rfl⟩:=rx;exact SeqAt.EqAt.bool_int a b t
  | str b=>obtain ⟨t,rfl⟩:=rx;exact SeqAt.EqAt.bool_str a b t
  | _=>exact absurd (show false=true from fx) Bool.false_ne_true
 | int a=>
  obtain ⟨t',rfl⟩:=ry
  cases x with
  | non=>cases rx;exact SeqAt.EqAt.int_none a t'
  | bl b=>cases rx;exact SeqAt.EqAt.int_bool a t' b
  | int b=>obtain ⟨t,rfl⟩:=rx;exact SeqAt.EqAt.int_int a t' b t
  | str b=>obtain ⟨t,rfl⟩:=rx;exact SeqAt.EqAt.int_str a t' b t
  | _=>exact absurd (show false=true from fx) Bool.false_ne_true
 | str a=>
  obtain ⟨t',rfl⟩:=ry
  cases x with
  | non=>cases rx;exact SeqAt.EqAt.str_none a t'
  | bl b=>cases rx;exact SeqAt.EqAt.str_bool a t' b
  | int b=>obtain ⟨t,rfl⟩:=rx;exact SeqAt.EqAt.str_int a t' b t
  | str b=>obtain ⟨t,rfl⟩:=rx;exact SeqAt.EqAt.str_str a t' b t
  | _=>exact absurd (show false=true from fx) Bool.false_ne_true
 | _=>exact absurd (show false=true from fy) Bool.false_ne_true
def eqU (x:V) (u:Value):Bool:=match u with
 | .none=>eqV .non x
 | .bool b=>eqV (.bl b) x
 | .int i _=>eqV (.int i) x
 | .str z _=>eqV (.str z) x
 | _=>false
theorem eqU_of {x y:V}{u:Value} (r:RelV y u) (f:flatV y=true):eqU x u=eqV y x:=by
 cases y with
 | non=>cases r;rfl
 | bl b=>cases r;rfl
 | int i=>obtain ⟨t,rfl⟩:=r;rfl
 | str z=>obtain ⟨t,rfl⟩:=r;rfl
 | _=>exact absurd (show false=true from f) Bool.false_ne_true
theorem any_eqU {x:V}:∀ {xs:List V}{us:List Value},Vals xs us→xs.all flatV=true→us.any (eqU x)=xs.any fun y=>eqV y x
 | _,_,.nil,_=>rfl
 | y::xs,u::us,.cons r t,f=>by
  rw [List.all_cons,Bool.and_eq_true] at f
  rw [List.any_cons,List.any_cons,eqU_of r f.1,any_eqU t f.2]
theorem mem_eqAt {A:Around}{s:Shared}{x:V}{v:Value} (rx:RelV x v) (fx:flatV x=true):∀ {xs:List V}{us:List Value},Vals xs us→xs.all flatV=true→∀ u∈us,SeqAt.EqAt A s u v (eqU x u)
 | _,_,.nil,_=>fun u hu=>by cases hu
 | y::xs,u::us,.cons r t,f=>fun u' hu=>by
  rw [List.all_cons,Bool.and_eq_true] at f
  rcases List.mem_cons.mp hu with rfl | hu
  ·rw [eqU_of r f.1];exact eqAt_V r rx f.1 fx
  ·exact mem_eqAt rx fx t f.2 u' hu
def inV (x:V) (xs:List V):Bool:=xs.any fun y=>eqV y x
def rIn (K:PySem.W.Frag) (neg:Bool):R2:=fun x y H Q=>∃ p xs,y=.ref p∧(SqL K H p xs∨SqT K H p xs)∧flatV x=true∧xs.all flatV=true∧Q (.bl (if neg then !inV x xs else inV x xs)) H
theorem op_in_seq:OpR X (compareOp .In) (rIn X.K false):=by
 intro pins s σ H x y v u Q I rx ry h
 obtain ⟨p,xs,rfl,hq,fx,fs,q⟩:=h
 cases ry
 rcases hq with hq | hq
 ·obtain ⟨its,r,pl,hz⟩:=I.list hq
  refine SeqAt.in_listAt (eqU x) pl.isList (fun w hw=>mem_eqAt rx fx r fs w (by simpa using hw)) ⟨.bl _,H,I,rfl,?_⟩
  rw [show its.toArray.any (eqU x)=its.any (eqU x) by simp,any_eqU r fs]
  exact q
 ·obtain ⟨its,r,pl,hz⟩:=I.tuple hq
  refine SeqAt.in_tupleAt (eqU x) pl (fun w hw=>mem_eqAt rx fx r fs w (by simpa using hw)) ⟨.bl _,H,I,rfl,?_⟩
  rw [show its.toArray.any (eqU x)=its.any (eqU x) by simp,any_eqU r fs]
  exact q
theorem op_notIn_seq:OpR X (compareOp .NotIn) (rIn X.K true):=by
 intro pins s σ H x y v u Q I rx ry h
 obtain ⟨p,xs,rfl,hq,fx,fs,q⟩:=h
 cases ry
 rcases hq with hq | hq
 ·obtain ⟨its,r,pl,hz⟩:=I.list hq
  refine SeqAt.notIn_listAt (eqU x) pl.isList (fun w hw=>mem_eqAt rx fx r fs w (by simpa using hw)) ⟨.bl _,H,I,rfl,?_⟩
  rw [show its.toArray.any (eqU x)=its.any (eqU x) by simp,any_eqU r fs]
  exact q
 ·obtain ⟨its,r,pl,hz⟩:=I.tuple hq
  refine SeqAt.notIn_tupleAt (eqU x) pl (fun w hw=>mem_eqAt rx fx r fs w (by simpa using hw)) ⟨.bl _,H,I,rfl,?_⟩
  rw [show its.toArray.any (eqU x)=its.any (eqU x) by simp,any_eqU r fs]
  exact q
theorem call_len_seq:CallR X (.builtin "len") (fun xs H Q=>∃ p ys,xs=[.ref p]∧(SqL X.K H p ys∨SqT X.K H p ys)∧Q (.int ys.length) H):=by
 intro pins s σ H xs us Q I r h
 obtain ⟨p,ys,rfl,hq,q⟩:=h
 obtain ⟨u,rfl,rx⟩:=vals1 r
 cases rx
 have hn:=line63
 rcases hq with hq | hq
 ·obtain ⟨its,r',pl,hz⟩:=I.list hq
  have hlen:=r'.length
  exact Calls.call_len_list pl.isList (by simp only [List.size_toArray] <;> omega) ⟨.int ys.length,H,I.tok _,⟨s.toks + 1,by rw [List.size_toArray,hlen]⟩,q⟩
 ·obtain ⟨its,r',pl,hz⟩:=I.tuple hq
  have hlen:=r'.length
  exact len_tuple pl (by simp only [List.size_toArray] <;> omega) ⟨.int ys.length,H,I.tok _,⟨s.toks + 1,by rw [List.size_toArray,hlen]⟩,q⟩
theorem call_len_str:CallR X (.builtin "len") (fun xs H Q=>∃ z,xs=[.str z]∧z.length≤sizeLine∧Q (.int z.length) H):=by
 intro pins s σ H xs us Q I r h
 obtain ⟨z,rfl,hz,q⟩:=h
 obtain ⟨u,rfl,t,rfl⟩:=vals1 r
 have hn:=line63
 exact len_str (by omega) ⟨.int z.length,H,I.tok _,⟨_,rfl⟩,q⟩
theorem call_tuple_of:CallR X (.type "tuple") (fun xs H Q=>∃ p ys,xs=[.ref p]∧((SqL X.K H p ys∧∀ l,H l=none→Q (.ref l) (upd H l (.tup ys)))∨(SqT X.K H p ys∧Q (.ref p) H))):=by
 intro pins s σ H xs us Q I r h
 obtain ⟨p,ys,rfl,h⟩:=h
 obtain ⟨u,rfl,rx⟩:=vals1 r
 cases rx
 rcases h with ⟨hq,q⟩ | ⟨hq,q⟩
 ·obtain ⟨its,r',pl,hz⟩:=I.list hq
  have hlen:=r'.length
  refine call_tuple_list pl.isList (fun h' kp=>?_) (by simp only [List.size_toArray] <;> omega)
  have I1:Inv X pins σ H { s with heap:=h' }:=I.kept (t':=s.toks) kp
  have I2:Inv X pins σ (upd H h'.objs.size (.tup ys)) { s with heap:=h'.push { cls:=.type "tuple",data:=.seq its.toArray } }:=
   I1.laid (t':=s.toks) (fun b o e=>Heap.get?_push_of_some _ e) (Nat.le_refl _) (show ObjOk X.prog X.w _ _ _ (.tup ys) from ⟨hz,its,r',PlainT.new _ _⟩)
  exact ⟨.ref h'.objs.size,_,I2,rfl,q _ (I1.hok.fresh (Nat.le_refl _))⟩
 ·obtain ⟨its,r',pl,hz⟩:=I.tuple hq
  exact call_tuple_same pl ⟨.ref p,H,I,rfl,q⟩
def tyV (K:PySem.W.Frag) (T:String) (x:V) (H:Hp):Prop:=match x with
 | .str _=>T="str"
 | .int _=>T="int"
 | .ref p=>(T="list"∧∃ xs,SqL K H p xs)∨(T="tuple"∧∃ o,K.lookup p=some o∧o.cls=.type "tuple"∧o.dict=none) ∨
   (T="dict"∧((∃ kvs,H p=some (.dK kvs))∨∃ kvs,H p=some (.dT kvs)))∨(T="set"∧∃ S n,H p=some (.set S n))
 | _=>False
theorem tyV_is {pins:List (Addr×Obj)}{σ:St}{H:Hp}{s:Shared}{T:String}{x:V}{v:Value} (I:Inv X pins σ H s) (r:RelV x v) (ty:tyV X.K T x H) :
  s.TypeIs v T∧∀ a,v=.ref a→∃ ob,s.heap.get? a=some ob∧ob.dict=none:=by
 cases x with
 | str z=>
  obtain ⟨t,rfl⟩:=r
  cases (show T="str" from ty)
  exact ⟨typeIs_str s z t,fun _ e=>nomatch e⟩
 | int i=>
  obtain ⟨t,rfl⟩:=r
  cases (show T="int" from ty)
  exact ⟨typeIs_int s i t,fun _ e=>nomatch e⟩
 | ref p=>
  cases r
  rcases ty with ⟨rfl,xs,hq⟩ | ⟨rfl,o,hk,hc,hd⟩ | ⟨rfl,hk⟩ | ⟨rfl,S,n,hk⟩
  ·obtain ⟨its,_,pl,_⟩:=I.list hq
   refine ⟨pl.isList.typeIs,fun a e=>?_⟩
   cases e
   obtain ⟨o,n,e,c,hd,_⟩:=pl
   exact ⟨o,e,hd⟩
  ·refine ⟨⟨o,I.kIn p o hk,hc⟩,fun a e=>?_⟩
   cases e
   exact ⟨o,I.kIn _ o hk,hd⟩
  ·have z:∃ o,s.heap.get? p=some o∧o.ExactDict:=by
    rcases hk with ⟨kvs,hk⟩ | ⟨kvs,hk⟩
    ·obtain ⟨_,_,_,_,o,_,_,e,ex,_⟩:=I.hok p _ hk
     exact ⟨o,e,ex⟩
    ·obtain ⟨_,_,_,_,o,_,_,e,ex,_⟩:=I.hok p _ hk
     exact ⟨o,e,ex⟩
   obtain ⟨o,e,ex⟩:=z
   refine ⟨⟨o,e,ex.1⟩,fun a e2=>?_⟩
   cases e2
   exact ⟨o,e,ex.2.1⟩
  ·obtain ⟨o,_,_,_,e,ex,_⟩:=I.hok p _ hk
   refine ⟨⟨o,e,ex.1⟩,fun a e2=>?_⟩
   cases e2
   exact ⟨o,e,ex.2.1⟩
 | _=>exact False.elim ty
def tBM (K:PySem.W.Frag) (T:String) (r:V→List V→Hp→VK→Prop) (to:TE) (t:TA):TE:=fun σ H Q=>to σ H fun x H1=>tyV K T x H1∧t σ H1 fun xs H2=>r x xs H2 Q
variable {o e:Expr}{es:List Expr}{to:TE}{t:TA}{name:Str}{apos cpos:Pos}{T id:String}{r:V→List V→Hp→VK→Prop}
theorem pe_bm (pa:PlainAttrs T) (slot:Slot T name id) (hty:typeOf (.builtin id)=pure (.type "method_descriptor")) (hm:MtR X id r) (ho:PE X o to) (ha:PA X (e::es) t)
  (hbase:attributeBase o name X.env (eval o X.env)=eval o X.env:=by rfl)
  (hfew:((backTo cpos (starEach (e::es) X.env)).all (fun x=>!x.1)&&(backToKw cpos (keywordEach [] X.env)).all (fun x=>x.1.isSome)
   && decide ((e::es).length + ([]:List Keyword).length + (if ([]:List Keyword).isEmpty then 0 else 1) < 30))=true:=by rfl)
  (hline:(apos.endLine == cpos.line)=true:=by rfl) (hs:starEach (e::es) X.env=(false,eval e X.env)::starEach es X.env:=by rfl) (hplain:(backTo cpos (starEach es X.env)).any (·.1)=false:=by rfl) :
  PE X (.Call (.Attribute o name apos) (e::es) [] cpos) (tBM X.K T r to t):=by
 intro pins s σ H Q I h
 refine wpAny_Call_method_late hbase hfew hline rfl (thn (ho pins s σ H _ I h) fun v s1 ⟨x,H1,I1,r1,ty,q1⟩=>?_)
 obtain ⟨h1,h2⟩:=tyV_is I1 r1 ty
 refine ⟨T,id,pa,slot,hty,h1,h2,?_⟩
 have hA:=ha cpos pins s1 σ H1 _ I1 q1
 rw [hs] at hA ⊢
 refine Calls.callWith_builtin (by show (false||(backTo cpos (starEach es X.env)).any (·.1))=false;rw [hplain] <;> rfl) (Calls.evalArgs_plain ?_)
 exact thn hA fun us s2 ⟨vs,H2,I2,r2,q2⟩=>hm pins s2 σ H2 x vs v us Q I2 r1 r2 q2
end
def MtM (X:Cx) (id:String) (r:V→List V→Hp→VK→Prop):Prop:=
 ∀ (pins:List (Addr×Obj)) (s:Shared) (σ:St) (H:Hp) (x:V) (xs:List V) (v:Value) (us:List Value) (Q:VK),Inv X pins σ H s→RelV x v→Vals xs us→r x xs H Q →
  wpAny (model X.prog X.w) X.A (call (.builtin id) (v::us)) (EP X pins σ Q) X.xe s
theorem Vals.one:∀ {x:V}{us:List Value},Vals [x] us→∃ u,us=[u]∧RelV x u
 | _,_,.cons r .nil=>⟨_,rfl,r⟩
section
variable {X:Cx}{pins:List (Addr×Obj)}{σ:St}{H:Hp}{s:Shared}{l b:Addr}{xs ys zs:List V}
theorem Inv.lset {its its':List Value}{n:Nat}{f:Array Value→Array Value}{t':Nat} (I:Inv X pins σ H s) (hH:H l=some (.lst xs))
  (e:s.heap.get? l=some { cls:=.type "list",data:=.seq its.toArray n }) (hf:f its.toArray=its'.toArray) (hv:Vals ys its') (hz:ys.length≤sizeLine) :
  Inv X pins σ (upd H l (.lst ys)) { s with heap:=s.heap.update l (Obj.mapSeq f),toks:=t' }:=by
 have q:=PySem.IsL.update e f
 rw [hf] at q
 refine I.write (x:=l) (e:=l) (by rw [hH];exact trivial) (.inl rfl) (fun b' u hb hu=>(Heap.get?_update_other s.heap (Obj.mapSeq f) (Ne.symm hb)).trans hu) ⟨_,q⟩ ?_
 exact ⟨hz,its',_,hv,q⟩
theorem Inv.lnew {its:List Value}{t':Nat} (I:Inv X pins σ H s) (hv:Vals ys its) (hz:ys.length≤sizeLine) :
  Inv X pins σ (upd H s.heap.objs.size (.lst ys)) { s with heap:=s.heap.push { cls:=.type "list",data:=.seq its.toArray },toks:=t' }:=
 I.laid (fun _ _ q=>Heap.get?_push_of_some _ q) (Nat.le_refl _) ⟨hz,its,0,hv,Heap.get?_push_size _ rfl⟩
theorem Inv.fresh (I:Inv X pins σ H s):H s.heap.objs.size=none:=I.hok.fresh (Nat.le_refl _)
theorem Inv.lstM (I:Inv X pins σ H s) (hH:H l=some (.lst xs)):xs.length≤sizeLine∧∃ (its:List Value) (n:Nat),Vals xs its∧xs.length=its.length∧s.heap.get? l=some { cls:=.type "list",data:=.seq its.toArray n }:=by
 obtain ⟨z,its,n,r,e⟩:=I.hok l _ hH
 exact ⟨z,its,n,r,r.length,e⟩
theorem notLongL {n:Nat} (h:n≤sizeLine):Builtin.List.listTooLong n=false:=by
 unfold Builtin.List.listTooLong
 exact decide_eq_false (by omega)
end
section
variable {X:Cx}
def rAppend:V→List V→Hp→VK→Prop:=fun x vs H Q=>∃ l xs y,x=.ref l∧vs=[y]∧H l=some (.lst xs)∧xs.length < sizeLine∧Q .non (upd H l (.lst (xs++[y])))
theorem mt_append:MtM X "list.append" rAppend:=by
 intro pins s σ H x vs v us Q I rx rv h
 obtain ⟨l,xs,y,rfl,rfl,hH,hz,q⟩:=h
 cases rx
 obtain ⟨u,rfl,ru⟩:=rv.one
 obtain ⟨z,its,n,r,hl,e⟩:=I.lstM hH
 refine call_meets F.slot_list_append ⟨_,e,rfl⟩ F.entry_list_append (F.args_list_append_2 _ _) (PySem.list_append l its.toArray n u (by rw [List.size_toArray];omega)) ⟨e,?_⟩
 refine ⟨.non,_,I.lset (its':=its++[u]) hH e (by simp) (r.append (.cons ru .nil)) ?_,rfl,q⟩
 rw [List.length_append,List.length_singleton]
 omega
def rExtend:V→List V→Hp→VK→Prop:=fun x vs H Q=>∃ l b xs zs,x=.ref l∧vs=[.ref b]∧H l=some (.lst xs)∧H b=some (.lst zs)∧xs.length + zs.length≤sizeLine∧Q .non (upd H l (.lst (xs++zs)))
theorem mt_extend:MtM X "list.extend" rExtend:=by
 intro pins s σ H x vs v us Q I rx rv h
 obtain ⟨l,b,xs,zs,rfl,rfl,hH,hB,hz,q⟩:=h
 cases rx
 obtain ⟨u,rfl,ru⟩:=rv.one
 cases ru
 obtain ⟨z,its,n,r,hl,e⟩:=I.lstM hH
 obtain ⟨z2,its2,n2,r2,hl2,e2⟩:=I.lstM hB
 have hsz:its.toArray.size + its2.toArray.size≤sizeLine:=by rw [List.size_toArray,List.size_toArray];omega
 have hlong:¬ (!its.toArray.isEmpty&&Builtin.List.listTooLong (its.toArray.size + its2.toArray.size))=true:=by
  rw [notLongL hsz,Bool.and_false]
  exact Bool.false_ne_true
 refine call_meets F.slot_list_extend ⟨_,e,rfl⟩ F.entry_list_extend (F.args_list_extend_2 _ _)
  (AutoSeq1.list_extend_list_list_0 l its.toArray n b its2.toArray n2 hlong (by rw [List.size_toArray];omega) (by omega)) ⟨e,e2,?_⟩
 refine ⟨.non,_,I.lset (its':=its++its2) hH e (by simp) (r.append r2) ?_,rfl,q⟩
 rw [List.length_append]
 omega
def rCat:R2:=fun x y H Q=>∃ l b xs zs,x=.ref l∧y=.ref b∧H l=some (.lst xs)∧H b=some (.lst zs)∧xs.length + zs.length≤sizeLine∧∀ p,H p=none→Q (.ref p) (upd H p (.lst (xs++zs)))
theorem op_cat:OpR X (binaryOp .Add) rCat:=by
 intro pins s σ H x y v u Q I rx ry h
 obtain ⟨l,b,xs,zs,rfl,rfl,hH,hB,hz,q⟩:=h
 cases rx
 cases ry
 obtain ⟨z,its,n,r,hl,e⟩:=I.lstM hH
 obtain ⟨z2,its2,n2,r2,hl2,e2⟩:=I.lstM hB
 refine PySem.P.add_list e e2 ?_ (by rw [List.size_toArray,List.size_toArray];omega)
 have ea:its.toArray++its2.toArray=(its++its2).toArray:=by simp
 rw [ea]
 exact ⟨.ref _,_,I.lnew (t':=s.toks) (r.append r2) (by rw [List.length_append];omega),rfl,q _ I.fresh⟩
end
section
variable {κ:Type} [DecidableEq κ]
theorem KV.length {kvs:List (κ×V)}{vs:List (κ×Value)} (r:KV kvs vs):kvs.length=vs.length:=Paired.length r
end
section
variable {P:Program}{w:World}{H:Hp}{h:Heap}{a:Addr}
theorem rd_of {u:HO} (ok:HOk P w H h) (e:Rd H a u):ObjOk P w H h a u:=e.ok ok
theorem dk_rd {kvs:List (Key×V)} (ok:HOk P w H h) (e:Rd H a (.dK kvs)):kvs.length≤sizeLine∧(a == sysModules)=false∧∃ vs,KV kvs vs∧h.DictOf (mixKind P w) a vs:=
 show ObjOk P w H h a (.dK kvs) from rd_of ok e
end
section
variable {X:Cx}{pins:List (Addr×Obj)}{σ:St}{H:Hp}{s:Shared}{a:Addr}{kvs:List (Key×V)}{k:Key}{u:Value}{A:Around}{E:Value→Shared→Prop}
theorem d_len {Q:Value→Shared→Prop} (I:Inv X pins σ H s) (e:Rd H a (.dK kvs)) (h:∀ t s',Inv X pins σ H s'→Q (.int kvs.length t) s'):wpAny (model X.prog X.w) A (call (.builtin "len") [.ref a]) Q E s:=by
 obtain ⟨z,hd,vs,rel,dd⟩:=dk_rd I.hok e
 refine call_len_dict hd dd (by rw [← rel.length];rw [sizeLine_eq] at z;omega) ?_
 rw [← rel.length]
 exact h _ _ (I.tok _)
end
end L2
namespace Att
open PySem PySem.W PySem.Calls PyProof.Rows
theorem ints_of_wellAll {P:Params}{h:Heap}:∀ (ns:List Int) (vs:List Value),WellAll P h vs (ns.map WData.int)→IntsAre vs ns:=by
 intro ns
 induction ns with
 | nil=>
  intro vs w
  rw [List.map_nil] at w
  cases w
  exact .nil
 | cons n ns ih=>
  intro vs w
  rw [List.map_cons] at w
  cases w with
  | cons a b=>
   cases a
   exact .cons _ _ (ih _ b)
theorem script_of {l:OpenLaw}{n:Nat} (hn:l.most=some n) {P:Params}{h:Heap}{args:List WData}{vals:List Value}
  (hpre:l.row.toRowW.claim.pre args=true) (hwl:WellAll P h vals args) :
  ∃ a vs ns,vals=[Value.ref a]∧args=[WData.list (ns.map WData.int)]∧h.get? a=some { cls:=.type "list",data:=.seq vs.toArray }∧IntsAre vs ns∧ns.length≤n:=by
 have hsh:WShape.hasAll [] args [.list .int]=true:=(pre_splitW hpre).1
 have hc:l.pre.holds [] { args:=args }=true:=(pre_splitW hpre).2
 obtain ⟨d,r,rfl,h1,h2⟩:=hasAllW_cons hsh
 obtain rfl:=hasAllW_nil h2
 obtain ⟨xs,rfl,h3⟩:=hasW_list h1
 obtain ⟨ns,rfl⟩:=items_int h3
 have hlen:ns.length≤n:=by
  unfold OpenLaw.pre at hc
  have h4:(WTm.not (.lt (.lit (.int (n:Int))) (.len (.arg 0)))).holds [] { args:=[.list (ns.map .int)] }=true:=by
   have h4:=(holds_andW hc).1
   rw [hn] at h4
   exact h4
  have h5:=condW_of h4 (w_not (w_lt w_lit (w_len_list (w_arg rfl))))
  rw [List.length_map] at h5
  refine Nat.le_of_not_lt fun q=>?_
  have q':(n:Int) < ((ns.length:Nat):Int):=by omega
  first
   | (rw [decide_eq_true q'] at h5;exact absurd h5 (by decide))
   | (simp at h5;omega)
 cases hwl with
 | cons w1 w2=>
  cases w2
  cases w1 with
  | list ho hall=>exact ⟨_,_,ns,rfl,rfl,ho,ints_of_wellAll ns _ hall,hlen⟩
theorem post_true (l:OpenLaw) (args:List WData):l.row.toRowW.claim.post args (.bool true) args=true:=
 postW_of (r:=l.row.toRowW) (X:=(true == true))
  (show WShape.has [] (.bool true) .bool=true by first | rfl | decide | simp [WShape.has,WShape.arms,WShape.armsAll])
  (show (WTm.eq .res (.lit (.bool true))).value [] { args:=args,res:=some (.bool true),after:=args }=some (.bool (true == true)) from w_eq_bool (w_res rfl) w_lit) rfl
theorem attach_call {l:OpenLaw}{n:Nat}{q:Program}{loose:List Str}{XP:(Str→Option Value)→Heap→Prop}{YP:World→Heap→Prop}{d:DefRec}
  (hn:l.most=some n) (hdf:d.params.defaults=[])
  (call:∀ (w:World) (s₀ s₁:Shared) (mg mb:Str→Option Value) (fa:Addr) (o:Obj) (pm cd doc:Value) (a:Addr) (vs:List Value) (ns:List Int),
   Ground q loose [] XP w s₀ mg mb s₁.heap→YP w s₁.heap →
   s₁.heap.get? fa=some o→o.data=.func (docDef d.name d.params d.body d.scope pm cd doc)→s₁.heap.CodeRec cd d.name→mg d.name=some (.ref fa) →
   s₁.heap.get? a=some { cls:=.type "list",data:=.seq vs.toArray }→IntsAre vs ns→ns.length≤n→s₁.gens=#[] →
   codeAny (model l.prog w) callerA (.call (.ref fa) ⟨[.ref a],[]⟩) (fun r s'=>r=.ok (.ret (.bool true))∧OldK s₁.heap s'.heap∧s'.os=s₁.os∧AllBare s'.gens) s₁) :
  WalkO q loose XP YP l.row.toRowW d [] (fun f vs=>PySem.call f vs):=by
 intro w s₀ s₁ mg mb G Y fa o pm cd doc dV kV ho hd hcd hD hmg hg args vals as hpre hlay hrd hwl hlo
 obtain rfl:dV=.none:=Dflts.none hD hdf
 obtain rfl:kV=.none:=Dflts.noKw hD
 obtain ⟨a,vs,ns,rfl,rfl,hobj,hints,hlen⟩:=script_of hn hpre hwl
 refine enter_call (codeAny_mono (call w s₀ s₁ mg mb fa o pm cd doc a vs ns G Y ho (fd_plain hd) hcd hmg hobj hints hlen hg) fun r s' hq=>?_)
 obtain ⟨rfl,h2,h3,h4⟩:=hq
 exact ⟨.inl ⟨.bool true,.bool true,[],rfl,fun _=>rfl,.bool true,post_true l _,fun _=>⟨List.Pairwise.nil,fun _ hm=>(nomatch hm)⟩⟩,h2,h3,h4⟩
end Att
namespace L2
open PySem PySem.Spec PyProof.Rows
theorem vals_ints:∀ {vs:List Value}{ns:List Int},IntsAre vs ns→Vals (ns.map V.int) vs
 | _,_,.nil=>.nil
 | _,_,.cons n t h=>.cons ⟨t,rfl⟩ (vals_ints h)
def Only (H:Hp):Prop:=∀ b,H b=none∨∃ o xs,H b=some (.frz o (.lst xs))
theorem law_call {P:Program}{w:World}{K:PySem.W.Frag}{mg mb:Str→Option Value}{CX:CXT}{k:Nat}{fa a:Addr}{fd:FuncData}{x:Str}{sp:Sp}{s₁:Shared}{vs:List Value}{ns:List Int}
  (KX:K.In s₁.heap) (hns:s₁.heap.Ns mainGlobals mg) (hb:s₁.heap.Ns builtinsNs mb) (hbb:∀ x:Str,x≠"__name__"→mb x=bootBuiltins x) (hlim:s₁.heap.NoLimit) (hg:s₁.gens=#[])
  (ha:s₁.heap.get? a=some { cls:=.type "list",data:=.seq vs.toArray }) (hi:IntsAre vs ns) (hl:ns.length≤sizeLine) (hr:Room k callerA)
  (F:∀ base:Heap,K.In base→base.Ns mainGlobals mg→FnOk P w K mg base CX k fa fd [x] sp) (hbind:∀ (s:Shared) (u:Value),BindsTo s fd ⟨[u],[]⟩ [(x,u)])
  (hsp:∀ H:Hp,Only H→SqL K H a (ns.map V.int)→sp [.ref a] H (fun v _=>v=.bl true) fun _ _ _=>False)
  (hCX:∀ H e s',CX [] H s₁ (fun _ _ _=>False) e s'→False) :
  codeAny (model P w) callerA (.call (.ref fa) ⟨[.ref a],[]⟩) (fun r s'=>r=.ok (.ret (.bool true))∧OldK s₁.heap s'.heap∧s'.os=s₁.os∧AllBare s'.gens) s₁:=by
 have rv:=vals_ints hi
 have lenV:=hi.length
 have core:∀ H:Hp,Only H→SqL K H a (ns.map V.int)→HOk P w H s₁.heap→(∀ b,H b≠none→b=a)→(H a≠none→K.lookup a=none) →
   codeAny (model P w) callerA (.call (.ref fa) ⟨[.ref a],[]⟩) (fun r s'=>r=.ok (.ret (.bool true))∧OldK s₁.heap s'.heap∧s'.os=s₁.os∧AllBare s'.gens) s₁:=by
  intro H hO hS hok hA hK
  have base_of:∀ {b:Addr}{o:Obj},s₁.heap.get? b=some o→H b=none→(hidT s₁.heap H).get? b=some o:=fun e n=>hidT_get e n
  have noA:∀ {b:Addr}{o:Obj}{es:Array DictEntry}{ep:Nat},s₁.heap.get? b=some o→o.data=.dict es ep→H b=none:=fun {b o es ep} e d=>by
   cases q:H b with
   | none=>rfl
   | some u=>
    have e':b=a:=hA b (by rw [q];simp)
    subst e'
    rw [ha] at e;cases e
    have d':Data.seq vs.toArray _=Data.dict es ep:=d
    cases d'
  have nsK:∀ {b:Addr}{m:Str→Option Value},s₁.heap.Ns b m→(hidT s₁.heap H).Ns b m:=fun {b m} ⟨o,es,ep,e,d,r⟩=>⟨o,es,ep,base_of e (noA e d),d,r⟩
  have hKb:K.In (hidT s₁.heap H):=fun b o e=>base_of (KX b o e) (by
   cases q:H b with
   | none=>rfl
   | some u=>
    have e':b=a:=hA b (by rw [q];simp)
    subst e'
    rw [hK (by rw [q];simp)] at e;cases e)
  have hM:Mod K mg (hidT s₁.heap H):=⟨hKb,nsK hns,⟨mb,nsK hb,hbb⟩,let ⟨mc,h1,h2⟩:=hlim;⟨mc,nsK h1,h2⟩⟩
  have e0:Env0 P w K mg (hidT s₁.heap H) callerA [] s₁ H:=⟨rfl,hM,fun b o e=>of_hidT e,Nat.le_of_eq (hidT_size _ _),trivial,fun b hb=>absurd (show b∈([]:List Addr) from hb) (by simp),hok,.of_eq hg,.inl rfl⟩
  refine codeAny_mono ((F _ hKb (nsK hns)).run callerA [] s₁ H ⟨[.ref a],[]⟩ [.ref a] [.ref a] _ _ hr e0 (hbind s₁ (.ref a)) (.cons rfl .nil) (hsp H hO hS)) fun r s' h=>?_
  cases r with
  | error e=>exact (hCX H e s' h).elim
  | ok fl=>
   cases fl with
   | next=>exact False.elim h
   | brk=>exact False.elim h
   | cont=>exact False.elim h
   | ret u=>
    obtain ⟨v,H',os,bare,un,hok',r',q⟩:=h
    have q':v=.bl true:=q
    subst q'
    obtain rfl:u=Value.bool true:=r'
    refine ⟨rfl,OldK.of_keep fun b o e=>?_,os,bare⟩
    cases q:H b with
    | none=>exact un.keep b o e q (by intro z;exact absurd (show b∈([]:List Addr) from z) (by simp)) (by simp)
    | some u=>
     rcases hO b with z | ⟨ob,xs,z⟩
     ·rw [q] at z;cases z
     ·have z2:=un.frzs b ob _ z
      obtain ⟨e1,_⟩:=hok b _ z
      obtain ⟨e2,_⟩:=hok' b _ z2
      rw [e] at e1;cases e1
      exact e2
 cases hk:K.lookup a with
 | some o=>
  have e:=KX a o hk
  rw [ha] at e
  cases e
  refine core (fun _=>none) (fun _=>.inl rfl) (.inr ⟨_,vs.toArray,_,hk,rfl,rfl,rfl,by rw [List.size_toArray,lenV];exact hl,by simpa using rv⟩) (fun b u z=>by have z':(none:Option HO)=some u:=z;cases z') (fun b z=>absurd rfl z) fun z=>absurd rfl z
 | none=>
  refine core (fun b=>if b=a then some (.frz { cls:=.type "list",data:=.seq vs.toArray } (.lst (ns.map V.int))) else none) (fun b=>?_) (.inl (.inr ⟨{ cls:=.type "list",data:=.seq vs.toArray },if_pos rfl⟩)) (fun b u z=>?_) (fun b z=>?_) fun _=>hk
  ·by_cases hb:b=a
   ·exact .inr ⟨_,_,if_pos hb⟩
   ·exact .inl (if_neg hb)
  ·by_cases hb:b=a
   ·have z':=(if_pos hb).symm.trans z
    cases z'
    subst hb
    exact ⟨ha,by rw [List.length_map];exact hl,vs,_,rv,ha⟩
   ·have z':=(if_neg hb).symm.trans z
    cases z'
  ·by_cases hb:b=a
   ·exact hb
   ·exact absurd (if_neg hb) z
theorem walk_of {l:PySem.W.OpenLaw}{n k:Nat}{q:Program}{loose:List Str}{XP:(Str→Option Value)→Heap→Prop}{YP:World→Heap→Prop}{d:DefRec}{K:Params→PySem.W.Frag}{CX:World→CXT}{sp:World→Sp}{x:Str}
  (hn:l.most=some n) (hn2:n≤sizeLine) (hdf:d.params.defaults=[]) (hr:Room k callerA)
  (hY:∀ (w:World) (h:Heap),YP w h→(K w.params).In h)
  (F:∀ (w:World) (mg:Str→Option Value) (fa:Addr) (h:Heap),(K w.params).In h→h.Ns mainGlobals mg→mg d.name=some (.ref fa) →
   ∃ fd:FuncData,(∀ (s:Shared) (u:Value),BindsTo s fd ⟨[u],[]⟩ [(x,u)]) ∧
    ∀ base:Heap,(K w.params).In base→base.Ns mainGlobals mg→FnOk l.prog w (K w.params) mg base (CX w) k fa fd [x] (sp w))
  (hsp:∀ (w:World) (H:Hp) (a:Addr) (ns:List Int),ns.length≤n→Only H→SqL (K w.params) H a (ns.map V.int)→sp w [.ref a] H (fun v _=>v=.bl true) fun _ _ _=>False)
  (hCX:∀ (w:World) (H:Hp) (s:Shared) (e:Value) (s':Shared),CX w [] H s (fun _ _ _=>False) e s'→False) :
  PySem.W.WalkO q loose XP YP l.row.toRowW d [] (fun f vs=>PySem.call f vs):=by
 refine Att.attach_call hn hdf fun w s₀ s₁ mg mb fa o pm cd doc a vs ns G Y ho hd hcd hmg hobj hints hlen hg=>?_
 have KX:=hY w _ Y
 obtain ⟨fd,hb,hF⟩:=F w mg fa _ KX G.T.g hmg
 exact law_call KX G.T.g G.T.b G.T.builtins G.T.nolimit hg hobj hints (Nat.le_trans hlen hn2) hr hF hb (fun H hO hS=>hsp w H a ns hlen hO hS) fun H e s'=>hCX w H s₁ e s'
def defArgs (s:Stmt):Arguments:=match s with
 | .FunctionDef _ a _ _ _ _ _ _ _ _=>a
 | _=>{ posonlyargs:=[],args:=[],vararg:=none,kwonlyargs:=[],kw_defaults:=[],kwarg:=none,defaults:=[] }
def defBody (s:Stmt):List Stmt:=match s with
 | .FunctionDef _ _ b _ _ _ _ _ _ _=>b
 | _=>[]
def defScope (s:Stmt):Scope:=match s with
 | .FunctionDef _ _ _ _ _ _ sc _ _ _=>sc
 | _=>{ kind:=.function,names:=[],isGenerator:=false,isCoroutine:=false }
abbrev CX0:CXT:=fun _ _ _ _ _ _=>False
abbrev E0:XK:=fun _ _ _=>False
theorem pass0 {X:Cx}:Passes CX0 X E0:=fun _ _ _ _ _ _ _ h=>h.elim
structure Fun (K:PySem.W.Frag) (x qual:Str) (st:Stmt) (f:Addr) (fd:FuncData):Prop where
 ex:∃ (oc:Value) (od:Option Addr) (kV doc pm:Value) (an:Option Addr) (cdv ct:Value) (osl:Array (Option Value)),
  fd=PySem.W.fnOf x qual (defArgs st) (defBody st) (defScope st) .none kV doc pm an cdv ct∧K.lookup f=some ⟨oc,od,.func fd,osl⟩∧PySem.W.codeIn K cdv qual=true
 kp:PySem.W.keepIn K (.ref f)=true
section
variable {P:Program}{w:World}{K:PySem.W.Frag}{mg:Str→Option Value}{base:Heap}
theorem Fun.ok {x qual:Str}{st:Stmt}{f:Addr}{fd:FuncData}{N ps:List Str}{k:Nat}{sp:Sp}{cm:Bool} (F:Fun K x qual st f fd) (S:FnScope N ps (defScope st)) (len:∀ vs H Q E,sp vs H Q E→vs.length=ps.length)
  (hbody:∀ (cdv:Value) (A:Around) (outer:List Env) (s:Shared) (H:Hp) (vs:List V) (Q:VK) (E:XK),Room k (A.deeper (envOfC qual (defScope st) s.heap.objs.size f cdv)) cm→sp vs H Q E →
   ∃ t,PSs (cxOf CX0 P w K mg base N qual (defScope st) f cdv A outer s H E cm).nox (defBody st) t∧t { nx:=fun _ H'=>Q .non H',rt:=Q } (start N vs) H):FnOk P w K mg base CX0 (k + 1) f fd ps sp cm:=by
 obtain ⟨oc,od,kV,doc,pm,an,cdv,ct,osl,rfl,lk,hcd⟩:=F.ex
 refine fn_of lk hcd S len fun A outer s H vs Q E hr hsp=>?_
 obtain ⟨t,h,q⟩:=hbody cdv A outer s H vs Q E hr hsp
 exact ⟨t,h.nox,q⟩
theorem Fun.binds {x qual:Str}{st:Stmt}{f:Addr}{fd:FuncData}{ps:List Str} (F:Fun K x qual st f fd)
  (h:∀ (kV doc pm:Value) (an:Option Addr) (cdv ct:Value) (us:List Value),us.length=ps.length→bindArgs (PySem.W.fnOf x qual (defArgs st) (defBody st) (defScope st) .none kV doc pm an cdv ct) ⟨us,[]⟩=pure (ps.zip us)):Binds K fd ps []:=by
 obtain ⟨oc,od,kV,doc,pm,an,cdv,ct,osl,rfl,lk,hcd⟩:=F.ex
 exact .all (h kV doc pm an cdv ct)
theorem fun_mk {x qual:Str}{st:Stmt}{f:Addr}{oc:Value}{od an:Option Addr}{osl:Array (Option Value)}{kV doc pm cdv ct:Value} (l:K.lookup f=some ⟨oc,od,.func (PySem.W.fnOf x qual (defArgs st) (defBody st) (defScope st) .none kV doc pm an cdv ct),osl⟩)
  (c:PySem.W.codeIn K cdv qual=true) (k:PySem.W.keepIn K (.ref f)=true):Fun K x qual st f (PySem.W.fnOf x qual (defArgs st) (defBody st) (defScope st) .none kV doc pm an cdv ct):=⟨⟨oc,od,kV,doc,pm,an,cdv,ct,osl,rfl,l,c⟩,k⟩
end
theorem hu_of {A:Around}{k:Nat}{cm:Bool} (hr:Room k A cm):A.units + 1 < cLine:=Nat.lt_of_le_of_lt (Nat.add_le_add_left (by decide:1≤64) _) hr.units
theorem small1000 {n:Nat} (h:n≤1000):n < sizeLine:=Nat.lt_of_le_of_lt h (by decide)
theorem iteF {A B:Prop} (h:B):if false=true then A else B:=by
 rw [if_neg Bool.false_ne_true]
 exact h
theorem iteT {A B:Prop} (h:A):if true=true then A else B:=by
 rw [if_pos rfl]
 exact h
def Same (H H':Hp):Prop:=∀ b o,H b=some o→H' b=some o
theorem Same.refl (H:Hp):Same H H:=fun _ _ h=>h
theorem Same.trans {H H1 H2:Hp} (a:Same H H1) (b:Same H1 H2):Same H H2:=fun c o h=>b c o (a c o h)
theorem Same.free {H H':Hp} (e:Same H H') {l:Addr} (h:H' l=Option.none):H l=Option.none:=by
 cases q:H l with
 | none=>rfl
 | some o=>
  rw [e l o q] at h
  cases h
section
variable {X:Cx}
theorem call_lenD:CallR X (.builtin "len") (fun xs H Q=>∃ a kvs,xs=[V.ref a]∧H a=some (.dK kvs)∧Q (.int kvs.length) H):=by
 intro pins s σ H xs us Q I r h
 obtain ⟨a,kvs,rfl,ha,q⟩:=h
 obtain ⟨u,rfl,ru⟩:=vals1 r
 cases ru
 exact d_len I (.inl ha) fun t s' I'=>⟨.int kvs.length,H,I',⟨t,rfl⟩,q⟩
end
def ExcO (a:Addr) (cls:Value) (de:Option Addr):HO:=.ext fun h=>∃ oe,h.get? a=some oe∧oe.cls=cls∧(∀ dx,de=some dx→oe.dict=some dx∧PySem.W.notCls oe=true)
def ExcF (ob:Obj) (a:Addr) (cls:Value) (de:Option Addr):HO:=.frz ob (ExcO a cls de)
def slotM (n:Nat) (t:Tok):Str→Option Value:=fun y=>if y="slot" then some (.int n t) else none
def XdO (dx:Addr) (n:Nat):HO:=.ext fun h=>∃ t,h.Ns1 dx (slotM n t)
def fld2 (o:Obj):Option Value:=match o.data with
 | .fields vs=>vs[2]?
 | _=>none
def Kd (h h':Heap):Prop:=∀ (a:Nat) (o:Obj),h.objs[a]? = some o→∃ o',h'.objs[a]? = some o'∧o'.dict=o.dict∧fld2 o'=fld2 o
theorem Kd.at {h h':Heap} (k:Kd h h') {a:Addr}{o o':Obj} (e:h.get? a=some o) (e':h'.get? a=some o'):o'.dict=o.dict∧fld2 o'=fld2 o:=by
 have raw:∀ {h:Heap}{o:Obj},h.get? a=some o→h.objs[a]? = some o:=fun {h o} e=>by
  unfold Heap.get? at e
  split at e
  ·cases e
  ·exact e
 obtain ⟨u,q,d⟩:=k a o (raw e)
 rw [raw e'] at q
 cases q
 exact d
def PayD (h:Heap) (H:Hp) (nw:Addr→Prop) (e:Addr):Option Addr→Prop
 | none=>True
 | some n=>∃ oe dx t,h.get? e=some oe∧oe.dict=some dx∧h.Ns1 dx (slotM n t)∧H dx=none∧nw dx
def PayOk (h:Heap) (H:Hp) (nw:Addr→Prop) (e:Addr) (pay:Option Addr):Prop:=(∃ oe,h.get? e=some oe∧fld2 oe=some .none)∧PayD h H nw e pay
structure FlyN (h:Heap) (H:Hp) (h0:Heap) (e:Addr) (cls:Value) (pay:Option Addr):Prop where
 py:PayOk h H (fun a=>h0.get? a=none) e pay
 nw:h0.get? e=none
 fr:H e=none
 ob:∃ oe vs a0,h.get? e=some oe∧oe.cls=cls∧vs[0]? = some a0∧oe.data=.fields vs∧vs[1]? = some .none
abbrev XS:=Value→Option Addr→St→Hp→Prop
def ThrowsN (X:Cx) (E:XS):Prop:=∀ (pins:List (Addr×Obj)) (σ:St) (H:Hp) (s:Shared) (e:Addr) (cls:Value) (pay:Option Addr),Inv X pins σ H s→FlyN s.heap H X.s₀.heap e cls pay→E cls pay σ H→X.xe (.ref e) s
section
variable {X:Cx}{pins:List (Addr×Obj)}{σ:St}{H:Hp}{s:Shared}{h':Heap}
abbrev Apart (X:Cx) (pins:List (Addr×Obj)) (a:Addr):Prop:=X.s₀.heap.get? a=none∧a≠X.env.locals∧(∀ y c,X.env.cells.lookup y=some c→c≠a)∧∀ p∈X.pn++pins,p.1≠a
structure Landed (X:Cx) (pins:List (Addr×Obj)) (σ:St) (H:Hp) (e:Addr) (cls:Value) (pay:Option Addr) (s:Shared):Prop where
 py:PayOk s.heap H (Apart X pins) e pay
 inv:Inv X pins σ H s
 fr:H e=none
 ap:X.s₀.heap.get? e=none∧e≠X.env.locals∧(∀ y c,X.env.cells.lookup y=some c→c≠e)∧∀ p∈X.pn++pins,p.1≠e
 ob:∃ oe vs a0 T oT ts,s.heap.get? e=some oe∧oe.cls=cls∧vs[0]? = some a0∧oe.data=.fields vs∧vs[1]? = some (.ref T)∧T≠e∧H T=none∧(X.s₀.heap.get? T=none∧T≠X.env.locals∧(∀ y c,X.env.cells.lookup y=some c→c≠T)∧∀ p∈X.pn++pins,p.1≠T)∧s.heap.get? T=some oT∧oT.data=.fields ts∧ts[3]? = some .none
end
def ThrowsT (X:Cx) (E:XS):Prop:=∀ (pins:List (Addr×Obj)) (σ:St) (H:Hp) (s:Shared) (e:Addr) (cls:Value) (pay:Option Addr),Landed X pins σ H e cls pay s→E cls pay σ H→X.xe (.ref e) s
section
variable {prog:Program}{w:World}{A:Around}{R:Result→Shared→Prop}{s:Shared}
theorem comp_loop {elt tg iter:Expr}{ifs:List Expr}{scope:Scope}{pos:Pos}{it acc:Value}{env:Env} (Iv:Nat→Shared→Prop)
  (turn:∀ n s,Iv n s→wpAny (model prog w) A (pyNext it) (fun r s1=>match r with
   | none=>R (.ok .next) s1
   | some v=>wpAny (model prog w) A (letOwnedTupleGo tg it v) (fun _ s1'=>wpAny (model prog w) A (assign tg env v) (fun _ s2=>
     wpAny (model prog w) A (forIn ifs true fun c r=>if r=true then do let ok ← isTrue c env (eval c env);pure (ForInStep.yield ok) else pure (ForInStep.yield r)) (fun ok s3=>
      if ok=true then wpAny (model prog w) A (eval elt env) (fun x s4=>
       wpAny (model prog w) A (call (.builtin "list.append") [acc,x]) (fun _ s5=>∃ m,m < n∧Iv m s5) (fun _ _=>False) s4) (fun _ _=>False) s3
      else ∃ m,m < n∧Iv m s3) (fun _ _=>False) s2) (fun _ _=>False) s1') (fun _ _=>False) s1) (fun _ _=>False) s)
  (n:Nat) (hn:Iv n s):codeAny (model prog w) A (.compLoop (.ListComp elt [⟨tg,iter,ifs,0⟩] scope pos) 0 it acc env) R s:=by
 have ff:∀ {E:Value→Shared→Prop} (x:Value) (s:Shared),False→E x s:=fun _ _ f=>f.elim
 refine codeAny_loop rfl Iv (fun k s0 hI=>?_) n hn
 show wpAny (model prog w) A ((compTurn (.ListComp elt [⟨tg,iter,ifs,0⟩] scope pos) 0 it acc env).onRaise (fun x=>do noteFrame x env;theTreesLotGoes x)) _ _ s0
 refine wpAny_noted ?_
 rw [compTurn_list]
 refine wpAny_bind (wpAny_standAt (wpAny_bind (wpAny_mono (turn k s0 hI) (fun r s1 h1=>?_) ff)))
 cases r with
 | none=>exact wpAny_pure h1
 | some v=>
  refine wpAny_bind (wpAny_mono h1 (fun _ s1' h1'=>wpAny_bind (wpAny_mono h1' (fun _ s2 h2=>wpAny_bind (wpAny_mono h2 (fun ok s3 h3=>?_) ff)) ff)) ff)
  cases ok with
  | false=>exact wpAny_pure ⟨rfl,h3⟩
  | true=>exact wpAny_bind (wpAny_bind (wpAny_mono h3 (fun x s4 h4=>wpAny_bind (wpAny_mono h4 (fun _ s5 h5=>wpAny_pure (wpAny_pure ⟨rfl,h5⟩)) ff)) ff))
end
def frees (sc:Scope):List Str:=(sc.names.filter fun x=>x.2 == .free).map (·.1)
def cellPairs (env:Env):List (Str×NameKind)→List (Str×Addr)→List (Str×Addr)
 | [],cs=>cs
 | (n,k)::r,cs=>cellPairs env r (if k == .free then (n,(env.cells.lookup n).getD 0)::cs else cs)
theorem clos_of {env:Env}{sc:Scope} (h:∀ x∈frees sc,∃ c,env.cells.lookup x=some c):closureFor sc env=pure (cellPairs env sc.names []):=by
 have key:∀ (l:List (Str×NameKind)) (cs:List (Str×Addr)),(∀ x∈(l.filter fun x=>x.2 == .free).map (·.1),∃ c,env.cells.lookup x=some c) →
   (forIn l cs fun x r=>(do
    let (name,kind):=x
    if kind == .free then do
     let a ← cellOf env name
     pure (ForInStep.yield ((name,a)::r))
    else pure (ForInStep.yield r):Sem (ForInStep (List (Str×Addr)))))=pure (cellPairs env l cs):=by
  intro l
  induction l with
  | nil=>intro cs _;rfl
  | cons p r ih=>
   obtain ⟨n,k⟩:=p
   intro cs h
   rw [List.forIn_cons]
   by_cases hk:(k == NameKind.free)=true
   ·obtain ⟨c,hc⟩:=h n (by simp [hk])
    have ih':=ih ((n,c)::cs) fun x hx=>h x (by simp only [List.filter_cons,hk,if_true,List.map_cons,List.mem_cons];exact Or.inr hx)
    have e:cellOf env n=pure c:=by unfold cellOf;rw [hc]
    simp only [hk,if_true,e,pure_bind,cellPairs,hc,Option.getD_some]
    exact ih'
   ·have ih':=ih cs fun x hx=>h x (by simp only [List.filter_cons,hk];exact hx)
    simp only [hk,cellPairs,Bool.false_eq_true,if_false,pure_bind]
    exact ih'
 unfold closureFor
 have k:=key sc.names [] h
 simp only [bind_pure] at k ⊢
 first
  | exact k
  | (simp only [pure_bind];exact k)
theorem cellPairs_get {env:Env}:∀ {l:List (Str×NameKind)}{cs:List (Str×Addr)}{x:Str}{c:Addr},(cellPairs env l cs).lookup x=some c →
  cs.lookup x=some c∨((x,NameKind.free)∈l∧c=(env.cells.lookup x).getD 0)
 | [],_,_,_,h=>.inl h
 | (n,k)::r,cs,x,c,h=>by
  rcases cellPairs_get (l:=r) h with q | ⟨q,e⟩
  ·by_cases hk:(k == NameKind.free)=true
   ·rw [if_pos hk,List.lookup_cons] at q
    by_cases hx:(x == n)=true
    ·rw [hx] at q
     have e:=eq_of_beq hx
     subst e
     have hk':k=.free:=by cases k <;> first | rfl | exact absurd hk (by decide)
     subst hk'
     exact .inr ⟨List.mem_cons_self,(Option.some.inj q).symm⟩
    ·rw [Bool.not_eq_true] at hx
     rw [hx] at q
     exact .inl q
   ·rw [if_neg hk] at q
    exact .inl q
  ·exact .inr ⟨List.mem_cons_of_mem _ q,e⟩
theorem cellPairs_has {env:Env}:∀ {l:List (Str×NameKind)}{cs:List (Str×Addr)}{x:Str},(∃ c,cs.lookup x=some c)∨(x,NameKind.free)∈l→∃ c,(cellPairs env l cs).lookup x=some c
 | [],_,_,h=>h.elim id fun z=>nomatch z
 | (n,k)::r,cs,x,h=>by
  refine cellPairs_has (l:=r) ?_
  rcases h with ⟨c,h⟩ | h
  ·left
   by_cases hk:(k == NameKind.free)=true
   ·rw [if_pos hk,List.lookup_cons]
    by_cases hx:(x == n)=true
    ·rw [hx];exact ⟨_,rfl⟩
    ·rw [Bool.not_eq_true] at hx;rw [hx];exact ⟨c,h⟩
   ·rw [if_neg hk];exact ⟨c,h⟩
  ·rcases List.mem_cons.mp h with e | h
   ·left
    cases e
    rw [if_pos (by decide),List.lookup_cons,beq_self_eq_true]
    exact ⟨_,rfl⟩
   ·exact .inr h
def cxComp (X:Cx) (N:List Str) (sc:Scope) (s3:Shared) (H3:Hp) (fp:List Addr):Cx:=
 { X with N:=N,s₀:=s3,H₀:=H3,env:=compEnvC sc (cellPairs X.env sc.names []) s3.heap.objs.size X.env,outer:=X.stack,stack:=X.stack,ex:=fp,fn:=fun _=>false,pn:=[],xe:=fun _ _=>False }
def iniC (js:List (Option Nat)) (σ:St):St:=js.map fun j=>match j with
 | none=>none
 | some j=>(σ[j]?).join
def capOk (N:List Str) (sc:Scope):List Str→List (Option Nat)→Bool
 | [],[]=>true
 | x::r,none::js=>capOk N sc r js
 | x::r,some j::js=>decide (N[j]? = some x)&&decide (sc.names.lookup x=some .free)&&capOk N sc r js
 | _,_=>false
theorem capOk_len {N:List Str}{sc:Scope}:∀ {M:List Str}{js:List (Option Nat)},capOk N sc M js=true→js.length=M.length
 | [],[],_=>rfl
 | _::r,none::js,h=>by
  have:=capOk_len (M:=r) (js:=js) h
  simp [this]
 | _::r,some j::js,h=>by
  unfold capOk at h
  have:=capOk_len (M:=r) (js:=js) ((Bool.and_eq_true _ _).mp h).2
  simp [this]
 | [],_::_,h=>by cases h
 | _::_,[],h=>by cases h
theorem capOk_at {N:List Str}{sc:Scope}:∀ {M:List Str}{js:List (Option Nat)}{i j:Nat}{x:Str},capOk N sc M js=true→M[i]? = some x→js[i]? = some (some j)→N[j]? = some x∧sc.names.lookup x=some .free
 | [],_,_,_,_,_,h,_=>by simp at h
 | _::_,[],_,_,_,h,_,_=>by cases h
 | y::r,none::js,0,j,x,h,h1,h2=>by simp at h2
 | y::r,some q::js,0,j,x,h,h1,h2=>by
  simp at h1 h2
  subst h1 h2
  unfold capOk at h
  obtain ⟨a,b⟩:=(Bool.and_eq_true _ _).mp ((Bool.and_eq_true _ _).mp h).1
  exact ⟨of_decide_eq_true a,of_decide_eq_true b⟩
 | y::r,none::js,i + 1,j,x,h,h1,h2=>capOk_at (M:=r) (js:=js) h (by simpa using h1) (by simpa using h2)
 | y::r,some q::js,i + 1,j,x,h,h1,h2=>by
  unfold capOk at h
  exact capOk_at (M:=r) (js:=js) ((Bool.and_eq_true _ _).mp h).2 (by simpa using h1) (by simpa using h2)
structure CompScope (X:Cx) (M:List Str) (js:List (Option Nat)) (sc:Scope):Prop where
 kind:sc.kind=.function
 nocell:∀ y∈sc.names,y.2≠.cell
 loc:∀ y∈sc.names,y.2=.local→sc.names.lookup y.1=some .local
 cap:capOk X.N sc M js=true
 free:∀ x∈frees sc,X.env.kindOf x=some .cell∨X.env.kindOf x=some .free
 nd:M.Nodup
def tComp (wi:TI) (js:List (Option Nat)) (g:TG) (tt:TT) (te:TE):TE:=fun σ H Q=>wi σ H fun J H1=>∀ D,H1 D=none →
 ∃ W:Nat→Nat→St→Hp→Prop,(∃ m,W 0 m (iniC js σ) (upd H1 D (.lst [])))∧∀ i m σ' H',W i m σ' H' →
  (J.stop i H'∧Q (.ref D) H')∨(J.go i H'∧∀ x H2,J.yld i H' x H2→g x σ' H2 fun σ3 H3=>tt σ3 H3 fun b H4=>
   if b=true then te σ3 H4 fun y H5=>∃ xs,H5 D=some (.lst xs)∧xs.length < sizeLine∧∃ m',m' < m∧W (i + 1) m' σ3 (upd H5 D (.lst (xs++[y])))
   else ∃ m',m' < m∧W (i + 1) m' σ3 H4)
def PTs (X:Cx) (ifs:List Expr) (t:TT):Prop:=
 ∀ (pins:List (Addr×Obj)) (s:Shared) (σ:St) (H:Hp) (Q:Bool→Hp→Prop),Inv X pins σ H s→t σ H Q →
  wpAny (model X.prog X.w) X.A (forIn ifs true fun c r=>if r=true then do let ok ← isTrue c X.env (eval c X.env);pure (ForInStep.yield ok) else pure (ForInStep.yield r)) (TP X pins σ Q) X.xe s
section
variable {X:Cx}
theorem Inv.comp {pins:List (Addr×Obj)}{σ:St}{H3:Hp}{s3:Shared}{M:List Str}{js:List (Option Nat)}{sc:Scope}{fp:List Addr}{h':Heap}{tk:Nat} (S:CompScope X M js sc) (I:Inv X pins σ H3 s3)
  (hf:∀ b∈fp,FpOk X pins H3 b) (hlt:∀ b∈fp,b < s3.heap.objs.size) (hn:h'.Ns s3.heap.objs.size fun _=>none) (hk:∀ b o,s3.heap.get? b=some o→h'.get? b=some o) :
  Inv (cxComp X M sc s3 H3 fp) [] (iniC js σ) H3 { s3 with heap:=h',toks:=tk }:=by
 have cl:∀ {x:Str}{c:Addr},(cellPairs X.env sc.names []).lookup x=some c→X.env.cells.lookup x=some c:=fun {x c} e=>by
  rcases cellPairs_get e with q | ⟨q,e'⟩
  ·cases q
  ·obtain ⟨c',hc⟩:=I.ok.has x (S.free x (List.mem_map.mpr ⟨(x,.free),List.mem_filter.mpr ⟨q,rfl⟩,rfl⟩))
   rw [hc] at e' ⊢
   rw [e'];rfl
 have bsz:X.base.objs.size≤s3.heap.objs.size:=Nat.le_trans I.ok.bsz I.sz
 have lk:∀ {x:Str},sc.names.lookup x=some .free→(relabel sc X.env).names.lookup x=some .cell∨(relabel sc X.env).names.lookup x=some .free:=fun {x} e=>by
  have key:∀ (l:List (Str×NameKind)),l.lookup x=some .free→(l.map fun (n,k)=>if (k == NameKind.free&&X.env.scope.kind == .function&&X.env.kindOf n == some .cell) then (n,NameKind.cell) else (n,k)).lookup x=some .cell ∨
    (l.map fun (n,k)=>if (k == NameKind.free&&X.env.scope.kind == .function&&X.env.kindOf n == some .cell) then (n,NameKind.cell) else (n,k)).lookup x=some .free:=by
   intro l
   induction l with
   | nil=>intro e;cases e
   | cons p r ih=>
    obtain ⟨n,k⟩:=p
    intro e
    rw [List.lookup_cons] at e
    rw [List.map_cons]
    by_cases hx:(x == n)=true
    ·rw [hx] at e
     have e':k=.free:=Option.some.inj e
     subst e'
     dsimp only
     split
     ·left;rw [List.lookup_cons,hx]
     ·right;rw [List.lookup_cons,hx]
    ·rw [Bool.not_eq_true] at hx
     rw [hx] at e
     dsimp only
     split <;> (rw [List.lookup_cons,hx];exact ih e)
  exact key sc.names e
 have kf:∀ {x:Str},((relabel sc X.env).names.lookup x=some .cell∨(relabel sc X.env).names.lookup x=some .free)→(x,NameKind.free)∈sc.names:=fun {x} e=>by
  have key:∀ (l:List (Str×NameKind)),(∀ y∈l,y.2≠.cell)→((l.map fun (n,k)=>if (k == NameKind.free&&X.env.scope.kind == .function&&X.env.kindOf n == some .cell) then (n,NameKind.cell) else (n,k)).lookup x=some .cell ∨
    (l.map fun (n,k)=>if (k == NameKind.free&&X.env.scope.kind == .function&&X.env.kindOf n == some .cell) then (n,NameKind.cell) else (n,k)).lookup x=some .free)→(x,NameKind.free)∈l:=by
   intro l
   induction l with
   | nil=>intro _ e;rcases e with e | e <;> cases e
   | cons p r ih=>
    obtain ⟨n,k⟩:=p
    intro nc e
    rw [List.map_cons] at e
    by_cases hx:(x == n)=true
    ·have e0:=eq_of_beq hx
     subst e0
     have hkf:k=.free:=by
      dsimp only at e
      split at e
      ·rename_i hc
       have:=((Bool.and_eq_true _ _).mp ((Bool.and_eq_true _ _).mp hc).1).1
       cases k <;> first | rfl | exact absurd this (by decide)
      ·rw [List.lookup_cons,beq_self_eq_true] at e
       rcases e with e | e
       ·exact absurd (Option.some.inj e) (nc _ List.mem_cons_self)
       ·exact Option.some.inj e
     rw [hkf];exact List.mem_cons_self
    ·rw [Bool.not_eq_true] at hx
     refine List.mem_cons_of_mem _ (ih (fun y hy=>nc y (List.mem_cons_of_mem _ hy)) ?_)
     dsimp only at e
     split at e <;> (rw [List.lookup_cons,hx] at e;exact e)
  exact key sc.names S.nocell e
 refine ⟨⟨I.ok.mod,S.kind,I.ok.glob,I.ok.blt,Nat.le_refl _,fun x y c h1 h2=>I.ok.inj x y c (cl h1) (cl h2),fun x hx=>cellPairs_has (.inr (kf hx)),(fun x c h _=>by cases h),I.ok.hd,I.ok.frames,.inl rfl,fun b hb=>⟨Nat.ne_of_lt (hlt b hb),fun x c e=>(hf b hb).2.2.2.2.1 x c (cl e)⟩,
   I.bs,bsz,fun b o e hb=>?_,fun b hb hb'=>?_,I.stack,I.stkFree⟩,
  rfl,I.bare,Un.kept hk,⟨_,hn,fun i x v h1 h2 h3=>?_⟩,fun x c e=>?_,I.hok.fresh (Nat.le_refl _),fun x c e=>I.freeC x c (cl e),fun p hp=>absurd (show p∈([]:List (Addr×Obj)) from hp) (by simp),I.hok.kept hk,?_,I.hq⟩
 ·rcases (hf b hb).2.2.2.1 with z | z
  ·exact I.ok.noex b o e z
  ·exact absurd (Nat.lt_of_lt_of_le (Heap.lt_size e) (Nat.le_trans I.ok.bsz z)) (Nat.lt_irrefl _)
 ·rcases List.mem_cons.mp (I.stkSub b hb') with z | z
  ·exact (hf b hb).2.1 z
  ·exact (hf b hb).2.2.1 z
 ·have hlen:=capOk_len S.cap
  have hi:i < js.length:=by rw [hlen];exact (List.getElem?_eq_some_iff.mp h1).1
  unfold iniC at h2
  rw [List.getElem?_map,List.getElem?_eq_getElem hi,Option.map_some] at h2
  cases hj:js[i] with
  | none=>rw [hj] at h2;cases h2
  | some j=>
   rw [hj] at h2
   have h2':(σ[j]?).join=some v:=Option.some.inj h2
   obtain ⟨a,b⟩:=capOk_at S.cap h1 (by rw [List.getElem?_eq_getElem hi,hj])
   have hs:σ[j]? = some (some v):=by
    cases q:σ[j]? with
    | none=>rw [q] at h2';cases h2'
    | some z=>rw [q] at h2';rw [show z=some v from h2']
   have hfr:=S.free x (List.mem_map.mpr ⟨(x,.free),List.mem_filter.mpr ⟨PySem.mem_of_lookup b,rfl⟩,rfl⟩)
   obtain ⟨m,hm,hl⟩:=I.loc
   obtain ⟨u,ru,l⟩:=hl j x v a hs (hfr.elim (fun z=>.inr (.inl z)) fun z=>.inr (.inr z))
   refine ⟨u,ru,.inr ⟨lk b,?_⟩⟩
   rcases l with ⟨k,_⟩ | ⟨_,c,e,hc⟩
   ·rcases hfr with z | z <;> (rw [z] at k;cases k)
   ·obtain ⟨c',hc'⟩:=cellPairs_has (env:=X.env) (l:=sc.names) (cs:=[]) (x:=x) (.inr (PySem.mem_of_lookup b))
    have e':=cl hc'
    rw [e] at e'
    have e2:c=c':=Option.some.inj e'
    subst e2
    obtain ⟨o,ho,hd⟩:=hc
    exact ⟨c,hc',o,hk _ _ ho,hd⟩
 ·obtain ⟨v,o,ho,hd⟩:=I.cell x c (cl e)
  exact ⟨v,o,hk _ _ ho,hd⟩
 ·unfold iniC
  rw [List.length_map]
  exact capOk_len S.cap
theorem Inv.uncomp {pins pins':List (Addr×Obj)}{σ σ':St}{H3 H':Hp}{s3 s':Shared}{M:List Str}{sc:Scope}{fp:List Addr}{h':Heap} (I:Inv X pins σ H3 s3) (hf:∀ b∈fp,FpOk X pins H3 b)
  (J:Inv (cxComp X M sc s3 H3 fp) pins' σ' H' s') (hs:Heap.SameBut s3.heap.objs.size s'.heap h'):Inv X pins σ H' { s' with heap:=h' }:=by
 have B:Un (frs X.stack) fp H3 H' s3.heap s'.heap:=J.base
 have ne:∀ {b:Addr}{o:Obj},s3.heap.get? b=some o→b≠s3.heap.objs.size:=fun e=>Nat.ne_of_lt (Heap.lt_size e)
 have B':Un (frs X.stack) fp H3 H' s3.heap h':=⟨fun b o e n hb hx=>(hs.2 b (ne e)).trans (B.keep b o e n hb hx),fun b o e n hb hx=>let ⟨sl,q⟩:=B.slot b o e n hb hx;⟨sl,(hs.2 b (ne e)).trans q⟩,B.free,
  fun b o e hx=>let ⟨o',q⟩:=B.there b o e hx;⟨o',(hs.2 b (ne e)).trans q⟩,B.tups,B.frzs,B.tbls⟩
 have fr:H' s3.heap.objs.size=none:=J.free
 refine I.call' (s':={ s' with heap:=h' }) (ch:=fp) J.os B' (fun b u e=>?_) J.bare fun b hb=>⟨(hf b hb).2.2.2.1,(hf b hb).2.1,(hf b hb).2.2.2.2.1,(hf b hb).2.2.2.2.2⟩
 refine (J.hok b u e).stay (fun c v hc q=>(hs.2 c ?_).trans q) (fun _ q=>q) fun _ _ q=>q
 rintro rfl
 rcases hc with rfl | hc
 ·rw [fr] at e;cases e
 ·rw [fr] at hc;cases hc
theorem comp_block {tg iter elt:Expr}{ifs:List Expr}{sc:Scope}{pos:Pos}{M:List Str}{js:List (Option Nat)}{g:TG}{tt:TT}{te:TE}{pins:List (Addr×Obj)}{σ:St}{H2:Hp}{s2:Shared}{it:Addr}{fp:List Addr}
  {tn:Nat→Heap→Prop}{J:It}{Q:VK}{RR:Value→Addr→Result→Shared→Prop} (S:CompScope X M js sc) (hc:X.calm=true∨J.rg=true) (I2:Inv X pins σ H2 s2) (T:Turn X.prog X.w X.K tg J fp it tn) (st:tn 0 s2.heap) (hf:∀ b∈fp,FpOk X pins H2 b)
  (hb:∀ s3 H3 fp,PG (cxComp X M sc s3 H3 fp) tg g∧PTs (cxComp X M sc s3 H3 fp) ifs tt∧PE (cxComp X M sc s3 H3 fp) elt te)
  (h:∀ D,H2 D=none→∃ W:Nat→Nat→St→Hp→Prop,(∃ m,W 0 m (iniC js σ) (upd H2 D (.lst [])))∧∀ i m σ' H',W i m σ' H' →
   (J.stop i H'∧Q (.ref D) H')∨(J.go i H'∧∀ x H2,J.yld i H' x H2→g x σ' H2 fun σ3 H3=>tt σ3 H3 fun b H4=>
    if b=true then te σ3 H4 fun y H5=>∃ xs,H5 D=some (.lst xs)∧xs.length < sizeLine∧∃ m',m' < m∧W (i + 1) m' σ3 (upd H5 D (.lst (xs++[y])))
    else ∃ m',m' < m∧W (i + 1) m' σ3 H4))
  (hR:∀ D s3 H3 s' σ' H',Inv X pins σ H3 s3→(∀ b∈fp,FpOk X pins H3 b)→Inv (cxComp X M sc s3 H3 fp) [] σ' H' s'→Q (.ref D) H'→RR (.ref D) s3.heap.objs.size (.ok .next) s') :
  wpAny (model X.prog X.w) X.A (newList []) (fun acc s₃=>wpAny (model X.prog X.w) X.A (newFunctionEnv sc X.env.globals (cellPairs X.env sc.names []) [] X.env.qual none .none (some X.env)) (fun cenv s₄=>
   codeAny (model X.prog X.w) X.A (.compStart (.ListComp elt [⟨tg,iter,ifs,0⟩] sc pos) 0 (.ref it) acc { cenv with scope:=relabel sc X.env }) (RR acc cenv.locals) s₄) X.xe s₃) X.xe s2:=by
 have fresh2:H2 s2.heap.objs.size=none:=I2.hok.fresh (Nat.le_refl _)
 obtain ⟨W,⟨m0,w0⟩,turn⟩:=h _ fresh2
 have I3:Inv X pins σ (upd H2 s2.heap.objs.size (.lst [])) { s2 with heap:=s2.heap.push { cls:=.type "list",data:=.seq ([]:List Value).toArray } }:=
  I2.laid (t':=s2.toks) (fun _ _ q=>Heap.get?_push_of_some _ q) (Nat.le_refl _) ⟨Nat.zero_le _,[],0,.nil,Heap.get?_push_size _ rfl⟩
 have fpl:∀ b∈fp,b < s2.heap.objs.size:=fun b hb=>let ⟨_,e,_⟩:=T.obj _ _ st b hb;Heap.lt_size e
 have hf3:∀ b∈fp,FpOk X pins (upd H2 s2.heap.objs.size (.lst [])) b:=fun b hb=>⟨by rw [upd_ne (Nat.ne_of_lt (fpl b hb))];exact (hf b hb).1,(hf b hb).2⟩
 have hsz:(s2.heap.push { cls:=.type "list",data:=.seq ([]:List Value).toArray }).objs.size=s2.heap.objs.size + 1:=Heap.size_push ..
 refine wpAny_newObj_type (wpAny_newFunctionEnv S.nocell (fun y hy=>nomatch hy) (fun h1 hn1 hs1=>?_) S.kind)
 generalize hs3:({ s2 with heap:=s2.heap.push { cls:=.type "list",dict:=none,data:=.seq ([]:List Value).toArray } }:Shared)=s3 at *
 have hk1:∀ b o,s3.heap.get? b=some o→h1.get? b=some o:=fun b o e=>(hs1.2 b (Nat.ne_of_lt (Heap.lt_size e))).trans (Heap.get?_push_of_some _ e)
 have lt3:∀ b∈fp,b < s3.heap.objs.size:=fun b hb=>by rw [← hs3];show b < (s2.heap.push _).objs.size;rw [hsz];exact Nat.lt_succ_of_lt (fpl b hb)
 have I4:Inv (cxComp X M sc s3 (upd H2 s2.heap.objs.size (.lst [])) fp) [] (iniC js σ) (upd H2 s2.heap.objs.size (.lst [])) { s3 with heap:=h1,toks:=s3.toks + ([]:List (Str×Value)).length }:=I3.comp S hf3 lt3 hn1 hk1
 obtain ⟨hg,ht,he⟩:=hb s3 (upd H2 s2.heap.objs.size (.lst [])) fp
 have stat:∀ {H':Hp},(∀ b∈fp,H' b=none)→∀ b∈fp,FpOk (cxComp X M sc s3 (upd H2 s2.heap.objs.size (.lst [])) fp) [] H' b:=fun {H'} hn b hb=>
  ⟨hn b hb,Nat.ne_of_lt (lt3 b hb),I4.ok.exfs b hb,.inl hb,(I4.ok.exf b hb).2,fun p hp=>absurd (show p∈([]:List (Addr×Obj)) from hp) (by simp)⟩
 have st4:tn 0 h1:=T.keep _ _ _ st fun b hb o e=>hk1 b o (by rw [← hs3];exact Heap.get?_push_of_some _ e)
 have fr4:∀ b∈fp,upd H2 s2.heap.objs.size (.lst []) b=none:=fun b hb=>(hf3 b hb).1
 have loop:codeAny (model X.prog X.w) X.A (.compLoop (.ListComp elt [⟨tg,iter,ifs,0⟩] sc pos) 0 (.ref it) (.ref s2.heap.objs.size) (compEnvC sc (cellPairs X.env sc.names []) s3.heap.objs.size X.env)) (RR (.ref s2.heap.objs.size) s3.heap.objs.size)
   { s3 with heap:=h1,toks:=s3.toks + ([]:List (Str×Value)).length }:=by
  refine comp_loop (fun n s'=>∃ i σ' H',Inv (cxComp X M sc s3 (upd H2 s2.heap.objs.size (.lst [])) fp) [] σ' H' s'∧tn i s'.heap∧(∀ b∈fp,H' b=none)∧W i n σ' H') ?_ m0 ⟨0,_,_,I4,st4,fr4,w0⟩
  rintro n s5 ⟨i,σ5,H5,I5,st5,fr5,w5⟩
  rcases turn i n σ5 H5 w5 with ⟨stop,q⟩ | ⟨go,step⟩
  ·refine thn (T.done (cxComp X M sc s3 (upd H2 s2.heap.objs.size (.lst [])) fp) rfl rfl rfl hc i [] s5 σ5 H5 _ I5 (stat fr5) st5 stop) fun r s6 ⟨hr,I6⟩=>?_
   subst hr
   exact hR _ _ _ _ _ _ I3 hf3 I6 q
  ·refine thn (T.item (cxComp X M sc s3 (upd H2 s2.heap.objs.size (.lst [])) fp) rfl rfl rfl hc i [] s5 σ5 H5 _ I5 (stat fr5) st5 go) fun r s6 ⟨u,hr,h6⟩=>?_
   subst hr
   refine thn h6 fun _ s7 ⟨x,H7,I7,r7,y7,st7,fr7⟩=>?_
   have I7':=I7.pinned (stat fr7) (T.obj _ _ st7)
   have back:∀ {σ8:St}{H8:Hp}{s8:Shared},Inv (cxComp X M sc s3 (upd H2 s2.heap.objs.size (.lst [])) fp) ([]++pinsAt fp s7.heap) σ8 H8 s8→tn (i + 1) s8.heap∧(∀ b∈fp,H8 b=none):=fun {σ8 H8 s8} I8=>
    ⟨T.keep _ _ _ st7 fun b hb o e=>(I8.pin (b,o) (List.mem_append_right _ (List.mem_append_right _ (mem_pinsAt hb e)))).1,fun b hb=>by
     obtain ⟨o,e,_⟩:=T.obj _ _ st7 b hb
     exact (I8.pin (b,o) (List.mem_append_right _ (List.mem_append_right _ (mem_pinsAt hb e)))).2.1⟩
   refine thn (hg _ s7 σ5 H7 x u _ I7' r7 (step x H7 y7)) fun _ s8 ⟨σ8,H8,I8,q8⟩=>?_
   refine thn (ht _ s8 σ8 H8 _ I8 q8) fun ok s9 ⟨H9,I9,q9⟩=>?_
   cases ok with
   | false=>
    rw [if_neg Bool.false_ne_true] at q9 ⊢
    obtain ⟨m',hm,w9⟩:=q9
    obtain ⟨a9,b9⟩:=back I9
    exact ⟨m',hm,i + 1,σ8,H9,I9.unpinned,a9,b9,w9⟩
   | true=>
    rw [if_pos rfl] at q9 ⊢
    refine thn (he _ s9 σ8 H9 _ I9 q9) fun y s10 ⟨yv,H10,I10,r10,xs,hD,hz,m',hm,w10⟩=>?_
    refine thn (mt_append _ s10 σ8 H10 (.ref s2.heap.objs.size) [yv] (.ref s2.heap.objs.size) [y] (fun v H11=>v=.non∧H11=upd H10 s2.heap.objs.size (.lst (xs++[yv]))) I10 rfl (.cons r10 .nil) ⟨_,xs,yv,rfl,rfl,hD,hz,rfl,rfl⟩) fun _ s11 ⟨v11,H11,I11,_,_,e11⟩=>?_
    subst e11
    obtain ⟨a9,b9⟩:=back I11
    exact ⟨m',hm,i + 1,σ8,_,I11.unpinned,a9,b9,w10⟩
 exact codeAny_compStart_list loop (T.self _ 0 _ _ _ st4 loop)
theorem pe_comp {tg iter elt:Expr}{ifs:List Expr}{sc:Scope}{pos:Pos}{M:List Str}{js:List (Option Nat)}{wi:TI}{g:TG}{tt:TT}{te:TE} (S:CompScope X M js sc) (hc:X.calm=true) (hi:PI X tg iter wi)
  (hb:∀ s3 H3 fp,PG (cxComp X M sc s3 H3 fp) tg g∧PTs (cxComp X M sc s3 H3 fp) ifs tt∧PE (cxComp X M sc s3 H3 fp) elt te) (hs:∀ x,foldedSetIterable iter X.env x=pure x:=by intro _;rfl) :
  PE X (.ListComp elt [⟨tg,iter,ifs,0⟩] sc pos) (tComp wi js g tt te):=by
 intro pins s σ H Q I h
 rw [eval_ListComp]
 refine wpAny_comprehension_free (use:=none) rfl hs (clos_of fun x hx=>I.ok.has x (S.free x hx)) S.kind S.loc ?_
 show wpAny (model X.prog X.w) X.A (eval iter X.env) _ _ s
 refine thn (hi pins s σ H _ I h) fun v s1 h1=>thn h1 fun itv s2 ⟨it,fp,tn,J,H2,e,I2,T,st2,f2,h2⟩=>?_
 subst e
 refine comp_block (RR:=fun acc C=>compPost (model X.prog X.w) X.A X.xe none (EP X pins σ Q) acc C) S (.inl hc) I2 T st2 f2 hb h2 fun D s3 H3 s' σ' H' I3 f3 J' q=>?_
 obtain ⟨m,hm,_⟩:=J'.loc
 exact ⟨m,hm,fun h' hs'=>⟨.ref D,H',I3.uncomp f3 J' hs',rfl,q⟩⟩
theorem ps_setC {i:Nat}{y:Str}{tg iter elt:Expr}{ifs:List Expr}{sc:Scope}{pos py spos:Pos}{M:List Str}{js:List (Option Nat)}{wi:TI}{g:TG}{tt:TT}{te:TE} (hN:X.N.Nodup) (hy:X.N[i]? = some y) (hl:X.env.scope.names.lookup y=some .local)
  (S:CompScope X M js sc) (hc:X.calm=true) (hi:PI X tg iter wi) (hb:∀ s3 H3 fp,PG (cxComp X M sc s3 H3 fp) tg g∧PTs (cxComp X M sc s3 H3 fp) ifs tt∧PE (cxComp X M sc s3 H3 fp) elt te)
  (hsw:swapsWith (.ListComp elt [⟨tg,iter,ifs,0⟩] sc pos) (some (.Name y py)) spos.line X.env=pure true:=by rfl) (hs:∀ x,foldedSetIterable iter X.env x=pure x:=by intro _;rfl) :
  PS X (.Assign [.Name y py] (.ListComp elt [⟨tg,iter,ifs,0⟩] sc pos) spos) (tAsg (tComp wi js g tt te) (gName i)):=by
 intro pins s σ H D I h
 rw [exec_Assign_Name_used _ _ _ _ hsw]
 refine wpAny_bind (wpAny_standAt (wpAny_bind ?_))
 show wpAny (model X.prog X.w) X.A (do let _ ← comprehension (.ListComp elt [⟨tg,iter,ifs,0⟩] sc pos) sc X.env _ (newList []) false (eval iter X.env) (some (assign (.Name y py) X.env))) _ _ s
 refine wpAny_bind (wpAny_mono (wpAny_comprehension_free (use:=some (assign (.Name y py) X.env)) (Q:=fun _ s'=>SP X pins D .next s') rfl hs (clos_of fun x hx=>I.ok.has x (S.free x hx)) S.kind S.loc ?_) (fun _ s' q=>wpAny_pure (wpAny_pure q)) fun _ _ e=>e)
 refine thn (hi pins s σ H _ I h) fun v s1 h1=>thn h1 fun itv s2 ⟨it,fp,tn,J,H2,e,I2,T,st2,f2,h2⟩=>?_
 subst e
 refine comp_block (Q:=fun x H1=>gName i x σ H1 D.nx) (RR:=fun acc C=>compPost (model X.prog X.w) X.A X.xe (some (assign (.Name y py) X.env)) (fun _ s'=>SP X pins D .next s') acc C) S (.inl hc) I2 T st2 f2 hb h2 fun Da s3 H3 s' σ' H' I3 f3 J' q=>?_
 have sb:Heap.SameBut s3.heap.objs.size s'.heap s'.heap:=⟨rfl,fun _ _=>rfl⟩
 have I5:Inv X pins σ H' s':=I3.uncomp f3 J' sb
 obtain ⟨m,hm,_⟩:=J'.loc
 have ne:X.env.locals≠s3.heap.objs.size:=Nat.ne_of_lt I3.lt
 show wpAny (model X.prog X.w) X.A (assign (.Name y py) X.env (.ref Da)) _ _ s'
 refine wpAny_assign_Name (store_ok2 I5 hN hy (.inl hl) (show RelV (.ref Da) (.ref Da) from rfl) (fun s6 I6 ⟨a,hsb,ha⟩=>?_) (.inr hl))
 have cne:∀ x c,X.env.cells.lookup x=some c→c≠s3.heap.objs.size:=fun x c e=>by
  obtain ⟨v',hv'⟩:=I3.cell x c e
  exact Nat.ne_of_lt hv'.lt
 have na:a≠s3.heap.objs.size:=ha.elim (fun e=>by rw [e];exact ne) fun z=>cne y a z
 refine ⟨m,hm.sameBut hsb (Ne.symm na),fun h' hs'=>⟨_,H',I6.turned (it:=s3.heap.objs.size) (t':=s6.toks) (fun b o hb e=>(hs'.2 b hb).trans e) J'.free (Ne.symm ne) (.inr I3.sz) cne (fun p hp=>?_),q⟩⟩
 exact Nat.ne_of_lt (Heap.lt_size (I3.pin p hp).1)
end
end L2
namespace L2.Ev
open PySem PySem.Spec PyProof.Rows
abbrev XN:=Str×Option Nat
inductive D where
 | non | bl (b:Bool) | int (i:Int) | str (x:Str) | tup (ds:List D) | lst (ds:List D) | fls (ds:List D) | dic (kvs:List (Key×D)) | dit (kvs:List (List Key×D)) | ins (cn:Str) (fs:List (Str×D)) | exc (cn:XN)
def Frz (K:PySem.W.Frag) (H:Hp) (a:Addr) (xs:List V):Prop:=(∃ o,H a=some (.frz o (.lst xs))) ∨
 ∃ (o:Obj) (its:Array Value) (n:Nat),K.lookup a=some o∧o.cls=.type "list"∧o.dict=none∧o.data=.seq its n∧its.size≤sizeLine∧Vals xs its.toList
theorem Frz.sq {K:PySem.W.Frag}{H:Hp}{a:Addr}{xs:List V} (h:Frz K H a xs):SqL K H a xs:=h.elim (fun z=>.inl (.inr z)) .inr
mutual
inductive Rep (K:PySem.W.Frag) (H:Hp):D→V→List Addr→Prop
 | non:Rep K H .non .non []
 | bl (b:Bool):Rep K H (.bl b) (.bl b) []
 | int (i:Int):Rep K H (.int i) (.int i) []
 | str (x:Str):Rep K H (.str x) (.str x) []
 | tup {a:Addr}{xs:List V}{ds:List D}{fp:List Addr}:SqT K H a xs→Reps K H ds xs fp→Rep K H (.tup ds) (.ref a) fp
 | lst {a:Addr}{xs:List V}{ds:List D}{fp:List Addr}:H a=some (.lst xs)→Reps K H ds xs fp→Rep K H (.lst ds) (.ref a) (a::fp)
 | lsf {a:Addr}{xs:List V}{ds:List D}{fp:List Addr}:Frz K H a xs→Reps K H ds xs fp→Rep K H (.fls ds) (.ref a) fp
 | dic {a:Addr}{kvs:List (Key×V)}{es:List (Key×D)}{fp:List Addr}:H a=some (.dK kvs)→es.map (·.1)=kvs.map (·.1)→Reps K H (es.map (·.2)) (kvs.map (·.2)) fp→Rep K H (.dic es) (.ref a) (a::fp)
 | dit {a:Addr}{kvs:List (List Key×V)}{es:List (List Key×D)}{fp:List Addr}:H a=some (.dT kvs)→es.map (·.1)=kvs.map (·.1)→Reps K H (es.map (·.2)) (kvs.map (·.2)) fp→Rep K H (.dit es) (.ref a) (a::fp)
 | ins {cn:Str}{a C dx:Addr}{fs:List (Str×V)}{es:List (Str×D)}{fp:List Addr}:PySem.W.nsIn K mainGlobals cn=some (some (.ref C))→H a=some (.ins C dx fs)→H dx=some (.own a)→es.map (·.1)=fs.map (·.1)→Reps K H (es.map (·.2)) (fs.map (·.2)) fp→Rep K H (.ins cn es) (.ref a) (a::dx::fp)
 | exc {cn:XN}{a C:Addr}{de:Option Addr}{ob:Obj}:PySem.W.nsIn K mainGlobals cn.1=some (some (.ref C))→H a=some (ExcF ob a (.ref C) de)→(∀ n,cn.2=some n→∃ dx,de=some dx∧H dx=some (XdO dx n))→Rep K H (.exc cn) (.ref a) []
inductive Reps (K:PySem.W.Frag) (H:Hp):List D→List V→List Addr→Prop
 | nil:Reps K H [] [] []
 | cons {d:D}{v:V}{ds:List D}{vs:List V}{f1 f2:List Addr}:Rep K H d v f1→Reps K H ds vs f2→Reps K H (d::ds) (v::vs) (f1++f2)
end
def Imm (H H':Hp):Prop:=(∀ a xs,H a=some (.tup xs)→H' a=some (.tup xs))∧(∀ a o u,H a=some (.frz o u)→H' a=some (.frz o u))∧∀ a φ,H a=some (.ext φ)→H' a=some (.ext φ)
theorem Imm.sqt {K:PySem.W.Frag}{H H':Hp}{a:Addr}{xs:List V} (i:Imm H H') (h:SqT K H a xs):SqT K H' a xs:=by
 rcases h with (h | ⟨o,h⟩) | h
 ·exact .inl (.inl (i.1 _ _ h))
 ·exact .inl (.inr ⟨o,i.2.1 _ _ _ h⟩)
 ·exact .inr h
theorem Imm.frz {K:PySem.W.Frag}{H H':Hp}{a:Addr}{xs:List V} (i:Imm H H') (h:Frz K H a xs):Frz K H' a xs:=by
 rcases h with ⟨o,h⟩ | h
 ·exact .inl ⟨o,i.2.1 _ _ _ h⟩
 ·exact .inr h
theorem Imm.of {H H':Hp} (h:Same H H'):Imm H H':=⟨fun _ _ e=>h _ _ e,fun _ _ _ e=>h _ _ e,fun _ _ e=>h _ _ e⟩
def MutO:HO→Bool
 | .lst _ | .dK _ | .dT _ | .ins _ _ _ | .own _=>true
 | _=>false
theorem Imm.upd {H:Hp}{p:Addr}{o o':HO} (h:H p=some o) (m:MutO o=true):Imm H (upd H p o'):=by
 refine ⟨fun a xs e=>?_,fun a q u e=>?_,fun a q e=>?_⟩
 ·rw [upd_ne]
  ·exact e
  ·rintro rfl;rw [h] at e;cases e;cases m
 ·rw [upd_ne]
  ·exact e
  ·rintro rfl;rw [h] at e;cases e;cases m
 ·rw [upd_ne]
  ·exact e
  ·rintro rfl;rw [h] at e;cases e;cases m
section
variable {K:PySem.W.Frag}{H H':Hp}
mutual
theorem Rep.frame:∀ {d:D}{v:V}{fp:List Addr},Rep K H d v fp→(∀ a∈fp,H' a=H a)→Imm H H'→Rep K H' d v fp
 | _,_,_,.non,_,_=>.non
 | _,_,_,.bl b,_,_=>.bl b
 | _,_,_,.int i,_,_=>.int i
 | _,_,_,.str x,_,_=>.str x
 | _,_,_,.tup h r,k,i=>.tup (i.sqt h) (Reps.frame r k i)
 | _,_,_,.lst h r,k,i=>.lst ((k _ List.mem_cons_self).trans h) (Reps.frame r (fun a m=>k a (List.mem_cons_of_mem _ m)) i)
 | _,_,_,.lsf h r,k,i=>.lsf (i.frz h) (Reps.frame r k i)
 | _,_,_,.dic h e r,k,i=>.dic ((k _ List.mem_cons_self).trans h) e (Reps.frame r (fun a m=>k a (List.mem_cons_of_mem _ m)) i)
 | _,_,_,.dit h e r,k,i=>.dit ((k _ List.mem_cons_self).trans h) e (Reps.frame r (fun a m=>k a (List.mem_cons_of_mem _ m)) i)
 | _,_,_,.exc g h p,k,i=>.exc g (i.2.1 _ _ _ h) fun n e=>let ⟨dx,q,z⟩:=p n e;⟨dx,q,i.2.2 _ _ z⟩
 | _,_,_,.ins g h h2 e r,k,i=>.ins g ((k _ List.mem_cons_self).trans h) ((k _ (List.mem_cons_of_mem _ List.mem_cons_self)).trans h2) e (Reps.frame r (fun a m=>k a (List.mem_cons_of_mem _ (List.mem_cons_of_mem _ m))) i)
theorem Reps.frame:∀ {ds:List D}{vs:List V}{fp:List Addr},Reps K H ds vs fp→(∀ a∈fp,H' a=H a)→Imm H H'→Reps K H' ds vs fp
 | _,_,_,.nil,_,_=>.nil
 | _,_,_,.cons h t,k,i=>.cons (Rep.frame h (fun a m=>k a (List.mem_append_left _ m)) i) (Reps.frame t (fun a m=>k a (List.mem_append_right _ m)) i)
end
mutual
theorem Rep.dom:∀ {d:D}{v:V}{fp:List Addr},Rep K H d v fp→∀ a∈fp,∃ o,H a=some o∧MutO o=true
 | _,_,_,.non,_,m=>nomatch m
 | _,_,_,.bl b,_,m=>nomatch m
 | _,_,_,.int i,_,m=>nomatch m
 | _,_,_,.str x,_,m=>nomatch m
 | _,_,_,.tup h r,a,m=>Reps.dom r a m
 | _,_,_,.lst h r,a,m=>(List.mem_cons.mp m).elim (fun e=>⟨_,e ▸ h,rfl⟩) fun m=>Reps.dom r a m
 | _,_,_,.lsf h r,a,m=>Reps.dom r a m
 | _,_,_,.dic h e r,a,m=>(List.mem_cons.mp m).elim (fun e=>⟨_,e ▸ h,rfl⟩) fun m=>Reps.dom r a m
 | _,_,_,.dit h e r,a,m=>(List.mem_cons.mp m).elim (fun e=>⟨_,e ▸ h,rfl⟩) fun m=>Reps.dom r a m
 | _,_,_,.exc _ _ _,_,m=>nomatch m
 | _,_,_,.ins _ h h2 e r,a,m=>(List.mem_cons.mp m).elim (fun e=>⟨_,e ▸ h,rfl⟩) fun m=>(List.mem_cons.mp m).elim (fun e=>⟨_,e ▸ h2,rfl⟩) fun m=>Reps.dom r a m
theorem Reps.dom:∀ {ds:List D}{vs:List V}{fp:List Addr},Reps K H ds vs fp→∀ a∈fp,∃ o,H a=some o∧MutO o=true
 | _,_,_,.nil,_,m=>nomatch m
 | _,_,_,.cons h t,a,m=>(List.mem_append.mp m).elim (Rep.dom h a) (Reps.dom t a)
end
theorem Rep.same {d:D}{v:V}{fp:List Addr} (h:Rep K H d v fp) (s:Same H H'):Rep K H' d v fp:=
 h.frame (fun a m=>let ⟨o,e,_⟩:=h.dom a m;(s a o e).trans e.symm) (.of s)
theorem Reps.same {ds:List D}{vs:List V}{fp:List Addr} (h:Reps K H ds vs fp) (s:Same H H'):Reps K H' ds vs fp:=
 h.frame (fun a m=>let ⟨o,e,_⟩:=h.dom a m;(s a o e).trans e.symm) (.of s)
theorem Reps.length:∀ {ds:List D}{vs:List V}{fp:List Addr},Reps K H ds vs fp→ds.length=vs.length
 | _,_,_,.nil=>rfl
 | _,_,_,.cons _ t=>by rw [List.length_cons,List.length_cons,Reps.length t]
theorem Reps.get:∀ {ds:List D}{vs:List V}{fp:List Addr}{i:Nat}{d:D},Reps K H ds vs fp→ds[i]? = some d→∃ v f,vs[i]? = some v∧Rep K H d v f∧∀ a∈f,a∈fp
 | _,_,_,_,_,.nil,e=>by simp at e
 | _,_,_,0,_,.cons h t,e=>by
  have e':=Option.some.inj e
  subst e'
  exact ⟨_,_,rfl,h,fun a m=>List.mem_append_left _ m⟩
 | _,_,_,i + 1,d,.cons h t,e=>by
  obtain ⟨v,f,e1,r,s⟩:=Reps.get (i:=i) (d:=d) t (by simpa using e)
  exact ⟨v,f,by simpa using e1,r,fun a m=>List.mem_append_right _ (s a m)⟩
theorem Reps.append:∀ {ds es:List D}{vs ws:List V}{f g:List Addr},Reps K H ds vs f→Reps K H es ws g→Reps K H (ds++es) (vs++ws) (f++g)
 | _,_,_,_,_,_,.nil,s=>s
 | _,_,_,_,_,g,.cons h t,s=>by
  rw [List.append_assoc]
  exact .cons h (Reps.append t s)
end
theorem Rep.int_of {K:PySem.W.Frag}{H:Hp}{i:Int}{v:V}{fp:List Addr} (r:Rep K H (.int i) v fp):v=.int i∧fp=[]:=by cases r;exact ⟨rfl,rfl⟩
theorem Rep.bl_of {K:PySem.W.Frag}{H:Hp}{i:Bool}{v:V}{fp:List Addr} (r:Rep K H (.bl i) v fp):v=.bl i∧fp=[]:=by cases r;exact ⟨rfl,rfl⟩
theorem Rep.str_of {K:PySem.W.Frag}{H:Hp}{i:Str}{v:V}{fp:List Addr} (r:Rep K H (.str i) v fp):v=.str i∧fp=[]:=by cases r;exact ⟨rfl,rfl⟩
theorem Rep.non_of {K:PySem.W.Frag}{H:Hp}{v:V}{fp:List Addr} (r:Rep K H .non v fp):v=.non∧fp=[]:=by cases r;exact ⟨rfl,rfl⟩
mutual
def imm:D→Bool
 | .lst _ | .dic _ | .dit _ | .ins _ _=>false
 | .tup ds=>immAll ds
 | .fls ds=>immAll ds
 | _=>true
def immAll:List D→Bool
 | []=>true
 | d::ds=>imm d&&immAll ds
end
section
variable {K:PySem.W.Frag}{H H':Hp}
mutual
theorem Rep.imm:∀ {d:D}{v:V}{fp:List Addr},Rep K H d v fp→imm d=true→fp=[]
 | _,_,_,.non,_=>rfl
 | _,_,_,.bl _,_=>rfl
 | _,_,_,.int _,_=>rfl
 | _,_,_,.str _,_=>rfl
 | _,_,_,.tup _ r,e=>Reps.imm r (by unfold L2.Ev.imm at e;exact e)
 | _,_,_,.lst _ _,e=>by unfold L2.Ev.imm at e;cases e
 | _,_,_,.lsf _ r,e=>by unfold L2.Ev.imm at e;exact Reps.imm r e
 | _,_,_,.dic _ _ _,e=>by unfold L2.Ev.imm at e;cases e
 | _,_,_,.dit _ _ _,e=>by unfold L2.Ev.imm at e;cases e
 | _,_,_,.ins _ _ _ _ _,e=>by unfold L2.Ev.imm at e;cases e
 | _,_,_,.exc _ _ _,_=>rfl
theorem Reps.imm:∀ {ds:List D}{vs:List V}{fp:List Addr},Reps K H ds vs fp→immAll ds=true→fp=[]
 | _,_,_,.nil,_=>rfl
 | _,_,_,.cons h t,e=>by
  unfold immAll at e
  obtain ⟨a,b⟩:=(Bool.and_eq_true _ _).mp e
  rw [Rep.imm h a,Reps.imm t b]
  rfl
end
end
inductive Tag where
 | own | lk | sh (o:List Nat)
abbrev Slot:=Option (D×Tag)
abbrev Rho:=List Slot
def InZ (z:Addr→Option Nat) (i:Nat):Tag→List Addr→Prop
 | .sh o,fp=>∀ a∈fp,∀ j,z a=some j→j∈o
 | _,fp=>fp.Nodup∧∀ a∈fp,z a=some i
def NoOwn (ρ:Rho) (j:Nat):Prop:=∀ d,ρ[j]?≠some (some (d,.own))
structure Held where
 d:D
 v:V
 fp:List Addr
 z0:Addr→Option Nat
structure Ok (K:PySem.W.Frag) (H0:Hp) (S:List Addr) (z:Addr→Option Nat) (held:List Held) (ρ:Rho) (σ:St) (H:Hp):Prop where
 sl:∀ i d t,ρ[i]? = some (some (d,t))→∃ v fp,σ[i]? = some (some v)∧Rep K H d v fp∧InZ z i t fp
 hl:∀ p∈held,Rep K H p.d p.v p.fp∧∀ a∈p.fp,∀ j,z a=some j→p.z0 a=some j∧NoOwn ρ j
 zd:∀ a j,z a=some j→(∃ o,H a=some o)∧(H0 a=none∨a∈S)
 en:∀ a o,H0 a=some o→a∉S→H a=some o
 ln:ρ.length=σ.length
theorem Ok.same {K:PySem.W.Frag}{H0:Hp}{S:List Addr}{z:Addr→Option Nat}{held:List Held}{ρ:Rho}{σ:St}{H H':Hp} (h:Ok K H0 S z held ρ σ H) (s:Same H H'):Ok K H0 S z held ρ σ H':=
 ⟨fun i d t e=>let ⟨v,fp,a,b,c⟩:=h.sl i d t e;⟨v,fp,a,b.same s,c⟩,fun p m=>let ⟨a,b⟩:=h.hl p m;⟨a.same s,b⟩,
  fun a j e=>let ⟨⟨o,x⟩,y⟩:=h.zd a j e;⟨⟨o,s _ _ x⟩,y⟩,fun a o e n=>s _ _ (h.en a o e n),h.ln⟩
def TagOk (z:Addr→Option Nat) (H:Hp):Tag→List Addr→Prop
 | .sh o,fp=>∀ a∈fp,∀ j,z a=some j→j∈o
 | _,fp=>fp.Nodup∧∀ a∈fp,H a=none
theorem TagOk.nil {z:Addr→Option Nat}{H:Hp}{t:Tag}:TagOk z H t []:=by
 cases t with
 | sh o=>intro a m;cases m
 | own=>exact ⟨List.nodup_nil,fun a m=>nomatch m⟩
 | lk=>exact ⟨List.nodup_nil,fun a m=>nomatch m⟩
abbrev EF:=Rho→Option (D×Tag)
def FP (X:Cx) (e:Expr) (f:EF):Prop:=∃ t,PE X e t∧∀ (H0:Hp) (S:List Addr) (z:Addr→Option Nat) (held:List Held) (ρ:Rho) (σ:St) (H:Hp) (Q:VK) (d:D) (tg:Tag),
 Ok X.K H0 S z held ρ σ H→f ρ=some (d,tg)→(∀ H' v fp,Same H H'→Rep X.K H' d v fp→TagOk z H tg fp→Q v H')→t σ H Q
abbrev AF:=Rho→Option (List (D×Tag))
abbrev TF:=Rho→Option Bool
def FT (X:Cx) (e:Expr) (f:TF):Prop:=∃ t,PT X e t∧∀ (H0:Hp) (S:List Addr) (z:Addr→Option Nat) (held:List Held) (ρ:Rho) (σ:St) (H:Hp) (Q:Bool→Hp→Prop) (b:Bool),
 Ok X.K H0 S z held ρ σ H→f ρ=some b→(∀ H',Same H H'→Q b H')→t σ H Q
def tagOf (i:Nat):Tag→Tag
 | .sh o=>.sh o
 | _=>.sh [i]
def eVar (i:Nat):EF:=fun ρ=>match ρ[i]? with
 | some (some (d,t))=>some (d,tagOf i t)
 | _=>none
section
variable {X:Cx}
theorem fp_var (i:Nat) {x:Str}{pos:Pos} (hN:X.N[i]? = some x:=by rfl) (hv:Vis X.env.scope x:=by first | exact Or.inl rfl | exact Or.inr (Or.inl rfl) | exact Or.inr (Or.inr rfl)) (hd:(x == ("__debug__":Str))=false:=by decide)
  (hcd:(x == ("__classdict__":Str))=false:=by decide):FP X (.Name x pos) (eVar i):=by
 refine ⟨_,pe_var (i:=i) hN hv hd hcd,fun H0 S z held ρ σ H Q d tg ok e q=>?_⟩
 unfold eVar at e
 cases h:ρ[i]? with
 | none=>rw [h] at e;cases e
 | some s=>
  cases s with
  | none=>rw [h] at e;cases e
  | some p=>
   obtain ⟨d',t⟩:=p
   rw [h] at e
   have e':=Option.some.inj e
   have e1:d'=d:=congrArg Prod.fst e'
   have e2:tagOf i t=tg:=congrArg Prod.snd e'
   subst e1 e2
   obtain ⟨v,fp,hs,r,zz⟩:=ok.sl i d' t h
   refine ⟨v,hs,q H v fp (Same.refl H) r ?_⟩
   cases t with
   | sh o=>exact zz
   | own=>intro a m j ej;rw [zz.2 a m] at ej;cases ej;exact List.mem_cons_self
   | lk=>intro a m j ej;rw [zz.2 a m] at ej;cases ej;exact List.mem_cons_self
def eC (d:D):EF:=fun _=>some (d,.own)
theorem fp_int {i j pos}:FP X (.Constant (.int i) j pos) (eC (.int i)):=⟨_,pe_int,fun _ _ _ _ _ _ H _ _ _ _ e q=>by cases e;exact q H _ _ (Same.refl H) (.int i) .nil⟩
theorem fp_bl {b j pos}:FP X (.Constant (.bool b) j pos) (eC (.bl b)):=⟨_,pe_bl,fun _ _ _ _ _ _ H _ _ _ _ e q=>by cases e;exact q H _ _ (Same.refl H) (.bl b) .nil⟩
theorem fp_str {x j pos}:FP X (.Constant (.str x) j pos) (eC (.str x)):=⟨_,pe_str,fun _ _ _ _ _ _ H _ _ _ _ e q=>by cases e;exact q H _ _ (Same.refl H) (.str x) .nil⟩
def e2 (op:D→D→Option D) (fa fb:EF):EF:=fun ρ=>match fa ρ,fb ρ with
 | some (d1,_),some (d2,_)=>(op d1 d2).map fun d=>(d,.own)
 | _,_=>none
theorem e2_of {op:D→D→Option D}{fa fb:EF}{ρ:Rho}{d:D}{tg:Tag} (e:e2 op fa fb ρ=some (d,tg)):∃ d1 t1 d2 t2,fa ρ=some (d1,t1)∧fb ρ=some (d2,t2)∧op d1 d2=some d∧tg=.own:=by
 unfold e2 at e
 cases h1:fa ρ with
 | none=>rw [h1] at e;cases e
 | some p=>
  obtain ⟨d1,t1⟩:=p
  cases h2:fb ρ with
  | none=>rw [h1,h2] at e;cases e
  | some p=>
   obtain ⟨d2,t2⟩:=p
   rw [h1,h2] at e
   dsimp only at e
   cases h3:op d1 d2 with
   | none=>rw [h3] at e;cases e
   | some d3=>
    rw [h3] at e
    cases e
    exact ⟨d1,t1,d2,t2,rfl,rfl,h3,rfl⟩
def Does2 (K:PySem.W.Frag) (r:R2) (op:D→D→Option D):Prop:=∀ (H:Hp) (x y:V) (d1 d2:D) (f1 f2:List Addr) (d:D) (Q:VK),Rep K H d1 x f1→Rep K H d2 y f2→op d1 d2=some d →
 (∀ H' v,Same H H'→Rep K H' d v []→Q v H')→r x y H Q
theorem fp_2 {a b e:Expr}{fa fb:EF}{r:R2}{op:D→D→Option D} (dd:Does2 X.K r op) (ha:FP X a fa) (hb:FP X b fb) (he:∀ ta tb,PE X a ta→PE X b tb→PE X e (tOp r ta tb)):FP X e (e2 op fa fb):=by
 obtain ⟨ta,pa,sa⟩:=ha
 obtain ⟨tb,pb,sb⟩:=hb
 refine ⟨_,he ta tb pa pb,fun H0 S z held ρ σ H Q d tg ok e q=>?_⟩
 obtain ⟨d1,t1,d2,t2,e1,e2',e3,rfl⟩:=e2_of e
 refine sa H0 S z held ρ σ H _ d1 t1 ok e1 fun H1 x f1 s1 r1 _=>?_
 refine sb H0 S z held ρ σ H1 _ d2 t2 (ok.same s1) e2' fun H2 y f2 s2 r2 _=>?_
 exact dd H2 x y d1 d2 f1 f2 d Q (r1.same s2) r2 e3 fun H3 v s3 r3=>q H3 v [] ((s1.trans s2).trans s3) r3 .nil
end
end L2.Ev
namespace L2.Ev
open PySem PySem.Spec PyProof.Rows
def joinT:Tag→Tag→Tag
 | .sh o,.sh p=>.sh (o++p)
 | .sh o,_=>.sh o
 | _,t=>t
def joinA:List (D×Tag)→Tag
 | []=>.own
 | p::r=>joinT p.2 (joinA r)
def FA (X:Cx) (es:List Expr) (f:AF):Prop:=∃ t,PA X es t∧(∀ ρ ps,f ρ=some ps→ps.length=es.length)∧∀ (H0:Hp) (S:List Addr) (z:Addr→Option Nat) (held:List Held) (ρ:Rho) (σ:St) (H:Hp) (Q:List V→Hp→Prop) (ps:List (D×Tag)),
 Ok X.K H0 S z held ρ σ H→f ρ=some ps→(∀ H' vs fp,Same H H'→Reps X.K H' (ps.map (·.1)) vs fp→TagOk z H (joinA ps) fp→Q vs H')→t σ H Q
def aNil:AF:=fun _=>some []
def aCons (f:EF) (g:AF):AF:=fun ρ=>match f ρ,g ρ with
 | some p,some ps=>some (p::ps)
 | _,_=>none
theorem aCons_of {f:EF}{g:AF}{ρ:Rho}{ps:List (D×Tag)} (e:aCons f g ρ=some ps):∃ d t r,f ρ=some (d,t)∧g ρ=some r∧ps=(d,t)::r:=by
 unfold aCons at e
 cases h1:f ρ with
 | none=>rw [h1] at e;cases e
 | some p=>
  cases h2:g ρ with
  | none=>rw [h1,h2] at e;cases e
  | some r=>
   rw [h1,h2] at e
   cases e
   exact ⟨p.1,p.2,r,rfl,rfl,rfl⟩
theorem TagOk.join {K:PySem.W.Frag}{H0:Hp}{S:List Addr}{z:Addr→Option Nat}{held:List Held}{ρ:Rho}{σ:St}{H H1:Hp}{t1 t2:Tag}{f1 f2:List Addr} (ok:Ok K H0 S z held ρ σ H) (s:Same H H1)
  (h1:TagOk z H t1 f1) (d1:∀ a∈f1,∃ o,H1 a=some o∧MutO o=true) (h2:TagOk z H1 t2 f2):TagOk z H (joinT t1 t2) (f1++f2):=by
 have nz:∀ {a:Addr}{j:Nat},H a=none→z a=some j→False:=fun {a j} e q=>by
  obtain ⟨⟨o,w⟩,_⟩:=ok.zd a j q
  rw [e] at w;cases w
 have both:∀ {t1 t2:Tag},(f1.Nodup∧∀ a∈f1,H a=none)→(f2.Nodup∧∀ a∈f2,H1 a=none)→(f1++f2).Nodup∧∀ a∈f1++f2,H a=none:=fun p q=>by
  refine ⟨List.nodup_append.mpr ⟨p.1,q.1,fun a m b m' e=>?_⟩,fun a m=>?_⟩
  ·subst e
   obtain ⟨o,w,_⟩:=d1 a m
   rw [q.2 a m'] at w;cases w
  ·rcases List.mem_append.mp m with m | m
   ·exact p.2 a m
   ·exact s.free (q.2 a m)
 cases t1 with
 | sh o=>
  have h1':∀ a∈f1,∀ j,z a=some j→j∈o:=h1
  cases t2 with
  | sh p=>
   intro a m j q
   rcases List.mem_append.mp m with m | m
   ·exact List.mem_append_left _ (h1' a m j q)
   ·exact List.mem_append_right _ (h2 a m j q)
  | own=>
   intro a m j q
   rcases List.mem_append.mp m with m | m
   ·exact h1' a m j q
   ·exact (nz (s.free (h2.2 a m)) q).elim
  | lk=>
   intro a m j q
   rcases List.mem_append.mp m with m | m
   ·exact h1' a m j q
   ·exact (nz (s.free (h2.2 a m)) q).elim
 | own=>
  cases t2 with
  | sh p=>
   intro a m j q
   rcases List.mem_append.mp m with m | m
   ·exact (nz (h1.2 a m) q).elim
   ·exact h2 a m j q
  | own=>exact both (t1:=.own) (t2:=.own) h1 h2
  | lk=>exact both (t1:=.own) (t2:=.own) h1 h2
 | lk=>
  cases t2 with
  | sh p=>
   intro a m j q
   rcases List.mem_append.mp m with m | m
   ·exact (nz (h1.2 a m) q).elim
   ·exact h2 a m j q
  | own=>exact both (t1:=.own) (t2:=.own) h1 h2
  | lk=>exact both (t1:=.own) (t2:=.own) h1 h2
section
variable {X:Cx}{pos:Pos}
theorem fa_nil:FA X [] aNil:=⟨_,pa_nil,fun _ _ e=>by cases e;rfl,fun _ _ _ _ _ _ H _ _ _ e q=>by cases e;exact q H _ _ (Same.refl H) .nil .nil⟩
theorem fa_cons {e:Expr}{es:List Expr}{f:EF}{g:AF} (ha:FP X e f) (hr:FA X es g) (hs:starEach (e::es) X.env=(false,eval e X.env)::starEach es X.env:=by rfl):FA X (e::es) (aCons f g):=by
 obtain ⟨t,p,q⟩:=ha
 obtain ⟨t',p',l',q'⟩:=hr
 refine ⟨_,pa_cons p p' hs,fun ρ ps e=>by obtain ⟨d,tg,r,e1,e2,rfl⟩:=aCons_of e;rw [List.length_cons,List.length_cons,l' ρ r e2],fun H0 S z held ρ σ H Q ps ok e k=>?_⟩
 obtain ⟨d,tg,r,e1,e2,rfl⟩:=aCons_of e
 refine q H0 S z held ρ σ H _ d tg ok e1 fun H1 v f1 s1 r1 g1=>?_
 refine q' H0 S z held ρ σ H1 _ r (ok.same s1) e2 fun H2 vs f2 s2 r2 g2=>?_
 exact k H2 (v::vs) (f1++f2) (s1.trans s2) (.cons (r1.same s2) r2) (TagOk.join ok s1 g1 r1.dom g2)
def eTup (g:AF):EF:=fun ρ=>(g ρ).map fun ps=>(.tup (ps.map (·.1)),joinA ps)
theorem fp_tup {es:List Expr}{g:AF} {x1} (h:FA X es g) (hl:es.length≤1000:=by decide):FP X (.Tuple es x1 pos) (eTup g):=by
 obtain ⟨t,p,hg,q⟩:=h
 refine ⟨_,pe_tup p,fun H0 S z held ρ σ H Q d tg ok e k=>?_⟩
 unfold eTup at e
 cases h1:g ρ with
 | none=>rw [h1] at e;cases e
 | some ps=>
  rw [h1] at e
  cases e
  refine q H0 S z held ρ σ H _ ps ok h1 fun H1 vs fp s1 r1 g1=>⟨?_,fun a ha=>?_⟩
  ·rw [← r1.length,List.length_map,hg ρ ps h1]
   exact Nat.le_of_lt (small1000 hl)
  ·have s2:Same H1 (upd H1 a (.tup vs)):=fun b o e=>by rw [upd_ne (ne_of_none e ha)];exact e
   exact k _ _ fp (s1.trans s2) (.tup (SqT.of upd_same) (r1.same s2)) g1
end
def spF (K:PySem.W.Frag) (F:List D→Option D):Sp:=fun vs H Q _=>∃ ds fp d,Reps K H ds vs fp∧F ds=some d∧∀ H' v fp',Same H H'→Rep K H' d v fp'→fp'.Nodup→(∀ a∈fp',H a=none)→Q v H'
def eCall (F:List D→Option D) (g:AF):EF:=fun ρ=>(g ρ).bind fun ps=>(F (ps.map (·.1))).map fun d=>(d,.own)
theorem eCall_of {F:List D→Option D}{g:AF}{ρ:Rho}{d:D}{tg:Tag} (e:eCall F g ρ=some (d,tg)):∃ ps,g ρ=some ps∧F (ps.map (·.1))=some d∧tg=.own:=by
 unfold eCall at e
 cases h1:g ρ with
 | none=>rw [h1] at e;cases e
 | some ps=>
  rw [h1,Option.bind_some] at e
  cases h2:F (ps.map (·.1)) with
  | none=>rw [h2] at e;cases e
  | some d'=>
   rw [h2] at e
   cases e
   exact ⟨ps,rfl,h2,rfl⟩
section
variable {X:Cx}{x:Str}{p pos:Pos}{e:Expr}{es:List Expr}{k:Nat}{f:Addr}{fd:FuncData}{ps:List Str}{F:List D→Option D}{g:AF}
theorem fp_call {cm:Bool} (G:FnOk X.prog X.w X.K X.mg X.base CX0 k f fd ps (spF X.K F) cm) (hr:Room k X.A cm) (hm:X.mg x=some (.ref f)) (hk:PySem.W.keepIn X.K (.ref f)=true) (hb:Binds X.K fd ps []) (ha:FA X (e::es) g)
  (hg:Gl X x:=by rfl) (hdb:(x == ("__debug__":Str))=false:=by decide)
  (he:starEach (e::es) X.env=(false,eval e X.env)::starEach es X.env:=by rfl) (hpl:(backTo pos (starEach es X.env)).any (·.1)=false:=by rfl):FP X (.Call (.Name x p) (e::es) [] pos) (eCall F g):=by
 obtain ⟨t,pa,_,sa⟩:=ha
 refine ⟨_,pe_call G hr hg hm hk hb .nil pass0 pa hdb he hpl,fun H0 S z held ρ σ H Q d tg ok e0 q=>?_⟩
 obtain ⟨qs,e1,e2,rfl⟩:=eCall_of e0
 refine sa H0 S z held ρ σ H _ qs ok e1 fun H1 vs fp s1 r1 _=>?_
 rw [List.append_nil]
 exact ⟨_,fp,d,r1,e2,fun H2 v fp' s2 r2 nd fr=>q H2 v fp' (s1.trans s2) r2 ⟨nd,fun a m=>s1.free (fr a m)⟩⟩
end
section
variable {X:Cx}{pos:Pos}
def tV (f:EF):TF:=fun ρ=>match f ρ with
 | some (.bl b,_)=>some b
 | _=>none
theorem tV_of {f:EF}{ρ:Rho}{b:Bool} (e:tV f ρ=some b):∃ t,f ρ=some (.bl b,t):=by
 unfold tV at e
 cases h:f ρ with
 | none=>rw [h] at e;cases e
 | some p=>
  obtain ⟨d,t⟩:=p
  rw [h] at e
  cases d <;> first | (cases e;exact ⟨t,rfl⟩) | cases e
theorem ft_val {e:Expr}{f:EF} (h:FP X e f) (he:∀ whole,isTrue e X.env whole=(do let v ← whole;standAt e.pos;holding [v] (truthy v)):=by intro _;rfl):FT X e (tV f):=by
 obtain ⟨t,p,q⟩:=h
 refine ⟨_,pt_val p he,fun H0 S z held ρ σ H Q b ok e k=>?_⟩
 obtain ⟨tg,e1⟩:=tV_of e
 refine q H0 S z held ρ σ H _ _ tg ok e1 fun H1 v fp s1 r1 _=>?_
 cases r1
 exact ⟨b,rfl,k H1 s1⟩
theorem ft_cmp {op:CmpOp}{r:R2}{o:D→D→Option D}{a b:Expr}{fa fb:EF} (ho:OpR X (compareOp op) r) (dd:Does2 X.K r o) (ha:FP X a fa) (hb:FP X b fb) (hm:behindInMarks op b=false):FT X (.Compare a [op] [b] pos) (tV (e2 o fa fb)):=by
 obtain ⟨ta,pa,sa⟩:=ha
 obtain ⟨tb,pb,sb⟩:=hb
 refine ⟨_,pt_cmpR ho pa pb hm,fun H0 S z held ρ σ H Q c ok e k=>?_⟩
 obtain ⟨tg,e0⟩:=tV_of e
 obtain ⟨d1,t1,d2,t2,e1,e2',e3,rfl⟩:=e2_of e0
 refine sa H0 S z held ρ σ H _ d1 t1 ok e1 fun H1 x f1 s1 r1 _=>?_
 refine sb H0 S z held ρ σ H1 _ d2 t2 (ok.same s1) e2' fun H2 y f2 s2 r2 _=>?_
 refine dd H2 x y d1 d2 f1 f2 _ _ (r1.same s2) r2 e3 fun H3 v s3 r3=>?_
 cases r3
 exact ⟨c,rfl,k H3 ((s1.trans s2).trans s3)⟩
theorem fp_cmp {op:CmpOp}{r:R2}{o:D→D→Option D}{a b:Expr}{fa fb:EF} (ho:OpR X (compareOp op) r) (dd:Does2 X.K r o) (ha:FP X a fa) (hb:FP X b fb) (hm:behindInMarks op b=false):FP X (.Compare a [op] [b] pos) (e2 o fa fb):=
 fp_2 dd ha hb fun _ _ pa pb=>pe_cmpR ho pa pb hm
theorem fp_bin {op:Operator}{r:R2}{o:D→D→Option D}{a b:Expr}{fa fb:EF} (ho:OpR X (binaryOp op) r) (dd:Does2 X.K r o) (ha:FP X a fa) (hb:FP X b fb):FP X (.BinOp a op b pos) (e2 o fa fb):=
 fp_2 dd ha hb fun _ _ pa pb=>pe_op ho pa pb
def tAnd2 (f g:TF):TF:=fun ρ=>match f ρ with
 | some true=>g ρ
 | some false=>some false
 | none=>none
def tOr2 (f g:TF):TF:=fun ρ=>match f ρ with
 | some true=>some true
 | some false=>g ρ
 | none=>none
def tNot1 (f:TF):TF:=fun ρ=>(f ρ).map fun b=>!b
def FW (X:Cx) (e:Expr) (f:TF):Prop:=∃ t,PW X e t∧∀ (H0:Hp) (S:List Addr) (z:Addr→Option Nat) (held:List Held) (ρ:Rho) (σ:St) (H:Hp) (Q:Bool→Hp→Prop) (b:Bool),
 Ok X.K H0 S z held ρ σ H→f ρ=some b→(∀ H',Same H H'→Q b H')→t σ H Q
theorem FW.ft {e:Expr}{f:TF} (h:FW X e f):FT X e f:=let ⟨t,p,q⟩:=h;⟨t,p.pt,q⟩
theorem fw_and1 {a:Expr}{f:TF} (h:FT X a f):FW X (.BoolOp .And [a] pos) f:=let ⟨t,p,q⟩:=h;⟨t,pw_and1 p,q⟩
theorem fw_or1 {a:Expr}{f:TF} (h:FT X a f):FW X (.BoolOp .Or [a] pos) f:=let ⟨t,p,q⟩:=h;⟨t,pw_or1 p,q⟩
theorem fw_and {a b:Expr}{rest:List Expr}{f g:TF} (ha:FT X a f) (hb:FW X (.BoolOp .And (b::rest) pos) g):FW X (.BoolOp .And (a::b::rest) pos) (tAnd2 f g):=by
 obtain ⟨t,p,q⟩:=ha
 obtain ⟨t',p',q'⟩:=hb
 refine ⟨_,pw_and p p',fun H0 S z held ρ σ H Q c ok e k=>?_⟩
 unfold tAnd2 at e
 cases h:f ρ with
 | none=>rw [h] at e;cases e
 | some y=>
  rw [h] at e
  cases y with
  | false=>
   cases e
   refine q H0 S z held ρ σ H _ false ok h fun H1 s1=>?_
   rw [if_neg Bool.false_ne_true]
   exact k H1 s1
  | true=>
   refine q H0 S z held ρ σ H _ true ok h fun H1 s1=>?_
   rw [if_pos rfl]
   exact q' H0 S z held ρ σ H1 _ c (ok.same s1) e fun H2 s2=>k H2 (s1.trans s2)
theorem fw_or {a b:Expr}{rest:List Expr}{f g:TF} (ha:FT X a f) (hb:FW X (.BoolOp .Or (b::rest) pos) g):FW X (.BoolOp .Or (a::b::rest) pos) (tOr2 f g):=by
 obtain ⟨t,p,q⟩:=ha
 obtain ⟨t',p',q'⟩:=hb
 refine ⟨_,pw_or p p',fun H0 S z held ρ σ H Q c ok e k=>?_⟩
 unfold tOr2 at e
 cases h:f ρ with
 | none=>rw [h] at e;cases e
 | some y=>
  rw [h] at e
  cases y with
  | true=>
   cases e
   refine q H0 S z held ρ σ H _ true ok h fun H1 s1=>?_
   rw [if_pos rfl]
   exact k H1 s1
  | false=>
   refine q H0 S z held ρ σ H _ false ok h fun H1 s1=>?_
   rw [if_neg Bool.false_ne_true]
   exact q' H0 S z held ρ σ H1 _ c (ok.same s1) e fun H2 s2=>k H2 (s1.trans s2)
theorem ft_not {a:Expr}{f:TF} (ha:FT X a f):FT X (.UnaryOp .Not a pos) (tNot1 f):=by
 obtain ⟨t,p,q⟩:=ha
 refine ⟨_,pt_not p,fun H0 S z held ρ σ H Q c ok e k=>?_⟩
 unfold tNot1 at e
 cases h:f ρ with
 | none=>rw [h] at e;cases e
 | some y=>
  rw [h] at e
  cases e
  exact q H0 S z held ρ σ H _ y ok h fun H1 s1=>k H1 s1
end
inductive Out where
 | nx (ρ:Rho) | rt (d:D) | bk (ρ:Rho) | ct (ρ:Rho)
 | er (raw:Bool) (cn:XN) (ρ:Rho)
abbrev SF:=Rho→Option Out
def kpt (X:Cx) (x:Str):Bool:=x == ("self":Str)||(X.fn ("self":Str)&&!X.fn x)
def Kp (X:Cx) (σ σ':St):Prop:=∀ (i:Nat) (x:Str),X.N[i]? = some x→kpt X x=true→σ'[i]? = σ[i]?
theorem Kp.refl (X:Cx) (σ:St):Kp X σ σ:=fun _ _ _ _=>rfl
theorem Kp.trans {X:Cx}{σ σ1 σ2:St} (a:Kp X σ σ1) (b:Kp X σ1 σ2):Kp X σ σ2:=fun i x h k=>(b i x h k).trans (a i x h k)
theorem Kp.set {X:Cx}{σ:St}{i:Nat}{x:Str}{v:Option V} (hi:X.N[i]? = some x) (hs:kpt X x=false):Kp X σ (σ.set i v):=fun j y h k=>by
 refine List.getElem?_set_ne fun e=>?_
 subst e
 rw [hi] at h
 have h:=Option.some.inj h
 subst h
 rw [hs] at k;cases k
def PostE (X:Cx) (H0:Hp) (S:List Addr) (held:List Held) (σ0:St) (raw:Bool) (cn:XN) (ρ:Rho):Prop:=∃ ES:XS,(if raw=true then ThrowsN X ES else ThrowsT X ES) ∧
 ∀ z σ H C,Ok X.K H0 S z held ρ σ H→Kp X σ0 σ→PySem.W.nsIn X.K mainGlobals cn.1=some (some (.ref C))→ES (.ref C) cn.2 σ H
theorem PostE.of {X:Cx}{H0:Hp}{S:List Addr}{held:List Held}{σ σ':St}{raw:Bool}{cn:XN}{ρ:Rho} (k:PostE X H0 S held σ raw cn ρ) (a:Kp X σ σ'):PostE X H0 S held σ' raw cn ρ:=
 let ⟨ES,th,q⟩:=k;⟨ES,th,fun z s H C ok b hC=>q z s H C ok (a.trans b) hC⟩
def Post (X:Cx) (H0:Hp) (S:List Addr) (held:List Held) (σ0:St) (E:Ends):Out→Prop
 | .nx ρ=>∀ z σ H,Ok X.K H0 S z held ρ σ H→Kp X σ0 σ→E.nx σ H
 | .bk ρ=>∀ z σ H,Ok X.K H0 S z held ρ σ H→Kp X σ0 σ→E.bk σ H
 | .ct ρ=>∀ z σ H,Ok X.K H0 S z held ρ σ H→Kp X σ0 σ→E.ct σ H
 | .er raw cn ρ=>PostE X H0 S held σ0 raw cn ρ
 | .rt d=>∀ H v fp,(∀ a o,H0 a=some o→a∉S→H a=some o)→Rep X.K H d v fp→fp.Nodup→(∀ a∈fp,H0 a=none∨a∈S)→E.rt v H
def FS (X:Cx) (st:List Stmt) (f:SF):Prop:=∃ t,PSs X st t∧∀ (H0:Hp) (S:List Addr) (z:Addr→Option Nat) (held:List Held) (ρ:Rho) (σ:St) (H:Hp) (E:Ends) (o:Out),
 Ok X.K H0 S z held ρ σ H→f ρ=some o→Post X H0 S held σ E o→t E σ H
def FS1 (X:Cx) (st:Stmt) (f:SF):Prop:=∃ t,PS X st t∧∀ (H0:Hp) (S:List Addr) (z:Addr→Option Nat) (held:List Held) (ρ:Rho) (σ:St) (H:Hp) (E:Ends) (o:Out),
 Ok X.K H0 S z held ρ σ H→f ρ=some o→Post X H0 S held σ E o→t E σ H
theorem Post.of {X:Cx}{H0:Hp}{S:List Addr}{held:List Held}{σ σ':St}{E:Ends}{o:Out} (k:Post X H0 S held σ E o) (a:Kp X σ σ'):Post X H0 S held σ' E o:=by
 cases o with
 | nx ρ=>exact fun z s H ok b=>k z s H ok (a.trans b)
 | bk ρ=>exact fun z s H ok b=>k z s H ok (a.trans b)
 | ct ρ=>exact fun z s H ok b=>k z s H ok (a.trans b)
 | rt d=>exact k
 | er raw cn ρ=>exact PostE.of k a
def sNx:SF:=fun ρ=>some (.nx ρ)
def sSeq (f g:SF):SF:=fun ρ=>match f ρ with
 | some (.nx ρ')=>g ρ'
 | o=>o
section
variable {X:Cx}{pos:Pos}
theorem fs_nil:FS X [] sNx:=⟨_,pss_nil,fun _ _ z _ _ σ H _ _ ok e k=>by cases e;exact k z σ H ok (.refl _ _)⟩
theorem fs_one {st:Stmt}{f:SF} (h:FS1 X st f):FS X [st] f:=let ⟨t,p,q⟩:=h;⟨t,pss_one p,q⟩
theorem fs_cons {st:Stmt}{rest:List Stmt}{f g:SF} (h1:FS1 X st f) (h2:FS X rest g):FS X (st::rest) (sSeq f g):=by
 obtain ⟨t,p,q⟩:=h1
 obtain ⟨t',p',q'⟩:=h2
 refine ⟨_,pss_cons p p',fun H0 S z held ρ σ H E o ok e k=>?_⟩
 unfold sSeq at e
 cases h:f ρ with
 | none=>rw [h] at e;cases e
 | some w=>
  refine q H0 S z held ρ σ H _ w ok h ?_
  rw [h] at e
  cases w with
  | nx ρ'=>exact fun z' σ' H' ok' a=>q' H0 S z' held ρ' σ' H' E o ok' e (k.of a)
  | rt d=>cases e;exact k
  | bk ρ'=>cases e;exact k
  | ct ρ'=>cases e;exact k
  | er _ _ _=>cases e;exact k
def sNo:SF:=fun _=>none
theorem fs_no {st:Stmt}:FS1 X st sNo:=⟨_,ps_never,fun _ _ _ _ _ _ _ _ _ _ e _=>by cases e⟩
def sIf (c:TF) (f g:SF):SF:=fun ρ=>match c ρ with
 | some true=>f ρ
 | some false=>g ρ
 | none=>none
theorem fs_if {c:Expr}{a b:List Stmt}{tc:TF}{f g:SF} (hc:FT X c tc) (ha:FS X a f) (hb:FS X b g):FS1 X (.If c a b pos) (sIf tc f g):=by
 obtain ⟨t,p,q⟩:=hc
 obtain ⟨t1,p1,q1⟩:=ha
 obtain ⟨t2,p2,q2⟩:=hb
 refine ⟨_,ps_if p p1 p2,fun H0 S z held ρ σ H E o ok e k=>?_⟩
 unfold sIf at e
 cases h:tc ρ with
 | none=>rw [h] at e;cases e
 | some y=>
  rw [h] at e
  refine q H0 S z held ρ σ H _ y ok h fun H1 s1=>?_
  cases y with
  | true=>rw [if_pos rfl];exact q1 H0 S z held ρ σ H1 E o (ok.same s1) e k
  | false=>rw [if_neg Bool.false_ne_true];exact q2 H0 S z held ρ σ H1 E o (ok.same s1) e k
def isOwn:Tag→Bool
 | .sh _=>false
 | _=>true
def sRet (f:EF):SF:=fun ρ=>match f ρ with
 | some (d,t)=>if isOwn t=true then some (.rt d) else if imm d=true then some (.rt d) else none
 | none=>none
theorem fs_ret {e:Expr}{f:EF} (he:FP X e f):FS1 X (.Return (some e) pos) (sRet f):=by
 obtain ⟨t,p,q⟩:=he
 refine ⟨_,ps_ret p,fun H0 S z held ρ σ H E o ok e k=>?_⟩
 unfold sRet at e
 cases h:f ρ with
 | none=>rw [h] at e;cases e
 | some w=>
  obtain ⟨d,tg⟩:=w
  rw [h] at e
  dsimp only at e
  refine q H0 S z held ρ σ H _ d tg ok h fun H1 v fp s1 r1 g1=>?_
  have en:∀ a o,H0 a=some o→a∉S→H1 a=some o:=fun a o e n=>s1 _ _ (ok.en a o e n)
  by_cases ho:isOwn tg=true
  ·rw [if_pos ho] at e
   cases e
   have g:fp.Nodup∧∀ a∈fp,H a=none:=by cases tg <;> first | exact g1 | cases ho
   refine k H1 v fp en r1 g.1 fun a m=>?_
   cases h0:H0 a with
   | none=>exact .inl rfl
   | some o=>
    by_cases hs:a∈S
    ·exact .inr hs
    ·have w:=ok.en a o h0 hs
     rw [g.2 a m] at w;cases w
  ·rw [if_neg ho] at e
   by_cases hi:imm d=true
   ·rw [if_pos hi] at e
    cases e
    have hn:=r1.imm hi
    subst hn
    exact k H1 v [] en r1 List.nodup_nil fun a m=>nomatch m
   ·rw [if_neg hi] at e;cases e
def sRetV (i:Nat):SF:=fun ρ=>match ρ[i]? with
 | some (some (d,t))=>if isOwn t=true then some (.rt d) else if imm d=true then some (.rt d) else none
 | _=>none
theorem fs_retV (i:Nat) {x:Str}{pos':Pos} (hN:X.N[i]? = some x:=by rfl) (hv:Vis X.env.scope x:=by first | exact Or.inl rfl | exact Or.inr (Or.inl rfl) | exact Or.inr (Or.inr rfl)) (hd:(x == ("__debug__":Str))=false:=by decide)
  (hcd:(x == ("__classdict__":Str))=false:=by decide):FS1 X (.Return (some (.Name x pos')) pos) (sRetV i):=by
 refine ⟨_,ps_ret (pe_var (i:=i) hN hv hd hcd),fun H0 S z held ρ σ H E o ok e k=>?_⟩
 unfold sRetV at e
 cases h:ρ[i]? with
 | none=>rw [h] at e;cases e
 | some w=>
  cases w with
  | none=>rw [h] at e;cases e
  | some w=>
   obtain ⟨d,tg⟩:=w
   rw [h] at e
   dsimp only at e
   obtain ⟨v,fp,hs,r,zz⟩:=ok.sl i d tg h
   refine ⟨v,hs,?_⟩
   by_cases ho:isOwn tg=true
   ·rw [if_pos ho] at e
    cases e
    have g:fp.Nodup∧∀ a∈fp,z a=some i:=by cases tg <;> first | exact zz | cases ho
    exact k H v fp ok.en r g.1 fun a m=>(ok.zd a i (g.2 a m)).2
   ·rw [if_neg ho] at e
    by_cases hi:imm d=true
    ·rw [if_pos hi] at e
     cases e
     have hn:=r.imm hi
     subst hn
     exact k H v [] ok.en r List.nodup_nil fun a m=>nomatch m
    ·rw [if_neg hi] at e;cases e
def setS (ρ:Rho) (i:Nat) (d:D):Tag→Rho
 | .sh o=>ρ.set i (some (d,.sh o))
 | _=>ρ.set i (some (d,.own))
def sSet (i:Nat) (f:EF):SF:=fun ρ=>match f ρ with
 | some (d,t)=>some (.nx (setS ρ i d t))
 | none=>none
theorem Ok.set {K:PySem.W.Frag}{H0:Hp}{S:List Addr}{z:Addr→Option Nat}{held:List Held}{ρ:Rho}{σ:St}{H H1:Hp}{i:Nat}{d:D}{t:Tag}{v:V}{fp:List Addr} (ok:Ok K H0 S z held ρ σ H) (hi:i < σ.length) (s:Same H H1)
  (r:Rep K H1 d v fp) (g:TagOk z H t fp):∃ z',Ok K H0 S z' held (setS ρ i d t) (σ.set i (some v)) H1:=by
 classical
 have hiρ:i < ρ.length:=by rw [ok.ln];exact hi
 have dH:∀ {a:Addr},H a=none→z a=none:=fun {a} e=>by
  cases q:z a with
  | none=>rfl
  | some j=>obtain ⟨⟨o,w⟩,_⟩:=ok.zd a j q;rw [e] at w;cases w
 have main:∀ (fo:List Addr) (tg:Tag),(∀ a∈fo,H a=none∧∃ o,H1 a=some o)→InZ (fun a=>if a∈fo then some i else if z a=some i then none else z a) i tg fp →
   Ok K H0 S (fun a=>if a∈fo then some i else if z a=some i then none else z a) held (ρ.set i (some (d,tg))) (σ.set i (some v)) H1:=by
  intro fo tg hfo hz
  have old:∀ {fp':List Addr},(∀ a∈fp',∃ o,H a=some o∧MutO o=true)→∀ a∈fp',(if a∈fo then some i else if z a=some i then none else z a)=(if z a=some i then none else z a):=fun {fp'} h a m=>by
   rw [if_neg fun q=>?_]
   obtain ⟨o,w,_⟩:=h a m
   rw [(hfo a q).1] at w;cases w
  refine ⟨fun j d' t' e=>?_,fun p hp=>?_,fun a j e=>?_,fun a o e n=>s _ _ (ok.en a o e n),by rw [List.length_set,List.length_set];exact ok.ln⟩
  ·by_cases hj:j=i
   ·subst hj
    rw [List.getElem?_set_self hiρ] at e
    cases e
    exact ⟨v,fp,List.getElem?_set_self hi,r,hz⟩
   ·rw [List.getElem?_set_ne (Ne.symm hj)] at e
    obtain ⟨v',fp',hs',r',z'⟩:=ok.sl j d' t' e
    refine ⟨v',fp',by rw [List.getElem?_set_ne (Ne.symm hj)];exact hs',r'.same s,?_⟩
    have o1:=old r'.dom
    cases t' with
    | sh o=>
     intro a m k q
     dsimp only at q
     rw [o1 a m] at q
     by_cases w:z a=some i
     ·rw [if_pos w] at q;cases q
     ·rw [if_neg w] at q;exact z' a m k q
    | own=>exact ⟨z'.1,fun a m=>by dsimp only;rw [o1 a m,if_neg (by rw [z'.2 a m];intro w;exact hj (Option.some.inj w))];exact z'.2 a m⟩
    | lk=>exact ⟨z'.1,fun a m=>by dsimp only;rw [o1 a m,if_neg (by rw [z'.2 a m];intro w;exact hj (Option.some.inj w))];exact z'.2 a m⟩
  ·obtain ⟨r',hl'⟩:=ok.hl p hp
   refine ⟨r'.same s,fun a m j q=>?_⟩
   rw [old r'.dom a m] at q
   by_cases w:z a=some i
   ·rw [if_pos w] at q;cases q
   ·rw [if_neg w] at q
    obtain ⟨z0',e'⟩:=hl' a m j q
    have hj:j≠i:=fun e=>w (by rw [← e];exact q)
    exact ⟨z0',fun d'=>by rw [List.getElem?_set_ne (Ne.symm hj)];exact e' d'⟩
  ·by_cases w:a∈fo
   ·obtain ⟨w1,w2⟩:=hfo a w
    refine ⟨w2,?_⟩
    cases h0:H0 a with
    | none=>exact .inl rfl
    | some o=>
     by_cases hs:a∈S
     ·exact .inr hs
     ·have q:=ok.en a o h0 hs
      rw [w1] at q;cases q
   ·rw [if_neg w] at e
    by_cases w':z a=some i
    ·rw [if_pos w'] at e;cases e
    ·rw [if_neg w'] at e
     obtain ⟨⟨o,x⟩,y⟩:=ok.zd a j e
     exact ⟨⟨o,s _ _ x⟩,y⟩
 have own:(fp.Nodup∧∀ a∈fp,H a=none)→Ok K H0 S (fun a=>if a∈fp then some i else if z a=some i then none else z a) held (ρ.set i (some (d,.own))) (σ.set i (some v)) H1:=fun g=>
  main fp .own (fun a m=>⟨g.2 a m,let ⟨o,w,_⟩:=r.dom a m;⟨o,w⟩⟩) ⟨g.1,fun a m=>if_pos m⟩
 cases t with
 | own=>exact ⟨_,own g⟩
 | lk=>exact ⟨_,own g⟩
 | sh o=>
  refine ⟨_,main [] (.sh o) (fun a m=>nomatch m) fun a m j q=>?_⟩
  have q:(if a∈([]:List Addr) then some i else if z a=some i then none else z a)=some j:=q
  rw [if_neg (show ¬ a∈([]:List Addr) from fun w=>nomatch w)] at q
  by_cases w:z a=some i
  ·rw [if_pos w] at q;cases q
  ·rw [if_neg w] at q;exact g a m j q
theorem Ok.stored {K:PySem.W.Frag}{H0:Hp}{S:List Addr}{z:Addr→Option Nat}{held:List Held}{ρ:Rho}{σ:St}{H H1:Hp}{i:Nat}{d:D}{t:Tag}{v:V}{fp:List Addr}{G:Prop} (ok:Ok K H0 S z held ρ σ H) (s:Same H H1)
  (r:Rep K H1 d v fp) (g:TagOk z H t fp) (k:∀ z',Ok K H0 S z' held (setS ρ i d t) (σ.set i (some v)) H1→G):G:=by
 by_cases hi:i < σ.length
 ·obtain ⟨z',ok'⟩:=ok.set hi s r g
  exact k z' ok'
 ·have e1:σ.set i (some v)=σ:=List.set_eq_of_length_le (Nat.le_of_not_lt hi)
  have e2:∀ w,ρ.set i w=ρ:=fun w=>List.set_eq_of_length_le (by rw [ok.ln];exact Nat.le_of_not_lt hi)
  have e3:setS ρ i d t=ρ:=by cases t <;> exact e2 _
  refine k z ?_
  rw [e1,e3]
  exact ok.same s
theorem fs_set (i:Nat) {x:Str}{e:Expr}{f:EF}{pos':Pos} (he:FP X e f) (hN:X.N.Nodup) (hi:X.N[i]? = some x:=by rfl) (hx:Loc X.env.scope x:=by first | exact Or.inl rfl | exact Or.inr rfl)
  (hs:swapsWith e (some (.Name x pos')) pos.line X.env=pure false:=by rfl) (hf:X.fn x=true∨X.env.scope.names.lookup x=some .local:=by first | exact .inl rfl | exact .inr rfl) (hself:kpt X x=false:=by rfl):FS1 X (.Assign [.Name x pos'] e pos) (sSet i f):=by
 obtain ⟨t,p,q⟩:=he
 refine ⟨_,ps_set (i:=i) hN hi hx p hs hf,fun H0 S z held ρ σ H E o ok e k=>?_⟩
 unfold sSet at e
 cases h:f ρ with
 | none=>rw [h] at e;cases e
 | some w=>
  obtain ⟨d,tg⟩:=w
  rw [h] at e
  cases e
  refine q H0 S z held ρ σ H _ d tg ok h fun H1 v fp s1 r1 g1=>?_
  exact ok.stored s1 r1 g1 fun z' ok'=>k z' _ H1 ok' (.set hi hself)
end
abbrev GF:=D→Tag→Rho→Option Rho
def FG (X:Cx) (tg:Expr) (g:GF) (is:List Nat):Prop:=(∀ i∈is,∀ x,X.N[i]? = some x→kpt X x=false)∧∃ t,PG X tg t∧∀ (H0:Hp) (S:List Addr) (z:Addr→Option Nat) (held:List Held) (ρ:Rho) (σ:St) (H H1:Hp) (v:V) (d:D) (tag:Tag) (fp:List Addr) (Q:St→Hp→Prop) (ρ':Rho),
 Ok X.K H0 S z held ρ σ H→Same H H1→Rep X.K H1 d v fp→TagOk z H tag fp→g d tag ρ=some ρ'→(∀ z' σ',Ok X.K H0 S z' held ρ' σ' H1→(σ'.length=σ.length∧∀ j,j∉is→σ'[j]? = σ[j]?)→Q σ' H1)→t v σ H1 Q
def gN (i:Nat):GF:=fun d t ρ=>some (setS ρ i d t)
theorem Kp.off {X:Cx}{σ σ':St}{is:List Nat} (hk:∀ i∈is,∀ x,X.N[i]? = some x→kpt X x=false) (h:∀ j,j∉is→σ'[j]? = σ[j]?):Kp X σ σ':=fun i x e k=>h i fun m=>by rw [hk i m x e] at k;cases k
section
variable {X:Cx}{pos:Pos}
theorem fg_name (i:Nat) {x:Str} (hN:X.N.Nodup) (hi:X.N[i]? = some x:=by rfl) (hx:Loc X.env.scope x:=by first | exact Or.inl rfl | exact Or.inr rfl) (hf:X.fn x=true∨X.env.scope.names.lookup x=some .local:=by first | exact .inl rfl | exact .inr rfl) (hself:kpt X x=false:=by rfl):FG X (.Name x pos) (gN i) [i]:=by
 refine ⟨fun j m y e=>by rw [List.mem_singleton.mp m,hi] at e;have e:=Option.some.inj e;subst e;exact hself,_,pg_name (i:=i) hN hi hx hf,fun H0 S z held ρ σ H H1 v d tag fp Q ρ' ok s r g e k=>?_⟩
 cases e
 exact ok.stored s r g fun z' ok'=>k z' _ ok' ⟨List.length_set ..,fun j hj=>List.getElem?_set_ne fun e=>hj (by rw [e];exact List.mem_cons_self)⟩
end
structure Hv where
 d:D
 v:V
 fp:List Addr
def ItOk (K:PySem.W.Frag) (J:It) (ds:List D) (hv:List Hv):Prop:=∀ (H:Hp) (i:Nat),(∀ h∈hv,Rep K H h.d h.v h.fp) →
 (∀ d,ds[i]? = some d→J.go i H∧∀ x H1,J.yld i H x H1→Same H H1∧∃ fp,Rep K H1 d x fp∧∀ a∈fp,∃ h∈hv,a∈h.fp)∧(ds.length≤i→J.stop i H)
abbrev IF:=Rho→Option (List D×Tag)
def FI (X:Cx) (tg iter:Expr) (f:IF):Prop:=∃ wi,PI X tg iter wi∧∀ (H0:Hp) (S:List Addr) (z:Addr→Option Nat) (held:List Held) (ρ:Rho) (σ:St) (H:Hp) (R:It→Hp→Prop) (ds:List D) (t:Tag),
 Ok X.K H0 S z held ρ σ H→f ρ=some (ds,t)→(∀ H1 J hv,Same H H1→(∀ h∈hv,Rep X.K H1 h.d h.v h.fp∧∀ a∈h.fp,∀ j,z a=some j→∃ o,t=.sh o∧j∈o)→ItOk X.K J ds hv→R J H1)→wi σ H R
def iSeqF (f:EF):IF:=fun ρ=>match f ρ with
 | some (.lst ds,t)=>some (ds,t)
 | some (.fls ds,t)=>some (ds,t)
 | some (.tup ds,t)=>some (ds,t)
 | _=>none
def iSeq (K:PySem.W.Frag) (tl:TE):TI:=fun σ H R=>tl σ H fun x H1=>∃ a,x=.ref a∧(((∃ xs,SqL K H1 a xs)∧R (Itl K a) H1)∨((∃ xs,SqT K H1 a xs)∧R (Itt K a) H1))
section
variable {X:Cx}{tg:Expr}
theorem pi_seq {l:Expr}{tl:TE} (hl:PE X l tl):PI X tg l (iSeq X.K tl):=by
 intro pins s σ H R I h
 refine thn (hl pins s σ H _ I h) fun v s1 ⟨x,H1,I1,r1,q1⟩=>?_
 obtain ⟨a,e,q⟩:=q1
 subst e
 cases r1
 rcases q with ⟨⟨xs,hq⟩,q⟩ | ⟨⟨xs,hq⟩,q⟩
 ·obtain ⟨its,rv,p,hz⟩:=I1.list hq
  refine wpAny_pyIter_list p.isList ?_
  refine ⟨s1.heap.objs.size,[s1.heap.objs.size],_,_,H1,rfl,I1.kept (t':=s1.toks) (fun b o e=>Heap.get?_push_of_some _ e),turn_list a _,⟨_,Heap.get?_push_size _ rfl,rfl,rfl⟩,fun b hb=>?_,q⟩
  obtain rfl:b=s1.heap.objs.size:=by simpa using hb
  exact I1.fpOk (Nat.le_refl _) (I1.hok.fresh (Nat.le_refl _))
 ·obtain ⟨its,rv,p,hz⟩:=I1.tuple hq
  refine wpAny_pyIter_tuple (show s1.heap.IsTuple a its.toArray from p) ?_
  refine ⟨s1.heap.objs.size,[s1.heap.objs.size],_,_,H1,rfl,I1.kept (t':=s1.toks) (fun b o e=>Heap.get?_push_of_some _ e),turn_tuple a _,⟨_,Heap.get?_push_size _ rfl,rfl,rfl⟩,fun b hb=>?_,q⟩
  obtain rfl:b=s1.heap.objs.size:=by simpa using hb
  exact I1.fpOk (Nat.le_refl _) (I1.hok.fresh (Nat.le_refl _))
theorem Rep.lst_of {K:PySem.W.Frag}{H:Hp}{ds:List D}{v:V}{fp:List Addr} (r:Rep K H (.lst ds) v fp):∃ a xs f,v=.ref a∧SqL K H a xs∧Reps K H ds xs f∧∀ b∈f,b∈fp:=by
 cases r with
 | lst h rs=>exact ⟨_,_,_,rfl,SqL.of h,rs,fun b m=>List.mem_cons_of_mem _ m⟩
theorem Rep.fls_of {K:PySem.W.Frag}{H:Hp}{ds:List D}{v:V}{fp:List Addr} (r:Rep K H (.fls ds) v fp):∃ a xs,v=.ref a∧SqL K H a xs∧Reps K H ds xs fp:=by
 cases r with
 | lsf h rs=>exact ⟨_,_,rfl,h.sq,rs⟩
theorem Rep.tup_of {K:PySem.W.Frag}{H:Hp}{ds:List D}{v:V}{fp:List Addr} (r:Rep K H (.tup ds) v fp):∃ a xs,v=.ref a∧SqT K H a xs∧Reps K H ds xs fp:=by
 cases r with
 | tup h rs=>exact ⟨_,_,rfl,h,rs⟩
theorem itOk_list {K:PySem.W.Frag}{a:Addr}{ds:List D}{fp:List Addr}:ItOk K (Itl K a) ds [⟨.lst ds,.ref a,fp⟩]:=by
 intro H i hh
 have r:Rep K H (.lst ds) (.ref a) fp:=hh ⟨.lst ds,.ref a,fp⟩ List.mem_cons_self
 obtain ⟨a',xs,f,e,hq,rs,sub⟩:=r.lst_of
 cases e
 refine ⟨fun d hd=>?_,fun hl=>⟨xs,hq,by rw [← rs.length];exact hl⟩⟩
 obtain ⟨v,f',hv,rv,s'⟩:=rs.get hd
 refine ⟨⟨xs,v,hq,hv⟩,fun x H1 y=>?_⟩
 obtain ⟨e1,y⟩:=y
 subst e1
 have e2:=y xs hq
 rw [hv] at e2
 cases e2
 exact ⟨Same.refl _,f',rv,fun b m=>⟨_,List.mem_cons_self,sub b (s' b m)⟩⟩
theorem itOk_fls {K:PySem.W.Frag}{a:Addr}{ds:List D}{fp:List Addr}:ItOk K (Itl K a) ds [⟨.fls ds,.ref a,fp⟩]:=by
 intro H i hh
 have r:Rep K H (.fls ds) (.ref a) fp:=hh ⟨.fls ds,.ref a,fp⟩ List.mem_cons_self
 obtain ⟨a',xs,e,hq,rs⟩:=r.fls_of
 cases e
 refine ⟨fun d hd=>?_,fun hl=>⟨xs,hq,by rw [← rs.length];exact hl⟩⟩
 obtain ⟨v,f',hv,rv,s'⟩:=rs.get hd
 refine ⟨⟨xs,v,hq,hv⟩,fun x H1 y=>?_⟩
 obtain ⟨e1,y⟩:=y
 subst e1
 have e2:=y xs hq
 rw [hv] at e2
 cases e2
 exact ⟨Same.refl _,f',rv,fun b m=>⟨_,List.mem_cons_self,s' b m⟩⟩
theorem itOk_tup {K:PySem.W.Frag}{a:Addr}{ds:List D}{fp:List Addr}:ItOk K (Itt K a) ds [⟨.tup ds,.ref a,fp⟩]:=by
 intro H i hh
 have r:Rep K H (.tup ds) (.ref a) fp:=hh ⟨.tup ds,.ref a,fp⟩ List.mem_cons_self
 obtain ⟨a',xs,e,hq,rs⟩:=r.tup_of
 cases e
 refine ⟨fun d hd=>?_,fun hl=>⟨xs,hq,by rw [← rs.length];exact hl⟩⟩
 obtain ⟨v,f',hv,rv,s'⟩:=rs.get hd
 refine ⟨⟨xs,v,hq,hv⟩,fun x H1 y=>?_⟩
 obtain ⟨e1,y⟩:=y
 subst e1
 have e2:=y xs hq
 rw [hv] at e2
 cases e2
 exact ⟨Same.refl _,f',rv,fun b m=>⟨_,List.mem_cons_self,s' b m⟩⟩
theorem itOk_range {K:PySem.W.Frag}{lo:Int}{n:Nat}:ItOk K (Itr lo n) ((List.range n).map fun i:Nat=>D.int (lo + (i:Int))) []:=by
 intro H i _
 refine ⟨fun d hd=>?_,fun hl=>?_⟩
 ·rw [List.getElem?_map] at hd
  by_cases hi:i < n
  ·rw [List.getElem?_range hi] at hd
   cases hd
   refine ⟨hi,fun x H1 y=>?_⟩
   obtain ⟨e1,e2⟩:=y
   subst e1 e2
   exact ⟨Same.refl _,[],.int _,fun b m=>nomatch m⟩
  ·rw [List.getElem?_eq_none (by simpa using hi)] at hd
   cases hd
 ·rw [List.length_map,List.length_range] at hl
  exact hl
theorem TagOk.over {K:PySem.W.Frag}{H0:Hp}{S:List Addr}{z:Addr→Option Nat}{held:List Held}{ρ:Rho}{σ:St}{H:Hp}{t:Tag}{fp:List Addr} (ok:Ok K H0 S z held ρ σ H) (g:TagOk z H t fp):∀ a∈fp,∀ j,z a=some j→∃ o,t=.sh o∧j∈o:=by
 intro a m j q
 cases t with
 | sh o=>exact ⟨o,rfl,g a m j q⟩
 | own=>obtain ⟨⟨o,w⟩,_⟩:=ok.zd a j q;rw [g.2 a m] at w;cases w
 | lk=>obtain ⟨⟨o,w⟩,_⟩:=ok.zd a j q;rw [g.2 a m] at w;cases w
theorem fi_seq {l:Expr}{f:EF} (hl:FP X l f):FI X tg l (iSeqF f):=by
 obtain ⟨t,p,q⟩:=hl
 refine ⟨_,pi_seq p,fun H0 S z held ρ σ H R ds tg ok e k=>?_⟩
 unfold iSeqF at e
 cases h:f ρ with
 | none=>rw [h] at e;cases e
 | some w=>
  obtain ⟨d,tg'⟩:=w
  rw [h] at e
  cases d with
  | lst es=>
   cases e
   refine q H0 S z held ρ σ H _ _ _ ok h fun H1 v fp s1 r1 g1=>?_
   obtain ⟨a,xs,f,rfl,hq,rs,sub⟩:=r1.lst_of
   exact ⟨a,rfl,.inl ⟨⟨xs,hq⟩,k H1 _ [⟨.lst ds,.ref a,fp⟩] s1 (fun h m=>by cases List.mem_singleton.mp m;exact ⟨r1,g1.over ok⟩) itOk_list⟩⟩
  | fls es=>
   cases e
   refine q H0 S z held ρ σ H _ _ _ ok h fun H1 v fp s1 r1 g1=>?_
   obtain ⟨a,xs,rfl,hq,rs⟩:=r1.fls_of
   exact ⟨a,rfl,.inl ⟨⟨xs,hq⟩,k H1 _ [⟨.fls ds,.ref a,fp⟩] s1 (fun h m=>by cases List.mem_singleton.mp m;exact ⟨r1,g1.over ok⟩) itOk_fls⟩⟩
  | tup es=>
   cases e
   refine q H0 S z held ρ σ H _ _ _ ok h fun H1 v fp s1 r1 g1=>?_
   obtain ⟨a,xs,rfl,hq,rs⟩:=r1.tup_of
   exact ⟨a,rfl,.inr ⟨⟨xs,hq⟩,k H1 _ [⟨.tup ds,.ref a,fp⟩] s1 (fun h m=>by cases List.mem_singleton.mp m;exact ⟨r1,g1.over ok⟩) itOk_tup⟩⟩
  | _=>cases e
def small (i:Int):Bool:=decide (-(2 ^ 62)≤i)&&decide (i < 2 ^ 62)
def iR1 (g:EF):IF:=fun ρ=>match g ρ with
 | some (.int j,_)=>if small j=true then some ((List.range j.toNat).map fun i:Nat=>D.int (0 + (i:Int)),.own) else none
 | _=>none
theorem small_of {i:Int} (h:small i=true):-(2 ^ 62)≤i∧i < 2 ^ 62:=by
 obtain ⟨a,b⟩:=(Bool.and_eq_true _ _).mp h
 exact ⟨of_decide_eq_true a,of_decide_eq_true b⟩
theorem fi_range1 {a:Expr}{g:EF}{p pos:Pos} (hm:X.mg "range"=none) (ha:FP X a g) (hg:Gl X "range":=by rfl) (hs:starEach [a] X.env=[(false,eval a X.env)]:=by rfl):FI X tg (.Call (.Name "range" p) [a] [] pos) (iR1 g):=by
 obtain ⟨t,pa,q⟩:=ha
 refine ⟨_,pi_range1 hg hm (pa_cons pa pa_nil hs) hs,fun H0 S z held ρ σ H R ds tg ok e k=>?_⟩
 unfold iR1 at e
 cases h:g ρ with
 | none=>rw [h] at e;cases e
 | some w=>
  obtain ⟨d,tg'⟩:=w
  rw [h] at e
  cases d with
  | int j=>
   dsimp only at e
   by_cases hj:small j=true
   ·rw [if_pos hj] at e
    cases e
    refine q H0 S z held ρ σ H _ _ _ ok h fun H1 v fp s1 r1 g1=>?_
    cases r1
    exact ⟨j,rfl,(small_of hj).1,(small_of hj).2,k H1 _ [] s1 (fun h m=>nomatch m) itOk_range⟩
   ·rw [if_neg hj] at e;cases e
  | _=>cases e
end
def ovr:Tag→List Nat
 | .sh o=>o
 | _=>[]
def itag (t:Tag):Tag:=.sh (ovr t)
def ownAt (ρ:Rho) (j:Nat):Bool:=match ρ[j]? with
 | some (some (_,.own))=>true
 | _=>false
def ownsIn (o:List Nat) (ρ:Rho):List Nat:=o.filter (ownAt ρ)
def lockT:Tag→Tag
 | .own=>.lk
 | t=>t
def unlockT:Tag→Tag
 | .lk=>.own
 | t=>t
def onT (f:Tag→Tag):Slot→Slot
 | some (d,t)=>some (d,f t)
 | none=>none
def lockS:List Nat→Rho→Rho
 | [],ρ=>ρ
 | j::r,ρ=>lockS r (ρ.modify j (onT lockT))
def unlockS:List Nat→Rho→Rho
 | [],ρ=>ρ
 | j::r,ρ=>unlockS r (ρ.modify j (onT unlockT))
def loopF (g:GF) (t:Tag) (f:SF):List D→SF
 | [],ρ=>some (.nx ρ)
 | d::ds,ρ=>match g d t ρ with
  | none=>none
  | some ρ1=>match f ρ1 with
   | some (.nx ρ2)=>loopF g t f ds ρ2
   | some (.ct ρ2)=>loopF g t f ds ρ2
   | some (.bk ρ2)=>some (.nx ρ2)
   | some (.rt r)=>some (.rt r)
   | some (.er raw cn ρ2)=>some (.er raw cn ρ2)
   | none=>none
def sFor (it:IF) (g:GF) (f:SF):SF:=fun ρ=>match it ρ with
 | none=>none
 | some (ds,t)=>match loopF g (itag t) f ds (lockS (ownsIn (ovr t) ρ) ρ) with
  | some (.nx ρ')=>some (.nx (unlockS (ownsIn (ovr t) ρ) ρ'))
  | some (.rt d)=>some (.rt d)
  | some (.er raw cn ρ')=>some (.er raw cn (unlockS (ownsIn (ovr t) ρ) ρ'))
  | _=>none
theorem lockS_at:∀ {ks:List Nat}{ρ:Rho}{i:Nat}{d:D}{t:Tag},(lockS ks ρ)[i]? = some (some (d,t))→∃ t',ρ[i]? = some (some (d,t'))∧(t=t'∨(t'=.own∧t=.lk))∧(i∈ks→t≠.own)
 | [],ρ,i,d,t,h=>⟨t,h,.inl rfl,fun m=>nomatch m⟩
 | j::r,ρ,i,d,t,h=>by
  obtain ⟨t1,h1,h2,h3⟩:=lockS_at (ks:=r) h
  rw [List.getElem?_modify] at h1
  cases e:ρ[i]? with
  | none=>rw [e] at h1;cases h1
  | some s=>
   rw [e] at h1
   have h1':(if j=i then onT lockT s else s)=some (d,t1):=Option.some.inj h1
   by_cases hj:j=i
   ·rw [if_pos hj] at h1'
    cases s with
    | none=>cases h1'
    | some p=>
     obtain ⟨d0,t0⟩:=p
     cases h1'
     refine ⟨t0,rfl,?_,fun _=>?_⟩
     ·rcases h2 with h2 | ⟨h2,h2'⟩
      ·cases t0 <;> first | exact .inl h2 | exact .inr ⟨rfl,h2⟩
      ·cases t0 <;> cases h2
     ·rcases h2 with h2 | ⟨h2,h2'⟩
      ·rw [h2];cases t0 <;> (intro z;cases z)
      ·rw [h2'];intro z;cases z
   ·rw [if_neg hj] at h1'
    subst h1'
    refine ⟨t1,rfl,h2,fun m=>?_⟩
    rcases List.mem_cons.mp m with z | z
    ·exact absurd z.symm hj
    ·exact h3 z
theorem lockS_len:∀ {ks:List Nat}{ρ:Rho},(lockS ks ρ).length=ρ.length
 | [],_=>rfl
 | _::r,ρ=>(lockS_len (ks:=r)).trans (List.length_modify ..)
theorem unlockS_len:∀ {ks:List Nat}{ρ:Rho},(unlockS ks ρ).length=ρ.length
 | [],_=>rfl
 | _::r,ρ=>(unlockS_len (ks:=r)).trans (List.length_modify ..)
theorem unlockS_at:∀ {ks:List Nat}{ρ:Rho}{i:Nat}{d:D}{t:Tag},(unlockS ks ρ)[i]? = some (some (d,t))→∃ t',ρ[i]? = some (some (d,t'))∧(t=t'∨(t'=.lk∧t=.own∧i∈ks))
 | [],ρ,i,d,t,h=>⟨t,h,.inl rfl⟩
 | j::r,ρ,i,d,t,h=>by
  obtain ⟨t1,h1,h2⟩:=unlockS_at (ks:=r) h
  rw [List.getElem?_modify] at h1
  cases e:ρ[i]? with
  | none=>rw [e] at h1;cases h1
  | some s=>
   rw [e] at h1
   have h1':(if j=i then onT unlockT s else s)=some (d,t1):=Option.some.inj h1
   by_cases hj:j=i
   ·rw [if_pos hj] at h1'
    cases s with
    | none=>cases h1'
    | some p=>
     obtain ⟨d0,t0⟩:=p
     cases h1'
     refine ⟨t0,rfl,?_⟩
     rcases h2 with h2 | ⟨h2,h2',h3⟩
     ·cases t0 <;> first | exact .inl h2 | exact .inr ⟨rfl,h2,by rw [hj];exact List.mem_cons_self⟩
     ·cases t0 <;> cases h2
   ·rw [if_neg hj] at h1'
    subst h1'
    refine ⟨t1,rfl,?_⟩
    rcases h2 with h2 | ⟨h2,h2',h3⟩
    ·exact .inl h2
    ·exact .inr ⟨h2,h2',List.mem_cons_of_mem _ h3⟩
def heldAt (z:Addr→Option Nat) (hv:List Hv):List Held:=hv.map fun h=>⟨h.d,h.v,h.fp,z⟩
def rezone (z:Addr→Option Nat) (held:List Held):List Held:=held.map fun h=>{ h with z0:=z }
section
variable {K:PySem.W.Frag}{H0:Hp}{S:List Addr}{z:Addr→Option Nat}{held:List Held}{ρ:Rho}{σ:St}{H:Hp}
theorem Ok.begin {hv:List Hv}{t:Tag} (ok:Ok K H0 S z held ρ σ H) (hh:∀ h∈hv,Rep K H h.d h.v h.fp∧∀ a∈h.fp,∀ j,z a=some j→∃ o,t=.sh o∧j∈o) :
  Ok K H0 S z (heldAt z hv++rezone z held) (lockS (ownsIn (ovr t) ρ) ρ) σ H:=by
 refine ⟨fun i d tg e=>?_,fun p m=>?_,ok.zd,ok.en,by rw [lockS_len];exact ok.ln⟩
 ·obtain ⟨t',e',h,_⟩:=lockS_at e
  obtain ⟨v,fp,a,b,c⟩:=ok.sl i d t' e'
  refine ⟨v,fp,a,b,?_⟩
  rcases h with h | ⟨h,h'⟩
  ·subst h;exact c
  ·subst h h';exact c
 ·have lockNo:∀ j,NoOwn ρ j→NoOwn (lockS (ownsIn (ovr t) ρ) ρ) j:=fun j n d e=>by
   obtain ⟨t',e',h,_⟩:=lockS_at e
   rcases h with h | ⟨h,h'⟩
   ·subst h;exact n d e'
   ·cases h'
  rcases List.mem_append.mp m with m | m
  ·obtain ⟨h,hm,rfl⟩:=List.mem_map.mp m
   refine ⟨(hh h hm).1,fun a ha j q=>⟨q,fun d e=>?_⟩⟩
   obtain ⟨o,rfl,hj⟩:=(hh h hm).2 a ha j q
   obtain ⟨t',e',h',n⟩:=lockS_at e
   rcases h' with h' | ⟨h',h''⟩
   ·subst h'
    exact n (List.mem_filter.mpr ⟨hj,by unfold ownAt;rw [e']⟩) rfl
   ·cases h''
  ·obtain ⟨h,hm,rfl⟩:=List.mem_map.mp m
   obtain ⟨r,hz⟩:=ok.hl h hm
   exact ⟨r,fun a ha j q=>⟨q,lockNo j (hz a ha j q).2⟩⟩
theorem Ok.fin {hv:List Hv}{t:Tag}{z':Addr→Option Nat}{ρ':Rho}{σ':St}{H':Hp} (ok:Ok K H0 S z held ρ σ H) (ok':Ok K H0 S z' (heldAt z hv++rezone z held) ρ' σ' H'):Ok K H0 S z' held (unlockS (ownsIn (ovr t) ρ) ρ') σ' H':=by
 refine ⟨fun i d tg e=>?_,fun p m=>?_,ok'.zd,ok'.en,by rw [unlockS_len];exact ok'.ln⟩
 ·obtain ⟨t',e',h⟩:=unlockS_at e
  obtain ⟨v,fp,a,b,c⟩:=ok'.sl i d t' e'
  refine ⟨v,fp,a,b,?_⟩
  rcases h with h | ⟨h,h',_⟩
  ·subst h;exact c
  ·subst h h';exact c
 ·obtain ⟨r,hz⟩:=ok'.hl { p with z0:=z } (List.mem_append_right _ (List.mem_map.mpr ⟨p,m,rfl⟩))
  refine ⟨r,fun a ha j q=>?_⟩
  obtain ⟨h1,h2⟩:=hz a ha j q
  have h1:z a=some j:=h1
  obtain ⟨h3,h4⟩:=(ok.hl p m).2 a ha j h1
  refine ⟨h3,fun d e=>?_⟩
  obtain ⟨t',e',h⟩:=unlockS_at e
  rcases h with h | ⟨h,_,hk⟩
  ·subst h;exact h2 d e'
  ·have ho:=(List.mem_filter.mp hk).2
   unfold ownAt at ho
   cases e0:ρ[j]? with
   | none=>rw [e0] at ho;cases ho
   | some s=>
    rw [e0] at ho
    cases s with
    | none=>cases ho
    | some p=>
     obtain ⟨d0,t0⟩:=p
     cases t0 <;> first | exact h4 d0 e0 | cases ho
end
section
variable {X:Cx}{pos:Pos}
theorem fs_for {tg iter:Expr}{body:List Stmt}{it:IF}{g:GF}{f:SF}{is:List Nat} (hc:X.calm=true) (hi:FI X tg iter it) (hg:FG X tg g is) (hb:FS X body f) (hp:PassesOwn (model X.prog X.w) X.A X.env X.xe:=by exact PassesOwn.never)
  (hs:∀ x,foldedSetIterable iter X.env x=pure x:=by intro _;rfl):FS1 X (.For tg iter body [] pos) (sFor it g f):=by
 obtain ⟨wi,pi,si⟩:=hi
 obtain ⟨n1,tgt,pg,sg⟩:=hg
 obtain ⟨tb,pb,sb⟩:=hb
 refine ⟨_,ps_for hp hc pi pg pb hs,fun H0 S z held ρ σ H E o ok e k=>?_⟩
 unfold sFor at e
 cases h:it ρ with
 | none=>rw [h] at e;cases e
 | some w=>
  obtain ⟨ds,t⟩:=w
  rw [h] at e
  dsimp only at e
  refine si H0 S z held ρ σ H _ ds t ok h fun H1 J hv s1 hh itok=>?_
  cases ho:loopF g (itag t) f ds (lockS (ownsIn (ovr t) ρ) ρ) with
  | none=>rw [ho] at e;cases e
  | some out=>
   rw [ho] at e
   have ok1:=ok.same s1
   have ok2:=ok1.begin (t:=t) hh
   have fin:∀ {z':Addr→Option Nat}{ρ':Rho}{σ':St}{H':Hp},Ok X.K H0 S z' (heldAt z hv++rezone z held) ρ' σ' H'→out=.nx ρ'→Kp X σ σ'→E.nx σ' H':=fun {z' ρ' σ' H'} ok' eo kp=>by
    subst eo
    cases e
    exact k z' σ' H' (ok1.fin (t:=t) ok') kp
   refine ⟨fun i m σ' H'=>m=ds.length - i∧∃ z' ρ',Ok X.K H0 S z' (heldAt z hv++rezone z held) ρ' σ' H'∧loopF g (itag t) f (ds.drop i) ρ'=some out∧Kp X σ σ',⟨ds.length,rfl,z,_,ok2,ho,.refl _ _⟩,?_⟩
   rintro i m σ' H' ⟨rfl,z',ρ',ok',e',kp⟩
   have hH:∀ h∈hv,Rep X.K H' h.d h.v h.fp:=fun h m=>(ok'.hl _ (List.mem_append_left _ (List.mem_map.mpr ⟨h,m,rfl⟩))).1
   obtain ⟨go,stop⟩:=itok H' i hH
   by_cases hl:ds.length≤i
   ·refine .inl ⟨stop hl,?_⟩
    rw [List.drop_eq_nil_of_le hl] at e'
    cases e'
    exact fin ok' rfl kp
   ·have hlt:i < ds.length:=Nat.lt_of_not_le hl
    rw [List.drop_eq_getElem_cons hlt] at e'
    obtain ⟨g1,g2⟩:=go ds[i] (List.getElem?_eq_getElem hlt)
    refine .inr ⟨g1,fun σ2 H2=>∃ z' ρ',Ok X.K H0 S z' (heldAt z hv++rezone z held) ρ' σ2 H2∧loopF g (itag t) f (ds.drop (i + 1)) ρ'=some out∧Kp X σ σ2,fun σ2 H2 hn=>⟨ds.length - (i + 1),by omega,rfl,hn⟩,fun x H2 y=>?_⟩
    obtain ⟨s2,fp,r2,sub⟩:=g2 x H2 y
    unfold loopF at e'
    cases hg1:g ds[i] (itag t) ρ' with
    | none=>rw [hg1] at e';cases e'
    | some ρ1=>
     rw [hg1] at e'
     dsimp only at e'
     refine sg H0 S z' _ ρ' σ' H' H2 x ds[i] (itag t) fp _ ρ1 ok' s2 r2 (fun a ha j q=>?_) hg1 fun z2 σ2 ok3 a3=>?_
     ·obtain ⟨h,hm,ha'⟩:=sub a ha
      obtain ⟨_,hz⟩:=ok'.hl _ (List.mem_append_left _ (List.mem_map.mpr ⟨h,hm,rfl⟩))
      obtain ⟨q0,_⟩:=hz a ha' j q
      obtain ⟨o',rfl,hj⟩:=(hh h hm).2 a ha' j q0
      exact hj
     ·cases hf:f ρ1 with
      | none=>rw [hf] at e';cases e'
      | some o1=>
       rw [hf] at e'
       refine sb H0 S z2 _ ρ1 σ2 H2 _ o1 ok3 hf ?_
       cases o1 with
       | nx ρ2=>exact fun z3 σ3 H3 ok4 b=>⟨z3,ρ2,ok4,e',(kp.trans (.off n1 a3.2)).trans b⟩
       | ct ρ2=>exact fun z3 σ3 H3 ok4 b=>⟨z3,ρ2,ok4,e',(kp.trans (.off n1 a3.2)).trans b⟩
       | bk ρ2=>
        cases e'
        exact fun z3 σ3 H3 ok4 b=>fin ok4 rfl ((kp.trans (.off n1 a3.2)).trans b)
       | rt d=>
        cases e'
        cases e
        exact k
       | er raw cn ρ2=>
        cases e'
        cases e
        obtain ⟨ES,th,q⟩:=k
        exact ⟨ES,th,fun z3 σ3 H3 C ok4 b hC=>q z3 σ3 H3 C (ok1.fin (t:=t) ok4) ((kp.trans (.off n1 a3.2)).trans b) hC⟩
end
def teS (K:PySem.W.Frag) (f:EF):TE:=fun σ H Q=>∃ H0 S z held ρ d tg,Ok K H0 S z held ρ σ H∧f ρ=some (d,tg)∧∀ H' v fp,Same H H'→Rep K H' d v fp→TagOk z H tg fp→Q v H'
def ttS (K:PySem.W.Frag) (f:TF):TT:=fun σ H Q=>∃ H0 S z held ρ b,Ok K H0 S z held ρ σ H∧f ρ=some b∧∀ H',Same H H'→Q b H'
def tgS (K:PySem.W.Frag) (g:GF) (is:List Nat):TG:=fun v σ H1 Q=>∃ H0 S z held ρ H d tag fp ρ',Ok K H0 S z held ρ σ H∧Same H H1∧Rep K H1 d v fp∧TagOk z H tag fp∧g d tag ρ=some ρ' ∧
 ∀ z' σ',Ok K H0 S z' held ρ' σ' H1→(σ'.length=σ.length∧∀ j,j∉is→σ'[j]? = σ[j]?)→Q σ' H1
section
variable {X:Cx}
theorem FP.pe {e:Expr}{f:EF} (h:FP X e f):PE X e (teS X.K f):=by
 obtain ⟨t,p,q⟩:=h
 intro pins s σ H Q I ⟨H0,S,z,held,ρ,d,tg,ok,e,k⟩
 exact p pins s σ H Q I (q H0 S z held ρ σ H Q d tg ok e k)
theorem FG.pg {e:Expr}{g:GF}{is:List Nat} (h:FG X e g is):PG X e (tgS X.K g is):=by
 obtain ⟨_,t,p,q⟩:=h
 intro pins s σ H1 v u Q I r ⟨H0,S,z,held,ρ,H,d,tag,fp,ρ',ok,sm,rp,tk,e,k⟩
 exact p pins s σ H1 v u Q I r (q H0 S z held ρ σ H H1 v d tag fp Q ρ' ok sm rp tk e k)
end
def FTs (X:Cx) (ifs:List Expr) (f:TF):Prop:=PTs X ifs (ttS X.K f)
def tTrue:TF:=fun _=>some true
theorem fts_nil {X:Cx}:FTs X [] tTrue:=by
 intro pins s σ H Q I ⟨H0,S,z,held,ρ,b,ok,e,k⟩
 cases e
 exact wpAny_tests_nil ⟨H,I,k H (Same.refl H)⟩
def iniR (js:List (Option Nat)) (ρ:Rho):Rho:=js.map fun j=>match j with
 | none=>none
 | some j=>match ρ[j]? with
  | some (some (d,_))=>some (d,.sh [])
  | _=>none
def compE (g:GF) (tt:TF) (te:EF) (ρ:Rho) (d:D):Option (Option D):=match g d (.sh []) ρ with
 | none=>none
 | some ρ1=>match tt ρ1 with
  | none=>none
  | some false=>some none
  | some true=>match te ρ1 with
   | none=>none
   | some (e,t)=>if isOwn t=true then some (some e) else if imm e=true then some (some e) else none
def compF (h:D→Option (Option D)):List D→Option (List D)
 | []=>some []
 | d::ds=>match h d with
  | none=>none
  | some none=>compF h ds
  | some (some e)=>match compF h ds with
   | none=>none
   | some es=>some (e::es)
def eComp (js:List (Option Nat)) (it:IF) (g:GF) (tt:TF) (te:EF):EF:=fun ρ=>match it ρ with
 | none=>none
 | some (ds,_)=>if ds.length < sizeLine then (compF (compE g tt te (iniR js ρ)) ds).map fun es=>(.lst es,.own) else none
theorem compF_ok {h:D→Option (Option D)}{k:D→Option D}:∀ {ds:List D},(∀ d∈ds,h d=some (k d))→compF h ds=some (ds.filterMap k)
 | [],_=>rfl
 | d::ds,e=>by
  unfold compF
  rw [e d List.mem_cons_self,compF_ok fun x m=>e x (List.mem_cons_of_mem _ m),List.filterMap_cons]
  cases k d <;> rfl
section
variable {X:Cx}{pos:Pos}
theorem comp_read {wi:TI}{it:IF}{js:List (Option Nat)}{g:GF}{tt:TF}{te:EF}{is:List Nat} (hjs:∀ i∈is,js[i]? = some none)
  (si:∀ (H0:Hp) (S:List Addr) (z:Addr→Option Nat) (held:List Held) (ρ:Rho) (σ:St) (H:Hp) (R:It→Hp→Prop) (ds:List D) (t:Tag),
   Ok X.K H0 S z held ρ σ H→it ρ=some (ds,t)→(∀ H1 J hv,Same H H1→(∀ h∈hv,Rep X.K H1 h.d h.v h.fp∧∀ a∈h.fp,∀ j,z a=some j→∃ o,t=.sh o∧j∈o)→ItOk X.K J ds hv→R J H1)→wi σ H R)
  (H0:Hp) (S:List Addr) (z:Addr→Option Nat) (held:List Held) (ρ:Rho) (σ:St) (H:Hp) (Q:VK) (d:D) (tg:Tag) (ok:Ok X.K H0 S z held ρ σ H) (e:eComp js it g tt te ρ=some (d,tg))
  (k:∀ H' v fp,Same H H'→Rep X.K H' d v fp→TagOk z H tg fp→Q v H'):tComp wi js (tgS X.K g is) (ttS X.K tt) (teS X.K te) σ H Q:=by
 unfold eComp at e
 cases h:it ρ with
 | none=>rw [h] at e;cases e
 | some w=>
  obtain ⟨ds,t⟩:=w
  rw [h] at e
  dsimp only at e
  by_cases hz:ds.length < sizeLine
  ·rw [if_pos hz] at e
   cases hcf:compF (compE g tt te (iniR js ρ)) ds with
   | none=>rw [hcf] at e;cases e
   | some es=>
    rw [hcf] at e
    cases e
    refine si H0 S z held ρ σ H _ ds t ok h fun H1 J hv s1 hh itok Dd hDd=>?_
    have ok1:=ok.same s1
    have inner:∀ (σ':St) (H2:Hp),Same H1 H2→(∃ o,H2 Dd=some o)→σ'.length=js.length→(∀ j,j∉is→σ'[j]? = (iniC js σ)[j]?)→Ok X.K H1 [] (fun a=>if a=Dd then some js.length else none) (heldAt (fun _=>none) hv) (iniR js ρ) σ' H2:=by
     intro σ' H2 s2 hoD hlen hag
     have nD:∀ {a:Addr}{o:HO},H1 a=some o→a≠Dd:=fun e=>ne_of_none e hDd
     refine ⟨fun i d t e=>?_,fun p m=>?_,fun a j e=>?_,fun a o e _=>s2 _ _ e,by unfold iniR;rw [List.length_map,hlen]⟩
     ·unfold iniR at e
      rw [List.getElem?_map] at e
      cases hj:js[i]? with
      | none=>rw [hj] at e;cases e
      | some o=>
       rw [hj] at e
       cases o with
       | none=>cases e
       | some j=>
        have e:(match ρ[j]? with | some (some (d,_))=>some (d,Tag.sh []) | _=>none)=some (d,t):=Option.some.inj e
        cases hr:ρ[j]? with
        | none=>rw [hr] at e;cases e
        | some s=>
         rw [hr] at e
         cases s with
         | none=>cases e
         | some p=>
          obtain ⟨d0,t0⟩:=p
          have e1:d0=d∧Tag.sh []=t:=Prod.mk.inj (Option.some.inj e)
          obtain ⟨rfl,rfl⟩:=e1
          obtain ⟨v,fp,hs,r,_⟩:=ok1.sl j d0 t0 hr
          have hi:i∉is:=fun m=>by rw [hjs i m] at hj;cases hj
          refine ⟨v,fp,?_,r.same s2,fun a m q e=>?_⟩
          ·rw [hag i hi]
           unfold iniC
           rw [List.getElem?_map,hj]
           show some ((σ[j]?).join)=some (some v)
           rw [hs];rfl
          ·obtain ⟨o,w,_⟩:=r.dom a m
           dsimp only at e
           rw [if_neg (nD w)] at e
           cases e
     ·obtain ⟨h,hm,rfl⟩:=List.mem_map.mp m
      refine ⟨(hh h hm).1.same s2,fun a ha q e=>?_⟩
      obtain ⟨o,w,_⟩:=(hh h hm).1.dom a ha
      rw [if_neg (nD w)] at e
      cases e
     ·by_cases w:a=Dd
      ·rw [w];exact ⟨hoD,.inl hDd⟩
      ·rw [if_neg w] at e;cases e
    refine ⟨fun i m σ' H'=>m=ds.length - i∧Same H1 H'∧σ'.length=js.length∧(∀ j,j∉is→σ'[j]? = (iniC js σ)[j]?)∧∃ done rest vs fp,H' Dd=some (.lst vs)∧Reps X.K H' done vs fp∧fp.Nodup∧(∀ a∈fp,H1 a=none∧a≠Dd) ∧
     compF (compE g tt te (iniR js ρ)) (ds.drop i)=some rest∧done++rest=es∧done.length≤i,?_,?_⟩
    ·refine ⟨ds.length,rfl,fun b o e=>by rw [upd_ne (ne_of_none e hDd)];exact e,by unfold iniC;rw [List.length_map],fun _ _=>rfl,[],es,[],[],upd_same,.nil,List.nodup_nil,(fun a m=>nomatch m),hcf,rfl,Nat.le_refl _⟩
    ·rintro i m σ' H' ⟨rfl,sH,hlen,hag,done,rest,vs,fp,hD,rs,nd,fr,hr,rfl,hle⟩
     obtain ⟨go,stop⟩:=itok H' i fun h m=>(hh h m).1.same sH
     by_cases hl:ds.length≤i
     ·refine .inl ⟨stop hl,?_⟩
      rw [List.drop_eq_nil_of_le hl] at hr
      cases hr
      rw [List.append_nil] at k
      refine k H' (.ref Dd) (Dd::fp) (s1.trans sH) (.lst hD rs) ⟨List.nodup_cons.mpr ⟨fun m=>(fr Dd m).2 rfl,nd⟩,fun a m=>?_⟩
      rcases List.mem_cons.mp m with e | m
      ·rw [e];exact s1.free hDd
      ·exact s1.free (fr a m).1
     ·have hlt:i < ds.length:=Nat.lt_of_not_le hl
      rw [List.drop_eq_getElem_cons hlt] at hr
      obtain ⟨g1,g2⟩:=go ds[i] (List.getElem?_eq_getElem hlt)
      refine .inr ⟨g1,fun x H2 y=>?_⟩
      obtain ⟨s2,fp2,r2,sub⟩:=g2 x H2 y
      have ok2:=inner σ' H' sH ⟨_,hD⟩ hlen hag
      unfold compF at hr
      cases hE:compE g tt te (iniR js ρ) ds[i] with
      | none=>rw [hE] at hr;cases hr
      | some oe=>
       rw [hE] at hr
       unfold compE at hE
       cases hg1:g ds[i] (.sh []) (iniR js ρ) with
       | none=>rw [hg1] at hE;cases hE
       | some ρ1=>
        rw [hg1] at hE
        dsimp only at hE
        have tko:TagOk (fun a=>if a=Dd then some js.length else none) H' (.sh []) fp2:=fun a m j e=>by
         obtain ⟨h,hm,ha⟩:=sub a m
         obtain ⟨o,w,_⟩:=(hh h hm).1.dom a ha
         dsimp only at e
         rw [if_neg (ne_of_none w hDd)] at e
         cases e
        refine ⟨H1,[],_,_,iniR js ρ,H',ds[i],.sh [],fp2,ρ1,ok2,s2,r2,tko,hg1,fun z3 σ3 ok3 ag3=>?_⟩
        have len3:σ3.length=js.length:=ag3.1.trans hlen
        have agc:∀ j,j∉is→σ3[j]? = (iniC js σ)[j]? :=fun j hj=>(ag3.2 j hj).trans (hag j hj)
        cases ht:tt ρ1 with
        | none=>rw [ht] at hE;cases hE
        | some b=>
         rw [ht] at hE
         refine ⟨H1,[],z3,_,ρ1,b,ok3,ht,fun H4 s4=>?_⟩
         have s14:Same H1 H4:=(sH.trans s2).trans s4
         have s04:Same H' H4:=s2.trans s4
         cases b with
         | false=>
          cases hE
          refine iteF ?_
          exact ⟨ds.length - (i + 1),by omega,rfl,s14,len3,agc,done,rest,vs,fp,s04 _ _ hD,rs.same s04,nd,fr,hr,rfl,Nat.le_succ_of_le hle⟩
         | true=>
          refine iteT ?_
          dsimp only at hE
          cases hte:te ρ1 with
          | none=>rw [hte] at hE;cases hE
          | some w=>
           obtain ⟨y,ty⟩:=w
           rw [hte] at hE
           dsimp only at hE
           refine ⟨H1,[],z3,_,ρ1,y,ty,ok3.same s4,hte,fun H5 yv fy s5 ry gy=>?_⟩
           have oe':oe=some y∧fy.Nodup∧∀ a∈fy,H4 a=none:=by
            by_cases ho:isOwn ty=true
            ·rw [if_pos ho] at hE
             cases hE
             exact ⟨rfl,by cases ty <;> first | exact gy | cases ho⟩
            ·rw [if_neg ho] at hE
             by_cases hi:imm y=true
             ·rw [if_pos hi] at hE
              cases hE
              have hn:=ry.imm hi
              subst hn
              exact ⟨rfl,List.nodup_nil,fun a m=>nomatch m⟩
             ·rw [if_neg hi] at hE;cases hE
           obtain ⟨rfl,ndy,fry⟩:=oe'
           dsimp only at hr
           cases hrest:compF (compE g tt te (iniR js ρ)) (ds.drop (i + 1)) with
           | none=>rw [hrest] at hr;cases hr
           | some r'=>
            rw [hrest] at hr
            cases hr
            have s05:Same H' H5:=s04.trans s5
            have hD5:H5 Dd=some (.lst vs):=s05 _ _ hD
            have lv:vs.length < sizeLine:=by rw [← rs.length];omega
            have im:Imm H5 (upd H5 Dd (.lst (vs++[yv]))):=Imm.upd hD5 rfl
            have n1:∀ a∈fp++fy,a≠Dd:=fun a m=>by
             rcases List.mem_append.mp m with m | m
             ·exact (fr a m).2
             ·intro e
              have:=fry a m
              rw [e,s04 _ _ hD] at this;cases this
            have rs5:Reps X.K H5 (done++[y]) (vs++[yv]) (fp++fy):=by
             have q:=Reps.append (rs.same s05) (Reps.cons ry .nil)
             rw [List.append_nil] at q
             exact q
            refine ⟨vs,hD5,lv,ds.length - (i + 1),by omega,rfl,fun b o e=>?_,len3,agc,done++[y],r',vs++[yv],fp++fy,upd_same,rs5.frame (fun a m=>upd_ne (n1 a m)) im,?_,fun a m=>?_,hrest,?_,?_⟩
            ·rw [upd_ne (ne_of_none e hDd)]
             exact s5 _ _ (s14 _ _ e)
            ·refine List.nodup_append.mpr ⟨nd,ndy,fun a m b m' e=>?_⟩
             subst e
             obtain ⟨o,w,_⟩:=(rs.same s04).dom a m
             rw [fry a m'] at w;cases w
            ·refine ⟨?_,n1 a m⟩
             rcases List.mem_append.mp m with m | m
             ·exact (fr a m).1
             ·exact s14.free (fry a m)
            ·rw [List.append_assoc];rfl
            ·rw [List.length_append,List.length_singleton];omega
  ·rw [if_neg hz] at e;cases e
theorem fp_comp {tg iter elt:Expr}{ifs:List Expr}{sc:Scope}{M:List Str}{js:List (Option Nat)}{it:IF}{g:GF}{tt:TF}{te:EF}{is:List Nat} (S:CompScope X M js sc) (hc:X.calm=true) (hi:FI X tg iter it) (hjs:∀ i∈is,js[i]? = some none)
  (hb:∀ s3 H3 fp,FG (cxComp X M sc s3 H3 fp) tg g is∧FTs (cxComp X M sc s3 H3 fp) ifs tt∧FP (cxComp X M sc s3 H3 fp) elt te) (hs:∀ x,foldedSetIterable iter X.env x=pure x:=by intro _;rfl) :
  FP X (.ListComp elt [⟨tg,iter,ifs,0⟩] sc pos) (eComp js it g tt te):=by
 obtain ⟨wi,pi,si⟩:=hi
 exact ⟨_,pe_comp (g:=tgS X.K g is) (tt:=ttS X.K tt) (te:=teS X.K te) S hc pi (fun s3 H3 fp=>⟨(hb s3 H3 fp).1.pg,(hb s3 H3 fp).2.1,(hb s3 H3 fp).2.2.pe⟩) hs,fun H0 S z held ρ σ H Q d tg ok e k=>comp_read hjs si H0 S z held ρ σ H Q d tg ok e k⟩
theorem fs_setC (i:Nat) {y:Str}{tg iter elt:Expr}{ifs:List Expr}{sc:Scope}{py spos:Pos}{M:List Str}{js:List (Option Nat)}{it:IF}{g:GF}{tt:TF}{te:EF}{is:List Nat} (hN:X.N.Nodup) (S:CompScope X M js sc) (hc:X.calm=true) (hi:FI X tg iter it)
  (hjs:∀ i∈is,js[i]? = some none) (hb:∀ s3 H3 fp,FG (cxComp X M sc s3 H3 fp) tg g is∧FTs (cxComp X M sc s3 H3 fp) ifs tt∧FP (cxComp X M sc s3 H3 fp) elt te) (hy:X.N[i]? = some y:=by rfl) (hl:X.env.scope.names.lookup y=some .local:=by rfl)
  (hsw:swapsWith (.ListComp elt [⟨tg,iter,ifs,0⟩] sc pos) (some (.Name y py)) spos.line X.env=pure true:=by rfl) (hs:∀ x,foldedSetIterable iter X.env x=pure x:=by intro _;rfl) (hself:kpt X y=false:=by rfl) :
  FS1 X (.Assign [.Name y py] (.ListComp elt [⟨tg,iter,ifs,0⟩] sc pos) spos) (sSet i (eComp js it g tt te)):=by
 obtain ⟨wi,pi,si⟩:=hi
 refine ⟨_,ps_setC (i:=i) (g:=tgS X.K g is) (tt:=ttS X.K tt) (te:=teS X.K te) hN hy hl S hc pi (fun s3 H3 fp=>⟨(hb s3 H3 fp).1.pg,(hb s3 H3 fp).2.1,(hb s3 H3 fp).2.2.pe⟩) hsw hs,fun H0 S z held ρ σ H E o ok e k=>?_⟩
 unfold sSet at e
 cases h:eComp js it g tt te ρ with
 | none=>rw [h] at e;cases e
 | some w=>
  obtain ⟨d,tg⟩:=w
  rw [h] at e
  cases e
  refine comp_read hjs si H0 S z held ρ σ H _ d tg ok h fun H1 v fp s1 r1 g1=>?_
  exact ok.stored s1 r1 g1 fun z' ok'=>k z' _ H1 ok' (.set hy hself)
end
def iniF (n:Nat) (ds:List D):Rho:=ds.map (fun d=>some (d,.sh []))++List.replicate (n - ds.length) none
def runF (n N:Nat) (b:SF):List D→Option D:=fun ds=>if ds.length=n then (match b (iniF N ds) with
 | some (.rt d)=>some d
 | some (.nx _)=>some .non
 | _=>none) else none
section
variable {P:Program}{w:World}{K:PySem.W.Frag}{mg:Str→Option Value}{base:Heap}
theorem fn_F {cm:Bool}{x qual:Str}{st:Stmt}{f:Addr}{fd:FuncData}{N ps:List Str}{k:Nat}{b:SF} (F:Fun K x qual st f fd) (S:FnScope N ps (defScope st))
  (hb:∀ (cdv:Value) (A:Around) (outer:List Env) (s:Shared) (H:Hp) (E:XK),Room k (A.deeper (envOfC qual (defScope st) s.heap.objs.size f cdv)) cm→FS (cxOf CX0 P w K mg base N qual (defScope st) f cdv A outer s H E cm).nox (defBody st) b) :
  FnOk P w K mg base CX0 (k + 1) f fd ps (spF K (runF ps.length N.length b)) cm:=by
 have lenF:∀ {ds:List D}{d:D},runF ps.length N.length b ds=some d→ds.length=ps.length:=fun {ds d} e=>by
  unfold runF at e
  by_cases h:ds.length=ps.length
  ·exact h
  ·rw [if_neg h] at e;cases e
 refine F.ok S (fun vs H Q E ⟨ds,fp,d,rs,e,_⟩=>?_) (fun cdv A outer s H vs Q E hr ⟨ds,fp,d,rs,e,q⟩=>?_)
 ·rw [← rs.length];exact lenF e
 ·obtain ⟨t,p,sd⟩:=hb cdv A outer s H E hr
  refine ⟨t,p,?_⟩
  have hl:=lenF e
  have hlv:=rs.length
  have ok:Ok K H [] (fun _=>none) [] (iniF N.length ds) (start N vs) H:=by
   refine ⟨fun i d' t' e'=>?_,(fun p m=>by cases m),(fun a j e=>by cases e),(fun a o e _=>e),?_⟩
   ·unfold iniF at e'
    by_cases hi:i < ds.length
    ·rw [List.getElem?_append_left (by rw [List.length_map];exact hi),List.getElem?_map,List.getElem?_eq_getElem hi] at e'
     cases e'
     obtain ⟨v,f',hv,rv,_⟩:=rs.get (List.getElem?_eq_getElem hi)
     refine ⟨v,f',?_,rv,fun a _ j e=>by cases e⟩
     unfold start
     rw [List.getElem?_append_left (by rw [List.length_map];omega),List.getElem?_map,hv]
     rfl
    ·rw [List.getElem?_append_right (by rw [List.length_map];omega),List.getElem?_replicate] at e'
     split at e' <;> cases e'
   ·unfold iniF start
    rw [List.length_append,List.length_append,List.length_map,List.length_map,List.length_replicate,List.length_replicate,hlv]
  unfold runF at e
  rw [if_pos hl] at e
  cases ho:b (iniF N.length ds) with
  | none=>rw [ho] at e;cases e
  | some o=>
   rw [ho] at e
   refine sd H [] (fun _=>none) [] (iniF N.length ds) (start N vs) H _ o ok ho ?_
   cases o with
   | rt d'=>
    cases e
    exact fun H' v fp' en r nd fr=>q H' v fp' (fun a o e=>en a o e (fun m=>nomatch m)) r nd fun a m=>(fr a m).resolve_right fun m=>nomatch m
   | nx ρ'=>
    cases e
    exact fun z' σ' H' ok' _=>q H' .non [] (fun a o e=>ok'.en a o e (fun m=>nomatch m)) .non List.nodup_nil fun a m=>nomatch m
   | bk _=>cases e
   | ct _=>cases e
   | er _ _ _=>cases e
end
def iop (f:Int→Int→Int):D→D→Option D
 | .int i,.int j=>some (.int (f i j))
 | _,_=>none
def iopC (C:Int→Int→Bool) (f:Int→Int→Int):D→D→Option D
 | .int i,.int j=>if C i j=true then some (.int (f i j)) else none
 | _,_=>none
def iopB (f:Int→Int→Bool):D→D→Option D
 | .int i,.int j=>some (.bl (f i j))
 | _,_=>none
def cMul (i j:Int):Bool:=(decide (-(2 ^ 64) < i)&&decide (i < 2 ^ 64))||(decide (-(2 ^ 64) < j)&&decide (j < 2 ^ 64))
def cPos (_ j:Int):Bool:=decide (0 < j)
def oAdd:=iop fun i j=>i + j
def oSub:=iop fun i j=>i - j
def oMul:=iopC cMul fun i j=>i * j
def oMod:=iopC cPos fun i j=>i % j
def oLt:=iopB fun i j=>decide (i < j)
def oLe:=iopB fun i j=>decide (i≤j)
def oEq:D→D→Option D
 | .int i,.int j=>some (.bl (i == j))
 | .bl i,.bl j=>some (.bl (i == j))
 | .str i,.str j=>some (.bl (i == j))
 | .non,.non=>some (.bl true)
 | _,_=>none
def oNe:D→D→Option D
 | .int i,.int j=>some (.bl (!(i == j)))
 | .bl i,.bl j=>some (.bl (!(i == j)))
 | .str i,.str j=>some (.bl (!(i == j)))
 | .non,.non=>some (.bl false)
 | _,_=>none
section
variable {K:PySem.W.Frag}
theorem does_i {g:Int→Int→Int}:Does2 K (rI0 fun i j=>.int (g i j)) (iop g):=by
 intro H x y d1 d2 f1 f2 d Q r1 r2 e k
 unfold iop at e
 split at e
 ·cases e
  exact ⟨_,_,r1.int_of.1,r2.int_of.1,k H _ (Same.refl H) (.int _)⟩
 ·cases e
theorem does_iB {g:Int→Int→Bool}:Does2 K (rI0 fun i j=>.bl (g i j)) (iopB g):=by
 intro H x y d1 d2 f1 f2 d Q r1 r2 e k
 unfold iopB at e
 split at e
 ·cases e
  exact ⟨_,_,r1.int_of.1,r2.int_of.1,k H _ (Same.refl H) (.bl _)⟩
 ·cases e
theorem does_iC {C:Int→Int→Prop}{c:Int→Int→Bool}{g:Int→Int→Int} (h:∀ i j,c i j=true→C i j):Does2 K (rI C fun i j=>.int (g i j)) (iopC c g):=by
 intro H x y d1 d2 f1 f2 d Q r1 r2 e k
 unfold iopC at e
 split at e
 ·rename_i i j
  by_cases hc:c i j=true
  ·rw [if_pos hc] at e
   cases e
   exact ⟨i,j,r1.int_of.1,r2.int_of.1,h i j hc,k H _ (Same.refl H) (.int _)⟩
  ·rw [if_neg hc] at e;cases e
 ·cases e
theorem cMul_ok (i j:Int) (h:cMul i j=true):CMul i j:=by
 unfold cMul at h
 unfold CMul
 rcases (Bool.or_eq_true _ _).mp h with h | h
 ·obtain ⟨a,b⟩:=(Bool.and_eq_true _ _).mp h
  exact .inl ⟨of_decide_eq_true a,of_decide_eq_true b⟩
 ·obtain ⟨a,b⟩:=(Bool.and_eq_true _ _).mp h
  exact .inr ⟨of_decide_eq_true a,of_decide_eq_true b⟩
theorem does_eq:Does2 K rEq oEq:=by
 intro H x y d1 d2 f1 f2 d Q r1 r2 e k
 unfold oEq at e
 split at e
 ·cases e;rw [r1.int_of.1,r2.int_of.1];refine ⟨rfl,?_⟩;rw [dec_int];exact k H _ (Same.refl H) (.bl _)
 ·cases e;rw [r1.bl_of.1,r2.bl_of.1];refine ⟨rfl,?_⟩;rw [dec_bl];exact k H _ (Same.refl H) (.bl _)
 ·cases e;rw [r1.str_of.1,r2.str_of.1];refine ⟨rfl,?_⟩;rw [dec_str];exact k H _ (Same.refl H) (.bl _)
 ·cases e;rw [r1.non_of.1,r2.non_of.1];exact ⟨rfl,by have:=k H (.bl true) (Same.refl H) (.bl _);simpa using this⟩
 ·cases e
theorem does_ne:Does2 K rNe oNe:=by
 intro H x y d1 d2 f1 f2 d Q r1 r2 e k
 unfold oNe at e
 split at e
 ·cases e;rw [r1.int_of.1,r2.int_of.1];refine ⟨rfl,?_⟩;rw [dec_int];exact k H _ (Same.refl H) (.bl _)
 ·cases e;rw [r1.bl_of.1,r2.bl_of.1];refine ⟨rfl,?_⟩;rw [dec_bl];exact k H _ (Same.refl H) (.bl _)
 ·cases e;rw [r1.str_of.1,r2.str_of.1];refine ⟨rfl,?_⟩;rw [dec_str];exact k H _ (Same.refl H) (.bl _)
 ·cases e;rw [r1.non_of.1,r2.non_of.1];exact ⟨rfl,by have:=k H (.bl false) (Same.refl H) (.bl _);simpa using this⟩
 ·cases e
end
section
variable {X:Cx}{a b:Expr}{fa fb:EF}{pos:Pos}
theorem fp_add (ha:FP X a fa) (hb:FP X b fb):FP X (.BinOp a .Add b pos) (e2 oAdd fa fb):=fp_bin op_add does_i ha hb
theorem fp_sub (ha:FP X a fa) (hb:FP X b fb):FP X (.BinOp a .Sub b pos) (e2 oSub fa fb):=fp_bin op_sub does_i ha hb
theorem fp_mul (ha:FP X a fa) (hb:FP X b fb):FP X (.BinOp a .Mult b pos) (e2 oMul fa fb):=fp_bin op_mul (does_iC cMul_ok) ha hb
theorem fp_mod (ha:FP X a fa) (hb:FP X b fb):FP X (.BinOp a .Mod b pos) (e2 oMod fa fb):=fp_bin op_mod (does_iC fun _ _ h=>of_decide_eq_true h) ha hb
theorem ft_lt (ha:FP X a fa) (hb:FP X b fb):FT X (.Compare a [.Lt] [b] pos) (tV (e2 oLt fa fb)):=ft_cmp op_lt does_iB ha hb (nomark _)
theorem ft_eq (ha:FP X a fa) (hb:FP X b fb):FT X (.Compare a [.Eq] [b] pos) (tV (e2 oEq fa fb)):=ft_cmp op_eq does_eq ha hb (nomark _)
theorem ft_ne (ha:FP X a fa) (hb:FP X b fb):FT X (.Compare a [.NotEq] [b] pos) (tV (e2 oNe fa fb)):=ft_cmp op_ne does_ne ha hb (nomark _)
theorem fp_eq (ha:FP X a fa) (hb:FP X b fb):FP X (.Compare a [.Eq] [b] pos) (e2 oEq fa fb):=fp_cmp op_eq does_eq ha hb (nomark _)
def e1 (op:D→Option D) (fa:EF):EF:=fun ρ=>match fa ρ with
 | some (d1,_)=>(op d1).map fun d=>(d,.own)
 | none=>none
theorem e1_of {op:D→Option D}{fa:EF}{ρ:Rho}{d:D}{tg:Tag} (e:e1 op fa ρ=some (d,tg)):∃ d1 t1,fa ρ=some (d1,t1)∧op d1=some d∧tg=.own:=by
 unfold e1 at e
 cases h1:fa ρ with
 | none=>rw [h1] at e;cases e
 | some p=>
  obtain ⟨d1,t1⟩:=p
  rw [h1] at e
  dsimp only at e
  cases h3:op d1 with
  | none=>rw [h3] at e;cases e
  | some d3=>rw [h3] at e;cases e;exact ⟨d1,t1,rfl,h3,rfl⟩
def Does1 (K:PySem.W.Frag) (r:List V→Hp→VK→Prop) (op:D→Option D):Prop:=∀ (H:Hp) (x:V) (d1:D) (f1:List Addr) (d:D) (Q:VK),Rep K H d1 x f1→op d1=some d →
 (∀ H' v fp,Same H H'→Rep K H' d v fp→fp.Nodup→(∀ a∈fp,H a=none)→Q v H')→r [x] H Q
theorem fp_1 {e:Expr}{r:List V→Hp→VK→Prop}{op:D→Option D} (dd:Does1 X.K r op) (ha:FP X a fa) (he:∀ ta,PE X a ta→PE X e (tCB r (tCons ta tNil))):FP X e (e1 op fa):=by
 obtain ⟨t,p,q⟩:=ha
 refine ⟨_,he t p,fun H0 S z held ρ σ H Q d tg ok e k=>?_⟩
 obtain ⟨d1,t1,h1,h2,rfl⟩:=e1_of e
 refine q H0 S z held ρ σ H _ d1 t1 ok h1 fun H1 x f1 s1 r1 _=>?_
 exact dd H1 x d1 f1 d Q r1 h2 fun H2 v fp s2 r2 nd fr=>k H2 v fp (s1.trans s2) r2 ⟨nd,fun a m=>s1.free (fr a m)⟩
def oLen:D→Option D
 | .lst ds=>some (.int ds.length)
 | .fls ds=>some (.int ds.length)
 | .tup ds=>some (.int ds.length)
 | .dic es=>some (.int es.length)
 | _=>none
theorem CallR.or' {f:Value}{r r':List V→Hp→VK→Prop} (h:CallR X f r) (h':CallR X f r'):CallR X f (fun xs H Q=>r xs H Q∨r' xs H Q):=by
 intro pins s σ H xs us Q I rv q
 rcases q with q | q
 ·exact h pins s σ H xs us Q I rv q
 ·exact h' pins s σ H xs us Q I rv q
theorem does_len:Does1 X.K (fun xs H Q=>(∃ p ys,xs=[V.ref p]∧(SqL X.K H p ys∨SqT X.K H p ys)∧Q (.int ys.length) H)∨(∃ a kvs,xs=[V.ref a]∧H a=some (.dK kvs)∧Q (.int kvs.length) H)) oLen:=by
 intro H x d1 f1 d Q r e k
 have fin:∀ n:Nat,d=.int n→Q (.int n) H:=fun n e=>by subst e;exact k H _ [] (Same.refl H) (.int _) List.nodup_nil fun a m=>nomatch m
 cases d1 with
 | lst ds=>
  obtain ⟨a,xs,f,rfl,hq,rs,_⟩:=r.lst_of
  cases e
  exact .inl ⟨a,xs,rfl,.inl hq,by rw [← rs.length];exact fin _ rfl⟩
 | fls ds=>
  obtain ⟨a,xs,rfl,hq,rs⟩:=r.fls_of
  cases e
  exact .inl ⟨a,xs,rfl,.inl hq,by rw [← rs.length];exact fin _ rfl⟩
 | tup ds=>
  obtain ⟨a,xs,rfl,hq,rs⟩:=r.tup_of
  cases e
  exact .inl ⟨a,xs,rfl,.inr hq,by rw [← rs.length];exact fin _ rfl⟩
 | dic es=>
  cases r with
  | dic h hk rs=>
   cases e
   refine .inr ⟨_,_,rfl,h,?_⟩
   have hl:=congrArg List.length hk
   rw [List.length_map,List.length_map] at hl
   rw [← hl]
   exact fin _ rfl
 | _=>cases e
theorem fp_len {p:Pos} (hm:X.mg "len"=none) (ha:FP X a fa) (hg:Gl X "len":=by rfl) (hs:starEach [a] X.env=[(false,eval a X.env)]:=by rfl):FP X (.Call (.Name "len" p) [a] [] pos) (e1 oLen fa):=
 fp_1 does_len ha fun ta pa=>pe_callB (CallR.or' call_len_seq call_lenD) hg hm PySem.boot_len (pa_cons pa pa_nil hs) (he:=hs) (hpl:=rfl)
end
def oIx:D→D→Option D
 | .fls ds,.int i=>(atI ds i).bind fun d=>if imm d=true then some d else none
 | .lst ds,.int i=>(atI ds i).bind fun d=>if imm d=true then some d else none
 | .tup ds,.int i=>(atI ds i).bind fun d=>if imm d=true then some d else none
 | _,_=>none
theorem does_ix {K:PySem.W.Frag}:Does2 K (fun x y H Q=>rIxL K x y H Q∨rIxT K x y H Q∨rIxS x y H Q) oIx:=by
 intro H x y d1 d2 f1 f2 d Q r1 r2 e k
 have key:∀ {ds:List D}{xs:List V}{f:List Addr}{i:Int},Reps K H ds xs f→((atI ds i).bind fun d=>if imm d=true then some d else none)=some d→∃ v,atI xs i=some v∧Rep K H d v []:=fun {ds xs f i} rs e=>by
  unfold atI at e ⊢
  rw [← rs.length]
  cases h:ixN ds.length i with
  | none=>rw [h] at e;cases e
  | some j=>
   rw [h,Option.bind_some] at e
   rw [Option.bind_some]
   cases h2:ds[j]? with
   | none=>rw [h2] at e;cases e
   | some d'=>
    rw [h2,Option.bind_some] at e
    by_cases hi:imm d'=true
    ·rw [if_pos hi] at e
     cases e
     obtain ⟨v,f',hv,rv,_⟩:=rs.get h2
     have hn:=rv.imm hi
     subst hn
     exact ⟨v,hv,rv⟩
    ·rw [if_neg hi] at e;cases e
 unfold oIx at e
 split at e
 ·obtain ⟨a,xs,rfl,hq,rs⟩:=r1.fls_of
  obtain ⟨v,hv,rv⟩:=key rs e
  exact .inl ⟨a,xs,_,v,rfl,r2.int_of.1,hq,hv,k H v (Same.refl H) rv⟩
 ·obtain ⟨a,xs,f,rfl,hq,rs,_⟩:=r1.lst_of
  obtain ⟨v,hv,rv⟩:=key rs e
  exact .inl ⟨a,xs,_,v,rfl,r2.int_of.1,hq,hv,k H v (Same.refl H) rv⟩
 ·obtain ⟨a,xs,rfl,hq,rs⟩:=r1.tup_of
  obtain ⟨v,hv,rv⟩:=key rs e
  exact .inr (.inl ⟨a,xs,_,v,rfl,r2.int_of.1,hq,hv,k H v (Same.refl H) rv⟩)
 ·cases e
theorem fp_ix {X:Cx}{a b:Expr}{fa fb:EF}{pos:Pos} (ha:FP X a fa) (hb:FP X b fb) (hs:PlainIx b:=by exact fun _ _=>rfl):FP X (.Subscript a b pos) (e2 oIx fa fb):=fp_2 does_ix ha hb fun _ _ pa pb=>pe_ix ix_seq pa pb hs
section
variable {ρ ρ':Rho}{i j:Nat}{d d1 d2:D}{t t1 t2:Tag}{op2:D→D→Option D}{op1:D→Option D}{f g fa fb:EF}{tf tg:TF}{sf sg:SF}{o:Out}
def varK (i:Nat):Option Slot→Option (D×Tag)
 | some (some (d,t))=>some (d,tagOf i t)
 | _=>none
theorem s_eC:eC d ρ=some (d,.own):=rfl
def k1 (op:D→Option D):Option (D×Tag)→Option (D×Tag)
 | some (d,_)=>(op d).map fun d=>(d,.own)
 | none=>none
theorem s_e1:e1 op1 fa ρ=k1 op1 (fa ρ):=by unfold e1 k1;cases fa ρ <;> rfl
theorem s_k1:k1 op1 (some (d,t))=(op1 d).map fun d=>(d,.own):=rfl
def k2 (op:D→D→Option D):Option (D×Tag)→Option (D×Tag)→Option (D×Tag)
 | some (d1,_),some (d2,_)=>(op d1 d2).map fun d=>(d,.own)
 | _,_=>none
theorem s_e2:e2 op2 fa fb ρ=k2 op2 (fa ρ) (fb ρ):=by unfold e2 k2;cases fa ρ <;> cases fb ρ <;> rfl
theorem s_k2:k2 op2 (some (d1,t1)) (some (d2,t2))=(op2 d1 d2).map fun d=>(d,.own):=rfl
theorem s_map {α β:Type}{f:α→β}{a:α}:(some a).map f=some (f a):=rfl
def kV:Option (D×Tag)→Option Bool
 | some (.bl b,_)=>some b
 | _=>none
theorem s_tV:tV fa ρ=Ev.kV (fa ρ):=by
 unfold tV Ev.kV
 cases fa ρ with
 | none=>rfl
 | some p=>obtain ⟨d,t⟩:=p;cases d <;> rfl
theorem s_and:tAnd2 tf tg ρ=(match tf ρ with | some true=>tg ρ | some false=>some false | none=>none):=rfl
theorem s_and2 {a b:Bool} (h:tf ρ=some a) (h2:tg ρ=some b):tAnd2 tf tg ρ=some (a&&b):=by unfold tAnd2;rw [h];cases a <;> first | exact h2 | rfl
theorem s_or2 {a b:Bool} (h:tf ρ=some a) (h2:tg ρ=some b):tOr2 tf tg ρ=some (a||b):=by unfold tOr2;rw [h];cases a <;> first | exact h2 | rfl
theorem s_not:tNot1 tf ρ=(tf ρ).map fun b=>!b:=rfl
theorem s_nx:sNx ρ=some (.nx ρ):=rfl
def seqK (g:SF):Option Out→Option Out
 | some (.nx ρ)=>g ρ
 | o=>o
theorem s_seq:sSeq sf sg ρ=seqK sg (sf ρ):=by
 unfold sSeq seqK
 cases sf ρ with
 | none=>rfl
 | some o=>cases o <;> rfl
theorem s_seqN:seqK sg (some (.nx ρ))=sg ρ:=rfl
def ifK (sf sg:SF) (ρ:Rho):Option Bool→Option Out
 | some true=>sf ρ
 | some false=>sg ρ
 | none=>none
theorem s_if:sIf tf sf sg ρ=ifK sf sg ρ (tf ρ):=by unfold sIf ifK;cases tf ρ <;> rfl
theorem s_ifT:ifK sf sg ρ (some true)=sf ρ:=rfl
theorem s_ifF:ifK sf sg ρ (some false)=sg ρ:=rfl
def retK:Option (D×Tag)→Option Out
 | some (d,t)=>if isOwn t=true then some (.rt d) else if imm d=true then some (.rt d) else none
 | none=>none
theorem s_ret:sRet fa ρ=retK (fa ρ):=by unfold sRet retK;cases fa ρ <;> rfl
def setK (i:Nat) (ρ:Rho):Option (D×Tag)→Option Out
 | some (d,t)=>some (.nx (setS ρ i d t))
 | none=>none
theorem s_set:sSet i fa ρ=setK i ρ (fa ρ):=by unfold sSet setK;cases fa ρ <;> rfl
theorem s_aNil:aNil ρ=some []:=rfl
def consK:Option (D×Tag)→Option (List (D×Tag))→Option (List (D×Tag))
 | some p,some ps=>some (p::ps)
 | _,_=>none
theorem s_aCons {a:AF}:aCons fa a ρ=consK (fa ρ) (a ρ):=by unfold aCons consK;cases fa ρ <;> cases a ρ <;> rfl
theorem s_consK {p:D×Tag}{ps:List (D×Tag)}:consK (some p) (some ps)=some (p::ps):=rfl
theorem s_call {F:List D→Option D}{a:AF}:eCall F a ρ=(a ρ).bind fun ps=>(F (ps.map (·.1))).map fun d=>(d,.own):=rfl
theorem s_bind {α β:Type}{f:α→Option β}{a:α}:(some a).bind f=f a:=rfl
theorem s_tup {a:AF}:eTup a ρ=(a ρ).map fun ps=>(.tup (ps.map (·.1)),joinA ps):=rfl
variable {m n:Int}
theorem s_oAdd:oAdd (.int m) (.int n)=some (.int (m + n)):=rfl
theorem s_oMul (h:cMul m n=true):oMul (.int m) (.int n)=some (.int (m * n)):=by show (if cMul m n=true then some (D.int (m * n)) else none)=_;rw [if_pos h]
theorem s_oMod (h:0 < n):oMod (.int m) (.int n)=some (.int (m % n)):=by show (if cPos m n=true then some (D.int (m % n)) else none)=_;rw [if_pos (show cPos m n=true from decide_eq_true h)]
theorem s_oLt:oLt (.int m) (.int n)=some (.bl (decide (m < n))):=rfl
theorem s_oLe:oLe (.int m) (.int n)=some (.bl (decide (m≤n))):=rfl
theorem s_lenL {ds:List D}:oLen (.lst ds)=some (.int ds.length):=rfl
theorem s_lenF {ds:List D}:oLen (.fls ds)=some (.int ds.length):=rfl
theorem s_ixL {ds:List D} (h:atI ds m=some d) (hi:imm d=true):oIx (.lst ds) (.int m)=some d:=by show ((atI ds m).bind fun d=>if imm d=true then some d else none)=_;rw [h,Option.bind_some,if_pos hi]
theorem runF_rt {n N:Nat}{b:SF}{ds:List D} (hl:ds.length=n) (h:b (iniF N ds)=some (.rt d)):runF n N b ds=some d:=by unfold runF;rw [if_pos hl,h]
end
def dI (ns:List Int):D:=.fls (ns.map D.int)
section
variable {κ:Type} [DecidableEq κ]
def valD (es:List (κ×D)) (k:κ):Option D:=(es.find? fun kv=>decide (kv.1=k)).map (·.2)
end
def keyD:D→Option Key
 | .int i=>some (.inl i)
 | .str x=>some (.inr x)
 | _=>none
def oGet:D→D→Option D
 | .dic es,kd=>match keyD kd with
  | some k=>(valD es k).bind fun d=>if imm d=true then some d else none
  | none=>none
 | _,_=>none
section
variable {X:Cx}{a b c:Expr}{fa fb fc:EF}{pos:Pos}
def oGetD (d1 d2 d3:D):Option D:=match d1,keyD d2 with
 | .dic es,some k=>match valD es k with
  | some d=>if imm d=true then some d else none
  | none=>if imm d3=true then some d3 else none
 | _,_=>none
def e3 (op:D→D→D→Option D) (fa fb fc:EF):EF:=fun ρ=>match fa ρ,fb ρ,fc ρ with
 | some (d1,_),some (d2,_),some (d3,_)=>(op d1 d2 d3).map fun d=>(d,.own)
 | _,_,_=>none
end
def dropT (i:Nat):Slot→Slot
 | some (d,.sh o)=>if o.contains i=true then none else some (d,.sh o)
 | s=>s
def mutS (ρ:Rho) (i:Nat) (d:D):Rho:=(ρ.map (dropT i)).set i (some (d,.own))
theorem Ok.mutate {K:PySem.W.Frag}{H0:Hp}{S:List Addr}{z:Addr→Option Nat}{held:List Held}{ρ:Rho}{σ:St}{H:Hp}{i:Nat}{d0 d1:D}{v:V}{fp:List Addr}{p:Addr}{o o':HO} (ok:Ok K H0 S z held ρ σ H) (h:ρ[i]? = some (some (d0,.own)))
  (hs:σ[i]? = some (some v)) (zz:InZ z i .own fp) (hp:p∈fp) (ho:H p=some o) (mo:MutO o=true) (r1:Rep K (upd H p o') d1 v fp):Ok K H0 S z held (mutS ρ i d1) σ (upd H p o'):=by
 have im:Imm H (upd H p o'):=Imm.upd ho mo
 have zp:z p=some i:=zz.2 p hp
 have hiρ:i < ρ.length:=(List.getElem?_eq_some_iff.mp h).1
 refine ⟨fun j d t e=>?_,fun q m=>?_,fun a j e=>?_,fun a u e n=>?_,?_⟩
 ·unfold mutS at e
  by_cases hj:j=i
  ·subst hj
   rw [List.getElem?_set_self (by rw [List.length_map];exact hiρ)] at e
   cases e
   exact ⟨v,fp,hs,r1,zz⟩
  ·rw [List.getElem?_set_ne (Ne.symm hj),List.getElem?_map] at e
   cases e0:ρ[j]? with
   | none=>rw [e0] at e;cases e
   | some s=>
    rw [e0] at e
    have e:dropT i s=some (d,t):=Option.some.inj e
    have e1:s=some (d,t)∧∀ o,t=.sh o→¬ i∈o:=by
     cases s with
     | none=>cases e
     | some w=>
      obtain ⟨d',t'⟩:=w
      cases t' with
      | sh o=>
       have e:(if o.contains i=true then none else some (d',Tag.sh o))=some (d,t):=e
       by_cases hc:o.contains i=true
       ·rw [if_pos hc] at e;cases e
       ·rw [if_neg hc] at e
        cases e
        exact ⟨rfl,fun o' eo m=>by cases eo;exact hc (List.contains_iff_mem.mpr m)⟩
      | own=>cases e;exact ⟨rfl,fun o eo=>by cases eo⟩
      | lk=>cases e;exact ⟨rfl,fun o eo=>by cases eo⟩
    obtain ⟨rfl,nd⟩:=e1
    obtain ⟨v',fp',hs',r',z'⟩:=ok.sl j d t e0
    have np:∀ a∈fp',a≠p:=fun a m e=>by
     subst e
     cases t with
     | sh o=>exact nd o rfl (z' a m i zp)
     | own=>have:=z'.2 a m;rw [zp] at this;exact hj (Option.some.inj this).symm
     | lk=>have:=z'.2 a m;rw [zp] at this;exact hj (Option.some.inj this).symm
    exact ⟨v',fp',hs',r'.frame (fun a m=>upd_ne (np a m)) im,z'⟩
 ·obtain ⟨r,hz⟩:=ok.hl q m
  have np:∀ a∈q.fp,a≠p:=fun a m e=>by
   subst e
   exact (hz a m i zp).2 d0 h
  refine ⟨r.frame (fun a m=>upd_ne (np a m)) im,fun a ha j e=>?_⟩
  obtain ⟨h1,h2⟩:=hz a ha j e
  have hj:j≠i:=fun e=>h2 d0 (by rw [e];exact h)
  refine ⟨h1,fun d e=>?_⟩
  unfold mutS at e
  rw [List.getElem?_set_ne (Ne.symm hj),List.getElem?_map] at e
  cases e0:ρ[j]? with
  | none=>rw [e0] at e;cases e
  | some s=>
   rw [e0] at e
   have e:dropT i s=some (d,.own):=Option.some.inj e
   cases s with
   | none=>cases e
   | some w=>
    obtain ⟨d',t'⟩:=w
    cases t' with
    | sh o=>
     have e:(if o.contains i=true then none else some (d',Tag.sh o))=some (d,.own):=e
     split at e <;> cases e
    | own=>exact h2 d' e0
    | lk=>cases e
 ·obtain ⟨⟨u,w⟩,y⟩:=ok.zd a j e
  refine ⟨?_,y⟩
  by_cases ea:a=p
  ·subst ea;exact ⟨_,upd_same⟩
  ·exact ⟨u,by rw [upd_ne ea];exact w⟩
 ·have w:=ok.en a u e n
  rw [upd_ne]
  ·exact w
  ·intro ea
   subst ea
   rcases (ok.zd a i zp).2 with q | q
   ·rw [q] at e;cases e
   ·exact n q
 ·unfold mutS
  rw [List.length_set,List.length_map]
  exact ok.ln
def ins1 (x:Int):List Int→List Int
 | []=>[x]
 | y::r=>if x≤y then x::y::r else y::ins1 x r
theorem ins1_perm (x:Int):∀ l:List Int,(ins1 x l).Perm (x::l)
 | []=>.refl _
 | y::r=>by
  unfold ins1
  split
  ·exact .refl _
  ·exact ((ins1_perm x r).cons y).trans (.swap x y r)
def intsD:List D→Option (List Int)
 | []=>some []
 | .int i::r=>(intsD r).map (i::·)
 | _=>none
theorem reps_ints {K:PySem.W.Frag}{H:Hp}:∀ ns:List Int,Reps K H (ns.map D.int) (ns.map V.int) []
 | []=>.nil
 | n::r=>Reps.cons (f1:=[]) (f2:=[]) (.int n) (reps_ints r)
section
variable {X:Cx}{a b:Expr}{fa fb:EF}{pos:Pos}
def oTuple:D→Option D
 | .lst ds=>if immAll ds=true then some (.tup ds) else none
 | .tup ds=>if immAll ds=true then some (.tup ds) else none
 | _=>none
theorem does_tuple:Does1 X.K (fun xs H Q=>∃ p ys,xs=[V.ref p]∧((SqL X.K H p ys∧∀ l,H l=none→Q (.ref l) (upd H l (.tup ys)))∨(SqT X.K H p ys∧Q (.ref p) H))) oTuple:=by
 intro H x d1 f1 d Q r e k
 cases d1 with
 | lst ds=>
  obtain ⟨a,xs,f,rfl,hq,rs,_⟩:=r.lst_of
  have e:(if immAll ds=true then some (D.tup ds) else none)=some d:=e
  by_cases hi:immAll ds=true
  ·rw [if_pos hi] at e
   cases e
   have hn:=rs.imm hi
   subst hn
   refine ⟨a,xs,rfl,.inl ⟨hq,fun l hl=>?_⟩⟩
   have s2:Same H (upd H l (.tup xs)):=fun b o e=>by rw [upd_ne (ne_of_none e hl)];exact e
   exact k _ _ [] s2 (.tup (SqT.of upd_same) (rs.same s2)) List.nodup_nil fun a m=>nomatch m
  ·rw [if_neg hi] at e;cases e
 | tup ds=>
  obtain ⟨a,xs,rfl,hq,rs⟩:=r.tup_of
  have e:(if immAll ds=true then some (D.tup ds) else none)=some d:=e
  by_cases hi:immAll ds=true
  ·rw [if_pos hi] at e
   cases e
   have hn:=rs.imm hi
   subst hn
   exact ⟨a,xs,rfl,.inr ⟨hq,k H _ [] (Same.refl H) (.tup hq rs) List.nodup_nil fun a m=>nomatch m⟩⟩
  ·rw [if_neg hi] at e;cases e
 | _=>cases e
theorem fp_tuple {p:Pos} (hm:X.mg "tuple"=none) (ha:FP X a fa) (hg:Gl X "tuple":=by rfl) (hs:starEach [a] X.env=[(false,eval a X.env)]:=by rfl):FP X (.Call (.Name "tuple" p) [a] [] pos) (e1 oTuple fa):=
 fp_1 does_tuple ha fun ta pa=>pe_callTy call_tuple_of hg hm (show bootBuiltins "tuple"=some (.type "tuple") by decide +kernel) (pa_cons pa pa_nil hs) (he:=hs) (hpl:=rfl)
end
section
variable {X:Cx}{pins:List (Addr×Obj)}{σ:St}{H:Hp}{s:Shared}
def scopeOk (N:List Str) (osc sc:Scope) (M:List Str) (js:List (Option Nat)):Bool:=
 (sc.kind == .function)&&sc.names.all (fun y=>y.2 != .cell)&&sc.names.all (fun y=>if y.2 == .local then sc.names.lookup y.1 == some .local else true)&&capOk N sc M js&&(frees sc).all (fun x=>osc.names.lookup x == some .cell||osc.names.lookup x == some .free)&&decide M.Nodup
theorem compScope_mk {X:Cx}{N:List Str}{osc sc:Scope}{M:List Str}{js:List (Option Nat)} (h1:X.N=N) (h2:X.env.scope=osc) (h3:X.env.kindOf=fun x=>osc.names.lookup x) (h:scopeOk N osc sc M js=true):CompScope X M js sc:=by
 unfold scopeOk at h
 obtain ⟨h,a6⟩:=(Bool.and_eq_true _ _).mp h
 obtain ⟨h,a5⟩:=(Bool.and_eq_true _ _).mp h
 obtain ⟨h,a4⟩:=(Bool.and_eq_true _ _).mp h
 obtain ⟨h,a3⟩:=(Bool.and_eq_true _ _).mp h
 obtain ⟨a1,a2⟩:=(Bool.and_eq_true _ _).mp h
 refine ⟨?_,fun y hy=>?_,fun y hy hl=>?_,?_,fun x hx=>?_,of_decide_eq_true a6⟩
 ·cases hk:sc.kind <;> rw [hk] at a1 <;> first | rfl | exact absurd a1 (by decide)
 ·have:=List.all_eq_true.mp a2 y hy
  intro z
  rw [z] at this
  exact absurd this (by decide)
 ·have:=List.all_eq_true.mp a3 y hy
  rw [hl] at this
  have this:(sc.names.lookup y.1 == some NameKind.local)=true:=this
  cases q:sc.names.lookup y.1 with
  | none=>rw [q] at this;exact absurd this (by decide)
  | some k=>rw [q] at this;cases k <;> first | rfl | exact absurd this (by decide)
 ·rw [h1];exact a4
 ·have:=List.all_eq_true.mp a5 x hx
  rw [h3]
  dsimp only
  cases q:osc.names.lookup x with
  | none=>rw [q] at this;exact absurd this (by decide)
  | some k=>rw [q] at this;cases k <;> first | exact .inl rfl | exact .inr rfl | exact absurd this (by decide)
end
theorem TagOk.back {z:Addr→Option Nat}{H H1:Hp}{t:Tag}{fp:List Addr} (g:TagOk z H1 t fp) (s:Same H H1):TagOk z H t fp:=by
 cases t with
 | sh o=>exact g
 | own=>exact ⟨g.1,fun a m=>s.free (g.2 a m)⟩
 | lk=>exact ⟨g.1,fun a m=>s.free (g.2 a m)⟩
section
variable {X:Cx}{a b:Expr}{fa fb:EF}{pos:Pos}
def eAnd (fa fb:EF):EF:=fun ρ=>match fa ρ with
 | some (.bl true,_)=>fb ρ
 | some (.bl false,_)=>some (.bl false,.own)
 | _=>none
def eOr (fa fb:EF):EF:=fun ρ=>match fa ρ with
 | some (.bl true,_)=>some (.bl true,.own)
 | some (.bl false,_)=>fb ρ
 | _=>none
def oNot:D→Option D
 | .bl b=>some (.bl (!b))
 | _=>none
theorem fp_one {op} (h:FP X a fa):FP X (.BoolOp op [a] pos) fa:=let ⟨t,p,q⟩:=h;⟨t,pe_one p,q⟩
theorem fp_and {rest:List Expr} (ha:FP X a fa) (hb:FP X (.BoolOp .And (b::rest) pos) fb):FP X (.BoolOp .And (a::b::rest) pos) (eAnd fa fb):=by
 obtain ⟨t,p,q⟩:=ha
 obtain ⟨t',p',q'⟩:=hb
 refine ⟨_,pe_and p p',fun H0 S z held ρ σ H Q d tg ok e k=>?_⟩
 unfold eAnd at e
 split at e
 ·rename_i tt h
  refine q H0 S z held ρ σ H _ _ tt ok h fun H1 v fp s1 r1 _=>?_
  cases r1
  refine ⟨true,rfl,?_⟩
  rw [if_pos rfl]
  exact q' H0 S z held ρ σ H1 _ d tg (ok.same s1) e fun H2 v fp s2 r2 g2=>k H2 v fp (s1.trans s2) r2 (g2.back s1)
 ·rename_i tt h
  cases e
  refine q H0 S z held ρ σ H _ _ tt ok h fun H1 v fp s1 r1 _=>?_
  cases r1
  refine ⟨false,rfl,?_⟩
  rw [if_neg Bool.false_ne_true]
  exact k H1 _ [] s1 (.bl _) .nil
 ·cases e
theorem fp_or {rest:List Expr} (ha:FP X a fa) (hb:FP X (.BoolOp .Or (b::rest) pos) fb):FP X (.BoolOp .Or (a::b::rest) pos) (eOr fa fb):=by
 obtain ⟨t,p,q⟩:=ha
 obtain ⟨t',p',q'⟩:=hb
 refine ⟨_,pe_or p p',fun H0 S z held ρ σ H Q d tg ok e k=>?_⟩
 unfold eOr at e
 split at e
 ·rename_i tt h
  cases e
  refine q H0 S z held ρ σ H _ _ tt ok h fun H1 v fp s1 r1 _=>?_
  cases r1
  refine ⟨true,rfl,?_⟩
  rw [if_pos rfl]
  exact k H1 _ [] s1 (.bl _) .nil
 ·rename_i tt h
  refine q H0 S z held ρ σ H _ _ tt ok h fun H1 v fp s1 r1 _=>?_
  cases r1
  refine ⟨false,rfl,?_⟩
  rw [if_neg Bool.false_ne_true]
  exact q' H0 S z held ρ σ H1 _ d tg (ok.same s1) e fun H2 v fp s2 r2 g2=>k H2 v fp (s1.trans s2) r2 (g2.back s1)
 ·cases e
theorem fp_not (ha:FP X a fa):FP X (.UnaryOp .Not a pos) (e1 oNot fa):=by
 obtain ⟨t,p,q⟩:=ha
 refine ⟨_,pe_not p,fun H0 S z held ρ σ H Q d tg ok e k=>?_⟩
 obtain ⟨d1,t1,h1,h2,rfl⟩:=e1_of e
 refine q H0 S z held ρ σ H _ d1 t1 ok h1 fun H1 v fp s1 r1 _=>?_
 cases r1 <;> cases h2
 exact ⟨_,rfl,k H1 _ [] s1 (.bl _) .nil⟩
def oCat:D→D→Option D
 | .lst ds,.lst es=>if (immAll ds&&immAll es&&decide (ds.length + es.length≤sizeLine))=true then some (.lst (ds++es)) else none
 | _,_=>none
theorem fp_cat (ha:FP X a fa) (hb:FP X b fb):FP X (.BinOp a .Add b pos) (e2 oCat fa fb):=by
 obtain ⟨ta,pa,sa⟩:=ha
 obtain ⟨tb,pb,sb⟩:=hb
 refine ⟨_,pe_op op_cat pa pb,fun H0 S z held ρ σ H Q d tg ok e q=>?_⟩
 obtain ⟨d1,t1,d2,t2,e1,e2',e3,rfl⟩:=e2_of e
 refine sa H0 S z held ρ σ H _ d1 t1 ok e1 fun H1 x f1 s1 r1 _=>?_
 refine sb H0 S z held ρ σ H1 _ d2 t2 (ok.same s1) e2' fun H2 y f2 s2 r2 _=>?_
 have r1':=r1.same s2
 cases r1' with
 | @lst p xs ds f h rs=>
  cases r2 with
  | @lst p' ys es f' h' rs'=>
   have e3:(if (immAll ds&&immAll es&&decide (ds.length + es.length≤sizeLine))=true then some (D.lst (ds++es)) else none)=some d:=e3
   by_cases hc:(immAll ds&&immAll es&&decide (ds.length + es.length≤sizeLine))=true
   ·rw [if_pos hc] at e3
    cases e3
    obtain ⟨c1,c3⟩:=(Bool.and_eq_true _ _).mp hc
    obtain ⟨c1,c2⟩:=(Bool.and_eq_true _ _).mp c1
    have n1:=rs.imm c1
    have n2:=rs'.imm c2
    subst n1 n2
    refine ⟨p,p',xs,ys,rfl,rfl,h,h',by rw [← rs.length,← rs'.length];exact of_decide_eq_true c3,fun l hl=>?_⟩
    have s3:Same H2 (upd H2 l (.lst (xs++ys))):=fun b o e=>by rw [upd_ne (ne_of_none e hl)];exact e
    have rr:Reps X.K H2 (ds++es) (xs++ys) []:=Reps.append (f:=[]) (g:=[]) rs rs'
    refine q _ _ [l] ((s1.trans s2).trans s3) (.lst upd_same (rr.same s3)) ⟨List.nodup_cons.mpr ⟨(fun m=>by cases m),List.nodup_nil⟩,fun a m=>?_⟩
    cases List.mem_singleton.mp m
    exact (s1.trans s2).free hl
   ·rw [if_neg hc] at e3;cases e3
  | _=>cases e3
 | _=>cases d2 <;> cases e3
def tyD:D→Option String
 | .int _=>some "int"
 | .bl _=>some "bool"
 | .str _=>some "str"
 | .non=>some "NoneType"
 | .lst _=>some "list"
 | .dic _=>some "dict"
 | _=>none
def oIsi (T:String) (d:D):Option D:=match tyD d with
 | some t=>some (.bl (t == T||(t == "bool"&&T == "int")))
 | none=>none
def isiOk (T:String):Prop:=∀ (K:PySem.W.Frag) (t:String),t∈["int","bool","str","NoneType","list","dict"]→PySem.W.kitOne K (.type t) (.type T)=some (t == T||(t == "bool"&&T == "int"))
theorem isi_int:isiOk "int":=by
 intro K t m
 simp only [List.mem_cons,List.not_mem_nil,or_false] at m
 rcases m with rfl | rfl | rfl | rfl | rfl | rfl <;> rfl
theorem isi_bool:isiOk "bool":=by
 intro K t m
 simp only [List.mem_cons,List.not_mem_nil,or_false] at m
 rcases m with rfl | rfl | rfl | rfl | rfl | rfl <;> rfl
theorem call_isi (T:String):CallR X (.builtin "isinstance") (fun xs H Q=>∃ x t b,xs=[x,V.ty T]∧TyOf X.K H x t∧PySem.W.kitOne X.K t (.type T)=some b∧Q (.bl b) H):=by
 intro pins s σ H xs us Q I r h
 obtain ⟨x,t,bb,rfl,ty,e,q⟩:=h
 obtain ⟨u,w',rfl,ru,rw'⟩:=vals2 r
 cases rw'
 exact isinst_ok I ru ty e fun tk=>⟨.bl bb,H,I.tok tk,rfl,q⟩
theorem Rep.ty {K:PySem.W.Frag}{H:Hp}{d:D}{v:V}{fp:List Addr}{t:String} (r:Rep K H d v fp) (e:tyD d=some t):TyOf K H v (.type t)∧t∈["int","bool","str","NoneType","list","dict"]:=by
 cases r with
 | non=>cases e;exact ⟨.non,by decide⟩
 | bl b=>cases e;exact ⟨.bl b,by decide⟩
 | int i=>cases e;exact ⟨.int i,by decide⟩
 | str x=>cases e;exact ⟨.str x,by decide⟩
 | lst h _=>cases e;exact ⟨.lst h,by decide⟩
 | dic h _ _=>cases e;exact ⟨.dK h,by decide⟩
 | tup _ _=>cases e
 | lsf _ _=>cases e
 | dit _ _ _=>cases e
 | ins _ _ _ _=>cases e
 | exc _ _ _=>cases e
theorem fp_isi {T:String}{x:Str}{p p2:Pos} (hT:isiOk T) (hm:X.mg "isinstance"=none) (hmT:X.mg x=none) (ha:FP X a fa) (hbT:bootBuiltins x=some (.type T):=by decide +kernel) (hg:Gl X "isinstance":=by rfl) (hgT:Gl X x:=by rfl) (hn:x≠"__name__":=by decide) (hdb:(x == ("__debug__":Str))=false:=by decide)
  (hs:starEach [a,.Name x p2] X.env=[(false,eval a X.env),(false,eval (.Name x p2) X.env)]:=by rfl) (hpl:(backTo pos (starEach [.Name x p2] X.env)).any (·.1)=false:=by rfl):FP X (.Call (.Name "isinstance" p) [a,.Name x p2] [] pos) (e1 (oIsi T) fa):=by
 obtain ⟨ta,pa,sa⟩:=ha
 have hs2:starEach [.Name x p2] X.env=[(false,eval (.Name x p2) X.env)]:=rfl
 refine ⟨_,pe_callB (call_isi T) hg hm (show bootBuiltins "isinstance"=some (.builtin "isinstance") by decide +kernel) (pa_cons pa (pa_cons (pe_bltn (v:=.ty T) hgT hmT hbT rfl hn hdb) pa_nil) (by rw [hs,hs2])) (he:=by rw [hs,hs2]) (hpl:=hpl),fun H0 S z held ρ σ H Q d tg ok e k=>?_⟩
 obtain ⟨d1,t1,h1,h2,rfl⟩:=e1_of e
 refine sa H0 S z held ρ σ H _ d1 t1 ok h1 fun H1 v fp s1 r1 _=>?_
 unfold oIsi at h2
 cases ht:tyD d1 with
 | none=>rw [ht] at h2;cases h2
 | some t=>
  rw [ht] at h2
  cases h2
  obtain ⟨ty,mem⟩:=r1.ty ht
  exact ⟨v,_,_,rfl,ty,hT X.K t mem,k H1 _ [] s1 (.bl _) .nil⟩
end
end L2.Ev
namespace L2.Ev
open PySem
section
variable {g:GF}{t:Tag}{f:SF}
theorem for_nx {it:IF}{ds:List D}{ρ ρ':Rho} (hi:it ρ=some (ds,t)) (h:loopF g (itag t) f ds (lockS (ownsIn (ovr t) ρ) ρ)=some (.nx ρ')):sFor it g f ρ=some (.nx (unlockS (ownsIn (ovr t) ρ) ρ')):=by unfold sFor;rw [hi];dsimp only;rw [h]
theorem for_nx0 {it:IF}{ds:List D}{ρ ρ':Rho} (hi:it ρ=some (ds,.own)) (h:loopF g (.sh []) f ds ρ=some (.nx ρ')):sFor it g f ρ=some (.nx ρ'):=for_nx hi h
theorem ir1 {e:EF}{ρ:Rho}{n:Int}{t:Tag} (h:e ρ=some (.int n,t)) (hs:small n=true):iR1 e ρ=some ((List.range n.toNat).map fun i:Nat=>D.int (0 + (i:Int)),.own):=by unfold iR1;rw [h];dsimp only;rw [if_pos hs]
theorem iseqL {e:EF}{ρ:Rho}{ds:List D} (h:e ρ=some (.lst ds,t)):iSeqF e ρ=some (ds,t):=by unfold iSeqF;rw [h]
theorem comp_ok {js:List (Option Nat)}{it:IF}{tt:TF}{te:EF}{ρ:Rho}{ds:List D}{k:D→Option D} (hi:it ρ=some (ds,t)) (hl:ds.length < sizeLine) (h:∀ d∈ds,compE g tt te (iniR js ρ) d=some (k d)) :
  eComp js it g tt te ρ=some (.lst (ds.filterMap k),.own):=by unfold eComp;rw [hi];dsimp only;rw [if_pos hl,compF_ok h];rfl
theorem compE_own {tt:TF}{te:EF}{ρ ρ1:Rho}{d e:D} (h1:g d (.sh []) ρ=some ρ1) (h2:tt ρ1=some true) (h3:te ρ1=some (e,.own)):compE g tt te ρ d=some (some e):=by unfold compE;rw [h1];dsimp only;rw [h2];dsimp only;rw [h3];rfl
theorem compE_imm {tt:TF}{te:EF}{ρ ρ1:Rho}{d e:D}{tg:Tag} (h1:g d (.sh []) ρ=some ρ1) (h2:tt ρ1=some true) (h3:te ρ1=some (e,tg)) (hi:imm e=true):compE g tt te ρ d=some (some e):=by
 unfold compE;rw [h1];dsimp only;rw [h2];dsimp only;rw [h3];dsimp only
 by_cases ho:isOwn tg=true
 ·rw [if_pos ho]
 ·rw [if_neg ho,if_pos hi]
end
open PySem PySem.Spec PyProof.Rows
mutual
def py:D→PyData
 | .bl b=>.bool b
 | .int i=>.int i
 | .str x=>.str x
 | .tup ds=>.tuple (pys ds)
 | .lst ds=>.list (pys ds)
 | .fls ds=>.list (pys ds)
 | _=>.none
def pys:List D→List PyData
 | []=>[]
 | d::ds=>py d::pys ds
end
mutual
def okPy:D→Bool
 | .non | .bl _ | .int _ | .str _=>true
 | .tup ds | .lst ds | .fls ds=>okPys ds
 | _=>false
def okPys:List D→Bool
 | []=>true
 | d::ds=>okPy d&&okPys ds
end
section
variable {X:Cx}{pins:List (Addr×Obj)}{σ:St}{H:Hp}{s:Shared}
mutual
theorem reads_of (I:Inv X pins σ H s):∀ {d:D}{v:V}{f:List Addr}{u:Value},Rep X.K H d v f→RelV v u→okPy d=true→∃ as,Reads s.heap u (py d) as
 | .non,_,_,_,r,q,_=>by cases r;cases q;exact ⟨_,by unfold py;exact .none⟩
 | .bl b,_,_,_,r,q,_=>by cases r;cases q;exact ⟨_,by unfold py;exact .bool b⟩
 | .int i,_,_,_,r,q,_=>by cases r;obtain ⟨t,rfl⟩:=q;exact ⟨_,by unfold py;exact .int i t⟩
 | .str x,_,_,_,r,q,_=>by cases r;obtain ⟨t,rfl⟩:=q;exact ⟨_,by unfold py;exact .str x t⟩
 | .tup ds,_,_,_,r,q,e=>by
  obtain ⟨a,xs,rfl,hq,rs⟩:=r.tup_of
  cases q
  obtain ⟨us,v1,⟨o,h1,h2,n,h3⟩,_⟩:=I.tuple hq
  obtain ⟨as,ra⟩:=readsAll_of I rs v1 (by unfold okPy at e;exact e)
  exact ⟨_,by unfold py;exact .tuple h1 h2 h3 (by simpa using ra)⟩
 | .lst ds,_,_,_,r,q,e=>by
  obtain ⟨a,xs,f,rfl,hq,rs,_⟩:=r.lst_of
  cases q
  obtain ⟨us,v1,⟨o,n,h1,h2,_,h3⟩,_⟩:=I.list hq
  obtain ⟨as,ra⟩:=readsAll_of I rs v1 (by unfold okPy at e;exact e)
  exact ⟨_,by unfold py;exact .list h1 h2 h3 (by simpa using ra)⟩
 | .fls ds,_,_,_,r,q,e=>by
  obtain ⟨a,xs,rfl,hq,rs⟩:=r.fls_of
  cases q
  obtain ⟨us,v1,⟨o,n,h1,h2,_,h3⟩,_⟩:=I.list hq
  obtain ⟨as,ra⟩:=readsAll_of I rs v1 (by unfold okPy at e;exact e)
  exact ⟨_,by unfold py;exact .list h1 h2 h3 (by simpa using ra)⟩
 | .dic _,_,_,_,_,_,e=>by unfold okPy at e;cases e
 | .dit _,_,_,_,_,_,e=>by unfold okPy at e;cases e
 | .ins _ _,_,_,_,_,_,e=>by unfold okPy at e;cases e
 | .exc _,_,_,_,_,_,e=>by unfold okPy at e;cases e
theorem readsAll_of (I:Inv X pins σ H s):∀ {ds:List D}{xs:List V}{f:List Addr}{us:List Value},Reps X.K H ds xs f→Vals xs us→okPys ds=true→∃ as,ReadsAll s.heap us (pys ds) as
 | [],_,_,_,r,q,_=>by cases r;cases q;exact ⟨_,by unfold pys;exact .nil⟩
 | d::ds,_,_,_,r,q,e=>by
  cases r with
  | cons r1 r2=>
   cases q with
   | cons q1 q2=>
    unfold okPys at e
    obtain ⟨e1,e2⟩:=(Bool.and_eq_true _ _).mp e
    obtain ⟨as,h1⟩:=reads_of I r1 q1 e1
    obtain ⟨bs,h2⟩:=readsAll_of I r2 q2 e2
    exact ⟨_,by unfold pys;exact .cons h1 h2⟩
end
end
def dRow (r:List Int):D:=.tup (r.map D.int)
def dRows (rs:List (List Int)):List D:=rs.map dRow
theorem pys_ints:∀ r:List Int,pys (r.map D.int)=r.map PyData.int
 | []=>rfl
 | i::r=>by rw [List.map_cons,List.map_cons];unfold pys;rw [pys_ints r];unfold py;rfl
theorem okPys_ints:∀ r:List Int,okPys (r.map D.int)=true
 | []=>rfl
 | i::r=>by rw [List.map_cons];unfold okPys;rw [okPys_ints r];rfl
theorem depthAll_ints:∀ r:List Int,PyData.depthAll (r.map PyData.int)=0
 | []=>rfl
 | i::r=>by rw [List.map_cons];simp only [PyData.depthAll,PyData.depth,depthAll_ints r];rfl
def pRow (r:List Int):PyData:=.tuple (r.map PyData.int)
theorem py_row (r:List Int):py (dRow r)=pRow r:=by unfold dRow pRow;unfold py;rw [pys_ints]
theorem pys_rows:∀ rs:List (List Int),pys (dRows rs)=rs.map pRow
 | []=>rfl
 | r::rs=>by
  show pys (dRow r::dRows rs)=pRow r::rs.map pRow
  unfold pys
  rw [py_row,pys_rows rs]
theorem okPys_rows:∀ rs:List (List Int),okPys (dRows rs)=true
 | []=>rfl
 | r::rs=>by
  show okPys (dRow r::dRows rs)=true
  unfold okPys
  rw [okPys_rows rs,Bool.and_true]
  unfold dRow okPy
  exact okPys_ints r
def layOk (d:D):Bool:=okPy d&&(py d).canLay0&&decide ((py d).depth≤40)
def oNeP (d1 d2:D):Option D:=if (layOk d1&&layOk d2)=true then some (.bl (!PyData.eqv (py d1) (py d2))) else none
def rEqP (K:PySem.W.Frag) (neg:Bool):R2:=fun x y H Q=>∃ d1 d2 f1 f2,Rep K H d1 x f1∧Rep K H d2 y f2∧layOk d1=true∧layOk d2=true∧Q (.bl (if neg=true then !PyData.eqv (py d1) (py d2) else PyData.eqv (py d1) (py d2))) H
section
variable {X:Cx}{a b:Expr}{fa fb:EF}{pos:Pos}
theorem lay_of {d:D} (h:layOk d=true):okPy d=true∧(py d).canLay0=true∧(py d).depth≤40:=by
 unfold layOk at h
 obtain ⟨h,h3⟩:=(Bool.and_eq_true _ _).mp h
 obtain ⟨h1,h2⟩:=(Bool.and_eq_true _ _).mp h
 exact ⟨h1,h2,of_decide_eq_true h3⟩
theorem op_neP (hu:X.A.units + 64 < cLine):OpR X (compareOp .NotEq) (rEqP X.K true):=by
 intro pins s σ H x y v u Q I rx ry h
 obtain ⟨d1,d2,f1,f2,r1,r2,l1,l2,q⟩:=h
 obtain ⟨a1,a2,a3⟩:=lay_of l1
 obtain ⟨b1,b2,b3⟩:=lay_of l2
 obtain ⟨as,ra⟩:=reads_of I r1 rx a1
 obtain ⟨bs,rb⟩:=reads_of I r2 ry b1
 exact SeqAt.compareNe_reads ra rb a2 b2 (by omega) ⟨.bl _,H,I,rfl,q⟩
theorem does_neP {K:PySem.W.Frag}:Does2 K (rEqP K true) oNeP:=by
 intro H x y d1 d2 f1 f2 d Q r1 r2 e k
 unfold oNeP at e
 by_cases hc:(layOk d1&&layOk d2)=true
 ·rw [if_pos hc] at e
  cases e
  obtain ⟨c1,c2⟩:=(Bool.and_eq_true _ _).mp hc
  exact ⟨d1,d2,f1,f2,r1,r2,c1,c2,k H _ (Same.refl H) (.bl _)⟩
 ·rw [if_neg hc] at e;cases e
theorem ft_neP (hu:X.A.units + 64 < cLine) (ha:FP X a fa) (hb:FP X b fb):FT X (.Compare a [.NotEq] [b] pos) (tV (e2 oNeP fa fb)):=ft_cmp (op_neP hu) does_neP ha hb (nomark _)
end
theorem s_nePR {d:D} (h:layOk d=true):oNeP d d=some (.bl false):=by unfold oNeP;rw [h,Bool.and_self,if_pos rfl,SeqAt.eqv_refl _ (lay_of h).2.1];rfl
theorem canAll_ints:∀ r:List Int,PyData.canLayAll0 (r.map PyData.int)=true
 | []=>rfl
 | i::r=>by rw [List.map_cons];simp only [PyData.canLayAll0,PyData.canLay0,canAll_ints r,Bool.and_self]
theorem canAll_rows:∀ rs:List (List Int),PyData.canLayAll0 (rs.map pRow)=true∧PyData.depthAll (rs.map pRow)≤1
 | []=>⟨rfl,by simp [PyData.depthAll]⟩
 | r::rs=>by
  obtain ⟨h1,h2⟩:=canAll_rows rs
  rw [List.map_cons]
  refine ⟨by simp only [PyData.canLayAll0,pRow,PyData.canLay0,h1,Bool.and_true];exact canAll_ints r,?_⟩
  simp only [PyData.depthAll,pRow,PyData.depth,depthAll_ints r];omega
end L2.Ev
namespace L2.Ev
open PySem PySem.Spec PyProof.Rows
theorem isi_tuple:isiOk "tuple":=by
 intro K t m
 simp only [List.mem_cons,List.not_mem_nil,or_false] at m
 rcases m with rfl | rfl | rfl | rfl | rfl | rfl <;> rfl
section
variable {X:Cx}{a b c:Expr}{fa fb:EF}{tc:TF}{pos:Pos}
def cPw (i j:Int):Bool:=decide (0≤j)&&decide (j≤1000000)&&decide (i.natAbs < 2 ^ 64)
def oPow:=iopC cPw fun i j=>i ^ j.toNat
theorem fp_pow (ha:FP X a fa) (hb:FP X b fb):FP X (.BinOp a .Pow b pos) (e2 oPow fa fb):=fp_bin op_pow (does_iC fun i j h=>by
 obtain ⟨h,h3⟩:=(Bool.and_eq_true _ _).mp h
 obtain ⟨h1,h2⟩:=(Bool.and_eq_true _ _).mp h
 exact ⟨of_decide_eq_true h1,of_decide_eq_true h2,of_decide_eq_true h3⟩) ha hb
def oIn (neg:Bool):D→D→Option D
 | .int i,.lst ds=>(intsD ds).map fun ns=>.bl (if neg=true then !(ns.any (· == i)) else ns.any (· == i))
 | _,_=>none
def sApp (i:Nat) (fv:EF):SF:=fun ρ=>match fv ρ,ρ[i]? with
 | some (d,_),some (some (.lst ds,.own))=>if (imm d&&immAll ds&&decide (ds.length < sizeLine))=true then some (.nx (mutS ρ i (.lst (ds++[d])))) else none
 | _,_=>none
theorem fs_app (i:Nat) {x:Str}{fv:EF}{p1 p2 p3:Pos} (hv:FP X a fv) (hN:X.N[i]? = some x:=by rfl) (hvis:Vis X.env.scope x:=by first | exact Or.inl rfl | exact Or.inr (Or.inl rfl) | exact Or.inr (Or.inr rfl))
  (hd:(x == ("__debug__":Str))=false:=by decide) (hcd:(x == ("__classdict__":Str))=false:=by decide) (hs:starEach [a] X.env=[(false,eval a X.env)]:=by rfl)
  (hbase:attributeBase (.Name x p1) "append" X.env (eval (.Name x p1) X.env)=eval (.Name x p1) X.env:=by rfl)
  (hfew:((backTo p3 (starEach [a] X.env)).all (fun x=>!x.1)&&(backToKw p3 (keywordEach [] X.env)).all (fun x=>x.1.isSome)&&decide ([a].length + ([]:List Keyword).length + (if ([]:List Keyword).isEmpty then 0 else 1) < 30))=true:=by rfl)
  (hline:(p2.endLine == p3.line)=true:=by rfl) (hsw:swapsWith (.Call (.Attribute (.Name x p1) "append" p2) [a] [] p3) none pos.line X.env=pure false:=by rfl) :
  FS1 X (.Expr (.Call (.Attribute (.Name x p1) "append" p2) [a] [] p3) pos) (sApp i fv):=by
 obtain ⟨tv,pv',sv⟩:=hv
 refine ⟨_,ps_expr (pe_bm PySem.F.plainAttrs_list PySem.F.slot_list_append PySem.F.type_list_append mt_append (pe_var (i:=i) hN hvis hd hcd) (pa_cons pv' pa_nil hs) hbase hfew hline hs rfl) hsw,fun H0 S z held ρ σ H E o ok e q=>?_⟩
 unfold sApp at e
 split at e
 ·rename_i d td ds g1 g2
  by_cases hc:(imm d&&immAll ds&&decide (ds.length < sizeLine))=true
  ·rw [if_pos hc] at e
   cases e
   obtain ⟨c1,c3⟩:=(Bool.and_eq_true _ _).mp hc
   obtain ⟨c1,c2⟩:=(Bool.and_eq_true _ _).mp c1
   obtain ⟨xv,fp,hs',r,zz⟩:=ok.sl i _ _ g2
   refine ⟨xv,hs',?_⟩
   obtain ⟨l,xs,f,rfl,hq,_,_⟩:=r.lst_of
   refine ⟨.inl ⟨rfl,_,hq⟩,?_⟩
   refine sv H0 S z held ρ σ H _ d td ok g1 fun H1 v fv' s1 rv _=>?_
   have r':=r.same s1
   have ok1:=ok.same s1
   generalize hw:(V.ref l)=w at r' hs'
   cases r' with
   | @lst a' ys _ f' h rs=>
    cases hw
    have hn:=rs.imm c2
    subst hn
    have hnv:=rv.imm c1
    subst hnv
    refine ⟨_,ys,v,rfl,rfl,h,by rw [← rs.length];exact of_decide_eq_true c3,?_⟩
    have im:Imm H1 (upd H1 l (.lst (ys++[v]))):=Imm.upd h rfl
    refine q z σ _ (Ok.mutate ok1 g2 hs' zz List.mem_cons_self h rfl (.lst upd_same ?_)) (.refl _ _)
    exact Reps.append (f:=[]) (g:=[]) (rs.frame (fun a m=>nomatch m) im) (Reps.cons (f1:=[]) (f2:=[]) (rv.frame (fun a m=>nomatch m) im) .nil)
  ·rw [if_neg hc] at e;cases e
 ·cases e
def cutD (ds:List D) (lo hi:Option Int):List D:=(ds.drop (HT.sIx ds.length 0 lo)).take (HT.sIx ds.length ds.length hi - HT.sIx ds.length 0 lo)
def oCut (lo hi:Option Int):D→Option D
 | .lst ds=>if immAll ds=true then some (.lst (cutD ds lo hi)) else none
 | .fls ds=>if immAll ds=true then some (.lst (cutD ds lo hi)) else none
 | _=>none
theorem Reps.drop0 {K:PySem.W.Frag}{H:Hp}:∀ {ds:List D}{xs:List V} (n:Nat),Reps K H ds xs []→Reps K H (ds.drop n) (xs.drop n) []
 | ds,xs,0,r=>r
 | [],_,n + 1,r=>by cases r;exact .nil
 | d::ds,xs,n + 1,r=>by
  generalize hf:([]:List Addr)=fp at r
  cases r with
  | @cons _ _ _ _ f1 f2 r1 r2=>
   obtain ⟨z1,z2⟩:=List.append_eq_nil_iff.mp hf.symm
   subst z1 z2
   exact Reps.drop0 n r2
theorem Reps.take0 {K:PySem.W.Frag}{H:Hp}:∀ {ds:List D}{xs:List V} (n:Nat),Reps K H ds xs []→Reps K H (ds.take n) (xs.take n) []
 | ds,xs,0,r=>.nil
 | [],_,n + 1,r=>by cases r;exact .nil
 | d::ds,xs,n + 1,r=>by
  generalize hf:([]:List Addr)=fp at r
  cases r with
  | @cons _ _ _ _ f1 f2 r1 r2=>
   obtain ⟨z1,z2⟩:=List.append_eq_nil_iff.mp hf.symm
   subst z1 z2
   exact Reps.cons (f1:=[]) (f2:=[]) r1 (Reps.take0 n r2)
def PCut (X:Cx) (e:Option Expr) (v:Option Int):Prop:=∃ t,PO X e t∧∀ σ H Q,Q v H→t σ H Q
theorem pc_none:PCut X none none:=⟨_,po_none,fun _ _ _ q=>q⟩
theorem pc_int {i:Int} {j p}:PCut X (some (.Constant (.int i) j p)) (some i):=⟨_,po_some pe_int,fun _ _ _ q=>⟨i,rfl,q⟩⟩
theorem fp_cut {lo hi:Option Expr}{l h:Option Int}{p2:Pos} (hl:PCut X lo l) (hh:PCut X hi h) (ha:FP X a fa):FP X (.Subscript a (.Slice lo hi none p2) pos) (e1 (oCut l h) fa):=by
 obtain ⟨t,p,q⟩:=ha
 obtain ⟨tl,pl,ql⟩:=hl
 obtain ⟨th,ph,qh⟩:=hh
 refine ⟨_,pe_slice sl_list p pl ph,fun H0 S z held ρ σ H Q d tg ok e k=>?_⟩
 obtain ⟨d1,t1,g1,g2,rfl⟩:=e1_of e
 refine q H0 S z held ρ σ H _ d1 t1 ok g1 fun H1 x f1 s1 r1 _=>?_
 refine ql σ H1 _ (qh σ H1 _ ?_)
 have fin:∀ {ds:List D}{xs:List V}{f:List Addr}{w:Addr},Reps X.K H1 ds xs f→SqL X.K H1 w xs→(if immAll ds=true then some (D.lst (cutD ds l h)) else none)=some d→rSlL X.K (.ref w) l h H1 Q:=fun {ds xs f w} rs hq e=>by
  by_cases hi:immAll ds=true
  ·rw [if_pos hi] at e
   cases e
   have hn:=rs.imm hi
   subst hn
   refine ⟨w,xs,rfl,hq,fun p hp=>?_⟩
   have s2:Same H1 (upd H1 p (.lst (cutV xs l h))):=fun b o e=>by rw [upd_ne (ne_of_none e hp)];exact e
   have rr:Reps X.K H1 (cutD ds l h) (cutV xs l h) []:=by
    unfold cutD cutV
    rw [rs.length]
    exact Reps.take0 _ (Reps.drop0 _ rs)
   refine k _ _ [p] (s1.trans s2) (.lst upd_same (rr.same s2)) ⟨List.nodup_cons.mpr ⟨(fun m=>by cases m),List.nodup_nil⟩,fun a m=>?_⟩
   cases List.mem_singleton.mp m
   exact s1.free hp
  ·rw [if_neg hi] at e;cases e
 cases d1 with
 | lst ds=>
  obtain ⟨w,xs,f,rfl,hq,rs,_⟩:=r1.lst_of
  exact fin rs hq g2
 | fls ds=>
  obtain ⟨w,xs,rfl,hq,rs⟩:=r1.fls_of
  exact fin rs hq g2
 | _=>cases g2
end
end L2.Ev
namespace L2
open PySem PySem.Spec PyProof.Rows
section
variable {X:Cx}{a:Expr}{ta:TE}{p1 p2 p3 pos:Pos}
theorem Inv.turnNew {pins:List (Addr×Obj)}{σ:St}{H:Hp}{s:Shared}{h':Heap}{ch:List Addr}{T:Addr}{o:HO}{t':Nat} (I:Inv X pins σ H s) (hf:∀ b∈ch,FpOk X pins H b) (k:∀ b o,b∉ch→s.heap.get? b=some o→h'.get? b=some o)
  (hT:s.heap.objs.size≤T) (new:ObjOk X.prog X.w (upd H T o) h' T o):Inv X pins σ (upd H T o) { s with heap:=h',toks:=t' }:=by
 have nT:H T=none:=I.hok.fresh hT
 have nch:∀ b u,H b=some u→b∉ch:=fun b u e m=>by rw [(hf b m).1] at e;cases e
 refine I.step (g':=s.gens) (d':=s.drawn) (ch:=ch) (fun b m=>⟨(hf b m).2.2.2.1,(hf b m).2.1,(hf b m).2.2.2.2.1,(hf b m).2.2.2.2.2⟩) (fun b o _ _ m e _=>k b o m e) (fun b o _ _ m e _=>⟨o.slots,k b o m e⟩)
  (fun b o _ e n=>by rw [upd_ne (Nat.ne_of_lt (Nat.lt_of_lt_of_le (Heap.lt_size e) hT))];exact n) (fun b o m e=>⟨o,k b o m e⟩) (fun b xs e=>by rw [upd_ne (ne_of_none e nT)];exact e) (fun b o u e=>by rw [upd_ne (ne_of_none e nT)];exact e)
  (fun b ps e=>⟨#[],by rw [upd_ne (ne_of_none e nT),e];simp⟩) (fun m hm=>?_) (fun b u e=>?_) I.bare
 ·obtain ⟨o,es,ep,ho,r⟩:=hm
  exact ⟨o,es,ep,k _ o (fun m=>(hf _ m).2.1 rfl) ho,r⟩
 ·by_cases hb:b=T
  ·subst hb;rw [upd_same] at e;cases e;exact new
  ·rw [upd_ne hb] at e
   refine (I.hok b u e).stay (fun c v hc q=>k c v ?_ q) (fun c q=>by rw [upd_ne (ne_of_none q nT)];exact q) fun c xs q=>by rw [upd_ne (ne_of_none q nT)];exact q
   rcases hc with z | z
   ·rw [z];exact nch b u e
   ·exact nch c _ z
theorem Inv.turnL {pins:List (Addr×Obj)}{σ:St}{H:Hp}{s:Shared}{h':Heap}{ch:List Addr}{t':Nat} (I:Inv X pins σ H s) (hf:∀ b∈ch,FpOk X pins H b) (k:∀ b o,b∉ch→s.heap.get? b=some o→h'.get? b=some o):Inv X pins σ H { s with heap:=h',toks:=t' }:=by
 have nch:∀ b u,H b=some u→b∉ch:=fun b u e m=>by rw [(hf b m).1] at e;cases e
 refine I.step (g':=s.gens) (d':=s.drawn) (ch:=ch) (fun b m=>⟨(hf b m).2.2.2.1,(hf b m).2.1,(hf b m).2.2.2.2.1,(hf b m).2.2.2.2.2⟩) (fun b o _ _ m e _=>k b o m e) (fun b o _ _ m e _=>⟨o.slots,k b o m e⟩)
  (fun b o _ e n=>n) (fun b o m e=>⟨o,k b o m e⟩) (fun b xs e=>e) (fun b o u e=>e) (fun b ps e=>⟨#[],by rw [e];simp⟩) (fun m hm=>?_) (fun b u e=>?_) I.bare
 ·obtain ⟨o,es,ep,ho,r⟩:=hm
  exact ⟨o,es,ep,k _ o (fun m=>(hf _ m).2.1 rfl) ho,r⟩
 ·refine (I.hok b u e).stay (fun c v hc q=>k c v ?_ q) (fun c q=>q) fun c xs q=>q
  rcases hc with z | z
  ·rw [z];exact nch b u e
  ·exact nch c _ z
end
section
variable {X:Cx}
theorem vals_bl:∀ {bs:List Bool}{us:List Value},Vals (bs.map V.bl) us→us=bs.map Value.bool
 | [],_,r=>by rw [List.map_nil] at r;cases r;rfl
 | b::bs,_,r=>by
  rw [List.map_cons] at r
  cases r with
  | cons r1 r2=>cases r1;rw [vals_bl r2];rfl
theorem range_all (bs:List Bool):(List.range bs.length).all (fun j=>bs.getD j true)=bs.all id:=by
 induction bs with
 | nil=>rfl
 | cons b r ih=>
  rw [List.length_cons,List.range_succ_eq_map,List.all_cons,List.all_map,List.all_cons,← ih]
  rfl
theorem call_allL (hc:X.calm=true):CallR X (.builtin "all") (fun xs H Q=>∃ (p:Addr) (bs:List Bool),xs=[V.ref p]∧SqL X.K H p (bs.map V.bl)∧Q (.bl (bs.all id)) H):=by
 intro pins s σ H xs us Q I r h
 obtain ⟨p,bs,rfl,hq,q⟩:=h
 obtain ⟨u,rfl,ru⟩:=vals1 r
 cases ru
 obtain ⟨its,v1,pl,hz⟩:=I.list hq
 have ei:=vals_bl v1
 subst ei
 have lp:p < s.heap.objs.size:=let ⟨o,n,e,_⟩:=pl;Heap.lt_size e
 have hh:X.A.in1.handled=none:=I.ok.hd hc
 refine call_all_walk (wpAny_pyIter_list pl.isList ?_)
 refine ⟨s.heap.objs.size,_,_,_,_,_,fun j=>bs.getD j true,rfl,Walks.list hh s.heap.objs.size p (Nat.ne_of_lt lp) (bs.map Value.bool).toArray,⟨⟨_,Heap.get?_push_size _ rfl,rfl,rfl⟩,pl.isList.at fun o e=>Heap.get?_push_of_some _ e⟩,?_,fun h' tk hk=>?_⟩
 ·intro i v s' Q' E' hv hQ
  rw [List.getElem?_toArray,List.getElem?_map] at hv
  cases e:bs[i]? with
  | none=>rw [e] at hv;cases hv
  | some b=>
   rw [e] at hv
   cases hv
   dsimp only at hQ
   rw [List.getD_eq_getElem?_getD,e] at hQ
   exact wpAny_truthy_bool hQ
 ·have f:=I.fpOk (H':=H) (Nat.le_refl s.heap.objs.size) (I.hok.fresh (Nat.le_refl _))
  have I1:Inv X pins σ H { s with heap:=s.heap.push { cls:=.type "list_iterator",data:=.fields #[.ref p,.int 0 0] } }:=I.kept (t':=s.toks) fun b o e=>Heap.get?_push_of_some _ e
  rw [List.size_toArray,List.length_map,range_all]
  exact ⟨.bl _,H,I1.turnL (t':=tk) (ch:=[s.heap.objs.size]) (fun b m=>by rw [List.mem_singleton.mp m];exact f) fun b o m e=>hk b o m e,rfl,q⟩
end
end L2
namespace L2.Ev
open PySem PySem.Spec PyProof.Rows
section
variable {X:Cx}{a b c:Expr}{fa fb:EF}{p pos:Pos}
def boolsD:List D→Option (List Bool)
 | []=>some []
 | .bl b::r=>(boolsD r).map (b::·)
 | _=>none
theorem boolsD_of {K:PySem.W.Frag}{H:Hp}:∀ {ds:List D}{xs:List V}{fp:List Addr}{bs:List Bool},Reps K H ds xs fp→boolsD ds=some bs→xs=bs.map V.bl
 | [],_,_,bs,r,e=>by cases r;cases e;rfl
 | d::ds,_,_,bs,r,e=>by
  cases r with
  | cons h t=>
   cases d <;> try (cases e;done)
   cases h
   unfold boolsD at e
   cases q:boolsD ds with
   | none=>rw [q] at e;cases e
   | some r=>
    rw [q] at e
    cases e
    rw [boolsD_of t q];rfl
def oAll:D→Option D
 | .lst ds=>(boolsD ds).map fun bs=>.bl (bs.all id)
 | _=>none
theorem does_all {K:PySem.W.Frag}:Does1 K (fun xs H Q=>∃ (p:Addr) (bs:List Bool),xs=[V.ref p]∧SqL K H p (bs.map V.bl)∧Q (.bl (bs.all id)) H) oAll:=by
 intro H x d1 f1 d Q r e k
 cases d1 with
 | lst ds=>
  obtain ⟨p,xs,f,rfl,hq,rs,_⟩:=r.lst_of
  have e:(boolsD ds).map (fun bs=>D.bl (bs.all id))=some d:=e
  cases h:boolsD ds with
  | none=>rw [h] at e;cases e
  | some bs=>
   rw [h] at e
   cases e
   have ex:=boolsD_of rs h
   subst ex
   exact ⟨p,bs,rfl,hq,k H _ [] (Same.refl H) (.bl _) List.nodup_nil fun a m=>nomatch m⟩
 | _=>cases e
theorem fp_all (hc:X.calm=true) (hm:X.mg "all"=none) (ha:FP X a fa) (hg:Gl X "all":=by rfl) (hs:starEach [a] X.env=[(false,eval a X.env)]:=by rfl):FP X (.Call (.Name "all" p) [a] [] pos) (e1 oAll fa):=
 fp_1 does_all ha fun ta pa=>pe_callB (call_allL hc) hg hm boot_all (pa_cons pa pa_nil hs) (he:=hs) (hpl:=rfl)
end
theorem fn_none {P:Program}{w:World}{K:PySem.W.Frag}{mg:Str→Option Value}{base:Heap}{x qual:Str}{st:Stmt}{f:Addr}{fd:FuncData}{N ps:List Str}{k:Nat} (F:Fun K x qual st f fd) (S:FnScope N ps (defScope st)) :
  FnOk P w K mg base CX0 (k + 1) f fd ps (spF K fun _=>none):=F.ok S (fun vs H Q E ⟨_,_,_,_,e,_⟩=>nomatch e) fun cdv A outer s H vs Q E hr ⟨_,_,_,_,e,_⟩=>nomatch e
end L2.Ev
namespace L2.Ev
open PySem
theorem imm_ints:∀ ns:List Int,immAll (ns.map D.int)=true
 | []=>rfl
 | n::r=>by rw [List.map_cons];unfold immAll;rw [imm_ints r];rfl
theorem s_tupI {ns:List Int}:oTuple (.lst (ns.map D.int))=some (.tup (ns.map D.int)):=by show (if immAll (ns.map D.int)=true then some (D.tup (ns.map D.int)) else none)=_;rw [if_pos (imm_ints ns)]
end L2.Ev
namespace L2
open PySem PySem.Spec PyProof.Rows
section
variable {X:Cx}
def ItrS (lo c:Int) (n:Nat):It:=⟨fun i _=>i < n,fun i H x H'=>H'=H∧x=.int (lo + i * c),fun i _=>n≤i,false⟩
theorem turn_rangeS {P:Program}{w:World}{K:PySem.W.Frag}{tg:Expr} (it:Addr) (lo c:Int) (n:Nat):Turn P w K tg (ItrS lo c n) [it] it (fun i h=>IsRangeIter h it (lo + (i:Nat) * c) ((n:Int) - (i:Nat)) c) where
 mem:=by simp
 obj:=fun i h st b hb=>by
  have e:b=it:=by simpa using hb
  subst e
  exact ⟨_,st,fun v z=>by
   have z':Data.fields _=Data.cell v:=z
   cases z'⟩
 keep:=fun i h h' st k=>k it (by simp) _ st
 item:=by
  intro X hP hw hK hc i pins s σ H E I hf st hg
  subst hP hw hK
  obtain ⟨f0,f1,f2,f3,f4,f5⟩:=hf it (by simp)
  have W:=Walks.range (prog:=X.prog) (w:=X.w) (I.ok.hd (hc.resolve_right fun z=>Bool.false_ne_true z)) it lo c n
  refine W.item i s _ _ hg st fun v h' tk hv st' kk=>?_
  obtain ⟨t,rfl⟩:=hv
  have I1:Inv X pins σ H { s with heap:=h',toks:=tk }:=I.turned (fun b o hb e=>kk b o (by simpa using hb) e) f0 f1 f3 f4 f5
  exact ⟨_,rfl,go_of (s:={ s with heap:=h',toks:=tk }) (n:="range_iterator") st' rfl rfl (by decide) ⟨.int (lo + i * c),H,I1,⟨t,rfl⟩,⟨rfl,rfl⟩,st',fun b hb=>(hf b hb).1⟩⟩
 done:=by
  intro X hP hw hK hc i pins s σ H E I hf st hg
  subst hP hw hK
  obtain ⟨f0,f1,f2,f3,f4,f5⟩:=hf it (by simp)
  exact wpAny_pyNext_range_end (I.ok.hd (hc.resolve_right fun z=>Bool.false_ne_true z)) st (by have:n≤i:=hg;omega) fun h' eb=>⟨rfl,I.turned (t':=s.toks) (fun b o hb e=>eb b o hb e) f0 f1 f3 f4 f5⟩
 self:=fun _ _ _ _ _ st h=>wpAny_pyIter_rangeiter st h
def iRng3 (ta:TA):TI:=fun σ H R=>ta σ H fun vs H1=>∃ i j c:Int,vs=[.int i,.int j,.int c]∧c≠0∧c.natAbs < 1073741824∧Builtin.Range.small i j c=true∧R (ItrS i c (Builtin.Range.rangeSize i j c).toNat) H1
theorem pi_range3 {tg a b c:Expr}{ta:TA}{p pos:Pos} (hg:Gl X "range") (hm:X.mg "range"=none) (ha:PA X [a,b,c] ta) (hs:starEach [a,b,c] X.env=[(false,eval a X.env),(false,eval b X.env),(false,eval c X.env)]:=by rfl) (hs2:starEach [b,c] X.env=[(false,eval b X.env),(false,eval c X.env)]:=by rfl) :
  PI X tg (.Call (.Name "range" p) [a,b,c] [] pos) (iRng3 ta):=by
 intro pins s σ H R I h
 refine Call_ (ld_blt I hg hm boot_range (PyProof.Rows.callWith_type1 (thn (ha pos pins s σ H _ I h) fun us s1 ⟨vs,H1,I1,r1,q1⟩=>?_) (by rw [hs,hs2]) (by rw [hs2];rfl)))
 obtain ⟨i,j,c,e,q1,q2,q3,q⟩:=q1
 subst e
 cases r1 with
 | cons r rr=>
  cases rr with
  | cons r' rr=>
   cases rr with
   | cons r'' rr=>
    cases rr
    obtain ⟨t,rfl⟩:=r
    obtain ⟨t',rfl⟩:=r'
    obtain ⟨t'',rfl⟩:=r''
    refine call_range_3 q1 ?_ (.inl (PyProof.noPylong_small q2))
    refine wpAny_pyIter_range (IsRange.new ..) q3 ?_
    have I2:Inv X pins σ H1 { s1 with heap:=s1.heap.push { cls:=.type "range",data:=.fields #[.int i t,.int j t',.int c t''] },toks:=s1.toks }:=I1.kept fun b o e=>Heap.get?_push_of_some _ e
    refine ⟨(s1.heap.push { cls:=.type "range",data:=.fields #[.int i t,.int j t',.int c t''] }).objs.size,[(s1.heap.push { cls:=.type "range",data:=.fields #[.int i t,.int j t',.int c t''] }).objs.size],_,_,H1,rfl,
     I2.kept (t':=s1.toks) fun b o e=>Heap.get?_push_of_some _ e,turn_rangeS _ i c (Builtin.Range.rangeSize i j c).toNat,?_,fun b hb=>?_,q⟩
    ·have e1:i + ((0:Nat):Int) * c=i:=by simp
     have e2:(((Builtin.Range.rangeSize i j c).toNat:Nat):Int) - ((0:Nat):Int)=Builtin.Range.rangeSize i j c:=by
      have:0≤Builtin.Range.rangeSize i j c:=by
       unfold Builtin.Range.rangeSize
       split
       ·rename_i hc
        split
        ·have:=Int.ediv_nonneg (show 0≤j - i - 1 by omega) (show 0≤c by omega);omega
        ·omega
       ·rename_i hc
        split
        ·have:=Int.ediv_nonneg (show 0≤i - j - 1 by omega) (show 0≤-c by omega);omega
        ·omega
      omega
     show IsRangeIter _ _ (i + ((0:Nat):Int) * c) ((((Builtin.Range.rangeSize i j c).toNat:Nat):Int) - ((0:Nat):Int)) c
     rw [e1,e2]
     exact Heap.get?_push_size _ rfl
    ·have e:b=(s1.heap.push { cls:=.type "range",data:=.fields #[.int i t,.int j t',.int c t''] }).objs.size:=by simpa using hb
     subst e
     exact I2.fpOk (Nat.le_refl _) (I2.hok.fresh (Nat.le_refl _))
end
end L2
namespace L2.Ev
open PySem PySem.Spec PyProof.Rows
section
variable {X:Cx}{a b c:Expr}{fa fb fc fv:EF}{p p1 p2 p3 pos:Pos}
theorem fp_globI {x:Str}{n:Int}{tk:Tok} (hm:X.mg x=some (.int n tk)) (hg:Gl X x:=by rfl) (hd:(x == ("__debug__":Str))=false:=by decide):FP X (.Name x pos) (eC (.int n)):=
 ⟨_,pe_glob hg hm (v:=.int n) ⟨_,rfl⟩ hd,fun _ _ _ _ _ _ H _ _ _ _ e q=>by cases e;exact q H _ _ (Same.refl H) (.int n) .nil⟩
def eChain (o o':D→D→Option D) (fa fb fc:EF):EF:=fun ρ=>match fa ρ,fb ρ with
 | some (d1,_),some (d2,_)=>match o d1 d2 with
  | some (.bl true)=>match fc ρ with
   | some (d3,_)=>(o' d2 d3).map fun d=>(d,.own)
   | none=>none
  | some (.bl false)=>some (.bl false,.own)
  | _=>none
 | _,_=>none
def oAny:D→Option D
 | .lst ds=>(boolsD ds).map fun bs=>.bl (bs.any id)
 | _=>none
theorem does_any {K:PySem.W.Frag}:Does1 K (fun xs H Q=>∃ (p:Addr) (bs:List Bool),xs=[V.ref p]∧SqL K H p (bs.map V.bl)∧Q (.bl (bs.any id)) H) oAny:=by
 intro H x d1 f1 d Q r e k
 cases d1 with
 | lst ds=>
  obtain ⟨p,xs,f,rfl,hq,rs,_⟩:=r.lst_of
  have e:(boolsD ds).map (fun bs=>D.bl (bs.any id))=some d:=e
  cases h:boolsD ds with
  | none=>rw [h] at e;cases e
  | some bs=>
   rw [h] at e
   cases e
   have ex:=boolsD_of rs h
   subst ex
   exact ⟨p,bs,rfl,hq,k H _ [] (Same.refl H) (.bl _) List.nodup_nil fun a m=>nomatch m⟩
 | _=>cases e
def iR3 (fa fb:EF) (c:Int):IF:=fun ρ=>match fa ρ,fb ρ with
 | some (.int i,_),some (.int j,_)=>if (decide (c≠0)&&decide (c.natAbs < 1073741824)&&Builtin.Range.small i j c)=true then some ((List.range (Builtin.Range.rangeSize i j c).toNat).map fun n:Nat=>D.int (i + n * c),.own) else none
 | _,_=>none
theorem itOk_rangeS {K:PySem.W.Frag}{lo c:Int}{n:Nat}:ItOk K (ItrS lo c n) ((List.range n).map fun i:Nat=>D.int (lo + (i:Int) * c)) []:=by
 intro H i _
 refine ⟨fun d e=>?_,fun h=>?_⟩
 ·rw [List.getElem?_map] at e
  by_cases hi:i < n
  ·rw [List.getElem?_range hi] at e
   cases e
   refine ⟨hi,fun x H' y=>?_⟩
   obtain ⟨rfl,rfl⟩:=y
   exact ⟨Same.refl _,[],.int _,fun a m=>nomatch m⟩
  ·rw [List.getElem?_eq_none_iff.mpr (by rw [List.length_range];omega)] at e;cases e
 ·rw [List.length_map,List.length_range] at h;exact h
end
end L2.Ev
namespace L2.SetT
open PySem
def IsSI (h:Heap) (I:Addr) (first:Value) (i:Nat) (a:Addr) (n ep:Nat):Prop:=∃ o,h.get? I=some o∧o.cls=.type "set_iterator"∧o.data=.fields #[first,.int i 0,.ref a,.int n 0,.int ep 0]
theorem IsSI.at {h h':Heap}{I a:Addr}{first:Value}{i n ep:Nat} (x:IsSI h I first i a n ep) (e:∀ o,h.get? I=some o→h'.get? I=some o):IsSI h' I first i a n ep:=let ⟨o,ho,r⟩:=x;⟨o,e o ho,r⟩
end L2.SetT
namespace L2.Ev
open PySem PySem.Spec PyProof.Rows L2.SetT
theorem Same.new {H:Hp}{l:Addr}{o:HO} (h:H l=none):Same H (upd H l o):=fun b o' e=>by rw [upd_ne (ne_of_none e h)];exact e
end L2.Ev
namespace L2.Ev
open PySem PySem.Spec PyProof.Rows
inductive ER where
 | ok (d:D) (ρ:Rho) | er (cn:XN) (ρ:Rho)
abbrev XR:=Rho→Option ER
inductive Rz where
 | ok (d:D) | er (cn:XN)
def strsD:List D→Option (List Str)
 | []=>some []
 | .str x::r=>(strsD r).map fun m=>x::m
 | _::_=>none
theorem strsD_of {K:PySem.W.Frag}{H:Hp}:∀ {ds:List D}{xs:List V}{fp:List Addr}{ys:List Str},Reps K H ds xs fp→strsD ds=some ys→xs=ys.map V.str
 | _,_,_,_,.nil,e=>by cases e;rfl
 | _,_,_,ys,.cons (d:=d) h t,e=>by
  cases d with
  | str x=>
   unfold strsD at e
   cases q:strsD _ with
   | none=>rw [q] at e;cases e
   | some m=>
    rw [q] at e
    cases e
    cases h
    rw [strsD_of t q];rfl
  | _=>cases e
theorem strsD_strs:∀ ys:List Str,strsD (ys.map D.str)=some ys
 | []=>rfl
 | y::ys=>by
  show (strsD (ys.map D.str)).map (fun m=>y::m)=_
  rw [strsD_strs ys];rfl
section
variable {X:Cx}{o a b c d:Expr}{fo fa fb fc fd:EF}{p p1 p2 p3 p4 pos:Pos}
def TupK (K:PySem.W.Frag) (t:Addr) (ys:List Str):Prop:=∃ (o:Obj) (its:Array Value) (n:Nat),K.lookup t=some o∧o.cls=.type "tuple"∧o.dict=none∧o.data=.seq its n∧its.size≤sizeLine∧Vals (ys.map V.str) its.toList
theorem reps_strs {K:PySem.W.Frag}{H:Hp}:∀ ys:List Str,Reps K H (ys.map D.str) (ys.map V.str) []
 | []=>.nil
 | y::ys=>.cons (.str y) (reps_strs ys)
theorem fp_globT {x:Str}{t:Addr}{ys:List Str} (hm:X.mg x=some (.ref t)) (ht:TupK X.K t ys) (hg:Gl X x:=by rfl) (hd:(x == ("__debug__":Str))=false:=by decide):FP X (.Name x pos) (eC (.tup (ys.map D.str))):=
 ⟨_,pe_glob hg hm (v:=.ref t) rfl hd,fun _ _ _ _ _ _ H _ _ _ _ e q=>by cases e;exact q H _ _ (Same.refl H) (.tup (.inr ht) (reps_strs ys)) .nil⟩
def oInS (neg:Bool):D→D→Option D
 | .str i,.lst ds=>(strsD ds).map fun ns=>.bl (if neg=true then !(ns.any (· == i)) else ns.any (· == i))
 | .str i,.tup ds=>(strsD ds).map fun ns=>.bl (if neg=true then !(ns.any (· == i)) else ns.any (· == i))
 | _,_=>none
theorem inV_strs (i:Str) (ns:List Str):inV (.str i) (ns.map V.str)=ns.any (· == i):=by
 unfold inV
 rw [List.any_map]
 rfl
theorem flat_strs (ns:List Str):(ns.map V.str).all flatV=true:=by
 rw [List.all_map]
 exact List.all_eq_true.mpr fun _ _=>rfl
theorem does_inS {K:PySem.W.Frag}{neg:Bool}:Does2 K (rIn K neg) (oInS neg):=by
 intro H x y d1 d2 f1 f2 d Q r1 r2 e k
 unfold oInS at e
 split at e
 ·rename_i i ds
  cases hS:strsD ds with
  | none=>rw [hS] at e;cases e
  | some ys=>
   rw [hS] at e
   cases e
   cases r1
   obtain ⟨l,xs,f,rfl,hq,rs,_⟩:=r2.lst_of
   have ex:=strsD_of rs hS
   subst ex
   refine ⟨l,_,rfl,.inl hq,rfl,flat_strs ys,?_⟩
   rw [inV_strs]
   exact k H _ (Same.refl H) (.bl _)
 ·rename_i i ds
  cases hS:strsD ds with
  | none=>rw [hS] at e;cases e
  | some ys=>
   rw [hS] at e
   cases e
   cases r1
   cases r2 with
   | tup hq rs=>
    have ex:=strsD_of rs hS
    subst ex
    refine ⟨_,_,rfl,.inr hq,rfl,flat_strs ys,?_⟩
    rw [inV_strs]
    exact k H _ (Same.refl H) (.bl _)
 ·cases e
theorem ft_inS (ha:FP X a fa) (hb:FP X b fb) (hm:behindInMarks .In b=false:=by rfl):FT X (.Compare a [.In] [b] pos) (tV (e2 (oInS false) fa fb)):=ft_cmp op_in_seq does_inS ha hb hm
theorem ft_notInS (ha:FP X a fa) (hb:FP X b fb) (hm:behindInMarks .NotIn b=false:=by rfl):FT X (.Compare a [.NotIn] [b] pos) (tV (e2 (oInS true) fa fb)):=ft_cmp op_notIn_seq does_inS ha hb hm
theorem fi_range3P {tg:Expr}{i:Int} {j} (hm:X.mg "range"=none) (ha:FP X a fa) (hb:FP X b fb) (hg:Gl X "range":=by rfl) (hs:starEach [a,b,.Constant (.int i) j p4] X.env=[(false,eval a X.env),(false,eval b X.env),(false,eval (.Constant (.int i) j p4) X.env)]:=by rfl)
  (hs2:starEach [b,.Constant (.int i) j p4] X.env=[(false,eval b X.env),(false,eval (.Constant (.int i) j p4) X.env)]:=by rfl) (hs3:starEach [.Constant (.int i) j p4] X.env=[(false,eval (.Constant (.int i) j p4) X.env)]:=by rfl) :
  FI X tg (.Call (.Name "range" p) [a,b,.Constant (.int i) j p4] [] pos) (iR3 fa fb i):=by
 obtain ⟨tc,pc,qc⟩:=fp_int (X:=X) (i:=i) (j:=j) (pos:=p4)
 obtain ⟨ta,pa,qa⟩:=ha
 obtain ⟨tb,pb,qb⟩:=hb
 refine ⟨_,pi_range3 hg hm (pa_cons pa (pa_cons pb (pa_cons pc pa_nil hs3) (by rw [hs2,hs3])) (by rw [hs,hs2])) hs hs2,fun H0 S z held ρ σ H R ds t ok e k=>?_⟩
 unfold iR3 at e
 split at e
 ·rename_i n t1 m t2 e1 e2
  by_cases hc:(decide (i≠0)&&decide (i.natAbs < 1073741824)&&Builtin.Range.small n m i)=true
  ·rw [if_pos hc] at e
   cases e
   obtain ⟨h1,h3⟩:=(Bool.and_eq_true _ _).mp hc
   obtain ⟨h1,h2⟩:=(Bool.and_eq_true _ _).mp h1
   refine qa H0 S z held ρ σ H _ _ t1 ok e1 fun H1 x f1 s1 r1 _=>?_
   refine qb H0 S z held ρ σ H1 _ _ t2 (ok.same s1) e2 fun H2 y f2 s2 r2 _=>?_
   refine qc H0 S z held ρ σ H2 _ (.int i) .own ((ok.same s1).same s2) rfl fun H3 w f3 s3 r3 _=>?_
   cases r1
   cases r2
   cases r3
   exact ⟨n,m,i,rfl,of_decide_eq_true h1,of_decide_eq_true h2,h3,k H3 _ [] ((s1.trans s2).trans s3) (fun h m=>nomatch m) itOk_rangeS⟩
  ·rw [if_neg hc] at e;cases e
 ·cases e
end
end L2.Ev
namespace L2.Ev
open PySem PySem.W
theorem tupK_mk3 {K:Frag}{t:Addr}{a b c:Str}{t1 t2 t3:Tok}{n:Nat}{sl:Array (Option Value)} (l:K.lookup t=some ⟨.type "tuple",none,.seq #[.str a t1,.str b t2,.str c t3] n,sl⟩):TupK K t [a,b,c]:=
 ⟨_,_,_,l,rfl,rfl,rfl,(by show 3≤sizeLine;decide),.cons ⟨_,rfl⟩ (.cons ⟨_,rfl⟩ (.cons ⟨_,rfl⟩ .nil))⟩
end L2.Ev
namespace L2.Ev
open PySem PySem.Spec PyProof.Rows
def xMethS (cn m:Str) (F:List D→Option Rz) (fo:EF) (g:AF):XR:=fun ρ=>match fo ρ,g ρ with
 | some (.ins c es,_),some ps=>if c=cn∧es.lookup m=none then (match F (.ins c es::ps.map (·.1)) with
  | some (.ok d)=>some (.ok d ρ)
  | some (.er en)=>some (.er en ρ)
  | none=>none) else none
 | _,_=>none
def eCutT (fa fh:EF):EF:=fun ρ=>match fa ρ,fh ρ with
 | some (.lst ds,_),some (.int i,_)=>if immAll ds=true then some (.lst (cutD ds (some i) none),.own) else none
 | _,_=>none
section
variable {X:Cx}{a b:Expr}{fa:EF}{p2 pos:Pos}
theorem fp_cutT {fh:EF} (ha:FP X a fa) (hh:FP X b fh):FP X (.Subscript a (.Slice (some b) none none p2) pos) (eCutT fa fh):=by
 obtain ⟨t,p,q⟩:=ha
 obtain ⟨th,ph,qh⟩:=hh
 refine ⟨_,pe_slice sl_list p (po_some ph) po_none,fun H0 S z held ρ σ H Q d tg ok e k=>?_⟩
 unfold eCutT at e
 split at e
 ·rename_i ds t1 i t2 e1 e2
  by_cases hi:immAll ds=true
  ·rw [if_pos hi] at e
   cases e
   refine q H0 S z held ρ σ H _ _ t1 ok e1 fun H1 x f1 s1 r1 _=>?_
   refine qh H0 S z held ρ σ H1 _ _ t2 (ok.same s1) e2 fun H2 y f2 s2 r2 _=>?_
   cases r2
   refine ⟨i,rfl,?_⟩
   obtain ⟨w,xs,f,rfl,hq,rs,_⟩:=(r1.same s2).lst_of
   have hn:=rs.imm hi
   subst hn
   refine ⟨w,xs,rfl,hq,fun p hp=>?_⟩
   have s3:Same H2 (upd H2 p (.lst (cutV xs (some i) none))):=fun b o e=>by rw [upd_ne (ne_of_none e hp)];exact e
   have rr:Reps X.K H2 (cutD ds (some i) none) (cutV xs (some i) none) []:=by
    unfold cutD cutV
    rw [rs.length]
    exact Reps.take0 _ (Reps.drop0 _ rs)
   refine k _ _ [p] ((s1.trans s2).trans s3) (.lst upd_same (rr.same s3)) ⟨List.nodup_cons.mpr ⟨(fun m=>by cases m),List.nodup_nil⟩,fun a m=>?_⟩
   cases List.mem_singleton.mp m
   exact s1.free (s2.free hp)
  ·rw [if_neg hi] at e;cases e
 ·cases e
end
theorem log2_sm64 {n:Int} (h:n.natAbs < 2 ^ 64):n.natAbs.log2 < 1920:=by
 rcases Nat.eq_zero_or_pos n.natAbs with z | z
 ·rw [z];decide
 ·exact Nat.lt_of_lt_of_le ((Nat.log2_lt (by omega)).mpr h) (by decide)
theorem Reps.getS {K:PySem.W.Frag}{H:Hp}:∀ {ds:List D}{vs:List V}{fp:List Addr}{i:Nat}{d:D},Reps K H ds vs fp→ds[i]? = some d→∃ v f,vs[i]? = some v∧Rep K H d v f∧f.Sublist fp
 | _,_,_,_,_,.nil,e=>by simp at e
 | _,_,_,0,_,.cons (f2:=f2) h t,e=>by
  cases Option.some.inj e
  exact ⟨_,_,rfl,h,List.sublist_append_left _ _⟩
 | _,_,_,i + 1,d,.cons h t,e=>by
  obtain ⟨v,f,e1,r,s⟩:=Reps.getS (i:=i) (d:=d) t (by simpa using e)
  exact ⟨v,f,by simpa using e1,r,s.trans (List.sublist_append_right _ _)⟩
def eIxO (fa fb:EF):EF:=fun ρ=>match fa ρ,fb ρ with
 | some (.lst ds,.own),some (.int i,_)=>(atI ds i).map fun d=>(d,.own)
 | _,_=>none
theorem fp_ixO {X:Cx}{a b:Expr}{fa fb:EF}{pos:Pos} (ha:FP X a fa) (hb:FP X b fb) (hs:PlainIx b:=by exact fun _ _=>rfl):FP X (.Subscript a b pos) (eIxO fa fb):=by
 obtain ⟨ta,pa,sa⟩:=ha
 obtain ⟨tb,pb,sb⟩:=hb
 refine ⟨_,pe_ix ix_seq pa pb hs,fun H0 S z held ρ σ H Q d tg ok e q=>?_⟩
 unfold eIxO at e
 split at e
 ·rename_i ds i t2 e1 e2'
  cases e3:atI ds i with
  | none=>rw [e3] at e;cases e
  | some d'=>
   rw [e3] at e
   cases e
   refine sa H0 S z held ρ σ H _ _ _ ok e1 fun H1 x f1 s1 r1 g1=>?_
   refine sb H0 S z held ρ σ H1 _ _ t2 (ok.same s1) e2' fun H2 y f2 s2 r2 _=>?_
   have r1:=r1.same s2
   cases r2
   unfold atI at e3
   cases h:ixN ds.length i with
   | none=>rw [h] at e3;cases e3
   | some j=>
    rw [h,Option.bind_some] at e3
    cases r1 with
    | lst hq rs=>
     obtain ⟨v,f',hv,rv,hm⟩:=rs.getS e3
     have g1:(_::_:List Addr).Nodup∧∀ a∈_,H a=none:=g1
     refine .inl ⟨_,_,i,v,rfl,rfl,SqL.of hq,?_,q H2 v f' (s1.trans s2) rv ⟨hm.nodup (List.nodup_cons.mp g1.1).2,fun a m=>g1.2 a (List.mem_cons_of_mem _ (hm.subset m))⟩⟩
     unfold atI
     rw [← rs.length,h,Option.bind_some];exact hv
 ·cases e
section
variable (P:Program) (w:World) (K:PySem.W.Frag) (mg:Str→Option Value) (base:Heap) (CX:CXT) (k:Nat)
def FN (x:Str) (ps:List Str) (sp:Sp) (cm:Bool:=true):Prop:=∃ a fd,FnOk P w K mg base CX k a fd ps sp cm∧mg x=some (.ref a)∧PySem.W.keepIn K (.ref a)=true∧Binds K fd ps []
end
def GL (K:PySem.W.Frag) (x q:Str) (st:Stmt) (f:Addr):Prop:=∃ oc od kV dc pm an cd ct sl,K.lookup f=some ⟨oc,od,.func (PySem.W.fnOf x q (defArgs st) (defBody st) (defScope st) .none kV dc pm an cd ct),sl⟩∧PySem.W.codeIn K cd q=true∧PySem.W.keepIn K (.ref f)=true
def GFn (K:PySem.W.Frag) (x:Str) (st:Stmt):Prop:=∃ f,PySem.W.nsIn K mainGlobals x=some (some (.ref f))∧GL K x x st f
abbrev BA (x q:Str) (st:Stmt) (ps:List Str):Prop:=∀ (kV doc pm:Value) (an:Option Addr) (cdv ct:Value) (us:List Value),us.length=ps.length→bindArgs (PySem.W.fnOf x q (defArgs st) (defBody st) (defScope st) .none kV doc pm an cdv ct) ⟨us,[]⟩=pure (ps.zip us)
theorem gl_fun {K:PySem.W.Frag}{x q:Str}{st:Stmt}{f:Addr} (l:GL K x q st f):PySem.W.keepIn K (.ref f)=true∧∃ fd,Fun K x q st f fd:=by
 obtain ⟨oc,od,kV,dc,pm,an,cd,ct,sl,h1,h2,h3⟩:=l
 exact ⟨h3,_,fun_mk h1 h2 h3⟩
section
variable {P:Program}{w:World}{K:PySem.W.Frag}{h:Heap}{mg:Str→Option Value}{base:Heap}{CX:CXT}{k:Nat}{C:Addr}{x q:Str}{st:Stmt}{ps:List Str}{sp:Sp}{cm:Bool}
theorem fnW (X:K.In h) (G:h.Ns mainGlobals mg) (l:GFn K x st) (ok:∀ {f:Addr}{fd:FuncData},Fun K x x st f fd→FnOk P w K mg base CX k f fd ps sp cm) (b:BA x x st ps):FN P w K mg base CX k x ps sp cm:=by
 obtain ⟨f,a,l⟩:=l
 obtain ⟨kp,fd,F⟩:=gl_fun l
 exact ⟨f,fd,ok F,PySem.W.mg_of X G a,kp,F.binds b⟩
theorem lawW {fa:Addr}{p:Str}{sp:Heap→Sp} (X:K.In h) (G:h.Ns mainGlobals mg) (hfa:mg "law"=some (.ref fa)) (l:GFn K "law" st)
  (b:∀ (kV doc pm:Value) (an:Option Addr) (cdv ct:Value) (s:Shared) (v:Value),BindsTo s (PySem.W.fnOf "law" "law" (defArgs st) (defBody st) (defScope st) .none kV doc pm an cdv ct) ⟨[v],[]⟩ [(p,v)])
  (ok:∀ base:Heap,K.In base→base.Ns mainGlobals mg→∀ {f:Addr}{fd:FuncData},Fun K "law" "law" st f fd→FnOk P w K mg base CX k f fd [p] (sp base) cm) :
  ∃ fd:FuncData,(∀ (s:Shared) (v:Value),BindsTo s fd ⟨[v],[]⟩ [(p,v)])∧∀ base:Heap,K.In base→base.Ns mainGlobals mg→FnOk P w K mg base CX k fa fd [p] (sp base) cm:=by
 obtain ⟨f,a,oc,od,kV,dc,pm,an,cd,ct,sl,h1,h2,h3⟩:=l
 have e:=hfa.symm.trans (PySem.W.mg_of X G a)
 cases e
 exact ⟨_,b kV dc pm an cd ct,fun base K1 G1=>ok base K1 G1 (fun_mk h1 h2 h3)⟩
end
section
variable {g:GF}{t:Tag}{f:SF}{d:D}{ds:List D}{ρ ρ1 ρ2:Rho}
theorem loop_c (h1:g d t ρ=some ρ1) (h2:f ρ1=some (.nx ρ2)):loopF g t f (d::ds) ρ=loopF g t f ds ρ2:=by
 conv=>lhs;unfold loopF
 rw [h1];dsimp only;rw [h2]
end
end L2.Ev
namespace L2
open PySem PySem.Spec PyProof.Rows
namespace Zt
section
variable {prog:Program}{w:World}{A:Around}{E:Value→Shared→Prop}{s:Shared}
theorem drawn {it t:Addr}{i:Nat}{items:Array Value}{x:Value}{Q:Value→Shared→Prop} (hit:s.heap.IsTupleIter it t i) (ht:s.heap.IsTuple t items) (hx:items[i]? = some x)
  (hQ:∀ h',h'.IsTupleIter it t (i + 1)→Heap.SameBut it s.heap h'→Q x { s with heap:=h' }):wpAny (model prog w) A (Builtin.SmallTypes.nextOf (.ref it)) Q E s:=by
 obtain ⟨oi,ei,ci,di⟩:=id hit
 obtain ⟨ot,et,_,nt,dt⟩:=ht
 unfold Builtin.SmallTypes.nextOf
 refine wpAny_bind (wpAny_callSpecial?_slot (name:=Str.ofString "__next__") hit.typeIs F.slot_tuple_iterator_next (wpAny_call_entry F.slot_tuple_iterator_next hit.typeIs F.entry_tuple_iterator_next ?_ (F.args_tuple_iterator_next_1 _)))
 show wpAny _ _ (field (.ref it) 0 >>= fun v=>_) _ _ s
 refine wpAny_bind (wpAny_field ei di (x:=.ref t) rfl ?_)
 refine wpAny_ite_split (fun z=>absurd z Bool.false_ne_true) fun _=>?_
 show wpAny _ _ (field (.ref it) 1 >>= fun v=>_) _ _ s
 refine wpAny_bind (wpAny_field ei di (x:=.int i 0) rfl ?_)
 refine wpAny_bind (wpAny_seqItems et dt ?_)
 simp only [Int.toNat_natCast,hx]
 refine wpAny_bind (wpAny_setField ei di (by simp) (wpAny_pure ⟨x,rfl,wpAny_pure (hQ _ ⟨_,Heap.get?_update_self _ ei (Obj.isFreed_of_fields (Obj.data_mapFields di _)),(Obj.cls_mapFields ..).trans ci,?_⟩ (Heap.SameBut.update ..))⟩))
 rw [Obj.data_mapFields di]
 simp [rawInt]
theorem ended {it t:Addr}{i:Nat}{items:Array Value}{Q:Value→Shared→Prop} (hh:A.handled=none) (hit:s.heap.IsTupleIter it t i) (ht:s.heap.IsTuple t items) (hx:items[i]? = none)
  (hE:∀ h' e,Heap.ExtBut it s.heap h'→(∃ o,h'.get? e=some o∧o.cls=.type "StopIteration")→E (.ref e) { s with heap:=h' }):wpAny (model prog w) A (Builtin.SmallTypes.nextOf (.ref it)) Q E s:=by
 obtain ⟨oi,ei,ci,di⟩:=id hit
 obtain ⟨ot,et,_,nt,dt⟩:=ht
 have hh1:A.in1.handled=none:=hh
 unfold Builtin.SmallTypes.nextOf
 refine wpAny_bind (wpAny_callSpecial?_slot (name:=Str.ofString "__next__") hit.typeIs F.slot_tuple_iterator_next (wpAny_call_entry F.slot_tuple_iterator_next hit.typeIs F.entry_tuple_iterator_next ?_ (F.args_tuple_iterator_next_1 _)))
 show wpAny _ _ (field (.ref it) 0 >>= fun v=>_) _ _ s
 refine wpAny_bind (wpAny_field ei di (x:=.ref t) rfl ?_)
 refine wpAny_ite_split (fun z=>absurd z Bool.false_ne_true) fun _=>?_
 show wpAny _ _ (field (.ref it) 1 >>= fun v=>_) _ _ s
 refine wpAny_bind (wpAny_field ei di (x:=.int i 0) rfl ?_)
 refine wpAny_bind (wpAny_seqItems et dt ?_)
 simp only [Int.toNat_natCast,hx]
 refine wpAny_bind (wpAny_rule (wpAny_bind (wpAny_setField ei di (by simp) ?_)))
 unfold Builtin.SmallTypes.stopIteration
 refine wpAny_bind ?_
 unfold newExc newTuple
 refine wpAny_bind (wpAny_newObj_type ?_ (by size_fits))
 refine wpAny_bind (m:=firstArgMember _ _) (wpAny_of_eq (a:=Value.none) (by first | (simp only [firstArgMember];rfl) | rfl) ?_)
 refine wpAny_newObj_type ?_ (by size_fits)
 unfold raiseNew
 refine wpAny_bind (wpAny_handled ?_)
 rw [hh1]
 exact wpAny_bind (wpAny_pure (wpAny_throw (hE _ _ (((Heap.SameBut.update ..).extBut.push _).push _) ⟨_,Heap.get?_push_size _ rfl,rfl⟩)))
theorem step {z TI TO i1 i2 l1 l2:Addr}{k:Nat}{xs ys:Array Value}{a b:Value}{Q:Fin→Shared→Prop} (D:ZipApart z TI TO i1 i2 l1 l2)
  (hz:IsZip s.heap z TI TO .none) (hTI:IsPair s.heap TI (.ref i1) (.ref i2)) (hTO:IsPair s.heap TO a b)
  (h1:s.heap.IsTupleIter i1 l1 k) (h2:s.heap.IsTupleIter i2 l2 k) (t1:s.heap.IsTuple l1 xs) (t2:s.heap.IsTuple l2 ys)
  (hQ:∀ x y h',xs[k]? = some x→ys[k]? = some y→IsZip h' z TI TO (rawInt s.heap.objs.size)→IsPair h' TO x y→h'.IsTupleIter i1 l1 (k + 1)→h'.IsTupleIter i2 l2 (k + 1)→IsPair h' s.heap.objs.size x y →
   (∀ c o,c∉[z,TO,i1,i2]→s.heap.get? c=some o→h'.get? c=some o)→Q (.done (.ret (.ref s.heap.objs.size))) { s with heap:=h' })
  (hE:(xs[k]? = none∨ys[k]? = none)→A.handled=none∧∀ h' e,(∀ c o,c∉[z,TO,i1,i2]→s.heap.get? c=some o→h'.get? c=some o)→(∃ o,h'.get? e=some o∧o.cls=.type "StopIteration")→E (.ref e) { s with heap:=h' }) :
  wpAny (model prog w) A (Builtin.«zip.__next__» ⟨[.ref z],[]⟩) Q E s:=by
 show wpAny _ _ (field (.ref z) 2 >>= fun v=>_) _ _ _
 refine wpAny_bind (wpAny_field hz rfl (x:=.bool false) rfl ?_)
 show wpAny _ _ (field (.ref z) 3 >>= fun v=>_) _ _ _
 refine wpAny_bind (wpAny_field hz rfl (x:=.ref TI) rfl (wpAny_bind (wpAny_seqItems hTI rfl ?_)))
 show wpAny _ _ (Builtin.SmallTypes.ownedTupleIsFree (.ref z) >>= fun v=>_) _ _ _
 refine wpAny_bind ?_
 unfold Builtin.SmallTypes.ownedTupleIsFree
 refine wpAny_bind (wpAny_field hz rfl (x:=.none) rfl (wpAny_pure ?_))
 simp only [if_true]
 refine wpAny_bind (wpAny_rule (wpAny_bind (wpAny_field hz rfl (x:=.ref TO) rfl (wpAny_bind (wpAny_setField_rec hz (by simp) fun g1 z1 b1=>?_)))))
 have z1':IsZip g1 z TI TO .ellipsis:=z1
 have D1:=D
 obtain ⟨TIz,TOz,i1z,i2z,TITO,TIi1,TIi2,TOi1,TOi2,i12,l1z,l1TO,l1i1,l1i2,l2z,l2TO,l2i1,l2i2⟩:=D1
 refine wpAny_bind ?_
 simp only [List.zipIdx_cons,List.zipIdx_nil,List.forIn_cons,List.forIn_nil]
 refine wpAny_bind (wpAny_bind (wpAny_onRaise ?_))
 show wpAny _ _ (Builtin.SmallTypes.nextOf (.ref i1) >>= fun v=>_) _ _ _
 cases hx:xs[k]? with
 | none=>
  obtain ⟨hh,fin⟩:=hE (.inl hx)
  refine wpAny_bind (ended hh (h1.extBut b1.extBut i1z) (t1.extBut b1.extBut l1z) hx fun g2 e b2 ⟨oe,he,ce⟩=>?_)
  have z2:IsZip g2 z TI TO .ellipsis:=b2 _ _ i1z.symm z1'
  have ez:e≠z:=fun q=>by subst q;rw [z2] at he;cases he;simp at ce
  refine wpAny_setField_rec z2 (by simp) fun g3 _ b3=>fin g3 e (fun c o m q=>?_) ⟨oe,b3.extBut _ _ ez he,ce⟩
  simp only [List.mem_cons,List.not_mem_nil,or_false,not_or] at m
  exact b3.extBut _ _ m.1 (b2 _ _ m.2.2.1 (b1.extBut _ _ m.1 q))
 | some x=>
  refine wpAny_bind (drawn (h1.extBut b1.extBut i1z) (t1.extBut b1.extBut l1z) hx fun g2 i2' b2=>wpAny_pure ?_)
  have o2:IsPair g2 TO a b:=b2.extBut _ _ TOi1 (b1.extBut _ _ TOz hTO)
  refine wpAny_bind (wpAny_seqItems o2 rfl (wpAny_bind (wpAny_updateSeq_pair o2 fun g3 o3 b3=>wpAny_bind (wpAny_letGo (wpAny_pure ?_)))))
  have o3':IsPair g3 TO x b:=o3
  refine wpAny_bind (wpAny_bind (wpAny_onRaise ?_))
  show wpAny _ _ (Builtin.SmallTypes.nextOf (.ref i2) >>= fun v=>_) _ _ _
  have j2:g3.IsTupleIter i2 l2 k:=((h2.extBut b1.extBut i2z).extBut b2.extBut i12.symm).extBut b3.extBut TOi2.symm
  have u2:g3.IsTuple l2 ys:=((t2.extBut b1.extBut l2z).extBut b2.extBut l2i1).extBut b3.extBut l2TO
  cases hy:ys[k]? with
  | none=>
   obtain ⟨hh,fin⟩:=hE (.inr hy)
   refine wpAny_bind (ended hh j2 u2 hy fun g4 e b4 ⟨oe,he,ce⟩=>?_)
   have z4:IsZip g4 z TI TO .ellipsis:=b4 _ _ i2z.symm (b3.extBut _ _ TOz.symm (b2.extBut _ _ i1z.symm z1'))
   have ez:e≠z:=fun q=>by subst q;rw [z4] at he;cases he;simp at ce
   refine wpAny_setField_rec z4 (by simp) fun g5 _ b5=>fin g5 e (fun c o m q=>?_) ⟨oe,b5.extBut _ _ ez he,ce⟩
   simp only [List.mem_cons,List.not_mem_nil,or_false,not_or] at m
   exact b5.extBut _ _ m.1 (b4 _ _ m.2.2.2 (b3.extBut _ _ m.2.1 (b2.extBut _ _ m.2.2.1 (b1.extBut _ _ m.1 q))))
  | some y=>
   refine wpAny_bind (drawn j2 u2 hy fun g4 k2 b4=>wpAny_pure ?_)
   have o4:IsPair g4 TO x b:=b4.extBut _ _ TOi2 o3'
   refine wpAny_bind (wpAny_seqItems o4 rfl (wpAny_bind (wpAny_updateSeq_pair o4 fun g5 o5 b5=>wpAny_bind (wpAny_letGo (wpAny_pure (wpAny_pure ?_))))))
   have o5':IsPair g5 TO x y:=o5
   refine wpAny_bind (wpAny_seqItems o5' rfl (wpAny_bind (wpAny_newTuple ?_)))
   have sz:g5.objs.size=s.heap.objs.size:=by rw [b5.1,b4.1,b3.1,b2.1,b1.1]
   have z5:IsZip g5 z TI TO .ellipsis:=b5.extBut _ _ TOz.symm (b4.extBut _ _ i2z.symm (b3.extBut _ _ TOz.symm (b2.extBut _ _ i1z.symm z1')))
   have zl:g5.objs.size≠z:=Nat.ne_of_gt (Heap.lt_size z5)
   show wpAny _ _ (Builtin.SmallTypes.ownedTupleHandOut (.ref z) (.ref g5.objs.size) >>= fun v=>_) _ _ _
   refine wpAny_bind ?_
   unfold Builtin.SmallTypes.ownedTupleHandOut
   have z6:IsZip (g5.push { cls:=.type "tuple",data:=.seq #[x,y] }) z TI TO .ellipsis:=Heap.get?_push_of_some _ z5
   refine wpAny_bind (wpAny_setField_rec z6 (by simp) fun g7 z7 b7=>?_)
   have z7':IsZip g7 z TI TO (rawInt g5.objs.size):=z7
   refine wpAny_setField_rec z7' (by simp) fun g8 z8 b8=>?_
   have z8':IsZip g8 z TI TO (rawInt g5.objs.size):=z8
   have up:∀ c o,c≠z→g5.get? c=some o→g8.get? c=some o:=fun c o n q=>b8.extBut _ _ n (b7.extBut _ _ n (Heap.get?_push_of_some _ q))
   have new:IsPair g8 g5.objs.size x y:=b8.extBut _ _ zl (b7.extBut _ _ zl (Heap.get?_push_size _ rfl))
   rw [sz] at z8' new
   have r1:g5.IsTupleIter i1 l1 (k + 1):=((i2'.extBut b3.extBut TOi1.symm).extBut b4.extBut i12).extBut b5.extBut TOi1.symm
   have r2:g5.IsTupleIter i2 l2 (k + 1):=k2.extBut b5.extBut TOi2.symm
   refine wpAny_pure ?_
   show Q (.done (.ret (.ref g5.objs.size))) _
   rw [sz]
   refine hQ x y g8 hx hy z8' (up _ _ TOz o5') (r1.at fun o q=>up _ o i1z q) (r2.at fun o q=>up _ o i2z q) new fun c o m q=>?_
   simp only [List.mem_cons,List.not_mem_nil,or_false,not_or] at m
   exact up c o m.1 (b5.extBut _ _ m.2.1 (b4.extBut _ _ m.2.2.2 (b3.extBut _ _ m.2.1 (b2.extBut _ _ m.2.2.1 (b1.extBut _ _ m.1 q)))))
end
end Zt
namespace Zt
section
variable {prog:Program}{w:World}{A:Around}{E:Value→Shared→Prop}{s:Shared}
theorem next {z TI TO i1 i2 l1 l2:Addr}{k:Nat}{xs ys:Array Value}{a b:Value}{Q:Option Value→Shared→Prop} (D:ZipApart z TI TO i1 i2 l1 l2)
  (hz:IsZip s.heap z TI TO .none) (hTI:IsPair s.heap TI (.ref i1) (.ref i2)) (hTO:IsPair s.heap TO a b)
  (h1:s.heap.IsTupleIter i1 l1 k) (h2:s.heap.IsTupleIter i2 l2 k) (t1:s.heap.IsTuple l1 xs) (t2:s.heap.IsTuple l2 ys)
  (hQ:∀ x y h',xs[k]? = some x→ys[k]? = some y→IsZip h' z TI TO (rawInt s.heap.objs.size)→IsPair h' TO x y→h'.IsTupleIter i1 l1 (k + 1)→h'.IsTupleIter i2 l2 (k + 1)→IsPair h' s.heap.objs.size x y →
   (∀ c o,c∉[z,TO,i1,i2]→s.heap.get? c=some o→h'.get? c=some o)→Q (some (.ref s.heap.objs.size)) { s with heap:=h' })
  (hE:(xs[k]? = none∨ys[k]? = none)→A.handled=none∧∀ h',(∀ c o,c∉[z,TO,i1,i2]→s.heap.get? c=some o→h'.get? c=some o)→Q none { s with heap:=h' }) :
  wpAny (model prog w) A (pyNext (.ref z)) Q E s:=by
 have ty:s.TypeIs (.ref z) "zip":=⟨_,hz,rfl⟩
 unfold pyNext
 refine wpAny_bind (wpAny_attempt (wpAny_callSpecial?_slot (name:=Str.ofString "__next__") ty F.slot_zip_next (wpAny_call_entry F.slot_zip_next ty F.entry_zip_next (step D hz hTI hTO h1 h2 t1 t2 ?_ ?_) (F.args_zip_next_1 _))))
 ·exact fun x y h' e1 e2 a1 a2 a3 a4 a5 a6=>⟨_,rfl,wpAny_pure (hQ x y h' e1 e2 a1 a2 a3 a4 a5 a6)⟩
 ·intro en
  obtain ⟨hh,fin⟩:=hE en
  exact ⟨hh,fun h' e kp ⟨o,ho,hc⟩=>wpAny_bind (wpAny_isInstance (T:="StopIteration") (b:=true) ⟨o,ho,hc⟩ isSubtype_stop (wpAny_pure (fin _ kp)))⟩
end
end Zt
def Itzt (K:PySem.W.Frag) (l1 l2:Addr):It:=
  ⟨fun i H=>∃ xs ys x y,SqT K H l1 xs∧SqT K H l2 ys∧xs[i]? = some x∧ys[i]? = some y,
   fun i H v H'=>∃ T a b,H T=none∧v=.ref T∧H'=upd H T (.tup [a,b])∧(∀ xs,SqT K H l1 xs→xs[i]? = some a)∧∀ ys,SqT K H l2 ys→ys[i]? = some b,
   fun i H=>∃ xs ys,SqT K H l1 xs∧SqT K H l2 ys∧(xs.length≤i∨ys.length≤i),false⟩
def ZtSt (z TI TO i1 i2 l1 l2:Addr) (i:Nat) (h:Heap):Prop:=IsZip h z TI TO .none∧IsPair h TI (.ref i1) (.ref i2)∧(∃ a b,IsPair h TO a b)∧h.IsTupleIter i1 l1 i∧h.IsTupleIter i2 l2 i
theorem turn_zipT {P:Program}{w:World}{K:PySem.W.Frag}{elts:List Expr} {x1}{pos:Pos}{z TI TO i1 i2 l1 l2:Addr} (D:ZipApart z TI TO i1 i2 l1 l2) :
  Turn P w K (.Tuple elts x1 pos) (Itzt K l1 l2) [z,TI,TO,i1,i2] z (ZtSt z TI TO i1 i2 l1 l2) where
 mem:=by simp
 obj:=fun i h st b hb=>by
  obtain ⟨s1,s2,⟨a,b',s3⟩,⟨o4,e4,c4,d4⟩,⟨o5,e5,c5,d5⟩⟩:=st
  simp only [List.mem_cons,List.not_mem_nil,or_false] at hb
  rcases hb with rfl | rfl | rfl | rfl | rfl
  ·exact ⟨_,s1,fun v q=>by cases q⟩
  ·exact ⟨_,s2,fun v q=>by cases q⟩
  ·exact ⟨_,s3,fun v q=>by cases q⟩
  ·exact ⟨o4,e4,fun v q=>by rw [d4] at q;cases q⟩
  ·exact ⟨o5,e5,fun v q=>by rw [d5] at q;cases q⟩
 keep:=fun i h h' st k=>by
  obtain ⟨s1,s2,⟨a,b',s3⟩,s4,s5⟩:=st
  exact ⟨k _ (by simp) _ s1,k _ (by simp) _ s2,⟨a,b',k _ (by simp) _ s3⟩,s4.at fun o e=>k _ (by simp) o e,s5.at fun o e=>k _ (by simp) o e⟩
 item:=by
  intro X hP hw hK hc i pins s σ H E I hf st hg
  subst hP hw hK
  obtain ⟨s1,s2,⟨a,b',s3⟩,s4,s5⟩:=st
  obtain ⟨xs,ys,x,y,q1,q2,e1,e2⟩:=hg
  obtain ⟨us,v1,p1,z1⟩:=I.tuple q1
  obtain ⟨ws,v2,p2,z2⟩:=I.tuple q2
  obtain ⟨u,hu,ru⟩:=v1.get e1
  obtain ⟨t,ht,rt⟩:=v2.get e2
  refine Zt.next D s1 s2 s3 s4 s5 (show s.heap.IsTuple l1 us.toArray from p1) (show s.heap.IsTuple l2 ws.toArray from p2) (fun u' t' h' f1 f2 a1 a2 a3 a4 a5 a7=>⟨_,rfl,?_⟩) fun z=>?_
  ·have f1':us[i]? = some u':=by simpa using f1
   have f2':ws[i]? = some t':=by simpa using f2
   rw [hu] at f1'
   rw [ht] at f2'
   cases f1'
   cases f2'
   refine wpAny_letOwnedTupleGo_zip a1 fun h'' b1 b2=>?_
   have lz:z < s.heap.objs.size:=Heap.lt_size s1
   have nz:s.heap.objs.size≠z:=Nat.ne_of_gt lz
   have T2:IsPair h'' s.heap.objs.size u t:=b2.extBut _ _ nz a5
   have nT:H s.heap.objs.size=none:=I.hok.fresh (Nat.le_refl _)
   have I1:Inv X pins σ (upd H s.heap.objs.size (.tup [x,y])) { s with heap:=h'' }:=I.turnNew (t':=s.toks) (ch:=[z,TO,i1,i2]) (fun b m=>hf b (by
     simp only [List.mem_cons,List.not_mem_nil,or_false] at m ⊢
     rcases m with rfl | rfl | rfl | rfl <;> simp)) (fun b o m e=>b2.extBut _ _ (fun q=>m (by rw [q];exact List.mem_cons_self)) (a7 b o m e)) (Nat.le_refl _)
     (show ObjOk X.prog X.w _ h'' _ (.tup [x,y]) from ⟨show 2≤sizeLine by unfold sizeLine;omega,[u,t],.cons ru (.cons rt .nil),⟨_,T2,rfl,rfl,_,rfl⟩⟩)
   refine ⟨.ref s.heap.objs.size,_,I1,rfl,⟨_,x,y,nT,rfl,rfl,fun xs' h=>by rw [I.tuple_inj h q1];exact e1,fun ys' h=>by rw [I.tuple_inj h q2];exact e2⟩,?_,fun b m=>?_⟩
   ·have up:∀ c o,c≠z→h'.get? c=some o→h''.get? c=some o:=fun c o n e=>b2.extBut _ _ n e
    exact ⟨b1,up _ _ D.TIz (a7 TI _ (by simp [D.TIz,D.TITO,D.TIi1,D.TIi2]) s2),⟨u,t,up _ _ D.TOz a2⟩,a3.at fun o e=>up _ o D.i1z e,a4.at fun o e=>up _ o D.i2z e⟩
   ·rw [upd_ne]
    ·exact (hf b m).1
    ·rintro rfl
     obtain ⟨o4,e4,_⟩:=id s4
     obtain ⟨o5,e5,_⟩:=id s5
     simp only [List.mem_cons,List.not_mem_nil,or_false] at m
     rcases m with m | m | m | m | m
     ·exact nz m
     ·exact absurd (Heap.lt_size s2) (by rw [← m];exact Nat.lt_irrefl _)
     ·exact absurd (Heap.lt_size s3) (by rw [← m];exact Nat.lt_irrefl _)
     ·exact absurd (Heap.lt_size e4) (by rw [← m];exact Nat.lt_irrefl _)
     ·exact absurd (Heap.lt_size e5) (by rw [← m];exact Nat.lt_irrefl _)
  ·have z1:us[i]? = none∨ws[i]? = none:=by simpa using z
   rw [hu,ht] at z1
   rcases z1 with z1 | z1 <;> cases z1
 done:=by
  intro X hP hw hK hc i pins s σ H E I hf st hg
  subst hP hw hK
  obtain ⟨s1,s2,⟨a,b',s3⟩,s4,s5⟩:=st
  obtain ⟨xs,ys,q1,q2,e⟩:=hg
  obtain ⟨us,v1,p1,z1⟩:=I.tuple q1
  obtain ⟨ws,v2,p2,z2⟩:=I.tuple q2
  have l1:=v1.length
  have l2:=v2.length
  refine Zt.next D s1 s2 s3 s4 s5 (show s.heap.IsTuple _ us.toArray from p1) (show s.heap.IsTuple _ ws.toArray from p2) (fun u' t' h' f1 f2=>?_) fun _=>⟨I.ok.hd (hc.resolve_right fun z=>Bool.false_ne_true z),fun h' k=>⟨rfl,I.turnL (t':=s.toks) (ch:=[z,TO,i1,i2]) (fun b m=>hf b (by
    simp only [List.mem_cons,List.not_mem_nil,or_false] at m ⊢
    rcases m with rfl | rfl | rfl | rfl <;> simp)) k⟩⟩
  have g1:=(List.getElem?_eq_some_iff.mp (show us[i]? = some u' by simpa using f1)).1
  have g2:=(List.getElem?_eq_some_iff.mp (show ws[i]? = some t' by simpa using f2)).1
  omega
 self:=fun _ _ _ _ _ st h=>wpAny_pyIter_zip st.1 h
end L2
namespace L2.Ev
open PySem PySem.Spec PyProof.Rows
section
variable {X:Cx}{elts:List Expr}{tp:Pos}{a b:Expr}{fa fb:EF}{p pos:Pos}
def oIsiB (T:String):D→Option D
 | .tup _=>some (.bl ("tuple" == T))
 | .fls _=>some (.bl ("list" == T))
 | d=>oIsi T d
def isiOkB (T:String):Prop:=∀ (K:PySem.W.Frag) (t:String),t∈["tuple","list"]→PySem.W.kitOne K (.type t) (.type T)=some (t == T)
theorem isiB_tuple:isiOkB "tuple":=by
 intro K t m
 simp only [List.mem_cons,List.not_mem_nil,or_false] at m
 rcases m with rfl | rfl <;> rfl
theorem call_isiB (T:String):CallR X (.builtin "isinstance") (fun xs H Q=>(∃ x t b,xs=[x,V.ty T]∧TyOf X.K H x t∧PySem.W.kitOne X.K t (.type T)=some b∧Q (.bl b) H) ∨
  (∃ a ys b,xs=[.ref a,V.ty T]∧SqT X.K H a ys∧PySem.W.kitOne X.K (.type "tuple") (.type T)=some b∧Q (.bl b) H)∨(∃ a ys b,xs=[.ref a,V.ty T]∧SqL X.K H a ys∧PySem.W.kitOne X.K (.type "list") (.type T)=some b∧Q (.bl b) H)):=by
 intro pins s σ H xs us Q I r h
 rcases h with h | ⟨a,ys,bb,rfl,hq,e,q⟩ | ⟨a,ys,bb,rfl,hq,e,q⟩
 ·exact call_isi T pins s σ H xs us Q I r h
 ·obtain ⟨u,w',rfl,ru,rw'⟩:=vals2 r
  cases rw'
  cases (show u=Value.ref a from ru)
  obtain ⟨its,_,⟨o,h1,h2,_⟩,_⟩:=I.tuple hq
  exact PySem.W.kia_one PySem.W.kitx_tuple I.kIn ⟨o,h1,h2⟩ e (fun z=>nomatch z) fun tk=>⟨.bl bb,H,I.tok tk,rfl,q⟩
 ·obtain ⟨u,w',rfl,ru,rw'⟩:=vals2 r
  cases rw'
  cases (show u=Value.ref a from ru)
  obtain ⟨its,_,⟨o,n,h1,h2,_⟩,_⟩:=I.list hq
  exact PySem.W.kia_one PySem.W.kitx_list I.kIn ⟨o,h1,h2⟩ e (fun z=>nomatch z) fun tk=>⟨.bl bb,H,I.tok tk,rfl,q⟩
theorem fp_isiB {T:String}{x:Str}{p p2:Pos} (hT:isiOk T) (hTB:isiOkB T) (hm:X.mg "isinstance"=none) (hmT:X.mg x=none) (ha:FP X a fa) (hbT:bootBuiltins x=some (.type T):=by decide +kernel) (hg:Gl X "isinstance":=by rfl) (hgT:Gl X x:=by rfl) (hn:x≠"__name__":=by decide) (hdb:(x == ("__debug__":Str))=false:=by decide)
  (hs:starEach [a,.Name x p2] X.env=[(false,eval a X.env),(false,eval (.Name x p2) X.env)]:=by rfl) (hpl:(backTo pos (starEach [.Name x p2] X.env)).any (·.1)=false:=by rfl):FP X (.Call (.Name "isinstance" p) [a,.Name x p2] [] pos) (e1 (oIsiB T) fa):=by
 obtain ⟨ta,pa,sa⟩:=ha
 have hs2:starEach [.Name x p2] X.env=[(false,eval (.Name x p2) X.env)]:=rfl
 refine ⟨_,pe_callB (call_isiB T) hg hm (show bootBuiltins "isinstance"=some (.builtin "isinstance") by decide +kernel) (pa_cons pa (pa_cons (pe_bltn (v:=.ty T) hgT hmT hbT rfl hn hdb) pa_nil) (by rw [hs,hs2])) (he:=by rw [hs,hs2]) (hpl:=hpl),fun H0 S z held ρ σ H Q d tg ok e k=>?_⟩
 obtain ⟨d1,t1,h1,h2,rfl⟩:=e1_of e
 refine sa H0 S z held ρ σ H _ d1 t1 ok h1 fun H1 v fp s1 r1 _=>?_
 unfold oIsiB at h2
 split at h2
 ·cases h2
  obtain ⟨w,xs,rfl,hq,_⟩:=r1.tup_of
  exact .inr (.inl ⟨w,xs,_,rfl,hq,hTB X.K "tuple" (by decide),k H1 _ [] s1 (.bl _) .nil⟩)
 ·cases h2
  obtain ⟨w,xs,rfl,hq,_⟩:=r1.fls_of
  exact .inr (.inr ⟨w,xs,_,rfl,hq,hTB X.K "list" (by decide),k H1 _ [] s1 (.bl _) .nil⟩)
 ·unfold oIsi at h2
  cases ht:tyD d1 with
  | none=>rw [ht] at h2;cases h2
  | some t=>
   rw [ht] at h2
   cases h2
   obtain ⟨ty,mem⟩:=r1.ty ht
   exact .inl ⟨v,_,_,rfl,ty,hT X.K t mem,k H1 _ [] s1 (.bl _) .nil⟩
end
section
variable {X:Cx}{pos:Pos}
def eLstI (g:AF):EF:=fun ρ=>(g ρ).bind fun ps=>if immAll (ps.map (·.1))=true then some (.lst (ps.map (·.1)),.own) else none
theorem fp_lstI {es:List Expr}{g:AF} (h:FA X es g) (hl:es.length≤1000:=by decide):FP X (.List es pos) (eLstI g):=by
 obtain ⟨t,p,hg,q⟩:=h
 refine ⟨_,pe_lst p,fun H0 S z held ρ σ H Q d tg ok e k=>?_⟩
 unfold eLstI at e
 cases h1:g ρ with
 | none=>rw [h1] at e;cases e
 | some ps=>
  rw [h1,Option.bind_some] at e
  by_cases hi:immAll (ps.map (·.1))=true
  ·rw [if_pos hi] at e
   cases e
   refine q H0 S z held ρ σ H _ ps ok h1 fun H1 vs fp s1 r1 g1=>⟨?_,fun a ha=>?_⟩
   ·rw [← r1.length,List.length_map,hg ρ ps h1]
    exact Nat.le_of_lt (small1000 hl)
   ·have hn:=r1.imm hi
    subst hn
    have s2:Same H1 (upd H1 a (.lst vs)):=fun b o e=>by rw [upd_ne (ne_of_none e ha)];exact e
    refine k _ _ [a] (s1.trans s2) (.lst upd_same (r1.same s2)) ⟨List.nodup_cons.mpr ⟨(fun m=>by cases m),List.nodup_nil⟩,fun b m=>?_⟩
    cases List.mem_singleton.mp m
    exact s1.free ha
  ·rw [if_neg hi] at e;cases e
end
end L2.Ev
namespace L2.Ev
open PySem PySem.W
section
variable {P:Program}{w:World}{K:Frag}{h base:Heap}{mg:Str→Option Value}{CX:CXT}{k:Nat}{x:Str}{st:Stmt}{ps:List Str}{sp:Sp}{cm:Bool}
theorem fnWr (X:K.In h) (G:h.Ns mainGlobals mg) (l:GFn K x st) (ok:∀ {f:Addr}{fd:FuncData},mg x=some (.ref f)→keepIn K (.ref f)=true→Binds K fd ps []→Fun K x x st f fd→FnOk P w K mg base CX k f fd ps sp cm) (b:BA x x st ps):FN P w K mg base CX k x ps sp cm:=by
 obtain ⟨f,a,l⟩:=l
 obtain ⟨kp,fd,F⟩:=gl_fun l
 exact ⟨f,fd,ok (mg_of X G a) kp (F.binds b) F,mg_of X G a,kp,F.binds b⟩
end
end L2.Ev
namespace L2
open PySem PySem.Spec PyProof.Rows Builtin Builtin.Str
section
variable {prog:Program}{w:World}{A:Around}{E:Value→Shared→Prop}{s:Shared}{x y:Str}{t u:Tok}{Q:Value→Shared→Prop}
def strList (h:Heap) (l:List (Str×Tok)):Heap:=h.push { cls:=.type "list",data:=.seq (strValues l).toArray }
theorem call_split1 (hy:(y.length == 0)=false) (hq:∀ l k,l.map (·.1)=Txt.split x y→Q (.ref s.heap.objs.size) { s with toks:=k,heap:=strList s.heap l })
  (hsz:x.length≤sizeLine) (hsz2:(partsBetween x (occurrences x y 0 x.length (x.length + 1)) y.length).length≤sizeLine) :
  wpAny (model prog w) A (call (.builtin "str.split") [.str x t,.str y u]) Q E s:=by
 cases h1:(decide (x.length < y.length)||decide (strKind x < strKind y))
 ·cases hf:(occurrences x y 0 x.length (x.length + 1)).isEmpty
  ·refine call_meets F.slot_str_split (typeIs_str _ _ _) F.entry_str_split (F.args_str_split_2 _ _) (meets_str_split_sep x y t u h1 hy hf hsz hsz2) ?_
   show wants Q E _ { s with toks:=_,heap:=s.heap.push { cls:=.type "list",data:=.seq (strsFrom s.toks (partsBetween x (occurrences x y 0 x.length (x.length + 1)) y.length)).toArray } }
   rw [strsFrom_eq]
   exact hq (numbered s.toks _) _ ((numbered_texts _ _).trans ((if_neg (ne_true_of_eq_false h1)).trans (if_neg (ne_true_of_eq_false hf))).symm)
  ·exact call_meets F.slot_str_split (typeIs_str _ _ _) F.entry_str_split (F.args_str_split_2 _ _) (meets_str_split_not_found x y t u h1 hy hf)
    (hq [(x,t)] _ ((if_neg (ne_true_of_eq_false h1)).trans (if_pos hf)).symm)
 ·exact call_meets F.slot_str_split (typeIs_str _ _ _) F.entry_str_split (F.args_str_split_2 _ _) (meets_str_split_cannot_occur x y t u h1)
   (hq [(x,t)] _ (if_pos h1).symm)
theorem parts_len:(partsBetween x (occurrences x y 0 x.length (x.length + 1)) y.length).length≤x.length + 2:=by
 have h:=StrLaws.occ_length_le x y 0 x.length (x.length + 1)
 unfold partsBetween
 rw [List.length_map,List.length_zip]
 simp only [List.length_cons,List.length_map,List.length_append,List.length_nil]
 omega
theorem split_len:(Txt.split x y).length≤x.length + 2:=by
 unfold Txt.split
 split
 ·simp
 ·split
  ·simp
  ·exact parts_len
theorem vals_str:∀ {l:List (Str×Tok)}{ts:List Str},l.map (·.1)=ts→Vals (ts.map V.str) (strValues l)
 | [],_,e=>by subst e;exact .nil
 | (x,t)::r,_,e=>by subst e;exact .cons ⟨t,rfl⟩ (vals_str rfl)
theorem str_vals:∀ {ts:List Str}{us:List Value},Vals (ts.map V.str) us→∃ l:List (Str×Tok),us=strValues l∧l.map (·.1)=ts
 | [],us,h=>by cases h;exact ⟨[],rfl,rfl⟩
 | x::r,us,h=>by
  cases h with
  | cons h1 h2=>
   obtain ⟨t,rfl⟩:=h1
   obtain ⟨l,rfl,e⟩:=str_vals h2
   exact ⟨(x,t)::l,rfl,by rw [List.map_cons,e]⟩
end
section
variable {X:Cx}
def rSplit:V→List V→Hp→VK→Prop:=fun x vs H Q=>∃ i y,x=.str i∧vs=[.str y]∧(y.length == 0)=false∧i.length≤100000∧∀ l,H l=none→Q (.ref l) (upd H l (.lst ((Txt.split i y).map V.str)))
theorem mt_split:MtR X "str.split" rSplit:=by
 intro pins s σ H x vs v us Q I rx rv h
 obtain ⟨i,y,rfl,rfl,hy,hl,q⟩:=h
 obtain ⟨t,rfl⟩:=rx
 obtain ⟨u,rfl,ru⟩:=vals1 rv
 obtain ⟨t2,rfl⟩:=ru
 have hp:=parts_len (x:=i) (y:=y)
 refine call_split1 hy (fun l k e=>?_) (by rw [sizeLine_eq];omega) (by rw [sizeLine_eq];omega)
 have hv:=vals_str e
 have hlen:((Txt.split i y).map V.str).length≤sizeLine:=by
  have:=split_len (x:=i) (y:=y)
  rw [List.length_map,sizeLine_eq];omega
 exact ⟨.ref s.heap.objs.size,_,I.lnew hv hlen,rfl,q _ I.fresh⟩
def rJoin (K:PySem.W.Frag):V→List V→Hp→VK→Prop:=fun x vs H Q=>∃ (i:Str) (a:Addr) (ts:List Str),x=.str i∧vs=[.ref a]∧SqL K H a (ts.map V.str)∧JoinOk i ts=true∧Q (.str (Txt.join i ts)) H
theorem mt_join:MtR X "str.join" (rJoin X.K):=by
 intro pins s σ H x vs v us Q I rx rv h
 obtain ⟨i,a,ts,rfl,rfl,hq,ok,q⟩:=h
 obtain ⟨t,rfl⟩:=rx
 obtain ⟨u,rfl,ru⟩:=vals1 rv
 cases ru
 obtain ⟨its,r',pl,hz⟩:=I.list hq
 obtain ⟨l,rfl,e⟩:=str_vals r'
 exact SC.join pl.isList e ok fun t' k=>⟨.str _,H,I.tok _,⟨t',rfl⟩,q⟩
def rStarts:V→List V→Hp→VK→Prop:=fun x vs H Q=>∃ i y,x=.str i∧vs=[.str y]∧Q (.bl (Txt.startswith i y)) H
theorem mt_starts:MtR X "str.startswith" rStarts:=by
 intro pins s σ H x vs v us Q I rx rv h
 obtain ⟨i,y,rfl,rfl,q⟩:=h
 obtain ⟨t,rfl⟩:=rx
 obtain ⟨u,rfl,ru⟩:=vals1 rv
 obtain ⟨t2,rfl⟩:=ru
 exact SC.startswith ⟨.bl _,H,I,rfl,q⟩
theorem call_str1:CallR X (.type "str") (fun xs H Q=>(∃ i,xs=[.int i]∧i.natAbs.log2 < 1920∧Q (.str (toString i)) H)∨∃ x,xs=[.str x]∧Q (.str x) H):=by
 intro pins s σ H xs us Q I r h
 rcases h with ⟨i,rfl,hz,q⟩ | ⟨x,rfl,q⟩
 ·obtain ⟨u,rfl,t,rfl⟩:=vals1 r
  exact PySem.P.str_of_int hz ⟨.str _,H,I.tok _,⟨_,rfl⟩,q⟩
 ·obtain ⟨u,rfl,t,rfl⟩:=vals1 r
  exact PySem.P.str_of_str ⟨.str _,H,I,⟨_,rfl⟩,q⟩
def rIndex (K:PySem.W.Frag):V→List V→Hp→VK→Prop:=fun x vs H Q=>∃ (l:Addr) (ts:List Str) (i:Str) (j:Nat),x=.ref l∧vs=[.str i]∧SqL K H l (ts.map V.str)∧ts[j]? = some i∧(∀ m,m < j→ts[m]?≠some i)∧Q (.int j) H
theorem eqU_str (i y:Str) (t:Tok):eqU (.str i) (.str y t)=(y == i):=rfl
theorem mt_index:MtR X "list.index" (rIndex X.K):=by
 intro pins s σ H x vs v us Q I rx rv h
 obtain ⟨l,ts,i,j,rfl,rfl,hq,hj,hno,q⟩:=h
 cases rx
 obtain ⟨u,rfl,ru⟩:=vals1 rv
 obtain ⟨t,rfl⟩:=ru
 obtain ⟨its,r,pl,hz⟩:=I.list hq
 have hlen:=r.length
 rw [List.length_map] at hlen hz
 obtain ⟨o,ho,hc,n,hd⟩:=pl.isList
 obtain ⟨c,dd,da,sl⟩:=o
 cases hc
 cases hd
 have hjl:=(List.getElem?_eq_some_iff.mp hj).1
 have hat:∀ (m:Nat) (hm:m < its.toArray.size),∃ y t',ts[m]? = some y∧its.toArray[m]=.str y t':=fun m hm=>by
  have hm':m < ts.length:=by simp at hm;omega
  obtain ⟨w,hw,rw'⟩:=r.get (i:=m) (x:=.str ts[m]) (by rw [List.getElem?_map,List.getElem?_eq_getElem hm'];rfl)
  obtain ⟨t',rfl⟩:=rw'
  refine ⟨ts[m],t',List.getElem?_eq_getElem hm',?_⟩
  have:=(List.getElem?_eq_some_iff.mp hw).2
  simpa using this
 have hsz:j < its.toArray.size:=by simp;omega
 refine call_meets F.slot_list_index ⟨_,ho,rfl⟩ F.entry_list_index (F.args_list_index_2 _ _) (SeqAt.list_indexAt l its.toArray n dd sl (.str i t) (eqU (.str i)) j hsz (by rw [sizeLine_eq] at hz;omega) ?_ (fun m hm hlt=>?_)) ⟨ho,fun w hw=>mem_eqAt (x:=.str i) (v:=.str i t) ⟨t,rfl⟩ rfl r (by rw [List.all_map];exact List.all_eq_true.mpr fun _ _=>rfl) w (by simpa using hw),⟨.int j,H,I.tok _,⟨_,rfl⟩,q⟩⟩
 ·obtain ⟨y,t',h1,h2⟩:=hat j hsz
  rw [h2,eqU_str]
  rw [hj] at h1
  cases h1
  exact beq_self_eq_true _
 ·obtain ⟨y,t',h1,h2⟩:=hat m hm
  rw [h2,eqU_str]
  refine Bool.eq_false_iff.mpr fun e=>hno m hlt ?_
  rw [h1,eq_of_beq e]
theorem call_intS:CallR X (.type "int") (fun xs H Q=>∃ (x:Str) (n:Int),xs=[.str x]∧x.length≤640∧PySem.intText? x=some n∧Q (.int n) H):=by
 intro pins s σ H xs us Q I r h
 obtain ⟨x,n,rfl,hl,hn,q⟩:=h
 obtain ⟨u,rfl,t,rfl⟩:=vals1 r
 exact PySem.W.KIN.call_text hn hl ⟨.int _,H,I.tok _,⟨_,rfl⟩,q⟩
end
def Its (x:Str):It:=⟨fun i _=>i < x.cps.size,fun i H v H'=>H'=H∧∃ c,x.cps[i]? = some c∧v=.str ⟨#[c]⟩,fun i _=>x.cps.size≤i,false⟩
theorem turn_str {P:Program}{w:World}{K:PySem.W.Frag}{tg:Expr} (x:Str) (t:Tok) (it:Addr):Turn P w K tg (Its x) [it] it (fun i h=>h.IsStrIter it "str_ascii_iterator" x t i) where
 mem:=by simp
 obj:=fun i h st b hb=>by
  have e:b=it:=by simpa using hb
  subst e
  obtain ⟨o,e,c,d⟩:=st
  exact ⟨o,e,fun v z=>by rw [d] at z;cases z⟩
 keep:=fun i h h' st k=>let ⟨o,ho,r⟩:=st;⟨o,k it (by simp) o ho,r⟩
 item:=by
  intro X hP hw hK hc i pins s σ H E I hf st hg
  subst hP hw hK
  have hi:i < x.cps.size:=hg
  obtain ⟨f0,f1,f2,f3,f4,f5⟩:=hf it (by simp)
  refine wpAny_pyNext_ascii_item st (c:=x.cps[i]) (by simp [hi]) fun h' st' sb=>?_
  have I1:Inv X pins σ H { s with heap:=h',toks:=s.toks + 1 }:=I.turned (fun b o hb e=>(sb.2 b hb).trans e) f0 f1 f3 f4 f5
  obtain ⟨o,e,c,d⟩:=id st'
  exact ⟨_,rfl,go_of (s:={ s with heap:=h',toks:=s.toks + 1 }) e c d (by decide) ⟨.str ⟨#[x.cps[i]]⟩,H,I1,⟨_,rfl⟩,⟨rfl,x.cps[i],by simp [hi],rfl⟩,st',fun b hb=>(hf b hb).1⟩⟩
 done:=by
  intro X hP hw hK hc i pins s σ H E I hf st hg
  subst hP hw hK
  obtain ⟨f0,f1,f2,f3,f4,f5⟩:=hf it (by simp)
  have hi:x.cps.size≤i:=hg
  exact wpAny_pyNext_ascii_end (I.ok.hd (hc.resolve_right fun z=>Bool.false_ne_true z)) st (by simp [hi]) fun h' eb=>⟨rfl,I.turned (t':=s.toks) (fun b o hb e=>eb b o hb e) f0 f1 f3 f4 f5⟩
 self:=fun _ _ _ _ _ st h=>wpAny_pyIter_striter_ascii st h
def iStr (tl:TE):TI:=fun σ H R=>tl σ H fun v H1=>∃ x:Str,v=.str x∧x.cps.all (· < 128)=true∧R (Its x) H1
section
variable {X:Cx}{tg:Expr}
theorem pi_str {l:Expr}{tl:TE} (hl:PE X l tl):PI X tg l (iStr tl):=by
 intro pins s σ H R I h
 refine thn (hl pins s σ H _ I h) fun v s1 ⟨x,H1,I1,r1,q1⟩=>?_
 obtain ⟨a,e,ha,q⟩:=q1
 subst e
 obtain ⟨t,rfl⟩:=r1
 refine wpAny_pyIter_ascii ha ?_
 refine ⟨s1.heap.objs.size,[s1.heap.objs.size],_,_,H1,rfl,I1.kept (t':=s1.toks) fun b o e=>Heap.get?_push_of_some _ e,turn_str a t _,⟨_,Heap.get?_push_size _ rfl,rfl,rfl⟩,fun b hb=>?_,q⟩
 have e:b=s1.heap.objs.size:=by simpa using hb
 subst e
 exact I1.fpOk (Nat.le_refl _) (I1.hok.fresh (Nat.le_refl _))
end
end L2
namespace L2.Ev
open PySem PySem.Spec PyProof.Rows Builtin Builtin.Str
section
variable {X:Cx}{a b:Expr}{fa fb:EF}{p p2 p3 pos:Pos}
def DoesM (K:PySem.W.Frag) (r:V→List V→Hp→VK→Prop) (op:D→D→Option D):Prop:=∀ (H:Hp) (x:Str) (y:V) (d2:D) (f2:List Addr) (d:D) (Q:VK),Rep K H d2 y f2→op (.str x) d2=some d →
 (∀ H' v fp,Same H H'→Rep K H' d v fp→fp.Nodup→(∀ a∈fp,H a=none)→Q v H')→r (.str x) [y] H Q
theorem fp_sm {name:Str}{id:String}{r:V→List V→Hp→VK→Prop}{op:D→D→Option D} (slot:PySem.Slot "str" name id) (hty:typeOf (.builtin id)=pure (.type "method_descriptor")) (hm:MtR X id r) (dd:DoesM X.K r op) (hs1:∀ d1 d2 d,op d1 d2=some d→∃ x,d1=.str x)
  (ha:FP X a fa) (hb:FP X b fb) (hs:starEach [b] X.env=[(false,eval b X.env)]:=by rfl) (hbase:attributeBase a name X.env (eval a X.env)=eval a X.env:=by rfl)
  (hfew:((backTo p3 (starEach [b] X.env)).all (fun x=>!x.1)&&(backToKw p3 (keywordEach [] X.env)).all (fun x=>x.1.isSome)&&decide ([b].length + ([]:List Keyword).length + (if ([]:List Keyword).isEmpty then 0 else 1) < 30))=true:=by rfl)
  (hline:(p2.endLine == p3.line)=true:=by rfl):FP X (.Call (.Attribute a name p2) [b] [] p3) (e2 op fa fb):=by
 obtain ⟨ta,pa,sa⟩:=ha
 obtain ⟨tb,pb,sb⟩:=hb
 refine ⟨_,pe_bm PySem.F.plainAttrs_str slot hty hm pa (pa_cons pb pa_nil hs) hbase hfew hline hs rfl,fun H0 S z held ρ σ H Q d tg ok e k=>?_⟩
 obtain ⟨d1,t1,d2,t2,e1,e2',e3,rfl⟩:=e2_of e
 obtain ⟨i,rfl⟩:=hs1 _ _ _ e3
 refine sa H0 S z held ρ σ H _ _ t1 ok e1 fun H1 x f1 s1 r1 _=>?_
 obtain ⟨rfl,_⟩:=r1.str_of
 refine ⟨rfl,?_⟩
 refine sb H0 S z held ρ σ H1 _ d2 t2 (ok.same s1) e2' fun H2 y f2 s2 r2 _=>?_
 exact dd H2 i y d2 f2 d Q r2 e3 fun H' v fp s3 r3 n1 n2=>k H' v fp ((s1.trans s2).trans s3) r3 ⟨n1,fun b m=>(s1.trans s2).free (n2 b m)⟩
def oSplit:D→D→Option D
 | .str x,.str y=>if (y.length == 0)=false∧x.length≤100000 then some (.lst ((Txt.split x y).map D.str)) else none
 | _,_=>none
theorem does_split {K:PySem.W.Frag}:DoesM K rSplit oSplit:=by
 intro H x y d2 f2 d Q r e k
 cases d2 <;> try (cases e;done)
 rename_i z
 obtain ⟨rfl,_⟩:=r.str_of
 have e:(if (z.length == 0)=false∧x.length≤100000 then some (D.lst ((Txt.split x z).map D.str)) else none)=some d:=e
 by_cases hc:(z.length == 0)=false∧x.length≤100000
 ·rw [if_pos hc] at e
  cases e
  refine ⟨x,z,rfl,rfl,hc.1,hc.2,fun l hl=>?_⟩
  exact k _ _ [l] (Same.new hl) (.lst upd_same (reps_strs _)) (by simp) fun c m=>by cases List.mem_singleton.mp m;exact hl
 ·rw [if_neg hc] at e;cases e
theorem fp_split (ha:FP X a fa) (hb:FP X b fb) (hs:starEach [b] X.env=[(false,eval b X.env)]:=by rfl) (hbase:attributeBase a "split" X.env (eval a X.env)=eval a X.env:=by rfl)
  (hfew:((backTo p3 (starEach [b] X.env)).all (fun x=>!x.1)&&(backToKw p3 (keywordEach [] X.env)).all (fun x=>x.1.isSome)&&decide ([b].length + ([]:List Keyword).length + (if ([]:List Keyword).isEmpty then 0 else 1) < 30))=true:=by rfl)
  (hline:(p2.endLine == p3.line)=true:=by rfl):FP X (.Call (.Attribute a "split" p2) [b] [] p3) (e2 oSplit fa fb):=
 fp_sm PySem.F.slot_str_split PySem.F.type_str_split mt_split does_split (fun d1 d2 d e=>by cases d1 <;> first | exact ⟨_,rfl⟩ | cases e) ha hb hs hbase hfew hline
def oJoin:D→D→Option D
 | .str x,.lst ds=>match strsD ds with
  | some ts=>if JoinOk x ts=true then some (.str (Txt.join x ts)) else none
  | none=>none
 | _,_=>none
theorem does_join {K:PySem.W.Frag}:DoesM K (rJoin K) oJoin:=by
 intro H x y d2 f2 d Q r e k
 cases d2 with
 | lst ds=>
  obtain ⟨a,xs,f,rfl,hq,rs,_⟩:=r.lst_of
  have e:(match strsD ds with | some ts=>if JoinOk x ts=true then some (D.str (Txt.join x ts)) else none | none=>none)=some d:=e
  cases h:strsD ds with
  | none=>rw [h] at e;cases e
  | some ts=>
   rw [h] at e
   dsimp only at e
   by_cases hc:JoinOk x ts=true
   ·rw [if_pos hc] at e
    cases e
    have hx:=strsD_of rs h
    subst hx
    exact ⟨x,a,ts,rfl,rfl,hq,hc,k H _ [] (Same.refl H) (.str _) List.nodup_nil fun a m=>nomatch m⟩
   ·rw [if_neg hc] at e;cases e
 | _=>cases e
theorem fp_join (ha:FP X a fa) (hb:FP X b fb) (hs:starEach [b] X.env=[(false,eval b X.env)]:=by rfl) (hbase:attributeBase a "join" X.env (eval a X.env)=eval a X.env:=by rfl)
  (hfew:((backTo p3 (starEach [b] X.env)).all (fun x=>!x.1)&&(backToKw p3 (keywordEach [] X.env)).all (fun x=>x.1.isSome)&&decide ([b].length + ([]:List Keyword).length + (if ([]:List Keyword).isEmpty then 0 else 1) < 30))=true:=by rfl)
  (hline:(p2.endLine == p3.line)=true:=by rfl):FP X (.Call (.Attribute a "join" p2) [b] [] p3) (e2 oJoin fa fb):=
 fp_sm PySem.F.slot_str_join PySem.F.type_str_join mt_join does_join (fun d1 d2 d e=>by cases d1 <;> first | exact ⟨_,rfl⟩ | cases e) ha hb hs hbase hfew hline
def oStarts:D→D→Option D
 | .str x,.str y=>some (.bl (Txt.startswith x y))
 | _,_=>none
theorem does_starts {K:PySem.W.Frag}:DoesM K rStarts oStarts:=by
 intro H x y d2 f2 d Q r e k
 cases d2 <;> try (cases e;done)
 obtain ⟨rfl,_⟩:=r.str_of
 cases e
 exact ⟨x,_,rfl,rfl,k H _ [] (Same.refl H) (.bl _) List.nodup_nil fun a m=>nomatch m⟩
theorem fp_starts (ha:FP X a fa) (hb:FP X b fb) (hs:starEach [b] X.env=[(false,eval b X.env)]:=by rfl) (hbase:attributeBase a "startswith" X.env (eval a X.env)=eval a X.env:=by rfl)
  (hfew:((backTo p3 (starEach [b] X.env)).all (fun x=>!x.1)&&(backToKw p3 (keywordEach [] X.env)).all (fun x=>x.1.isSome)&&decide ([b].length + ([]:List Keyword).length + (if ([]:List Keyword).isEmpty then 0 else 1) < 30))=true:=by rfl)
  (hline:(p2.endLine == p3.line)=true:=by rfl):FP X (.Call (.Attribute a "startswith" p2) [b] [] p3) (e2 oStarts fa fb):=
 fp_sm PySem.F.slot_str_startswith PySem.F.type_str_startswith mt_starts does_starts (fun d1 d2 d e=>by cases d1 <;> first | exact ⟨_,rfl⟩ | cases e) ha hb hs hbase hfew hline
def oStr:D→Option D
 | .int i=>if i.natAbs < 2 ^ 64 then some (.str (toString i)) else none
 | .str x=>some (.str x)
 | _=>none
theorem does_str {K:PySem.W.Frag}:Does1 K (fun xs H Q=>(∃ i,xs=[.int i]∧i.natAbs.log2 < 1920∧Q (.str (toString i)) H)∨∃ x,xs=[.str x]∧Q (.str x) H) oStr:=by
 intro H x d1 f1 d Q r e k
 cases d1 <;> try (cases e;done)
 ·rename_i i
  have e:(if i.natAbs < 2 ^ 64 then some (D.str (toString i)) else none)=some d:=e
  by_cases hc:i.natAbs < 2 ^ 64
  ·rw [if_pos hc] at e
   cases e
   cases r
   exact .inl ⟨i,rfl,log2_sm64 hc,k H _ [] (Same.refl H) (.str _) List.nodup_nil fun a m=>nomatch m⟩
  ·rw [if_neg hc] at e;cases e
 ·cases e
  cases r
  exact .inr ⟨_,rfl,k H _ [] (Same.refl H) (.str _) List.nodup_nil fun a m=>nomatch m⟩
theorem fp_strC (hm:X.mg "str"=none) (ha:FP X a fa) (hg:Gl X "str":=by rfl) (hs:starEach [a] X.env=[(false,eval a X.env)]:=by rfl):FP X (.Call (.Name "str" p) [a] [] pos) (e1 oStr fa):=
 fp_1 does_str ha fun ta pa=>pe_callTy call_str1 hg hm (show bootBuiltins "str"=some (.type "str") by decide +kernel) (pa_cons pa pa_nil hs) (he:=hs) (hpl:=rfl)
def oInT:D→D→Option D
 | .str x,.str y=>some (.bl (!(occurrences y x 0 y.length 1).isEmpty))
 | _,_=>none
theorem does_inT {K:PySem.W.Frag}:Does2 K (fun x y H Q=>∃ i j,x=.str i∧y=.str j∧Q (.bl (!(Builtin.Str.occurrences j i 0 j.length 1).isEmpty)) H) oInT:=by
 intro H x y d1 d2 f1 f2 d Q r1 r2 e k
 cases d1 <;> try (cases e;done)
 cases d2 <;> try (cases e;done)
 cases e
 cases r1
 cases r2
 exact ⟨_,_,rfl,rfl,k H _ (Same.refl H) (.bl _)⟩
theorem fp_inT (ha:FP X a fa) (hb:FP X b fb) (hm:behindInMarks .In b=false:=by rfl):FP X (.Compare a [.In] [b] pos) (e2 oInT fa fb):=fp_cmp op_in_str does_inT ha hb hm
def oCatS:D→D→Option D
 | .str x,.str y=>if x.length + y.length≤sizeLine then some (.str (x++y)) else none
 | _,_=>none
theorem does_catS {K:PySem.W.Frag}:Does2 K (fun x y H Q=>∃ i j,x=.str i∧y=.str j∧i.length + j.length≤sizeLine∧Q (.str (i++j)) H) oCatS:=by
 intro H x y d1 d2 f1 f2 d Q r1 r2 e k
 cases d1 <;> try (cases e;done)
 cases d2 <;> try (cases e;done)
 rename_i i j
 have e:(if i.length + j.length≤sizeLine then some (D.str (i++j)) else none)=some d:=e
 by_cases hc:i.length + j.length≤sizeLine
 ·rw [if_pos hc] at e
  cases e
  cases r1
  cases r2
  exact ⟨_,_,rfl,rfl,hc,k H _ (Same.refl H) (.str _)⟩
 ·rw [if_neg hc] at e;cases e
theorem fp_catS (ha:FP X a fa) (hb:FP X b fb):FP X (.BinOp a .Add b pos) (e2 oCatS fa fb):=fp_bin op_add_str does_catS ha hb
def oIndex:D→D→Option D
 | .lst ds,.str i=>match strsD ds with
  | some ts=>(ts.findIdx? (· == i)).map fun j:Nat=>.int j
  | none=>none
 | _,_=>none
theorem fp_index (ha:FP X a fa) (hb:FP X b fb) (hs:starEach [b] X.env=[(false,eval b X.env)]:=by rfl) (hbase:attributeBase a "index" X.env (eval a X.env)=eval a X.env:=by rfl)
  (hfew:((backTo p3 (starEach [b] X.env)).all (fun x=>!x.1)&&(backToKw p3 (keywordEach [] X.env)).all (fun x=>x.1.isSome)&&decide ([b].length + ([]:List Keyword).length + (if ([]:List Keyword).isEmpty then 0 else 1) < 30))=true:=by rfl)
  (hline:(p2.endLine == p3.line)=true:=by rfl):FP X (.Call (.Attribute a "index" p2) [b] [] p3) (e2 oIndex fa fb):=by
 obtain ⟨ta,pa,sa⟩:=ha
 obtain ⟨tb,pb,sb⟩:=hb
 refine ⟨_,pe_bm PySem.F.plainAttrs_list PySem.F.slot_list_index PySem.F.type_list_index mt_index pa (pa_cons pb pa_nil hs) hbase hfew hline hs rfl,fun H0 S z held ρ σ H Q d tg ok e k=>?_⟩
 obtain ⟨d1,t1,d2,t2,e1,e2',e3,rfl⟩:=e2_of e
 refine sa H0 S z held ρ σ H _ _ t1 ok e1 fun H1 x f1 s1 r1 _=>?_
 cases d1 with
 | lst ds=>
  cases d2 with
  | str i=>
   have e3:(match strsD ds with | some ts=>(ts.findIdx? (· == i)).map fun j:Nat=>D.int j | none=>none)=some d:=e3
   cases h:strsD ds with
   | none=>rw [h] at e3;cases e3
   | some ts=>
    rw [h] at e3
    dsimp only at e3
    cases h2:ts.findIdx? (· == i) with
    | none=>rw [h2] at e3;cases e3
    | some j=>
     rw [h2] at e3
     cases e3
     obtain ⟨l0,xs0,f0,rfl,hq0,rs0,_⟩:=r1.lst_of
     refine ⟨.inl ⟨rfl,_,hq0⟩,?_⟩
     refine sb H0 S z held ρ σ H1 _ _ t2 (ok.same s1) e2' fun H2 y f2 s2 r2 _=>?_
     obtain ⟨rfl,_⟩:=r2.str_of
     have r1':=r1.same s2
     obtain ⟨l,xs,f,e0,hq,rs,_⟩:=r1'.lst_of
     cases e0
     have hx:=strsD_of rs h
     subst hx
     obtain ⟨hj,hp,hno⟩:=List.findIdx?_eq_some_iff_getElem.mp h2
     refine ⟨l0,ts,i,j,rfl,rfl,hq,?_,fun m hm em=>?_,k H2 _ [] (s1.trans s2) (.int _) ⟨List.nodup_nil,fun a m=>nomatch m⟩⟩
     ·rw [List.getElem?_eq_getElem hj,eq_of_beq hp]
     ·obtain ⟨hm',e'⟩:=List.getElem?_eq_some_iff.mp em
      exact hno m hm (by rw [e'];exact beq_self_eq_true _)
  | _=>cases e3
 | _=>cases e3
def oIntS:D→Option D
 | .str x=>if x.length≤640 then (PySem.intText? x).map D.int else none
 | _=>none
theorem does_intS {K:PySem.W.Frag}:Does1 K (fun xs H Q=>∃ (x:Str) (n:Int),xs=[.str x]∧x.length≤640∧PySem.intText? x=some n∧Q (.int n) H) oIntS:=by
 intro H x d1 f1 d Q r e k
 cases d1 <;> try (cases e;done)
 rename_i z
 cases r
 have e:(if z.length≤640 then (PySem.intText? z).map D.int else none)=some d:=e
 by_cases hc:z.length≤640
 ·rw [if_pos hc] at e
  cases h:PySem.intText? z with
  | none=>rw [h] at e;cases e
  | some n=>
   rw [h] at e
   cases e
   exact ⟨z,n,rfl,hc,h,k H _ [] (Same.refl H) (.int _) List.nodup_nil fun a m=>nomatch m⟩
 ·rw [if_neg hc] at e;cases e
theorem fp_intS (hm:X.mg "int"=none) (ha:FP X a fa) (hg:Gl X "int":=by rfl) (hs:starEach [a] X.env=[(false,eval a X.env)]:=by rfl):FP X (.Call (.Name "int" p) [a] [] pos) (e1 oIntS fa):=
 fp_1 does_intS ha fun ta pa=>pe_callTy call_intS hg hm (show bootBuiltins "int"=some (.type "int") by decide +kernel) (pa_cons pa pa_nil hs) (he:=hs) (hpl:=rfl)
def signs (x:Str):List D:=x.cps.toList.map fun c=>D.str ⟨#[c]⟩
def iStrF (g:EF):IF:=fun ρ=>match g ρ with
 | some (.str x,_)=>if x.cps.all (· < 128)=true then some (signs x,.own) else none
 | _=>none
theorem itOk_str {K:PySem.W.Frag}{x:Str}:ItOk K (Its x) (signs x) []:=by
 intro H i hh
 refine ⟨fun d hd=>?_,fun hl=>?_⟩
 ·unfold signs at hd
  rw [List.getElem?_map] at hd
  cases e:x.cps.toList[i]? with
  | none=>rw [e] at hd;cases hd
  | some c=>
   rw [e] at hd
   cases hd
   rw [Array.getElem?_toList] at e
   have hi:i < x.cps.size:=(Array.getElem?_eq_some_iff.mp e).1
   refine ⟨hi,fun v H' y=>?_⟩
   obtain ⟨rfl,c',hc',rfl⟩:=y
   rw [e] at hc'
   cases hc'
   exact ⟨Same.refl _,[],.str _,fun a m=>nomatch m⟩
 ·unfold signs at hl
  rw [List.length_map,Array.length_toList] at hl
  exact hl
theorem fi_str {tg:Expr}{g:EF} (ha:FP X a g):FI X tg a (iStrF g):=by
 obtain ⟨t,pa,q⟩:=ha
 refine ⟨_,pi_str pa,fun H0 S z held ρ σ H R ds tg ok e k=>?_⟩
 unfold iStrF at e
 cases h:g ρ with
 | none=>rw [h] at e;cases e
 | some w=>
  obtain ⟨d,tg'⟩:=w
  rw [h] at e
  cases d with
  | str x=>
   dsimp only at e
   by_cases hj:x.cps.all (· < 128)=true
   ·rw [if_pos hj] at e
    cases e
    refine q H0 S z held ρ σ H _ _ _ ok h fun H1 v fp s1 r1 g1=>?_
    cases r1
    exact ⟨x,rfl,hj,k H1 _ [] s1 (fun h m=>nomatch m) itOk_str⟩
   ·rw [if_neg hj] at e;cases e
  | _=>cases e
end
end L2.Ev
namespace L2
open PySem PySem.Spec PyProof.Rows HT
section
variable {prog:Program}{w:World}{A:Around}{E:Value→Shared→Prop}{s:Shared}
theorem tuple_whole {t sl:Addr}{items:Array Value}{vl vu:Value}{lo hi:Option Int}{Q:Value→Shared→Prop} (ht:IsTup s.heap t items) (hs:s.heap.IsSliceOf sl vl vu .none) (pl:IsPart vl lo) (pu:IsPart vu hi)
  (hw:sIx items.size 0 lo=0∧sIx items.size items.size hi=items.size) (h:Q (.ref t) s):wpAny (model prog w) A (getItem (.ref t) (.ref sl)) Q E s:=by
 obtain ⟨os,hos,hcs,hds⟩:=id hs
 have hTs:s.TypeIs (.ref sl) "slice":=⟨os,hos,hcs⟩
 unfold getItem
 try with_reducible refine wpAny_holding ?_
 first | refine wpAny_bind (wpAny_pure ?_) | skip
 refine wpAny_bind (wpAny_sequenceKey ht.typeIs (by decide) ?_)
 refine wpAny_bind (wpAny_callSpecial?_slot (name:=Str.ofString "__getitem__") ht.typeIs PyProof.Rows.slot_tuple_getitem
  (wpAny_call_entry PyProof.Rows.slot_tuple_getitem ht.typeIs entry_tuple_getitem ?_ (args_tuple_getitem _ _)))
 show wpAny _ _ (Builtin.Tuple.tupleItemsOf (.ref t) >>= _) _ _ s
 refine wpAny_bind (tupleItemsOf_ ht ?_)
 refine wpAny_bind (wpAny_typeOf hTs ?_)
 rw [if_pos (by decide)]
 refine wpAny_bind (sliceApplied_gen hs pl pu ?_)
 show wpAny _ _ (if (((sIx items.size 0 lo:Nat):Int) == 0&&(1:Int) == 1&&(sIx items.size items.size hi - sIx items.size 0 lo) == items.size)=true then _ else _) _ _ s
 rw [if_pos (by rw [hw.1,hw.2];simp)]
 refine wpAny_bind ?_
 unfold Builtin.Tuple.tupleIsExact
 refine wpAny_bind (wpAny_typeOf ht.typeIs (wpAny_pure ?_))
 rw [if_pos (by decide)]
 exact wpAny_bind (wpAny_rule (wpAny_pure ⟨_,rfl,wpAny_pure h⟩))
end
section
variable {X:Cx}
def rSlT2 (K:PySem.W.Frag):V→Option Int→Option Int→Hp→VK→Prop:=fun x lo hi H Q=>∃ a xs,x=.ref a∧SqT K H a xs ∧
 ((HT.sIx xs.length 0 lo=0∧HT.sIx xs.length xs.length hi=xs.length)→Q (.ref a) H)∧(¬ (HT.sIx xs.length 0 lo=0∧HT.sIx xs.length xs.length hi=xs.length)→∀ p,H p=none→Q (.ref p) (upd H p (.tup (cutV xs lo hi))))
theorem sl_tup2:SlR X (rSlT2 X.K):=by
 intro pins s σ H x v vl vu lo hi sl Q I rx hs pl pu h
 obtain ⟨a,xs,rfl,hx,h1,h2⟩:=h
 by_cases hw:HT.sIx xs.length 0 lo=0∧HT.sIx xs.length xs.length hi=xs.length
 ·cases rx
  obtain ⟨its,r,ht,hz⟩:=I.tuple hx
  have hlen:its.toArray.size=xs.length:=by rw [List.size_toArray];exact r.length.symm
  refine ⟨"tuple",_,PyProof.Rows.slot_tuple_getitem.lookup,ht.typeIs,?_⟩
  exact tuple_whole ht hs pl pu (by rw [hlen];exact hw) ⟨.ref a,H,I,rfl,h1 hw⟩
 ·exact sl_tup pins s σ H _ v vl vu lo hi sl Q I rx hs pl pu ⟨a,xs,rfl,hx,hw,h2 hw⟩
end
end L2
namespace L2.Ev
open PySem PySem.Spec PyProof.Rows
section
variable {X:Cx}{a b c:Expr}{fa fl fh:EF}{p p2 pos:Pos}
def eCutP (fa fl fh:EF):EF:=fun ρ=>match fa ρ,fl ρ,fh ρ with
 | some (.tup ds,_),some (.int i,_),some (.int j,_)=>if immAll ds=true then some (.tup (cutD ds (some i) (some j)),.own) else none
 | _,_,_=>none
theorem cutD_whole {ds:List D}{lo hi:Option Int} (h:HT.sIx ds.length 0 lo=0∧HT.sIx ds.length ds.length hi=ds.length):cutD ds lo hi=ds:=by
 unfold cutD
 rw [h.1,h.2,List.drop_zero,Nat.sub_zero,List.take_length]
theorem fp_cutP (ha:FP X a fa) (hl:FP X b fl) (hh:FP X c fh):FP X (.Subscript a (.Slice (some b) (some c) none p2) pos) (eCutP fa fl fh):=by
 obtain ⟨t,p,q⟩:=ha
 obtain ⟨tl,pl,ql⟩:=hl
 obtain ⟨th,ph,qh⟩:=hh
 refine ⟨_,pe_slice sl_tup2 p (po_some pl) (po_some ph),fun H0 S z held ρ σ H Q d tg ok e k=>?_⟩
 unfold eCutP at e
 split at e
 ·rename_i ds t1 i t2 j t3 e1 e2 e3
  by_cases hi:immAll ds=true
  ·rw [if_pos hi] at e
   cases e
   refine q H0 S z held ρ σ H _ _ t1 ok e1 fun H1 x f1 s1 r1 _=>?_
   refine ql H0 S z held ρ σ H1 _ _ t2 (ok.same s1) e2 fun H2 y f2 s2 r2 _=>?_
   cases r2
   refine ⟨i,rfl,?_⟩
   refine qh H0 S z held ρ σ H2 _ _ t3 (ok.same (s1.trans s2)) e3 fun H3 y f2 s3 r3 _=>?_
   cases r3
   refine ⟨j,rfl,?_⟩
   obtain ⟨w,xs,rfl,hq,rs⟩:=((r1.same s2).same s3).tup_of
   have hn:=rs.imm hi
   subst hn
   have hlen:=rs.length
   refine ⟨w,xs,rfl,hq,fun hw=>?_,fun _ p hp=>?_⟩
   ·rw [cutD_whole (by rw [hlen];exact hw)] at k
    exact k H3 _ [] ((s1.trans s2).trans s3) (.tup hq rs) ⟨List.nodup_nil,fun a m=>nomatch m⟩
   ·have s4:Same H3 (upd H3 p (.tup (cutV xs (some i) (some j)))):=fun b o e=>by rw [upd_ne (ne_of_none e hp)];exact e
    have rr:Reps X.K H3 (cutD ds (some i) (some j)) (cutV xs (some i) (some j)) []:=by
     unfold cutD cutV
     rw [rs.length]
     exact Reps.take0 _ (Reps.drop0 _ rs)
    exact k _ _ [] (((s1.trans s2).trans s3).trans s4) (.tup (SqT.of upd_same) (rr.same s4)) ⟨List.nodup_nil,fun a m=>nomatch m⟩
  ·rw [if_neg hi] at e;cases e
 ·cases e
def tTup (f:EF):TF:=fun ρ=>match f ρ with
 | some (.tup ds,_)=>some (!ds.isEmpty)
 | _=>none
theorem ft_tup {f:EF} (h:FP X a f) (he:∀ whole,isTrue a X.env whole=(do let v ← whole;standAt a.pos;holding [v] (truthy v)):=by intro _;rfl):FT X a (tTup f):=by
 obtain ⟨t,p,q⟩:=h
 refine ⟨_,pt_truth p he,fun H0 S z held ρ σ H Q b ok e k=>?_⟩
 unfold tTup at e
 split at e
 ·rename_i ds tg e1
  cases e
  refine q H0 S z held ρ σ H _ _ tg ok e1 fun H1 v fp s1 r1 _=>?_
  obtain ⟨w,xs,rfl,hq,rs⟩:=r1.tup_of
  have he:(!ds.isEmpty)=!xs.isEmpty:=by cases rs <;> rfl
  exact ⟨_,.inr (.inl ⟨xs,hq,rfl⟩),he ▸ k H1 s1⟩
 ·cases e
end
def spA (K:PySem.W.Frag) (F:List D→Option D):Sp:=fun vs H Q _=>∃ ds fp d,Reps K H ds vs fp∧F ds=some d∧∀ H' v fp',Same H H'→Rep K H' d v fp'→(∀ a∈fp',a∈fp∨H a=none)→Q v H'
def eCallA (F:List D→Option D) (g:AF):EF:=fun ρ=>(g ρ).bind fun ps=>(F (ps.map (·.1))).map fun d=>(d,match joinA ps with | .sh o=>.sh o | _=>.sh [])
def F_wa:List D→Option D
 | [.lst ds,.str i]=>match strsD ds with
  | some ts=>match ts.findIdx? (· == i) with
   | some j=>some (.lst ((ts.take j).map D.str))
   | none=>some (.lst ds)
  | none=>none
 | _=>none
theorem wa_len {K:PySem.W.Frag}{vs:List V}{H:Hp}{Q:VK}{E:XK} (h:spA K F_wa vs H Q E):vs.length=2:=by
 obtain ⟨ds,fp,d,rs,e,_⟩:=h
 rw [← rs.length]
 unfold F_wa at e
 split at e
 ·rfl
 ·cases e
theorem wa_ok {X:Cx}{c e1 e2:Expr}{p1 p2:Pos}{N:List Str}{vs:List V}{H:Hp}{Q:VK}{E:XK} (hN:N.length=2) (pc:PT X c (tTest (tOp (rIn X.K false) (tVar 1) (tVar 0))))
  (pcut:PE X e1 (tSl (rSlL X.K) (tVar 0) tNoPart (tPart (tBM X.K "list" (rIndex X.K) (tVar 0) (tCons (tVar 1) tNil))))) (pw:PE X e2 (tVar 0)) (h:spA X.K F_wa vs H Q E) :
  ∃ t,PSs X [.Return (some (.IfExp c e1 e2 p1)) p2] t∧t { nx:=fun _ H'=>Q .non H',rt:=Q } (start N vs) H:=by
 refine ⟨_,pss_one (ps_ret (pe_ifExp pc pcut pw)),?_⟩
 obtain ⟨ds0,fp,d,rs,e,k⟩:=h
 unfold F_wa at e
 split at e
 ·rename_i ds i
  cases rs with
  | @cons _ v0 _ _ f1 f2 r1 r2=>
   cases r2 with
   | @cons _ v1 _ _ f3 f4 r3 r4=>
    cases r4
    obtain ⟨rfl,rfl⟩:=r3.str_of
    obtain ⟨l,xs,f,rfl,hq,rs,hf⟩:=r1.lst_of
    have st:start N [V.ref l,V.str i]=[some (.ref l),some (.str i)]:=by unfold start;rw [hN];rfl
    rw [st]
    cases h:strsD ds with
    | none=>rw [h] at e;cases e
    | some ts=>
     rw [h] at e
     dsimp only at e
     have hx:=strsD_of rs h
     subst hx
     refine ⟨_,rfl,_,rfl,l,_,rfl,.inl hq,rfl,flat_strs ts,_,rfl,?_⟩
     rw [if_neg Bool.false_ne_true,inV_strs]
     cases h2:ts.findIdx? (· == i) with
     | some j=>
      rw [h2] at e
      cases e
      obtain ⟨hj,hp,hno⟩:=List.findIdx?_eq_some_iff_getElem.mp h2
      rw [if_pos (List.any_eq_true.mpr ⟨ts[j],List.getElem_mem hj,hp⟩)]
      refine ⟨_,rfl,_,rfl,.inl ⟨rfl,_,hq⟩,_,rfl,l,ts,i,j,rfl,rfl,hq,?_,fun m hm em=>?_,j,rfl,l,_,rfl,hq,fun p hp'=>?_⟩
      ·rw [List.getElem?_eq_getElem hj,eq_of_beq hp]
      ·obtain ⟨hm',e'⟩:=List.getElem?_eq_some_iff.mp em
       exact hno m hm (by rw [e'];exact beq_self_eq_true _)
      ·have hc:cutV (ts.map V.str) none (some (j:Int))=(ts.take j).map V.str:=by
        unfold cutV
        rw [HT.sIx_nat,HT.sIx_none,List.length_map,Nat.min_eq_left (by omega),List.map_take];rfl
       rw [hc]
       exact k _ _ [p] (Same.new hp') (.lst upd_same (reps_strs _)) fun a m=>by cases List.mem_singleton.mp m;exact .inr hp'
     | none=>
      rw [h2] at e
      cases e
      have hn:ts.any (· == i)=false:=by
       rw [Bool.eq_false_iff]
       intro q
       obtain ⟨y,my,ey⟩:=List.any_eq_true.mp q
       exact absurd ey (by simpa using List.findIdx?_eq_none_iff.mp h2 y my)
      rw [hn,if_neg Bool.false_ne_true]
      exact ⟨_,rfl,k H _ f1 (Same.refl H) r1 fun a m=>.inl (by simp [m])⟩
 ·cases e
section
variable {X:Cx}{x:Str}{p pos:Pos}{e:Expr}{es:List Expr}{k:Nat}{f:Addr}{fd:FuncData}{ps:List Str}{F:List D→Option D}{g:AF}
theorem eCallA_of {ρ:Rho}{d:D}{tg:Tag} (e:eCallA F g ρ=some (d,tg)):∃ ps,g ρ=some ps∧F (ps.map (·.1))=some d∧tg=(match joinA ps with | .sh o=>.sh o | _=>.sh []):=by
 unfold eCallA at e
 cases h:g ρ with
 | none=>rw [h] at e;cases e
 | some ps=>
  rw [h] at e
  have e:(F (ps.map (·.1))).map _=some (d,tg):=e
  cases h2:F (ps.map (·.1)) with
  | none=>rw [h2] at e;cases e
  | some d'=>
   rw [h2] at e
   cases e
   exact ⟨ps,rfl,h2,rfl⟩
theorem fp_callA {cm:Bool} (G:FnOk X.prog X.w X.K X.mg X.base CX0 k f fd ps (spA X.K F) cm) (hr:Room k X.A cm) (hm:X.mg x=some (.ref f)) (hk:PySem.W.keepIn X.K (.ref f)=true) (hb:Binds X.K fd ps []) (ha:FA X (e::es) g)
  (hg:Gl X x:=by rfl) (hdb:(x == ("__debug__":Str))=false:=by decide)
  (he:starEach (e::es) X.env=(false,eval e X.env)::starEach es X.env:=by rfl) (hpl:(backTo pos (starEach es X.env)).any (·.1)=false:=by rfl):FP X (.Call (.Name x p) (e::es) [] pos) (eCallA F g):=by
 obtain ⟨t,pa,_,sa⟩:=ha
 refine ⟨_,pe_call G hr hg hm hk hb .nil pass0 pa hdb he hpl,fun H0 S z held ρ σ H Q d tg ok e0 q=>?_⟩
 obtain ⟨qs,e1,e2,rfl⟩:=eCallA_of e0
 refine sa H0 S z held ρ σ H _ qs ok e1 fun H1 vs fp s1 r1 tk=>?_
 rw [List.append_nil]
 have free:∀ a j,H a=none→z a=some j→False:=fun a j h1 h2=>by
  obtain ⟨⟨o,ho⟩,_⟩:=ok.zd a j h2
  rw [h1] at ho;cases ho
 refine ⟨_,fp,d,r1,e2,fun H2 v fp' s2 r2 hs=>q H2 v fp' (s1.trans s2) r2 ?_⟩
 cases hj:joinA qs with
 | sh o=>
  rw [hj] at tk
  intro a m j hz
  rcases hs a m with h | h
  ·exact tk a h j hz
  ·exact (free a j (s1.free h) hz).elim
 | own=>
  rw [hj] at tk
  intro a m j hz
  rcases hs a m with h | h
  ·exact (free a j (tk.2 a h) hz).elim
  ·exact (free a j (s1.free h) hz).elim
 | lk=>
  rw [hj] at tk
  intro a m j hz
  rcases hs a m with h | h
  ·exact (free a j (tk.2 a h) hz).elim
  ·exact (free a j (s1.free h) hz).elim
end
section
variable {X:Cx}{a b:Expr}{fa fb:EF}{pos:Pos}
theorem fp_globS {x:Str}{y:Str}{tk:Tok} (hm:X.mg x=some (.str y tk)) (hg:Gl X x:=by rfl) (hd:(x == ("__debug__":Str))=false:=by decide):FP X (.Name x pos) (eC (.str y)):=
 ⟨_,pe_glob hg hm (v:=.str y) ⟨_,rfl⟩ hd,fun _ _ _ _ _ _ H _ _ _ _ e q=>by cases e;exact q H _ _ (Same.refl H) (.str y) .nil⟩
end
section
variable {X:Cx}{a b c:Expr}{fa fb fc:EF}{pos:Pos}
theorem ft_chain {op op':CmpOp}{r r':R2}{o o':D→D→Option D} (ho:OpR X (compareOp op) r) (ho':OpR X (compareOp op') r') (dd:Does2 X.K r o) (dd':Does2 X.K r' o') (ha:FP X a fa) (hb:FP X b fb) (hc:FP X c fc)
  (hm:lastMarks [op,op'] [b,c]=false):FT X (.Compare a [op,op'] [b,c] pos) (tV (eChain o o' fa fb fc)):=by
 obtain ⟨ta,pa,sa⟩:=ha
 obtain ⟨tb,pb,sb⟩:=hb
 obtain ⟨tc,pc,sc⟩:=hc
 refine ⟨_,pt_chain ho ho' pa pb pc hm,fun H0 S z held ρ σ H Q b0 ok e k=>?_⟩
 obtain ⟨tg,e⟩:=tV_of e
 unfold eChain at e
 split at e
 ·rename_i d1 t1 d2 t2 e1 e2
  refine sa H0 S z held ρ σ H _ d1 t1 ok e1 fun H1 x f1 s1 r1 _=>?_
  refine sb H0 S z held ρ σ H1 _ d2 t2 (ok.same s1) e2 fun H2 y f2 s2 r2 _=>?_
  cases h:o d1 d2 with
  | none=>rw [h] at e;cases e
  | some w=>
   refine dd H2 x y d1 d2 f1 f2 w _ (r1.same s2) r2 h fun H3 u s3 r3=>?_
   rw [h] at e
   cases w <;> try (cases e;done)
   rename_i b'
   cases r3
   refine ⟨b',rfl,?_⟩
   cases b' with
   | false=>
    cases e
    rw [if_neg Bool.false_ne_true]
    exact ⟨_,rfl,k H3 ((s1.trans s2).trans s3)⟩
   | true=>
    rw [if_pos rfl]
    dsimp only at e
    cases h3:fc ρ with
    | none=>rw [h3] at e;cases e
    | some w3=>
     obtain ⟨d3,t3⟩:=w3
     rw [h3] at e
     dsimp only at e
     cases h4:o' d2 d3 with
     | none=>rw [h4] at e;cases e
     | some d4=>
      rw [h4] at e
      cases e
      refine sc H0 S z held ρ σ H3 _ d3 t3 (((ok.same s1).same s2).same s3) h3 fun H4 w' f4 s4 r4 _=>?_
      refine dd' H4 y w' d2 d3 f2 f4 _ _ ((r2.same s3).same s4) r4 h4 fun H5 v5 s5 r5=>?_
      cases r5
      exact ⟨_,rfl,k H5 ((((s1.trans s2).trans s3).trans s4).trans s5)⟩
 ·cases e
theorem ft_le2 (ha:FP X a fa) (hb:FP X b fb) (hc:FP X c fc) (hm:lastMarks [.LtE,.LtE] [b,c]=false:=by with_unfolding_all rfl):FT X (.Compare a [.LtE,.LtE] [b,c] pos) (tV (eChain oLe oLe fa fb fc)):=ft_chain op_le op_le does_iB does_iB ha hb hc hm
end
end L2.Ev
namespace L2
open PySem PySem.Spec PyProof.Rows
theorem ext_tup (l b:Addr) (as bs:Array Value) (n m:Nat) (dd:Option Addr) (sl:Array (Option Value)) (h0:¬ (!as.isEmpty&&Builtin.List.listTooLong (as.size + bs.size))=true) (h1:as.size≤sizeLine) (h2:as.size + bs.size≤sizeLine + 1) :
  Meets (Builtin.«list.extend» ⟨[.ref l,.ref b],[]⟩) (fun _ R s=>s.heap.get? l=some { cls:=.type "list",dict:=none,data:=.seq as n,slots:=#[] }∧s.heap.get? b=some { cls:=.type "tuple",dict:=dd,data:=.seq bs m,slots:=sl }∧R (.ok (.ret Value.none)) { s with heap:=s.heap.update l (Obj.mapSeq fun x=>x++bs),toks:=s.toks }):=by
 refine .of_wp fun prog w A R s h=>?_
 obtain ⟨hp,g,d,tk,os⟩:=s
 obtain ⟨hl,hb,h⟩:=h
 have k1:=AutoSeq1.idx_int
 have k2:=AutoSeq1.sub_tuple_tuple
 have k3:=AutoSeq1.sub_list_list
 have k4:=AutoSeq1.sub_tuple_list
 have k5:=AutoSeq1.sub_list_tuple
 have hz:(as++bs).size≤sizeLine + 1:=by
  rw [Array.size_append]
  exact h2
 wp_walk using (wpAny_updateSeq hl rfl (hz:=h1) (_hz':=hz)),wpAny_loadPart' hl,wpAny_loadPart' hb
 exact ⟨_,rfl,h⟩
section
variable {X:Cx}
def rExtT (K:PySem.W.Frag):V→List V→Hp→VK→Prop:=fun x vs H Q=>∃ l b xs zs,x=.ref l∧vs=[.ref b]∧H l=some (.lst xs)∧SqT K H b zs∧xs.length + zs.length≤sizeLine∧Q .non (upd H l (.lst (xs++zs)))
theorem mt_extT:MtM X "list.extend" (rExtT X.K):=by
 intro pins s σ H x vs v us Q I rx rv h
 obtain ⟨l,b,xs,zs,rfl,rfl,hH,hB,hz,q⟩:=h
 cases rx
 obtain ⟨u,rfl,ru⟩:=rv.one
 cases ru
 obtain ⟨z,its,n,r,hl,e⟩:=I.lstM hH
 obtain ⟨its2,r2,ht,z2⟩:=I.tuple hB
 have hl2:=r2.length
 obtain ⟨o,e2,hc,m,hd⟩:=ht
 obtain ⟨oc,od,oda,osl⟩:=o
 cases hc
 cases hd
 have hsz:its.toArray.size + its2.toArray.size≤sizeLine:=by rw [List.size_toArray,List.size_toArray];omega
 have hlong:¬ (!its.toArray.isEmpty&&Builtin.List.listTooLong (its.toArray.size + its2.toArray.size))=true:=by
  rw [notLongL hsz,Bool.and_false]
  exact Bool.false_ne_true
 refine call_meets F.slot_list_extend ⟨_,e,rfl⟩ F.entry_list_extend (F.args_list_extend_2 _ _) (ext_tup l b its.toArray its2.toArray n m od osl hlong (by rw [List.size_toArray];omega) (by omega)) ⟨e,e2,?_⟩
 refine ⟨.non,_,I.lset (its':=its++its2) hH e (by simp) (r.append r2) ?_,rfl,q⟩
 rw [List.length_append]
 omega
end
end L2
namespace L2.Ev
open PySem PySem.Spec PyProof.Rows
section
variable {X:Cx}{a:Expr}{fv:EF}{x:Str}{p1 p2 p3 pos:Pos}
def sExtT (i:Nat) (fv:EF):SF:=fun ρ=>match fv ρ,ρ[i]? with
 | some (.tup es,_),some (some (.lst ds,.own))=>if (immAll es&&immAll ds&&decide (ds.length + es.length≤sizeLine))=true then some (.nx (mutS ρ i (.lst (ds++es)))) else none
 | _,_=>none
theorem fs_extT (i:Nat) (hv:FP X a fv) (hN:X.N[i]? = some x:=by rfl) (hvis:Vis X.env.scope x:=by first | exact Or.inl rfl | exact Or.inr (Or.inl rfl) | exact Or.inr (Or.inr rfl))
  (hd:(x == ("__debug__":Str))=false:=by decide) (hcd:(x == ("__classdict__":Str))=false:=by decide) (hs:starEach [a] X.env=[(false,eval a X.env)]:=by rfl)
  (hbase:attributeBase (.Name x p1) "extend" X.env (eval (.Name x p1) X.env)=eval (.Name x p1) X.env:=by rfl)
  (hfew:((backTo p3 (starEach [a] X.env)).all (fun x=>!x.1)&&(backToKw p3 (keywordEach [] X.env)).all (fun x=>x.1.isSome)&&decide ([a].length + ([]:List Keyword).length + (if ([]:List Keyword).isEmpty then 0 else 1) < 30))=true:=by rfl)
  (hline:(p2.endLine == p3.line)=true:=by rfl) (hsw:swapsWith (.Call (.Attribute (.Name x p1) "extend" p2) [a] [] p3) none pos.line X.env=pure false:=by rfl) :
  FS1 X (.Expr (.Call (.Attribute (.Name x p1) "extend" p2) [a] [] p3) pos) (sExtT i fv):=by
 obtain ⟨tv,pv',sv⟩:=hv
 refine ⟨_,ps_expr (pe_bm PySem.F.plainAttrs_list PySem.F.slot_list_extend PySem.F.type_list_extend mt_extT (pe_var (i:=i) hN hvis hd hcd) (pa_cons pv' pa_nil hs) hbase hfew hline hs rfl) hsw,fun H0 S z held ρ σ H E o ok e q=>?_⟩
 unfold sExtT at e
 split at e
 ·rename_i es te ds g1 g2
  by_cases hc:(immAll es&&immAll ds&&decide (ds.length + es.length≤sizeLine))=true
  ·rw [if_pos hc] at e
   cases e
   obtain ⟨c1,c3⟩:=(Bool.and_eq_true _ _).mp hc
   obtain ⟨c1,c2⟩:=(Bool.and_eq_true _ _).mp c1
   obtain ⟨xv,fp,hs',r,zz⟩:=ok.sl i _ _ g2
   refine ⟨xv,hs',?_⟩
   obtain ⟨l,xs,f,rfl,hq,_,_⟩:=r.lst_of
   refine ⟨.inl ⟨rfl,_,hq⟩,?_⟩
   refine sv H0 S z held ρ σ H _ _ te ok g1 fun H1 v fd s1 rv gv=>?_
   have r':=r.same s1
   have ok1:=ok.same s1
   generalize hw:(V.ref l)=w at r' hs'
   cases r' with
   | @lst a' ys _ f' h rs=>
    cases hw
    have hn:=rs.imm c2
    subst hn
    obtain ⟨b',zs,rfl,h',rz⟩:=rv.tup_of
    have hn:=rz.imm c1
    subst hn
    refine ⟨_,b',ys,zs,rfl,rfl,h,h',by rw [← rs.length,← rz.length];exact of_decide_eq_true c3,?_⟩
    have im:Imm H1 (upd H1 l (.lst (ys++zs))):=Imm.upd h rfl
    refine q z σ _ (Ok.mutate ok1 g2 hs' zz List.mem_cons_self h rfl (.lst upd_same ?_)) (.refl _ _)
    exact Reps.append (f:=[]) (g:=[]) (rs.frame (fun a m=>nomatch m) im) (rz.frame (fun a m=>nomatch m) im)
  ·rw [if_neg hc] at e;cases e
 ·cases e
end
section
variable {X:Cx}{a:Expr}{fa:EF}{pos:Pos}
theorem call_isiIS:CallR X (.builtin "isinstance") (fun xs H Q=>∃ x l,xs=[x,V.ref l]∧((∃ i,x=.int i)∨∃ y,x=.str y)∧H l=some (.tup [V.ty "int",V.ty "str"])∧Q (.bl true) H):=by
 intro pins s σ H xs us Q I r h
 obtain ⟨x,l,rfl,hx,hl,q⟩:=h
 obtain ⟨u,w',rfl,ru,rw'⟩:=vals2 r
 cases (show w'=Value.ref l from rw')
 obtain ⟨_,its,rv,o,ho,hc,hd,n,hdat⟩:=(show [V.ty "int",V.ty "str"].length≤sizeLine∧∃ its:List Value,Vals [V.ty "int",V.ty "str"] its∧PlainT s.heap l its.toArray from I.hok l _ hl)
 have hi:its=[.type "int",.type "str"]:=by
  cases rv with
  | cons h1 t1=>
   cases t1 with
   | cons h2 t2=>
    cases t2
    cases h1
    cases h2
    rfl
 subst hi
 obtain ⟨cl,dd,dat,sl⟩:=o
 cases hc
 cases hdat
 rcases hx with ⟨i,rfl⟩ | ⟨y,rfl⟩
 ·obtain ⟨t,rfl⟩:=ru
  exact PySem.W.kia_tup PySem.W.kitx_int I.kIn True.intro ho (show PySem.W.kitAny X.K (.type "int") [.type "int",.type "str"]=some true from rfl) (fun z=>nomatch z) fun tk=>⟨.bl true,H,I.tok tk,rfl,q⟩
 ·obtain ⟨t,rfl⟩:=ru
  exact PySem.W.kia_tup PySem.W.kitx_str I.kIn True.intro ho (show PySem.W.kitAny X.K (.type "str") [.type "int",.type "str"]=some true from rfl) (fun z=>nomatch z) fun tk=>⟨.bl true,H,I.tok tk,rfl,q⟩
def oIsIS:D→Option D
 | .int _=>some (.bl true)
 | .str _=>some (.bl true)
 | _=>none
theorem fp_isIS {p p2 p4 p5:Pos} {x1} (hm:X.mg "isinstance"=none) (hmI:X.mg "int"=none) (hmS:X.mg "str"=none) (ha:FP X a fa) (hg:Gl X "isinstance":=by rfl) (hgI:Gl X "int":=by rfl) (hgS:Gl X "str":=by rfl)
  (hs:starEach [a,.Tuple [.Name "int" p4,.Name "str" p5] x1 p2] X.env=[(false,eval a X.env),(false,eval (.Tuple [.Name "int" p4,.Name "str" p5] x1 p2) X.env)]:=by rfl) (hpl:(backTo pos (starEach [.Tuple [.Name "int" p4,.Name "str" p5] x1 p2] X.env)).any (·.1)=false:=by rfl):FP X (.Call (.Name "isinstance" p) [a,.Tuple [.Name "int" p4,.Name "str" p5] x1 p2] [] pos) (e1 oIsIS fa):=by
 obtain ⟨t,pa,sa⟩:=ha
 have hs2:starEach [.Tuple [.Name "int" p4,.Name "str" p5] x1 p2] X.env=[(false,eval (.Tuple [.Name "int" p4,.Name "str" p5] x1 p2) X.env)]:=rfl
 have pc:=pa_cons (pe_bltn (X:=X) (pos:=p4) (v:=.ty "int") hgI hmI (by decide +kernel) rfl (by decide) (by decide)) (pa_cons (pe_bltn (X:=X) (pos:=p5) (v:=.ty "str") hgS hmS (by decide +kernel) rfl (by decide) (by decide)) pa_nil)
 refine ⟨_,pe_callB call_isiIS hg hm (show bootBuiltins "isinstance"=some (.builtin "isinstance") by decide +kernel) (pa_cons pa (pa_cons (pe_tup pc) pa_nil) (by rw [hs,hs2])) (he:=by rw [hs,hs2]) (hpl:=hpl),fun H0 S z held ρ σ H Q d tg ok e k=>?_⟩
 obtain ⟨d1,t1,h1,h2,rfl⟩:=e1_of e
 refine sa H0 S z held ρ σ H _ d1 t1 ok h1 fun H1 v fp s1 r1 _=>?_
 refine ⟨by decide,fun l hl=>?_⟩
 have s2:Same H1 (upd H1 l (.tup [V.ty "int",V.ty "str"])):=fun b o e=>by rw [upd_ne (ne_of_none e hl)];exact e
 cases d1 <;> try (cases h2;done)
 ·cases h2
  cases r1
  exact ⟨_,l,rfl,.inl ⟨_,rfl⟩,upd_same,k _ _ [] (s1.trans s2) (.bl _) .nil⟩
 ·cases h2
  cases r1
  exact ⟨_,l,rfl,.inr ⟨_,rfl⟩,upd_same,k _ _ [] (s1.trans s2) (.bl _) .nil⟩
def oLenS:D→Option D
 | .str x=>if x.length≤sizeLine then some (.int x.length) else none
 | _=>none
theorem does_lenS {K:PySem.W.Frag}:Does1 K (fun xs H Q=>∃ z:Str,xs=[.str z]∧z.length≤sizeLine∧Q (.int z.length) H) oLenS:=by
 intro H x d1 f1 d Q r e k
 cases d1 <;> try (cases e;done)
 rename_i z
 cases r
 have e:(if z.length≤sizeLine then some (D.int z.length) else none)=some d:=e
 by_cases hc:z.length≤sizeLine
 ·rw [if_pos hc] at e
  cases e
  exact ⟨z,rfl,hc,k H _ [] (Same.refl H) (.int _) List.nodup_nil fun a m=>nomatch m⟩
 ·rw [if_neg hc] at e;cases e
theorem fp_lenS {p:Pos} (hm:X.mg "len"=none) (ha:FP X a fa) (hg:Gl X "len":=by rfl) (hs:starEach [a] X.env=[(false,eval a X.env)]:=by rfl):FP X (.Call (.Name "len" p) [a] [] pos) (e1 oLenS fa):=
 fp_1 does_lenS ha fun ta pa=>pe_callB call_len_str hg hm (show bootBuiltins "len"=some (.builtin "len") by decide +kernel) (pa_cons pa pa_nil hs) (he:=hs) (hpl:=rfl)
end
end L2.Ev
namespace K71
open PySem L2 L2.Ev
def top (i:Nat):Stmt:=PySem.Challenge.pw_linegate_k71_rows_read_and_shown.main.body.getD i (.Pass ⟨0,0,0,0⟩)
variable {P:Program}{w:World}{K:PySem.W.Frag}{mg:Str→Option Value}{base:Heap}{f:Addr}{fd:FuncData}
abbrev s_words_ahead:Stmt:=top 10
theorem sc_words_ahead:FnScope ["words","mark"] ["words","mark"] (defScope s_words_ahead):=⟨rfl,rfl,rfl,by decide +kernel,rfl,by decide +kernel,by decide +kernel⟩
theorem ok_words_ahead (F:Fun K "words_ahead" "words_ahead" s_words_ahead f fd):FnOk P w K mg base CX0 1 f fd ["words","mark"] (spA K F_wa):=by
 have sc:=sc_words_ahead
 refine F.ok sc_words_ahead (fun vs H Q E h=>wa_len h) fun cdv A outer s H vs Q E hr h=>?_
 exact wa_ok (N:=["words","mark"]) rfl (pt_cmpR op_in_seq (pe_var (i:=1) rfl (Or.inl rfl)) (pe_var (i:=0) rfl (Or.inl rfl)) rfl) (pe_slice sl_list (pe_var (i:=0) rfl (Or.inl rfl)) po_none (po_some (pe_bm PySem.F.plainAttrs_list PySem.F.slot_list_index PySem.F.type_list_index mt_index (pe_var (i:=0) rfl (Or.inl rfl)) (pa_cons (pe_var (i:=1) rfl (Or.inl rfl)) pa_nil rfl)))) (pe_var (i:=0) rfl (Or.inl rfl)) h
abbrev s_is_number:Stmt:=top 15
theorem sc_is_number:FnScope ["word"] ["word"] (defScope s_is_number):=⟨rfl,rfl,rfl,by decide +kernel,rfl,by decide +kernel,by decide +kernel⟩
def B_is_number:SF:=(sSeq (sIf (tNot1 (tAnd2 (tV (eChain oLe oLe (eC (.int 1)) (e1 oLenS (eVar 0)) (eC (.int 12)))) (tV (e1 oAll (eComp [none] (iStrF (eVar 0)) (gN 0) tTrue (e2 oInT (eVar 0) (eC (.str "0123456789")))))))) (sRet (eC (.bl false))) sNx) (sRet (eOr (e2 oEq (eVar 0) (eC (.str "0"))) (e1 oNot (e2 oStarts (eVar 0) (eC (.str "0")))))))
def F_is_number:List D→Option D:=runF 1 1 B_is_number
theorem ok_is_number (g_all:mg "all"=none) (g_len:mg "len"=none) {t_FIGURES:Tok} (m_FIGURES:mg "FIGURES"=some (.str "0123456789" t_FIGURES)) {t_MOST_FIGURES:Tok} (m_MOST_FIGURES:mg "MOST_FIGURES"=some (.int 12 t_MOST_FIGURES)) (F:Fun K "is_number" "is_number" s_is_number f fd):FnOk P w K mg base CX0 1 f fd ["word"] (spF K F_is_number):=by
 have sc:=sc_is_number
 refine fn_F F sc_is_number fun cdv A outer s H E hr=>?_
 have hu:=hu_of hr
 exact (fs_cons (fs_if (ft_not (FW.ft (fw_and (ft_le2 fp_int (fp_lenS g_len (fp_var 0)) (fp_globI m_MOST_FIGURES)) (fw_and1 (ft_val (fp_all rfl g_all (fp_comp (M:=["sign"]) (js:=[none]) (is:=[0]) (compScope_mk (N:=["word"]) (osc:=defScope s_is_number) rfl rfl rfl (by decide +kernel)) rfl (fi_str (fp_var 0)) (by decide) fun s3 H3 fp=>⟨(fg_name 0 (show (["sign"]:List Str).Nodup by decide +kernel)),fts_nil,(fp_inT (fp_var 0) (fp_globS m_FIGURES))⟩))))))) (fs_one (fs_ret fp_bl)) fs_nil) (fs_one (fs_ret (fp_or (fp_eq (fp_var 0) fp_str) (fp_one (fp_not (fp_starts (fp_var 0) fp_str)))))))
abbrev s_read_number:Stmt:=top 14
theorem sc_read_number:FnScope ["word"] ["word"] (defScope s_read_number):=⟨rfl,rfl,rfl,by decide +kernel,rfl,by decide +kernel,by decide +kernel⟩
def B_read_number:SF:=(sSeq (sIf (tNot1 (tV (eCall F_is_number (aCons (eVar 0) aNil)))) sNo sNx) (sRet (e1 oIntS (eVar 0))))
def F_read_number:List D→Option D:=runF 1 1 B_read_number
theorem ok_read_number (g_int:mg "int"=none) (W_is_number:FN P w K mg base CX0 1 "is_number" ["word"] (spF K F_is_number)) (F:Fun K "read_number" "read_number" s_read_number f fd):FnOk P w K mg base CX0 2 f fd ["word"] (spF K F_read_number):=by
 obtain ⟨_,_,G_is_number,m_is_number,k_is_number,b_is_number⟩:=W_is_number
 have sc:=sc_read_number
 refine fn_F F sc_read_number fun cdv A outer s H E hr=>?_
 have hu:=hu_of hr
 exact (fs_cons (fs_if (ft_not (ft_val (fp_call G_is_number (hr.mono (by decide)) m_is_number k_is_number b_is_number (fa_cons (fp_var 0) fa_nil)))) (fs_one fs_no) fs_nil) (fs_one (fs_ret (fp_intS g_int (fp_var 0)))))
abbrev s_read_numbers:Stmt:=top 13
theorem sc_read_numbers:FnScope ["words"] ["words"] (defScope s_read_numbers):=⟨rfl,rfl,rfl,by decide +kernel,rfl,by decide +kernel,by decide +kernel⟩
def B_read_numbers:SF:=(sRet (e1 oTuple (eComp [none] (iSeqF (eVar 0)) (gN 0) tTrue (eCall F_read_number (aCons (eVar 0) aNil)))))
def F_read_numbers:List D→Option D:=runF 1 1 B_read_numbers
theorem ok_read_numbers (g_tuple:mg "tuple"=none) (W_read_number:FN P w K mg base CX0 2 "read_number" ["word"] (spF K F_read_number)) (F:Fun K "read_numbers" "read_numbers" s_read_numbers f fd):FnOk P w K mg base CX0 3 f fd ["words"] (spF K F_read_numbers):=by
 obtain ⟨_,_,G_read_number,m_read_number,k_read_number,b_read_number⟩:=W_read_number
 have sc:=sc_read_numbers
 refine fn_F F sc_read_numbers fun cdv A outer s H E hr=>?_
 have hu:=hu_of hr
 exact (fs_one (fs_ret (fp_tuple g_tuple (fp_comp (M:=["word"]) (js:=[none]) (is:=[0]) (compScope_mk (N:=["words"]) (osc:=defScope s_read_numbers) rfl rfl rfl (by decide +kernel)) rfl (fi_seq (fp_var 0)) (by decide) fun s3 H3 fp=>⟨(fg_name 0 (show (["word"]:List Str).Nodup by decide +kernel)),fts_nil,(fp_call G_read_number (hr.mono (by decide)) m_read_number k_read_number b_read_number (fa_cons (fp_var 0) fa_nil))⟩))))
abbrev s_numbers_behind:Stmt:=top 11
theorem sc_numbers_behind:FnScope ["words","mark","numbers"] ["words","mark"] (defScope s_numbers_behind):=⟨rfl,rfl,rfl,by decide +kernel,rfl,by decide +kernel,by decide +kernel⟩
def B_numbers_behind:SF:=(sSeq (sIf (tV (e2 (oInS true) (eVar 1) (eVar 0))) (sRet (eTup aNil)) sNx) (sSeq (sSet 2 (eCall F_read_numbers (aCons (eCutT (eVar 0) (e2 oAdd (e2 oIndex (eVar 0) (eVar 1)) (eC (.int 1)))) aNil))) (sSeq (sIf (tNot1 (tTup (eVar 2))) sNo sNx) (sRetV 2))))
def F_numbers_behind:List D→Option D:=runF 2 3 B_numbers_behind
theorem ok_numbers_behind (W_read_numbers:FN P w K mg base CX0 3 "read_numbers" ["words"] (spF K F_read_numbers)) (F:Fun K "numbers_behind" "numbers_behind" s_numbers_behind f fd):FnOk P w K mg base CX0 4 f fd ["words","mark"] (spF K F_numbers_behind):=by
 obtain ⟨_,_,G_read_numbers,m_read_numbers,k_read_numbers,b_read_numbers⟩:=W_read_numbers
 have sc:=sc_numbers_behind
 refine fn_F F sc_numbers_behind fun cdv A outer s H E hr=>?_
 have hu:=hu_of hr
 exact (fs_cons (fs_if (ft_notInS (fp_var 1) (fp_var 0)) (fs_one (fs_ret (fp_tup fa_nil))) fs_nil) (fs_cons (fs_set 2 (fp_call G_read_numbers (hr.mono (by decide)) m_read_numbers k_read_numbers b_read_numbers (fa_cons (fp_cutT (fp_var 0) (fp_add (fp_index (fp_var 0) (fp_var 1)) fp_int)) fa_nil)) sc.nd) (fs_cons (fs_if (ft_not (ft_tup (fp_var 2))) (fs_one fs_no) fs_nil) (fs_one (fs_retV 2)))))
abbrev s_in_threes:Stmt:=top 12
theorem sc_in_threes:FnScope ["numbers"] ["numbers"] (defScope s_in_threes):=⟨rfl,rfl,rfl,by decide +kernel,rfl,by decide +kernel,by decide +kernel⟩
def B_in_threes:SF:=(sSeq (sIf (tV (e2 oNe (e2 oMod (e1 oLen (eVar 0)) (eC (.int 3))) (eC (.int 0)))) sNo sNx) (sRet (e1 oTuple (eComp [none,some 0] (iR3 (eC (.int 0)) (e1 oLen (eVar 0)) 3) (gN 0) tTrue (eCutP (eVar 1) (eVar 0) (e2 oAdd (eVar 0) (eC (.int 3))))))))
def F_in_threes:List D→Option D:=runF 1 1 B_in_threes
theorem ok_in_threes (g_len:mg "len"=none) (g_range:mg "range"=none) (g_tuple:mg "tuple"=none) (F:Fun K "in_threes" "in_threes" s_in_threes f fd):FnOk P w K mg base CX0 1 f fd ["numbers"] (spF K F_in_threes):=by
 have sc:=sc_in_threes
 refine fn_F F sc_in_threes fun cdv A outer s H E hr=>?_
 have hu:=hu_of hr
 exact (fs_cons (fs_if (ft_ne (fp_mod (fp_len g_len (fp_var 0)) fp_int) fp_int) (fs_one fs_no) fs_nil) (fs_one (fs_ret (fp_tuple g_tuple (fp_comp (M:=["start","numbers"]) (js:=[none,some 0]) (is:=[0]) (compScope_mk (N:=["numbers"]) (osc:=defScope s_in_threes) rfl rfl rfl (by decide +kernel)) rfl (fi_range3P g_range fp_int (fp_len g_len (fp_var 0))) (by decide) fun s3 H3 fp=>⟨(fg_name 0 (show (["start","numbers"]:List Str).Nodup by decide +kernel)),fts_nil,(fp_cutP (fp_var 1) (fp_var 0) (fp_add (fp_var 0) fp_int))⟩)))))
abbrev s_read_ask:Stmt:=top 9
theorem sc_read_ask:FnScope ["words","ahead","rank","leans"] ["words"] (defScope s_read_ask):=⟨rfl,rfl,rfl,by decide +kernel,rfl,by decide +kernel,by decide +kernel⟩
def B_read_ask:SF:=(sSeq (sSet 1 (eCallA F_wa (aCons (eVar 0) (aCons (eC (.str "put")) aNil)))) (sSeq (sSet 2 (eCallA F_wa (aCons (eVar 1) (aCons (eC (.str "on")) aNil)))) (sSeq (sIf (tV (e2 oNe (e1 oLen (eVar 2)) (eC (.int 1)))) sNo sNx) (sSeq (sSet 3 (eCall F_numbers_behind (aCons (eVar 1) (aCons (eC (.str "on")) aNil)))) (sRet (eTup (aCons (eC (.str "ask")) (aCons (eCall F_read_number (aCons (e2 oIx (eVar 2) (eC (.int 0))) aNil)) (aCons (eVar 3) (aCons (eCall F_in_threes (aCons (eCall F_numbers_behind (aCons (eVar 0) (aCons (eC (.str "put")) aNil))) aNil)) aNil))))))))))
def F_read_ask:List D→Option D:=runF 1 4 B_read_ask
theorem ok_read_ask (g_len:mg "len"=none) (W_words_ahead:FN P w K mg base CX0 1 "words_ahead" ["words","mark"] (spA K F_wa)) (W_numbers_behind:FN P w K mg base CX0 4 "numbers_behind" ["words","mark"] (spF K F_numbers_behind)) (W_in_threes:FN P w K mg base CX0 1 "in_threes" ["numbers"] (spF K F_in_threes)) (W_read_number:FN P w K mg base CX0 2 "read_number" ["word"] (spF K F_read_number)) (F:Fun K "read_ask" "read_ask" s_read_ask f fd):FnOk P w K mg base CX0 5 f fd ["words"] (spF K F_read_ask):=by
 obtain ⟨_,_,G_words_ahead,m_words_ahead,k_words_ahead,b_words_ahead⟩:=W_words_ahead
 obtain ⟨_,_,G_numbers_behind,m_numbers_behind,k_numbers_behind,b_numbers_behind⟩:=W_numbers_behind
 obtain ⟨_,_,G_in_threes,m_in_threes,k_in_threes,b_in_threes⟩:=W_in_threes
 obtain ⟨_,_,G_read_number,m_read_number,k_read_number,b_read_number⟩:=W_read_number
 have sc:=sc_read_ask
 refine fn_F F sc_read_ask fun cdv A outer s H E hr=>?_
 have hu:=hu_of hr
 exact (fs_cons (fs_set 1 (fp_callA G_words_ahead (hr.mono (by decide)) m_words_ahead k_words_ahead b_words_ahead (fa_cons (fp_var 0) (fa_cons fp_str fa_nil))) sc.nd) (fs_cons (fs_set 2 (fp_callA G_words_ahead (hr.mono (by decide)) m_words_ahead k_words_ahead b_words_ahead (fa_cons (fp_var 1) (fa_cons fp_str fa_nil))) sc.nd) (fs_cons (fs_if (ft_ne (fp_len g_len (fp_var 2)) fp_int) (fs_one fs_no) fs_nil) (fs_cons (fs_set 3 (fp_call G_numbers_behind (hr.mono (by decide)) m_numbers_behind k_numbers_behind b_numbers_behind (fa_cons (fp_var 1) (fa_cons fp_str fa_nil))) sc.nd) (fs_one (fs_ret (fp_tup (fa_cons fp_str (fa_cons (fp_call G_read_number (hr.mono (by decide)) m_read_number k_read_number b_read_number (fa_cons (fp_ix (fp_var 2) fp_int) fa_nil)) (fa_cons (fp_var 3) (fa_cons (fp_call G_in_threes (hr.mono (by decide)) m_in_threes k_in_threes b_in_threes (fa_cons (fp_call G_numbers_behind (hr.mono (by decide)) m_numbers_behind k_numbers_behind b_numbers_behind (fa_cons (fp_var 0) (fa_cons fp_str fa_nil))) fa_nil)) fa_nil)))))))))))
abbrev s_read_row:Stmt:=top 7
theorem sc_read_row:FnScope ["text","words","numbers"] ["text"] (defScope s_read_row):=⟨rfl,rfl,rfl,by decide +kernel,rfl,by decide +kernel,by decide +kernel⟩
def B_read_row:SF:=(sSeq (sSet 1 (e2 oSplit (eVar 0) (eC (.str " ")))) (sSeq (sIf (tV (e2 oEq (e2 oIx (eVar 1) (eC (.int 0))) (eC (.str "ask")))) (sRet (eCall F_read_ask (aCons (e1 (oCut (some 1) none) (eVar 1)) aNil))) sNx) (sSeq (sSet 2 (eCall F_read_numbers (aCons (e1 (oCut (some 1) none) (eVar 1)) aNil))) (sSeq (sIf (tAnd2 (tV (e2 (oInS false) (e2 oIx (eVar 1) (eC (.int 0))) (eC (.tup ((["yes","no","unsure"]:List Str).map D.str))))) (tTup (eVar 2))) (sRet (eTup (aCons (eC (.str "answer")) (aCons (eVar 2) (aCons (e2 oIx (eVar 1) (eC (.int 0))) aNil))))) sNx) (sSeq (sIf (tAnd2 (tV (e2 oEq (e2 oIx (eVar 1) (eC (.int 0))) (eC (.str "withdraw")))) (tV (e2 oEq (e1 oLen (eVar 2)) (eC (.int 1))))) (sRet (eTup (aCons (eC (.str "withdraw")) (aCons (e2 oIx (eVar 2) (eC (.int 0))) aNil)))) sNx) (sSeq (sIf (tV (e2 (oInS false) (eVar 0) (eTup (aCons (eC (.str "stop")) (aCons (eC (.str "go")) aNil))))) (sRet (eTup (aCons (eVar 0) aNil))) sNx) sNo))))))
def F_read_row:List D→Option D:=runF 1 3 B_read_row
theorem ok_read_row (g_len:mg "len"=none) {t_WORDS:Addr} (m_WORDS:mg "WORDS"=some (.ref t_WORDS)) (T_WORDS:TupK K t_WORDS ["yes","no","unsure"]) (W_read_ask:FN P w K mg base CX0 5 "read_ask" ["words"] (spF K F_read_ask)) (W_read_numbers:FN P w K mg base CX0 3 "read_numbers" ["words"] (spF K F_read_numbers)) (F:Fun K "read_row" "read_row" s_read_row f fd):FnOk P w K mg base CX0 6 f fd ["text"] (spF K F_read_row):=by
 obtain ⟨_,_,G_read_ask,m_read_ask,k_read_ask,b_read_ask⟩:=W_read_ask
 obtain ⟨_,_,G_read_numbers,m_read_numbers,k_read_numbers,b_read_numbers⟩:=W_read_numbers
 have sc:=sc_read_row
 refine fn_F F sc_read_row fun cdv A outer s H E hr=>?_
 have hu:=hu_of hr
 exact (fs_cons (fs_set 1 (fp_split (fp_var 0) fp_str) sc.nd) (fs_cons (fs_if (ft_eq (fp_ix (fp_var 1) fp_int) fp_str) (fs_one (fs_ret (fp_call G_read_ask (hr.mono (by decide)) m_read_ask k_read_ask b_read_ask (fa_cons (fp_cut pc_int pc_none (fp_var 1)) fa_nil)))) fs_nil) (fs_cons (fs_set 2 (fp_call G_read_numbers (hr.mono (by decide)) m_read_numbers k_read_numbers b_read_numbers (fa_cons (fp_cut pc_int pc_none (fp_var 1)) fa_nil)) sc.nd) (fs_cons (fs_if (FW.ft (fw_and (ft_inS (fp_ix (fp_var 1) fp_int) (fp_globT m_WORDS T_WORDS)) (fw_and1 (ft_tup (fp_var 2))))) (fs_one (fs_ret (fp_tup (fa_cons fp_str (fa_cons (fp_var 2) (fa_cons (fp_ix (fp_var 1) fp_int) fa_nil)))))) fs_nil) (fs_cons (fs_if (FW.ft (fw_and (ft_eq (fp_ix (fp_var 1) fp_int) fp_str) (fw_and1 (ft_eq (fp_len g_len (fp_var 2)) fp_int)))) (fs_one (fs_ret (fp_tup (fa_cons fp_str (fa_cons (fp_ix (fp_var 2) fp_int) fa_nil))))) fs_nil) (fs_cons (fs_if (ft_inS (fp_var 0) (fp_tup (fa_cons fp_str (fa_cons fp_str fa_nil)))) (fs_one (fs_ret (fp_tup (fa_cons (fp_var 0) fa_nil)))) fs_nil) (fs_one fs_no)))))))
abbrev s_shown_parts:Stmt:=top 17
theorem sc_shown_parts:FnScope ["parts"] ["parts"] (defScope s_shown_parts):=⟨rfl,rfl,rfl,by decide +kernel,rfl,by decide +kernel,by decide +kernel⟩
def B_shown_parts:SF:=(sRet (e2 oJoin (eC (.str " ")) (eComp [none] (iSeqF (eVar 0)) (gN 0) tTrue (e1 oStr (eVar 0)))))
def F_shown_parts:List D→Option D:=runF 1 1 B_shown_parts
theorem ok_shown_parts (g_str:mg "str"=none) (F:Fun K "shown_parts" "shown_parts" s_shown_parts f fd):FnOk P w K mg base CX0 1 f fd ["parts"] (spF K F_shown_parts):=by
 have sc:=sc_shown_parts
 refine fn_F F sc_shown_parts fun cdv A outer s H E hr=>?_
 have hu:=hu_of hr
 exact (fs_one (fs_ret (fp_join fp_str (fp_comp (M:=["part"]) (js:=[none]) (is:=[0]) (compScope_mk (N:=["parts"]) (osc:=defScope s_shown_parts) rfl rfl rfl (by decide +kernel)) rfl (fi_seq (fp_var 0)) (by decide) fun s3 H3 fp=>⟨(fg_name 0 (show (["part"]:List Str).Nodup by decide +kernel)),fts_nil,(fp_strC g_str (fp_var 0))⟩))))
abbrev s_shown_ask:Stmt:=top 16
theorem sc_shown_ask:FnScope ["rank","leans","edits","parts","edit"] ["rank","leans","edits"] (defScope s_shown_ask):=⟨rfl,rfl,rfl,by decide +kernel,rfl,by decide +kernel,by decide +kernel⟩
def B_shown_ask:SF:=(sSeq (sSet 3 (eLstI (aCons (eC (.str "ask")) (aCons (eVar 0) aNil)))) (sSeq (sIf (tTup (eVar 1)) (sSeq (sApp 3 (eC (.str "on"))) (sExtT 3 (eVar 1))) sNx) (sSeq (sIf (tTup (eVar 2)) (sSeq (sApp 3 (eC (.str "put"))) (sFor (iSeqF (eVar 2)) (gN 4) (sExtT 3 (eVar 4)))) sNx) (sRet (eCall F_shown_parts (aCons (eVar 3) aNil))))))
def F_shown_ask:List D→Option D:=runF 3 5 B_shown_ask
theorem ok_shown_ask (W_shown_parts:FN P w K mg base CX0 1 "shown_parts" ["parts"] (spF K F_shown_parts)) (F:Fun K "shown_ask" "shown_ask" s_shown_ask f fd):FnOk P w K mg base CX0 2 f fd ["rank","leans","edits"] (spF K F_shown_ask):=by
 obtain ⟨_,_,G_shown_parts,m_shown_parts,k_shown_parts,b_shown_parts⟩:=W_shown_parts
 have sc:=sc_shown_ask
 refine fn_F F sc_shown_ask fun cdv A outer s H E hr=>?_
 have hu:=hu_of hr
 exact (fs_cons (fs_set 3 (fp_lstI (fa_cons fp_str (fa_cons (fp_var 0) fa_nil))) sc.nd) (fs_cons (fs_if (ft_tup (fp_var 1)) (fs_cons (fs_app 3 fp_str) (fs_one (fs_extT 3 (fp_var 1)))) fs_nil) (fs_cons (fs_if (ft_tup (fp_var 2)) (fs_cons (fs_app 3 fp_str) (fs_one (fs_for rfl (fi_seq (fp_var 2)) (fg_name 4 sc.nd) (fs_one (fs_extT 3 (fp_var 4)))))) fs_nil) (fs_one (fs_ret (fp_call G_shown_parts (hr.mono (by decide)) m_shown_parts k_shown_parts b_shown_parts (fa_cons (fp_var 3) fa_nil)))))))
abbrev s_shown_row:Stmt:=top 8
theorem sc_shown_row:FnScope ["row"] ["row"] (defScope s_shown_row):=⟨rfl,rfl,rfl,by decide +kernel,rfl,by decide +kernel,by decide +kernel⟩
def B_shown_row:SF:=(sSeq (sIf (tV (e2 oEq (e2 oIx (eVar 0) (eC (.int 0))) (eC (.str "ask")))) (sRet (eCall F_shown_ask (aCons (e2 oIx (eVar 0) (eC (.int 1))) (aCons (e2 oIx (eVar 0) (eC (.int 2))) (aCons (e2 oIx (eVar 0) (eC (.int 3))) aNil))))) sNx) (sSeq (sIf (tV (e2 oEq (e2 oIx (eVar 0) (eC (.int 0))) (eC (.str "answer")))) (sRet (e2 oCatS (e2 oCatS (e2 oIx (eVar 0) (eC (.int 2))) (eC (.str " "))) (eCall F_shown_parts (aCons (e2 oIx (eVar 0) (eC (.int 1))) aNil)))) sNx) (sRet (eCall F_shown_parts (aCons (eVar 0) aNil)))))
def F_shown_row:List D→Option D:=runF 1 1 B_shown_row
theorem ok_shown_row (W_shown_ask:FN P w K mg base CX0 2 "shown_ask" ["rank","leans","edits"] (spF K F_shown_ask)) (W_shown_parts:FN P w K mg base CX0 1 "shown_parts" ["parts"] (spF K F_shown_parts)) (F:Fun K "shown_row" "shown_row" s_shown_row f fd):FnOk P w K mg base CX0 3 f fd ["row"] (spF K F_shown_row):=by
 obtain ⟨_,_,G_shown_ask,m_shown_ask,k_shown_ask,b_shown_ask⟩:=W_shown_ask
 obtain ⟨_,_,G_shown_parts,m_shown_parts,k_shown_parts,b_shown_parts⟩:=W_shown_parts
 have sc:=sc_shown_row
 refine fn_F F sc_shown_row fun cdv A outer s H E hr=>?_
 have hu:=hu_of hr
 exact (fs_cons (fs_if (ft_eq (fp_ix (fp_var 0) fp_int) fp_str) (fs_one (fs_ret (fp_call G_shown_ask (hr.mono (by decide)) m_shown_ask k_shown_ask b_shown_ask (fa_cons (fp_ix (fp_var 0) fp_int) (fa_cons (fp_ix (fp_var 0) fp_int) (fa_cons (fp_ix (fp_var 0) fp_int) fa_nil)))))) fs_nil) (fs_cons (fs_if (ft_eq (fp_ix (fp_var 0) fp_int) fp_str) (fs_one (fs_ret (fp_catS (fp_catS (fp_ix (fp_var 0) fp_int) fp_str) (fp_call G_shown_parts (hr.mono (by decide)) m_shown_parts k_shown_parts b_shown_parts (fa_cons (fp_ix (fp_var 0) fp_int) fa_nil))))) fs_nil) (fs_one (fs_ret (fp_call G_shown_parts (hr.mono (by decide)) m_shown_parts k_shown_parts b_shown_parts (fa_cons (fp_var 0) fa_nil))))))
abbrev s_L_cell_at:Stmt:=top 19
theorem sc_L_cell_at:FnScope ["_law_script","_law_k"] ["_law_script","_law_k"] (defScope s_L_cell_at):=⟨rfl,rfl,rfl,by decide +kernel,rfl,by decide +kernel,by decide +kernel⟩
def B_L_cell_at:SF:=(sSeq (sIf (tV (e2 oLt (eVar 1) (e1 oLen (eVar 0)))) (sRet (e2 oIx (eVar 0) (eVar 1))) sNx) (sRet (eC (.int 0))))
def F_L_cell_at:List D→Option D:=runF 2 2 B_L_cell_at
theorem ok_L_cell_at (g_len:mg "len"=none) (F:Fun K "_law_cell_at" "_law_cell_at" s_L_cell_at f fd):FnOk P w K mg base CX0 1 f fd ["_law_script","_law_k"] (spF K F_L_cell_at):=by
 have sc:=sc_L_cell_at
 refine fn_F F sc_L_cell_at fun cdv A outer s H E hr=>?_
 have hu:=hu_of hr
 exact (fs_cons (fs_if (ft_lt (fp_var 1) (fp_len g_len (fp_var 0))) (fs_one (fs_ret (fp_ix (fp_var 0) (fp_var 1)))) fs_nil) (fs_one (fs_ret fp_int)))
abbrev s_L_mixed:Stmt:=top 20
theorem sc_L_mixed:FnScope ["_law_number_here","_law_prime","_law_many"] ["_law_number_here","_law_prime","_law_many"] (defScope s_L_mixed):=⟨rfl,rfl,rfl,by decide +kernel,rfl,by decide +kernel,by decide +kernel⟩
def B_L_mixed:SF:=(sRet (e2 oMod (e2 oMod (e2 oMul (e2 oMod (eVar 0) (eC (.int 1000003))) (eC (.int 48271))) (eVar 1)) (eVar 2)))
def F_L_mixed:List D→Option D:=runF 3 3 B_L_mixed
theorem ok_L_mixed (F:Fun K "_law_mixed" "_law_mixed" s_L_mixed f fd):FnOk P w K mg base CX0 1 f fd ["_law_number_here","_law_prime","_law_many"] (spF K F_L_mixed):=by
 have sc:=sc_L_mixed
 refine fn_F F sc_L_mixed fun cdv A outer s H E hr=>?_
 have hu:=hu_of hr
 exact (fs_one (fs_ret (fp_mod (fp_mod (fp_mul (fp_mod (fp_var 0) fp_int) fp_int) (fp_var 1)) (fp_var 2))))
abbrev s_L_number:Stmt:=top 21
theorem sc_L_number:FnScope ["_law_script","_law_at","_law_cell","_law_way"] ["_law_script","_law_at"] (defScope s_L_number):=⟨rfl,rfl,rfl,by decide +kernel,rfl,by decide +kernel,by decide +kernel⟩
def B_L_number:SF:=(sSeq (sSet 2 (eCall F_L_cell_at (aCons (eVar 0) (aCons (e2 oAdd (eC (.int 1)) (e2 oMod (eVar 1) (eC (.int 62)))) aNil)))) (sSeq (sSet 3 (eCall F_L_mixed (aCons (e2 oAdd (eVar 2) (eVar 1)) (aCons (eC (.int 10007)) (aCons (eC (.int 5)) aNil))))) (sSeq (sIf (tV (e2 oEq (eVar 3) (eC (.int 0)))) (sRet (e2 oMod (e2 oAdd (eVar 2) (eVar 1)) (e2 oPow (eC (.int 10)) (eC (.int 12))))) sNx) (sSeq (sIf (tV (e2 oEq (eVar 3) (eC (.int 1)))) (sRet (eIxO (eLstI (aCons (eC (.int 0)) (aCons (eC (.int 9)) (aCons (eC (.int 10)) (aCons (e2 oPow (eC (.int 10)) (eC (.int 11))) (aCons (e2 oSub (e2 oPow (eC (.int 10)) (eC (.int 12))) (eC (.int 1))) aNil)))))) (eCall F_L_mixed (aCons (e2 oAdd (eVar 2) (eVar 1)) (aCons (eC (.int 20011)) (aCons (eC (.int 5)) aNil)))))) sNx) (sRet (eCall F_L_mixed (aCons (e2 oAdd (eVar 2) (e2 oMul (eVar 1) (eVar 1))) (aCons (eC (.int 131071)) (aCons (e2 oIx (eLstI (aCons (eC (.int 10)) (aCons (eC (.int 100)) (aCons (eC (.int 1000)) (aCons (eC (.int 10000)) aNil))))) (eCall F_L_mixed (aCons (e2 oAdd (eVar 2) (eVar 1)) (aCons (eC (.int 30011)) (aCons (eC (.int 4)) aNil))))) aNil)))))))))
def F_L_number:List D→Option D:=runF 2 4 B_L_number
theorem ok_L_number (W_L_cell_at:FN P w K mg base CX0 1 "_law_cell_at" ["_law_script","_law_k"] (spF K F_L_cell_at)) (W_L_mixed:FN P w K mg base CX0 1 "_law_mixed" ["_law_number_here","_law_prime","_law_many"] (spF K F_L_mixed)) (F:Fun K "_law_number" "_law_number" s_L_number f fd):FnOk P w K mg base CX0 2 f fd ["_law_script","_law_at"] (spF K F_L_number):=by
 obtain ⟨_,_,G_L_cell_at,m_L_cell_at,k_L_cell_at,b_L_cell_at⟩:=W_L_cell_at
 obtain ⟨_,_,G_L_mixed,m_L_mixed,k_L_mixed,b_L_mixed⟩:=W_L_mixed
 have sc:=sc_L_number
 refine fn_F F sc_L_number fun cdv A outer s H E hr=>?_
 have hu:=hu_of hr
 exact (fs_cons (fs_set 2 (fp_call G_L_cell_at (hr.mono (by decide)) m_L_cell_at k_L_cell_at b_L_cell_at (fa_cons (fp_var 0) (fa_cons (fp_add fp_int (fp_mod (fp_var 1) fp_int)) fa_nil))) sc.nd) (fs_cons (fs_set 3 (fp_call G_L_mixed (hr.mono (by decide)) m_L_mixed k_L_mixed b_L_mixed (fa_cons (fp_add (fp_var 2) (fp_var 1)) (fa_cons fp_int (fa_cons fp_int fa_nil)))) sc.nd) (fs_cons (fs_if (ft_eq (fp_var 3) fp_int) (fs_one (fs_ret (fp_mod (fp_add (fp_var 2) (fp_var 1)) (fp_pow fp_int fp_int)))) fs_nil) (fs_cons (fs_if (ft_eq (fp_var 3) fp_int) (fs_one (fs_ret (fp_ixO (fp_lstI (fa_cons fp_int (fa_cons fp_int (fa_cons fp_int (fa_cons (fp_pow fp_int fp_int) (fa_cons (fp_sub (fp_pow fp_int fp_int) fp_int) fa_nil)))))) (fp_call G_L_mixed (hr.mono (by decide)) m_L_mixed k_L_mixed b_L_mixed (fa_cons (fp_add (fp_var 2) (fp_var 1)) (fa_cons fp_int (fa_cons fp_int fa_nil))))))) fs_nil) (fs_one (fs_ret (fp_call G_L_mixed (hr.mono (by decide)) m_L_mixed k_L_mixed b_L_mixed (fa_cons (fp_add (fp_var 2) (fp_mul (fp_var 1) (fp_var 1))) (fa_cons fp_int (fa_cons (fp_ix (fp_lstI (fa_cons fp_int (fa_cons fp_int (fa_cons fp_int (fa_cons fp_int fa_nil))))) (fp_call G_L_mixed (hr.mono (by decide)) m_L_mixed k_L_mixed b_L_mixed (fa_cons (fp_add (fp_var 2) (fp_var 1)) (fa_cons fp_int (fa_cons fp_int fa_nil))))) fa_nil))))))))))
abbrev s_L_numbers:Stmt:=top 22
theorem sc_L_numbers:FnScope ["_law_script","_law_at","_law_many"] ["_law_script","_law_at","_law_many"] (defScope s_L_numbers):=⟨rfl,rfl,rfl,by decide +kernel,rfl,by decide +kernel,by decide +kernel⟩
def B_L_numbers:SF:=(sRet (eComp [none,some 0,some 1] (iR1 (eVar 2)) (gN 0) tTrue (eCall F_L_number (aCons (eVar 1) (aCons (e2 oAdd (eVar 2) (eVar 0)) aNil)))))
def F_L_numbers:List D→Option D:=runF 3 3 B_L_numbers
theorem ok_L_numbers (g_range:mg "range"=none) (W_L_number:FN P w K mg base CX0 2 "_law_number" ["_law_script","_law_at"] (spF K F_L_number)) (F:Fun K "_law_numbers" "_law_numbers" s_L_numbers f fd):FnOk P w K mg base CX0 3 f fd ["_law_script","_law_at","_law_many"] (spF K F_L_numbers):=by
 obtain ⟨_,_,G_L_number,m_L_number,k_L_number,b_L_number⟩:=W_L_number
 have sc:=sc_L_numbers
 refine fn_F F sc_L_numbers fun cdv A outer s H E hr=>?_
 have hu:=hu_of hr
 exact (fs_one (fs_ret (fp_comp (M:=["_law_k","_law_script","_law_at"]) (js:=[none,some 0,some 1]) (is:=[0]) (compScope_mk (N:=["_law_script","_law_at","_law_many"]) (osc:=defScope s_L_numbers) rfl rfl rfl (by decide +kernel)) rfl (fi_range1 g_range (fp_var 2)) (by decide) fun s3 H3 fp=>⟨(fg_name 0 (show (["_law_k","_law_script","_law_at"]:List Str).Nodup by decide +kernel)),fts_nil,(fp_call G_L_number (hr.mono (by decide)) m_L_number k_L_number b_L_number (fa_cons (fp_var 1) (fa_cons (fp_add (fp_var 2) (fp_var 0)) fa_nil)))⟩)))
abbrev s_L_asks:Stmt:=top 23
theorem sc_L_asks:FnScope ["_law_script","_law_cell","_law_leans","_law_some","_law_edits"] ["_law_script"] (defScope s_L_asks):=⟨rfl,rfl,rfl,by decide +kernel,rfl,by decide +kernel,by decide +kernel⟩
def B_L_asks:SF:=(sSeq (sSet 1 (eCall F_L_cell_at (aCons (eVar 0) (aCons (eC (.int 0)) aNil)))) (sSeq (sSet 2 (eCall F_L_numbers (aCons (eVar 0) (aCons (eC (.int 1)) (aCons (eCall F_L_mixed (aCons (eVar 1) (aCons (eC (.int 10007)) (aCons (eC (.int 9)) aNil)))) aNil))))) (sSeq (sSet 3 (eCall F_L_numbers (aCons (eVar 0) (aCons (eC (.int 10)) (aCons (e2 oMul (eC (.int 3)) (eCall F_L_mixed (aCons (eVar 1) (aCons (eC (.int 20011)) (aCons (e2 oIx (eLstI (aCons (eC (.int 4)) (aCons (eC (.int 21)) aNil))) (eCall F_L_mixed (aCons (eVar 1) (aCons (eC (.int 30011)) (aCons (eC (.int 2)) aNil))))) aNil))))) aNil))))) (sSeq (sSet 4 (eComp [none,some 3] (iR3 (eC (.int 0)) (e1 oLen (eVar 3)) 3) (gN 0) tTrue (eTup (aCons (e2 oIx (eVar 1) (eVar 0)) (aCons (e2 oIx (eVar 1) (e2 oAdd (eVar 0) (eC (.int 1)))) (aCons (e2 oIx (eVar 1) (e2 oAdd (eVar 0) (eC (.int 2)))) aNil)))))) (sRet (eTup (aCons (eC (.str "ask")) (aCons (eCall F_L_number (aCons (eVar 0) (aCons (eC (.int 0)) aNil))) (aCons (e1 oTuple (eVar 2)) (aCons (e1 oTuple (eVar 4)) aNil))))))))))
def F_L_asks:List D→Option D:=runF 1 5 B_L_asks
theorem ok_L_asks (g_len:mg "len"=none) (g_range:mg "range"=none) (g_tuple:mg "tuple"=none) (W_L_cell_at:FN P w K mg base CX0 1 "_law_cell_at" ["_law_script","_law_k"] (spF K F_L_cell_at)) (W_L_numbers:FN P w K mg base CX0 3 "_law_numbers" ["_law_script","_law_at","_law_many"] (spF K F_L_numbers)) (W_L_mixed:FN P w K mg base CX0 1 "_law_mixed" ["_law_number_here","_law_prime","_law_many"] (spF K F_L_mixed)) (W_L_number:FN P w K mg base CX0 2 "_law_number" ["_law_script","_law_at"] (spF K F_L_number)) (F:Fun K "_law_asks" "_law_asks" s_L_asks f fd):FnOk P w K mg base CX0 4 f fd ["_law_script"] (spF K F_L_asks):=by
 obtain ⟨_,_,G_L_cell_at,m_L_cell_at,k_L_cell_at,b_L_cell_at⟩:=W_L_cell_at
 obtain ⟨_,_,G_L_numbers,m_L_numbers,k_L_numbers,b_L_numbers⟩:=W_L_numbers
 obtain ⟨_,_,G_L_mixed,m_L_mixed,k_L_mixed,b_L_mixed⟩:=W_L_mixed
 obtain ⟨_,_,G_L_number,m_L_number,k_L_number,b_L_number⟩:=W_L_number
 have sc:=sc_L_asks
 refine fn_F F sc_L_asks fun cdv A outer s H E hr=>?_
 have hu:=hu_of hr
 exact (fs_cons (fs_set 1 (fp_call G_L_cell_at (hr.mono (by decide)) m_L_cell_at k_L_cell_at b_L_cell_at (fa_cons (fp_var 0) (fa_cons fp_int fa_nil))) sc.nd) (fs_cons (fs_set 2 (fp_call G_L_numbers (hr.mono (by decide)) m_L_numbers k_L_numbers b_L_numbers (fa_cons (fp_var 0) (fa_cons fp_int (fa_cons (fp_call G_L_mixed (hr.mono (by decide)) m_L_mixed k_L_mixed b_L_mixed (fa_cons (fp_var 1) (fa_cons fp_int (fa_cons fp_int fa_nil)))) fa_nil)))) sc.nd) (fs_cons (fs_set 3 (fp_call G_L_numbers (hr.mono (by decide)) m_L_numbers k_L_numbers b_L_numbers (fa_cons (fp_var 0) (fa_cons fp_int (fa_cons (fp_mul fp_int (fp_call G_L_mixed (hr.mono (by decide)) m_L_mixed k_L_mixed b_L_mixed (fa_cons (fp_var 1) (fa_cons fp_int (fa_cons (fp_ix (fp_lstI (fa_cons fp_int (fa_cons fp_int fa_nil))) (fp_call G_L_mixed (hr.mono (by decide)) m_L_mixed k_L_mixed b_L_mixed (fa_cons (fp_var 1) (fa_cons fp_int (fa_cons fp_int fa_nil))))) fa_nil))))) fa_nil)))) sc.nd) (fs_cons (fs_setC 4 (hN:=sc.nd) (M:=["_law_k","_law_some"]) (js:=[none,some 3]) (is:=[0]) (compScope_mk (N:=["_law_script","_law_cell","_law_leans","_law_some","_law_edits"]) (osc:=defScope s_L_asks) rfl rfl rfl (by decide +kernel)) rfl (fi_range3P g_range fp_int (fp_len g_len (fp_var 3))) (by decide) fun s3 H3 fp=>⟨(fg_name 0 (show (["_law_k","_law_some"]:List Str).Nodup by decide +kernel)),fts_nil,(fp_tup (fa_cons (fp_ix (fp_var 1) (fp_var 0)) (fa_cons (fp_ix (fp_var 1) (fp_add (fp_var 0) fp_int)) (fa_cons (fp_ix (fp_var 1) (fp_add (fp_var 0) fp_int)) fa_nil))))⟩) (fs_one (fs_ret (fp_tup (fa_cons fp_str (fa_cons (fp_call G_L_number (hr.mono (by decide)) m_L_number k_L_number b_L_number (fa_cons (fp_var 0) (fa_cons fp_int fa_nil))) (fa_cons (fp_tuple g_tuple (fp_var 2)) (fa_cons (fp_tuple g_tuple (fp_var 4)) fa_nil)))))))))))
abbrev s_L_rows:Stmt:=top 24
theorem sc_L_rows:FnScope ["_law_script","_law_cell","_law_look","_law_word","_law_withdrawn"] ["_law_script"] (defScope s_L_rows):=⟨rfl,rfl,rfl,by decide +kernel,rfl,by decide +kernel,by decide +kernel⟩
def B_L_rows:SF:=(sSeq (sSet 1 (eCall F_L_cell_at (aCons (eVar 0) (aCons (eC (.int 0)) aNil)))) (sSeq (sSet 2 (eCall F_L_numbers (aCons (eVar 0) (aCons (eC (.int 71)) (aCons (e2 oAdd (eC (.int 1)) (eCall F_L_mixed (aCons (eVar 1) (aCons (eC (.int 40009)) (aCons (eC (.int 30)) aNil))))) aNil))))) (sSeq (sSet 3 (e2 oIx (eLstI (aCons (eC (.str "yes")) (aCons (eC (.str "no")) (aCons (eC (.str "unsure")) aNil)))) (eCall F_L_mixed (aCons (eVar 1) (aCons (eC (.int 50021)) (aCons (eC (.int 3)) aNil)))))) (sSeq (sSet 4 (eTup (aCons (eC (.str "withdraw")) (aCons (eCall F_L_number (aCons (eVar 0) (aCons (eC (.int 102)) aNil))) aNil)))) (sRet (eLstI (aCons (eCall F_L_asks (aCons (eVar 0) aNil)) (aCons (eVar 4) (aCons (eTup (aCons (eC (.str "answer")) (aCons (e1 oTuple (eVar 2)) (aCons (eVar 3) aNil)))) (aCons (eTup (aCons (eC (.str "stop")) aNil)) (aCons (eTup (aCons (eC (.str "go")) aNil)) aNil)))))))))))
def F_L_rows:List D→Option D:=runF 1 5 B_L_rows
theorem ok_L_rows (g_tuple:mg "tuple"=none) (W_L_cell_at:FN P w K mg base CX0 1 "_law_cell_at" ["_law_script","_law_k"] (spF K F_L_cell_at)) (W_L_numbers:FN P w K mg base CX0 3 "_law_numbers" ["_law_script","_law_at","_law_many"] (spF K F_L_numbers)) (W_L_mixed:FN P w K mg base CX0 1 "_law_mixed" ["_law_number_here","_law_prime","_law_many"] (spF K F_L_mixed)) (W_L_number:FN P w K mg base CX0 2 "_law_number" ["_law_script","_law_at"] (spF K F_L_number)) (W_L_asks:FN P w K mg base CX0 4 "_law_asks" ["_law_script"] (spF K F_L_asks)) (F:Fun K "_law_rows" "_law_rows" s_L_rows f fd):FnOk P w K mg base CX0 5 f fd ["_law_script"] (spF K F_L_rows):=by
 obtain ⟨_,_,G_L_cell_at,m_L_cell_at,k_L_cell_at,b_L_cell_at⟩:=W_L_cell_at
 obtain ⟨_,_,G_L_numbers,m_L_numbers,k_L_numbers,b_L_numbers⟩:=W_L_numbers
 obtain ⟨_,_,G_L_mixed,m_L_mixed,k_L_mixed,b_L_mixed⟩:=W_L_mixed
 obtain ⟨_,_,G_L_number,m_L_number,k_L_number,b_L_number⟩:=W_L_number
 obtain ⟨_,_,G_L_asks,m_L_asks,k_L_asks,b_L_asks⟩:=W_L_asks
 have sc:=sc_L_rows
 refine fn_F F sc_L_rows fun cdv A outer s H E hr=>?_
 have hu:=hu_of hr
 exact (fs_cons (fs_set 1 (fp_call G_L_cell_at (hr.mono (by decide)) m_L_cell_at k_L_cell_at b_L_cell_at (fa_cons (fp_var 0) (fa_cons fp_int fa_nil))) sc.nd) (fs_cons (fs_set 2 (fp_call G_L_numbers (hr.mono (by decide)) m_L_numbers k_L_numbers b_L_numbers (fa_cons (fp_var 0) (fa_cons fp_int (fa_cons (fp_add fp_int (fp_call G_L_mixed (hr.mono (by decide)) m_L_mixed k_L_mixed b_L_mixed (fa_cons (fp_var 1) (fa_cons fp_int (fa_cons fp_int fa_nil))))) fa_nil)))) sc.nd) (fs_cons (fs_set 3 (fp_ix (fp_lstI (fa_cons fp_str (fa_cons fp_str (fa_cons fp_str fa_nil)))) (fp_call G_L_mixed (hr.mono (by decide)) m_L_mixed k_L_mixed b_L_mixed (fa_cons (fp_var 1) (fa_cons fp_int (fa_cons fp_int fa_nil))))) sc.nd) (fs_cons (fs_set 4 (fp_tup (fa_cons fp_str (fa_cons (fp_call G_L_number (hr.mono (by decide)) m_L_number k_L_number b_L_number (fa_cons (fp_var 0) (fa_cons fp_int fa_nil))) fa_nil))) sc.nd) (fs_one (fs_ret (fp_lstI (fa_cons (fp_call G_L_asks (hr.mono (by decide)) m_L_asks k_L_asks b_L_asks (fa_cons (fp_var 0) fa_nil)) (fa_cons (fp_var 4) (fa_cons (fp_tup (fa_cons fp_str (fa_cons (fp_tuple g_tuple (fp_var 2)) (fa_cons (fp_var 3) fa_nil)))) (fa_cons (fp_tup (fa_cons fp_str fa_nil)) (fa_cons (fp_tup (fa_cons fp_str fa_nil)) fa_nil))))))))))))
abbrev s_L_joined:Stmt:=top 25
theorem sc_L_joined:FnScope ["_law_words","_law_text_here","_law_word"] ["_law_words"] (defScope s_L_joined):=⟨rfl,rfl,rfl,by decide +kernel,rfl,by decide +kernel,by decide +kernel⟩
def B_L_joined:SF:=(sSeq (sSet 1 (e2 oIx (eVar 0) (eC (.int 0)))) (sSeq (sFor (iSeqF (e1 (oCut (some 1) none) (eVar 0))) (gN 2) (sSet 1 (e2 oCatS (e2 oCatS (eVar 1) (eC (.str " "))) (eVar 2)))) (sRetV 1)))
def F_L_joined:List D→Option D:=runF 1 3 B_L_joined
theorem ok_L_joined (F:Fun K "_law_joined" "_law_joined" s_L_joined f fd):FnOk P w K mg base CX0 1 f fd ["_law_words"] (spF K F_L_joined):=by
 have sc:=sc_L_joined
 refine fn_F F sc_L_joined fun cdv A outer s H E hr=>?_
 have hu:=hu_of hr
 exact (fs_cons (fs_set 1 (fp_ix (fp_var 0) fp_int) sc.nd) (fs_cons (fs_for rfl (fi_seq (fp_cut pc_int pc_none (fp_var 0))) (fg_name 2 sc.nd) (fs_one (fs_set 1 (fp_catS (fp_catS (fp_var 1) fp_str) (fp_var 2)) sc.nd))) (fs_one (fs_retV 1))))
abbrev s_L_text:Stmt:=top 26
theorem sc_L_text:FnScope ["_law_row","_law_words","_law_edit"] ["_law_row"] (defScope s_L_text):=⟨rfl,rfl,rfl,by decide +kernel,rfl,by decide +kernel,by decide +kernel⟩
def B_L_text:SF:=(sSeq (sIf (tV (e2 oEq (e2 oIx (eVar 0) (eC (.int 0))) (eC (.str "answer")))) (sRet (eCall F_L_joined (aCons (e2 oCat (eLstI (aCons (e2 oIx (eVar 0) (eC (.int 2))) aNil)) (eComp [none] (iSeqF (e2 oIx (eVar 0) (eC (.int 1)))) (gN 0) tTrue (e1 oStr (eVar 0)))) aNil))) sNx) (sSeq (sSet 1 (eLstI (aCons (e2 oIx (eVar 0) (eC (.int 0))) aNil))) (sSeq (sIf (tOr2 (tV (e2 oEq (e2 oIx (eVar 0) (eC (.int 0))) (eC (.str "withdraw")))) (tV (e2 oEq (e2 oIx (eVar 0) (eC (.int 0))) (eC (.str "ask"))))) (sApp 1 (e1 oStr (e2 oIx (eVar 0) (eC (.int 1))))) sNx) (sSeq (sIf (tV (e2 oEq (e2 oIx (eVar 0) (eC (.int 0))) (eC (.str "ask")))) (sSeq (sIf (tV (e2 oNeP (e2 oIx (eVar 0) (eC (.int 2))) (eTup aNil))) (sSet 1 (e2 oCat (e2 oCat (eVar 1) (eLstI (aCons (eC (.str "on")) aNil))) (eComp [none] (iSeqF (e2 oIx (eVar 0) (eC (.int 2)))) (gN 0) tTrue (e1 oStr (eVar 0))))) sNx) (sSeq (sIf (tV (e2 oNeP (e2 oIx (eVar 0) (eC (.int 3))) (eTup aNil))) (sApp 1 (eC (.str "put"))) sNx) (sFor (iSeqF (e2 oIx (eVar 0) (eC (.int 3)))) (gN 2) (sSet 1 (e2 oCat (eVar 1) (eComp [none] (iSeqF (eVar 2)) (gN 0) tTrue (e1 oStr (eVar 0)))))))) sNx) (sRet (eCall F_L_joined (aCons (eVar 1) aNil)))))))
def F_L_text:List D→Option D:=runF 1 3 B_L_text
theorem ok_L_text (g_str:mg "str"=none) (W_L_joined:FN P w K mg base CX0 1 "_law_joined" ["_law_words"] (spF K F_L_joined)) (F:Fun K "_law_text" "_law_text" s_L_text f fd):FnOk P w K mg base CX0 2 f fd ["_law_row"] (spF K F_L_text):=by
 obtain ⟨_,_,G_L_joined,m_L_joined,k_L_joined,b_L_joined⟩:=W_L_joined
 have sc:=sc_L_text
 refine fn_F F sc_L_text fun cdv A outer s H E hr=>?_
 have hu:=hu_of hr
 exact (fs_cons (fs_if (ft_eq (fp_ix (fp_var 0) fp_int) fp_str) (fs_one (fs_ret (fp_call G_L_joined (hr.mono (by decide)) m_L_joined k_L_joined b_L_joined (fa_cons (fp_cat (fp_lstI (fa_cons (fp_ix (fp_var 0) fp_int) fa_nil)) (fp_comp (M:=["_law_number_here"]) (js:=[none]) (is:=[0]) (compScope_mk (N:=["_law_row","_law_words","_law_edit"]) (osc:=defScope s_L_text) rfl rfl rfl (by decide +kernel)) rfl (fi_seq (fp_ix (fp_var 0) fp_int)) (by decide) fun s3 H3 fp=>⟨(fg_name 0 (show (["_law_number_here"]:List Str).Nodup by decide +kernel)),fts_nil,(fp_strC g_str (fp_var 0))⟩)) fa_nil)))) fs_nil) (fs_cons (fs_set 1 (fp_lstI (fa_cons (fp_ix (fp_var 0) fp_int) fa_nil)) sc.nd) (fs_cons (fs_if (FW.ft (fw_or (ft_eq (fp_ix (fp_var 0) fp_int) fp_str) (fw_or1 (ft_eq (fp_ix (fp_var 0) fp_int) fp_str)))) (fs_one (fs_app 1 (fp_strC g_str (fp_ix (fp_var 0) fp_int)))) fs_nil) (fs_cons (fs_if (ft_eq (fp_ix (fp_var 0) fp_int) fp_str) (fs_cons (fs_if (ft_neP hr.units (fp_ix (fp_var 0) fp_int) (fp_tup fa_nil)) (fs_one (fs_set 1 (fp_cat (fp_cat (fp_var 1) (fp_lstI (fa_cons fp_str fa_nil))) (fp_comp (M:=["_law_number_here"]) (js:=[none]) (is:=[0]) (compScope_mk (N:=["_law_row","_law_words","_law_edit"]) (osc:=defScope s_L_text) rfl rfl rfl (by decide +kernel)) rfl (fi_seq (fp_ix (fp_var 0) fp_int)) (by decide) fun s3 H3 fp=>⟨(fg_name 0 (show (["_law_number_here"]:List Str).Nodup by decide +kernel)),fts_nil,(fp_strC g_str (fp_var 0))⟩)) sc.nd)) fs_nil) (fs_cons (fs_if (ft_neP hr.units (fp_ix (fp_var 0) fp_int) (fp_tup fa_nil)) (fs_one (fs_app 1 fp_str)) fs_nil) (fs_one (fs_for rfl (fi_seq (fp_ix (fp_var 0) fp_int)) (fg_name 2 sc.nd) (fs_one (fs_set 1 (fp_cat (fp_var 1) (fp_comp (M:=["_law_number_here"]) (js:=[none]) (is:=[0]) (compScope_mk (N:=["_law_row","_law_words","_law_edit"]) (osc:=defScope s_L_text) rfl rfl rfl (by decide +kernel)) rfl (fi_seq (fp_var 2)) (by decide) fun s3 H3 fp=>⟨(fg_name 0 (show (["_law_number_here"]:List Str).Nodup by decide +kernel)),fts_nil,(fp_strC g_str (fp_var 0))⟩)) sc.nd)))))) fs_nil) (fs_one (fs_ret (fp_call G_L_joined (hr.mono (by decide)) m_L_joined k_L_joined b_L_joined (fa_cons (fp_var 1) fa_nil))))))))
abbrev s_L_plain:Stmt:=top 27
theorem sc_L_plain:FnScope ["_law_thing"] ["_law_thing"] (defScope s_L_plain):=⟨rfl,rfl,rfl,by decide +kernel,rfl,by decide +kernel,by decide +kernel⟩
def B1_L_plain:SF:=(sSeq (sIf (tV (e1 (oIsiB "tuple") (eVar 0))) (sRet (e1 oAll (eComp [none] (iSeqF (eVar 0)) (gN 0) tTrue (eCall (fun _=>none) (aCons (eVar 0) aNil))))) sNx) (sRet (eAnd (e1 oIsIS (eVar 0)) (e1 oNot (e1 (oIsi "bool") (eVar 0))))))
def F1_L_plain:List D→Option D:=runF 1 1 B1_L_plain
def B2_L_plain:SF:=(sSeq (sIf (tV (e1 (oIsiB "tuple") (eVar 0))) (sRet (e1 oAll (eComp [none] (iSeqF (eVar 0)) (gN 0) tTrue (eCall F1_L_plain (aCons (eVar 0) aNil))))) sNx) (sRet (eAnd (e1 oIsIS (eVar 0)) (e1 oNot (e1 (oIsi "bool") (eVar 0))))))
def F2_L_plain:List D→Option D:=runF 1 1 B2_L_plain
def B3_L_plain:SF:=(sSeq (sIf (tV (e1 (oIsiB "tuple") (eVar 0))) (sRet (e1 oAll (eComp [none] (iSeqF (eVar 0)) (gN 0) tTrue (eCall F2_L_plain (aCons (eVar 0) aNil))))) sNx) (sRet (eAnd (e1 oIsIS (eVar 0)) (e1 oNot (e1 (oIsi "bool") (eVar 0))))))
def F3_L_plain:List D→Option D:=runF 1 1 B3_L_plain
def B4_L_plain:SF:=(sSeq (sIf (tV (e1 (oIsiB "tuple") (eVar 0))) (sRet (e1 oAll (eComp [none] (iSeqF (eVar 0)) (gN 0) tTrue (eCall F3_L_plain (aCons (eVar 0) aNil))))) sNx) (sRet (eAnd (e1 oIsIS (eVar 0)) (e1 oNot (e1 (oIsi "bool") (eVar 0))))))
def F4_L_plain:List D→Option D:=runF 1 1 B4_L_plain
abbrev F_L_plain:List D→Option D:=F4_L_plain
theorem ok_L_plain (g_all:mg "all"=none) (g_bool:mg "bool"=none) (g_int:mg "int"=none) (g_isinstance:mg "isinstance"=none) (g_str:mg "str"=none) (g_tuple:mg "tuple"=none) (m_L_plain:mg "_law_plain"=some (.ref f)) (k_L_plain:PySem.W.keepIn K (.ref f)=true) (b_L_plain:Binds K fd ["_law_thing"] []) (F:Fun K "_law_plain" "_law_plain" s_L_plain f fd):FnOk P w K mg base CX0 5 f fd ["_law_thing"] (spF K F_L_plain):=by
 have sc:=sc_L_plain
 have GR_L_plain:FnOk P w K mg base CX0 1 f fd ["_law_thing"] (spF K fun _=>none):=fn_none F sc_L_plain
 have GR1:FnOk P w K mg base CX0 2 f fd ["_law_thing"] (spF K F1_L_plain):=by
  refine fn_F F sc_L_plain fun cdv A outer s H E hr=>?_
  have hu:=hu_of hr
  exact (fs_cons (fs_if (ft_val (fp_isiB isi_tuple isiB_tuple g_isinstance g_tuple (fp_var 0))) (fs_one (fs_ret (fp_all rfl g_all (fp_comp (M:=["_law_part"]) (js:=[none]) (is:=[0]) (compScope_mk (N:=["_law_thing"]) (osc:=defScope s_L_plain) rfl rfl rfl (by decide +kernel)) rfl (fi_seq (fp_var 0)) (by decide) fun s3 H3 fp=>⟨(fg_name 0 (show (["_law_part"]:List Str).Nodup by decide +kernel)),fts_nil,(fp_call GR_L_plain (hr.mono (by decide)) m_L_plain k_L_plain b_L_plain (fa_cons (fp_var 0) fa_nil))⟩)))) fs_nil) (fs_one (fs_ret (fp_and (fp_isIS g_isinstance g_int g_str (fp_var 0)) (fp_one (fp_not (fp_isi isi_bool g_isinstance g_bool (fp_var 0))))))))
 clear GR_L_plain
 have GR_L_plain:=GR1
 have GR2:FnOk P w K mg base CX0 3 f fd ["_law_thing"] (spF K F2_L_plain):=by
  refine fn_F F sc_L_plain fun cdv A outer s H E hr=>?_
  have hu:=hu_of hr
  exact (fs_cons (fs_if (ft_val (fp_isiB isi_tuple isiB_tuple g_isinstance g_tuple (fp_var 0))) (fs_one (fs_ret (fp_all rfl g_all (fp_comp (M:=["_law_part"]) (js:=[none]) (is:=[0]) (compScope_mk (N:=["_law_thing"]) (osc:=defScope s_L_plain) rfl rfl rfl (by decide +kernel)) rfl (fi_seq (fp_var 0)) (by decide) fun s3 H3 fp=>⟨(fg_name 0 (show (["_law_part"]:List Str).Nodup by decide +kernel)),fts_nil,(fp_call GR_L_plain (hr.mono (by decide)) m_L_plain k_L_plain b_L_plain (fa_cons (fp_var 0) fa_nil))⟩)))) fs_nil) (fs_one (fs_ret (fp_and (fp_isIS g_isinstance g_int g_str (fp_var 0)) (fp_one (fp_not (fp_isi isi_bool g_isinstance g_bool (fp_var 0))))))))
 clear GR_L_plain
 have GR_L_plain:=GR2
 have GR3:FnOk P w K mg base CX0 4 f fd ["_law_thing"] (spF K F3_L_plain):=by
  refine fn_F F sc_L_plain fun cdv A outer s H E hr=>?_
  have hu:=hu_of hr
  exact (fs_cons (fs_if (ft_val (fp_isiB isi_tuple isiB_tuple g_isinstance g_tuple (fp_var 0))) (fs_one (fs_ret (fp_all rfl g_all (fp_comp (M:=["_law_part"]) (js:=[none]) (is:=[0]) (compScope_mk (N:=["_law_thing"]) (osc:=defScope s_L_plain) rfl rfl rfl (by decide +kernel)) rfl (fi_seq (fp_var 0)) (by decide) fun s3 H3 fp=>⟨(fg_name 0 (show (["_law_part"]:List Str).Nodup by decide +kernel)),fts_nil,(fp_call GR_L_plain (hr.mono (by decide)) m_L_plain k_L_plain b_L_plain (fa_cons (fp_var 0) fa_nil))⟩)))) fs_nil) (fs_one (fs_ret (fp_and (fp_isIS g_isinstance g_int g_str (fp_var 0)) (fp_one (fp_not (fp_isi isi_bool g_isinstance g_bool (fp_var 0))))))))
 clear GR_L_plain
 have GR_L_plain:=GR3
 refine fn_F F sc_L_plain fun cdv A outer s H E hr=>?_
 have hu:=hu_of hr
 exact (fs_cons (fs_if (ft_val (fp_isiB isi_tuple isiB_tuple g_isinstance g_tuple (fp_var 0))) (fs_one (fs_ret (fp_all rfl g_all (fp_comp (M:=["_law_part"]) (js:=[none]) (is:=[0]) (compScope_mk (N:=["_law_thing"]) (osc:=defScope s_L_plain) rfl rfl rfl (by decide +kernel)) rfl (fi_seq (fp_var 0)) (by decide) fun s3 H3 fp=>⟨(fg_name 0 (show (["_law_part"]:List Str).Nodup by decide +kernel)),fts_nil,(fp_call GR_L_plain (hr.mono (by decide)) m_L_plain k_L_plain b_L_plain (fa_cons (fp_var 0) fa_nil))⟩)))) fs_nil) (fs_one (fs_ret (fp_and (fp_isIS g_isinstance g_int g_str (fp_var 0)) (fp_one (fp_not (fp_isi isi_bool g_isinstance g_bool (fp_var 0))))))))
abbrev s_law:Stmt:=top 28
theorem sc_law:FnScope ["_law_script","_law_row","_law_line","_law_found"] ["_law_script"] (defScope s_law):=⟨rfl,rfl,rfl,by decide +kernel,rfl,by decide +kernel,by decide +kernel⟩
def B_law:SF:=(sSeq (sFor (iSeqF (eCall F_L_rows (aCons (eVar 0) aNil))) (gN 1) (sSeq (sSet 2 (eCall F_L_text (aCons (eVar 1) aNil))) (sSeq (sIf (tV (e2 oNe (eCall F_shown_row (aCons (eVar 1) aNil)) (eVar 2))) (sRet (eC (.bl false))) sNx) (sSeq (sSet 3 (eCall F_read_row (aCons (eVar 2) aNil))) (sIf (tOr2 (tNot1 (tV (e1 (oIsiB "tuple") (eVar 3)))) (tOr2 (tNot1 (tV (eCall F_L_plain (aCons (eVar 3) aNil)))) (tV (e2 oNeP (eVar 3) (eVar 1))))) (sRet (eC (.bl false))) sNx))))) (sRet (eC (.bl true))))
def F_law:List D→Option D:=runF 1 4 B_law
theorem ok_law (g_isinstance:mg "isinstance"=none) (g_tuple:mg "tuple"=none) (W_L_rows:FN P w K mg base CX0 5 "_law_rows" ["_law_script"] (spF K F_L_rows)) (W_L_text:FN P w K mg base CX0 2 "_law_text" ["_law_row"] (spF K F_L_text)) (W_shown_row:FN P w K mg base CX0 3 "shown_row" ["row"] (spF K F_shown_row)) (W_read_row:FN P w K mg base CX0 6 "read_row" ["text"] (spF K F_read_row)) (W_L_plain:FN P w K mg base CX0 5 "_law_plain" ["_law_thing"] (spF K F_L_plain)) (F:Fun K "law" "law" s_law f fd):FnOk P w K mg base CX0 7 f fd ["_law_script"] (spF K F_law):=by
 obtain ⟨_,_,G_L_rows,m_L_rows,k_L_rows,b_L_rows⟩:=W_L_rows
 obtain ⟨_,_,G_L_text,m_L_text,k_L_text,b_L_text⟩:=W_L_text
 obtain ⟨_,_,G_shown_row,m_shown_row,k_shown_row,b_shown_row⟩:=W_shown_row
 obtain ⟨_,_,G_read_row,m_read_row,k_read_row,b_read_row⟩:=W_read_row
 obtain ⟨_,_,G_L_plain,m_L_plain,k_L_plain,b_L_plain⟩:=W_L_plain
 have sc:=sc_law
 refine fn_F F sc_law fun cdv A outer s H E hr=>?_
 have hu:=hu_of hr
 exact (fs_cons (fs_for rfl (fi_seq (fp_call G_L_rows (hr.mono (by decide)) m_L_rows k_L_rows b_L_rows (fa_cons (fp_var 0) fa_nil))) (fg_name 1 sc.nd) (fs_cons (fs_set 2 (fp_call G_L_text (hr.mono (by decide)) m_L_text k_L_text b_L_text (fa_cons (fp_var 1) fa_nil)) sc.nd) (fs_cons (fs_if (ft_ne (fp_call G_shown_row (hr.mono (by decide)) m_shown_row k_shown_row b_shown_row (fa_cons (fp_var 1) fa_nil)) (fp_var 2)) (fs_one (fs_ret fp_bl)) fs_nil) (fs_cons (fs_set 3 (fp_call G_read_row (hr.mono (by decide)) m_read_row k_read_row b_read_row (fa_cons (fp_var 2) fa_nil)) sc.nd) (fs_one (fs_if (FW.ft (fw_or (ft_not (ft_val (fp_isiB isi_tuple isiB_tuple g_isinstance g_tuple (fp_var 3)))) (fw_or (ft_not (ft_val (fp_call G_L_plain (hr.mono (by decide)) m_L_plain k_L_plain b_L_plain (fa_cons (fp_var 3) fa_nil)))) (fw_or1 (ft_neP hr.units (fp_var 3) (fp_var 1)))))) (fs_one (fs_ret fp_bl)) fs_nil)))))) (fs_one (fs_ret fp_bl)))
end K71
namespace K71
open PySem L2 L2.Ev
theorem size_le {n:Nat} (h:n≤10000):n < sizeLine:=by unfold sizeLine;omega
theorem small_of_le {i:Int} (h1:-1000≤i) (h2:i≤1000):small i=true:=by
 unfold small
 rw [decide_eq_true (show -(2 ^ 62)≤i by omega),decide_eq_true (show i < 2 ^ 62 by omega)];rfl
def iL (l:List Int):D:=.lst (l.map D.int)
def iT (l:List Int):D:=.tup (l.map D.int)
theorem cmul_b {i j:Int} (h:-(2 ^ 64) < i∧i < 2 ^ 64):cMul i j=true:=by unfold cMul;rw [decide_eq_true h.1,decide_eq_true h.2];rfl
theorem cmul_r {i j:Int} (h:-(2 ^ 64) < j∧j < 2 ^ 64):cMul i j=true:=by unfold cMul;rw [decide_eq_true h.1,decide_eq_true h.2];simp
theorem f_cell {ns:List Int}{k:Int} (h0:0≤k):∃ v,F_L_cell_at [dI ns,.int k]=some (.int v):=by
 have hl:e1 oLen (eVar 0) [some (dI ns,.sh []),some (.int k,.sh [])]=some (.int ns.length,.own):=by
  have v0:eVar 0 [some (dI ns,.sh []),some (.int k,.sh [])]=some (.fls (ns.map D.int),.sh []):=rfl
  rw [s_e1,v0,s_k1,s_lenF,List.length_map];rfl
 have ht:tV (e2 oLt (eVar 1) (e1 oLen (eVar 0))) [some (dI ns,.sh []),some (.int k,.sh [])]=some (decide (k < (ns.length:Int))):=by
  have v1:eVar 1 [some (dI ns,.sh []),some (.int k,.sh [])]=some (.int k,.sh []):=rfl
  rw [s_tV,s_e2,v1,hl,s_k2,s_oLt];rfl
 by_cases h:k < (ns.length:Int)
 ·refine ⟨ns[k.toNat]'(by omega),runF_rt rfl ?_⟩
  show B_L_cell_at [some (dI ns,.sh []),some (.int k,.sh [])]=_
  have hx:e2 oIx (eVar 0) (eVar 1) [some (dI ns,.sh []),some (.int k,.sh [])]=some (.int (ns[k.toNat]'(by omega)),.own):=by
   rw [s_e2]
   show k2 oIx (some (.fls (ns.map D.int),.sh [])) (some (.int k,.sh []))=_
   rw [s_k2]
   have:oIx (.fls (ns.map D.int)) (.int k)=some (.int (ns[k.toNat]'(by omega))):=by
    show ((atI (ns.map D.int) k).bind fun d=>if imm d=true then some d else none)=_
    unfold atI ixN
    rw [List.length_map,if_pos (by omega),if_pos (by omega),Option.bind_some,List.getElem?_map,List.getElem?_eq_getElem (by omega)];rfl
   rw [this];rfl
  unfold B_L_cell_at
  rw [s_seq,s_if,ht,decide_eq_true h,s_ifT,s_ret,hx];rfl
 ·refine ⟨0,runF_rt rfl ?_⟩
  show B_L_cell_at [some (dI ns,.sh []),some (.int k,.sh [])]=_
  unfold B_L_cell_at
  rw [s_seq,s_if,ht,decide_eq_false h,s_ifF,s_nx,s_seqN];rfl
theorem f_mixed {n p m:Int} (hp:0 < p) (hm:0 < m):∃ v,F_L_mixed [.int n,.int p,.int m]=some (.int v)∧0≤v∧v < m:=by
 refine ⟨n % 1000003 * 48271 % p % m,runF_rt rfl ?_,Int.emod_nonneg _ (by omega),Int.emod_lt_of_pos _ hm⟩
 show B_L_mixed [some (.int n,.sh []),some (.int p,.sh []),some (.int m,.sh [])]=_
 have v0:eVar 0 [some (.int n,.sh []),some (.int p,.sh []),some (.int m,.sh [])]=some (.int n,.sh []):=rfl
 have v1:eVar 1 [some (.int n,.sh []),some (.int p,.sh []),some (.int m,.sh [])]=some (.int p,.sh []):=rfl
 have v2:eVar 2 [some (.int n,.sh []),some (.int p,.sh []),some (.int m,.sh [])]=some (.int m,.sh []):=rfl
 unfold B_L_mixed
 rw [s_ret,s_e2,s_e2,s_e2,s_e2,v0,v1,v2,s_eC,s_eC,s_k2,s_oMod (by omega),s_map,s_k2,s_oMul (cmul_r (by omega)),s_map,s_k2,s_oMod hp,s_map,s_k2,s_oMod hm];rfl
theorem mxd {ρ:Rho}{fn fp fm:EF}{n p m:Int}{t1 t2 t3:Tag} (h1:fn ρ=some (.int n,t1)) (h2:fp ρ=some (.int p,t2)) (h3:fm ρ=some (.int m,t3)) (hp:0 < p) (hm:0 < m):∃ v,eCall F_L_mixed (aCons fn (aCons fp (aCons fm aNil))) ρ=some (.int v,.own)∧0≤v∧v < m:=by
 obtain ⟨v,e,a,b⟩:=f_mixed (n:=n) hp hm
 refine ⟨v,?_,a,b⟩
 rw [s_call,s_aCons,s_aCons,s_aCons,h1,h2,h3,s_aNil,s_consK,s_consK,s_consK,s_bind]
 simp only [List.map_cons,List.map_nil]
 rw [e];rfl
def Nm (v:Int):Prop:=0≤v∧v < 1000000000000
def rN (ns:List Int) (k c w:Int):Rho:=[some (dI ns,.sh []),some (.int k,.sh []),some (.int c,.own),some (.int w,.own)]
theorem f_number {ns:List Int}{k:Int} (h0:0≤k) (h1:k≤1000):∃ v,F_L_number [dI ns,.int k]=some (.int v)∧Nm v:=by
 have hk:=Int.emod_nonneg k (show (62:Int)≠0 by omega)
 obtain ⟨c,fc⟩:=f_cell (ns:=ns) (k:=1 + k % 62) (by omega)
 have q1:sSet 2 (eCall F_L_cell_at (aCons (eVar 0) (aCons (e2 oAdd (eC (.int 1)) (e2 oMod (eVar 1) (eC (.int 62)))) aNil))) [some (dI ns,.sh []),some (.int k,.sh []),none,none]=some (.nx [some (dI ns,.sh []),some (.int k,.sh []),some (.int c,.own),none]):=by
  have v0:eVar 0 [some (dI ns,.sh []),some (.int k,.sh []),none,none]=some (dI ns,.sh []):=rfl
  have v1:eVar 1 [some (dI ns,.sh []),some (.int k,.sh []),none,none]=some (.int k,.sh []):=rfl
  rw [s_set,s_call,s_aCons,s_aCons,v0,s_aNil,s_e2,s_e2,v1,s_eC,s_eC,s_k2,s_oMod (by omega),s_map,s_k2,s_oAdd,s_map,s_consK,s_consK,s_bind]
  simp only [List.map_cons,List.map_nil]
  rw [fc];rfl
 have ha:∀ s3,e2 oAdd (eVar 2) (eVar 1) [some (dI ns,.sh []),some (.int k,.sh []),some (.int c,.own),s3]=some (.int (c + k),.own):=fun _=>rfl
 obtain ⟨w,q2',w0,w1⟩:=mxd (ρ:=[some (dI ns,.sh []),some (.int k,.sh []),some (.int c,.own),none]) (fn:=e2 oAdd (eVar 2) (eVar 1)) (fp:=eC (.int 10007)) (fm:=eC (.int 5)) (p:=10007) (m:=5) (t2:=.own) (t3:=.own) (ha _) rfl rfl (by omega) (by omega)
 have q2:sSet 3 (eCall F_L_mixed (aCons (e2 oAdd (eVar 2) (eVar 1)) (aCons (eC (.int 10007)) (aCons (eC (.int 5)) aNil)))) [some (dI ns,.sh []),some (.int k,.sh []),some (.int c,.own),none]=some (.nx (rN ns k c w)):=by
  rw [s_set,q2'];rfl
 have t0:tV (e2 oEq (eVar 3) (eC (.int 0))) (rN ns k c w)=some (w == 0):=rfl
 have t1:tV (e2 oEq (eVar 3) (eC (.int 1))) (rN ns k c w)=some (w == 1):=rfl
 have hp12:e2 oPow (eC (.int 10)) (eC (.int 12)) (rN ns k c w)=some (.int 1000000000000,.own):=by kernel_rfl
 have hp11:e2 oPow (eC (.int 10)) (eC (.int 11)) (rN ns k c w)=some (.int 100000000000,.own):=by kernel_rfl
 by_cases h:(w == 0)=true
 ·refine ⟨(c + k) % 1000000000000,runF_rt rfl ?_,Int.emod_nonneg _ (by omega),Int.emod_lt_of_pos _ (by omega)⟩
  show B_L_number [some (dI ns,.sh []),some (.int k,.sh []),none,none]=_
  unfold B_L_number
  rw [s_seq,q1,s_seqN,s_seq,q2,s_seqN,s_seq,s_if,t0,h,s_ifT,s_ret,s_e2,hp12]
  show retK (k2 oMod (some (.int (c + k),.own)) (some (.int 1000000000000,.own)))=_
  rw [s_k2,s_oMod (by omega)];rfl
 ·have h:(w == 0)=false:=by simpa using h
  by_cases h1':(w == 1)=true
  ·obtain ⟨i,qi,i0,i1⟩:=mxd (ρ:=rN ns k c w) (fn:=e2 oAdd (eVar 2) (eVar 1)) (fp:=eC (.int 20011)) (fm:=eC (.int 5)) (p:=20011) (m:=5) (t2:=.own) (t3:=.own) (ha _) rfl rfl (by omega) (by omega)
   have el:eLstI (aCons (eC (.int 0)) (aCons (eC (.int 9)) (aCons (eC (.int 10)) (aCons (e2 oPow (eC (.int 10)) (eC (.int 11))) (aCons (e2 oSub (e2 oPow (eC (.int 10)) (eC (.int 12))) (eC (.int 1))) aNil))))) (rN ns k c w)=some (.lst [.int 0,.int 9,.int 10,.int 100000000000,.int 999999999999],.own):=by kernel_rfl
   have fin:∀ v,atI [D.int 0,.int 9,.int 10,.int 100000000000,.int 999999999999] i=some (.int v)→F_L_number [dI ns,.int k]=some (.int v):=fun v hv=>by
    refine runF_rt rfl ?_
    show B_L_number [some (dI ns,.sh []),some (.int k,.sh []),none,none]=_
    unfold B_L_number
    rw [s_seq,q1,s_seqN,s_seq,q2,s_seqN,s_seq,s_if,t0,h,s_ifF,s_nx,s_seqN,s_seq,s_if,t1,h1',s_ifT,s_ret]
    unfold eIxO
    rw [el,qi]
    dsimp only
    rw [hv];rfl
   have ci:i=0∨i=1∨i=2∨i=3∨i=4:=by omega
   rcases ci with rfl | rfl | rfl | rfl | rfl
   ·exact ⟨0,fin 0 rfl,by unfold Nm;omega⟩
   ·exact ⟨9,fin 9 rfl,by unfold Nm;omega⟩
   ·exact ⟨10,fin 10 rfl,by unfold Nm;omega⟩
   ·exact ⟨100000000000,fin _ rfl,by unfold Nm;omega⟩
   ·exact ⟨999999999999,fin _ rfl,by unfold Nm;omega⟩
  ·have h1':(w == 1)=false:=by simpa using h1'
   obtain ⟨i,qi,i0,i1⟩:=mxd (ρ:=rN ns k c w) (fn:=e2 oAdd (eVar 2) (eVar 1)) (fp:=eC (.int 30011)) (fm:=eC (.int 4)) (p:=30011) (m:=4) (t2:=.own) (t3:=.own) (ha _) rfl rfl (by omega) (by omega)
   have hsq:e2 oAdd (eVar 2) (e2 oMul (eVar 1) (eVar 1)) (rN ns k c w)=some (.int (c + k * k),.own):=by
    rw [s_e2,s_e2]
    show k2 oAdd (some (.int c,.sh [2])) (k2 oMul (some (.int k,.sh [])) (some (.int k,.sh [])))=_
    rw [s_k2 (op2:=oMul),s_oMul (cmul_b (by omega))];rfl
   have hm:∃ m:Int,(0 < m∧m≤10000)∧e2 oIx (eLstI (aCons (eC (.int 10)) (aCons (eC (.int 100)) (aCons (eC (.int 1000)) (aCons (eC (.int 10000)) aNil))))) (eCall F_L_mixed (aCons (e2 oAdd (eVar 2) (eVar 1)) (aCons (eC (.int 30011)) (aCons (eC (.int 4)) aNil)))) (rN ns k c w)=some (.int m,.own):=by
    have el:eLstI (aCons (eC (.int 10)) (aCons (eC (.int 100)) (aCons (eC (.int 1000)) (aCons (eC (.int 10000)) aNil)))) (rN ns k c w)=some (.lst [.int 10,.int 100,.int 1000,.int 10000],.own):=rfl
    rw [s_e2,el,qi,s_k2]
    have ci:i=0∨i=1∨i=2∨i=3:=by omega
    rcases ci with rfl | rfl | rfl | rfl
    ·exact ⟨10,by omega,rfl⟩
    ·exact ⟨100,by omega,rfl⟩
    ·exact ⟨1000,by omega,rfl⟩
    ·exact ⟨10000,by omega,rfl⟩
   obtain ⟨m,hm0,qm⟩:=hm
   obtain ⟨v,qv,v0,v1⟩:=mxd (ρ:=rN ns k c w) (fp:=eC (.int 131071)) (p:=131071) (m:=m) (t2:=.own) hsq rfl qm (by omega) (by omega)
   refine ⟨v,runF_rt rfl ?_,by unfold Nm;omega⟩
   show B_L_number [some (dI ns,.sh []),some (.int k,.sh []),none,none]=_
   unfold B_L_number
   rw [s_seq,q1,s_seqN,s_seq,q2,s_seqN,s_seq,s_if,t0,h,s_ifF,s_nx,s_seqN,s_seq,s_if,t1,h1',s_ifF,s_nx,s_seqN,s_ret,qv];rfl
def num (ns:List Int) (k:Int):Int:=match F_L_number [dI ns,.int k] with
 | some (.int v)=>v
 | _=>0
theorem f_num {ns:List Int}{k:Int} (h0:0≤k) (h1:k≤1000):F_L_number [dI ns,.int k]=some (.int (num ns k))∧Nm (num ns k):=by
 obtain ⟨v,e,h⟩:=f_number (ns:=ns) h0 h1
 unfold num
 rw [e]
 exact ⟨rfl,h⟩
def rng (a:Int) (n:Nat):List Int:=(List.range n).map fun i:Nat=>a + (i:Int)
theorem mem_rng {a x:Int}{n:Nat}:x∈rng a n↔a≤x∧x < a + n:=by
 unfold rng
 rw [List.mem_map]
 constructor
 ·rintro ⟨i,m,rfl⟩
  have:=List.mem_range.mp m
  omega
 ·intro h
  exact ⟨(x - a).toNat,List.mem_range.mpr (by omega),by omega⟩
theorem rng_len {a:Int}{n:Nat}:(rng a n).length=n:=by unfold rng;rw [List.length_map,List.length_range]
theorem ir1' {e:EF}{ρ:Rho}{n:Nat}{t:Tag} (h:e ρ=some (.int n,t)) (hs:n≤1000):iR1 e ρ=some ((rng 0 n).map D.int,.own):=by
 rw [ir1 h (small_of_le (by omega) (by omega)),Int.toNat_natCast]
 unfold rng
 rw [List.map_map];rfl
theorem c_map {α:Type}{js:List (Option Nat)}{it:IF}{g:GF}{te:EF}{ρ:Rho}{t:Tag}{l:List α}{i:α→D}{f:α→D} (hi:it ρ=some (l.map i,t)) (hl:l.length≤10000) (h:∀ x∈l,compE g tTrue te (iniR js ρ) (i x)=some (some (f x))) :
  eComp js it g tTrue te ρ=some (.lst (l.map f),.own):=by
 have hd:∀ d∈l.map i,compE g tTrue te (iniR js ρ) d=some ((compE g tTrue te (iniR js ρ) d).getD none):=fun d m=>by
  obtain ⟨x,mx,rfl⟩:=List.mem_map.mp m
  rw [h x mx];rfl
 have hc:=comp_ok (js:=js) (g:=g) (tt:=tTrue) (te:=te) (k:=fun d=>(compE g tTrue te (iniR js ρ) d).getD none) hi (by rw [List.length_map];exact size_le hl) hd
 rw [hc]
 congr 3
 clear hc hd hi hl
 induction l with
 | nil=>rfl
 | cons a r ih=>
  rw [List.map_cons,List.filterMap_cons,h a List.mem_cons_self]
  exact congrArg (f a::·) (ih fun x m=>h x (List.mem_cons_of_mem _ m))
def nums (ns:List Int) (k:Int) (n:Nat):List Int:=(rng 0 n).map fun i=>num ns (k + i)
theorem f_numbers {ns:List Int}{k:Int}{n:Nat} (h0:0≤k) (h1:k + n≤1000):F_L_numbers [dI ns,.int k,.int n]=some (iL (nums ns k n)):=by
 refine runF_rt rfl ?_
 show B_L_numbers [some (dI ns,.sh []),some (.int k,.sh []),some (.int n,.sh [])]=_
 have hc:=c_map (js:=[none,some 0,some 1]) (g:=gN 0) (te:=eCall F_L_number (aCons (eVar 1) (aCons (e2 oAdd (eVar 2) (eVar 0)) aNil))) (i:=D.int) (f:=fun x=>D.int (num ns (k + x))) (ir1' (e:=eVar 2) (ρ:=[some (dI ns,.sh []),some (.int k,.sh []),some (.int n,.sh [])]) (n:=n) (t:=.sh []) rfl (by omega)) (by rw [rng_len];omega) (fun x mx=>by
  obtain ⟨x0,x1⟩:=mem_rng.mp mx
  refine compE_own (ρ1:=[some (.int x,.sh []),some (dI ns,.sh []),some (.int k,.sh [])]) rfl rfl ?_
  have hg:aCons (eVar 1) (aCons (e2 oAdd (eVar 2) (eVar 0)) aNil) [some (.int x,.sh []),some (dI ns,.sh []),some (.int k,.sh [])]=some [(dI ns,.sh []),(.int (k + x),.own)]:=rfl
  rw [s_call,hg,s_bind]
  simp only [List.map_cons,List.map_nil]
  rw [(f_num (by omega) (by omega)).1];rfl)
 unfold B_L_numbers
 rw [s_ret,hc]
 unfold iL nums
 rw [List.map_map];rfl
theorem nums_len {ns:List Int}{k:Int}{n:Nat}:(nums ns k n).length=n:=by unfold nums;rw [List.length_map,rng_len]
theorem nums_nm {ns:List Int}{k:Int}{n:Nat} (h0:0≤k) (h1:k + n≤1000):∀ v∈nums ns k n,Nm v:=fun v m=>by
 unfold nums at m
 obtain ⟨x,mx,rfl⟩:=List.mem_map.mp m
 obtain ⟨x0,x1⟩:=mem_rng.mp mx
 exact (f_num (by omega) (by omega)).2
abbrev Ed:=Int×Int×Int
def dT (p:Ed):D:=.tup [.int p.1,.int p.2.1,.int p.2.2]
theorem imm_ed (p:Ed):imm (dT p)=true:=rfl
theorem imm_eds:∀ E:List Ed,immAll (E.map dT)=true
 | []=>rfl
 | p::r=>by rw [List.map_cons];unfold immAll;rw [imm_eds r];rfl
theorem ix_int {l:List Int}{i:Nat} (h:i < l.length):oIx (iL l) (.int i)=some (.int l[i]):=by
 refine s_ixL ?_ rfl
 unfold atI ixN
 rw [List.length_map,if_pos (by omega),if_pos (by omega),Option.bind_some,List.getElem?_map,Int.toNat_natCast,List.getElem?_eq_getElem h];rfl
theorem ir3 {fa fb:EF}{ρ:Rho}{n:Nat}{t1 t2:Tag} (h1:fa ρ=some (.int 0,t1)) (h2:fb ρ=some (.int (3 * n:Nat),t2)) (hn:n≤100):iR3 fa fb 3 ρ=some ((List.range n).map fun i:Nat=>D.int (0 + i * 3),.own):=by
 unfold iR3
 rw [h1,h2]
 dsimp only
 have hsz:Builtin.Range.rangeSize 0 ((3 * n:Nat):Int) 3=n:=by
  unfold Builtin.Range.rangeSize
  rw [if_pos (by decide)]
  split <;> omega
 have hs:Builtin.Range.small 0 ((3 * n:Nat):Int) 3=true:=by
  unfold Builtin.Range.small
  rw [hsz]
  have fits:∀ i:Int,-1000≤i→i≤1000→Builtin.Range.rangeFitsLong i=true:=fun i h1 h2=>by
   unfold Builtin.Range.rangeFitsLong
   simp
   omega
  rw [fits 0 (by omega) (by omega),fits _ (by omega) (by omega),fits 3 (by omega) (by omega),fits n (by omega) (by omega),if_pos (by decide),fits _ (by omega) (by omega),Bool.or_true];rfl
 rw [if_pos (by rw [hs];rfl),hsz,Int.toNat_natCast]
def edOf (l:List Int) (j:Nat):Ed:=(l.getD (3 * j) 0,l.getD (3 * j + 1) 0,l.getD (3 * j + 2) 0)
def edsOf (l:List Int) (n:Nat):List Ed:=(List.range n).map (edOf l)
structure AskR (r:Int) (leans:List Int) (E:List Ed):Prop where
 r:Nm r
 l:∀ v∈leans,Nm v
 ll:leans.length≤8
 e:∀ p∈E,Nm p.1∧Nm p.2.1∧Nm p.2.2
 el:E.length≤20
def askD (r:Int) (leans:List Int) (E:List Ed):D:=.tup [.str "ask",.int r,iT leans,.tup (E.map dT)]
theorem getD_mem {l:List Int}{i:Nat} (h:i < l.length):l.getD i 0∈l:=by
 rw [List.getD_eq_getElem?_getD,List.getElem?_eq_getElem h]
 exact List.getElem_mem h
theorem ixd {l:List Int}{i:Int}{j:Nat} (hi:i=j) (h:j < l.length):oIx (iL l) (.int i)=some (.int (l.getD j 0)):=by
 subst hi
 rw [ix_int h,List.getD_eq_getElem?_getD,List.getElem?_eq_getElem h];rfl
theorem f_asks (ns:List Int):∃ r leans E,F_L_asks [dI ns]=some (askD r leans E)∧AskR r leans E:=by
 obtain ⟨c,fc⟩:=f_cell (ns:=ns) (k:=0) (by omega)
 have q1:sSet 1 (eCall F_L_cell_at (aCons (eVar 0) (aCons (eC (.int 0)) aNil))) [some (dI ns,.sh []),none,none,none,none]=some (.nx [some (dI ns,.sh []),some (.int c,.own),none,none,none]):=by
  have hg:aCons (eVar 0) (aCons (eC (.int 0)) aNil) [some (dI ns,.sh []),none,none,none,none]=some [(dI ns,.sh []),(.int 0,.own)]:=rfl
  rw [s_set,s_call,hg,s_bind]
  simp only [List.map_cons,List.map_nil]
  rw [fc];rfl
 obtain ⟨a,qa,a0,a1⟩:=mxd (ρ:=[some (dI ns,.sh []),some (.int c,.own),none,none,none]) (fn:=eVar 1) (fp:=eC (.int 10007)) (fm:=eC (.int 9)) (n:=c) (p:=10007) (m:=9) (t1:=.sh [1]) (t2:=.own) (t3:=.own) rfl rfl rfl (by omega) (by omega)
 obtain ⟨m,rfl⟩:∃ m:Nat,a=m:=⟨a.toNat,by omega⟩
 have q2:sSet 2 (eCall F_L_numbers (aCons (eVar 0) (aCons (eC (.int 1)) (aCons (eCall F_L_mixed (aCons (eVar 1) (aCons (eC (.int 10007)) (aCons (eC (.int 9)) aNil)))) aNil)))) [some (dI ns,.sh []),some (.int c,.own),none,none,none]=some (.nx [some (dI ns,.sh []),some (.int c,.own),some (iL (nums ns 1 m),.own),none,none]):=by
  have v0:eVar 0 [some (dI ns,.sh []),some (.int c,.own),none,none,none]=some (dI ns,.sh []):=rfl
  rw [s_set,s_call,s_aCons,s_aCons,s_aCons,v0,qa,s_eC,s_aNil,s_consK,s_consK,s_consK,s_bind]
  simp only [List.map_cons,List.map_nil]
  rw [f_numbers (by omega) (by omega)];rfl
 obtain ⟨b,qb,b0,b1⟩:=mxd (ρ:=[some (dI ns,.sh []),some (.int c,.own),some (iL (nums ns 1 m),.own),none,none]) (fn:=eVar 1) (fp:=eC (.int 30011)) (fm:=eC (.int 2)) (n:=c) (p:=30011) (m:=2) (t1:=.sh [1]) (t2:=.own) (t3:=.own) rfl rfl rfl (by omega) (by omega)
 have hk:∃ k:Int,(0 < k∧k≤21)∧e2 oIx (eLstI (aCons (eC (.int 4)) (aCons (eC (.int 21)) aNil))) (eCall F_L_mixed (aCons (eVar 1) (aCons (eC (.int 30011)) (aCons (eC (.int 2)) aNil)))) [some (dI ns,.sh []),some (.int c,.own),some (iL (nums ns 1 m),.own),none,none]=some (.int k,.own):=by
  have el:eLstI (aCons (eC (.int 4)) (aCons (eC (.int 21)) aNil)) [some (dI ns,.sh []),some (.int c,.own),some (iL (nums ns 1 m),.own),none,none]=some (.lst [.int 4,.int 21],.own):=rfl
  rw [s_e2,el,qb,s_k2]
  have ci:b=0∨b=1:=by omega
  rcases ci with rfl | rfl
  ·exact ⟨4,by omega,rfl⟩
  ·exact ⟨21,by omega,rfl⟩
 obtain ⟨k,hk0,qk⟩:=hk
 obtain ⟨d,qd,d0,d1⟩:=mxd (ρ:=[some (dI ns,.sh []),some (.int c,.own),some (iL (nums ns 1 m),.own),none,none]) (fn:=eVar 1) (fp:=eC (.int 20011)) (n:=c) (p:=20011) (m:=k) (t1:=.sh [1]) (t2:=.own) rfl rfl qk (by omega) (by omega)
 obtain ⟨e,rfl⟩:∃ e:Nat,d=e:=⟨d.toNat,by omega⟩
 have q3:sSet 3 (eCall F_L_numbers (aCons (eVar 0) (aCons (eC (.int 10)) (aCons (e2 oMul (eC (.int 3)) (eCall F_L_mixed (aCons (eVar 1) (aCons (eC (.int 20011)) (aCons (e2 oIx (eLstI (aCons (eC (.int 4)) (aCons (eC (.int 21)) aNil))) (eCall F_L_mixed (aCons (eVar 1) (aCons (eC (.int 30011)) (aCons (eC (.int 2)) aNil))))) aNil))))) aNil)))) [some (dI ns,.sh []),some (.int c,.own),some (iL (nums ns 1 m),.own),none,none]=some (.nx [some (dI ns,.sh []),some (.int c,.own),some (iL (nums ns 1 m),.own),some (iL (nums ns 10 (3 * e)),.own),none]):=by
  have v0:eVar 0 [some (dI ns,.sh []),some (.int c,.own),some (iL (nums ns 1 m),.own),none,none]=some (dI ns,.sh []):=rfl
  rw [s_set,s_call,s_aCons,s_aCons,s_aCons,v0,s_e2,qd,s_eC,s_eC,s_k2,s_oMul (cmul_b (by omega)),s_map,s_aNil,s_consK,s_consK,s_consK,s_bind]
  simp only [List.map_cons,List.map_nil]
  rw [show (3 * (e:Int))=((3 * e:Nat):Int) by omega,f_numbers (by omega) (by omega)];rfl
 generalize hl1:nums ns 1 m=l1 at *
 generalize hl2:nums ns 10 (3 * e)=l2 at *
 have hn1:∀ v∈l1,Nm v:=by rw [← hl1];exact nums_nm (by omega) (by omega)
 have hn2:∀ v∈l2,Nm v:=by rw [← hl2];exact nums_nm (by omega) (by omega)
 have hs1:l1.length=m:=by rw [← hl1];exact nums_len
 have hs2:l2.length=3 * e:=by rw [← hl2];exact nums_len
 have hlen:e1 oLen (eVar 3) [some (dI ns,.sh []),some (.int c,.own),some (iL l1,.own),some (iL l2,.own),none]=some (.int (3 * e:Nat),.own):=by
  have v3:eVar 3 [some (dI ns,.sh []),some (.int c,.own),some (iL l1,.own),some (iL l2,.own),none]=some (.lst (l2.map D.int),.sh [3]):=rfl
  rw [s_e1,v3,s_k1,s_lenL,List.length_map,hs2];rfl
 have hc:=c_map (js:=[none,some 3]) (it:=iR3 (eC (.int 0)) (e1 oLen (eVar 3)) 3) (g:=gN 0) (te:=eTup (aCons (e2 oIx (eVar 1) (eVar 0)) (aCons (e2 oIx (eVar 1) (e2 oAdd (eVar 0) (eC (.int 1)))) (aCons (e2 oIx (eVar 1) (e2 oAdd (eVar 0) (eC (.int 2)))) aNil)))) (l:=List.range e) (i:=fun j:Nat=>D.int (0 + j * 3)) (f:=fun j=>dT (edOf l2 j)) (ir3 (t1:=.own) rfl hlen (by omega)) (by rw [List.length_range];omega) (fun j mj=>by
  have hj:=List.mem_range.mp mj
  refine compE_imm (ρ1:=[some (.int (0 + j * 3),.sh []),some (iL l2,.sh [])]) (tg:=.own) rfl rfl ?_ (imm_ed _)
  have v1:eVar 1 [some (.int (0 + j * 3),.sh []),some (iL l2,.sh [])]=some (iL l2,.sh []):=rfl
  have v0:eVar 0 [some (.int (0 + j * 3),.sh []),some (iL l2,.sh [])]=some (.int (0 + j * 3),.sh []):=rfl
  have p1:e2 oAdd (eVar 0) (eC (.int 1)) [some (.int (0 + j * 3),.sh []),some (iL l2,.sh [])]=some (.int (0 + j * 3 + 1),.own):=rfl
  have p2:e2 oAdd (eVar 0) (eC (.int 2)) [some (.int (0 + j * 3),.sh []),some (iL l2,.sh [])]=some (.int (0 + j * 3 + 2),.own):=rfl
  have i1:e2 oIx (eVar 1) (eVar 0) [some (.int (0 + j * 3),.sh []),some (iL l2,.sh [])]=some (.int (l2.getD (3 * j) 0),.own):=by rw [s_e2,v1,v0,s_k2,ixd (j:=3 * j) (by omega) (by omega)];rfl
  have i2:e2 oIx (eVar 1) (e2 oAdd (eVar 0) (eC (.int 1))) [some (.int (0 + j * 3),.sh []),some (iL l2,.sh [])]=some (.int (l2.getD (3 * j + 1) 0),.own):=by rw [s_e2,v1,p1,s_k2,ixd (j:=3 * j + 1) (by omega) (by omega)];rfl
  have i3:e2 oIx (eVar 1) (e2 oAdd (eVar 0) (eC (.int 2))) [some (.int (0 + j * 3),.sh []),some (iL l2,.sh [])]=some (.int (l2.getD (3 * j + 2) 0),.own):=by rw [s_e2,v1,p2,s_k2,ixd (j:=3 * j + 2) (by omega) (by omega)];rfl
  rw [s_tup,s_aCons,s_aCons,s_aCons,i1,i2,i3];rfl)
 have q4:sSet 4 (eComp [none,some 3] (iR3 (eC (.int 0)) (e1 oLen (eVar 3)) 3) (gN 0) tTrue (eTup (aCons (e2 oIx (eVar 1) (eVar 0)) (aCons (e2 oIx (eVar 1) (e2 oAdd (eVar 0) (eC (.int 1)))) (aCons (e2 oIx (eVar 1) (e2 oAdd (eVar 0) (eC (.int 2)))) aNil))))) [some (dI ns,.sh []),some (.int c,.own),some (iL l1,.own),some (iL l2,.own),none]=some (.nx [some (dI ns,.sh []),some (.int c,.own),some (iL l1,.own),some (iL l2,.own),some (.lst ((edsOf l2 e).map dT),.own)]):=by
  rw [s_set,hc]
  unfold edsOf
  rw [List.map_map];rfl
 obtain ⟨f0,n0⟩:=f_num (ns:=ns) (k:=0) (by omega) (by omega)
 refine ⟨num ns 0,l1,edsOf l2 e,runF_rt rfl ?_,n0,hn1,by omega,fun p mp=>?_,by unfold edsOf;rw [List.length_map,List.length_range];omega⟩
 ·show B_L_asks [some (dI ns,.sh []),none,none,none,none]=_
  unfold B_L_asks
  rw [s_seq,q1,s_seqN,s_seq,q2,s_seqN,s_seq,q3,s_seqN,s_seq,q4,s_seqN,s_ret]
  generalize hρ:([some (dI ns,.sh []),some (.int c,.own),some (iL l1,.own),some (iL l2,.own),some (.lst ((edsOf l2 e).map dT),.own)]:Rho)=ρ
  have v0:eVar 0 ρ=some (dI ns,.sh []):=by rw [← hρ];rfl
  have v2:eVar 2 ρ=some (.lst (l1.map D.int),.sh [2]):=by rw [← hρ];rfl
  have v4:eVar 4 ρ=some (.lst ((edsOf l2 e).map dT),.sh [4]):=by rw [← hρ];rfl
  have t4:oTuple (.lst ((edsOf l2 e).map dT))=some (.tup ((edsOf l2 e).map dT)):=by
   show (if immAll ((edsOf l2 e).map dT)=true then some (D.tup ((edsOf l2 e).map dT)) else none)=_
   rw [if_pos (imm_eds _)]
  have hcall:eCall F_L_number (aCons (eVar 0) (aCons (eC (.int 0)) aNil)) ρ=some (.int (num ns 0),.own):=by
   rw [s_call,s_aCons,s_aCons,v0,s_eC,s_aNil,s_consK,s_consK,s_bind]
   simp only [List.map_cons,List.map_nil]
   rw [f0];rfl
  rw [s_tup,s_aCons,s_aCons,s_aCons,s_aCons,hcall,s_e1,s_e1,v2,v4,s_k1,s_k1,t4,s_tupI];rfl
 ·unfold edsOf at mp
  obtain ⟨j,mj,rfl⟩:=List.mem_map.mp mp
  have hj:=List.mem_range.mp mj
  exact ⟨hn2 _ (getD_mem (by omega)),hn2 _ (getD_mem (by omega)),hn2 _ (getD_mem (by omega))⟩
inductive Row:D→Prop
 | ask {r leans E}:AskR r leans E→Row (askD r leans E)
 | wd {w}:Nm w→Row (.tup [.str "withdraw",.int w])
 | an {look:List Int}{word:Str}:(∀ v∈look,Nm v)→look≠[]→look.length≤30→(word="yes"∨word="no"∨word="unsure")→Row (.tup [.str "answer",iT look,.str word])
 | st:Row (.tup [.str "stop"])
 | go:Row (.tup [.str "go"])
theorem f_rows (ns:List Int):∃ rows:List D,F_L_rows [dI ns]=some (.lst rows)∧rows.length≤5∧∀ r∈rows,Row r:=by
 obtain ⟨c,fc⟩:=f_cell (ns:=ns) (k:=0) (by omega)
 have q1:sSet 1 (eCall F_L_cell_at (aCons (eVar 0) (aCons (eC (.int 0)) aNil))) [some (dI ns,.sh []),none,none,none,none]=some (.nx [some (dI ns,.sh []),some (.int c,.own),none,none,none]):=by
  have hg:aCons (eVar 0) (aCons (eC (.int 0)) aNil) [some (dI ns,.sh []),none,none,none,none]=some [(dI ns,.sh []),(.int 0,.own)]:=rfl
  rw [s_set,s_call,hg,s_bind]
  simp only [List.map_cons,List.map_nil]
  rw [fc];rfl
 obtain ⟨a,qa,a0,a1⟩:=mxd (ρ:=[some (dI ns,.sh []),some (.int c,.own),none,none,none]) (fn:=eVar 1) (fp:=eC (.int 40009)) (fm:=eC (.int 30)) (n:=c) (p:=40009) (m:=30) (t1:=.sh [1]) (t2:=.own) (t3:=.own) rfl rfl rfl (by omega) (by omega)
 obtain ⟨m,rfl⟩:∃ m:Nat,a=m:=⟨a.toNat,by omega⟩
 have q2:sSet 2 (eCall F_L_numbers (aCons (eVar 0) (aCons (eC (.int 71)) (aCons (e2 oAdd (eC (.int 1)) (eCall F_L_mixed (aCons (eVar 1) (aCons (eC (.int 40009)) (aCons (eC (.int 30)) aNil))))) aNil)))) [some (dI ns,.sh []),some (.int c,.own),none,none,none]=some (.nx [some (dI ns,.sh []),some (.int c,.own),some (iL (nums ns 71 (1 + m)),.own),none,none]):=by
  have v0:eVar 0 [some (dI ns,.sh []),some (.int c,.own),none,none,none]=some (dI ns,.sh []):=rfl
  rw [s_set,s_call,s_aCons,s_aCons,s_aCons,v0,s_e2,qa,s_eC,s_eC,s_k2,s_oAdd,s_map,s_aNil,s_consK,s_consK,s_consK,s_bind]
  simp only [List.map_cons,List.map_nil]
  rw [show (1 + (m:Int))=((1 + m:Nat):Int) by omega,f_numbers (by omega) (by omega)];rfl
 have hn1:∀ v∈nums ns 71 (1 + m),Nm v:=nums_nm (by omega) (by omega)
 have hs1:(nums ns 71 (1 + m)).length=1 + m:=nums_len
 generalize nums ns 71 (1 + m)=l1 at *
 obtain ⟨b,qb,b0,b1⟩:=mxd (ρ:=[some (dI ns,.sh []),some (.int c,.own),some (iL l1,.own),none,none]) (fn:=eVar 1) (fp:=eC (.int 50021)) (fm:=eC (.int 3)) (n:=c) (p:=50021) (m:=3) (t1:=.sh [1]) (t2:=.own) (t3:=.own) rfl rfl rfl (by omega) (by omega)
 have q3:∃ word:Str,(word="yes"∨word="no"∨word="unsure")∧sSet 3 (e2 oIx (eLstI (aCons (eC (.str "yes")) (aCons (eC (.str "no")) (aCons (eC (.str "unsure")) aNil)))) (eCall F_L_mixed (aCons (eVar 1) (aCons (eC (.int 50021)) (aCons (eC (.int 3)) aNil))))) [some (dI ns,.sh []),some (.int c,.own),some (iL l1,.own),none,none]=some (.nx [some (dI ns,.sh []),some (.int c,.own),some (iL l1,.own),some (.str word,.own),none]):=by
  have el:eLstI (aCons (eC (.str "yes")) (aCons (eC (.str "no")) (aCons (eC (.str "unsure")) aNil))) [some (dI ns,.sh []),some (.int c,.own),some (iL l1,.own),none,none]=some (.lst [.str "yes",.str "no",.str "unsure"],.own):=rfl
  rw [s_set,s_e2,el,qb,s_k2]
  have ci:b=0∨b=1∨b=2:=by omega
  rcases ci with rfl | rfl | rfl
  ·exact ⟨"yes",.inl rfl,rfl⟩
  ·exact ⟨"no",.inr (.inl rfl),rfl⟩
  ·exact ⟨"unsure",.inr (.inr rfl),rfl⟩
 obtain ⟨word,hw,q3⟩:=q3
 obtain ⟨f1,n1⟩:=f_num (ns:=ns) (k:=102) (by omega) (by omega)
 generalize num ns 102=w at f1 n1
 have q4:sSet 4 (eTup (aCons (eC (.str "withdraw")) (aCons (eCall F_L_number (aCons (eVar 0) (aCons (eC (.int 102)) aNil))) aNil))) [some (dI ns,.sh []),some (.int c,.own),some (iL l1,.own),some (.str word,.own),none]=some (.nx [some (dI ns,.sh []),some (.int c,.own),some (iL l1,.own),some (.str word,.own),some (.tup [.str "withdraw",.int w],.own)]):=by
  have hg:aCons (eVar 0) (aCons (eC (.int 102)) aNil) [some (dI ns,.sh []),some (.int c,.own),some (iL l1,.own),some (.str word,.own),none]=some [(dI ns,.sh []),(.int 102,.own)]:=rfl
  have hcl:eCall F_L_number (aCons (eVar 0) (aCons (eC (.int 102)) aNil)) [some (dI ns,.sh []),some (.int c,.own),some (iL l1,.own),some (.str word,.own),none]=some (.int w,.own):=by
   rw [s_call,hg,s_bind]
   simp only [List.map_cons,List.map_nil]
   rw [f1];rfl
  rw [s_set,s_tup,s_aCons,s_aCons,hcl];rfl
 obtain ⟨r,leans,E,fa,ar⟩:=f_asks ns
 refine ⟨[askD r leans E,.tup [.str "withdraw",.int w],.tup [.str "answer",iT l1,.str word],.tup [.str "stop"],.tup [.str "go"]],runF_rt rfl ?_,Nat.le_refl 5,fun x m=>?_⟩
 ·show B_L_rows [some (dI ns,.sh []),none,none,none,none]=_
  unfold B_L_rows
  rw [s_seq,q1,s_seqN,s_seq,q2,s_seqN,s_seq,q3,s_seqN,s_seq,q4,s_seqN,s_ret]
  generalize hρ:([some (dI ns,.sh []),some (.int c,.own),some (iL l1,.own),some (.str word,.own),some (.tup [.str "withdraw",.int w],.own)]:Rho)=ρ
  have v0:eVar 0 ρ=some (dI ns,.sh []):=by rw [← hρ];rfl
  have v2:eVar 2 ρ=some (.lst (l1.map D.int),.sh [2]):=by rw [← hρ];rfl
  have v3:eVar 3 ρ=some (.str word,.sh [3]):=by rw [← hρ];rfl
  have v4:eVar 4 ρ=some (.tup [.str "withdraw",.int w],.sh [4]):=by rw [← hρ];rfl
  have hcall:eCall F_L_asks (aCons (eVar 0) aNil) ρ=some (askD r leans E,.own):=by
   rw [s_call,s_aCons,v0,s_aNil,s_consK,s_bind]
   simp only [List.map_cons,List.map_nil]
   rw [fa];rfl
  have him:immAll [askD r leans E,.tup [.str "withdraw",.int w],.tup [.str "answer",iT l1,.str word],.tup [.str "stop"],.tup [.str "go"]]=true:=by
   have h1:imm (askD r leans E)=true:=by
    show immAll [.str "ask",.int r,.tup (leans.map D.int),.tup (E.map dT)]=true
    unfold immAll;unfold immAll;unfold immAll;unfold immAll;unfold immAll
    show (true&&(true&&(immAll (leans.map D.int)&&(immAll (E.map dT)&&true))))=true
    rw [imm_ints,imm_eds];rfl
   have h2:imm (.tup [.str "answer",iT l1,.str word])=true:=by
    show immAll [.str "answer",.tup (l1.map D.int),.str word]=true
    unfold immAll;unfold immAll;unfold immAll;unfold immAll
    show (true&&(immAll (l1.map D.int)&&(true&&true)))=true
    rw [imm_ints];rfl
   unfold immAll;unfold immAll;unfold immAll
   rw [h1,h2];rfl
  unfold eLstI
  rw [s_aCons,s_aCons,s_aCons,s_aCons,s_aCons,hcall,v4,s_tup,s_aCons,s_aCons,s_aCons,s_e1,v2,v3,s_k1,s_tupI]
  show retK (if immAll [askD r leans E,.tup [.str "withdraw",.int w],.tup [.str "answer",iT l1,.str word],.tup [.str "stop"],.tup [.str "go"]]=true then _ else none)=_
  rw [if_pos him];rfl
 ·simp only [List.mem_cons,List.not_mem_nil,or_false] at m
  rcases m with rfl | rfl | rfl | rfl | rfl
  ·exact .ask ar
  ·exact .wd n1
  ·exact .an hn1 (fun e=>by rw [e] at hs1;simp at hs1;omega) (by omega) hw
  ·exact .st
  ·exact .go
abbrev bl:Str:=" "
theorem bl_eq:bl=⟨#[32]⟩:=by kernel_rfl
def Fr (w:Str):Prop:=32∉w.cps.toList
theorem cut_at {a b:List Nat}{u v:List Nat}:32∉a→32∉b→a++32::u=b++32::v→a=b∧u=v:=by
 induction a generalizing b with
 | nil=>
  intro _ hb e
  cases b with
  | nil=>exact ⟨rfl,by simpa using e⟩
  | cons y r=>
   have:(32:Nat)=y:=by have:=congrArg List.head? e;simpa using this
   exact absurd (by rw [this];exact List.mem_cons_self) hb
 | cons x r ih=>
  intro ha hb e
  cases b with
  | nil=>
   have:x=32:=by have:=congrArg List.head? e;simpa using this
   exact absurd (by rw [this];exact List.mem_cons_self) ha
  | cons y r'=>
   rw [List.cons_append,List.cons_append] at e
   obtain ⟨e1,e2⟩:=List.cons.inj e
   obtain ⟨h1,h2⟩:=ih (fun m=>ha (List.mem_cons_of_mem _ m)) (fun m=>hb (List.mem_cons_of_mem _ m)) e2
   exact ⟨by rw [e1,h1],h2⟩
theorem join_two (x y:Str) (r:List Str):(Str.join bl (x::y::r)).cps.toList=x.cps.toList++32::(Str.join bl (y::r)).cps.toList:=by
 show (x++bl++Str.join bl (y::r)).cps.toList=_
 rw [bl_eq,Str.cps_append,Str.cps_append]
 simp
theorem join_inj:∀ {A B:List Str},A≠[]→B≠[]→(∀ w∈A,Fr w)→(∀ w∈B,Fr w)→Str.join bl A=Str.join bl B→A=B
 | [],_,h,_,_,_,_=>absurd rfl h
 | _,[],_,h,_,_,_=>absurd rfl h
 | [a],[b],_,_,_,_,e=>by rw [show a=b from e]
 | [a],b::b'::r,_,_,ha,_,e=>by
  have e:=congrArg (fun s:Str=>s.cps.toList) e
  rw [join_two] at e
  have e:a.cps.toList=b.cps.toList++32::(Str.join bl (b'::r)).cps.toList:=e
  exact absurd (by rw [e];simp) (ha a List.mem_cons_self)
 | a::a'::r,[b],_,_,_,hb,e=>by
  have e:=congrArg (fun s:Str=>s.cps.toList) e
  rw [join_two] at e
  have e:a.cps.toList++32::(Str.join bl (a'::r)).cps.toList=b.cps.toList:=e
  exact absurd (by rw [← e];simp) (hb b List.mem_cons_self)
 | a::a'::r,b::b'::r',_,_,ha,hb,e=>by
  have e:=congrArg (fun s:Str=>s.cps.toList) e
  rw [join_two,join_two] at e
  obtain ⟨e1,e2⟩:=cut_at (ha a List.mem_cons_self) (hb b List.mem_cons_self) e
  have h1:a=b:=Str.ext' (Array.toList_inj.mp e1)
  have h2:Str.join bl (a'::r)=Str.join bl (b'::r'):=Str.ext' (Array.toList_inj.mp e2)
  rw [h1,join_inj (by simp) (by simp) (fun w m=>ha w (List.mem_cons_of_mem _ m)) (fun w m=>hb w (List.mem_cons_of_mem _ m)) h2]
theorem split_ne (x:Str):Txt.split x bl≠[]:=by
 unfold Txt.split
 split
 ·simp
 ·split
  ·simp
  ·rw [StrLaws.partsBetween_eq]
   obtain ⟨p,r,e⟩:=StrLaws.partsFrom_ne x bl.length 0 (Builtin.Str.occurrences x bl 0 x.length (x.length + 1))
   rw [e];simp
theorem split_join {W:List Str} (h:W≠[]) (hf:∀ w∈W,Fr w):Txt.split (Str.join bl W) bl=W:=
 join_inj (split_ne _) h (fun w m=>by
  rw [bl_eq] at m
  exact StrLaws.split_free _ 32 w m) hf (StrLaws.join_split _ _)
def tS (v:Int):Str:=Str.ofString (toString v)
theorem dig_step {m:Nat} (h:¬ m < 10):Nat.toDigits 10 m=Nat.toDigits 10 (m / 10)++[Nat.digitChar (m % 10)]:=by
 have hm:m % 10 < 10:=Nat.mod_lt m (by decide)
 have t:Nat.toDigits 10 (m / 10)++Nat.toDigits 10 (m % 10)=Nat.toDigits 10 (10 * (m / 10) + m % 10):=Nat.toDigits_append_toDigits (by decide) (by omega) hm
 rw [Nat.div_add_mod,Nat.toDigits_of_lt_base hm] at t
 exact t.symm
theorem dig_len:∀ (k m:Nat),m < 10 ^ (k + 1)→(Nat.toDigits 10 m).length≤k + 1∧1≤(Nat.toDigits 10 m).length
 | 0,m,h=>by rw [Nat.toDigits_of_lt_base (by simpa using h)];exact ⟨Nat.le_refl _,Nat.le_refl _⟩
 | k + 1,m,h=>by
  by_cases hm:m < 10
  ·rw [Nat.toDigits_of_lt_base hm];exact ⟨by simp,Nat.le_refl _⟩
  ·have:=dig_len k (m / 10) (by rw [Nat.pow_succ] at h;omega)
   rw [dig_step hm,List.length_append]
   simp
   omega
theorem dig_head:∀ (m:Nat),0 < m→∃ c r,(Nat.toDigits 10 m).map Char.toNat=c::r∧c≠48:=by
 intro m
 induction m using Nat.strongRecOn with
 | _ m ih=>
  intro h
  by_cases hm:m < 10
  ·rw [Nat.toDigits_of_lt_base hm]
   refine ⟨(Nat.digitChar m).toNat,[],rfl,?_⟩
   have hx:m=1∨m=2∨m=3∨m=4∨m=5∨m=6∨m=7∨m=8∨m=9:=by omega
   rcases hx with rfl | rfl | rfl | rfl | rfl | rfl | rfl | rfl | rfl <;> decide
  ·obtain ⟨c,r,e,hc⟩:=ih (m / 10) (by omega) (by omega)
   refine ⟨c,r++[(Nat.digitChar (m % 10)).toNat],?_,hc⟩
   rw [dig_step hm,List.map_append,e];rfl
theorem tS_cps {v:Int} (h:0≤v):(tS v).cps.toList=(Nat.toDigits 10 v.toNat).map Char.toNat:=by
 obtain ⟨m,rfl⟩:=Int.eq_ofNat_of_zero_le h
 rw [Int.toNat_natCast]
 exact PySem.W.KIN.signs_num m
theorem tS_dig {v:Int} (h:0≤v):∀ c∈(tS v).cps.toList,48≤c∧c≤57:=fun c hc=>by
 rw [tS_cps h] at hc
 obtain ⟨ch,hch,e⟩:=List.mem_map.mp hc
 have r:=Nat.isDigit_of_mem_toDigits (by decide) (by decide) hch
 rw [← e]
 unfold Char.isDigit at r
 simp only [Bool.and_eq_true,decide_eq_true_eq] at r
 exact r
theorem tS_len {v:Int} (h:Nm v):1≤(tS v).length∧(tS v).length≤12:=by
 obtain ⟨h0,h1⟩:=h
 have e:(tS v).length=(Nat.toDigits 10 v.toNat).length:=by
  show (tS v).cps.size=_
  rw [← Array.length_toList,tS_cps h0,List.length_map]
 have:=dig_len 11 v.toNat (by omega)
 rw [e]
 omega
theorem tS_int {v:Int} (h:Nm v):PySem.intText? (tS v)=some v:=by
 have hl:=tS_len h
 obtain ⟨h0,h1⟩:=h
 have hne:(tS v).cps.toList≠[]:=fun e=>by
  have:(tS v).cps.toList.length=(tS v).length:=Array.length_toList
  rw [e] at this
  simp at this
  omega
 rw [PySem.intText_digits (tS_dig h0) hne (by omega),tS_cps h0,PySem.W.KIN.val_back]
 congr 1
 omega
theorem tS_fr {v:Int} (h:0≤v):Fr (tS v):=fun m=>by have:=tS_dig h 32 m;omega
abbrev fig:Str:="0123456789"
theorem in_fig {c:Nat} (h:48≤c∧c≤57):oInT (.str ⟨#[c]⟩) (.str fig)=some (.bl true):=by
 show some (D.bl (!(Builtin.Str.occurrences fig ⟨#[c]⟩ 0 fig.length 1).isEmpty))=_
 rw [StrLaws.found_one]
 have:fig.cps.toList=[48,49,50,51,52,53,54,55,56,57]:=by kernel_rfl
 rw [this]
 congr 2
 refine decide_eq_true ?_
 simp only [List.mem_cons,List.not_mem_nil,or_false]
 omega
theorem s_all {bs:List Bool}:oAll (.lst (bs.map D.bl))=some (.bl (bs.all id)):=by
 have e:boolsD (bs.map D.bl)=some bs:=by
  induction bs with
  | nil=>rfl
  | cons b r ih=>rw [List.map_cons];unfold boolsD;rw [ih];rfl
 show (boolsD (bs.map D.bl)).map (fun bs=>D.bl (bs.all id))=_
 rw [e];rfl
theorem starts0 {v:Int} (h:0 < v):Txt.startswith (tS v) "0"=false:=by
 obtain ⟨c,r,e,hc⟩:=dig_head v.toNat (by omega)
 have e2:=tS_cps (v:=v) (by omega)
 rw [e] at e2
 show (decide (0 + (Str.ofString "0").length≤(tS v).length)&&Builtin.Str.subAt (tS v) (Str.ofString "0") 0)=false
 rw [StrLaws.subAt_eq,e2]
 have hz:(Str.ofString "0").cps.toList=[48]:=by kernel_rfl
 have hn:(Str.ofString "0").length=1:=by kernel_rfl
 rw [hz,hn]
 show (_&&([c] == [48]))=false
 rw [show ([c] == [48])=false from by simpa using hc,Bool.and_false]
theorem f_isn {v:Int} (h:Nm v):F_is_number [.str (tS v)]=some (.bl true):=by
 obtain ⟨l1,l2⟩:=tS_len h
 have h0:=h.1
 refine runF_rt rfl ?_
 show B_is_number [some (.str (tS v),.sh [])]=_
 have v0:eVar 0 [some (.str (tS v),.sh [])]=some (.str (tS v),.sh []):=rfl
 have hlen:e1 oLenS (eVar 0) [some (.str (tS v),.sh [])]=some (.int (tS v).length,.own):=by
  rw [s_e1,v0,s_k1]
  show Option.map _ (if (tS v).length≤sizeLine then some (D.int (tS v).length) else none)=_
  rw [if_pos (Nat.le_of_lt (size_le (by omega)))];rfl
 have t1:tV (eChain oLe oLe (eC (.int 1)) (e1 oLenS (eVar 0)) (eC (.int 12))) [some (.str (tS v),.sh [])]=some true:=by
  have:eChain oLe oLe (eC (.int 1)) (e1 oLenS (eVar 0)) (eC (.int 12)) [some (.str (tS v),.sh [])]=some (.bl true,.own):=by
   unfold eChain
   rw [hlen,s_eC]
   show (match oLe (.int 1) (.int (tS v).length) with | some (.bl true)=>(match eC (.int 12) [some (.str (tS v),.sh [])] with | some (d3,_)=>(oLe (.int (tS v).length) d3).map (fun d=>(d,Tag.own)) | none=>none) | some (.bl false)=>some (.bl false,.own) | _=>none)=_
   rw [s_oLe,decide_eq_true (show (1:Int)≤(tS v).length by omega)]
   show (oLe (.int (tS v).length) (.int 12)).map _=_
   rw [s_oLe,decide_eq_true (show ((tS v).length:Int)≤12 by omega)];rfl
  rw [s_tV,this];rfl
 have hasc:(tS v).cps.all (· < 128)=true:=by
  rw [← Array.all_toList]
  exact List.all_eq_true.mpr fun c m=>by have:=tS_dig h0 c m;simpa using (by omega:c < 128)
 have hi:iStrF (eVar 0) [some (.str (tS v),.sh [])]=some ((tS v).cps.toList.map (fun c=>D.str ⟨#[c]⟩),.own):=by
  unfold iStrF
  rw [v0]
  dsimp only
  rw [if_pos hasc];rfl
 have hlen2:(tS v).cps.toList.length=(tS v).length:=Array.length_toList
 have hc:=c_map (js:=[none]) (g:=gN 0) (te:=e2 oInT (eVar 0) (eC (.str "0123456789"))) (f:=fun _=>D.bl true) hi (by omega) (fun c m=>by
  refine compE_own (ρ1:=[some (.str ⟨#[c]⟩,.sh [])]) rfl rfl ?_
  rw [s_e2,s_eC]
  show k2 oInT (some (.str ⟨#[c]⟩,.sh [])) (some (.str fig,.own))=_
  rw [s_k2,in_fig (tS_dig h0 c m)];rfl)
 have t2:tV (e1 oAll (eComp [none] (iStrF (eVar 0)) (gN 0) tTrue (e2 oInT (eVar 0) (eC (.str "0123456789"))))) [some (.str (tS v),.sh [])]=some true:=by
  have e:(tS v).cps.toList.map (fun _=>D.bl true)=((tS v).cps.toList.map fun _=>true).map D.bl:=by rw [List.map_map];rfl
  rw [s_tV,s_e1,hc,s_k1,e,s_all]
  have:((tS v).cps.toList.map fun _=>true).all id=true:=by simp
  rw [this];rfl
 unfold B_is_number
 rw [s_seq,s_if,s_not,s_and2 t1 t2]
 show seqK _ (sNx _)=_
 rw [s_nx,s_seqN,s_ret]
 by_cases hz:v=0
 ·subst hz;kernel_rfl
 ·have hs:=starts0 (v:=v) (by omega)
  have e2':e1 oNot (e2 oStarts (eVar 0) (eC (.str "0"))) [some (.str (tS v),.sh [])]=some (.bl true,.own):=by
   rw [s_e1,s_e2,v0,s_eC,s_k2]
   show k1 oNot ((some (D.bl (Txt.startswith (tS v) "0"))).map _)=_
   rw [hs];rfl
  have e1':e2 oEq (eVar 0) (eC (.str "0")) [some (.str (tS v),.sh [])]=some (.bl (tS v == "0"),.own):=rfl
  unfold eOr
  rw [e1']
  cases (tS v == "0") with
  | true=>rfl
  | false=>
   show retK (e1 oNot (e2 oStarts (eVar 0) (eC (.str "0"))) [some (.str (tS v),.sh [])])=_
   rw [e2'];rfl
def sL (W:List Str):D:=.lst (W.map D.str)
theorem f_rn {v:Int} (h:Nm v):F_read_number [.str (tS v)]=some (.int v):=by
 have hl:=tS_len h
 refine runF_rt rfl ?_
 show B_read_number [some (.str (tS v),.sh [])]=_
 have v0:eVar 0 [some (.str (tS v),.sh [])]=some (.str (tS v),.sh []):=rfl
 have t1:tV (eCall F_is_number (aCons (eVar 0) aNil)) [some (.str (tS v),.sh [])]=some true:=by
  rw [s_tV,s_call,s_aCons,v0,s_aNil,s_consK,s_bind]
  simp only [List.map_cons,List.map_nil]
  rw [f_isn h];rfl
 unfold B_read_number
 rw [s_seq,s_if,s_not,t1]
 show seqK _ (sNx _)=_
 rw [s_nx,s_seqN,s_ret,s_e1,v0,s_k1]
 show retK (Option.map _ (if (tS v).length≤640 then (PySem.intText? (tS v)).map D.int else none))=_
 rw [if_pos (by omega),tS_int h];rfl
theorem f_rns {l:List Int} (h:∀ v∈l,Nm v) (hl:l.length≤10000):F_read_numbers [sL (l.map tS)]=some (iT l):=by
 refine runF_rt rfl ?_
 show B_read_numbers [some (sL (l.map tS),.sh [])]=_
 have hi:iSeqF (eVar 0) [some (sL (l.map tS),.sh [])]=some (l.map (fun v=>D.str (tS v)),.sh []):=by
  show some ((l.map tS).map D.str,Tag.sh [])=_
  rw [List.map_map];rfl
 have hc:=c_map (js:=[none]) (g:=gN 0) (te:=eCall F_read_number (aCons (eVar 0) aNil)) (f:=D.int) hi hl (fun v m=>by
  refine compE_own (ρ1:=[some (.str (tS v),.sh [])]) rfl rfl ?_
  have v0:eVar 0 [some (.str (tS v),.sh [])]=some (.str (tS v),.sh []):=rfl
  rw [s_call,s_aCons,v0,s_aNil,s_consK,s_bind]
  simp only [List.map_cons,List.map_nil]
  rw [f_rn (h v m)];rfl)
 unfold B_read_numbers
 rw [s_ret,s_e1,hc,s_k1,s_tupI];rfl
theorem imm_strs:∀ W:List Str,immAll (W.map D.str)=true
 | []=>rfl
 | n::r=>by rw [List.map_cons];unfold immAll;rw [imm_strs r];rfl
theorem cut_from {ds:List D}{k:Nat} (hk:k≤ds.length):cutD ds (some (k:Int)) none=ds.drop k:=by
 unfold cutD
 rw [HT.sIx_nat,HT.sIx_none,Nat.min_eq_left hk,List.take_of_length_le (by rw [List.length_drop];exact Nat.le_refl _)]
theorem cut1 {ds:List D}:cutD ds (some 1) none=ds.drop 1:=by
 cases ds with
 | nil=>rfl
 | cons a r=>exact cut_from (k:=1) (by simp)
theorem wa_none {W:List Str}{m:Str} (h:m∉W):F_wa [sL W,.str m]=some (sL W):=by
 show (match strsD (W.map D.str) with | some ts=>(match ts.findIdx? (· == m) with | some j=>some (D.lst ((ts.take j).map D.str)) | none=>some (D.lst (W.map D.str))) | none=>none)=_
 have e:strsD (W.map D.str)=some W:=strsD_strs W
 rw [e]
 have:W.findIdx? (· == m)=none:=List.findIdx?_eq_none_iff.mpr fun x mx=>by simpa using fun q=>h (by rw [← q];exact mx)
 dsimp only
 rw [this];rfl
theorem idx_app {A B:List Str}{m:Str} (h:m∉A):(A++m::B).findIdx? (· == m)=some A.length:=by
 rw [List.findIdx?_eq_some_iff_getElem]
 refine ⟨by simp,by simp,fun j hj=>?_⟩
 rw [List.getElem_append_left hj]
 simpa using fun q=>h (by rw [← q];exact List.getElem_mem hj)
theorem wa_at {A B:List Str}{m:Str} (h:m∉A):F_wa [sL (A++m::B),.str m]=some (sL A):=by
 show (match strsD ((A++m::B).map D.str) with | some ts=>(match ts.findIdx? (· == m) with | some j=>some (D.lst ((ts.take j).map D.str)) | none=>some (D.lst ((A++m::B).map D.str))) | none=>none)=_
 have e:strsD ((A++m::B).map D.str)=some (A++m::B):=strsD_strs _
 rw [e]
 dsimp only
 rw [idx_app h]
 dsimp only
 rw [List.take_left];rfl
theorem any_mem {W:List Str}{m:Str}:W.any (· == m)=decide (m∈W):=by
 by_cases h:m∈W
 ·rw [decide_eq_true h];exact List.any_eq_true.mpr ⟨m,h,by simp⟩
 ·rw [decide_eq_false h,Bool.eq_false_iff]
  intro e
  obtain ⟨y,my,ey⟩:=List.any_eq_true.mp e
  exact h (by rw [← (beq_iff_eq.mp ey)];exact my)
theorem t_in {ρ:Rho}{W:List Str}{m:Str}{fa fb:EF}{neg:Bool}{t1 t2:Tag} (h1:fa ρ=some (.str m,t1)) (h2:fb ρ=some (sL W,t2)):tV (e2 (oInS neg) fa fb) ρ=some (if neg=true then !decide (m∈W) else decide (m∈W)):=by
 rw [s_tV,s_e2,h1,h2,s_k2]
 show Ev.kV (((strsD (W.map D.str)).map fun ns=>D.bl (if neg=true then !(ns.any (· == m)) else ns.any (· == m))).map _)=_
 rw [strsD_strs]
 show some (if neg=true then !(W.any (· == m)) else W.any (· == m))=_
 rw [any_mem]
theorem f_nb0 {W:List Str}{m:Str} (h:m∉W):F_numbers_behind [sL W,.str m]=some (iT []):=by
 refine runF_rt rfl ?_
 show B_numbers_behind [some (sL W,.sh []),some (.str m,.sh []),none]=_
 unfold B_numbers_behind
 rw [s_seq,s_if,t_in (W:=W) (m:=m) (t1:=.sh []) (t2:=.sh []) rfl rfl,if_pos rfl,decide_eq_false h];rfl
theorem f_nb {A:List Str}{m:Str}{l:List Int} (h:m∉A) (hn:∀ v∈l,Nm v) (hl:l≠[]) (hs:l.length≤1000):F_numbers_behind [sL (A++m::l.map tS),.str m]=some (iT l):=by
 refine runF_rt rfl ?_
 show B_numbers_behind [some (sL (A++m::l.map tS),.sh []),some (.str m,.sh []),none]=_
 generalize hW:A++m::l.map tS=W
 have hm:m∈W:=by rw [← hW];simp
 have q1:sIf (tV (e2 (oInS true) (eVar 1) (eVar 0))) (sRet (eTup aNil)) sNx [some (sL W,.sh []),some (.str m,.sh []),none]=some (.nx [some (sL W,.sh []),some (.str m,.sh []),none]):=by
  rw [s_if,t_in (W:=W) (m:=m) (t1:=.sh []) (t2:=.sh []) rfl rfl,if_pos rfl,decide_eq_true hm];rfl
 have v0:eVar 0 [some (sL W,.sh []),some (.str m,.sh []),none]=some (sL W,.sh []):=rfl
 have v1:eVar 1 [some (sL W,.sh []),some (.str m,.sh []),none]=some (.str m,.sh []):=rfl
 have hix:oIndex (sL W) (.str m)=some (.int A.length):=by
  show (match strsD (W.map D.str) with | some ts=>(ts.findIdx? (· == m)).map (fun j:Nat=>D.int j) | none=>none)=_
  rw [strsD_strs]
  dsimp only
  rw [← hW,idx_app h];rfl
 have hj:e2 oAdd (e2 oIndex (eVar 0) (eVar 1)) (eC (.int 1)) [some (sL W,.sh []),some (.str m,.sh []),none]=some (.int ((A.length + 1:Nat):Int),.own):=by
  rw [s_e2,s_e2,v0,v1,s_k2,hix,s_map,s_eC,s_k2,s_oAdd];rfl
 have hcut:eCutT (eVar 0) (e2 oAdd (e2 oIndex (eVar 0) (eVar 1)) (eC (.int 1))) [some (sL W,.sh []),some (.str m,.sh []),none]=some (sL (l.map tS),.own):=by
  unfold eCutT
  rw [v0,hj]
  show (if immAll (W.map D.str)=true then some (D.lst (cutD (W.map D.str) (some ((A.length + 1:Nat):Int)) none),Tag.own) else none)=_
  rw [if_pos (imm_strs W),cut_from (by rw [← hW];simp),← List.map_drop,← hW]
  have:(A++m::l.map tS).drop (A.length + 1)=l.map tS:=by
   rw [show A++m::l.map tS=(A++[m])++l.map tS by simp]
   exact List.drop_left' (by simp)
  rw [this];rfl
 have q2:sSet 2 (eCall F_read_numbers (aCons (eCutT (eVar 0) (e2 oAdd (e2 oIndex (eVar 0) (eVar 1)) (eC (.int 1)))) aNil)) [some (sL W,.sh []),some (.str m,.sh []),none]=some (.nx [some (sL W,.sh []),some (.str m,.sh []),some (iT l,.own)]):=by
  rw [s_set,s_call,s_aCons,hcut,s_aNil,s_consK,s_bind]
  simp only [List.map_cons,List.map_nil]
  rw [f_rns hn (by omega)];rfl
 have q3:sIf (tNot1 (tTup (eVar 2))) sNo sNx [some (sL W,.sh []),some (.str m,.sh []),some (iT l,.own)]=some (.nx [some (sL W,.sh []),some (.str m,.sh []),some (iT l,.own)]):=by
  have:tTup (eVar 2) [some (sL W,.sh []),some (.str m,.sh []),some (iT l,.own)]=some true:=by
   show some (!(l.map D.int).isEmpty)=_
   cases l with
   | nil=>exact absurd rfl hl
   | cons a r=>rfl
  rw [s_if,s_not,this];rfl
 unfold B_numbers_behind
 rw [s_seq,q1,s_seqN,s_seq,q2,s_seqN,s_seq,q3,s_seqN];rfl
def flat:List Ed→List Int
 | []=>[]
 | p::r=>p.1::p.2.1::p.2.2::flat r
theorem flat_len:∀ E:List Ed,(flat E).length=3 * E.length
 | []=>rfl
 | p::r=>by
  show (flat r).length + 1 + 1 + 1=3 * (r.length + 1)
  rw [flat_len r];omega
theorem flat_cut:∀ (E:List Ed) (j:Nat) (h:j < E.length),((flat E).drop (3 * j)).take 3=[E[j].1,E[j].2.1,E[j].2.2]
 | p::r,0,_=>rfl
 | p::r,j + 1,h=>by
  have:=flat_cut r j (by simpa using h)
  rw [show 3 * (j + 1)=3 * j + 1 + 1 + 1 by omega]
  exact this
theorem flat_nm {E:List Ed} (h:∀ p∈E,Nm p.1∧Nm p.2.1∧Nm p.2.2):∀ v∈flat E,Nm v:=by
 induction E with
 | nil=>intro v m;cases m
 | cons p r ih=>
  intro v m
  obtain ⟨h1,h2,h3⟩:=h p List.mem_cons_self
  have m:v∈p.1::p.2.1::p.2.2::flat r:=m
  simp only [List.mem_cons] at m
  rcases m with rfl | rfl | rfl | m
  ·exact h1
  ·exact h2
  ·exact h3
  ·exact ih (fun q mq=>h q (List.mem_cons_of_mem _ mq)) v m
theorem f_thr {E:List Ed} (hE:E.length≤100):F_in_threes [iT (flat E)]=some (.tup (E.map dT)):=by
 refine runF_rt rfl ?_
 show B_in_threes [some (iT (flat E),.sh [])]=_
 have v0:eVar 0 [some (iT (flat E),.sh [])]=some (.tup ((flat E).map D.int),.sh []):=rfl
 have hlen:e1 oLen (eVar 0) [some (iT (flat E),.sh [])]=some (.int (3 * E.length:Nat),.own):=by
  rw [s_e1,v0,s_k1]
  show some (D.int (((flat E).map D.int).length:Int),Tag.own)=_
  rw [List.length_map,flat_len]
 have t1:tV (e2 oNe (e2 oMod (e1 oLen (eVar 0)) (eC (.int 3))) (eC (.int 0))) [some (iT (flat E),.sh [])]=some false:=by
  have hm:e2 oMod (e1 oLen (eVar 0)) (eC (.int 3)) [some (iT (flat E),.sh [])]=some (.int 0,.own):=by
   rw [s_e2,hlen,s_eC,s_k2,s_oMod (by omega)]
   rw [show ((3 * E.length:Nat):Int) % 3=0 by omega];rfl
  rw [s_tV,s_e2,hm,s_eC,s_k2];rfl
 have hc:=c_map (js:=[none,some 0]) (it:=iR3 (eC (.int 0)) (e1 oLen (eVar 0)) 3) (ρ:=[some (iT (flat E),.sh [])]) (g:=gN 0) (te:=eCutP (eVar 1) (eVar 0) (e2 oAdd (eVar 0) (eC (.int 3)))) (l:=List.range E.length) (i:=fun j:Nat=>D.int (0 + j * 3)) (f:=fun j=>dT (E.getD j (0,0,0))) (ir3 (t1:=.own) rfl hlen (by omega)) (by rw [List.length_range];omega) (fun j mj=>by
  have hj:=List.mem_range.mp mj
  refine compE_own (ρ1:=[some (.int (0 + j * 3),.sh []),some (iT (flat E),.sh [])]) rfl rfl ?_
  have p3:e2 oAdd (eVar 0) (eC (.int 3)) [some (.int (0 + j * 3),.sh []),some (iT (flat E),.sh [])]=some (.int (0 + j * 3 + 3),.own):=rfl
  have w1:eVar 1 [some (.int (0 + j * 3),.sh []),some (iT (flat E),.sh [])]=some (.tup ((flat E).map D.int),.sh []):=rfl
  have w0:eVar 0 [some (.int (0 + j * 3),.sh []),some (iT (flat E),.sh [])]=some (.int (0 + j * 3),.sh []):=rfl
  unfold eCutP
  rw [w1,w0,p3]
  dsimp only
  rw [if_pos (imm_ints _)]
  have hcut:cutD ((flat E).map D.int) (some (0 + (j:Int) * 3)) (some (0 + (j:Int) * 3 + 3))=[.int E[j].1,.int E[j].2.1,.int E[j].2.2]:=by
   rw [show (0 + (j:Int) * 3)=((3 * j:Nat):Int) by omega,show (((3 * j:Nat):Int) + 3)=((3 * j + 3:Nat):Int) by omega]
   unfold cutD
   rw [HT.sIx_nat,HT.sIx_nat,List.length_map,flat_len,Nat.min_eq_left (by omega),Nat.min_eq_left (by omega),show 3 * j + 3 - 3 * j=3 by omega,← List.map_drop,← List.map_take,flat_cut E j hj];rfl
  rw [hcut,List.getD_eq_getElem?_getD,List.getElem?_eq_getElem hj];rfl)
 have e:(List.range E.length).map (fun j=>dT (E.getD j (0,0,0)))=E.map dT:=by
  refine List.ext_getElem (by simp) fun i h1 h2=>?_
  have hi:i < E.length:=by simpa using h2
  simp [List.getElem?_eq_getElem hi]
 have t4:oTuple (.lst (E.map dT))=some (.tup (E.map dT)):=by
  show (if immAll (E.map dT)=true then some (D.tup (E.map dT)) else none)=_
  rw [if_pos (imm_eds _)]
 unfold B_in_threes
 rw [s_seq,s_if,t1,s_ifF,s_nx,s_seqN,s_ret,s_e1,hc,e,s_k1,t4];rfl
theorem tS_ne {v:Int} (h:0≤v) {w:Str} (hw:w.cps.toList.all (fun c=>decide (48≤c∧c≤57))=false):tS v≠w:=fun e=>by
 have:w.cps.toList.all (fun c=>decide (48≤c∧c≤57))=true:=List.all_eq_true.mpr fun c m=>decide_eq_true (tS_dig h c (by rw [e];exact m))
 rw [this] at hw;cases hw
theorem tS_put {v:Int} (h:0≤v):tS v≠"put":=tS_ne h (by kernel_rfl)
theorem tS_on {v:Int} (h:0≤v):tS v≠"on":=tS_ne h (by kernel_rfl)
def wL (leans:List Int):List Str:=match leans with
 | []=>[]
 | _=>"on"::leans.map tS
def wP (E:List Ed):List Str:=match E with
 | []=>[]
 | _=>"put"::(flat E).map tS
def wAsk (r:Int) (leans:List Int) (E:List Ed):List Str:=tS r::(wL leans++wP E)
theorem put_L {r:Int}{leans:List Int}{E:List Ed} (a:AskR r leans E):("put":Str)∉tS r::wL leans:=fun m=>by
 rcases List.mem_cons.mp m with e | m
 ·exact tS_put a.r.1 e.symm
 ·unfold wL at m
  split at m
  ·cases m
  ·rcases List.mem_cons.mp m with e | m
   ·exact absurd e (by decide +kernel)
   ·obtain ⟨v,mv,e⟩:=List.mem_map.mp m
    exact tS_put (a.l v mv).1 e
theorem call_wa {ρ:Rho}{fa:EF}{W W':List Str}{m:Str}{o:List Nat} (h:fa ρ=some (sL W,.sh o)) (hF:F_wa [sL W,.str m]=some (sL W')):eCallA F_wa (aCons fa (aCons (eC (.str m)) aNil)) ρ=some (sL W',.sh o):=by
 have hg:aCons fa (aCons (eC (.str m)) aNil) ρ=some [(sL W,.sh o),(.str m,.own)]:=by
  rw [s_aCons,s_aCons,h,s_eC,s_aNil,s_consK,s_consK]
 unfold eCallA
 rw [hg,Option.bind_some]
 show (F_wa [sL W,.str m]).map _=_
 rw [hF]
 rfl
theorem wa_put {r:Int}{leans:List Int}{E:List Ed} (a:AskR r leans E):F_wa [sL (wAsk r leans E),.str "put"]=some (sL (tS r::wL leans)):=by
 have hp:=put_L a
 unfold wAsk
 cases E with
 | nil=>
  rw [show wP []=[] from rfl,List.append_nil]
  exact wa_none hp
 | cons p q=>
  rw [show tS r::(wL leans++wP (p::q))=(tS r::wL leans)++("put":Str)::(flat (p::q)).map tS from rfl]
  exact wa_at hp
theorem wa_on {r:Int}{leans:List Int} (h:0≤r):F_wa [sL (tS r::wL leans),.str "on"]=some (sL [tS r]):=by
 have ho:("on":Str)∉[tS r]:=fun m=>tS_on h (List.mem_singleton.mp m).symm
 cases leans with
 | nil=>exact wa_none ho
 | cons x q=>exact wa_at (A:=[tS r]) ho
theorem nb_on {r:Int}{leans:List Int} (h:0≤r) (hn:∀ v∈leans,Nm v) (hl:leans.length≤8):F_numbers_behind [sL (tS r::wL leans),.str "on"]=some (iT leans):=by
 have ho:("on":Str)∉[tS r]:=fun m=>tS_on h (List.mem_singleton.mp m).symm
 cases leans with
 | nil=>exact f_nb0 ho
 | cons x q=>exact f_nb (A:=[tS r]) ho hn (by simp) (by omega)
theorem nb_put {r:Int}{leans:List Int}{E:List Ed} (a:AskR r leans E):F_numbers_behind [sL (wAsk r leans E),.str "put"]=some (iT (flat E)):=by
 have hp:=put_L a
 unfold wAsk
 cases E with
 | nil=>
  rw [show wP []=[] from rfl,List.append_nil]
  exact f_nb0 hp
 | cons p q=>
  rw [show tS r::(wL leans++wP (p::q))=(tS r::wL leans)++("put":Str)::(flat (p::q)).map tS from rfl]
  exact f_nb hp (flat_nm a.e) (by simp [flat]) (by rw [flat_len];have:=a.el;omega)
theorem f_rask {r:Int}{leans:List Int}{E:List Ed} (a:AskR r leans E):F_read_ask [sL (wAsk r leans E)]=some (askD r leans E):=by
 have hel:=a.el
 refine runF_rt rfl ?_
 show B_read_ask [some (sL (wAsk r leans E),.sh []),none,none,none]=_
 have q1:sSet 1 (eCallA F_wa (aCons (eVar 0) (aCons (eC (.str "put")) aNil))) [some (sL (wAsk r leans E),.sh []),none,none,none]=some (.nx [some (sL (wAsk r leans E),.sh []),some (sL (tS r::wL leans),.sh []),none,none]):=by
  rw [s_set,call_wa (W:=wAsk r leans E) (o:=[]) rfl (wa_put a)];rfl
 have q2:sSet 2 (eCallA F_wa (aCons (eVar 1) (aCons (eC (.str "on")) aNil))) [some (sL (wAsk r leans E),.sh []),some (sL (tS r::wL leans),.sh []),none,none]=some (.nx [some (sL (wAsk r leans E),.sh []),some (sL (tS r::wL leans),.sh []),some (sL [tS r],.sh []),none]):=by
  rw [s_set,call_wa (W:=tS r::wL leans) (o:=[]) rfl (wa_on a.r.1)];rfl
 have t3:tV (e2 oNe (e1 oLen (eVar 2)) (eC (.int 1))) [some (sL (wAsk r leans E),.sh []),some (sL (tS r::wL leans),.sh []),some (sL [tS r],.sh []),none]=some false:=rfl
 have q4:sSet 3 (eCall F_numbers_behind (aCons (eVar 1) (aCons (eC (.str "on")) aNil))) [some (sL (wAsk r leans E),.sh []),some (sL (tS r::wL leans),.sh []),some (sL [tS r],.sh []),none]=some (.nx [some (sL (wAsk r leans E),.sh []),some (sL (tS r::wL leans),.sh []),some (sL [tS r],.sh []),some (iT leans,.own)]):=by
  have hg:aCons (eVar 1) (aCons (eC (.str "on")) aNil) [some (sL (wAsk r leans E),.sh []),some (sL (tS r::wL leans),.sh []),some (sL [tS r],.sh []),none]=some [(sL (tS r::wL leans),.sh []),(.str "on",.own)]:=rfl
  rw [s_set,s_call,hg,s_bind]
  simp only [List.map_cons,List.map_nil]
  rw [nb_on a.r.1 a.l a.ll];rfl
 unfold B_read_ask
 rw [s_seq,q1,s_seqN,s_seq,q2,s_seqN,s_seq,s_if,t3,s_ifF,s_nx,s_seqN,s_seq,q4,s_seqN,s_ret]
 generalize hρ:([some (sL (wAsk r leans E),.sh []),some (sL (tS r::wL leans),.sh []),some (sL [tS r],.sh []),some (iT leans,.own)]:Rho)=ρ
 have v0:eVar 0 ρ=some (sL (wAsk r leans E),.sh []):=by rw [← hρ];rfl
 have v3:eVar 3 ρ=some (iT leans,.sh [3]):=by rw [← hρ];rfl
 have i2:e2 oIx (eVar 2) (eC (.int 0)) ρ=some (.str (tS r),.own):=by rw [← hρ];rfl
 have c1:eCall F_read_number (aCons (e2 oIx (eVar 2) (eC (.int 0))) aNil) ρ=some (.int r,.own):=by
  rw [s_call,s_aCons,i2,s_aNil,s_consK,s_bind]
  simp only [List.map_cons,List.map_nil]
  rw [f_rn a.r];rfl
 have c2:eCall F_in_threes (aCons (eCall F_numbers_behind (aCons (eVar 0) (aCons (eC (.str "put")) aNil))) aNil) ρ=some (.tup (E.map dT),.own):=by
  have:eCall F_numbers_behind (aCons (eVar 0) (aCons (eC (.str "put")) aNil)) ρ=some (iT (flat E),.own):=by
   rw [s_call,s_aCons,s_aCons,v0,s_eC,s_aNil,s_consK,s_consK,s_bind]
   simp only [List.map_cons,List.map_nil]
   rw [nb_put a];rfl
  rw [s_call,s_aCons,this,s_aNil,s_consK,s_bind]
  simp only [List.map_cons,List.map_nil]
  rw [f_thr (by omega)];rfl
 have him:imm (askD r leans E)=true:=by
  show immAll [.str "ask",.int r,.tup (leans.map D.int),.tup (E.map dT)]=true
  unfold immAll;unfold immAll;unfold immAll;unfold immAll;unfold immAll
  show (true&&(true&&(immAll (leans.map D.int)&&(immAll (E.map dT)&&true))))=true
  rw [imm_ints,imm_eds];rfl
 rw [s_tup,s_aCons,s_aCons,s_aCons,s_aCons,c1,v3,c2]
 show (if imm (askD r leans E)=true then some (Out.rt (askD r leans E)) else none)=_
 rw [if_pos him]
structure Wd (W:List Str):Prop where
 ne:W≠[]
 fr:∀ w∈W,Fr w
 ln:∀ w∈W,w.length≤12
 few:W.length≤100
theorem Wd.len {W:List Str} (h:Wd W):(Str.join bl W).length≤2000:=by
 have h1:=StrLaws.join_length_le bl W
 have h2:=StrLaws.sumLen_le (B:=12) W h.ln
 have h3:bl.length=1:=by kernel_rfl
 have h4:=h.few
 rw [h3] at h1
 omega
theorem sp {W:List Str} (h:Wd W):oSplit (.str (Str.join bl W)) (.str bl)=some (sL W):=by
 have hl:=h.len
 show (if (bl.length == 0)=false∧(Str.join bl W).length≤100000 then some (D.lst ((Txt.split (Str.join bl W) bl).map D.str)) else none)=_
 rw [if_pos ⟨by kernel_rfl,by omega⟩,split_join h.ne h.fr];rfl
def rRr (t:Str) (W:List Str) (s2:Slot):Rho:=[some (.str t,.sh []),some (sL W,.own),s2]
theorem q_split {W:List Str} (h:Wd W):sSet 1 (e2 oSplit (eVar 0) (eC (.str " "))) [some (.str (Str.join bl W),.sh []),none,none]=some (.nx (rRr (Str.join bl W) W none)):=by
 have v0:eVar 0 [some (.str (Str.join bl W),.sh []),none,none]=some (.str (Str.join bl W),.sh []):=rfl
 rw [s_set,s_e2,v0,s_eC,s_k2,sp h];rfl
theorem hd_ix {t w:Str}{R:List Str}{s2:Slot}:e2 oIx (eVar 1) (eC (.int 0)) (rRr t (w::R) s2)=some (.str w,.own):=by
 have v1:eVar 1 (rRr t (w::R) s2)=some (.lst ((w::R).map D.str),.sh [1]):=rfl
 have ha:atI ((w::R).map D.str) 0=some (.str w):=by
  unfold atI ixN
  rw [if_pos (by decide),if_pos (by rw [List.length_map,List.length_cons];omega)];rfl
 rw [s_e2,v1,s_eC,s_k2,s_ixL ha rfl];rfl
theorem hd_eq {t w x:Str}{R:List Str}{s2:Slot}:tV (e2 oEq (e2 oIx (eVar 1) (eC (.int 0))) (eC (.str x))) (rRr t (w::R) s2)=some (w == x):=by
 rw [s_tV,s_e2,hd_ix,s_eC,s_k2];rfl
theorem tl_eq {t w:Str}{R:List Str}{s2:Slot}:e1 (oCut (some 1) none) (eVar 1) (rRr t (w::R) s2)=some (sL R,.own):=by
 have v1:eVar 1 (rRr t (w::R) s2)=some (sL (w::R),.sh [1]):=rfl
 rw [s_e1,v1,s_k1]
 show Option.map _ (if immAll ((w::R).map D.str)=true then some (D.lst (cutD ((w::R).map D.str) (some 1) none)) else none)=_
 rw [if_pos (imm_strs _),cut1];rfl
theorem f_read_ask {r:Int}{leans:List Int}{E:List Ed} (a:AskR r leans E) (h:Wd ("ask"::wAsk r leans E)):F_read_row [.str (Str.join bl ("ask"::wAsk r leans E))]=some (askD r leans E):=by
 refine runF_rt rfl ?_
 show B_read_row [some (.str (Str.join bl ("ask"::wAsk r leans E)),.sh []),none,none]=_
 have c:eCall F_read_ask (aCons (e1 (oCut (some 1) none) (eVar 1)) aNil) (rRr (Str.join bl ("ask"::wAsk r leans E)) ("ask"::wAsk r leans E) none)=some (askD r leans E,.own):=by
  rw [s_call,s_aCons,tl_eq,s_aNil,s_consK,s_bind]
  simp only [List.map_cons,List.map_nil]
  rw [f_rask a];rfl
 unfold B_read_row
 rw [s_seq,q_split h,s_seqN,s_seq,s_if,hd_eq,beq_self_eq_true,s_ifT,s_ret,c];rfl
theorem read_mid {W:List Str}{w:Str}{l:List Int} (h:Wd (w::l.map tS)) (hw:(w == ("ask":Str))=false) (hn:∀ v∈l,Nm v) {Z:Option Out}
  (hz:(sSeq (sIf (tAnd2 (tV (e2 (oInS false) (e2 oIx (eVar 1) (eC (.int 0))) (eC (.tup ((["yes","no","unsure"]:List Str).map D.str))))) (tTup (eVar 2))) (sRet (eTup (aCons (eC (.str "answer")) (aCons (eVar 2) (aCons (e2 oIx (eVar 1) (eC (.int 0))) aNil))))) sNx) (sSeq (sIf (tAnd2 (tV (e2 oEq (e2 oIx (eVar 1) (eC (.int 0))) (eC (.str "withdraw")))) (tV (e2 oEq (e1 oLen (eVar 2)) (eC (.int 1))))) (sRet (eTup (aCons (eC (.str "withdraw")) (aCons (e2 oIx (eVar 2) (eC (.int 0))) aNil)))) sNx) (sSeq (sIf (tV (e2 (oInS false) (eVar 0) (eTup (aCons (eC (.str "stop")) (aCons (eC (.str "go")) aNil))))) (sRet (eTup (aCons (eVar 0) aNil))) sNx) sNo))) (rRr (Str.join bl (w::l.map tS)) (w::l.map tS) (some (iT l,.own)))=Z) :
  B_read_row [some (.str (Str.join bl (w::l.map tS)),.sh []),none,none]=Z:=by
 have hf:=h.few
 rw [List.length_cons,List.length_map] at hf
 have q:sSet 2 (eCall F_read_numbers (aCons (e1 (oCut (some 1) none) (eVar 1)) aNil)) (rRr (Str.join bl (w::l.map tS)) (w::l.map tS) none)=some (.nx (rRr (Str.join bl (w::l.map tS)) (w::l.map tS) (some (iT l,.own)))):=by
  rw [s_set,s_call,s_aCons,tl_eq,s_aNil,s_consK,s_bind]
  simp only [List.map_cons,List.map_nil]
  rw [f_rns hn (by omega)];rfl
 unfold B_read_row
 rw [s_seq,q_split h,s_seqN,s_seq,s_if,hd_eq,hw,s_ifF,s_nx,s_seqN,s_seq,q,s_seqN,hz]
theorem f_read_an {look:List Int}{word:Str} (hn:∀ v∈look,Nm v) (hl:look≠[]) (hw:word="yes"∨word="no"∨word="unsure") (h:Wd (word::look.map tS)):F_read_row [.str (Str.join bl (word::look.map tS))]=some (.tup [.str "answer",iT look,.str word]):=by
 have h1:(word == ("ask":Str))=false:=by rcases hw with rfl | rfl | rfl <;> decide +kernel
 refine runF_rt rfl (read_mid (W:=[]) h h1 hn ?_)
 have t1:tV (e2 (oInS false) (e2 oIx (eVar 1) (eC (.int 0))) (eC (.tup ((["yes","no","unsure"]:List Str).map D.str)))) (rRr (Str.join bl (word::look.map tS)) (word::look.map tS) (some (iT look,.own)))=some true:=by
  rw [s_tV,s_e2,hd_ix,s_eC,s_k2]
  show Ev.kV (((strsD ((["yes","no","unsure"]:List Str).map D.str)).map fun ns=>D.bl (if false=true then !(ns.any (· == word)) else ns.any (· == word))).map _)=_
  rw [strsD_strs]
  rcases hw with rfl | rfl | rfl <;> kernel_rfl
 have t2:tTup (eVar 2) (rRr (Str.join bl (word::look.map tS)) (word::look.map tS) (some (iT look,.own)))=some true:=by
  show some (!(look.map D.int).isEmpty)=_
  cases look with
  | nil=>exact absurd rfl hl
  | cons a r=>rfl
 rw [s_seq,s_if,s_and2 t1 t2]
 show seqK _ (sRet _ _)=_
 have him:imm (.tup [.str "answer",iT look,.str word])=true:=by
  show immAll [.str "answer",.tup (look.map D.int),.str word]=true
  unfold immAll;unfold immAll;unfold immAll;unfold immAll
  show (true&&(immAll (look.map D.int)&&(true&&true)))=true
  rw [imm_ints];rfl
 have v2:eVar 2 (rRr (Str.join bl (word::look.map tS)) (word::look.map tS) (some (iT look,.own)))=some (iT look,.sh [2]):=rfl
 rw [s_ret,s_tup,s_aCons,s_aCons,s_aCons,v2,hd_ix]
 show seqK _ (if imm (.tup [.str "answer",iT look,.str word])=true then some (Out.rt (.tup [.str "answer",iT look,.str word])) else none)=_
 rw [if_pos him];rfl
theorem t_words {t w:Str}{R:List Str}{s2:Slot}:tV (e2 (oInS false) (e2 oIx (eVar 1) (eC (.int 0))) (eC (.tup ((["yes","no","unsure"]:List Str).map D.str)))) (rRr t (w::R) s2)=some ((["yes","no","unsure"]:List Str).any (· == w)):=by
 rw [s_tV,s_e2,hd_ix,s_eC,s_k2]
 show Ev.kV (((strsD ((["yes","no","unsure"]:List Str).map D.str)).map fun ns=>D.bl (if false=true then !(ns.any (· == w)) else ns.any (· == w))).map _)=_
 rw [strsD_strs];rfl
theorem t_tup {t:Str}{W:List Str}{l:List Int}:tTup (eVar 2) (rRr t W (some (iT l,.own)))=some (!(l.map D.int).isEmpty):=rfl
theorem f_read_wd {w:Int} (hn:Nm w) (h:Wd ["withdraw",tS w]):F_read_row [.str (Str.join bl ["withdraw",tS w])]=some (.tup [.str "withdraw",.int w]):=by
 refine runF_rt rfl (read_mid (W:=[]) (l:=[w]) h (by decide +kernel) (fun v m=>by cases List.mem_singleton.mp m;exact hn) ?_)
 have hw:((["yes","no","unsure"]:List Str).any (· == ("withdraw":Str)))=false:=by decide +kernel
 have t3:tV (e2 oEq (e1 oLen (eVar 2)) (eC (.int 1))) (rRr (Str.join bl ("withdraw"::[w].map tS)) ("withdraw"::[w].map tS) (some (iT [w],.own)))=some true:=rfl
 have t4:tV (e2 oEq (e2 oIx (eVar 1) (eC (.int 0))) (eC (.str "withdraw"))) (rRr (Str.join bl ("withdraw"::[w].map tS)) ("withdraw"::[w].map tS) (some (iT [w],.own)))=some true:=by rw [hd_eq,beq_self_eq_true]
 rw [s_seq,s_if,s_and2 t_words t_tup,hw,Bool.false_and,s_ifF,s_nx,s_seqN,s_seq,s_if,s_and2 t4 t3]
 rfl
theorem f_read_one {x:Str} (hx:x="stop"∨x="go") (h:Wd [x]):F_read_row [.str (Str.join bl [x])]=some (.tup [.str x]):=by
 have h1:(x == ("ask":Str))=false:=by rcases hx with rfl | rfl <;> decide +kernel
 refine runF_rt rfl (read_mid (W:=[]) (l:=[]) h h1 (fun v m=>nomatch m) ?_)
 have hw:((["yes","no","unsure"]:List Str).any (· == x))=false:=by rcases hx with rfl | rfl <;> decide +kernel
 have hw2:(x == ("withdraw":Str))=false:=by rcases hx with rfl | rfl <;> decide +kernel
 have t3:tV (e2 oEq (e1 oLen (eVar 2)) (eC (.int 1))) (rRr (Str.join bl (x::([]:List Int).map tS)) (x::([]:List Int).map tS) (some (iT [],.own)))=some false:=rfl
 have t5:tV (e2 (oInS false) (eVar 0) (eTup (aCons (eC (.str "stop")) (aCons (eC (.str "go")) aNil)))) (rRr (Str.join bl (x::([]:List Int).map tS)) (x::([]:List Int).map tS) (some (iT [],.own)))=some true:=by
  show some ((["stop","go"]:List Str).any (· == x))=_
  rcases hx with rfl | rfl <;> kernel_rfl
 rw [s_seq,s_if,s_and2 t_words t_tup,hw,Bool.false_and,s_ifF,s_nx,s_seqN,s_seq,s_if,s_and2 hd_eq t3,hw2,Bool.false_and,s_ifF,s_nx,s_seqN,s_seq,s_if,t5,s_ifT]
 rfl
abbrev Pt:=Int ⊕ Str
def pd:Pt→D
 | .inl v=>.int v
 | .inr x=>.str x
def pw:Pt→Str
 | .inl v=>tS v
 | .inr x=>x
def okP:Pt→Prop
 | .inl v=>Nm v
 | .inr _=>True
theorem s_str {p:Pt} (h:okP p):oStr (pd p)=some (.str (pw p)):=by
 cases p with
 | inl v=>
  have h:Nm v:=h
  show (if v.natAbs < 2 ^ 64 then some (D.str (tS v)) else none)=_
  rw [if_pos (by obtain ⟨a,b⟩:=h;omega)];rfl
 | inr x=>rfl
theorem join_ok {W:List Str} (h:Wd W):oJoin (.str bl) (sL W)=some (.str (Str.join bl W)):=by
 have hk:JoinOk bl W=true:=by
  unfold JoinOk
  have h3:bl.length=1:=by kernel_rfl
  have:=StrLaws.joinFits (sep:=bl) (texts:=W) (B:=12) h.ln (by rw [h3];have:=h.few;omega)
  simpa using this
 show (match strsD (W.map D.str) with | some ts=>if JoinOk bl ts=true then some (D.str (Txt.join bl ts)) else none | none=>none)=_
 rw [strsD_strs]
 dsimp only
 rw [if_pos hk]
 show some (D.str (Builtin.Str.glued bl W))=_
 rw [StrLaws.glued_eq_join]
theorem f_parts {w:List D→D}{ps:List Pt} (hi:iSeqF (eVar 0) [some (w (ps.map pd),.sh [])]=some (ps.map pd,.sh [])) (h:∀ p∈ps,okP p) (hW:Wd (ps.map pw)):F_shown_parts [w (ps.map pd)]=some (.str (Str.join bl (ps.map pw))):=by
 have hf:=hW.few
 rw [List.length_map] at hf
 refine runF_rt rfl ?_
 show B_shown_parts [some (w (ps.map pd),.sh [])]=_
 have hc:=c_map (js:=[none]) (g:=gN 0) (te:=e1 oStr (eVar 0)) (f:=fun p=>D.str (pw p)) hi (by omega) (fun p m=>by
  refine compE_own (ρ1:=[some (pd p,.sh [])]) rfl rfl ?_
  have v0:eVar 0 [some (pd p,.sh [])]=some (pd p,.sh []):=rfl
  rw [s_e1,v0,s_k1,s_str (h p m)];rfl)
 have e:ps.map (fun p=>D.str (pw p))=(ps.map pw).map D.str:=by rw [List.map_map];rfl
 rw [e] at hc
 unfold B_shown_parts
 rw [s_ret,s_e2,s_eC,hc,s_k2]
 show retK ((oJoin (.str bl) (sL (ps.map pw))).map _)=_
 rw [join_ok hW];rfl
theorem imm_ps:∀ ps:List Pt,immAll (ps.map pd)=true
 | []=>rfl
 | p::r=>by
  rw [List.map_cons];unfold immAll;rw [imm_ps r]
  cases p <;> rfl
def rSa (r:Int) (leans:List Int) (E:List Ed) (ps:List Pt) (s4:Slot):Rho:=[some (.int r,.sh []),some (iT leans,.sh []),some (.tup (E.map dT),.sh []),some (.lst (ps.map pd),.own),s4]
theorem q_app {r:Int}{leans:List Int}{E:List Ed}{ps:List Pt}{x:Str} (h:ps.length≤1000):sApp 3 (eC (.str x)) (rSa r leans E ps none)=some (.nx (rSa r leans E (ps++[.inr x]) none)):=by
 show (if (imm (.str x)&&immAll (ps.map pd)&&decide ((ps.map pd).length < sizeLine))=true then some (Out.nx (mutS (rSa r leans E ps none) 3 (.lst (ps.map pd++[.str x])))) else none)=_
 rw [if_pos (by rw [imm_ps,List.length_map,decide_eq_true (size_le (by omega))];rfl)]
 unfold rSa
 rw [List.map_append];rfl
theorem pd_inl (l:List Int):(l.map Sum.inl).map pd=l.map D.int:=by rw [List.map_map];rfl
theorem q_ext {r:Int}{leans:List Int}{E:List Ed}{ps:List Pt}{l:List Int}{i:Nat}{s4:Slot}{o:List Nat} (hs:s4=none∨∃ p,s4=some (dT p,.sh [])) (h:ps.length + l.length≤1000) (hv:eVar i (rSa r leans E ps s4)=some (iT l,.sh o)):sExtT 3 (eVar i) (rSa r leans E ps s4)=some (.nx (rSa r leans E (ps++l.map Sum.inl) s4)):=by
 unfold sExtT
 rw [hv]
 show (if (immAll (l.map D.int)&&immAll (ps.map pd)&&decide ((ps.map pd).length + (l.map D.int).length≤sizeLine))=true then some (Out.nx (mutS (rSa r leans E ps s4) 3 (.lst (ps.map pd++l.map D.int)))) else none)=_
 rw [if_pos (by rw [imm_ps,imm_ints,List.length_map,List.length_map,decide_eq_true (Nat.le_of_lt (size_le (by omega)))];rfl)]
 unfold rSa
 rw [List.map_append,pd_inl]
 rcases hs with rfl | ⟨p,rfl⟩ <;> rfl
theorem lp_ext {r:Int}{leans:List Int}{E0:List Ed}:∀ {E:List Ed}{ps:List Pt}{s4:Slot},ps.length + 3 * E.length≤1000→∃ t4,loopF (gN 4) (.sh []) (sExtT 3 (eVar 4)) (E.map dT) (rSa r leans E0 ps s4)=some (.nx (rSa r leans E0 (ps++(flat E).map Sum.inl) t4))
 | [],ps,s4,_=>⟨s4,by rw [show (flat []).map Sum.inl=([]:List Pt) from rfl,List.append_nil];rfl⟩
 | p::E,ps,s4,h=>by
  rw [List.length_cons] at h
  have st:=q_ext (r:=r) (leans:=leans) (E:=E0) (ps:=ps) (l:=[p.1,p.2.1,p.2.2]) (i:=4) (s4:=some (dT p,.sh [])) (o:=[]) (.inr ⟨p,rfl⟩) (by simp;omega) rfl
  obtain ⟨t4,ih⟩:=lp_ext (r:=r) (leans:=leans) (E0:=E0) (E:=E) (ps:=ps++[p.1,p.2.1,p.2.2].map Sum.inl) (s4:=some (dT p,.sh [])) (by simp;omega)
  refine ⟨t4,?_⟩
  rw [List.map_cons,loop_c rfl st,ih,List.append_assoc]
  rfl
def pL (leans:List Int):List Pt:=match leans with
 | []=>[]
 | _=>Sum.inr ("on":Str)::leans.map Sum.inl
def pP (E:List Ed):List Pt:=match E with
 | []=>[]
 | _=>Sum.inr ("put":Str)::(flat E).map Sum.inl
def pAsk (r:Int) (leans:List Int) (E:List Ed):List Pt:=([Sum.inr ("ask":Str),Sum.inl r]++pL leans)++pP E
theorem pAsk_w (r:Int) (leans:List Int) (E:List Ed):(pAsk r leans E).map pw=("ask":Str)::wAsk r leans E:=by
 have hm:∀ l:List Int,(l.map (Sum.inl:Int→Pt)).map pw=l.map tS:=fun l=>by rw [List.map_map];rfl
 unfold pAsk wAsk
 cases leans <;> cases E <;> simp [pL,pP,wL,wP,pw,hm]
theorem f_sask {r:Int}{leans:List Int}{E:List Ed} (a:AskR r leans E) (hW:Wd (("ask":Str)::wAsk r leans E)):F_shown_ask [.int r,iT leans,.tup (E.map dT)]=some (.str (Str.join bl (("ask":Str)::wAsk r leans E))):=by
 have hll:=a.ll
 have hel:=a.el
 refine runF_rt rfl ?_
 show B_shown_ask [some (.int r,.sh []),some (iT leans,.sh []),some (.tup (E.map dT),.sh []),none,none]=_
 have q1:sSet 3 (eLstI (aCons (eC (.str "ask")) (aCons (eVar 0) aNil))) [some (.int r,.sh []),some (iT leans,.sh []),some (.tup (E.map dT),.sh []),none,none]=some (.nx (rSa r leans E [.inr "ask",.inl r] none)):=rfl
 have q2:∃ ps:List Pt,ps=[Sum.inr ("ask":Str),Sum.inl r]++pL leans∧ps.length≤20∧sIf (tTup (eVar 1)) (sSeq (sApp 3 (eC (.str "on"))) (sExtT 3 (eVar 1))) sNx (rSa r leans E [.inr "ask",.inl r] none)=some (.nx (rSa r leans E ps none)):=by
  have ht:tTup (eVar 1) (rSa r leans E [.inr "ask",.inl r] none)=some (!(leans.map D.int).isEmpty):=rfl
  cases leans with
  | nil=>exact ⟨_,rfl,by simp [pL],rfl⟩
  | cons x q=>
   refine ⟨_,rfl,by simp [pL] at hll ⊢;omega,?_⟩
   rw [s_if,ht,show (!(List.map D.int (x::q)).isEmpty)=true from rfl,s_ifT]
   rw [s_seq,q_app (by simp),s_seqN,q_ext (l:=x::q) (o:=[]) (.inl rfl) (by simp at hll ⊢;omega) rfl]
   simp [pL]
 obtain ⟨ps,hps,hpl,q2⟩:=q2
 have q3:∃ (ps':List Pt) (t4:Slot),ps'=ps++pP E∧sIf (tTup (eVar 2)) (sSeq (sApp 3 (eC (.str "put"))) (sFor (iSeqF (eVar 2)) (gN 4) (sExtT 3 (eVar 4)))) sNx (rSa r leans E ps none)=some (.nx (rSa r leans E ps' t4)):=by
  have ht:tTup (eVar 2) (rSa r leans E ps none)=some (!(E.map dT).isEmpty):=rfl
  cases E with
  | nil=>exact ⟨_,none,rfl,by rw [show pP []=[] from rfl,List.append_nil];rfl⟩
  | cons p q=>
   obtain ⟨t4,lp⟩:=lp_ext (r:=r) (leans:=leans) (E0:=p::q) (E:=p::q) (ps:=ps++[.inr "put"]) (s4:=none) (by simp at hel ⊢;omega)
   refine ⟨_,t4,rfl,?_⟩
   rw [s_if,ht,show (!(List.map dT (p::q)).isEmpty)=true from rfl,s_ifT]
   rw [s_seq,q_app (by omega),s_seqN]
   refine (for_nx (t:=.sh []) rfl lp).trans ?_
   rw [List.append_assoc];rfl
 obtain ⟨ps',t4,hps',q3⟩:=q3
 have hpp:ps'=pAsk r leans E:=by rw [hps',hps];rfl
 have hok:∀ p∈pAsk r leans E,okP p:=fun p m=>by
  unfold pAsk pL pP at m
  rcases List.mem_append.mp m with m | m
  ·rcases List.mem_append.mp m with m | m
   ·simp only [List.mem_cons,List.not_mem_nil,or_false] at m
    rcases m with rfl | rfl
    ·trivial
    ·exact a.r
   ·split at m
    ·cases m
    ·rcases List.mem_cons.mp m with rfl | m
     ·trivial
     ·obtain ⟨v,mv,rfl⟩:=List.mem_map.mp m
      exact a.l v mv
  ·split at m
   ·cases m
   ·rcases List.mem_cons.mp m with rfl | m
    ·trivial
    ·obtain ⟨v,mv,rfl⟩:=List.mem_map.mp m
     exact flat_nm a.e v mv
 unfold B_shown_ask
 rw [s_seq,q1,s_seqN,s_seq,q2,s_seqN,s_seq,q3,s_seqN,s_ret,hpp]
 have v3:eVar 3 (rSa r leans E (pAsk r leans E) t4)=some (.lst ((pAsk r leans E).map pd),.sh [3]):=rfl
 rw [s_call,s_aCons,v3,s_aNil,s_consK,s_bind]
 simp only [List.map_cons,List.map_nil]
 rw [f_parts (w:=D.lst) rfl hok (by rw [pAsk_w];exact hW),pAsk_w];rfl
theorem Wd.tail {w x:Str}{R:List Str} (h:Wd (w::x::R)):Wd (x::R):=⟨by simp,fun y m=>h.fr y (List.mem_cons_of_mem _ m),fun y m=>h.ln y (List.mem_cons_of_mem _ m),by have:=h.few;simp at this ⊢;omega⟩
theorem f_srow_ask {r:Int}{leans:List Int}{E:List Ed} (a:AskR r leans E) (hW:Wd (("ask":Str)::wAsk r leans E)):F_shown_row [askD r leans E]=some (.str (Str.join bl (("ask":Str)::wAsk r leans E))):=by
 refine runF_rt rfl ?_
 show B_shown_row [some (askD r leans E,.sh [])]=_
 have t1:tV (e2 oEq (e2 oIx (eVar 0) (eC (.int 0))) (eC (.str "ask"))) [some (askD r leans E,.sh [])]=some true:=by kernel_rfl
 have i1:e2 oIx (eVar 0) (eC (.int 1)) [some (askD r leans E,.sh [])]=some (.int r,.own):=rfl
 have i2:e2 oIx (eVar 0) (eC (.int 2)) [some (askD r leans E,.sh [])]=some (iT leans,.own):=by
  have v0:eVar 0 [some (askD r leans E,.sh [])]=some (askD r leans E,.sh []):=rfl
  rw [s_e2,v0,s_eC,s_k2]
  show Option.map _ (if imm (iT leans)=true then some (iT leans) else none)=_
  have hi:imm (iT leans)=true:=imm_ints leans
  rw [if_pos hi];rfl
 have i3:e2 oIx (eVar 0) (eC (.int 3)) [some (askD r leans E,.sh [])]=some (.tup (E.map dT),.own):=by
  have v0:eVar 0 [some (askD r leans E,.sh [])]=some (askD r leans E,.sh []):=rfl
  rw [s_e2,v0,s_eC,s_k2]
  show Option.map _ (if imm (.tup (E.map dT))=true then some (D.tup (E.map dT)) else none)=_
  have hi:imm (.tup (E.map dT))=true:=imm_eds E
  rw [if_pos hi];rfl
 unfold B_shown_row
 rw [s_seq,s_if,t1,s_ifT,s_ret,s_call,s_aCons,s_aCons,s_aCons,i1,i2,i3,s_aNil,s_consK,s_consK,s_consK,s_bind]
 simp only [List.map_cons,List.map_nil]
 rw [f_sask a hW];rfl
theorem f_srow_parts {x:Str}{l:List Int} (hx:(x == ("ask":Str))=false) (hx2:(x == ("answer":Str))=false) (hn:∀ v∈l,Nm v) (hW:Wd (x::l.map tS)):F_shown_row [.tup (.str x::l.map D.int)]=some (.str (Str.join bl (x::l.map tS))):=by
 refine runF_rt rfl ?_
 show B_shown_row [some (.tup (.str x::l.map D.int),.sh [])]=_
 have v0:eVar 0 [some (.tup (.str x::l.map D.int),.sh [])]=some (.tup (.str x::l.map D.int),.sh []):=rfl
 have i0:e2 oIx (eVar 0) (eC (.int 0)) [some (.tup (.str x::l.map D.int),.sh [])]=some (.str x,.own):=by
  have ha:atI (D.str x::l.map D.int) 0=some (.str x):=by
   unfold atI ixN
   rw [if_pos (by decide),if_pos (by rw [List.length_cons];omega)];rfl
  rw [s_e2,v0,s_eC,s_k2]
  show Option.map _ ((atI (D.str x::l.map D.int) 0).bind fun d=>if imm d=true then some d else none)=_
  rw [ha];rfl
 have t1:∀ y:Str,tV (e2 oEq (e2 oIx (eVar 0) (eC (.int 0))) (eC (.str y))) [some (.tup (.str x::l.map D.int),.sh [])]=some (x == y):=fun y=>by
  rw [s_tV,s_e2,i0,s_eC,s_k2];rfl
 have hp:=f_parts (w:=D.tup) (ps:=(Sum.inr x:Pt)::l.map Sum.inl) rfl (fun p m=>by
  rcases List.mem_cons.mp m with rfl | m
  ·trivial
  ·obtain ⟨v,mv,rfl⟩:=List.mem_map.mp m
   exact hn v mv) (by
  rw [List.map_cons,List.map_map]
  exact hW)
 rw [List.map_cons,List.map_cons,List.map_map,List.map_map] at hp
 have hp:F_shown_parts [.tup (.str x::l.map D.int)]=some (.str (Str.join bl (x::l.map tS))):=hp
 unfold B_shown_row
 rw [s_seq,s_if,t1,hx,s_ifF,s_nx,s_seqN,s_seq,s_if,t1,hx2,s_ifF,s_nx,s_seqN,s_ret,s_call,s_aCons,v0,s_aNil,s_consK,s_bind]
 simp only [List.map_cons,List.map_nil]
 rw [hp];rfl
theorem s_cat {x y:Str} (h:x.length + y.length≤10000):oCatS (.str x) (.str y)=some (.str (x++y)):=by
 show (if x.length + y.length≤sizeLine then some (D.str (x++y)) else none)=_
 rw [if_pos (Nat.le_of_lt (size_le h))]
theorem bl_len:bl.length=1:=by kernel_rfl
theorem f_srow_an {look:List Int}{word:Str} (hn:∀ v∈look,Nm v) (hl:look≠[]) (hW:Wd (word::look.map tS)):F_shown_row [.tup [.str "answer",iT look,.str word]]=some (.str (Str.join bl (word::look.map tS))):=by
 refine runF_rt rfl ?_
 show B_shown_row [some (.tup [.str "answer",iT look,.str word],.sh [])]=_
 obtain ⟨v,q,rfl⟩:∃ v q,look=v::q:=by cases look with | nil=>exact absurd rfl hl | cons v q=>exact ⟨v,q,rfl⟩
 have hT:Wd ((v::q).map tS):=hW.tail
 have hp:=f_parts (w:=D.tup) (ps:=(v::q).map (Sum.inl:Int→Pt)) rfl (fun p m=>by
  obtain ⟨u,mu,rfl⟩:=List.mem_map.mp m
  exact hn u mu) (by rw [List.map_map];exact hT)
 rw [List.map_map,List.map_map] at hp
 have hp:F_shown_parts [iT (v::q)]=some (.str (Str.join bl ((v::q).map tS))):=hp
 have v0:eVar 0 [some (.tup [.str "answer",iT (v::q),.str word],.sh [])]=some (.tup [.str "answer",iT (v::q),.str word],.sh []):=rfl
 have t1:tV (e2 oEq (e2 oIx (eVar 0) (eC (.int 0))) (eC (.str "ask"))) [some (.tup [.str "answer",iT (v::q),.str word],.sh [])]=some false:=by kernel_rfl
 have t2:tV (e2 oEq (e2 oIx (eVar 0) (eC (.int 0))) (eC (.str "answer"))) [some (.tup [.str "answer",iT (v::q),.str word],.sh [])]=some true:=by kernel_rfl
 have i2:e2 oIx (eVar 0) (eC (.int 2)) [some (.tup [.str "answer",iT (v::q),.str word],.sh [])]=some (.str word,.own):=rfl
 have i1:e2 oIx (eVar 0) (eC (.int 1)) [some (.tup [.str "answer",iT (v::q),.str word],.sh [])]=some (iT (v::q),.own):=by
  rw [s_e2,v0,s_eC,s_k2]
  show Option.map _ (if imm (iT (v::q))=true then some (iT (v::q)) else none)=_
  have hi:imm (iT (v::q))=true:=imm_ints _
  rw [if_pos hi];rfl
 have c1:eCall F_shown_parts (aCons (e2 oIx (eVar 0) (eC (.int 1))) aNil) [some (.tup [.str "answer",iT (v::q),.str word],.sh [])]=some (.str (Str.join bl ((v::q).map tS)),.own):=by
  rw [s_call,s_aCons,i1,s_aNil,s_consK,s_bind]
  simp only [List.map_cons,List.map_nil]
  simp only [List.map_cons] at hp
  rw [hp];rfl
 have l1:=hT.len
 have l2:=hW.ln word List.mem_cons_self
 have l3:=bl_len
 have l4:(word++bl).length=word.length + 1:=by rw [Str.length_append,l3]
 unfold B_shown_row
 rw [s_seq,s_if,t1,s_ifF,s_nx,s_seqN,s_seq,s_if,t2,s_ifT,s_ret,s_e2,s_e2,i2,s_eC,s_k2,s_cat (by rw [l3];omega),s_map,c1,s_k2,s_cat (by rw [l4];omega)]
 rfl
def rJ (W:List Str) (t:Str) (s2:Slot):Rho:=[some (sL W,.sh []),some (.str t,.own),s2]
theorem lp_j {W0:List Str}:∀ {R:List Str}{t:Str}{s2:Slot},(s2=none∨∃ y,s2=some (.str y,.sh []))→(∀ w∈R,w.length≤12)→t.length + 13 * R.length≤9000→∃ t2,loopF (gN 2) (.sh []) (sSet 1 (e2 oCatS (e2 oCatS (eVar 1) (eC (.str " "))) (eVar 2))) (R.map D.str) (rJ W0 t s2)=some (.nx (rJ W0 (R.foldl (fun a p=>a++bl++p) t) t2))
 | [],t,s2,_,_,_=>⟨s2,rfl⟩
 | w::R,t,s2,hs,hw,hl=>by
  rw [List.length_cons] at hl
  have hw1:=hw w List.mem_cons_self
  have l3:=bl_len
  have l4:(t++bl).length=t.length + 1:=by rw [Str.length_append,l3]
  have st:sSet 1 (e2 oCatS (e2 oCatS (eVar 1) (eC (.str " "))) (eVar 2)) (rJ W0 t (some (.str w,.sh [])))=some (.nx (rJ W0 (t++bl++w) (some (.str w,.sh [])))):=by
   have v1:eVar 1 (rJ W0 t (some (.str w,.sh [])))=some (.str t,.sh [1]):=rfl
   have v2:eVar 2 (rJ W0 t (some (.str w,.sh [])))=some (.str w,.sh []):=rfl
   rw [s_set,s_e2,s_e2,v1,v2,s_eC,s_k2,s_cat (by rw [l3];omega),s_map,s_k2,s_cat (by rw [l4];omega)];rfl
  obtain ⟨t2,ih⟩:=lp_j (W0:=W0) (R:=R) (t:=t++bl++w) (s2:=some (.str w,.sh [])) (.inr ⟨w,rfl⟩) (fun y m=>hw y (List.mem_cons_of_mem _ m)) (by rw [Str.length_append,l4];omega)
  refine ⟨t2,?_⟩
  rw [List.map_cons,loop_c rfl st]
  exact ih
theorem fold_join:∀ (R:List Str) (x:Str),R.foldl (fun a p=>a++bl++p) x=Str.join bl (x::R)
 | [],x=>rfl
 | y::R,x=>by
  rw [List.foldl_cons,fold_join R (x++bl++y),StrLaws.join_shift];rfl
theorem f_joined {W:List Str} (h:Wd W):F_L_joined [sL W]=some (.str (Str.join bl W)):=by
 obtain ⟨w,R,rfl⟩:∃ w R,W=w::R:=by cases W with | nil=>exact absurd rfl h.ne | cons w R=>exact ⟨w,R,rfl⟩
 have hf:=h.few
 rw [List.length_cons] at hf
 have hw:=h.ln w List.mem_cons_self
 refine runF_rt rfl ?_
 show B_L_joined [some (sL (w::R),.sh []),none,none]=_
 have v0:eVar 0 [some (sL (w::R),.sh []),none,none]=some (.lst ((w::R).map D.str),.sh []):=rfl
 have q1:sSet 1 (e2 oIx (eVar 0) (eC (.int 0))) [some (sL (w::R),.sh []),none,none]=some (.nx (rJ (w::R) w none)):=by
  have ha:atI ((w::R).map D.str) 0=some (.str w):=by
   unfold atI ixN
   rw [if_pos (by decide),if_pos (by rw [List.length_map,List.length_cons];omega)];rfl
  rw [s_set,s_e2,v0,s_eC,s_k2,s_ixL ha rfl];rfl
 have hi:iSeqF (e1 (oCut (some 1) none) (eVar 0)) (rJ (w::R) w none)=some (R.map D.str,.own):=by
  have v0:eVar 0 (rJ (w::R) w none)=some (.lst ((w::R).map D.str),.sh []):=rfl
  have:e1 (oCut (some 1) none) (eVar 0) (rJ (w::R) w none)=some (.lst (R.map D.str),.own):=by
   rw [s_e1,v0,s_k1]
   show Option.map _ (if immAll ((w::R).map D.str)=true then some (D.lst (cutD ((w::R).map D.str) (some 1) none)) else none)=_
   rw [if_pos (imm_strs _),cut1];rfl
  exact iseqL this
 obtain ⟨t2,lp⟩:=lp_j (W0:=w::R) (R:=R) (t:=w) (s2:=none) (.inl rfl) (fun y m=>h.ln y (List.mem_cons_of_mem _ m)) (by omega)
 rw [fold_join] at lp
 unfold B_L_joined
 rw [s_seq,q1,s_seqN,s_seq,for_nx0 hi lp,s_seqN];rfl
theorem fr_dec {w:Str} (h:decide (32∈w.cps.toList)=false):Fr w:=of_decide_eq_false h
theorem wd_nums {x:Str}{l:List Int} (hf:Fr x) (hx:x.length≤12) (hn:∀ v∈l,Nm v) (hl:l.length≤90):Wd (x::l.map tS):=by
 refine ⟨by simp,fun w m=>?_,fun w m=>?_,by rw [List.length_cons,List.length_map];omega⟩
 ·rcases List.mem_cons.mp m with rfl | m
  ·exact hf
  ·obtain ⟨v,mv,rfl⟩:=List.mem_map.mp m
   exact tS_fr (hn v mv).1
 ·rcases List.mem_cons.mp m with rfl | m
  ·exact hx
  ·obtain ⟨v,mv,rfl⟩:=List.mem_map.mp m
   exact (tS_len (hn v mv)).2
theorem wd_wd {w:Int} (h:Nm w):Wd ["withdraw",tS w]:=wd_nums (l:=[w]) (fr_dec (by kernel_rfl)) (by decide +kernel) (fun v m=>by cases List.mem_singleton.mp m;exact h) (by simp)
theorem wd_one {x:Str} (hx:x="stop"∨x="go"):Wd [x]:=by
 refine wd_nums (l:=[]) ?_ ?_ (fun v m=>nomatch m) (by simp)
 ·rcases hx with rfl | rfl <;> exact fr_dec (by kernel_rfl)
 ·rcases hx with rfl | rfl <;> decide +kernel
theorem wd_an {look:List Int}{word:Str} (hn:∀ v∈look,Nm v) (hl:look.length≤30) (hw:word="yes"∨word="no"∨word="unsure"):Wd (word::look.map tS):=by
 refine wd_nums ?_ ?_ hn (by omega)
 ·rcases hw with rfl | rfl | rfl <;> exact fr_dec (by kernel_rfl)
 ·rcases hw with rfl | rfl | rfl <;> decide +kernel
theorem wd_ask {r:Int}{leans:List Int}{E:List Ed} (a:AskR r leans E):Wd (("ask":Str)::wAsk r leans E):=by
 have hll:=a.ll
 have hel:=a.el
 have key:∀ w∈("ask":Str)::wAsk r leans E,(w="ask"∨w="on"∨w="put")∨∃ v,Nm v∧w=tS v:=fun w m=>by
  rcases List.mem_cons.mp m with rfl | m
  ·exact .inl (.inl rfl)
  unfold wAsk at m
  rcases List.mem_cons.mp m with rfl | m
  ·exact .inr ⟨r,a.r,rfl⟩
  rcases List.mem_append.mp m with m | m
  ·unfold wL at m
   split at m
   ·cases m
   ·rcases List.mem_cons.mp m with rfl | m
    ·exact .inl (.inr (.inl rfl))
    ·obtain ⟨v,mv,rfl⟩:=List.mem_map.mp m
     exact .inr ⟨v,a.l v mv,rfl⟩
  ·unfold wP at m
   split at m
   ·cases m
   ·rcases List.mem_cons.mp m with rfl | m
    ·exact .inl (.inr (.inr rfl))
    ·obtain ⟨v,mv,rfl⟩:=List.mem_map.mp m
     exact .inr ⟨v,flat_nm a.e v mv,rfl⟩
 have hL:(wL leans).length≤9:=by
  unfold wL
  split
  ·simp
  ·rw [List.length_cons,List.length_map];omega
 have hP:(wP E).length≤61:=by
  unfold wP
  split
  ·simp
  ·rw [List.length_cons,List.length_map,flat_len];omega
 refine ⟨by simp,fun w m=>?_,fun w m=>?_,by unfold wAsk;rw [List.length_cons,List.length_cons,List.length_append];omega⟩
 ·rcases key w m with (rfl | rfl | rfl) | ⟨v,hv,rfl⟩
  ·exact fr_dec (by kernel_rfl)
  ·exact fr_dec (by kernel_rfl)
  ·exact fr_dec (by kernel_rfl)
  ·exact tS_fr hv.1
 ·rcases key w m with (rfl | rfl | rfl) | ⟨v,hv,rfl⟩
  ·decide +kernel
  ·decide +kernel
  ·decide +kernel
  ·exact (tS_len hv).2
theorem c_str {ρ:Rho}{it:IF}{l:List Int}{t:Tag} (hi:it ρ=some (l.map D.int,t)) (hn:∀ v∈l,Nm v) (hl:l.length≤1000):eComp [none] it (gN 0) tTrue (e1 oStr (eVar 0)) ρ=some (sL (l.map tS),.own):=by
 have hc:=c_map (js:=[none]) (g:=gN 0) (te:=e1 oStr (eVar 0)) (i:=D.int) (f:=fun v=>D.str (tS v)) hi (by omega) (fun v m=>by
  refine compE_own (ρ1:=[some (.int v,.sh [])]) rfl rfl ?_
  have v0:eVar 0 [some (.int v,.sh [])]=some (.int v,.sh []):=rfl
  rw [s_e1,v0,s_k1,show oStr (.int v)=some (.str (tS v)) from s_str (p:=.inl v) (hn v m)];rfl)
 rw [hc]
 unfold sL
 rw [List.map_map];rfl
theorem s_catS {A B:List Str} (h:A.length + B.length≤10000):oCat (sL A) (sL B)=some (sL (A++B)):=by
 show (if (immAll (A.map D.str)&&immAll (B.map D.str)&&decide ((A.map D.str).length + (B.map D.str).length≤sizeLine))=true then some (D.lst (A.map D.str++B.map D.str)) else none)=_
 rw [if_pos (by rw [imm_strs,imm_strs,List.length_map,List.length_map,decide_eq_true (Nat.le_of_lt (size_le h))];rfl),← List.map_append];rfl
theorem f_text_an {look:List Int}{word:Str} (hn:∀ v∈look,Nm v) (hl:look.length≤30) (hW:Wd (word::look.map tS)):F_L_text [.tup [.str "answer",iT look,.str word]]=some (.str (Str.join bl (word::look.map tS))):=by
 refine runF_rt rfl ?_
 show B_L_text [some (.tup [.str "answer",iT look,.str word],.sh []),none,none]=_
 have v0:eVar 0 [some (.tup [.str "answer",iT look,.str word],.sh []),none,none]=some (.tup [.str "answer",iT look,.str word],.sh []):=rfl
 have t1:tV (e2 oEq (e2 oIx (eVar 0) (eC (.int 0))) (eC (.str "answer"))) [some (.tup [.str "answer",iT look,.str word],.sh []),none,none]=some true:=by kernel_rfl
 have i1:e2 oIx (eVar 0) (eC (.int 1)) [some (.tup [.str "answer",iT look,.str word],.sh []),none,none]=some (.tup (look.map D.int),.own):=by
  rw [s_e2,v0,s_eC,s_k2]
  show Option.map _ (if imm (iT look)=true then some (iT look) else none)=_
  have hi:imm (iT look)=true:=imm_ints _
  rw [if_pos hi];rfl
 have hi:iSeqF (e2 oIx (eVar 0) (eC (.int 1))) [some (.tup [.str "answer",iT look,.str word],.sh []),none,none]=some (look.map D.int,.own):=by
  unfold iSeqF
  rw [i1]
 have e1':eLstI (aCons (e2 oIx (eVar 0) (eC (.int 2))) aNil) [some (.tup [.str "answer",iT look,.str word],.sh []),none,none]=some (sL [word],.own):=rfl
 unfold B_L_text
 rw [s_seq,s_if,t1,s_ifT,s_ret,s_call,s_aCons,s_e2,e1',c_str hi hn (by omega),s_k2,s_catS (by simp;omega),s_map,s_aNil,s_consK,s_bind]
 simp only [List.map_cons,List.map_nil]
 show seqK _ (retK ((F_L_joined [sL (word::look.map tS)]).map _))=_
 rw [f_joined hW];rfl
theorem f_text_wd {w:Int} (hn:Nm w):F_L_text [.tup [.str "withdraw",.int w]]=some (.str (Str.join bl ["withdraw",tS w])):=by
 refine runF_rt rfl ?_
 show B_L_text [some (.tup [.str "withdraw",.int w],.sh []),none,none]=_
 have t1:tV (e2 oEq (e2 oIx (eVar 0) (eC (.int 0))) (eC (.str "answer"))) [some (.tup [.str "withdraw",.int w],.sh []),none,none]=some false:=by kernel_rfl
 have q1:sSet 1 (eLstI (aCons (e2 oIx (eVar 0) (eC (.int 0))) aNil)) [some (.tup [.str "withdraw",.int w],.sh []),none,none]=some (.nx [some (.tup [.str "withdraw",.int w],.sh []),some (sL ["withdraw"],.own),none]):=rfl
 have t2:tOr2 (tV (e2 oEq (e2 oIx (eVar 0) (eC (.int 0))) (eC (.str "withdraw")))) (tV (e2 oEq (e2 oIx (eVar 0) (eC (.int 0))) (eC (.str "ask")))) [some (.tup [.str "withdraw",.int w],.sh []),some (sL ["withdraw"],.own),none]=some true:=by kernel_rfl
 have q2:sApp 1 (e1 oStr (e2 oIx (eVar 0) (eC (.int 1)))) [some (.tup [.str "withdraw",.int w],.sh []),some (sL ["withdraw"],.own),none]=some (.nx [some (.tup [.str "withdraw",.int w],.sh []),some (sL ["withdraw",tS w],.own),none]):=by
  have i1:e2 oIx (eVar 0) (eC (.int 1)) [some (.tup [.str "withdraw",.int w],.sh []),some (sL ["withdraw"],.own),none]=some (.int w,.own):=rfl
  have e:e1 oStr (e2 oIx (eVar 0) (eC (.int 1))) [some (.tup [.str "withdraw",.int w],.sh []),some (sL ["withdraw"],.own),none]=some (.str (tS w),.own):=by
   rw [s_e1,i1,s_k1,show oStr (.int w)=some (.str (tS w)) from s_str (p:=.inl w) hn];rfl
  unfold sApp
  rw [e];rfl
 have t3:tV (e2 oEq (e2 oIx (eVar 0) (eC (.int 0))) (eC (.str "ask"))) [some (.tup [.str "withdraw",.int w],.sh []),some (sL ["withdraw",tS w],.own),none]=some false:=by kernel_rfl
 unfold B_L_text
 rw [s_seq,s_if,t1,s_ifF,s_nx,s_seqN,s_seq,q1,s_seqN,s_seq,s_if,t2,s_ifT,q2,s_seqN,s_seq,s_if,t3,s_ifF,s_nx,s_seqN,s_ret,s_call]
 show retK ((F_L_joined [sL ["withdraw",tS w]]).map _)=_
 rw [f_joined (wd_wd hn)];rfl
theorem f_text_one {x:Str} (hx:x="stop"∨x="go"):F_L_text [.tup [.str x]]=some (.str (Str.join bl [x])):=by
 rcases hx with rfl | rfl <;> kernel_rfl
def row3 (p:Ed):List Int:=[p.1,p.2.1,p.2.2]
theorem rows3 (E:List Ed):E.map dT=dRows (E.map row3):=by unfold dRows;rw [List.map_map];rfl
theorem py_iT (l:List Int):py (iT l)=.tuple (l.map PyData.int):=by unfold iT;unfold py;rw [pys_ints]
theorem py_eT (E:List Ed):py (.tup (E.map dT))=.tuple ((E.map row3).map pRow):=by rw [rows3];unfold py;rw [pys_rows]
theorem ok_iT (l:List Int):okPy (iT l)=true:=by unfold iT;unfold okPy;exact okPys_ints _
theorem ok_eT (E:List Ed):okPy (.tup (E.map dT))=true:=by rw [rows3];unfold okPy;exact okPys_rows _
theorem lay_iT (l:List Int):layOk (iT l)=true:=by
 unfold layOk
 rw [ok_iT,py_iT]
 have c2:(PyData.tuple (l.map PyData.int)).canLay0=true:=by simp only [PyData.canLay0];exact canAll_ints l
 have c3:(PyData.tuple (l.map PyData.int)).depth≤40:=by simp only [PyData.depth,depthAll_ints];omega
 rw [c2,decide_eq_true c3];rfl
theorem lay_eT (E:List Ed):layOk (.tup (E.map dT))=true:=by
 obtain ⟨h1,h2⟩:=canAll_rows (E.map row3)
 unfold layOk
 rw [ok_eT,py_eT]
 have c2:(PyData.tuple ((E.map row3).map pRow)).canLay0=true:=by simp only [PyData.canLay0];exact h1
 have c3:(PyData.tuple ((E.map row3).map pRow)).depth≤40:=by simp only [PyData.depth];omega
 rw [c2,decide_eq_true c3];rfl
theorem ne_nil {ds:List D} (h:layOk (.tup ds)=true):oNeP (.tup ds) (.tup [])=some (.bl (!ds.isEmpty)):=by
 cases ds with
 | nil=>exact s_nePR h
 | cons d r=>
  unfold oNeP
  rw [h,show layOk (.tup [])=true from lay_iT [],Bool.and_self,if_pos rfl,py,py,pys,pys]
  simp [PyData.eqv,PyData.eqvAll]
def rTx (r:Int) (leans:List Int) (E:List Ed) (W:List Str) (s2:Slot):Rho:=[some (askD r leans E,.sh []),some (sL W,.own),s2]
theorem tx_i1 {r:Int}{leans:List Int}{E:List Ed}{W:List Str}{s2:Slot}:e2 oIx (eVar 0) (eC (.int 1)) (rTx r leans E W s2)=some (.int r,.own):=rfl
theorem tx_i2 {r:Int}{leans:List Int}{E:List Ed}{W:List Str}{s2:Slot}:e2 oIx (eVar 0) (eC (.int 2)) (rTx r leans E W s2)=some (iT leans,.own):=by
 have v0:eVar 0 (rTx r leans E W s2)=some (askD r leans E,.sh []):=rfl
 rw [s_e2,v0,s_eC,s_k2]
 show Option.map _ (if imm (iT leans)=true then some (iT leans) else none)=_
 have hi:imm (iT leans)=true:=imm_ints leans
 rw [if_pos hi];rfl
theorem tx_i3 {r:Int}{leans:List Int}{E:List Ed}{W:List Str}{s2:Slot}:e2 oIx (eVar 0) (eC (.int 3)) (rTx r leans E W s2)=some (.tup (E.map dT),.own):=by
 have v0:eVar 0 (rTx r leans E W s2)=some (askD r leans E,.sh []):=rfl
 rw [s_e2,v0,s_eC,s_k2]
 show Option.map _ (if imm (.tup (E.map dT))=true then some (D.tup (E.map dT)) else none)=_
 have hi:imm (.tup (E.map dT))=true:=imm_eds E
 rw [if_pos hi];rfl
theorem tx_app {r:Int}{leans:List Int}{E:List Ed}{W:List Str}{x:Str}{f:EF}{t:Tag} (h:f (rTx r leans E W none)=some (.str x,t)) (hl:W.length≤1000):sApp 1 f (rTx r leans E W none)=some (.nx (rTx r leans E (W++[x]) none)):=by
 unfold sApp
 rw [h]
 show (if (imm (.str x)&&immAll (W.map D.str)&&decide ((W.map D.str).length < sizeLine))=true then some (Out.nx (mutS (rTx r leans E W none) 1 (.lst (W.map D.str++[.str x])))) else none)=_
 rw [if_pos (by rw [imm_strs,List.length_map,decide_eq_true (size_le (by omega))];rfl)]
 unfold rTx sL
 rw [List.map_append];rfl
theorem tx_lp {r:Int}{leans:List Int}{E0:List Ed}:∀ {E:List Ed}{W:List Str}{s2:Slot},(∀ p∈E,Nm p.1∧Nm p.2.1∧Nm p.2.2)→W.length + 3 * E.length≤1000→∃ t2,loopF (gN 2) (.sh []) (sSet 1 (e2 oCat (eVar 1) (eComp [none] (iSeqF (eVar 2)) (gN 0) tTrue (e1 oStr (eVar 0))))) (E.map dT) (rTx r leans E0 W s2)=some (.nx (rTx r leans E0 (W++(flat E).map tS) t2))
 | [],W,s2,_,_=>⟨s2,by rw [show (flat []).map tS=([]:List Str) from rfl,List.append_nil];rfl⟩
 | p::E,W,s2,hp,h=>by
  rw [List.length_cons] at h
  obtain ⟨p1,p2,p3⟩:=hp p List.mem_cons_self
  have st:sSet 1 (e2 oCat (eVar 1) (eComp [none] (iSeqF (eVar 2)) (gN 0) tTrue (e1 oStr (eVar 0)))) (rTx r leans E0 W (some (dT p,.sh [])))=some (.nx (rTx r leans E0 (W++[tS p.1,tS p.2.1,tS p.2.2]) (some (dT p,.sh [])))):=by
   have v1:eVar 1 (rTx r leans E0 W (some (dT p,.sh [])))=some (sL W,.sh [1]):=rfl
   have hc:=c_str (ρ:=rTx r leans E0 W (some (dT p,.sh []))) (it:=iSeqF (eVar 2)) (l:=[p.1,p.2.1,p.2.2]) (t:=.sh []) rfl (fun v m=>by
    simp only [List.mem_cons,List.not_mem_nil,or_false] at m
    rcases m with rfl | rfl | rfl
    ·exact p1
    ·exact p2
    ·exact p3) (by simp)
   rw [s_set,s_e2,v1,hc,s_k2,s_catS (by simp;omega)];rfl
  obtain ⟨t2,ih⟩:=tx_lp (r:=r) (leans:=leans) (E0:=E0) (E:=E) (W:=W++[tS p.1,tS p.2.1,tS p.2.2]) (s2:=some (dT p,.sh [])) (fun q m=>hp q (List.mem_cons_of_mem _ m)) (by simp;omega)
  refine ⟨t2,?_⟩
  rw [List.map_cons,loop_c rfl st,ih,List.append_assoc];rfl
theorem f_text_ask {r:Int}{leans:List Int}{E:List Ed} (a:AskR r leans E):F_L_text [askD r leans E]=some (.str (Str.join bl (("ask":Str)::wAsk r leans E))):=by
 have hll:=a.ll
 have hel:=a.el
 refine runF_rt rfl ?_
 show B_L_text [some (askD r leans E,.sh []),none,none]=_
 have t1:tV (e2 oEq (e2 oIx (eVar 0) (eC (.int 0))) (eC (.str "answer"))) [some (askD r leans E,.sh []),none,none]=some false:=by kernel_rfl
 have q1:sSet 1 (eLstI (aCons (e2 oIx (eVar 0) (eC (.int 0))) aNil)) [some (askD r leans E,.sh []),none,none]=some (.nx (rTx r leans E ["ask"] none)):=rfl
 have t2:tOr2 (tV (e2 oEq (e2 oIx (eVar 0) (eC (.int 0))) (eC (.str "withdraw")))) (tV (e2 oEq (e2 oIx (eVar 0) (eC (.int 0))) (eC (.str "ask")))) (rTx r leans E ["ask"] none)=some true:=by kernel_rfl
 have q2:sApp 1 (e1 oStr (e2 oIx (eVar 0) (eC (.int 1)))) (rTx r leans E ["ask"] none)=some (.nx (rTx r leans E ["ask",tS r] none)):=
  tx_app (W:=["ask"]) (x:=tS r) (t:=.own) (by rw [s_e1,tx_i1,s_k1,show oStr (.int r)=some (.str (tS r)) from s_str (p:=.inl r) a.r];rfl) (by simp)
 have t3:tV (e2 oEq (e2 oIx (eVar 0) (eC (.int 0))) (eC (.str "ask"))) (rTx r leans E ["ask",tS r] none)=some true:=by kernel_rfl
 have q3:sIf (tV (e2 oNeP (e2 oIx (eVar 0) (eC (.int 2))) (eTup aNil))) (sSet 1 (e2 oCat (e2 oCat (eVar 1) (eLstI (aCons (eC (.str "on")) aNil))) (eComp [none] (iSeqF (e2 oIx (eVar 0) (eC (.int 2)))) (gN 0) tTrue (e1 oStr (eVar 0))))) sNx (rTx r leans E ["ask",tS r] none)=some (.nx (rTx r leans E ((["ask",tS r]:List Str)++wL leans) none)):=by
  have ht:tV (e2 oNeP (e2 oIx (eVar 0) (eC (.int 2))) (eTup aNil)) (rTx r leans E ["ask",tS r] none)=some (!(leans.map D.int).isEmpty):=by
   have et:eTup aNil (rTx r leans E ["ask",tS r] none)=some (.tup [],.own):=rfl
   rw [s_tV,s_e2,tx_i2,et,s_k2]
   unfold iT
   rw [ne_nil (lay_iT leans)];rfl
  rw [s_if,ht]
  cases leans with
  | nil=>rfl
  | cons x q=>
   rw [show (!(List.map D.int (x::q)).isEmpty)=true from rfl,s_ifT]
   have v1:eVar 1 (rTx r (x::q) E ["ask",tS r] none)=some (sL ["ask",tS r],.sh [1]):=rfl
   have eo:eLstI (aCons (eC (.str "on")) aNil) (rTx r (x::q) E ["ask",tS r] none)=some (sL ["on"],.own):=rfl
   have hi:iSeqF (e2 oIx (eVar 0) (eC (.int 2))) (rTx r (x::q) E ["ask",tS r] none)=some ((x::q).map D.int,.own):=by
    unfold iSeqF
    rw [tx_i2];rfl
   rw [s_set,s_e2,s_e2,v1,eo,s_k2,s_catS (by simp),s_map,c_str hi a.l (by omega),s_k2,s_catS (by simp at hll ⊢;omega)];rfl
 generalize hW:(["ask",tS r]:List Str)++wL leans=W at q3
 have hWl:W.length≤20:=by
  rw [← hW]
  cases leans with
  | nil=>simp [wL]
  | cons x q=>simp [wL] at hll ⊢;omega
 have t4:tV (e2 oNeP (e2 oIx (eVar 0) (eC (.int 3))) (eTup aNil)) (rTx r leans E W none)=some (!(E.map dT).isEmpty):=by
  have et:eTup aNil (rTx r leans E W none)=some (.tup [],.own):=rfl
  rw [s_tV,s_e2,tx_i3,et,s_k2,ne_nil (lay_eT E)];rfl
 have hi3:∀ W',iSeqF (e2 oIx (eVar 0) (eC (.int 3))) (rTx r leans E W' none)=some (E.map dT,.own):=fun W'=>by
  unfold iSeqF
  rw [tx_i3]
 have q4:∃ s2,sSeq (sIf (tV (e2 oNeP (e2 oIx (eVar 0) (eC (.int 3))) (eTup aNil))) (sApp 1 (eC (.str "put"))) sNx) (sFor (iSeqF (e2 oIx (eVar 0) (eC (.int 3)))) (gN 2) (sSet 1 (e2 oCat (eVar 1) (eComp [none] (iSeqF (eVar 2)) (gN 0) tTrue (e1 oStr (eVar 0)))))) (rTx r leans E W none)=some (.nx (rTx r leans E (W++wP E) s2)):=by
  rw [s_seq,s_if,t4]
  cases E with
  | nil=>
   refine ⟨none,?_⟩
   rw [show (!(List.map dT []).isEmpty)=false from rfl,s_ifF,s_nx,s_seqN,for_nx0 (hi3 W) rfl,show wP []=[] from rfl,List.append_nil]
  | cons p q=>
   rw [show (!(List.map dT (p::q)).isEmpty)=true from rfl,s_ifT,tx_app (x:="put") (t:=.own) rfl (by omega),s_seqN]
   obtain ⟨s2,lp⟩:=tx_lp (r:=r) (leans:=leans) (E0:=p::q) (E:=p::q) (W:=W++[("put":Str)]) (s2:=none) a.e (by simp at hel ⊢;omega)
   refine ⟨s2,?_⟩
   rw [for_nx0 (hi3 _) lp,List.append_assoc];rfl
 obtain ⟨s2,q4⟩:=q4
 have v1:eVar 1 (rTx r leans E (W++wP E) s2)=some (sL (W++wP E),.sh [1]):=rfl
 have hfin:W++wP E=("ask":Str)::wAsk r leans E:=by rw [← hW];rfl
 unfold B_L_text
 rw [s_seq,s_if,t1,s_ifF,s_nx,s_seqN,s_seq,q1,s_seqN,s_seq,s_if,t2,s_ifT,q2,s_seqN,s_seq,s_if,t3,s_ifT,s_seq,q3,s_seqN,q4,s_seqN,s_ret,s_call,s_aCons,v1,s_aNil,s_consK,s_bind]
 simp only [List.map_cons,List.map_nil]
 rw [hfin,f_joined (wd_ask a)];rfl
def bodyP (G:List D→Option D):SF:=(sSeq (sIf (tV (e1 (oIsiB "tuple") (eVar 0))) (sRet (e1 oAll (eComp [none] (iSeqF (eVar 0)) (gN 0) tTrue (eCall G (aCons (eVar 0) aNil))))) sNx) (sRet (eAnd (e1 oIsIS (eVar 0)) (e1 oNot (e1 (oIsi "bool") (eVar 0))))))
theorem P4_eq:F_L_plain=runF 1 1 (bodyP (runF 1 1 (bodyP (runF 1 1 (bodyP (runF 1 1 (bodyP fun _=>none))))))):=rfl
theorem pl_int {G:List D→Option D} (a:Int):runF 1 1 (bodyP G) [.int a]=some (.bl true):=rfl
theorem pl_str {G:List D→Option D} (a:Str):runF 1 1 (bodyP G) [.str a]=some (.bl true):=rfl
theorem pl_tup {G:List D→Option D}{ds:List D} (hl:ds.length≤1000) (h:∀ d∈ds,G [d]=some (.bl true)):runF 1 1 (bodyP G) [.tup ds]=some (.bl true):=by
 refine runF_rt rfl ?_
 show bodyP G [some (.tup ds,.sh [])]=_
 have c1:tV (e1 (oIsiB "tuple") (eVar 0)) [some (.tup ds,.sh [])]=some true:=rfl
 have hc:=c_map (js:=[none]) (g:=gN 0) (te:=eCall G (aCons (eVar 0) aNil)) (i:=id) (f:=fun _=>D.bl true) (ρ:=[some (.tup ds,.sh [])]) (it:=iSeqF (eVar 0)) (l:=ds) (t:=.sh []) (by rw [List.map_id];rfl) (by omega) (fun d m=>by
  refine compE_own (ρ1:=[some (d,.sh [])]) rfl rfl ?_
  have v0:eVar 0 [some (d,.sh [])]=some (d,.sh []):=rfl
  rw [s_call,s_aCons,v0,s_aNil,s_consK,s_bind]
  simp only [List.map_cons,List.map_nil]
  rw [h d m];rfl)
 unfold bodyP
 rw [s_seq,s_if,c1,s_ifT,s_ret,s_e1,hc,s_k1]
 have hb:∀ l:List D,boolsD (l.map fun _=>D.bl true)=some (l.map fun _=>true):=fun l=>by
  induction l with
  | nil=>rfl
  | cons a r ih=>rw [List.map_cons,boolsD,ih];rfl
 have ha:∀ l:List D,(l.map fun _=>true).all id=true:=fun l=>by simp
 have:oAll (.lst (ds.map fun _=>D.bl true))=some (.bl true):=by
  show (boolsD (ds.map fun _=>D.bl true)).map _=_
  rw [hb,Option.map_some,ha]
 rw [this];rfl
theorem pl_ints {G:List D→Option D}{l:List Int} (hl:l.length≤1000):runF 1 1 (bodyP (runF 1 1 (bodyP G))) [iT l]=some (.bl true):=
 pl_tup (by rw [List.length_map];exact hl) fun d m=>by
  obtain ⟨v,_,rfl⟩:=List.mem_map.mp m
  exact pl_int v
theorem plain_row {d:D} (h:Row d):F_L_plain [d]=some (.bl true):=by
 rw [P4_eq]
 cases h with
 | @ask r leans E a=>
  have:=a.ll
  have:=a.el
  refine pl_tup (by simp) fun d m=>?_
  simp only [List.mem_cons,List.not_mem_nil,or_false] at m
  rcases m with rfl | rfl | rfl | rfl
  ·exact pl_str _
  ·exact pl_int _
  ·exact pl_ints (by omega)
  ·refine pl_tup (by rw [List.length_map];omega) fun d m=>?_
   obtain ⟨p,_,rfl⟩:=List.mem_map.mp m
   exact pl_ints (l:=[p.1,p.2.1,p.2.2]) (by simp)
 | wd _=>
  refine pl_tup (by simp) fun d m=>?_
  simp only [List.mem_cons,List.not_mem_nil,or_false] at m
  rcases m with rfl | rfl
  ·exact pl_str _
  ·exact pl_int _
 | an _ _ _ _=>
  refine pl_tup (by simp) fun d m=>?_
  simp only [List.mem_cons,List.not_mem_nil,or_false] at m
  rcases m with rfl | rfl | rfl
  ·exact pl_str _
  ·exact pl_ints (by omega)
  ·exact pl_str _
 | st=>rfl
 | go=>rfl
theorem isi_row {d:D} (h:Row d):oIsiB "tuple" d=some (.bl true):=by cases h <;> rfl
theorem ne_row {d:D} (h:Row d):oNeP d d=some (.bl false):=by
 refine s_nePR ?_
 cases h with
 | @ask r leans E a=>
  obtain ⟨h1,h2⟩:=canAll_rows (E.map row3)
  have ep:py (askD r leans E)=.tuple [.str "ask",.int r,.tuple (leans.map PyData.int),.tuple ((E.map row3).map pRow)]:=by
   unfold askD;rw [py,pys,pys,pys,pys,pys,py_iT,py_eT];rfl
  have c1:okPy (askD r leans E)=true:=by unfold askD;rw [okPy,okPys,okPys,okPys,okPys,okPys,ok_iT,ok_eT];rfl
  have so:PyData.strOk "ask"=true:=by decide +kernel
  unfold layOk
  rw [c1,ep]
  have c2:(PyData.tuple [.str "ask",.int r,.tuple (leans.map PyData.int),.tuple ((E.map row3).map pRow)]).canLay0=true:=by
   simp only [PyData.canLay0,PyData.canLayAll0,canAll_ints,h1,so,Bool.and_self]
  have c3:(PyData.tuple [.str "ask",.int r,.tuple (leans.map PyData.int),.tuple ((E.map row3).map pRow)]).depth≤40:=by
   simp only [PyData.depth,PyData.depthAll,depthAll_ints];omega
  rw [c2,decide_eq_true c3];rfl
 | wd _=>
  unfold layOk
  have so:PyData.strOk "withdraw"=true:=by decide +kernel
  simp [okPy,okPys,py,pys,PyData.canLay0,PyData.canLayAll0,PyData.depth,PyData.depthAll,so]
 | @an look word _ _ _ hw=>
  have so:PyData.strOk "answer"=true:=by decide +kernel
  have sw:PyData.strOk word=true:=by rcases hw with rfl | rfl | rfl <;> decide +kernel
  have ep:py (.tup [.str "answer",iT look,.str word])=.tuple [.str "answer",.tuple (look.map PyData.int),.str word]:=by
   rw [py,pys,pys,pys,pys,py_iT];rfl
  have c1:okPy (.tup [.str "answer",iT look,.str word])=true:=by rw [okPy,okPys,okPys,okPys,okPys,ok_iT];rfl
  unfold layOk
  rw [c1,ep]
  have c2:(PyData.tuple [.str "answer",.tuple (look.map PyData.int),.str word]).canLay0=true:=by
   simp only [PyData.canLay0,PyData.canLayAll0,canAll_ints,so,sw,Bool.and_self]
  have c3:(PyData.tuple [.str "answer",.tuple (look.map PyData.int),.str word]).depth≤40:=by
   simp only [PyData.depth,PyData.depthAll,depthAll_ints];omega
  rw [c2,decide_eq_true c3];rfl
 | st=>decide +kernel
 | go=>decide +kernel
theorem row_text {d:D} (h:Row d):∃ t:Str,F_L_text [d]=some (.str t)∧F_shown_row [d]=some (.str t)∧F_read_row [.str t]=some d:=by
 cases h with
 | @ask r leans E a=>exact ⟨_,f_text_ask a,f_srow_ask a (wd_ask a),f_read_ask a (wd_ask a)⟩
 | @wd w hn=>exact ⟨_,f_text_wd hn,f_srow_parts (x:="withdraw") (l:=[w]) (by decide +kernel) (by decide +kernel) (fun v m=>by cases List.mem_singleton.mp m;exact hn) (wd_wd hn),f_read_wd hn (wd_wd hn)⟩
 | @an look word hn hl hs hw=>exact ⟨_,f_text_an hn hs (wd_an hn hs hw),f_srow_an hn hl (wd_an hn hs hw),f_read_an hn hl hw (wd_an hn hs hw)⟩
 | st=>exact ⟨_,f_text_one (x:="stop") (.inl rfl),f_srow_parts (x:="stop") (l:=[]) (by decide +kernel) (by decide +kernel) (fun v m=>nomatch m) (wd_one (.inl rfl)),f_read_one (.inl rfl) (wd_one (.inl rfl))⟩
 | go=>exact ⟨_,f_text_one (x:="go") (.inr rfl),f_srow_parts (x:="go") (l:=[]) (by decide +kernel) (by decide +kernel) (fun v m=>nomatch m) (wd_one (.inr rfl)),f_read_one (.inr rfl) (wd_one (.inr rfl))⟩
def rLw (ns:List Int) (s1 s2 s3:Slot):Rho:=[some (dI ns,.sh []),s1,s2,s3]
def bdL:SF:=(sSeq (sSet 2 (eCall F_L_text (aCons (eVar 1) aNil))) (sSeq (sIf (tV (e2 oNe (eCall F_shown_row (aCons (eVar 1) aNil)) (eVar 2))) (sRet (eC (.bl false))) sNx) (sSeq (sSet 3 (eCall F_read_row (aCons (eVar 2) aNil))) (sIf (tOr2 (tNot1 (tV (e1 (oIsiB "tuple") (eVar 3)))) (tOr2 (tNot1 (tV (eCall F_L_plain (aCons (eVar 3) aNil)))) (tV (e2 oNeP (eVar 3) (eVar 1))))) (sRet (eC (.bl false))) sNx))))
theorem bd_row {ns:List Int}{d:D}{s2 s3:Slot} (h:Row d):∃ t2 t3,bdL (rLw ns (some (d,.sh [])) s2 s3)=some (.nx (rLw ns (some (d,.sh [])) t2 t3)):=by
 obtain ⟨t,h1,h2,h3⟩:=row_text h
 refine ⟨some (.str t,.own),some (d,.own),?_⟩
 have c1:∀ (F:List D→Option D) (e:D) (s2 s3:Slot),F [d]=some e→eCall F (aCons (eVar 1) aNil) (rLw ns (some (d,.sh [])) s2 s3)=some (e,.own):=fun F e s2 s3 he=>by
  have v1:eVar 1 (rLw ns (some (d,.sh [])) s2 s3)=some (d,.sh []):=rfl
  rw [s_call,s_aCons,v1,s_aNil,s_consK,s_bind]
  simp only [List.map_cons,List.map_nil]
  rw [he];rfl
 have q1:sSet 2 (eCall F_L_text (aCons (eVar 1) aNil)) (rLw ns (some (d,.sh [])) s2 s3)=some (.nx (rLw ns (some (d,.sh [])) (some (.str t,.own)) s3)):=by rw [s_set,c1 _ _ _ _ h1];rfl
 have t1:tV (e2 oNe (eCall F_shown_row (aCons (eVar 1) aNil)) (eVar 2)) (rLw ns (some (d,.sh [])) (some (.str t,.own)) s3)=some false:=by
  have v2:eVar 2 (rLw ns (some (d,.sh [])) (some (.str t,.own)) s3)=some (.str t,.sh [2]):=rfl
  rw [s_tV,s_e2,c1 _ _ _ _ h2,v2,s_k2]
  show some (!(t == t))=_
  rw [beq_self_eq_true];rfl
 have q2:sSet 3 (eCall F_read_row (aCons (eVar 2) aNil)) (rLw ns (some (d,.sh [])) (some (.str t,.own)) s3)=some (.nx (rLw ns (some (d,.sh [])) (some (.str t,.own)) (some (d,.own)))):=by
  have v2:eVar 2 (rLw ns (some (d,.sh [])) (some (.str t,.own)) s3)=some (.str t,.sh [2]):=rfl
  rw [s_set,s_call,s_aCons,v2,s_aNil,s_consK,s_bind]
  simp only [List.map_cons,List.map_nil]
  rw [h3];rfl
 have v3:eVar 3 (rLw ns (some (d,.sh [])) (some (.str t,.own)) (some (d,.own)))=some (d,.sh [3]):=rfl
 have v1:eVar 1 (rLw ns (some (d,.sh [])) (some (.str t,.own)) (some (d,.own)))=some (d,.sh []):=rfl
 have a1:tNot1 (tV (e1 (oIsiB "tuple") (eVar 3))) (rLw ns (some (d,.sh [])) (some (.str t,.own)) (some (d,.own)))=some false:=by
  rw [s_not,s_tV,s_e1,v3,s_k1,isi_row h];rfl
 have a2:tNot1 (tV (eCall F_L_plain (aCons (eVar 3) aNil))) (rLw ns (some (d,.sh [])) (some (.str t,.own)) (some (d,.own)))=some false:=by
  rw [s_not,s_tV,s_call,s_aCons,v3,s_aNil,s_consK,s_bind]
  simp only [List.map_cons,List.map_nil]
  rw [plain_row h];rfl
 have a3:tV (e2 oNeP (eVar 3) (eVar 1)) (rLw ns (some (d,.sh [])) (some (.str t,.own)) (some (d,.own)))=some false:=by
  rw [s_tV,s_e2,v3,v1,s_k2,ne_row h];rfl
 unfold bdL
 rw [s_seq,q1,s_seqN,s_seq,s_if,t1,s_ifF,s_nx,s_seqN,s_seq,q2,s_seqN,s_if,s_or2 a1 (s_or2 a2 a3)];rfl
theorem lp_law {ns:List Int}:∀ {rows:List D}{s1 s2 s3:Slot},(∀ r∈rows,Row r)→∃ t1 t2 t3,loopF (gN 1) (.sh []) bdL rows (rLw ns s1 s2 s3)=some (.nx (rLw ns t1 t2 t3))
 | [],s1,s2,s3,_=>⟨s1,s2,s3,rfl⟩
 | d::rows,s1,s2,s3,h=>by
  obtain ⟨t2,t3,st⟩:=bd_row (ns:=ns) (s2:=s2) (s3:=s3) (h d List.mem_cons_self)
  obtain ⟨u1,u2,u3,ih⟩:=lp_law (ns:=ns) (rows:=rows) (s1:=some (d,.sh [])) (s2:=t2) (s3:=t3) fun r m=>h r (List.mem_cons_of_mem _ m)
  exact ⟨u1,u2,u3,by rw [loop_c rfl st,ih]⟩
theorem f_law {ns:List Int} (hl:ns.length≤63):F_law [dI ns]=some (.bl true):=by
 obtain ⟨rows,fr,_,hr⟩:=f_rows ns
 obtain ⟨t1,t2,t3,lp⟩:=lp_law (ns:=ns) (s1:=none) (s2:=none) (s3:=none) hr
 refine runF_rt rfl ?_
 show B_law (rLw ns none none none)=_
 have hi:iSeqF (eCall F_L_rows (aCons (eVar 0) aNil)) (rLw ns none none none)=some (rows,.own):=by
  have v0:eVar 0 (rLw ns none none none)=some (dI ns,.sh []):=rfl
  have:eCall F_L_rows (aCons (eVar 0) aNil) (rLw ns none none none)=some (.lst rows,.own):=by
   rw [s_call,s_aCons,v0,s_aNil,s_consK,s_bind]
   simp only [List.map_cons,List.map_nil]
   rw [fr];rfl
  unfold iSeqF
  rw [this]
 have q:=for_nx0 hi lp
 show sSeq (sFor (iSeqF (eCall F_L_rows (aCons (eVar 0) aNil))) (gN 1) bdL) (sRet (eC (.bl true))) (rLw ns none none none)=_
 rw [s_seq,q,s_seqN];rfl
end K71
namespace HT
open PySem PySem.W PyProof.Rows
def oddL:List Obj→List Obj
 | []=>[]
 | [a]=>[a]
 | a::_::l=>a::oddL l
def ofL:Nat→List Obj→BT
 | 0,_=>.nil
 | _ + 1,[]=>.nil
 | k + 1,o::l=>.node o (ofL k (oddL l)) (ofL k (oddL l.tail))
def runT (tb:String→Option Builtin) (p:Program) (w:World) (n₀:Nat) (ann:Option Value):Nat→SharedT→Thread→Option SharedT
 | 0,_,_=>none
 | k + 1,s,t=>match through t with
  | true=>some s
  | false=>match stepOk n₀ ann t with
   | false=>none
   | true=>match stepT (denote tb) p w s t with
    | none=>none
    | some (s',t')=>runT tb p w n₀ ann k s' t'
theorem runT_is {tb:String→Option Builtin}{p:Program}{w:World}{n₀:Nat}{ann:Option Value}:∀ {k:Nat}{s s':SharedT}{t:Thread},runT tb p w n₀ ann k s t=some s'→topRun tb p w n₀ ann k s.abs t=some s'.abs
 | 0,_,_,_,h=>by cases h
 | k + 1,s,s',t,h=>by
  unfold runT at h
  unfold topRun
  cases e:through t with
  | true=>rw [e] at h;cases h;rfl
  | false=>
   rw [e] at h
   cases o:stepOk n₀ ann t with
   | false=>rw [o] at h;cases h
   | true=>
    rw [o] at h
    cases g:stepT (denote tb) p w s t with
    | none=>rw [g] at h;cases h
    | some r=>obtain ⟨s2,t2⟩:=r;rw [g] at h;rw [stepT_spec g];exact runT_is h
noncomputable def bootT (P:Params):BT:=ofL 12 (boot_heap P).objs.toList
def bootN:Nat:=11
theorem boot_size (P:Params):(boot_heap P).objs.size=bootN:=by kernel_rfl
theorem boot_abs (P:Params):absHeap (bootT P) bootN (boot_heap P).life=boot_heap P:=by kernel_rfl
noncomputable def s0T (P:Params) (os:OsState):SharedT:=⟨bootT P,bootN,(boot_heap P).life,Array.mk [],boot_drawn,boot_toks,os⟩
theorem left_T {p q:Program}{loose:List Str}{Xt:Shared→Bool}{α:Type}{Yf:Shared→α}{Ya:World→α}{N:Nat}{ann:Option Value}
  (he:opening p=plainProg p.main.scope.names) (hf:∀ s,fenceModules? p s=some s) (hN:Nat.ble 600 N=true)
  (hz:∀ P:Params,((boot_heap P).isNs mainGlobals,(boot_heap P).nsMap mainGlobals "__annotations__")=(true,ann))
  (h:∀ (w:World) (os:OsState),(runT treeTable p w bootN ann N (s0T w.params os) (topStub p)).map (fun sT=>
    ((staticsOk (importedModules p.main.body) (boot_heap w.params) sT.abs.heap&&namesBound p sT.abs.heap&&gensDone sT.abs&&laidKept (boot_heap w.params) sT.abs.heap),openSeen q loose (importedModules p.main.body) Xt true sT.abs,Yf sT.abs))=some (true,openGood q loose,Ya w)) :
  LeftO p q loose Xt Yf Ya N:=fun w=>by
 obtain ⟨⟨hh,gs,d,k,os⟩,e,e'⟩:=Option.map_eq_some_iff.mp (boot_open he hN hf w)
 obtain ⟨rfl,rfl,rfl,rfl⟩:hh=boot_heap w.params∧gs=Array.mk []∧d=boot_drawn∧k=boot_toks:=by simpa using e'
 obtain ⟨z1,z2⟩:_∧_:=by simpa only [Prod.mk.injEq] using hz w.params
 obtain ⟨sT,r,l⟩:=Option.map_eq_some_iff.mp (h w os)
 obtain ⟨l1,l2,l3⟩:_∧_∧_:=by simpa only [Prod.mk.injEq] using l
 have r':=runT_is r
 have ab:(s0T w.params os).abs=⟨boot_heap w.params,Array.mk [],boot_drawn,boot_toks,os⟩:=by
  show Shared.mk (absHeap (bootT w.params) bootN (boot_heap w.params).life) _ _ _ _=_
  rw [boot_abs];rfl
 rw [ab] at r'
 have t:topFrom treeTable p w N ⟨boot_heap w.params,Array.mk [],boot_drawn,boot_toks,os⟩=some sT.abs:=by
  unfold topFrom
  dsimp only
  rw [z1,z2,boot_size,r']
  show (match staticsOk (importedModules p.main.body) (boot_heap w.params) sT.abs.heap&&namesBound p sT.abs.heap&&gensDone sT.abs&&laidKept (boot_heap w.params) sT.abs.heap with | true=>_ | false=>_)=_
  rw [l1]
 unfold openEnds
 rw [e]
 show (topFrom treeTable p w N _).map _=_
 rw [t]
 exact congrArg some (Prod.ext l2 l3)
theorem left_T2 {p q:Program}{loose:List Str}{Xt:Shared→Bool}{α:Type}{Yf:Shared→α}{Ya:World→α}{N:Nat}{ann:Option Value}
  (he:opening p=plainProg p.main.scope.names) (hf:∀ s,fenceModules? p s=some s) (hN:Nat.ble 600 N=true)
  (hz:∀ P:Params,((boot_heap P).isNs mainGlobals,(boot_heap P).nsMap mainGlobals "__annotations__")=(true,ann))
  (h1:∀ (w:World) (os:OsState),(runT treeTable p w bootN ann N (s0T w.params os) (topStub p)).map (fun sT=>((staticsOk (importedModules p.main.body) (boot_heap w.params) sT.abs.heap&&namesBound p sT.abs.heap&&gensDone sT.abs&&laidKept (boot_heap w.params) sT.abs.heap),openSeen q loose (importedModules p.main.body) Xt true sT.abs))=some (true,openGood q loose))
  (h3:∀ (w:World) (os:OsState),(runT treeTable p w bootN ann N (s0T w.params os) (topStub p)).map (fun sT=>Yf sT.abs)=some (Ya w)) :
  LeftO p q loose Xt Yf Ya N:=left_T he hf hN hz fun w os=>by
 obtain ⟨sT,r,e1⟩:=Option.map_eq_some_iff.mp (h1 w os)
 have e3:=h3 w os
 rw [r] at e3 ⊢
 have e3:=Option.some.inj e3
 obtain ⟨e1,e2⟩:_∧_:=by simpa only [Prod.mk.injEq] using e1
 show some (_,_,_)=some (true,openGood q loose,Ya w)
 rw [e1,← e2,← e3]
def tg (s:SharedT) (a:Nat):Option Obj:=match Nat.blt a s.n with
 | true=>match s.tree.get a with
  | some o=>alive o
  | none=>none
 | false=>none
theorem tg_is {s:SharedT}{a:Nat}{o:Obj} (h:tg s a=some o):s.abs.heap.get? a=some o:=by
 unfold tg at h
 cases e:Nat.blt a s.n with
 | false=>rw [e] at h;cases h
 | true=>
  rw [e] at h
  dsimp only at h
  cases g:s.tree.get a with
  | none=>rw [g] at h;cases h
  | some o'=>
   rw [g] at h
   have hlt:a < s.n:=by simpa using e
   exact (abs_get (life:=s.life) hlt g).trans h
theorem tgs_is {s:SharedT}:∀ {as:List Addr}{os:List Obj},as.map (tg s)=os.map some→as.map s.abs.heap.get? = os.map some
 | [],[],_=>rfl
 | [],_::_,h=>by cases h
 | _::_,[],h=>by cases h
 | a::as,o::os,h=>by
  rw [List.map_cons,List.map_cons] at h
  injection h with h1 h2
  rw [List.map_cons,List.map_cons,tg_is h1,tgs_is h2]
section
variable {p q:Program}{loose:List Str}{Xt:Shared→Bool}{N:Nat}{ann:Option Value}{K:Params→Frag}{as ts:List Addr}{e:∀ P,as=(K P).map (·.1)}
theorem left_Tk (he:opening p=plainProg p.main.scope.names) (hf:∀ s,fenceModules? p s=some s) (hN:Nat.ble 600 N=true)
  (hz:∀ P:Params,((boot_heap P).isNs mainGlobals,(boot_heap P).nsMap mainGlobals "__annotations__")=(true,ann))
  (h1:∀ (w:World) (os:OsState),(runT treeTable p w bootN ann N (s0T w.params os) (topStub p)).map (fun sT=>((staticsOk (importedModules p.main.body) (boot_heap w.params) sT.abs.heap&&namesBound p sT.abs.heap&&gensDone sT.abs&&laidKept (boot_heap w.params) sT.abs.heap),openSeen q loose (importedModules p.main.body) Xt true sT.abs))=some (true,openGood q loose))
  (h3:∀ (w:World) (os:OsState),(runT treeTable p w bootN ann N (s0T w.params os) (topStub p)).map (fun sT=>as.map (tg sT))=some (((K w.params).map (·.2)).map some)) :
  LeftO p q loose Xt (Hook.obs (kHook K as e)) (Hook.val (kHook K as e)) N:=left_T2 he hf hN hz h1 fun w os=>by
 obtain ⟨sT,r,e1⟩:=Option.map_eq_some_iff.mp (h3 w os)
 rw [r]
 show some (as.map sT.abs.heap.get?)=some ((K w.params).map fun p=>some p.2)
 rw [tgs_is e1,List.map_map];rfl
end
end HT
namespace K71
open PySem L2 L2.Ev
local macro_rules | `(tactic| walk_at "ba1")=>`(tactic| exact fun _ _ _ _ _ _ us hl=>match us,hl with | [_],_=>rfl)
local macro_rules | `(tactic| walk_at "ba2")=>`(tactic| exact fun _ _ _ _ _ _ us hl=>match us,hl with | [_,_],_=>rfl)
local macro_rules | `(tactic| walk_at "ba3")=>`(tactic| exact fun _ _ _ _ _ _ us hl=>match us,hl with | [_,_,_],_=>rfl)
set_option maxHeartbeats 0 in
theorem all_mk {l:PySem.W.OpenLaw}{w:World}{K:PySem.W.Frag}{h:Heap}{mg:Str→Option Value}{fa t_WORDS:Addr} (X:K.In h) (G:h.Ns mainGlobals mg) (hfa:mg "law"=some (.ref fa))
  {t_FIGURES t_MOST_FIGURES:Tok}
  {q0_WORDS q1_WORDS q2_WORDS:Tok}{qn_WORDS:Nat}{qs_WORDS:Array (Option Value)}
  (z_WORDS:PySem.W.nsIn K mainGlobals "WORDS"=some (some (.ref t_WORDS)))
  (lw_WORDS:K.lookup t_WORDS=some ⟨.type "tuple",none,.seq #[.str "yes" q0_WORDS,.str "no" q1_WORDS,.str "unsure" q2_WORDS] qn_WORDS,qs_WORDS⟩)
  (l0:GFn K "_law_cell_at" s_L_cell_at)
  (l1:GFn K "_law_mixed" s_L_mixed)
  (l2:GFn K "_law_number" s_L_number)
  (l3:GFn K "_law_numbers" s_L_numbers)
  (l4:GFn K "_law_asks" s_L_asks)
  (l5:GFn K "_law_rows" s_L_rows)
  (l6:GFn K "_law_joined" s_L_joined)
  (l7:GFn K "_law_text" s_L_text)
  (l8:GFn K "shown_parts" s_shown_parts)
  (l9:GFn K "shown_ask" s_shown_ask)
  (l10:GFn K "shown_row" s_shown_row)
  (l11:GFn K "words_ahead" s_words_ahead)
  (l12:GFn K "is_number" s_is_number)
  (l13:GFn K "read_number" s_read_number)
  (l14:GFn K "read_numbers" s_read_numbers)
  (l15:GFn K "numbers_behind" s_numbers_behind)
  (l16:GFn K "in_threes" s_in_threes)
  (l17:GFn K "read_ask" s_read_ask)
  (l18:GFn K "read_row" s_read_row)
  (l19:GFn K "_law_plain" s_L_plain)
  (l20:GFn K "law" s_law)
  (z_FIGURES:PySem.W.nsIn K mainGlobals "FIGURES"=some (some (.str "0123456789" t_FIGURES)))
  (z_MOST_FIGURES:PySem.W.nsIn K mainGlobals "MOST_FIGURES"=some (some (.int 12 t_MOST_FIGURES)))
  (z_all:PySem.W.nsIn K mainGlobals "all"=some none)
  (z_bool:PySem.W.nsIn K mainGlobals "bool"=some none)
  (z_int:PySem.W.nsIn K mainGlobals "int"=some none)
  (z_isinstance:PySem.W.nsIn K mainGlobals "isinstance"=some none)
  (z_len:PySem.W.nsIn K mainGlobals "len"=some none)
  (z_range:PySem.W.nsIn K mainGlobals "range"=some none)
  (z_str:PySem.W.nsIn K mainGlobals "str"=some none)
  (z_tuple:PySem.W.nsIn K mainGlobals "tuple"=some none)
  : ∃ fd:FuncData,(∀ (s:Shared) (v:Value),BindsTo s fd ⟨[v],[]⟩ [("_law_script",v)])∧∀ base:Heap,K.In base→base.Ns mainGlobals mg→FnOk l.prog w K mg base CX0 7 fa fd ["_law_script"] (spF K F_law):=by
 have g_all:=PySem.W.mg_none_of X G z_all
 have g_bool:=PySem.W.mg_none_of X G z_bool
 have g_int:=PySem.W.mg_none_of X G z_int
 have g_isinstance:=PySem.W.mg_none_of X G z_isinstance
 have g_len:=PySem.W.mg_none_of X G z_len
 have g_range:=PySem.W.mg_none_of X G z_range
 have g_str:=PySem.W.mg_none_of X G z_str
 have g_tuple:=PySem.W.mg_none_of X G z_tuple
 have m_FIGURES:=PySem.W.mg_of X G z_FIGURES
 have m_MOST_FIGURES:=PySem.W.mg_of X G z_MOST_FIGURES
 have m_WORDS:=PySem.W.mg_of X G z_WORDS
 have T_WORDS:=tupK_mk3 lw_WORDS
 refine lawW (sp:=fun _=>spF K F_law) X G hfa l20 (fun _ _ _ _ _ _ _ _=>.of_eq rfl) fun base _ _ _ _ F=>?_
 have W0:=fnW X G l0 (fun F=>ok_L_cell_at (P:=l.prog) (w:=w) (mg:=mg) (base:=base) g_len F) (by walk_at "ba2")
 have W1:=fnW X G l1 (fun F=>ok_L_mixed (P:=l.prog) (w:=w) (mg:=mg) (base:=base) F) (by walk_at "ba3")
 have W2:=fnW X G l2 (fun F=>ok_L_number (P:=l.prog) (w:=w) (mg:=mg) (base:=base) W0 W1 F) (by walk_at "ba2")
 have W3:=fnW X G l3 (fun F=>ok_L_numbers (P:=l.prog) (w:=w) (mg:=mg) (base:=base) g_range W2 F) (by walk_at "ba3")
 have W4:=fnW X G l4 (fun F=>ok_L_asks (P:=l.prog) (w:=w) (mg:=mg) (base:=base) g_len g_range g_tuple W0 W3 W1 W2 F) (by walk_at "ba1")
 have W5:=fnW X G l5 (fun F=>ok_L_rows (P:=l.prog) (w:=w) (mg:=mg) (base:=base) g_tuple W0 W3 W1 W2 W4 F) (by walk_at "ba1")
 have W6:=fnW X G l6 (fun F=>ok_L_joined (P:=l.prog) (w:=w) (mg:=mg) (base:=base) F) (by walk_at "ba1")
 have W7:=fnW X G l7 (fun F=>ok_L_text (P:=l.prog) (w:=w) (mg:=mg) (base:=base) g_str W6 F) (by walk_at "ba1")
 have W8:=fnW X G l8 (fun F=>ok_shown_parts (P:=l.prog) (w:=w) (mg:=mg) (base:=base) g_str F) (by walk_at "ba1")
 have W9:=fnW X G l9 (fun F=>ok_shown_ask (P:=l.prog) (w:=w) (mg:=mg) (base:=base) W8 F) (by walk_at "ba3")
 have W10:=fnW X G l10 (fun F=>ok_shown_row (P:=l.prog) (w:=w) (mg:=mg) (base:=base) W9 W8 F) (by walk_at "ba1")
 have W11:=fnW X G l11 (fun F=>ok_words_ahead (P:=l.prog) (w:=w) (mg:=mg) (base:=base) F) (by walk_at "ba2")
 have W12:=fnW X G l12 (fun F=>ok_is_number (P:=l.prog) (w:=w) (mg:=mg) (base:=base) g_all g_len m_FIGURES m_MOST_FIGURES F) (by walk_at "ba1")
 have W13:=fnW X G l13 (fun F=>ok_read_number (P:=l.prog) (w:=w) (mg:=mg) (base:=base) g_int W12 F) (by walk_at "ba1")
 have W14:=fnW X G l14 (fun F=>ok_read_numbers (P:=l.prog) (w:=w) (mg:=mg) (base:=base) g_tuple W13 F) (by walk_at "ba1")
 have W15:=fnW X G l15 (fun F=>ok_numbers_behind (P:=l.prog) (w:=w) (mg:=mg) (base:=base) W14 F) (by walk_at "ba2")
 have W16:=fnW X G l16 (fun F=>ok_in_threes (P:=l.prog) (w:=w) (mg:=mg) (base:=base) g_len g_range g_tuple F) (by walk_at "ba1")
 have W17:=fnW X G l17 (fun F=>ok_read_ask (P:=l.prog) (w:=w) (mg:=mg) (base:=base) g_len W11 W15 W16 W13 F) (by walk_at "ba1")
 have W18:=fnW X G l18 (fun F=>ok_read_row (P:=l.prog) (w:=w) (mg:=mg) (base:=base) g_len m_WORDS T_WORDS W17 W14 F) (by walk_at "ba1")
 have W19:=fnWr X G l19 (fun m k b F=>ok_L_plain (P:=l.prog) (w:=w) (mg:=mg) (base:=base) g_all g_bool g_int g_isinstance g_str g_tuple m k b F) (by walk_at "ba1")
 exact ok_law g_isinstance g_tuple W5 W7 W10 W18 W19 F
theorem walk {l:PySem.W.OpenLaw}{q:Program}{loose:List Str}{XP:(Str→Option Value)→Heap→Prop}{YP:World→Heap→Prop}{d:DefRec}{K:Params→PySem.W.Frag} (hn:l.most=some 63) (hdf:d.params.defaults=[])
  (hY:∀ (w:World) (h:Heap),YP w h→(K w.params).In h)
  (F:∀ (w:World) (mg:Str→Option Value) (fa:Addr) (h:Heap),(K w.params).In h→h.Ns mainGlobals mg→mg d.name=some (.ref fa) →
   ∃ fd:FuncData,(∀ (s:Shared) (u:Value),BindsTo s fd ⟨[u],[]⟩ [("_law_script",u)])∧∀ base:Heap,(K w.params).In base→base.Ns mainGlobals mg→FnOk l.prog w (K w.params) mg base CX0 7 fa fd ["_law_script"] (spF (K w.params) F_law)) :
  PySem.W.WalkO q loose XP YP l.row.toRowW d [] (fun f vs=>PySem.call f vs):=
 L2.walk_of (n:=63) (k:=7) (x:="_law_script") (CX:=fun _=>CX0) (sp:=fun w=>spF (K w.params) F_law) hn (by decide) hdf ⟨fun _=>rfl,by decide,by decide,rfl⟩ hY F (fun w H a ns hl hO hS=>by
  have hz:Frz (K w.params) H a (ns.map V.int):=by
   rcases hS with (h | h) | h
   ·rcases hO a with z | ⟨o,xs,z⟩ <;> rw [z] at h <;> cases h
   ·exact .inl h
   ·exact .inr h
  refine ⟨[dI ns],[]++[],.bl true,.cons (.lsf hz (reps_ints ns)) .nil,f_law hl,fun H' v fp' _ r _ _=>?_⟩
  cases r
  rfl) fun _ _ _ _ _ z=>z
end K71
namespace K71
open PySem PySem.W PyProof.Rows
def isNm:Stmt→Bool
 | .FunctionDef x ..=>!(x == "law")
 | _=>true
def lo:List Str:=(["LinegateError","NoText","WORDS","FIGURES","MOST_FIGURES","read_row","shown_row","read_ask","words_ahead","numbers_behind","in_threes","read_numbers","read_number","is_number","shown_ask","shown_parts","_law_cell_at","_law_mixed","_law_number","_law_numbers","_law_asks","_law_rows","_law_joined","_law_text","_law_plain"]:List String).map Str.ofString
def vw:Program:={ PySem.Challenge.pw_linegate_k71_rows_read_and_shown with main:={ (PySem.Challenge.pw_linegate_k71_rows_read_and_shown).main with body:=(PySem.Challenge.pw_linegate_k71_rows_read_and_shown).main.body.filter fun s=>!isNm s } }
def xt (s:Shared):Bool:=xlAt vw [] s&&recOk (RowW.records (OpenRow.toRowW (OpenLaw.row PySem.Challenge.rw_linegate_k71_rows_read_and_shown))) s
theorem xt1 (s:Shared) (e:xt s=true):XL vw [] (s.heap.nsMap mainGlobals) s.heap:=xl_of s (Bool.and_eq_true_iff.mp e).1
theorem rn (w:World) (os:OsState):(HT.runT treeTable PySem.Challenge.pw_linegate_k71_rows_read_and_shown w HT.bootN (some (.ref 6)) 20000 (HT.s0T w.params os) (topStub PySem.Challenge.pw_linegate_k71_rows_read_and_shown)).map (fun sT=>((staticsOk (importedModules (PySem.Challenge.pw_linegate_k71_rows_read_and_shown).main.body) (boot_heap w.params) sT.abs.heap&&namesBound PySem.Challenge.pw_linegate_k71_rows_read_and_shown sT.abs.heap&&gensDone sT.abs&&laidKept (boot_heap w.params) sT.abs.heap),openSeen vw lo (importedModules (PySem.Challenge.pw_linegate_k71_rows_read_and_shown).main.body) xt true sT.abs))=some (true,openGood vw lo):=by kernel_rfl
theorem xt2 (s:Shared) (e:xt s=true):RecFacts (RowW.records (OpenRow.toRowW (OpenLaw.row PySem.Challenge.rw_linegate_k71_rows_read_and_shown))) s.heap:=recFacts_of (Bool.and_eq_true_iff.mp e).2
end K71
open PySem PySem.W PyProof.Rows
local macro_rules | `(tactic| o_head $H)=>`(tactic| (refine PySem.W.holds_open (q:=K71.vw) (loose:=K71.lo) (N:=20000) (Xt:=K71.xt) (XP:=XL K71.vw []) (Yf:=Hook.obs $H) (Ya:=Hook.val $H) (YP:=Hook.says $H) ?hl (Hook.of $H) (Hook.keeps $H) K71.xt1 XL.keeps (by rfl) (by rfl) (by rfl) K71.xt2 (by rfl) (by assumption) (by decide +kernel) ⟨rfl,rfl,rfl,rfl,rfl,by decide +kernel⟩ ?hw ?hc;(case hl=>exact HT.left_Tk (ann:=some (.ref 6)) (by rfl) (fun _=>rfl) (by decide) (fun _=>by kernel_rfl) K71.rn fun w os=>by kernel_rfl);(case hw=>w_witness2)))
local macro_rules | `(tactic| walk_at "lkf")=>`(tactic| exact ⟨_,by k_is,_,_,_,_,_,_,_,_,_,by k_is,by k_is,by k_is⟩)
local macro_rules | `(tactic| walk_at "lkm")=>`(tactic| exact ⟨_,by k_is,by k_is,_,_,_,_,_,_,_,_,_,by k_is,by k_is,by k_is⟩)
set_option maxRecDepth 100000 in
set_option maxHeartbeats 0 in
theorem PySem.Challenge.cw_linegate_k71_rows_read_and_shown_holds : PySem.Challenge.rw_linegate_k71_rows_read_and_shown.Holds := by
 w_on;o_law;k_head
 k_fill
 refine K71.walk (l:=PySem.Challenge.rw_linegate_k71_rows_read_and_shown) rfl rfl (fun w h Y=>PySem.W.kIn_of Y) ?F
 case F=>
  intro w mg fa h KX G hmg
  refine' K71.all_mk KX G hmg ?z_WORDS ?lw_WORDS ?l0 ?l1 ?l2 ?l3 ?l4 ?l5 ?l6 ?l7 ?l8 ?l9 ?l10 ?l11 ?l12 ?l13 ?l14 ?l15 ?l16 ?l17 ?l18 ?l19 ?l20 ?z_FIGURES ?z_MOST_FIGURES ?z_all ?z_bool ?z_int ?z_isinstance ?z_len ?z_range ?z_str ?z_tuple
  case z_WORDS | lw_WORDS=>k_is
  case l0 | l1 | l2 | l3 | l4 | l5 | l6 | l7 | l8 | l9 | l10 | l11 | l12 | l13 | l14 | l15 | l16 | l17 | l18 | l19 | l20=>walk_at "lkf"
  case z_FIGURES | z_MOST_FIGURES | z_all | z_bool | z_int | z_isinstance | z_len | z_range | z_str | z_tuple=>k_is
