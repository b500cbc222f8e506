import PyProof.Rows.All
import PyProof.RangeIter
import Wide.All
import OpenK.AllK
import Wide.FinOn
import Lean
import PyProof.EqAt
import PyProof.EqKinds
import PyProof.TupleCall
import PyProof.RulesAs
import PyProof.NsDelKeeps
import PyProof.ReprRoads
import PyProof.ReprLen
import PyProof.Rows.FactsT3
import PyProof.NeData
import PyProof.ListRange
import PyProof.ZipIter
import PyProof.Rows.ZipGen
import PyProof.ConsumeWalk
import PyProof.Rows.RuleM_int
import PyProof.Rows.SeqGen
import PyProof.MinMaxWalk
import PyProof.WalkInts
import PyProof.SeqI3
import PyProof.Rows.SeqCalls
import PyProof.Rows.Range3
import PyProof.EnumIter
import PyProof.EnumFor
import PyProof.EnumMake
import PyProof.EnumStmt
import PyProof.MeetsSeq
import PyProof.Rows.RuleIs
import PySem.SetOps
import PyProof.SetKind
import PyProof.DictIter
import PyProof.FactsAll.set
import PyProof.CollectWalk
import PyProof.DictWalks
import PyProof.SeqWrite
import PyProof.Walk
import PyProof.Rows.SetFrom
import PyProof.ExcAttrAll.ValueError
import PyProof.ExcArgsOwn
import PyProof.Rows.CountFlat
import PyProof.CallFns
import PyProof.Conv_int_bool
import PyProof.Rows.RuleB_and
import PyProof.StrCalls2
import PyProof.StrLawsTight
import PyProof.StrLawsIn
import KE.KIntText
import KE.IntTextLaws
import PyProof.StrWalks
import PyProof.AutoSeq1
import PyProof.SliceStr2
import PyProof.P3In
import Open.Seg
import Open.Fast
import Open.Tree
import Open.Boot
import PySem.Challenge.RW_linegate_k72_rows_refused
set_option Elab.async false
set_option linter.all false
set_option maxRecDepth 100000
namespace L2
open PySem PySem.Spec
theorem entry_unchain:entryFor table "proto.unchain"=some Builtin.«proto.unchain»:=entryFor_of_tree (by kernel_rfl)
theorem raiseNew_hd {prog:Program}{w:World}{A:Around}{E:Value→Shared→Prop}{s:Shared}{α:Type}{e h:Addr}{oe oh:Obj}{ve vh:Array Value}{Q:α→Shared→Prop} (hh:A.handled=some (.ref h)) (he:s.heap.get? e=some oe) (hd:oe.data=.fields ve) (h2:2 < ve.size)
  (hx:s.heap.get? h=some oh) (hxd:oh.data=.fields vh) (hx2:vh[2]? = some .none) (ne:h≠e) (q:E (.ref e) { s with heap:=s.heap.update e (Obj.mapFields (·.setIfInBounds 2 (.ref h))) }):wpAny (model prog w) A (raiseNew (.ref e):Sem α) Q E s:=by
 unfold raiseNew
 refine wpAny_bind (wpAny_handled ?_)
 rw [hh]
 dsimp only
 rw [if_pos (by simpa using ne)]
 refine wpAny_bind (wpAny_holding (wpAny_runValue (codeAny_builtin entry_unchain ?_)))
 unfold Builtin.«proto.unchain»
 refine wpAny_bind (wpAny_field hx hxd hx2 ?_)
 rw [if_pos (by rfl)]
 refine wpAny_pure ?_
 refine wpAny_bind ?_
 unfold updateField
 refine wpAny_bind (wpAny_load he ?_)
 rw [hd]
 dsimp only
 rw [if_pos h2]
 exact wpAny_update' he (wpAny_throw q)
theorem range_endH {prog:Program}{w:World}{A:Around}{E:Value→Shared→Prop}{s:Shared}{it h:Addr}{x left step:Int}{oh:Obj}{vh:Array Value}{Q:Option Value→Shared→Prop} (hh:A.handled=some (.ref h)) (hx:s.heap.get? h=some oh) (hxd:oh.data=.fields vh) (hx2:vh[2]? = some .none) (hit:IsRangeIter s.heap it x left step) (hleft:left≤0)
  (hQ:∀ h',Heap.ExtBut it s.heap h'→Q none { s with heap:=h' }):wpAny (model prog w) A (pyNext (.ref it)) Q E s:=by
 have hT:s.TypeIs (.ref it) "range_iterator":=⟨_,hit,rfl⟩
 unfold pyNext
 refine wpAny_bind (wpAny_attempt (wpAny_callSpecial?_slot (name:=Str.ofString "__next__") hT F.slot_range_iterator_next
  (wpAny_call_entry F.slot_range_iterator_next hT F.entry_range_iterator_next ?_ (F.args_range_iterator_next_1 _))))
 show wpAny _ _ (field (.ref it) 0 >>= _) _ _ s
 refine wpAny_bind (wpAny_field hit rfl (x:=rawInt x) rfl ?_)
 show wpAny _ _ (field (.ref it) 1 >>= _) _ _ s
 refine wpAny_bind (wpAny_field hit rfl (x:=rawInt left) rfl ?_)
 show wpAny _ _ (field (.ref it) 2 >>= _) _ _ s
 refine wpAny_bind (wpAny_field hit rfl (x:=rawInt step) rfl ?_)
 show wpAny _ _ (if left≤0 then _ else _) _ _ s
 rw [if_pos hleft]
 refine wpAny_bind (wpAny_rule ?_)
 refine wpAny_bind ?_
 show wpAny _ _ (newExc (.type "StopIteration") [] >>= _) _ _ _
 refine wpAny_bind ?_
 simp only [newExc,newTuple]
 refine wpAny_bind (wpAny_newObj_type ?_ (by size_fits))
 refine wpAny_bind (m:=firstArgMember _ _) (wpAny_of_eq (a:=Value.none) (by first | rfl | (simp only [firstArgMember];rfl)) ?_)
 refine wpAny_newObj_type ?_ (by size_fits)
 have hn:h≠(s.heap.push { cls:=.type "tuple",dict:=none,data:=.seq ([]:List Value).toArray }).objs.size:=Nat.ne_of_lt (Heap.lt_size (Heap.get?_push_of_some _ hx))
 refine raiseNew_hd (h:=h) (by first | exact hh | (show A.in1.handled=_;exact hh)) (Heap.get?_push_size _ rfl) rfl (by simp <;> omega) (Heap.get?_push_of_some _ (Heap.get?_push_of_some _ hx)) hxd hx2 hn ?_
 refine wpAny_bind (wpAny_isInstance (T:="StopIteration") (b:=true) ⟨_,Heap.get?_update_self _ (Heap.get?_push_size _ rfl) rfl,rfl⟩ isSubtype_stop ?_)
 refine wpAny_pure (hQ _ fun b o hb e=>?_)
 rw [Heap.get?_update_other _ _ (Ne.symm (Nat.ne_of_lt (Heap.lt_size (Heap.get?_push_of_some _ e))))]
 exact Heap.get?_push_of_some _ (Heap.get?_push_of_some _ e)
open PySem PySem.Spec PyProof.Rows
abbrev Key:=Sum Int Str
def keyIs:Key→Value→Bool
 | .inl k,v=>Value.isInt k v
 | .inr x,v=>Value.isStrOf x v
def keyH (w:World):Key→Int
 | .inl k=>hashInt k
 | .inr x=>hashStr w x
theorem keyIs_shape:∀ {k:Key}{v:Value},keyIs k v=true→(∃ i t,k=Sum.inl i∧v=Value.int i t)∨(∃ x t,k=Sum.inr x∧v=Value.str x t)
 | .inl i,v,h=>by
  obtain ⟨t,e⟩:=Value.isInt_shape (k:=i) (v:=v) h
  exact .inl ⟨i,t,rfl,e⟩
 | .inr x,v,h=>by
  obtain ⟨t,e⟩:=Value.isStrOf_shape (x:=x) (v:=v) h
  exact .inr ⟨x,t,rfl,e⟩
theorem key_ll (a b:Int):decide ((Sum.inl a:Key)=Sum.inl b)=(a == b):=by
 by_cases e:a=b
 ·subst e;simp
 ·have h:¬ (Sum.inl a:Key)=Sum.inl b:=fun q=>e (Sum.inl.inj q)
  rw [decide_eq_false h]
  exact (beq_eq_false_iff_ne.mpr e).symm
theorem key_rr (a b:Str):decide ((Sum.inr a:Key)=Sum.inr b)=decide (a=b):=by
 by_cases e:a=b
 ·subst e;simp
 ·have h:¬ (Sum.inr a:Key)=Sum.inr b:=fun q=>e (Sum.inr.inj q)
  rw [decide_eq_false h,decide_eq_false e]
theorem key_lr (a:Int) (b:Str):decide ((Sum.inl a:Key)=Sum.inr b)=false:=decide_eq_false (fun q=>nomatch q)
theorem key_rl (a:Str) (b:Int):decide ((Sum.inr a:Key)=Sum.inl b)=false:=decide_eq_false (fun q=>nomatch q)
def mixKind (prog:Program) (w:World):PySem.KeyKind prog w Key where
 is:=keyIs
 hash:=keyH w
 inj:=fun v a b ha hb=>by
  rcases keyIs_shape ha with ⟨i,t,rfl,rfl⟩ | ⟨x,t,rfl,rfl⟩
  ·rcases keyIs_shape hb with ⟨j,u,rfl,e⟩ | ⟨y,u,rfl,e⟩
   ·injection e with e1 _;rw [e1]
   ·exact nomatch e
  ·rcases keyIs_shape hb with ⟨j,u,rfl,e⟩ | ⟨y,u,rfl,e⟩
   ·exact nomatch e
   ·injection e with e1 _;rw [e1]
 byValue:=fun k v h=>by
  rcases keyIs_shape h with ⟨i,t,rfl,rfl⟩ | ⟨x,t,rfl,rfl⟩ <;> rfl
 pyHash:=fun hv h=>by
  rcases keyIs_shape hv with ⟨i,t,rfl,rfl⟩ | ⟨x,t,rfl,rfl⟩
  ·exact wpAny_pyHash_int h
  ·exact wpAny_pyHash_str h
 eqBool:=fun hu hv h=>by
  rcases keyIs_shape hu with ⟨i,t,rfl,rfl⟩ | ⟨x,t,rfl,rfl⟩
  ·rcases keyIs_shape hv with ⟨j,u,rfl,rfl⟩ | ⟨y,u,rfl,rfl⟩
   ·rw [key_ll] at h;exact wpAny_eqBool_int h
   ·rw [key_lr] at h;exact SeqAt.EqAt.int_str i t y u _ _ _ _ h
  ·rcases keyIs_shape hv with ⟨j,u,rfl,rfl⟩ | ⟨y,u,rfl,rfl⟩
   ·rw [key_rl] at h;exact SeqAt.EqAt.str_int x t j u _ _ _ _ h
   ·rw [key_rr] at h;exact wpAny_eqBool_str h
 «strs»:=fun k x t v h=>by
  rcases keyIs_shape h with ⟨i,u,rfl,e⟩ | ⟨y,u,rfl,e⟩
  ·exact nomatch e
  ·injection e with e1 _
   subst e1
   cases v <;> rfl
inductive V where
 | non | bl (b:Bool) | int (i:Int) | str (x:Str) | byt (b:Array UInt8) | flt (b:UInt64) | ref (a:Addr) | ty (n:String)
 deriving DecidableEq
def RelV:V→Value→Prop
 | .non,u=>u=Value.none
 | .bl b,u=>u=Value.bool b
 | .int i,u=>∃ t,u=Value.int i t
 | .str x,u=>∃ t,u=Value.str x t
 | .byt b,u=>∃ t,u=Value.bytes b t
 | .flt b,u=>∃ t,u=Value.float b t
 | .ref a,u=>u=Value.ref a
 | .ty n,u=>u=Value.type n
abbrev Vals:List V→List Value→Prop:=Paired RelV
theorem Vals.length {xs:List V}{us:List Value} (r:Vals xs us):xs.length=us.length:=Paired.length r
theorem Vals.get:∀ {xs:List V}{us:List Value}{i:Nat}{x:V},Vals xs us→xs[i]? = some x→∃ u,us[i]? = some u∧RelV x u
 | _,_,_,_,.nil,e=>by simp at e
 | _,_,0,_,.cons r _,e=>by simp at e;subst e;exact ⟨_,rfl,r⟩
 | _,_,i + 1,x,.cons _ t,e=>by
  obtain ⟨u,h1,h2⟩:=Vals.get (i:=i) (x:=x) t (by simpa using e)
  exact ⟨u,by simpa using h1,h2⟩
theorem Vals.append:∀ {xs ys:List V}{us ws:List Value},Vals xs us→Vals ys ws→Vals (xs++ys) (us++ws)
 | _,_,_,_,.nil,s=>s
 | _,_,_,_,.cons r t,s=>.cons r (Vals.append t s)
theorem Vals.take:∀ {xs:List V}{us:List Value} (n:Nat),Vals xs us→Vals (xs.take n) (us.take n)
 | _,_,0,_=>.nil
 | _,_,_ + 1,.nil=>.nil
 | _,_,n + 1,.cons r t=>.cons r (Vals.take n t)
theorem Vals.drop:∀ {xs:List V}{us:List Value} (n:Nat),Vals xs us→Vals (xs.drop n) (us.drop n)
 | _,_,0,r=>r
 | _,_,_ + 1,.nil=>.nil
 | _,_,n + 1,.cons _ t=>Vals.drop n t
def RelO:Option V→Option Value→Prop
 | some v,some u=>RelV v u
 | none,none=>True
 | _,_=>False
def KV {κ:Type}:List (κ×V)→List (κ×Value)→Prop:=Paired fun (p:κ×V) (q:κ×Value)=>p.1=q.1∧RelV p.2 q.2
def kV:Key→V
 | .inl i=>.int i
 | .inr x=>.str x
def PlainT (h:Heap) (a:Addr) (items:Array Value):Prop:=∃ o,h.get? a=some o∧o.cls=.type "tuple"∧o.dict=none∧∃ n,o.data=.seq items n
theorem PlainT.isTup {h:Heap}{a:Addr}{items:Array Value} (x:PlainT h a items):IsTup h a items:=let ⟨o,e,c,_,d⟩:=x;⟨o,e,c,d⟩
theorem PlainT.lt {h:Heap}{a:Addr}{items:Array Value} (x:PlainT h a items):a < h.objs.size:=let ⟨_,e,_⟩:=x;Heap.lt_size e
theorem PlainT.new (h:Heap) (items:Array Value):PlainT (h.push { cls:=.type "tuple",data:=.seq items }) h.objs.size items:=⟨_,Heap.get?_push_size _ rfl,rfl,rfl,_,rfl⟩
inductive HO where
 | lst (xs:List V)
 | tup (xs:List V)
 | dK (kvs:List (Key×V)) | dT (kvs:List (List Key×V))
 | set (S:Int→Bool) (n:Nat)
 | ins (C dx:Addr) (fs:List (Str×V))
 | own (x:Addr)
 | xd (fs:List (Str×V))
 | met (f x:Addr)
 | rng (lo hi:Int)
 | frz (o:Obj) (u:HO)
 | tbl (ps:Array Value)
 | ext (φ:Heap→Prop)
abbrev Hp:=Addr→Option HO
def upd (H:Hp) (a:Addr) (o:HO):Hp:=fun b=>if b=a then some o else H b
theorem upd_same {H:Hp}{a:Addr}{o:HO}:upd H a o a=some o:=by unfold upd;rw [if_pos rfl]
theorem upd_ne {H:Hp}{a b:Addr}{o:HO} (h:b≠a):upd H a o b=H b:=by unfold upd;rw [if_neg h]
theorem ne_of_none {H:Hp}{a b:Addr}{o:HO} (h:H a=some o) (h':H b=none):a≠b:=by
 intro e;subst e;rw [h] at h';cases h'
section
variable (P:Program) (w:World)
def ObjOk (H:Hp) (h:Heap) (a:Addr):HO→Prop
 | .lst xs=>xs.length≤sizeLine∧∃ (its:List Value) (n:Nat),Vals xs its∧h.get? a=some { cls:=.type "list",data:=.seq its.toArray n }
 | .tup xs=>xs.length≤sizeLine∧∃ its:List Value,Vals xs its∧PlainT h a its.toArray
 | .dK kvs=>kvs.length≤sizeLine∧(a == sysModules)=false∧∃ vs,KV kvs vs∧h.DictOf (mixKind P w) a vs
 | .dT kvs=>kvs.length≤sizeLine∧(a == sysModules)=false∧∃ xs:List (List Key×Addr×Value),
   Paired (fun (p:List Key×V) (q:List Key×Addr×Value)=>p.1=q.1∧H q.2.1=some (.tup (p.1.map kV))∧RelV p.2 q.2.2) kvs xs ∧
   ∃ o es ep,h.get? a=some o∧o.ExactDict∧o.data=.dict es ep∧es.toList=xs.map (entryOfKey (tupleKind (mixKind P w)))∧(xs.map (·.1)).Nodup
 | .set S n=>h.SetOf (intKind P w) a S n
 | .ins C dx fs=>H dx=some (.own a)∧fs.length≤1000∧dx≠a∧h.get? a=some (PySem.W.instObj C dx) ∧
   ∃ mA,h.Ns1 dx mA∧(∀ f,RelO (fs.lookup f) (mA f))∧PySem.Within mA (fs.map (·.1))
 | .own _=>∃ o,h.get? a=some o
 | .xd fs=>∃ mA,h.Ns1 a mA∧∀ f,RelO (fs.lookup f) (mA f)
 | .rng lo hi=>∃ t u v,h.get? a=some { cls:=.type "range",data:=.fields #[.int lo t,.int hi u,.int 1 v] }
 | .frz o u=>h.get? a=some o∧ObjOk H h a u
 | .tbl ps=>h.get? a=some { cls:=.none,data:=.fields ps }
 | .met f x=>h.get? a=some (PySem.W.methodObj (.ref f) (.ref x))
 | .ext φ=>φ h∧(∃ o,h.get? a=some o)∧∀ h1 h2:Heap,φ h1→(∀ o,h1.get? a=some o→h2.get? a=some o)→φ h2
def HOk (H:Hp) (h:Heap):Prop:=∀ a o,H a=some o→ObjOk P w H h a o
end
section
variable {P:Program}{w:World}{H H':Hp}{h h':Heap}{a:Addr}{o:HO}
theorem ObjOk.lt (x:ObjOk P w H h a o):a < h.objs.size:=by
 cases o with
 | lst xs=>obtain ⟨_,_,_,_,e⟩:=x;exact Heap.lt_size e
 | tup xs=>obtain ⟨_,_,_,p⟩:=x;exact p.lt
 | dK kvs=>obtain ⟨_,_,_,_,o,_,_,e,_⟩:=x;exact Heap.lt_size e
 | dT kvs=>obtain ⟨_,_,_,_,o,_,_,e,_⟩:=x;exact Heap.lt_size e
 | set S n=>obtain ⟨o,_,_,_,e,_⟩:=x;exact Heap.lt_size e
 | ins C dx fs=>obtain ⟨_,_,_,e,_⟩:=x;exact Heap.lt_size e
 | own y=>obtain ⟨_,e⟩:=x;exact Heap.lt_size e
 | xd fs=>obtain ⟨_,⟨_,_,_,e,_⟩,_⟩:=x;exact Heap.lt_size e
 | rng lo hi=>obtain ⟨_,_,_,e⟩:=x;exact Heap.lt_size e
 | frz ob u=>obtain ⟨e,_⟩:=x;exact Heap.lt_size e
 | tbl ps=>exact Heap.lt_size (show h.get? a=some _ from x)
 | met f y=>exact Heap.lt_size (show h.get? a=some _ from x)
 | ext φ=>obtain ⟨_,⟨_,e⟩,_⟩:=x;exact Heap.lt_size e
theorem Paired.mapP {α β:Type}{F G:α→β→Prop}:∀ {l₁:List α}{l₂:List β},Paired F l₁ l₂→(∀ a b,F a b→G a b)→Paired G l₁ l₂
 | _,_,.nil,_=>.nil
 | _,_,.cons r t,f=>.cons (f _ _ r) (Paired.mapP t f)
theorem ObjOk.stay (x:ObjOk P w H h a o) (k:∀ b u,(b=a∨H b=some (.own a))→h.get? b=some u→h'.get? b=some u)
  (ho:∀ b,H b=some (.own a)→H' b=some (.own a)) (ht:∀ b xs,H b=some (.tup xs)→H' b=some (.tup xs)):ObjOk P w H' h' a o:=by
 induction o with
 | lst xs=>obtain ⟨z,its,n,r,e⟩:=x;exact ⟨z,its,n,r,k _ _ (.inl rfl) e⟩
 | tup xs=>obtain ⟨z,its,r,ob,e,c⟩:=x;exact ⟨z,its,r,ob,k _ _ (.inl rfl) e,c⟩
 | dK kvs=>obtain ⟨z,y,vs,r,ob,es,ep,e,c⟩:=x;exact ⟨z,y,vs,r,ob,es,ep,k _ _ (.inl rfl) e,c⟩
 | dT kvs=>
  obtain ⟨z,y,xs,r,ob,es,ep,e,c⟩:=x
  exact ⟨z,y,xs,Paired.mapP r fun p q z=>⟨z.1,ht _ _ z.2.1,z.2.2⟩,ob,es,ep,k _ _ (.inl rfl) e,c⟩
 | set S n=>obtain ⟨ob,es,ep,t,e,c⟩:=x;exact ⟨ob,es,ep,t,k _ _ (.inl rfl) e,c⟩
 | ins C dx fs=>
  obtain ⟨d,z,ne,e,mA,⟨od,es,ep,e2,c⟩,r⟩:=x
  exact ⟨ho _ d,z,ne,k _ _ (.inl rfl) e,mA,⟨od,es,ep,k _ _ (.inr d) e2,c⟩,r⟩
 | own y=>obtain ⟨ob,e⟩:=x;exact ⟨ob,k _ _ (.inl rfl) e⟩
 | xd fs=>obtain ⟨mA,⟨od,es,ep,e,c⟩,r⟩:=x;exact ⟨mA,⟨od,es,ep,k _ _ (.inl rfl) e,c⟩,r⟩
 | rng lo hi=>obtain ⟨t,u,v,e⟩:=x;exact ⟨t,u,v,k _ _ (.inl rfl) e⟩
 | frz ob u ih=>obtain ⟨e,q⟩:=x;exact ⟨k _ _ (.inl rfl) e,ih q⟩
 | tbl ps=>
  have e:h.get? a=some { cls:=.none,data:=.fields ps }:=x
  show h'.get? a=some { cls:=.none,data:=.fields ps }
  exact k a _ (.inl rfl) e
 | met f y=>
  have e:h.get? a=some (PySem.W.methodObj (.ref f) (.ref y)):=x
  show h'.get? a=some (PySem.W.methodObj (.ref f) (.ref y))
  exact k a _ (.inl rfl) e
 | ext φ=>obtain ⟨p,⟨o,e⟩,st⟩:=x;exact ⟨st _ _ p fun o q=>k _ _ (.inl rfl) q,⟨o,k _ _ (.inl rfl) e⟩,st⟩
theorem HOk.lt (x:HOk P w H h) (e:H a=some o):a < h.objs.size:=(x a o e).lt
theorem HOk.fresh (x:HOk P w H h) (e:h.objs.size≤a):H a=none:=by
 cases q:H a with
 | none=>rfl
 | some u=>exact absurd (Nat.lt_of_lt_of_le (x.lt q) e) (Nat.lt_irrefl _)
theorem HOk.kept (x:HOk P w H h) (k:∀ b u,h.get? b=some u→h'.get? b=some u):HOk P w H h':=fun a o e=>
 (x a o e).stay (fun b u _ q=>k b u q) (fun _ q=>q) fun _ _ q=>q
theorem HOk.laid (x:HOk P w H h) (k:∀ b u,h.get? b=some u→h'.get? b=some u) (hp:h.objs.size≤a) (new:ObjOk P w (upd H a o) h' a o):HOk P w (upd H a o) h':=fun b u e=>by
 have hn:=x.fresh hp
 by_cases hb:b=a
 ·subst hb;rw [upd_same] at e;cases e;exact new
 ·rw [upd_ne hb] at e
  exact (x b u e).stay (fun c v _ q=>k c v q) (fun c q=>by rw [upd_ne (ne_of_none q hn)];exact q) fun c xs q=>by rw [upd_ne (ne_of_none q hn)];exact q
end
def Rd (H:Hp) (a:Addr) (u:HO):Prop:=H a=some u∨∃ o,H a=some (.frz o u)
theorem Rd.ok {P:Program}{w:World}{H:Hp}{h:Heap}{a:Addr}{u:HO} (r:Rd H a u) (x:HOk P w H h):ObjOk P w H h a u:=by
 rcases r with r | ⟨o,r⟩
 ·exact x a u r
 ·obtain ⟨_,q⟩:=x a _ r
  exact q
def Mut:Option HO→Prop
 | some (.lst _)=>True
 | some (.dK _)=>True
 | some (.dT _)=>True
 | some (.set _ _)=>True
 | some (.ins _ _ _)=>True
 | some (.ext _)=>True
 | _=>False
section
variable {P:Program}{w:World}{H:Hp}{h h':Heap}{x e:Addr}{o':HO}
theorem HOk.write (ok:HOk P w H h) (mu:Mut (H x)) (he:e=x∨H e=some (.own x)) (k:∀ b u,b≠e→h.get? b=some u→h'.get? b=some u) (heo:∃ u,h'.get? e=some u)
  (new:ObjOk P w (upd H x o') h' x o'):HOk P w (upd H x o') h':=fun b u q=>by
 have nown:∀ c y,H c=some (.own y)→c≠x:=fun c y r z=>by subst z;rw [r] at mu;exact mu
 have ntup:∀ c xs,H c=some (.tup xs)→c≠x:=fun c xs r z=>by subst z;rw [r] at mu;exact mu
 by_cases hb:b=x
 ·subst hb;rw [upd_same] at q;cases q;exact new
 ·rw [upd_ne hb] at q
  by_cases hbe:b=e
  ·have q':H b=some (.own x):=by
    rcases he with z | z
    ·exact absurd (hbe.trans z) hb
    ·rw [hbe];exact z
   rw [q] at q';cases q'
   obtain ⟨v,hv⟩:=heo
   exact ⟨v,by rw [hbe];exact hv⟩
  ·refine (ok b u q).stay (fun c v hc r=>k c v ?_ r) (fun c r=>by rw [upd_ne (nown c b r)];exact r) fun c xs r=>by rw [upd_ne (ntup c xs r)];exact r
   rcases hc with rfl | hc
   ·exact hbe
   ·rintro rfl
    rcases he with z | z
    ·exact nown c b hc z
    ·rw [hc] at z;cases z;exact hb rfl
end
structure Un (fs ex:List Addr) (H H':Hp) (h h':Heap):Prop where
 keep:∀ b o,h.get? b=some o→H b=none→b∉fs→b∉ex→h'.get? b=some o
 slot:∀ b o,h.get? b=some o→H b=none→b∈fs→b∉ex→∃ sl,h'.get? b=some { o with slots:=sl }
 free:∀ b o,h.get? b=some o→H b=none→b∉ex→H' b=none
 there:∀ b o,h.get? b=some o→b∉ex→∃ o',h'.get? b=some o'
 tups:∀ b xs,H b=some (.tup xs)→H' b=some (.tup xs)
 frzs:∀ b o u,H b=some (.frz o u)→H' b=some (.frz o u)
 tbls:∀ b ps,H b=some (.tbl ps)→∃ more,H' b=some (.tbl (ps++more))
section
variable {fs fs' ex ex':List Addr}{H H1 H2:Hp}{h h1 h2 h':Heap}{a x e:Addr}{o:HO}
theorem Un.any (u:Un fs ex H H1 h h1) {b:Addr}{ob:Obj} (q:h.get? b=some ob) (n:H b=none) (hx:b∉ex):∃ sl,h1.get? b=some { ob with slots:=sl }:=by
 by_cases hb:b∈fs
 ·exact u.slot b ob q n hb hx
 ·exact ⟨ob.slots,u.keep b ob q n hb hx⟩
theorem Un.kept (k:∀ b u,h.get? b=some u→h'.get? b=some u):Un fs ex H H h h':=
 ⟨fun b ob q _ _ _=>k b ob q,fun b ob q _ _ _=>⟨ob.slots,k b ob q⟩,fun _ _ _ n _=>n,fun b ob q _=>⟨ob,k b ob q⟩,fun _ _ q=>q,fun _ _ _ q=>q,fun _ ps q=>⟨#[],by rw [q];simp⟩⟩
theorem Un.refl:Un fs ex H H h h:=Un.kept fun _ _ q=>q
theorem Un.laid (k:∀ b u,h.get? b=some u→h'.get? b=some u) (hp:h.objs.size≤a) (hn:H a=none):Un fs ex H (upd H a o) h h' where
 keep:=fun b u q _ _ _=>k b u q
 slot:=fun b u q _ _ _=>⟨u.slots,k b u q⟩
 free:=fun b u q n _=>by rw [upd_ne (Nat.ne_of_lt (Nat.lt_of_lt_of_le (Heap.lt_size q) hp))];exact n
 there:=fun b u q _=>⟨u,k b u q⟩
 tups:=fun b xs q=>by rw [upd_ne (ne_of_none q hn)];exact q
 frzs:=fun b u xs q=>by rw [upd_ne (ne_of_none q hn)];exact q
 tbls:=fun b ps q=>⟨#[],by rw [upd_ne (ne_of_none q hn),q];simp⟩
theorem Un.write (mu:Mut (H x)) (he:e=x∨H e=some (.own x)) (k:∀ b u,b≠e→h.get? b=some u→h'.get? b=some u) (heo:∃ u,h'.get? e=some u):Un fs ex H (upd H x o) h h':=by
 have hx:∀ b,H b=none→b≠x:=fun b n z=>by subst z;rw [n] at mu;exact mu
 have hb:∀ b,H b=none→b≠e:=fun b n z=>by
  subst z
  rcases he with r | r
  ·exact hx b n r
  ·rw [n] at r;cases r
 have hm:∀ b u,H b=some u→¬ Mut (some u)→b≠x:=fun b u q nm z=>by subst z;rw [q] at mu;exact nm mu
 refine ⟨fun b u q n _ _=>k b u (hb b n) q,fun b u q n _ _=>⟨u.slots,k b u (hb b n) q⟩,fun b u q n _=>by rw [upd_ne (hx b n)];exact n,fun b u q _=>?_,
  fun b xs q=>by rw [upd_ne (hm b _ q fun z=>z)];exact q,fun b u xs q=>by rw [upd_ne (hm b _ q fun z=>z)];exact q,fun b ps q=>⟨#[],by rw [upd_ne (hm b _ q fun z=>z),q];simp⟩⟩
 by_cases hbe:b=e
 ·subst hbe;exact heo
 ·exact ⟨u,k b u hbe q⟩
end
def trk (h:Heap) (H:Hp):List Addr:=(List.range h.objs.size).filter fun a=>(H a).isSome
def hidT (h:Heap) (H:Hp):Heap:=PySem.W.hideAll h (trk h H)
theorem hidT_size (h:Heap) (H:Hp):(hidT h H).objs.size=h.objs.size:=PySem.W.hideAll_size _ _
theorem hidT_get {h:Heap}{H:Hp}{b:Addr}{o:Obj} (e:h.get? b=some o) (n:H b=none):(hidT h H).get? b=some o:=
 PySem.W.hideAll_get _ e fun hm=>by
  have q:(H b).isSome=true:=(List.mem_filter.mp hm).2
  rw [n] at q;simp at q
theorem of_hidT {h:Heap}{H:Hp}{b:Addr}{o:Obj} (e:(hidT h H).get? b=some o):h.get? b=some o∧H b=none:=by
 have e':h.get? b=some o:=PySem.W.of_hideAll (trk h H) e
 refine ⟨e',?_⟩
 cases q:H b with
 | none=>rfl
 | some x=>
  have hm:b∈trk h H:=List.mem_filter.mpr ⟨List.mem_range.mpr (Heap.lt_size e'),by simp [q]⟩
  have z:(hidT h H).get? b=none:=PySem.W.hideAll_none (trk h H) hm
  rw [z] at e;cases e
structure Mod (K:PySem.W.Frag) (mg:Str→Option Value) (base:Heap):Prop where
 kin:K.In base
 glob:base.Ns mainGlobals mg
 blt:∃ mb,base.Ns builtinsNs mb∧∀ x:Str,x≠"__name__"→mb x=bootBuiltins x
 nolimit:base.NoLimit
structure Cx where
 prog:Program
 w:World
 K:PySem.W.Frag
 mg:Str→Option Value
 base:Heap
 A:Around
 N:List Str
 s₀:Shared
 H₀:Hp
 env:Env
 outer:List Env
 stack:List Env
 ex:List Addr
 fn:Str→Bool
 calm:Bool
 pn:List (Addr×Obj)
 xe:Value→Shared→Prop
def frs (l:List Env):List Addr:=l.filterMap (·.frame)
abbrev Cx.fs (X:Cx):List Addr:=frs X.outer
def Vis (sc:Scope) (x:Str):Prop:=sc.names.lookup x=some .local∨sc.names.lookup x=some .cell∨sc.names.lookup x=some .free
def Loc (sc:Scope) (x:Str):Prop:=sc.names.lookup x=some .local∨sc.names.lookup x=some .cell
def Look (env:Env) (h:Heap) (m:Str→Option Value) (x:Str) (u:Value):Prop:=
 (env.kindOf x=some .local∧m x=some u)∨((env.kindOf x=some .cell∨env.kindOf x=some .free)∧∃ c,env.cells.lookup x=some c∧h.IsCell c (some u))
structure Cx.Ok (X:Cx):Prop where
 mod:Mod X.K X.mg X.base
 kind:X.env.scope.kind=.function
 glob:X.env.globals=mainGlobals
 blt:X.env.builtins=builtinsNs
 above:X.s₀.heap.objs.size≤X.env.locals
 inj:∀ x y c,X.env.cells.lookup x=some c→X.env.cells.lookup y=some c→x=y
 has:∀ x,(X.env.kindOf x=some .cell∨X.env.kindOf x=some .free)→∃ c,X.env.cells.lookup x=some c
 cab:∀ x c,X.fn x=true→X.env.cells.lookup x=some c→X.s₀.heap.objs.size≤c
 hd:X.calm=true→X.A.handled=none
 frames:X.A.frames=some X.stack
 stk:X.stack=X.outer∨(X.stack=X.env::X.outer∧X.env.frame=some X.env.locals)
 exf:∀ b∈X.ex,b≠X.env.locals∧∀ x c,X.env.cells.lookup x=some c→c≠b
 bs:∀ b o,X.base.get? b=some o→X.s₀.heap.get? b=some o∧X.H₀ b=none
 bsz:X.base.objs.size≤X.s₀.heap.objs.size
 noex:∀ b o,X.base.get? b=some o→b∉X.ex
 exfs:∀ b∈X.ex,b∉X.fs
 funs:X.s₀.heap.FunFrames X.base X.outer
 frf:∀ b∈X.fs,X.H₀ b=none
def HdOk (A:Around) (H:Hp):Prop:=A.handled=none∨∃ (a:Addr) (ob:Obj) (u:HO) (vs:Array Value),A.handled=some (.ref a)∧H a=some (.frz ob u)∧ob.data=.fields vs∧vs[2]? = some .none
theorem HdOk.mono {A:Around}{H H':Hp} (h:HdOk A H) (f:∀ b o u,H b=some (.frz o u)→H' b=some (.frz o u)):HdOk A H':=h.elim .inl fun ⟨a,ob,u,vs,h1,h2,h3⟩=>.inr ⟨a,ob,u,vs,h1,f _ _ _ h2,h3⟩
structure Inv (X:Cx) (pins:List (Addr×Obj)) (σ:List (Option V)) (H:Hp) (s:Shared):Prop where
 ok:X.Ok
 os:s.os=X.s₀.os
 bare:AllBare s.gens
 base:Un X.fs X.ex X.H₀ H X.s₀.heap s.heap
 loc:∃ m,s.heap.Ns X.env.locals m∧∀ (i:Nat) (x:Str) (v:V),X.N[i]? = some x→σ[i]? = some (some v)→Vis X.env.scope x→∃ u,RelV v u∧Look X.env s.heap m x u
 cell:∀ x c,X.env.cells.lookup x=some c→∃ v,s.heap.IsCell c v
 free:H X.env.locals=none
 freeC:∀ x c,X.env.cells.lookup x=some c→H c=none
 pin:∀ p∈X.pn++pins,s.heap.get? p.1=some p.2∧H p.1=none∧p.1≠X.env.locals∧p.1∉X.fs∧∀ v,p.2.data≠.cell v
 hok:HOk X.prog X.w H s.heap
 len:σ.length=X.N.length
 hq:HdOk X.A H
section
variable {X:Cx}{pins:List (Addr×Obj)}{σ:List (Option V)}{H H':Hp}{s:Shared}{h':Heap}
theorem Cx.Ok.nofr (ok:X.Ok) {b:Addr}{o:Obj} (e:X.base.get? b=some o):b∉X.fs:=fun hb=>by
 have:=(ok.funs.mem hb).1
 rw [e] at this;cases this
theorem Inv.bs (I:Inv X pins σ H s):∀ b o,X.base.get? b=some o→s.heap.get? b=some o∧H b=none:=fun b o e=>
 ⟨I.base.keep b o (I.ok.bs b o e).1 (I.ok.bs b o e).2 (I.ok.nofr e) (I.ok.noex b o e),I.base.free b o (I.ok.bs b o e).1 (I.ok.bs b o e).2 (I.ok.noex b o e)⟩
theorem Inv.bk (I:Inv X pins σ H s):∀ b o,X.base.get? b=some o→s.heap.get? b=some o:=fun b o e=>(I.bs b o e).1
theorem Inv.mod (I:Inv X pins σ H s):Mod X.K X.mg X.base:=I.ok.mod
theorem Inv.kIn (I:Inv X pins σ H s):X.K.In s.heap:=I.ok.mod.kin.keeps I.bk
theorem Inv.lt (I:Inv X pins σ H s):X.env.locals < s.heap.objs.size:=let ⟨_,hn,_⟩:=I.loc;hn.lt
theorem Inv.sz (I:Inv X pins σ H s):X.s₀.heap.objs.size≤s.heap.objs.size:=Nat.le_trans I.ok.above (Nat.le_of_lt I.lt)
theorem Inv.nofs (I:Inv X pins σ H s) {a:Addr} (h:s.heap.objs.size≤a):a∉X.fs:=fun hb=>by
 obtain ⟨_,o,ho,_⟩:=I.ok.funs.mem hb
 exact absurd (Nat.lt_of_lt_of_le (Heap.lt_size ho) (Nat.le_trans I.sz h)) (Nat.lt_irrefl _)
theorem Inv.cne (I:Inv X pins σ H s):∀ x c,X.env.cells.lookup x=some c→c≠X.env.locals:=fun x c e z=>by
 obtain ⟨v,o,ho,hd⟩:=I.cell x c e
 obtain ⟨m,⟨o',es,ep,ho',hd',_⟩,_⟩:=I.loc
 rw [z,ho'] at ho;cases ho;rw [hd'] at hd;cases hd
theorem Inv.funs (I:Inv X pins σ H s):s.heap.FunFrames X.base X.outer:=by
 have all:∀ (l:List Env),(∀ b∈frs l,b∈X.fs)→X.s₀.heap.FunFrames X.base l→s.heap.FunFrames X.base l:=by
  intro l
  induction l with
  | nil=>intro _ _;trivial
  | cons env r ih=>
   intro hs hl
   obtain ⟨hk,⟨L,o,hf,hn,ho,hd⟩,hr⟩:=hl
   have hL:L∈X.fs:=hs L (by unfold frs;rw [List.filterMap_cons,hf];exact List.mem_cons_self)
   obtain ⟨sl,e⟩:=I.base.slot L o ho (I.ok.frf L hL) hL fun z=>I.ok.exfs L z hL
   exact ⟨hk,⟨L,_,hf,hn,e,hd⟩,ih (fun b hb=>hs b (by unfold frs;rw [List.filterMap_cons,hf];exact List.mem_cons_of_mem _ hb)) hr⟩
 exact all X.outer (fun _ hb=>hb) I.ok.funs
theorem Inv.stack (I:Inv X pins σ H s):s.heap.FunFrames X.base X.stack:=by
 rcases I.ok.stk with e | ⟨e,hf⟩
 ·rw [e];exact I.funs
 ·rw [e]
  obtain ⟨m,hn,_⟩:=I.loc
  refine .cons (by rw [I.ok.kind];decide) hf hn ?_ I.funs
  exact Heap.get?_none_of_le (Nat.le_trans I.ok.bsz I.ok.above)
theorem Inv.stkSub (I:Inv X pins σ H s):∀ b∈frs X.stack,b∈X.env.locals::X.fs:=fun b hb=>by
 rcases I.ok.stk with e | ⟨e,hf⟩
 ·rw [e] at hb;exact List.mem_cons_of_mem _ hb
 ·rw [e] at hb
  unfold frs at hb
  rw [List.filterMap_cons,hf] at hb
  exact hb
theorem Inv.stkFree (I:Inv X pins σ H s):∀ b∈frs X.stack,H b=none:=fun b hb=>by
 rcases List.mem_cons.mp (I.stkSub b hb) with e | hb
 ·rw [e];exact I.free
 ·obtain ⟨_,o,ho,_⟩:=I.ok.funs.mem hb
  exact I.base.free b o ho (I.ok.frf b hb) fun z=>I.ok.exfs b z hb
theorem Inv.step {g':Array GenState}{t':Nat}{d':Drawn}{ch:List Addr} (I:Inv X pins σ H s)
  (hch:∀ b∈ch,(b∈X.ex∨X.s₀.heap.objs.size≤b)∧b≠X.env.locals∧(∀ x c,X.env.cells.lookup x=some c→c≠b)∧∀ p∈X.pn++pins,p.1≠b)
  (keep:∀ b o,b≠X.env.locals→b∉X.fs→b∉ch→s.heap.get? b=some o→H b=none→h'.get? b=some o)
  (slot:∀ b o,b≠X.env.locals→b∈X.fs→b∉ch→s.heap.get? b=some o→H b=none→∃ sl,h'.get? b=some { o with slots:=sl }) (free:∀ b o,b∉ch→s.heap.get? b=some o→H b=none→H' b=none)
  (there:∀ b o,b∉ch→s.heap.get? b=some o→∃ o',h'.get? b=some o')
  (tups:∀ b xs,H b=some (.tup xs)→H' b=some (.tup xs)) (frzs:∀ b o u,H b=some (.frz o u)→H' b=some (.frz o u)) (tbls:∀ b ps,H b=some (.tbl ps)→∃ more,H' b=some (.tbl (ps++more)))
  (ns:∀ m,s.heap.Ns X.env.locals m→h'.Ns X.env.locals m) (hok:HOk X.prog X.w H' h') (hg:AllBare g') :
  Inv X pins σ H' { s with heap:=h',gens:=g',drawn:=d',toks:=t' }:=by
 have neL:∀ b o,X.s₀.heap.get? b=some o→b≠X.env.locals:=fun b o e=>Nat.ne_of_lt (Nat.lt_of_lt_of_le (Heap.lt_size e) I.ok.above)
 have neC:∀ b o,X.s₀.heap.get? b=some o→b∉X.ex→b∉ch:=fun b o e hx hb=>by
  rcases (hch b hb).1 with z | z
  ·exact hx z
  ·exact absurd (Nat.lt_of_lt_of_le (Heap.lt_size e) z) (Nat.lt_irrefl _)
 have cellK:∀ x c,X.env.cells.lookup x=some c→∀ v,s.heap.IsCell c v→h'.IsCell c v:=fun x c e v ⟨o,ho,hd⟩=>by
  have nch:c∉ch:=fun z=>(hch c z).2.2.1 x c e rfl
  by_cases hc:c∈X.fs
  ·obtain ⟨sl,q⟩:=slot c o (I.cne x c e) hc nch ho (I.freeC x c e)
   exact ⟨_,q,hd⟩
  ·exact ⟨o,keep c o (I.cne x c e) hc nch ho (I.freeC x c e),hd⟩
 refine ⟨I.ok,I.os,hg,⟨fun b o e n hb hx=>?_,fun b o e n hb hx=>?_,fun b o e n hx=>?_,fun b o e hx=>?_,fun b xs e=>tups b xs (I.base.tups b xs e),fun b o xs e=>frzs b o xs (I.base.frzs b o xs e),fun b ps e=>?_⟩,?_,fun x c e=>?_,?_,fun x c e=>?_,fun p hp=>?_,hok,I.len,I.hq.mono frzs⟩
 ·exact keep b o (neL b o e) hb (neC b o e hx) (I.base.keep b o e n hb hx) (I.base.free b o e n hx)
 ·obtain ⟨sl,e1⟩:=I.base.slot b o e n hb hx
  obtain ⟨sl',e2⟩:=slot b _ (neL b o e) hb (neC b o e hx) e1 (I.base.free b o e n hx)
  exact ⟨sl',e2⟩
 ·obtain ⟨o',e1⟩:=I.base.there b o e hx
  exact free b o' (neC b o e hx) e1 (I.base.free b o e n hx)
 ·obtain ⟨o',e1⟩:=I.base.there b o e hx
  exact there b o' (neC b o e hx) e1
 ·obtain ⟨m1,e1⟩:=I.base.tbls b ps e
  obtain ⟨m2,e2⟩:=tbls b _ e1
  exact ⟨m1++m2,by rw [e2,Array.append_assoc]⟩
 ·obtain ⟨m,hn,hl⟩:=I.loc
  refine ⟨m,ns m hn,fun i x v e1 e2 e3=>?_⟩
  obtain ⟨u,r,l⟩:=hl i x v e1 e2 e3
  refine ⟨u,r,?_⟩
  rcases l with l | ⟨k,c,e,z⟩
  ·exact .inl l
  ·exact .inr ⟨k,c,e,cellK x c e _ z⟩
 ·obtain ⟨v,z⟩:=I.cell x c e
  exact ⟨v,cellK x c e v z⟩
 ·obtain ⟨m,⟨o,_,_,ho,_⟩,_⟩:=I.loc
  exact free _ o (fun z=>(hch _ z).2.1 rfl) ho I.free
 ·obtain ⟨v,o,ho,hd⟩:=I.cell x c e
  exact free c o (fun z=>(hch c z).2.2.1 x c e rfl) ho (I.freeC x c e)
 ·obtain ⟨e,n,ne,nf,d⟩:=I.pin p hp
  have nch:p.1∉ch:=fun z=>(hch p.1 z).2.2.2 p hp rfl
  exact ⟨keep p.1 p.2 ne nf nch e n,free p.1 p.2 nch e n,ne,nf,d⟩
theorem Inv.un {t':Nat} (I:Inv X pins σ H s) (u:Un X.fs [] H H' s.heap h') (hok:HOk X.prog X.w H' h'):Inv X pins σ H' { s with heap:=h',toks:=t' }:=by
 obtain ⟨m,⟨o,es,ep,ho,r⟩,_⟩:=id I.loc
 obtain ⟨sl,hL⟩:=u.any ho I.free (by simp)
 exact I.step (g':=s.gens) (d':=s.drawn) (ch:=[]) (fun _ z=>nomatch z) (fun b o _ hb _ e n=>u.keep b o e n hb (by simp)) (fun b o _ hb _ e n=>u.slot b o e n hb (by simp)) (fun b o _ e n=>u.free b o e n (by simp)) (fun b o _ e=>u.there b o e (by simp)) u.tups u.frzs u.tbls (fun m' hm=>by
  obtain ⟨o',es',ep',ho',r'⟩:=hm
  rw [ho] at ho';cases ho'
  exact ⟨_,es',ep',hL,r'⟩) hok I.bare
theorem Inv.call {g':Array GenState}{t':Nat}{d':Drawn}{ch:List Addr} (I:Inv X pins σ H s) (u:Un (frs X.stack) ch H H' s.heap h') (hok:HOk X.prog X.w H' h') (hg:AllBare g')
  (hch:∀ b∈ch,(b∈X.ex∨X.s₀.heap.objs.size≤b)∧b≠X.env.locals∧(∀ x c,X.env.cells.lookup x=some c→c≠b)∧∀ p∈X.pn++pins,p.1≠b) :
  Inv X pins σ H' { s with heap:=h',gens:=g',drawn:=d',toks:=t' }:=by
 obtain ⟨m,⟨o,es,ep,ho,r⟩,_⟩:=id I.loc
 obtain ⟨sl,hL⟩:=u.any ho I.free fun z=>(hch _ z).2.1 rfl
 exact I.step (ch:=ch) hch (fun b o hL hb hc e n=>u.keep b o e n (fun z=>(List.mem_cons.mp (I.stkSub b z)).elim hL hb) hc) (fun b o _ _ hc e n=>u.any e n hc) (fun b o hc e n=>u.free b o e n hc) (fun b o hc e=>u.there b o e hc) u.tups u.frzs u.tbls (fun m' hm=>by
  obtain ⟨o',es',ep',ho',r'⟩:=hm
  rw [ho] at ho';cases ho'
  exact ⟨_,es',ep',hL,r'⟩) hok hg
theorem Inv.turned {t':Nat}{it:Addr} (I:Inv X pins σ H s) (k:∀ b o,b≠it→s.heap.get? b=some o→h'.get? b=some o) (hn:H it=none) (hL:it≠X.env.locals)
  (h1:it∈X.ex∨X.s₀.heap.objs.size≤it) (h2:∀ x c,X.env.cells.lookup x=some c→c≠it) (h3:∀ p∈X.pn++pins,p.1≠it):Inv X pins σ H { s with heap:=h',toks:=t' }:=by
 have nit:∀ b u,H b=some u→b≠it:=fun b u e z=>by rw [z,hn] at e;cases e
 refine I.step (g':=s.gens) (d':=s.drawn) (ch:=[it]) (fun b hb=>?_) (fun b o _ _ hc e _=>k b o (fun z=>hc (by simp [z])) e) (fun b o _ _ hc e _=>⟨o.slots,k b o (fun z=>hc (by simp [z])) e⟩) (fun _ _ _ _ n=>n)
  (fun b o hc e=>⟨o,k b o (fun z=>hc (by simp [z])) e⟩) (fun _ _ e=>e) (fun _ _ _ e=>e) (fun b ps e=>⟨#[],by rw [e];simp⟩) (fun m hm=>?_) (fun b u e=>?_) I.bare
 ·have e:b=it:=by simpa using hb
  subst e
  exact ⟨h1,hL,h2,h3⟩
 ·obtain ⟨o,es,ep,ho,r⟩:=hm
  exact ⟨o,es,ep,k _ o (Ne.symm hL) ho,r⟩
 ·refine (I.hok b u e).stay (fun c v hc q=>k c v ?_ q) (fun _ q=>q) fun _ _ q=>q
  rcases hc with z | z
  ·rw [z];exact nit b u e
  ·exact nit c _ z
theorem Inv.tok (I:Inv X pins σ H s) (t:Nat):Inv X pins σ H { s with toks:=t }:=I.un (h':=s.heap) (t':=t) Un.refl I.hok
theorem Inv.kept {t':Nat} (I:Inv X pins σ H s) (k:∀ b u,s.heap.get? b=some u→h'.get? b=some u):Inv X pins σ H { s with heap:=h',toks:=t' }:=I.un (Un.kept k) (I.hok.kept k)
theorem Inv.laid {a:Addr}{o:HO}{t':Nat} (I:Inv X pins σ H s) (k:∀ b u,s.heap.get? b=some u→h'.get? b=some u) (hp:s.heap.objs.size≤a) (new:ObjOk X.prog X.w (upd H a o) h' a o) :
  Inv X pins σ (upd H a o) { s with heap:=h',toks:=t' }:=I.un (Un.laid k hp (I.hok.fresh hp)) (I.hok.laid k hp new)
theorem Inv.write {x e:Addr}{o:HO}{t':Nat} (I:Inv X pins σ H s) (mu:Mut (H x)) (he:e=x∨H e=some (.own x)) (k:∀ b u,b≠e→s.heap.get? b=some u→h'.get? b=some u) (heo:∃ u,h'.get? e=some u)
  (new:ObjOk X.prog X.w (upd H x o) h' x o):Inv X pins σ (upd H x o) { s with heap:=h',toks:=t' }:=I.un (Un.write mu he k heo) (I.hok.write mu he k heo new)
theorem Inv.pins_of {pins':List (Addr×Obj)} (I:Inv X pins σ H s) (h:∀ p∈pins',s.heap.get? p.1=some p.2∧H p.1=none∧p.1≠X.env.locals∧p.1∉X.fs∧∀ v,p.2.data≠.cell v):Inv X pins' σ H s:=
 ⟨I.ok,I.os,I.bare,I.base,I.loc,I.cell,I.free,I.freeC,fun p hp=>(List.mem_append.mp hp).elim (fun z=>I.pin p (List.mem_append_left _ z)) (h p),I.hok,I.len,I.hq⟩
theorem nodup_ix {N:List Str} (hN:N.Nodup) {i j:Nat}{x:Str} (a:N[i]? = some x) (b:N[j]? = some x):i=j:=by
 obtain ⟨h1,e1⟩:=List.getElem?_eq_some_iff.mp a
 obtain ⟨h2,e2⟩:=List.getElem?_eq_some_iff.mp b
 exact (List.getElem_inj hN).mp (e1.trans e2.symm)
theorem store_ok2 {M:Model}{A:Around}{E:Value→Shared→Prop}{i:Nat}{x:Str}{v:V}{u:Value}{Q:Unit→Shared→Prop} (I:Inv X pins σ H s) (hN:X.N.Nodup) (hi:X.N[i]? = some x) (hx:Loc X.env.scope x) (r:RelV v u)
  (h:∀ s',Inv X pins (σ.set i (some v)) H s'→(∃ a,Heap.SameBut a s.heap s'.heap∧(a=X.env.locals∨X.env.cells.lookup x=some a))→Q () s') (hf:X.fn x=true∨X.env.scope.names.lookup x=some .local:=by first | exact .inl rfl | exact .inr rfl | assumption):wpAny M A (storeName X.env x u) Q E s:=by
 obtain ⟨m,hn,hl⟩:=id I.loc
 have hcls:(X.env.scope.kind == .class||(X.env.scope.kind == .module&&X.env.locals != X.env.globals))=false:=by rw [I.ok.kind];rfl
 have hiσ:i < σ.length:=by rw [I.len];exact (List.getElem?_eq_some_iff.mp hi).1
 have cne:=I.cne
 have tracked:∀ {a:Addr}{h':Heap},(∃ o,s.heap.get? a=some o∧H a=none)→Heap.SameBut a s.heap h'→HOk X.prog X.w H h':=fun {a h'} ha hs b ob e=>by
  obtain ⟨_,_,hfree⟩:=ha
  refine (I.hok b ob e).stay (fun c w' hc q=>(hs.2 c ?_).trans q) (fun _ q=>q) fun _ _ q=>q
  rintro rfl
  rcases hc with rfl | hc
  ·rw [hfree] at e;cases e
  ·rw [hfree] at hc;cases hc
 rcases hx with hk | hk
 ·refine wpAny_storeName_local hk hn (fun h' hn' hs=>?_) hcls
  obtain ⟨oL,_,_,hoL,_⟩:=id hn
  refine h _ ⟨I.ok,I.os,I.bare,⟨fun b o e n hb hx=>?_,fun b o e n hb hx=>?_,I.base.free,fun b o e hx=>?_,I.base.tups,I.base.frzs,I.base.tbls⟩,⟨_,hn',fun j y v' e1 e2 e3=>?_⟩,fun y c e=>?_,I.free,I.freeC,fun p hp=>?_,tracked ⟨oL,hoL,I.free⟩ hs,by simpa using I.len,I.hq⟩ ⟨_,hs,.inl rfl⟩
  ·exact (hs.2 b (Nat.ne_of_lt (Nat.lt_of_lt_of_le (Heap.lt_size e) I.ok.above))).trans (I.base.keep b o e n hb hx)
  ·obtain ⟨sl,e1⟩:=I.base.slot b o e n hb hx
   exact ⟨sl,(hs.2 b (Nat.ne_of_lt (Nat.lt_of_lt_of_le (Heap.lt_size e) I.ok.above))).trans e1⟩
  ·obtain ⟨o',e1⟩:=I.base.there b o e hx
   exact ⟨o',(hs.2 b (Nat.ne_of_lt (Nat.lt_of_lt_of_le (Heap.lt_size e) I.ok.above))).trans e1⟩
  ·by_cases hj:j=i
   ·subst hj
    rw [hi] at e1;cases e1
    rw [List.getElem?_set_self hiσ] at e2
    cases e2
    exact ⟨u,r,.inl ⟨hk,by simp⟩⟩
   ·rw [List.getElem?_set_ne (Ne.symm hj)] at e2
    obtain ⟨u',r',q⟩:=hl j y v' e1 e2 e3
    refine ⟨u',r',?_⟩
    rcases q with ⟨k,e⟩ | ⟨k,c,e,z⟩
    ·refine .inl ⟨k,?_⟩
     have:y≠x:=fun e=>hj (nodup_ix hN e1 (e ▸ hi))
     simp [this,e]
    ·exact .inr ⟨k,c,e,z.sameBut hs (cne y c e)⟩
  ·obtain ⟨w',z⟩:=I.cell y c e
   exact ⟨w',z.sameBut hs (cne y c e)⟩
  ·obtain ⟨e,n,ne,nf,d⟩:=I.pin p hp
   exact ⟨(hs.2 p.1 ne).trans e,n,ne,nf,d⟩
 ·have hfn:X.fn x=true:=by
   rcases hf with z | z
   ·exact z
   ·rw [z] at hk;cases hk
  obtain ⟨c,hc⟩:=I.ok.has x (.inl hk)
  obtain ⟨w',z⟩:=I.cell x c hc
  refine wpAny_storeName_cell I.ok.kind hk hc z (fun h' hc' hs=>?_)
  obtain ⟨oc,hoc,hocd⟩:=id z
  refine h { s with heap:=h' } ⟨I.ok,I.os,I.bare,⟨fun b o e n hb hx=>?_,fun b o e n hb hx=>?_,I.base.free,fun b o e hx=>?_,I.base.tups,I.base.frzs,I.base.tbls⟩,⟨m,hn.sameBut hs (Ne.symm (cne x c hc)),fun j y v' e1 e2 e3=>?_⟩,fun y c' e=>?_,I.free,I.freeC,fun p hp=>?_,tracked ⟨oc,hoc,I.freeC x c hc⟩ hs,by simpa using I.len,I.hq⟩ ⟨c,hs,.inr hc⟩
  ·exact (hs.2 b (Nat.ne_of_lt (Nat.lt_of_lt_of_le (Heap.lt_size e) (I.ok.cab x c hfn hc)))).trans (I.base.keep b o e n hb hx)
  ·obtain ⟨sl,e1⟩:=I.base.slot b o e n hb hx
   exact ⟨sl,(hs.2 b (Nat.ne_of_lt (Nat.lt_of_lt_of_le (Heap.lt_size e) (I.ok.cab x c hfn hc)))).trans e1⟩
  ·obtain ⟨o',e1⟩:=I.base.there b o e hx
   exact ⟨o',(hs.2 b (Nat.ne_of_lt (Nat.lt_of_lt_of_le (Heap.lt_size e) (I.ok.cab x c hfn hc)))).trans e1⟩
  ·by_cases hj:j=i
   ·subst hj
    rw [hi] at e1;cases e1
    rw [List.getElem?_set_self hiσ] at e2
    cases e2
    exact ⟨u,r,.inr ⟨.inl hk,c,hc,hc'⟩⟩
   ·rw [List.getElem?_set_ne (Ne.symm hj)] at e2
    obtain ⟨u',r',q⟩:=hl j y v' e1 e2 e3
    refine ⟨u',r',?_⟩
    rcases q with q | ⟨k,c',e,z'⟩
    ·exact .inl q
    ·refine .inr ⟨k,c',e,z'.sameBut hs ?_⟩
     rintro rfl
     exact hj (nodup_ix hN e1 (I.ok.inj _ _ _ e hc ▸ hi))
  ·by_cases hcc:c'=c
   ·subst hcc;exact ⟨_,hc'⟩
   ·obtain ⟨w2,z2⟩:=I.cell y c' e
    exact ⟨w2,z2.sameBut hs hcc⟩
  ·obtain ⟨e,n,ne,nf,d⟩:=I.pin p hp
   refine ⟨(hs.2 p.1 ?_).trans e,n,ne,nf,d⟩
   intro q
   rw [q,hoc] at e
   have q':oc=p.2:=Option.some.inj e
   exact d w' (by rw [← q'];exact hocd)
theorem store_ok {M:Model}{A:Around}{E:Value→Shared→Prop}{i:Nat}{x:Str}{v:V}{u:Value}{Q:Unit→Shared→Prop} (I:Inv X pins σ H s) (hN:X.N.Nodup) (hi:X.N[i]? = some x) (hx:Loc X.env.scope x) (r:RelV v u)
  (h:∀ s',Inv X pins (σ.set i (some v)) H s'→Q () s') (hf:X.fn x=true∨X.env.scope.names.lookup x=some .local:=by first | exact .inl rfl | exact .inr rfl | assumption):wpAny M A (storeName X.env x u) Q E s:=
 store_ok2 I hN hi hx r (fun s' I' _=>h s' I') hf
theorem Inv.call' {s':Shared}{ch:List Addr} (I:Inv X pins σ H s) (ho:s'.os=s.os) (u:Un (frs X.stack) ch H H' s.heap s'.heap) (hok:HOk X.prog X.w H' s'.heap) (hg:AllBare s'.gens)
  (hch:∀ b∈ch,(b∈X.ex∨X.s₀.heap.objs.size≤b)∧b≠X.env.locals∧(∀ x c,X.env.cells.lookup x=some c→c≠b)∧∀ p∈X.pn++pins,p.1≠b):Inv X pins σ H' s':=by
 obtain ⟨h',g',d',t',o'⟩:=s'
 have e:o'=s.os:=ho
 subst e
 exact I.call (g':=g') (t':=t') (d':=d') u hok hg hch
end
abbrev XK:=Value→Option Addr→Hp→Prop
abbrev St:=List (Option V)
abbrev VK:=V→Hp→Prop
abbrev TE:=St→Hp→VK→Prop
abbrev TT:=St→Hp→(Bool→Hp→Prop)→Prop
abbrev TA:=St→Hp→(List V→Hp→Prop)→Prop
structure Ends where
 nx:St→Hp→Prop
 rt:VK
 bk:St→Hp→Prop:=fun _ _=>False
 ct:St→Hp→Prop:=fun _ _=>False
abbrev TS:=Ends→St→Hp→Prop
def EP (X:Cx) (pins:List (Addr×Obj)) (σ:St) (Q:VK) (u:Value) (s':Shared):Prop:=∃ v H',Inv X pins σ H' s'∧RelV v u∧Q v H'
def TP (X:Cx) (pins:List (Addr×Obj)) (σ:St) (Q:Bool→Hp→Prop) (b:Bool) (s':Shared):Prop:=∃ H',Inv X pins σ H' s'∧Q b H'
def AP (X:Cx) (pins:List (Addr×Obj)) (σ:St) (Q:List V→Hp→Prop) (us:List Value) (s':Shared):Prop:=∃ vs H',Inv X pins σ H' s'∧Vals vs us∧Q vs H'
def SP (X:Cx) (pins:List (Addr×Obj)) (D:Ends) (f:Flow) (s':Shared):Prop:=
 match f with
 | .next=>∃ σ' H',Inv X pins σ' H' s'∧D.nx σ' H'
 | .brk=>∃ σ' H',Inv X pins σ' H' s'∧D.bk σ' H'
 | .cont=>∃ σ' H',Inv X pins σ' H' s'∧D.ct σ' H'
 | .ret u=>∃ v σ' H',Inv X pins σ' H' s'∧RelV v u∧D.rt v H'
def PE (X:Cx) (e:Expr) (t:TE):Prop:=
 ∀ (pins:List (Addr×Obj)) (s:Shared) (σ:St) (H:Hp) (Q:VK),Inv X pins σ H s→t σ H Q→wpAny (model X.prog X.w) X.A (eval e X.env) (EP X pins σ Q) X.xe s
def PT (X:Cx) (e:Expr) (t:TT):Prop:=
 ∀ (pins:List (Addr×Obj)) (s:Shared) (σ:St) (H:Hp) (Q:Bool→Hp→Prop),Inv X pins σ H s→t σ H Q→wpAny (model X.prog X.w) X.A (isTrue e X.env (eval e X.env)) (TP X pins σ Q) X.xe s
def PW (X:Cx) (e:Expr) (t:TT):Prop:=
 ∀ (whole:Sem Value) (pins:List (Addr×Obj)) (s:Shared) (σ:St) (H:Hp) (Q:Bool→Hp→Prop),Inv X pins σ H s→t σ H Q→wpAny (model X.prog X.w) X.A (isTrue e X.env whole) (TP X pins σ Q) X.xe s
theorem PW.pt {X:Cx}{e:Expr}{t:TT} (h:PW X e t):PT X e t:=h _
def PA (X:Cx) (es:List Expr) (t:TA):Prop:=
 ∀ (pos:Pos) (pins:List (Addr×Obj)) (s:Shared) (σ:St) (H:Hp) (Q:List V→Hp→Prop),Inv X pins σ H s→t σ H Q→wpAny (model X.prog X.w) X.A (spliced (backTo pos (starEach es X.env))) (AP X pins σ Q) X.xe s
def PS (X:Cx) (st:Stmt) (t:TS):Prop:=
 ∀ (pins:List (Addr×Obj)) (s:Shared) (σ:St) (H:Hp) (D:Ends),Inv X pins σ H s→t D σ H→wpAny (model X.prog X.w) X.A (exec st X.env) (SP X pins D) X.xe s
def PSs (X:Cx) (st:List Stmt) (t:TS):Prop:=
 ∀ (pins:List (Addr×Obj)) (s:Shared) (σ:St) (H:Hp) (D:Ends),Inv X pins σ H s→t D σ H→wpAny (model X.prog X.w) X.A (execs st X.env) (SP X pins D) X.xe s
theorem thn {α:Type}{t:Sem α}{Q Q':α→Shared→Prop}{M:Model}{A:Around}{E:Value→Shared→Prop}{s:Shared} (h:wpAny M A t Q E s) (hQ:∀ a s,Q a s→Q' a s):wpAny M A t Q' E s:=wpAny_mono h hQ fun _ _ x=>x
section
variable {X:Cx}
theorem bin {a b:Expr}{ta tb:TE} (ha:PE X a ta) (hb:PE X b tb) {pins:List (Addr×Obj)}{s:Shared}{σ:St}{H:Hp}{R:V→V→Hp→Prop} (I:Inv X pins σ H s) (h:ta σ H fun x H1=>tb σ H1 fun y H2=>R x y H2)
  {α:Type}{Q:α→Shared→Prop}{f:Value→Value→Sem α}
  (hf:∀ v u s2 x y H2,Inv X pins σ H2 s2→RelV x v→RelV y u→R x y H2→wpAny (model X.prog X.w) X.A (f v u) Q X.xe s2) :
  wpAny (model X.prog X.w) X.A (eval a X.env) (fun v s₁=>wpAny (model X.prog X.w) X.A (eval b X.env) (fun u s₂=>wpAny (model X.prog X.w) X.A (f v u) Q X.xe s₂) X.xe s₁) X.xe s:=by
 refine thn (ha pins s σ H _ I h) fun v s1 ⟨x,H1,I1,r1,q1⟩=>?_
 refine thn (hb pins s1 σ H1 _ I1 q1) fun u s2 ⟨y,H2,I2,r2,q2⟩=>?_
 exact hf v u s2 x y H2 I2 r1 r2 q2
def tVar (i:Nat):TE:=fun σ H Q=>∃ v,σ[i]? = some (some v)∧Q v H
def tC (v:V):TE:=fun _ H Q=>Q v H
theorem pe_var {i:Nat}{x:Str}{pos:Pos} (hN:X.N[i]? = some x) (hv:Vis X.env.scope x) (hd:(x == ("__debug__":Str))=false:=by decide) (hcd:(x == ("__classdict__":Str))=false:=by decide):PE X (.Name x pos) (tVar i):=by
 intro pins s σ H Q I h
 obtain ⟨v,e,h⟩:=h
 obtain ⟨m,hn,hl⟩:=I.loc
 obtain ⟨u,r,l⟩:=hl i x v hN e hv
 have fin:EP X pins σ Q u s:=⟨v,H,I,r,h⟩
 rcases l with ⟨hk,hm⟩ | ⟨hk,c,hc,hcell⟩
 ·exact wpAny_Name (wpAny_loadName_local I.ok.kind hk hn hm fin) hd
 ·rcases hk with hk | hk
  ·exact wpAny_Name (wpAny_loadName_cell I.ok.kind hk hc hcell fin) hd
  ·exact wpAny_Name (wpAny_loadName_free I.ok.kind hk hc hcell fin hcd) hd
theorem pe_int {i j pos}:PE X (.Constant (.int i) j pos) (tC (.int i)):=fun _ _ _ H _ I h=>wpAny_Constant_int ⟨.int i,H,I.tok _,⟨_,rfl⟩,h⟩
theorem pe_bl {b j pos}:PE X (.Constant (.bool b) j pos) (tC (.bl b)):=fun _ _ _ H _ I h=>Constant_bool ⟨.bl b,H,I,rfl,h⟩
theorem pe_non {j pos}:PE X (.Constant .none j pos) (tC .non):=fun _ _ _ H _ I h=>Constant_none ⟨.non,H,I,rfl,h⟩
theorem pe_str {x j pos}:PE X (.Constant (.str x) j pos) (tC (.str x)):=fun _ _ _ H _ I h=>Calls.Constant_str ⟨.str x,H,I.tok _,⟨_,rfl⟩,h⟩
def Gl (X:Cx) (x:Str):Prop:=X.env.kindOf x=some .globalImplicit
theorem ld_glob {E:Value→Shared→Prop}{pins:List (Addr×Obj)}{s:Shared}{σ:St}{H:Hp}{x:Str}{u:Value}{pos:Pos}{Q:Value→Shared→Prop} (I:Inv X pins σ H s) (hg:Gl X x) (hm:X.mg x=some u) (h:Q u s)
  (hd:(x == ("__debug__":Str))=false:=by decide):wpAny (model X.prog X.w) X.A (eval (.Name x pos) X.env) Q E s:=
 Calls.Name_function_global I.ok.kind hg (Calls.loadGlobal_global (by rw [I.ok.glob];exact I.mod.glob.keeps I.bk) hm h) hd
theorem ld_blt {E:Value→Shared→Prop}{pins:List (Addr×Obj)}{s:Shared}{σ:St}{H:Hp}{x:Str}{u:Value}{pos:Pos}{Q:Value→Shared→Prop} (I:Inv X pins σ H s) (hg:Gl X x) (hm:X.mg x=none) (hv:bootBuiltins x=some u) (h:Q u s)
  (hn:x≠"__name__":=by decide) (hd:(x == ("__debug__":Str))=false:=by decide):wpAny (model X.prog X.w) X.A (eval (.Name x pos) X.env) Q E s:=by
 obtain ⟨mb,h1,h2⟩:=I.mod.blt
 exact Calls.Name_function_global I.ok.kind hg (Calls.loadGlobal_builtin (by rw [I.ok.glob];exact I.mod.glob.keeps I.bk) hm (by rw [I.ok.blt];exact h1.keeps I.bk) ((h2 x hn).trans hv) h) hd
theorem pe_glob {x:Str}{v:V}{u:Value}{pos:Pos} (hg:Gl X x) (hm:X.mg x=some u) (r:RelV v u) (hd:(x == ("__debug__":Str))=false:=by decide):PE X (.Name x pos) (tC v):=
 fun _ _ _ H _ I h=>ld_glob I hg hm ⟨v,H,I,r,h⟩ hd
theorem pe_bltn {x:Str}{v:V}{u:Value}{pos:Pos} (hg:Gl X x) (hm:X.mg x=none) (hv:bootBuiltins x=some u) (r:RelV v u) (hn:x≠"__name__":=by decide) (hd:(x == ("__debug__":Str))=false:=by decide):PE X (.Name x pos) (tC v):=
 fun _ _ _ H _ I h=>ld_blt I hg hm hv ⟨v,H,I,r,h⟩ hn hd
variable {a b:Expr}{ta tb:TE}{pos:Pos}
def PC (X:Cx) (op:CmpOp) (a b:Expr) (t:TE):Prop:=
 ∀ (pins:List (Addr×Obj)) (s:Shared) (σ:St) (H:Hp) (Q:VK),Inv X pins σ H s→t σ H Q →
  wpAny (model X.prog X.w) X.A (eval a X.env) (fun v s₁=>wpAny (model X.prog X.w) X.A (eval b X.env) (fun u s₂=>wpAny (model X.prog X.w) X.A (compareOp op v u) (EP X pins σ Q) X.xe s₂) X.xe s₁) X.xe s
def tB (t:TE):TT:=fun σ H Q=>t σ H fun x H1=>∃ c,x=.bl c∧Q c H1
theorem pt_cmp {op:CmpOp}{t:TE} (h:PC X op a b t) (h1:behindInMarks op b=false:=by first | exact nobehind _ (by decide) (by decide) | rfl):PT X (.Compare a [op] [b] pos) (tB t):=by
 intro pins s σ H Q I hw
 refine wpAny_isTrue_Compare1 (thn (h pins s σ H _ I hw) fun v s1 h1=>thn h1 fun u s2 h2=>thn h2 fun c s3 ⟨x,H1,I1,r1,q1⟩=>?_) h1
 obtain ⟨d,rfl,q⟩:=q1
 cases r1
 exact wpAny_truthy_bool ⟨H1,I1,q⟩
theorem pt_val {e:Expr}{t:TE} (h:PE X e t) (he:∀ whole,isTrue e X.env whole=(do let v ← whole;standAt e.pos;holding [v] (truthy v)):=by intro _;rfl):PT X e (tB t):=by
 intro pins s σ H Q I hw
 refine isTrue_plain (thn (h pins s σ H _ I hw) fun v s1 ⟨x,H1,I1,r1,q1⟩=>?_) (he _)
 obtain ⟨d,rfl,q⟩:=q1
 cases r1
 exact wpAny_truthy_bool ⟨H1,I1,q⟩
variable {tA tB':TT}{rest:List Expr}
def tAnd (t u:TT):TT:=fun σ H Q=>t σ H fun c H1=>if c=true then u σ H1 Q else Q false H1
def tOr (t u:TT):TT:=fun σ H Q=>t σ H fun c H1=>if c=true then Q true H1 else u σ H1 Q
def tNot (t:TT):TT:=fun σ H Q=>t σ H fun c H1=>Q (!c) H1
theorem pw_and1 (ha:PT X a tA):PW X (.BoolOp .And [a] pos) tA:=by
 intro wh pins s σ H Q I h
 refine isTrue_and (thn (ha pins s σ H Q I h) fun c s1 e=>?_)
 cases c with
 | true=>exact isTrue_and_nil e
 | false=>exact e
theorem pw_or1 (ha:PT X a tA):PW X (.BoolOp .Or [a] pos) tA:=by
 intro wh pins s σ H Q I h
 refine isTrue_or (thn (ha pins s σ H Q I h) fun c s1 e=>?_)
 cases c with
 | false=>exact isTrue_or_nil e
 | true=>exact e
theorem pw_and (ha:PT X a tA) (hb:PW X (.BoolOp .And (b::rest) pos) tB'):PW X (.BoolOp .And (a::b::rest) pos) (tAnd tA tB'):=by
 intro wh pins s σ H Q I h
 refine isTrue_and (thn (ha pins s σ H _ I h) fun c s1 ⟨H1,I1,q1⟩=>?_)
 cases c with
 | true=>exact hb wh pins s1 σ H1 Q I1 q1
 | false=>exact ⟨H1,I1,q1⟩
theorem pw_or (ha:PT X a tA) (hb:PW X (.BoolOp .Or (b::rest) pos) tB'):PW X (.BoolOp .Or (a::b::rest) pos) (tOr tA tB'):=by
 intro wh pins s σ H Q I h
 refine isTrue_or (thn (ha pins s σ H _ I h) fun c s1 ⟨H1,I1,q1⟩=>?_)
 cases c with
 | true=>exact ⟨H1,I1,q1⟩
 | false=>exact hb wh pins s1 σ H1 Q I1 q1
theorem pt_not (ha:PT X a tA):PT X (.UnaryOp .Not a pos) (tNot tA):=by
 intro pins s σ H Q I h
 exact isTrue_not (ha pins s σ H (fun c H1=>Q (!c) H1) I h)
def tAndV (ta tb:TE):TE:=fun σ H Q=>ta σ H fun x H1=>∃ c,x=.bl c∧if c=true then tb σ H1 Q else Q (.bl false) H1
def tOrV (ta tb:TE):TE:=fun σ H Q=>ta σ H fun x H1=>∃ c,x=.bl c∧if c=true then Q (.bl true) H1 else tb σ H1 Q
def tNotV (ta:TE):TE:=fun σ H Q=>ta σ H fun x H1=>∃ c,x=.bl c∧Q (.bl (!c)) H1
theorem pe_one {op}{t:TE} (h:PE X a t):PE X (.BoolOp op [a] pos) t:=fun pins s σ H Q I hw=>BoolOp_one (h pins s σ H Q I hw)
theorem pe_and (ha:PE X a ta) (hb:PE X (.BoolOp .And (b::rest) pos) tb):PE X (.BoolOp .And (a::b::rest) pos) (tAndV ta tb):=by
 intro pins s σ H Q I h
 refine BoolOp_and (thn (ha pins s σ H _ I h) fun v s1 ⟨x,H1,I1,r1,q1⟩=>?_)
 obtain ⟨c,rfl,q1⟩:=q1
 cases r1
 refine wpAny_truthy_bool ?_
 cases c with
 | true=>exact hb pins s1 σ H1 Q I1 q1
 | false=>exact ⟨.bl false,H1,I1,rfl,q1⟩
theorem pe_or (ha:PE X a ta) (hb:PE X (.BoolOp .Or (b::rest) pos) tb):PE X (.BoolOp .Or (a::b::rest) pos) (tOrV ta tb):=by
 intro pins s σ H Q I h
 refine BoolOp_or (thn (ha pins s σ H _ I h) fun v s1 ⟨x,H1,I1,r1,q1⟩=>?_)
 obtain ⟨c,rfl,q1⟩:=q1
 cases r1
 refine wpAny_truthy_bool ?_
 cases c with
 | false=>exact hb pins s1 σ H1 Q I1 q1
 | true=>exact ⟨.bl true,H1,I1,rfl,q1⟩
theorem pe_not (ha:PE X a ta):PE X (.UnaryOp .Not a pos) (tNotV ta):=by
 intro pins s σ H Q I h
 refine UnaryOp_ (thn (ha pins s σ H _ I h) fun v s1 ⟨x,H1,I1,r1,q1⟩=>?_)
 obtain ⟨c,rfl,q1⟩:=q1
 cases r1
 exact not_of (wpAny_truthy_bool ⟨.bl (!c),H1,I1,rfl,q1⟩)
def tIf (t:TT) (ta tb:TE):TE:=fun σ H Q=>t σ H fun c H1=>if c=true then ta σ H1 Q else tb σ H1 Q
theorem pe_ifExp {c:Expr} (hc:PT X c tA) (ha:PE X a ta) (hb:PE X b tb):PE X (.IfExp c a b pos) (tIf tA ta tb):=by
 intro pins s σ H Q I h
 refine wpAny_IfExp (thn (hc pins s σ H _ I h) fun d s1 ⟨H1,I1,q1⟩=>?_)
 cases d with
 | true=>exact ha pins s1 σ H1 Q I1 q1
 | false=>exact hb pins s1 σ H1 Q I1 q1
end
def SqL (K:PySem.W.Frag) (H:Hp) (a:Addr) (xs:List V):Prop:=
 Rd H a (.lst xs) ∨
  ∃ (o:Obj) (its:Array Value) (n:Nat),K.lookup a=some o∧o.cls=.type "list"∧o.dict=none∧o.data=.seq its n∧its.size≤sizeLine∧Vals xs its.toList
def SqT (K:PySem.W.Frag) (H:Hp) (a:Addr) (xs:List V):Prop:=
 Rd H a (.tup xs) ∨
  ∃ (o:Obj) (its:Array Value) (n:Nat),K.lookup a=some o∧o.cls=.type "tuple"∧o.dict=none∧o.data=.seq its n∧its.size≤sizeLine∧Vals xs its.toList
def absV:Value→Option V
 | .none=>some .non
 | .bool b=>some (.bl b)
 | .int i _=>some (.int i)
 | .str x _=>some (.str x)
 | .bytes b _=>some (.byt b)
 | .float b _=>some (.flt b)
 | .ref a=>some (.ref a)
 | .type n=>some (.ty n)
 | _=>none
theorem RelV.abs {x:V}{u:Value} (r:RelV x u):absV u=some x:=by
 cases x with
 | non=>cases r;rfl
 | bl _=>cases r;rfl
 | int _=>obtain ⟨t,rfl⟩:=r;rfl
 | str _=>obtain ⟨t,rfl⟩:=r;rfl
 | byt _=>obtain ⟨t,rfl⟩:=r;rfl
 | flt _=>obtain ⟨t,rfl⟩:=r;rfl
 | ref _=>cases r;rfl
 | ty _=>cases r;rfl
theorem RelV.inj {x y:V}{u:Value} (r:RelV x u) (q:RelV y u):x=y:=Option.some.inj (r.abs.symm.trans q.abs)
theorem Vals.inj:∀ {xs ys:List V}{us:List Value},Vals xs us→Vals ys us→xs=ys
 | _,_,_,.nil,.nil=>rfl
 | _,_,_,.cons r t,.cons r' t'=>by rw [r.inj r',Vals.inj t t']
section
variable {X:Cx}{pins:List (Addr×Obj)}{σ:St}{H:Hp}{s:Shared}{a:Addr}{xs ys:List V}
theorem SqL.of {K:PySem.W.Frag} (h:H a=some (.lst xs)):SqL K H a xs:=.inl (.inl h)
theorem SqT.of {K:PySem.W.Frag} (h:H a=some (.tup xs)):SqT K H a xs:=.inl (.inl h)
theorem Inv.list (I:Inv X pins σ H s) (h:SqL X.K H a xs):∃ its:List Value,Vals xs its∧PlainL s.heap a its.toArray∧xs.length≤sizeLine:=by
 rcases h with h | ⟨o,its,n,hk,hc,hd,hs,hz,r⟩
 ·obtain ⟨z,its,n,r,e⟩:=h.ok I.hok
  exact ⟨its,r,⟨_,n,e,rfl,rfl,rfl⟩,z⟩
 ·refine ⟨its.toList,r,⟨o,n,I.kIn a o hk,hc,hd,by simpa using hs⟩,?_⟩
  have e:=r.length
  simp only [Array.length_toList] at e
  omega
theorem Inv.tuple (I:Inv X pins σ H s) (h:SqT X.K H a xs):∃ its:List Value,Vals xs its∧IsTup s.heap a its.toArray∧xs.length≤sizeLine:=by
 rcases h with h | ⟨o,its,n,hk,hc,hd,hs,hz,r⟩
 ·obtain ⟨z,its,r,p⟩:=h.ok I.hok
  exact ⟨its,r,p.isTup,z⟩
 ·refine ⟨its.toList,r,⟨o,I.kIn a o hk,hc,n,by simpa using hs⟩,?_⟩
  have e:=r.length
  simp only [Array.length_toList] at e
  omega
theorem Inv.list_inj (I:Inv X pins σ H s) (h:SqL X.K H a xs) (h':SqL X.K H a ys):xs=ys:=by
 obtain ⟨its,r,⟨o,n,e,_,_,d⟩,_⟩:=I.list h
 obtain ⟨its',r',⟨o',n',e',_,_,d'⟩,_⟩:=I.list h'
 rw [e] at e';cases e'
 rw [d] at d'
 injection d' with d1 _
 have:its=its':=by simpa using congrArg Array.toList d1
 subst this
 exact r.inj r'
theorem Inv.tuple_inj (I:Inv X pins σ H s) (h:SqT X.K H a xs) (h':SqT X.K H a ys):xs=ys:=by
 obtain ⟨its,r,⟨o,e,_,n,d⟩,_⟩:=I.tuple h
 obtain ⟨its',r',⟨o',e',_,n',d'⟩,_⟩:=I.tuple h'
 rw [e] at e';cases e'
 rw [d] at d'
 injection d' with d1 _
 have:its=its':=by simpa using congrArg Array.toList d1
 subst this
 exact r.inj r'
end
abbrev Cx.wish (X:Cx) (E:Value→Shared→Prop):Cx:={ X with xe:=E }
abbrev Cx.nox (X:Cx):Cx:=X.wish fun _ _=>False
theorem Cx.Ok.wish {X:Cx} (ok:X.Ok) (E:Value→Shared→Prop):(X.wish E).Ok:=
 ⟨ok.mod,ok.kind,ok.glob,ok.blt,ok.above,ok.inj,ok.has,ok.cab,ok.hd,ok.frames,ok.stk,ok.exf,ok.bs,ok.bsz,ok.noex,ok.exfs,ok.funs,ok.frf⟩
theorem Cx.Ok.unwish {X:Cx}{E:Value→Shared→Prop} (ok:(X.wish E).Ok):X.Ok:=
 ⟨ok.mod,ok.kind,ok.glob,ok.blt,ok.above,ok.inj,ok.has,ok.cab,ok.hd,ok.frames,ok.stk,ok.exf,ok.bs,ok.bsz,ok.noex,ok.exfs,ok.funs,ok.frf⟩
section
variable {X:Cx}{pins:List (Addr×Obj)}{σ:St}{H:Hp}{s:Shared}{E:Value→Shared→Prop}
theorem Inv.wish (I:Inv X pins σ H s) (E:Value→Shared→Prop):Inv (X.wish E) pins σ H s:=⟨I.ok.wish E,I.os,I.bare,I.base,I.loc,I.cell,I.free,I.freeC,I.pin,I.hok,I.len,I.hq⟩
theorem Inv.unwish (I:Inv (X.wish E) pins σ H s):Inv X pins σ H s:=⟨I.ok.unwish,I.os,I.bare,I.base,I.loc,I.cell,I.free,I.freeC,I.pin,I.hok,I.len,I.hq⟩
theorem SP.unwish {D:Ends}{f:Flow}{s':Shared} (h:SP (X.wish E) pins D f s'):SP X pins D f s':=by
 cases f with
 | next=>obtain ⟨σ',H',I,q⟩:=h;exact ⟨σ',H',I.unwish,q⟩
 | brk=>obtain ⟨σ',H',I,q⟩:=h;exact ⟨σ',H',I.unwish,q⟩
 | cont=>obtain ⟨σ',H',I,q⟩:=h;exact ⟨σ',H',I.unwish,q⟩
 | ret u=>obtain ⟨v,σ',H',I,r,q⟩:=h;exact ⟨v,σ',H',I.unwish,r,q⟩
theorem PSs.nox {st:List Stmt}{t:TS} (h:PSs X.nox st t):PSs X st t:=fun pins s σ H D I hw=>
 wpAny_mono (h pins s σ H D (I.wish _) hw) (fun _ _ q=>q.unwish) fun _ _ z=>False.elim z
end
section
variable {X:Cx}{st:Stmt}{rest:List Stmt}{t u:TS}{e:Expr}{te:TE}{pos:Pos}
def tNext:TS:=fun D σ H=>D.nx σ H
def tSeq (t u:TS):TS:=fun D σ H=>t { D with nx:=u D } σ H
theorem pss_nil:PSs X [] tNext:=fun _ _ σ H _ I h=>wpAny_execs_nil ⟨σ,H,I,h⟩
theorem pss_cons (h1:PS X st t) (h2:PSs X rest u):PSs X (st::rest) (tSeq t u):=by
 intro pins s σ H D I h
 refine wpAny_execs_cons (thn (h1 pins s σ H { D with nx:=u D } I h) fun f s1 q=>?_)
 cases f with
 | next=>
  obtain ⟨σ',H',I',q⟩:=q
  exact h2 pins s1 σ' H' D I' q
 | ret v=>exact q
 | brk=>exact q
 | cont=>exact q
theorem pss_one (h1:PS X st t):PSs X [st] t:=by
 intro pins s σ H D I h
 refine wpAny_execs_cons (thn (h1 pins s σ H D I h) fun f s1 q=>?_)
 cases f with
 | next=>exact wpAny_execs_nil q
 | ret v=>exact q
 | brk=>exact q
 | cont=>exact q
theorem Inv.quiet {pins:List (Addr×Obj)}{σ:St}{H:Hp}{s:Shared} (I:Inv X pins σ H s):interactive X.env=false:=by simp [interactive,I.ok.kind]
def tDrop (te:TE):TS:=fun D σ H=>te σ H fun _ H1=>D.nx σ H1
theorem ps_expr (he:PE X e te) (hs:swapsWith e none pos.line X.env=pure false:=by rfl):PS X (.Expr e pos) (tDrop te):=by
 intro pins s σ H D I h
 exact wpAny_Expr_any (thn (he pins s σ H _ I h) fun v s1 ⟨x,H1,I1,r1,q1⟩=>⟨σ,H1,I1,q1⟩) I.quiet hs
def tRet (te:TE):TS:=fun D σ H=>te σ H D.rt
theorem ps_ret (he:PE X e te):PS X (.Return (some e) pos) (tRet te):=by
 intro pins s σ H D I h
 exact wpAny_Return_some (thn (he pins s σ H _ I h) fun v s1 ⟨x,H1,I1,r1,q1⟩=>⟨x,σ,H1,I1,r1,q1⟩)
def tIfS (c:TT) (t u:TS):TS:=fun D σ H=>c σ H fun b H1=>if b=true then t D σ H1 else u D σ H1
theorem ps_if {c:Expr}{a b:List Stmt}{tc:TT} (hc:PT X c tc) (ha:PSs X a t) (hb:PSs X b u):PS X (.If c a b pos) (tIfS tc t u):=by
 intro pins s σ H D I h
 refine wpAny_If (thn (hc pins s σ H _ I h) fun d s1 ⟨H1,I1,q1⟩=>?_)
 cases d with
 | true=>exact ha pins s1 σ H1 D I1 q1
 | false=>exact hb pins s1 σ H1 D I1 q1
def tNever:TS:=fun _ _ _=>False
theorem ps_never:PS X st tNever:=fun _ _ _ _ _ _ h=>h.elim
end
abbrev TG:=V→St→Hp→(St→Hp→Prop)→Prop
abbrev TGs:=List V→St→Hp→(St→Hp→Prop)→Prop
def PG (X:Cx) (target:Expr) (t:TG):Prop:=
 ∀ (pins:List (Addr×Obj)) (s:Shared) (σ:St) (H:Hp) (v:V) (u:Value) (Q:St→Hp→Prop),Inv X pins σ H s→RelV v u→t v σ H Q →
  wpAny (model X.prog X.w) X.A (assign target X.env u) (fun _ s'=>∃ σ' H',Inv X pins σ' H' s'∧Q σ' H') X.xe s
def PGs (X:Cx) (ts:List Expr) (t:TGs):Prop:=
 ∀ (pins:List (Addr×Obj)) (s:Shared) (σ:St) (H:Hp) (vs:List V) (us:List Value) (Q:St→Hp→Prop),Inv X pins σ H s→Vals vs us→t vs σ H Q →
  wpAny (model X.prog X.w) X.A (assignInOrder ((assignEach ts X.env).map (·.2)) us) (fun _ s'=>∃ σ' H',Inv X pins σ' H' s'∧Q σ' H') X.xe s
section
variable {X:Cx}{pos:Pos}
def gName (i:Nat):TG:=fun v σ H Q=>Q (σ.set i (some v)) H
theorem pg_name {i:Nat}{x:Str} (hN:X.N.Nodup) (hi:X.N[i]? = some x) (hx:Loc X.env.scope x) (hf:X.fn x=true∨X.env.scope.names.lookup x=some .local:=by first | exact .inl rfl | exact .inr rfl | assumption):PG X (.Name x pos) (gName i):=by
 intro pins s σ H v u Q I r h
 exact wpAny_assign_Name (store_ok I hN hi hx r (fun s' I'=>⟨_,H,I',h⟩) hf)
def gNil:TGs:=fun vs σ H Q=>vs=[]∧Q σ H
def gCons (t:TG) (u:TGs):TGs:=fun vs σ H Q=>∃ v r,vs=v::r∧t v σ H fun σ' H'=>u r σ' H' Q
theorem pgs_nil:PGs X [] gNil:=by
 intro pins s σ H vs us Q I r h
 obtain ⟨e,h⟩:=h
 subst e
 cases r
 exact assignInOrder_nil ⟨σ,H,I,h⟩
theorem pgs_cons {e:Expr}{es:List Expr}{t:TG}{u:TGs} (h1:PG X e t) (h2:PGs X es u)
  (hs:(assignEach (e::es) X.env).map (·.2)=assign e X.env::(assignEach es X.env).map (·.2):=by rfl):PGs X (e::es) (gCons t u):=by
 intro pins s σ H vs us Q I r h
 obtain ⟨v,vr,e1,h⟩:=h
 subst e1
 cases r with
 | cons r rr=>
  rw [hs]
  refine assignInOrder_cons (thn (h1 pins s σ H _ _ _ I r h) fun _ s1 ⟨σ1,H1,I1,q1⟩=>?_)
  exact h2 pins s1 σ1 H1 _ _ Q I1 rr q1
def gTup (K:PySem.W.Frag) (n:Nat) (t:TGs):TG:=fun v σ H Q=>∃ a xs,v=.ref a∧SqT K H a xs∧xs.length=n∧t xs σ H Q
theorem pg_tup {es:List Expr}{k:Nat}{t:TGs}{n:Nat} (hc:X.calm=true) (h:PGs X es t)
  (hn:(assignEach es X.env).length=n:=by rfl) (hst:(assignEach es X.env).findIdx? (·.1)=none:=by rfl):PG X (.Tuple es k pos) (gTup X.K n t):=by
 intro pins s σ H v u Q I r hw
 obtain ⟨a,xs,e1,hq,hl,hw⟩:=hw
 subst e1
 cases r
 obtain ⟨its,rv,ht,hz⟩:=I.tuple hq
 refine assign_Tuple_tuple (I.ok.hd hc) ht (by simp [hn,← hl,rv.length]) hst fun h' hx=>?_
 have I1:Inv X pins σ H { s with heap:=h' }:=I.kept (t':=s.toks) fun b o e=>hx b o (Nat.ne_of_lt (Heap.lt_size e)) e
 exact h pins _ σ H xs _ Q I1 (by simpa using rv) hw
def tAsg (te:TE) (g:TG):TS:=fun D σ H=>te σ H fun x H1=>g x σ H1 D.nx
theorem ps_asg {tg e:Expr}{te:TE}{g:TG} (he:PE X e te) (hg:PG X tg g) (hs:swapsWithSole [tg] e pos.line X.env=pure false:=by rfl) (hw:swappedStores [tg] e X.env=pure none:=by rfl)
  (h1:(assignEach [tg] X.env).map (·.2)=[assign tg X.env]:=by rfl):PS X (.Assign [tg] e pos) (tAsg te g):=by
 intro pins s σ H D I h
 refine wpAny_Assign_stores (thn (he pins s σ H _ I h) fun v s1 ⟨x,H1,I1,r1,q1⟩=>?_) hs hw
 rw [h1]
 exact thn (hg pins s1 σ H1 x v _ I1 r1 q1) fun _ s2 q=>q
theorem ps_set {i:Nat}{x:Str}{e:Expr}{te:TE}{pos':Pos} (hN:X.N.Nodup) (hi:X.N[i]? = some x) (hx:Loc X.env.scope x) (he:PE X e te) (hs:swapsWith e (some (.Name x pos')) pos.line X.env=pure false:=by rfl) (hf:X.fn x=true∨X.env.scope.names.lookup x=some .local:=by first | exact .inl rfl | exact .inr rfl | assumption) :
  PS X (.Assign [.Name x pos'] e pos) (tAsg te (gName i)):=by
 intro pins s σ H D I h
 refine wpAny_Assign_Name (thn (he pins s σ H _ I h) fun v s1 ⟨y,H1,I1,r1,q1⟩=>?_) hs
 exact store_ok I1 hN hi hx r1 (fun s2 I2=>⟨_,H1,I2,q1⟩) hf
end
structure It where
 go:Nat→Hp→Prop
 yld:Nat→Hp→V→Hp→Prop
 stop:Nat→Hp→Prop
 rg:Bool
def FpOk (X:Cx) (pins:List (Addr×Obj)) (H:Hp) (b:Addr):Prop:=
 H b=none∧b≠X.env.locals∧b∉X.fs∧(b∈X.ex∨X.s₀.heap.objs.size≤b)∧(∀ x c,X.env.cells.lookup x=some c→c≠b)∧∀ p∈X.pn++pins,p.1≠b
theorem Inv.fpOk {X:Cx}{pins:List (Addr×Obj)}{σ:St}{H H':Hp}{s:Shared}{b:Addr} (I:Inv X pins σ H s) (hb:s.heap.objs.size≤b) (hn:H' b=none):FpOk X pins H' b:=by
 refine ⟨hn,Nat.ne_of_gt (Nat.lt_of_lt_of_le I.lt hb),I.nofs hb,.inr (Nat.le_trans I.sz hb),fun x c e z=>?_,fun p hp z=>?_⟩
 ·obtain ⟨v,q⟩:=I.cell x c e
  exact absurd (Nat.lt_of_lt_of_le q.lt (by rw [z];exact hb)) (Nat.lt_irrefl _)
 ·exact absurd (Nat.lt_of_lt_of_le (Heap.lt_size (I.pin p hp).1) (by rw [z];exact hb)) (Nat.lt_irrefl _)
structure Turn (P:Program) (w:World) (K:PySem.W.Frag) (tg:Expr) (J:It) (fp:List Addr) (it:Addr) (tn:Nat→Heap→Prop):Prop where
 mem:it∈fp
 obj:∀ i h,tn i h→∀ b∈fp,∃ o,h.get? b=some o∧∀ v,o.data≠.cell v
 keep:∀ i h h',tn i h→(∀ b∈fp,∀ o,h.get? b=some o→h'.get? b=some o)→tn i h'
 item:∀ (X:Cx),X.prog=P→X.w=w→X.K=K→(X.calm=true∨J.rg=true)→∀ (i:Nat) (pins:List (Addr×Obj)) (s:Shared) (σ:St) (H:Hp) (E:Value→Shared→Prop),Inv X pins σ H s→(∀ b∈fp,FpOk X pins H b)→tn i s.heap→J.go i H →
  wpAny (model P w) X.A (pyNext (.ref it)) (fun r s1=>∃ u,r=some u ∧
   wpAny (model P w) X.A (letOwnedTupleGo tg (.ref it) u) (fun _ s2=>∃ x H',Inv X pins σ H' s2∧RelV x u∧J.yld i H x H'∧tn (i + 1) s2.heap∧∀ b∈fp,H' b=none) E s1) E s
 done:∀ (X:Cx),X.prog=P→X.w=w→X.K=K→(X.calm=true∨J.rg=true)→∀ (i:Nat) (pins:List (Addr×Obj)) (s:Shared) (σ:St) (H:Hp) (E:Value→Shared→Prop),Inv X pins σ H s→(∀ b∈fp,FpOk X pins H b)→tn i s.heap→J.stop i H →
  wpAny (model P w) X.A (pyNext (.ref it)) (fun r s1=>r=none∧Inv X pins σ H s1) E s
 self:∀ (A:Around) (i:Nat) (s:Shared) (Q:Value→Shared→Prop) (E:Value→Shared→Prop),tn i s.heap→Q (.ref it) s→wpAny (model P w) A (pyIter (.ref it)) Q E s
abbrev TI:=St→Hp→(It→Hp→Prop)→Prop
def PIE (X:Cx) (pins:List (Addr×Obj)) (σ:St) (tg:Expr) (R:It→Hp→Prop) (itv:Value) (s2:Shared):Prop:=
 ∃ (it:Addr) (fp:List Addr) (tn:Nat→Heap→Prop) (J:It) (H':Hp),itv=.ref it∧Inv X pins σ H' s2∧Turn X.prog X.w X.K tg J fp it tn∧tn 0 s2.heap∧(∀ b∈fp,FpOk X pins H' b)∧R J H'
def PI (X:Cx) (tg iter:Expr) (wi:TI):Prop:=
 ∀ (pins:List (Addr×Obj)) (s:Shared) (σ:St) (H:Hp) (R:It→Hp→Prop),Inv X pins σ H s→wi σ H R →
  wpAny (model X.prog X.w) X.A (eval iter X.env) (fun v s1=>wpAny (model X.prog X.w) X.A (pyIter v) (PIE X pins σ tg R) X.xe s1) X.xe s
theorem go_of {M:Model}{A:Around}{E:Value→Shared→Prop}{s:Shared}{tg:Expr}{it:Addr}{u:Value}{o:Obj}{n:String}{vs:Array Value}{Q:Unit→Shared→Prop} (ho:s.heap.get? it=some o) (hc:o.cls=.type n) (hd:o.data=.fields vs)
    (hn:["enumerate","zip","dict_itemiterator","dict_reverseitemiterator","odict_iterator","itertools.zip_longest","itertools.pairwise"].contains n=false) (hQ:Q () s):wpAny M A (letOwnedTupleGo tg (.ref it) u) Q E s:=by
  unfold letOwnedTupleGo
  cases tg <;> first
    | exact wpAny_pure hQ
    | (cases u <;> first
        | exact wpAny_pure hQ
        | (refine wpAny_bind (wpAny_load ho ?_)
           rw [hc,hd]
           show wpAny M A (if (["enumerate","zip","dict_itemiterator","dict_reverseitemiterator","odict_iterator","itertools.zip_longest","itertools.pairwise"].contains n&&vs[0]? == some (rawInt _))=true then _ else _) Q E s
           rw [if_neg (by intro h;rw [hn,Bool.false_and] at h;cases h)]
           exact wpAny_pure hQ))
def Itl (K:PySem.W.Frag) (a:Addr):It:=
 ⟨fun i H=>∃ xs x,SqL K H a xs∧xs[i]? = some x,fun i H x H'=>H'=H∧∀ xs,SqL K H a xs→xs[i]? = some x,fun i H=>∃ xs,SqL K H a xs∧xs.length≤i,false⟩
def Itt (K:PySem.W.Frag) (a:Addr):It:=
 ⟨fun i H=>∃ xs x,SqT K H a xs∧xs[i]? = some x,fun i H x H'=>H'=H∧∀ xs,SqT K H a xs→xs[i]? = some x,fun i H=>∃ xs,SqT K H a xs∧xs.length≤i,false⟩
def Itr (lo:Int) (n:Nat):It:=⟨fun i _=>i < n,fun i H x H'=>H'=H∧x=.int (lo + i),fun i _=>n≤i,true⟩
theorem turn_list {P:Program}{w:World}{K:PySem.W.Frag}{tg:Expr} (a it:Addr):Turn P w K tg (Itl K a) [it] it (fun i h=>h.IsListIter it a i) where
 mem:=by simp
 obj:=fun i h st b hb=>by
  have e:b=it:=by simpa using hb
  subst e
  obtain ⟨o,e,c,d⟩:=st
  exact ⟨o,e,fun v z=>by rw [d] at z;cases z⟩
 keep:=fun i h h' st k=>st.at fun o e=>k it (by simp) o e
 item:=by
  intro X hP hw hK hc i pins s σ H E I hf st hg
  subst hP hw hK
  obtain ⟨xs,x,hq,hx⟩:=hg
  obtain ⟨its,rv,p,hz⟩:=I.list hq
  obtain ⟨u,hu,ru⟩:=rv.get hx
  obtain ⟨f0,f1,f2,f3,f4,f5⟩:=hf it (by simp)
  refine wpAny_pyNext_list_item st p.isList (x:=u) (by simpa using hu) fun h' st' sb=>?_
  have I1:Inv X pins σ H { s with heap:=h' }:=I.turned (t':=s.toks) (fun b o hb e=>(sb.2 b hb).trans e) f0 f1 f3 f4 f5
  obtain ⟨o,e,c,d⟩:=id st'
  exact ⟨u,rfl,go_of (s:={ s with heap:=h' }) e c d (by decide) ⟨x,H,I1,ru,⟨rfl,fun ys hy=>by rw [I.list_inj hy hq];exact hx⟩,st',fun b hb=>(hf b hb).1⟩⟩
 done:=by
  intro X hP hw hK hc i pins s σ H E I hf st hg
  subst hP hw hK
  obtain ⟨xs,hq,hx⟩:=hg
  obtain ⟨its,rv,p,hz⟩:=I.list hq
  obtain ⟨f0,f1,f2,f3,f4,f5⟩:=hf it (by simp)
  have hl:=rv.length
  exact wpAny_pyNext_list_end (I.ok.hd (hc.resolve_right fun z=>Bool.false_ne_true z)) st p.isList (by simp;omega) fun h' eb=>⟨rfl,I.turned (t':=s.toks) (fun b o hb e=>eb b o hb e) f0 f1 f3 f4 f5⟩
 self:=fun _ _ _ _ _ st h=>wpAny_pyIter_listiter st h
theorem turn_tuple {P:Program}{w:World}{K:PySem.W.Frag}{tg:Expr} (a it:Addr):Turn P w K tg (Itt K a) [it] it (fun i h=>h.IsTupleIter it a i) where
 mem:=by simp
 obj:=fun i h st b hb=>by
  have e:b=it:=by simpa using hb
  subst e
  obtain ⟨o,e,c,d⟩:=st
  exact ⟨o,e,fun v z=>by rw [d] at z;cases z⟩
 keep:=fun i h h' st k=>st.at fun o e=>k it (by simp) o e
 item:=by
  intro X hP hw hK hc i pins s σ H E I hf st hg
  subst hP hw hK
  obtain ⟨xs,x,hq,hx⟩:=hg
  obtain ⟨its,rv,p,hz⟩:=I.tuple hq
  obtain ⟨u,hu,ru⟩:=rv.get hx
  obtain ⟨f0,f1,f2,f3,f4,f5⟩:=hf it (by simp)
  refine wpAny_pyNext_tuple_item st (show s.heap.IsTuple a its.toArray from p) (x:=u) (by simpa using hu) fun h' st' sb=>?_
  have I1:Inv X pins σ H { s with heap:=h' }:=I.turned (t':=s.toks) (fun b o hb e=>(sb.2 b hb).trans e) f0 f1 f3 f4 f5
  obtain ⟨o,e,c,d⟩:=id st'
  exact ⟨u,rfl,go_of (s:={ s with heap:=h' }) e c d (by decide) ⟨x,H,I1,ru,⟨rfl,fun ys hy=>by rw [I.tuple_inj hy hq];exact hx⟩,st',fun b hb=>(hf b hb).1⟩⟩
 done:=by
  intro X hP hw hK hc i pins s σ H E I hf st hg
  subst hP hw hK
  obtain ⟨xs,hq,hx⟩:=hg
  obtain ⟨its,rv,p,hz⟩:=I.tuple hq
  obtain ⟨f0,f1,f2,f3,f4,f5⟩:=hf it (by simp)
  have hl:=rv.length
  exact wpAny_pyNext_tuple_end (I.ok.hd (hc.resolve_right fun z=>Bool.false_ne_true z)) st (show s.heap.IsTuple a its.toArray from p) (by simp;omega) fun h' eb=>⟨rfl,I.turned (t':=s.toks) (fun b o hb e=>eb b o hb e) f0 f1 f3 f4 f5⟩
 self:=fun _ _ _ _ _ st h=>wpAny_pyIter_tupleiter st h
theorem turn_range {P:Program}{w:World}{K:PySem.W.Frag}{tg:Expr} (it:Addr) (lo:Int) (n:Nat):Turn P w K tg (Itr lo n) [it] it (fun i h=>IsRangeIter h it (lo + (i:Nat) * 1) ((n:Int) - (i:Nat)) 1) where
 mem:=by simp
 obj:=fun i h st b hb=>by
  have e:b=it:=by simpa using hb
  subst e
  exact ⟨_,st,fun v z=>by
   have z':Data.fields _=Data.cell v:=z
   cases z'⟩
 keep:=fun i h h' st k=>k it (by simp) _ st
 item:=by
  intro X hP hw hK hc i pins s σ H E I hf st hg
  subst hP hw hK
  obtain ⟨f0,f1,f2,f3,f4,f5⟩:=hf it (by simp)
  refine wpAny_pyNext_range_item st (by have:i < n:=hg;omega) fun h' st' sb=>?_
  have I1:Inv X pins σ H { s with heap:=h',toks:=s.toks + 1 }:=I.turned (fun b o hb e=>(sb.2 b hb).trans e) f0 f1 f3 f4 f5
  have e1:lo + ((i + 1:Nat):Int) * 1=lo + (i:Int) * 1 + 1:=by omega
  have e2:(n:Int) - ((i + 1:Nat):Int)=(n:Int) - (i:Int) - 1:=by omega
  refine ⟨_,rfl,go_of (s:={ s with heap:=h',toks:=s.toks + 1 }) (n:="range_iterator") st' rfl rfl (by decide) ⟨.int (lo + i),H,I1,⟨s.toks,?_⟩,⟨rfl,rfl⟩,by rw [e1,e2];exact st',fun b hb=>(hf b hb).1⟩⟩
  rw [Int.mul_one]
 done:=by
  intro X hP hw hK hc i pins s σ H E I hf st hg
  subst hP hw hK
  obtain ⟨f0,f1,f2,f3,f4,f5⟩:=hf it (by simp)
  rcases I.hq with h0 | ⟨a',ob,u,vs,h0,h1,h2,h3⟩
  ·exact wpAny_pyNext_range_end h0 st (by have:n≤i:=hg;omega) fun h' eb=>⟨rfl,I.turned (t':=s.toks) (fun b o hb e=>eb b o hb e) f0 f1 f3 f4 f5⟩
  ·exact range_endH h0 (I.hok a' _ h1).1 h2 h3 st (by have:n≤i:=hg;omega) fun h' eb=>⟨rfl,I.turned (t':=s.toks) (fun b o hb e=>eb b o hb e) f0 f1 f3 f4 f5⟩
 self:=fun _ _ _ _ _ st h=>wpAny_pyIter_rangeiter st h
section
variable {X:Cx}{tg:Expr}
theorem range_it {pins:List (Addr×Obj)}{σ:St}{H:Hp}{s:Shared}{R:It→Hp→Prop}{E:Value→Shared→Prop}{lo hi:Int}{t u v:Tok}{tk:Nat} (I:Inv X pins σ H s) (h1:-(2 ^ 62)≤lo) (h2:lo < 2 ^ 62) (h3:-(2 ^ 62)≤hi) (h4:hi < 2 ^ 62)
  (q:R (Itr lo (hi - lo).toNat) H):wpAny (model X.prog X.w) X.A (pyIter (.ref s.heap.objs.size)) (PIE X pins σ tg R) E { s with heap:=s.heap.push { cls:=.type "range",data:=.fields #[.int lo t,.int hi u,.int 1 v] },toks:=tk }:=by
 refine wpAny_pyIter_range (IsRange.new ..) (small_one h1 h2 h3 h4) ?_
 have I1:Inv X pins σ H { s with heap:=s.heap.push { cls:=.type "range",data:=.fields #[.int lo t,.int hi u,.int 1 v] },toks:=tk }:=I.kept fun b o e=>Heap.get?_push_of_some _ e
 refine ⟨(s.heap.push { cls:=.type "range",data:=.fields #[.int lo t,.int hi u,.int 1 v] }).objs.size,[(s.heap.push { cls:=.type "range",data:=.fields #[.int lo t,.int hi u,.int 1 v] }).objs.size],_,_,H,rfl,
  I1.kept (t':=tk) fun b o e=>Heap.get?_push_of_some _ e,turn_range _ lo (hi - lo).toNat,?_,fun b hb=>?_,q⟩
 ·have e1:lo + ((0:Nat):Int) * 1=lo:=by simp
  have e2:(((hi - lo).toNat:Nat):Int) - ((0:Nat):Int)=Builtin.Range.rangeSize lo hi 1:=by rw [rangeSize_one];split <;> omega
  show IsRangeIter _ _ (lo + ((0:Nat):Int) * 1) ((((hi - lo).toNat:Nat):Int) - ((0:Nat):Int)) 1
  rw [e1,e2]
  exact Heap.get?_push_size _ rfl
 ·have e:b=(s.heap.push { cls:=.type "range",data:=.fields #[.int lo t,.int hi u,.int 1 v] }).objs.size:=by simpa using hb
  subst e
  exact I1.fpOk (Nat.le_refl _) (I1.hok.fresh (Nat.le_refl _))
def iRng1 (ta:TA):TI:=fun σ H R=>ta σ H fun vs H1=>∃ j:Int,vs=[.int j]∧-(2 ^ 62)≤j∧j < 2 ^ 62∧R (Itr 0 j.toNat) H1
theorem pi_range1 {a:Expr}{ta:TA}{p pos:Pos} (hg:Gl X "range") (hm:X.mg "range"=none) (ha:PA X [a] ta) (hs:starEach [a] X.env=[(false,eval a X.env)]:=by rfl):PI X tg (.Call (.Name "range" p) [a] [] pos) (iRng1 ta):=by
 intro pins s σ H R I h
 refine Call_ (ld_blt I hg hm boot_range (PyProof.Rows.callWith_type1 (thn (ha pos pins s σ H _ I h) fun us s1 ⟨vs,H1,I1,r1,q1⟩=>?_) hs rfl))
 obtain ⟨j,e,q1,q2,q⟩:=q1
 subst e
 cases r1 with
 | cons r rr=>
  cases rr
  obtain ⟨t,rfl⟩:=r
  exact call_range_1 (range_it I1 (by omega) (by omega) q1 q2 (by simpa using q))
def tFor (wi:TI) (g:TG) (tb:TS):TS:=fun D σ H=>wi σ H fun J H1=>∃ W:Nat→Nat→St→Hp→Prop,(∃ m,W 0 m σ H1)∧∀ i m σ H,W i m σ H →
 (J.stop i H∧D.nx σ H)∨(J.go i H∧∃ N:St→Hp→Prop,(∀ σ' H',N σ' H'→∃ m',m' < m∧W (i + 1) m' σ' H')∧∀ x H',J.yld i H x H'→g x σ H' fun σ2 H2=>tb { D with nx:=N,ct:=N,bk:=D.nx } σ2 H2)
def pinsAt (fp:List Addr) (h:Heap):List (Addr×Obj):=fp.filterMap fun b=>(h.get? b).map fun o=>(b,o)
theorem mem_pinsAt {fp:List Addr}{h:Heap}{b:Addr}{o:Obj} (hb:b∈fp) (e:h.get? b=some o):(b,o)∈pinsAt fp h:=List.mem_filterMap.mpr ⟨b,hb,by rw [e];rfl⟩
theorem of_pinsAt {fp:List Addr}{h:Heap}{p:Addr×Obj} (hp:p∈pinsAt fp h):p.1∈fp∧h.get? p.1=some p.2:=by
 obtain ⟨b,hb,e⟩:=List.mem_filterMap.mp hp
 cases q:h.get? b with
 | none=>rw [q] at e;cases e
 | some o=>
  rw [q] at e
  have e':(b,o)=p:=Option.some.inj e
  subst e'
  exact ⟨hb,q⟩
theorem Inv.pinned {pins:List (Addr×Obj)}{σ:St}{H:Hp}{s:Shared}{fp:List Addr} (I:Inv X pins σ H s) (hf:∀ b∈fp,FpOk X pins H b) (ho:∀ b∈fp,∃ o,s.heap.get? b=some o∧∀ v,o.data≠.cell v):Inv X (pins++pinsAt fp s.heap) σ H s:=
 I.pins_of fun p hp=>(List.mem_append.mp hp).elim (fun z=>I.pin p (List.mem_append_right _ z)) fun z=>by
  obtain ⟨hb,e⟩:=of_pinsAt z
  obtain ⟨f0,f1,f2,_⟩:=hf p.1 hb
  obtain ⟨o,e',d⟩:=ho p.1 hb
  rw [e] at e';cases e'
  exact ⟨e,f0,f1,f2,d⟩
theorem Inv.unpinned {pins pl:List (Addr×Obj)}{σ:St}{H:Hp}{s:Shared} (I:Inv X (pins++pl) σ H s):Inv X pins σ H s:=I.pins_of fun p hp=>I.pin p (List.mem_append_right _ (List.mem_append_left _ hp))
theorem ps_for {iter:Expr}{body:List Stmt}{wi:TI}{g:TG}{tb:TS}{pos:Pos} (hp:PassesOwn (model X.prog X.w) X.A X.env X.xe) (hc:X.calm=true) (hi:PI X tg iter wi) (hg:PG X tg g) (hb:PSs X body tb)
  (hs:∀ x,foldedSetIterable iter X.env x=pure x:=by intro _;rfl):PS X (.For tg iter body [] pos) (tFor wi g tb):=by
 intro pins s σ H D I h
 refine wpAny_For (thn (hi pins s σ H _ I h) fun v s1 h1=>thn h1 fun itv s2 h2=>?_) hs
 obtain ⟨it,fp,tn,J,H2,e,I2,T,st2,f2,W,⟨m0,w0⟩,turn⟩:=h2
 subst e
 have stat:∀ {H':Hp},(∀ b∈fp,H' b=none)→∀ b∈fp,FpOk X pins H' b:=fun hn b hb=>⟨hn b hb,(f2 b hb).2⟩
 refine codeAny_forLoop_any (fun n s'=>∃ i σ' H',Inv X pins σ' H' s'∧tn i s'.heap∧(∀ b∈fp,H' b=none)∧W i n σ' H') ?_ m0 ⟨0,σ,H2,I2,st2,fun b hb=>(f2 b hb).1,w0⟩
 rintro n s3 ⟨i,σ3,H3,I3,st3,fr3,w3⟩
 rcases turn i n σ3 H3 w3 with ⟨stop,qn⟩ | ⟨go,N,hN,step⟩
 ·refine wpAny_passesOwn hp (thn (T.done X rfl rfl rfl (.inl hc) i pins s3 σ3 H3 X.xe I3 (stat fr3) st3 stop) fun r s4 ⟨hr,I4⟩=>?_)
  subst hr
  exact wpAny_execs_nil ⟨σ3,H3,I4,qn⟩
 ·refine wpAny_passesOwn hp (thn (T.item X rfl rfl rfl (.inl hc) i pins s3 σ3 H3 X.xe I3 (stat fr3) st3 go) fun r s4 ⟨u,hr,h4⟩=>?_)
  subst hr
  refine wpAny_passesOwn hp (thn h4 fun _ s5 ⟨x,H5,I5,r5,y5,st5,fr5⟩=>?_)
  have I5':=I5.pinned (stat fr5) (T.obj _ _ st5)
  refine wpAny_passesOwn hp (thn (hg _ s5 σ3 H5 x u _ I5' r5 (step x H5 y5)) fun _ s6 ⟨σ6,H6,I6,q6⟩=>?_)
  refine wpAny_passesOwn hp (thn (hb _ s6 σ6 H6 _ I6 q6) fun f s7 q7=>?_)
  have again:∀ {σ7:St}{H7:Hp},Inv X (pins++pinsAt fp s5.heap) σ7 H7 s7→N σ7 H7→∃ m,m < n∧∃ i σ' H',Inv X pins σ' H' s7∧tn i s7.heap∧(∀ b∈fp,H' b=none)∧W i m σ' H':=fun {σ7 H7} I7 n7=>by
   obtain ⟨m',hm,w7⟩:=hN σ7 H7 n7
   refine ⟨m',hm,i + 1,σ7,H7,I7.unpinned,T.keep _ _ _ st5 fun b hb o e=>(I7.pin (b,o) (List.mem_append_right _ (List.mem_append_right _ (mem_pinsAt hb e)))).1,fun b hb=>?_,w7⟩
   obtain ⟨o,e,d⟩:=T.obj _ _ st5 b hb
   exact (I7.pin (b,o) (List.mem_append_right _ (List.mem_append_right _ (mem_pinsAt hb e)))).2.1
  cases f with
  | next=>obtain ⟨σ7,H7,I7,n7⟩:=q7;exact again I7 n7
  | cont=>obtain ⟨σ7,H7,I7,n7⟩:=q7;exact again I7 n7
  | brk=>obtain ⟨σ7,H7,I7,q7⟩:=q7;exact ⟨σ7,H7,I7.unpinned,q7⟩
  | ret v=>obtain ⟨x7,σ7,H7,I7,r7,q7⟩:=q7;exact ⟨x7,σ7,H7,I7.unpinned,r7,q7⟩
end
abbrev R2:=V→V→Hp→VK→Prop
def OpR (X:Cx) (f:Value→Value→Sem Value) (r:R2):Prop:=
 ∀ (pins:List (Addr×Obj)) (s:Shared) (σ:St) (H:Hp) (x y:V) (v u:Value) (Q:VK),Inv X pins σ H s→RelV x v→RelV y u→r x y H Q →
  wpAny (model X.prog X.w) X.A (f v u) (EP X pins σ Q) X.xe s
def UnR (X:Cx) (f:Value→Sem Value) (r:V→Hp→VK→Prop):Prop:=
 ∀ (pins:List (Addr×Obj)) (s:Shared) (σ:St) (H:Hp) (x:V) (v:Value) (Q:VK),Inv X pins σ H s→RelV x v→r x H Q →
  wpAny (model X.prog X.w) X.A (f v) (EP X pins σ Q) X.xe s
def CallR (X:Cx) (f:Value) (r:List V→Hp→VK→Prop):Prop:=
 ∀ (pins:List (Addr×Obj)) (s:Shared) (σ:St) (H:Hp) (xs:List V) (us:List Value) (Q:VK),Inv X pins σ H s→Vals xs us→r xs H Q →
  wpAny (model X.prog X.w) X.A (call f us) (EP X pins σ Q) X.xe s
def TruR (X:Cx) (r:V→Hp→(Bool→Hp→Prop)→Prop):Prop:=
 ∀ (pins:List (Addr×Obj)) (s:Shared) (σ:St) (H:Hp) (x:V) (v:Value) (Q:Bool→Hp→Prop),Inv X pins σ H s→RelV x v→r x H Q →
  wpAny (model X.prog X.w) X.A (truthy v) (TP X pins σ Q) X.xe s
def tOp (r:R2) (ta tb:TE):TE:=fun σ H Q=>ta σ H fun x H1=>tb σ H1 fun y H2=>r x y H2 Q
def tUn (r:V→Hp→VK→Prop) (ta:TE):TE:=fun σ H Q=>ta σ H fun x H1=>r x H1 Q
def rI (C:Int→Int→Prop) (g:Int→Int→V):R2:=fun x y H Q=>∃ i j,x=.int i∧y=.int j∧C i j∧Q (g i j) H
def rI0 (g:Int→Int→V):R2:=fun x y H Q=>∃ i j,x=.int i∧y=.int j∧Q (g i j) H
def rU (g:Int→V):V→Hp→VK→Prop:=fun x H Q=>∃ i,x=.int i∧Q (g i) H
section
variable {X:Cx}{a b c:Expr}{ta tb tc:TE}{pos:Pos}
theorem binT (ha:PE X a ta) (hb:PE X b tb) {pins:List (Addr×Obj)}{s:Shared}{σ:St}{H:Hp}{R:V→V→Hp→Prop} (I:Inv X pins σ H s)
  (h:ta σ H fun x H1=>tb σ H1 fun y H2=>R x y H2) {Q:Value→Shared→Prop}{f:Value→Value→Sem Value}
  (hf:∀ v u s2 x y H2,Inv X pins σ H2 s2→RelV x v→RelV y u→R x y H2→wpAny (model X.prog X.w) X.A (f v u) Q X.xe s2) :
  wpAny (model X.prog X.w) X.A (eval a X.env) (fun v s₁=>wpAny (model X.prog X.w) X.A (eval b X.env) (fun u s₂=>wpAny (model X.prog X.w) X.A (f v u) Q X.xe s₂) X.xe s₁) X.xe s:=by
 refine thn (ha pins s σ H _ I h) fun v s1 ⟨x,H1,I1,r1,q1⟩=>?_
 refine thn (hb pins s1 σ H1 _ I1 q1) fun u s2 ⟨y,H2,I2,r2,q2⟩=>?_
 exact hf v u s2 x y H2 I2 r1 r2 q2
theorem pe_op {op:Operator}{r:R2} (ho:OpR X (binaryOp op) r) (ha:PE X a ta) (hb:PE X b tb):PE X (.BinOp a op b pos) (tOp r ta tb):=by
 intro pins s σ H Q I h
 exact wpAny_BinOp (binT ha hb I h fun v u s2 x y H2 I2 rx ry q=>ho pins s2 σ H2 x y v u Q I2 rx ry q)
theorem pe_un {op:UnaryOp}{r:V→Hp→VK→Prop} (ho:UnR X (unaryOp op) r) (ha:PE X a ta):PE X (.UnaryOp op a pos) (tUn r ta):=by
 intro pins s σ H Q I h
 exact UnaryOp_ (thn (ha pins s σ H _ I h) fun v s1 ⟨x,H1,I1,r1,q1⟩=>ho pins s1 σ H1 x v Q I1 r1 q1)
theorem opI {f:Value→Value→Sem Value}{C:Int→Int→Prop}{g:Int→Int→Int}
  (rule:∀ (i j:Int) (t u:Tok) (s:Shared) (Q:Value→Shared→Prop) (E:Value→Shared→Prop),C i j→Q (.int (g i j) s.toks) { s with toks:=s.toks + 1 }→wpAny (model X.prog X.w) X.A (f (.int i t) (.int j u)) Q E s) :
  OpR X f (rI C fun i j=>.int (g i j)):=by
 intro pins s σ H x y v u Q I rx ry h
 obtain ⟨i,j,rfl,rfl,hc,q⟩:=h
 obtain ⟨t,rfl⟩:=rx
 obtain ⟨t',rfl⟩:=ry
 exact rule i j t t' s _ _ hc ⟨.int (g i j),H,I.tok _,⟨_,rfl⟩,q⟩
theorem opI0 {f:Value→Value→Sem Value}{g:Int→Int→Int}
  (rule:∀ (i j:Int) (t u:Tok) (s:Shared) (Q:Value→Shared→Prop) (E:Value→Shared→Prop),Q (.int (g i j) s.toks) { s with toks:=s.toks + 1 }→wpAny (model X.prog X.w) X.A (f (.int i t) (.int j u)) Q E s) :
  OpR X f (rI0 fun i j=>.int (g i j)):=by
 intro pins s σ H x y v u Q I rx ry h
 obtain ⟨i,j,rfl,rfl,q⟩:=h
 obtain ⟨t,rfl⟩:=rx
 obtain ⟨t',rfl⟩:=ry
 exact rule i j t t' s _ _ ⟨.int (g i j),H,I.tok _,⟨_,rfl⟩,q⟩
theorem opB0 {f:Value→Value→Sem Value}{g:Int→Int→Bool}
  (rule:∀ (i j:Int) (t u:Tok) (s:Shared) (Q:Value→Shared→Prop) (E:Value→Shared→Prop),Q (.bool (g i j)) s→wpAny (model X.prog X.w) X.A (f (.int i t) (.int j u)) Q E s) :
  OpR X f (rI0 fun i j=>.bl (g i j)):=by
 intro pins s σ H x y v u Q I rx ry h
 obtain ⟨i,j,rfl,rfl,q⟩:=h
 obtain ⟨t,rfl⟩:=rx
 obtain ⟨t',rfl⟩:=ry
 exact rule i j t t' s _ _ ⟨.bl (g i j),H,I,rfl,q⟩
def CPow (i j:Int):Prop:=0≤j∧j≤1000000∧i.natAbs < 2 ^ 64
def CMul (i j:Int):Prop:=(-(2 ^ 64) < i∧i < 2 ^ 64)∨(-(2 ^ 64) < j∧j < 2 ^ 64)
theorem CMul.ok {i j:Int} (h:CMul i j):IntMulOk i j:=by
 rcases h with ⟨h1,h2⟩ | ⟨h1,h2⟩
 ·exact .of_left (intBits_le_64 h1 h2)
 ·exact .of_right (intBits_le_64 h1 h2)
theorem op_add:OpR X (binaryOp .Add) (rI0 fun i j=>.int (i + j)):=opI0 fun _ _ _ _ _ _ _ q=>add_int q
theorem op_mul:OpR X (binaryOp .Mult) (rI CMul fun i j=>.int (i * j)):=opI fun _ _ _ _ _ _ _ hc q=>mul_int q hc.ok
theorem op_mod:OpR X (binaryOp .Mod) (rI (fun _ j=>0 < j) fun i j=>.int (i % j)):=opI fun i j _ _ _ _ _ hc q=>by
 have h1:(0:Int) < j:=hc
 exact mod_int' (by omega) (by rw [Int.fmod_eq_emod_of_nonneg i (by omega)];exact q)
theorem op_pow:OpR X (binaryOp .Pow) (rI CPow fun i j=>.int (i ^ j.toNat)):=opI fun _ _ _ _ _ _ _ hc q=>pow_int_small hc.1 hc.2.1 hc.2.2 q
theorem unI {f:Value→Sem Value}{g:Int→Int}
  (rule:∀ (i:Int) (t:Tok) (s:Shared) (Q:Value→Shared→Prop) (E:Value→Shared→Prop),Q (.int (g i) s.toks) { s with toks:=s.toks + 1 }→wpAny (model X.prog X.w) X.A (f (.int i t)) Q E s) :
  UnR X f (rU fun i=>.int (g i)):=by
 intro pins s σ H x v Q I rx h
 obtain ⟨i,rfl,q⟩:=h
 obtain ⟨t,rfl⟩:=rx
 exact rule i t s _ _ ⟨.int (g i),H,I.tok _,⟨_,rfl⟩,q⟩
theorem un_neg:UnR X (unaryOp .USub) (rU fun i=>.int (-i)):=unI fun _ _ _ _ _ q=>neg_int q
end
def scal:V→V→Bool
 | .non,.non=>true | .non,.int _=>true | .int _,.non=>true | .non,.bl _=>true | .bl _,.non=>true | .non,.str _=>true | .str _,.non=>true
 | .int _,.int _=>true | .bl _,.bl _=>true | .str _,.str _=>true | .byt _,.byt _=>true
 | .int _,.str _=>true | .str _,.int _=>true | .bl _,.str _=>true | .str _,.bl _=>true
 | _,_=>false
def rEq:R2:=fun x y H Q=>scal x y=true∧Q (.bl (decide (x=y))) H
def rNe:R2:=fun x y H Q=>scal x y=true∧Q (.bl (!decide (x=y))) H
theorem dec_int {i j:Int}:decide (V.int i=V.int j)=(i == j):=by
 rw [Bool.eq_iff_iff]
 simp
theorem dec_bl {i j:Bool}:decide (V.bl i=V.bl j)=(i == j):=by
 rw [Bool.eq_iff_iff]
 simp
theorem dec_str {i j:Str}:decide (V.str i=V.str j)=(i == j):=by
 rw [Bool.eq_iff_iff]
 simp
theorem dec_byt {i j:Array UInt8}:decide (V.byt i=V.byt j)=(i.toList == j.toList):=by
 rw [Bool.eq_iff_iff]
 cases i
 cases j
 simp
section
variable {X:Cx}{a b c:Expr}{ta tb tc:TE}{pos:Pos}
theorem fin_bl {pins:List (Addr×Obj)}{σ:St}{H:Hp}{s:Shared}{Q:VK}{k k':Bool} (I:Inv X pins σ H s) (q:Q (.bl k) H) (e:k=k'):EP X pins σ Q (.bool k') s:=by
 subst e
 exact ⟨.bl k,H,I,rfl,q⟩
theorem op_eq:OpR X (compareOp .Eq) rEq:=by
 intro pins s σ H x y v u Q I rx ry h
 obtain ⟨hs,q⟩:=h
 cases x with
 | non=>
  cases rx
  cases y with
  | non=>cases ry;exact PySem.EqNone.eq_none_none (fin_bl I q (by simp))
  | bl j=>cases ry;exact PySem.EqNone.eq_none_bool (fin_bl I q (by simp))
  | int j=>obtain ⟨t',rfl⟩:=ry;exact PySem.EqNone.eq_none_int (fin_bl I q (by simp))
  | str j=>obtain ⟨t',rfl⟩:=ry;exact PySem.EqNone.eq_none_str (fin_bl I q (by simp))
  | _=>exact absurd (show false=true from hs) Bool.false_ne_true
 | bl i=>
  cases rx
  cases y with
  | non=>cases ry;exact PySem.EqNone.eq_bool_none (fin_bl I q (by simp))
  | bl j=>cases ry;exact eq_bool (fin_bl I q dec_bl)
  | str j=>obtain ⟨t',rfl⟩:=ry;exact PySem.EqMixed.eq_bool_str (fin_bl I q (by simp))
  | _=>exact absurd (show false=true from hs) Bool.false_ne_true
 | int i=>
  obtain ⟨t,rfl⟩:=rx
  cases y with
  | non=>cases ry;exact PySem.EqNone.eq_int_none (fin_bl I q (by simp))
  | int j=>obtain ⟨t',rfl⟩:=ry;exact eq_int (fin_bl I q dec_int)
  | str j=>obtain ⟨t',rfl⟩:=ry;exact PySem.EqMixed.eq_int_str (fin_bl I q (by simp))
  | _=>exact absurd (show false=true from hs) Bool.false_ne_true
 | str i=>
  obtain ⟨t,rfl⟩:=rx
  cases y with
  | non=>cases ry;exact PySem.EqNone.eq_str_none (fin_bl I q (by simp))
  | bl j=>cases ry;exact PySem.EqMixed.eq_str_bool (fin_bl I q (by simp))
  | int j=>obtain ⟨t',rfl⟩:=ry;exact PySem.EqMixed.eq_str_int (fin_bl I q (by simp))
  | str j=>obtain ⟨t',rfl⟩:=ry;exact eq_str (fin_bl I q dec_str)
  | _=>exact absurd (show false=true from hs) Bool.false_ne_true
 | byt i=>
  obtain ⟨t,rfl⟩:=rx
  cases y with
  | byt j=>obtain ⟨t',rfl⟩:=ry;exact PySem.W.eq_bytes (fin_bl I q dec_byt)
  | _=>exact absurd (show false=true from hs) Bool.false_ne_true
 | _=>cases y <;> exact absurd (show false=true from hs) Bool.false_ne_true
theorem op_ne:OpR X (compareOp .NotEq) rNe:=by
 intro pins s σ H x y v u Q I rx ry h
 obtain ⟨hs,q⟩:=h
 cases x with
 | non=>
  cases rx
  cases y with
  | non=>cases ry;exact PySem.EqNone.ne_none_none (fin_bl I q (by simp))
  | bl j=>cases ry;exact PySem.EqNone.ne_none_bool (fin_bl I q (by simp))
  | int j=>obtain ⟨t',rfl⟩:=ry;exact PySem.EqNone.ne_none_int (fin_bl I q (by simp))
  | str j=>obtain ⟨t',rfl⟩:=ry;exact PySem.EqNone.ne_none_str (fin_bl I q (by simp))
  | _=>exact absurd (show false=true from hs) Bool.false_ne_true
 | bl i=>
  cases rx
  cases y with
  | non=>cases ry;exact PySem.EqNone.ne_bool_none (fin_bl I q (by simp))
  | bl j=>cases ry;exact ne_bool (fin_bl I q (congrArg not dec_bl))
  | str j=>obtain ⟨t',rfl⟩:=ry;exact PySem.EqMixed.ne_bool_str (fin_bl I q (by simp))
  | _=>exact absurd (show false=true from hs) Bool.false_ne_true
 | int i=>
  obtain ⟨t,rfl⟩:=rx
  cases y with
  | non=>cases ry;exact PySem.EqNone.ne_int_none (fin_bl I q (by simp))
  | int j=>obtain ⟨t',rfl⟩:=ry;exact ne_int (fin_bl I q (congrArg not dec_int))
  | str j=>obtain ⟨t',rfl⟩:=ry;exact PySem.EqMixed.ne_int_str (fin_bl I q (by simp))
  | _=>exact absurd (show false=true from hs) Bool.false_ne_true
 | str i=>
  obtain ⟨t,rfl⟩:=rx
  cases y with
  | non=>cases ry;exact PySem.EqNone.ne_str_none (fin_bl I q (by simp))
  | bl j=>cases ry;exact PySem.EqMixed.ne_str_bool (fin_bl I q (by simp))
  | int j=>obtain ⟨t',rfl⟩:=ry;exact PySem.EqMixed.ne_str_int (fin_bl I q (by simp))
  | str j=>obtain ⟨t',rfl⟩:=ry;exact ne_str (fin_bl I q (congrArg not dec_str))
  | _=>exact absurd (show false=true from hs) Bool.false_ne_true
 | byt i=>
  obtain ⟨t,rfl⟩:=rx
  cases y with
  | byt j=>obtain ⟨t',rfl⟩:=ry;exact PySem.W.ne_bytes (fin_bl I q (congrArg not dec_byt))
  | _=>exact absurd (show false=true from hs) Bool.false_ne_true
 | _=>cases y <;> exact absurd (show false=true from hs) Bool.false_ne_true
theorem op_lt:OpR X (compareOp .Lt) (rI0 fun i j=>.bl (decide (i < j))):=opB0 fun _ _ _ _ _ _ _ q=>lt_int q
theorem op_le:OpR X (compareOp .LtE) (rI0 fun i j=>.bl (decide (i≤j))):=opB0 fun _ _ _ _ _ _ _ q=>le_int q
theorem op_gt:OpR X (compareOp .Gt) (rI0 fun i j=>.bl (decide (j < i))):=opB0 fun _ _ _ _ _ _ _ q=>gt_int q
theorem op_in_str:OpR X (compareOp .In) (fun x y H Q=>∃ i j,x=.str i∧y=.str j∧Q (.bl (!(Builtin.Str.occurrences j i 0 j.length 1).isEmpty)) H):=by
 intro pins s σ H x y v u Q I rx ry h
 obtain ⟨i,j,rfl,rfl,q⟩:=h
 obtain ⟨t,rfl⟩:=rx
 obtain ⟨t',rfl⟩:=ry
 exact in_str (fin_bl I q rfl)
theorem op_isN:OpR X (compareOp .Is) (fun x y H Q=>y=.non∧Q (.bl (decide (x=.non))) H):=by
 intro pins s σ H x y v u Q I rx ry h
 obtain ⟨rfl,q⟩:=h
 cases ry
 refine is_none_gen (fin_bl I q ?_)
 cases x <;> first
  | (cases rx;rfl)
  | (obtain ⟨t,rfl⟩:=rx;rfl)
theorem nomark (b:Expr) {op:CmpOp} (h:op≠.In:=by decide) (h2:op≠.NotIn:=by decide):behindInMarks op b=false:=by
 have e1:(op == CmpOp.In)=false:=by cases op <;> first | rfl | exact absurd rfl h
 have e2:(op == CmpOp.NotIn)=false:=by cases op <;> first | rfl | exact absurd rfl h2
 cases b <;> simp [behindInMarks,e1,e2]
theorem pe_cmpR {op:CmpOp}{r:R2} (ho:OpR X (compareOp op) r) (ha:PE X a ta) (hb:PE X b tb) (hm:behindInMarks op b=false):PE X (.Compare a [op] [b] pos) (tOp r ta tb):=by
 intro pins s σ H Q I h
 exact wpAny_Compare1 (binT ha hb I h fun v u s2 x y H2 I2 rx ry q=>ho pins s2 σ H2 x y v u Q I2 rx ry q) hm
def tTest (t:TE):TT:=fun σ H Q=>t σ H fun x H'=>∃ k,x=.bl k∧Q k H'
theorem pt_cmpR {op:CmpOp}{r:R2} (ho:OpR X (compareOp op) r) (ha:PE X a ta) (hb:PE X b tb) (hm:behindInMarks op b=false):PT X (.Compare a [op] [b] pos) (tTest (tOp r ta tb)):=by
 intro pins s σ H Q I h
 refine wpAny_isTrue_Compare1 (thn (ha pins s σ H _ I h) fun v s1 ⟨x,H1,I1,r1,q1⟩=>thn (hb pins s1 σ H1 _ I1 q1) fun u s2 ⟨y,H2,I2,r2,q2⟩=>
  thn (ho pins s2 σ H2 x y v u _ I2 r1 r2 q2) fun c s3 ⟨z,H3,I3,r3,k,e,q3⟩=>?_) hm
 subst e
 cases r3
 exact wpAny_truthy_bool ⟨H3,I3,q3⟩
def tChain (r r':R2) (ta tb tc:TE):TE:=fun σ H Q=>ta σ H fun x H1=>tb σ H1 fun y H2=>r x y H2 fun z H3=>∃ k,z=.bl k ∧
 (if k=true then tc σ H3 fun w' H4=>r' y w' H4 Q else Q (.bl false) H3)
theorem pe_chain {op op':CmpOp}{r r':R2} (ho:OpR X (compareOp op) r) (ho':OpR X (compareOp op') r') (ha:PE X a ta) (hb:PE X b tb) (hc:PE X c tc)
  (hm:lastMarks [op,op'] [b,c]=false:=by with_unfolding_all rfl):PE X (.Compare a [op,op'] [b,c] pos) (tChain r r' ta tb tc):=by
 intro pins s σ H Q I h
 refine Compare_chain (thn (ha pins s σ H _ I h) fun v s1 ⟨x,H1,I1,r1,q1⟩=>chain_link (thn (hb pins s1 σ H1 _ I1 q1) fun u s2 ⟨y,H2,I2,r2,q2⟩=>
  thn (ho pins s2 σ H2 x y v u _ I2 r1 r2 q2) fun d s3 ⟨z,H3,I3,r3,k,e,q3⟩=>?_)) hm
 subst e
 cases r3
 refine wpAny_truthy_bool ?_
 cases k with
 | false=>exact ite_ff ⟨.bl false,H3,I3,rfl,q3⟩
 | true=>exact ite_tt (chain_last (thn (hc pins s3 σ H3 _ I3 q3) fun w' s4 ⟨z',H4,I4,r4,q4⟩=>ho' pins s4 σ H4 y z' u w' Q I4 r2 r4 q4))
theorem pt_chain {op op':CmpOp}{r r':R2} (ho:OpR X (compareOp op) r) (ho':OpR X (compareOp op') r') (ha:PE X a ta) (hb:PE X b tb) (hc:PE X c tc)
  (hm:lastMarks [op,op'] [b,c]=false:=by with_unfolding_all rfl):PT X (.Compare a [op,op'] [b,c] pos) (tTest (tChain r r' ta tb tc)):=by
 intro pins s σ H Q I h
 refine isTrue_chain (thn (ha pins s σ H _ I h) fun v s1 ⟨x,H1,I1,r1,q1⟩=>test_link (thn (hb pins s1 σ H1 _ I1 q1) fun u s2 ⟨y,H2,I2,r2,q2⟩=>
  thn (ho pins s2 σ H2 x y v u _ I2 r1 r2 q2) fun d s3 ⟨z,H3,I3,r3,k,e,q3⟩=>?_)) hm
 subst e
 cases r3
 refine wpAny_truthy_bool ?_
 cases k with
 | false=>
  obtain ⟨k',e',q'⟩:=q3
  cases e'
  exact ite_ff ⟨H3,I3,q'⟩
 | true=>
  refine ite_tt (test_last (thn (hc pins s3 σ H3 _ I3 q3) fun w' s4 ⟨z',H4,I4,r4,q4⟩=>thn (ho' pins s4 σ H4 y z' u w' _ I4 r2 r4 q4) fun d' s5 ⟨z2,H5,I5,r5,k2,e2,q5⟩=>?_))
  subst e2
  cases r5
  exact wpAny_truthy_bool ⟨H5,I5,q5⟩
def TruV (K:PySem.W.Frag) (x:V) (H:Hp) (k:Bool):Prop:=
 match x with
 | .non=>k=false
 | .bl b=>k=b
 | .int i=>k=(i != 0)
 | .str y=>y.length≤sizeLine∧k=((y.length:Int) != 0)
 | .byt y=>y.size≤sizeLine∧k=((y.size:Int) != 0)
 | .ref p=>(∃ xs,SqL K H p xs∧k=!xs.isEmpty)∨(∃ xs,SqT K H p xs∧k=!xs.isEmpty)∨∃ kvs,H p=some (.dK kvs)∧k=!kvs.isEmpty
 | _=>False
theorem isEmpty_kv {κ:Type}{kvs:List (κ×V)}{vs:List (κ×Value)} (r:KV kvs vs):(!vs.isEmpty)=!kvs.isEmpty:=by
 cases r <;> rfl
theorem isEmpty_of {xs:List V}{its:List Value} (r:Vals xs its):(!its.toArray.isEmpty)=!xs.isEmpty:=by
 cases r <;> simp
theorem line63:(sizeLine:Nat) < 2 ^ 63:=by rw [sizeLine_eq];decide
theorem tru_ok:TruR X (fun x H Q=>∃ k,TruV X.K x H k∧Q k H):=by
 intro pins s σ H x v Q I rx h
 obtain ⟨k,e,q⟩:=h
 have hl:=line63
 have hs:sizeLine=16777216:=sizeLine_eq
 cases x with
 | non=>
  cases rx
  have e':k=false:=e
  subst e'
  exact truthy_none ⟨H,I,q⟩
 | bl b=>
  cases rx
  have e':k=b:=e
  subst e'
  exact wpAny_truthy_bool ⟨H,I,q⟩
 | int i=>
  obtain ⟨t,rfl⟩:=rx
  have e':k=(i != 0):=e
  subst e'
  exact PySem.P.truthy_int ⟨H,I,q⟩
 | str y=>
  obtain ⟨t,rfl⟩:=rx
  obtain ⟨hy,e'⟩:y.length≤sizeLine∧k=((y.length:Int) != 0):=e
  subst e'
  exact PySem.P.truthy_str (by omega) ⟨H,I.tok _,q⟩
 | byt y=>
  obtain ⟨t,rfl⟩:=rx
  obtain ⟨hy,e'⟩:y.size≤sizeLine∧k=((y.size:Int) != 0):=e
  subst e'
  exact PySem.W.truthy_bytes (by omega) ⟨H,I.tok _,q⟩
 | ref p=>
  cases rx
  have e':(∃ xs,SqL X.K H p xs∧k=!xs.isEmpty)∨(∃ xs,SqT X.K H p xs∧k=!xs.isEmpty)∨∃ kvs,H p=some (.dK kvs)∧k=!kvs.isEmpty:=e
  rcases e' with ⟨xs,hx,e'⟩ | ⟨xs,hx,e'⟩ | ⟨kvs,hx,e'⟩
  ·subst e'
   obtain ⟨its,r,pl,hz⟩:=I.list hx
   have hlen:=r.length
   exact wpAny_truthy_list pl.isList (by simp only [List.size_toArray];omega) ⟨H,I.tok _,by rw [isEmpty_of r];exact q⟩
  ·subst e'
   obtain ⟨its,r,pl,hz⟩:=I.tuple hx
   have hlen:=r.length
   exact truthy_tuple pl (by simp only [List.size_toArray];omega) ⟨H,I.tok _,by rw [isEmpty_of r];exact q⟩
  ·subst e'
   obtain ⟨hz,hS,vs,r,m⟩:kvs.length≤sizeLine∧(p == sysModules)=false∧∃ vs,KV kvs vs∧s.heap.DictOf (mixKind X.prog X.w) p vs:=I.hok p _ hx
   have hlen:kvs.length=vs.length:=Paired.length r
   exact wpAny_truthy_dict hS m (by omega) ⟨H,I.tok _,by rw [isEmpty_kv r];exact q⟩
 | _=>exact (show False from e).elim
theorem pt_truth (ha:PE X a ta) (he:∀ whole,isTrue a X.env whole=(do let v ← whole;standAt a.pos;holding [v] (truthy v))) :
  PT X a (fun σ H Q=>ta σ H fun x H'=>∃ k,TruV X.K x H' k∧Q k H'):=by
 intro pins s σ H Q I h
 exact isTrue_plain (thn (ha pins s σ H _ I h) fun v s1 ⟨x,H1,I1,r1,q1⟩=>tru_ok pins s1 σ H1 x v Q I1 r1 q1) (he _)
theorem op_add_str:OpR X (binaryOp .Add) (fun x y H Q=>∃ i j,x=.str i∧y=.str j∧i.length + j.length≤sizeLine∧Q (.str (i++j)) H):=by
 intro pins s σ H x y v u Q I rx ry h
 obtain ⟨i,j,rfl,rfl,hz,q⟩:=h
 obtain ⟨t,rfl⟩:=rx
 obtain ⟨t',rfl⟩:=ry
 exact add_str (fun t' tk=>⟨.str (i++j),H,I.tok _,⟨_,rfl⟩,q⟩) hz
theorem vals1 {x:V}{us:List Value} (r:Vals [x] us):∃ u,us=[u]∧RelV x u:=by
 cases r with
 | cons r1 r2=>cases r2;exact ⟨_,rfl,r1⟩
theorem vals2 {x y:V}{us:List Value} (r:Vals [x,y] us):∃ u w',us=[u,w']∧RelV x u∧RelV y w':=by
 cases r with
 | cons r1 r2=>
  cases r2 with
  | cons r3 r4=>cases r4;exact ⟨_,_,rfl,r1,r3⟩
end
structure ObjM (h:Heap) (x dx C:Addr) (mA:Str→Option Value):Prop where
 obj:h.get? x=some (PySem.W.instObj C dx)
 ns:h.Ns1 dx mA
 ne:dx≠x
theorem lookIn_ns {h:Heap}{dx:Addr}{mA:Str→Option Value} (n:h.Ns1 dx mA):∃ od,h.get? dx=some od∧∀ name,PySem.W.lookIn name od=some (mA name):=by
 obtain ⟨o,es,ep,ho,hd,hk,_,hm⟩:=n
 refine ⟨o,ho,fun name=>?_⟩
 have e:=hm name
 unfold nsFind findBy at e
 rw [← Array.find?_toList] at e
 unfold PySem.W.lookIn
 rw [hd]
 dsimp only
 split
 ·rename_i y q
  rw [q] at e
  exact congrArg some e
 ·rename_i q
  rw [q] at e
  have a:es.toList.any (·.refKey)=false:=by
   rw [List.any_eq_false]
   intro y hy
   obtain ⟨z,t,hkey⟩:=hk y (Array.mem_toList_iff.mp hy)
   simp [DictEntry.refKey,hkey]
  have a':¬ es.toList.any (·.refKey)=true:=by rw [a];exact Bool.false_ne_true
  rw [if_neg a']
  exact congrArg some e
theorem ObjM.look {h:Heap}{x dx C:Addr}{mA:Str→Option Value} (I:ObjM h x dx C mA):∃ od,PySem.W.InstAt h x (PySem.W.instObj C dx) C (some od)∧∀ name,PySem.W.lookIn name od=some (mA name):=
 let ⟨od,ho,hl⟩:=lookIn_ns I.ns
 ⟨od,⟨I.obj,rfl,rfl,ho⟩,hl⟩
section
variable {P:Program}{w:World}{H H':Hp}{h h':Heap}{a C dx:Addr}{fs fs':List (Str×V)}
theorem ins_get (hok:HOk P w H h) (e:H a=some (.ins C dx fs)):∃ mA,ObjM h a dx C mA∧(∀ f,RelO (fs.lookup f) (mA f))∧PySem.Within mA (fs.map (·.1))∧fs.length≤1000∧H dx=some (.own a):=by
 obtain ⟨d,z,ne,ob,mA,n,r,q⟩:=(show ObjOk P w H h a (.ins C dx fs) from hok a _ e)
 exact ⟨mA,⟨ob,n,ne⟩,r,q,z,d⟩
end
structure Cls (K:PySem.W.Frag) (C:Addr):Prop where
 pg:PySem.W.plainGet K C Str.empty=true
 hd:PySem.W.hasDictIn K C=true
 po:PySem.W.plainOver K C=true
 sa:PySem.W.findIn K (.ref C) "__setattr__"=some (some (.builtin "object.__setattr__"))
theorem Cls.get {K:PySem.W.Frag}{C:Addr} (c:Cls K C) (f:Str):PySem.W.plainGet K C f=true:=c.pg
section
variable {X:Cx}{pins:List (Addr×Obj)}{σ:St}{H:Hp}{s:Shared}{A:Around}{E:Value→Shared→Prop}{Q:Value→Shared→Prop}{c:Value}{b:Bool}
inductive TyOf (K:PySem.W.Frag) (H:Hp):V→Value→Prop where
 | non:TyOf K H .non (.type "NoneType")
 | bl (x:Bool):TyOf K H (.bl x) (.type "bool")
 | int (i:Int):TyOf K H (.int i) (.type "int")
 | str (x:Str):TyOf K H (.str x) (.type "str")
 | flt (x:UInt64):TyOf K H (.flt x) (.type "float")
 | lst {a:Addr}{xs:List V} (e:H a=some (.lst xs)):TyOf K H (.ref a) (.type "list")
 | frz {a:Addr}{o:Obj}{xs:List V} (e:H a=some (.frz o (.lst xs))):TyOf K H (.ref a) (.type "list")
 | tup {a:Addr}{xs:List V} (e:H a=some (.tup xs)):TyOf K H (.ref a) (.type "tuple")
 | dK {a:Addr}{kvs:List (Key×V)} (e:H a=some (.dK kvs)):TyOf K H (.ref a) (.type "dict")
 | dT {a:Addr}{kvs:List (List Key×V)} (e:H a=some (.dT kvs)):TyOf K H (.ref a) (.type "dict")
 | ins {a C dx:Addr}{fs:List (Str×V)} (e:H a=some (.ins C dx fs)) (cl:Cls K C) (ha:PySem.W.findIn K (.ref C) "__class__"=some (some (.builtin "object.__class__")))
   (hn:PySem.W.specialIn K (.builtin "object.__class__") "__get__"=some (some (.builtin "getset_descriptor.__get__"))) (htk:PySem.W.takesIn K (.builtin "object.__class__")=some true)
   (hm:PySem.W.mroIn K C (.type "object")=some true):TyOf K H (.ref a) (.ref C)
theorem isinst_ok {x:V}{u t:Value} (I:Inv X pins σ H s) (rx:RelV x u) (ty:TyOf X.K H x t) (e:PySem.W.kitOne X.K t c=some b) (h:∀ tk,Q (.bool b) { s with toks:=tk }) :
  wpAny (model X.prog X.w) A (call (.builtin "isinstance") [u,c]) Q E s:=by
 cases ty with
 | non=>cases (show u=Value.none from rx);exact PySem.W.kia_one PySem.W.kitx_none I.kIn True.intro e (fun z=>nomatch z) h
 | bl y=>cases (show u=Value.bool y from rx);exact PySem.W.kia_one PySem.W.kitx_bool I.kIn True.intro e (fun z=>nomatch z) h
 | int i=>obtain ⟨t,q⟩:=(show ∃ t,u=Value.int i t from rx);cases q;exact PySem.W.kia_one PySem.W.kitx_int I.kIn True.intro e (fun z=>nomatch z) h
 | str y=>obtain ⟨t,q⟩:=(show ∃ t,u=Value.str y t from rx);cases q;exact PySem.W.kia_one PySem.W.kitx_str I.kIn True.intro e (fun z=>nomatch z) h
 | flt y=>obtain ⟨t,q⟩:=(show ∃ t,u=Value.float y t from rx);cases q;exact PySem.W.kia_one PySem.W.kitx_float I.kIn True.intro e (fun z=>nomatch z) h
 | @lst a xs ea=>
  cases (show u=Value.ref a from rx)
  obtain ⟨_,_,n,_,h1⟩:=(show ObjOk X.prog X.w H s.heap a (.lst xs) from I.hok a _ ea)
  exact PySem.W.kia_one PySem.W.kitx_list I.kIn ⟨_,h1,rfl⟩ e (fun z=>nomatch z) h
 | @frz a ob xs ea=>
  cases (show u=Value.ref a from rx)
  obtain ⟨_,_,_,n,_,h1⟩:=(show ObjOk X.prog X.w H s.heap a (.frz ob (.lst xs)) from I.hok a _ ea)
  exact PySem.W.kia_one PySem.W.kitx_list I.kIn ⟨_,h1,rfl⟩ e (fun z=>nomatch z) h
 | @tup a xs ea=>
  cases (show u=Value.ref a from rx)
  obtain ⟨_,_,_,p⟩:=(show ObjOk X.prog X.w H s.heap a (.tup xs) from I.hok a _ ea)
  obtain ⟨o,h1,h2,_⟩:=p
  exact PySem.W.kia_one PySem.W.kitx_tuple I.kIn ⟨o,h1,h2⟩ e (fun z=>nomatch z) h
 | @dK a kvs ea=>
  cases (show u=Value.ref a from rx)
  obtain ⟨_,_,vs,_,p⟩:=(show ObjOk X.prog X.w H s.heap a (.dK kvs) from I.hok a _ ea)
  obtain ⟨o,es,ep,h1,h2,_⟩:=p
  exact PySem.W.kia_one PySem.W.kitx_dict I.kIn ⟨o,h1,h2.1⟩ e (fun z=>nomatch z) h
 | @dT a kvs ea=>
  cases (show u=Value.ref a from rx)
  obtain ⟨_,_,xs,_,o,es,ep,h1,h2,_⟩:=(show ObjOk X.prog X.w H s.heap a (.dT kvs) from I.hok a _ ea)
  exact PySem.W.kia_one PySem.W.kitx_dict I.kIn ⟨o,h1,h2.1⟩ e (fun z=>nomatch z) h
 | @ins a C dx fs ea cl ha hn htk hm=>
  cases (show u=Value.ref a from rx)
  obtain ⟨mA,O,_⟩:=ins_get I.hok ea
  obtain ⟨od,J,_⟩:=O.look
  exact PySem.W.kia_one (PySem.W.kitx_own (cl.get _) cl.hd ha hn htk hm) I.kIn J e (fun z=>nomatch z) h
end
structure Room (k:Nat) (A:Around) (cm:Bool:=true):Prop where
 hd:cm=true→A.handled=none
 dp:A.depth + 3 * k + 5 < recursionLimit
 un:A.units + 16 * k + 200 < cLine
 gd:A.guards=some []
theorem Room.mono {j k:Nat}{A:Around}{cm:Bool} (r:Room k A cm) (h:j≤k):Room j A cm:=⟨r.hd,by have:=r.dp;omega,by have:=r.un;omega,r.gd⟩
theorem Room.deeper {k:Nat}{A:Around}{cm:Bool} (r:Room (k + 1) A cm) (env:Env):Room k (A.deeper env) cm:=
 ⟨r.hd,by have:=r.dp;show A.depth + 1 + 3 * k + 5 < _;omega,by have:=r.un;show A.units + 3 + 16 * k + 200 < _;omega,r.gd⟩
theorem Room.depth {k:Nat}{A:Around}{cm:Bool} (r:Room k A cm):A.depth < recursionLimit:=by have:=r.dp;omega
theorem Room.units {k:Nat}{A:Around}{cm:Bool} (r:Room k A cm):A.units + 64 < cLine:=by have:=r.un;omega
def tNil:TA:=fun _ H Q=>Q [] H
def tCons (ta:TE) (tr:TA):TA:=fun σ H Q=>ta σ H fun x H1=>tr σ H1 fun xs H2=>Q (x::xs) H2
section
variable {X:Cx}{e:Expr}{es:List Expr}{te:TE}{t:TA}{pos:Pos}
theorem pa_nil:PA X [] tNil:=fun _ _ _ _ H Q I h=>Calls.spliced_nil ⟨[],H,I,.nil,h⟩
theorem pa_cons (ha:PE X e te) (hr:PA X es t) (hs:starEach (e::es) X.env=(false,eval e X.env)::starEach es X.env:=by rfl):PA X (e::es) (tCons te t):=by
 intro pos pins s σ H Q I h
 rw [hs]
 show wpAny _ _ (spliced ((false,eval e X.env)::backTo pos (starEach es X.env))) _ _ s
 refine Calls.spliced_cons (thn (ha pins s σ H _ I h) fun u s1 ⟨x,H1,I1,r1,q1⟩=>?_)
 exact thn (hr pos pins s1 σ H1 _ I1 q1) fun us s2 ⟨xs,H2,I2,r2,q2⟩=>⟨x::xs,H2,I2,.cons r1 r2,q2⟩
def tTup (t:TA):TE:=fun σ H Q=>t σ H fun xs H1=>xs.length≤sizeLine∧∀ p,H1 p=none→Q (.ref p) (upd H1 p (.tup xs))
def tLst (t:TA):TE:=fun σ H Q=>t σ H fun xs H1=>xs.length≤sizeLine∧∀ p,H1 p=none→Q (.ref p) (upd H1 p (.lst xs))
theorem pe_tup {x1} (h:PA X es t):PE X (.Tuple es x1 pos) (tTup t):=by
 intro pins s σ H Q I hq
 refine wpAny_Tuple_spliced (thn (h pos pins s σ H _ I hq) fun us s1 ⟨xs,H1,I1,r,z,q⟩=>⟨by rw [← r.length];exact z,?_⟩)
 have hf:H1 s1.heap.objs.size=none:=I1.hok.fresh (Nat.le_refl _)
 refine ⟨.ref s1.heap.objs.size,upd H1 s1.heap.objs.size (.tup xs),I1.laid (t':=s1.toks) (fun b u e=>Heap.get?_push_of_some _ e) (Nat.le_refl _) ?_,rfl,q _ hf⟩
 exact ⟨z,us,r,⟨_,Heap.get?_push_size _ rfl,rfl,rfl,_,rfl⟩⟩
theorem pe_lst (h:PA X es t):PE X (.List es pos) (tLst t):=by
 intro pins s σ H Q I hq
 refine wpAny_List_spliced (thn (h pos pins s σ H _ I hq) fun us s1 ⟨xs,H1,I1,r,z,q⟩=>⟨by rw [← r.length];exact z,?_⟩)
 have hf:H1 s1.heap.objs.size=none:=I1.hok.fresh (Nat.le_refl _)
 refine ⟨.ref s1.heap.objs.size,upd H1 s1.heap.objs.size (.lst xs),I1.laid (t':=s1.toks) (fun b u e=>Heap.get?_push_of_some _ e) (Nat.le_refl _) ?_,rfl,q _ hf⟩
 exact ⟨z,us,0,r,Heap.get?_push_size _ rfl⟩
end
abbrev Sp:=List V→Hp→VK→XK→Prop
abbrev CXT:=List Env→Hp→Shared→XK→Value→Shared→Prop
structure Env0 (P:Program) (w:World) (K:PySem.W.Frag) (mg:Str→Option Value) (base:Heap) (A:Around) (outer:List Env) (s:Shared) (H:Hp):Prop where
 frames:A.frames=some outer
 mod:Mod K mg base
 bs:∀ b o,base.get? b=some o→s.heap.get? b=some o∧H b=none
 bsz:base.objs.size≤s.heap.objs.size
 funs:s.heap.FunFrames base outer
 frf:∀ b∈frs outer,H b=none
 hok:HOk P w H s.heap
 bare:AllBare s.gens
 hq:HdOk A H
def CE (outer:List Env) (P:Program) (w:World) (H:Hp) (s:Shared) (Q:VK) (u:Value) (s':Shared):Prop:=
 ∃ v H',s'.os=s.os∧AllBare s'.gens∧Un (frs outer) [] H H' s.heap s'.heap∧HOk P w H' s'.heap∧RelV v u∧Q v H'
def CR (CX:CXT) (outer:List Env) (P:Program) (w:World) (H:Hp) (s:Shared) (Q:VK) (E:XK) (r:Result) (s':Shared):Prop:=
 match r with
 | .ok (.ret u)=>CE outer P w H s Q u s'
 | .ok _=>False
 | .error e=>CX outer H s E e s'
structure FnOk (P:Program) (w:World) (K:PySem.W.Frag) (mg:Str→Option Value) (base:Heap) (CX:CXT) (k:Nat) (f:Addr) (fd:FuncData) (ps:List Str) (sp:Sp) (cm:Bool:=true):Prop where
 len:∀ vs H Q E,sp vs H Q E→vs.length=ps.length
 run:∀ (A:Around) (outer:List Env) (s:Shared) (H:Hp) (args:Args) (us:List Value) (vs:List V) (Q:VK) (E:XK),Room k A cm→Env0 P w K mg base A outer s H→BindsTo s fd args (ps.zip us)→Vals vs us→sp vs H Q E →
  codeAny (model P w) A (.call (.ref f) args) (CR CX outer P w H s Q E) s
section
variable {X:Cx}{pins:List (Addr×Obj)}{σ:St}{H:Hp}{s s':Shared}
theorem Inv.env0 (I:Inv X pins σ H s):Env0 X.prog X.w X.K X.mg X.base X.A X.stack s H:=
 ⟨I.ok.frames,I.ok.mod,I.bs,Nat.le_trans I.ok.bsz I.sz,I.stack,I.stkFree,I.hok,I.bare,I.hq⟩
theorem Inv.after {Q:VK}{u:Value} (I:Inv X pins σ H s) (h:CE X.stack X.prog X.w H s Q u s'):EP X pins σ Q u s':=by
 obtain ⟨v,H',os,bare,un,hok,r,q⟩:=h
 obtain ⟨hh,g,d,t,os'⟩:=s'
 obtain rfl:os'=s.os:=os
 exact ⟨v,H',I.call (h':=hh) (g':=g) (d':=d) (t':=t) (ch:=[]) un hok bare (fun b z=>absurd z (by simp)),r,q⟩
end
def tCall (sp:Sp) (dvs:List V) (E:XK) (t:TA):TE:=fun σ H Q=>t σ H fun vs H1=>sp (vs++dvs) H1 Q E
def Binds (K:PySem.W.Frag) (fd:FuncData) (ps:List Str) (ds:List Value):Prop:=
 ∀ (s:Shared) (us:List Value),K.In s.heap→(us++ds).length=ps.length→BindsTo s fd ⟨us,[]⟩ (ps.zip (us++ds))
theorem Binds.all {K:PySem.W.Frag}{fd:FuncData}{ps:List Str} (h:∀ us:List Value,us.length=ps.length→bindArgs fd ⟨us,[]⟩=pure (ps.zip us)):Binds K fd ps []:=fun s us _ hl=>by
 rw [List.append_nil] at hl ⊢
 exact .of_eq (h us hl)
def Passes (CX:CXT) (X:Cx) (E:XK):Prop:=∀ (pins:List (Addr×Obj)) (σ:St) (H:Hp) (s:Shared) (e:Value) (s':Shared),Inv X pins σ H s→CX X.stack H s E e s'→X.xe e s'
section
variable {X:Cx}{CX:CXT}{k:Nat}{f C:Addr}{fd:FuncData}{ps:List Str}{sp:Sp}{dvs:List V}{ds:List Value}{E:XK}{x m:Str}{p pos apos:Pos}{e o:Expr}{es:List Expr}{ta:TE}{t:TA}
variable {cm:Bool}
theorem run_fn {pins:List (Addr×Obj)}{σ:St}{H:Hp}{s:Shared}{Q:VK}{us:List Value}{vs:List V} (F:FnOk X.prog X.w X.K X.mg X.base CX k f fd ps sp cm) (hr:Room k X.A cm) (hb:Binds X.K fd ps ds) (hd:Vals dvs ds) (hx:Passes CX X E)
  (I:Inv X pins σ H s) (r:Vals vs us) (h:sp (vs++dvs) H Q E):wpAny (model X.prog X.w) X.A (call (.ref f) us) (EP X pins σ Q) X.xe s:=by
 have r2:Vals (vs++dvs) (us++ds):=r.append hd
 have hl:(us++ds).length=ps.length:=by rw [← r2.length];exact F.len _ _ _ _ h
 refine wpAny_call (codeAny_mono (F.run X.A X.stack s H ⟨us,[]⟩ (us++ds) (vs++dvs) Q E hr I.env0 (hb s us I.kIn hl) r2 h) fun r s' hq=>?_)
 cases r with
 | error e=>exact hx pins σ H s e s' I hq
 | ok fl=>
  cases fl with
  | ret u=>exact I.after hq
  | next=>exact False.elim hq
  | brk=>exact False.elim hq
  | cont=>exact False.elim hq
theorem pe_call (F:FnOk X.prog X.w X.K X.mg X.base CX k f fd ps sp cm) (hr:Room k X.A cm) (hg:Gl X x) (hm:X.mg x=some (.ref f)) (hk:PySem.W.keepIn X.K (.ref f)=true) (hb:Binds X.K fd ps ds) (hd:Vals dvs ds) (hx:Passes CX X E)
  (ha:PA X (e::es) t) (hdb:(x == ("__debug__":Str))=false:=by decide) (he:starEach (e::es) X.env=(false,eval e X.env)::starEach es X.env:=by rfl) (hpl:(backTo pos (starEach es X.env)).any (·.1)=false:=by rfl) :
  PE X (.Call (.Name x p) (e::es) [] pos) (tCall sp dvs E t):=by
 intro pins s σ H Q I h
 refine wpAny_Call_Name_kw (ld_glob I hg hm ?_ hdb)
 refine PySem.W.callWith_K (h₀:=X.base) I.ok.mod.kin hk (thn (ha pos pins s σ H _ I h) fun us s1 ⟨vs,H1,I1,r,q⟩=>⟨I1.kIn,?_⟩) he hpl
 exact run_fn F hr hb hd hx I1 r q
end
structure FnScope (N P:List Str) (sc:Scope):Prop where
 kind:sc.kind=.function
 co:sc.isCoroutine=false
 gen:sc.isGenerator=false
 nd:N.Nodup
 pre:N.take P.length=P
 par:∀ x∈P,sc.names.lookup x=some .local∨sc.names.lookup x=some .cell
 nofree:∀ y∈sc.names,y.2≠.free
theorem bindL_out {kindOf:Str→Option NameKind}{x:Str}:∀ {binds:List (Str×Value)}{m:Str→Option Value},(∀ v,(x,v)∉binds)→bindL kindOf binds m x=m x
 | [],_,_=>rfl
 | (n,v)::r,m,h=>by
  unfold bindL
  rw [bindL_out fun w hw=>h w (List.mem_cons_of_mem _ hw)]
  split
  ·have:x≠n:=by rintro rfl;exact h v List.mem_cons_self
   simp [this]
  ·rfl
theorem bindC_out {kindOf:Str→Option NameKind}{x:Str}:∀ {binds:List (Str×Value)}{m:Str→Option Value},(∀ v,(x,v)∉binds)→bindC kindOf binds m x=m x
 | [],_,_=>rfl
 | (n,v)::r,m,h=>by
  unfold bindC
  rw [bindC_out fun w hw=>h w (List.mem_cons_of_mem _ hw)]
  split
  ·rfl
  ·have:x≠n:=by rintro rfl;exact h v List.mem_cons_self
   simp [this]
theorem bindL_get {kindOf:Str→Option NameKind}{x:Str}{v:Value}:∀ {P:List Str}{vs:List Value}{i:Nat}{m:Str→Option Value},P.Nodup→P[i]? = some x→vs[i]? = some v→kindOf x=some .local →
  bindL kindOf (P.zip vs) m x=some v
 | [],_,_,_,_,h,_,_=>by simp at h
 | _::_,[],_,_,_,_,h,_=>by simp at h
 | p::P,w::vs,0,m,nd,h1,h2,hk=>by
  simp at h1 h2;subst h1;subst h2
  show bindL kindOf ((p,w)::P.zip vs) m p=_
  unfold bindL
  rw [bindL_out fun v hv=>(List.nodup_cons.mp nd).1 (List.of_mem_zip hv).1,if_pos hk]
  simp
 | p::P,w::vs,i + 1,m,nd,h1,h2,hk=>by
  show bindL kindOf ((p,w)::P.zip vs) m x=_
  unfold bindL
  exact bindL_get (i:=i) (List.nodup_cons.mp nd).2 (by simpa using h1) (by simpa using h2) hk
theorem bindC_get {kindOf:Str→Option NameKind}{x:Str}{v:Value}:∀ {P:List Str}{vs:List Value}{i:Nat}{m:Str→Option Value},P.Nodup→P[i]? = some x→vs[i]? = some v→kindOf x≠some .local →
  bindC kindOf (P.zip vs) m x=some v
 | [],_,_,_,_,h,_,_=>by simp at h
 | _::_,[],_,_,_,_,h,_=>by simp at h
 | p::P,w::vs,0,m,nd,h1,h2,hk=>by
  simp at h1 h2;subst h1;subst h2
  show bindC kindOf ((p,w)::P.zip vs) m p=_
  unfold bindC
  rw [bindC_out fun v hv=>(List.nodup_cons.mp nd).1 (List.of_mem_zip hv).1,if_neg hk]
  simp
 | p::P,w::vs,i + 1,m,nd,h1,h2,hk=>by
  show bindC kindOf ((p,w)::P.zip vs) m x=_
  unfold bindC
  exact bindC_get (i:=i) (List.nodup_cons.mp nd).2 (by simpa using h1) (by simpa using h2) hk
def start (N:List Str) (vs:List V):St:=vs.map some++List.replicate (N.length - vs.length) none
def cxOf (CX:CXT) (P:Program) (w:World) (K:PySem.W.Frag) (mg:Str→Option Value) (base:Heap) (N:List Str) (qual:Str) (scope:Scope) (f:Addr) (cd:Value) (A:Around) (outer:List Env) (s:Shared) (H:Hp) (E:XK) (cm:Bool:=true):Cx where
 prog:=P
 w:=w
 K:=K
 mg:=mg
 base:=base
 A:=A.deeper (envOfC qual scope s.heap.objs.size f cd)
 N:=N
 s₀:=s
 H₀:=H
 env:=envOfC qual scope s.heap.objs.size f cd
 outer:=outer
 stack:=envOfC qual scope s.heap.objs.size f cd::outer
 ex:=[]
 calm:=cm
 fn:=fun _=>true
 pn:=[]
 xe:=fun e s'=>wpAny (model P w) (A.deeper (envOfC qual scope s.heap.objs.size f cd)) (leaving (envOfC qual scope s.heap.objs.size f cd) e) (fun _ s''=>CX outer H s E e s'') (fun e' s''=>CX outer H s E e' s'') s'
theorem cell_has {sc:Scope}{n:Nat}{x:Str} (h:sc.names.lookup x=some .cell):∃ c,(cellsFrom n sc.names []).lookup x=some c:=by
 have q:=PySem.W.cellsFrom_some sc.names n [] (.inl h)
 exact Option.isSome_iff_exists.mp q
theorem inv_start {CX:CXT}{P:Program}{w:World}{K:PySem.W.Frag}{mg:Str→Option Value}{base:Heap}{N ps:List Str}{qual:Str}{scope:Scope}{f:Addr}{cd:Value}{A:Around}{outer:List Env}{s s1:Shared}{H:Hp}{E:XK}{cm:Bool}{us:List Value}{vs:List V}
  (S:FnScope N ps scope) (hd:cm=true→A.handled=none) (e0:Env0 P w K mg base A outer s H) (hl:vs.length=ps.length) (r:Vals vs us)
  (x:InCallC s s.heap.objs.size (bindL (envOfC qual scope s.heap.objs.size f cd).kindOf (ps.zip us) fun _=>none) (cellsFrom (s.heap.objs.size + 1) scope.names []) (bindC (envOfC qual scope s.heap.objs.size f cd).kindOf (ps.zip us) fun _=>none) s1) :
  Inv (cxOf CX P w K mg base N qual scope f cd A outer s H E cm) [] (start N vs) H s1:=by
 have hpl:ps.length≤N.length:=by have:=congrArg List.length S.pre;rw [List.length_take] at this;omega
 obtain ⟨h1,tk,rfl,hk⟩:=x.done
 have noA:∀ b:Addr,b∉(cxOf CX P w K mg base N qual scope f cd A outer s H E cm).ex:=fun b z=>absurd (show b∈([]:List Addr) from z) (by simp)
 refine ⟨⟨e0.mod,S.kind,rfl,rfl,Nat.le_refl _,fun y z c h1 h2=>?_,fun y hy=>?_,fun y c _ h=>?_,hd,Around.frames_deeper e0.frames,.inr ⟨rfl,rfl⟩,fun b z=>absurd z (noA b),e0.bs,e0.bsz,fun b _ _=>noA b,fun b z=>absurd z (noA b),e0.funs,e0.frf⟩,
  rfl,e0.bare,Un.kept hk,⟨_,x.toInCall.ns,fun i y v h1 h2 h3=>?_⟩,fun y c h=>⟨_,x.cell y c h⟩,e0.hok.fresh (Nat.le_refl _),fun y c h=>?_,fun p hp=>absurd (show p∈([]:List (Addr×Obj)) from hp) (by simp),e0.hok.kept hk,?_,e0.hq⟩
 ·exact name_of_addr x.apart (PySem.mem_of_lookup h1) (PySem.mem_of_lookup h2)
 ·have hy:scope.names.lookup y=some .cell∨scope.names.lookup y=some .free:=hy
  rcases hy with hy | hy
  ·exact cell_has hy
  ·exact absurd rfl (S.nofree _ (PySem.mem_of_lookup hy))
 ·exact Nat.le_of_lt (x.above y c (PySem.mem_of_lookup h))
 ·have hi:i < vs.length:=by
   unfold start at h2
   by_cases hi:i < vs.length
   ·exact hi
   ·rw [List.getElem?_append_right (by simpa using hi)] at h2
    rw [List.getElem?_replicate] at h2
    split at h2 <;> cases h2
  have ha:vs[i]? = some v:=by
   unfold start at h2
   rw [List.getElem?_append_left (by simpa using hi),List.getElem?_map] at h2
   cases e:vs[i]? with
   | none=>rw [e] at h2;cases h2
   | some a=>rw [e] at h2;cases h2;rfl
  obtain ⟨u,hu,rv⟩:=r.get ha
  have hp:ps[i]? = some y:=by
   rw [← S.pre,List.getElem?_take_of_lt (by omega)];exact h1
  have ndP:ps.Nodup:=by rw [← S.pre];exact S.nd.sublist (List.take_sublist _ _)
  refine ⟨u,rv,?_⟩
  rcases S.par y (List.mem_of_getElem? hp) with k | k
  ·exact .inl ⟨k,bindL_get ndP hp hu k⟩
  ·obtain ⟨c,e⟩:=cell_has (n:=s.heap.objs.size + 1) k
   refine .inr ⟨.inl k,c,e,?_⟩
   have q:=x.cell y c e
   rw [bindC_get ndP hp hu (by show scope.names.lookup y≠_;rw [k];decide)] at q
   exact q
 ·exact e0.hok.fresh (Nat.le_of_lt (x.above y c (PySem.mem_of_lookup h)))
 ·unfold start
  show _=N.length
  rw [List.length_append,List.length_map,List.length_replicate]
  omega
theorem fn_of {CX:CXT}{P:Program}{w:World}{K:PySem.W.Frag}{mg:Str→Option Value}{base:Heap}{k:Nat}{f:Addr}{name qual:Str}{params:Arguments}{body:List Stmt}{scope:Scope}{dV kV doc pm cdv ct oc:Value}{an od:Option Addr}
  {osl:Array (Option Value)}{N ps:List Str}{sp:Sp}{cm:Bool} (lk:K.lookup f=some ⟨oc,od,.func (PySem.W.fnOf name qual params body scope dV kV doc pm an cdv ct),osl⟩) (hcd:PySem.W.codeIn K cdv qual=true) (S:FnScope N ps scope)
  (len:∀ vs H Q E,sp vs H Q E→vs.length=ps.length)
  (hbody:∀ (A:Around) (outer:List Env) (s:Shared) (H:Hp) (vs:List V) (Q:VK) (E:XK),Room k (A.deeper (envOfC qual scope s.heap.objs.size f cdv)) cm→sp vs H Q E →
   ∃ t,PSs (cxOf CX P w K mg base N qual scope f cdv A outer s H E cm) body t∧t { nx:=fun _ H'=>Q .non H',rt:=Q } (start N vs) H) :
  FnOk P w K mg base CX (k + 1) f (PySem.W.fnOf name qual params body scope dV kV doc pm an cdv ct) ps sp cm:=by
 refine ⟨len,fun A outer s H args us vs Q E hr e0 hb r hsp=>?_⟩
 have hl:=len _ _ _ _ hsp
 have KX:K.In s.heap:=e0.mod.kin.keeps fun b o e=>(e0.bs b o e).1
 have lim:s.heap.NoLimit:=e0.mod.nolimit.keeps fun b o e=>(e0.bs b o e).1
 have hkind:∀ y∈ps.zip us,scope.names.lookup y.1=some .local∨(scope.names.lookup y.1=some .cell∧((cellsFrom (s.heap.objs.size + 1) scope.names []).lookup y.1).isSome=true):=fun ⟨n,v⟩ hy=>by
  rcases S.par n (List.of_mem_zip hy).1 with q | q
  ·exact .inl q
  ·exact .inr ⟨q,PySem.W.cellsFrom_some _ _ _ (.inl q)⟩
 refine codeAny_call_function hr.depth (KX _ _ lk) rfl S.co S.gen rfl (PySem.W.codeRec_of KX hcd) (hb _ _ _ _ ?_)
 refine wpAny_newFunctionEnv_cells S.kind hkind fun env he s1 x=>?_
 subst he
 refine ⟨lim.keeps x.toInCall.keep,codeAny_func ?_⟩
 obtain ⟨t,ht,hq⟩:=hbody A outer s H vs Q E (hr.deeper _) hsp
 have I:Inv (cxOf CX P w K mg base N qual scope f cdv A outer s H E cm) [] (start N vs) H s1:=inv_start S hr.hd e0 hl r x
 refine wpAny_mono (ht [] s1 (start N vs) H _ I hq) (fun fl s' hs=>?_) fun e s' hs=>hs
 have fin:∀ {σ':St}{H':Hp}{v:V}{u:Value},Inv (cxOf CX P w K mg base N qual scope f cdv A outer s H E cm) [] σ' H' s'→RelV v u→Q v H'→CE outer P w H s Q u s':=
  fun {σ' H' v u} J rv q=>⟨v,H',J.os,J.bare,J.base,J.hok,rv,q⟩
 cases fl with
 | ret u=>
  obtain ⟨v,σ',H',J,rv,q⟩:=hs
  exact fin J rv q
 | next=>
  obtain ⟨σ',H',J,q⟩:=hs
  exact fin (v:=V.non) (u:=Value.none) J rfl q
 | brk=>
  obtain ⟨_,_,_,q⟩:=hs
  exact False.elim q
 | cont=>
  obtain ⟨_,_,_,q⟩:=hs
  exact False.elim q
section
variable {X:Cx}{x:Str}{p pos:Pos}{e:Expr}{es:List Expr}{t:TA}{id T:String}{r:List V→Hp→VK→Prop}
def tCB (r:List V→Hp→VK→Prop) (t:TA):TE:=fun σ H Q=>t σ H fun vs H1=>r vs H1 Q
theorem pe_callB (hc:CallR X (.builtin id) r) (hg:Gl X x) (hm:X.mg x=none) (hv:bootBuiltins x=some (.builtin id)) (ha:PA X (e::es) t) (hn:x≠"__name__":=by decide) (hdb:(x == ("__debug__":Str))=false:=by decide)
  (he:starEach (e::es) X.env=(false,eval e X.env)::starEach es X.env:=by rfl) (hpl:(backTo pos (starEach es X.env)).any (·.1)=false:=by rfl):PE X (.Call (.Name x p) (e::es) [] pos) (tCB r t):=by
 intro pins s σ H Q I h
 refine wpAny_Call_Name_kw (ld_blt I hg hm hv ?_ hn hdb)
 exact PyProof.Rows.callWith_builtin1 (thn (ha pos pins s σ H _ I h) fun us s1 ⟨vs,H1,I1,r1,q1⟩=>hc pins s1 σ H1 vs us Q I1 r1 q1) he hpl
theorem pe_callTy (hc:CallR X (.type T) r) (hg:Gl X x) (hm:X.mg x=none) (hv:bootBuiltins x=some (.type T)) (ha:PA X (e::es) t) (hn:x≠"__name__":=by decide) (hdb:(x == ("__debug__":Str))=false:=by decide)
  (he:starEach (e::es) X.env=(false,eval e X.env)::starEach es X.env:=by rfl) (hpl:(backTo pos (starEach es X.env)).any (·.1)=false:=by rfl):PE X (.Call (.Name x p) (e::es) [] pos) (tCB r t):=by
 intro pins s σ H Q I h
 refine wpAny_Call_Name_kw (ld_blt I hg hm hv ?_ hn hdb)
 exact PyProof.Rows.callWith_type1 (thn (ha pos pins s σ H _ I h) fun us s1 ⟨vs,H1,I1,r1,q1⟩=>hc pins s1 σ H1 vs us Q I1 r1 q1) he hpl
end
end L2
namespace HT
open PySem PyProof.Rows
section
variable {prog:Program}{w:World}{A:Around}{E:Value→Shared→Prop}{s:Shared}
def sIx (n d:Nat):Option Int→Nat
 | none=>d
 | some v=>if v < 0 then (v + (n:Int)).toNat else min v.toNat n
theorem sIx_none (n d:Nat):sIx n d none=d:=rfl
theorem sIx_nat (n d k:Nat):sIx n d (some (k:Int))=min k n:=by
 show (if (k:Int) < 0 then ((k:Int) + (n:Int)).toNat else min (k:Int).toNat n)=min k n
 rw [if_neg (by omega),Int.toNat_natCast]
theorem sIx_le (n d:Nat) (hd:d≤n) (o:Option Int):sIx n d o≤n:=by
 cases o with
 | none=>exact hd
 | some v=>
  show (if v < 0 then (v + (n:Int)).toNat else min v.toNat n)≤n
  by_cases hv:v < 0
  ·rw [if_pos hv];omega
  ·rw [if_neg hv];exact Nat.min_le_right _ _
theorem clip_eq (v:Int) (n d:Nat):(if v < 0 then max (v + (n:Int)) 0 else min v (n:Int))=((sIx n d (some v):Nat):Int):=by
 show (if v < 0 then max (v + (n:Int)) 0 else min v (n:Int))=(((if v < 0 then (v + (n:Int)).toNat else min v.toNat n):Nat):Int)
 by_cases hv:v < 0
 ·simp only [if_pos hv];omega
 ·simp only [if_neg hv];omega
theorem adjust_gen (lo hi:Option Int) (n:Nat):Builtin.Slice.sliceAdjust lo hi 1 (n:Int)=(((sIx n 0 lo:Nat):Int),((sIx n n hi:Nat):Int)):=by
 have h1:¬ ((1:Int) < 0):=by omega
 unfold Builtin.Slice.sliceAdjust
 simp only [h1,if_false]
 refine Prod.ext ?_ ?_
 ·cases lo with
  | none=>rfl
  | some v=>exact clip_eq v n 0
 ·cases hi with
  | none=>rfl
  | some v=>exact clip_eq v n n
theorem places_gen (i j:Nat):Builtin.Slice.slicePlaces (i:Int) (j:Int) 1=j - i:=by
 unfold Builtin.Slice.slicePlaces
 have h1:(1:Int) > 0:=by omega
 simp only [h1,if_true,Int.ediv_one]
 split <;> omega
theorem slicePart_ {v:Value}{o:Option Int}{Q:Option Int→Shared→Prop} (p:IsPart v o) (h:Q o s):wpAny (model prog w) A (Builtin.Slice.slicePartIndex v) Q E s:=by
 cases p with
 | none=>exact slicePart_none h
 | int i t=>exact slicePart_int h
theorem sliceApplied_gen {sl:Addr}{vl vu:Value}{lo hi:Option Int}{n:Nat}{Q:Int×Int×Nat→Shared→Prop} (hs:s.heap.IsSliceOf sl vl vu .none) (pl:IsPart vl lo) (pu:IsPart vu hi)
  (h:Q (((sIx n 0 lo:Nat):Int),1,sIx n n hi - sIx n 0 lo) s):wpAny (model prog w) A (Builtin.Slice.sliceApplied (.ref sl) (pure (n:Int))) Q E s:=by
 obtain ⟨os,hos,hcs,hds⟩:=id hs
 unfold Builtin.Slice.sliceApplied Builtin.Slice.sliceFields
 refine wpAny_bind (wpAny_bind (wpAny_field hos hds (x:=vl) rfl (wpAny_bind (wpAny_field hos hds (x:=vu) rfl (wpAny_bind (wpAny_field hos hds (x:=.none) rfl (wpAny_pure ?_)))))))
 refine wpAny_bind (slicePart_none ?_)
 show wpAny _ _ (if ((1:Int) == 0)=true then _ else _) _ _ s
 rw [if_neg (by decide)]
 refine wpAny_bind (slicePart_ pl (wpAny_bind (slicePart_ pu (wpAny_bind (wpAny_pure ?_)))))
 show wpAny _ _ (match Builtin.Slice.sliceAdjust lo hi 1 (n:Int) with | (lo,hi)=>pure (lo,(1:Int),Builtin.Slice.slicePlaces lo hi 1)) _ _ s
 rw [adjust_gen lo hi n]
 show wpAny _ _ (pure (((sIx n 0 lo:Nat):Int),(1:Int),Builtin.Slice.slicePlaces ((sIx n 0 lo:Nat):Int) ((sIx n n hi:Nat):Int) 1)) _ _ s
 rw [places_gen]
 exact wpAny_pure h
theorem pick_gen (xs:Array Value) (i k:Nat):((List.range k).filterMap fun (m:Nat)=>xs[((i:Int) + (m:Int) * 1).toNat]?).toArray=((xs.toList.drop i).take k).toArray:=by
 have e:(fun (m:Nat)=>xs[((i:Int) + (m:Int) * 1).toNat]?)=fun m=>xs[i + m]? :=by
  funext m
  have:((i:Int) + (m:Int) * 1).toNat=i + m:=by omega
  rw [this]
 rw [e]
 have:=pick_run xs i k
 rw [List.filterMap_map] at this
 have e2:((fun x=>xs[x]?) ∘ fun x=>i + x)=fun m=>xs[i + m]? :=rfl
 rw [e2] at this
 rw [this]
theorem getItem_tuple_cut {t sl:Addr}{items:Array Value}{vl vu:Value}{lo hi:Option Int}{Q:Value→Shared→Prop} (ht:IsTup s.heap t items) (hs:s.heap.IsSliceOf sl vl vu .none) (pl:IsPart vl lo) (pu:IsPart vu hi)
  (hw:¬ (sIx items.size 0 lo=0∧sIx items.size items.size hi=items.size))
  (h:Q (.ref s.heap.objs.size) { s with heap:=s.heap.push { cls:=.type "tuple",data:=.seq ((items.toList.drop (sIx items.size 0 lo)).take (sIx items.size items.size hi - sIx items.size 0 lo)).toArray } })
  (hsz:items.size≤sizeLine):wpAny (model prog w) A (getItem (.ref t) (.ref sl)) Q E s:=by
 have htake:sizeOk (.seq ((items.toList.drop (sIx items.size 0 lo)).take (sIx items.size items.size hi - sIx items.size 0 lo)).toArray):=by
  show ((items.toList.drop (sIx items.size 0 lo)).take (sIx items.size items.size hi - sIx items.size 0 lo)).toArray.size≤sizeLine
  rw [List.size_toArray,List.length_take,List.length_drop,Array.length_toList]
  omega
 have hj:sIx items.size items.size hi≤items.size:=sIx_le _ _ (Nat.le_refl _) hi
 obtain ⟨os,hos,hcs,hds⟩:=id hs
 have hTs:s.TypeIs (.ref sl) "slice":=⟨os,hos,hcs⟩
 unfold getItem
 try with_reducible refine wpAny_holding ?_
 first | refine wpAny_bind (wpAny_pure ?_) | skip
 refine wpAny_bind (wpAny_sequenceKey ht.typeIs (by decide) ?_)
 refine wpAny_bind (wpAny_callSpecial?_slot (name:=Str.ofString "__getitem__") ht.typeIs PyProof.Rows.slot_tuple_getitem
  (wpAny_call_entry PyProof.Rows.slot_tuple_getitem ht.typeIs entry_tuple_getitem ?_ (args_tuple_getitem _ _)))
 show wpAny _ _ (Builtin.Tuple.tupleItemsOf (.ref t) >>= _) _ _ s
 refine wpAny_bind (tupleItemsOf_ ht ?_)
 refine wpAny_bind (wpAny_typeOf hTs ?_)
 rw [if_pos (by decide)]
 refine wpAny_bind (sliceApplied_gen hs pl pu ?_)
 have hno:¬ ((((sIx items.size 0 lo:Nat):Int) == 0&&(1:Int) == 1&&(sIx items.size items.size hi - sIx items.size 0 lo) == items.size)=true):=by
  intro q
  rw [Bool.and_eq_true,Bool.and_eq_true] at q
  have q1:((sIx items.size 0 lo:Nat):Int)=0:=eq_of_beq q.1.1
  have q2:sIx items.size items.size hi - sIx items.size 0 lo=items.size:=eq_of_beq q.2
  exact hw ⟨by omega,by omega⟩
 show wpAny _ _ (if (((sIx items.size 0 lo:Nat):Int) == 0&&(1:Int) == 1&&(sIx items.size items.size hi - sIx items.size 0 lo) == items.size)=true then _ else _) _ _ s
 rw [if_neg hno,pick_gen]
 first
  | exact wpAny_bind (m:=Builtin.Tuple.tupleExact _) (wpAny_newObj_type (wpAny_pure ⟨_,rfl,wpAny_pure h⟩) htake)
  | exact wpAny_bind (m:=Builtin.Tuple.tupleExact _) (wpAny_newObj_type (wpAny_bind (wpAny_pure (wpAny_pure ⟨_,rfl,wpAny_pure h⟩))) htake)
  | exact wpAny_bind (wpAny_bind (m:=Builtin.Tuple.tupleExact _) (wpAny_newObj_type (wpAny_pure (wpAny_pure ⟨_,rfl,wpAny_pure h⟩)) htake))
  | exact wpAny_bind (wpAny_bind (m:=Builtin.Tuple.tupleExact _) (wpAny_newObj_type (wpAny_pure ⟨_,rfl,wpAny_pure h⟩) htake))
end
end HT
namespace L2
open PySem PySem.Spec PyProof.Rows
abbrev TO:=St→Hp→(Option Int→Hp→Prop)→Prop
def PO (X:Cx) (e:Option Expr) (t:TO):Prop:=
 ∀ (pins:List (Addr×Obj)) (s:Shared) (σ:St) (H:Hp) (Q:Option Int→Hp→Prop),Inv X pins σ H s→t σ H Q →
  wpAny (model X.prog X.w) X.A (evalPart e X.env) (fun u s'=>∃ o H',Inv X pins σ H' s'∧IsPart u o∧Q o H') X.xe s
def tNoPart:TO:=fun _ H Q=>Q none H
def tPart (t:TE):TO:=fun σ H Q=>t σ H fun x H1=>∃ i,x=.int i∧Q (some i) H1
section
variable {X:Cx}{e:Expr}{te:TE}{lo hi:Option Expr}{tl th:TO}{pos p2:Pos}
theorem po_none:PO X none tNoPart:=by
 intro pins s σ H Q I h
 rw [evalPart_none]
 exact wpAny_pure ⟨none,H,I,.none,h⟩
theorem po_some (h:PE X e te):PO X (some e) (tPart te):=by
 intro pins s σ H Q I hw
 rw [evalPart_some]
 refine thn (h pins s σ H _ I hw) fun u s1 ⟨x,H1,I1,r1,q1⟩=>?_
 obtain ⟨i,rfl,q⟩:=q1
 obtain ⟨t,rfl⟩:=r1
 exact ⟨some i,H1,I1,.int i t,q⟩
def SlR (X:Cx) (r:V→Option Int→Option Int→Hp→VK→Prop):Prop:=
 ∀ (pins:List (Addr×Obj)) (s:Shared) (σ:St) (H:Hp) (x:V) (v vl vu:Value) (lo hi:Option Int) (sl:Addr) (Q:VK),Inv X pins σ H s→RelV x v→s.heap.IsSliceOf sl vl vu .none→IsPart vl lo→IsPart vu hi→r x lo hi H Q →
  ∃ T id,typeLookup (.type T) "__getitem__"=pure (some (.builtin id))∧s.TypeIs v T∧wpAny (model X.prog X.w) X.A (getItem v (.ref sl)) (EP X pins σ Q) X.xe s
def tSl (r:V→Option Int→Option Int→Hp→VK→Prop) (te:TE) (tl th:TO):TE:=fun σ H Q=>te σ H fun x H1=>tl σ H1 fun l H2=>th σ H2 fun u H3=>r x l u H3 Q
theorem pe_slice {r:V→Option Int→Option Int→Hp→VK→Prop} (hr:SlR X r) (he:PE X e te) (hl:PO X lo tl) (hu:PO X hi th):PE X (.Subscript e (.Slice lo hi none p2) pos) (tSl r te tl th):=by
 intro pins s σ H Q I h
 refine Subscript_ (thn (he pins s σ H _ I h) fun v s1 ⟨x,H1,I1,r1,q1⟩=>?_)
 refine wpAny_Slice (thn (hl pins s1 σ H1 _ I1 q1) fun vl s2 ⟨l,H2,I2,pl,q2⟩=>thn (hu pins s2 σ H2 _ I2 q2) fun vu s3 ⟨u,H3,I3,pu,q3⟩=>?_)
 rw [evalPart_none]
 refine wpAny_pure ?_
 have I4:Inv X pins σ H3 { s3 with heap:=s3.heap.push { cls:=.type "slice",data:=.fields #[vl,vu,.none] } }:=I3.kept (t':=s3.toks) fun b ob q=>Heap.get?_push_of_some _ q
 obtain ⟨T,id,hT,ht,hg⟩:=hr pins { s3 with heap:=s3.heap.push { cls:=.type "slice",data:=.fields #[vl,vu,.none] } } σ H3 x v vl vu l u s3.heap.objs.size Q I4 r1 (Heap.IsSliceOf.new ..) pl pu q3
 show wpAny (model X.prog X.w) X.A (subscriptTail e (.Slice lo hi none p2) v (.ref s3.heap.objs.size)) (EP X pins σ Q) X.xe { s3 with heap:=s3.heap.push { cls:=.type "slice",data:=.fields #[vl,vu,.none] } }
 exact tail_any (ops:=[.ref s3.heap.objs.size,v]) ht hT hg (by with_unfolding_all rfl)
def cutV (xs:List V) (lo hi:Option Int):List V:=(xs.drop (HT.sIx xs.length 0 lo)).take (HT.sIx xs.length xs.length hi - HT.sIx xs.length 0 lo)
theorem cutV_length (xs:List V) (lo hi:Option Int):(cutV xs lo hi).length≤xs.length:=by
 unfold cutV
 rw [List.length_take,List.length_drop]
 omega
def rSlT (K:PySem.W.Frag):V→Option Int→Option Int→Hp→VK→Prop:=fun x lo hi H Q=>∃ a xs,x=.ref a∧SqT K H a xs ∧
 ¬ (HT.sIx xs.length 0 lo=0∧HT.sIx xs.length xs.length hi=xs.length)∧∀ p,H p=none→Q (.ref p) (upd H p (.tup (cutV xs lo hi)))
theorem sl_tup:SlR X (rSlT X.K):=by
 intro pins s σ H x v vl vu lo hi sl Q I rx hs pl pu h
 obtain ⟨a,xs,rfl,hx,hw,q⟩:=h
 cases rx
 obtain ⟨its,r,ht,hz⟩:=I.tuple hx
 have hlen:its.toArray.size=xs.length:=by rw [List.size_toArray];exact r.length.symm
 refine ⟨"tuple",_,PyProof.Rows.slot_tuple_getitem.lookup,ht.typeIs,?_⟩
 refine HT.getItem_tuple_cut ht hs pl pu (by rw [hlen];exact hw) ?_ (by rw [hlen];exact hz)
 rw [hlen]
 refine ⟨.ref s.heap.objs.size,_,I.laid (t':=s.toks) (o:=.tup (cutV xs lo hi)) (fun b ob q=>Heap.get?_push_of_some _ q) (Nat.le_refl _) ?_,rfl,q _ (I.hok.fresh (Nat.le_refl _))⟩
 exact ⟨Nat.le_trans (cutV_length xs lo hi) hz,_,(r.drop (HT.sIx xs.length 0 lo)).take (HT.sIx xs.length xs.length hi - HT.sIx xs.length 0 lo),PlainT.new _ _⟩
end
def ixN (n:Nat) (i:Int):Option Nat:=if 0≤i then (if i < n then some i.toNat else none) else if -(n:Int)≤i then some (i + n).toNat else none
def atI {α:Type} (xs:List α) (i:Int):Option α:=(ixN xs.length i).bind fun j=>xs[j]?
theorem ixN_seq {n:Nat}{i:Int}{j:Nat} (h:ixN n i=some j):seqIndex? i n=some j∧j < n∧-(n:Int)≤i∧i < n:=by
 unfold ixN at h
 by_cases h0:0≤i
 ·rw [if_pos h0] at h
  by_cases h1:i < n
  ·rw [if_pos h1] at h
   have e:i.toNat=j:=Option.some.inj h
   exact ⟨by rw [seqIndex_of h0 h1,e],by omega,by omega,h1⟩
  ·rw [if_neg h1] at h;cases h
 ·rw [if_neg h0] at h
  by_cases h1:-(n:Int)≤i
  ·rw [if_pos h1] at h
   have e:(i + n).toNat=j:=Option.some.inj h
   exact ⟨by rw [seqIndex_neg (by omega) h1,e],by omega,h1,by omega⟩
  ·rw [if_neg h1] at h;cases h
theorem atI_get {α:Type}{xs:List α}{i:Int}{v:α} (h:atI xs i=some v):∃ j,seqIndex? i xs.length=some j∧xs[j]? = some v∧j < xs.length∧-(xs.length:Int)≤i∧i < xs.length:=by
 unfold atI at h
 cases e:ixN xs.length i with
 | none=>rw [e] at h;cases h
 | some j=>
  rw [e] at h
  obtain ⟨h1,h2,h3,h4⟩:=ixN_seq e
  exact ⟨j,h1,h,h2,h3,h4⟩
def PlainIx (b:Expr):Prop:=∀ o i,subscripted b false o i=operate [o,i] (getItem o i)
def IxR (X:Cx) (r:R2):Prop:=
 ∀ (value slice:Expr) (pins:List (Addr×Obj)) (s:Shared) (σ:St) (H:Hp) (x y:V) (v u:Value) (Q:VK),Inv X pins σ H s→RelV x v→RelV y u→r x y H Q →
  subscripted slice false v u=operate [v,u] (getItem v u)→wpAny (model X.prog X.w) X.A (subscriptTail value slice v u) (EP X pins σ Q) X.xe s
def MtR (X:Cx) (id:String) (r:V→List V→Hp→VK→Prop):Prop:=
 ∀ (pins:List (Addr×Obj)) (s:Shared) (σ:St) (H:Hp) (x:V) (xs:List V) (v:Value) (us:List Value) (Q:VK),Inv X pins σ H s→RelV x v→Vals xs us→r x xs H Q →
  wpAny (model X.prog X.w) X.A (call (.builtin id) (v::us)) (EP X pins σ Q) X.xe s
section
variable {X:Cx}{a b:Expr}{ta tb:TE}{pos:Pos}
theorem IxR.or {r r':R2} (h:IxR X r) (h':IxR X r'):IxR X (fun x y H Q=>r x y H Q∨r' x y H Q):=by
 intro value slice pins s σ H x y v u Q I rx ry q hs
 rcases q with q | q
 ·exact h value slice pins s σ H x y v u Q I rx ry q hs
 ·exact h' value slice pins s σ H x y v u Q I rx ry q hs
theorem pe_ix {r:R2} (hr:IxR X r) (ha:PE X a ta) (hb:PE X b tb) (hs:PlainIx b):PE X (.Subscript a b pos) (tOp r ta tb):=by
 intro pins s σ H Q I h
 exact Subscript_ (binT ha hb I h fun v u s2 x y H2 I2 rx ry q=>hr a b pins s2 σ H2 x y v u Q I2 rx ry q (hs _ _))
def rIxL (K:PySem.W.Frag):R2:=fun x y H Q=>∃ p xs i v,x=.ref p∧y=.int i∧SqL K H p xs∧atI xs i=some v∧Q v H
def rIxT (K:PySem.W.Frag):R2:=fun x y H Q=>∃ p xs i v,x=.ref p∧y=.int i∧SqT K H p xs∧atI xs i=some v∧Q v H
def rIxS:R2:=fun x y H Q=>∃ z i c,x=.str z∧y=.int i∧z.length≤sizeLine∧atI z.cps.toList i=some c∧Q (.str ⟨#[c]⟩) H
theorem ix_list:IxR X (rIxL X.K):=by
 intro value slice pins s σ H x y v u Q I rx ry h hs
 obtain ⟨p,xs,i,z,rfl,rfl,hq,he,q⟩:=h
 cases rx
 obtain ⟨t,rfl⟩:=ry
 obtain ⟨its,r,pl,hz⟩:=I.list hq
 obtain ⟨j,h1,h2,h3,h4,h5⟩:=atI_get he
 obtain ⟨w,ew,rw'⟩:=r.get h2
 have hl:=r.length
 have hn:=line63
 have fin:EP X pins σ Q w s:=⟨z,H,I,rw',q⟩
 by_cases h0:0≤i
 ·have hj:i.toNat=j:=by
   rw [seqIndex_of h0 h5] at h1
   exact Option.some.inj h1
  exact item_listR pl.isList h0 (by omega) (by rw [hj];simpa using ew) fin hs
 ·have hj:(i + (its.toArray.size:Int)).toNat=j:=by
   rw [seqIndex_neg (by omega) h4] at h1
   rw [List.size_toArray,← hl]
   exact Option.some.inj h1
  exact subscriptTail_builtinR (x:=w) pl.isList.typeIs slot_list_getitem.lookup
   (wpAny_getItem_list_neg (Q:=fun r s'=>r=w∧EP X pins σ Q r s') pl.isList (by omega) (by rw [List.size_toArray] <;> omega) (by omega) (by rw [hj];simpa using ew) ⟨rfl,fin⟩) hs
theorem ix_tup:IxR X (rIxT X.K):=by
 intro value slice pins s σ H x y v u Q I rx ry h hs
 obtain ⟨p,xs,i,z,rfl,rfl,hq,he,q⟩:=h
 cases rx
 obtain ⟨t,rfl⟩:=ry
 obtain ⟨its,r,pl,hz⟩:=I.tuple hq
 obtain ⟨j,h1,h2,h3,h4,h5⟩:=atI_get he
 obtain ⟨w,ew,rw'⟩:=r.get h2
 have hl:=r.length
 have hn:=line63
 have fin:EP X pins σ Q w s:=⟨z,H,I,rw',q⟩
 exact subscriptTail_builtinR (x:=w) pl.typeIs slot_tuple_getitem.lookup
  (getItem_tuple (j:=j) (Q:=fun r s'=>r=w∧EP X pins σ Q r s') pl (by omega) (by omega) (by rw [List.size_toArray,← hl];exact h1) (by simpa using ew) ⟨rfl,fin⟩) hs
theorem ix_str:IxR X rIxS:=by
 intro value slice pins s σ H x y v u Q I rx ry h hs
 obtain ⟨z,i,c,rfl,rfl,hz,he,q⟩:=h
 obtain ⟨t,rfl⟩:=rx
 obtain ⟨t',rfl⟩:=ry
 obtain ⟨j,h1,h2,h3,h4,h5⟩:=atI_get he
 have hl:z.cps.toList.length=z.length:=by simp [Str.length]
 rw [hl] at h1 h4 h5
 have hn:=line63
 exact tail_any (typeIs_str s z t) slot_str_getitem.lookup (getItem_str (c:=c) (by
  have e1:decide (i < -(2 ^ 63:Int))=false:=decide_eq_false (by omega)
  have e2:decide (i ≥ 2 ^ 63)=false:=decide_eq_false (by omega)
  rw [e1,e2,Bool.or_false]) (by rw [h1];simpa using h2) ⟨.str ⟨#[c]⟩,H,I.tok _,⟨_,rfl⟩,q⟩) hs
def rIx (K:PySem.W.Frag):R2:=fun x y H Q=>rIxL K x y H Q∨rIxT K x y H Q∨rIxS x y H Q
theorem ix_seq:IxR X (rIx X.K):=ix_list.or (ix_tup.or ix_str)
theorem slice_bounds (lo hi:Option Int) (n:Nat):(sliceBounds lo hi none n).1=((HT.sIx n 0 lo:Nat):Int)∧(sliceBounds lo hi none n).2.1=((HT.sIx n n hi:Nat):Int)∧(sliceBounds lo hi none n).2.2=1:=by
 refine ⟨?_,?_,rfl⟩
 ·cases lo with
  | none=>simp [sliceBounds,HT.sIx]
  | some i=>
   simp only [sliceBounds,HT.sIx,Option.getD_none,show (1:Int) > 0 by decide,if_true]
   by_cases h:i < 0
   ·simp only [h,if_true] <;> omega
   ·simp only [h,if_false] <;> omega
 ·cases hi with
  | none=>simp [sliceBounds,HT.sIx]
  | some i=>
   simp only [sliceBounds,HT.sIx,Option.getD_none,show (1:Int) > 0 by decide,if_true]
   by_cases h:i < 0
   ·simp only [h,if_true] <;> omega
   ·simp only [h,if_false] <;> omega
theorem slicePick_cut (its:List Value) (lo hi:Option Int):slicePick its.toArray lo hi none=((its.drop (HT.sIx its.length 0 lo)).take (HT.sIx its.length its.length hi - HT.sIx its.length 0 lo)).toArray:=by
 obtain ⟨h1,h2,h3⟩:=slice_bounds lo hi its.toArray.size
 unfold slicePick
 rw [h1,h2,h3]
 simp only [sliceRange_one,pick_run,List.size_toArray] <;> rfl
def rSlL (K:PySem.W.Frag):V→Option Int→Option Int→Hp→VK→Prop:=fun x lo hi H Q=>∃ a xs,x=.ref a∧SqL K H a xs∧∀ p,H p=none→Q (.ref p) (upd H p (.lst (cutV xs lo hi)))
theorem sl_list:SlR X (rSlL X.K):=by
 intro pins s σ H x v vl vu lo hi sl Q I rx hs pl pu h
 obtain ⟨a,xs,rfl,hx,q⟩:=h
 cases rx
 obtain ⟨its,r,ht,hz⟩:=I.list hx
 have hlen:=r.length
 refine ⟨"list",_,slot_list_getitem.lookup,ht.isList.typeIs,?_⟩
 refine wpAny_getItem_list_slice ht.isList hs pl pu .none (by simp) ?_ (by rw [List.size_toArray] <;> omega)
 rw [slicePick_cut,← hlen]
 refine ⟨.ref s.heap.objs.size,_,I.laid (t':=s.toks) (o:=.lst (cutV xs lo hi)) (fun b ob q=>Heap.get?_push_of_some _ q) (Nat.le_refl _) ?_,rfl,q _ (I.hok.fresh (Nat.le_refl _))⟩
 exact ⟨Nat.le_trans (cutV_length xs lo hi) hz,_,0,(r.drop (HT.sIx xs.length 0 lo)).take (HT.sIx xs.length xs.length hi - HT.sIx xs.length 0 lo),Heap.get?_push_size _ rfl⟩
def flatV:V→Bool
 | .non=>true
 | .bl _=>true
 | .int _=>true
 | .str _=>true
 | _=>false
def eqV:V→V→Bool
 | .non,.non=>true
 | .bl a,.bl b=>a == b
 | .bl a,.int b=>(if a then 1 else 0) == b
 | .int a,.bl b=>a == (if b then 1 else 0)
 | .int a,.int b=>a == b
 | .str a,.str b=>a == b
 | _,_=>false
theorem eqAt_V {A:Around}{s:Shared}{y x:V}{u v:Value} (ry:RelV y u) (rx:RelV x v) (fy:flatV y=true) (fx:flatV x=true):SeqAt.EqAt A s u v (eqV y x):=by
 cases y with
 | non=>
  cases ry
  cases x with
  | non=>cases rx;exact SeqAt.EqAt.same _
  | bl b=>cases rx;exact SeqAt.EqAt.none_bool b
  | int b=>obtain ⟨t,rfl⟩:=rx;exact SeqAt.EqAt.none_int b t
  | str b=>obtain ⟨t,rfl⟩:=rx;exact SeqAt.EqAt.none_str b t
  | _=>exact absurd (show false=true from fx) Bool.false_ne_true
 | bl a=>
  cases ry
  cases x with
  | non=>cases rx;exact SeqAt.EqAt.bool_none a
  | bl b=>cases rx;exact SeqAt.EqAt.bool_bool a b
  | int b=>obtain ⟨t,rfl⟩:=rx;exact SeqAt.EqAt.bool_int a b t
  | str b=>obtain ⟨t,rfl⟩:=rx;exact SeqAt.EqAt.bool_str a b t
  | _=>exact absurd (show false=true from fx) Bool.false_ne_true
 | int a=>
  obtain ⟨t',rfl⟩:=ry
  cases x with
  | non=>cases rx;exact SeqAt.EqAt.int_none a t'
  | bl b=>cases rx;exact SeqAt.EqAt.int_bool a t' b
  | int b=>obtain ⟨t,rfl⟩:=rx;exact SeqAt.EqAt.int_int a t' b t
  | str b=>obtain ⟨t,rfl⟩:=rx;exact SeqAt.EqAt.int_str a t' b t
  | _=>exact absurd (show false=true from fx) Bool.false_ne_true
 | str a=>
  obtain ⟨t',rfl⟩:=ry
  cases x with
  | non=>cases rx;exact SeqAt.EqAt.str_none a t'
  | bl b=>cases rx;exact SeqAt.EqAt.str_bool a t' b
  | int b=>obtain ⟨t,rfl⟩:=rx;exact SeqAt.EqAt.str_int a t' b t
  | str b=>obtain ⟨t,rfl⟩:=rx;exact SeqAt.EqAt.str_str a t' b t
  | _=>exact absurd (show false=true from fx) Bool.false_ne_true
 | _=>exact absurd (show false=true from fy) Bool.false_ne_true
def eqU (x:V) (u:Value):Bool:=match u with
 | .none=>eqV .non x
 | .bool b=>eqV (.bl b) x
 | .int i _=>eqV (.int i) x
 | .str z _=>eqV (.str z) x
 | _=>false
theorem eqU_of {x y:V}{u:Value} (r:RelV y u) (f:flatV y=true):eqU x u=eqV y x:=by
 cases y with
 | non=>cases r;rfl
 | bl b=>cases r;rfl
 | int i=>obtain ⟨t,rfl⟩:=r;rfl
 | str z=>obtain ⟨t,rfl⟩:=r;rfl
 | _=>exact absurd (show false=true from f) Bool.false_ne_true
theorem any_eqU {x:V}:∀ {xs:List V}{us:List Value},Vals xs us→xs.all flatV=true→us.any (eqU x)=xs.any fun y=>eqV y x
 | _,_,.nil,_=>rfl
 | y::xs,u::us,.cons r t,f=>by
  rw [List.all_cons,Bool.and_eq_true] at f
  rw [List.any_cons,List.any_cons,eqU_of r f.1,any_eqU t f.2]
theorem mem_eqAt {A:Around}{s:Shared}{x:V}{v:Value} (rx:RelV x v) (fx:flatV x=true):∀ {xs:List V}{us:List Value},Vals xs us→xs.all flatV=true→∀ u∈us,SeqAt.EqAt A s u v (eqU x u)
 | _,_,.nil,_=>fun u hu=>by cases hu
 | y::xs,u::us,.cons r t,f=>fun u' hu=>by
  rw [List.all_cons,Bool.and_eq_true] at f
  rcases List.mem_cons.mp hu with rfl | hu
  ·rw [eqU_of r f.1];exact eqAt_V r rx f.1 fx
  ·exact mem_eqAt rx fx t f.2 u' hu
def inV (x:V) (xs:List V):Bool:=xs.any fun y=>eqV y x
def rIn (K:PySem.W.Frag) (neg:Bool):R2:=fun x y H Q=>∃ p xs,y=.ref p∧(SqL K H p xs∨SqT K H p xs)∧flatV x=true∧xs.all flatV=true∧Q (.bl (if neg then !inV x xs else inV x xs)) H
theorem op_in_seq:OpR X (compareOp .In) (rIn X.K false):=by
 intro pins s σ H x y v u Q I rx ry h
 obtain ⟨p,xs,rfl,hq,fx,fs,q⟩:=h
 cases ry
 rcases hq with hq | hq
 ·obtain ⟨its,r,pl,hz⟩:=I.list hq
  refine SeqAt.in_listAt (eqU x) pl.isList (fun w hw=>mem_eqAt rx fx r fs w (by simpa using hw)) ⟨.bl _,H,I,rfl,?_⟩
  rw [show its.toArray.any (eqU x)=its.any (eqU x) by simp,any_eqU r fs]
  exact q
 ·obtain ⟨its,r,pl,hz⟩:=I.tuple hq
  refine SeqAt.in_tupleAt (eqU x) pl (fun w hw=>mem_eqAt rx fx r fs w (by simpa using hw)) ⟨.bl _,H,I,rfl,?_⟩
  rw [show its.toArray.any (eqU x)=its.any (eqU x) by simp,any_eqU r fs]
  exact q
theorem op_notIn_seq:OpR X (compareOp .NotIn) (rIn X.K true):=by
 intro pins s σ H x y v u Q I rx ry h
 obtain ⟨p,xs,rfl,hq,fx,fs,q⟩:=h
 cases ry
 rcases hq with hq | hq
 ·obtain ⟨its,r,pl,hz⟩:=I.list hq
  refine SeqAt.notIn_listAt (eqU x) pl.isList (fun w hw=>mem_eqAt rx fx r fs w (by simpa using hw)) ⟨.bl _,H,I,rfl,?_⟩
  rw [show its.toArray.any (eqU x)=its.any (eqU x) by simp,any_eqU r fs]
  exact q
 ·obtain ⟨its,r,pl,hz⟩:=I.tuple hq
  refine SeqAt.notIn_tupleAt (eqU x) pl (fun w hw=>mem_eqAt rx fx r fs w (by simpa using hw)) ⟨.bl _,H,I,rfl,?_⟩
  rw [show its.toArray.any (eqU x)=its.any (eqU x) by simp,any_eqU r fs]
  exact q
theorem op_notIn_str:OpR X (compareOp .NotIn) (fun x y H Q=>∃ i j,x=.str i∧y=.str j∧Q (.bl (!(!(Builtin.Str.occurrences j i 0 j.length 1).isEmpty))) H):=by
 intro pins s σ H x y v u Q I rx ry h
 obtain ⟨i,j,rfl,rfl,q⟩:=h
 obtain ⟨t,rfl⟩:=rx
 obtain ⟨t',rfl⟩:=ry
 exact notIn_str ⟨.bl _,H,I,rfl,q⟩
theorem call_len_seq:CallR X (.builtin "len") (fun xs H Q=>∃ p ys,xs=[.ref p]∧(SqL X.K H p ys∨SqT X.K H p ys)∧Q (.int ys.length) H):=by
 intro pins s σ H xs us Q I r h
 obtain ⟨p,ys,rfl,hq,q⟩:=h
 obtain ⟨u,rfl,rx⟩:=vals1 r
 cases rx
 have hn:=line63
 rcases hq with hq | hq
 ·obtain ⟨its,r',pl,hz⟩:=I.list hq
  have hlen:=r'.length
  exact Calls.call_len_list pl.isList (by simp only [List.size_toArray] <;> omega) ⟨.int ys.length,H,I.tok _,⟨s.toks + 1,by rw [List.size_toArray,hlen]⟩,q⟩
 ·obtain ⟨its,r',pl,hz⟩:=I.tuple hq
  have hlen:=r'.length
  exact len_tuple pl (by simp only [List.size_toArray] <;> omega) ⟨.int ys.length,H,I.tok _,⟨s.toks + 1,by rw [List.size_toArray,hlen]⟩,q⟩
theorem call_len_str:CallR X (.builtin "len") (fun xs H Q=>∃ z,xs=[.str z]∧z.length≤sizeLine∧Q (.int z.length) H):=by
 intro pins s σ H xs us Q I r h
 obtain ⟨z,rfl,hz,q⟩:=h
 obtain ⟨u,rfl,t,rfl⟩:=vals1 r
 have hn:=line63
 exact len_str (by omega) ⟨.int z.length,H,I.tok _,⟨_,rfl⟩,q⟩
theorem call_tuple_of:CallR X (.type "tuple") (fun xs H Q=>∃ p ys,xs=[.ref p]∧((SqL X.K H p ys∧∀ l,H l=none→Q (.ref l) (upd H l (.tup ys)))∨(SqT X.K H p ys∧Q (.ref p) H))):=by
 intro pins s σ H xs us Q I r h
 obtain ⟨p,ys,rfl,h⟩:=h
 obtain ⟨u,rfl,rx⟩:=vals1 r
 cases rx
 rcases h with ⟨hq,q⟩ | ⟨hq,q⟩
 ·obtain ⟨its,r',pl,hz⟩:=I.list hq
  have hlen:=r'.length
  refine call_tuple_list pl.isList (fun h' kp=>?_) (by simp only [List.size_toArray] <;> omega)
  have I1:Inv X pins σ H { s with heap:=h' }:=I.kept (t':=s.toks) kp
  have I2:Inv X pins σ (upd H h'.objs.size (.tup ys)) { s with heap:=h'.push { cls:=.type "tuple",data:=.seq its.toArray } }:=
   I1.laid (t':=s.toks) (fun b o e=>Heap.get?_push_of_some _ e) (Nat.le_refl _) (show ObjOk X.prog X.w _ _ _ (.tup ys) from ⟨hz,its,r',PlainT.new _ _⟩)
  exact ⟨.ref h'.objs.size,_,I2,rfl,q _ (I1.hok.fresh (Nat.le_refl _))⟩
 ·obtain ⟨its,r',pl,hz⟩:=I.tuple hq
  exact call_tuple_same pl ⟨.ref p,H,I,rfl,q⟩
def tyV (K:PySem.W.Frag) (T:String) (x:V) (H:Hp):Prop:=match x with
 | .str _=>T="str"
 | .int _=>T="int"
 | .ref p=>(T="list"∧∃ xs,SqL K H p xs)∨(T="tuple"∧∃ o,K.lookup p=some o∧o.cls=.type "tuple"∧o.dict=none) ∨
   (T="dict"∧((∃ kvs,H p=some (.dK kvs))∨∃ kvs,H p=some (.dT kvs)))∨(T="set"∧∃ S n,H p=some (.set S n))
 | _=>False
theorem tyV_is {pins:List (Addr×Obj)}{σ:St}{H:Hp}{s:Shared}{T:String}{x:V}{v:Value} (I:Inv X pins σ H s) (r:RelV x v) (ty:tyV X.K T x H) :
  s.TypeIs v T∧∀ a,v=.ref a→∃ ob,s.heap.get? a=some ob∧ob.dict=none:=by
 cases x with
 | str z=>
  obtain ⟨t,rfl⟩:=r
  cases (show T="str" from ty)
  exact ⟨typeIs_str s z t,fun _ e=>nomatch e⟩
 | int i=>
  obtain ⟨t,rfl⟩:=r
  cases (show T="int" from ty)
  exact ⟨typeIs_int s i t,fun _ e=>nomatch e⟩
 | ref p=>
  cases r
  rcases ty with ⟨rfl,xs,hq⟩ | ⟨rfl,o,hk,hc,hd⟩ | ⟨rfl,hk⟩ | ⟨rfl,S,n,hk⟩
  ·obtain ⟨its,_,pl,_⟩:=I.list hq
   refine ⟨pl.isList.typeIs,fun a e=>?_⟩
   cases e
   obtain ⟨o,n,e,c,hd,_⟩:=pl
   exact ⟨o,e,hd⟩
  ·refine ⟨⟨o,I.kIn p o hk,hc⟩,fun a e=>?_⟩
   cases e
   exact ⟨o,I.kIn _ o hk,hd⟩
  ·have z:∃ o,s.heap.get? p=some o∧o.ExactDict:=by
    rcases hk with ⟨kvs,hk⟩ | ⟨kvs,hk⟩
    ·obtain ⟨_,_,_,_,o,_,_,e,ex,_⟩:=I.hok p _ hk
     exact ⟨o,e,ex⟩
    ·obtain ⟨_,_,_,_,o,_,_,e,ex,_⟩:=I.hok p _ hk
     exact ⟨o,e,ex⟩
   obtain ⟨o,e,ex⟩:=z
   refine ⟨⟨o,e,ex.1⟩,fun a e2=>?_⟩
   cases e2
   exact ⟨o,e,ex.2.1⟩
  ·obtain ⟨o,_,_,_,e,ex,_⟩:=I.hok p _ hk
   refine ⟨⟨o,e,ex.1⟩,fun a e2=>?_⟩
   cases e2
   exact ⟨o,e,ex.2.1⟩
 | _=>exact False.elim ty
def tBM (K:PySem.W.Frag) (T:String) (r:V→List V→Hp→VK→Prop) (to:TE) (t:TA):TE:=fun σ H Q=>to σ H fun x H1=>tyV K T x H1∧t σ H1 fun xs H2=>r x xs H2 Q
variable {o e:Expr}{es:List Expr}{to:TE}{t:TA}{name:Str}{apos cpos:Pos}{T id:String}{r:V→List V→Hp→VK→Prop}
theorem pe_bm (pa:PlainAttrs T) (slot:Slot T name id) (hty:typeOf (.builtin id)=pure (.type "method_descriptor")) (hm:MtR X id r) (ho:PE X o to) (ha:PA X (e::es) t)
  (hbase:attributeBase o name X.env (eval o X.env)=eval o X.env:=by rfl)
  (hfew:((backTo cpos (starEach (e::es) X.env)).all (fun x=>!x.1)&&(backToKw cpos (keywordEach [] X.env)).all (fun x=>x.1.isSome)
   && decide ((e::es).length + ([]:List Keyword).length + (if ([]:List Keyword).isEmpty then 0 else 1) < 30))=true:=by rfl)
  (hline:(apos.endLine == cpos.line)=true:=by rfl) (hs:starEach (e::es) X.env=(false,eval e X.env)::starEach es X.env:=by rfl) (hplain:(backTo cpos (starEach es X.env)).any (·.1)=false:=by rfl) :
  PE X (.Call (.Attribute o name apos) (e::es) [] cpos) (tBM X.K T r to t):=by
 intro pins s σ H Q I h
 refine wpAny_Call_method_late hbase hfew hline rfl (thn (ho pins s σ H _ I h) fun v s1 ⟨x,H1,I1,r1,ty,q1⟩=>?_)
 obtain ⟨h1,h2⟩:=tyV_is I1 r1 ty
 refine ⟨T,id,pa,slot,hty,h1,h2,?_⟩
 have hA:=ha cpos pins s1 σ H1 _ I1 q1
 rw [hs] at hA ⊢
 refine Calls.callWith_builtin (by show (false||(backTo cpos (starEach es X.env)).any (·.1))=false;rw [hplain] <;> rfl) (Calls.evalArgs_plain ?_)
 exact thn hA fun us s2 ⟨vs,H2,I2,r2,q2⟩=>hm pins s2 σ H2 x vs v us Q I2 r1 r2 q2
end
def MtM (X:Cx) (id:String) (r:V→List V→Hp→VK→Prop):Prop:=
 ∀ (pins:List (Addr×Obj)) (s:Shared) (σ:St) (H:Hp) (x:V) (xs:List V) (v:Value) (us:List Value) (Q:VK),Inv X pins σ H s→RelV x v→Vals xs us→r x xs H Q →
  wpAny (model X.prog X.w) X.A (call (.builtin id) (v::us)) (EP X pins σ Q) X.xe s
theorem Vals.one:∀ {x:V}{us:List Value},Vals [x] us→∃ u,us=[u]∧RelV x u
 | _,_,.cons r .nil=>⟨_,rfl,r⟩
section
variable {X:Cx}{pins:List (Addr×Obj)}{σ:St}{H:Hp}{s:Shared}{l b:Addr}{xs ys zs:List V}
theorem Inv.lset {its its':List Value}{n:Nat}{f:Array Value→Array Value}{t':Nat} (I:Inv X pins σ H s) (hH:H l=some (.lst xs))
  (e:s.heap.get? l=some { cls:=.type "list",data:=.seq its.toArray n }) (hf:f its.toArray=its'.toArray) (hv:Vals ys its') (hz:ys.length≤sizeLine) :
  Inv X pins σ (upd H l (.lst ys)) { s with heap:=s.heap.update l (Obj.mapSeq f),toks:=t' }:=by
 have q:=PySem.IsL.update e f
 rw [hf] at q
 refine I.write (x:=l) (e:=l) (by rw [hH];exact trivial) (.inl rfl) (fun b' u hb hu=>(Heap.get?_update_other s.heap (Obj.mapSeq f) (Ne.symm hb)).trans hu) ⟨_,q⟩ ?_
 exact ⟨hz,its',_,hv,q⟩
theorem Inv.lnew {its:List Value}{t':Nat} (I:Inv X pins σ H s) (hv:Vals ys its) (hz:ys.length≤sizeLine) :
  Inv X pins σ (upd H s.heap.objs.size (.lst ys)) { s with heap:=s.heap.push { cls:=.type "list",data:=.seq its.toArray },toks:=t' }:=
 I.laid (fun _ _ q=>Heap.get?_push_of_some _ q) (Nat.le_refl _) ⟨hz,its,0,hv,Heap.get?_push_size _ rfl⟩
theorem Inv.fresh (I:Inv X pins σ H s):H s.heap.objs.size=none:=I.hok.fresh (Nat.le_refl _)
theorem Inv.lstM (I:Inv X pins σ H s) (hH:H l=some (.lst xs)):xs.length≤sizeLine∧∃ (its:List Value) (n:Nat),Vals xs its∧xs.length=its.length∧s.heap.get? l=some { cls:=.type "list",data:=.seq its.toArray n }:=by
 obtain ⟨z,its,n,r,e⟩:=I.hok l _ hH
 exact ⟨z,its,n,r,r.length,e⟩
theorem notLongL {n:Nat} (h:n≤sizeLine):Builtin.List.listTooLong n=false:=by
 unfold Builtin.List.listTooLong
 exact decide_eq_false (by omega)
end
section
variable {X:Cx}
def rAppend:V→List V→Hp→VK→Prop:=fun x vs H Q=>∃ l xs y,x=.ref l∧vs=[y]∧H l=some (.lst xs)∧xs.length < sizeLine∧Q .non (upd H l (.lst (xs++[y])))
theorem mt_append:MtM X "list.append" rAppend:=by
 intro pins s σ H x vs v us Q I rx rv h
 obtain ⟨l,xs,y,rfl,rfl,hH,hz,q⟩:=h
 cases rx
 obtain ⟨u,rfl,ru⟩:=rv.one
 obtain ⟨z,its,n,r,hl,e⟩:=I.lstM hH
 refine call_meets F.slot_list_append ⟨_,e,rfl⟩ F.entry_list_append (F.args_list_append_2 _ _) (PySem.list_append l its.toArray n u (by rw [List.size_toArray];omega)) ⟨e,?_⟩
 refine ⟨.non,_,I.lset (its':=its++[u]) hH e (by simp) (r.append (.cons ru .nil)) ?_,rfl,q⟩
 rw [List.length_append,List.length_singleton]
 omega
def rExtend:V→List V→Hp→VK→Prop:=fun x vs H Q=>∃ l b xs zs,x=.ref l∧vs=[.ref b]∧H l=some (.lst xs)∧H b=some (.lst zs)∧xs.length + zs.length≤sizeLine∧Q .non (upd H l (.lst (xs++zs)))
theorem mt_extend:MtM X "list.extend" rExtend:=by
 intro pins s σ H x vs v us Q I rx rv h
 obtain ⟨l,b,xs,zs,rfl,rfl,hH,hB,hz,q⟩:=h
 cases rx
 obtain ⟨u,rfl,ru⟩:=rv.one
 cases ru
 obtain ⟨z,its,n,r,hl,e⟩:=I.lstM hH
 obtain ⟨z2,its2,n2,r2,hl2,e2⟩:=I.lstM hB
 have hsz:its.toArray.size + its2.toArray.size≤sizeLine:=by rw [List.size_toArray,List.size_toArray];omega
 have hlong:¬ (!its.toArray.isEmpty&&Builtin.List.listTooLong (its.toArray.size + its2.toArray.size))=true:=by
  rw [notLongL hsz,Bool.and_false]
  exact Bool.false_ne_true
 refine call_meets F.slot_list_extend ⟨_,e,rfl⟩ F.entry_list_extend (F.args_list_extend_2 _ _)
  (AutoSeq1.list_extend_list_list_0 l its.toArray n b its2.toArray n2 hlong (by rw [List.size_toArray];omega) (by omega)) ⟨e,e2,?_⟩
 refine ⟨.non,_,I.lset (its':=its++its2) hH e (by simp) (r.append r2) ?_,rfl,q⟩
 rw [List.length_append]
 omega
def rCat:R2:=fun x y H Q=>∃ l b xs zs,x=.ref l∧y=.ref b∧H l=some (.lst xs)∧H b=some (.lst zs)∧xs.length + zs.length≤sizeLine∧∀ p,H p=none→Q (.ref p) (upd H p (.lst (xs++zs)))
theorem op_cat:OpR X (binaryOp .Add) rCat:=by
 intro pins s σ H x y v u Q I rx ry h
 obtain ⟨l,b,xs,zs,rfl,rfl,hH,hB,hz,q⟩:=h
 cases rx
 cases ry
 obtain ⟨z,its,n,r,hl,e⟩:=I.lstM hH
 obtain ⟨z2,its2,n2,r2,hl2,e2⟩:=I.lstM hB
 refine PySem.P.add_list e e2 ?_ (by rw [List.size_toArray,List.size_toArray];omega)
 have ea:its.toArray++its2.toArray=(its++its2).toArray:=by simp
 rw [ea]
 exact ⟨.ref _,_,I.lnew (t':=s.toks) (r.append r2) (by rw [List.length_append];omega),rfl,q _ I.fresh⟩
end
section
variable {κ:Type} [DecidableEq κ]
def valV (kvs:List (κ×V)) (k:κ):Option V:=(kvs.find? fun kv=>decide (kv.1=k)).map (·.2)
theorem valV_pos {p:κ×V}{r:List (κ×V)}{k:κ} (e:p.1=k):valV (p::r) k=some p.2:=by simp [valV,List.find?_cons,e]
theorem valV_neg {p:κ×V}{r:List (κ×V)}{k:κ} (e:¬ p.1=k):valV (p::r) k=valV r k:=by simp [valV,List.find?_cons,e]
theorem KV.val {kvs:List (κ×V)}{vs:List (κ×Value)} (r:KV kvs vs) (k:κ):RelO (valV kvs k) (valueAt vs k):=by
 unfold KV at r
 induction r with
 | nil=>exact True.intro
 | @cons p q ps qs h t ih=>
  obtain ⟨h1,h2⟩:=h
  by_cases e:p.1=k
  ·have e':q.1=k:=h1.symm.trans e
   have b:valueAt (q::qs) k=some q.2:=by simp [valueAt,List.find?_cons,e']
   rw [valV_pos e,b];exact h2
  ·have e':¬ q.1=k:=fun z=>e (h1.trans z)
   have b:valueAt (q::qs) k=valueAt qs k:=by simp [valueAt,List.find?_cons,e']
   rw [valV_neg e,b];exact ih
theorem KV.length {kvs:List (κ×V)}{vs:List (κ×Value)} (r:KV kvs vs):kvs.length=vs.length:=Paired.length r
end
abbrev KT (H:Hp):List (List Key×V)→List (List Key×Addr×Value)→Prop:=Paired fun p q=>p.1=q.1∧H q.2.1=some (.tup (p.1.map kV))∧RelV p.2 q.2.2
theorem KT.val {H:Hp}{kvs:List (List Key×V)}{xs:List (List Key×Addr×Value)} (r:KT H kvs xs) (k:List Key):RelO (valV kvs k) ((atKey xs k).map (·.2)):=by
 induction r with
 | nil=>exact True.intro
 | @cons p q ps qs h t ih=>
  obtain ⟨h1,_,h2⟩:=h
  by_cases e:p.1=k
  ·have e':q.1=k:=h1.symm.trans e
   have b:atKey (q::qs) k=some q.2:=by simp [atKey,List.find?_cons,e']
   rw [valV_pos e,b];exact h2
  ·have e':¬ q.1=k:=fun z=>e (h1.trans z)
   have b:atKey (q::qs) k=atKey qs k:=by simp [atKey,List.find?_cons,e']
   rw [valV_neg e,b];exact ih
section
variable {P:Program}{w:World}{H:Hp}{h:Heap}{a:Addr}
theorem rd_of {u:HO} (ok:HOk P w H h) (e:Rd H a u):ObjOk P w H h a u:=e.ok ok
theorem dk_rd {kvs:List (Key×V)} (ok:HOk P w H h) (e:Rd H a (.dK kvs)):kvs.length≤sizeLine∧(a == sysModules)=false∧∃ vs,KV kvs vs∧h.DictOf (mixKind P w) a vs:=
 show ObjOk P w H h a (.dK kvs) from rd_of ok e
end
section
variable {X:Cx}{pins:List (Addr×Obj)}{σ:St}{H:Hp}{s:Shared}{a:Addr}{kvs:List (Key×V)}{k:Key}{u:Value}{A:Around}{E:Value→Shared→Prop}
theorem d_len {Q:Value→Shared→Prop} (I:Inv X pins σ H s) (e:Rd H a (.dK kvs)) (h:∀ t s',Inv X pins σ H s'→Q (.int kvs.length t) s'):wpAny (model X.prog X.w) A (call (.builtin "len") [.ref a]) Q E s:=by
 obtain ⟨z,hd,vs,rel,dd⟩:=dk_rd I.hok e
 refine call_len_dict hd dd (by rw [← rel.length];rw [sizeLine_eq] at z;omega) ?_
 rw [← rel.length]
 exact h _ _ (I.tok _)
end
end L2
namespace Att
open PySem PySem.W PySem.Calls PyProof.Rows
theorem ints_of_wellAll {P:Params}{h:Heap}:∀ (ns:List Int) (vs:List Value),WellAll P h vs (ns.map WData.int)→IntsAre vs ns:=by
 intro ns
 induction ns with
 | nil=>
  intro vs w
  rw [List.map_nil] at w
  cases w
  exact .nil
 | cons n ns ih=>
  intro vs w
  rw [List.map_cons] at w
  cases w with
  | cons a b=>
   cases a
   exact .cons _ _ (ih _ b)
theorem script_of {l:OpenLaw}{n:Nat} (hn:l.most=some n) {P:Params}{h:Heap}{args:List WData}{vals:List Value}
  (hpre:l.row.toRowW.claim.pre args=true) (hwl:WellAll P h vals args) :
  ∃ a vs ns,vals=[Value.ref a]∧args=[WData.list (ns.map WData.int)]∧h.get? a=some { cls:=.type "list",data:=.seq vs.toArray }∧IntsAre vs ns∧ns.length≤n:=by
 have hsh:WShape.hasAll [] args [.list .int]=true:=(pre_splitW hpre).1
 have hc:l.pre.holds [] { args:=args }=true:=(pre_splitW hpre).2
 obtain ⟨d,r,rfl,h1,h2⟩:=hasAllW_cons hsh
 obtain rfl:=hasAllW_nil h2
 obtain ⟨xs,rfl,h3⟩:=hasW_list h1
 obtain ⟨ns,rfl⟩:=items_int h3
 have hlen:ns.length≤n:=by
  unfold OpenLaw.pre at hc
  have h4:(WTm.not (.lt (.lit (.int (n:Int))) (.len (.arg 0)))).holds [] { args:=[.list (ns.map .int)] }=true:=by
   have h4:=(holds_andW hc).1
   rw [hn] at h4
   exact h4
  have h5:=condW_of h4 (w_not (w_lt w_lit (w_len_list (w_arg rfl))))
  rw [List.length_map] at h5
  refine Nat.le_of_not_lt fun q=>?_
  have q':(n:Int) < ((ns.length:Nat):Int):=by omega
  first
   | (rw [decide_eq_true q'] at h5;exact absurd h5 (by decide))
   | (simp at h5;omega)
 cases hwl with
 | cons w1 w2=>
  cases w2
  cases w1 with
  | list ho hall=>exact ⟨_,_,ns,rfl,rfl,ho,ints_of_wellAll ns _ hall,hlen⟩
theorem post_true (l:OpenLaw) (args:List WData):l.row.toRowW.claim.post args (.bool true) args=true:=
 postW_of (r:=l.row.toRowW) (X:=(true == true))
  (show WShape.has [] (.bool true) .bool=true by first | rfl | decide | simp [WShape.has,WShape.arms,WShape.armsAll])
  (show (WTm.eq .res (.lit (.bool true))).value [] { args:=args,res:=some (.bool true),after:=args }=some (.bool (true == true)) from w_eq_bool (w_res rfl) w_lit) rfl
theorem attach_call {l:OpenLaw}{n:Nat}{q:Program}{loose:List Str}{XP:(Str→Option Value)→Heap→Prop}{YP:World→Heap→Prop}{d:DefRec}
  (hn:l.most=some n) (hdf:d.params.defaults=[])
  (call:∀ (w:World) (s₀ s₁:Shared) (mg mb:Str→Option Value) (fa:Addr) (o:Obj) (pm cd doc:Value) (a:Addr) (vs:List Value) (ns:List Int),
   Ground q loose [] XP w s₀ mg mb s₁.heap→YP w s₁.heap →
   s₁.heap.get? fa=some o→o.data=.func (docDef d.name d.params d.body d.scope pm cd doc)→s₁.heap.CodeRec cd d.name→mg d.name=some (.ref fa) →
   s₁.heap.get? a=some { cls:=.type "list",data:=.seq vs.toArray }→IntsAre vs ns→ns.length≤n→s₁.gens=#[] →
   codeAny (model l.prog w) callerA (.call (.ref fa) ⟨[.ref a],[]⟩) (fun r s'=>r=.ok (.ret (.bool true))∧OldK s₁.heap s'.heap∧s'.os=s₁.os∧AllBare s'.gens) s₁) :
  WalkO q loose XP YP l.row.toRowW d [] (fun f vs=>PySem.call f vs):=by
 intro w s₀ s₁ mg mb G Y fa o pm cd doc dV kV ho hd hcd hD hmg hg args vals as hpre hlay hrd hwl hlo
 obtain rfl:dV=.none:=Dflts.none hD hdf
 obtain rfl:kV=.none:=Dflts.noKw hD
 obtain ⟨a,vs,ns,rfl,rfl,hobj,hints,hlen⟩:=script_of hn hpre hwl
 refine enter_call (codeAny_mono (call w s₀ s₁ mg mb fa o pm cd doc a vs ns G Y ho (fd_plain hd) hcd hmg hobj hints hlen hg) fun r s' hq=>?_)
 obtain ⟨rfl,h2,h3,h4⟩:=hq
 exact ⟨.inl ⟨.bool true,.bool true,[],rfl,fun _=>rfl,.bool true,post_true l _,fun _=>⟨List.Pairwise.nil,fun _ hm=>(nomatch hm)⟩⟩,h2,h3,h4⟩
end Att
namespace L2
open PySem PySem.Spec PyProof.Rows
theorem vals_ints:∀ {vs:List Value}{ns:List Int},IntsAre vs ns→Vals (ns.map V.int) vs
 | _,_,.nil=>.nil
 | _,_,.cons n t h=>.cons ⟨t,rfl⟩ (vals_ints h)
def Only (H:Hp):Prop:=∀ b,H b=none∨∃ o xs,H b=some (.frz o (.lst xs))
theorem law_call {P:Program}{w:World}{K:PySem.W.Frag}{mg mb:Str→Option Value}{CX:CXT}{k:Nat}{fa a:Addr}{fd:FuncData}{x:Str}{sp:Sp}{s₁:Shared}{vs:List Value}{ns:List Int}
  (KX:K.In s₁.heap) (hns:s₁.heap.Ns mainGlobals mg) (hb:s₁.heap.Ns builtinsNs mb) (hbb:∀ x:Str,x≠"__name__"→mb x=bootBuiltins x) (hlim:s₁.heap.NoLimit) (hg:s₁.gens=#[])
  (ha:s₁.heap.get? a=some { cls:=.type "list",data:=.seq vs.toArray }) (hi:IntsAre vs ns) (hl:ns.length≤sizeLine) (hr:Room k callerA)
  (F:∀ base:Heap,K.In base→base.Ns mainGlobals mg→FnOk P w K mg base CX k fa fd [x] sp) (hbind:∀ (s:Shared) (u:Value),BindsTo s fd ⟨[u],[]⟩ [(x,u)])
  (hsp:∀ H:Hp,Only H→SqL K H a (ns.map V.int)→sp [.ref a] H (fun v _=>v=.bl true) fun _ _ _=>False)
  (hCX:∀ H e s',CX [] H s₁ (fun _ _ _=>False) e s'→False) :
  codeAny (model P w) callerA (.call (.ref fa) ⟨[.ref a],[]⟩) (fun r s'=>r=.ok (.ret (.bool true))∧OldK s₁.heap s'.heap∧s'.os=s₁.os∧AllBare s'.gens) s₁:=by
 have rv:=vals_ints hi
 have lenV:=hi.length
 have core:∀ H:Hp,Only H→SqL K H a (ns.map V.int)→HOk P w H s₁.heap→(∀ b,H b≠none→b=a)→(H a≠none→K.lookup a=none) →
   codeAny (model P w) callerA (.call (.ref fa) ⟨[.ref a],[]⟩) (fun r s'=>r=.ok (.ret (.bool true))∧OldK s₁.heap s'.heap∧s'.os=s₁.os∧AllBare s'.gens) s₁:=by
  intro H hO hS hok hA hK
  have base_of:∀ {b:Addr}{o:Obj},s₁.heap.get? b=some o→H b=none→(hidT s₁.heap H).get? b=some o:=fun e n=>hidT_get e n
  have noA:∀ {b:Addr}{o:Obj}{es:Array DictEntry}{ep:Nat},s₁.heap.get? b=some o→o.data=.dict es ep→H b=none:=fun {b o es ep} e d=>by
   cases q:H b with
   | none=>rfl
   | some u=>
    have e':b=a:=hA b (by rw [q];simp)
    subst e'
    rw [ha] at e;cases e
    have d':Data.seq vs.toArray _=Data.dict es ep:=d
    cases d'
  have nsK:∀ {b:Addr}{m:Str→Option Value},s₁.heap.Ns b m→(hidT s₁.heap H).Ns b m:=fun {b m} ⟨o,es,ep,e,d,r⟩=>⟨o,es,ep,base_of e (noA e d),d,r⟩
  have hKb:K.In (hidT s₁.heap H):=fun b o e=>base_of (KX b o e) (by
   cases q:H b with
   | none=>rfl
   | some u=>
    have e':b=a:=hA b (by rw [q];simp)
    subst e'
    rw [hK (by rw [q];simp)] at e;cases e)
  have hM:Mod K mg (hidT s₁.heap H):=⟨hKb,nsK hns,⟨mb,nsK hb,hbb⟩,let ⟨mc,h1,h2⟩:=hlim;⟨mc,nsK h1,h2⟩⟩
  have e0:Env0 P w K mg (hidT s₁.heap H) callerA [] s₁ H:=⟨rfl,hM,fun b o e=>of_hidT e,Nat.le_of_eq (hidT_size _ _),trivial,fun b hb=>absurd (show b∈([]:List Addr) from hb) (by simp),hok,.of_eq hg,.inl rfl⟩
  refine codeAny_mono ((F _ hKb (nsK hns)).run callerA [] s₁ H ⟨[.ref a],[]⟩ [.ref a] [.ref a] _ _ hr e0 (hbind s₁ (.ref a)) (.cons rfl .nil) (hsp H hO hS)) fun r s' h=>?_
  cases r with
  | error e=>exact (hCX H e s' h).elim
  | ok fl=>
   cases fl with
   | next=>exact False.elim h
   | brk=>exact False.elim h
   | cont=>exact False.elim h
   | ret u=>
    obtain ⟨v,H',os,bare,un,hok',r',q⟩:=h
    have q':v=.bl true:=q
    subst q'
    obtain rfl:u=Value.bool true:=r'
    refine ⟨rfl,OldK.of_keep fun b o e=>?_,os,bare⟩
    cases q:H b with
    | none=>exact un.keep b o e q (by intro z;exact absurd (show b∈([]:List Addr) from z) (by simp)) (by simp)
    | some u=>
     rcases hO b with z | ⟨ob,xs,z⟩
     ·rw [q] at z;cases z
     ·have z2:=un.frzs b ob _ z
      obtain ⟨e1,_⟩:=hok b _ z
      obtain ⟨e2,_⟩:=hok' b _ z2
      rw [e] at e1;cases e1
      exact e2
 cases hk:K.lookup a with
 | some o=>
  have e:=KX a o hk
  rw [ha] at e
  cases e
  refine core (fun _=>none) (fun _=>.inl rfl) (.inr ⟨_,vs.toArray,_,hk,rfl,rfl,rfl,by rw [List.size_toArray,lenV];exact hl,by simpa using rv⟩) (fun b u z=>by have z':(none:Option HO)=some u:=z;cases z') (fun b z=>absurd rfl z) fun z=>absurd rfl z
 | none=>
  refine core (fun b=>if b=a then some (.frz { cls:=.type "list",data:=.seq vs.toArray } (.lst (ns.map V.int))) else none) (fun b=>?_) (.inl (.inr ⟨{ cls:=.type "list",data:=.seq vs.toArray },if_pos rfl⟩)) (fun b u z=>?_) (fun b z=>?_) fun _=>hk
  ·by_cases hb:b=a
   ·exact .inr ⟨_,_,if_pos hb⟩
   ·exact .inl (if_neg hb)
  ·by_cases hb:b=a
   ·have z':=(if_pos hb).symm.trans z
    cases z'
    subst hb
    exact ⟨ha,by rw [List.length_map];exact hl,vs,_,rv,ha⟩
   ·have z':=(if_neg hb).symm.trans z
    cases z'
  ·by_cases hb:b=a
   ·exact hb
   ·exact absurd (if_neg hb) z
theorem walk_of {l:PySem.W.OpenLaw}{n k:Nat}{q:Program}{loose:List Str}{XP:(Str→Option Value)→Heap→Prop}{YP:World→Heap→Prop}{d:DefRec}{K:Params→PySem.W.Frag}{CX:World→CXT}{sp:World→Sp}{x:Str}
  (hn:l.most=some n) (hn2:n≤sizeLine) (hdf:d.params.defaults=[]) (hr:Room k callerA)
  (hY:∀ (w:World) (h:Heap),YP w h→(K w.params).In h)
  (F:∀ (w:World) (mg:Str→Option Value) (fa:Addr) (h:Heap),(K w.params).In h→h.Ns mainGlobals mg→mg d.name=some (.ref fa) →
   ∃ fd:FuncData,(∀ (s:Shared) (u:Value),BindsTo s fd ⟨[u],[]⟩ [(x,u)]) ∧
    ∀ base:Heap,(K w.params).In base→base.Ns mainGlobals mg→FnOk l.prog w (K w.params) mg base (CX w) k fa fd [x] (sp w))
  (hsp:∀ (w:World) (H:Hp) (a:Addr) (ns:List Int),ns.length≤n→Only H→SqL (K w.params) H a (ns.map V.int)→sp w [.ref a] H (fun v _=>v=.bl true) fun _ _ _=>False)
  (hCX:∀ (w:World) (H:Hp) (s:Shared) (e:Value) (s':Shared),CX w [] H s (fun _ _ _=>False) e s'→False) :
  PySem.W.WalkO q loose XP YP l.row.toRowW d [] (fun f vs=>PySem.call f vs):=by
 refine Att.attach_call hn hdf fun w s₀ s₁ mg mb fa o pm cd doc a vs ns G Y ho hd hcd hmg hobj hints hlen hg=>?_
 have KX:=hY w _ Y
 obtain ⟨fd,hb,hF⟩:=F w mg fa _ KX G.T.g hmg
 exact law_call KX G.T.g G.T.b G.T.builtins G.T.nolimit hg hobj hints (Nat.le_trans hlen hn2) hr hF hb (fun H hO hS=>hsp w H a ns hlen hO hS) fun H e s'=>hCX w H s₁ e s'
def defArgs (s:Stmt):Arguments:=match s with
 | .FunctionDef _ a _ _ _ _ _ _ _ _=>a
 | _=>{ posonlyargs:=[],args:=[],vararg:=none,kwonlyargs:=[],kw_defaults:=[],kwarg:=none,defaults:=[] }
def defBody (s:Stmt):List Stmt:=match s with
 | .FunctionDef _ _ b _ _ _ _ _ _ _=>b
 | _=>[]
def defScope (s:Stmt):Scope:=match s with
 | .FunctionDef _ _ _ _ _ _ sc _ _ _=>sc
 | _=>{ kind:=.function,names:=[],isGenerator:=false,isCoroutine:=false }
abbrev CX0:CXT:=fun _ _ _ _ _ _=>False
abbrev E0:XK:=fun _ _ _=>False
theorem pass0 {X:Cx}:Passes CX0 X E0:=fun _ _ _ _ _ _ _ h=>h.elim
structure Fun (K:PySem.W.Frag) (x qual:Str) (st:Stmt) (f:Addr) (fd:FuncData):Prop where
 ex:∃ (oc:Value) (od:Option Addr) (kV doc pm:Value) (an:Option Addr) (cdv ct:Value) (osl:Array (Option Value)),
  fd=PySem.W.fnOf x qual (defArgs st) (defBody st) (defScope st) .none kV doc pm an cdv ct∧K.lookup f=some ⟨oc,od,.func fd,osl⟩∧PySem.W.codeIn K cdv qual=true
 kp:PySem.W.keepIn K (.ref f)=true
section
variable {P:Program}{w:World}{K:PySem.W.Frag}{mg:Str→Option Value}{base:Heap}
theorem Fun.ok {x qual:Str}{st:Stmt}{f:Addr}{fd:FuncData}{N ps:List Str}{k:Nat}{sp:Sp}{cm:Bool} (F:Fun K x qual st f fd) (S:FnScope N ps (defScope st)) (len:∀ vs H Q E,sp vs H Q E→vs.length=ps.length)
  (hbody:∀ (cdv:Value) (A:Around) (outer:List Env) (s:Shared) (H:Hp) (vs:List V) (Q:VK) (E:XK),Room k (A.deeper (envOfC qual (defScope st) s.heap.objs.size f cdv)) cm→sp vs H Q E →
   ∃ t,PSs (cxOf CX0 P w K mg base N qual (defScope st) f cdv A outer s H E cm).nox (defBody st) t∧t { nx:=fun _ H'=>Q .non H',rt:=Q } (start N vs) H):FnOk P w K mg base CX0 (k + 1) f fd ps sp cm:=by
 obtain ⟨oc,od,kV,doc,pm,an,cdv,ct,osl,rfl,lk,hcd⟩:=F.ex
 refine fn_of lk hcd S len fun A outer s H vs Q E hr hsp=>?_
 obtain ⟨t,h,q⟩:=hbody cdv A outer s H vs Q E hr hsp
 exact ⟨t,h.nox,q⟩
theorem Fun.binds {x qual:Str}{st:Stmt}{f:Addr}{fd:FuncData}{ps:List Str} (F:Fun K x qual st f fd)
  (h:∀ (kV doc pm:Value) (an:Option Addr) (cdv ct:Value) (us:List Value),us.length=ps.length→bindArgs (PySem.W.fnOf x qual (defArgs st) (defBody st) (defScope st) .none kV doc pm an cdv ct) ⟨us,[]⟩=pure (ps.zip us)):Binds K fd ps []:=by
 obtain ⟨oc,od,kV,doc,pm,an,cdv,ct,osl,rfl,lk,hcd⟩:=F.ex
 exact .all (h kV doc pm an cdv ct)
theorem fun_mk {x qual:Str}{st:Stmt}{f:Addr}{oc:Value}{od an:Option Addr}{osl:Array (Option Value)}{kV doc pm cdv ct:Value} (l:K.lookup f=some ⟨oc,od,.func (PySem.W.fnOf x qual (defArgs st) (defBody st) (defScope st) .none kV doc pm an cdv ct),osl⟩)
  (c:PySem.W.codeIn K cdv qual=true) (k:PySem.W.keepIn K (.ref f)=true):Fun K x qual st f (PySem.W.fnOf x qual (defArgs st) (defBody st) (defScope st) .none kV doc pm an cdv ct):=⟨⟨oc,od,kV,doc,pm,an,cdv,ct,osl,rfl,l,c⟩,k⟩
end
theorem hu_of {A:Around}{k:Nat}{cm:Bool} (hr:Room k A cm):A.units + 1 < cLine:=Nat.lt_of_le_of_lt (Nat.add_le_add_left (by decide:1≤64) _) hr.units
theorem small1000 {n:Nat} (h:n≤1000):n < sizeLine:=Nat.lt_of_le_of_lt h (by decide)
theorem iteF {A B:Prop} (h:B):if false=true then A else B:=by
 rw [if_neg Bool.false_ne_true]
 exact h
theorem iteT {A B:Prop} (h:A):if true=true then A else B:=by
 rw [if_pos rfl]
 exact h
def Same (H H':Hp):Prop:=∀ b o,H b=some o→H' b=some o
theorem Same.refl (H:Hp):Same H H:=fun _ _ h=>h
theorem Same.trans {H H1 H2:Hp} (a:Same H H1) (b:Same H1 H2):Same H H2:=fun c o h=>b c o (a c o h)
theorem Same.free {H H':Hp} (e:Same H H') {l:Addr} (h:H' l=Option.none):H l=Option.none:=by
 cases q:H l with
 | none=>rfl
 | some o=>
  rw [e l o q] at h
  cases h
section
variable {X:Cx}
theorem call_lenD:CallR X (.builtin "len") (fun xs H Q=>∃ a kvs,xs=[V.ref a]∧H a=some (.dK kvs)∧Q (.int kvs.length) H):=by
 intro pins s σ H xs us Q I r h
 obtain ⟨a,kvs,rfl,ha,q⟩:=h
 obtain ⟨u,rfl,ru⟩:=vals1 r
 cases ru
 exact d_len I (.inl ha) fun t s' I'=>⟨.int kvs.length,H,I',⟨t,rfl⟩,q⟩
end
def ExcO (a:Addr) (cls:Value) (de:Option Addr):HO:=.ext fun h=>∃ oe,h.get? a=some oe∧oe.cls=cls∧(∀ dx,de=some dx→oe.dict=some dx∧PySem.W.notCls oe=true)
theorem excO_ok {P:Program}{w:World}{H:Hp}{h:Heap}{a:Addr}{cls:Value}{de:Option Addr}{oe:Obj} (e:h.get? a=some oe) (c:oe.cls=cls) (d:∀ dx,de=some dx→oe.dict=some dx∧PySem.W.notCls oe=true):ObjOk P w H h a (ExcO a cls de):=
 ⟨⟨oe,e,c,d⟩,⟨oe,e⟩,fun _ _ ⟨o,q,z⟩ k=>⟨o,k o q,z⟩⟩
theorem excO_get {P:Program}{w:World}{H:Hp}{h:Heap}{a:Addr}{cls:Value}{de:Option Addr} (x:HOk P w H h) (e:H a=some (ExcO a cls de)):∃ oe,h.get? a=some oe∧oe.cls=cls:=let ⟨oe,a,b,_⟩:=(x a _ e).1;⟨oe,a,b⟩
def ExcF (ob:Obj) (a:Addr) (cls:Value) (de:Option Addr):HO:=.frz ob (ExcO a cls de)
theorem excF_get {P:Program}{w:World}{H:Hp}{h:Heap}{a:Addr}{ob:Obj}{cls:Value}{de:Option Addr} (x:HOk P w H h) (e:H a=some (ExcF ob a cls de)):∃ oe,h.get? a=some oe∧oe.cls=cls:=let ⟨oe,a,b,_⟩:=(x a _ e).2.1;⟨oe,a,b⟩
def slotM (n:Nat) (t:Tok):Str→Option Value:=fun y=>if y="slot" then some (.int n t) else none
def XdO (dx:Addr) (n:Nat):HO:=.ext fun h=>∃ t,h.Ns1 dx (slotM n t)
theorem xdO_ok {P:Program}{w:World}{H:Hp}{h:Heap}{dx:Addr}{n:Nat}{t:Tok} (e:h.Ns1 dx (slotM n t)):ObjOk P w H h dx (XdO dx n):=
 ⟨⟨t,e⟩,let ⟨o,_,_,q,_⟩:=e;⟨o,q⟩,fun _ _ ⟨t,e⟩ k=>⟨t,e.at k⟩⟩
def fld2 (o:Obj):Option Value:=match o.data with
 | .fields vs=>vs[2]?
 | _=>none
def DK {α:Type}:Sem α→Prop
 | .pure _=>True
 | .raise _=>True
 | .unsupported _=>True
 | .finish _=>True
 | .rule _ k=>DK (k ())
 | .at _ k=>DK (k ())
 | .load _ _ k=>∀ o,DK (k o)
 | .update _ _ f k=>(∀ o,(f o).dict=o.dict∧fld2 (f o)=fld2 o)∧DK (k ())
 | .alloc _ k=>∀ a,DK (k a)
 | .stack k=>∀ l,DK (k l)
 | _=>False
def Kd (h h':Heap):Prop:=∀ (a:Nat) (o:Obj),h.objs[a]? = some o→∃ o',h'.objs[a]? = some o'∧o'.dict=o.dict∧fld2 o'=fld2 o
theorem Kd.refl (h:Heap):Kd h h:=fun a o e=>⟨o,e,rfl,rfl⟩
theorem Kd.trans {h h1 h2:Heap} (x:Kd h h1) (y:Kd h1 h2):Kd h h2:=fun a o e=>by
 obtain ⟨o1,e1,d1,f1⟩:=x a o e
 obtain ⟨o2,e2,d2,f2⟩:=y a o1 e1
 exact ⟨o2,e2,d2.trans d1,f2.trans f1⟩
theorem Kd.push (h:Heap) (o:Obj):Kd h (h.push o):=fun a u e=>by
 obtain ⟨objs,l⟩:=h
 refine ⟨u,?_,rfl,rfl⟩
 show (objs.push o)[a]? = some u
 have lt:a < objs.size:=(Array.getElem?_eq_some_iff.mp e).1
 rw [Array.getElem?_push_lt lt]
 rw [Array.getElem?_eq_getElem lt] at e
 exact e
theorem Kd.update (h:Heap) (b:Addr) {f:Obj→Obj} (hf:∀ o,(f o).dict=o.dict∧fld2 (f o)=fld2 o):Kd h (h.update b f):=fun a u e=>by
 obtain ⟨objs,l⟩:=h
 show ∃ o',(objs.modify b f)[a]? = some o'∧_
 have e:objs[a]? = some u:=e
 rw [Array.getElem?_modify,e]
 split
 ·exact ⟨f u,rfl,hf u⟩
 ·exact ⟨u,rfl,rfl,rfl⟩
theorem Kd.at {h h':Heap} (k:Kd h h') {a:Addr}{o o':Obj} (e:h.get? a=some o) (e':h'.get? a=some o'):o'.dict=o.dict∧fld2 o'=fld2 o:=by
 have raw:∀ {h:Heap}{o:Obj},h.get? a=some o→h.objs[a]? = some o:=fun {h o} e=>by
  unfold Heap.get? at e
  split at e
  ·cases e
  ·exact e
 obtain ⟨u,q,d⟩:=k a o (raw e)
 rw [raw e'] at q
 cases q
 exact d
section
variable {α β:Type}{M:Model}
theorem wp_dk {Γ:PySem.Ctx}{h0:Heap}:∀ (t:Sem α) {Q:α→Pos→Shared→Prop}{E:Value→Pos→Shared→Prop}{p:Pos}{s:Shared},DK t→Kd h0 s.heap→Sem.wp M Γ t Q E p s→Sem.wp M Γ t (fun a p' s'=>Q a p' s'∧Kd h0 s'.heap) (fun e p' s'=>E e p' s'∧Kd h0 s'.heap) p s:=by
 intro t
 induction t with
 | pure a=>intro Q E p s d k h;exact ⟨h,k⟩
 | raise e=>intro Q E p s d k h;exact ⟨h,k⟩
 | unsupported w=>intro Q E p s d k h;exact h
 | finish e=>intro Q E p s d k h;exact h
 | rule tag f ih=>intro Q E p s d k h;exact ih () d k h
 | «at» pos f ih=>intro Q E p s d k h;exact ih () d k h
 | load a part f ih=>intro Q E p s d k h;obtain ⟨o,e,h⟩:=h;exact ⟨o,e,ih o (d o) k h⟩
 | update a part f g ih=>intro Q E p s d k h;exact ⟨h.1,ih () d.2 (k.trans (Kd.update _ _ d.1)) h.2⟩
 | alloc o f ih=>intro Q E p s d k h;exact ih _ (d _) (k.trans (Kd.push _ _)) h
 | stack f ih=>intro Q E p s d k h;exact ih _ (d _) k h
 | loadIfAlive=>intro Q E p s d;exact d.elim
 | point=>intro Q E p s d;exact d.elim
 | register=>intro Q E p s d;exact d.elim
 | fresh=>intro Q E p s d;exact d.elim
 | ask=>intro Q E p s d;exact d.elim
 | choose=>intro Q E p s d;exact d.elim
 | os=>intro Q E p s d;exact d.elim
 | call=>intro Q E p s d;exact d.elim
 | handled=>intro Q E p s d;exact d.elim
 | newGen=>intro Q E p s d;exact d.elim
 | genState=>intro Q E p s d;exact d.elim
 | resume=>intro Q E p s d;exact d.elim
 | yield=>intro Q E p s d;exact d.elim
 | fork=>intro Q E p s d;exact d.elim
 | thread=>intro Q E p s d;exact d.elim
 | await=>intro Q E p s d;exact d.elim
theorem wpAny_dk {A:Around}{t:Sem α}{Q:α→Shared→Prop}{E:Value→Shared→Prop}{s:Shared} (d:DK t) (h:wpAny M A t Q E s):wpAny M A t (fun a s'=>Q a s'∧Kd s.heap s'.heap) (fun e s'=>E e s'∧Kd s.heap s'.heap) s:=
 fun Γ p hΓ=>wp_dk t d (Kd.refl _) (h Γ p hΓ)
theorem DK.bind {f:α→Sem β}:∀ {m:Sem α},DK m→(∀ a,DK (f a))→DK (m >>= f):=by
 intro m
 show DK m→_→DK (Sem.bind m f)
 induction m with
 | pure a=>intro d h;exact h a
 | raise e=>intro d h;exact d
 | unsupported w=>intro d h;exact d
 | finish e=>intro d h;exact d
 | rule tag g ih=>intro d h;exact ih () d h
 | «at» pos g ih=>intro d h;exact ih () d h
 | load a part g ih=>intro d h o;exact ih o (d o) h
 | update a part f g ih=>intro d h;exact ⟨d.1,ih () d.2 h⟩
 | alloc o g ih=>intro d h a;exact ih a (d a) h
 | stack g ih=>intro d h l;exact ih l (d l) h
 | loadIfAlive=>intro d;exact d.elim
 | point=>intro d;exact d.elim
 | register=>intro d;exact d.elim
 | fresh=>intro d;exact d.elim
 | ask=>intro d;exact d.elim
 | choose=>intro d;exact d.elim
 | os=>intro d;exact d.elim
 | call=>intro d;exact d.elim
 | handled=>intro d;exact d.elim
 | newGen=>intro d;exact d.elim
 | genState=>intro d;exact d.elim
 | resume=>intro d;exact d.elim
 | yield=>intro d;exact d.elim
 | fork=>intro d;exact d.elim
 | thread=>intro d;exact d.elim
 | await=>intro d;exact d.elim
end
theorem dk_load (a:Addr):DK (load a):=fun _=>trivial
theorem dk_fieldsOf (v:Value):DK (fieldsOf v):=by
 unfold fieldsOf
 split
 ·refine (dk_load _).bind fun o=>?_
  split <;> trivial
 ·trivial
theorem dk_field (v:Value) (i:Nat):DK (field v i):=by
 unfold field
 refine (dk_fieldsOf v).bind fun o=>?_
 split <;> trivial
theorem dk_setField (v:Value) (i:Nat) (x:Value) (hi:i≠2):DK (setField v i x):=by
 unfold setField
 split
 ·unfold updateField
  refine (dk_load _).bind fun o=>?_
  split
  ·split
   ·refine ⟨fun o=>?_,trivial⟩
    obtain ⟨c,d,dt,sl⟩:=o
    cases dt with
    | fields vs=>exact ⟨rfl,by show (vs.setIfInBounds i x)[2]? = vs[2]?;rw [Array.getElem?_setIfInBounds_ne hi]⟩
    | _=>exact ⟨rfl,rfl⟩
   ·trivial
  ·trivial
 ·trivial
theorem dk_setFlight (e:Value) (f:Option Addr):DK (setFlight e f):=by
 unfold setFlight
 refine (dk_field e 1).bind fun tb=>?_
 split
 ·exact dk_setField _ _ _ (by decide)
 ·trivial
theorem dk_behind (env:Env) (outer:List Env):DK (behindIsImport env outer):=by
 unfold behindIsImport
 split
 ·trivial
 ·split
  ·trivial
  ·exact (dk_field _ _).bind fun _=>trivial
theorem dk_under:DK underTheClaimsCaller:=fun _=>trivial
theorem dk_kept (env:Env) (i:Bool) (l:List Env):DK (keptBack env i l):=by
 unfold keptBack
 split
 ·split
  ·trivial
  ·exact dk_under.bind fun _=>trivial
 ·trivial
theorem dk_ready:∀ l:List Env,DK (readyFrames l)
 | []=>trivial
 | env::outer=>by
  unfold readyFrames
  split
  ·refine (dk_load _).bind fun o=>?_
   split
   ·trivial
   ·refine (dk_behind _ _).bind fun _=>(dk_kept _ _ _).bind fun _=>?_
    exact ⟨fun _=>⟨rfl,rfl⟩,dk_ready outer⟩
  ·trivial
theorem dk_frameOf (env:Env):DK (PySem.frameOf env):=by
 unfold PySem.frameOf
 refine DK.bind (fun _=>trivial) fun l=>?_
 refine DK.bind ?_ fun r=>?_
 ·unfold frameObject
  split
  ·trivial
  ·exact (dk_ready _).bind fun _=>trivial
 ·split <;> trivial
theorem dk_place (f:Addr) (b:Bool):DK (entryPlaceOf f b):=by
 unfold entryPlaceOf
 refine DK.bind (fun _=>trivial) fun l=>?_
 split <;> trivial
theorem dk_entry (a b c d e:Value) (pl:List Value):DK (EntryCells.newEntry a b c d e pl):=by
 unfold EntryCells.newEntry newFields newObj
 dsimp only
 split <;> split <;> first | trivial | exact fun _=>trivial
theorem dk_note (e:Value) (env:Env):DK (noteFrame e env):=by
 unfold noteFrame
 split
 ·refine (dk_field e 1).bind fun head=>?_
  have rest:∀ f:Addr,DK (do setField e 1 (← EntryCells.newEntry head (← PySem.frameOf env) .none (rawInt f) .none (← entryPlaceOf f (head != .none)))):=fun f=>(dk_frameOf env).bind fun _=>(dk_place _ _).bind fun _=>(dk_entry _ _ _ _ _ _).bind fun _=>dk_setField _ _ _ (by decide)
  split
  ·refine (dk_field head 3).bind fun x=>?_
   split
   ·trivial
   ·exact (dk_setField _ _ _ (by decide)).bind fun _=>rest _
  ·exact rest _
 ·trivial
theorem dk_leaving (env:Env) (e:Value):DK (leaving env e):=(dk_note e env).bind fun _=>dk_setFlight e none
section
variable {P:Program}{w:World}{H:Hp}{h h':Heap}
theorem HOk.tracked (x:HOk P w H h) (k:∀ b u o,H b=some o→h.get? b=some u→h'.get? b=some u):HOk P w H h':=fun a o e=>
 (x a o e).stay (fun b u hb q=>hb.elim (fun z=>k b u o (by rw [z];exact e) q) fun z=>k b u _ z q) (fun _ z=>z) fun _ _ z=>z
theorem HOk.alive (x:HOk P w H h) {a:Addr}{o:HO} (e:H a=some o):∃ u,h.get? a=some u:=by
 have q:=x a o e
 cases o with
 | lst xs=>obtain ⟨_,_,_,_,e⟩:=q;exact ⟨_,e⟩
 | tup xs=>obtain ⟨_,_,_,ob,e,_⟩:=q;exact ⟨_,e⟩
 | dK kvs=>obtain ⟨_,_,_,_,ob,_,_,e,_⟩:=q;exact ⟨_,e⟩
 | dT kvs=>obtain ⟨_,_,_,_,ob,_,_,e,_⟩:=q;exact ⟨_,e⟩
 | set S n=>obtain ⟨ob,_,_,_,e,_⟩:=q;exact ⟨_,e⟩
 | ins C dx fs=>obtain ⟨_,_,_,e,_⟩:=q;exact ⟨_,e⟩
 | own y=>exact q
 | xd fs=>obtain ⟨_,⟨_,_,_,e,_⟩,_⟩:=q;exact ⟨_,e⟩
 | rng lo hi=>obtain ⟨_,_,_,e⟩:=q;exact ⟨_,e⟩
 | frz ob u=>exact ⟨_,q.1⟩
 | tbl ps=>exact ⟨_,(show h.get? a=some _ from q)⟩
 | met f y=>exact ⟨_,(show h.get? a=some _ from q)⟩
 | ext φ=>exact q.2.1
end
def PayD (h:Heap) (H:Hp) (nw:Addr→Prop) (e:Addr):Option Addr→Prop
 | none=>True
 | some n=>∃ oe dx t,h.get? e=some oe∧oe.dict=some dx∧h.Ns1 dx (slotM n t)∧H dx=none∧nw dx
def PayOk (h:Heap) (H:Hp) (nw:Addr→Prop) (e:Addr) (pay:Option Addr):Prop:=(∃ oe,h.get? e=some oe∧fld2 oe=some .none)∧PayD h H nw e pay
theorem PayOk.keep {h h':Heap}{H:Hp}{nw nw':Addr→Prop}{e:Addr}{pay:Option Addr} (x:PayOk h H nw e pay) (kd:Kd h h') (he:∃ o,h'.get? e=some o) (st:∀ b o,h.get? b=some o→(∀ vs,o.data≠.fields vs)→∃ sl,h'.get? b=some { o with slots:=sl }) (hn:∀ a,nw a→nw' a):PayOk h' H nw' e pay:=by
 obtain ⟨⟨o0,g1,g2⟩,x⟩:=x
 obtain ⟨oe',he⟩:=he
 refine ⟨⟨oe',he,(kd.at g1 he).2.trans g2⟩,?_⟩
 cases pay with
 | none=>trivial
 | some n=>
  obtain ⟨oe,dx,t,h1,h2,⟨o,es,ep,q1,q2,q3⟩,h4,h5⟩:=x
  obtain ⟨sl,q4⟩:=st dx o q1 fun vs z=>by rw [q2] at z;cases z
  exact ⟨oe',dx,t,he,(kd.at h1 he).1.trans h2,⟨_,es,ep,q4,q2,q3⟩,h4,hn dx h5⟩
theorem PayOk.imp {h:Heap}{H:Hp}{nw nw':Addr→Prop}{e:Addr}{pay:Option Addr} (x:PayOk h H nw e pay) (hn:∀ a,nw a→nw' a):PayOk h H nw' e pay:=by
 obtain ⟨g,x⟩:=x
 refine ⟨g,?_⟩
 cases pay with
 | none=>trivial
 | some n=>
  obtain ⟨oe,dx,t,h1,h2,h3,h4,h5⟩:=x
  exact ⟨oe,dx,t,h1,h2,h3,h4,hn dx h5⟩
structure FlyT (h:Heap) (H:Hp) (h0:Heap) (e:Addr) (cls:Value) (pay:Option Addr):Prop where
 py:PayOk h H (fun a=>h0.get? a=none) e pay
 nw:h0.get? e=none
 fr:H e=none
 ob:∃ oe vs a0 T oT ts,h.get? e=some oe∧oe.cls=cls∧vs[0]? = some a0∧oe.data=.fields vs∧vs[1]? = some (.ref T)∧T≠e∧h0.get? T=none∧H T=none∧h.get? T=some oT∧oT.data=.fields ts∧ts[3]? = some .none
structure FlyN (h:Heap) (H:Hp) (h0:Heap) (e:Addr) (cls:Value) (pay:Option Addr):Prop where
 py:PayOk h H (fun a=>h0.get? a=none) e pay
 nw:h0.get? e=none
 fr:H e=none
 ob:∃ oe vs a0,h.get? e=some oe∧oe.cls=cls∧vs[0]? = some a0∧oe.data=.fields vs∧vs[1]? = some .none
structure FlyH (h:Heap) (H:Hp) (h0:Heap) (L e:Addr) (cls:Value) (pay:Option Addr):Prop where
 py:PayOk h H (fun a=>h0.get? a=none) e pay
 nw:h0.get? e=none
 fr:H e=none
 ob:∃ oe vs a0 T oT ts,h.get? e=some oe∧oe.cls=cls∧vs[0]? = some a0∧oe.data=.fields vs∧vs[1]? = some (.ref T)∧T≠e∧h0.get? T=none∧H T=none∧h.get? T=some oT∧oT.data=.fields ts∧ts[3]? = some (rawInt L)
def Fly (h:Heap) (H:Hp) (h0:Heap) (L e:Addr) (cls:Value) (pay:Option Addr):Prop:=FlyN h H h0 e cls pay∨FlyT h H h0 e cls pay∨FlyH h H h0 L e cls pay
def CXE (P:Program) (w:World):CXT:=fun outer H s E e s'=>∃ a H' cls pay,e=.ref a∧s'.os=s.os∧AllBare s'.gens∧Un (frs outer) [] H H' s.heap s'.heap∧HOk P w H' s'.heap∧FlyT s'.heap H' s.heap a cls pay∧E cls pay H'
theorem Un.dead {fs:List Addr}{H H':Hp}{h h':Heap} (u:Un fs [] H H' h h') {a:Addr} (n:h'.get? a=none):h.get? a=none:=by
 cases q:h.get? a with
 | none=>rfl
 | some o=>
  obtain ⟨o',e⟩:=u.there a o q (by simp)
  rw [n] at e;cases e
theorem leave_exc {P:Program}{w:World}{K:PySem.W.Frag}{mg:Str→Option Value}{base:Heap}{N:List Str}{qual:Str}{scope:Scope}{f:Addr}{cd:Value}{A:Around}{outer:List Env}{s0 s:Shared}{H0 H:Hp}{E:XK}{pins:List (Addr×Obj)}{σ:St}{e:Addr}{cls:Value}{pay:Option Addr}
  (I:Inv (cxOf (CXE P w) P w K mg base N qual scope f cd A outer s0 H0 E) pins σ H s) (fl:Fly s.heap H s0.heap (cxOf (CXE P w) P w K mg base N qual scope f cd A outer s0 H0 E).env.locals e cls pay) (hE:E cls pay H) :
  (cxOf (CXE P w) P w K mg base N qual scope f cd A outer s0 H0 E).xe (.ref e) s:=by
 generalize hX:cxOf (CXE P w) P w K mg base N qual scope f cd A outer s0 H0 E=X at I fl ⊢
 have hxe:X.xe=fun e s'=>wpAny (model P w) X.A (leaving X.env e) (fun _ s''=>CXE P w outer H0 s0 E e s'') (fun e' s''=>CXE P w outer H0 s0 E e' s'') s':=by rw [← hX];rfl
 have hst:X.stack=X.env::outer:=by rw [← hX];rfl
 have hfr:X.A.frames=some (X.env::outer):=by rw [← hst];exact I.ok.frames
 have hf:X.env.frame=some X.env.locals:=by rw [← hX];rfl
 have hl:=I.stack
 rw [hst] at hl
 have u:Un (frs outer) [] H0 H s0.heap s.heap:=by
  have:=I.base
  rw [← hX] at this
  exact this
 have hos:s.os=s0.os:=by
  have:=I.os
  rw [← hX] at this
  exact this
 have hok:HOk P w H s.heap:=by
  have:=I.hok
  rw [← hX] at this
  exact this
 have free:=I.stkFree
 rw [hst] at free
 have lf:∀ b,b∈frs (X.env::outer)→(∃ o,s.heap.get? b=some o∧∀ vs,o.data≠.fields vs):=fun b m=>(hl.mem m).2
 have fnw:s0.heap.get? e=none:=fl.elim (·.nw) fun z=>z.elim (·.nw) (·.nw)
 have ffr:H e=none:=fl.elim (·.fr) fun z=>z.elim (·.fr) (·.fr)
 have fpy:PayOk s.heap H (fun a=>s0.heap.get? a=none) e pay:=fl.elim (·.py) fun z=>z.elim (·.py) (·.py)
 rw [hxe]
 dsimp only
 have fin:∀ (xs:List Addr) (h':Heap),(∀ x∈xs,s0.heap.get? x=none∧H x=none)→(∃ a0,Heap.LeftW (PySem.W.hideAll s.heap (frs (X.env::outer)++xs)) (X.env::outer) e cls a0 s.heap h')→e∈xs→Kd s.heap h'→CXE P w outer H0 s0 E (.ref e) { s with heap:=h' }:=fun xs h' hxs hL mex kd=>by
  obtain ⟨a0,k1,k2,k3,k4⟩:=hL
  have stay:∀ b o,s.heap.get? b=some o→b∉frs (X.env::outer)→b∉xs→h'.get? b=some o:=fun b o q n1 n2=>k1 b o (PySem.W.hideAll_get _ q fun m=>(List.mem_append.mp m).elim n1 n2)
  have nx:∀ b o,s0.heap.get? b=some o→b∉xs:=fun b o q m=>by rw [(hxs b m).1] at q;cases q
  have nloc:∀ b o,s0.heap.get? b=some o→b≠X.env.locals:=fun b o q z=>by
   have h1:=I.ok.above
   have h2:X.s₀=s0:=by rw [← hX];rfl
   rw [h2,← z] at h1
   exact absurd (Heap.lt_size q) (Nat.not_lt.mpr h1)
  have nfr:∀ b o,s0.heap.get? b=some o→b∉frs outer→b∉frs (X.env::outer):=fun b o q n m=>by
   have m:b∈(X.env::outer).filterMap (·.frame):=m
   rw [List.filterMap_cons,hf] at m
   exact (List.mem_cons.mp m).elim (nloc b o q) n
  have sub:∀ b,b∈frs outer→b∈frs (X.env::outer):=fun b m=>by
   show b∈(X.env::outer).filterMap (·.frame)
   rw [List.filterMap_cons,hf]
   exact List.mem_cons_of_mem _ m
  refine ⟨e,H,cls,pay,rfl,hos,I.bare,⟨fun b o q n nf _=>?_,fun b o q n m _=>?_,u.free,fun b o q _=>?_,u.tups,u.frzs,u.tbls⟩,hok.tracked fun b v o hb q=>?_,⟨fpy.keep kd (by obtain ⟨oe,vs,T,oT,ts,r1,_⟩:=k3;exact ⟨oe,r1⟩) k4 fun _ z=>z,fnw,ffr,?_⟩,hE⟩
  ·exact stay b o (u.keep b o q n nf (by simp)) (nfr b o q nf) (nx b o q)
  ·obtain ⟨sl,q2⟩:=u.slot b o q n m (by simp)
   obtain ⟨o2,q3,q4⟩:=lf b (sub b m)
   rw [q2] at q3
   cases q3
   obtain ⟨sl',q5⟩:=k4 b _ q2 q4
   exact ⟨sl',q5⟩
  ·obtain ⟨o',q2⟩:=u.there b o q (by simp)
   by_cases m:b∈frs (X.env::outer)
   ·obtain ⟨o2,q3,q4⟩:=lf b m
    rw [q2] at q3
    cases q3
    obtain ⟨sl',q5⟩:=k4 b _ q2 q4
    exact ⟨_,q5⟩
   ·exact ⟨o',stay b o' q2 m (nx b o q)⟩
  ·refine stay b v q (fun m=>?_) fun m=>?_
   ·rw [free b m] at hb;cases hb
   ·rw [(hxs b m).2] at hb;cases hb
  ·obtain ⟨oe,vs,T,oT,ts,r1,⟨r2,r0⟩,r3,r4,r5,r6,r7,r8,r9⟩:=k3
   refine ⟨oe,vs,a0,T,oT,ts,r1,r2,r0,r3,r4,r6,?_,?_,r7,r8,r9⟩
   ·cases q:s0.heap.get? T with
    | none=>rfl
    | some o=>
     exfalso
     obtain ⟨o',q2⟩:=u.there T o q (by simp)
     by_cases m:T∈frs (X.env::outer)
     ·obtain ⟨o2,q3,q4⟩:=(k2.mem m).2
      rw [r7] at q3
      cases q3
      exact q4 ts r8
     ·have:=PySem.W.hideAll_get (frs (X.env::outer)++xs) q2 fun z=>(List.mem_append.mp z).elim m (nx T o q)
      rw [r5] at this;cases this
   ·cases q:H T with
    | none=>rfl
    | some o=>
     exfalso
     obtain ⟨v,q2⟩:=hok.alive q
     have:=PySem.W.hideAll_get (frs (X.env::outer)++xs) q2 fun z=>(List.mem_append.mp z).elim (fun m=>by rw [free T m] at q;cases q) fun m=>by rw [(hxs T m).2] at q;cases q
     rw [r5] at this;cases this
 have hide:∀ xs:List Addr,s.heap.FunFrames (PySem.W.hideAll s.heap (frs (X.env::outer)++xs)) (X.env::outer):=fun xs=>PySem.W.funFrames_hide hl fun env' he a ha=>List.mem_append_left _ (List.mem_filterMap.mpr ⟨env',he,ha⟩)
 rcases fl with fl | fl | fl
 ·obtain ⟨oe,vs,a0,h1,h2,h0,h3,h5⟩:=fl.ob
  refine wpAny_mono (wpAny_dk (dk_leaving _ _) (wpAny_leaving_firstW (Q:=fun _ s''=>∃ h',s''={ s with heap:=h' }∧Heap.LeftW (PySem.W.hideAll s.heap (frs (X.env::outer)++[e])) (X.env::outer) e oe.cls a0 s.heap h') (E:=fun _ _=>False) (base:=PySem.W.hideAll s.heap (frs (X.env::outer)++[e])) hfr (hide _) hf h1 (fun b o q=>PySem.W.of_hideAll _ q) (PySem.W.hideAll_none _ (by simp)) h3 h5 h0 fun h' hL=>⟨h',rfl,hL⟩)) (fun _ s'' ⟨⟨h',eh,hL⟩,kd⟩=>?_) fun _ _ z=>z.1.elim
  subst eh
  rw [h2] at hL
  exact fin [e] h' (fun x m=>by rw [List.mem_singleton.mp m];exact ⟨fnw,ffr⟩) ⟨a0,hL⟩ (by simp) kd
 ·obtain ⟨oe,vs,a0,T,oT,ts,h1,h2,h0,h3,t1,t2,t3,t4,t5,t6,t7⟩:=fl.ob
  refine wpAny_mono (wpAny_dk (dk_leaving _ _) (wpAny_leaving_nextW (Q:=fun _ s''=>∃ h',s''={ s with heap:=h' }∧Heap.LeftW (PySem.W.hideAll s.heap (frs (X.env::outer)++[e,T])) (X.env::outer) e cls a0 s.heap h') (E:=fun _ _=>False) (base:=PySem.W.hideAll s.heap (frs (X.env::outer)++[e,T])) (cls:=cls) (a0:=a0) hfr (hide _) hf ⟨oe,vs,T,oT,ts,h1,⟨h2,h0⟩,h3,t1,PySem.W.hideAll_none _ (by simp),t2,t5,t6,t7⟩ (fun b o q=>PySem.W.of_hideAll _ q) (PySem.W.hideAll_none _ (by simp)) fun h' hL=>⟨h',rfl,hL⟩)) (fun _ s'' ⟨⟨h',eh,hL⟩,kd⟩=>?_) fun _ _ z=>z.1.elim
  subst eh
  refine fin [e,T] h' (fun x m=>?_) ⟨a0,hL⟩ (by simp) kd
  rcases List.mem_cons.mp m with z | z
  ·rw [z];exact ⟨fnw,ffr⟩
  ·rw [List.mem_singleton.mp z];exact ⟨t3,t4⟩
 ·obtain ⟨oe,vs,a0,T,oT,ts,h1,h2,h0,h3,t1,t2,t3,t4,t5,t6,t7⟩:=fl.ob
  have held:Heap.HeldW (PySem.W.hideAll s.heap (frs (X.env::outer)++[e,T])) (X.env::outer) e cls a0 X.env.locals s.heap:=⟨fun b o q=>PySem.W.of_hideAll _ q,PySem.W.hideAll_none _ (by simp),hide _,oe,vs,T,oT,ts,h1,⟨h2,h0⟩,h3,t1,PySem.W.hideAll_none _ (by simp),t2,t5,t6,t7⟩
  have key:wpAny (model P w) X.A (leaving X.env (.ref e)) (fun _ s''=>∃ h',s''={ s with heap:=h' }∧Heap.LeftW (PySem.W.hideAll s.heap (frs (X.env::outer)++[e,T])) (X.env::outer) e cls a0 s.heap h') (fun _ _=>False) s:=by
   unfold leaving
   refine wpAny_bind (wpAny_noteFrame_againW hf held.2.2.2 ?_)
   exact wpAny_landsW held fun h' ⟨k1,k2,k3,k4⟩ up=>⟨h',rfl,k1,k3,k4,up⟩
  refine wpAny_mono (wpAny_dk (dk_leaving _ _) key) (fun _ s'' ⟨⟨h',eh,hL⟩,kd⟩=>?_) fun _ _ z=>z.1.elim
  subst eh
  refine fin [e,T] h' (fun x m=>?_) ⟨a0,hL⟩ (by simp) kd
  rcases List.mem_cons.mp m with z | z
  ·rw [z];exact ⟨fnw,ffr⟩
  ·rw [List.mem_singleton.mp z];exact ⟨t3,t4⟩
abbrev XS:=Value→Option Addr→St→Hp→Prop
def ThrowsN (X:Cx) (E:XS):Prop:=∀ (pins:List (Addr×Obj)) (σ:St) (H:Hp) (s:Shared) (e:Addr) (cls:Value) (pay:Option Addr),Inv X pins σ H s→FlyN s.heap H X.s₀.heap e cls pay→E cls pay σ H→X.xe (.ref e) s
theorem throwsN_def {P:Program}{w:World}{K:PySem.W.Frag}{mg:Str→Option Value}{base:Heap}{N:List Str}{qual:Str}{scope:Scope}{f:Addr}{cd:Value}{A:Around}{outer:List Env}{s0:Shared}{H0:Hp}{E:XK} :
  ThrowsN (cxOf (CXE P w) P w K mg base N qual scope f cd A outer s0 H0 E) (fun cls pay _ H=>E cls pay H):=fun pins σ H s e cls pay I fl hE=>leave_exc I (.inl fl) hE
structure ExcCls (K:PySem.W.Frag) (C:Addr):Prop where
 ex:∃ B newId initId bmB bm N nm qn bs hdct sn sub ab col dd k0 k1 k2 k3 k5,ExcBaseFacts B newId initId bmB∧K.lookup C=some (excClassObj nm qn C N bs bm hdct sn sub ab col dd k0 k1 k2 k3 k5 newId) ∧
  PySem.W.nsOkIn K N=true∧PySem.W.nsIn K N "__init__"=some none∧PySem.W.tailIn K bmB bm=true
def tRaise (C:Addr) (E:XS) (t:TA):TS:=fun _ σ H=>t σ H fun vs H1=>vs.length≤sizeLine∧E (.ref C) none σ H1
section
variable {X:Cx}{x:Str}{C:Addr}{np cpos pos:Pos}{e:Expr}{es:List Expr}{t:TA}{E:XS}
theorem ps_raise (hc:X.calm=true) (hx:X.ex=[]) (th:ThrowsN X E) (cl:ExcCls X.K C) (hg:Gl X x) (hm:X.mg x=some (.ref C)) (ha:PA X (e::es) t) (hdb:(x == ("__debug__":Str))=false:=by decide)
  (he:starEach (e::es) X.env=(false,eval e X.env)::starEach es X.env:=by rfl) (hpl:(backTo cpos (starEach es X.env)).any (·.1)=false:=by rfl) :
  PS X (.Raise (some (.Call (.Name x np) (e::es) [] cpos)) none pos) (tRaise C E t):=by
 intro pins s σ H D I h
 obtain ⟨B,newId,initId,bmB,bm,N,nm,qn,bs,hdct,sn,sub,ab,col,dd,k0,k1,k2,k3,k5,FB,hl,n1,n2,n3⟩:=cl.ex
 have hh:X.A.handled=none:=I.ok.hd hc
 have KI:=I.ok.mod.kin
 have hC:=KI _ _ hl
 have hN:=Heap.Ns.of_isNs (PySem.W.isNs_of_in KI n1)
 have hni:=PySem.W.nsMap_none_of_in KI n1 n2
 have T:=PySem.W.tail_of_in KI n3
 refine wpAny_Raise_call_subT (C:=C) (nm:=nm) (q:=qn) (N:=N) (bs:=bs) (bm:=bm) (hdct:=hdct) (sn:=sn) (sub:=sub) (ab:=ab) (col:=col) (dd:=dd) (k0:=k0) (k1:=k1) (k2:=k2) (k3:=k3) (k5:=k5)
  FB (T.hasType FB.hasBase) hh (by rw [he];show (false||(backTo cpos (starEach es X.env)).any (·.1))=false;rw [hpl];rfl) hni (ld_glob I hg hm ⟨rfl,?_⟩ hdb)
 have key:=ha cpos pins s σ H _ I h
 rw [he] at key ⊢
 refine Calls.evalArgs_plain (wpAny_mono key (fun us s1 hq=>?_) fun _ _ y=>y)
 obtain ⟨vs,H1,I1,r,hz,q1⟩:=hq
 refine ⟨rfl,by rw [← r.length];exact hz,I1.bk _ _ hC,hN.keeps I1.bk,T.keeps I1.bk,fun h' e' hm'=>?_⟩
 have I2:Inv X pins σ H1 { s1 with heap:=h' }:=I1.kept (t':=s1.toks) hm'.keeps
 refine th pins σ H1 _ e' (.ref C) none I2 ⟨⟨?_,trivial⟩,?_,?_,?_⟩ q1
 ·obtain ⟨tp,z,_,_⟩:=hm'.there
  exact ⟨_,z,rfl⟩
 ·have u:=I1.base
  rw [hx] at u
  exact u.dead hm'.new
 ·cases qq:H1 e' with
  | none=>rfl
  | some o=>
   obtain ⟨v,z⟩:=I1.hok.alive qq
   rw [hm'.new] at z;cases z
 ·obtain ⟨tp,z,_,_⟩:=hm'.there
  exact ⟨_,_,_,z,rfl,rfl,rfl,rfl⟩
end
section
variable {X:Cx}{pins:List (Addr×Obj)}{σ:St}{H:Hp}{s:Shared}{h':Heap}
theorem Inv.slots (I:Inv X pins σ H s) (xs:List Addr) (stay:∀ b o,s.heap.get? b=some o→b∉frs X.stack→b∉xs→h'.get? b=some o) (slot:∀ b o,s.heap.get? b=some o→b∈frs X.stack→∃ sl,h'.get? b=some { o with slots:=sl })
  (hxs:∀ x∈xs,X.s₀.heap.get? x=none∧H x=none∧x≠X.env.locals∧(∀ y c,X.env.cells.lookup y=some c→c≠x)∧∀ p∈X.pn++pins,p.1≠x):Inv X pins σ H { s with heap:=h' }:=by
 have any:∀ b o,s.heap.get? b=some o→b∉xs→∃ sl,h'.get? b=some { o with slots:=sl }:=fun b o q n=>by
  by_cases m:b∈frs X.stack
  ·exact slot b o q m
  ·exact ⟨o.slots,stay b o q m n⟩
 have out:∀ b,b≠X.env.locals→b∉X.fs→b∉frs X.stack:=fun b n1 n2 m=>(List.mem_cons.mp (I.stkSub b m)).elim n1 n2
 have neL:∀ b o,X.s₀.heap.get? b=some o→b≠X.env.locals:=fun b o e=>Nat.ne_of_lt (Nat.lt_of_lt_of_le (Heap.lt_size e) I.ok.above)
 have neX:∀ b o,X.s₀.heap.get? b=some o→b∉xs:=fun b o e m=>by rw [(hxs b m).1] at e;cases e
 have cellK:∀ x c,X.env.cells.lookup x=some c→∀ v,s.heap.IsCell c v→h'.IsCell c v:=fun x c e v ⟨o,ho,hd⟩=>by
  obtain ⟨sl,q⟩:=any c o ho fun z=>(hxs c z).2.2.2.1 x c e rfl
  exact ⟨_,q,hd⟩
 refine ⟨I.ok,I.os,I.bare,⟨fun b o e n hb hx=>?_,fun b o e n hb hx=>?_,I.base.free,fun b o e hx=>?_,I.base.tups,I.base.frzs,I.base.tbls⟩,?_,fun x c e=>?_,I.free,I.freeC,fun p hp=>?_,I.hok.tracked fun b v o hb q=>?_,I.len,I.hq⟩
 ·exact stay b o (I.base.keep b o e n hb hx) (out b (neL b o e) hb) (neX b o e)
 ·obtain ⟨sl,e1⟩:=I.base.slot b o e n hb hx
  obtain ⟨sl',e2⟩:=any b _ e1 (neX b o e)
  exact ⟨sl',e2⟩
 ·obtain ⟨o',e1⟩:=I.base.there b o e hx
  obtain ⟨sl,e2⟩:=any b o' e1 (neX b o e)
  exact ⟨_,e2⟩
 ·obtain ⟨m,⟨o,es,ep,ho,r⟩,hl⟩:=I.loc
  obtain ⟨sl,hL⟩:=any _ o ho fun z=>(hxs _ z).2.2.1 rfl
  refine ⟨m,⟨_,es,ep,hL,r⟩,fun i x v e1 e2 e3=>?_⟩
  obtain ⟨u,rr,l⟩:=hl i x v e1 e2 e3
  refine ⟨u,rr,?_⟩
  rcases l with l | ⟨k,c,e,z⟩
  ·exact .inl l
  ·exact .inr ⟨k,c,e,cellK x c e _ z⟩
 ·obtain ⟨v,z⟩:=I.cell x c e
  exact ⟨v,cellK x c e v z⟩
 ·obtain ⟨e,n,ne,nf,d⟩:=I.pin p hp
  exact ⟨stay p.1 p.2 e (out p.1 ne nf) fun z=>(hxs p.1 z).2.2.2.2 p hp rfl,n,ne,nf,d⟩
 ·refine stay b v q (fun m=>?_) fun m=>?_
  ·rw [I.stkFree b m] at hb;cases hb
  ·rw [(hxs b m).2.1] at hb;cases hb
theorem Inv.apart (I:Inv X pins σ H s) {x:Addr} (hx:X.ex=[]) (n:s.heap.get? x=none):X.s₀.heap.get? x=none∧x≠X.env.locals∧(∀ y c,X.env.cells.lookup y=some c→c≠x)∧∀ p∈X.pn++pins,p.1≠x:=by
 refine ⟨?_,fun z=>?_,fun y c e z=>?_,fun p hp z=>?_⟩
 ·have u:=I.base
  rw [hx] at u
  exact u.dead n
 ·obtain ⟨m,⟨o,_,_,ho,_⟩,_⟩:=I.loc
  rw [← z,n] at ho;cases ho
 ·obtain ⟨v,o,ho,_⟩:=I.cell y c e
  rw [z,n] at ho;cases ho
 ·have:=(I.pin p hp).1
  rw [z,n] at this;cases this
abbrev Apart (X:Cx) (pins:List (Addr×Obj)) (a:Addr):Prop:=X.s₀.heap.get? a=none∧a≠X.env.locals∧(∀ y c,X.env.cells.lookup y=some c→c≠a)∧∀ p∈X.pn++pins,p.1≠a
structure Landed (X:Cx) (pins:List (Addr×Obj)) (σ:St) (H:Hp) (e:Addr) (cls:Value) (pay:Option Addr) (s:Shared):Prop where
 py:PayOk s.heap H (Apart X pins) e pay
 inv:Inv X pins σ H s
 fr:H e=none
 ap:X.s₀.heap.get? e=none∧e≠X.env.locals∧(∀ y c,X.env.cells.lookup y=some c→c≠e)∧∀ p∈X.pn++pins,p.1≠e
 ob:∃ oe vs a0 T oT ts,s.heap.get? e=some oe∧oe.cls=cls∧vs[0]? = some a0∧oe.data=.fields vs∧vs[1]? = some (.ref T)∧T≠e∧H T=none∧(X.s₀.heap.get? T=none∧T≠X.env.locals∧(∀ y c,X.env.cells.lookup y=some c→c≠T)∧∀ p∈X.pn++pins,p.1≠T)∧s.heap.get? T=some oT∧oT.data=.fields ts∧(ts[3]? = some .none∨ts[3]? = some (rawInt X.env.locals))
end
section
variable {X:Cx}{pins:List (Addr×Obj)}{σ:St}{H:Hp}{s:Shared}{e:Addr}{cls:Value}{pay:Option Addr}{M:Model}{A':Around}{E':Value→Shared→Prop}
theorem landAt {xs:List Addr}{h':Heap}{a0 fl:Value} (I:Inv X pins σ H s) (hx:X.ex=[]) (fr:H e=none) (ap:X.s₀.heap.get? e=none∧e≠X.env.locals∧(∀ y c,X.env.cells.lookup y=some c→c≠e)∧∀ p∈X.pn++pins,p.1≠e) (mex:e∈xs)
  (hxs:∀ x∈xs,H x=none∧X.s₀.heap.get? x=none∧x≠X.env.locals∧(∀ y c,X.env.cells.lookup y=some c→c≠x)∧∀ p∈X.pn++pins,p.1≠x)
  (k1:(PySem.W.hideAll s.heap (frs X.stack++xs)).StaysIn h') (k3:h'.FunFrames (PySem.W.hideAll s.heap (frs X.stack++xs)) X.stack) (tr:h'.TracedAtW (PySem.W.hideAll s.heap (frs X.stack++xs)) e cls a0 fl) (hfl:fl=.none∨fl=rawInt X.env.locals) (up:s.heap.UpToSlots h') (py:PayOk s.heap H (Apart X pins) e pay) (kd:Kd s.heap h'):Landed X pins σ H e cls pay { s with heap:=h' }:=by
 obtain ⟨oe,vs,T,oT,ts,r1,⟨r2,r0⟩,r3,r4,r5,r6,r7,r8,r9⟩:=tr
 have stay:∀ b o,s.heap.get? b=some o→b∉frs X.stack→b∉xs→h'.get? b=some o:=fun b o q n1 n2=>k1 b o (PySem.W.hideAll_get _ q fun m=>(List.mem_append.mp m).elim n1 n2)
 have slot:∀ b o,s.heap.get? b=some o→b∈frs X.stack→∃ sl,h'.get? b=some { o with slots:=sl }:=fun b o q m=>by
  obtain ⟨_,o2,q3,q4⟩:=I.stack.mem m
  rw [q] at q3
  cases q3
  exact up b o q q4
 have J:Inv X pins σ H { s with heap:=h' }:=I.slots xs stay slot fun x m=>let ⟨a,b,c⟩:=hxs x m;⟨b,a,c⟩
 have tH:H T=none:=by
  cases q:H T with
  | none=>rfl
  | some o=>
   exfalso
   obtain ⟨v,q2⟩:=I.hok.alive q
   have:=PySem.W.hideAll_get (frs X.stack++xs) q2 fun z=>(List.mem_append.mp z).elim (fun m=>by rw [I.stkFree T m] at q;cases q) fun m=>by rw [(hxs T m).1] at q;cases q
   rw [r5] at this;cases this
 have tF:T∉frs X.stack:=fun m=>by
  obtain ⟨_,o2,q3,q4⟩:=k3.mem m
  rw [r7] at q3
  cases q3
  exact q4 ts r8
 have tA:X.s₀.heap.get? T=none∧T≠X.env.locals∧(∀ y c,X.env.cells.lookup y=some c→c≠T)∧∀ p∈X.pn++pins,p.1≠T:=by
  by_cases m:T∈xs
  ·exact (hxs T m).2
  ·have dead:s.heap.get? T=none:=by
    cases q:s.heap.get? T with
    | none=>rfl
    | some o=>
     have:=PySem.W.hideAll_get (frs X.stack++xs) q fun z=>(List.mem_append.mp z).elim tF m
     rw [r5] at this;cases this
   refine ⟨?_,fun z=>?_,fun y c e z=>?_,fun p hp z=>?_⟩
   ·cases q:X.s₀.heap.get? T with
    | none=>rfl
    | some o=>
     exfalso
     obtain ⟨o',q2⟩:=I.base.there T o q (by rw [hx];simp)
     rw [dead] at q2;cases q2
   ·obtain ⟨m,⟨o,_,_,ho,_⟩,_⟩:=I.loc
    rw [← z,dead] at ho;cases ho
   ·obtain ⟨v,o,ho,_⟩:=I.cell y c e
    rw [z,dead] at ho;cases ho
   ·have:=(I.pin p hp).1
    rw [z,dead] at this;cases this
 exact ⟨py.keep kd ⟨oe,r1⟩ up fun _ z=>z,J,fr,ap,oe,vs,a0,T,oT,ts,r1,r2,r0,r3,r4,r6,tH,tA,r7,r8,hfl.elim (fun z=>.inl (z ▸ r9)) fun z=>.inr (z ▸ r9)⟩
theorem land {xs:List Addr}{h':Heap}{a0:Value} (I:Inv X pins σ H s) (hx:X.ex=[]) (fr:H e=none) (ap:Apart X pins e) (mex:e∈xs) (hxs:∀ x∈xs,H x=none∧Apart X pins x)
  (fl:Heap.FlyingW (PySem.W.hideAll s.heap (frs X.stack++xs)) X.stack e cls a0 h') (up:s.heap.UpToSlots h') (py:PayOk s.heap H (Apart X pins) e pay) (kd:Kd s.heap h'):Landed X pins σ H e cls pay { s with heap:=h' }:=
 landAt I hx fr ap mex hxs fl.1 fl.2.2.1 fl.2.2.2 (.inl rfl) up py kd
theorem Landed.looks {R:Shared→Prop} (L:Landed X pins σ H e cls pay s) (hx:X.ex=[]) (hst:X.stack=X.env::X.outer) (hf:X.env.frame=some X.env.locals) (k:∀ s3,Landed X pins σ H e cls pay s3→R s3) :
  wpAny M X.A (noteFrame (.ref e) X.env) (fun _ s2=>wpAny M X.A (setFlight (.ref e) none) (fun _ s3=>R s3) E' s2) E' s:=by
 obtain ⟨oe,vs,a0,T,oT,ts,h1,h2,h0,h3,t1,t2,tH,tA,t5,t6,t7⟩:=L.ob
 have I:=L.inv
 have hfr:X.A.frames=some (X.env::X.outer):=by rw [← hst];exact I.ok.frames
 have hF:=PySem.W.funFrames_hide (as:=frs X.stack++[e,T]) I.stack fun env' he a ha=>List.mem_append_left _ (List.mem_filterMap.mpr ⟨env',he,ha⟩)
 have fin:∀ h4,Heap.HeldW (PySem.W.hideAll s.heap (frs X.stack++[e,T])) (X.env::X.outer) e cls a0 X.env.locals h4→s.heap.UpToSlots h4→Kd s.heap h4→wpAny M X.A (setFlight (.ref e) none) (fun _ s3=>R s3) E' { s with heap:=h4 }:=fun h4 held up4 kd4=>by
  refine wpAny_mono (wpAny_dk (dk_setFlight _ _) (wpAny_landsW (s:={ s with heap:=h4 }) (Q:=fun _ s5=>∃ h5,s5={ s with heap:=h5 }∧Heap.FlyingW (PySem.W.hideAll s.heap (frs X.stack++[e,T])) (X.env::X.outer) e cls a0 h5∧h4.UpToSlots h5) (E:=fun _ _=>False) held fun h5 fl5 up5=>⟨h5,rfl,fl5,up5⟩)) (fun _ s5 ⟨⟨h5,e5,fl5,up5⟩,kd5⟩=>?_) fun _ _ z=>z.1.elim
  subst e5
  refine k _ (show Landed X pins σ H e cls pay { s with heap:=h5 } from land (s:=s) (a0:=a0) (xs:=[e,T]) I hx L.fr L.ap (by simp) (fun x m=>?_) ?_ (up4.trans up5) L.py (kd4.trans kd5))
  ·rcases List.mem_cons.mp m with z | z
   ·rw [z];exact ⟨L.fr,L.ap⟩
   ·rw [List.mem_singleton.mp z];exact ⟨tH,tA⟩
  ·rw [← hst] at fl5
   exact fl5
 rcases t7 with t7 | t7
 ·have F:Heap.FlyingW (PySem.W.hideAll s.heap (frs X.stack++[e,T])) (X.env::X.outer) e cls a0 s.heap:=by
   rw [← hst]
   exact ⟨fun b o q=>PySem.W.of_hideAll _ q,PySem.W.hideAll_none _ (by simp),hF,oe,vs,T,oT,ts,h1,⟨h2,h0⟩,h3,t1,PySem.W.hideAll_none _ (by simp),t2,t5,t6,t7⟩
  refine wpAny_mono (wpAny_dk (dk_note _ _) (wpAny_looks_onW (Q:=fun _ s4=>∃ h4,s4={ s with heap:=h4 }∧Heap.HeldW (PySem.W.hideAll s.heap (frs X.stack++[e,T])) (X.env::X.outer) e cls a0 X.env.locals h4∧s.heap.UpToSlots h4) (E:=fun _ _=>False) hfr hf F fun h4 held up4=>⟨h4,rfl,held,up4⟩)) (fun _ s4 ⟨⟨h4,e4,held,up4⟩,kd4⟩=>?_) fun _ _ z=>z.1.elim
  subst e4
  exact fin h4 held up4 kd4
 ·have F:Heap.HeldW (PySem.W.hideAll s.heap (frs X.stack++[e,T])) (X.env::X.outer) e cls a0 X.env.locals s.heap:=by
   rw [← hst]
   exact ⟨fun b o q=>PySem.W.of_hideAll _ q,PySem.W.hideAll_none _ (by simp),hF,oe,vs,T,oT,ts,h1,⟨h2,h0⟩,h3,t1,PySem.W.hideAll_none _ (by simp),t2,t5,t6,t7⟩
  exact wpAny_noteFrame_againW hf F.2.2.2 (fin s.heap F (fun b o hb _=>⟨o.slots,hb⟩) (Kd.refl _))
theorem Landed.fly (L:Landed X pins σ H e cls pay s):Fly s.heap H X.s₀.heap X.env.locals e cls pay:=by
 obtain ⟨oe,vs,a0,T,oT,ts,h1,h2,h0,h3,t1,t2,tH,tA,t5,t6,t7⟩:=L.ob
 rcases t7 with t7 | t7
 ·exact .inr (.inl ⟨L.py.imp fun _ z=>z.1,L.ap.1,L.fr,oe,vs,a0,T,oT,ts,h1,h2,h0,h3,t1,t2,tA.1,tH,t5,t6,t7⟩)
 ·exact .inr (.inr ⟨L.py.imp fun _ z=>z.1,L.ap.1,L.fr,oe,vs,a0,T,oT,ts,h1,h2,h0,h3,t1,t2,tA.1,tH,t5,t6,t7⟩)
end
def ThrowsT (X:Cx) (E:XS):Prop:=∀ (pins:List (Addr×Obj)) (σ:St) (H:Hp) (s:Shared) (e:Addr) (cls:Value) (pay:Option Addr),Landed X pins σ H e cls pay s→E cls pay σ H→X.xe (.ref e) s
theorem throwsT_def {P:Program}{w:World}{K:PySem.W.Frag}{mg:Str→Option Value}{base:Heap}{N:List Str}{qual:Str}{scope:Scope}{f:Addr}{cd:Value}{A:Around}{outer:List Env}{s0:Shared}{H0:Hp}{E:XK} :
  ThrowsT (cxOf (CXE P w) P w K mg base N qual scope f cd A outer s0 H0 E) (fun cls pay _ H=>E cls pay H):=fun pins σ H s e cls pay L hE=>leave_exc L.inv L.fly hE
section
variable {M:Model}{A:Around}{E:Value→Shared→Prop}
variable {nm q:Str}{C N:Addr}{bs bm:List Value}{hdct:Bool}{sn:List Str}{sub:List Value}{ab:Bool}{col:Option Bool}{dd:Option Addr}{k0 k1 k2 k3 k5:Option Value}{newId:String}
variable {nm' q':Str}{D N':Addr}{bs' bm':List Value}{hdct':Bool}{sn':List Str}{sub':List Value}{ab':Bool}{col':Option Bool}{dd':Option Addr}{j0 j1 j2 j3 j5:Option Value}{newId':String}
theorem matches_own {h:Heap}{g:Array GenState}{d:Drawn}{t:Nat}{os:OsState}{e:Addr}{oe:Obj}{Q:Bool→Shared→Prop}
  (hC:h.get? C=some (excClassObj nm q C N bs bm hdct sn sub ab col dd k0 k1 k2 k3 k5 newId)) (hD:h.get? D=some (excClassObj nm' q' D N' bs' bm' hdct' sn' sub' ab' col' dd' j0 j1 j2 j3 j5 newId')) (he:h.get? e=some oe) (hcls:oe.cls=.ref C)
  (hb:bm'.contains (.type "BaseException")=true) (hq:Q ((Value.ref C::bm).contains (.ref D)) ⟨h,g,d,t,os⟩):wpAny M A (excMatches (.ref e) (.ref D)) Q E ⟨h,g,d,t,os⟩:=by
 have hcB:(Value.ref D::bm').contains (.type "BaseException")=true:=by rw [List.contains_cons,hb,Bool.or_true]
 have f:=tc_notTuple
 unfold excMatches
 repeat (first | (with_reducible refine wpAny_loadPart_at he ?_;rw [hcls]) | with_reducible refine wpAny_loadPart_at hD ?_ | (with_reducible refine wpAny_isSubtype_exc hD ?_;rw [hcB]) | (with_reducible refine wpAny_isSubtype_exc hC ?_) | wp_step)
 cases hz:(Value.ref C::bm).contains (.ref D) <;> (rw [hz] at hq;wp_walk;exact hq)
end
section
variable {X:Cx}{pins:List (Addr×Obj)}{σ:St}{H:Hp}{s:Shared}{e:Addr}{cls:Value}{pay:Option Addr}{M:Model}{A':Around}{E':Value→Shared→Prop}
theorem Landed.again {Q:Unit→Shared→Prop} (L:Landed X pins σ H e cls pay s) (hx:X.ex=[]) (k:∀ s',Landed X pins σ H e cls pay s'→Q () s'):wpAny M A' (setFlight (.ref e) none) Q E' s:=by
 obtain ⟨oe,vs,a0,T,oT,ts,h1,h2,h0,h3,t1,t2,tH,tA,t5,t6,t7⟩:=L.ob
 obtain ⟨fl,t7⟩:∃ fl,ts[3]? = some fl:=t7.elim (fun z=>⟨_,z⟩) fun z=>⟨_,z⟩
 have I:=L.inv
 refine wpAny_mono (wpAny_dk (dk_setFlight _ _) (wpAny_setFlight_noneW (Q:=fun _ s'=>∃ h',s'={ s with heap:=h' }∧(PySem.W.hideAll s.heap (frs X.stack++[e,T])).StaysIn h'∧h'.FunFrames (PySem.W.hideAll s.heap (frs X.stack++[e,T])) X.stack∧h'.TracedW (PySem.W.hideAll s.heap (frs X.stack++[e,T])) e cls a0∧(∀ b o,s.heap.get? b=some o→(∀ vs,o.data≠.fields vs)→h'.get? b=some o)) (E:=fun _ _=>False) (base:=PySem.W.hideAll s.heap (frs X.stack++[e,T])) (l:=X.stack) (cls:=cls) (a0:=a0) (fl:=fl) (fun b o q=>PySem.W.of_hideAll _ q)
  (PySem.W.funFrames_hide I.stack fun env' he a ha=>List.mem_append_left _ (List.mem_filterMap.mpr ⟨env',he,ha⟩)) ⟨oe,vs,T,oT,ts,h1,⟨h2,h0⟩,h3,t1,PySem.W.hideAll_none _ (by simp),t2,t5,t6,t7⟩ fun h' k1 k2 k3 k4=>⟨h',rfl,k1,k2,k3,k4⟩)) (fun _ s' ⟨⟨h',eh,k1,k2,k3,k4⟩,kd⟩=>?_) fun _ _ z=>z.1.elim
 subst eh
 refine k _ (land (a0:=a0) (xs:=[e,T]) I hx L.fr L.ap (by simp) (fun x m=>?_) ⟨k1,PySem.W.hideAll_none _ (by simp),k2,k3⟩ (fun b o q n=>⟨o.slots,k4 b o q n⟩) L.py kd)
 rcases List.mem_cons.mp m with z | z
 ·rw [z];exact ⟨L.fr,L.ap⟩
 ·rw [List.mem_singleton.mp z];exact ⟨tH,tA⟩
end
def XEnd (X:Cx) (pins:List (Addr×Obj)) (σ:St) (E:XK) (e:Value) (s':Shared):Prop:=∃ a cls pay H',e=.ref a∧Landed X pins σ H' a cls pay s'∧E cls pay H'
abbrev TX:=St→Hp→VK→XK→Prop
def PX (X:Cx) (e:Expr) (t:TX):Prop:=
 ∀ (pins:List (Addr×Obj)) (s:Shared) (σ:St) (H:Hp) (Q:VK) (E:XK),Inv X pins σ H s→t σ H Q E→wpAny (model X.prog X.w) X.A (eval e X.env) (EP X pins σ Q) (XEnd X pins σ E) s
section
variable {X:Cx}{cm:Bool}{k:Nat}{f C:Addr}{fd:FuncData}{ps:List Str}{sp:Sp}{dvs:List V}{ds:List Value}{x m:Str}{p pos apos:Pos}{e o:Expr}{es:List Expr}{ta:TE}{t:TA}
theorem landed_of {pins:List (Addr×Obj)}{σ:St}{H:Hp}{s s':Shared}{E:XK}{e:Value} (I:Inv X pins σ H s) (hx:X.ex=[]) (h:CXE X.prog X.w X.stack H s E e s'):XEnd X pins σ E e s':=by
 obtain ⟨a,H',cls,pay,rfl,os,bare,un,hok,fl,hE⟩:=h
 have I':Inv X pins σ H' s':=I.call' (ch:=[]) os un hok bare fun b z=>absurd z (by simp)
 obtain ⟨oe,vs,a0,T,oT,ts,h1,h2,h0,h3,t1,t2,t3,t4,t5,t6,t7⟩:=fl.ob
 exact ⟨a,cls,pay,H',rfl,⟨fl.py.imp fun _ z=>I.apart hx z,I',fl.fr,I.apart hx fl.nw,oe,vs,a0,T,oT,ts,h1,h2,h0,h3,t1,t2,t4,I.apart hx t3,t5,t6,.inl t7⟩,hE⟩
theorem run_fnX {pins:List (Addr×Obj)}{σ:St}{H:Hp}{s:Shared}{Q:VK}{E:XK}{us:List Value}{vs:List V} (F:FnOk X.prog X.w X.K X.mg X.base (CXE X.prog X.w) k f fd ps sp cm) (hr:Room k X.A cm) (hb:Binds X.K fd ps ds) (hd:Vals dvs ds) (hx:X.ex=[])
  (I:Inv X pins σ H s) (r:Vals vs us) (h:sp (vs++dvs) H Q E):wpAny (model X.prog X.w) X.A (call (.ref f) us) (EP X pins σ Q) (XEnd X pins σ E) s:=by
 have r2:Vals (vs++dvs) (us++ds):=r.append hd
 have hl:(us++ds).length=ps.length:=by rw [← r2.length];exact F.len _ _ _ _ h
 refine wpAny_call (codeAny_mono (F.run X.A X.stack s H ⟨us,[]⟩ (us++ds) (vs++dvs) Q E hr I.env0 (hb s us I.kIn hl) r2 h) fun r s' hq=>?_)
 cases r with
 | error e=>exact landed_of I hx hq
 | ok fl=>
  cases fl with
  | ret u=>exact I.after hq
  | next=>exact False.elim hq
  | brk=>exact False.elim hq
  | cont=>exact False.elim hq
def tCallX (sp:Sp) (dvs:List V) (t:TA):TX:=fun σ H Q E=>t σ H fun vs H1=>sp (vs++dvs) H1 Q E
theorem pe_x {pins:List (Addr×Obj)}{s:Shared}{σ:St}{H:Hp}{Q:VK}{E':Value→Shared→Prop} (ha:PE X.nox o ta) (I:Inv X pins σ H s) (h:ta σ H Q) :
  wpAny (model X.prog X.w) X.A (eval o X.env) (EP X pins σ Q) E' s:=
 wpAny_mono (ha pins s σ H Q (I.wish _) h) (fun us s1 ⟨vs,H1,I1,q⟩=>⟨vs,H1,I1.unwish,q⟩) fun _ _ z=>False.elim z
end
section
variable {X:Cx}{e:Expr}{t:TX}{ES:XS}{pos:Pos}
theorem xend {pins:List (Addr×Obj)}{σ:St}{v:Value}{s:Shared} (th:ThrowsT X ES) (h:XEnd X pins σ (fun cls pay H=>ES cls pay σ H) v s):X.xe v s:=by
 obtain ⟨a,cls,pay,H',rfl,L,q⟩:=h
 exact th pins σ H' s a cls pay L q
def tSetX (i:Nat) (ES:XS) (t:TX):TS:=fun D σ H=>t σ H (fun v H1=>D.nx (σ.set i (some v)) H1) fun cls pay H'=>ES cls pay σ H'
theorem ps_setX {i:Nat}{x:Str}{pos':Pos} (th:ThrowsT X ES) (hN:X.N.Nodup) (hi:X.N[i]? = some x) (hx:Loc X.env.scope x) (he:PX X e t) (hs:swapsWith e (some (.Name x pos')) pos.line X.env=pure false:=by rfl) (hf:X.fn x=true∨X.env.scope.names.lookup x=some .local:=by first | exact .inl rfl | exact .inr rfl | assumption) :
  PS X (.Assign [.Name x pos'] e pos) (tSetX i ES t):=by
 intro pins s σ H D I h
 refine wpAny_Assign_Name (wpAny_mono (he pins s σ H _ _ I h) (fun v s1 ⟨y,H1,I1,r1,q1⟩=>?_) fun _ _ z=>xend th z) hs
 exact store_ok I1 hN hi hx r1 (fun s2 I2=>⟨_,H1,I2,q1⟩) hf
def tRetX (ES:XS) (t:TX):TS:=fun D σ H=>t σ H D.rt fun cls pay H'=>ES cls pay σ H'
theorem ps_retX (th:ThrowsT X ES) (he:PX X e t):PS X (.Return (some e) pos) (tRetX ES t):=by
 intro pins s σ H D I h
 exact wpAny_Return_some (wpAny_mono (he pins s σ H _ _ I h) (fun v s1 ⟨x,H1,I1,r1,q1⟩=>⟨x,σ,H1,I1,r1,q1⟩) fun _ _ z=>xend th z)
end
abbrev Cx.inTry (X:Cx) (pins:List (Addr×Obj)) (R:XS):Cx:={ X with pn:=X.pn++pins,xe:=fun e s'=>∃ σ H a cls pay,e=.ref a∧Landed X pins σ H a cls pay s'∧R cls pay σ H }
section
variable {X:Cx}{pins pins':List (Addr×Obj)}{R:XS}{σ:St}{H:Hp}{s:Shared}{e:Addr}{cls:Value}{pay:Option Addr}
theorem Cx.Ok.inTry (ok:X.Ok):(X.inTry pins R).Ok:=
 ⟨ok.mod,ok.kind,ok.glob,ok.blt,ok.above,ok.inj,ok.has,ok.cab,ok.hd,ok.frames,ok.stk,ok.exf,ok.bs,ok.bsz,ok.noex,ok.exfs,ok.funs,ok.frf⟩
theorem Cx.Ok.offTry (ok:(X.inTry pins R).Ok):X.Ok:=
 ⟨ok.mod,ok.kind,ok.glob,ok.blt,ok.above,ok.inj,ok.has,ok.cab,ok.hd,ok.frames,ok.stk,ok.exf,ok.bs,ok.bsz,ok.noex,ok.exfs,ok.funs,ok.frf⟩
theorem Inv.inTry (I:Inv X pins σ H s):Inv (X.inTry pins R) [] σ H s:=⟨I.ok.inTry,I.os,I.bare,I.base,I.loc,I.cell,I.free,I.freeC,fun p hp=>I.pin p (by simpa using hp),I.hok,I.len,I.hq⟩
theorem Inv.offTry (I:Inv (X.inTry pins R) pins' σ H s):Inv X pins σ H s:=⟨I.ok.offTry,I.os,I.bare,I.base,I.loc,I.cell,I.free,I.freeC,fun p hp=>I.pin p (List.mem_append_left _ hp),I.hok,I.len,I.hq⟩
theorem Landed.offTry (L:Landed (X.inTry pins R) pins' σ H e cls pay s):Landed X pins σ H e cls pay s:=by
 obtain ⟨py,I,fr,⟨a1,a2,a3,a4⟩,oe,vs,a0,T,oT,ts,h1,h2,h0,h3,t1,t2,tH,⟨b1,b2,b3,b4⟩,t5⟩:=L
 exact ⟨py.imp fun _ z=>⟨z.1,z.2.1,z.2.2.1,fun p hp=>z.2.2.2 p (List.mem_append_left _ hp)⟩,I.offTry,fr,⟨a1,a2,a3,fun p hp=>a4 p (List.mem_append_left _ hp)⟩,oe,vs,a0,T,oT,ts,h1,h2,h0,h3,t1,t2,tH,⟨b1,b2,b3,fun p hp=>b4 p (List.mem_append_left _ hp)⟩,t5⟩
theorem throwsT_try:ThrowsT (X.inTry pins R) R:=fun pins' σ H s e cls pay L q=>⟨σ,H,e,cls,pay,rfl,L.offTry,q⟩
end
abbrev Cx.inSuite (X:Cx) (a:Addr):Cx:={ X with A:=X.A.mark (some (.ref a)),calm:=false,xe:=fun _ _=>False }
section
variable {X:Cx}{pins:List (Addr×Obj)}{σ:St}{H:Hp}{s:Shared}{e:Addr}{cls:Value}{pay:Option Addr}
theorem Inv.inSuite (I:Inv X pins σ H s) (a:Addr) (hq:HdOk (X.A.mark (some (.ref a))) H):Inv (X.inSuite a) pins σ H s:=
 ⟨⟨I.ok.mod,I.ok.kind,I.ok.glob,I.ok.blt,I.ok.above,I.ok.inj,I.ok.has,I.ok.cab,fun z=>Bool.noConfusion z,I.ok.frames,I.ok.stk,I.ok.exf,I.ok.bs,I.ok.bsz,I.ok.noex,I.ok.exfs,I.ok.funs,I.ok.frf⟩,I.os,I.bare,I.base,I.loc,I.cell,I.free,I.freeC,I.pin,I.hok,I.len,hq⟩
theorem Inv.offSuite {a:Addr}{σ':St}{H':Hp}{s':Shared} (hc:X.calm=true) (I0:Inv X pins σ H s) (I:Inv (X.inSuite a) pins σ' H' s'):Inv X pins σ' H' s':=
 ⟨I0.ok,I.os,I.bare,I.base,I.loc,I.cell,I.free,I.freeC,I.pin,I.hok,I.len,.inl (I0.ok.hd hc)⟩
theorem Inv.track {u:HO} (I:Inv X pins σ H s) (fr:H e=none) (ap:Apart X pins e) (ok:ObjOk X.prog X.w (upd H e u) s.heap e u):Inv X pins σ (upd H e u) s:=by
 obtain ⟨a1,a2,a3,a4⟩:=ap
 have ne:∀ {b:Addr}{o:HO},H b=some o→b≠e:=fun {b o} q z=>by rw [z,fr] at q;cases q
 refine ⟨I.ok,I.os,I.bare,⟨I.base.keep,I.base.slot,fun b o q n hx=>?_,I.base.there,fun b xs q=>?_,fun b o u q=>?_,fun b ps q=>?_⟩,I.loc,I.cell,?_,fun x c q=>?_,fun p hp=>?_,fun b o q=>?_,I.len,I.hq.mono fun b o u q=>by rw [upd_ne (ne q)];exact q⟩
 ·rw [upd_ne fun z=>by rw [z,a1] at q;cases q]
  exact I.base.free b o q n hx
 ·have w:=I.base.tups b xs q
  rw [upd_ne (ne w)];exact w
 ·have w:=I.base.frzs b o u q
  rw [upd_ne (ne w)];exact w
 ·obtain ⟨more,w⟩:=I.base.tbls b ps q
  exact ⟨more,by rw [upd_ne (ne w)];exact w⟩
 ·rw [upd_ne fun z=>a2 z.symm];exact I.free
 ·rw [upd_ne (a3 x c q)];exact I.freeC x c q
 ·obtain ⟨p1,p2,p3⟩:=I.pin p hp
  exact ⟨p1,by rw [upd_ne (a4 p hp)];exact p2,p3⟩
 ·by_cases z:b=e
  ·subst z
   rw [upd_same] at q
   cases q
   exact ok
  ·rw [upd_ne z] at q
   exact (I.hok b o q).stay (fun _ _ _ q=>q) (fun c q=>by rw [upd_ne (ne q)];exact q) fun c xs q=>by rw [upd_ne (ne q)];exact q
def Knows (H H':Hp) (a:Addr) (cls:Value) (pay:Option Addr):Prop:=∃ ob vs,ob.data=.fields vs∧vs[2]? = some .none∧match pay with
 | none=>H'=upd H a (ExcF ob a cls none)
 | some n=>∃ dx,dx≠a∧H dx=none∧H'=upd (upd H dx (XdO dx n)) a (ExcF ob a cls (some dx))
theorem Landed.known (L:Landed X pins σ H e cls pay s):∃ H',Knows H H' e cls pay∧Inv X pins σ H' s:=by
 obtain ⟨oe,vs,a0,T,oT,ts,h1,h2,h0,hd,_⟩:=L.ob
 obtain ⟨⟨o0,c1,c2⟩,py⟩:=L.py
 rw [h1] at c1
 cases c1
 have c3:vs[2]? = some .none:=by unfold fld2 at c2;rw [hd] at c2;exact c2
 have nc:PySem.W.notCls oe=true:=by
  obtain ⟨c,d,dt,sl⟩:=oe
  dsimp only at hd
  subst hd;rfl
 cases pay with
 | none=>exact ⟨_,⟨oe,vs,hd,c3,rfl⟩,L.inv.track (u:=ExcF oe e cls none) L.fr L.ap ⟨h1,excO_ok h1 h2 fun _ z=>by cases z⟩⟩
 | some n=>
  obtain ⟨oe',dx,t,g1,g2,g3,g4,g5⟩:=py
  rw [h1] at g1
  cases g1
  have ne:dx≠e:=fun z=>by
   obtain ⟨o,es,ep,q1,q2,_⟩:=g3
   rw [z,h1] at q1
   cases q1
   rw [hd] at q2;cases q2
  have I1:Inv X pins σ (upd H dx (XdO dx n)) s:=L.inv.track g4 g5 (xdO_ok g3)
  exact ⟨_,⟨oe,vs,hd,c3,dx,ne,g4,rfl⟩,I1.track (u:=ExcF oe e cls (some dx)) (by rw [upd_ne ne.symm];exact L.fr) L.ap ⟨h1,excO_ok h1 h2 fun _ z=>by cases z;exact ⟨g2,nc⟩⟩⟩
theorem Knows.hq {A:Around}{H H':Hp}{a:Addr}{cls:Value}{pay:Option Addr} (k:Knows H H' a cls pay):HdOk (A.mark (some (.ref a))) H':=by
 obtain ⟨ob,vs,h1,h2,k⟩:=k
 refine .inr ⟨a,ob,?_⟩
 cases pay with
 | none=>subst k;exact ⟨_,vs,rfl,upd_same,h1,h2⟩
 | some n=>obtain ⟨dx,_,_,rfl⟩:=k;exact ⟨_,vs,rfl,upd_same,h1,h2⟩
theorem Knows.same {H H':Hp}{a:Addr}{cls:Value}{pay:Option Addr} (k:Knows H H' a cls pay) (fr:H a=none) {b:Addr}{o:HO} (q:H b=some o):H' b=some o:=by
 obtain ⟨ob,vs,_,_,k⟩:=k
 cases pay with
 | none=>subst k;rw [upd_ne (ne_of_none q fr)];exact q
 | some n=>obtain ⟨dx,ne,d,rfl⟩:=k;rw [upd_ne (ne_of_none q fr),upd_ne (ne_of_none q d)];exact q
end
section
variable {prog:Program}{w:World}{A:Around}{R:Result→Shared→Prop}{s:Shared}
theorem comp_loop {elt tg iter:Expr}{ifs:List Expr}{scope:Scope}{pos:Pos}{it acc:Value}{env:Env} (Iv:Nat→Shared→Prop)
  (turn:∀ n s,Iv n s→wpAny (model prog w) A (pyNext it) (fun r s1=>match r with
   | none=>R (.ok .next) s1
   | some v=>wpAny (model prog w) A (letOwnedTupleGo tg it v) (fun _ s1'=>wpAny (model prog w) A (assign tg env v) (fun _ s2=>
     wpAny (model prog w) A (forIn ifs true fun c r=>if r=true then do let ok ← isTrue c env (eval c env);pure (ForInStep.yield ok) else pure (ForInStep.yield r)) (fun ok s3=>
      if ok=true then wpAny (model prog w) A (eval elt env) (fun x s4=>
       wpAny (model prog w) A (call (.builtin "list.append") [acc,x]) (fun _ s5=>∃ m,m < n∧Iv m s5) (fun _ _=>False) s4) (fun _ _=>False) s3
      else ∃ m,m < n∧Iv m s3) (fun _ _=>False) s2) (fun _ _=>False) s1') (fun _ _=>False) s1) (fun _ _=>False) s)
  (n:Nat) (hn:Iv n s):codeAny (model prog w) A (.compLoop (.ListComp elt [⟨tg,iter,ifs,0⟩] scope pos) 0 it acc env) R s:=by
 have ff:∀ {E:Value→Shared→Prop} (x:Value) (s:Shared),False→E x s:=fun _ _ f=>f.elim
 refine codeAny_loop rfl Iv (fun k s0 hI=>?_) n hn
 show wpAny (model prog w) A ((compTurn (.ListComp elt [⟨tg,iter,ifs,0⟩] scope pos) 0 it acc env).onRaise (fun x=>do noteFrame x env;theTreesLotGoes x)) _ _ s0
 refine wpAny_noted ?_
 rw [compTurn_list]
 refine wpAny_bind (wpAny_standAt (wpAny_bind (wpAny_mono (turn k s0 hI) (fun r s1 h1=>?_) ff)))
 cases r with
 | none=>exact wpAny_pure h1
 | some v=>
  refine wpAny_bind (wpAny_mono h1 (fun _ s1' h1'=>wpAny_bind (wpAny_mono h1' (fun _ s2 h2=>wpAny_bind (wpAny_mono h2 (fun ok s3 h3=>?_) ff)) ff)) ff)
  cases ok with
  | false=>exact wpAny_pure ⟨rfl,h3⟩
  | true=>exact wpAny_bind (wpAny_bind (wpAny_mono h3 (fun x s4 h4=>wpAny_bind (wpAny_mono h4 (fun _ s5 h5=>wpAny_pure (wpAny_pure ⟨rfl,h5⟩)) ff)) ff))
end
def frees (sc:Scope):List Str:=(sc.names.filter fun x=>x.2 == .free).map (·.1)
def cellPairs (env:Env):List (Str×NameKind)→List (Str×Addr)→List (Str×Addr)
 | [],cs=>cs
 | (n,k)::r,cs=>cellPairs env r (if k == .free then (n,(env.cells.lookup n).getD 0)::cs else cs)
theorem clos_of {env:Env}{sc:Scope} (h:∀ x∈frees sc,∃ c,env.cells.lookup x=some c):closureFor sc env=pure (cellPairs env sc.names []):=by
 have key:∀ (l:List (Str×NameKind)) (cs:List (Str×Addr)),(∀ x∈(l.filter fun x=>x.2 == .free).map (·.1),∃ c,env.cells.lookup x=some c) →
   (forIn l cs fun x r=>(do
    let (name,kind):=x
    if kind == .free then do
     let a ← cellOf env name
     pure (ForInStep.yield ((name,a)::r))
    else pure (ForInStep.yield r):Sem (ForInStep (List (Str×Addr)))))=pure (cellPairs env l cs):=by
  intro l
  induction l with
  | nil=>intro cs _;rfl
  | cons p r ih=>
   obtain ⟨n,k⟩:=p
   intro cs h
   rw [List.forIn_cons]
   by_cases hk:(k == NameKind.free)=true
   ·obtain ⟨c,hc⟩:=h n (by simp [hk])
    have ih':=ih ((n,c)::cs) fun x hx=>h x (by simp only [List.filter_cons,hk,if_true,List.map_cons,List.mem_cons];exact Or.inr hx)
    have e:cellOf env n=pure c:=by unfold cellOf;rw [hc]
    simp only [hk,if_true,e,pure_bind,cellPairs,hc,Option.getD_some]
    exact ih'
   ·have ih':=ih cs fun x hx=>h x (by simp only [List.filter_cons,hk];exact hx)
    simp only [hk,cellPairs,Bool.false_eq_true,if_false,pure_bind]
    exact ih'
 unfold closureFor
 have k:=key sc.names [] h
 simp only [bind_pure] at k ⊢
 first
  | exact k
  | (simp only [pure_bind];exact k)
theorem cellPairs_get {env:Env}:∀ {l:List (Str×NameKind)}{cs:List (Str×Addr)}{x:Str}{c:Addr},(cellPairs env l cs).lookup x=some c →
  cs.lookup x=some c∨((x,NameKind.free)∈l∧c=(env.cells.lookup x).getD 0)
 | [],_,_,_,h=>.inl h
 | (n,k)::r,cs,x,c,h=>by
  rcases cellPairs_get (l:=r) h with q | ⟨q,e⟩
  ·by_cases hk:(k == NameKind.free)=true
   ·rw [if_pos hk,List.lookup_cons] at q
    by_cases hx:(x == n)=true
    ·rw [hx] at q
     have e:=eq_of_beq hx
     subst e
     have hk':k=.free:=by cases k <;> first | rfl | exact absurd hk (by decide)
     subst hk'
     exact .inr ⟨List.mem_cons_self,(Option.some.inj q).symm⟩
    ·rw [Bool.not_eq_true] at hx
     rw [hx] at q
     exact .inl q
   ·rw [if_neg hk] at q
    exact .inl q
  ·exact .inr ⟨List.mem_cons_of_mem _ q,e⟩
theorem cellPairs_has {env:Env}:∀ {l:List (Str×NameKind)}{cs:List (Str×Addr)}{x:Str},(∃ c,cs.lookup x=some c)∨(x,NameKind.free)∈l→∃ c,(cellPairs env l cs).lookup x=some c
 | [],_,_,h=>h.elim id fun z=>nomatch z
 | (n,k)::r,cs,x,h=>by
  refine cellPairs_has (l:=r) ?_
  rcases h with ⟨c,h⟩ | h
  ·left
   by_cases hk:(k == NameKind.free)=true
   ·rw [if_pos hk,List.lookup_cons]
    by_cases hx:(x == n)=true
    ·rw [hx];exact ⟨_,rfl⟩
    ·rw [Bool.not_eq_true] at hx;rw [hx];exact ⟨c,h⟩
   ·rw [if_neg hk];exact ⟨c,h⟩
  ·rcases List.mem_cons.mp h with e | h
   ·left
    cases e
    rw [if_pos (by decide),List.lookup_cons,beq_self_eq_true]
    exact ⟨_,rfl⟩
   ·exact .inr h
def cxComp (X:Cx) (N:List Str) (sc:Scope) (s3:Shared) (H3:Hp) (fp:List Addr):Cx:=
 { X with N:=N,s₀:=s3,H₀:=H3,env:=compEnvC sc (cellPairs X.env sc.names []) s3.heap.objs.size X.env,outer:=X.stack,stack:=X.stack,ex:=fp,fn:=fun _=>false,pn:=[],xe:=fun _ _=>False }
def iniC (js:List (Option Nat)) (σ:St):St:=js.map fun j=>match j with
 | none=>none
 | some j=>(σ[j]?).join
def capOk (N:List Str) (sc:Scope):List Str→List (Option Nat)→Bool
 | [],[]=>true
 | x::r,none::js=>capOk N sc r js
 | x::r,some j::js=>decide (N[j]? = some x)&&decide (sc.names.lookup x=some .free)&&capOk N sc r js
 | _,_=>false
theorem capOk_len {N:List Str}{sc:Scope}:∀ {M:List Str}{js:List (Option Nat)},capOk N sc M js=true→js.length=M.length
 | [],[],_=>rfl
 | _::r,none::js,h=>by
  have:=capOk_len (M:=r) (js:=js) h
  simp [this]
 | _::r,some j::js,h=>by
  unfold capOk at h
  have:=capOk_len (M:=r) (js:=js) ((Bool.and_eq_true _ _).mp h).2
  simp [this]
 | [],_::_,h=>by cases h
 | _::_,[],h=>by cases h
theorem capOk_at {N:List Str}{sc:Scope}:∀ {M:List Str}{js:List (Option Nat)}{i j:Nat}{x:Str},capOk N sc M js=true→M[i]? = some x→js[i]? = some (some j)→N[j]? = some x∧sc.names.lookup x=some .free
 | [],_,_,_,_,_,h,_=>by simp at h
 | _::_,[],_,_,_,h,_,_=>by cases h
 | y::r,none::js,0,j,x,h,h1,h2=>by simp at h2
 | y::r,some q::js,0,j,x,h,h1,h2=>by
  simp at h1 h2
  subst h1 h2
  unfold capOk at h
  obtain ⟨a,b⟩:=(Bool.and_eq_true _ _).mp ((Bool.and_eq_true _ _).mp h).1
  exact ⟨of_decide_eq_true a,of_decide_eq_true b⟩
 | y::r,none::js,i + 1,j,x,h,h1,h2=>capOk_at (M:=r) (js:=js) h (by simpa using h1) (by simpa using h2)
 | y::r,some q::js,i + 1,j,x,h,h1,h2=>by
  unfold capOk at h
  exact capOk_at (M:=r) (js:=js) ((Bool.and_eq_true _ _).mp h).2 (by simpa using h1) (by simpa using h2)
structure CompScope (X:Cx) (M:List Str) (js:List (Option Nat)) (sc:Scope):Prop where
 kind:sc.kind=.function
 nocell:∀ y∈sc.names,y.2≠.cell
 loc:∀ y∈sc.names,y.2=.local→sc.names.lookup y.1=some .local
 cap:capOk X.N sc M js=true
 free:∀ x∈frees sc,X.env.kindOf x=some .cell∨X.env.kindOf x=some .free
 nd:M.Nodup
def tComp (wi:TI) (js:List (Option Nat)) (g:TG) (tt:TT) (te:TE):TE:=fun σ H Q=>wi σ H fun J H1=>∀ D,H1 D=none →
 ∃ W:Nat→Nat→St→Hp→Prop,(∃ m,W 0 m (iniC js σ) (upd H1 D (.lst [])))∧∀ i m σ' H',W i m σ' H' →
  (J.stop i H'∧Q (.ref D) H')∨(J.go i H'∧∀ x H2,J.yld i H' x H2→g x σ' H2 fun σ3 H3=>tt σ3 H3 fun b H4=>
   if b=true then te σ3 H4 fun y H5=>∃ xs,H5 D=some (.lst xs)∧xs.length < sizeLine∧∃ m',m' < m∧W (i + 1) m' σ3 (upd H5 D (.lst (xs++[y])))
   else ∃ m',m' < m∧W (i + 1) m' σ3 H4)
def PTs (X:Cx) (ifs:List Expr) (t:TT):Prop:=
 ∀ (pins:List (Addr×Obj)) (s:Shared) (σ:St) (H:Hp) (Q:Bool→Hp→Prop),Inv X pins σ H s→t σ H Q →
  wpAny (model X.prog X.w) X.A (forIn ifs true fun c r=>if r=true then do let ok ← isTrue c X.env (eval c X.env);pure (ForInStep.yield ok) else pure (ForInStep.yield r)) (TP X pins σ Q) X.xe s
theorem pts_one {X:Cx}{c:Expr}{t:TT} (h:PT X c t):PTs X [c] t:=fun pins s σ H Q I q=>wpAny_tests_one (h pins s σ H Q I q)
section
variable {X:Cx}
theorem Inv.comp {pins:List (Addr×Obj)}{σ:St}{H3:Hp}{s3:Shared}{M:List Str}{js:List (Option Nat)}{sc:Scope}{fp:List Addr}{h':Heap}{tk:Nat} (S:CompScope X M js sc) (I:Inv X pins σ H3 s3)
  (hf:∀ b∈fp,FpOk X pins H3 b) (hlt:∀ b∈fp,b < s3.heap.objs.size) (hn:h'.Ns s3.heap.objs.size fun _=>none) (hk:∀ b o,s3.heap.get? b=some o→h'.get? b=some o) :
  Inv (cxComp X M sc s3 H3 fp) [] (iniC js σ) H3 { s3 with heap:=h',toks:=tk }:=by
 have cl:∀ {x:Str}{c:Addr},(cellPairs X.env sc.names []).lookup x=some c→X.env.cells.lookup x=some c:=fun {x c} e=>by
  rcases cellPairs_get e with q | ⟨q,e'⟩
  ·cases q
  ·obtain ⟨c',hc⟩:=I.ok.has x (S.free x (List.mem_map.mpr ⟨(x,.free),List.mem_filter.mpr ⟨q,rfl⟩,rfl⟩))
   rw [hc] at e' ⊢
   rw [e'];rfl
 have bsz:X.base.objs.size≤s3.heap.objs.size:=Nat.le_trans I.ok.bsz I.sz
 have lk:∀ {x:Str},sc.names.lookup x=some .free→(relabel sc X.env).names.lookup x=some .cell∨(relabel sc X.env).names.lookup x=some .free:=fun {x} e=>by
  have key:∀ (l:List (Str×NameKind)),l.lookup x=some .free→(l.map fun (n,k)=>if (k == NameKind.free&&X.env.scope.kind == .function&&X.env.kindOf n == some .cell) then (n,NameKind.cell) else (n,k)).lookup x=some .cell ∨
    (l.map fun (n,k)=>if (k == NameKind.free&&X.env.scope.kind == .function&&X.env.kindOf n == some .cell) then (n,NameKind.cell) else (n,k)).lookup x=some .free:=by
   intro l
   induction l with
   | nil=>intro e;cases e
   | cons p r ih=>
    obtain ⟨n,k⟩:=p
    intro e
    rw [List.lookup_cons] at e
    rw [List.map_cons]
    by_cases hx:(x == n)=true
    ·rw [hx] at e
     have e':k=.free:=Option.some.inj e
     subst e'
     dsimp only
     split
     ·left;rw [List.lookup_cons,hx]
     ·right;rw [List.lookup_cons,hx]
    ·rw [Bool.not_eq_true] at hx
     rw [hx] at e
     dsimp only
     split <;> (rw [List.lookup_cons,hx];exact ih e)
  exact key sc.names e
 have kf:∀ {x:Str},((relabel sc X.env).names.lookup x=some .cell∨(relabel sc X.env).names.lookup x=some .free)→(x,NameKind.free)∈sc.names:=fun {x} e=>by
  have key:∀ (l:List (Str×NameKind)),(∀ y∈l,y.2≠.cell)→((l.map fun (n,k)=>if (k == NameKind.free&&X.env.scope.kind == .function&&X.env.kindOf n == some .cell) then (n,NameKind.cell) else (n,k)).lookup x=some .cell ∨
    (l.map fun (n,k)=>if (k == NameKind.free&&X.env.scope.kind == .function&&X.env.kindOf n == some .cell) then (n,NameKind.cell) else (n,k)).lookup x=some .free)→(x,NameKind.free)∈l:=by
   intro l
   induction l with
   | nil=>intro _ e;rcases e with e | e <;> cases e
   | cons p r ih=>
    obtain ⟨n,k⟩:=p
    intro nc e
    rw [List.map_cons] at e
    by_cases hx:(x == n)=true
    ·have e0:=eq_of_beq hx
     subst e0
     have hkf:k=.free:=by
      dsimp only at e
      split at e
      ·rename_i hc
       have:=((Bool.and_eq_true _ _).mp ((Bool.and_eq_true _ _).mp hc).1).1
       cases k <;> first | rfl | exact absurd this (by decide)
      ·rw [List.lookup_cons,beq_self_eq_true] at e
       rcases e with e | e
       ·exact absurd (Option.some.inj e) (nc _ List.mem_cons_self)
       ·exact Option.some.inj e
     rw [hkf];exact List.mem_cons_self
    ·rw [Bool.not_eq_true] at hx
     refine List.mem_cons_of_mem _ (ih (fun y hy=>nc y (List.mem_cons_of_mem _ hy)) ?_)
     dsimp only at e
     split at e <;> (rw [List.lookup_cons,hx] at e;exact e)
  exact key sc.names S.nocell e
 refine ⟨⟨I.ok.mod,S.kind,I.ok.glob,I.ok.blt,Nat.le_refl _,fun x y c h1 h2=>I.ok.inj x y c (cl h1) (cl h2),fun x hx=>cellPairs_has (.inr (kf hx)),(fun x c h _=>by cases h),I.ok.hd,I.ok.frames,.inl rfl,fun b hb=>⟨Nat.ne_of_lt (hlt b hb),fun x c e=>(hf b hb).2.2.2.2.1 x c (cl e)⟩,
   I.bs,bsz,fun b o e hb=>?_,fun b hb hb'=>?_,I.stack,I.stkFree⟩,
  rfl,I.bare,Un.kept hk,⟨_,hn,fun i x v h1 h2 h3=>?_⟩,fun x c e=>?_,I.hok.fresh (Nat.le_refl _),fun x c e=>I.freeC x c (cl e),fun p hp=>absurd (show p∈([]:List (Addr×Obj)) from hp) (by simp),I.hok.kept hk,?_,I.hq⟩
 ·rcases (hf b hb).2.2.2.1 with z | z
  ·exact I.ok.noex b o e z
  ·exact absurd (Nat.lt_of_lt_of_le (Heap.lt_size e) (Nat.le_trans I.ok.bsz z)) (Nat.lt_irrefl _)
 ·rcases List.mem_cons.mp (I.stkSub b hb') with z | z
  ·exact (hf b hb).2.1 z
  ·exact (hf b hb).2.2.1 z
 ·have hlen:=capOk_len S.cap
  have hi:i < js.length:=by rw [hlen];exact (List.getElem?_eq_some_iff.mp h1).1
  unfold iniC at h2
  rw [List.getElem?_map,List.getElem?_eq_getElem hi,Option.map_some] at h2
  cases hj:js[i] with
  | none=>rw [hj] at h2;cases h2
  | some j=>
   rw [hj] at h2
   have h2':(σ[j]?).join=some v:=Option.some.inj h2
   obtain ⟨a,b⟩:=capOk_at S.cap h1 (by rw [List.getElem?_eq_getElem hi,hj])
   have hs:σ[j]? = some (some v):=by
    cases q:σ[j]? with
    | none=>rw [q] at h2';cases h2'
    | some z=>rw [q] at h2';rw [show z=some v from h2']
   have hfr:=S.free x (List.mem_map.mpr ⟨(x,.free),List.mem_filter.mpr ⟨PySem.mem_of_lookup b,rfl⟩,rfl⟩)
   obtain ⟨m,hm,hl⟩:=I.loc
   obtain ⟨u,ru,l⟩:=hl j x v a hs (hfr.elim (fun z=>.inr (.inl z)) fun z=>.inr (.inr z))
   refine ⟨u,ru,.inr ⟨lk b,?_⟩⟩
   rcases l with ⟨k,_⟩ | ⟨_,c,e,hc⟩
   ·rcases hfr with z | z <;> (rw [z] at k;cases k)
   ·obtain ⟨c',hc'⟩:=cellPairs_has (env:=X.env) (l:=sc.names) (cs:=[]) (x:=x) (.inr (PySem.mem_of_lookup b))
    have e':=cl hc'
    rw [e] at e'
    have e2:c=c':=Option.some.inj e'
    subst e2
    obtain ⟨o,ho,hd⟩:=hc
    exact ⟨c,hc',o,hk _ _ ho,hd⟩
 ·obtain ⟨v,o,ho,hd⟩:=I.cell x c (cl e)
  exact ⟨v,o,hk _ _ ho,hd⟩
 ·unfold iniC
  rw [List.length_map]
  exact capOk_len S.cap
theorem Inv.uncomp {pins pins':List (Addr×Obj)}{σ σ':St}{H3 H':Hp}{s3 s':Shared}{M:List Str}{sc:Scope}{fp:List Addr}{h':Heap} (I:Inv X pins σ H3 s3) (hf:∀ b∈fp,FpOk X pins H3 b)
  (J:Inv (cxComp X M sc s3 H3 fp) pins' σ' H' s') (hs:Heap.SameBut s3.heap.objs.size s'.heap h'):Inv X pins σ H' { s' with heap:=h' }:=by
 have B:Un (frs X.stack) fp H3 H' s3.heap s'.heap:=J.base
 have ne:∀ {b:Addr}{o:Obj},s3.heap.get? b=some o→b≠s3.heap.objs.size:=fun e=>Nat.ne_of_lt (Heap.lt_size e)
 have B':Un (frs X.stack) fp H3 H' s3.heap h':=⟨fun b o e n hb hx=>(hs.2 b (ne e)).trans (B.keep b o e n hb hx),fun b o e n hb hx=>let ⟨sl,q⟩:=B.slot b o e n hb hx;⟨sl,(hs.2 b (ne e)).trans q⟩,B.free,
  fun b o e hx=>let ⟨o',q⟩:=B.there b o e hx;⟨o',(hs.2 b (ne e)).trans q⟩,B.tups,B.frzs,B.tbls⟩
 have fr:H' s3.heap.objs.size=none:=J.free
 refine I.call' (s':={ s' with heap:=h' }) (ch:=fp) J.os B' (fun b u e=>?_) J.bare fun b hb=>⟨(hf b hb).2.2.2.1,(hf b hb).2.1,(hf b hb).2.2.2.2.1,(hf b hb).2.2.2.2.2⟩
 refine (J.hok b u e).stay (fun c v hc q=>(hs.2 c ?_).trans q) (fun _ q=>q) fun _ _ q=>q
 rintro rfl
 rcases hc with rfl | hc
 ·rw [fr] at e;cases e
 ·rw [fr] at hc;cases hc
theorem comp_block {tg iter elt:Expr}{ifs:List Expr}{sc:Scope}{pos:Pos}{M:List Str}{js:List (Option Nat)}{g:TG}{tt:TT}{te:TE}{pins:List (Addr×Obj)}{σ:St}{H2:Hp}{s2:Shared}{it:Addr}{fp:List Addr}
  {tn:Nat→Heap→Prop}{J:It}{Q:VK}{RR:Value→Addr→Result→Shared→Prop} (S:CompScope X M js sc) (hc:X.calm=true∨J.rg=true) (I2:Inv X pins σ H2 s2) (T:Turn X.prog X.w X.K tg J fp it tn) (st:tn 0 s2.heap) (hf:∀ b∈fp,FpOk X pins H2 b)
  (hb:∀ s3 H3 fp,PG (cxComp X M sc s3 H3 fp) tg g∧PTs (cxComp X M sc s3 H3 fp) ifs tt∧PE (cxComp X M sc s3 H3 fp) elt te)
  (h:∀ D,H2 D=none→∃ W:Nat→Nat→St→Hp→Prop,(∃ m,W 0 m (iniC js σ) (upd H2 D (.lst [])))∧∀ i m σ' H',W i m σ' H' →
   (J.stop i H'∧Q (.ref D) H')∨(J.go i H'∧∀ x H2,J.yld i H' x H2→g x σ' H2 fun σ3 H3=>tt σ3 H3 fun b H4=>
    if b=true then te σ3 H4 fun y H5=>∃ xs,H5 D=some (.lst xs)∧xs.length < sizeLine∧∃ m',m' < m∧W (i + 1) m' σ3 (upd H5 D (.lst (xs++[y])))
    else ∃ m',m' < m∧W (i + 1) m' σ3 H4))
  (hR:∀ D s3 H3 s' σ' H',Inv X pins σ H3 s3→(∀ b∈fp,FpOk X pins H3 b)→Inv (cxComp X M sc s3 H3 fp) [] σ' H' s'→Q (.ref D) H'→RR (.ref D) s3.heap.objs.size (.ok .next) s') :
  wpAny (model X.prog X.w) X.A (newList []) (fun acc s₃=>wpAny (model X.prog X.w) X.A (newFunctionEnv sc X.env.globals (cellPairs X.env sc.names []) [] X.env.qual none .none (some X.env)) (fun cenv s₄=>
   codeAny (model X.prog X.w) X.A (.compStart (.ListComp elt [⟨tg,iter,ifs,0⟩] sc pos) 0 (.ref it) acc { cenv with scope:=relabel sc X.env }) (RR acc cenv.locals) s₄) X.xe s₃) X.xe s2:=by
 have fresh2:H2 s2.heap.objs.size=none:=I2.hok.fresh (Nat.le_refl _)
 obtain ⟨W,⟨m0,w0⟩,turn⟩:=h _ fresh2
 have I3:Inv X pins σ (upd H2 s2.heap.objs.size (.lst [])) { s2 with heap:=s2.heap.push { cls:=.type "list",data:=.seq ([]:List Value).toArray } }:=
  I2.laid (t':=s2.toks) (fun _ _ q=>Heap.get?_push_of_some _ q) (Nat.le_refl _) ⟨Nat.zero_le _,[],0,.nil,Heap.get?_push_size _ rfl⟩
 have fpl:∀ b∈fp,b < s2.heap.objs.size:=fun b hb=>let ⟨_,e,_⟩:=T.obj _ _ st b hb;Heap.lt_size e
 have hf3:∀ b∈fp,FpOk X pins (upd H2 s2.heap.objs.size (.lst [])) b:=fun b hb=>⟨by rw [upd_ne (Nat.ne_of_lt (fpl b hb))];exact (hf b hb).1,(hf b hb).2⟩
 have hsz:(s2.heap.push { cls:=.type "list",data:=.seq ([]:List Value).toArray }).objs.size=s2.heap.objs.size + 1:=Heap.size_push ..
 refine wpAny_newObj_type (wpAny_newFunctionEnv S.nocell (fun y hy=>nomatch hy) (fun h1 hn1 hs1=>?_) S.kind)
 generalize hs3:({ s2 with heap:=s2.heap.push { cls:=.type "list",dict:=none,data:=.seq ([]:List Value).toArray } }:Shared)=s3 at *
 have hk1:∀ b o,s3.heap.get? b=some o→h1.get? b=some o:=fun b o e=>(hs1.2 b (Nat.ne_of_lt (Heap.lt_size e))).trans (Heap.get?_push_of_some _ e)
 have lt3:∀ b∈fp,b < s3.heap.objs.size:=fun b hb=>by rw [← hs3];show b < (s2.heap.push _).objs.size;rw [hsz];exact Nat.lt_succ_of_lt (fpl b hb)
 have I4:Inv (cxComp X M sc s3 (upd H2 s2.heap.objs.size (.lst [])) fp) [] (iniC js σ) (upd H2 s2.heap.objs.size (.lst [])) { s3 with heap:=h1,toks:=s3.toks + ([]:List (Str×Value)).length }:=I3.comp S hf3 lt3 hn1 hk1
 obtain ⟨hg,ht,he⟩:=hb s3 (upd H2 s2.heap.objs.size (.lst [])) fp
 have stat:∀ {H':Hp},(∀ b∈fp,H' b=none)→∀ b∈fp,FpOk (cxComp X M sc s3 (upd H2 s2.heap.objs.size (.lst [])) fp) [] H' b:=fun {H'} hn b hb=>
  ⟨hn b hb,Nat.ne_of_lt (lt3 b hb),I4.ok.exfs b hb,.inl hb,(I4.ok.exf b hb).2,fun p hp=>absurd (show p∈([]:List (Addr×Obj)) from hp) (by simp)⟩
 have st4:tn 0 h1:=T.keep _ _ _ st fun b hb o e=>hk1 b o (by rw [← hs3];exact Heap.get?_push_of_some _ e)
 have fr4:∀ b∈fp,upd H2 s2.heap.objs.size (.lst []) b=none:=fun b hb=>(hf3 b hb).1
 have loop:codeAny (model X.prog X.w) X.A (.compLoop (.ListComp elt [⟨tg,iter,ifs,0⟩] sc pos) 0 (.ref it) (.ref s2.heap.objs.size) (compEnvC sc (cellPairs X.env sc.names []) s3.heap.objs.size X.env)) (RR (.ref s2.heap.objs.size) s3.heap.objs.size)
   { s3 with heap:=h1,toks:=s3.toks + ([]:List (Str×Value)).length }:=by
  refine comp_loop (fun n s'=>∃ i σ' H',Inv (cxComp X M sc s3 (upd H2 s2.heap.objs.size (.lst [])) fp) [] σ' H' s'∧tn i s'.heap∧(∀ b∈fp,H' b=none)∧W i n σ' H') ?_ m0 ⟨0,_,_,I4,st4,fr4,w0⟩
  rintro n s5 ⟨i,σ5,H5,I5,st5,fr5,w5⟩
  rcases turn i n σ5 H5 w5 with ⟨stop,q⟩ | ⟨go,step⟩
  ·refine thn (T.done (cxComp X M sc s3 (upd H2 s2.heap.objs.size (.lst [])) fp) rfl rfl rfl hc i [] s5 σ5 H5 _ I5 (stat fr5) st5 stop) fun r s6 ⟨hr,I6⟩=>?_
   subst hr
   exact hR _ _ _ _ _ _ I3 hf3 I6 q
  ·refine thn (T.item (cxComp X M sc s3 (upd H2 s2.heap.objs.size (.lst [])) fp) rfl rfl rfl hc i [] s5 σ5 H5 _ I5 (stat fr5) st5 go) fun r s6 ⟨u,hr,h6⟩=>?_
   subst hr
   refine thn h6 fun _ s7 ⟨x,H7,I7,r7,y7,st7,fr7⟩=>?_
   have I7':=I7.pinned (stat fr7) (T.obj _ _ st7)
   have back:∀ {σ8:St}{H8:Hp}{s8:Shared},Inv (cxComp X M sc s3 (upd H2 s2.heap.objs.size (.lst [])) fp) ([]++pinsAt fp s7.heap) σ8 H8 s8→tn (i + 1) s8.heap∧(∀ b∈fp,H8 b=none):=fun {σ8 H8 s8} I8=>
    ⟨T.keep _ _ _ st7 fun b hb o e=>(I8.pin (b,o) (List.mem_append_right _ (List.mem_append_right _ (mem_pinsAt hb e)))).1,fun b hb=>by
     obtain ⟨o,e,_⟩:=T.obj _ _ st7 b hb
     exact (I8.pin (b,o) (List.mem_append_right _ (List.mem_append_right _ (mem_pinsAt hb e)))).2.1⟩
   refine thn (hg _ s7 σ5 H7 x u _ I7' r7 (step x H7 y7)) fun _ s8 ⟨σ8,H8,I8,q8⟩=>?_
   refine thn (ht _ s8 σ8 H8 _ I8 q8) fun ok s9 ⟨H9,I9,q9⟩=>?_
   cases ok with
   | false=>
    rw [if_neg Bool.false_ne_true] at q9 ⊢
    obtain ⟨m',hm,w9⟩:=q9
    obtain ⟨a9,b9⟩:=back I9
    exact ⟨m',hm,i + 1,σ8,H9,I9.unpinned,a9,b9,w9⟩
   | true=>
    rw [if_pos rfl] at q9 ⊢
    refine thn (he _ s9 σ8 H9 _ I9 q9) fun y s10 ⟨yv,H10,I10,r10,xs,hD,hz,m',hm,w10⟩=>?_
    refine thn (mt_append _ s10 σ8 H10 (.ref s2.heap.objs.size) [yv] (.ref s2.heap.objs.size) [y] (fun v H11=>v=.non∧H11=upd H10 s2.heap.objs.size (.lst (xs++[yv]))) I10 rfl (.cons r10 .nil) ⟨_,xs,yv,rfl,rfl,hD,hz,rfl,rfl⟩) fun _ s11 ⟨v11,H11,I11,_,_,e11⟩=>?_
    subst e11
    obtain ⟨a9,b9⟩:=back I11
    exact ⟨m',hm,i + 1,σ8,_,I11.unpinned,a9,b9,w10⟩
 exact codeAny_compStart_list loop (T.self _ 0 _ _ _ st4 loop)
theorem pe_comp {tg iter elt:Expr}{ifs:List Expr}{sc:Scope}{pos:Pos}{M:List Str}{js:List (Option Nat)}{wi:TI}{g:TG}{tt:TT}{te:TE} (S:CompScope X M js sc) (hc:X.calm=true) (hi:PI X tg iter wi)
  (hb:∀ s3 H3 fp,PG (cxComp X M sc s3 H3 fp) tg g∧PTs (cxComp X M sc s3 H3 fp) ifs tt∧PE (cxComp X M sc s3 H3 fp) elt te) (hs:∀ x,foldedSetIterable iter X.env x=pure x:=by intro _;rfl) :
  PE X (.ListComp elt [⟨tg,iter,ifs,0⟩] sc pos) (tComp wi js g tt te):=by
 intro pins s σ H Q I h
 rw [eval_ListComp]
 refine wpAny_comprehension_free (use:=none) rfl hs (clos_of fun x hx=>I.ok.has x (S.free x hx)) S.kind S.loc ?_
 show wpAny (model X.prog X.w) X.A (eval iter X.env) _ _ s
 refine thn (hi pins s σ H _ I h) fun v s1 h1=>thn h1 fun itv s2 ⟨it,fp,tn,J,H2,e,I2,T,st2,f2,h2⟩=>?_
 subst e
 refine comp_block (RR:=fun acc C=>compPost (model X.prog X.w) X.A X.xe none (EP X pins σ Q) acc C) S (.inl hc) I2 T st2 f2 hb h2 fun D s3 H3 s' σ' H' I3 f3 J' q=>?_
 obtain ⟨m,hm,_⟩:=J'.loc
 exact ⟨m,hm,fun h' hs'=>⟨.ref D,H',I3.uncomp f3 J' hs',rfl,q⟩⟩
theorem ps_setC {i:Nat}{y:Str}{tg iter elt:Expr}{ifs:List Expr}{sc:Scope}{pos py spos:Pos}{M:List Str}{js:List (Option Nat)}{wi:TI}{g:TG}{tt:TT}{te:TE} (hN:X.N.Nodup) (hy:X.N[i]? = some y) (hl:X.env.scope.names.lookup y=some .local)
  (S:CompScope X M js sc) (hc:X.calm=true) (hi:PI X tg iter wi) (hb:∀ s3 H3 fp,PG (cxComp X M sc s3 H3 fp) tg g∧PTs (cxComp X M sc s3 H3 fp) ifs tt∧PE (cxComp X M sc s3 H3 fp) elt te)
  (hsw:swapsWith (.ListComp elt [⟨tg,iter,ifs,0⟩] sc pos) (some (.Name y py)) spos.line X.env=pure true:=by rfl) (hs:∀ x,foldedSetIterable iter X.env x=pure x:=by intro _;rfl) :
  PS X (.Assign [.Name y py] (.ListComp elt [⟨tg,iter,ifs,0⟩] sc pos) spos) (tAsg (tComp wi js g tt te) (gName i)):=by
 intro pins s σ H D I h
 rw [exec_Assign_Name_used _ _ _ _ hsw]
 refine wpAny_bind (wpAny_standAt (wpAny_bind ?_))
 show wpAny (model X.prog X.w) X.A (do let _ ← comprehension (.ListComp elt [⟨tg,iter,ifs,0⟩] sc pos) sc X.env _ (newList []) false (eval iter X.env) (some (assign (.Name y py) X.env))) _ _ s
 refine wpAny_bind (wpAny_mono (wpAny_comprehension_free (use:=some (assign (.Name y py) X.env)) (Q:=fun _ s'=>SP X pins D .next s') rfl hs (clos_of fun x hx=>I.ok.has x (S.free x hx)) S.kind S.loc ?_) (fun _ s' q=>wpAny_pure (wpAny_pure q)) fun _ _ e=>e)
 refine thn (hi pins s σ H _ I h) fun v s1 h1=>thn h1 fun itv s2 ⟨it,fp,tn,J,H2,e,I2,T,st2,f2,h2⟩=>?_
 subst e
 refine comp_block (Q:=fun x H1=>gName i x σ H1 D.nx) (RR:=fun acc C=>compPost (model X.prog X.w) X.A X.xe (some (assign (.Name y py) X.env)) (fun _ s'=>SP X pins D .next s') acc C) S (.inl hc) I2 T st2 f2 hb h2 fun Da s3 H3 s' σ' H' I3 f3 J' q=>?_
 have sb:Heap.SameBut s3.heap.objs.size s'.heap s'.heap:=⟨rfl,fun _ _=>rfl⟩
 have I5:Inv X pins σ H' s':=I3.uncomp f3 J' sb
 obtain ⟨m,hm,_⟩:=J'.loc
 have ne:X.env.locals≠s3.heap.objs.size:=Nat.ne_of_lt I3.lt
 show wpAny (model X.prog X.w) X.A (assign (.Name y py) X.env (.ref Da)) _ _ s'
 refine wpAny_assign_Name (store_ok2 I5 hN hy (.inl hl) (show RelV (.ref Da) (.ref Da) from rfl) (fun s6 I6 ⟨a,hsb,ha⟩=>?_) (.inr hl))
 have cne:∀ x c,X.env.cells.lookup x=some c→c≠s3.heap.objs.size:=fun x c e=>by
  obtain ⟨v',hv'⟩:=I3.cell x c e
  exact Nat.ne_of_lt hv'.lt
 have na:a≠s3.heap.objs.size:=ha.elim (fun e=>by rw [e];exact ne) fun z=>cne y a z
 refine ⟨m,hm.sameBut hsb (Ne.symm na),fun h' hs'=>⟨_,H',I6.turned (it:=s3.heap.objs.size) (t':=s6.toks) (fun b o hb e=>(hs'.2 b hb).trans e) J'.free (Ne.symm ne) (.inr I3.sz) cne (fun p hp=>?_),q⟩⟩
 exact Nat.ne_of_lt (Heap.lt_size (I3.pin p hp).1)
end
end L2
namespace L2.Ev
open PySem PySem.Spec PyProof.Rows
abbrev XN:=Str×Option Nat
inductive D where
 | non | bl (b:Bool) | int (i:Int) | str (x:Str) | tup (ds:List D) | lst (ds:List D) | fls (ds:List D) | dic (kvs:List (Key×D)) | dit (kvs:List (List Key×D)) | ins (cn:Str) (fs:List (Str×D)) | exc (cn:XN)
def Frz (K:PySem.W.Frag) (H:Hp) (a:Addr) (xs:List V):Prop:=(∃ o,H a=some (.frz o (.lst xs))) ∨
 ∃ (o:Obj) (its:Array Value) (n:Nat),K.lookup a=some o∧o.cls=.type "list"∧o.dict=none∧o.data=.seq its n∧its.size≤sizeLine∧Vals xs its.toList
theorem Frz.sq {K:PySem.W.Frag}{H:Hp}{a:Addr}{xs:List V} (h:Frz K H a xs):SqL K H a xs:=h.elim (fun z=>.inl (.inr z)) .inr
mutual
inductive Rep (K:PySem.W.Frag) (H:Hp):D→V→List Addr→Prop
 | non:Rep K H .non .non []
 | bl (b:Bool):Rep K H (.bl b) (.bl b) []
 | int (i:Int):Rep K H (.int i) (.int i) []
 | str (x:Str):Rep K H (.str x) (.str x) []
 | tup {a:Addr}{xs:List V}{ds:List D}{fp:List Addr}:SqT K H a xs→Reps K H ds xs fp→Rep K H (.tup ds) (.ref a) fp
 | lst {a:Addr}{xs:List V}{ds:List D}{fp:List Addr}:H a=some (.lst xs)→Reps K H ds xs fp→Rep K H (.lst ds) (.ref a) (a::fp)
 | lsf {a:Addr}{xs:List V}{ds:List D}{fp:List Addr}:Frz K H a xs→Reps K H ds xs fp→Rep K H (.fls ds) (.ref a) fp
 | dic {a:Addr}{kvs:List (Key×V)}{es:List (Key×D)}{fp:List Addr}:H a=some (.dK kvs)→es.map (·.1)=kvs.map (·.1)→Reps K H (es.map (·.2)) (kvs.map (·.2)) fp→Rep K H (.dic es) (.ref a) (a::fp)
 | dit {a:Addr}{kvs:List (List Key×V)}{es:List (List Key×D)}{fp:List Addr}:H a=some (.dT kvs)→es.map (·.1)=kvs.map (·.1)→Reps K H (es.map (·.2)) (kvs.map (·.2)) fp→Rep K H (.dit es) (.ref a) (a::fp)
 | ins {cn:Str}{a C dx:Addr}{fs:List (Str×V)}{es:List (Str×D)}{fp:List Addr}:PySem.W.nsIn K mainGlobals cn=some (some (.ref C))→H a=some (.ins C dx fs)→H dx=some (.own a)→es.map (·.1)=fs.map (·.1)→Reps K H (es.map (·.2)) (fs.map (·.2)) fp→Rep K H (.ins cn es) (.ref a) (a::dx::fp)
 | exc {cn:XN}{a C:Addr}{de:Option Addr}{ob:Obj}:PySem.W.nsIn K mainGlobals cn.1=some (some (.ref C))→H a=some (ExcF ob a (.ref C) de)→(∀ n,cn.2=some n→∃ dx,de=some dx∧H dx=some (XdO dx n))→Rep K H (.exc cn) (.ref a) []
inductive Reps (K:PySem.W.Frag) (H:Hp):List D→List V→List Addr→Prop
 | nil:Reps K H [] [] []
 | cons {d:D}{v:V}{ds:List D}{vs:List V}{f1 f2:List Addr}:Rep K H d v f1→Reps K H ds vs f2→Reps K H (d::ds) (v::vs) (f1++f2)
end
def Imm (H H':Hp):Prop:=(∀ a xs,H a=some (.tup xs)→H' a=some (.tup xs))∧(∀ a o u,H a=some (.frz o u)→H' a=some (.frz o u))∧∀ a φ,H a=some (.ext φ)→H' a=some (.ext φ)
theorem Imm.sqt {K:PySem.W.Frag}{H H':Hp}{a:Addr}{xs:List V} (i:Imm H H') (h:SqT K H a xs):SqT K H' a xs:=by
 rcases h with (h | ⟨o,h⟩) | h
 ·exact .inl (.inl (i.1 _ _ h))
 ·exact .inl (.inr ⟨o,i.2.1 _ _ _ h⟩)
 ·exact .inr h
theorem Imm.frz {K:PySem.W.Frag}{H H':Hp}{a:Addr}{xs:List V} (i:Imm H H') (h:Frz K H a xs):Frz K H' a xs:=by
 rcases h with ⟨o,h⟩ | h
 ·exact .inl ⟨o,i.2.1 _ _ _ h⟩
 ·exact .inr h
theorem Imm.of {H H':Hp} (h:Same H H'):Imm H H':=⟨fun _ _ e=>h _ _ e,fun _ _ _ e=>h _ _ e,fun _ _ e=>h _ _ e⟩
def MutO:HO→Bool
 | .lst _ | .dK _ | .dT _ | .ins _ _ _ | .own _=>true
 | _=>false
theorem Imm.upd {H:Hp}{p:Addr}{o o':HO} (h:H p=some o) (m:MutO o=true):Imm H (upd H p o'):=by
 refine ⟨fun a xs e=>?_,fun a q u e=>?_,fun a q e=>?_⟩
 ·rw [upd_ne]
  ·exact e
  ·rintro rfl;rw [h] at e;cases e;cases m
 ·rw [upd_ne]
  ·exact e
  ·rintro rfl;rw [h] at e;cases e;cases m
 ·rw [upd_ne]
  ·exact e
  ·rintro rfl;rw [h] at e;cases e;cases m
section
variable {K:PySem.W.Frag}{H H':Hp}
mutual
theorem Rep.frame:∀ {d:D}{v:V}{fp:List Addr},Rep K H d v fp→(∀ a∈fp,H' a=H a)→Imm H H'→Rep K H' d v fp
 | _,_,_,.non,_,_=>.non
 | _,_,_,.bl b,_,_=>.bl b
 | _,_,_,.int i,_,_=>.int i
 | _,_,_,.str x,_,_=>.str x
 | _,_,_,.tup h r,k,i=>.tup (i.sqt h) (Reps.frame r k i)
 | _,_,_,.lst h r,k,i=>.lst ((k _ List.mem_cons_self).trans h) (Reps.frame r (fun a m=>k a (List.mem_cons_of_mem _ m)) i)
 | _,_,_,.lsf h r,k,i=>.lsf (i.frz h) (Reps.frame r k i)
 | _,_,_,.dic h e r,k,i=>.dic ((k _ List.mem_cons_self).trans h) e (Reps.frame r (fun a m=>k a (List.mem_cons_of_mem _ m)) i)
 | _,_,_,.dit h e r,k,i=>.dit ((k _ List.mem_cons_self).trans h) e (Reps.frame r (fun a m=>k a (List.mem_cons_of_mem _ m)) i)
 | _,_,_,.exc g h p,k,i=>.exc g (i.2.1 _ _ _ h) fun n e=>let ⟨dx,q,z⟩:=p n e;⟨dx,q,i.2.2 _ _ z⟩
 | _,_,_,.ins g h h2 e r,k,i=>.ins g ((k _ List.mem_cons_self).trans h) ((k _ (List.mem_cons_of_mem _ List.mem_cons_self)).trans h2) e (Reps.frame r (fun a m=>k a (List.mem_cons_of_mem _ (List.mem_cons_of_mem _ m))) i)
theorem Reps.frame:∀ {ds:List D}{vs:List V}{fp:List Addr},Reps K H ds vs fp→(∀ a∈fp,H' a=H a)→Imm H H'→Reps K H' ds vs fp
 | _,_,_,.nil,_,_=>.nil
 | _,_,_,.cons h t,k,i=>.cons (Rep.frame h (fun a m=>k a (List.mem_append_left _ m)) i) (Reps.frame t (fun a m=>k a (List.mem_append_right _ m)) i)
end
mutual
theorem Rep.dom:∀ {d:D}{v:V}{fp:List Addr},Rep K H d v fp→∀ a∈fp,∃ o,H a=some o∧MutO o=true
 | _,_,_,.non,_,m=>nomatch m
 | _,_,_,.bl b,_,m=>nomatch m
 | _,_,_,.int i,_,m=>nomatch m
 | _,_,_,.str x,_,m=>nomatch m
 | _,_,_,.tup h r,a,m=>Reps.dom r a m
 | _,_,_,.lst h r,a,m=>(List.mem_cons.mp m).elim (fun e=>⟨_,e ▸ h,rfl⟩) fun m=>Reps.dom r a m
 | _,_,_,.lsf h r,a,m=>Reps.dom r a m
 | _,_,_,.dic h e r,a,m=>(List.mem_cons.mp m).elim (fun e=>⟨_,e ▸ h,rfl⟩) fun m=>Reps.dom r a m
 | _,_,_,.dit h e r,a,m=>(List.mem_cons.mp m).elim (fun e=>⟨_,e ▸ h,rfl⟩) fun m=>Reps.dom r a m
 | _,_,_,.exc _ _ _,_,m=>nomatch m
 | _,_,_,.ins _ h h2 e r,a,m=>(List.mem_cons.mp m).elim (fun e=>⟨_,e ▸ h,rfl⟩) fun m=>(List.mem_cons.mp m).elim (fun e=>⟨_,e ▸ h2,rfl⟩) fun m=>Reps.dom r a m
theorem Reps.dom:∀ {ds:List D}{vs:List V}{fp:List Addr},Reps K H ds vs fp→∀ a∈fp,∃ o,H a=some o∧MutO o=true
 | _,_,_,.nil,_,m=>nomatch m
 | _,_,_,.cons h t,a,m=>(List.mem_append.mp m).elim (Rep.dom h a) (Reps.dom t a)
end
theorem Rep.same {d:D}{v:V}{fp:List Addr} (h:Rep K H d v fp) (s:Same H H'):Rep K H' d v fp:=
 h.frame (fun a m=>let ⟨o,e,_⟩:=h.dom a m;(s a o e).trans e.symm) (.of s)
theorem Reps.same {ds:List D}{vs:List V}{fp:List Addr} (h:Reps K H ds vs fp) (s:Same H H'):Reps K H' ds vs fp:=
 h.frame (fun a m=>let ⟨o,e,_⟩:=h.dom a m;(s a o e).trans e.symm) (.of s)
theorem Reps.length:∀ {ds:List D}{vs:List V}{fp:List Addr},Reps K H ds vs fp→ds.length=vs.length
 | _,_,_,.nil=>rfl
 | _,_,_,.cons _ t=>by rw [List.length_cons,List.length_cons,Reps.length t]
theorem Reps.get:∀ {ds:List D}{vs:List V}{fp:List Addr}{i:Nat}{d:D},Reps K H ds vs fp→ds[i]? = some d→∃ v f,vs[i]? = some v∧Rep K H d v f∧∀ a∈f,a∈fp
 | _,_,_,_,_,.nil,e=>by simp at e
 | _,_,_,0,_,.cons h t,e=>by
  have e':=Option.some.inj e
  subst e'
  exact ⟨_,_,rfl,h,fun a m=>List.mem_append_left _ m⟩
 | _,_,_,i + 1,d,.cons h t,e=>by
  obtain ⟨v,f,e1,r,s⟩:=Reps.get (i:=i) (d:=d) t (by simpa using e)
  exact ⟨v,f,by simpa using e1,r,fun a m=>List.mem_append_right _ (s a m)⟩
theorem Reps.append:∀ {ds es:List D}{vs ws:List V}{f g:List Addr},Reps K H ds vs f→Reps K H es ws g→Reps K H (ds++es) (vs++ws) (f++g)
 | _,_,_,_,_,_,.nil,s=>s
 | _,_,_,_,_,g,.cons h t,s=>by
  rw [List.append_assoc]
  exact .cons h (Reps.append t s)
end
theorem Rep.int_of {K:PySem.W.Frag}{H:Hp}{i:Int}{v:V}{fp:List Addr} (r:Rep K H (.int i) v fp):v=.int i∧fp=[]:=by cases r;exact ⟨rfl,rfl⟩
theorem Rep.bl_of {K:PySem.W.Frag}{H:Hp}{i:Bool}{v:V}{fp:List Addr} (r:Rep K H (.bl i) v fp):v=.bl i∧fp=[]:=by cases r;exact ⟨rfl,rfl⟩
theorem Rep.str_of {K:PySem.W.Frag}{H:Hp}{i:Str}{v:V}{fp:List Addr} (r:Rep K H (.str i) v fp):v=.str i∧fp=[]:=by cases r;exact ⟨rfl,rfl⟩
theorem Rep.non_of {K:PySem.W.Frag}{H:Hp}{v:V}{fp:List Addr} (r:Rep K H .non v fp):v=.non∧fp=[]:=by cases r;exact ⟨rfl,rfl⟩
mutual
def imm:D→Bool
 | .lst _ | .dic _ | .dit _ | .ins _ _=>false
 | .tup ds=>immAll ds
 | .fls ds=>immAll ds
 | _=>true
def immAll:List D→Bool
 | []=>true
 | d::ds=>imm d&&immAll ds
end
section
variable {K:PySem.W.Frag}{H H':Hp}
mutual
theorem Rep.imm:∀ {d:D}{v:V}{fp:List Addr},Rep K H d v fp→imm d=true→fp=[]
 | _,_,_,.non,_=>rfl
 | _,_,_,.bl _,_=>rfl
 | _,_,_,.int _,_=>rfl
 | _,_,_,.str _,_=>rfl
 | _,_,_,.tup _ r,e=>Reps.imm r (by unfold L2.Ev.imm at e;exact e)
 | _,_,_,.lst _ _,e=>by unfold L2.Ev.imm at e;cases e
 | _,_,_,.lsf _ r,e=>by unfold L2.Ev.imm at e;exact Reps.imm r e
 | _,_,_,.dic _ _ _,e=>by unfold L2.Ev.imm at e;cases e
 | _,_,_,.dit _ _ _,e=>by unfold L2.Ev.imm at e;cases e
 | _,_,_,.ins _ _ _ _ _,e=>by unfold L2.Ev.imm at e;cases e
 | _,_,_,.exc _ _ _,_=>rfl
theorem Reps.imm:∀ {ds:List D}{vs:List V}{fp:List Addr},Reps K H ds vs fp→immAll ds=true→fp=[]
 | _,_,_,.nil,_=>rfl
 | _,_,_,.cons h t,e=>by
  unfold immAll at e
  obtain ⟨a,b⟩:=(Bool.and_eq_true _ _).mp e
  rw [Rep.imm h a,Reps.imm t b]
  rfl
end
end
inductive Tag where
 | own | lk | sh (o:List Nat)
abbrev Slot:=Option (D×Tag)
abbrev Rho:=List Slot
def InZ (z:Addr→Option Nat) (i:Nat):Tag→List Addr→Prop
 | .sh o,fp=>∀ a∈fp,∀ j,z a=some j→j∈o
 | _,fp=>fp.Nodup∧∀ a∈fp,z a=some i
def NoOwn (ρ:Rho) (j:Nat):Prop:=∀ d,ρ[j]?≠some (some (d,.own))
structure Held where
 d:D
 v:V
 fp:List Addr
 z0:Addr→Option Nat
structure Ok (K:PySem.W.Frag) (H0:Hp) (S:List Addr) (z:Addr→Option Nat) (held:List Held) (ρ:Rho) (σ:St) (H:Hp):Prop where
 sl:∀ i d t,ρ[i]? = some (some (d,t))→∃ v fp,σ[i]? = some (some v)∧Rep K H d v fp∧InZ z i t fp
 hl:∀ p∈held,Rep K H p.d p.v p.fp∧∀ a∈p.fp,∀ j,z a=some j→p.z0 a=some j∧NoOwn ρ j
 zd:∀ a j,z a=some j→(∃ o,H a=some o)∧(H0 a=none∨a∈S)
 en:∀ a o,H0 a=some o→a∉S→H a=some o
 ln:ρ.length=σ.length
theorem Ok.same {K:PySem.W.Frag}{H0:Hp}{S:List Addr}{z:Addr→Option Nat}{held:List Held}{ρ:Rho}{σ:St}{H H':Hp} (h:Ok K H0 S z held ρ σ H) (s:Same H H'):Ok K H0 S z held ρ σ H':=
 ⟨fun i d t e=>let ⟨v,fp,a,b,c⟩:=h.sl i d t e;⟨v,fp,a,b.same s,c⟩,fun p m=>let ⟨a,b⟩:=h.hl p m;⟨a.same s,b⟩,
  fun a j e=>let ⟨⟨o,x⟩,y⟩:=h.zd a j e;⟨⟨o,s _ _ x⟩,y⟩,fun a o e n=>s _ _ (h.en a o e n),h.ln⟩
def TagOk (z:Addr→Option Nat) (H:Hp):Tag→List Addr→Prop
 | .sh o,fp=>∀ a∈fp,∀ j,z a=some j→j∈o
 | _,fp=>fp.Nodup∧∀ a∈fp,H a=none
theorem TagOk.nil {z:Addr→Option Nat}{H:Hp}{t:Tag}:TagOk z H t []:=by
 cases t with
 | sh o=>intro a m;cases m
 | own=>exact ⟨List.nodup_nil,fun a m=>nomatch m⟩
 | lk=>exact ⟨List.nodup_nil,fun a m=>nomatch m⟩
abbrev EF:=Rho→Option (D×Tag)
def FP (X:Cx) (e:Expr) (f:EF):Prop:=∃ t,PE X e t∧∀ (H0:Hp) (S:List Addr) (z:Addr→Option Nat) (held:List Held) (ρ:Rho) (σ:St) (H:Hp) (Q:VK) (d:D) (tg:Tag),
 Ok X.K H0 S z held ρ σ H→f ρ=some (d,tg)→(∀ H' v fp,Same H H'→Rep X.K H' d v fp→TagOk z H tg fp→Q v H')→t σ H Q
abbrev AF:=Rho→Option (List (D×Tag))
abbrev TF:=Rho→Option Bool
def FT (X:Cx) (e:Expr) (f:TF):Prop:=∃ t,PT X e t∧∀ (H0:Hp) (S:List Addr) (z:Addr→Option Nat) (held:List Held) (ρ:Rho) (σ:St) (H:Hp) (Q:Bool→Hp→Prop) (b:Bool),
 Ok X.K H0 S z held ρ σ H→f ρ=some b→(∀ H',Same H H'→Q b H')→t σ H Q
def tagOf (i:Nat):Tag→Tag
 | .sh o=>.sh o
 | _=>.sh [i]
def eVar (i:Nat):EF:=fun ρ=>match ρ[i]? with
 | some (some (d,t))=>some (d,tagOf i t)
 | _=>none
section
variable {X:Cx}
theorem fp_var (i:Nat) {x:Str}{pos:Pos} (hN:X.N[i]? = some x:=by rfl) (hv:Vis X.env.scope x:=by first | exact Or.inl rfl | exact Or.inr (Or.inl rfl) | exact Or.inr (Or.inr rfl)) (hd:(x == ("__debug__":Str))=false:=by decide)
  (hcd:(x == ("__classdict__":Str))=false:=by decide):FP X (.Name x pos) (eVar i):=by
 refine ⟨_,pe_var (i:=i) hN hv hd hcd,fun H0 S z held ρ σ H Q d tg ok e q=>?_⟩
 unfold eVar at e
 cases h:ρ[i]? with
 | none=>rw [h] at e;cases e
 | some s=>
  cases s with
  | none=>rw [h] at e;cases e
  | some p=>
   obtain ⟨d',t⟩:=p
   rw [h] at e
   have e':=Option.some.inj e
   have e1:d'=d:=congrArg Prod.fst e'
   have e2:tagOf i t=tg:=congrArg Prod.snd e'
   subst e1 e2
   obtain ⟨v,fp,hs,r,zz⟩:=ok.sl i d' t h
   refine ⟨v,hs,q H v fp (Same.refl H) r ?_⟩
   cases t with
   | sh o=>exact zz
   | own=>intro a m j ej;rw [zz.2 a m] at ej;cases ej;exact List.mem_cons_self
   | lk=>intro a m j ej;rw [zz.2 a m] at ej;cases ej;exact List.mem_cons_self
def eC (d:D):EF:=fun _=>some (d,.own)
theorem fp_int {i j pos}:FP X (.Constant (.int i) j pos) (eC (.int i)):=⟨_,pe_int,fun _ _ _ _ _ _ H _ _ _ _ e q=>by cases e;exact q H _ _ (Same.refl H) (.int i) .nil⟩
theorem fp_bl {b j pos}:FP X (.Constant (.bool b) j pos) (eC (.bl b)):=⟨_,pe_bl,fun _ _ _ _ _ _ H _ _ _ _ e q=>by cases e;exact q H _ _ (Same.refl H) (.bl b) .nil⟩
theorem fp_non {j pos}:FP X (.Constant .none j pos) (eC .non):=⟨_,pe_non,fun _ _ _ _ _ _ H _ _ _ _ e q=>by cases e;exact q H _ _ (Same.refl H) .non .nil⟩
theorem fp_str {x j pos}:FP X (.Constant (.str x) j pos) (eC (.str x)):=⟨_,pe_str,fun _ _ _ _ _ _ H _ _ _ _ e q=>by cases e;exact q H _ _ (Same.refl H) (.str x) .nil⟩
def e2 (op:D→D→Option D) (fa fb:EF):EF:=fun ρ=>match fa ρ,fb ρ with
 | some (d1,_),some (d2,_)=>(op d1 d2).map fun d=>(d,.own)
 | _,_=>none
theorem e2_of {op:D→D→Option D}{fa fb:EF}{ρ:Rho}{d:D}{tg:Tag} (e:e2 op fa fb ρ=some (d,tg)):∃ d1 t1 d2 t2,fa ρ=some (d1,t1)∧fb ρ=some (d2,t2)∧op d1 d2=some d∧tg=.own:=by
 unfold e2 at e
 cases h1:fa ρ with
 | none=>rw [h1] at e;cases e
 | some p=>
  obtain ⟨d1,t1⟩:=p
  cases h2:fb ρ with
  | none=>rw [h1,h2] at e;cases e
  | some p=>
   obtain ⟨d2,t2⟩:=p
   rw [h1,h2] at e
   dsimp only at e
   cases h3:op d1 d2 with
   | none=>rw [h3] at e;cases e
   | some d3=>
    rw [h3] at e
    cases e
    exact ⟨d1,t1,d2,t2,rfl,rfl,h3,rfl⟩
def Does2 (K:PySem.W.Frag) (r:R2) (op:D→D→Option D):Prop:=∀ (H:Hp) (x y:V) (d1 d2:D) (f1 f2:List Addr) (d:D) (Q:VK),Rep K H d1 x f1→Rep K H d2 y f2→op d1 d2=some d →
 (∀ H' v,Same H H'→Rep K H' d v []→Q v H')→r x y H Q
theorem fp_2 {a b e:Expr}{fa fb:EF}{r:R2}{op:D→D→Option D} (dd:Does2 X.K r op) (ha:FP X a fa) (hb:FP X b fb) (he:∀ ta tb,PE X a ta→PE X b tb→PE X e (tOp r ta tb)):FP X e (e2 op fa fb):=by
 obtain ⟨ta,pa,sa⟩:=ha
 obtain ⟨tb,pb,sb⟩:=hb
 refine ⟨_,he ta tb pa pb,fun H0 S z held ρ σ H Q d tg ok e q=>?_⟩
 obtain ⟨d1,t1,d2,t2,e1,e2',e3,rfl⟩:=e2_of e
 refine sa H0 S z held ρ σ H _ d1 t1 ok e1 fun H1 x f1 s1 r1 _=>?_
 refine sb H0 S z held ρ σ H1 _ d2 t2 (ok.same s1) e2' fun H2 y f2 s2 r2 _=>?_
 exact dd H2 x y d1 d2 f1 f2 d Q (r1.same s2) r2 e3 fun H3 v s3 r3=>q H3 v [] ((s1.trans s2).trans s3) r3 .nil
end
end L2.Ev
namespace L2.Ev
open PySem PySem.Spec PyProof.Rows
def joinT:Tag→Tag→Tag
 | .sh o,.sh p=>.sh (o++p)
 | .sh o,_=>.sh o
 | _,t=>t
def joinA:List (D×Tag)→Tag
 | []=>.own
 | p::r=>joinT p.2 (joinA r)
def FA (X:Cx) (es:List Expr) (f:AF):Prop:=∃ t,PA X es t∧(∀ ρ ps,f ρ=some ps→ps.length=es.length)∧∀ (H0:Hp) (S:List Addr) (z:Addr→Option Nat) (held:List Held) (ρ:Rho) (σ:St) (H:Hp) (Q:List V→Hp→Prop) (ps:List (D×Tag)),
 Ok X.K H0 S z held ρ σ H→f ρ=some ps→(∀ H' vs fp,Same H H'→Reps X.K H' (ps.map (·.1)) vs fp→TagOk z H (joinA ps) fp→Q vs H')→t σ H Q
def aNil:AF:=fun _=>some []
def aCons (f:EF) (g:AF):AF:=fun ρ=>match f ρ,g ρ with
 | some p,some ps=>some (p::ps)
 | _,_=>none
theorem aCons_of {f:EF}{g:AF}{ρ:Rho}{ps:List (D×Tag)} (e:aCons f g ρ=some ps):∃ d t r,f ρ=some (d,t)∧g ρ=some r∧ps=(d,t)::r:=by
 unfold aCons at e
 cases h1:f ρ with
 | none=>rw [h1] at e;cases e
 | some p=>
  cases h2:g ρ with
  | none=>rw [h1,h2] at e;cases e
  | some r=>
   rw [h1,h2] at e
   cases e
   exact ⟨p.1,p.2,r,rfl,rfl,rfl⟩
theorem TagOk.join {K:PySem.W.Frag}{H0:Hp}{S:List Addr}{z:Addr→Option Nat}{held:List Held}{ρ:Rho}{σ:St}{H H1:Hp}{t1 t2:Tag}{f1 f2:List Addr} (ok:Ok K H0 S z held ρ σ H) (s:Same H H1)
  (h1:TagOk z H t1 f1) (d1:∀ a∈f1,∃ o,H1 a=some o∧MutO o=true) (h2:TagOk z H1 t2 f2):TagOk z H (joinT t1 t2) (f1++f2):=by
 have nz:∀ {a:Addr}{j:Nat},H a=none→z a=some j→False:=fun {a j} e q=>by
  obtain ⟨⟨o,w⟩,_⟩:=ok.zd a j q
  rw [e] at w;cases w
 have both:∀ {t1 t2:Tag},(f1.Nodup∧∀ a∈f1,H a=none)→(f2.Nodup∧∀ a∈f2,H1 a=none)→(f1++f2).Nodup∧∀ a∈f1++f2,H a=none:=fun p q=>by
  refine ⟨List.nodup_append.mpr ⟨p.1,q.1,fun a m b m' e=>?_⟩,fun a m=>?_⟩
  ·subst e
   obtain ⟨o,w,_⟩:=d1 a m
   rw [q.2 a m'] at w;cases w
  ·rcases List.mem_append.mp m with m | m
   ·exact p.2 a m
   ·exact s.free (q.2 a m)
 cases t1 with
 | sh o=>
  have h1':∀ a∈f1,∀ j,z a=some j→j∈o:=h1
  cases t2 with
  | sh p=>
   intro a m j q
   rcases List.mem_append.mp m with m | m
   ·exact List.mem_append_left _ (h1' a m j q)
   ·exact List.mem_append_right _ (h2 a m j q)
  | own=>
   intro a m j q
   rcases List.mem_append.mp m with m | m
   ·exact h1' a m j q
   ·exact (nz (s.free (h2.2 a m)) q).elim
  | lk=>
   intro a m j q
   rcases List.mem_append.mp m with m | m
   ·exact h1' a m j q
   ·exact (nz (s.free (h2.2 a m)) q).elim
 | own=>
  cases t2 with
  | sh p=>
   intro a m j q
   rcases List.mem_append.mp m with m | m
   ·exact (nz (h1.2 a m) q).elim
   ·exact h2 a m j q
  | own=>exact both (t1:=.own) (t2:=.own) h1 h2
  | lk=>exact both (t1:=.own) (t2:=.own) h1 h2
 | lk=>
  cases t2 with
  | sh p=>
   intro a m j q
   rcases List.mem_append.mp m with m | m
   ·exact (nz (h1.2 a m) q).elim
   ·exact h2 a m j q
  | own=>exact both (t1:=.own) (t2:=.own) h1 h2
  | lk=>exact both (t1:=.own) (t2:=.own) h1 h2
section
variable {X:Cx}{pos:Pos}
theorem fa_nil:FA X [] aNil:=⟨_,pa_nil,fun _ _ e=>by cases e;rfl,fun _ _ _ _ _ _ H _ _ _ e q=>by cases e;exact q H _ _ (Same.refl H) .nil .nil⟩
theorem fa_cons {e:Expr}{es:List Expr}{f:EF}{g:AF} (ha:FP X e f) (hr:FA X es g) (hs:starEach (e::es) X.env=(false,eval e X.env)::starEach es X.env:=by rfl):FA X (e::es) (aCons f g):=by
 obtain ⟨t,p,q⟩:=ha
 obtain ⟨t',p',l',q'⟩:=hr
 refine ⟨_,pa_cons p p' hs,fun ρ ps e=>by obtain ⟨d,tg,r,e1,e2,rfl⟩:=aCons_of e;rw [List.length_cons,List.length_cons,l' ρ r e2],fun H0 S z held ρ σ H Q ps ok e k=>?_⟩
 obtain ⟨d,tg,r,e1,e2,rfl⟩:=aCons_of e
 refine q H0 S z held ρ σ H _ d tg ok e1 fun H1 v f1 s1 r1 g1=>?_
 refine q' H0 S z held ρ σ H1 _ r (ok.same s1) e2 fun H2 vs f2 s2 r2 g2=>?_
 exact k H2 (v::vs) (f1++f2) (s1.trans s2) (.cons (r1.same s2) r2) (TagOk.join ok s1 g1 r1.dom g2)
def eTup (g:AF):EF:=fun ρ=>(g ρ).map fun ps=>(.tup (ps.map (·.1)),joinA ps)
theorem fp_tup {es:List Expr}{g:AF} {x1} (h:FA X es g) (hl:es.length≤1000:=by decide):FP X (.Tuple es x1 pos) (eTup g):=by
 obtain ⟨t,p,hg,q⟩:=h
 refine ⟨_,pe_tup p,fun H0 S z held ρ σ H Q d tg ok e k=>?_⟩
 unfold eTup at e
 cases h1:g ρ with
 | none=>rw [h1] at e;cases e
 | some ps=>
  rw [h1] at e
  cases e
  refine q H0 S z held ρ σ H _ ps ok h1 fun H1 vs fp s1 r1 g1=>⟨?_,fun a ha=>?_⟩
  ·rw [← r1.length,List.length_map,hg ρ ps h1]
   exact Nat.le_of_lt (small1000 hl)
  ·have s2:Same H1 (upd H1 a (.tup vs)):=fun b o e=>by rw [upd_ne (ne_of_none e ha)];exact e
   exact k _ _ fp (s1.trans s2) (.tup (SqT.of upd_same) (r1.same s2)) g1
end
def spF (K:PySem.W.Frag) (F:List D→Option D):Sp:=fun vs H Q _=>∃ ds fp d,Reps K H ds vs fp∧F ds=some d∧∀ H' v fp',Same H H'→Rep K H' d v fp'→fp'.Nodup→(∀ a∈fp',H a=none)→Q v H'
def eCall (F:List D→Option D) (g:AF):EF:=fun ρ=>(g ρ).bind fun ps=>(F (ps.map (·.1))).map fun d=>(d,.own)
theorem eCall_of {F:List D→Option D}{g:AF}{ρ:Rho}{d:D}{tg:Tag} (e:eCall F g ρ=some (d,tg)):∃ ps,g ρ=some ps∧F (ps.map (·.1))=some d∧tg=.own:=by
 unfold eCall at e
 cases h1:g ρ with
 | none=>rw [h1] at e;cases e
 | some ps=>
  rw [h1,Option.bind_some] at e
  cases h2:F (ps.map (·.1)) with
  | none=>rw [h2] at e;cases e
  | some d'=>
   rw [h2] at e
   cases e
   exact ⟨ps,rfl,h2,rfl⟩
section
variable {X:Cx}{x:Str}{p pos:Pos}{e:Expr}{es:List Expr}{k:Nat}{f:Addr}{fd:FuncData}{ps:List Str}{F:List D→Option D}{g:AF}
theorem fp_call {cm:Bool} (G:FnOk X.prog X.w X.K X.mg X.base CX0 k f fd ps (spF X.K F) cm) (hr:Room k X.A cm) (hm:X.mg x=some (.ref f)) (hk:PySem.W.keepIn X.K (.ref f)=true) (hb:Binds X.K fd ps []) (ha:FA X (e::es) g)
  (hg:Gl X x:=by rfl) (hdb:(x == ("__debug__":Str))=false:=by decide)
  (he:starEach (e::es) X.env=(false,eval e X.env)::starEach es X.env:=by rfl) (hpl:(backTo pos (starEach es X.env)).any (·.1)=false:=by rfl):FP X (.Call (.Name x p) (e::es) [] pos) (eCall F g):=by
 obtain ⟨t,pa,_,sa⟩:=ha
 refine ⟨_,pe_call G hr hg hm hk hb .nil pass0 pa hdb he hpl,fun H0 S z held ρ σ H Q d tg ok e0 q=>?_⟩
 obtain ⟨qs,e1,e2,rfl⟩:=eCall_of e0
 refine sa H0 S z held ρ σ H _ qs ok e1 fun H1 vs fp s1 r1 _=>?_
 rw [List.append_nil]
 exact ⟨_,fp,d,r1,e2,fun H2 v fp' s2 r2 nd fr=>q H2 v fp' (s1.trans s2) r2 ⟨nd,fun a m=>s1.free (fr a m)⟩⟩
end
section
variable {X:Cx}{pos:Pos}
def tV (f:EF):TF:=fun ρ=>match f ρ with
 | some (.bl b,_)=>some b
 | _=>none
theorem tV_of {f:EF}{ρ:Rho}{b:Bool} (e:tV f ρ=some b):∃ t,f ρ=some (.bl b,t):=by
 unfold tV at e
 cases h:f ρ with
 | none=>rw [h] at e;cases e
 | some p=>
  obtain ⟨d,t⟩:=p
  rw [h] at e
  cases d <;> first | (cases e;exact ⟨t,rfl⟩) | cases e
theorem ft_val {e:Expr}{f:EF} (h:FP X e f) (he:∀ whole,isTrue e X.env whole=(do let v ← whole;standAt e.pos;holding [v] (truthy v)):=by intro _;rfl):FT X e (tV f):=by
 obtain ⟨t,p,q⟩:=h
 refine ⟨_,pt_val p he,fun H0 S z held ρ σ H Q b ok e k=>?_⟩
 obtain ⟨tg,e1⟩:=tV_of e
 refine q H0 S z held ρ σ H _ _ tg ok e1 fun H1 v fp s1 r1 _=>?_
 cases r1
 exact ⟨b,rfl,k H1 s1⟩
theorem ft_cmp {op:CmpOp}{r:R2}{o:D→D→Option D}{a b:Expr}{fa fb:EF} (ho:OpR X (compareOp op) r) (dd:Does2 X.K r o) (ha:FP X a fa) (hb:FP X b fb) (hm:behindInMarks op b=false):FT X (.Compare a [op] [b] pos) (tV (e2 o fa fb)):=by
 obtain ⟨ta,pa,sa⟩:=ha
 obtain ⟨tb,pb,sb⟩:=hb
 refine ⟨_,pt_cmpR ho pa pb hm,fun H0 S z held ρ σ H Q c ok e k=>?_⟩
 obtain ⟨tg,e0⟩:=tV_of e
 obtain ⟨d1,t1,d2,t2,e1,e2',e3,rfl⟩:=e2_of e0
 refine sa H0 S z held ρ σ H _ d1 t1 ok e1 fun H1 x f1 s1 r1 _=>?_
 refine sb H0 S z held ρ σ H1 _ d2 t2 (ok.same s1) e2' fun H2 y f2 s2 r2 _=>?_
 refine dd H2 x y d1 d2 f1 f2 _ _ (r1.same s2) r2 e3 fun H3 v s3 r3=>?_
 cases r3
 exact ⟨c,rfl,k H3 ((s1.trans s2).trans s3)⟩
theorem fp_cmp {op:CmpOp}{r:R2}{o:D→D→Option D}{a b:Expr}{fa fb:EF} (ho:OpR X (compareOp op) r) (dd:Does2 X.K r o) (ha:FP X a fa) (hb:FP X b fb) (hm:behindInMarks op b=false):FP X (.Compare a [op] [b] pos) (e2 o fa fb):=
 fp_2 dd ha hb fun _ _ pa pb=>pe_cmpR ho pa pb hm
theorem fp_bin {op:Operator}{r:R2}{o:D→D→Option D}{a b:Expr}{fa fb:EF} (ho:OpR X (binaryOp op) r) (dd:Does2 X.K r o) (ha:FP X a fa) (hb:FP X b fb):FP X (.BinOp a op b pos) (e2 o fa fb):=
 fp_2 dd ha hb fun _ _ pa pb=>pe_op ho pa pb
def tAnd2 (f g:TF):TF:=fun ρ=>match f ρ with
 | some true=>g ρ
 | some false=>some false
 | none=>none
def tOr2 (f g:TF):TF:=fun ρ=>match f ρ with
 | some true=>some true
 | some false=>g ρ
 | none=>none
def tNot1 (f:TF):TF:=fun ρ=>(f ρ).map fun b=>!b
def FW (X:Cx) (e:Expr) (f:TF):Prop:=∃ t,PW X e t∧∀ (H0:Hp) (S:List Addr) (z:Addr→Option Nat) (held:List Held) (ρ:Rho) (σ:St) (H:Hp) (Q:Bool→Hp→Prop) (b:Bool),
 Ok X.K H0 S z held ρ σ H→f ρ=some b→(∀ H',Same H H'→Q b H')→t σ H Q
theorem FW.ft {e:Expr}{f:TF} (h:FW X e f):FT X e f:=let ⟨t,p,q⟩:=h;⟨t,p.pt,q⟩
theorem fw_and1 {a:Expr}{f:TF} (h:FT X a f):FW X (.BoolOp .And [a] pos) f:=let ⟨t,p,q⟩:=h;⟨t,pw_and1 p,q⟩
theorem fw_or1 {a:Expr}{f:TF} (h:FT X a f):FW X (.BoolOp .Or [a] pos) f:=let ⟨t,p,q⟩:=h;⟨t,pw_or1 p,q⟩
theorem fw_and {a b:Expr}{rest:List Expr}{f g:TF} (ha:FT X a f) (hb:FW X (.BoolOp .And (b::rest) pos) g):FW X (.BoolOp .And (a::b::rest) pos) (tAnd2 f g):=by
 obtain ⟨t,p,q⟩:=ha
 obtain ⟨t',p',q'⟩:=hb
 refine ⟨_,pw_and p p',fun H0 S z held ρ σ H Q c ok e k=>?_⟩
 unfold tAnd2 at e
 cases h:f ρ with
 | none=>rw [h] at e;cases e
 | some y=>
  rw [h] at e
  cases y with
  | false=>
   cases e
   refine q H0 S z held ρ σ H _ false ok h fun H1 s1=>?_
   rw [if_neg Bool.false_ne_true]
   exact k H1 s1
  | true=>
   refine q H0 S z held ρ σ H _ true ok h fun H1 s1=>?_
   rw [if_pos rfl]
   exact q' H0 S z held ρ σ H1 _ c (ok.same s1) e fun H2 s2=>k H2 (s1.trans s2)
theorem fw_or {a b:Expr}{rest:List Expr}{f g:TF} (ha:FT X a f) (hb:FW X (.BoolOp .Or (b::rest) pos) g):FW X (.BoolOp .Or (a::b::rest) pos) (tOr2 f g):=by
 obtain ⟨t,p,q⟩:=ha
 obtain ⟨t',p',q'⟩:=hb
 refine ⟨_,pw_or p p',fun H0 S z held ρ σ H Q c ok e k=>?_⟩
 unfold tOr2 at e
 cases h:f ρ with
 | none=>rw [h] at e;cases e
 | some y=>
  rw [h] at e
  cases y with
  | true=>
   cases e
   refine q H0 S z held ρ σ H _ true ok h fun H1 s1=>?_
   rw [if_pos rfl]
   exact k H1 s1
  | false=>
   refine q H0 S z held ρ σ H _ false ok h fun H1 s1=>?_
   rw [if_neg Bool.false_ne_true]
   exact q' H0 S z held ρ σ H1 _ c (ok.same s1) e fun H2 s2=>k H2 (s1.trans s2)
theorem ft_not {a:Expr}{f:TF} (ha:FT X a f):FT X (.UnaryOp .Not a pos) (tNot1 f):=by
 obtain ⟨t,p,q⟩:=ha
 refine ⟨_,pt_not p,fun H0 S z held ρ σ H Q c ok e k=>?_⟩
 unfold tNot1 at e
 cases h:f ρ with
 | none=>rw [h] at e;cases e
 | some y=>
  rw [h] at e
  cases e
  exact q H0 S z held ρ σ H _ y ok h fun H1 s1=>k H1 s1
end
inductive Out where
 | nx (ρ:Rho) | rt (d:D) | bk (ρ:Rho) | ct (ρ:Rho)
 | er (raw:Bool) (cn:XN) (ρ:Rho)
abbrev SF:=Rho→Option Out
def kpt (X:Cx) (x:Str):Bool:=x == ("self":Str)||(X.fn ("self":Str)&&!X.fn x)
def Kp (X:Cx) (σ σ':St):Prop:=∀ (i:Nat) (x:Str),X.N[i]? = some x→kpt X x=true→σ'[i]? = σ[i]?
theorem Kp.refl (X:Cx) (σ:St):Kp X σ σ:=fun _ _ _ _=>rfl
theorem Kp.trans {X:Cx}{σ σ1 σ2:St} (a:Kp X σ σ1) (b:Kp X σ1 σ2):Kp X σ σ2:=fun i x h k=>(b i x h k).trans (a i x h k)
theorem Kp.set {X:Cx}{σ:St}{i:Nat}{x:Str}{v:Option V} (hi:X.N[i]? = some x) (hs:kpt X x=false):Kp X σ (σ.set i v):=fun j y h k=>by
 refine List.getElem?_set_ne fun e=>?_
 subst e
 rw [hi] at h
 have h:=Option.some.inj h
 subst h
 rw [hs] at k;cases k
def PostE (X:Cx) (H0:Hp) (S:List Addr) (held:List Held) (σ0:St) (raw:Bool) (cn:XN) (ρ:Rho):Prop:=∃ ES:XS,(if raw=true then ThrowsN X ES else ThrowsT X ES) ∧
 ∀ z σ H C,Ok X.K H0 S z held ρ σ H→Kp X σ0 σ→PySem.W.nsIn X.K mainGlobals cn.1=some (some (.ref C))→ES (.ref C) cn.2 σ H
theorem PostE.of {X:Cx}{H0:Hp}{S:List Addr}{held:List Held}{σ σ':St}{raw:Bool}{cn:XN}{ρ:Rho} (k:PostE X H0 S held σ raw cn ρ) (a:Kp X σ σ'):PostE X H0 S held σ' raw cn ρ:=
 let ⟨ES,th,q⟩:=k;⟨ES,th,fun z s H C ok b hC=>q z s H C ok (a.trans b) hC⟩
def Post (X:Cx) (H0:Hp) (S:List Addr) (held:List Held) (σ0:St) (E:Ends):Out→Prop
 | .nx ρ=>∀ z σ H,Ok X.K H0 S z held ρ σ H→Kp X σ0 σ→E.nx σ H
 | .bk ρ=>∀ z σ H,Ok X.K H0 S z held ρ σ H→Kp X σ0 σ→E.bk σ H
 | .ct ρ=>∀ z σ H,Ok X.K H0 S z held ρ σ H→Kp X σ0 σ→E.ct σ H
 | .er raw cn ρ=>PostE X H0 S held σ0 raw cn ρ
 | .rt d=>∀ H v fp,(∀ a o,H0 a=some o→a∉S→H a=some o)→Rep X.K H d v fp→fp.Nodup→(∀ a∈fp,H0 a=none∨a∈S)→E.rt v H
def FS (X:Cx) (st:List Stmt) (f:SF):Prop:=∃ t,PSs X st t∧∀ (H0:Hp) (S:List Addr) (z:Addr→Option Nat) (held:List Held) (ρ:Rho) (σ:St) (H:Hp) (E:Ends) (o:Out),
 Ok X.K H0 S z held ρ σ H→f ρ=some o→Post X H0 S held σ E o→t E σ H
def FS1 (X:Cx) (st:Stmt) (f:SF):Prop:=∃ t,PS X st t∧∀ (H0:Hp) (S:List Addr) (z:Addr→Option Nat) (held:List Held) (ρ:Rho) (σ:St) (H:Hp) (E:Ends) (o:Out),
 Ok X.K H0 S z held ρ σ H→f ρ=some o→Post X H0 S held σ E o→t E σ H
theorem Post.of {X:Cx}{H0:Hp}{S:List Addr}{held:List Held}{σ σ':St}{E:Ends}{o:Out} (k:Post X H0 S held σ E o) (a:Kp X σ σ'):Post X H0 S held σ' E o:=by
 cases o with
 | nx ρ=>exact fun z s H ok b=>k z s H ok (a.trans b)
 | bk ρ=>exact fun z s H ok b=>k z s H ok (a.trans b)
 | ct ρ=>exact fun z s H ok b=>k z s H ok (a.trans b)
 | rt d=>exact k
 | er raw cn ρ=>exact PostE.of k a
def sNx:SF:=fun ρ=>some (.nx ρ)
def sSeq (f g:SF):SF:=fun ρ=>match f ρ with
 | some (.nx ρ')=>g ρ'
 | o=>o
section
variable {X:Cx}{pos:Pos}
theorem fs_nil:FS X [] sNx:=⟨_,pss_nil,fun _ _ z _ _ σ H _ _ ok e k=>by cases e;exact k z σ H ok (.refl _ _)⟩
theorem fs_one {st:Stmt}{f:SF} (h:FS1 X st f):FS X [st] f:=let ⟨t,p,q⟩:=h;⟨t,pss_one p,q⟩
theorem fs_cons {st:Stmt}{rest:List Stmt}{f g:SF} (h1:FS1 X st f) (h2:FS X rest g):FS X (st::rest) (sSeq f g):=by
 obtain ⟨t,p,q⟩:=h1
 obtain ⟨t',p',q'⟩:=h2
 refine ⟨_,pss_cons p p',fun H0 S z held ρ σ H E o ok e k=>?_⟩
 unfold sSeq at e
 cases h:f ρ with
 | none=>rw [h] at e;cases e
 | some w=>
  refine q H0 S z held ρ σ H _ w ok h ?_
  rw [h] at e
  cases w with
  | nx ρ'=>exact fun z' σ' H' ok' a=>q' H0 S z' held ρ' σ' H' E o ok' e (k.of a)
  | rt d=>cases e;exact k
  | bk ρ'=>cases e;exact k
  | ct ρ'=>cases e;exact k
  | er _ _ _=>cases e;exact k
def sNo:SF:=fun _=>none
theorem fs_no {st:Stmt}:FS1 X st sNo:=⟨_,ps_never,fun _ _ _ _ _ _ _ _ _ _ e _=>by cases e⟩
def sIf (c:TF) (f g:SF):SF:=fun ρ=>match c ρ with
 | some true=>f ρ
 | some false=>g ρ
 | none=>none
theorem fs_if {c:Expr}{a b:List Stmt}{tc:TF}{f g:SF} (hc:FT X c tc) (ha:FS X a f) (hb:FS X b g):FS1 X (.If c a b pos) (sIf tc f g):=by
 obtain ⟨t,p,q⟩:=hc
 obtain ⟨t1,p1,q1⟩:=ha
 obtain ⟨t2,p2,q2⟩:=hb
 refine ⟨_,ps_if p p1 p2,fun H0 S z held ρ σ H E o ok e k=>?_⟩
 unfold sIf at e
 cases h:tc ρ with
 | none=>rw [h] at e;cases e
 | some y=>
  rw [h] at e
  refine q H0 S z held ρ σ H _ y ok h fun H1 s1=>?_
  cases y with
  | true=>rw [if_pos rfl];exact q1 H0 S z held ρ σ H1 E o (ok.same s1) e k
  | false=>rw [if_neg Bool.false_ne_true];exact q2 H0 S z held ρ σ H1 E o (ok.same s1) e k
def isOwn:Tag→Bool
 | .sh _=>false
 | _=>true
def sRet (f:EF):SF:=fun ρ=>match f ρ with
 | some (d,t)=>if isOwn t=true then some (.rt d) else if imm d=true then some (.rt d) else none
 | none=>none
theorem fs_ret {e:Expr}{f:EF} (he:FP X e f):FS1 X (.Return (some e) pos) (sRet f):=by
 obtain ⟨t,p,q⟩:=he
 refine ⟨_,ps_ret p,fun H0 S z held ρ σ H E o ok e k=>?_⟩
 unfold sRet at e
 cases h:f ρ with
 | none=>rw [h] at e;cases e
 | some w=>
  obtain ⟨d,tg⟩:=w
  rw [h] at e
  dsimp only at e
  refine q H0 S z held ρ σ H _ d tg ok h fun H1 v fp s1 r1 g1=>?_
  have en:∀ a o,H0 a=some o→a∉S→H1 a=some o:=fun a o e n=>s1 _ _ (ok.en a o e n)
  by_cases ho:isOwn tg=true
  ·rw [if_pos ho] at e
   cases e
   have g:fp.Nodup∧∀ a∈fp,H a=none:=by cases tg <;> first | exact g1 | cases ho
   refine k H1 v fp en r1 g.1 fun a m=>?_
   cases h0:H0 a with
   | none=>exact .inl rfl
   | some o=>
    by_cases hs:a∈S
    ·exact .inr hs
    ·have w:=ok.en a o h0 hs
     rw [g.2 a m] at w;cases w
  ·rw [if_neg ho] at e
   by_cases hi:imm d=true
   ·rw [if_pos hi] at e
    cases e
    have hn:=r1.imm hi
    subst hn
    exact k H1 v [] en r1 List.nodup_nil fun a m=>nomatch m
   ·rw [if_neg hi] at e;cases e
def sRetV (i:Nat):SF:=fun ρ=>match ρ[i]? with
 | some (some (d,t))=>if isOwn t=true then some (.rt d) else if imm d=true then some (.rt d) else none
 | _=>none
theorem fs_retV (i:Nat) {x:Str}{pos':Pos} (hN:X.N[i]? = some x:=by rfl) (hv:Vis X.env.scope x:=by first | exact Or.inl rfl | exact Or.inr (Or.inl rfl) | exact Or.inr (Or.inr rfl)) (hd:(x == ("__debug__":Str))=false:=by decide)
  (hcd:(x == ("__classdict__":Str))=false:=by decide):FS1 X (.Return (some (.Name x pos')) pos) (sRetV i):=by
 refine ⟨_,ps_ret (pe_var (i:=i) hN hv hd hcd),fun H0 S z held ρ σ H E o ok e k=>?_⟩
 unfold sRetV at e
 cases h:ρ[i]? with
 | none=>rw [h] at e;cases e
 | some w=>
  cases w with
  | none=>rw [h] at e;cases e
  | some w=>
   obtain ⟨d,tg⟩:=w
   rw [h] at e
   dsimp only at e
   obtain ⟨v,fp,hs,r,zz⟩:=ok.sl i d tg h
   refine ⟨v,hs,?_⟩
   by_cases ho:isOwn tg=true
   ·rw [if_pos ho] at e
    cases e
    have g:fp.Nodup∧∀ a∈fp,z a=some i:=by cases tg <;> first | exact zz | cases ho
    exact k H v fp ok.en r g.1 fun a m=>(ok.zd a i (g.2 a m)).2
   ·rw [if_neg ho] at e
    by_cases hi:imm d=true
    ·rw [if_pos hi] at e
     cases e
     have hn:=r.imm hi
     subst hn
     exact k H v [] ok.en r List.nodup_nil fun a m=>nomatch m
    ·rw [if_neg hi] at e;cases e
def setS (ρ:Rho) (i:Nat) (d:D):Tag→Rho
 | .sh o=>ρ.set i (some (d,.sh o))
 | _=>ρ.set i (some (d,.own))
def sSet (i:Nat) (f:EF):SF:=fun ρ=>match f ρ with
 | some (d,t)=>some (.nx (setS ρ i d t))
 | none=>none
theorem Ok.set {K:PySem.W.Frag}{H0:Hp}{S:List Addr}{z:Addr→Option Nat}{held:List Held}{ρ:Rho}{σ:St}{H H1:Hp}{i:Nat}{d:D}{t:Tag}{v:V}{fp:List Addr} (ok:Ok K H0 S z held ρ σ H) (hi:i < σ.length) (s:Same H H1)
  (r:Rep K H1 d v fp) (g:TagOk z H t fp):∃ z',Ok K H0 S z' held (setS ρ i d t) (σ.set i (some v)) H1:=by
 classical
 have hiρ:i < ρ.length:=by rw [ok.ln];exact hi
 have dH:∀ {a:Addr},H a=none→z a=none:=fun {a} e=>by
  cases q:z a with
  | none=>rfl
  | some j=>obtain ⟨⟨o,w⟩,_⟩:=ok.zd a j q;rw [e] at w;cases w
 have main:∀ (fo:List Addr) (tg:Tag),(∀ a∈fo,H a=none∧∃ o,H1 a=some o)→InZ (fun a=>if a∈fo then some i else if z a=some i then none else z a) i tg fp →
   Ok K H0 S (fun a=>if a∈fo then some i else if z a=some i then none else z a) held (ρ.set i (some (d,tg))) (σ.set i (some v)) H1:=by
  intro fo tg hfo hz
  have old:∀ {fp':List Addr},(∀ a∈fp',∃ o,H a=some o∧MutO o=true)→∀ a∈fp',(if a∈fo then some i else if z a=some i then none else z a)=(if z a=some i then none else z a):=fun {fp'} h a m=>by
   rw [if_neg fun q=>?_]
   obtain ⟨o,w,_⟩:=h a m
   rw [(hfo a q).1] at w;cases w
  refine ⟨fun j d' t' e=>?_,fun p hp=>?_,fun a j e=>?_,fun a o e n=>s _ _ (ok.en a o e n),by rw [List.length_set,List.length_set];exact ok.ln⟩
  ·by_cases hj:j=i
   ·subst hj
    rw [List.getElem?_set_self hiρ] at e
    cases e
    exact ⟨v,fp,List.getElem?_set_self hi,r,hz⟩
   ·rw [List.getElem?_set_ne (Ne.symm hj)] at e
    obtain ⟨v',fp',hs',r',z'⟩:=ok.sl j d' t' e
    refine ⟨v',fp',by rw [List.getElem?_set_ne (Ne.symm hj)];exact hs',r'.same s,?_⟩
    have o1:=old r'.dom
    cases t' with
    | sh o=>
     intro a m k q
     dsimp only at q
     rw [o1 a m] at q
     by_cases w:z a=some i
     ·rw [if_pos w] at q;cases q
     ·rw [if_neg w] at q;exact z' a m k q
    | own=>exact ⟨z'.1,fun a m=>by dsimp only;rw [o1 a m,if_neg (by rw [z'.2 a m];intro w;exact hj (Option.some.inj w))];exact z'.2 a m⟩
    | lk=>exact ⟨z'.1,fun a m=>by dsimp only;rw [o1 a m,if_neg (by rw [z'.2 a m];intro w;exact hj (Option.some.inj w))];exact z'.2 a m⟩
  ·obtain ⟨r',hl'⟩:=ok.hl p hp
   refine ⟨r'.same s,fun a m j q=>?_⟩
   rw [old r'.dom a m] at q
   by_cases w:z a=some i
   ·rw [if_pos w] at q;cases q
   ·rw [if_neg w] at q
    obtain ⟨z0',e'⟩:=hl' a m j q
    have hj:j≠i:=fun e=>w (by rw [← e];exact q)
    exact ⟨z0',fun d'=>by rw [List.getElem?_set_ne (Ne.symm hj)];exact e' d'⟩
  ·by_cases w:a∈fo
   ·obtain ⟨w1,w2⟩:=hfo a w
    refine ⟨w2,?_⟩
    cases h0:H0 a with
    | none=>exact .inl rfl
    | some o=>
     by_cases hs:a∈S
     ·exact .inr hs
     ·have q:=ok.en a o h0 hs
      rw [w1] at q;cases q
   ·rw [if_neg w] at e
    by_cases w':z a=some i
    ·rw [if_pos w'] at e;cases e
    ·rw [if_neg w'] at e
     obtain ⟨⟨o,x⟩,y⟩:=ok.zd a j e
     exact ⟨⟨o,s _ _ x⟩,y⟩
 have own:(fp.Nodup∧∀ a∈fp,H a=none)→Ok K H0 S (fun a=>if a∈fp then some i else if z a=some i then none else z a) held (ρ.set i (some (d,.own))) (σ.set i (some v)) H1:=fun g=>
  main fp .own (fun a m=>⟨g.2 a m,let ⟨o,w,_⟩:=r.dom a m;⟨o,w⟩⟩) ⟨g.1,fun a m=>if_pos m⟩
 cases t with
 | own=>exact ⟨_,own g⟩
 | lk=>exact ⟨_,own g⟩
 | sh o=>
  refine ⟨_,main [] (.sh o) (fun a m=>nomatch m) fun a m j q=>?_⟩
  have q:(if a∈([]:List Addr) then some i else if z a=some i then none else z a)=some j:=q
  rw [if_neg (show ¬ a∈([]:List Addr) from fun w=>nomatch w)] at q
  by_cases w:z a=some i
  ·rw [if_pos w] at q;cases q
  ·rw [if_neg w] at q;exact g a m j q
theorem Ok.stored {K:PySem.W.Frag}{H0:Hp}{S:List Addr}{z:Addr→Option Nat}{held:List Held}{ρ:Rho}{σ:St}{H H1:Hp}{i:Nat}{d:D}{t:Tag}{v:V}{fp:List Addr}{G:Prop} (ok:Ok K H0 S z held ρ σ H) (s:Same H H1)
  (r:Rep K H1 d v fp) (g:TagOk z H t fp) (k:∀ z',Ok K H0 S z' held (setS ρ i d t) (σ.set i (some v)) H1→G):G:=by
 by_cases hi:i < σ.length
 ·obtain ⟨z',ok'⟩:=ok.set hi s r g
  exact k z' ok'
 ·have e1:σ.set i (some v)=σ:=List.set_eq_of_length_le (Nat.le_of_not_lt hi)
  have e2:∀ w,ρ.set i w=ρ:=fun w=>List.set_eq_of_length_le (by rw [ok.ln];exact Nat.le_of_not_lt hi)
  have e3:setS ρ i d t=ρ:=by cases t <;> exact e2 _
  refine k z ?_
  rw [e1,e3]
  exact ok.same s
theorem fs_set (i:Nat) {x:Str}{e:Expr}{f:EF}{pos':Pos} (he:FP X e f) (hN:X.N.Nodup) (hi:X.N[i]? = some x:=by rfl) (hx:Loc X.env.scope x:=by first | exact Or.inl rfl | exact Or.inr rfl)
  (hs:swapsWith e (some (.Name x pos')) pos.line X.env=pure false:=by rfl) (hf:X.fn x=true∨X.env.scope.names.lookup x=some .local:=by first | exact .inl rfl | exact .inr rfl) (hself:kpt X x=false:=by rfl):FS1 X (.Assign [.Name x pos'] e pos) (sSet i f):=by
 obtain ⟨t,p,q⟩:=he
 refine ⟨_,ps_set (i:=i) hN hi hx p hs hf,fun H0 S z held ρ σ H E o ok e k=>?_⟩
 unfold sSet at e
 cases h:f ρ with
 | none=>rw [h] at e;cases e
 | some w=>
  obtain ⟨d,tg⟩:=w
  rw [h] at e
  cases e
  refine q H0 S z held ρ σ H _ d tg ok h fun H1 v fp s1 r1 g1=>?_
  exact ok.stored s1 r1 g1 fun z' ok'=>k z' _ H1 ok' (.set hi hself)
end
abbrev GF:=D→Tag→Rho→Option Rho
def FG (X:Cx) (tg:Expr) (g:GF) (is:List Nat):Prop:=(∀ i∈is,∀ x,X.N[i]? = some x→kpt X x=false)∧∃ t,PG X tg t∧∀ (H0:Hp) (S:List Addr) (z:Addr→Option Nat) (held:List Held) (ρ:Rho) (σ:St) (H H1:Hp) (v:V) (d:D) (tag:Tag) (fp:List Addr) (Q:St→Hp→Prop) (ρ':Rho),
 Ok X.K H0 S z held ρ σ H→Same H H1→Rep X.K H1 d v fp→TagOk z H tag fp→g d tag ρ=some ρ'→(∀ z' σ',Ok X.K H0 S z' held ρ' σ' H1→(σ'.length=σ.length∧∀ j,j∉is→σ'[j]? = σ[j]?)→Q σ' H1)→t v σ H1 Q
def gN (i:Nat):GF:=fun d t ρ=>some (setS ρ i d t)
abbrev GsF:=List D→Rho→Option Rho
theorem Kp.off {X:Cx}{σ σ':St}{is:List Nat} (hk:∀ i∈is,∀ x,X.N[i]? = some x→kpt X x=false) (h:∀ j,j∉is→σ'[j]? = σ[j]?):Kp X σ σ':=fun i x e k=>h i fun m=>by rw [hk i m x e] at k;cases k
def FGs (X:Cx) (ts:List Expr) (g:GsF) (is:List Nat):Prop:=(∀ i∈is,∀ x,X.N[i]? = some x→kpt X x=false)∧∃ t,PGs X ts t∧(∀ ds ρ ρ',g ds ρ=some ρ'→ds.length=ts.length)∧∀ (H0:Hp) (S:List Addr) (z:Addr→Option Nat) (held:List Held) (ρ:Rho) (σ:St) (H:Hp) (vs:List V) (ds:List D) (fp:List Addr) (Q:St→Hp→Prop) (ρ':Rho),
 Ok X.K H0 S z held ρ σ H→Reps X.K H ds vs fp→g ds ρ=some ρ'→(∀ z' σ',Ok X.K H0 S z' held ρ' σ' H→(σ'.length=σ.length∧∀ j,j∉is→σ'[j]? = σ[j]?)→Q σ' H)→t vs σ H Q
def gsNil:GsF:=fun ds ρ=>match ds with
 | []=>some ρ
 | _=>none
def gsCons (g:GF) (gs:GsF):GsF:=fun ds ρ=>match ds with
 | d::r=>if imm d=true then (g d .own ρ).bind fun ρ'=>gs r ρ' else none
 | _=>none
theorem gsCons_of {g:GF}{gs:GsF}{ds:List D}{ρ ρ':Rho} (e:gsCons g gs ds ρ=some ρ'):∃ d r ρ1,ds=d::r∧imm d=true∧g d .own ρ=some ρ1∧gs r ρ1=some ρ':=by
 cases ds with
 | nil=>cases e
 | cons d r=>
  unfold gsCons at e
  dsimp only at e
  by_cases hi:imm d=true
  ·rw [if_pos hi] at e
   cases h:g d .own ρ with
   | none=>rw [h] at e;cases e
   | some ρ1=>
    rw [h,Option.bind_some] at e
    exact ⟨d,r,ρ1,rfl,hi,h,e⟩
  ·rw [if_neg hi] at e;cases e
def gT (gs:GsF):GF:=fun d _ ρ=>match d with
 | .tup ds=>gs ds ρ
 | _=>none
section
variable {X:Cx}{pos:Pos}
theorem fg_name (i:Nat) {x:Str} (hN:X.N.Nodup) (hi:X.N[i]? = some x:=by rfl) (hx:Loc X.env.scope x:=by first | exact Or.inl rfl | exact Or.inr rfl) (hf:X.fn x=true∨X.env.scope.names.lookup x=some .local:=by first | exact .inl rfl | exact .inr rfl) (hself:kpt X x=false:=by rfl):FG X (.Name x pos) (gN i) [i]:=by
 refine ⟨fun j m y e=>by rw [List.mem_singleton.mp m,hi] at e;have e:=Option.some.inj e;subst e;exact hself,_,pg_name (i:=i) hN hi hx hf,fun H0 S z held ρ σ H H1 v d tag fp Q ρ' ok s r g e k=>?_⟩
 cases e
 exact ok.stored s r g fun z' ok'=>k z' _ ok' ⟨List.length_set ..,fun j hj=>List.getElem?_set_ne fun e=>hj (by rw [e];exact List.mem_cons_self)⟩
theorem fgs_nil:FGs X [] gsNil []:=by
 refine ⟨fun j m=>(nomatch m),_,pgs_nil,fun ds ρ ρ' e=>?_,fun H0 S z held ρ σ H vs ds fp Q ρ' ok r e k=>?_⟩
 ·cases ds with
  | nil=>rfl
  | cons _ _=>cases e
 ·cases ds with
  | nil=>cases r;cases e;exact ⟨rfl,k z σ ok ⟨rfl,fun _ _=>rfl⟩⟩
  | cons _ _=>cases e
theorem fgs_cons {e:Expr}{es:List Expr}{g:GF}{gs:GsF}{is ks:List Nat} (h1:FG X e g is) (h2:FGs X es gs ks) (hs:(assignEach (e::es) X.env).map (·.2)=assign e X.env::(assignEach es X.env).map (·.2):=by rfl):FGs X (e::es) (gsCons g gs) (is++ks):=by
 obtain ⟨n1,t,p,q⟩:=h1
 obtain ⟨n2,t',p',l',q'⟩:=h2
 refine ⟨fun j m=>(List.mem_append.mp m).elim (n1 j) (n2 j),_,pgs_cons p p' hs,fun ds ρ ρ' e=>?_,fun H0 S z held ρ σ H vs ds fp Q ρ' ok r e k=>?_⟩
 ·obtain ⟨d,r,ρ1,rfl,_,_,h⟩:=gsCons_of e
  rw [List.length_cons,List.length_cons,l' r ρ1 ρ' h]
 ·obtain ⟨d,dr,ρ1,rfl,hi,h1,h2⟩:=gsCons_of e
  cases r with
  | @cons _ v _ vr f1 f2 r1 r2=>
   have hn:=r1.imm hi
   subst hn
   exact ⟨v,vr,rfl,q H0 S z held ρ σ H H v d .own [] _ ρ1 ok (Same.refl H) r1 .nil h1 fun z1 σ1 ok1 a1=>q' H0 S z1 held ρ1 σ1 H vr dr f2 Q ρ' ok1 r2 h2 fun z2 σ2 ok2 a2=>k z2 σ2 ok2 ⟨a2.1.trans a1.1,fun j hj=>(a2.2 j fun m=>hj (List.mem_append_right _ m)).trans (a1.2 j fun m=>hj (List.mem_append_left _ m))⟩⟩
theorem fg_tup {es:List Expr}{k:Nat}{gs:GsF}{is:List Nat} (hc:X.calm=true) (h:FGs X es gs is) (hn:(assignEach es X.env).length=es.length:=by rfl) (hst:(assignEach es X.env).findIdx? (·.1)=none:=by rfl):FG X (.Tuple es k pos) (gT gs) is:=by
 obtain ⟨n1,t,p,l,q⟩:=h
 refine ⟨n1,_,pg_tup hc p hn hst,fun H0 S z held ρ σ H H1 v d tag fp Q ρ' ok s r g e k=>?_⟩
 cases r with
 | @tup a xs ds fp hq rs=>
  have e:gs ds ρ=some ρ':=e
  exact ⟨a,xs,rfl,hq,by rw [← rs.length];exact l ds ρ ρ' e,q H0 S z held ρ σ H1 xs ds fp Q ρ' (ok.same s) rs e k⟩
 | _=>cases e
def sAsg (f:EF) (g:GF):SF:=fun ρ=>match f ρ with
 | some (d,t)=>(g d t ρ).map .nx
 | none=>none
theorem fs_asg {tg e:Expr}{f:EF}{g:GF}{is:List Nat} (he:FP X e f) (hg:FG X tg g is) (hs:swapsWithSole [tg] e pos.line X.env=pure false:=by rfl) (hw:swappedStores [tg] e X.env=pure none:=by rfl)
  (h1:(assignEach [tg] X.env).map (·.2)=[assign tg X.env]:=by rfl):FS1 X (.Assign [tg] e pos) (sAsg f g):=by
 obtain ⟨t,p,q⟩:=he
 obtain ⟨n1,t',p',q'⟩:=hg
 refine ⟨_,ps_asg p p' hs hw h1,fun H0 S z held ρ σ H E o ok e k=>?_⟩
 unfold sAsg at e
 cases h:f ρ with
 | none=>rw [h] at e;cases e
 | some w=>
  obtain ⟨d,tg⟩:=w
  rw [h] at e
  dsimp only at e
  cases h2:g d tg ρ with
  | none=>rw [h2] at e;cases e
  | some ρ'=>
   rw [h2] at e
   cases e
   exact q H0 S z held ρ σ H _ d tg ok h fun H1 v fp s1 r1 g1=>q' H0 S z held ρ σ H H1 v d tg fp _ ρ' ok s1 r1 g1 h2 fun z' σ' ok' a=>k z' σ' H1 ok' (.off n1 a.2)
end
structure Hv where
 d:D
 v:V
 fp:List Addr
def ItOk (K:PySem.W.Frag) (J:It) (ds:List D) (hv:List Hv):Prop:=∀ (H:Hp) (i:Nat),(∀ h∈hv,Rep K H h.d h.v h.fp) →
 (∀ d,ds[i]? = some d→J.go i H∧∀ x H1,J.yld i H x H1→Same H H1∧∃ fp,Rep K H1 d x fp∧∀ a∈fp,∃ h∈hv,a∈h.fp)∧(ds.length≤i→J.stop i H)
abbrev IF:=Rho→Option (List D×Tag)
def FI (X:Cx) (tg iter:Expr) (f:IF):Prop:=∃ wi,PI X tg iter wi∧∀ (H0:Hp) (S:List Addr) (z:Addr→Option Nat) (held:List Held) (ρ:Rho) (σ:St) (H:Hp) (R:It→Hp→Prop) (ds:List D) (t:Tag),
 Ok X.K H0 S z held ρ σ H→f ρ=some (ds,t)→(∀ H1 J hv,Same H H1→(∀ h∈hv,Rep X.K H1 h.d h.v h.fp∧∀ a∈h.fp,∀ j,z a=some j→∃ o,t=.sh o∧j∈o)→ItOk X.K J ds hv→R J H1)→wi σ H R
def iSeqF (f:EF):IF:=fun ρ=>match f ρ with
 | some (.lst ds,t)=>some (ds,t)
 | some (.fls ds,t)=>some (ds,t)
 | some (.tup ds,t)=>some (ds,t)
 | _=>none
def iSeq (K:PySem.W.Frag) (tl:TE):TI:=fun σ H R=>tl σ H fun x H1=>∃ a,x=.ref a∧(((∃ xs,SqL K H1 a xs)∧R (Itl K a) H1)∨((∃ xs,SqT K H1 a xs)∧R (Itt K a) H1))
section
variable {X:Cx}{tg:Expr}
theorem pi_seq {l:Expr}{tl:TE} (hl:PE X l tl):PI X tg l (iSeq X.K tl):=by
 intro pins s σ H R I h
 refine thn (hl pins s σ H _ I h) fun v s1 ⟨x,H1,I1,r1,q1⟩=>?_
 obtain ⟨a,e,q⟩:=q1
 subst e
 cases r1
 rcases q with ⟨⟨xs,hq⟩,q⟩ | ⟨⟨xs,hq⟩,q⟩
 ·obtain ⟨its,rv,p,hz⟩:=I1.list hq
  refine wpAny_pyIter_list p.isList ?_
  refine ⟨s1.heap.objs.size,[s1.heap.objs.size],_,_,H1,rfl,I1.kept (t':=s1.toks) (fun b o e=>Heap.get?_push_of_some _ e),turn_list a _,⟨_,Heap.get?_push_size _ rfl,rfl,rfl⟩,fun b hb=>?_,q⟩
  obtain rfl:b=s1.heap.objs.size:=by simpa using hb
  exact I1.fpOk (Nat.le_refl _) (I1.hok.fresh (Nat.le_refl _))
 ·obtain ⟨its,rv,p,hz⟩:=I1.tuple hq
  refine wpAny_pyIter_tuple (show s1.heap.IsTuple a its.toArray from p) ?_
  refine ⟨s1.heap.objs.size,[s1.heap.objs.size],_,_,H1,rfl,I1.kept (t':=s1.toks) (fun b o e=>Heap.get?_push_of_some _ e),turn_tuple a _,⟨_,Heap.get?_push_size _ rfl,rfl,rfl⟩,fun b hb=>?_,q⟩
  obtain rfl:b=s1.heap.objs.size:=by simpa using hb
  exact I1.fpOk (Nat.le_refl _) (I1.hok.fresh (Nat.le_refl _))
theorem Rep.lst_of {K:PySem.W.Frag}{H:Hp}{ds:List D}{v:V}{fp:List Addr} (r:Rep K H (.lst ds) v fp):∃ a xs f,v=.ref a∧SqL K H a xs∧Reps K H ds xs f∧∀ b∈f,b∈fp:=by
 cases r with
 | lst h rs=>exact ⟨_,_,_,rfl,SqL.of h,rs,fun b m=>List.mem_cons_of_mem _ m⟩
theorem Rep.fls_of {K:PySem.W.Frag}{H:Hp}{ds:List D}{v:V}{fp:List Addr} (r:Rep K H (.fls ds) v fp):∃ a xs,v=.ref a∧SqL K H a xs∧Reps K H ds xs fp:=by
 cases r with
 | lsf h rs=>exact ⟨_,_,rfl,h.sq,rs⟩
theorem Rep.tup_of {K:PySem.W.Frag}{H:Hp}{ds:List D}{v:V}{fp:List Addr} (r:Rep K H (.tup ds) v fp):∃ a xs,v=.ref a∧SqT K H a xs∧Reps K H ds xs fp:=by
 cases r with
 | tup h rs=>exact ⟨_,_,rfl,h,rs⟩
theorem itOk_list {K:PySem.W.Frag}{a:Addr}{ds:List D}{fp:List Addr}:ItOk K (Itl K a) ds [⟨.lst ds,.ref a,fp⟩]:=by
 intro H i hh
 have r:Rep K H (.lst ds) (.ref a) fp:=hh ⟨.lst ds,.ref a,fp⟩ List.mem_cons_self
 obtain ⟨a',xs,f,e,hq,rs,sub⟩:=r.lst_of
 cases e
 refine ⟨fun d hd=>?_,fun hl=>⟨xs,hq,by rw [← rs.length];exact hl⟩⟩
 obtain ⟨v,f',hv,rv,s'⟩:=rs.get hd
 refine ⟨⟨xs,v,hq,hv⟩,fun x H1 y=>?_⟩
 obtain ⟨e1,y⟩:=y
 subst e1
 have e2:=y xs hq
 rw [hv] at e2
 cases e2
 exact ⟨Same.refl _,f',rv,fun b m=>⟨_,List.mem_cons_self,sub b (s' b m)⟩⟩
theorem itOk_fls {K:PySem.W.Frag}{a:Addr}{ds:List D}{fp:List Addr}:ItOk K (Itl K a) ds [⟨.fls ds,.ref a,fp⟩]:=by
 intro H i hh
 have r:Rep K H (.fls ds) (.ref a) fp:=hh ⟨.fls ds,.ref a,fp⟩ List.mem_cons_self
 obtain ⟨a',xs,e,hq,rs⟩:=r.fls_of
 cases e
 refine ⟨fun d hd=>?_,fun hl=>⟨xs,hq,by rw [← rs.length];exact hl⟩⟩
 obtain ⟨v,f',hv,rv,s'⟩:=rs.get hd
 refine ⟨⟨xs,v,hq,hv⟩,fun x H1 y=>?_⟩
 obtain ⟨e1,y⟩:=y
 subst e1
 have e2:=y xs hq
 rw [hv] at e2
 cases e2
 exact ⟨Same.refl _,f',rv,fun b m=>⟨_,List.mem_cons_self,s' b m⟩⟩
theorem itOk_tup {K:PySem.W.Frag}{a:Addr}{ds:List D}{fp:List Addr}:ItOk K (Itt K a) ds [⟨.tup ds,.ref a,fp⟩]:=by
 intro H i hh
 have r:Rep K H (.tup ds) (.ref a) fp:=hh ⟨.tup ds,.ref a,fp⟩ List.mem_cons_self
 obtain ⟨a',xs,e,hq,rs⟩:=r.tup_of
 cases e
 refine ⟨fun d hd=>?_,fun hl=>⟨xs,hq,by rw [← rs.length];exact hl⟩⟩
 obtain ⟨v,f',hv,rv,s'⟩:=rs.get hd
 refine ⟨⟨xs,v,hq,hv⟩,fun x H1 y=>?_⟩
 obtain ⟨e1,y⟩:=y
 subst e1
 have e2:=y xs hq
 rw [hv] at e2
 cases e2
 exact ⟨Same.refl _,f',rv,fun b m=>⟨_,List.mem_cons_self,s' b m⟩⟩
theorem itOk_range {K:PySem.W.Frag}{lo:Int}{n:Nat}:ItOk K (Itr lo n) ((List.range n).map fun i:Nat=>D.int (lo + (i:Int))) []:=by
 intro H i _
 refine ⟨fun d hd=>?_,fun hl=>?_⟩
 ·rw [List.getElem?_map] at hd
  by_cases hi:i < n
  ·rw [List.getElem?_range hi] at hd
   cases hd
   refine ⟨hi,fun x H1 y=>?_⟩
   obtain ⟨e1,e2⟩:=y
   subst e1 e2
   exact ⟨Same.refl _,[],.int _,fun b m=>nomatch m⟩
  ·rw [List.getElem?_eq_none (by simpa using hi)] at hd
   cases hd
 ·rw [List.length_map,List.length_range] at hl
  exact hl
theorem TagOk.over {K:PySem.W.Frag}{H0:Hp}{S:List Addr}{z:Addr→Option Nat}{held:List Held}{ρ:Rho}{σ:St}{H:Hp}{t:Tag}{fp:List Addr} (ok:Ok K H0 S z held ρ σ H) (g:TagOk z H t fp):∀ a∈fp,∀ j,z a=some j→∃ o,t=.sh o∧j∈o:=by
 intro a m j q
 cases t with
 | sh o=>exact ⟨o,rfl,g a m j q⟩
 | own=>obtain ⟨⟨o,w⟩,_⟩:=ok.zd a j q;rw [g.2 a m] at w;cases w
 | lk=>obtain ⟨⟨o,w⟩,_⟩:=ok.zd a j q;rw [g.2 a m] at w;cases w
theorem fi_seq {l:Expr}{f:EF} (hl:FP X l f):FI X tg l (iSeqF f):=by
 obtain ⟨t,p,q⟩:=hl
 refine ⟨_,pi_seq p,fun H0 S z held ρ σ H R ds tg ok e k=>?_⟩
 unfold iSeqF at e
 cases h:f ρ with
 | none=>rw [h] at e;cases e
 | some w=>
  obtain ⟨d,tg'⟩:=w
  rw [h] at e
  cases d with
  | lst es=>
   cases e
   refine q H0 S z held ρ σ H _ _ _ ok h fun H1 v fp s1 r1 g1=>?_
   obtain ⟨a,xs,f,rfl,hq,rs,sub⟩:=r1.lst_of
   exact ⟨a,rfl,.inl ⟨⟨xs,hq⟩,k H1 _ [⟨.lst ds,.ref a,fp⟩] s1 (fun h m=>by cases List.mem_singleton.mp m;exact ⟨r1,g1.over ok⟩) itOk_list⟩⟩
  | fls es=>
   cases e
   refine q H0 S z held ρ σ H _ _ _ ok h fun H1 v fp s1 r1 g1=>?_
   obtain ⟨a,xs,rfl,hq,rs⟩:=r1.fls_of
   exact ⟨a,rfl,.inl ⟨⟨xs,hq⟩,k H1 _ [⟨.fls ds,.ref a,fp⟩] s1 (fun h m=>by cases List.mem_singleton.mp m;exact ⟨r1,g1.over ok⟩) itOk_fls⟩⟩
  | tup es=>
   cases e
   refine q H0 S z held ρ σ H _ _ _ ok h fun H1 v fp s1 r1 g1=>?_
   obtain ⟨a,xs,rfl,hq,rs⟩:=r1.tup_of
   exact ⟨a,rfl,.inr ⟨⟨xs,hq⟩,k H1 _ [⟨.tup ds,.ref a,fp⟩] s1 (fun h m=>by cases List.mem_singleton.mp m;exact ⟨r1,g1.over ok⟩) itOk_tup⟩⟩
  | _=>cases e
def small (i:Int):Bool:=decide (-(2 ^ 62)≤i)&&decide (i < 2 ^ 62)
def iR1 (g:EF):IF:=fun ρ=>match g ρ with
 | some (.int j,_)=>if small j=true then some ((List.range j.toNat).map fun i:Nat=>D.int (0 + (i:Int)),.own) else none
 | _=>none
theorem small_of {i:Int} (h:small i=true):-(2 ^ 62)≤i∧i < 2 ^ 62:=by
 obtain ⟨a,b⟩:=(Bool.and_eq_true _ _).mp h
 exact ⟨of_decide_eq_true a,of_decide_eq_true b⟩
theorem fi_range1 {a:Expr}{g:EF}{p pos:Pos} (hm:X.mg "range"=none) (ha:FP X a g) (hg:Gl X "range":=by rfl) (hs:starEach [a] X.env=[(false,eval a X.env)]:=by rfl):FI X tg (.Call (.Name "range" p) [a] [] pos) (iR1 g):=by
 obtain ⟨t,pa,q⟩:=ha
 refine ⟨_,pi_range1 hg hm (pa_cons pa pa_nil hs) hs,fun H0 S z held ρ σ H R ds tg ok e k=>?_⟩
 unfold iR1 at e
 cases h:g ρ with
 | none=>rw [h] at e;cases e
 | some w=>
  obtain ⟨d,tg'⟩:=w
  rw [h] at e
  cases d with
  | int j=>
   dsimp only at e
   by_cases hj:small j=true
   ·rw [if_pos hj] at e
    cases e
    refine q H0 S z held ρ σ H _ _ _ ok h fun H1 v fp s1 r1 g1=>?_
    cases r1
    exact ⟨j,rfl,(small_of hj).1,(small_of hj).2,k H1 _ [] s1 (fun h m=>nomatch m) itOk_range⟩
   ·rw [if_neg hj] at e;cases e
  | _=>cases e
end
def ovr:Tag→List Nat
 | .sh o=>o
 | _=>[]
def itag (t:Tag):Tag:=.sh (ovr t)
def ownAt (ρ:Rho) (j:Nat):Bool:=match ρ[j]? with
 | some (some (_,.own))=>true
 | _=>false
def ownsIn (o:List Nat) (ρ:Rho):List Nat:=o.filter (ownAt ρ)
def lockT:Tag→Tag
 | .own=>.lk
 | t=>t
def unlockT:Tag→Tag
 | .lk=>.own
 | t=>t
def onT (f:Tag→Tag):Slot→Slot
 | some (d,t)=>some (d,f t)
 | none=>none
def lockS:List Nat→Rho→Rho
 | [],ρ=>ρ
 | j::r,ρ=>lockS r (ρ.modify j (onT lockT))
def unlockS:List Nat→Rho→Rho
 | [],ρ=>ρ
 | j::r,ρ=>unlockS r (ρ.modify j (onT unlockT))
def loopF (g:GF) (t:Tag) (f:SF):List D→SF
 | [],ρ=>some (.nx ρ)
 | d::ds,ρ=>match g d t ρ with
  | none=>none
  | some ρ1=>match f ρ1 with
   | some (.nx ρ2)=>loopF g t f ds ρ2
   | some (.ct ρ2)=>loopF g t f ds ρ2
   | some (.bk ρ2)=>some (.nx ρ2)
   | some (.rt r)=>some (.rt r)
   | some (.er raw cn ρ2)=>some (.er raw cn ρ2)
   | none=>none
def sFor (it:IF) (g:GF) (f:SF):SF:=fun ρ=>match it ρ with
 | none=>none
 | some (ds,t)=>match loopF g (itag t) f ds (lockS (ownsIn (ovr t) ρ) ρ) with
  | some (.nx ρ')=>some (.nx (unlockS (ownsIn (ovr t) ρ) ρ'))
  | some (.rt d)=>some (.rt d)
  | some (.er raw cn ρ')=>some (.er raw cn (unlockS (ownsIn (ovr t) ρ) ρ'))
  | _=>none
theorem lockS_at:∀ {ks:List Nat}{ρ:Rho}{i:Nat}{d:D}{t:Tag},(lockS ks ρ)[i]? = some (some (d,t))→∃ t',ρ[i]? = some (some (d,t'))∧(t=t'∨(t'=.own∧t=.lk))∧(i∈ks→t≠.own)
 | [],ρ,i,d,t,h=>⟨t,h,.inl rfl,fun m=>nomatch m⟩
 | j::r,ρ,i,d,t,h=>by
  obtain ⟨t1,h1,h2,h3⟩:=lockS_at (ks:=r) h
  rw [List.getElem?_modify] at h1
  cases e:ρ[i]? with
  | none=>rw [e] at h1;cases h1
  | some s=>
   rw [e] at h1
   have h1':(if j=i then onT lockT s else s)=some (d,t1):=Option.some.inj h1
   by_cases hj:j=i
   ·rw [if_pos hj] at h1'
    cases s with
    | none=>cases h1'
    | some p=>
     obtain ⟨d0,t0⟩:=p
     cases h1'
     refine ⟨t0,rfl,?_,fun _=>?_⟩
     ·rcases h2 with h2 | ⟨h2,h2'⟩
      ·cases t0 <;> first | exact .inl h2 | exact .inr ⟨rfl,h2⟩
      ·cases t0 <;> cases h2
     ·rcases h2 with h2 | ⟨h2,h2'⟩
      ·rw [h2];cases t0 <;> (intro z;cases z)
      ·rw [h2'];intro z;cases z
   ·rw [if_neg hj] at h1'
    subst h1'
    refine ⟨t1,rfl,h2,fun m=>?_⟩
    rcases List.mem_cons.mp m with z | z
    ·exact absurd z.symm hj
    ·exact h3 z
theorem lockS_len:∀ {ks:List Nat}{ρ:Rho},(lockS ks ρ).length=ρ.length
 | [],_=>rfl
 | _::r,ρ=>(lockS_len (ks:=r)).trans (List.length_modify ..)
theorem unlockS_len:∀ {ks:List Nat}{ρ:Rho},(unlockS ks ρ).length=ρ.length
 | [],_=>rfl
 | _::r,ρ=>(unlockS_len (ks:=r)).trans (List.length_modify ..)
theorem unlockS_at:∀ {ks:List Nat}{ρ:Rho}{i:Nat}{d:D}{t:Tag},(unlockS ks ρ)[i]? = some (some (d,t))→∃ t',ρ[i]? = some (some (d,t'))∧(t=t'∨(t'=.lk∧t=.own∧i∈ks))
 | [],ρ,i,d,t,h=>⟨t,h,.inl rfl⟩
 | j::r,ρ,i,d,t,h=>by
  obtain ⟨t1,h1,h2⟩:=unlockS_at (ks:=r) h
  rw [List.getElem?_modify] at h1
  cases e:ρ[i]? with
  | none=>rw [e] at h1;cases h1
  | some s=>
   rw [e] at h1
   have h1':(if j=i then onT unlockT s else s)=some (d,t1):=Option.some.inj h1
   by_cases hj:j=i
   ·rw [if_pos hj] at h1'
    cases s with
    | none=>cases h1'
    | some p=>
     obtain ⟨d0,t0⟩:=p
     cases h1'
     refine ⟨t0,rfl,?_⟩
     rcases h2 with h2 | ⟨h2,h2',h3⟩
     ·cases t0 <;> first | exact .inl h2 | exact .inr ⟨rfl,h2,by rw [hj];exact List.mem_cons_self⟩
     ·cases t0 <;> cases h2
   ·rw [if_neg hj] at h1'
    subst h1'
    refine ⟨t1,rfl,?_⟩
    rcases h2 with h2 | ⟨h2,h2',h3⟩
    ·exact .inl h2
    ·exact .inr ⟨h2,h2',List.mem_cons_of_mem _ h3⟩
def heldAt (z:Addr→Option Nat) (hv:List Hv):List Held:=hv.map fun h=>⟨h.d,h.v,h.fp,z⟩
def rezone (z:Addr→Option Nat) (held:List Held):List Held:=held.map fun h=>{ h with z0:=z }
section
variable {K:PySem.W.Frag}{H0:Hp}{S:List Addr}{z:Addr→Option Nat}{held:List Held}{ρ:Rho}{σ:St}{H:Hp}
theorem Ok.begin {hv:List Hv}{t:Tag} (ok:Ok K H0 S z held ρ σ H) (hh:∀ h∈hv,Rep K H h.d h.v h.fp∧∀ a∈h.fp,∀ j,z a=some j→∃ o,t=.sh o∧j∈o) :
  Ok K H0 S z (heldAt z hv++rezone z held) (lockS (ownsIn (ovr t) ρ) ρ) σ H:=by
 refine ⟨fun i d tg e=>?_,fun p m=>?_,ok.zd,ok.en,by rw [lockS_len];exact ok.ln⟩
 ·obtain ⟨t',e',h,_⟩:=lockS_at e
  obtain ⟨v,fp,a,b,c⟩:=ok.sl i d t' e'
  refine ⟨v,fp,a,b,?_⟩
  rcases h with h | ⟨h,h'⟩
  ·subst h;exact c
  ·subst h h';exact c
 ·have lockNo:∀ j,NoOwn ρ j→NoOwn (lockS (ownsIn (ovr t) ρ) ρ) j:=fun j n d e=>by
   obtain ⟨t',e',h,_⟩:=lockS_at e
   rcases h with h | ⟨h,h'⟩
   ·subst h;exact n d e'
   ·cases h'
  rcases List.mem_append.mp m with m | m
  ·obtain ⟨h,hm,rfl⟩:=List.mem_map.mp m
   refine ⟨(hh h hm).1,fun a ha j q=>⟨q,fun d e=>?_⟩⟩
   obtain ⟨o,rfl,hj⟩:=(hh h hm).2 a ha j q
   obtain ⟨t',e',h',n⟩:=lockS_at e
   rcases h' with h' | ⟨h',h''⟩
   ·subst h'
    exact n (List.mem_filter.mpr ⟨hj,by unfold ownAt;rw [e']⟩) rfl
   ·cases h''
  ·obtain ⟨h,hm,rfl⟩:=List.mem_map.mp m
   obtain ⟨r,hz⟩:=ok.hl h hm
   exact ⟨r,fun a ha j q=>⟨q,lockNo j (hz a ha j q).2⟩⟩
theorem Ok.fin {hv:List Hv}{t:Tag}{z':Addr→Option Nat}{ρ':Rho}{σ':St}{H':Hp} (ok:Ok K H0 S z held ρ σ H) (ok':Ok K H0 S z' (heldAt z hv++rezone z held) ρ' σ' H'):Ok K H0 S z' held (unlockS (ownsIn (ovr t) ρ) ρ') σ' H':=by
 refine ⟨fun i d tg e=>?_,fun p m=>?_,ok'.zd,ok'.en,by rw [unlockS_len];exact ok'.ln⟩
 ·obtain ⟨t',e',h⟩:=unlockS_at e
  obtain ⟨v,fp,a,b,c⟩:=ok'.sl i d t' e'
  refine ⟨v,fp,a,b,?_⟩
  rcases h with h | ⟨h,h',_⟩
  ·subst h;exact c
  ·subst h h';exact c
 ·obtain ⟨r,hz⟩:=ok'.hl { p with z0:=z } (List.mem_append_right _ (List.mem_map.mpr ⟨p,m,rfl⟩))
  refine ⟨r,fun a ha j q=>?_⟩
  obtain ⟨h1,h2⟩:=hz a ha j q
  have h1:z a=some j:=h1
  obtain ⟨h3,h4⟩:=(ok.hl p m).2 a ha j h1
  refine ⟨h3,fun d e=>?_⟩
  obtain ⟨t',e',h⟩:=unlockS_at e
  rcases h with h | ⟨h,_,hk⟩
  ·subst h;exact h2 d e'
  ·have ho:=(List.mem_filter.mp hk).2
   unfold ownAt at ho
   cases e0:ρ[j]? with
   | none=>rw [e0] at ho;cases ho
   | some s=>
    rw [e0] at ho
    cases s with
    | none=>cases ho
    | some p=>
     obtain ⟨d0,t0⟩:=p
     cases t0 <;> first | exact h4 d0 e0 | cases ho
end
section
variable {X:Cx}{pos:Pos}
theorem fs_for {tg iter:Expr}{body:List Stmt}{it:IF}{g:GF}{f:SF}{is:List Nat} (hc:X.calm=true) (hi:FI X tg iter it) (hg:FG X tg g is) (hb:FS X body f) (hp:PassesOwn (model X.prog X.w) X.A X.env X.xe:=by exact PassesOwn.never)
  (hs:∀ x,foldedSetIterable iter X.env x=pure x:=by intro _;rfl):FS1 X (.For tg iter body [] pos) (sFor it g f):=by
 obtain ⟨wi,pi,si⟩:=hi
 obtain ⟨n1,tgt,pg,sg⟩:=hg
 obtain ⟨tb,pb,sb⟩:=hb
 refine ⟨_,ps_for hp hc pi pg pb hs,fun H0 S z held ρ σ H E o ok e k=>?_⟩
 unfold sFor at e
 cases h:it ρ with
 | none=>rw [h] at e;cases e
 | some w=>
  obtain ⟨ds,t⟩:=w
  rw [h] at e
  dsimp only at e
  refine si H0 S z held ρ σ H _ ds t ok h fun H1 J hv s1 hh itok=>?_
  cases ho:loopF g (itag t) f ds (lockS (ownsIn (ovr t) ρ) ρ) with
  | none=>rw [ho] at e;cases e
  | some out=>
   rw [ho] at e
   have ok1:=ok.same s1
   have ok2:=ok1.begin (t:=t) hh
   have fin:∀ {z':Addr→Option Nat}{ρ':Rho}{σ':St}{H':Hp},Ok X.K H0 S z' (heldAt z hv++rezone z held) ρ' σ' H'→out=.nx ρ'→Kp X σ σ'→E.nx σ' H':=fun {z' ρ' σ' H'} ok' eo kp=>by
    subst eo
    cases e
    exact k z' σ' H' (ok1.fin (t:=t) ok') kp
   refine ⟨fun i m σ' H'=>m=ds.length - i∧∃ z' ρ',Ok X.K H0 S z' (heldAt z hv++rezone z held) ρ' σ' H'∧loopF g (itag t) f (ds.drop i) ρ'=some out∧Kp X σ σ',⟨ds.length,rfl,z,_,ok2,ho,.refl _ _⟩,?_⟩
   rintro i m σ' H' ⟨rfl,z',ρ',ok',e',kp⟩
   have hH:∀ h∈hv,Rep X.K H' h.d h.v h.fp:=fun h m=>(ok'.hl _ (List.mem_append_left _ (List.mem_map.mpr ⟨h,m,rfl⟩))).1
   obtain ⟨go,stop⟩:=itok H' i hH
   by_cases hl:ds.length≤i
   ·refine .inl ⟨stop hl,?_⟩
    rw [List.drop_eq_nil_of_le hl] at e'
    cases e'
    exact fin ok' rfl kp
   ·have hlt:i < ds.length:=Nat.lt_of_not_le hl
    rw [List.drop_eq_getElem_cons hlt] at e'
    obtain ⟨g1,g2⟩:=go ds[i] (List.getElem?_eq_getElem hlt)
    refine .inr ⟨g1,fun σ2 H2=>∃ z' ρ',Ok X.K H0 S z' (heldAt z hv++rezone z held) ρ' σ2 H2∧loopF g (itag t) f (ds.drop (i + 1)) ρ'=some out∧Kp X σ σ2,fun σ2 H2 hn=>⟨ds.length - (i + 1),by omega,rfl,hn⟩,fun x H2 y=>?_⟩
    obtain ⟨s2,fp,r2,sub⟩:=g2 x H2 y
    unfold loopF at e'
    cases hg1:g ds[i] (itag t) ρ' with
    | none=>rw [hg1] at e';cases e'
    | some ρ1=>
     rw [hg1] at e'
     dsimp only at e'
     refine sg H0 S z' _ ρ' σ' H' H2 x ds[i] (itag t) fp _ ρ1 ok' s2 r2 (fun a ha j q=>?_) hg1 fun z2 σ2 ok3 a3=>?_
     ·obtain ⟨h,hm,ha'⟩:=sub a ha
      obtain ⟨_,hz⟩:=ok'.hl _ (List.mem_append_left _ (List.mem_map.mpr ⟨h,hm,rfl⟩))
      obtain ⟨q0,_⟩:=hz a ha' j q
      obtain ⟨o',rfl,hj⟩:=(hh h hm).2 a ha' j q0
      exact hj
     ·cases hf:f ρ1 with
      | none=>rw [hf] at e';cases e'
      | some o1=>
       rw [hf] at e'
       refine sb H0 S z2 _ ρ1 σ2 H2 _ o1 ok3 hf ?_
       cases o1 with
       | nx ρ2=>exact fun z3 σ3 H3 ok4 b=>⟨z3,ρ2,ok4,e',(kp.trans (.off n1 a3.2)).trans b⟩
       | ct ρ2=>exact fun z3 σ3 H3 ok4 b=>⟨z3,ρ2,ok4,e',(kp.trans (.off n1 a3.2)).trans b⟩
       | bk ρ2=>
        cases e'
        exact fun z3 σ3 H3 ok4 b=>fin ok4 rfl ((kp.trans (.off n1 a3.2)).trans b)
       | rt d=>
        cases e'
        cases e
        exact k
       | er raw cn ρ2=>
        cases e'
        cases e
        obtain ⟨ES,th,q⟩:=k
        exact ⟨ES,th,fun z3 σ3 H3 C ok4 b hC=>q z3 σ3 H3 C (ok1.fin (t:=t) ok4) ((kp.trans (.off n1 a3.2)).trans b) hC⟩
end
def teS (K:PySem.W.Frag) (f:EF):TE:=fun σ H Q=>∃ H0 S z held ρ d tg,Ok K H0 S z held ρ σ H∧f ρ=some (d,tg)∧∀ H' v fp,Same H H'→Rep K H' d v fp→TagOk z H tg fp→Q v H'
def ttS (K:PySem.W.Frag) (f:TF):TT:=fun σ H Q=>∃ H0 S z held ρ b,Ok K H0 S z held ρ σ H∧f ρ=some b∧∀ H',Same H H'→Q b H'
def tgS (K:PySem.W.Frag) (g:GF) (is:List Nat):TG:=fun v σ H1 Q=>∃ H0 S z held ρ H d tag fp ρ',Ok K H0 S z held ρ σ H∧Same H H1∧Rep K H1 d v fp∧TagOk z H tag fp∧g d tag ρ=some ρ' ∧
 ∀ z' σ',Ok K H0 S z' held ρ' σ' H1→(σ'.length=σ.length∧∀ j,j∉is→σ'[j]? = σ[j]?)→Q σ' H1
section
variable {X:Cx}
theorem FP.pe {e:Expr}{f:EF} (h:FP X e f):PE X e (teS X.K f):=by
 obtain ⟨t,p,q⟩:=h
 intro pins s σ H Q I ⟨H0,S,z,held,ρ,d,tg,ok,e,k⟩
 exact p pins s σ H Q I (q H0 S z held ρ σ H Q d tg ok e k)
theorem FT.pt {e:Expr}{f:TF} (h:FT X e f):PT X e (ttS X.K f):=by
 obtain ⟨t,p,q⟩:=h
 intro pins s σ H Q I ⟨H0,S,z,held,ρ,b,ok,e,k⟩
 exact p pins s σ H Q I (q H0 S z held ρ σ H Q b ok e k)
theorem FG.pg {e:Expr}{g:GF}{is:List Nat} (h:FG X e g is):PG X e (tgS X.K g is):=by
 obtain ⟨_,t,p,q⟩:=h
 intro pins s σ H1 v u Q I r ⟨H0,S,z,held,ρ,H,d,tag,fp,ρ',ok,sm,rp,tk,e,k⟩
 exact p pins s σ H1 v u Q I r (q H0 S z held ρ σ H H1 v d tag fp Q ρ' ok sm rp tk e k)
end
def FTs (X:Cx) (ifs:List Expr) (f:TF):Prop:=PTs X ifs (ttS X.K f)
def tTrue:TF:=fun _=>some true
theorem fts_nil {X:Cx}:FTs X [] tTrue:=by
 intro pins s σ H Q I ⟨H0,S,z,held,ρ,b,ok,e,k⟩
 cases e
 exact wpAny_tests_nil ⟨H,I,k H (Same.refl H)⟩
theorem fts_one {X:Cx}{c:Expr}{f:TF} (h:FT X c f):FTs X [c] f:=pts_one h.pt
def iniR (js:List (Option Nat)) (ρ:Rho):Rho:=js.map fun j=>match j with
 | none=>none
 | some j=>match ρ[j]? with
  | some (some (d,_))=>some (d,.sh [])
  | _=>none
def compE (g:GF) (tt:TF) (te:EF) (ρ:Rho) (d:D):Option (Option D):=match g d (.sh []) ρ with
 | none=>none
 | some ρ1=>match tt ρ1 with
  | none=>none
  | some false=>some none
  | some true=>match te ρ1 with
   | none=>none
   | some (e,t)=>if isOwn t=true then some (some e) else if imm e=true then some (some e) else none
def compF (h:D→Option (Option D)):List D→Option (List D)
 | []=>some []
 | d::ds=>match h d with
  | none=>none
  | some none=>compF h ds
  | some (some e)=>match compF h ds with
   | none=>none
   | some es=>some (e::es)
def eComp (js:List (Option Nat)) (it:IF) (g:GF) (tt:TF) (te:EF):EF:=fun ρ=>match it ρ with
 | none=>none
 | some (ds,_)=>if ds.length < sizeLine then (compF (compE g tt te (iniR js ρ)) ds).map fun es=>(.lst es,.own) else none
theorem compF_ok {h:D→Option (Option D)}{k:D→Option D}:∀ {ds:List D},(∀ d∈ds,h d=some (k d))→compF h ds=some (ds.filterMap k)
 | [],_=>rfl
 | d::ds,e=>by
  unfold compF
  rw [e d List.mem_cons_self,compF_ok fun x m=>e x (List.mem_cons_of_mem _ m),List.filterMap_cons]
  cases k d <;> rfl
section
variable {X:Cx}{pos:Pos}
theorem comp_read {wi:TI}{it:IF}{js:List (Option Nat)}{g:GF}{tt:TF}{te:EF}{is:List Nat} (hjs:∀ i∈is,js[i]? = some none)
  (si:∀ (H0:Hp) (S:List Addr) (z:Addr→Option Nat) (held:List Held) (ρ:Rho) (σ:St) (H:Hp) (R:It→Hp→Prop) (ds:List D) (t:Tag),
   Ok X.K H0 S z held ρ σ H→it ρ=some (ds,t)→(∀ H1 J hv,Same H H1→(∀ h∈hv,Rep X.K H1 h.d h.v h.fp∧∀ a∈h.fp,∀ j,z a=some j→∃ o,t=.sh o∧j∈o)→ItOk X.K J ds hv→R J H1)→wi σ H R)
  (H0:Hp) (S:List Addr) (z:Addr→Option Nat) (held:List Held) (ρ:Rho) (σ:St) (H:Hp) (Q:VK) (d:D) (tg:Tag) (ok:Ok X.K H0 S z held ρ σ H) (e:eComp js it g tt te ρ=some (d,tg))
  (k:∀ H' v fp,Same H H'→Rep X.K H' d v fp→TagOk z H tg fp→Q v H'):tComp wi js (tgS X.K g is) (ttS X.K tt) (teS X.K te) σ H Q:=by
 unfold eComp at e
 cases h:it ρ with
 | none=>rw [h] at e;cases e
 | some w=>
  obtain ⟨ds,t⟩:=w
  rw [h] at e
  dsimp only at e
  by_cases hz:ds.length < sizeLine
  ·rw [if_pos hz] at e
   cases hcf:compF (compE g tt te (iniR js ρ)) ds with
   | none=>rw [hcf] at e;cases e
   | some es=>
    rw [hcf] at e
    cases e
    refine si H0 S z held ρ σ H _ ds t ok h fun H1 J hv s1 hh itok Dd hDd=>?_
    have ok1:=ok.same s1
    have inner:∀ (σ':St) (H2:Hp),Same H1 H2→(∃ o,H2 Dd=some o)→σ'.length=js.length→(∀ j,j∉is→σ'[j]? = (iniC js σ)[j]?)→Ok X.K H1 [] (fun a=>if a=Dd then some js.length else none) (heldAt (fun _=>none) hv) (iniR js ρ) σ' H2:=by
     intro σ' H2 s2 hoD hlen hag
     have nD:∀ {a:Addr}{o:HO},H1 a=some o→a≠Dd:=fun e=>ne_of_none e hDd
     refine ⟨fun i d t e=>?_,fun p m=>?_,fun a j e=>?_,fun a o e _=>s2 _ _ e,by unfold iniR;rw [List.length_map,hlen]⟩
     ·unfold iniR at e
      rw [List.getElem?_map] at e
      cases hj:js[i]? with
      | none=>rw [hj] at e;cases e
      | some o=>
       rw [hj] at e
       cases o with
       | none=>cases e
       | some j=>
        have e:(match ρ[j]? with | some (some (d,_))=>some (d,Tag.sh []) | _=>none)=some (d,t):=Option.some.inj e
        cases hr:ρ[j]? with
        | none=>rw [hr] at e;cases e
        | some s=>
         rw [hr] at e
         cases s with
         | none=>cases e
         | some p=>
          obtain ⟨d0,t0⟩:=p
          have e1:d0=d∧Tag.sh []=t:=Prod.mk.inj (Option.some.inj e)
          obtain ⟨rfl,rfl⟩:=e1
          obtain ⟨v,fp,hs,r,_⟩:=ok1.sl j d0 t0 hr
          have hi:i∉is:=fun m=>by rw [hjs i m] at hj;cases hj
          refine ⟨v,fp,?_,r.same s2,fun a m q e=>?_⟩
          ·rw [hag i hi]
           unfold iniC
           rw [List.getElem?_map,hj]
           show some ((σ[j]?).join)=some (some v)
           rw [hs];rfl
          ·obtain ⟨o,w,_⟩:=r.dom a m
           dsimp only at e
           rw [if_neg (nD w)] at e
           cases e
     ·obtain ⟨h,hm,rfl⟩:=List.mem_map.mp m
      refine ⟨(hh h hm).1.same s2,fun a ha q e=>?_⟩
      obtain ⟨o,w,_⟩:=(hh h hm).1.dom a ha
      rw [if_neg (nD w)] at e
      cases e
     ·by_cases w:a=Dd
      ·rw [w];exact ⟨hoD,.inl hDd⟩
      ·rw [if_neg w] at e;cases e
    refine ⟨fun i m σ' H'=>m=ds.length - i∧Same H1 H'∧σ'.length=js.length∧(∀ j,j∉is→σ'[j]? = (iniC js σ)[j]?)∧∃ done rest vs fp,H' Dd=some (.lst vs)∧Reps X.K H' done vs fp∧fp.Nodup∧(∀ a∈fp,H1 a=none∧a≠Dd) ∧
     compF (compE g tt te (iniR js ρ)) (ds.drop i)=some rest∧done++rest=es∧done.length≤i,?_,?_⟩
    ·refine ⟨ds.length,rfl,fun b o e=>by rw [upd_ne (ne_of_none e hDd)];exact e,by unfold iniC;rw [List.length_map],fun _ _=>rfl,[],es,[],[],upd_same,.nil,List.nodup_nil,(fun a m=>nomatch m),hcf,rfl,Nat.le_refl _⟩
    ·rintro i m σ' H' ⟨rfl,sH,hlen,hag,done,rest,vs,fp,hD,rs,nd,fr,hr,rfl,hle⟩
     obtain ⟨go,stop⟩:=itok H' i fun h m=>(hh h m).1.same sH
     by_cases hl:ds.length≤i
     ·refine .inl ⟨stop hl,?_⟩
      rw [List.drop_eq_nil_of_le hl] at hr
      cases hr
      rw [List.append_nil] at k
      refine k H' (.ref Dd) (Dd::fp) (s1.trans sH) (.lst hD rs) ⟨List.nodup_cons.mpr ⟨fun m=>(fr Dd m).2 rfl,nd⟩,fun a m=>?_⟩
      rcases List.mem_cons.mp m with e | m
      ·rw [e];exact s1.free hDd
      ·exact s1.free (fr a m).1
     ·have hlt:i < ds.length:=Nat.lt_of_not_le hl
      rw [List.drop_eq_getElem_cons hlt] at hr
      obtain ⟨g1,g2⟩:=go ds[i] (List.getElem?_eq_getElem hlt)
      refine .inr ⟨g1,fun x H2 y=>?_⟩
      obtain ⟨s2,fp2,r2,sub⟩:=g2 x H2 y
      have ok2:=inner σ' H' sH ⟨_,hD⟩ hlen hag
      unfold compF at hr
      cases hE:compE g tt te (iniR js ρ) ds[i] with
      | none=>rw [hE] at hr;cases hr
      | some oe=>
       rw [hE] at hr
       unfold compE at hE
       cases hg1:g ds[i] (.sh []) (iniR js ρ) with
       | none=>rw [hg1] at hE;cases hE
       | some ρ1=>
        rw [hg1] at hE
        dsimp only at hE
        have tko:TagOk (fun a=>if a=Dd then some js.length else none) H' (.sh []) fp2:=fun a m j e=>by
         obtain ⟨h,hm,ha⟩:=sub a m
         obtain ⟨o,w,_⟩:=(hh h hm).1.dom a ha
         dsimp only at e
         rw [if_neg (ne_of_none w hDd)] at e
         cases e
        refine ⟨H1,[],_,_,iniR js ρ,H',ds[i],.sh [],fp2,ρ1,ok2,s2,r2,tko,hg1,fun z3 σ3 ok3 ag3=>?_⟩
        have len3:σ3.length=js.length:=ag3.1.trans hlen
        have agc:∀ j,j∉is→σ3[j]? = (iniC js σ)[j]? :=fun j hj=>(ag3.2 j hj).trans (hag j hj)
        cases ht:tt ρ1 with
        | none=>rw [ht] at hE;cases hE
        | some b=>
         rw [ht] at hE
         refine ⟨H1,[],z3,_,ρ1,b,ok3,ht,fun H4 s4=>?_⟩
         have s14:Same H1 H4:=(sH.trans s2).trans s4
         have s04:Same H' H4:=s2.trans s4
         cases b with
         | false=>
          cases hE
          refine iteF ?_
          exact ⟨ds.length - (i + 1),by omega,rfl,s14,len3,agc,done,rest,vs,fp,s04 _ _ hD,rs.same s04,nd,fr,hr,rfl,Nat.le_succ_of_le hle⟩
         | true=>
          refine iteT ?_
          dsimp only at hE
          cases hte:te ρ1 with
          | none=>rw [hte] at hE;cases hE
          | some w=>
           obtain ⟨y,ty⟩:=w
           rw [hte] at hE
           dsimp only at hE
           refine ⟨H1,[],z3,_,ρ1,y,ty,ok3.same s4,hte,fun H5 yv fy s5 ry gy=>?_⟩
           have oe':oe=some y∧fy.Nodup∧∀ a∈fy,H4 a=none:=by
            by_cases ho:isOwn ty=true
            ·rw [if_pos ho] at hE
             cases hE
             exact ⟨rfl,by cases ty <;> first | exact gy | cases ho⟩
            ·rw [if_neg ho] at hE
             by_cases hi:imm y=true
             ·rw [if_pos hi] at hE
              cases hE
              have hn:=ry.imm hi
              subst hn
              exact ⟨rfl,List.nodup_nil,fun a m=>nomatch m⟩
             ·rw [if_neg hi] at hE;cases hE
           obtain ⟨rfl,ndy,fry⟩:=oe'
           dsimp only at hr
           cases hrest:compF (compE g tt te (iniR js ρ)) (ds.drop (i + 1)) with
           | none=>rw [hrest] at hr;cases hr
           | some r'=>
            rw [hrest] at hr
            cases hr
            have s05:Same H' H5:=s04.trans s5
            have hD5:H5 Dd=some (.lst vs):=s05 _ _ hD
            have lv:vs.length < sizeLine:=by rw [← rs.length];omega
            have im:Imm H5 (upd H5 Dd (.lst (vs++[yv]))):=Imm.upd hD5 rfl
            have n1:∀ a∈fp++fy,a≠Dd:=fun a m=>by
             rcases List.mem_append.mp m with m | m
             ·exact (fr a m).2
             ·intro e
              have:=fry a m
              rw [e,s04 _ _ hD] at this;cases this
            have rs5:Reps X.K H5 (done++[y]) (vs++[yv]) (fp++fy):=by
             have q:=Reps.append (rs.same s05) (Reps.cons ry .nil)
             rw [List.append_nil] at q
             exact q
            refine ⟨vs,hD5,lv,ds.length - (i + 1),by omega,rfl,fun b o e=>?_,len3,agc,done++[y],r',vs++[yv],fp++fy,upd_same,rs5.frame (fun a m=>upd_ne (n1 a m)) im,?_,fun a m=>?_,hrest,?_,?_⟩
            ·rw [upd_ne (ne_of_none e hDd)]
             exact s5 _ _ (s14 _ _ e)
            ·refine List.nodup_append.mpr ⟨nd,ndy,fun a m b m' e=>?_⟩
             subst e
             obtain ⟨o,w,_⟩:=(rs.same s04).dom a m
             rw [fry a m'] at w;cases w
            ·refine ⟨?_,n1 a m⟩
             rcases List.mem_append.mp m with m | m
             ·exact (fr a m).1
             ·exact s14.free (fry a m)
            ·rw [List.append_assoc];rfl
            ·rw [List.length_append,List.length_singleton];omega
  ·rw [if_neg hz] at e;cases e
theorem fp_comp {tg iter elt:Expr}{ifs:List Expr}{sc:Scope}{M:List Str}{js:List (Option Nat)}{it:IF}{g:GF}{tt:TF}{te:EF}{is:List Nat} (S:CompScope X M js sc) (hc:X.calm=true) (hi:FI X tg iter it) (hjs:∀ i∈is,js[i]? = some none)
  (hb:∀ s3 H3 fp,FG (cxComp X M sc s3 H3 fp) tg g is∧FTs (cxComp X M sc s3 H3 fp) ifs tt∧FP (cxComp X M sc s3 H3 fp) elt te) (hs:∀ x,foldedSetIterable iter X.env x=pure x:=by intro _;rfl) :
  FP X (.ListComp elt [⟨tg,iter,ifs,0⟩] sc pos) (eComp js it g tt te):=by
 obtain ⟨wi,pi,si⟩:=hi
 exact ⟨_,pe_comp (g:=tgS X.K g is) (tt:=ttS X.K tt) (te:=teS X.K te) S hc pi (fun s3 H3 fp=>⟨(hb s3 H3 fp).1.pg,(hb s3 H3 fp).2.1,(hb s3 H3 fp).2.2.pe⟩) hs,fun H0 S z held ρ σ H Q d tg ok e k=>comp_read hjs si H0 S z held ρ σ H Q d tg ok e k⟩
theorem fs_setC (i:Nat) {y:Str}{tg iter elt:Expr}{ifs:List Expr}{sc:Scope}{py spos:Pos}{M:List Str}{js:List (Option Nat)}{it:IF}{g:GF}{tt:TF}{te:EF}{is:List Nat} (hN:X.N.Nodup) (S:CompScope X M js sc) (hc:X.calm=true) (hi:FI X tg iter it)
  (hjs:∀ i∈is,js[i]? = some none) (hb:∀ s3 H3 fp,FG (cxComp X M sc s3 H3 fp) tg g is∧FTs (cxComp X M sc s3 H3 fp) ifs tt∧FP (cxComp X M sc s3 H3 fp) elt te) (hy:X.N[i]? = some y:=by rfl) (hl:X.env.scope.names.lookup y=some .local:=by rfl)
  (hsw:swapsWith (.ListComp elt [⟨tg,iter,ifs,0⟩] sc pos) (some (.Name y py)) spos.line X.env=pure true:=by rfl) (hs:∀ x,foldedSetIterable iter X.env x=pure x:=by intro _;rfl) (hself:kpt X y=false:=by rfl) :
  FS1 X (.Assign [.Name y py] (.ListComp elt [⟨tg,iter,ifs,0⟩] sc pos) spos) (sSet i (eComp js it g tt te)):=by
 obtain ⟨wi,pi,si⟩:=hi
 refine ⟨_,ps_setC (i:=i) (g:=tgS X.K g is) (tt:=ttS X.K tt) (te:=teS X.K te) hN hy hl S hc pi (fun s3 H3 fp=>⟨(hb s3 H3 fp).1.pg,(hb s3 H3 fp).2.1,(hb s3 H3 fp).2.2.pe⟩) hsw hs,fun H0 S z held ρ σ H E o ok e k=>?_⟩
 unfold sSet at e
 cases h:eComp js it g tt te ρ with
 | none=>rw [h] at e;cases e
 | some w=>
  obtain ⟨d,tg⟩:=w
  rw [h] at e
  cases e
  refine comp_read hjs si H0 S z held ρ σ H _ d tg ok h fun H1 v fp s1 r1 g1=>?_
  exact ok.stored s1 r1 g1 fun z' ok'=>k z' _ H1 ok' (.set hy hself)
end
def iniF (n:Nat) (ds:List D):Rho:=ds.map (fun d=>some (d,.sh []))++List.replicate (n - ds.length) none
def runF (n N:Nat) (b:SF):List D→Option D:=fun ds=>if ds.length=n then (match b (iniF N ds) with
 | some (.rt d)=>some d
 | some (.nx _)=>some .non
 | _=>none) else none
section
variable {P:Program}{w:World}{K:PySem.W.Frag}{mg:Str→Option Value}{base:Heap}
theorem fn_F {cm:Bool}{x qual:Str}{st:Stmt}{f:Addr}{fd:FuncData}{N ps:List Str}{k:Nat}{b:SF} (F:Fun K x qual st f fd) (S:FnScope N ps (defScope st))
  (hb:∀ (cdv:Value) (A:Around) (outer:List Env) (s:Shared) (H:Hp) (E:XK),Room k (A.deeper (envOfC qual (defScope st) s.heap.objs.size f cdv)) cm→FS (cxOf CX0 P w K mg base N qual (defScope st) f cdv A outer s H E cm).nox (defBody st) b) :
  FnOk P w K mg base CX0 (k + 1) f fd ps (spF K (runF ps.length N.length b)) cm:=by
 have lenF:∀ {ds:List D}{d:D},runF ps.length N.length b ds=some d→ds.length=ps.length:=fun {ds d} e=>by
  unfold runF at e
  by_cases h:ds.length=ps.length
  ·exact h
  ·rw [if_neg h] at e;cases e
 refine F.ok S (fun vs H Q E ⟨ds,fp,d,rs,e,_⟩=>?_) (fun cdv A outer s H vs Q E hr ⟨ds,fp,d,rs,e,q⟩=>?_)
 ·rw [← rs.length];exact lenF e
 ·obtain ⟨t,p,sd⟩:=hb cdv A outer s H E hr
  refine ⟨t,p,?_⟩
  have hl:=lenF e
  have hlv:=rs.length
  have ok:Ok K H [] (fun _=>none) [] (iniF N.length ds) (start N vs) H:=by
   refine ⟨fun i d' t' e'=>?_,(fun p m=>by cases m),(fun a j e=>by cases e),(fun a o e _=>e),?_⟩
   ·unfold iniF at e'
    by_cases hi:i < ds.length
    ·rw [List.getElem?_append_left (by rw [List.length_map];exact hi),List.getElem?_map,List.getElem?_eq_getElem hi] at e'
     cases e'
     obtain ⟨v,f',hv,rv,_⟩:=rs.get (List.getElem?_eq_getElem hi)
     refine ⟨v,f',?_,rv,fun a _ j e=>by cases e⟩
     unfold start
     rw [List.getElem?_append_left (by rw [List.length_map];omega),List.getElem?_map,hv]
     rfl
    ·rw [List.getElem?_append_right (by rw [List.length_map];omega),List.getElem?_replicate] at e'
     split at e' <;> cases e'
   ·unfold iniF start
    rw [List.length_append,List.length_append,List.length_map,List.length_map,List.length_replicate,List.length_replicate,hlv]
  unfold runF at e
  rw [if_pos hl] at e
  cases ho:b (iniF N.length ds) with
  | none=>rw [ho] at e;cases e
  | some o=>
   rw [ho] at e
   refine sd H [] (fun _=>none) [] (iniF N.length ds) (start N vs) H _ o ok ho ?_
   cases o with
   | rt d'=>
    cases e
    exact fun H' v fp' en r nd fr=>q H' v fp' (fun a o e=>en a o e (fun m=>nomatch m)) r nd fun a m=>(fr a m).resolve_right fun m=>nomatch m
   | nx ρ'=>
    cases e
    exact fun z' σ' H' ok' _=>q H' .non [] (fun a o e=>ok'.en a o e (fun m=>nomatch m)) .non List.nodup_nil fun a m=>nomatch m
   | bk _=>cases e
   | ct _=>cases e
   | er _ _ _=>cases e
end
def iop (f:Int→Int→Int):D→D→Option D
 | .int i,.int j=>some (.int (f i j))
 | _,_=>none
def iopC (C:Int→Int→Bool) (f:Int→Int→Int):D→D→Option D
 | .int i,.int j=>if C i j=true then some (.int (f i j)) else none
 | _,_=>none
def iopB (f:Int→Int→Bool):D→D→Option D
 | .int i,.int j=>some (.bl (f i j))
 | _,_=>none
def cMul (i j:Int):Bool:=(decide (-(2 ^ 64) < i)&&decide (i < 2 ^ 64))||(decide (-(2 ^ 64) < j)&&decide (j < 2 ^ 64))
def cPos (_ j:Int):Bool:=decide (0 < j)
def oAdd:=iop fun i j=>i + j
def oMul:=iopC cMul fun i j=>i * j
def oMod:=iopC cPos fun i j=>i % j
def oLt:=iopB fun i j=>decide (i < j)
def oLe:=iopB fun i j=>decide (i≤j)
def oGt:=iopB fun i j=>decide (j < i)
def oEq:D→D→Option D
 | .int i,.int j=>some (.bl (i == j))
 | .bl i,.bl j=>some (.bl (i == j))
 | .str i,.str j=>some (.bl (i == j))
 | .non,.non=>some (.bl true)
 | _,_=>none
def oNe:D→D→Option D
 | .int i,.int j=>some (.bl (!(i == j)))
 | .bl i,.bl j=>some (.bl (!(i == j)))
 | .str i,.str j=>some (.bl (!(i == j)))
 | .non,.non=>some (.bl false)
 | _,_=>none
def isNon:D→Bool
 | .non=>true
 | _=>false
def oIsN:D→D→Option D
 | d,.non=>some (.bl (isNon d))
 | _,_=>none
section
variable {K:PySem.W.Frag}
theorem does_i {g:Int→Int→Int}:Does2 K (rI0 fun i j=>.int (g i j)) (iop g):=by
 intro H x y d1 d2 f1 f2 d Q r1 r2 e k
 unfold iop at e
 split at e
 ·cases e
  exact ⟨_,_,r1.int_of.1,r2.int_of.1,k H _ (Same.refl H) (.int _)⟩
 ·cases e
theorem does_iB {g:Int→Int→Bool}:Does2 K (rI0 fun i j=>.bl (g i j)) (iopB g):=by
 intro H x y d1 d2 f1 f2 d Q r1 r2 e k
 unfold iopB at e
 split at e
 ·cases e
  exact ⟨_,_,r1.int_of.1,r2.int_of.1,k H _ (Same.refl H) (.bl _)⟩
 ·cases e
theorem does_iC {C:Int→Int→Prop}{c:Int→Int→Bool}{g:Int→Int→Int} (h:∀ i j,c i j=true→C i j):Does2 K (rI C fun i j=>.int (g i j)) (iopC c g):=by
 intro H x y d1 d2 f1 f2 d Q r1 r2 e k
 unfold iopC at e
 split at e
 ·rename_i i j
  by_cases hc:c i j=true
  ·rw [if_pos hc] at e
   cases e
   exact ⟨i,j,r1.int_of.1,r2.int_of.1,h i j hc,k H _ (Same.refl H) (.int _)⟩
  ·rw [if_neg hc] at e;cases e
 ·cases e
theorem cMul_ok (i j:Int) (h:cMul i j=true):CMul i j:=by
 unfold cMul at h
 unfold CMul
 rcases (Bool.or_eq_true _ _).mp h with h | h
 ·obtain ⟨a,b⟩:=(Bool.and_eq_true _ _).mp h
  exact .inl ⟨of_decide_eq_true a,of_decide_eq_true b⟩
 ·obtain ⟨a,b⟩:=(Bool.and_eq_true _ _).mp h
  exact .inr ⟨of_decide_eq_true a,of_decide_eq_true b⟩
theorem does_eq:Does2 K rEq oEq:=by
 intro H x y d1 d2 f1 f2 d Q r1 r2 e k
 unfold oEq at e
 split at e
 ·cases e;rw [r1.int_of.1,r2.int_of.1];refine ⟨rfl,?_⟩;rw [dec_int];exact k H _ (Same.refl H) (.bl _)
 ·cases e;rw [r1.bl_of.1,r2.bl_of.1];refine ⟨rfl,?_⟩;rw [dec_bl];exact k H _ (Same.refl H) (.bl _)
 ·cases e;rw [r1.str_of.1,r2.str_of.1];refine ⟨rfl,?_⟩;rw [dec_str];exact k H _ (Same.refl H) (.bl _)
 ·cases e;rw [r1.non_of.1,r2.non_of.1];exact ⟨rfl,by have:=k H (.bl true) (Same.refl H) (.bl _);simpa using this⟩
 ·cases e
theorem does_ne:Does2 K rNe oNe:=by
 intro H x y d1 d2 f1 f2 d Q r1 r2 e k
 unfold oNe at e
 split at e
 ·cases e;rw [r1.int_of.1,r2.int_of.1];refine ⟨rfl,?_⟩;rw [dec_int];exact k H _ (Same.refl H) (.bl _)
 ·cases e;rw [r1.bl_of.1,r2.bl_of.1];refine ⟨rfl,?_⟩;rw [dec_bl];exact k H _ (Same.refl H) (.bl _)
 ·cases e;rw [r1.str_of.1,r2.str_of.1];refine ⟨rfl,?_⟩;rw [dec_str];exact k H _ (Same.refl H) (.bl _)
 ·cases e;rw [r1.non_of.1,r2.non_of.1];exact ⟨rfl,by have:=k H (.bl false) (Same.refl H) (.bl _);simpa using this⟩
 ·cases e
theorem Rep.isNon {H:Hp}{d:D}{v:V}{fp:List Addr} (r:Rep K H d v fp):decide (v=.non)=isNon d:=by
 cases r <;> first | rfl | exact decide_eq_false (fun e=>nomatch e)
theorem does_isN:Does2 K (fun x y H Q=>y=.non∧Q (.bl (decide (x=.non))) H) oIsN:=by
 intro H x y d1 d2 f1 f2 d Q r1 r2 e k
 cases r2 with
 | non=>
  have e:some (D.bl (Ev.isNon d1))=some d:=by cases d1 <;> exact e
  cases e
  refine ⟨rfl,?_⟩
  rw [r1.isNon]
  exact k H _ (Same.refl H) (.bl _)
 | _=>cases d1 <;> cases e
end
section
variable {X:Cx}{a b:Expr}{fa fb:EF}{pos:Pos}
theorem fp_add (ha:FP X a fa) (hb:FP X b fb):FP X (.BinOp a .Add b pos) (e2 oAdd fa fb):=fp_bin op_add does_i ha hb
theorem fp_mul (ha:FP X a fa) (hb:FP X b fb):FP X (.BinOp a .Mult b pos) (e2 oMul fa fb):=fp_bin op_mul (does_iC cMul_ok) ha hb
theorem fp_mod (ha:FP X a fa) (hb:FP X b fb):FP X (.BinOp a .Mod b pos) (e2 oMod fa fb):=fp_bin op_mod (does_iC fun _ _ h=>of_decide_eq_true h) ha hb
theorem ft_lt (ha:FP X a fa) (hb:FP X b fb):FT X (.Compare a [.Lt] [b] pos) (tV (e2 oLt fa fb)):=ft_cmp op_lt does_iB ha hb (nomark _)
theorem ft_gt (ha:FP X a fa) (hb:FP X b fb):FT X (.Compare a [.Gt] [b] pos) (tV (e2 oGt fa fb)):=ft_cmp op_gt does_iB ha hb (nomark _)
theorem ft_eq (ha:FP X a fa) (hb:FP X b fb):FT X (.Compare a [.Eq] [b] pos) (tV (e2 oEq fa fb)):=ft_cmp op_eq does_eq ha hb (nomark _)
theorem ft_ne (ha:FP X a fa) (hb:FP X b fb):FT X (.Compare a [.NotEq] [b] pos) (tV (e2 oNe fa fb)):=ft_cmp op_ne does_ne ha hb (nomark _)
theorem ft_isN (ha:FP X a fa) (hb:FP X b fb):FT X (.Compare a [.Is] [b] pos) (tV (e2 oIsN fa fb)):=ft_cmp op_isN does_isN ha hb (nomark _)
theorem fp_eq (ha:FP X a fa) (hb:FP X b fb):FP X (.Compare a [.Eq] [b] pos) (e2 oEq fa fb):=fp_cmp op_eq does_eq ha hb (nomark _)
theorem fp_ne (ha:FP X a fa) (hb:FP X b fb):FP X (.Compare a [.NotEq] [b] pos) (e2 oNe fa fb):=fp_cmp op_ne does_ne ha hb (nomark _)
def e1 (op:D→Option D) (fa:EF):EF:=fun ρ=>match fa ρ with
 | some (d1,_)=>(op d1).map fun d=>(d,.own)
 | none=>none
theorem e1_of {op:D→Option D}{fa:EF}{ρ:Rho}{d:D}{tg:Tag} (e:e1 op fa ρ=some (d,tg)):∃ d1 t1,fa ρ=some (d1,t1)∧op d1=some d∧tg=.own:=by
 unfold e1 at e
 cases h1:fa ρ with
 | none=>rw [h1] at e;cases e
 | some p=>
  obtain ⟨d1,t1⟩:=p
  rw [h1] at e
  dsimp only at e
  cases h3:op d1 with
  | none=>rw [h3] at e;cases e
  | some d3=>rw [h3] at e;cases e;exact ⟨d1,t1,rfl,h3,rfl⟩
def Does1 (K:PySem.W.Frag) (r:List V→Hp→VK→Prop) (op:D→Option D):Prop:=∀ (H:Hp) (x:V) (d1:D) (f1:List Addr) (d:D) (Q:VK),Rep K H d1 x f1→op d1=some d →
 (∀ H' v fp,Same H H'→Rep K H' d v fp→fp.Nodup→(∀ a∈fp,H a=none)→Q v H')→r [x] H Q
theorem fp_1 {e:Expr}{r:List V→Hp→VK→Prop}{op:D→Option D} (dd:Does1 X.K r op) (ha:FP X a fa) (he:∀ ta,PE X a ta→PE X e (tCB r (tCons ta tNil))):FP X e (e1 op fa):=by
 obtain ⟨t,p,q⟩:=ha
 refine ⟨_,he t p,fun H0 S z held ρ σ H Q d tg ok e k=>?_⟩
 obtain ⟨d1,t1,h1,h2,rfl⟩:=e1_of e
 refine q H0 S z held ρ σ H _ d1 t1 ok h1 fun H1 x f1 s1 r1 _=>?_
 exact dd H1 x d1 f1 d Q r1 h2 fun H2 v fp s2 r2 nd fr=>k H2 v fp (s1.trans s2) r2 ⟨nd,fun a m=>s1.free (fr a m)⟩
def oLen:D→Option D
 | .lst ds=>some (.int ds.length)
 | .fls ds=>some (.int ds.length)
 | .tup ds=>some (.int ds.length)
 | .dic es=>some (.int es.length)
 | _=>none
theorem CallR.or' {f:Value}{r r':List V→Hp→VK→Prop} (h:CallR X f r) (h':CallR X f r'):CallR X f (fun xs H Q=>r xs H Q∨r' xs H Q):=by
 intro pins s σ H xs us Q I rv q
 rcases q with q | q
 ·exact h pins s σ H xs us Q I rv q
 ·exact h' pins s σ H xs us Q I rv q
theorem does_len:Does1 X.K (fun xs H Q=>(∃ p ys,xs=[V.ref p]∧(SqL X.K H p ys∨SqT X.K H p ys)∧Q (.int ys.length) H)∨(∃ a kvs,xs=[V.ref a]∧H a=some (.dK kvs)∧Q (.int kvs.length) H)) oLen:=by
 intro H x d1 f1 d Q r e k
 have fin:∀ n:Nat,d=.int n→Q (.int n) H:=fun n e=>by subst e;exact k H _ [] (Same.refl H) (.int _) List.nodup_nil fun a m=>nomatch m
 cases d1 with
 | lst ds=>
  obtain ⟨a,xs,f,rfl,hq,rs,_⟩:=r.lst_of
  cases e
  exact .inl ⟨a,xs,rfl,.inl hq,by rw [← rs.length];exact fin _ rfl⟩
 | fls ds=>
  obtain ⟨a,xs,rfl,hq,rs⟩:=r.fls_of
  cases e
  exact .inl ⟨a,xs,rfl,.inl hq,by rw [← rs.length];exact fin _ rfl⟩
 | tup ds=>
  obtain ⟨a,xs,rfl,hq,rs⟩:=r.tup_of
  cases e
  exact .inl ⟨a,xs,rfl,.inr hq,by rw [← rs.length];exact fin _ rfl⟩
 | dic es=>
  cases r with
  | dic h hk rs=>
   cases e
   refine .inr ⟨_,_,rfl,h,?_⟩
   have hl:=congrArg List.length hk
   rw [List.length_map,List.length_map] at hl
   rw [← hl]
   exact fin _ rfl
 | _=>cases e
theorem fp_len {p:Pos} (hm:X.mg "len"=none) (ha:FP X a fa) (hg:Gl X "len":=by rfl) (hs:starEach [a] X.env=[(false,eval a X.env)]:=by rfl):FP X (.Call (.Name "len" p) [a] [] pos) (e1 oLen fa):=
 fp_1 does_len ha fun ta pa=>pe_callB (CallR.or' call_len_seq call_lenD) hg hm PySem.boot_len (pa_cons pa pa_nil hs) (he:=hs) (hpl:=rfl)
end
def oIx:D→D→Option D
 | .fls ds,.int i=>(atI ds i).bind fun d=>if imm d=true then some d else none
 | .lst ds,.int i=>(atI ds i).bind fun d=>if imm d=true then some d else none
 | .tup ds,.int i=>(atI ds i).bind fun d=>if imm d=true then some d else none
 | _,_=>none
theorem does_ix {K:PySem.W.Frag}:Does2 K (fun x y H Q=>rIxL K x y H Q∨rIxT K x y H Q∨rIxS x y H Q) oIx:=by
 intro H x y d1 d2 f1 f2 d Q r1 r2 e k
 have key:∀ {ds:List D}{xs:List V}{f:List Addr}{i:Int},Reps K H ds xs f→((atI ds i).bind fun d=>if imm d=true then some d else none)=some d→∃ v,atI xs i=some v∧Rep K H d v []:=fun {ds xs f i} rs e=>by
  unfold atI at e ⊢
  rw [← rs.length]
  cases h:ixN ds.length i with
  | none=>rw [h] at e;cases e
  | some j=>
   rw [h,Option.bind_some] at e
   rw [Option.bind_some]
   cases h2:ds[j]? with
   | none=>rw [h2] at e;cases e
   | some d'=>
    rw [h2,Option.bind_some] at e
    by_cases hi:imm d'=true
    ·rw [if_pos hi] at e
     cases e
     obtain ⟨v,f',hv,rv,_⟩:=rs.get h2
     have hn:=rv.imm hi
     subst hn
     exact ⟨v,hv,rv⟩
    ·rw [if_neg hi] at e;cases e
 unfold oIx at e
 split at e
 ·obtain ⟨a,xs,rfl,hq,rs⟩:=r1.fls_of
  obtain ⟨v,hv,rv⟩:=key rs e
  exact .inl ⟨a,xs,_,v,rfl,r2.int_of.1,hq,hv,k H v (Same.refl H) rv⟩
 ·obtain ⟨a,xs,f,rfl,hq,rs,_⟩:=r1.lst_of
  obtain ⟨v,hv,rv⟩:=key rs e
  exact .inl ⟨a,xs,_,v,rfl,r2.int_of.1,hq,hv,k H v (Same.refl H) rv⟩
 ·obtain ⟨a,xs,rfl,hq,rs⟩:=r1.tup_of
  obtain ⟨v,hv,rv⟩:=key rs e
  exact .inr (.inl ⟨a,xs,_,v,rfl,r2.int_of.1,hq,hv,k H v (Same.refl H) rv⟩)
 ·cases e
theorem fp_ix {X:Cx}{a b:Expr}{fa fb:EF}{pos:Pos} (ha:FP X a fa) (hb:FP X b fb) (hs:PlainIx b:=by exact fun _ _=>rfl):FP X (.Subscript a b pos) (e2 oIx fa fb):=fp_2 does_ix ha hb fun _ _ pa pb=>pe_ix ix_seq pa pb hs
section
variable {ρ ρ':Rho}{i j:Nat}{d d1 d2:D}{t t1 t2:Tag}{op2:D→D→Option D}{op1:D→Option D}{f g fa fb:EF}{tf tg:TF}{sf sg:SF}{o:Out}
def varK (i:Nat):Option Slot→Option (D×Tag)
 | some (some (d,t))=>some (d,tagOf i t)
 | _=>none
theorem s_eC:eC d ρ=some (d,.own):=rfl
def k1 (op:D→Option D):Option (D×Tag)→Option (D×Tag)
 | some (d,_)=>(op d).map fun d=>(d,.own)
 | none=>none
theorem s_e1:e1 op1 fa ρ=k1 op1 (fa ρ):=by unfold e1 k1;cases fa ρ <;> rfl
theorem s_k1:k1 op1 (some (d,t))=(op1 d).map fun d=>(d,.own):=rfl
def k2 (op:D→D→Option D):Option (D×Tag)→Option (D×Tag)→Option (D×Tag)
 | some (d1,_),some (d2,_)=>(op d1 d2).map fun d=>(d,.own)
 | _,_=>none
theorem s_e2:e2 op2 fa fb ρ=k2 op2 (fa ρ) (fb ρ):=by unfold e2 k2;cases fa ρ <;> cases fb ρ <;> rfl
theorem s_k2:k2 op2 (some (d1,t1)) (some (d2,t2))=(op2 d1 d2).map fun d=>(d,.own):=rfl
theorem s_map {α β:Type}{f:α→β}{a:α}:(some a).map f=some (f a):=rfl
def kV:Option (D×Tag)→Option Bool
 | some (.bl b,_)=>some b
 | _=>none
theorem s_tV:tV fa ρ=Ev.kV (fa ρ):=by
 unfold tV Ev.kV
 cases fa ρ with
 | none=>rfl
 | some p=>obtain ⟨d,t⟩:=p;cases d <;> rfl
theorem s_and:tAnd2 tf tg ρ=(match tf ρ with | some true=>tg ρ | some false=>some false | none=>none):=rfl
theorem s_and2 {a b:Bool} (h:tf ρ=some a) (h2:tg ρ=some b):tAnd2 tf tg ρ=some (a&&b):=by unfold tAnd2;rw [h];cases a <;> first | exact h2 | rfl
theorem s_or2 {a b:Bool} (h:tf ρ=some a) (h2:tg ρ=some b):tOr2 tf tg ρ=some (a||b):=by unfold tOr2;rw [h];cases a <;> first | exact h2 | rfl
theorem s_not:tNot1 tf ρ=(tf ρ).map fun b=>!b:=rfl
theorem s_nx:sNx ρ=some (.nx ρ):=rfl
def seqK (g:SF):Option Out→Option Out
 | some (.nx ρ)=>g ρ
 | o=>o
theorem s_seq:sSeq sf sg ρ=seqK sg (sf ρ):=by
 unfold sSeq seqK
 cases sf ρ with
 | none=>rfl
 | some o=>cases o <;> rfl
theorem s_seqN:seqK sg (some (.nx ρ))=sg ρ:=rfl
theorem s_seqR:seqK sg (some (.rt d))=some (.rt d):=rfl
def ifK (sf sg:SF) (ρ:Rho):Option Bool→Option Out
 | some true=>sf ρ
 | some false=>sg ρ
 | none=>none
theorem s_if:sIf tf sf sg ρ=ifK sf sg ρ (tf ρ):=by unfold sIf ifK;cases tf ρ <;> rfl
theorem s_ifT:ifK sf sg ρ (some true)=sf ρ:=rfl
theorem s_ifF:ifK sf sg ρ (some false)=sg ρ:=rfl
def retK:Option (D×Tag)→Option Out
 | some (d,t)=>if isOwn t=true then some (.rt d) else if imm d=true then some (.rt d) else none
 | none=>none
theorem s_ret:sRet fa ρ=retK (fa ρ):=by unfold sRet retK;cases fa ρ <;> rfl
def setK (i:Nat) (ρ:Rho):Option (D×Tag)→Option Out
 | some (d,t)=>some (.nx (setS ρ i d t))
 | none=>none
theorem s_set:sSet i fa ρ=setK i ρ (fa ρ):=by unfold sSet setK;cases fa ρ <;> rfl
theorem s_aNil:aNil ρ=some []:=rfl
def consK:Option (D×Tag)→Option (List (D×Tag))→Option (List (D×Tag))
 | some p,some ps=>some (p::ps)
 | _,_=>none
theorem s_aCons {a:AF}:aCons fa a ρ=consK (fa ρ) (a ρ):=by unfold aCons consK;cases fa ρ <;> cases a ρ <;> rfl
theorem s_consK {p:D×Tag}{ps:List (D×Tag)}:consK (some p) (some ps)=some (p::ps):=rfl
theorem s_call {F:List D→Option D}{a:AF}:eCall F a ρ=(a ρ).bind fun ps=>(F (ps.map (·.1))).map fun d=>(d,.own):=rfl
theorem s_bind {α β:Type}{f:α→Option β}{a:α}:(some a).bind f=f a:=rfl
theorem s_tup {a:AF}:eTup a ρ=(a ρ).map fun ps=>(.tup (ps.map (·.1)),joinA ps):=rfl
variable {m n:Int}
theorem s_oMul (h:cMul m n=true):oMul (.int m) (.int n)=some (.int (m * n)):=by show (if cMul m n=true then some (D.int (m * n)) else none)=_;rw [if_pos h]
theorem s_oMod (h:0 < n):oMod (.int m) (.int n)=some (.int (m % n)):=by show (if cPos m n=true then some (D.int (m % n)) else none)=_;rw [if_pos (show cPos m n=true from decide_eq_true h)]
theorem s_oLt:oLt (.int m) (.int n)=some (.bl (decide (m < n))):=rfl
theorem s_oLe:oLe (.int m) (.int n)=some (.bl (decide (m≤n))):=rfl
theorem s_lenL {ds:List D}:oLen (.lst ds)=some (.int ds.length):=rfl
theorem s_lenF {ds:List D}:oLen (.fls ds)=some (.int ds.length):=rfl
theorem s_ixL {ds:List D} (h:atI ds m=some d) (hi:imm d=true):oIx (.lst ds) (.int m)=some d:=by show ((atI ds m).bind fun d=>if imm d=true then some d else none)=_;rw [h,Option.bind_some,if_pos hi]
theorem runF_rt {n N:Nat}{b:SF}{ds:List D} (hl:ds.length=n) (h:b (iniF N ds)=some (.rt d)):runF n N b ds=some d:=by unfold runF;rw [if_pos hl,h]
end
def dI (ns:List Int):D:=.fls (ns.map D.int)
section
variable {κ:Type} [DecidableEq κ]
def valD (es:List (κ×D)) (k:κ):Option D:=(es.find? fun kv=>decide (kv.1=k)).map (·.2)
end
def keyD:D→Option Key
 | .int i=>some (.inl i)
 | .str x=>some (.inr x)
 | _=>none
def oGet:D→D→Option D
 | .dic es,kd=>match keyD kd with
  | some k=>(valD es k).bind fun d=>if imm d=true then some d else none
  | none=>none
 | _,_=>none
section
variable {X:Cx}{a b c:Expr}{fa fb fc:EF}{pos:Pos}
def oGetD (d1 d2 d3:D):Option D:=match d1,keyD d2 with
 | .dic es,some k=>match valD es k with
  | some d=>if imm d=true then some d else none
  | none=>if imm d3=true then some d3 else none
 | _,_=>none
def e3 (op:D→D→D→Option D) (fa fb fc:EF):EF:=fun ρ=>match fa ρ,fb ρ,fc ρ with
 | some (d1,_),some (d2,_),some (d3,_)=>(op d1 d2 d3).map fun d=>(d,.own)
 | _,_,_=>none
end
def dropT (i:Nat):Slot→Slot
 | some (d,.sh o)=>if o.contains i=true then none else some (d,.sh o)
 | s=>s
def mutS (ρ:Rho) (i:Nat) (d:D):Rho:=(ρ.map (dropT i)).set i (some (d,.own))
theorem Ok.mutate {K:PySem.W.Frag}{H0:Hp}{S:List Addr}{z:Addr→Option Nat}{held:List Held}{ρ:Rho}{σ:St}{H:Hp}{i:Nat}{d0 d1:D}{v:V}{fp:List Addr}{p:Addr}{o o':HO} (ok:Ok K H0 S z held ρ σ H) (h:ρ[i]? = some (some (d0,.own)))
  (hs:σ[i]? = some (some v)) (zz:InZ z i .own fp) (hp:p∈fp) (ho:H p=some o) (mo:MutO o=true) (r1:Rep K (upd H p o') d1 v fp):Ok K H0 S z held (mutS ρ i d1) σ (upd H p o'):=by
 have im:Imm H (upd H p o'):=Imm.upd ho mo
 have zp:z p=some i:=zz.2 p hp
 have hiρ:i < ρ.length:=(List.getElem?_eq_some_iff.mp h).1
 refine ⟨fun j d t e=>?_,fun q m=>?_,fun a j e=>?_,fun a u e n=>?_,?_⟩
 ·unfold mutS at e
  by_cases hj:j=i
  ·subst hj
   rw [List.getElem?_set_self (by rw [List.length_map];exact hiρ)] at e
   cases e
   exact ⟨v,fp,hs,r1,zz⟩
  ·rw [List.getElem?_set_ne (Ne.symm hj),List.getElem?_map] at e
   cases e0:ρ[j]? with
   | none=>rw [e0] at e;cases e
   | some s=>
    rw [e0] at e
    have e:dropT i s=some (d,t):=Option.some.inj e
    have e1:s=some (d,t)∧∀ o,t=.sh o→¬ i∈o:=by
     cases s with
     | none=>cases e
     | some w=>
      obtain ⟨d',t'⟩:=w
      cases t' with
      | sh o=>
       have e:(if o.contains i=true then none else some (d',Tag.sh o))=some (d,t):=e
       by_cases hc:o.contains i=true
       ·rw [if_pos hc] at e;cases e
       ·rw [if_neg hc] at e
        cases e
        exact ⟨rfl,fun o' eo m=>by cases eo;exact hc (List.contains_iff_mem.mpr m)⟩
      | own=>cases e;exact ⟨rfl,fun o eo=>by cases eo⟩
      | lk=>cases e;exact ⟨rfl,fun o eo=>by cases eo⟩
    obtain ⟨rfl,nd⟩:=e1
    obtain ⟨v',fp',hs',r',z'⟩:=ok.sl j d t e0
    have np:∀ a∈fp',a≠p:=fun a m e=>by
     subst e
     cases t with
     | sh o=>exact nd o rfl (z' a m i zp)
     | own=>have:=z'.2 a m;rw [zp] at this;exact hj (Option.some.inj this).symm
     | lk=>have:=z'.2 a m;rw [zp] at this;exact hj (Option.some.inj this).symm
    exact ⟨v',fp',hs',r'.frame (fun a m=>upd_ne (np a m)) im,z'⟩
 ·obtain ⟨r,hz⟩:=ok.hl q m
  have np:∀ a∈q.fp,a≠p:=fun a m e=>by
   subst e
   exact (hz a m i zp).2 d0 h
  refine ⟨r.frame (fun a m=>upd_ne (np a m)) im,fun a ha j e=>?_⟩
  obtain ⟨h1,h2⟩:=hz a ha j e
  have hj:j≠i:=fun e=>h2 d0 (by rw [e];exact h)
  refine ⟨h1,fun d e=>?_⟩
  unfold mutS at e
  rw [List.getElem?_set_ne (Ne.symm hj),List.getElem?_map] at e
  cases e0:ρ[j]? with
  | none=>rw [e0] at e;cases e
  | some s=>
   rw [e0] at e
   have e:dropT i s=some (d,.own):=Option.some.inj e
   cases s with
   | none=>cases e
   | some w=>
    obtain ⟨d',t'⟩:=w
    cases t' with
    | sh o=>
     have e:(if o.contains i=true then none else some (d',Tag.sh o))=some (d,.own):=e
     split at e <;> cases e
    | own=>exact h2 d' e0
    | lk=>cases e
 ·obtain ⟨⟨u,w⟩,y⟩:=ok.zd a j e
  refine ⟨?_,y⟩
  by_cases ea:a=p
  ·subst ea;exact ⟨_,upd_same⟩
  ·exact ⟨u,by rw [upd_ne ea];exact w⟩
 ·have w:=ok.en a u e n
  rw [upd_ne]
  ·exact w
  ·intro ea
   subst ea
   rcases (ok.zd a i zp).2 with q | q
   ·rw [q] at e;cases e
   ·exact n q
 ·unfold mutS
  rw [List.length_set,List.length_map]
  exact ok.ln
def ins1 (x:Int):List Int→List Int
 | []=>[x]
 | y::r=>if x≤y then x::y::r else y::ins1 x r
theorem ins1_perm (x:Int):∀ l:List Int,(ins1 x l).Perm (x::l)
 | []=>.refl _
 | y::r=>by
  unfold ins1
  split
  ·exact .refl _
  ·exact ((ins1_perm x r).cons y).trans (.swap x y r)
def intsD:List D→Option (List Int)
 | []=>some []
 | .int i::r=>(intsD r).map (i::·)
 | _=>none
theorem reps_ints {K:PySem.W.Frag}{H:Hp}:∀ ns:List Int,Reps K H (ns.map D.int) (ns.map V.int) []
 | []=>.nil
 | n::r=>Reps.cons (f1:=[]) (f2:=[]) (.int n) (reps_ints r)
section
variable {X:Cx}{a b:Expr}{fa fb:EF}{pos:Pos}
def oTuple:D→Option D
 | .lst ds=>if immAll ds=true then some (.tup ds) else none
 | .tup ds=>if immAll ds=true then some (.tup ds) else none
 | _=>none
theorem does_tuple:Does1 X.K (fun xs H Q=>∃ p ys,xs=[V.ref p]∧((SqL X.K H p ys∧∀ l,H l=none→Q (.ref l) (upd H l (.tup ys)))∨(SqT X.K H p ys∧Q (.ref p) H))) oTuple:=by
 intro H x d1 f1 d Q r e k
 cases d1 with
 | lst ds=>
  obtain ⟨a,xs,f,rfl,hq,rs,_⟩:=r.lst_of
  have e:(if immAll ds=true then some (D.tup ds) else none)=some d:=e
  by_cases hi:immAll ds=true
  ·rw [if_pos hi] at e
   cases e
   have hn:=rs.imm hi
   subst hn
   refine ⟨a,xs,rfl,.inl ⟨hq,fun l hl=>?_⟩⟩
   have s2:Same H (upd H l (.tup xs)):=fun b o e=>by rw [upd_ne (ne_of_none e hl)];exact e
   exact k _ _ [] s2 (.tup (SqT.of upd_same) (rs.same s2)) List.nodup_nil fun a m=>nomatch m
  ·rw [if_neg hi] at e;cases e
 | tup ds=>
  obtain ⟨a,xs,rfl,hq,rs⟩:=r.tup_of
  have e:(if immAll ds=true then some (D.tup ds) else none)=some d:=e
  by_cases hi:immAll ds=true
  ·rw [if_pos hi] at e
   cases e
   have hn:=rs.imm hi
   subst hn
   exact ⟨a,xs,rfl,.inr ⟨hq,k H _ [] (Same.refl H) (.tup hq rs) List.nodup_nil fun a m=>nomatch m⟩⟩
  ·rw [if_neg hi] at e;cases e
 | _=>cases e
theorem fp_tuple {p:Pos} (hm:X.mg "tuple"=none) (ha:FP X a fa) (hg:Gl X "tuple":=by rfl) (hs:starEach [a] X.env=[(false,eval a X.env)]:=by rfl):FP X (.Call (.Name "tuple" p) [a] [] pos) (e1 oTuple fa):=
 fp_1 does_tuple ha fun ta pa=>pe_callTy call_tuple_of hg hm (show bootBuiltins "tuple"=some (.type "tuple") by decide +kernel) (pa_cons pa pa_nil hs) (he:=hs) (hpl:=rfl)
end
section
variable {X:Cx}{pins:List (Addr×Obj)}{σ:St}{H:Hp}{s:Shared}
def scopeOk (N:List Str) (osc sc:Scope) (M:List Str) (js:List (Option Nat)):Bool:=
 (sc.kind == .function)&&sc.names.all (fun y=>y.2 != .cell)&&sc.names.all (fun y=>if y.2 == .local then sc.names.lookup y.1 == some .local else true)&&capOk N sc M js&&(frees sc).all (fun x=>osc.names.lookup x == some .cell||osc.names.lookup x == some .free)&&decide M.Nodup
theorem compScope_mk {X:Cx}{N:List Str}{osc sc:Scope}{M:List Str}{js:List (Option Nat)} (h1:X.N=N) (h2:X.env.scope=osc) (h3:X.env.kindOf=fun x=>osc.names.lookup x) (h:scopeOk N osc sc M js=true):CompScope X M js sc:=by
 unfold scopeOk at h
 obtain ⟨h,a6⟩:=(Bool.and_eq_true _ _).mp h
 obtain ⟨h,a5⟩:=(Bool.and_eq_true _ _).mp h
 obtain ⟨h,a4⟩:=(Bool.and_eq_true _ _).mp h
 obtain ⟨h,a3⟩:=(Bool.and_eq_true _ _).mp h
 obtain ⟨a1,a2⟩:=(Bool.and_eq_true _ _).mp h
 refine ⟨?_,fun y hy=>?_,fun y hy hl=>?_,?_,fun x hx=>?_,of_decide_eq_true a6⟩
 ·cases hk:sc.kind <;> rw [hk] at a1 <;> first | rfl | exact absurd a1 (by decide)
 ·have:=List.all_eq_true.mp a2 y hy
  intro z
  rw [z] at this
  exact absurd this (by decide)
 ·have:=List.all_eq_true.mp a3 y hy
  rw [hl] at this
  have this:(sc.names.lookup y.1 == some NameKind.local)=true:=this
  cases q:sc.names.lookup y.1 with
  | none=>rw [q] at this;exact absurd this (by decide)
  | some k=>rw [q] at this;cases k <;> first | rfl | exact absurd this (by decide)
 ·rw [h1];exact a4
 ·have:=List.all_eq_true.mp a5 x hx
  rw [h3]
  dsimp only
  cases q:osc.names.lookup x with
  | none=>rw [q] at this;exact absurd this (by decide)
  | some k=>rw [q] at this;cases k <;> first | exact .inl rfl | exact .inr rfl | exact absurd this (by decide)
end
theorem TagOk.back {z:Addr→Option Nat}{H H1:Hp}{t:Tag}{fp:List Addr} (g:TagOk z H1 t fp) (s:Same H H1):TagOk z H t fp:=by
 cases t with
 | sh o=>exact g
 | own=>exact ⟨g.1,fun a m=>s.free (g.2 a m)⟩
 | lk=>exact ⟨g.1,fun a m=>s.free (g.2 a m)⟩
section
variable {X:Cx}{a b:Expr}{fa fb:EF}{pos:Pos}
def eAnd (fa fb:EF):EF:=fun ρ=>match fa ρ with
 | some (.bl true,_)=>fb ρ
 | some (.bl false,_)=>some (.bl false,.own)
 | _=>none
def eOr (fa fb:EF):EF:=fun ρ=>match fa ρ with
 | some (.bl true,_)=>some (.bl true,.own)
 | some (.bl false,_)=>fb ρ
 | _=>none
def oNot:D→Option D
 | .bl b=>some (.bl (!b))
 | _=>none
theorem fp_one {op} (h:FP X a fa):FP X (.BoolOp op [a] pos) fa:=let ⟨t,p,q⟩:=h;⟨t,pe_one p,q⟩
theorem fp_and {rest:List Expr} (ha:FP X a fa) (hb:FP X (.BoolOp .And (b::rest) pos) fb):FP X (.BoolOp .And (a::b::rest) pos) (eAnd fa fb):=by
 obtain ⟨t,p,q⟩:=ha
 obtain ⟨t',p',q'⟩:=hb
 refine ⟨_,pe_and p p',fun H0 S z held ρ σ H Q d tg ok e k=>?_⟩
 unfold eAnd at e
 split at e
 ·rename_i tt h
  refine q H0 S z held ρ σ H _ _ tt ok h fun H1 v fp s1 r1 _=>?_
  cases r1
  refine ⟨true,rfl,?_⟩
  rw [if_pos rfl]
  exact q' H0 S z held ρ σ H1 _ d tg (ok.same s1) e fun H2 v fp s2 r2 g2=>k H2 v fp (s1.trans s2) r2 (g2.back s1)
 ·rename_i tt h
  cases e
  refine q H0 S z held ρ σ H _ _ tt ok h fun H1 v fp s1 r1 _=>?_
  cases r1
  refine ⟨false,rfl,?_⟩
  rw [if_neg Bool.false_ne_true]
  exact k H1 _ [] s1 (.bl _) .nil
 ·cases e
theorem fp_or {rest:List Expr} (ha:FP X a fa) (hb:FP X (.BoolOp .Or (b::rest) pos) fb):FP X (.BoolOp .Or (a::b::rest) pos) (eOr fa fb):=by
 obtain ⟨t,p,q⟩:=ha
 obtain ⟨t',p',q'⟩:=hb
 refine ⟨_,pe_or p p',fun H0 S z held ρ σ H Q d tg ok e k=>?_⟩
 unfold eOr at e
 split at e
 ·rename_i tt h
  cases e
  refine q H0 S z held ρ σ H _ _ tt ok h fun H1 v fp s1 r1 _=>?_
  cases r1
  refine ⟨true,rfl,?_⟩
  rw [if_pos rfl]
  exact k H1 _ [] s1 (.bl _) .nil
 ·rename_i tt h
  refine q H0 S z held ρ σ H _ _ tt ok h fun H1 v fp s1 r1 _=>?_
  cases r1
  refine ⟨false,rfl,?_⟩
  rw [if_neg Bool.false_ne_true]
  exact q' H0 S z held ρ σ H1 _ d tg (ok.same s1) e fun H2 v fp s2 r2 g2=>k H2 v fp (s1.trans s2) r2 (g2.back s1)
 ·cases e
theorem fp_not (ha:FP X a fa):FP X (.UnaryOp .Not a pos) (e1 oNot fa):=by
 obtain ⟨t,p,q⟩:=ha
 refine ⟨_,pe_not p,fun H0 S z held ρ σ H Q d tg ok e k=>?_⟩
 obtain ⟨d1,t1,h1,h2,rfl⟩:=e1_of e
 refine q H0 S z held ρ σ H _ d1 t1 ok h1 fun H1 v fp s1 r1 _=>?_
 cases r1 <;> cases h2
 exact ⟨_,rfl,k H1 _ [] s1 (.bl _) .nil⟩
def oCat:D→D→Option D
 | .lst ds,.lst es=>if (immAll ds&&immAll es&&decide (ds.length + es.length≤sizeLine))=true then some (.lst (ds++es)) else none
 | _,_=>none
theorem fp_cat (ha:FP X a fa) (hb:FP X b fb):FP X (.BinOp a .Add b pos) (e2 oCat fa fb):=by
 obtain ⟨ta,pa,sa⟩:=ha
 obtain ⟨tb,pb,sb⟩:=hb
 refine ⟨_,pe_op op_cat pa pb,fun H0 S z held ρ σ H Q d tg ok e q=>?_⟩
 obtain ⟨d1,t1,d2,t2,e1,e2',e3,rfl⟩:=e2_of e
 refine sa H0 S z held ρ σ H _ d1 t1 ok e1 fun H1 x f1 s1 r1 _=>?_
 refine sb H0 S z held ρ σ H1 _ d2 t2 (ok.same s1) e2' fun H2 y f2 s2 r2 _=>?_
 have r1':=r1.same s2
 cases r1' with
 | @lst p xs ds f h rs=>
  cases r2 with
  | @lst p' ys es f' h' rs'=>
   have e3:(if (immAll ds&&immAll es&&decide (ds.length + es.length≤sizeLine))=true then some (D.lst (ds++es)) else none)=some d:=e3
   by_cases hc:(immAll ds&&immAll es&&decide (ds.length + es.length≤sizeLine))=true
   ·rw [if_pos hc] at e3
    cases e3
    obtain ⟨c1,c3⟩:=(Bool.and_eq_true _ _).mp hc
    obtain ⟨c1,c2⟩:=(Bool.and_eq_true _ _).mp c1
    have n1:=rs.imm c1
    have n2:=rs'.imm c2
    subst n1 n2
    refine ⟨p,p',xs,ys,rfl,rfl,h,h',by rw [← rs.length,← rs'.length];exact of_decide_eq_true c3,fun l hl=>?_⟩
    have s3:Same H2 (upd H2 l (.lst (xs++ys))):=fun b o e=>by rw [upd_ne (ne_of_none e hl)];exact e
    have rr:Reps X.K H2 (ds++es) (xs++ys) []:=Reps.append (f:=[]) (g:=[]) rs rs'
    refine q _ _ [l] ((s1.trans s2).trans s3) (.lst upd_same (rr.same s3)) ⟨List.nodup_cons.mpr ⟨(fun m=>by cases m),List.nodup_nil⟩,fun a m=>?_⟩
    cases List.mem_singleton.mp m
    exact (s1.trans s2).free hl
   ·rw [if_neg hc] at e3;cases e3
  | _=>cases e3
 | _=>cases d2 <;> cases e3
def tyD:D→Option String
 | .int _=>some "int"
 | .bl _=>some "bool"
 | .str _=>some "str"
 | .non=>some "NoneType"
 | .lst _=>some "list"
 | .dic _=>some "dict"
 | _=>none
def oIsi (T:String) (d:D):Option D:=match tyD d with
 | some t=>some (.bl (t == T||(t == "bool"&&T == "int")))
 | none=>none
def isiOk (T:String):Prop:=∀ (K:PySem.W.Frag) (t:String),t∈["int","bool","str","NoneType","list","dict"]→PySem.W.kitOne K (.type t) (.type T)=some (t == T||(t == "bool"&&T == "int"))
theorem isi_int:isiOk "int":=by
 intro K t m
 simp only [List.mem_cons,List.not_mem_nil,or_false] at m
 rcases m with rfl | rfl | rfl | rfl | rfl | rfl <;> rfl
theorem isi_bool:isiOk "bool":=by
 intro K t m
 simp only [List.mem_cons,List.not_mem_nil,or_false] at m
 rcases m with rfl | rfl | rfl | rfl | rfl | rfl <;> rfl
theorem call_isi (T:String):CallR X (.builtin "isinstance") (fun xs H Q=>∃ x t b,xs=[x,V.ty T]∧TyOf X.K H x t∧PySem.W.kitOne X.K t (.type T)=some b∧Q (.bl b) H):=by
 intro pins s σ H xs us Q I r h
 obtain ⟨x,t,bb,rfl,ty,e,q⟩:=h
 obtain ⟨u,w',rfl,ru,rw'⟩:=vals2 r
 cases rw'
 exact isinst_ok I ru ty e fun tk=>⟨.bl bb,H,I.tok tk,rfl,q⟩
theorem Rep.ty {K:PySem.W.Frag}{H:Hp}{d:D}{v:V}{fp:List Addr}{t:String} (r:Rep K H d v fp) (e:tyD d=some t):TyOf K H v (.type t)∧t∈["int","bool","str","NoneType","list","dict"]:=by
 cases r with
 | non=>cases e;exact ⟨.non,by decide⟩
 | bl b=>cases e;exact ⟨.bl b,by decide⟩
 | int i=>cases e;exact ⟨.int i,by decide⟩
 | str x=>cases e;exact ⟨.str x,by decide⟩
 | lst h _=>cases e;exact ⟨.lst h,by decide⟩
 | dic h _ _=>cases e;exact ⟨.dK h,by decide⟩
 | tup _ _=>cases e
 | lsf _ _=>cases e
 | dit _ _ _=>cases e
 | ins _ _ _ _=>cases e
 | exc _ _ _=>cases e
theorem fp_isi {T:String}{x:Str}{p p2:Pos} (hT:isiOk T) (hm:X.mg "isinstance"=none) (hmT:X.mg x=none) (ha:FP X a fa) (hbT:bootBuiltins x=some (.type T):=by decide +kernel) (hg:Gl X "isinstance":=by rfl) (hgT:Gl X x:=by rfl) (hn:x≠"__name__":=by decide) (hdb:(x == ("__debug__":Str))=false:=by decide)
  (hs:starEach [a,.Name x p2] X.env=[(false,eval a X.env),(false,eval (.Name x p2) X.env)]:=by rfl) (hpl:(backTo pos (starEach [.Name x p2] X.env)).any (·.1)=false:=by rfl):FP X (.Call (.Name "isinstance" p) [a,.Name x p2] [] pos) (e1 (oIsi T) fa):=by
 obtain ⟨ta,pa,sa⟩:=ha
 have hs2:starEach [.Name x p2] X.env=[(false,eval (.Name x p2) X.env)]:=rfl
 refine ⟨_,pe_callB (call_isi T) hg hm (show bootBuiltins "isinstance"=some (.builtin "isinstance") by decide +kernel) (pa_cons pa (pa_cons (pe_bltn (v:=.ty T) hgT hmT hbT rfl hn hdb) pa_nil) (by rw [hs,hs2])) (he:=by rw [hs,hs2]) (hpl:=hpl),fun H0 S z held ρ σ H Q d tg ok e k=>?_⟩
 obtain ⟨d1,t1,h1,h2,rfl⟩:=e1_of e
 refine sa H0 S z held ρ σ H _ d1 t1 ok h1 fun H1 v fp s1 r1 _=>?_
 unfold oIsi at h2
 cases ht:tyD d1 with
 | none=>rw [ht] at h2;cases h2
 | some t=>
  rw [ht] at h2
  cases h2
  obtain ⟨ty,mem⟩:=r1.ty ht
  exact ⟨v,_,_,rfl,ty,hT X.K t mem,k H1 _ [] s1 (.bl _) .nil⟩
end
end L2.Ev
namespace L2.Ev
open PySem
section
variable {ρ:Rho}{fa fb fc:EF}{d d1 d2 d3:D}{t t1 t2 t3:Tag}{op3:D→D→D→Option D}{tf tg:TF}
def k3 (op:D→D→D→Option D):Option (D×Tag)→Option (D×Tag)→Option (D×Tag)→Option (D×Tag)
 | some (d1,_),some (d2,_),some (d3,_)=>(op d1 d2 d3).map fun d=>(d,.own)
 | _,_,_=>none
def eAndK (fb:EF) (ρ:Rho):Option (D×Tag)→Option (D×Tag)
 | some (.bl true,_)=>fb ρ
 | some (.bl false,_)=>some (.bl false,.own)
 | _=>none
theorem s_eAnd:eAnd fa fb ρ=eAndK fb ρ (fa ρ):=by
 unfold eAnd eAndK
 cases fa ρ with
 | none=>rfl
 | some w=>obtain ⟨d,t⟩:=w;cases d <;> first | rfl | (rename_i b;cases b <;> rfl)
end
section
variable {g:GF}{t:Tag}{f:SF}
theorem for_nx {it:IF}{ds:List D}{ρ ρ':Rho} (hi:it ρ=some (ds,t)) (h:loopF g (itag t) f ds (lockS (ownsIn (ovr t) ρ) ρ)=some (.nx ρ')):sFor it g f ρ=some (.nx (unlockS (ownsIn (ovr t) ρ) ρ')):=by unfold sFor;rw [hi];dsimp only;rw [h]
theorem for_rt {it:IF}{ds:List D}{ρ:Rho}{r:D} (hi:it ρ=some (ds,t)) (h:loopF g (itag t) f ds (lockS (ownsIn (ovr t) ρ) ρ)=some (.rt r)):sFor it g f ρ=some (.rt r):=by unfold sFor;rw [hi];dsimp only;rw [h]
theorem for_nx0 {it:IF}{ds:List D}{ρ ρ':Rho} (hi:it ρ=some (ds,.own)) (h:loopF g (.sh []) f ds ρ=some (.nx ρ')):sFor it g f ρ=some (.nx ρ'):=for_nx hi h
theorem for_rt0 {it:IF}{ds:List D}{ρ:Rho}{r:D} (hi:it ρ=some (ds,.own)) (h:loopF g (.sh []) f ds ρ=some (.rt r)):sFor it g f ρ=some (.rt r):=for_rt hi h
theorem ir1 {e:EF}{ρ:Rho}{n:Int}{t:Tag} (h:e ρ=some (.int n,t)) (hs:small n=true):iR1 e ρ=some ((List.range n.toNat).map fun i:Nat=>D.int (0 + (i:Int)),.own):=by unfold iR1;rw [h];dsimp only;rw [if_pos hs]
theorem comp_ok {js:List (Option Nat)}{it:IF}{tt:TF}{te:EF}{ρ:Rho}{ds:List D}{k:D→Option D} (hi:it ρ=some (ds,t)) (hl:ds.length < sizeLine) (h:∀ d∈ds,compE g tt te (iniR js ρ) d=some (k d)) :
  eComp js it g tt te ρ=some (.lst (ds.filterMap k),.own):=by unfold eComp;rw [hi];dsimp only;rw [if_pos hl,compF_ok h];rfl
theorem compE_no {tt:TF}{te:EF}{ρ ρ1:Rho}{d:D} (h1:g d (.sh []) ρ=some ρ1) (h2:tt ρ1=some false):compE g tt te ρ d=some none:=by unfold compE;rw [h1];dsimp only;rw [h2]
theorem compE_own {tt:TF}{te:EF}{ρ ρ1:Rho}{d e:D} (h1:g d (.sh []) ρ=some ρ1) (h2:tt ρ1=some true) (h3:te ρ1=some (e,.own)):compE g tt te ρ d=some (some e):=by unfold compE;rw [h1];dsimp only;rw [h2];dsimp only;rw [h3];rfl
theorem compE_imm {tt:TF}{te:EF}{ρ ρ1:Rho}{d e:D}{tg:Tag} (h1:g d (.sh []) ρ=some ρ1) (h2:tt ρ1=some true) (h3:te ρ1=some (e,tg)) (hi:imm e=true):compE g tt te ρ d=some (some e):=by
 unfold compE;rw [h1];dsimp only;rw [h2];dsimp only;rw [h3];dsimp only
 by_cases ho:isOwn tg=true
 ·rw [if_pos ho]
 ·rw [if_neg ho,if_pos hi]
end
open PySem PySem.Spec PyProof.Rows
mutual
def py:D→PyData
 | .bl b=>.bool b
 | .int i=>.int i
 | .str x=>.str x
 | .tup ds=>.tuple (pys ds)
 | .lst ds=>.list (pys ds)
 | .fls ds=>.list (pys ds)
 | _=>.none
def pys:List D→List PyData
 | []=>[]
 | d::ds=>py d::pys ds
end
mutual
def okPy:D→Bool
 | .non | .bl _ | .int _ | .str _=>true
 | .tup ds | .lst ds | .fls ds=>okPys ds
 | _=>false
def okPys:List D→Bool
 | []=>true
 | d::ds=>okPy d&&okPys ds
end
section
variable {X:Cx}{pins:List (Addr×Obj)}{σ:St}{H:Hp}{s:Shared}
mutual
theorem reads_of (I:Inv X pins σ H s):∀ {d:D}{v:V}{f:List Addr}{u:Value},Rep X.K H d v f→RelV v u→okPy d=true→∃ as,Reads s.heap u (py d) as
 | .non,_,_,_,r,q,_=>by cases r;cases q;exact ⟨_,by unfold py;exact .none⟩
 | .bl b,_,_,_,r,q,_=>by cases r;cases q;exact ⟨_,by unfold py;exact .bool b⟩
 | .int i,_,_,_,r,q,_=>by cases r;obtain ⟨t,rfl⟩:=q;exact ⟨_,by unfold py;exact .int i t⟩
 | .str x,_,_,_,r,q,_=>by cases r;obtain ⟨t,rfl⟩:=q;exact ⟨_,by unfold py;exact .str x t⟩
 | .tup ds,_,_,_,r,q,e=>by
  obtain ⟨a,xs,rfl,hq,rs⟩:=r.tup_of
  cases q
  obtain ⟨us,v1,⟨o,h1,h2,n,h3⟩,_⟩:=I.tuple hq
  obtain ⟨as,ra⟩:=readsAll_of I rs v1 (by unfold okPy at e;exact e)
  exact ⟨_,by unfold py;exact .tuple h1 h2 h3 (by simpa using ra)⟩
 | .lst ds,_,_,_,r,q,e=>by
  obtain ⟨a,xs,f,rfl,hq,rs,_⟩:=r.lst_of
  cases q
  obtain ⟨us,v1,⟨o,n,h1,h2,_,h3⟩,_⟩:=I.list hq
  obtain ⟨as,ra⟩:=readsAll_of I rs v1 (by unfold okPy at e;exact e)
  exact ⟨_,by unfold py;exact .list h1 h2 h3 (by simpa using ra)⟩
 | .fls ds,_,_,_,r,q,e=>by
  obtain ⟨a,xs,rfl,hq,rs⟩:=r.fls_of
  cases q
  obtain ⟨us,v1,⟨o,n,h1,h2,_,h3⟩,_⟩:=I.list hq
  obtain ⟨as,ra⟩:=readsAll_of I rs v1 (by unfold okPy at e;exact e)
  exact ⟨_,by unfold py;exact .list h1 h2 h3 (by simpa using ra)⟩
 | .dic _,_,_,_,_,_,e=>by unfold okPy at e;cases e
 | .dit _,_,_,_,_,_,e=>by unfold okPy at e;cases e
 | .ins _ _,_,_,_,_,_,e=>by unfold okPy at e;cases e
 | .exc _,_,_,_,_,_,e=>by unfold okPy at e;cases e
theorem readsAll_of (I:Inv X pins σ H s):∀ {ds:List D}{xs:List V}{f:List Addr}{us:List Value},Reps X.K H ds xs f→Vals xs us→okPys ds=true→∃ as,ReadsAll s.heap us (pys ds) as
 | [],_,_,_,r,q,_=>by cases r;cases q;exact ⟨_,by unfold pys;exact .nil⟩
 | d::ds,_,_,_,r,q,e=>by
  cases r with
  | cons r1 r2=>
   cases q with
   | cons q1 q2=>
    unfold okPys at e
    obtain ⟨e1,e2⟩:=(Bool.and_eq_true _ _).mp e
    obtain ⟨as,h1⟩:=reads_of I r1 q1 e1
    obtain ⟨bs,h2⟩:=readsAll_of I r2 q2 e2
    exact ⟨_,by unfold pys;exact .cons h1 h2⟩
end
end
def dRow (r:List Int):D:=.tup (r.map D.int)
def dRows (rs:List (List Int)):List D:=rs.map dRow
theorem pys_ints:∀ r:List Int,pys (r.map D.int)=r.map PyData.int
 | []=>rfl
 | i::r=>by rw [List.map_cons,List.map_cons];unfold pys;rw [pys_ints r];unfold py;rfl
theorem okPys_ints:∀ r:List Int,okPys (r.map D.int)=true
 | []=>rfl
 | i::r=>by rw [List.map_cons];unfold okPys;rw [okPys_ints r];rfl
theorem depthAll_ints:∀ r:List Int,PyData.depthAll (r.map PyData.int)=0
 | []=>rfl
 | i::r=>by rw [List.map_cons];simp only [PyData.depthAll,PyData.depth,depthAll_ints r];rfl
def pRow (r:List Int):PyData:=.tuple (r.map PyData.int)
theorem py_row (r:List Int):py (dRow r)=pRow r:=by unfold dRow pRow;unfold py;rw [pys_ints]
theorem pys_rows:∀ rs:List (List Int),pys (dRows rs)=rs.map pRow
 | []=>rfl
 | r::rs=>by
  show pys (dRow r::dRows rs)=pRow r::rs.map pRow
  unfold pys
  rw [py_row,pys_rows rs]
theorem okPys_rows:∀ rs:List (List Int),okPys (dRows rs)=true
 | []=>rfl
 | r::rs=>by
  show okPys (dRow r::dRows rs)=true
  unfold okPys
  rw [okPys_rows rs,Bool.and_true]
  unfold dRow okPy
  exact okPys_ints r
def layOk (d:D):Bool:=okPy d&&(py d).canLay0&&decide ((py d).depth≤40)
def oEqP (d1 d2:D):Option D:=if (layOk d1&&layOk d2)=true then some (.bl (PyData.eqv (py d1) (py d2))) else none
def oNeP (d1 d2:D):Option D:=if (layOk d1&&layOk d2)=true then some (.bl (!PyData.eqv (py d1) (py d2))) else none
def rEqP (K:PySem.W.Frag) (neg:Bool):R2:=fun x y H Q=>∃ d1 d2 f1 f2,Rep K H d1 x f1∧Rep K H d2 y f2∧layOk d1=true∧layOk d2=true∧Q (.bl (if neg=true then !PyData.eqv (py d1) (py d2) else PyData.eqv (py d1) (py d2))) H
section
variable {X:Cx}{a b:Expr}{fa fb:EF}{pos:Pos}
theorem lay_of {d:D} (h:layOk d=true):okPy d=true∧(py d).canLay0=true∧(py d).depth≤40:=by
 unfold layOk at h
 obtain ⟨h,h3⟩:=(Bool.and_eq_true _ _).mp h
 obtain ⟨h1,h2⟩:=(Bool.and_eq_true _ _).mp h
 exact ⟨h1,h2,of_decide_eq_true h3⟩
theorem op_neP (hu:X.A.units + 64 < cLine):OpR X (compareOp .NotEq) (rEqP X.K true):=by
 intro pins s σ H x y v u Q I rx ry h
 obtain ⟨d1,d2,f1,f2,r1,r2,l1,l2,q⟩:=h
 obtain ⟨a1,a2,a3⟩:=lay_of l1
 obtain ⟨b1,b2,b3⟩:=lay_of l2
 obtain ⟨as,ra⟩:=reads_of I r1 rx a1
 obtain ⟨bs,rb⟩:=reads_of I r2 ry b1
 exact SeqAt.compareNe_reads ra rb a2 b2 (by omega) ⟨.bl _,H,I,rfl,q⟩
theorem op_eqP (hu:X.A.units + 64 < cLine):OpR X (compareOp .Eq) (rEqP X.K false):=by
 intro pins s σ H x y v u Q I rx ry h
 obtain ⟨d1,d2,f1,f2,r1,r2,l1,l2,q⟩:=h
 obtain ⟨a1,a2,a3⟩:=lay_of l1
 obtain ⟨b1,b2,b3⟩:=lay_of l2
 obtain ⟨as,ra⟩:=reads_of I r1 rx a1
 obtain ⟨bs,rb⟩:=reads_of I r2 ry b1
 exact SeqAt.compareEq_reads ra rb a2 b2 (by omega) ⟨.bl _,H,I,rfl,q⟩
theorem does_neP {K:PySem.W.Frag}:Does2 K (rEqP K true) oNeP:=by
 intro H x y d1 d2 f1 f2 d Q r1 r2 e k
 unfold oNeP at e
 by_cases hc:(layOk d1&&layOk d2)=true
 ·rw [if_pos hc] at e
  cases e
  obtain ⟨c1,c2⟩:=(Bool.and_eq_true _ _).mp hc
  exact ⟨d1,d2,f1,f2,r1,r2,c1,c2,k H _ (Same.refl H) (.bl _)⟩
 ·rw [if_neg hc] at e;cases e
theorem does_eqP {K:PySem.W.Frag}:Does2 K (rEqP K false) oEqP:=by
 intro H x y d1 d2 f1 f2 d Q r1 r2 e k
 unfold oEqP at e
 by_cases hc:(layOk d1&&layOk d2)=true
 ·rw [if_pos hc] at e
  cases e
  obtain ⟨c1,c2⟩:=(Bool.and_eq_true _ _).mp hc
  exact ⟨d1,d2,f1,f2,r1,r2,c1,c2,k H _ (Same.refl H) (.bl _)⟩
 ·rw [if_neg hc] at e;cases e
theorem ft_neP (hu:X.A.units + 64 < cLine) (ha:FP X a fa) (hb:FP X b fb):FT X (.Compare a [.NotEq] [b] pos) (tV (e2 oNeP fa fb)):=ft_cmp (op_neP hu) does_neP ha hb (nomark _)
theorem ft_eqP (hu:X.A.units + 64 < cLine) (ha:FP X a fa) (hb:FP X b fb):FT X (.Compare a [.Eq] [b] pos) (tV (e2 oEqP fa fb)):=ft_cmp (op_eqP hu) does_eqP ha hb (nomark _)
theorem fp_neP (hu:X.A.units + 64 < cLine) (ha:FP X a fa) (hb:FP X b fb):FP X (.Compare a [.NotEq] [b] pos) (e2 oNeP fa fb):=fp_cmp (op_neP hu) does_neP ha hb (nomark _)
theorem fp_eqP (hu:X.A.units + 64 < cLine) (ha:FP X a fa) (hb:FP X b fb):FP X (.Compare a [.Eq] [b] pos) (e2 oEqP fa fb):=fp_cmp (op_eqP hu) does_eqP ha hb (nomark _)
end
theorem s_eqPR {d:D} (h:layOk d=true):oEqP d d=some (.bl true):=by unfold oEqP;rw [h,Bool.and_self,if_pos rfl,SeqAt.eqv_refl _ (lay_of h).2.1]
theorem s_nePR {d:D} (h:layOk d=true):oNeP d d=some (.bl false):=by unfold oNeP;rw [h,Bool.and_self,if_pos rfl,SeqAt.eqv_refl _ (lay_of h).2.1];rfl
theorem canAll_ints:∀ r:List Int,PyData.canLayAll0 (r.map PyData.int)=true
 | []=>rfl
 | i::r=>by rw [List.map_cons];simp only [PyData.canLayAll0,PyData.canLay0,canAll_ints r,Bool.and_self]
theorem canAll_rows:∀ rs:List (List Int),PyData.canLayAll0 (rs.map pRow)=true∧PyData.depthAll (rs.map pRow)≤1
 | []=>⟨rfl,by simp [PyData.depthAll]⟩
 | r::rs=>by
  obtain ⟨h1,h2⟩:=canAll_rows rs
  rw [List.map_cons]
  refine ⟨by simp only [PyData.canLayAll0,pRow,PyData.canLay0,h1,Bool.and_true];exact canAll_ints r,?_⟩
  simp only [PyData.depthAll,pRow,PyData.depth,depthAll_ints r];omega
end L2.Ev
namespace L2.Ev
open PySem PySem.Spec PyProof.Rows
theorem isi_tuple:isiOk "tuple":=by
 intro K t m
 simp only [List.mem_cons,List.not_mem_nil,or_false] at m
 rcases m with rfl | rfl | rfl | rfl | rfl | rfl <;> rfl
section
variable {X:Cx}{a b c:Expr}{fa fb:EF}{tc:TF}{pos:Pos}
def cPw (i j:Int):Bool:=decide (0≤j)&&decide (j≤1000000)&&decide (i.natAbs < 2 ^ 64)
def oPow:=iopC cPw fun i j=>i ^ j.toNat
theorem fp_pow (ha:FP X a fa) (hb:FP X b fb):FP X (.BinOp a .Pow b pos) (e2 oPow fa fb):=fp_bin op_pow (does_iC fun i j h=>by
 obtain ⟨h,h3⟩:=(Bool.and_eq_true _ _).mp h
 obtain ⟨h1,h2⟩:=(Bool.and_eq_true _ _).mp h
 exact ⟨of_decide_eq_true h1,of_decide_eq_true h2,of_decide_eq_true h3⟩) ha hb
def oIn (neg:Bool):D→D→Option D
 | .int i,.lst ds=>(intsD ds).map fun ns=>.bl (if neg=true then !(ns.any (· == i)) else ns.any (· == i))
 | _,_=>none
def sApp (i:Nat) (fv:EF):SF:=fun ρ=>match fv ρ,ρ[i]? with
 | some (d,_),some (some (.lst ds,.own))=>if (imm d&&immAll ds&&decide (ds.length < sizeLine))=true then some (.nx (mutS ρ i (.lst (ds++[d])))) else none
 | _,_=>none
theorem fs_app (i:Nat) {x:Str}{fv:EF}{p1 p2 p3:Pos} (hv:FP X a fv) (hN:X.N[i]? = some x:=by rfl) (hvis:Vis X.env.scope x:=by first | exact Or.inl rfl | exact Or.inr (Or.inl rfl) | exact Or.inr (Or.inr rfl))
  (hd:(x == ("__debug__":Str))=false:=by decide) (hcd:(x == ("__classdict__":Str))=false:=by decide) (hs:starEach [a] X.env=[(false,eval a X.env)]:=by rfl)
  (hbase:attributeBase (.Name x p1) "append" X.env (eval (.Name x p1) X.env)=eval (.Name x p1) X.env:=by rfl)
  (hfew:((backTo p3 (starEach [a] X.env)).all (fun x=>!x.1)&&(backToKw p3 (keywordEach [] X.env)).all (fun x=>x.1.isSome)&&decide ([a].length + ([]:List Keyword).length + (if ([]:List Keyword).isEmpty then 0 else 1) < 30))=true:=by rfl)
  (hline:(p2.endLine == p3.line)=true:=by rfl) (hsw:swapsWith (.Call (.Attribute (.Name x p1) "append" p2) [a] [] p3) none pos.line X.env=pure false:=by rfl) :
  FS1 X (.Expr (.Call (.Attribute (.Name x p1) "append" p2) [a] [] p3) pos) (sApp i fv):=by
 obtain ⟨tv,pv',sv⟩:=hv
 refine ⟨_,ps_expr (pe_bm PySem.F.plainAttrs_list PySem.F.slot_list_append PySem.F.type_list_append mt_append (pe_var (i:=i) hN hvis hd hcd) (pa_cons pv' pa_nil hs) hbase hfew hline hs rfl) hsw,fun H0 S z held ρ σ H E o ok e q=>?_⟩
 unfold sApp at e
 split at e
 ·rename_i d td ds g1 g2
  by_cases hc:(imm d&&immAll ds&&decide (ds.length < sizeLine))=true
  ·rw [if_pos hc] at e
   cases e
   obtain ⟨c1,c3⟩:=(Bool.and_eq_true _ _).mp hc
   obtain ⟨c1,c2⟩:=(Bool.and_eq_true _ _).mp c1
   obtain ⟨xv,fp,hs',r,zz⟩:=ok.sl i _ _ g2
   refine ⟨xv,hs',?_⟩
   obtain ⟨l,xs,f,rfl,hq,_,_⟩:=r.lst_of
   refine ⟨.inl ⟨rfl,_,hq⟩,?_⟩
   refine sv H0 S z held ρ σ H _ d td ok g1 fun H1 v fv' s1 rv _=>?_
   have r':=r.same s1
   have ok1:=ok.same s1
   generalize hw:(V.ref l)=w at r' hs'
   cases r' with
   | @lst a' ys _ f' h rs=>
    cases hw
    have hn:=rs.imm c2
    subst hn
    have hnv:=rv.imm c1
    subst hnv
    refine ⟨_,ys,v,rfl,rfl,h,by rw [← rs.length];exact of_decide_eq_true c3,?_⟩
    have im:Imm H1 (upd H1 l (.lst (ys++[v]))):=Imm.upd h rfl
    refine q z σ _ (Ok.mutate ok1 g2 hs' zz List.mem_cons_self h rfl (.lst upd_same ?_)) (.refl _ _)
    exact Reps.append (f:=[]) (g:=[]) (rs.frame (fun a m=>nomatch m) im) (Reps.cons (f1:=[]) (f2:=[]) (rv.frame (fun a m=>nomatch m) im) .nil)
  ·rw [if_neg hc] at e;cases e
 ·cases e
def cutD (ds:List D) (lo hi:Option Int):List D:=(ds.drop (HT.sIx ds.length 0 lo)).take (HT.sIx ds.length ds.length hi - HT.sIx ds.length 0 lo)
def oCut (lo hi:Option Int):D→Option D
 | .lst ds=>if immAll ds=true then some (.lst (cutD ds lo hi)) else none
 | .fls ds=>if immAll ds=true then some (.lst (cutD ds lo hi)) else none
 | _=>none
theorem Reps.drop0 {K:PySem.W.Frag}{H:Hp}:∀ {ds:List D}{xs:List V} (n:Nat),Reps K H ds xs []→Reps K H (ds.drop n) (xs.drop n) []
 | ds,xs,0,r=>r
 | [],_,n + 1,r=>by cases r;exact .nil
 | d::ds,xs,n + 1,r=>by
  generalize hf:([]:List Addr)=fp at r
  cases r with
  | @cons _ _ _ _ f1 f2 r1 r2=>
   obtain ⟨z1,z2⟩:=List.append_eq_nil_iff.mp hf.symm
   subst z1 z2
   exact Reps.drop0 n r2
theorem Reps.take0 {K:PySem.W.Frag}{H:Hp}:∀ {ds:List D}{xs:List V} (n:Nat),Reps K H ds xs []→Reps K H (ds.take n) (xs.take n) []
 | ds,xs,0,r=>.nil
 | [],_,n + 1,r=>by cases r;exact .nil
 | d::ds,xs,n + 1,r=>by
  generalize hf:([]:List Addr)=fp at r
  cases r with
  | @cons _ _ _ _ f1 f2 r1 r2=>
   obtain ⟨z1,z2⟩:=List.append_eq_nil_iff.mp hf.symm
   subst z1 z2
   exact Reps.cons (f1:=[]) (f2:=[]) r1 (Reps.take0 n r2)
def PCut (X:Cx) (e:Option Expr) (v:Option Int):Prop:=∃ t,PO X e t∧∀ σ H Q,Q v H→t σ H Q
theorem pc_none:PCut X none none:=⟨_,po_none,fun _ _ _ q=>q⟩
theorem pc_int {i:Int} {j p}:PCut X (some (.Constant (.int i) j p)) (some i):=⟨_,po_some pe_int,fun _ _ _ q=>⟨i,rfl,q⟩⟩
theorem fp_cut {lo hi:Option Expr}{l h:Option Int}{p2:Pos} (hl:PCut X lo l) (hh:PCut X hi h) (ha:FP X a fa):FP X (.Subscript a (.Slice lo hi none p2) pos) (e1 (oCut l h) fa):=by
 obtain ⟨t,p,q⟩:=ha
 obtain ⟨tl,pl,ql⟩:=hl
 obtain ⟨th,ph,qh⟩:=hh
 refine ⟨_,pe_slice sl_list p pl ph,fun H0 S z held ρ σ H Q d tg ok e k=>?_⟩
 obtain ⟨d1,t1,g1,g2,rfl⟩:=e1_of e
 refine q H0 S z held ρ σ H _ d1 t1 ok g1 fun H1 x f1 s1 r1 _=>?_
 refine ql σ H1 _ (qh σ H1 _ ?_)
 have fin:∀ {ds:List D}{xs:List V}{f:List Addr}{w:Addr},Reps X.K H1 ds xs f→SqL X.K H1 w xs→(if immAll ds=true then some (D.lst (cutD ds l h)) else none)=some d→rSlL X.K (.ref w) l h H1 Q:=fun {ds xs f w} rs hq e=>by
  by_cases hi:immAll ds=true
  ·rw [if_pos hi] at e
   cases e
   have hn:=rs.imm hi
   subst hn
   refine ⟨w,xs,rfl,hq,fun p hp=>?_⟩
   have s2:Same H1 (upd H1 p (.lst (cutV xs l h))):=fun b o e=>by rw [upd_ne (ne_of_none e hp)];exact e
   have rr:Reps X.K H1 (cutD ds l h) (cutV xs l h) []:=by
    unfold cutD cutV
    rw [rs.length]
    exact Reps.take0 _ (Reps.drop0 _ rs)
   refine k _ _ [p] (s1.trans s2) (.lst upd_same (rr.same s2)) ⟨List.nodup_cons.mpr ⟨(fun m=>by cases m),List.nodup_nil⟩,fun a m=>?_⟩
   cases List.mem_singleton.mp m
   exact s1.free hp
  ·rw [if_neg hi] at e;cases e
 cases d1 with
 | lst ds=>
  obtain ⟨w,xs,f,rfl,hq,rs,_⟩:=r1.lst_of
  exact fin rs hq g2
 | fls ds=>
  obtain ⟨w,xs,rfl,hq,rs⟩:=r1.fls_of
  exact fin rs hq g2
 | _=>cases g2
end
end L2.Ev
namespace L2
open PySem PySem.Spec PyProof.Rows
section
variable {X:Cx}{a:Expr}{ta:TE}{p1 p2 p3 pos:Pos}
theorem Inv.turnNew {pins:List (Addr×Obj)}{σ:St}{H:Hp}{s:Shared}{h':Heap}{ch:List Addr}{T:Addr}{o:HO}{t':Nat} (I:Inv X pins σ H s) (hf:∀ b∈ch,FpOk X pins H b) (k:∀ b o,b∉ch→s.heap.get? b=some o→h'.get? b=some o)
  (hT:s.heap.objs.size≤T) (new:ObjOk X.prog X.w (upd H T o) h' T o):Inv X pins σ (upd H T o) { s with heap:=h',toks:=t' }:=by
 have nT:H T=none:=I.hok.fresh hT
 have nch:∀ b u,H b=some u→b∉ch:=fun b u e m=>by rw [(hf b m).1] at e;cases e
 refine I.step (g':=s.gens) (d':=s.drawn) (ch:=ch) (fun b m=>⟨(hf b m).2.2.2.1,(hf b m).2.1,(hf b m).2.2.2.2.1,(hf b m).2.2.2.2.2⟩) (fun b o _ _ m e _=>k b o m e) (fun b o _ _ m e _=>⟨o.slots,k b o m e⟩)
  (fun b o _ e n=>by rw [upd_ne (Nat.ne_of_lt (Nat.lt_of_lt_of_le (Heap.lt_size e) hT))];exact n) (fun b o m e=>⟨o,k b o m e⟩) (fun b xs e=>by rw [upd_ne (ne_of_none e nT)];exact e) (fun b o u e=>by rw [upd_ne (ne_of_none e nT)];exact e)
  (fun b ps e=>⟨#[],by rw [upd_ne (ne_of_none e nT),e];simp⟩) (fun m hm=>?_) (fun b u e=>?_) I.bare
 ·obtain ⟨o,es,ep,ho,r⟩:=hm
  exact ⟨o,es,ep,k _ o (fun m=>(hf _ m).2.1 rfl) ho,r⟩
 ·by_cases hb:b=T
  ·subst hb;rw [upd_same] at e;cases e;exact new
  ·rw [upd_ne hb] at e
   refine (I.hok b u e).stay (fun c v hc q=>k c v ?_ q) (fun c q=>by rw [upd_ne (ne_of_none q nT)];exact q) fun c xs q=>by rw [upd_ne (ne_of_none q nT)];exact q
   rcases hc with z | z
   ·rw [z];exact nch b u e
   ·exact nch c _ z
theorem Inv.turnL {pins:List (Addr×Obj)}{σ:St}{H:Hp}{s:Shared}{h':Heap}{ch:List Addr}{t':Nat} (I:Inv X pins σ H s) (hf:∀ b∈ch,FpOk X pins H b) (k:∀ b o,b∉ch→s.heap.get? b=some o→h'.get? b=some o):Inv X pins σ H { s with heap:=h',toks:=t' }:=by
 have nch:∀ b u,H b=some u→b∉ch:=fun b u e m=>by rw [(hf b m).1] at e;cases e
 refine I.step (g':=s.gens) (d':=s.drawn) (ch:=ch) (fun b m=>⟨(hf b m).2.2.2.1,(hf b m).2.1,(hf b m).2.2.2.2.1,(hf b m).2.2.2.2.2⟩) (fun b o _ _ m e _=>k b o m e) (fun b o _ _ m e _=>⟨o.slots,k b o m e⟩)
  (fun b o _ e n=>n) (fun b o m e=>⟨o,k b o m e⟩) (fun b xs e=>e) (fun b o u e=>e) (fun b ps e=>⟨#[],by rw [e];simp⟩) (fun m hm=>?_) (fun b u e=>?_) I.bare
 ·obtain ⟨o,es,ep,ho,r⟩:=hm
  exact ⟨o,es,ep,k _ o (fun m=>(hf _ m).2.1 rfl) ho,r⟩
 ·refine (I.hok b u e).stay (fun c v hc q=>k c v ?_ q) (fun c q=>q) fun c xs q=>q
  rcases hc with z | z
  ·rw [z];exact nch b u e
  ·exact nch c _ z
end
section
variable {X:Cx}
theorem vals_bl:∀ {bs:List Bool}{us:List Value},Vals (bs.map V.bl) us→us=bs.map Value.bool
 | [],_,r=>by rw [List.map_nil] at r;cases r;rfl
 | b::bs,_,r=>by
  rw [List.map_cons] at r
  cases r with
  | cons r1 r2=>cases r1;rw [vals_bl r2];rfl
theorem range_all (bs:List Bool):(List.range bs.length).all (fun j=>bs.getD j true)=bs.all id:=by
 induction bs with
 | nil=>rfl
 | cons b r ih=>
  rw [List.length_cons,List.range_succ_eq_map,List.all_cons,List.all_map,List.all_cons,← ih]
  rfl
theorem call_allL (hc:X.calm=true):CallR X (.builtin "all") (fun xs H Q=>∃ (p:Addr) (bs:List Bool),xs=[V.ref p]∧SqL X.K H p (bs.map V.bl)∧Q (.bl (bs.all id)) H):=by
 intro pins s σ H xs us Q I r h
 obtain ⟨p,bs,rfl,hq,q⟩:=h
 obtain ⟨u,rfl,ru⟩:=vals1 r
 cases ru
 obtain ⟨its,v1,pl,hz⟩:=I.list hq
 have ei:=vals_bl v1
 subst ei
 have lp:p < s.heap.objs.size:=let ⟨o,n,e,_⟩:=pl;Heap.lt_size e
 have hh:X.A.in1.handled=none:=I.ok.hd hc
 refine call_all_walk (wpAny_pyIter_list pl.isList ?_)
 refine ⟨s.heap.objs.size,_,_,_,_,_,fun j=>bs.getD j true,rfl,Walks.list hh s.heap.objs.size p (Nat.ne_of_lt lp) (bs.map Value.bool).toArray,⟨⟨_,Heap.get?_push_size _ rfl,rfl,rfl⟩,pl.isList.at fun o e=>Heap.get?_push_of_some _ e⟩,?_,fun h' tk hk=>?_⟩
 ·intro i v s' Q' E' hv hQ
  rw [List.getElem?_toArray,List.getElem?_map] at hv
  cases e:bs[i]? with
  | none=>rw [e] at hv;cases hv
  | some b=>
   rw [e] at hv
   cases hv
   dsimp only at hQ
   rw [List.getD_eq_getElem?_getD,e] at hQ
   exact wpAny_truthy_bool hQ
 ·have f:=I.fpOk (H':=H) (Nat.le_refl s.heap.objs.size) (I.hok.fresh (Nat.le_refl _))
  have I1:Inv X pins σ H { s with heap:=s.heap.push { cls:=.type "list_iterator",data:=.fields #[.ref p,.int 0 0] } }:=I.kept (t':=s.toks) fun b o e=>Heap.get?_push_of_some _ e
  rw [List.size_toArray,List.length_map,range_all]
  exact ⟨.bl _,H,I1.turnL (t':=tk) (ch:=[s.heap.objs.size]) (fun b m=>by rw [List.mem_singleton.mp m];exact f) fun b o m e=>hk b o m e,rfl,q⟩
end
end L2
namespace L2.Ev
open PySem PySem.Spec PyProof.Rows
section
variable {X:Cx}{a b c:Expr}{fa fb:EF}{p pos:Pos}
def boolsD:List D→Option (List Bool)
 | []=>some []
 | .bl b::r=>(boolsD r).map (b::·)
 | _=>none
theorem boolsD_of {K:PySem.W.Frag}{H:Hp}:∀ {ds:List D}{xs:List V}{fp:List Addr}{bs:List Bool},Reps K H ds xs fp→boolsD ds=some bs→xs=bs.map V.bl
 | [],_,_,bs,r,e=>by cases r;cases e;rfl
 | d::ds,_,_,bs,r,e=>by
  cases r with
  | cons h t=>
   cases d <;> try (cases e;done)
   cases h
   unfold boolsD at e
   cases q:boolsD ds with
   | none=>rw [q] at e;cases e
   | some r=>
    rw [q] at e
    cases e
    rw [boolsD_of t q];rfl
def oAll:D→Option D
 | .lst ds=>(boolsD ds).map fun bs=>.bl (bs.all id)
 | _=>none
theorem does_all {K:PySem.W.Frag}:Does1 K (fun xs H Q=>∃ (p:Addr) (bs:List Bool),xs=[V.ref p]∧SqL K H p (bs.map V.bl)∧Q (.bl (bs.all id)) H) oAll:=by
 intro H x d1 f1 d Q r e k
 cases d1 with
 | lst ds=>
  obtain ⟨p,xs,f,rfl,hq,rs,_⟩:=r.lst_of
  have e:(boolsD ds).map (fun bs=>D.bl (bs.all id))=some d:=e
  cases h:boolsD ds with
  | none=>rw [h] at e;cases e
  | some bs=>
   rw [h] at e
   cases e
   have ex:=boolsD_of rs h
   subst ex
   exact ⟨p,bs,rfl,hq,k H _ [] (Same.refl H) (.bl _) List.nodup_nil fun a m=>nomatch m⟩
 | _=>cases e
theorem fp_all (hc:X.calm=true) (hm:X.mg "all"=none) (ha:FP X a fa) (hg:Gl X "all":=by rfl) (hs:starEach [a] X.env=[(false,eval a X.env)]:=by rfl):FP X (.Call (.Name "all" p) [a] [] pos) (e1 oAll fa):=
 fp_1 does_all ha fun ta pa=>pe_callB (call_allL hc) hg hm boot_all (pa_cons pa pa_nil hs) (he:=hs) (hpl:=rfl)
end
theorem fn_none {P:Program}{w:World}{K:PySem.W.Frag}{mg:Str→Option Value}{base:Heap}{x qual:Str}{st:Stmt}{f:Addr}{fd:FuncData}{N ps:List Str}{k:Nat} (F:Fun K x qual st f fd) (S:FnScope N ps (defScope st)) :
  FnOk P w K mg base CX0 (k + 1) f fd ps (spF K fun _=>none):=F.ok S (fun vs H Q E ⟨_,_,_,_,e,_⟩=>nomatch e) fun cdv A outer s H vs Q E hr ⟨_,_,_,_,e,_⟩=>nomatch e
section
variable {X:Cx}{a b:Expr}{fa fb:EF}{pos:Pos}
theorem fp_gt (ha:FP X a fa) (hb:FP X b fb):FP X (.Compare a [.Gt] [b] pos) (e2 oGt fa fb):=fp_cmp op_gt does_iB ha hb (nomark _)
end
end L2.Ev
namespace L2.Ev
open PySem
theorem imm_ints:∀ ns:List Int,immAll (ns.map D.int)=true
 | []=>rfl
 | n::r=>by rw [List.map_cons];unfold immAll;rw [imm_ints r];rfl
theorem s_tupI {ns:List Int}:oTuple (.lst (ns.map D.int))=some (.tup (ns.map D.int)):=by show (if immAll (ns.map D.int)=true then some (D.tup (ns.map D.int)) else none)=_;rw [if_pos (imm_ints ns)]
open PySem PySem.Spec PyProof.Rows
section
variable {X:Cx}{a b:Expr}{fa fb:EF}{p pos:Pos}
def oMax2:D→D→Option D
 | .int i,.int j=>some (.int (if j > i then j else i))
 | _,_=>none
def oNeg:D→Option D
 | .int i=>some (.int (-i))
 | _=>none
theorem fp_neg (ha:FP X a fa):FP X (.UnaryOp .USub a pos) (e1 oNeg fa):=by
 obtain ⟨t,pa,q⟩:=ha
 refine ⟨_,pe_un un_neg pa,fun H0 S z held ρ σ H Q d tg ok e k=>?_⟩
 obtain ⟨d1,t1,g1,g2,rfl⟩:=e1_of e
 refine q H0 S z held ρ σ H _ d1 t1 ok g1 fun H1 x f1 s1 r1 _=>?_
 cases r1 <;> cases g2
 exact ⟨_,rfl,k H1 _ [] s1 (.int _) .nil⟩
end
end L2.Ev
namespace L2
open PySem PySem.Spec PyProof.Rows
section
variable {X:Cx}
def ItrS (lo c:Int) (n:Nat):It:=⟨fun i _=>i < n,fun i H x H'=>H'=H∧x=.int (lo + i * c),fun i _=>n≤i,false⟩
theorem turn_rangeS {P:Program}{w:World}{K:PySem.W.Frag}{tg:Expr} (it:Addr) (lo c:Int) (n:Nat):Turn P w K tg (ItrS lo c n) [it] it (fun i h=>IsRangeIter h it (lo + (i:Nat) * c) ((n:Int) - (i:Nat)) c) where
 mem:=by simp
 obj:=fun i h st b hb=>by
  have e:b=it:=by simpa using hb
  subst e
  exact ⟨_,st,fun v z=>by
   have z':Data.fields _=Data.cell v:=z
   cases z'⟩
 keep:=fun i h h' st k=>k it (by simp) _ st
 item:=by
  intro X hP hw hK hc i pins s σ H E I hf st hg
  subst hP hw hK
  obtain ⟨f0,f1,f2,f3,f4,f5⟩:=hf it (by simp)
  have W:=Walks.range (prog:=X.prog) (w:=X.w) (I.ok.hd (hc.resolve_right fun z=>Bool.false_ne_true z)) it lo c n
  refine W.item i s _ _ hg st fun v h' tk hv st' kk=>?_
  obtain ⟨t,rfl⟩:=hv
  have I1:Inv X pins σ H { s with heap:=h',toks:=tk }:=I.turned (fun b o hb e=>kk b o (by simpa using hb) e) f0 f1 f3 f4 f5
  exact ⟨_,rfl,go_of (s:={ s with heap:=h',toks:=tk }) (n:="range_iterator") st' rfl rfl (by decide) ⟨.int (lo + i * c),H,I1,⟨t,rfl⟩,⟨rfl,rfl⟩,st',fun b hb=>(hf b hb).1⟩⟩
 done:=by
  intro X hP hw hK hc i pins s σ H E I hf st hg
  subst hP hw hK
  obtain ⟨f0,f1,f2,f3,f4,f5⟩:=hf it (by simp)
  exact wpAny_pyNext_range_end (I.ok.hd (hc.resolve_right fun z=>Bool.false_ne_true z)) st (by have:n≤i:=hg;omega) fun h' eb=>⟨rfl,I.turned (t':=s.toks) (fun b o hb e=>eb b o hb e) f0 f1 f3 f4 f5⟩
 self:=fun _ _ _ _ _ st h=>wpAny_pyIter_rangeiter st h
def iRng3 (ta:TA):TI:=fun σ H R=>ta σ H fun vs H1=>∃ i j c:Int,vs=[.int i,.int j,.int c]∧c≠0∧c.natAbs < 1073741824∧Builtin.Range.small i j c=true∧R (ItrS i c (Builtin.Range.rangeSize i j c).toNat) H1
theorem pi_range3 {tg a b c:Expr}{ta:TA}{p pos:Pos} (hg:Gl X "range") (hm:X.mg "range"=none) (ha:PA X [a,b,c] ta) (hs:starEach [a,b,c] X.env=[(false,eval a X.env),(false,eval b X.env),(false,eval c X.env)]:=by rfl) (hs2:starEach [b,c] X.env=[(false,eval b X.env),(false,eval c X.env)]:=by rfl) :
  PI X tg (.Call (.Name "range" p) [a,b,c] [] pos) (iRng3 ta):=by
 intro pins s σ H R I h
 refine Call_ (ld_blt I hg hm boot_range (PyProof.Rows.callWith_type1 (thn (ha pos pins s σ H _ I h) fun us s1 ⟨vs,H1,I1,r1,q1⟩=>?_) (by rw [hs,hs2]) (by rw [hs2];rfl)))
 obtain ⟨i,j,c,e,q1,q2,q3,q⟩:=q1
 subst e
 cases r1 with
 | cons r rr=>
  cases rr with
  | cons r' rr=>
   cases rr with
   | cons r'' rr=>
    cases rr
    obtain ⟨t,rfl⟩:=r
    obtain ⟨t',rfl⟩:=r'
    obtain ⟨t'',rfl⟩:=r''
    refine call_range_3 q1 ?_ (.inl (PyProof.noPylong_small q2))
    refine wpAny_pyIter_range (IsRange.new ..) q3 ?_
    have I2:Inv X pins σ H1 { s1 with heap:=s1.heap.push { cls:=.type "range",data:=.fields #[.int i t,.int j t',.int c t''] },toks:=s1.toks }:=I1.kept fun b o e=>Heap.get?_push_of_some _ e
    refine ⟨(s1.heap.push { cls:=.type "range",data:=.fields #[.int i t,.int j t',.int c t''] }).objs.size,[(s1.heap.push { cls:=.type "range",data:=.fields #[.int i t,.int j t',.int c t''] }).objs.size],_,_,H1,rfl,
     I2.kept (t':=s1.toks) fun b o e=>Heap.get?_push_of_some _ e,turn_rangeS _ i c (Builtin.Range.rangeSize i j c).toNat,?_,fun b hb=>?_,q⟩
    ·have e1:i + ((0:Nat):Int) * c=i:=by simp
     have e2:(((Builtin.Range.rangeSize i j c).toNat:Nat):Int) - ((0:Nat):Int)=Builtin.Range.rangeSize i j c:=by
      have:0≤Builtin.Range.rangeSize i j c:=by
       unfold Builtin.Range.rangeSize
       split
       ·rename_i hc
        split
        ·have:=Int.ediv_nonneg (show 0≤j - i - 1 by omega) (show 0≤c by omega);omega
        ·omega
       ·rename_i hc
        split
        ·have:=Int.ediv_nonneg (show 0≤i - j - 1 by omega) (show 0≤-c by omega);omega
        ·omega
      omega
     show IsRangeIter _ _ (i + ((0:Nat):Int) * c) ((((Builtin.Range.rangeSize i j c).toNat:Nat):Int) - ((0:Nat):Int)) c
     rw [e1,e2]
     exact Heap.get?_push_size _ rfl
    ·have e:b=(s1.heap.push { cls:=.type "range",data:=.fields #[.int i t,.int j t',.int c t''] }).objs.size:=by simpa using hb
     subst e
     exact I2.fpOk (Nat.le_refl _) (I2.hok.fresh (Nat.le_refl _))
end
end L2
namespace L2.Ev
open PySem PySem.Spec PyProof.Rows
section
variable {X:Cx}{a b c:Expr}{fa fb fc fv:EF}{p p1 p2 p3 pos:Pos}
theorem fp_globI {x:Str}{n:Int}{tk:Tok} (hm:X.mg x=some (.int n tk)) (hg:Gl X x:=by rfl) (hd:(x == ("__debug__":Str))=false:=by decide):FP X (.Name x pos) (eC (.int n)):=
 ⟨_,pe_glob hg hm (v:=.int n) ⟨_,rfl⟩ hd,fun _ _ _ _ _ _ H _ _ _ _ e q=>by cases e;exact q H _ _ (Same.refl H) (.int n) .nil⟩
def eChain (o o':D→D→Option D) (fa fb fc:EF):EF:=fun ρ=>match fa ρ,fb ρ with
 | some (d1,_),some (d2,_)=>match o d1 d2 with
  | some (.bl true)=>match fc ρ with
   | some (d3,_)=>(o' d2 d3).map fun d=>(d,.own)
   | none=>none
  | some (.bl false)=>some (.bl false,.own)
  | _=>none
 | _,_=>none
theorem fp_chain {op op':CmpOp}{r r':R2}{o o':D→D→Option D} (ho:OpR X (compareOp op) r) (ho':OpR X (compareOp op') r') (dd:Does2 X.K r o) (dd':Does2 X.K r' o') (ha:FP X a fa) (hb:FP X b fb) (hc:FP X c fc) (hm:lastMarks [op,op'] [b,c]=false:=by with_unfolding_all rfl) :
  FP X (.Compare a [op,op'] [b,c] pos) (eChain o o' fa fb fc):=by
 obtain ⟨ta,pa,sa⟩:=ha
 obtain ⟨tb,pb,sb⟩:=hb
 obtain ⟨tc,pc,sc⟩:=hc
 refine ⟨_,pe_chain ho ho' pa pb pc hm,fun H0 S z held ρ σ H Q d tg ok e k=>?_⟩
 unfold eChain at e
 split at e
 ·rename_i d1 t1 d2 t2 e1 e2
  refine sa H0 S z held ρ σ H _ d1 t1 ok e1 fun H1 x f1 s1 r1 _=>?_
  refine sb H0 S z held ρ σ H1 _ d2 t2 (ok.same s1) e2 fun H2 y f2 s2 r2 _=>?_
  cases h:o d1 d2 with
  | none=>rw [h] at e;cases e
  | some w=>
   refine dd H2 x y d1 d2 f1 f2 w _ (r1.same s2) r2 h fun H3 u s3 r3=>?_
   rw [h] at e
   cases w <;> try (cases e;done)
   rename_i b'
   cases r3
   refine ⟨b',rfl,?_⟩
   cases b' with
   | false=>
    cases e
    rw [if_neg Bool.false_ne_true]
    exact k H3 _ [] ((s1.trans s2).trans s3) (.bl false) .nil
   | true=>
    rw [if_pos rfl]
    dsimp only at e
    cases h3:fc ρ with
    | none=>rw [h3] at e;cases e
    | some w3=>
     obtain ⟨d3,t3⟩:=w3
     rw [h3] at e
     dsimp only at e
     cases h4:o' d2 d3 with
     | none=>rw [h4] at e;cases e
     | some d4=>
      rw [h4] at e
      cases e
      refine sc H0 S z held ρ σ H3 _ d3 t3 (((ok.same s1).same s2).same s3) h3 fun H4 w' f4 s4 r4 _=>?_
      exact dd' H4 y w' d2 d3 f2 f4 d Q ((r2.same s3).same s4) r4 h4 fun H5 v5 s5 r5=>k H5 v5 [] ((((s1.trans s2).trans s3).trans s4).trans s5) r5 .nil
 ·cases e
theorem fp_le2 (ha:FP X a fa) (hb:FP X b fb) (hc:FP X c fc) (hm:lastMarks [.LtE,.LtE] [b,c]=false:=by with_unfolding_all rfl):FP X (.Compare a [.LtE,.LtE] [b,c] pos) (eChain oLe oLe fa fb fc):=fp_chain op_le op_le does_iB does_iB ha hb hc hm
def oAny:D→Option D
 | .lst ds=>(boolsD ds).map fun bs=>.bl (bs.any id)
 | _=>none
theorem does_any {K:PySem.W.Frag}:Does1 K (fun xs H Q=>∃ (p:Addr) (bs:List Bool),xs=[V.ref p]∧SqL K H p (bs.map V.bl)∧Q (.bl (bs.any id)) H) oAny:=by
 intro H x d1 f1 d Q r e k
 cases d1 with
 | lst ds=>
  obtain ⟨p,xs,f,rfl,hq,rs,_⟩:=r.lst_of
  have e:(boolsD ds).map (fun bs=>D.bl (bs.any id))=some d:=e
  cases h:boolsD ds with
  | none=>rw [h] at e;cases e
  | some bs=>
   rw [h] at e
   cases e
   have ex:=boolsD_of rs h
   subst ex
   exact ⟨p,bs,rfl,hq,k H _ [] (Same.refl H) (.bl _) List.nodup_nil fun a m=>nomatch m⟩
 | _=>cases e
def iR3 (fa fb:EF) (c:Int):IF:=fun ρ=>match fa ρ,fb ρ with
 | some (.int i,_),some (.int j,_)=>if (decide (c≠0)&&decide (c.natAbs < 1073741824)&&Builtin.Range.small i j c)=true then some ((List.range (Builtin.Range.rangeSize i j c).toNat).map fun n:Nat=>D.int (i + n * c),.own) else none
 | _,_=>none
theorem itOk_rangeS {K:PySem.W.Frag}{lo c:Int}{n:Nat}:ItOk K (ItrS lo c n) ((List.range n).map fun i:Nat=>D.int (lo + (i:Int) * c)) []:=by
 intro H i _
 refine ⟨fun d e=>?_,fun h=>?_⟩
 ·rw [List.getElem?_map] at e
  by_cases hi:i < n
  ·rw [List.getElem?_range hi] at e
   cases e
   refine ⟨hi,fun x H' y=>?_⟩
   obtain ⟨rfl,rfl⟩:=y
   exact ⟨Same.refl _,[],.int _,fun a m=>nomatch m⟩
  ·rw [List.getElem?_eq_none_iff.mpr (by rw [List.length_range];omega)] at e;cases e
 ·rw [List.length_map,List.length_range] at h;exact h
end
section
variable {X:Cx}{elts:List Expr}{tp:Pos}{a b c:Expr}{fa fb fv:EF}{p p1 p2 p3 pos pos':Pos}{x:Str}
def iEnF (fa:EF):IF:=fun ρ=>match fa ρ with
 | some (.lst ds,t)=>if immAll ds=true then some ((List.range ds.length).map fun i:Nat=>D.tup [.int i,ds.getD i .non],joinA [(.lst ds,t)]) else none
 | _=>none
def sRem (i:Nat) (fv:EF):SF:=fun ρ=>match fv ρ,ρ[i]? with
 | some (.int n,_),some (some (.lst ds,.own))=>match intsD ds with
  | some ns=>if n∈ns then some (.nx (mutS ρ i (.lst ((ns.erase n).map D.int)))) else none
  | none=>none
 | _,_=>none
def eCutH (fa fh:EF):EF:=fun ρ=>match fa ρ,fh ρ with
 | some (.lst ds,_),some (.int i,_)=>if immAll ds=true then some (.lst (cutD ds none (some i)),.own) else none
 | _,_=>none
theorem fp_cutH {fh:EF} (ha:FP X a fa) (hh:FP X b fh):FP X (.Subscript a (.Slice none (some b) none p2) pos) (eCutH fa fh):=by
 obtain ⟨t,p,q⟩:=ha
 obtain ⟨th,ph,qh⟩:=hh
 refine ⟨_,pe_slice sl_list p po_none (po_some ph),fun H0 S z held ρ σ H Q d tg ok e k=>?_⟩
 unfold eCutH at e
 split at e
 ·rename_i ds t1 i t2 e1 e2
  by_cases hi:immAll ds=true
  ·rw [if_pos hi] at e
   cases e
   refine q H0 S z held ρ σ H _ _ t1 ok e1 fun H1 x f1 s1 r1 _=>?_
   refine qh H0 S z held ρ σ H1 _ _ t2 (ok.same s1) e2 fun H2 y f2 s2 r2 _=>?_
   cases r2
   refine ⟨i,rfl,?_⟩
   obtain ⟨w,xs,f,rfl,hq,rs,_⟩:=(r1.same s2).lst_of
   have hn:=rs.imm hi
   subst hn
   refine ⟨w,xs,rfl,hq,fun p hp=>?_⟩
   have s3:Same H2 (upd H2 p (.lst (cutV xs none (some i)))):=fun b o e=>by rw [upd_ne (ne_of_none e hp)];exact e
   have rr:Reps X.K H2 (cutD ds none (some i)) (cutV xs none (some i)) []:=by
    unfold cutD cutV
    rw [rs.length]
    exact Reps.take0 _ (Reps.drop0 _ rs)
   refine k _ _ [p] ((s1.trans s2).trans s3) (.lst upd_same (rr.same s3)) ⟨List.nodup_cons.mpr ⟨(fun m=>by cases m),List.nodup_nil⟩,fun a m=>?_⟩
   cases List.mem_singleton.mp m
   exact s1.free (s2.free hp)
  ·rw [if_neg hi] at e;cases e
 ·cases e
end
end L2.Ev
namespace L2.SetT
open PySem
def IsSI (h:Heap) (I:Addr) (first:Value) (i:Nat) (a:Addr) (n ep:Nat):Prop:=∃ o,h.get? I=some o∧o.cls=.type "set_iterator"∧o.data=.fields #[first,.int i 0,.ref a,.int n 0,.int ep 0]
theorem IsSI.at {h h':Heap}{I a:Addr}{first:Value}{i n ep:Nat} (x:IsSI h I first i a n ep) (e:∀ o,h.get? I=some o→h'.get? I=some o):IsSI h' I first i a n ep:=let ⟨o,ho,r⟩:=x;⟨o,e o ho,r⟩
end L2.SetT
namespace L2.Ev
open PySem PySem.Spec PyProof.Rows L2.SetT
theorem Same.new {H:Hp}{l:Addr}{o:HO} (h:H l=none):Same H (upd H l o):=fun b o' e=>by rw [upd_ne (ne_of_none e h)];exact e
end L2.Ev
namespace L2
open PySem PySem.Spec PyProof.Rows
section
variable {X:Cx}{pins:List (Addr×Obj)}{σ:St}{H:Hp}{s:Shared}
theorem gone_ok {M:Model}{A:Around}{E:Value→Shared→Prop}{i:Nat}{n:Str}{pos:Pos}{Q:Unit→Shared→Prop} (I:Inv X pins σ H s) (hN:X.N.Nodup) (hi:X.N[i]? = some n) (hk:X.env.scope.names.lookup n=some .local)
  (h:∀ s',Inv X pins (σ.set i none) H s'→Q () s'):wpAny M A (do bindName X.env n .none;unbindBehindTheSuite X.env n pos) Q E s:=by
 obtain ⟨m,hn,hl⟩:=id I.loc
 have hcls:(X.env.scope.kind == .class||(X.env.scope.kind == .module&&X.env.locals != X.env.globals))=false:=by rw [I.ok.kind];rfl
 have cne:=I.cne
 have lo:∀ {b:Addr}{o:Obj},X.s₀.heap.get? b=some o→b≠X.env.locals:=fun {b o} e=>Nat.ne_of_lt (Nat.lt_of_lt_of_le (Heap.lt_size e) I.ok.above)
 refine wpAny_nameGoes_keeps hk hn hcls fun h' v hn' hs=>?_
 refine h _ ⟨I.ok,I.os,I.bare,⟨fun b o e n hb hx=>(hs.2 b (lo e)).trans (I.base.keep b o e n hb hx),fun b o e n hb hx=>?_,I.base.free,fun b o e hx=>?_,I.base.tups,I.base.frzs,I.base.tbls⟩,⟨_,hn',fun j y v' e1 e2 e3=>?_⟩,fun y c e=>?_,I.free,I.freeC,fun p hp=>?_,
  I.hok.tracked fun b u o hb q=>(hs.2 b fun z=>by rw [z,I.free] at hb;cases hb).trans q,by simpa using I.len,I.hq⟩
 ·obtain ⟨sl,e1⟩:=I.base.slot b o e n hb hx
  exact ⟨sl,(hs.2 b (lo e)).trans e1⟩
 ·obtain ⟨o',e1⟩:=I.base.there b o e hx
  exact ⟨o',(hs.2 b (lo e)).trans e1⟩
 ·have hj:j≠i:=fun z=>by
   subst z
   have hlt:j < σ.length:=by rw [I.len];exact (List.getElem?_eq_some_iff.mp hi).1
   rw [List.getElem?_set_self hlt] at e2
   cases e2
  rw [List.getElem?_set_ne (Ne.symm hj)] at e2
  obtain ⟨u',r',q⟩:=hl j y v' e1 e2 e3
  refine ⟨u',r',?_⟩
  rcases q with ⟨k,e⟩ | ⟨k,c,e,z⟩
  ·refine .inl ⟨k,?_⟩
   have:y≠n:=fun e=>hj (nodup_ix hN e1 (e ▸ hi))
   exact (if_neg this).trans e
  ·exact .inr ⟨k,c,e,z.sameBut hs (cne y c e)⟩
 ·obtain ⟨w',z⟩:=I.cell y c e
  exact ⟨w',z.sameBut hs (cne y c e)⟩
 ·obtain ⟨e,n,ne,nf,d⟩:=I.pin p hp
  exact ⟨(hs.2 p.1 ne).trans e,n,ne,nf,d⟩
end
def Catches (K:PySem.W.Frag) (C D:Addr):Prop:=∃ nm q N bs bm hdct sn sub ab col dd k0 k1 k2 k3 k5 newId,K.lookup C=some (excClassObj nm q C N bs bm hdct sn sub ab col dd k0 k1 k2 k3 k5 newId) ∧
 ∃ nm' q' N' bs' bm' hdct' sn' sub' ab' col' dd' j0 j1 j2 j3 j5 newId',K.lookup D=some (excClassObj nm' q' D N' bs' bm' hdct' sn' sub' ab' col' dd' j0 j1 j2 j3 j5 newId')∧bm'.contains (.type "BaseException")=true∧(Value.ref C::bm).contains (.ref D)=true
section
variable {X:Cx}{pins:List (Addr×Obj)}{σ:St}{H:Hp}{s:Shared}{pay:Option Addr}{a C D:Addr}{x n:Str}{i:Nat}{px pos:Pos}{b0:Stmt}{suite:List Stmt}{W:Ends}
theorem match_ok {R:Result→Shared→Prop} (L:Landed X pins σ H a (.ref C) pay s) (cat:Catches X.K C D) (hg:Gl X x) (hm:X.mg x=some (.ref D)) (k:R (.ok .brk) s) (hdb:(x == ("__debug__":Str))=false:=by decide) :
  codeAny (model X.prog X.w) (X.A.mark (some (.ref a))) (.handlers (.ref a) [.ExceptHandler (some (.Name x px)) none [] pos] X.env) R s:=by
 obtain ⟨nm,q,N,bs,bm,hdct,sn,sub,ab,col,dd,k0,k1,k2,k3,k5,newId,hC,nm',q',N',bs',bm',hdct',sn',sub',ab',col',dd',j0,j1,j2,j3,j5,newId',hD,hb,hc⟩:=cat
 have I:=L.known.choose_spec.2.inSuite a L.known.choose_spec.1.hq
 have KI:=L.inv.kIn
 obtain ⟨oe,vs,a0,T,oT,ts,h1,h2,_⟩:=L.ob
 refine codeAny_handlers_test (ld_glob (X:=X.inSuite a) I hg hm ?_ hdb)
 obtain ⟨hh,g,d,t,os⟩:=s
 refine matches_own (KI _ _ hC) (KI _ _ hD) h1 h2 hb ?_
 rw [hc]
 exact k
theorem handle_as (L:Landed X pins σ H a (.ref C) pay s) (hc:X.calm=true) (hx:X.ex=[]) (hst:X.stack=X.env::X.outer) (hf:X.env.frame=some X.env.locals) (cat:Catches X.K C D) (hg:Gl X x) (hm:X.mg x=some (.ref D))
  (hN:X.N.Nodup) (hi:X.N[i]? = some n) (hk:X.env.scope.names.lookup n=some .local)
  (h:∀ s5 H5,Knows H H5 a (.ref C) pay→Inv (X.inSuite a) pins (σ.set i (some (.ref a))) H5 s5 →
   wpAny (model X.prog X.w) (X.A.mark (some (.ref a))) (execs (b0::suite) X.env) (SP (X.inSuite a) pins { nx:=fun σ H=>W.nx (σ.set i none) H,rt:=W.rt,bk:=fun σ H=>W.bk (σ.set i none) H,ct:=fun σ H=>W.ct (σ.set i none) H }) (fun _ _=>False) s5)
  (hdb:(x == ("__debug__":Str))=false:=by decide) :
  wpAny (model X.prog X.w) X.A (noteFrame (.ref a) X.env) (fun _ s2=>wpAny (model X.prog X.w) X.A (setFlight (.ref a) none) (fun _ s3=>wpAny (model X.prog X.w) X.A (handleBy (.ref a) X.env [.ExceptHandler (some (.Name x px)) (some n) (b0::suite) pos]) (SP X pins W) X.xe s3) X.xe s2) X.xe s:=by
 refine L.looks hx hst hf fun s3 L3=>wpAny_handleBy_cons (match_ok L3 cat hg hm ?_ hdb) (fun z=>nomatch z)
 refine codeAny_handlers_suite_as (L3.again hx fun s4 L4=>?_)
 obtain ⟨H5,kn,I4⟩:=L4.known
 have I4:=I4.inSuite a kn.hq
 refine store_ok (X:=X.inSuite a) I4 hN hi (.inl hk) (v:=V.ref a) (show RelV (V.ref a) (Value.ref a) from rfl) (fun s5 I5=>?_) (.inr hk)
 refine wpAny_mono (h s5 H5 kn I5) (fun f s6 q=>?_) fun _ _ z=>False.elim z
 have fin:∀ {σ6:St}{H6:Hp}{Z:Shared→Prop},Inv (X.inSuite a) pins σ6 H6 s6→(∀ s7,Inv X pins (σ6.set i none) H6 s7→Z s7)→wpAny (model X.prog X.w) X.A (do bindName X.env n .none;unbindBehindTheSuite X.env n pos) (fun _ s7=>Z s7) X.xe s6:=fun {σ6 H6 Z} I6 k=>
  gone_ok (L4.inv.offSuite hc I6) hN hi hk k
 cases f with
 | next=>obtain ⟨σ6,H6,I6,q6⟩:=q;exact fin I6 fun s7 I7=>⟨_,H6,I7,q6⟩
 | brk=>obtain ⟨σ6,H6,I6,q6⟩:=q;exact fin I6 fun s7 I7=>⟨_,H6,I7,q6⟩
 | cont=>obtain ⟨σ6,H6,I6,q6⟩:=q;exact fin I6 fun s7 I7=>⟨_,H6,I7,q6⟩
 | ret u=>obtain ⟨v,σ6,H6,I6,r6,q6⟩:=q;exact fin I6 fun s7 I7=>⟨v,_,H6,I7,r6,q6⟩
end
open PySem PySem.Spec PySem.W PySem.Calls PyProof.Rows Builtin Builtin.ObjectAttr Builtin.Getset_descriptor
structure ExcKit (K:Frag) (C:Addr):Prop where
 ga:findIn K (.ref C) "__getattribute__"=some (some (.builtin "BaseException.__getattribute__"))
 gh:findIn K (.ref C) "__getattr__"=some none
 at_:findIn K (.ref C) "__class__"=some (some (.builtin "object.__class__"))
 get:specialIn K (.builtin "object.__class__") "__get__"=some (some (.builtin "getset_descriptor.__get__"))
 tk:takesIn K (.builtin "object.__class__")=some true
 mo:mroIn K C (.type "object")=some true
 mb:mroIn K C (.type "BaseException")=some true
 cl:(clsIn K C).isSome=true
section
variable {prog:Program}{w:World}{A:Around}{E:Value→Shared→Prop}{s:Shared}{K:Frag}{x C:Addr}{ox:Obj}
theorem exc_class_get {R:Result→Shared→Prop}{tp:Value} (X:K.In s.heap) (hx:s.heap.get? x=some ox) (hc:ox.cls=.ref C) (hm:mroIn K C (.type "object")=some true)
  (h:R (.ok (.ret (.ref C))) s):codeAny (model prog w) A (.call (.builtin "getset_descriptor.__get__") ⟨[.builtin "object.__class__",.ref x,tp],[]⟩) R s:=by
 obtain ⟨hh,g,dr,t,os⟩:=s
 have L0:Looks (model prog w) hh (typeOf (.ref x)) (.ref C):=hc ▸ (Looks.ld hx).andThen .now
 have L1:=looks_mroIn (M:=model prog w) X hm
 refine codeAny_call_builtin KF.slot_gs.plain KF.entry_gs (KF.slot_gs.check _ _ _ _ _ _ _ _ KF.type_class (KF.args_gs _ _ _) ?_)
 unfold Builtin.«getset_descriptor.__get__» descrGet
 rw [dga_obj]
 refine wpAny_bind (wpAny_pure ?_)
 unfold descrGetter descrCheckInstance descrNameAndClass isInstance
 simp only [KF.owner_class]
 repeat lk
 refine ⟨Code.quiet_builtin _ (by decide +kernel),codeAny_builtin KF.entry_class ?_⟩
 unfold Builtin.«object.__class__» shownTypeOf
 repeat lk
 exact h
theorem exc_find (X:K.In s.heap) (k:ExcKit K C):Looks (model prog w) s.heap (find (.ref x) (.ref C) "__class__") (.bind (.builtin "getset_descriptor.__get__") (.builtin "object.__class__")):=by
 have L1:=looks_findIn (M:=model prog w) X k.at_
 have L2:Looks (model prog w) s.heap (getOf (some (.builtin "object.__class__"))) (some (.builtin "getset_descriptor.__get__")):=looks_specialIn X k.get
 have L3:=looks_takesIn (M:=model prog w) X k.tk
 exact L1.andThen (L2.andThen ((show Looks (model prog w) s.heap (dataDescriptor? (some (.builtin "object.__class__")) (some (.builtin "getset_descriptor.__get__"))) (some (.builtin "getset_descriptor.__get__",.builtin "object.__class__")) from L3.andThen .now).andThen (Looks.tag .now)))
theorem exc_check {M:Model}{nameV:Value}{Q:Unit→Shared→Prop} (X:K.In s.heap) (k:ExcKit K C) (hx:s.heap.get? x=some ox) (hc:ox.cls=.ref C) (hq:Q () s):wpAny M A (checkBuiltinCall "BaseException.__getattribute__" ⟨[.ref x,nameV],[]⟩) Q E s:=by
 obtain ⟨hh,g,dr,t,os⟩:=s
 have hk:builtinKind "BaseException.__getattribute__"=some .slot:=by decide +kernel
 have hsplit:splitId "BaseException.__getattribute__"=some ("BaseException","__getattribute__"):=by decide +kernel
 have L0:Looks M hh (typeOf (.ref x)) (.ref C):=hc ▸ (Looks.ld hx).andThen .now
 have L1:=looks_mroIn (M:=M) X k.mb
 have LI:Looks M hh (isInstance (.ref x) (.type "BaseException")) true:=L0.andThen L1
 have ha:=F.args_bexc_ga (.ref x) nameV
 simp only [checkBuiltinCall,hk,hsplit]
 refine wpAny_bind (LI.at ?_)
 repeat (first | assumption | wp_step)
theorem exc_entry {tk:Tok}{Q:Fin→Shared→Prop} (X:K.In s.heap) (k:ExcKit K C) (hx:s.heap.get? x=some ox) (hc:ox.cls=.ref C) (hq:Q (.done (.ret (.ref C))) s) :
  wpAny (model prog w) A (Builtin.«object.__getattribute__» ⟨[.ref x,.str "__class__" tk],[]⟩) Q E s:=by
 obtain ⟨hh,g,dr,t,os⟩:=s
 have L0:Looks (model prog w) hh (typeOf (.ref x)) (.ref C):=hc ▸ (Looks.ld hx).andThen .now
 have L1:=exc_find (prog:=prog) (w:=w) (s:=⟨hh,g,dr,t,os⟩) (x:=x) X k
 refine wpAny_bind (wpAny_pure (wpAny_bind (wpAny_pure (wpAny_bind (L0.at (wpAny_bind (L1.at ?_)))))))
 show wpAny _ _ (holding [Value.builtin "object.__class__"] (call (.builtin "getset_descriptor.__get__") [.builtin "object.__class__",.ref x,.ref C]) >>= ret) _ _ _
 exact wpAny_bind (wpAny_holding (wpAny_call (exc_class_get (s:=⟨hh,g,dr,t,os⟩) X hx hc k.mo (wpAny_pure hq))))
theorem exc_class {Q:Option Value→Shared→Prop} (X:K.In s.heap) (k:ExcKit K C) (hx:s.heap.get? x=some ox) (hc:ox.cls=.ref C) (h:Q (some (.ref C)) { s with toks:=s.toks + 1 }):wpAny (model prog w) A (getAttr? (.ref x) "__class__") Q E s:=by
 obtain ⟨hh,g,dr,t,os⟩:=s
 have L0:Looks (model prog w) hh (typeOf (.ref x)) (.ref C):=hc ▸ (Looks.ld hx).andThen .now
 have L1:=looks_findIn (M:=model prog w) X k.ga
 have L2:=looks_findIn (M:=model prog w) X k.gh
 have f3:=F.attr_ValueError.ga.bind (.ref x)
 have hx0:(false&&onTheHeap (Value.builtin "BaseException.__getattribute__"))=false:=rfl
 have hx2:(Value.builtin "BaseException.__getattribute__" == Value.builtin "object.__getattribute__")=false:=by decide +kernel
 have hx1:(onTheHeap (Value.ref C)&&Value.builtin "BaseException.__getattribute__" == Value.builtin "object.__getattribute__")=false:=by rw [hx2];rfl
 unfold getAttr? getAttrBy? getAttrBy
 refine wpAny_bind (wpAny_mkText (wpAny_bind (wpAny_attempt (wpAny_holding (wpAny_bind (L0.at (wpAny_bind (L1.at ?_))))))))
 dsimp only
 rw [if_neg (by rw [hx1];decide)]
 unfold getAttrByItsOwn hookBefore
 refine wpAny_bind ?_
 rw [if_pos (show onTheHeap (Value.ref C)=true from rfl)]
 refine L2.at ?_
 refine wpAny_bind (wpAny_attempt (wpAny_holding ?_))
 unfold callGetattribute
 rw [if_neg (by rw [hx0];decide)]
 unfold boundAndCalled
 rw [f3]
 refine wpAny_bind (wpAny_pure (wpAny_call ?_))
 refine codeAny_call_builtin F.attr_ValueError.ga.plain F.entry_bexc_ga (exc_check (s:=⟨hh,g,dr,t + 1,os⟩) X k hx hc (exc_entry (s:=⟨hh,g,dr,t + 1,os⟩) X k hx hc ?_))
 show wpAny _ _ (handedOut (.ref C)) _ _ _
 exact wpAny_pure (wpAny_pure h)
end
theorem kitx_exc {K:Frag}{x C:Addr} (k:ExcKit K C):KitX K (.ref x) (.ref C) (fun h=>∃ o,h.get? x=some o∧o.cls=.ref C) where
 ty:=fun _ _ _ ⟨o,h1,h2⟩=>h2 ▸ (Looks.ld h1).andThen .now
 it:=fun _ _ X _=>by
  obtain ⟨cd,hcd⟩:=Option.isSome_iff_exists.mp k.cl
  unfold clsIn at hcd
  split at hcd
  ·rename_i c' d' cd' sl' ho
   intro A' Q' E' s' k q
   unfold isType loadHead
   exact wpAny_bind (wpAny_loadPart (k _ _ (X _ _ ho)) (wpAny_pure q))
  ·cases hcd
 ne:=fun h tp dd its n sl X htp=>by
  obtain ⟨cd,hcd⟩:=Option.isSome_iff_exists.mp k.cl
  refine Bool.eq_false_iff.mpr fun q=>?_
  have e:C=tp:=Value.ref.inj (beq_iff_eq.mp q)
  subst e
  unfold clsIn at hcd
  split at hcd
  ·rename_i c' d' cd' sl' ho
   have z:=(X _ _ ho).symm.trans htp
   cases z
  ·cases hcd
 ca:=fun X ⟨o,h1,h2⟩ q=>exc_class X k h1 h2 q
theorem call_isiE {X:Cx}:CallR X (.builtin "isinstance") (fun xs H Q=>∃ a C c cv b de ob,xs=[V.ref a,c]∧(∀ u,RelV c u→u=cv)∧H a=some (ExcF ob a (.ref C) de)∧ExcKit X.K C∧kitOne X.K (.ref C) cv=some b∧Q (.bl b) H):=by
 intro pins s σ H xs us Q I r h
 obtain ⟨a,C,c,cv,bb,de,ob,rfl,hc,ha,k,e,q⟩:=h
 obtain ⟨u,w',rfl,ru,rw'⟩:=vals2 r
 obtain rfl:=hc w' rw'
 cases (show u=Value.ref a from ru)
 exact kia_one (kitx_exc k) I.kIn (excF_get I.hok ha) e (fun z=>nomatch z) fun tk=>⟨.bl bb,H,I.tok tk,rfl,q⟩
theorem pe_own {X:Cx}{x:Str}{pos:Pos}{C:Addr} (hg:Gl X x) (hm:X.mg x=some (.ref C)) (hdb:(x == ("__debug__":Str))=false:=by decide):PE X (.Name x pos) (fun _ H Q=>Q (.ref C) H):=fun pins s σ H Q I h=>ld_glob I hg hm ⟨V.ref C,H,I,(rfl:Value.ref C=Value.ref C),h⟩ hdb
end L2
namespace L2.Ev
open PySem PySem.Spec PyProof.Rows
def wk (X:Cx) (st:Stmt):TS:=fun W σ H=>∀ (pins:List (Addr×Obj)) (s:Shared),Inv X pins σ H s→wpAny (model X.prog X.w) X.A (exec st X.env) (SP X pins W) X.xe s
theorem ps_wk {X:Cx}{st:Stmt}:PS X st (wk X st):=fun pins s _ _ _ I h=>h pins s I
def sRaise (cn:Str) (g:AF):SF:=fun ρ=>match g ρ with
 | some _=>some (.er true (cn,none) ρ)
 | none=>none
section
variable {X:Cx}{x cn:Str}{C:Addr}{np cpos pos:Pos}{e:Expr}{es:List Expr}{g:AF}
theorem fs_raise (hc:X.calm=true) (cl:ExcCls X.K C) (hn:PySem.W.nsIn X.K mainGlobals cn=some (some (.ref C))) (hm:X.mg x=some (.ref C)) (ha:FA X (e::es) g) (hl:(e::es).length≤1000:=by decide) (hx:X.ex=[]:=by rfl) (hg:Gl X x:=by rfl) (hdb:(x == ("__debug__":Str))=false:=by decide)
  (he:starEach (e::es) X.env=(false,eval e X.env)::starEach es X.env:=by rfl) (hpl:(backTo cpos (starEach es X.env)).any (·.1)=false:=by rfl):FS1 X (.Raise (some (.Call (.Name x np) (e::es) [] cpos)) none pos) (sRaise cn g):=by
 obtain ⟨t,pa,hz,qa⟩:=ha
 refine ⟨_,ps_wk,fun H0 S z held ρ σ H E o ok e0 k=>?_⟩
 unfold sRaise at e0
 cases h1:g ρ with
 | none=>rw [h1] at e0;cases e0
 | some qs=>
  rw [h1] at e0
  cases e0
  obtain ⟨ES,th,kk⟩:=k
  intro pins s I
  refine ps_raise hc hx th cl hg hm pa hdb he hpl pins s σ H E I ?_
  refine qa H0 S z held ρ σ H _ qs ok h1 fun H1 vs fp s1 r1 _=>⟨?_,kk z σ H1 C (ok.same s1) (.refl _ _) hn⟩
  rw [← r1.length,List.length_map,hz ρ qs h1]
  exact Nat.le_of_lt (small1000 hl)
end
inductive ER where
 | ok (d:D) (ρ:Rho) | er (cn:XN) (ρ:Rho)
def PostX (X:Cx) (H0:Hp) (S:List Addr) (held:List Held) (σ:St) (Q:VK) (E:XK):ER→Prop
 | .ok d ρ=>∀ z H1 H' v fp,Ok X.K H0 S z held ρ σ H1→Same H1 H'→Rep X.K H' d v fp→TagOk z H1 .own fp→Q v H'
 | .er cn ρ=>∀ z H' C,Ok X.K H0 S z held ρ σ H'→PySem.W.nsIn X.K mainGlobals cn.1=some (some (.ref C))→E (.ref C) cn.2 H'
abbrev XR:=Rho→Option ER
def FE (X:Cx) (e:Expr) (f:XR):Prop:=∃ t,PX X e t∧∀ (H0:Hp) (S:List Addr) (z:Addr→Option Nat) (held:List Held) (ρ:Rho) (σ:St) (H:Hp) (Q:VK) (E:XK) (r:ER),
 Ok X.K H0 S z held ρ σ H→f ρ=some r→PostX X H0 S held σ Q E r→t σ H Q E
theorem throwsT_no {X:Cx}:ThrowsT X (fun _ _ _ _=>False):=fun _ _ _ _ _ _ _ _ z=>z.elim
def sSetE (i:Nat) (f:XR):SF:=fun ρ=>match f ρ with
 | some (.ok d ρ')=>some (.nx (setS ρ' i d .own))
 | some (.er cn ρ')=>some (.er false cn ρ')
 | none=>none
def sRetE (f:XR):SF:=fun ρ=>match f ρ with
 | some (.ok d ρ')=>some (.rt d)
 | some (.er cn ρ')=>some (.er false cn ρ')
 | none=>none
section
variable {X:Cx}{e:Expr}{f:XR}{pos:Pos}
theorem fs_setE (i:Nat) {x:Str}{pos':Pos} (he:FE X e f) (hN:X.N.Nodup) (hi:X.N[i]? = some x:=by rfl) (hx:Loc X.env.scope x:=by first | exact Or.inl rfl | exact Or.inr rfl)
  (hs:swapsWith e (some (.Name x pos')) pos.line X.env=pure false:=by rfl) (hf:X.fn x=true∨X.env.scope.names.lookup x=some .local:=by first | exact .inl rfl | exact .inr rfl) (hself:kpt X x=false:=by rfl):FS1 X (.Assign [.Name x pos'] e pos) (sSetE i f):=by
 obtain ⟨t,p,q⟩:=he
 refine ⟨_,ps_wk,fun H0 S z held ρ σ H E o ok e k=>?_⟩
 unfold sSetE at e
 cases h:f ρ with
 | none=>rw [h] at e;cases e
 | some r=>
  rw [h] at e
  intro pins s I
  cases r with
  | ok d ρ1=>
   cases e
   refine ps_setX throwsT_no hN hi hx p hs hf pins s σ H E I ?_
   exact q H0 S z held ρ σ H _ _ _ ok h fun z1 H1 H2 v fp ok1 s1 r1 g1=>ok1.stored (t:=.own) s1 r1 g1 fun z' ok'=>k z' _ H2 ok' (.set hi hself)
  | er cn ρ1=>
   cases e
   obtain ⟨ES,th,kk⟩:=k
   refine ps_setX th hN hi hx p hs hf pins s σ H E I ?_
   exact q H0 S z held ρ σ H _ _ _ ok h fun z1 H1 C ok1 hC=>kk z1 σ H1 C ok1 (.refl _ _) hC
theorem fs_retE (he:FE X e f):FS1 X (.Return (some e) pos) (sRetE f):=by
 obtain ⟨t,p,q⟩:=he
 refine ⟨_,ps_wk,fun H0 S z held ρ σ H E o ok e k=>?_⟩
 unfold sRetE at e
 cases h:f ρ with
 | none=>rw [h] at e;cases e
 | some r=>
  rw [h] at e
  intro pins s I
  cases r with
  | ok d ρ1=>
   cases e
   refine ps_retX throwsT_no p pins s σ H E I ?_
   refine q H0 S z held ρ σ H _ _ _ ok h fun z1 H1 H2 v fp ok1 s1 r1 g1=>k H2 v fp (fun a o e n=>s1 _ _ (ok1.en a o e n)) r1 g1.1 fun a m=>?_
   cases h0:H0 a with
   | none=>exact .inl rfl
   | some o=>
    by_cases hs:a∈S
    ·exact .inr hs
    ·have w:=ok1.en a o h0 hs
     rw [g1.2 a m] at w;cases w
  | er cn ρ1=>
   cases e
   obtain ⟨ES,th,kk⟩:=k
   refine ps_retX th p pins s σ H E I ?_
   exact q H0 S z held ρ σ H _ _ _ ok h fun z1 H1 C ok1 hC=>kk z1 σ H1 C ok1 (.refl _ _) hC
end
def sTryAs (i:Nat) (sub:Str→Bool) (f g:SF):SF:=fun ρ=>match f ρ with
 | some (.er false cn ρ')=>if sub cn.1=true then (match g (ρ'.set i (some (.exc cn,.own))) with
  | some (.nx ρ2)=>some (.nx (ρ2.set i none))
  | some (.bk ρ2)=>some (.bk (ρ2.set i none))
  | some (.ct ρ2)=>some (.ct (ρ2.set i none))
  | some (.rt d)=>some (.rt d)
  | _=>none) else none
 | some (.er true _ _)=>none
 | o=>o
theorem rep_known {K:PySem.W.Frag}{H H':Hp}{cn:XN}{a C:Addr} (hC:PySem.W.nsIn K mainGlobals cn.1=some (some (.ref C))) (k:Knows H H' a (.ref C) cn.2):Rep K H' (.exc cn) (.ref a) []:=by
 obtain ⟨c,pay⟩:=cn
 obtain ⟨ob,vs,_,_,k⟩:=k
 cases pay with
 | none=>cases k;exact .exc hC upd_same fun _ e=>by cases e
 | some n=>obtain ⟨dx,ne,_,rfl⟩:=k;exact .exc hC upd_same fun m e=>by cases e;exact ⟨dx,rfl,by rw [upd_ne ne,upd_same]⟩
theorem Ok.unset {K:PySem.W.Frag}{H0:Hp}{S:List Addr}{z:Addr→Option Nat}{held:List Held}{ρ:Rho}{σ:St}{H:Hp} (ok:Ok K H0 S z held ρ σ H) (i:Nat):Ok K H0 S z held (ρ.set i none) (σ.set i none) H:=by
 have at_:∀ {j:Nat}{w:D×Tag},(ρ.set i none)[j]? = some (some w)→j≠i∧ρ[j]? = some (some w):=fun {j w} e=>by
  have hj:j≠i:=fun q=>by
   subst q
   by_cases hl:j < ρ.length
   ·rw [List.getElem?_set_self hl] at e;cases e
   ·rw [List.getElem?_eq_none (by rw [List.length_set];exact Nat.le_of_not_lt hl)] at e;cases e
  exact ⟨hj,by rw [List.getElem?_set_ne (Ne.symm hj)] at e;exact e⟩
 refine ⟨fun j d t e=>?_,fun p m=>?_,ok.zd,ok.en,by rw [List.length_set,List.length_set];exact ok.ln⟩
 ·obtain ⟨hj,e⟩:=at_ e
  obtain ⟨v,fp,a,b,c⟩:=ok.sl j d t e
  exact ⟨v,fp,by rw [List.getElem?_set_ne (Ne.symm hj)];exact a,b,c⟩
 ·obtain ⟨r,h⟩:=ok.hl p m
  exact ⟨r,fun a ha j q=>let ⟨h1,h2⟩:=h a ha j q;⟨h1,fun d e=>h2 d (at_ e).2⟩⟩
section
variable {X:Cx}{x n:Str}{Dc:Addr}{px hpos pos:Pos}{body suite:List Stmt}{b0:Stmt}{f g:SF}{sub:Str→Bool}
theorem sp_offTry {pins:List (Addr×Obj)}{R:XS}{E:Ends}{fl:Flow}{s:Shared} (q:SP (X.inTry pins R) [] E fl s):SP X pins E fl s:=by
 cases fl with
 | next=>obtain ⟨σ',H',I,q⟩:=q;exact ⟨σ',H',I.offTry,q⟩
 | brk=>obtain ⟨σ',H',I,q⟩:=q;exact ⟨σ',H',I.offTry,q⟩
 | cont=>obtain ⟨σ',H',I,q⟩:=q;exact ⟨σ',H',I.offTry,q⟩
 | ret u=>obtain ⟨v,σ',H',I,r,q⟩:=q;exact ⟨v,σ',H',I.offTry,r,q⟩
theorem try_core {h0:ExceptHandler}{pins:List (Addr×Obj)}{s:Shared}{H0:Hp}{S:List Addr}{z:Addr→Option Nat}{held:List Held}{ρ:Rho}{σ:St}{H:Hp}{E:Ends}{o1:Out} (hb:∀ pins R,FS (X.inTry pins R) body f) (I:Inv X pins σ H s) (ok:Ok X.K H0 S z held ρ σ H) (hf:f ρ=some o1)
  (k:match o1 with
   | .er true _ _=>False
   | .er false cn ρ'=>∀ z' σ' H' C a s',Ok X.K H0 S z' held ρ' σ' H'→Kp X σ σ'→PySem.W.nsIn X.K mainGlobals cn.1=some (some (.ref C))→Landed X pins σ' H' a (.ref C) cn.2 s' →
    wpAny (model X.prog X.w) X.A (noteFrame (.ref a) X.env) (fun _ s2=>wpAny (model X.prog X.w) X.A (setFlight (.ref a) none) (fun _ s3=>wpAny (model X.prog X.w) X.A (handleBy (.ref a) X.env [h0]) (SP X pins E) X.xe s3) X.xe s2) X.xe s'
   | o=>Post X H0 S held σ E o) :
  wpAny (model X.prog X.w) X.A (exec (.Try body [h0] [] [] pos) X.env) (SP X pins E) X.xe s:=by
 refine wpAny_Try_except ?_
 obtain ⟨tb,pb,sb⟩:=hb pins (fun cls pay σ' H'=>∀ a s',Landed X pins σ' H' a cls pay s' →
    wpAny (model X.prog X.w) X.A (noteFrame (.ref a) X.env) (fun _ s2=>wpAny (model X.prog X.w) X.A (setFlight (.ref a) none) (fun _ s3=>wpAny (model X.prog X.w) X.A (handleBy (.ref a) X.env [h0]) (SP X pins E) X.xe s3) X.xe s2) X.xe s')
 have hbody:tb E σ H:=by
  refine sb H0 S z held ρ σ H E o1 ok hf ?_
  cases o1 with
  | nx ρ'=>exact k
  | rt d=>exact k
  | bk ρ'=>exact k
  | ct ρ'=>exact k
  | er raw cn ρ'=>
   cases raw with
   | true=>exact False.elim k
   | false=>exact ⟨_,throwsT_try,fun z' σ' H' C ok' kp hC a s' L=>k z' σ' H' C a s' ok' kp hC L⟩
 refine wpAny_mono (pb [] s σ H E I.inTry hbody) (fun fl s1 q=>?_) (fun ev s1 q=>?_)
 ·have q':=sp_offTry q
  cases fl with
  | next=>exact wpAny_execs_nil q'
  | brk=>exact q'
  | cont=>exact q'
  | ret u=>exact q'
 ·obtain ⟨σ',H',a,cls,pay,rfl,L,r⟩:=q
  exact r a s1 L
theorem fs_try_as (i:Nat) (hb:∀ pins R,FS (X.inTry pins R) body f) (hs:∀ a,FS (X.inSuite a) (b0::suite) g) (hcat:∀ cn C,sub cn=true→PySem.W.nsIn X.K mainGlobals cn=some (some (.ref C))→Catches X.K C Dc) (hm:X.mg x=some (.ref Dc)) (hN:X.N.Nodup)
  (hcm:X.calm=true:=by rfl) (hx:X.ex=[]:=by rfl) (hst:X.stack=X.env::X.outer:=by rfl) (hfr:X.env.frame=some X.env.locals:=by rfl) (hg:Gl X x:=by rfl) (hi:X.N[i]? = some n:=by rfl) (hk:X.env.scope.names.lookup n=some .local:=by rfl) (hself:kpt X n=false:=by rfl) (hdb:(x == ("__debug__":Str))=false:=by decide) :
  FS1 X (.Try body [.ExceptHandler (some (.Name x px)) (some n) (b0::suite) hpos] [] [] pos) (sTryAs i sub f g):=by
 refine ⟨_,ps_wk,fun H0 S z held ρ σ H E o ok e k=>?_⟩
 intro pins s I
 unfold sTryAs at e
 cases hf:f ρ with
 | none=>rw [hf] at e;cases e
 | some o1=>
  rw [hf] at e
  refine try_core hb I ok hf ?_
  cases o1 with
  | nx ρ'=>cases e;exact k
  | rt d=>cases e;exact k
  | bk ρ'=>cases e;exact k
  | ct ρ'=>cases e;exact k
  | er raw cn ρ'=>
   cases raw with
   | true=>cases e
   | false=>
    dsimp only at e ⊢
    by_cases hsub:sub cn.1=true
    ·rw [if_pos hsub] at e
     intro z' σ' H' C a s' ok' kp hC L
     refine handle_as L hcm hx hst hfr (hcat cn.1 C hsub hC) hg hm hN hi hk (fun s5 H5 kn I5=>?_) hdb
     obtain ⟨ts,ps',ss⟩:=hs a
     refine ps' pins s5 _ _ _ I5 ?_
     have sm:Same H' H5:=fun b o q=>kn.same L.fr q
     refine ok'.stored (i:=i) (t:=.own) sm (rep_known hC kn) .nil fun z5 ok5=>?_
     have ok5:Ok X.K H0 S z5 held (ρ'.set i (some (.exc cn,.own))) (σ'.set i (some (.ref a))) H5:=ok5
     have kps:∀ {σ6:St},Kp X (σ'.set i (some (.ref a))) σ6→Kp X σ (σ6.set i none):=fun {σ6} b=>((kp.trans (.set hi hself)).trans b).trans (.set hi hself)
     cases hg2:g (ρ'.set i (some (.exc cn,.own))) with
     | none=>rw [hg2] at e;cases e
     | some o2=>
      rw [hg2] at e
      refine ss H0 S z5 held _ _ _ _ o2 ok5 hg2 ?_
      cases o2 with
      | nx ρ2=>cases e;exact fun z6 σ6 H6 ok6 b=>k z6 _ H6 (ok6.unset i) (kps b)
      | bk ρ2=>cases e;exact fun z6 σ6 H6 ok6 b=>k z6 _ H6 (ok6.unset i) (kps b)
      | ct ρ2=>cases e;exact fun z6 σ6 H6 ok6 b=>k z6 _ H6 (ok6.unset i) (kps b)
      | rt d=>cases e;exact k
      | er _ _ _=>cases e
    ·rw [if_neg hsub] at e;cases e
end
inductive Rz where
 | ok (d:D) | er (cn:XN)
def spR (K:PySem.W.Frag) (F:List D→Option Rz):Sp:=fun vs H Q E=>∃ ds fp r,Reps K H ds vs fp∧F ds=some r∧match r with
 | .ok d=>∀ H' v fp',Same H H'→Rep K H' d v fp'→fp'.Nodup→(∀ a∈fp',H a=none)→Q v H'
 | .er cn=>∀ H' C,Same H H'→PySem.W.nsIn K mainGlobals cn.1=some (some (.ref C))→E (.ref C) cn.2 H'
def runR (n N:Nat) (b:SF):List D→Option Rz:=fun ds=>if ds.length=n then (match b (iniF N ds) with
 | some (.rt d)=>some (.ok d)
 | some (.nx _)=>some (.ok .non)
 | some (.er _ cn _)=>some (.er cn)
 | _=>none) else none
theorem ok_iniF {K:PySem.W.Frag}{N:List Str}{H:Hp}{ds:List D}{vs:List V}{fp:List Addr} (rs:Reps K H ds vs fp) (hn:ds.length≤N.length):Ok K H [] (fun _=>none) [] (iniF N.length ds) (start N vs) H:=by
 have hlv:=rs.length
 refine ⟨fun i d' t' e'=>?_,(fun p m=>by cases m),(fun a j e=>by cases e),(fun a o e _=>e),?_⟩
 ·unfold iniF at e'
  by_cases hi:i < ds.length
  ·rw [List.getElem?_append_left (by rw [List.length_map];exact hi),List.getElem?_map,List.getElem?_eq_getElem hi] at e'
   cases e'
   obtain ⟨v,f',hv,rv,_⟩:=rs.get (List.getElem?_eq_getElem hi)
   refine ⟨v,f',?_,rv,fun a _ j e=>by cases e⟩
   unfold start
   rw [List.getElem?_append_left (by rw [List.length_map,← hlv];exact hi),List.getElem?_map,hv];rfl
  ·rw [List.getElem?_append_right (by rw [List.length_map];omega),List.getElem?_replicate] at e'
   split at e' <;> cases e'
 ·unfold iniF start
  rw [List.length_append,List.length_append,List.length_map,List.length_map,List.length_replicate,List.length_replicate,hlv]
section
variable {P:Program}{w:World}{K:PySem.W.Frag}{mg:Str→Option Value}{base:Heap}
theorem fn_R {x qual:Str}{st:Stmt}{f:Addr}{fd:FuncData}{N ps:List Str}{k:Nat}{b:SF} (F:Fun K x qual st f fd) (S:FnScope N ps (defScope st)) (hps:ps.length≤N.length)
  (hb:∀ (cdv:Value) (A:Around) (outer:List Env) (s:Shared) (H:Hp) (E:XK),Room k (A.deeper (envOfC qual (defScope st) s.heap.objs.size f cdv))→FS (cxOf (CXE P w) P w K mg base N qual (defScope st) f cdv A outer s H E) (defBody st) b) :
  FnOk P w K mg base (CXE P w) (k + 1) f fd ps (spR K (runR ps.length N.length b)):=by
 have lenF:∀ {ds:List D}{r:Rz},runR ps.length N.length b ds=some r→ds.length=ps.length:=fun {ds d} e=>by
  unfold runR at e
  by_cases h:ds.length=ps.length
  ·exact h
  ·rw [if_neg h] at e;cases e
 obtain ⟨oc,od,kV,doc,pm,an,cdv,ct,osl,rfl,lk,hcd⟩:=F.ex
 refine fn_of lk hcd S (fun vs H Q E ⟨ds,fp,r,rs,e,_⟩=>by rw [← rs.length];exact lenF e) fun A outer s H vs Q E hr ⟨ds,fp,r,rs,e,q⟩=>?_
 obtain ⟨t,p,sd⟩:=hb cdv A outer s H E hr
 refine ⟨t,p,?_⟩
 have hl:=lenF e
 have ok:=ok_iniF (N:=N) rs (by rw [hl];exact hps)
 unfold runR at e
 rw [if_pos hl] at e
 cases ho:b (iniF N.length ds) with
 | none=>rw [ho] at e;cases e
 | some o=>
  rw [ho] at e
  refine sd H [] (fun _=>none) [] (iniF N.length ds) (start N vs) H _ o ok ho ?_
  cases o with
  | rt d'=>
   cases e
   exact fun H' v fp' en r nd fr=>q H' v fp' (fun a o e=>en a o e (fun m=>nomatch m)) r nd fun a m=>(fr a m).resolve_right fun m=>nomatch m
  | nx ρ'=>
   cases e
   exact fun z' σ' H' ok' _=>q H' .non [] (fun a o e=>ok'.en a o e (fun m=>nomatch m)) .non List.nodup_nil fun a m=>nomatch m
  | bk _=>cases e
  | ct _=>cases e
  | er raw cn ρ'=>
   cases e
   cases raw with
   | true=>exact ⟨_,throwsN_def,fun z' σ' H' C ok' _ hC=>q H' C (fun a o e=>ok'.en a o e (fun m=>nomatch m)) hC⟩
   | false=>exact ⟨_,throwsT_def,fun z' σ' H' C ok' _ hC=>q H' C (fun a o e=>ok'.en a o e (fun m=>nomatch m)) hC⟩
end
def oIsE (T:List (Str×Bool)):D→Option D
 | .exc cn=>(T.lookup cn.1).map .bl
 | _=>none
def KitT (K:PySem.W.Frag) (T:List (Str×Bool)) (c:Value):Prop:=∀ cn b C,T.lookup cn=some b→PySem.W.nsIn K mainGlobals cn=some (some (.ref C))→ExcKit K C∧PySem.W.kitOne K (.ref C) c=some b
section
variable {X:Cx}{a:Expr}{fa:EF}{x:Str}{T:List (Str×Bool)}{p p2 pos:Pos}
theorem isE_core {cv:Value}{c:V}{tc:TE} (hc:∀ u,RelV c u→u=cv) (hT:KitT X.K T cv) (hm:X.mg "isinstance"=none) (ha:FP X a fa) (pc:PE X (.Name x p2) (fun _ H Q=>Q c H)) (hg:Gl X "isinstance":=by rfl)
  (hs:starEach [a,.Name x p2] X.env=[(false,eval a X.env),(false,eval (.Name x p2) X.env)]:=by rfl) (hpl:(backTo pos (starEach [.Name x p2] X.env)).any (·.1)=false:=by rfl):FP X (.Call (.Name "isinstance" p) [a,.Name x p2] [] pos) (e1 (oIsE T) fa):=by
 obtain ⟨ta,pa,sa⟩:=ha
 have hs2:starEach [.Name x p2] X.env=[(false,eval (.Name x p2) X.env)]:=rfl
 refine ⟨_,pe_callB call_isiE hg hm (show bootBuiltins "isinstance"=some (.builtin "isinstance") by decide +kernel) (pa_cons pa (pa_cons pc pa_nil) (by rw [hs,hs2])) (he:=by rw [hs,hs2]) (hpl:=hpl),fun H0 S z held ρ σ H Q d tg ok e k=>?_⟩
 obtain ⟨d1,t1,h1,h2,rfl⟩:=e1_of e
 refine sa H0 S z held ρ σ H _ d1 t1 ok h1 fun H1 v fp s1 r1 _=>?_
 unfold oIsE at h2
 split at h2
 ·rename_i cn
  cases hl:T.lookup cn.1 with
  | none=>rw [hl] at h2;cases h2
  | some b=>
   rw [hl] at h2
   cases h2
   cases r1 with
   | @exc _ a' C de ob hn ho _=>
    obtain ⟨kk,ke⟩:=hT cn.1 b C hl hn
    exact ⟨a',C,c,cv,b,de,ob,rfl,hc,ho,kk,ke,k H1 _ [] s1 (.bl _) .nil⟩
 ·cases h2
theorem fp_isE {C:Addr} (hT:KitT X.K T (.ref C)) (hm:X.mg "isinstance"=none) (hmx:X.mg x=some (.ref C)) (ha:FP X a fa) (hg:Gl X "isinstance":=by rfl) (hgx:Gl X x:=by rfl) (hdb:(x == ("__debug__":Str))=false:=by decide)
  (hs:starEach [a,.Name x p2] X.env=[(false,eval a X.env),(false,eval (.Name x p2) X.env)]:=by rfl) (hpl:(backTo pos (starEach [.Name x p2] X.env)).any (·.1)=false:=by rfl):FP X (.Call (.Name "isinstance" p) [a,.Name x p2] [] pos) (e1 (oIsE T) fa):=
 isE_core (tc:=fun _ H Q=>Q (.ref C) H) (c:=.ref C) (fun u r=>r) hT hm ha (pe_own hgx hmx hdb) hg hs hpl
theorem fp_isEB {B:String} (hT:KitT X.K T (.type B)) (hm:X.mg "isinstance"=none) (hmx:X.mg x=none) (ha:FP X a fa) (hbT:bootBuiltins x=some (.type B):=by decide +kernel) (hg:Gl X "isinstance":=by rfl) (hgx:Gl X x:=by rfl) (hn:x≠"__name__":=by decide) (hdb:(x == ("__debug__":Str))=false:=by decide)
  (hs:starEach [a,.Name x p2] X.env=[(false,eval a X.env),(false,eval (.Name x p2) X.env)]:=by rfl) (hpl:(backTo pos (starEach [.Name x p2] X.env)).any (·.1)=false:=by rfl):FP X (.Call (.Name "isinstance" p) [a,.Name x p2] [] pos) (e1 (oIsE T) fa):=
 isE_core (tc:=fun _ H Q=>Q (.ty B) H) (c:=.ty B) (fun u r=>r) hT hm ha (pe_bltn (v:=.ty B) hgx hmx hbT rfl hn hdb) hg hs hpl
end
def strsD:List D→Option (List Str)
 | []=>some []
 | .str x::r=>(strsD r).map fun m=>x::m
 | _::_=>none
theorem strsD_of {K:PySem.W.Frag}{H:Hp}:∀ {ds:List D}{xs:List V}{fp:List Addr}{ys:List Str},Reps K H ds xs fp→strsD ds=some ys→xs=ys.map V.str
 | _,_,_,_,.nil,e=>by cases e;rfl
 | _,_,_,ys,.cons (d:=d) h t,e=>by
  cases d with
  | str x=>
   unfold strsD at e
   cases q:strsD _ with
   | none=>rw [q] at e;cases e
   | some m=>
    rw [q] at e
    cases e
    cases h
    rw [strsD_of t q];rfl
  | _=>cases e
theorem strsD_strs:∀ ys:List Str,strsD (ys.map D.str)=some ys
 | []=>rfl
 | y::ys=>by
  show (strsD (ys.map D.str)).map (fun m=>y::m)=_
  rw [strsD_strs ys];rfl
section
variable {X:Cx}{o a b c d:Expr}{fo fa fb fc fd:EF}{p p1 p2 p3 p4 pos:Pos}
def TupK (K:PySem.W.Frag) (t:Addr) (ys:List Str):Prop:=∃ (o:Obj) (its:Array Value) (n:Nat),K.lookup t=some o∧o.cls=.type "tuple"∧o.dict=none∧o.data=.seq its n∧its.size≤sizeLine∧Vals (ys.map V.str) its.toList
theorem reps_strs {K:PySem.W.Frag}{H:Hp}:∀ ys:List Str,Reps K H (ys.map D.str) (ys.map V.str) []
 | []=>.nil
 | y::ys=>.cons (.str y) (reps_strs ys)
theorem fp_globT {x:Str}{t:Addr}{ys:List Str} (hm:X.mg x=some (.ref t)) (ht:TupK X.K t ys) (hg:Gl X x:=by rfl) (hd:(x == ("__debug__":Str))=false:=by decide):FP X (.Name x pos) (eC (.tup (ys.map D.str))):=
 ⟨_,pe_glob hg hm (v:=.ref t) rfl hd,fun _ _ _ _ _ _ H _ _ _ _ e q=>by cases e;exact q H _ _ (Same.refl H) (.tup (.inr ht) (reps_strs ys)) .nil⟩
def oInS (neg:Bool):D→D→Option D
 | .str i,.lst ds=>(strsD ds).map fun ns=>.bl (if neg=true then !(ns.any (· == i)) else ns.any (· == i))
 | .str i,.tup ds=>(strsD ds).map fun ns=>.bl (if neg=true then !(ns.any (· == i)) else ns.any (· == i))
 | _,_=>none
theorem inV_strs (i:Str) (ns:List Str):inV (.str i) (ns.map V.str)=ns.any (· == i):=by
 unfold inV
 rw [List.any_map]
 rfl
theorem flat_strs (ns:List Str):(ns.map V.str).all flatV=true:=by
 rw [List.all_map]
 exact List.all_eq_true.mpr fun _ _=>rfl
theorem does_inS {K:PySem.W.Frag}{neg:Bool}:Does2 K (rIn K neg) (oInS neg):=by
 intro H x y d1 d2 f1 f2 d Q r1 r2 e k
 unfold oInS at e
 split at e
 ·rename_i i ds
  cases hS:strsD ds with
  | none=>rw [hS] at e;cases e
  | some ys=>
   rw [hS] at e
   cases e
   cases r1
   obtain ⟨l,xs,f,rfl,hq,rs,_⟩:=r2.lst_of
   have ex:=strsD_of rs hS
   subst ex
   refine ⟨l,_,rfl,.inl hq,rfl,flat_strs ys,?_⟩
   rw [inV_strs]
   exact k H _ (Same.refl H) (.bl _)
 ·rename_i i ds
  cases hS:strsD ds with
  | none=>rw [hS] at e;cases e
  | some ys=>
   rw [hS] at e
   cases e
   cases r1
   cases r2 with
   | tup hq rs=>
    have ex:=strsD_of rs hS
    subst ex
    refine ⟨_,_,rfl,.inr hq,rfl,flat_strs ys,?_⟩
    rw [inV_strs]
    exact k H _ (Same.refl H) (.bl _)
 ·cases e
theorem ft_inS (ha:FP X a fa) (hb:FP X b fb) (hm:behindInMarks .In b=false:=by rfl):FT X (.Compare a [.In] [b] pos) (tV (e2 (oInS false) fa fb)):=ft_cmp op_in_seq does_inS ha hb hm
theorem ft_notInS (ha:FP X a fa) (hb:FP X b fb) (hm:behindInMarks .NotIn b=false:=by rfl):FT X (.Compare a [.NotIn] [b] pos) (tV (e2 (oInS true) fa fb)):=ft_cmp op_notIn_seq does_inS ha hb hm
theorem fi_range3P {tg:Expr}{i:Int} {j} (hm:X.mg "range"=none) (ha:FP X a fa) (hb:FP X b fb) (hg:Gl X "range":=by rfl) (hs:starEach [a,b,.Constant (.int i) j p4] X.env=[(false,eval a X.env),(false,eval b X.env),(false,eval (.Constant (.int i) j p4) X.env)]:=by rfl)
  (hs2:starEach [b,.Constant (.int i) j p4] X.env=[(false,eval b X.env),(false,eval (.Constant (.int i) j p4) X.env)]:=by rfl) (hs3:starEach [.Constant (.int i) j p4] X.env=[(false,eval (.Constant (.int i) j p4) X.env)]:=by rfl) :
  FI X tg (.Call (.Name "range" p) [a,b,.Constant (.int i) j p4] [] pos) (iR3 fa fb i):=by
 obtain ⟨tc,pc,qc⟩:=fp_int (X:=X) (i:=i) (j:=j) (pos:=p4)
 obtain ⟨ta,pa,qa⟩:=ha
 obtain ⟨tb,pb,qb⟩:=hb
 refine ⟨_,pi_range3 hg hm (pa_cons pa (pa_cons pb (pa_cons pc pa_nil hs3) (by rw [hs2,hs3])) (by rw [hs,hs2])) hs hs2,fun H0 S z held ρ σ H R ds t ok e k=>?_⟩
 unfold iR3 at e
 split at e
 ·rename_i n t1 m t2 e1 e2
  by_cases hc:(decide (i≠0)&&decide (i.natAbs < 1073741824)&&Builtin.Range.small n m i)=true
  ·rw [if_pos hc] at e
   cases e
   obtain ⟨h1,h3⟩:=(Bool.and_eq_true _ _).mp hc
   obtain ⟨h1,h2⟩:=(Bool.and_eq_true _ _).mp h1
   refine qa H0 S z held ρ σ H _ _ t1 ok e1 fun H1 x f1 s1 r1 _=>?_
   refine qb H0 S z held ρ σ H1 _ _ t2 (ok.same s1) e2 fun H2 y f2 s2 r2 _=>?_
   refine qc H0 S z held ρ σ H2 _ (.int i) .own ((ok.same s1).same s2) rfl fun H3 w f3 s3 r3 _=>?_
   cases r1
   cases r2
   cases r3
   exact ⟨n,m,i,rfl,of_decide_eq_true h1,of_decide_eq_true h2,h3,k H3 _ [] ((s1.trans s2).trans s3) (fun h m=>nomatch m) itOk_rangeS⟩
  ·rw [if_neg hc] at e;cases e
 ·cases e
end
end L2.Ev
namespace L2.Ev
open PySem PySem.W
abbrev veMro:List Value:=[.type "ValueError",.type "Exception",.type "BaseException",.type "object"]
theorem exc_shape {K:Frag}{C:Addr}{bmB:List Value}{newId:String} (q:excIn K C bmB newId=true):∃ nm qn N bs bm hdct sn sub ab col dd k0 k1 k2 k3 k5,K.lookup C=some (excClassObj nm qn C N bs bm hdct sn sub ab col dd k0 k1 k2 k3 k5 newId) ∧
  tailIn K bmB bm=true∧nsOkIn K N=true∧nsIn K N "__init__"=some none:=by
 unfold excIn at q
 split at q
 ·rename_i dd cd sl ho
  split at q
  ·rename_i C' bm k0 k1 k2 k3 n k5 hm hs
   simp only [Bool.and_eq_true,beq_iff_eq,Bool.not_eq_true'] at q
   obtain ⟨⟨⟨⟨⟨rfl,rfl⟩,hdel⟩,ht⟩,hok⟩,hni⟩:=q
   obtain ⟨nm,bs,mro,ns,qn,hd,sn,sub,ab,col,del⟩:=cd
   dsimp only at hm hdel hok hni
   subst hm hdel
   have hsl:sl=#[k0,k1,k2,k3,some (.builtin n),k5]:=by
    obtain ⟨l⟩:=sl
    simp only at hs
    rw [hs]
   subst hsl
   exact ⟨nm,qn,ns,bs,bm,hd,sn,sub,ab,col,dd,k0,k1,k2,k3,k5,ho,ht,hok,hni⟩
  ·cases q
 ·cases q
theorem excCls_of {K:Frag}{C:Addr} (q:excIn K C veMro "ValueError.__new__"=true):ExcCls K C:=by
 obtain ⟨nm,qn,N,bs,bm,hdct,sn,sub,ab,col,dd,k0,k1,k2,k3,k5,h1,h2,h3,h4⟩:=exc_shape q
 exact ⟨⟨_,_,_,_,bm,N,nm,qn,bs,hdct,sn,sub,ab,col,dd,k0,k1,k2,k3,k5,PySem.F.excBase_ValueError,h1,h3,h4,h2⟩⟩
def Shape (K:Frag) (C:Addr):Prop:=∃ nm qn N bs bm hdct sn sub ab col dd k0 k1 k2 k3 k5 newId,K.lookup C=some (excClassObj nm qn C N bs bm hdct sn sub ab col dd k0 k1 k2 k3 k5 newId)
theorem shape_of {K:Frag}{C:Addr}{bmB:List Value}{newId:String} (q:excIn K C bmB newId=true):Shape K C:=by
 obtain ⟨nm,qn,N,bs,bm,hdct,sn,sub,ab,col,dd,k0,k1,k2,k3,k5,h1,_⟩:=exc_shape q
 exact ⟨nm,qn,N,bs,bm,hdct,sn,sub,ab,col,dd,k0,k1,k2,k3,k5,newId,h1⟩
theorem mro_at {K:Frag}{C:Addr}{nm qn:Str}{N:Addr}{bs bm:List Value}{hdct:Bool}{sn:List Str}{sub:List Value}{ab:Bool}{col:Option Bool}{dd:Option Addr}{k0 k1 k2 k3 k5:Option Value}{newId:String}{v:Value}
  (h:K.lookup C=some (excClassObj nm qn C N bs bm hdct sn sub ab col dd k0 k1 k2 k3 k5 newId)) (m:mroIn K C v=some true):(Value.ref C::bm).contains v=true:=by
 unfold mroIn clsIn at m
 rw [h] at m
 dsimp only at m
 rw [Option.bind_some,if_neg (by simp)] at m
 exact Option.some.inj m
theorem catches_of {K:Frag}{C D:Addr} (hC:Shape K C) (hD:Shape K D) (m:mroIn K C (.ref D)=some true) (b:mroIn K D (.type "BaseException")=some true):Catches K C D:=by
 obtain ⟨nm,qn,N,bs,bm,hdct,sn,sub,ab,col,dd,k0,k1,k2,k3,k5,newId,h1⟩:=hC
 obtain ⟨nm',qn',N',bs',bm',hdct',sn',sub',ab',col',dd',j0,j1,j2,j3,j5,newId',h2⟩:=hD
 refine ⟨nm,qn,N,bs,bm,hdct,sn,sub,ab,col,dd,k0,k1,k2,k3,k5,newId,h1,nm',qn',N',bs',bm',hdct',sn',sub',ab',col',dd',j0,j1,j2,j3,j5,newId',h2,?_,mro_at h1 m⟩
 have:=mro_at h2 b
 rw [List.contains_cons] at this
 rcases (Bool.or_eq_true _ _).mp this with q | q
 ·cases beq_iff_eq.mp q
 ·exact q
def subOf (names:List Str):Str→Bool:=fun cn=>names.contains cn
def CatchT (K:Frag) (names:List Str) (Dc:Addr):Prop:=∀ cn C,subOf names cn=true→nsIn K mainGlobals cn=some (some (.ref C))→Catches K C Dc
theorem catchT_nil {K:Frag}{Dc:Addr}:CatchT K [] Dc:=fun _ _ h _=>by cases h
theorem catchT_cons {K:Frag}{c:Str}{C Dc:Addr}{names:List Str} (n:nsIn K mainGlobals c=some (some (.ref C))) (x:Catches K C Dc) (r:CatchT K names Dc):CatchT K (c::names) Dc:=fun cn C' h hn=>by
 unfold subOf at h
 rw [List.contains_cons] at h
 rcases (Bool.or_eq_true _ _).mp h with q | q
 ·have e:=beq_iff_eq.mp q
  subst e
  rw [n] at hn
  cases hn
  exact x
 ·exact r cn C' q hn
theorem kitT_nil {K:Frag}{c:Value}:KitT K [] c:=fun _ _ _ h _=>by cases h
theorem kitT_cons {K:Frag}{cn:Str}{C:Addr}{c:Value}{b:Bool}{T:List (Str×Bool)} (n:nsIn K mainGlobals cn=some (some (.ref C))) (k:ExcKit K C) (e:kitOne K (.ref C) c=some b) (r:KitT K T c):KitT K ((cn,b)::T) c:=fun cn' b' C' h hn=>by
 rw [List.lookup_cons] at h
 by_cases q:cn' == cn
 ·rw [q] at h
  cases h
  have e':=beq_iff_eq.mp q
  subst e'
  rw [n] at hn
  cases hn
  exact ⟨k,e⟩
 ·have q':(cn' == cn)=false:=by simpa using q
  rw [q'] at h
  exact r cn' b' C' h hn
theorem tupK_mk3 {K:Frag}{t:Addr}{a b c:Str}{t1 t2 t3:Tok}{n:Nat}{sl:Array (Option Value)} (l:K.lookup t=some ⟨.type "tuple",none,.seq #[.str a t1,.str b t2,.str c t3] n,sl⟩):TupK K t [a,b,c]:=
 ⟨_,_,_,l,rfl,rfl,rfl,(by show 3≤sizeLine;decide),.cons ⟨_,rfl⟩ (.cons ⟨_,rfl⟩ (.cons ⟨_,rfl⟩ .nil))⟩
theorem cls_of_mro {K:Frag}{C:Addr}{v:Value}{b:Bool} (m:mroIn K C v=some b):(clsIn K C).isSome=true:=by
 unfold mroIn at m
 cases h:clsIn K C with
 | none=>rw [h] at m;cases m
 | some _=>rfl
end L2.Ev
namespace L2.Ev
open PySem PySem.Spec PyProof.Rows
def xMethS (cn m:Str) (F:List D→Option Rz) (fo:EF) (g:AF):XR:=fun ρ=>match fo ρ,g ρ with
 | some (.ins c es,_),some ps=>if c=cn∧es.lookup m=none then (match F (.ins c es::ps.map (·.1)) with
  | some (.ok d)=>some (.ok d ρ)
  | some (.er en)=>some (.er en ρ)
  | none=>none) else none
 | _,_=>none
def eCutT (fa fh:EF):EF:=fun ρ=>match fa ρ,fh ρ with
 | some (.lst ds,_),some (.int i,_)=>if immAll ds=true then some (.lst (cutD ds (some i) none),.own) else none
 | _,_=>none
section
variable {X:Cx}{a b:Expr}{fa:EF}{p2 pos:Pos}
theorem fp_cutT {fh:EF} (ha:FP X a fa) (hh:FP X b fh):FP X (.Subscript a (.Slice (some b) none none p2) pos) (eCutT fa fh):=by
 obtain ⟨t,p,q⟩:=ha
 obtain ⟨th,ph,qh⟩:=hh
 refine ⟨_,pe_slice sl_list p (po_some ph) po_none,fun H0 S z held ρ σ H Q d tg ok e k=>?_⟩
 unfold eCutT at e
 split at e
 ·rename_i ds t1 i t2 e1 e2
  by_cases hi:immAll ds=true
  ·rw [if_pos hi] at e
   cases e
   refine q H0 S z held ρ σ H _ _ t1 ok e1 fun H1 x f1 s1 r1 _=>?_
   refine qh H0 S z held ρ σ H1 _ _ t2 (ok.same s1) e2 fun H2 y f2 s2 r2 _=>?_
   cases r2
   refine ⟨i,rfl,?_⟩
   obtain ⟨w,xs,f,rfl,hq,rs,_⟩:=(r1.same s2).lst_of
   have hn:=rs.imm hi
   subst hn
   refine ⟨w,xs,rfl,hq,fun p hp=>?_⟩
   have s3:Same H2 (upd H2 p (.lst (cutV xs (some i) none))):=fun b o e=>by rw [upd_ne (ne_of_none e hp)];exact e
   have rr:Reps X.K H2 (cutD ds (some i) none) (cutV xs (some i) none) []:=by
    unfold cutD cutV
    rw [rs.length]
    exact Reps.take0 _ (Reps.drop0 _ rs)
   refine k _ _ [p] ((s1.trans s2).trans s3) (.lst upd_same (rr.same s3)) ⟨List.nodup_cons.mpr ⟨(fun m=>by cases m),List.nodup_nil⟩,fun a m=>?_⟩
   cases List.mem_singleton.mp m
   exact s1.free (s2.free hp)
  ·rw [if_neg hi] at e;cases e
 ·cases e
end
theorem log2_sm64 {n:Int} (h:n.natAbs < 2 ^ 64):n.natAbs.log2 < 1920:=by
 rcases Nat.eq_zero_or_pos n.natAbs with z | z
 ·rw [z];decide
 ·exact Nat.lt_of_lt_of_le ((Nat.log2_lt (by omega)).mpr h) (by decide)
theorem Reps.getS {K:PySem.W.Frag}{H:Hp}:∀ {ds:List D}{vs:List V}{fp:List Addr}{i:Nat}{d:D},Reps K H ds vs fp→ds[i]? = some d→∃ v f,vs[i]? = some v∧Rep K H d v f∧f.Sublist fp
 | _,_,_,_,_,.nil,e=>by simp at e
 | _,_,_,0,_,.cons (f2:=f2) h t,e=>by
  cases Option.some.inj e
  exact ⟨_,_,rfl,h,List.sublist_append_left _ _⟩
 | _,_,_,i + 1,d,.cons h t,e=>by
  obtain ⟨v,f,e1,r,s⟩:=Reps.getS (i:=i) (d:=d) t (by simpa using e)
  exact ⟨v,f,by simpa using e1,r,s.trans (List.sublist_append_right _ _)⟩
def eIxO (fa fb:EF):EF:=fun ρ=>match fa ρ,fb ρ with
 | some (.lst ds,.own),some (.int i,_)=>(atI ds i).map fun d=>(d,.own)
 | _,_=>none
theorem fp_ixO {X:Cx}{a b:Expr}{fa fb:EF}{pos:Pos} (ha:FP X a fa) (hb:FP X b fb) (hs:PlainIx b:=by exact fun _ _=>rfl):FP X (.Subscript a b pos) (eIxO fa fb):=by
 obtain ⟨ta,pa,sa⟩:=ha
 obtain ⟨tb,pb,sb⟩:=hb
 refine ⟨_,pe_ix ix_seq pa pb hs,fun H0 S z held ρ σ H Q d tg ok e q=>?_⟩
 unfold eIxO at e
 split at e
 ·rename_i ds i t2 e1 e2'
  cases e3:atI ds i with
  | none=>rw [e3] at e;cases e
  | some d'=>
   rw [e3] at e
   cases e
   refine sa H0 S z held ρ σ H _ _ _ ok e1 fun H1 x f1 s1 r1 g1=>?_
   refine sb H0 S z held ρ σ H1 _ _ t2 (ok.same s1) e2' fun H2 y f2 s2 r2 _=>?_
   have r1:=r1.same s2
   cases r2
   unfold atI at e3
   cases h:ixN ds.length i with
   | none=>rw [h] at e3;cases e3
   | some j=>
    rw [h,Option.bind_some] at e3
    cases r1 with
    | lst hq rs=>
     obtain ⟨v,f',hv,rv,hm⟩:=rs.getS e3
     have g1:(_::_:List Addr).Nodup∧∀ a∈_,H a=none:=g1
     refine .inl ⟨_,_,i,v,rfl,rfl,SqL.of hq,?_,q H2 v f' (s1.trans s2) rv ⟨hm.nodup (List.nodup_cons.mp g1.1).2,fun a m=>g1.2 a (List.mem_cons_of_mem _ (hm.subset m))⟩⟩
     unfold atI
     rw [← rs.length,h,Option.bind_some];exact hv
 ·cases e
section
variable (P:Program) (w:World) (K:PySem.W.Frag) (mg:Str→Option Value) (base:Heap) (CX:CXT) (k:Nat)
def FN (x:Str) (ps:List Str) (sp:Sp) (cm:Bool:=true):Prop:=∃ a fd,FnOk P w K mg base CX k a fd ps sp cm∧mg x=some (.ref a)∧PySem.W.keepIn K (.ref a)=true∧Binds K fd ps []
end
def GL (K:PySem.W.Frag) (x q:Str) (st:Stmt) (f:Addr):Prop:=∃ oc od kV dc pm an cd ct sl,K.lookup f=some ⟨oc,od,.func (PySem.W.fnOf x q (defArgs st) (defBody st) (defScope st) .none kV dc pm an cd ct),sl⟩∧PySem.W.codeIn K cd q=true∧PySem.W.keepIn K (.ref f)=true
def GFn (K:PySem.W.Frag) (x:Str) (st:Stmt):Prop:=∃ f,PySem.W.nsIn K mainGlobals x=some (some (.ref f))∧GL K x x st f
abbrev BA (x q:Str) (st:Stmt) (ps:List Str):Prop:=∀ (kV doc pm:Value) (an:Option Addr) (cdv ct:Value) (us:List Value),us.length=ps.length→bindArgs (PySem.W.fnOf x q (defArgs st) (defBody st) (defScope st) .none kV doc pm an cdv ct) ⟨us,[]⟩=pure (ps.zip us)
theorem gl_fun {K:PySem.W.Frag}{x q:Str}{st:Stmt}{f:Addr} (l:GL K x q st f):PySem.W.keepIn K (.ref f)=true∧∃ fd,Fun K x q st f fd:=by
 obtain ⟨oc,od,kV,dc,pm,an,cd,ct,sl,h1,h2,h3⟩:=l
 exact ⟨h3,_,fun_mk h1 h2 h3⟩
section
variable {P:Program}{w:World}{K:PySem.W.Frag}{h:Heap}{mg:Str→Option Value}{base:Heap}{CX:CXT}{k:Nat}{C:Addr}{x q:Str}{st:Stmt}{ps:List Str}{sp:Sp}{cm:Bool}
theorem fnW (X:K.In h) (G:h.Ns mainGlobals mg) (l:GFn K x st) (ok:∀ {f:Addr}{fd:FuncData},Fun K x x st f fd→FnOk P w K mg base CX k f fd ps sp cm) (b:BA x x st ps):FN P w K mg base CX k x ps sp cm:=by
 obtain ⟨f,a,l⟩:=l
 obtain ⟨kp,fd,F⟩:=gl_fun l
 exact ⟨f,fd,ok F,PySem.W.mg_of X G a,kp,F.binds b⟩
theorem lawW {fa:Addr}{p:Str}{sp:Heap→Sp} (X:K.In h) (G:h.Ns mainGlobals mg) (hfa:mg "law"=some (.ref fa)) (l:GFn K "law" st)
  (b:∀ (kV doc pm:Value) (an:Option Addr) (cdv ct:Value) (s:Shared) (v:Value),BindsTo s (PySem.W.fnOf "law" "law" (defArgs st) (defBody st) (defScope st) .none kV doc pm an cdv ct) ⟨[v],[]⟩ [(p,v)])
  (ok:∀ base:Heap,K.In base→base.Ns mainGlobals mg→∀ {f:Addr}{fd:FuncData},Fun K "law" "law" st f fd→FnOk P w K mg base CX k f fd [p] (sp base) cm) :
  ∃ fd:FuncData,(∀ (s:Shared) (v:Value),BindsTo s fd ⟨[v],[]⟩ [(p,v)])∧∀ base:Heap,K.In base→base.Ns mainGlobals mg→FnOk P w K mg base CX k fa fd [p] (sp base) cm:=by
 obtain ⟨f,a,oc,od,kV,dc,pm,an,cd,ct,sl,h1,h2,h3⟩:=l
 have e:=hfa.symm.trans (PySem.W.mg_of X G a)
 cases e
 exact ⟨_,b kV dc pm an cd ct,fun base K1 G1=>ok base K1 G1 (fun_mk h1 h2 h3)⟩
end
section
variable {g:GF}{t:Tag}{f:SF}{d:D}{ds:List D}{ρ ρ1 ρ2:Rho}
theorem loop_c (h1:g d t ρ=some ρ1) (h2:f ρ1=some (.nx ρ2)):loopF g t f (d::ds) ρ=loopF g t f ds ρ2:=by
 conv=>lhs;unfold loopF
 rw [h1];dsimp only;rw [h2]
theorem loop_r {r:D} (h1:g d t ρ=some ρ1) (h2:f ρ1=some (.rt r)):loopF g t f (d::ds) ρ=some (.rt r):=by
 unfold loopF
 rw [h1];dsimp only;rw [h2]
end
end L2.Ev
namespace L2
open PySem PySem.Spec PyProof.Rows
namespace Zt
section
variable {prog:Program}{w:World}{A:Around}{E:Value→Shared→Prop}{s:Shared}
theorem drawn {it t:Addr}{i:Nat}{items:Array Value}{x:Value}{Q:Value→Shared→Prop} (hit:s.heap.IsTupleIter it t i) (ht:s.heap.IsTuple t items) (hx:items[i]? = some x)
  (hQ:∀ h',h'.IsTupleIter it t (i + 1)→Heap.SameBut it s.heap h'→Q x { s with heap:=h' }):wpAny (model prog w) A (Builtin.SmallTypes.nextOf (.ref it)) Q E s:=by
 obtain ⟨oi,ei,ci,di⟩:=id hit
 obtain ⟨ot,et,_,nt,dt⟩:=ht
 unfold Builtin.SmallTypes.nextOf
 refine wpAny_bind (wpAny_callSpecial?_slot (name:=Str.ofString "__next__") hit.typeIs F.slot_tuple_iterator_next (wpAny_call_entry F.slot_tuple_iterator_next hit.typeIs F.entry_tuple_iterator_next ?_ (F.args_tuple_iterator_next_1 _)))
 show wpAny _ _ (field (.ref it) 0 >>= fun v=>_) _ _ s
 refine wpAny_bind (wpAny_field ei di (x:=.ref t) rfl ?_)
 refine wpAny_ite_split (fun z=>absurd z Bool.false_ne_true) fun _=>?_
 show wpAny _ _ (field (.ref it) 1 >>= fun v=>_) _ _ s
 refine wpAny_bind (wpAny_field ei di (x:=.int i 0) rfl ?_)
 refine wpAny_bind (wpAny_seqItems et dt ?_)
 simp only [Int.toNat_natCast,hx]
 refine wpAny_bind (wpAny_setField ei di (by simp) (wpAny_pure ⟨x,rfl,wpAny_pure (hQ _ ⟨_,Heap.get?_update_self _ ei (Obj.isFreed_of_fields (Obj.data_mapFields di _)),(Obj.cls_mapFields ..).trans ci,?_⟩ (Heap.SameBut.update ..))⟩))
 rw [Obj.data_mapFields di]
 simp [rawInt]
theorem ended {it t:Addr}{i:Nat}{items:Array Value}{Q:Value→Shared→Prop} (hh:A.handled=none) (hit:s.heap.IsTupleIter it t i) (ht:s.heap.IsTuple t items) (hx:items[i]? = none)
  (hE:∀ h' e,Heap.ExtBut it s.heap h'→(∃ o,h'.get? e=some o∧o.cls=.type "StopIteration")→E (.ref e) { s with heap:=h' }):wpAny (model prog w) A (Builtin.SmallTypes.nextOf (.ref it)) Q E s:=by
 obtain ⟨oi,ei,ci,di⟩:=id hit
 obtain ⟨ot,et,_,nt,dt⟩:=ht
 have hh1:A.in1.handled=none:=hh
 unfold Builtin.SmallTypes.nextOf
 refine wpAny_bind (wpAny_callSpecial?_slot (name:=Str.ofString "__next__") hit.typeIs F.slot_tuple_iterator_next (wpAny_call_entry F.slot_tuple_iterator_next hit.typeIs F.entry_tuple_iterator_next ?_ (F.args_tuple_iterator_next_1 _)))
 show wpAny _ _ (field (.ref it) 0 >>= fun v=>_) _ _ s
 refine wpAny_bind (wpAny_field ei di (x:=.ref t) rfl ?_)
 refine wpAny_ite_split (fun z=>absurd z Bool.false_ne_true) fun _=>?_
 show wpAny _ _ (field (.ref it) 1 >>= fun v=>_) _ _ s
 refine wpAny_bind (wpAny_field ei di (x:=.int i 0) rfl ?_)
 refine wpAny_bind (wpAny_seqItems et dt ?_)
 simp only [Int.toNat_natCast,hx]
 refine wpAny_bind (wpAny_rule (wpAny_bind (wpAny_setField ei di (by simp) ?_)))
 unfold Builtin.SmallTypes.stopIteration
 refine wpAny_bind ?_
 unfold newExc newTuple
 refine wpAny_bind (wpAny_newObj_type ?_ (by size_fits))
 refine wpAny_bind (m:=firstArgMember _ _) (wpAny_of_eq (a:=Value.none) (by first | (simp only [firstArgMember];rfl) | rfl) ?_)
 refine wpAny_newObj_type ?_ (by size_fits)
 unfold raiseNew
 refine wpAny_bind (wpAny_handled ?_)
 rw [hh1]
 exact wpAny_bind (wpAny_pure (wpAny_throw (hE _ _ (((Heap.SameBut.update ..).extBut.push _).push _) ⟨_,Heap.get?_push_size _ rfl,rfl⟩)))
theorem step {z TI TO i1 i2 l1 l2:Addr}{k:Nat}{xs ys:Array Value}{a b:Value}{Q:Fin→Shared→Prop} (D:ZipApart z TI TO i1 i2 l1 l2)
  (hz:IsZip s.heap z TI TO .none) (hTI:IsPair s.heap TI (.ref i1) (.ref i2)) (hTO:IsPair s.heap TO a b)
  (h1:s.heap.IsTupleIter i1 l1 k) (h2:s.heap.IsTupleIter i2 l2 k) (t1:s.heap.IsTuple l1 xs) (t2:s.heap.IsTuple l2 ys)
  (hQ:∀ x y h',xs[k]? = some x→ys[k]? = some y→IsZip h' z TI TO (rawInt s.heap.objs.size)→IsPair h' TO x y→h'.IsTupleIter i1 l1 (k + 1)→h'.IsTupleIter i2 l2 (k + 1)→IsPair h' s.heap.objs.size x y →
   (∀ c o,c∉[z,TO,i1,i2]→s.heap.get? c=some o→h'.get? c=some o)→Q (.done (.ret (.ref s.heap.objs.size))) { s with heap:=h' })
  (hE:(xs[k]? = none∨ys[k]? = none)→A.handled=none∧∀ h' e,(∀ c o,c∉[z,TO,i1,i2]→s.heap.get? c=some o→h'.get? c=some o)→(∃ o,h'.get? e=some o∧o.cls=.type "StopIteration")→E (.ref e) { s with heap:=h' }) :
  wpAny (model prog w) A (Builtin.«zip.__next__» ⟨[.ref z],[]⟩) Q E s:=by
 show wpAny _ _ (field (.ref z) 2 >>= fun v=>_) _ _ _
 refine wpAny_bind (wpAny_field hz rfl (x:=.bool false) rfl ?_)
 show wpAny _ _ (field (.ref z) 3 >>= fun v=>_) _ _ _
 refine wpAny_bind (wpAny_field hz rfl (x:=.ref TI) rfl (wpAny_bind (wpAny_seqItems hTI rfl ?_)))
 show wpAny _ _ (Builtin.SmallTypes.ownedTupleIsFree (.ref z) >>= fun v=>_) _ _ _
 refine wpAny_bind ?_
 unfold Builtin.SmallTypes.ownedTupleIsFree
 refine wpAny_bind (wpAny_field hz rfl (x:=.none) rfl (wpAny_pure ?_))
 simp only [if_true]
 refine wpAny_bind (wpAny_rule (wpAny_bind (wpAny_field hz rfl (x:=.ref TO) rfl (wpAny_bind (wpAny_setField_rec hz (by simp) fun g1 z1 b1=>?_)))))
 have z1':IsZip g1 z TI TO .ellipsis:=z1
 have D1:=D
 obtain ⟨TIz,TOz,i1z,i2z,TITO,TIi1,TIi2,TOi1,TOi2,i12,l1z,l1TO,l1i1,l1i2,l2z,l2TO,l2i1,l2i2⟩:=D1
 refine wpAny_bind ?_
 simp only [List.zipIdx_cons,List.zipIdx_nil,List.forIn_cons,List.forIn_nil]
 refine wpAny_bind (wpAny_bind (wpAny_onRaise ?_))
 show wpAny _ _ (Builtin.SmallTypes.nextOf (.ref i1) >>= fun v=>_) _ _ _
 cases hx:xs[k]? with
 | none=>
  obtain ⟨hh,fin⟩:=hE (.inl hx)
  refine wpAny_bind (ended hh (h1.extBut b1.extBut i1z) (t1.extBut b1.extBut l1z) hx fun g2 e b2 ⟨oe,he,ce⟩=>?_)
  have z2:IsZip g2 z TI TO .ellipsis:=b2 _ _ i1z.symm z1'
  have ez:e≠z:=fun q=>by subst q;rw [z2] at he;cases he;simp at ce
  refine wpAny_setField_rec z2 (by simp) fun g3 _ b3=>fin g3 e (fun c o m q=>?_) ⟨oe,b3.extBut _ _ ez he,ce⟩
  simp only [List.mem_cons,List.not_mem_nil,or_false,not_or] at m
  exact b3.extBut _ _ m.1 (b2 _ _ m.2.2.1 (b1.extBut _ _ m.1 q))
 | some x=>
  refine wpAny_bind (drawn (h1.extBut b1.extBut i1z) (t1.extBut b1.extBut l1z) hx fun g2 i2' b2=>wpAny_pure ?_)
  have o2:IsPair g2 TO a b:=b2.extBut _ _ TOi1 (b1.extBut _ _ TOz hTO)
  refine wpAny_bind (wpAny_seqItems o2 rfl (wpAny_bind (wpAny_updateSeq_pair o2 fun g3 o3 b3=>wpAny_bind (wpAny_letGo (wpAny_pure ?_)))))
  have o3':IsPair g3 TO x b:=o3
  refine wpAny_bind (wpAny_bind (wpAny_onRaise ?_))
  show wpAny _ _ (Builtin.SmallTypes.nextOf (.ref i2) >>= fun v=>_) _ _ _
  have j2:g3.IsTupleIter i2 l2 k:=((h2.extBut b1.extBut i2z).extBut b2.extBut i12.symm).extBut b3.extBut TOi2.symm
  have u2:g3.IsTuple l2 ys:=((t2.extBut b1.extBut l2z).extBut b2.extBut l2i1).extBut b3.extBut l2TO
  cases hy:ys[k]? with
  | none=>
   obtain ⟨hh,fin⟩:=hE (.inr hy)
   refine wpAny_bind (ended hh j2 u2 hy fun g4 e b4 ⟨oe,he,ce⟩=>?_)
   have z4:IsZip g4 z TI TO .ellipsis:=b4 _ _ i2z.symm (b3.extBut _ _ TOz.symm (b2.extBut _ _ i1z.symm z1'))
   have ez:e≠z:=fun q=>by subst q;rw [z4] at he;cases he;simp at ce
   refine wpAny_setField_rec z4 (by simp) fun g5 _ b5=>fin g5 e (fun c o m q=>?_) ⟨oe,b5.extBut _ _ ez he,ce⟩
   simp only [List.mem_cons,List.not_mem_nil,or_false,not_or] at m
   exact b5.extBut _ _ m.1 (b4 _ _ m.2.2.2 (b3.extBut _ _ m.2.1 (b2.extBut _ _ m.2.2.1 (b1.extBut _ _ m.1 q))))
  | some y=>
   refine wpAny_bind (drawn j2 u2 hy fun g4 k2 b4=>wpAny_pure ?_)
   have o4:IsPair g4 TO x b:=b4.extBut _ _ TOi2 o3'
   refine wpAny_bind (wpAny_seqItems o4 rfl (wpAny_bind (wpAny_updateSeq_pair o4 fun g5 o5 b5=>wpAny_bind (wpAny_letGo (wpAny_pure (wpAny_pure ?_))))))
   have o5':IsPair g5 TO x y:=o5
   refine wpAny_bind (wpAny_seqItems o5' rfl (wpAny_bind (wpAny_newTuple ?_)))
   have sz:g5.objs.size=s.heap.objs.size:=by rw [b5.1,b4.1,b3.1,b2.1,b1.1]
   have z5:IsZip g5 z TI TO .ellipsis:=b5.extBut _ _ TOz.symm (b4.extBut _ _ i2z.symm (b3.extBut _ _ TOz.symm (b2.extBut _ _ i1z.symm z1')))
   have zl:g5.objs.size≠z:=Nat.ne_of_gt (Heap.lt_size z5)
   show wpAny _ _ (Builtin.SmallTypes.ownedTupleHandOut (.ref z) (.ref g5.objs.size) >>= fun v=>_) _ _ _
   refine wpAny_bind ?_
   unfold Builtin.SmallTypes.ownedTupleHandOut
   have z6:IsZip (g5.push { cls:=.type "tuple",data:=.seq #[x,y] }) z TI TO .ellipsis:=Heap.get?_push_of_some _ z5
   refine wpAny_bind (wpAny_setField_rec z6 (by simp) fun g7 z7 b7=>?_)
   have z7':IsZip g7 z TI TO (rawInt g5.objs.size):=z7
   refine wpAny_setField_rec z7' (by simp) fun g8 z8 b8=>?_
   have z8':IsZip g8 z TI TO (rawInt g5.objs.size):=z8
   have up:∀ c o,c≠z→g5.get? c=some o→g8.get? c=some o:=fun c o n q=>b8.extBut _ _ n (b7.extBut _ _ n (Heap.get?_push_of_some _ q))
   have new:IsPair g8 g5.objs.size x y:=b8.extBut _ _ zl (b7.extBut _ _ zl (Heap.get?_push_size _ rfl))
   rw [sz] at z8' new
   have r1:g5.IsTupleIter i1 l1 (k + 1):=((i2'.extBut b3.extBut TOi1.symm).extBut b4.extBut i12).extBut b5.extBut TOi1.symm
   have r2:g5.IsTupleIter i2 l2 (k + 1):=k2.extBut b5.extBut TOi2.symm
   refine wpAny_pure ?_
   show Q (.done (.ret (.ref g5.objs.size))) _
   rw [sz]
   refine hQ x y g8 hx hy z8' (up _ _ TOz o5') (r1.at fun o q=>up _ o i1z q) (r2.at fun o q=>up _ o i2z q) new fun c o m q=>?_
   simp only [List.mem_cons,List.not_mem_nil,or_false,not_or] at m
   exact up c o m.1 (b5.extBut _ _ m.2.1 (b4.extBut _ _ m.2.2.2 (b3.extBut _ _ m.2.1 (b2.extBut _ _ m.2.2.1 (b1.extBut _ _ m.1 q)))))
end
end Zt
namespace Zt
section
variable {prog:Program}{w:World}{A:Around}{E:Value→Shared→Prop}{s:Shared}
theorem next {z TI TO i1 i2 l1 l2:Addr}{k:Nat}{xs ys:Array Value}{a b:Value}{Q:Option Value→Shared→Prop} (D:ZipApart z TI TO i1 i2 l1 l2)
  (hz:IsZip s.heap z TI TO .none) (hTI:IsPair s.heap TI (.ref i1) (.ref i2)) (hTO:IsPair s.heap TO a b)
  (h1:s.heap.IsTupleIter i1 l1 k) (h2:s.heap.IsTupleIter i2 l2 k) (t1:s.heap.IsTuple l1 xs) (t2:s.heap.IsTuple l2 ys)
  (hQ:∀ x y h',xs[k]? = some x→ys[k]? = some y→IsZip h' z TI TO (rawInt s.heap.objs.size)→IsPair h' TO x y→h'.IsTupleIter i1 l1 (k + 1)→h'.IsTupleIter i2 l2 (k + 1)→IsPair h' s.heap.objs.size x y →
   (∀ c o,c∉[z,TO,i1,i2]→s.heap.get? c=some o→h'.get? c=some o)→Q (some (.ref s.heap.objs.size)) { s with heap:=h' })
  (hE:(xs[k]? = none∨ys[k]? = none)→A.handled=none∧∀ h',(∀ c o,c∉[z,TO,i1,i2]→s.heap.get? c=some o→h'.get? c=some o)→Q none { s with heap:=h' }) :
  wpAny (model prog w) A (pyNext (.ref z)) Q E s:=by
 have ty:s.TypeIs (.ref z) "zip":=⟨_,hz,rfl⟩
 unfold pyNext
 refine wpAny_bind (wpAny_attempt (wpAny_callSpecial?_slot (name:=Str.ofString "__next__") ty F.slot_zip_next (wpAny_call_entry F.slot_zip_next ty F.entry_zip_next (step D hz hTI hTO h1 h2 t1 t2 ?_ ?_) (F.args_zip_next_1 _))))
 ·exact fun x y h' e1 e2 a1 a2 a3 a4 a5 a6=>⟨_,rfl,wpAny_pure (hQ x y h' e1 e2 a1 a2 a3 a4 a5 a6)⟩
 ·intro en
  obtain ⟨hh,fin⟩:=hE en
  exact ⟨hh,fun h' e kp ⟨o,ho,hc⟩=>wpAny_bind (wpAny_isInstance (T:="StopIteration") (b:=true) ⟨o,ho,hc⟩ isSubtype_stop (wpAny_pure (fin _ kp)))⟩
end
end Zt
def Itzt (K:PySem.W.Frag) (l1 l2:Addr):It:=
  ⟨fun i H=>∃ xs ys x y,SqT K H l1 xs∧SqT K H l2 ys∧xs[i]? = some x∧ys[i]? = some y,
   fun i H v H'=>∃ T a b,H T=none∧v=.ref T∧H'=upd H T (.tup [a,b])∧(∀ xs,SqT K H l1 xs→xs[i]? = some a)∧∀ ys,SqT K H l2 ys→ys[i]? = some b,
   fun i H=>∃ xs ys,SqT K H l1 xs∧SqT K H l2 ys∧(xs.length≤i∨ys.length≤i),false⟩
def ZtSt (z TI TO i1 i2 l1 l2:Addr) (i:Nat) (h:Heap):Prop:=IsZip h z TI TO .none∧IsPair h TI (.ref i1) (.ref i2)∧(∃ a b,IsPair h TO a b)∧h.IsTupleIter i1 l1 i∧h.IsTupleIter i2 l2 i
theorem turn_zipT {P:Program}{w:World}{K:PySem.W.Frag}{elts:List Expr} {x1}{pos:Pos}{z TI TO i1 i2 l1 l2:Addr} (D:ZipApart z TI TO i1 i2 l1 l2) :
  Turn P w K (.Tuple elts x1 pos) (Itzt K l1 l2) [z,TI,TO,i1,i2] z (ZtSt z TI TO i1 i2 l1 l2) where
 mem:=by simp
 obj:=fun i h st b hb=>by
  obtain ⟨s1,s2,⟨a,b',s3⟩,⟨o4,e4,c4,d4⟩,⟨o5,e5,c5,d5⟩⟩:=st
  simp only [List.mem_cons,List.not_mem_nil,or_false] at hb
  rcases hb with rfl | rfl | rfl | rfl | rfl
  ·exact ⟨_,s1,fun v q=>by cases q⟩
  ·exact ⟨_,s2,fun v q=>by cases q⟩
  ·exact ⟨_,s3,fun v q=>by cases q⟩
  ·exact ⟨o4,e4,fun v q=>by rw [d4] at q;cases q⟩
  ·exact ⟨o5,e5,fun v q=>by rw [d5] at q;cases q⟩
 keep:=fun i h h' st k=>by
  obtain ⟨s1,s2,⟨a,b',s3⟩,s4,s5⟩:=st
  exact ⟨k _ (by simp) _ s1,k _ (by simp) _ s2,⟨a,b',k _ (by simp) _ s3⟩,s4.at fun o e=>k _ (by simp) o e,s5.at fun o e=>k _ (by simp) o e⟩
 item:=by
  intro X hP hw hK hc i pins s σ H E I hf st hg
  subst hP hw hK
  obtain ⟨s1,s2,⟨a,b',s3⟩,s4,s5⟩:=st
  obtain ⟨xs,ys,x,y,q1,q2,e1,e2⟩:=hg
  obtain ⟨us,v1,p1,z1⟩:=I.tuple q1
  obtain ⟨ws,v2,p2,z2⟩:=I.tuple q2
  obtain ⟨u,hu,ru⟩:=v1.get e1
  obtain ⟨t,ht,rt⟩:=v2.get e2
  refine Zt.next D s1 s2 s3 s4 s5 (show s.heap.IsTuple l1 us.toArray from p1) (show s.heap.IsTuple l2 ws.toArray from p2) (fun u' t' h' f1 f2 a1 a2 a3 a4 a5 a7=>⟨_,rfl,?_⟩) fun z=>?_
  ·have f1':us[i]? = some u':=by simpa using f1
   have f2':ws[i]? = some t':=by simpa using f2
   rw [hu] at f1'
   rw [ht] at f2'
   cases f1'
   cases f2'
   refine wpAny_letOwnedTupleGo_zip a1 fun h'' b1 b2=>?_
   have lz:z < s.heap.objs.size:=Heap.lt_size s1
   have nz:s.heap.objs.size≠z:=Nat.ne_of_gt lz
   have T2:IsPair h'' s.heap.objs.size u t:=b2.extBut _ _ nz a5
   have nT:H s.heap.objs.size=none:=I.hok.fresh (Nat.le_refl _)
   have I1:Inv X pins σ (upd H s.heap.objs.size (.tup [x,y])) { s with heap:=h'' }:=I.turnNew (t':=s.toks) (ch:=[z,TO,i1,i2]) (fun b m=>hf b (by
     simp only [List.mem_cons,List.not_mem_nil,or_false] at m ⊢
     rcases m with rfl | rfl | rfl | rfl <;> simp)) (fun b o m e=>b2.extBut _ _ (fun q=>m (by rw [q];exact List.mem_cons_self)) (a7 b o m e)) (Nat.le_refl _)
     (show ObjOk X.prog X.w _ h'' _ (.tup [x,y]) from ⟨show 2≤sizeLine by unfold sizeLine;omega,[u,t],.cons ru (.cons rt .nil),⟨_,T2,rfl,rfl,_,rfl⟩⟩)
   refine ⟨.ref s.heap.objs.size,_,I1,rfl,⟨_,x,y,nT,rfl,rfl,fun xs' h=>by rw [I.tuple_inj h q1];exact e1,fun ys' h=>by rw [I.tuple_inj h q2];exact e2⟩,?_,fun b m=>?_⟩
   ·have up:∀ c o,c≠z→h'.get? c=some o→h''.get? c=some o:=fun c o n e=>b2.extBut _ _ n e
    exact ⟨b1,up _ _ D.TIz (a7 TI _ (by simp [D.TIz,D.TITO,D.TIi1,D.TIi2]) s2),⟨u,t,up _ _ D.TOz a2⟩,a3.at fun o e=>up _ o D.i1z e,a4.at fun o e=>up _ o D.i2z e⟩
   ·rw [upd_ne]
    ·exact (hf b m).1
    ·rintro rfl
     obtain ⟨o4,e4,_⟩:=id s4
     obtain ⟨o5,e5,_⟩:=id s5
     simp only [List.mem_cons,List.not_mem_nil,or_false] at m
     rcases m with m | m | m | m | m
     ·exact nz m
     ·exact absurd (Heap.lt_size s2) (by rw [← m];exact Nat.lt_irrefl _)
     ·exact absurd (Heap.lt_size s3) (by rw [← m];exact Nat.lt_irrefl _)
     ·exact absurd (Heap.lt_size e4) (by rw [← m];exact Nat.lt_irrefl _)
     ·exact absurd (Heap.lt_size e5) (by rw [← m];exact Nat.lt_irrefl _)
  ·have z1:us[i]? = none∨ws[i]? = none:=by simpa using z
   rw [hu,ht] at z1
   rcases z1 with z1 | z1 <;> cases z1
 done:=by
  intro X hP hw hK hc i pins s σ H E I hf st hg
  subst hP hw hK
  obtain ⟨s1,s2,⟨a,b',s3⟩,s4,s5⟩:=st
  obtain ⟨xs,ys,q1,q2,e⟩:=hg
  obtain ⟨us,v1,p1,z1⟩:=I.tuple q1
  obtain ⟨ws,v2,p2,z2⟩:=I.tuple q2
  have l1:=v1.length
  have l2:=v2.length
  refine Zt.next D s1 s2 s3 s4 s5 (show s.heap.IsTuple _ us.toArray from p1) (show s.heap.IsTuple _ ws.toArray from p2) (fun u' t' h' f1 f2=>?_) fun _=>⟨I.ok.hd (hc.resolve_right fun z=>Bool.false_ne_true z),fun h' k=>⟨rfl,I.turnL (t':=s.toks) (ch:=[z,TO,i1,i2]) (fun b m=>hf b (by
    simp only [List.mem_cons,List.not_mem_nil,or_false] at m ⊢
    rcases m with rfl | rfl | rfl | rfl <;> simp)) k⟩⟩
  have g1:=(List.getElem?_eq_some_iff.mp (show us[i]? = some u' by simpa using f1)).1
  have g2:=(List.getElem?_eq_some_iff.mp (show ws[i]? = some t' by simpa using f2)).1
  omega
 self:=fun _ _ _ _ _ st h=>wpAny_pyIter_zip st.1 h
end L2
namespace L2.Ev
open PySem PySem.Spec PyProof.Rows
section
variable {X:Cx}{elts:List Expr}{tp:Pos}{a b:Expr}{fa fb:EF}{p pos:Pos}
def oIsiB (T:String):D→Option D
 | .tup _=>some (.bl ("tuple" == T))
 | .fls _=>some (.bl ("list" == T))
 | d=>oIsi T d
def isiOkB (T:String):Prop:=∀ (K:PySem.W.Frag) (t:String),t∈["tuple","list"]→PySem.W.kitOne K (.type t) (.type T)=some (t == T)
theorem isiB_tuple:isiOkB "tuple":=by
 intro K t m
 simp only [List.mem_cons,List.not_mem_nil,or_false] at m
 rcases m with rfl | rfl <;> rfl
theorem call_isiB (T:String):CallR X (.builtin "isinstance") (fun xs H Q=>(∃ x t b,xs=[x,V.ty T]∧TyOf X.K H x t∧PySem.W.kitOne X.K t (.type T)=some b∧Q (.bl b) H) ∨
  (∃ a ys b,xs=[.ref a,V.ty T]∧SqT X.K H a ys∧PySem.W.kitOne X.K (.type "tuple") (.type T)=some b∧Q (.bl b) H)∨(∃ a ys b,xs=[.ref a,V.ty T]∧SqL X.K H a ys∧PySem.W.kitOne X.K (.type "list") (.type T)=some b∧Q (.bl b) H)):=by
 intro pins s σ H xs us Q I r h
 rcases h with h | ⟨a,ys,bb,rfl,hq,e,q⟩ | ⟨a,ys,bb,rfl,hq,e,q⟩
 ·exact call_isi T pins s σ H xs us Q I r h
 ·obtain ⟨u,w',rfl,ru,rw'⟩:=vals2 r
  cases rw'
  cases (show u=Value.ref a from ru)
  obtain ⟨its,_,⟨o,h1,h2,_⟩,_⟩:=I.tuple hq
  exact PySem.W.kia_one PySem.W.kitx_tuple I.kIn ⟨o,h1,h2⟩ e (fun z=>nomatch z) fun tk=>⟨.bl bb,H,I.tok tk,rfl,q⟩
 ·obtain ⟨u,w',rfl,ru,rw'⟩:=vals2 r
  cases rw'
  cases (show u=Value.ref a from ru)
  obtain ⟨its,_,⟨o,n,h1,h2,_⟩,_⟩:=I.list hq
  exact PySem.W.kia_one PySem.W.kitx_list I.kIn ⟨o,h1,h2⟩ e (fun z=>nomatch z) fun tk=>⟨.bl bb,H,I.tok tk,rfl,q⟩
theorem fp_isiB {T:String}{x:Str}{p p2:Pos} (hT:isiOk T) (hTB:isiOkB T) (hm:X.mg "isinstance"=none) (hmT:X.mg x=none) (ha:FP X a fa) (hbT:bootBuiltins x=some (.type T):=by decide +kernel) (hg:Gl X "isinstance":=by rfl) (hgT:Gl X x:=by rfl) (hn:x≠"__name__":=by decide) (hdb:(x == ("__debug__":Str))=false:=by decide)
  (hs:starEach [a,.Name x p2] X.env=[(false,eval a X.env),(false,eval (.Name x p2) X.env)]:=by rfl) (hpl:(backTo pos (starEach [.Name x p2] X.env)).any (·.1)=false:=by rfl):FP X (.Call (.Name "isinstance" p) [a,.Name x p2] [] pos) (e1 (oIsiB T) fa):=by
 obtain ⟨ta,pa,sa⟩:=ha
 have hs2:starEach [.Name x p2] X.env=[(false,eval (.Name x p2) X.env)]:=rfl
 refine ⟨_,pe_callB (call_isiB T) hg hm (show bootBuiltins "isinstance"=some (.builtin "isinstance") by decide +kernel) (pa_cons pa (pa_cons (pe_bltn (v:=.ty T) hgT hmT hbT rfl hn hdb) pa_nil) (by rw [hs,hs2])) (he:=by rw [hs,hs2]) (hpl:=hpl),fun H0 S z held ρ σ H Q d tg ok e k=>?_⟩
 obtain ⟨d1,t1,h1,h2,rfl⟩:=e1_of e
 refine sa H0 S z held ρ σ H _ d1 t1 ok h1 fun H1 v fp s1 r1 _=>?_
 unfold oIsiB at h2
 split at h2
 ·cases h2
  obtain ⟨w,xs,rfl,hq,_⟩:=r1.tup_of
  exact .inr (.inl ⟨w,xs,_,rfl,hq,hTB X.K "tuple" (by decide),k H1 _ [] s1 (.bl _) .nil⟩)
 ·cases h2
  obtain ⟨w,xs,rfl,hq,_⟩:=r1.fls_of
  exact .inr (.inr ⟨w,xs,_,rfl,hq,hTB X.K "list" (by decide),k H1 _ [] s1 (.bl _) .nil⟩)
 ·unfold oIsi at h2
  cases ht:tyD d1 with
  | none=>rw [ht] at h2;cases h2
  | some t=>
   rw [ht] at h2
   cases h2
   obtain ⟨ty,mem⟩:=r1.ty ht
   exact .inl ⟨v,_,_,rfl,ty,hT X.K t mem,k H1 _ [] s1 (.bl _) .nil⟩
end
section
variable {X:Cx}{a b e:Expr}{fa fb fv:EF}{fx:XF}{pos:Pos}
def KitTs (K:PySem.W.Frag) (T:List (Str×Bool)) (cs:List Addr):Prop:=∀ cn b C,T.lookup cn=some b→PySem.W.nsIn K mainGlobals cn=some (some (.ref C))→ExcKit K C∧PySem.W.kitAny K (.ref C) (cs.map Value.ref)=some b
theorem vals_refs:∀ {cs:List Addr}{us:List Value},Vals (cs.map V.ref) us→us=cs.map Value.ref
 | [],_,.nil=>rfl
 | c::cs,_,.cons r t=>by rw [vals_refs t];cases r;rfl
theorem call_isiET {cs:List Addr}:CallR X (.builtin "isinstance") (fun xs H Q=>∃ a C l b de ob,xs=[V.ref a,V.ref l]∧H l=some (.tup (cs.map V.ref))∧H a=some (ExcF ob a (.ref C) de)∧ExcKit X.K C∧PySem.W.kitAny X.K (.ref C) (cs.map Value.ref)=some b∧Q (.bl b) H):=by
 intro pins s σ H xs us Q I r h
 obtain ⟨a,C,l,bb,de,ob,rfl,hl,ha,k,e,q⟩:=h
 obtain ⟨u,w',rfl,ru,rw'⟩:=vals2 r
 cases (show u=Value.ref a from ru)
 cases (show w'=Value.ref l from rw')
 obtain ⟨_,its,rv,o,ho,hc,hd,n,hdat⟩:=(show (cs.map V.ref).length≤sizeLine∧∃ its:List Value,Vals (cs.map V.ref) its∧PlainT s.heap l its.toArray from I.hok l _ hl)
 have:=vals_refs rv
 subst this
 obtain ⟨cl,dd,dat,sl⟩:=o
 cases hc
 cases hdat
 exact PySem.W.kia_tup (kitx_exc k) I.kIn (excF_get I.hok ha) ho e (fun z=>nomatch z) fun tk=>⟨.bl bb,H,I.tok tk,rfl,q⟩
theorem fp_isET {T:List (Str×Bool)}{cs:List Addr}{es:List Expr}{ta:TA}{p p2:Pos} {x1} (hT:KitTs X.K T cs) (hm:X.mg "isinstance"=none) (ha:FP X a fa) (pc:PA X es ta) (hta:∀ (σ:St) (H:Hp) (Q:List V→Hp→Prop),Q (cs.map V.ref) H→ta σ H Q) (hlen:cs.length≤1000) (hg:Gl X "isinstance":=by rfl)
  (hs:starEach [a,.Tuple es x1 p2] X.env=[(false,eval a X.env),(false,eval (.Tuple es x1 p2) X.env)]:=by rfl) (hpl:(backTo pos (starEach [.Tuple es x1 p2] X.env)).any (·.1)=false:=by rfl):FP X (.Call (.Name "isinstance" p) [a,.Tuple es x1 p2] [] pos) (e1 (oIsE T) fa):=by
 obtain ⟨t,pa,sa⟩:=ha
 have hs2:starEach [.Tuple es x1 p2] X.env=[(false,eval (.Tuple es x1 p2) X.env)]:=rfl
 refine ⟨_,pe_callB (call_isiET (cs:=cs)) hg hm (show bootBuiltins "isinstance"=some (.builtin "isinstance") by decide +kernel) (pa_cons pa (pa_cons (pe_tup pc) pa_nil) (by rw [hs,hs2])) (he:=by rw [hs,hs2]) (hpl:=hpl),fun H0 S z held ρ σ H Q d tg ok e k=>?_⟩
 obtain ⟨d1,t1,h1,h2,rfl⟩:=e1_of e
 refine sa H0 S z held ρ σ H _ d1 t1 ok h1 fun H1 v fp s1 r1 _=>?_
 refine hta σ H1 _ ⟨by rw [List.length_map];exact Nat.le_of_lt (small1000 hlen),fun l hl=>?_⟩
 have s2:Same H1 (upd H1 l (.tup (cs.map V.ref))):=fun b o e=>by rw [upd_ne (ne_of_none e hl)];exact e
 unfold oIsE at h2
 split at h2
 ·rename_i cn
  cases hlk:T.lookup cn.1 with
  | none=>rw [hlk] at h2;cases h2
  | some b=>
   rw [hlk] at h2
   cases h2
   cases r1 with
   | @exc _ a' C de ob hn ho _=>
    obtain ⟨kk,ke⟩:=hT cn.1 b C hlk hn
    exact ⟨a',C,l,b,de,ob,rfl,upd_same,s2 _ _ ho,kk,ke,k _ _ [] (s1.trans s2) (.bl _) .nil⟩
 ·cases h2
end
section
variable {X:Cx}{pos:Pos}
def eLstI (g:AF):EF:=fun ρ=>(g ρ).bind fun ps=>if immAll (ps.map (·.1))=true then some (.lst (ps.map (·.1)),.own) else none
theorem fp_lstI {es:List Expr}{g:AF} (h:FA X es g) (hl:es.length≤1000:=by decide):FP X (.List es pos) (eLstI g):=by
 obtain ⟨t,p,hg,q⟩:=h
 refine ⟨_,pe_lst p,fun H0 S z held ρ σ H Q d tg ok e k=>?_⟩
 unfold eLstI at e
 cases h1:g ρ with
 | none=>rw [h1] at e;cases e
 | some ps=>
  rw [h1,Option.bind_some] at e
  by_cases hi:immAll (ps.map (·.1))=true
  ·rw [if_pos hi] at e
   cases e
   refine q H0 S z held ρ σ H _ ps ok h1 fun H1 vs fp s1 r1 g1=>⟨?_,fun a ha=>?_⟩
   ·rw [← r1.length,List.length_map,hg ρ ps h1]
    exact Nat.le_of_lt (small1000 hl)
   ·have hn:=r1.imm hi
    subst hn
    have s2:Same H1 (upd H1 a (.lst vs)):=fun b o e=>by rw [upd_ne (ne_of_none e ha)];exact e
    refine k _ _ [a] (s1.trans s2) (.lst upd_same (r1.same s2)) ⟨List.nodup_cons.mpr ⟨(fun m=>by cases m),List.nodup_nil⟩,fun b m=>?_⟩
    cases List.mem_singleton.mp m
    exact s1.free ha
  ·rw [if_neg hi] at e;cases e
end
end L2.Ev
namespace L2.Ev
open PySem PySem.W
section
variable {P:Program}{w:World}{K:Frag}{h base:Heap}{mg:Str→Option Value}{CX:CXT}{k:Nat}{x:Str}{st:Stmt}{ps:List Str}{sp:Sp}{cm:Bool}
theorem fnWr (X:K.In h) (G:h.Ns mainGlobals mg) (l:GFn K x st) (ok:∀ {f:Addr}{fd:FuncData},mg x=some (.ref f)→keepIn K (.ref f)=true→Binds K fd ps []→Fun K x x st f fd→FnOk P w K mg base CX k f fd ps sp cm) (b:BA x x st ps):FN P w K mg base CX k x ps sp cm:=by
 obtain ⟨f,a,l⟩:=l
 obtain ⟨kp,fd,F⟩:=gl_fun l
 exact ⟨f,fd,ok (mg_of X G a) kp (F.binds b) F,mg_of X G a,kp,F.binds b⟩
end
theorem kitTs_nil {K:Frag}{cs:List Addr}:KitTs K [] cs:=fun _ _ _ h _=>by cases h
theorem kitTs_cons {K:Frag}{cn:Str}{C:Addr}{cs:List Addr}{b:Bool}{T:List (Str×Bool)} (n:nsIn K mainGlobals cn=some (some (.ref C))) (k:ExcKit K C) (e:kitAny K (.ref C) (cs.map Value.ref)=some b) (r:KitTs K T cs):KitTs K ((cn,b)::T) cs:=fun cn' b' C' h hn=>by
 rw [List.lookup_cons] at h
 by_cases q:cn' == cn
 ·rw [q] at h
  cases h
  have e':=beq_iff_eq.mp q
  subst e'
  rw [n] at hn
  cases hn
  exact ⟨k,e⟩
 ·rw [Bool.eq_false_iff.mpr q] at h
  exact r cn' b' C' h hn
theorem kitAny_nil {K:Frag}{t:Value}:kitAny K t (([]:List Addr).map Value.ref)=some false:=rfl
theorem kitAny_f {K:Frag}{t:Value}{c:Addr}{cs:List Addr}{b:Bool} (h:kitOne K t (.ref c)=some false) (r:kitAny K t (cs.map Value.ref)=some b):kitAny K t ((c::cs).map Value.ref)=some b:=by
 rw [List.map_cons];unfold kitAny;rw [h];exact r
end L2.Ev
namespace L2
open PySem PySem.Spec PyProof.Rows L2.SetT
section
variable {X:Cx}
theorem call_intB:CallR X (.type "int") (fun xs H Q=>∃ b,xs=[V.bl b]∧Q (.int (if b then 1 else 0)) H):=by
 intro pins s σ H xs us Q I r h
 obtain ⟨b,rfl,q⟩:=h
 obtain ⟨u,rfl,ru⟩:=vals1 r
 cases ru
 exact call_int_bool ⟨.int _,H,I.tok _,⟨_,rfl⟩,q⟩
end
end L2
namespace L2.Ev
open PySem PySem.Spec PyProof.Rows L2.SetT
section
variable {X:Cx}{a b e:Expr}{fa fb fv:EF}{p p1 p2 p3 pos:Pos}
def oIntB:D→Option D
 | .bl b=>some (.int (if b then 1 else 0))
 | _=>none
theorem does_intB {K:PySem.W.Frag}:Does1 K (fun xs H Q=>∃ b,xs=[V.bl b]∧Q (.int (if b then 1 else 0)) H) oIntB:=by
 intro H x d1 f1 d Q r e k
 cases d1 <;> try (cases e;done)
 cases e
 cases r
 exact ⟨_,rfl,k H _ [] (Same.refl H) (.int _) List.nodup_nil fun a m=>nomatch m⟩
theorem fp_intB (hm:X.mg "int"=none) (ha:FP X a fa) (hg:Gl X "int":=by rfl) (hs:starEach [a] X.env=[(false,eval a X.env)]:=by rfl):FP X (.Call (.Name "int" p) [a] [] pos) (e1 oIntB fa):=
 fp_1 does_intB ha fun ta pa=>pe_callTy call_intB hg hm (show bootBuiltins "int"=some (.type "int") by decide +kernel) (pa_cons pa pa_nil hs) (he:=hs) (hpl:=rfl)
end
end L2.Ev
namespace L2
open PySem PySem.Spec PyProof.Rows Builtin Builtin.Str
section
variable {prog:Program}{w:World}{A:Around}{E:Value→Shared→Prop}{s:Shared}{x y:Str}{t u:Tok}{Q:Value→Shared→Prop}
def strList (h:Heap) (l:List (Str×Tok)):Heap:=h.push { cls:=.type "list",data:=.seq (strValues l).toArray }
theorem call_split1 (hy:(y.length == 0)=false) (hq:∀ l k,l.map (·.1)=Txt.split x y→Q (.ref s.heap.objs.size) { s with toks:=k,heap:=strList s.heap l })
  (hsz:x.length≤sizeLine) (hsz2:(partsBetween x (occurrences x y 0 x.length (x.length + 1)) y.length).length≤sizeLine) :
  wpAny (model prog w) A (call (.builtin "str.split") [.str x t,.str y u]) Q E s:=by
 cases h1:(decide (x.length < y.length)||decide (strKind x < strKind y))
 ·cases hf:(occurrences x y 0 x.length (x.length + 1)).isEmpty
  ·refine call_meets F.slot_str_split (typeIs_str _ _ _) F.entry_str_split (F.args_str_split_2 _ _) (meets_str_split_sep x y t u h1 hy hf hsz hsz2) ?_
   show wants Q E _ { s with toks:=_,heap:=s.heap.push { cls:=.type "list",data:=.seq (strsFrom s.toks (partsBetween x (occurrences x y 0 x.length (x.length + 1)) y.length)).toArray } }
   rw [strsFrom_eq]
   exact hq (numbered s.toks _) _ ((numbered_texts _ _).trans ((if_neg (ne_true_of_eq_false h1)).trans (if_neg (ne_true_of_eq_false hf))).symm)
  ·exact call_meets F.slot_str_split (typeIs_str _ _ _) F.entry_str_split (F.args_str_split_2 _ _) (meets_str_split_not_found x y t u h1 hy hf)
    (hq [(x,t)] _ ((if_neg (ne_true_of_eq_false h1)).trans (if_pos hf)).symm)
 ·exact call_meets F.slot_str_split (typeIs_str _ _ _) F.entry_str_split (F.args_str_split_2 _ _) (meets_str_split_cannot_occur x y t u h1)
   (hq [(x,t)] _ (if_pos h1).symm)
theorem parts_len:(partsBetween x (occurrences x y 0 x.length (x.length + 1)) y.length).length≤x.length + 2:=by
 have h:=StrLaws.occ_length_le x y 0 x.length (x.length + 1)
 unfold partsBetween
 rw [List.length_map,List.length_zip]
 simp only [List.length_cons,List.length_map,List.length_append,List.length_nil]
 omega
theorem split_len:(Txt.split x y).length≤x.length + 2:=by
 unfold Txt.split
 split
 ·simp
 ·split
  ·simp
  ·exact parts_len
theorem vals_str:∀ {l:List (Str×Tok)}{ts:List Str},l.map (·.1)=ts→Vals (ts.map V.str) (strValues l)
 | [],_,e=>by subst e;exact .nil
 | (x,t)::r,_,e=>by subst e;exact .cons ⟨t,rfl⟩ (vals_str rfl)
theorem str_vals:∀ {ts:List Str}{us:List Value},Vals (ts.map V.str) us→∃ l:List (Str×Tok),us=strValues l∧l.map (·.1)=ts
 | [],us,h=>by cases h;exact ⟨[],rfl,rfl⟩
 | x::r,us,h=>by
  cases h with
  | cons h1 h2=>
   obtain ⟨t,rfl⟩:=h1
   obtain ⟨l,rfl,e⟩:=str_vals h2
   exact ⟨(x,t)::l,rfl,by rw [List.map_cons,e]⟩
end
section
variable {X:Cx}
def rSplit:V→List V→Hp→VK→Prop:=fun x vs H Q=>∃ i y,x=.str i∧vs=[.str y]∧(y.length == 0)=false∧i.length≤100000∧∀ l,H l=none→Q (.ref l) (upd H l (.lst ((Txt.split i y).map V.str)))
theorem mt_split:MtR X "str.split" rSplit:=by
 intro pins s σ H x vs v us Q I rx rv h
 obtain ⟨i,y,rfl,rfl,hy,hl,q⟩:=h
 obtain ⟨t,rfl⟩:=rx
 obtain ⟨u,rfl,ru⟩:=vals1 rv
 obtain ⟨t2,rfl⟩:=ru
 have hp:=parts_len (x:=i) (y:=y)
 refine call_split1 hy (fun l k e=>?_) (by rw [sizeLine_eq];omega) (by rw [sizeLine_eq];omega)
 have hv:=vals_str e
 have hlen:((Txt.split i y).map V.str).length≤sizeLine:=by
  have:=split_len (x:=i) (y:=y)
  rw [List.length_map,sizeLine_eq];omega
 exact ⟨.ref s.heap.objs.size,_,I.lnew hv hlen,rfl,q _ I.fresh⟩
def rJoin (K:PySem.W.Frag):V→List V→Hp→VK→Prop:=fun x vs H Q=>∃ (i:Str) (a:Addr) (ts:List Str),x=.str i∧vs=[.ref a]∧SqL K H a (ts.map V.str)∧JoinOk i ts=true∧Q (.str (Txt.join i ts)) H
theorem mt_join:MtR X "str.join" (rJoin X.K):=by
 intro pins s σ H x vs v us Q I rx rv h
 obtain ⟨i,a,ts,rfl,rfl,hq,ok,q⟩:=h
 obtain ⟨t,rfl⟩:=rx
 obtain ⟨u,rfl,ru⟩:=vals1 rv
 cases ru
 obtain ⟨its,r',pl,hz⟩:=I.list hq
 obtain ⟨l,rfl,e⟩:=str_vals r'
 exact SC.join pl.isList e ok fun t' k=>⟨.str _,H,I.tok _,⟨t',rfl⟩,q⟩
def rStarts:V→List V→Hp→VK→Prop:=fun x vs H Q=>∃ i y,x=.str i∧vs=[.str y]∧Q (.bl (Txt.startswith i y)) H
theorem mt_starts:MtR X "str.startswith" rStarts:=by
 intro pins s σ H x vs v us Q I rx rv h
 obtain ⟨i,y,rfl,rfl,q⟩:=h
 obtain ⟨t,rfl⟩:=rx
 obtain ⟨u,rfl,ru⟩:=vals1 rv
 obtain ⟨t2,rfl⟩:=ru
 exact SC.startswith ⟨.bl _,H,I,rfl,q⟩
theorem call_str1:CallR X (.type "str") (fun xs H Q=>(∃ i,xs=[.int i]∧i.natAbs.log2 < 1920∧Q (.str (toString i)) H)∨∃ x,xs=[.str x]∧Q (.str x) H):=by
 intro pins s σ H xs us Q I r h
 rcases h with ⟨i,rfl,hz,q⟩ | ⟨x,rfl,q⟩
 ·obtain ⟨u,rfl,t,rfl⟩:=vals1 r
  exact PySem.P.str_of_int hz ⟨.str _,H,I.tok _,⟨_,rfl⟩,q⟩
 ·obtain ⟨u,rfl,t,rfl⟩:=vals1 r
  exact PySem.P.str_of_str ⟨.str _,H,I,⟨_,rfl⟩,q⟩
def rIndex (K:PySem.W.Frag):V→List V→Hp→VK→Prop:=fun x vs H Q=>∃ (l:Addr) (ts:List Str) (i:Str) (j:Nat),x=.ref l∧vs=[.str i]∧SqL K H l (ts.map V.str)∧ts[j]? = some i∧(∀ m,m < j→ts[m]?≠some i)∧Q (.int j) H
theorem eqU_str (i y:Str) (t:Tok):eqU (.str i) (.str y t)=(y == i):=rfl
theorem mt_index:MtR X "list.index" (rIndex X.K):=by
 intro pins s σ H x vs v us Q I rx rv h
 obtain ⟨l,ts,i,j,rfl,rfl,hq,hj,hno,q⟩:=h
 cases rx
 obtain ⟨u,rfl,ru⟩:=vals1 rv
 obtain ⟨t,rfl⟩:=ru
 obtain ⟨its,r,pl,hz⟩:=I.list hq
 have hlen:=r.length
 rw [List.length_map] at hlen hz
 obtain ⟨o,ho,hc,n,hd⟩:=pl.isList
 obtain ⟨c,dd,da,sl⟩:=o
 cases hc
 cases hd
 have hjl:=(List.getElem?_eq_some_iff.mp hj).1
 have hat:∀ (m:Nat) (hm:m < its.toArray.size),∃ y t',ts[m]? = some y∧its.toArray[m]=.str y t':=fun m hm=>by
  have hm':m < ts.length:=by simp at hm;omega
  obtain ⟨w,hw,rw'⟩:=r.get (i:=m) (x:=.str ts[m]) (by rw [List.getElem?_map,List.getElem?_eq_getElem hm'];rfl)
  obtain ⟨t',rfl⟩:=rw'
  refine ⟨ts[m],t',List.getElem?_eq_getElem hm',?_⟩
  have:=(List.getElem?_eq_some_iff.mp hw).2
  simpa using this
 have hsz:j < its.toArray.size:=by simp;omega
 refine call_meets F.slot_list_index ⟨_,ho,rfl⟩ F.entry_list_index (F.args_list_index_2 _ _) (SeqAt.list_indexAt l its.toArray n dd sl (.str i t) (eqU (.str i)) j hsz (by rw [sizeLine_eq] at hz;omega) ?_ (fun m hm hlt=>?_)) ⟨ho,fun w hw=>mem_eqAt (x:=.str i) (v:=.str i t) ⟨t,rfl⟩ rfl r (by rw [List.all_map];exact List.all_eq_true.mpr fun _ _=>rfl) w (by simpa using hw),⟨.int j,H,I.tok _,⟨_,rfl⟩,q⟩⟩
 ·obtain ⟨y,t',h1,h2⟩:=hat j hsz
  rw [h2,eqU_str]
  rw [hj] at h1
  cases h1
  exact beq_self_eq_true _
 ·obtain ⟨y,t',h1,h2⟩:=hat m hm
  rw [h2,eqU_str]
  refine Bool.eq_false_iff.mpr fun e=>hno m hlt ?_
  rw [h1,eq_of_beq e]
theorem call_intS:CallR X (.type "int") (fun xs H Q=>∃ (x:Str) (n:Int),xs=[.str x]∧x.length≤640∧PySem.intText? x=some n∧Q (.int n) H):=by
 intro pins s σ H xs us Q I r h
 obtain ⟨x,n,rfl,hl,hn,q⟩:=h
 obtain ⟨u,rfl,t,rfl⟩:=vals1 r
 exact PySem.W.KIN.call_text hn hl ⟨.int _,H,I.tok _,⟨_,rfl⟩,q⟩
end
def Its (x:Str):It:=⟨fun i _=>i < x.cps.size,fun i H v H'=>H'=H∧∃ c,x.cps[i]? = some c∧v=.str ⟨#[c]⟩,fun i _=>x.cps.size≤i,false⟩
theorem turn_str {P:Program}{w:World}{K:PySem.W.Frag}{tg:Expr} (x:Str) (t:Tok) (it:Addr):Turn P w K tg (Its x) [it] it (fun i h=>h.IsStrIter it "str_ascii_iterator" x t i) where
 mem:=by simp
 obj:=fun i h st b hb=>by
  have e:b=it:=by simpa using hb
  subst e
  obtain ⟨o,e,c,d⟩:=st
  exact ⟨o,e,fun v z=>by rw [d] at z;cases z⟩
 keep:=fun i h h' st k=>let ⟨o,ho,r⟩:=st;⟨o,k it (by simp) o ho,r⟩
 item:=by
  intro X hP hw hK hc i pins s σ H E I hf st hg
  subst hP hw hK
  have hi:i < x.cps.size:=hg
  obtain ⟨f0,f1,f2,f3,f4,f5⟩:=hf it (by simp)
  refine wpAny_pyNext_ascii_item st (c:=x.cps[i]) (by simp [hi]) fun h' st' sb=>?_
  have I1:Inv X pins σ H { s with heap:=h',toks:=s.toks + 1 }:=I.turned (fun b o hb e=>(sb.2 b hb).trans e) f0 f1 f3 f4 f5
  obtain ⟨o,e,c,d⟩:=id st'
  exact ⟨_,rfl,go_of (s:={ s with heap:=h',toks:=s.toks + 1 }) e c d (by decide) ⟨.str ⟨#[x.cps[i]]⟩,H,I1,⟨_,rfl⟩,⟨rfl,x.cps[i],by simp [hi],rfl⟩,st',fun b hb=>(hf b hb).1⟩⟩
 done:=by
  intro X hP hw hK hc i pins s σ H E I hf st hg
  subst hP hw hK
  obtain ⟨f0,f1,f2,f3,f4,f5⟩:=hf it (by simp)
  have hi:x.cps.size≤i:=hg
  exact wpAny_pyNext_ascii_end (I.ok.hd (hc.resolve_right fun z=>Bool.false_ne_true z)) st (by simp [hi]) fun h' eb=>⟨rfl,I.turned (t':=s.toks) (fun b o hb e=>eb b o hb e) f0 f1 f3 f4 f5⟩
 self:=fun _ _ _ _ _ st h=>wpAny_pyIter_striter_ascii st h
def iStr (tl:TE):TI:=fun σ H R=>tl σ H fun v H1=>∃ x:Str,v=.str x∧x.cps.all (· < 128)=true∧R (Its x) H1
section
variable {X:Cx}{tg:Expr}
theorem pi_str {l:Expr}{tl:TE} (hl:PE X l tl):PI X tg l (iStr tl):=by
 intro pins s σ H R I h
 refine thn (hl pins s σ H _ I h) fun v s1 ⟨x,H1,I1,r1,q1⟩=>?_
 obtain ⟨a,e,ha,q⟩:=q1
 subst e
 obtain ⟨t,rfl⟩:=r1
 refine wpAny_pyIter_ascii ha ?_
 refine ⟨s1.heap.objs.size,[s1.heap.objs.size],_,_,H1,rfl,I1.kept (t':=s1.toks) fun b o e=>Heap.get?_push_of_some _ e,turn_str a t _,⟨_,Heap.get?_push_size _ rfl,rfl,rfl⟩,fun b hb=>?_,q⟩
 have e:b=s1.heap.objs.size:=by simpa using hb
 subst e
 exact I1.fpOk (Nat.le_refl _) (I1.hok.fresh (Nat.le_refl _))
end
end L2
namespace L2.Ev
open PySem PySem.Spec PyProof.Rows Builtin Builtin.Str
section
variable {X:Cx}{a b:Expr}{fa fb:EF}{p p2 p3 pos:Pos}
def DoesM (K:PySem.W.Frag) (r:V→List V→Hp→VK→Prop) (op:D→D→Option D):Prop:=∀ (H:Hp) (x:Str) (y:V) (d2:D) (f2:List Addr) (d:D) (Q:VK),Rep K H d2 y f2→op (.str x) d2=some d →
 (∀ H' v fp,Same H H'→Rep K H' d v fp→fp.Nodup→(∀ a∈fp,H a=none)→Q v H')→r (.str x) [y] H Q
theorem fp_sm {name:Str}{id:String}{r:V→List V→Hp→VK→Prop}{op:D→D→Option D} (slot:PySem.Slot "str" name id) (hty:typeOf (.builtin id)=pure (.type "method_descriptor")) (hm:MtR X id r) (dd:DoesM X.K r op) (hs1:∀ d1 d2 d,op d1 d2=some d→∃ x,d1=.str x)
  (ha:FP X a fa) (hb:FP X b fb) (hs:starEach [b] X.env=[(false,eval b X.env)]:=by rfl) (hbase:attributeBase a name X.env (eval a X.env)=eval a X.env:=by rfl)
  (hfew:((backTo p3 (starEach [b] X.env)).all (fun x=>!x.1)&&(backToKw p3 (keywordEach [] X.env)).all (fun x=>x.1.isSome)&&decide ([b].length + ([]:List Keyword).length + (if ([]:List Keyword).isEmpty then 0 else 1) < 30))=true:=by rfl)
  (hline:(p2.endLine == p3.line)=true:=by rfl):FP X (.Call (.Attribute a name p2) [b] [] p3) (e2 op fa fb):=by
 obtain ⟨ta,pa,sa⟩:=ha
 obtain ⟨tb,pb,sb⟩:=hb
 refine ⟨_,pe_bm PySem.F.plainAttrs_str slot hty hm pa (pa_cons pb pa_nil hs) hbase hfew hline hs rfl,fun H0 S z held ρ σ H Q d tg ok e k=>?_⟩
 obtain ⟨d1,t1,d2,t2,e1,e2',e3,rfl⟩:=e2_of e
 obtain ⟨i,rfl⟩:=hs1 _ _ _ e3
 refine sa H0 S z held ρ σ H _ _ t1 ok e1 fun H1 x f1 s1 r1 _=>?_
 obtain ⟨rfl,_⟩:=r1.str_of
 refine ⟨rfl,?_⟩
 refine sb H0 S z held ρ σ H1 _ d2 t2 (ok.same s1) e2' fun H2 y f2 s2 r2 _=>?_
 exact dd H2 i y d2 f2 d Q r2 e3 fun H' v fp s3 r3 n1 n2=>k H' v fp ((s1.trans s2).trans s3) r3 ⟨n1,fun b m=>(s1.trans s2).free (n2 b m)⟩
def oSplit:D→D→Option D
 | .str x,.str y=>if (y.length == 0)=false∧x.length≤100000 then some (.lst ((Txt.split x y).map D.str)) else none
 | _,_=>none
theorem does_split {K:PySem.W.Frag}:DoesM K rSplit oSplit:=by
 intro H x y d2 f2 d Q r e k
 cases d2 <;> try (cases e;done)
 rename_i z
 obtain ⟨rfl,_⟩:=r.str_of
 have e:(if (z.length == 0)=false∧x.length≤100000 then some (D.lst ((Txt.split x z).map D.str)) else none)=some d:=e
 by_cases hc:(z.length == 0)=false∧x.length≤100000
 ·rw [if_pos hc] at e
  cases e
  refine ⟨x,z,rfl,rfl,hc.1,hc.2,fun l hl=>?_⟩
  exact k _ _ [l] (Same.new hl) (.lst upd_same (reps_strs _)) (by simp) fun c m=>by cases List.mem_singleton.mp m;exact hl
 ·rw [if_neg hc] at e;cases e
theorem fp_split (ha:FP X a fa) (hb:FP X b fb) (hs:starEach [b] X.env=[(false,eval b X.env)]:=by rfl) (hbase:attributeBase a "split" X.env (eval a X.env)=eval a X.env:=by rfl)
  (hfew:((backTo p3 (starEach [b] X.env)).all (fun x=>!x.1)&&(backToKw p3 (keywordEach [] X.env)).all (fun x=>x.1.isSome)&&decide ([b].length + ([]:List Keyword).length + (if ([]:List Keyword).isEmpty then 0 else 1) < 30))=true:=by rfl)
  (hline:(p2.endLine == p3.line)=true:=by rfl):FP X (.Call (.Attribute a "split" p2) [b] [] p3) (e2 oSplit fa fb):=
 fp_sm PySem.F.slot_str_split PySem.F.type_str_split mt_split does_split (fun d1 d2 d e=>by cases d1 <;> first | exact ⟨_,rfl⟩ | cases e) ha hb hs hbase hfew hline
def oJoin:D→D→Option D
 | .str x,.lst ds=>match strsD ds with
  | some ts=>if JoinOk x ts=true then some (.str (Txt.join x ts)) else none
  | none=>none
 | _,_=>none
theorem does_join {K:PySem.W.Frag}:DoesM K (rJoin K) oJoin:=by
 intro H x y d2 f2 d Q r e k
 cases d2 with
 | lst ds=>
  obtain ⟨a,xs,f,rfl,hq,rs,_⟩:=r.lst_of
  have e:(match strsD ds with | some ts=>if JoinOk x ts=true then some (D.str (Txt.join x ts)) else none | none=>none)=some d:=e
  cases h:strsD ds with
  | none=>rw [h] at e;cases e
  | some ts=>
   rw [h] at e
   dsimp only at e
   by_cases hc:JoinOk x ts=true
   ·rw [if_pos hc] at e
    cases e
    have hx:=strsD_of rs h
    subst hx
    exact ⟨x,a,ts,rfl,rfl,hq,hc,k H _ [] (Same.refl H) (.str _) List.nodup_nil fun a m=>nomatch m⟩
   ·rw [if_neg hc] at e;cases e
 | _=>cases e
theorem fp_join (ha:FP X a fa) (hb:FP X b fb) (hs:starEach [b] X.env=[(false,eval b X.env)]:=by rfl) (hbase:attributeBase a "join" X.env (eval a X.env)=eval a X.env:=by rfl)
  (hfew:((backTo p3 (starEach [b] X.env)).all (fun x=>!x.1)&&(backToKw p3 (keywordEach [] X.env)).all (fun x=>x.1.isSome)&&decide ([b].length + ([]:List Keyword).length + (if ([]:List Keyword).isEmpty then 0 else 1) < 30))=true:=by rfl)
  (hline:(p2.endLine == p3.line)=true:=by rfl):FP X (.Call (.Attribute a "join" p2) [b] [] p3) (e2 oJoin fa fb):=
 fp_sm PySem.F.slot_str_join PySem.F.type_str_join mt_join does_join (fun d1 d2 d e=>by cases d1 <;> first | exact ⟨_,rfl⟩ | cases e) ha hb hs hbase hfew hline
def oStarts:D→D→Option D
 | .str x,.str y=>some (.bl (Txt.startswith x y))
 | _,_=>none
theorem does_starts {K:PySem.W.Frag}:DoesM K rStarts oStarts:=by
 intro H x y d2 f2 d Q r e k
 cases d2 <;> try (cases e;done)
 obtain ⟨rfl,_⟩:=r.str_of
 cases e
 exact ⟨x,_,rfl,rfl,k H _ [] (Same.refl H) (.bl _) List.nodup_nil fun a m=>nomatch m⟩
theorem fp_starts (ha:FP X a fa) (hb:FP X b fb) (hs:starEach [b] X.env=[(false,eval b X.env)]:=by rfl) (hbase:attributeBase a "startswith" X.env (eval a X.env)=eval a X.env:=by rfl)
  (hfew:((backTo p3 (starEach [b] X.env)).all (fun x=>!x.1)&&(backToKw p3 (keywordEach [] X.env)).all (fun x=>x.1.isSome)&&decide ([b].length + ([]:List Keyword).length + (if ([]:List Keyword).isEmpty then 0 else 1) < 30))=true:=by rfl)
  (hline:(p2.endLine == p3.line)=true:=by rfl):FP X (.Call (.Attribute a "startswith" p2) [b] [] p3) (e2 oStarts fa fb):=
 fp_sm PySem.F.slot_str_startswith PySem.F.type_str_startswith mt_starts does_starts (fun d1 d2 d e=>by cases d1 <;> first | exact ⟨_,rfl⟩ | cases e) ha hb hs hbase hfew hline
def oStr:D→Option D
 | .int i=>if i.natAbs < 2 ^ 64 then some (.str (toString i)) else none
 | .str x=>some (.str x)
 | _=>none
theorem does_str {K:PySem.W.Frag}:Does1 K (fun xs H Q=>(∃ i,xs=[.int i]∧i.natAbs.log2 < 1920∧Q (.str (toString i)) H)∨∃ x,xs=[.str x]∧Q (.str x) H) oStr:=by
 intro H x d1 f1 d Q r e k
 cases d1 <;> try (cases e;done)
 ·rename_i i
  have e:(if i.natAbs < 2 ^ 64 then some (D.str (toString i)) else none)=some d:=e
  by_cases hc:i.natAbs < 2 ^ 64
  ·rw [if_pos hc] at e
   cases e
   cases r
   exact .inl ⟨i,rfl,log2_sm64 hc,k H _ [] (Same.refl H) (.str _) List.nodup_nil fun a m=>nomatch m⟩
  ·rw [if_neg hc] at e;cases e
 ·cases e
  cases r
  exact .inr ⟨_,rfl,k H _ [] (Same.refl H) (.str _) List.nodup_nil fun a m=>nomatch m⟩
theorem fp_strC (hm:X.mg "str"=none) (ha:FP X a fa) (hg:Gl X "str":=by rfl) (hs:starEach [a] X.env=[(false,eval a X.env)]:=by rfl):FP X (.Call (.Name "str" p) [a] [] pos) (e1 oStr fa):=
 fp_1 does_str ha fun ta pa=>pe_callTy call_str1 hg hm (show bootBuiltins "str"=some (.type "str") by decide +kernel) (pa_cons pa pa_nil hs) (he:=hs) (hpl:=rfl)
def oInT:D→D→Option D
 | .str x,.str y=>some (.bl (!(occurrences y x 0 y.length 1).isEmpty))
 | _,_=>none
theorem does_inT {K:PySem.W.Frag}:Does2 K (fun x y H Q=>∃ i j,x=.str i∧y=.str j∧Q (.bl (!(Builtin.Str.occurrences j i 0 j.length 1).isEmpty)) H) oInT:=by
 intro H x y d1 d2 f1 f2 d Q r1 r2 e k
 cases d1 <;> try (cases e;done)
 cases d2 <;> try (cases e;done)
 cases e
 cases r1
 cases r2
 exact ⟨_,_,rfl,rfl,k H _ (Same.refl H) (.bl _)⟩
theorem fp_inT (ha:FP X a fa) (hb:FP X b fb) (hm:behindInMarks .In b=false:=by rfl):FP X (.Compare a [.In] [b] pos) (e2 oInT fa fb):=fp_cmp op_in_str does_inT ha hb hm
def oCatS:D→D→Option D
 | .str x,.str y=>if x.length + y.length≤sizeLine then some (.str (x++y)) else none
 | _,_=>none
theorem does_catS {K:PySem.W.Frag}:Does2 K (fun x y H Q=>∃ i j,x=.str i∧y=.str j∧i.length + j.length≤sizeLine∧Q (.str (i++j)) H) oCatS:=by
 intro H x y d1 d2 f1 f2 d Q r1 r2 e k
 cases d1 <;> try (cases e;done)
 cases d2 <;> try (cases e;done)
 rename_i i j
 have e:(if i.length + j.length≤sizeLine then some (D.str (i++j)) else none)=some d:=e
 by_cases hc:i.length + j.length≤sizeLine
 ·rw [if_pos hc] at e
  cases e
  cases r1
  cases r2
  exact ⟨_,_,rfl,rfl,hc,k H _ (Same.refl H) (.str _)⟩
 ·rw [if_neg hc] at e;cases e
theorem fp_catS (ha:FP X a fa) (hb:FP X b fb):FP X (.BinOp a .Add b pos) (e2 oCatS fa fb):=fp_bin op_add_str does_catS ha hb
def oIndex:D→D→Option D
 | .lst ds,.str i=>match strsD ds with
  | some ts=>(ts.findIdx? (· == i)).map fun j:Nat=>.int j
  | none=>none
 | _,_=>none
theorem fp_index (ha:FP X a fa) (hb:FP X b fb) (hs:starEach [b] X.env=[(false,eval b X.env)]:=by rfl) (hbase:attributeBase a "index" X.env (eval a X.env)=eval a X.env:=by rfl)
  (hfew:((backTo p3 (starEach [b] X.env)).all (fun x=>!x.1)&&(backToKw p3 (keywordEach [] X.env)).all (fun x=>x.1.isSome)&&decide ([b].length + ([]:List Keyword).length + (if ([]:List Keyword).isEmpty then 0 else 1) < 30))=true:=by rfl)
  (hline:(p2.endLine == p3.line)=true:=by rfl):FP X (.Call (.Attribute a "index" p2) [b] [] p3) (e2 oIndex fa fb):=by
 obtain ⟨ta,pa,sa⟩:=ha
 obtain ⟨tb,pb,sb⟩:=hb
 refine ⟨_,pe_bm PySem.F.plainAttrs_list PySem.F.slot_list_index PySem.F.type_list_index mt_index pa (pa_cons pb pa_nil hs) hbase hfew hline hs rfl,fun H0 S z held ρ σ H Q d tg ok e k=>?_⟩
 obtain ⟨d1,t1,d2,t2,e1,e2',e3,rfl⟩:=e2_of e
 refine sa H0 S z held ρ σ H _ _ t1 ok e1 fun H1 x f1 s1 r1 _=>?_
 cases d1 with
 | lst ds=>
  cases d2 with
  | str i=>
   have e3:(match strsD ds with | some ts=>(ts.findIdx? (· == i)).map fun j:Nat=>D.int j | none=>none)=some d:=e3
   cases h:strsD ds with
   | none=>rw [h] at e3;cases e3
   | some ts=>
    rw [h] at e3
    dsimp only at e3
    cases h2:ts.findIdx? (· == i) with
    | none=>rw [h2] at e3;cases e3
    | some j=>
     rw [h2] at e3
     cases e3
     obtain ⟨l0,xs0,f0,rfl,hq0,rs0,_⟩:=r1.lst_of
     refine ⟨.inl ⟨rfl,_,hq0⟩,?_⟩
     refine sb H0 S z held ρ σ H1 _ _ t2 (ok.same s1) e2' fun H2 y f2 s2 r2 _=>?_
     obtain ⟨rfl,_⟩:=r2.str_of
     have r1':=r1.same s2
     obtain ⟨l,xs,f,e0,hq,rs,_⟩:=r1'.lst_of
     cases e0
     have hx:=strsD_of rs h
     subst hx
     obtain ⟨hj,hp,hno⟩:=List.findIdx?_eq_some_iff_getElem.mp h2
     refine ⟨l0,ts,i,j,rfl,rfl,hq,?_,fun m hm em=>?_,k H2 _ [] (s1.trans s2) (.int _) ⟨List.nodup_nil,fun a m=>nomatch m⟩⟩
     ·rw [List.getElem?_eq_getElem hj,eq_of_beq hp]
     ·obtain ⟨hm',e'⟩:=List.getElem?_eq_some_iff.mp em
      exact hno m hm (by rw [e'];exact beq_self_eq_true _)
  | _=>cases e3
 | _=>cases e3
def oIntS:D→Option D
 | .str x=>if x.length≤640 then (PySem.intText? x).map D.int else none
 | _=>none
theorem does_intS {K:PySem.W.Frag}:Does1 K (fun xs H Q=>∃ (x:Str) (n:Int),xs=[.str x]∧x.length≤640∧PySem.intText? x=some n∧Q (.int n) H) oIntS:=by
 intro H x d1 f1 d Q r e k
 cases d1 <;> try (cases e;done)
 rename_i z
 cases r
 have e:(if z.length≤640 then (PySem.intText? z).map D.int else none)=some d:=e
 by_cases hc:z.length≤640
 ·rw [if_pos hc] at e
  cases h:PySem.intText? z with
  | none=>rw [h] at e;cases e
  | some n=>
   rw [h] at e
   cases e
   exact ⟨z,n,rfl,hc,h,k H _ [] (Same.refl H) (.int _) List.nodup_nil fun a m=>nomatch m⟩
 ·rw [if_neg hc] at e;cases e
theorem fp_intS (hm:X.mg "int"=none) (ha:FP X a fa) (hg:Gl X "int":=by rfl) (hs:starEach [a] X.env=[(false,eval a X.env)]:=by rfl):FP X (.Call (.Name "int" p) [a] [] pos) (e1 oIntS fa):=
 fp_1 does_intS ha fun ta pa=>pe_callTy call_intS hg hm (show bootBuiltins "int"=some (.type "int") by decide +kernel) (pa_cons pa pa_nil hs) (he:=hs) (hpl:=rfl)
def signs (x:Str):List D:=x.cps.toList.map fun c=>D.str ⟨#[c]⟩
def iStrF (g:EF):IF:=fun ρ=>match g ρ with
 | some (.str x,_)=>if x.cps.all (· < 128)=true then some (signs x,.own) else none
 | _=>none
theorem itOk_str {K:PySem.W.Frag}{x:Str}:ItOk K (Its x) (signs x) []:=by
 intro H i hh
 refine ⟨fun d hd=>?_,fun hl=>?_⟩
 ·unfold signs at hd
  rw [List.getElem?_map] at hd
  cases e:x.cps.toList[i]? with
  | none=>rw [e] at hd;cases hd
  | some c=>
   rw [e] at hd
   cases hd
   rw [Array.getElem?_toList] at e
   have hi:i < x.cps.size:=(Array.getElem?_eq_some_iff.mp e).1
   refine ⟨hi,fun v H' y=>?_⟩
   obtain ⟨rfl,c',hc',rfl⟩:=y
   rw [e] at hc'
   cases hc'
   exact ⟨Same.refl _,[],.str _,fun a m=>nomatch m⟩
 ·unfold signs at hl
  rw [List.length_map,Array.length_toList] at hl
  exact hl
theorem fi_str {tg:Expr}{g:EF} (ha:FP X a g):FI X tg a (iStrF g):=by
 obtain ⟨t,pa,q⟩:=ha
 refine ⟨_,pi_str pa,fun H0 S z held ρ σ H R ds tg ok e k=>?_⟩
 unfold iStrF at e
 cases h:g ρ with
 | none=>rw [h] at e;cases e
 | some w=>
  obtain ⟨d,tg'⟩:=w
  rw [h] at e
  cases d with
  | str x=>
   dsimp only at e
   by_cases hj:x.cps.all (· < 128)=true
   ·rw [if_pos hj] at e
    cases e
    refine q H0 S z held ρ σ H _ _ _ ok h fun H1 v fp s1 r1 g1=>?_
    cases r1
    exact ⟨x,rfl,hj,k H1 _ [] s1 (fun h m=>nomatch m) itOk_str⟩
   ·rw [if_neg hj] at e;cases e
  | _=>cases e
end
end L2.Ev
namespace L2
open PySem PySem.Spec PyProof.Rows HT
section
variable {prog:Program}{w:World}{A:Around}{E:Value→Shared→Prop}{s:Shared}
theorem tuple_whole {t sl:Addr}{items:Array Value}{vl vu:Value}{lo hi:Option Int}{Q:Value→Shared→Prop} (ht:IsTup s.heap t items) (hs:s.heap.IsSliceOf sl vl vu .none) (pl:IsPart vl lo) (pu:IsPart vu hi)
  (hw:sIx items.size 0 lo=0∧sIx items.size items.size hi=items.size) (h:Q (.ref t) s):wpAny (model prog w) A (getItem (.ref t) (.ref sl)) Q E s:=by
 obtain ⟨os,hos,hcs,hds⟩:=id hs
 have hTs:s.TypeIs (.ref sl) "slice":=⟨os,hos,hcs⟩
 unfold getItem
 try with_reducible refine wpAny_holding ?_
 first | refine wpAny_bind (wpAny_pure ?_) | skip
 refine wpAny_bind (wpAny_sequenceKey ht.typeIs (by decide) ?_)
 refine wpAny_bind (wpAny_callSpecial?_slot (name:=Str.ofString "__getitem__") ht.typeIs PyProof.Rows.slot_tuple_getitem
  (wpAny_call_entry PyProof.Rows.slot_tuple_getitem ht.typeIs entry_tuple_getitem ?_ (args_tuple_getitem _ _)))
 show wpAny _ _ (Builtin.Tuple.tupleItemsOf (.ref t) >>= _) _ _ s
 refine wpAny_bind (tupleItemsOf_ ht ?_)
 refine wpAny_bind (wpAny_typeOf hTs ?_)
 rw [if_pos (by decide)]
 refine wpAny_bind (sliceApplied_gen hs pl pu ?_)
 show wpAny _ _ (if (((sIx items.size 0 lo:Nat):Int) == 0&&(1:Int) == 1&&(sIx items.size items.size hi - sIx items.size 0 lo) == items.size)=true then _ else _) _ _ s
 rw [if_pos (by rw [hw.1,hw.2];simp)]
 refine wpAny_bind ?_
 unfold Builtin.Tuple.tupleIsExact
 refine wpAny_bind (wpAny_typeOf ht.typeIs (wpAny_pure ?_))
 rw [if_pos (by decide)]
 exact wpAny_bind (wpAny_rule (wpAny_pure ⟨_,rfl,wpAny_pure h⟩))
end
section
variable {X:Cx}
def rSlT2 (K:PySem.W.Frag):V→Option Int→Option Int→Hp→VK→Prop:=fun x lo hi H Q=>∃ a xs,x=.ref a∧SqT K H a xs ∧
 ((HT.sIx xs.length 0 lo=0∧HT.sIx xs.length xs.length hi=xs.length)→Q (.ref a) H)∧(¬ (HT.sIx xs.length 0 lo=0∧HT.sIx xs.length xs.length hi=xs.length)→∀ p,H p=none→Q (.ref p) (upd H p (.tup (cutV xs lo hi))))
theorem sl_tup2:SlR X (rSlT2 X.K):=by
 intro pins s σ H x v vl vu lo hi sl Q I rx hs pl pu h
 obtain ⟨a,xs,rfl,hx,h1,h2⟩:=h
 by_cases hw:HT.sIx xs.length 0 lo=0∧HT.sIx xs.length xs.length hi=xs.length
 ·cases rx
  obtain ⟨its,r,ht,hz⟩:=I.tuple hx
  have hlen:its.toArray.size=xs.length:=by rw [List.size_toArray];exact r.length.symm
  refine ⟨"tuple",_,PyProof.Rows.slot_tuple_getitem.lookup,ht.typeIs,?_⟩
  exact tuple_whole ht hs pl pu (by rw [hlen];exact hw) ⟨.ref a,H,I,rfl,h1 hw⟩
 ·exact sl_tup pins s σ H _ v vl vu lo hi sl Q I rx hs pl pu ⟨a,xs,rfl,hx,hw,h2 hw⟩
end
end L2
namespace L2.Ev
open PySem PySem.Spec PyProof.Rows
section
variable {X:Cx}{a b c:Expr}{fa fl fh:EF}{p p2 pos:Pos}
def eCutP (fa fl fh:EF):EF:=fun ρ=>match fa ρ,fl ρ,fh ρ with
 | some (.tup ds,_),some (.int i,_),some (.int j,_)=>if immAll ds=true then some (.tup (cutD ds (some i) (some j)),.own) else none
 | _,_,_=>none
theorem cutD_whole {ds:List D}{lo hi:Option Int} (h:HT.sIx ds.length 0 lo=0∧HT.sIx ds.length ds.length hi=ds.length):cutD ds lo hi=ds:=by
 unfold cutD
 rw [h.1,h.2,List.drop_zero,Nat.sub_zero,List.take_length]
theorem fp_cutP (ha:FP X a fa) (hl:FP X b fl) (hh:FP X c fh):FP X (.Subscript a (.Slice (some b) (some c) none p2) pos) (eCutP fa fl fh):=by
 obtain ⟨t,p,q⟩:=ha
 obtain ⟨tl,pl,ql⟩:=hl
 obtain ⟨th,ph,qh⟩:=hh
 refine ⟨_,pe_slice sl_tup2 p (po_some pl) (po_some ph),fun H0 S z held ρ σ H Q d tg ok e k=>?_⟩
 unfold eCutP at e
 split at e
 ·rename_i ds t1 i t2 j t3 e1 e2 e3
  by_cases hi:immAll ds=true
  ·rw [if_pos hi] at e
   cases e
   refine q H0 S z held ρ σ H _ _ t1 ok e1 fun H1 x f1 s1 r1 _=>?_
   refine ql H0 S z held ρ σ H1 _ _ t2 (ok.same s1) e2 fun H2 y f2 s2 r2 _=>?_
   cases r2
   refine ⟨i,rfl,?_⟩
   refine qh H0 S z held ρ σ H2 _ _ t3 (ok.same (s1.trans s2)) e3 fun H3 y f2 s3 r3 _=>?_
   cases r3
   refine ⟨j,rfl,?_⟩
   obtain ⟨w,xs,rfl,hq,rs⟩:=((r1.same s2).same s3).tup_of
   have hn:=rs.imm hi
   subst hn
   have hlen:=rs.length
   refine ⟨w,xs,rfl,hq,fun hw=>?_,fun _ p hp=>?_⟩
   ·rw [cutD_whole (by rw [hlen];exact hw)] at k
    exact k H3 _ [] ((s1.trans s2).trans s3) (.tup hq rs) ⟨List.nodup_nil,fun a m=>nomatch m⟩
   ·have s4:Same H3 (upd H3 p (.tup (cutV xs (some i) (some j)))):=fun b o e=>by rw [upd_ne (ne_of_none e hp)];exact e
    have rr:Reps X.K H3 (cutD ds (some i) (some j)) (cutV xs (some i) (some j)) []:=by
     unfold cutD cutV
     rw [rs.length]
     exact Reps.take0 _ (Reps.drop0 _ rs)
    exact k _ _ [] (((s1.trans s2).trans s3).trans s4) (.tup (SqT.of upd_same) (rr.same s4)) ⟨List.nodup_nil,fun a m=>nomatch m⟩
  ·rw [if_neg hi] at e;cases e
 ·cases e
def tTup (f:EF):TF:=fun ρ=>match f ρ with
 | some (.tup ds,_)=>some (!ds.isEmpty)
 | _=>none
theorem ft_tup {f:EF} (h:FP X a f) (he:∀ whole,isTrue a X.env whole=(do let v ← whole;standAt a.pos;holding [v] (truthy v)):=by intro _;rfl):FT X a (tTup f):=by
 obtain ⟨t,p,q⟩:=h
 refine ⟨_,pt_truth p he,fun H0 S z held ρ σ H Q b ok e k=>?_⟩
 unfold tTup at e
 split at e
 ·rename_i ds tg e1
  cases e
  refine q H0 S z held ρ σ H _ _ tg ok e1 fun H1 v fp s1 r1 _=>?_
  obtain ⟨w,xs,rfl,hq,rs⟩:=r1.tup_of
  have he:(!ds.isEmpty)=!xs.isEmpty:=by cases rs <;> rfl
  exact ⟨_,.inr (.inl ⟨xs,hq,rfl⟩),he ▸ k H1 s1⟩
 ·cases e
end
def spA (K:PySem.W.Frag) (F:List D→Option D):Sp:=fun vs H Q _=>∃ ds fp d,Reps K H ds vs fp∧F ds=some d∧∀ H' v fp',Same H H'→Rep K H' d v fp'→(∀ a∈fp',a∈fp∨H a=none)→Q v H'
def eCallA (F:List D→Option D) (g:AF):EF:=fun ρ=>(g ρ).bind fun ps=>(F (ps.map (·.1))).map fun d=>(d,match joinA ps with | .sh o=>.sh o | _=>.sh [])
def F_wa:List D→Option D
 | [.lst ds,.str i]=>match strsD ds with
  | some ts=>match ts.findIdx? (· == i) with
   | some j=>some (.lst ((ts.take j).map D.str))
   | none=>some (.lst ds)
  | none=>none
 | _=>none
theorem wa_len {K:PySem.W.Frag}{vs:List V}{H:Hp}{Q:VK}{E:XK} (h:spA K F_wa vs H Q E):vs.length=2:=by
 obtain ⟨ds,fp,d,rs,e,_⟩:=h
 rw [← rs.length]
 unfold F_wa at e
 split at e
 ·rfl
 ·cases e
theorem wa_ok {X:Cx}{c e1 e2:Expr}{p1 p2:Pos}{N:List Str}{vs:List V}{H:Hp}{Q:VK}{E:XK} (hN:N.length=2) (pc:PT X c (tTest (tOp (rIn X.K false) (tVar 1) (tVar 0))))
  (pcut:PE X e1 (tSl (rSlL X.K) (tVar 0) tNoPart (tPart (tBM X.K "list" (rIndex X.K) (tVar 0) (tCons (tVar 1) tNil))))) (pw:PE X e2 (tVar 0)) (h:spA X.K F_wa vs H Q E) :
  ∃ t,PSs X [.Return (some (.IfExp c e1 e2 p1)) p2] t∧t { nx:=fun _ H'=>Q .non H',rt:=Q } (start N vs) H:=by
 refine ⟨_,pss_one (ps_ret (pe_ifExp pc pcut pw)),?_⟩
 obtain ⟨ds0,fp,d,rs,e,k⟩:=h
 unfold F_wa at e
 split at e
 ·rename_i ds i
  cases rs with
  | @cons _ v0 _ _ f1 f2 r1 r2=>
   cases r2 with
   | @cons _ v1 _ _ f3 f4 r3 r4=>
    cases r4
    obtain ⟨rfl,rfl⟩:=r3.str_of
    obtain ⟨l,xs,f,rfl,hq,rs,hf⟩:=r1.lst_of
    have st:start N [V.ref l,V.str i]=[some (.ref l),some (.str i)]:=by unfold start;rw [hN];rfl
    rw [st]
    cases h:strsD ds with
    | none=>rw [h] at e;cases e
    | some ts=>
     rw [h] at e
     dsimp only at e
     have hx:=strsD_of rs h
     subst hx
     refine ⟨_,rfl,_,rfl,l,_,rfl,.inl hq,rfl,flat_strs ts,_,rfl,?_⟩
     rw [if_neg Bool.false_ne_true,inV_strs]
     cases h2:ts.findIdx? (· == i) with
     | some j=>
      rw [h2] at e
      cases e
      obtain ⟨hj,hp,hno⟩:=List.findIdx?_eq_some_iff_getElem.mp h2
      rw [if_pos (List.any_eq_true.mpr ⟨ts[j],List.getElem_mem hj,hp⟩)]
      refine ⟨_,rfl,_,rfl,.inl ⟨rfl,_,hq⟩,_,rfl,l,ts,i,j,rfl,rfl,hq,?_,fun m hm em=>?_,j,rfl,l,_,rfl,hq,fun p hp'=>?_⟩
      ·rw [List.getElem?_eq_getElem hj,eq_of_beq hp]
      ·obtain ⟨hm',e'⟩:=List.getElem?_eq_some_iff.mp em
       exact hno m hm (by rw [e'];exact beq_self_eq_true _)
      ·have hc:cutV (ts.map V.str) none (some (j:Int))=(ts.take j).map V.str:=by
        unfold cutV
        rw [HT.sIx_nat,HT.sIx_none,List.length_map,Nat.min_eq_left (by omega),List.map_take];rfl
       rw [hc]
       exact k _ _ [p] (Same.new hp') (.lst upd_same (reps_strs _)) fun a m=>by cases List.mem_singleton.mp m;exact .inr hp'
     | none=>
      rw [h2] at e
      cases e
      have hn:ts.any (· == i)=false:=by
       rw [Bool.eq_false_iff]
       intro q
       obtain ⟨y,my,ey⟩:=List.any_eq_true.mp q
       exact absurd ey (by simpa using List.findIdx?_eq_none_iff.mp h2 y my)
      rw [hn,if_neg Bool.false_ne_true]
      exact ⟨_,rfl,k H _ f1 (Same.refl H) r1 fun a m=>.inl (by simp [m])⟩
 ·cases e
section
variable {X:Cx}{x:Str}{p pos:Pos}{e:Expr}{es:List Expr}{k:Nat}{f:Addr}{fd:FuncData}{ps:List Str}{F:List D→Option D}{g:AF}
theorem eCallA_of {ρ:Rho}{d:D}{tg:Tag} (e:eCallA F g ρ=some (d,tg)):∃ ps,g ρ=some ps∧F (ps.map (·.1))=some d∧tg=(match joinA ps with | .sh o=>.sh o | _=>.sh []):=by
 unfold eCallA at e
 cases h:g ρ with
 | none=>rw [h] at e;cases e
 | some ps=>
  rw [h] at e
  have e:(F (ps.map (·.1))).map _=some (d,tg):=e
  cases h2:F (ps.map (·.1)) with
  | none=>rw [h2] at e;cases e
  | some d'=>
   rw [h2] at e
   cases e
   exact ⟨ps,rfl,h2,rfl⟩
theorem fp_callA {cm:Bool} (G:FnOk X.prog X.w X.K X.mg X.base CX0 k f fd ps (spA X.K F) cm) (hr:Room k X.A cm) (hm:X.mg x=some (.ref f)) (hk:PySem.W.keepIn X.K (.ref f)=true) (hb:Binds X.K fd ps []) (ha:FA X (e::es) g)
  (hg:Gl X x:=by rfl) (hdb:(x == ("__debug__":Str))=false:=by decide)
  (he:starEach (e::es) X.env=(false,eval e X.env)::starEach es X.env:=by rfl) (hpl:(backTo pos (starEach es X.env)).any (·.1)=false:=by rfl):FP X (.Call (.Name x p) (e::es) [] pos) (eCallA F g):=by
 obtain ⟨t,pa,_,sa⟩:=ha
 refine ⟨_,pe_call G hr hg hm hk hb .nil pass0 pa hdb he hpl,fun H0 S z held ρ σ H Q d tg ok e0 q=>?_⟩
 obtain ⟨qs,e1,e2,rfl⟩:=eCallA_of e0
 refine sa H0 S z held ρ σ H _ qs ok e1 fun H1 vs fp s1 r1 tk=>?_
 rw [List.append_nil]
 have free:∀ a j,H a=none→z a=some j→False:=fun a j h1 h2=>by
  obtain ⟨⟨o,ho⟩,_⟩:=ok.zd a j h2
  rw [h1] at ho;cases ho
 refine ⟨_,fp,d,r1,e2,fun H2 v fp' s2 r2 hs=>q H2 v fp' (s1.trans s2) r2 ?_⟩
 cases hj:joinA qs with
 | sh o=>
  rw [hj] at tk
  intro a m j hz
  rcases hs a m with h | h
  ·exact tk a h j hz
  ·exact (free a j (s1.free h) hz).elim
 | own=>
  rw [hj] at tk
  intro a m j hz
  rcases hs a m with h | h
  ·exact (free a j (tk.2 a h) hz).elim
  ·exact (free a j (s1.free h) hz).elim
 | lk=>
  rw [hj] at tk
  intro a m j hz
  rcases hs a m with h | h
  ·exact (free a j (tk.2 a h) hz).elim
  ·exact (free a j (s1.free h) hz).elim
end
section
variable {X:Cx}{a b:Expr}{fa fb:EF}{pos:Pos}
theorem fp_globS {x:Str}{y:Str}{tk:Tok} (hm:X.mg x=some (.str y tk)) (hg:Gl X x:=by rfl) (hd:(x == ("__debug__":Str))=false:=by decide):FP X (.Name x pos) (eC (.str y)):=
 ⟨_,pe_glob hg hm (v:=.str y) ⟨_,rfl⟩ hd,fun _ _ _ _ _ _ H _ _ _ _ e q=>by cases e;exact q H _ _ (Same.refl H) (.str y) .nil⟩
end
section
variable {X:Cx}{a b c:Expr}{fa fb fc:EF}{pos:Pos}
theorem ft_chain {op op':CmpOp}{r r':R2}{o o':D→D→Option D} (ho:OpR X (compareOp op) r) (ho':OpR X (compareOp op') r') (dd:Does2 X.K r o) (dd':Does2 X.K r' o') (ha:FP X a fa) (hb:FP X b fb) (hc:FP X c fc)
  (hm:lastMarks [op,op'] [b,c]=false):FT X (.Compare a [op,op'] [b,c] pos) (tV (eChain o o' fa fb fc)):=by
 obtain ⟨ta,pa,sa⟩:=ha
 obtain ⟨tb,pb,sb⟩:=hb
 obtain ⟨tc,pc,sc⟩:=hc
 refine ⟨_,pt_chain ho ho' pa pb pc hm,fun H0 S z held ρ σ H Q b0 ok e k=>?_⟩
 obtain ⟨tg,e⟩:=tV_of e
 unfold eChain at e
 split at e
 ·rename_i d1 t1 d2 t2 e1 e2
  refine sa H0 S z held ρ σ H _ d1 t1 ok e1 fun H1 x f1 s1 r1 _=>?_
  refine sb H0 S z held ρ σ H1 _ d2 t2 (ok.same s1) e2 fun H2 y f2 s2 r2 _=>?_
  cases h:o d1 d2 with
  | none=>rw [h] at e;cases e
  | some w=>
   refine dd H2 x y d1 d2 f1 f2 w _ (r1.same s2) r2 h fun H3 u s3 r3=>?_
   rw [h] at e
   cases w <;> try (cases e;done)
   rename_i b'
   cases r3
   refine ⟨b',rfl,?_⟩
   cases b' with
   | false=>
    cases e
    rw [if_neg Bool.false_ne_true]
    exact ⟨_,rfl,k H3 ((s1.trans s2).trans s3)⟩
   | true=>
    rw [if_pos rfl]
    dsimp only at e
    cases h3:fc ρ with
    | none=>rw [h3] at e;cases e
    | some w3=>
     obtain ⟨d3,t3⟩:=w3
     rw [h3] at e
     dsimp only at e
     cases h4:o' d2 d3 with
     | none=>rw [h4] at e;cases e
     | some d4=>
      rw [h4] at e
      cases e
      refine sc H0 S z held ρ σ H3 _ d3 t3 (((ok.same s1).same s2).same s3) h3 fun H4 w' f4 s4 r4 _=>?_
      refine dd' H4 y w' d2 d3 f2 f4 _ _ ((r2.same s3).same s4) r4 h4 fun H5 v5 s5 r5=>?_
      cases r5
      exact ⟨_,rfl,k H5 ((((s1.trans s2).trans s3).trans s4).trans s5)⟩
 ·cases e
theorem ft_le2 (ha:FP X a fa) (hb:FP X b fb) (hc:FP X c fc) (hm:lastMarks [.LtE,.LtE] [b,c]=false:=by with_unfolding_all rfl):FT X (.Compare a [.LtE,.LtE] [b,c] pos) (tV (eChain oLe oLe fa fb fc)):=ft_chain op_le op_le does_iB does_iB ha hb hc hm
end
end L2.Ev
namespace L2
open PySem PySem.Spec PyProof.Rows
theorem ext_tup (l b:Addr) (as bs:Array Value) (n m:Nat) (dd:Option Addr) (sl:Array (Option Value)) (h0:¬ (!as.isEmpty&&Builtin.List.listTooLong (as.size + bs.size))=true) (h1:as.size≤sizeLine) (h2:as.size + bs.size≤sizeLine + 1) :
  Meets (Builtin.«list.extend» ⟨[.ref l,.ref b],[]⟩) (fun _ R s=>s.heap.get? l=some { cls:=.type "list",dict:=none,data:=.seq as n,slots:=#[] }∧s.heap.get? b=some { cls:=.type "tuple",dict:=dd,data:=.seq bs m,slots:=sl }∧R (.ok (.ret Value.none)) { s with heap:=s.heap.update l (Obj.mapSeq fun x=>x++bs),toks:=s.toks }):=by
 refine .of_wp fun prog w A R s h=>?_
 obtain ⟨hp,g,d,tk,os⟩:=s
 obtain ⟨hl,hb,h⟩:=h
 have k1:=AutoSeq1.idx_int
 have k2:=AutoSeq1.sub_tuple_tuple
 have k3:=AutoSeq1.sub_list_list
 have k4:=AutoSeq1.sub_tuple_list
 have k5:=AutoSeq1.sub_list_tuple
 have hz:(as++bs).size≤sizeLine + 1:=by
  rw [Array.size_append]
  exact h2
 wp_walk using (wpAny_updateSeq hl rfl (hz:=h1) (_hz':=hz)),wpAny_loadPart' hl,wpAny_loadPart' hb
 exact ⟨_,rfl,h⟩
section
variable {X:Cx}
def rExtT (K:PySem.W.Frag):V→List V→Hp→VK→Prop:=fun x vs H Q=>∃ l b xs zs,x=.ref l∧vs=[.ref b]∧H l=some (.lst xs)∧SqT K H b zs∧xs.length + zs.length≤sizeLine∧Q .non (upd H l (.lst (xs++zs)))
theorem mt_extT:MtM X "list.extend" (rExtT X.K):=by
 intro pins s σ H x vs v us Q I rx rv h
 obtain ⟨l,b,xs,zs,rfl,rfl,hH,hB,hz,q⟩:=h
 cases rx
 obtain ⟨u,rfl,ru⟩:=rv.one
 cases ru
 obtain ⟨z,its,n,r,hl,e⟩:=I.lstM hH
 obtain ⟨its2,r2,ht,z2⟩:=I.tuple hB
 have hl2:=r2.length
 obtain ⟨o,e2,hc,m,hd⟩:=ht
 obtain ⟨oc,od,oda,osl⟩:=o
 cases hc
 cases hd
 have hsz:its.toArray.size + its2.toArray.size≤sizeLine:=by rw [List.size_toArray,List.size_toArray];omega
 have hlong:¬ (!its.toArray.isEmpty&&Builtin.List.listTooLong (its.toArray.size + its2.toArray.size))=true:=by
  rw [notLongL hsz,Bool.and_false]
  exact Bool.false_ne_true
 refine call_meets F.slot_list_extend ⟨_,e,rfl⟩ F.entry_list_extend (F.args_list_extend_2 _ _) (ext_tup l b its.toArray its2.toArray n m od osl hlong (by rw [List.size_toArray];omega) (by omega)) ⟨e,e2,?_⟩
 refine ⟨.non,_,I.lset (its':=its++its2) hH e (by simp) (r.append r2) ?_,rfl,q⟩
 rw [List.length_append]
 omega
end
end L2
namespace L2.Ev
open PySem PySem.Spec PyProof.Rows
section
variable {X:Cx}{a:Expr}{fv:EF}{x:Str}{p1 p2 p3 pos:Pos}
def sExtT (i:Nat) (fv:EF):SF:=fun ρ=>match fv ρ,ρ[i]? with
 | some (.tup es,_),some (some (.lst ds,.own))=>if (immAll es&&immAll ds&&decide (ds.length + es.length≤sizeLine))=true then some (.nx (mutS ρ i (.lst (ds++es)))) else none
 | _,_=>none
theorem fs_extT (i:Nat) (hv:FP X a fv) (hN:X.N[i]? = some x:=by rfl) (hvis:Vis X.env.scope x:=by first | exact Or.inl rfl | exact Or.inr (Or.inl rfl) | exact Or.inr (Or.inr rfl))
  (hd:(x == ("__debug__":Str))=false:=by decide) (hcd:(x == ("__classdict__":Str))=false:=by decide) (hs:starEach [a] X.env=[(false,eval a X.env)]:=by rfl)
  (hbase:attributeBase (.Name x p1) "extend" X.env (eval (.Name x p1) X.env)=eval (.Name x p1) X.env:=by rfl)
  (hfew:((backTo p3 (starEach [a] X.env)).all (fun x=>!x.1)&&(backToKw p3 (keywordEach [] X.env)).all (fun x=>x.1.isSome)&&decide ([a].length + ([]:List Keyword).length + (if ([]:List Keyword).isEmpty then 0 else 1) < 30))=true:=by rfl)
  (hline:(p2.endLine == p3.line)=true:=by rfl) (hsw:swapsWith (.Call (.Attribute (.Name x p1) "extend" p2) [a] [] p3) none pos.line X.env=pure false:=by rfl) :
  FS1 X (.Expr (.Call (.Attribute (.Name x p1) "extend" p2) [a] [] p3) pos) (sExtT i fv):=by
 obtain ⟨tv,pv',sv⟩:=hv
 refine ⟨_,ps_expr (pe_bm PySem.F.plainAttrs_list PySem.F.slot_list_extend PySem.F.type_list_extend mt_extT (pe_var (i:=i) hN hvis hd hcd) (pa_cons pv' pa_nil hs) hbase hfew hline hs rfl) hsw,fun H0 S z held ρ σ H E o ok e q=>?_⟩
 unfold sExtT at e
 split at e
 ·rename_i es te ds g1 g2
  by_cases hc:(immAll es&&immAll ds&&decide (ds.length + es.length≤sizeLine))=true
  ·rw [if_pos hc] at e
   cases e
   obtain ⟨c1,c3⟩:=(Bool.and_eq_true _ _).mp hc
   obtain ⟨c1,c2⟩:=(Bool.and_eq_true _ _).mp c1
   obtain ⟨xv,fp,hs',r,zz⟩:=ok.sl i _ _ g2
   refine ⟨xv,hs',?_⟩
   obtain ⟨l,xs,f,rfl,hq,_,_⟩:=r.lst_of
   refine ⟨.inl ⟨rfl,_,hq⟩,?_⟩
   refine sv H0 S z held ρ σ H _ _ te ok g1 fun H1 v fd s1 rv gv=>?_
   have r':=r.same s1
   have ok1:=ok.same s1
   generalize hw:(V.ref l)=w at r' hs'
   cases r' with
   | @lst a' ys _ f' h rs=>
    cases hw
    have hn:=rs.imm c2
    subst hn
    obtain ⟨b',zs,rfl,h',rz⟩:=rv.tup_of
    have hn:=rz.imm c1
    subst hn
    refine ⟨_,b',ys,zs,rfl,rfl,h,h',by rw [← rs.length,← rz.length];exact of_decide_eq_true c3,?_⟩
    have im:Imm H1 (upd H1 l (.lst (ys++zs))):=Imm.upd h rfl
    refine q z σ _ (Ok.mutate ok1 g2 hs' zz List.mem_cons_self h rfl (.lst upd_same ?_)) (.refl _ _)
    exact Reps.append (f:=[]) (g:=[]) (rs.frame (fun a m=>nomatch m) im) (rz.frame (fun a m=>nomatch m) im)
  ·rw [if_neg hc] at e;cases e
 ·cases e
end
section
variable {X:Cx}{a:Expr}{fa:EF}{pos:Pos}
theorem call_isiIS:CallR X (.builtin "isinstance") (fun xs H Q=>∃ x l,xs=[x,V.ref l]∧((∃ i,x=.int i)∨∃ y,x=.str y)∧H l=some (.tup [V.ty "int",V.ty "str"])∧Q (.bl true) H):=by
 intro pins s σ H xs us Q I r h
 obtain ⟨x,l,rfl,hx,hl,q⟩:=h
 obtain ⟨u,w',rfl,ru,rw'⟩:=vals2 r
 cases (show w'=Value.ref l from rw')
 obtain ⟨_,its,rv,o,ho,hc,hd,n,hdat⟩:=(show [V.ty "int",V.ty "str"].length≤sizeLine∧∃ its:List Value,Vals [V.ty "int",V.ty "str"] its∧PlainT s.heap l its.toArray from I.hok l _ hl)
 have hi:its=[.type "int",.type "str"]:=by
  cases rv with
  | cons h1 t1=>
   cases t1 with
   | cons h2 t2=>
    cases t2
    cases h1
    cases h2
    rfl
 subst hi
 obtain ⟨cl,dd,dat,sl⟩:=o
 cases hc
 cases hdat
 rcases hx with ⟨i,rfl⟩ | ⟨y,rfl⟩
 ·obtain ⟨t,rfl⟩:=ru
  exact PySem.W.kia_tup PySem.W.kitx_int I.kIn True.intro ho (show PySem.W.kitAny X.K (.type "int") [.type "int",.type "str"]=some true from rfl) (fun z=>nomatch z) fun tk=>⟨.bl true,H,I.tok tk,rfl,q⟩
 ·obtain ⟨t,rfl⟩:=ru
  exact PySem.W.kia_tup PySem.W.kitx_str I.kIn True.intro ho (show PySem.W.kitAny X.K (.type "str") [.type "int",.type "str"]=some true from rfl) (fun z=>nomatch z) fun tk=>⟨.bl true,H,I.tok tk,rfl,q⟩
def oIsIS:D→Option D
 | .int _=>some (.bl true)
 | .str _=>some (.bl true)
 | _=>none
theorem fp_isIS {p p2 p4 p5:Pos} {x1} (hm:X.mg "isinstance"=none) (hmI:X.mg "int"=none) (hmS:X.mg "str"=none) (ha:FP X a fa) (hg:Gl X "isinstance":=by rfl) (hgI:Gl X "int":=by rfl) (hgS:Gl X "str":=by rfl)
  (hs:starEach [a,.Tuple [.Name "int" p4,.Name "str" p5] x1 p2] X.env=[(false,eval a X.env),(false,eval (.Tuple [.Name "int" p4,.Name "str" p5] x1 p2) X.env)]:=by rfl) (hpl:(backTo pos (starEach [.Tuple [.Name "int" p4,.Name "str" p5] x1 p2] X.env)).any (·.1)=false:=by rfl):FP X (.Call (.Name "isinstance" p) [a,.Tuple [.Name "int" p4,.Name "str" p5] x1 p2] [] pos) (e1 oIsIS fa):=by
 obtain ⟨t,pa,sa⟩:=ha
 have hs2:starEach [.Tuple [.Name "int" p4,.Name "str" p5] x1 p2] X.env=[(false,eval (.Tuple [.Name "int" p4,.Name "str" p5] x1 p2) X.env)]:=rfl
 have pc:=pa_cons (pe_bltn (X:=X) (pos:=p4) (v:=.ty "int") hgI hmI (by decide +kernel) rfl (by decide) (by decide)) (pa_cons (pe_bltn (X:=X) (pos:=p5) (v:=.ty "str") hgS hmS (by decide +kernel) rfl (by decide) (by decide)) pa_nil)
 refine ⟨_,pe_callB call_isiIS hg hm (show bootBuiltins "isinstance"=some (.builtin "isinstance") by decide +kernel) (pa_cons pa (pa_cons (pe_tup pc) pa_nil) (by rw [hs,hs2])) (he:=by rw [hs,hs2]) (hpl:=hpl),fun H0 S z held ρ σ H Q d tg ok e k=>?_⟩
 obtain ⟨d1,t1,h1,h2,rfl⟩:=e1_of e
 refine sa H0 S z held ρ σ H _ d1 t1 ok h1 fun H1 v fp s1 r1 _=>?_
 refine ⟨by decide,fun l hl=>?_⟩
 have s2:Same H1 (upd H1 l (.tup [V.ty "int",V.ty "str"])):=fun b o e=>by rw [upd_ne (ne_of_none e hl)];exact e
 cases d1 <;> try (cases h2;done)
 ·cases h2
  cases r1
  exact ⟨_,l,rfl,.inl ⟨_,rfl⟩,upd_same,k _ _ [] (s1.trans s2) (.bl _) .nil⟩
 ·cases h2
  cases r1
  exact ⟨_,l,rfl,.inr ⟨_,rfl⟩,upd_same,k _ _ [] (s1.trans s2) (.bl _) .nil⟩
def oLenS:D→Option D
 | .str x=>if x.length≤sizeLine then some (.int x.length) else none
 | _=>none
theorem does_lenS {K:PySem.W.Frag}:Does1 K (fun xs H Q=>∃ z:Str,xs=[.str z]∧z.length≤sizeLine∧Q (.int z.length) H) oLenS:=by
 intro H x d1 f1 d Q r e k
 cases d1 <;> try (cases e;done)
 rename_i z
 cases r
 have e:(if z.length≤sizeLine then some (D.int z.length) else none)=some d:=e
 by_cases hc:z.length≤sizeLine
 ·rw [if_pos hc] at e
  cases e
  exact ⟨z,rfl,hc,k H _ [] (Same.refl H) (.int _) List.nodup_nil fun a m=>nomatch m⟩
 ·rw [if_neg hc] at e;cases e
theorem fp_lenS {p:Pos} (hm:X.mg "len"=none) (ha:FP X a fa) (hg:Gl X "len":=by rfl) (hs:starEach [a] X.env=[(false,eval a X.env)]:=by rfl):FP X (.Call (.Name "len" p) [a] [] pos) (e1 oLenS fa):=
 fp_1 does_lenS ha fun ta pa=>pe_callB call_len_str hg hm (show bootBuiltins "len"=some (.builtin "len") by decide +kernel) (pa_cons pa pa_nil hs) (he:=hs) (hpl:=rfl)
end
end L2.Ev
namespace L2
open PySem PySem.Spec PyProof.Rows
section
variable {prog:Program}{w:World}{A:Around}{R:Result→Shared→Prop}{s:Shared}
theorem comp_loopX {elt tg iter:Expr}{ifs:List Expr}{scope:Scope}{pos:Pos}{it acc:Value}{env:Env} (Iv:Nat→Shared→Prop)
  (turn:∀ n s,Iv n s→wpAny (model prog w) A (pyNext it) (fun r s1=>match r with
   | none=>R (.ok .next) s1
   | some v=>wpAny (model prog w) A (letOwnedTupleGo tg it v) (fun _ s1'=>wpAny (model prog w) A (assign tg env v) (fun _ s2=>
     wpAny (model prog w) A (forIn ifs true fun c r=>if r=true then do let ok ← isTrue c env (eval c env);pure (ForInStep.yield ok) else pure (ForInStep.yield r)) (fun ok s3=>
      if ok=true then wpAny (model prog w) A (eval elt env) (fun x s4=>
       wpAny (model prog w) A (call (.builtin "list.append") [acc,x]) (fun _ s5=>∃ m,m < n∧Iv m s5) (fun _ _=>False) s4) (notedBy (model prog w) A env fun x s'=>R (.error x) s') s3
      else ∃ m,m < n∧Iv m s3) (fun _ _=>False) s2) (fun _ _=>False) s1') (fun _ _=>False) s1) (fun _ _=>False) s)
  (n:Nat) (hn:Iv n s):codeAny (model prog w) A (.compLoop (.ListComp elt [⟨tg,iter,ifs,0⟩] scope pos) 0 it acc env) R s:=by
 have no:∀ {E:Value→Shared→Prop} (x:Value) (s:Shared),False→E x s:=fun _ _ f=>f.elim
 refine codeAny_loop rfl Iv (fun k s0 hI=>?_) n hn
 show wpAny (model prog w) A ((compTurn (.ListComp elt [⟨tg,iter,ifs,0⟩] scope pos) 0 it acc env).onRaise (fun x=>do noteFrame x env;theTreesLotGoes x)) _ _ s0
 refine wpAny_noted ?_
 rw [compTurn_list]
 refine wpAny_bind (wpAny_standAt (wpAny_bind (wpAny_mono (turn k s0 hI) (fun r s1 q1=>?_) no)))
 cases r with
 | none=>exact wpAny_pure q1
 | some v=>
  refine wpAny_bind (wpAny_mono q1 (fun _ s2 q2=>wpAny_bind (wpAny_mono q2 (fun _ s3 q3=>wpAny_bind (wpAny_mono q3 (fun ok s4 q4=>?_) no)) no)) no)
  cases ok with
  | false=>exact wpAny_pure ⟨rfl,q4⟩
  | true=>exact wpAny_bind (wpAny_bind (wpAny_mono q4 (fun x s5 q5=>wpAny_bind (wpAny_mono q5 (fun _ s6 q6=>wpAny_pure (wpAny_pure ⟨rfl,q6⟩)) no)) fun _ _ y=>y))
end
def CmpEnd (M:Model) (A:Around) (E:Value→Shared→Prop) (Q:Value→Shared→Prop) (acc:Value) (cenv:Env):Result→Shared→Prop
 | .ok _,s'=>∃ m,s'.heap.Ns cenv.locals m∧∀ h',Heap.SameBut cenv.locals s'.heap h'→Q acc { s' with heap:=h' }
 | .error x,s'=>∃ m,s'.heap.Ns cenv.locals m∧∀ h',Heap.SameBut cenv.locals s'.heap h'→wpAny M A (passOn "comprehension.variables-let-go" x cenv:Sem Value) (fun _ _=>False) E { s' with heap:=h' }
theorem wp_cmp {M:Model}{A:Around}{E:Value→Shared→Prop}{env:Env}{s:Shared}{elt tg iter:Expr}{ifs:List Expr}{sc:Scope}{pos p2:Pos}{cl:List (Str×Addr)}{Q:Value→Shared→Prop}
  (hs:∀ x,foldedSetIterable iter env x=pure x) (hclos:closureFor sc env=pure cl) (hkind:sc.kind=.function) (hnames:∀ x∈sc.names,x.2=.local→sc.names.lookup x.1=some .local)
  (h:wpAny M A (eval iter env) (fun x s1=>wpAny M A (pyIter x) (fun it s2=>wpAny M A (newList []) (fun acc s3=>wpAny M A (newFunctionEnv sc env.globals cl [] env.qual none .none (some env)) (fun cenv s4=>
    codeAny M A (.compStart (.ListComp elt [⟨tg,iter,ifs,0⟩] sc pos) 0 it acc { cenv with scope:=relabel sc env }) (CmpEnd M A E Q acc { cenv with scope:=relabel sc env }) s4) E s3) E s2) E s1) E s) :
  wpAny M A (comprehension (.ListComp elt [⟨tg,iter,ifs,0⟩] sc pos) sc env p2 (newList []) false (eval iter env)) Q E s:=by
 have go:∀ {α:Type}{t:Sem α}{P P':α→Shared→Prop}{s:Shared},wpAny M A t P E s→(∀ a s',P a s'→P' a s')→wpAny M A t P' E s:=fun a b=>wpAny_mono a b fun _ _ y=>y
 unfold comprehension
 rw [hclos]
 show wpAny M A (eval iter env >>= _) Q E s
 refine wpAny_bind (go h fun x s1 q1=>wpAny_bind (wpAny_standAt (wpAny_bind (wpAny_of_eq (hs x) (wpAny_bind (wpAny_holding (go q1 fun it s2 q2=>?_)))))))
 refine wpAny_standIf (wpAny_bind (go q2 fun acc s3 q3=>wpAny_bind (wpAny_pure (wpAny_bind (go q3 fun cenv s4 q4=>?_)))))
 dsimp only
 have hv:∀ x∈(sc.names.filter fun x=>(x.2 == .local||x.2 == .cell)&&x.1 != (".0":Str)).reverse,x.2=.local→Env.kindOf { cenv with scope:=relabel sc env } x.1=some .local:=
  fun x hx hl=>lookup_relabel_local (hnames x (List.mem_filter.mp (List.mem_reverse.mp hx)).1 hl)
 refine wpAny_holding (wpAny_bind (wpAny_attempt (wpAny_holding (wpAny_run (codeAny_mono q4 fun r s5 q5=>?_)))))
 cases r with
 | ok f=>
  obtain ⟨m,hn,q⟩:=q5
  exact wpAny_bind (wpAny_holding (wpAny_comp_letGo (cenv:={ cenv with scope:=relabel sc env }) hkind _ s5 m hv hn fun h' _ _ sb=>wpAny_pure (q h' sb)))
 | error x=>
  obtain ⟨m,hn,q⟩:=q5
  exact wpAny_bind (wpAny_holding (wpAny_comp_letGo (cenv:={ cenv with scope:=relabel sc env }) hkind _ s5 m hv hn fun h' _ _ sb=>wpAny_mono (q h' sb) (fun _ _ f=>f.elim) fun _ _ y=>y))
def Noted (X:Cx) (e:Addr) (h:Heap):Prop:=∃ oe vs T oT ts,h.get? e=some oe∧oe.data=.fields vs∧vs[1]? = some (.ref T)∧h.get? T=some oT∧oT.data=.fields ts∧ts[3]? = some (rawInt X.env.locals)
section
variable {X:Cx}{pins:List (Addr×Obj)}{σ:St}{H:Hp}{s:Shared}{e:Addr}{cls:Value}{pay:Option Addr}{M:Model}{E':Value→Shared→Prop}
theorem note_env {env env':Env}{x:Value} (h:env.frame=env'.frame):noteFrame x env=noteFrame x env':=by
 unfold noteFrame PySem.frameOf
 rw [h]
theorem Landed.notes {env:Env}{R:Shared→Prop} (L:Landed X pins σ H e cls pay s) (hx:X.ex=[]) (hst:X.stack=X.env::X.outer) (hf:X.env.frame=some X.env.locals) (he:env.frame=X.env.frame)
  (k:∀ h4,Landed X pins σ H e cls pay { s with heap:=h4 }→Noted X e h4→s.heap.UpToSlots h4→Kd s.heap h4→R { s with heap:=h4 }):wpAny M X.A (noteFrame (.ref e) env) (fun _ s2=>R s2) E' s:=by
 rw [note_env he]
 obtain ⟨oe,vs,a0,T,oT,ts,h1,h2,h0,h3,t1,t2,tH,tA,t5,t6,t7⟩:=L.ob
 have I:=L.inv
 have hfr:X.A.frames=some (X.env::X.outer):=by rw [← hst];exact I.ok.frames
 have hF:=PySem.W.funFrames_hide (as:=frs X.stack++[e,T]) I.stack fun env' he a ha=>List.mem_append_left _ (List.mem_filterMap.mpr ⟨env',he,ha⟩)
 rcases t7 with t7 | t7
 ·have F:Heap.FlyingW (PySem.W.hideAll s.heap (frs X.stack++[e,T])) (X.env::X.outer) e cls a0 s.heap:=by
   rw [← hst]
   exact ⟨fun b o q=>PySem.W.of_hideAll _ q,PySem.W.hideAll_none _ (by simp),hF,oe,vs,T,oT,ts,h1,⟨h2,h0⟩,h3,t1,PySem.W.hideAll_none _ (by simp),t2,t5,t6,t7⟩
  refine wpAny_mono (wpAny_dk (dk_note _ _) (wpAny_looks_onW (Q:=fun _ s4=>∃ h4,s4={ s with heap:=h4 }∧Heap.HeldW (PySem.W.hideAll s.heap (frs X.stack++[e,T])) (X.env::X.outer) e cls a0 X.env.locals h4∧s.heap.UpToSlots h4) (E:=fun _ _=>False) hfr hf F fun h4 held up4=>⟨h4,rfl,held,up4⟩)) (fun _ s4 ⟨⟨h4,e4,held,up4⟩,kd4⟩=>?_) fun _ _ z=>z.1.elim
  subst e4
  rw [← hst] at held
  obtain ⟨g1,g2,g3,g4⟩:=held
  refine k h4 (landAt (s:=s) (a0:=a0) (xs:=[e,T]) I hx L.fr L.ap (by simp) (fun x m=>?_) g1 g3 g4 (.inr rfl) up4 L.py kd4) ?_ up4 kd4
  ·rcases List.mem_cons.mp m with z | z
   ·rw [z];exact ⟨L.fr,L.ap⟩
   ·rw [List.mem_singleton.mp z];exact ⟨tH,tA⟩
  ·obtain ⟨o1,v1,T1,o2,v2,r1,_,r3,r4,_,_,r7,r8,r9⟩:=g4
   exact ⟨o1,v1,T1,o2,v2,r1,r3,r4,r7,r8,r9⟩
 ·have F:s.heap.TracedAtW (PySem.W.hideAll s.heap (frs X.stack++[e,T])) e cls a0 (rawInt X.env.locals):=⟨oe,vs,T,oT,ts,h1,⟨h2,h0⟩,h3,t1,PySem.W.hideAll_none _ (by simp),t2,t5,t6,t7⟩
  exact wpAny_noteFrame_againW hf F (k s.heap L ⟨oe,vs,T,oT,ts,h1,h3,t1,t5,t6,t7⟩ (.refl _) (.refl _))
theorem Landed.passes {α:Type}{cenv:Env}{what:String}{Q:α→Shared→Prop}{R:Value→Shared→Prop} (L:Landed X pins σ H e cls pay s) (N:Noted X e s.heap) (hx:X.ex=[]) (hc:cenv.frame=some X.env.locals)
  (k:∀ s',Landed X pins σ H e cls pay s'→R (.ref e) s'):wpAny M X.A (passOn what (.ref e) cenv:Sem α) Q R s:=by
 obtain ⟨oe,vs,a0,T,oT,ts,h1,h2,h0,h3,t1,t2,tH,tA,t5,t6,t7⟩:=L.ob
 obtain ⟨oe',vs',T',oT',ts',g1,g3,g4,g5,g6,g7⟩:=N
 rw [h1] at g1;cases g1
 rw [h3] at g3;cases g3
 rw [t1] at g4;cases g4
 rw [t5] at g5;cases g5
 rw [t6] at g6;cases g6
 have I:=L.inv
 have hsz3:3 < ts.size:=(Array.getElem?_eq_some_iff.mp g7).1
 have hF:=PySem.W.funFrames_hide (as:=frs X.stack++[e,T]) I.stack fun env' he a ha=>List.mem_append_left _ (List.mem_filterMap.mpr ⟨env',he,ha⟩)
 have key:wpAny M X.A (setFlight (.ref e) cenv.frame) (fun _ s'=>∃ h',s'={ s with heap:=h' }∧(∀ b,b≠T→h'.get? b=s.heap.get? b)∧h'.TracedAtW (PySem.W.hideAll s.heap (frs X.stack++[e,T])) e cls a0 (rawInt X.env.locals)) (fun _ _=>False) s:=by
  rw [hc]
  unfold setFlight
  refine wpAny_bind (wpAny_field h1 h3 t1 ?_)
  rw [if_pos (show (Value.ref T != Value.none)=true by simp)]
  have other:∀ b,b≠T→(s.heap.update T (Obj.mapFields (·.setIfInBounds 3 ((some X.env.locals:Option Addr).elim Value.none fun f=>rawInt f)))).get? b=s.heap.get? b:=fun b hb=>Heap.get?_update_other _ _ (Ne.symm hb)
  refine wpAny_setField t5 t6 hsz3 ⟨_,rfl,other,oe,vs,T,_,_,(other e (Ne.symm t2)).trans h1,⟨h2,h0⟩,h3,t1,PySem.W.hideAll_none _ (by simp),t2,Heap.get?_update_self _ t5 (Obj.isFreed_of_fields (Obj.data_mapFields t6 _)),Obj.data_mapFields t6 _,by simp [hsz3]⟩
 unfold PySem.passOn
 refine wpAny_bind (wpAny_field h1 h3 t1 ?_)
 rw [if_neg (by simp)]
 refine wpAny_bind (wpAny_mono (wpAny_dk (dk_setFlight _ _) key) (fun _ s' ⟨⟨h',eh,oth,tr⟩,kd⟩=>?_) fun _ _ z=>z.1.elim)
 subst eh
 have nT:∀ b o,s.heap.get? b=some o→(∀ vs,o.data≠.fields vs)→b≠T:=fun b o hb hn z=>by
  rw [z,t5] at hb;cases hb;exact hn ts t6
 refine wpAny_throw (k _ (landAt (s:=s) (a0:=a0) (xs:=[e,T]) I hx L.fr L.ap (by simp) (fun x m=>?_) (fun b o q=>?_) (hF.of_keeps fun b o hb hn=>⟨o,(oth b (nT b o hb hn)).trans hb,rfl⟩) tr (.inr rfl) (fun b o hb hn=>⟨o.slots,(oth b (nT b o hb hn)).trans hb⟩) L.py kd))
 ·rcases List.mem_cons.mp m with z | z
  ·rw [z];exact ⟨L.fr,L.ap⟩
  ·rw [List.mem_singleton.mp z];exact ⟨tH,tA⟩
 ·refine (oth b fun z=>?_).trans (PySem.W.of_hideAll _ q)
  rw [z,PySem.W.hideAll_none _ (by simp)] at q;cases q
theorem Landed.letGo {σ3:St}{H3:Hp}{s3:Shared}{h':Heap}{m:Str→Option Value} (L:Landed X pins σ H e cls pay s) (N:Noted X e s.heap) (I3:Inv X pins σ3 H3 s3) (hn:s.heap.Ns s3.heap.objs.size m) (hH:H s3.heap.objs.size=none)
  (py:PayOk s.heap H (fun x=>Apart X pins x∧x≠s3.heap.objs.size) e pay) (sb:Heap.SameBut s3.heap.objs.size s.heap h'):Landed X pins σ H e cls pay { s with heap:=h' }∧Noted X e h':=by
 obtain ⟨oe,vs,a0,T,oT,ts,h1,h2,h0,h3,t1,t2,tH,tA,t5,t6,t7⟩:=L.ob
 obtain ⟨oe',vs',T',oT',ts',g1,g3,g4,g5,g6,g7⟩:=N
 rw [h1] at g1;cases g1
 rw [h3] at g3;cases g3
 rw [t1] at g4;cases g4
 rw [t5] at g5;cases g5
 rw [t6] at g6;cases g6
 obtain ⟨o,es,ep,ho,hd,_⟩:=hn
 have ne:e≠s3.heap.objs.size:=fun z=>by rw [z,ho] at h1;cases h1;rw [hd] at h3;cases h3
 have nT:T≠s3.heap.objs.size:=fun z=>by rw [z,ho] at t5;cases t5;rw [hd] at t6;cases t6
 have he:=(sb.2 e ne).trans h1
 have hT:=(sb.2 T nT).trans t5
 have J:Inv X pins σ H { s with heap:=h' }:=L.inv.turned (it:=s3.heap.objs.size) (t':=s.toks) (fun b o hb e=>(sb.2 b hb).trans e) hH (Ne.symm (Nat.ne_of_lt I3.lt)) (.inr I3.sz) (fun x c e=>by
  obtain ⟨v',hv'⟩:=I3.cell x c e
  exact Nat.ne_of_lt hv'.lt) (fun p hp=>Nat.ne_of_lt (Heap.lt_size (I3.pin p hp).1))
 have py':PayOk h' H (Apart X pins) e pay:=by
  obtain ⟨⟨o1,z1,z2⟩,pd⟩:=py
  refine ⟨⟨o1,(sb.2 e ne).trans z1,z2⟩,?_⟩
  cases pay with
  | none=>trivial
  | some n=>
   obtain ⟨o2,dx,t,w1,w2,⟨o3,es3,ep3,w3,w4⟩,w5,w6,w7⟩:=pd
   exact ⟨o2,dx,t,(sb.2 e ne).trans w1,w2,⟨o3,es3,ep3,(sb.2 dx w7).trans w3,w4⟩,w5,w6⟩
 exact ⟨⟨py',J,L.fr,L.ap,oe,vs,a0,T,oT,ts,he,h2,h0,h3,t1,t2,tH,tA,hT,t6,t7⟩,oe,vs,T,oT,ts,he,h3,t1,hT,t6,g7⟩
end
def PXC (X:Cx) (M:List Str) (sc:Scope) (elt:Expr) (te:TX):Prop:=∀ (pins0:List (Addr×Obj)) (σ0:St) (H3:Hp) (s3:Shared) (fp:List Addr),Inv X pins0 σ0 H3 s3→(∀ b∈fp,FpOk X pins0 H3 b)→∀ (pins:List (Addr×Obj)) (s:Shared) (σ:St) (H:Hp) (Q:VK) (E:XK),
 Inv (cxComp X M sc s3 H3 fp) pins σ H s→(∀ b∈fp,∃ o,(b,o)∈pins)→te σ H Q E →
 wpAny (model X.prog X.w) X.A (eval elt (compEnvC sc (cellPairs X.env sc.names []) s3.heap.objs.size X.env)) (EP (cxComp X M sc s3 H3 fp) pins σ Q) (fun e s'=>∃ a cls pay H',e=.ref a∧Landed X pins0 σ0 H' a cls pay s'∧(∃ m,s'.heap.Ns s3.heap.objs.size m)∧(H' s3.heap.objs.size=none∧PayOk s'.heap H' (fun x=>Apart X pins0 x∧x≠s3.heap.objs.size) a pay)∧E cls pay H') s
def tCompX (wi:TI) (js:List (Option Nat)) (g:TG) (te:TX):TX:=fun σ H Q E=>wi σ H fun J H1=>∀ D,H1 D=none →
 ∃ W:Nat→Nat→St→Hp→Prop,(∃ m,W 0 m (iniC js σ) (upd H1 D (.lst [])))∧∀ i m σ' H',W i m σ' H' →
  (J.stop i H'∧Q (.ref D) H')∨(J.go i H'∧∀ x H2,J.yld i H' x H2→g x σ' H2 fun σ3 H3=>te σ3 H3 (fun y H5=>∃ xs,H5 D=some (.lst xs)∧xs.length < sizeLine∧∃ m',m' < m∧W (i + 1) m' σ3 (upd H5 D (.lst (xs++[y])))) E)
section
variable {X:Cx}
theorem comp_blockX {tg iter elt:Expr}{sc:Scope}{pos:Pos}{M:List Str}{js:List (Option Nat)}{g:TG}{te:TX}{pins:List (Addr×Obj)}{σ:St}{H2:Hp}{s2:Shared}{it:Addr}{fp:List Addr}
  {tn:Nat→Heap→Prop}{J:It}{Q:VK}{E:XK}{RR:Value→Env→Result→Shared→Prop} (S:CompScope X M js sc) (hc:X.calm=true∨J.rg=true) (hx:X.ex=[]) (hst:X.stack=X.env::X.outer) (hfr:X.env.frame=some X.env.locals) (I2:Inv X pins σ H2 s2) (T:Turn X.prog X.w X.K tg J fp it tn) (st:tn 0 s2.heap) (hf:∀ b∈fp,FpOk X pins H2 b)
  (hg:∀ s3 H3 fp,PG (cxComp X M sc s3 H3 fp) tg g) (he:PXC X M sc elt te)
  (h:∀ D,H2 D=none→∃ W:Nat→Nat→St→Hp→Prop,(∃ m,W 0 m (iniC js σ) (upd H2 D (.lst [])))∧∀ i m σ' H',W i m σ' H' →
   (J.stop i H'∧Q (.ref D) H')∨(J.go i H'∧∀ x H2,J.yld i H' x H2→g x σ' H2 fun σ3 H3=>te σ3 H3 (fun y H5=>∃ xs,H5 D=some (.lst xs)∧xs.length < sizeLine∧∃ m',m' < m∧W (i + 1) m' σ3 (upd H5 D (.lst (xs++[y])))) E))
  (hR:∀ D s3 H3 s' σ' H',Inv X pins σ H3 s3→(∀ b∈fp,FpOk X pins H3 b)→Inv (cxComp X M sc s3 H3 fp) [] σ' H' s'→Q (.ref D) H'→RR (.ref D) (compEnvC sc (cellPairs X.env sc.names []) s3.heap.objs.size X.env) (.ok .next) s')
  (hRx:∀ D s3 H3 s' a cls pay H',Inv X pins σ H3 s3→Landed X pins σ H' a cls pay s'→Noted X a s'.heap→(∃ m,s'.heap.Ns s3.heap.objs.size m)→H' s3.heap.objs.size=none→PayOk s'.heap H' (fun x=>Apart X pins x∧x≠s3.heap.objs.size) a pay→E cls pay H'→RR (.ref D) (compEnvC sc (cellPairs X.env sc.names []) s3.heap.objs.size X.env) (.error (.ref a)) s') {E0:Value→Shared→Prop} :
  wpAny (model X.prog X.w) X.A (newList []) (fun acc s₃=>wpAny (model X.prog X.w) X.A (newFunctionEnv sc X.env.globals (cellPairs X.env sc.names []) [] X.env.qual none .none (some X.env)) (fun cenv s₄=>
   codeAny (model X.prog X.w) X.A (.compStart (.ListComp elt [⟨tg,iter,[],0⟩] sc pos) 0 (.ref it) acc { cenv with scope:=relabel sc X.env }) (RR acc { cenv with scope:=relabel sc X.env }) s₄) E0 s₃) E0 s2:=by
 have fresh2:H2 s2.heap.objs.size=none:=I2.hok.fresh (Nat.le_refl _)
 obtain ⟨W,⟨m0,w0⟩,turn⟩:=h _ fresh2
 have I3:Inv X pins σ (upd H2 s2.heap.objs.size (.lst [])) { s2 with heap:=s2.heap.push { cls:=.type "list",data:=.seq ([]:List Value).toArray } }:=
  I2.laid (t':=s2.toks) (fun _ _ q=>Heap.get?_push_of_some _ q) (Nat.le_refl _) ⟨Nat.zero_le _,[],0,.nil,Heap.get?_push_size _ rfl⟩
 have fpl:∀ b∈fp,b < s2.heap.objs.size:=fun b hb=>let ⟨_,e,_⟩:=T.obj _ _ st b hb;Heap.lt_size e
 have hf3:∀ b∈fp,FpOk X pins (upd H2 s2.heap.objs.size (.lst [])) b:=fun b hb=>⟨by rw [upd_ne (Nat.ne_of_lt (fpl b hb))];exact (hf b hb).1,(hf b hb).2⟩
 have hsz:(s2.heap.push { cls:=.type "list",data:=.seq ([]:List Value).toArray }).objs.size=s2.heap.objs.size + 1:=Heap.size_push ..
 refine wpAny_newObj_type (wpAny_newFunctionEnv S.nocell (fun y hy=>nomatch hy) (fun h1 hn1 hs1=>?_) S.kind)
 generalize hs3:({ s2 with heap:=s2.heap.push { cls:=.type "list",dict:=none,data:=.seq ([]:List Value).toArray } }:Shared)=s3 at *
 have hk1:∀ b o,s3.heap.get? b=some o→h1.get? b=some o:=fun b o e=>(hs1.2 b (Nat.ne_of_lt (Heap.lt_size e))).trans (Heap.get?_push_of_some _ e)
 have lt3:∀ b∈fp,b < s3.heap.objs.size:=fun b hb=>by rw [← hs3];show b < (s2.heap.push _).objs.size;rw [hsz];exact Nat.lt_succ_of_lt (fpl b hb)
 have I4:Inv (cxComp X M sc s3 (upd H2 s2.heap.objs.size (.lst [])) fp) [] (iniC js σ) (upd H2 s2.heap.objs.size (.lst [])) { s3 with heap:=h1,toks:=s3.toks + ([]:List (Str×Value)).length }:=I3.comp S hf3 lt3 hn1 hk1
 have hg:=hg s3 (upd H2 s2.heap.objs.size (.lst [])) fp
 have stat:∀ {H':Hp},(∀ b∈fp,H' b=none)→∀ b∈fp,FpOk (cxComp X M sc s3 (upd H2 s2.heap.objs.size (.lst [])) fp) [] H' b:=fun {H'} hn b hb=>
  ⟨hn b hb,Nat.ne_of_lt (lt3 b hb),I4.ok.exfs b hb,.inl hb,(I4.ok.exf b hb).2,fun p hp=>absurd (show p∈([]:List (Addr×Obj)) from hp) (by simp)⟩
 have st4:tn 0 h1:=T.keep _ _ _ st fun b hb o e=>hk1 b o (by rw [← hs3];exact Heap.get?_push_of_some _ e)
 have fr4:∀ b∈fp,upd H2 s2.heap.objs.size (.lst []) b=none:=fun b hb=>(hf3 b hb).1
 have loop:codeAny (model X.prog X.w) X.A (.compLoop (.ListComp elt [⟨tg,iter,[],0⟩] sc pos) 0 (.ref it) (.ref s2.heap.objs.size) (compEnvC sc (cellPairs X.env sc.names []) s3.heap.objs.size X.env)) (RR (.ref s2.heap.objs.size) (compEnvC sc (cellPairs X.env sc.names []) s3.heap.objs.size X.env))
   { s3 with heap:=h1,toks:=s3.toks + ([]:List (Str×Value)).length }:=by
  refine comp_loopX (fun n s'=>∃ i σ' H',Inv (cxComp X M sc s3 (upd H2 s2.heap.objs.size (.lst [])) fp) [] σ' H' s'∧tn i s'.heap∧(∀ b∈fp,H' b=none)∧W i n σ' H') ?_ m0 ⟨0,_,_,I4,st4,fr4,w0⟩
  rintro n s5 ⟨i,σ5,H5,I5,st5,fr5,w5⟩
  rcases turn i n σ5 H5 w5 with ⟨stop,q⟩ | ⟨go,step⟩
  ·refine thn (T.done (cxComp X M sc s3 (upd H2 s2.heap.objs.size (.lst [])) fp) rfl rfl rfl hc i [] s5 σ5 H5 _ I5 (stat fr5) st5 stop) fun r s6 ⟨hr,I6⟩=>?_
   subst hr
   exact hR _ _ _ _ _ _ I3 hf3 I6 q
  ·refine thn (T.item (cxComp X M sc s3 (upd H2 s2.heap.objs.size (.lst [])) fp) rfl rfl rfl hc i [] s5 σ5 H5 _ I5 (stat fr5) st5 go) fun r s6 ⟨u,hr,h6⟩=>?_
   subst hr
   refine thn h6 fun _ s7 ⟨x,H7,I7,r7,y7,st7,fr7⟩=>?_
   have I7':=I7.pinned (stat fr7) (T.obj _ _ st7)
   have back:∀ {σ8:St}{H8:Hp}{s8:Shared},Inv (cxComp X M sc s3 (upd H2 s2.heap.objs.size (.lst [])) fp) ([]++pinsAt fp s7.heap) σ8 H8 s8→tn (i + 1) s8.heap∧(∀ b∈fp,H8 b=none):=fun {σ8 H8 s8} I8=>
    ⟨T.keep _ _ _ st7 fun b hb o e=>(I8.pin (b,o) (List.mem_append_right _ (List.mem_append_right _ (mem_pinsAt hb e)))).1,fun b hb=>by
     obtain ⟨o,e,_⟩:=T.obj _ _ st7 b hb
     exact (I8.pin (b,o) (List.mem_append_right _ (List.mem_append_right _ (mem_pinsAt hb e)))).2.1⟩
   refine thn (hg _ s7 σ5 H7 x u _ I7' r7 (step x H7 y7)) fun _ s8 ⟨σ8,H8,I8,q8⟩=>?_
   refine wpAny_tests_nil ?_
   rw [if_pos rfl]
   have al:∀ b∈fp,∃ o,(b,o)∈([]:List (Addr×Obj))++pinsAt fp s7.heap:=fun b hb=>by
    obtain ⟨o,e,_⟩:=T.obj _ _ st7 b hb
    exact ⟨o,List.mem_append_right _ (mem_pinsAt hb e)⟩
   refine wpAny_mono (he pins σ _ s3 fp I3 hf3 _ s8 σ8 H8 _ _ I8 al q8) (fun y s10 ⟨yv,H10,I10,r10,xs,hD,hz,m',hm,w10⟩=>?_) fun x s10 ⟨a,cls,pay,H',ex,L,⟨m1,hn⟩,⟨hH,py⟩,hE⟩=>?_
   ·refine thn (mt_append _ s10 σ8 H10 (.ref s2.heap.objs.size) [yv] (.ref s2.heap.objs.size) [y] (fun v H11=>v=.non∧H11=upd H10 s2.heap.objs.size (.lst (xs++[yv]))) I10 rfl (.cons r10 .nil) ⟨_,xs,yv,rfl,rfl,hD,hz,rfl,rfl⟩) fun _ s11 ⟨v11,H11,I11,_,_,e11⟩=>?_
    subst e11
    obtain ⟨a9,b9⟩:=back I11
    exact ⟨m',hm,i + 1,σ8,_,I11.unpinned,a9,b9,w10⟩
   ·subst ex
    exact L.notes hx hst hfr rfl fun h4 L4 N4 up kd=>hRx _ _ _ _ _ _ _ _ I3 L4 N4 ⟨m1,up.ns hn⟩ hH (py.keep kd (by obtain ⟨oe,_,_,_,_,z,_⟩:=N4;exact ⟨oe,z⟩) up fun _ z=>z) hE
 exact codeAny_compStart_list loop (T.self _ 0 _ _ _ st4 loop)
theorem px_comp {tg iter elt:Expr}{sc:Scope}{pos:Pos}{M:List Str}{js:List (Option Nat)}{wi:TI}{g:TG}{te:TX} (S:CompScope X M js sc) (hc:X.calm=true) (hx:X.ex=[]) (hst:X.stack=X.env::X.outer) (hfr:X.env.frame=some X.env.locals) (hi:PI X.nox tg iter wi)
  (hg:∀ s3 H3 fp,PG (cxComp X M sc s3 H3 fp) tg g) (he:PXC X M sc elt te) (hs:∀ x,foldedSetIterable iter X.env x=pure x:=by intro _;rfl) :
  PX X (.ListComp elt [⟨tg,iter,[],0⟩] sc pos) (tCompX wi js g te):=by
 intro pins s σ H Q E I h
 rw [eval_ListComp]
 refine wp_cmp hs (clos_of fun x hx=>I.ok.has x (S.free x hx)) S.kind S.loc ?_
 refine wpAny_mono (hi pins s σ H _ (I.wish _) h) (fun v s1 h1=>wpAny_mono h1 (fun itv s2 ⟨it,fp,tn,J,H2,e,I2,T,st2,f2,h2⟩=>?_) fun _ _ z=>False.elim z) fun _ _ z=>False.elim z
 subst e
 refine comp_blockX (RR:=fun acc cenv=>CmpEnd (model X.prog X.w) X.A (XEnd X pins σ E) (EP X pins σ Q) acc cenv) S (.inl hc) hx hst hfr I2.unwish T st2 f2 hg he h2 (fun D s3 H3 s' σ' H' I3 f3 J' q=>?_) fun D s3 H3 s' a cls pay H' I3 L N ⟨m,hm⟩ hH py hE=>?_
 ·obtain ⟨m,hm,_⟩:=J'.loc
  exact ⟨m,hm,fun h' hs'=>⟨.ref D,H',I3.uncomp f3 J' hs',rfl,q⟩⟩
 ·refine ⟨m,hm,fun h' sb=>?_⟩
  obtain ⟨L2,N2⟩:=L.letGo N I3 hm hH py sb
  exact L2.passes N2 hx hfr fun s2 L3=>⟨a,cls,pay,H',rfl,L3,hE⟩
theorem pxc_call {cm:Bool}{k:Nat}{f:Addr}{fd:FuncData}{ps M:List Str}{sp:Sp}{x:Str}{p pos:Pos}{e:Expr}{es:List Expr}{t:TA}{sc:Scope} (F:FnOk X.prog X.w X.K X.mg X.base (CXE X.prog X.w) k f fd ps sp cm) (hr:Room k X.A cm) (hx:X.ex=[])
  (hg:∀ s3 H3 fp,Gl (cxComp X M sc s3 H3 fp) x) (hm:X.mg x=some (.ref f)) (hk:PySem.W.keepIn X.K (.ref f)=true) (hb:Binds X.K fd ps []) (ha:∀ s3 H3 fp,PA (cxComp X M sc s3 H3 fp) (e::es) t) (hdb:(x == ("__debug__":Str))=false)
  (he:∀ env,starEach (e::es) env=(false,eval e env)::starEach es env) (hpl:∀ env,(backTo pos (starEach es env)).any (·.1)=false):PXC X M sc (.Call (.Name x p) (e::es) [] pos) (tCallX sp [] t):=by
 intro pins0 σ0 H3 s3 fp I3 hf pins s σ H Q E I al h
 refine wpAny_Call_Name_kw (ld_glob I (hg s3 H3 fp) hm ?_ hdb)
 refine PySem.W.callWith_K (h₀:=X.base) I.ok.mod.kin hk (wpAny_mono (ha s3 H3 fp pos pins s σ H _ I h) (fun us s1 ⟨vs,H1,I1,r,q⟩=>⟨I1.kIn,?_⟩) fun _ _ z=>False.elim z) (he _) (hpl _)
 have hl:us.length=ps.length:=by rw [← r.length,← List.append_nil vs];exact F.len _ _ _ _ q
 refine wpAny_call (codeAny_mono (F.run X.A X.stack s1 H1 ⟨us,[]⟩ (us++[]) (vs++[]) Q E hr I1.env0 (hb s1 us I1.kIn (by rw [List.append_nil];exact hl)) (r.append .nil) q) fun r s' hq=>?_)
 cases r with
 | ok fl=>
  cases fl with
  | ret u=>exact I1.after hq
  | next=>exact False.elim hq
  | brk=>exact False.elim hq
  | cont=>exact False.elim hq
 | error e=>
  obtain ⟨a,H',cls,pay,rfl,os,bare,un,hok,fl,hE⟩:=hq
  have I':Inv (cxComp X M sc s3 H3 fp) pins σ H' s':=I1.call' (ch:=[]) os un hok bare fun b z=>absurd z (by simp)
  have J:Inv X pins0 σ0 H' s':=I3.uncomp hf I' ⟨rfl,fun _ _=>rfl⟩
  obtain ⟨m,hm',_⟩:=I'.loc
  have B:Un (frs X.stack) fp H3 H1 s3.heap s1.heap:=I1.base
  have n3:∀ {x:Addr},s1.heap.get? x=none→s3.heap.get? x=none:=fun {x} n=>by
   cases q3:s3.heap.get? x with
   | none=>rfl
   | some o=>
    exfalso
    by_cases mx:x∈fp
    ·obtain ⟨o',z⟩:=al x mx
     have:=(I1.pin (x,o') (List.mem_append_right _ z)).1
     rw [n] at this;cases this
    ·obtain ⟨o',z⟩:=B.there x o q3 mx
     rw [n] at z;cases z
  have nC:∀ {x:Addr},s1.heap.get? x=none→x≠s3.heap.objs.size:=fun {x} n z=>by
   obtain ⟨m1,⟨o,_,_,ho,_⟩,_⟩:=I1.loc
   have ho:s1.heap.get? s3.heap.objs.size=some o:=ho
   rw [← z,n] at ho;cases ho
  obtain ⟨oe,vs',a0,T,oT,ts,h1,h2,h0,h3,t1,t2,t3,t4,t5,t6,t7⟩:=fl.ob
  exact ⟨a,cls,pay,H',rfl,⟨fl.py.imp fun _ z=>I3.apart hx (n3 z),J,fl.fr,I3.apart hx (n3 fl.nw),oe,vs',a0,T,oT,ts,h1,h2,h0,h3,t1,t2,t4,I3.apart hx (n3 t3),t5,t6,.inl t7⟩,⟨m,hm'⟩,⟨I'.free,fl.py.imp fun _ z=>⟨I3.apart hx (n3 z),nC z⟩⟩,hE⟩
end
end L2
namespace L2.Ev
open PySem PySem.Spec PyProof.Rows
def taS (K:PySem.W.Frag) (g:AF):TA:=fun σ H Q=>∃ H0 S z held ρ qs,Ok K H0 S z held ρ σ H∧g ρ=some qs∧∀ H' vs fp,Same H H'→Reps K H' (qs.map (·.1)) vs fp→Q vs H'
theorem FA.pa {X:Cx}{es:List Expr}{g:AF} (h:FA X es g):PA X es (taS X.K g):=by
 obtain ⟨t,p,_,q⟩:=h
 intro pos pins s σ H Q I ⟨H0,S,z,held,ρ,qs,ok,e,k⟩
 exact p pos pins s σ H Q I (q H0 S z held ρ σ H Q qs ok e fun H' vs fp a b _=>k H' vs fp a b)
def cmpR (g:GF) (F:List D→Option Rz) (ga:AF) (ρ:Rho):List D→Option (List D ⊕ XN)
 | []=>some (.inl [])
 | d::ds=>match g d (.sh []) ρ with
  | none=>none
  | some ρ1=>match ga ρ1 with
   | none=>none
   | some ps=>match F (ps.map (·.1)) with
    | none=>none
    | some (.er cn)=>some (.inr cn)
    | some (.ok e)=>match cmpR g F ga ρ ds with
     | none=>none
     | some (.inl es)=>some (.inl (e::es))
     | some (.inr cn)=>some (.inr cn)
def pre (done:List D):List D ⊕ XN→List D ⊕ XN
 | .inl es=>.inl (done++es)
 | .inr cn=>.inr cn
abbrev ZF:=Rho→Option Rz
def Post0 (K:PySem.W.Frag) (z:Addr→Option Nat) (H:Hp) (Q:VK) (E:XK):Rz→Prop
 | .ok d=>∀ H' v fp,Same H H'→Rep K H' d v fp→TagOk z H .own fp→Q v H'
 | .er cn=>∀ H' C,Same H H'→PySem.W.nsIn K mainGlobals cn.1=some (some (.ref C))→E (.ref C) cn.2 H'
def F0 (X:Cx) (e:Expr) (f:ZF):Prop:=∃ t,PX X e t∧∀ (H0:Hp) (S:List Addr) (z:Addr→Option Nat) (held:List Held) (ρ:Rho) (σ:St) (H:Hp) (Q:VK) (E:XK) (r:Rz),
 Ok X.K H0 S z held ρ σ H→f ρ=some r→Post0 X.K z H Q E r→t σ H Q E
def xl (f:ZF):XR:=fun ρ=>match f ρ with
 | some (.ok d)=>some (.ok d ρ)
 | some (.er cn)=>some (.er cn ρ)
 | none=>none
theorem F0.fe {X:Cx}{e:Expr}{f:ZF} (h:F0 X e f):FE X e (xl f):=by
 obtain ⟨t,p,q⟩:=h
 refine ⟨t,p,fun H0 S z held ρ σ H Q E r ok e k=>?_⟩
 unfold xl at e
 cases h1:f ρ with
 | none=>rw [h1] at e;cases e
 | some r1=>
  rw [h1] at e
  refine q H0 S z held ρ σ H Q E r1 ok h1 ?_
  cases r1 with
  | ok d=>cases e;exact fun H' v fp s1 r1 g=>k z H H' v fp ok s1 r1 g
  | er cn=>cases e;exact fun H' C s1 hC=>k z H' C (ok.same s1) hC
def eCompR (js:List (Option Nat)) (it:IF) (g:GF) (F:List D→Option Rz) (ga:AF):ZF:=fun ρ=>match it ρ with
 | none=>none
 | some (ds,_)=>if ds.length < sizeLine then (match cmpR g F ga (iniR js ρ) ds with
  | some (.inl es)=>some (.ok (.lst es))
  | some (.inr cn)=>some (.er cn)
  | none=>none) else none
section
variable {X:Cx}{pos:Pos}
theorem comp_readX {wi:TI}{it:IF}{js:List (Option Nat)}{g:GF}{F:List D→Option Rz}{ga:AF}{is:List Nat} (hjs:∀ i∈is,js[i]? = some none)
  (si:∀ (H0:Hp) (S:List Addr) (z:Addr→Option Nat) (held:List Held) (ρ:Rho) (σ:St) (H:Hp) (R:It→Hp→Prop) (ds:List D) (t:Tag),
   Ok X.K H0 S z held ρ σ H→it ρ=some (ds,t)→(∀ H1 J hv,Same H H1→(∀ h∈hv,Rep X.K H1 h.d h.v h.fp∧∀ a∈h.fp,∀ j,z a=some j→∃ o,t=.sh o∧j∈o)→ItOk X.K J ds hv→R J H1)→wi σ H R)
  (H0:Hp) (S:List Addr) (z:Addr→Option Nat) (held:List Held) (ρ:Rho) (σ:St) (H:Hp) (Q:VK) (E:XK) (r:Rz) (ok:Ok X.K H0 S z held ρ σ H) (e:eCompR js it g F ga ρ=some r)
  (k:Post0 X.K z H Q E r):tCompX wi js (tgS X.K g is) (tCallX (spR X.K F) [] (taS X.K ga)) σ H Q E:=by
 unfold eCompR at e
 cases h:it ρ with
 | none=>rw [h] at e;cases e
 | some w=>
  obtain ⟨ds,t⟩:=w
  rw [h] at e
  dsimp only at e
  by_cases hz:ds.length < sizeLine
  ·rw [if_pos hz] at e
   cases hcf:cmpR g F ga (iniR js ρ) ds with
   | none=>rw [hcf] at e;cases e
   | some es=>
    rw [hcf] at e
    refine si H0 S z held ρ σ H _ ds t ok h fun H1 J hv s1 hh itok Dd hDd=>?_
    have ok1:=ok.same s1
    have inner:∀ (σ':St) (H2:Hp),Same H1 H2→(∃ o,H2 Dd=some o)→σ'.length=js.length→(∀ j,j∉is→σ'[j]? = (iniC js σ)[j]?)→Ok X.K H1 [] (fun a=>if a=Dd then some js.length else none) (heldAt (fun _=>none) hv) (iniR js ρ) σ' H2:=by
     intro σ' H2 s2 hoD hlen hag
     have nD:∀ {a:Addr}{o:HO},H1 a=some o→a≠Dd:=fun e=>ne_of_none e hDd
     refine ⟨fun i d t e=>?_,fun p m=>?_,fun a j e=>?_,fun a o e _=>s2 _ _ e,by unfold iniR;rw [List.length_map,hlen]⟩
     ·unfold iniR at e
      rw [List.getElem?_map] at e
      cases hj:js[i]? with
      | none=>rw [hj] at e;cases e
      | some o=>
       rw [hj] at e
       cases o with
       | none=>cases e
       | some j=>
        have e:(match ρ[j]? with | some (some (d,_))=>some (d,Tag.sh []) | _=>none)=some (d,t):=Option.some.inj e
        cases hr:ρ[j]? with
        | none=>rw [hr] at e;cases e
        | some s=>
         rw [hr] at e
         cases s with
         | none=>cases e
         | some p=>
          obtain ⟨d0,t0⟩:=p
          have e1:d0=d∧Tag.sh []=t:=Prod.mk.inj (Option.some.inj e)
          obtain ⟨rfl,rfl⟩:=e1
          obtain ⟨v,fp,hs,r,_⟩:=ok1.sl j d0 t0 hr
          have hi:i∉is:=fun m=>by rw [hjs i m] at hj;cases hj
          refine ⟨v,fp,?_,r.same s2,fun a m q e=>?_⟩
          ·rw [hag i hi]
           unfold iniC
           rw [List.getElem?_map,hj]
           show some ((σ[j]?).join)=some (some v)
           rw [hs];rfl
          ·obtain ⟨o,w,_⟩:=r.dom a m
           dsimp only at e
           rw [if_neg (nD w)] at e
           cases e
     ·obtain ⟨h,hm,rfl⟩:=List.mem_map.mp m
      refine ⟨(hh h hm).1.same s2,fun a ha q e=>?_⟩
      obtain ⟨o,w,_⟩:=(hh h hm).1.dom a ha
      rw [if_neg (nD w)] at e
      cases e
     ·by_cases w:a=Dd
      ·rw [w];exact ⟨hoD,.inl hDd⟩
      ·rw [if_neg w] at e;cases e
    refine ⟨fun i m σ' H'=>m=ds.length - i∧Same H1 H'∧σ'.length=js.length∧(∀ j,j∉is→σ'[j]? = (iniC js σ)[j]?)∧∃ done rest vs fp,H' Dd=some (.lst vs)∧Reps X.K H' done vs fp∧fp.Nodup∧(∀ a∈fp,H1 a=none∧a≠Dd) ∧
     cmpR g F ga (iniR js ρ) (ds.drop i)=some rest∧pre done rest=es∧done.length≤i,?_,?_⟩
    ·refine ⟨ds.length,rfl,fun b o e=>by rw [upd_ne (ne_of_none e hDd)];exact e,by unfold iniC;rw [List.length_map],fun _ _=>rfl,[],es,[],[],upd_same,.nil,List.nodup_nil,(fun a m=>nomatch m),hcf,(by cases es <;> rfl),Nat.le_refl _⟩
    ·rintro i m σ' H' ⟨rfl,sH,hlen,hag,done,rest,vs,fp,hD,rs,nd,fr,hr,hpre,hle⟩
     obtain ⟨go,stop⟩:=itok H' i fun h m=>(hh h m).1.same sH
     by_cases hl:ds.length≤i
     ·refine .inl ⟨stop hl,?_⟩
      rw [List.drop_eq_nil_of_le hl] at hr
      cases hr
      subst hpre
      cases e
      refine k H' (.ref Dd) (Dd::fp) (s1.trans sH) (Rep.lst hD (by rw [List.append_nil];exact rs)) ⟨List.nodup_cons.mpr ⟨fun m=>(fr Dd m).2 rfl,nd⟩,fun a m=>?_⟩
      rcases List.mem_cons.mp m with e | m
      ·rw [e];exact s1.free hDd
      ·exact s1.free (fr a m).1
     ·have hlt:i < ds.length:=Nat.lt_of_not_le hl
      rw [List.drop_eq_getElem_cons hlt] at hr
      obtain ⟨g1,g2⟩:=go ds[i] (List.getElem?_eq_getElem hlt)
      refine .inr ⟨g1,fun x H2 y=>?_⟩
      obtain ⟨s2,fp2,r2,sub⟩:=g2 x H2 y
      have ok2:=inner σ' H' sH ⟨_,hD⟩ hlen hag
      unfold cmpR at hr
      cases hg1:g ds[i] (.sh []) (iniR js ρ) with
      | none=>rw [hg1] at hr;cases hr
      | some ρ1=>
       rw [hg1] at hr
       dsimp only at hr
       have tko:TagOk (fun a=>if a=Dd then some js.length else none) H' (.sh []) fp2:=fun a m j e=>by
        obtain ⟨h,hm,ha⟩:=sub a m
        obtain ⟨o,w,_⟩:=(hh h hm).1.dom a ha
        dsimp only at e
        rw [if_neg (ne_of_none w hDd)] at e
        cases e
       refine ⟨H1,[],_,_,iniR js ρ,H',ds[i],.sh [],fp2,ρ1,ok2,s2,r2,tko,hg1,fun z3 σ3 ok3 ag3=>?_⟩
       have len3:σ3.length=js.length:=ag3.1.trans hlen
       have agc:∀ j,j∉is→σ3[j]? = (iniC js σ)[j]? :=fun j hj=>(ag3.2 j hj).trans (hag j hj)
       cases hga:ga ρ1 with
       | none=>rw [hga] at hr;cases hr
       | some qs=>
        rw [hga] at hr
        dsimp only at hr
        refine ⟨H1,[],z3,_,ρ1,qs,ok3,hga,fun H4 us fpa s4 ra=>?_⟩
        dsimp only
        rw [List.append_nil]
        have s14:Same H1 H4:=(sH.trans s2).trans s4
        have s04:Same H' H4:=s2.trans s4
        cases hF:F (qs.map (·.1)) with
        | none=>rw [hF] at hr;cases hr
        | some rz=>
         rw [hF] at hr
         refine ⟨_,fpa,rz,ra,hF,?_⟩
         cases rz with
         | er cn=>
          intro H5 C s5 hC
          cases hr
          subst hpre
          cases e
          exact k H5 C (s1.trans (s14.trans s5)) hC
         | ok y=>
          intro H5 yv fy s5 ry ndy fry
          dsimp only at hr
          cases hrest:cmpR g F ga (iniR js ρ) (ds.drop (i + 1)) with
          | none=>rw [hrest] at hr;cases hr
          | some r'=>
           rw [hrest] at hr
           have s05:Same H' H5:=s04.trans s5
           have hD5:H5 Dd=some (.lst vs):=s05 _ _ hD
           have lv:vs.length < sizeLine:=by rw [← rs.length];omega
           have im:Imm H5 (upd H5 Dd (.lst (vs++[yv]))):=Imm.upd hD5 rfl
           have n1:∀ a∈fp++fy,a≠Dd:=fun a m=>by
            rcases List.mem_append.mp m with m | m
            ·exact (fr a m).2
            ·intro e
             have:=fry a m
             rw [e,s04 _ _ hD] at this;cases this
           have rs5:Reps X.K H5 (done++[y]) (vs++[yv]) (fp++fy):=by
            have q:=Reps.append (rs.same s05) (Reps.cons ry .nil)
            rw [List.append_nil] at q
            exact q
           refine ⟨vs,hD5,lv,ds.length - (i + 1),by omega,rfl,fun b o e=>?_,len3,agc,done++[y],r',vs++[yv],fp++fy,upd_same,rs5.frame (fun a m=>upd_ne (n1 a m)) im,?_,fun a m=>?_,rfl,?_,?_⟩
           ·rw [upd_ne (ne_of_none e hDd)]
            exact s5 _ _ (s14 _ _ e)
           ·refine List.nodup_append.mpr ⟨nd,ndy,fun a m b m' e=>?_⟩
            subst e
            obtain ⟨o,w,_⟩:=(rs.same s04).dom a m
            rw [fry a m'] at w;cases w
           ·refine ⟨?_,n1 a m⟩
            rcases List.mem_append.mp m with m | m
            ·exact (fr a m).1
            ·exact s14.free (fry a m)
           ·cases r' with
            | inl es'=>cases hr;rw [← hpre];simp [pre]
            | inr cn=>cases hr;exact hpre
           ·rw [List.length_append,List.length_singleton];omega
  ·rw [if_neg hz] at e;cases e
theorem f0_comp {tg iter e:Expr}{es:List Expr}{x:Str}{p p2:Pos}{sc:Scope}{M ps:List Str}{js:List (Option Nat)}{it:IF}{g:GF}{F:List D→Option Rz}{ga:AF}{is:List Nat}{k:Nat}{f:Addr}{fd:FuncData} (S:CompScope X M js sc) (hc:X.calm=true) (hx:X.ex=[]) (hi:FI X.nox tg iter it) (hjs:∀ i∈is,js[i]? = some none)
  (GG:FnOk X.prog X.w X.K X.mg X.base (CXE X.prog X.w) k f fd ps (spR X.K F)) (hr:Room k X.A) (hm:X.mg x=some (.ref f)) (hk:PySem.W.keepIn X.K (.ref f)=true) (hb:Binds X.K fd ps [])
  (hg:∀ s3 H3 fp,FG (cxComp X M sc s3 H3 fp) tg g is) (ha:∀ s3 H3 fp,FA (cxComp X M sc s3 H3 fp) (e::es) ga) (hgl:∀ s3 H3 fp,Gl (cxComp X M sc s3 H3 fp) x:=by intro _ _ _;rfl)
  (hst:X.stack=X.env::X.outer:=by rfl) (hfr:X.env.frame=some X.env.locals:=by rfl) (hdb:(x == ("__debug__":Str))=false:=by decide)
  (he:∀ env,starEach (e::es) env=(false,eval e env)::starEach es env:=by intro _;rfl) (hpl:∀ env,(backTo p2 (starEach es env)).any (·.1)=false:=by intro _;rfl) (hs:∀ x,foldedSetIterable iter X.env x=pure x:=by intro _;rfl) :
  F0 X (.ListComp (.Call (.Name x p) (e::es) [] p2) [⟨tg,iter,[],0⟩] sc pos) (eCompR js it g F ga):=by
 obtain ⟨wi,pi,si⟩:=hi
 exact ⟨_,px_comp (g:=tgS X.K g is) S hc hx hst hfr pi (fun s3 H3 fp=>(hg s3 H3 fp).pg) (pxc_call GG hr hx hgl hm hk hb (fun s3 H3 fp=>(ha s3 H3 fp).pa) hdb he hpl) hs,fun H0 S z held ρ σ H Q E r ok e k=>comp_readX hjs si H0 S z held ρ σ H Q E r ok e k⟩
end
end L2.Ev
namespace L2
open PySem PySem.Spec PyProof.Rows
abbrev TAX:=St→Hp→(List V→Hp→Prop)→XK→Prop
def PAX (X:Cx) (es:List Expr) (t:TAX):Prop:=∀ (pos:Pos) (pins:List (Addr×Obj)) (s:Shared) (σ:St) (H:Hp) (Q:List V→Hp→Prop) (E:XK),Inv X pins σ H s→t σ H Q E→wpAny (model X.prog X.w) X.A (spliced (backTo pos (starEach es X.env))) (AP X pins σ Q) (XEnd X pins σ E) s
section
variable {X:Cx}{e:Expr}{es:List Expr}{te:TX}{t:TAX}{pos p:Pos}{x:Str}
theorem pax_nil:PAX X [] (fun _ H Q _=>Q [] H):=fun _ _ _ _ H Q _ I h=>Calls.spliced_nil ⟨[],H,I,.nil,h⟩
theorem pax_cons (ha:PX X e te) (hr:PAX X es t) (hs:starEach (e::es) X.env=(false,eval e X.env)::starEach es X.env:=by rfl):PAX X (e::es) (fun σ H Q E=>te σ H (fun x H1=>t σ H1 (fun xs H2=>Q (x::xs) H2) E) E):=by
 intro pos pins s σ H Q E I h
 rw [hs]
 refine Calls.spliced_cons (thn (ha pins s σ H _ E I h) fun u s1 ⟨x,H1,I1,r1,q1⟩=>?_)
 exact thn (hr pos pins s1 σ H1 _ E I1 q1) fun us s2 ⟨xs,H2,I2,r2,q2⟩=>⟨x::xs,H2,I2,.cons r1 r2,q2⟩
theorem px_of {te:TE} (h:PE X.nox e te):PX X e (fun σ H Q _=>te σ H Q):=fun pins s σ H Q E I hq=>pe_x h I hq
theorem px_tup {x1} (h:PAX X es t):PX X (.Tuple es x1 pos) (fun σ H Q E=>t σ H (fun xs H1=>xs.length≤sizeLine∧∀ p,H1 p=none→Q (.ref p) (upd H1 p (.tup xs))) E):=by
 intro pins s σ H Q E I hq
 refine wpAny_Tuple_spliced (thn (h pos pins s σ H _ E I hq) fun us s1 ⟨xs,H1,I1,r,z,q⟩=>⟨by rw [← r.length];exact z,?_⟩)
 have hf:H1 s1.heap.objs.size=none:=I1.hok.fresh (Nat.le_refl _)
 refine ⟨.ref s1.heap.objs.size,upd H1 s1.heap.objs.size (.tup xs),I1.laid (t':=s1.toks) (fun b u e=>Heap.get?_push_of_some _ e) (Nat.le_refl _) ?_,rfl,q _ hf⟩
 exact ⟨z,us,r,⟨_,Heap.get?_push_size _ rfl,rfl,rfl,_,rfl⟩⟩
theorem px_callE {cm:Bool}{k:Nat}{f:Addr}{fd:FuncData}{ps:List Str}{sp:Sp} (F:FnOk X.prog X.w X.K X.mg X.base (CXE X.prog X.w) k f fd ps sp cm) (hr:Room k X.A cm) (hx:X.ex=[]) (hg:Gl X x) (hm:X.mg x=some (.ref f)) (hk:PySem.W.keepIn X.K (.ref f)=true) (hb:Binds X.K fd ps [])
  (ha:PAX X (e::es) t) (hdb:(x == ("__debug__":Str))=false:=by decide) (he:starEach (e::es) X.env=(false,eval e X.env)::starEach es X.env:=by rfl) (hpl:(backTo pos (starEach es X.env)).any (·.1)=false:=by rfl) :
  PX X (.Call (.Name x p) (e::es) [] pos) (fun σ H Q E=>t σ H (fun vs H1=>sp (vs++[]) H1 Q E) E):=by
 intro pins s σ H Q E I h
 refine wpAny_Call_Name_kw (ld_glob I hg hm ?_ hdb)
 exact PySem.W.callWith_K (h₀:=X.base) I.ok.mod.kin hk (thn (ha pos pins s σ H _ E I h) fun us s1 ⟨vs,H1,I1,r,q⟩=>⟨I1.kIn,run_fnX F hr hb .nil hx I1 r q⟩) he hpl
theorem px_callTy {T:String}{r:List V→Hp→VK→Prop} (hc:CallR X.nox (.type T) r) (hg:Gl X x) (hm:X.mg x=none) (hv:bootBuiltins x=some (.type T)) (ha:PAX X (e::es) t) (hn:x≠"__name__":=by decide) (hdb:(x == ("__debug__":Str))=false:=by decide)
  (he:starEach (e::es) X.env=(false,eval e X.env)::starEach es X.env:=by rfl) (hpl:(backTo pos (starEach es X.env)).any (·.1)=false:=by rfl):PX X (.Call (.Name x p) (e::es) [] pos) (fun σ H Q E=>t σ H (fun vs H1=>r vs H1 Q) E):=by
 intro pins s σ H Q E I h
 refine wpAny_Call_Name_kw (ld_blt I hg hm hv ?_ hn hdb)
 exact PyProof.Rows.callWith_type1 (thn (ha pos pins s σ H _ E I h) fun us s1 ⟨vs,H1,I1,r1,q1⟩=>wpAny_mono (hc pins s1 σ H1 vs us Q (I1.wish _) r1 q1) (fun v s2 ⟨y,H2,I2,q2⟩=>⟨y,H2,I2.unwish,q2⟩) fun _ _ z=>False.elim z) he hpl
end
end L2
namespace L2.Ev
open PySem PySem.Spec PyProof.Rows
abbrev ZA:=Rho→Option (List D ⊕ XN)
def PostA (K:PySem.W.Frag) (H:Hp) (Q:List V→Hp→Prop) (E:XK):List D ⊕ XN→Prop
 | .inl ds=>∀ H' vs fp,Same H H'→Reps K H' ds vs fp→Q vs H'
 | .inr cn=>∀ H' C,Same H H'→PySem.W.nsIn K mainGlobals cn.1=some (some (.ref C))→E (.ref C) cn.2 H'
def A0 (X:Cx) (es:List Expr) (g:ZA):Prop:=∃ t,PAX X es t∧∀ (H0:Hp) (S:List Addr) (z:Addr→Option Nat) (held:List Held) (ρ:Rho) (σ:St) (H:Hp) (Q:List V→Hp→Prop) (E:XK) (r:List D ⊕ XN),
 Ok X.K H0 S z held ρ σ H→g ρ=some r→PostA X.K H Q E r→t σ H Q E
def z0:ZA:=fun _=>some (.inl [])
def consZ (d:D):Option (List D ⊕ XN)→Option (List D ⊕ XN)
 | some (.inl ds)=>some (.inl (d::ds))
 | o=>o
def zP (f:EF) (g:ZA):ZA:=fun ρ=>match f ρ with
 | some (d,_)=>consZ d (g ρ)
 | none=>none
def zE (f:ZF) (g:ZA):ZA:=fun ρ=>match f ρ with
 | some (.ok d)=>consZ d (g ρ)
 | some (.er cn)=>some (.inr cn)
 | none=>none
section
variable {X:Cx}{e:Expr}{es:List Expr}{f:ZF}{g:ZA}{pos p:Pos}{x:Str}
theorem a0_nil:A0 X [] z0:=⟨_,pax_nil,fun H0 S z held ρ σ H Q E r ok e k=>by cases e;exact k H [] [] (Same.refl H) .nil⟩
theorem consZ_of {d:D}{o:Option (List D ⊕ XN)}{r:List D ⊕ XN} (h:consZ d o=some r):(∃ ds,o=some (.inl ds)∧r=.inl (d::ds))∨∃ cn,o=some (.inr cn)∧r=.inr cn:=by
 cases o with
 | none=>cases h
 | some w=>
  cases w with
  | inl ds=>cases h;exact .inl ⟨ds,rfl,rfl⟩
  | inr cn=>cases h;exact .inr ⟨cn,rfl,rfl⟩
theorem a0_P {f:EF} (ha:FP X.nox e f) (hr:A0 X es g) (hs:starEach (e::es) X.env=(false,eval e X.env)::starEach es X.env:=by rfl):A0 X (e::es) (zP f g):=by
 obtain ⟨te,pe,qe⟩:=ha
 obtain ⟨t,pa,qa⟩:=hr
 refine ⟨_,pax_cons (px_of pe) pa hs,fun H0 S z held ρ σ H Q E r ok e k=>?_⟩
 unfold zP at e
 cases h1:f ρ with
 | none=>rw [h1] at e;cases e
 | some w=>
  obtain ⟨d,tg⟩:=w
  rw [h1] at e
  refine qe H0 S z held ρ σ H _ d tg ok h1 fun H1 v fp s1 r1 _=>?_
  rcases consZ_of e with ⟨ds,h2,rfl⟩ | ⟨cn,h2,rfl⟩
  ·exact qa H0 S z held ρ σ H1 _ E _ (ok.same s1) h2 fun H2 vs fps s2 rs=>k H2 _ _ (s1.trans s2) (.cons (r1.same s2) rs)
  ·exact qa H0 S z held ρ σ H1 _ E _ (ok.same s1) h2 fun H2 C s2 hC=>k H2 C (s1.trans s2) hC
theorem a0_E (ha:F0 X e f) (hr:A0 X es g) (hs:starEach (e::es) X.env=(false,eval e X.env)::starEach es X.env:=by rfl):A0 X (e::es) (zE f g):=by
 obtain ⟨te,pe,qe⟩:=ha
 obtain ⟨t,pa,qa⟩:=hr
 refine ⟨_,pax_cons pe pa hs,fun H0 S z held ρ σ H Q E r ok e k=>?_⟩
 unfold zE at e
 cases h1:f ρ with
 | none=>rw [h1] at e;cases e
 | some w=>
  rw [h1] at e
  refine qe H0 S z held ρ σ H _ E w ok h1 ?_
  cases w with
  | er cn=>cases e;exact k
  | ok d=>
   intro H1 v fp s1 r1 _
   rcases consZ_of e with ⟨ds,h2,rfl⟩ | ⟨cn,h2,rfl⟩
   ·exact qa H0 S z held ρ σ H1 _ E _ (ok.same s1) h2 fun H2 vs fps s2 rs=>k H2 _ _ (s1.trans s2) (.cons (r1.same s2) rs)
   ·exact qa H0 S z held ρ σ H1 _ E _ (ok.same s1) h2 fun H2 C s2 hC=>k H2 C (s1.trans s2) hC
def zCall (F:List D→Option Rz) (g:ZA):ZF:=fun ρ=>match g ρ with
 | some (.inl ds)=>F ds
 | some (.inr cn)=>some (.er cn)
 | none=>none
theorem f0_call {k:Nat}{fa:Addr}{fd:FuncData}{ps:List Str}{F:List D→Option Rz} (GG:FnOk X.prog X.w X.K X.mg X.base (CXE X.prog X.w) k fa fd ps (spR X.K F)) (hr:Room k X.A) (hm:X.mg x=some (.ref fa)) (hk:PySem.W.keepIn X.K (.ref fa)=true) (hb:Binds X.K fd ps []) (ha:A0 X (e::es) g)
  (hx:X.ex=[]:=by rfl) (hg:Gl X x:=by rfl) (hdb:(x == ("__debug__":Str))=false:=by decide)
  (he:starEach (e::es) X.env=(false,eval e X.env)::starEach es X.env:=by rfl) (hpl:(backTo pos (starEach es X.env)).any (·.1)=false:=by rfl):F0 X (.Call (.Name x p) (e::es) [] pos) (zCall F g):=by
 obtain ⟨t,pa,qa⟩:=ha
 refine ⟨_,px_callE GG hr hx hg hm hk hb pa hdb he hpl,fun H0 S z held ρ σ H Q E r ok e k=>?_⟩
 unfold zCall at e
 cases h1:g ρ with
 | none=>rw [h1] at e;cases e
 | some w=>
  rw [h1] at e
  refine qa H0 S z held ρ σ H _ E w ok h1 ?_
  cases w with
  | inr cn=>cases e;exact k
  | inl ds=>
   intro H1 vs fp s1 rs
   rw [List.append_nil]
   refine ⟨ds,fp,r,rs,e,?_⟩
   cases r with
   | ok d=>exact fun H2 v fp' s2 r2 nd fr=>k H2 v fp' (s1.trans s2) r2 ⟨nd,fun a m=>s1.free (fr a m)⟩
   | er cn=>exact fun H2 C s2 hC=>k H2 C (s1.trans s2) hC
def zTup (g:ZA):ZF:=fun ρ=>match g ρ with
 | some (.inl ds)=>if (immAll ds&&decide (ds.length≤sizeLine))=true then some (.ok (.tup ds)) else none
 | some (.inr cn)=>some (.er cn)
 | none=>none
theorem f0_tup {x1} (ha:A0 X es g):F0 X (.Tuple es x1 pos) (zTup g):=by
 obtain ⟨t,pa,qa⟩:=ha
 refine ⟨_,px_tup pa,fun H0 S z held ρ σ H Q E r ok e k=>?_⟩
 unfold zTup at e
 cases h1:g ρ with
 | none=>rw [h1] at e;cases e
 | some w=>
  rw [h1] at e
  refine qa H0 S z held ρ σ H _ E w ok h1 ?_
  cases w with
  | inr cn=>cases e;exact k
  | inl ds=>
   intro H1 vs fp s1 rs
   dsimp only at e
   by_cases hi:(immAll ds&&decide (ds.length≤sizeLine))=true
   ·rw [if_pos hi] at e
    cases e
    obtain ⟨h2,h3⟩:=(Bool.and_eq_true _ _).mp hi
    have hn:=rs.imm h2
    subst hn
    refine ⟨by rw [← rs.length];exact of_decide_eq_true h3,fun q hq=>?_⟩
    have s4:Same H1 (upd H1 q (.tup vs)):=fun b o e=>by rw [upd_ne (ne_of_none e hq)];exact e
    exact k _ _ [] (s1.trans s4) (.tup (SqT.of upd_same) (rs.same s4)) ⟨List.nodup_nil,fun a m=>nomatch m⟩
   ·rw [if_neg hi] at e;cases e
def zTuple (f:ZF):ZF:=fun ρ=>match f ρ with
 | some (.ok (.lst ds))=>if immAll ds=true then some (.ok (.tup ds)) else none
 | some (.er cn)=>some (.er cn)
 | _=>none
theorem f0_tuple (hm:X.mg "tuple"=none) (ha:F0 X e f) (hg:Gl X "tuple":=by rfl) (hs:starEach [e] X.env=[(false,eval e X.env)]:=by rfl):F0 X (.Call (.Name "tuple" p) [e] [] pos) (zTuple f):=by
 obtain ⟨t,pa,qa⟩:=ha
 refine ⟨_,px_callTy call_tuple_of hg hm (show bootBuiltins "tuple"=some (.type "tuple") by decide +kernel) (pax_cons pa pax_nil hs) (he:=hs) (hpl:=rfl),fun H0 S z held ρ σ H Q E r ok e k=>?_⟩
 unfold zTuple at e
 cases h1:f ρ with
 | none=>rw [h1] at e;cases e
 | some w=>
  rw [h1] at e
  refine qa H0 S z held ρ σ H _ E w ok h1 ?_
  cases w with
  | er cn=>cases e;exact k
  | ok d=>
   intro H1 v fp s1 r1 _
   cases d <;> try (cases e;done)
   rename_i ds
   dsimp only at e
   by_cases hi:immAll ds=true
   ·rw [if_pos hi] at e
    cases e
    obtain ⟨w,xs,f,rfl,hq,rs,_⟩:=r1.lst_of
    have hn:=rs.imm hi
    subst hn
    refine ⟨w,xs,rfl,.inl ⟨hq,fun l hl=>?_⟩⟩
    have s4:Same H1 (upd H1 l (.tup xs)):=fun b o e=>by rw [upd_ne (ne_of_none e hl)];exact e
    exact k _ _ [] (s1.trans s4) (.tup (SqT.of upd_same) (rs.same s4)) ⟨List.nodup_nil,fun a m=>nomatch m⟩
   ·rw [if_neg hi] at e;cases e
end
end L2.Ev
namespace L2.Ev
open PySem
section
variable {ρ ρ':Rho}{f:EF}{sf sg:SF}{d d1 d2:D}{t t1 t2:Tag}{i:Nat}{r:Option Out}
theorem sq (h:sf ρ=some (.nx ρ')) (h2:sg ρ'=r):sSeq sf sg ρ=r:=by rw [s_seq,h,s_seqN,h2]
theorem sq_set (h:f ρ=some (d,t)) (h2:sg (setS ρ i d t)=r):sSeq (sSet i f) sg ρ=r:=sq (by unfold sSet;rw [h]) h2
theorem sq_if {tf:TF}{b:Bool} (h:tf ρ=some b) (h2:sSeq (if b=true then sf else sNx) sg ρ=r):sSeq (sIf tf sf sNx) sg ρ=r:=by
 have e:sIf tf sf sNx ρ=(if b=true then sf else sNx) ρ:=by rw [s_if,h];cases b <;> rfl
 rw [s_seq,e,← s_seq,h2]
theorem sq_no {tf:TF} (h:tf ρ=some false) (h2:sg ρ=r):sSeq (sIf tf sf sNx) sg ρ=r:=sq (by rw [s_if,h];rfl) h2
theorem k1e {op:D→Option D} (h:f ρ=some (d,t)) (h2:op d=some d1):e1 op f ρ=some (d1,.own):=by rw [s_e1,h,s_k1,h2];rfl
theorem k2e {op:D→D→Option D}{g:EF} (h:f ρ=some (d1,t1)) (h2:g ρ=some (d2,t2)) (h3:op d1 d2=some d):e2 op f g ρ=some (d,.own):=by rw [s_e2,h,h2,s_k2,h3];rfl
theorem kcall {F:List D→Option D}{g:AF}{ps:List (D×Tag)} (h:g ρ=some ps) (h2:F (ps.map (·.1))=some d):eCall F g ρ=some (d,.own):=by rw [s_call,h,s_bind,h2];rfl
theorem kTV {b:Bool} (h:f ρ=some (.bl b,t)):tV f ρ=some b:=by rw [s_tV,h];rfl
end
end L2.Ev
namespace L2
open PySem PySem.Spec PyProof.Rows
def cutS (z:Str) (lo hi:Option Int):Str:=if ((Builtin.Str.strSliceIndices lo hi 1 z.length).length == z.length)=true then z else ⟨((Builtin.Str.strSliceIndices lo hi 1 z.length).filterMap (z.cps[·]?)).toArray⟩
def rSlS:V→Option Int→Option Int→Hp→VK→Prop:=fun x lo hi H Q=>∃ z,x=.str z∧(cutS z lo hi).length≤sizeLine∧Q (.str (cutS z lo hi)) H
theorem part_of {v:Value}{o:Option Int} (h:IsPart v o):∃ l:Option (Int×Tok),v=partValue l∧l.map (·.1)=o:=by
 cases h with
 | none=>exact ⟨none,rfl,rfl⟩
 | int i t=>exact ⟨some (i,t),rfl,rfl⟩
theorem sl_str {X:Cx}:SlR X rSlS:=by
 intro pins s σ H x v vl vu lo hi sl Q I rx hs pl pu h
 obtain ⟨z,rfl,hz,q⟩:=h
 obtain ⟨t,rfl⟩:=rx
 obtain ⟨l,rfl,rfl⟩:=part_of pl
 obtain ⟨u,rfl,rfl⟩:=part_of pu
 refine ⟨"str",_,PySem.F.slot_str_getitem.lookup,typeIs_str s z t,?_⟩
 refine wpAny_getItem_str_slice (l:=l) (u:=u) (st:=none) hs rfl ?_
 unfold sliceMade slicePicked
 unfold cutS at hz q
 show Made.post (if ((Builtin.Str.strSliceIndices (l.map (·.1)) (u.map (·.1)) 1 z.length).length == z.length)=true then _ else _) _ s
 by_cases hc:((Builtin.Str.strSliceIndices (l.map (·.1)) (u.map (·.1)) 1 z.length).length == z.length)=true
 ·rw [if_pos hc] at hz q ⊢
  exact ⟨.str z,H,I,⟨t,rfl⟩,q⟩
 ·rw [if_neg hc] at hz q ⊢
  exact ⟨hz,.str _,H,I.tok _,⟨_,rfl⟩,q⟩
end L2
namespace L2.Ev
open PySem PySem.Spec PyProof.Rows
section
variable {X:Cx}{a b:Expr}{fa fb:EF}{p p2 pos:Pos}
def oIxS:D→D→Option D
 | .str z,.int i=>if z.length≤sizeLine then (atI z.cps.toList i).map fun c=>.str ⟨#[c]⟩ else none
 | _,_=>none
theorem does_ixS {K:PySem.W.Frag}:Does2 K rIxS oIxS:=by
 intro H x y d1 d2 f1 f2 d Q r1 r2 e k
 cases d1 <;> try (cases e;done)
 cases d2 <;> try (cases e;done)
 rename_i z i
 cases r1
 cases r2
 have e:(if z.length≤sizeLine then (atI z.cps.toList i).map fun c=>D.str ⟨#[c]⟩ else none)=some d:=e
 by_cases hz:z.length≤sizeLine
 ·rw [if_pos hz] at e
  cases hc:atI z.cps.toList i with
  | none=>rw [hc] at e;cases e
  | some c=>
   rw [hc] at e
   cases e
   exact ⟨z,i,c,rfl,rfl,hz,hc,k H _ (Same.refl H) (.str _)⟩
 ·rw [if_neg hz] at e;cases e
theorem fp_ixS (ha:FP X a fa) (hb:FP X b fb) (hs:PlainIx b:=by intro _ _;rfl):FP X (.Subscript a b pos) (e2 oIxS fa fb):=fp_2 does_ixS ha hb fun ta tb pa pb=>pe_ix ix_str pa pb hs
def oNinT:D→D→Option D
 | .str x,.str y=>some (.bl (!(!(Builtin.Str.occurrences y x 0 y.length 1).isEmpty)))
 | _,_=>none
theorem does_ninT {K:PySem.W.Frag}:Does2 K (fun x y H Q=>∃ i j,x=.str i∧y=.str j∧Q (.bl (!(!(Builtin.Str.occurrences j i 0 j.length 1).isEmpty))) H) oNinT:=by
 intro H x y d1 d2 f1 f2 d Q r1 r2 e k
 cases d1 <;> try (cases e;done)
 cases d2 <;> try (cases e;done)
 cases r1
 cases r2
 cases e
 exact ⟨_,_,rfl,rfl,k H _ (Same.refl H) (.bl _)⟩
theorem ft_ninT (ha:FP X a fa) (hb:FP X b fb) (hm:behindInMarks .NotIn b=false:=by rfl):FT X (.Compare a [.NotIn] [b] pos) (tV (e2 oNinT fa fb)):=ft_cmp op_notIn_str does_ninT ha hb hm
def eHdS (fa fh:EF):EF:=fun ρ=>match fa ρ,fh ρ with
 | some (.str z,_),some (.int i,_)=>if (cutS z none (some i)).length≤sizeLine then some (.str (cutS z none (some i)),.own) else none
 | _,_=>none
theorem fp_hdS {fh:EF} (ha:FP X a fa) (hh:FP X b fh):FP X (.Subscript a (.Slice none (some b) none p2) pos) (eHdS fa fh):=by
 obtain ⟨t,p,q⟩:=ha
 obtain ⟨th,ph,qh⟩:=hh
 refine ⟨_,pe_slice sl_str p po_none (po_some ph),fun H0 S z held ρ σ H Q d tg ok e k=>?_⟩
 unfold eHdS at e
 split at e
 ·rename_i z t1 i t2 e1 e2
  by_cases hi:(cutS z none (some i)).length≤sizeLine
  ·rw [if_pos hi] at e
   cases e
   refine q H0 S _ held ρ σ H _ _ t1 ok e1 fun H1 x f1 s1 r1 _=>?_
   refine qh H0 S _ held ρ σ H1 _ _ t2 (ok.same s1) e2 fun H2 y f2 s2 r2 _=>?_
   cases r1
   cases r2
   exact ⟨i,rfl,z,rfl,hi,k H2 _ [] (s1.trans s2) (.str _) ⟨List.nodup_nil,fun a m=>nomatch m⟩⟩
  ·rw [if_neg hi] at e;cases e
 ·cases e
def eTlS (fa fh:EF):EF:=fun ρ=>match fa ρ,fh ρ with
 | some (.str z,_),some (.int i,_)=>if (cutS z (some i) none).length≤sizeLine then some (.str (cutS z (some i) none),.own) else none
 | _,_=>none
theorem fp_tlS {fh:EF} (ha:FP X a fa) (hh:FP X b fh):FP X (.Subscript a (.Slice (some b) none none p2) pos) (eTlS fa fh):=by
 obtain ⟨t,p,q⟩:=ha
 obtain ⟨th,ph,qh⟩:=hh
 refine ⟨_,pe_slice sl_str p (po_some ph) po_none,fun H0 S z held ρ σ H Q d tg ok e k=>?_⟩
 unfold eTlS at e
 split at e
 ·rename_i z t1 i t2 e1 e2
  by_cases hi:(cutS z (some i) none).length≤sizeLine
  ·rw [if_pos hi] at e
   cases e
   refine q H0 S _ held ρ σ H _ _ t1 ok e1 fun H1 x f1 s1 r1 _=>?_
   refine qh H0 S _ held ρ σ H1 _ _ t2 (ok.same s1) e2 fun H2 y f2 s2 r2 _=>?_
   cases r1
   cases r2
   exact ⟨i,rfl,z,rfl,hi,k H2 _ [] (s1.trans s2) (.str _) ⟨List.nodup_nil,fun a m=>nomatch m⟩⟩
  ·rw [if_neg hi] at e;cases e
 ·cases e
end
end L2.Ev
namespace L2
open PySem PySem.Spec PyProof.Rows
section
variable {X:Cx}{e:Expr}{te:TE}
def tFtS (x:Str) (te:TE):TE:=fun σ H Q=>te σ H fun v H1=>∃ y:Str,v=.str y∧y.length≤1000∧Q (.str (Str.empty++x++y)) H1
theorem pe_ftS {x:Str}{j:Nat}{p1 p2 p3:Pos} (hx:x.length≤1000) (he:PE X e te):PE X (.JoinedStr [.Constant (.str x) j p1,.FormattedValue e (-1) none p2] p3) (tFtS x te):=by
 intro pins s σ H Q I h
 have l0:(Str.empty++x).length=x.length:=by rw [strLen_append];show 0 + _=_;omega
 refine JoinedStr_many (joinParts_cons (Calls.Constant_str ⟨by rw [l0,sizeLine_eq];omega,?_⟩))
 refine joinParts_cons (FormattedValue_plain (thn (he pins _ σ H _ (I.tok _) h) fun u s1 ⟨v,H1,I1,r,y,e1,e2,q⟩=>?_))
 subst e1
 obtain ⟨t,rfl⟩:=r
 have l2:(Str.empty++x++y).length≤sizeLine:=by rw [strLen_append,l0,sizeLine_eq];omega
 exact wpAny_formatField_str ⟨l2,joinParts_nil ⟨.str _,H1,I1.tok _,⟨_,rfl⟩,q⟩ l2⟩ ⟨l2,joinParts_nil ⟨.str _,H1,(I1.tok _).tok _,⟨_,rfl⟩,q⟩ l2⟩ (by rw [sizeLine_eq];omega)
end
namespace Ev
section
variable {X:Cx}{a b c:Expr}{fa fb f fl fh:EF}{p p2 pos:Pos}
def oFsS (x:Str):D→Option D
 | .str y=>if y.length≤1000 then some (.str (Str.empty++x++y)) else none
 | _=>none
theorem fp_fsS {x:Str}{j:Nat}{p1 p2 p3:Pos} (hx:x.length≤1000) (h:FP X a f):FP X (.JoinedStr [.Constant (.str x) j p1,.FormattedValue a (-1) none p2] p3) (e1 (oFsS x) f):=by
 obtain ⟨t,p,q⟩:=h
 refine ⟨_,pe_ftS hx p,fun H0 S z held ρ σ H Q d tg ok e0 k=>?_⟩
 obtain ⟨d1,t1,h1,h2,rfl⟩:=e1_of e0
 unfold oFsS at h2
 split at h2
 ·rename_i y
  by_cases hn:y.length≤1000
  ·rw [if_pos hn] at h2
   cases h2
   refine q H0 S z held ρ σ H _ _ _ ok h1 fun H1 v fp s1 r1 _=>?_
   cases r1
   exact ⟨y,rfl,hn,k H1 _ [] s1 (.str _) .nil⟩
  ·rw [if_neg hn] at h2;cases h2
 ·cases h2
def eCutM (fa fl fh:EF):EF:=fun ρ=>match fa ρ,fl ρ,fh ρ with
 | some (.lst ds,_),some (.int i,_),some (.int j,_)=>if immAll ds=true then some (.lst (cutD ds (some i) (some j)),.own) else none
 | _,_,_=>none
theorem fp_cutM (ha:FP X a fa) (hl:FP X b fl) (hh:FP X c fh):FP X (.Subscript a (.Slice (some b) (some c) none p2) pos) (eCutM fa fl fh):=by
 obtain ⟨t,p,q⟩:=ha
 obtain ⟨tl,pl,ql⟩:=hl
 obtain ⟨th,ph,qh⟩:=hh
 refine ⟨_,pe_slice sl_list p (po_some pl) (po_some ph),fun H0 S z held ρ σ H Q d tg ok e k=>?_⟩
 unfold eCutM at e
 split at e
 ·rename_i ds t1 i t2 j t3 e1 e2 e3
  by_cases hi:immAll ds=true
  ·rw [if_pos hi] at e
   cases e
   refine q H0 S z held ρ σ H _ _ t1 ok e1 fun H1 x f1 s1 r1 _=>?_
   refine ql H0 S z held ρ σ H1 _ _ t2 (ok.same s1) e2 fun H2 y f2 s2 r2 _=>?_
   cases r2
   refine ⟨i,rfl,?_⟩
   refine qh H0 S z held ρ σ H2 _ _ t3 (ok.same (s1.trans s2)) e3 fun H3 y f2 s3 r3 _=>?_
   cases r3
   refine ⟨j,rfl,?_⟩
   obtain ⟨w,xs,f,rfl,hq,rs,_⟩:=((r1.same s2).same s3).lst_of
   have hn:=rs.imm hi
   subst hn
   refine ⟨w,xs,rfl,hq,fun p hp=>?_⟩
   have s4:Same H3 (upd H3 p (.lst (cutV xs (some i) (some j)))):=fun b o e=>by rw [upd_ne (ne_of_none e hp)];exact e
   have rr:Reps X.K H3 (cutD ds (some i) (some j)) (cutV xs (some i) (some j)) []:=by
    unfold cutD cutV
    rw [rs.length]
    exact Reps.take0 _ (Reps.drop0 _ rs)
   exact k _ _ [p] (((s1.trans s2).trans s3).trans s4) (.lst upd_same (rr.same s4)) ⟨List.nodup_cons.mpr ⟨by simp,List.nodup_nil⟩,fun a m=>by rw [List.mem_singleton.mp m];exact ((s1.trans s2).trans s3).free hp⟩
  ·rw [if_neg hi] at e;cases e
 ·cases e
def oNinP:D→D→Option D
 | d1,.tup ds=>if (layOk d1&&layOk (.tup ds))=true then some (.bl (!(pys ds).any fun y=>PyData.eqv y (py d1))) else none
 | _,_=>none
def rNinP (K:PySem.W.Frag):R2:=fun x y H Q=>∃ d1 ds f1 f2,Rep K H d1 x f1∧Rep K H (.tup ds) y f2∧layOk d1=true∧layOk (.tup ds)=true∧Q (.bl (!(pys ds).any fun y=>PyData.eqv y (py d1))) H
theorem op_ninP (hu:X.A.units + 64 < cLine):OpR X (compareOp .NotIn) (rNinP X.K):=by
 intro pins s σ H x y v u Q I rx ry h
 obtain ⟨d1,ds,f1,f2,r1,r2,l1,l2,q⟩:=h
 obtain ⟨a1,a2,a3⟩:=lay_of l1
 obtain ⟨b1,b2,b3⟩:=lay_of l2
 obtain ⟨as,ra⟩:=reads_of I r1 rx a1
 obtain ⟨bs,rb⟩:=reads_of I r2 ry b1
 rw [py] at rb b2 b3
 simp only [PyData.canLay0] at b2
 exact SeqAt.notIn_tuple_reads rb ra b2 a2 (by have:=Nat.min_le_right (PyData.depthAll (pys ds)) (py d1).depth;omega) ⟨.bl _,H,I,rfl,q⟩
theorem does_ninP {K:PySem.W.Frag}:Does2 K (rNinP K) oNinP:=by
 intro H x y d1 d2 f1 f2 d Q r1 r2 e k
 cases d2 <;> try (cases e;done)
 rename_i ds
 have e:(if (layOk d1&&layOk (.tup ds))=true then some (D.bl (!(pys ds).any fun y=>PyData.eqv y (py d1))) else none)=some d:=by cases d1 <;> exact e
 by_cases hc:(layOk d1&&layOk (.tup ds))=true
 ·rw [if_pos hc] at e
  cases e
  obtain ⟨c1,c2⟩:=(Bool.and_eq_true _ _).mp hc
  exact ⟨d1,ds,f1,f2,r1,r2,c1,c2,k H _ (Same.refl H) (.bl _)⟩
 ·rw [if_neg hc] at e;cases e
theorem ft_ninP (hu:X.A.units + 64 < cLine) (ha:FP X a fa) (hb:FP X b fb) (hm:behindInMarks .NotIn b=false:=by rfl):FT X (.Compare a [.NotIn] [b] pos) (tV (e2 oNinP fa fb)):=ft_cmp (op_ninP hu) does_ninP ha hb hm
end
end Ev
end L2
namespace K72
open PySem L2 L2.Ev
def top (i:Nat):Stmt:=PySem.Challenge.pw_linegate_k72_rows_refused.main.body.getD i (.Pass ⟨0,0,0,0⟩)
variable {P:Program}{w:World}{K:PySem.W.Frag}{mg:Str→Option Value}{base:Heap}{f:Addr}{fd:FuncData}
abbrev s_words_ahead:Stmt:=top 17
theorem sc_words_ahead:FnScope ["words","mark"] ["words","mark"] (defScope s_words_ahead):=⟨rfl,rfl,rfl,by decide +kernel,rfl,by decide +kernel,by decide +kernel⟩
theorem ok_words_ahead (F:Fun K "words_ahead" "words_ahead" s_words_ahead f fd):FnOk P w K mg base CX0 1 f fd ["words","mark"] (spA K F_wa):=by
 have sc:=sc_words_ahead
 refine F.ok sc_words_ahead (fun vs H Q E h=>wa_len h) fun cdv A outer s H vs Q E hr h=>?_
 exact wa_ok (N:=["words","mark"]) rfl (pt_cmpR op_in_seq (pe_var (i:=1) rfl (Or.inl rfl)) (pe_var (i:=0) rfl (Or.inl rfl)) rfl) (pe_slice sl_list (pe_var (i:=0) rfl (Or.inl rfl)) po_none (po_some (pe_bm PySem.F.plainAttrs_list PySem.F.slot_list_index PySem.F.type_list_index mt_index (pe_var (i:=0) rfl (Or.inl rfl)) (pa_cons (pe_var (i:=1) rfl (Or.inl rfl)) pa_nil rfl)))) (pe_var (i:=0) rfl (Or.inl rfl)) h
abbrev s_is_number:Stmt:=top 22
theorem sc_is_number:FnScope ["word"] ["word"] (defScope s_is_number):=⟨rfl,rfl,rfl,by decide +kernel,rfl,by decide +kernel,by decide +kernel⟩
def B_is_number:SF:=(sSeq (sIf (tNot1 (tAnd2 (tV (eChain oLe oLe (eC (.int 1)) (e1 oLenS (eVar 0)) (eC (.int 12)))) (tV (e1 oAll (eComp [none] (iStrF (eVar 0)) (gN 0) tTrue (e2 oInT (eVar 0) (eC (.str "0123456789")))))))) (sRet (eC (.bl false))) sNx) (sRet (eOr (e2 oEq (eVar 0) (eC (.str "0"))) (e1 oNot (e2 oStarts (eVar 0) (eC (.str "0")))))))
def F_is_number:List D→Option D:=runF 1 1 B_is_number
theorem ok_is_number (g_all:mg "all"=none) (g_len:mg "len"=none) {t_FIGURES:Tok} (m_FIGURES:mg "FIGURES"=some (.str "0123456789" t_FIGURES)) {t_MOST_FIGURES:Tok} (m_MOST_FIGURES:mg "MOST_FIGURES"=some (.int 12 t_MOST_FIGURES)) (F:Fun K "is_number" "is_number" s_is_number f fd):FnOk P w K mg base CX0 1 f fd ["word"] (spF K F_is_number):=by
 have sc:=sc_is_number
 refine fn_F F sc_is_number fun cdv A outer s H E hr=>?_
 have hu:=hu_of hr
 exact (fs_cons (fs_if (ft_not (FW.ft (fw_and (ft_le2 fp_int (fp_lenS g_len (fp_var 0)) (fp_globI m_MOST_FIGURES)) (fw_and1 (ft_val (fp_all rfl g_all (fp_comp (M:=["sign"]) (js:=[none]) (is:=[0]) (compScope_mk (N:=["word"]) (osc:=defScope s_is_number) rfl rfl rfl (by decide +kernel)) rfl (fi_str (fp_var 0)) (by decide) fun s3 H3 fp=>⟨(fg_name 0 (show (["sign"]:List Str).Nodup by decide +kernel)),fts_nil,(fp_inT (fp_var 0) (fp_globS m_FIGURES))⟩))))))) (fs_one (fs_ret fp_bl)) fs_nil) (fs_one (fs_ret (fp_or (fp_eq (fp_var 0) fp_str) (fp_one (fp_not (fp_starts (fp_var 0) fp_str)))))))
abbrev s_read_numbers:Stmt:=top 20
theorem sc_read_numbers:FnScope ["words"] ["words"] (defScope s_read_numbers):=⟨rfl,rfl,rfl,by decide +kernel,rfl,by decide +kernel,by decide +kernel⟩
abbrev s_numbers_behind:Stmt:=top 18
theorem sc_numbers_behind:FnScope ["words","mark","numbers"] ["words","mark"] (defScope s_numbers_behind):=⟨rfl,rfl,rfl,by decide +kernel,rfl,by decide +kernel,by decide +kernel⟩
abbrev s_in_threes:Stmt:=top 19
theorem sc_in_threes:FnScope ["numbers"] ["numbers"] (defScope s_in_threes):=⟨rfl,rfl,rfl,by decide +kernel,rfl,by decide +kernel,by decide +kernel⟩
def B_in_threes:SF:=(sSeq (sIf (tV (e2 oNe (e2 oMod (e1 oLen (eVar 0)) (eC (.int 3))) (eC (.int 0)))) sNo sNx) (sRet (e1 oTuple (eComp [none,some 0] (iR3 (eC (.int 0)) (e1 oLen (eVar 0)) 3) (gN 0) tTrue (eCutP (eVar 1) (eVar 0) (e2 oAdd (eVar 0) (eC (.int 3))))))))
def F_in_threes:List D→Option D:=runF 1 1 B_in_threes
theorem ok_in_threes (g_len:mg "len"=none) (g_range:mg "range"=none) (g_tuple:mg "tuple"=none) (F:Fun K "in_threes" "in_threes" s_in_threes f fd):FnOk P w K mg base CX0 1 f fd ["numbers"] (spF K F_in_threes):=by
 have sc:=sc_in_threes
 refine fn_F F sc_in_threes fun cdv A outer s H E hr=>?_
 have hu:=hu_of hr
 exact (fs_cons (fs_if (ft_ne (fp_mod (fp_len g_len (fp_var 0)) fp_int) fp_int) (fs_one fs_no) fs_nil) (fs_one (fs_ret (fp_tuple g_tuple (fp_comp (M:=["start","numbers"]) (js:=[none,some 0]) (is:=[0]) (compScope_mk (N:=["numbers"]) (osc:=defScope s_in_threes) rfl rfl rfl (by decide +kernel)) rfl (fi_range3P g_range fp_int (fp_len g_len (fp_var 0))) (by decide) fun s3 H3 fp=>⟨(fg_name 0 (show (["start","numbers"]:List Str).Nodup by decide +kernel)),fts_nil,(fp_cutP (fp_var 1) (fp_var 0) (fp_add (fp_var 0) fp_int))⟩)))))
abbrev s_read_ask:Stmt:=top 16
theorem sc_read_ask:FnScope ["words","ahead","rank","leans"] ["words"] (defScope s_read_ask):=⟨rfl,rfl,rfl,by decide +kernel,rfl,by decide +kernel,by decide +kernel⟩
abbrev s_read_row:Stmt:=top 15
theorem sc_read_row:FnScope ["text","words","numbers"] ["text"] (defScope s_read_row):=⟨rfl,rfl,rfl,by decide +kernel,rfl,by decide +kernel,by decide +kernel⟩
abbrev s_L_cell_at:Stmt:=top 24
theorem sc_L_cell_at:FnScope ["_law_script","_law_k"] ["_law_script","_law_k"] (defScope s_L_cell_at):=⟨rfl,rfl,rfl,by decide +kernel,rfl,by decide +kernel,by decide +kernel⟩
def B_L_cell_at:SF:=(sSeq (sIf (tV (e2 oLt (eVar 1) (e1 oLen (eVar 0)))) (sRet (e2 oIx (eVar 0) (eVar 1))) sNx) (sRet (eC (.int 0))))
def F_L_cell_at:List D→Option D:=runF 2 2 B_L_cell_at
theorem ok_L_cell_at (g_len:mg "len"=none) (F:Fun K "_law_cell_at" "_law_cell_at" s_L_cell_at f fd):FnOk P w K mg base CX0 1 f fd ["_law_script","_law_k"] (spF K F_L_cell_at):=by
 have sc:=sc_L_cell_at
 refine fn_F F sc_L_cell_at fun cdv A outer s H E hr=>?_
 have hu:=hu_of hr
 exact (fs_cons (fs_if (ft_lt (fp_var 1) (fp_len g_len (fp_var 0))) (fs_one (fs_ret (fp_ix (fp_var 0) (fp_var 1)))) fs_nil) (fs_one (fs_ret fp_int)))
abbrev s_L_mixed:Stmt:=top 25
theorem sc_L_mixed:FnScope ["_law_number_here","_law_prime","_law_many"] ["_law_number_here","_law_prime","_law_many"] (defScope s_L_mixed):=⟨rfl,rfl,rfl,by decide +kernel,rfl,by decide +kernel,by decide +kernel⟩
def B_L_mixed:SF:=(sRet (e2 oMod (e2 oMod (e2 oMul (e2 oMod (eVar 0) (eC (.int 1000003))) (eC (.int 48271))) (eVar 1)) (eVar 2)))
def F_L_mixed:List D→Option D:=runF 3 3 B_L_mixed
theorem ok_L_mixed (F:Fun K "_law_mixed" "_law_mixed" s_L_mixed f fd):FnOk P w K mg base CX0 1 f fd ["_law_number_here","_law_prime","_law_many"] (spF K F_L_mixed):=by
 have sc:=sc_L_mixed
 refine fn_F F sc_L_mixed fun cdv A outer s H E hr=>?_
 have hu:=hu_of hr
 exact (fs_one (fs_ret (fp_mod (fp_mod (fp_mul (fp_mod (fp_var 0) fp_int) fp_int) (fp_var 1)) (fp_var 2))))
abbrev s_L_number:Stmt:=top 26
theorem sc_L_number:FnScope ["_law_script","_law_at","_law_cell","_law_way"] ["_law_script","_law_at"] (defScope s_L_number):=⟨rfl,rfl,rfl,by decide +kernel,rfl,by decide +kernel,by decide +kernel⟩
def B_L_number:SF:=(sSeq (sSet 2 (eCall F_L_cell_at (aCons (eVar 0) (aCons (e2 oAdd (eC (.int 6)) (eVar 1)) aNil)))) (sSeq (sSet 3 (eCall F_L_mixed (aCons (eVar 2) (aCons (eC (.int 10007)) (aCons (eC (.int 4)) aNil))))) (sSeq (sIf (tV (e2 oEq (eVar 3) (eC (.int 0)))) (sRet (e1 oStr (e2 oMod (eVar 2) (e2 oPow (eC (.int 10)) (eC (.int 12)))))) sNx) (sSeq (sIf (tV (e2 oEq (eVar 3) (eC (.int 1)))) (sRet (e2 oIx (eLstI (aCons (eC (.str "0")) (aCons (eC (.str "10")) (aCons (eC (.str "100000000000")) (aCons (eC (.str "999999999999")) aNil))))) (eCall F_L_mixed (aCons (eVar 2) (aCons (eC (.int 20011)) (aCons (eC (.int 4)) aNil)))))) sNx) (sRet (e1 oStr (eCall F_L_mixed (aCons (eVar 2) (aCons (eC (.int 131071)) (aCons (eC (.int 1000)) aNil))))))))))
def F_L_number:List D→Option D:=runF 2 4 B_L_number
theorem ok_L_number (g_str:mg "str"=none) (W_L_cell_at:FN P w K mg base CX0 1 "_law_cell_at" ["_law_script","_law_k"] (spF K F_L_cell_at)) (W_L_mixed:FN P w K mg base CX0 1 "_law_mixed" ["_law_number_here","_law_prime","_law_many"] (spF K F_L_mixed)) (F:Fun K "_law_number" "_law_number" s_L_number f fd):FnOk P w K mg base CX0 2 f fd ["_law_script","_law_at"] (spF K F_L_number):=by
 obtain ⟨_,_,G_L_cell_at,m_L_cell_at,k_L_cell_at,b_L_cell_at⟩:=W_L_cell_at
 obtain ⟨_,_,G_L_mixed,m_L_mixed,k_L_mixed,b_L_mixed⟩:=W_L_mixed
 have sc:=sc_L_number
 refine fn_F F sc_L_number fun cdv A outer s H E hr=>?_
 have hu:=hu_of hr
 exact (fs_cons (fs_set 2 (fp_call G_L_cell_at (hr.mono (by decide)) m_L_cell_at k_L_cell_at b_L_cell_at (fa_cons (fp_var 0) (fa_cons (fp_add fp_int (fp_var 1)) fa_nil))) sc.nd) (fs_cons (fs_set 3 (fp_call G_L_mixed (hr.mono (by decide)) m_L_mixed k_L_mixed b_L_mixed (fa_cons (fp_var 2) (fa_cons fp_int (fa_cons fp_int fa_nil)))) sc.nd) (fs_cons (fs_if (ft_eq (fp_var 3) fp_int) (fs_one (fs_ret (fp_strC g_str (fp_mod (fp_var 2) (fp_pow fp_int fp_int))))) fs_nil) (fs_cons (fs_if (ft_eq (fp_var 3) fp_int) (fs_one (fs_ret (fp_ix (fp_lstI (fa_cons fp_str (fa_cons fp_str (fa_cons fp_str (fa_cons fp_str fa_nil))))) (fp_call G_L_mixed (hr.mono (by decide)) m_L_mixed k_L_mixed b_L_mixed (fa_cons (fp_var 2) (fa_cons fp_int (fa_cons fp_int fa_nil))))))) fs_nil) (fs_one (fs_ret (fp_strC g_str (fp_call G_L_mixed (hr.mono (by decide)) m_L_mixed k_L_mixed b_L_mixed (fa_cons (fp_var 2) (fa_cons fp_int (fa_cons fp_int fa_nil)))))))))))
abbrev s_L_words:Stmt:=top 27
theorem sc_L_words:FnScope ["_law_script","_law_cell","_law_way","_law_leans","_law_edits","_law_words_here","_law_looked"] ["_law_script"] (defScope s_L_words):=⟨rfl,rfl,rfl,by decide +kernel,rfl,by decide +kernel,by decide +kernel⟩
def B_L_words:SF:=(sSeq (sSet 1 (eCall F_L_cell_at (aCons (eVar 0) (aCons (eC (.int 0)) aNil)))) (sSeq (sSet 2 (eCall F_L_mixed (aCons (eVar 1) (aCons (eC (.int 10007)) (aCons (eC (.int 7)) aNil))))) (sSeq (sIf (tV (e2 oLt (eVar 2) (eC (.int 3)))) (sSeq (sSet 3 (eComp [none,some 0] (iR1 (eCall F_L_mixed (aCons (eVar 1) (aCons (eC (.int 20011)) (aCons (eC (.int 4)) aNil))))) (gN 0) tTrue (eCall F_L_number (aCons (eVar 1) (aCons (e2 oAdd (eC (.int 1)) (eVar 0)) aNil))))) (sSeq (sSet 4 (eComp [none,some 0] (iR1 (e2 oMul (eC (.int 3)) (eCall F_L_mixed (aCons (eVar 1) (aCons (eC (.int 30011)) (aCons (eC (.int 4)) aNil)))))) (gN 0) tTrue (eCall F_L_number (aCons (eVar 1) (aCons (e2 oAdd (eC (.int 4)) (eVar 0)) aNil))))) (sSeq (sSet 5 (eLstI (aCons (eC (.str "ask")) (aCons (eCall F_L_number (aCons (eVar 0) (aCons (eC (.int 0)) aNil))) aNil)))) (sSeq (sIf (tV (e2 oNeP (eVar 3) (eLstI aNil))) (sSet 5 (e2 oCat (e2 oCat (eVar 5) (eLstI (aCons (eC (.str "on")) aNil))) (eVar 3))) sNx) (sSeq (sIf (tV (e2 oNeP (eVar 4) (eLstI aNil))) (sSet 5 (e2 oCat (e2 oCat (eVar 5) (eLstI (aCons (eC (.str "put")) aNil))) (eVar 4))) sNx) (sRetV 5)))))) sNx) (sSeq (sIf (tV (e2 oEq (eVar 2) (eC (.int 3)))) (sRet (eLstI (aCons (eC (.str "withdraw")) (aCons (eCall F_L_number (aCons (eVar 0) (aCons (eC (.int 0)) aNil))) aNil)))) sNx) (sSeq (sIf (tV (e2 oEq (eVar 2) (eC (.int 4)))) (sRet (eLstI (aCons (e2 oIx (eLstI (aCons (eC (.str "stop")) (aCons (eC (.str "go")) aNil))) (eCall F_L_mixed (aCons (eVar 1) (aCons (eC (.int 20011)) (aCons (eC (.int 2)) aNil))))) aNil))) sNx) (sSeq (sSet 6 (eComp [none,some 0] (iR1 (e2 oAdd (eC (.int 1)) (eCall F_L_mixed (aCons (eVar 1) (aCons (eC (.int 30011)) (aCons (eC (.int 4)) aNil)))))) (gN 0) tTrue (eCall F_L_number (aCons (eVar 1) (aCons (eVar 0) aNil))))) (sRet (e2 oCat (eLstI (aCons (e2 oIx (eLstI (aCons (eC (.str "yes")) (aCons (eC (.str "no")) (aCons (eC (.str "unsure")) aNil)))) (eCall F_L_mixed (aCons (eVar 1) (aCons (eC (.int 20011)) (aCons (eC (.int 3)) aNil))))) aNil)) (eVar 6)))))))))
def F_L_words:List D→Option D:=runF 1 7 B_L_words
theorem ok_L_words (g_range:mg "range"=none) (W_L_cell_at:FN P w K mg base CX0 1 "_law_cell_at" ["_law_script","_law_k"] (spF K F_L_cell_at)) (W_L_mixed:FN P w K mg base CX0 1 "_law_mixed" ["_law_number_here","_law_prime","_law_many"] (spF K F_L_mixed)) (W_L_number:FN P w K mg base CX0 2 "_law_number" ["_law_script","_law_at"] (spF K F_L_number)) (F:Fun K "_law_words" "_law_words" s_L_words f fd):FnOk P w K mg base CX0 3 f fd ["_law_script"] (spF K F_L_words):=by
 obtain ⟨_,_,G_L_cell_at,m_L_cell_at,k_L_cell_at,b_L_cell_at⟩:=W_L_cell_at
 obtain ⟨_,_,G_L_mixed,m_L_mixed,k_L_mixed,b_L_mixed⟩:=W_L_mixed
 obtain ⟨_,_,G_L_number,m_L_number,k_L_number,b_L_number⟩:=W_L_number
 have sc:=sc_L_words
 refine fn_F F sc_L_words fun cdv A outer s H E hr=>?_
 have hu:=hu_of hr
 exact (fs_cons (fs_set 1 (fp_call G_L_cell_at (hr.mono (by decide)) m_L_cell_at k_L_cell_at b_L_cell_at (fa_cons (fp_var 0) (fa_cons fp_int fa_nil))) sc.nd) (fs_cons (fs_set 2 (fp_call G_L_mixed (hr.mono (by decide)) m_L_mixed k_L_mixed b_L_mixed (fa_cons (fp_var 1) (fa_cons fp_int (fa_cons fp_int fa_nil)))) sc.nd) (fs_cons (fs_if (ft_lt (fp_var 2) fp_int) (fs_cons (fs_setC 3 (hN:=sc.nd) (M:=["_law_k","_law_script"]) (js:=[none,some 0]) (is:=[0]) (compScope_mk (N:=["_law_script","_law_cell","_law_way","_law_leans","_law_edits","_law_words_here","_law_looked"]) (osc:=defScope s_L_words) rfl rfl rfl (by decide +kernel)) rfl (fi_range1 g_range (fp_call G_L_mixed (hr.mono (by decide)) m_L_mixed k_L_mixed b_L_mixed (fa_cons (fp_var 1) (fa_cons fp_int (fa_cons fp_int fa_nil))))) (by decide) fun s3 H3 fp=>⟨(fg_name 0 (show (["_law_k","_law_script"]:List Str).Nodup by decide +kernel)),fts_nil,(fp_call G_L_number (hr.mono (by decide)) m_L_number k_L_number b_L_number (fa_cons (fp_var 1) (fa_cons (fp_add fp_int (fp_var 0)) fa_nil)))⟩) (fs_cons (fs_setC 4 (hN:=sc.nd) (M:=["_law_k","_law_script"]) (js:=[none,some 0]) (is:=[0]) (compScope_mk (N:=["_law_script","_law_cell","_law_way","_law_leans","_law_edits","_law_words_here","_law_looked"]) (osc:=defScope s_L_words) rfl rfl rfl (by decide +kernel)) rfl (fi_range1 g_range (fp_mul fp_int (fp_call G_L_mixed (hr.mono (by decide)) m_L_mixed k_L_mixed b_L_mixed (fa_cons (fp_var 1) (fa_cons fp_int (fa_cons fp_int fa_nil)))))) (by decide) fun s3 H3 fp=>⟨(fg_name 0 (show (["_law_k","_law_script"]:List Str).Nodup by decide +kernel)),fts_nil,(fp_call G_L_number (hr.mono (by decide)) m_L_number k_L_number b_L_number (fa_cons (fp_var 1) (fa_cons (fp_add fp_int (fp_var 0)) fa_nil)))⟩) (fs_cons (fs_set 5 (fp_lstI (fa_cons fp_str (fa_cons (fp_call G_L_number (hr.mono (by decide)) m_L_number k_L_number b_L_number (fa_cons (fp_var 0) (fa_cons fp_int fa_nil))) fa_nil))) sc.nd) (fs_cons (fs_if (ft_neP hr.units (fp_var 3) (fp_lstI fa_nil)) (fs_one (fs_set 5 (fp_cat (fp_cat (fp_var 5) (fp_lstI (fa_cons fp_str fa_nil))) (fp_var 3)) sc.nd)) fs_nil) (fs_cons (fs_if (ft_neP hr.units (fp_var 4) (fp_lstI fa_nil)) (fs_one (fs_set 5 (fp_cat (fp_cat (fp_var 5) (fp_lstI (fa_cons fp_str fa_nil))) (fp_var 4)) sc.nd)) fs_nil) (fs_one (fs_retV 5))))))) fs_nil) (fs_cons (fs_if (ft_eq (fp_var 2) fp_int) (fs_one (fs_ret (fp_lstI (fa_cons fp_str (fa_cons (fp_call G_L_number (hr.mono (by decide)) m_L_number k_L_number b_L_number (fa_cons (fp_var 0) (fa_cons fp_int fa_nil))) fa_nil))))) fs_nil) (fs_cons (fs_if (ft_eq (fp_var 2) fp_int) (fs_one (fs_ret (fp_lstI (fa_cons (fp_ix (fp_lstI (fa_cons fp_str (fa_cons fp_str fa_nil))) (fp_call G_L_mixed (hr.mono (by decide)) m_L_mixed k_L_mixed b_L_mixed (fa_cons (fp_var 1) (fa_cons fp_int (fa_cons fp_int fa_nil))))) fa_nil)))) fs_nil) (fs_cons (fs_setC 6 (hN:=sc.nd) (M:=["_law_k","_law_script"]) (js:=[none,some 0]) (is:=[0]) (compScope_mk (N:=["_law_script","_law_cell","_law_way","_law_leans","_law_edits","_law_words_here","_law_looked"]) (osc:=defScope s_L_words) rfl rfl rfl (by decide +kernel)) rfl (fi_range1 g_range (fp_add fp_int (fp_call G_L_mixed (hr.mono (by decide)) m_L_mixed k_L_mixed b_L_mixed (fa_cons (fp_var 1) (fa_cons fp_int (fa_cons fp_int fa_nil)))))) (by decide) fun s3 H3 fp=>⟨(fg_name 0 (show (["_law_k","_law_script"]:List Str).Nodup by decide +kernel)),fts_nil,(fp_call G_L_number (hr.mono (by decide)) m_L_number k_L_number b_L_number (fa_cons (fp_var 1) (fa_cons (fp_var 0) fa_nil)))⟩) (fs_one (fs_ret (fp_cat (fp_lstI (fa_cons (fp_ix (fp_lstI (fa_cons fp_str (fa_cons fp_str (fa_cons fp_str fa_nil)))) (fp_call G_L_mixed (hr.mono (by decide)) m_L_mixed k_L_mixed b_L_mixed (fa_cons (fp_var 1) (fa_cons fp_int (fa_cons fp_int fa_nil))))) fa_nil)) (fp_var 6))))))))))
abbrev s_L_odd:Stmt:=top 28
theorem sc_L_odd:FnScope ["_law_cell","_law_odd_here"] ["_law_cell"] (defScope s_L_odd):=⟨rfl,rfl,rfl,by decide +kernel,rfl,by decide +kernel,by decide +kernel⟩
def B_L_odd:SF:=(sSeq (sSet 1 (eLstI (aCons (eC (.str "")) (aCons (eC (.str " ")) (aCons (eC (.str "line")) (aCons (eC (.str "laid")) (aCons (eC (.str "waiting")) (aCons (eC (.str "wanted")) (aCons (eC (.str "sheet")) (aCons (eC (.str "book")) (aCons (eC (.str "back")) (aCons (eC (.str "why 1")) (aCons (eC (.str "ask")) (aCons (eC (.str "yes")) (aCons (eC (.str "no")) (aCons (eC (.str "unsure")) aNil)))))))))))))))) (sSeq (sSet 1 (e2 oCat (eVar 1) (eLstI (aCons (eC (.str "withdraw")) (aCons (eC (.str "stop 1")) (aCons (eC (.str "go go")) (aCons (eC (.str "ask 1 on")) (aCons (eC (.str "ask 1 put")) (aCons (eC (.str "ask 1 put 1 2 3 on 4")) (aCons (eC (.str "ask 1 on 2 on 3")) aNil)))))))))) (sSeq (sSet 1 (e2 oCat (eVar 1) (eLstI (aCons (eC (.str "ask 1 put 1 2 3 put 4 5 6")) (aCons (eC (.str "Stop")) (aCons (eC (.str "1")) (aCons (eC (.str "ask 1 2")) (aCons (eC (.str "withdraw 1 2")) aNil)))))))) (sRet (e2 oIx (eVar 1) (e2 oMod (eVar 0) (eC (.int 26))))))))
def F_L_odd:List D→Option D:=runF 1 2 B_L_odd
theorem ok_L_odd (F:Fun K "_law_odd" "_law_odd" s_L_odd f fd):FnOk P w K mg base CX0 1 f fd ["_law_cell"] (spF K F_L_odd):=by
 have sc:=sc_L_odd
 refine fn_F F sc_L_odd fun cdv A outer s H E hr=>?_
 have hu:=hu_of hr
 exact (fs_cons (fs_set 1 (fp_lstI (fa_cons fp_str (fa_cons fp_str (fa_cons fp_str (fa_cons fp_str (fa_cons fp_str (fa_cons fp_str (fa_cons fp_str (fa_cons fp_str (fa_cons fp_str (fa_cons fp_str (fa_cons fp_str (fa_cons fp_str (fa_cons fp_str (fa_cons fp_str fa_nil))))))))))))))) sc.nd) (fs_cons (fs_set 1 (fp_cat (fp_var 1) (fp_lstI (fa_cons fp_str (fa_cons fp_str (fa_cons fp_str (fa_cons fp_str (fa_cons fp_str (fa_cons fp_str (fa_cons fp_str fa_nil))))))))) sc.nd) (fs_cons (fs_set 1 (fp_cat (fp_var 1) (fp_lstI (fa_cons fp_str (fa_cons fp_str (fa_cons fp_str (fa_cons fp_str (fa_cons fp_str fa_nil))))))) sc.nd) (fs_one (fs_ret (fp_ix (fp_var 1) (fp_mod (fp_var 0) fp_int)))))))
abbrev s_L_sign:Stmt:=top 29
theorem sc_L_sign:FnScope ["_law_cell","_law_line_here","_law_some"] ["_law_cell","_law_line_here"] (defScope s_L_sign):=⟨rfl,rfl,rfl,by decide +kernel,rfl,by decide +kernel,by decide +kernel⟩
def B_L_sign:SF:=(sSeq (sSet 2 (e2 oCatS (eC (.str " 0123456789 on put ask yes no unsure withdraw stop go")) (eVar 1))) (sSeq (sIf (tV (e2 oEq (eCall F_L_mixed (aCons (eVar 0) (aCons (eC (.int 10007)) (aCons (eC (.int 3)) aNil)))) (eC (.int 0)))) (sSet 2 (eC (.str " !\"#$&'()*+,-./0123456789:;<=>?@ABCDEFGHIJKLMNOPQRSTUVWXYZ[\\]^_`abcdefghijklmnopqrstuvwxyz{|}~"))) sNx) (sRet (e2 oIxS (eVar 2) (eCall F_L_mixed (aCons (eVar 0) (aCons (eC (.int 20011)) (aCons (e1 oLenS (eVar 2)) aNil))))))))
def F_L_sign:List D→Option D:=runF 2 3 B_L_sign
theorem ok_L_sign (g_len:mg "len"=none) (W_L_mixed:FN P w K mg base CX0 1 "_law_mixed" ["_law_number_here","_law_prime","_law_many"] (spF K F_L_mixed)) (F:Fun K "_law_sign" "_law_sign" s_L_sign f fd):FnOk P w K mg base CX0 2 f fd ["_law_cell","_law_line_here"] (spF K F_L_sign):=by
 obtain ⟨_,_,G_L_mixed,m_L_mixed,k_L_mixed,b_L_mixed⟩:=W_L_mixed
 have sc:=sc_L_sign
 refine fn_F F sc_L_sign fun cdv A outer s H E hr=>?_
 have hu:=hu_of hr
 exact (fs_cons (fs_set 2 (fp_catS fp_str (fp_var 1)) sc.nd) (fs_cons (fs_if (ft_eq (fp_call G_L_mixed (hr.mono (by decide)) m_L_mixed k_L_mixed b_L_mixed (fa_cons (fp_var 0) (fa_cons fp_int (fa_cons fp_int fa_nil)))) fp_int) (fs_one (fs_set 2 fp_str sc.nd)) fs_nil) (fs_one (fs_ret (fp_ixS (fp_var 2) (fp_call G_L_mixed (hr.mono (by decide)) m_L_mixed k_L_mixed b_L_mixed (fa_cons (fp_var 0) (fa_cons fp_int (fa_cons (fp_lenS g_len (fp_var 2)) fa_nil)))))))))
abbrev s_L_bent:Stmt:=top 30
theorem sc_L_bent:FnScope ["_law_line_here","_law_cell","_law_other","_law_at","_law_sign_here","_law_way"] ["_law_line_here","_law_cell","_law_other"] (defScope s_L_bent):=⟨rfl,rfl,rfl,by decide +kernel,rfl,by decide +kernel,by decide +kernel⟩
def B_L_bent:SF:=(sSeq (sSet 3 (eCall F_L_mixed (aCons (eVar 1) (aCons (eC (.int 30011)) (aCons (e2 oAdd (e1 oLenS (eVar 0)) (eC (.int 1))) aNil))))) (sSeq (sSet 4 (eCall F_L_sign (aCons (eVar 2) (aCons (eVar 0) aNil)))) (sSeq (sSet 5 (eCall F_L_mixed (aCons (eVar 2) (aCons (eC (.int 40009)) (aCons (eC (.int 3)) aNil))))) (sSeq (sIf (tV (e2 oEq (eVar 5) (eC (.int 0)))) (sRet (e2 oCatS (e2 oCatS (eHdS (eVar 0) (eVar 3)) (eVar 4)) (eTlS (eVar 0) (eVar 3)))) sNx) (sSeq (sIf (tV (e2 oEq (eVar 5) (eC (.int 1)))) (sRet (e2 oCatS (eHdS (eVar 0) (eVar 3)) (eTlS (eVar 0) (e2 oAdd (eVar 3) (eC (.int 1)))))) sNx) (sRet (e2 oCatS (e2 oCatS (eHdS (eVar 0) (eVar 3)) (eVar 4)) (eTlS (eVar 0) (e2 oAdd (eVar 3) (eC (.int 1)))))))))))
def F_L_bent:List D→Option D:=runF 3 6 B_L_bent
theorem ok_L_bent (g_len:mg "len"=none) (W_L_mixed:FN P w K mg base CX0 1 "_law_mixed" ["_law_number_here","_law_prime","_law_many"] (spF K F_L_mixed)) (W_L_sign:FN P w K mg base CX0 2 "_law_sign" ["_law_cell","_law_line_here"] (spF K F_L_sign)) (F:Fun K "_law_bent" "_law_bent" s_L_bent f fd):FnOk P w K mg base CX0 3 f fd ["_law_line_here","_law_cell","_law_other"] (spF K F_L_bent):=by
 obtain ⟨_,_,G_L_mixed,m_L_mixed,k_L_mixed,b_L_mixed⟩:=W_L_mixed
 obtain ⟨_,_,G_L_sign,m_L_sign,k_L_sign,b_L_sign⟩:=W_L_sign
 have sc:=sc_L_bent
 refine fn_F F sc_L_bent fun cdv A outer s H E hr=>?_
 have hu:=hu_of hr
 exact (fs_cons (fs_set 3 (fp_call G_L_mixed (hr.mono (by decide)) m_L_mixed k_L_mixed b_L_mixed (fa_cons (fp_var 1) (fa_cons fp_int (fa_cons (fp_add (fp_lenS g_len (fp_var 0)) fp_int) fa_nil)))) sc.nd) (fs_cons (fs_set 4 (fp_call G_L_sign (hr.mono (by decide)) m_L_sign k_L_sign b_L_sign (fa_cons (fp_var 2) (fa_cons (fp_var 0) fa_nil))) sc.nd) (fs_cons (fs_set 5 (fp_call G_L_mixed (hr.mono (by decide)) m_L_mixed k_L_mixed b_L_mixed (fa_cons (fp_var 2) (fa_cons fp_int (fa_cons fp_int fa_nil)))) sc.nd) (fs_cons (fs_if (ft_eq (fp_var 5) fp_int) (fs_one (fs_ret (fp_catS (fp_catS (fp_hdS (fp_var 0) (fp_var 3)) (fp_var 4)) (fp_tlS (fp_var 0) (fp_var 3))))) fs_nil) (fs_cons (fs_if (ft_eq (fp_var 5) fp_int) (fs_one (fs_ret (fp_catS (fp_hdS (fp_var 0) (fp_var 3)) (fp_tlS (fp_var 0) (fp_add (fp_var 3) fp_int))))) fs_nil) (fs_one (fs_ret (fp_catS (fp_catS (fp_hdS (fp_var 0) (fp_var 3)) (fp_var 4)) (fp_tlS (fp_var 0) (fp_add (fp_var 3) fp_int))))))))))
abbrev s_L_turned:Stmt:=top 31
theorem sc_L_turned:FnScope ["_law_words_here","_law_cell","_law_other","_law_at","_law_way","_law_word"] ["_law_words_here","_law_cell","_law_other"] (defScope s_L_turned):=⟨rfl,rfl,rfl,by decide +kernel,rfl,by decide +kernel,by decide +kernel⟩
def B_L_turned:SF:=(sSeq (sSet 3 (eCall F_L_mixed (aCons (eVar 1) (aCons (eC (.int 50021)) (aCons (e1 oLen (eVar 0)) aNil))))) (sSeq (sSet 4 (eCall F_L_mixed (aCons (eVar 2) (aCons (eC (.int 50021)) (aCons (eC (.int 3)) aNil))))) (sSeq (sSet 5 (e2 oCat (eLstI (aCons (eC (.str "on")) (aCons (eC (.str "put")) (aCons (eC (.str "0")) (aCons (eC (.str "7")) (aCons (eC (.str "ask")) (aCons (eC (.str "yes")) (aCons (eC (.str "stop")) (aCons (eC (.str "007")) (aCons (eC (.str "1234567890123")) aNil)))))))))) (eVar 0))) (sSeq (sIf (tV (e2 oEq (eVar 4) (eC (.int 0)))) (sRet (e2 oCat (e2 oCat (eCutH (eVar 0) (eVar 3)) (eLstI (aCons (e2 oIx (eVar 5) (eCall F_L_mixed (aCons (eVar 2) (aCons (eC (.int 60013)) (aCons (e1 oLen (eVar 5)) aNil))))) aNil))) (eCutT (eVar 0) (eVar 3)))) sNx) (sSeq (sIf (tV (e2 oEq (eVar 4) (eC (.int 1)))) (sRet (e2 oCat (eCutH (eVar 0) (eVar 3)) (eCutT (eVar 0) (e2 oAdd (eVar 3) (eC (.int 1)))))) sNx) (sRet (e2 oCat (e2 oCat (eCutH (eVar 0) (eVar 3)) (eCutM (eVar 0) (eVar 3) (e2 oAdd (eVar 3) (eC (.int 1))))) (eCutT (eVar 0) (eVar 3)))))))))
def F_L_turned:List D→Option D:=runF 3 6 B_L_turned
theorem ok_L_turned (g_len:mg "len"=none) (W_L_mixed:FN P w K mg base CX0 1 "_law_mixed" ["_law_number_here","_law_prime","_law_many"] (spF K F_L_mixed)) (F:Fun K "_law_turned" "_law_turned" s_L_turned f fd):FnOk P w K mg base CX0 2 f fd ["_law_words_here","_law_cell","_law_other"] (spF K F_L_turned):=by
 obtain ⟨_,_,G_L_mixed,m_L_mixed,k_L_mixed,b_L_mixed⟩:=W_L_mixed
 have sc:=sc_L_turned
 refine fn_F F sc_L_turned fun cdv A outer s H E hr=>?_
 have hu:=hu_of hr
 exact (fs_cons (fs_set 3 (fp_call G_L_mixed (hr.mono (by decide)) m_L_mixed k_L_mixed b_L_mixed (fa_cons (fp_var 1) (fa_cons fp_int (fa_cons (fp_len g_len (fp_var 0)) fa_nil)))) sc.nd) (fs_cons (fs_set 4 (fp_call G_L_mixed (hr.mono (by decide)) m_L_mixed k_L_mixed b_L_mixed (fa_cons (fp_var 2) (fa_cons fp_int (fa_cons fp_int fa_nil)))) sc.nd) (fs_cons (fs_set 5 (fp_cat (fp_lstI (fa_cons fp_str (fa_cons fp_str (fa_cons fp_str (fa_cons fp_str (fa_cons fp_str (fa_cons fp_str (fa_cons fp_str (fa_cons fp_str (fa_cons fp_str fa_nil)))))))))) (fp_var 0)) sc.nd) (fs_cons (fs_if (ft_eq (fp_var 4) fp_int) (fs_one (fs_ret (fp_cat (fp_cat (fp_cutH (fp_var 0) (fp_var 3)) (fp_lstI (fa_cons (fp_ix (fp_var 5) (fp_call G_L_mixed (hr.mono (by decide)) m_L_mixed k_L_mixed b_L_mixed (fa_cons (fp_var 2) (fa_cons fp_int (fa_cons (fp_len g_len (fp_var 5)) fa_nil))))) fa_nil))) (fp_cutT (fp_var 0) (fp_var 3))))) fs_nil) (fs_cons (fs_if (ft_eq (fp_var 4) fp_int) (fs_one (fs_ret (fp_cat (fp_cutH (fp_var 0) (fp_var 3)) (fp_cutT (fp_var 0) (fp_add (fp_var 3) fp_int))))) fs_nil) (fs_one (fs_ret (fp_cat (fp_cat (fp_cutH (fp_var 0) (fp_var 3)) (fp_cutM (fp_var 0) (fp_var 3) (fp_add (fp_var 3) fp_int))) (fp_cutT (fp_var 0) (fp_var 3))))))))))
abbrev s_L_line:Stmt:=top 32
theorem sc_L_line:FnScope ["_law_script","_law_words_here","_law_kind","_law_line_here"] ["_law_script"] (defScope s_L_line):=⟨rfl,rfl,rfl,by decide +kernel,rfl,by decide +kernel,by decide +kernel⟩
def B_L_line:SF:=(sSeq (sSet 1 (eCall F_L_words (aCons (eVar 0) aNil))) (sSeq (sSet 2 (eCall F_L_mixed (aCons (eCall F_L_cell_at (aCons (eVar 0) (aCons (eC (.int 1)) aNil))) (aCons (eC (.int 10007)) (aCons (eC (.int 8)) aNil))))) (sSeq (sIf (tV (e2 oEq (eVar 2) (eC (.int 0)))) (sRet (eCall F_L_odd (aCons (eCall F_L_cell_at (aCons (eVar 0) (aCons (eC (.int 2)) aNil))) aNil))) sNx) (sSeq (sIf (tV (e2 oLt (eVar 2) (eC (.int 3)))) (sRet (e2 oJoin (eC (.str " ")) (eCall F_L_turned (aCons (eVar 1) (aCons (eCall F_L_cell_at (aCons (eVar 0) (aCons (eC (.int 2)) aNil))) (aCons (eCall F_L_cell_at (aCons (eVar 0) (aCons (eC (.int 3)) aNil))) aNil)))))) sNx) (sSeq (sSet 3 (e2 oJoin (eC (.str " ")) (eVar 1))) (sSeq (sIf (tV (e2 oEq (eVar 2) (eC (.int 3)))) (sRetV 3) sNx) (sSeq (sSet 3 (eCall F_L_bent (aCons (eVar 3) (aCons (eCall F_L_cell_at (aCons (eVar 0) (aCons (eC (.int 2)) aNil))) (aCons (eCall F_L_cell_at (aCons (eVar 0) (aCons (eC (.int 3)) aNil))) aNil))))) (sSeq (sIf (tV (e2 oGt (eVar 2) (eC (.int 5)))) (sSet 3 (eCall F_L_bent (aCons (eVar 3) (aCons (eCall F_L_cell_at (aCons (eVar 0) (aCons (eC (.int 4)) aNil))) (aCons (eCall F_L_cell_at (aCons (eVar 0) (aCons (eC (.int 5)) aNil))) aNil))))) sNx) (sRetV 3)))))))))
def F_L_line:List D→Option D:=runF 1 4 B_L_line
theorem ok_L_line (W_L_words:FN P w K mg base CX0 3 "_law_words" ["_law_script"] (spF K F_L_words)) (W_L_mixed:FN P w K mg base CX0 1 "_law_mixed" ["_law_number_here","_law_prime","_law_many"] (spF K F_L_mixed)) (W_L_cell_at:FN P w K mg base CX0 1 "_law_cell_at" ["_law_script","_law_k"] (spF K F_L_cell_at)) (W_L_odd:FN P w K mg base CX0 1 "_law_odd" ["_law_cell"] (spF K F_L_odd)) (W_L_turned:FN P w K mg base CX0 2 "_law_turned" ["_law_words_here","_law_cell","_law_other"] (spF K F_L_turned)) (W_L_bent:FN P w K mg base CX0 3 "_law_bent" ["_law_line_here","_law_cell","_law_other"] (spF K F_L_bent)) (F:Fun K "_law_line" "_law_line" s_L_line f fd):FnOk P w K mg base CX0 4 f fd ["_law_script"] (spF K F_L_line):=by
 obtain ⟨_,_,G_L_words,m_L_words,k_L_words,b_L_words⟩:=W_L_words
 obtain ⟨_,_,G_L_mixed,m_L_mixed,k_L_mixed,b_L_mixed⟩:=W_L_mixed
 obtain ⟨_,_,G_L_cell_at,m_L_cell_at,k_L_cell_at,b_L_cell_at⟩:=W_L_cell_at
 obtain ⟨_,_,G_L_odd,m_L_odd,k_L_odd,b_L_odd⟩:=W_L_odd
 obtain ⟨_,_,G_L_turned,m_L_turned,k_L_turned,b_L_turned⟩:=W_L_turned
 obtain ⟨_,_,G_L_bent,m_L_bent,k_L_bent,b_L_bent⟩:=W_L_bent
 have sc:=sc_L_line
 refine fn_F F sc_L_line fun cdv A outer s H E hr=>?_
 have hu:=hu_of hr
 exact (fs_cons (fs_set 1 (fp_call G_L_words (hr.mono (by decide)) m_L_words k_L_words b_L_words (fa_cons (fp_var 0) fa_nil)) sc.nd) (fs_cons (fs_set 2 (fp_call G_L_mixed (hr.mono (by decide)) m_L_mixed k_L_mixed b_L_mixed (fa_cons (fp_call G_L_cell_at (hr.mono (by decide)) m_L_cell_at k_L_cell_at b_L_cell_at (fa_cons (fp_var 0) (fa_cons fp_int fa_nil))) (fa_cons fp_int (fa_cons fp_int fa_nil)))) sc.nd) (fs_cons (fs_if (ft_eq (fp_var 2) fp_int) (fs_one (fs_ret (fp_call G_L_odd (hr.mono (by decide)) m_L_odd k_L_odd b_L_odd (fa_cons (fp_call G_L_cell_at (hr.mono (by decide)) m_L_cell_at k_L_cell_at b_L_cell_at (fa_cons (fp_var 0) (fa_cons fp_int fa_nil))) fa_nil)))) fs_nil) (fs_cons (fs_if (ft_lt (fp_var 2) fp_int) (fs_one (fs_ret (fp_join fp_str (fp_call G_L_turned (hr.mono (by decide)) m_L_turned k_L_turned b_L_turned (fa_cons (fp_var 1) (fa_cons (fp_call G_L_cell_at (hr.mono (by decide)) m_L_cell_at k_L_cell_at b_L_cell_at (fa_cons (fp_var 0) (fa_cons fp_int fa_nil))) (fa_cons (fp_call G_L_cell_at (hr.mono (by decide)) m_L_cell_at k_L_cell_at b_L_cell_at (fa_cons (fp_var 0) (fa_cons fp_int fa_nil))) fa_nil))))))) fs_nil) (fs_cons (fs_set 3 (fp_join fp_str (fp_var 1)) sc.nd) (fs_cons (fs_if (ft_eq (fp_var 2) fp_int) (fs_one (fs_retV 3)) fs_nil) (fs_cons (fs_set 3 (fp_call G_L_bent (hr.mono (by decide)) m_L_bent k_L_bent b_L_bent (fa_cons (fp_var 3) (fa_cons (fp_call G_L_cell_at (hr.mono (by decide)) m_L_cell_at k_L_cell_at b_L_cell_at (fa_cons (fp_var 0) (fa_cons fp_int fa_nil))) (fa_cons (fp_call G_L_cell_at (hr.mono (by decide)) m_L_cell_at k_L_cell_at b_L_cell_at (fa_cons (fp_var 0) (fa_cons fp_int fa_nil))) fa_nil)))) sc.nd) (fs_cons (fs_if (ft_gt (fp_var 2) fp_int) (fs_one (fs_set 3 (fp_call G_L_bent (hr.mono (by decide)) m_L_bent k_L_bent b_L_bent (fa_cons (fp_var 3) (fa_cons (fp_call G_L_cell_at (hr.mono (by decide)) m_L_cell_at k_L_cell_at b_L_cell_at (fa_cons (fp_var 0) (fa_cons fp_int fa_nil))) (fa_cons (fp_call G_L_cell_at (hr.mono (by decide)) m_L_cell_at k_L_cell_at b_L_cell_at (fa_cons (fp_var 0) (fa_cons fp_int fa_nil))) fa_nil)))) sc.nd)) fs_nil) (fs_one (fs_retV 3))))))))))
abbrev s_L_is_number:Stmt:=top 33
theorem sc_L_is_number:FnScope ["_law_word","_law_sign_here"] ["_law_word"] (defScope s_L_is_number):=⟨rfl,rfl,rfl,by decide +kernel,rfl,by decide +kernel,by decide +kernel⟩
def B_L_is_number:SF:=(sSeq (sFor (iStrF (eVar 0)) (gN 1) (sIf (tV (e2 oNinT (eVar 1) (eC (.str "0123456789")))) (sRet (eC (.bl false))) sNx)) (sSeq (sIf (tV (e2 oEq (eVar 0) (eC (.str "0")))) (sRet (eC (.bl true))) sNx) (sRet (eAnd (eChain oLe oLe (eC (.int 1)) (e1 oLenS (eVar 0)) (eC (.int 12))) (e2 oNe (e2 oIxS (eVar 0) (eC (.int 0))) (eC (.str "0")))))))
def F_L_is_number:List D→Option D:=runF 1 2 B_L_is_number
theorem ok_L_is_number (g_len:mg "len"=none) (F:Fun K "_law_is_number" "_law_is_number" s_L_is_number f fd):FnOk P w K mg base CX0 1 f fd ["_law_word"] (spF K F_L_is_number):=by
 have sc:=sc_L_is_number
 refine fn_F F sc_L_is_number fun cdv A outer s H E hr=>?_
 have hu:=hu_of hr
 exact (fs_cons (fs_for rfl (fi_str (fp_var 0)) (fg_name 1 sc.nd) (fs_one (fs_if (ft_ninT (fp_var 1) fp_str) (fs_one (fs_ret fp_bl)) fs_nil))) (fs_cons (fs_if (ft_eq (fp_var 0) fp_str) (fs_one (fs_ret fp_bl)) fs_nil) (fs_one (fs_ret (fp_and (fp_le2 fp_int (fp_lenS g_len (fp_var 0)) fp_int) (fp_one (fp_ne (fp_ixS (fp_var 0) fp_int) fp_str)))))))
abbrev s_L_asks:Stmt:=top 35
theorem sc_L_asks:FnScope ["_law_numbers","_law_marks","_law_names","_law_cuts","_law_leans","_law_edits","_law_some"] ["_law_numbers","_law_marks"] (defScope s_L_asks):=⟨rfl,rfl,rfl,by decide +kernel,rfl,by decide +kernel,by decide +kernel⟩
def B_L_asks:SF:=(sSeq (sSet 2 (eComp [none] (iSeqF (eVar 1)) (gN 0) tTrue (e2 oIx (eVar 0) (eC (.int 0))))) (sSeq (sIf (tV (e2 oNinP (eVar 2) (eTup (aCons (eLstI aNil) (aCons (eLstI (aCons (eC (.str "on")) aNil)) (aCons (eLstI (aCons (eC (.str "put")) aNil)) (aCons (eLstI (aCons (eC (.str "on")) (aCons (eC (.str "put")) aNil))) aNil))))))) (sRet (eC .non)) sNx) (sSeq (sSet 3 (e2 oCat (eComp [none] (iSeqF (eVar 1)) (gN 0) tTrue (e2 oIx (eVar 0) (eC (.int 1)))) (eLstI (aCons (e1 oLen (eVar 0)) aNil)))) (sSeq (sIf (tOr2 (tV (e2 oNe (e2 oIx (eVar 3) (eC (.int 0))) (eC (.int 1)))) (tV (e2 oNeP (eComp [none,some 3] (iR1 (e1 oLen (eVar 1))) (gN 0) (tV (e2 oEq (e2 oIx (eVar 1) (e2 oAdd (eVar 0) (eC (.int 1)))) (e2 oIx (eVar 1) (eVar 0)))) (eVar 0)) (eLstI aNil)))) (sRet (eC .non)) sNx) (sSeq (sSet 4 (eLstI aNil)) (sSeq (sSet 5 (eLstI aNil)) (sSeq (sIf (tV (e2 oEqP (e1 (oCut none (some 1)) (eVar 2)) (eLstI (aCons (eC (.str "on")) aNil)))) (sSet 4 (eCutM (eVar 0) (eC (.int 1)) (e2 oIx (eVar 3) (eC (.int 1))))) sNx) (sSeq (sIf (tV (e2 oEqP (eCutT (eVar 2) (e1 oNeg (eC (.int 1)))) (eLstI (aCons (eC (.str "put")) aNil)))) (sSeq (sSet 6 (eCutT (eVar 0) (e2 oIx (eVar 3) (e1 oNeg (eC (.int 2)))))) (sSeq (sIf (tV (e2 oNe (e2 oMod (e1 oLen (eVar 6)) (eC (.int 3))) (eC (.int 0)))) (sRet (eC .non)) sNx) (sSet 5 (eComp [none,some 6] (iR3 (eC (.int 0)) (e1 oLen (eVar 6)) 3) (gN 0) tTrue (e1 oTuple (eCutM (eVar 1) (eVar 0) (e2 oAdd (eVar 0) (eC (.int 3))))))))) sNx) (sRet (eTup (aCons (eC (.str "ask")) (aCons (e2 oIx (eVar 0) (eC (.int 0))) (aCons (e1 oTuple (eVar 4)) (aCons (e1 oTuple (eVar 5)) aNil))))))))))))))
def F_L_asks:List D→Option D:=runF 2 7 B_L_asks
theorem ok_L_asks (g_len:mg "len"=none) (g_range:mg "range"=none) (g_tuple:mg "tuple"=none) (F:Fun K "_law_asks" "_law_asks" s_L_asks f fd):FnOk P w K mg base CX0 1 f fd ["_law_numbers","_law_marks"] (spF K F_L_asks):=by
 have sc:=sc_L_asks
 refine fn_F F sc_L_asks fun cdv A outer s H E hr=>?_
 have hu:=hu_of hr
 exact (fs_cons (fs_setC 2 (hN:=sc.nd) (M:=["_law_mark"]) (js:=[none]) (is:=[0]) (compScope_mk (N:=["_law_numbers","_law_marks","_law_names","_law_cuts","_law_leans","_law_edits","_law_some"]) (osc:=defScope s_L_asks) rfl rfl rfl (by decide +kernel)) rfl (fi_seq (fp_var 1)) (by decide) fun s3 H3 fp=>⟨(fg_name 0 (show (["_law_mark"]:List Str).Nodup by decide +kernel)),fts_nil,(fp_ix (fp_var 0) fp_int)⟩) (fs_cons (fs_if (ft_ninP hr.units (fp_var 2) (fp_tup (fa_cons (fp_lstI fa_nil) (fa_cons (fp_lstI (fa_cons fp_str fa_nil)) (fa_cons (fp_lstI (fa_cons fp_str fa_nil)) (fa_cons (fp_lstI (fa_cons fp_str (fa_cons fp_str fa_nil))) fa_nil)))))) (fs_one (fs_ret fp_non)) fs_nil) (fs_cons (fs_set 3 (fp_cat (fp_comp (M:=["_law_mark"]) (js:=[none]) (is:=[0]) (compScope_mk (N:=["_law_numbers","_law_marks","_law_names","_law_cuts","_law_leans","_law_edits","_law_some"]) (osc:=defScope s_L_asks) rfl rfl rfl (by decide +kernel)) rfl (fi_seq (fp_var 1)) (by decide) fun s3 H3 fp=>⟨(fg_name 0 (show (["_law_mark"]:List Str).Nodup by decide +kernel)),fts_nil,(fp_ix (fp_var 0) fp_int)⟩) (fp_lstI (fa_cons (fp_len g_len (fp_var 0)) fa_nil))) sc.nd) (fs_cons (fs_if (FW.ft (fw_or (ft_ne (fp_ix (fp_var 3) fp_int) fp_int) (fw_or1 (ft_neP hr.units (fp_comp (M:=["_law_k","_law_cuts"]) (js:=[none,some 3]) (is:=[0]) (compScope_mk (N:=["_law_numbers","_law_marks","_law_names","_law_cuts","_law_leans","_law_edits","_law_some"]) (osc:=defScope s_L_asks) rfl rfl rfl (by decide +kernel)) rfl (fi_range1 g_range (fp_len g_len (fp_var 1))) (by decide) fun s3 H3 fp=>⟨(fg_name 0 (show (["_law_k","_law_cuts"]:List Str).Nodup by decide +kernel)),(fts_one (ft_eq (fp_ix (fp_var 1) (fp_add (fp_var 0) fp_int)) (fp_ix (fp_var 1) (fp_var 0)))),(fp_var 0)⟩) (fp_lstI fa_nil))))) (fs_one (fs_ret fp_non)) fs_nil) (fs_cons (fs_set 4 (fp_lstI fa_nil) sc.nd) (fs_cons (fs_set 5 (fp_lstI fa_nil) sc.nd) (fs_cons (fs_if (ft_eqP hr.units (fp_cut pc_none pc_int (fp_var 2)) (fp_lstI (fa_cons fp_str fa_nil))) (fs_one (fs_set 4 (fp_cutM (fp_var 0) fp_int (fp_ix (fp_var 3) fp_int)) sc.nd)) fs_nil) (fs_cons (fs_if (ft_eqP hr.units (fp_cutT (fp_var 2) (fp_neg fp_int)) (fp_lstI (fa_cons fp_str fa_nil))) (fs_cons (fs_set 6 (fp_cutT (fp_var 0) (fp_ix (fp_var 3) (fp_neg fp_int))) sc.nd) (fs_cons (fs_if (ft_ne (fp_mod (fp_len g_len (fp_var 6)) fp_int) fp_int) (fs_one (fs_ret fp_non)) fs_nil) (fs_one (fs_setC 5 (hN:=sc.nd) (M:=["_law_k","_law_some"]) (js:=[none,some 6]) (is:=[0]) (compScope_mk (N:=["_law_numbers","_law_marks","_law_names","_law_cuts","_law_leans","_law_edits","_law_some"]) (osc:=defScope s_L_asks) rfl rfl rfl (by decide +kernel)) rfl (fi_range3P g_range fp_int (fp_len g_len (fp_var 6))) (by decide) fun s3 H3 fp=>⟨(fg_name 0 (show (["_law_k","_law_some"]:List Str).Nodup by decide +kernel)),fts_nil,(fp_tuple g_tuple (fp_cutM (fp_var 1) (fp_var 0) (fp_add (fp_var 0) fp_int)))⟩)))) fs_nil) (fs_one (fs_ret (fp_tup (fa_cons fp_str (fa_cons (fp_ix (fp_var 0) fp_int) (fa_cons (fp_tuple g_tuple (fp_var 4)) (fa_cons (fp_tuple g_tuple (fp_var 5)) fa_nil)))))))))))))))
abbrev s_L_read:Stmt:=top 34
theorem sc_L_read:FnScope ["_law_line_here","_law_words_here","_law_head","_law_numbers","_law_marks","_law_word"] ["_law_line_here"] (defScope s_L_read):=⟨rfl,rfl,rfl,by decide +kernel,rfl,by decide +kernel,by decide +kernel⟩
def B_L_read:SF:=(sSeq (sSet 1 (e2 oSplit (eVar 0) (eC (.str " ")))) (sSeq (sSet 2 (e2 oIx (eVar 1) (eC (.int 0)))) (sSeq (sSet 3 (eLstI aNil)) (sSeq (sSet 4 (eLstI aNil)) (sSeq (sFor (iSeqF (e1 (oCut (some 1) none) (eVar 1))) (gN 5) (sIf (tV (eCall F_L_is_number (aCons (eVar 5) aNil))) (sApp 3 (e1 oIntS (eVar 5))) (sIf (tAnd2 (tV (e2 oEq (eVar 2) (eC (.str "ask")))) (tAnd2 (tV (e2 (oInS false) (eVar 5) (eTup (aCons (eC (.str "on")) (aCons (eC (.str "put")) aNil))))) (tV (e2 (oInS true) (eVar 5) (eComp [none] (iSeqF (eVar 4)) (gN 0) tTrue (e2 oIx (eVar 0) (eC (.int 0)))))))) (sApp 4 (eTup (aCons (eVar 5) (aCons (e1 oLen (eVar 3)) aNil)))) (sRet (eC .non))))) (sSeq (sIf (tOr2 (tV (e2 oEq (eVar 2) (eC (.str "stop")))) (tV (e2 oEq (eVar 2) (eC (.str "go"))))) (sRet (eIxO (eLstI (aCons (eTup (aCons (eVar 2) aNil)) (aCons (eC .non) aNil))) (e1 oIntB (e2 oGt (e1 oLen (eVar 1)) (eC (.int 1)))))) sNx) (sSeq (sIf (tV (e2 oEq (eVar 2) (eC (.str "withdraw")))) (sRet (eIxO (eLstI (aCons (eC .non) (aCons (eTup (aCons (eC (.str "withdraw")) (aCons (e2 oIx (e2 oCat (eVar 3) (eLstI (aCons (eC (.int 0)) aNil))) (eC (.int 0))) aNil))) aNil))) (e1 oIntB (e2 oEq (e1 oLen (eVar 1)) (eC (.int 2)))))) sNx) (sSeq (sIf (tV (e2 (oInS false) (eVar 2) (eTup (aCons (eC (.str "yes")) (aCons (eC (.str "no")) (aCons (eC (.str "unsure")) aNil)))))) (sRet (eIxO (eLstI (aCons (eC .non) (aCons (eTup (aCons (eC (.str "answer")) (aCons (e1 oTuple (eVar 3)) (aCons (eVar 2) aNil)))) aNil))) (e1 oIntB (e2 oNeP (eVar 3) (eLstI aNil))))) sNx) (sSeq (sIf (tV (e2 oNe (eVar 2) (eC (.str "ask")))) (sRet (eC .non)) sNx) (sRet (eCall F_L_asks (aCons (eVar 3) (aCons (eVar 4) aNil)))))))))))))
def F_L_read:List D→Option D:=runF 1 6 B_L_read
theorem ok_L_read (g_int:mg "int"=none) (g_len:mg "len"=none) (g_tuple:mg "tuple"=none) (W_L_is_number:FN P w K mg base CX0 1 "_law_is_number" ["_law_word"] (spF K F_L_is_number)) (W_L_asks:FN P w K mg base CX0 1 "_law_asks" ["_law_numbers","_law_marks"] (spF K F_L_asks)) (F:Fun K "_law_read" "_law_read" s_L_read f fd):FnOk P w K mg base CX0 2 f fd ["_law_line_here"] (spF K F_L_read):=by
 obtain ⟨_,_,G_L_is_number,m_L_is_number,k_L_is_number,b_L_is_number⟩:=W_L_is_number
 obtain ⟨_,_,G_L_asks,m_L_asks,k_L_asks,b_L_asks⟩:=W_L_asks
 have sc:=sc_L_read
 refine fn_F F sc_L_read fun cdv A outer s H E hr=>?_
 have hu:=hu_of hr
 exact (fs_cons (fs_set 1 (fp_split (fp_var 0) fp_str) sc.nd) (fs_cons (fs_set 2 (fp_ix (fp_var 1) fp_int) sc.nd) (fs_cons (fs_set 3 (fp_lstI fa_nil) sc.nd) (fs_cons (fs_set 4 (fp_lstI fa_nil) sc.nd) (fs_cons (fs_for rfl (fi_seq (fp_cut pc_int pc_none (fp_var 1))) (fg_name 5 sc.nd) (fs_one (fs_if (ft_val (fp_call G_L_is_number (hr.mono (by decide)) m_L_is_number k_L_is_number b_L_is_number (fa_cons (fp_var 5) fa_nil))) (fs_one (fs_app 3 (fp_intS g_int (fp_var 5)))) (fs_one (fs_if (FW.ft (fw_and (ft_eq (fp_var 2) fp_str) (fw_and (ft_inS (fp_var 5) (fp_tup (fa_cons fp_str (fa_cons fp_str fa_nil)))) (fw_and1 (ft_notInS (fp_var 5) (fp_comp (M:=["_law_mark"]) (js:=[none]) (is:=[0]) (compScope_mk (N:=["_law_line_here","_law_words_here","_law_head","_law_numbers","_law_marks","_law_word"]) (osc:=defScope s_L_read) rfl rfl rfl (by decide +kernel)) rfl (fi_seq (fp_var 4)) (by decide) fun s3 H3 fp=>⟨(fg_name 0 (show (["_law_mark"]:List Str).Nodup by decide +kernel)),fts_nil,(fp_ix (fp_var 0) fp_int)⟩)))))) (fs_one (fs_app 4 (fp_tup (fa_cons (fp_var 5) (fa_cons (fp_len g_len (fp_var 3)) fa_nil))))) (fs_one (fs_ret fp_non))))))) (fs_cons (fs_if (FW.ft (fw_or (ft_eq (fp_var 2) fp_str) (fw_or1 (ft_eq (fp_var 2) fp_str)))) (fs_one (fs_ret (fp_ixO (fp_lstI (fa_cons (fp_tup (fa_cons (fp_var 2) fa_nil)) (fa_cons fp_non fa_nil))) (fp_intB g_int (fp_gt (fp_len g_len (fp_var 1)) fp_int))))) fs_nil) (fs_cons (fs_if (ft_eq (fp_var 2) fp_str) (fs_one (fs_ret (fp_ixO (fp_lstI (fa_cons fp_non (fa_cons (fp_tup (fa_cons fp_str (fa_cons (fp_ix (fp_cat (fp_var 3) (fp_lstI (fa_cons fp_int fa_nil))) fp_int) fa_nil))) fa_nil))) (fp_intB g_int (fp_eq (fp_len g_len (fp_var 1)) fp_int))))) fs_nil) (fs_cons (fs_if (ft_inS (fp_var 2) (fp_tup (fa_cons fp_str (fa_cons fp_str (fa_cons fp_str fa_nil))))) (fs_one (fs_ret (fp_ixO (fp_lstI (fa_cons fp_non (fa_cons (fp_tup (fa_cons fp_str (fa_cons (fp_tuple g_tuple (fp_var 3)) (fa_cons (fp_var 2) fa_nil)))) fa_nil))) (fp_intB g_int (fp_neP hr.units (fp_var 3) (fp_lstI fa_nil)))))) fs_nil) (fs_cons (fs_if (ft_ne (fp_var 2) fp_str) (fs_one (fs_ret fp_non)) fs_nil) (fs_one (fs_ret (fp_call G_L_asks (hr.mono (by decide)) m_L_asks k_L_asks b_L_asks (fa_cons (fp_var 3) (fa_cons (fp_var 4) fa_nil))))))))))))))
abbrev s_L_plain:Stmt:=top 36
theorem sc_L_plain:FnScope ["_law_thing"] ["_law_thing"] (defScope s_L_plain):=⟨rfl,rfl,rfl,by decide +kernel,rfl,by decide +kernel,by decide +kernel⟩
def BR_L_plain (G:List D→Option D):SF:=(sSeq (sIf (tV (e1 (oIsiB "tuple") (eVar 0))) (sRet (e1 oAll (eComp [none] (iSeqF (eVar 0)) (gN 0) tTrue (eCall G (aCons (eVar 0) aNil))))) sNx) (sRet (eAnd (e1 oIsIS (eVar 0)) (e1 oNot (e1 (oIsi "bool") (eVar 0))))))
def F1_L_plain:List D→Option D:=runF 1 1 (BR_L_plain fun _=>none)
def F2_L_plain:List D→Option D:=runF 1 1 (BR_L_plain F1_L_plain)
def F3_L_plain:List D→Option D:=runF 1 1 (BR_L_plain F2_L_plain)
def F4_L_plain:List D→Option D:=runF 1 1 (BR_L_plain F3_L_plain)
abbrev F_L_plain:List D→Option D:=F4_L_plain
theorem ok_L_plain (g_all:mg "all"=none) (g_bool:mg "bool"=none) (g_int:mg "int"=none) (g_isinstance:mg "isinstance"=none) (g_str:mg "str"=none) (g_tuple:mg "tuple"=none) (m_L_plain:mg "_law_plain"=some (.ref f)) (k_L_plain:PySem.W.keepIn K (.ref f)=true) (b_L_plain:Binds K fd ["_law_thing"] []) (F:Fun K "_law_plain" "_law_plain" s_L_plain f fd):FnOk P w K mg base CX0 5 f fd ["_law_thing"] (spF K F_L_plain):=by
 have sc:=sc_L_plain
 have st:∀ (k:Nat) G,FnOk P w K mg base CX0 (k + 1) f fd ["_law_thing"] (spF K G)→FnOk P w K mg base CX0 (k + 1 + 1) f fd ["_law_thing"] (spF K (runF 1 1 (BR_L_plain G))):=fun k G GR_L_plain=>by
  refine fn_F F sc_L_plain fun cdv A outer s H E hr=>?_
  have hu:=hu_of hr
  exact (fs_cons (fs_if (ft_val (fp_isiB isi_tuple isiB_tuple g_isinstance g_tuple (fp_var 0))) (fs_one (fs_ret (fp_all rfl g_all (fp_comp (M:=["_law_part"]) (js:=[none]) (is:=[0]) (compScope_mk (N:=["_law_thing"]) (osc:=defScope s_L_plain) rfl rfl rfl (by decide +kernel)) rfl (fi_seq (fp_var 0)) (by decide) fun s3 H3 fp=>⟨(fg_name 0 (show (["_law_part"]:List Str).Nodup by decide +kernel)),fts_nil,(fp_call GR_L_plain (hr.mono (by omega)) m_L_plain k_L_plain b_L_plain (fa_cons (fp_var 0) fa_nil))⟩)))) fs_nil) (fs_one (fs_ret (fp_and (fp_isIS g_isinstance g_int g_str (fp_var 0)) (fp_one (fp_not (fp_isi isi_bool g_isinstance g_bool (fp_var 0))))))))
 exact (st 3 _ (st 2 _ (st 1 _ (st 0 _ (fn_none F sc_L_plain)))))
abbrev s_read_numberR:Stmt:=top 21
theorem sc_read_numberR:FnScope ["word"] ["word"] (defScope s_read_numberR):=⟨rfl,rfl,rfl,by decide +kernel,rfl,by decide +kernel,by decide +kernel⟩
def B_read_numberR:SF:=(sSeq (sIf (tNot1 (tV (eCall F_is_number (aCons (eVar 0) aNil)))) (sRaise "NoText" (aCons (eC (.str "a number has one to twelve figures, and no 0 ahead")) aNil)) sNx) (sRet (e1 oIntS (eVar 0))))
def F_read_numberR:List D→Option Rz:=runR 1 1 B_read_numberR
theorem ok_read_numberR (g_int:mg "int"=none) {c_NoText:Addr} (m_NoText:mg "NoText"=some (.ref c_NoText)) (X_NoText:ExcCls K c_NoText) (n_NoText:PySem.W.nsIn K mainGlobals "NoText"=some (some (.ref c_NoText))) (W_is_number:FN P w K mg base CX0 1 "is_number" ["word"] (spF K F_is_number)) (F:Fun K "read_number" "read_number" s_read_numberR f fd):FnOk P w K mg base (CXE P w) 2 f fd ["word"] (spR K F_read_numberR):=by
 obtain ⟨_,_,G_is_number,m_is_number,k_is_number,b_is_number⟩:=W_is_number
 have sc:=sc_read_numberR
 refine fn_R F sc_read_numberR (by decide) fun cdv A outer s H E hr=>?_
 have hu:=hu_of hr
 exact (fs_cons (fs_if (ft_not (ft_val (fp_call G_is_number (hr.mono (by decide)) m_is_number k_is_number b_is_number (fa_cons (fp_var 0) fa_nil)))) (fs_one (fs_raise rfl X_NoText n_NoText m_NoText (fa_cons fp_str fa_nil))) fs_nil) (fs_one (fs_ret (fp_intS g_int (fp_var 0)))))
abbrev s_read_numbersR:Stmt:=top 20
theorem sc_read_numbersR:FnScope ["words"] ["words"] (defScope s_read_numbersR):=⟨rfl,rfl,rfl,by decide +kernel,rfl,by decide +kernel,by decide +kernel⟩
def B_read_numbersR:SF:=(sRetE (xl (zTuple (eCompR [none] (iSeqF (eVar 0)) (gN 0) F_read_numberR (aCons (eVar 0) aNil)))))
def F_read_numbersR:List D→Option Rz:=runR 1 1 B_read_numbersR
theorem ok_read_numbersR (g_tuple:mg "tuple"=none) (W_read_numberR:FN P w K mg base (CXE P w) 2 "read_number" ["word"] (spR K F_read_numberR)) (F:Fun K "read_numbers" "read_numbers" s_read_numbersR f fd):FnOk P w K mg base (CXE P w) 3 f fd ["words"] (spR K F_read_numbersR):=by
 obtain ⟨_,_,G_read_numberR,m_read_numberR,k_read_numberR,b_read_numberR⟩:=W_read_numberR
 have sc:=sc_read_numbersR
 refine fn_R F sc_read_numbersR (by decide) fun cdv A outer s H E hr=>?_
 have hu:=hu_of hr
 exact (fs_one (fs_retE (F0.fe (f0_tuple g_tuple (f0_comp (M:=["word"]) (js:=[none]) (is:=[0]) (compScope_mk (N:=["words"]) (osc:=defScope s_read_numbersR) rfl rfl rfl (by decide +kernel)) rfl rfl (fi_seq (fp_var 0)) (by decide) G_read_numberR (hr.mono (by decide)) m_read_numberR k_read_numberR b_read_numberR (fun s3 H3 fp=>fg_name 0 (show (["word"]:List Str).Nodup by decide +kernel)) (fun s3 H3 fp=>(fa_cons (fp_var 0) fa_nil)))))))
abbrev s_numbers_behindR:Stmt:=top 18
theorem sc_numbers_behindR:FnScope ["words","mark","numbers"] ["words","mark"] (defScope s_numbers_behindR):=⟨rfl,rfl,rfl,by decide +kernel,rfl,by decide +kernel,by decide +kernel⟩
def B_numbers_behindR:SF:=(sSeq (sIf (tV (e2 (oInS true) (eVar 1) (eVar 0))) (sRet (eTup aNil)) sNx) (sSeq (sSetE 2 (xl (zCall F_read_numbersR (zP (eCutT (eVar 0) (e2 oAdd (e2 oIndex (eVar 0) (eVar 1)) (eC (.int 1)))) z0)))) (sSeq (sIf (tNot1 (tTup (eVar 2))) (sRaise "NoText" (aCons (e1 (oFsS "nothing stands behind ") (eVar 1)) aNil)) sNx) (sRetV 2))))
def F_numbers_behindR:List D→Option Rz:=runR 2 3 B_numbers_behindR
theorem ok_numbers_behindR {c_NoText:Addr} (m_NoText:mg "NoText"=some (.ref c_NoText)) (X_NoText:ExcCls K c_NoText) (n_NoText:PySem.W.nsIn K mainGlobals "NoText"=some (some (.ref c_NoText))) (W_read_numbersR:FN P w K mg base (CXE P w) 3 "read_numbers" ["words"] (spR K F_read_numbersR)) (F:Fun K "numbers_behind" "numbers_behind" s_numbers_behindR f fd):FnOk P w K mg base (CXE P w) 4 f fd ["words","mark"] (spR K F_numbers_behindR):=by
 obtain ⟨_,_,G_read_numbersR,m_read_numbersR,k_read_numbersR,b_read_numbersR⟩:=W_read_numbersR
 have sc:=sc_numbers_behindR
 refine fn_R F sc_numbers_behindR (by decide) fun cdv A outer s H E hr=>?_
 have hu:=hu_of hr
 exact (fs_cons (fs_if (ft_notInS (fp_var 1) (fp_var 0)) (fs_one (fs_ret (fp_tup fa_nil))) fs_nil) (fs_cons (fs_setE 2 (F0.fe (f0_call G_read_numbersR (hr.mono (by decide)) m_read_numbersR k_read_numbersR b_read_numbersR (a0_P (fp_cutT (fp_var 0) (fp_add (fp_index (fp_var 0) (fp_var 1)) fp_int)) a0_nil))) sc.nd) (fs_cons (fs_if (ft_not (ft_tup (fp_var 2))) (fs_one (fs_raise rfl X_NoText n_NoText m_NoText (fa_cons (fp_fsS (by decide) (fp_var 1)) fa_nil))) fs_nil) (fs_one (fs_retV 2)))))
abbrev s_in_threesR:Stmt:=top 19
theorem sc_in_threesR:FnScope ["numbers"] ["numbers"] (defScope s_in_threesR):=⟨rfl,rfl,rfl,by decide +kernel,rfl,by decide +kernel,by decide +kernel⟩
def B_in_threesR:SF:=(sSeq (sIf (tV (e2 oNe (e2 oMod (e1 oLen (eVar 0)) (eC (.int 3))) (eC (.int 0)))) (sRaise "NoText" (aCons (eC (.str "each edit has a slot, an old and a new value")) aNil)) sNx) (sRet (e1 oTuple (eComp [none,some 0] (iR3 (eC (.int 0)) (e1 oLen (eVar 0)) 3) (gN 0) tTrue (eCutP (eVar 1) (eVar 0) (e2 oAdd (eVar 0) (eC (.int 3))))))))
def F_in_threesR:List D→Option Rz:=runR 1 1 B_in_threesR
theorem ok_in_threesR (g_len:mg "len"=none) (g_range:mg "range"=none) (g_tuple:mg "tuple"=none) {c_NoText:Addr} (m_NoText:mg "NoText"=some (.ref c_NoText)) (X_NoText:ExcCls K c_NoText) (n_NoText:PySem.W.nsIn K mainGlobals "NoText"=some (some (.ref c_NoText))) (F:Fun K "in_threes" "in_threes" s_in_threesR f fd):FnOk P w K mg base (CXE P w) 1 f fd ["numbers"] (spR K F_in_threesR):=by
 have sc:=sc_in_threesR
 refine fn_R F sc_in_threesR (by decide) fun cdv A outer s H E hr=>?_
 have hu:=hu_of hr
 exact (fs_cons (fs_if (ft_ne (fp_mod (fp_len g_len (fp_var 0)) fp_int) fp_int) (fs_one (fs_raise rfl X_NoText n_NoText m_NoText (fa_cons fp_str fa_nil))) fs_nil) (fs_one (fs_ret (fp_tuple g_tuple (fp_comp (M:=["start","numbers"]) (js:=[none,some 0]) (is:=[0]) (compScope_mk (N:=["numbers"]) (osc:=defScope s_in_threesR) rfl rfl rfl (by decide +kernel)) rfl (fi_range3P g_range fp_int (fp_len g_len (fp_var 0))) (by decide) fun s3 H3 fp=>⟨(fg_name 0 (show (["start","numbers"]:List Str).Nodup by decide +kernel)),fts_nil,(fp_cutP (fp_var 1) (fp_var 0) (fp_add (fp_var 0) fp_int))⟩)))))
abbrev s_read_askR:Stmt:=top 16
theorem sc_read_askR:FnScope ["words","ahead","rank","leans"] ["words"] (defScope s_read_askR):=⟨rfl,rfl,rfl,by decide +kernel,rfl,by decide +kernel,by decide +kernel⟩
def B_read_askR:SF:=(sSeq (sSet 1 (eCallA F_wa (aCons (eVar 0) (aCons (eC (.str "put")) aNil)))) (sSeq (sSet 2 (eCallA F_wa (aCons (eVar 1) (aCons (eC (.str "on")) aNil)))) (sSeq (sIf (tV (e2 oNe (e1 oLen (eVar 2)) (eC (.int 1)))) (sRaise "NoText" (aCons (eC (.str "an ask has one rank")) aNil)) sNx) (sSeq (sSetE 3 (xl (zCall F_numbers_behindR (zP (eVar 1) (zP (eC (.str "on")) z0))))) (sRetE (xl (zTup (zP (eC (.str "ask")) (zE (zCall F_read_numberR (zP (e2 oIx (eVar 2) (eC (.int 0))) z0)) (zP (eVar 3) (zE (zCall F_in_threesR (zE (zCall F_numbers_behindR (zP (eVar 0) (zP (eC (.str "put")) z0))) z0)) z0)))))))))))
def F_read_askR:List D→Option Rz:=runR 1 4 B_read_askR
theorem ok_read_askR (g_len:mg "len"=none) {c_NoText:Addr} (m_NoText:mg "NoText"=some (.ref c_NoText)) (X_NoText:ExcCls K c_NoText) (n_NoText:PySem.W.nsIn K mainGlobals "NoText"=some (some (.ref c_NoText))) (W_words_ahead:FN P w K mg base CX0 1 "words_ahead" ["words","mark"] (spA K F_wa)) (W_numbers_behindR:FN P w K mg base (CXE P w) 4 "numbers_behind" ["words","mark"] (spR K F_numbers_behindR)) (W_read_numberR:FN P w K mg base (CXE P w) 2 "read_number" ["word"] (spR K F_read_numberR)) (W_in_threesR:FN P w K mg base (CXE P w) 1 "in_threes" ["numbers"] (spR K F_in_threesR)) (F:Fun K "read_ask" "read_ask" s_read_askR f fd):FnOk P w K mg base (CXE P w) 5 f fd ["words"] (spR K F_read_askR):=by
 obtain ⟨_,_,G_words_ahead,m_words_ahead,k_words_ahead,b_words_ahead⟩:=W_words_ahead
 obtain ⟨_,_,G_numbers_behindR,m_numbers_behindR,k_numbers_behindR,b_numbers_behindR⟩:=W_numbers_behindR
 obtain ⟨_,_,G_read_numberR,m_read_numberR,k_read_numberR,b_read_numberR⟩:=W_read_numberR
 obtain ⟨_,_,G_in_threesR,m_in_threesR,k_in_threesR,b_in_threesR⟩:=W_in_threesR
 have sc:=sc_read_askR
 refine fn_R F sc_read_askR (by decide) fun cdv A outer s H E hr=>?_
 have hu:=hu_of hr
 exact (fs_cons (fs_set 1 (fp_callA G_words_ahead (hr.mono (by decide)) m_words_ahead k_words_ahead b_words_ahead (fa_cons (fp_var 0) (fa_cons fp_str fa_nil))) sc.nd) (fs_cons (fs_set 2 (fp_callA G_words_ahead (hr.mono (by decide)) m_words_ahead k_words_ahead b_words_ahead (fa_cons (fp_var 1) (fa_cons fp_str fa_nil))) sc.nd) (fs_cons (fs_if (ft_ne (fp_len g_len (fp_var 2)) fp_int) (fs_one (fs_raise rfl X_NoText n_NoText m_NoText (fa_cons fp_str fa_nil))) fs_nil) (fs_cons (fs_setE 3 (F0.fe (f0_call G_numbers_behindR (hr.mono (by decide)) m_numbers_behindR k_numbers_behindR b_numbers_behindR (a0_P (fp_var 1) (a0_P fp_str a0_nil)))) sc.nd) (fs_one (fs_retE (F0.fe (f0_tup (a0_P fp_str (a0_E (f0_call G_read_numberR (hr.mono (by decide)) m_read_numberR k_read_numberR b_read_numberR (a0_P (fp_ix (fp_var 2) fp_int) a0_nil)) (a0_P (fp_var 3) (a0_E (f0_call G_in_threesR (hr.mono (by decide)) m_in_threesR k_in_threesR b_in_threesR (a0_E (f0_call G_numbers_behindR (hr.mono (by decide)) m_numbers_behindR k_numbers_behindR b_numbers_behindR (a0_P (fp_var 0) (a0_P fp_str a0_nil))) a0_nil)) a0_nil))))))))))))
abbrev s_read_rowR:Stmt:=top 15
theorem sc_read_rowR:FnScope ["text","words","numbers"] ["text"] (defScope s_read_rowR):=⟨rfl,rfl,rfl,by decide +kernel,rfl,by decide +kernel,by decide +kernel⟩
def B_read_rowR:SF:=(sSeq (sSet 1 (e2 oSplit (eVar 0) (eC (.str " ")))) (sSeq (sIf (tV (e2 oEq (e2 oIx (eVar 1) (eC (.int 0))) (eC (.str "ask")))) (sRetE (xl (zCall F_read_askR (zP (e1 (oCut (some 1) none) (eVar 1)) z0)))) sNx) (sSeq (sSetE 2 (xl (zCall F_read_numbersR (zP (e1 (oCut (some 1) none) (eVar 1)) z0)))) (sSeq (sIf (tAnd2 (tV (e2 (oInS false) (e2 oIx (eVar 1) (eC (.int 0))) (eC (.tup ((["yes","no","unsure"]:List Str).map D.str))))) (tTup (eVar 2))) (sRet (eTup (aCons (eC (.str "answer")) (aCons (eVar 2) (aCons (e2 oIx (eVar 1) (eC (.int 0))) aNil))))) sNx) (sSeq (sIf (tAnd2 (tV (e2 oEq (e2 oIx (eVar 1) (eC (.int 0))) (eC (.str "withdraw")))) (tV (e2 oEq (e1 oLen (eVar 2)) (eC (.int 1))))) (sRet (eTup (aCons (eC (.str "withdraw")) (aCons (e2 oIx (eVar 2) (eC (.int 0))) aNil)))) sNx) (sSeq (sIf (tV (e2 (oInS false) (eVar 0) (eTup (aCons (eC (.str "stop")) (aCons (eC (.str "go")) aNil))))) (sRet (eTup (aCons (eVar 0) aNil))) sNx) (sRaise "NoText" (aCons (eC (.str "this text tells no deed")) aNil))))))))
def F_read_rowR:List D→Option Rz:=runR 1 3 B_read_rowR
theorem ok_read_rowR (g_len:mg "len"=none) {t_WORDS:Addr} (m_WORDS:mg "WORDS"=some (.ref t_WORDS)) (T_WORDS:TupK K t_WORDS ["yes","no","unsure"]) {c_NoText:Addr} (m_NoText:mg "NoText"=some (.ref c_NoText)) (X_NoText:ExcCls K c_NoText) (n_NoText:PySem.W.nsIn K mainGlobals "NoText"=some (some (.ref c_NoText))) (W_read_askR:FN P w K mg base (CXE P w) 5 "read_ask" ["words"] (spR K F_read_askR)) (W_read_numbersR:FN P w K mg base (CXE P w) 3 "read_numbers" ["words"] (spR K F_read_numbersR)) (F:Fun K "read_row" "read_row" s_read_rowR f fd):FnOk P w K mg base (CXE P w) 6 f fd ["text"] (spR K F_read_rowR):=by
 obtain ⟨_,_,G_read_askR,m_read_askR,k_read_askR,b_read_askR⟩:=W_read_askR
 obtain ⟨_,_,G_read_numbersR,m_read_numbersR,k_read_numbersR,b_read_numbersR⟩:=W_read_numbersR
 have sc:=sc_read_rowR
 refine fn_R F sc_read_rowR (by decide) fun cdv A outer s H E hr=>?_
 have hu:=hu_of hr
 exact (fs_cons (fs_set 1 (fp_split (fp_var 0) fp_str) sc.nd) (fs_cons (fs_if (ft_eq (fp_ix (fp_var 1) fp_int) fp_str) (fs_one (fs_retE (F0.fe (f0_call G_read_askR (hr.mono (by decide)) m_read_askR k_read_askR b_read_askR (a0_P (fp_cut pc_int pc_none (fp_var 1)) a0_nil))))) fs_nil) (fs_cons (fs_setE 2 (F0.fe (f0_call G_read_numbersR (hr.mono (by decide)) m_read_numbersR k_read_numbersR b_read_numbersR (a0_P (fp_cut pc_int pc_none (fp_var 1)) a0_nil))) sc.nd) (fs_cons (fs_if (FW.ft (fw_and (ft_inS (fp_ix (fp_var 1) fp_int) (fp_globT m_WORDS T_WORDS)) (fw_and1 (ft_tup (fp_var 2))))) (fs_one (fs_ret (fp_tup (fa_cons fp_str (fa_cons (fp_var 2) (fa_cons (fp_ix (fp_var 1) fp_int) fa_nil)))))) fs_nil) (fs_cons (fs_if (FW.ft (fw_and (ft_eq (fp_ix (fp_var 1) fp_int) fp_str) (fw_and1 (ft_eq (fp_len g_len (fp_var 2)) fp_int)))) (fs_one (fs_ret (fp_tup (fa_cons fp_str (fa_cons (fp_ix (fp_var 2) fp_int) fa_nil))))) fs_nil) (fs_cons (fs_if (ft_inS (fp_var 0) (fp_tup (fa_cons fp_str (fa_cons fp_str fa_nil)))) (fs_one (fs_ret (fp_tup (fa_cons (fp_var 0) fa_nil)))) fs_nil) (fs_one (fs_raise rfl X_NoText n_NoText m_NoText (fa_cons fp_str fa_nil)))))))))
abbrev s_L_tried:Stmt:=top 37
theorem sc_L_tried:FnScope ["_law_line_here","_law_told","e","_law_others"] ["_law_line_here"] (defScope s_L_tried):=⟨rfl,rfl,rfl,by decide +kernel,rfl,by decide +kernel,by decide +kernel⟩
def B_L_tried:SF:=(sSeq (sSet 1 (eTup (aCons (eC .non) (aCons (eC (.bl false)) aNil)))) (sSeq (sTryAs 2 (subOf ["NoText"]) (sSetE 1 (xl (zTup (zE (zCall F_read_rowR (zP (eVar 0) z0)) (zP (eC (.bl false)) z0))))) (sSeq (sSet 3 (e1 (oIsE [("NoText",false)]) (eVar 2))) (sSet 1 (eTup (aCons (eC .non) (aCons (eAnd (e1 (oIsE [("NoText",true)]) (eVar 2)) (eAnd (e1 (oIsE [("NoText",true)]) (eVar 2)) (e1 oNot (eVar 3)))) aNil)))))) (sRetV 1)))
def F_L_tried:List D→Option D:=runF 1 4 B_L_tried
theorem ok_L_tried (g_ValueError:mg "ValueError"=none) (g_isinstance:mg "isinstance"=none) {c_LinegateError:Addr} (m_LinegateError:mg "LinegateError"=some (.ref c_LinegateError)) {c_NoAnswer:Addr} (m_NoAnswer:mg "NoAnswer"=some (.ref c_NoAnswer)) {c_NoChange:Addr} (m_NoChange:mg "NoChange"=some (.ref c_NoChange)) {c_NoFit:Addr} (m_NoFit:mg "NoFit"=some (.ref c_NoFit)) {c_NoLook:Addr} (m_NoLook:mg "NoLook"=some (.ref c_NoLook)) {c_NoRow:Addr} (m_NoRow:mg "NoRow"=some (.ref c_NoRow)) {c_NoRule:Addr} (m_NoRule:mg "NoRule"=some (.ref c_NoRule)) {c_NoText:Addr} (m_NoText:mg "NoText"=some (.ref c_NoText)) {c_TooLate:Addr} (m_TooLate:mg "TooLate"=some (.ref c_TooLate)) {c_TooMany:Addr} (m_TooMany:mg "TooMany"=some (.ref c_TooMany)) (CT_LinegateError:CatchT K ["NoText"] c_LinegateError) (KT_NoAnswer:KitT K [("NoText",false)] (.ref c_NoAnswer)) (KT_NoChange:KitT K [("NoText",false)] (.ref c_NoChange)) (KT_NoFit:KitT K [("NoText",false)] (.ref c_NoFit)) (KT_NoLook:KitT K [("NoText",false)] (.ref c_NoLook)) (KT_NoRow:KitT K [("NoText",false)] (.ref c_NoRow)) (KT_NoRule:KitT K [("NoText",false)] (.ref c_NoRule)) (KT_NoText:KitT K [("NoText",true)] (.ref c_NoText)) (KT_TooLate:KitT K [("NoText",false)] (.ref c_TooLate)) (KT_TooMany:KitT K [("NoText",false)] (.ref c_TooMany)) (KT_ValueError:KitT K [("NoText",true)] (.type "ValueError")) (KTT:KitTs K [("NoText",false)] [c_NoAnswer,c_NoChange,c_NoFit,c_NoLook,c_NoRow,c_NoRule,c_TooLate,c_TooMany]) (W_read_rowR:FN P w K mg base (CXE P w) 6 "read_row" ["text"] (spR K F_read_rowR)) (F:Fun K "_law_tried" "_law_tried" s_L_tried f fd):FnOk P w K mg base CX0 7 f fd ["_law_line_here"] (spF K F_L_tried):=by
 obtain ⟨_,_,G_read_rowR,m_read_rowR,k_read_rowR,b_read_rowR⟩:=W_read_rowR
 have sc:=sc_L_tried
 refine fn_F F sc_L_tried fun cdv A outer s H E hr=>?_
 have hu:=hu_of hr
 exact (fs_cons (fs_set 1 (fp_tup (fa_cons fp_non (fa_cons fp_bl fa_nil))) sc.nd) (fs_cons (fs_try_as 2 (fun pins R=>(fs_one (fs_setE 1 (F0.fe (f0_tup (a0_E (f0_call G_read_rowR (hr.mono (by decide)) m_read_rowR k_read_rowR b_read_rowR (a0_P (fp_var 0) a0_nil)) (a0_P fp_bl a0_nil)))) sc.nd))) (fun a=>(fs_cons (fs_set 3 (fp_isET KTT g_isinstance (fp_var 2) (pa_cons (pe_own rfl m_NoAnswer) (pa_cons (pe_own rfl m_NoChange) (pa_cons (pe_own rfl m_NoFit) (pa_cons (pe_own rfl m_NoLook) (pa_cons (pe_own rfl m_NoRow) (pa_cons (pe_own rfl m_NoRule) (pa_cons (pe_own rfl m_TooLate) (pa_cons (pe_own rfl m_TooMany) pa_nil)))))))) (fun _ _ _ q=>q) (by show (8:Nat)≤1000;decide)) sc.nd) (fs_one (fs_set 1 (fp_tup (fa_cons fp_non (fa_cons (fp_and (fp_isE KT_NoText g_isinstance m_NoText (fp_var 2)) (fp_and (fp_isEB KT_ValueError g_isinstance g_ValueError (fp_var 2)) (fp_one (fp_not (fp_var 3))))) fa_nil))) sc.nd)))) CT_LinegateError m_LinegateError sc.nd) (fs_one (fs_retV 1))))
abbrev s_law:Stmt:=top 38
theorem sc_law:FnScope ["_law_script","_law_line_here","_law_due","_law_found","_law_refused"] ["_law_script"] (defScope s_law):=⟨rfl,rfl,rfl,by decide +kernel,rfl,by decide +kernel,by decide +kernel⟩
def B_law:SF:=(sSeq (sSet 1 (eCall F_L_line (aCons (eVar 0) aNil))) (sSeq (sSet 2 (eCall F_L_read (aCons (eVar 1) aNil))) (sSeq (sAsg (eCall F_L_tried (aCons (eVar 1) aNil)) (gT (gsCons (gN 3) (gsCons (gN 4) gsNil)))) (sSeq (sIf (tV (e2 oIsN (eVar 2) (eC .non))) (sRetV 4) sNx) (sRet (eAnd (e1 oNot (eVar 4)) (eAnd (e1 (oIsiB "tuple") (eVar 3)) (eAnd (eCall F_L_plain (aCons (eVar 3) aNil)) (e2 oEqP (eVar 3) (eVar 2))))))))))
def F_law:List D→Option D:=runF 1 5 B_law
theorem ok_law (g_isinstance:mg "isinstance"=none) (g_tuple:mg "tuple"=none) (W_L_line:FN P w K mg base CX0 4 "_law_line" ["_law_script"] (spF K F_L_line)) (W_L_read:FN P w K mg base CX0 2 "_law_read" ["_law_line_here"] (spF K F_L_read)) (W_L_tried:FN P w K mg base CX0 7 "_law_tried" ["_law_line_here"] (spF K F_L_tried)) (W_L_plain:FN P w K mg base CX0 5 "_law_plain" ["_law_thing"] (spF K F_L_plain)) (F:Fun K "law" "law" s_law f fd):FnOk P w K mg base CX0 8 f fd ["_law_script"] (spF K F_law):=by
 obtain ⟨_,_,G_L_line,m_L_line,k_L_line,b_L_line⟩:=W_L_line
 obtain ⟨_,_,G_L_read,m_L_read,k_L_read,b_L_read⟩:=W_L_read
 obtain ⟨_,_,G_L_tried,m_L_tried,k_L_tried,b_L_tried⟩:=W_L_tried
 obtain ⟨_,_,G_L_plain,m_L_plain,k_L_plain,b_L_plain⟩:=W_L_plain
 have sc:=sc_law
 refine fn_F F sc_law fun cdv A outer s H E hr=>?_
 have hu:=hu_of hr
 exact (fs_cons (fs_set 1 (fp_call G_L_line (hr.mono (by decide)) m_L_line k_L_line b_L_line (fa_cons (fp_var 0) fa_nil)) sc.nd) (fs_cons (fs_set 2 (fp_call G_L_read (hr.mono (by decide)) m_L_read k_L_read b_L_read (fa_cons (fp_var 1) fa_nil)) sc.nd) (fs_cons (fs_asg (fp_call G_L_tried (hr.mono (by decide)) m_L_tried k_L_tried b_L_tried (fa_cons (fp_var 1) fa_nil)) (fg_tup rfl (fgs_cons (fg_name 3 sc.nd) (fgs_cons (fg_name 4 sc.nd) fgs_nil)))) (fs_cons (fs_if (ft_isN (fp_var 2) fp_non) (fs_one (fs_retV 4)) fs_nil) (fs_one (fs_ret (fp_and (fp_not (fp_var 4)) (fp_and (fp_isiB isi_tuple isiB_tuple g_isinstance g_tuple (fp_var 3)) (fp_and (fp_call G_L_plain (hr.mono (by decide)) m_L_plain k_L_plain b_L_plain (fa_cons (fp_var 3) fa_nil)) (fp_one (fp_eqP hr.units (fp_var 3) (fp_var 2))))))))))))
end K72
namespace K72
open PySem L2 L2.Ev
theorem size_le {n:Nat} (h:n≤10000):n < sizeLine:=by unfold sizeLine;omega
theorem small_of_le {i:Int} (h1:-1000≤i) (h2:i≤1000):small i=true:=by
 unfold small
 rw [decide_eq_true (show -(2 ^ 62)≤i by omega),decide_eq_true (show i < 2 ^ 62 by omega)];rfl
def iL (l:List Int):D:=.lst (l.map D.int)
def iT (l:List Int):D:=.tup (l.map D.int)
theorem cmul_r {i j:Int} (h:-(2 ^ 64) < j∧j < 2 ^ 64):cMul i j=true:=by unfold cMul;rw [decide_eq_true h.1,decide_eq_true h.2];simp
theorem f_cell {ns:List Int}{k:Int} (h0:0≤k):∃ v,F_L_cell_at [dI ns,.int k]=some (.int v):=by
 have hl:e1 oLen (eVar 0) [some (dI ns,.sh []),some (.int k,.sh [])]=some (.int ns.length,.own):=by
  have v0:eVar 0 [some (dI ns,.sh []),some (.int k,.sh [])]=some (.fls (ns.map D.int),.sh []):=rfl
  rw [s_e1,v0,s_k1,s_lenF,List.length_map];rfl
 have ht:tV (e2 oLt (eVar 1) (e1 oLen (eVar 0))) [some (dI ns,.sh []),some (.int k,.sh [])]=some (decide (k < (ns.length:Int))):=by
  have v1:eVar 1 [some (dI ns,.sh []),some (.int k,.sh [])]=some (.int k,.sh []):=rfl
  rw [s_tV,s_e2,v1,hl,s_k2,s_oLt];rfl
 by_cases h:k < (ns.length:Int)
 ·refine ⟨ns[k.toNat]'(by omega),runF_rt rfl ?_⟩
  show B_L_cell_at [some (dI ns,.sh []),some (.int k,.sh [])]=_
  have hx:e2 oIx (eVar 0) (eVar 1) [some (dI ns,.sh []),some (.int k,.sh [])]=some (.int (ns[k.toNat]'(by omega)),.own):=by
   rw [s_e2]
   show k2 oIx (some (.fls (ns.map D.int),.sh [])) (some (.int k,.sh []))=_
   rw [s_k2]
   have:oIx (.fls (ns.map D.int)) (.int k)=some (.int (ns[k.toNat]'(by omega))):=by
    show ((atI (ns.map D.int) k).bind fun d=>if imm d=true then some d else none)=_
    unfold atI ixN
    rw [List.length_map,if_pos (by omega),if_pos (by omega),Option.bind_some,List.getElem?_map,List.getElem?_eq_getElem (by omega)];rfl
   rw [this];rfl
  unfold B_L_cell_at
  rw [s_seq,s_if,ht,decide_eq_true h,s_ifT,s_ret,hx];rfl
 ·refine ⟨0,runF_rt rfl ?_⟩
  show B_L_cell_at [some (dI ns,.sh []),some (.int k,.sh [])]=_
  unfold B_L_cell_at
  rw [s_seq,s_if,ht,decide_eq_false h,s_ifF,s_nx,s_seqN];rfl
theorem f_mixed {n p m:Int} (hp:0 < p) (hm:0 < m):∃ v,F_L_mixed [.int n,.int p,.int m]=some (.int v)∧0≤v∧v < m:=by
 refine ⟨n % 1000003 * 48271 % p % m,runF_rt rfl ?_,Int.emod_nonneg _ (by omega),Int.emod_lt_of_pos _ hm⟩
 show B_L_mixed [some (.int n,.sh []),some (.int p,.sh []),some (.int m,.sh [])]=_
 have v0:eVar 0 [some (.int n,.sh []),some (.int p,.sh []),some (.int m,.sh [])]=some (.int n,.sh []):=rfl
 have v1:eVar 1 [some (.int n,.sh []),some (.int p,.sh []),some (.int m,.sh [])]=some (.int p,.sh []):=rfl
 have v2:eVar 2 [some (.int n,.sh []),some (.int p,.sh []),some (.int m,.sh [])]=some (.int m,.sh []):=rfl
 unfold B_L_mixed
 rw [s_ret,s_e2,s_e2,s_e2,s_e2,v0,v1,v2,s_eC,s_eC,s_k2,s_oMod (by omega),s_map,s_k2,s_oMul (cmul_r (by omega)),s_map,s_k2,s_oMod hp,s_map,s_k2,s_oMod hm];rfl
theorem mxd {ρ:Rho}{fn fp fm:EF}{n p m:Int}{t1 t2 t3:Tag} (h1:fn ρ=some (.int n,t1)) (h2:fp ρ=some (.int p,t2)) (h3:fm ρ=some (.int m,t3)) (hp:0 < p) (hm:0 < m):∃ v,eCall F_L_mixed (aCons fn (aCons fp (aCons fm aNil))) ρ=some (.int v,.own)∧0≤v∧v < m:=by
 obtain ⟨v,e,a,b⟩:=f_mixed (n:=n) hp hm
 refine ⟨v,?_,a,b⟩
 rw [s_call,s_aCons,s_aCons,s_aCons,h1,h2,h3,s_aNil,s_consK,s_consK,s_consK,s_bind]
 simp only [List.map_cons,List.map_nil]
 rw [e];rfl
def Nm (v:Int):Prop:=0≤v∧v < 1000000000000
def rng (a:Int) (n:Nat):List Int:=(List.range n).map fun i:Nat=>a + (i:Int)
theorem mem_rng {a x:Int}{n:Nat}:x∈rng a n↔a≤x∧x < a + n:=by
 unfold rng
 rw [List.mem_map]
 constructor
 ·rintro ⟨i,m,rfl⟩
  have:=List.mem_range.mp m
  omega
 ·intro h
  exact ⟨(x - a).toNat,List.mem_range.mpr (by omega),by omega⟩
theorem rng_len {a:Int}{n:Nat}:(rng a n).length=n:=by unfold rng;rw [List.length_map,List.length_range]
theorem ir1' {e:EF}{ρ:Rho}{n:Nat}{t:Tag} (h:e ρ=some (.int n,t)) (hs:n≤1000):iR1 e ρ=some ((rng 0 n).map D.int,.own):=by
 rw [ir1 h (small_of_le (by omega) (by omega)),Int.toNat_natCast]
 unfold rng
 rw [List.map_map];rfl
theorem c_map {α:Type}{js:List (Option Nat)}{it:IF}{g:GF}{te:EF}{ρ:Rho}{t:Tag}{l:List α}{i:α→D}{f:α→D} (hi:it ρ=some (l.map i,t)) (hl:l.length≤10000) (h:∀ x∈l,compE g tTrue te (iniR js ρ) (i x)=some (some (f x))) :
  eComp js it g tTrue te ρ=some (.lst (l.map f),.own):=by
 have hd:∀ d∈l.map i,compE g tTrue te (iniR js ρ) d=some ((compE g tTrue te (iniR js ρ) d).getD none):=fun d m=>by
  obtain ⟨x,mx,rfl⟩:=List.mem_map.mp m
  rw [h x mx];rfl
 have hc:=comp_ok (js:=js) (g:=g) (tt:=tTrue) (te:=te) (k:=fun d=>(compE g tTrue te (iniR js ρ) d).getD none) hi (by rw [List.length_map];exact size_le hl) hd
 rw [hc]
 congr 3
 clear hc hd hi hl
 induction l with
 | nil=>rfl
 | cons a r ih=>
  rw [List.map_cons,List.filterMap_cons,h a List.mem_cons_self]
  exact congrArg (f a::·) (ih fun x m=>h x (List.mem_cons_of_mem _ m))
theorem ir3 {fa fb:EF}{ρ:Rho}{n:Nat}{t1 t2:Tag} (h1:fa ρ=some (.int 0,t1)) (h2:fb ρ=some (.int (3 * n:Nat),t2)) (hn:n≤100):iR3 fa fb 3 ρ=some ((List.range n).map fun i:Nat=>D.int (0 + i * 3),.own):=by
 unfold iR3
 rw [h1,h2]
 dsimp only
 have hsz:Builtin.Range.rangeSize 0 ((3 * n:Nat):Int) 3=n:=by
  unfold Builtin.Range.rangeSize
  rw [if_pos (by decide)]
  split <;> omega
 have hs:Builtin.Range.small 0 ((3 * n:Nat):Int) 3=true:=by
  unfold Builtin.Range.small
  rw [hsz]
  have fits:∀ i:Int,-1000≤i→i≤1000→Builtin.Range.rangeFitsLong i=true:=fun i h1 h2=>by
   unfold Builtin.Range.rangeFitsLong
   simp
   omega
  rw [fits 0 (by omega) (by omega),fits _ (by omega) (by omega),fits 3 (by omega) (by omega),fits n (by omega) (by omega),if_pos (by decide),fits _ (by omega) (by omega),Bool.or_true];rfl
 rw [if_pos (by rw [hs];rfl),hsz,Int.toNat_natCast]
abbrev bl:Str:=" "
theorem bl_eq:bl=⟨#[32]⟩:=by kernel_rfl
def Fr (w:Str):Prop:=32∉w.cps.toList
theorem cut_at {a b:List Nat}{u v:List Nat}:32∉a→32∉b→a++32::u=b++32::v→a=b∧u=v:=by
 induction a generalizing b with
 | nil=>
  intro _ hb e
  cases b with
  | nil=>exact ⟨rfl,by simpa using e⟩
  | cons y r=>
   have:(32:Nat)=y:=by have:=congrArg List.head? e;simpa using this
   exact absurd (by rw [this];exact List.mem_cons_self) hb
 | cons x r ih=>
  intro ha hb e
  cases b with
  | nil=>
   have:x=32:=by have:=congrArg List.head? e;simpa using this
   exact absurd (by rw [this];exact List.mem_cons_self) ha
  | cons y r'=>
   rw [List.cons_append,List.cons_append] at e
   obtain ⟨e1,e2⟩:=List.cons.inj e
   obtain ⟨h1,h2⟩:=ih (fun m=>ha (List.mem_cons_of_mem _ m)) (fun m=>hb (List.mem_cons_of_mem _ m)) e2
   exact ⟨by rw [e1,h1],h2⟩
theorem join_two (x y:Str) (r:List Str):(Str.join bl (x::y::r)).cps.toList=x.cps.toList++32::(Str.join bl (y::r)).cps.toList:=by
 show (x++bl++Str.join bl (y::r)).cps.toList=_
 rw [bl_eq,Str.cps_append,Str.cps_append]
 simp
theorem join_inj:∀ {A B:List Str},A≠[]→B≠[]→(∀ w∈A,Fr w)→(∀ w∈B,Fr w)→Str.join bl A=Str.join bl B→A=B
 | [],_,h,_,_,_,_=>absurd rfl h
 | _,[],_,h,_,_,_=>absurd rfl h
 | [a],[b],_,_,_,_,e=>by rw [show a=b from e]
 | [a],b::b'::r,_,_,ha,_,e=>by
  have e:=congrArg (fun s:Str=>s.cps.toList) e
  rw [join_two] at e
  have e:a.cps.toList=b.cps.toList++32::(Str.join bl (b'::r)).cps.toList:=e
  exact absurd (by rw [e];simp) (ha a List.mem_cons_self)
 | a::a'::r,[b],_,_,_,hb,e=>by
  have e:=congrArg (fun s:Str=>s.cps.toList) e
  rw [join_two] at e
  have e:a.cps.toList++32::(Str.join bl (a'::r)).cps.toList=b.cps.toList:=e
  exact absurd (by rw [← e];simp) (hb b List.mem_cons_self)
 | a::a'::r,b::b'::r',_,_,ha,hb,e=>by
  have e:=congrArg (fun s:Str=>s.cps.toList) e
  rw [join_two,join_two] at e
  obtain ⟨e1,e2⟩:=cut_at (ha a List.mem_cons_self) (hb b List.mem_cons_self) e
  have h1:a=b:=Str.ext' (Array.toList_inj.mp e1)
  have h2:Str.join bl (a'::r)=Str.join bl (b'::r'):=Str.ext' (Array.toList_inj.mp e2)
  rw [h1,join_inj (by simp) (by simp) (fun w m=>ha w (List.mem_cons_of_mem _ m)) (fun w m=>hb w (List.mem_cons_of_mem _ m)) h2]
theorem split_ne (x:Str):Txt.split x bl≠[]:=by
 unfold Txt.split
 split
 ·simp
 ·split
  ·simp
  ·rw [StrLaws.partsBetween_eq]
   obtain ⟨p,r,e⟩:=StrLaws.partsFrom_ne x bl.length 0 (Builtin.Str.occurrences x bl 0 x.length (x.length + 1))
   rw [e];simp
theorem split_join {W:List Str} (h:W≠[]) (hf:∀ w∈W,Fr w):Txt.split (Str.join bl W) bl=W:=
 join_inj (split_ne _) h (fun w m=>by
  rw [bl_eq] at m
  exact StrLaws.split_free _ 32 w m) hf (StrLaws.join_split _ _)
def tS (v:Int):Str:=Str.ofString (toString v)
theorem dig_step {m:Nat} (h:¬ m < 10):Nat.toDigits 10 m=Nat.toDigits 10 (m / 10)++[Nat.digitChar (m % 10)]:=by
 have hm:m % 10 < 10:=Nat.mod_lt m (by decide)
 have t:Nat.toDigits 10 (m / 10)++Nat.toDigits 10 (m % 10)=Nat.toDigits 10 (10 * (m / 10) + m % 10):=Nat.toDigits_append_toDigits (by decide) (by omega) hm
 rw [Nat.div_add_mod,Nat.toDigits_of_lt_base hm] at t
 exact t.symm
theorem dig_len:∀ (k m:Nat),m < 10 ^ (k + 1)→(Nat.toDigits 10 m).length≤k + 1∧1≤(Nat.toDigits 10 m).length
 | 0,m,h=>by rw [Nat.toDigits_of_lt_base (by simpa using h)];exact ⟨Nat.le_refl _,Nat.le_refl _⟩
 | k + 1,m,h=>by
  by_cases hm:m < 10
  ·rw [Nat.toDigits_of_lt_base hm];exact ⟨by simp,Nat.le_refl _⟩
  ·have:=dig_len k (m / 10) (by rw [Nat.pow_succ] at h;omega)
   rw [dig_step hm,List.length_append]
   simp
   omega
theorem tS_cps {v:Int} (h:0≤v):(tS v).cps.toList=(Nat.toDigits 10 v.toNat).map Char.toNat:=by
 obtain ⟨m,rfl⟩:=Int.eq_ofNat_of_zero_le h
 rw [Int.toNat_natCast]
 exact PySem.W.KIN.signs_num m
theorem tS_dig {v:Int} (h:0≤v):∀ c∈(tS v).cps.toList,48≤c∧c≤57:=fun c hc=>by
 rw [tS_cps h] at hc
 obtain ⟨ch,hch,e⟩:=List.mem_map.mp hc
 have r:=Nat.isDigit_of_mem_toDigits (by decide) (by decide) hch
 rw [← e]
 unfold Char.isDigit at r
 simp only [Bool.and_eq_true,decide_eq_true_eq] at r
 exact r
theorem tS_len {v:Int} (h:Nm v):1≤(tS v).length∧(tS v).length≤12:=by
 obtain ⟨h0,h1⟩:=h
 have e:(tS v).length=(Nat.toDigits 10 v.toNat).length:=by
  show (tS v).cps.size=_
  rw [← Array.length_toList,tS_cps h0,List.length_map]
 have:=dig_len 11 v.toNat (by omega)
 rw [e]
 omega
theorem s_all {bs:List Bool}:oAll (.lst (bs.map D.bl))=some (.bl (bs.all id)):=by
 have e:boolsD (bs.map D.bl)=some bs:=by
  induction bs with
  | nil=>rfl
  | cons b r ih=>rw [List.map_cons];unfold boolsD;rw [ih];rfl
 show (boolsD (bs.map D.bl)).map (fun bs=>D.bl (bs.all id))=_
 rw [e];rfl
def sL (W:List Str):D:=.lst (W.map D.str)
theorem imm_strs:∀ W:List Str,immAll (W.map D.str)=true
 | []=>rfl
 | n::r=>by rw [List.map_cons];unfold immAll;rw [imm_strs r];rfl
theorem cut_from {ds:List D}{k:Nat} (hk:k≤ds.length):cutD ds (some (k:Int)) none=ds.drop k:=by
 unfold cutD
 rw [HT.sIx_nat,HT.sIx_none,Nat.min_eq_left hk,List.take_of_length_le (by rw [List.length_drop];exact Nat.le_refl _)]
theorem cut1 {ds:List D}:cutD ds (some 1) none=ds.drop 1:=by
 cases ds with
 | nil=>rfl
 | cons a r=>exact cut_from (k:=1) (by simp)
theorem wa_none {W:List Str}{m:Str} (h:m∉W):F_wa [sL W,.str m]=some (sL W):=by
 show (match strsD (W.map D.str) with | some ts=>(match ts.findIdx? (· == m) with | some j=>some (D.lst ((ts.take j).map D.str)) | none=>some (D.lst (W.map D.str))) | none=>none)=_
 have e:strsD (W.map D.str)=some W:=strsD_strs W
 rw [e]
 have:W.findIdx? (· == m)=none:=List.findIdx?_eq_none_iff.mpr fun x mx=>by simpa using fun q=>h (by rw [← q];exact mx)
 dsimp only
 rw [this];rfl
theorem idx_app {A B:List Str}{m:Str} (h:m∉A):(A++m::B).findIdx? (· == m)=some A.length:=by
 rw [List.findIdx?_eq_some_iff_getElem]
 refine ⟨by simp,by simp,fun j hj=>?_⟩
 rw [List.getElem_append_left hj]
 simpa using fun q=>h (by rw [← q];exact List.getElem_mem hj)
theorem wa_at {A B:List Str}{m:Str} (h:m∉A):F_wa [sL (A++m::B),.str m]=some (sL A):=by
 show (match strsD ((A++m::B).map D.str) with | some ts=>(match ts.findIdx? (· == m) with | some j=>some (D.lst ((ts.take j).map D.str)) | none=>some (D.lst ((A++m::B).map D.str))) | none=>none)=_
 have e:strsD ((A++m::B).map D.str)=some (A++m::B):=strsD_strs _
 rw [e]
 dsimp only
 rw [idx_app h]
 dsimp only
 rw [List.take_left];rfl
theorem any_mem {W:List Str}{m:Str}:W.any (· == m)=decide (m∈W):=by
 by_cases h:m∈W
 ·rw [decide_eq_true h];exact List.any_eq_true.mpr ⟨m,h,by simp⟩
 ·rw [decide_eq_false h,Bool.eq_false_iff]
  intro e
  obtain ⟨y,my,ey⟩:=List.any_eq_true.mp e
  exact h (by rw [← (beq_iff_eq.mp ey)];exact my)
theorem t_in {ρ:Rho}{W:List Str}{m:Str}{fa fb:EF}{neg:Bool}{t1 t2:Tag} (h1:fa ρ=some (.str m,t1)) (h2:fb ρ=some (sL W,t2)):tV (e2 (oInS neg) fa fb) ρ=some (if neg=true then !decide (m∈W) else decide (m∈W)):=by
 rw [s_tV,s_e2,h1,h2,s_k2]
 show Ev.kV (((strsD (W.map D.str)).map fun ns=>D.bl (if neg=true then !(ns.any (· == m)) else ns.any (· == m))).map _)=_
 rw [strsD_strs]
 show some (if neg=true then !(W.any (· == m)) else W.any (· == m))=_
 rw [any_mem]
abbrev figs:Str:="0123456789"
def fig (c:Nat):Bool:=decide (c∈figs.cps.toList)
theorem fig_iff {c:Nat}:fig c=true↔48≤c∧c≤57:=by
 unfold fig
 have:figs.cps.toList=[48,49,50,51,52,53,54,55,56,57]:=by kernel_rfl
 rw [this,decide_eq_true_iff]
 simp only [List.mem_cons,List.not_mem_nil,or_false]
 omega
theorem in_fig (c:Nat):oInT (.str ⟨#[c]⟩) (.str figs)=some (.bl (fig c)):=by
 show some (D.bl (!(Builtin.Str.occurrences figs ⟨#[c]⟩ 0 figs.length 1).isEmpty))=_
 rw [StrLaws.found_one];rfl
theorem nin_fig (c:Nat):oNinT (.str ⟨#[c]⟩) (.str figs)=some (.bl (!fig c)):=by
 show some (D.bl (!(!(Builtin.Str.occurrences figs ⟨#[c]⟩ 0 figs.length 1).isEmpty)))=_
 rw [StrLaws.found_one];rfl
abbrev Asc (w:Str):Prop:=w.cps.all (· < 128)=true
def lenB (w:Str):Bool:=decide ((1:Int)≤w.length)&&decide ((w.length:Int)≤12)
def num (w:Str):Bool:=lenB w&&w.cps.toList.all fig&&(w == "0"||!Txt.startswith w "0")
theorem len_list (w:Str):w.cps.toList.length=w.length:=Array.length_toList
theorem chain12 {w:Str}{ρ:Rho}{t:Tag} (h:eVar 0 ρ=some (.str w,t)) (hl:w.length≤2000):eChain oLe oLe (eC (.int 1)) (e1 oLenS (eVar 0)) (eC (.int 12)) ρ=some (.bl (lenB w),.own):=by
 have hlen:e1 oLenS (eVar 0) ρ=some (.int w.length,.own):=k1e h (by
  show (if w.length≤sizeLine then some (D.int w.length) else none)=_
  rw [if_pos (Nat.le_of_lt (size_le (by omega)))])
 unfold eChain
 rw [hlen,s_eC]
 show (match oLe (.int 1) (.int w.length) with | some (.bl true)=>(match eC (.int 12) ρ with | some (d3,_)=>(oLe (.int w.length) d3).map (fun d=>(d,Tag.own)) | none=>none) | some (.bl false)=>some (.bl false,.own) | _=>none)=_
 unfold lenB
 rw [s_oLe]
 cases decide ((1:Int)≤w.length) <;> rfl
theorem f_num {w:Str} (ha:Asc w) (hl:w.length≤2000):F_is_number [.str w]=some (.bl (num w)):=by
 refine runF_rt rfl ?_
 show B_is_number [some (.str w,.sh [])]=_
 have v0:eVar 0 [some (.str w,.sh [])]=some (.str w,.sh []):=rfl
 have hi:iStrF (eVar 0) [some (.str w,.sh [])]=some (w.cps.toList.map (fun c=>D.str ⟨#[c]⟩),.own):=by
  unfold iStrF
  rw [v0]
  dsimp only
  rw [if_pos (show (w.cps.all fun x=>decide (x < 128))=true from ha)];rfl
 have hc:=c_map (js:=[none]) (g:=gN 0) (te:=e2 oInT (eVar 0) (eC (.str "0123456789"))) (f:=fun c=>D.bl (fig c)) hi (by rw [len_list];omega) (fun c m=>compE_own (ρ1:=[some (.str ⟨#[c]⟩,.sh [])]) rfl rfl (k2e rfl rfl (in_fig c)))
 have e:w.cps.toList.map (fun c=>D.bl (fig c))=(w.cps.toList.map fig).map D.bl:=by rw [List.map_map];rfl
 have t2:tV (e1 oAll (eComp [none] (iStrF (eVar 0)) (gN 0) tTrue (e2 oInT (eVar 0) (eC (.str "0123456789"))))) [some (.str w,.sh [])]=some (w.cps.toList.all fig):=by
  have ea:(w.cps.toList.map fig).all id=w.cps.toList.all fig:=by rw [List.all_map];rfl
  rw [s_tV,s_e1,hc,s_k1,e,s_all,ea];rfl
 have t1:=kTV (chain12 v0 hl)
 unfold B_is_number
 rw [s_seq,s_if,s_not,s_and2 t1 t2]
 unfold num
 cases lenB w&&w.cps.toList.all fig with
 | false=>rfl
 | true=>
  show seqK _ (sNx _)=_
  rw [s_nx,s_seqN,s_ret]
  have e1':e2 oEq (eVar 0) (eC (.str "0")) [some (.str w,.sh [])]=some (.bl (w == "0"),.own):=rfl
  have e2':e1 oNot (e2 oStarts (eVar 0) (eC (.str "0"))) [some (.str w,.sh [])]=some (.bl (!Txt.startswith w "0"),.own):=rfl
  unfold eOr
  rw [e1']
  cases (w == ("0":Str)) with
  | true=>rfl
  | false=>
   show retK (e1 oNot (e2 oStarts (eVar 0) (eC (.str "0"))) [some (.str w,.sh [])])=_
   rw [e2'];rfl
theorem starts_hd {w:Str}{c:Nat}{r:List Nat} (e:w.cps.toList=c::r):Txt.startswith w "0"=(c == 48):=by
 show (decide (0 + (Str.ofString "0").length≤w.length)&&Builtin.Str.subAt w (Str.ofString "0") 0)=_
 rw [StrLaws.subAt_eq,e]
 have hz:(Str.ofString "0").cps.toList=[48]:=by kernel_rfl
 have hn:(Str.ofString "0").length=1:=by kernel_rfl
 have hw:1≤w.length:=by rw [← len_list,e];simp
 rw [hz,hn,decide_eq_true (by omega)]
 show (true&&([c] == [48]))=_
 simp
theorem f_Lnum {w:Str} (ha:Asc w) (hl:w.length≤2000):F_L_is_number [.str w]=some (.bl (num w)):=by
 refine runF_rt rfl ?_
 show B_L_is_number [some (.str w,.sh []),none]=_
 have v0:∀ s1,eVar 0 [some (.str w,.sh []),s1]=some (.str w,.sh []):=fun _=>rfl
 have hi:iStrF (eVar 0) [some (.str w,.sh []),none]=some (w.cps.toList.map (fun c=>D.str ⟨#[c]⟩),.own):=by
  unfold iStrF
  rw [v0]
  dsimp only
  rw [if_pos (show (w.cps.all fun x=>decide (x < 128))=true from ha)];rfl
 have lp:∀ (l:List Nat) (s1:Slot),(l.all fig=true→∃ t1,loopF (gN 1) (.sh []) (sIf (tV (e2 oNinT (eVar 1) (eC (.str "0123456789")))) (sRet (eC (.bl false))) sNx) (l.map (fun c=>D.str ⟨#[c]⟩)) [some (.str w,.sh []),s1]=some (.nx [some (.str w,.sh []),t1])) ∧
   (l.all fig=false→loopF (gN 1) (.sh []) (sIf (tV (e2 oNinT (eVar 1) (eC (.str "0123456789")))) (sRet (eC (.bl false))) sNx) (l.map (fun c=>D.str ⟨#[c]⟩)) [some (.str w,.sh []),s1]=some (.rt (.bl false))):=fun l=>by
  induction l with
  | nil=>exact fun s1=>⟨fun _=>⟨s1,rfl⟩,(fun h=>by cases h)⟩
  | cons c r ih=>
   intro s1
   have ht:tV (e2 oNinT (eVar 1) (eC (.str "0123456789"))) [some (.str w,.sh []),some (.str ⟨#[c]⟩,.sh [])]=some (!fig c):=kTV (k2e rfl rfl (nin_fig c))
   rw [List.all_cons,List.map_cons]
   cases hf:fig c with
   | false=>
    refine ⟨(fun h=>by cases h),fun _=>?_⟩
    exact loop_r (ρ1:=[some (.str w,.sh []),some (.str ⟨#[c]⟩,.sh [])]) rfl (by rw [s_if,ht,hf];rfl)
   | true=>
    have st:sIf (tV (e2 oNinT (eVar 1) (eC (.str "0123456789")))) (sRet (eC (.bl false))) sNx [some (.str w,.sh []),some (.str ⟨#[c]⟩,.sh [])]=some (.nx [some (.str w,.sh []),some (.str ⟨#[c]⟩,.sh [])]):=by rw [s_if,ht,hf];rfl
    rw [loop_c rfl st,Bool.true_and]
    exact ih _
 unfold B_L_is_number num
 rw [s_seq]
 cases hall:w.cps.toList.all fig with
 | false=>
  rw [for_rt0 hi ((lp _ none).2 hall),Bool.and_false,Bool.false_and];rfl
 | true=>
  obtain ⟨t1,l1⟩:=(lp _ none).1 hall
  rw [for_nx0 hi l1,s_seqN,s_seq,s_if,Bool.and_true]
  have e1':tV (e2 oEq (eVar 0) (eC (.str "0"))) [some (.str w,.sh []),t1]=some (w == "0"):=rfl
  rw [e1']
  cases hz:(w == ("0":Str)) with
  | true=>
   have:w="0":=by simpa using hz
   subst this
   show some (Out.rt (D.bl true))=_
   rw [show lenB "0"=true by decide +kernel];rfl
  | false=>
   show seqK _ (sNx _)=_
   rw [s_nx,s_seqN,s_ret]
   have hch:=chain12 (v0 t1) hl
   unfold eAnd
   rw [hch,Bool.false_or]
   cases hb:lenB w with
   | false=>rfl
   | true=>
    have hw:1≤w.length:=by
     unfold lenB at hb
     have:=of_decide_eq_true ((Bool.and_eq_true _ _).mp hb).1
     omega
    obtain ⟨c,r,e⟩:∃ c r,w.cps.toList=c::r:=by
     cases h:w.cps.toList with
     | nil=>have:=len_list w;rw [h] at this;simp at this;omega
     | cons c r=>exact ⟨c,r,rfl⟩
    have hx:oIxS (.str w) (.int 0)=some (.str ⟨#[c]⟩):=by
     show (if w.length≤sizeLine then (atI w.cps.toList 0).map (fun c=>D.str ⟨#[c]⟩) else none)=_
     rw [if_pos (Nat.le_of_lt (size_le (by omega))),e]
     unfold atI ixN
     rw [if_pos (by decide),if_pos (by rw [List.length_cons];omega)];rfl
    show retK (e2 oNe (e2 oIxS (eVar 0) (eC (.int 0))) (eC (.str "0")) [some (.str w,.sh []),t1])=_
    rw [k2e (d:=.bl (!((⟨#[c]⟩:Str) == "0"))) (k2e (v0 t1) rfl hx) rfl rfl,starts_hd e]
    have:((⟨#[c]⟩:Str) == "0")=(c == 48):=by
     have hz:("0":Str)=⟨#[48]⟩:=by kernel_rfl
     rw [hz]
     by_cases hcc:c=48
     ·subst hcc;simp
     ·rw [show (c == 48)=false by simpa using hcc]
      simp [hcc]
    rw [this];rfl
def val (w:Str):Int:=(PySem.intText? w).getD 0
theorem num_int {w:Str} (h:num w=true):oIntS (.str w)=some (.int (val w)):=by
 unfold num at h
 obtain ⟨h1,_⟩:=(Bool.and_eq_true _ _).mp h
 obtain ⟨hb,hf⟩:=(Bool.and_eq_true _ _).mp h1
 unfold lenB at hb
 obtain ⟨b1,b2⟩:=(Bool.and_eq_true _ _).mp hb
 have b1:=of_decide_eq_true b1
 have b2:=of_decide_eq_true b2
 have hne:w.cps.toList≠[]:=fun e=>by have:=len_list w;rw [e] at this;simp at this;omega
 show (if w.length≤640 then (PySem.intText? w).map D.int else none)=_
 unfold val
 rw [if_pos (by omega),PySem.intText_digits (fun c m=>fig_iff.mp (List.all_eq_true.mp hf c m)) hne (by omega)];rfl
theorem num_on:num "on"=false:=by decide +kernel
theorem num_put:num "put"=false:=by decide +kernel
abbrev NX:XN:=("NoText",none)
theorem runR_rt {n N:Nat}{b:SF}{ds:List D}{d:D} (hl:ds.length=n) (h:b (iniF N ds)=some (.rt d)):runR n N b ds=some (.ok d):=by unfold runR;rw [if_pos hl,h]
theorem runR_er {n N:Nat}{b:SF}{ds:List D}{raw:Bool}{cn:XN}{ρ:Rho} (hl:ds.length=n) (h:b (iniF N ds)=some (.er raw cn ρ)):runR n N b ds=some (.er cn):=by unfold runR;rw [if_pos hl,h]
structure WOk (W:List Str):Prop where
 a:∀ w∈W,Asc w
 l:∀ w∈W,w.length≤2000
 n:W.length≤2000
theorem WOk.sub {W V:List Str} (h:WOk W) (s:∀ w∈V,w∈W) (n:V.length≤W.length):WOk V:=⟨fun w m=>h.a w (s w m),fun w m=>h.l w (s w m),Nat.le_trans n h.n⟩
def rz (o:Option D):Rz:=match o with
 | some d=>.ok d
 | none=>.er NX
theorem t_num {ρ:Rho}{w:Str}{t:Tag}{i:Nat} (h:eVar i ρ=some (.str w,t)) (ha:Asc w) (hl:w.length≤2000):tV (eCall F_is_number (aCons (eVar i) aNil)) ρ=some (num w):=
 kTV (kcall (ps:=[(.str w,t)]) (by rw [s_aCons,h,s_aNil,s_consK]) (f_num ha hl))
theorem f_rn {w:Str} (ha:Asc w) (hl:w.length≤2000):F_read_numberR [.str w]=some (rz (if num w=true then some (.int (val w)) else none)):=by
 have t1:=t_num (ρ:=[some (.str w,.sh [])]) (i:=0) (w:=w) (t:=.sh []) rfl ha hl
 cases hn:num w with
 | true=>
  refine runR_rt rfl ?_
  show B_read_numberR [some (.str w,.sh [])]=_
  unfold B_read_numberR
  rw [s_seq,s_if,s_not,t1,hn]
  show seqK _ (sNx _)=_
  rw [s_nx,s_seqN,s_ret,k1e (d:=.str w) (t:=.sh []) rfl (num_int hn)];rfl
 | false=>
  refine runR_er (raw:=true) (ρ:=[some (.str w,.sh [])]) rfl ?_
  show B_read_numberR [some (.str w,.sh [])]=_
  unfold B_read_numberR
  rw [s_seq,s_if,s_not,t1,hn];rfl
theorem cmp_num:∀ {W:List Str},WOk W→cmpR (gN 0) F_read_numberR (aCons (eVar 0) aNil) [none] (W.map D.str)=some (if W.all num=true then .inl ((W.map val).map D.int) else .inr NX)
 | [],_=>rfl
 | w::W,h=>by
  have ih:=cmp_num (h.sub (V:=W) (fun x m=>List.mem_cons_of_mem _ m) (by simp))
  have f:=f_rn (h.a w List.mem_cons_self) (h.l w List.mem_cons_self)
  rw [List.map_cons]
  unfold cmpR
  show (match F_read_numberR [.str w] with | none=>none | some (.er cn)=>some (Sum.inr cn) | some (.ok e)=>(match cmpR (gN 0) F_read_numberR (aCons (eVar 0) aNil) [none] (W.map D.str) with | none=>none | some (.inl es)=>some (Sum.inl (e::es)) | some (.inr cn)=>some (Sum.inr cn)))=_
  rw [f,ih,List.all_cons]
  cases num w with
  | false=>rfl
  | true=>
   cases W.all num <;> rfl
theorem f_rns {W:List Str} (h:WOk W):F_read_numbersR [sL W]=some (rz (if W.all num=true then some (iT (W.map val)) else none)):=by
 have hn:=h.n
 have hc:eCompR [none] (iSeqF (eVar 0)) (gN 0) F_read_numberR (aCons (eVar 0) aNil) [some (sL W,.sh [])]=some (if W.all num=true then .ok (iL (W.map val)) else .er NX):=by
  unfold eCompR
  show (if (W.map D.str).length < sizeLine then (match cmpR (gN 0) F_read_numberR (aCons (eVar 0) aNil) [none] (W.map D.str) with | some (.inl es)=>some (Rz.ok (.lst es)) | some (.inr cn)=>some (.er cn) | none=>none) else none)=_
  rw [if_pos (by rw [List.length_map];exact size_le (by omega)),cmp_num h]
  cases W.all num <;> rfl
 have hz:zTuple (eCompR [none] (iSeqF (eVar 0)) (gN 0) F_read_numberR (aCons (eVar 0) aNil)) [some (sL W,.sh [])]=some (rz (if W.all num=true then some (iT (W.map val)) else none)):=by
  unfold zTuple
  rw [hc]
  cases W.all num with
  | false=>rfl
  | true=>
   show (if immAll ((W.map val).map D.int)=true then _ else _)=_
   rw [if_pos (imm_ints _)];rfl
 cases ha:W.all num with
 | true=>
  rw [ha] at hz
  refine runR_rt rfl ?_
  show B_read_numbersR [some (sL W,.sh [])]=_
  unfold B_read_numbersR sRetE xl
  rw [hz];rfl
 | false=>
  rw [ha] at hz
  refine runR_er (raw:=false) (ρ:=[some (sL W,.sh [])]) rfl ?_
  show B_read_numbersR [some (sL W,.sh [])]=_
  unfold B_read_numbersR sRetE xl
  rw [hz];rfl
def ahead (m:Str):List Str→List Str
 | []=>[]
 | w::W=>if w=m then [] else w::ahead m W
def after (m:Str):List Str→List Str
 | []=>[]
 | w::W=>if w=m then W else after m W
theorem ahead_no {m:Str}:∀ {W:List Str},m∉W→ahead m W=W
 | [],_=>rfl
 | w::W,h=>by
  unfold ahead
  rw [if_neg (fun e=>h (by rw [e];exact List.mem_cons_self)),ahead_no fun q=>h (List.mem_cons_of_mem _ q)]
theorem split_m {m:Str}:∀ {W:List Str},m∈W→∃ A B,W=A++m::B∧m∉A
 | w::W,h=>by
  by_cases e:w=m
  ·exact ⟨[],W,by rw [e];rfl,by simp⟩
  ·obtain ⟨A,B,e1,h1⟩:=split_m ((List.mem_cons.mp h).resolve_left (Ne.symm e))
   exact ⟨w::A,B,by rw [e1];rfl,fun q=>(List.mem_cons.mp q).elim (fun z=>e z.symm) h1⟩
theorem ahead_at {m:Str}{B:List Str}:∀ {A:List Str},m∉A→ahead m (A++m::B)=A
 | [],_=>by show (if m=m then [] else _)=_;rw [if_pos rfl]
 | w::A,h=>by
  show (if w=m then [] else w::ahead m (A++m::B))=_
  rw [if_neg (fun e=>h (by rw [e];exact List.mem_cons_self)),ahead_at fun q=>h (List.mem_cons_of_mem _ q)]
theorem after_at {m:Str}{B:List Str}:∀ {A:List Str},m∉A→after m (A++m::B)=B
 | [],_=>by show (if m=m then B else _)=_;rw [if_pos rfl]
 | w::A,h=>by
  show (if w=m then _ else after m (A++m::B))=_
  rw [if_neg (fun e=>h (by rw [e];exact List.mem_cons_self)),after_at fun q=>h (List.mem_cons_of_mem _ q)]
theorem f_wa (m:Str) (W:List Str):F_wa [sL W,.str m]=some (sL (ahead m W)):=by
 by_cases h:m∈W
 ·obtain ⟨A,B,rfl,hA⟩:=split_m h
  rw [ahead_at hA];exact wa_at hA
 ·rw [ahead_no h];exact wa_none h
def beh (m:Str) (W:List Str):Option (List Int):=if m∈W then (if ((after m W).all num&&!(after m W).isEmpty)=true then some ((after m W).map val) else none) else some []
theorem f_nb {W:List Str}{m:Str} (h:WOk W) (hm:m.length≤1000):F_numbers_behindR [sL W,.str m]=some (rz ((beh m W).map iT)):=by
 have q0:tV (e2 (oInS true) (eVar 1) (eVar 0)) [some (sL W,.sh []),some (.str m,.sh []),none]=some (!decide (m∈W)):=by
  rw [t_in (W:=W) (m:=m) (t1:=.sh []) (t2:=.sh []) rfl rfl,if_pos rfl]
 by_cases hmem:m∈W
 ·have q1:sIf (tV (e2 (oInS true) (eVar 1) (eVar 0))) (sRet (eTup aNil)) sNx [some (sL W,.sh []),some (.str m,.sh []),none]=some (.nx [some (sL W,.sh []),some (.str m,.sh []),none]):=by
   rw [s_if,q0,decide_eq_true hmem];rfl
  unfold beh
  rw [if_pos hmem]
  obtain ⟨A,B,hW,hA⟩:=split_m hmem
  have hB:WOk B:=h.sub (fun x mx=>by rw [hW];exact List.mem_append_right _ (List.mem_cons_of_mem _ mx)) (by rw [hW];simp;omega)
  have eB:after m W=B:=by rw [hW];exact after_at hA
  rw [eB]
  have hix:oIndex (sL W) (.str m)=some (.int A.length):=by
   show (match strsD (W.map D.str) with | some ts=>(ts.findIdx? (· == m)).map (fun j:Nat=>D.int j) | none=>none)=_
   rw [strsD_strs]
   dsimp only
   rw [hW,idx_app hA];rfl
  have hj:e2 oAdd (e2 oIndex (eVar 0) (eVar 1)) (eC (.int 1)) [some (sL W,.sh []),some (.str m,.sh []),none]=some (.int ((A.length + 1:Nat):Int),.own):=k2e (k2e rfl rfl hix) rfl rfl
  have hcut:eCutT (eVar 0) (e2 oAdd (e2 oIndex (eVar 0) (eVar 1)) (eC (.int 1))) [some (sL W,.sh []),some (.str m,.sh []),none]=some (sL B,.own):=by
   have v0:eVar 0 [some (sL W,.sh []),some (.str m,.sh []),none]=some (sL W,.sh []):=rfl
   unfold eCutT
   rw [v0,hj]
   show (if immAll (W.map D.str)=true then some (D.lst (cutD (W.map D.str) (some ((A.length + 1:Nat):Int)) none),Tag.own) else none)=_
   rw [if_pos (imm_strs W),cut_from (by rw [hW];simp),← List.map_drop,hW]
   have:(A++m::B).drop (A.length + 1)=B:=by
    rw [show A++m::B=(A++[m])++B by simp]
    exact List.drop_left' (by simp)
   rw [this];rfl
  have hz:zCall F_read_numbersR (zP (eCutT (eVar 0) (e2 oAdd (e2 oIndex (eVar 0) (eVar 1)) (eC (.int 1)))) z0) [some (sL W,.sh []),some (.str m,.sh []),none]=some (rz (if B.all num=true then some (iT (B.map val)) else none)):=by
   unfold zCall zP
   rw [hcut]
   exact f_rns hB
  cases hn:B.all num with
  | false=>
   rw [hn] at hz
   refine runR_er (raw:=false) (ρ:=[some (sL W,.sh []),some (.str m,.sh []),none]) rfl ?_
   show B_numbers_behindR [some (sL W,.sh []),some (.str m,.sh []),none]=_
   unfold B_numbers_behindR
   rw [s_seq,q1,s_seqN,s_seq]
   unfold sSetE xl
   rw [hz];rfl
  | true=>
   rw [hn] at hz
   have q2:sSetE 2 (xl (zCall F_read_numbersR (zP (eCutT (eVar 0) (e2 oAdd (e2 oIndex (eVar 0) (eVar 1)) (eC (.int 1)))) z0))) [some (sL W,.sh []),some (.str m,.sh []),none]=some (.nx [some (sL W,.sh []),some (.str m,.sh []),some (iT (B.map val),.own)]):=by
    unfold sSetE xl
    rw [hz];rfl
   have t3:tTup (eVar 2) [some (sL W,.sh []),some (.str m,.sh []),some (iT (B.map val),.own)]=some (!((B.map val).map D.int).isEmpty):=rfl
   cases B with
   | nil=>
    refine runR_er (raw:=true) (ρ:=[some (sL W,.sh []),some (.str m,.sh []),some (iT [],.own)]) rfl ?_
    show B_numbers_behindR [some (sL W,.sh []),some (.str m,.sh []),none]=_
    have hf:aCons (e1 (oFsS "nothing stands behind ") (eVar 1)) aNil [some (sL W,.sh []),some (.str m,.sh []),some (iT [],.own)]=some [(.str (Str.empty++"nothing stands behind "++m),.own)]:=by
     have:e1 (oFsS "nothing stands behind ") (eVar 1) [some (sL W,.sh []),some (.str m,.sh []),some (iT [],.own)]=some (.str (Str.empty++"nothing stands behind "++m),.own):=k1e (d:=.str m) (t:=.sh []) rfl (by
      show (if m.length≤1000 then _ else none)=_
      rw [if_pos hm])
     rw [s_aCons,this,s_aNil,s_consK]
    unfold B_numbers_behindR
    rw [s_seq,q1,s_seqN,s_seq,q2,s_seqN,s_seq,s_if,s_not,t3]
    show seqK _ (sRaise "NoText" _ [some (sL W,.sh []),some (.str m,.sh []),some (iT [],.own)])=_
    unfold sRaise
    rw [hf];rfl
   | cons b B'=>
    refine runR_rt rfl ?_
    show B_numbers_behindR [some (sL W,.sh []),some (.str m,.sh []),none]=_
    unfold B_numbers_behindR
    rw [s_seq,q1,s_seqN,s_seq,q2,s_seqN,s_seq,s_if,s_not,t3];rfl
 ·refine (runR_rt (d:=iT []) rfl ?_).trans ?_
  ·show B_numbers_behindR [some (sL W,.sh []),some (.str m,.sh []),none]=_
   unfold B_numbers_behindR
   rw [s_seq,s_if,q0,decide_eq_false hmem];rfl
  ·unfold beh
   rw [if_neg hmem];rfl
def trip (l:List Int):List D:=(List.range (l.length / 3)).map fun j=>D.tup (((l.drop (3 * j)).take 3).map D.int)
theorem imm_trip (l:List Int):immAll (trip l)=true:=by
 unfold trip
 generalize List.range (l.length / 3)=r
 induction r with
 | nil=>rfl
 | cons j r ih=>
  rw [List.map_cons]
  unfold immAll
  rw [ih,Bool.and_true]
  show immAll (((l.drop (3 * j)).take 3).map D.int)=true
  exact imm_ints _
theorem cut3 {l:List Int}{j:Nat} (hj:3 * j + 3≤l.length):cutD (l.map D.int) (some (0 + (j:Int) * 3)) (some (0 + (j:Int) * 3 + 3))=((l.drop (3 * j)).take 3).map D.int:=by
 rw [show (0 + (j:Int) * 3)=((3 * j:Nat):Int) by omega,show (((3 * j:Nat):Int) + 3)=((3 * j + 3:Nat):Int) by omega]
 unfold cutD
 rw [HT.sIx_nat,HT.sIx_nat,List.length_map,Nat.min_eq_left (by omega),Nat.min_eq_left (by omega),show 3 * j + 3 - 3 * j=3 by omega,← List.map_drop,← List.map_take]
theorem f_thr {l:List Int} (hl:l.length≤300):F_in_threesR [iT l]=some (rz (if l.length % 3=0 then some (.tup (trip l)) else none)):=by
 have v0:eVar 0 [some (iT l,.sh [])]=some (.tup (l.map D.int),.sh []):=rfl
 have hlen:e1 oLen (eVar 0) [some (iT l,.sh [])]=some (.int l.length,.own):=by
  rw [s_e1,v0,s_k1]
  show some (D.int ((l.map D.int).length:Int),Tag.own)=_
  rw [List.length_map]
 have t1:tV (e2 oNe (e2 oMod (e1 oLen (eVar 0)) (eC (.int 3))) (eC (.int 0))) [some (iT l,.sh [])]=some (!(((l.length:Int) % 3) == 0)):=kTV (k2e (k2e hlen rfl (s_oMod (by omega))) rfl rfl)
 by_cases h3:l.length % 3=0
 ·rw [if_pos h3]
  obtain ⟨n,hn⟩:∃ n,l.length=3 * n:=⟨l.length / 3,by omega⟩
  refine runR_rt rfl ?_
  show B_in_threesR [some (iT l,.sh [])]=_
  have hc:=c_map (js:=[none,some 0]) (it:=iR3 (eC (.int 0)) (e1 oLen (eVar 0)) 3) (ρ:=[some (iT l,.sh [])]) (g:=gN 0) (te:=eCutP (eVar 1) (eVar 0) (e2 oAdd (eVar 0) (eC (.int 3)))) (l:=List.range n) (i:=fun j:Nat=>D.int (0 + j * 3)) (f:=fun j=>D.tup (((l.drop (3 * j)).take 3).map D.int)) (ir3 (t1:=.own) (t2:=.own) rfl (by rw [hlen,hn]) (by omega)) (by rw [List.length_range];omega) (fun j mj=>by
   have hj:=List.mem_range.mp mj
   refine compE_own (ρ1:=[some (.int (0 + j * 3),.sh []),some (iT l,.sh [])]) rfl rfl ?_
   show (if immAll (l.map D.int)=true then some (D.tup (cutD (l.map D.int) (some (0 + (j:Int) * 3)) (some (0 + (j:Int) * 3 + 3))),Tag.own) else none)=_
   rw [if_pos (imm_ints _),cut3 (by omega)])
  have e:(List.range n).map (fun j=>D.tup (((l.drop (3 * j)).take 3).map D.int))=trip l:=by unfold trip;rw [show l.length / 3=n by omega]
  rw [e] at hc
  have t4:oTuple (.lst (trip l))=some (.tup (trip l)):=by
   show (if immAll (trip l)=true then some (D.tup (trip l)) else none)=_
   rw [if_pos (imm_trip l)]
  have hz:(((l.length:Int) % 3) == 0)=true:=by rw [beq_iff_eq];omega
  unfold B_in_threesR
  rw [s_seq,s_if,t1,hz]
  show seqK _ (sNx _)=_
  rw [s_nx,s_seqN,s_ret,k1e hc t4];rfl
 ·rw [if_neg h3]
  refine runR_er (raw:=true) (ρ:=[some (iT l,.sh [])]) rfl ?_
  show B_in_threesR [some (iT l,.sh [])]=_
  have hz:(((l.length:Int) % 3) == 0)=false:=by rw [beq_eq_false_iff_ne];omega
  unfold B_in_threesR
  rw [s_seq,s_if,t1,hz];rfl
def askD (w:Str) (L c:List Int):D:=.tup [.str "ask",.int (val w),iT L,.tup (trip c)]
def askS (R:List Str):Option D:=match ahead "on" (ahead "put" R) with
 | [w]=>match beh "on" (ahead "put" R),beh "put" R with
  | some L,some c=>if num w=true∧c.length % 3=0 then some (askD w L c) else none
  | _,_=>none
 | _=>none
theorem ahead_sub {m:Str}:∀ {W:List Str},(∀ w∈ahead m W,w∈W)∧(ahead m W).length≤W.length
 | []=>⟨fun _ h=>h,Nat.le_refl _⟩
 | w::W=>by
  unfold ahead
  split
  ·exact ⟨(fun _ h=>nomatch h),by simp⟩
  ·obtain ⟨h1,h2⟩:=ahead_sub (m:=m) (W:=W)
   exact ⟨fun x q=>(List.mem_cons.mp q).elim (fun e=>by rw [e];exact List.mem_cons_self) fun q=>List.mem_cons_of_mem _ (h1 x q),by simp;exact h2⟩
theorem WOk.ahead {m:Str}{W:List Str} (h:WOk W):WOk (K72.ahead m W):=h.sub ahead_sub.1 ahead_sub.2
theorem after_len {m:Str}:∀ {W:List Str},(after m W).length≤W.length
 | []=>Nat.le_refl _
 | w::W=>by
  unfold after
  split
  ·simp
  ·have:=after_len (m:=m) (W:=W);simp;omega
theorem beh_len {m:Str}{W:List Str}{l:List Int} (h:beh m W=some l):l.length≤W.length:=by
 unfold beh at h
 split at h
 ·split at h
  ·cases h;rw [List.length_map];exact after_len
  ·cases h
 ·cases h;simp
theorem call_wa {ρ:Rho}{fa:EF}{W:List Str}{m:Str}{o:List Nat} (h:fa ρ=some (sL W,.sh o)):eCallA F_wa (aCons fa (aCons (eC (.str m)) aNil)) ρ=some (sL (ahead m W),.sh o):=by
 have hg:aCons fa (aCons (eC (.str m)) aNil) ρ=some [(sL W,.sh o),(.str m,.own)]:=by
  rw [s_aCons,s_aCons,h,s_eC,s_aNil,s_consK,s_consK]
 unfold eCallA
 rw [hg,Option.bind_some]
 show (F_wa [sL W,.str m]).map _=_
 rw [f_wa]
 rfl
theorem f_rask {R:List Str} (h:WOk R) (hl:R.length≤300):F_read_askR [sL R]=some (rz (askS R)):=by
 have hA:WOk (ahead "put" R):=h.ahead
 have q1:sSet 1 (eCallA F_wa (aCons (eVar 0) (aCons (eC (.str "put")) aNil))) [some (sL R,.sh []),none,none,none]=some (.nx [some (sL R,.sh []),some (sL (ahead "put" R),.sh []),none,none]):=by
  rw [s_set,call_wa (W:=R) (o:=[]) rfl];rfl
 have q2:sSet 2 (eCallA F_wa (aCons (eVar 1) (aCons (eC (.str "on")) aNil))) [some (sL R,.sh []),some (sL (ahead "put" R),.sh []),none,none]=some (.nx [some (sL R,.sh []),some (sL (ahead "put" R),.sh []),some (sL (ahead "on" (ahead "put" R)),.sh []),none]):=by
  rw [s_set,call_wa (W:=ahead "put" R) (o:=[]) rfl];rfl
 have hrk:WOk (ahead "on" (ahead "put" R)):=hA.ahead
 unfold askS
 generalize hah:ahead "put" R=AH at *
 generalize hrr:ahead "on" AH=RK at *
 have t3:tV (e2 oNe (e1 oLen (eVar 2)) (eC (.int 1))) [some (sL R,.sh []),some (sL AH,.sh []),some (sL RK,.sh []),none]=some (!((RK.length:Int) == 1)):=kTV (k2e (k1e (d:=sL RK) (t:=.sh []) rfl (by unfold sL;rw [s_lenL,List.length_map])) rfl rfl)
 have z4:zCall F_numbers_behindR (zP (eVar 1) (zP (eC (.str "on")) z0)) [some (sL R,.sh []),some (sL AH,.sh []),some (sL RK,.sh []),none]=some (rz ((beh "on" AH).map iT)):=f_nb hA (by decide +kernel)
 cases hRK:RK with
 | nil=>
  subst hRK
  refine runR_er (raw:=true) (ρ:=[some (sL R,.sh []),some (sL AH,.sh []),some (sL [],.sh []),none]) rfl ?_
  show B_read_askR [some (sL R,.sh []),none,none,none]=_
  unfold B_read_askR
  rw [s_seq,q1,s_seqN,s_seq,q2,s_seqN,s_seq,s_if,t3];rfl
 | cons w RK'=>
  cases RK' with
  | cons w2 r2=>
   subst hRK
   refine runR_er (raw:=true) (ρ:=[some (sL R,.sh []),some (sL AH,.sh []),some (sL (w::w2::r2),.sh []),none]) rfl ?_
   show B_read_askR [some (sL R,.sh []),none,none,none]=_
   have hz:(((w::w2::r2).length:Int) == 1)=false:=by rw [beq_eq_false_iff_ne];simp;omega
   unfold B_read_askR
   rw [s_seq,q1,s_seqN,s_seq,q2,s_seqN,s_seq,s_if,t3,hz];rfl
  | nil=>
   subst hRK
   have aw:=hrk.a w List.mem_cons_self
   have lw:=hrk.l w List.mem_cons_self
   have hgo:∀ {Z:Option Out},(sSeq (sSetE 3 (xl (zCall F_numbers_behindR (zP (eVar 1) (zP (eC (.str "on")) z0))))) (sRetE (xl (zTup (zP (eC (.str "ask")) (zE (zCall F_read_numberR (zP (e2 oIx (eVar 2) (eC (.int 0))) z0)) (zP (eVar 3) (zE (zCall F_in_threesR (zE (zCall F_numbers_behindR (zP (eVar 0) (zP (eC (.str "put")) z0))) z0)) z0)))))))) [some (sL R,.sh []),some (sL AH,.sh []),some (sL [w],.sh []),none]=Z→B_read_askR [some (sL R,.sh []),none,none,none]=Z:=fun hz=>by
    unfold B_read_askR
    rw [s_seq,q1,s_seqN,s_seq,q2,s_seqN,s_seq,s_if,t3]
    exact hz
   cases hL:beh "on" AH with
   | none=>
    rw [hL] at z4
    refine (runR_er (raw:=false) (cn:=NX) (ρ:=[some (sL R,.sh []),some (sL AH,.sh []),some (sL [w],.sh []),none]) rfl (hgo ?_)).trans ?_
    ·rw [s_seq]
     unfold sSetE xl
     rw [z4];rfl
    ·cases beh "put" R <;> rfl
   | some L=>
    rw [hL] at z4
    generalize hρ:([some (sL R,.sh []),some (sL AH,.sh []),some (sL [w],.sh []),some (iT L,.own)]:Rho)=ρ
    have q5:sSetE 3 (xl (zCall F_numbers_behindR (zP (eVar 1) (zP (eC (.str "on")) z0)))) [some (sL R,.sh []),some (sL AH,.sh []),some (sL [w],.sh []),none]=some (.nx ρ):=by
     unfold sSetE xl
     rw [z4,← hρ];rfl
    have z5:zCall F_read_numberR (zP (e2 oIx (eVar 2) (eC (.int 0))) z0) ρ=some (rz (if num w=true then some (.int (val w)) else none)):=by rw [← hρ];exact f_rn aw lw
    have z6:zCall F_numbers_behindR (zP (eVar 0) (zP (eC (.str "put")) z0)) ρ=some (rz ((beh "put" R).map iT)):=by rw [← hρ];exact f_nb h (by decide +kernel)
    have v3:eVar 3 ρ=some (iT L,.sh [3]):=by rw [← hρ];rfl
    have z7:zCall F_in_threesR (zE (zCall F_numbers_behindR (zP (eVar 0) (zP (eC (.str "put")) z0))) z0) ρ=some (rz (match beh "put" R with | some c=>if c.length % 3=0 then some (.tup (trip c)) else none | none=>none)):=by
     have:zE (zCall F_numbers_behindR (zP (eVar 0) (zP (eC (.str "put")) z0))) z0 ρ=(match beh "put" R with | some c=>some (.inl [iT c]) | none=>some (.inr NX)):=by
      unfold zE
      rw [z6]
      cases beh "put" R <;> rfl
     show (match zE (zCall F_numbers_behindR (zP (eVar 0) (zP (eC (.str "put")) z0))) z0 ρ with | some (.inl ds)=>F_in_threesR ds | some (.inr cn)=>some (.er cn) | none=>none)=_
     rw [this]
     cases hc:beh "put" R with
     | none=>rfl
     | some c=>exact f_thr (Nat.le_trans (beh_len hc) hl)
    have z8:zTup (zP (eC (.str "ask")) (zE (zCall F_read_numberR (zP (e2 oIx (eVar 2) (eC (.int 0))) z0)) (zP (eVar 3) (zE (zCall F_in_threesR (zE (zCall F_numbers_behindR (zP (eVar 0) (zP (eC (.str "put")) z0))) z0)) z0)))) ρ=some (rz (match beh "put" R with | some c=>if num w=true∧c.length % 3=0 then some (askD w L c) else none | none=>none)):=by
     have hA3:zP (eVar 3) (zE (zCall F_in_threesR (zE (zCall F_numbers_behindR (zP (eVar 0) (zP (eC (.str "put")) z0))) z0)) z0) ρ=consZ (iT L) (zE (zCall F_in_threesR (zE (zCall F_numbers_behindR (zP (eVar 0) (zP (eC (.str "put")) z0))) z0)) z0 ρ):=by
      unfold zP
      rw [v3]
     have hA4:zE (zCall F_in_threesR (zE (zCall F_numbers_behindR (zP (eVar 0) (zP (eC (.str "put")) z0))) z0)) z0 ρ=(match beh "put" R with | some c=>if c.length % 3=0 then some (.inl [.tup (trip c)]) else some (.inr NX) | none=>some (.inr NX)):=by
      show (match zCall F_in_threesR (zE (zCall F_numbers_behindR (zP (eVar 0) (zP (eC (.str "put")) z0))) z0) ρ with | some (.ok d)=>consZ d (z0 ρ) | some (.er cn)=>some (.inr cn) | none=>none)=_
      rw [z7]
      cases beh "put" R with
      | none=>rfl
      | some c=>
       dsimp only
       by_cases h3:c.length % 3=0
       ·rw [if_pos h3,if_pos h3];rfl
       ·rw [if_neg h3,if_neg h3];rfl
     have hA2:zE (zCall F_read_numberR (zP (e2 oIx (eVar 2) (eC (.int 0))) z0)) (zP (eVar 3) (zE (zCall F_in_threesR (zE (zCall F_numbers_behindR (zP (eVar 0) (zP (eC (.str "put")) z0))) z0)) z0)) ρ=(match beh "put" R with | some c=>if num w=true∧c.length % 3=0 then some (.inl [.int (val w),iT L,.tup (trip c)]) else some (.inr NX) | none=>some (.inr NX)):=by
      show (match zCall F_read_numberR (zP (e2 oIx (eVar 2) (eC (.int 0))) z0) ρ with | some (.ok d)=>consZ d (zP (eVar 3) (zE (zCall F_in_threesR (zE (zCall F_numbers_behindR (zP (eVar 0) (zP (eC (.str "put")) z0))) z0)) z0) ρ) | some (.er cn)=>some (.inr cn) | none=>none)=_
      rw [z5,hA3,hA4]
      cases beh "put" R with
      | none=>cases num w <;> rfl
      | some c=>
       dsimp only
       by_cases h3:c.length % 3=0
       ·cases hn:num w with
        | true=>rw [if_pos h3,if_pos (show true=true∧c.length % 3=0 from ⟨rfl,h3⟩)];rfl
        | false=>rw [if_neg (show ¬ (false=true∧c.length % 3=0) from fun z=>by cases z.1)];rfl
       ·rw [if_neg h3,if_neg (show ¬ (num w=true∧c.length % 3=0) from fun z=>h3 z.2)]
        cases num w <;> rfl
     have hA1:zP (eC (.str "ask")) (zE (zCall F_read_numberR (zP (e2 oIx (eVar 2) (eC (.int 0))) z0)) (zP (eVar 3) (zE (zCall F_in_threesR (zE (zCall F_numbers_behindR (zP (eVar 0) (zP (eC (.str "put")) z0))) z0)) z0))) ρ=consZ (.str "ask") (zE (zCall F_read_numberR (zP (e2 oIx (eVar 2) (eC (.int 0))) z0)) (zP (eVar 3) (zE (zCall F_in_threesR (zE (zCall F_numbers_behindR (zP (eVar 0) (zP (eC (.str "put")) z0))) z0)) z0)) ρ):=rfl
     unfold zTup
     rw [hA1,hA2]
     cases beh "put" R with
     | none=>rfl
     | some c=>
      dsimp only
      by_cases h3:num w=true∧c.length % 3=0
      ·rw [if_pos h3,if_pos h3]
       show (if (immAll [.str "ask",.int (val w),iT L,.tup (trip c)]&&decide (4≤sizeLine))=true then _ else _)=_
       have him:immAll [.str "ask",.int (val w),iT L,.tup (trip c)]=true:=by
        unfold immAll;unfold immAll;unfold immAll;unfold immAll;unfold immAll
        show (true&&(true&&(immAll (L.map D.int)&&(immAll (trip c)&&true))))=true
        rw [imm_ints,imm_trip];rfl
       rw [him,decide_eq_true (Nat.le_of_lt (size_le (by omega)))];rfl
      ·rw [if_neg h3,if_neg h3];rfl
    have fin:∀ o,o=(match beh "put" R with | some c=>if num w=true∧c.length % 3=0 then some (askD w L c) else none | none=>none)→F_read_askR [sL R]=some (rz o):=fun o ho=>by
     rw [← ho] at z8
     cases o with
     | some d=>
      refine runR_rt rfl (hgo ?_)
      rw [s_seq,q5,s_seqN]
      unfold sRetE xl
      rw [z8];rfl
     | none=>
      refine runR_er (raw:=false) (ρ:=ρ) rfl (hgo ?_)
      rw [s_seq,q5,s_seqN]
      unfold sRetE xl
      rw [z8];rfl
    rw [fin _ rfl]
    cases beh "put" R <;> rfl
def yn (h:Str):Bool:=(["yes","no","unsure"]:List Str).any (· == h)
def sg (h:Str):Bool:=(["stop","go"]:List Str).any (· == h)
def rowS (h:Str) (R:List Str):Option D:=
 if h="ask" then askS R else if R.all num=true then
  (if (yn h&&!R.isEmpty)=true then some (.tup [.str "answer",iT (R.map val),.str h]) else
   if (h == "withdraw"&&decide (R.length=1))=true then some (.tup [.str "withdraw",.int ((R.map val).getD 0 0)]) else
    if (sg h&&R.isEmpty)=true then some (.tup [.str h]) else none) else none
theorem fr_dec {w:Str} (h:decide (32∈w.cps.toList)=false):Fr w:=of_decide_eq_false h
theorem sg_text {t h:Str}{R:List Str} (e:Txt.split t bl=h::R):sg t=(sg h&&R.isEmpty)∧(R=[]→t=h):=by
 have hj:Str.join bl (h::R)=t:=by rw [← e];exact StrLaws.join_split t bl
 have one:R=[]→t=h:=fun z=>by rw [z] at hj;exact hj.symm
 refine ⟨?_,one⟩
 cases R with
 | nil=>rw [one rfl];simp
 | cons r R'=>
  show _=(sg h&&false)
  rw [Bool.and_false]
  have no:∀ x:Str,Fr x→t≠x:=fun x fx ex=>by
   have:=split_join (W:=[x]) (by simp) (fun w m=>by rw [List.mem_singleton.mp m];exact fx)
   have hx:Str.join bl [x]=x:=rfl
   rw [hx,← ex,e] at this
   cases this
  have n1:=no "stop" (fr_dec (by kernel_rfl))
  have n2:=no "go" (fr_dec (by kernel_rfl))
  unfold sg
  rw [List.any_eq_false]
  intro x mx
  simp only [List.mem_cons,List.not_mem_nil,or_false] at mx
  rcases mx with rfl | rfl
  ·simpa using fun z=>n1 z.symm
  ·simpa using fun z=>n2 z.symm
theorem strs_any {L:List Str}{x:Str}:oInS false (.str x) (.tup (L.map D.str))=some (.bl (L.any (· == x))):=by
 show ((strsD (L.map D.str)).map fun ns=>D.bl (if false=true then !(ns.any (· == x)) else ns.any (· == x)))=_
 rw [strsD_strs];rfl
structure SOk (t h:Str) (R:List Str):Prop where
 e:Txt.split t bl=h::R
 w:WOk (h::R)
 n:R.length≤300
 l:t.length≤100000
theorem sp_ok {t h:Str}{R:List Str} (s:SOk t h R):oSplit (.str t) (.str bl)=some (sL (h::R)):=by
 show (if (bl.length == 0)=false∧t.length≤100000 then some (D.lst ((Txt.split t bl).map D.str)) else none)=_
 rw [if_pos ⟨by kernel_rfl,s.l⟩,s.e];rfl
theorem hd_at {w:Str}{R:List Str}:oIx (sL (w::R)) (.int 0)=some (.str w):=by
 refine s_ixL ?_ rfl
 unfold atI ixN
 rw [if_pos (by decide),if_pos (by rw [List.length_map,List.length_cons];omega)];rfl
theorem tl_at {w:Str}{R:List Str}:oCut (some 1) none (sL (w::R))=some (sL R):=by
 show (if immAll ((w::R).map D.str)=true then some (D.lst (cutD ((w::R).map D.str) (some 1) none)) else none)=_
 rw [if_pos (imm_strs _),cut1];rfl
theorem WOk.tl {w:Str}{R:List Str} (h:WOk (w::R)):WOk R:=h.sub (fun x m=>List.mem_cons_of_mem _ m) (by simp)
theorem f_row {t h:Str}{R:List Str} (s:SOk t h R):F_read_rowR [.str t]=some (rz (rowS h R)):=by
 have q1:sSet 1 (e2 oSplit (eVar 0) (eC (.str " "))) [some (.str t,.sh []),none,none]=some (.nx [some (.str t,.sh []),some (sL (h::R),.own),none]):=by
  rw [s_set,k2e (d1:=.str t) (t1:=.sh []) rfl rfl (sp_ok s)];rfl
 have hx:∀ s2,e2 oIx (eVar 1) (eC (.int 0)) [some (.str t,.sh []),some (sL (h::R),.own),s2]=some (.str h,.own):=fun s2=>k2e (d1:=sL (h::R)) (t1:=.sh [1]) rfl rfl hd_at
 have t2:tV (e2 oEq (e2 oIx (eVar 1) (eC (.int 0))) (eC (.str "ask"))) [some (.str t,.sh []),some (sL (h::R),.own),none]=some (h == "ask"):=kTV (k2e (hx none) rfl rfl)
 have cut:e1 (oCut (some 1) none) (eVar 1) [some (.str t,.sh []),some (sL (h::R),.own),none]=some (sL R,.own):=k1e (d:=sL (h::R)) (t:=.sh [1]) rfl tl_at
 unfold rowS
 by_cases ha:h="ask"
 ·rw [if_pos ha]
  have z:zCall F_read_askR (zP (e1 (oCut (some 1) none) (eVar 1)) z0) [some (.str t,.sh []),some (sL (h::R),.own),none]=some (rz (askS R)):=by
   unfold zCall zP
   rw [cut]
   exact f_rask s.w.tl s.n
  cases hs:askS R with
  | some d=>
   rw [hs] at z
   refine runR_rt rfl ?_
   show B_read_rowR [some (.str t,.sh []),none,none]=_
   unfold B_read_rowR
   rw [s_seq,q1,s_seqN,s_seq,s_if,t2,show (h == ("ask":Str))=true by rw [ha];simp,s_ifT]
   unfold sRetE xl
   rw [z];rfl
  | none=>
   rw [hs] at z
   refine runR_er (raw:=false) (ρ:=[some (.str t,.sh []),some (sL (h::R),.own),none]) rfl ?_
   show B_read_rowR [some (.str t,.sh []),none,none]=_
   unfold B_read_rowR
   rw [s_seq,q1,s_seqN,s_seq,s_if,t2,show (h == ("ask":Str))=true by rw [ha];simp,s_ifT]
   unfold sRetE xl
   rw [z];rfl
 ·rw [if_neg ha]
  have hne:(h == ("ask":Str))=false:=by simpa using ha
  have z:zCall F_read_numbersR (zP (e1 (oCut (some 1) none) (eVar 1)) z0) [some (.str t,.sh []),some (sL (h::R),.own),none]=some (rz (if R.all num=true then some (iT (R.map val)) else none)):=by
   unfold zCall zP
   rw [cut]
   exact f_rns s.w.tl
  cases hn:R.all num with
  | false=>
   rw [hn] at z
   refine runR_er (raw:=false) (ρ:=[some (.str t,.sh []),some (sL (h::R),.own),none]) rfl ?_
   show B_read_rowR [some (.str t,.sh []),none,none]=_
   unfold B_read_rowR
   rw [s_seq,q1,s_seqN,s_seq,s_if,t2,hne,s_ifF,s_nx,s_seqN,s_seq]
   unfold sSetE xl
   rw [z];rfl
  | true=>
   rw [hn] at z
   rw [if_pos rfl]
   generalize hρ:([some (.str t,.sh []),some (sL (h::R),.own),some (iT (R.map val),.own)]:Rho)=ρ
   have q3:sSetE 2 (xl (zCall F_read_numbersR (zP (e1 (oCut (some 1) none) (eVar 1)) z0))) [some (.str t,.sh []),some (sL (h::R),.own),none]=some (.nx ρ):=by
    unfold sSetE xl
    rw [z,← hρ];rfl
   have hxρ:e2 oIx (eVar 1) (eC (.int 0)) ρ=some (.str h,.own):=by rw [← hρ];exact hx _
   have v2:eVar 2 ρ=some (iT (R.map val),.sh [2]):=by rw [← hρ];rfl
   have v0:eVar 0 ρ=some (.str t,.sh []):=by rw [← hρ];rfl
   have c1:tAnd2 (tV (e2 (oInS false) (e2 oIx (eVar 1) (eC (.int 0))) (eC (.tup ((["yes","no","unsure"]:List Str).map D.str))))) (tTup (eVar 2)) ρ=some (yn h&&!R.isEmpty):=by
    refine s_and2 (kTV (k2e hxρ rfl strs_any)) ?_
    show (match eVar 2 ρ with | some (.tup ds,_)=>some (!ds.isEmpty) | _=>none)=_
    rw [v2]
    show some (!((R.map val).map D.int).isEmpty)=_
    rw [List.isEmpty_map,List.isEmpty_map]
   have c2:tAnd2 (tV (e2 oEq (e2 oIx (eVar 1) (eC (.int 0))) (eC (.str "withdraw")))) (tV (e2 oEq (e1 oLen (eVar 2)) (eC (.int 1)))) ρ=some (h == "withdraw"&&decide (R.length=1)):=by
    refine s_and2 (kTV (k2e hxρ rfl rfl)) ?_
    rw [kTV (k2e (d:=.bl ((R.length:Int) == 1)) (k1e v2 (show oLen (iT (R.map val))=some (.int R.length) by show some (D.int (((R.map val).map D.int).length:Int))=_;rw [List.length_map,List.length_map])) rfl rfl)]
    congr 1
    by_cases q:R.length=1
    ·rw [decide_eq_true q,q];rfl
    ·rw [decide_eq_false q,beq_eq_false_iff_ne];omega
   have c3:tV (e2 (oInS false) (eVar 0) (eTup (aCons (eC (.str "stop")) (aCons (eC (.str "go")) aNil)))) ρ=some (sg h&&R.isEmpty):=by
    rw [← (sg_text s.e).1]
    exact kTV (k2e (d2:=.tup ((["stop","go"]:List Str).map D.str)) v0 rfl strs_any)
   have go:∀ {Z:Option Out},(sSeq (sIf (tAnd2 (tV (e2 (oInS false) (e2 oIx (eVar 1) (eC (.int 0))) (eC (.tup ((["yes","no","unsure"]:List Str).map D.str))))) (tTup (eVar 2))) (sRet (eTup (aCons (eC (.str "answer")) (aCons (eVar 2) (aCons (e2 oIx (eVar 1) (eC (.int 0))) aNil))))) sNx) (sSeq (sIf (tAnd2 (tV (e2 oEq (e2 oIx (eVar 1) (eC (.int 0))) (eC (.str "withdraw")))) (tV (e2 oEq (e1 oLen (eVar 2)) (eC (.int 1))))) (sRet (eTup (aCons (eC (.str "withdraw")) (aCons (e2 oIx (eVar 2) (eC (.int 0))) aNil)))) sNx) (sSeq (sIf (tV (e2 (oInS false) (eVar 0) (eTup (aCons (eC (.str "stop")) (aCons (eC (.str "go")) aNil))))) (sRet (eTup (aCons (eVar 0) aNil))) sNx) (sRaise "NoText" (aCons (eC (.str "this text tells no deed")) aNil))))) ρ=Z→B_read_rowR [some (.str t,.sh []),none,none]=Z:=fun hz=>by
    unfold B_read_rowR
    rw [s_seq,q1,s_seqN,s_seq,s_if,t2,hne,s_ifF,s_nx,s_seqN,s_seq,q3,s_seqN]
    exact hz
   cases d1:(yn h&&!R.isEmpty) with
   | true=>
    rw [d1] at c1
    rw [if_pos rfl]
    refine runR_rt rfl (go ?_)
    have him:imm (.tup [.str "answer",iT (R.map val),.str h])=true:=by
     show immAll [.str "answer",.tup ((R.map val).map D.int),.str h]=true
     unfold immAll;unfold immAll;unfold immAll;unfold immAll
     show (true&&(immAll ((R.map val).map D.int)&&(true&&true)))=true
     rw [imm_ints];rfl
    rw [s_seq,s_if,c1,s_ifT,s_ret,s_tup,s_aCons,s_aCons,s_aCons,v2,hxρ]
    show seqK _ (if imm (.tup [.str "answer",iT (R.map val),.str h])=true then some (Out.rt (.tup [.str "answer",iT (R.map val),.str h])) else none)=_
    rw [if_pos him];rfl
   | false=>
    rw [d1] at c1
    rw [if_neg Bool.false_ne_true]
    cases d2:(h == ("withdraw":Str)&&decide (R.length=1)) with
    | true=>
     rw [d2] at c2
     rw [if_pos rfl]
     refine runR_rt rfl (go ?_)
     obtain ⟨r,rfl⟩:∃ r,R=[r]:=by
      have:=of_decide_eq_true ((Bool.and_eq_true _ _).mp d2).2
      match R,this with
      | [r],_=>exact ⟨r,rfl⟩
     rw [s_seq,s_if,c1,s_ifF,s_nx,s_seqN,s_seq,s_if,c2,s_ifT,s_ret,s_tup,s_aCons,s_aCons,k2e (d:=.int (val r)) v2 rfl rfl];rfl
    | false=>
     rw [d2] at c2
     rw [if_neg Bool.false_ne_true]
     cases d3:(sg h&&R.isEmpty) with
     | true=>
      rw [d3] at c3
      rw [if_pos rfl]
      have et:t=h:=(sg_text s.e).2 (by simpa using ((Bool.and_eq_true _ _).mp d3).2)
      refine runR_rt rfl (go ?_)
      rw [s_seq,s_if,c1,s_ifF,s_nx,s_seqN,s_seq,s_if,c2,s_ifF,s_nx,s_seqN,s_seq,s_if,c3,s_ifT,s_ret,s_tup,s_aCons,v0,et];rfl
     | false=>
      rw [d3] at c3
      rw [if_neg Bool.false_ne_true]
      refine runR_er (raw:=true) (ρ:=ρ) rfl (go ?_)
      rw [s_seq,s_if,c1,s_ifF,s_nx,s_seqN,s_seq,s_if,c2,s_ifF,s_nx,s_seqN,s_seq,s_if,c3,s_ifF,s_nx,s_seqN];rfl
theorem fm_if (p:Int→Bool) (f:Int→Int):∀ l:List Int,l.filterMap (fun x=>if p x=true then some (D.int (f x)) else none)=((l.filter p).map f).map D.int
 | []=>rfl
 | a::r=>by
  rw [List.filterMap_cons]
  by_cases hp:p a=true
  ·rw [List.filter_cons_of_pos hp,if_pos hp,fm_if p f r];rfl
  ·rw [List.filter_cons_of_neg hp,if_neg hp,fm_if p f r]
theorem c_ints {js:List (Option Nat)}{it:IF}{g:GF}{tt:TF}{te:EF}{ρ:Rho}{t:Tag}{l:List Int}{p:Int→Bool}{f:Int→Int} (hi:it ρ=some (l.map D.int,t)) (hl:l.length≤10000) (h:∀ x∈l,compE g tt te (iniR js ρ) (.int x)=some (if p x=true then some (.int (f x)) else none)) :
  eComp js it g tt te ρ=some (iL ((l.filter p).map f),.own):=by
 have hc:=comp_ok (js:=js) (g:=g) (tt:=tt) (te:=te) (k:=fun d=>match d with | .int x=>if p x=true then some (.int (f x)) else none | _=>none) hi (by rw [List.length_map];exact size_le hl) (fun d m=>by
  obtain ⟨x,mx,rfl⟩:=List.mem_map.mp m
  exact h x mx)
 rw [hc]
 congr 3
 clear hc h hi hl
 rw [List.filterMap_map]
 exact fm_if p f l
theorem map_idI (l:List Int):l.map (fun x=>x)=l:=List.map_id' l
theorem c_filter {js:List (Option Nat)}{it:IF}{tt:TF}{ρ:Rho}{t:Tag}{l:List Int}{p:Int→Bool}{r:Rho} (hi:it ρ=some (l.map D.int,t)) (hl:l.length≤10000) (hr:∀ x,gN 0 (.int x) (.sh []) (iniR js ρ)=some (some (.int x,.sh [])::r)) (h:∀ x∈l,tt (some (.int x,.sh [])::r)=some (p x)) :
  eComp js it (gN 0) tt (eVar 0) ρ=some (iL (l.filter p),.own):=by
 have:=c_ints (js:=js) (it:=it) (g:=gN 0) (tt:=tt) (te:=eVar 0) (p:=p) (f:=fun x=>x) hi hl (fun x mx=>by
  by_cases hp:p x=true
  ·rw [if_pos hp]
   exact compE_imm (ρ1:=some (.int x,.sh [])::r) (tg:=.sh []) (hr x) (by rw [h x mx,hp]) rfl rfl
  ·rw [if_neg hp]
   exact compE_no (ρ1:=some (.int x,.sh [])::r) (hr x) (by rw [h x mx,Bool.eq_false_iff.mpr hp]))
 rw [map_idI] at this
 exact this
abbrev Mk:=Str×Nat
def dM (m:Mk):D:=.tup [.str m.1,.int m.2]
def mL (ms:List Mk):D:=.lst (ms.map dM)
theorem imm_ms:∀ ms:List Mk,immAll (ms.map dM)=true
 | []=>rfl
 | m::r=>by rw [List.map_cons];unfold immAll;rw [imm_ms r];rfl
def onp (w:Str):Bool:=(["on","put"]:List Str).any (· == w)
def mach (h:Str):List Str→List Int→List Mk→Option (List Int×List Mk)
 | [],ns,ms=>some (ns,ms)
 | w::W,ns,ms=>if num w=true then mach h W (ns++[val w]) ms else
  if (h == "ask"&&(onp w&&!(ms.map (·.1)).any (· == w)))=true then mach h W ns (ms++[(w,ns.length)]) else none
def rL (t h:Str) (W:List Str) (ns:List Int) (ms:List Mk) (s5:Slot):Rho:=[some (.str t,.sh []),some (sL W,.own),some (.str h,.own),some (iL ns,.own),some (mL ms,.own),s5]
def bL:SF:=(sIf (tV (eCall F_L_is_number (aCons (eVar 5) aNil))) (sApp 3 (e1 oIntS (eVar 5))) (sIf (tAnd2 (tV (e2 oEq (eVar 2) (eC (.str "ask")))) (tAnd2 (tV (e2 (oInS false) (eVar 5) (eTup (aCons (eC (.str "on")) (aCons (eC (.str "put")) aNil))))) (tV (e2 (oInS true) (eVar 5) (eComp [none] (iSeqF (eVar 4)) (gN 0) tTrue (e2 oIx (eVar 0) (eC (.int 0)))))))) (sApp 4 (eTup (aCons (eVar 5) (aCons (e1 oLen (eVar 3)) aNil)))) (sRet (eC .non))))
theorem names_c {ρ:Rho}{i:Nat}{ms:List Mk}{t:Tag} (hv:eVar i ρ=some (mL ms,t)) (hl:ms.length≤1000):eComp [none] (iSeqF (eVar i)) (gN 0) tTrue (e2 oIx (eVar 0) (eC (.int 0))) ρ=some (sL (ms.map (·.1)),.own):=by
 have hi:iSeqF (eVar i) ρ=some (ms.map dM,t):=by unfold iSeqF;rw [hv];rfl
 have:=c_map (js:=[none]) (g:=gN 0) (te:=e2 oIx (eVar 0) (eC (.int 0))) (f:=fun m:Mk=>D.str m.1) hi (by omega) (fun m _=>compE_own (ρ1:=[some (dM m,.sh [])]) rfl rfl rfl)
 rw [this]
 unfold sL
 rw [List.map_map];rfl
theorem len_I {l:List Int}:oLen (iL l)=some (.int l.length):=by unfold iL;rw [s_lenL,List.length_map]
theorem bL_step {t h w:Str}{W:List Str}{ns:List Int}{ms:List Mk} (ha:Asc w) (hl:w.length≤2000) (hn:ns.length≤1000) (hm:ms.length≤1000):bL (rL t h W ns ms (some (.str w,.sh [])))=(if num w=true then some (.nx (rL t h W (ns++[val w]) ms (some (.str w,.sh [])))) else
  if (h == "ask"&&(onp w&&!(ms.map (·.1)).any (· == w)))=true then some (.nx (rL t h W ns (ms++[(w,ns.length)]) (some (.str w,.sh [])))) else some (.rt .non)):=by
 have v5:eVar 5 (rL t h W ns ms (some (.str w,.sh [])))=some (.str w,.sh []):=rfl
 have t1:tV (eCall F_L_is_number (aCons (eVar 5) aNil)) (rL t h W ns ms (some (.str w,.sh [])))=some (num w):=kTV (kcall (ps:=[(.str w,.sh [])]) rfl (f_Lnum ha hl))
 unfold bL
 rw [s_if,t1]
 cases hnum:num w with
 | true=>
  rw [if_pos rfl,s_ifT]
  unfold sApp
  rw [k1e v5 (num_int hnum)]
  show (if (imm (.int (val w))&&immAll (ns.map D.int)&&decide ((ns.map D.int).length < sizeLine))=true then some (Out.nx (mutS (rL t h W ns ms (some (.str w,.sh []))) 3 (.lst (ns.map D.int++[.int (val w)])))) else none)=_
  rw [if_pos (by rw [imm_ints,List.length_map,decide_eq_true (size_le (by omega))];rfl)]
  unfold rL iL
  rw [List.map_append];rfl
 | false=>
  rw [if_neg Bool.false_ne_true,s_ifF,s_if]
  have c1:tV (e2 oEq (eVar 2) (eC (.str "ask"))) (rL t h W ns ms (some (.str w,.sh [])))=some (h == "ask"):=rfl
  have c2:tV (e2 (oInS false) (eVar 5) (eTup (aCons (eC (.str "on")) (aCons (eC (.str "put")) aNil)))) (rL t h W ns ms (some (.str w,.sh [])))=some (onp w):=kTV (k2e (d2:=.tup ((["on","put"]:List Str).map D.str)) v5 rfl strs_any)
  have c3:tV (e2 (oInS true) (eVar 5) (eComp [none] (iSeqF (eVar 4)) (gN 0) tTrue (e2 oIx (eVar 0) (eC (.int 0))))) (rL t h W ns ms (some (.str w,.sh [])))=some (!(ms.map (·.1)).any (· == w)):=by
   refine kTV (k2e (d:=.bl (!(ms.map (·.1)).any (· == w))) v5 (names_c (ms:=ms) (t:=.sh [4]) rfl hm) ?_)
   show ((strsD ((ms.map (·.1)).map D.str)).map fun ns=>D.bl (if true=true then !(ns.any (· == w)) else ns.any (· == w)))=_
   rw [strsD_strs];rfl
  rw [s_and2 c1 (s_and2 c2 c3)]
  cases (h == ("ask":Str)&&(onp w&&!(ms.map (·.1)).any (· == w))) with
  | false=>rfl
  | true=>
   rw [s_ifT,if_pos rfl]
   have et:eTup (aCons (eVar 5) (aCons (e1 oLen (eVar 3)) aNil)) (rL t h W ns ms (some (.str w,.sh [])))=some (dM (w,ns.length),.sh []):=by
    have hlen:e1 oLen (eVar 3) (rL t h W ns ms (some (.str w,.sh [])))=some (.int ns.length,.own):=k1e (d:=iL ns) (t:=.sh [3]) rfl len_I
    rw [s_tup,s_aCons,s_aCons,v5,hlen];rfl
   unfold sApp
   rw [et]
   show (if (imm (dM (w,ns.length))&&immAll (ms.map dM)&&decide ((ms.map dM).length < sizeLine))=true then some (Out.nx (mutS (rL t h W ns ms (some (.str w,.sh []))) 4 (.lst (ms.map dM++[dM (w,ns.length)])))) else none)=_
   rw [if_pos (by rw [imm_ms,List.length_map,decide_eq_true (size_le (by omega))];rfl)]
   unfold rL mL
   rw [List.map_append];rfl
theorem lp_L {t h:Str}{W0:List Str}:∀ {W:List Str}{ns:List Int}{ms:List Mk}{s5:Slot},WOk W→ns.length + W.length≤1000→ms.length + W.length≤1000 →
  (∀ ns' ms',mach h W ns ms=some (ns',ms')→∃ t5,loopF (gN 5) (.sh []) bL (W.map D.str) (rL t h W0 ns ms s5)=some (.nx (rL t h W0 ns' ms' t5)))∧(mach h W ns ms=none→loopF (gN 5) (.sh []) bL (W.map D.str) (rL t h W0 ns ms s5)=some (.rt .non))
 | [],ns,ms,s5,_,_,_=>⟨fun _ _ e=>by cases e;exact ⟨s5,rfl⟩,(fun e=>by cases e)⟩
 | w::W,ns,ms,s5,hW,h1,h2=>by
  rw [List.length_cons] at h1 h2
  have st:=bL_step (t:=t) (h:=h) (W:=W0) (ns:=ns) (ms:=ms) (hW.a w List.mem_cons_self) (hW.l w List.mem_cons_self) (by omega) (by omega)
  rw [List.map_cons]
  unfold mach
  cases hn:num w with
  | true=>
   rw [hn,if_pos rfl] at st
   rw [if_pos rfl,loop_c rfl st]
   exact lp_L hW.tl (by rw [List.length_append,List.length_singleton];omega) (by omega)
  | false=>
   rw [hn,if_neg Bool.false_ne_true] at st
   rw [if_neg Bool.false_ne_true]
   cases hc:(h == ("ask":Str)&&(onp w&&!(ms.map (·.1)).any (· == w))) with
   | true=>
    rw [hc,if_pos rfl] at st
    rw [if_pos rfl,loop_c rfl st]
    exact lp_L hW.tl (by omega) (by rw [List.length_append,List.length_singleton];omega)
   | false=>
    rw [hc,if_neg Bool.false_ne_true] at st
    rw [if_neg Bool.false_ne_true]
    exact ⟨(fun _ _ e=>by cases e),fun _=>loop_r rfl st⟩
def cutsOf (ns:List Int) (ms:List Mk):List Int:=ms.map (fun m=>(m.2:Int))++[(ns.length:Int)]
def badAt (cs:List Int) (k:Int):Bool:=cs.getD (k + 1).toNat 0 == cs.getD k.toNat 0
theorem ix_g {l:List Int}{k:Int} (h0:0≤k) (h1:k < l.length):oIx (iL l) (.int k)=some (.int (l.getD k.toNat 0)):=by
 refine s_ixL ?_ rfl
 unfold atI ixN
 rw [List.length_map,if_pos (by omega),if_pos (by omega),Option.bind_some,List.getElem?_map,List.getElem?_eq_getElem (by omega),List.getD_eq_getElem?_getD,List.getElem?_eq_getElem (by omega)];rfl
theorem ix_neg2 {l:List Int} (h:2≤l.length):oIx (iL l) (.int (-2))=some (.int (l.getD (l.length - 2) 0)):=by
 refine s_ixL ?_ rfl
 unfold atI ixN
 rw [List.length_map,if_neg (by omega),if_pos (by omega),Option.bind_some,List.getElem?_map]
 have e:((-2:Int) + (l.length:Int)).toNat=l.length - 2:=by omega
 rw [e,List.getElem?_eq_getElem (by omega),List.getD_eq_getElem?_getD,List.getElem?_eq_getElem (by omega)];rfl
theorem lay_iL (l:List Int):layOk (iL l)=true:=by
 have e:py (iL l)=.list (l.map PyData.int):=by unfold iL;unfold py;rw [pys_ints]
 unfold layOk
 rw [e]
 have a1:okPy (iL l)=true:=by unfold iL;unfold okPy;exact okPys_ints l
 have a2:(PyData.list (l.map PyData.int)).canLay0=true:=by simp only [PyData.canLay0];exact canAll_ints l
 have a3:(PyData.list (l.map PyData.int)).depth≤40:=by simp only [PyData.depth,depthAll_ints];omega
 rw [a1,a2,decide_eq_true a3];rfl
theorem ne_nil {l:List Int}:oNeP (iL l) (.lst [])=some (.bl (!l.isEmpty)):=by
 cases l with
 | nil=>exact s_nePR (lay_iL [])
 | cons d r=>
  unfold oNeP
  rw [lay_iL,show layOk (.lst [])=true from lay_iL [],Bool.and_self,if_pos rfl]
  unfold iL
  rw [List.map_cons,py,py,pys,pys]
  simp [PyData.eqv,PyData.eqvAll]
abbrev T4:D:=.tup [.lst [],.lst [.str "on"],.lst [.str "put"],.lst [.str "on",.str "put"]]
def lnOf (ns:List Int) (c1:Nat):List Int:=(ns.drop (min 1 ns.length)).take (min c1 ns.length - min 1 ns.length)
def askR (ns:List Int) (L:List Int) (E:List D):D:=.tup [.str "ask",.int (ns.getD 0 0),iT L,.tup E]
theorem cut_ln {ns:List Int}{c1:Nat}:cutD (ns.map D.int) (some 1) (some (c1:Int))=(lnOf ns c1).map D.int:=by
 unfold cutD lnOf
 rw [show (1:Int)=((1:Nat):Int) from rfl,HT.sIx_nat,HT.sIx_nat,List.length_map,← List.map_drop,← List.map_take]
def rA (ns:List Int) (ms:List Mk) (s2 s3 s4 s5 s6:Slot):Rho:=[some (iL ns,.sh []),some (mL ms,.sh []),s2,s3,s4,s5,s6]
theorem f_asks {ns:List Int}{ms:List Mk} (hn:ns.length≤300) (hm:ms.length≤2) {nin on1 put1:Bool} (h1:oNinP (sL (ms.map (·.1))) T4=some (.bl nin)) (h2:oEqP (.lst (cutD ((ms.map (·.1)).map D.str) none (some 1))) (.lst [.str "on"])=some (.bl on1))
  (h3:oEqP (.lst (cutD ((ms.map (·.1)).map D.str) (some (-1)) none)) (.lst [.str "put"])=some (.bl put1)) (c1 c2:Nat) (hc1:on1=true→2≤(cutsOf ns ms).length∧(cutsOf ns ms).getD 1 0=c1) (hc2:put1=true→2≤(cutsOf ns ms).length∧(cutsOf ns ms).getD ((cutsOf ns ms).length - 2) 0=c2∧c2≤ns.length)
  (hpos:(cutsOf ns ms).getD 0 0=1→1≤ns.length):F_L_asks [iL ns,mL ms]=some (if nin=true then .non else if (!((cutsOf ns ms).getD 0 0 == 1)||!((rng 0 ms.length).filter (badAt (cutsOf ns ms))).isEmpty)=true then .non else
   if (put1&&!(decide ((ns.drop c2).length % 3=0)))=true then .non else askR ns (if on1=true then lnOf ns c1 else []) (if put1=true then trip (ns.drop c2) else [])):=by
 have hcl:(cutsOf ns ms).length=ms.length + 1:=by unfold cutsOf;rw [List.length_append,List.length_map];rfl
 refine runF_rt rfl ?_
 show B_L_asks (rA ns ms none none none none none)=_
 unfold B_L_asks
 refine sq_set (names_c (ms:=ms) (t:=.sh []) rfl (by omega)) ?_
 show (sSeq _ _) (rA ns ms (some (sL (ms.map (·.1)),.own)) none none none none)=_
 have t2:tV (e2 oNinP (eVar 2) (eTup (aCons (eLstI aNil) (aCons (eLstI (aCons (eC (.str "on")) aNil)) (aCons (eLstI (aCons (eC (.str "put")) aNil)) (aCons (eLstI (aCons (eC (.str "on")) (aCons (eC (.str "put")) aNil))) aNil)))))) (rA ns ms (some (sL (ms.map (·.1)),.own)) none none none none)=some nin:=kTV (k2e (d1:=sL (ms.map (·.1))) (t1:=.sh [2]) (d2:=T4) (t2:=.own) rfl rfl h1)
 cases nin with
 | true=>rw [s_seq,s_if,t2];rfl
 | false=>
 refine sq_no t2 ?_
 rw [if_neg Bool.false_ne_true]
 have hi1:iSeqF (eVar 1) (rA ns ms (some (sL (ms.map (·.1)),.own)) none none none none)=some (ms.map dM,.sh []):=rfl
 have hcc:=c_map (js:=[none]) (g:=gN 0) (te:=e2 oIx (eVar 0) (eC (.int 1))) (f:=fun m:Mk=>D.int m.2) hi1 (by omega) (fun m _=>compE_own (ρ1:=[some (dM m,.sh [])]) rfl rfl rfl)
 have hel:eLstI (aCons (e1 oLen (eVar 0)) aNil) (rA ns ms (some (sL (ms.map (·.1)),.own)) none none none none)=some (.lst [.int ns.length],.own):=by
  have:e1 oLen (eVar 0) (rA ns ms (some (sL (ms.map (·.1)),.own)) none none none none)=some (.int ns.length,.own):=k1e (d:=iL ns) (t:=.sh []) rfl len_I
  unfold eLstI
  rw [s_aCons,this];rfl
 have hcat:oCat (.lst (ms.map fun m:Mk=>D.int m.2)) (.lst [.int ns.length])=some (iL (cutsOf ns ms)):=by
  have e1':(ms.map fun m:Mk=>D.int m.2)=(ms.map fun m:Mk=>(m.2:Int)).map D.int:=by rw [List.map_map];rfl
  show (if (immAll (ms.map fun m:Mk=>D.int m.2)&&immAll [D.int ns.length]&&decide ((ms.map fun m:Mk=>D.int m.2).length + [D.int ns.length].length≤sizeLine))=true then some (D.lst ((ms.map fun m:Mk=>D.int m.2)++[D.int ns.length])) else none)=_
  rw [if_pos (by rw [e1',imm_ints,List.length_map,List.length_map,List.length_singleton,decide_eq_true (Nat.le_of_lt (size_le (by omega)))];rfl),e1']
  unfold iL cutsOf
  rw [List.map_append];rfl
 refine sq_set (k2e hcc hel hcat) ?_
 generalize hcs:cutsOf ns ms=cs at *
 show (sSeq _ _) (rA ns ms (some (sL (ms.map (·.1)),.own)) (some (iL cs,.own)) none none none)=_
 have c4:tV (e2 oNe (e2 oIx (eVar 3) (eC (.int 0))) (eC (.int 1))) (rA ns ms (some (sL (ms.map (·.1)),.own)) (some (iL cs,.own)) none none none)=some (!(cs.getD 0 0 == 1)):=kTV (k2e (k2e (d1:=iL cs) (t1:=.sh [3]) rfl rfl (ix_g (by omega) (by omega))) rfl rfl)
 have hir:iR1 (e1 oLen (eVar 1)) (rA ns ms (some (sL (ms.map (·.1)),.own)) (some (iL cs,.own)) none none none)=some ((rng 0 ms.length).map D.int,.own):=ir1' (t:=.own) (k1e (d:=mL ms) (t:=.sh []) rfl (by unfold mL;rw [s_lenL,List.length_map])) (by omega)
 have hbad:=c_filter (js:=[none,some 3]) (tt:=tV (e2 oEq (e2 oIx (eVar 1) (e2 oAdd (eVar 0) (eC (.int 1)))) (e2 oIx (eVar 1) (eVar 0)))) (p:=badAt cs) (r:=[some (iL cs,.sh [])]) hir (by rw [rng_len];omega) (fun x=>rfl) (fun x mx=>by
  obtain ⟨x0,x1⟩:=mem_rng.mp mx
  exact kTV (k2e (k2e (d1:=iL cs) (t1:=.sh []) (d2:=.int (x + 1)) (t2:=.own) rfl rfl (ix_g (by omega) (by omega))) (k2e (d1:=iL cs) (t1:=.sh []) (d2:=.int x) (t2:=.sh []) rfl rfl (ix_g (by omega) (by omega))) rfl))
 have c5:tV (e2 oNeP (eComp [none,some 3] (iR1 (e1 oLen (eVar 1))) (gN 0) (tV (e2 oEq (e2 oIx (eVar 1) (e2 oAdd (eVar 0) (eC (.int 1)))) (e2 oIx (eVar 1) (eVar 0)))) (eVar 0)) (eLstI aNil)) (rA ns ms (some (sL (ms.map (·.1)),.own)) (some (iL cs,.own)) none none none)=some (!((rng 0 ms.length).filter (badAt cs)).isEmpty):=kTV (k2e (d2:=.lst []) (t2:=.own) hbad rfl ne_nil)
 have t4:=s_or2 c4 c5
 cases hb:(!(cs.getD 0 0 == 1)||!((rng 0 ms.length).filter (badAt cs)).isEmpty) with
 | true=>rw [hb] at t4;rw [s_seq,s_if,t4];rfl
 | false=>
 rw [hb] at t4
 refine sq_no t4 ?_
 rw [if_neg Bool.false_ne_true]
 have hone:cs.getD 0 0=1:=by
  have:=(Bool.or_eq_false_iff.mp hb).1
  simpa using this
 have hn1:=hpos hone
 refine sq_set (d:=.lst []) (t:=.own) rfl (sq_set (d:=.lst []) (t:=.own) rfl ?_)
 show (sSeq _ _) (rA ns ms (some (sL (ms.map (·.1)),.own)) (some (iL cs,.own)) (some (iL [],.own)) (some (.lst [],.own)) none)=_
 have t7:tV (e2 oEqP (e1 (oCut none (some 1)) (eVar 2)) (eLstI (aCons (eC (.str "on")) aNil))) (rA ns ms (some (sL (ms.map (·.1)),.own)) (some (iL cs,.own)) (some (iL [],.own)) (some (.lst [],.own)) none)=some on1:=by
  refine kTV (k2e (k1e (d:=sL (ms.map (·.1))) (t:=.sh [2]) rfl ?_) (d2:=.lst [.str "on"]) (t2:=.own) rfl h2)
  show (if immAll ((ms.map (·.1)).map D.str)=true then some (D.lst (cutD ((ms.map (·.1)).map D.str) none (some 1))) else none)=_
  rw [if_pos (imm_strs _)]
 have q7:sIf (tV (e2 oEqP (e1 (oCut none (some 1)) (eVar 2)) (eLstI (aCons (eC (.str "on")) aNil)))) (sSet 4 (eCutM (eVar 0) (eC (.int 1)) (e2 oIx (eVar 3) (eC (.int 1))))) sNx (rA ns ms (some (sL (ms.map (·.1)),.own)) (some (iL cs,.own)) (some (iL [],.own)) (some (.lst [],.own)) none)=some (.nx (rA ns ms (some (sL (ms.map (·.1)),.own)) (some (iL cs,.own)) (some (iL (if on1=true then lnOf ns c1 else []),.own)) (some (.lst [],.own)) none)):=by
  rw [s_if,t7]
  cases on1 with
  | false=>rfl
  | true=>
   obtain ⟨g1,g2⟩:=hc1 rfl
   rw [s_ifT,if_pos rfl]
   have hx:e2 oIx (eVar 3) (eC (.int 1)) (rA ns ms (some (sL (ms.map (·.1)),.own)) (some (iL cs,.own)) (some (iL [],.own)) (some (.lst [],.own)) none)=some (.int c1,.own):=k2e (d1:=iL cs) (t1:=.sh [3]) rfl rfl (by rw [ix_g (by omega) (by omega)];rw [← g2];rfl)
   have hcm:eCutM (eVar 0) (eC (.int 1)) (e2 oIx (eVar 3) (eC (.int 1))) (rA ns ms (some (sL (ms.map (·.1)),.own)) (some (iL cs,.own)) (some (iL [],.own)) (some (.lst [],.own)) none)=some (iL (lnOf ns c1),.own):=by
    unfold eCutM
    rw [hx]
    show (if immAll (ns.map D.int)=true then some (D.lst (cutD (ns.map D.int) (some 1) (some (c1:Int))),Tag.own) else none)=_
    rw [if_pos (imm_ints _),cut_ln];rfl
   rw [s_set,hcm];rfl
 refine sq q7 ?_
 generalize (if on1=true then lnOf ns c1 else [])=LL
 have t8:tV (e2 oEqP (eCutT (eVar 2) (e1 oNeg (eC (.int 1)))) (eLstI (aCons (eC (.str "put")) aNil))) (rA ns ms (some (sL (ms.map (·.1)),.own)) (some (iL cs,.own)) (some (iL LL,.own)) (some (.lst [],.own)) none)=some put1:=by
  refine kTV (k2e (d1:=.lst (cutD ((ms.map (·.1)).map D.str) (some (-1)) none)) (t1:=.own) ?_ (d2:=.lst [.str "put"]) (t2:=.own) rfl h3)
  show (if immAll ((ms.map (·.1)).map D.str)=true then some (D.lst (cutD ((ms.map (·.1)).map D.str) (some (-1)) none),Tag.own) else none)=_
  rw [if_pos (imm_strs _)]
 have fin:∀ (E:List D) (s6:Slot),immAll E=true→sRet (eTup (aCons (eC (.str "ask")) (aCons (e2 oIx (eVar 0) (eC (.int 0))) (aCons (e1 oTuple (eVar 4)) (aCons (e1 oTuple (eVar 5)) aNil))))) (rA ns ms (some (sL (ms.map (·.1)),.own)) (some (iL cs,.own)) (some (iL LL,.own)) (some (.lst E,.own)) s6)=some (.rt (askR ns LL E)):=fun E s6 hE=>by
  have e0:e2 oIx (eVar 0) (eC (.int 0)) (rA ns ms (some (sL (ms.map (·.1)),.own)) (some (iL cs,.own)) (some (iL LL,.own)) (some (.lst E,.own)) s6)=some (.int (ns.getD 0 0),.own):=k2e (d1:=iL ns) (t1:=.sh []) rfl rfl (ix_g (by omega) (by omega))
  have e4:e1 oTuple (eVar 4) (rA ns ms (some (sL (ms.map (·.1)),.own)) (some (iL cs,.own)) (some (iL LL,.own)) (some (.lst E,.own)) s6)=some (iT LL,.own):=k1e (d:=iL LL) (t:=.sh [4]) rfl s_tupI
  have e5:e1 oTuple (eVar 5) (rA ns ms (some (sL (ms.map (·.1)),.own)) (some (iL cs,.own)) (some (iL LL,.own)) (some (.lst E,.own)) s6)=some (.tup E,.own):=k1e (d:=.lst E) (t:=.sh [5]) rfl (by
   show (if immAll E=true then some (D.tup E) else none)=_
   rw [if_pos hE])
  rw [s_ret,s_tup,s_aCons,s_aCons,s_aCons,s_aCons,e0,e4,e5];rfl
 cases put1 with
 | false=>
  refine sq_no t8 ?_
  exact fin [] none rfl
 | true=>
  obtain ⟨g1,g2,g3⟩:=hc2 rfl
  refine sq_if t8 ?_
  rw [if_pos rfl]
  have hx:e2 oIx (eVar 3) (e1 oNeg (eC (.int 2))) (rA ns ms (some (sL (ms.map (·.1)),.own)) (some (iL cs,.own)) (some (iL LL,.own)) (some (.lst [],.own)) none)=some (.int c2,.own):=k2e (d1:=iL cs) (t1:=.sh [3]) (d2:=.int (-2)) (t2:=.own) rfl rfl (by rw [ix_neg2 g1,g2])
  have hct:eCutT (eVar 0) (e2 oIx (eVar 3) (e1 oNeg (eC (.int 2)))) (rA ns ms (some (sL (ms.map (·.1)),.own)) (some (iL cs,.own)) (some (iL LL,.own)) (some (.lst [],.own)) none)=some (iL (ns.drop c2),.own):=by
   unfold eCutT
   rw [hx]
   show (if immAll (ns.map D.int)=true then some (D.lst (cutD (ns.map D.int) (some (c2:Int)) none),Tag.own) else none)=_
   rw [if_pos (imm_ints _),cut_from (by rw [List.length_map];exact g3),← List.map_drop];rfl
  have hdl:(ns.drop c2).length≤300:=by rw [List.length_drop];omega
  generalize ns.drop c2=cc at *
  have q8:sSet 6 (eCutT (eVar 0) (e2 oIx (eVar 3) (e1 oNeg (eC (.int 2))))) (rA ns ms (some (sL (ms.map (·.1)),.own)) (some (iL cs,.own)) (some (iL LL,.own)) (some (.lst [],.own)) none)=some (.nx (rA ns ms (some (sL (ms.map (·.1)),.own)) (some (iL cs,.own)) (some (iL LL,.own)) (some (.lst [],.own)) (some (iL cc,.own)))):=by rw [s_set,hct];rfl
  have hlen:e1 oLen (eVar 6) (rA ns ms (some (sL (ms.map (·.1)),.own)) (some (iL cs,.own)) (some (iL LL,.own)) (some (.lst [],.own)) (some (iL cc,.own)))=some (.int cc.length,.own):=k1e (d:=iL cc) (t:=.sh [6]) rfl len_I
  have t9:tV (e2 oNe (e2 oMod (e1 oLen (eVar 6)) (eC (.int 3))) (eC (.int 0))) (rA ns ms (some (sL (ms.map (·.1)),.own)) (some (iL cs,.own)) (some (iL LL,.own)) (some (.lst [],.own)) (some (iL cc,.own)))=some (!decide (cc.length % 3=0)):=by
   have e:(((cc.length:Int) % 3) == 0)=decide (cc.length % 3=0):=by
    by_cases q:cc.length % 3=0
    ·rw [decide_eq_true q,beq_iff_eq];omega
    ·rw [decide_eq_false q,beq_eq_false_iff_ne];omega
   rw [← e]
   exact kTV (k2e (k2e hlen rfl (s_oMod (by omega))) rfl rfl)
  by_cases h3':cc.length % 3=0
  ·rw [decide_eq_true h3'] at t9 ⊢
   rw [if_neg (by decide),if_pos rfl]
   obtain ⟨n,hn3⟩:∃ n,cc.length=3 * n:=⟨cc.length / 3,by omega⟩
   have hc:=c_map (js:=[none,some 6]) (it:=iR3 (eC (.int 0)) (e1 oLen (eVar 6)) 3) (ρ:=rA ns ms (some (sL (ms.map (·.1)),.own)) (some (iL cs,.own)) (some (iL LL,.own)) (some (.lst [],.own)) (some (iL cc,.own))) (g:=gN 0) (te:=e1 oTuple (eCutM (eVar 1) (eVar 0) (e2 oAdd (eVar 0) (eC (.int 3))))) (l:=List.range n) (i:=fun j:Nat=>D.int (0 + j * 3)) (f:=fun j=>D.tup (((cc.drop (3 * j)).take 3).map D.int)) (ir3 (t1:=.own) (t2:=.own) rfl (by rw [hlen,hn3]) (by omega)) (by rw [List.length_range];omega) (fun j mj=>by
    have hj:=List.mem_range.mp mj
    refine compE_own (ρ1:=[some (.int (0 + j * 3),.sh []),some (iL cc,.sh [])]) rfl rfl (k1e (d:=iL ((cc.drop (3 * j)).take 3)) (t:=.own) ?_ s_tupI)
    show (if immAll (cc.map D.int)=true then some (D.lst (cutD (cc.map D.int) (some (0 + (j:Int) * 3)) (some (0 + (j:Int) * 3 + 3))),Tag.own) else none)=_
    rw [if_pos (imm_ints _),cut3 (by omega)];rfl)
   have e:(List.range n).map (fun j=>D.tup (((cc.drop (3 * j)).take 3).map D.int))=trip cc:=by unfold trip;rw [show cc.length / 3=n by omega]
   rw [e] at hc
   have q10:sSet 5 (eComp [none,some 6] (iR3 (eC (.int 0)) (e1 oLen (eVar 6)) 3) (gN 0) tTrue (e1 oTuple (eCutM (eVar 1) (eVar 0) (e2 oAdd (eVar 0) (eC (.int 3)))))) (rA ns ms (some (sL (ms.map (·.1)),.own)) (some (iL cs,.own)) (some (iL LL,.own)) (some (.lst [],.own)) (some (iL cc,.own)))=some (.nx (rA ns ms (some (sL (ms.map (·.1)),.own)) (some (iL cs,.own)) (some (iL LL,.own)) (some (.lst (trip cc),.own)) (some (iL cc,.own)))):=by rw [s_set,hc];rfl
   refine sq (ρ':=rA ns ms (some (sL (ms.map (·.1)),.own)) (some (iL cs,.own)) (some (iL LL,.own)) (some (.lst (trip cc),.own)) (some (iL cc,.own))) ?_ (fin (trip cc) (some (iL cc,.own)) (imm_trip cc))
   exact sq q8 (sq_no t9 q10)
  ·rw [decide_eq_false h3'] at t9 ⊢
   rw [if_pos rfl,s_seq,s_seq,q8,s_seqN,s_seq,s_if,t9];rfl
theorem bad1 {x y:Int}:((rng 0 1).filter (badAt [x,y])).isEmpty=!(y == x):=by
 show (List.filter (badAt [x,y]) [(0:Int)]).isEmpty=_
 have e:badAt [x,y] 0=(y == x):=rfl
 rw [List.filter_cons,e]
 cases (y == x) <;> rfl
theorem bad2 {x y z:Int}:((rng 0 2).filter (badAt [x,y,z])).isEmpty=(!(y == x)&&!(z == y)):=by
 show (List.filter (badAt [x,y,z]) [(0:Int),1]).isEmpty=_
 have e:badAt [x,y,z] 0=(y == x):=rfl
 have e':badAt [x,y,z] 1=(z == y):=rfl
 rw [List.filter_cons,List.filter_cons,e,e']
 cases (y == x) <;> cases (z == y) <;> rfl
theorem form0 {ns:List Int} (hn:ns.length≤300):F_L_asks [iL ns,mL []]=some (if ns.length=1 then askR ns [] [] else .non):=by
 rw [f_asks (ms:=[]) (nin:=false) (on1:=false) (put1:=false) hn (by simp) (by kernel_rfl) (by kernel_rfl) (by kernel_rfl) 0 0 (fun h=>by cases h) (fun h=>by cases h) (fun h=>by
  have h:(ns.length:Int)=1:=h
  omega),if_neg Bool.false_ne_true]
 show some (if (!((ns.length:Int) == 1)||false)=true then D.non else _)=_
 by_cases q:ns.length=1
 ·rw [if_neg (by simp [q]),if_pos q];rfl
 ·rw [if_pos (by simp;omega),if_neg q]
theorem form1 {ns:List Int}{a:Nat} (hn:ns.length≤300) (ha:a≤ns.length):F_L_asks [iL ns,mL [("on",a)]]=some (if a=1∧ns.length≠a then askR ns (lnOf ns ns.length) [] else .non):=by
 rw [f_asks (ms:=[("on",a)]) (nin:=false) (on1:=true) (put1:=false) hn (by simp) (by kernel_rfl) (by kernel_rfl) (by kernel_rfl) ns.length 0 (fun _=>⟨Nat.le_refl 2,rfl⟩) (fun h=>by cases h) (fun h=>by
  have h:(a:Int)=1:=h
  omega),if_neg Bool.false_ne_true]
 show some (if (!((a:Int) == 1)||!((rng 0 1).filter (badAt [(a:Int),(ns.length:Int)])).isEmpty)=true then D.non else _)=_
 rw [bad1]
 by_cases q:a=1∧ns.length≠a
 ·rw [if_neg (by simp;omega),if_pos q];rfl
 ·rw [if_pos (by simp;omega),if_neg q]
theorem form2 {ns:List Int}{a:Nat} (hn:ns.length≤300) (ha:a≤ns.length):F_L_asks [iL ns,mL [("put",a)]]=some (if a=1∧ns.length≠a∧(ns.drop a).length % 3=0 then askR ns [] (trip (ns.drop a)) else .non):=by
 rw [f_asks (ms:=[("put",a)]) (nin:=false) (on1:=false) (put1:=true) hn (by simp) (by kernel_rfl) (by kernel_rfl) (by kernel_rfl) 0 a (fun h=>by cases h) (fun _=>⟨Nat.le_refl 2,rfl,ha⟩) (fun h=>by
  have h:(a:Int)=1:=h
  omega),if_neg Bool.false_ne_true]
 show some (if (!((a:Int) == 1)||!((rng 0 1).filter (badAt [(a:Int),(ns.length:Int)])).isEmpty)=true then D.non else _)=_
 rw [bad1]
 by_cases q:a=1∧ns.length≠a
 ·rw [if_neg (by simp;omega)]
  by_cases q3:(ns.drop a).length % 3=0
  ·rw [decide_eq_true q3,if_neg (by decide),if_pos (show a=1∧ns.length≠a∧(ns.drop a).length % 3=0 from ⟨q.1,q.2,q3⟩)];rfl
  ·rw [decide_eq_false q3,if_pos (by decide),if_neg (show ¬ (a=1∧ns.length≠a∧(ns.drop a).length % 3=0) from fun z=>q3 z.2.2)]
 ·rw [if_pos (by simp;omega),if_neg (fun z=>q ⟨z.1,z.2.1⟩)]
theorem form3 {ns:List Int}{a b:Nat} (hn:ns.length≤300) (hab:a≤b) (hb:b≤ns.length):F_L_asks [iL ns,mL [("on",a),("put",b)]]=some (if a=1∧b≠a∧ns.length≠b∧(ns.drop b).length % 3=0 then askR ns (lnOf ns b) (trip (ns.drop b)) else .non):=by
 rw [f_asks (ms:=[("on",a),("put",b)]) (nin:=false) (on1:=true) (put1:=true) hn (by simp) (by kernel_rfl) (by kernel_rfl) (by kernel_rfl) b b (fun _=>⟨by show 2≤3;omega,rfl⟩) (fun _=>⟨by show 2≤3;omega,rfl,hb⟩) (fun h=>by
  have h:(a:Int)=1:=h
  omega),if_neg Bool.false_ne_true]
 show some (if (!((a:Int) == 1)||!((rng 0 2).filter (badAt [(a:Int),(b:Int),(ns.length:Int)])).isEmpty)=true then D.non else _)=_
 rw [bad2]
 by_cases q:a=1∧b≠a∧ns.length≠b
 ·rw [if_neg (by simp;omega)]
  by_cases q3:(ns.drop b).length % 3=0
  ·rw [decide_eq_true q3,if_neg (by decide),if_pos (show a=1∧b≠a∧ns.length≠b∧(ns.drop b).length % 3=0 from ⟨q.1,q.2.1,q.2.2,q3⟩)];rfl
  ·rw [decide_eq_false q3,if_pos (by decide),if_neg (show ¬ (a=1∧b≠a∧ns.length≠b∧(ns.drop b).length % 3=0) from fun z=>q3 z.2.2.2)]
 ·rw [if_pos (by simp;omega),if_neg (fun z=>q ⟨z.1,z.2.1,z.2.2.1⟩)]
theorem form4 {ns:List Int}{a b:Nat} (hn:ns.length≤300) (ha:a≤ns.length):F_L_asks [iL ns,mL [("put",a),("on",b)]]=some .non:=by
 rw [f_asks (ms:=[("put",a),("on",b)]) (nin:=true) (on1:=false) (put1:=false) hn (by simp) (by kernel_rfl) (by kernel_rfl) (by kernel_rfl) 0 0 (fun h=>by cases h) (fun h=>by cases h) (fun h=>by
  have h:(a:Int)=1:=h
  omega),if_pos rfl]
theorem mach_nums {h:Str}{W:List Str}{ms:List Mk}:∀ {A:List Str}{ns:List Int},A.all num=true→mach h (A++W) ns ms=mach h W (ns++A.map val) ms
 | [],ns,_=>by rw [List.nil_append,List.map_nil,List.append_nil]
 | a::A,ns,hA=>by
  rw [List.all_cons] at hA
  obtain ⟨h1,h2⟩:=(Bool.and_eq_true _ _).mp hA
  rw [List.cons_append]
  conv=>lhs;unfold mach
  rw [if_pos h1,mach_nums h2,List.map_cons,List.append_assoc];rfl
theorem span_num:∀ R:List Str,∃ A T,R=A++T∧A.all num=true∧(T=[]∨∃ w T',T=w::T'∧num w=false)
 | []=>⟨[],[],rfl,rfl,.inl rfl⟩
 | w::R=>by
  cases hw:num w with
  | false=>exact ⟨[],w::R,rfl,rfl,.inr ⟨w,R,rfl,hw⟩⟩
  | true=>
   obtain ⟨A,T,e,h1,h2⟩:=span_num R
   exact ⟨w::A,T,by rw [e];rfl,by rw [List.all_cons,hw,h1];rfl,h2⟩
theorem no_mark {A:List Str}{m:Str} (hA:A.all num=true) (hm:num m=false):m∉A:=fun q=>by
 have:=List.all_eq_true.mp hA m q
 rw [hm] at this;cases this
theorem ahead_app {m w:Str}{T:List Str}:∀ {A:List Str},m∉A→w≠m→ahead m (A++w::T)=A++w::ahead m T
 | [],_,hw=>by show (if w=m then [] else w::ahead m T)=_;rw [if_neg hw];rfl
 | a::A,h,hw=>by
  show (if a=m then [] else a::ahead m (A++w::T))=_
  rw [if_neg (fun e=>h (by rw [e];exact List.mem_cons_self)),ahead_app (fun q=>h (List.mem_cons_of_mem _ q)) hw];rfl
theorem beh_none {m w:Str}{A C T:List Str} (hA:m∉A) (hw:num w=false):beh m (A++m::(C++w::T))=none:=by
 unfold beh
 rw [if_pos (by simp),after_at hA,if_neg]
 rw [List.all_append,List.all_cons,hw]
 simp
theorem beh_some {m:Str}{A C:List Str} (hA:m∉A) (hC:C.all num=true):beh m (A++m::C)=if C=[] then none else some (C.map val):=by
 unfold beh
 rw [if_pos (by simp),after_at hA,hC]
 cases C <;> rfl
theorem beh_no {m:Str}{W:List Str} (h:m∉W):beh m W=some []:=if_neg h
theorem askS_beh {R:List Str} (h:beh "put" R=none∨beh "on" (ahead "put" R)=none):askS R=none:=by
 unfold askS
 split
 ·rcases h with h | h
  ·rw [h];cases beh "on" (ahead "put" R) <;> rfl
  ·rw [h]
 ·rfl
theorem keep2 {a b:Nat}:∀ {W:List Str}{ns ns':List Int}{ms':List Mk},mach "ask" W ns [("put",a),("on",b)]=some (ns',ms')→ms'=([("put",a),("on",b)]:List Mk)∧ns.length≤ns'.length∧ns'.length≤ns.length + W.length
 | [],ns,ns',ms',h=>by cases h;exact ⟨rfl,Nat.le_refl _,Nat.le_refl _⟩
 | w::W,ns,ns',ms',h=>by
  unfold mach at h
  split at h
  ·obtain ⟨h1,h2,h3⟩:=keep2 h
   rw [List.length_append,List.length_singleton] at h2 h3
   exact ⟨h1,by omega,by rw [List.length_cons];omega⟩
  ·split at h
   ·rename_i hc
    exfalso
    obtain ⟨_,hc⟩:=(Bool.and_eq_true _ _).mp hc
    obtain ⟨h1,h2⟩:=(Bool.and_eq_true _ _).mp hc
    unfold onp at h1
    obtain ⟨x,mx,ex⟩:=List.any_eq_true.mp h1
    have ex:=beq_iff_eq.mp ex
    subst ex
    simp only [List.mem_cons,List.not_mem_nil,or_false] at mx
    rcases mx with rfl | rfl
    ·have h2:(!((["put","on"]:List Str).any (· == "on")))=true:=h2
     exact absurd h2 (by decide +kernel)
    ·have h2:(!((["put","on"]:List Str).any (· == "put")))=true:=h2
     exact absurd h2 (by decide +kernel)
   ·cases h
theorem onp_cases {w:Str} (h:onp w=true):w="on"∨w="put":=by
 unfold onp at h
 obtain ⟨x,mx,ex⟩:=List.any_eq_true.mp h
 have ex:=beq_iff_eq.mp ex
 subst ex
 simpa using mx
theorem m_step {w:Str}{T:List Str}{ns:List Int}{ms:List Mk} (hw:num w=false):mach "ask" (w::T) ns ms=if (onp w&&!(ms.map (·.1)).any (· == w))=true then mach "ask" T ns (ms++[(w,ns.length)]) else none:=by
 conv=>lhs;unfold mach
 rw [if_neg (by rw [hw];exact Bool.false_ne_true),show (("ask":Str) == "ask")=true by decide +kernel,Bool.true_and]
theorem m_bad {w:Str}{T:List Str}{ns:List Int}{ms:List Mk} (hw:num w=false) (ho:onp w=false):mach "ask" (w::T) ns ms=none:=by
 rw [m_step hw,ho];rfl
theorem m_on {T:List Str}{ns:List Int}:mach "ask" ("on"::T) ns []=mach "ask" T ns [("on",ns.length)]:=by
 rw [m_step num_on,if_pos (by decide +kernel)];rfl
theorem m_put {T:List Str}{ns:List Int}:mach "ask" ("put"::T) ns []=mach "ask" T ns [("put",ns.length)]:=by
 rw [m_step num_put,if_pos (by decide +kernel)];rfl
theorem m_onput {T:List Str}{ns:List Int}{a:Nat}:mach "ask" ("put"::T) ns [("on",a)]=mach "ask" T ns [("on",a),("put",ns.length)]:=by
 rw [m_step num_put];exact if_pos (show (onp "put"&&!((["on"]:List Str).any (· == "put")))=true by decide +kernel)
theorem m_puton {T:List Str}{ns:List Int}{a:Nat}:mach "ask" ("on"::T) ns [("put",a)]=mach "ask" T ns [("put",a),("on",ns.length)]:=by
 rw [m_step num_on];exact if_pos (show (onp "on"&&!((["put"]:List Str).any (· == "on")))=true by decide +kernel)
theorem m_onon {T:List Str}{ns:List Int}{a:Nat}:mach "ask" ("on"::T) ns [("on",a)]=none:=by
 rw [m_step num_on];exact if_neg (show ¬ (onp "on"&&!((["on"]:List Str).any (· == "on")))=true by decide +kernel)
theorem m_putput {T:List Str}{ns:List Int}{a:Nat}:mach "ask" ("put"::T) ns [("put",a)]=none:=by
 rw [m_step num_put];exact if_neg (show ¬ (onp "put"&&!((["put"]:List Str).any (· == "put")))=true by decide +kernel)
theorem m_both {w:Str}{T:List Str}{ns:List Int}{a b:Nat} (hw:num w=false):mach "ask" (w::T) ns [("on",a),("put",b)]=none:=by
 cases ho:onp w with
 | false=>exact m_bad hw ho
 | true=>
  rcases onp_cases ho with rfl | rfl
  ·rw [m_step num_on];exact if_neg (show ¬ (onp "on"&&!((["on","put"]:List Str).any (· == "on")))=true by decide +kernel)
  ·rw [m_step num_put];exact if_neg (show ¬ (onp "put"&&!((["on","put"]:List Str).any (· == "put")))=true by decide +kernel)
def Good (o:Option (List Int×List Mk)) (R:List Str):Prop:=(o=none→askS R=none)∧∀ ns ms,o=some (ns,ms)→F_L_asks [iL ns,mL ms]=some ((askS R).getD .non)
theorem Good.no {R:List Str} (h:askS R=none):Good none R:=⟨fun _=>h,(fun _ _ e=>by cases e)⟩
theorem Good.yes {R:List Str}{ns:List Int}{ms:List Mk} (h:F_L_asks [iL ns,mL ms]=some ((askS R).getD .non)):Good (some (ns,ms)) R:=⟨(fun e=>by cases e),fun _ _ e=>by cases e;exact h⟩
theorem on_put:("on":Str)≠"put":=by decide +kernel
theorem put_on:("put":Str)≠"on":=by decide +kernel
theorem ask_eq {R:List Str} (hl:R.length≤300):Good (mach "ask" R [] []) R:=by
 obtain ⟨A,T,e,hA,hT⟩:=span_num R
 have nA:=no_mark hA num_put
 have oA:=no_mark hA num_on
 have eA:mach "ask" R [] []=mach "ask" T (A.map val) []:=by rw [e,mach_nums hA];rfl
 rw [eA]
 have hlen:=congrArg List.length e
 rw [List.length_append] at hlen
 rcases hT with hT | ⟨w,T',hT,hw⟩
 ·
  rw [hT] at e ⊢
  rw [List.append_nil] at e
  subst e
  show Good (some (R.map val,[])) R
  refine .yes ?_
  rw [form0 (by rw [List.length_map];exact hl),List.length_map]
  unfold askS
  rw [ahead_no nA,ahead_no oA,beh_no oA,beh_no nA]
  match R,hA with
  | [],_=>rfl
  | [x],hA=>
   have hx:num x=true:=by simpa using hA
   rw [if_pos (show [x].length=1 from rfl)]
   show _=some ((if num x=true∧([]:List Int).length % 3=0 then some (askD x [] []) else none).getD D.non)
   rw [if_pos ⟨hx,rfl⟩];rfl
  | _::_::_,_=>rw [if_neg (by simp)];rfl
 ·rw [hT] at e ⊢
  rw [hT,List.length_cons] at hlen
  cases ho:onp w with
  | false=>
   rw [m_bad hw ho]
   refine .no ?_
   have w1:w≠"put":=fun z=>by rw [z] at ho;exact absurd ho (by decide +kernel)
   have w2:w≠"on":=fun z=>by rw [z] at ho;exact absurd ho (by decide +kernel)
   unfold askS
   rw [e,ahead_app nA w1,ahead_app oA w2]
   cases A with
   | nil=>
    cases ahead "on" (ahead "put" T') with
    | nil=>
     dsimp only [List.nil_append]
     split
     ·rw [if_neg (fun z=>by rw [hw] at z;cases z.1)]
     ·rfl
    | cons _ _=>rfl
   | cons a A'=>
    cases A' with
    | nil=>rfl
    | cons _ _=>rfl
  | true=>
   rcases onp_cases ho with rfl | rfl
   ·
    rw [m_on]
    obtain ⟨B,T2,e2,hB,hT2⟩:=span_num T'
    have nB:=no_mark hB num_put
    rw [e2,mach_nums hB]
    have hlen2:=congrArg List.length e2
    rw [List.length_append] at hlen2
    rcases hT2 with hT2 | ⟨w2,T3,hT2,hw2⟩
    ·rw [hT2] at e2 ⊢
     rw [List.append_nil] at e2
     show Good (some (A.map val++B.map val,[("on",(A.map val).length)])) R
     refine .yes ?_
     rw [← List.map_append,List.length_map,form1 (by rw [List.length_map,List.length_append];omega) (by rw [List.length_map,List.length_append];omega),List.length_map,List.length_append]
     have nR:("put":Str)∉R:=by
      rw [e,e2]
      intro q
      rcases List.mem_append.mp q with q | q
      ·exact nA q
      ·rcases List.mem_cons.mp q with q | q
       ·exact put_on q
       ·exact nB q
     unfold askS
     rw [ahead_no nR,beh_no nR,e,e2,ahead_at oA,beh_some oA hB]
     match A,hA with
     | [],_=>rfl
     | [x],hA=>
      have hx:num x=true:=by simpa using hA
      cases B with
      | nil=>rfl
      | cons b B'=>
       rw [if_pos ⟨rfl,by simp⟩,if_neg (by simp)]
       show _=some ((if num x=true∧([]:List Int).length % 3=0 then some (askD x ((b::B').map val) []) else none).getD D.non)
       rw [if_pos ⟨hx,rfl⟩]
       have:lnOf (List.map val ([x]++b::B')) (List.map val ([x]++b::B')).length=(b::B').map val:=by
        unfold lnOf
        rw [Nat.min_self,Nat.min_eq_left (by simp)]
        show ((b::B').map val).take _=_
        exact List.take_of_length_le (by simp)
       rw [List.length_map,List.length_append] at this
       rw [this];rfl
     | _::_::_,_=>rw [if_neg (by simp)];rfl
    ·rw [hT2] at e2 ⊢
     rw [hT2,List.length_cons] at hlen2
     by_cases hp:w2="put"
     ·subst hp
      rw [m_onput]
      obtain ⟨C,T4,e3,hC,hT4⟩:=span_num T3
      rw [e3,mach_nums hC]
      have hlen3:=congrArg List.length e3
      rw [List.length_append] at hlen3
      have eR:R=(A++("on":Str)::B)++("put":Str)::T3:=by rw [e,e2];simp
      have nAB:("put":Str)∉A++("on":Str)::B:=by
       intro q
       rcases List.mem_append.mp q with q | q
       ·exact nA q
       ·rcases List.mem_cons.mp q with q | q
        ·exact put_on q
        ·exact nB q
      rcases hT4 with hT4 | ⟨w4,T5,hT4,hw4⟩
      ·rw [hT4] at e3 ⊢
       rw [List.append_nil] at e3
       show Good (some (A.map val++B.map val++C.map val,[("on",(A.map val).length),("put",(A.map val++B.map val).length)])) R
       refine .yes ?_
       have hns:A.map val++B.map val++C.map val=(A++B++C).map val:=by rw [List.map_append,List.map_append]
       rw [hns,List.length_append,List.length_map,List.length_map,form3 (by rw [List.length_map,List.length_append,List.length_append];omega) (by omega) (by rw [List.length_map,List.length_append,List.length_append];omega)]
       unfold askS
       rw [eR,e3,ahead_at nAB,ahead_at oA,beh_some oA hB,beh_some nAB hC]
       have hd:((A++B++C).map val).drop (A.length + B.length)=C.map val:=by
        rw [← hns]
        exact List.drop_left' (by simp)
       rw [hd,List.length_map,List.length_append,List.length_append]
       match A,hA with
       | [],_=>rfl
       | [x],hA=>
        have hx:num x=true:=by simpa using hA
        cases B with
        | nil=>rfl
        | cons b B'=>
         rw [if_neg (show ¬ (b::B'=[]) by simp)]
         cases C with
         | nil=>rw [if_neg (by simp),if_pos rfl];rfl
         | cons c C'=>
          rw [if_neg (show ¬ (c::C'=[]) by simp)]
          show _=some ((if num x=true∧((c::C').map val).length % 3=0 then some (askD x ((b::B').map val) ((c::C').map val)) else none).getD D.non)
          rw [List.length_map]
          by_cases h3:(c::C').length % 3=0
          ·rw [if_pos ⟨rfl,by simp,by simp,h3⟩,if_pos ⟨hx,h3⟩]
           have:lnOf (List.map val ([x]++b::B'++c::C')) ([x].length + (b::B').length)=(b::B').map val:=by
            unfold lnOf
            rw [Nat.min_eq_left (by simp;omega),Nat.min_eq_left (by simp)]
            show ((b::B'++c::C').map val).take _=_
            rw [List.map_append]
            exact List.take_left' (by simp)
           rw [this];rfl
          ·rw [if_neg (fun z=>h3 z.2.2.2),if_neg (fun z=>h3 z.2)];rfl
       | _::_::_,_=>rw [if_neg (by simp)];rfl
      ·rw [hT4] at e3 ⊢
       rw [m_both hw4]
       refine .no (askS_beh (.inl ?_))
       rw [eR,e3]
       exact beh_none nAB hw4
     ·have hno:mach "ask" (w2::T3) (A.map val++B.map val) [("on",(A.map val).length)]=none:=by
       cases ho2:onp w2 with
       | false=>exact m_bad hw2 ho2
       | true=>
        rcases onp_cases ho2 with rfl | rfl
        ·exact m_onon
        ·exact absurd rfl hp
      rw [hno]
      refine .no (askS_beh (.inr ?_))
      have:ahead "put" R=A++("on":Str)::(B++w2::ahead "put" T3):=by
       rw [e,ahead_app nA on_put,e2,ahead_app nB hp]
      rw [this]
      exact beh_none oA hw2
   ·
    rw [m_put]
    obtain ⟨C,T2,e2,hC,hT2⟩:=span_num T'
    rw [e2,mach_nums hC]
    have hlen2:=congrArg List.length e2
    rw [List.length_append] at hlen2
    rcases hT2 with hT2 | ⟨w2,T3,hT2,hw2⟩
    ·rw [hT2] at e2 ⊢
     rw [List.append_nil] at e2
     show Good (some (A.map val++C.map val,[("put",(A.map val).length)])) R
     refine .yes ?_
     rw [← List.map_append,List.length_map,form2 (by rw [List.length_map,List.length_append];omega) (by rw [List.length_map,List.length_append];omega)]
     have hd:((A++C).map val).drop A.length=C.map val:=by
      rw [List.map_append]
      exact List.drop_left' (by simp)
     unfold askS
     rw [hd,List.length_map,List.length_append,List.length_map,e,e2,ahead_at nA,ahead_no oA,beh_no oA,beh_some nA hC]
     match A,hA with
     | [],_=>rfl
     | [x],hA=>
      have hx:num x=true:=by simpa using hA
      cases C with
      | nil=>rfl
      | cons c C'=>
       rw [if_neg (show ¬ (c::C'=[]) by simp)]
       show _=some ((if num x=true∧((c::C').map val).length % 3=0 then some (askD x [] ((c::C').map val)) else none).getD D.non)
       rw [List.length_map]
       by_cases h3:(c::C').length % 3=0
       ·rw [if_pos ⟨rfl,by simp,h3⟩,if_pos ⟨hx,h3⟩];rfl
       ·rw [if_neg (fun z=>h3 z.2.2),if_neg (fun z=>h3 z.2)];rfl
     | _::_::_,_=>rw [if_neg (by simp)];rfl
    ·rw [hT2] at e2 ⊢
     rw [hT2,List.length_cons] at hlen2
     have hS:askS R=none:=askS_beh (.inl (by rw [e,e2];exact beh_none nA hw2))
     cases ho2:onp w2 with
     | false=>rw [m_bad hw2 ho2];exact .no hS
     | true=>
      rcases onp_cases ho2 with rfl | rfl
      ·rw [m_puton]
       cases hm:mach "ask" T3 (A.map val++C.map val) [("put",(A.map val).length),("on",(A.map val++C.map val).length)] with
       | none=>exact .no hS
       | some p=>
        obtain ⟨ns',ms'⟩:=p
        obtain ⟨rfl,h1,h2⟩:=keep2 hm
        refine .yes ?_
        rw [hS]
        rw [List.length_append,List.length_map,List.length_map] at h1 h2
        exact form4 (by omega) (by rw [List.length_map];omega)
      ·rw [m_putput];exact .no hS
theorem mach_no {h:Str} (ha:h≠"ask"):∀ {R:List Str}{ns:List Int},mach h R ns []=if R.all num=true then some (ns++R.map val,[]) else none
 | [],ns=>by show some (ns,([]:List Mk))=some (ns++[],[]);rw [List.append_nil]
 | w::R,ns=>by
  unfold mach
  rw [List.all_cons]
  have hf:(h == ("ask":Str))=false:=by simpa using ha
  cases hn:num w with
  | false=>rw [if_neg Bool.false_ne_true,hf];rfl
  | true=>
   rw [if_pos rfl,mach_no ha (R:=R),Bool.true_and,List.append_assoc];rfl
theorem kIx2 {ρ:Rho}{g:AF}{x y:D}{fb:EF}{b:Bool}{t:Tag} (h:(g ρ).map (List.map (·.1))=some [x,y]) (him:immAll [x,y]=true) (hb:fb ρ=some (.bl b,t)):eIxO (eLstI g) (e1 oIntB fb) ρ=some (if b=true then y else x,.own):=by
 have e:eLstI g ρ=some (.lst [x,y],.own):=by
  unfold eLstI
  cases hg:g ρ with
  | none=>rw [hg] at h;cases h
  | some ps=>
   rw [hg] at h
   have hp:ps.map (·.1)=[x,y]:=Option.some.inj h
   rw [Option.bind_some,hp,if_pos him]
 have e2:e1 oIntB fb ρ=some (.int (if b then 1 else 0),.own):=k1e hb rfl
 unfold eIxO
 rw [e,e2]
 cases b <;> rfl
def tailL:SF:=(sSeq (sIf (tOr2 (tV (e2 oEq (eVar 2) (eC (.str "stop")))) (tV (e2 oEq (eVar 2) (eC (.str "go"))))) (sRet (eIxO (eLstI (aCons (eTup (aCons (eVar 2) aNil)) (aCons (eC .non) aNil))) (e1 oIntB (e2 oGt (e1 oLen (eVar 1)) (eC (.int 1)))))) sNx) (sSeq (sIf (tV (e2 oEq (eVar 2) (eC (.str "withdraw")))) (sRet (eIxO (eLstI (aCons (eC .non) (aCons (eTup (aCons (eC (.str "withdraw")) (aCons (e2 oIx (e2 oCat (eVar 3) (eLstI (aCons (eC (.int 0)) aNil))) (eC (.int 0))) aNil))) aNil))) (e1 oIntB (e2 oEq (e1 oLen (eVar 1)) (eC (.int 2)))))) sNx) (sSeq (sIf (tV (e2 (oInS false) (eVar 2) (eTup (aCons (eC (.str "yes")) (aCons (eC (.str "no")) (aCons (eC (.str "unsure")) aNil)))))) (sRet (eIxO (eLstI (aCons (eC .non) (aCons (eTup (aCons (eC (.str "answer")) (aCons (e1 oTuple (eVar 3)) (aCons (eVar 2) aNil)))) aNil))) (e1 oIntB (e2 oNeP (eVar 3) (eLstI aNil))))) sNx) (sSeq (sIf (tV (e2 oNe (eVar 2) (eC (.str "ask")))) (sRet (eC .non)) sNx) (sRet (eCall F_L_asks (aCons (eVar 3) (aCons (eVar 4) aNil))))))))
theorem sg_eq (h:Str):sg h=(h == "stop"||h == "go"):=by
 unfold sg
 simp only [List.any_cons,List.any_nil,Bool.or_false]
 rw [show ("stop" == h)=(h == "stop") from Bool.beq_comm,show ("go" == h)=(h == "go") from Bool.beq_comm]
theorem len_S {W:List Str}:oLen (sL W)=some (.int W.length):=by unfold sL;rw [s_lenL,List.length_map]
theorem ret_imm {f:EF}{ρ:Rho}{d:D}{t:Tag} (h:f ρ=some (d,t)) (hi:imm d=true):sRet f ρ=some (.rt d):=by
 rw [s_ret,h]
 show (if isOwn t=true then some (Out.rt d) else if imm d=true then some (Out.rt d) else none)=_
 rw [if_pos hi]
 split <;> rfl
theorem ret_own {f:EF}{ρ:Rho}{d:D} (h:f ρ=some (d,.own)):sRet f ρ=some (.rt d):=by rw [s_ret,h];rfl
theorem sg_yn {h:Str} (hs:sg h=true):yn h=false∧(h == ("withdraw":Str))=false:=by
 rw [sg_eq] at hs
 rcases (Bool.or_eq_true _ _).mp hs with e | e <;> rw [beq_iff_eq.mp e] <;> decide +kernel
theorem tl_no {t h:Str}{R:List Str}{s5:Slot} (ha:h≠"ask") (hR:R.all num=true) (hl:R.length≤300):tailL (rL t h (h::R) (R.map val) [] s5)=some (.rt ((rowS h R).getD .non)):=by
 generalize hρ:rL t h (h::R) (R.map val) [] s5=ρ
 have v1:eVar 1 ρ=some (sL (h::R),.sh [1]):=by rw [← hρ];rfl
 have v2:eVar 2 ρ=some (.str h,.sh [2]):=by rw [← hρ];rfl
 have v3:eVar 3 ρ=some (iL (R.map val),.sh [3]):=by rw [← hρ];rfl
 have hle:e1 oLen (eVar 1) ρ=some (.int ((R.length + 1:Nat):Int),.own):=k1e v1 len_S
 have c1:tOr2 (tV (e2 oEq (eVar 2) (eC (.str "stop")))) (tV (e2 oEq (eVar 2) (eC (.str "go")))) ρ=some (sg h):=by
  rw [sg_eq]
  exact s_or2 (kTV (k2e v2 rfl rfl)) (kTV (k2e v2 rfl rfl))
 have c2:tV (e2 oEq (eVar 2) (eC (.str "withdraw"))) ρ=some (h == "withdraw"):=kTV (k2e v2 rfl rfl)
 have c3:tV (e2 (oInS false) (eVar 2) (eTup (aCons (eC (.str "yes")) (aCons (eC (.str "no")) (aCons (eC (.str "unsure")) aNil))))) ρ=some (yn h):=kTV (k2e (d2:=.tup ((["yes","no","unsure"]:List Str).map D.str)) v2 rfl strs_any)
 have c4:tV (e2 oNe (eVar 2) (eC (.str "ask"))) ρ=some true:=by
  rw [kTV (k2e (d:=.bl (!(h == "ask"))) v2 rfl rfl),show (h == ("ask":Str))=false by simpa using ha];rfl
 unfold rowS tailL
 rw [if_neg ha,if_pos hR]
 cases hs:sg h with
 | true=>
  rw [hs] at c1
  rw [s_seq,s_if,c1,s_ifT,(sg_yn hs).1,(sg_yn hs).2]
  have hg:e2 oGt (e1 oLen (eVar 1)) (eC (.int 1)) ρ=some (.bl (decide (((R.length + 1:Nat):Int) > 1)),.own):=k2e hle rfl rfl
  have:=ret_imm (kIx2 (x:=.tup [.str h]) (y:=.non) (show (aCons (eTup (aCons (eVar 2) aNil)) (aCons (eC .non) aNil) ρ).map (List.map (·.1))=_ by rw [s_aCons,s_tup,s_aCons,v2];rfl) rfl hg) (by split <;> rfl)
  rw [this,s_seqR]
  cases R with
  | nil=>rfl
  | cons r R'=>
   rw [if_pos (decide_eq_true (by simp;omega))];rfl
 | false=>
  rw [hs] at c1
  rw [s_seq,s_if,c1,s_ifF,s_nx,s_seqN,s_seq,s_if,c2]
  cases hw:(h == ("withdraw":Str)) with
  | true=>
   have hy:yn h=false:=by rw [beq_iff_eq.mp hw];decide +kernel
   rw [s_ifT,hy]
   have hg:e2 oEq (e1 oLen (eVar 1)) (eC (.int 2)) ρ=some (.bl (((R.length + 1:Nat):Int) == 2),.own):=k2e hle rfl rfl
   have hc:e2 oIx (e2 oCat (eVar 3) (eLstI (aCons (eC (.int 0)) aNil))) (eC (.int 0)) ρ=some (.int ((R.map val).getD 0 0),.own):=by
    refine k2e (d1:=iL (R.map val++[0])) (k2e v3 (d2:=.lst [.int 0]) rfl ?_) rfl ?_
    ·show (if (immAll ((R.map val).map D.int)&&immAll [D.int 0]&&decide (((R.map val).map D.int).length + 1≤sizeLine))=true then some (D.lst ((R.map val).map D.int++[D.int 0])) else none)=_
     rw [if_pos (by rw [imm_ints,List.length_map,List.length_map,decide_eq_true (Nat.le_of_lt (size_le (by omega)))];rfl)]
     unfold iL;rw [List.map_append];rfl
    ·rw [ix_g (by omega) (by simp)]
     cases R <;> rfl
   have:=ret_imm (kIx2 (x:=.non) (y:=.tup [.str "withdraw",.int ((R.map val).getD 0 0)]) (show (aCons (eC .non) (aCons (eTup (aCons (eC (.str "withdraw")) (aCons (e2 oIx (e2 oCat (eVar 3) (eLstI (aCons (eC (.int 0)) aNil))) (eC (.int 0))) aNil))) aNil) ρ).map (List.map (·.1))=_ by rw [s_aCons,s_aCons,s_tup,s_aCons,s_aCons,hc];rfl) rfl hg) (by split <;> rfl)
   rw [this,s_seqR]
   by_cases q:R.length=1
   ·rw [if_pos (by rw [q];rfl),decide_eq_true q];rfl
   ·rw [if_neg (by rw [beq_iff_eq];omega),decide_eq_false q];rfl
  | false=>
   rw [s_ifF,s_nx,s_seqN,s_seq,s_if,c3]
   cases hy:yn h with
   | true=>
    rw [s_ifT]
    have hg:e2 oNeP (eVar 3) (eLstI aNil) ρ=some (.bl (!(R.map val).isEmpty),.own):=k2e v3 (d2:=.lst []) rfl ne_nil
    have ht:e1 oTuple (eVar 3) ρ=some (iT (R.map val),.own):=k1e v3 (by show (if immAll ((R.map val).map D.int)=true then some (D.tup ((R.map val).map D.int)) else none)=_;rw [if_pos (imm_ints _)];rfl)
    have him:imm (.tup [.str "answer",iT (R.map val),.str h])=true:=by
     show immAll [.str "answer",.tup ((R.map val).map D.int),.str h]=true
     unfold immAll;unfold immAll;unfold immAll;unfold immAll
     show (true&&(immAll ((R.map val).map D.int)&&(true&&true)))=true
     rw [imm_ints];rfl
    have him2:immAll [.non,.tup [.str "answer",iT (R.map val),.str h]]=true:=by
     unfold immAll;unfold immAll;unfold immAll;rw [him];rfl
    have:=ret_imm (kIx2 (x:=.non) (y:=.tup [.str "answer",iT (R.map val),.str h]) (show (aCons (eC .non) (aCons (eTup (aCons (eC (.str "answer")) (aCons (e1 oTuple (eVar 3)) (aCons (eVar 2) aNil)))) aNil) ρ).map (List.map (·.1))=_ by rw [s_aCons,s_aCons,s_tup,s_aCons,s_aCons,s_aCons,ht,v2];rfl) him2 hg) (by split;exact him;rfl)
    rw [this,s_seqR,List.isEmpty_map]
    cases R with
    | nil=>rfl
    | cons r R'=>rfl
   | false=>
    rw [s_ifF,s_nx,s_seqN,s_seq,s_if,c4,s_ifT]
    rfl
theorem f_read {t h:Str}{R:List Str} (s:SOk t h R):F_L_read [.str t]=some ((rowS h R).getD .non):=by
 refine runF_rt rfl ?_
 show B_L_read [some (.str t,.sh []),none,none,none,none,none]=_
 have q1:sSet 1 (e2 oSplit (eVar 0) (eC (.str " "))) [some (.str t,.sh []),none,none,none,none,none]=some (.nx [some (.str t,.sh []),some (sL (h::R),.own),none,none,none,none]):=by
  rw [s_set,k2e (d1:=.str t) (t1:=.sh []) rfl rfl (sp_ok s)];rfl
 have q2:sSet 2 (e2 oIx (eVar 1) (eC (.int 0))) [some (.str t,.sh []),some (sL (h::R),.own),none,none,none,none]=some (.nx [some (.str t,.sh []),some (sL (h::R),.own),some (.str h,.own),none,none,none]):=by
  rw [s_set,k2e (d1:=sL (h::R)) (t1:=.sh [1]) rfl rfl hd_at];rfl
 have q3:sSet 3 (eLstI aNil) [some (.str t,.sh []),some (sL (h::R),.own),some (.str h,.own),none,none,none]=some (.nx [some (.str t,.sh []),some (sL (h::R),.own),some (.str h,.own),some (iL [],.own),none,none]):=rfl
 have q4:sSet 4 (eLstI aNil) [some (.str t,.sh []),some (sL (h::R),.own),some (.str h,.own),some (iL [],.own),none,none]=some (.nx (rL t h (h::R) [] [] none)):=rfl
 have hit:iSeqF (e1 (oCut (some 1) none) (eVar 1)) (rL t h (h::R) [] [] none)=some (R.map D.str,.own):=by
  unfold iSeqF
  rw [k1e (d:=sL (h::R)) (t:=.sh [1]) rfl tl_at];rfl
 have hlp:=lp_L (t:=t) (h:=h) (W0:=h::R) (W:=R) (ns:=[]) (ms:=[]) (s5:=none) s.w.tl (by simp;have:=s.n;omega) (by simp;have:=s.n;omega)
 have go:∀ {Z:Option Out},sSeq (sFor (iSeqF (e1 (oCut (some 1) none) (eVar 1))) (gN 5) bL) tailL (rL t h (h::R) [] [] none)=Z→B_L_read [some (.str t,.sh []),none,none,none,none,none]=Z:=fun hz=>by
  show sSeq _ (sSeq _ (sSeq _ (sSeq _ (sSeq (sFor (iSeqF (e1 (oCut (some 1) none) (eVar 1))) (gN 5) bL) tailL)))) _=_
  exact sq q1 (sq q2 (sq q3 (sq q4 hz)))
 refine go ?_
 by_cases ha:h="ask"
 ·have gd:=ask_eq (R:=R) s.n
  rw [← ha] at gd
  have hr:rowS h R=askS R:=by unfold rowS;rw [if_pos ha]
  rw [hr]
  cases hm:mach h R [] [] with
  | none=>
   rw [s_seq,for_rt0 hit (hlp.2 hm),gd.1 hm];rfl
  | some p=>
   obtain ⟨ns,ms⟩:=p
   obtain ⟨t5,hf⟩:=hlp.1 ns ms hm
   refine sq (for_nx0 hit hf) ?_
   generalize hρ:rL t h (h::R) ns ms t5=ρ
   have v2:eVar 2 ρ=some (.str h,.sh [2]):=by rw [← hρ];rfl
   have c1:tOr2 (tV (e2 oEq (eVar 2) (eC (.str "stop")))) (tV (e2 oEq (eVar 2) (eC (.str "go")))) ρ=some false:=by
    rw [s_or2 (kTV (k2e (d:=.bl (h == "stop")) v2 rfl rfl)) (kTV (k2e (d:=.bl (h == "go")) v2 rfl rfl)),ha];decide +kernel
   have c2:tV (e2 oEq (eVar 2) (eC (.str "withdraw"))) ρ=some false:=by
    rw [kTV (k2e (d:=.bl (h == "withdraw")) v2 rfl rfl),ha];decide +kernel
   have c3:tV (e2 (oInS false) (eVar 2) (eTup (aCons (eC (.str "yes")) (aCons (eC (.str "no")) (aCons (eC (.str "unsure")) aNil))))) ρ=some false:=by
    rw [kTV (k2e (d2:=.tup ((["yes","no","unsure"]:List Str).map D.str)) v2 rfl strs_any),ha];decide +kernel
   have c4:tV (e2 oNe (eVar 2) (eC (.str "ask"))) ρ=some false:=by
    rw [kTV (k2e (d:=.bl (!(h == "ask"))) v2 rfl rfl),ha];decide +kernel
   unfold tailL
   refine sq_no c1 (sq_no c2 (sq_no c3 (sq_no c4 ?_)))
   have hc:eCall F_L_asks (aCons (eVar 3) (aCons (eVar 4) aNil)) ρ=some ((askS R).getD .non,.own):=kcall (ps:=[(iL ns,.sh [3]),(mL ms,.sh [4])]) (by rw [← hρ];rfl) (gd.2 ns ms hm)
   exact ret_own hc
 ·have hm:=mach_no ha (R:=R) (ns:=[])
  cases hR:R.all num with
  | false=>
   rw [hR,if_neg Bool.false_ne_true] at hm
   rw [s_seq,for_rt0 hit (hlp.2 hm)]
   have:rowS h R=none:=by unfold rowS;rw [if_neg ha,hR];rfl
   rw [this];rfl
  | true=>
   rw [hR,if_pos rfl] at hm
   obtain ⟨t5,hf⟩:=hlp.1 _ _ hm
   exact sq (for_nx0 hit hf) (tl_no ha hR s.n)
def RT (P:D→Prop) (o:Option Out):Prop:=∃ d,o=some (.rt d)∧P d
section
variable {P:D→Prop}{ρ ρ':Rho}{f:EF}{tf:TF}{sf sg:SF}{d:D}{t:Tag}{i:Nat}{b:Bool}
theorem rt_set (h:f ρ=some (d,t)) (e:setS ρ i d t=ρ') (h2:RT P (sg ρ')):RT P (sSeq (sSet i f) sg ρ):=by
 obtain ⟨x,e1,p⟩:=h2
 subst e
 exact ⟨x,sq_set h e1,p⟩
theorem rt_seq (h:RT P (sf ρ)):RT P (sSeq sf sg ρ):=by
 obtain ⟨x,e1,p⟩:=h
 exact ⟨x,by rw [s_seq,e1];rfl,p⟩
theorem rt_if (h:tf ρ=some b) (h1:b=true→RT P (sSeq sf sg ρ)) (h2:b=false→RT P (sg ρ)):RT P (sSeq (sIf tf sf sNx) sg ρ):=by
 cases b with
 | true=>
  obtain ⟨x,e1,p⟩:=h1 rfl
  exact ⟨x,sq_if h e1,p⟩
 | false=>
  obtain ⟨x,e1,p⟩:=h2 rfl
  exact ⟨x,sq_no h e1,p⟩
theorem rt_own (h:f ρ=some (d,.own)) (p:P d):RT P (sRet f ρ):=⟨d,ret_own h,p⟩
theorem rt_run {n N:Nat}{B:SF}{ds:List D} (hl:ds.length=n) (h:RT P (B (iniF N ds))):∃ d,runF n N B ds=some d∧P d:=by
 obtain ⟨x,e1,p⟩:=h
 exact ⟨x,runF_rt hl e1,p⟩
end
theorem asc_iff {w:Str}:Asc w↔∀ c∈w.cps.toList,c < 128:=by
 show w.cps.all (· < 128)=true↔_
 rw [← Array.all_toList,List.all_eq_true]
 simp
theorem asc_app {x y:Str} (hx:Asc x) (hy:Asc y):Asc (x++y):=by
 rw [asc_iff] at hx hy ⊢
 intro c hc
 rw [Str.cps_append] at hc
 rcases (show c∈x.cps∨c∈y.cps by simpa using hc) with m | m
 ·exact hx c (by simpa using m)
 ·exact hy c (by simpa using m)
def Wo (w:Str):Prop:=Asc w∧w.length≤13
theorem wo_tS {v:Int} (h:Nm v):Wo (tS v):=⟨asc_iff.mpr fun c m=>by have:=tS_dig h.1 c m;omega,by have:=tS_len h;omega⟩
theorem wo_dec {w:Str} (h:(w.cps.all (· < 128)&&decide (w.length≤13))=true):Wo w:=⟨((Bool.and_eq_true _ _).mp h).1,of_decide_eq_true ((Bool.and_eq_true _ _).mp h).2⟩
theorem wo_all {W:List Str} (h:W.all (fun w=>w.cps.all (· < 128)&&decide (w.length≤13))=true):∀ w∈W,Wo w:=fun w m=>wo_dec (List.all_eq_true.mp h w m)
theorem ix_S {W:List Str}{v:Int} (h0:0≤v) (h1:v < W.length):∃ w∈W,oIx (sL W) (.int v)=some (.str w):=by
 refine ⟨W[v.toNat]'(by omega),List.getElem_mem _,s_ixL ?_ rfl⟩
 unfold atI ixN
 rw [List.length_map,if_pos (by omega),if_pos (by omega),Option.bind_some,List.getElem?_map,List.getElem?_eq_getElem (by omega)];rfl
theorem str_tS {v:Int} (h:Nm v):oStr (.int v)=some (.str (tS v)):=by
 show (if v.natAbs < 2 ^ 64 then some (D.str (toString v)) else none)=_
 rw [if_pos (by obtain ⟨a,b⟩:=h;omega)];rfl
theorem f_W {ns:List Int}{k:Int} (h0:0≤k):∃ d,F_L_number [dI ns,.int k]=some d∧∃ w,d=.str w∧Wo w:=by
 obtain ⟨c,hc⟩:=f_cell (ns:=ns) (k:=6 + k) (by omega)
 obtain ⟨v,hv,v0,v1⟩:=f_mixed (n:=c) (p:=10007) (m:=4) (by omega) (by omega)
 refine rt_run rfl ?_
 refine rt_set (ρ':=[some (dI ns,.sh []),some (.int k,.sh []),some (.int c,.own),none]) (kcall (ps:=[(dI ns,.sh []),(.int (6 + k),.own)]) rfl hc) rfl ?_
 refine rt_set (ρ':=[some (dI ns,.sh []),some (.int k,.sh []),some (.int c,.own),some (.int v,.own)]) (kcall (ps:=[(.int c,.sh [2]),(.int 10007,.own),(.int 4,.own)]) rfl hv) rfl ?_
 refine rt_if (b:=v == 0) rfl (fun _=>rt_seq ?_) (fun _=>rt_if (b:=v == 1) rfl (fun _=>rt_seq ?_) (fun _=>?_))
 ·have hm:Nm (c % 1000000000000):=⟨Int.emod_nonneg _ (by omega),Int.emod_lt_of_pos _ (by omega)⟩
  have hp:e2 oPow (eC (.int 10)) (eC (.int 12)) [some (dI ns,.sh []),some (.int k,.sh []),some (.int c,.own),some (.int v,.own)]=some (.int 1000000000000,.own):=by kernel_rfl
  exact rt_own (k1e (k2e (d1:=.int c) (t1:=.sh [2]) rfl hp (s_oMod (by omega))) (str_tS hm)) ⟨_,rfl,wo_tS hm⟩
 ·obtain ⟨u,hu,u0,u1⟩:=f_mixed (n:=c) (p:=20011) (m:=4) (by omega) (by omega)
  obtain ⟨w,mw,hw⟩:=ix_S (W:=["0","10","100000000000","999999999999"]) u0 u1
  exact rt_own (k2e (d1:=sL ["0","10","100000000000","999999999999"]) rfl (kcall (ps:=[(.int c,.sh [2]),(.int 20011,.own),(.int 4,.own)]) rfl hu) hw) ⟨_,rfl,wo_all (by decide +kernel) w mw⟩
 ·obtain ⟨u,hu,u0,u1⟩:=f_mixed (n:=c) (p:=131071) (m:=1000) (by omega) (by omega)
  have hm:Nm u:=⟨u0,by omega⟩
  exact rt_own (k1e (kcall (ps:=[(.int c,.sh [2]),(.int 131071,.own),(.int 1000,.own)]) rfl hu) (str_tS hm)) ⟨_,rfl,wo_tS hm⟩
def wrd (ns:List Int) (k:Int):Str:=match F_L_number [dI ns,.int k] with
 | some (.str w)=>w
 | _=>bl
theorem f_wrd {ns:List Int}{k:Int} (h0:0≤k):F_L_number [dI ns,.int k]=some (.str (wrd ns k))∧Wo (wrd ns k):=by
 obtain ⟨d,e,w,rfl,hw⟩:=f_W (ns:=ns) h0
 unfold wrd
 rw [e]
 exact ⟨rfl,hw⟩
def wrds (ns:List Int) (k:Int) (n:Nat):List Str:=(rng 0 n).map fun i=>wrd ns (k + i)
theorem wrds_ok {ns:List Int}{k:Int}{n:Nat} (h:0≤k):(wrds ns k n).length=n∧∀ w∈wrds ns k n,Wo w:=by
 unfold wrds
 refine ⟨by rw [List.length_map,rng_len],fun w m=>?_⟩
 obtain ⟨x,mx,rfl⟩:=List.mem_map.mp m
 have:=mem_rng.mp mx
 exact (f_wrd (by omega)).2
theorem c_wrds {ns:List Int}{ρ:Rho}{it te:EF}{k:Int}{n:Nat}{t:Tag} (hk:0≤k) (hn:n≤1000) (hi:it ρ=some (.int n,t)) (hρ:iniR [none,some 0] ρ=[none,some (dI ns,.sh [])])
  (ht:∀ x:Int,aCons (eVar 1) (aCons te aNil) [some (.int x,.sh []),some (dI ns,.sh [])]=some [(dI ns,.sh []),(.int (k + x),.own)]∨aCons (eVar 1) (aCons te aNil) [some (.int x,.sh []),some (dI ns,.sh [])]=some [(dI ns,.sh []),(.int (k + x),.sh [])]):eComp [none,some 0] (iR1 it) (gN 0) tTrue (eCall F_L_number (aCons (eVar 1) (aCons te aNil))) ρ=some (sL (wrds ns k n),.own):=by
 have:=c_map (js:=[none,some 0]) (g:=gN 0) (te:=eCall F_L_number (aCons (eVar 1) (aCons te aNil))) (i:=D.int) (f:=fun x=>D.str (wrd ns (k + x))) (ir1' hi hn) (by rw [rng_len];omega) (fun x mx=>by
  rw [hρ]
  have:=mem_rng.mp mx
  refine compE_own (ρ1:=[some (.int x,.sh []),some (dI ns,.sh [])]) rfl rfl ?_
  rcases ht x with h | h <;> exact kcall h (f_wrd (by omega)).1)
 rw [this]
 unfold sL wrds
 rw [List.map_map];rfl
def WP (a b:Nat) (d:D):Prop:=∃ W,d=sL W∧a≤W.length∧W.length≤b∧∀ w∈W,Wo w
theorem rt_ifset {P:D→Prop}{ρ ρ':Rho}{f:EF}{tf:TF}{sg:SF}{d:D}{t:Tag}{i:Nat}{b:Bool} (h:tf ρ=some b) (hf:b=true→f ρ=some (d,t)) (e:(if b=true then setS ρ i d t else ρ)=ρ') (h2:RT P (sg ρ')):RT P (sSeq (sIf tf (sSet i f) sNx) sg ρ):=
 rt_if h (fun q=>by rw [if_pos q] at e;exact rt_set (hf q) e h2) (fun q=>by rw [if_neg (by rw [q];exact Bool.false_ne_true)] at e;rw [e];exact h2)
theorem cat_S {A B:List Str} (h:A.length + B.length≤1000):oCat (sL A) (sL B)=some (sL (A++B)):=by
 show (if (immAll (A.map D.str)&&immAll (B.map D.str)&&decide ((A.map D.str).length + (B.map D.str).length≤sizeLine))=true then some (D.lst (A.map D.str++B.map D.str)) else none)=_
 rw [if_pos (by rw [imm_strs,imm_strs,List.length_map,List.length_map,decide_eq_true (Nat.le_of_lt (size_le (by omega)))];rfl)]
 unfold sL
 rw [List.map_append]
theorem lst1 {ρ:Rho}{fa:EF}{x:Str}{t1:Tag} (h1:fa ρ=some (.str x,t1)):eLstI (aCons fa aNil) ρ=some (sL [x],.own):=by unfold eLstI;rw [s_aCons,h1];rfl
theorem lst2 {ρ:Rho}{fa fb:EF}{x y:Str}{t1 t2:Tag} (h1:fa ρ=some (.str x,t1)) (h2:fb ρ=some (.str y,t2)):eLstI (aCons fa (aCons fb aNil)) ρ=some (sL [x,y],.own):=by unfold eLstI;rw [s_aCons,s_aCons,h1,h2];rfl
theorem pys_strs:∀ r:List Str,pys (r.map D.str)=r.map PyData.str
 | []=>rfl
 | i::r=>by rw [List.map_cons,List.map_cons];unfold pys;rw [pys_strs r];unfold py;rfl
theorem okPys_strs:∀ r:List Str,okPys (r.map D.str)=true
 | []=>rfl
 | i::r=>by rw [List.map_cons];unfold okPys;rw [okPys_strs r];rfl
theorem asc_ok {w:Str} (h:Asc w):PyData.strOk w=true:=by
 rw [asc_iff] at h
 unfold PyData.strOk
 rw [← Array.all_toList,List.all_eq_true]
 intro c m
 have:=h c m
 exact decide_eq_true (by omega)
theorem canAll_strs:∀ r:List Str,(∀ w∈r,Asc w)→PyData.canLayAll0 (r.map PyData.str)=true
 | [],_=>rfl
 | i::r,h=>by rw [List.map_cons];simp only [PyData.canLayAll0,PyData.canLay0,canAll_strs r (fun w m=>h w (List.mem_cons_of_mem _ m)),asc_ok (h i List.mem_cons_self),Bool.and_self]
theorem depthAll_strs:∀ r:List Str,PyData.depthAll (r.map PyData.str)=0
 | []=>rfl
 | i::r=>by rw [List.map_cons];simp only [PyData.depthAll,PyData.depth,depthAll_strs r];rfl
theorem lay_sL (l:List Str) (h:∀ w∈l,Asc w):layOk (sL l)=true:=by
 have e:py (sL l)=.list (l.map PyData.str):=by unfold sL;unfold py;rw [pys_strs]
 unfold layOk
 rw [e]
 have a1:okPy (sL l)=true:=by unfold sL;unfold okPy;exact okPys_strs l
 have a2:(PyData.list (l.map PyData.str)).canLay0=true:=by simp only [PyData.canLay0];exact canAll_strs l h
 have a3:(PyData.list (l.map PyData.str)).depth≤40:=by simp only [PyData.depth,depthAll_strs];omega
 rw [a1,a2,decide_eq_true a3];rfl
theorem ne_nilS {l:List Str} (h:∀ w∈l,Wo w):oNeP (sL l) (.lst [])=some (.bl (!l.isEmpty)):=by
 cases l with
 | nil=>exact s_nePR (lay_sL [] (fun _ m=>by cases m))
 | cons d r=>
  unfold oNeP
  rw [lay_sL _ (fun w m=>(h w m).1),show layOk (.lst [])=true from lay_sL [] (fun _ m=>by cases m),Bool.and_self,if_pos rfl]
  unfold sL
  rw [List.map_cons,py,py,pys,pys]
  simp [PyData.eqv,PyData.eqvAll]
def rW (ns:List Int) (c v:Int) (s3 s4 s5 s6:Slot):Rho:=[some (dI ns,.sh []),some (.int c,.own),some (.int v,.own),s3,s4,s5,s6]
theorem app_wo {A B:List Str} (hA:∀ w∈A,Wo w) (hB:∀ w∈B,Wo w):∀ w∈A++B,Wo w:=fun w m=>(List.mem_append.mp m).elim (hA w) (hB w)
abbrev lAsk (n:Str):List Str:=["ask",n]
abbrev lOn:List Str:=["on"]
abbrev lPut:List Str:=["put"]
theorem f_words {ns:List Int}:∃ d,F_L_words [dI ns]=some d∧WP 1 16 d:=by
 obtain ⟨c,hc⟩:=f_cell (ns:=ns) (k:=0) (by omega)
 obtain ⟨v,hv,v0,v1⟩:=f_mixed (n:=c) (p:=10007) (m:=7) (by omega) (by omega)
 have mx:∀ (p m:Int),0 < p→0 < m→∃ u:Nat,(u:Int) < m∧F_L_mixed [.int c,.int p,.int m]=some (.int u):=fun p m h1 h2=>by
  obtain ⟨u,hu,u0,u1⟩:=f_mixed (n:=c) (p:=p) (m:=m) h1 h2
  exact ⟨u.toNat,by omega,by rw [hu,Int.toNat_of_nonneg u0]⟩
 have n0:=f_wrd (ns:=ns) (k:=0) (Int.le_refl 0)
 have c0:∀ s3 s4 s5 s6,eCall F_L_number (aCons (eVar 0) (aCons (eC (.int 0)) aNil)) (rW ns c v s3 s4 s5 s6)=some (.str (wrd ns 0),.own):=fun _ _ _ _=>kcall (ps:=[(dI ns,.sh []),(.int 0,.own)]) rfl n0.1
 refine rt_run rfl ?_
 refine rt_set (ρ':=[some (dI ns,.sh []),some (.int c,.own),none,none,none,none,none]) (kcall (ps:=[(dI ns,.sh []),(.int 0,.own)]) rfl hc) rfl ?_
 refine rt_set (ρ':=rW ns c v none none none none) (kcall (ps:=[(.int c,.sh [1]),(.int 10007,.own),(.int 7,.own)]) rfl hv) rfl ?_
 refine rt_if (b:=decide (v < 3)) rfl (fun _=>rt_seq ?_) (fun _=>rt_if (b:=v == 3) rfl (fun _=>rt_seq ?_) (fun _=>rt_if (b:=v == 4) rfl (fun _=>rt_seq ?_) (fun _=>?_)))
 ·obtain ⟨a,ha,ea⟩:=mx 20011 4 (by omega) (by omega)
  obtain ⟨b,hb,eb⟩:=mx 30011 4 (by omega) (by omega)
  obtain ⟨la,wa⟩:=wrds_ok (ns:=ns) (k:=1) (n:=a) (by omega)
  obtain ⟨lb,wb⟩:=wrds_ok (ns:=ns) (k:=4) (n:=3 * b) (by omega)
  generalize hA:wrds ns 1 a=A at la wa
  generalize hB:wrds ns 4 (3 * b)=B at lb wb
  refine rt_set (d:=sL A) (t:=.own) (ρ':=rW ns c v (some (sL A,.own)) none none none) (by
   rw [← hA]
   exact c_wrds (by omega) (by omega) (kcall (ps:=[(.int c,.sh [1]),(.int 20011,.own),(.int 4,.own)]) rfl ea) rfl (fun x=>.inl rfl)) rfl ?_
  refine rt_set (d:=sL B) (t:=.own) (ρ':=rW ns c v (some (sL A,.own)) (some (sL B,.own)) none none) (by
   rw [← hB]
   refine c_wrds (by omega) (by omega) (k2e (d1:=.int 3) (d:=.int ((3 * b:Nat):Int)) rfl (kcall (ps:=[(.int c,.sh [1]),(.int 30011,.own),(.int 4,.own)]) rfl eb) ?_) rfl (fun x=>.inl rfl)
   rw [s_oMul (cmul_r (by omega))]
   congr 2) rfl ?_
  refine rt_set (ρ':=rW ns c v (some (sL A,.own)) (some (sL B,.own)) (some (sL (lAsk (wrd ns 0)),.own)) none) (lst2 (t1:=.own) rfl (c0 _ _ _ _)) rfl ?_
  have w0:∀ w∈lAsk (wrd ns 0),Wo w:=fun w m=>by
   rcases List.mem_cons.mp m with rfl | m
   ·exact wo_dec (by decide +kernel)
   ·rw [List.mem_singleton.mp m];exact n0.2
  have won:∀ w∈lOn,Wo w:=wo_all (by decide +kernel)
  have wput:∀ w∈lPut,Wo w:=wo_all (by decide +kernel)
  obtain ⟨W,hW,W1,W2,W3⟩:∃ W,(if (!A.isEmpty)=true then lAsk (wrd ns 0)++lOn++A else lAsk (wrd ns 0))=W∧1≤W.length∧W.length≤6∧∀ w∈W,Wo w:=by
   refine ⟨_,rfl,?_⟩
   split
   ·exact ⟨by simp,by simp;omega,app_wo (app_wo w0 won) wa⟩
   ·exact ⟨by simp,by simp,w0⟩
  refine rt_ifset (ρ':=rW ns c v (some (sL A,.own)) (some (sL B,.own)) (some (sL W,.own)) none) (b:=!A.isEmpty) (d:=sL (lAsk (wrd ns 0)++lOn++A)) (t:=.own) (kTV (k2e (d1:=sL A) (d2:=.lst []) (t1:=.sh [3]) rfl rfl (ne_nilS wa))) (fun _=>k2e (d1:=sL (lAsk (wrd ns 0)++lOn)) (d2:=sL A) (t2:=.sh [3]) (k2e (d1:=sL (lAsk (wrd ns 0))) (d2:=sL lOn) (t1:=.sh [5]) rfl rfl (cat_S (by simp))) rfl (cat_S (by simp;omega))) (by
   rw [← hW]
   cases A.isEmpty <;> rfl) ?_
  obtain ⟨V,hV,V1,V2,V3⟩:∃ V,(if (!B.isEmpty)=true then W++lPut++B else W)=V∧1≤V.length∧V.length≤16∧∀ w∈V,Wo w:=by
   refine ⟨_,rfl,?_⟩
   split
   ·exact ⟨by simp;omega,by simp;omega,app_wo (app_wo W3 wput) wb⟩
   ·exact ⟨W1,by omega,W3⟩
  refine rt_ifset (ρ':=rW ns c v (some (sL A,.own)) (some (sL B,.own)) (some (sL V,.own)) none) (b:=!B.isEmpty) (d:=sL (W++lPut++B)) (t:=.own) (kTV (k2e (d1:=sL B) (d2:=.lst []) (t1:=.sh [4]) rfl rfl (ne_nilS wb))) (fun _=>k2e (d1:=sL (W++lPut)) (d2:=sL B) (t2:=.sh [4]) (k2e (d1:=sL W) (d2:=sL lPut) (t1:=.sh [5]) rfl rfl (cat_S (by simp;omega))) rfl (cat_S (by simp;omega))) (by
   rw [← hV]
   cases B.isEmpty <;> rfl) ?_
  exact ⟨sL V,rfl,V,rfl,V1,V2,V3⟩
 ·refine rt_own (lst2 (t1:=.own) rfl (c0 _ _ _ _)) ⟨_,rfl,by simp,by simp,fun w m=>?_⟩
  rcases List.mem_cons.mp m with rfl | m
  ·exact wo_dec (by decide +kernel)
  ·rw [List.mem_singleton.mp m];exact n0.2
 ·obtain ⟨a,ha,ea⟩:=mx 20011 2 (by omega) (by omega)
  obtain ⟨w,mw,hw⟩:=ix_S (W:=["stop","go"]) (v:=a) (by omega) ha
  refine rt_own (lst1 (k2e (d1:=sL ["stop","go"]) rfl (kcall (ps:=[(.int c,.sh [1]),(.int 20011,.own),(.int 2,.own)]) rfl ea) hw)) ⟨_,rfl,by simp,by simp,fun x m=>?_⟩
  rw [List.mem_singleton.mp m]
  exact wo_all (by decide +kernel) w mw
 ·obtain ⟨a,ha,ea⟩:=mx 20011 3 (by omega) (by omega)
  obtain ⟨b,hb,eb⟩:=mx 30011 4 (by omega) (by omega)
  obtain ⟨lb,wb⟩:=wrds_ok (ns:=ns) (k:=0) (n:=1 + b) (by omega)
  generalize hB:wrds ns 0 (1 + b)=B at lb wb
  refine rt_set (d:=sL B) (t:=.own) (ρ':=rW ns c v none none none (some (sL B,.own))) (by
   rw [← hB]
   refine c_wrds (by omega) (by omega) (k2e (d1:=.int 1) (d:=.int ((1 + b:Nat):Int)) rfl (kcall (ps:=[(.int c,.sh [1]),(.int 30011,.own),(.int 4,.own)]) rfl eb) ?_) rfl (fun x=>.inr (by rw [Int.zero_add];rfl))
   show some (D.int (1 + (b:Int)))=_
   congr 2) rfl ?_
  obtain ⟨w,mw,hw⟩:=ix_S (W:=["yes","no","unsure"]) (v:=a) (by omega) ha
  refine rt_own (k2e (d1:=sL [w]) (d2:=sL B) (t2:=.sh [6]) (lst1 (k2e (d1:=sL ["yes","no","unsure"]) rfl (kcall (ps:=[(.int c,.sh [1]),(.int 20011,.own),(.int 3,.own)]) rfl ea) hw)) rfl (cat_S (by simp;omega))) ⟨_,rfl,by simp,by simp;omega,app_wo (fun x m=>?_) wb⟩
  rw [List.mem_singleton.mp m]
  exact wo_all (by decide +kernel) w mw
def TP (n:Nat) (d:D):Prop:=∃ t:Str,d=.str t∧Asc t∧t.length≤n
abbrev od1:List Str:=[""," ","line","laid","waiting","wanted","sheet","book","back","why 1","ask","yes","no","unsure"]
abbrev od2:List Str:=["withdraw","stop 1","go go","ask 1 on","ask 1 put","ask 1 put 1 2 3 on 4","ask 1 on 2 on 3"]
abbrev od3:List Str:=["ask 1 put 1 2 3 put 4 5 6","Stop","1","ask 1 2","withdraw 1 2"]
theorem tp_all {n:Nat}{W:List Str} (h:W.all (fun w=>w.cps.all (· < 128)&&decide (w.length≤n))=true):∀ w∈W,TP n (.str w):=fun w m=>⟨w,rfl,((Bool.and_eq_true _ _).mp (List.all_eq_true.mp h w m)).1,of_decide_eq_true ((Bool.and_eq_true _ _).mp (List.all_eq_true.mp h w m)).2⟩
theorem f_odd {v:Int}:∃ d,F_L_odd [.int v]=some d∧TP 290 d:=by
 refine rt_run rfl ?_
 refine rt_set (ρ':=[some (.int v,.sh []),some (sL od1,.own)]) (d:=sL od1) (t:=.own) rfl rfl ?_
 refine rt_set (ρ':=[some (.int v,.sh []),some (sL (od1++od2),.own)]) (k2e (d1:=sL od1) (d2:=sL od2) (t1:=.sh [1]) rfl rfl (cat_S (by decide))) rfl ?_
 refine rt_set (ρ':=[some (.int v,.sh []),some (sL (od1++od2++od3),.own)]) (k2e (d1:=sL (od1++od2)) (d2:=sL od3) (t1:=.sh [1]) rfl rfl (cat_S (by decide))) rfl ?_
 obtain ⟨w,mw,hw⟩:=ix_S (W:=od1++od2++od3) (v:=v % 26) (Int.emod_nonneg _ (by omega)) (Int.emod_lt_of_pos _ (by decide))
 exact rt_own (k2e (d1:=sL (od1++od2++od3)) (t1:=.sh [1]) rfl (k2e (d1:=.int v) (d2:=.int 26) (t1:=.sh []) rfl rfl (s_oMod (by omega))) hw) (tp_all (by decide +kernel) w mw)
theorem s_cat {x y:Str} (h:x.length + y.length≤10000):oCatS (.str x) (.str y)=some (.str (x++y)):=by
 show (if x.length + y.length≤sizeLine then some (D.str (x++y)) else none)=_
 rw [if_pos (Nat.le_of_lt (size_le h))]
theorem s_lenS {x:Str} (h:x.length≤10000):oLenS (.str x)=some (.int x.length):=by
 show (if x.length≤sizeLine then some (D.int x.length) else none)=_
 rw [if_pos (Nat.le_of_lt (size_le h))]
theorem ix_T {x:Str}{v:Int} (hl:x.length≤10000) (ha:Asc x) (h0:0≤v) (h1:v < x.length):∃ c,oIxS (.str x) (.int v)=some (.str c)∧Asc c∧c.length=1:=by
 have hx:v.toNat < x.cps.toList.length:=by rw [len_list];omega
 refine ⟨⟨#[x.cps.toList[v.toNat]]⟩,?_,asc_iff.mpr (fun c m=>?_),rfl⟩
 ·show (if x.length≤sizeLine then (atI x.cps.toList v).map (fun c=>D.str ⟨#[c]⟩) else none)=_
  rw [if_pos (Nat.le_of_lt (size_le hl))]
  unfold atI ixN
  rw [len_list,if_pos (by omega),if_pos (by omega),Option.bind_some,List.getElem?_eq_getElem hx];rfl
 ·have:c=x.cps.toList[v.toNat]:=by simpa using m
  rw [this]
  exact asc_iff.mp ha _ (List.getElem_mem hx)
abbrev sg1:Str:=" 0123456789 on put ask yes no unsure withdraw stop go"
abbrev sg2:Str:=" !\"#$&'()*+,-./0123456789:;<=>?@ABCDEFGHIJKLMNOPQRSTUVWXYZ[\\]^_`abcdefghijklmnopqrstuvwxyz{|}~"
theorem f_sign {v:Int}{t:Str} (ha:Asc t) (hl:t.length≤1000):∃ d,F_L_sign [.int v,.str t]=some d∧TP 1 d:=by
 have l1:sg1.length=53:=by decide +kernel
 have l2:sg2.length=94:=by decide +kernel
 obtain ⟨u,hu,u0,u1⟩:=f_mixed (n:=v) (p:=10007) (m:=3) (by omega) (by omega)
 refine rt_run rfl ?_
 refine rt_set (ρ':=[some (.int v,.sh []),some (.str t,.sh []),some (.str (sg1++t),.own)]) (k2e (d1:=.str sg1) (d2:=.str t) (t2:=.sh []) rfl rfl (s_cat (by omega))) rfl ?_
 obtain ⟨x,hx,xa,x0,xl⟩:∃ x,(if (u == 0)=true then sg2 else sg1++t)=x∧Asc x∧0 < x.length∧x.length≤10000:=by
  refine ⟨_,rfl,?_⟩
  split
  ·exact ⟨by decide +kernel,by omega,by omega⟩
  ·exact ⟨asc_app (by decide +kernel) ha,by rw [Str.length_append];omega,by rw [Str.length_append];omega⟩
 refine rt_ifset (b:=u == 0) (d:=.str sg2) (t:=.own) (ρ':=[some (.int v,.sh []),some (.str t,.sh []),some (.str x,.own)]) (kTV (k2e (d1:=.int u) (d2:=.int 0) (kcall (ps:=[(.int v,.sh []),(.int 10007,.own),(.int 3,.own)]) rfl hu) rfl rfl)) (fun _=>rfl) (by
  rw [← hx]
  cases (u == 0) <;> rfl) ?_
 obtain ⟨k,hk,k0,k1⟩:=mxd (ρ:=[some (.int v,.sh []),some (.str t,.sh []),some (.str x,.own)]) (fn:=eVar 0) (fp:=eC (.int 20011)) (fm:=e1 oLenS (eVar 2)) (n:=v) (p:=20011) (m:=x.length) (t1:=.sh []) rfl rfl (k1e (d:=.str x) (t:=.sh [2]) rfl (s_lenS xl)) (by omega) (by omega)
 obtain ⟨c,hc,ca,cl⟩:=ix_T xl xa k0 k1
 exact rt_own (k2e (d1:=.str x) (t1:=.sh [2]) rfl hk hc) ⟨c,rfl,ca,by omega⟩
theorem cut_len (z:Str) (lo hi:Option Int):(cutS z lo hi).length≤(Builtin.Str.strSliceIndices lo hi 1 z.length).length:=by
 unfold cutS
 split
 ·rename_i h
  rw [beq_iff_eq.mp h];exact Nat.le_refl _
 ·show (((Builtin.Str.strSliceIndices lo hi 1 z.length).filterMap (z.cps[·]?)).toArray).size≤_
  rw [List.size_toArray]
  exact List.length_filterMap_le _ _
theorem cut_asc {z:Str}{lo hi:Option Int} (h:Asc z):Asc (cutS z lo hi):=by
 unfold cutS
 split
 ·exact h
 ·rw [asc_iff] at h ⊢
  intro c m
  have m:c∈(Builtin.Str.strSliceIndices lo hi 1 z.length).filterMap (z.cps[·]?):=by simpa using m
  obtain ⟨i,_,e⟩:=List.mem_filterMap.mp m
  refine h c ?_
  have:=Array.mem_of_getElem? e
  simpa using this
theorem hd_len {z:Str}{k:Int} (h0:0≤k) (h1:k≤z.length):(cutS z none (some k)).length≤k.toNat:=by
 refine Nat.le_trans (cut_len _ _ _) ?_
 obtain ⟨n,rfl⟩:=Int.eq_ofNat_of_zero_le h0
 rw [StrLaws.sliceIdx_none_lo]
 have:=StrLaws.strSliceIndices_plain (a:=0) (b:=n) (len:=z.length) (Nat.zero_le _) (by omega)
 have e:Builtin.Str.strSliceIndices (some 0) (some (n:Int)) 1 z.length=_:=this
 rw [e,List.length_map,List.length_range]
 omega
theorem tl_len {z:Str}{k:Int} (h0:0≤k):(cutS z (some k) none).length≤z.length - k.toNat:=by
 refine Nat.le_trans (cut_len _ _ _) ?_
 obtain ⟨n,rfl⟩:=Int.eq_ofNat_of_zero_le h0
 rw [StrLaws.sliceIdx_none_hi]
 by_cases h:n≤z.length
 ·rw [StrLaws.strSliceIndices_plain h (Nat.le_refl _),List.length_map,List.length_range]
  omega
 ·have:Builtin.Str.strSliceIndices (some (n:Int)) (some (z.length:Int)) 1 z.length=Builtin.Str.strSliceIndices (some (z.length:Int)) (some (z.length:Int)) 1 z.length:=by
   unfold Builtin.Str.strSliceIndices
   have e1:¬ ((n:Int) < 0):=by omega
   have e2:¬ ((z.length:Int) < 0):=by omega
   simp only [e1,e2,if_false]
   congr 1
   simp
   omega
  rw [this,StrLaws.strSliceIndices_plain (Nat.le_refl _) (Nat.le_refl _),List.length_map,List.length_range]
  omega
theorem e_hd {ρ:Rho}{fa fh:EF}{z:Str}{k:Int}{t1 t2:Tag} (ha:fa ρ=some (.str z,t1)) (hh:fh ρ=some (.int k,t2)) (h0:0≤k) (h1:k≤z.length) (hl:z.length≤1000):eHdS fa fh ρ=some (.str (cutS z none (some k)),.own):=by
 unfold eHdS
 rw [ha,hh]
 dsimp only
 rw [if_pos (by have:=hd_len h0 h1;exact Nat.le_of_lt (size_le (by omega)))]
theorem e_tl {ρ:Rho}{fa fh:EF}{z:Str}{k:Int}{t1 t2:Tag} (ha:fa ρ=some (.str z,t1)) (hh:fh ρ=some (.int k,t2)) (h0:0≤k) (hl:z.length≤1000):eTlS fa fh ρ=some (.str (cutS z (some k) none),.own):=by
 unfold eTlS
 rw [ha,hh]
 dsimp only
 rw [if_pos (by have:=tl_len (z:=z) h0;exact Nat.le_of_lt (size_le (by omega)))]
theorem f_bent {t:Str}{a b:Int} (ha:Asc t) (hl:t.length≤900):∃ d,F_L_bent [.str t,.int a,.int b]=some d∧TP (t.length + 1) d:=by
 obtain ⟨k,hk,k0,k1⟩:=mxd (ρ:=[some (.str t,.sh []),some (.int a,.sh []),some (.int b,.sh []),none,none,none]) (fn:=eVar 1) (fp:=eC (.int 30011)) (fm:=e2 oAdd (e1 oLenS (eVar 0)) (eC (.int 1))) (n:=a) (p:=30011) (m:=t.length + 1) (t1:=.sh []) rfl rfl (k2e (d2:=.int 1) (k1e (d:=.str t) (t:=.sh []) rfl (s_lenS (by omega))) rfl rfl) (by omega) (by omega)
 obtain ⟨_,hs,s,rfl,sa,sl⟩:=f_sign (v:=b) ha (by omega)
 obtain ⟨w,hw,w0,w1⟩:=f_mixed (n:=b) (p:=40009) (m:=3) (by omega) (by omega)
 refine rt_run rfl ?_
 refine rt_set (ρ':=[some (.str t,.sh []),some (.int a,.sh []),some (.int b,.sh []),some (.int k,.own),none,none]) hk rfl ?_
 refine rt_set (ρ':=[some (.str t,.sh []),some (.int a,.sh []),some (.int b,.sh []),some (.int k,.own),some (.str s,.own),none]) (kcall (ps:=[(.int b,.sh []),(.str t,.sh [])]) rfl hs) rfl ?_
 refine rt_set (ρ':=[some (.str t,.sh []),some (.int a,.sh []),some (.int b,.sh []),some (.int k,.own),some (.str s,.own),some (.int w,.own)]) (kcall (ps:=[(.int b,.sh []),(.int 40009,.own),(.int 3,.own)]) rfl hw) rfl ?_
 generalize hρ:([some (.str t,.sh []),some (.int a,.sh []),some (.int b,.sh []),some (.int k,.own),some (.str s,.own),some (.int w,.own)]:Rho)=ρ
 have v0:eVar 0 ρ=some (.str t,.sh []):=by rw [← hρ];rfl
 have v3:eVar 3 ρ=some (.int k,.sh [3]):=by rw [← hρ];rfl
 have v4:eVar 4 ρ=some (.str s,.sh [4]):=by rw [← hρ];rfl
 have v5:eVar 5 ρ=some (.int w,.sh [5]):=by rw [← hρ];rfl
 have v31:e2 oAdd (eVar 3) (eC (.int 1)) ρ=some (.int (k + 1),.own):=k2e v3 rfl rfl
 have H:=e_hd v0 v3 k0 (by omega) (by omega)
 have T:=e_tl v0 v3 k0 (by omega)
 have T1:=e_tl v0 v31 (by omega) (by omega)
 have lH:=hd_len (z:=t) k0 (by omega)
 have lT:=tl_len (z:=t) k0
 have lT1:=tl_len (z:=t) (k:=k + 1) (by omega)
 have aH:Asc (cutS t none (some k)):=cut_asc ha
 have aT:Asc (cutS t (some k) none):=cut_asc ha
 have aT1:Asc (cutS t (some (k + 1)) none):=cut_asc ha
 generalize cutS t none (some k)=xH at *
 generalize cutS t (some k) none=xT at *
 generalize cutS t (some (k + 1)) none=xT1 at *
 refine rt_if (b:=w == 0) (kTV (k2e v5 rfl rfl)) (fun _=>rt_seq ?_) (fun _=>rt_if (b:=w == 1) (kTV (k2e v5 rfl rfl)) (fun _=>rt_seq ?_) (fun _=>?_))
 ·exact rt_own (k2e (k2e H v4 (s_cat (by omega))) T (s_cat (by rw [Str.length_append];omega))) ⟨_,rfl,asc_app (asc_app aH sa) aT,by rw [Str.length_append,Str.length_append];omega⟩
 ·exact rt_own (k2e H T1 (s_cat (by omega))) ⟨_,rfl,asc_app aH aT1,by rw [Str.length_append];omega⟩
 ·exact rt_own (k2e (k2e H v4 (s_cat (by omega))) T1 (s_cat (by rw [Str.length_append];omega))) ⟨_,rfl,asc_app (asc_app aH sa) aT1,by rw [Str.length_append,Str.length_append];omega⟩
theorem cut_h {W:List Str}{k:Nat}:cutD (W.map D.str) none (some (k:Int))=(W.take (min k W.length)).map D.str:=by
 unfold cutD
 rw [HT.sIx_nat,HT.sIx_none,List.drop_zero,List.length_map,Nat.sub_zero,List.map_take]
theorem cut_t {W:List Str}{k:Nat}:cutD (W.map D.str) (some (k:Int)) none=(W.drop (min k W.length)).map D.str:=by
 unfold cutD
 rw [HT.sIx_nat,HT.sIx_none,List.take_of_length_le (by rw [List.length_drop];exact Nat.le_refl _),List.length_map,List.map_drop]
theorem cut_m {W:List Str}{k j:Nat}:cutD (W.map D.str) (some (k:Int)) (some (j:Int))=((W.drop (min k W.length)).take (min j W.length - min k W.length)).map D.str:=by
 unfold cutD
 rw [HT.sIx_nat,HT.sIx_nat,List.length_map,List.map_take,List.map_drop]
theorem take_wo {W:List Str}{n:Nat} (h:∀ w∈W,Wo w):∀ w∈W.take n,Wo w:=fun w m=>h w (List.mem_of_mem_take m)
theorem drop_wo {W:List Str}{n:Nat} (h:∀ w∈W,Wo w):∀ w∈W.drop n,Wo w:=fun w m=>h w (List.mem_of_mem_drop m)
abbrev ot:List Str:=["on","put","0","7","ask","yes","stop","007","1234567890123"]
theorem f_turned {W:List Str}{a b:Int} (h1:1≤W.length) (h2:W.length≤16) (hW:∀ w∈W,Wo w):∃ d,F_L_turned [sL W,.int a,.int b]=some d∧WP 0 17 d:=by
 obtain ⟨k,hk,k0,k1⟩:=mxd (ρ:=[some (sL W,.sh []),some (.int a,.sh []),some (.int b,.sh []),none,none,none]) (fn:=eVar 1) (fp:=eC (.int 50021)) (fm:=e1 oLen (eVar 0)) (n:=a) (p:=50021) (m:=W.length) (t1:=.sh []) rfl rfl (k1e (d:=sL W) (t:=.sh []) rfl len_S) (by omega) (by omega)
 obtain ⟨n,rfl⟩:=Int.eq_ofNat_of_zero_le k0
 obtain ⟨w,hw,w0,w1⟩:=f_mixed (n:=b) (p:=50021) (m:=3) (by omega) (by omega)
 refine rt_run rfl ?_
 refine rt_set (ρ':=[some (sL W,.sh []),some (.int a,.sh []),some (.int b,.sh []),some (.int n,.own),none,none]) hk rfl ?_
 refine rt_set (ρ':=[some (sL W,.sh []),some (.int a,.sh []),some (.int b,.sh []),some (.int n,.own),some (.int w,.own),none]) (kcall (ps:=[(.int b,.sh []),(.int 50021,.own),(.int 3,.own)]) rfl hw) rfl ?_
 refine rt_set (ρ':=[some (sL W,.sh []),some (.int a,.sh []),some (.int b,.sh []),some (.int n,.own),some (.int w,.own),some (sL (ot++W),.own)]) (k2e (d1:=sL ot) (d2:=sL W) (t2:=.sh []) rfl rfl (cat_S (by simp;omega))) rfl ?_
 generalize hρ:([some (sL W,.sh []),some (.int a,.sh []),some (.int b,.sh []),some (.int n,.own),some (.int w,.own),some (sL (ot++W),.own)]:Rho)=ρ
 have v0:eVar 0 ρ=some (sL W,.sh []):=by rw [← hρ];rfl
 have v2:eVar 2 ρ=some (.int b,.sh []):=by rw [← hρ];rfl
 have v3:eVar 3 ρ=some (.int n,.sh [3]):=by rw [← hρ];rfl
 have v4:eVar 4 ρ=some (.int w,.sh [4]):=by rw [← hρ];rfl
 have v5:eVar 5 ρ=some (sL (ot++W),.sh [5]):=by rw [← hρ];rfl
 have v31:e2 oAdd (eVar 3) (eC (.int 1)) ρ=some (.int ((n + 1:Nat):Int),.own):=k2e v3 rfl rfl
 have H:eCutH (eVar 0) (eVar 3) ρ=some (sL (W.take (min n W.length)),.own):=by
  unfold eCutH
  rw [v0,v3]
  show (if immAll (W.map D.str)=true then some (D.lst (cutD (W.map D.str) none (some (n:Int))),Tag.own) else none)=_
  rw [if_pos (imm_strs _),cut_h];rfl
 have T:∀ {fh:EF}{j:Nat}{t:Tag},fh ρ=some (.int j,t)→eCutT (eVar 0) fh ρ=some (sL (W.drop (min j W.length)),.own):=fun {fh j t} hh=>by
  unfold eCutT
  rw [v0,hh]
  show (if immAll (W.map D.str)=true then some (D.lst (cutD (W.map D.str) (some (j:Int)) none),Tag.own) else none)=_
  rw [if_pos (imm_strs _),cut_t];rfl
 have M:eCutM (eVar 0) (eVar 3) (e2 oAdd (eVar 3) (eC (.int 1))) ρ=some (sL ((W.drop (min n W.length)).take (min (n + 1) W.length - min n W.length)),.own):=by
  unfold eCutM
  rw [v0,v3,v31]
  show (if immAll (W.map D.str)=true then some (D.lst (cutD (W.map D.str) (some (n:Int)) (some ((n + 1:Nat):Int))),Tag.own) else none)=_
  rw [if_pos (imm_strs _),cut_m];rfl
 refine rt_if (b:=w == 0) (kTV (k2e v4 rfl rfl)) (fun _=>rt_seq ?_) (fun _=>rt_if (b:=w == 1) (kTV (k2e v4 rfl rfl)) (fun _=>rt_seq ?_) (fun _=>?_))
 ·obtain ⟨u,hu,u0,u1⟩:=mxd (ρ:=ρ) (fn:=eVar 2) (fp:=eC (.int 60013)) (fm:=e1 oLen (eVar 5)) (p:=60013) (m:=(ot++W).length) v2 rfl (k1e v5 len_S) (by omega) (by simp;omega)
  obtain ⟨x,mx,hx⟩:=ix_S (W:=ot++W) u0 u1
  have xo:∀ y∈([x]:List Str),Wo y:=fun y m=>by
   rw [List.mem_singleton.mp m]
   exact app_wo (wo_all (by decide +kernel)) hW x mx
  exact rt_own (k2e (k2e H (lst1 (k2e v5 hu hx)) (cat_S (by simp;omega))) (T v3) (cat_S (by simp;omega))) ⟨_,rfl,Nat.zero_le _,by simp;omega,app_wo (app_wo (take_wo hW) xo) (drop_wo hW)⟩
 ·exact rt_own (k2e H (T v31) (cat_S (by simp;omega))) ⟨_,rfl,Nat.zero_le _,by simp;omega,app_wo (take_wo hW) (drop_wo hW)⟩
 ·exact rt_own (k2e (k2e H M (cat_S (by simp;omega))) (T v3) (cat_S (by simp;omega))) ⟨_,rfl,Nat.zero_le _,by simp;omega,app_wo (app_wo (take_wo hW) (take_wo (drop_wo hW))) (drop_wo hW)⟩
theorem bl_len:bl.length=1:=by kernel_rfl
theorem join_asc:∀ W:List Str,(∀ w∈W,Asc w)→Asc (Str.join bl W)
 | [],_=>by decide +kernel
 | [x],h=>h x List.mem_cons_self
 | x::y::r,h=>by
  have ih:=asc_iff.mp (join_asc (y::r) fun w m=>h w (List.mem_cons_of_mem _ m))
  have hx:=asc_iff.mp (h x List.mem_cons_self)
  refine asc_iff.mpr fun c m=>?_
  rw [join_two] at m
  rcases List.mem_append.mp m with m | m
  ·exact hx c m
  ·rcases List.mem_cons.mp m with rfl | m
   ·omega
   ·exact ih c m
theorem sum_wo:∀ W:List Str,(∀ w∈W,Wo w)→(W.map (·.length)).sum≤13 * W.length
 | [],_=>Nat.le_refl _
 | x::r,h=>by
  have:=sum_wo r fun w m=>h w (List.mem_cons_of_mem _ m)
  have:=(h x List.mem_cons_self).2
  rw [List.map_cons,List.sum_cons,List.length_cons]
  omega
theorem f_join {W:List Str} (h:∀ w∈W,Wo w) (hl:W.length≤17):oJoin (.str bl) (sL W)=some (.str (Str.join bl W))∧Asc (Str.join bl W)∧(Str.join bl W).length≤238:=by
 refine ⟨?_,join_asc W fun w m=>(h w m).1,?_⟩
 ·have hk:JoinOk bl W=true:=by
   unfold JoinOk
   have:=StrLaws.joinFits (sep:=bl) (texts:=W) (B:=13) (fun w m=>(h w m).2) (by rw [bl_len];omega)
   simpa using this
  show (match strsD (W.map D.str) with | some ts=>if JoinOk bl ts=true then some (D.str (Txt.join bl ts)) else none | none=>none)=_
  rw [strsD_strs]
  dsimp only
  rw [if_pos hk]
  show some (D.str (Builtin.Str.glued bl W))=_
  rw [StrLaws.glued_eq_join]
 ·have a:=StrLaws.join_length_le bl W
  have b:=sum_wo W h
  rw [bl_len] at a
  omega
theorem ar1 {ρ:Rho}{f:EF}{d:D}{t:Tag} (h:f ρ=some (d,t)):aCons f aNil ρ=some [(d,t)]:=by rw [s_aCons,h];rfl
theorem ar2 {ρ:Rho}{f:EF}{g:AF}{d:D}{t:Tag}{ps:List (D×Tag)} (h:f ρ=some (d,t)) (h2:g ρ=some ps):aCons f g ρ=some ((d,t)::ps):=by rw [s_aCons,h,h2];rfl
theorem f_line {ns:List Int}:∃ d,F_L_line [dI ns]=some d∧TP 290 d:=by
 obtain ⟨_,hW,W,rfl,W1,W2,W3⟩:=f_words (ns:=ns)
 obtain ⟨c1,e1c⟩:=f_cell (ns:=ns) (k:=1) (by omega)
 obtain ⟨c2,e2c⟩:=f_cell (ns:=ns) (k:=2) (by omega)
 obtain ⟨c3,e3c⟩:=f_cell (ns:=ns) (k:=3) (by omega)
 obtain ⟨c4,e4c⟩:=f_cell (ns:=ns) (k:=4) (by omega)
 obtain ⟨c5,e5c⟩:=f_cell (ns:=ns) (k:=5) (by omega)
 obtain ⟨v,hv,v0,v1⟩:=f_mixed (n:=c1) (p:=10007) (m:=8) (by omega) (by omega)
 have cl:∀ {k c:Int}{ρ:Rho},F_L_cell_at [dI ns,.int k]=some (.int c)→eVar 0 ρ=some (dI ns,.sh [])→eCall F_L_cell_at (aCons (eVar 0) (aCons (eC (.int k)) aNil)) ρ=some (.int c,.own):=fun h hρ=>kcall (ar2 hρ (ar1 (t:=.own) rfl)) h
 refine rt_run rfl ?_
 refine rt_set (ρ':=[some (dI ns,.sh []),some (sL W,.own),none,none]) (kcall (ps:=[(dI ns,.sh [])]) rfl hW) rfl ?_
 refine rt_set (ρ':=[some (dI ns,.sh []),some (sL W,.own),some (.int v,.own),none]) (kcall (ar2 (cl e1c rfl) (ar2 (t:=.own) rfl (ar1 (t:=.own) rfl))) hv) rfl ?_
 refine rt_if (b:=v == 0) rfl (fun _=>rt_seq ?_) (fun _=>rt_if (b:=decide (v < 3)) rfl (fun _=>rt_seq ?_) (fun _=>?_))
 ·obtain ⟨d,hd,p⟩:=f_odd (v:=c2)
  exact rt_own (kcall (ar1 (cl e2c rfl)) hd) p
 ·obtain ⟨_,hV,V,rfl,_,V2,V3⟩:=f_turned (a:=c2) (b:=c3) W1 W2 W3
  obtain ⟨j1,j2,j3⟩:=f_join V3 V2
  exact rt_own (k2e (d1:=.str bl) rfl (kcall (ar2 (d:=sL W) (t:=.sh [1]) rfl (ar2 (cl e2c rfl) (ar1 (cl e3c rfl)))) hV) j1) ⟨_,rfl,j2,by omega⟩
 ·obtain ⟨j1,j2,j3⟩:=f_join W3 (by omega)
  generalize Str.join bl W=t at j1 j2 j3
  refine rt_set (ρ':=[some (dI ns,.sh []),some (sL W,.own),some (.int v,.own),some (.str t,.own)]) (k2e (d1:=.str bl) (d2:=sL W) (t2:=.sh [1]) rfl rfl j1) rfl ?_
  refine rt_if (b:=v == 3) rfl (fun _=>rt_seq ⟨.str t,rfl,t,rfl,j2,by omega⟩) (fun _=>?_)
  obtain ⟨_,hb,x,rfl,xa,xl⟩:=f_bent (t:=t) (a:=c2) (b:=c3) j2 (by omega)
  refine rt_set (ρ':=[some (dI ns,.sh []),some (sL W,.own),some (.int v,.own),some (.str x,.own)]) (kcall (ar2 (d:=.str t) (t:=.sh [3]) rfl (ar2 (cl e2c rfl) (ar1 (cl e3c rfl)))) hb) rfl ?_
  obtain ⟨_,hb2,y,rfl,ya,yl⟩:=f_bent (t:=x) (a:=c4) (b:=c5) xa (by omega)
  refine rt_if (b:=decide (v > 5)) rfl (fun _=>?_) (fun _=>⟨.str x,rfl,x,rfl,xa,by omega⟩)
  exact rt_set (ρ':=[some (dI ns,.sh []),some (sL W,.own),some (.int v,.own),some (.str y,.own)]) (kcall (ar2 (d:=.str x) (t:=.sh [3]) rfl (ar2 (cl e4c rfl) (ar1 (cl e5c rfl)))) hb2) rfl ⟨.str y,rfl,y,rfl,ya,by omega⟩
theorem join_facts:∀ W:List Str,(∀ w∈W,∀ c∈w.cps.toList,c∈(Str.join bl W).cps.toList)∧(∀ w∈W,w.length≤(Str.join bl W).length)∧W.length≤(Str.join bl W).length + 1
 | []=>⟨fun _ m=>(by cases m),fun _ m=>(by cases m),Nat.zero_le _⟩
 | [x]=>⟨fun w m c mc=>by rw [List.mem_singleton.mp m] at mc;exact mc,fun w m=>by rw [List.mem_singleton.mp m];exact Nat.le_refl _,by simp⟩
 | x::y::r=>by
  obtain ⟨a,b,c⟩:=join_facts (y::r)
  have e:=join_two x y r
  have el:=congrArg List.length e
  rw [List.length_append,List.length_cons,len_list,len_list,len_list] at el
  refine ⟨fun w m ch mc=>?_,fun w m=>?_,by rw [List.length_cons];omega⟩
  ·rw [e]
   rcases List.mem_cons.mp m with rfl | m
   ·exact List.mem_append.mpr (.inl mc)
   ·exact List.mem_append.mpr (.inr (List.mem_cons_of_mem _ (a w m ch mc)))
  ·rcases List.mem_cons.mp m with rfl | m
   ·omega
   ·have:=b w m;omega
theorem sok {t:Str} (ha:Asc t) (hl:t.length≤290):∃ h R,SOk t h R:=by
 cases hs:Txt.split t bl with
 | nil=>exact absurd hs (split_ne t)
 | cons h R=>
  have hj:Str.join bl (h::R)=t:=by rw [← hs];exact StrLaws.join_split t bl
  obtain ⟨a,b,c⟩:=join_facts (h::R)
  rw [hj] at a b c
  rw [List.length_cons] at c
  exact ⟨h,R,hs,⟨fun w m=>asc_iff.mpr fun ch mc=>asc_iff.mp ha ch (a w m ch mc),fun w m=>by have:=b w m;omega,by rw [List.length_cons];omega⟩,by omega,by omega⟩
theorem pl_int {G:List D→Option D} (a:Int):runF 1 1 (BR_L_plain G) [.int a]=some (.bl true):=rfl
theorem pl_str {G:List D→Option D} (a:Str):runF 1 1 (BR_L_plain G) [.str a]=some (.bl true):=rfl
theorem pl_tup {G:List D→Option D}{ds:List D} (hl:ds.length≤1000) (h:∀ d∈ds,G [d]=some (.bl true)):runF 1 1 (BR_L_plain G) [.tup ds]=some (.bl true):=by
 refine runF_rt rfl ?_
 show BR_L_plain G [some (.tup ds,.sh [])]=_
 have c1:tV (e1 (oIsiB "tuple") (eVar 0)) [some (.tup ds,.sh [])]=some true:=rfl
 have hc:=c_map (js:=[none]) (g:=gN 0) (te:=eCall G (aCons (eVar 0) aNil)) (i:=id) (f:=fun _=>D.bl true) (ρ:=[some (.tup ds,.sh [])]) (it:=iSeqF (eVar 0)) (l:=ds) (t:=.sh []) (by rw [List.map_id];rfl) (by omega) (fun d m=>by
  refine compE_own (ρ1:=[some (d,.sh [])]) rfl rfl ?_
  have v0:eVar 0 [some (d,.sh [])]=some (d,.sh []):=rfl
  rw [s_call,s_aCons,v0,s_aNil,s_consK,s_bind]
  simp only [List.map_cons,List.map_nil]
  rw [h d m];rfl)
 unfold BR_L_plain
 rw [s_seq,s_if,c1,s_ifT,s_ret,s_e1,hc,s_k1]
 have hb:∀ l:List D,boolsD (l.map fun _=>D.bl true)=some (l.map fun _=>true):=fun l=>by
  induction l with
  | nil=>rfl
  | cons a r ih=>rw [List.map_cons,boolsD,ih];rfl
 have ha:∀ l:List D,(l.map fun _=>true).all id=true:=fun l=>by simp
 have:oAll (.lst (ds.map fun _=>D.bl true))=some (.bl true):=by
  show (boolsD (ds.map fun _=>D.bl true)).map _=_
  rw [hb,Option.map_some,ha]
 rw [this];rfl
theorem pl_ints {G:List D→Option D}{l:List Int} (hl:l.length≤1000):runF 1 1 (BR_L_plain (runF 1 1 (BR_L_plain G))) [iT l]=some (.bl true):=
 pl_tup (by rw [List.length_map];exact hl) fun d m=>by
  obtain ⟨v,_,rfl⟩:=List.mem_map.mp m
  exact pl_int v
inductive Row:D→Prop
 | ask {w:Str}{L c:List Int} (h1:L.length≤300) (h2:c.length≤300):Row (askD w L c)
 | an {l:List Int}{h:Str} (h1:l.length≤300) (h2:yn h=true):Row (.tup [.str "answer",iT l,.str h])
 | wd {v:Int}:Row (.tup [.str "withdraw",.int v])
 | sg {h:Str} (h1:sg h=true):Row (.tup [.str h])
theorem row_S {h:Str}{R:List Str}{d:D} (hl:R.length≤300) (e:rowS h R=some d):Row d:=by
 unfold rowS at e
 split at e
 ·unfold askS at e
  split at e
  ·split at e
   ·rename_i L c e1 e2
    split at e
    ·cases e
     have a:=beh_len e1
     have b:=beh_len e2
     have c:=(ahead_sub (m:="put") (W:=R)).2
     exact .ask (by omega) (by omega)
    ·cases e
   ·cases e
  ·cases e
 ·split at e
  ·split at e
   ·rename_i hy
    cases e
    exact .an (by rw [List.length_map];exact hl) ((Bool.and_eq_true _ _).mp hy).1
   ·split at e
    ·cases e;exact .wd
    ·split at e
     ·rename_i hs
      cases e
      exact .sg ((Bool.and_eq_true _ _).mp hs).1
     ·cases e
  ·cases e
def tr (c:List Int):List (List Int):=(List.range (c.length / 3)).map fun j=>(c.drop (3 * j)).take 3
theorem trip_eq (c:List Int):trip c=dRows (tr c):=by
 unfold trip dRows tr
 rw [List.map_map];rfl
theorem plain_row {d:D} (h:Row d):F_L_plain [d]=some (.bl true):=by
 show runF 1 1 (BR_L_plain (runF 1 1 (BR_L_plain (runF 1 1 (BR_L_plain (runF 1 1 (BR_L_plain fun _=>none))))))) [d]=_
 cases h with
 | @ask w L c h1 h2=>
  refine pl_tup (by simp) fun d m=>?_
  simp only [List.mem_cons,List.not_mem_nil,or_false] at m
  rcases m with rfl | rfl | rfl | rfl
  ·exact pl_str _
  ·exact pl_int _
  ·exact pl_ints (by omega)
  ·rw [trip_eq]
   unfold dRows tr
   refine pl_tup (by simp;omega) fun d m=>?_
   obtain ⟨p,mp,rfl⟩:=List.mem_map.mp m
   obtain ⟨q,_,rfl⟩:=List.mem_map.mp mp
   exact pl_ints (l:=(c.drop (3 * q)).take 3) (by rw [List.length_take];omega)
 | wd=>
  refine pl_tup (by simp) fun d m=>?_
  simp only [List.mem_cons,List.not_mem_nil,or_false] at m
  rcases m with rfl | rfl
  ·exact pl_str _
  ·exact pl_int _
 | an _ _=>
  refine pl_tup (by simp) fun d m=>?_
  simp only [List.mem_cons,List.not_mem_nil,or_false] at m
  rcases m with rfl | rfl | rfl
  ·exact pl_str _
  ·exact pl_ints (by omega)
  ·exact pl_str _
 | sg _=>
  refine pl_tup (by simp) fun d m=>?_
  rw [List.mem_singleton.mp m]
  exact pl_str _
theorem imm_row {d:D} (h:Row d):imm d=true:=by
 cases h with
 | @ask w L c h1 h2=>
  show immAll [.str "ask",.int (val w),.tup (L.map D.int),.tup (trip c)]=true
  unfold immAll;unfold immAll;unfold immAll;unfold immAll;unfold immAll
  show (true&&(true&&(immAll (L.map D.int)&&(immAll (trip c)&&true))))=true
  rw [imm_ints,imm_trip];rfl
 | wd=>rfl
 | @an l h h1 h2=>
  show immAll [.str "answer",.tup (l.map D.int),.str h]=true
  unfold immAll;unfold immAll;unfold immAll;unfold immAll
  show (true&&(immAll (l.map D.int)&&(true&&true)))=true
  rw [imm_ints];rfl
 | sg _=>rfl
theorem tup_row {d:D} (h:Row d):∃ ds,d=.tup ds:=by cases h <;> exact ⟨_,rfl⟩
theorem py_iT (l:List Int):py (iT l)=.tuple (l.map PyData.int):=by unfold iT;unfold py;rw [pys_ints]
theorem ok_iT (l:List Int):okPy (iT l)=true:=by unfold iT;unfold okPy;exact okPys_ints _
theorem py_eT (c:List Int):py (.tup (trip c))=.tuple ((tr c).map pRow):=by rw [trip_eq];unfold py;rw [pys_rows]
theorem ok_eT (c:List Int):okPy (.tup (trip c))=true:=by rw [trip_eq];unfold okPy;exact okPys_rows _
theorem any_of {L:List Str}{h:Str} (e:L.any (· == h)=true) (hL:L.all PyData.strOk=true):PyData.strOk h=true:=by
 obtain ⟨x,mx,ex⟩:=List.any_eq_true.mp e
 rw [← beq_iff_eq.mp ex]
 exact List.all_eq_true.mp hL x mx
theorem eq_row {d:D} (h:Row d):oEqP d d=some (.bl true):=by
 refine s_eqPR ?_
 cases h with
 | @ask w L c h1 h2=>
  obtain ⟨h1,h2⟩:=canAll_rows (tr c)
  have ep:py (askD w L c)=.tuple [.str "ask",.int (val w),.tuple (L.map PyData.int),.tuple ((tr c).map pRow)]:=by
   unfold askD;rw [py,pys,pys,pys,pys,pys,py_iT,py_eT];rfl
  have c1:okPy (askD w L c)=true:=by unfold askD;rw [okPy,okPys,okPys,okPys,okPys,okPys,ok_iT,ok_eT];rfl
  have so:PyData.strOk "ask"=true:=by decide +kernel
  unfold layOk
  rw [c1,ep]
  have c2:(PyData.tuple [.str "ask",.int (val w),.tuple (L.map PyData.int),.tuple ((tr c).map pRow)]).canLay0=true:=by
   simp only [PyData.canLay0,PyData.canLayAll0,canAll_ints,h1,so,Bool.and_self]
  have c3:(PyData.tuple [.str "ask",.int (val w),.tuple (L.map PyData.int),.tuple ((tr c).map pRow)]).depth≤40:=by
   simp only [PyData.depth,PyData.depthAll,depthAll_ints];omega
  rw [c2,decide_eq_true c3];rfl
 | wd=>
  unfold layOk
  have so:PyData.strOk "withdraw"=true:=by decide +kernel
  simp [okPy,okPys,py,pys,PyData.canLay0,PyData.canLayAll0,PyData.depth,PyData.depthAll,so]
 | @an look word _ hw=>
  have so:PyData.strOk "answer"=true:=by decide +kernel
  have sw:PyData.strOk word=true:=any_of hw (by decide +kernel)
  have ep:py (.tup [.str "answer",iT look,.str word])=.tuple [.str "answer",.tuple (look.map PyData.int),.str word]:=by
   rw [py,pys,pys,pys,pys,py_iT];rfl
  have c1:okPy (.tup [.str "answer",iT look,.str word])=true:=by rw [okPy,okPys,okPys,okPys,okPys,ok_iT];rfl
  unfold layOk
  rw [c1,ep]
  have c2:(PyData.tuple [.str "answer",.tuple (look.map PyData.int),.str word]).canLay0=true:=by
   simp only [PyData.canLay0,PyData.canLayAll0,canAll_ints,so,sw,Bool.and_self]
  have c3:(PyData.tuple [.str "answer",.tuple (look.map PyData.int),.str word]).depth≤40:=by
   simp only [PyData.depth,PyData.depthAll,depthAll_ints];omega
  rw [c2,decide_eq_true c3];rfl
 | @sg h hs=>
  have sw:PyData.strOk h=true:=any_of hs (by decide +kernel)
  unfold layOk
  simp [okPy,okPys,py,pys,PyData.canLay0,PyData.canLayAll0,PyData.depth,PyData.depthAll,sw]
theorem f_tried {t h:Str}{R:List Str} (s:SOk t h R):F_L_tried [.str t]=some (match rowS h R with | some d=>.tup [d,.bl false] | none=>.tup [.non,.bl true]):=by
 refine runF_rt rfl ?_
 show B_L_tried [some (.str t,.sh []),none,none,none]=_
 have q1:sSet 1 (eTup (aCons (eC .non) (aCons (eC (.bl false)) aNil))) [some (.str t,.sh []),none,none,none]=some (.nx [some (.str t,.sh []),some (.tup [.non,.bl false],.own),none,none]):=rfl
 have z:zCall F_read_rowR (zP (eVar 0) z0) [some (.str t,.sh []),some (.tup [.non,.bl false],.own),none,none]=some (rz (rowS h R)):=f_row s
 have z2:sSetE 1 (xl (zTup (zE (zCall F_read_rowR (zP (eVar 0) z0)) (zP (eC (.bl false)) z0)))) [some (.str t,.sh []),some (.tup [.non,.bl false],.own),none,none]=some (match rowS h R with | some d=>.nx [some (.str t,.sh []),some (.tup [d,.bl false],.own),none,none] | none=>.er false NX [some (.str t,.sh []),some (.tup [.non,.bl false],.own),none,none]):=by
  unfold sSetE xl zTup zE
  rw [z]
  cases hr:rowS h R with
  | none=>rfl
  | some d=>
   have hi:=imm_row (row_S s.n hr)
   show (match (match (if (immAll [d,.bl false]&&decide (2≤sizeLine))=true then some (Rz.ok (.tup [d,.bl false])) else none) with
    | some (.ok d)=>some (ER.ok d [some (.str t,.sh []),some (.tup [.non,.bl false],.own),none,none])
    | some (.er cn)=>some (ER.er cn [some (.str t,.sh []),some (.tup [.non,.bl false],.own),none,none])
    | none=>none) with
    | some (.ok d ρ')=>some (Out.nx (setS ρ' 1 d .own))
    | some (.er cn ρ')=>some (.er false cn ρ')
    | none=>none)=_
   rw [if_pos (by unfold immAll;rw [hi];rfl)];rfl
 unfold B_L_tried
 rw [s_seq,q1,s_seqN]
 cases hr:rowS h R with
 | some d=>
  rw [hr] at z2
  refine sq (ρ':=[some (.str t,.sh []),some (.tup [d,.bl false],.own),none,none]) ?_ rfl
  unfold sTryAs
  rw [z2]
 | none=>
  rw [hr] at z2
  refine sq (ρ':=[some (.str t,.sh []),some (.tup [.non,.bl true],.own),none,some (.bl false,.own)]) ?_ rfl
  unfold sTryAs
  rw [z2]
  kernel_rfl
theorem non_row {d:D} (h:Row d):isNon d=false:=by cases h <;> rfl
theorem f_law {ns:List Int} (hl:ns.length≤63):F_law [dI ns]=some (.bl true):=by
 obtain ⟨_,eL,t,rfl,ta,tl⟩:=f_line (ns:=ns)
 obtain ⟨h,R,s⟩:=sok ta tl
 have er:=f_read s
 have et:=f_tried s
 refine runF_rt rfl ?_
 show B_law [some (dI ns,.sh []),none,none,none,none]=_
 unfold B_law
 refine sq_set (kcall (ps:=[(dI ns,.sh [])]) rfl eL) ?_
 show sSeq _ _ [some (dI ns,.sh []),some (.str t,.own),none,none,none]=_
 refine sq_set (kcall (ps:=[(.str t,.sh [1])]) rfl er) ?_
 show sSeq _ _ [some (dI ns,.sh []),some (.str t,.own),some ((rowS h R).getD .non,.own),none,none]=_
 have ct:=kcall (ρ:=[some (dI ns,.sh []),some (.str t,.own),some ((rowS h R).getD .non,.own),none,none]) (g:=aCons (eVar 1) aNil) (ps:=[(.str t,.sh [1])]) rfl et
 cases hr:rowS h R with
 | none=>
  rw [hr] at ct
  refine sq (ρ':=[some (dI ns,.sh []),some (.str t,.own),some (.non,.own),some (.non,.own),some (.bl true,.own)]) ?_ ?_
  ·unfold sAsg
   rw [Option.getD_none] at ct ⊢
   rw [ct];rfl
  ·rfl
 | some d=>
  rw [hr] at ct
  have hd:=row_S s.n hr
  refine sq (ρ':=[some (dI ns,.sh []),some (.str t,.own),some (d,.own),some (d,.own),some (.bl false,.own)]) ?_ ?_
  ·unfold sAsg
   rw [Option.getD_some] at ct ⊢
   rw [ct]
   show Option.map Out.nx (if imm d=true then (some (setS [some (dI ns,.sh []),some (.str t,.own),some (d,.own),none,none] 3 d .own)).bind (fun ρ'=>gsCons (gN 4) gsNil [.bl false] ρ') else none)=_
   rw [if_pos (imm_row hd)];rfl
  ·obtain ⟨ds,ed⟩:=tup_row hd
   refine sq_no (kTV (k2e (d1:=d) (d2:=.non) (t1:=.sh [2]) rfl rfl (show oIsN d .non=some (.bl false) by show some (D.bl (isNon d))=_;rw [non_row hd]))) ?_
   generalize hρ:([some (dI ns,.sh []),some (.str t,.own),some (d,.own),some (d,.own),some (.bl false,.own)]:Rho)=ρ
   have v2:eVar 2 ρ=some (d,.sh [2]):=by rw [← hρ];rfl
   have v3:eVar 3 ρ=some (d,.sh [3]):=by rw [← hρ];rfl
   have a1:e1 oNot (eVar 4) ρ=some (.bl true,.own):=by rw [← hρ];rfl
   have a2:e1 (oIsiB "tuple") (eVar 3) ρ=some (.bl true,.own):=k1e v3 (by rw [ed];rfl)
   have a3:eCall F_L_plain (aCons (eVar 3) aNil) ρ=some (.bl true,.own):=kcall (ar1 v3) (plain_row hd)
   have a4:e2 oEqP (eVar 3) (eVar 2) ρ=some (.bl true,.own):=k2e v3 v2 (eq_row hd)
   rw [s_ret,s_eAnd,a1]
   show retK (eAnd (e1 (oIsiB "tuple") (eVar 3)) (eAnd (eCall F_L_plain (aCons (eVar 3) aNil)) (e2 oEqP (eVar 3) (eVar 2))) ρ)=_
   rw [s_eAnd,a2]
   show retK (eAnd (eCall F_L_plain (aCons (eVar 3) aNil)) (e2 oEqP (eVar 3) (eVar 2)) ρ)=_
   rw [s_eAnd,a3]
   show retK (e2 oEqP (eVar 3) (eVar 2) ρ)=_
   rw [a4];rfl
end K72
namespace HT
open PySem PySem.W PyProof.Rows
def oddL:List Obj→List Obj
 | []=>[]
 | [a]=>[a]
 | a::_::l=>a::oddL l
def ofL:Nat→List Obj→BT
 | 0,_=>.nil
 | _ + 1,[]=>.nil
 | k + 1,o::l=>.node o (ofL k (oddL l)) (ofL k (oddL l.tail))
def runT (tb:String→Option Builtin) (p:Program) (w:World) (n₀:Nat) (ann:Option Value):Nat→SharedT→Thread→Option SharedT
 | 0,_,_=>none
 | k + 1,s,t=>match through t with
  | true=>some s
  | false=>match stepOk n₀ ann t with
   | false=>none
   | true=>match stepT (denote tb) p w s t with
    | none=>none
    | some (s',t')=>runT tb p w n₀ ann k s' t'
theorem runT_is {tb:String→Option Builtin}{p:Program}{w:World}{n₀:Nat}{ann:Option Value}:∀ {k:Nat}{s s':SharedT}{t:Thread},runT tb p w n₀ ann k s t=some s'→topRun tb p w n₀ ann k s.abs t=some s'.abs
 | 0,_,_,_,h=>by cases h
 | k + 1,s,s',t,h=>by
  unfold runT at h
  unfold topRun
  cases e:through t with
  | true=>rw [e] at h;cases h;rfl
  | false=>
   rw [e] at h
   cases o:stepOk n₀ ann t with
   | false=>rw [o] at h;cases h
   | true=>
    rw [o] at h
    cases g:stepT (denote tb) p w s t with
    | none=>rw [g] at h;cases h
    | some r=>obtain ⟨s2,t2⟩:=r;rw [g] at h;rw [stepT_spec g];exact runT_is h
noncomputable def bootT (P:Params):BT:=ofL 12 (boot_heap P).objs.toList
def bootN:Nat:=11
theorem boot_size (P:Params):(boot_heap P).objs.size=bootN:=by kernel_rfl
theorem boot_abs (P:Params):absHeap (bootT P) bootN (boot_heap P).life=boot_heap P:=by kernel_rfl
noncomputable def s0T (P:Params) (os:OsState):SharedT:=⟨bootT P,bootN,(boot_heap P).life,Array.mk [],boot_drawn,boot_toks,os⟩
theorem left_T {p q:Program}{loose:List Str}{Xt:Shared→Bool}{α:Type}{Yf:Shared→α}{Ya:World→α}{N:Nat}{ann:Option Value}
  (he:opening p=plainProg p.main.scope.names) (hf:∀ s,fenceModules? p s=some s) (hN:Nat.ble 600 N=true)
  (hz:∀ P:Params,((boot_heap P).isNs mainGlobals,(boot_heap P).nsMap mainGlobals "__annotations__")=(true,ann))
  (h:∀ (w:World) (os:OsState),(runT treeTable p w bootN ann N (s0T w.params os) (topStub p)).map (fun sT=>
    ((staticsOk (importedModules p.main.body) (boot_heap w.params) sT.abs.heap&&namesBound p sT.abs.heap&&gensDone sT.abs&&laidKept (boot_heap w.params) sT.abs.heap),openSeen q loose (importedModules p.main.body) Xt true sT.abs,Yf sT.abs))=some (true,openGood q loose,Ya w)) :
  LeftO p q loose Xt Yf Ya N:=fun w=>by
 obtain ⟨⟨hh,gs,d,k,os⟩,e,e'⟩:=Option.map_eq_some_iff.mp (boot_open he hN hf w)
 obtain ⟨rfl,rfl,rfl,rfl⟩:hh=boot_heap w.params∧gs=Array.mk []∧d=boot_drawn∧k=boot_toks:=by simpa using e'
 obtain ⟨z1,z2⟩:_∧_:=by simpa only [Prod.mk.injEq] using hz w.params
 obtain ⟨sT,r,l⟩:=Option.map_eq_some_iff.mp (h w os)
 obtain ⟨l1,l2,l3⟩:_∧_∧_:=by simpa only [Prod.mk.injEq] using l
 have r':=runT_is r
 have ab:(s0T w.params os).abs=⟨boot_heap w.params,Array.mk [],boot_drawn,boot_toks,os⟩:=by
  show Shared.mk (absHeap (bootT w.params) bootN (boot_heap w.params).life) _ _ _ _=_
  rw [boot_abs];rfl
 rw [ab] at r'
 have t:topFrom treeTable p w N ⟨boot_heap w.params,Array.mk [],boot_drawn,boot_toks,os⟩=some sT.abs:=by
  unfold topFrom
  dsimp only
  rw [z1,z2,boot_size,r']
  show (match staticsOk (importedModules p.main.body) (boot_heap w.params) sT.abs.heap&&namesBound p sT.abs.heap&&gensDone sT.abs&&laidKept (boot_heap w.params) sT.abs.heap with | true=>_ | false=>_)=_
  rw [l1]
 unfold openEnds
 rw [e]
 show (topFrom treeTable p w N _).map _=_
 rw [t]
 exact congrArg some (Prod.ext l2 l3)
theorem left_T2 {p q:Program}{loose:List Str}{Xt:Shared→Bool}{α:Type}{Yf:Shared→α}{Ya:World→α}{N:Nat}{ann:Option Value}
  (he:opening p=plainProg p.main.scope.names) (hf:∀ s,fenceModules? p s=some s) (hN:Nat.ble 600 N=true)
  (hz:∀ P:Params,((boot_heap P).isNs mainGlobals,(boot_heap P).nsMap mainGlobals "__annotations__")=(true,ann))
  (h1:∀ (w:World) (os:OsState),(runT treeTable p w bootN ann N (s0T w.params os) (topStub p)).map (fun sT=>((staticsOk (importedModules p.main.body) (boot_heap w.params) sT.abs.heap&&namesBound p sT.abs.heap&&gensDone sT.abs&&laidKept (boot_heap w.params) sT.abs.heap),openSeen q loose (importedModules p.main.body) Xt true sT.abs))=some (true,openGood q loose))
  (h3:∀ (w:World) (os:OsState),(runT treeTable p w bootN ann N (s0T w.params os) (topStub p)).map (fun sT=>Yf sT.abs)=some (Ya w)) :
  LeftO p q loose Xt Yf Ya N:=left_T he hf hN hz fun w os=>by
 obtain ⟨sT,r,e1⟩:=Option.map_eq_some_iff.mp (h1 w os)
 have e3:=h3 w os
 rw [r] at e3 ⊢
 have e3:=Option.some.inj e3
 obtain ⟨e1,e2⟩:_∧_:=by simpa only [Prod.mk.injEq] using e1
 show some (_,_,_)=some (true,openGood q loose,Ya w)
 rw [e1,← e2,← e3]
def tg (s:SharedT) (a:Nat):Option Obj:=match Nat.blt a s.n with
 | true=>match s.tree.get a with
  | some o=>alive o
  | none=>none
 | false=>none
theorem tg_is {s:SharedT}{a:Nat}{o:Obj} (h:tg s a=some o):s.abs.heap.get? a=some o:=by
 unfold tg at h
 cases e:Nat.blt a s.n with
 | false=>rw [e] at h;cases h
 | true=>
  rw [e] at h
  dsimp only at h
  cases g:s.tree.get a with
  | none=>rw [g] at h;cases h
  | some o'=>
   rw [g] at h
   have hlt:a < s.n:=by simpa using e
   exact (abs_get (life:=s.life) hlt g).trans h
theorem tgs_is {s:SharedT}:∀ {as:List Addr}{os:List Obj},as.map (tg s)=os.map some→as.map s.abs.heap.get? = os.map some
 | [],[],_=>rfl
 | [],_::_,h=>by cases h
 | _::_,[],h=>by cases h
 | a::as,o::os,h=>by
  rw [List.map_cons,List.map_cons] at h
  injection h with h1 h2
  rw [List.map_cons,List.map_cons,tg_is h1,tgs_is h2]
section
variable {p q:Program}{loose:List Str}{Xt:Shared→Bool}{N:Nat}{ann:Option Value}{K:Params→Frag}{as ts:List Addr}{e:∀ P,as=(K P).map (·.1)}
theorem left_Tk (he:opening p=plainProg p.main.scope.names) (hf:∀ s,fenceModules? p s=some s) (hN:Nat.ble 600 N=true)
  (hz:∀ P:Params,((boot_heap P).isNs mainGlobals,(boot_heap P).nsMap mainGlobals "__annotations__")=(true,ann))
  (h1:∀ (w:World) (os:OsState),(runT treeTable p w bootN ann N (s0T w.params os) (topStub p)).map (fun sT=>((staticsOk (importedModules p.main.body) (boot_heap w.params) sT.abs.heap&&namesBound p sT.abs.heap&&gensDone sT.abs&&laidKept (boot_heap w.params) sT.abs.heap),openSeen q loose (importedModules p.main.body) Xt true sT.abs))=some (true,openGood q loose))
  (h3:∀ (w:World) (os:OsState),(runT treeTable p w bootN ann N (s0T w.params os) (topStub p)).map (fun sT=>as.map (tg sT))=some (((K w.params).map (·.2)).map some)) :
  LeftO p q loose Xt (Hook.obs (kHook K as e)) (Hook.val (kHook K as e)) N:=left_T2 he hf hN hz h1 fun w os=>by
 obtain ⟨sT,r,e1⟩:=Option.map_eq_some_iff.mp (h3 w os)
 rw [r]
 show some (as.map sT.abs.heap.get?)=some ((K w.params).map fun p=>some p.2)
 rw [tgs_is e1,List.map_map];rfl
end
end HT
namespace K72
open PySem L2 L2.Ev
local macro_rules | `(tactic| walk_at "ba1")=>`(tactic| exact fun _ _ _ _ _ _ us hl=>match us,hl with | [_],_=>rfl)
local macro_rules | `(tactic| walk_at "ba2")=>`(tactic| exact fun _ _ _ _ _ _ us hl=>match us,hl with | [_,_],_=>rfl)
local macro_rules | `(tactic| walk_at "ba3")=>`(tactic| exact fun _ _ _ _ _ _ us hl=>match us,hl with | [_,_,_],_=>rfl)
set_option maxHeartbeats 0 in
theorem all_mk {l:PySem.W.OpenLaw}{w:World}{K:PySem.W.Frag}{h:Heap}{mg:Str→Option Value}{fa c_LinegateError c_NoAnswer c_NoChange c_NoFit c_NoLook c_NoRow c_NoRule c_NoText c_TooLate c_TooMany t_WORDS:Addr} (X:K.In h) (G:h.Ns mainGlobals mg) (hfa:mg "law"=some (.ref fa))
  {t_FIGURES t_MOST_FIGURES:Tok}
  {q0_WORDS q1_WORDS q2_WORDS:Tok}{qn_WORDS:Nat}{qs_WORDS:Array (Option Value)}
  (z_WORDS:PySem.W.nsIn K mainGlobals "WORDS"=some (some (.ref t_WORDS)))
  (lw_WORDS:K.lookup t_WORDS=some ⟨.type "tuple",none,.seq #[.str "yes" q0_WORDS,.str "no" q1_WORDS,.str "unsure" q2_WORDS] qn_WORDS,qs_WORDS⟩)
  (n_LinegateError:PySem.W.nsIn K mainGlobals "LinegateError"=some (some (.ref c_LinegateError)))
  (n_NoAnswer:PySem.W.nsIn K mainGlobals "NoAnswer"=some (some (.ref c_NoAnswer)))
  (n_NoChange:PySem.W.nsIn K mainGlobals "NoChange"=some (some (.ref c_NoChange)))
  (n_NoFit:PySem.W.nsIn K mainGlobals "NoFit"=some (some (.ref c_NoFit)))
  (n_NoLook:PySem.W.nsIn K mainGlobals "NoLook"=some (some (.ref c_NoLook)))
  (n_NoRow:PySem.W.nsIn K mainGlobals "NoRow"=some (some (.ref c_NoRow)))
  (n_NoRule:PySem.W.nsIn K mainGlobals "NoRule"=some (some (.ref c_NoRule)))
  (n_NoText:PySem.W.nsIn K mainGlobals "NoText"=some (some (.ref c_NoText)))
  (n_TooLate:PySem.W.nsIn K mainGlobals "TooLate"=some (some (.ref c_TooLate)))
  (n_TooMany:PySem.W.nsIn K mainGlobals "TooMany"=some (some (.ref c_TooMany)))
  (x_LinegateError:PySem.W.excIn K c_LinegateError veMro "ValueError.__new__"=true)
  (x_NoText:PySem.W.excIn K c_NoText veMro "ValueError.__new__"=true)
  (mb_LinegateError:PySem.W.mroIn K c_LinegateError (.type "BaseException")=some true)
  (mr_NoText_LinegateError:PySem.W.mroIn K c_NoText (.ref c_LinegateError)=some true)
  (sg:PySem.W.specialIn K (.builtin "object.__class__") "__get__"=some (some (.builtin "getset_descriptor.__get__")))
  (tk:PySem.W.takesIn K (.builtin "object.__class__")=some true)
  (ga_NoText:PySem.W.findIn K (.ref c_NoText) "__getattribute__"=some (some (.builtin "BaseException.__getattribute__")))
  (gh_NoText:PySem.W.findIn K (.ref c_NoText) "__getattr__"=some none)
  (at_NoText:PySem.W.findIn K (.ref c_NoText) "__class__"=some (some (.builtin "object.__class__")))
  (mo_NoText:PySem.W.mroIn K c_NoText (.type "object")=some true)
  (me_NoText:PySem.W.mroIn K c_NoText (.type "BaseException")=some true)
  (kt_NoAnswer_NoText:PySem.W.kitOne K (.ref c_NoText) (.ref c_NoAnswer)=some false)
  (kt_NoChange_NoText:PySem.W.kitOne K (.ref c_NoText) (.ref c_NoChange)=some false)
  (kt_NoFit_NoText:PySem.W.kitOne K (.ref c_NoText) (.ref c_NoFit)=some false)
  (kt_NoLook_NoText:PySem.W.kitOne K (.ref c_NoText) (.ref c_NoLook)=some false)
  (kt_NoRow_NoText:PySem.W.kitOne K (.ref c_NoText) (.ref c_NoRow)=some false)
  (kt_NoRule_NoText:PySem.W.kitOne K (.ref c_NoText) (.ref c_NoRule)=some false)
  (kt_NoText_NoText:PySem.W.kitOne K (.ref c_NoText) (.ref c_NoText)=some true)
  (kt_TooLate_NoText:PySem.W.kitOne K (.ref c_NoText) (.ref c_TooLate)=some false)
  (kt_TooMany_NoText:PySem.W.kitOne K (.ref c_NoText) (.ref c_TooMany)=some false)
  (kt_ValueError_NoText:PySem.W.kitOne K (.ref c_NoText) (.type "ValueError")=some true)
  (l0:GFn K "_law_cell_at" s_L_cell_at)
  (l1:GFn K "_law_mixed" s_L_mixed)
  (l2:GFn K "_law_number" s_L_number)
  (l3:GFn K "_law_words" s_L_words)
  (l4:GFn K "_law_odd" s_L_odd)
  (l5:GFn K "_law_turned" s_L_turned)
  (l6:GFn K "_law_sign" s_L_sign)
  (l7:GFn K "_law_bent" s_L_bent)
  (l8:GFn K "_law_line" s_L_line)
  (l9:GFn K "_law_is_number" s_L_is_number)
  (l10:GFn K "_law_asks" s_L_asks)
  (l11:GFn K "_law_read" s_L_read)
  (l12:GFn K "words_ahead" s_words_ahead)
  (l13:GFn K "is_number" s_is_number)
  (l14:GFn K "read_number" s_read_numberR)
  (l15:GFn K "read_numbers" s_read_numbersR)
  (l16:GFn K "numbers_behind" s_numbers_behindR)
  (l17:GFn K "in_threes" s_in_threesR)
  (l18:GFn K "read_ask" s_read_askR)
  (l19:GFn K "read_row" s_read_rowR)
  (l20:GFn K "_law_tried" s_L_tried)
  (l21:GFn K "_law_plain" s_L_plain)
  (l22:GFn K "law" s_law)
  (z_FIGURES:PySem.W.nsIn K mainGlobals "FIGURES"=some (some (.str "0123456789" t_FIGURES)))
  (z_MOST_FIGURES:PySem.W.nsIn K mainGlobals "MOST_FIGURES"=some (some (.int 12 t_MOST_FIGURES)))
  (z_ValueError:PySem.W.nsIn K mainGlobals "ValueError"=some none)
  (z_all:PySem.W.nsIn K mainGlobals "all"=some none)
  (z_bool:PySem.W.nsIn K mainGlobals "bool"=some none)
  (z_int:PySem.W.nsIn K mainGlobals "int"=some none)
  (z_isinstance:PySem.W.nsIn K mainGlobals "isinstance"=some none)
  (z_len:PySem.W.nsIn K mainGlobals "len"=some none)
  (z_range:PySem.W.nsIn K mainGlobals "range"=some none)
  (z_str:PySem.W.nsIn K mainGlobals "str"=some none)
  (z_tuple:PySem.W.nsIn K mainGlobals "tuple"=some none)
  : ∃ fd:FuncData,(∀ (s:Shared) (v:Value),BindsTo s fd ⟨[v],[]⟩ [("_law_script",v)])∧∀ base:Heap,K.In base→base.Ns mainGlobals mg→FnOk l.prog w K mg base CX0 8 fa fd ["_law_script"] (spF K F_law):=by
 have g_ValueError:=PySem.W.mg_none_of X G z_ValueError
 have g_all:=PySem.W.mg_none_of X G z_all
 have g_bool:=PySem.W.mg_none_of X G z_bool
 have g_int:=PySem.W.mg_none_of X G z_int
 have g_isinstance:=PySem.W.mg_none_of X G z_isinstance
 have g_len:=PySem.W.mg_none_of X G z_len
 have g_range:=PySem.W.mg_none_of X G z_range
 have g_str:=PySem.W.mg_none_of X G z_str
 have g_tuple:=PySem.W.mg_none_of X G z_tuple
 have m_FIGURES:=PySem.W.mg_of X G z_FIGURES
 have m_MOST_FIGURES:=PySem.W.mg_of X G z_MOST_FIGURES
 have m_WORDS:=PySem.W.mg_of X G z_WORDS
 have T_WORDS:=tupK_mk3 lw_WORDS
 have m_LinegateError:=PySem.W.mg_of X G n_LinegateError
 have m_NoAnswer:=PySem.W.mg_of X G n_NoAnswer
 have m_NoChange:=PySem.W.mg_of X G n_NoChange
 have m_NoFit:=PySem.W.mg_of X G n_NoFit
 have m_NoLook:=PySem.W.mg_of X G n_NoLook
 have m_NoRow:=PySem.W.mg_of X G n_NoRow
 have m_NoRule:=PySem.W.mg_of X G n_NoRule
 have m_NoText:=PySem.W.mg_of X G n_NoText
 have m_TooLate:=PySem.W.mg_of X G n_TooLate
 have m_TooMany:=PySem.W.mg_of X G n_TooMany
 have X_NoText:=excCls_of x_NoText
 have CT_LinegateError:=(catchT_cons n_NoText (catches_of (shape_of x_NoText) (shape_of x_LinegateError) mr_NoText_LinegateError mb_LinegateError) catchT_nil)
 have EK_NoText:ExcKit K c_NoText:=⟨ga_NoText,gh_NoText,at_NoText,sg,tk,mo_NoText,me_NoText,cls_of_mro mo_NoText⟩
 have KT_NoAnswer:=(kitT_cons n_NoText EK_NoText kt_NoAnswer_NoText kitT_nil)
 have KT_NoChange:=(kitT_cons n_NoText EK_NoText kt_NoChange_NoText kitT_nil)
 have KT_NoFit:=(kitT_cons n_NoText EK_NoText kt_NoFit_NoText kitT_nil)
 have KT_NoLook:=(kitT_cons n_NoText EK_NoText kt_NoLook_NoText kitT_nil)
 have KT_NoRow:=(kitT_cons n_NoText EK_NoText kt_NoRow_NoText kitT_nil)
 have KT_NoRule:=(kitT_cons n_NoText EK_NoText kt_NoRule_NoText kitT_nil)
 have KT_NoText:=(kitT_cons n_NoText EK_NoText kt_NoText_NoText kitT_nil)
 have KT_TooLate:=(kitT_cons n_NoText EK_NoText kt_TooLate_NoText kitT_nil)
 have KT_TooMany:=(kitT_cons n_NoText EK_NoText kt_TooMany_NoText kitT_nil)
 have KT_ValueError:=(kitT_cons n_NoText EK_NoText kt_ValueError_NoText kitT_nil)
 have KTT:=(kitTs_cons n_NoText EK_NoText (kitAny_f kt_NoAnswer_NoText (kitAny_f kt_NoChange_NoText (kitAny_f kt_NoFit_NoText (kitAny_f kt_NoLook_NoText (kitAny_f kt_NoRow_NoText (kitAny_f kt_NoRule_NoText (kitAny_f kt_TooLate_NoText (kitAny_f kt_TooMany_NoText kitAny_nil)))))))) kitTs_nil)
 refine lawW (sp:=fun _=>spF K F_law) X G hfa l22 (fun _ _ _ _ _ _ _ _=>.of_eq rfl) fun base _ _ _ _ F=>?_
 have W0:=fnW X G l0 (fun F=>ok_L_cell_at (P:=l.prog) (w:=w) (mg:=mg) (base:=base) g_len F) (by walk_at "ba2")
 have W1:=fnW X G l1 (fun F=>ok_L_mixed (P:=l.prog) (w:=w) (mg:=mg) (base:=base) F) (by walk_at "ba3")
 have W2:=fnW X G l2 (fun F=>ok_L_number (P:=l.prog) (w:=w) (mg:=mg) (base:=base) g_str W0 W1 F) (by walk_at "ba2")
 have W3:=fnW X G l3 (fun F=>ok_L_words (P:=l.prog) (w:=w) (mg:=mg) (base:=base) g_range W0 W1 W2 F) (by walk_at "ba1")
 have W4:=fnW X G l4 (fun F=>ok_L_odd (P:=l.prog) (w:=w) (mg:=mg) (base:=base) F) (by walk_at "ba1")
 have W5:=fnW X G l5 (fun F=>ok_L_turned (P:=l.prog) (w:=w) (mg:=mg) (base:=base) g_len W1 F) (by walk_at "ba3")
 have W6:=fnW X G l6 (fun F=>ok_L_sign (P:=l.prog) (w:=w) (mg:=mg) (base:=base) g_len W1 F) (by walk_at "ba2")
 have W7:=fnW X G l7 (fun F=>ok_L_bent (P:=l.prog) (w:=w) (mg:=mg) (base:=base) g_len W1 W6 F) (by walk_at "ba3")
 have W8:=fnW X G l8 (fun F=>ok_L_line (P:=l.prog) (w:=w) (mg:=mg) (base:=base) W3 W1 W0 W4 W5 W7 F) (by walk_at "ba1")
 have W9:=fnW X G l9 (fun F=>ok_L_is_number (P:=l.prog) (w:=w) (mg:=mg) (base:=base) g_len F) (by walk_at "ba1")
 have W10:=fnW X G l10 (fun F=>ok_L_asks (P:=l.prog) (w:=w) (mg:=mg) (base:=base) g_len g_range g_tuple F) (by walk_at "ba2")
 have W11:=fnW X G l11 (fun F=>ok_L_read (P:=l.prog) (w:=w) (mg:=mg) (base:=base) g_int g_len g_tuple W9 W10 F) (by walk_at "ba1")
 have W12:=fnW X G l12 (fun F=>ok_words_ahead (P:=l.prog) (w:=w) (mg:=mg) (base:=base) F) (by walk_at "ba2")
 have W13:=fnW X G l13 (fun F=>ok_is_number (P:=l.prog) (w:=w) (mg:=mg) (base:=base) g_all g_len m_FIGURES m_MOST_FIGURES F) (by walk_at "ba1")
 have W14:=fnW X G l14 (fun F=>ok_read_numberR (P:=l.prog) (w:=w) (mg:=mg) (base:=base) g_int m_NoText X_NoText n_NoText W13 F) (by walk_at "ba1")
 have W15:=fnW X G l15 (fun F=>ok_read_numbersR (P:=l.prog) (w:=w) (mg:=mg) (base:=base) g_tuple W14 F) (by walk_at "ba1")
 have W16:=fnW X G l16 (fun F=>ok_numbers_behindR (P:=l.prog) (w:=w) (mg:=mg) (base:=base) m_NoText X_NoText n_NoText W15 F) (by walk_at "ba2")
 have W17:=fnW X G l17 (fun F=>ok_in_threesR (P:=l.prog) (w:=w) (mg:=mg) (base:=base) g_len g_range g_tuple m_NoText X_NoText n_NoText F) (by walk_at "ba1")
 have W18:=fnW X G l18 (fun F=>ok_read_askR (P:=l.prog) (w:=w) (mg:=mg) (base:=base) g_len m_NoText X_NoText n_NoText W12 W16 W14 W17 F) (by walk_at "ba1")
 have W19:=fnW X G l19 (fun F=>ok_read_rowR (P:=l.prog) (w:=w) (mg:=mg) (base:=base) g_len m_WORDS T_WORDS m_NoText X_NoText n_NoText W18 W15 F) (by walk_at "ba1")
 have W20:=fnW X G l20 (fun F=>ok_L_tried (P:=l.prog) (w:=w) (mg:=mg) (base:=base) g_ValueError g_isinstance m_LinegateError m_NoAnswer m_NoChange m_NoFit m_NoLook m_NoRow m_NoRule m_NoText m_TooLate m_TooMany CT_LinegateError KT_NoAnswer KT_NoChange KT_NoFit KT_NoLook KT_NoRow KT_NoRule KT_NoText KT_TooLate KT_TooMany KT_ValueError KTT W19 F) (by walk_at "ba1")
 have W21:=fnWr X G l21 (fun m k b F=>ok_L_plain (P:=l.prog) (w:=w) (mg:=mg) (base:=base) g_all g_bool g_int g_isinstance g_str g_tuple m k b F) (by walk_at "ba1")
 exact ok_law g_isinstance g_tuple W8 W11 W20 W21 F
theorem walk {l:PySem.W.OpenLaw}{q:Program}{loose:List Str}{XP:(Str→Option Value)→Heap→Prop}{YP:World→Heap→Prop}{d:DefRec}{K:Params→PySem.W.Frag} (hn:l.most=some 63) (hdf:d.params.defaults=[])
  (hY:∀ (w:World) (h:Heap),YP w h→(K w.params).In h)
  (F:∀ (w:World) (mg:Str→Option Value) (fa:Addr) (h:Heap),(K w.params).In h→h.Ns mainGlobals mg→mg d.name=some (.ref fa) →
   ∃ fd:FuncData,(∀ (s:Shared) (u:Value),BindsTo s fd ⟨[u],[]⟩ [("_law_script",u)])∧∀ base:Heap,(K w.params).In base→base.Ns mainGlobals mg→FnOk l.prog w (K w.params) mg base CX0 8 fa fd ["_law_script"] (spF (K w.params) F_law)) :
  PySem.W.WalkO q loose XP YP l.row.toRowW d [] (fun f vs=>PySem.call f vs):=
 L2.walk_of (n:=63) (k:=8) (x:="_law_script") (CX:=fun _=>CX0) (sp:=fun w=>spF (K w.params) F_law) hn (by decide) hdf ⟨fun _=>rfl,by decide,by decide,rfl⟩ hY F (fun w H a ns hl hO hS=>by
  have hz:Frz (K w.params) H a (ns.map V.int):=by
   rcases hS with (h | h) | h
   ·rcases hO a with z | ⟨o,xs,z⟩ <;> rw [z] at h <;> cases h
   ·exact .inl h
   ·exact .inr h
  refine ⟨[dI ns],[]++[],.bl true,.cons (.lsf hz (reps_ints ns)) .nil,f_law hl,fun H' v fp' _ r _ _=>?_⟩
  cases r
  rfl) fun _ _ _ _ _ z=>z
end K72
namespace K72
open PySem PySem.W PyProof.Rows
def isNm:Stmt→Bool
 | .FunctionDef x ..=>!(x == "law")
 | _=>true
def lo:List Str:=(["LinegateError","NoFit","NoChange","TooMany","NoRule","NoAnswer","NoLook","TooLate","NoRow","NoText","WORDS","FIGURES","MOST_FIGURES","read_row","read_ask","words_ahead","numbers_behind","in_threes","read_numbers","read_number","is_number","_law_cell_at","_law_mixed","_law_number","_law_words","_law_odd","_law_sign","_law_bent","_law_turned","_law_line","_law_is_number","_law_read","_law_asks","_law_plain","_law_tried"]:List String).map Str.ofString
def vw:Program:={ PySem.Challenge.pw_linegate_k72_rows_refused with main:={ (PySem.Challenge.pw_linegate_k72_rows_refused).main with body:=(PySem.Challenge.pw_linegate_k72_rows_refused).main.body.filter fun s=>!isNm s } }
def xt (s:Shared):Bool:=xlAt vw [] s&&recOk (RowW.records (OpenRow.toRowW (OpenLaw.row PySem.Challenge.rw_linegate_k72_rows_refused))) s
theorem xt1 (s:Shared) (e:xt s=true):XL vw [] (s.heap.nsMap mainGlobals) s.heap:=xl_of s (Bool.and_eq_true_iff.mp e).1
theorem rn (w:World) (os:OsState):(HT.runT treeTable PySem.Challenge.pw_linegate_k72_rows_refused w HT.bootN (some (.ref 6)) 20000 (HT.s0T w.params os) (topStub PySem.Challenge.pw_linegate_k72_rows_refused)).map (fun sT=>((staticsOk (importedModules (PySem.Challenge.pw_linegate_k72_rows_refused).main.body) (boot_heap w.params) sT.abs.heap&&namesBound PySem.Challenge.pw_linegate_k72_rows_refused sT.abs.heap&&gensDone sT.abs&&laidKept (boot_heap w.params) sT.abs.heap),openSeen vw lo (importedModules (PySem.Challenge.pw_linegate_k72_rows_refused).main.body) xt true sT.abs))=some (true,openGood vw lo):=by kernel_rfl
theorem xt2 (s:Shared) (e:xt s=true):RecFacts (RowW.records (OpenRow.toRowW (OpenLaw.row PySem.Challenge.rw_linegate_k72_rows_refused))) s.heap:=recFacts_of (Bool.and_eq_true_iff.mp e).2
end K72
open PySem PySem.W PyProof.Rows
local macro_rules | `(tactic| o_head $H)=>`(tactic| (refine PySem.W.holds_open (q:=K72.vw) (loose:=K72.lo) (N:=20000) (Xt:=K72.xt) (XP:=XL K72.vw []) (Yf:=Hook.obs $H) (Ya:=Hook.val $H) (YP:=Hook.says $H) ?hl (Hook.of $H) (Hook.keeps $H) K72.xt1 XL.keeps (by rfl) (by rfl) (by rfl) K72.xt2 (by rfl) (by assumption) (by decide +kernel) ⟨rfl,rfl,rfl,rfl,rfl,by decide +kernel⟩ ?hw ?hc;(case hl=>exact HT.left_Tk (ann:=some (.ref 6)) (by rfl) (fun _=>rfl) (by decide) (fun _=>by kernel_rfl) K72.rn fun w os=>by kernel_rfl);(case hw=>w_witness2)))
local macro_rules | `(tactic| walk_at "lkf")=>`(tactic| exact ⟨_,by k_is,_,_,_,_,_,_,_,_,_,by k_is,by k_is,by k_is⟩)
local macro_rules | `(tactic| walk_at "lkm")=>`(tactic| exact ⟨_,by k_is,by k_is,_,_,_,_,_,_,_,_,_,by k_is,by k_is,by k_is⟩)
set_option maxRecDepth 100000 in
set_option maxHeartbeats 0 in
theorem PySem.Challenge.cw_linegate_k72_rows_refused_holds : PySem.Challenge.rw_linegate_k72_rows_refused.Holds := by
 w_on;o_law;k_head
 k_fill
 refine K72.walk (l:=PySem.Challenge.rw_linegate_k72_rows_refused) rfl rfl (fun w h Y=>PySem.W.kIn_of Y) ?F
 case F=>
  intro w mg fa h KX G hmg
  refine' K72.all_mk KX G hmg ?z_WORDS ?lw_WORDS ?n_LinegateError ?n_NoAnswer ?n_NoChange ?n_NoFit ?n_NoLook ?n_NoRow ?n_NoRule ?n_NoText ?n_TooLate ?n_TooMany ?x_LinegateError ?x_NoText ?mb_LinegateError ?mr_NoText_LinegateError ?sg ?tk ?ga_NoText ?gh_NoText ?at_NoText ?mo_NoText ?me_NoText ?kt_NoAnswer_NoText ?kt_NoChange_NoText ?kt_NoFit_NoText ?kt_NoLook_NoText ?kt_NoRow_NoText ?kt_NoRule_NoText ?kt_NoText_NoText ?kt_TooLate_NoText ?kt_TooMany_NoText ?kt_ValueError_NoText ?l0 ?l1 ?l2 ?l3 ?l4 ?l5 ?l6 ?l7 ?l8 ?l9 ?l10 ?l11 ?l12 ?l13 ?l14 ?l15 ?l16 ?l17 ?l18 ?l19 ?l20 ?l21 ?l22 ?z_FIGURES ?z_MOST_FIGURES ?z_ValueError ?z_all ?z_bool ?z_int ?z_isinstance ?z_len ?z_range ?z_str ?z_tuple
  case z_WORDS | lw_WORDS | n_LinegateError | n_NoAnswer | n_NoChange | n_NoFit | n_NoLook | n_NoRow | n_NoRule | n_NoText | n_TooLate | n_TooMany=>k_is
  case x_LinegateError | x_NoText=>k_exc
  case mb_LinegateError | mr_NoText_LinegateError | sg | tk | ga_NoText | gh_NoText | at_NoText | mo_NoText | me_NoText=>k_is
  case kt_NoAnswer_NoText | kt_NoChange_NoText | kt_NoFit_NoText | kt_NoLook_NoText | kt_NoRow_NoText | kt_NoRule_NoText | kt_NoText_NoText | kt_TooLate_NoText | kt_TooMany_NoText | kt_ValueError_NoText=>kit_is
  case l0 | l1 | l2 | l3 | l4 | l5 | l6 | l7 | l8 | l9 | l10 | l11 | l12 | l13 | l14 | l15 | l16 | l17 | l18 | l19 | l20 | l21 | l22=>walk_at "lkf"
  case z_FIGURES | z_MOST_FIGURES | z_ValueError | z_all | z_bool | z_int | z_isinstance | z_len | z_range | z_str | z_tuple=>k_is
