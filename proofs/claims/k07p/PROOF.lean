import PyProof.Rows.All
import Wide.All
import OpenK.AllK
import Wide.FinOn
import Lean
import PyProof.EqAt
import PyProof.EqKinds
import PyProof.TupleCall
import PyProof.RulesAs
import PyProof.NsDelKeeps
import PyProof.ReprRoads
import PyProof.ReprLen
import PyProof.Rows.FactsT3
import PyProof.NeData
import PyProof.ListRange
import PyProof.ZipIter
import PyProof.Rows.ZipGen
import PyProof.ConsumeWalk
import PyProof.Rows.RuleM_int
import PyProof.Rows.SeqGen
import PyProof.MinMaxWalk
import PyProof.WalkInts
import PyProof.SeqI3
import PyProof.Rows.SeqCalls
import PyProof.Rows.Range3
import PyProof.EnumIter
import PyProof.EnumFor
import PyProof.EnumMake
import PyProof.EnumStmt
import PyProof.MeetsSeq
import PyProof.Rows.RuleIs
import PySem.SetOps
import PyProof.SetKind
import PyProof.DictIter
import PyProof.FactsAll.set
import PyProof.CollectWalk
import PyProof.DictWalks
import PyProof.SeqWrite
import PyProof.Walk
import PyProof.Rows.SetFrom
import PyProof.ExcAttrAll.ValueError
import PyProof.ExcArgsOwn
import PyProof.Rows.CountFlat
import PyProof.CallFns
import Open.Seg
import Open.Fast
import Open.Tree
import Open.Boot
import PySem.Challenge.RW_linegate_k07_whole_rows_of_edits
set_option Elab.async false
set_option linter.all false
set_option maxRecDepth 100000
namespace L2
open PySem PySem.Spec PyProof.Rows
abbrev Key:=Sum Int Str
def keyIs:Key→Value→Bool
 | .inl k,v=>Value.isInt k v
 | .inr x,v=>Value.isStrOf x v
def keyH (w:World):Key→Int
 | .inl k=>hashInt k
 | .inr x=>hashStr w x
theorem keyIs_shape:∀ {k:Key}{v:Value},keyIs k v=true→(∃ i t,k=Sum.inl i∧v=Value.int i t)∨(∃ x t,k=Sum.inr x∧v=Value.str x t)
 | .inl i,v,h=>by
  obtain ⟨t,e⟩:=Value.isInt_shape (k:=i) (v:=v) h
  exact .inl ⟨i,t,rfl,e⟩
 | .inr x,v,h=>by
  obtain ⟨t,e⟩:=Value.isStrOf_shape (x:=x) (v:=v) h
  exact .inr ⟨x,t,rfl,e⟩
theorem keyIs_int (i:Int) (t:Tok):keyIs (.inl i) (.int i t)=true:=by simp [keyIs,Value.isInt]
theorem keyIs_str (x:Str) (t:Tok):keyIs (.inr x) (.str x t)=true:=by simp [keyIs,Value.isStrOf]
theorem key_ll (a b:Int):decide ((Sum.inl a:Key)=Sum.inl b)=(a == b):=by
 by_cases e:a=b
 ·subst e;simp
 ·have h:¬ (Sum.inl a:Key)=Sum.inl b:=fun q=>e (Sum.inl.inj q)
  rw [decide_eq_false h]
  exact (beq_eq_false_iff_ne.mpr e).symm
theorem key_rr (a b:Str):decide ((Sum.inr a:Key)=Sum.inr b)=decide (a=b):=by
 by_cases e:a=b
 ·subst e;simp
 ·have h:¬ (Sum.inr a:Key)=Sum.inr b:=fun q=>e (Sum.inr.inj q)
  rw [decide_eq_false h,decide_eq_false e]
theorem key_lr (a:Int) (b:Str):decide ((Sum.inl a:Key)=Sum.inr b)=false:=decide_eq_false (fun q=>nomatch q)
theorem key_rl (a:Str) (b:Int):decide ((Sum.inr a:Key)=Sum.inl b)=false:=decide_eq_false (fun q=>nomatch q)
def mixKind (prog:Program) (w:World):PySem.KeyKind prog w Key where
 is:=keyIs
 hash:=keyH w
 inj:=fun v a b ha hb=>by
  rcases keyIs_shape ha with ⟨i,t,rfl,rfl⟩ | ⟨x,t,rfl,rfl⟩
  ·rcases keyIs_shape hb with ⟨j,u,rfl,e⟩ | ⟨y,u,rfl,e⟩
   ·injection e with e1 _;rw [e1]
   ·exact nomatch e
  ·rcases keyIs_shape hb with ⟨j,u,rfl,e⟩ | ⟨y,u,rfl,e⟩
   ·exact nomatch e
   ·injection e with e1 _;rw [e1]
 byValue:=fun k v h=>by
  rcases keyIs_shape h with ⟨i,t,rfl,rfl⟩ | ⟨x,t,rfl,rfl⟩ <;> rfl
 pyHash:=fun hv h=>by
  rcases keyIs_shape hv with ⟨i,t,rfl,rfl⟩ | ⟨x,t,rfl,rfl⟩
  ·exact wpAny_pyHash_int h
  ·exact wpAny_pyHash_str h
 eqBool:=fun hu hv h=>by
  rcases keyIs_shape hu with ⟨i,t,rfl,rfl⟩ | ⟨x,t,rfl,rfl⟩
  ·rcases keyIs_shape hv with ⟨j,u,rfl,rfl⟩ | ⟨y,u,rfl,rfl⟩
   ·rw [key_ll] at h;exact wpAny_eqBool_int h
   ·rw [key_lr] at h;exact SeqAt.EqAt.int_str i t y u _ _ _ _ h
  ·rcases keyIs_shape hv with ⟨j,u,rfl,rfl⟩ | ⟨y,u,rfl,rfl⟩
   ·rw [key_rl] at h;exact SeqAt.EqAt.str_int x t j u _ _ _ _ h
   ·rw [key_rr] at h;exact wpAny_eqBool_str h
 «strs»:=fun k x t v h=>by
  rcases keyIs_shape h with ⟨i,u,rfl,e⟩ | ⟨y,u,rfl,e⟩
  ·exact nomatch e
  ·injection e with e1 _
   subst e1
   cases v <;> rfl
theorem mixKind_int (prog:Program) (w:World) (i:Int) (t:Tok):(mixKind prog w).is (.inl i) (.int i t)=true:=keyIs_int i t
theorem mixKind_str (prog:Program) (w:World) (x:Str) (t:Tok):(mixKind prog w).is (.inr x) (.str x t)=true:=keyIs_str x t
inductive V where
 | non | bl (b:Bool) | int (i:Int) | str (x:Str) | byt (b:Array UInt8) | flt (b:UInt64) | ref (a:Addr) | ty (n:String)
 deriving DecidableEq
def RelV:V→Value→Prop
 | .non,u=>u=Value.none
 | .bl b,u=>u=Value.bool b
 | .int i,u=>∃ t,u=Value.int i t
 | .str x,u=>∃ t,u=Value.str x t
 | .byt b,u=>∃ t,u=Value.bytes b t
 | .flt b,u=>∃ t,u=Value.float b t
 | .ref a,u=>u=Value.ref a
 | .ty n,u=>u=Value.type n
abbrev Vals:List V→List Value→Prop:=Paired RelV
theorem Vals.length {xs:List V}{us:List Value} (r:Vals xs us):xs.length=us.length:=Paired.length r
theorem Vals.get:∀ {xs:List V}{us:List Value}{i:Nat}{x:V},Vals xs us→xs[i]? = some x→∃ u,us[i]? = some u∧RelV x u
 | _,_,_,_,.nil,e=>by simp at e
 | _,_,0,_,.cons r _,e=>by simp at e;subst e;exact ⟨_,rfl,r⟩
 | _,_,i + 1,x,.cons _ t,e=>by
  obtain ⟨u,h1,h2⟩:=Vals.get (i:=i) (x:=x) t (by simpa using e)
  exact ⟨u,by simpa using h1,h2⟩
theorem Vals.append:∀ {xs ys:List V}{us ws:List Value},Vals xs us→Vals ys ws→Vals (xs++ys) (us++ws)
 | _,_,_,_,.nil,s=>s
 | _,_,_,_,.cons r t,s=>.cons r (Vals.append t s)
theorem Vals.take:∀ {xs:List V}{us:List Value} (n:Nat),Vals xs us→Vals (xs.take n) (us.take n)
 | _,_,0,_=>.nil
 | _,_,_ + 1,.nil=>.nil
 | _,_,n + 1,.cons r t=>.cons r (Vals.take n t)
theorem Vals.drop:∀ {xs:List V}{us:List Value} (n:Nat),Vals xs us→Vals (xs.drop n) (us.drop n)
 | _,_,0,r=>r
 | _,_,_ + 1,.nil=>.nil
 | _,_,n + 1,.cons _ t=>Vals.drop n t
def RelO:Option V→Option Value→Prop
 | some v,some u=>RelV v u
 | none,none=>True
 | _,_=>False
def KV {κ:Type}:List (κ×V)→List (κ×Value)→Prop:=Paired fun (p:κ×V) (q:κ×Value)=>p.1=q.1∧RelV p.2 q.2
def kV:Key→V
 | .inl i=>.int i
 | .inr x=>.str x
def PlainT (h:Heap) (a:Addr) (items:Array Value):Prop:=∃ o,h.get? a=some o∧o.cls=.type "tuple"∧o.dict=none∧∃ n,o.data=.seq items n
theorem PlainT.isTup {h:Heap}{a:Addr}{items:Array Value} (x:PlainT h a items):IsTup h a items:=let ⟨o,e,c,_,d⟩:=x;⟨o,e,c,d⟩
theorem PlainT.lt {h:Heap}{a:Addr}{items:Array Value} (x:PlainT h a items):a < h.objs.size:=let ⟨_,e,_⟩:=x;Heap.lt_size e
inductive HO where
 | lst (xs:List V)
 | tup (xs:List V)
 | dK (kvs:List (Key×V)) | dT (kvs:List (List Key×V))
 | set (S:Int→Bool) (n:Nat)
 | ins (C dx:Addr) (fs:List (Str×V))
 | own (x:Addr)
 | xd (fs:List (Str×V))
 | met (f x:Addr)
 | rng (lo hi:Int)
 | frz (o:Obj) (u:HO)
 | tbl (ps:Array Value)
 | ext (φ:Heap→Prop)
abbrev Hp:=Addr→Option HO
def upd (H:Hp) (a:Addr) (o:HO):Hp:=fun b=>if b=a then some o else H b
theorem upd_same {H:Hp}{a:Addr}{o:HO}:upd H a o a=some o:=by unfold upd;rw [if_pos rfl]
theorem upd_ne {H:Hp}{a b:Addr}{o:HO} (h:b≠a):upd H a o b=H b:=by unfold upd;rw [if_neg h]
theorem ne_of {H:Hp}{a b:Addr}{o u:HO} (h:H a=some o) (h':H b=some u) (d:o≠u):a≠b:=by
 intro e;subst e;rw [h] at h';exact d (Option.some.inj h')
theorem ne_of_none {H:Hp}{a b:Addr}{o:HO} (h:H a=some o) (h':H b=none):a≠b:=by
 intro e;subst e;rw [h] at h';cases h'
section
variable (P:Program) (w:World)
def ObjOk (H:Hp) (h:Heap) (a:Addr):HO→Prop
 | .lst xs=>xs.length≤sizeLine∧∃ (its:List Value) (n:Nat),Vals xs its∧h.get? a=some { cls:=.type "list",data:=.seq its.toArray n }
 | .tup xs=>xs.length≤sizeLine∧∃ its:List Value,Vals xs its∧PlainT h a its.toArray
 | .dK kvs=>kvs.length≤sizeLine∧(a == sysModules)=false∧∃ vs,KV kvs vs∧h.DictOf (mixKind P w) a vs
 | .dT kvs=>kvs.length≤sizeLine∧(a == sysModules)=false∧∃ xs:List (List Key×Addr×Value),
   Paired (fun (p:List Key×V) (q:List Key×Addr×Value)=>p.1=q.1∧H q.2.1=some (.tup (p.1.map kV))∧RelV p.2 q.2.2) kvs xs ∧
   ∃ o es ep,h.get? a=some o∧o.ExactDict∧o.data=.dict es ep∧es.toList=xs.map (entryOfKey (tupleKind (mixKind P w)))∧(xs.map (·.1)).Nodup
 | .set S n=>h.SetOf (intKind P w) a S n
 | .ins C dx fs=>H dx=some (.own a)∧fs.length≤1000∧dx≠a∧h.get? a=some (PySem.W.instObj C dx) ∧
   ∃ mA,h.Ns1 dx mA∧(∀ f,RelO (fs.lookup f) (mA f))∧PySem.Within mA (fs.map (·.1))
 | .own _=>∃ o,h.get? a=some o
 | .xd fs=>∃ mA,h.Ns1 a mA∧∀ f,RelO (fs.lookup f) (mA f)
 | .rng lo hi=>∃ t u v,h.get? a=some { cls:=.type "range",data:=.fields #[.int lo t,.int hi u,.int 1 v] }
 | .frz o u=>h.get? a=some o∧ObjOk H h a u
 | .tbl ps=>h.get? a=some { cls:=.none,data:=.fields ps }
 | .met f x=>h.get? a=some (PySem.W.methodObj (.ref f) (.ref x))
 | .ext φ=>φ h∧(∃ o,h.get? a=some o)∧∀ h1 h2:Heap,φ h1→(∀ o,h1.get? a=some o→h2.get? a=some o)→φ h2
def HOk (H:Hp) (h:Heap):Prop:=∀ a o,H a=some o→ObjOk P w H h a o
end
section
variable {P:Program}{w:World}{H H':Hp}{h h':Heap}{a:Addr}{o:HO}
theorem ObjOk.lt (x:ObjOk P w H h a o):a < h.objs.size:=by
 cases o with
 | lst xs=>obtain ⟨_,_,_,_,e⟩:=x;exact Heap.lt_size e
 | tup xs=>obtain ⟨_,_,_,p⟩:=x;exact p.lt
 | dK kvs=>obtain ⟨_,_,_,_,o,_,_,e,_⟩:=x;exact Heap.lt_size e
 | dT kvs=>obtain ⟨_,_,_,_,o,_,_,e,_⟩:=x;exact Heap.lt_size e
 | set S n=>obtain ⟨o,_,_,_,e,_⟩:=x;exact Heap.lt_size e
 | ins C dx fs=>obtain ⟨_,_,_,e,_⟩:=x;exact Heap.lt_size e
 | own y=>obtain ⟨_,e⟩:=x;exact Heap.lt_size e
 | xd fs=>obtain ⟨_,⟨_,_,_,e,_⟩,_⟩:=x;exact Heap.lt_size e
 | rng lo hi=>obtain ⟨_,_,_,e⟩:=x;exact Heap.lt_size e
 | frz ob u=>obtain ⟨e,_⟩:=x;exact Heap.lt_size e
 | tbl ps=>exact Heap.lt_size (show h.get? a=some _ from x)
 | met f y=>exact Heap.lt_size (show h.get? a=some _ from x)
 | ext φ=>obtain ⟨_,⟨_,e⟩,_⟩:=x;exact Heap.lt_size e
theorem Paired.mapP {α β:Type}{F G:α→β→Prop}:∀ {l₁:List α}{l₂:List β},Paired F l₁ l₂→(∀ a b,F a b→G a b)→Paired G l₁ l₂
 | _,_,.nil,_=>.nil
 | _,_,.cons r t,f=>.cons (f _ _ r) (Paired.mapP t f)
theorem ObjOk.stay (x:ObjOk P w H h a o) (k:∀ b u,(b=a∨H b=some (.own a))→h.get? b=some u→h'.get? b=some u)
  (ho:∀ b,H b=some (.own a)→H' b=some (.own a)) (ht:∀ b xs,H b=some (.tup xs)→H' b=some (.tup xs)):ObjOk P w H' h' a o:=by
 induction o with
 | lst xs=>obtain ⟨z,its,n,r,e⟩:=x;exact ⟨z,its,n,r,k _ _ (.inl rfl) e⟩
 | tup xs=>obtain ⟨z,its,r,ob,e,c⟩:=x;exact ⟨z,its,r,ob,k _ _ (.inl rfl) e,c⟩
 | dK kvs=>obtain ⟨z,y,vs,r,ob,es,ep,e,c⟩:=x;exact ⟨z,y,vs,r,ob,es,ep,k _ _ (.inl rfl) e,c⟩
 | dT kvs=>
  obtain ⟨z,y,xs,r,ob,es,ep,e,c⟩:=x
  exact ⟨z,y,xs,Paired.mapP r fun p q z=>⟨z.1,ht _ _ z.2.1,z.2.2⟩,ob,es,ep,k _ _ (.inl rfl) e,c⟩
 | set S n=>obtain ⟨ob,es,ep,t,e,c⟩:=x;exact ⟨ob,es,ep,t,k _ _ (.inl rfl) e,c⟩
 | ins C dx fs=>
  obtain ⟨d,z,ne,e,mA,⟨od,es,ep,e2,c⟩,r⟩:=x
  exact ⟨ho _ d,z,ne,k _ _ (.inl rfl) e,mA,⟨od,es,ep,k _ _ (.inr d) e2,c⟩,r⟩
 | own y=>obtain ⟨ob,e⟩:=x;exact ⟨ob,k _ _ (.inl rfl) e⟩
 | xd fs=>obtain ⟨mA,⟨od,es,ep,e,c⟩,r⟩:=x;exact ⟨mA,⟨od,es,ep,k _ _ (.inl rfl) e,c⟩,r⟩
 | rng lo hi=>obtain ⟨t,u,v,e⟩:=x;exact ⟨t,u,v,k _ _ (.inl rfl) e⟩
 | frz ob u ih=>obtain ⟨e,q⟩:=x;exact ⟨k _ _ (.inl rfl) e,ih q⟩
 | tbl ps=>
  have e:h.get? a=some { cls:=.none,data:=.fields ps }:=x
  show h'.get? a=some { cls:=.none,data:=.fields ps }
  exact k a _ (.inl rfl) e
 | met f y=>
  have e:h.get? a=some (PySem.W.methodObj (.ref f) (.ref y)):=x
  show h'.get? a=some (PySem.W.methodObj (.ref f) (.ref y))
  exact k a _ (.inl rfl) e
 | ext φ=>obtain ⟨p,⟨o,e⟩,st⟩:=x;exact ⟨st _ _ p fun o q=>k _ _ (.inl rfl) q,⟨o,k _ _ (.inl rfl) e⟩,st⟩
theorem HOk.lt (x:HOk P w H h) (e:H a=some o):a < h.objs.size:=(x a o e).lt
theorem HOk.fresh (x:HOk P w H h) (e:h.objs.size≤a):H a=none:=by
 cases q:H a with
 | none=>rfl
 | some u=>exact absurd (Nat.lt_of_lt_of_le (x.lt q) e) (Nat.lt_irrefl _)
theorem HOk.kept (x:HOk P w H h) (k:∀ b u,h.get? b=some u→h'.get? b=some u):HOk P w H h':=fun a o e=>
 (x a o e).stay (fun b u _ q=>k b u q) (fun _ q=>q) fun _ _ q=>q
theorem HOk.laid (x:HOk P w H h) (k:∀ b u,h.get? b=some u→h'.get? b=some u) (hp:h.objs.size≤a) (new:ObjOk P w (upd H a o) h' a o):HOk P w (upd H a o) h':=fun b u e=>by
 have hn:=x.fresh hp
 by_cases hb:b=a
 ·subst hb;rw [upd_same] at e;cases e;exact new
 ·rw [upd_ne hb] at e
  exact (x b u e).stay (fun c v _ q=>k c v q) (fun c q=>by rw [upd_ne (ne_of_none q hn)];exact q) fun c xs q=>by rw [upd_ne (ne_of_none q hn)];exact q
end
def Rd (H:Hp) (a:Addr) (u:HO):Prop:=H a=some u∨∃ o,H a=some (.frz o u)
theorem Rd.ok {P:Program}{w:World}{H:Hp}{h:Heap}{a:Addr}{u:HO} (r:Rd H a u) (x:HOk P w H h):ObjOk P w H h a u:=by
 rcases r with r | ⟨o,r⟩
 ·exact x a u r
 ·obtain ⟨_,q⟩:=x a _ r
  exact q
def Mut:Option HO→Prop
 | some (.lst _)=>True
 | some (.dK _)=>True
 | some (.dT _)=>True
 | some (.set _ _)=>True
 | some (.ins _ _ _)=>True
 | some (.ext _)=>True
 | _=>False
section
variable {P:Program}{w:World}{H:Hp}{h h':Heap}{x e:Addr}{o':HO}
theorem HOk.write (ok:HOk P w H h) (mu:Mut (H x)) (he:e=x∨H e=some (.own x)) (k:∀ b u,b≠e→h.get? b=some u→h'.get? b=some u) (heo:∃ u,h'.get? e=some u)
  (new:ObjOk P w (upd H x o') h' x o'):HOk P w (upd H x o') h':=fun b u q=>by
 have nown:∀ c y,H c=some (.own y)→c≠x:=fun c y r z=>by subst z;rw [r] at mu;exact mu
 have ntup:∀ c xs,H c=some (.tup xs)→c≠x:=fun c xs r z=>by subst z;rw [r] at mu;exact mu
 by_cases hb:b=x
 ·subst hb;rw [upd_same] at q;cases q;exact new
 ·rw [upd_ne hb] at q
  by_cases hbe:b=e
  ·have q':H b=some (.own x):=by
    rcases he with z | z
    ·exact absurd (hbe.trans z) hb
    ·rw [hbe];exact z
   rw [q] at q';cases q'
   obtain ⟨v,hv⟩:=heo
   exact ⟨v,by rw [hbe];exact hv⟩
  ·refine (ok b u q).stay (fun c v hc r=>k c v ?_ r) (fun c r=>by rw [upd_ne (nown c b r)];exact r) fun c xs r=>by rw [upd_ne (ntup c xs r)];exact r
   rcases hc with rfl | hc
   ·exact hbe
   ·rintro rfl
    rcases he with z | z
    ·exact nown c b hc z
    ·rw [hc] at z;cases z;exact hb rfl
end
structure Un (fs ex:List Addr) (H H':Hp) (h h':Heap):Prop where
 keep:∀ b o,h.get? b=some o→H b=none→b∉fs→b∉ex→h'.get? b=some o
 slot:∀ b o,h.get? b=some o→H b=none→b∈fs→b∉ex→∃ sl,h'.get? b=some { o with slots:=sl }
 free:∀ b o,h.get? b=some o→H b=none→b∉ex→H' b=none
 there:∀ b o,h.get? b=some o→b∉ex→∃ o',h'.get? b=some o'
 tups:∀ b xs,H b=some (.tup xs)→H' b=some (.tup xs)
 frzs:∀ b o u,H b=some (.frz o u)→H' b=some (.frz o u)
 tbls:∀ b ps,H b=some (.tbl ps)→∃ more,H' b=some (.tbl (ps++more))
section
variable {fs fs' ex ex':List Addr}{H H1 H2:Hp}{h h1 h2 h':Heap}{a x e:Addr}{o:HO}
theorem Un.any (u:Un fs ex H H1 h h1) {b:Addr}{ob:Obj} (q:h.get? b=some ob) (n:H b=none) (hx:b∉ex):∃ sl,h1.get? b=some { ob with slots:=sl }:=by
 by_cases hb:b∈fs
 ·exact u.slot b ob q n hb hx
 ·exact ⟨ob.slots,u.keep b ob q n hb hx⟩
theorem Un.kept (k:∀ b u,h.get? b=some u→h'.get? b=some u):Un fs ex H H h h':=
 ⟨fun b ob q _ _ _=>k b ob q,fun b ob q _ _ _=>⟨ob.slots,k b ob q⟩,fun _ _ _ n _=>n,fun b ob q _=>⟨ob,k b ob q⟩,fun _ _ q=>q,fun _ _ _ q=>q,fun _ ps q=>⟨#[],by rw [q];simp⟩⟩
theorem Un.refl:Un fs ex H H h h:=Un.kept fun _ _ q=>q
theorem Un.laid (k:∀ b u,h.get? b=some u→h'.get? b=some u) (hp:h.objs.size≤a) (hn:H a=none):Un fs ex H (upd H a o) h h' where
 keep:=fun b u q _ _ _=>k b u q
 slot:=fun b u q _ _ _=>⟨u.slots,k b u q⟩
 free:=fun b u q n _=>by rw [upd_ne (Nat.ne_of_lt (Nat.lt_of_lt_of_le (Heap.lt_size q) hp))];exact n
 there:=fun b u q _=>⟨u,k b u q⟩
 tups:=fun b xs q=>by rw [upd_ne (ne_of_none q hn)];exact q
 frzs:=fun b u xs q=>by rw [upd_ne (ne_of_none q hn)];exact q
 tbls:=fun b ps q=>⟨#[],by rw [upd_ne (ne_of_none q hn),q];simp⟩
theorem Un.write (mu:Mut (H x)) (he:e=x∨H e=some (.own x)) (k:∀ b u,b≠e→h.get? b=some u→h'.get? b=some u) (heo:∃ u,h'.get? e=some u):Un fs ex H (upd H x o) h h':=by
 have hx:∀ b,H b=none→b≠x:=fun b n z=>by subst z;rw [n] at mu;exact mu
 have hb:∀ b,H b=none→b≠e:=fun b n z=>by
  subst z
  rcases he with r | r
  ·exact hx b n r
  ·rw [n] at r;cases r
 have hm:∀ b u,H b=some u→¬ Mut (some u)→b≠x:=fun b u q nm z=>by subst z;rw [q] at mu;exact nm mu
 refine ⟨fun b u q n _ _=>k b u (hb b n) q,fun b u q n _ _=>⟨u.slots,k b u (hb b n) q⟩,fun b u q n _=>by rw [upd_ne (hx b n)];exact n,fun b u q _=>?_,
  fun b xs q=>by rw [upd_ne (hm b _ q fun z=>z)];exact q,fun b u xs q=>by rw [upd_ne (hm b _ q fun z=>z)];exact q,fun b ps q=>⟨#[],by rw [upd_ne (hm b _ q fun z=>z),q];simp⟩⟩
 by_cases hbe:b=e
 ·subst hbe;exact heo
 ·exact ⟨u,k b u hbe q⟩
end
def trk (h:Heap) (H:Hp):List Addr:=(List.range h.objs.size).filter fun a=>(H a).isSome
def hidT (h:Heap) (H:Hp):Heap:=PySem.W.hideAll h (trk h H)
theorem hidT_size (h:Heap) (H:Hp):(hidT h H).objs.size=h.objs.size:=PySem.W.hideAll_size _ _
theorem hidT_get {h:Heap}{H:Hp}{b:Addr}{o:Obj} (e:h.get? b=some o) (n:H b=none):(hidT h H).get? b=some o:=
 PySem.W.hideAll_get _ e fun hm=>by
  have q:(H b).isSome=true:=(List.mem_filter.mp hm).2
  rw [n] at q;simp at q
theorem of_hidT {h:Heap}{H:Hp}{b:Addr}{o:Obj} (e:(hidT h H).get? b=some o):h.get? b=some o∧H b=none:=by
 have e':h.get? b=some o:=PySem.W.of_hideAll (trk h H) e
 refine ⟨e',?_⟩
 cases q:H b with
 | none=>rfl
 | some x=>
  have hm:b∈trk h H:=List.mem_filter.mpr ⟨List.mem_range.mpr (Heap.lt_size e'),by simp [q]⟩
  have z:(hidT h H).get? b=none:=PySem.W.hideAll_none (trk h H) hm
  rw [z] at e;cases e
structure Mod (K:PySem.W.Frag) (mg:Str→Option Value) (base:Heap):Prop where
 kin:K.In base
 glob:base.Ns mainGlobals mg
 blt:∃ mb,base.Ns builtinsNs mb∧∀ x:Str,x≠"__name__"→mb x=bootBuiltins x
 nolimit:base.NoLimit
structure Cx where
 prog:Program
 w:World
 K:PySem.W.Frag
 mg:Str→Option Value
 base:Heap
 A:Around
 N:List Str
 s₀:Shared
 H₀:Hp
 env:Env
 outer:List Env
 stack:List Env
 ex:List Addr
 fn:Str→Bool
 calm:Bool
 pn:List (Addr×Obj)
 xe:Value→Shared→Prop
def frs (l:List Env):List Addr:=l.filterMap (·.frame)
abbrev Cx.fs (X:Cx):List Addr:=frs X.outer
def Vis (sc:Scope) (x:Str):Prop:=sc.names.lookup x=some .local∨sc.names.lookup x=some .cell∨sc.names.lookup x=some .free
def Loc (sc:Scope) (x:Str):Prop:=sc.names.lookup x=some .local∨sc.names.lookup x=some .cell
def Look (env:Env) (h:Heap) (m:Str→Option Value) (x:Str) (u:Value):Prop:=
 (env.kindOf x=some .local∧m x=some u)∨((env.kindOf x=some .cell∨env.kindOf x=some .free)∧∃ c,env.cells.lookup x=some c∧h.IsCell c (some u))
structure Cx.Ok (X:Cx):Prop where
 mod:Mod X.K X.mg X.base
 kind:X.env.scope.kind=.function
 glob:X.env.globals=mainGlobals
 blt:X.env.builtins=builtinsNs
 above:X.s₀.heap.objs.size≤X.env.locals
 inj:∀ x y c,X.env.cells.lookup x=some c→X.env.cells.lookup y=some c→x=y
 has:∀ x,(X.env.kindOf x=some .cell∨X.env.kindOf x=some .free)→∃ c,X.env.cells.lookup x=some c
 cab:∀ x c,X.fn x=true→X.env.cells.lookup x=some c→X.s₀.heap.objs.size≤c
 hd:X.calm=true→X.A.handled=none
 frames:X.A.frames=some X.stack
 stk:X.stack=X.outer∨(X.stack=X.env::X.outer∧X.env.frame=some X.env.locals)
 exf:∀ b∈X.ex,b≠X.env.locals∧∀ x c,X.env.cells.lookup x=some c→c≠b
 bs:∀ b o,X.base.get? b=some o→X.s₀.heap.get? b=some o∧X.H₀ b=none
 bsz:X.base.objs.size≤X.s₀.heap.objs.size
 noex:∀ b o,X.base.get? b=some o→b∉X.ex
 exfs:∀ b∈X.ex,b∉X.fs
 funs:X.s₀.heap.FunFrames X.base X.outer
 frf:∀ b∈X.fs,X.H₀ b=none
structure Inv (X:Cx) (pins:List (Addr×Obj)) (σ:List (Option V)) (H:Hp) (s:Shared):Prop where
 ok:X.Ok
 os:s.os=X.s₀.os
 bare:AllBare s.gens
 base:Un X.fs X.ex X.H₀ H X.s₀.heap s.heap
 loc:∃ m,s.heap.Ns X.env.locals m∧∀ (i:Nat) (x:Str) (v:V),X.N[i]? = some x→σ[i]? = some (some v)→Vis X.env.scope x→∃ u,RelV v u∧Look X.env s.heap m x u
 cell:∀ x c,X.env.cells.lookup x=some c→∃ v,s.heap.IsCell c v
 free:H X.env.locals=none
 freeC:∀ x c,X.env.cells.lookup x=some c→H c=none
 pin:∀ p∈X.pn++pins,s.heap.get? p.1=some p.2∧H p.1=none∧p.1≠X.env.locals∧p.1∉X.fs∧∀ v,p.2.data≠.cell v
 hok:HOk X.prog X.w H s.heap
 len:σ.length=X.N.length
section
variable {X:Cx}{pins:List (Addr×Obj)}{σ:List (Option V)}{H H':Hp}{s:Shared}{h':Heap}
theorem Cx.Ok.nofr (ok:X.Ok) {b:Addr}{o:Obj} (e:X.base.get? b=some o):b∉X.fs:=fun hb=>by
 have:=(ok.funs.mem hb).1
 rw [e] at this;cases this
theorem Inv.bs (I:Inv X pins σ H s):∀ b o,X.base.get? b=some o→s.heap.get? b=some o∧H b=none:=fun b o e=>
 ⟨I.base.keep b o (I.ok.bs b o e).1 (I.ok.bs b o e).2 (I.ok.nofr e) (I.ok.noex b o e),I.base.free b o (I.ok.bs b o e).1 (I.ok.bs b o e).2 (I.ok.noex b o e)⟩
theorem Inv.bk (I:Inv X pins σ H s):∀ b o,X.base.get? b=some o→s.heap.get? b=some o:=fun b o e=>(I.bs b o e).1
theorem Inv.mod (I:Inv X pins σ H s):Mod X.K X.mg X.base:=I.ok.mod
theorem Inv.kIn (I:Inv X pins σ H s):X.K.In s.heap:=I.ok.mod.kin.keeps I.bk
theorem Inv.lt (I:Inv X pins σ H s):X.env.locals < s.heap.objs.size:=let ⟨_,hn,_⟩:=I.loc;hn.lt
theorem Inv.sz (I:Inv X pins σ H s):X.s₀.heap.objs.size≤s.heap.objs.size:=Nat.le_trans I.ok.above (Nat.le_of_lt I.lt)
theorem Inv.nofs (I:Inv X pins σ H s) {a:Addr} (h:s.heap.objs.size≤a):a∉X.fs:=fun hb=>by
 obtain ⟨_,o,ho,_⟩:=I.ok.funs.mem hb
 exact absurd (Nat.lt_of_lt_of_le (Heap.lt_size ho) (Nat.le_trans I.sz h)) (Nat.lt_irrefl _)
theorem Inv.cne (I:Inv X pins σ H s):∀ x c,X.env.cells.lookup x=some c→c≠X.env.locals:=fun x c e z=>by
 obtain ⟨v,o,ho,hd⟩:=I.cell x c e
 obtain ⟨m,⟨o',es,ep,ho',hd',_⟩,_⟩:=I.loc
 rw [z,ho'] at ho;cases ho;rw [hd'] at hd;cases hd
theorem Inv.funs (I:Inv X pins σ H s):s.heap.FunFrames X.base X.outer:=by
 have all:∀ (l:List Env),(∀ b∈frs l,b∈X.fs)→X.s₀.heap.FunFrames X.base l→s.heap.FunFrames X.base l:=by
  intro l
  induction l with
  | nil=>intro _ _;trivial
  | cons env r ih=>
   intro hs hl
   obtain ⟨hk,⟨L,o,hf,hn,ho,hd⟩,hr⟩:=hl
   have hL:L∈X.fs:=hs L (by unfold frs;rw [List.filterMap_cons,hf];exact List.mem_cons_self)
   obtain ⟨sl,e⟩:=I.base.slot L o ho (I.ok.frf L hL) hL fun z=>I.ok.exfs L z hL
   exact ⟨hk,⟨L,_,hf,hn,e,hd⟩,ih (fun b hb=>hs b (by unfold frs;rw [List.filterMap_cons,hf];exact List.mem_cons_of_mem _ hb)) hr⟩
 exact all X.outer (fun _ hb=>hb) I.ok.funs
theorem Inv.stack (I:Inv X pins σ H s):s.heap.FunFrames X.base X.stack:=by
 rcases I.ok.stk with e | ⟨e,hf⟩
 ·rw [e];exact I.funs
 ·rw [e]
  obtain ⟨m,hn,_⟩:=I.loc
  refine .cons (by rw [I.ok.kind];decide) hf hn ?_ I.funs
  exact Heap.get?_none_of_le (Nat.le_trans I.ok.bsz I.ok.above)
theorem Inv.stkSub (I:Inv X pins σ H s):∀ b∈frs X.stack,b∈X.env.locals::X.fs:=fun b hb=>by
 rcases I.ok.stk with e | ⟨e,hf⟩
 ·rw [e] at hb;exact List.mem_cons_of_mem _ hb
 ·rw [e] at hb
  unfold frs at hb
  rw [List.filterMap_cons,hf] at hb
  exact hb
theorem Inv.stkFree (I:Inv X pins σ H s):∀ b∈frs X.stack,H b=none:=fun b hb=>by
 rcases List.mem_cons.mp (I.stkSub b hb) with e | hb
 ·rw [e];exact I.free
 ·obtain ⟨_,o,ho,_⟩:=I.ok.funs.mem hb
  exact I.base.free b o ho (I.ok.frf b hb) fun z=>I.ok.exfs b z hb
theorem Inv.step {g':Array GenState}{t':Nat}{d':Drawn}{ch:List Addr} (I:Inv X pins σ H s)
  (hch:∀ b∈ch,(b∈X.ex∨X.s₀.heap.objs.size≤b)∧b≠X.env.locals∧(∀ x c,X.env.cells.lookup x=some c→c≠b)∧∀ p∈X.pn++pins,p.1≠b)
  (keep:∀ b o,b≠X.env.locals→b∉X.fs→b∉ch→s.heap.get? b=some o→H b=none→h'.get? b=some o)
  (slot:∀ b o,b≠X.env.locals→b∈X.fs→b∉ch→s.heap.get? b=some o→H b=none→∃ sl,h'.get? b=some { o with slots:=sl }) (free:∀ b o,b∉ch→s.heap.get? b=some o→H b=none→H' b=none)
  (there:∀ b o,b∉ch→s.heap.get? b=some o→∃ o',h'.get? b=some o')
  (tups:∀ b xs,H b=some (.tup xs)→H' b=some (.tup xs)) (frzs:∀ b o u,H b=some (.frz o u)→H' b=some (.frz o u)) (tbls:∀ b ps,H b=some (.tbl ps)→∃ more,H' b=some (.tbl (ps++more)))
  (ns:∀ m,s.heap.Ns X.env.locals m→h'.Ns X.env.locals m) (hok:HOk X.prog X.w H' h') (hg:AllBare g') :
  Inv X pins σ H' { s with heap:=h',gens:=g',drawn:=d',toks:=t' }:=by
 have neL:∀ b o,X.s₀.heap.get? b=some o→b≠X.env.locals:=fun b o e=>Nat.ne_of_lt (Nat.lt_of_lt_of_le (Heap.lt_size e) I.ok.above)
 have neC:∀ b o,X.s₀.heap.get? b=some o→b∉X.ex→b∉ch:=fun b o e hx hb=>by
  rcases (hch b hb).1 with z | z
  ·exact hx z
  ·exact absurd (Nat.lt_of_lt_of_le (Heap.lt_size e) z) (Nat.lt_irrefl _)
 have cellK:∀ x c,X.env.cells.lookup x=some c→∀ v,s.heap.IsCell c v→h'.IsCell c v:=fun x c e v ⟨o,ho,hd⟩=>by
  have nch:c∉ch:=fun z=>(hch c z).2.2.1 x c e rfl
  by_cases hc:c∈X.fs
  ·obtain ⟨sl,q⟩:=slot c o (I.cne x c e) hc nch ho (I.freeC x c e)
   exact ⟨_,q,hd⟩
  ·exact ⟨o,keep c o (I.cne x c e) hc nch ho (I.freeC x c e),hd⟩
 refine ⟨I.ok,I.os,hg,⟨fun b o e n hb hx=>?_,fun b o e n hb hx=>?_,fun b o e n hx=>?_,fun b o e hx=>?_,fun b xs e=>tups b xs (I.base.tups b xs e),fun b o xs e=>frzs b o xs (I.base.frzs b o xs e),fun b ps e=>?_⟩,?_,fun x c e=>?_,?_,fun x c e=>?_,fun p hp=>?_,hok,I.len⟩
 ·exact keep b o (neL b o e) hb (neC b o e hx) (I.base.keep b o e n hb hx) (I.base.free b o e n hx)
 ·obtain ⟨sl,e1⟩:=I.base.slot b o e n hb hx
  obtain ⟨sl',e2⟩:=slot b _ (neL b o e) hb (neC b o e hx) e1 (I.base.free b o e n hx)
  exact ⟨sl',e2⟩
 ·obtain ⟨o',e1⟩:=I.base.there b o e hx
  exact free b o' (neC b o e hx) e1 (I.base.free b o e n hx)
 ·obtain ⟨o',e1⟩:=I.base.there b o e hx
  exact there b o' (neC b o e hx) e1
 ·obtain ⟨m1,e1⟩:=I.base.tbls b ps e
  obtain ⟨m2,e2⟩:=tbls b _ e1
  exact ⟨m1++m2,by rw [e2,Array.append_assoc]⟩
 ·obtain ⟨m,hn,hl⟩:=I.loc
  refine ⟨m,ns m hn,fun i x v e1 e2 e3=>?_⟩
  obtain ⟨u,r,l⟩:=hl i x v e1 e2 e3
  refine ⟨u,r,?_⟩
  rcases l with l | ⟨k,c,e,z⟩
  ·exact .inl l
  ·exact .inr ⟨k,c,e,cellK x c e _ z⟩
 ·obtain ⟨v,z⟩:=I.cell x c e
  exact ⟨v,cellK x c e v z⟩
 ·obtain ⟨m,⟨o,_,_,ho,_⟩,_⟩:=I.loc
  exact free _ o (fun z=>(hch _ z).2.1 rfl) ho I.free
 ·obtain ⟨v,o,ho,hd⟩:=I.cell x c e
  exact free c o (fun z=>(hch c z).2.2.1 x c e rfl) ho (I.freeC x c e)
 ·obtain ⟨e,n,ne,nf,d⟩:=I.pin p hp
  have nch:p.1∉ch:=fun z=>(hch p.1 z).2.2.2 p hp rfl
  exact ⟨keep p.1 p.2 ne nf nch e n,free p.1 p.2 nch e n,ne,nf,d⟩
theorem Inv.un {t':Nat} (I:Inv X pins σ H s) (u:Un X.fs [] H H' s.heap h') (hok:HOk X.prog X.w H' h'):Inv X pins σ H' { s with heap:=h',toks:=t' }:=by
 obtain ⟨m,⟨o,es,ep,ho,r⟩,_⟩:=id I.loc
 obtain ⟨sl,hL⟩:=u.any ho I.free (by simp)
 exact I.step (g':=s.gens) (d':=s.drawn) (ch:=[]) (fun _ z=>nomatch z) (fun b o _ hb _ e n=>u.keep b o e n hb (by simp)) (fun b o _ hb _ e n=>u.slot b o e n hb (by simp)) (fun b o _ e n=>u.free b o e n (by simp)) (fun b o _ e=>u.there b o e (by simp)) u.tups u.frzs u.tbls (fun m' hm=>by
  obtain ⟨o',es',ep',ho',r'⟩:=hm
  rw [ho] at ho';cases ho'
  exact ⟨_,es',ep',hL,r'⟩) hok I.bare
theorem Inv.call {g':Array GenState}{t':Nat}{d':Drawn}{ch:List Addr} (I:Inv X pins σ H s) (u:Un (frs X.stack) ch H H' s.heap h') (hok:HOk X.prog X.w H' h') (hg:AllBare g')
  (hch:∀ b∈ch,(b∈X.ex∨X.s₀.heap.objs.size≤b)∧b≠X.env.locals∧(∀ x c,X.env.cells.lookup x=some c→c≠b)∧∀ p∈X.pn++pins,p.1≠b) :
  Inv X pins σ H' { s with heap:=h',gens:=g',drawn:=d',toks:=t' }:=by
 obtain ⟨m,⟨o,es,ep,ho,r⟩,_⟩:=id I.loc
 obtain ⟨sl,hL⟩:=u.any ho I.free fun z=>(hch _ z).2.1 rfl
 exact I.step (ch:=ch) hch (fun b o hL hb hc e n=>u.keep b o e n (fun z=>(List.mem_cons.mp (I.stkSub b z)).elim hL hb) hc) (fun b o _ _ hc e n=>u.any e n hc) (fun b o hc e n=>u.free b o e n hc) (fun b o hc e=>u.there b o e hc) u.tups u.frzs u.tbls (fun m' hm=>by
  obtain ⟨o',es',ep',ho',r'⟩:=hm
  rw [ho] at ho';cases ho'
  exact ⟨_,es',ep',hL,r'⟩) hok hg
theorem Inv.turned {t':Nat}{it:Addr} (I:Inv X pins σ H s) (k:∀ b o,b≠it→s.heap.get? b=some o→h'.get? b=some o) (hn:H it=none) (hL:it≠X.env.locals)
  (h1:it∈X.ex∨X.s₀.heap.objs.size≤it) (h2:∀ x c,X.env.cells.lookup x=some c→c≠it) (h3:∀ p∈X.pn++pins,p.1≠it):Inv X pins σ H { s with heap:=h',toks:=t' }:=by
 have nit:∀ b u,H b=some u→b≠it:=fun b u e z=>by rw [z,hn] at e;cases e
 refine I.step (g':=s.gens) (d':=s.drawn) (ch:=[it]) (fun b hb=>?_) (fun b o _ _ hc e _=>k b o (fun z=>hc (by simp [z])) e) (fun b o _ _ hc e _=>⟨o.slots,k b o (fun z=>hc (by simp [z])) e⟩) (fun _ _ _ _ n=>n)
  (fun b o hc e=>⟨o,k b o (fun z=>hc (by simp [z])) e⟩) (fun _ _ e=>e) (fun _ _ _ e=>e) (fun b ps e=>⟨#[],by rw [e];simp⟩) (fun m hm=>?_) (fun b u e=>?_) I.bare
 ·have e:b=it:=by simpa using hb
  subst e
  exact ⟨h1,hL,h2,h3⟩
 ·obtain ⟨o,es,ep,ho,r⟩:=hm
  exact ⟨o,es,ep,k _ o (Ne.symm hL) ho,r⟩
 ·refine (I.hok b u e).stay (fun c v hc q=>k c v ?_ q) (fun _ q=>q) fun _ _ q=>q
  rcases hc with z | z
  ·rw [z];exact nit b u e
  ·exact nit c _ z
theorem Inv.tok (I:Inv X pins σ H s) (t:Nat):Inv X pins σ H { s with toks:=t }:=I.un (h':=s.heap) (t':=t) Un.refl I.hok
theorem Inv.kept {t':Nat} (I:Inv X pins σ H s) (k:∀ b u,s.heap.get? b=some u→h'.get? b=some u):Inv X pins σ H { s with heap:=h',toks:=t' }:=I.un (Un.kept k) (I.hok.kept k)
theorem Inv.laid {a:Addr}{o:HO}{t':Nat} (I:Inv X pins σ H s) (k:∀ b u,s.heap.get? b=some u→h'.get? b=some u) (hp:s.heap.objs.size≤a) (new:ObjOk X.prog X.w (upd H a o) h' a o) :
  Inv X pins σ (upd H a o) { s with heap:=h',toks:=t' }:=I.un (Un.laid k hp (I.hok.fresh hp)) (I.hok.laid k hp new)
theorem Inv.write {x e:Addr}{o:HO}{t':Nat} (I:Inv X pins σ H s) (mu:Mut (H x)) (he:e=x∨H e=some (.own x)) (k:∀ b u,b≠e→s.heap.get? b=some u→h'.get? b=some u) (heo:∃ u,h'.get? e=some u)
  (new:ObjOk X.prog X.w (upd H x o) h' x o):Inv X pins σ (upd H x o) { s with heap:=h',toks:=t' }:=I.un (Un.write mu he k heo) (I.hok.write mu he k heo new)
theorem Inv.pins_of {pins':List (Addr×Obj)} (I:Inv X pins σ H s) (h:∀ p∈pins',s.heap.get? p.1=some p.2∧H p.1=none∧p.1≠X.env.locals∧p.1∉X.fs∧∀ v,p.2.data≠.cell v):Inv X pins' σ H s:=
 ⟨I.ok,I.os,I.bare,I.base,I.loc,I.cell,I.free,I.freeC,fun p hp=>(List.mem_append.mp hp).elim (fun z=>I.pin p (List.mem_append_left _ z)) (h p),I.hok,I.len⟩
theorem nodup_ix {N:List Str} (hN:N.Nodup) {i j:Nat}{x:Str} (a:N[i]? = some x) (b:N[j]? = some x):i=j:=by
 obtain ⟨h1,e1⟩:=List.getElem?_eq_some_iff.mp a
 obtain ⟨h2,e2⟩:=List.getElem?_eq_some_iff.mp b
 exact (List.getElem_inj hN).mp (e1.trans e2.symm)
theorem store_ok2 {M:Model}{A:Around}{E:Value→Shared→Prop}{i:Nat}{x:Str}{v:V}{u:Value}{Q:Unit→Shared→Prop} (I:Inv X pins σ H s) (hN:X.N.Nodup) (hi:X.N[i]? = some x) (hx:Loc X.env.scope x) (r:RelV v u)
  (h:∀ s',Inv X pins (σ.set i (some v)) H s'→(∃ a,Heap.SameBut a s.heap s'.heap∧(a=X.env.locals∨X.env.cells.lookup x=some a))→Q () s') (hf:X.fn x=true∨X.env.scope.names.lookup x=some .local:=by first | exact .inl rfl | exact .inr rfl | assumption):wpAny M A (storeName X.env x u) Q E s:=by
 obtain ⟨m,hn,hl⟩:=id I.loc
 have hcls:(X.env.scope.kind == .class||(X.env.scope.kind == .module&&X.env.locals != X.env.globals))=false:=by rw [I.ok.kind];rfl
 have hiσ:i < σ.length:=by rw [I.len];exact (List.getElem?_eq_some_iff.mp hi).1
 have cne:=I.cne
 have tracked:∀ {a:Addr}{h':Heap},(∃ o,s.heap.get? a=some o∧H a=none)→Heap.SameBut a s.heap h'→HOk X.prog X.w H h':=fun {a h'} ha hs b ob e=>by
  obtain ⟨_,_,hfree⟩:=ha
  refine (I.hok b ob e).stay (fun c w' hc q=>(hs.2 c ?_).trans q) (fun _ q=>q) fun _ _ q=>q
  rintro rfl
  rcases hc with rfl | hc
  ·rw [hfree] at e;cases e
  ·rw [hfree] at hc;cases hc
 rcases hx with hk | hk
 ·refine wpAny_storeName_local hk hn (fun h' hn' hs=>?_) hcls
  obtain ⟨oL,_,_,hoL,_⟩:=id hn
  refine h _ ⟨I.ok,I.os,I.bare,⟨fun b o e n hb hx=>?_,fun b o e n hb hx=>?_,I.base.free,fun b o e hx=>?_,I.base.tups,I.base.frzs,I.base.tbls⟩,⟨_,hn',fun j y v' e1 e2 e3=>?_⟩,fun y c e=>?_,I.free,I.freeC,fun p hp=>?_,tracked ⟨oL,hoL,I.free⟩ hs,by simpa using I.len⟩ ⟨_,hs,.inl rfl⟩
  ·exact (hs.2 b (Nat.ne_of_lt (Nat.lt_of_lt_of_le (Heap.lt_size e) I.ok.above))).trans (I.base.keep b o e n hb hx)
  ·obtain ⟨sl,e1⟩:=I.base.slot b o e n hb hx
   exact ⟨sl,(hs.2 b (Nat.ne_of_lt (Nat.lt_of_lt_of_le (Heap.lt_size e) I.ok.above))).trans e1⟩
  ·obtain ⟨o',e1⟩:=I.base.there b o e hx
   exact ⟨o',(hs.2 b (Nat.ne_of_lt (Nat.lt_of_lt_of_le (Heap.lt_size e) I.ok.above))).trans e1⟩
  ·by_cases hj:j=i
   ·subst hj
    rw [hi] at e1;cases e1
    rw [List.getElem?_set_self hiσ] at e2
    cases e2
    exact ⟨u,r,.inl ⟨hk,by simp⟩⟩
   ·rw [List.getElem?_set_ne (Ne.symm hj)] at e2
    obtain ⟨u',r',q⟩:=hl j y v' e1 e2 e3
    refine ⟨u',r',?_⟩
    rcases q with ⟨k,e⟩ | ⟨k,c,e,z⟩
    ·refine .inl ⟨k,?_⟩
     have:y≠x:=fun e=>hj (nodup_ix hN e1 (e ▸ hi))
     simp [this,e]
    ·exact .inr ⟨k,c,e,z.sameBut hs (cne y c e)⟩
  ·obtain ⟨w',z⟩:=I.cell y c e
   exact ⟨w',z.sameBut hs (cne y c e)⟩
  ·obtain ⟨e,n,ne,nf,d⟩:=I.pin p hp
   exact ⟨(hs.2 p.1 ne).trans e,n,ne,nf,d⟩
 ·have hfn:X.fn x=true:=by
   rcases hf with z | z
   ·exact z
   ·rw [z] at hk;cases hk
  obtain ⟨c,hc⟩:=I.ok.has x (.inl hk)
  obtain ⟨w',z⟩:=I.cell x c hc
  refine wpAny_storeName_cell I.ok.kind hk hc z (fun h' hc' hs=>?_)
  obtain ⟨oc,hoc,hocd⟩:=id z
  refine h { s with heap:=h' } ⟨I.ok,I.os,I.bare,⟨fun b o e n hb hx=>?_,fun b o e n hb hx=>?_,I.base.free,fun b o e hx=>?_,I.base.tups,I.base.frzs,I.base.tbls⟩,⟨m,hn.sameBut hs (Ne.symm (cne x c hc)),fun j y v' e1 e2 e3=>?_⟩,fun y c' e=>?_,I.free,I.freeC,fun p hp=>?_,tracked ⟨oc,hoc,I.freeC x c hc⟩ hs,by simpa using I.len⟩ ⟨c,hs,.inr hc⟩
  ·exact (hs.2 b (Nat.ne_of_lt (Nat.lt_of_lt_of_le (Heap.lt_size e) (I.ok.cab x c hfn hc)))).trans (I.base.keep b o e n hb hx)
  ·obtain ⟨sl,e1⟩:=I.base.slot b o e n hb hx
   exact ⟨sl,(hs.2 b (Nat.ne_of_lt (Nat.lt_of_lt_of_le (Heap.lt_size e) (I.ok.cab x c hfn hc)))).trans e1⟩
  ·obtain ⟨o',e1⟩:=I.base.there b o e hx
   exact ⟨o',(hs.2 b (Nat.ne_of_lt (Nat.lt_of_lt_of_le (Heap.lt_size e) (I.ok.cab x c hfn hc)))).trans e1⟩
  ·by_cases hj:j=i
   ·subst hj
    rw [hi] at e1;cases e1
    rw [List.getElem?_set_self hiσ] at e2
    cases e2
    exact ⟨u,r,.inr ⟨.inl hk,c,hc,hc'⟩⟩
   ·rw [List.getElem?_set_ne (Ne.symm hj)] at e2
    obtain ⟨u',r',q⟩:=hl j y v' e1 e2 e3
    refine ⟨u',r',?_⟩
    rcases q with q | ⟨k,c',e,z'⟩
    ·exact .inl q
    ·refine .inr ⟨k,c',e,z'.sameBut hs ?_⟩
     rintro rfl
     exact hj (nodup_ix hN e1 (I.ok.inj _ _ _ e hc ▸ hi))
  ·by_cases hcc:c'=c
   ·subst hcc;exact ⟨_,hc'⟩
   ·obtain ⟨w2,z2⟩:=I.cell y c' e
    exact ⟨w2,z2.sameBut hs hcc⟩
  ·obtain ⟨e,n,ne,nf,d⟩:=I.pin p hp
   refine ⟨(hs.2 p.1 ?_).trans e,n,ne,nf,d⟩
   intro q
   rw [q,hoc] at e
   have q':oc=p.2:=Option.some.inj e
   exact d w' (by rw [← q'];exact hocd)
theorem store_ok {M:Model}{A:Around}{E:Value→Shared→Prop}{i:Nat}{x:Str}{v:V}{u:Value}{Q:Unit→Shared→Prop} (I:Inv X pins σ H s) (hN:X.N.Nodup) (hi:X.N[i]? = some x) (hx:Loc X.env.scope x) (r:RelV v u)
  (h:∀ s',Inv X pins (σ.set i (some v)) H s'→Q () s') (hf:X.fn x=true∨X.env.scope.names.lookup x=some .local:=by first | exact .inl rfl | exact .inr rfl | assumption):wpAny M A (storeName X.env x u) Q E s:=
 store_ok2 I hN hi hx r (fun s' I' _=>h s' I') hf
theorem Inv.call' {s':Shared}{ch:List Addr} (I:Inv X pins σ H s) (ho:s'.os=s.os) (u:Un (frs X.stack) ch H H' s.heap s'.heap) (hok:HOk X.prog X.w H' s'.heap) (hg:AllBare s'.gens)
  (hch:∀ b∈ch,(b∈X.ex∨X.s₀.heap.objs.size≤b)∧b≠X.env.locals∧(∀ x c,X.env.cells.lookup x=some c→c≠b)∧∀ p∈X.pn++pins,p.1≠b):Inv X pins σ H' s':=by
 obtain ⟨h',g',d',t',o'⟩:=s'
 have e:o'=s.os:=ho
 subst e
 exact I.call (g':=g') (t':=t') (d':=d') u hok hg hch
end
abbrev XK:=Value→Option Addr→Hp→Prop
abbrev St:=List (Option V)
abbrev VK:=V→Hp→Prop
abbrev TE:=St→Hp→VK→Prop
abbrev TT:=St→Hp→(Bool→Hp→Prop)→Prop
abbrev TA:=St→Hp→(List V→Hp→Prop)→Prop
structure Ends where
 nx:St→Hp→Prop
 rt:VK
 bk:St→Hp→Prop:=fun _ _=>False
 ct:St→Hp→Prop:=fun _ _=>False
abbrev TS:=Ends→St→Hp→Prop
def EP (X:Cx) (pins:List (Addr×Obj)) (σ:St) (Q:VK) (u:Value) (s':Shared):Prop:=∃ v H',Inv X pins σ H' s'∧RelV v u∧Q v H'
def TP (X:Cx) (pins:List (Addr×Obj)) (σ:St) (Q:Bool→Hp→Prop) (b:Bool) (s':Shared):Prop:=∃ H',Inv X pins σ H' s'∧Q b H'
def AP (X:Cx) (pins:List (Addr×Obj)) (σ:St) (Q:List V→Hp→Prop) (us:List Value) (s':Shared):Prop:=∃ vs H',Inv X pins σ H' s'∧Vals vs us∧Q vs H'
def SP (X:Cx) (pins:List (Addr×Obj)) (D:Ends) (f:Flow) (s':Shared):Prop:=
 match f with
 | .next=>∃ σ' H',Inv X pins σ' H' s'∧D.nx σ' H'
 | .brk=>∃ σ' H',Inv X pins σ' H' s'∧D.bk σ' H'
 | .cont=>∃ σ' H',Inv X pins σ' H' s'∧D.ct σ' H'
 | .ret u=>∃ v σ' H',Inv X pins σ' H' s'∧RelV v u∧D.rt v H'
def PE (X:Cx) (e:Expr) (t:TE):Prop:=
 ∀ (pins:List (Addr×Obj)) (s:Shared) (σ:St) (H:Hp) (Q:VK),Inv X pins σ H s→t σ H Q→wpAny (model X.prog X.w) X.A (eval e X.env) (EP X pins σ Q) X.xe s
def PT (X:Cx) (e:Expr) (t:TT):Prop:=
 ∀ (pins:List (Addr×Obj)) (s:Shared) (σ:St) (H:Hp) (Q:Bool→Hp→Prop),Inv X pins σ H s→t σ H Q→wpAny (model X.prog X.w) X.A (isTrue e X.env (eval e X.env)) (TP X pins σ Q) X.xe s
def PW (X:Cx) (e:Expr) (t:TT):Prop:=
 ∀ (whole:Sem Value) (pins:List (Addr×Obj)) (s:Shared) (σ:St) (H:Hp) (Q:Bool→Hp→Prop),Inv X pins σ H s→t σ H Q→wpAny (model X.prog X.w) X.A (isTrue e X.env whole) (TP X pins σ Q) X.xe s
theorem PW.pt {X:Cx}{e:Expr}{t:TT} (h:PW X e t):PT X e t:=h _
def PA (X:Cx) (es:List Expr) (t:TA):Prop:=
 ∀ (pos:Pos) (pins:List (Addr×Obj)) (s:Shared) (σ:St) (H:Hp) (Q:List V→Hp→Prop),Inv X pins σ H s→t σ H Q→wpAny (model X.prog X.w) X.A (spliced (backTo pos (starEach es X.env))) (AP X pins σ Q) X.xe s
def PS (X:Cx) (st:Stmt) (t:TS):Prop:=
 ∀ (pins:List (Addr×Obj)) (s:Shared) (σ:St) (H:Hp) (D:Ends),Inv X pins σ H s→t D σ H→wpAny (model X.prog X.w) X.A (exec st X.env) (SP X pins D) X.xe s
def PSs (X:Cx) (st:List Stmt) (t:TS):Prop:=
 ∀ (pins:List (Addr×Obj)) (s:Shared) (σ:St) (H:Hp) (D:Ends),Inv X pins σ H s→t D σ H→wpAny (model X.prog X.w) X.A (execs st X.env) (SP X pins D) X.xe s
theorem thn {α:Type}{t:Sem α}{Q Q':α→Shared→Prop}{M:Model}{A:Around}{E:Value→Shared→Prop}{s:Shared} (h:wpAny M A t Q E s) (hQ:∀ a s,Q a s→Q' a s):wpAny M A t Q' E s:=wpAny_mono h hQ fun _ _ x=>x
section
variable {X:Cx}
theorem bin {a b:Expr}{ta tb:TE} (ha:PE X a ta) (hb:PE X b tb) {pins:List (Addr×Obj)}{s:Shared}{σ:St}{H:Hp}{R:V→V→Hp→Prop} (I:Inv X pins σ H s) (h:ta σ H fun x H1=>tb σ H1 fun y H2=>R x y H2)
  {α:Type}{Q:α→Shared→Prop}{f:Value→Value→Sem α}
  (hf:∀ v u s2 x y H2,Inv X pins σ H2 s2→RelV x v→RelV y u→R x y H2→wpAny (model X.prog X.w) X.A (f v u) Q X.xe s2) :
  wpAny (model X.prog X.w) X.A (eval a X.env) (fun v s₁=>wpAny (model X.prog X.w) X.A (eval b X.env) (fun u s₂=>wpAny (model X.prog X.w) X.A (f v u) Q X.xe s₂) X.xe s₁) X.xe s:=by
 refine thn (ha pins s σ H _ I h) fun v s1 ⟨x,H1,I1,r1,q1⟩=>?_
 refine thn (hb pins s1 σ H1 _ I1 q1) fun u s2 ⟨y,H2,I2,r2,q2⟩=>?_
 exact hf v u s2 x y H2 I2 r1 r2 q2
def tVar (i:Nat):TE:=fun σ H Q=>∃ v,σ[i]? = some (some v)∧Q v H
def tC (v:V):TE:=fun _ H Q=>Q v H
theorem pe_var {i:Nat}{x:Str}{pos:Pos} (hN:X.N[i]? = some x) (hv:Vis X.env.scope x) (hd:(x == ("__debug__":Str))=false:=by decide) (hcd:(x == ("__classdict__":Str))=false:=by decide):PE X (.Name x pos) (tVar i):=by
 intro pins s σ H Q I h
 obtain ⟨v,e,h⟩:=h
 obtain ⟨m,hn,hl⟩:=I.loc
 obtain ⟨u,r,l⟩:=hl i x v hN e hv
 have fin:EP X pins σ Q u s:=⟨v,H,I,r,h⟩
 rcases l with ⟨hk,hm⟩ | ⟨hk,c,hc,hcell⟩
 ·exact wpAny_Name (wpAny_loadName_local I.ok.kind hk hn hm fin) hd
 ·rcases hk with hk | hk
  ·exact wpAny_Name (wpAny_loadName_cell I.ok.kind hk hc hcell fin) hd
  ·exact wpAny_Name (wpAny_loadName_free I.ok.kind hk hc hcell fin hcd) hd
theorem pe_int {i j pos}:PE X (.Constant (.int i) j pos) (tC (.int i)):=fun _ _ _ H _ I h=>wpAny_Constant_int ⟨.int i,H,I.tok _,⟨_,rfl⟩,h⟩
theorem pe_bl {b j pos}:PE X (.Constant (.bool b) j pos) (tC (.bl b)):=fun _ _ _ H _ I h=>Constant_bool ⟨.bl b,H,I,rfl,h⟩
theorem pe_non {j pos}:PE X (.Constant .none j pos) (tC .non):=fun _ _ _ H _ I h=>Constant_none ⟨.non,H,I,rfl,h⟩
def Gl (X:Cx) (x:Str):Prop:=X.env.kindOf x=some .globalImplicit
theorem ld_glob {E:Value→Shared→Prop}{pins:List (Addr×Obj)}{s:Shared}{σ:St}{H:Hp}{x:Str}{u:Value}{pos:Pos}{Q:Value→Shared→Prop} (I:Inv X pins σ H s) (hg:Gl X x) (hm:X.mg x=some u) (h:Q u s)
  (hd:(x == ("__debug__":Str))=false:=by decide):wpAny (model X.prog X.w) X.A (eval (.Name x pos) X.env) Q E s:=
 Calls.Name_function_global I.ok.kind hg (Calls.loadGlobal_global (by rw [I.ok.glob];exact I.mod.glob.keeps I.bk) hm h) hd
theorem ld_blt {E:Value→Shared→Prop}{pins:List (Addr×Obj)}{s:Shared}{σ:St}{H:Hp}{x:Str}{u:Value}{pos:Pos}{Q:Value→Shared→Prop} (I:Inv X pins σ H s) (hg:Gl X x) (hm:X.mg x=none) (hv:bootBuiltins x=some u) (h:Q u s)
  (hn:x≠"__name__":=by decide) (hd:(x == ("__debug__":Str))=false:=by decide):wpAny (model X.prog X.w) X.A (eval (.Name x pos) X.env) Q E s:=by
 obtain ⟨mb,h1,h2⟩:=I.mod.blt
 exact Calls.Name_function_global I.ok.kind hg (Calls.loadGlobal_builtin (by rw [I.ok.glob];exact I.mod.glob.keeps I.bk) hm (by rw [I.ok.blt];exact h1.keeps I.bk) ((h2 x hn).trans hv) h) hd
variable {a b:Expr}{ta tb:TE}{pos:Pos}
def PC (X:Cx) (op:CmpOp) (a b:Expr) (t:TE):Prop:=
 ∀ (pins:List (Addr×Obj)) (s:Shared) (σ:St) (H:Hp) (Q:VK),Inv X pins σ H s→t σ H Q →
  wpAny (model X.prog X.w) X.A (eval a X.env) (fun v s₁=>wpAny (model X.prog X.w) X.A (eval b X.env) (fun u s₂=>wpAny (model X.prog X.w) X.A (compareOp op v u) (EP X pins σ Q) X.xe s₂) X.xe s₁) X.xe s
def tB (t:TE):TT:=fun σ H Q=>t σ H fun x H1=>∃ c,x=.bl c∧Q c H1
theorem pt_cmp {op:CmpOp}{t:TE} (h:PC X op a b t) (h1:behindInMarks op b=false:=by first | exact nobehind _ (by decide) (by decide) | rfl):PT X (.Compare a [op] [b] pos) (tB t):=by
 intro pins s σ H Q I hw
 refine wpAny_isTrue_Compare1 (thn (h pins s σ H _ I hw) fun v s1 h1=>thn h1 fun u s2 h2=>thn h2 fun c s3 ⟨x,H1,I1,r1,q1⟩=>?_) h1
 obtain ⟨d,rfl,q⟩:=q1
 cases r1
 exact wpAny_truthy_bool ⟨H1,I1,q⟩
variable {tA tB':TT}{rest:List Expr}
def tAnd (t u:TT):TT:=fun σ H Q=>t σ H fun c H1=>if c=true then u σ H1 Q else Q false H1
def tOr (t u:TT):TT:=fun σ H Q=>t σ H fun c H1=>if c=true then Q true H1 else u σ H1 Q
theorem pw_and1 (ha:PT X a tA):PW X (.BoolOp .And [a] pos) tA:=by
 intro wh pins s σ H Q I h
 refine isTrue_and (thn (ha pins s σ H Q I h) fun c s1 e=>?_)
 cases c with
 | true=>exact isTrue_and_nil e
 | false=>exact e
theorem pw_or1 (ha:PT X a tA):PW X (.BoolOp .Or [a] pos) tA:=by
 intro wh pins s σ H Q I h
 refine isTrue_or (thn (ha pins s σ H Q I h) fun c s1 e=>?_)
 cases c with
 | false=>exact isTrue_or_nil e
 | true=>exact e
theorem pw_and (ha:PT X a tA) (hb:PW X (.BoolOp .And (b::rest) pos) tB'):PW X (.BoolOp .And (a::b::rest) pos) (tAnd tA tB'):=by
 intro wh pins s σ H Q I h
 refine isTrue_and (thn (ha pins s σ H _ I h) fun c s1 ⟨H1,I1,q1⟩=>?_)
 cases c with
 | true=>exact hb wh pins s1 σ H1 Q I1 q1
 | false=>exact ⟨H1,I1,q1⟩
theorem pw_or (ha:PT X a tA) (hb:PW X (.BoolOp .Or (b::rest) pos) tB'):PW X (.BoolOp .Or (a::b::rest) pos) (tOr tA tB'):=by
 intro wh pins s σ H Q I h
 refine isTrue_or (thn (ha pins s σ H _ I h) fun c s1 ⟨H1,I1,q1⟩=>?_)
 cases c with
 | true=>exact ⟨H1,I1,q1⟩
 | false=>exact hb wh pins s1 σ H1 Q I1 q1
end
def SqL (K:PySem.W.Frag) (H:Hp) (a:Addr) (xs:List V):Prop:=
 Rd H a (.lst xs) ∨
  ∃ (o:Obj) (its:Array Value) (n:Nat),K.lookup a=some o∧o.cls=.type "list"∧o.dict=none∧o.data=.seq its n∧its.size≤sizeLine∧Vals xs its.toList
def SqT (K:PySem.W.Frag) (H:Hp) (a:Addr) (xs:List V):Prop:=
 Rd H a (.tup xs) ∨
  ∃ (o:Obj) (its:Array Value) (n:Nat),K.lookup a=some o∧o.cls=.type "tuple"∧o.dict=none∧o.data=.seq its n∧its.size≤sizeLine∧Vals xs its.toList
def absV:Value→Option V
 | .none=>some .non
 | .bool b=>some (.bl b)
 | .int i _=>some (.int i)
 | .str x _=>some (.str x)
 | .bytes b _=>some (.byt b)
 | .float b _=>some (.flt b)
 | .ref a=>some (.ref a)
 | .type n=>some (.ty n)
 | _=>none
theorem RelV.abs {x:V}{u:Value} (r:RelV x u):absV u=some x:=by
 cases x with
 | non=>cases r;rfl
 | bl _=>cases r;rfl
 | int _=>obtain ⟨t,rfl⟩:=r;rfl
 | str _=>obtain ⟨t,rfl⟩:=r;rfl
 | byt _=>obtain ⟨t,rfl⟩:=r;rfl
 | flt _=>obtain ⟨t,rfl⟩:=r;rfl
 | ref _=>cases r;rfl
 | ty _=>cases r;rfl
theorem RelV.inj {x y:V}{u:Value} (r:RelV x u) (q:RelV y u):x=y:=Option.some.inj (r.abs.symm.trans q.abs)
theorem Vals.inj:∀ {xs ys:List V}{us:List Value},Vals xs us→Vals ys us→xs=ys
 | _,_,_,.nil,.nil=>rfl
 | _,_,_,.cons r t,.cons r' t'=>by rw [r.inj r',Vals.inj t t']
section
variable {X:Cx}{pins:List (Addr×Obj)}{σ:St}{H:Hp}{s:Shared}{a:Addr}{xs ys:List V}
theorem SqL.of {K:PySem.W.Frag} (h:H a=some (.lst xs)):SqL K H a xs:=.inl (.inl h)
theorem SqT.of {K:PySem.W.Frag} (h:H a=some (.tup xs)):SqT K H a xs:=.inl (.inl h)
theorem Inv.list (I:Inv X pins σ H s) (h:SqL X.K H a xs):∃ its:List Value,Vals xs its∧PlainL s.heap a its.toArray∧xs.length≤sizeLine:=by
 rcases h with h | ⟨o,its,n,hk,hc,hd,hs,hz,r⟩
 ·obtain ⟨z,its,n,r,e⟩:=h.ok I.hok
  exact ⟨its,r,⟨_,n,e,rfl,rfl,rfl⟩,z⟩
 ·refine ⟨its.toList,r,⟨o,n,I.kIn a o hk,hc,hd,by simpa using hs⟩,?_⟩
  have e:=r.length
  simp only [Array.length_toList] at e
  omega
theorem Inv.tupleN (I:Inv X pins σ H s) (h:SqT X.K H a xs):∃ its:List Value,Vals xs its∧PlainT s.heap a its.toArray∧xs.length≤sizeLine:=by
 rcases h with h | ⟨o,its,n,hk,hc,hd,hs,hz,r⟩
 ·obtain ⟨z,its,r,p⟩:=h.ok I.hok
  exact ⟨its,r,p,z⟩
 ·refine ⟨its.toList,r,⟨o,I.kIn a o hk,hc,hd,n,by simpa using hs⟩,?_⟩
  have e:=r.length
  simp only [Array.length_toList] at e
  omega
theorem Inv.tuple (I:Inv X pins σ H s) (h:SqT X.K H a xs):∃ its:List Value,Vals xs its∧IsTup s.heap a its.toArray∧xs.length≤sizeLine:=by
 rcases h with h | ⟨o,its,n,hk,hc,hd,hs,hz,r⟩
 ·obtain ⟨z,its,r,p⟩:=h.ok I.hok
  exact ⟨its,r,p.isTup,z⟩
 ·refine ⟨its.toList,r,⟨o,I.kIn a o hk,hc,n,by simpa using hs⟩,?_⟩
  have e:=r.length
  simp only [Array.length_toList] at e
  omega
theorem Inv.list_inj (I:Inv X pins σ H s) (h:SqL X.K H a xs) (h':SqL X.K H a ys):xs=ys:=by
 obtain ⟨its,r,⟨o,n,e,_,_,d⟩,_⟩:=I.list h
 obtain ⟨its',r',⟨o',n',e',_,_,d'⟩,_⟩:=I.list h'
 rw [e] at e';cases e'
 rw [d] at d'
 injection d' with d1 _
 have:its=its':=by simpa using congrArg Array.toList d1
 subst this
 exact r.inj r'
theorem Inv.tuple_inj (I:Inv X pins σ H s) (h:SqT X.K H a xs) (h':SqT X.K H a ys):xs=ys:=by
 obtain ⟨its,r,⟨o,e,_,n,d⟩,_⟩:=I.tuple h
 obtain ⟨its',r',⟨o',e',_,n',d'⟩,_⟩:=I.tuple h'
 rw [e] at e';cases e'
 rw [d] at d'
 injection d' with d1 _
 have:its=its':=by simpa using congrArg Array.toList d1
 subst this
 exact r.inj r'
end
abbrev Cx.wish (X:Cx) (E:Value→Shared→Prop):Cx:={ X with xe:=E }
abbrev Cx.nox (X:Cx):Cx:=X.wish fun _ _=>False
theorem Cx.Ok.wish {X:Cx} (ok:X.Ok) (E:Value→Shared→Prop):(X.wish E).Ok:=
 ⟨ok.mod,ok.kind,ok.glob,ok.blt,ok.above,ok.inj,ok.has,ok.cab,ok.hd,ok.frames,ok.stk,ok.exf,ok.bs,ok.bsz,ok.noex,ok.exfs,ok.funs,ok.frf⟩
theorem Cx.Ok.unwish {X:Cx}{E:Value→Shared→Prop} (ok:(X.wish E).Ok):X.Ok:=
 ⟨ok.mod,ok.kind,ok.glob,ok.blt,ok.above,ok.inj,ok.has,ok.cab,ok.hd,ok.frames,ok.stk,ok.exf,ok.bs,ok.bsz,ok.noex,ok.exfs,ok.funs,ok.frf⟩
section
variable {X:Cx}{pins:List (Addr×Obj)}{σ:St}{H:Hp}{s:Shared}{E:Value→Shared→Prop}
theorem Inv.wish (I:Inv X pins σ H s) (E:Value→Shared→Prop):Inv (X.wish E) pins σ H s:=⟨I.ok.wish E,I.os,I.bare,I.base,I.loc,I.cell,I.free,I.freeC,I.pin,I.hok,I.len⟩
theorem Inv.unwish (I:Inv (X.wish E) pins σ H s):Inv X pins σ H s:=⟨I.ok.unwish,I.os,I.bare,I.base,I.loc,I.cell,I.free,I.freeC,I.pin,I.hok,I.len⟩
theorem SP.unwish {D:Ends}{f:Flow}{s':Shared} (h:SP (X.wish E) pins D f s'):SP X pins D f s':=by
 cases f with
 | next=>obtain ⟨σ',H',I,q⟩:=h;exact ⟨σ',H',I.unwish,q⟩
 | brk=>obtain ⟨σ',H',I,q⟩:=h;exact ⟨σ',H',I.unwish,q⟩
 | cont=>obtain ⟨σ',H',I,q⟩:=h;exact ⟨σ',H',I.unwish,q⟩
 | ret u=>obtain ⟨v,σ',H',I,r,q⟩:=h;exact ⟨v,σ',H',I.unwish,r,q⟩
theorem PSs.nox {st:List Stmt}{t:TS} (h:PSs X.nox st t):PSs X st t:=fun pins s σ H D I hw=>
 wpAny_mono (h pins s σ H D (I.wish _) hw) (fun _ _ q=>q.unwish) fun _ _ z=>False.elim z
end
section
variable {X:Cx}{st:Stmt}{rest:List Stmt}{t u:TS}{e:Expr}{te:TE}{pos:Pos}
def tNext:TS:=fun D σ H=>D.nx σ H
def tSeq (t u:TS):TS:=fun D σ H=>t { D with nx:=u D } σ H
theorem pss_nil:PSs X [] tNext:=fun _ _ σ H _ I h=>wpAny_execs_nil ⟨σ,H,I,h⟩
theorem pss_cons (h1:PS X st t) (h2:PSs X rest u):PSs X (st::rest) (tSeq t u):=by
 intro pins s σ H D I h
 refine wpAny_execs_cons (thn (h1 pins s σ H { D with nx:=u D } I h) fun f s1 q=>?_)
 cases f with
 | next=>
  obtain ⟨σ',H',I',q⟩:=q
  exact h2 pins s1 σ' H' D I' q
 | ret v=>exact q
 | brk=>exact q
 | cont=>exact q
theorem pss_one (h1:PS X st t):PSs X [st] t:=by
 intro pins s σ H D I h
 refine wpAny_execs_cons (thn (h1 pins s σ H D I h) fun f s1 q=>?_)
 cases f with
 | next=>exact wpAny_execs_nil q
 | ret v=>exact q
 | brk=>exact q
 | cont=>exact q
theorem Inv.quiet {pins:List (Addr×Obj)}{σ:St}{H:Hp}{s:Shared} (I:Inv X pins σ H s):interactive X.env=false:=by simp [interactive,I.ok.kind]
def tDrop (te:TE):TS:=fun D σ H=>te σ H fun _ H1=>D.nx σ H1
theorem ps_expr (he:PE X e te) (hs:swapsWith e none pos.line X.env=pure false:=by rfl):PS X (.Expr e pos) (tDrop te):=by
 intro pins s σ H D I h
 exact wpAny_Expr_any (thn (he pins s σ H _ I h) fun v s1 ⟨x,H1,I1,r1,q1⟩=>⟨σ,H1,I1,q1⟩) I.quiet hs
def tRet (te:TE):TS:=fun D σ H=>te σ H D.rt
theorem ps_ret (he:PE X e te):PS X (.Return (some e) pos) (tRet te):=by
 intro pins s σ H D I h
 exact wpAny_Return_some (thn (he pins s σ H _ I h) fun v s1 ⟨x,H1,I1,r1,q1⟩=>⟨x,σ,H1,I1,r1,q1⟩)
def tIfS (c:TT) (t u:TS):TS:=fun D σ H=>c σ H fun b H1=>if b=true then t D σ H1 else u D σ H1
theorem ps_if {c:Expr}{a b:List Stmt}{tc:TT} (hc:PT X c tc) (ha:PSs X a t) (hb:PSs X b u):PS X (.If c a b pos) (tIfS tc t u):=by
 intro pins s σ H D I h
 refine wpAny_If (thn (hc pins s σ H _ I h) fun d s1 ⟨H1,I1,q1⟩=>?_)
 cases d with
 | true=>exact ha pins s1 σ H1 D I1 q1
 | false=>exact hb pins s1 σ H1 D I1 q1
def tNever:TS:=fun _ _ _=>False
theorem ps_never:PS X st tNever:=fun _ _ _ _ _ _ h=>h.elim
end
abbrev TG:=V→St→Hp→(St→Hp→Prop)→Prop
abbrev TGs:=List V→St→Hp→(St→Hp→Prop)→Prop
def PG (X:Cx) (target:Expr) (t:TG):Prop:=
 ∀ (pins:List (Addr×Obj)) (s:Shared) (σ:St) (H:Hp) (v:V) (u:Value) (Q:St→Hp→Prop),Inv X pins σ H s→RelV v u→t v σ H Q →
  wpAny (model X.prog X.w) X.A (assign target X.env u) (fun _ s'=>∃ σ' H',Inv X pins σ' H' s'∧Q σ' H') X.xe s
def PGs (X:Cx) (ts:List Expr) (t:TGs):Prop:=
 ∀ (pins:List (Addr×Obj)) (s:Shared) (σ:St) (H:Hp) (vs:List V) (us:List Value) (Q:St→Hp→Prop),Inv X pins σ H s→Vals vs us→t vs σ H Q →
  wpAny (model X.prog X.w) X.A (assignInOrder ((assignEach ts X.env).map (·.2)) us) (fun _ s'=>∃ σ' H',Inv X pins σ' H' s'∧Q σ' H') X.xe s
section
variable {X:Cx}{pos:Pos}
def gName (i:Nat):TG:=fun v σ H Q=>Q (σ.set i (some v)) H
theorem pg_name {i:Nat}{x:Str} (hN:X.N.Nodup) (hi:X.N[i]? = some x) (hx:Loc X.env.scope x) (hf:X.fn x=true∨X.env.scope.names.lookup x=some .local:=by first | exact .inl rfl | exact .inr rfl | assumption):PG X (.Name x pos) (gName i):=by
 intro pins s σ H v u Q I r h
 exact wpAny_assign_Name (store_ok I hN hi hx r (fun s' I'=>⟨_,H,I',h⟩) hf)
def gNil:TGs:=fun vs σ H Q=>vs=[]∧Q σ H
def gCons (t:TG) (u:TGs):TGs:=fun vs σ H Q=>∃ v r,vs=v::r∧t v σ H fun σ' H'=>u r σ' H' Q
theorem pgs_nil:PGs X [] gNil:=by
 intro pins s σ H vs us Q I r h
 obtain ⟨e,h⟩:=h
 subst e
 cases r
 exact assignInOrder_nil ⟨σ,H,I,h⟩
theorem pgs_cons {e:Expr}{es:List Expr}{t:TG}{u:TGs} (h1:PG X e t) (h2:PGs X es u)
  (hs:(assignEach (e::es) X.env).map (·.2)=assign e X.env::(assignEach es X.env).map (·.2):=by rfl):PGs X (e::es) (gCons t u):=by
 intro pins s σ H vs us Q I r h
 obtain ⟨v,vr,e1,h⟩:=h
 subst e1
 cases r with
 | cons r rr=>
  rw [hs]
  refine assignInOrder_cons (thn (h1 pins s σ H _ _ _ I r h) fun _ s1 ⟨σ1,H1,I1,q1⟩=>?_)
  exact h2 pins s1 σ1 H1 _ _ Q I1 rr q1
def gTup (K:PySem.W.Frag) (n:Nat) (t:TGs):TG:=fun v σ H Q=>∃ a xs,v=.ref a∧SqT K H a xs∧xs.length=n∧t xs σ H Q
theorem pg_tup {es:List Expr}{k:Nat}{t:TGs}{n:Nat} (hc:X.calm=true) (h:PGs X es t)
  (hn:(assignEach es X.env).length=n:=by rfl) (hst:(assignEach es X.env).findIdx? (·.1)=none:=by rfl):PG X (.Tuple es k pos) (gTup X.K n t):=by
 intro pins s σ H v u Q I r hw
 obtain ⟨a,xs,e1,hq,hl,hw⟩:=hw
 subst e1
 cases r
 obtain ⟨its,rv,ht,hz⟩:=I.tuple hq
 refine assign_Tuple_tuple (I.ok.hd hc) ht (by simp [hn,← hl,rv.length]) hst fun h' hx=>?_
 have I1:Inv X pins σ H { s with heap:=h' }:=I.kept (t':=s.toks) fun b o e=>hx b o (Nat.ne_of_lt (Heap.lt_size e)) e
 exact h pins _ σ H xs _ Q I1 (by simpa using rv) hw
def tAsg (te:TE) (g:TG):TS:=fun D σ H=>te σ H fun x H1=>g x σ H1 D.nx
theorem ps_set {i:Nat}{x:Str}{e:Expr}{te:TE}{pos':Pos} (hN:X.N.Nodup) (hi:X.N[i]? = some x) (hx:Loc X.env.scope x) (he:PE X e te) (hs:swapsWith e (some (.Name x pos')) pos.line X.env=pure false:=by rfl) (hf:X.fn x=true∨X.env.scope.names.lookup x=some .local:=by first | exact .inl rfl | exact .inr rfl | assumption) :
  PS X (.Assign [.Name x pos'] e pos) (tAsg te (gName i)):=by
 intro pins s σ H D I h
 refine wpAny_Assign_Name (thn (he pins s σ H _ I h) fun v s1 ⟨y,H1,I1,r1,q1⟩=>?_) hs
 exact store_ok I1 hN hi hx r1 (fun s2 I2=>⟨_,H1,I2,q1⟩) hf
end
structure It where
 go:Nat→Hp→Prop
 yld:Nat→Hp→V→Hp→Prop
 stop:Nat→Hp→Prop
def FpOk (X:Cx) (pins:List (Addr×Obj)) (H:Hp) (b:Addr):Prop:=
 H b=none∧b≠X.env.locals∧b∉X.fs∧(b∈X.ex∨X.s₀.heap.objs.size≤b)∧(∀ x c,X.env.cells.lookup x=some c→c≠b)∧∀ p∈X.pn++pins,p.1≠b
theorem Inv.fpOk {X:Cx}{pins:List (Addr×Obj)}{σ:St}{H H':Hp}{s:Shared}{b:Addr} (I:Inv X pins σ H s) (hb:s.heap.objs.size≤b) (hn:H' b=none):FpOk X pins H' b:=by
 refine ⟨hn,Nat.ne_of_gt (Nat.lt_of_lt_of_le I.lt hb),I.nofs hb,.inr (Nat.le_trans I.sz hb),fun x c e z=>?_,fun p hp z=>?_⟩
 ·obtain ⟨v,q⟩:=I.cell x c e
  exact absurd (Nat.lt_of_lt_of_le q.lt (by rw [z];exact hb)) (Nat.lt_irrefl _)
 ·exact absurd (Nat.lt_of_lt_of_le (Heap.lt_size (I.pin p hp).1) (by rw [z];exact hb)) (Nat.lt_irrefl _)
structure Turn (P:Program) (w:World) (K:PySem.W.Frag) (tg:Expr) (J:It) (fp:List Addr) (it:Addr) (tn:Nat→Heap→Prop):Prop where
 mem:it∈fp
 obj:∀ i h,tn i h→∀ b∈fp,∃ o,h.get? b=some o∧∀ v,o.data≠.cell v
 keep:∀ i h h',tn i h→(∀ b∈fp,∀ o,h.get? b=some o→h'.get? b=some o)→tn i h'
 item:∀ (X:Cx),X.prog=P→X.w=w→X.K=K→X.calm=true→∀ (i:Nat) (pins:List (Addr×Obj)) (s:Shared) (σ:St) (H:Hp) (E:Value→Shared→Prop),Inv X pins σ H s→(∀ b∈fp,FpOk X pins H b)→tn i s.heap→J.go i H →
  wpAny (model P w) X.A (pyNext (.ref it)) (fun r s1=>∃ u,r=some u ∧
   wpAny (model P w) X.A (letOwnedTupleGo tg (.ref it) u) (fun _ s2=>∃ x H',Inv X pins σ H' s2∧RelV x u∧J.yld i H x H'∧tn (i + 1) s2.heap∧∀ b∈fp,H' b=none) E s1) E s
 done:∀ (X:Cx),X.prog=P→X.w=w→X.K=K→X.calm=true→∀ (i:Nat) (pins:List (Addr×Obj)) (s:Shared) (σ:St) (H:Hp) (E:Value→Shared→Prop),Inv X pins σ H s→(∀ b∈fp,FpOk X pins H b)→tn i s.heap→J.stop i H →
  wpAny (model P w) X.A (pyNext (.ref it)) (fun r s1=>r=none∧Inv X pins σ H s1) E s
 self:∀ (A:Around) (i:Nat) (s:Shared) (Q:Value→Shared→Prop) (E:Value→Shared→Prop),tn i s.heap→Q (.ref it) s→wpAny (model P w) A (pyIter (.ref it)) Q E s
abbrev TI:=St→Hp→(It→Hp→Prop)→Prop
def PIE (X:Cx) (pins:List (Addr×Obj)) (σ:St) (tg:Expr) (R:It→Hp→Prop) (itv:Value) (s2:Shared):Prop:=
 ∃ (it:Addr) (fp:List Addr) (tn:Nat→Heap→Prop) (J:It) (H':Hp),itv=.ref it∧Inv X pins σ H' s2∧Turn X.prog X.w X.K tg J fp it tn∧tn 0 s2.heap∧(∀ b∈fp,FpOk X pins H' b)∧R J H'
def PI (X:Cx) (tg iter:Expr) (wi:TI):Prop:=
 ∀ (pins:List (Addr×Obj)) (s:Shared) (σ:St) (H:Hp) (R:It→Hp→Prop),Inv X pins σ H s→wi σ H R →
  wpAny (model X.prog X.w) X.A (eval iter X.env) (fun v s1=>wpAny (model X.prog X.w) X.A (pyIter v) (PIE X pins σ tg R) X.xe s1) X.xe s
theorem go_of {M:Model}{A:Around}{E:Value→Shared→Prop}{s:Shared}{tg:Expr}{it:Addr}{u:Value}{o:Obj}{n:String}{vs:Array Value}{Q:Unit→Shared→Prop} (ho:s.heap.get? it=some o) (hc:o.cls=.type n) (hd:o.data=.fields vs)
    (hn:["enumerate","zip","dict_itemiterator","dict_reverseitemiterator","odict_iterator","itertools.zip_longest","itertools.pairwise"].contains n=false) (hQ:Q () s):wpAny M A (letOwnedTupleGo tg (.ref it) u) Q E s:=by
  unfold letOwnedTupleGo
  cases tg <;> first
    | exact wpAny_pure hQ
    | (cases u <;> first
        | exact wpAny_pure hQ
        | (refine wpAny_bind (wpAny_load ho ?_)
           rw [hc,hd]
           show wpAny M A (if (["enumerate","zip","dict_itemiterator","dict_reverseitemiterator","odict_iterator","itertools.zip_longest","itertools.pairwise"].contains n&&vs[0]? == some (rawInt _))=true then _ else _) Q E s
           rw [if_neg (by intro h;rw [hn,Bool.false_and] at h;cases h)]
           exact wpAny_pure hQ))
def Itl (K:PySem.W.Frag) (a:Addr):It:=
 ⟨fun i H=>∃ xs x,SqL K H a xs∧xs[i]? = some x,fun i H x H'=>H'=H∧∀ xs,SqL K H a xs→xs[i]? = some x,fun i H=>∃ xs,SqL K H a xs∧xs.length≤i⟩
def Itt (K:PySem.W.Frag) (a:Addr):It:=
 ⟨fun i H=>∃ xs x,SqT K H a xs∧xs[i]? = some x,fun i H x H'=>H'=H∧∀ xs,SqT K H a xs→xs[i]? = some x,fun i H=>∃ xs,SqT K H a xs∧xs.length≤i⟩
def Itr (lo:Int) (n:Nat):It:=⟨fun i _=>i < n,fun i H x H'=>H'=H∧x=.int (lo + i),fun i _=>n≤i⟩
theorem turn_list {P:Program}{w:World}{K:PySem.W.Frag}{tg:Expr} (a it:Addr):Turn P w K tg (Itl K a) [it] it (fun i h=>h.IsListIter it a i) where
 mem:=by simp
 obj:=fun i h st b hb=>by
  have e:b=it:=by simpa using hb
  subst e
  obtain ⟨o,e,c,d⟩:=st
  exact ⟨o,e,fun v z=>by rw [d] at z;cases z⟩
 keep:=fun i h h' st k=>st.at fun o e=>k it (by simp) o e
 item:=by
  intro X hP hw hK hc i pins s σ H E I hf st hg
  subst hP hw hK
  obtain ⟨xs,x,hq,hx⟩:=hg
  obtain ⟨its,rv,p,hz⟩:=I.list hq
  obtain ⟨u,hu,ru⟩:=rv.get hx
  obtain ⟨f0,f1,f2,f3,f4,f5⟩:=hf it (by simp)
  refine wpAny_pyNext_list_item st p.isList (x:=u) (by simpa using hu) fun h' st' sb=>?_
  have I1:Inv X pins σ H { s with heap:=h' }:=I.turned (t':=s.toks) (fun b o hb e=>(sb.2 b hb).trans e) f0 f1 f3 f4 f5
  obtain ⟨o,e,c,d⟩:=id st'
  exact ⟨u,rfl,go_of (s:={ s with heap:=h' }) e c d (by decide) ⟨x,H,I1,ru,⟨rfl,fun ys hy=>by rw [I.list_inj hy hq];exact hx⟩,st',fun b hb=>(hf b hb).1⟩⟩
 done:=by
  intro X hP hw hK hc i pins s σ H E I hf st hg
  subst hP hw hK
  obtain ⟨xs,hq,hx⟩:=hg
  obtain ⟨its,rv,p,hz⟩:=I.list hq
  obtain ⟨f0,f1,f2,f3,f4,f5⟩:=hf it (by simp)
  have hl:=rv.length
  exact wpAny_pyNext_list_end (I.ok.hd hc) st p.isList (by simp;omega) fun h' eb=>⟨rfl,I.turned (t':=s.toks) (fun b o hb e=>eb b o hb e) f0 f1 f3 f4 f5⟩
 self:=fun _ _ _ _ _ st h=>wpAny_pyIter_listiter st h
theorem turn_tuple {P:Program}{w:World}{K:PySem.W.Frag}{tg:Expr} (a it:Addr):Turn P w K tg (Itt K a) [it] it (fun i h=>h.IsTupleIter it a i) where
 mem:=by simp
 obj:=fun i h st b hb=>by
  have e:b=it:=by simpa using hb
  subst e
  obtain ⟨o,e,c,d⟩:=st
  exact ⟨o,e,fun v z=>by rw [d] at z;cases z⟩
 keep:=fun i h h' st k=>st.at fun o e=>k it (by simp) o e
 item:=by
  intro X hP hw hK hc i pins s σ H E I hf st hg
  subst hP hw hK
  obtain ⟨xs,x,hq,hx⟩:=hg
  obtain ⟨its,rv,p,hz⟩:=I.tuple hq
  obtain ⟨u,hu,ru⟩:=rv.get hx
  obtain ⟨f0,f1,f2,f3,f4,f5⟩:=hf it (by simp)
  refine wpAny_pyNext_tuple_item st (show s.heap.IsTuple a its.toArray from p) (x:=u) (by simpa using hu) fun h' st' sb=>?_
  have I1:Inv X pins σ H { s with heap:=h' }:=I.turned (t':=s.toks) (fun b o hb e=>(sb.2 b hb).trans e) f0 f1 f3 f4 f5
  obtain ⟨o,e,c,d⟩:=id st'
  exact ⟨u,rfl,go_of (s:={ s with heap:=h' }) e c d (by decide) ⟨x,H,I1,ru,⟨rfl,fun ys hy=>by rw [I.tuple_inj hy hq];exact hx⟩,st',fun b hb=>(hf b hb).1⟩⟩
 done:=by
  intro X hP hw hK hc i pins s σ H E I hf st hg
  subst hP hw hK
  obtain ⟨xs,hq,hx⟩:=hg
  obtain ⟨its,rv,p,hz⟩:=I.tuple hq
  obtain ⟨f0,f1,f2,f3,f4,f5⟩:=hf it (by simp)
  have hl:=rv.length
  exact wpAny_pyNext_tuple_end (I.ok.hd hc) st (show s.heap.IsTuple a its.toArray from p) (by simp;omega) fun h' eb=>⟨rfl,I.turned (t':=s.toks) (fun b o hb e=>eb b o hb e) f0 f1 f3 f4 f5⟩
 self:=fun _ _ _ _ _ st h=>wpAny_pyIter_tupleiter st h
theorem turn_range {P:Program}{w:World}{K:PySem.W.Frag}{tg:Expr} (it:Addr) (lo:Int) (n:Nat):Turn P w K tg (Itr lo n) [it] it (fun i h=>IsRangeIter h it (lo + (i:Nat) * 1) ((n:Int) - (i:Nat)) 1) where
 mem:=by simp
 obj:=fun i h st b hb=>by
  have e:b=it:=by simpa using hb
  subst e
  exact ⟨_,st,fun v z=>by
   have z':Data.fields _=Data.cell v:=z
   cases z'⟩
 keep:=fun i h h' st k=>k it (by simp) _ st
 item:=by
  intro X hP hw hK hc i pins s σ H E I hf st hg
  subst hP hw hK
  obtain ⟨f0,f1,f2,f3,f4,f5⟩:=hf it (by simp)
  have W:=Walks.range (prog:=X.prog) (w:=X.w) (I.ok.hd hc) it lo 1 n
  refine W.item i s _ _ hg st fun v h' tk hv st' kk=>?_
  obtain ⟨t,rfl⟩:=hv
  have I1:Inv X pins σ H { s with heap:=h',toks:=tk }:=I.turned (fun b o hb e=>kk b o (by simpa using hb) e) f0 f1 f3 f4 f5
  refine ⟨_,rfl,go_of (s:={ s with heap:=h',toks:=tk }) (n:="range_iterator") st' rfl rfl (by decide) ⟨.int (lo + i),H,I1,⟨t,?_⟩,⟨rfl,rfl⟩,st',fun b hb=>(hf b hb).1⟩⟩
  rw [Int.mul_one]
 done:=by
  intro X hP hw hK hc i pins s σ H E I hf st hg
  subst hP hw hK
  obtain ⟨f0,f1,f2,f3,f4,f5⟩:=hf it (by simp)
  exact wpAny_pyNext_range_end (I.ok.hd hc) st (by have:n≤i:=hg;omega) fun h' eb=>⟨rfl,I.turned (t':=s.toks) (fun b o hb e=>eb b o hb e) f0 f1 f3 f4 f5⟩
 self:=fun _ _ _ _ _ st h=>wpAny_pyIter_rangeiter st h
section
variable {X:Cx}{tg:Expr}
theorem range_it {pins:List (Addr×Obj)}{σ:St}{H:Hp}{s:Shared}{R:It→Hp→Prop}{E:Value→Shared→Prop}{lo hi:Int}{t u v:Tok}{tk:Nat} (I:Inv X pins σ H s) (h1:-(2 ^ 62)≤lo) (h2:lo < 2 ^ 62) (h3:-(2 ^ 62)≤hi) (h4:hi < 2 ^ 62)
  (q:R (Itr lo (hi - lo).toNat) H):wpAny (model X.prog X.w) X.A (pyIter (.ref s.heap.objs.size)) (PIE X pins σ tg R) E { s with heap:=s.heap.push { cls:=.type "range",data:=.fields #[.int lo t,.int hi u,.int 1 v] },toks:=tk }:=by
 refine wpAny_pyIter_range (IsRange.new ..) (small_one h1 h2 h3 h4) ?_
 have I1:Inv X pins σ H { s with heap:=s.heap.push { cls:=.type "range",data:=.fields #[.int lo t,.int hi u,.int 1 v] },toks:=tk }:=I.kept fun b o e=>Heap.get?_push_of_some _ e
 refine ⟨(s.heap.push { cls:=.type "range",data:=.fields #[.int lo t,.int hi u,.int 1 v] }).objs.size,[(s.heap.push { cls:=.type "range",data:=.fields #[.int lo t,.int hi u,.int 1 v] }).objs.size],_,_,H,rfl,
  I1.kept (t':=tk) fun b o e=>Heap.get?_push_of_some _ e,turn_range _ lo (hi - lo).toNat,?_,fun b hb=>?_,q⟩
 ·have e1:lo + ((0:Nat):Int) * 1=lo:=by simp
  have e2:(((hi - lo).toNat:Nat):Int) - ((0:Nat):Int)=Builtin.Range.rangeSize lo hi 1:=by rw [rangeSize_one];split <;> omega
  show IsRangeIter _ _ (lo + ((0:Nat):Int) * 1) ((((hi - lo).toNat:Nat):Int) - ((0:Nat):Int)) 1
  rw [e1,e2]
  exact Heap.get?_push_size _ rfl
 ·have e:b=(s.heap.push { cls:=.type "range",data:=.fields #[.int lo t,.int hi u,.int 1 v] }).objs.size:=by simpa using hb
  subst e
  exact I1.fpOk (Nat.le_refl _) (I1.hok.fresh (Nat.le_refl _))
def iRng1 (ta:TA):TI:=fun σ H R=>ta σ H fun vs H1=>∃ j:Int,vs=[.int j]∧-(2 ^ 62)≤j∧j < 2 ^ 62∧R (Itr 0 j.toNat) H1
theorem pi_range1 {a:Expr}{ta:TA}{p pos:Pos} (hg:Gl X "range") (hm:X.mg "range"=none) (ha:PA X [a] ta) (hs:starEach [a] X.env=[(false,eval a X.env)]:=by rfl):PI X tg (.Call (.Name "range" p) [a] [] pos) (iRng1 ta):=by
 intro pins s σ H R I h
 refine Call_ (ld_blt I hg hm boot_range (PyProof.Rows.callWith_type1 (thn (ha pos pins s σ H _ I h) fun us s1 ⟨vs,H1,I1,r1,q1⟩=>?_) hs rfl))
 obtain ⟨j,e,q1,q2,q⟩:=q1
 subst e
 cases r1 with
 | cons r rr=>
  cases rr
  obtain ⟨t,rfl⟩:=r
  exact call_range_1 (range_it I1 (by omega) (by omega) q1 q2 (by simpa using q))
def tFor (wi:TI) (g:TG) (tb:TS):TS:=fun D σ H=>wi σ H fun J H1=>∃ W:Nat→Nat→St→Hp→Prop,(∃ m,W 0 m σ H1)∧∀ i m σ H,W i m σ H →
 (J.stop i H∧D.nx σ H)∨(J.go i H∧∃ N:St→Hp→Prop,(∀ σ' H',N σ' H'→∃ m',m' < m∧W (i + 1) m' σ' H')∧∀ x H',J.yld i H x H'→g x σ H' fun σ2 H2=>tb { D with nx:=N,ct:=N,bk:=D.nx } σ2 H2)
def pinsAt (fp:List Addr) (h:Heap):List (Addr×Obj):=fp.filterMap fun b=>(h.get? b).map fun o=>(b,o)
theorem mem_pinsAt {fp:List Addr}{h:Heap}{b:Addr}{o:Obj} (hb:b∈fp) (e:h.get? b=some o):(b,o)∈pinsAt fp h:=List.mem_filterMap.mpr ⟨b,hb,by rw [e];rfl⟩
theorem of_pinsAt {fp:List Addr}{h:Heap}{p:Addr×Obj} (hp:p∈pinsAt fp h):p.1∈fp∧h.get? p.1=some p.2:=by
 obtain ⟨b,hb,e⟩:=List.mem_filterMap.mp hp
 cases q:h.get? b with
 | none=>rw [q] at e;cases e
 | some o=>
  rw [q] at e
  have e':(b,o)=p:=Option.some.inj e
  subst e'
  exact ⟨hb,q⟩
theorem Inv.pinned {pins:List (Addr×Obj)}{σ:St}{H:Hp}{s:Shared}{fp:List Addr} (I:Inv X pins σ H s) (hf:∀ b∈fp,FpOk X pins H b) (ho:∀ b∈fp,∃ o,s.heap.get? b=some o∧∀ v,o.data≠.cell v):Inv X (pins++pinsAt fp s.heap) σ H s:=
 I.pins_of fun p hp=>(List.mem_append.mp hp).elim (fun z=>I.pin p (List.mem_append_right _ z)) fun z=>by
  obtain ⟨hb,e⟩:=of_pinsAt z
  obtain ⟨f0,f1,f2,_⟩:=hf p.1 hb
  obtain ⟨o,e',d⟩:=ho p.1 hb
  rw [e] at e';cases e'
  exact ⟨e,f0,f1,f2,d⟩
theorem Inv.unpinned {pins pl:List (Addr×Obj)}{σ:St}{H:Hp}{s:Shared} (I:Inv X (pins++pl) σ H s):Inv X pins σ H s:=I.pins_of fun p hp=>I.pin p (List.mem_append_right _ (List.mem_append_left _ hp))
theorem ps_for {iter:Expr}{body:List Stmt}{wi:TI}{g:TG}{tb:TS}{pos:Pos} (hp:PassesOwn (model X.prog X.w) X.A X.env X.xe) (hc:X.calm=true) (hi:PI X tg iter wi) (hg:PG X tg g) (hb:PSs X body tb)
  (hs:∀ x,foldedSetIterable iter X.env x=pure x:=by intro _;rfl):PS X (.For tg iter body [] pos) (tFor wi g tb):=by
 intro pins s σ H D I h
 refine wpAny_For (thn (hi pins s σ H _ I h) fun v s1 h1=>thn h1 fun itv s2 h2=>?_) hs
 obtain ⟨it,fp,tn,J,H2,e,I2,T,st2,f2,W,⟨m0,w0⟩,turn⟩:=h2
 subst e
 have stat:∀ {H':Hp},(∀ b∈fp,H' b=none)→∀ b∈fp,FpOk X pins H' b:=fun hn b hb=>⟨hn b hb,(f2 b hb).2⟩
 refine codeAny_forLoop_any (fun n s'=>∃ i σ' H',Inv X pins σ' H' s'∧tn i s'.heap∧(∀ b∈fp,H' b=none)∧W i n σ' H') ?_ m0 ⟨0,σ,H2,I2,st2,fun b hb=>(f2 b hb).1,w0⟩
 rintro n s3 ⟨i,σ3,H3,I3,st3,fr3,w3⟩
 rcases turn i n σ3 H3 w3 with ⟨stop,qn⟩ | ⟨go,N,hN,step⟩
 ·refine wpAny_passesOwn hp (thn (T.done X rfl rfl rfl hc i pins s3 σ3 H3 X.xe I3 (stat fr3) st3 stop) fun r s4 ⟨hr,I4⟩=>?_)
  subst hr
  exact wpAny_execs_nil ⟨σ3,H3,I4,qn⟩
 ·refine wpAny_passesOwn hp (thn (T.item X rfl rfl rfl hc i pins s3 σ3 H3 X.xe I3 (stat fr3) st3 go) fun r s4 ⟨u,hr,h4⟩=>?_)
  subst hr
  refine wpAny_passesOwn hp (thn h4 fun _ s5 ⟨x,H5,I5,r5,y5,st5,fr5⟩=>?_)
  have I5':=I5.pinned (stat fr5) (T.obj _ _ st5)
  refine wpAny_passesOwn hp (thn (hg _ s5 σ3 H5 x u _ I5' r5 (step x H5 y5)) fun _ s6 ⟨σ6,H6,I6,q6⟩=>?_)
  refine wpAny_passesOwn hp (thn (hb _ s6 σ6 H6 _ I6 q6) fun f s7 q7=>?_)
  have again:∀ {σ7:St}{H7:Hp},Inv X (pins++pinsAt fp s5.heap) σ7 H7 s7→N σ7 H7→∃ m,m < n∧∃ i σ' H',Inv X pins σ' H' s7∧tn i s7.heap∧(∀ b∈fp,H' b=none)∧W i m σ' H':=fun {σ7 H7} I7 n7=>by
   obtain ⟨m',hm,w7⟩:=hN σ7 H7 n7
   refine ⟨m',hm,i + 1,σ7,H7,I7.unpinned,T.keep _ _ _ st5 fun b hb o e=>(I7.pin (b,o) (List.mem_append_right _ (List.mem_append_right _ (mem_pinsAt hb e)))).1,fun b hb=>?_,w7⟩
   obtain ⟨o,e,d⟩:=T.obj _ _ st5 b hb
   exact (I7.pin (b,o) (List.mem_append_right _ (List.mem_append_right _ (mem_pinsAt hb e)))).2.1
  cases f with
  | next=>obtain ⟨σ7,H7,I7,n7⟩:=q7;exact again I7 n7
  | cont=>obtain ⟨σ7,H7,I7,n7⟩:=q7;exact again I7 n7
  | brk=>obtain ⟨σ7,H7,I7,q7⟩:=q7;exact ⟨σ7,H7,I7.unpinned,q7⟩
  | ret v=>obtain ⟨x7,σ7,H7,I7,r7,q7⟩:=q7;exact ⟨x7,σ7,H7,I7.unpinned,r7,q7⟩
end
abbrev R2:=V→V→Hp→VK→Prop
def OpR (X:Cx) (f:Value→Value→Sem Value) (r:R2):Prop:=
 ∀ (pins:List (Addr×Obj)) (s:Shared) (σ:St) (H:Hp) (x y:V) (v u:Value) (Q:VK),Inv X pins σ H s→RelV x v→RelV y u→r x y H Q →
  wpAny (model X.prog X.w) X.A (f v u) (EP X pins σ Q) X.xe s
def CallR (X:Cx) (f:Value) (r:List V→Hp→VK→Prop):Prop:=
 ∀ (pins:List (Addr×Obj)) (s:Shared) (σ:St) (H:Hp) (xs:List V) (us:List Value) (Q:VK),Inv X pins σ H s→Vals xs us→r xs H Q →
  wpAny (model X.prog X.w) X.A (call f us) (EP X pins σ Q) X.xe s
def tOp (r:R2) (ta tb:TE):TE:=fun σ H Q=>ta σ H fun x H1=>tb σ H1 fun y H2=>r x y H2 Q
def rI (C:Int→Int→Prop) (g:Int→Int→V):R2:=fun x y H Q=>∃ i j,x=.int i∧y=.int j∧C i j∧Q (g i j) H
def rI0 (g:Int→Int→V):R2:=fun x y H Q=>∃ i j,x=.int i∧y=.int j∧Q (g i j) H
section
variable {X:Cx}{a b c:Expr}{ta tb tc:TE}{pos:Pos}
theorem binT (ha:PE X a ta) (hb:PE X b tb) {pins:List (Addr×Obj)}{s:Shared}{σ:St}{H:Hp}{R:V→V→Hp→Prop} (I:Inv X pins σ H s)
  (h:ta σ H fun x H1=>tb σ H1 fun y H2=>R x y H2) {Q:Value→Shared→Prop}{f:Value→Value→Sem Value}
  (hf:∀ v u s2 x y H2,Inv X pins σ H2 s2→RelV x v→RelV y u→R x y H2→wpAny (model X.prog X.w) X.A (f v u) Q X.xe s2) :
  wpAny (model X.prog X.w) X.A (eval a X.env) (fun v s₁=>wpAny (model X.prog X.w) X.A (eval b X.env) (fun u s₂=>wpAny (model X.prog X.w) X.A (f v u) Q X.xe s₂) X.xe s₁) X.xe s:=by
 refine thn (ha pins s σ H _ I h) fun v s1 ⟨x,H1,I1,r1,q1⟩=>?_
 refine thn (hb pins s1 σ H1 _ I1 q1) fun u s2 ⟨y,H2,I2,r2,q2⟩=>?_
 exact hf v u s2 x y H2 I2 r1 r2 q2
theorem pe_op {op:Operator}{r:R2} (ho:OpR X (binaryOp op) r) (ha:PE X a ta) (hb:PE X b tb):PE X (.BinOp a op b pos) (tOp r ta tb):=by
 intro pins s σ H Q I h
 exact wpAny_BinOp (binT ha hb I h fun v u s2 x y H2 I2 rx ry q=>ho pins s2 σ H2 x y v u Q I2 rx ry q)
theorem opI {f:Value→Value→Sem Value}{C:Int→Int→Prop}{g:Int→Int→Int}
  (rule:∀ (i j:Int) (t u:Tok) (s:Shared) (Q:Value→Shared→Prop) (E:Value→Shared→Prop),C i j→Q (.int (g i j) s.toks) { s with toks:=s.toks + 1 }→wpAny (model X.prog X.w) X.A (f (.int i t) (.int j u)) Q E s) :
  OpR X f (rI C fun i j=>.int (g i j)):=by
 intro pins s σ H x y v u Q I rx ry h
 obtain ⟨i,j,rfl,rfl,hc,q⟩:=h
 obtain ⟨t,rfl⟩:=rx
 obtain ⟨t',rfl⟩:=ry
 exact rule i j t t' s _ _ hc ⟨.int (g i j),H,I.tok _,⟨_,rfl⟩,q⟩
theorem opI0 {f:Value→Value→Sem Value}{g:Int→Int→Int}
  (rule:∀ (i j:Int) (t u:Tok) (s:Shared) (Q:Value→Shared→Prop) (E:Value→Shared→Prop),Q (.int (g i j) s.toks) { s with toks:=s.toks + 1 }→wpAny (model X.prog X.w) X.A (f (.int i t) (.int j u)) Q E s) :
  OpR X f (rI0 fun i j=>.int (g i j)):=by
 intro pins s σ H x y v u Q I rx ry h
 obtain ⟨i,j,rfl,rfl,q⟩:=h
 obtain ⟨t,rfl⟩:=rx
 obtain ⟨t',rfl⟩:=ry
 exact rule i j t t' s _ _ ⟨.int (g i j),H,I.tok _,⟨_,rfl⟩,q⟩
theorem opB0 {f:Value→Value→Sem Value}{g:Int→Int→Bool}
  (rule:∀ (i j:Int) (t u:Tok) (s:Shared) (Q:Value→Shared→Prop) (E:Value→Shared→Prop),Q (.bool (g i j)) s→wpAny (model X.prog X.w) X.A (f (.int i t) (.int j u)) Q E s) :
  OpR X f (rI0 fun i j=>.bl (g i j)):=by
 intro pins s σ H x y v u Q I rx ry h
 obtain ⟨i,j,rfl,rfl,q⟩:=h
 obtain ⟨t,rfl⟩:=rx
 obtain ⟨t',rfl⟩:=ry
 exact rule i j t t' s _ _ ⟨.bl (g i j),H,I,rfl,q⟩
def CMul (i j:Int):Prop:=(-(2 ^ 64) < i∧i < 2 ^ 64)∨(-(2 ^ 64) < j∧j < 2 ^ 64)
theorem CMul.ok {i j:Int} (h:CMul i j):IntMulOk i j:=by
 rcases h with ⟨h1,h2⟩ | ⟨h1,h2⟩
 ·exact .of_left (intBits_le_64 h1 h2)
 ·exact .of_right (intBits_le_64 h1 h2)
theorem op_add:OpR X (binaryOp .Add) (rI0 fun i j=>.int (i + j)):=opI0 fun _ _ _ _ _ _ _ q=>add_int q
theorem op_mul:OpR X (binaryOp .Mult) (rI CMul fun i j=>.int (i * j)):=opI fun _ _ _ _ _ _ _ hc q=>mul_int q hc.ok
theorem op_mod:OpR X (binaryOp .Mod) (rI (fun _ j=>0 < j) fun i j=>.int (i % j)):=opI fun i j _ _ _ _ _ hc q=>by
 have h1:(0:Int) < j:=hc
 exact mod_int' (by omega) (by rw [Int.fmod_eq_emod_of_nonneg i (by omega)];exact q)
end
def scal:V→V→Bool
 | .non,.non=>true | .non,.int _=>true | .int _,.non=>true | .non,.bl _=>true | .bl _,.non=>true | .non,.str _=>true | .str _,.non=>true
 | .int _,.int _=>true | .bl _,.bl _=>true | .str _,.str _=>true | .byt _,.byt _=>true
 | .int _,.str _=>true | .str _,.int _=>true | .bl _,.str _=>true | .str _,.bl _=>true
 | _,_=>false
def rEq:R2:=fun x y H Q=>scal x y=true∧Q (.bl (decide (x=y))) H
def rNe:R2:=fun x y H Q=>scal x y=true∧Q (.bl (!decide (x=y))) H
theorem dec_int {i j:Int}:decide (V.int i=V.int j)=(i == j):=by
 rw [Bool.eq_iff_iff]
 simp
theorem dec_bl {i j:Bool}:decide (V.bl i=V.bl j)=(i == j):=by
 rw [Bool.eq_iff_iff]
 simp
theorem dec_str {i j:Str}:decide (V.str i=V.str j)=(i == j):=by
 rw [Bool.eq_iff_iff]
 simp
theorem dec_byt {i j:Array UInt8}:decide (V.byt i=V.byt j)=(i.toList == j.toList):=by
 rw [Bool.eq_iff_iff]
 cases i
 cases j
 simp
section
variable {X:Cx}{a b c:Expr}{ta tb tc:TE}{pos:Pos}
theorem fin_bl {pins:List (Addr×Obj)}{σ:St}{H:Hp}{s:Shared}{Q:VK}{k k':Bool} (I:Inv X pins σ H s) (q:Q (.bl k) H) (e:k=k'):EP X pins σ Q (.bool k') s:=by
 subst e
 exact ⟨.bl k,H,I,rfl,q⟩
theorem op_eq:OpR X (compareOp .Eq) rEq:=by
 intro pins s σ H x y v u Q I rx ry h
 obtain ⟨hs,q⟩:=h
 cases x with
 | non=>
  cases rx
  cases y with
  | non=>cases ry;exact PySem.EqNone.eq_none_none (fin_bl I q (by simp))
  | bl j=>cases ry;exact PySem.EqNone.eq_none_bool (fin_bl I q (by simp))
  | int j=>obtain ⟨t',rfl⟩:=ry;exact PySem.EqNone.eq_none_int (fin_bl I q (by simp))
  | str j=>obtain ⟨t',rfl⟩:=ry;exact PySem.EqNone.eq_none_str (fin_bl I q (by simp))
  | _=>exact absurd (show false=true from hs) Bool.false_ne_true
 | bl i=>
  cases rx
  cases y with
  | non=>cases ry;exact PySem.EqNone.eq_bool_none (fin_bl I q (by simp))
  | bl j=>cases ry;exact eq_bool (fin_bl I q dec_bl)
  | str j=>obtain ⟨t',rfl⟩:=ry;exact PySem.EqMixed.eq_bool_str (fin_bl I q (by simp))
  | _=>exact absurd (show false=true from hs) Bool.false_ne_true
 | int i=>
  obtain ⟨t,rfl⟩:=rx
  cases y with
  | non=>cases ry;exact PySem.EqNone.eq_int_none (fin_bl I q (by simp))
  | int j=>obtain ⟨t',rfl⟩:=ry;exact eq_int (fin_bl I q dec_int)
  | str j=>obtain ⟨t',rfl⟩:=ry;exact PySem.EqMixed.eq_int_str (fin_bl I q (by simp))
  | _=>exact absurd (show false=true from hs) Bool.false_ne_true
 | str i=>
  obtain ⟨t,rfl⟩:=rx
  cases y with
  | non=>cases ry;exact PySem.EqNone.eq_str_none (fin_bl I q (by simp))
  | bl j=>cases ry;exact PySem.EqMixed.eq_str_bool (fin_bl I q (by simp))
  | int j=>obtain ⟨t',rfl⟩:=ry;exact PySem.EqMixed.eq_str_int (fin_bl I q (by simp))
  | str j=>obtain ⟨t',rfl⟩:=ry;exact eq_str (fin_bl I q dec_str)
  | _=>exact absurd (show false=true from hs) Bool.false_ne_true
 | byt i=>
  obtain ⟨t,rfl⟩:=rx
  cases y with
  | byt j=>obtain ⟨t',rfl⟩:=ry;exact PySem.W.eq_bytes (fin_bl I q dec_byt)
  | _=>exact absurd (show false=true from hs) Bool.false_ne_true
 | _=>cases y <;> exact absurd (show false=true from hs) Bool.false_ne_true
theorem op_ne:OpR X (compareOp .NotEq) rNe:=by
 intro pins s σ H x y v u Q I rx ry h
 obtain ⟨hs,q⟩:=h
 cases x with
 | non=>
  cases rx
  cases y with
  | non=>cases ry;exact PySem.EqNone.ne_none_none (fin_bl I q (by simp))
  | bl j=>cases ry;exact PySem.EqNone.ne_none_bool (fin_bl I q (by simp))
  | int j=>obtain ⟨t',rfl⟩:=ry;exact PySem.EqNone.ne_none_int (fin_bl I q (by simp))
  | str j=>obtain ⟨t',rfl⟩:=ry;exact PySem.EqNone.ne_none_str (fin_bl I q (by simp))
  | _=>exact absurd (show false=true from hs) Bool.false_ne_true
 | bl i=>
  cases rx
  cases y with
  | non=>cases ry;exact PySem.EqNone.ne_bool_none (fin_bl I q (by simp))
  | bl j=>cases ry;exact ne_bool (fin_bl I q (congrArg not dec_bl))
  | str j=>obtain ⟨t',rfl⟩:=ry;exact PySem.EqMixed.ne_bool_str (fin_bl I q (by simp))
  | _=>exact absurd (show false=true from hs) Bool.false_ne_true
 | int i=>
  obtain ⟨t,rfl⟩:=rx
  cases y with
  | non=>cases ry;exact PySem.EqNone.ne_int_none (fin_bl I q (by simp))
  | int j=>obtain ⟨t',rfl⟩:=ry;exact ne_int (fin_bl I q (congrArg not dec_int))
  | str j=>obtain ⟨t',rfl⟩:=ry;exact PySem.EqMixed.ne_int_str (fin_bl I q (by simp))
  | _=>exact absurd (show false=true from hs) Bool.false_ne_true
 | str i=>
  obtain ⟨t,rfl⟩:=rx
  cases y with
  | non=>cases ry;exact PySem.EqNone.ne_str_none (fin_bl I q (by simp))
  | bl j=>cases ry;exact PySem.EqMixed.ne_str_bool (fin_bl I q (by simp))
  | int j=>obtain ⟨t',rfl⟩:=ry;exact PySem.EqMixed.ne_str_int (fin_bl I q (by simp))
  | str j=>obtain ⟨t',rfl⟩:=ry;exact ne_str (fin_bl I q (congrArg not dec_str))
  | _=>exact absurd (show false=true from hs) Bool.false_ne_true
 | byt i=>
  obtain ⟨t,rfl⟩:=rx
  cases y with
  | byt j=>obtain ⟨t',rfl⟩:=ry;exact PySem.W.ne_bytes (fin_bl I q (congrArg not dec_byt))
  | _=>exact absurd (show false=true from hs) Bool.false_ne_true
 | _=>cases y <;> exact absurd (show false=true from hs) Bool.false_ne_true
theorem op_gt:OpR X (compareOp .Gt) (rI0 fun i j=>.bl (decide (j < i))):=opB0 fun _ _ _ _ _ _ _ q=>gt_int q
theorem op_notN:OpR X (compareOp .IsNot) (fun x y H Q=>y=.non∧Q (.bl (!decide (x=.non))) H):=by
 intro pins s σ H x y v u Q I rx ry h
 obtain ⟨rfl,q⟩:=h
 cases ry
 refine isnot_none_gen (fin_bl I q ?_)
 cases x <;> first
  | (cases rx;rfl)
  | (obtain ⟨t,rfl⟩:=rx;rfl)
theorem nomark (b:Expr) {op:CmpOp} (h:op≠.In:=by decide) (h2:op≠.NotIn:=by decide):behindInMarks op b=false:=by
 have e1:(op == CmpOp.In)=false:=by cases op <;> first | rfl | exact absurd rfl h
 have e2:(op == CmpOp.NotIn)=false:=by cases op <;> first | rfl | exact absurd rfl h2
 cases b <;> simp [behindInMarks,e1,e2]
theorem pe_cmpR {op:CmpOp}{r:R2} (ho:OpR X (compareOp op) r) (ha:PE X a ta) (hb:PE X b tb) (hm:behindInMarks op b=false):PE X (.Compare a [op] [b] pos) (tOp r ta tb):=by
 intro pins s σ H Q I h
 exact wpAny_Compare1 (binT ha hb I h fun v u s2 x y H2 I2 rx ry q=>ho pins s2 σ H2 x y v u Q I2 rx ry q) hm
def tTest (t:TE):TT:=fun σ H Q=>t σ H fun x H'=>∃ k,x=.bl k∧Q k H'
theorem pt_cmpR {op:CmpOp}{r:R2} (ho:OpR X (compareOp op) r) (ha:PE X a ta) (hb:PE X b tb) (hm:behindInMarks op b=false):PT X (.Compare a [op] [b] pos) (tTest (tOp r ta tb)):=by
 intro pins s σ H Q I h
 refine wpAny_isTrue_Compare1 (thn (ha pins s σ H _ I h) fun v s1 ⟨x,H1,I1,r1,q1⟩=>thn (hb pins s1 σ H1 _ I1 q1) fun u s2 ⟨y,H2,I2,r2,q2⟩=>
  thn (ho pins s2 σ H2 x y v u _ I2 r1 r2 q2) fun c s3 ⟨z,H3,I3,r3,k,e,q3⟩=>?_) hm
 subst e
 cases r3
 exact wpAny_truthy_bool ⟨H3,I3,q3⟩
theorem line63:(sizeLine:Nat) < 2 ^ 63:=by rw [sizeLine_eq];decide
theorem vals1 {x:V}{us:List Value} (r:Vals [x] us):∃ u,us=[u]∧RelV x u:=by
 cases r with
 | cons r1 r2=>cases r2;exact ⟨_,rfl,r1⟩
theorem vals2 {x y:V}{us:List Value} (r:Vals [x,y] us):∃ u w',us=[u,w']∧RelV x u∧RelV y w':=by
 cases r with
 | cons r1 r2=>
  cases r2 with
  | cons r3 r4=>cases r4;exact ⟨_,_,rfl,r1,r3⟩
theorem call_min2 (hc:X.calm=true):CallR X (.builtin "min") (fun xs H Q=>∃ i j,xs=[.int i,.int j]∧Q (.int (if j < i then j else i)) H):=by
 intro pins s σ H xs us Q I r h
 obtain ⟨i,j,rfl,q⟩:=h
 obtain ⟨u,w',rfl,⟨t,rfl⟩,⟨t',rfl⟩⟩:=vals2 r
 refine min_two_ints (I.ok.hd hc) fun h' tk k=>⟨_,H,I.kept k,?_,q⟩
 by_cases hj:j < i
 ·rw [if_pos hj,if_pos hj];exact ⟨_,rfl⟩
 ·rw [if_neg hj,if_neg hj];exact ⟨_,rfl⟩
end
theorem RelO.some_of {v:V}{o:Option Value} (r:RelO (some v) o):∃ u,o=some u∧RelV v u:=by
 cases o with
 | none=>exact (show False from r).elim
 | some u=>exact ⟨u,rfl,r⟩
structure Room (k:Nat) (A:Around) (cm:Bool:=true):Prop where
 hd:cm=true→A.handled=none
 dp:A.depth + 3 * k + 5 < recursionLimit
 un:A.units + 16 * k + 200 < cLine
 gd:A.guards=some []
theorem Room.mono {j k:Nat}{A:Around}{cm:Bool} (r:Room k A cm) (h:j≤k):Room j A cm:=⟨r.hd,by have:=r.dp;omega,by have:=r.un;omega,r.gd⟩
theorem Room.deeper {k:Nat}{A:Around}{cm:Bool} (r:Room (k + 1) A cm) (env:Env):Room k (A.deeper env) cm:=
 ⟨r.hd,by have:=r.dp;show A.depth + 1 + 3 * k + 5 < _;omega,by have:=r.un;show A.units + 3 + 16 * k + 200 < _;omega,r.gd⟩
theorem Room.depth {k:Nat}{A:Around}{cm:Bool} (r:Room k A cm):A.depth < recursionLimit:=by have:=r.dp;omega
theorem Room.units {k:Nat}{A:Around}{cm:Bool} (r:Room k A cm):A.units + 64 < cLine:=by have:=r.un;omega
def tNil:TA:=fun _ H Q=>Q [] H
def tCons (ta:TE) (tr:TA):TA:=fun σ H Q=>ta σ H fun x H1=>tr σ H1 fun xs H2=>Q (x::xs) H2
section
variable {X:Cx}{e:Expr}{es:List Expr}{te:TE}{t:TA}{pos:Pos}
theorem pa_nil:PA X [] tNil:=fun _ _ _ _ H Q I h=>Calls.spliced_nil ⟨[],H,I,.nil,h⟩
theorem pa_cons (ha:PE X e te) (hr:PA X es t) (hs:starEach (e::es) X.env=(false,eval e X.env)::starEach es X.env:=by rfl):PA X (e::es) (tCons te t):=by
 intro pos pins s σ H Q I h
 rw [hs]
 show wpAny _ _ (spliced ((false,eval e X.env)::backTo pos (starEach es X.env))) _ _ s
 refine Calls.spliced_cons (thn (ha pins s σ H _ I h) fun u s1 ⟨x,H1,I1,r1,q1⟩=>?_)
 exact thn (hr pos pins s1 σ H1 _ I1 q1) fun us s2 ⟨xs,H2,I2,r2,q2⟩=>⟨x::xs,H2,I2,.cons r1 r2,q2⟩
def tTup (t:TA):TE:=fun σ H Q=>t σ H fun xs H1=>xs.length≤sizeLine∧∀ p,H1 p=none→Q (.ref p) (upd H1 p (.tup xs))
def tLst (t:TA):TE:=fun σ H Q=>t σ H fun xs H1=>xs.length≤sizeLine∧∀ p,H1 p=none→Q (.ref p) (upd H1 p (.lst xs))
theorem pe_tup {x1} (h:PA X es t):PE X (.Tuple es x1 pos) (tTup t):=by
 intro pins s σ H Q I hq
 refine wpAny_Tuple_spliced (thn (h pos pins s σ H _ I hq) fun us s1 ⟨xs,H1,I1,r,z,q⟩=>⟨by rw [← r.length];exact z,?_⟩)
 have hf:H1 s1.heap.objs.size=none:=I1.hok.fresh (Nat.le_refl _)
 refine ⟨.ref s1.heap.objs.size,upd H1 s1.heap.objs.size (.tup xs),I1.laid (t':=s1.toks) (fun b u e=>Heap.get?_push_of_some _ e) (Nat.le_refl _) ?_,rfl,q _ hf⟩
 exact ⟨z,us,r,⟨_,Heap.get?_push_size _ rfl,rfl,rfl,_,rfl⟩⟩
theorem pe_lst (h:PA X es t):PE X (.List es pos) (tLst t):=by
 intro pins s σ H Q I hq
 refine wpAny_List_spliced (thn (h pos pins s σ H _ I hq) fun us s1 ⟨xs,H1,I1,r,z,q⟩=>⟨by rw [← r.length];exact z,?_⟩)
 have hf:H1 s1.heap.objs.size=none:=I1.hok.fresh (Nat.le_refl _)
 refine ⟨.ref s1.heap.objs.size,upd H1 s1.heap.objs.size (.lst xs),I1.laid (t':=s1.toks) (fun b u e=>Heap.get?_push_of_some _ e) (Nat.le_refl _) ?_,rfl,q _ hf⟩
 exact ⟨z,us,0,r,Heap.get?_push_size _ rfl⟩
end
abbrev Sp:=List V→Hp→VK→XK→Prop
abbrev CXT:=List Env→Hp→Shared→XK→Value→Shared→Prop
structure Env0 (P:Program) (w:World) (K:PySem.W.Frag) (mg:Str→Option Value) (base:Heap) (A:Around) (outer:List Env) (s:Shared) (H:Hp):Prop where
 frames:A.frames=some outer
 mod:Mod K mg base
 bs:∀ b o,base.get? b=some o→s.heap.get? b=some o∧H b=none
 bsz:base.objs.size≤s.heap.objs.size
 funs:s.heap.FunFrames base outer
 frf:∀ b∈frs outer,H b=none
 hok:HOk P w H s.heap
 bare:AllBare s.gens
def CE (outer:List Env) (P:Program) (w:World) (H:Hp) (s:Shared) (Q:VK) (u:Value) (s':Shared):Prop:=
 ∃ v H',s'.os=s.os∧AllBare s'.gens∧Un (frs outer) [] H H' s.heap s'.heap∧HOk P w H' s'.heap∧RelV v u∧Q v H'
def CR (CX:CXT) (outer:List Env) (P:Program) (w:World) (H:Hp) (s:Shared) (Q:VK) (E:XK) (r:Result) (s':Shared):Prop:=
 match r with
 | .ok (.ret u)=>CE outer P w H s Q u s'
 | .ok _=>False
 | .error e=>CX outer H s E e s'
structure FnOk (P:Program) (w:World) (K:PySem.W.Frag) (mg:Str→Option Value) (base:Heap) (CX:CXT) (k:Nat) (f:Addr) (fd:FuncData) (ps:List Str) (sp:Sp) (cm:Bool:=true):Prop where
 len:∀ vs H Q E,sp vs H Q E→vs.length=ps.length
 run:∀ (A:Around) (outer:List Env) (s:Shared) (H:Hp) (args:Args) (us:List Value) (vs:List V) (Q:VK) (E:XK),Room k A cm→Env0 P w K mg base A outer s H→BindsTo s fd args (ps.zip us)→Vals vs us→sp vs H Q E →
  codeAny (model P w) A (.call (.ref f) args) (CR CX outer P w H s Q E) s
section
variable {X:Cx}{pins:List (Addr×Obj)}{σ:St}{H:Hp}{s s':Shared}
theorem Inv.env0 (I:Inv X pins σ H s):Env0 X.prog X.w X.K X.mg X.base X.A X.stack s H:=
 ⟨I.ok.frames,I.ok.mod,I.bs,Nat.le_trans I.ok.bsz I.sz,I.stack,I.stkFree,I.hok,I.bare⟩
theorem Inv.after {Q:VK}{u:Value} (I:Inv X pins σ H s) (h:CE X.stack X.prog X.w H s Q u s'):EP X pins σ Q u s':=by
 obtain ⟨v,H',os,bare,un,hok,r,q⟩:=h
 obtain ⟨hh,g,d,t,os'⟩:=s'
 obtain rfl:os'=s.os:=os
 exact ⟨v,H',I.call (h':=hh) (g':=g) (d':=d) (t':=t) (ch:=[]) un hok bare (fun b z=>absurd z (by simp)),r,q⟩
end
def tCall (sp:Sp) (dvs:List V) (E:XK) (t:TA):TE:=fun σ H Q=>t σ H fun vs H1=>sp (vs++dvs) H1 Q E
def Binds (K:PySem.W.Frag) (fd:FuncData) (ps:List Str) (ds:List Value):Prop:=
 ∀ (s:Shared) (us:List Value),K.In s.heap→(us++ds).length=ps.length→BindsTo s fd ⟨us,[]⟩ (ps.zip (us++ds))
theorem Binds.all {K:PySem.W.Frag}{fd:FuncData}{ps:List Str} (h:∀ us:List Value,us.length=ps.length→bindArgs fd ⟨us,[]⟩=pure (ps.zip us)):Binds K fd ps []:=fun s us _ hl=>by
 rw [List.append_nil] at hl ⊢
 exact .of_eq (h us hl)
def Passes (CX:CXT) (X:Cx) (E:XK):Prop:=∀ (pins:List (Addr×Obj)) (σ:St) (H:Hp) (s:Shared) (e:Value) (s':Shared),Inv X pins σ H s→CX X.stack H s E e s'→X.xe e s'
section
variable {X:Cx}{CX:CXT}{k:Nat}{f C:Addr}{fd:FuncData}{ps:List Str}{sp:Sp}{dvs:List V}{ds:List Value}{E:XK}{x m:Str}{p pos apos:Pos}{e o:Expr}{es:List Expr}{ta:TE}{t:TA}
variable {cm:Bool}
theorem run_fn {pins:List (Addr×Obj)}{σ:St}{H:Hp}{s:Shared}{Q:VK}{us:List Value}{vs:List V} (F:FnOk X.prog X.w X.K X.mg X.base CX k f fd ps sp cm) (hr:Room k X.A cm) (hb:Binds X.K fd ps ds) (hd:Vals dvs ds) (hx:Passes CX X E)
  (I:Inv X pins σ H s) (r:Vals vs us) (h:sp (vs++dvs) H Q E):wpAny (model X.prog X.w) X.A (call (.ref f) us) (EP X pins σ Q) X.xe s:=by
 have r2:Vals (vs++dvs) (us++ds):=r.append hd
 have hl:(us++ds).length=ps.length:=by rw [← r2.length];exact F.len _ _ _ _ h
 refine wpAny_call (codeAny_mono (F.run X.A X.stack s H ⟨us,[]⟩ (us++ds) (vs++dvs) Q E hr I.env0 (hb s us I.kIn hl) r2 h) fun r s' hq=>?_)
 cases r with
 | error e=>exact hx pins σ H s e s' I hq
 | ok fl=>
  cases fl with
  | ret u=>exact I.after hq
  | next=>exact False.elim hq
  | brk=>exact False.elim hq
  | cont=>exact False.elim hq
theorem pe_call (F:FnOk X.prog X.w X.K X.mg X.base CX k f fd ps sp cm) (hr:Room k X.A cm) (hg:Gl X x) (hm:X.mg x=some (.ref f)) (hk:PySem.W.keepIn X.K (.ref f)=true) (hb:Binds X.K fd ps ds) (hd:Vals dvs ds) (hx:Passes CX X E)
  (ha:PA X (e::es) t) (hdb:(x == ("__debug__":Str))=false:=by decide) (he:starEach (e::es) X.env=(false,eval e X.env)::starEach es X.env:=by rfl) (hpl:(backTo pos (starEach es X.env)).any (·.1)=false:=by rfl) :
  PE X (.Call (.Name x p) (e::es) [] pos) (tCall sp dvs E t):=by
 intro pins s σ H Q I h
 refine wpAny_Call_Name_kw (ld_glob I hg hm ?_ hdb)
 refine PySem.W.callWith_K (h₀:=X.base) I.ok.mod.kin hk (thn (ha pos pins s σ H _ I h) fun us s1 ⟨vs,H1,I1,r,q⟩=>⟨I1.kIn,?_⟩) he hpl
 exact run_fn F hr hb hd hx I1 r q
end
structure FnScope (N P:List Str) (sc:Scope):Prop where
 kind:sc.kind=.function
 co:sc.isCoroutine=false
 gen:sc.isGenerator=false
 nd:N.Nodup
 pre:N.take P.length=P
 par:∀ x∈P,sc.names.lookup x=some .local∨sc.names.lookup x=some .cell
 nofree:∀ y∈sc.names,y.2≠.free
theorem bindL_out {kindOf:Str→Option NameKind}{x:Str}:∀ {binds:List (Str×Value)}{m:Str→Option Value},(∀ v,(x,v)∉binds)→bindL kindOf binds m x=m x
 | [],_,_=>rfl
 | (n,v)::r,m,h=>by
  unfold bindL
  rw [bindL_out fun w hw=>h w (List.mem_cons_of_mem _ hw)]
  split
  ·have:x≠n:=by rintro rfl;exact h v List.mem_cons_self
   simp [this]
  ·rfl
theorem bindC_out {kindOf:Str→Option NameKind}{x:Str}:∀ {binds:List (Str×Value)}{m:Str→Option Value},(∀ v,(x,v)∉binds)→bindC kindOf binds m x=m x
 | [],_,_=>rfl
 | (n,v)::r,m,h=>by
  unfold bindC
  rw [bindC_out fun w hw=>h w (List.mem_cons_of_mem _ hw)]
  split
  ·rfl
  ·have:x≠n:=by rintro rfl;exact h v List.mem_cons_self
   simp [this]
theorem bindL_get {kindOf:Str→Option NameKind}{x:Str}{v:Value}:∀ {P:List Str}{vs:List Value}{i:Nat}{m:Str→Option Value},P.Nodup→P[i]? = some x→vs[i]? = some v→kindOf x=some .local →
  bindL kindOf (P.zip vs) m x=some v
 | [],_,_,_,_,h,_,_=>by simp at h
 | _::_,[],_,_,_,_,h,_=>by simp at h
 | p::P,w::vs,0,m,nd,h1,h2,hk=>by
  simp at h1 h2;subst h1;subst h2
  show bindL kindOf ((p,w)::P.zip vs) m p=_
  unfold bindL
  rw [bindL_out fun v hv=>(List.nodup_cons.mp nd).1 (List.of_mem_zip hv).1,if_pos hk]
  simp
 | p::P,w::vs,i + 1,m,nd,h1,h2,hk=>by
  show bindL kindOf ((p,w)::P.zip vs) m x=_
  unfold bindL
  exact bindL_get (i:=i) (List.nodup_cons.mp nd).2 (by simpa using h1) (by simpa using h2) hk
theorem bindC_get {kindOf:Str→Option NameKind}{x:Str}{v:Value}:∀ {P:List Str}{vs:List Value}{i:Nat}{m:Str→Option Value},P.Nodup→P[i]? = some x→vs[i]? = some v→kindOf x≠some .local →
  bindC kindOf (P.zip vs) m x=some v
 | [],_,_,_,_,h,_,_=>by simp at h
 | _::_,[],_,_,_,_,h,_=>by simp at h
 | p::P,w::vs,0,m,nd,h1,h2,hk=>by
  simp at h1 h2;subst h1;subst h2
  show bindC kindOf ((p,w)::P.zip vs) m p=_
  unfold bindC
  rw [bindC_out fun v hv=>(List.nodup_cons.mp nd).1 (List.of_mem_zip hv).1,if_neg hk]
  simp
 | p::P,w::vs,i + 1,m,nd,h1,h2,hk=>by
  show bindC kindOf ((p,w)::P.zip vs) m x=_
  unfold bindC
  exact bindC_get (i:=i) (List.nodup_cons.mp nd).2 (by simpa using h1) (by simpa using h2) hk
def start (N:List Str) (vs:List V):St:=vs.map some++List.replicate (N.length - vs.length) none
def cxOf (CX:CXT) (P:Program) (w:World) (K:PySem.W.Frag) (mg:Str→Option Value) (base:Heap) (N:List Str) (qual:Str) (scope:Scope) (f:Addr) (cd:Value) (A:Around) (outer:List Env) (s:Shared) (H:Hp) (E:XK) (cm:Bool:=true):Cx where
 prog:=P
 w:=w
 K:=K
 mg:=mg
 base:=base
 A:=A.deeper (envOfC qual scope s.heap.objs.size f cd)
 N:=N
 s₀:=s
 H₀:=H
 env:=envOfC qual scope s.heap.objs.size f cd
 outer:=outer
 stack:=envOfC qual scope s.heap.objs.size f cd::outer
 ex:=[]
 calm:=cm
 fn:=fun _=>true
 pn:=[]
 xe:=fun e s'=>wpAny (model P w) (A.deeper (envOfC qual scope s.heap.objs.size f cd)) (leaving (envOfC qual scope s.heap.objs.size f cd) e) (fun _ s''=>CX outer H s E e s'') (fun e' s''=>CX outer H s E e' s'') s'
theorem cell_has {sc:Scope}{n:Nat}{x:Str} (h:sc.names.lookup x=some .cell):∃ c,(cellsFrom n sc.names []).lookup x=some c:=by
 have q:=PySem.W.cellsFrom_some sc.names n [] (.inl h)
 exact Option.isSome_iff_exists.mp q
theorem inv_start {CX:CXT}{P:Program}{w:World}{K:PySem.W.Frag}{mg:Str→Option Value}{base:Heap}{N ps:List Str}{qual:Str}{scope:Scope}{f:Addr}{cd:Value}{A:Around}{outer:List Env}{s s1:Shared}{H:Hp}{E:XK}{cm:Bool}{us:List Value}{vs:List V}
  (S:FnScope N ps scope) (hd:cm=true→A.handled=none) (e0:Env0 P w K mg base A outer s H) (hl:vs.length=ps.length) (r:Vals vs us)
  (x:InCallC s s.heap.objs.size (bindL (envOfC qual scope s.heap.objs.size f cd).kindOf (ps.zip us) fun _=>none) (cellsFrom (s.heap.objs.size + 1) scope.names []) (bindC (envOfC qual scope s.heap.objs.size f cd).kindOf (ps.zip us) fun _=>none) s1) :
  Inv (cxOf CX P w K mg base N qual scope f cd A outer s H E cm) [] (start N vs) H s1:=by
 have hpl:ps.length≤N.length:=by have:=congrArg List.length S.pre;rw [List.length_take] at this;omega
 obtain ⟨h1,tk,rfl,hk⟩:=x.done
 have noA:∀ b:Addr,b∉(cxOf CX P w K mg base N qual scope f cd A outer s H E cm).ex:=fun b z=>absurd (show b∈([]:List Addr) from z) (by simp)
 refine ⟨⟨e0.mod,S.kind,rfl,rfl,Nat.le_refl _,fun y z c h1 h2=>?_,fun y hy=>?_,fun y c _ h=>?_,hd,Around.frames_deeper e0.frames,.inr ⟨rfl,rfl⟩,fun b z=>absurd z (noA b),e0.bs,e0.bsz,fun b _ _=>noA b,fun b z=>absurd z (noA b),e0.funs,e0.frf⟩,
  rfl,e0.bare,Un.kept hk,⟨_,x.toInCall.ns,fun i y v h1 h2 h3=>?_⟩,fun y c h=>⟨_,x.cell y c h⟩,e0.hok.fresh (Nat.le_refl _),fun y c h=>?_,fun p hp=>absurd (show p∈([]:List (Addr×Obj)) from hp) (by simp),e0.hok.kept hk,?_⟩
 ·exact name_of_addr x.apart (PySem.mem_of_lookup h1) (PySem.mem_of_lookup h2)
 ·have hy:scope.names.lookup y=some .cell∨scope.names.lookup y=some .free:=hy
  rcases hy with hy | hy
  ·exact cell_has hy
  ·exact absurd rfl (S.nofree _ (PySem.mem_of_lookup hy))
 ·exact Nat.le_of_lt (x.above y c (PySem.mem_of_lookup h))
 ·have hi:i < vs.length:=by
   unfold start at h2
   by_cases hi:i < vs.length
   ·exact hi
   ·rw [List.getElem?_append_right (by simpa using hi)] at h2
    rw [List.getElem?_replicate] at h2
    split at h2 <;> cases h2
  have ha:vs[i]? = some v:=by
   unfold start at h2
   rw [List.getElem?_append_left (by simpa using hi),List.getElem?_map] at h2
   cases e:vs[i]? with
   | none=>rw [e] at h2;cases h2
   | some a=>rw [e] at h2;cases h2;rfl
  obtain ⟨u,hu,rv⟩:=r.get ha
  have hp:ps[i]? = some y:=by
   rw [← S.pre,List.getElem?_take_of_lt (by omega)];exact h1
  have ndP:ps.Nodup:=by rw [← S.pre];exact S.nd.sublist (List.take_sublist _ _)
  refine ⟨u,rv,?_⟩
  rcases S.par y (List.mem_of_getElem? hp) with k | k
  ·exact .inl ⟨k,bindL_get ndP hp hu k⟩
  ·obtain ⟨c,e⟩:=cell_has (n:=s.heap.objs.size + 1) k
   refine .inr ⟨.inl k,c,e,?_⟩
   have q:=x.cell y c e
   rw [bindC_get ndP hp hu (by show scope.names.lookup y≠_;rw [k];decide)] at q
   exact q
 ·exact e0.hok.fresh (Nat.le_of_lt (x.above y c (PySem.mem_of_lookup h)))
 ·unfold start
  show _=N.length
  rw [List.length_append,List.length_map,List.length_replicate]
  omega
theorem fn_of {CX:CXT}{P:Program}{w:World}{K:PySem.W.Frag}{mg:Str→Option Value}{base:Heap}{k:Nat}{f:Addr}{name qual:Str}{params:Arguments}{body:List Stmt}{scope:Scope}{dV kV doc pm cdv ct oc:Value}{an od:Option Addr}
  {osl:Array (Option Value)}{N ps:List Str}{sp:Sp}{cm:Bool} (lk:K.lookup f=some ⟨oc,od,.func (PySem.W.fnOf name qual params body scope dV kV doc pm an cdv ct),osl⟩) (hcd:PySem.W.codeIn K cdv qual=true) (S:FnScope N ps scope)
  (len:∀ vs H Q E,sp vs H Q E→vs.length=ps.length)
  (hbody:∀ (A:Around) (outer:List Env) (s:Shared) (H:Hp) (vs:List V) (Q:VK) (E:XK),Room k (A.deeper (envOfC qual scope s.heap.objs.size f cdv)) cm→sp vs H Q E →
   ∃ t,PSs (cxOf CX P w K mg base N qual scope f cdv A outer s H E cm) body t∧t { nx:=fun _ H'=>Q .non H',rt:=Q } (start N vs) H) :
  FnOk P w K mg base CX (k + 1) f (PySem.W.fnOf name qual params body scope dV kV doc pm an cdv ct) ps sp cm:=by
 refine ⟨len,fun A outer s H args us vs Q E hr e0 hb r hsp=>?_⟩
 have hl:=len _ _ _ _ hsp
 have KX:K.In s.heap:=e0.mod.kin.keeps fun b o e=>(e0.bs b o e).1
 have lim:s.heap.NoLimit:=e0.mod.nolimit.keeps fun b o e=>(e0.bs b o e).1
 have hkind:∀ y∈ps.zip us,scope.names.lookup y.1=some .local∨(scope.names.lookup y.1=some .cell∧((cellsFrom (s.heap.objs.size + 1) scope.names []).lookup y.1).isSome=true):=fun ⟨n,v⟩ hy=>by
  rcases S.par n (List.of_mem_zip hy).1 with q | q
  ·exact .inl q
  ·exact .inr ⟨q,PySem.W.cellsFrom_some _ _ _ (.inl q)⟩
 refine codeAny_call_function hr.depth (KX _ _ lk) rfl S.co S.gen rfl (PySem.W.codeRec_of KX hcd) (hb _ _ _ _ ?_)
 refine wpAny_newFunctionEnv_cells S.kind hkind fun env he s1 x=>?_
 subst he
 refine ⟨lim.keeps x.toInCall.keep,codeAny_func ?_⟩
 obtain ⟨t,ht,hq⟩:=hbody A outer s H vs Q E (hr.deeper _) hsp
 have I:Inv (cxOf CX P w K mg base N qual scope f cdv A outer s H E cm) [] (start N vs) H s1:=inv_start S hr.hd e0 hl r x
 refine wpAny_mono (ht [] s1 (start N vs) H _ I hq) (fun fl s' hs=>?_) fun e s' hs=>hs
 have fin:∀ {σ':St}{H':Hp}{v:V}{u:Value},Inv (cxOf CX P w K mg base N qual scope f cdv A outer s H E cm) [] σ' H' s'→RelV v u→Q v H'→CE outer P w H s Q u s':=
  fun {σ' H' v u} J rv q=>⟨v,H',J.os,J.bare,J.base,J.hok,rv,q⟩
 cases fl with
 | ret u=>
  obtain ⟨v,σ',H',J,rv,q⟩:=hs
  exact fin J rv q
 | next=>
  obtain ⟨σ',H',J,q⟩:=hs
  exact fin (v:=V.non) (u:=Value.none) J rfl q
 | brk=>
  obtain ⟨_,_,_,q⟩:=hs
  exact False.elim q
 | cont=>
  obtain ⟨_,_,_,q⟩:=hs
  exact False.elim q
section
variable {X:Cx}{x:Str}{p pos:Pos}{e:Expr}{es:List Expr}{t:TA}{id T:String}{r:List V→Hp→VK→Prop}
def tCB (r:List V→Hp→VK→Prop) (t:TA):TE:=fun σ H Q=>t σ H fun vs H1=>r vs H1 Q
theorem pe_callB (hc:CallR X (.builtin id) r) (hg:Gl X x) (hm:X.mg x=none) (hv:bootBuiltins x=some (.builtin id)) (ha:PA X (e::es) t) (hn:x≠"__name__":=by decide) (hdb:(x == ("__debug__":Str))=false:=by decide)
  (he:starEach (e::es) X.env=(false,eval e X.env)::starEach es X.env:=by rfl) (hpl:(backTo pos (starEach es X.env)).any (·.1)=false:=by rfl):PE X (.Call (.Name x p) (e::es) [] pos) (tCB r t):=by
 intro pins s σ H Q I h
 refine wpAny_Call_Name_kw (ld_blt I hg hm hv ?_ hn hdb)
 exact PyProof.Rows.callWith_builtin1 (thn (ha pos pins s σ H _ I h) fun us s1 ⟨vs,H1,I1,r1,q1⟩=>hc pins s1 σ H1 vs us Q I1 r1 q1) he hpl
theorem pe_callTy (hc:CallR X (.type T) r) (hg:Gl X x) (hm:X.mg x=none) (hv:bootBuiltins x=some (.type T)) (ha:PA X (e::es) t) (hn:x≠"__name__":=by decide) (hdb:(x == ("__debug__":Str))=false:=by decide)
  (he:starEach (e::es) X.env=(false,eval e X.env)::starEach es X.env:=by rfl) (hpl:(backTo pos (starEach es X.env)).any (·.1)=false:=by rfl):PE X (.Call (.Name x p) (e::es) [] pos) (tCB r t):=by
 intro pins s σ H Q I h
 refine wpAny_Call_Name_kw (ld_blt I hg hm hv ?_ hn hdb)
 exact PyProof.Rows.callWith_type1 (thn (ha pos pins s σ H _ I h) fun us s1 ⟨vs,H1,I1,r1,q1⟩=>hc pins s1 σ H1 vs us Q I1 r1 q1) he hpl
end
end L2
namespace HT
open PySem PyProof.Rows
section
variable {prog:Program}{w:World}{A:Around}{E:Value→Shared→Prop}{s:Shared}
def sIx (n d:Nat):Option Int→Nat
 | none=>d
 | some v=>if v < 0 then (v + (n:Int)).toNat else min v.toNat n
end
end HT
namespace L2
open PySem PySem.Spec PyProof.Rows
theorem intsAre_of {ns:List Int}:∀ {us:List Value},Vals (ns.map V.int) us→IntsAre us ns:=by
 induction ns with
 | nil=>intro us r;rw [List.map_nil] at r;cases r;exact .nil
 | cons n ns ih=>
  intro us r
  rw [List.map_cons] at r
  cases r with
  | cons r1 r2=>
   obtain ⟨t,e⟩:=r1
   subst e
   exact .cons n t (ih r2)
section
variable {X:Cx}{e:Expr}{te:TE}{lo hi:Option Expr}{tl th:TO}{pos p2:Pos}
def SlR (X:Cx) (r:V→Option Int→Option Int→Hp→VK→Prop):Prop:=
 ∀ (pins:List (Addr×Obj)) (s:Shared) (σ:St) (H:Hp) (x:V) (v vl vu:Value) (lo hi:Option Int) (sl:Addr) (Q:VK),Inv X pins σ H s→RelV x v→s.heap.IsSliceOf sl vl vu .none→IsPart vl lo→IsPart vu hi→r x lo hi H Q →
  ∃ T id,typeLookup (.type T) "__getitem__"=pure (some (.builtin id))∧s.TypeIs v T∧wpAny (model X.prog X.w) X.A (getItem v (.ref sl)) (EP X pins σ Q) X.xe s
def cutV (xs:List V) (lo hi:Option Int):List V:=(xs.drop (HT.sIx xs.length 0 lo)).take (HT.sIx xs.length xs.length hi - HT.sIx xs.length 0 lo)
theorem cutV_length (xs:List V) (lo hi:Option Int):(cutV xs lo hi).length≤xs.length:=by
 unfold cutV
 rw [List.length_take,List.length_drop]
 omega
end
def ixN (n:Nat) (i:Int):Option Nat:=if 0≤i then (if i < n then some i.toNat else none) else if -(n:Int)≤i then some (i + n).toNat else none
def atI {α:Type} (xs:List α) (i:Int):Option α:=(ixN xs.length i).bind fun j=>xs[j]?
theorem ixN_seq {n:Nat}{i:Int}{j:Nat} (h:ixN n i=some j):seqIndex? i n=some j∧j < n∧-(n:Int)≤i∧i < n:=by
 unfold ixN at h
 by_cases h0:0≤i
 ·rw [if_pos h0] at h
  by_cases h1:i < n
  ·rw [if_pos h1] at h
   have e:i.toNat=j:=Option.some.inj h
   exact ⟨by rw [seqIndex_of h0 h1,e],by omega,by omega,h1⟩
  ·rw [if_neg h1] at h;cases h
 ·rw [if_neg h0] at h
  by_cases h1:-(n:Int)≤i
  ·rw [if_pos h1] at h
   have e:(i + n).toNat=j:=Option.some.inj h
   exact ⟨by rw [seqIndex_neg (by omega) h1,e],by omega,h1,by omega⟩
  ·rw [if_neg h1] at h;cases h
theorem atI_get {α:Type}{xs:List α}{i:Int}{v:α} (h:atI xs i=some v):∃ j,seqIndex? i xs.length=some j∧xs[j]? = some v∧j < xs.length∧-(xs.length:Int)≤i∧i < xs.length:=by
 unfold atI at h
 cases e:ixN xs.length i with
 | none=>rw [e] at h;cases h
 | some j=>
  rw [e] at h
  obtain ⟨h1,h2,h3,h4⟩:=ixN_seq e
  exact ⟨j,h1,h,h2,h3,h4⟩
def PlainIx (b:Expr):Prop:=∀ o i,subscripted b false o i=operate [o,i] (getItem o i)
def IxR (X:Cx) (r:R2):Prop:=
 ∀ (value slice:Expr) (pins:List (Addr×Obj)) (s:Shared) (σ:St) (H:Hp) (x y:V) (v u:Value) (Q:VK),Inv X pins σ H s→RelV x v→RelV y u→r x y H Q →
  subscripted slice false v u=operate [v,u] (getItem v u)→wpAny (model X.prog X.w) X.A (subscriptTail value slice v u) (EP X pins σ Q) X.xe s
def MtR (X:Cx) (id:String) (r:V→List V→Hp→VK→Prop):Prop:=
 ∀ (pins:List (Addr×Obj)) (s:Shared) (σ:St) (H:Hp) (x:V) (xs:List V) (v:Value) (us:List Value) (Q:VK),Inv X pins σ H s→RelV x v→Vals xs us→r x xs H Q →
  wpAny (model X.prog X.w) X.A (call (.builtin id) (v::us)) (EP X pins σ Q) X.xe s
section
variable {X:Cx}{a b:Expr}{ta tb:TE}{pos:Pos}
theorem IxR.or {r r':R2} (h:IxR X r) (h':IxR X r'):IxR X (fun x y H Q=>r x y H Q∨r' x y H Q):=by
 intro value slice pins s σ H x y v u Q I rx ry q hs
 rcases q with q | q
 ·exact h value slice pins s σ H x y v u Q I rx ry q hs
 ·exact h' value slice pins s σ H x y v u Q I rx ry q hs
theorem pe_ix {r:R2} (hr:IxR X r) (ha:PE X a ta) (hb:PE X b tb) (hs:PlainIx b):PE X (.Subscript a b pos) (tOp r ta tb):=by
 intro pins s σ H Q I h
 exact Subscript_ (binT ha hb I h fun v u s2 x y H2 I2 rx ry q=>hr a b pins s2 σ H2 x y v u Q I2 rx ry q (hs _ _))
def rIxL (K:PySem.W.Frag):R2:=fun x y H Q=>∃ p xs i v,x=.ref p∧y=.int i∧SqL K H p xs∧atI xs i=some v∧Q v H
def rIxT (K:PySem.W.Frag):R2:=fun x y H Q=>∃ p xs i v,x=.ref p∧y=.int i∧SqT K H p xs∧atI xs i=some v∧Q v H
def rIxS:R2:=fun x y H Q=>∃ z i c,x=.str z∧y=.int i∧z.length≤sizeLine∧atI z.cps.toList i=some c∧Q (.str ⟨#[c]⟩) H
theorem ix_list:IxR X (rIxL X.K):=by
 intro value slice pins s σ H x y v u Q I rx ry h hs
 obtain ⟨p,xs,i,z,rfl,rfl,hq,he,q⟩:=h
 cases rx
 obtain ⟨t,rfl⟩:=ry
 obtain ⟨its,r,pl,hz⟩:=I.list hq
 obtain ⟨j,h1,h2,h3,h4,h5⟩:=atI_get he
 obtain ⟨w,ew,rw'⟩:=r.get h2
 have hl:=r.length
 have hn:=line63
 have fin:EP X pins σ Q w s:=⟨z,H,I,rw',q⟩
 by_cases h0:0≤i
 ·have hj:i.toNat=j:=by
   rw [seqIndex_of h0 h5] at h1
   exact Option.some.inj h1
  exact item_listR pl.isList h0 (by omega) (by rw [hj];simpa using ew) fin hs
 ·have hj:(i + (its.toArray.size:Int)).toNat=j:=by
   rw [seqIndex_neg (by omega) h4] at h1
   rw [List.size_toArray,← hl]
   exact Option.some.inj h1
  exact subscriptTail_builtinR (x:=w) pl.isList.typeIs slot_list_getitem.lookup
   (wpAny_getItem_list_neg (Q:=fun r s'=>r=w∧EP X pins σ Q r s') pl.isList (by omega) (by rw [List.size_toArray] <;> omega) (by omega) (by rw [hj];simpa using ew) ⟨rfl,fin⟩) hs
theorem ix_tup:IxR X (rIxT X.K):=by
 intro value slice pins s σ H x y v u Q I rx ry h hs
 obtain ⟨p,xs,i,z,rfl,rfl,hq,he,q⟩:=h
 cases rx
 obtain ⟨t,rfl⟩:=ry
 obtain ⟨its,r,pl,hz⟩:=I.tuple hq
 obtain ⟨j,h1,h2,h3,h4,h5⟩:=atI_get he
 obtain ⟨w,ew,rw'⟩:=r.get h2
 have hl:=r.length
 have hn:=line63
 have fin:EP X pins σ Q w s:=⟨z,H,I,rw',q⟩
 exact subscriptTail_builtinR (x:=w) pl.typeIs slot_tuple_getitem.lookup
  (getItem_tuple (j:=j) (Q:=fun r s'=>r=w∧EP X pins σ Q r s') pl (by omega) (by omega) (by rw [List.size_toArray,← hl];exact h1) (by simpa using ew) ⟨rfl,fin⟩) hs
theorem ix_str:IxR X rIxS:=by
 intro value slice pins s σ H x y v u Q I rx ry h hs
 obtain ⟨z,i,c,rfl,rfl,hz,he,q⟩:=h
 obtain ⟨t,rfl⟩:=rx
 obtain ⟨t',rfl⟩:=ry
 obtain ⟨j,h1,h2,h3,h4,h5⟩:=atI_get he
 have hl:z.cps.toList.length=z.length:=by simp [Str.length]
 rw [hl] at h1 h4 h5
 have hn:=line63
 exact tail_any (typeIs_str s z t) slot_str_getitem.lookup (getItem_str (c:=c) (by
  have e1:decide (i < -(2 ^ 63:Int))=false:=decide_eq_false (by omega)
  have e2:decide (i ≥ 2 ^ 63)=false:=decide_eq_false (by omega)
  rw [e1,e2,Bool.or_false]) (by rw [h1];simpa using h2) ⟨.str ⟨#[c]⟩,H,I.tok _,⟨_,rfl⟩,q⟩) hs
def rIx (K:PySem.W.Frag):R2:=fun x y H Q=>rIxL K x y H Q∨rIxT K x y H Q∨rIxS x y H Q
theorem ix_seq:IxR X (rIx X.K):=ix_list.or (ix_tup.or ix_str)
theorem slice_bounds (lo hi:Option Int) (n:Nat):(sliceBounds lo hi none n).1=((HT.sIx n 0 lo:Nat):Int)∧(sliceBounds lo hi none n).2.1=((HT.sIx n n hi:Nat):Int)∧(sliceBounds lo hi none n).2.2=1:=by
 refine ⟨?_,?_,rfl⟩
 ·cases lo with
  | none=>simp [sliceBounds,HT.sIx]
  | some i=>
   simp only [sliceBounds,HT.sIx,Option.getD_none,show (1:Int) > 0 by decide,if_true]
   by_cases h:i < 0
   ·simp only [h,if_true] <;> omega
   ·simp only [h,if_false] <;> omega
 ·cases hi with
  | none=>simp [sliceBounds,HT.sIx]
  | some i=>
   simp only [sliceBounds,HT.sIx,Option.getD_none,show (1:Int) > 0 by decide,if_true]
   by_cases h:i < 0
   ·simp only [h,if_true] <;> omega
   ·simp only [h,if_false] <;> omega
theorem slicePick_cut (its:List Value) (lo hi:Option Int):slicePick its.toArray lo hi none=((its.drop (HT.sIx its.length 0 lo)).take (HT.sIx its.length its.length hi - HT.sIx its.length 0 lo)).toArray:=by
 obtain ⟨h1,h2,h3⟩:=slice_bounds lo hi its.toArray.size
 unfold slicePick
 rw [h1,h2,h3]
 simp only [sliceRange_one,pick_run,List.size_toArray] <;> rfl
def rSlL (K:PySem.W.Frag):V→Option Int→Option Int→Hp→VK→Prop:=fun x lo hi H Q=>∃ a xs,x=.ref a∧SqL K H a xs∧∀ p,H p=none→Q (.ref p) (upd H p (.lst (cutV xs lo hi)))
theorem sl_list:SlR X (rSlL X.K):=by
 intro pins s σ H x v vl vu lo hi sl Q I rx hs pl pu h
 obtain ⟨a,xs,rfl,hx,q⟩:=h
 cases rx
 obtain ⟨its,r,ht,hz⟩:=I.list hx
 have hlen:=r.length
 refine ⟨"list",_,slot_list_getitem.lookup,ht.isList.typeIs,?_⟩
 refine wpAny_getItem_list_slice ht.isList hs pl pu .none (by simp) ?_ (by rw [List.size_toArray] <;> omega)
 rw [slicePick_cut,← hlen]
 refine ⟨.ref s.heap.objs.size,_,I.laid (t':=s.toks) (o:=.lst (cutV xs lo hi)) (fun b ob q=>Heap.get?_push_of_some _ q) (Nat.le_refl _) ?_,rfl,q _ (I.hok.fresh (Nat.le_refl _))⟩
 exact ⟨Nat.le_trans (cutV_length xs lo hi) hz,_,0,(r.drop (HT.sIx xs.length 0 lo)).take (HT.sIx xs.length xs.length hi - HT.sIx xs.length 0 lo),Heap.get?_push_size _ rfl⟩
theorem call_len_seq:CallR X (.builtin "len") (fun xs H Q=>∃ p ys,xs=[.ref p]∧(SqL X.K H p ys∨SqT X.K H p ys)∧Q (.int ys.length) H):=by
 intro pins s σ H xs us Q I r h
 obtain ⟨p,ys,rfl,hq,q⟩:=h
 obtain ⟨u,rfl,rx⟩:=vals1 r
 cases rx
 have hn:=line63
 rcases hq with hq | hq
 ·obtain ⟨its,r',pl,hz⟩:=I.list hq
  have hlen:=r'.length
  exact Calls.call_len_list pl.isList (by simp only [List.size_toArray] <;> omega) ⟨.int ys.length,H,I.tok _,⟨s.toks + 1,by rw [List.size_toArray,hlen]⟩,q⟩
 ·obtain ⟨its,r',pl,hz⟩:=I.tuple hq
  have hlen:=r'.length
  exact len_tuple pl (by simp only [List.size_toArray] <;> omega) ⟨.int ys.length,H,I.tok _,⟨s.toks + 1,by rw [List.size_toArray,hlen]⟩,q⟩
theorem call_list_of:CallR X (.type "list") (fun xs H Q=>∃ p ys,xs=[.ref p]∧(SqL X.K H p ys∨SqT X.K H p ys)∧∀ l,H l=none→Q (.ref l) (upd H l (.lst ys))):=by
 intro pins s σ H xs us Q I r h
 obtain ⟨p,ys,rfl,hq,q⟩:=h
 obtain ⟨u,rfl,rx⟩:=vals1 r
 cases rx
 have fin:∀ (its:List Value),Vals ys its→ys.length≤sizeLine→∀ (h':Heap) (c':Nat),(∀ b o',s.heap.get? b=some o'→h'.get? b=some o') →
   h'.get? s.heap.objs.size=some { cls:=.type "list",dict:=none,data:=.seq its.toArray c',slots:=#[] }→EP X pins σ Q (.ref s.heap.objs.size) { s with heap:=h' }:=fun its r' hz h' c' kp e=>
  ⟨.ref s.heap.objs.size,_,I.laid (t':=s.toks) kp (Nat.le_refl _) (show ObjOk X.prog X.w _ h' _ (.lst ys) from ⟨hz,its,c',r',e⟩),rfl,q _ (I.hok.fresh (Nat.le_refl _))⟩
 rcases hq with hq | hq
 ·obtain ⟨its,r',pl,hz⟩:=I.list hq
  have hlen:=r'.length
  obtain ⟨o,ho,hc,n,hd⟩:=pl.isList
  exact call_list_seq p (.inl rfl) ho hc hd (fun h' c' kp e=>fin its r' hz h' c' kp e) (by simp only [List.size_toArray] <;> omega)
 ·obtain ⟨its,r',pl,hz⟩:=I.tuple hq
  have hlen:=r'.length
  obtain ⟨o,ho,hc,n,hd⟩:=pl
  exact call_list_seq p (.inr rfl) ho hc hd (fun h' c' kp e=>fin its r' hz h' c' kp e) (by simp only [List.size_toArray] <;> omega)
def tyV (K:PySem.W.Frag) (T:String) (x:V) (H:Hp):Prop:=match x with
 | .str _=>T="str"
 | .int _=>T="int"
 | .ref p=>(T="list"∧∃ xs,SqL K H p xs)∨(T="tuple"∧∃ o,K.lookup p=some o∧o.cls=.type "tuple"∧o.dict=none) ∨
   (T="dict"∧((∃ kvs,H p=some (.dK kvs))∨∃ kvs,H p=some (.dT kvs)))∨(T="set"∧∃ S n,H p=some (.set S n))
 | _=>False
theorem tyV_is {pins:List (Addr×Obj)}{σ:St}{H:Hp}{s:Shared}{T:String}{x:V}{v:Value} (I:Inv X pins σ H s) (r:RelV x v) (ty:tyV X.K T x H) :
  s.TypeIs v T∧∀ a,v=.ref a→∃ ob,s.heap.get? a=some ob∧ob.dict=none:=by
 cases x with
 | str z=>
  obtain ⟨t,rfl⟩:=r
  cases (show T="str" from ty)
  exact ⟨typeIs_str s z t,fun _ e=>nomatch e⟩
 | int i=>
  obtain ⟨t,rfl⟩:=r
  cases (show T="int" from ty)
  exact ⟨typeIs_int s i t,fun _ e=>nomatch e⟩
 | ref p=>
  cases r
  rcases ty with ⟨rfl,xs,hq⟩ | ⟨rfl,o,hk,hc,hd⟩ | ⟨rfl,hk⟩ | ⟨rfl,S,n,hk⟩
  ·obtain ⟨its,_,pl,_⟩:=I.list hq
   refine ⟨pl.isList.typeIs,fun a e=>?_⟩
   cases e
   obtain ⟨o,n,e,c,hd,_⟩:=pl
   exact ⟨o,e,hd⟩
  ·refine ⟨⟨o,I.kIn p o hk,hc⟩,fun a e=>?_⟩
   cases e
   exact ⟨o,I.kIn _ o hk,hd⟩
  ·have z:∃ o,s.heap.get? p=some o∧o.ExactDict:=by
    rcases hk with ⟨kvs,hk⟩ | ⟨kvs,hk⟩
    ·obtain ⟨_,_,_,_,o,_,_,e,ex,_⟩:=I.hok p _ hk
     exact ⟨o,e,ex⟩
    ·obtain ⟨_,_,_,_,o,_,_,e,ex,_⟩:=I.hok p _ hk
     exact ⟨o,e,ex⟩
   obtain ⟨o,e,ex⟩:=z
   refine ⟨⟨o,e,ex.1⟩,fun a e2=>?_⟩
   cases e2
   exact ⟨o,e,ex.2.1⟩
  ·obtain ⟨o,_,_,_,e,ex,_⟩:=I.hok p _ hk
   refine ⟨⟨o,e,ex.1⟩,fun a e2=>?_⟩
   cases e2
   exact ⟨o,e,ex.2.1⟩
 | _=>exact False.elim ty
def tBM (K:PySem.W.Frag) (T:String) (r:V→List V→Hp→VK→Prop) (to:TE) (t:TA):TE:=fun σ H Q=>to σ H fun x H1=>tyV K T x H1∧t σ H1 fun xs H2=>r x xs H2 Q
variable {o e:Expr}{es:List Expr}{to:TE}{t:TA}{name:Str}{apos cpos:Pos}{T id:String}{r:V→List V→Hp→VK→Prop}
theorem pe_bm (pa:PlainAttrs T) (slot:Slot T name id) (hty:typeOf (.builtin id)=pure (.type "method_descriptor")) (hm:MtR X id r) (ho:PE X o to) (ha:PA X (e::es) t)
  (hbase:attributeBase o name X.env (eval o X.env)=eval o X.env:=by rfl)
  (hfew:((backTo cpos (starEach (e::es) X.env)).all (fun x=>!x.1)&&(backToKw cpos (keywordEach [] X.env)).all (fun x=>x.1.isSome)
   && decide ((e::es).length + ([]:List Keyword).length + (if ([]:List Keyword).isEmpty then 0 else 1) < 30))=true:=by rfl)
  (hline:(apos.endLine == cpos.line)=true:=by rfl) (hs:starEach (e::es) X.env=(false,eval e X.env)::starEach es X.env:=by rfl) (hplain:(backTo cpos (starEach es X.env)).any (·.1)=false:=by rfl) :
  PE X (.Call (.Attribute o name apos) (e::es) [] cpos) (tBM X.K T r to t):=by
 intro pins s σ H Q I h
 refine wpAny_Call_method_late hbase hfew hline rfl (thn (ho pins s σ H _ I h) fun v s1 ⟨x,H1,I1,r1,ty,q1⟩=>?_)
 obtain ⟨h1,h2⟩:=tyV_is I1 r1 ty
 refine ⟨T,id,pa,slot,hty,h1,h2,?_⟩
 have hA:=ha cpos pins s1 σ H1 _ I1 q1
 rw [hs] at hA ⊢
 refine Calls.callWith_builtin (by show (false||(backTo cpos (starEach es X.env)).any (·.1))=false;rw [hplain] <;> rfl) (Calls.evalArgs_plain ?_)
 exact thn hA fun us s2 ⟨vs,H2,I2,r2,q2⟩=>hm pins s2 σ H2 x vs v us Q I2 r1 r2 q2
end
def MtM (X:Cx) (id:String) (r:V→List V→Hp→VK→Prop):Prop:=
 ∀ (pins:List (Addr×Obj)) (s:Shared) (σ:St) (H:Hp) (x:V) (xs:List V) (v:Value) (us:List Value) (Q:VK),Inv X pins σ H s→RelV x v→Vals xs us→r x xs H Q →
  wpAny (model X.prog X.w) X.A (call (.builtin id) (v::us)) (EP X pins σ Q) X.xe s
theorem Vals.one:∀ {x:V}{us:List Value},Vals [x] us→∃ u,us=[u]∧RelV x u
 | _,_,.cons r .nil=>⟨_,rfl,r⟩
section
variable {X:Cx}{pins:List (Addr×Obj)}{σ:St}{H:Hp}{s:Shared}{l b:Addr}{xs ys zs:List V}
theorem Inv.lset {its its':List Value}{n:Nat}{f:Array Value→Array Value}{t':Nat} (I:Inv X pins σ H s) (hH:H l=some (.lst xs))
  (e:s.heap.get? l=some { cls:=.type "list",data:=.seq its.toArray n }) (hf:f its.toArray=its'.toArray) (hv:Vals ys its') (hz:ys.length≤sizeLine) :
  Inv X pins σ (upd H l (.lst ys)) { s with heap:=s.heap.update l (Obj.mapSeq f),toks:=t' }:=by
 have q:=PySem.IsL.update e f
 rw [hf] at q
 refine I.write (x:=l) (e:=l) (by rw [hH];exact trivial) (.inl rfl) (fun b' u hb hu=>(Heap.get?_update_other s.heap (Obj.mapSeq f) (Ne.symm hb)).trans hu) ⟨_,q⟩ ?_
 exact ⟨hz,its',_,hv,q⟩
theorem Inv.lstM (I:Inv X pins σ H s) (hH:H l=some (.lst xs)):xs.length≤sizeLine∧∃ (its:List Value) (n:Nat),Vals xs its∧xs.length=its.length∧s.heap.get? l=some { cls:=.type "list",data:=.seq its.toArray n }:=by
 obtain ⟨z,its,n,r,e⟩:=I.hok l _ hH
 exact ⟨z,its,n,r,r.length,e⟩
theorem notLongL {n:Nat} (h:n≤sizeLine):Builtin.List.listTooLong n=false:=by
 unfold Builtin.List.listTooLong
 exact decide_eq_false (by omega)
end
section
variable {X:Cx}
def rAppend:V→List V→Hp→VK→Prop:=fun x vs H Q=>∃ l xs y,x=.ref l∧vs=[y]∧H l=some (.lst xs)∧xs.length < sizeLine∧Q .non (upd H l (.lst (xs++[y])))
theorem mt_append:MtM X "list.append" rAppend:=by
 intro pins s σ H x vs v us Q I rx rv h
 obtain ⟨l,xs,y,rfl,rfl,hH,hz,q⟩:=h
 cases rx
 obtain ⟨u,rfl,ru⟩:=rv.one
 obtain ⟨z,its,n,r,hl,e⟩:=I.lstM hH
 refine call_meets F.slot_list_append ⟨_,e,rfl⟩ F.entry_list_append (F.args_list_append_2 _ _) (PySem.list_append l its.toArray n u (by rw [List.size_toArray];omega)) ⟨e,?_⟩
 refine ⟨.non,_,I.lset (its':=its++[u]) hH e (by simp) (r.append (.cons ru .nil)) ?_,rfl,q⟩
 rw [List.length_append,List.length_singleton]
 omega
def rExtend:V→List V→Hp→VK→Prop:=fun x vs H Q=>∃ l b xs zs,x=.ref l∧vs=[.ref b]∧H l=some (.lst xs)∧H b=some (.lst zs)∧xs.length + zs.length≤sizeLine∧Q .non (upd H l (.lst (xs++zs)))
theorem mt_extend:MtM X "list.extend" rExtend:=by
 intro pins s σ H x vs v us Q I rx rv h
 obtain ⟨l,b,xs,zs,rfl,rfl,hH,hB,hz,q⟩:=h
 cases rx
 obtain ⟨u,rfl,ru⟩:=rv.one
 cases ru
 obtain ⟨z,its,n,r,hl,e⟩:=I.lstM hH
 obtain ⟨z2,its2,n2,r2,hl2,e2⟩:=I.lstM hB
 have hsz:its.toArray.size + its2.toArray.size≤sizeLine:=by rw [List.size_toArray,List.size_toArray];omega
 have hlong:¬ (!its.toArray.isEmpty&&Builtin.List.listTooLong (its.toArray.size + its2.toArray.size))=true:=by
  rw [notLongL hsz,Bool.and_false]
  exact Bool.false_ne_true
 refine call_meets F.slot_list_extend ⟨_,e,rfl⟩ F.entry_list_extend (F.args_list_extend_2 _ _)
  (AutoSeq1.list_extend_list_list_0 l its.toArray n b its2.toArray n2 hlong (by rw [List.size_toArray];omega) (by omega)) ⟨e,e2,?_⟩
 refine ⟨.non,_,I.lset (its':=its++its2) hH e (by simp) (r.append r2) ?_,rfl,q⟩
 rw [List.length_append]
 omega
end
section
variable {κ:Type} [DecidableEq κ]
def valV (kvs:List (κ×V)) (k:κ):Option V:=(kvs.find? fun kv=>decide (kv.1=k)).map (·.2)
def putK (kvs:List (κ×V)) (k:κ) (v:V):List (κ×V):=
 if (kvs.any fun kv=>decide (kv.1=k))=true then kvs.map (fun kv=>if kv.1=k then (kv.1,v) else kv) else kvs++[(k,v)]
theorem valV_pos {p:κ×V}{r:List (κ×V)}{k:κ} (e:p.1=k):valV (p::r) k=some p.2:=by simp [valV,List.find?_cons,e]
theorem valV_neg {p:κ×V}{r:List (κ×V)}{k:κ} (e:¬ p.1=k):valV (p::r) k=valV r k:=by simp [valV,List.find?_cons,e]
theorem valV_any (k:κ):∀ kvs:List (κ×V),(kvs.any fun kv=>decide (kv.1=k))=(valV kvs k).isSome
 | []=>rfl
 | p::r=>by
  rw [List.any_cons]
  by_cases e:p.1=k
  ·simp only [valV_pos e,decide_eq_true e,Bool.true_or,Option.isSome_some]
  ·rw [valV_neg e,decide_eq_false e,Bool.false_or];exact valV_any k r
theorem length_putK (kvs:List (κ×V)) (k:κ) (v:V):(putK kvs k v).length≤kvs.length + 1:=by
 unfold putK
 split
 ·rw [List.length_map];omega
 ·rw [List.length_append,List.length_cons,List.length_nil];omega
theorem RelO.isSome_eq {o:Option V}{u:Option Value} (r:RelO o u):o.isSome=u.isSome:=by
 cases o with
 | none=>cases u with
  | none=>rfl
  | some _=>exact (show False from r).elim
 | some _=>cases u with
  | none=>exact (show False from r).elim
  | some _=>rfl
theorem RelO.getD {o:Option V}{u:Option Value}{d:V}{d':Value} (r:RelO o u) (rd:RelV d d'):RelV (o.getD d) (u.getD d'):=by
 cases o with
 | none=>cases u with
  | none=>exact rd
  | some _=>exact (show False from r).elim
 | some _=>cases u with
  | none=>exact (show False from r).elim
  | some _=>exact r
theorem KV.val {kvs:List (κ×V)}{vs:List (κ×Value)} (r:KV kvs vs) (k:κ):RelO (valV kvs k) (valueAt vs k):=by
 unfold KV at r
 induction r with
 | nil=>exact True.intro
 | @cons p q ps qs h t ih=>
  obtain ⟨h1,h2⟩:=h
  by_cases e:p.1=k
  ·have e':q.1=k:=h1.symm.trans e
   have b:valueAt (q::qs) k=some q.2:=by simp [valueAt,List.find?_cons,e']
   rw [valV_pos e,b];exact h2
  ·have e':¬ q.1=k:=fun z=>e (h1.trans z)
   have b:valueAt (q::qs) k=valueAt qs k:=by simp [valueAt,List.find?_cons,e']
   rw [valV_neg e,b];exact ih
theorem KV.any {kvs:List (κ×V)}{vs:List (κ×Value)} (r:KV kvs vs) (k:κ):(kvs.any fun kv=>decide (kv.1=k))=vs.any fun kv=>decide (kv.1=k):=by
 unfold KV at r
 induction r with
 | nil=>rfl
 | cons h t ih=>rw [List.any_cons,List.any_cons,ih,h.1]
theorem KV.repl {kvs:List (κ×V)}{vs:List (κ×Value)} (r:KV kvs vs) (k:κ) {y:V}{u:Value} (ry:RelV y u) :
  KV (kvs.map fun kv=>if kv.1=k then (kv.1,y) else kv) (vs.map fun kv=>if kv.1=k then (kv.1,u) else kv):=by
 unfold KV at r ⊢
 induction r with
 | nil=>exact .nil
 | @cons p q ps qs h t ih=>
  rw [List.map_cons,List.map_cons]
  refine .cons ?_ ih
  obtain ⟨h1,h2⟩:=h
  by_cases e:p.1=k
  ·rw [if_pos e,if_pos (h1.symm.trans e)];exact ⟨h1,ry⟩
  ·rw [if_neg e,if_neg (fun z=>e (h1.trans z))];exact ⟨h1,h2⟩
theorem KV.put {kvs:List (κ×V)}{vs:List (κ×Value)} (r:KV kvs vs) (k:κ) {y:V}{u:Value} (ry:RelV y u):KV (putK kvs k y) (stored vs k u):=by
 unfold putK stored
 rw [r.any k]
 by_cases e:(vs.any fun kv=>decide (kv.1=k))=true
 ·rw [if_pos e,if_pos e];exact r.repl k ry
 ·rw [if_neg e,if_neg e];exact Paired.snoc r ⟨rfl,ry⟩
theorem KV.keys {kvs:List (κ×V)}{vs:List (κ×Value)} (r:KV kvs vs):kvs.map (·.1)=vs.map (·.1):=by
 unfold KV at r
 induction r with
 | nil=>rfl
 | cons h t ih=>rw [List.map_cons,List.map_cons,ih,h.1]
theorem KV.length {kvs:List (κ×V)}{vs:List (κ×Value)} (r:KV kvs vs):kvs.length=vs.length:=Paired.length r
end
theorem kV_is {P:Program}{w:World}{k:Key}{u:Value} (r:RelV (kV k) u):(mixKind P w).is k u=true:=by
 cases k with
 | inl i=>obtain ⟨t,e⟩:=(show ∃ t,u=Value.int i t from r);subst e;exact mixKind_int P w i t
 | inr x=>obtain ⟨t,e⟩:=(show ∃ t,u=Value.str x t from r);subst e;exact mixKind_str P w x t
theorem items_are {P:Program}{w:World}:∀ {ks:List Key}{us:List Value},Vals (ks.map kV) us→ItemsAre (mixKind P w) ks us
 | [],_,r=>by rw [List.map_nil] at r;cases r;exact .nil
 | k::ks,_,r=>by
  rw [List.map_cons] at r
  cases r with
  | cons h t=>exact .cons (kV_is h) (items_are t)
abbrev KT (H:Hp):List (List Key×V)→List (List Key×Addr×Value)→Prop:=Paired fun p q=>p.1=q.1∧H q.2.1=some (.tup (p.1.map kV))∧RelV p.2 q.2.2
theorem KT.val {H:Hp}{kvs:List (List Key×V)}{xs:List (List Key×Addr×Value)} (r:KT H kvs xs) (k:List Key):RelO (valV kvs k) ((atKey xs k).map (·.2)):=by
 induction r with
 | nil=>exact True.intro
 | @cons p q ps qs h t ih=>
  obtain ⟨h1,_,h2⟩:=h
  by_cases e:p.1=k
  ·have e':q.1=k:=h1.symm.trans e
   have b:atKey (q::qs) k=some q.2:=by simp [atKey,List.find?_cons,e']
   rw [valV_pos e,b];exact h2
  ·have e':¬ q.1=k:=fun z=>e (h1.trans z)
   have b:atKey (q::qs) k=atKey qs k:=by simp [atKey,List.find?_cons,e']
   rw [valV_neg e,b];exact ih
theorem KT.repl {H:Hp}{kvs:List (List Key×V)}{xs:List (List Key×Addr×Value)} (r:KT H kvs xs) (k:List Key) {y:V}{u:Value} (ry:RelV y u) :
  KT H (kvs.map fun kv=>if kv.1=k then (kv.1,y) else kv) (xs.map (putAt k u)):=by
 induction r with
 | nil=>exact .nil
 | @cons p q ps qs h t ih=>
  rw [List.map_cons,List.map_cons]
  refine .cons ?_ ih
  obtain ⟨h1,h2,h3⟩:=h
  unfold putAt
  by_cases e:p.1=k
  ·rw [if_pos e,if_pos (h1.symm.trans e)];exact ⟨h1,h2,ry⟩
  ·rw [if_neg e,if_neg (fun z=>e (h1.trans z))];exact ⟨h1,h2,h3⟩
theorem KT.put {H:Hp}{kvs:List (List Key×V)}{xs:List (List Key×Addr×Value)} (r:KT H kvs xs) (k:List Key) {b:Addr}{y:V}{u:Value} (hb:H b=some (.tup (k.map kV))) (ry:RelV y u) :
  KT H (putK kvs k y) (storedH xs k b u):=by
 have e:(kvs.any fun kv=>decide (kv.1=k))=(atKey xs k).isSome:=by
  rw [valV_any,(r.val k).isSome_eq,Option.isSome_map]
 unfold putK storedH
 rw [e]
 by_cases q:(atKey xs k).isSome=true
 ·rw [if_pos q,if_pos q];exact r.repl k ry
 ·rw [if_neg q,if_neg q];exact Paired.snoc r ⟨rfl,hb,ry⟩
theorem KT.keeps {H H':Hp}{kvs:List (List Key×V)}{xs:List (List Key×Addr×Value)} (r:KT H kvs xs) (ht:∀ b ys,H b=some (.tup ys)→H' b=some (.tup ys)):KT H' kvs xs:=
 Paired.mapP r fun _ _ z=>⟨z.1,ht _ _ z.2.1,z.2.2⟩
section
variable {P:Program}{w:World}{H:Hp}{h:Heap}{a:Addr}
theorem rd_of {u:HO} (ok:HOk P w H h) (e:Rd H a u):ObjOk P w H h a u:=e.ok ok
theorem dk_rd {kvs:List (Key×V)} (ok:HOk P w H h) (e:Rd H a (.dK kvs)):kvs.length≤sizeLine∧(a == sysModules)=false∧∃ vs,KV kvs vs∧h.DictOf (mixKind P w) a vs:=
 show ObjOk P w H h a (.dK kvs) from rd_of ok e
theorem dk_of {kvs:List (Key×V)} (ok:HOk P w H h) (e:H a=some (.dK kvs)):kvs.length≤sizeLine∧(a == sysModules)=false∧∃ vs,KV kvs vs∧h.DictOf (mixKind P w) a vs:=dk_rd ok (.inl e)
theorem key_of {ks:List Key} (ok:HOk P w H h) (e:H a=some (.tup (ks.map kV))):(tupleKind (mixKind P w)).is h ks a:=by
 obtain ⟨_,its,r,o,h1,h2,_,n,h3⟩:=(show ObjOk P w H h a (.tup (ks.map kV)) from ok a _ e)
 exact ⟨o,its.toArray,n,h1,h2,h3,by simpa using items_are r⟩
theorem dt_rd {kvs:List (List Key×V)} (ok:HOk P w H h) (e:Rd H a (.dT kvs)):kvs.length≤sizeLine∧(a == sysModules)=false ∧
  ∃ xs,KT H kvs xs∧h.DictOfH (tupleKind (mixKind P w)) a xs:=by
 obtain ⟨z,y,xs,r,o,es,ep,h1,h2,h3,h4,h5⟩:=(show ObjOk P w H h a (.dT kvs) from rd_of ok e)
 refine ⟨z,y,xs,r,o,es,ep,h1,h2,h3,h4,fun x hx=>?_,h5⟩
 have all:∀ {l:List (List Key×V)}{m:List (List Key×Addr×Value)},KT H l m→∀ x∈m,(tupleKind (mixKind P w)).is h x.1 x.2.1:=by
  intro l m q
  induction q with
  | nil=>intro x hx;exact nomatch hx
  | @cons p q ps qs hq t ih=>
   intro x hx
   rcases List.mem_cons.mp hx with e | hx
   ·subst e
    exact key_of ok (by rw [← hq.1];exact hq.2.1)
   ·exact ih x hx
 exact all r x hx
theorem dt_of {kvs:List (List Key×V)} (ok:HOk P w H h) (e:H a=some (.dT kvs)):kvs.length≤sizeLine∧(a == sysModules)=false ∧
  ∃ xs,KT H kvs xs∧h.DictOfH (tupleKind (mixKind P w)) a xs:=dt_rd ok (.inl e)
end
def DGet (H:Hp) (a:Addr) (y:V) (r:Option V):Prop:=
 (∃ kvs k,Rd H a (.dK kvs)∧y=kV k∧r=valV kvs k)∨∃ kvs k b,Rd H a (.dT kvs)∧y=.ref b∧H b=some (.tup (k.map kV))∧r=valV kvs k
def DPut (H:Hp) (a:Addr) (y v:V) (H':Hp):Prop:=
 (∃ kvs k,H a=some (.dK kvs)∧y=kV k∧kvs.length < sizeLine∧H'=upd H a (.dK (putK kvs k v))) ∨
 ∃ kvs k b,H a=some (.dT kvs)∧y=.ref b∧H b=some (.tup (k.map kV))∧kvs.length < sizeLine∧H'=upd H a (.dT (putK kvs k v))
theorem DGet.k {H:Hp}{a:Addr}{kvs:List (Key×V)}{k:Key} (e:H a=some (.dK kvs)):DGet H a (kV k) (valV kvs k):=.inl ⟨kvs,k,.inl e,rfl,rfl⟩
theorem DPut.k {H:Hp}{a:Addr}{kvs:List (Key×V)}{k:Key}{v:V} (e:H a=some (.dK kvs)) (hl:kvs.length < sizeLine):DPut H a (kV k) v (upd H a (.dK (putK kvs k v))):=.inl ⟨kvs,k,e,rfl,hl,rfl⟩
section
variable {X:Cx}{pins:List (Addr×Obj)}{σ:St}{H:Hp}{s:Shared}{a:Addr}{y v:V}{u r:Value}{o:Option V}{A:Around}{E:Value→Shared→Prop}
theorem Inv.big (I:Inv X pins σ H s):sysModules < s.heap.objs.size:=by
 have h:mainGlobals < s.heap.objs.size:=(I.mod.glob.keeps I.bk).lt
 exact Nat.lt_trans (by decide) h
theorem d_getItem {Q:Value→Shared→Prop} (hu:A.units + 1 < cLine) (I:Inv X pins σ H s) (g:DGet H a y (some v)) (ry:RelV y u) (h:∀ w' s',Inv X pins σ H s'→RelV v w'→Q w' s') :
  wpAny (model X.prog X.w) A (getItem (.ref a) u) Q E s:=by
 rcases g with ⟨kvs,k,e,ey,l⟩ | ⟨kvs,k,b,e,ey,eb,l⟩
 ·subst ey
  obtain ⟨z,hd,vs,rel,dd⟩:=dk_rd I.hok e
  obtain ⟨w',hw,rw'⟩:=RelO.some_of (v:=v) (o:=valueAt vs k) (by rw [l];exact rel.val k)
  exact wpAny_getItem_of (kV_is ry) dd.mapOf hw (h w' _ (I.tok _) rw')
 ·subst ey
  cases (show u=Value.ref b from ry)
  obtain ⟨z,hd,xs,rel,dd⟩:=dt_rd I.hok e
  obtain ⟨w',hw,rw'⟩:=RelO.some_of (v:=v) (o:=(atKey xs k).map (·.2)) (by rw [l];exact rel.val k)
  obtain ⟨p,hp,hp2⟩:=Option.map_eq_some_iff.mp hw
  refine wpAny_getItem_heap (tupleKind_room_in1 hu) (key_of I.hok eb) dd hp ?_
  rw [hp2]
  exact h w' _ (I.tok _) rw'
theorem d_notIn {Q:Value→Shared→Prop} (hu:A.units + 1 < cLine) (I:Inv X pins σ H s) (g:DGet H a y o) (ry:RelV y u) (h:∀ s',Inv X pins σ H s'→Q (.bool (!o.isSome)) s') :
  wpAny (model X.prog X.w) A (compareOp .NotIn u (.ref a)) Q E s:=by
 rcases g with ⟨kvs,k,e,ey,l⟩ | ⟨kvs,k,b,e,ey,eb,l⟩
 ·subst ey
  obtain ⟨z,hd,vs,rel,dd⟩:=dk_rd I.hok e
  refine wpAny_notIn_of (kV_is ry) hd dd.mapOf ?_
  rw [← (rel.val k).isSome_eq,← l]
  exact h _ (I.tok _)
 ·subst ey
  cases (show u=Value.ref b from ry)
  obtain ⟨z,hd,xs,rel,dd⟩:=dt_rd I.hok e
  refine wpAny_notIn_heap (tupleKind_room_in1 hu) (key_of I.hok eb) hd dd ?_
  have q:=(rel.val k).isSome_eq
  rw [Option.isSome_map] at q
  rw [← q,← l]
  exact h _ (I.tok _)
theorem d_write {h':Heap}{t':Nat}{ob:HO} (I:Inv X pins σ H s) (mu:Mut (H a)) (hs:Heap.SameBut a s.heap h') (he:∃ q,h'.get? a=some q) (new:ObjOk X.prog X.w (upd H a ob) h' a ob) :
  Inv X pins σ (upd H a ob) { s with heap:=h',toks:=t' }:=
 I.write (x:=a) (e:=a) mu (.inl rfl) (fun b q hb z=>(hs.2 b hb).trans z) he new
theorem dk_new {P:Program}{w:World}{H':Hp}{h':Heap}{kvs:List (Key×V)}{vs:List (Key×Value)} (z:kvs.length≤sizeLine) (hd:(a == sysModules)=false) (rel:KV kvs vs) (dd:h'.DictOf (mixKind P w) a vs) :
  ObjOk P w H' h' a (.dK kvs):=⟨z,hd,vs,rel,dd⟩
theorem d_setItem {H':Hp}{Q:Unit→Shared→Prop} (hu:A.units + 1 < cLine) (I:Inv X pins σ H s) (g:DPut H a y v H') (ry:RelV y u) (rv:RelV v r) (h:∀ s',Inv X pins σ H' s'→Q () s') :
  wpAny (model X.prog X.w) A (setItem (.ref a) u r) Q E s:=by
 rcases g with ⟨kvs,k,e,ey,l,eH⟩ | ⟨kvs,k,b,e,ey,eb,l,eH⟩
 ·subst ey eH
  obtain ⟨z,hd,vs,rel,dd⟩:=dk_of I.hok e
  have hz:vs.length≤sizeLine:=by rw [← rel.length];exact z
  have hl:(putK kvs k v).length≤sizeLine:=by have:=length_putK kvs k v;omega
  refine wpAny_setItem_pairs (hsz:=hz) (kV_is ry) dd fun h' dd' hs=>h _ ?_
  have he:∃ q,h'.get? a=some q:=let ⟨q,_,_,hq,_⟩:=dd';⟨q,hq⟩
  exact d_write I (by rw [e];exact True.intro) hs he (dk_new hl hd (rel.put k rv) dd')
 ·subst ey eH
  cases (show u=Value.ref b from ry)
  obtain ⟨z,hd,xs,rel,dd⟩:=dt_of I.hok e
  have hz:xs.length≤sizeLine:=by rw [← Paired.length rel];exact z
  have hl:(putK kvs k v).length≤sizeLine:=by have:=length_putK kvs k v;omega
  refine wpAny_setItem_heap (hsz:=hz) (tupleKind_room_in1 hu) (key_of I.hok eb) dd fun h' dd' hs=>h _ ?_
  obtain ⟨q,es,ep,hq,h2,h3,h4,_,h5⟩:=dd'
  refine d_write I (by rw [e];exact True.intro) hs ⟨q,hq⟩ ⟨hl,hd,_,(rel.put k eb rv).keeps fun c ys ec=>?_,q,es,ep,hq,h2,h3,h4,h5⟩
  rw [upd_ne (ne_of ec e (fun z=>nomatch z))]
  exact ec
end
section
variable {X:Cx}{pins:List (Addr×Obj)}{σ:St}{H:Hp}{s:Shared}{a:Addr}{kvs:List (Key×V)}{k:Key}{u:Value}{A:Around}{E:Value→Shared→Prop}
theorem d_len {Q:Value→Shared→Prop} (I:Inv X pins σ H s) (e:Rd H a (.dK kvs)) (h:∀ t s',Inv X pins σ H s'→Q (.int kvs.length t) s'):wpAny (model X.prog X.w) A (call (.builtin "len") [.ref a]) Q E s:=by
 obtain ⟨z,hd,vs,rel,dd⟩:=dk_rd I.hok e
 refine call_len_dict hd dd (by rw [← rel.length];rw [sizeLine_eq] at z;omega) ?_
 rw [← rel.length]
 exact h _ _ (I.tok _)
end
def NoSl (i:Expr):Prop:=∀ ov iv,subscripted i false ov iv=operate [ov,iv] (getItem ov iv)
theorem subD_of {prog:Program}{w:World}{A:Around}{E:Value→Shared→Prop}{s:Shared}{env:Env}{value slice:Expr}{pos:Pos}{T id:String}{Q:Value→Shared→Prop}
  (hl:typeLookup (.type T) "__getitem__"=pure (some (.builtin id))) (hs:NoSl slice)
  (h:wpAny (model prog w) A (eval value env) (fun o s₁=>wpAny (model prog w) A (eval slice env) (fun i s₂=>s₂.TypeIs o T∧wpAny (model prog w) A (getItem o i) Q E s₂) E s₁) E s) :
  wpAny (model prog w) A (eval (.Subscript value slice pos) env) Q E s:=by
 refine Subscript_ (wpAny_mono h (fun o s₁ h₁=>wpAny_mono h₁ (fun i s₂ h₂=>?_) fun _ _ x=>x) fun _ _ x=>x)
 obtain ⟨hT,h₂⟩:=h₂
 unfold subscriptTail
 refine wpAny_bind ?_
 rw [getitemInPython_of_ne hT.not_modules]
 refine wpAny_bind (wpAny_specialOf hT hl ?_)
 have fin:wpAny (model prog w) A (subscripted slice false o i) (fun r s₃=>wpAny (model prog w) A (letTemporaryGo value o r >>= fun _=>pure r) Q E s₃) E s₂:=by
  rw [hs o i]
  exact wpAny_operating (wpAny_mono h₂ (fun r s₃ h₃=>wpAny_bind (wpAny_letTemporaryGo (wpAny_pure h₃))) fun _ _ x=>x)
 first
  | exact wpAny_pure (wpAny_bind fin)
  | exact wpAny_bind (wpAny_pure (wpAny_bind fin))
  | exact wpAny_bind fin
theorem dict_typeIs {X:Cx}{pins:List (Addr×Obj)}{σ:St}{H:Hp}{s:Shared}{a:Addr}{y:V}{o:Option V} (I:Inv X pins σ H s) (g:DGet H a y o):s.TypeIs (.ref a) "dict":=by
 rcases g with ⟨kvs,k,e,_,_⟩ | ⟨kvs,k,b,e,_,_,_⟩
 ·obtain ⟨_,_,vs,_,dd⟩:=dk_rd I.hok e
  exact dd.typeIs
 ·obtain ⟨_,_,xs,_,dd⟩:=dt_rd I.hok e
  exact dd.typeIs
def tDGet (td ty:TE):TE:=fun σ H Q=>td σ H fun x H1=>ty σ H1 fun y H2=>∃ a v,x=.ref a∧DGet H2 a y (some v)∧Q v H2
def tDNotIn (ty td:TE):TE:=fun σ H Q=>ty σ H fun y H1=>td σ H1 fun x H2=>∃ a o,x=.ref a∧DGet H2 a y o∧Q (.bl (!o.isSome)) H2
def sDPut (td ty tv:TE):TS:=fun D σ H=>tv σ H fun v H1=>td σ H1 fun x H2=>ty σ H2 fun y H3=>∃ a H4,x=.ref a∧DPut H3 a y v H4∧D.nx σ H4
section
variable {X:Cx}{o i e value:Expr}{pos pos' tpos:Pos}{td ty tv:TE}
theorem pe_dget (hu:X.A.units + 1 < cLine) (ho:PE X o td) (hi:PE X i ty) (hs:NoSl i):PE X (.Subscript o i pos) (tDGet td ty):=by
 intro pins s σ H Q I h
 refine subD_of PySem.F.slot_dict_getitem.lookup hs (thn (ho pins s σ H _ I h) fun u s1 ⟨x,H1,I1,rx,q1⟩=>thn (hi pins s1 σ H1 _ I1 q1) fun iv s2 ⟨y,H2,I2,ry,a,v,ex,g,q2⟩=>?_)
 subst ex
 obtain rfl:u=Value.ref a:=rx
 exact ⟨dict_typeIs I2 g,d_getItem hu I2 g ry fun w' s3 I3 rw'=>⟨v,H2,I3,rw',q2⟩⟩
theorem pc_dnotin (hu:X.A.units + 1 < cLine) (hi:PE X i ty) (ho:PE X o td):PC X .NotIn i o (tDNotIn ty td):=by
 intro pins s σ H Q I h
 refine thn (hi pins s σ H _ I h) fun iv s1 ⟨y,H1,I1,ry,q1⟩=>thn (ho pins s1 σ H1 _ I1 q1) fun u s2 ⟨x,H2,I2,rx,a,ov,ex,g,q2⟩=>?_
 subst ex
 obtain rfl:u=Value.ref a:=rx
 exact d_notIn hu I2 g ry fun s3 I3=>⟨.bl (!ov.isSome),H2,I3,rfl,q2⟩
theorem ps_dput (hu:X.A.units + 1 < cLine) (ho:PE X o td) (hi:PE X i ty) (hv:PE X value tv) (hs:swapsWith value (some (.Subscript o i pos')) pos.line X.env=pure false) :
  PS X (.Assign [.Subscript o i pos'] value pos) (sDPut td ty tv):=by
 intro pins s σ H D I h
 refine wpAny_Assign_Subscript (thn (hv pins s σ H _ I h) fun r s1 ⟨v,H1,I1,rv,q1⟩=>thn (ho pins s1 σ H1 _ I1 q1) fun u s2 ⟨x,H2,I2,rx,q2⟩=>thn (hi pins s2 σ H2 _ I2 q2) fun iv s3 ⟨y,H3,I3,ry,a,H4,ex,g,q3⟩=>?_) hs
 subst ex
 obtain rfl:u=Value.ref a:=rx
 exact d_setItem hu I3 g ry rv fun s4 I4=>⟨σ,H4,I4,q3⟩
end
theorem dk_empty {P:Program}{w:World}{H:Hp} (h:Heap) (hb:sysModules < h.objs.size):ObjOk P w H (h.push { cls:=.type "dict",data:=.dict #[] }) h.objs.size (.dK []):=
 ⟨Nat.zero_le _,beq_eq_false_iff_ne.mpr (Ne.symm (Nat.ne_of_lt hb)),[],.nil,Heap.DictOf.new h⟩
def tDNewK:TE:=fun _ H Q=>∀ p,H p=none→Q (.ref p) (upd H p (.dK []))
section
variable {X:Cx}{pos:Pos}
theorem pe_dnewK:PE X (.Dict [] [] pos) tDNewK:=fun pins s σ H Q I h=>
 wpAny_Dict_empty ⟨.ref s.heap.objs.size,_,I.laid (a:=s.heap.objs.size) (o:=.dK []) (t':=s.toks) (fun _ _ q=>Heap.get?_push_of_some _ q) (Nat.le_refl _) (dk_empty s.heap I.big),rfl,h _ (I.hok.fresh (Nat.le_refl _))⟩
end
structure M2 (X:Cx) (o:Expr) (m:Str) (apos:Pos) (e f:Expr) (cpos:Pos):Prop where
 base:attributeBase o m X.env (eval o X.env)=eval o X.env
 few:((backTo cpos (starEach [e,f] X.env)).all (fun x=>!x.1)&&(backToKw cpos (keywordEach [] X.env)).all (fun x=>x.1.isSome)
  && decide (([e,f]:List Expr).length + ([]:List Keyword).length + (if ([]:List Keyword).isEmpty then 0 else 1) < 30))=true
 line:(apos.endLine == cpos.line)=true
 trees:backTo cpos (starEach [e,f] X.env)=[(false,eval e X.env),(false,eval f X.env)]
def IsD (H:Hp) (a:Addr):Prop:=(∃ kvs,Rd H a (.dK kvs))∨∃ kvs,Rd H a (.dT kvs)
theorem isD_at {X:Cx}{pins:List (Addr×Obj)}{σ:St}{H:Hp}{s:Shared}{a:Addr} (I:Inv X pins σ H s) (d:IsD H a) :
  s.TypeIs (.ref a) "dict"∧(∀ b,Value.ref a=.ref b→∃ ob,s.heap.get? b=some ob∧ob.dict=none)∧(a == sysModules)=false:=by
 rcases d with ⟨kvs,e⟩ | ⟨kvs,e⟩
 ·obtain ⟨_,hd,vs,_,dd⟩:=dk_rd I.hok e
  refine ⟨dd.typeIs,fun b q=>?_,hd⟩
  cases q
  obtain ⟨ob,_,_,h1,h2,_⟩:=dd
  exact ⟨ob,h1,h2.2.1⟩
 ·obtain ⟨_,hd,xs,_,dd⟩:=dt_rd I.hok e
  refine ⟨dd.typeIs,fun b q=>?_,hd⟩
  cases q
  obtain ⟨ob,_,_,h1,h2,_⟩:=dd
  exact ⟨ob,h1,h2.2.1⟩
section
variable {X:Cx}{pins:List (Addr×Obj)}{σ:St}{H:Hp}{s:Shared}{a:Addr}{y d:V}{u r:Value}{o:Option V}{A:Around}{E:Value→Shared→Prop}
theorem d_get2 {Q:Value→Shared→Prop} (hu:A.units + 1 < cLine) (I:Inv X pins σ H s) (g:DGet H a y o) (ry:RelV y u) (rd:RelV d r) (h:∀ w' s',Inv X pins σ H s'→RelV (o.getD d) w'→Q w' s') :
  wpAny (model X.prog X.w) A (call (.builtin "dict.get") [.ref a,u,r]) Q E s:=by
 rcases g with ⟨kvs,k,e,ey,l⟩ | ⟨kvs,k,b,e,ey,eb,l⟩
 ·subst ey
  obtain ⟨z,hd,vs,rel,dd⟩:=dk_rd I.hok e
  refine call_meetsIn PySem.F.slot_dict_get dd.typeIs PySem.F.entry_dict_get (PySem.F.args_dict_get_3 _ _ _) (meets_dict_get_default (mixKind X.prog X.w) a (kV_is ry) hd r) ⟨_,dd.mapOf,h _ _ (I.tok _) ?_⟩
  rw [l]
  exact (rel.val k).getD rd
 ·subst ey
  cases (show u=Value.ref b from ry)
  obtain ⟨z,hd,xs,rel,dd⟩:=dt_rd I.hok e
  refine call_meetsIn PySem.F.slot_dict_get dd.typeIs PySem.F.entry_dict_get (PySem.F.args_dict_get_3 _ _ _) (meetsH_dict_get_default (tupleKind (mixKind X.prog X.w)) a b hd r) ⟨tupleKind_room_in1 hu,k,xs,key_of I.hok eb,dd,h _ _ (I.tok _) ?_⟩
  rw [l]
  exact (rel.val k).getD rd
end
def tDGet2 (td ty tx:TE):TE:=fun σ H Q=>td σ H fun x H1=>∃ a,x=.ref a∧IsD H1 a∧ty σ H1 fun y H2=>tx σ H2 fun z H3=>∃ o,DGet H3 a y o∧Q (o.getD z) H3
section
variable {X:Cx}{o e f:Expr}{apos cpos:Pos}{td ty tx:TE}
theorem pe_dget2 (hu:X.A.units + 1 < cLine) (ho:PE X o td) (he:PE X e ty) (hf:PE X f tx) (m:M2 X o "get" apos e f cpos):PE X (.Call (.Attribute o "get" apos) [e,f] [] cpos) (tDGet2 td ty tx):=by
 intro pins s σ H Q I h
 refine wpAny_Call_method m.base m.few m.line PySem.F.plainAttrs_dict PySem.F.slot_dict_get PySem.F.type_dict_get (thn (ho pins s σ H _ I h) fun u s1 ⟨x,H1,I1,rx,a,ex,d,q1⟩=>?_)
 subst ex
 obtain rfl:u=Value.ref a:=rx
 obtain ⟨t1,t2,_⟩:=isD_at I1 d
 refine ⟨t1,t2,?_⟩
 rw [m.trees]
 refine Calls.callWith_builtin rfl (Calls.evalArgs_plain (Calls.spliced_cons (thn (he pins s1 σ H1 _ I1 q1) fun iv s2 ⟨y,H2,I2,ry,q2⟩=>
  Calls.spliced_cons (thn (hf pins s2 σ H2 _ I2 q2) fun fv s3 ⟨z,H3,I3,rz,ov,g,q3⟩=>Calls.spliced_nil ?_))))
 exact d_get2 hu I3 g ry rz fun w' s4 I4 rw'=>⟨_,H3,I4,rw',q3⟩
end
section
variable {X:Cx}{pins:List (Addr×Obj)}{σ:St}{H:Hp}{s:Shared}{a:Addr}{kvs:List (Key×V)}{A:Around}{E:Value→Shared→Prop}
theorem d_copyOf {Q:Value→Shared→Prop} (I:Inv X pins σ H s) (e:Rd H a (.dK kvs)) (h:∀ p s',H p=none→Inv X pins σ (upd H p (.dK kvs)) s'→Q (.ref p) s'):wpAny (model X.prog X.w) A (call (.type "dict") [.ref a]) Q E s:=by
 obtain ⟨z,hd,vs,rel,dd⟩:=dk_rd I.hok e
 refine kt_call_dict hd dd (by rw [← rel.length];exact z) fun h' dd' hs=>?_
 refine h _ _ (I.hok.fresh (Nat.le_refl _)) (I.laid (a:=s.heap.objs.size) (o:=.dK kvs) (t':=s.toks) (fun b q hq=>?_) (Nat.le_refl _) (dk_new z (beq_eq_false_iff_ne.mpr (Ne.symm (Nat.ne_of_lt I.big))) rel dd'))
 exact (hs.2 b (Nat.ne_of_lt (Heap.lt_size hq))).trans (Heap.get?_push_of_some _ hq)
end
end L2
namespace Att
open PySem PySem.W PySem.Calls PyProof.Rows
theorem ints_of_wellAll {P:Params}{h:Heap}:∀ (ns:List Int) (vs:List Value),WellAll P h vs (ns.map WData.int)→IntsAre vs ns:=by
 intro ns
 induction ns with
 | nil=>
  intro vs w
  rw [List.map_nil] at w
  cases w
  exact .nil
 | cons n ns ih=>
  intro vs w
  rw [List.map_cons] at w
  cases w with
  | cons a b=>
   cases a
   exact .cons _ _ (ih _ b)
theorem script_of {l:OpenLaw}{n:Nat} (hn:l.most=some n) {P:Params}{h:Heap}{args:List WData}{vals:List Value}
  (hpre:l.row.toRowW.claim.pre args=true) (hwl:WellAll P h vals args) :
  ∃ a vs ns,vals=[Value.ref a]∧args=[WData.list (ns.map WData.int)]∧h.get? a=some { cls:=.type "list",data:=.seq vs.toArray }∧IntsAre vs ns∧ns.length≤n:=by
 have hsh:WShape.hasAll [] args [.list .int]=true:=(pre_splitW hpre).1
 have hc:l.pre.holds [] { args:=args }=true:=(pre_splitW hpre).2
 obtain ⟨d,r,rfl,h1,h2⟩:=hasAllW_cons hsh
 obtain rfl:=hasAllW_nil h2
 obtain ⟨xs,rfl,h3⟩:=hasW_list h1
 obtain ⟨ns,rfl⟩:=items_int h3
 have hlen:ns.length≤n:=by
  unfold OpenLaw.pre at hc
  have h4:(WTm.not (.lt (.lit (.int (n:Int))) (.len (.arg 0)))).holds [] { args:=[.list (ns.map .int)] }=true:=by
   have h4:=(holds_andW hc).1
   rw [hn] at h4
   exact h4
  have h5:=condW_of h4 (w_not (w_lt w_lit (w_len_list (w_arg rfl))))
  rw [List.length_map] at h5
  refine Nat.le_of_not_lt fun q=>?_
  have q':(n:Int) < ((ns.length:Nat):Int):=by omega
  first
   | (rw [decide_eq_true q'] at h5;exact absurd h5 (by decide))
   | (simp at h5;omega)
 cases hwl with
 | cons w1 w2=>
  cases w2
  cases w1 with
  | list ho hall=>exact ⟨_,_,ns,rfl,rfl,ho,ints_of_wellAll ns _ hall,hlen⟩
theorem post_true (l:OpenLaw) (args:List WData):l.row.toRowW.claim.post args (.bool true) args=true:=
 postW_of (r:=l.row.toRowW) (X:=(true == true))
  (show WShape.has [] (.bool true) .bool=true by first | rfl | decide | simp [WShape.has,WShape.arms,WShape.armsAll])
  (show (WTm.eq .res (.lit (.bool true))).value [] { args:=args,res:=some (.bool true),after:=args }=some (.bool (true == true)) from w_eq_bool (w_res rfl) w_lit) rfl
theorem attach_call {l:OpenLaw}{n:Nat}{q:Program}{loose:List Str}{XP:(Str→Option Value)→Heap→Prop}{YP:World→Heap→Prop}{d:DefRec}
  (hn:l.most=some n) (hdf:d.params.defaults=[])
  (call:∀ (w:World) (s₀ s₁:Shared) (mg mb:Str→Option Value) (fa:Addr) (o:Obj) (pm cd doc:Value) (a:Addr) (vs:List Value) (ns:List Int),
   Ground q loose [] XP w s₀ mg mb s₁.heap→YP w s₁.heap →
   s₁.heap.get? fa=some o→o.data=.func (docDef d.name d.params d.body d.scope pm cd doc)→s₁.heap.CodeRec cd d.name→mg d.name=some (.ref fa) →
   s₁.heap.get? a=some { cls:=.type "list",data:=.seq vs.toArray }→IntsAre vs ns→ns.length≤n→s₁.gens=#[] →
   codeAny (model l.prog w) callerA (.call (.ref fa) ⟨[.ref a],[]⟩) (fun r s'=>r=.ok (.ret (.bool true))∧OldK s₁.heap s'.heap∧s'.os=s₁.os∧AllBare s'.gens) s₁) :
  WalkO q loose XP YP l.row.toRowW d [] (fun f vs=>PySem.call f vs):=by
 intro w s₀ s₁ mg mb G Y fa o pm cd doc dV kV ho hd hcd hD hmg hg args vals as hpre hlay hrd hwl hlo
 obtain rfl:dV=.none:=Dflts.none hD hdf
 obtain rfl:kV=.none:=Dflts.noKw hD
 obtain ⟨a,vs,ns,rfl,rfl,hobj,hints,hlen⟩:=script_of hn hpre hwl
 refine enter_call (codeAny_mono (call w s₀ s₁ mg mb fa o pm cd doc a vs ns G Y ho (fd_plain hd) hcd hmg hobj hints hlen hg) fun r s' hq=>?_)
 obtain ⟨rfl,h2,h3,h4⟩:=hq
 exact ⟨.inl ⟨.bool true,.bool true,[],rfl,fun _=>rfl,.bool true,post_true l _,fun _=>⟨List.Pairwise.nil,fun _ hm=>(nomatch hm)⟩⟩,h2,h3,h4⟩
end Att
namespace L2
open PySem PySem.Spec PyProof.Rows
theorem vals_ints:∀ {vs:List Value}{ns:List Int},IntsAre vs ns→Vals (ns.map V.int) vs
 | _,_,.nil=>.nil
 | _,_,.cons n t h=>.cons ⟨t,rfl⟩ (vals_ints h)
def Only (H:Hp):Prop:=∀ b,H b=none∨∃ o xs,H b=some (.frz o (.lst xs))
theorem law_call {P:Program}{w:World}{K:PySem.W.Frag}{mg mb:Str→Option Value}{CX:CXT}{k:Nat}{fa a:Addr}{fd:FuncData}{x:Str}{sp:Sp}{s₁:Shared}{vs:List Value}{ns:List Int}
  (KX:K.In s₁.heap) (hns:s₁.heap.Ns mainGlobals mg) (hb:s₁.heap.Ns builtinsNs mb) (hbb:∀ x:Str,x≠"__name__"→mb x=bootBuiltins x) (hlim:s₁.heap.NoLimit) (hg:s₁.gens=#[])
  (ha:s₁.heap.get? a=some { cls:=.type "list",data:=.seq vs.toArray }) (hi:IntsAre vs ns) (hl:ns.length≤sizeLine) (hr:Room k callerA)
  (F:∀ base:Heap,K.In base→base.Ns mainGlobals mg→FnOk P w K mg base CX k fa fd [x] sp) (hbind:∀ (s:Shared) (u:Value),BindsTo s fd ⟨[u],[]⟩ [(x,u)])
  (hsp:∀ H:Hp,Only H→SqL K H a (ns.map V.int)→sp [.ref a] H (fun v _=>v=.bl true) fun _ _ _=>False)
  (hCX:∀ H e s',CX [] H s₁ (fun _ _ _=>False) e s'→False) :
  codeAny (model P w) callerA (.call (.ref fa) ⟨[.ref a],[]⟩) (fun r s'=>r=.ok (.ret (.bool true))∧OldK s₁.heap s'.heap∧s'.os=s₁.os∧AllBare s'.gens) s₁:=by
 have rv:=vals_ints hi
 have lenV:=hi.length
 have core:∀ H:Hp,Only H→SqL K H a (ns.map V.int)→HOk P w H s₁.heap→(∀ b,H b≠none→b=a)→(H a≠none→K.lookup a=none) →
   codeAny (model P w) callerA (.call (.ref fa) ⟨[.ref a],[]⟩) (fun r s'=>r=.ok (.ret (.bool true))∧OldK s₁.heap s'.heap∧s'.os=s₁.os∧AllBare s'.gens) s₁:=by
  intro H hO hS hok hA hK
  have base_of:∀ {b:Addr}{o:Obj},s₁.heap.get? b=some o→H b=none→(hidT s₁.heap H).get? b=some o:=fun e n=>hidT_get e n
  have noA:∀ {b:Addr}{o:Obj}{es:Array DictEntry}{ep:Nat},s₁.heap.get? b=some o→o.data=.dict es ep→H b=none:=fun {b o es ep} e d=>by
   cases q:H b with
   | none=>rfl
   | some u=>
    have e':b=a:=hA b (by rw [q];simp)
    subst e'
    rw [ha] at e;cases e
    have d':Data.seq vs.toArray _=Data.dict es ep:=d
    cases d'
  have nsK:∀ {b:Addr}{m:Str→Option Value},s₁.heap.Ns b m→(hidT s₁.heap H).Ns b m:=fun {b m} ⟨o,es,ep,e,d,r⟩=>⟨o,es,ep,base_of e (noA e d),d,r⟩
  have hKb:K.In (hidT s₁.heap H):=fun b o e=>base_of (KX b o e) (by
   cases q:H b with
   | none=>rfl
   | some u=>
    have e':b=a:=hA b (by rw [q];simp)
    subst e'
    rw [hK (by rw [q];simp)] at e;cases e)
  have hM:Mod K mg (hidT s₁.heap H):=⟨hKb,nsK hns,⟨mb,nsK hb,hbb⟩,let ⟨mc,h1,h2⟩:=hlim;⟨mc,nsK h1,h2⟩⟩
  have e0:Env0 P w K mg (hidT s₁.heap H) callerA [] s₁ H:=⟨rfl,hM,fun b o e=>of_hidT e,Nat.le_of_eq (hidT_size _ _),trivial,fun b hb=>absurd (show b∈([]:List Addr) from hb) (by simp),hok,.of_eq hg⟩
  refine codeAny_mono ((F _ hKb (nsK hns)).run callerA [] s₁ H ⟨[.ref a],[]⟩ [.ref a] [.ref a] _ _ hr e0 (hbind s₁ (.ref a)) (.cons rfl .nil) (hsp H hO hS)) fun r s' h=>?_
  cases r with
  | error e=>exact (hCX H e s' h).elim
  | ok fl=>
   cases fl with
   | next=>exact False.elim h
   | brk=>exact False.elim h
   | cont=>exact False.elim h
   | ret u=>
    obtain ⟨v,H',os,bare,un,hok',r',q⟩:=h
    have q':v=.bl true:=q
    subst q'
    obtain rfl:u=Value.bool true:=r'
    refine ⟨rfl,OldK.of_keep fun b o e=>?_,os,bare⟩
    cases q:H b with
    | none=>exact un.keep b o e q (by intro z;exact absurd (show b∈([]:List Addr) from z) (by simp)) (by simp)
    | some u=>
     rcases hO b with z | ⟨ob,xs,z⟩
     ·rw [q] at z;cases z
     ·have z2:=un.frzs b ob _ z
      obtain ⟨e1,_⟩:=hok b _ z
      obtain ⟨e2,_⟩:=hok' b _ z2
      rw [e] at e1;cases e1
      exact e2
 cases hk:K.lookup a with
 | some o=>
  have e:=KX a o hk
  rw [ha] at e
  cases e
  refine core (fun _=>none) (fun _=>.inl rfl) (.inr ⟨_,vs.toArray,_,hk,rfl,rfl,rfl,by rw [List.size_toArray,lenV];exact hl,by simpa using rv⟩) (fun b u z=>by have z':(none:Option HO)=some u:=z;cases z') (fun b z=>absurd rfl z) fun z=>absurd rfl z
 | none=>
  refine core (fun b=>if b=a then some (.frz { cls:=.type "list",data:=.seq vs.toArray } (.lst (ns.map V.int))) else none) (fun b=>?_) (.inl (.inr ⟨{ cls:=.type "list",data:=.seq vs.toArray },if_pos rfl⟩)) (fun b u z=>?_) (fun b z=>?_) fun _=>hk
  ·by_cases hb:b=a
   ·exact .inr ⟨_,_,if_pos hb⟩
   ·exact .inl (if_neg hb)
  ·by_cases hb:b=a
   ·have z':=(if_pos hb).symm.trans z
    cases z'
    subst hb
    exact ⟨ha,by rw [List.length_map];exact hl,vs,_,rv,ha⟩
   ·have z':=(if_neg hb).symm.trans z
    cases z'
  ·by_cases hb:b=a
   ·exact hb
   ·exact absurd (if_neg hb) z
theorem walk_of {l:PySem.W.OpenLaw}{n k:Nat}{q:Program}{loose:List Str}{XP:(Str→Option Value)→Heap→Prop}{YP:World→Heap→Prop}{d:DefRec}{K:Params→PySem.W.Frag}{CX:World→CXT}{sp:World→Sp}{x:Str}
  (hn:l.most=some n) (hn2:n≤sizeLine) (hdf:d.params.defaults=[]) (hr:Room k callerA)
  (hY:∀ (w:World) (h:Heap),YP w h→(K w.params).In h)
  (F:∀ (w:World) (mg:Str→Option Value) (fa:Addr) (h:Heap),(K w.params).In h→h.Ns mainGlobals mg→mg d.name=some (.ref fa) →
   ∃ fd:FuncData,(∀ (s:Shared) (u:Value),BindsTo s fd ⟨[u],[]⟩ [(x,u)]) ∧
    ∀ base:Heap,(K w.params).In base→base.Ns mainGlobals mg→FnOk l.prog w (K w.params) mg base (CX w) k fa fd [x] (sp w))
  (hsp:∀ (w:World) (H:Hp) (a:Addr) (ns:List Int),ns.length≤n→Only H→SqL (K w.params) H a (ns.map V.int)→sp w [.ref a] H (fun v _=>v=.bl true) fun _ _ _=>False)
  (hCX:∀ (w:World) (H:Hp) (s:Shared) (e:Value) (s':Shared),CX w [] H s (fun _ _ _=>False) e s'→False) :
  PySem.W.WalkO q loose XP YP l.row.toRowW d [] (fun f vs=>PySem.call f vs):=by
 refine Att.attach_call hn hdf fun w s₀ s₁ mg mb fa o pm cd doc a vs ns G Y ho hd hcd hmg hobj hints hlen hg=>?_
 have KX:=hY w _ Y
 obtain ⟨fd,hb,hF⟩:=F w mg fa _ KX G.T.g hmg
 exact law_call KX G.T.g G.T.b G.T.builtins G.T.nolimit hg hobj hints (Nat.le_trans hlen hn2) hr hF hb (fun H hO hS=>hsp w H a ns hlen hO hS) fun H e s'=>hCX w H s₁ e s'
def defArgs (s:Stmt):Arguments:=match s with
 | .FunctionDef _ a _ _ _ _ _ _ _ _=>a
 | _=>{ posonlyargs:=[],args:=[],vararg:=none,kwonlyargs:=[],kw_defaults:=[],kwarg:=none,defaults:=[] }
def defBody (s:Stmt):List Stmt:=match s with
 | .FunctionDef _ _ b _ _ _ _ _ _ _=>b
 | _=>[]
def defScope (s:Stmt):Scope:=match s with
 | .FunctionDef _ _ _ _ _ _ sc _ _ _=>sc
 | _=>{ kind:=.function,names:=[],isGenerator:=false,isCoroutine:=false }
abbrev CX0:CXT:=fun _ _ _ _ _ _=>False
abbrev E0:XK:=fun _ _ _=>False
theorem pass0 {X:Cx}:Passes CX0 X E0:=fun _ _ _ _ _ _ _ h=>h.elim
structure Fun (K:PySem.W.Frag) (x qual:Str) (st:Stmt) (f:Addr) (fd:FuncData):Prop where
 ex:∃ (oc:Value) (od:Option Addr) (kV doc pm:Value) (an:Option Addr) (cdv ct:Value) (osl:Array (Option Value)),
  fd=PySem.W.fnOf x qual (defArgs st) (defBody st) (defScope st) .none kV doc pm an cdv ct∧K.lookup f=some ⟨oc,od,.func fd,osl⟩∧PySem.W.codeIn K cdv qual=true
 kp:PySem.W.keepIn K (.ref f)=true
section
variable {P:Program}{w:World}{K:PySem.W.Frag}{mg:Str→Option Value}{base:Heap}
theorem Fun.ok {x qual:Str}{st:Stmt}{f:Addr}{fd:FuncData}{N ps:List Str}{k:Nat}{sp:Sp}{cm:Bool} (F:Fun K x qual st f fd) (S:FnScope N ps (defScope st)) (len:∀ vs H Q E,sp vs H Q E→vs.length=ps.length)
  (hbody:∀ (cdv:Value) (A:Around) (outer:List Env) (s:Shared) (H:Hp) (vs:List V) (Q:VK) (E:XK),Room k (A.deeper (envOfC qual (defScope st) s.heap.objs.size f cdv)) cm→sp vs H Q E →
   ∃ t,PSs (cxOf CX0 P w K mg base N qual (defScope st) f cdv A outer s H E cm).nox (defBody st) t∧t { nx:=fun _ H'=>Q .non H',rt:=Q } (start N vs) H):FnOk P w K mg base CX0 (k + 1) f fd ps sp cm:=by
 obtain ⟨oc,od,kV,doc,pm,an,cdv,ct,osl,rfl,lk,hcd⟩:=F.ex
 refine fn_of lk hcd S len fun A outer s H vs Q E hr hsp=>?_
 obtain ⟨t,h,q⟩:=hbody cdv A outer s H vs Q E hr hsp
 exact ⟨t,h.nox,q⟩
theorem Fun.binds {x qual:Str}{st:Stmt}{f:Addr}{fd:FuncData}{ps:List Str} (F:Fun K x qual st f fd)
  (h:∀ (kV doc pm:Value) (an:Option Addr) (cdv ct:Value) (us:List Value),us.length=ps.length→bindArgs (PySem.W.fnOf x qual (defArgs st) (defBody st) (defScope st) .none kV doc pm an cdv ct) ⟨us,[]⟩=pure (ps.zip us)):Binds K fd ps []:=by
 obtain ⟨oc,od,kV,doc,pm,an,cdv,ct,osl,rfl,lk,hcd⟩:=F.ex
 exact .all (h kV doc pm an cdv ct)
theorem fun_mk {x qual:Str}{st:Stmt}{f:Addr}{oc:Value}{od an:Option Addr}{osl:Array (Option Value)}{kV doc pm cdv ct:Value} (l:K.lookup f=some ⟨oc,od,.func (PySem.W.fnOf x qual (defArgs st) (defBody st) (defScope st) .none kV doc pm an cdv ct),osl⟩)
  (c:PySem.W.codeIn K cdv qual=true) (k:PySem.W.keepIn K (.ref f)=true):Fun K x qual st f (PySem.W.fnOf x qual (defArgs st) (defBody st) (defScope st) .none kV doc pm an cdv ct):=⟨⟨oc,od,kV,doc,pm,an,cdv,ct,osl,rfl,l,c⟩,k⟩
end
theorem hu_of {A:Around}{k:Nat}{cm:Bool} (hr:Room k A cm):A.units + 1 < cLine:=Nat.lt_of_le_of_lt (Nat.add_le_add_left (by decide:1≤64) _) hr.units
theorem small1000 {n:Nat} (h:n≤1000):n < sizeLine:=Nat.lt_of_le_of_lt h (by decide)
theorem iteF {A B:Prop} (h:B):if false=true then A else B:=by
 rw [if_neg Bool.false_ne_true]
 exact h
theorem iteT {A B:Prop} (h:A):if true=true then A else B:=by
 rw [if_pos rfl]
 exact h
def Same (H H':Hp):Prop:=∀ b o,H b=some o→H' b=some o
theorem Same.refl (H:Hp):Same H H:=fun _ _ h=>h
theorem Same.trans {H H1 H2:Hp} (a:Same H H1) (b:Same H1 H2):Same H H2:=fun c o h=>b c o (a c o h)
theorem Same.free {H H':Hp} (e:Same H H') {l:Addr} (h:H' l=Option.none):H l=Option.none:=by
 cases q:H l with
 | none=>rfl
 | some o=>
  rw [e l o q] at h
  cases h
section
variable {X:Cx}
theorem call_lenD:CallR X (.builtin "len") (fun xs H Q=>∃ a kvs,xs=[V.ref a]∧H a=some (.dK kvs)∧Q (.int kvs.length) H):=by
 intro pins s σ H xs us Q I r h
 obtain ⟨a,kvs,rfl,ha,q⟩:=h
 obtain ⟨u,rfl,ru⟩:=vals1 r
 cases ru
 exact d_len I (.inl ha) fun t s' I'=>⟨.int kvs.length,H,I',⟨t,rfl⟩,q⟩
end
def ExcO (a:Addr) (cls:Value):HO:=.ext fun h=>∃ oe,h.get? a=some oe∧oe.cls=cls
section
variable {P:Program}{w:World}{H:Hp}{h h':Heap}
theorem HOk.tracked (x:HOk P w H h) (k:∀ b u o,H b=some o→h.get? b=some u→h'.get? b=some u):HOk P w H h':=fun a o e=>
 (x a o e).stay (fun b u hb q=>hb.elim (fun z=>k b u o (by rw [z];exact e) q) fun z=>k b u _ z q) (fun _ z=>z) fun _ _ z=>z
end
structure FlyN (h:Heap) (H:Hp) (h0:Heap) (e:Addr) (cls:Value):Prop where
 nw:h0.get? e=none
 fr:H e=none
 ob:∃ oe vs a0,h.get? e=some oe∧oe.cls=cls∧vs[0]? = some a0∧oe.data=.fields vs∧vs[1]? = some .none
abbrev XS:=Value→St→Hp→Prop
def ThrowsN (X:Cx) (E:XS):Prop:=∀ (pins:List (Addr×Obj)) (σ:St) (H:Hp) (s:Shared) (e:Addr) (cls:Value),Inv X pins σ H s→FlyN s.heap H X.s₀.heap e cls→E cls σ H→X.xe (.ref e) s
section
variable {X:Cx}{pins:List (Addr×Obj)}{σ:St}{H:Hp}{s:Shared}{h':Heap}
theorem Inv.slots (I:Inv X pins σ H s) (xs:List Addr) (stay:∀ b o,s.heap.get? b=some o→b∉frs X.stack→b∉xs→h'.get? b=some o) (slot:∀ b o,s.heap.get? b=some o→b∈frs X.stack→∃ sl,h'.get? b=some { o with slots:=sl })
  (hxs:∀ x∈xs,X.s₀.heap.get? x=none∧H x=none∧x≠X.env.locals∧(∀ y c,X.env.cells.lookup y=some c→c≠x)∧∀ p∈X.pn++pins,p.1≠x):Inv X pins σ H { s with heap:=h' }:=by
 have any:∀ b o,s.heap.get? b=some o→b∉xs→∃ sl,h'.get? b=some { o with slots:=sl }:=fun b o q n=>by
  by_cases m:b∈frs X.stack
  ·exact slot b o q m
  ·exact ⟨o.slots,stay b o q m n⟩
 have out:∀ b,b≠X.env.locals→b∉X.fs→b∉frs X.stack:=fun b n1 n2 m=>(List.mem_cons.mp (I.stkSub b m)).elim n1 n2
 have neL:∀ b o,X.s₀.heap.get? b=some o→b≠X.env.locals:=fun b o e=>Nat.ne_of_lt (Nat.lt_of_lt_of_le (Heap.lt_size e) I.ok.above)
 have neX:∀ b o,X.s₀.heap.get? b=some o→b∉xs:=fun b o e m=>by rw [(hxs b m).1] at e;cases e
 have cellK:∀ x c,X.env.cells.lookup x=some c→∀ v,s.heap.IsCell c v→h'.IsCell c v:=fun x c e v ⟨o,ho,hd⟩=>by
  obtain ⟨sl,q⟩:=any c o ho fun z=>(hxs c z).2.2.2.1 x c e rfl
  exact ⟨_,q,hd⟩
 refine ⟨I.ok,I.os,I.bare,⟨fun b o e n hb hx=>?_,fun b o e n hb hx=>?_,I.base.free,fun b o e hx=>?_,I.base.tups,I.base.frzs,I.base.tbls⟩,?_,fun x c e=>?_,I.free,I.freeC,fun p hp=>?_,I.hok.tracked fun b v o hb q=>?_,I.len⟩
 ·exact stay b o (I.base.keep b o e n hb hx) (out b (neL b o e) hb) (neX b o e)
 ·obtain ⟨sl,e1⟩:=I.base.slot b o e n hb hx
  obtain ⟨sl',e2⟩:=any b _ e1 (neX b o e)
  exact ⟨sl',e2⟩
 ·obtain ⟨o',e1⟩:=I.base.there b o e hx
  obtain ⟨sl,e2⟩:=any b o' e1 (neX b o e)
  exact ⟨_,e2⟩
 ·obtain ⟨m,⟨o,es,ep,ho,r⟩,hl⟩:=I.loc
  obtain ⟨sl,hL⟩:=any _ o ho fun z=>(hxs _ z).2.2.1 rfl
  refine ⟨m,⟨_,es,ep,hL,r⟩,fun i x v e1 e2 e3=>?_⟩
  obtain ⟨u,rr,l⟩:=hl i x v e1 e2 e3
  refine ⟨u,rr,?_⟩
  rcases l with l | ⟨k,c,e,z⟩
  ·exact .inl l
  ·exact .inr ⟨k,c,e,cellK x c e _ z⟩
 ·obtain ⟨v,z⟩:=I.cell x c e
  exact ⟨v,cellK x c e v z⟩
 ·obtain ⟨e,n,ne,nf,d⟩:=I.pin p hp
  exact ⟨stay p.1 p.2 e (out p.1 ne nf) fun z=>(hxs p.1 z).2.2.2.2 p hp rfl,n,ne,nf,d⟩
 ·refine stay b v q (fun m=>?_) fun m=>?_
  ·rw [I.stkFree b m] at hb;cases hb
  ·rw [(hxs b m).2.1] at hb;cases hb
structure Landed (X:Cx) (pins:List (Addr×Obj)) (σ:St) (H:Hp) (e:Addr) (cls:Value) (s:Shared):Prop where
 inv:Inv X pins σ H s
 fr:H e=none
 ap:X.s₀.heap.get? e=none∧e≠X.env.locals∧(∀ y c,X.env.cells.lookup y=some c→c≠e)∧∀ p∈X.pn++pins,p.1≠e
 ob:∃ oe vs a0 T oT ts,s.heap.get? e=some oe∧oe.cls=cls∧vs[0]? = some a0∧oe.data=.fields vs∧vs[1]? = some (.ref T)∧T≠e∧H T=none∧(X.s₀.heap.get? T=none∧T≠X.env.locals∧(∀ y c,X.env.cells.lookup y=some c→c≠T)∧∀ p∈X.pn++pins,p.1≠T)∧s.heap.get? T=some oT∧oT.data=.fields ts∧ts[3]? = some .none
end
def ThrowsT (X:Cx) (E:XS):Prop:=∀ (pins:List (Addr×Obj)) (σ:St) (H:Hp) (s:Shared) (e:Addr) (cls:Value),Landed X pins σ H e cls s→E cls σ H→X.xe (.ref e) s
section
variable {prog:Program}{w:World}{A:Around}{R:Result→Shared→Prop}{s:Shared}
theorem comp_loop {elt tg iter:Expr}{ifs:List Expr}{scope:Scope}{pos:Pos}{it acc:Value}{env:Env} (Iv:Nat→Shared→Prop)
  (turn:∀ n s,Iv n s→wpAny (model prog w) A (pyNext it) (fun r s1=>match r with
   | none=>R (.ok .next) s1
   | some v=>wpAny (model prog w) A (letOwnedTupleGo tg it v) (fun _ s1'=>wpAny (model prog w) A (assign tg env v) (fun _ s2=>
     wpAny (model prog w) A (forIn ifs true fun c r=>if r=true then do let ok ← isTrue c env (eval c env);pure (ForInStep.yield ok) else pure (ForInStep.yield r)) (fun ok s3=>
      if ok=true then wpAny (model prog w) A (eval elt env) (fun x s4=>
       wpAny (model prog w) A (call (.builtin "list.append") [acc,x]) (fun _ s5=>∃ m,m < n∧Iv m s5) (fun _ _=>False) s4) (fun _ _=>False) s3
      else ∃ m,m < n∧Iv m s3) (fun _ _=>False) s2) (fun _ _=>False) s1') (fun _ _=>False) s1) (fun _ _=>False) s)
  (n:Nat) (hn:Iv n s):codeAny (model prog w) A (.compLoop (.ListComp elt [⟨tg,iter,ifs,0⟩] scope pos) 0 it acc env) R s:=by
 have ff:∀ {E:Value→Shared→Prop} (x:Value) (s:Shared),False→E x s:=fun _ _ f=>f.elim
 refine codeAny_loop rfl Iv (fun k s0 hI=>?_) n hn
 show wpAny (model prog w) A ((compTurn (.ListComp elt [⟨tg,iter,ifs,0⟩] scope pos) 0 it acc env).onRaise (fun x=>do noteFrame x env;theTreesLotGoes x)) _ _ s0
 refine wpAny_noted ?_
 rw [compTurn_list]
 refine wpAny_bind (wpAny_standAt (wpAny_bind (wpAny_mono (turn k s0 hI) (fun r s1 h1=>?_) ff)))
 cases r with
 | none=>exact wpAny_pure h1
 | some v=>
  refine wpAny_bind (wpAny_mono h1 (fun _ s1' h1'=>wpAny_bind (wpAny_mono h1' (fun _ s2 h2=>wpAny_bind (wpAny_mono h2 (fun ok s3 h3=>?_) ff)) ff)) ff)
  cases ok with
  | false=>exact wpAny_pure ⟨rfl,h3⟩
  | true=>exact wpAny_bind (wpAny_bind (wpAny_mono h3 (fun x s4 h4=>wpAny_bind (wpAny_mono h4 (fun _ s5 h5=>wpAny_pure (wpAny_pure ⟨rfl,h5⟩)) ff)) ff))
end
def frees (sc:Scope):List Str:=(sc.names.filter fun x=>x.2 == .free).map (·.1)
def cellPairs (env:Env):List (Str×NameKind)→List (Str×Addr)→List (Str×Addr)
 | [],cs=>cs
 | (n,k)::r,cs=>cellPairs env r (if k == .free then (n,(env.cells.lookup n).getD 0)::cs else cs)
theorem clos_of {env:Env}{sc:Scope} (h:∀ x∈frees sc,∃ c,env.cells.lookup x=some c):closureFor sc env=pure (cellPairs env sc.names []):=by
 have key:∀ (l:List (Str×NameKind)) (cs:List (Str×Addr)),(∀ x∈(l.filter fun x=>x.2 == .free).map (·.1),∃ c,env.cells.lookup x=some c) →
   (forIn l cs fun x r=>(do
    let (name,kind):=x
    if kind == .free then do
     let a ← cellOf env name
     pure (ForInStep.yield ((name,a)::r))
    else pure (ForInStep.yield r):Sem (ForInStep (List (Str×Addr)))))=pure (cellPairs env l cs):=by
  intro l
  induction l with
  | nil=>intro cs _;rfl
  | cons p r ih=>
   obtain ⟨n,k⟩:=p
   intro cs h
   rw [List.forIn_cons]
   by_cases hk:(k == NameKind.free)=true
   ·obtain ⟨c,hc⟩:=h n (by simp [hk])
    have ih':=ih ((n,c)::cs) fun x hx=>h x (by simp only [List.filter_cons,hk,if_true,List.map_cons,List.mem_cons];exact Or.inr hx)
    have e:cellOf env n=pure c:=by unfold cellOf;rw [hc]
    simp only [hk,if_true,e,pure_bind,cellPairs,hc,Option.getD_some]
    exact ih'
   ·have ih':=ih cs fun x hx=>h x (by simp only [List.filter_cons,hk];exact hx)
    simp only [hk,cellPairs,Bool.false_eq_true,if_false,pure_bind]
    exact ih'
 unfold closureFor
 have k:=key sc.names [] h
 simp only [bind_pure] at k ⊢
 first
  | exact k
  | (simp only [pure_bind];exact k)
theorem cellPairs_get {env:Env}:∀ {l:List (Str×NameKind)}{cs:List (Str×Addr)}{x:Str}{c:Addr},(cellPairs env l cs).lookup x=some c →
  cs.lookup x=some c∨((x,NameKind.free)∈l∧c=(env.cells.lookup x).getD 0)
 | [],_,_,_,h=>.inl h
 | (n,k)::r,cs,x,c,h=>by
  rcases cellPairs_get (l:=r) h with q | ⟨q,e⟩
  ·by_cases hk:(k == NameKind.free)=true
   ·rw [if_pos hk,List.lookup_cons] at q
    by_cases hx:(x == n)=true
    ·rw [hx] at q
     have e:=eq_of_beq hx
     subst e
     have hk':k=.free:=by cases k <;> first | rfl | exact absurd hk (by decide)
     subst hk'
     exact .inr ⟨List.mem_cons_self,(Option.some.inj q).symm⟩
    ·rw [Bool.not_eq_true] at hx
     rw [hx] at q
     exact .inl q
   ·rw [if_neg hk] at q
    exact .inl q
  ·exact .inr ⟨List.mem_cons_of_mem _ q,e⟩
theorem cellPairs_has {env:Env}:∀ {l:List (Str×NameKind)}{cs:List (Str×Addr)}{x:Str},(∃ c,cs.lookup x=some c)∨(x,NameKind.free)∈l→∃ c,(cellPairs env l cs).lookup x=some c
 | [],_,_,h=>h.elim id fun z=>nomatch z
 | (n,k)::r,cs,x,h=>by
  refine cellPairs_has (l:=r) ?_
  rcases h with ⟨c,h⟩ | h
  ·left
   by_cases hk:(k == NameKind.free)=true
   ·rw [if_pos hk,List.lookup_cons]
    by_cases hx:(x == n)=true
    ·rw [hx];exact ⟨_,rfl⟩
    ·rw [Bool.not_eq_true] at hx;rw [hx];exact ⟨c,h⟩
   ·rw [if_neg hk];exact ⟨c,h⟩
  ·rcases List.mem_cons.mp h with e | h
   ·left
    cases e
    rw [if_pos (by decide),List.lookup_cons,beq_self_eq_true]
    exact ⟨_,rfl⟩
   ·exact .inr h
def cxComp (X:Cx) (N:List Str) (sc:Scope) (s3:Shared) (H3:Hp) (fp:List Addr):Cx:=
 { X with N:=N,s₀:=s3,H₀:=H3,env:=compEnvC sc (cellPairs X.env sc.names []) s3.heap.objs.size X.env,outer:=X.stack,stack:=X.stack,ex:=fp,fn:=fun _=>false,pn:=[],xe:=fun _ _=>False }
def iniC (js:List (Option Nat)) (σ:St):St:=js.map fun j=>match j with
 | none=>none
 | some j=>(σ[j]?).join
def capOk (N:List Str) (sc:Scope):List Str→List (Option Nat)→Bool
 | [],[]=>true
 | x::r,none::js=>capOk N sc r js
 | x::r,some j::js=>decide (N[j]? = some x)&&decide (sc.names.lookup x=some .free)&&capOk N sc r js
 | _,_=>false
theorem capOk_len {N:List Str}{sc:Scope}:∀ {M:List Str}{js:List (Option Nat)},capOk N sc M js=true→js.length=M.length
 | [],[],_=>rfl
 | _::r,none::js,h=>by
  have:=capOk_len (M:=r) (js:=js) h
  simp [this]
 | _::r,some j::js,h=>by
  unfold capOk at h
  have:=capOk_len (M:=r) (js:=js) ((Bool.and_eq_true _ _).mp h).2
  simp [this]
 | [],_::_,h=>by cases h
 | _::_,[],h=>by cases h
theorem capOk_at {N:List Str}{sc:Scope}:∀ {M:List Str}{js:List (Option Nat)}{i j:Nat}{x:Str},capOk N sc M js=true→M[i]? = some x→js[i]? = some (some j)→N[j]? = some x∧sc.names.lookup x=some .free
 | [],_,_,_,_,_,h,_=>by simp at h
 | _::_,[],_,_,_,h,_,_=>by cases h
 | y::r,none::js,0,j,x,h,h1,h2=>by simp at h2
 | y::r,some q::js,0,j,x,h,h1,h2=>by
  simp at h1 h2
  subst h1 h2
  unfold capOk at h
  obtain ⟨a,b⟩:=(Bool.and_eq_true _ _).mp ((Bool.and_eq_true _ _).mp h).1
  exact ⟨of_decide_eq_true a,of_decide_eq_true b⟩
 | y::r,none::js,i + 1,j,x,h,h1,h2=>capOk_at (M:=r) (js:=js) h (by simpa using h1) (by simpa using h2)
 | y::r,some q::js,i + 1,j,x,h,h1,h2=>by
  unfold capOk at h
  exact capOk_at (M:=r) (js:=js) ((Bool.and_eq_true _ _).mp h).2 (by simpa using h1) (by simpa using h2)
structure CompScope (X:Cx) (M:List Str) (js:List (Option Nat)) (sc:Scope):Prop where
 kind:sc.kind=.function
 nocell:∀ y∈sc.names,y.2≠.cell
 loc:∀ y∈sc.names,y.2=.local→sc.names.lookup y.1=some .local
 cap:capOk X.N sc M js=true
 free:∀ x∈frees sc,X.env.kindOf x=some .cell∨X.env.kindOf x=some .free
 nd:M.Nodup
def tComp (wi:TI) (js:List (Option Nat)) (g:TG) (tt:TT) (te:TE):TE:=fun σ H Q=>wi σ H fun J H1=>∀ D,H1 D=none →
 ∃ W:Nat→Nat→St→Hp→Prop,(∃ m,W 0 m (iniC js σ) (upd H1 D (.lst [])))∧∀ i m σ' H',W i m σ' H' →
  (J.stop i H'∧Q (.ref D) H')∨(J.go i H'∧∀ x H2,J.yld i H' x H2→g x σ' H2 fun σ3 H3=>tt σ3 H3 fun b H4=>
   if b=true then te σ3 H4 fun y H5=>∃ xs,H5 D=some (.lst xs)∧xs.length < sizeLine∧∃ m',m' < m∧W (i + 1) m' σ3 (upd H5 D (.lst (xs++[y])))
   else ∃ m',m' < m∧W (i + 1) m' σ3 H4)
def PTs (X:Cx) (ifs:List Expr) (t:TT):Prop:=
 ∀ (pins:List (Addr×Obj)) (s:Shared) (σ:St) (H:Hp) (Q:Bool→Hp→Prop),Inv X pins σ H s→t σ H Q →
  wpAny (model X.prog X.w) X.A (forIn ifs true fun c r=>if r=true then do let ok ← isTrue c X.env (eval c X.env);pure (ForInStep.yield ok) else pure (ForInStep.yield r)) (TP X pins σ Q) X.xe s
theorem pts_one {X:Cx}{c:Expr}{t:TT} (h:PT X c t):PTs X [c] t:=fun pins s σ H Q I q=>wpAny_tests_one (h pins s σ H Q I q)
section
variable {X:Cx}
theorem Inv.comp {pins:List (Addr×Obj)}{σ:St}{H3:Hp}{s3:Shared}{M:List Str}{js:List (Option Nat)}{sc:Scope}{fp:List Addr}{h':Heap}{tk:Nat} (S:CompScope X M js sc) (I:Inv X pins σ H3 s3)
  (hf:∀ b∈fp,FpOk X pins H3 b) (hlt:∀ b∈fp,b < s3.heap.objs.size) (hn:h'.Ns s3.heap.objs.size fun _=>none) (hk:∀ b o,s3.heap.get? b=some o→h'.get? b=some o) :
  Inv (cxComp X M sc s3 H3 fp) [] (iniC js σ) H3 { s3 with heap:=h',toks:=tk }:=by
 have cl:∀ {x:Str}{c:Addr},(cellPairs X.env sc.names []).lookup x=some c→X.env.cells.lookup x=some c:=fun {x c} e=>by
  rcases cellPairs_get e with q | ⟨q,e'⟩
  ·cases q
  ·obtain ⟨c',hc⟩:=I.ok.has x (S.free x (List.mem_map.mpr ⟨(x,.free),List.mem_filter.mpr ⟨q,rfl⟩,rfl⟩))
   rw [hc] at e' ⊢
   rw [e'];rfl
 have bsz:X.base.objs.size≤s3.heap.objs.size:=Nat.le_trans I.ok.bsz I.sz
 have lk:∀ {x:Str},sc.names.lookup x=some .free→(relabel sc X.env).names.lookup x=some .cell∨(relabel sc X.env).names.lookup x=some .free:=fun {x} e=>by
  have key:∀ (l:List (Str×NameKind)),l.lookup x=some .free→(l.map fun (n,k)=>if (k == NameKind.free&&X.env.scope.kind == .function&&X.env.kindOf n == some .cell) then (n,NameKind.cell) else (n,k)).lookup x=some .cell ∨
    (l.map fun (n,k)=>if (k == NameKind.free&&X.env.scope.kind == .function&&X.env.kindOf n == some .cell) then (n,NameKind.cell) else (n,k)).lookup x=some .free:=by
   intro l
   induction l with
   | nil=>intro e;cases e
   | cons p r ih=>
    obtain ⟨n,k⟩:=p
    intro e
    rw [List.lookup_cons] at e
    rw [List.map_cons]
    by_cases hx:(x == n)=true
    ·rw [hx] at e
     have e':k=.free:=Option.some.inj e
     subst e'
     dsimp only
     split
     ·left;rw [List.lookup_cons,hx]
     ·right;rw [List.lookup_cons,hx]
    ·rw [Bool.not_eq_true] at hx
     rw [hx] at e
     dsimp only
     split <;> (rw [List.lookup_cons,hx];exact ih e)
  exact key sc.names e
 have kf:∀ {x:Str},((relabel sc X.env).names.lookup x=some .cell∨(relabel sc X.env).names.lookup x=some .free)→(x,NameKind.free)∈sc.names:=fun {x} e=>by
  have key:∀ (l:List (Str×NameKind)),(∀ y∈l,y.2≠.cell)→((l.map fun (n,k)=>if (k == NameKind.free&&X.env.scope.kind == .function&&X.env.kindOf n == some .cell) then (n,NameKind.cell) else (n,k)).lookup x=some .cell ∨
    (l.map fun (n,k)=>if (k == NameKind.free&&X.env.scope.kind == .function&&X.env.kindOf n == some .cell) then (n,NameKind.cell) else (n,k)).lookup x=some .free)→(x,NameKind.free)∈l:=by
   intro l
   induction l with
   | nil=>intro _ e;rcases e with e | e <;> cases e
   | cons p r ih=>
    obtain ⟨n,k⟩:=p
    intro nc e
    rw [List.map_cons] at e
    by_cases hx:(x == n)=true
    ·have e0:=eq_of_beq hx
     subst e0
     have hkf:k=.free:=by
      dsimp only at e
      split at e
      ·rename_i hc
       have:=((Bool.and_eq_true _ _).mp ((Bool.and_eq_true _ _).mp hc).1).1
       cases k <;> first | rfl | exact absurd this (by decide)
      ·rw [List.lookup_cons,beq_self_eq_true] at e
       rcases e with e | e
       ·exact absurd (Option.some.inj e) (nc _ List.mem_cons_self)
       ·exact Option.some.inj e
     rw [hkf];exact List.mem_cons_self
    ·rw [Bool.not_eq_true] at hx
     refine List.mem_cons_of_mem _ (ih (fun y hy=>nc y (List.mem_cons_of_mem _ hy)) ?_)
     dsimp only at e
     split at e <;> (rw [List.lookup_cons,hx] at e;exact e)
  exact key sc.names S.nocell e
 refine ⟨⟨I.ok.mod,S.kind,I.ok.glob,I.ok.blt,Nat.le_refl _,fun x y c h1 h2=>I.ok.inj x y c (cl h1) (cl h2),fun x hx=>cellPairs_has (.inr (kf hx)),(fun x c h _=>by cases h),I.ok.hd,I.ok.frames,.inl rfl,fun b hb=>⟨Nat.ne_of_lt (hlt b hb),fun x c e=>(hf b hb).2.2.2.2.1 x c (cl e)⟩,
   I.bs,bsz,fun b o e hb=>?_,fun b hb hb'=>?_,I.stack,I.stkFree⟩,
  rfl,I.bare,Un.kept hk,⟨_,hn,fun i x v h1 h2 h3=>?_⟩,fun x c e=>?_,I.hok.fresh (Nat.le_refl _),fun x c e=>I.freeC x c (cl e),fun p hp=>absurd (show p∈([]:List (Addr×Obj)) from hp) (by simp),I.hok.kept hk,?_⟩
 ·rcases (hf b hb).2.2.2.1 with z | z
  ·exact I.ok.noex b o e z
  ·exact absurd (Nat.lt_of_lt_of_le (Heap.lt_size e) (Nat.le_trans I.ok.bsz z)) (Nat.lt_irrefl _)
 ·rcases List.mem_cons.mp (I.stkSub b hb') with z | z
  ·exact (hf b hb).2.1 z
  ·exact (hf b hb).2.2.1 z
 ·have hlen:=capOk_len S.cap
  have hi:i < js.length:=by rw [hlen];exact (List.getElem?_eq_some_iff.mp h1).1
  unfold iniC at h2
  rw [List.getElem?_map,List.getElem?_eq_getElem hi,Option.map_some] at h2
  cases hj:js[i] with
  | none=>rw [hj] at h2;cases h2
  | some j=>
   rw [hj] at h2
   have h2':(σ[j]?).join=some v:=Option.some.inj h2
   obtain ⟨a,b⟩:=capOk_at S.cap h1 (by rw [List.getElem?_eq_getElem hi,hj])
   have hs:σ[j]? = some (some v):=by
    cases q:σ[j]? with
    | none=>rw [q] at h2';cases h2'
    | some z=>rw [q] at h2';rw [show z=some v from h2']
   have hfr:=S.free x (List.mem_map.mpr ⟨(x,.free),List.mem_filter.mpr ⟨PySem.mem_of_lookup b,rfl⟩,rfl⟩)
   obtain ⟨m,hm,hl⟩:=I.loc
   obtain ⟨u,ru,l⟩:=hl j x v a hs (hfr.elim (fun z=>.inr (.inl z)) fun z=>.inr (.inr z))
   refine ⟨u,ru,.inr ⟨lk b,?_⟩⟩
   rcases l with ⟨k,_⟩ | ⟨_,c,e,hc⟩
   ·rcases hfr with z | z <;> (rw [z] at k;cases k)
   ·obtain ⟨c',hc'⟩:=cellPairs_has (env:=X.env) (l:=sc.names) (cs:=[]) (x:=x) (.inr (PySem.mem_of_lookup b))
    have e':=cl hc'
    rw [e] at e'
    have e2:c=c':=Option.some.inj e'
    subst e2
    obtain ⟨o,ho,hd⟩:=hc
    exact ⟨c,hc',o,hk _ _ ho,hd⟩
 ·obtain ⟨v,o,ho,hd⟩:=I.cell x c (cl e)
  exact ⟨v,o,hk _ _ ho,hd⟩
 ·unfold iniC
  rw [List.length_map]
  exact capOk_len S.cap
theorem Inv.uncomp {pins pins':List (Addr×Obj)}{σ σ':St}{H3 H':Hp}{s3 s':Shared}{M:List Str}{sc:Scope}{fp:List Addr}{h':Heap} (I:Inv X pins σ H3 s3) (hf:∀ b∈fp,FpOk X pins H3 b)
  (J:Inv (cxComp X M sc s3 H3 fp) pins' σ' H' s') (hs:Heap.SameBut s3.heap.objs.size s'.heap h'):Inv X pins σ H' { s' with heap:=h' }:=by
 have B:Un (frs X.stack) fp H3 H' s3.heap s'.heap:=J.base
 have ne:∀ {b:Addr}{o:Obj},s3.heap.get? b=some o→b≠s3.heap.objs.size:=fun e=>Nat.ne_of_lt (Heap.lt_size e)
 have B':Un (frs X.stack) fp H3 H' s3.heap h':=⟨fun b o e n hb hx=>(hs.2 b (ne e)).trans (B.keep b o e n hb hx),fun b o e n hb hx=>let ⟨sl,q⟩:=B.slot b o e n hb hx;⟨sl,(hs.2 b (ne e)).trans q⟩,B.free,
  fun b o e hx=>let ⟨o',q⟩:=B.there b o e hx;⟨o',(hs.2 b (ne e)).trans q⟩,B.tups,B.frzs,B.tbls⟩
 have fr:H' s3.heap.objs.size=none:=J.free
 refine I.call' (s':={ s' with heap:=h' }) (ch:=fp) J.os B' (fun b u e=>?_) J.bare fun b hb=>⟨(hf b hb).2.2.2.1,(hf b hb).2.1,(hf b hb).2.2.2.2.1,(hf b hb).2.2.2.2.2⟩
 refine (J.hok b u e).stay (fun c v hc q=>(hs.2 c ?_).trans q) (fun _ q=>q) fun _ _ q=>q
 rintro rfl
 rcases hc with rfl | hc
 ·rw [fr] at e;cases e
 ·rw [fr] at hc;cases hc
theorem comp_block {tg iter elt:Expr}{ifs:List Expr}{sc:Scope}{pos:Pos}{M:List Str}{js:List (Option Nat)}{g:TG}{tt:TT}{te:TE}{pins:List (Addr×Obj)}{σ:St}{H2:Hp}{s2:Shared}{it:Addr}{fp:List Addr}
  {tn:Nat→Heap→Prop}{J:It}{Q:VK}{RR:Value→Addr→Result→Shared→Prop} (S:CompScope X M js sc) (hc:X.calm=true) (I2:Inv X pins σ H2 s2) (T:Turn X.prog X.w X.K tg J fp it tn) (st:tn 0 s2.heap) (hf:∀ b∈fp,FpOk X pins H2 b)
  (hb:∀ s3 H3 fp,PG (cxComp X M sc s3 H3 fp) tg g∧PTs (cxComp X M sc s3 H3 fp) ifs tt∧PE (cxComp X M sc s3 H3 fp) elt te)
  (h:∀ D,H2 D=none→∃ W:Nat→Nat→St→Hp→Prop,(∃ m,W 0 m (iniC js σ) (upd H2 D (.lst [])))∧∀ i m σ' H',W i m σ' H' →
   (J.stop i H'∧Q (.ref D) H')∨(J.go i H'∧∀ x H2,J.yld i H' x H2→g x σ' H2 fun σ3 H3=>tt σ3 H3 fun b H4=>
    if b=true then te σ3 H4 fun y H5=>∃ xs,H5 D=some (.lst xs)∧xs.length < sizeLine∧∃ m',m' < m∧W (i + 1) m' σ3 (upd H5 D (.lst (xs++[y])))
    else ∃ m',m' < m∧W (i + 1) m' σ3 H4))
  (hR:∀ D s3 H3 s' σ' H',Inv X pins σ H3 s3→(∀ b∈fp,FpOk X pins H3 b)→Inv (cxComp X M sc s3 H3 fp) [] σ' H' s'→Q (.ref D) H'→RR (.ref D) s3.heap.objs.size (.ok .next) s') :
  wpAny (model X.prog X.w) X.A (newList []) (fun acc s₃=>wpAny (model X.prog X.w) X.A (newFunctionEnv sc X.env.globals (cellPairs X.env sc.names []) [] X.env.qual none .none (some X.env)) (fun cenv s₄=>
   codeAny (model X.prog X.w) X.A (.compStart (.ListComp elt [⟨tg,iter,ifs,0⟩] sc pos) 0 (.ref it) acc { cenv with scope:=relabel sc X.env }) (RR acc cenv.locals) s₄) X.xe s₃) X.xe s2:=by
 have fresh2:H2 s2.heap.objs.size=none:=I2.hok.fresh (Nat.le_refl _)
 obtain ⟨W,⟨m0,w0⟩,turn⟩:=h _ fresh2
 have I3:Inv X pins σ (upd H2 s2.heap.objs.size (.lst [])) { s2 with heap:=s2.heap.push { cls:=.type "list",data:=.seq ([]:List Value).toArray } }:=
  I2.laid (t':=s2.toks) (fun _ _ q=>Heap.get?_push_of_some _ q) (Nat.le_refl _) ⟨Nat.zero_le _,[],0,.nil,Heap.get?_push_size _ rfl⟩
 have fpl:∀ b∈fp,b < s2.heap.objs.size:=fun b hb=>let ⟨_,e,_⟩:=T.obj _ _ st b hb;Heap.lt_size e
 have hf3:∀ b∈fp,FpOk X pins (upd H2 s2.heap.objs.size (.lst [])) b:=fun b hb=>⟨by rw [upd_ne (Nat.ne_of_lt (fpl b hb))];exact (hf b hb).1,(hf b hb).2⟩
 have hsz:(s2.heap.push { cls:=.type "list",data:=.seq ([]:List Value).toArray }).objs.size=s2.heap.objs.size + 1:=Heap.size_push ..
 refine wpAny_newObj_type (wpAny_newFunctionEnv S.nocell (fun y hy=>nomatch hy) (fun h1 hn1 hs1=>?_) S.kind)
 generalize hs3:({ s2 with heap:=s2.heap.push { cls:=.type "list",dict:=none,data:=.seq ([]:List Value).toArray } }:Shared)=s3 at *
 have hk1:∀ b o,s3.heap.get? b=some o→h1.get? b=some o:=fun b o e=>(hs1.2 b (Nat.ne_of_lt (Heap.lt_size e))).trans (Heap.get?_push_of_some _ e)
 have lt3:∀ b∈fp,b < s3.heap.objs.size:=fun b hb=>by rw [← hs3];show b < (s2.heap.push _).objs.size;rw [hsz];exact Nat.lt_succ_of_lt (fpl b hb)
 have I4:Inv (cxComp X M sc s3 (upd H2 s2.heap.objs.size (.lst [])) fp) [] (iniC js σ) (upd H2 s2.heap.objs.size (.lst [])) { s3 with heap:=h1,toks:=s3.toks + ([]:List (Str×Value)).length }:=I3.comp S hf3 lt3 hn1 hk1
 obtain ⟨hg,ht,he⟩:=hb s3 (upd H2 s2.heap.objs.size (.lst [])) fp
 have stat:∀ {H':Hp},(∀ b∈fp,H' b=none)→∀ b∈fp,FpOk (cxComp X M sc s3 (upd H2 s2.heap.objs.size (.lst [])) fp) [] H' b:=fun {H'} hn b hb=>
  ⟨hn b hb,Nat.ne_of_lt (lt3 b hb),I4.ok.exfs b hb,.inl hb,(I4.ok.exf b hb).2,fun p hp=>absurd (show p∈([]:List (Addr×Obj)) from hp) (by simp)⟩
 have st4:tn 0 h1:=T.keep _ _ _ st fun b hb o e=>hk1 b o (by rw [← hs3];exact Heap.get?_push_of_some _ e)
 have fr4:∀ b∈fp,upd H2 s2.heap.objs.size (.lst []) b=none:=fun b hb=>(hf3 b hb).1
 have loop:codeAny (model X.prog X.w) X.A (.compLoop (.ListComp elt [⟨tg,iter,ifs,0⟩] sc pos) 0 (.ref it) (.ref s2.heap.objs.size) (compEnvC sc (cellPairs X.env sc.names []) s3.heap.objs.size X.env)) (RR (.ref s2.heap.objs.size) s3.heap.objs.size)
   { s3 with heap:=h1,toks:=s3.toks + ([]:List (Str×Value)).length }:=by
  refine comp_loop (fun n s'=>∃ i σ' H',Inv (cxComp X M sc s3 (upd H2 s2.heap.objs.size (.lst [])) fp) [] σ' H' s'∧tn i s'.heap∧(∀ b∈fp,H' b=none)∧W i n σ' H') ?_ m0 ⟨0,_,_,I4,st4,fr4,w0⟩
  rintro n s5 ⟨i,σ5,H5,I5,st5,fr5,w5⟩
  rcases turn i n σ5 H5 w5 with ⟨stop,q⟩ | ⟨go,step⟩
  ·refine thn (T.done (cxComp X M sc s3 (upd H2 s2.heap.objs.size (.lst [])) fp) rfl rfl rfl hc i [] s5 σ5 H5 _ I5 (stat fr5) st5 stop) fun r s6 ⟨hr,I6⟩=>?_
   subst hr
   exact hR _ _ _ _ _ _ I3 hf3 I6 q
  ·refine thn (T.item (cxComp X M sc s3 (upd H2 s2.heap.objs.size (.lst [])) fp) rfl rfl rfl hc i [] s5 σ5 H5 _ I5 (stat fr5) st5 go) fun r s6 ⟨u,hr,h6⟩=>?_
   subst hr
   refine thn h6 fun _ s7 ⟨x,H7,I7,r7,y7,st7,fr7⟩=>?_
   have I7':=I7.pinned (stat fr7) (T.obj _ _ st7)
   have back:∀ {σ8:St}{H8:Hp}{s8:Shared},Inv (cxComp X M sc s3 (upd H2 s2.heap.objs.size (.lst [])) fp) ([]++pinsAt fp s7.heap) σ8 H8 s8→tn (i + 1) s8.heap∧(∀ b∈fp,H8 b=none):=fun {σ8 H8 s8} I8=>
    ⟨T.keep _ _ _ st7 fun b hb o e=>(I8.pin (b,o) (List.mem_append_right _ (List.mem_append_right _ (mem_pinsAt hb e)))).1,fun b hb=>by
     obtain ⟨o,e,_⟩:=T.obj _ _ st7 b hb
     exact (I8.pin (b,o) (List.mem_append_right _ (List.mem_append_right _ (mem_pinsAt hb e)))).2.1⟩
   refine thn (hg _ s7 σ5 H7 x u _ I7' r7 (step x H7 y7)) fun _ s8 ⟨σ8,H8,I8,q8⟩=>?_
   refine thn (ht _ s8 σ8 H8 _ I8 q8) fun ok s9 ⟨H9,I9,q9⟩=>?_
   cases ok with
   | false=>
    rw [if_neg Bool.false_ne_true] at q9 ⊢
    obtain ⟨m',hm,w9⟩:=q9
    obtain ⟨a9,b9⟩:=back I9
    exact ⟨m',hm,i + 1,σ8,H9,I9.unpinned,a9,b9,w9⟩
   | true=>
    rw [if_pos rfl] at q9 ⊢
    refine thn (he _ s9 σ8 H9 _ I9 q9) fun y s10 ⟨yv,H10,I10,r10,xs,hD,hz,m',hm,w10⟩=>?_
    refine thn (mt_append _ s10 σ8 H10 (.ref s2.heap.objs.size) [yv] (.ref s2.heap.objs.size) [y] (fun v H11=>v=.non∧H11=upd H10 s2.heap.objs.size (.lst (xs++[yv]))) I10 rfl (.cons r10 .nil) ⟨_,xs,yv,rfl,rfl,hD,hz,rfl,rfl⟩) fun _ s11 ⟨v11,H11,I11,_,_,e11⟩=>?_
    subst e11
    obtain ⟨a9,b9⟩:=back I11
    exact ⟨m',hm,i + 1,σ8,_,I11.unpinned,a9,b9,w10⟩
 exact codeAny_compStart_list loop (T.self _ 0 _ _ _ st4 loop)
theorem pe_comp {tg iter elt:Expr}{ifs:List Expr}{sc:Scope}{pos:Pos}{M:List Str}{js:List (Option Nat)}{wi:TI}{g:TG}{tt:TT}{te:TE} (S:CompScope X M js sc) (hc:X.calm=true) (hi:PI X tg iter wi)
  (hb:∀ s3 H3 fp,PG (cxComp X M sc s3 H3 fp) tg g∧PTs (cxComp X M sc s3 H3 fp) ifs tt∧PE (cxComp X M sc s3 H3 fp) elt te) (hs:∀ x,foldedSetIterable iter X.env x=pure x:=by intro _;rfl) :
  PE X (.ListComp elt [⟨tg,iter,ifs,0⟩] sc pos) (tComp wi js g tt te):=by
 intro pins s σ H Q I h
 rw [eval_ListComp]
 refine wpAny_comprehension_free (use:=none) rfl hs (clos_of fun x hx=>I.ok.has x (S.free x hx)) S.kind S.loc ?_
 show wpAny (model X.prog X.w) X.A (eval iter X.env) _ _ s
 refine thn (hi pins s σ H _ I h) fun v s1 h1=>thn h1 fun itv s2 ⟨it,fp,tn,J,H2,e,I2,T,st2,f2,h2⟩=>?_
 subst e
 refine comp_block (RR:=fun acc C=>compPost (model X.prog X.w) X.A X.xe none (EP X pins σ Q) acc C) S hc I2 T st2 f2 hb h2 fun D s3 H3 s' σ' H' I3 f3 J' q=>?_
 obtain ⟨m,hm,_⟩:=J'.loc
 exact ⟨m,hm,fun h' hs'=>⟨.ref D,H',I3.uncomp f3 J' hs',rfl,q⟩⟩
end
theorem len_dict_special:typeLookup (.type "dict") "__len__"=pure (some (.builtin "dict.__len__")):=by rw [typeLookup_type,builtinLookup_eq_fast];kernel_rfl
section
variable {prog:Program}{w:World}{A:Around}{E:Value→Shared→Prop}{s:Shared}
theorem collect_dict {κ:Type} [DecidableEq κ] {knd:KeyKind prog w κ}{d:Addr}{kvs:List (κ×Value)}{Q:List Value→Shared→Prop} (hh:A.handled=none) (hd:(d == sysModules)=false) (hm:s.heap.DictOf knd d kvs) (hz:kvs.length≤sizeLine)
  (hQ:∀ s' acc,s.heap.objs.size≤s'.heap.objs.size→(∀ b o,s.heap.get? b=some o→s'.heap.get? b=some o)→s'.gens=s.gens→s'.drawn=s.drawn→s'.os=s.os→ItemsOf (fun i v=>∃ k x,kvs[i]? = some (k,x)∧knd.is k v=true) acc kvs.length→Q acc.toList s') :
  wpAny (model prog w) A (collect (.ref d)) Q E s:=by
 obtain ⟨ep,hm⟩:=hm.dictAt
 have hlt:d < s.heap.objs.size:=hm.lt_size
 unfold collect
 refine wpAny_bind (wpAny_runValue (codeAny_builtin F.entry_proto_collect ?_))
 rw [Around.under_plainId F.plain_proto_collect _]
 show wpAny (model prog w) A.in1 (newList [] >>= fun l=>again (.builtin "list.__iadd__" ⟨[l,.ref d],[]⟩)) _ _ s
 refine wpAny_bind (wpAny_newObj_type ?_)
 refine wpAny_pure ⟨plainId_quiet F.plain_list_iadd _,codeAny_builtin F.entry_list_iadd ?_⟩
 rw [Around.under_plainId F.plain_list_iadd _]
 have hm1:=hm.push { cls:=.type "list",data:=.seq ([]:List Value).toArray }
 have hT1:({ s with heap:=s.heap.push { cls:=.type "list",data:=.seq ([]:List Value).toArray } }:Shared).TypeIs (.ref d) "dict":=hm1.dictOf.typeIs
 show wpAny (model prog w) A.in1 (Builtin.List.listExtendWith (.ref s.heap.objs.size) (.ref d) (.ref s.heap.objs.size)) _ _ _
 unfold Builtin.List.listExtendWith
 refine wpAny_bind (wpAny_typeOf hT1 ?_)
 have h1:Builtin.List.listSameRef (.ref s.heap.objs.size) (.ref d)=false:=by simp [Builtin.List.listSameRef,Nat.ne_of_gt hlt]
 have h2:(Value.type "dict" == Value.type "list")=false:=by decide
 have h3:(Value.type "dict" == Value.type "tuple")=false:=by decide
 simp only [h1,h2,h3,Bool.or_false,Bool.false_eq_true,if_false]
 refine wpAny_bind (wpAny_pyIter_dict hd hm1 ?_)
 refine wpAny_bind (wpAny_holding ?_)
 have hm2:=hm1.push { cls:=.type "dict_keyiterator",data:=.fields #[.ref d,.int 0 0,.int kvs.length 0,.int ep 0] }
 have hT2:({ s with heap:=(s.heap.push { cls:=.type "list",data:=.seq ([]:List Value).toArray }).push { cls:=.type "dict_keyiterator",data:=.fields #[.ref d,.int 0 0,.int kvs.length 0,.int ep 0] } }:Shared).TypeIs (.ref d) "dict":=hm2.dictOf.typeIs
 unfold Builtin.List.listLengthHint
 refine wpAny_bind (wpAny_specialOf hT2 len_dict_special ?_)
 generalize hid:("dict.__len__":String)=id0
 (fail_if_success (clear hid id0))
 wp_delta
 rw [show splitId id0=some ("dict","__len__") from by subst hid;decide +kernel]
 subst hid
 refine wpAny_bind (wpAny_isInstance (b:=true) hT2 (by rw [isSubtype_type];kernel_rfl) ?_)
 show wpAny (model prog w) A.in1 (typeOf (.ref d) >>= _) _ _ _
 refine wpAny_bind (wpAny_typeOf hT2 ?_)
 refine wpAny_pure ?_
 show wpAny (model prog w) A.in1 (rule "list.extend.makes-room" >>= fun _=>Builtin.List.listTouch (.ref s.heap.objs.size) >>= fun _=>again (.builtin "list.extend.loop" ⟨[.ref s.heap.objs.size,.ref _,.ref s.heap.objs.size],[]⟩)) _ _ _
 refine wpAny_bind (wpAny_rule ?_)
 have hsz:(s.heap.push { cls:=.type "list",data:=.seq ([]:List Value).toArray }).objs.size=s.heap.objs.size + 1:=Heap.size_push ..
 generalize hh1:s.heap.push { cls:=.type "list",data:=.seq ([]:List Value).toArray }=h1 at *
 have hS1:h1.get? s.heap.objs.size=some { cls:=.type "list",data:=.seq ([]:List Value).toArray }:=by rw [← hh1];exact Heap.get?_push_size _ rfl
 have old1:∀ b o,s.heap.get? b=some o→h1.get? b=some o:=fun b o e=>by rw [← hh1];exact Heap.get?_push_of_some _ e
 dsimp only
 have hI2:(h1.push { cls:=.type "dict_keyiterator",data:=.fields #[.ref d,.int 0 0,.int kvs.length 0,.int ep 0] }).get? h1.objs.size=some { cls:=.type "dict_keyiterator",data:=.fields #[.ref d,.int 0 0,.int kvs.length 0,.int ep 0] }:=Heap.get?_push_size _ rfl
 have hS2:(h1.push { cls:=.type "dict_keyiterator",data:=.fields #[.ref d,.int 0 0,.int kvs.length 0,.int ep 0] }).get? s.heap.objs.size=some { cls:=.type "list",data:=.seq ([]:List Value).toArray }:=Heap.get?_push_of_some _ hS1
 have old2:∀ b o,s.heap.get? b=some o→(h1.push { cls:=.type "dict_keyiterator",data:=.fields #[.ref d,.int 0 0,.int kvs.length 0,.int ep 0] }).get? b=some o:=fun b o e=>Heap.get?_push_of_some _ (old1 b o e)
 generalize hh2:h1.push { cls:=.type "dict_keyiterator",data:=.fields #[.ref d,.int 0 0,.int kvs.length 0,.int ep 0] }=h2 at *
 have nSI:s.heap.objs.size≠h1.objs.size:=by rw [hsz];exact Nat.ne_of_lt (Nat.lt_succ_self _)
 have nSd:s.heap.objs.size≠d:=Nat.ne_of_gt hlt
 have ndI:d≠h1.objs.size:=by rw [hsz];exact Nat.ne_of_lt (Nat.lt_succ_of_lt hlt)
 refine wpAny_bind ?_
 show wpAny (model prog w) A.in1 (updateSeq s.heap.objs.size (·.push .none) >>= fun _=>updateSeq s.heap.objs.size (·.pop)) _ _ _
 refine wpAny_bind (wpAny_updateSeq hS2 rfl ?_)
 have hS3:=Heap.get?_update_self (Obj.mapSeq (·.push Value.none)) hS2 rfl
 refine wpAny_updateSeq hS3 rfl ?_
 have hS4:=Heap.get?_update_self (Obj.mapSeq (·.pop)) hS3 rfl
 have oth:∀ b o,b≠s.heap.objs.size→h2.get? b=some o→((h2.update s.heap.objs.size (Obj.mapSeq (·.push Value.none))).update s.heap.objs.size (Obj.mapSeq (·.pop))).get? b=some o:=
  fun b o hb e=>(Heap.get?_update_other _ _ (Ne.symm hb)).trans ((Heap.get?_update_other _ _ (Ne.symm hb)).trans e)
 have W:=(Walks.dictKeys (prog:=prog) (w:=w) (A:=A.in1) (knd:=knd) hh h1.objs.size d ndI kvs ep).toS
 refine wpAny_pure ⟨plainId_quiet F.plain_extend_loop _,codeAny_extend_loopS W hz s.heap.objs.size (by simp;exact ⟨nSI,nSd⟩) _ kvs.length 0 _ _ _ rfl (Nat.zero_le _) ?_ hS4 (ItemsOf.nil _) fun s' acc' c' hmv hS' hacc=>?_⟩
 ·exact ⟨⟨_,oth _ _ (Ne.symm nSI) hI2,rfl,rfl⟩,hm2.at' fun o e=>oth _ _ (Ne.symm nSd) e⟩
 ·show wpAny (model prog w) A (load s.heap.objs.size >>= _) _ _ s'
  refine wpAny_bind (wpAny_load hS' ?_)
  refine wpAny_pure (hQ s' acc' (Nat.le_of_lt (Heap.lt_size hS')) (fun b o e=>?_) hmv.gens hmv.drawn hmv.os hacc)
  have hb:b < s.heap.objs.size:=Heap.lt_size e
  refine hmv.heap b o ?_ (oth b o (Nat.ne_of_lt hb) (old2 b o e))
  intro m
  rcases List.mem_cons.mp m with z | z
  ·exact absurd hb (by rw [z];exact Nat.lt_irrefl _)
  ·have z:=List.mem_singleton.mp z
   rw [hsz] at z
   exact absurd hb (by rw [z];exact Nat.not_lt.mpr (Nat.le_succ _))
theorem sorted_by {x:Value}{Q:Value→Shared→Prop} (hc:∀ (Q':List Value→Shared→Prop),(∀ vs s',(∃ ns,IntsAre vs ns∧∀ (out:Array Value) (ns':List Int),IntsAre out.toList ns'→ns'.Perm ns→ns'.Pairwise (·≤·) →
    Q (.ref s'.heap.objs.size) { s' with heap:=sortedHeap (s'.heap.push (seqObj "list" vs.toArray 0)) s'.heap.objs.size vs out })∧vs.length < 64→Q' vs s')→wpAny (model prog w) A.in1 (collect x) Q' E s):wpAny (model prog w) A (call (.builtin "sorted") [x]) Q E s:=by
 refine call_function_tree kind_sorted plain_sorted entry_sorted (args_sorted1 _) ?_
 unfold Builtin.«sorted»
 refine wpAny_bind (m:=checkCount "sorted" 1 1 _) (wpAny_pure ?_)
 refine wpAny_bind (hc _ fun vs s' ⟨⟨ns,hI,h⟩,h64⟩=>?_)
 refine wpAny_bind (wpAny_newList ?_)
 have hoL:(s'.heap.push (seqObj "list" vs.toArray 0)).get? s'.heap.objs.size=some (seqObj "list" vs.toArray 0):=Heap.get?_push_size _ rfl
 show wpAny _ _ _ _ _ { s' with heap:=s'.heap.push (seqObj "list" vs.toArray 0) }
 refine wpAny_bind (wpAny_holding (wpAny_call_entry slot_list_sort ⟨_,hoL,rfl⟩ entry_list_sort (list_sort_tree hoL hI h64 fun out ns' a1 a2 a3=>⟨_,rfl,?_⟩) (args_list_sort _)))
 exact wpAny_pure (h out ns' a1 a2 a3)
end
section
variable {X:Cx}
theorem ints_keys {P:Program}{w:World}:∀ {ks:List Int}{kvs:List (Key×Value)}{vs:List Value},kvs.map (·.1)=ks.map Sum.inl→vs.length=kvs.length→(∀ (i:Nat) v,vs[i]? = some v→∃ k x,kvs[i]? = some (k,x)∧(mixKind P w).is k v=true)→IntsAre vs ks
 | [],[],vs,_,hl,_=>by cases vs with
  | nil=>exact .nil
  | cons _ _=>simp at hl
 | [],_::_,_,e,_,_=>by simp at e
 | _::_,[],_,e,_,_=>by simp at e
 | k::ks,(q,x)::kvs,vs,e,hl,h=>by
  simp only [List.map_cons,List.cons.injEq] at e
  obtain ⟨rfl,e⟩:=e
  cases vs with
  | nil=>simp at hl
  | cons v vs=>
   obtain ⟨k',x',e0,hk⟩:=h 0 v rfl
   have e0':(Sum.inl k,x)=(k',x'):=Option.some.inj e0
   cases e0'
   rcases keyIs_shape (show keyIs (Sum.inl k) v=true from hk) with ⟨i,t,e1,e2⟩ | ⟨y,t,e1,e2⟩
   ·cases e1
    subst e2
    exact .cons k t (ints_keys e (by simpa using hl) fun i v hv=>h (i + 1) v (by simpa using hv))
   ·cases e1
def rSorted (K:PySem.W.Frag):List V→Hp→VK→Prop:=fun xs H Q=>∃ (p:Addr) (ks:List Int),xs=[.ref p]∧ks.length < 64∧((∃ kvs:List (Key×V),H p=some (.dK kvs)∧kvs.map (·.1)=ks.map Sum.inl)∨SqL K H p (ks.map V.int)) ∧
 ∀ (l:Addr) (ks':List Int),H l=none→ks'.Perm ks→ks'.Pairwise (·≤·)→Q (.ref l) (upd H l (.lst (ks'.map V.int)))
theorem call_sorted (hc:X.calm=true):CallR X (.builtin "sorted") (rSorted X.K):=by
 intro pins s σ H xs us Q I r h
 obtain ⟨p,ks,rfl,h64,hsrc,q⟩:=h
 obtain ⟨u,rfl,ru⟩:=vals1 r
 cases ru
 have fin:∀ (vs:List Value) (s':Shared),s.heap.objs.size≤s'.heap.objs.size→(∀ b o,s.heap.get? b=some o→s'.heap.get? b=some o)→s'.gens=s.gens→s'.drawn=s.drawn→s'.os=s.os→∀ (out:Array Value) (ns':List Int),IntsAre out.toList ns'→ns'.Perm ks→ns'.Pairwise (·≤·) →
   EP X pins σ Q (.ref s'.heap.objs.size) { s' with heap:=sortedHeap (s'.heap.push (seqObj "list" vs.toArray 0)) s'.heap.objs.size vs out }:=by
  intro vs s' hle hk e1 e2 e3 out ns' a1 a2 a3
  obtain ⟨h',g',d',t',o'⟩:=s'
  dsimp only at e1 e2 e3 hk hle
  subst e1 e2 e3
  obtain ⟨e,he⟩:=sortedHeap_at (vs:=vs) (n:=0) (out:=out) (show (h'.push (seqObj "list" vs.toArray 0)).get? h'.objs.size=some (seqObj "list" vs.toArray 0) from Heap.get?_push_size _ rfl)
  have hlen:ns'.length < 64:=by rw [a2.length_eq];exact h64
  refine ⟨.ref h'.objs.size,upd H h'.objs.size (.lst (ns'.map V.int)),I.laid (t':=t') (fun b o eb=>?_) hle ?_,rfl,q _ ns' (I.hok.fresh hle) a2 a3⟩
  ·have hb:b < h'.objs.size:=Heap.lt_size (hk b o eb)
   rw [sortedHeap_old (Nat.ne_of_lt hb) (by rw [Heap.size_push];exact Nat.lt_succ_of_lt hb)]
   exact Heap.get?_push_of_some _ (hk b o eb)
  ·exact ⟨by rw [List.length_map];exact Nat.le_of_lt (small1000 (by omega)),out.toList,e,vals_ints a1,by rw [he]⟩
 have hh:X.A.handled=none:=I.ok.hd hc
 refine sorted_by fun Q' hQ'=>?_
 rcases hsrc with ⟨kvs,hp,hk⟩ | hp
 ·obtain ⟨hz,hd,vs,rel,dd⟩:=dk_of I.hok hp
  refine collect_dict (A:=X.A.in1) hh hd dd (by rw [← rel.length];exact hz) fun s' acc hle kp e1 e2 e3 it=>hQ' _ s' ⟨⟨ks,?_,fun out ns' a1 a2 a3=>fin _ s' hle kp e1 e2 e3 out ns' a1 a2 a3⟩,?_⟩
  ·refine ints_keys (P:=X.prog) (w:=X.w) (kvs:=vs) (by rw [← rel.keys];exact hk) (by rw [Array.length_toList];exact it.1) fun i v hv=>it.2 i v (by rw [← Array.getElem?_toList];exact hv)
  ·rw [Array.length_toList,it.1,← rel.length]
   have:=congrArg List.length hk
   rw [List.length_map,List.length_map] at this
   omega
 ·obtain ⟨its,rv,pl,hz⟩:=I.list hp
  have hi:=intsAre_of rv
  have k1:s.heap.objs.size≤((s.heap.push (seqObj "list" #[] 0)).update s.heap.objs.size (Obj.mapSeq (·++its.toArray))).objs.size:=by
   rw [Heap.size_update,Heap.size_push];exact Nat.le_succ _
  have k2:∀ b o,s.heap.get? b=some o→((s.heap.push (seqObj "list" #[] 0)).update s.heap.objs.size (Obj.mapSeq (·++its.toArray))).get? b=some o:=fun b o e=>
   (Heap.get?_update_other _ _ (Nat.ne_of_gt (Heap.lt_size e))).trans (Heap.get?_push_of_some _ e)
  refine collect_list pl.isList (hQ' _ _ ⟨⟨ks,hi,fun out ns' a1 a2 a3=>fin its { s with heap:=(s.heap.push (seqObj "list" #[] 0)).update s.heap.objs.size (Obj.mapSeq (·++its.toArray)) } k1 k2 rfl rfl rfl out ns' a1 a2 a3⟩,?_⟩) (by rw [← rv.length];exact hz)
  rw [← rv.length,List.length_map];exact h64
end
theorem argsMinD (a d:Value):argsOk "min" ⟨[a],[("default",d)]⟩:=by unfold argsOk;kernel_rfl
section
variable {prog:Program}{w:World}{A:Around}{R:Result→Shared→Prop}{it:Addr}{fps wrs:List Addr}{n:Nat}{P:Nat→Value→Prop}{T:Nat→Heap→Prop}
theorem nameMin:(toString "min"++toString ".loop":String)="min.loop":=by decide
theorem minD_loop (W:Walks prog w A.in1 it fps wrs n P T) (bt:Nat→Nat→Bool) (hcmp:CmpOf prog w A.in1 .Lt P bt) (kw:List (Str×Value)) (B:Addr) (hB:B∉fps) :
  ∀ (k j:Nat) (s:Shared) (vb:Value) (c:Nat),n - (j + 1)=k→j + 1≤n→T (j + 1) s.heap→P (argBest bt j) vb→s.heap.get? B=some { cls:=.type "list",dict:=none,data:=.seq #[vb,vb] c,slots:=#[] } →
   (∀ v h' tk,P (argBest bt (n - 1)) v→(∀ b o,b∉wrs→b≠B→s.heap.get? b=some o→h'.get? b=some o)→R (.ok (.ret v)) { s with heap:=h',toks:=tk }) →
   codeAny (model prog w) A (.builtin "min.loop" ⟨[.ref it,.none,.ref B],kw⟩) R s:=by
 have nB:B∉wrs:=fun m=>hB (W.sub _ m)
 intro k
 induction k with
 | zero=>
  intro j s vb c e1 e2 st pb gB fin
  have en:j + 1=n:=by omega
  refine codeAny_builtin F.entry_min_loop ?_
  rw [Around.under_plainId F.plain_min_loop _]
  show wpAny (model prog w) A.in1 (seqItems? (.ref B) >>= _) _ _ s
  refine wpAny_bind (wpAny_seqItems gB rfl ?_)
  show wpAny (model prog w) A.in1 (tryCatch (pyNext (.ref it)) _ >>= _) _ _ s
  refine wpAny_bind (wpAny_tryCatch (W.done s _ _ (en ▸ st) fun h1 t1 kp=>?_))
  have gB1:=kp B _ nB gB
  show wpAny (model prog w) A.in1 (updateSeq B (fun _=>#[]) >>= _) _ _ _
  refine wpAny_bind (wpAny_updateSeq gB1 rfl (wpAny_bind (wpAny_letGo (wpAny_pure ?_))))
  exact fin vb _ t1 (by rw [← en];exact pb) fun b o m1 m2 e=>(Heap.get?_update_other _ _ (Ne.symm m2)).trans (kp b o m1 e)
 | succ k ih=>
  intro j s vb c e1 e2 st pb gB fin
  have lt:j + 1 < n:=by omega
  refine codeAny_builtin F.entry_min_loop ?_
  rw [Around.under_plainId F.plain_min_loop _]
  show wpAny (model prog w) A.in1 (seqItems? (.ref B) >>= _) _ _ s
  refine wpAny_bind (wpAny_seqItems gB rfl ?_)
  show wpAny (model prog w) A.in1 (tryCatch (pyNext (.ref it)) _ >>= _) _ _ s
  refine wpAny_bind (wpAny_tryCatch (W.item (j + 1) s _ _ lt st fun v h1 t1 pv st1 kp=>?_))
  have gB1:=kp B _ nB gB
  show wpAny (model prog w) A.in1 (tryCatch (holding [v,v] (richCompare .Lt v vb >>= _)) _ >>= _) _ _ _
  refine wpAny_bind (wpAny_tryCatch (wpAny_holding (wpAny_bind (hcmp (j + 1) (argBest bt j) v vb _ _ _ pv pb ?_))))
  refine wpAny_bind (wpAny_holding (wpAny_truthy_bool (wpAny_bind (wpAny_letGo (wpAny_pure ?_)))))
  cases hb:bt (j + 1) (argBest bt j) with
  | true=>
   simp only [if_true]
   refine wpAny_bind (wpAny_updateSeq gB1 rfl (wpAny_bind (wpAny_letGo ?_)))
   rw [nameMin]
   refine wpAny_pure ⟨plainId_quiet F.plain_min_loop _,ih (j + 1) _ v _ (by omega) lt (W.frame _ _ _ st1 fun b m o e=>(Heap.get?_update_other _ _ (fun z:B=b=>hB (by rw [z];exact m))).trans e)
    (by simp only [argBest,hb,if_true];exact pv) (Heap.get?_update_self _ gB1 rfl) fun v2 h2 t2 p2 k2=>?_⟩
   exact fin v2 h2 t2 p2 fun b o m1 m2 e=>k2 b o m1 m2 ((Heap.get?_update_other _ _ (Ne.symm m2)).trans (kp b o m1 e))
  | false=>
   simp only [Bool.false_eq_true,if_false]
   refine wpAny_bind (wpAny_letGo ?_)
   rw [nameMin]
   refine wpAny_pure ⟨plainId_quiet F.plain_min_loop _,ih (j + 1) _ vb c (by omega) lt st1 (by simp only [argBest,hb,Bool.false_eq_true,if_false];exact pb) gB1 fun v2 h2 t2 p2 k2=>?_⟩
   exact fin v2 h2 t2 p2 fun b o m1 m2 e=>k2 b o m1 m2 (kp b o m1 e)
theorem minD_first (W:Walks prog w A.in1 it fps wrs n P T) (bt:Nat→Nat→Bool) (hcmp:CmpOf prog w A.in1 .Lt P bt) (key:Str) (dv:Value) (B:Addr) (hB:B∉fps) {s:Shared}{c:Nat} (st:T 0 s.heap)
  (gB:s.heap.get? B=some { cls:=.type "list",dict:=none,data:=.seq #[] c,slots:=#[] })
  (fin:∀ v h' tk,(n=0∧v=dv∨0 < n∧P (argBest bt (n - 1)) v)→(∀ b o,b∉wrs→b≠B→s.heap.get? b=some o→h'.get? b=some o)→R (.ok (.ret v)) { s with heap:=h',toks:=tk }) :
  codeAny (model prog w) A (.builtin "min.loop" ⟨[.ref it,.none,.ref B],[(key,dv)]⟩) R s:=by
 have nB:B∉wrs:=fun m=>hB (W.sub _ m)
 refine codeAny_builtin F.entry_min_loop ?_
 rw [Around.under_plainId F.plain_min_loop _]
 show wpAny (model prog w) A.in1 (seqItems? (.ref B) >>= _) _ _ s
 refine wpAny_bind (wpAny_seqItems gB rfl ?_)
 show wpAny (model prog w) A.in1 (tryCatch (pyNext (.ref it)) _ >>= _) _ _ s
 by_cases hn:0 < n
 ·refine wpAny_bind (wpAny_tryCatch (W.item 0 s _ _ hn st fun v h1 t1 pv st1 kp=>?_))
  have gB1:=kp B _ nB gB
  show wpAny (model prog w) A.in1 (updateSeq B (fun _=>#[v,v]) >>= _) _ _ _
  refine wpAny_bind (wpAny_updateSeq gB1 rfl ?_)
  rw [nameMin]
  refine wpAny_pure ⟨plainId_quiet F.plain_min_loop _,minD_loop W bt hcmp _ B hB _ 0 _ v _ rfl hn (W.frame _ _ _ st1 fun b m o e=>(Heap.get?_update_other _ _ (fun z:B=b=>hB (by rw [z];exact m))).trans e) pv (Heap.get?_update_self _ gB1 rfl) fun v2 h2 t2 p2 k2=>?_⟩
  exact fin v2 h2 t2 (.inr ⟨hn,p2⟩) fun b o m1 m2 e=>k2 b o m1 m2 ((Heap.get?_update_other _ _ (Ne.symm m2)).trans (kp b o m1 e))
 ·have en:n=0:=by omega
  refine wpAny_bind (wpAny_tryCatch (W.done s _ _ (en ▸ st) fun h1 t1 kp=>?_))
  show wpAny (model prog w) A.in1 (rule _ >>= fun _=>ret dv) _ _ _
  exact wpAny_bind (wpAny_rule (wpAny_pure (fin dv h1 t1 (.inl ⟨en,rfl⟩) fun b o m1 _ e=>kp b o m1 e)))
end
section
variable {prog:Program}{w:World}{A:Around}{E:Value→Shared→Prop}{s:Shared}
theorem call_tree_kw {id:String}{b:Builtin}{args:List Value}{kw:List (Str×Value)}{Q:Value→Shared→Prop} (hk:builtinKind id=none) (hp:plainId id=true) (hb:entryFor table id=some b) (ha:argsOk id ⟨args,kw⟩)
  (hc:wpAny (model prog w) A.in1 (b ⟨args,kw⟩) (fun fin s'=>match fin with
   | .done f=>(match (Except.ok f:Result) with | .ok (.ret v)=>Q v s' | .ok _=>False | .error e=>E e s')
   | .again c=>c.quiet=true∧codeAny (model prog w) A c (fun r s'=>match r with | .ok (.ret v)=>Q v s' | .ok _=>False | .error e=>E e s') s') E s):wpAny (model prog w) A (call (.builtin id) args kw) Q E s:=by
 refine wpAny_call (codeAny_call_builtin hp hb ?_)
 simp only [checkBuiltinCall,hk]
 cases hsig:Manifest.signature? id with
 | none=>exact wpAny_pure hc
 | some sig=>
  have h2:Bind.checkArgs id sig ⟨args,kw⟩=pure ():=by simpa only [argsOk,hsig] using ha
  simp only [h2]
  exact wpAny_pure hc
theorem ints_at:∀ {vs:List Value}{ns:List Int}{i:Nat}{v:Value},IntsAre vs ns→vs[i]? = some v→∃ t,v=Value.int (ns.getD i 0) t
 | _,_,_,_,.nil,e=>by simp at e
 | _,_,0,_,.cons n t h,e=>by
  have e':=Option.some.inj e
  subst e'
  exact ⟨t,rfl⟩
 | _,_,i + 1,v,.cons n t h,e=>by
  obtain ⟨u,eu⟩:=ints_at (i:=i) (v:=v) h (by simpa using e)
  exact ⟨u,by simpa using eu⟩
theorem mem_getD' {ns:List Int}{i:Nat} (h:i < ns.length):ns.getD i 0∈ns:=by
 rw [List.getD_eq_getElem?_getD,List.getElem?_eq_getElem h]
 exact List.getElem_mem h
theorem minD_list {l:Addr}{vs:List Value}{ns:List Int}{dv:Value}{Q:Value→Shared→Prop} (hh:A.handled=none) (hl:s.heap.IsList l vs.toArray) (hi:IntsAre vs ns)
  (fin:∀ v h' tk,(ns=[]∧v=dv∨∃ m t,v=.int m t∧m∈ns∧∀ x∈ns,m≤x)→(∀ b o,s.heap.get? b=some o→h'.get? b=some o)→Q v { s with heap:=h',toks:=tk }) :
  wpAny (model prog w) A (call (.builtin "min") [.ref l] [("default",dv)]) Q E s:=by
 refine call_tree_kw F.kind_min F.plain_min F.entry_min (argsMinD _ _) ?_
 show wpAny (model prog w) A.in1 (Builtin.Builtins.bindParams "min" ["key","default"] 0 ⟨[],[("default",dv)]⟩ >>= _) _ _ s
 refine wpAny_bind (wpAny_of_eq (show Builtin.Builtins.bindParams "min" ["key","default"] 0 ⟨[],[("default",dv)]⟩=pure [none,some dv] from rfl) ?_)
 refine wpAny_bind (wpAny_pure (wpAny_bind (wpAny_pyIter_list hl ?_)))
 refine wpAny_bind (wpAny_newObj_type ?_)
 rw [nameMin]
 have hls:l < s.heap.objs.size:=let ⟨_,ho,_⟩:=hl;Heap.lt_size ho
 have hsz:(s.heap.push { cls:=.type "list_iterator",data:=.fields #[.ref l,.int 0 0] }).objs.size=s.heap.objs.size + 1:=Heap.size_push ..
 have hv:∀ (i:Nat) (v:Value),vs.toArray[i]? = some v→∃ t,v=Value.int (ns.getD i 0) t:=fun i v e=>ints_at hi (by simpa using e)
 have hlen:vs.length=ns.length:=hi.length
 generalize hh1:s.heap.push { cls:=.type "list_iterator",data:=.fields #[.ref l,.int 0 0] }=h1 at *
 have g1:h1.get? s.heap.objs.size=some { cls:=.type "list_iterator",data:=.fields #[.ref l,.int 0 0] }:=by rw [← hh1];exact Heap.get?_push_size _ rfl
 have old:∀ b o,s.heap.get? b=some o→h1.get? b=some o:=fun b o e=>by rw [← hh1];exact Heap.get?_push_of_some _ e
 have nl:l≠s.heap.objs.size:=Nat.ne_of_lt hls
 have W:=Walks.list (prog:=prog) (w:=w) (A:=A.in1.in1) hh s.heap.objs.size l nl vs.toArray
 have hB:h1.objs.size∉[s.heap.objs.size,l]:=by
  intro m
  rcases List.mem_cons.mp m with z | z
  ·rw [hsz] at z;exact absurd z (Nat.ne_of_gt (Nat.lt_succ_self _))
  ·have z:=List.mem_singleton.mp z
   rw [hsz] at z
   exact absurd z (Nat.ne_of_gt (Nat.lt_succ_of_lt hls))
 refine wpAny_pure ⟨plainId_quiet F.plain_min_loop _,minD_first W.of_in1 (fun i j=>decide (ns.getD i 0 < ns.getD j 0)) (CmpOf.ints_lt (fun i=>ns.getD i 0) hv) _ dv h1.objs.size hB (c:=0) ?_ (Heap.get?_push_size _ rfl) fun v h' tk hres kp=>?_⟩
 ·exact ⟨⟨_,Heap.get?_push_of_some _ g1,rfl,rfl⟩,hl.at fun o e=>Heap.get?_push_of_some _ (old l o e)⟩
 ·refine fin v h' tk ?_ fun b o e=>kp b o ?_ ?_ (Heap.get?_push_of_some _ (old b o e))
  ·have hs2:vs.toArray.size=ns.length:=by rw [List.size_toArray,hlen]
   rw [hs2] at hres
   rcases hres with ⟨h0,e⟩ | ⟨h0,pv⟩
   ·exact .inl ⟨List.eq_nil_of_length_eq_zero h0,e⟩
   ·obtain ⟨t,e⟩:=hv _ v pv
    obtain ⟨a1,a2⟩:=argBest_lt (fun i=>ns.getD i 0) (ns.length - 1)
    refine .inr ⟨_,t,e,mem_getD' (by omega),fun x hx=>?_⟩
    obtain ⟨j,hj,rfl⟩:=List.getElem_of_mem hx
    have:=a2 j (by omega)
    rw [show ns[j]=ns.getD j 0 by rw [List.getD_eq_getElem?_getD,List.getElem?_eq_getElem hj];rfl]
    exact this
  ·intro m
   exact absurd (Heap.lt_size e) (by rw [List.mem_singleton.mp m];exact Nat.lt_irrefl _)
  ·intro z
   exact absurd (Heap.lt_size e) (by rw [z,hsz];exact Nat.not_lt.mpr (Nat.le_succ _))
end
section
variable {X:Cx}{p pos:Pos}{a:Expr}{ta td:TE}
def tMinD (K:PySem.W.Frag) (ta td:TE):TE:=fun σ H Q=>ta σ H fun x H1=>td σ H1 fun y H2=>∃ (l:Addr) (ns:List Int),x=.ref l∧SqL K H2 l (ns.map V.int)∧((ns=[]∧Q y H2)∨ns≠[]∧∀ m,m∈ns→(∀ n∈ns,m≤n)→Q (.int m) H2)
theorem pe_minD {b:Expr}{kp:Pos} (hc:X.calm=true) (hm:X.mg "min"=none) (ha:PE X a ta) (hb:PE X b td) (hg:Gl X "min":=by rfl) (hs:starEach [a] X.env=[(false,eval a X.env)]:=by rfl)
  (h1:backTo pos (starEach [a] X.env)=(false,eval a X.env)::backTo pos (starEach [] X.env):=by rfl) (h2:(backTo pos (starEach [a] X.env)).any (·.1)=false:=by rfl)
  (h3:(backToKw pos (keywordEach [⟨some "default",b,kp⟩] X.env)).all (·.1.isSome)=true:=by rfl) (h4:(backToKw pos (keywordEach [⟨some "default",b,kp⟩] X.env)).any (·.1.isNone)=false:=by rfl)
  (h5:(backToKw pos (keywordEach [⟨some "default",b,kp⟩] X.env)).filterMap (·.1)=[("default":Str)]:=by rfl) :
  PE X (.Call (.Name "min" p) [a] [⟨some "default",b,kp⟩] pos) (tMinD X.K ta td):=by
 intro pins s σ H Q I h
 refine wpAny_Call_Name_kw (ld_blt I hg hm (show bootBuiltins "min"=some (.builtin "min") by decide +kernel) ?_ (by decide) (by decide))
 refine callWith_kw ?_ h1 h2 h3 h4
 rw [h5]
 refine thn (pa_cons ha pa_nil hs pos pins s σ H (fun vs H1=>match vs with | [x]=>td σ H1 fun y H2=>∃ (l:Addr) (ns:List Int),x=.ref l∧SqL X.K H2 l (ns.map V.int)∧((ns=[]∧Q y H2)∨ns≠[]∧∀ m,m∈ns→(∀ n∈ns,m≤n)→Q (.int m) H2) | _=>False) I h) fun us s1 ⟨vs,H1,I1,rv,q1⟩=>?_
 rcases vs with _ | ⟨x,_ | ⟨x2,r2⟩⟩
 ·exact q1.elim
 ·obtain ⟨u,rfl,ru⟩:=vals1 rv
  refine kws_cons (thn (hb pins s1 σ H1 _ I1 q1) fun dv s2 ⟨y,H2,I2,ry,l,ns,ex,hq,q2⟩=>kws_nil ?_)
  subst ex
  cases ru
  obtain ⟨its,ri,pl,hz⟩:=I2.list hq
  refine minD_list (I2.ok.hd hc) pl.isList (intsAre_of ri) fun v h' tk hres kp=>?_
  rcases hres with ⟨en,ev⟩ | ⟨m,t,ev,hm1,hm2⟩
  ·subst ev
   rcases q2 with ⟨_,q2⟩ | ⟨ne,_⟩
   ·exact ⟨y,H2,I2.kept (t':=tk) kp,ry,q2⟩
   ·exact absurd en ne
  ·subst ev
   rcases q2 with ⟨en,_⟩ | ⟨_,q2⟩
   ·rw [en] at hm1;cases hm1
   ·exact ⟨.int m,H2,I2.kept (t':=tk) kp,⟨t,rfl⟩,q2 m hm1 hm2⟩
 ·exact q1.elim
end
end L2
namespace PySem
theorem ld_nokeys_list:typeLookup (.type "list") "keys"=pure none:=by rw [typeLookup_type,builtinLookup_eq_fast];kernel_rfl
theorem ld_nokeys_tuple:typeLookup (.type "tuple") "keys"=pure none:=by rw [typeLookup_type,builtinLookup_eq_fast];kernel_rfl
section
variable {prog:Program}{w:World}{A:Around}{E:Value→Shared→Prop}{s:Shared}{a:Addr}{xs:Array Value}{k:Nat}{sl:Array (Option Value)}{Q:Option Value→Shared→Prop}
theorem ld_keys_list (hx:s.heap.get? a=some { cls:=.type "list",dict:=none,data:=.seq xs k,slots:=sl }) (hA:A.handled=none)
  (h:∀ h' tk,(∀ b o,s.heap.get? b=some o→h'.get? b=some o)→Q none { s with heap:=h',toks:=tk }):wpAny (model prog w) A (getAttr? (.ref a) "keys") Q E s:=by
 obtain ⟨hp,g,d,tk,os⟩:=s
 have hT:∀ tk',(⟨hp,g,d,tk',os⟩:Shared).TypeIs (.ref a) "list":=fun _=>⟨_,hx,rfl⟩
 have f1:=sub_AttributeError
 have f3:=F.slot_list_getattribute.lookup
 have f4:=F.slot_list_getattribute.bind (.ref a)
 have f5:=am_list_getattr_none
 unfold getAttr? getAttrBy? getAttrBy
 repeat (any_goals (first | assumption | exact hT _ | ((with_reducible show wpAny _ _ (call (Value.builtin "list.__getattribute__") _ _) _ _ _);refine call_meets F.slot_list_getattribute (hT _) am_entry_list_getattribute (F.args_list_getattribute_2 _ _) (meets_getattribute_miss_list a xs k sl "keys" _ ld_nokeys_list (by decide +kernel)) ⟨hx,hA,fun h' tk' e hx'=>?_⟩) | wp_step))
 obtain ⟨t',u',he⟩:=hx'.there
 show wpAny _ _ (getattributeRaised _ _ _ _ _ _ _) _ _ _
 unfold getattributeRaised
 repeat (any_goals (first | assumption | wp_step))
 all_goals exact h _ _ hx'.keeps
theorem ld_keys_tuple (hx:s.heap.get? a=some { cls:=.type "tuple",dict:=none,data:=.seq xs k,slots:=sl }) (hA:A.handled=none)
  (h:∀ h' tk,(∀ b o,s.heap.get? b=some o→h'.get? b=some o)→Q none { s with heap:=h',toks:=tk }):wpAny (model prog w) A (getAttr? (.ref a) "keys") Q E s:=by
 obtain ⟨hp,g,d,tk,os⟩:=s
 have hT:∀ tk',(⟨hp,g,d,tk',os⟩:Shared).TypeIs (.ref a) "tuple":=fun _=>⟨_,hx,rfl⟩
 have f1:=sub_AttributeError
 have f3:=F.slot_tuple_getattribute.lookup
 have f4:=F.slot_tuple_getattribute.bind (.ref a)
 have f5:=am_tuple_getattr_none
 unfold getAttr? getAttrBy? getAttrBy
 repeat (any_goals (first | assumption | exact hT _ | ((with_reducible show wpAny _ _ (call (Value.builtin "tuple.__getattribute__") _ _) _ _ _);refine call_meets F.slot_tuple_getattribute (hT _) am_entry_tuple_getattribute (F.args_tuple_getattribute_2 _ _) (meets_getattribute_miss_tuple a xs k sl "keys" _ ld_nokeys_tuple (by decide +kernel)) ⟨hx,hA,fun h' tk' e hx'=>?_⟩) | wp_step))
 obtain ⟨t',u',he⟩:=hx'.there
 show wpAny _ _ (getattributeRaised _ _ _ _ _ _ _) _ _ _
 unfold getattributeRaised
 repeat (any_goals (first | assumption | wp_step))
 all_goals exact h _ _ hx'.keeps
end
end PySem
namespace L2
open PySem PySem.Spec PyProof.Rows
theorem ld_plain_loop:plainId "dict.update.loop"=true:=by decide +kernel
theorem ld_entry_loop:entryFor table "dict.update.loop"=some Builtin.«dict.update.loop»:=entryFor_of_fast (by kernel_rfl)
def pairAt {prog:Program}{w:World}{κ:Type} [DecidableEq κ] (knd:KeyKind prog w κ) (h:Heap) (no:List Addr) (v:Value) (p:κ×Value):Prop:=∃ a key,v=.ref a∧a∉no∧IsTup h a #[key,p.2]∧knd.is p.1 key=true
section
variable {prog:Program}{w:World}{A:Around}{R:Result→Shared→Prop}{κ:Type} [DecidableEq κ] {knd:KeyKind prog w κ}{it d:Addr}{fps wrs:List Addr}{n:Nat}{P:Nat→Value→Prop}{T:Nat→Heap→Prop}
theorem dictOf_loop (W:Walks prog w A.in1 it fps wrs n P T) (hd:d∉fps) (h0:Heap) (ps:List (κ×Value)) (hn:ps.length=n) (hP:∀ i v,P i v→∃ p,ps[i]? = some p∧pairAt knd h0 (d::wrs) v p) (res:Value) :
  ∀ (k i:Nat) (s:Shared) (m:List (κ×Value)) (tki:Tok),n - i=k→i≤n→T i s.heap→s.heap.DictOf knd d m→m.length + (n - i)≤sizeLine→(∀ b o,b∉d::wrs→h0.get? b=some o→s.heap.get? b=some o) →
   (∀ h' tk,h'.DictOf knd d ((ps.drop i).foldl (fun m p=>stored m p.1 p.2) m)→(∀ b o,b∉d::wrs→h0.get? b=some o→h'.get? b=some o)→R (.ok (.ret res)) { s with heap:=h',toks:=tk }) →
   codeAny (model prog w) A (.builtin "dict.update.loop" ⟨[.ref d,.ref it,.int i tki,res],[]⟩) R s:=by
 have nd:d∉wrs:=fun m=>hd (W.sub _ m)
 intro k
 induction k with
 | zero=>
  intro i s m tki e1 e2 st dm hz kp fin
  have en:i=n:=by omega
  subst en
  refine codeAny_builtin ld_entry_loop ?_
  rw [Around.under_plainId ld_plain_loop _]
  show wpAny (model prog w) A.in1 (pyNext (.ref it) >>= _) _ _ s
  refine wpAny_bind (W.done s _ _ st fun h1 t1 k1=>?_)
  show wpAny (model prog w) A.in1 (Builtin.Dict.addKeywords d [] >>= fun _=>ret res) _ _ _
  refine wpAny_bind (wpAny_pure (wpAny_pure (fin h1 t1 ?_ fun b o mb e=>k1 b o (fun z=>mb (List.mem_cons_of_mem _ z)) (kp b o mb e))))
  rw [List.drop_eq_nil_of_le (by omega)]
  obtain ⟨o,es,ep,ho,r⟩:=dm
  exact ⟨o,es,ep,k1 d o nd ho,r⟩
 | succ k ih=>
  intro i s m tki e1 e2 st dm hz kp fin
  have lt:i < n:=by omega
  refine codeAny_builtin ld_entry_loop ?_
  rw [Around.under_plainId ld_plain_loop _]
  show wpAny (model prog w) A.in1 (pyNext (.ref it) >>= _) _ _ s
  refine wpAny_bind (W.item i s _ _ lt st fun v h1 t1 pv st1 k1=>?_)
  obtain ⟨p,ep,a,key,rfl,na,hpt,hkey⟩:=hP i v pv
  have dm1:h1.DictOf knd d m:=by
   obtain ⟨o,es,ep,ho,r⟩:=dm
   exact ⟨o,es,ep,k1 d o nd ho,r⟩
  obtain ⟨oa,hoa,hca,na',hda⟩:=hpt
  have ga:h1.get? a=some oa:=k1 a oa (fun z=>na (List.mem_cons_of_mem _ z)) (kp a oa na hoa)
  refine wpAny_bind (wpAny_holding ?_)
  refine wpAny_bind (wpAny_tryCatch ?_)
  unfold Builtin.Dict.pairItems
  refine wpAny_bind (wpAny_typeOf (T:="tuple") ⟨oa,ga,hca⟩ ?_)
  rw [if_pos (by decide)]
  refine wpAny_bind (wpAny_seqItems ga hda (wpAny_pure ?_))
  refine wpAny_holding (wpAny_dictSet_pairs hkey dm1 (fun h2 dm2 sb=>?_) (by omega))
  have h2d:∀ b o,b≠d→h1.get? b=some o→h2.get? b=some o:=fun b o hb e=>(sb.2 b hb).trans e
  have st2:T (i + 1) h2:=W.frame _ _ _ st1 fun b mb o e=>h2d b o (fun z=>hd (by rw [← z];exact mb)) e
  have hl2:(stored m p.1 p.2).length≤m.length + 1:=by
   unfold stored
   split
   ·rw [List.length_map];exact Nat.le_succ _
   ·rw [List.length_append];exact Nat.le_refl _
  refine wpAny_pure ⟨plainId_quiet ld_plain_loop _,?_⟩
  refine ih (i + 1) _ (stored m p.1 p.2) 0 (by omega) lt st2 dm2 (by omega) (fun b o mb e=>h2d b o (fun z=>mb (by rw [z];exact List.mem_cons_self)) (k1 b o (fun z=>mb (List.mem_cons_of_mem _ z)) (kp b o mb e))) fun h3 t3 dm3 k3=>?_
  refine fin h3 t3 ?_ k3
  have hi:i < ps.length:=by omega
  have ep':ps[i]=p:=by rw [List.getElem?_eq_getElem hi] at ep;exact Option.some.inj ep
  rw [List.drop_eq_getElem_cons hi,List.foldl_cons,ep']
  exact dm3
theorem call_dict_seq {E:Value→Shared→Prop}{s:Shared}{x:Value}{Q:Value→Shared→Prop} (ps:List (κ×Value)) (hz:ps.length≤sizeLine) (T0:String) (hT0:(Value.type T0 != Value.type "dict")=true)
  (hty:∀ o,({ s with heap:=s.heap.push o }:Shared).TypeIs x T0)
  (hk:∀ (o:Obj) (Q':Option Value→Shared→Prop) (E':Value→Shared→Prop),(∀ h' tk,(∀ b ob,(s.heap.push o).get? b=some ob→h'.get? b=some ob)→Q' none { s with heap:=h',toks:=tk })→wpAny (model prog w) A.in1.in1 (getAttr? x "keys") Q' E' { s with heap:=s.heap.push o })
  (hi:∀ (s2:Shared) (Q':Value→Shared→Prop) (E':Value→Shared→Prop),(∀ b ob,s.heap.get? b=some ob→s2.heap.get? b=some ob)→(∃ o,s2.heap.get? s.heap.objs.size=some o) →
   (∀ I fps wrs n P T h3,Walks prog w A.in1.in1 I fps wrs n P T→T 0 h3→ps.length=n→s.heap.objs.size∉fps→(∀ b ob,s2.heap.get? b=some ob→h3.get? b=some ob)→(∀ b∈wrs,s.heap.get? b=none)→(∀ i v,P i v→∃ p,ps[i]? = some p∧pairAt knd s.heap (s.heap.objs.size::wrs) v p)→Q' (.ref I) { s2 with heap:=h3 }) →
   wpAny (model prog w) A.in1.in1 (pyIter x) Q' E' s2)
  (h:∀ h' tk,h'.DictOf knd s.heap.objs.size (ps.foldl (fun m p=>stored m p.1 p.2) [])→(∀ b o,s.heap.get? b=some o→h'.get? b=some o)→Q (.ref s.heap.objs.size) { s with heap:=h',toks:=tk }) :
  wpAny (model prog w) A (call (.type "dict") [x]) Q E s:=by
 refine callType_codes (Q₁:=fun obj s₁=>obj=.ref s.heap.objs.size∧s₁={ s with heap:=s.heap.push { cls:=.type "dict",data:=.dict #[] } }) F.kt_called_dict (F.kt_typeCall_dict_1 _) F.entry_dict_init (kt_code_dict_new _ ⟨rfl,rfl⟩) ?_
 rintro obj s₁ ⟨rfl,rfl⟩
 have hnew:(s.heap.push { cls:=.type "dict",data:=.dict #[] }).DictOf knd s.heap.objs.size []:=Heap.DictOf.new s.heap
 refine ⟨hnew.typeIs,F.args_dict_init_2 _ _,?_⟩
 unfold Builtin.«dict.__init__»
 refine wpAny_bind ?_
 unfold Builtin.Dict.selfAndRest
 refine wpAny_bind (wpAny_notOrdered_dict hnew.typeIs ?_)
 show wpAny (model prog w) _ (pure (s.heap.objs.size,[x])) _ _ _
 refine wpAny_pure ?_
 show wpAny (model prog w) _ (Builtin.Dict.updateFrom "dict.__init__" s.heap.objs.size x [] .none) _ _ _
 unfold Builtin.Dict.updateFrom
 refine wpAny_bind (wpAny_typeOf (hty _) ?_)
 rw [if_pos hT0]
 refine wpAny_bind (hk _ _ _ fun h1 t1 k1=>?_)
 refine wpAny_bind (wpAny_rule (wpAny_bind ?_))
 have o1:∀ b ob,s.heap.get? b=some ob→h1.get? b=some ob:=fun b ob e=>k1 b ob (Heap.get?_push_of_some _ e)
 refine hi { s with heap:=h1,toks:=t1 } _ _ o1 ⟨_,k1 _ _ (Heap.get?_push_size _ rfl)⟩ (fun I fps wrs n P T h3 W st hn hd k3 hw hP=>?_)
 have dm3:h3.DictOf knd s.heap.objs.size []:=by
  obtain ⟨o,es,ep,ho,r⟩:=hnew
  exact ⟨o,es,ep,k3 _ o (k1 _ o ho),r⟩
 refine wpAny_pure ⟨plainId_quiet ld_plain_loop _,dictOf_loop (A:=A.in1) W hd s.heap ps hn hP .none n 0 _ [] 0 rfl (Nat.zero_le _) st dm3 (by rw [List.length_nil];omega) (fun b o _ e=>k3 b o (o1 b o e)) fun h4 t4 dm4 k4=>?_⟩
 refine ⟨rfl,h h4 t4 (by simpa using dm4) fun b o e=>k4 b o (fun m=>?_) e⟩
 rcases List.mem_cons.mp m with z | z
 ·exact absurd (Heap.lt_size e) (by rw [z];exact Nat.lt_irrefl _)
 ·rw [hw b z] at e;cases e
end
section
variable {X:Cx}
theorem foldl_KV {κ:Type} [DecidableEq κ]:∀ {ps:List (κ×V)}{qs:List (κ×Value)}{m:List (κ×V)}{r:List (κ×Value)},KV ps qs→KV m r→KV (ps.foldl (fun m p=>putK m p.1 p.2) m) (qs.foldl (fun m p=>stored m p.1 p.2) r)
 | _,_,_,_,.nil,h=>h
 | _,_,_,_,.cons (a:=p) (b:=q) e t,h=>by
  rw [List.foldl_cons,List.foldl_cons]
  refine foldl_KV t ?_
  rw [← e.1]
  exact h.put p.1 e.2
def rDictOf (K:PySem.W.Frag):List V→Hp→VK→Prop:=fun xs H Q=>∃ (p:Addr) (ys:List V) (ps:List (Key×V)),xs=[.ref p]∧(SqL K H p ys∨SqT K H p ys)∧Paired (fun y (q:Key×V)=>∃ a,y=.ref a∧SqT K H a [kV q.1,q.2]) ys ps ∧
 ∀ l,H l=none→Q (.ref l) (upd H l (.dK (ps.foldl (fun m q=>putK m q.1 q.2) [])))
theorem pairs_of {pins:List (Addr×Obj)}{σ:St}{H:Hp}{s:Shared} (I:Inv X pins σ H s):∀ {ys:List V}{ps:List (Key×V)}{its:List Value},Paired (fun y (q:Key×V)=>∃ a,y=.ref a∧SqT X.K H a [kV q.1,q.2]) ys ps→Vals ys its →
  ∃ qs:List (Key×Value),KV ps qs∧∀ (i:Nat) (v:Value),its[i]? = some v→∃ q,qs[i]? = some q∧∃ a key,v=.ref a∧IsTup s.heap a #[key,q.2]∧(mixKind X.prog X.w).is q.1 key=true
 | _,_,_,.nil,.nil=>⟨[],.nil,fun i v e=>by simp at e⟩
 | _,_,_,.cons (b:=q) ⟨a,ey,hr⟩ t,.cons (b:=u) r rs=>by
  obtain ⟨qs,h1,h2⟩:=pairs_of I t rs
  subst ey
  cases r
  obtain ⟨us,ru,pt,_⟩:=I.tuple hr
  obtain ⟨key,x,rfl,rk,rx⟩:=vals2 ru
  refine ⟨(q.1,x)::qs,.cons ⟨rfl,rx⟩ h1,fun i v e=>?_⟩
  cases i with
  | zero=>
   have e':=Option.some.inj e
   subst e'
   exact ⟨_,rfl,a,key,rfl,pt,kV_is rk⟩
  | succ i=>
   obtain ⟨q',e1,e2⟩:=h2 i v (by simpa using e)
   exact ⟨q',by simpa using e1,e2⟩
theorem call_dictOf (hc:X.calm=true):CallR X (.type "dict") (rDictOf X.K):=by
 intro pins s σ H xs us Q I r h
 obtain ⟨p,ys,ps,rfl,hsrc,hps,q⟩:=h
 obtain ⟨u,rfl,ru⟩:=vals1 r
 cases ru
 have hh:X.A.handled=none:=I.ok.hd hc
 have big:=I.big
 have fin:∀ (its:List Value) (qs:List (Key×Value)),KV ps qs→ys.length≤sizeLine→∀ h' tk,h'.DictOf (mixKind X.prog X.w) s.heap.objs.size (qs.foldl (fun m p=>stored m p.1 p.2) [])→(∀ b o,s.heap.get? b=some o→h'.get? b=some o) →
   EP X pins σ Q (.ref s.heap.objs.size) { s with heap:=h',toks:=tk }:=by
  intro its qs hkv hz h' tk dm kp
  have rel:=foldl_KV (m:=[]) (r:=[]) hkv .nil
  have lenF:∀ (l:List (Key×V)) (m:List (Key×V)),(l.foldl (fun m q=>putK m q.1 q.2) m).length≤m.length + l.length:=by
   intro l
   induction l with
   | nil=>intro m;exact Nat.le_refl _
   | cons a l ih=>
    intro m
    rw [List.foldl_cons]
    have h1:=ih (putK m a.1 a.2)
    have h2:=length_putK m a.1 a.2
    rw [List.length_cons]
    omega
  have hl:ps.length=ys.length:=(Paired.length hps).symm
  refine ⟨.ref s.heap.objs.size,_,I.laid (a:=s.heap.objs.size) (o:=.dK _) (t':=tk) kp (Nat.le_refl _) (dk_new ?_ (beq_eq_false_iff_ne.mpr (Ne.symm (Nat.ne_of_lt big))) rel dm),rfl,q _ (I.hok.fresh (Nat.le_refl _))⟩
  have:=lenF ps []
  rw [List.length_nil] at this
  omega
 have lenQ:∀ {qs:List (Key×Value)},KV ps qs→qs.length=ys.length:=fun h=>by rw [← h.length];exact (Paired.length hps).symm
 have lts:∀ {s2:Shared},(∃ o,s2.heap.get? s.heap.objs.size=some o)→s.heap.objs.size < s2.heap.objs.size:=fun ⟨_,e⟩=>Heap.lt_size e
 rcases hsrc with hq | hq
 ·obtain ⟨its,rv,pl,hz⟩:=I.list hq
  obtain ⟨qs,hkv,hat⟩:=pairs_of I hps rv
  obtain ⟨o,n,ho,hoc,hod,hdat⟩:=pl
  have hp:p < s.heap.objs.size:=Heap.lt_size ho
  refine call_dict_seq (knd:=mixKind X.prog X.w) qs (by rw [lenQ hkv];exact hz) "list" (by decide) (fun ob=>⟨o,Heap.get?_push_of_some _ ho,hoc⟩) (fun ob Q' E' k=>?_) (fun s2 Q' E' o2 hS k=>?_) (fun h' tk dm kp=>fin its qs hkv hz h' tk dm kp)
  ·obtain ⟨c0,d0,dt0,sl0⟩:=o
   dsimp only at hoc hod hdat
   subst hoc hod hdat
   exact ld_keys_list (A:=X.A.in1.in1) (Heap.get?_push_of_some _ ho) hh fun h1 t1 kp=>k h1 t1 kp
  ·have hl2:s2.heap.IsList p its.toArray:=⟨o,o2 p o ho,hoc,n,hdat⟩
   refine wpAny_pyIter_list hl2 (k s2.heap.objs.size [s2.heap.objs.size,p] [s2.heap.objs.size] _ _ _ _ (Walks.list (A:=X.A.in1.in1) hh s2.heap.objs.size p (Nat.ne_of_lt (Nat.lt_trans hp (lts hS))) its.toArray) ⟨⟨_,Heap.get?_push_size _ rfl,rfl,rfl⟩,hl2.push _⟩ (by rw [lenQ hkv,List.size_toArray,← rv.length]) ?_ (fun b ob e=>Heap.get?_push_of_some _ e) ?_ fun i v e=>?_)
   ·intro m
    rcases List.mem_cons.mp m with z | z
    ·exact absurd z (Nat.ne_of_lt (lts hS))
    ·exact absurd (List.mem_singleton.mp z) (Nat.ne_of_gt hp)
   ·intro b m
    rw [List.mem_singleton.mp m]
    exact Heap.get?_none_of_le (Nat.le_of_lt (lts hS))
   ·obtain ⟨q',e1,a,key,e2,e3,e4⟩:=hat i v (by simpa using e)
    refine ⟨q',e1,a,key,e2,fun m=>?_,e3,e4⟩
    obtain ⟨oa,ha,_⟩:=e3
    rcases List.mem_cons.mp m with z | z
    ·exact absurd (Heap.lt_size ha) (by rw [z];exact Nat.lt_irrefl _)
    ·exact absurd (Heap.lt_size ha) (by rw [List.mem_singleton.mp z];exact Nat.not_lt.mpr (Nat.le_of_lt (lts hS)))
 ·obtain ⟨its,rv,⟨o,ho,hoc,hod,n,hdat⟩,hz⟩:=I.tupleN hq
  obtain ⟨qs,hkv,hat⟩:=pairs_of I hps rv
  have hp:p < s.heap.objs.size:=Heap.lt_size ho
  refine call_dict_seq (knd:=mixKind X.prog X.w) qs (by rw [lenQ hkv];exact hz) "tuple" (by decide) (fun ob=>⟨o,Heap.get?_push_of_some _ ho,hoc⟩) (fun ob Q' E' k=>?_) (fun s2 Q' E' o2 hS k=>?_) (fun h' tk dm kp=>fin its qs hkv hz h' tk dm kp)
  ·obtain ⟨c0,d0,dt0,sl0⟩:=o
   dsimp only at hoc hod hdat
   subst hoc hod hdat
   exact ld_keys_tuple (A:=X.A.in1.in1) (Heap.get?_push_of_some _ ho) hh fun h1 t1 kp=>k h1 t1 kp
  ·have hl2:s2.heap.IsTuple p its.toArray:=⟨o,o2 p o ho,hoc,n,hdat⟩
   refine wpAny_pyIter_tuple hl2 (k s2.heap.objs.size [s2.heap.objs.size,p] [s2.heap.objs.size] _ _ _ _ (Walks.tuple (A:=X.A.in1.in1) hh s2.heap.objs.size p (Nat.ne_of_lt (Nat.lt_trans hp (lts hS))) its.toArray) ⟨⟨_,Heap.get?_push_size _ rfl,rfl,rfl⟩,hl2.push _⟩ (by rw [lenQ hkv,List.size_toArray,← rv.length]) ?_ (fun b ob e=>Heap.get?_push_of_some _ e) ?_ fun i v e=>?_)
   ·intro m
    rcases List.mem_cons.mp m with z | z
    ·exact absurd z (Nat.ne_of_lt (lts hS))
    ·exact absurd (List.mem_singleton.mp z) (Nat.ne_of_gt hp)
   ·intro b m
    rw [List.mem_singleton.mp m]
    exact Heap.get?_none_of_le (Nat.le_of_lt (lts hS))
   ·obtain ⟨q',e1,a,key,e2,e3,e4⟩:=hat i v (by simpa using e)
    refine ⟨q',e1,a,key,e2,fun m=>?_,e3,e4⟩
    obtain ⟨oa,ha,_⟩:=e3
    rcases List.mem_cons.mp m with z | z
    ·exact absurd (Heap.lt_size ha) (by rw [z];exact Nat.lt_irrefl _)
    ·exact absurd (Heap.lt_size ha) (by rw [List.mem_singleton.mp z];exact Nat.not_lt.mpr (Nat.le_of_lt (lts hS)))
end
end L2
namespace L2.Ev
open PySem PySem.Spec PyProof.Rows
inductive D where
 | non | bl (b:Bool) | int (i:Int) | str (x:Str) | tup (ds:List D) | lst (ds:List D) | fls (ds:List D) | dic (kvs:List (Key×D)) | dit (kvs:List (List Key×D)) | ins (cn:Str) (fs:List (Str×D)) | exc (cn:Str)
def Frz (K:PySem.W.Frag) (H:Hp) (a:Addr) (xs:List V):Prop:=(∃ o,H a=some (.frz o (.lst xs))) ∨
 ∃ (o:Obj) (its:Array Value) (n:Nat),K.lookup a=some o∧o.cls=.type "list"∧o.dict=none∧o.data=.seq its n∧its.size≤sizeLine∧Vals xs its.toList
theorem Frz.sq {K:PySem.W.Frag}{H:Hp}{a:Addr}{xs:List V} (h:Frz K H a xs):SqL K H a xs:=h.elim (fun z=>.inl (.inr z)) .inr
mutual
inductive Rep (K:PySem.W.Frag) (H:Hp):D→V→List Addr→Prop
 | non:Rep K H .non .non []
 | bl (b:Bool):Rep K H (.bl b) (.bl b) []
 | int (i:Int):Rep K H (.int i) (.int i) []
 | str (x:Str):Rep K H (.str x) (.str x) []
 | tup {a:Addr}{xs:List V}{ds:List D}{fp:List Addr}:SqT K H a xs→Reps K H ds xs fp→Rep K H (.tup ds) (.ref a) fp
 | lst {a:Addr}{xs:List V}{ds:List D}{fp:List Addr}:H a=some (.lst xs)→Reps K H ds xs fp→Rep K H (.lst ds) (.ref a) (a::fp)
 | lsf {a:Addr}{xs:List V}{ds:List D}{fp:List Addr}:Frz K H a xs→Reps K H ds xs fp→Rep K H (.fls ds) (.ref a) fp
 | dic {a:Addr}{kvs:List (Key×V)}{es:List (Key×D)}{fp:List Addr}:H a=some (.dK kvs)→es.map (·.1)=kvs.map (·.1)→Reps K H (es.map (·.2)) (kvs.map (·.2)) fp→Rep K H (.dic es) (.ref a) (a::fp)
 | dit {a:Addr}{kvs:List (List Key×V)}{es:List (List Key×D)}{fp:List Addr}:H a=some (.dT kvs)→es.map (·.1)=kvs.map (·.1)→Reps K H (es.map (·.2)) (kvs.map (·.2)) fp→Rep K H (.dit es) (.ref a) (a::fp)
 | ins {cn:Str}{a C dx:Addr}{fs:List (Str×V)}{es:List (Str×D)}{fp:List Addr}:PySem.W.nsIn K mainGlobals cn=some (some (.ref C))→H a=some (.ins C dx fs)→H dx=some (.own a)→es.map (·.1)=fs.map (·.1)→Reps K H (es.map (·.2)) (fs.map (·.2)) fp→Rep K H (.ins cn es) (.ref a) (a::dx::fp)
 | exc {cn:Str}{a C:Addr}:PySem.W.nsIn K mainGlobals cn=some (some (.ref C))→H a=some (ExcO a (.ref C))→Rep K H (.exc cn) (.ref a) []
inductive Reps (K:PySem.W.Frag) (H:Hp):List D→List V→List Addr→Prop
 | nil:Reps K H [] [] []
 | cons {d:D}{v:V}{ds:List D}{vs:List V}{f1 f2:List Addr}:Rep K H d v f1→Reps K H ds vs f2→Reps K H (d::ds) (v::vs) (f1++f2)
end
def Imm (H H':Hp):Prop:=(∀ a xs,H a=some (.tup xs)→H' a=some (.tup xs))∧(∀ a o u,H a=some (.frz o u)→H' a=some (.frz o u))∧∀ a φ,H a=some (.ext φ)→H' a=some (.ext φ)
theorem Imm.sqt {K:PySem.W.Frag}{H H':Hp}{a:Addr}{xs:List V} (i:Imm H H') (h:SqT K H a xs):SqT K H' a xs:=by
 rcases h with (h | ⟨o,h⟩) | h
 ·exact .inl (.inl (i.1 _ _ h))
 ·exact .inl (.inr ⟨o,i.2.1 _ _ _ h⟩)
 ·exact .inr h
theorem Imm.frz {K:PySem.W.Frag}{H H':Hp}{a:Addr}{xs:List V} (i:Imm H H') (h:Frz K H a xs):Frz K H' a xs:=by
 rcases h with ⟨o,h⟩ | h
 ·exact .inl ⟨o,i.2.1 _ _ _ h⟩
 ·exact .inr h
theorem Imm.of {H H':Hp} (h:Same H H'):Imm H H':=⟨fun _ _ e=>h _ _ e,fun _ _ _ e=>h _ _ e,fun _ _ e=>h _ _ e⟩
theorem Imm.trans {H H1 H2:Hp} (a:Imm H H1) (b:Imm H1 H2):Imm H H2:=⟨fun _ _ e=>b.1 _ _ (a.1 _ _ e),fun _ _ _ e=>b.2.1 _ _ _ (a.2.1 _ _ _ e),fun _ _ e=>b.2.2 _ _ (a.2.2 _ _ e)⟩
def MutO:HO→Bool
 | .lst _ | .dK _ | .dT _ | .ins _ _ _ | .own _=>true
 | _=>false
theorem Imm.upd {H:Hp}{p:Addr}{o o':HO} (h:H p=some o) (m:MutO o=true):Imm H (upd H p o'):=by
 refine ⟨fun a xs e=>?_,fun a q u e=>?_,fun a q e=>?_⟩
 ·rw [upd_ne]
  ·exact e
  ·rintro rfl;rw [h] at e;cases e;cases m
 ·rw [upd_ne]
  ·exact e
  ·rintro rfl;rw [h] at e;cases e;cases m
 ·rw [upd_ne]
  ·exact e
  ·rintro rfl;rw [h] at e;cases e;cases m
section
variable {K:PySem.W.Frag}{H H':Hp}
mutual
theorem Rep.frame:∀ {d:D}{v:V}{fp:List Addr},Rep K H d v fp→(∀ a∈fp,H' a=H a)→Imm H H'→Rep K H' d v fp
 | _,_,_,.non,_,_=>.non
 | _,_,_,.bl b,_,_=>.bl b
 | _,_,_,.int i,_,_=>.int i
 | _,_,_,.str x,_,_=>.str x
 | _,_,_,.tup h r,k,i=>.tup (i.sqt h) (Reps.frame r k i)
 | _,_,_,.lst h r,k,i=>.lst ((k _ List.mem_cons_self).trans h) (Reps.frame r (fun a m=>k a (List.mem_cons_of_mem _ m)) i)
 | _,_,_,.lsf h r,k,i=>.lsf (i.frz h) (Reps.frame r k i)
 | _,_,_,.dic h e r,k,i=>.dic ((k _ List.mem_cons_self).trans h) e (Reps.frame r (fun a m=>k a (List.mem_cons_of_mem _ m)) i)
 | _,_,_,.dit h e r,k,i=>.dit ((k _ List.mem_cons_self).trans h) e (Reps.frame r (fun a m=>k a (List.mem_cons_of_mem _ m)) i)
 | _,_,_,.exc g h,k,i=>.exc g (i.2.2 _ _ h)
 | _,_,_,.ins g h h2 e r,k,i=>.ins g ((k _ List.mem_cons_self).trans h) ((k _ (List.mem_cons_of_mem _ List.mem_cons_self)).trans h2) e (Reps.frame r (fun a m=>k a (List.mem_cons_of_mem _ (List.mem_cons_of_mem _ m))) i)
theorem Reps.frame:∀ {ds:List D}{vs:List V}{fp:List Addr},Reps K H ds vs fp→(∀ a∈fp,H' a=H a)→Imm H H'→Reps K H' ds vs fp
 | _,_,_,.nil,_,_=>.nil
 | _,_,_,.cons h t,k,i=>.cons (Rep.frame h (fun a m=>k a (List.mem_append_left _ m)) i) (Reps.frame t (fun a m=>k a (List.mem_append_right _ m)) i)
end
mutual
theorem Rep.dom:∀ {d:D}{v:V}{fp:List Addr},Rep K H d v fp→∀ a∈fp,∃ o,H a=some o∧MutO o=true
 | _,_,_,.non,_,m=>nomatch m
 | _,_,_,.bl b,_,m=>nomatch m
 | _,_,_,.int i,_,m=>nomatch m
 | _,_,_,.str x,_,m=>nomatch m
 | _,_,_,.tup h r,a,m=>Reps.dom r a m
 | _,_,_,.lst h r,a,m=>(List.mem_cons.mp m).elim (fun e=>⟨_,e ▸ h,rfl⟩) fun m=>Reps.dom r a m
 | _,_,_,.lsf h r,a,m=>Reps.dom r a m
 | _,_,_,.dic h e r,a,m=>(List.mem_cons.mp m).elim (fun e=>⟨_,e ▸ h,rfl⟩) fun m=>Reps.dom r a m
 | _,_,_,.dit h e r,a,m=>(List.mem_cons.mp m).elim (fun e=>⟨_,e ▸ h,rfl⟩) fun m=>Reps.dom r a m
 | _,_,_,.exc _ _,_,m=>nomatch m
 | _,_,_,.ins _ h h2 e r,a,m=>(List.mem_cons.mp m).elim (fun e=>⟨_,e ▸ h,rfl⟩) fun m=>(List.mem_cons.mp m).elim (fun e=>⟨_,e ▸ h2,rfl⟩) fun m=>Reps.dom r a m
theorem Reps.dom:∀ {ds:List D}{vs:List V}{fp:List Addr},Reps K H ds vs fp→∀ a∈fp,∃ o,H a=some o∧MutO o=true
 | _,_,_,.nil,_,m=>nomatch m
 | _,_,_,.cons h t,a,m=>(List.mem_append.mp m).elim (Rep.dom h a) (Reps.dom t a)
end
theorem Rep.same {d:D}{v:V}{fp:List Addr} (h:Rep K H d v fp) (s:Same H H'):Rep K H' d v fp:=
 h.frame (fun a m=>let ⟨o,e,_⟩:=h.dom a m;(s a o e).trans e.symm) (.of s)
theorem Reps.same {ds:List D}{vs:List V}{fp:List Addr} (h:Reps K H ds vs fp) (s:Same H H'):Reps K H' ds vs fp:=
 h.frame (fun a m=>let ⟨o,e,_⟩:=h.dom a m;(s a o e).trans e.symm) (.of s)
theorem Reps.length:∀ {ds:List D}{vs:List V}{fp:List Addr},Reps K H ds vs fp→ds.length=vs.length
 | _,_,_,.nil=>rfl
 | _,_,_,.cons _ t=>by rw [List.length_cons,List.length_cons,Reps.length t]
theorem Reps.get:∀ {ds:List D}{vs:List V}{fp:List Addr}{i:Nat}{d:D},Reps K H ds vs fp→ds[i]? = some d→∃ v f,vs[i]? = some v∧Rep K H d v f∧∀ a∈f,a∈fp
 | _,_,_,_,_,.nil,e=>by simp at e
 | _,_,_,0,_,.cons h t,e=>by
  have e':=Option.some.inj e
  subst e'
  exact ⟨_,_,rfl,h,fun a m=>List.mem_append_left _ m⟩
 | _,_,_,i + 1,d,.cons h t,e=>by
  obtain ⟨v,f,e1,r,s⟩:=Reps.get (i:=i) (d:=d) t (by simpa using e)
  exact ⟨v,f,by simpa using e1,r,fun a m=>List.mem_append_right _ (s a m)⟩
theorem Reps.append:∀ {ds es:List D}{vs ws:List V}{f g:List Addr},Reps K H ds vs f→Reps K H es ws g→Reps K H (ds++es) (vs++ws) (f++g)
 | _,_,_,_,_,_,.nil,s=>s
 | _,_,_,_,_,g,.cons h t,s=>by
  rw [List.append_assoc]
  exact .cons h (Reps.append t s)
end
theorem Rep.int_of {K:PySem.W.Frag}{H:Hp}{i:Int}{v:V}{fp:List Addr} (r:Rep K H (.int i) v fp):v=.int i∧fp=[]:=by cases r;exact ⟨rfl,rfl⟩
theorem Rep.bl_of {K:PySem.W.Frag}{H:Hp}{i:Bool}{v:V}{fp:List Addr} (r:Rep K H (.bl i) v fp):v=.bl i∧fp=[]:=by cases r;exact ⟨rfl,rfl⟩
theorem Rep.str_of {K:PySem.W.Frag}{H:Hp}{i:Str}{v:V}{fp:List Addr} (r:Rep K H (.str i) v fp):v=.str i∧fp=[]:=by cases r;exact ⟨rfl,rfl⟩
theorem Rep.non_of {K:PySem.W.Frag}{H:Hp}{v:V}{fp:List Addr} (r:Rep K H .non v fp):v=.non∧fp=[]:=by cases r;exact ⟨rfl,rfl⟩
mutual
def imm:D→Bool
 | .lst _ | .fls _ | .dic _ | .dit _ | .ins _ _=>false
 | .tup ds=>immAll ds
 | _=>true
def immAll:List D→Bool
 | []=>true
 | d::ds=>imm d&&immAll ds
end
section
variable {K:PySem.W.Frag}{H H':Hp}
mutual
theorem Rep.imm:∀ {d:D}{v:V}{fp:List Addr},Rep K H d v fp→imm d=true→fp=[]
 | _,_,_,.non,_=>rfl
 | _,_,_,.bl _,_=>rfl
 | _,_,_,.int _,_=>rfl
 | _,_,_,.str _,_=>rfl
 | _,_,_,.tup _ r,e=>Reps.imm r (by unfold L2.Ev.imm at e;exact e)
 | _,_,_,.lst _ _,e=>by unfold L2.Ev.imm at e;cases e
 | _,_,_,.lsf _ _,e=>by unfold L2.Ev.imm at e;cases e
 | _,_,_,.dic _ _ _,e=>by unfold L2.Ev.imm at e;cases e
 | _,_,_,.dit _ _ _,e=>by unfold L2.Ev.imm at e;cases e
 | _,_,_,.ins _ _ _ _ _,e=>by unfold L2.Ev.imm at e;cases e
 | _,_,_,.exc _ _,_=>rfl
theorem Reps.imm:∀ {ds:List D}{vs:List V}{fp:List Addr},Reps K H ds vs fp→immAll ds=true→fp=[]
 | _,_,_,.nil,_=>rfl
 | _,_,_,.cons h t,e=>by
  unfold immAll at e
  obtain ⟨a,b⟩:=(Bool.and_eq_true _ _).mp e
  rw [Rep.imm h a,Reps.imm t b]
  rfl
end
end
inductive Tag where
 | own | lk | sh (o:List Nat)
abbrev Slot:=Option (D×Tag)
abbrev Rho:=List Slot
def InZ (z:Addr→Option Nat) (i:Nat):Tag→List Addr→Prop
 | .sh o,fp=>∀ a∈fp,∀ j,z a=some j→j∈o
 | _,fp=>fp.Nodup∧∀ a∈fp,z a=some i
def NoOwn (ρ:Rho) (j:Nat):Prop:=∀ d,ρ[j]?≠some (some (d,.own))
structure Held where
 d:D
 v:V
 fp:List Addr
 z0:Addr→Option Nat
structure Ok (K:PySem.W.Frag) (H0:Hp) (S:List Addr) (z:Addr→Option Nat) (held:List Held) (ρ:Rho) (σ:St) (H:Hp):Prop where
 sl:∀ i d t,ρ[i]? = some (some (d,t))→∃ v fp,σ[i]? = some (some v)∧Rep K H d v fp∧InZ z i t fp
 hl:∀ p∈held,Rep K H p.d p.v p.fp∧∀ a∈p.fp,∀ j,z a=some j→p.z0 a=some j∧NoOwn ρ j
 zd:∀ a j,z a=some j→(∃ o,H a=some o)∧(H0 a=none∨a∈S)
 en:∀ a o,H0 a=some o→a∉S→H a=some o
 ln:ρ.length=σ.length
theorem Ok.same {K:PySem.W.Frag}{H0:Hp}{S:List Addr}{z:Addr→Option Nat}{held:List Held}{ρ:Rho}{σ:St}{H H':Hp} (h:Ok K H0 S z held ρ σ H) (s:Same H H'):Ok K H0 S z held ρ σ H':=
 ⟨fun i d t e=>let ⟨v,fp,a,b,c⟩:=h.sl i d t e;⟨v,fp,a,b.same s,c⟩,fun p m=>let ⟨a,b⟩:=h.hl p m;⟨a.same s,b⟩,
  fun a j e=>let ⟨⟨o,x⟩,y⟩:=h.zd a j e;⟨⟨o,s _ _ x⟩,y⟩,fun a o e n=>s _ _ (h.en a o e n),h.ln⟩
def TagOk (z:Addr→Option Nat) (H:Hp):Tag→List Addr→Prop
 | .sh o,fp=>∀ a∈fp,∀ j,z a=some j→j∈o
 | _,fp=>fp.Nodup∧∀ a∈fp,H a=none
theorem TagOk.nil {z:Addr→Option Nat}{H:Hp}{t:Tag}:TagOk z H t []:=by
 cases t with
 | sh o=>intro a m;cases m
 | own=>exact ⟨List.nodup_nil,fun a m=>nomatch m⟩
 | lk=>exact ⟨List.nodup_nil,fun a m=>nomatch m⟩
abbrev EF:=Rho→Option (D×Tag)
def FP (X:Cx) (e:Expr) (f:EF):Prop:=∃ t,PE X e t∧∀ (H0:Hp) (S:List Addr) (z:Addr→Option Nat) (held:List Held) (ρ:Rho) (σ:St) (H:Hp) (Q:VK) (d:D) (tg:Tag),
 Ok X.K H0 S z held ρ σ H→f ρ=some (d,tg)→(∀ H' v fp,Same H H'→Rep X.K H' d v fp→TagOk z H tg fp→Q v H')→t σ H Q
abbrev AF:=Rho→Option (List (D×Tag))
abbrev TF:=Rho→Option Bool
def FT (X:Cx) (e:Expr) (f:TF):Prop:=∃ t,PT X e t∧∀ (H0:Hp) (S:List Addr) (z:Addr→Option Nat) (held:List Held) (ρ:Rho) (σ:St) (H:Hp) (Q:Bool→Hp→Prop) (b:Bool),
 Ok X.K H0 S z held ρ σ H→f ρ=some b→(∀ H',Same H H'→Q b H')→t σ H Q
def tagOf (i:Nat):Tag→Tag
 | .sh o=>.sh o
 | _=>.sh [i]
def eVar (i:Nat):EF:=fun ρ=>match ρ[i]? with
 | some (some (d,t))=>some (d,tagOf i t)
 | _=>none
section
variable {X:Cx}
theorem fp_var (i:Nat) {x:Str}{pos:Pos} (hN:X.N[i]? = some x:=by rfl) (hv:Vis X.env.scope x:=by first | exact Or.inl rfl | exact Or.inr (Or.inl rfl) | exact Or.inr (Or.inr rfl)) (hd:(x == ("__debug__":Str))=false:=by decide)
  (hcd:(x == ("__classdict__":Str))=false:=by decide):FP X (.Name x pos) (eVar i):=by
 refine ⟨_,pe_var (i:=i) hN hv hd hcd,fun H0 S z held ρ σ H Q d tg ok e q=>?_⟩
 unfold eVar at e
 cases h:ρ[i]? with
 | none=>rw [h] at e;cases e
 | some s=>
  cases s with
  | none=>rw [h] at e;cases e
  | some p=>
   obtain ⟨d',t⟩:=p
   rw [h] at e
   have e':=Option.some.inj e
   have e1:d'=d:=congrArg Prod.fst e'
   have e2:tagOf i t=tg:=congrArg Prod.snd e'
   subst e1 e2
   obtain ⟨v,fp,hs,r,zz⟩:=ok.sl i d' t h
   refine ⟨v,hs,q H v fp (Same.refl H) r ?_⟩
   cases t with
   | sh o=>exact zz
   | own=>intro a m j ej;rw [zz.2 a m] at ej;cases ej;exact List.mem_cons_self
   | lk=>intro a m j ej;rw [zz.2 a m] at ej;cases ej;exact List.mem_cons_self
def eC (d:D):EF:=fun _=>some (d,.own)
theorem fp_int {i j pos}:FP X (.Constant (.int i) j pos) (eC (.int i)):=⟨_,pe_int,fun _ _ _ _ _ _ H _ _ _ _ e q=>by cases e;exact q H _ _ (Same.refl H) (.int i) .nil⟩
theorem fp_bl {b j pos}:FP X (.Constant (.bool b) j pos) (eC (.bl b)):=⟨_,pe_bl,fun _ _ _ _ _ _ H _ _ _ _ e q=>by cases e;exact q H _ _ (Same.refl H) (.bl b) .nil⟩
theorem fp_non {j pos}:FP X (.Constant .none j pos) (eC .non):=⟨_,pe_non,fun _ _ _ _ _ _ H _ _ _ _ e q=>by cases e;exact q H _ _ (Same.refl H) .non .nil⟩
def e2 (op:D→D→Option D) (fa fb:EF):EF:=fun ρ=>match fa ρ,fb ρ with
 | some (d1,_),some (d2,_)=>(op d1 d2).map fun d=>(d,.own)
 | _,_=>none
theorem e2_of {op:D→D→Option D}{fa fb:EF}{ρ:Rho}{d:D}{tg:Tag} (e:e2 op fa fb ρ=some (d,tg)):∃ d1 t1 d2 t2,fa ρ=some (d1,t1)∧fb ρ=some (d2,t2)∧op d1 d2=some d∧tg=.own:=by
 unfold e2 at e
 cases h1:fa ρ with
 | none=>rw [h1] at e;cases e
 | some p=>
  obtain ⟨d1,t1⟩:=p
  cases h2:fb ρ with
  | none=>rw [h1,h2] at e;cases e
  | some p=>
   obtain ⟨d2,t2⟩:=p
   rw [h1,h2] at e
   dsimp only at e
   cases h3:op d1 d2 with
   | none=>rw [h3] at e;cases e
   | some d3=>
    rw [h3] at e
    cases e
    exact ⟨d1,t1,d2,t2,rfl,rfl,h3,rfl⟩
def Does2 (K:PySem.W.Frag) (r:R2) (op:D→D→Option D):Prop:=∀ (H:Hp) (x y:V) (d1 d2:D) (f1 f2:List Addr) (d:D) (Q:VK),Rep K H d1 x f1→Rep K H d2 y f2→op d1 d2=some d →
 (∀ H' v,Same H H'→Rep K H' d v []→Q v H')→r x y H Q
theorem fp_2 {a b e:Expr}{fa fb:EF}{r:R2}{op:D→D→Option D} (dd:Does2 X.K r op) (ha:FP X a fa) (hb:FP X b fb) (he:∀ ta tb,PE X a ta→PE X b tb→PE X e (tOp r ta tb)):FP X e (e2 op fa fb):=by
 obtain ⟨ta,pa,sa⟩:=ha
 obtain ⟨tb,pb,sb⟩:=hb
 refine ⟨_,he ta tb pa pb,fun H0 S z held ρ σ H Q d tg ok e q=>?_⟩
 obtain ⟨d1,t1,d2,t2,e1,e2',e3,rfl⟩:=e2_of e
 refine sa H0 S z held ρ σ H _ d1 t1 ok e1 fun H1 x f1 s1 r1 _=>?_
 refine sb H0 S z held ρ σ H1 _ d2 t2 (ok.same s1) e2' fun H2 y f2 s2 r2 _=>?_
 exact dd H2 x y d1 d2 f1 f2 d Q (r1.same s2) r2 e3 fun H3 v s3 r3=>q H3 v [] ((s1.trans s2).trans s3) r3 .nil
end
end L2.Ev
namespace L2.Ev
open PySem PySem.Spec PyProof.Rows
def joinT:Tag→Tag→Tag
 | .sh o,.sh p=>.sh (o++p)
 | .sh o,_=>.sh o
 | _,t=>t
def joinA:List (D×Tag)→Tag
 | []=>.own
 | p::r=>joinT p.2 (joinA r)
def FA (X:Cx) (es:List Expr) (f:AF):Prop:=∃ t,PA X es t∧(∀ ρ ps,f ρ=some ps→ps.length=es.length)∧∀ (H0:Hp) (S:List Addr) (z:Addr→Option Nat) (held:List Held) (ρ:Rho) (σ:St) (H:Hp) (Q:List V→Hp→Prop) (ps:List (D×Tag)),
 Ok X.K H0 S z held ρ σ H→f ρ=some ps→(∀ H' vs fp,Same H H'→Reps X.K H' (ps.map (·.1)) vs fp→TagOk z H (joinA ps) fp→Q vs H')→t σ H Q
def aNil:AF:=fun _=>some []
def aCons (f:EF) (g:AF):AF:=fun ρ=>match f ρ,g ρ with
 | some p,some ps=>some (p::ps)
 | _,_=>none
theorem aCons_of {f:EF}{g:AF}{ρ:Rho}{ps:List (D×Tag)} (e:aCons f g ρ=some ps):∃ d t r,f ρ=some (d,t)∧g ρ=some r∧ps=(d,t)::r:=by
 unfold aCons at e
 cases h1:f ρ with
 | none=>rw [h1] at e;cases e
 | some p=>
  cases h2:g ρ with
  | none=>rw [h1,h2] at e;cases e
  | some r=>
   rw [h1,h2] at e
   cases e
   exact ⟨p.1,p.2,r,rfl,rfl,rfl⟩
theorem TagOk.join {K:PySem.W.Frag}{H0:Hp}{S:List Addr}{z:Addr→Option Nat}{held:List Held}{ρ:Rho}{σ:St}{H H1:Hp}{t1 t2:Tag}{f1 f2:List Addr} (ok:Ok K H0 S z held ρ σ H) (s:Same H H1)
  (h1:TagOk z H t1 f1) (d1:∀ a∈f1,∃ o,H1 a=some o∧MutO o=true) (h2:TagOk z H1 t2 f2):TagOk z H (joinT t1 t2) (f1++f2):=by
 have nz:∀ {a:Addr}{j:Nat},H a=none→z a=some j→False:=fun {a j} e q=>by
  obtain ⟨⟨o,w⟩,_⟩:=ok.zd a j q
  rw [e] at w;cases w
 have both:∀ {t1 t2:Tag},(f1.Nodup∧∀ a∈f1,H a=none)→(f2.Nodup∧∀ a∈f2,H1 a=none)→(f1++f2).Nodup∧∀ a∈f1++f2,H a=none:=fun p q=>by
  refine ⟨List.nodup_append.mpr ⟨p.1,q.1,fun a m b m' e=>?_⟩,fun a m=>?_⟩
  ·subst e
   obtain ⟨o,w,_⟩:=d1 a m
   rw [q.2 a m'] at w;cases w
  ·rcases List.mem_append.mp m with m | m
   ·exact p.2 a m
   ·exact s.free (q.2 a m)
 cases t1 with
 | sh o=>
  have h1':∀ a∈f1,∀ j,z a=some j→j∈o:=h1
  cases t2 with
  | sh p=>
   intro a m j q
   rcases List.mem_append.mp m with m | m
   ·exact List.mem_append_left _ (h1' a m j q)
   ·exact List.mem_append_right _ (h2 a m j q)
  | own=>
   intro a m j q
   rcases List.mem_append.mp m with m | m
   ·exact h1' a m j q
   ·exact (nz (s.free (h2.2 a m)) q).elim
  | lk=>
   intro a m j q
   rcases List.mem_append.mp m with m | m
   ·exact h1' a m j q
   ·exact (nz (s.free (h2.2 a m)) q).elim
 | own=>
  cases t2 with
  | sh p=>
   intro a m j q
   rcases List.mem_append.mp m with m | m
   ·exact (nz (h1.2 a m) q).elim
   ·exact h2 a m j q
  | own=>exact both (t1:=.own) (t2:=.own) h1 h2
  | lk=>exact both (t1:=.own) (t2:=.own) h1 h2
 | lk=>
  cases t2 with
  | sh p=>
   intro a m j q
   rcases List.mem_append.mp m with m | m
   ·exact (nz (h1.2 a m) q).elim
   ·exact h2 a m j q
  | own=>exact both (t1:=.own) (t2:=.own) h1 h2
  | lk=>exact both (t1:=.own) (t2:=.own) h1 h2
section
variable {X:Cx}{pos:Pos}
theorem fa_nil:FA X [] aNil:=⟨_,pa_nil,fun _ _ e=>by cases e;rfl,fun _ _ _ _ _ _ H _ _ _ e q=>by cases e;exact q H _ _ (Same.refl H) .nil .nil⟩
theorem fa_cons {e:Expr}{es:List Expr}{f:EF}{g:AF} (ha:FP X e f) (hr:FA X es g) (hs:starEach (e::es) X.env=(false,eval e X.env)::starEach es X.env:=by rfl):FA X (e::es) (aCons f g):=by
 obtain ⟨t,p,q⟩:=ha
 obtain ⟨t',p',l',q'⟩:=hr
 refine ⟨_,pa_cons p p' hs,fun ρ ps e=>by obtain ⟨d,tg,r,e1,e2,rfl⟩:=aCons_of e;rw [List.length_cons,List.length_cons,l' ρ r e2],fun H0 S z held ρ σ H Q ps ok e k=>?_⟩
 obtain ⟨d,tg,r,e1,e2,rfl⟩:=aCons_of e
 refine q H0 S z held ρ σ H _ d tg ok e1 fun H1 v f1 s1 r1 g1=>?_
 refine q' H0 S z held ρ σ H1 _ r (ok.same s1) e2 fun H2 vs f2 s2 r2 g2=>?_
 exact k H2 (v::vs) (f1++f2) (s1.trans s2) (.cons (r1.same s2) r2) (TagOk.join ok s1 g1 r1.dom g2)
def eTup (g:AF):EF:=fun ρ=>(g ρ).map fun ps=>(.tup (ps.map (·.1)),joinA ps)
theorem fp_tup {es:List Expr}{g:AF} {x1} (h:FA X es g) (hl:es.length≤1000:=by decide):FP X (.Tuple es x1 pos) (eTup g):=by
 obtain ⟨t,p,hg,q⟩:=h
 refine ⟨_,pe_tup p,fun H0 S z held ρ σ H Q d tg ok e k=>?_⟩
 unfold eTup at e
 cases h1:g ρ with
 | none=>rw [h1] at e;cases e
 | some ps=>
  rw [h1] at e
  cases e
  refine q H0 S z held ρ σ H _ ps ok h1 fun H1 vs fp s1 r1 g1=>⟨?_,fun a ha=>?_⟩
  ·rw [← r1.length,List.length_map,hg ρ ps h1]
   exact Nat.le_of_lt (small1000 hl)
  ·have s2:Same H1 (upd H1 a (.tup vs)):=fun b o e=>by rw [upd_ne (ne_of_none e ha)];exact e
   exact k _ _ fp (s1.trans s2) (.tup (SqT.of upd_same) (r1.same s2)) g1
def eLst (g:AF):EF:=fun ρ=>(g ρ).map fun ps=>(.lst (ps.map (·.1)),joinA ps)
theorem TagOk.cons {K:PySem.W.Frag}{H0:Hp}{S:List Addr}{z:Addr→Option Nat}{held:List Held}{ρ:Rho}{σ:St}{H H1:Hp}{t:Tag}{fp:List Addr}{a:Addr} (ok:Ok K H0 S z held ρ σ H) (s:Same H H1) (h:TagOk z H t fp)
  (d:∀ b∈fp,∃ o,H1 b=some o∧MutO o=true) (ha:H1 a=none):TagOk z H t (a::fp):=by
 have na:H a=none:=s.free ha
 have both:(fp.Nodup∧∀ b∈fp,H b=none)→(a::fp).Nodup∧∀ b∈a::fp,H b=none:=fun p=>by
  refine ⟨List.nodup_cons.mpr ⟨fun m=>?_,p.1⟩,fun b m=>?_⟩
  ·obtain ⟨o,w,_⟩:=d a m
   rw [ha] at w;cases w
  ·rcases List.mem_cons.mp m with e | m
   ·rw [e];exact na
   ·exact p.2 b m
 cases t with
 | sh o=>
  intro b m j q
  rcases List.mem_cons.mp m with e | m
  ·obtain ⟨⟨o,w⟩,_⟩:=ok.zd b j q
   rw [e,na] at w;cases w
  ·exact h b m j q
 | own=>exact both h
 | lk=>exact both h
theorem fp_lst {es:List Expr}{g:AF} (h:FA X es g) (hl:es.length≤1000:=by decide):FP X (.List es pos) (eLst g):=by
 obtain ⟨t,p,hg,q⟩:=h
 refine ⟨_,pe_lst p,fun H0 S z held ρ σ H Q d tg ok e k=>?_⟩
 unfold eLst at e
 cases h1:g ρ with
 | none=>rw [h1] at e;cases e
 | some ps=>
  rw [h1] at e
  cases e
  refine q H0 S z held ρ σ H _ ps ok h1 fun H1 vs fp s1 r1 g1=>⟨?_,fun a ha=>?_⟩
  ·rw [← r1.length,List.length_map,hg ρ ps h1]
   exact Nat.le_of_lt (small1000 hl)
  ·have s2:Same H1 (upd H1 a (.lst vs)):=fun b o e=>by rw [upd_ne (ne_of_none e ha)];exact e
   exact k _ _ (a::fp) (s1.trans s2) (.lst upd_same (r1.same s2)) (g1.cons ok s1 r1.dom ha)
end
def spF (K:PySem.W.Frag) (F:List D→Option D):Sp:=fun vs H Q _=>∃ ds fp d,Reps K H ds vs fp∧F ds=some d∧∀ H' v fp',Same H H'→Rep K H' d v fp'→fp'.Nodup→(∀ a∈fp',H a=none)→Q v H'
def eCall (F:List D→Option D) (g:AF):EF:=fun ρ=>(g ρ).bind fun ps=>(F (ps.map (·.1))).map fun d=>(d,.own)
theorem eCall_of {F:List D→Option D}{g:AF}{ρ:Rho}{d:D}{tg:Tag} (e:eCall F g ρ=some (d,tg)):∃ ps,g ρ=some ps∧F (ps.map (·.1))=some d∧tg=.own:=by
 unfold eCall at e
 cases h1:g ρ with
 | none=>rw [h1] at e;cases e
 | some ps=>
  rw [h1,Option.bind_some] at e
  cases h2:F (ps.map (·.1)) with
  | none=>rw [h2] at e;cases e
  | some d'=>
   rw [h2] at e
   cases e
   exact ⟨ps,rfl,h2,rfl⟩
section
variable {X:Cx}{x:Str}{p pos:Pos}{e:Expr}{es:List Expr}{k:Nat}{f:Addr}{fd:FuncData}{ps:List Str}{F:List D→Option D}{g:AF}
theorem fp_call {cm:Bool} (G:FnOk X.prog X.w X.K X.mg X.base CX0 k f fd ps (spF X.K F) cm) (hr:Room k X.A cm) (hm:X.mg x=some (.ref f)) (hk:PySem.W.keepIn X.K (.ref f)=true) (hb:Binds X.K fd ps []) (ha:FA X (e::es) g)
  (hg:Gl X x:=by rfl) (hdb:(x == ("__debug__":Str))=false:=by decide)
  (he:starEach (e::es) X.env=(false,eval e X.env)::starEach es X.env:=by rfl) (hpl:(backTo pos (starEach es X.env)).any (·.1)=false:=by rfl):FP X (.Call (.Name x p) (e::es) [] pos) (eCall F g):=by
 obtain ⟨t,pa,_,sa⟩:=ha
 refine ⟨_,pe_call G hr hg hm hk hb .nil pass0 pa hdb he hpl,fun H0 S z held ρ σ H Q d tg ok e0 q=>?_⟩
 obtain ⟨qs,e1,e2,rfl⟩:=eCall_of e0
 refine sa H0 S z held ρ σ H _ qs ok e1 fun H1 vs fp s1 r1 _=>?_
 rw [List.append_nil]
 exact ⟨_,fp,d,r1,e2,fun H2 v fp' s2 r2 nd fr=>q H2 v fp' (s1.trans s2) r2 ⟨nd,fun a m=>s1.free (fr a m)⟩⟩
end
section
variable {X:Cx}{pos:Pos}
def tV (f:EF):TF:=fun ρ=>match f ρ with
 | some (.bl b,_)=>some b
 | _=>none
theorem tV_of {f:EF}{ρ:Rho}{b:Bool} (e:tV f ρ=some b):∃ t,f ρ=some (.bl b,t):=by
 unfold tV at e
 cases h:f ρ with
 | none=>rw [h] at e;cases e
 | some p=>
  obtain ⟨d,t⟩:=p
  rw [h] at e
  cases d <;> first | (cases e;exact ⟨t,rfl⟩) | cases e
theorem ft_cmp {op:CmpOp}{r:R2}{o:D→D→Option D}{a b:Expr}{fa fb:EF} (ho:OpR X (compareOp op) r) (dd:Does2 X.K r o) (ha:FP X a fa) (hb:FP X b fb) (hm:behindInMarks op b=false):FT X (.Compare a [op] [b] pos) (tV (e2 o fa fb)):=by
 obtain ⟨ta,pa,sa⟩:=ha
 obtain ⟨tb,pb,sb⟩:=hb
 refine ⟨_,pt_cmpR ho pa pb hm,fun H0 S z held ρ σ H Q c ok e k=>?_⟩
 obtain ⟨tg,e0⟩:=tV_of e
 obtain ⟨d1,t1,d2,t2,e1,e2',e3,rfl⟩:=e2_of e0
 refine sa H0 S z held ρ σ H _ d1 t1 ok e1 fun H1 x f1 s1 r1 _=>?_
 refine sb H0 S z held ρ σ H1 _ d2 t2 (ok.same s1) e2' fun H2 y f2 s2 r2 _=>?_
 refine dd H2 x y d1 d2 f1 f2 _ _ (r1.same s2) r2 e3 fun H3 v s3 r3=>?_
 cases r3
 exact ⟨c,rfl,k H3 ((s1.trans s2).trans s3)⟩
theorem fp_cmp {op:CmpOp}{r:R2}{o:D→D→Option D}{a b:Expr}{fa fb:EF} (ho:OpR X (compareOp op) r) (dd:Does2 X.K r o) (ha:FP X a fa) (hb:FP X b fb) (hm:behindInMarks op b=false):FP X (.Compare a [op] [b] pos) (e2 o fa fb):=
 fp_2 dd ha hb fun _ _ pa pb=>pe_cmpR ho pa pb hm
theorem fp_bin {op:Operator}{r:R2}{o:D→D→Option D}{a b:Expr}{fa fb:EF} (ho:OpR X (binaryOp op) r) (dd:Does2 X.K r o) (ha:FP X a fa) (hb:FP X b fb):FP X (.BinOp a op b pos) (e2 o fa fb):=
 fp_2 dd ha hb fun _ _ pa pb=>pe_op ho pa pb
def tAnd2 (f g:TF):TF:=fun ρ=>match f ρ with
 | some true=>g ρ
 | some false=>some false
 | none=>none
def tOr2 (f g:TF):TF:=fun ρ=>match f ρ with
 | some true=>some true
 | some false=>g ρ
 | none=>none
def tNot1 (f:TF):TF:=fun ρ=>(f ρ).map fun b=>!b
def FW (X:Cx) (e:Expr) (f:TF):Prop:=∃ t,PW X e t∧∀ (H0:Hp) (S:List Addr) (z:Addr→Option Nat) (held:List Held) (ρ:Rho) (σ:St) (H:Hp) (Q:Bool→Hp→Prop) (b:Bool),
 Ok X.K H0 S z held ρ σ H→f ρ=some b→(∀ H',Same H H'→Q b H')→t σ H Q
theorem FW.ft {e:Expr}{f:TF} (h:FW X e f):FT X e f:=let ⟨t,p,q⟩:=h;⟨t,p.pt,q⟩
theorem fw_and1 {a:Expr}{f:TF} (h:FT X a f):FW X (.BoolOp .And [a] pos) f:=let ⟨t,p,q⟩:=h;⟨t,pw_and1 p,q⟩
theorem fw_or1 {a:Expr}{f:TF} (h:FT X a f):FW X (.BoolOp .Or [a] pos) f:=let ⟨t,p,q⟩:=h;⟨t,pw_or1 p,q⟩
theorem fw_and {a b:Expr}{rest:List Expr}{f g:TF} (ha:FT X a f) (hb:FW X (.BoolOp .And (b::rest) pos) g):FW X (.BoolOp .And (a::b::rest) pos) (tAnd2 f g):=by
 obtain ⟨t,p,q⟩:=ha
 obtain ⟨t',p',q'⟩:=hb
 refine ⟨_,pw_and p p',fun H0 S z held ρ σ H Q c ok e k=>?_⟩
 unfold tAnd2 at e
 cases h:f ρ with
 | none=>rw [h] at e;cases e
 | some y=>
  rw [h] at e
  cases y with
  | false=>
   cases e
   refine q H0 S z held ρ σ H _ false ok h fun H1 s1=>?_
   rw [if_neg Bool.false_ne_true]
   exact k H1 s1
  | true=>
   refine q H0 S z held ρ σ H _ true ok h fun H1 s1=>?_
   rw [if_pos rfl]
   exact q' H0 S z held ρ σ H1 _ c (ok.same s1) e fun H2 s2=>k H2 (s1.trans s2)
theorem fw_or {a b:Expr}{rest:List Expr}{f g:TF} (ha:FT X a f) (hb:FW X (.BoolOp .Or (b::rest) pos) g):FW X (.BoolOp .Or (a::b::rest) pos) (tOr2 f g):=by
 obtain ⟨t,p,q⟩:=ha
 obtain ⟨t',p',q'⟩:=hb
 refine ⟨_,pw_or p p',fun H0 S z held ρ σ H Q c ok e k=>?_⟩
 unfold tOr2 at e
 cases h:f ρ with
 | none=>rw [h] at e;cases e
 | some y=>
  rw [h] at e
  cases y with
  | true=>
   cases e
   refine q H0 S z held ρ σ H _ true ok h fun H1 s1=>?_
   rw [if_pos rfl]
   exact k H1 s1
  | false=>
   refine q H0 S z held ρ σ H _ false ok h fun H1 s1=>?_
   rw [if_neg Bool.false_ne_true]
   exact q' H0 S z held ρ σ H1 _ c (ok.same s1) e fun H2 s2=>k H2 (s1.trans s2)
end
inductive Out where
 | nx (ρ:Rho) | rt (d:D) | bk (ρ:Rho) | ct (ρ:Rho)
 | er (raw:Bool) (cn:Str) (ρ:Rho)
abbrev SF:=Rho→Option Out
def kpt (X:Cx) (x:Str):Bool:=x == ("self":Str)||(X.fn ("self":Str)&&!X.fn x)
def Kp (X:Cx) (σ σ':St):Prop:=∀ (i:Nat) (x:Str),X.N[i]? = some x→kpt X x=true→σ'[i]? = σ[i]?
theorem Kp.refl (X:Cx) (σ:St):Kp X σ σ:=fun _ _ _ _=>rfl
theorem Kp.trans {X:Cx}{σ σ1 σ2:St} (a:Kp X σ σ1) (b:Kp X σ1 σ2):Kp X σ σ2:=fun i x h k=>(b i x h k).trans (a i x h k)
theorem Kp.set {X:Cx}{σ:St}{i:Nat}{x:Str}{v:Option V} (hi:X.N[i]? = some x) (hs:kpt X x=false):Kp X σ (σ.set i v):=fun j y h k=>by
 refine List.getElem?_set_ne fun e=>?_
 subst e
 rw [hi] at h
 have h:=Option.some.inj h
 subst h
 rw [hs] at k;cases k
def PostE (X:Cx) (H0:Hp) (S:List Addr) (held:List Held) (σ0:St) (raw:Bool) (cn:Str) (ρ:Rho):Prop:=∃ ES:XS,(if raw=true then ThrowsN X ES else ThrowsT X ES) ∧
 ∀ z σ H C,Ok X.K H0 S z held ρ σ H→Kp X σ0 σ→PySem.W.nsIn X.K mainGlobals cn=some (some (.ref C))→ES (.ref C) σ H
theorem PostE.of {X:Cx}{H0:Hp}{S:List Addr}{held:List Held}{σ σ':St}{raw:Bool}{cn:Str}{ρ:Rho} (k:PostE X H0 S held σ raw cn ρ) (a:Kp X σ σ'):PostE X H0 S held σ' raw cn ρ:=
 let ⟨ES,th,q⟩:=k;⟨ES,th,fun z s H C ok b hC=>q z s H C ok (a.trans b) hC⟩
def Post (X:Cx) (H0:Hp) (S:List Addr) (held:List Held) (σ0:St) (E:Ends):Out→Prop
 | .nx ρ=>∀ z σ H,Ok X.K H0 S z held ρ σ H→Kp X σ0 σ→E.nx σ H
 | .bk ρ=>∀ z σ H,Ok X.K H0 S z held ρ σ H→Kp X σ0 σ→E.bk σ H
 | .ct ρ=>∀ z σ H,Ok X.K H0 S z held ρ σ H→Kp X σ0 σ→E.ct σ H
 | .er raw cn ρ=>PostE X H0 S held σ0 raw cn ρ
 | .rt d=>∀ H v fp,(∀ a o,H0 a=some o→a∉S→H a=some o)→Rep X.K H d v fp→fp.Nodup→(∀ a∈fp,H0 a=none∨a∈S)→E.rt v H
def FS (X:Cx) (st:List Stmt) (f:SF):Prop:=∃ t,PSs X st t∧∀ (H0:Hp) (S:List Addr) (z:Addr→Option Nat) (held:List Held) (ρ:Rho) (σ:St) (H:Hp) (E:Ends) (o:Out),
 Ok X.K H0 S z held ρ σ H→f ρ=some o→Post X H0 S held σ E o→t E σ H
def FS1 (X:Cx) (st:Stmt) (f:SF):Prop:=∃ t,PS X st t∧∀ (H0:Hp) (S:List Addr) (z:Addr→Option Nat) (held:List Held) (ρ:Rho) (σ:St) (H:Hp) (E:Ends) (o:Out),
 Ok X.K H0 S z held ρ σ H→f ρ=some o→Post X H0 S held σ E o→t E σ H
theorem Post.of {X:Cx}{H0:Hp}{S:List Addr}{held:List Held}{σ σ':St}{E:Ends}{o:Out} (k:Post X H0 S held σ E o) (a:Kp X σ σ'):Post X H0 S held σ' E o:=by
 cases o with
 | nx ρ=>exact fun z s H ok b=>k z s H ok (a.trans b)
 | bk ρ=>exact fun z s H ok b=>k z s H ok (a.trans b)
 | ct ρ=>exact fun z s H ok b=>k z s H ok (a.trans b)
 | rt d=>exact k
 | er raw cn ρ=>exact PostE.of k a
def sNx:SF:=fun ρ=>some (.nx ρ)
def sSeq (f g:SF):SF:=fun ρ=>match f ρ with
 | some (.nx ρ')=>g ρ'
 | o=>o
section
variable {X:Cx}{pos:Pos}
theorem fs_nil:FS X [] sNx:=⟨_,pss_nil,fun _ _ z _ _ σ H _ _ ok e k=>by cases e;exact k z σ H ok (.refl _ _)⟩
theorem fs_one {st:Stmt}{f:SF} (h:FS1 X st f):FS X [st] f:=let ⟨t,p,q⟩:=h;⟨t,pss_one p,q⟩
theorem fs_cons {st:Stmt}{rest:List Stmt}{f g:SF} (h1:FS1 X st f) (h2:FS X rest g):FS X (st::rest) (sSeq f g):=by
 obtain ⟨t,p,q⟩:=h1
 obtain ⟨t',p',q'⟩:=h2
 refine ⟨_,pss_cons p p',fun H0 S z held ρ σ H E o ok e k=>?_⟩
 unfold sSeq at e
 cases h:f ρ with
 | none=>rw [h] at e;cases e
 | some w=>
  refine q H0 S z held ρ σ H _ w ok h ?_
  rw [h] at e
  cases w with
  | nx ρ'=>exact fun z' σ' H' ok' a=>q' H0 S z' held ρ' σ' H' E o ok' e (k.of a)
  | rt d=>cases e;exact k
  | bk ρ'=>cases e;exact k
  | ct ρ'=>cases e;exact k
  | er _ _ _=>cases e;exact k
def sBk:SF:=fun ρ=>some (.bk ρ)
def sCt:SF:=fun ρ=>some (.ct ρ)
def sNo:SF:=fun _=>none
theorem fs_no {st:Stmt}:FS1 X st sNo:=⟨_,ps_never,fun _ _ _ _ _ _ _ _ _ _ e _=>by cases e⟩
def sIf (c:TF) (f g:SF):SF:=fun ρ=>match c ρ with
 | some true=>f ρ
 | some false=>g ρ
 | none=>none
theorem fs_if {c:Expr}{a b:List Stmt}{tc:TF}{f g:SF} (hc:FT X c tc) (ha:FS X a f) (hb:FS X b g):FS1 X (.If c a b pos) (sIf tc f g):=by
 obtain ⟨t,p,q⟩:=hc
 obtain ⟨t1,p1,q1⟩:=ha
 obtain ⟨t2,p2,q2⟩:=hb
 refine ⟨_,ps_if p p1 p2,fun H0 S z held ρ σ H E o ok e k=>?_⟩
 unfold sIf at e
 cases h:tc ρ with
 | none=>rw [h] at e;cases e
 | some y=>
  rw [h] at e
  refine q H0 S z held ρ σ H _ y ok h fun H1 s1=>?_
  cases y with
  | true=>rw [if_pos rfl];exact q1 H0 S z held ρ σ H1 E o (ok.same s1) e k
  | false=>rw [if_neg Bool.false_ne_true];exact q2 H0 S z held ρ σ H1 E o (ok.same s1) e k
def isOwn:Tag→Bool
 | .sh _=>false
 | _=>true
def sRet (f:EF):SF:=fun ρ=>match f ρ with
 | some (d,t)=>if isOwn t=true then some (.rt d) else if imm d=true then some (.rt d) else none
 | none=>none
theorem fs_ret {e:Expr}{f:EF} (he:FP X e f):FS1 X (.Return (some e) pos) (sRet f):=by
 obtain ⟨t,p,q⟩:=he
 refine ⟨_,ps_ret p,fun H0 S z held ρ σ H E o ok e k=>?_⟩
 unfold sRet at e
 cases h:f ρ with
 | none=>rw [h] at e;cases e
 | some w=>
  obtain ⟨d,tg⟩:=w
  rw [h] at e
  dsimp only at e
  refine q H0 S z held ρ σ H _ d tg ok h fun H1 v fp s1 r1 g1=>?_
  have en:∀ a o,H0 a=some o→a∉S→H1 a=some o:=fun a o e n=>s1 _ _ (ok.en a o e n)
  by_cases ho:isOwn tg=true
  ·rw [if_pos ho] at e
   cases e
   have g:fp.Nodup∧∀ a∈fp,H a=none:=by cases tg <;> first | exact g1 | cases ho
   refine k H1 v fp en r1 g.1 fun a m=>?_
   cases h0:H0 a with
   | none=>exact .inl rfl
   | some o=>
    by_cases hs:a∈S
    ·exact .inr hs
    ·have w:=ok.en a o h0 hs
     rw [g.2 a m] at w;cases w
  ·rw [if_neg ho] at e
   by_cases hi:imm d=true
   ·rw [if_pos hi] at e
    cases e
    have hn:=r1.imm hi
    subst hn
    exact k H1 v [] en r1 List.nodup_nil fun a m=>nomatch m
   ·rw [if_neg hi] at e;cases e
def sRetV (i:Nat):SF:=fun ρ=>match ρ[i]? with
 | some (some (d,t))=>if isOwn t=true then some (.rt d) else if imm d=true then some (.rt d) else none
 | _=>none
theorem fs_retV (i:Nat) {x:Str}{pos':Pos} (hN:X.N[i]? = some x:=by rfl) (hv:Vis X.env.scope x:=by first | exact Or.inl rfl | exact Or.inr (Or.inl rfl) | exact Or.inr (Or.inr rfl)) (hd:(x == ("__debug__":Str))=false:=by decide)
  (hcd:(x == ("__classdict__":Str))=false:=by decide):FS1 X (.Return (some (.Name x pos')) pos) (sRetV i):=by
 refine ⟨_,ps_ret (pe_var (i:=i) hN hv hd hcd),fun H0 S z held ρ σ H E o ok e k=>?_⟩
 unfold sRetV at e
 cases h:ρ[i]? with
 | none=>rw [h] at e;cases e
 | some w=>
  cases w with
  | none=>rw [h] at e;cases e
  | some w=>
   obtain ⟨d,tg⟩:=w
   rw [h] at e
   dsimp only at e
   obtain ⟨v,fp,hs,r,zz⟩:=ok.sl i d tg h
   refine ⟨v,hs,?_⟩
   by_cases ho:isOwn tg=true
   ·rw [if_pos ho] at e
    cases e
    have g:fp.Nodup∧∀ a∈fp,z a=some i:=by cases tg <;> first | exact zz | cases ho
    exact k H v fp ok.en r g.1 fun a m=>(ok.zd a i (g.2 a m)).2
   ·rw [if_neg ho] at e
    by_cases hi:imm d=true
    ·rw [if_pos hi] at e
     cases e
     have hn:=r.imm hi
     subst hn
     exact k H v [] ok.en r List.nodup_nil fun a m=>nomatch m
    ·rw [if_neg hi] at e;cases e
def setS (ρ:Rho) (i:Nat) (d:D):Tag→Rho
 | .sh o=>ρ.set i (some (d,.sh o))
 | _=>ρ.set i (some (d,.own))
def sSet (i:Nat) (f:EF):SF:=fun ρ=>match f ρ with
 | some (d,t)=>some (.nx (setS ρ i d t))
 | none=>none
theorem Ok.set {K:PySem.W.Frag}{H0:Hp}{S:List Addr}{z:Addr→Option Nat}{held:List Held}{ρ:Rho}{σ:St}{H H1:Hp}{i:Nat}{d:D}{t:Tag}{v:V}{fp:List Addr} (ok:Ok K H0 S z held ρ σ H) (hi:i < σ.length) (s:Same H H1)
  (r:Rep K H1 d v fp) (g:TagOk z H t fp):∃ z',Ok K H0 S z' held (setS ρ i d t) (σ.set i (some v)) H1:=by
 classical
 have hiρ:i < ρ.length:=by rw [ok.ln];exact hi
 have dH:∀ {a:Addr},H a=none→z a=none:=fun {a} e=>by
  cases q:z a with
  | none=>rfl
  | some j=>obtain ⟨⟨o,w⟩,_⟩:=ok.zd a j q;rw [e] at w;cases w
 have main:∀ (fo:List Addr) (tg:Tag),(∀ a∈fo,H a=none∧∃ o,H1 a=some o)→InZ (fun a=>if a∈fo then some i else if z a=some i then none else z a) i tg fp →
   Ok K H0 S (fun a=>if a∈fo then some i else if z a=some i then none else z a) held (ρ.set i (some (d,tg))) (σ.set i (some v)) H1:=by
  intro fo tg hfo hz
  have old:∀ {fp':List Addr},(∀ a∈fp',∃ o,H a=some o∧MutO o=true)→∀ a∈fp',(if a∈fo then some i else if z a=some i then none else z a)=(if z a=some i then none else z a):=fun {fp'} h a m=>by
   rw [if_neg fun q=>?_]
   obtain ⟨o,w,_⟩:=h a m
   rw [(hfo a q).1] at w;cases w
  refine ⟨fun j d' t' e=>?_,fun p hp=>?_,fun a j e=>?_,fun a o e n=>s _ _ (ok.en a o e n),by rw [List.length_set,List.length_set];exact ok.ln⟩
  ·by_cases hj:j=i
   ·subst hj
    rw [List.getElem?_set_self hiρ] at e
    cases e
    exact ⟨v,fp,List.getElem?_set_self hi,r,hz⟩
   ·rw [List.getElem?_set_ne (Ne.symm hj)] at e
    obtain ⟨v',fp',hs',r',z'⟩:=ok.sl j d' t' e
    refine ⟨v',fp',by rw [List.getElem?_set_ne (Ne.symm hj)];exact hs',r'.same s,?_⟩
    have o1:=old r'.dom
    cases t' with
    | sh o=>
     intro a m k q
     dsimp only at q
     rw [o1 a m] at q
     by_cases w:z a=some i
     ·rw [if_pos w] at q;cases q
     ·rw [if_neg w] at q;exact z' a m k q
    | own=>exact ⟨z'.1,fun a m=>by dsimp only;rw [o1 a m,if_neg (by rw [z'.2 a m];intro w;exact hj (Option.some.inj w))];exact z'.2 a m⟩
    | lk=>exact ⟨z'.1,fun a m=>by dsimp only;rw [o1 a m,if_neg (by rw [z'.2 a m];intro w;exact hj (Option.some.inj w))];exact z'.2 a m⟩
  ·obtain ⟨r',hl'⟩:=ok.hl p hp
   refine ⟨r'.same s,fun a m j q=>?_⟩
   rw [old r'.dom a m] at q
   by_cases w:z a=some i
   ·rw [if_pos w] at q;cases q
   ·rw [if_neg w] at q
    obtain ⟨z0',e'⟩:=hl' a m j q
    have hj:j≠i:=fun e=>w (by rw [← e];exact q)
    exact ⟨z0',fun d'=>by rw [List.getElem?_set_ne (Ne.symm hj)];exact e' d'⟩
  ·by_cases w:a∈fo
   ·obtain ⟨w1,w2⟩:=hfo a w
    refine ⟨w2,?_⟩
    cases h0:H0 a with
    | none=>exact .inl rfl
    | some o=>
     by_cases hs:a∈S
     ·exact .inr hs
     ·have q:=ok.en a o h0 hs
      rw [w1] at q;cases q
   ·rw [if_neg w] at e
    by_cases w':z a=some i
    ·rw [if_pos w'] at e;cases e
    ·rw [if_neg w'] at e
     obtain ⟨⟨o,x⟩,y⟩:=ok.zd a j e
     exact ⟨⟨o,s _ _ x⟩,y⟩
 have own:(fp.Nodup∧∀ a∈fp,H a=none)→Ok K H0 S (fun a=>if a∈fp then some i else if z a=some i then none else z a) held (ρ.set i (some (d,.own))) (σ.set i (some v)) H1:=fun g=>
  main fp .own (fun a m=>⟨g.2 a m,let ⟨o,w,_⟩:=r.dom a m;⟨o,w⟩⟩) ⟨g.1,fun a m=>if_pos m⟩
 cases t with
 | own=>exact ⟨_,own g⟩
 | lk=>exact ⟨_,own g⟩
 | sh o=>
  refine ⟨_,main [] (.sh o) (fun a m=>nomatch m) fun a m j q=>?_⟩
  have q:(if a∈([]:List Addr) then some i else if z a=some i then none else z a)=some j:=q
  rw [if_neg (show ¬ a∈([]:List Addr) from fun w=>nomatch w)] at q
  by_cases w:z a=some i
  ·rw [if_pos w] at q;cases q
  ·rw [if_neg w] at q;exact g a m j q
theorem Ok.stored {K:PySem.W.Frag}{H0:Hp}{S:List Addr}{z:Addr→Option Nat}{held:List Held}{ρ:Rho}{σ:St}{H H1:Hp}{i:Nat}{d:D}{t:Tag}{v:V}{fp:List Addr}{G:Prop} (ok:Ok K H0 S z held ρ σ H) (s:Same H H1)
  (r:Rep K H1 d v fp) (g:TagOk z H t fp) (k:∀ z',Ok K H0 S z' held (setS ρ i d t) (σ.set i (some v)) H1→G):G:=by
 by_cases hi:i < σ.length
 ·obtain ⟨z',ok'⟩:=ok.set hi s r g
  exact k z' ok'
 ·have e1:σ.set i (some v)=σ:=List.set_eq_of_length_le (Nat.le_of_not_lt hi)
  have e2:∀ w,ρ.set i w=ρ:=fun w=>List.set_eq_of_length_le (by rw [ok.ln];exact Nat.le_of_not_lt hi)
  have e3:setS ρ i d t=ρ:=by cases t <;> exact e2 _
  refine k z ?_
  rw [e1,e3]
  exact ok.same s
theorem fs_set (i:Nat) {x:Str}{e:Expr}{f:EF}{pos':Pos} (he:FP X e f) (hN:X.N.Nodup) (hi:X.N[i]? = some x:=by rfl) (hx:Loc X.env.scope x:=by first | exact Or.inl rfl | exact Or.inr rfl)
  (hs:swapsWith e (some (.Name x pos')) pos.line X.env=pure false:=by rfl) (hf:X.fn x=true∨X.env.scope.names.lookup x=some .local:=by first | exact .inl rfl | exact .inr rfl) (hself:kpt X x=false:=by rfl):FS1 X (.Assign [.Name x pos'] e pos) (sSet i f):=by
 obtain ⟨t,p,q⟩:=he
 refine ⟨_,ps_set (i:=i) hN hi hx p hs hf,fun H0 S z held ρ σ H E o ok e k=>?_⟩
 unfold sSet at e
 cases h:f ρ with
 | none=>rw [h] at e;cases e
 | some w=>
  obtain ⟨d,tg⟩:=w
  rw [h] at e
  cases e
  refine q H0 S z held ρ σ H _ d tg ok h fun H1 v fp s1 r1 g1=>?_
  exact ok.stored s1 r1 g1 fun z' ok'=>k z' _ H1 ok' (.set hi hself)
end
abbrev GF:=D→Tag→Rho→Option Rho
def FG (X:Cx) (tg:Expr) (g:GF) (is:List Nat):Prop:=(∀ i∈is,∀ x,X.N[i]? = some x→kpt X x=false)∧∃ t,PG X tg t∧∀ (H0:Hp) (S:List Addr) (z:Addr→Option Nat) (held:List Held) (ρ:Rho) (σ:St) (H H1:Hp) (v:V) (d:D) (tag:Tag) (fp:List Addr) (Q:St→Hp→Prop) (ρ':Rho),
 Ok X.K H0 S z held ρ σ H→Same H H1→Rep X.K H1 d v fp→TagOk z H tag fp→g d tag ρ=some ρ'→(∀ z' σ',Ok X.K H0 S z' held ρ' σ' H1→(σ'.length=σ.length∧∀ j,j∉is→σ'[j]? = σ[j]?)→Q σ' H1)→t v σ H1 Q
def gN (i:Nat):GF:=fun d t ρ=>some (setS ρ i d t)
abbrev GsF:=List D→Rho→Option Rho
theorem Kp.off {X:Cx}{σ σ':St}{is:List Nat} (hk:∀ i∈is,∀ x,X.N[i]? = some x→kpt X x=false) (h:∀ j,j∉is→σ'[j]? = σ[j]?):Kp X σ σ':=fun i x e k=>h i fun m=>by rw [hk i m x e] at k;cases k
def FGs (X:Cx) (ts:List Expr) (g:GsF) (is:List Nat):Prop:=(∀ i∈is,∀ x,X.N[i]? = some x→kpt X x=false)∧∃ t,PGs X ts t∧(∀ ds ρ ρ',g ds ρ=some ρ'→ds.length=ts.length)∧∀ (H0:Hp) (S:List Addr) (z:Addr→Option Nat) (held:List Held) (ρ:Rho) (σ:St) (H:Hp) (vs:List V) (ds:List D) (fp:List Addr) (Q:St→Hp→Prop) (ρ':Rho),
 Ok X.K H0 S z held ρ σ H→Reps X.K H ds vs fp→g ds ρ=some ρ'→(∀ z' σ',Ok X.K H0 S z' held ρ' σ' H→(σ'.length=σ.length∧∀ j,j∉is→σ'[j]? = σ[j]?)→Q σ' H)→t vs σ H Q
def gsNil:GsF:=fun ds ρ=>match ds with
 | []=>some ρ
 | _=>none
def gsCons (g:GF) (gs:GsF):GsF:=fun ds ρ=>match ds with
 | d::r=>if imm d=true then (g d .own ρ).bind fun ρ'=>gs r ρ' else none
 | _=>none
theorem gsCons_of {g:GF}{gs:GsF}{ds:List D}{ρ ρ':Rho} (e:gsCons g gs ds ρ=some ρ'):∃ d r ρ1,ds=d::r∧imm d=true∧g d .own ρ=some ρ1∧gs r ρ1=some ρ':=by
 cases ds with
 | nil=>cases e
 | cons d r=>
  unfold gsCons at e
  dsimp only at e
  by_cases hi:imm d=true
  ·rw [if_pos hi] at e
   cases h:g d .own ρ with
   | none=>rw [h] at e;cases e
   | some ρ1=>
    rw [h,Option.bind_some] at e
    exact ⟨d,r,ρ1,rfl,hi,h,e⟩
  ·rw [if_neg hi] at e;cases e
def gT (gs:GsF):GF:=fun d _ ρ=>match d with
 | .tup ds=>gs ds ρ
 | _=>none
section
variable {X:Cx}{pos:Pos}
theorem fg_name (i:Nat) {x:Str} (hN:X.N.Nodup) (hi:X.N[i]? = some x:=by rfl) (hx:Loc X.env.scope x:=by first | exact Or.inl rfl | exact Or.inr rfl) (hf:X.fn x=true∨X.env.scope.names.lookup x=some .local:=by first | exact .inl rfl | exact .inr rfl) (hself:kpt X x=false:=by rfl):FG X (.Name x pos) (gN i) [i]:=by
 refine ⟨fun j m y e=>by rw [List.mem_singleton.mp m,hi] at e;have e:=Option.some.inj e;subst e;exact hself,_,pg_name (i:=i) hN hi hx hf,fun H0 S z held ρ σ H H1 v d tag fp Q ρ' ok s r g e k=>?_⟩
 cases e
 exact ok.stored s r g fun z' ok'=>k z' _ ok' ⟨List.length_set ..,fun j hj=>List.getElem?_set_ne fun e=>hj (by rw [e];exact List.mem_cons_self)⟩
theorem fgs_nil:FGs X [] gsNil []:=by
 refine ⟨fun j m=>(nomatch m),_,pgs_nil,fun ds ρ ρ' e=>?_,fun H0 S z held ρ σ H vs ds fp Q ρ' ok r e k=>?_⟩
 ·cases ds with
  | nil=>rfl
  | cons _ _=>cases e
 ·cases ds with
  | nil=>cases r;cases e;exact ⟨rfl,k z σ ok ⟨rfl,fun _ _=>rfl⟩⟩
  | cons _ _=>cases e
theorem fgs_cons {e:Expr}{es:List Expr}{g:GF}{gs:GsF}{is ks:List Nat} (h1:FG X e g is) (h2:FGs X es gs ks) (hs:(assignEach (e::es) X.env).map (·.2)=assign e X.env::(assignEach es X.env).map (·.2):=by rfl):FGs X (e::es) (gsCons g gs) (is++ks):=by
 obtain ⟨n1,t,p,q⟩:=h1
 obtain ⟨n2,t',p',l',q'⟩:=h2
 refine ⟨fun j m=>(List.mem_append.mp m).elim (n1 j) (n2 j),_,pgs_cons p p' hs,fun ds ρ ρ' e=>?_,fun H0 S z held ρ σ H vs ds fp Q ρ' ok r e k=>?_⟩
 ·obtain ⟨d,r,ρ1,rfl,_,_,h⟩:=gsCons_of e
  rw [List.length_cons,List.length_cons,l' r ρ1 ρ' h]
 ·obtain ⟨d,dr,ρ1,rfl,hi,h1,h2⟩:=gsCons_of e
  cases r with
  | @cons _ v _ vr f1 f2 r1 r2=>
   have hn:=r1.imm hi
   subst hn
   exact ⟨v,vr,rfl,q H0 S z held ρ σ H H v d .own [] _ ρ1 ok (Same.refl H) r1 .nil h1 fun z1 σ1 ok1 a1=>q' H0 S z1 held ρ1 σ1 H vr dr f2 Q ρ' ok1 r2 h2 fun z2 σ2 ok2 a2=>k z2 σ2 ok2 ⟨a2.1.trans a1.1,fun j hj=>(a2.2 j fun m=>hj (List.mem_append_right _ m)).trans (a1.2 j fun m=>hj (List.mem_append_left _ m))⟩⟩
theorem fg_tup {es:List Expr}{k:Nat}{gs:GsF}{is:List Nat} (hc:X.calm=true) (h:FGs X es gs is) (hn:(assignEach es X.env).length=es.length:=by rfl) (hst:(assignEach es X.env).findIdx? (·.1)=none:=by rfl):FG X (.Tuple es k pos) (gT gs) is:=by
 obtain ⟨n1,t,p,l,q⟩:=h
 refine ⟨n1,_,pg_tup hc p hn hst,fun H0 S z held ρ σ H H1 v d tag fp Q ρ' ok s r g e k=>?_⟩
 cases r with
 | @tup a xs ds fp hq rs=>
  have e:gs ds ρ=some ρ':=e
  exact ⟨a,xs,rfl,hq,by rw [← rs.length];exact l ds ρ ρ' e,q H0 S z held ρ σ H1 xs ds fp Q ρ' (ok.same s) rs e k⟩
 | _=>cases e
end
structure Hv where
 d:D
 v:V
 fp:List Addr
def ItOk (K:PySem.W.Frag) (J:It) (ds:List D) (hv:List Hv):Prop:=∀ (H:Hp) (i:Nat),(∀ h∈hv,Rep K H h.d h.v h.fp) →
 (∀ d,ds[i]? = some d→J.go i H∧∀ x H1,J.yld i H x H1→Same H H1∧∃ fp,Rep K H1 d x fp∧∀ a∈fp,∃ h∈hv,a∈h.fp)∧(ds.length≤i→J.stop i H)
abbrev IF:=Rho→Option (List D×Tag)
def FI (X:Cx) (tg iter:Expr) (f:IF):Prop:=∃ wi,PI X tg iter wi∧∀ (H0:Hp) (S:List Addr) (z:Addr→Option Nat) (held:List Held) (ρ:Rho) (σ:St) (H:Hp) (R:It→Hp→Prop) (ds:List D) (t:Tag),
 Ok X.K H0 S z held ρ σ H→f ρ=some (ds,t)→(∀ H1 J hv,Same H H1→(∀ h∈hv,Rep X.K H1 h.d h.v h.fp∧∀ a∈h.fp,∀ j,z a=some j→∃ o,t=.sh o∧j∈o)→ItOk X.K J ds hv→R J H1)→wi σ H R
def iSeqF (f:EF):IF:=fun ρ=>match f ρ with
 | some (.lst ds,t)=>some (ds,t)
 | some (.fls ds,t)=>some (ds,t)
 | some (.tup ds,t)=>some (ds,t)
 | _=>none
def iSeq (K:PySem.W.Frag) (tl:TE):TI:=fun σ H R=>tl σ H fun x H1=>∃ a,x=.ref a∧(((∃ xs,SqL K H1 a xs)∧R (Itl K a) H1)∨((∃ xs,SqT K H1 a xs)∧R (Itt K a) H1))
section
variable {X:Cx}{tg:Expr}
theorem pi_seq {l:Expr}{tl:TE} (hl:PE X l tl):PI X tg l (iSeq X.K tl):=by
 intro pins s σ H R I h
 refine thn (hl pins s σ H _ I h) fun v s1 ⟨x,H1,I1,r1,q1⟩=>?_
 obtain ⟨a,e,q⟩:=q1
 subst e
 cases r1
 rcases q with ⟨⟨xs,hq⟩,q⟩ | ⟨⟨xs,hq⟩,q⟩
 ·obtain ⟨its,rv,p,hz⟩:=I1.list hq
  refine wpAny_pyIter_list p.isList ?_
  refine ⟨s1.heap.objs.size,[s1.heap.objs.size],_,_,H1,rfl,I1.kept (t':=s1.toks) (fun b o e=>Heap.get?_push_of_some _ e),turn_list a _,⟨_,Heap.get?_push_size _ rfl,rfl,rfl⟩,fun b hb=>?_,q⟩
  obtain rfl:b=s1.heap.objs.size:=by simpa using hb
  exact I1.fpOk (Nat.le_refl _) (I1.hok.fresh (Nat.le_refl _))
 ·obtain ⟨its,rv,p,hz⟩:=I1.tuple hq
  refine wpAny_pyIter_tuple (show s1.heap.IsTuple a its.toArray from p) ?_
  refine ⟨s1.heap.objs.size,[s1.heap.objs.size],_,_,H1,rfl,I1.kept (t':=s1.toks) (fun b o e=>Heap.get?_push_of_some _ e),turn_tuple a _,⟨_,Heap.get?_push_size _ rfl,rfl,rfl⟩,fun b hb=>?_,q⟩
  obtain rfl:b=s1.heap.objs.size:=by simpa using hb
  exact I1.fpOk (Nat.le_refl _) (I1.hok.fresh (Nat.le_refl _))
theorem Rep.lst_of {K:PySem.W.Frag}{H:Hp}{ds:List D}{v:V}{fp:List Addr} (r:Rep K H (.lst ds) v fp):∃ a xs f,v=.ref a∧SqL K H a xs∧Reps K H ds xs f∧∀ b∈f,b∈fp:=by
 cases r with
 | lst h rs=>exact ⟨_,_,_,rfl,SqL.of h,rs,fun b m=>List.mem_cons_of_mem _ m⟩
theorem Rep.fls_of {K:PySem.W.Frag}{H:Hp}{ds:List D}{v:V}{fp:List Addr} (r:Rep K H (.fls ds) v fp):∃ a xs,v=.ref a∧SqL K H a xs∧Reps K H ds xs fp:=by
 cases r with
 | lsf h rs=>exact ⟨_,_,rfl,h.sq,rs⟩
theorem Rep.tup_of {K:PySem.W.Frag}{H:Hp}{ds:List D}{v:V}{fp:List Addr} (r:Rep K H (.tup ds) v fp):∃ a xs,v=.ref a∧SqT K H a xs∧Reps K H ds xs fp:=by
 cases r with
 | tup h rs=>exact ⟨_,_,rfl,h,rs⟩
theorem itOk_list {K:PySem.W.Frag}{a:Addr}{ds:List D}{fp:List Addr}:ItOk K (Itl K a) ds [⟨.lst ds,.ref a,fp⟩]:=by
 intro H i hh
 have r:Rep K H (.lst ds) (.ref a) fp:=hh ⟨.lst ds,.ref a,fp⟩ List.mem_cons_self
 obtain ⟨a',xs,f,e,hq,rs,sub⟩:=r.lst_of
 cases e
 refine ⟨fun d hd=>?_,fun hl=>⟨xs,hq,by rw [← rs.length];exact hl⟩⟩
 obtain ⟨v,f',hv,rv,s'⟩:=rs.get hd
 refine ⟨⟨xs,v,hq,hv⟩,fun x H1 y=>?_⟩
 obtain ⟨e1,y⟩:=y
 subst e1
 have e2:=y xs hq
 rw [hv] at e2
 cases e2
 exact ⟨Same.refl _,f',rv,fun b m=>⟨_,List.mem_cons_self,sub b (s' b m)⟩⟩
theorem itOk_fls {K:PySem.W.Frag}{a:Addr}{ds:List D}{fp:List Addr}:ItOk K (Itl K a) ds [⟨.fls ds,.ref a,fp⟩]:=by
 intro H i hh
 have r:Rep K H (.fls ds) (.ref a) fp:=hh ⟨.fls ds,.ref a,fp⟩ List.mem_cons_self
 obtain ⟨a',xs,e,hq,rs⟩:=r.fls_of
 cases e
 refine ⟨fun d hd=>?_,fun hl=>⟨xs,hq,by rw [← rs.length];exact hl⟩⟩
 obtain ⟨v,f',hv,rv,s'⟩:=rs.get hd
 refine ⟨⟨xs,v,hq,hv⟩,fun x H1 y=>?_⟩
 obtain ⟨e1,y⟩:=y
 subst e1
 have e2:=y xs hq
 rw [hv] at e2
 cases e2
 exact ⟨Same.refl _,f',rv,fun b m=>⟨_,List.mem_cons_self,s' b m⟩⟩
theorem itOk_tup {K:PySem.W.Frag}{a:Addr}{ds:List D}{fp:List Addr}:ItOk K (Itt K a) ds [⟨.tup ds,.ref a,fp⟩]:=by
 intro H i hh
 have r:Rep K H (.tup ds) (.ref a) fp:=hh ⟨.tup ds,.ref a,fp⟩ List.mem_cons_self
 obtain ⟨a',xs,e,hq,rs⟩:=r.tup_of
 cases e
 refine ⟨fun d hd=>?_,fun hl=>⟨xs,hq,by rw [← rs.length];exact hl⟩⟩
 obtain ⟨v,f',hv,rv,s'⟩:=rs.get hd
 refine ⟨⟨xs,v,hq,hv⟩,fun x H1 y=>?_⟩
 obtain ⟨e1,y⟩:=y
 subst e1
 have e2:=y xs hq
 rw [hv] at e2
 cases e2
 exact ⟨Same.refl _,f',rv,fun b m=>⟨_,List.mem_cons_self,s' b m⟩⟩
theorem itOk_range {K:PySem.W.Frag}{lo:Int}{n:Nat}:ItOk K (Itr lo n) ((List.range n).map fun i:Nat=>D.int (lo + (i:Int))) []:=by
 intro H i _
 refine ⟨fun d hd=>?_,fun hl=>?_⟩
 ·rw [List.getElem?_map] at hd
  by_cases hi:i < n
  ·rw [List.getElem?_range hi] at hd
   cases hd
   refine ⟨hi,fun x H1 y=>?_⟩
   obtain ⟨e1,e2⟩:=y
   subst e1 e2
   exact ⟨Same.refl _,[],.int _,fun b m=>nomatch m⟩
  ·rw [List.getElem?_eq_none (by simpa using hi)] at hd
   cases hd
 ·rw [List.length_map,List.length_range] at hl
  exact hl
theorem TagOk.over {K:PySem.W.Frag}{H0:Hp}{S:List Addr}{z:Addr→Option Nat}{held:List Held}{ρ:Rho}{σ:St}{H:Hp}{t:Tag}{fp:List Addr} (ok:Ok K H0 S z held ρ σ H) (g:TagOk z H t fp):∀ a∈fp,∀ j,z a=some j→∃ o,t=.sh o∧j∈o:=by
 intro a m j q
 cases t with
 | sh o=>exact ⟨o,rfl,g a m j q⟩
 | own=>obtain ⟨⟨o,w⟩,_⟩:=ok.zd a j q;rw [g.2 a m] at w;cases w
 | lk=>obtain ⟨⟨o,w⟩,_⟩:=ok.zd a j q;rw [g.2 a m] at w;cases w
theorem fi_seq {l:Expr}{f:EF} (hl:FP X l f):FI X tg l (iSeqF f):=by
 obtain ⟨t,p,q⟩:=hl
 refine ⟨_,pi_seq p,fun H0 S z held ρ σ H R ds tg ok e k=>?_⟩
 unfold iSeqF at e
 cases h:f ρ with
 | none=>rw [h] at e;cases e
 | some w=>
  obtain ⟨d,tg'⟩:=w
  rw [h] at e
  cases d with
  | lst es=>
   cases e
   refine q H0 S z held ρ σ H _ _ _ ok h fun H1 v fp s1 r1 g1=>?_
   obtain ⟨a,xs,f,rfl,hq,rs,sub⟩:=r1.lst_of
   exact ⟨a,rfl,.inl ⟨⟨xs,hq⟩,k H1 _ [⟨.lst ds,.ref a,fp⟩] s1 (fun h m=>by cases List.mem_singleton.mp m;exact ⟨r1,g1.over ok⟩) itOk_list⟩⟩
  | fls es=>
   cases e
   refine q H0 S z held ρ σ H _ _ _ ok h fun H1 v fp s1 r1 g1=>?_
   obtain ⟨a,xs,rfl,hq,rs⟩:=r1.fls_of
   exact ⟨a,rfl,.inl ⟨⟨xs,hq⟩,k H1 _ [⟨.fls ds,.ref a,fp⟩] s1 (fun h m=>by cases List.mem_singleton.mp m;exact ⟨r1,g1.over ok⟩) itOk_fls⟩⟩
  | tup es=>
   cases e
   refine q H0 S z held ρ σ H _ _ _ ok h fun H1 v fp s1 r1 g1=>?_
   obtain ⟨a,xs,rfl,hq,rs⟩:=r1.tup_of
   exact ⟨a,rfl,.inr ⟨⟨xs,hq⟩,k H1 _ [⟨.tup ds,.ref a,fp⟩] s1 (fun h m=>by cases List.mem_singleton.mp m;exact ⟨r1,g1.over ok⟩) itOk_tup⟩⟩
  | _=>cases e
def small (i:Int):Bool:=decide (-(2 ^ 62)≤i)&&decide (i < 2 ^ 62)
def iR1 (g:EF):IF:=fun ρ=>match g ρ with
 | some (.int j,_)=>if small j=true then some ((List.range j.toNat).map fun i:Nat=>D.int (0 + (i:Int)),.own) else none
 | _=>none
theorem small_of {i:Int} (h:small i=true):-(2 ^ 62)≤i∧i < 2 ^ 62:=by
 obtain ⟨a,b⟩:=(Bool.and_eq_true _ _).mp h
 exact ⟨of_decide_eq_true a,of_decide_eq_true b⟩
theorem fi_range1 {a:Expr}{g:EF}{p pos:Pos} (hm:X.mg "range"=none) (ha:FP X a g) (hg:Gl X "range":=by rfl) (hs:starEach [a] X.env=[(false,eval a X.env)]:=by rfl):FI X tg (.Call (.Name "range" p) [a] [] pos) (iR1 g):=by
 obtain ⟨t,pa,q⟩:=ha
 refine ⟨_,pi_range1 hg hm (pa_cons pa pa_nil hs) hs,fun H0 S z held ρ σ H R ds tg ok e k=>?_⟩
 unfold iR1 at e
 cases h:g ρ with
 | none=>rw [h] at e;cases e
 | some w=>
  obtain ⟨d,tg'⟩:=w
  rw [h] at e
  cases d with
  | int j=>
   dsimp only at e
   by_cases hj:small j=true
   ·rw [if_pos hj] at e
    cases e
    refine q H0 S z held ρ σ H _ _ _ ok h fun H1 v fp s1 r1 g1=>?_
    cases r1
    exact ⟨j,rfl,(small_of hj).1,(small_of hj).2,k H1 _ [] s1 (fun h m=>nomatch m) itOk_range⟩
   ·rw [if_neg hj] at e;cases e
  | _=>cases e
end
def ovr:Tag→List Nat
 | .sh o=>o
 | _=>[]
def itag (t:Tag):Tag:=.sh (ovr t)
def ownAt (ρ:Rho) (j:Nat):Bool:=match ρ[j]? with
 | some (some (_,.own))=>true
 | _=>false
def ownsIn (o:List Nat) (ρ:Rho):List Nat:=o.filter (ownAt ρ)
def lockT:Tag→Tag
 | .own=>.lk
 | t=>t
def unlockT:Tag→Tag
 | .lk=>.own
 | t=>t
def onT (f:Tag→Tag):Slot→Slot
 | some (d,t)=>some (d,f t)
 | none=>none
def lockS:List Nat→Rho→Rho
 | [],ρ=>ρ
 | j::r,ρ=>lockS r (ρ.modify j (onT lockT))
def unlockS:List Nat→Rho→Rho
 | [],ρ=>ρ
 | j::r,ρ=>unlockS r (ρ.modify j (onT unlockT))
def loopF (g:GF) (t:Tag) (f:SF):List D→SF
 | [],ρ=>some (.nx ρ)
 | d::ds,ρ=>match g d t ρ with
  | none=>none
  | some ρ1=>match f ρ1 with
   | some (.nx ρ2)=>loopF g t f ds ρ2
   | some (.ct ρ2)=>loopF g t f ds ρ2
   | some (.bk ρ2)=>some (.nx ρ2)
   | some (.rt r)=>some (.rt r)
   | some (.er raw cn ρ2)=>some (.er raw cn ρ2)
   | none=>none
def sFor (it:IF) (g:GF) (f:SF):SF:=fun ρ=>match it ρ with
 | none=>none
 | some (ds,t)=>match loopF g (itag t) f ds (lockS (ownsIn (ovr t) ρ) ρ) with
  | some (.nx ρ')=>some (.nx (unlockS (ownsIn (ovr t) ρ) ρ'))
  | some (.rt d)=>some (.rt d)
  | some (.er raw cn ρ')=>some (.er raw cn (unlockS (ownsIn (ovr t) ρ) ρ'))
  | _=>none
theorem lockS_at:∀ {ks:List Nat}{ρ:Rho}{i:Nat}{d:D}{t:Tag},(lockS ks ρ)[i]? = some (some (d,t))→∃ t',ρ[i]? = some (some (d,t'))∧(t=t'∨(t'=.own∧t=.lk))∧(i∈ks→t≠.own)
 | [],ρ,i,d,t,h=>⟨t,h,.inl rfl,fun m=>nomatch m⟩
 | j::r,ρ,i,d,t,h=>by
  obtain ⟨t1,h1,h2,h3⟩:=lockS_at (ks:=r) h
  rw [List.getElem?_modify] at h1
  cases e:ρ[i]? with
  | none=>rw [e] at h1;cases h1
  | some s=>
   rw [e] at h1
   have h1':(if j=i then onT lockT s else s)=some (d,t1):=Option.some.inj h1
   by_cases hj:j=i
   ·rw [if_pos hj] at h1'
    cases s with
    | none=>cases h1'
    | some p=>
     obtain ⟨d0,t0⟩:=p
     cases h1'
     refine ⟨t0,rfl,?_,fun _=>?_⟩
     ·rcases h2 with h2 | ⟨h2,h2'⟩
      ·cases t0 <;> first | exact .inl h2 | exact .inr ⟨rfl,h2⟩
      ·cases t0 <;> cases h2
     ·rcases h2 with h2 | ⟨h2,h2'⟩
      ·rw [h2];cases t0 <;> (intro z;cases z)
      ·rw [h2'];intro z;cases z
   ·rw [if_neg hj] at h1'
    subst h1'
    refine ⟨t1,rfl,h2,fun m=>?_⟩
    rcases List.mem_cons.mp m with z | z
    ·exact absurd z.symm hj
    ·exact h3 z
theorem lockS_len:∀ {ks:List Nat}{ρ:Rho},(lockS ks ρ).length=ρ.length
 | [],_=>rfl
 | _::r,ρ=>(lockS_len (ks:=r)).trans (List.length_modify ..)
theorem unlockS_len:∀ {ks:List Nat}{ρ:Rho},(unlockS ks ρ).length=ρ.length
 | [],_=>rfl
 | _::r,ρ=>(unlockS_len (ks:=r)).trans (List.length_modify ..)
theorem unlockS_at:∀ {ks:List Nat}{ρ:Rho}{i:Nat}{d:D}{t:Tag},(unlockS ks ρ)[i]? = some (some (d,t))→∃ t',ρ[i]? = some (some (d,t'))∧(t=t'∨(t'=.lk∧t=.own∧i∈ks))
 | [],ρ,i,d,t,h=>⟨t,h,.inl rfl⟩
 | j::r,ρ,i,d,t,h=>by
  obtain ⟨t1,h1,h2⟩:=unlockS_at (ks:=r) h
  rw [List.getElem?_modify] at h1
  cases e:ρ[i]? with
  | none=>rw [e] at h1;cases h1
  | some s=>
   rw [e] at h1
   have h1':(if j=i then onT unlockT s else s)=some (d,t1):=Option.some.inj h1
   by_cases hj:j=i
   ·rw [if_pos hj] at h1'
    cases s with
    | none=>cases h1'
    | some p=>
     obtain ⟨d0,t0⟩:=p
     cases h1'
     refine ⟨t0,rfl,?_⟩
     rcases h2 with h2 | ⟨h2,h2',h3⟩
     ·cases t0 <;> first | exact .inl h2 | exact .inr ⟨rfl,h2,by rw [hj];exact List.mem_cons_self⟩
     ·cases t0 <;> cases h2
   ·rw [if_neg hj] at h1'
    subst h1'
    refine ⟨t1,rfl,?_⟩
    rcases h2 with h2 | ⟨h2,h2',h3⟩
    ·exact .inl h2
    ·exact .inr ⟨h2,h2',List.mem_cons_of_mem _ h3⟩
def heldAt (z:Addr→Option Nat) (hv:List Hv):List Held:=hv.map fun h=>⟨h.d,h.v,h.fp,z⟩
def rezone (z:Addr→Option Nat) (held:List Held):List Held:=held.map fun h=>{ h with z0:=z }
section
variable {K:PySem.W.Frag}{H0:Hp}{S:List Addr}{z:Addr→Option Nat}{held:List Held}{ρ:Rho}{σ:St}{H:Hp}
theorem Ok.begin {hv:List Hv}{t:Tag} (ok:Ok K H0 S z held ρ σ H) (hh:∀ h∈hv,Rep K H h.d h.v h.fp∧∀ a∈h.fp,∀ j,z a=some j→∃ o,t=.sh o∧j∈o) :
  Ok K H0 S z (heldAt z hv++rezone z held) (lockS (ownsIn (ovr t) ρ) ρ) σ H:=by
 refine ⟨fun i d tg e=>?_,fun p m=>?_,ok.zd,ok.en,by rw [lockS_len];exact ok.ln⟩
 ·obtain ⟨t',e',h,_⟩:=lockS_at e
  obtain ⟨v,fp,a,b,c⟩:=ok.sl i d t' e'
  refine ⟨v,fp,a,b,?_⟩
  rcases h with h | ⟨h,h'⟩
  ·subst h;exact c
  ·subst h h';exact c
 ·have lockNo:∀ j,NoOwn ρ j→NoOwn (lockS (ownsIn (ovr t) ρ) ρ) j:=fun j n d e=>by
   obtain ⟨t',e',h,_⟩:=lockS_at e
   rcases h with h | ⟨h,h'⟩
   ·subst h;exact n d e'
   ·cases h'
  rcases List.mem_append.mp m with m | m
  ·obtain ⟨h,hm,rfl⟩:=List.mem_map.mp m
   refine ⟨(hh h hm).1,fun a ha j q=>⟨q,fun d e=>?_⟩⟩
   obtain ⟨o,rfl,hj⟩:=(hh h hm).2 a ha j q
   obtain ⟨t',e',h',n⟩:=lockS_at e
   rcases h' with h' | ⟨h',h''⟩
   ·subst h'
    exact n (List.mem_filter.mpr ⟨hj,by unfold ownAt;rw [e']⟩) rfl
   ·cases h''
  ·obtain ⟨h,hm,rfl⟩:=List.mem_map.mp m
   obtain ⟨r,hz⟩:=ok.hl h hm
   exact ⟨r,fun a ha j q=>⟨q,lockNo j (hz a ha j q).2⟩⟩
theorem Ok.fin {hv:List Hv}{t:Tag}{z':Addr→Option Nat}{ρ':Rho}{σ':St}{H':Hp} (ok:Ok K H0 S z held ρ σ H) (ok':Ok K H0 S z' (heldAt z hv++rezone z held) ρ' σ' H'):Ok K H0 S z' held (unlockS (ownsIn (ovr t) ρ) ρ') σ' H':=by
 refine ⟨fun i d tg e=>?_,fun p m=>?_,ok'.zd,ok'.en,by rw [unlockS_len];exact ok'.ln⟩
 ·obtain ⟨t',e',h⟩:=unlockS_at e
  obtain ⟨v,fp,a,b,c⟩:=ok'.sl i d t' e'
  refine ⟨v,fp,a,b,?_⟩
  rcases h with h | ⟨h,h',_⟩
  ·subst h;exact c
  ·subst h h';exact c
 ·obtain ⟨r,hz⟩:=ok'.hl { p with z0:=z } (List.mem_append_right _ (List.mem_map.mpr ⟨p,m,rfl⟩))
  refine ⟨r,fun a ha j q=>?_⟩
  obtain ⟨h1,h2⟩:=hz a ha j q
  have h1:z a=some j:=h1
  obtain ⟨h3,h4⟩:=(ok.hl p m).2 a ha j h1
  refine ⟨h3,fun d e=>?_⟩
  obtain ⟨t',e',h⟩:=unlockS_at e
  rcases h with h | ⟨h,_,hk⟩
  ·subst h;exact h2 d e'
  ·have ho:=(List.mem_filter.mp hk).2
   unfold ownAt at ho
   cases e0:ρ[j]? with
   | none=>rw [e0] at ho;cases ho
   | some s=>
    rw [e0] at ho
    cases s with
    | none=>cases ho
    | some p=>
     obtain ⟨d0,t0⟩:=p
     cases t0 <;> first | exact h4 d0 e0 | cases ho
end
section
variable {X:Cx}{pos:Pos}
theorem fs_for {tg iter:Expr}{body:List Stmt}{it:IF}{g:GF}{f:SF}{is:List Nat} (hc:X.calm=true) (hi:FI X tg iter it) (hg:FG X tg g is) (hb:FS X body f) (hp:PassesOwn (model X.prog X.w) X.A X.env X.xe:=by exact PassesOwn.never)
  (hs:∀ x,foldedSetIterable iter X.env x=pure x:=by intro _;rfl):FS1 X (.For tg iter body [] pos) (sFor it g f):=by
 obtain ⟨wi,pi,si⟩:=hi
 obtain ⟨n1,tgt,pg,sg⟩:=hg
 obtain ⟨tb,pb,sb⟩:=hb
 refine ⟨_,ps_for hp hc pi pg pb hs,fun H0 S z held ρ σ H E o ok e k=>?_⟩
 unfold sFor at e
 cases h:it ρ with
 | none=>rw [h] at e;cases e
 | some w=>
  obtain ⟨ds,t⟩:=w
  rw [h] at e
  dsimp only at e
  refine si H0 S z held ρ σ H _ ds t ok h fun H1 J hv s1 hh itok=>?_
  cases ho:loopF g (itag t) f ds (lockS (ownsIn (ovr t) ρ) ρ) with
  | none=>rw [ho] at e;cases e
  | some out=>
   rw [ho] at e
   have ok1:=ok.same s1
   have ok2:=ok1.begin (t:=t) hh
   have fin:∀ {z':Addr→Option Nat}{ρ':Rho}{σ':St}{H':Hp},Ok X.K H0 S z' (heldAt z hv++rezone z held) ρ' σ' H'→out=.nx ρ'→Kp X σ σ'→E.nx σ' H':=fun {z' ρ' σ' H'} ok' eo kp=>by
    subst eo
    cases e
    exact k z' σ' H' (ok1.fin (t:=t) ok') kp
   refine ⟨fun i m σ' H'=>m=ds.length - i∧∃ z' ρ',Ok X.K H0 S z' (heldAt z hv++rezone z held) ρ' σ' H'∧loopF g (itag t) f (ds.drop i) ρ'=some out∧Kp X σ σ',⟨ds.length,rfl,z,_,ok2,ho,.refl _ _⟩,?_⟩
   rintro i m σ' H' ⟨rfl,z',ρ',ok',e',kp⟩
   have hH:∀ h∈hv,Rep X.K H' h.d h.v h.fp:=fun h m=>(ok'.hl _ (List.mem_append_left _ (List.mem_map.mpr ⟨h,m,rfl⟩))).1
   obtain ⟨go,stop⟩:=itok H' i hH
   by_cases hl:ds.length≤i
   ·refine .inl ⟨stop hl,?_⟩
    rw [List.drop_eq_nil_of_le hl] at e'
    cases e'
    exact fin ok' rfl kp
   ·have hlt:i < ds.length:=Nat.lt_of_not_le hl
    rw [List.drop_eq_getElem_cons hlt] at e'
    obtain ⟨g1,g2⟩:=go ds[i] (List.getElem?_eq_getElem hlt)
    refine .inr ⟨g1,fun σ2 H2=>∃ z' ρ',Ok X.K H0 S z' (heldAt z hv++rezone z held) ρ' σ2 H2∧loopF g (itag t) f (ds.drop (i + 1)) ρ'=some out∧Kp X σ σ2,fun σ2 H2 hn=>⟨ds.length - (i + 1),by omega,rfl,hn⟩,fun x H2 y=>?_⟩
    obtain ⟨s2,fp,r2,sub⟩:=g2 x H2 y
    unfold loopF at e'
    cases hg1:g ds[i] (itag t) ρ' with
    | none=>rw [hg1] at e';cases e'
    | some ρ1=>
     rw [hg1] at e'
     dsimp only at e'
     refine sg H0 S z' _ ρ' σ' H' H2 x ds[i] (itag t) fp _ ρ1 ok' s2 r2 (fun a ha j q=>?_) hg1 fun z2 σ2 ok3 a3=>?_
     ·obtain ⟨h,hm,ha'⟩:=sub a ha
      obtain ⟨_,hz⟩:=ok'.hl _ (List.mem_append_left _ (List.mem_map.mpr ⟨h,hm,rfl⟩))
      obtain ⟨q0,_⟩:=hz a ha' j q
      obtain ⟨o',rfl,hj⟩:=(hh h hm).2 a ha' j q0
      exact hj
     ·cases hf:f ρ1 with
      | none=>rw [hf] at e';cases e'
      | some o1=>
       rw [hf] at e'
       refine sb H0 S z2 _ ρ1 σ2 H2 _ o1 ok3 hf ?_
       cases o1 with
       | nx ρ2=>exact fun z3 σ3 H3 ok4 b=>⟨z3,ρ2,ok4,e',(kp.trans (.off n1 a3.2)).trans b⟩
       | ct ρ2=>exact fun z3 σ3 H3 ok4 b=>⟨z3,ρ2,ok4,e',(kp.trans (.off n1 a3.2)).trans b⟩
       | bk ρ2=>
        cases e'
        exact fun z3 σ3 H3 ok4 b=>fin ok4 rfl ((kp.trans (.off n1 a3.2)).trans b)
       | rt d=>
        cases e'
        cases e
        exact k
       | er raw cn ρ2=>
        cases e'
        cases e
        obtain ⟨ES,th,q⟩:=k
        exact ⟨ES,th,fun z3 σ3 H3 C ok4 b hC=>q z3 σ3 H3 C (ok1.fin (t:=t) ok4) ((kp.trans (.off n1 a3.2)).trans b) hC⟩
end
def teS (K:PySem.W.Frag) (f:EF):TE:=fun σ H Q=>∃ H0 S z held ρ d tg,Ok K H0 S z held ρ σ H∧f ρ=some (d,tg)∧∀ H' v fp,Same H H'→Rep K H' d v fp→TagOk z H tg fp→Q v H'
def ttS (K:PySem.W.Frag) (f:TF):TT:=fun σ H Q=>∃ H0 S z held ρ b,Ok K H0 S z held ρ σ H∧f ρ=some b∧∀ H',Same H H'→Q b H'
def tgS (K:PySem.W.Frag) (g:GF) (is:List Nat):TG:=fun v σ H1 Q=>∃ H0 S z held ρ H d tag fp ρ',Ok K H0 S z held ρ σ H∧Same H H1∧Rep K H1 d v fp∧TagOk z H tag fp∧g d tag ρ=some ρ' ∧
 ∀ z' σ',Ok K H0 S z' held ρ' σ' H1→(σ'.length=σ.length∧∀ j,j∉is→σ'[j]? = σ[j]?)→Q σ' H1
section
variable {X:Cx}
theorem FP.pe {e:Expr}{f:EF} (h:FP X e f):PE X e (teS X.K f):=by
 obtain ⟨t,p,q⟩:=h
 intro pins s σ H Q I ⟨H0,S,z,held,ρ,d,tg,ok,e,k⟩
 exact p pins s σ H Q I (q H0 S z held ρ σ H Q d tg ok e k)
theorem FT.pt {e:Expr}{f:TF} (h:FT X e f):PT X e (ttS X.K f):=by
 obtain ⟨t,p,q⟩:=h
 intro pins s σ H Q I ⟨H0,S,z,held,ρ,b,ok,e,k⟩
 exact p pins s σ H Q I (q H0 S z held ρ σ H Q b ok e k)
theorem FG.pg {e:Expr}{g:GF}{is:List Nat} (h:FG X e g is):PG X e (tgS X.K g is):=by
 obtain ⟨_,t,p,q⟩:=h
 intro pins s σ H1 v u Q I r ⟨H0,S,z,held,ρ,H,d,tag,fp,ρ',ok,sm,rp,tk,e,k⟩
 exact p pins s σ H1 v u Q I r (q H0 S z held ρ σ H H1 v d tag fp Q ρ' ok sm rp tk e k)
end
def FTs (X:Cx) (ifs:List Expr) (f:TF):Prop:=PTs X ifs (ttS X.K f)
def tTrue:TF:=fun _=>some true
theorem fts_nil {X:Cx}:FTs X [] tTrue:=by
 intro pins s σ H Q I ⟨H0,S,z,held,ρ,b,ok,e,k⟩
 cases e
 exact wpAny_tests_nil ⟨H,I,k H (Same.refl H)⟩
theorem fts_one {X:Cx}{c:Expr}{f:TF} (h:FT X c f):FTs X [c] f:=pts_one h.pt
def iniR (js:List (Option Nat)) (ρ:Rho):Rho:=js.map fun j=>match j with
 | none=>none
 | some j=>match ρ[j]? with
  | some (some (d,_))=>some (d,.sh [])
  | _=>none
def compE (g:GF) (tt:TF) (te:EF) (ρ:Rho) (d:D):Option (Option D):=match g d (.sh []) ρ with
 | none=>none
 | some ρ1=>match tt ρ1 with
  | none=>none
  | some false=>some none
  | some true=>match te ρ1 with
   | none=>none
   | some (e,t)=>if isOwn t=true then some (some e) else if imm e=true then some (some e) else none
def compF (h:D→Option (Option D)):List D→Option (List D)
 | []=>some []
 | d::ds=>match h d with
  | none=>none
  | some none=>compF h ds
  | some (some e)=>match compF h ds with
   | none=>none
   | some es=>some (e::es)
def eComp (js:List (Option Nat)) (it:IF) (g:GF) (tt:TF) (te:EF):EF:=fun ρ=>match it ρ with
 | none=>none
 | some (ds,_)=>if ds.length < sizeLine then (compF (compE g tt te (iniR js ρ)) ds).map fun es=>(.lst es,.own) else none
theorem compF_ok {h:D→Option (Option D)}{k:D→Option D}:∀ {ds:List D},(∀ d∈ds,h d=some (k d))→compF h ds=some (ds.filterMap k)
 | [],_=>rfl
 | d::ds,e=>by
  unfold compF
  rw [e d List.mem_cons_self,compF_ok fun x m=>e x (List.mem_cons_of_mem _ m),List.filterMap_cons]
  cases k d <;> rfl
section
variable {X:Cx}{pos:Pos}
theorem comp_read {wi:TI}{it:IF}{js:List (Option Nat)}{g:GF}{tt:TF}{te:EF}{is:List Nat} (hjs:∀ i∈is,js[i]? = some none)
  (si:∀ (H0:Hp) (S:List Addr) (z:Addr→Option Nat) (held:List Held) (ρ:Rho) (σ:St) (H:Hp) (R:It→Hp→Prop) (ds:List D) (t:Tag),
   Ok X.K H0 S z held ρ σ H→it ρ=some (ds,t)→(∀ H1 J hv,Same H H1→(∀ h∈hv,Rep X.K H1 h.d h.v h.fp∧∀ a∈h.fp,∀ j,z a=some j→∃ o,t=.sh o∧j∈o)→ItOk X.K J ds hv→R J H1)→wi σ H R)
  (H0:Hp) (S:List Addr) (z:Addr→Option Nat) (held:List Held) (ρ:Rho) (σ:St) (H:Hp) (Q:VK) (d:D) (tg:Tag) (ok:Ok X.K H0 S z held ρ σ H) (e:eComp js it g tt te ρ=some (d,tg))
  (k:∀ H' v fp,Same H H'→Rep X.K H' d v fp→TagOk z H tg fp→Q v H'):tComp wi js (tgS X.K g is) (ttS X.K tt) (teS X.K te) σ H Q:=by
 unfold eComp at e
 cases h:it ρ with
 | none=>rw [h] at e;cases e
 | some w=>
  obtain ⟨ds,t⟩:=w
  rw [h] at e
  dsimp only at e
  by_cases hz:ds.length < sizeLine
  ·rw [if_pos hz] at e
   cases hcf:compF (compE g tt te (iniR js ρ)) ds with
   | none=>rw [hcf] at e;cases e
   | some es=>
    rw [hcf] at e
    cases e
    refine si H0 S z held ρ σ H _ ds t ok h fun H1 J hv s1 hh itok Dd hDd=>?_
    have ok1:=ok.same s1
    have inner:∀ (σ':St) (H2:Hp),Same H1 H2→(∃ o,H2 Dd=some o)→σ'.length=js.length→(∀ j,j∉is→σ'[j]? = (iniC js σ)[j]?)→Ok X.K H1 [] (fun a=>if a=Dd then some js.length else none) (heldAt (fun _=>none) hv) (iniR js ρ) σ' H2:=by
     intro σ' H2 s2 hoD hlen hag
     have nD:∀ {a:Addr}{o:HO},H1 a=some o→a≠Dd:=fun e=>ne_of_none e hDd
     refine ⟨fun i d t e=>?_,fun p m=>?_,fun a j e=>?_,fun a o e _=>s2 _ _ e,by unfold iniR;rw [List.length_map,hlen]⟩
     ·unfold iniR at e
      rw [List.getElem?_map] at e
      cases hj:js[i]? with
      | none=>rw [hj] at e;cases e
      | some o=>
       rw [hj] at e
       cases o with
       | none=>cases e
       | some j=>
        have e:(match ρ[j]? with | some (some (d,_))=>some (d,Tag.sh []) | _=>none)=some (d,t):=Option.some.inj e
        cases hr:ρ[j]? with
        | none=>rw [hr] at e;cases e
        | some s=>
         rw [hr] at e
         cases s with
         | none=>cases e
         | some p=>
          obtain ⟨d0,t0⟩:=p
          have e1:d0=d∧Tag.sh []=t:=Prod.mk.inj (Option.some.inj e)
          obtain ⟨rfl,rfl⟩:=e1
          obtain ⟨v,fp,hs,r,_⟩:=ok1.sl j d0 t0 hr
          have hi:i∉is:=fun m=>by rw [hjs i m] at hj;cases hj
          refine ⟨v,fp,?_,r.same s2,fun a m q e=>?_⟩
          ·rw [hag i hi]
           unfold iniC
           rw [List.getElem?_map,hj]
           show some ((σ[j]?).join)=some (some v)
           rw [hs];rfl
          ·obtain ⟨o,w,_⟩:=r.dom a m
           dsimp only at e
           rw [if_neg (nD w)] at e
           cases e
     ·obtain ⟨h,hm,rfl⟩:=List.mem_map.mp m
      refine ⟨(hh h hm).1.same s2,fun a ha q e=>?_⟩
      obtain ⟨o,w,_⟩:=(hh h hm).1.dom a ha
      rw [if_neg (nD w)] at e
      cases e
     ·by_cases w:a=Dd
      ·rw [w];exact ⟨hoD,.inl hDd⟩
      ·rw [if_neg w] at e;cases e
    refine ⟨fun i m σ' H'=>m=ds.length - i∧Same H1 H'∧σ'.length=js.length∧(∀ j,j∉is→σ'[j]? = (iniC js σ)[j]?)∧∃ done rest vs fp,H' Dd=some (.lst vs)∧Reps X.K H' done vs fp∧fp.Nodup∧(∀ a∈fp,H1 a=none∧a≠Dd) ∧
     compF (compE g tt te (iniR js ρ)) (ds.drop i)=some rest∧done++rest=es∧done.length≤i,?_,?_⟩
    ·refine ⟨ds.length,rfl,fun b o e=>by rw [upd_ne (ne_of_none e hDd)];exact e,by unfold iniC;rw [List.length_map],fun _ _=>rfl,[],es,[],[],upd_same,.nil,List.nodup_nil,(fun a m=>nomatch m),hcf,rfl,Nat.le_refl _⟩
    ·rintro i m σ' H' ⟨rfl,sH,hlen,hag,done,rest,vs,fp,hD,rs,nd,fr,hr,rfl,hle⟩
     obtain ⟨go,stop⟩:=itok H' i fun h m=>(hh h m).1.same sH
     by_cases hl:ds.length≤i
     ·refine .inl ⟨stop hl,?_⟩
      rw [List.drop_eq_nil_of_le hl] at hr
      cases hr
      rw [List.append_nil] at k
      refine k H' (.ref Dd) (Dd::fp) (s1.trans sH) (.lst hD rs) ⟨List.nodup_cons.mpr ⟨fun m=>(fr Dd m).2 rfl,nd⟩,fun a m=>?_⟩
      rcases List.mem_cons.mp m with e | m
      ·rw [e];exact s1.free hDd
      ·exact s1.free (fr a m).1
     ·have hlt:i < ds.length:=Nat.lt_of_not_le hl
      rw [List.drop_eq_getElem_cons hlt] at hr
      obtain ⟨g1,g2⟩:=go ds[i] (List.getElem?_eq_getElem hlt)
      refine .inr ⟨g1,fun x H2 y=>?_⟩
      obtain ⟨s2,fp2,r2,sub⟩:=g2 x H2 y
      have ok2:=inner σ' H' sH ⟨_,hD⟩ hlen hag
      unfold compF at hr
      cases hE:compE g tt te (iniR js ρ) ds[i] with
      | none=>rw [hE] at hr;cases hr
      | some oe=>
       rw [hE] at hr
       unfold compE at hE
       cases hg1:g ds[i] (.sh []) (iniR js ρ) with
       | none=>rw [hg1] at hE;cases hE
       | some ρ1=>
        rw [hg1] at hE
        dsimp only at hE
        have tko:TagOk (fun a=>if a=Dd then some js.length else none) H' (.sh []) fp2:=fun a m j e=>by
         obtain ⟨h,hm,ha⟩:=sub a m
         obtain ⟨o,w,_⟩:=(hh h hm).1.dom a ha
         dsimp only at e
         rw [if_neg (ne_of_none w hDd)] at e
         cases e
        refine ⟨H1,[],_,_,iniR js ρ,H',ds[i],.sh [],fp2,ρ1,ok2,s2,r2,tko,hg1,fun z3 σ3 ok3 ag3=>?_⟩
        have len3:σ3.length=js.length:=ag3.1.trans hlen
        have agc:∀ j,j∉is→σ3[j]? = (iniC js σ)[j]? :=fun j hj=>(ag3.2 j hj).trans (hag j hj)
        cases ht:tt ρ1 with
        | none=>rw [ht] at hE;cases hE
        | some b=>
         rw [ht] at hE
         refine ⟨H1,[],z3,_,ρ1,b,ok3,ht,fun H4 s4=>?_⟩
         have s14:Same H1 H4:=(sH.trans s2).trans s4
         have s04:Same H' H4:=s2.trans s4
         cases b with
         | false=>
          cases hE
          refine iteF ?_
          exact ⟨ds.length - (i + 1),by omega,rfl,s14,len3,agc,done,rest,vs,fp,s04 _ _ hD,rs.same s04,nd,fr,hr,rfl,Nat.le_succ_of_le hle⟩
         | true=>
          refine iteT ?_
          dsimp only at hE
          cases hte:te ρ1 with
          | none=>rw [hte] at hE;cases hE
          | some w=>
           obtain ⟨y,ty⟩:=w
           rw [hte] at hE
           dsimp only at hE
           refine ⟨H1,[],z3,_,ρ1,y,ty,ok3.same s4,hte,fun H5 yv fy s5 ry gy=>?_⟩
           have oe':oe=some y∧fy.Nodup∧∀ a∈fy,H4 a=none:=by
            by_cases ho:isOwn ty=true
            ·rw [if_pos ho] at hE
             cases hE
             exact ⟨rfl,by cases ty <;> first | exact gy | cases ho⟩
            ·rw [if_neg ho] at hE
             by_cases hi:imm y=true
             ·rw [if_pos hi] at hE
              cases hE
              have hn:=ry.imm hi
              subst hn
              exact ⟨rfl,List.nodup_nil,fun a m=>nomatch m⟩
             ·rw [if_neg hi] at hE;cases hE
           obtain ⟨rfl,ndy,fry⟩:=oe'
           dsimp only at hr
           cases hrest:compF (compE g tt te (iniR js ρ)) (ds.drop (i + 1)) with
           | none=>rw [hrest] at hr;cases hr
           | some r'=>
            rw [hrest] at hr
            cases hr
            have s05:Same H' H5:=s04.trans s5
            have hD5:H5 Dd=some (.lst vs):=s05 _ _ hD
            have lv:vs.length < sizeLine:=by rw [← rs.length];omega
            have im:Imm H5 (upd H5 Dd (.lst (vs++[yv]))):=Imm.upd hD5 rfl
            have n1:∀ a∈fp++fy,a≠Dd:=fun a m=>by
             rcases List.mem_append.mp m with m | m
             ·exact (fr a m).2
             ·intro e
              have:=fry a m
              rw [e,s04 _ _ hD] at this;cases this
            have rs5:Reps X.K H5 (done++[y]) (vs++[yv]) (fp++fy):=by
             have q:=Reps.append (rs.same s05) (Reps.cons ry .nil)
             rw [List.append_nil] at q
             exact q
            refine ⟨vs,hD5,lv,ds.length - (i + 1),by omega,rfl,fun b o e=>?_,len3,agc,done++[y],r',vs++[yv],fp++fy,upd_same,rs5.frame (fun a m=>upd_ne (n1 a m)) im,?_,fun a m=>?_,hrest,?_,?_⟩
            ·rw [upd_ne (ne_of_none e hDd)]
             exact s5 _ _ (s14 _ _ e)
            ·refine List.nodup_append.mpr ⟨nd,ndy,fun a m b m' e=>?_⟩
             subst e
             obtain ⟨o,w,_⟩:=(rs.same s04).dom a m
             rw [fry a m'] at w;cases w
            ·refine ⟨?_,n1 a m⟩
             rcases List.mem_append.mp m with m | m
             ·exact (fr a m).1
             ·exact s14.free (fry a m)
            ·rw [List.append_assoc];rfl
            ·rw [List.length_append,List.length_singleton];omega
  ·rw [if_neg hz] at e;cases e
theorem fp_comp {tg iter elt:Expr}{ifs:List Expr}{sc:Scope}{M:List Str}{js:List (Option Nat)}{it:IF}{g:GF}{tt:TF}{te:EF}{is:List Nat} (S:CompScope X M js sc) (hc:X.calm=true) (hi:FI X tg iter it) (hjs:∀ i∈is,js[i]? = some none)
  (hb:∀ s3 H3 fp,FG (cxComp X M sc s3 H3 fp) tg g is∧FTs (cxComp X M sc s3 H3 fp) ifs tt∧FP (cxComp X M sc s3 H3 fp) elt te) (hs:∀ x,foldedSetIterable iter X.env x=pure x:=by intro _;rfl) :
  FP X (.ListComp elt [⟨tg,iter,ifs,0⟩] sc pos) (eComp js it g tt te):=by
 obtain ⟨wi,pi,si⟩:=hi
 exact ⟨_,pe_comp (g:=tgS X.K g is) (tt:=ttS X.K tt) (te:=teS X.K te) S hc pi (fun s3 H3 fp=>⟨(hb s3 H3 fp).1.pg,(hb s3 H3 fp).2.1,(hb s3 H3 fp).2.2.pe⟩) hs,fun H0 S z held ρ σ H Q d tg ok e k=>comp_read hjs si H0 S z held ρ σ H Q d tg ok e k⟩
end
def iniF (n:Nat) (ds:List D):Rho:=ds.map (fun d=>some (d,.sh []))++List.replicate (n - ds.length) none
def runF (n N:Nat) (b:SF):List D→Option D:=fun ds=>if ds.length=n then (match b (iniF N ds) with
 | some (.rt d)=>some d
 | some (.nx _)=>some .non
 | _=>none) else none
section
variable {P:Program}{w:World}{K:PySem.W.Frag}{mg:Str→Option Value}{base:Heap}
theorem fn_F {cm:Bool}{x qual:Str}{st:Stmt}{f:Addr}{fd:FuncData}{N ps:List Str}{k:Nat}{b:SF} (F:Fun K x qual st f fd) (S:FnScope N ps (defScope st))
  (hb:∀ (cdv:Value) (A:Around) (outer:List Env) (s:Shared) (H:Hp) (E:XK),Room k (A.deeper (envOfC qual (defScope st) s.heap.objs.size f cdv)) cm→FS (cxOf CX0 P w K mg base N qual (defScope st) f cdv A outer s H E cm).nox (defBody st) b) :
  FnOk P w K mg base CX0 (k + 1) f fd ps (spF K (runF ps.length N.length b)) cm:=by
 have lenF:∀ {ds:List D}{d:D},runF ps.length N.length b ds=some d→ds.length=ps.length:=fun {ds d} e=>by
  unfold runF at e
  by_cases h:ds.length=ps.length
  ·exact h
  ·rw [if_neg h] at e;cases e
 refine F.ok S (fun vs H Q E ⟨ds,fp,d,rs,e,_⟩=>?_) (fun cdv A outer s H vs Q E hr ⟨ds,fp,d,rs,e,q⟩=>?_)
 ·rw [← rs.length];exact lenF e
 ·obtain ⟨t,p,sd⟩:=hb cdv A outer s H E hr
  refine ⟨t,p,?_⟩
  have hl:=lenF e
  have hlv:=rs.length
  have ok:Ok K H [] (fun _=>none) [] (iniF N.length ds) (start N vs) H:=by
   refine ⟨fun i d' t' e'=>?_,(fun p m=>by cases m),(fun a j e=>by cases e),(fun a o e _=>e),?_⟩
   ·unfold iniF at e'
    by_cases hi:i < ds.length
    ·rw [List.getElem?_append_left (by rw [List.length_map];exact hi),List.getElem?_map,List.getElem?_eq_getElem hi] at e'
     cases e'
     obtain ⟨v,f',hv,rv,_⟩:=rs.get (List.getElem?_eq_getElem hi)
     refine ⟨v,f',?_,rv,fun a _ j e=>by cases e⟩
     unfold start
     rw [List.getElem?_append_left (by rw [List.length_map];omega),List.getElem?_map,hv]
     rfl
    ·rw [List.getElem?_append_right (by rw [List.length_map];omega),List.getElem?_replicate] at e'
     split at e' <;> cases e'
   ·unfold iniF start
    rw [List.length_append,List.length_append,List.length_map,List.length_map,List.length_replicate,List.length_replicate,hlv]
  unfold runF at e
  rw [if_pos hl] at e
  cases ho:b (iniF N.length ds) with
  | none=>rw [ho] at e;cases e
  | some o=>
   rw [ho] at e
   refine sd H [] (fun _=>none) [] (iniF N.length ds) (start N vs) H _ o ok ho ?_
   cases o with
   | rt d'=>
    cases e
    exact fun H' v fp' en r nd fr=>q H' v fp' (fun a o e=>en a o e (fun m=>nomatch m)) r nd fun a m=>(fr a m).resolve_right fun m=>nomatch m
   | nx ρ'=>
    cases e
    exact fun z' σ' H' ok' _=>q H' .non [] (fun a o e=>ok'.en a o e (fun m=>nomatch m)) .non List.nodup_nil fun a m=>nomatch m
   | bk _=>cases e
   | ct _=>cases e
   | er _ _ _=>cases e
end
def iop (f:Int→Int→Int):D→D→Option D
 | .int i,.int j=>some (.int (f i j))
 | _,_=>none
def iopC (C:Int→Int→Bool) (f:Int→Int→Int):D→D→Option D
 | .int i,.int j=>if C i j=true then some (.int (f i j)) else none
 | _,_=>none
def iopB (f:Int→Int→Bool):D→D→Option D
 | .int i,.int j=>some (.bl (f i j))
 | _,_=>none
def cMul (i j:Int):Bool:=(decide (-(2 ^ 64) < i)&&decide (i < 2 ^ 64))||(decide (-(2 ^ 64) < j)&&decide (j < 2 ^ 64))
def cPos (_ j:Int):Bool:=decide (0 < j)
def oAdd:=iop fun i j=>i + j
def oSub:=iop fun i j=>i - j
def oMul:=iopC cMul fun i j=>i * j
def oMod:=iopC cPos fun i j=>i % j
def oLt:=iopB fun i j=>decide (i < j)
def oLe:=iopB fun i j=>decide (i≤j)
def oGt:=iopB fun i j=>decide (j < i)
def oGe:=iopB fun i j=>decide (j≤i)
def oEq:D→D→Option D
 | .int i,.int j=>some (.bl (i == j))
 | .bl i,.bl j=>some (.bl (i == j))
 | .str i,.str j=>some (.bl (i == j))
 | .non,.non=>some (.bl true)
 | _,_=>none
def oNe:D→D→Option D
 | .int i,.int j=>some (.bl (!(i == j)))
 | .bl i,.bl j=>some (.bl (!(i == j)))
 | .str i,.str j=>some (.bl (!(i == j)))
 | .non,.non=>some (.bl false)
 | _,_=>none
def isNon:D→Bool
 | .non=>true
 | _=>false
def oIsN:D→D→Option D
 | d,.non=>some (.bl (isNon d))
 | _,_=>none
def oNotN:D→D→Option D
 | d,.non=>some (.bl (!isNon d))
 | _,_=>none
section
variable {K:PySem.W.Frag}
theorem does_i {g:Int→Int→Int}:Does2 K (rI0 fun i j=>.int (g i j)) (iop g):=by
 intro H x y d1 d2 f1 f2 d Q r1 r2 e k
 unfold iop at e
 split at e
 ·cases e
  exact ⟨_,_,r1.int_of.1,r2.int_of.1,k H _ (Same.refl H) (.int _)⟩
 ·cases e
theorem does_iB {g:Int→Int→Bool}:Does2 K (rI0 fun i j=>.bl (g i j)) (iopB g):=by
 intro H x y d1 d2 f1 f2 d Q r1 r2 e k
 unfold iopB at e
 split at e
 ·cases e
  exact ⟨_,_,r1.int_of.1,r2.int_of.1,k H _ (Same.refl H) (.bl _)⟩
 ·cases e
theorem does_iC {C:Int→Int→Prop}{c:Int→Int→Bool}{g:Int→Int→Int} (h:∀ i j,c i j=true→C i j):Does2 K (rI C fun i j=>.int (g i j)) (iopC c g):=by
 intro H x y d1 d2 f1 f2 d Q r1 r2 e k
 unfold iopC at e
 split at e
 ·rename_i i j
  by_cases hc:c i j=true
  ·rw [if_pos hc] at e
   cases e
   exact ⟨i,j,r1.int_of.1,r2.int_of.1,h i j hc,k H _ (Same.refl H) (.int _)⟩
  ·rw [if_neg hc] at e;cases e
 ·cases e
theorem cMul_ok (i j:Int) (h:cMul i j=true):CMul i j:=by
 unfold cMul at h
 unfold CMul
 rcases (Bool.or_eq_true _ _).mp h with h | h
 ·obtain ⟨a,b⟩:=(Bool.and_eq_true _ _).mp h
  exact .inl ⟨of_decide_eq_true a,of_decide_eq_true b⟩
 ·obtain ⟨a,b⟩:=(Bool.and_eq_true _ _).mp h
  exact .inr ⟨of_decide_eq_true a,of_decide_eq_true b⟩
theorem does_eq:Does2 K rEq oEq:=by
 intro H x y d1 d2 f1 f2 d Q r1 r2 e k
 unfold oEq at e
 split at e
 ·cases e;rw [r1.int_of.1,r2.int_of.1];refine ⟨rfl,?_⟩;rw [dec_int];exact k H _ (Same.refl H) (.bl _)
 ·cases e;rw [r1.bl_of.1,r2.bl_of.1];refine ⟨rfl,?_⟩;rw [dec_bl];exact k H _ (Same.refl H) (.bl _)
 ·cases e;rw [r1.str_of.1,r2.str_of.1];refine ⟨rfl,?_⟩;rw [dec_str];exact k H _ (Same.refl H) (.bl _)
 ·cases e;rw [r1.non_of.1,r2.non_of.1];exact ⟨rfl,by have:=k H (.bl true) (Same.refl H) (.bl _);simpa using this⟩
 ·cases e
theorem does_ne:Does2 K rNe oNe:=by
 intro H x y d1 d2 f1 f2 d Q r1 r2 e k
 unfold oNe at e
 split at e
 ·cases e;rw [r1.int_of.1,r2.int_of.1];refine ⟨rfl,?_⟩;rw [dec_int];exact k H _ (Same.refl H) (.bl _)
 ·cases e;rw [r1.bl_of.1,r2.bl_of.1];refine ⟨rfl,?_⟩;rw [dec_bl];exact k H _ (Same.refl H) (.bl _)
 ·cases e;rw [r1.str_of.1,r2.str_of.1];refine ⟨rfl,?_⟩;rw [dec_str];exact k H _ (Same.refl H) (.bl _)
 ·cases e;rw [r1.non_of.1,r2.non_of.1];exact ⟨rfl,by have:=k H (.bl false) (Same.refl H) (.bl _);simpa using this⟩
 ·cases e
theorem Rep.isNon {H:Hp}{d:D}{v:V}{fp:List Addr} (r:Rep K H d v fp):decide (v=.non)=isNon d:=by
 cases r <;> first | rfl | exact decide_eq_false (fun e=>nomatch e)
theorem does_notN:Does2 K (fun x y H Q=>y=.non∧Q (.bl (!decide (x=.non))) H) oNotN:=by
 intro H x y d1 d2 f1 f2 d Q r1 r2 e k
 cases r2 with
 | non=>
  have e:some (D.bl (!Ev.isNon d1))=some d:=by cases d1 <;> exact e
  cases e
  refine ⟨rfl,?_⟩
  rw [r1.isNon]
  exact k H _ (Same.refl H) (.bl _)
 | _=>cases d1 <;> cases e
end
section
variable {X:Cx}{a b:Expr}{fa fb:EF}{pos:Pos}
theorem fp_add (ha:FP X a fa) (hb:FP X b fb):FP X (.BinOp a .Add b pos) (e2 oAdd fa fb):=fp_bin op_add does_i ha hb
theorem fp_mul (ha:FP X a fa) (hb:FP X b fb):FP X (.BinOp a .Mult b pos) (e2 oMul fa fb):=fp_bin op_mul (does_iC cMul_ok) ha hb
theorem fp_mod (ha:FP X a fa) (hb:FP X b fb):FP X (.BinOp a .Mod b pos) (e2 oMod fa fb):=fp_bin op_mod (does_iC fun _ _ h=>of_decide_eq_true h) ha hb
theorem ft_gt (ha:FP X a fa) (hb:FP X b fb):FT X (.Compare a [.Gt] [b] pos) (tV (e2 oGt fa fb)):=ft_cmp op_gt does_iB ha hb (nomark _)
theorem ft_eq (ha:FP X a fa) (hb:FP X b fb):FT X (.Compare a [.Eq] [b] pos) (tV (e2 oEq fa fb)):=ft_cmp op_eq does_eq ha hb (nomark _)
theorem ft_ne (ha:FP X a fa) (hb:FP X b fb):FT X (.Compare a [.NotEq] [b] pos) (tV (e2 oNe fa fb)):=ft_cmp op_ne does_ne ha hb (nomark _)
theorem ft_notN (ha:FP X a fa) (hb:FP X b fb):FT X (.Compare a [.IsNot] [b] pos) (tV (e2 oNotN fa fb)):=ft_cmp op_notN does_notN ha hb (nomark _)
theorem fp_eq (ha:FP X a fa) (hb:FP X b fb):FP X (.Compare a [.Eq] [b] pos) (e2 oEq fa fb):=fp_cmp op_eq does_eq ha hb (nomark _)
def e1 (op:D→Option D) (fa:EF):EF:=fun ρ=>match fa ρ with
 | some (d1,_)=>(op d1).map fun d=>(d,.own)
 | none=>none
theorem e1_of {op:D→Option D}{fa:EF}{ρ:Rho}{d:D}{tg:Tag} (e:e1 op fa ρ=some (d,tg)):∃ d1 t1,fa ρ=some (d1,t1)∧op d1=some d∧tg=.own:=by
 unfold e1 at e
 cases h1:fa ρ with
 | none=>rw [h1] at e;cases e
 | some p=>
  obtain ⟨d1,t1⟩:=p
  rw [h1] at e
  dsimp only at e
  cases h3:op d1 with
  | none=>rw [h3] at e;cases e
  | some d3=>rw [h3] at e;cases e;exact ⟨d1,t1,rfl,h3,rfl⟩
def Does1 (K:PySem.W.Frag) (r:List V→Hp→VK→Prop) (op:D→Option D):Prop:=∀ (H:Hp) (x:V) (d1:D) (f1:List Addr) (d:D) (Q:VK),Rep K H d1 x f1→op d1=some d →
 (∀ H' v fp,Same H H'→Rep K H' d v fp→fp.Nodup→(∀ a∈fp,H a=none)→Q v H')→r [x] H Q
theorem fp_1 {e:Expr}{r:List V→Hp→VK→Prop}{op:D→Option D} (dd:Does1 X.K r op) (ha:FP X a fa) (he:∀ ta,PE X a ta→PE X e (tCB r (tCons ta tNil))):FP X e (e1 op fa):=by
 obtain ⟨t,p,q⟩:=ha
 refine ⟨_,he t p,fun H0 S z held ρ σ H Q d tg ok e k=>?_⟩
 obtain ⟨d1,t1,h1,h2,rfl⟩:=e1_of e
 refine q H0 S z held ρ σ H _ d1 t1 ok h1 fun H1 x f1 s1 r1 _=>?_
 exact dd H1 x d1 f1 d Q r1 h2 fun H2 v fp s2 r2 nd fr=>k H2 v fp (s1.trans s2) r2 ⟨nd,fun a m=>s1.free (fr a m)⟩
def oLen:D→Option D
 | .lst ds=>some (.int ds.length)
 | .fls ds=>some (.int ds.length)
 | .tup ds=>some (.int ds.length)
 | .dic es=>some (.int es.length)
 | _=>none
theorem CallR.or' {f:Value}{r r':List V→Hp→VK→Prop} (h:CallR X f r) (h':CallR X f r'):CallR X f (fun xs H Q=>r xs H Q∨r' xs H Q):=by
 intro pins s σ H xs us Q I rv q
 rcases q with q | q
 ·exact h pins s σ H xs us Q I rv q
 ·exact h' pins s σ H xs us Q I rv q
theorem does_len:Does1 X.K (fun xs H Q=>(∃ p ys,xs=[V.ref p]∧(SqL X.K H p ys∨SqT X.K H p ys)∧Q (.int ys.length) H)∨(∃ a kvs,xs=[V.ref a]∧H a=some (.dK kvs)∧Q (.int kvs.length) H)) oLen:=by
 intro H x d1 f1 d Q r e k
 have fin:∀ n:Nat,d=.int n→Q (.int n) H:=fun n e=>by subst e;exact k H _ [] (Same.refl H) (.int _) List.nodup_nil fun a m=>nomatch m
 cases d1 with
 | lst ds=>
  obtain ⟨a,xs,f,rfl,hq,rs,_⟩:=r.lst_of
  cases e
  exact .inl ⟨a,xs,rfl,.inl hq,by rw [← rs.length];exact fin _ rfl⟩
 | fls ds=>
  obtain ⟨a,xs,rfl,hq,rs⟩:=r.fls_of
  cases e
  exact .inl ⟨a,xs,rfl,.inl hq,by rw [← rs.length];exact fin _ rfl⟩
 | tup ds=>
  obtain ⟨a,xs,rfl,hq,rs⟩:=r.tup_of
  cases e
  exact .inl ⟨a,xs,rfl,.inr hq,by rw [← rs.length];exact fin _ rfl⟩
 | dic es=>
  cases r with
  | dic h hk rs=>
   cases e
   refine .inr ⟨_,_,rfl,h,?_⟩
   have hl:=congrArg List.length hk
   rw [List.length_map,List.length_map] at hl
   rw [← hl]
   exact fin _ rfl
 | _=>cases e
theorem fp_len {p:Pos} (hm:X.mg "len"=none) (ha:FP X a fa) (hg:Gl X "len":=by rfl) (hs:starEach [a] X.env=[(false,eval a X.env)]:=by rfl):FP X (.Call (.Name "len" p) [a] [] pos) (e1 oLen fa):=
 fp_1 does_len ha fun ta pa=>pe_callB (CallR.or' call_len_seq call_lenD) hg hm PySem.boot_len (pa_cons pa pa_nil hs) (he:=hs) (hpl:=rfl)
def oList:D→Option D
 | .lst ds=>if immAll ds=true then some (.lst ds) else none
 | .tup ds=>if immAll ds=true then some (.lst ds) else none
 | _=>none
theorem does_list:Does1 X.K (fun xs H Q=>∃ p ys,xs=[V.ref p]∧(SqL X.K H p ys∨SqT X.K H p ys)∧∀ l,H l=none→Q (.ref l) (upd H l (.lst ys))) oList:=by
 intro H x d1 f1 d Q r e k
 have fin:∀ {ds:List D}{xs:List V}{f:List Addr},Reps X.K H ds xs f→(if immAll ds=true then some (D.lst ds) else none)=some d→∀ l,H l=none→Q (.ref l) (upd H l (.lst xs)):=fun {ds xs f} rs e l hl=>by
  by_cases hi:immAll ds=true
  ·rw [if_pos hi] at e
   cases e
   have hn:=rs.imm hi
   subst hn
   have s2:Same H (upd H l (.lst xs)):=fun b o e=>by rw [upd_ne (ne_of_none e hl)];exact e
   exact k _ _ [l] s2 (.lst upd_same (rs.same s2)) (List.nodup_cons.mpr ⟨(fun m=>by cases m),List.nodup_nil⟩) fun a m=>by cases List.mem_singleton.mp m;exact hl
  ·rw [if_neg hi] at e;cases e
 cases d1 with
 | lst ds=>
  obtain ⟨a,xs,f,rfl,hq,rs,_⟩:=r.lst_of
  exact ⟨a,xs,rfl,.inl hq,fin rs e⟩
 | tup ds=>
  obtain ⟨a,xs,rfl,hq,rs⟩:=r.tup_of
  exact ⟨a,xs,rfl,.inr hq,fin rs e⟩
 | _=>cases e
theorem fp_list {p:Pos} (hm:X.mg "list"=none) (ha:FP X a fa) (hg:Gl X "list":=by rfl) (hs:starEach [a] X.env=[(false,eval a X.env)]:=by rfl):FP X (.Call (.Name "list" p) [a] [] pos) (e1 oList fa):=
 fp_1 does_list ha fun ta pa=>pe_callTy call_list_of hg hm (by rfl) (pa_cons pa pa_nil hs) (he:=hs) (hpl:=rfl)
end
def oIx:D→D→Option D
 | .fls ds,.int i=>(atI ds i).bind fun d=>if imm d=true then some d else none
 | .lst ds,.int i=>(atI ds i).bind fun d=>if imm d=true then some d else none
 | .tup ds,.int i=>(atI ds i).bind fun d=>if imm d=true then some d else none
 | _,_=>none
theorem does_ix {K:PySem.W.Frag}:Does2 K (fun x y H Q=>rIxL K x y H Q∨rIxT K x y H Q∨rIxS x y H Q) oIx:=by
 intro H x y d1 d2 f1 f2 d Q r1 r2 e k
 have key:∀ {ds:List D}{xs:List V}{f:List Addr}{i:Int},Reps K H ds xs f→((atI ds i).bind fun d=>if imm d=true then some d else none)=some d→∃ v,atI xs i=some v∧Rep K H d v []:=fun {ds xs f i} rs e=>by
  unfold atI at e ⊢
  rw [← rs.length]
  cases h:ixN ds.length i with
  | none=>rw [h] at e;cases e
  | some j=>
   rw [h,Option.bind_some] at e
   rw [Option.bind_some]
   cases h2:ds[j]? with
   | none=>rw [h2] at e;cases e
   | some d'=>
    rw [h2,Option.bind_some] at e
    by_cases hi:imm d'=true
    ·rw [if_pos hi] at e
     cases e
     obtain ⟨v,f',hv,rv,_⟩:=rs.get h2
     have hn:=rv.imm hi
     subst hn
     exact ⟨v,hv,rv⟩
    ·rw [if_neg hi] at e;cases e
 unfold oIx at e
 split at e
 ·obtain ⟨a,xs,rfl,hq,rs⟩:=r1.fls_of
  obtain ⟨v,hv,rv⟩:=key rs e
  exact .inl ⟨a,xs,_,v,rfl,r2.int_of.1,hq,hv,k H v (Same.refl H) rv⟩
 ·obtain ⟨a,xs,f,rfl,hq,rs,_⟩:=r1.lst_of
  obtain ⟨v,hv,rv⟩:=key rs e
  exact .inl ⟨a,xs,_,v,rfl,r2.int_of.1,hq,hv,k H v (Same.refl H) rv⟩
 ·obtain ⟨a,xs,rfl,hq,rs⟩:=r1.tup_of
  obtain ⟨v,hv,rv⟩:=key rs e
  exact .inr (.inl ⟨a,xs,_,v,rfl,r2.int_of.1,hq,hv,k H v (Same.refl H) rv⟩)
 ·cases e
theorem fp_ix {X:Cx}{a b:Expr}{fa fb:EF}{pos:Pos} (ha:FP X a fa) (hb:FP X b fb) (hs:PlainIx b:=by exact fun _ _=>rfl):FP X (.Subscript a b pos) (e2 oIx fa fb):=fp_2 does_ix ha hb fun _ _ pa pb=>pe_ix ix_seq pa pb hs
section
variable {ρ ρ':Rho}{i j:Nat}{d d1 d2:D}{t t1 t2:Tag}{op2:D→D→Option D}{op1:D→Option D}{f g fa fb:EF}{tf tg:TF}{sf sg:SF}{o:Out}
def varK (i:Nat):Option Slot→Option (D×Tag)
 | some (some (d,t))=>some (d,tagOf i t)
 | _=>none
theorem s_eVar:eVar i ρ=varK i ρ[i]? :=by
 unfold eVar varK
 cases ρ[i]? with
 | none=>rfl
 | some s=>cases s <;> rfl
theorem s_varK:varK i (some (some (d,t)))=some (d,tagOf i t):=rfl
theorem s_tagS {o:List Nat}:tagOf i (.sh o)=.sh o:=rfl
theorem s_tagO:tagOf i .own=.sh [i]:=rfl
theorem s_tagL:tagOf i .lk=.sh [i]:=rfl
theorem s_eC:eC d ρ=some (d,.own):=rfl
def k1 (op:D→Option D):Option (D×Tag)→Option (D×Tag)
 | some (d,_)=>(op d).map fun d=>(d,.own)
 | none=>none
theorem s_e1:e1 op1 fa ρ=k1 op1 (fa ρ):=by unfold e1 k1;cases fa ρ <;> rfl
theorem s_k1:k1 op1 (some (d,t))=(op1 d).map fun d=>(d,.own):=rfl
def k2 (op:D→D→Option D):Option (D×Tag)→Option (D×Tag)→Option (D×Tag)
 | some (d1,_),some (d2,_)=>(op d1 d2).map fun d=>(d,.own)
 | _,_=>none
theorem s_e2:e2 op2 fa fb ρ=k2 op2 (fa ρ) (fb ρ):=by unfold e2 k2;cases fa ρ <;> cases fb ρ <;> rfl
theorem s_k2:k2 op2 (some (d1,t1)) (some (d2,t2))=(op2 d1 d2).map fun d=>(d,.own):=rfl
theorem s_map {α β:Type}{f:α→β}{a:α}:(some a).map f=some (f a):=rfl
def kV:Option (D×Tag)→Option Bool
 | some (.bl b,_)=>some b
 | _=>none
theorem s_tV:tV fa ρ=Ev.kV (fa ρ):=by
 unfold tV Ev.kV
 cases fa ρ with
 | none=>rfl
 | some p=>obtain ⟨d,t⟩:=p;cases d <;> rfl
theorem s_kV {b:Bool}:Ev.kV (some (.bl b,t))=some b:=rfl
theorem s_and:tAnd2 tf tg ρ=(match tf ρ with | some true=>tg ρ | some false=>some false | none=>none):=rfl
theorem s_not:tNot1 tf ρ=(tf ρ).map fun b=>!b:=rfl
theorem s_nx:sNx ρ=some (.nx ρ):=rfl
theorem s_bk:sBk ρ=some (.bk ρ):=rfl
theorem s_ct:sCt ρ=some (.ct ρ):=rfl
def seqK (g:SF):Option Out→Option Out
 | some (.nx ρ)=>g ρ
 | o=>o
theorem s_seq:sSeq sf sg ρ=seqK sg (sf ρ):=by
 unfold sSeq seqK
 cases sf ρ with
 | none=>rfl
 | some o=>cases o <;> rfl
theorem s_seqN:seqK sg (some (.nx ρ))=sg ρ:=rfl
theorem s_seqR:seqK sg (some (.rt d))=some (.rt d):=rfl
theorem s_seqB:seqK sg (some (.bk ρ))=some (.bk ρ):=rfl
theorem s_seqC:seqK sg (some (.ct ρ))=some (.ct ρ):=rfl
def ifK (sf sg:SF) (ρ:Rho):Option Bool→Option Out
 | some true=>sf ρ
 | some false=>sg ρ
 | none=>none
theorem s_if:sIf tf sf sg ρ=ifK sf sg ρ (tf ρ):=by unfold sIf ifK;cases tf ρ <;> rfl
theorem s_ifT:ifK sf sg ρ (some true)=sf ρ:=rfl
theorem s_ifF:ifK sf sg ρ (some false)=sg ρ:=rfl
def retK:Option (D×Tag)→Option Out
 | some (d,t)=>if isOwn t=true then some (.rt d) else if imm d=true then some (.rt d) else none
 | none=>none
theorem s_ret:sRet fa ρ=retK (fa ρ):=by unfold sRet retK;cases fa ρ <;> rfl
theorem s_retO:retK (some (d,.own))=some (.rt d):=rfl
def retVK:Option Slot→Option Out
 | some (some (d,t))=>if isOwn t=true then some (.rt d) else if imm d=true then some (.rt d) else none
 | _=>none
theorem s_retV:sRetV i ρ=retVK ρ[i]? :=by
 unfold sRetV retVK
 cases ρ[i]? with
 | none=>rfl
 | some s=>cases s <;> rfl
theorem s_retVO:retVK (some (some (d,.own)))=some (.rt d):=rfl
theorem s_retVL:retVK (some (some (d,.lk)))=some (.rt d):=rfl
def setK (i:Nat) (ρ:Rho):Option (D×Tag)→Option Out
 | some (d,t)=>some (.nx (setS ρ i d t))
 | none=>none
theorem s_set:sSet i fa ρ=setK i ρ (fa ρ):=by unfold sSet setK;cases fa ρ <;> rfl
theorem s_setO:setK i ρ (some (d,.own))=some (.nx (ρ.set i (some (d,.own)))):=rfl
theorem s_setS {o:List Nat}:setK i ρ (some (d,.sh o))=some (.nx (ρ.set i (some (d,.sh o)))):=rfl
theorem s_sS {o:List Nat}:setS ρ i d (.sh o)=ρ.set i (some (d,.sh o)):=rfl
theorem s_sO:setS ρ i d .own=ρ.set i (some (d,.own)):=rfl
theorem s_gN:gN i d t ρ=some (setS ρ i d t):=rfl
theorem s_aNil:aNil ρ=some []:=rfl
def consK:Option (D×Tag)→Option (List (D×Tag))→Option (List (D×Tag))
 | some p,some ps=>some (p::ps)
 | _,_=>none
theorem s_aCons {a:AF}:aCons fa a ρ=consK (fa ρ) (a ρ):=by unfold aCons consK;cases fa ρ <;> cases a ρ <;> rfl
theorem s_consK {p:D×Tag}{ps:List (D×Tag)}:consK (some p) (some ps)=some (p::ps):=rfl
theorem s_call {F:List D→Option D}{a:AF}:eCall F a ρ=(a ρ).bind fun ps=>(F (ps.map (·.1))).map fun d=>(d,.own):=rfl
theorem s_bind {α β:Type}{f:α→Option β}{a:α}:(some a).bind f=f a:=rfl
theorem s_tup {a:AF}:eTup a ρ=(a ρ).map fun ps=>(.tup (ps.map (·.1)),joinA ps):=rfl
theorem s_lst {a:AF}:eLst a ρ=(a ρ).map fun ps=>(.lst (ps.map (·.1)),joinA ps):=rfl
variable {m n:Int}
theorem s_oAdd:oAdd (.int m) (.int n)=some (.int (m + n)):=rfl
theorem s_oSub:oSub (.int m) (.int n)=some (.int (m - n)):=rfl
theorem s_oMul (h:cMul m n=true):oMul (.int m) (.int n)=some (.int (m * n)):=by show (if cMul m n=true then some (D.int (m * n)) else none)=_;rw [if_pos h]
theorem s_oMod (h:0 < n):oMod (.int m) (.int n)=some (.int (m % n)):=by show (if cPos m n=true then some (D.int (m % n)) else none)=_;rw [if_pos (show cPos m n=true from decide_eq_true h)]
theorem s_oLt:oLt (.int m) (.int n)=some (.bl (decide (m < n))):=rfl
theorem s_oLe:oLe (.int m) (.int n)=some (.bl (decide (m≤n))):=rfl
theorem s_oGt:oGt (.int m) (.int n)=some (.bl (decide (n < m))):=rfl
theorem s_oGe:oGe (.int m) (.int n)=some (.bl (decide (n≤m))):=rfl
theorem s_oEq:oEq (.int m) (.int n)=some (.bl (m == n)):=rfl
theorem s_oNe:oNe (.int m) (.int n)=some (.bl (!(m == n))):=rfl
theorem s_lenL {ds:List D}:oLen (.lst ds)=some (.int ds.length):=rfl
theorem s_lenF {ds:List D}:oLen (.fls ds)=some (.int ds.length):=rfl
theorem s_lenT {ds:List D}:oLen (.tup ds)=some (.int ds.length):=rfl
theorem s_lenD {es:List (Key×D)}:oLen (.dic es)=some (.int es.length):=rfl
theorem s_ixL {ds:List D} (h:atI ds m=some d) (hi:imm d=true):oIx (.lst ds) (.int m)=some d:=by show ((atI ds m).bind fun d=>if imm d=true then some d else none)=_;rw [h,Option.bind_some,if_pos hi]
theorem s_ixF {ds:List D} (h:atI ds m=some d) (hi:imm d=true):oIx (.fls ds) (.int m)=some d:=by show ((atI ds m).bind fun d=>if imm d=true then some d else none)=_;rw [h,Option.bind_some,if_pos hi]
theorem runF_rt {n N:Nat}{b:SF}{ds:List D} (hl:ds.length=n) (h:b (iniF N ds)=some (.rt d)):runF n N b ds=some d:=by unfold runF;rw [if_pos hl,h]
end
def dI (ns:List Int):D:=.fls (ns.map D.int)
theorem atI_ints {ns:List Int}{i:Int} (h0:0≤i) (h1:i < ns.length):atI (ns.map D.int) i=some (.int (ns.getD i.toNat 0)):=by
 unfold atI ixN
 have h2:i.toNat < ns.length:=by omega
 rw [List.length_map,if_pos h0,if_pos h1,Option.bind_some,List.getElem?_map,List.getElem?_eq_getElem h2,List.getD_eq_getElem?_getD,List.getElem?_eq_getElem h2]
 rfl
section
variable {κ:Type} [DecidableEq κ]
def valD (es:List (κ×D)) (k:κ):Option D:=(es.find? fun kv=>decide (kv.1=k)).map (·.2)
def putD (es:List (κ×D)) (k:κ) (d:D):List (κ×D):=
 if (es.any fun kv=>decide (kv.1=k))=true then es.map (fun kv=>if kv.1=k then (kv.1,d) else kv) else es++[(k,d)]
theorem rep_val {K:PySem.W.Frag}{H:Hp}{k:κ}:∀ {es:List (κ×D)}{kvs:List (κ×V)}{fp:List Addr},es.map (·.1)=kvs.map (·.1)→Reps K H (es.map (·.2)) (kvs.map (·.2)) fp →
  (∀ d,valD es k=some d→∃ v f,valV kvs k=some v∧Rep K H d v f∧∀ a∈f,a∈fp)∧(valD es k=none→valV kvs k=none)
 | [],[],_,_,_=>⟨fun d e=>(nomatch e),fun _=>rfl⟩
 | [],_::_,_,e,_=>by simp at e
 | _::_,[],_,e,_=>by simp at e
 | (q,d0)::es,(q',v0)::kvs,fp,e,r=>by
  simp only [List.map_cons,List.cons.injEq] at e
  obtain ⟨rfl,e⟩:=e
  simp only [List.map_cons] at r
  cases r with
  | @cons _ _ _ _ f1 f2 r1 r2=>
   obtain ⟨i1,i2⟩:=rep_val (k:=k) e r2
   by_cases h:q=k
   ·have e1:valD ((q,d0)::es) k=some d0:=by unfold valD;rw [List.find?_cons,decide_eq_true h];rfl
    refine ⟨fun d ed=>?_,fun en=>?_⟩
    ·rw [e1] at ed
     cases ed
     exact ⟨v0,f1,valV_pos h,r1,fun a m=>List.mem_append_left _ m⟩
    ·rw [e1] at en;cases en
   ·have e1:valD ((q,d0)::es) k=valD es k:=by unfold valD;rw [List.find?_cons,decide_eq_false h]
    rw [e1,valV_neg h]
    exact ⟨fun d ed=>let ⟨v,f,a,b,c⟩:=i1 d ed;⟨v,f,a,b,fun x m=>List.mem_append_right _ (c x m)⟩,i2⟩
theorem putD_keys {es:List (κ×D)}{kvs:List (κ×V)}{k:κ}{d:D}{v:V} (e:es.map (·.1)=kvs.map (·.1)):(putD es k d).map (·.1)=(putK kvs k v).map (·.1):=by
 have any:(es.any fun kv=>decide (kv.1=k))=kvs.any fun kv=>decide (kv.1=k):=by
  have h1:(es.any fun kv=>decide (kv.1=k))=(es.map (·.1)).any fun x=>decide (x=k):=by rw [List.any_map];rfl
  have h2:(kvs.any fun kv=>decide (kv.1=k))=(kvs.map (·.1)).any fun x=>decide (x=k):=by rw [List.any_map];rfl
  rw [h1,h2,e]
 have m1:∀ l:List (κ×D),(l.map fun kv=>if kv.1=k then (kv.1,d) else kv).map (·.1)=l.map (·.1):=fun l=>by
  rw [List.map_map];congr 1;funext kv;show (if kv.1=k then (kv.1,d) else kv).1=kv.1;split <;> rfl
 have m2:∀ l:List (κ×V),(l.map fun kv=>if kv.1=k then (kv.1,v) else kv).map (·.1)=l.map (·.1):=fun l=>by
  rw [List.map_map];congr 1;funext kv;show (if kv.1=k then (kv.1,v) else kv).1=kv.1;split <;> rfl
 unfold putD putK
 rw [any]
 by_cases h:(kvs.any fun kv=>decide (kv.1=k))=true
 ·rw [if_pos h,if_pos h,m1,m2,e]
 ·rw [if_neg h,if_neg h,List.map_append,List.map_append,e];rfl
theorem putD_reps {K:PySem.W.Frag}{H:Hp}{k:κ}{d:D}{v:V}{es:List (κ×D)}{kvs:List (κ×V)} (e:es.map (·.1)=kvs.map (·.1)) (r:Reps K H (es.map (·.2)) (kvs.map (·.2)) []) (rv:Rep K H d v []) :
  Reps K H ((putD es k d).map (·.2)) ((putK kvs k v).map (·.2)) []:=by
 have any:(es.any fun kv=>decide (kv.1=k))=kvs.any fun kv=>decide (kv.1=k):=by
  have h1:(es.any fun kv=>decide (kv.1=k))=(es.map (·.1)).any fun x=>decide (x=k):=by rw [List.any_map];rfl
  have h2:(kvs.any fun kv=>decide (kv.1=k))=(kvs.map (·.1)).any fun x=>decide (x=k):=by rw [List.any_map];rfl
  rw [h1,h2,e]
 have go:∀ (es:List (κ×D)) (kvs:List (κ×V)),es.map (·.1)=kvs.map (·.1)→Reps K H (es.map (·.2)) (kvs.map (·.2)) []→Reps K H ((es.map fun kv=>if kv.1=k then (kv.1,d) else kv).map (·.2)) ((kvs.map fun kv=>if kv.1=k then (kv.1,v) else kv).map (·.2)) []:=by
  intro es
  induction es with
  | nil=>
   intro kvs e r
   cases kvs with
   | nil=>exact .nil
   | cons _ _=>simp at e
  | cons p es ih=>
   intro kvs e r
   cases kvs with
   | nil=>simp at e
   | cons p' kvs=>
    obtain ⟨q,d0⟩:=p
    obtain ⟨q',v0⟩:=p'
    simp only [List.map_cons,List.cons.injEq] at e
    obtain ⟨rfl,e⟩:=e
    simp only [List.map_cons] at r ⊢
    generalize hf:([]:List Addr)=fp at r
    cases r with
    | @cons _ _ _ _ f1 f2 r1 r2=>
     obtain ⟨h1,h2⟩:=List.append_eq_nil_iff.mp hf.symm
     subst h1 h2
     have t:=ih kvs e r2
     by_cases h:q=k
     ·rw [if_pos h,if_pos h];exact Reps.cons (f1:=[]) (f2:=[]) rv t
     ·rw [if_neg h,if_neg h];exact Reps.cons (f1:=[]) (f2:=[]) r1 t
 unfold putD putK
 rw [any]
 by_cases h:(kvs.any fun kv=>decide (kv.1=k))=true
 ·rw [if_pos h,if_pos h];exact go es kvs e r
 ·rw [if_neg h,if_neg h,List.map_append,List.map_append]
  exact Reps.append (f:=[]) (g:=[]) r (Reps.cons (f1:=[]) (f2:=[]) rv .nil)
end
def keyD:D→Option Key
 | .int i=>some (.inl i)
 | .str x=>some (.inr x)
 | _=>none
theorem Rep.key {K:PySem.W.Frag}{H:Hp}{d:D}{y:V}{fp:List Addr}{k:Key} (r:Rep K H d y fp) (e:keyD d=some k):y=L2.kV k:=by
 cases r <;> cases e <;> rfl
def oGet:D→D→Option D
 | .dic es,kd=>match keyD kd with
  | some k=>(valD es k).bind fun d=>if imm d=true then some d else none
  | none=>none
 | _,_=>none
def tDg:R2:=fun x y H Q=>∃ a v,x=.ref a∧DGet H a y (some v)∧Q v H
theorem does_get {K:PySem.W.Frag}:Does2 K tDg oGet:=by
 intro H x y d1 d2 f1 f2 d Q r1 r2 e k
 cases r1 with
 | @dic a kvs es fp h hk rs=>
  have e:(match keyD d2 with | some k=>(valD es k).bind fun d=>if imm d=true then some d else none | none=>none)=some d:=e
  cases hkd:keyD d2 with
  | none=>rw [hkd] at e;cases e
  | some key=>
   rw [hkd] at e
   dsimp only at e
   cases hv:valD es key with
   | none=>rw [hv] at e;cases e
   | some d'=>
    rw [hv,Option.bind_some] at e
    by_cases hi:imm d'=true
    ·rw [if_pos hi] at e
     cases e
     obtain ⟨v,f,h1,r,_⟩:=(rep_val (k:=key) hk rs).1 d hv
     have hn:=r.imm hi
     subst hn
     have ek:=r2.key hkd
     subst ek
     have g:=DGet.k (k:=key) h
     rw [h1] at g
     exact ⟨a,v,rfl,g,k H v (Same.refl H) r⟩
    ·rw [if_neg hi] at e;cases e
 | _=>cases e
section
variable {X:Cx}{a b c:Expr}{fa fb fc:EF}{pos:Pos}
theorem fp_dget (hu:X.A.units + 1 < cLine) (ha:FP X a fa) (hb:FP X b fb) (hs:NoSl b:=by exact fun _ _=>rfl):FP X (.Subscript a b pos) (e2 oGet fa fb):=
 fp_2 does_get ha hb fun _ _ pa pb=>pe_dget hu pa pb hs
def oGetD (d1 d2 d3:D):Option D:=match d1,keyD d2 with
 | .dic es,some k=>match valD es k with
  | some d=>if imm d=true then some d else none
  | none=>if imm d3=true then some d3 else none
 | _,_=>none
def e3 (op:D→D→D→Option D) (fa fb fc:EF):EF:=fun ρ=>match fa ρ,fb ρ,fc ρ with
 | some (d1,_),some (d2,_),some (d3,_)=>(op d1 d2 d3).map fun d=>(d,.own)
 | _,_,_=>none
theorem e3_of {op:D→D→D→Option D}{ρ:Rho}{d:D}{tg:Tag} (e:e3 op fa fb fc ρ=some (d,tg)):∃ d1 t1 d2 t2 d3 t3,fa ρ=some (d1,t1)∧fb ρ=some (d2,t2)∧fc ρ=some (d3,t3)∧op d1 d2 d3=some d∧tg=.own:=by
 unfold e3 at e
 cases h1:fa ρ with
 | none=>rw [h1] at e;cases e
 | some p=>
  cases h2:fb ρ with
  | none=>rw [h1,h2] at e;cases e
  | some q=>
   cases h3:fc ρ with
   | none=>rw [h1,h2,h3] at e;cases e
   | some r=>
    obtain ⟨d1,t1⟩:=p
    obtain ⟨d2,t2⟩:=q
    obtain ⟨d3,t3⟩:=r
    rw [h1,h2,h3] at e
    dsimp only at e
    cases h4:op d1 d2 d3 with
    | none=>rw [h4] at e;cases e
    | some d4=>rw [h4] at e;cases e;exact ⟨d1,t1,d2,t2,d3,t3,rfl,rfl,rfl,h4,rfl⟩
theorem fp_dget2 {apos cpos:Pos} (hu:X.A.units + 1 < cLine) (ha:FP X a fa) (hb:FP X b fb) (hc:FP X c fc) (m:M2 X a "get" apos b c cpos:=by exact ⟨rfl,rfl,rfl,rfl⟩):FP X (.Call (.Attribute a "get" apos) [b,c] [] cpos) (e3 oGetD fa fb fc):=by
 obtain ⟨ta,pa,sa⟩:=ha
 obtain ⟨tb,pb,sb⟩:=hb
 obtain ⟨tc,pc,sc⟩:=hc
 refine ⟨_,pe_dget2 hu pa pb pc m,fun H0 S z held ρ σ H Q d tg ok e k=>?_⟩
 obtain ⟨d1,t1,d2,t2,d3,t3,h1,h2,h3,h4,rfl⟩:=e3_of e
 refine sa H0 S z held ρ σ H _ d1 t1 ok h1 fun H1 x f1 s1 r1 _=>?_
 cases d1 with
 | dic es=>
  cases r1 with
  | @dic p kvs _ fp h hk rs=>
   refine ⟨p,rfl,.inl ⟨kvs,.inl h⟩,?_⟩
   refine sb H0 S z held ρ σ H1 _ d2 t2 (ok.same s1) h2 fun H2 y f2 s2 r2 _=>?_
   refine sc H0 S z held ρ σ H2 _ d3 t3 ((ok.same s1).same s2) h3 fun H3 w f3 s3 r3 _=>?_
   unfold oGetD at h4
   cases hkd:keyD d2 with
   | none=>rw [hkd] at h4;cases h4
   | some key=>
    rw [hkd] at h4
    dsimp only at h4
    have ek:=r2.key hkd
    subst ek
    have h3':H3 p=some (.dK kvs):=s3 _ _ (s2 _ _ h)
    have g:=DGet.k (k:=key) h3'
    refine ⟨_,g,?_⟩
    have sAll:=(s1.trans s2).trans s3
    obtain ⟨i1,i2⟩:=rep_val (k:=key) hk ((rs.same s2).same s3)
    cases hv:valD es key with
    | some d'=>
     rw [hv] at h4
     dsimp only at h4
     by_cases hi:imm d'=true
     ·rw [if_pos hi] at h4
      cases h4
      obtain ⟨v,f,e1,r,_⟩:=i1 d hv
      have hn:=r.imm hi
      subst hn
      rw [e1]
      exact k H3 v [] sAll r .nil
     ·rw [if_neg hi] at h4;cases h4
    | none=>
     rw [hv] at h4
     dsimp only at h4
     by_cases hi:imm d3=true
     ·rw [if_pos hi] at h4
      cases h4
      rw [i2 hv]
      have hn:=r3.imm hi
      subst hn
      exact k H3 w [] sAll r3 .nil
     ·rw [if_neg hi] at h4;cases h4
 | _=>cases h4
theorem fp_dnew:FP X (.Dict [] [] pos) (eC (.dic [])):=by
 refine ⟨_,pe_dnewK,fun H0 S z held ρ σ H Q d tg ok e k p hp=>?_⟩
 cases e
 have s2:Same H (upd H p (.dK [])):=fun b o e=>by rw [upd_ne (ne_of_none e hp)];exact e
 exact k _ _ [p] s2 (.dic upd_same rfl .nil) ⟨List.nodup_cons.mpr ⟨(fun m=>by cases m),List.nodup_nil⟩,fun a m=>by cases List.mem_singleton.mp m;exact hp⟩
end
def dropT (i:Nat):Slot→Slot
 | some (d,.sh o)=>if o.contains i=true then none else some (d,.sh o)
 | s=>s
def mutS (ρ:Rho) (i:Nat) (d:D):Rho:=(ρ.map (dropT i)).set i (some (d,.own))
theorem Ok.mutate {K:PySem.W.Frag}{H0:Hp}{S:List Addr}{z:Addr→Option Nat}{held:List Held}{ρ:Rho}{σ:St}{H:Hp}{i:Nat}{d0 d1:D}{v:V}{fp:List Addr}{p:Addr}{o o':HO} (ok:Ok K H0 S z held ρ σ H) (h:ρ[i]? = some (some (d0,.own)))
  (hs:σ[i]? = some (some v)) (zz:InZ z i .own fp) (hp:p∈fp) (ho:H p=some o) (mo:MutO o=true) (r1:Rep K (upd H p o') d1 v fp):Ok K H0 S z held (mutS ρ i d1) σ (upd H p o'):=by
 have im:Imm H (upd H p o'):=Imm.upd ho mo
 have zp:z p=some i:=zz.2 p hp
 have hiρ:i < ρ.length:=(List.getElem?_eq_some_iff.mp h).1
 refine ⟨fun j d t e=>?_,fun q m=>?_,fun a j e=>?_,fun a u e n=>?_,?_⟩
 ·unfold mutS at e
  by_cases hj:j=i
  ·subst hj
   rw [List.getElem?_set_self (by rw [List.length_map];exact hiρ)] at e
   cases e
   exact ⟨v,fp,hs,r1,zz⟩
  ·rw [List.getElem?_set_ne (Ne.symm hj),List.getElem?_map] at e
   cases e0:ρ[j]? with
   | none=>rw [e0] at e;cases e
   | some s=>
    rw [e0] at e
    have e:dropT i s=some (d,t):=Option.some.inj e
    have e1:s=some (d,t)∧∀ o,t=.sh o→¬ i∈o:=by
     cases s with
     | none=>cases e
     | some w=>
      obtain ⟨d',t'⟩:=w
      cases t' with
      | sh o=>
       have e:(if o.contains i=true then none else some (d',Tag.sh o))=some (d,t):=e
       by_cases hc:o.contains i=true
       ·rw [if_pos hc] at e;cases e
       ·rw [if_neg hc] at e
        cases e
        exact ⟨rfl,fun o' eo m=>by cases eo;exact hc (List.contains_iff_mem.mpr m)⟩
      | own=>cases e;exact ⟨rfl,fun o eo=>by cases eo⟩
      | lk=>cases e;exact ⟨rfl,fun o eo=>by cases eo⟩
    obtain ⟨rfl,nd⟩:=e1
    obtain ⟨v',fp',hs',r',z'⟩:=ok.sl j d t e0
    have np:∀ a∈fp',a≠p:=fun a m e=>by
     subst e
     cases t with
     | sh o=>exact nd o rfl (z' a m i zp)
     | own=>have:=z'.2 a m;rw [zp] at this;exact hj (Option.some.inj this).symm
     | lk=>have:=z'.2 a m;rw [zp] at this;exact hj (Option.some.inj this).symm
    exact ⟨v',fp',hs',r'.frame (fun a m=>upd_ne (np a m)) im,z'⟩
 ·obtain ⟨r,hz⟩:=ok.hl q m
  have np:∀ a∈q.fp,a≠p:=fun a m e=>by
   subst e
   exact (hz a m i zp).2 d0 h
  refine ⟨r.frame (fun a m=>upd_ne (np a m)) im,fun a ha j e=>?_⟩
  obtain ⟨h1,h2⟩:=hz a ha j e
  have hj:j≠i:=fun e=>h2 d0 (by rw [e];exact h)
  refine ⟨h1,fun d e=>?_⟩
  unfold mutS at e
  rw [List.getElem?_set_ne (Ne.symm hj),List.getElem?_map] at e
  cases e0:ρ[j]? with
  | none=>rw [e0] at e;cases e
  | some s=>
   rw [e0] at e
   have e:dropT i s=some (d,.own):=Option.some.inj e
   cases s with
   | none=>cases e
   | some w=>
    obtain ⟨d',t'⟩:=w
    cases t' with
    | sh o=>
     have e:(if o.contains i=true then none else some (d',Tag.sh o))=some (d,.own):=e
     split at e <;> cases e
    | own=>exact h2 d' e0
    | lk=>cases e
 ·obtain ⟨⟨u,w⟩,y⟩:=ok.zd a j e
  refine ⟨?_,y⟩
  by_cases ea:a=p
  ·subst ea;exact ⟨_,upd_same⟩
  ·exact ⟨u,by rw [upd_ne ea];exact w⟩
 ·have w:=ok.en a u e n
  rw [upd_ne]
  ·exact w
  ·intro ea
   subst ea
   rcases (ok.zd a i zp).2 with q | q
   ·rw [q] at e;cases e
   ·exact n q
 ·unfold mutS
  rw [List.length_set,List.length_map]
  exact ok.ln
section
variable {X:Cx}{pos:Pos}
def sDput (i:Nat) (fk fv:EF):SF:=fun ρ=>match fv ρ,ρ[i]?,fk ρ with
 | some (d,_),some (some (.dic es,.own)),some (kd,_)=>match keyD kd with
  | some k=>if (imm d&&immAll (es.map (·.2))&&decide (es.length < sizeLine))=true then some (.nx (mutS ρ i (.dic (putD es k d)))) else none
  | none=>none
 | _,_,_=>none
theorem fs_dput (i:Nat) {x:Str}{k v:Expr}{fk fv:EF}{p1 pos':Pos} (hu:X.A.units + 1 < cLine) (hk:FP X k fk) (hv:FP X v fv) (hN:X.N[i]? = some x:=by rfl) (hvis:Vis X.env.scope x:=by first | exact Or.inl rfl | exact Or.inr (Or.inl rfl) | exact Or.inr (Or.inr rfl))
  (hd:(x == ("__debug__":Str))=false:=by decide) (hcd:(x == ("__classdict__":Str))=false:=by decide) (hs:swapsWith v (some (.Subscript (.Name x p1) k pos')) pos.line X.env=pure false:=by rfl) :
  FS1 X (.Assign [.Subscript (.Name x p1) k pos'] v pos) (sDput i fk fv):=by
 obtain ⟨tk,pk,sk⟩:=hk
 obtain ⟨tv,pv',sv⟩:=hv
 refine ⟨_,ps_dput hu (pe_var (i:=i) hN hvis hd hcd) pk pv' hs,fun H0 S z held ρ σ H E o ok e q=>?_⟩
 unfold sDput at e
 cases h1:fv ρ with
 | none=>rw [h1] at e;cases e
 | some w=>
  obtain ⟨d,td⟩:=w
  cases h2:ρ[i]? with
  | none=>rw [h1,h2] at e;cases e
  | some s=>
   cases h3:fk ρ with
   | none=>rw [h1,h2,h3] at e;cases s with
    | none=>cases e
    | some w=>obtain ⟨d',t'⟩:=w;cases d' <;> cases t' <;> cases e
   | some w=>
    obtain ⟨kd,tkd⟩:=w
    rw [h1,h2,h3] at e
    cases s with
    | none=>cases e
    | some w=>
     obtain ⟨d',t'⟩:=w
     cases d' with
     | dic es=>
      cases t' with
      | own=>
       dsimp only at e
       cases h4:keyD kd with
       | none=>rw [h4] at e;cases e
       | some key=>
        rw [h4] at e
        dsimp only at e
        by_cases hc:(imm d&&immAll (es.map (·.2))&&decide (es.length < sizeLine))=true
        ·rw [if_pos hc] at e
         cases e
         obtain ⟨hc1,hc3⟩:=(Bool.and_eq_true _ _).mp hc
         obtain ⟨hc1,hc2⟩:=(Bool.and_eq_true _ _).mp hc1
         have hz:=of_decide_eq_true hc3
         refine sv H0 S z held ρ σ H _ d td ok h1 fun H1 v fv' s1 rv _=>?_
         obtain ⟨xv,fp,hs',r,zz⟩:=(ok.same s1).sl i _ _ h2
         refine ⟨xv,hs',?_⟩
         refine sk H0 S z held ρ σ H1 _ kd tkd (ok.same s1) h3 fun H2 y fk' s2 rk _=>?_
         have ek:=rk.key h4
         subst ek
         have r':=r.same s2
         cases r' with
         | @dic a kvs _ f h hke rs=>
          have hn:=rs.imm hc2
          subst hn
          have hnv:=rv.imm hc1
          subst hnv
          have hl:kvs.length=es.length:=by have:=congrArg List.length hke;simpa using this.symm
          refine ⟨a,_,rfl,DPut.k (k:=key) h (by rw [hl];exact hz),?_⟩
          have im:Imm H2 (upd H2 a (.dK (putK kvs key v))):=Imm.upd h rfl
          refine q z σ _ (Ok.mutate ((ok.same s1).same s2) h2 hs' zz List.mem_cons_self h rfl (.dic upd_same (putD_keys hke) ?_)) (.refl _ _)
          exact putD_reps hke (rs.frame (fun a m=>nomatch m) im) ((rv.same s2).frame (fun a m=>nomatch m) im)
        ·rw [if_neg hc] at e;cases e
      | _=>cases e
     | _=>cases t' <;> cases e
end
def ins1 (x:Int):List Int→List Int
 | []=>[x]
 | y::r=>if x≤y then x::y::r else y::ins1 x r
def srt:List Int→List Int
 | []=>[]
 | x::r=>ins1 x (srt r)
theorem ins1_perm (x:Int):∀ l:List Int,(ins1 x l).Perm (x::l)
 | []=>.refl _
 | y::r=>by
  unfold ins1
  split
  ·exact .refl _
  ·exact ((ins1_perm x r).cons y).trans (.swap x y r)
theorem srt_perm:∀ l:List Int,(srt l).Perm l
 | []=>.refl _
 | x::r=>(ins1_perm x (srt r)).trans ((srt_perm r).cons x)
theorem ins1_sorted (x:Int):∀ {l:List Int},l.Pairwise (·≤·)→(ins1 x l).Pairwise (·≤·)
 | [],_=>List.pairwise_singleton _ _
 | y::r,h=>by
  obtain ⟨h1,h2⟩:=List.pairwise_cons.mp h
  unfold ins1
  split
  ·rename_i hx
   exact List.pairwise_cons.mpr ⟨fun z m=>(List.mem_cons.mp m).elim (fun e=>e ▸ hx) fun m=>Int.le_trans hx (h1 z m),h⟩
  ·rename_i hx
   refine List.pairwise_cons.mpr ⟨fun z m=>?_,ins1_sorted x h2⟩
   rcases List.mem_cons.mp ((ins1_perm x r).mem_iff.mp m) with e | m
   ·rw [e];omega
   ·exact h1 z m
theorem srt_sorted:∀ l:List Int,(srt l).Pairwise (·≤·)
 | []=>.nil
 | x::r=>ins1_sorted x (srt_sorted r)
theorem srt_unique {a b:List Int} (p:a.Perm b) (s:a.Pairwise (·≤·)):a=srt b:=by
 have q:a.Perm (srt b):=p.trans (srt_perm b).symm
 exact q.eq_of_pairwise (fun x y _ _ h1 h2=>Int.le_antisymm h1 h2) s (srt_sorted b)
theorem srt_len (l:List Int):(srt l).length=l.length:=(srt_perm l).length_eq
def intsD:List D→Option (List Int)
 | []=>some []
 | .int i::r=>(intsD r).map (i::·)
 | _=>none
def keysI {α:Type}:List (Key×α)→Option (List Int)
 | []=>some []
 | (.inl i,_)::r=>(keysI r).map (i::·)
 | _=>none
theorem intsD_of {K:PySem.W.Frag}{H:Hp}:∀ {ds:List D}{xs:List V}{fp:List Addr}{ns:List Int},Reps K H ds xs fp→intsD ds=some ns→xs=ns.map V.int
 | _,_,_,ns,.nil,e=>by cases e;rfl
 | _,_,_,ns,.cons (d:=d) h t,e=>by
  cases d with
  | int i=>
   unfold intsD at e
   cases q:intsD _ with
   | none=>rw [q] at e;cases e
   | some r=>
    rw [q] at e
    cases e
    cases h
    rw [intsD_of t q];rfl
  | _=>cases e
theorem intsD_map (ns:List Int):intsD (ns.map D.int)=some ns:=by
 induction ns with
 | nil=>rfl
 | cons n r ih=>rw [List.map_cons];unfold intsD;rw [ih];rfl
theorem keysI_of {α:Type}:∀ {es:List (Key×α)}{ks:List Int},keysI es=some ks→es.map (·.1)=ks.map Sum.inl
 | [],ks,e=>by cases e;rfl
 | (.inl i,_)::r,ks,e=>by
  unfold keysI at e
  cases q:keysI r with
  | none=>rw [q] at e;cases e
  | some l=>
   rw [q] at e
   cases e
   rw [List.map_cons,keysI_of q];rfl
 | (.inr _,_)::_,_,e=>by cases e
def oSorted:D→Option D
 | .lst ds=>match intsD ds with
  | some ns=>if ns.length < 64 then some (.lst ((srt ns).map D.int)) else none
  | none=>none
 | .dic es=>match keysI es with
  | some ns=>if ns.length < 64 then some (.lst ((srt ns).map D.int)) else none
  | none=>none
 | _=>none
theorem reps_ints {K:PySem.W.Frag}{H:Hp}:∀ ns:List Int,Reps K H (ns.map D.int) (ns.map V.int) []
 | []=>.nil
 | n::r=>Reps.cons (f1:=[]) (f2:=[]) (.int n) (reps_ints r)
theorem does_sorted {K:PySem.W.Frag}:Does1 K (rSorted K) oSorted:=by
 intro H x d1 f1 d Q r e k
 have fin:∀ (ns:List Int),(if ns.length < 64 then some (D.lst ((srt ns).map D.int)) else none)=some d→ns.length < 64∧∀ l (ks':List Int),H l=none→ks'.Perm ns→ks'.Pairwise (·≤·)→Q (.ref l) (upd H l (.lst (ks'.map V.int))):=fun ns e=>by
  by_cases h:ns.length < 64
  ·rw [if_pos h] at e
   cases e
   refine ⟨h,fun l ks' hl p s=>?_⟩
   have eq:=srt_unique p s
   subst eq
   have s2:Same H (upd H l (.lst ((srt ns).map V.int))):=fun b o e=>by rw [upd_ne (ne_of_none e hl)];exact e
   exact k _ _ [l] s2 (.lst upd_same (reps_ints _)) (List.nodup_cons.mpr ⟨(fun m=>by cases m),List.nodup_nil⟩) fun a m=>by cases List.mem_singleton.mp m;exact hl
  ·rw [if_neg h] at e;cases e
 cases d1 with
 | lst ds=>
  obtain ⟨a,xs,f,rfl,hq,rs,_⟩:=r.lst_of
  have e:(match intsD ds with | some ns=>if ns.length < 64 then some (D.lst ((srt ns).map D.int)) else none | none=>none)=some d:=e
  cases h:intsD ds with
  | none=>rw [h] at e;cases e
  | some ns=>
   rw [h] at e
   obtain ⟨h1,h2⟩:=fin ns e
   have ex:=intsD_of rs h
   subst ex
   exact ⟨a,ns,rfl,h1,.inr hq,h2⟩
 | dic es=>
  cases r with
  | @dic a kvs _ fp h hk rs=>
   have e:(match keysI es with | some ns=>if ns.length < 64 then some (D.lst ((srt ns).map D.int)) else none | none=>none)=some d:=e
   cases h':keysI es with
   | none=>rw [h'] at e;cases e
   | some ns=>
    rw [h'] at e
    obtain ⟨h1,h2⟩:=fin ns e
    exact ⟨a,ns,rfl,h1,.inl ⟨kvs,h,by rw [← hk];exact keysI_of h'⟩,h2⟩
 | _=>cases e
def pairsD:List D→Option (List (Key×D))
 | []=>some []
 | .tup [kd,d]::r=>match keyD kd,pairsD r with
  | some k,some ps=>if imm d=true then some ((k,d)::ps) else none
  | _,_=>none
 | _=>none
def oDict:D→Option D
 | .lst ds=>(pairsD ds).map fun ps=>.dic (ps.foldl (fun m p=>putD m p.1 p.2) [])
 | .tup ds=>(pairsD ds).map fun ps=>.dic (ps.foldl (fun m p=>putD m p.1 p.2) [])
 | .dic es=>if immAll (es.map (·.2))=true then some (.dic es) else none
 | _=>none
theorem boot_min':bootBuiltins "min"=some (.builtin "min"):=by decide +kernel
theorem boot_sorted':bootBuiltins "sorted"=some (.builtin "sorted"):=by decide +kernel
section
variable {X:Cx}{a b:Expr}{fa fb:EF}{pos:Pos}
theorem fp_sorted {p:Pos} (hc:X.calm=true) (hm:X.mg "sorted"=none) (ha:FP X a fa) (hg:Gl X "sorted":=by rfl) (hs:starEach [a] X.env=[(false,eval a X.env)]:=by rfl):FP X (.Call (.Name "sorted" p) [a] [] pos) (e1 oSorted fa):=
 fp_1 does_sorted ha fun ta pa=>pe_callB (call_sorted hc) hg hm boot_sorted' (pa_cons pa pa_nil hs) (he:=hs) (hpl:=rfl)
def oMin2:D→D→Option D:=iop fun i j=>if j < i then j else i
def minI:List Int→Int
 | []=>0
 | [x]=>x
 | x::r=>if x≤minI r then x else minI r
theorem minI_spec:∀ {l:List Int},l≠[]→minI l∈l∧∀ x∈l,minI l≤x
 | [x],_=>⟨List.mem_cons_self,fun y m=>by rw [List.mem_singleton.mp m];exact Int.le_refl _⟩
 | x::y::r,_=>by
  obtain ⟨h1,h2⟩:=minI_spec (l:=y::r) (by simp)
  show (if x≤minI (y::r) then x else minI (y::r))∈_∧∀ z∈_,(if x≤minI (y::r) then x else minI (y::r))≤z
  by_cases h:x≤minI (y::r)
  ·rw [if_pos h]
   exact ⟨List.mem_cons_self,fun z m=>(List.mem_cons.mp m).elim (fun e=>by rw [e];exact Int.le_refl _) fun m=>Int.le_trans h (h2 z m)⟩
  ·rw [if_neg h]
   exact ⟨List.mem_cons_of_mem _ h1,fun z m=>(List.mem_cons.mp m).elim (fun e=>by rw [e];omega) fun m=>h2 z m⟩
def oMinD:D→D→Option D
 | .lst ds,z=>match intsD ds with
  | some []=>if imm z=true then some z else none
  | some (n::r)=>some (.int (minI (n::r)))
  | none=>none
 | _,_=>none
theorem fp_min2 {p:Pos} (hc:X.calm=true) (hm:X.mg "min"=none) (ha:FP X a fa) (hb:FP X b fb) (hg:Gl X "min":=by rfl) (hs:starEach [a,b] X.env=[(false,eval a X.env),(false,eval b X.env)]:=by rfl) (hs2:starEach [b] X.env=[(false,eval b X.env)]:=by rfl) (hpl:(backTo pos (starEach [b] X.env)).any (·.1)=false:=by rfl) :
  FP X (.Call (.Name "min" p) [a,b] [] pos) (e2 oMin2 fa fb):=by
 obtain ⟨ta,pa,sa⟩:=ha
 obtain ⟨tb,pb,sb⟩:=hb
 refine ⟨_,pe_callB (call_min2 hc) hg hm boot_min' (pa_cons pa (pa_cons pb pa_nil hs2) (by rw [hs,hs2])) (he:=by rw [hs,hs2]) (hpl:=hpl),fun H0 S z held ρ σ H Q d tg ok e k=>?_⟩
 obtain ⟨d1,t1,d2,t2,h1,h2,h3,rfl⟩:=e2_of e
 refine sa H0 S z held ρ σ H _ d1 t1 ok h1 fun H1 x f1 s1 r1 _=>?_
 refine sb H0 S z held ρ σ H1 _ d2 t2 (ok.same s1) h2 fun H2 y f2 s2 r2 _=>?_
 unfold oMin2 iop at h3
 split at h3
 ·cases h3
  exact ⟨_,_,by rw [r1.int_of.1,r2.int_of.1],k H2 _ [] (s1.trans s2) (.int _) .nil⟩
 ·cases h3
theorem fp_minD {p kp:Pos} (hc:X.calm=true) (hm:X.mg "min"=none) (ha:FP X a fa) (hb:FP X b fb) (hg:Gl X "min":=by rfl) (hs:starEach [a] X.env=[(false,eval a X.env)]:=by rfl)
  (h1:backTo pos (starEach [a] X.env)=(false,eval a X.env)::backTo pos (starEach [] X.env):=by rfl) (h2:(backTo pos (starEach [a] X.env)).any (·.1)=false:=by rfl)
  (h3:(backToKw pos (keywordEach [⟨some "default",b,kp⟩] X.env)).all (·.1.isSome)=true:=by rfl) (h4:(backToKw pos (keywordEach [⟨some "default",b,kp⟩] X.env)).any (·.1.isNone)=false:=by rfl)
  (h5:(backToKw pos (keywordEach [⟨some "default",b,kp⟩] X.env)).filterMap (·.1)=[("default":Str)]:=by rfl) :
  FP X (.Call (.Name "min" p) [a] [⟨some "default",b,kp⟩] pos) (e2 oMinD fa fb):=by
 obtain ⟨ta,pa,sa⟩:=ha
 obtain ⟨tb,pb,sb⟩:=hb
 refine ⟨_,pe_minD hc hm pa pb hg hs h1 h2 h3 h4 h5,fun H0 S z held ρ σ H Q d tg ok e k=>?_⟩
 obtain ⟨d1,t1,d2,t2,g1,g2,g3,rfl⟩:=e2_of e
 refine sa H0 S z held ρ σ H _ d1 t1 ok g1 fun H1 x f1 s1 r1 _=>?_
 refine sb H0 S z held ρ σ H1 _ d2 t2 (ok.same s1) g2 fun H2 y f2 s2 r2 _=>?_
 cases d1 with
 | lst ds=>
  obtain ⟨l,xs,f,rfl,hq,rs,_⟩:=(r1.same s2).lst_of
  have g3:(match intsD ds with | some []=>if imm d2=true then some d2 else none | some (n::r)=>some (.int (minI (n::r))) | none=>none)=some d:=g3
  cases h:intsD ds with
  | none=>rw [h] at g3;cases g3
  | some ns=>
   rw [h] at g3
   have ex:=intsD_of rs h
   subst ex
   refine ⟨l,ns,rfl,hq,?_⟩
   cases ns with
   | nil=>
    have g3:(if imm d2=true then some d2 else none)=some d:=g3
    by_cases hi:imm d2=true
    ·rw [if_pos hi] at g3
     cases g3
     have hn:=r2.imm hi
     subst hn
     exact .inl ⟨rfl,k H2 y [] (s1.trans s2) r2 .nil⟩
    ·rw [if_neg hi] at g3;cases g3
   | cons n r=>
    cases g3
    refine .inr ⟨by simp,fun m hm1 hm2=>?_⟩
    obtain ⟨q1,q2⟩:=minI_spec (l:=n::r) (by simp)
    have em:m=minI (n::r):=Int.le_antisymm (hm2 _ q1) (q2 m hm1)
    rw [em]
    exact k H2 _ [] (s1.trans s2) (.int _) .nil
 | _=>cases g3
end
theorem pairs_rep {K:PySem.W.Frag}{H:Hp}:∀ {ds:List D}{xs:List V}{fp:List Addr}{ps:List (Key×D)},Reps K H ds xs fp→pairsD ds=some ps →
  ∃ qs:List (Key×V),Paired (fun y (q:Key×V)=>∃ a,y=.ref a∧SqT K H a [L2.kV q.1,q.2]) xs qs∧ps.map (·.1)=qs.map (·.1)∧Reps K H (ps.map (·.2)) (qs.map (·.2)) []
 | _,_,_,ps,.nil,e=>by cases e;exact ⟨[],.nil,rfl,.nil⟩
 | _,_,_,ps,.cons (d:=d) (ds:=dr) h t,e=>by
  unfold pairsD at e
  split at e
  ·rename_i heq;cases heq
  ·rename_i kd d' r heq
   cases heq
   cases h1:keyD kd with
   | none=>rw [h1] at e;cases e
   | some k=>
    cases h2:pairsD dr with
    | none=>rw [h1,h2] at e;cases e
    | some pr=>
     rw [h1,h2] at e
     dsimp only at e
     by_cases hi:imm d'=true
     ·rw [if_pos hi] at e
      cases e
      obtain ⟨qs,a1,a2,a3⟩:=pairs_rep t h2
      obtain ⟨a,ys,rfl,hq,rs⟩:=h.tup_of
      cases rs with
      | cons rk rs=>
       cases rs with
       | cons rv rs=>
        cases rs with
        | nil=>
         have ek:=rk.key h1
         subst ek
         have hn:=rv.imm hi
         subst hn
         exact ⟨(k,_)::qs,.cons ⟨a,rfl,hq⟩ a1,by rw [List.map_cons,List.map_cons,a2],Reps.cons (f1:=[]) (f2:=[]) rv a3⟩
     ·rw [if_neg hi] at e;cases e
  ·cases e
theorem fold_rep {K:PySem.W.Frag}{H:Hp}:∀ {ps:List (Key×D)}{qs:List (Key×V)}{es:List (Key×D)}{kvs:List (Key×V)},ps.map (·.1)=qs.map (·.1)→Reps K H (ps.map (·.2)) (qs.map (·.2)) []→es.map (·.1)=kvs.map (·.1)→Reps K H (es.map (·.2)) (kvs.map (·.2)) [] →
  (ps.foldl (fun m p=>putD m p.1 p.2) es).map (·.1)=(qs.foldl (fun m q=>putK m q.1 q.2) kvs).map (·.1)∧Reps K H ((ps.foldl (fun m p=>putD m p.1 p.2) es).map (·.2)) ((qs.foldl (fun m q=>putK m q.1 q.2) kvs).map (·.2)) []
 | [],[],_,_,_,_,h1,h2=>⟨h1,h2⟩
 | [],_::_,_,_,e,_,_,_=>by simp at e
 | _::_,[],_,_,e,_,_,_=>by simp at e
 | (k,d)::ps,(k',v)::qs,es,kvs,e,r,h1,h2=>by
  simp only [List.map_cons,List.cons.injEq] at e
  obtain ⟨rfl,e⟩:=e
  simp only [List.map_cons] at r
  generalize hf:([]:List Addr)=fp at r
  cases r with
  | @cons _ _ _ _ f1 f2 r1 r2=>
   obtain ⟨z1,z2⟩:=List.append_eq_nil_iff.mp hf.symm
   subst z1 z2
   rw [List.foldl_cons,List.foldl_cons]
   exact fold_rep e r2 (putD_keys h1) (putD_reps h1 h2 r1)
theorem does_dict {K:PySem.W.Frag}:Does1 K (fun xs H Q=>rDictOf K xs H Q∨∃ a kvs,xs=[V.ref a]∧H a=some (.dK kvs)∧∀ l,H l=none→Q (.ref l) (upd H l (.dK kvs))) oDict:=by
 intro H x d1 f1 d Q r e k
 have fresh:∀ {o:HO}{l:Addr},H l=none→Same H (upd H l o):=fun hl b o e=>by rw [upd_ne (ne_of_none e hl)];exact e
 have nd1:∀ l:Addr,([l]:List Addr).Nodup:=fun l=>List.nodup_cons.mpr ⟨(fun m=>by cases m),List.nodup_nil⟩
 have seq:∀ {ds:List D}{xs:List V}{f:List Addr}{p:Addr},Reps K H ds xs f→(SqL K H p xs∨SqT K H p xs)→((pairsD ds).map fun ps=>D.dic (ps.foldl (fun m p=>putD m p.1 p.2) []))=some d→rDictOf K [.ref p] H Q:=fun {ds xs f p} rs hq e=>by
  cases h:pairsD ds with
  | none=>rw [h] at e;cases e
  | some ps=>
   rw [h] at e
   cases e
   obtain ⟨qs,a1,a2,a3⟩:=pairs_rep rs h
   refine ⟨p,xs,qs,rfl,hq,a1,fun l hl=>?_⟩
   obtain ⟨b1,b2⟩:=fold_rep (es:=[]) (kvs:=[]) a2 a3 rfl .nil
   exact k _ _ [l] (fresh hl) (.dic upd_same b1 (b2.same (fresh hl))) (nd1 l) fun a m=>by cases List.mem_singleton.mp m;exact hl
 cases d1 with
 | lst ds=>
  obtain ⟨a,xs,f,rfl,hq,rs,_⟩:=r.lst_of
  exact .inl (seq rs (.inl hq) e)
 | tup ds=>
  obtain ⟨a,xs,rfl,hq,rs⟩:=r.tup_of
  exact .inl (seq rs (.inr hq) e)
 | dic es=>
  cases r with
  | @dic a kvs _ fp h hk rs=>
   have e:(if immAll (es.map (·.2))=true then some (D.dic es) else none)=some d:=e
   by_cases hi:immAll (es.map (·.2))=true
   ·rw [if_pos hi] at e
    cases e
    have hn:=rs.imm hi
    subst hn
    exact .inr ⟨a,kvs,rfl,h,fun l hl=>k _ _ [l] (fresh hl) (.dic upd_same hk (rs.same (fresh hl))) (nd1 l) fun a m=>by cases List.mem_singleton.mp m;exact hl⟩
   ·rw [if_neg hi] at e;cases e
 | _=>cases e
section
variable {X:Cx}{a b:Expr}{fa fb:EF}{pos:Pos}
theorem call_dict_copy:CallR X (.type "dict") (fun xs H Q=>∃ a kvs,xs=[V.ref a]∧H a=some (.dK kvs)∧∀ l,H l=none→Q (.ref l) (upd H l (.dK kvs))):=by
 intro pins s σ H xs us Q I r h
 obtain ⟨a,kvs,rfl,ha,q⟩:=h
 obtain ⟨u,rfl,ru⟩:=vals1 r
 cases ru
 exact d_copyOf I (.inl ha) fun p s' hp I'=>⟨.ref p,_,I',rfl,q p hp⟩
theorem fp_dict {p:Pos} (hc:X.calm=true) (hm:X.mg "dict"=none) (ha:FP X a fa) (hg:Gl X "dict":=by rfl) (hs:starEach [a] X.env=[(false,eval a X.env)]:=by rfl):FP X (.Call (.Name "dict" p) [a] [] pos) (e1 oDict fa):=
 fp_1 does_dict ha fun ta pa=>pe_callTy (CallR.or' (call_dictOf hc) call_dict_copy) hg hm (show bootBuiltins "dict"=some (.type "dict") by decide +kernel) (pa_cons pa pa_nil hs) (he:=hs) (hpl:=rfl)
end
mutual
def dep:D→Nat
 | .tup a=>deps a + 1
 | .lst a=>deps a + 1
 | _=>0
def deps:List D→Nat
 | []=>0
 | x::xs=>max (dep x) (deps xs)
end
section
variable {X:Cx}{pins:List (Addr×Obj)}{σ:St}{H:Hp}{s:Shared}
def scopeOk (N:List Str) (osc sc:Scope) (M:List Str) (js:List (Option Nat)):Bool:=
 (sc.kind == .function)&&sc.names.all (fun y=>y.2 != .cell)&&sc.names.all (fun y=>if y.2 == .local then sc.names.lookup y.1 == some .local else true)&&capOk N sc M js&&(frees sc).all (fun x=>osc.names.lookup x == some .cell||osc.names.lookup x == some .free)&&decide M.Nodup
theorem compScope_mk {X:Cx}{N:List Str}{osc sc:Scope}{M:List Str}{js:List (Option Nat)} (h1:X.N=N) (h2:X.env.scope=osc) (h3:X.env.kindOf=fun x=>osc.names.lookup x) (h:scopeOk N osc sc M js=true):CompScope X M js sc:=by
 unfold scopeOk at h
 obtain ⟨h,a6⟩:=(Bool.and_eq_true _ _).mp h
 obtain ⟨h,a5⟩:=(Bool.and_eq_true _ _).mp h
 obtain ⟨h,a4⟩:=(Bool.and_eq_true _ _).mp h
 obtain ⟨h,a3⟩:=(Bool.and_eq_true _ _).mp h
 obtain ⟨a1,a2⟩:=(Bool.and_eq_true _ _).mp h
 refine ⟨?_,fun y hy=>?_,fun y hy hl=>?_,?_,fun x hx=>?_,of_decide_eq_true a6⟩
 ·cases hk:sc.kind <;> rw [hk] at a1 <;> first | rfl | exact absurd a1 (by decide)
 ·have:=List.all_eq_true.mp a2 y hy
  intro z
  rw [z] at this
  exact absurd this (by decide)
 ·have:=List.all_eq_true.mp a3 y hy
  rw [hl] at this
  have this:(sc.names.lookup y.1 == some NameKind.local)=true:=this
  cases q:sc.names.lookup y.1 with
  | none=>rw [q] at this;exact absurd this (by decide)
  | some k=>rw [q] at this;cases k <;> first | rfl | exact absurd this (by decide)
 ·rw [h1];exact a4
 ·have:=List.all_eq_true.mp a5 x hx
  rw [h3]
  dsimp only
  cases q:osc.names.lookup x with
  | none=>rw [q] at this;exact absurd this (by decide)
  | some k=>rw [q] at this;cases k <;> first | exact .inl rfl | exact .inr rfl | exact absurd this (by decide)
end
end L2.Ev
namespace L2.Ev
open PySem PySem.Spec PyProof.Rows
section
variable {X:Cx}{a b:Expr}{fa fb:EF}{pos:Pos}
def eAnd (fa fb:EF):EF:=fun ρ=>match fa ρ with
 | some (.bl true,_)=>fb ρ
 | some (.bl false,_)=>some (.bl false,.own)
 | _=>none
def oNot:D→Option D
 | .bl b=>some (.bl (!b))
 | _=>none
end
end L2.Ev
namespace L2.Ev
open PySem
section
variable {ρ:Rho}{fa fb fc:EF}{d d1 d2 d3:D}{t t1 t2 t3:Tag}{op3:D→D→D→Option D}{tf tg:TF}
def k3 (op:D→D→D→Option D):Option (D×Tag)→Option (D×Tag)→Option (D×Tag)→Option (D×Tag)
 | some (d1,_),some (d2,_),some (d3,_)=>(op d1 d2 d3).map fun d=>(d,.own)
 | _,_,_=>none
theorem s_e3:e3 op3 fa fb fc ρ=k3 op3 (fa ρ) (fb ρ) (fc ρ):=by unfold e3 k3;cases fa ρ <;> cases fb ρ <;> cases fc ρ <;> rfl
theorem s_k3:k3 op3 (some (d1,t1)) (some (d2,t2)) (some (d3,t3))=(op3 d1 d2 d3).map fun d=>(d,.own):=rfl
def andK (tg:TF) (ρ:Rho):Option Bool→Option Bool
 | some true=>tg ρ
 | some false=>some false
 | none=>none
def orK (tg:TF) (ρ:Rho):Option Bool→Option Bool
 | some true=>some true
 | some false=>tg ρ
 | none=>none
theorem s_tAnd:tAnd2 tf tg ρ=andK tg ρ (tf ρ):=by unfold tAnd2 andK;cases tf ρ with | none=>rfl | some b=>cases b <;> rfl
theorem s_tOr:tOr2 tf tg ρ=orK tg ρ (tf ρ):=by unfold tOr2 orK;cases tf ρ with | none=>rfl | some b=>cases b <;> rfl
theorem s_andKT:andK tg ρ (some true)=tg ρ:=rfl
theorem s_andKF:andK tg ρ (some false)=some false:=rfl
theorem s_orKT:orK tg ρ (some true)=some true:=rfl
theorem s_orKF:orK tg ρ (some false)=tg ρ:=rfl
def eAndK (fb:EF) (ρ:Rho):Option (D×Tag)→Option (D×Tag)
 | some (.bl true,_)=>fb ρ
 | some (.bl false,_)=>some (.bl false,.own)
 | _=>none
theorem s_eAnd:eAnd fa fb ρ=eAndK fb ρ (fa ρ):=by
 unfold eAnd eAndK
 cases fa ρ with
 | none=>rfl
 | some w=>obtain ⟨d,t⟩:=w;cases d <;> first | rfl | (rename_i b;cases b <;> rfl)
theorem s_eAndT:eAndK fb ρ (some (.bl true,t))=fb ρ:=rfl
theorem s_eAndF:eAndK fb ρ (some (.bl false,t))=some (.bl false,.own):=rfl
theorem s_oNot {b:Bool}:oNot (.bl b)=some (.bl (!b)):=rfl
theorem s_min2 {m n:Int}:oMin2 (.int m) (.int n)=some (.int (if n < m then n else m)):=rfl
theorem s_isN:oIsN d .non=some (.bl (isNon d)):=rfl
theorem s_notN:oNotN d .non=some (.bl (!isNon d)):=rfl
theorem s_tTrue:tTrue ρ=some true:=rfl
end
section
variable {g:GF}{t:Tag}{f:SF}
theorem loop_nx (P:Nat→Rho→Prop):∀ {ds:List D}{ρ:Rho}{n:Nat},P n ρ→(∀ j ρ d,ds[j]? = some d→P (n + j) ρ→∃ ρ1 ρ2,g d t ρ=some ρ1∧(f ρ1=some (.nx ρ2)∨f ρ1=some (.ct ρ2))∧P (n + j + 1) ρ2) →
  ∃ ρ',loopF g t f ds ρ=some (.nx ρ')∧P (n + ds.length) ρ'
 | [],ρ,n,h,_=>⟨ρ,rfl,h⟩
 | d::ds,ρ,n,h,hs=>by
  obtain ⟨ρ1,ρ2,h1,h2,h3⟩:=hs 0 ρ d rfl h
  obtain ⟨ρ',h4,h5⟩:=loop_nx P (ds:=ds) (ρ:=ρ2) (n:=n + 1) h3 fun j ρ d hd hp=>by
   have:=hs (j + 1) ρ d hd (by rw [show n + (j + 1)=n + 1 + j by omega];exact hp)
   rw [show n + (j + 1) + 1=n + 1 + j + 1 by omega] at this
   exact this
  refine ⟨ρ',?_,by rw [List.length_cons,show n + (ds.length + 1)=n + 1 + ds.length by omega];exact h5⟩
  unfold loopF
  rw [h1]
  rcases h2 with h2 | h2 <;> (dsimp only;rw [h2];exact h4)
theorem for_nx {it:IF}{ds:List D}{ρ ρ':Rho} (hi:it ρ=some (ds,t)) (h:loopF g (itag t) f ds (lockS (ownsIn (ovr t) ρ) ρ)=some (.nx ρ')):sFor it g f ρ=some (.nx (unlockS (ownsIn (ovr t) ρ) ρ')):=by unfold sFor;rw [hi];dsimp only;rw [h]
theorem for_nx0 {it:IF}{ds:List D}{ρ ρ':Rho} (hi:it ρ=some (ds,.own)) (h:loopF g (.sh []) f ds ρ=some (.nx ρ')):sFor it g f ρ=some (.nx ρ'):=for_nx hi h
theorem ir1 {e:EF}{ρ:Rho}{n:Int}{t:Tag} (h:e ρ=some (.int n,t)) (hs:small n=true):iR1 e ρ=some ((List.range n.toNat).map fun i:Nat=>D.int (0 + (i:Int)),.own):=by unfold iR1;rw [h];dsimp only;rw [if_pos hs]
theorem range_at {n j:Nat}{d:D} (h:((List.range n).map fun i:Nat=>D.int (0 + (i:Int)))[j]? = some d):d=.int j∧j < n:=by
 rw [List.getElem?_map] at h
 cases e:(List.range n)[j]? with
 | none=>rw [e] at h;cases h
 | some x=>
  rw [e] at h
  obtain ⟨hl,hx⟩:=List.getElem?_eq_some_iff.mp e
  rw [List.getElem_range] at hx
  rw [List.length_range] at hl
  subst hx
  refine ⟨?_,hl⟩
  have:=Option.some.inj h
  rw [← this]
  exact congrArg D.int (Int.zero_add _)
theorem iseqL {e:EF}{ρ:Rho}{ds:List D} (h:e ρ=some (.lst ds,t)):iSeqF e ρ=some (ds,t):=by unfold iSeqF;rw [h]
theorem comp_ok {js:List (Option Nat)}{it:IF}{tt:TF}{te:EF}{ρ:Rho}{ds:List D}{k:D→Option D} (hi:it ρ=some (ds,t)) (hl:ds.length < sizeLine) (h:∀ d∈ds,compE g tt te (iniR js ρ) d=some (k d)) :
  eComp js it g tt te ρ=some (.lst (ds.filterMap k),.own):=by unfold eComp;rw [hi];dsimp only;rw [if_pos hl,compF_ok h];rfl
theorem compE_no {tt:TF}{te:EF}{ρ ρ1:Rho}{d:D} (h1:g d (.sh []) ρ=some ρ1) (h2:tt ρ1=some false):compE g tt te ρ d=some none:=by unfold compE;rw [h1];dsimp only;rw [h2]
theorem compE_imm {tt:TF}{te:EF}{ρ ρ1:Rho}{d e:D}{tg:Tag} (h1:g d (.sh []) ρ=some ρ1) (h2:tt ρ1=some true) (h3:te ρ1=some (e,tg)) (hi:imm e=true):compE g tt te ρ d=some (some e):=by
 unfold compE;rw [h1];dsimp only;rw [h2];dsimp only;rw [h3];dsimp only
 by_cases ho:isOwn tg=true
 ·rw [if_pos ho]
 ·rw [if_neg ho,if_pos hi]
end
def kI (p:Int×Int):Key×D:=(Sum.inl p.1,.int p.2)
def dKV (es:List (Int×Int)):D:=.dic (es.map kI)
def getI (es:List (Int×Int)) (k:Int):Option Int:=(es.find? fun p=>decide (p.1=k)).map (·.2)
def putI (es:List (Int×Int)) (k v:Int):List (Int×Int):=if (es.any fun p=>decide (p.1=k))=true then es.map (fun p=>if p.1=k then (p.1,v) else p) else es++[(k,v)]
theorem inl_iff {a k:Int}:((Sum.inl a:Key)=Sum.inl k)↔a=k:=⟨fun h=>Sum.inl.inj h,fun h=>by rw [h]⟩
theorem valD_I (es:List (Int×Int)) (k:Int):valD (es.map kI) (Sum.inl k:Key)=(getI es k).map D.int:=by
 unfold valD getI
 induction es with
 | nil=>rfl
 | cons p r ih=>
  rw [List.map_cons,List.find?_cons,List.find?_cons]
  by_cases h:p.1=k
  ·rw [decide_eq_true (show (kI p).1=Sum.inl k from inl_iff.mpr h),decide_eq_true h];rfl
  ·rw [decide_eq_false (show ¬(kI p).1=Sum.inl k from fun e=>h (inl_iff.mp e)),decide_eq_false h];exact ih
theorem putD_I (es:List (Int×Int)) (k v:Int):putD (es.map kI) (Sum.inl k:Key) (.int v)=(putI es k v).map kI:=by
 unfold putD putI
 have e:((es.map kI).any fun kv=>decide (kv.1=(Sum.inl k:Key)))=es.any fun p=>decide (p.1=k):=by
  rw [List.any_map]
  congr 1
  funext p
  exact decide_eq_decide.mpr inl_iff
 rw [e]
 by_cases h:(es.any fun p=>decide (p.1=k))=true
 ·rw [if_pos h,if_pos h,List.map_map,List.map_map]
  congr 1
  funext p
  show (if (kI p).1=Sum.inl k then ((kI p).1,D.int v) else kI p)=kI (if p.1=k then (p.1,v) else p)
  by_cases hp:p.1=k
  ·rw [if_pos hp,if_pos (show (kI p).1=Sum.inl k from inl_iff.mpr hp)];rfl
  ·rw [if_neg hp,if_neg (show ¬(kI p).1=Sum.inl k from fun e=>hp (inl_iff.mp e))]
 ·rw [if_neg h,if_neg h,List.map_append];rfl
theorem s_getD {es:List (Int×Int)}{k z:Int}:oGetD (dKV es) (.int k) (.int z)=some (.int ((getI es k).getD z)):=by
 show (match valD (es.map kI) (Sum.inl k:Key) with | some d=>if imm d=true then some d else none | none=>if imm (.int z)=true then some (.int z) else none)=_
 rw [valD_I]
 cases getI es k <;> rfl
theorem s_get {es:List (Int×Int)}{k v:Int} (h:getI es k=some v):oGet (dKV es) (.int k)=some (.int v):=by
 show ((valD (es.map kI) (Sum.inl k:Key)).bind fun d=>if imm d=true then some d else none)=_
 rw [valD_I,h];rfl
theorem s_lenKV {es:List (Int×Int)}:oLen (dKV es)=some (.int es.length):=by unfold dKV;rw [s_lenD,List.length_map]
theorem keysI_I:∀ es:List (Int×Int),keysI (es.map kI)=some (es.map (·.1))
 | []=>rfl
 | p::r=>by rw [List.map_cons];show (keysI (r.map kI)).map (p.1::·)=_;rw [keysI_I r];rfl
theorem s_sortedKV {es:List (Int×Int)} (h:es.length < 64):oSorted (dKV es)=some (.lst ((srt (es.map (·.1))).map D.int)):=by
 show (match keysI (es.map kI) with | some ns=>if ns.length < 64 then some (D.lst ((srt ns).map D.int)) else none | none=>none)=_
 rw [keysI_I];dsimp only;rw [if_pos (by rw [List.length_map];exact h)]
theorem immAll_kI:∀ es:List (Int×Int),immAll ((es.map kI).map (·.2))=true
 | []=>rfl
 | p::r=>by rw [List.map_cons,List.map_cons];unfold immAll;rw [immAll_kI r];rfl
theorem s_dictKV {es:List (Int×Int)}:oDict (dKV es)=some (dKV es):=by
 show (if immAll ((es.map kI).map (·.2))=true then some (D.dic (es.map kI)) else none)=_
 rw [if_pos (immAll_kI es)];rfl
theorem s_dput {i:Nat}{fk fv:EF}{ρ:Rho}{es:List (Int×Int)}{k v:Int}{t1 t2:Tag} (h1:fv ρ=some (.int v,t1)) (h2:ρ[i]? = some (some (dKV es,.own))) (h3:fk ρ=some (.int k,t2)) (hl:es.length < sizeLine) :
  sDput i fk fv ρ=some (.nx (mutS ρ i (dKV (putI es k v)))):=by
 unfold sDput
 rw [h1,h2,h3]
 unfold dKV
 dsimp only [keyD]
 rw [if_pos (by rw [immAll_kI,List.length_map,decide_eq_true hl];rfl),putD_I]
theorem getI_put (es:List (Int×Int)) (k v j:Int):getI (putI es k v) j=if j=k then some v else getI es j:=by
 unfold putI
 by_cases h:(es.any fun p=>decide (p.1=k))=true
 ·rw [if_pos h]
  unfold getI
  induction es with
  | nil=>cases h
  | cons p r ih=>
   rw [List.map_cons,List.find?_cons,List.find?_cons]
   by_cases hp:p.1=k
   ·rw [if_pos hp]
    dsimp only
    by_cases hj:j=k
    ·rw [decide_eq_true (hp.trans hj.symm),if_pos hj];rfl
    ·have hne:¬p.1=j:=fun e=>hj (e.symm.trans hp)
     rw [decide_eq_false hne,if_neg hj]
     dsimp only
     by_cases hr:(r.any fun p=>decide (p.1=k))=true
     ·rw [ih hr,if_neg hj]
     ·congr 1
      have:r.map (fun p=>if p.1=k then (p.1,v) else p)=r:=by
       conv=>rhs;rw [← List.map_id r]
       refine List.map_congr_left fun q m=>?_
       rw [if_neg fun e=>hr (List.any_eq_true.mpr ⟨q,m,decide_eq_true e⟩)];rfl
      rw [this]
   ·rw [if_neg hp]
    have hr:(r.any fun p=>decide (p.1=k))=true:=by
     rw [List.any_cons,decide_eq_false hp] at h
     exact h
    by_cases hj:p.1=j
    ·rw [decide_eq_true hj,if_neg fun e=>hp (hj.trans e)]
    ·rw [decide_eq_false hj];exact ih hr
 ·rw [if_neg h]
  unfold getI
  rw [List.find?_append]
  by_cases hj:j=k
  ·have:(es.find? fun p=>decide (p.1=j))=none:=List.find?_eq_none.mpr fun q m hq=>h (List.any_eq_true.mpr ⟨q,m,by rw [← hj];exact hq⟩)
   rw [this,if_pos hj,hj]
   simp
  ·rw [if_neg hj]
   have:([(k,v)].find? fun p=>decide (p.1=j))=none:=List.find?_eq_none.mpr fun q m hq=>hj (by cases List.mem_singleton.mp m;exact (of_decide_eq_true hq).symm)
   rw [this,Option.or_none]
theorem putI_keys (es:List (Int×Int)) (k v:Int):(putI es k v).map (·.1)=if k∈es.map (·.1) then es.map (·.1) else es.map (·.1)++[k]:=by
 unfold putI
 by_cases h:(es.any fun p=>decide (p.1=k))=true
 ·have hm:k∈es.map (·.1):=by
   obtain ⟨p,m,hp⟩:=List.any_eq_true.mp h
   exact List.mem_map.mpr ⟨p,m,of_decide_eq_true hp⟩
  rw [if_pos h,if_pos hm,List.map_map]
  refine List.map_congr_left fun p m=>?_
  show (if p.1=k then (p.1,v) else p).1=p.1
  split <;> rfl
 ·have hm:k∉es.map (·.1):=fun m=>by
   obtain ⟨p,m,hp⟩:=List.mem_map.mp m
   exact h (List.any_eq_true.mpr ⟨p,m,decide_eq_true hp⟩)
  rw [if_neg h,if_neg hm,List.map_append];rfl
theorem putI_nodup {es:List (Int×Int)}{k v:Int} (h:(es.map (·.1)).Nodup):((putI es k v).map (·.1)).Nodup:=by
 rw [putI_keys]
 by_cases hm:k∈es.map (·.1)
 ·rw [if_pos hm];exact h
 ·rw [if_neg hm]
  exact List.nodup_append.mpr ⟨h,List.nodup_cons.mpr ⟨(fun m=>by cases m),List.nodup_nil⟩,fun a ha b hb e=>hm (by cases List.mem_singleton.mp hb;exact e ▸ ha)⟩
theorem putI_len {es:List (Int×Int)}{k v:Int}:(putI es k v).length≤es.length + 1:=by
 have:=congrArg List.length (putI_keys es k v)
 rw [List.length_map] at this
 rw [this]
 split
 ·rw [List.length_map];omega
 ·rw [List.length_append,List.length_map];exact Nat.le_refl _
theorem getI_key {es:List (Int×Int)}{k:Int}:(∃ v,getI es k=some v)↔k∈es.map (·.1):=by
 unfold getI
 constructor
 ·rintro ⟨v,h⟩
  cases e:es.find? fun p=>decide (p.1=k) with
  | none=>rw [e] at h;cases h
  | some p=>exact List.mem_map.mpr ⟨p,List.mem_of_find?_eq_some e,of_decide_eq_true (List.find?_some e :)⟩
 ·intro h
  obtain ⟨p,m,hp⟩:=List.mem_map.mp h
  cases e:es.find? fun p=>decide (p.1=k) with
  | none=>exact absurd (decide_eq_true hp) (List.find?_eq_none.mp e p m)
  | some q=>exact ⟨q.2,rfl⟩
def dictI (ps:List (Int×Int)):List (Int×Int):=ps.foldl (fun m p=>putI m p.1 p.2) []
theorem foldI:∀ (ps m:List (Int×Int)),(ps.map kI).foldl (fun m p=>putD m p.1 p.2) (m.map kI)=(ps.foldl (fun m p=>putI m p.1 p.2) m).map kI
 | [],_=>rfl
 | p::r,m=>by rw [List.map_cons,List.foldl_cons,List.foldl_cons];show (r.map kI).foldl _ (putD (m.map kI) (Sum.inl p.1) (.int p.2))=_;rw [putD_I];exact foldI r _
def dP (p:Int×Int):D:=.tup [.int p.1,.int p.2]
theorem pairsI:∀ ps:List (Int×Int),pairsD (ps.map dP)=some (ps.map kI)
 | []=>rfl
 | p::r=>by
  rw [List.map_cons]
  show (match keyD (.int p.1),pairsD (r.map dP) with | some k,some ps=>if imm (.int p.2)=true then some ((k,D.int p.2)::ps) else none | _,_=>none)=_
  rw [pairsI r];rfl
theorem s_dictL {ps:List (Int×Int)}:oDict (.lst (ps.map dP))=some (dKV (dictI ps)):=by
 show (pairsD (ps.map dP)).map _=_
 rw [pairsI]
 show some (D.dic ((ps.map kI).foldl (fun m p=>putD m p.1 p.2) []))=_
 rw [show ([]:List (Key×D))=([]:List (Int×Int)).map kI from rfl,foldI];rfl
theorem getI_dict {ps:List (Int×Int)} (hn:(ps.map (·.1)).Nodup) (k:Int):getI (dictI ps) k=getI ps k:=by
 have go:∀ (ps m:List (Int×Int)),(ps.map (·.1)).Nodup→getI (ps.foldl (fun m p=>putI m p.1 p.2) m) k=(getI ps k).or (getI m k):=by
  intro ps
  induction ps with
  | nil=>intro m _;rfl
  | cons p r ih=>
   intro m h
   rw [List.map_cons] at h
   obtain ⟨h1,h2⟩:=List.nodup_cons.mp h
   rw [List.foldl_cons,ih _ h2,getI_put]
   by_cases hk:k=p.1
   ·have hr:getI r k=none:=by
     cases e:getI r k with
     | none=>rfl
     | some v=>exact absurd (getI_key.mp ⟨v,e⟩) (hk ▸ h1)
    rw [hr,if_pos hk]
    unfold getI
    rw [List.find?_cons,decide_eq_true hk.symm];rfl
   ·rw [if_neg hk]
    have:getI (p::r) k=getI r k:=by unfold getI;rw [List.find?_cons,decide_eq_false fun e=>hk e.symm]
    rw [this]
 unfold dictI
 rw [go ps [] hn]
 cases getI ps k <;> rfl
open PySem PySem.Spec PyProof.Rows
mutual
def py:D→PyData
 | .bl b=>.bool b
 | .int i=>.int i
 | .str x=>.str x
 | .tup ds=>.tuple (pys ds)
 | .lst ds=>.list (pys ds)
 | .fls ds=>.list (pys ds)
 | _=>.none
def pys:List D→List PyData
 | []=>[]
 | d::ds=>py d::pys ds
end
mutual
def okPy:D→Bool
 | .non | .bl _ | .int _ | .str _=>true
 | .tup ds | .lst ds | .fls ds=>okPys ds
 | _=>false
def okPys:List D→Bool
 | []=>true
 | d::ds=>okPy d&&okPys ds
end
section
variable {X:Cx}{pins:List (Addr×Obj)}{σ:St}{H:Hp}{s:Shared}
mutual
theorem reads_of (I:Inv X pins σ H s):∀ {d:D}{v:V}{f:List Addr}{u:Value},Rep X.K H d v f→RelV v u→okPy d=true→∃ as,Reads s.heap u (py d) as
 | .non,_,_,_,r,q,_=>by cases r;cases q;exact ⟨_,by unfold py;exact .none⟩
 | .bl b,_,_,_,r,q,_=>by cases r;cases q;exact ⟨_,by unfold py;exact .bool b⟩
 | .int i,_,_,_,r,q,_=>by cases r;obtain ⟨t,rfl⟩:=q;exact ⟨_,by unfold py;exact .int i t⟩
 | .str x,_,_,_,r,q,_=>by cases r;obtain ⟨t,rfl⟩:=q;exact ⟨_,by unfold py;exact .str x t⟩
 | .tup ds,_,_,_,r,q,e=>by
  obtain ⟨a,xs,rfl,hq,rs⟩:=r.tup_of
  cases q
  obtain ⟨us,v1,⟨o,h1,h2,n,h3⟩,_⟩:=I.tuple hq
  obtain ⟨as,ra⟩:=readsAll_of I rs v1 (by unfold okPy at e;exact e)
  exact ⟨_,by unfold py;exact .tuple h1 h2 h3 (by simpa using ra)⟩
 | .lst ds,_,_,_,r,q,e=>by
  obtain ⟨a,xs,f,rfl,hq,rs,_⟩:=r.lst_of
  cases q
  obtain ⟨us,v1,⟨o,n,h1,h2,_,h3⟩,_⟩:=I.list hq
  obtain ⟨as,ra⟩:=readsAll_of I rs v1 (by unfold okPy at e;exact e)
  exact ⟨_,by unfold py;exact .list h1 h2 h3 (by simpa using ra)⟩
 | .fls ds,_,_,_,r,q,e=>by
  obtain ⟨a,xs,rfl,hq,rs⟩:=r.fls_of
  cases q
  obtain ⟨us,v1,⟨o,n,h1,h2,_,h3⟩,_⟩:=I.list hq
  obtain ⟨as,ra⟩:=readsAll_of I rs v1 (by unfold okPy at e;exact e)
  exact ⟨_,by unfold py;exact .list h1 h2 h3 (by simpa using ra)⟩
 | .dic _,_,_,_,_,_,e=>by unfold okPy at e;cases e
 | .dit _,_,_,_,_,_,e=>by unfold okPy at e;cases e
 | .ins _ _,_,_,_,_,_,e=>by unfold okPy at e;cases e
 | .exc _,_,_,_,_,_,e=>by unfold okPy at e;cases e
theorem readsAll_of (I:Inv X pins σ H s):∀ {ds:List D}{xs:List V}{f:List Addr}{us:List Value},Reps X.K H ds xs f→Vals xs us→okPys ds=true→∃ as,ReadsAll s.heap us (pys ds) as
 | [],_,_,_,r,q,_=>by cases r;cases q;exact ⟨_,by unfold pys;exact .nil⟩
 | d::ds,_,_,_,r,q,e=>by
  cases r with
  | cons r1 r2=>
   cases q with
   | cons q1 q2=>
    unfold okPys at e
    obtain ⟨e1,e2⟩:=(Bool.and_eq_true _ _).mp e
    obtain ⟨as,h1⟩:=reads_of I r1 q1 e1
    obtain ⟨bs,h2⟩:=readsAll_of I r2 q2 e2
    exact ⟨_,by unfold pys;exact .cons h1 h2⟩
end
end
mutual
theorem noDict:∀ d:D,(py d).hasDict=false
 | .non=>by unfold py;simp only [PyData.hasDict]
 | .bl _=>by unfold py;simp only [PyData.hasDict]
 | .int _=>by unfold py;simp only [PyData.hasDict]
 | .str _=>by unfold py;simp only [PyData.hasDict]
 | .tup ds=>by unfold py;simp only [PyData.hasDict];exact noDicts ds
 | .lst ds=>by unfold py;simp only [PyData.hasDict];exact noDicts ds
 | .fls ds=>by unfold py;simp only [PyData.hasDict];exact noDicts ds
 | .dic _=>by unfold py;simp only [PyData.hasDict]
 | .dit _=>by unfold py;simp only [PyData.hasDict]
 | .ins _ _=>by unfold py;simp only [PyData.hasDict]
 | .exc _=>by unfold py;simp only [PyData.hasDict]
theorem noDicts:∀ ds:List D,PyData.hasDictAll (pys ds)=false
 | []=>by unfold pys;simp only [PyData.hasDictAll]
 | d::ds=>by unfold pys;simp only [PyData.hasDictAll,noDict d,noDicts ds,Bool.or_self]
end
def shw (d:D):Bool:=okPy d&&(py d).showable&&decide ((py d).depth≤40)&&decide ((py d).shown.length≤sizeLine)
def oRepr (d:D):Option D:=if shw d=true then (if decide (dep d≠0)=true then some (.str (py d).shown) else none) else none
def rRepr (K:PySem.W.Frag):List V→Hp→VK→Prop:=fun xs H Q=>∃ a d f,xs=[V.ref a]∧Rep K H d (.ref a) f∧shw d=true∧Q (.str (py d).shown) H
section
variable {X:Cx}
theorem call_repr {k:Nat} (hr:Room k X.A):CallR X (.builtin "repr") (rRepr X.K):=by
 intro pins s σ H xs us Q I r h
 obtain ⟨a,d,f,rfl,rd,hs,q⟩:=h
 obtain ⟨u,rfl,ru⟩:=vals1 r
 unfold shw at hs
 obtain ⟨hs,h4⟩:=(Bool.and_eq_true _ _).mp hs
 obtain ⟨hs,h3⟩:=(Bool.and_eq_true _ _).mp hs
 obtain ⟨h1,h2⟩:=(Bool.and_eq_true _ _).mp hs
 obtain ⟨as,rr⟩:=reads_of I rd ru h1
 cases ru
 have hu:=hr.un
 have h3:=of_decide_eq_true h3
 exact repr_of_reads' rr h2 (PyData.noDict_hsm (noDict d)) hr.gd (by omega) (fun b o e=>e) (fun h' t tk hk=>⟨.str (py d).shown,H,I.kept hk,⟨t,rfl⟩,q⟩) (of_decide_eq_true h4)
theorem does_repr {K:PySem.W.Frag}:Does1 K (rRepr K) oRepr:=by
 intro H x d1 f1 d Q r e k
 unfold oRepr at e
 by_cases h1:shw d1=true
 ·rw [if_pos h1] at e
  by_cases h2:decide (dep d1≠0)=true
  ·rw [if_pos h2] at e
   cases e
   have hr:∃ p,x=.ref p:=by
    cases r <;> first | exact ⟨_,rfl⟩ | (exact absurd rfl (of_decide_eq_true h2))
   obtain ⟨p,rfl⟩:=hr
   exact ⟨p,d1,f1,rfl,r,h1,k H _ [] (Same.refl H) (.str _) List.nodup_nil fun a m=>nomatch m⟩
  ·rw [if_neg h2] at e;cases e
 ·rw [if_neg h1] at e;cases e
theorem fp_repr {k:Nat}{a:Expr}{fa:EF}{p pos:Pos} (hr:Room k X.A) (hm:X.mg "repr"=none) (ha:FP X a fa) (hg:Gl X "repr":=by rfl) (hs:starEach [a] X.env=[(false,eval a X.env)]:=by rfl):FP X (.Call (.Name "repr" p) [a] [] pos) (e1 oRepr fa):=
 fp_1 does_repr ha fun ta pa=>pe_callB (call_repr hr) hg hm boot_repr (pa_cons pa pa_nil hs) (he:=hs) (hpl:=rfl)
end
theorem s_repr {d:D} (h:shw d=true) (hd:dep d≠0):oRepr d=some (.str (py d).shown):=by unfold oRepr;rw [if_pos h,if_pos (decide_eq_true hd)]
def small12 (i:Int):Prop:=i.natAbs < 10 ^ 12
def dRow (r:List Int):D:=.tup (r.map D.int)
def dRows (rs:List (List Int)):List D:=rs.map dRow
theorem pys_ints:∀ r:List Int,pys (r.map D.int)=r.map PyData.int
 | []=>rfl
 | i::r=>by rw [List.map_cons,List.map_cons];unfold pys;rw [pys_ints r];unfold py;rfl
theorem okPys_ints:∀ r:List Int,okPys (r.map D.int)=true
 | []=>rfl
 | i::r=>by rw [List.map_cons];unfold okPys;rw [okPys_ints r];rfl
theorem log2_small {n:Nat} (h:n < 10 ^ 12):n.log2 < 1920:=by
 by_cases hz:n=0
 ·subst hz;decide
 ·rw [Nat.log2_lt hz]
  exact Nat.lt_of_lt_of_le h (Nat.le_trans (show 10 ^ 12≤2 ^ 40 by decide) (Nat.pow_le_pow_right (by decide) (by decide)))
theorem showAll_ints:∀ r:List Int,(∀ i∈r,small12 i)→PyData.showableAll (r.map PyData.int)=true
 | [],_=>rfl
 | i::r,h=>by
  rw [List.map_cons]
  simp only [PyData.showableAll,PyData.showable,Bool.and_eq_true,decide_eq_true_eq]
  exact ⟨log2_small (h i List.mem_cons_self),showAll_ints r fun j m=>h j (List.mem_cons_of_mem _ m)⟩
theorem weightAll_ints:∀ r:List Int,(∀ i∈r,small12 i)→PyData.weightAll (r.map PyData.int)≤50 * r.length
 | [],_=>by simp [PyData.weightAll]
 | i::r,h=>by
  rw [List.map_cons,List.length_cons]
  have h1:i.natAbs < 10 ^ 12:=h i List.mem_cons_self
  have h2:=weightAll_ints r fun j m=>h j (List.mem_cons_of_mem _ m)
  have h3:(PyData.int i).weight≤41:=by
   simp only [PyData.weight]
   split
   ·omega
   ·rename_i hz
    have hz':i.natAbs≠0:=by
     intro q
     apply hz
     rw [Int.natAbs_eq_zero.mp q];rfl
    have:i.natAbs.log2 < 40:=by
     rw [Nat.log2_lt hz']
     exact Nat.lt_of_lt_of_le h1 (by decide)
    omega
  simp only [PyData.weightAll]
  omega
theorem leavesAll_ints:∀ r:List Int,(∀ i∈r,small12 i)→PyData.leavesShortAll 13 (r.map PyData.int)=true
 | [],_=>rfl
 | i::r,h=>by
  rw [List.map_cons]
  simp only [PyData.leavesShortAll,PyData.leavesShort,Bool.and_eq_true,decide_eq_true_eq]
  exact ⟨PyData.shown_int_le (h i List.mem_cons_self),leavesAll_ints r fun j m=>h j (List.mem_cons_of_mem _ m)⟩
theorem depthAll_ints:∀ r:List Int,PyData.depthAll (r.map PyData.int)=0
 | []=>rfl
 | i::r=>by rw [List.map_cons];simp only [PyData.depthAll,PyData.depth,depthAll_ints r];rfl
def pRow (r:List Int):PyData:=.tuple (r.map PyData.int)
theorem py_row (r:List Int):py (dRow r)=pRow r:=by unfold dRow pRow;unfold py;rw [pys_ints]
theorem pys_rows:∀ rs:List (List Int),pys (dRows rs)=rs.map pRow
 | []=>rfl
 | r::rs=>by
  show pys (dRow r::dRows rs)=pRow r::rs.map pRow
  unfold pys
  rw [py_row,pys_rows rs]
theorem okPys_rows:∀ rs:List (List Int),okPys (dRows rs)=true
 | []=>rfl
 | r::rs=>by
  show okPys (dRow r::dRows rs)=true
  unfold okPys
  rw [okPys_rows rs,Bool.and_true]
  unfold dRow okPy
  exact okPys_ints r
theorem rows_facts:∀ rs:List (List Int),(∀ r∈rs,r.length≤3∧∀ i∈r,small12 i)→PyData.showableAll (rs.map pRow)=true∧PyData.depthAll (rs.map pRow)≤1∧PyData.leavesShortAll 13 (rs.map pRow)=true∧PyData.weightAll (rs.map pRow)≤151 * rs.length
 | [],_=>⟨rfl,by simp [PyData.depthAll],rfl,by simp [PyData.weightAll]⟩
 | r::rs,h=>by
  obtain ⟨h1,h2⟩:=h r List.mem_cons_self
  obtain ⟨i1,i2,i3,i4⟩:=rows_facts rs fun q m=>h q (List.mem_cons_of_mem _ m)
  have w:=weightAll_ints r h2
  rw [List.map_cons,List.length_cons]
  refine ⟨?_,?_,?_,?_⟩
  ·simp only [PyData.showableAll,i1,Bool.and_true,pRow,PyData.showable];exact showAll_ints r h2
  ·simp only [PyData.depthAll,pRow,PyData.depth,depthAll_ints r];omega
  ·simp only [PyData.leavesShortAll,i3,Bool.and_true,pRow,PyData.leavesShort];exact leavesAll_ints r h2
  ·simp only [PyData.weightAll,pRow,PyData.weight];omega
theorem shw_rows {rs:List (List Int)} (h:∀ r∈rs,r.length≤3∧∀ i∈r,small12 i) (hl:rs.length≤6000):shw (.lst (dRows rs))=true:=by
 obtain ⟨h1,h2,h3,h4⟩:=rows_facts rs h
 have e:py (.lst (dRows rs))=.list (rs.map pRow):=by unfold py;rw [pys_rows]
 unfold shw
 rw [e]
 have a1:okPy (.lst (dRows rs))=true:=by unfold okPy;exact okPys_rows rs
 have a2:(PyData.list (rs.map pRow)).showable=true:=by simp only [PyData.showable];exact h1
 have a3:(PyData.list (rs.map pRow)).depth≤40:=by simp only [PyData.depth];omega
 have a4:(PyData.list (rs.map pRow)).shown.length≤sizeLine:=by
  refine PyData.shown_fits (B:=13) (by decide) (by decide) ?_ ?_
  ·simp only [PyData.leavesShort];exact h3
  ·simp only [PyData.weight]
   have:151 * rs.length≤151 * 6000:=Nat.mul_le_mul_left _ hl
   have e:(2:Nat) ^ 20=1048576:=by decide
   omega
 rw [a1,a2,decide_eq_true a3,decide_eq_true a4]
 rfl
theorem dep_lst (ds:List D):dep (.lst ds)≠0:=by unfold dep;omega
end L2.Ev
namespace L2.Ev
open PySem PySem.Spec PyProof.Rows
section
variable {X:Cx}{a b c:Expr}{fa fb:EF}{tc:TF}{pos:Pos}
def oIn (neg:Bool):D→D→Option D
 | .int i,.lst ds=>(intsD ds).map fun ns=>.bl (if neg=true then !(ns.any (· == i)) else ns.any (· == i))
 | _,_=>none
def sApp (i:Nat) (fv:EF):SF:=fun ρ=>match fv ρ,ρ[i]? with
 | some (d,_),some (some (.lst ds,.own))=>if (imm d&&immAll ds&&decide (ds.length < sizeLine))=true then some (.nx (mutS ρ i (.lst (ds++[d])))) else none
 | _,_=>none
theorem fs_app (i:Nat) {x:Str}{fv:EF}{p1 p2 p3:Pos} (hv:FP X a fv) (hN:X.N[i]? = some x:=by rfl) (hvis:Vis X.env.scope x:=by first | exact Or.inl rfl | exact Or.inr (Or.inl rfl) | exact Or.inr (Or.inr rfl))
  (hd:(x == ("__debug__":Str))=false:=by decide) (hcd:(x == ("__classdict__":Str))=false:=by decide) (hs:starEach [a] X.env=[(false,eval a X.env)]:=by rfl)
  (hbase:attributeBase (.Name x p1) "append" X.env (eval (.Name x p1) X.env)=eval (.Name x p1) X.env:=by rfl)
  (hfew:((backTo p3 (starEach [a] X.env)).all (fun x=>!x.1)&&(backToKw p3 (keywordEach [] X.env)).all (fun x=>x.1.isSome)&&decide ([a].length + ([]:List Keyword).length + (if ([]:List Keyword).isEmpty then 0 else 1) < 30))=true:=by rfl)
  (hline:(p2.endLine == p3.line)=true:=by rfl) (hsw:swapsWith (.Call (.Attribute (.Name x p1) "append" p2) [a] [] p3) none pos.line X.env=pure false:=by rfl) :
  FS1 X (.Expr (.Call (.Attribute (.Name x p1) "append" p2) [a] [] p3) pos) (sApp i fv):=by
 obtain ⟨tv,pv',sv⟩:=hv
 refine ⟨_,ps_expr (pe_bm PySem.F.plainAttrs_list PySem.F.slot_list_append PySem.F.type_list_append mt_append (pe_var (i:=i) hN hvis hd hcd) (pa_cons pv' pa_nil hs) hbase hfew hline hs rfl) hsw,fun H0 S z held ρ σ H E o ok e q=>?_⟩
 unfold sApp at e
 split at e
 ·rename_i d td ds g1 g2
  by_cases hc:(imm d&&immAll ds&&decide (ds.length < sizeLine))=true
  ·rw [if_pos hc] at e
   cases e
   obtain ⟨c1,c3⟩:=(Bool.and_eq_true _ _).mp hc
   obtain ⟨c1,c2⟩:=(Bool.and_eq_true _ _).mp c1
   obtain ⟨xv,fp,hs',r,zz⟩:=ok.sl i _ _ g2
   refine ⟨xv,hs',?_⟩
   obtain ⟨l,xs,f,rfl,hq,_,_⟩:=r.lst_of
   refine ⟨.inl ⟨rfl,_,hq⟩,?_⟩
   refine sv H0 S z held ρ σ H _ d td ok g1 fun H1 v fv' s1 rv _=>?_
   have r':=r.same s1
   have ok1:=ok.same s1
   generalize hw:(V.ref l)=w at r' hs'
   cases r' with
   | @lst a' ys _ f' h rs=>
    cases hw
    have hn:=rs.imm c2
    subst hn
    have hnv:=rv.imm c1
    subst hnv
    refine ⟨_,ys,v,rfl,rfl,h,by rw [← rs.length];exact of_decide_eq_true c3,?_⟩
    have im:Imm H1 (upd H1 l (.lst (ys++[v]))):=Imm.upd h rfl
    refine q z σ _ (Ok.mutate ok1 g2 hs' zz List.mem_cons_self h rfl (.lst upd_same ?_)) (.refl _ _)
    exact Reps.append (f:=[]) (g:=[]) (rs.frame (fun a m=>nomatch m) im) (Reps.cons (f1:=[]) (f2:=[]) (rv.frame (fun a m=>nomatch m) im) .nil)
  ·rw [if_neg hc] at e;cases e
 ·cases e
end
end L2.Ev
namespace L2
open PySem PySem.Spec PyProof.Rows
namespace Rv
theorem slot_next:Slot "list_reverseiterator" "__next__" "list_reverseiterator.__next__":=.of (owner:="list_reverseiterator") (n:="__next__") (by rw [typeLookup_type,builtinLookup_eq_fast];kernel_rfl) (by decide +kernel) (by decide +kernel) (by decide +kernel) (by first | exact .inl (by decide +kernel) | exact .inr (by decide +kernel)) (by rw [isSubtype_type];kernel_rfl)
theorem slot_iter:Slot "list_reverseiterator" "__iter__" "list_reverseiterator.__iter__":=.of (owner:="list_reverseiterator") (n:="__iter__") (by rw [typeLookup_type,builtinLookup_eq_fast];kernel_rfl) (by decide +kernel) (by decide +kernel) (by decide +kernel) (by first | exact .inl (by decide +kernel) | exact .inr (by decide +kernel)) (by rw [isSubtype_type];kernel_rfl)
theorem entry_next:entryFor table "list_reverseiterator.__next__"=some Builtin.«list_reverseiterator.__next__»:=entryFor_of_tree (by kernel_rfl)
theorem entry_iter:entryFor table "list_reverseiterator.__iter__"=some Builtin.«dict_keyiterator.__iter__»:=entryFor_alias (id':="dict_keyiterator.__iter__") (by kernel_rfl) rfl (by decide +kernel) (by kernel_rfl)
theorem args_next (a:Value):argsOk "list_reverseiterator.__next__" ⟨[a],[]⟩:=by unfold argsOk;kernel_rfl
theorem args_iter (a:Value):argsOk "list_reverseiterator.__iter__" ⟨[a],[]⟩:=by unfold argsOk;kernel_rfl
abbrev IsRev (h:Heap) (it l:Addr) (i:Int):Prop:=h.get? it=some { cls:=.type "list_reverseiterator",data:=.fields #[.ref l,rawInt i] }
section
variable {prog:Program}{w:World}{A:Around}{E:Value→Shared→Prop}{s:Shared}{it l:Addr}{items:Array Value}
theorem next_item {i:Nat}{x:Value}{Q:Option Value→Shared→Prop} (h1:IsRev s.heap it l i) (hl:s.heap.IsList l items) (hx:items[i]? = some x)
  (hQ:∀ h',IsRev h' it l ((i:Int) - 1)→Heap.SameBut it s.heap h'→Q (some x) { s with heap:=h' }):wpAny (model prog w) A (pyNext (.ref it)) Q E s:=by
 obtain ⟨ol,hol,_,nl,hdl⟩:=hl
 have ty:s.TypeIs (.ref it) "list_reverseiterator":=⟨_,h1,rfl⟩
 unfold pyNext
 refine wpAny_bind (wpAny_attempt (wpAny_callSpecial?_slot (name:=Str.ofString "__next__") ty slot_next (wpAny_call_entry slot_next ty entry_next ?_ (args_next _))))
 show wpAny _ _ (field (.ref it) 1 >>= fun v=>_) _ _ s
 refine wpAny_bind (wpAny_field h1 rfl (x:=.int i 0) rfl ?_)
 show wpAny _ _ (if ((i:Int) < 0) then _ else _) _ _ s
 rw [if_neg (by omega)]
 show wpAny _ _ (field (.ref it) 0 >>= fun v=>_) _ _ s
 refine wpAny_bind (wpAny_field h1 rfl (x:=.ref l) rfl ?_)
 refine wpAny_bind (wpAny_seqItems hol hdl ?_)
 simp only [Int.toNat_natCast,hx]
 refine wpAny_bind (wpAny_setField_rec h1 (by simp) fun h' e1 sb=>wpAny_pure ⟨x,rfl,wpAny_pure (hQ h' ?_ sb)⟩)
 exact e1
theorem next_end {Q:Option Value→Shared→Prop} (hh:A.handled=none) (h1:IsRev s.heap it l (-1)) (hQ:∀ h',Heap.ExtBut it s.heap h'→Q none { s with heap:=h' }):wpAny (model prog w) A (pyNext (.ref it)) Q E s:=by
 have ty:s.TypeIs (.ref it) "list_reverseiterator":=⟨_,h1,rfl⟩
 unfold pyNext
 refine wpAny_bind (wpAny_attempt (wpAny_callSpecial?_slot (name:=Str.ofString "__next__") ty slot_next (wpAny_call_entry slot_next ty entry_next ?_ (args_next _))))
 show wpAny _ _ (field (.ref it) 1 >>= fun v=>_) _ _ s
 refine wpAny_bind (wpAny_field h1 rfl (x:=.int (-1) 0) rfl ?_)
 show wpAny _ _ (if ((-1:Int) < 0) then _ else _) _ _ s
 rw [if_pos (by omega)]
 refine wpAny_bind (wpAny_rule ?_)
 refine wpAny_bind ?_
 unfold Builtin.SmallTypes.stopIteration
 refine wpAny_bind ?_
 unfold newExc newTuple
 refine wpAny_bind (wpAny_newObj_type ?_ (by size_fits))
 refine wpAny_bind (m:=firstArgMember _ _) (wpAny_of_eq (a:=Value.none) (by first | (simp only [firstArgMember];rfl) | rfl) ?_)
 refine wpAny_newObj_type ?_ (by size_fits)
 unfold raiseNew
 refine wpAny_bind (wpAny_handled ?_)
 have hh1:A.in1.handled=none:=hh
 rw [hh1]
 refine wpAny_bind (wpAny_pure (wpAny_throw ?_))
 refine wpAny_bind (wpAny_isInstance (T:="StopIteration") (b:=true) ⟨_,Heap.get?_push_size _ rfl,rfl⟩ isSubtype_stop (wpAny_pure (hQ _ ?_)))
 exact fun b o _ e=>Heap.get?_push_of_some _ (Heap.get?_push_of_some _ e)
end
end Rv
namespace Rv
theorem sub_rev:isSubtype (.type "reversed") (.type "reversed")=pure true:=by rw [isSubtype_type];kernel_rfl
theorem look_rev:typeLookup (.type "list") "__reversed__"=pure (some (.builtin "list.__reversed__")):=by rw [typeLookup_type,builtinLookup_eq_fast];kernel_rfl
theorem new_rev (l:Addr) (items:Array Value) (n:Nat):Meets (Builtin.«reversed.__new__» ⟨[.type "reversed",.ref l],[]⟩) (fun _ R s=>s.heap.get? l=some { cls:=.type "list",data:=.seq items n } ∧
  R (.ok (.ret (.ref s.heap.objs.size))) { s with heap:=s.heap.push { cls:=.type "list_reverseiterator",data:=.fields #[.ref l,rawInt ((items.size:Int) - 1)] } }):=.of_wp fun prog w A R s h=>by
 obtain ⟨hp,g,d,tk,os⟩:=s
 obtain ⟨hl,h⟩:=h
 have hsub:=sub_rev
 have ty:Shared.TypeIs ⟨hp,g,d,tk,os⟩ (.ref l) "list":=⟨_,hl,rfl⟩
 wp_walk using wpAny_specialOf ty look_rev
 refine wpAny_of_eq (F.slot_list_reversed.bind (.ref l)) ?_
 refine wpAny_ite_split (fun z=>absurd z (by decide)) fun _=>?_
 refine wpAny_bind (wpAny_rule ?_)
 show wpAny _ _ (call (.builtin "list.__reversed__") [.ref l] >>= fun v=>_) _ _ _
 refine wpAny_bind (call_meets F.slot_list_reversed ty F.entry_list_reversed (F.args_list_reversed_1 _) (AutoListH.list___reversed___list_0 l items n) ⟨hl,?_⟩)
 exact wpAny_pure ⟨_,rfl,h⟩
theorem mro_rev:mroOf (.type "reversed")=pure [.type "reversed",.type "object"]:=by rw [mroOf_type];kernel_rfl
theorem look_new:typeLookup (.type "reversed") "__new__"=pure (some (.builtin "reversed.__new__")):=by rw [typeLookup_type,builtinLookup_eq_fast];kernel_rfl
theorem made_rev:Bind.madeBy (.type "reversed")=pure (some "reversed.__new__"):=madeBy_type mro_rev look_new (by decide +kernel)
theorem entry_new:entryFor table "reversed.__new__"=some Builtin.«reversed.__new__»:=entryFor_of_tree (by kernel_rfl)
theorem tcall (a:Value):checkTypeCall "reversed" ⟨[a],[]⟩=pure ():=by kernel_rfl
theorem ncall (a:Value):checkBuiltinCall "reversed.__new__" ⟨[.type "reversed",a],[]⟩=pure ():=by kernel_rfl
theorem nosub:isSubtype (.type "list_reverseiterator") (.type "reversed")=pure false:=by rw [isSubtype_type];kernel_rfl
section
variable {prog:Program}{w:World}{A:Around}{E:Value→Shared→Prop}{s:Shared}{l:Addr}{items:Array Value}{n:Nat}
theorem call_rev {Q:Value→Shared→Prop} (hl:s.heap.get? l=some { cls:=.type "list",data:=.seq items n })
  (hQ:Q (.ref s.heap.objs.size) { s with heap:=s.heap.push { cls:=.type "list_reverseiterator",data:=.fields #[.ref l,rawInt ((items.size:Int) - 1)] } }):wpAny (model prog w) A (call (.type "reversed") [.ref l]) Q E s:=by
 have hmro:=mro_rev
 have hmade:=made_rev
 have hsub:=sub_rev
 have hns:=nosub
 have hct:=tcall (.ref l)
 refine wpAny_call (codeAny_of_tree ?_)
 show wpAny _ _ (callAny (.type "reversed") _) _ _ _
 refine wpAny_pure ⟨Code.quiet_builtin _ (by decide +kernel),codeAny_builtin F.entry_type_call ?_⟩
 rw [Around.under_plain (weight_type_call_type "reversed" [.ref l] []) rfl]
 have g1:(Value.type "reversed" == Value.type "type")=false:=by decide +kernel
 have g2:((Manifest.find? "reversed").bind (·.mro.findSome? fun t=>(Manifest.find? t).bind fun b=>if b.noNew then some true else if b.attrs.any (·.1 == "__new__") then some false else none)).getD false=false:=by decide +kernel
 repeat (any_goals (first | assumption | wp_step))
 have hn:codeAny (model prog w) A.in1 (.call (.builtin "reversed.__new__") ⟨[.type "reversed",.ref l],[]⟩) (fun r s'=>r=.ok (.ret (.ref s.heap.objs.size))∧s'={ s with heap:=s.heap.push { cls:=.type "list_reverseiterator",data:=.fields #[.ref l,rawInt ((items.size:Int) - 1)] } }) s:=
  codeAny_call_builtin (by decide +kernel) entry_new (wpAny_of_eq (ncall (.ref l)) (new_rev l items n prog w A.in1 (fun r s'=>r=.ok (.ret (.ref s.heap.objs.size))∧s'={ s with heap:=s.heap.push { cls:=.type "list_reverseiterator",data:=.fields #[.ref l,rawInt ((items.size:Int) - 1)] } }) s ⟨hl,rfl,rfl⟩))
 refine codeAny_mono hn fun r s₁ hr=>?_
 obtain ⟨rfl,rfl⟩:=hr
 have ty:Shared.TypeIs { s with heap:=s.heap.push { cls:=.type "list_reverseiterator",data:=.fields #[.ref l,rawInt ((items.size:Int) - 1)] } } (.ref s.heap.objs.size) "list_reverseiterator":=⟨_,Heap.get?_push_size _ rfl,rfl⟩
 refine wpAny_bind (wpAny_isInstance (b:=false) ty nosub ?_)
 refine wpAny_ite_split (fun _=>?_) fun z=>absurd rfl z
 refine wpAny_bind (wpAny_rule ?_)
 exact wpAny_pure hQ
end
end Rv
end L2
namespace L2.Ev
open PySem PySem.Spec PyProof.Rows
section
variable {X:Cx}{a b c:Expr}{fa fb:EF}{p pos:Pos}
def boolsD:List D→Option (List Bool)
 | []=>some []
 | .bl b::r=>(boolsD r).map (b::·)
 | _=>none
theorem boolsD_of {K:PySem.W.Frag}{H:Hp}:∀ {ds:List D}{xs:List V}{fp:List Addr}{bs:List Bool},Reps K H ds xs fp→boolsD ds=some bs→xs=bs.map V.bl
 | [],_,_,bs,r,e=>by cases r;cases e;rfl
 | d::ds,_,_,bs,r,e=>by
  cases r with
  | cons h t=>
   cases d <;> try (cases e;done)
   cases h
   unfold boolsD at e
   cases q:boolsD ds with
   | none=>rw [q] at e;cases e
   | some r=>
    rw [q] at e
    cases e
    rw [boolsD_of t q];rfl
end
theorem Ok.put {K:PySem.W.Frag}{H0:Hp}{S:List Addr}{z:Addr→Option Nat}{held:List Held}{ρ:Rho}{σ:St}{H H':Hp}{i:Nat}{d0 d1:D}{v:V}{fp0 fp1:List Addr} (ok:Ok K H0 S z held ρ σ H) (h:ρ[i]? = some (some (d0,.own)))
  (hs:σ[i]? = some (some v)) (zz:InZ z i .own fp0) (im:Imm H H') (keep:∀ b o,b∉fp0→H b=some o→H' b=some o) (r1:Rep K H' d1 v fp1) (nd:fp1.Nodup) (fr:∀ b∈fp1,b∈fp0∨H b=none):∃ z',Ok K H0 S z' held (mutS ρ i d1) σ H':=by
 classical
 have hiρ:i < ρ.length:=(List.getElem?_eq_some_iff.mp h).1
 have inz:∀ {a:Addr},a∈fp0→z a=some i:=fun {a} m=>zz.2 a m
 have old:∀ {a:Addr}{o:HO},a∉fp0→H a=some o→(if a∈fp1 then some i else if z a=some i then none else z a)=(if z a=some i then none else z a):=fun {a o} n e=>by
  rw [if_neg fun m=>?_]
  rcases fr a m with q | q
  ·exact n q
  ·rw [e] at q;cases q
 have dr:∀ {j:Nat}{d:D}{t:Tag},j≠i→(mutS ρ i d1)[j]? = some (some (d,t))→ρ[j]? = some (some (d,t))∧∀ o,t=.sh o→i∉o:=fun {j d t} hj e=>by
  unfold mutS at e
  rw [List.getElem?_set_ne (Ne.symm hj),List.getElem?_map] at e
  cases e0:ρ[j]? with
  | none=>rw [e0] at e;cases e
  | some s=>
   rw [e0] at e
   have e:dropT i s=some (d,t):=Option.some.inj e
   cases s with
   | none=>cases e
   | some w=>
    obtain ⟨d',t'⟩:=w
    cases t' with
    | sh o=>
     have e:(if o.contains i=true then none else some (d',Tag.sh o))=some (d,t):=e
     by_cases hc:o.contains i=true
     ·rw [if_pos hc] at e;cases e
     ·rw [if_neg hc] at e
      cases e
      exact ⟨rfl,fun o' eo m=>by cases eo;exact hc (List.contains_iff_mem.mpr m)⟩
    | own=>cases e;exact ⟨rfl,fun o eo=>by cases eo⟩
    | lk=>cases e;exact ⟨rfl,fun o eo=>by cases eo⟩
 refine ⟨fun a=>if a∈fp1 then some i else if z a=some i then none else z a,fun j d t e=>?_,fun q m=>?_,fun a j e=>?_,fun a u e n=>?_,?_⟩
 ·by_cases hj:j=i
  ·subst hj
   unfold mutS at e
   rw [List.getElem?_set_self (by rw [List.length_map];exact hiρ)] at e
   cases e
   exact ⟨v,fp1,hs,r1,nd,fun a m=>if_pos m⟩
  ·obtain ⟨e0,nd'⟩:=dr hj e
   obtain ⟨v',fp',hs',r',z'⟩:=ok.sl j d t e0
   have nz:∀ a∈fp',z a≠some i:=fun a m q=>by
    cases t with
    | sh o=>exact nd' o rfl (z' a m i q)
    | own=>have:=z'.2 a m;rw [q] at this;exact hj (Option.some.inj this).symm
    | lk=>have:=z'.2 a m;rw [q] at this;exact hj (Option.some.inj this).symm
   have n0:∀ a∈fp',a∉fp0:=fun a m q=>nz a m (inz q)
   refine ⟨v',fp',hs',r'.frame (fun a m=>?_) im,?_⟩
   ·obtain ⟨o,w,_⟩:=r'.dom a m
    rw [keep a o (n0 a m) w,w]
   ·have at_:∀ a∈fp',(if a∈fp1 then some i else if z a=some i then none else z a)=z a:=fun a m=>by
     obtain ⟨o,w,_⟩:=r'.dom a m
     rw [old (n0 a m) w,if_neg (nz a m)]
    cases t with
    | sh o=>exact fun a m k q=>z' a m k (by rw [← at_ a m];exact q)
    | own=>exact ⟨z'.1,fun a m=>(at_ a m).trans (z'.2 a m)⟩
    | lk=>exact ⟨z'.1,fun a m=>(at_ a m).trans (z'.2 a m)⟩
 ·obtain ⟨r,hz⟩:=ok.hl q m
  have nz:∀ a∈q.fp,z a≠some i:=fun a m e=>(hz a m i e).2 d0 h
  have n0:∀ a∈q.fp,a∉fp0:=fun a m e=>nz a m (inz e)
  refine ⟨r.frame (fun a m=>?_) im,fun a ha j e=>?_⟩
  ·obtain ⟨o,w,_⟩:=r.dom a m
   rw [keep a o (n0 a m) w,w]
  ·obtain ⟨o,w,_⟩:=r.dom a ha
   rw [old (n0 a ha) w,if_neg (nz a ha)] at e
   obtain ⟨h1,h2⟩:=hz a ha j e
   have hj:j≠i:=fun q=>nz a ha (by rw [← q];exact e)
   exact ⟨h1,fun d e=>h2 d (dr hj e).1⟩
 ·by_cases m:a∈fp1
  ·obtain ⟨o,w,_⟩:=r1.dom a m
   refine ⟨⟨o,w⟩,?_⟩
   rcases fr a m with q | q
   ·exact (ok.zd a i (inz q)).2
   ·cases h0:H0 a with
    | none=>exact .inl rfl
    | some o=>
     by_cases hs:a∈S
     ·exact .inr hs
     ·have w:=ok.en a o h0 hs
      rw [q] at w;cases w
  ·rw [if_neg m] at e
   by_cases q:z a=some i
   ·rw [if_pos q] at e;cases e
   ·rw [if_neg q] at e
    obtain ⟨⟨o,w⟩,y⟩:=ok.zd a j e
    exact ⟨⟨o,keep a o (fun m=>q (inz m)) w⟩,y⟩
 ·have w:=ok.en a u e n
  refine keep a u (fun m=>?_) w
  rcases (ok.zd a i (inz m)).2 with q | q
  ·rw [e] at q;cases q
  ·exact n q
 ·unfold mutS
  rw [List.length_set,List.length_map]
  exact ok.ln
end L2.Ev
namespace L2
open PySem PySem.Spec PyProof.Rows
section
variable {X:Cx}
def ItrS (lo c:Int) (n:Nat):It:=⟨fun i _=>i < n,fun i H x H'=>H'=H∧x=.int (lo + i * c),fun i _=>n≤i⟩
theorem turn_rangeS {P:Program}{w:World}{K:PySem.W.Frag}{tg:Expr} (it:Addr) (lo c:Int) (n:Nat):Turn P w K tg (ItrS lo c n) [it] it (fun i h=>IsRangeIter h it (lo + (i:Nat) * c) ((n:Int) - (i:Nat)) c) where
 mem:=by simp
 obj:=fun i h st b hb=>by
  have e:b=it:=by simpa using hb
  subst e
  exact ⟨_,st,fun v z=>by
   have z':Data.fields _=Data.cell v:=z
   cases z'⟩
 keep:=fun i h h' st k=>k it (by simp) _ st
 item:=by
  intro X hP hw hK hc i pins s σ H E I hf st hg
  subst hP hw hK
  obtain ⟨f0,f1,f2,f3,f4,f5⟩:=hf it (by simp)
  have W:=Walks.range (prog:=X.prog) (w:=X.w) (I.ok.hd hc) it lo c n
  refine W.item i s _ _ hg st fun v h' tk hv st' kk=>?_
  obtain ⟨t,rfl⟩:=hv
  have I1:Inv X pins σ H { s with heap:=h',toks:=tk }:=I.turned (fun b o hb e=>kk b o (by simpa using hb) e) f0 f1 f3 f4 f5
  exact ⟨_,rfl,go_of (s:={ s with heap:=h',toks:=tk }) (n:="range_iterator") st' rfl rfl (by decide) ⟨.int (lo + i * c),H,I1,⟨t,rfl⟩,⟨rfl,rfl⟩,st',fun b hb=>(hf b hb).1⟩⟩
 done:=by
  intro X hP hw hK hc i pins s σ H E I hf st hg
  subst hP hw hK
  obtain ⟨f0,f1,f2,f3,f4,f5⟩:=hf it (by simp)
  exact wpAny_pyNext_range_end (I.ok.hd hc) st (by have:n≤i:=hg;omega) fun h' eb=>⟨rfl,I.turned (t':=s.toks) (fun b o hb e=>eb b o hb e) f0 f1 f3 f4 f5⟩
 self:=fun _ _ _ _ _ st h=>wpAny_pyIter_rangeiter st h
def iRng3 (ta:TA):TI:=fun σ H R=>ta σ H fun vs H1=>∃ i j c:Int,vs=[.int i,.int j,.int c]∧c≠0∧c.natAbs < 1073741824∧Builtin.Range.small i j c=true∧R (ItrS i c (Builtin.Range.rangeSize i j c).toNat) H1
theorem pi_range3 {tg a b c:Expr}{ta:TA}{p pos:Pos} (hg:Gl X "range") (hm:X.mg "range"=none) (ha:PA X [a,b,c] ta) (hs:starEach [a,b,c] X.env=[(false,eval a X.env),(false,eval b X.env),(false,eval c X.env)]:=by rfl) (hs2:starEach [b,c] X.env=[(false,eval b X.env),(false,eval c X.env)]:=by rfl) :
  PI X tg (.Call (.Name "range" p) [a,b,c] [] pos) (iRng3 ta):=by
 intro pins s σ H R I h
 refine Call_ (ld_blt I hg hm boot_range (PyProof.Rows.callWith_type1 (thn (ha pos pins s σ H _ I h) fun us s1 ⟨vs,H1,I1,r1,q1⟩=>?_) (by rw [hs,hs2]) (by rw [hs2];rfl)))
 obtain ⟨i,j,c,e,q1,q2,q3,q⟩:=q1
 subst e
 cases r1 with
 | cons r rr=>
  cases rr with
  | cons r' rr=>
   cases rr with
   | cons r'' rr=>
    cases rr
    obtain ⟨t,rfl⟩:=r
    obtain ⟨t',rfl⟩:=r'
    obtain ⟨t'',rfl⟩:=r''
    refine call_range_3 q1 ?_ (.inl (PyProof.noPylong_small q2))
    refine wpAny_pyIter_range (IsRange.new ..) q3 ?_
    have I2:Inv X pins σ H1 { s1 with heap:=s1.heap.push { cls:=.type "range",data:=.fields #[.int i t,.int j t',.int c t''] },toks:=s1.toks }:=I1.kept fun b o e=>Heap.get?_push_of_some _ e
    refine ⟨(s1.heap.push { cls:=.type "range",data:=.fields #[.int i t,.int j t',.int c t''] }).objs.size,[(s1.heap.push { cls:=.type "range",data:=.fields #[.int i t,.int j t',.int c t''] }).objs.size],_,_,H1,rfl,
     I2.kept (t':=s1.toks) fun b o e=>Heap.get?_push_of_some _ e,turn_rangeS _ i c (Builtin.Range.rangeSize i j c).toNat,?_,fun b hb=>?_,q⟩
    ·have e1:i + ((0:Nat):Int) * c=i:=by simp
     have e2:(((Builtin.Range.rangeSize i j c).toNat:Nat):Int) - ((0:Nat):Int)=Builtin.Range.rangeSize i j c:=by
      have:0≤Builtin.Range.rangeSize i j c:=by
       unfold Builtin.Range.rangeSize
       split
       ·rename_i hc
        split
        ·have:=Int.ediv_nonneg (show 0≤j - i - 1 by omega) (show 0≤c by omega);omega
        ·omega
       ·rename_i hc
        split
        ·have:=Int.ediv_nonneg (show 0≤i - j - 1 by omega) (show 0≤-c by omega);omega
        ·omega
      omega
     show IsRangeIter _ _ (i + ((0:Nat):Int) * c) ((((Builtin.Range.rangeSize i j c).toNat:Nat):Int) - ((0:Nat):Int)) c
     rw [e1,e2]
     exact Heap.get?_push_size _ rfl
    ·have e:b=(s1.heap.push { cls:=.type "range",data:=.fields #[.int i t,.int j t',.int c t''] }).objs.size:=by simpa using hb
     subst e
     exact I2.fpOk (Nat.le_refl _) (I2.hok.fresh (Nat.le_refl _))
end
end L2
namespace L2.Ev
open PySem PySem.Spec PyProof.Rows
section
variable {X:Cx}{a b c:Expr}{fa fb fc fv:EF}{p p1 p2 p3 pos:Pos}
def eChain (o o':D→D→Option D) (fa fb fc:EF):EF:=fun ρ=>match fa ρ,fb ρ with
 | some (d1,_),some (d2,_)=>match o d1 d2 with
  | some (.bl true)=>match fc ρ with
   | some (d3,_)=>(o' d2 d3).map fun d=>(d,.own)
   | none=>none
  | some (.bl false)=>some (.bl false,.own)
  | _=>none
 | _,_=>none
def oAny:D→Option D
 | .lst ds=>(boolsD ds).map fun bs=>.bl (bs.any id)
 | _=>none
theorem does_any {K:PySem.W.Frag}:Does1 K (fun xs H Q=>∃ (p:Addr) (bs:List Bool),xs=[V.ref p]∧SqL K H p (bs.map V.bl)∧Q (.bl (bs.any id)) H) oAny:=by
 intro H x d1 f1 d Q r e k
 cases d1 with
 | lst ds=>
  obtain ⟨p,xs,f,rfl,hq,rs,_⟩:=r.lst_of
  have e:(boolsD ds).map (fun bs=>D.bl (bs.any id))=some d:=e
  cases h:boolsD ds with
  | none=>rw [h] at e;cases e
  | some bs=>
   rw [h] at e
   cases e
   have ex:=boolsD_of rs h
   subst ex
   exact ⟨p,bs,rfl,hq,k H _ [] (Same.refl H) (.bl _) List.nodup_nil fun a m=>nomatch m⟩
 | _=>cases e
def oDIn (neg:Bool):D→D→Option D:=fun kd dd=>match dd with
 | .dic es=>(keyD kd).map fun k=>.bl (if neg=true then !(valD es k).isSome else (valD es k).isSome)
 | _=>none
def rDIn (neg:Bool):R2:=fun y x H Q=>∃ a o,x=.ref a∧DGet H a y o∧Q (.bl (if neg=true then !o.isSome else o.isSome)) H
theorem does_dIn {K:PySem.W.Frag}{neg:Bool}:Does2 K (rDIn neg) (oDIn neg):=by
 intro H y x d1 d2 f1 f2 d Q r1 r2 e k
 cases r2 with
 | @dic a kvs es fp h hk rs=>
  have e:((keyD d1).map fun k=>D.bl (if neg=true then !(valD es k).isSome else (valD es k).isSome))=some d:=e
  cases hkd:keyD d1 with
  | none=>rw [hkd] at e;cases e
  | some key=>
   rw [hkd] at e
   cases e
   have ek:=r1.key hkd
   subst ek
   have ev:(valV kvs key).isSome=(valD es key).isSome:=by
    obtain ⟨h1,h2⟩:=rep_val (k:=key) hk rs
    cases hv:valD es key with
    | none=>rw [h2 hv];rfl
    | some dv=>obtain ⟨v,f,hv',_⟩:=h1 dv hv;rw [hv'];rfl
   refine ⟨a,valV kvs key,rfl,DGet.k (k:=key) h,?_⟩
   rw [ev]
   exact k H _ (Same.refl H) (.bl _)
 | _=>cases e
def iR3 (fa fb:EF) (c:Int):IF:=fun ρ=>match fa ρ,fb ρ with
 | some (.int i,_),some (.int j,_)=>if (decide (c≠0)&&decide (c.natAbs < 1073741824)&&Builtin.Range.small i j c)=true then some ((List.range (Builtin.Range.rangeSize i j c).toNat).map fun n:Nat=>D.int (i + n * c),.own) else none
 | _,_=>none
theorem itOk_rangeS {K:PySem.W.Frag}{lo c:Int}{n:Nat}:ItOk K (ItrS lo c n) ((List.range n).map fun i:Nat=>D.int (lo + (i:Int) * c)) []:=by
 intro H i _
 refine ⟨fun d e=>?_,fun h=>?_⟩
 ·rw [List.getElem?_map] at e
  by_cases hi:i < n
  ·rw [List.getElem?_range hi] at e
   cases e
   refine ⟨hi,fun x H' y=>?_⟩
   obtain ⟨rfl,rfl⟩:=y
   exact ⟨Same.refl _,[],.int _,fun a m=>nomatch m⟩
  ·rw [List.getElem?_eq_none_iff.mpr (by rw [List.length_range];omega)] at e;cases e
 ·rw [List.length_map,List.length_range] at h;exact h
end
section
variable {X:Cx}{a b o:Expr}{fa fb fv fo:EF}{p p1 p2 p3 pos:Pos}{x cn f:Str}{C:Addr}
def sAppO (i:Nat) (fv:EF):SF:=fun ρ=>match fv ρ,ρ[i]? with
 | some (d,t),some (some (.lst ds,.own))=>if ((isOwn t||imm d)&&decide (ds.length < sizeLine))=true then some (.nx (mutS ρ i (.lst (ds++[d])))) else none
 | _,_=>none
theorem fs_appO (i:Nat) (hv:FP X a fv) (hN:X.N[i]? = some x:=by rfl) (hvis:Vis X.env.scope x:=by first | exact Or.inl rfl | exact Or.inr (Or.inl rfl) | exact Or.inr (Or.inr rfl))
  (hd:(x == ("__debug__":Str))=false:=by decide) (hcd:(x == ("__classdict__":Str))=false:=by decide) (hs:starEach [a] X.env=[(false,eval a X.env)]:=by rfl)
  (hbase:attributeBase (.Name x p1) "append" X.env (eval (.Name x p1) X.env)=eval (.Name x p1) X.env:=by rfl)
  (hfew:((backTo p3 (starEach [a] X.env)).all (fun x=>!x.1)&&(backToKw p3 (keywordEach [] X.env)).all (fun x=>x.1.isSome)&&decide ([a].length + ([]:List Keyword).length + (if ([]:List Keyword).isEmpty then 0 else 1) < 30))=true:=by rfl)
  (hline:(p2.endLine == p3.line)=true:=by rfl) (hsw:swapsWith (.Call (.Attribute (.Name x p1) "append" p2) [a] [] p3) none pos.line X.env=pure false:=by rfl) :
  FS1 X (.Expr (.Call (.Attribute (.Name x p1) "append" p2) [a] [] p3) pos) (sAppO i fv):=by
 obtain ⟨tv,pv',sv⟩:=hv
 refine ⟨_,ps_expr (pe_bm PySem.F.plainAttrs_list PySem.F.slot_list_append PySem.F.type_list_append mt_append (pe_var (i:=i) hN hvis hd hcd) (pa_cons pv' pa_nil hs) hbase hfew hline hs rfl) hsw,fun H0 S z held ρ σ H E o ok e q=>?_⟩
 unfold sAppO at e
 split at e
 ·rename_i d td ds g1 g2
  by_cases hc:((isOwn td||imm d)&&decide (ds.length < sizeLine))=true
  ·rw [if_pos hc] at e
   cases e
   obtain ⟨c1,c3⟩:=(Bool.and_eq_true _ _).mp hc
   obtain ⟨xv,fp,hs',r,zz⟩:=ok.sl i _ _ g2
   refine ⟨xv,hs',?_⟩
   obtain ⟨l,xs,f,rfl,hq,_,_⟩:=r.lst_of
   refine ⟨.inl ⟨rfl,_,hq⟩,?_⟩
   refine sv H0 S z held ρ σ H _ d td ok g1 fun H1 v fd s1 rv gv=>?_
   have r':=r.same s1
   generalize hw:(V.ref l)=w at r' hs'
   cases r' with
   | @lst a' ys _ f' h rs=>
    cases hw
    have ndf:fd.Nodup∧(∀ c∈fd,c∉(l::f'))∧∀ c∈fd,H c=none:=by
     rcases (Bool.or_eq_true _ _).mp c1 with hh | hh
     ·have g:fd.Nodup∧∀ a∈fd,H a=none:=by cases td <;> first | exact gv | cases hh
      refine ⟨g.1,fun c m n=>?_,g.2⟩
      obtain ⟨⟨o,w⟩,_⟩:=ok.zd c i (zz.2 c n)
      rw [g.2 c m] at w;cases w
     ·have:=rv.imm hh
      subst this
      exact ⟨List.nodup_nil,fun c m=>(nomatch m),fun c m=>(nomatch m)⟩
    refine ⟨_,ys,v,rfl,rfl,h,by rw [← rs.length];exact of_decide_eq_true c3,?_⟩
    obtain ⟨n1,n2⟩:=List.nodup_cons.mp zz.1
    have im:Imm H1 (upd H1 l (.lst (ys++[v]))):=Imm.upd h rfl
    have rs':=rs.frame (H':=upd H1 l (.lst (ys++[v]))) (fun c m=>upd_ne fun q=>n1 (by rw [← q];exact m)) im
    have rd':=rv.frame (H':=upd H1 l (.lst (ys++[v]))) (fun c m=>upd_ne fun q=>ndf.2.1 c m (by rw [q];exact List.mem_cons_self)) im
    have nd1:(l::(f'++(fd++[]))).Nodup:=by
     rw [List.append_nil]
     refine List.nodup_cons.mpr ⟨fun m=>?_,List.nodup_append.mpr ⟨n2,ndf.1,fun c mc e me ee=>ndf.2.1 e me (by rw [← ee];exact List.mem_cons_of_mem _ mc)⟩⟩
     rcases List.mem_append.mp m with m | m
     ·exact n1 m
     ·exact ndf.2.1 l m List.mem_cons_self
    have fr1:∀ c∈l::(f'++(fd++[])),c∈l::f'∨H c=none:=by
     intro c m
     rw [List.append_nil] at m
     rcases List.mem_cons.mp m with q | m
     ·exact .inl (by rw [q];exact List.mem_cons_self)
     ·rcases List.mem_append.mp m with m | m
      ·exact .inl (List.mem_cons_of_mem _ m)
      ·exact .inr (ndf.2.2 c m)
    obtain ⟨z',ok'⟩:=ok.put (fp1:=l::(f'++(fd++[]))) (d1:=.lst (ds++[d])) g2 hs' zz ((Imm.of s1).trans im) (fun c o n e=>by rw [upd_ne fun q=>n (by rw [q];exact List.mem_cons_self)];exact s1 c o e)
     (.lst upd_same (Reps.append rs' (.cons rd' .nil))) nd1 fr1
    exact q z' σ _ ok' (.refl _ _)
  ·rw [if_neg hc] at e;cases e
 ·cases e
def sExt (i:Nat) (fv:EF):SF:=fun ρ=>match fv ρ,ρ[i]? with
 | some (.lst es,_),some (some (.lst ds,.own))=>if (immAll es&&immAll ds&&decide (ds.length + es.length≤sizeLine))=true then some (.nx (mutS ρ i (.lst (ds++es)))) else none
 | _,_=>none
theorem fs_ext (i:Nat) (hv:FP X a fv) (hN:X.N[i]? = some x:=by rfl) (hvis:Vis X.env.scope x:=by first | exact Or.inl rfl | exact Or.inr (Or.inl rfl) | exact Or.inr (Or.inr rfl))
  (hd:(x == ("__debug__":Str))=false:=by decide) (hcd:(x == ("__classdict__":Str))=false:=by decide) (hs:starEach [a] X.env=[(false,eval a X.env)]:=by rfl)
  (hbase:attributeBase (.Name x p1) "extend" X.env (eval (.Name x p1) X.env)=eval (.Name x p1) X.env:=by rfl)
  (hfew:((backTo p3 (starEach [a] X.env)).all (fun x=>!x.1)&&(backToKw p3 (keywordEach [] X.env)).all (fun x=>x.1.isSome)&&decide ([a].length + ([]:List Keyword).length + (if ([]:List Keyword).isEmpty then 0 else 1) < 30))=true:=by rfl)
  (hline:(p2.endLine == p3.line)=true:=by rfl) (hsw:swapsWith (.Call (.Attribute (.Name x p1) "extend" p2) [a] [] p3) none pos.line X.env=pure false:=by rfl) :
  FS1 X (.Expr (.Call (.Attribute (.Name x p1) "extend" p2) [a] [] p3) pos) (sExt i fv):=by
 obtain ⟨tv,pv',sv⟩:=hv
 refine ⟨_,ps_expr (pe_bm PySem.F.plainAttrs_list PySem.F.slot_list_extend PySem.F.type_list_extend mt_extend (pe_var (i:=i) hN hvis hd hcd) (pa_cons pv' pa_nil hs) hbase hfew hline hs rfl) hsw,fun H0 S z held ρ σ H E o ok e q=>?_⟩
 unfold sExt at e
 split at e
 ·rename_i es te ds g1 g2
  by_cases hc:(immAll es&&immAll ds&&decide (ds.length + es.length≤sizeLine))=true
  ·rw [if_pos hc] at e
   cases e
   obtain ⟨c1,c3⟩:=(Bool.and_eq_true _ _).mp hc
   obtain ⟨c1,c2⟩:=(Bool.and_eq_true _ _).mp c1
   obtain ⟨xv,fp,hs',r,zz⟩:=ok.sl i _ _ g2
   refine ⟨xv,hs',?_⟩
   obtain ⟨l,xs,f,rfl,hq,_,_⟩:=r.lst_of
   refine ⟨.inl ⟨rfl,_,hq⟩,?_⟩
   refine sv H0 S z held ρ σ H _ _ te ok g1 fun H1 v fd s1 rv gv=>?_
   have r':=r.same s1
   have ok1:=ok.same s1
   generalize hw:(V.ref l)=w at r' hs'
   cases r' with
   | @lst a' ys _ f' h rs=>
    cases hw
    have hn:=rs.imm c2
    subst hn
    cases rv with
    | @lst b' zs _ f2 h' rz=>
     have hn:=rz.imm c1
     subst hn
     refine ⟨_,b',ys,zs,rfl,rfl,h,h',by rw [← rs.length,← rz.length];exact of_decide_eq_true c3,?_⟩
     have im:Imm H1 (upd H1 l (.lst (ys++zs))):=Imm.upd h rfl
     refine q z σ _ (Ok.mutate ok1 g2 hs' zz List.mem_cons_self h rfl (.lst upd_same ?_)) (.refl _ _)
     exact Reps.append (f:=[]) (g:=[]) (rs.frame (fun a m=>nomatch m) im) (rz.frame (fun a m=>nomatch m) im)
  ·rw [if_neg hc] at e;cases e
 ·cases e
end
end L2.Ev
namespace L2.SetT
open PySem
def Rs (t:SetTable):Prop:=t.place.toList.Pairwise (· < ·)∧t.dummies=#[]
theorem getD_toList {xs:Array Nat}{i j:Nat} (h:i < xs.size):xs.getD i j=xs.toList[i]'(by simpa using h):=by
 rw [Array.getD_eq_getD_getElem?,Array.getElem?_eq_getElem h];simp
theorem below_go {xs:Array Nat}{j:Nat} (hr:xs.toList.Pairwise (· < ·)):∀ (fuel lo hi:Nat),hi - lo≤fuel→lo≤hi→hi≤xs.size→(∀ i (h:i < xs.size),i < lo→xs[i] < j)→(∀ i (h:i < xs.size),hi≤i→j≤xs[i]) →
  SetTable.below.go xs j fuel lo hi≤xs.size∧(∀ i (h:i < xs.size),i < SetTable.below.go xs j fuel lo hi→xs[i] < j)∧∀ i (h:i < xs.size),SetTable.below.go xs j fuel lo hi≤i→j≤xs[i]:=by
 have mono:∀ a b (ha:a < xs.size) (hb:b < xs.size),a < b→xs[a] < xs[b]:=fun a b ha hb hab=>by
  have:=List.pairwise_iff_getElem.mp hr a b (by simpa using ha) (by simpa using hb) hab
  simpa using this
 intro fuel
 induction fuel with
 | zero=>
  intro lo hi h1 h2 h3 h4 h5
  have e:lo=hi:=by omega
  subst e
  exact ⟨h3,h4,h5⟩
 | succ fuel ih=>
  intro lo hi h1 h2 h3 h4 h5
  unfold SetTable.below.go
  by_cases hl:lo < hi
  ·rw [if_pos hl]
   have hm:(lo + hi) / 2 < xs.size:=by omega
   have em:xs.getD ((lo + hi) / 2) j=xs[(lo + hi) / 2]:=by rw [getD_toList hm];simp
   dsimp only
   rw [em]
   by_cases hx:xs[(lo + hi) / 2] < j
   ·rw [if_pos hx]
    refine ih _ _ (by omega) (by omega) h3 (fun i h hi'=>?_) h5
    by_cases q:i < (lo + hi) / 2
    ·exact Nat.lt_trans (mono _ _ h hm q) hx
    ·have:i=(lo + hi) / 2:=by omega
     subst this;exact hx
   ·rw [if_neg hx]
    refine ih _ _ (by omega) (by omega) (by omega) h4 (fun i h hi'=>?_)
    by_cases q:(lo + hi) / 2 < i
    ·have:=mono _ _ hm h q;omega
    ·have:i=(lo + hi) / 2:=by omega
     subst this;omega
  ·rw [if_neg hl]
   have e:lo=hi:=by omega
   subst e
   exact ⟨h3,h4,h5⟩
theorem below_ok {xs:Array Nat}{j:Nat} (hr:xs.toList.Pairwise (· < ·)):SetTable.below xs j≤xs.size∧(∀ i (h:i < xs.size),i < SetTable.below xs j→xs[i] < j)∧∀ i (h:i < xs.size),SetTable.below xs j≤i→j≤xs[i]:=
 below_go hr xs.size 0 xs.size (by omega) (Nat.zero_le _) (Nat.le_refl _) (fun i h q=>absurd q (Nat.not_lt_zero _)) (fun i h q=>absurd h (by omega))
theorem below_at {xs:Array Nat} (hr:xs.toList.Pairwise (· < ·)) {k:Nat} (hk:k≤xs.size) {j:Nat} (h1:∀ i (h:i < xs.size),i < k→xs[i] < j) (h2:∀ i (h:i < xs.size),k≤i→j≤xs[i]):SetTable.below xs j=k:=by
 obtain ⟨a,b,c⟩:=below_ok (j:=j) hr
 rcases Nat.lt_trichotomy (SetTable.below xs j) k with q | q | q
 ·have:=h1 (SetTable.below xs j) (by omega) q
  have:=c (SetTable.below xs j) (by omega) (Nat.le_refl _)
  omega
 ·exact q
 ·have:=b k (by omega) q
  have:=h2 k (by omega) (Nat.le_refl _)
  omega
theorem rs_insert {xs:Array Nat} (hr:xs.toList.Pairwise (· < ·)) {j:Nat} (hj:xs[SetTable.below xs j]?≠some j):(SetTable.insertAt xs (SetTable.below xs j) j).toList.Pairwise (· < ·):=by
 obtain ⟨a,b,c⟩:=below_ok (j:=j) hr
 unfold SetTable.insertAt
 have e:((xs.extract 0 (SetTable.below xs j)).push j++xs.extract (SetTable.below xs j) xs.size).toList=xs.toList.take (SetTable.below xs j)++(j::xs.toList.drop (SetTable.below xs j)):=by
  simp [Array.toList_extract,List.take_of_length_le]
 rw [e]
 have c':∀ i (h:i < xs.size),SetTable.below xs j≤i→j < xs[i]:=fun i h hi=>by
  have q:=c i h hi
  rcases Nat.lt_or_eq_of_le q with q | q
  ·exact q
  ·exfalso
   have p1:SetTable.below xs j < xs.size:=by omega
   have q1:=c _ p1 (Nat.le_refl _)
   by_cases ei:i=SetTable.below xs j
   ·subst ei
    exact hj (by rw [Array.getElem?_eq_getElem h,← q])
   ·have:=List.pairwise_iff_getElem.mp hr (SetTable.below xs j) i (by simpa using p1) (by simpa using h) (by omega)
    have:xs[SetTable.below xs j] < xs[i]:=by simpa using this
    omega
 refine List.pairwise_append.mpr ⟨hr.sublist (List.take_sublist _ _),List.pairwise_cons.mpr ⟨fun x hx=>?_,hr.sublist (List.drop_sublist _ _)⟩,fun x hx y hy=>?_⟩
 ·obtain ⟨i,hi,rfl⟩:=List.getElem_of_mem hx
  rw [List.getElem_drop]
  have hi':i < xs.size - SetTable.below xs j:=by simpa using hi
  have:=c' (SetTable.below xs j + i) (by omega) (by omega)
  simpa using this
 ·obtain ⟨i,hi,rfl⟩:=List.getElem_of_mem hx
  have hi':i < SetTable.below xs j∧i < xs.size:=by simpa [Nat.lt_min] using hi
  have hxj:xs[i]'hi'.2 < j:=b i hi'.2 hi'.1
  rw [List.getElem_take]
  have hxj:xs.toList[i]'(by simpa using hi'.2) < j:=by simpa using hxj
  rcases List.mem_cons.mp hy with e | hy
  ·rw [e];exact hxj
  ·obtain ⟨k,hk,rfl⟩:=List.getElem_of_mem hy
   rw [List.getElem_drop]
   have hk':k < xs.size - SetTable.below xs j:=by simpa using hk
   have:=c' (SetTable.below xs j + k) (by omega) (by omega)
   have:j < xs.toList[SetTable.below xs j + k]'(by simp;omega):=by simpa using this
   omega
theorem rs_range (n:Nat):(Array.range n).toList.Pairwise (· < ·):=by
 rw [Array.toList_range]
 exact List.pairwise_lt_range
theorem Rs.standIn (t:SetTable) (n:Nat):Rs (t.standIn n):=⟨rs_range n,rfl⟩
theorem probe_go {t:SetTable} (hd:t.dummies=#[]) {hashAt:Nat→Int}{h:Int}:∀ {fuel:Nat}{p:SetTable.Probe}{j:Nat}{d:Option Nat},p.dummy=none→SetTable.probe.go t hashAt h fuel p=some (.empty j d)→d=none∧t.slot j=.empty
 | 0,_,_,_,_,e=>by simp [SetTable.probe.go] at e
 | fuel + 1,p,j,d,hp,e=>by
  unfold SetTable.probe.go at e
  have adv:∀ q:SetTable.Probe,q.dummy=none→(t.advance q).dummy=none:=fun q hq=>by
   unfold SetTable.advance
   split
   ·exact hq
   ·exact hq
  cases hs:t.slot p.j with
  | empty=>
   rw [hs] at e
   cases e
   exact ⟨hp,hs⟩
  | dummy=>
   exfalso
   unfold SetTable.slot at hs
   dsimp only at hs
   split at hs
   ·cases hs
   ·split at hs
    ·rename_i hh
     rw [hd] at hh
     simp [SetTable.has] at hh
    ·cases hs
  | live i=>
   rw [hs] at e
   dsimp only at e
   split at e
   ·cases e
   ·exact probe_go hd (adv p hp) e
theorem freeSlot_ok {t:SetTable} (hd:t.dummies=#[]) {h:Int}{slot:Nat}{b:Bool} (e:t.freeSlot h=some (slot,b)):t.place[SetTable.below t.place slot]?≠some slot:=by
 unfold SetTable.freeSlot at e
 split at e
 ·rename_i j d hp
  cases e
  obtain ⟨e1,e2⟩:=probe_go hd rfl hp
  subst e1
  show t.place[SetTable.below t.place j]?≠some j
  intro q
  unfold SetTable.slot at e2
  dsimp only at e2
  rw [q] at e2
  simp at e2
 ·cases e
theorem Rs.put {t:SetTable} (r:Rs t) {slot:Nat} (h:t.place[SetTable.below t.place slot]?≠some slot):Rs (t.put slot).1:=by
 refine ⟨rs_insert r.1 h,?_⟩
 show (if SetTable.has t.dummies slot=true then _ else t.dummies)=#[]
 rw [r.2]
 simp [SetTable.has]
theorem Rs.orStandIn {t:SetTable} (r:Rs t) (n:Nat):Rs (t.orStandIn n):=by
 unfold SetTable.orStandIn
 split
 ·exact r
 ·exact Rs.standIn t n
theorem Rs.layNew {t:SetTable} (r:Rs t) (es:Array (Int×Value)) (h:Int) (x:Value):Rs (PySem.layNew t es h x).2.1:=by
 unfold PySem.layNew
 split
 ·rename_i slot b e
  exact (r.put (freeSlot_ok r.2 e)).orStandIn _
 ·exact Rs.standIn _ _
theorem laid_rs {mask finger moves:Nat}{led plain:Bool}{hashes:Array Int}{r:SetTable×Array Nat} (h:SetTable.laid mask finger moves led plain hashes=some r):Rs r.1:=by
 unfold SetTable.laid at h
 cases hc:SetTable.layClean mask hashes with
 | none=>rw [hc] at h;cases h
 | some o=>
  rw [hc] at h
  cases h
  refine ⟨?_,rfl⟩
  dsimp only
  have key:∀ (l:List Nat),l.Pairwise (· < ·)→((l.filterMap fun j=>(o.getD j none).map (j,·)).map (·.1)).Pairwise (· < ·):=fun l hl=>by
   rw [List.map_filterMap]
   refine List.Pairwise.filterMap _ (fun a a' haa b hb b' hb'=>?_) hl
   have e1:b=a:=by
    cases q:o.getD a none with
    | none=>rw [q] at hb;simp at hb
    | some x=>rw [q] at hb;simpa using hb.symm
   have e2:b'=a':=by
    cases q:o.getD a' none with
    | none=>rw [q] at hb';simp at hb'
    | some x=>rw [q] at hb';simpa using hb'.symm
   rw [e1,e2];exact haa
  exact key _ List.pairwise_lt_range
theorem Rs.relayAll {t:SetTable} (es:Array (Int×Value)) (wanted:Nat):Rs (PySem.relayAll t es wanted).2.1:=by
 unfold PySem.relayAll
 split
 ·rename_i t' order h
  dsimp only
  split
  ·exact laid_rs h
  ·exact Rs.standIn _ _
 ·exact Rs.standIn _ _
def stp (M i:Nat):Nat:=(i * 5 + 1) % M
def itr (M:Nat):Nat→Nat→Nat
 | 0,i=>i
 | t + 1,i=>itr M t (stp M i)
theorem itr_add (M:Nat):∀ (a b i:Nat),itr M (a + b) i=itr M b (itr M a i)
 | 0,b,i=>by rw [Nat.zero_add];rfl
 | a + 1,b,i=>by rw [Nat.add_right_comm];exact itr_add M a b (stp M i)
def orb (M:Nat):Nat→Nat→List Nat
 | 0,_=>[]
 | n + 1,i=>i::orb M n (stp M i)
theorem mem_orb {M:Nat}:∀ {n i j:Nat},j∈orb M n i→∃ t,t < n∧itr M t i=j
 | 0,_,_,h=>by simp [orb] at h
 | n + 1,i,j,h=>by
  rcases List.mem_cons.mp h with e | h
  ·exact ⟨0,Nat.succ_pos _,e.symm⟩
  ·obtain ⟨t,ht,e⟩:=mem_orb h
   exact ⟨t + 1,Nat.succ_lt_succ ht,e⟩
def cov (M:Nat):Bool:=(List.range M).all (fun j=>(orb M M 0).contains j)&&(itr M M 0 == 0)
def sizes:List Nat:=[8,16,32,64,128,256,512]
theorem cov_all:sizes.all cov=true:=by decide +kernel
theorem meets {M i j:Nat} (hM:M∈sizes) (hi:i < M) (hj:j < M):∃ t,t < M∧itr M t i=j:=by
 have hc:=List.all_eq_true.mp cov_all M hM
 unfold cov at hc
 obtain ⟨h1,h2⟩:=(Bool.and_eq_true _ _).mp hc
 have h2:itr M M 0=0:=by simpa using h2
 have key:∀ j,j < M→∃ t,t < M∧itr M t 0=j:=fun j hj=>by
  have:=List.all_eq_true.mp h1 j (List.mem_range.mpr hj)
  exact mem_orb (by simpa using this)
 obtain ⟨a,ha,ea⟩:=key i hi
 obtain ⟨b,hb,eb⟩:=key j hj
 by_cases h:a≤b
 ·refine ⟨b - a,by omega,?_⟩
  rw [← ea,← itr_add,show a + (b - a)=b by omega,eb]
 ·refine ⟨b + M - a,by omega,?_⟩
  rw [← ea,← itr_add,show a + (b + M - a)=M + b by omega,itr_add,h2,eb]
def pos (mask:Nat):Nat→Nat×Nat→Nat×Nat
 | 0,p=>p
 | t + 1,p=>pos mask t (SetTable.leap mask p.1 p.2)
theorem free_none {mask:Nat}{owner:Array (Option Nat)}:∀ {fuel i p:Nat},SetTable.layClean.free mask owner fuel i p=none→∀ t,t < fuel→(owner.getD (pos mask t (i,p)).1 (some 0)).isSome=true
 | 0,_,_,_,t,ht=>absurd ht (Nat.not_lt_zero _)
 | fuel + 1,i,p,h,t,ht=>by
  unfold SetTable.layClean.free at h
  split at h
  ·cases h
  ·rename_i hf
   cases t with
   | zero=>
    have:=List.find?_eq_none.mp hf 0 (List.mem_range.mpr (by unfold SetTable.runEnd;split <;> omega))
    show (owner.getD i (some 0)).isSome=true
    rw [Nat.add_zero] at this
    cases hq:owner.getD i (some 0) with
    | none=>rw [hq] at this;exact absurd rfl this
    | some x=>rfl
   | succ t=>exact free_none (fuel:=fuel) h t (Nat.lt_of_succ_lt_succ ht)
theorem free_some {mask:Nat}{owner:Array (Option Nat)}:∀ {fuel i p j:Nat},SetTable.layClean.free mask owner fuel i p=some j→owner.getD j (some 0)=none
 | 0,_,_,_,h=>by simp [SetTable.layClean.free] at h
 | fuel + 1,i,p,j,h=>by
  unfold SetTable.layClean.free at h
  split at h
  ·rename_i k hf
   cases h
   have:=List.find?_some hf
   cases hq:owner.getD (i + k) (some 0) with
   | none=>rfl
   | some x=>rw [hq] at this;cases this
  ·exact free_some h
theorem pos_snd {mask:Nat}:∀ {t:Nat}{q:Nat×Nat},(pos mask t q).2=q.2 / 32 ^ t
 | 0,q=>by show q.2=q.2 / 1;rw [Nat.div_one]
 | t + 1,q=>by
  show (pos mask t (SetTable.leap mask q.1 q.2)).2=_
  rw [pos_snd]
  show q.2 / 32 / 32 ^ t=_
  rw [Nat.div_div_eq_div_mul,Nat.pow_succ,Nat.mul_comm]
theorem pos_add {mask:Nat}:∀ (a b:Nat) (q:Nat×Nat),pos mask (a + b) q=pos mask b (pos mask a q)
 | 0,b,q=>by rw [Nat.zero_add];rfl
 | a + 1,b,q=>by rw [Nat.add_right_comm];exact pos_add a b _
theorem pos_zero {mask:Nat}:∀ (t i:Nat),pos mask t (i,0)=(itr (mask + 1) t i,0)
 | 0,_=>rfl
 | t + 1,i=>by
  show pos mask t (SetTable.leap mask i 0)=_
  have e:SetTable.leap mask i 0=(stp (mask + 1) i,0):=rfl
  rw [e,pos_zero];rfl
theorem free_ok {mask p j:Nat}{owner:Array (Option Nat)} (hM:mask + 1∈sizes) (hp:p < 2 ^ 64) (hj:j < mask + 1) (ho:owner.getD j (some 0)=none):∃ j',SetTable.layClean.free mask owner (SetTable.turns mask) (p % (mask + 1)) p=some j'∧owner.getD j' (some 0)=none:=by
 cases h:SetTable.layClean.free mask owner (SetTable.turns mask) (p % (mask + 1)) p with
 | some j'=>exact ⟨j',rfl,free_some h⟩
 | none=>
  have hn:=free_none h
  have z:(pos mask 13 (p % (mask + 1),p)).2=0:=by
   rw [pos_snd]
   exact Nat.div_eq_of_lt (Nat.lt_of_lt_of_le hp (by decide))
  have b:∀ (t:Nat) (q:Nat×Nat),q.1 < mask + 1→(pos mask t q).1 < mask + 1:=by
   intro t
   induction t with
   | zero=>exact fun q hq=>hq
   | succ t ih=>exact fun q hq=>ih _ (Nat.mod_lt _ (Nat.succ_pos _))
  obtain ⟨t,ht,et⟩:=meets hM (b 13 (p % (mask + 1),p) (Nat.mod_lt _ (Nat.succ_pos _))) hj
  have e:pos mask (13 + t) (p % (mask + 1),p)=(j,0):=by
   rw [pos_add,show pos mask 13 (p % (mask + 1),p)=((pos mask 13 (p % (mask + 1),p)).1,0) from Prod.ext rfl z,pos_zero,et]
  have:=hn (13 + t) (by unfold SetTable.turns;omega)
  rw [e] at this
  rw [ho] at this
  cases this
theorem set_perm {k:Nat}:∀ {l:List (Option Nat)}{j:Nat},l[j]? = some none→((l.set j (some k)).filterMap id).Perm (k::l.filterMap id)
 | [],_,h=>by simp at h
 | none::l,0,_=>List.Perm.refl _
 | some x::l,0,h=>by simp at h
 | none::l,j + 1,h=>by
  show ((none::l.set j (some k)).filterMap id).Perm (k::(none::l).filterMap id)
  rw [List.filterMap_cons_none rfl,List.filterMap_cons_none rfl]
  exact set_perm (by simpa using h)
 | some x::l,j + 1,h=>by
  show (x::(l.set j (some k)).filterMap id).Perm (k::x::l.filterMap id)
  exact ((set_perm (by simpa using h)).cons x).trans (List.Perm.swap _ _ _)
theorem none_there:∀ {l:List (Option Nat)},(l.filterMap id).length < l.length→∃ j:Nat,l[j]? = some none
 | [],h=>absurd h (Nat.not_lt_zero _)
 | none::l,_=>⟨0,rfl⟩
 | some x::l,h=>by
  have h:(x::l.filterMap id).length < (some x::l).length:=h
  rw [List.length_cons,List.length_cons] at h
  obtain ⟨j,e⟩:=none_there (Nat.lt_of_succ_lt_succ h)
  exact ⟨j + 1,by simpa using e⟩
def lay1 (mask:Nat) (acc:Option (Array (Option Nat)×Nat)) (h:Int):Option (Array (Option Nat)×Nat):=do
 let (owner,k) ← acc
 let j ← SetTable.layClean.free mask owner (SetTable.turns mask) (SetTable.bits h % (mask + 1)) (SetTable.bits h)
 pure (owner.setIfInBounds j (some k),k + 1)
theorem bits_lt (h:Int):SetTable.bits h < 2 ^ 64:=by
 unfold SetTable.bits
 have:=Int.emod_lt_of_pos h (show (0:Int) < 2 ^ 64 by decide)
 have:=Int.emod_nonneg h (show (2 ^ 64:Int)≠0 by decide)
 omega
theorem getD_list {owner:Array (Option Nat)}{j:Nat}:owner.getD j (some 0)=none↔owner.toList[j]? = some none:=by
 rw [Array.getD_eq_getD_getElem?,← Array.getElem?_toList]
 cases owner.toList[j]? with
 | none=>simp
 | some x=>cases x <;> simp
theorem lay_fold {mask:Nat} (hM:mask + 1∈sizes):∀ (hs:List Int) (owner:Array (Option Nat)) (k:Nat),owner.size=mask + 1→(owner.toList.filterMap id).Perm (List.range k)→k + hs.length≤mask →
  ∃ owner',hs.foldl (lay1 mask) (some (owner,k))=some (owner',k + hs.length)∧owner'.size=mask + 1∧(owner'.toList.filterMap id).Perm (List.range (k + hs.length))
 | [],owner,k,hs,hp,_=>⟨owner,rfl,hs,hp⟩
 | h::hs,owner,k,hz,hp,hl=>by
  rw [List.length_cons] at hl
  obtain ⟨j0,e0⟩:=none_there (l:=owner.toList) (by rw [hp.length_eq,List.length_range,Array.length_toList,hz];omega)
  have hj0:j0 < mask + 1:=by
   have:=(List.getElem?_eq_some_iff.mp e0).1
   rw [Array.length_toList,hz] at this;exact this
  obtain ⟨j,ej,oj⟩:=free_ok hM (bits_lt h) hj0 (getD_list.mpr e0)
  have e1:lay1 mask (some (owner,k)) h=some (owner.setIfInBounds j (some k),k + 1):=by
   show (SetTable.layClean.free mask owner (SetTable.turns mask) (SetTable.bits h % (mask + 1)) (SetTable.bits h)).bind (fun j=>some (owner.setIfInBounds j (some k),k + 1))=_
   rw [ej];rfl
  obtain ⟨o',f1,f2,f3⟩:=lay_fold hM hs (owner.setIfInBounds j (some k)) (k + 1) (by rw [Array.size_setIfInBounds];exact hz) (by
   rw [Array.toList_setIfInBounds]
   refine (set_perm (getD_list.mp oj)).trans ?_
   rw [List.range_succ]
   exact ((hp.cons k).trans (List.perm_append_comm (l₁:=[k]) (l₂:=List.range k)))) (by omega)
  refine ⟨o',?_,f2,?_⟩
  ·rw [List.foldl_cons,e1,f1,List.length_cons,show k + 1 + hs.length=k + (hs.length + 1) by omega]
  ·rw [List.length_cons,show k + (hs.length + 1)=k + 1 + hs.length by omega];exact f3
theorem layClean_ok {mask:Nat}{hashes:Array Int} (hM:mask + 1∈sizes) (hn:hashes.size≤mask):∃ owner,SetTable.layClean mask hashes=some owner∧owner.size=mask + 1∧(owner.toList.filterMap id).Perm (List.range hashes.size):=by
 have rep:∀ n:Nat,(List.replicate n (none:Option Nat)).filterMap id=[]:=fun n=>by
  induction n with
  | zero=>rfl
  | succ n ih=>rw [List.replicate_succ,List.filterMap_cons_none rfl,ih]
 obtain ⟨o,f1,f2,f3⟩:=lay_fold hM hashes.toList (Array.replicate (mask + 1) none) 0 (by simp) (by rw [Array.toList_replicate,rep];exact List.Perm.refl _) (by rw [Array.length_toList];omega)
 rw [Nat.zero_add,Array.length_toList] at f1 f3
 refine ⟨o,?_,f2,f3⟩
 unfold SetTable.layClean
 have e:hashes.foldl (init:=some (Array.replicate (mask + 1) none,0)) (lay1 mask)=some (o,hashes.size):=by
  rw [← Array.foldl_toList];exact f1
 show (hashes.foldl (init:=some (Array.replicate (mask + 1) none,0)) (lay1 mask)).map (·.1)=_
 rw [e];rfl
theorem live_snd:∀ (l:List (Option Nat)) (a:Nat),(((List.range' a l.length).zip l).filterMap fun p=>p.2.map (p.1,·)).map (·.2)=l.filterMap id
 | [],_=>rfl
 | none::l,a=>by
  rw [List.length_cons,List.range'_succ,List.zip_cons_cons,List.filterMap_cons_none rfl,List.filterMap_cons_none rfl]
  exact live_snd l (a + 1)
 | some x::l,a=>by
  rw [List.length_cons,List.range'_succ,List.zip_cons_cons]
  show x::((((List.range' (a + 1) l.length).zip l).filterMap fun p=>p.2.map (p.1,·)).map (·.2))=x::l.filterMap id
  rw [live_snd l (a + 1)]
theorem live_eq {owner:Array (Option Nat)}{M:Nat} (h:owner.size=M):((List.range M).filterMap fun j=>(owner.getD j none).map (j,·)).map (·.2)=owner.toList.filterMap id:=by
 rw [← live_snd owner.toList 0,Array.length_toList,h,← List.range_eq_range']
 congr 1
 have:((List.range M).zip owner.toList)=(List.range M).map fun j=>(j,owner.getD j none):=by
  apply List.ext_getElem?
  intro i
  rw [List.getElem?_map]
  by_cases hi:i < M
  ·rw [List.getElem?_range hi]
   have e:((List.range M).zip owner.toList)[i]? = some (i,owner.getD i none):=by
    rw [List.getElem?_zip_eq_some]
    refine ⟨List.getElem?_range hi,?_⟩
    rw [Array.getD_eq_getD_getElem?,← Array.getElem?_toList,List.getElem?_eq_getElem (by rw [Array.length_toList,h];exact hi)];rfl
   rw [e];rfl
  ·rw [List.getElem?_eq_none (by rw [List.length_zip,List.length_range];omega),List.getElem?_eq_none (by rw [List.length_range];omega)];rfl
 rw [this,List.filterMap_map];rfl
theorem laid_ok {mask finger moves:Nat}{led plain:Bool}{hashes:Array Int} (hM:mask + 1∈sizes) (hn:hashes.size≤mask) :
  ∃ t order,SetTable.laid mask finger moves led plain hashes=some (t,order)∧order.toList.Perm (List.range hashes.size)∧t.fits hashes.size=true∧t.led=led∧t.mask=mask:=by
 obtain ⟨o,f1,f2,f3⟩:=layClean_ok hM hn
 have e:=live_eq f2
 refine ⟨_,_,(by unfold SetTable.laid;rw [f1];rfl),?_,?_,rfl,rfl⟩
 ·dsimp only
  rw [e];exact f3
 ·have len:(((List.range (mask + 1)).filterMap fun j=>(o.getD j none).map (j,·))).length=hashes.size:=by
   have:=congrArg List.length e
   rw [List.length_map,f3.length_eq,List.length_range] at this;exact this
  unfold SetTable.fits SetTable.fill
  simp only [List.size_toArray,List.length_map,len,Array.size_empty,Nat.add_zero,beq_self_eq_true,Bool.true_and]
  exact decide_eq_true hn
theorem layNew_led (t:SetTable) (es:Array (Int×Value)) (h:Int) (x:Value):(layNew t es h x).2.1.led=t.led:=by
 unfold layNew
 split
 ·dsimp only
  unfold SetTable.orStandIn
  split <;> rfl
 ·rfl
theorem laid_led {mask finger moves:Nat}{led plain:Bool}{hashes:Array Int}{r:SetTable×Array Nat} (h:SetTable.laid mask finger moves led plain hashes=some r):r.1.led=led:=by
 unfold SetTable.laid at h
 cases hc:SetTable.layClean mask hashes with
 | none=>rw [hc] at h;cases h
 | some o=>rw [hc] at h;cases h;rfl
theorem relayAll_led (t:SetTable) (es:Array (Int×Value)) (wanted:Nat):(relayAll t es wanted).2.1.led=t.led:=by
 unfold relayAll
 split
 ·rename_i t' order h
  dsimp only
  split
  ·exact laid_led h
  ·rfl
 ·rfl
def Tl (t:SetTable) (led:Bool):Prop:=t.led=led∧Rs t
theorem layNew_tl {t:SetTable}{led:Bool} (es:Array (Int×Value)) (h:Int) (x:Value) (hl:Tl t led):Tl (layNew t es h x).2.1 led:=⟨(layNew_led t es h x).trans hl.1,hl.2.layNew es h x⟩
theorem relayAll_tl {t:SetTable}{led:Bool} (es:Array (Int×Value)) (wanted:Nat) (hl:Tl t led):Tl (relayAll t es wanted).2.1 led:=⟨(relayAll_led t es wanted).trans hl.1,Rs.relayAll es wanted⟩
section
variable {prog:Program}{w:World}{K:Type} [DecidableEq K] (knd:KeyKind prog w K)
structure Full (S:K→Bool) (led:Bool) (es:Array (Int×Value)) (t:SetTable):Prop where
 el:ElemsOf knd es.toList
 me:∀ k,S k=true↔∃ e∈es.toList,knd.is k e.2=true
 bd:es.size < scanBound
 ft:t.fits es.size=true
 tl:Tl t led
def SetL (h:Heap) (a:Addr) (S:K→Bool) (n:Nat) (led:Bool):Prop:=
 ∃ o es ep t,h.get? a=some o∧o.ExactSet∧o.data=.set es ep t∧ElemsOf knd es.toList∧(∀ k,S k=true↔∃ e∈es.toList,knd.is k e.2=true)
  ∧ es.size < scanBound∧t.fits es.size=true∧es.size=n∧Tl t led
variable {knd}
variable {A:Around}{E:Value→Shared→Prop}{s:Shared}{led:Bool}
theorem Full.perm {S:K→Bool}{es es':Array (Int×Value)}{t t':SetTable} (f:Full knd S led es t) (p:es'.toList.Perm es.toList) (hf:t'.fits es'.size=true) (hl:Tl t' led):Full knd S led es' t' where
 el:=f.el.perm p
 me:=fun k=>(f.me k).trans ⟨fun ⟨e,m,q⟩=>⟨e,p.mem_iff.mpr m,q⟩,fun ⟨e,m,q⟩=>⟨e,p.mem_iff.mp m,q⟩⟩
 bd:=by
  have:=p.length_eq
  rw [Array.length_toList,Array.length_toList] at this
  rw [this];exact f.bd
 ft:=hf
 tl:=hl
theorem SetL_store {h:Heap}{a:Addr}{o:Obj}{es:Array (Int×Value)}{ep:Nat}{t:SetTable} (ho:h.get? a=some o) (hex:o.ExactSet) (hd:o.data=.set es ep t)
  {es':Array (Int×Value)}{t':SetTable}{S':K→Bool} (hel:ElemsOf knd es'.toList) (hmem:∀ k,S' k=true↔∃ e∈es'.toList,knd.is k e.2=true) (hb:es'.size < scanBound) (hf:t'.fits es'.size=true) (hl:Tl t' led) :
  (h.update a (Obj.putSet es' t')).get? a=some { o with data:=.set es' (ep + 1) t' }∧SetL knd (h.update a (Obj.putSet es' t')) a S' es'.size led:=by
 obtain ⟨hg,_⟩:=SetOf_store (knd:=knd) ho hex hd hel hmem hb hf
 exact ⟨hg,_,es',ep + 1,t',hg,hex,rfl,hel,hmem,hb,hf,rfl,hl⟩
theorem stored {a:Addr}{o:Obj}{es:Array (Int×Value)}{ep:Nat}{t:SetTable}{es':Array (Int×Value)}{t':SetTable}{S':K→Bool}{Q:Unit→Shared→Prop} (ho:s.heap.get? a=some o) (hex:o.ExactSet) (hd:o.data=.set es ep t) (f:Full knd S' led es' t')
  (h:∀ h',Heap.SameBut a s.heap h'→h'.get? a=some { o with data:=.set es' (ep + 1) t' }→SetL knd h' a S' es'.size led→Q () { s with heap:=h' }):wpAny (model prog w) A (storeSet a es' t') Q E s:=by
 obtain ⟨q1,q2⟩:=SetL_store (knd:=knd) (led:=led) ho hex hd f.el f.me f.bd f.ft f.tl
 exact wpAny_storeSet_of ho hd (h _ (Heap.SameBut.update s.heap a _) q1 q2) (fits_of_scanBound f.bd)
theorem addHashed {a:Addr}{S:K→Bool}{n:Nat}{k:K}{x:Value}{Q:Bool→Shared→Prop} (hk:knd.is k x=true) (hx:x.scannable=true) (hS:SetL knd s.heap a S n led) (hn:n + 1 < scanBound)
  (h:∀ h',Heap.SameBut a s.heap h'→SetL knd h' a (fun k'=>S k'||decide (k'=k)) (if S k then n else n + 1) led→Q (!S k) { s with heap:=h' }):wpAny (model prog w) A (setAddHashed a x (knd.hash k)) Q E s:=by
 obtain ⟨o,es,ep,t,ho,hex,hd,hel,hmem,hb,hf,rfl,hl⟩:=id hS
 unfold setAddHashed setAddHashedIn
 refine wpAny_holding (wpAny_bind (wpAny_setState_of ho hd hf ?_))
 dsimp only
 rw [byScan_of hx hb hel,if_pos rfl]
 unfold setAddByScan
 refine wpAny_bind (wpAny_bind (wpAny_rule (wpAny_bind (wpAny_setScan_of hk ho hd hf hel ?_))))
 cases hr:List.findIdx? (fun e=>knd.is k e.2) es.toList with
 | some j=>
  obtain ⟨hj,hpj,_⟩:=List.findIdx?_eq_some_iff_getElem.mp hr
  have there:S k=true:=(hmem k).mpr ⟨_,List.getElem_mem hj,hpj⟩
  have sameS:(fun k'=>S k'||decide (k'=k))=S:=funext fun k'=>by
   by_cases e:k'=k
   ·rw [e,there];rfl
   ·simp [e]
  have q:=h s.heap (Heap.SameBut.refl a s.heap)
  rw [there,if_pos rfl,sameS] at q
  exact wpAny_pure (wpAny_pure (q hS))
 | none=>
  have away:S k=false:=Bool.eq_false_iff.mpr fun q=>by
   obtain ⟨e,m,p⟩:=(hmem k).mp q
   exact absurd p (by rw [List.findIdx?_eq_none_iff.mp hr e m];exact Bool.false_ne_true)
  have q:=h
  rw [away,if_neg Bool.false_ne_true] at q
  have p1:=layNew_perm t es (knd.hash k) x
  have p2:=layNew_fits t es (knd.hash k) x
  have p3:=layNew_tl es (knd.hash k) x hl
  dsimp only
  revert p1 p2 p3
  generalize layNew t es (knd.hash k) x=L
  obtain ⟨es1,t1,dm,gave⟩:=L
  intro p1 p2 p3
  dsimp only at p1 p2 p3 ⊢
  rw [Array.toList_push] at p1
  have z1:es1.size=es.size + 1:=by
   have:=p1.length_eq
   rw [List.length_append,Array.length_toList,Array.length_toList] at this
   exact this
  have f1:∀ b:Bool,Full knd (fun k'=>S k'||decide (k'=k)) led es1 (if b then t1 else { t1 with plain:=false }):=fun b=>by
   refine ⟨(hel.push hk hx).perm p1,mem_push_iff hk hmem p1,by rw [z1];exact hn,?_,?_⟩
   ·cases b
    ·exact SetTable.fits_plain_off p2
    ·exact p2
   ·cases b <;> exact p3
  have say:∀ (b:Bool) (s1:Shared) (R:Unit→Shared→Prop),R () s1→wpAny (model prog w) A (match b with | true=>rule "set.scan.the-table-gave-way" | false=>pure ()) R E s1:=fun b s1 R r=>by
   cases b
   ·exact wpAny_pure r
   ·exact wpAny_rule r
  refine wpAny_bind (say gave _ _ ?_)
  have tail:∀ t2:SetTable,Full knd (fun k'=>S k'||decide (k'=k)) led es1 t2→wpAny (model prog w) A (do
    storeSet a es1 t2
    if (!dm&&t2.tooFull)=true then do
     (match (relayAll t2 es1 (SetTable.grown es1.size)).2.2 with | true=>rule "set.scan.the-table-gave-way" | false=>pure ())
     storeSet a (relayAll t2 es1 (SetTable.grown es1.size)).1 (relayAll t2 es1 (SetTable.grown es1.size)).2.1
     pure (some true)
    else pure (some true)) (fun r s'=>r=some true∧Q true s') E s:=fun t2 f2=>by
   refine wpAny_bind (stored ho hex hd f2 fun h1 sb1 g1 S1=>?_)
   by_cases tf:(!dm&&t2.tooFull)=true
   ·rw [if_pos tf]
    have r1:=relayAll_perm t2 es1 (SetTable.grown es1.size)
    have r2:=relayAll_fits t2 es1 (SetTable.grown es1.size)
    have r3:=relayAll_tl es1 (SetTable.grown es1.size) f2.tl
    refine wpAny_bind (say _ _ _ ?_)
    refine wpAny_bind (stored g1 hex rfl (f2.perm r1 r2 r3) fun h2 sb2 _ S2=>?_)
    have z2:=r1.length_eq
    rw [Array.length_toList,Array.length_toList] at z2
    rw [z2,z1] at S2
    exact wpAny_pure ⟨rfl,q h2 (sb1.trans sb2) S2⟩
   ·rw [if_neg tf]
    rw [z1] at S1
    exact wpAny_pure ⟨rfl,q h1 sb1 S1⟩
  split
  ·refine wpAny_bind ?_
   rw [hashByValue_scannable 8 hx]
   refine wpAny_pure (wpAny_mono (tail _ (f1 _)) (fun r s' hr=>?_) fun _ _ e=>e)
   obtain ⟨rfl,hr⟩:=hr
   exact wpAny_pure hr
  ·refine wpAny_bind (wpAny_pure (wpAny_mono (tail _ (f1 true)) (fun r s' hr=>?_) fun _ _ e=>e))
   obtain ⟨rfl,hr⟩:=hr
   exact wpAny_pure hr
end
theorem above_all:(List.range 512).all (fun w=>sizes.contains (SetTable.sizeAbove w)&&decide (w < SetTable.sizeAbove w))=true:=by decide +kernel
theorem above {w:Nat} (h:w < 512):SetTable.sizeAbove w∈sizes∧w < SetTable.sizeAbove w:=by
 have:=List.all_eq_true.mp above_all w (List.mem_range.mpr h)
 obtain ⟨h1,h2⟩:=(Bool.and_eq_true _ _).mp this
 exact ⟨by simpa using h1,of_decide_eq_true h2⟩
theorem order_perm {α:Type}{es:Array α}{order:Array Nat} (h:order.toList.Perm (List.range es.size)):(order.filterMap (es[·]?)).toList.Perm es.toList:=by
 rw [Array.toList_filterMap]
 refine (h.filterMap _).trans ?_
 rw [filterMap_getElem?_range]
section
variable {prog:Program}{w:World}{K:Type} [DecidableEq K] {knd:KeyKind prog w K}
variable {A:Around}{E:Value→Shared→Prop}{s:Shared}{led:Bool}
theorem roomFor_ok {a:Addr}{S:K→Bool}{n more:Nat}{Q:Unit→Shared→Prop} (hS:SetL knd s.heap a S n led) (hm:n + more < 256)
  (h:∀ h',Heap.SameBut a s.heap h'→SetL knd h' a S n led→Q () { s with heap:=h' }):wpAny (model prog w) A (setRoomFor a more) Q E s:=by
 obtain ⟨o,es,ep,t,ho,hex,hd,hel,hmem,hb,hf,hn,hl⟩:=id hS
 unfold setRoomFor
 refine wpAny_bind (wpAny_setState_of ho hd hf ?_)
 have hpl:t.place.size=es.size:=by
  have:=hf
  unfold SetTable.fits at this
  exact beq_iff_eq.mp ((Bool.and_eq_true _ _).mp this).1
 dsimp only
 cases hr:t.roomFor more with
 | none=>
  have e:s={ s with heap:=s.heap }:=by cases s;rfl
  refine wpAny_pure ?_
  rw [e]
  exact h s.heap (Heap.SameBut.refl a s.heap) hS
 | some wanted=>
  have hw:wanted=(es.size + more) * 2:=by
   unfold SetTable.roomFor at hr
   split at hr
   ·rw [← hpl];exact (Option.some.inj hr).symm
   ·cases hr
  obtain ⟨a1,a2⟩:=above (w:=wanted) (by omega)
  have hsz:SetTable.sizeAbove wanted≤512:=by
   have:∀ x∈sizes,x≤512:=by decide
   exact this _ a1
  have hM:SetTable.sizeAbove wanted - 1 + 1=SetTable.sizeAbove wanted:=by omega
  obtain ⟨t',order,f1,f2,f3,f4,f5⟩:=laid_ok (finger:=t.finger) (moves:=t.movedTo (SetTable.sizeAbove wanted - 1)) (led:=t.led) (plain:=t.plain) (hashes:=es.map (·.1)) (mask:=SetTable.sizeAbove wanted - 1) (by rw [hM];exact a1) (by rw [Array.size_map];omega)
  rw [Array.size_map] at f2 f3
  have hp:=order_perm f2
  have hps:(order.filterMap (es[·]?)).size=es.size:=by rw [← Array.length_toList,hp.length_eq,Array.length_toList]
  unfold setRelay
  refine wpAny_bind (wpAny_setState_of ho hd hf ?_)
  dsimp only
  rw [if_neg (by unfold sizeLine;omega)]
  have fr:t.relaid (es.map (·.1)) wanted=some (t',order):=f1
  refine wpAny_bind ?_
  rw [fr]
  refine wpAny_of_eq (a:=(order.filterMap (es[·]?),t')) ?_ ?_
  ·show (if ((order.filterMap (es[·]?)).size != es.size)=true then _ else pure (order.filterMap (es[·]?),t'))=_
   rw [if_neg (by rw [hps];simp)]
  ·dsimp only
   refine wpAny_storeSet_of ho hd ?_ (by rw [hps];exact fits_of_scanBound hb)
   obtain ⟨_,hS'⟩:=SetL_store (knd:=knd) (led:=led) ho hex hd (es':=order.filterMap (es[·]?)) (t':=t') (S':=S) (hel.perm hp) (fun k'=>(hmem k').trans ⟨fun ⟨e,he,q⟩=>⟨e,hp.mem_iff.mpr he,q⟩,fun ⟨e,he,q⟩=>⟨e,hp.mem_iff.mp he,q⟩⟩) (by rw [hps];exact hb) (by rw [hps];exact f3) ⟨f4.trans hl.1,laid_rs f1⟩
   rw [hps,hn] at hS'
   exact h _ (Heap.SameBut.update s.heap a _) hS'
end
theorem laid_more {mask finger moves:Nat}{led plain:Bool}{hashes:Array Int}{r:SetTable×Array Nat} (h:SetTable.laid mask finger moves led plain hashes=some r):r.1.dummies=#[]∧r.1.mask=mask:=by
 unfold SetTable.laid at h
 cases hc:SetTable.layClean mask hashes with
 | none=>rw [hc] at h;cases h
 | some o=>rw [hc] at h;cases h;exact ⟨rfl,rfl⟩
structure Bare (t:SetTable) (led:Bool) (more:Nat):Prop where
 pl:t.place=#[]
 du:t.dummies=#[]
 ms:t.mask + 1∈sizes
 ld:t.led=led
 rm:more≤t.mask
theorem Bare.tl {t:SetTable}{led:Bool}{more:Nat} (b:Bare t led more):Tl t led:=⟨b.ld,by rw [b.pl];exact List.Pairwise.nil,b.du⟩
theorem Bare.fits {t:SetTable}{led:Bool}{more:Nat} (b:Bare t led more):t.fits 0=true:=by
 unfold SetTable.fits SetTable.fill
 rw [b.pl,b.du];simp
section
variable {prog:Program}{w:World}{K:Type} [DecidableEq K] {knd:KeyKind prog w K}
variable {A:Around}{E:Value→Shared→Prop}{s:Shared}{led:Bool}
theorem room_bare {a:Addr}{o:Obj}{ep:Nat}{t:SetTable}{more:Nat}{Q:Unit→Shared→Prop} (ho:s.heap.get? a=some o) (hex:o.ExactSet) (hd:o.data=.set #[] ep t) (hb:Bare t led 0) (hm:more < 256)
  (h:∀ h' o' ep' t',Heap.SameBut a s.heap h'→h'.get? a=some o'→o'.ExactSet→o'.data=.set #[] ep' t'→Bare t' led more→Q () { s with heap:=h' }):wpAny (model prog w) A (setRoomFor a more) Q E s:=by
 have hf:t.fits (#[]:Array (Int×Value)).size=true:=hb.fits
 unfold setRoomFor
 refine wpAny_bind (wpAny_setState_of ho hd hf ?_)
 dsimp only
 cases hr:t.roomFor more with
 | none=>
  have e:s={ s with heap:=s.heap }:=by cases s;rfl
  refine wpAny_pure ?_
  rw [e]
  refine h s.heap o ep t (Heap.SameBut.refl a s.heap) ho hex hd ⟨hb.pl,hb.du,hb.ms,hb.ld,?_⟩
  unfold SetTable.roomFor SetTable.fill at hr
  rw [hb.pl,hb.du] at hr
  split at hr
  ·cases hr
  ·rename_i hn
   simp at hn
   omega
 | some wanted=>
  have hw:wanted=more * 2:=by
   unfold SetTable.roomFor at hr
   rw [hb.pl] at hr
   split at hr
   ·have:=(Option.some.inj hr).symm
    simpa using this
   ·cases hr
  obtain ⟨a1,a2⟩:=above (w:=wanted) (by omega)
  have hsz:SetTable.sizeAbove wanted≤512:=by
   have:∀ x∈sizes,x≤512:=by decide
   exact this _ a1
  have hM:SetTable.sizeAbove wanted - 1 + 1=SetTable.sizeAbove wanted:=by omega
  obtain ⟨t',order,f1,f2,f3,f4,f5⟩:=laid_ok (finger:=t.finger) (moves:=t.movedTo (SetTable.sizeAbove wanted - 1)) (led:=t.led) (plain:=t.plain) (hashes:=(#[]:Array (Int×Value)).map (·.1)) (mask:=SetTable.sizeAbove wanted - 1) (by rw [hM];exact a1) (by simp)
  obtain ⟨m1,m2⟩:=laid_more f1
  have fr:t.relaid ((#[]:Array (Int×Value)).map (·.1)) wanted=some (t',order):=f1
  have oe:order=#[]:=by
   have:order.toList.Perm []:=by simpa using f2
   have:=this.eq_nil
   exact Array.toList_eq_nil_iff.mp this
  subst oe
  have pe:t'.place=#[]:=by
   have:=f3
   unfold SetTable.fits at this
   have q:=beq_iff_eq.mp ((Bool.and_eq_true _ _).mp this).1
   exact Array.eq_empty_of_size_eq_zero (by simpa using q)
  unfold setRelay
  refine wpAny_bind (wpAny_setState_of ho hd hf ?_)
  dsimp only
  rw [if_neg (by unfold sizeLine;omega)]
  refine wpAny_bind ?_
  rw [fr]
  refine wpAny_of_eq (a:=((#[]:Array (Int×Value)),t')) ?_ ?_
  ·rfl
  ·dsimp only
   refine wpAny_storeSet_of ho hd ?_ (by unfold sizeLine;simp)
   have hg:(s.heap.update a (Obj.putSet #[] t')).get? a=some { o with data:=.set #[] (ep + 1) t' }:=by
    have:=Heap.get?_update_self (Obj.putSet #[] t') ho (by rw [putSet_of #[] t' hd];rfl)
    rw [putSet_of #[] t' hd] at this;exact this
   exact h _ _ (ep + 1) t' (Heap.SameBut.update s.heap a _) hg hex rfl ⟨pe,m1,by rw [m2,hM];exact a1,f4.trans hb.ld,by rw [m2];omega⟩
theorem merge_bare {r b:Addr}{o:Obj}{ep:Nat}{t:SetTable}{S:K→Bool}{n:Nat}{each:Sem Unit}{Q:Unit→Shared→Prop} (hne:r≠b) (ho:s.heap.get? r=some o) (hex:o.ExactSet) (hd:o.data=.set #[] ep t) (hb:Bare t led 0)
  (hS:SetL knd s.heap b S n led) (hn:n < 256) (h:∀ h',Heap.SameBut r s.heap h'→SetL knd h' r S n led→Q () { s with heap:=h' }):wpAny (model prog w) A (setMerge r b each) Q E s:=by
 obtain ⟨o2,es,ep2,t2,ho2,hex2,hd2,hel,hmem,hbd,hf2,hn2,hl2⟩:=id hS
 unfold setMerge
 rw [if_neg (by simpa using hne)]
 refine wpAny_bind (wpAny_setState_of ho2 hd2 hf2 ?_)
 dsimp only
 by_cases he:es.isEmpty=true
 ·rw [if_pos he]
  have e:s={ s with heap:=s.heap }:=by cases s;rfl
  have es0:es=#[]:=by simpa using he
  refine wpAny_pure ?_
  rw [e]
  refine h s.heap (Heap.SameBut.refl r s.heap) ⟨o,#[],ep,t,ho,hex,hd,fun e he=>by simp at he,?_,by decide,hb.fits,?_,hb.tl⟩
  ·intro k;rw [hmem k,es0]
  ·rw [← hn2,es0]
 ·rw [if_neg he]
  refine wpAny_bind (room_bare ho hex hd hb (by omega) fun h' o' ep' t' sb ho' hex' hd' hb'=>?_)
  have hf':t'.fits (#[]:Array (Int×Value)).size=true:=hb'.fits
  refine wpAny_bind (wpAny_setState_of ho' hd' hf' ?_)
  dsimp only
  have fin:∀ (es':Array (Int×Value)) (t'':SetTable),es'.toList.Perm es.toList→t''.fits es'.size=true→Tl t'' led→wpAny (model prog w) A (storeSet r es' t'') Q E { s with heap:=h' }:=fun es' t'' hp hf'' hl''=>by
   have hps:es'.size=es.size:=by rw [← Array.length_toList,hp.length_eq,Array.length_toList]
   refine wpAny_storeSet_of ho' hd' ?_ (by rw [hps];exact fits_of_scanBound hbd)
   obtain ⟨_,hS'⟩:=SetL_store (knd:=knd) (led:=led) ho' hex' hd' (es':=es') (t':=t'') (S':=S) (hel.perm hp) (fun k'=>(hmem k').trans ⟨fun ⟨e,he,q⟩=>⟨e,hp.mem_iff.mpr he,q⟩,fun ⟨e,he,q⟩=>⟨e,hp.mem_iff.mp he,q⟩⟩) (by rw [hps];exact hbd) hf'' hl''
   rw [hps,hn2] at hS'
   exact h _ (sb.trans (Heap.SameBut.update _ r _)) hS'
  cases hrd:t'.road t2 with
  | slotForSlot=>
   dsimp only
   refine fin es _ (List.Perm.refl _) ?_ ?_
   ·exact hf2
   ·refine ⟨?_,hl2.2⟩
    show (t'.led&&t2.led)=led
    rw [hb'.ld,hl2.1,Bool.and_self]
  | clean=>
   dsimp only
   obtain ⟨t3,order,f1,f2,f3,f4,f5⟩:=laid_ok (finger:=t'.finger) (moves:=t'.moves) (led:=t'.led&&t2.led) (plain:=t'.plain&&t2.plain) (hashes:=es.map (·.1)) (mask:=t'.mask) hb'.ms (by rw [Array.size_map];exact hb'.rm)
   rw [Array.size_map] at f2 f3
   have hp:=order_perm f2
   have hps:(order.filterMap (es[·]?)).size=es.size:=by rw [← Array.length_toList,hp.length_eq,Array.length_toList]
   refine wpAny_bind ?_
   rw [f1]
   refine wpAny_of_eq (a:=(order.filterMap (es[·]?),t3)) ?_ ?_
   ·show (if ((order.filterMap (es[·]?)).size != es.size)=true then _ else pure (order.filterMap (es[·]?),t3))=_
    rw [if_neg (by rw [hps];simp)]
   ·dsimp only
    exact fin _ t3 hp (by rw [hps];exact f3) ⟨f4.trans (by rw [hb'.ld,hl2.1,Bool.and_self]),laid_rs f1⟩
  | oneByOne=>
   exfalso
   unfold SetTable.road SetTable.fill at hrd
   rw [hb'.pl,hb'.du] at hrd
   simp at hrd
   split at hrd <;> cases hrd
end
def byT (w:World):Bool:=w.params.followText "set-order"
theorem erase_perm {α:Type}:∀ {l:List α}{i:Nat} (h:i < l.length),(l[i]::l.eraseIdx i).Perm l
 | a::l,0,_=>List.Perm.refl _
 | a::l,i + 1,h=>by
  rw [List.getElem_cons_succ,List.eraseIdx_cons_succ]
  exact (List.Perm.swap _ _ _).trans ((erase_perm (Nat.lt_of_succ_lt_succ h)).cons a)
theorem pick_go {α:Type} (next:Nat→Nat):∀ (fuel k:Nat) (left:List α) (out:Array α),fuel=left.length→(pickOrder.go next fuel k left out).toList.Perm (out.toList++left)
 | 0,k,left,out,h=>by
  have:left=[]:=List.eq_nil_of_length_eq_zero h.symm
  subst this
  unfold pickOrder.go
  rw [List.append_nil]
 | fuel + 1,k,left,out,h=>by
  have hi:next k % left.length < left.length:=Nat.mod_lt _ (by omega)
  unfold pickOrder.go
  rw [List.getElem?_eq_getElem hi]
  dsimp only
  refine (pick_go next fuel (k + 1) _ _ (by rw [List.length_eraseIdx_of_lt hi];omega)).trans ?_
  rw [Array.toList_push,List.append_assoc]
  exact (erase_perm hi).append_left _
theorem pick_perm {α:Type} (next:Nat→Nat) (xs:Array α):(pickOrder next xs).toList.Perm xs.toList:=by
 have:=pick_go next xs.size 0 xs.toList #[] (by simp)
 unfold pickOrder
 simpa using this
def addK {K:Type} [DecidableEq K] (U:List K) (k:K):List K:=if k∈U then U else U++[k]
theorem mem_addK {K:Type} [DecidableEq K] {U:List K}{k j:K}:j∈addK U k↔j∈U∨j=k:=by
 unfold addK
 split
 ·rename_i h
  exact ⟨.inl,fun q=>q.elim id fun e=>e ▸ h⟩
 ·rw [List.mem_append,List.mem_singleton]
theorem nodup_addK {K:Type} [DecidableEq K] {U:List K}{k:K} (h:U.Nodup):(addK U k).Nodup:=by
 unfold addK
 split
 ·exact h
 ·rename_i n
  refine List.nodup_append.mpr ⟨h,by simp,fun a m b m' e=>?_⟩
  rw [List.mem_singleton.mp m'] at e
  exact n (e ▸ m)
theorem len_addK {K:Type} [DecidableEq K] {U:List K}{k:K}:(addK U k).length=if k∈U then U.length else U.length + 1:=by
 unfold addK
 split
 ·rfl
 ·rw [List.length_append];rfl
theorem len_addK_le {K:Type} [DecidableEq K] {U:List K}{k:K}:(addK U k).length≤U.length + 1:=by
 rw [len_addK];split <;> omega
section
variable {prog:Program}{w:World}{K:Type} [DecidableEq K] {knd:KeyKind prog w K}
variable {A:Around}{E:Value→Shared→Prop}{s:Shared}{led:Bool}
theorem w_byText {Q:Bool→Shared→Prop} (h:Q (byT w) s):wpAny (model prog w) A setsByText Q E s:=by
 unfold setsByText
 exact wpAny_bind (wpAny_askSetting (wpAny_pure h))
def SetU (knd:KeyKind prog w K) (h:Heap) (a:Addr) (U:List K) (led:Bool):Prop:=U.Nodup∧SetL knd h a (fun k=>decide (k∈U)) U.length led
theorem SetL.keep {h h':Heap}{a:Addr}{S:K→Bool}{n:Nat} (x:SetL knd h a S n led) (e:∀ o,h.get? a=some o→h'.get? a=some o):SetL knd h' a S n led:=by
 obtain ⟨o,es,ep,t,ho,r⟩:=x
 exact ⟨o,es,ep,t,e o ho,r⟩
theorem SetU.keep {h h':Heap}{a:Addr}{U:List K} (x:SetU knd h a U led) (e:∀ o,h.get? a=some o→h'.get? a=some o):SetU knd h' a U led:=⟨x.1,x.2.keep e⟩
theorem addU {a:Addr}{U:List K}{k:K}{x:Value}{Q:Bool→Shared→Prop} (hk:knd.is k x=true) (hx:x.scannable=true) (hS:SetU knd s.heap a U led) (hn:U.length + 1 < scanBound)
  (h:∀ b h',Heap.SameBut a s.heap h'→SetU knd h' a (addK U k) led→Q b { s with heap:=h' }):wpAny (model prog w) A (setAddHashed a x (knd.hash k)) Q E s:=by
 refine addHashed hk hx hS.2 hn fun h' sb q=>h _ h' sb ⟨nodup_addK hS.1,?_⟩
 have e1:(fun k'=>decide (k'∈U)||decide (k'=k))=fun k'=>decide (k'∈addK U k):=funext fun k'=>by
  rw [Bool.eq_iff_iff,Bool.or_eq_true,decide_eq_true_eq,decide_eq_true_eq,decide_eq_true_eq,mem_addK]
 have e2:(if decide (k∈U)=true then U.length else U.length + 1)=(addK U k).length:=by
  rw [len_addK]
  by_cases q:k∈U
  ·rw [if_pos q,if_pos (decide_eq_true q)]
  ·rw [if_neg q,if_neg (by simpa using q)]
 rw [e1,e2] at q
 exact q
theorem quiet {a b:Addr}{oa ob:Obj}{ea eb:Array (Int×Value)}{pa pb:Nat}{ta tb:SetTable}{Q:Bool→Shared→Prop} (ha:s.heap.get? a=some oa) (da:oa.data=.set ea pa ta) (fa:ta.fits ea.size=true) (la:ElemsOf knd ea.toList)
  (hb:s.heap.get? b=some ob) (db:ob.data=.set eb pb tb) (fb:tb.fits eb.size=true) (lb:ElemsOf knd eb.toList) (h:Q true s):wpAny (model prog w) A (setsQuiet [a,b]) Q E s:=by
 have one:∀ (c:Addr) (oc:Obj) (ec:Array (Int×Value)) (pc:Nat) (tc:SetTable) (R:Array (Int×Value)→Shared→Prop),s.heap.get? c=some oc→oc.data=.set ec pc tc→tc.fits ec.size=true→R ec s→wpAny (model prog w) A (setEntries c) R E s:=fun c oc ec pc tc R hc dc fc r=>by
  unfold setEntries
  exact wpAny_bind (wpAny_setState_of hc dc fc (wpAny_pure r))
 unfold setsQuiet
 refine wpAny_bind ?_
 refine wpAny_forIn_list _ (fun rest st s'=>s'=s∧st=⟨none,⟨⟩⟩∧∀ c∈rest,c=a∨c=b) _ ?_ ?_ _ _ ⟨rfl,rfl,fun c m=>by simpa using m⟩
 ·rintro c rest st s' ⟨rfl,rfl,hc⟩
  have hc0:=hc c List.mem_cons_self
  have hrest:∀ c∈rest,c=a∨c=b:=fun c m=>hc c (List.mem_cons_of_mem _ m)
  obtain ⟨oc,ec,pc,tc,gc,dc,fc,lc⟩:∃ (oc:Obj) (ec:Array (Int×Value)) (pc:Nat) (tc:SetTable),s'.heap.get? c=some oc∧oc.data=.set ec pc tc∧tc.fits ec.size=true∧ElemsOf knd ec.toList:=by
   rcases hc0 with rfl | rfl
   ·exact ⟨_,_,_,_,ha,da,fa,la⟩
   ·exact ⟨_,_,_,_,hb,db,fb,lb⟩
  refine wpAny_bind (one c oc ec pc tc _ gc dc fc ?_)
  rw [← Array.forIn_toList]
  refine wpAny_bind (wpAny_forIn_list _ (fun rest st s1=>s1=s'∧st=(none,())∧∀ e∈rest,e.2.scannable=true) _ ?_ ?_ _ _ ⟨rfl,rfl,fun e m=>(lc e m).2⟩)
  ·rintro ⟨hh,x⟩ rest st s1 ⟨rfl,rfl,hx⟩
   have hx0:x.scannable=true:=hx _ List.mem_cons_self
   cases x <;> first | exact wpAny_pure ⟨rfl,rfl,fun e m=>hx e (List.mem_cons_of_mem _ m)⟩ | cases hx0
  ·rintro st s1 ⟨rfl,rfl,_⟩
   exact wpAny_pure ⟨rfl,rfl,hrest⟩
 ·rintro st s' ⟨rfl,rfl,_⟩
  exact wpAny_pure h
theorem walkUnseen {o r:Addr}{oo or':Obj}{eo er:Array (Int×Value)}{po pr:Nat}{to tr:SetTable}{S:K→Bool}{Q:Array (Int×Value)→Shared→Prop} (hne:r≠o) (ho:s.heap.get? o=some oo) (hdo:oo.data=.set eo po to) (hfo:to.fits eo.size=true) (hlo:ElemsOf knd eo.toList) (tlo:Tl to (!byT w))
  (hr:s.heap.get? r=some or') (hxr:or'.ExactSet) (hdr:or'.data=.set er pr tr) (fr:Full knd S (!byT w) er tr)
  (h:∀ h' L,Heap.SameBut r s.heap h'→SetL knd h' r S er.size (!byT w)→L.toList.Perm eo.toList→Q L { s with heap:=h' }):wpAny (model prog w) A (setWalkUnseen o [r] (some r)) Q E s:=by
 have e0:s={ s with heap:=s.heap }:=by cases s;rfl
 have same:∀ L:Array (Int×Value),L.toList.Perm eo.toList→Q L s:=fun L p=>by
  rw [e0]
  exact h s.heap L (Heap.SameBut.refl r s.heap) ⟨or',er,pr,tr,hr,hxr,hdr,fr.el,fr.me,fr.bd,fr.ft,rfl,fr.tl⟩ p
 unfold setWalkUnseen
 refine wpAny_bind (wpAny_setState_of ho hdo hfo ?_)
 dsimp only
 refine wpAny_bind (w_byText ?_)
 by_cases c1:(byT w||(to.led&&to.plain)||decide (eo.size≤1))=true
 ·rw [if_pos c1]
  unfold setWalk
  refine wpAny_bind (wpAny_setState_of ho hdo hfo ?_)
  dsimp only
  refine wpAny_bind (w_byText ?_)
  cases hb:byT w with
  | true=>
   rw [if_pos rfl]
   refine wpAny_bind (wpAny_askSetting (wpAny_pure (same _ (pick_perm _ _))))
  | false=>
   rw [if_neg Bool.false_ne_true]
   rw [hb] at c1 tlo
   have hled:to.led=true:=tlo.1
   rw [hled] at c1
   have c2:(!to.plain&&decide (eo.size > 1))=false:=by
    by_cases q:eo.size≤1
    ·rw [decide_eq_false (by omega),Bool.and_false]
    ·rw [decide_eq_false q] at c1
     have c1:to.plain=true:=by simpa using c1
     rw [c1];rfl
   show wpAny _ _ (ite ((!to.plain&&decide (eo.size > 1))=true) _ _) _ _ _
   rw [if_neg (by rw [c2];exact Bool.false_ne_true)]
   show wpAny _ _ ((ite ((!to.led&&decide (eo.size > 1))=true) _ _) >>= _) _ _ _
   rw [if_neg (by rw [hled];exact Bool.false_ne_true)]
   exact wpAny_bind (wpAny_pure (wpAny_pure (same _ (List.Perm.refl _))))
 ·rw [if_neg c1]
  refine wpAny_bind (quiet (knd:=knd) ho hdo hfo hlo hr hdr fr.ft fr.el ?_)
  show wpAny _ _ (ite ((!true)=true) _ _) _ _ _
  rw [if_neg (show ¬ (!true)=true from Bool.false_ne_true)]
  refine wpAny_bind (wpAny_rule ?_)
  refine wpAny_bind (wpAny_setState_of hr hdr fr.ft ?_)
  dsimp only
  split
  ·refine wpAny_bind (stored hr hxr hdr (fr.perm (List.Perm.refl _) (t':={ tr with led:=tr.led&&to.led,plain:=tr.plain&&to.plain }) fr.ft ⟨?_,fr.tl.2⟩) fun h' sb _ S'=>wpAny_pure (h h' _ sb S' (List.Perm.refl _)))
   show (tr.led&&to.led)=_
   rw [fr.tl.1,tlo.1,Bool.and_self]
  ·exact wpAny_pure (same _ (List.Perm.refl _))
theorem merge_full {r b:Addr}{U V:List K}{each:Sem Unit}{Q:Unit→Shared→Prop} (hne:r≠b) (hR:SetU knd s.heap r U (!byT w)) (h0:U≠[]) (hB:SetU knd s.heap b V (!byT w)) (hn:U.length + V.length < 256)
  (he:∀ (o:Obj) (s':Shared) (R:Unit→Shared→Prop),s.heap.get? b=some o→s'.heap.get? b=some o→R () s'→wpAny (model prog w) A each R E s')
  (h:∀ h' U',Heap.SameBut r s.heap h'→SetU knd h' r U' (!byT w)→(∀ k,k∈U'↔k∈U∨k∈V)→U'.length≤U.length + V.length→Q () { s with heap:=h' }):wpAny (model prog w) A (setMerge r b each) Q E s:=by
 obtain ⟨nU,o1,e1,p1,t1,ho1,hx1,hd1,hl1,hm1,hb1,hf1,hn1,tl1⟩:=id hR
 obtain ⟨nV,o2,e2,p2,t2,ho2,hx2,hd2,hl2,hm2,hb2,hf2,hn2,tl2⟩:=id hB
 unfold setMerge
 rw [if_neg (by simpa using hne)]
 refine wpAny_bind (wpAny_setState_of ho2 hd2 hf2 ?_)
 dsimp only
 by_cases c:e2.isEmpty=true
 ·rw [if_pos c]
  have e0:s={ s with heap:=s.heap }:=by cases s;rfl
  have v0:V=[]:=by
   have:e2=#[]:=by simpa using c
   rw [this] at hn2
   exact List.eq_nil_of_length_eq_zero hn2.symm
  refine wpAny_pure ?_
  rw [e0]
  exact h s.heap U (Heap.SameBut.refl r s.heap) hR (fun k=>by rw [v0];simp) (by omega)
 ·rw [if_neg c]
  refine wpAny_bind (roomFor_ok hR.2 (by omega) fun h1 sb1 R1=>?_)
  obtain ⟨o3,e3,p3,t3,ho3,hx3,hd3,hl3,hm3,hb3,hf3,hn3,tl3⟩:=id R1
  refine wpAny_bind (wpAny_setState_of ho3 hd3 hf3 ?_)
  dsimp only
  have g2:h1.get? b=some o2:=(sb1.2 b (Ne.symm hne)).trans ho2
  have rd:t3.road t2=.oneByOne:=by
   have z:t3.place.size=e3.size:=by
    have:=hf3
    unfold SetTable.fits at this
    exact beq_iff_eq.mp ((Bool.and_eq_true _ _).mp this).1
   have z2:0 < U.length:=List.length_pos_iff.mpr h0
   unfold SetTable.road SetTable.fill
   rw [if_pos (by rw [z,hn3];simp;intro q;exact absurd q h0)]
  rw [rd]
  dsimp only
  refine wpAny_bind (walkUnseen (knd:=knd) (S:=fun k=>decide (k∈U)) hne g2 hd2 hf2 hl2 tl2 ho3 hx3 hd3 ⟨hl3,hm3,hb3,hf3,tl3⟩ fun h2 L sb2 R2 pL=>?_)
  rw [← Array.forIn_toList]
  have g3:h2.get? b=some o2:=(sb2.2 b (Ne.symm hne)).trans g2
  rw [hn3] at R2
  have keyOf:∀ e∈L.toList,∃ k,knd.is k e.2=true∧e.1=knd.hash k∧e.2.scannable=true∧k∈V:=fun e m=>by
   have m2:=pL.mem_iff.mp m
   obtain ⟨⟨k,q1,q2⟩,q3⟩:=hl2 e m2
   exact ⟨k,q1,q2,q3,of_decide_eq_true ((hm2 k).mpr ⟨e,m2,q1⟩)⟩
  refine wpAny_bind (wpAny_mono (wpAny_forIn_list _ (fun rest _ s'=>∃ h' U',s'={ s with heap:=h' }∧Heap.SameBut r s.heap h'∧SetU knd h' r U' (!byT w)∧U'.length + rest.length≤U.length + V.length∧(∀ k∈U',k∈U∨k∈V)∧(∀ k∈U,k∈U')∧(∀ e∈rest,e∈L.toList)∧(∀ e∈L.toList,e∈rest∨∃ k∈U',knd.is k e.2=true))
   (fun _ s'=>∃ h' U',s'={ s with heap:=h' }∧Heap.SameBut r s.heap h'∧SetU knd h' r U' (!byT w)∧U'.length≤U.length + V.length∧(∀ k,k∈U'↔k∈U∨k∈V)) ?_ ?_ _ _ ⟨h2,U,rfl,sb1.trans sb2,⟨nU,R2⟩,?_,fun k m=>.inl m,fun k m=>m,fun e m=>m,fun e m=>.inl m⟩) (fun _ s' ⟨h',U',e,sb,q1,q2,q3⟩=>?_) fun _ _ x=>x)
  ·rintro ⟨hh,x⟩ rest _ s' ⟨h',U',rfl,sb,hU,hlen,i1,i2,i3,i4⟩
   obtain ⟨k,q1,q2,q3,q4⟩:=keyOf _ (i3 _ List.mem_cons_self)
   dsimp only at q1 q2 q3
   subst q2
   rw [List.length_cons] at hlen
   refine wpAny_bind (wpAny_holding (addU q1 q3 hU (by unfold scanBound;omega) fun bb h'' sb' hU'=>?_))
   have g4:h''.get? b=some o2:=(sb'.2 b (Ne.symm hne)).trans ((sb.2 b (Ne.symm hne)).trans ho2)
   refine wpAny_bind (he o2 _ _ ho2 g4 ?_)
   refine wpAny_bind (wpAny_setState_of (s:={ s with heap:=h'' }) g4 hd2 hf2 ?_)
   have ne:(p2 != p2)=false:=by simp
   dsimp only
   rw [ne,if_neg Bool.false_ne_true]
   refine wpAny_pure ⟨h'',addK U' k,rfl,sb.trans sb',hU',?_,fun j m=>?_,fun j m=>mem_addK.mpr (.inl (i2 j m)),fun e m=>i3 e (List.mem_cons_of_mem _ m),fun e m=>?_⟩
   ·have:=len_addK_le (U:=U') (k:=k)
    omega
   ·rcases mem_addK.mp m with q | q
    ·exact i1 j q
    ·exact .inr (q ▸ q4)
   ·rcases i4 e m with q | ⟨j,m',q⟩
    ·rcases List.mem_cons.mp q with q | q
     ·exact .inr ⟨k,mem_addK.mpr (.inr rfl),by rw [q];exact q1⟩
     ·exact .inl q
    ·exact .inr ⟨j,mem_addK.mpr (.inl m'),q⟩
  ·rintro _ s' ⟨h',U',rfl,sb,hU,hlen,i1,i2,i3,i4⟩
   refine ⟨h',U',rfl,sb,hU,hlen,fun k=>⟨i1 k,fun q=>q.elim (i2 k) fun q=>?_⟩⟩
   obtain ⟨e,m,z⟩:=(hm2 k).mp (decide_eq_true q)
   rcases i4 e (pL.mem_iff.mpr m) with y | ⟨j,m',y⟩
   ·cases y
   ·rw [knd.inj _ _ _ z y];exact m'
  ·have z:=pL.length_eq
   rw [Array.length_toList,Array.length_toList] at z
   have z':L.toList.length=V.length:=by rw [Array.length_toList,z,hn2]
   omega
  ·subst e
   exact wpAny_pure (h h' U' sb q1 q3 q2)
end
theorem sub_dict_set:isSubtype (.type "dict") (.type "set")=pure false:=by rw [isSubtype_type];kernel_rfl
theorem sub_dict_frozen:isSubtype (.type "dict") (.type "frozenset")=pure false:=by rw [isSubtype_type];kernel_rfl
theorem sub_set_set:isSubtype (.type "set") (.type "set")=pure true:=by rw [isSubtype_type];kernel_rfl
section
variable {prog:Program}{w:World}{K:Type} [DecidableEq K] {knd:KeyKind prog w K}
variable {A:Around}{E:Value→Shared→Prop}{s:Shared}{led:Bool}
theorem anySet_no {v:Value}{Q:Bool→Shared→Prop} (hT:s.TypeIs v "dict") (h:Q false s):wpAny (model prog w) A (Builtin.Frozenset.isAnySet v) Q E s:=by
 unfold Builtin.Frozenset.isAnySet
 refine wpAny_bind (wpAny_isInstance hT sub_dict_set ?_)
 exact wpAny_isInstance hT sub_dict_frozen h
theorem anySet_yes {v:Value}{Q:Bool→Shared→Prop} (hT:s.TypeIs v "set") (h:Q true s):wpAny (model prog w) A (Builtin.Frozenset.isAnySet v) Q E s:=by
 unfold Builtin.Frozenset.isAnySet
 refine wpAny_bind (wpAny_isInstance hT sub_set_set ?_)
 exact wpAny_pure h
theorem Bare.setU {h:Heap}{a:Addr}{o:Obj}{ep:Nat}{t:SetTable}{more:Nat} (ho:h.get? a=some o) (hex:o.ExactSet) (hd:o.data=.set #[] ep t) (b:Bare t led more):SetU knd h a [] led:=
 ⟨List.nodup_nil,o,#[],ep,t,ho,hex,hd,fun e m=>by simp at m,fun k=>by simp,by decide,b.fits,rfl,b.tl⟩
theorem fromDict {nm:String}{r d:Addr}{o:Obj}{ep0:Nat}{t:SetTable}{kvs:List (K×Value)}{ep:Nat}{Q:Unit→Shared→Prop} (ho:s.heap.get? r=some o) (hex:o.ExactSet) (hd0:o.data=.set #[] ep0 t) (hb:Bare t led 0) (hne:r≠d) (hs:(d == sysModules)=false)
  (hm:s.heap.DictAt knd d kvs ep) (hsc:∀ k v,knd.is k v=true→v.scannable=true) (hn:kvs.length < 250)
  (h:∀ h' U,Heap.SameBut r s.heap h'→SetU knd h' r U led→(∀ k,k∈U↔k∈kvs.map (·.1))→U.length≤kvs.length→Q () { s with heap:=h' }):wpAny (model prog w) A (Builtin.Frozenset.updateFrom nm r (.ref d)) Q E s:=by
 obtain ⟨od,es,hod,hcd,hdd,hk,hp,hnd⟩:=id hm
 have hT:s.TypeIs (.ref d) "dict":=hm.dictOf.typeIs
 have hsz:es.size=kvs.length:=by rw [← hp.length];simp
 unfold Builtin.Frozenset.updateFrom
 refine wpAny_bind (anySet_no hT ?_)
 rw [if_neg Bool.false_ne_true]
 refine wpAny_bind (wpAny_typeOf hT ?_)
 rw [if_pos (by decide)]
 refine wpAny_bind (wpAny_rule ?_)
 refine wpAny_bind (m:=Builtin.Frozenset.addrOf (.ref d)) (wpAny_pure ?_)
 rw [if_neg (by rw [hs];exact Bool.false_ne_true)]
 refine wpAny_bind (wpAny_dictEpoch hod hdd ?_)
 refine wpAny_bind (wpAny_dictEntries hod hdd ?_)
 refine wpAny_bind (room_bare ho hex hd0 hb (by rw [hsz];omega) fun h1 o1 ep1 t1 sb1 g1 x1 d1 b1=>?_)
 have gd1:h1.get? d=some od:=(sb1.2 d (Ne.symm hne)).trans hod
 refine wpAny_bind (wpAny_dictEntries gd1 hdd ?_)
 rw [Std.Legacy.Range.forIn_eq_forIn_range']
 simp only [Std.Legacy.Range.size,Nat.sub_zero,Nat.add_sub_cancel,Nat.div_one]
 refine wpAny_bind (wpAny_mono (wpAny_forIn_list _ (fun rest _ s'=>∃ h' U i,s'={ s with heap:=h' }∧rest=List.range' i (es.size - i)∧i≤es.size∧Heap.SameBut r s.heap h'∧SetU knd h' r U led∧U.length≤i∧∀ k,k∈U↔k∈(kvs.take i).map (·.1))
  (fun _ s'=>∃ h' U,s'={ s with heap:=h' }∧Heap.SameBut r s.heap h'∧SetU knd h' r U led∧U.length≤kvs.length∧∀ k,k∈U↔k∈kvs.map (·.1)) ?_ ?_ _ _ ⟨h1,[],0,rfl,by simp,Nat.zero_le _,sb1,b1.setU g1 x1 d1,Nat.le_refl _,fun k=>by simp⟩) (fun _ s' ⟨h',U,e,q1,q2,q3,q4⟩=>?_) fun _ _ x=>x)
 ·rintro x rest _ s' ⟨h',U,i,rfl,hr,hi,sb,hU,hl,hU2⟩
  have hlt:i < es.size:=by
   rcases Nat.lt_or_ge i es.size with q | q
   ·exact q
   ·rw [Nat.sub_eq_zero_of_le q] at hr;simp at hr
  obtain ⟨rfl,hrest⟩:x=i∧rest=List.range' (i + 1) (es.size - (i + 1)):=by
   have e:es.size - i=(es.size - (i + 1)) + 1:=by omega
   rw [e,List.range'_succ] at hr
   injection hr with a b
   exact ⟨a,b⟩
  have gd:h'.get? d=some od:=(sb.2 d (Ne.symm hne)).trans hod
  refine wpAny_bind (wpAny_dictEntries (s:={ s with heap:=h' }) gd hdd ?_)
  rw [Array.getElem?_eq_getElem hlt]
  have hlk:x < kvs.length:=by omega
  obtain ⟨hkey,hval⟩:=hp.get? (e:=es[x]) (by simp [hlt]) (List.getElem?_eq_getElem hlk)
  obtain ⟨k',hkey',hhash⟩:=hk es[x] (Array.getElem_mem hlt)
  obtain rfl:k'=kvs[x].1:=knd.inj _ _ _ hkey' hkey
  dsimp only
  rw [hhash]
  refine wpAny_bind (wpAny_holding (addU hkey' (hsc _ _ hkey') hU (by unfold scanBound;omega) fun bb h'' sb' hU'=>?_))
  have gd':h''.get? d=some od:=(sb'.2 d (Ne.symm hne)).trans gd
  refine wpAny_bind (wpAny_dictEpoch (s:={ s with heap:=h'' }) gd' hdd ?_)
  have ne:(ep != ep)=false:=by simp
  rw [ne,if_neg Bool.false_ne_true]
  refine wpAny_pure ⟨h'',addK U kvs[x].1,x + 1,rfl,hrest,hlt,sb.trans sb',hU',?_,fun k=>?_⟩
  ·have:=len_addK_le (U:=U) (k:=kvs[x].1)
   omega
  ·rw [mem_addK,hU2 k,List.take_succ_eq_append_getElem hlk,List.map_append,List.mem_append]
   simp
 ·rintro _ s' ⟨h',U,i,rfl,hr,hi,sb,hU,hl,hU2⟩
  have hi':i=es.size:=by
   have:=congrArg List.length hr
   simp at this
   omega
  refine ⟨h',U,rfl,sb,hU,by omega,fun k=>?_⟩
  rw [hU2 k,List.take_of_length_le (by omega)]
 ·subst e
  exact wpAny_pure (h h' U q1 q2 q4 q3)
end
theorem entry_set_or:entryFor table "set.__or__"=some Builtin.«frozenset.__or__»:=
 entryFor_alias (id':="frozenset.__or__") (by kernel_rfl) rfl (by decide +kernel) (by kernel_rfl)
theorem bare_fresh (led:Bool):Bare (.fresh 0 0 led) led 0:=⟨rfl,rfl,(by decide:8∈sizes),rfl,Nat.zero_le _⟩
section
variable {prog:Program}{w:World}{K:Type} [DecidableEq K] {knd:KeyKind prog w K}
variable {A:Around}{E:Value→Shared→Prop}{s:Shared}{led:Bool}
theorem SetU.typeIs {a:Addr}{U:List K} (x:SetU knd s.heap a U led):s.TypeIs (.ref a) "set":=by
 obtain ⟨_,o,es,ep,t,ho,hex,_⟩:=x
 exact ⟨o,ho,hex.1⟩
theorem merge_none {r b:Addr}{each:Sem Unit}{Q:Unit→Shared→Prop} (hne:r≠b) (hB:SetU knd s.heap b [] led) (h:Q () s):wpAny (model prog w) A (setMerge r b each) Q E s:=by
 obtain ⟨nV,o2,e2,p2,t2,ho2,hx2,hd2,hl2,hm2,hb2,hf2,hn2,tl2⟩:=id hB
 unfold setMerge
 rw [if_neg (by simpa using hne)]
 refine wpAny_bind (wpAny_setState_of ho2 hd2 hf2 ?_)
 dsimp only
 have:e2=#[]:=Array.eq_empty_of_size_eq_zero hn2
 rw [if_pos (by rw [this];rfl)]
 exact wpAny_pure h
theorem unchanged_ok {nm:String}{b:Addr}{o:Obj}{es:Array (Int×Value)}{ep:Nat}{t:SetTable}{Q:Unit→Shared→Prop} (ho:s.heap.get? b=some o) (hd:o.data=.set es ep t) (hf:t.fits es.size=true) (h:Q () s) :
  wpAny (model prog w) A (Builtin.Frozenset.unchanged nm b ep) Q E s:=by
 unfold Builtin.Frozenset.unchanged setEpoch
 refine wpAny_bind (wpAny_bind (wpAny_setState_of ho hd hf (wpAny_pure ?_)))
 have ne:(ep != ep)=false:=by simp
 rw [ne,if_neg Bool.false_ne_true]
 exact wpAny_pure h
theorem union_body {a b:Addr}{U V:List K}{Q:Value→Shared→Prop} (hab:a≠b) (hA:SetU knd s.heap a U (!byT w)) (hB:SetU knd s.heap b V (!byT w)) (hn:U.length + V.length < 250)
  (h:∀ h' W,(∀ c o,s.heap.get? c=some o→h'.get? c=some o)→s.heap.objs.size≤h'.objs.size→SetU knd h' s.heap.objs.size W (!byT w)→(∀ k,k∈W↔k∈U∨k∈V)→W.length≤U.length + V.length→Q (.ref s.heap.objs.size) { s with heap:=h' }) :
  wpAny (model prog w) A (Builtin.«frozenset.__or__» ⟨[.ref a,.ref b],[]⟩) (fun fin s'=>∃ v,fin=.done (.ret v)∧Q v s') E s:=by
 have tA:=hA.typeIs
 have tB:=hB.typeIs
 show wpAny _ _ (Builtin.Frozenset.slot1 "__or__" ⟨[.ref a,.ref b],[]⟩ >>= _) _ _ _
 refine wpAny_bind (m:=Builtin.Frozenset.slot1 "__or__" ⟨[.ref a,.ref b],[]⟩) (wpAny_pure ?_)
 dsimp only
 refine wpAny_bind (wpAny_bind (anySet_yes tA ?_))
 refine wpAny_mono (anySet_yes tB (Q:=fun c s'=>c=true∧s'=s) ⟨rfl,rfl⟩) (fun c s' hc=>?_) fun _ _ x=>x
 obtain ⟨rfl,rfl⟩:=hc
 rw [if_neg (show ¬ (!true)=true from Bool.false_ne_true)]
 refine wpAny_bind (m:=Builtin.Frozenset.addrOf (.ref a)) (wpAny_pure ?_)
 refine wpAny_bind ?_
 show wpAny _ _ (Builtin.Frozenset.copyOf a >>= _) _ _ _
 refine wpAny_bind ?_
 unfold Builtin.Frozenset.copyOf Builtin.Frozenset.baseOf
 refine wpAny_bind (wpAny_bind (wpAny_isInstance tA sub_set_set (wpAny_pure ?_)))
 rw [if_pos rfl]
 unfold newSet
 refine wpAny_bind (wpAny_bind (w_byText ?_))
 dsimp only
 refine wpAny_newObj_type ?_ (by size_fits)
 refine wpAny_bind (m:=Builtin.Frozenset.addrOf (.ref s'.heap.objs.size)) (wpAny_pure ?_)
 have g0:(s'.heap.push { cls:=.type "set",data:=.set #[] 0 (.fresh 0 0 (!byT w)) }).get? s'.heap.objs.size=some { cls:=.type "set",data:=.set #[] 0 (.fresh 0 0 (!byT w)) }:=Heap.get?_push_size _ rfl
 have old:∀ c o,s'.heap.get? c=some o→(s'.heap.push { cls:=.type "set",data:=.set #[] 0 (.fresh 0 0 (!byT w)) }).get? c=some o:=fun c o e=>Heap.get?_push_of_some _ e
 have na:s'.heap.objs.size≠a:=fun e=>by
  obtain ⟨_,o,_,_,_,ho,_⟩:=hA
  exact absurd (Heap.lt_size ho) (by rw [← e];exact Nat.lt_irrefl _)
 have nb:s'.heap.objs.size≠b:=fun e=>by
  obtain ⟨_,o,_,_,_,ho,_⟩:=hB
  exact absurd (Heap.lt_size ho) (by rw [← e];exact Nat.lt_irrefl _)
 have hA1:=hA.keep (old a)
 have hB1:=hB.keep (old b)
 have hz:s'.heap.objs.size≤(s'.heap.push { cls:=.type "set",data:=.set #[] 0 (.fresh 0 0 (!byT w)) }).objs.size:=by rw [Heap.size_push];exact Nat.le_succ _
 have kp:∀ {h':Heap},Heap.SameBut s'.heap.objs.size (s'.heap.push { cls:=.type "set",data:=.set #[] 0 (.fresh 0 0 (!byT w)) }) h'→∀ c o,s'.heap.get? c=some o→h'.get? c=some o:=fun {h'} sb c o e=>by
  rw [sb.2 c (Nat.ne_of_lt (Heap.lt_size e))];exact old c o e
 have kz:∀ {h':Heap},Heap.SameBut s'.heap.objs.size (s'.heap.push { cls:=.type "set",data:=.set #[] 0 (.fresh 0 0 (!byT w)) }) h'→s'.heap.objs.size≤h'.objs.size:=fun {h'} sb=>by rw [sb.1];exact hz
 generalize hh0:s'.heap.push { cls:=.type "set",data:=.set #[] 0 (.fresh 0 0 (!byT w)) }=h0 at g0 old hA1 hB1 hz kp kz ⊢
 have rest:∀ (h1:Heap),Heap.SameBut s'.heap.objs.size h0 h1→(∀ (each:Sem Unit) (R:Unit→Shared→Prop),(∀ (o:Obj) (s1:Shared) (R:Unit→Shared→Prop),h1.get? b=some o→s1.heap.get? b=some o→R () s1→wpAny (model prog w) A each R E s1) →
   (∀ h' W,Heap.SameBut s'.heap.objs.size h1 h'→SetU knd h' s'.heap.objs.size W (!byT w)→(∀ k,k∈W↔k∈U∨k∈V)→W.length≤U.length + V.length→R () { s' with heap:=h' })→wpAny (model prog w) A (setMerge s'.heap.objs.size b each) R E { s' with heap:=h1 }) →
   wpAny (model prog w) A (holding [.ref s'.heap.objs.size] (Builtin.Frozenset.updateFrom "frozenset.__or__" s'.heap.objs.size (.ref b))) (fun _ s2=>wpAny (model prog w) A (pure (Value.ref s'.heap.objs.size)) (fun v s3=>wpAny (model prog w) A (ret v) (fun fin s4=>∃ v,fin=.done (.ret v)∧Q v s4) E s3) E s2) E { s' with heap:=h1 }:=fun h1 sb1 hm=>by
  refine wpAny_holding ?_
  have hB2:SetU knd h1 b V (!byT w):=hB1.keep fun o e=>by rw [sb1.2 b (Ne.symm nb)];exact e
  unfold Builtin.Frozenset.updateFrom
  refine wpAny_bind (anySet_yes (SetU.typeIs (s:={ s' with heap:=h1 }) hB2) ?_)
  rw [if_pos rfl]
  refine wpAny_bind (m:=Builtin.Frozenset.addrOf (.ref b)) (wpAny_pure ?_)
  unfold Builtin.Frozenset.merge setEpoch
  obtain ⟨nV,o2,e2,p2,t2,ho2,hx2,hd2,hl2,hm2,hb2,hf2,hn2,tl2⟩:=id hB2
  refine wpAny_bind (wpAny_bind (wpAny_setState_of (s:={ s' with heap:=h1 }) ho2 hd2 hf2 (wpAny_pure ?_)))
  refine hm _ _ (fun o s1 R e1 e2' r=>?_) fun h' W sb q1 q2 q3=>?_
  ·rw [ho2] at e1
   cases e1
   exact unchanged_ok e2' hd2 hf2 r
  ·exact wpAny_pure (wpAny_pure ⟨_,rfl,h h' W (kp (sb1.trans sb)) (kz (sb1.trans sb)) q1 q2 q3⟩)
 by_cases hU:U=[]
 ·subst hU
  refine wpAny_bind (merge_none na hA1 (wpAny_pure ?_))
  rw [if_pos (by simpa using Ne.symm hab)]
  refine wpAny_bind (m:=Builtin.Frozenset.addrOf (.ref s'.heap.objs.size)) (wpAny_pure (wpAny_bind ?_))
  refine rest h0 (Heap.SameBut.refl _ _) fun each R he hR=>?_
  refine merge_bare (knd:=knd) nb g0 ⟨rfl,rfl,rfl⟩ rfl (bare_fresh _) hB1.2 (by omega) fun h' sb q=>hR h' V sb ⟨hB.1,q⟩ (fun k=>by simp) (by simp)
 ·refine wpAny_bind (merge_bare (knd:=knd) na g0 ⟨rfl,rfl,rfl⟩ rfl (bare_fresh _) hA1.2 (by omega) fun h1 sb1 q=>wpAny_pure ?_)
  rw [if_pos (by simpa using Ne.symm hab)]
  refine wpAny_bind (m:=Builtin.Frozenset.addrOf (.ref s'.heap.objs.size)) (wpAny_pure (wpAny_bind ?_))
  refine rest h1 sb1 fun each R he hR=>?_
  exact merge_full (s:={ s' with heap:=h1 }) nb ⟨hA.1,q⟩ hU (hB1.keep fun o e=>by rw [sb1.2 b (Ne.symm nb)];exact e) (by omega) he fun h' W sb q1 q2 q3=>hR h' W sb q1 q2 q3
theorem or_ok {a b:Addr}{U V:List K}{Q:Value→Shared→Prop} (hab:a≠b) (hA:SetU knd s.heap a U (!byT w)) (hB:SetU knd s.heap b V (!byT w)) (hn:U.length + V.length < 250)
  (h:∀ h' W,(∀ c o,s.heap.get? c=some o→h'.get? c=some o)→s.heap.objs.size≤h'.objs.size→SetU knd h' s.heap.objs.size W (!byT w)→(∀ k,k∈W↔k∈U∨k∈V)→W.length≤U.length + V.length→Q (.ref s.heap.objs.size) { s with heap:=h' }) :
  wpAny (model prog w) A (binaryOp .BitOr (.ref a) (.ref b)) Q E s:=
 wpAny_binaryOp_same (op:=.BitOr) hA.typeIs hB.typeIs F.fills_set_or F.slot_set_or (wpAny_call_entry F.slot_set_or hA.typeIs entry_set_or (union_body hab hA hB hn fun h' W k1 k2 k3 k4 k5=>⟨(fun q=>nomatch q),h h' W k1 k2 k3 k4 k5⟩) (F.args_set_or_2 _ _))
end
theorem entry_set_iter:entryFor table "set.__iter__"=some Builtin.«frozenset.__iter__»:=
 entryFor_alias (id':="frozenset.__iter__") (by kernel_rfl) rfl (by decide +kernel) (by kernel_rfl)
theorem slot_si_next:Slot "set_iterator" "__next__" "set_iterator.__next__":=
 .of (owner:="set_iterator") (n:="__next__") (by rw [typeLookup_type,builtinLookup_eq_fast];kernel_rfl) (by decide +kernel) (by decide +kernel) (by decide +kernel)
  (by first | exact .inl (by decide +kernel) | exact .inr (by decide +kernel)) (by rw [isSubtype_type];kernel_rfl)
theorem entry_si_next:entryFor table "set_iterator.__next__"=some Builtin.«set_iterator.__next__»:=entryFor_of_tree (by kernel_rfl)
theorem owner_si:Manifest.owners.lookup (String.ofList ['r','o','t','a','r','e','t','i','_','t','e','s'].reverse)=some Manifest.sig_set_iterator:=by kernel_rfl
theorem args_si_next (a:Value):argsOk "set_iterator.__next__" ⟨[a],[]⟩:=by
 unfold argsOk;rw [signature?_of (id:="set_iterator.__next__") (n:=['_','_','t','x','e','n','_','_']) (o:=['r','o','t','a','r','e','t','i','_','t','e','s']) (by kernel_rfl) owner_si];kernel_rfl
theorem slot_si_iter:Slot "set_iterator" "__iter__" "set_iterator.__iter__":=
 .of (owner:="set_iterator") (n:="__iter__") (by rw [typeLookup_type,builtinLookup_eq_fast];kernel_rfl) (by decide +kernel) (by decide +kernel) (by decide +kernel)
  (by first | exact .inl (by decide +kernel) | exact .inr (by decide +kernel)) (by rw [isSubtype_type];kernel_rfl)
theorem entry_si_iter:entryFor table "set_iterator.__iter__"=some Builtin.«dict_keyiterator.__iter__»:=
 entryFor_alias (id':="dict_keyiterator.__iter__") (by kernel_rfl) rfl (by decide +kernel) (by kernel_rfl)
theorem args_si_iter (a:Value):argsOk "set_iterator.__iter__" ⟨[a],[]⟩:=by
 unfold argsOk;rw [signature?_of (id:="set_iterator.__iter__") (n:=['_','_','r','e','t','i','_','_']) (o:=['r','o','t','a','r','e','t','i','_','t','e','s']) (by kernel_rfl) owner_si];kernel_rfl
theorem len_set_special:typeLookup (.type "set") "__len__"=pure (some (.builtin "set.__len__")):=by rw [typeLookup_type,builtinLookup_eq_fast];kernel_rfl
theorem w_choose {M:Model}{A:Around}{E:Value→Shared→Prop}{s:Shared}{src:Source}{n:Nat}{Q:Nat→Shared→Prop} (hn:n≠0) (h:∀ i d',i < n→Q i { s with drawn:=d' }):wpAny M A (choose src n) Q E s:=
 fun Γ p _=>⟨hn,h _ _ (Nat.mod_lt _ (Nat.pos_of_ne_zero hn))⟩
theorem w_drawOrder {M:Model}{A:Around}{E:Value→Shared→Prop}{α:Type}:∀ {n:Nat}{xs:List α}{s:Shared}{Q:List α→Shared→Prop},n=xs.length→(∀ ys d',ys.Perm xs→Q ys { s with drawn:=d' })→wpAny M A (drawOrder n xs) Q E s
 | 0,xs,s,Q,hn,h=>by
  have:xs=[]:=List.eq_nil_of_length_eq_zero hn.symm
  subst this
  have e:s={ s with drawn:=s.drawn }:=by cases s;rfl
  unfold drawOrder
  refine wpAny_pure ?_
  rw [e]
  exact h [] _ (List.Perm.refl _)
 | n + 1,[],s,Q,hn,h=>by simp at hn
 | n + 1,x::xs,s,Q,hn,h=>by
  unfold drawOrder
  refine wpAny_bind (w_choose (by simp) fun i d' hi=>?_)
  rw [List.getElem?_eq_getElem hi]
  dsimp only
  refine wpAny_bind (w_drawOrder (by rw [List.length_eraseIdx_of_lt hi];omega) fun ys d'' p=>wpAny_pure ?_)
  exact h _ d'' ((p.cons _).trans (erase_perm hi))
def IsSI (h:Heap) (I:Addr) (first:Value) (i:Nat) (a:Addr) (n ep:Nat):Prop:=∃ o,h.get? I=some o∧o.cls=.type "set_iterator"∧o.data=.fields #[first,.int i 0,.ref a,.int n 0,.int ep 0]
theorem IsSI.typeIs {s:Shared}{I a:Addr}{first:Value}{i n ep:Nat} (x:IsSI s.heap I first i a n ep):s.TypeIs (.ref I) "set_iterator":=let ⟨o,ho,hc,_⟩:=x;⟨o,ho,hc⟩
theorem IsSI.at {h h':Heap}{I a:Addr}{first:Value}{i n ep:Nat} (x:IsSI h I first i a n ep) (e:∀ o,h.get? I=some o→h'.get? I=some o):IsSI h' I first i a n ep:=let ⟨o,ho,r⟩:=x;⟨o,e o ho,r⟩
section
variable {prog:Program}{w:World}{A:Around}{E:Value→Shared→Prop}{s:Shared}
theorem stop_ok {I:Addr}{Q:Fin→Shared→Prop}{R:Value→Shared→Prop} (hh:A.handled=none) (h:∀ h' e,Heap.ExtBut I s.heap h'→Shared.TypeIs { s with heap:=h' } e "StopIteration"→R e { s with heap:=h' }) :
  wpAny (model prog w) A (do raiseNew (← newExc (.type "StopIteration") []):Sem Fin) Q R s:=by
 refine wpAny_bind ?_
 simp only [newExc,newTuple]
 refine wpAny_bind (wpAny_newObj_type ?_ (by size_fits))
 refine wpAny_bind (m:=firstArgMember _ _) (wpAny_of_eq (a:=Value.none) (by first | rfl | (simp only [firstArgMember];rfl)) ?_)
 refine wpAny_newObj_type ?_ (by size_fits)
 simp only [raiseNew]
 refine wpAny_bind (wpAny_handled ?_)
 rw [hh]
 refine wpAny_bind (wpAny_pure (wpAny_throw ?_))
 exact h _ _ (((Heap.SameBut.refl I s.heap).extBut.push _).push _) ⟨_,Heap.get?_push_size _ rfl,rfl⟩
end
section
variable {prog:Program}{w:World}{A:Around}{E:Value→Shared→Prop}{s:Shared}
variable {I a:Addr}{oa:Obj}{es:Array (Int×Value)}{ep i:Nat}{t:SetTable}
theorem entries_ok {R:Array (Int×Value)→Shared→Prop} (ho:s.heap.get? a=some oa) (hd:oa.data=.set es ep t) (hf:t.fits es.size=true) (h:R es s):wpAny (model prog w) A (setEntries a) R E s:=by
 unfold setEntries
 exact wpAny_bind (wpAny_setState_of ho hd hf (wpAny_pure h))
theorem next_item {sl nx:Nat}{x:Value}{Q:Option Value→Shared→Prop} (hit:IsSI s.heap I (.int sl 0) i a es.size ep) (ho:s.heap.get? a=some oa) (hd:oa.data=.set es ep t) (hf:t.fits es.size=true)
  (hn:∀ (R:Option (Value×Nat)→Shared→Prop) (E':Value→Shared→Prop),R (some (x,nx)) s→wpAny (model prog w) A.in1 (setNext a sl i ep) R E' s)
  (hQ:∀ h',IsSI h' I (.int nx 0) (i + 1) a es.size ep→Heap.SameBut I s.heap h'→Q (some x) { s with heap:=h' }):wpAny (model prog w) A (pyNext (.ref I)) Q E s:=by
 obtain ⟨o,hoI,hc,hdI⟩:=id hit
 unfold pyNext
 refine wpAny_bind (wpAny_attempt (wpAny_callSpecial?_slot (name:=Str.ofString "__next__") hit.typeIs slot_si_next (wpAny_call_entry slot_si_next hit.typeIs entry_si_next ?_ (args_si_next _))))
 refine wpAny_bind (m:=slotArgs "__next__" 0 ⟨[.ref I],[]⟩) (wpAny_pure ?_)
 refine wpAny_bind (wpAny_fieldsOf hoI hdI ?_)
 dsimp only
 refine wpAny_bind (entries_ok ho hd hf ?_)
 rw [if_neg (by simp)]
 refine wpAny_bind (hn _ _ ?_)
 dsimp only
 refine wpAny_bind (wpAny_setField hoI hdI (by simp) ?_)
 have h1:=Heap.get?_update_self (Obj.mapFields (·.setIfInBounds 0 (rawInt nx))) hoI (Obj.isFreed_of_fields (Obj.data_mapFields hdI _))
 refine wpAny_bind (wpAny_setField h1 (Obj.data_mapFields hdI _) (by simp) ?_)
 refine wpAny_pure ⟨_,rfl,?_⟩
 have h2:=Heap.get?_update_self (Obj.mapFields (·.setIfInBounds 1 (rawInt ((i:Int) + 1)))) h1 (Obj.isFreed_of_fields (Obj.data_mapFields (Obj.data_mapFields hdI _) _))
 refine wpAny_pure (hQ _ ⟨_,h2,?_,?_⟩ ((Heap.SameBut.update ..).trans (Heap.SameBut.update ..)))
 ·rw [Obj.cls_mapFields,Obj.cls_mapFields];exact hc
 ·rw [Obj.data_mapFields (Obj.data_mapFields hdI _)];simp [rawInt]
theorem next_end {sl:Nat}{Q:Option Value→Shared→Prop} (hh:A.handled=none) (hit:IsSI s.heap I (.int sl 0) i a es.size ep) (ho:s.heap.get? a=some oa) (hd:oa.data=.set es ep t) (hf:t.fits es.size=true)
  (hn:∀ (R:Option (Value×Nat)→Shared→Prop) (E':Value→Shared→Prop),R none s→wpAny (model prog w) A.in1 (setNext a sl i ep) R E' s)
  (hQ:∀ h',Heap.ExtBut I s.heap h'→Q none { s with heap:=h' }):wpAny (model prog w) A (pyNext (.ref I)) Q E s:=by
 obtain ⟨o,hoI,hc,hdI⟩:=id hit
 unfold pyNext
 refine wpAny_bind (wpAny_attempt (wpAny_callSpecial?_slot (name:=Str.ofString "__next__") hit.typeIs slot_si_next (wpAny_call_entry slot_si_next hit.typeIs entry_si_next ?_ (args_si_next _))))
 refine wpAny_bind (m:=slotArgs "__next__" 0 ⟨[.ref I],[]⟩) (wpAny_pure ?_)
 refine wpAny_bind (wpAny_fieldsOf hoI hdI ?_)
 dsimp only
 refine wpAny_bind (entries_ok ho hd hf ?_)
 rw [if_neg (by simp)]
 refine wpAny_bind (hn _ _ ?_)
 dsimp only
 refine wpAny_bind (wpAny_setField hoI hdI (by simp) ?_)
 refine stop_ok (I:=I) (s:={ s with heap:=s.heap.update I (Obj.mapFields (·.setIfInBounds 2 Value.none)) }) hh fun h' e x1 x2=>?_
 refine wpAny_bind (wpAny_isInstance (T:="StopIteration") (b:=true) x2 isSubtype_stop ?_)
 refine wpAny_pure (hQ _ fun b o' hb e'=>x1 b o' hb ?_)
 rw [Heap.get?_update_other _ _ (Ne.symm hb)];exact e'
theorem nextT_item {tp pl c:Nat}{ot:Obj}{ps:Array Value}{hx:Int}{x:Value}{Q:Option Value→Shared→Prop} (hit:IsSI s.heap I (.ref tp) i a es.size ep) (ho:s.heap.get? a=some oa) (hd:oa.data=.set es ep t) (hf:t.fits es.size=true)
  (ht:s.heap.get? tp=some ot) (hdt:ot.data=.seq ps c) (hp:ps[i]? = some (rawInt pl)) (hx:es[pl]? = some (hx,x))
  (hQ:∀ h',IsSI h' I (.ref tp) (i + 1) a es.size ep→Heap.SameBut I s.heap h'→Q (some x) { s with heap:=h' }):wpAny (model prog w) A (pyNext (.ref I)) Q E s:=by
 obtain ⟨o,hoI,hc,hdI⟩:=id hit
 unfold pyNext
 refine wpAny_bind (wpAny_attempt (wpAny_callSpecial?_slot (name:=Str.ofString "__next__") hit.typeIs slot_si_next (wpAny_call_entry slot_si_next hit.typeIs entry_si_next ?_ (args_si_next _))))
 refine wpAny_bind (m:=slotArgs "__next__" 0 ⟨[.ref I],[]⟩) (wpAny_pure ?_)
 refine wpAny_bind (wpAny_fieldsOf hoI hdI ?_)
 dsimp only
 refine wpAny_bind (entries_ok ho hd hf ?_)
 rw [if_neg (by simp)]
 refine wpAny_bind (wpAny_seqItems ht hdt ?_)
 dsimp only
 rw [Int.toNat_natCast,hp]
 dsimp only [rawInt]
 refine wpAny_bind ?_
 unfold setNextDrawn
 refine wpAny_bind (wpAny_setState_of ho hd hf ?_)
 dsimp only
 rw [if_neg (by simp),Int.toNat_natCast,hx]
 refine wpAny_pure ?_
 refine wpAny_bind (wpAny_setField hoI hdI (by simp) ?_)
 have h2:=Heap.get?_update_self (Obj.mapFields (·.setIfInBounds 1 (rawInt ((i:Int) + 1)))) hoI (Obj.isFreed_of_fields (Obj.data_mapFields hdI _))
 refine wpAny_pure ⟨_,rfl,wpAny_pure (hQ _ ⟨_,h2,?_,?_⟩ (Heap.SameBut.update ..))⟩
 ·rw [Obj.cls_mapFields];exact hc
 ·rw [Obj.data_mapFields hdI];simp [rawInt]
theorem nextT_end {tp c:Nat}{ot:Obj}{ps:Array Value}{Q:Option Value→Shared→Prop} (hh:A.handled=none) (hit:IsSI s.heap I (.ref tp) i a es.size ep) (ho:s.heap.get? a=some oa) (hd:oa.data=.set es ep t) (hf:t.fits es.size=true)
  (ht:s.heap.get? tp=some ot) (hdt:ot.data=.seq ps c) (hp:ps[i]? = none)
  (hQ:∀ h',Heap.ExtBut I s.heap h'→Q none { s with heap:=h' }):wpAny (model prog w) A (pyNext (.ref I)) Q E s:=by
 obtain ⟨o,hoI,hc,hdI⟩:=id hit
 unfold pyNext
 refine wpAny_bind (wpAny_attempt (wpAny_callSpecial?_slot (name:=Str.ofString "__next__") hit.typeIs slot_si_next (wpAny_call_entry slot_si_next hit.typeIs entry_si_next ?_ (args_si_next _))))
 refine wpAny_bind (m:=slotArgs "__next__" 0 ⟨[.ref I],[]⟩) (wpAny_pure ?_)
 refine wpAny_bind (wpAny_fieldsOf hoI hdI ?_)
 dsimp only
 refine wpAny_bind (entries_ok ho hd hf ?_)
 rw [if_neg (by simp)]
 refine wpAny_bind (wpAny_seqItems ht hdt ?_)
 dsimp only
 rw [Int.toNat_natCast,hp]
 dsimp only
 refine wpAny_bind (wpAny_setField hoI hdI (by simp) ?_)
 have h1:=Heap.get?_update_self (Obj.mapFields (·.setIfInBounds 0 (rawInt 0))) hoI (Obj.isFreed_of_fields (Obj.data_mapFields hdI _))
 refine wpAny_bind (wpAny_setField h1 (Obj.data_mapFields hdI _) (by simp) ?_)
 refine stop_ok (I:=I) (s:={ s with heap:=(s.heap.update I (Obj.mapFields (·.setIfInBounds 0 (rawInt 0)))).update I (Obj.mapFields (·.setIfInBounds 2 Value.none)) }) hh fun h' e x1 x2=>?_
 refine wpAny_bind (wpAny_isInstance (T:="StopIteration") (b:=true) x2 isSubtype_stop ?_)
 refine wpAny_pure (hQ _ fun b o' hb e'=>x1 b o' hb ?_)
 rw [Heap.get?_update_other _ _ (Ne.symm hb),Heap.get?_update_other _ _ (Ne.symm hb)];exact e'
theorem setNext_text {sl:Nat}{R:Option (Value×Nat)→Shared→Prop} (hb:byT w=true) (ho:s.heap.get? a=some oa) (hd:oa.data=.set es ep t) (hf:t.fits es.size=true)
  (h:R (((pickOrder (w.params.setOrder a ep) es)[i]?).map fun e=>(e.2,sl)) s):wpAny (model prog w) A (setNext a sl i ep) R E s:=by
 unfold setNext
 refine wpAny_bind (wpAny_setState_of ho hd hf ?_)
 dsimp only
 refine wpAny_bind (w_byText ?_)
 rw [hb,if_pos rfl,if_neg (by simp)]
 unfold setWalk
 refine wpAny_bind (wpAny_bind (wpAny_setState_of ho hd hf ?_))
 dsimp only
 refine wpAny_bind (w_byText ?_)
 rw [hb,if_pos rfl]
 exact wpAny_bind (wpAny_askSetting (wpAny_pure (wpAny_pure h)))
theorem setNext_slot {sl:Nat}{R:Option (Value×Nat)→Shared→Prop} (hb:byT w=false) (ho:s.heap.get? a=some oa) (hd:oa.data=.set es ep t) (hf:t.fits es.size=true) (hl:t.led=true) (hp:(!t.plain&&decide (es.size > 1))=false)
  (h:R (match es[SetTable.below t.place sl]?,t.place[SetTable.below t.place sl]? with | some (_,x),some j=>some (x,j + 1) | _,_=>none) s):wpAny (model prog w) A (setNext a sl i ep) R E s:=by
 unfold setNext
 refine wpAny_bind (wpAny_setState_of ho hd hf ?_)
 dsimp only
 refine wpAny_bind (w_byText ?_)
 rw [hb,if_neg Bool.false_ne_true]
 show wpAny _ _ (ite ((!t.plain&&decide (es.size > 1))=true) _ _) _ _ _
 rw [if_neg (by rw [hp];exact Bool.false_ne_true)]
 show wpAny _ _ ((ite ((!t.led&&!es.isEmpty)=true) _ _) >>= _) _ _ _
 rw [if_neg (by rw [hl];exact Bool.false_ne_true)]
 exact wpAny_bind (wpAny_pure (wpAny_pure h))
theorem self_si {first:Value}{n:Nat}{Q:Value→Shared→Prop} (hit:IsSI s.heap I first i a n ep) (h:Q (.ref I) s):wpAny (model prog w) A (pyIter (.ref I)) Q E s:=by
 refine wpAny_pyIter_slot hit.typeIs slot_si_iter (wpAny_call_entry slot_si_iter hit.typeIs entry_si_iter ?_ (args_si_iter _))
 show wpAny _ _ (ret (.ref I)) _ _ s
 exact wpAny_pure ⟨_,rfl,"set_iterator",_,hit.typeIs,slot_si_next.lookup,h⟩
theorem walk_I (hh:A.handled=none) (hne:a≠I) (hd:oa.data=.set es ep t) (hf:t.fits es.size=true) (xs:List (Int×Value)) (Sl:Nat→Nat→Prop)
  (step:∀ i sl,Sl i sl→i < es.size→∃ e nx,xs[i]? = some e∧Sl (i + 1) nx∧∀ (s:Shared) (R:Option (Value×Nat)→Shared→Prop) (E':Value→Shared→Prop),s.heap.get? a=some oa→R (some (e.2,nx)) s→wpAny (model prog w) A.in1 (setNext a sl i ep) R E' s)
  (fin:∀ sl,Sl es.size sl→∀ (s:Shared) (R:Option (Value×Nat)→Shared→Prop) (E':Value→Shared→Prop),s.heap.get? a=some oa→R none s→wpAny (model prog w) A.in1 (setNext a sl es.size ep) R E' s) :
  Walks prog w A I [I,a] [I] es.size (fun i v=>∃ e,xs[i]? = some e∧e.2=v) (fun i h=>(∃ sl:Nat,IsSI h I (.int sl 0) i a es.size ep∧Sl i sl)∧h.get? a=some oa) where
 sub:=fun b hb=>by simp at hb;simp [hb]
 frame:=fun _ _ _ st hk=>⟨let ⟨sl,x,y⟩:=st.1;⟨sl,x.at fun o e=>hk I (by simp) o e,y⟩,hk a (by simp) _ st.2⟩
 item:=fun i s Q E hi st hQ=>by
  obtain ⟨⟨sl,x,y⟩,ho⟩:=st
  obtain ⟨e,nx,e1,e2,e3⟩:=step i sl y hi
  refine next_item x ho hd hf (fun R E' r=>e3 s R E' ho r) fun h' x' sb=>?_
  exact hQ e.2 h' s.toks ⟨e,e1,rfl⟩ ⟨⟨nx,x',e2⟩,by rw [sb.2 a hne];exact ho⟩ fun b o hb e=>by rw [sb.2 b (fun z=>hb (by simp [z]))];exact e
 done:=fun s Q E st hQ=>by
  obtain ⟨⟨sl,x,y⟩,ho⟩:=st
  exact next_end hh x ho hd hf (fun R E' r=>fin sl y s R E' ho r) fun h' eb=>hQ h' s.toks fun b o hb e=>eb b o (fun z=>hb (by simp [z])) e
 self:=fun _ _ _ _ st hQ=>by
  obtain ⟨⟨sl,x,y⟩,ho⟩:=st
  exact self_si x hQ
theorem walk_T {tp:Addr}{ot:Obj}{c:Nat}{ys:List Nat} (hh:A.handled=none) (hne:a≠I) (hnt:tp≠I) (hd:oa.data=.set es ep t) (hf:t.fits es.size=true) (hdt:ot.data=.seq ((ys.map fun (i:Nat)=>rawInt i).toArray) c) (hy:ys.Perm (List.range es.size)) :
  Walks prog w A I [I,a,tp] [I] es.size (fun i v=>∃ e,(ys.filterMap fun j=>es[j]?)[i]? = some e∧e.2=v) (fun i h=>IsSI h I (.ref tp) i a es.size ep∧h.get? a=some oa∧h.get? tp=some ot) where
 sub:=fun b hb=>by simp at hb;simp [hb]
 frame:=fun _ _ _ st hk=>⟨st.1.at fun o e=>hk I (by simp) o e,hk a (by simp) _ st.2.1,hk tp (by simp) _ st.2.2⟩
 item:=fun i s Q E hi st hQ=>by
  obtain ⟨x,ho,ht⟩:=st
  have hl:ys.length=es.size:=by rw [hy.length_eq,List.length_range]
  have hm:ys[i]'(by omega) < es.size:=List.mem_range.mp (hy.mem_iff.mp (List.getElem_mem _))
  have e1:((ys.map fun (i:Nat)=>rawInt i).toArray)[i]? = some (rawInt (ys[i]'(by omega):Nat)):=by
   rw [List.getElem?_toArray,List.getElem?_map,List.getElem?_eq_getElem (by omega)];rfl
  have all:∀ (zs:List Nat),(∀ z∈zs,z < es.size)→(zs.filterMap fun j=>es[j]?)=zs.map fun j=>es.getD j (0,.none):=fun zs=>by
   induction zs with
   | nil=>intro _;rfl
   | cons z zs ih=>
    intro hz
    have q:=hz z List.mem_cons_self
    rw [List.filterMap_cons,Array.getElem?_eq_getElem q,List.map_cons,ih fun z' m=>hz z' (List.mem_cons_of_mem _ m)]
    simp [Array.getD,q]
  have e2:(ys.filterMap fun j=>es[j]?)[i]? = some (es[ys[i]'(by omega)]):=by
   rw [all ys fun z m=>List.mem_range.mp (hy.mem_iff.mp m),List.getElem?_map,List.getElem?_eq_getElem (by omega)]
   simp [Array.getD,hm]
  refine nextT_item x ho hd hf ht hdt e1 (hx:=es[ys[i]'(by omega)].1) (x:=es[ys[i]'(by omega)].2) (Array.getElem?_eq_getElem hm) fun h' x' sb=>?_
  exact hQ _ h' s.toks ⟨_,e2,rfl⟩ ⟨x',by rw [sb.2 a hne];exact ho,by rw [sb.2 tp hnt];exact ht⟩ fun b o hb e=>by rw [sb.2 b (fun z=>hb (by simp [z]))];exact e
 done:=fun s Q E st hQ=>by
  obtain ⟨x,ho,ht⟩:=st
  refine nextT_end hh x ho hd hf ht hdt ?_ fun h' eb=>hQ h' s.toks fun b o hb e=>eb b o (fun z=>hb (by simp [z])) e
  rw [List.getElem?_toArray,List.getElem?_eq_none (by rw [List.length_map,hy.length_eq,List.length_range];exact Nat.le_refl _)]
 self:=fun _ _ _ _ st hQ=>self_si st.1 hQ
theorem slots_step {place:Array Nat} (hr:place.toList.Pairwise (· < ·)) (hz:place.size=es.size) {sl:Nat} (h1:∀ j (h:j < place.size),j < i→place[j] < sl) (h2:∀ j (h:j < place.size),i≤j→sl≤place[j]) (hi:i < es.size) :
  SetTable.below place sl=i∧(∀ j (h:j < place.size),j < i + 1→place[j] < place[i]'(by omega) + 1)∧∀ j (h:j < place.size),i + 1≤j→place[i]'(by omega) + 1≤place[j]:=by
 have mono:∀ a b (ha:a < place.size) (hb:b < place.size),a < b→place[a] < place[b]:=fun a b ha hb hab=>by
  have:=List.pairwise_iff_getElem.mp hr a b (by simpa using ha) (by simpa using hb) hab
  simpa using this
 refine ⟨below_at hr (by omega) h1 h2,fun j h hj=>?_,fun j h hj=>mono i j (by omega) h (by omega)⟩
 by_cases e:j=i
 ·subst e;exact Nat.lt_succ_self _
 ·exact Nat.lt_succ_of_lt (mono j i h (by omega) (by omega))
end
section
variable {prog:Program}{w:World}{K:Type} [DecidableEq K] {knd:KeyKind prog w K}
variable {A:Around}{E:Value→Shared→Prop}{s:Shared}
variable {a:Addr}{oa:Obj}{es:Array (Int×Value)}{ep:Nat}{t:SetTable}
theorem iter_set {Q:Value→Shared→Prop} (hex:oa.ExactSet) (ho:s.heap.get? a=some oa) (hd:oa.data=.set es ep t) (hf:t.fits es.size=true) (htl:Tl t (!byT w)) (hz:es.size < scanBound)
  (h:∀ (h':Heap) (d':Drawn) (I:Addr) (fp:List Addr) (xs:List (Int×Value)) (St:Nat→Heap→Prop),(∀ b o,s.heap.get? b=some o→h'.get? b=some o)→s.heap.objs.size≤I→(∀ b∈fp,b=a∨(s.heap.objs.size≤b∧b < h'.objs.size))→xs.Perm es.toList →
   (∀ A':Around,A'.handled=none→Walks prog w A' I fp [I] es.size (fun i v=>∃ e,xs[i]? = some e∧e.2=v) St)→St 0 h'→Q (.ref I) { s with heap:=h',drawn:=d' }):wpAny (model prog w) A (pyIter (.ref a)) Q E s:=by
 have hT:s.TypeIs (.ref a) "set":=⟨oa,ho,hex.1⟩
 have hlt:a < s.heap.objs.size:=Heap.lt_size ho
 have hpz:t.place.size=es.size:=by
  have:=hf
  unfold SetTable.fits at this
  exact beq_iff_eq.mp ((Bool.and_eq_true _ _).mp this).1
 refine wpAny_pyIter_slot hT F.slot_set_iter (wpAny_call_entry F.slot_set_iter hT entry_set_iter ?_ (F.args_set_iter_1 _))
 unfold Builtin.«frozenset.__iter__»
 refine wpAny_bind (m:=Builtin.Frozenset.slot0 "__iter__" ⟨[.ref a],[]⟩) (wpAny_pure ?_)
 unfold Builtin.Frozenset.sizeOf
 refine wpAny_bind (wpAny_bind (entries_ok ho hd hf (wpAny_pure ?_)))
 unfold setDrawn
 refine wpAny_bind (wpAny_bind (wpAny_setState_of ho hd hf ?_))
 dsimp only
 refine wpAny_bind (w_byText (wpAny_pure ?_))
 show wpAny _ _ (ite ((!byT w&&(!t.plain&&decide (es.size > 1)))=true) _ _) _ _ _
 have epoch:∀ (s1:Shared) (R:Nat→Shared→Prop),s1.heap.get? a=some oa→R ep s1→wpAny (model prog w) A.in1 (setEpoch a) R E s1:=fun s1 R g r=>by
  unfold setEpoch
  exact wpAny_bind (wpAny_setState_of g hd hf (wpAny_pure r))
 have plainRoad:∀ (xs:List (Int×Value)) (Sl:Nat→Nat→Prop),xs.Perm es.toList→Sl 0 0→(∀ A':Around,A'.handled=none→Walks prog w A' s.heap.objs.size [s.heap.objs.size,a] [s.heap.objs.size] es.size (fun i v=>∃ e,xs[i]? = some e∧e.2=v) (fun i h=>(∃ sl:Nat,IsSI h s.heap.objs.size (.int sl 0) i a es.size ep∧Sl i sl)∧h.get? a=some oa)) →
   wpAny (model prog w) A.in1 (pure (rawInt 0)) (fun first s1=>wpAny (model prog w) A.in1 (setEpoch a) (fun e s2=>wpAny (model prog w) A.in1 (newFields "set_iterator" [first,rawInt 0,.ref a,rawInt es.size,rawInt e]) (fun v s3=>wpAny (model prog w) A.in1 (ret v) (fun fin s'=>∃ v,fin=.done (.ret v)∧∃ T' r,s'.TypeIs v T'∧typeLookup (.type T') "__next__"=pure (some r)∧Q v s') E s3) E s2) E s1) E s:=fun xs Sl hp h0 W=>by
  refine wpAny_pure (epoch s _ ho ?_)
  refine wpAny_newObj_type (wpAny_pure ⟨_,rfl,"set_iterator",_,⟨_,Heap.get?_push_size _ rfl,rfl⟩,slot_si_next.lookup,?_⟩) (by size_fits)
  have e:∀ h1:Heap,({ s with heap:=h1 }:Shared)={ s with heap:=h1,drawn:=s.drawn }:=fun h1=>rfl
  rw [e]
  refine h _ s.drawn s.heap.objs.size _ xs _ (fun b o e=>Heap.get?_push_of_some _ e) (Nat.le_refl _) (fun b m=>?_) hp W ⟨⟨0,⟨_,Heap.get?_push_size _ rfl,rfl,rfl⟩,h0⟩,Heap.get?_push_of_some _ ho⟩
  rcases List.mem_cons.mp m with z | z
  ·exact .inr ⟨Nat.le_of_eq z.symm,by rw [Heap.size_push,z];exact Nat.lt_succ_self _⟩
  ·exact .inl (List.mem_singleton.mp z)
 have hne:a≠s.heap.objs.size:=Nat.ne_of_lt hlt
 cases hb:byT w with
 | true=>
  rw [if_neg (by simp)]
  refine wpAny_bind (wpAny_mono (plainRoad (pickOrder (w.params.setOrder a ep) es).toList (fun _ _=>True) (pick_perm _ _) trivial fun A' hh=>?_) (fun v s1 q=>wpAny_bind (wpAny_mono q (fun e s2 q=>wpAny_bind q) fun _ _ x=>x)) fun _ _ x=>x)
  have hl:(pickOrder (w.params.setOrder a ep) es).toList.length=es.size:=by rw [(pick_perm _ _).length_eq,Array.length_toList]
  refine walk_I hh hne hd hf _ _ (fun i sl _ hi=>⟨(pickOrder (w.params.setOrder a ep) es).toList[i]'(by omega),sl,List.getElem?_eq_getElem _,trivial,fun s' R E' g r=>setNext_text hb g hd hf ?_⟩) fun sl _ s' R E' g r=>setNext_text hb g hd hf ?_
  ·rw [← Array.getElem?_toList,List.getElem?_eq_getElem (by omega)];exact r
  ·rw [← Array.getElem?_toList,List.getElem?_eq_none (by omega)];exact r
 | false=>
  rw [hb] at htl
  have hled:t.led=true:=htl.1
  cases hp:(!t.plain&&decide (es.size > 1)) with
  | false=>
   rw [if_neg (by simp)]
   refine wpAny_bind (wpAny_mono (plainRoad es.toList (fun i sl=>(∀ j (h:j < t.place.size),j < i→t.place[j] < sl)∧∀ j (h:j < t.place.size),i≤j→sl≤t.place[j]) (List.Perm.refl _) ⟨fun j h q=>absurd q (Nat.not_lt_zero _),fun j h q=>Nat.zero_le _⟩ fun A' hh=>?_) (fun v s1 q=>wpAny_bind (wpAny_mono q (fun e s2 q=>wpAny_bind q) fun _ _ x=>x)) fun _ _ x=>x)
   refine walk_I hh hne hd hf _ _ (fun i sl hs hi=>?_) fun sl hs s' R E' g r=>setNext_slot hb g hd hf hled hp ?_
   ·obtain ⟨q1,q2,q3⟩:=slots_step htl.2.1 hpz hs.1 hs.2 hi
    refine ⟨es[i],t.place[i]'(by omega) + 1,by rw [Array.getElem?_toList,Array.getElem?_eq_getElem hi],⟨q2,q3⟩,fun s' R E' g r=>setNext_slot hb g hd hf hled hp ?_⟩
    rw [q1,Array.getElem?_eq_getElem hi,Array.getElem?_eq_getElem (by omega)]
    exact r
   ·have q:SetTable.below t.place sl=es.size:=below_at htl.2.1 (by omega) hs.1 hs.2
    rw [q,Array.getElem?_eq_none (Nat.le_refl _)]
    exact r
  | true=>
   rw [if_pos (by simp)]
   refine wpAny_bind (w_drawOrder (n:=es.size) (xs:=List.range es.size) (by rw [List.length_range]) fun ys d' hy=>?_)
   have hyl:ys.length=es.size:=by rw [hy.length_eq,List.length_range]
   refine wpAny_bind (wpAny_newObj_type ?_ (by show ((ys.map fun (i:Nat)=>rawInt i).toArray).size≤sizeLine;rw [List.size_toArray,List.length_map,hyl];exact fits_of_scanBound hz))
   refine wpAny_bind (epoch _ _ (Heap.get?_push_of_some _ ho) ?_)
   refine wpAny_bind (wpAny_newObj_type (wpAny_pure ⟨_,rfl,"set_iterator",_,⟨_,Heap.get?_push_size _ rfl,rfl⟩,slot_si_next.lookup,?_⟩) (by size_fits))
   have hsz:∀ o:Obj,(s.heap.push o).objs.size=s.heap.objs.size + 1:=fun o=>Heap.size_push ..
   refine h _ d' _ [_,a,s.heap.objs.size] (ys.filterMap fun j=>es[j]?) _ (fun b o e=>Heap.get?_push_of_some _ (Heap.get?_push_of_some _ e)) (by rw [hsz];exact Nat.le_succ _) (fun b m=>?_) ?_
    (fun A' hh=>walk_T (tp:=s.heap.objs.size) hh (by rw [hsz];exact Nat.ne_of_lt (Nat.lt_succ_of_lt hlt)) (by rw [hsz];exact Nat.ne_of_lt (Nat.lt_succ_self _)) hd hf rfl hy) ⟨⟨_,Heap.get?_push_size _ rfl,rfl,rfl⟩,Heap.get?_push_of_some _ (Heap.get?_push_of_some _ ho),Heap.get?_push_of_some _ (Heap.get?_push_size _ rfl)⟩
   ·rcases List.mem_cons.mp m with z | z
    ·refine .inr ⟨by rw [z,hsz];exact Nat.le_succ _,by rw [Heap.size_push,z];exact Nat.lt_succ_self _⟩
    ·rcases List.mem_cons.mp z with z | z
     ·exact .inl z
     ·have z:=List.mem_singleton.mp z
      exact .inr ⟨Nat.le_of_eq z.symm,by rw [Heap.size_push,hsz,z];exact Nat.lt_succ_of_lt (Nat.lt_succ_self _)⟩
   ·have q:=(hy.filterMap fun j=>es[j]?)
    rw [filterMap_getElem?_range] at q
    exact q
end
section
variable {prog:Program}{w:World}{A:Around}{E:Value→Shared→Prop}{s:Shared}
variable {a:Addr}{oa:Obj}{es:Array (Int×Value)}{ep:Nat}{t:SetTable}
theorem collect_set {Q:List Value→Shared→Prop} (hh:A.handled=none) (hex:oa.ExactSet) (ho:s.heap.get? a=some oa) (hd:oa.data=.set es ep t) (hf:t.fits es.size=true) (htl:Tl t (!byT w)) (hz:es.size < scanBound)
  (hQ:∀ s' (xs:List (Int×Value)),s.heap.objs.size≤s'.heap.objs.size→(∀ b o,s.heap.get? b=some o→s'.heap.get? b=some o)→s'.gens=s.gens→s'.os=s.os→xs.Perm es.toList→Q (xs.map (·.2)) s') :
  wpAny (model prog w) A (collect (.ref a)) Q E s:=by
 have hlt:a < s.heap.objs.size:=Heap.lt_size ho
 unfold collect
 refine wpAny_bind (wpAny_runValue (codeAny_builtin F.entry_proto_collect ?_))
 rw [Around.under_plainId F.plain_proto_collect _]
 show wpAny (model prog w) A.in1 (newList [] >>= fun l=>again (.builtin "list.__iadd__" ⟨[l,.ref a],[]⟩)) _ _ s
 refine wpAny_bind (wpAny_newObj_type ?_)
 refine wpAny_pure ⟨plainId_quiet F.plain_list_iadd _,codeAny_builtin F.entry_list_iadd ?_⟩
 rw [Around.under_plainId F.plain_list_iadd _]
 have hsz:(s.heap.push { cls:=.type "list",data:=.seq ([]:List Value).toArray }).objs.size=s.heap.objs.size + 1:=Heap.size_push ..
 have old1:∀ b o,s.heap.get? b=some o→(s.heap.push { cls:=.type "list",data:=.seq ([]:List Value).toArray }).get? b=some o:=fun b o e=>Heap.get?_push_of_some _ e
 have hS1:(s.heap.push { cls:=.type "list",data:=.seq ([]:List Value).toArray }).get? s.heap.objs.size=some { cls:=.type "list",data:=.seq ([]:List Value).toArray }:=Heap.get?_push_size _ rfl
 show wpAny (model prog w) A.in1 (Builtin.List.listExtendWith (.ref s.heap.objs.size) (.ref a) (.ref s.heap.objs.size)) _ _ { s with heap:=s.heap.push { cls:=.type "list",data:=.seq ([]:List Value).toArray } }
 generalize s.heap.push { cls:=.type "list",data:=.seq ([]:List Value).toArray }=h1 at hsz old1 hS1 ⊢
 have ho1:=old1 _ _ ho
 have hT1:({ s with heap:=h1 }:Shared).TypeIs (.ref a) "set":=⟨oa,ho1,hex.1⟩
 unfold Builtin.List.listExtendWith
 refine wpAny_bind (wpAny_typeOf hT1 ?_)
 have c1:Builtin.List.listSameRef (.ref s.heap.objs.size) (.ref a)=false:=by simp [Builtin.List.listSameRef,Nat.ne_of_gt hlt]
 have c2:(Value.type "set" == Value.type "list")=false:=by decide
 have c3:(Value.type "set" == Value.type "tuple")=false:=by decide
 simp only [c1,c2,c3,Bool.or_false,Bool.false_eq_true,if_false]
 refine wpAny_bind (iter_set (s:={ s with heap:=h1 }) hex ho1 hd hf htl hz fun h2 d' I fp xs St old2 hI hfp hp W st0=>?_)
 refine wpAny_bind (wpAny_holding ?_)
 have ho2:=old2 _ _ ho1
 have hT2:({ s with heap:=h2,drawn:=d' }:Shared).TypeIs (.ref a) "set":=⟨oa,ho2,hex.1⟩
 have hS2:=old2 _ _ hS1
 unfold Builtin.List.listLengthHint
 refine wpAny_bind (wpAny_specialOf (s:={ s with heap:=h2,drawn:=d' }) hT2 len_set_special ?_)
 generalize hid:("set.__len__":String)=id0
 (fail_if_success (clear hid id0))
 wp_delta
 rw [show splitId id0=some ("set","__len__") from by subst hid;decide +kernel]
 subst hid
 refine wpAny_bind (wpAny_isInstance (b:=true) hT2 (by rw [isSubtype_type];kernel_rfl) ?_)
 show wpAny (model prog w) A.in1 (typeOf (.ref a) >>= _) _ _ _
 refine wpAny_bind (wpAny_typeOf hT2 ?_)
 refine wpAny_pure ?_
 show wpAny (model prog w) A.in1 (rule "list.extend.makes-room" >>= fun _=>Builtin.List.listTouch (.ref s.heap.objs.size) >>= fun _=>again (.builtin "list.extend.loop" ⟨[.ref s.heap.objs.size,.ref _,.ref s.heap.objs.size],[]⟩)) _ _ _
 refine wpAny_bind (wpAny_rule ?_)
 refine wpAny_bind ?_
 show wpAny (model prog w) A.in1 (updateSeq s.heap.objs.size (·.push .none) >>= fun _=>updateSeq s.heap.objs.size (·.pop)) _ _ _
 refine wpAny_bind (wpAny_updateSeq hS2 rfl ?_)
 have hS3:=Heap.get?_update_self (Obj.mapSeq (·.push Value.none)) hS2 rfl
 refine wpAny_updateSeq hS3 rfl ?_
 have hS4:=Heap.get?_update_self (Obj.mapSeq (·.pop)) hS3 rfl
 have oth:∀ b o,b≠s.heap.objs.size→h2.get? b=some o→((h2.update s.heap.objs.size (Obj.mapSeq (·.push Value.none))).update s.heap.objs.size (Obj.mapSeq (·.pop))).get? b=some o:=
  fun b o hb e=>(Heap.get?_update_other _ _ (Ne.symm hb)).trans ((Heap.get?_update_other _ _ (Ne.symm hb)).trans e)
 have nf:s.heap.objs.size∉fp:=fun m=>by
  rcases hfp _ m with z | ⟨z,_⟩
  ·exact Nat.ne_of_gt hlt z
  ·dsimp only at z
   rw [hsz] at z
   exact Nat.not_succ_le_self _ z
 have W':=(W A.in1 hh).toS
 refine wpAny_pure ⟨plainId_quiet F.plain_extend_loop _,codeAny_extend_loopS W' (fits_of_scanBound hz) s.heap.objs.size nf _ es.size 0 _ _ _ rfl (Nat.zero_le _) ?_ hS4 (ItemsOf.nil _) fun s' acc' c' hmv hS' hacc=>?_⟩
 ·exact (W A.in1 hh).frame 0 _ _ st0 fun b hb o e=>oth b o (fun z=>nf (z ▸ hb)) e
 ·show wpAny (model prog w) A (load s.heap.objs.size >>= _) _ _ s'
  refine wpAny_bind (wpAny_load hS' ?_)
  have hxl:xs.length=es.size:=by rw [hp.length_eq,Array.length_toList]
  have ea:acc'.toList=xs.map (·.2):=by
   apply List.ext_getElem?
   intro j
   rw [List.getElem?_map,Array.getElem?_toList]
   by_cases hj:j < acc'.size
   ·rw [Array.getElem?_eq_getElem hj]
    obtain ⟨e,e1,e2⟩:=hacc.2 j acc'[j] (Array.getElem?_eq_getElem hj)
    rw [e1,Option.map_some,e2]
   ·rw [Array.getElem?_eq_none (by omega),List.getElem?_eq_none (by rw [hxl,← hacc.1];omega)];rfl
  refine wpAny_pure ?_
  show Q acc'.toList s'
  rw [ea]
  refine hQ s' xs (Nat.le_of_lt (Heap.lt_size hS')) (fun b o e=>?_) hmv.gens hmv.os hp
  have hb:b < s.heap.objs.size:=Heap.lt_size e
  refine hmv.heap b o ?_ (oth b o (Nat.ne_of_lt hb) (old2 b o (old1 b o e)))
  intro m
  rcases List.mem_cons.mp m with z | z
  ·exact absurd hb (by rw [z];exact Nat.lt_irrefl _)
  ·have z:=List.mem_singleton.mp z
   dsimp only at hI
   rw [hsz] at hI
   exact absurd (Nat.lt_of_lt_of_le hb (Nat.le_of_succ_le hI)) (by rw [z];exact Nat.lt_irrefl _)
end
open PySem PyProof.Rows
abbrev freshSet (w:World):Obj:={ cls:=.type "set",dict:=none,data:=.set #[] 0 (.fresh 0 0 (!byT w)) }
section
variable {prog:Program}{w:World}{A:Around}{E:Value→Shared→Prop}{s:Shared}
theorem set_new {v:Value}{R:Value→Shared→Prop} (h:R (.ref s.heap.objs.size) { s with heap:=s.heap.push (freshSet w) }):codeAny (model prog w) A (.call (.builtin "set.__new__") ⟨[.type "set",v],[]⟩) (wants R E) s:=by
 have hsub:=sub_set_self
 refine codeAny_of_tree ?_
 show wpAny _ A.in1 (checkBuiltinCall "set.__new__" ⟨[.type "set",v],[]⟩ >>= fun _=>again (.builtin "set.__new__" ⟨[.type "set",v],[]⟩)) _ _ s
 refine wpAny_bind (wpAny_of_eq (F.newCall_set_1 v) (wpAny_pure ⟨plainId_quiet F.plain_set_new _,codeAny_builtin F.entry_set_new ?_⟩))
 rw [Around.under_plainId F.plain_set_new _]
 unfold Builtin.«set.__new__» Builtin.Frozenset.newClass
 obtain ⟨hp,g,d,tk,os⟩:=s
 dsimp only
 wp_walk
 refine wpAny_askSetting (wpAny_pure ?_)
 dsimp only
 refine wpAny_newObj_type ?_ (by size_fits)
 exact wpAny_pure h
end
section
variable {prog:Program}{w:World}{K:Type} [DecidableEq K] {knd:KeyKind prog w K}
variable {A:Around}{E:Value→Shared→Prop}{s:Shared}
set_option maxHeartbeats 3200000 in
theorem call_set_dict {d:Addr}{kvs:List (K×Value)}{ep:Nat}{Q:Value→Shared→Prop} (hs:(d == sysModules)=false) (hm:s.heap.DictAt knd d kvs ep) (hsc:∀ k v,knd.is k v=true→v.scannable=true) (hn:kvs.length < 250)
  (h:∀ h' U,(∀ b o,s.heap.get? b=some o→h'.get? b=some o)→s.heap.objs.size < h'.objs.size→SetU knd h' s.heap.objs.size U (!byT w)→(∀ k,k∈U↔k∈kvs.map (·.1))→U.length≤kvs.length→Q (.ref s.heap.objs.size) { s with heap:=h' }) :
  wpAny (model prog w) A (call (.type "set") [.ref d]) Q E s:=by
 obtain ⟨c,tl,hmro⟩:=F.called_set.mro
 have hmade:=F.called_set.made
 have hsub:=F.called_set.sub
 have h1:=F.called_set.notType
 have h2:=F.called_set.canCreate
 have hct:=F.typeCall_set_1 (.ref d)
 refine wpAny_call (codeAny_of_tree ?_)
 show wpAny _ _ (callAny (.type "set") _) _ _ _
 refine wpAny_pure ⟨Code.quiet_builtin _ (by decide +kernel),codeAny_builtin F.entry_type_call ?_⟩
 rw [Around.under_plain (weight_type_call_type "set" [.ref d] []) rfl]
 repeat (any_goals (first | assumption | wp_step))
 refine codeAny_mono (set_new (v:=.ref d) (E:=E) (R:=fun obj s₁=>obj=.ref s.heap.objs.size∧s₁={ s with heap:=s.heap.push (freshSet w) }) ⟨rfl,rfl⟩) fun r s₁ hr=>?_
 cases r with
 | error e=>exact hr
 | ok fl=>
  cases fl with
  | ret obj=>
   obtain ⟨rfl,rfl⟩:=hr
   have hS:(s.heap.push (freshSet w)).get? s.heap.objs.size=some (freshSet w):=Heap.get?_push_size _ rfl
   have hT:Shared.TypeIs { s with heap:=s.heap.push (freshSet w) } (.ref s.heap.objs.size) "set":=⟨_,hS,rfl⟩
   have hli:=F.called_set.init.lookup
   have hbi:=F.called_set.init.bind (.ref s.heap.objs.size)
   repeat (any_goals (first | assumption | wp_step))
   refine codeAny_mono (codeAny_call_builtin (R:=wants (fun r s₂=>r=.none∧∃ h' U,s₂={ s with heap:=h' }∧(∀ b o,s.heap.get? b=some o→h'.get? b=some o)∧s.heap.objs.size < h'.objs.size∧SetU knd h' s.heap.objs.size U (!byT w)∧(∀ k,k∈U↔k∈kvs.map (·.1))∧U.length≤kvs.length) E)
    F.called_set.init.plain F.entry_set_init (check_set_init_1 hT ?_)) fun r₂ s₂ hr₂=>?_
   ·have hm1:=hm.push (freshSet w)
    have hlt:d < s.heap.objs.size:=hm.lt_size
    unfold Builtin.«set.__init__» noKeywords
    generalize hUP:Builtin.Frozenset.updateFrom=UP
    wp_walk
    subst hUP
    refine fromDict (knd:=knd) (led:=!byT w) hS ⟨rfl,rfl,rfl⟩ rfl (bare_fresh _) (Nat.ne_of_gt hlt) hs hm1 hsc hn fun h' U sb q1 q2 q3=>wpAny_pure ⟨rfl,h',U,rfl,fun b o e=>?_,?_,q1,q2,q3⟩
    ·rw [sb.2 b (Nat.ne_of_lt (Heap.lt_size e))]
     exact Heap.get?_push_of_some _ e
    ·rw [sb.1,Heap.size_push]
     exact Nat.lt_succ_self _
   ·cases r₂ with
    | error e=>exact hr₂
    | ok fl₂=>
     cases fl₂ with
     | ret r=>
      obtain ⟨rfl,h',U,rfl,k1,k2,k3,k4,k5⟩:=hr₂
      repeat (any_goals (first | assumption | wp_step))
      exact h _ _ k1 k2 k3 k4 k5
     | _=>exact hr₂
  | _=>exact hr
end
end L2.SetT
namespace L2
open PySem PySem.Spec PyProof.Rows L2.SetT
theorem SetT.SetU.parts {prog:Program}{w:World}{K:Type} [DecidableEq K] {knd:KeyKind prog w K}{h:Heap}{a:Addr}{U:List K}{led:Bool} (x:SetU knd h a U led):U.Nodup∧∃ o es ep t,h.get? a=some o∧o.ExactSet∧o.data=.set es ep t∧ElemsOf knd es.toList∧(∀ k,k∈U↔∃ e∈es.toList,knd.is k e.2=true)
  ∧ es.size < scanBound∧t.fits es.size=true∧es.size=U.length∧Tl t led:=by
 obtain ⟨nd,o,es,ep,t,h1,h2,h3,h4,h5,r⟩:=x
 exact ⟨nd,o,es,ep,t,h1,h2,h3,h4,fun k=>by rw [← h5 k,decide_eq_true_eq],r⟩
def SetO (P:Program) (w:World) (a:Addr) (U:List Int):HO:=.ext fun h=>SetU (mixKind P w) h a (U.map Sum.inl) (!byT w)
theorem mix_scan {P:Program}{w:World} (k:Key) (v:Value) (h:(mixKind P w).is k v=true):v.scannable=true:=by
 rcases keyIs_shape (show keyIs k v=true from h) with ⟨i,t,rfl,rfl⟩ | ⟨x,t,rfl,rfl⟩ <;> rfl
theorem SetO.ok {P:Program}{w:World}{H:Hp}{h:Heap}{a:Addr}{U:List Int} (x:SetU (mixKind P w) h a (U.map Sum.inl) (!byT w)):ObjOk P w H h a (SetO P w a U):=by
 obtain ⟨_,o,_,_,_,ho,_⟩:=id x
 exact ⟨x,⟨o,ho⟩,fun h1 h2 q e=>q.keep e⟩
theorem SetO.get {P:Program}{w:World}{H:Hp}{h:Heap}{a:Addr}{U:List Int} (ok:HOk P w H h) (e:H a=some (SetO P w a U)):SetU (mixKind P w) h a (U.map Sum.inl) (!byT w):=
 (show ObjOk P w H h a (SetO P w a U) from ok a _ e).1
theorem all_inl:∀ {U:List Key},(∀ k∈U,∃ i:Int,k=Sum.inl i)→∃ W:List Int,U=W.map Sum.inl
 | [],_=>⟨[],rfl⟩
 | k::U,h=>by
  obtain ⟨i,rfl⟩:=h k List.mem_cons_self
  obtain ⟨W,e⟩:=all_inl fun j m=>h j (List.mem_cons_of_mem _ m)
  exact ⟨i::W,by rw [e];rfl⟩
theorem mem_inl {W:List Int}{i:Int}:(Sum.inl i:Key)∈W.map Sum.inl↔i∈W:=by
 rw [List.mem_map]
 exact ⟨fun ⟨j,m,e⟩=>by cases e;exact m,fun m=>⟨i,m,rfl⟩⟩
theorem nodup_inl {W:List Int} (h:(W.map (Sum.inl:Int→Key)).Nodup):W.Nodup:=by
 rw [List.Nodup,List.pairwise_map] at h
 exact h.imp fun q e=>q (by rw [e])
theorem perm_of_sub:∀ {U ns:List Int},U.Nodup→(∀ k∈U,k∈ns)→ns.length=U.length→ns.Perm U
 | [],ns,_,_,hl=>by
  have:ns=[]:=List.eq_nil_of_length_eq_zero hl
  subst this;exact List.Perm.refl _
 | u::U,ns,nd,sub,hl=>by
  obtain ⟨n1,n2⟩:=List.nodup_cons.mp nd
  have mu:=sub u List.mem_cons_self
  have p:=List.perm_cons_erase mu
  have q:(ns.erase u).Perm U:=perm_of_sub n2 (fun k m=>(List.mem_erase_of_ne (fun e=>n1 (by rw [← e];exact m))).mpr (sub k (List.mem_cons_of_mem _ m))) (by rw [List.length_erase_of_mem mu,hl];rfl)
  exact p.trans (q.cons u)
theorem ints_of_set {P:Program}{w:World}{U:List Int}:∀ (xs:List (Int×Value)),(∀ e∈xs,∃ i∈U,∃ t,e.2=.int i t)→∃ ns:List Int,IntsAre (xs.map (·.2)) ns∧ns.length=xs.length∧∀ e∈xs,∀ i t,e.2=.int i t→i∈ns
 | [],_=>⟨[],.nil,rfl,fun e m=>nomatch m⟩
 | x::xs,h=>by
  obtain ⟨ns,h1,h2,h3⟩:=ints_of_set (P:=P) (w:=w) xs fun e m=>h e (List.mem_cons_of_mem _ m)
  obtain ⟨i,_,t,e⟩:=h x List.mem_cons_self
  refine ⟨i::ns,by rw [List.map_cons,e];exact .cons i t h1,by rw [List.length_cons,h2,List.length_cons],fun e' m j u q=>?_⟩
  rcases List.mem_cons.mp m with z | z
  ·rw [z,e] at q
   cases q
   exact List.mem_cons_self
  ·exact List.mem_cons_of_mem _ (h3 e' z j u q)
def rSet (P:Program) (w:World):List V→Hp→VK→Prop:=fun xs H Q=>∃ (p:Addr) (kvs:List (Key×V)) (ks:List Int),xs=[.ref p]∧H p=some (.dK kvs)∧kvs.map (·.1)=ks.map Sum.inl∧ks.length < 120 ∧
 ∀ (l:Addr) (U:List Int),H l=none→U.Nodup→(∀ k,k∈U↔k∈ks)→U.length≤ks.length→Q (.ref l) (upd H l (SetO P w l U))
def rOr (P:Program) (w:World):R2:=fun x y H Q=>∃ (a b:Addr) (U V':List Int),x=.ref a∧y=.ref b∧H a=some (SetO P w a U)∧H b=some (SetO P w b V')∧a≠b∧U.length + V'.length < 250 ∧
 ∀ (l:Addr) (W:List Int),H l=none→W.Nodup→(∀ k,k∈W↔k∈U∨k∈V')→W.length≤U.length + V'.length→Q (.ref l) (upd H l (SetO P w l W))
def rSortS (P:Program) (w:World):List V→Hp→VK→Prop:=fun xs H Q=>∃ (p:Addr) (U:List Int),xs=[.ref p]∧H p=some (SetO P w p U)∧U.length < 64 ∧
 ∀ (l:Addr) (ks':List Int),H l=none→ks'.Perm U→ks'.Pairwise (·≤·)→Q (.ref l) (upd H l (.lst (ks'.map V.int)))
section
variable {X:Cx}
theorem call_set:CallR X (.type "set") (rSet X.prog X.w):=by
 intro pins s σ H xs us Q I r h
 obtain ⟨p,kvs,ks,rfl,hp,hk,hn,q⟩:=h
 obtain ⟨u,rfl,ru⟩:=vals1 r
 cases ru
 obtain ⟨hz,hd,vs,rel,dd⟩:=dk_of I.hok hp
 obtain ⟨ep,dd⟩:=dd.dictAt
 have hl:kvs.length=ks.length:=by
  have:=congrArg List.length hk
  rwa [List.length_map,List.length_map] at this
 refine call_set_dict (knd:=mixKind X.prog X.w) hd dd mix_scan (by rw [← rel.length];omega) fun h' U k1 k2 k3 k4 k5=>?_
 have keys:vs.map (·.1)=ks.map Sum.inl:=by rw [← rel.keys];exact hk
 rw [keys] at k4
 obtain ⟨W,rfl⟩:=all_inl (U:=U) fun k m=>by
  obtain ⟨i,_,e⟩:=List.mem_map.mp ((k4 k).mp m)
  exact ⟨i,e.symm⟩
 refine ⟨.ref s.heap.objs.size,upd H s.heap.objs.size (SetO X.prog X.w s.heap.objs.size W),I.laid (t':=s.toks) k1 (Nat.le_refl _) (SetO.ok k3),rfl,q _ W (I.hok.fresh (Nat.le_refl _)) (nodup_inl k3.1) (fun k=>?_) ?_⟩
 ·rw [← mem_inl (W:=W),k4,mem_inl]
 ·rw [List.length_map,← rel.length,hl] at k5;exact k5
theorem op_orS:OpR X (binaryOp .BitOr) (rOr X.prog X.w):=by
 intro pins s σ H x y u v Q I rx ry h
 obtain ⟨a,b,U,V',rfl,rfl,ha,hb,hab,hn,q⟩:=h
 cases rx
 cases ry
 refine or_ok (knd:=mixKind X.prog X.w) hab (SetO.get I.hok ha) (SetO.get I.hok hb) (by rw [List.length_map,List.length_map];exact hn) fun h' W k1 k2 k3 k4 k5=>?_
 obtain ⟨W,rfl⟩:=all_inl (U:=W) fun k m=>by
  rcases (k4 k).mp m with z | z
  ·obtain ⟨i,_,e⟩:=List.mem_map.mp z
   exact ⟨i,e.symm⟩
  ·obtain ⟨i,_,e⟩:=List.mem_map.mp z
   exact ⟨i,e.symm⟩
 refine ⟨.ref s.heap.objs.size,upd H s.heap.objs.size (SetO X.prog X.w s.heap.objs.size W),I.laid (t':=s.toks) k1 (Nat.le_refl _) (SetO.ok k3),rfl,q _ W (I.hok.fresh (Nat.le_refl _)) (nodup_inl k3.1) (fun k=>?_) ?_⟩
 ·rw [← mem_inl (W:=W),k4,mem_inl,mem_inl]
 ·rw [List.length_map,List.length_map,List.length_map] at k5;exact k5
theorem call_sortS (hc:X.calm=true):CallR X (.builtin "sorted") (rSortS X.prog X.w):=by
 intro pins s σ H xs us Q I r h
 obtain ⟨p,U,rfl,hp,h64,q⟩:=h
 obtain ⟨u,rfl,ru⟩:=vals1 r
 cases ru
 have hh:X.A.handled=none:=I.ok.hd hc
 obtain ⟨nd,o,es,ep,t,ho,hex,hd,hel,hmem,hb,hf,hn,htl⟩:=(SetO.get I.hok hp).parts
 rw [List.length_map] at hn
 refine sorted_by fun Q' hQ'=>?_
 refine collect_set (A:=X.A.in1) hh hex ho hd hf htl hb fun s' xs hle kp e1 e3 hpm=>?_
 have isInt:∀ e∈xs,∃ i∈U,∃ t,e.2=.int i t:=fun e m=>by
  have m2:=hpm.mem_iff.mp m
  obtain ⟨⟨k,q1,q2⟩,q3⟩:=hel e m2
  have m3:=(hmem k).mpr ⟨e,m2,q1⟩
  obtain ⟨i,m4,rfl⟩:=List.mem_map.mp m3
  rcases keyIs_shape (show keyIs (Sum.inl i) e.2=true from q1) with ⟨j,t',z1,z2⟩ | ⟨y,t',z1,z2⟩
  ·cases z1
   exact ⟨i,m4,t',z2⟩
  ·cases z1
 obtain ⟨ns,n1,n2,n3⟩:=ints_of_set (P:=X.prog) (w:=X.w) xs isInt
 have hxl:xs.length=U.length:=by rw [hpm.length_eq,Array.length_toList,hn]
 have pm:ns.Perm U:=perm_of_sub (nodup_inl nd) (fun k m=>by
  obtain ⟨e,m2,z⟩:=(hmem (Sum.inl k)).mp (mem_inl.mpr m)
  have m3:=hpm.mem_iff.mpr m2
  rcases keyIs_shape (show keyIs (Sum.inl k) e.2=true from z) with ⟨j,t',z1,z2⟩ | ⟨y,t',z1,z2⟩
  ·cases z1
   exact n3 e m3 k t' z2
  ·cases z1) (by rw [n2,hxl])
 refine hQ' _ s' ⟨⟨ns,n1,fun out ns' a1 a2 a3=>?_⟩,?_⟩
 ·obtain ⟨h',g',d',t',o'⟩:=s'
  dsimp only at e1 e3 kp hle
  subst e1 e3
  obtain ⟨e,he⟩:=sortedHeap_at (vs:=xs.map (·.2)) (n:=0) (out:=out) (show (h'.push (seqObj "list" (xs.map (·.2)).toArray 0)).get? h'.objs.size=some (seqObj "list" (xs.map (·.2)).toArray 0) from Heap.get?_push_size _ rfl)
  have p2:=a2.trans pm
  have hlen:ns'.length < 64:=by rw [p2.length_eq];exact h64
  have kk:∀ b ob,s.heap.get? b=some ob→(sortedHeap (h'.push (seqObj "list" (xs.map (·.2)).toArray 0)) h'.objs.size (xs.map (·.2)) out).get? b=some ob:=fun b ob eb=>by
   have hb:b < h'.objs.size:=Heap.lt_size (kp b ob eb)
   rw [sortedHeap_old (Nat.ne_of_lt hb) (by rw [Heap.size_push];exact Nat.lt_succ_of_lt hb)]
   exact Heap.get?_push_of_some _ (kp b ob eb)
  refine ⟨.ref h'.objs.size,upd H h'.objs.size (.lst (ns'.map V.int)),?_,rfl,q _ ns' (I.hok.fresh hle) p2 a3⟩
  refine I.call' (ch:=[]) rfl (Un.laid kk hle (I.hok.fresh hle)) (I.hok.laid kk hle ?_) I.bare fun b z=>absurd z (by simp)
  exact ⟨by rw [List.length_map];exact Nat.le_of_lt (small1000 (by omega)),out.toList,e,vals_ints a1,by rw [he]⟩
 ·rw [List.length_map,hxl]
  first | exact h64 | exact Nat.le_of_lt (small1000 (by omega))
end
end L2
namespace L2.Ev
open PySem PySem.Spec PyProof.Rows L2.SetT
def uni (a b:List Int):List Int:=b.foldl addK (a.foldl addK [])
theorem foldK_mem {k:Int}:∀ {b U:List Int},k∈b.foldl addK U↔k∈U∨k∈b
 | [],U=>by simp
 | j::b,U=>by
  rw [List.foldl_cons,foldK_mem,mem_addK,List.mem_cons,or_assoc]
theorem foldK_nodup:∀ {b U:List Int},U.Nodup→(b.foldl addK U).Nodup
 | [],U,h=>h
 | j::b,U,h=>foldK_nodup (b:=b) (nodup_addK h)
theorem uni_mem {a b:List Int}{k:Int}:k∈uni a b↔k∈a∨k∈b:=by
 unfold uni
 rw [foldK_mem,foldK_mem]
 simp
theorem uni_nodup {a b:List Int}:(uni a b).Nodup:=foldK_nodup (foldK_nodup List.nodup_nil)
def oUni:D→D→Option D
 | .dic a,.dic b=>match keysI a,keysI b with
  | some ks,some js=>if ks.length < 120∧js.length < 120∧(uni ks js).length < 64 then some (.lst ((srt (uni ks js)).map D.int)) else none
  | _,_=>none
 | _,_=>none
theorem oUni_of {d1 d2 d:D} (e:oUni d1 d2=some d):∃ a b ks js,d1=.dic a∧d2=.dic b∧keysI a=some ks∧keysI b=some js∧(ks.length < 120∧js.length < 120∧(uni ks js).length < 64)∧d=.lst ((srt (uni ks js)).map D.int):=by
 cases d1 with
 | dic a=>
  cases d2 with
  | dic b=>
   unfold oUni at e
   dsimp only at e
   cases h1:keysI a with
   | none=>rw [h1] at e;cases e
   | some ks=>
    cases h2:keysI b with
    | none=>rw [h1,h2] at e;cases e
    | some js=>
     rw [h1,h2] at e
     dsimp only at e
     by_cases h:ks.length < 120∧js.length < 120∧(uni ks js).length < 64
     ·rw [if_pos h] at e
      cases e
      exact ⟨a,b,ks,js,rfl,rfl,h1,h2,h,rfl⟩
     ·rw [if_neg h] at e;cases e
  | _=>cases e
 | _=>cases d2 <;> cases e
theorem Rep.dic_of {K:PySem.W.Frag}{H:Hp}{es:List (Key×D)}{v:V}{fp:List Addr} (r:Rep K H (.dic es) v fp):∃ a kvs,v=.ref a∧H a=some (.dK kvs)∧es.map (·.1)=kvs.map (·.1):=by
 cases r with
 | dic h e _=>exact ⟨_,_,rfl,h,e⟩
theorem boot_set':bootBuiltins "set"=some (.type "set"):=by decide +kernel
theorem Same.new {H:Hp}{l:Addr}{o:HO} (h:H l=none):Same H (upd H l o):=fun b o' e=>by rw [upd_ne (ne_of_none e h)];exact e
section
variable {X:Cx}{a b:Expr}{fa fb:EF}{p p1 p2 p3 p4 p5 pos:Pos}
theorem fp_uni (hc:X.calm=true) (hm:X.mg "sorted"=none) (hm2:X.mg "set"=none) (ha:FP X a fa) (hb:FP X b fb) (hg:Gl X "sorted":=by rfl) (hg2:Gl X "set":=by rfl)
  (hsa:starEach [a] X.env=[(false,eval a X.env)]:=by rfl) (hsb:starEach [b] X.env=[(false,eval b X.env)]:=by rfl)
  (hs:starEach [.BinOp (.Call (.Name "set" p1) [a] [] p2) .BitOr (.Call (.Name "set" p3) [b] [] p4) p5] X.env=[(false,eval (.BinOp (.Call (.Name "set" p1) [a] [] p2) .BitOr (.Call (.Name "set" p3) [b] [] p4) p5) X.env)]:=by rfl) :
  FP X (.Call (.Name "sorted" p) [.BinOp (.Call (.Name "set" p1) [a] [] p2) .BitOr (.Call (.Name "set" p3) [b] [] p4) p5] [] pos) (e2 oUni fa fb):=by
 obtain ⟨ta,pa,sa⟩:=ha
 obtain ⟨tb,pb,sb⟩:=hb
 refine ⟨_,pe_callB (call_sortS hc) hg hm boot_sorted' (pa_cons (pe_op op_orS (pe_callTy call_set hg2 hm2 boot_set' (pa_cons pa pa_nil hsa) (he:=hsa) (hpl:=rfl)) (pe_callTy call_set hg2 hm2 boot_set' (pa_cons pb pa_nil hsb) (he:=hsb) (hpl:=rfl))) pa_nil hs) (he:=hs) (hpl:=rfl),fun H0 S z held ρ σ H Q d tg ok e q=>?_⟩
 obtain ⟨d1,t1,d2,t2,e1,e2',e3,rfl⟩:=e2_of e
 obtain ⟨es1,es2,ks,js,rfl,rfl,k1,k2,hn,rfl⟩:=oUni_of e3
 refine sa H0 S z held ρ σ H _ _ t1 ok e1 fun H1 x f1 s1 r1 _=>?_
 obtain ⟨pa',kv1,rfl,ha1,hk1⟩:=r1.dic_of
 refine ⟨pa',kv1,ks,rfl,ha1,by rw [← hk1];exact keysI_of k1,by omega,fun l1 U hl1 ndU mU lU=>?_⟩
 have s1':Same H (upd H1 l1 (SetO X.prog X.w l1 U)):=s1.trans (Same.new hl1)
 refine sb H0 S z held ρ σ _ _ _ t2 (ok.same s1') e2' fun H2 y f2 s2 r2 _=>?_
 obtain ⟨pb',kv2,rfl,hb1,hk2⟩:=r2.dic_of
 refine ⟨pb',kv2,js,rfl,hb1,by rw [← hk2];exact keysI_of k2,by omega,fun l2 V' hl2 ndV mV lV=>?_⟩
 have g1:H2 l1=some (SetO X.prog X.w l1 U):=s2 _ _ upd_same
 have n12:l1≠l2:=ne_of_none g1 hl2
 refine ⟨l1,l2,U,V',rfl,rfl,by rw [upd_ne n12];exact g1,upd_same,n12,by omega,fun l3 W hl3 ndW mW lW=>?_⟩
 have pw:W.Perm (uni ks js):=(List.perm_ext_iff_of_nodup ndW uni_nodup).mpr fun k=>by rw [mW,mU,mV,uni_mem]
 refine ⟨l3,W,rfl,upd_same,by rw [pw.length_eq];exact hn.2.2,fun l4 ks' hl4 pm srtd=>?_⟩
 have eq:=srt_unique (pm.trans pw) srtd
 subst eq
 have s3:Same H2 (upd H2 l2 (SetO X.prog X.w l2 V')):=Same.new hl2
 have s4:=Same.new (o:=SetO X.prog X.w l3 W) hl3
 have s5:=Same.new (o:=.lst ((srt (uni ks js)).map V.int)) hl4
 have sAll:=(((s1'.trans s2).trans s3).trans s4).trans s5
 refine q _ _ [l4] sAll (.lst upd_same (reps_ints _)) ⟨List.nodup_cons.mpr ⟨(fun m=>by cases m),List.nodup_nil⟩,fun c m=>?_⟩
 cases List.mem_singleton.mp m
 exact (((s1'.trans s2).trans s3).trans s4).free hl4
end
end L2.Ev
namespace L2.Ev
open PySem PySem.Spec PyProof.Rows
section
variable {X:Cx}{pos:Pos}
theorem ft_dNotIn {a b:Expr}{fa fb:EF} (hu:X.A.units + 1 < cLine) (ha:FP X a fa) (hb:FP X b fb) (hm:behindInMarks .NotIn b=false:=by rfl):FT X (.Compare a [.NotIn] [b] pos) (tV (e2 (oDIn true) fa fb)):=by
 obtain ⟨ta,pa,sa⟩:=ha
 obtain ⟨tb,pb,sb⟩:=hb
 refine ⟨_,pt_cmp (t:=tOp (rDIn true) ta tb) (pc_dnotin hu pa pb) hm,fun H0 S z held ρ σ H Q c ok e k=>?_⟩
 obtain ⟨tg,e0⟩:=tV_of e
 obtain ⟨d1,t1,d2,t2,e1,e2',e3,rfl⟩:=e2_of e0
 refine sa H0 S z held ρ σ H _ d1 t1 ok e1 fun H1 x f1 s1 r1 _=>?_
 refine sb H0 S z held ρ σ H1 _ d2 t2 (ok.same s1) e2' fun H2 y f2 s2 r2 _=>?_
 refine does_dIn H2 x y d1 d2 f1 f2 _ _ (r1.same s2) r2 e3 fun H3 v s3 r3=>?_
 cases r3
 exact ⟨c,rfl,k H3 ((s1.trans s2).trans s3)⟩
end
section
variable {X:Cx}{o a b c d:Expr}{fo fa fb fc fd:EF}{p p1 p2 p3 p4 pos:Pos}
theorem fi_range3P {tg:Expr}{i:Int} {j} (hm:X.mg "range"=none) (ha:FP X a fa) (hb:FP X b fb) (hg:Gl X "range":=by rfl) (hs:starEach [a,b,.Constant (.int i) j p4] X.env=[(false,eval a X.env),(false,eval b X.env),(false,eval (.Constant (.int i) j p4) X.env)]:=by rfl)
  (hs2:starEach [b,.Constant (.int i) j p4] X.env=[(false,eval b X.env),(false,eval (.Constant (.int i) j p4) X.env)]:=by rfl) (hs3:starEach [.Constant (.int i) j p4] X.env=[(false,eval (.Constant (.int i) j p4) X.env)]:=by rfl) :
  FI X tg (.Call (.Name "range" p) [a,b,.Constant (.int i) j p4] [] pos) (iR3 fa fb i):=by
 obtain ⟨tc,pc,qc⟩:=fp_int (X:=X) (i:=i) (j:=j) (pos:=p4)
 obtain ⟨ta,pa,qa⟩:=ha
 obtain ⟨tb,pb,qb⟩:=hb
 refine ⟨_,pi_range3 hg hm (pa_cons pa (pa_cons pb (pa_cons pc pa_nil hs3) (by rw [hs2,hs3])) (by rw [hs,hs2])) hs hs2,fun H0 S z held ρ σ H R ds t ok e k=>?_⟩
 unfold iR3 at e
 split at e
 ·rename_i n t1 m t2 e1 e2
  by_cases hc:(decide (i≠0)&&decide (i.natAbs < 1073741824)&&Builtin.Range.small n m i)=true
  ·rw [if_pos hc] at e
   cases e
   obtain ⟨h1,h3⟩:=(Bool.and_eq_true _ _).mp hc
   obtain ⟨h1,h2⟩:=(Bool.and_eq_true _ _).mp h1
   refine qa H0 S z held ρ σ H _ _ t1 ok e1 fun H1 x f1 s1 r1 _=>?_
   refine qb H0 S z held ρ σ H1 _ _ t2 (ok.same s1) e2 fun H2 y f2 s2 r2 _=>?_
   refine qc H0 S z held ρ σ H2 _ (.int i) .own ((ok.same s1).same s2) rfl fun H3 w f3 s3 r3 _=>?_
   cases r1
   cases r2
   cases r3
   exact ⟨n,m,i,rfl,of_decide_eq_true h1,of_decide_eq_true h2,h3,k H3 _ [] ((s1.trans s2).trans s3) (fun h m=>nomatch m) itOk_rangeS⟩
  ·rw [if_neg hc] at e;cases e
 ·cases e
end
end L2.Ev
namespace L2
open PySem PySem.Spec PyProof.Rows
def Itv (a:Addr) (n:Nat):It:=
 ⟨fun i H=>i < n∧∃ xs x,H a=some (.lst xs)∧xs.length=n∧xs[n - 1 - i]? = some x,fun i H x H'=>H'=H∧∀ xs,H a=some (.lst xs)→xs[n - 1 - i]? = some x,fun i H=>n≤i⟩
theorem iter_rev {prog:Program}{w:World}{A:Around}{E:Value→Shared→Prop}{s:Shared}{it l:Addr}{i:Int}{Q:Value→Shared→Prop} (h1:Rv.IsRev s.heap it l i) (h:Q (.ref it) s):wpAny (model prog w) A (pyIter (.ref it)) Q E s:=by
 have ty:s.TypeIs (.ref it) "list_reverseiterator":=⟨_,h1,rfl⟩
 refine wpAny_pyIter_slot ty Rv.slot_iter (wpAny_call_entry Rv.slot_iter ty Rv.entry_iter ?_ (Rv.args_iter _))
 show wpAny _ _ (ret (.ref it)) _ _ s
 exact wpAny_pure ⟨_,rfl,"list_reverseiterator",_,ty,Rv.slot_next.lookup,h⟩
theorem turn_rev {P:Program}{w:World}{K:PySem.W.Frag}{tg:Expr} (a it:Addr) (n:Nat) (hne:a≠it):Turn P w K tg (Itv a n) [it] it (fun i h=>i≤n∧Rv.IsRev h it a ((n:Int) - 1 - (i:Nat))) where
 mem:=by simp
 obj:=fun i h st b hb=>by
  obtain rfl:b=it:=by simpa using hb
  exact ⟨_,st.2,fun v z=>by
   have z':Data.fields _=Data.cell v:=z
   cases z'⟩
 keep:=fun i h h' st k=>⟨st.1,k it (by simp) _ st.2⟩
 item:=by
  intro X hP hw hK hc i pins s σ H E I hf st hg
  subst hP hw hK
  obtain ⟨hi,xs,x,hq,hn,hx⟩:=hg
  obtain ⟨z,its,m,rv,hl,e⟩:=I.lstM hq
  obtain ⟨u,hu,ru⟩:=rv.get hx
  obtain ⟨f0,f1,f2,f3,f4,f5⟩:=hf it (by simp)
  have st2:Rv.IsRev s.heap it a ((n - 1 - i:Nat):Int):=by rw [show ((n - 1 - i:Nat):Int)=(n:Int) - 1 - (i:Nat) by omega];exact st.2
  refine Rv.next_item st2 (items:=its.toArray) ⟨_,e,rfl,_,rfl⟩ (x:=u) (by simpa using hu) fun h' st' sb=>?_
  have I1:Inv X pins σ H { s with heap:=h' }:=I.turned (t':=s.toks) (fun b o hb e=>(sb.2 b hb).trans e) f0 f1 f3 f4 f5
  refine ⟨u,rfl,go_of (s:={ s with heap:=h' }) (n:="list_reverseiterator") st' rfl rfl (by decide) ⟨x,H,I1,ru,⟨rfl,fun ys hy=>by rw [hq] at hy;cases hy;exact hx⟩,⟨by omega,?_⟩,fun b hb=>(hf b hb).1⟩⟩
  rw [show (n:Int) - 1 - ((i + 1:Nat):Int)=((n - 1 - i:Nat):Int) - 1 by omega];exact st'
 done:=by
  intro X hP hw hK hc i pins s σ H E I hf st hg
  subst hP hw hK
  obtain ⟨f0,f1,f2,f3,f4,f5⟩:=hf it (by simp)
  have hg:n≤i:=hg
  have st2:Rv.IsRev s.heap it a (-1):=by rw [show (-1:Int)=(n:Int) - 1 - (i:Nat) by have:=st.1;omega];exact st.2
  exact Rv.next_end (I.ok.hd hc) st2 fun h' eb=>⟨rfl,I.turned (t':=s.toks) (fun b o hb e=>eb b o hb e) f0 f1 f3 f4 f5⟩
 self:=fun _ _ _ _ _ st h=>iter_rev st.2 h
def iRv (ta:TE):TI:=fun σ H R=>ta σ H fun x H1=>∃ a xs,x=.ref a∧H1 a=some (.lst xs)∧R (Itv a xs.length) H1
section
variable {X:Cx}{tg:Expr}
theorem pi_rev {a:Expr}{ta:TE}{p2 p3:Pos} (hm2:X.mg "reversed"=none) (ha:PE X a ta) (hg2:Gl X "reversed":=by rfl) (hs:starEach [a] X.env=[(false,eval a X.env)]:=by rfl):PI X tg (.Call (.Name "reversed" p2) [a] [] p3) (iRv ta):=by
 intro pins s σ H R I h
 refine wpAny_Call_Name_kw (ld_blt I hg2 hm2 boot_reversed ?_)
 refine PyProof.Rows.callWith_type1 ?_ hs rfl
 rw [hs]
 refine Calls.spliced_cons (thn (ha pins s σ H _ I h) fun u s1 ⟨x,H1,I1,r1,q1⟩=>?_)
 refine Calls.spliced_nil ?_
 obtain ⟨p,xs,rfl,hp,q⟩:=q1
 cases r1
 obtain ⟨z,its,n,hv,hl,e⟩:=I1.lstM hp
 refine Rv.call_rev e ?_
 have lp:p < s1.heap.objs.size:=Heap.lt_size e
 have hln:(its.toArray.size:Int)=xs.length:=by have:=hv.length;simp;omega
 refine iter_rev (Heap.get?_push_size _ rfl) ?_
 refine ⟨s1.heap.objs.size,[s1.heap.objs.size],_,_,H1,rfl,I1.kept (t':=s1.toks) (fun b o e=>Heap.get?_push_of_some _ e),turn_rev p _ xs.length (Nat.ne_of_lt lp),⟨Nat.zero_le _,?_⟩,fun b hb=>?_,q⟩
 ·rw [show (xs.length:Int) - 1 - ((0:Nat):Int)=(its.toArray.size:Int) - 1 by omega]
  exact Heap.get?_push_size _ rfl
 ·obtain rfl:b=s1.heap.objs.size:=by simpa using hb
  exact I1.fpOk (Nat.le_refl _) (I1.hok.fresh (Nat.le_refl _))
end
end L2
namespace L2.Ev
open PySem PySem.Spec PyProof.Rows
theorem itOk_rev {K:PySem.W.Frag}{a:Addr}{ds:List D}{fp:List Addr}:ItOk K (Itv a ds.length) ds.reverse [⟨.lst ds,.ref a,fp⟩]:=by
 intro H i hh
 have r:Rep K H (.lst ds) (.ref a) fp:=hh ⟨.lst ds,.ref a,fp⟩ List.mem_cons_self
 cases r with
 | @lst _ xs _ f hq rs=>
  refine ⟨fun d hd=>?_,fun hl=>by rw [List.length_reverse] at hl;exact hl⟩
  have hi:i < ds.length:=by
   obtain ⟨h1,_⟩:=List.getElem?_eq_some_iff.mp hd
   rwa [List.length_reverse] at h1
  rw [List.getElem?_reverse hi] at hd
  obtain ⟨v,f',hv,rv,s'⟩:=rs.get hd
  refine ⟨⟨hi,xs,v,hq,rs.length.symm,hv⟩,fun x H1 y=>?_⟩
  obtain ⟨e1,y⟩:=y
  subst e1
  have e2:=y xs hq
  rw [hv] at e2
  cases e2
  exact ⟨.refl _,f',rv,fun b m=>⟨_,List.mem_cons_self,List.mem_cons_of_mem _ (s' b m)⟩⟩
def iRevF (f:EF):IF:=fun ρ=>match f ρ with
 | some (.lst ds,t)=>some (ds.reverse,t)
 | _=>none
theorem fi_rev {X:Cx}{tg l:Expr}{f:EF}{p2 p3:Pos} (hm2:X.mg "reversed"=none) (hl:FP X l f) (hg2:Gl X "reversed":=by rfl) (hs:starEach [l] X.env=[(false,eval l X.env)]:=by rfl):FI X tg (.Call (.Name "reversed" p2) [l] [] p3) (iRevF f):=by
 obtain ⟨t,p,q⟩:=hl
 refine ⟨_,pi_rev hm2 p hg2 hs,fun H0 S z held ρ σ H R ds tg ok e k=>?_⟩
 unfold iRevF at e
 split at e
 ·rename_i es tg' h
  cases e
  refine q H0 S z held ρ σ H _ _ _ ok h fun H1 v fp s1 r1 g1=>?_
  have r1':=r1
  cases r1 with
  | @lst a xs _ f hq rs=>
   refine ⟨a,xs,rfl,hq,?_⟩
   rw [← rs.length]
   exact k H1 _ [⟨.lst es,.ref a,a::f⟩] s1 (fun h m=>by cases List.mem_singleton.mp m;exact ⟨r1',g1.over ok⟩) itOk_rev
 ·cases e
section
variable (P:Program) (w:World) (K:PySem.W.Frag) (mg:Str→Option Value) (base:Heap) (CX:CXT) (k:Nat)
def FN (x:Str) (ps:List Str) (sp:Sp) (cm:Bool:=true):Prop:=∃ a fd,FnOk P w K mg base CX k a fd ps sp cm∧mg x=some (.ref a)∧PySem.W.keepIn K (.ref a)=true∧Binds K fd ps []
end
def GL (K:PySem.W.Frag) (x q:Str) (st:Stmt) (f:Addr):Prop:=∃ oc od kV dc pm an cd ct sl,K.lookup f=some ⟨oc,od,.func (PySem.W.fnOf x q (defArgs st) (defBody st) (defScope st) .none kV dc pm an cd ct),sl⟩∧PySem.W.codeIn K cd q=true∧PySem.W.keepIn K (.ref f)=true
def GFn (K:PySem.W.Frag) (x:Str) (st:Stmt):Prop:=∃ f,PySem.W.nsIn K mainGlobals x=some (some (.ref f))∧GL K x x st f
abbrev BA (x q:Str) (st:Stmt) (ps:List Str):Prop:=∀ (kV doc pm:Value) (an:Option Addr) (cdv ct:Value) (us:List Value),us.length=ps.length→bindArgs (PySem.W.fnOf x q (defArgs st) (defBody st) (defScope st) .none kV doc pm an cdv ct) ⟨us,[]⟩=pure (ps.zip us)
theorem gl_fun {K:PySem.W.Frag}{x q:Str}{st:Stmt}{f:Addr} (l:GL K x q st f):PySem.W.keepIn K (.ref f)=true∧∃ fd,Fun K x q st f fd:=by
 obtain ⟨oc,od,kV,dc,pm,an,cd,ct,sl,h1,h2,h3⟩:=l
 exact ⟨h3,_,fun_mk h1 h2 h3⟩
section
variable {P:Program}{w:World}{K:PySem.W.Frag}{h:Heap}{mg:Str→Option Value}{base:Heap}{CX:CXT}{k:Nat}{C:Addr}{x q:Str}{st:Stmt}{ps:List Str}{sp:Sp}{cm:Bool}
theorem fnW (X:K.In h) (G:h.Ns mainGlobals mg) (l:GFn K x st) (ok:∀ {f:Addr}{fd:FuncData},Fun K x x st f fd→FnOk P w K mg base CX k f fd ps sp cm) (b:BA x x st ps):FN P w K mg base CX k x ps sp cm:=by
 obtain ⟨f,a,l⟩:=l
 obtain ⟨kp,fd,F⟩:=gl_fun l
 exact ⟨f,fd,ok F,PySem.W.mg_of X G a,kp,F.binds b⟩
theorem lawW {fa:Addr}{p:Str}{sp:Heap→Sp} (X:K.In h) (G:h.Ns mainGlobals mg) (hfa:mg "law"=some (.ref fa)) (l:GFn K "law" st)
  (b:∀ (kV doc pm:Value) (an:Option Addr) (cdv ct:Value) (s:Shared) (v:Value),BindsTo s (PySem.W.fnOf "law" "law" (defArgs st) (defBody st) (defScope st) .none kV doc pm an cdv ct) ⟨[v],[]⟩ [(p,v)])
  (ok:∀ base:Heap,K.In base→base.Ns mainGlobals mg→∀ {f:Addr}{fd:FuncData},Fun K "law" "law" st f fd→FnOk P w K mg base CX k f fd [p] (sp base) cm) :
  ∃ fd:FuncData,(∀ (s:Shared) (v:Value),BindsTo s fd ⟨[v],[]⟩ [(p,v)])∧∀ base:Heap,K.In base→base.Ns mainGlobals mg→FnOk P w K mg base CX k fa fd [p] (sp base) cm:=by
 obtain ⟨f,a,oc,od,kV,dc,pm,an,cd,ct,sl,h1,h2,h3⟩:=l
 have e:=hfa.symm.trans (PySem.W.mg_of X G a)
 cases e
 exact ⟨_,b kV dc pm an cd ct,fun base K1 G1=>ok base K1 G1 (fun_mk h1 h2 h3)⟩
end
section
variable {g:GF}{t:Tag}{f:SF}{d:D}{ds:List D}{ρ ρ1 ρ2:Rho}
theorem loop_c (h1:g d t ρ=some ρ1) (h2:f ρ1=some (.nx ρ2)):loopF g t f (d::ds) ρ=loopF g t f ds ρ2:=by
 conv=>lhs;unfold loopF
 rw [h1];dsimp only;rw [h2]
end
def moveS (ρ:Rho) (i j:Nat) (dd d:D):Rho:=(((ρ.map (dropT i)).map (dropT j)).set i (some (dd,.own))).set j (some (d,.sh [i]))
theorem dropT_of {i:Nat}{s:Slot}{d:D}{t:Tag} (e:dropT i s=some (d,t)):s=some (d,t)∧∀ o,t=.sh o→i∉o:=by
 cases s with
 | none=>cases e
 | some w=>
  obtain ⟨d',t'⟩:=w
  cases t' with
  | sh o=>
   have e:(if o.contains i=true then none else some (d',Tag.sh o))=some (d,t):=e
   split at e
   ·cases e
   ·rename_i hc
    cases e
    exact ⟨rfl,fun o' eo m=>by cases eo;exact hc (List.contains_iff_mem.mpr m)⟩
  | own=>cases e;exact ⟨rfl,fun o eo=>by cases eo⟩
  | lk=>cases e;exact ⟨rfl,fun o eo=>by cases eo⟩
theorem Ok.move {K:PySem.W.Frag}{H0:Hp}{S:List Addr}{z:Addr→Option Nat}{held:List Held}{ρ:Rho}{σ:St}{H:Hp}{i j:Nat}{ds:List D}{d:D} (ok:Ok K H0 S z held ρ σ H) (hij:i≠j) (hi:ρ[i]? = some (some (.lst ds,.own))) (hj:ρ[j]? = some (some (d,.own))) :
  ∃ l ys v,σ[i]? = some (some (.ref l))∧σ[j]? = some (some v)∧H l=some (.lst ys)∧ys.length=ds.length∧∃ z',Ok K H0 S z' held (moveS ρ i j (.lst (ds++[d])) d) σ (upd H l (.lst (ys++[v]))):=by
 classical
 obtain ⟨u,fi,si,ri,zi⟩:=ok.sl i _ _ hi
 obtain ⟨v,fd,sj,rj,zj⟩:=ok.sl j _ _ hj
 have zi:fi.Nodup∧∀ a∈fi,z a=some i:=zi
 have zj:fd.Nodup∧∀ a∈fd,z a=some j:=zj
 have hiρ:i < ρ.length:=(List.getElem?_eq_some_iff.mp hi).1
 have hjρ:j < ρ.length:=(List.getElem?_eq_some_iff.mp hj).1
 cases ri with
 | @lst l ys _ f' h rs=>
  have il:z l=some i:=zi.2 l List.mem_cons_self
  have nd:∀ a,a∈fd→a∉l::f':=fun a m n=>by
   have:=zj.2 a m
   rw [zi.2 a n] at this
   exact hij (Option.some.inj this)
  have im:Imm H (upd H l (.lst (ys++[v]))):=Imm.upd h rfl
  obtain ⟨n1,n2⟩:=List.nodup_cons.mp zi.1
  have rs':=rs.frame (H':=upd H l (.lst (ys++[v]))) (fun c m=>upd_ne fun q=>n1 (by rw [← q];exact m)) im
  have rd':=rj.frame (H':=upd H l (.lst (ys++[v]))) (fun c m=>upd_ne fun q=>nd c m (by rw [q];exact List.mem_cons_self)) im
  have other:∀ {k:Nat}{e:D}{t:Tag},k≠i→k≠j→(moveS ρ i j (.lst (ds++[d])) d)[k]? = some (some (e,t))→ρ[k]? = some (some (e,t))∧∀ o,t=.sh o→i∉o∧j∉o:=fun {k e t} hk1 hk2 q=>by
   unfold moveS at q
   rw [List.getElem?_set_ne (Ne.symm hk2),List.getElem?_set_ne (Ne.symm hk1),List.getElem?_map,List.getElem?_map] at q
   cases e0:ρ[k]? with
   | none=>rw [e0] at q;cases q
   | some s=>
    rw [e0] at q
    obtain ⟨q1,q2⟩:=dropT_of (Option.some.inj q)
    obtain ⟨q3,q4⟩:=dropT_of q1
    rw [q3]
    exact ⟨rfl,fun o eo=>⟨q4 o eo,q2 o eo⟩⟩
  refine ⟨l,ys,v,si,sj,h,rs.length.symm,fun a=>if a∈fd then some i else z a,fun k e t q=>?_,fun p m=>?_,fun a k e=>?_,fun a o e n=>?_,?_⟩
  ·by_cases hk1:k=j
   ·subst hk1
    unfold moveS at q
    rw [List.getElem?_set_self (by rw [List.length_set,List.length_map,List.length_map];exact hjρ)] at q
    cases q
    exact ⟨v,fd,sj,rd',fun a m k e=>by
     have e:(if a∈fd then some i else z a)=some k:=e
     rw [if_pos m] at e;cases e;exact List.mem_singleton.mpr rfl⟩
   ·by_cases hk2:k=i
    ·subst hk2
     unfold moveS at q
     rw [List.getElem?_set_ne (Ne.symm hij),List.getElem?_set_self (by rw [List.length_map,List.length_map];exact hiρ)] at q
     cases q
     refine ⟨.ref l,l::(f'++(fd++[])),si,.lst upd_same (Reps.append rs' (.cons rd' .nil)),?_,fun a m=>?_⟩
     ·rw [List.append_nil]
      refine List.nodup_cons.mpr ⟨fun m=>?_,List.nodup_append.mpr ⟨n2,zj.1,fun c mc e me ee=>nd e me (by rw [← ee];exact List.mem_cons_of_mem _ mc)⟩⟩
      rcases List.mem_append.mp m with m | m
      ·exact n1 m
      ·exact nd l m List.mem_cons_self
     ·rw [List.append_nil] at m
      show (if a∈fd then some k else z a)=some k
      split
      ·rfl
      ·rename_i nf
       rcases List.mem_cons.mp m with q | m
       ·rw [q];exact il
       ·rcases List.mem_append.mp m with m | m
        ·exact zi.2 a (List.mem_cons_of_mem _ m)
        ·exact absurd m nf
    ·obtain ⟨q0,q1⟩:=other hk2 hk1 q
     obtain ⟨v',fp',hs',r',z'⟩:=ok.sl k e t q0
     have nz:∀ a∈fp',z a≠some i∧z a≠some j:=fun a m=>by
      cases t with
      | sh o=>exact ⟨fun w=>(q1 o rfl).1 (z' a m i w),fun w=>(q1 o rfl).2 (z' a m j w)⟩
      | own=>have:=z'.2 a m;exact ⟨fun w=>by rw [w] at this;exact hk2 (Option.some.inj this).symm,fun w=>by rw [w] at this;exact hk1 (Option.some.inj this).symm⟩
      | lk=>have:=z'.2 a m;exact ⟨fun w=>by rw [w] at this;exact hk2 (Option.some.inj this).symm,fun w=>by rw [w] at this;exact hk1 (Option.some.inj this).symm⟩
     have nf:∀ a∈fp',a∉fd:=fun a m w=>(nz a m).2 (zj.2 a w)
     refine ⟨v',fp',hs',r'.frame (fun a m=>upd_ne fun w=>(nz a m).1 (by rw [w];exact il)) im,?_⟩
     cases t with
     | sh o=>exact fun a m k' e'=>z' a m k' (by
       have e':(if a∈fd then some i else z a)=some k':=e'
       rw [if_neg (nf a m)] at e';exact e')
     | own=>exact ⟨z'.1,fun a m=>(if_neg (nf a m)).trans (z'.2 a m)⟩
     | lk=>exact ⟨z'.1,fun a m=>(if_neg (nf a m)).trans (z'.2 a m)⟩
  ·obtain ⟨r',hz⟩:=ok.hl p m
   have nz:∀ a∈p.fp,z a≠some i∧z a≠some j:=fun a ma=>⟨fun w=>(hz a ma i w).2 _ hi,fun w=>(hz a ma j w).2 _ hj⟩
   refine ⟨r'.frame (fun a ma=>upd_ne fun w=>(nz a ma).1 (by rw [w];exact il)) im,fun a ma k e=>?_⟩
   have nf:a∉fd:=fun w=>(nz a ma).2 (zj.2 a w)
   have e:(if a∈fd then some i else z a)=some k:=e
   rw [if_neg nf] at e
   obtain ⟨w1,w2⟩:=hz a ma k e
   refine ⟨w1,fun e' q=>?_⟩
   by_cases hk1:k=j
   ·rw [hk1] at e;exact (nz a ma).2 e
   ·by_cases hk2:k=i
    ·rw [hk2] at e;exact (nz a ma).1 e
    ·exact w2 e' (other hk2 hk1 q).1
  ·have e:(if a∈fd then some i else z a)=some k:=e
   have e':∃ k',z a=some k':=by
    split at e
    ·rename_i m;exact ⟨j,zj.2 a m⟩
    ·exact ⟨k,e⟩
   obtain ⟨k',e'⟩:=e'
   obtain ⟨⟨o,w⟩,y⟩:=ok.zd a k' e'
   refine ⟨?_,y⟩
   by_cases q:a=l
   ·rw [q];exact ⟨_,upd_same⟩
   ·exact ⟨o,by rw [upd_ne q];exact w⟩
  ·have na:a≠l:=fun q=>by
    rcases (ok.zd l i il).2 with w | w
    ·rw [q] at e;rw [w] at e;cases e
    ·exact n (by rw [q];exact w)
   rw [upd_ne na];exact ok.en a o e n
  ·unfold moveS
   rw [List.length_set,List.length_set,List.length_map,List.length_map];exact ok.ln
def sAppN (i j:Nat):SF:=fun ρ=>match ρ[j]?,ρ[i]? with
 | some (some (d,.own)),some (some (.lst ds,.own))=>if i≠j∧ds.length < sizeLine then some (.nx (moveS ρ i j (.lst (ds++[d])) d)) else none
 | _,_=>none
theorem fs_appN {X:Cx}{x y:Str}{p1 p2 p3 p4 pos:Pos} (i j:Nat) (hN:X.N[i]? = some x:=by rfl) (hvis:Vis X.env.scope x:=by first | exact Or.inl rfl | exact Or.inr (Or.inl rfl) | exact Or.inr (Or.inr rfl)) (hN2:X.N[j]? = some y:=by rfl) (hvis2:Vis X.env.scope y:=by first | exact Or.inl rfl | exact Or.inr (Or.inl rfl) | exact Or.inr (Or.inr rfl))
  (hd:(x == ("__debug__":Str))=false:=by decide) (hcd:(x == ("__classdict__":Str))=false:=by decide) (hd2:(y == ("__debug__":Str))=false:=by decide) (hcd2:(y == ("__classdict__":Str))=false:=by decide) (hs:starEach [.Name y p4] X.env=[(false,eval (.Name y p4) X.env)]:=by rfl)
  (hbase:attributeBase (.Name x p1) "append" X.env (eval (.Name x p1) X.env)=eval (.Name x p1) X.env:=by rfl)
  (hfew:((backTo p3 (starEach [.Name y p4] X.env)).all (fun x=>!x.1)&&(backToKw p3 (keywordEach [] X.env)).all (fun x=>x.1.isSome)&&decide ([Expr.Name y p4].length + ([]:List Keyword).length + (if ([]:List Keyword).isEmpty then 0 else 1) < 30))=true:=by rfl)
  (hline:(p2.endLine == p3.line)=true:=by rfl) (hsw:swapsWith (.Call (.Attribute (.Name x p1) "append" p2) [.Name y p4] [] p3) none pos.line X.env=pure false:=by rfl) :
  FS1 X (.Expr (.Call (.Attribute (.Name x p1) "append" p2) [.Name y p4] [] p3) pos) (sAppN i j):=by
 refine ⟨_,ps_expr (pe_bm PySem.F.plainAttrs_list PySem.F.slot_list_append PySem.F.type_list_append mt_append (pe_var (i:=i) hN hvis hd hcd) (pa_cons (pe_var (i:=j) hN2 hvis2 hd2 hcd2) pa_nil hs) hbase hfew hline hs rfl) hsw,fun H0 S z held ρ σ H E o ok e q=>?_⟩
 unfold sAppN at e
 split at e
 ·rename_i d ds g1 g2
  split at e
  ·rename_i hc
   cases e
   obtain ⟨l,ys,v,si,sj,h,hl,z',ok'⟩:=ok.move hc.1 g2 g1
   exact ⟨.ref l,si,.inl ⟨rfl,_,SqL.of h⟩,v,sj,l,ys,v,rfl,rfl,h,by rw [hl];exact hc.2,q z' σ _ ok' (.refl _ _)⟩
  ·cases e
 ·cases e
end L2.Ev
namespace K07
open PySem L2 L2.Ev
def top (i:Nat):Stmt:=PySem.Challenge.pw_linegate_k07_whole_rows_of_edits.main.body.getD i (.Pass ⟨0,0,0,0⟩)
variable {P:Program}{w:World}{K:PySem.W.Frag}{mg:Str→Option Value}{base:Heap}{f:Addr}{fd:FuncData}
abbrev s_misfit:Stmt:=top 9
theorem sc_misfit:FnScope ["values","edits"] ["values","edits"] (defScope s_misfit):=⟨rfl,rfl,rfl,by decide +kernel,rfl,by decide +kernel,by decide +kernel⟩
def B_misfit:SF:=(sRet (e2 oMinD (eComp [none,none,none,some 0] (iSeqF (eVar 1)) (gT (gsCons (gN 0) (gsCons (gN 1) (gsCons (gN 2) gsNil)))) (tV (e2 oNe (e3 oGetD (eVar 3) (eVar 0) (eC (.int 0))) (eVar 1))) (eVar 0)) (eC .non)))
def F_misfit:List D→Option D:=runF 2 2 B_misfit
theorem ok_misfit (g_min:mg "min"=none) (F:Fun K "misfit" "misfit" s_misfit f fd):FnOk P w K mg base CX0 1 f fd ["values","edits"] (spF K F_misfit):=by
 have sc:=sc_misfit
 refine fn_F F sc_misfit fun cdv A outer s H E hr=>?_
 have hu:=hu_of hr
 exact (fs_one (fs_ret (fp_minD rfl g_min (fp_comp (M:=["slot","old","new","values"]) (js:=[none,none,none,some 0]) (is:=[0,1,2]) (compScope_mk (N:=["values","edits"]) (osc:=defScope s_misfit) rfl rfl rfl (by decide +kernel)) rfl (fi_seq (fp_var 1)) (by decide) fun s3 H3 fp=>⟨(fg_tup rfl (fgs_cons (fg_name 0 (show (["slot","old","new","values"]:List Str).Nodup by decide +kernel)) (fgs_cons (fg_name 1 (show (["slot","old","new","values"]:List Str).Nodup by decide +kernel)) (fgs_cons (fg_name 2 (show (["slot","old","new","values"]:List Str).Nodup by decide +kernel)) fgs_nil)))),(fts_one (ft_ne (fp_dget2 hu (fp_var 3) (fp_var 0) fp_int) (fp_var 1))),(fp_var 0)⟩) fp_non)))
abbrev s_sheet_of_values:Stmt:=top 10
theorem sc_sheet_of_values:FnScope ["values"] ["values"] (defScope s_sheet_of_values):=⟨rfl,rfl,rfl,by decide +kernel,rfl,by decide +kernel,by decide +kernel⟩
def B_sheet_of_values:SF:=(sRet (eComp [none,some 0] (iSeqF (e1 oSorted (eVar 0))) (gN 0) (tV (e2 oNe (e2 oGet (eVar 1) (eVar 0)) (eC (.int 0)))) (eTup (aCons (eVar 0) (aCons (e2 oGet (eVar 1) (eVar 0)) aNil)))))
def F_sheet_of_values:List D→Option D:=runF 1 1 B_sheet_of_values
theorem ok_sheet_of_values (g_sorted:mg "sorted"=none) (F:Fun K "sheet_of_values" "sheet_of_values" s_sheet_of_values f fd):FnOk P w K mg base CX0 1 f fd ["values"] (spF K F_sheet_of_values):=by
 have sc:=sc_sheet_of_values
 refine fn_F F sc_sheet_of_values fun cdv A outer s H E hr=>?_
 have hu:=hu_of hr
 exact (fs_one (fs_ret (fp_comp (M:=["slot","values"]) (js:=[none,some 0]) (is:=[0]) (compScope_mk (N:=["values"]) (osc:=defScope s_sheet_of_values) rfl rfl rfl (by decide +kernel)) rfl (fi_seq (fp_sorted rfl g_sorted (fp_var 0))) (by decide) fun s3 H3 fp=>⟨(fg_name 0 (show (["slot","values"]:List Str).Nodup by decide +kernel)),(fts_one (ft_ne (fp_dget hu (fp_var 1) (fp_var 0)) fp_int)),(fp_tup (fa_cons (fp_var 0) (fa_cons (fp_dget hu (fp_var 1) (fp_var 0)) fa_nil)))⟩)))
abbrev s_edited_in_turn:Stmt:=top 5
theorem sc_edited_in_turn:FnScope ["sheet","edits_in_turn","values","edits","least","slot","old","new"] ["sheet","edits_in_turn"] (defScope s_edited_in_turn):=⟨rfl,rfl,rfl,by decide +kernel,rfl,by decide +kernel,by decide +kernel⟩
def B_edited_in_turn:SF:=(sSeq (sSet 2 (e1 oDict (eVar 0))) (sSeq (sFor (iSeqF (eVar 1)) (gN 3) (sSeq (sSet 4 (eCall F_misfit (aCons (eVar 2) (aCons (eVar 3) aNil)))) (sSeq (sIf (tV (e2 oNotN (eVar 4) (eC .non))) sNo sNx) (sFor (iSeqF (eVar 3)) (gT (gsCons (gN 5) (gsCons (gN 6) (gsCons (gN 7) gsNil)))) (sDput 2 (eVar 5) (eVar 7)))))) (sRet (eCall F_sheet_of_values (aCons (eVar 2) aNil)))))
def F_edited_in_turn:List D→Option D:=runF 2 8 B_edited_in_turn
theorem ok_edited_in_turn (g_dict:mg "dict"=none) (W_misfit:FN P w K mg base CX0 1 "misfit" ["values","edits"] (spF K F_misfit)) (W_sheet_of_values:FN P w K mg base CX0 1 "sheet_of_values" ["values"] (spF K F_sheet_of_values)) (F:Fun K "edited_in_turn" "edited_in_turn" s_edited_in_turn f fd):FnOk P w K mg base CX0 2 f fd ["sheet","edits_in_turn"] (spF K F_edited_in_turn):=by
 obtain ⟨_,_,G_misfit,m_misfit,k_misfit,b_misfit⟩:=W_misfit
 obtain ⟨_,_,G_sheet_of_values,m_sheet_of_values,k_sheet_of_values,b_sheet_of_values⟩:=W_sheet_of_values
 have sc:=sc_edited_in_turn
 refine fn_F F sc_edited_in_turn fun cdv A outer s H E hr=>?_
 have hu:=hu_of hr
 exact (fs_cons (fs_set 2 (fp_dict rfl g_dict (fp_var 0)) sc.nd) (fs_cons (fs_for rfl (fi_seq (fp_var 1)) (fg_name 3 sc.nd) (fs_cons (fs_set 4 (fp_call G_misfit (hr.mono (by decide)) m_misfit k_misfit b_misfit (fa_cons (fp_var 2) (fa_cons (fp_var 3) fa_nil))) sc.nd) (fs_cons (fs_if (ft_notN (fp_var 4) fp_non) (fs_one fs_no) fs_nil) (fs_one (fs_for rfl (fi_seq (fp_var 3)) (fg_tup rfl (fgs_cons (fg_name 5 sc.nd) (fgs_cons (fg_name 6 sc.nd) (fgs_cons (fg_name 7 sc.nd) fgs_nil)))) (fs_one (fs_dput 2 hu (fp_var 5) (fp_var 7)))))))) (fs_one (fs_ret (fp_call G_sheet_of_values (hr.mono (by decide)) m_sheet_of_values k_sheet_of_values b_sheet_of_values (fa_cons (fp_var 2) fa_nil))))))
abbrev s_edited:Stmt:=top 4
theorem sc_edited:FnScope ["sheet","edits"] ["sheet","edits"] (defScope s_edited):=⟨rfl,rfl,rfl,by decide +kernel,rfl,by decide +kernel,by decide +kernel⟩
def B_edited:SF:=(sRet (eCall F_edited_in_turn (aCons (eVar 0) (aCons (eLst (aCons (eVar 1) aNil)) aNil))))
def F_edited:List D→Option D:=runF 2 2 B_edited
theorem ok_edited (W_edited_in_turn:FN P w K mg base CX0 2 "edited_in_turn" ["sheet","edits_in_turn"] (spF K F_edited_in_turn)) (F:Fun K "edited" "edited" s_edited f fd):FnOk P w K mg base CX0 3 f fd ["sheet","edits"] (spF K F_edited):=by
 obtain ⟨_,_,G_edited_in_turn,m_edited_in_turn,k_edited_in_turn,b_edited_in_turn⟩:=W_edited_in_turn
 have sc:=sc_edited
 refine fn_F F sc_edited fun cdv A outer s H E hr=>?_
 have hu:=hu_of hr
 exact (fs_one (fs_ret (fp_call G_edited_in_turn (hr.mono (by decide)) m_edited_in_turn k_edited_in_turn b_edited_in_turn (fa_cons (fp_var 0) (fa_cons (fp_lst (fa_cons (fp_var 1) fa_nil)) fa_nil)))))
abbrev s_way_back:Stmt:=top 6
theorem sc_way_back:FnScope ["edits"] ["edits"] (defScope s_way_back):=⟨rfl,rfl,rfl,by decide +kernel,rfl,by decide +kernel,by decide +kernel⟩
def B_way_back:SF:=(sRet (eComp [none,none,none] (iSeqF (eVar 0)) (gT (gsCons (gN 0) (gsCons (gN 1) (gsCons (gN 2) gsNil)))) tTrue (eTup (aCons (eVar 0) (aCons (eVar 2) (aCons (eVar 1) aNil))))))
def F_way_back:List D→Option D:=runF 1 1 B_way_back
theorem ok_way_back (F:Fun K "way_back" "way_back" s_way_back f fd):FnOk P w K mg base CX0 1 f fd ["edits"] (spF K F_way_back):=by
 have sc:=sc_way_back
 refine fn_F F sc_way_back fun cdv A outer s H E hr=>?_
 have hu:=hu_of hr
 exact (fs_one (fs_ret (fp_comp (M:=["slot","old","new"]) (js:=[none,none,none]) (is:=[0,1,2]) (compScope_mk (N:=["edits"]) (osc:=defScope s_way_back) rfl rfl rfl (by decide +kernel)) rfl (fi_seq (fp_var 0)) (by decide) fun s3 H3 fp=>⟨(fg_tup rfl (fgs_cons (fg_name 0 (show (["slot","old","new"]:List Str).Nodup by decide +kernel)) (fgs_cons (fg_name 1 (show (["slot","old","new"]:List Str).Nodup by decide +kernel)) (fgs_cons (fg_name 2 (show (["slot","old","new"]:List Str).Nodup by decide +kernel)) fgs_nil)))),fts_nil,(fp_tup (fa_cons (fp_var 0) (fa_cons (fp_var 2) (fa_cons (fp_var 1) fa_nil))))⟩)))
abbrev s_by_slot:Stmt:=top 11
theorem sc_by_slot:FnScope ["edits"] ["edits"] (defScope s_by_slot):=⟨rfl,rfl,rfl,by decide +kernel,rfl,by decide +kernel,by decide +kernel⟩
def B_by_slot:SF:=(sRet (e1 oDict (eComp [none] (iSeqF (eVar 0)) (gN 0) tTrue (eTup (aCons (e2 oIx (eVar 0) (eC (.int 0))) (aCons (eVar 0) aNil))))))
def F_by_slot:List D→Option D:=runF 1 1 B_by_slot
theorem ok_by_slot (g_dict:mg "dict"=none) (F:Fun K "by_slot" "by_slot" s_by_slot f fd):FnOk P w K mg base CX0 1 f fd ["edits"] (spF K F_by_slot):=by
 have sc:=sc_by_slot
 refine fn_F F sc_by_slot fun cdv A outer s H E hr=>?_
 have hu:=hu_of hr
 exact (fs_one (fs_ret (fp_dict rfl g_dict (fp_comp (M:=["edit"]) (js:=[none]) (is:=[0]) (compScope_mk (N:=["edits"]) (osc:=defScope s_by_slot) rfl rfl rfl (by decide +kernel)) rfl (fi_seq (fp_var 0)) (by decide) fun s3 H3 fp=>⟨(fg_name 0 (show (["edit"]:List Str).Nodup by decide +kernel)),fts_nil,(fp_tup (fa_cons (fp_ix (fp_var 0) fp_int) (fa_cons (fp_var 0) fa_nil)))⟩))))
abbrev s_joined_at:Stmt:=top 12
theorem sc_joined_at:FnScope ["first","last"] ["first","last"] (defScope s_joined_at):=⟨rfl,rfl,rfl,by decide +kernel,rfl,by decide +kernel,by decide +kernel⟩
def B_joined_at:SF:=(sSeq (sIf (tV (e2 oNe (e2 oIx (eVar 0) (eC (.int 2))) (e2 oIx (eVar 1) (eC (.int 1))))) sNo sNx) (sSeq (sIf (tV (e2 oEq (e2 oIx (eVar 0) (eC (.int 1))) (e2 oIx (eVar 1) (eC (.int 2))))) (sRet (eLst aNil)) sNx) (sRet (eLst (aCons (eTup (aCons (e2 oIx (eVar 0) (eC (.int 0))) (aCons (e2 oIx (eVar 0) (eC (.int 1))) (aCons (e2 oIx (eVar 1) (eC (.int 2))) aNil)))) aNil)))))
def F_joined_at:List D→Option D:=runF 2 2 B_joined_at
theorem ok_joined_at (F:Fun K "joined_at" "joined_at" s_joined_at f fd):FnOk P w K mg base CX0 1 f fd ["first","last"] (spF K F_joined_at):=by
 have sc:=sc_joined_at
 refine fn_F F sc_joined_at fun cdv A outer s H E hr=>?_
 have hu:=hu_of hr
 exact (fs_cons (fs_if (ft_ne (fp_ix (fp_var 0) fp_int) (fp_ix (fp_var 1) fp_int)) (fs_one fs_no) fs_nil) (fs_cons (fs_if (ft_eq (fp_ix (fp_var 0) fp_int) (fp_ix (fp_var 1) fp_int)) (fs_one (fs_ret (fp_lst fa_nil))) fs_nil) (fs_one (fs_ret (fp_lst (fa_cons (fp_tup (fa_cons (fp_ix (fp_var 0) fp_int) (fa_cons (fp_ix (fp_var 0) fp_int) (fa_cons (fp_ix (fp_var 1) fp_int) fa_nil)))) fa_nil))))))
abbrev s_joined:Stmt:=top 7
theorem sc_joined:FnScope ["one","other","ahead","behind","told","slot"] ["one","other"] (defScope s_joined):=⟨rfl,rfl,rfl,by decide +kernel,rfl,by decide +kernel,by decide +kernel⟩
def B_joined:SF:=(sSeq (sSet 2 (eCall F_by_slot (aCons (eVar 0) aNil))) (sSeq (sSet 3 (eCall F_by_slot (aCons (eVar 1) aNil))) (sSeq (sSet 4 (eLst aNil)) (sSeq (sFor (iSeqF (e2 oUni (eVar 2) (eVar 3))) (gN 5) (sIf (tV (e2 (oDIn true) (eVar 5) (eVar 3))) (sApp 4 (e2 oGet (eVar 2) (eVar 5))) (sIf (tV (e2 (oDIn true) (eVar 5) (eVar 2))) (sApp 4 (e2 oGet (eVar 3) (eVar 5))) (sExt 4 (eCall F_joined_at (aCons (e2 oGet (eVar 2) (eVar 5)) (aCons (e2 oGet (eVar 3) (eVar 5)) aNil))))))) (sRetV 4)))))
def F_joined:List D→Option D:=runF 2 6 B_joined
theorem ok_joined (g_set:mg "set"=none) (g_sorted:mg "sorted"=none) (W_by_slot:FN P w K mg base CX0 1 "by_slot" ["edits"] (spF K F_by_slot)) (W_joined_at:FN P w K mg base CX0 1 "joined_at" ["first","last"] (spF K F_joined_at)) (F:Fun K "joined" "joined" s_joined f fd):FnOk P w K mg base CX0 2 f fd ["one","other"] (spF K F_joined):=by
 obtain ⟨_,_,G_by_slot,m_by_slot,k_by_slot,b_by_slot⟩:=W_by_slot
 obtain ⟨_,_,G_joined_at,m_joined_at,k_joined_at,b_joined_at⟩:=W_joined_at
 have sc:=sc_joined
 refine fn_F F sc_joined fun cdv A outer s H E hr=>?_
 have hu:=hu_of hr
 exact (fs_cons (fs_set 2 (fp_call G_by_slot (hr.mono (by decide)) m_by_slot k_by_slot b_by_slot (fa_cons (fp_var 0) fa_nil)) sc.nd) (fs_cons (fs_set 3 (fp_call G_by_slot (hr.mono (by decide)) m_by_slot k_by_slot b_by_slot (fa_cons (fp_var 1) fa_nil)) sc.nd) (fs_cons (fs_set 4 (fp_lst fa_nil) sc.nd) (fs_cons (fs_for rfl (fi_seq (fp_uni rfl g_sorted g_set (fp_var 2) (fp_var 3))) (fg_name 5 sc.nd) (fs_one (fs_if (ft_dNotIn hu (fp_var 5) (fp_var 3)) (fs_one (fs_app 4 (fp_dget hu (fp_var 2) (fp_var 5)))) (fs_one (fs_if (ft_dNotIn hu (fp_var 5) (fp_var 2)) (fs_one (fs_app 4 (fp_dget hu (fp_var 3) (fp_var 5)))) (fs_one (fs_ext 4 (fp_call G_joined_at (hr.mono (by decide)) m_joined_at k_joined_at b_joined_at (fa_cons (fp_dget hu (fp_var 2) (fp_var 5)) (fa_cons (fp_dget hu (fp_var 3) (fp_var 5)) fa_nil)))))))))) (fs_one (fs_retV 4))))))
abbrev s_between:Stmt:=top 8
theorem sc_between:FnScope ["sheet","other","before","after","told","slot","old","new"] ["sheet","other"] (defScope s_between):=⟨rfl,rfl,rfl,by decide +kernel,rfl,by decide +kernel,by decide +kernel⟩
def B_between:SF:=(sSeq (sSet 2 (e1 oDict (eVar 0))) (sSeq (sSet 3 (e1 oDict (eVar 1))) (sSeq (sSet 4 (eLst aNil)) (sSeq (sFor (iSeqF (e2 oUni (eVar 2) (eVar 3))) (gN 5) (sSeq (sSet 6 (e3 oGetD (eVar 2) (eVar 5) (eC (.int 0)))) (sSeq (sSet 7 (e3 oGetD (eVar 3) (eVar 5) (eC (.int 0)))) (sIf (tV (e2 oNe (eVar 6) (eVar 7))) (sApp 4 (eTup (aCons (eVar 5) (aCons (eVar 6) (aCons (eVar 7) aNil))))) sNx)))) (sRetV 4)))))
def F_between:List D→Option D:=runF 2 8 B_between
theorem ok_between (g_dict:mg "dict"=none) (g_set:mg "set"=none) (g_sorted:mg "sorted"=none) (F:Fun K "between" "between" s_between f fd):FnOk P w K mg base CX0 1 f fd ["sheet","other"] (spF K F_between):=by
 have sc:=sc_between
 refine fn_F F sc_between fun cdv A outer s H E hr=>?_
 have hu:=hu_of hr
 exact (fs_cons (fs_set 2 (fp_dict rfl g_dict (fp_var 0)) sc.nd) (fs_cons (fs_set 3 (fp_dict rfl g_dict (fp_var 1)) sc.nd) (fs_cons (fs_set 4 (fp_lst fa_nil) sc.nd) (fs_cons (fs_for rfl (fi_seq (fp_uni rfl g_sorted g_set (fp_var 2) (fp_var 3))) (fg_name 5 sc.nd) (fs_cons (fs_set 6 (fp_dget2 hu (fp_var 2) (fp_var 5) fp_int) sc.nd) (fs_cons (fs_set 7 (fp_dget2 hu (fp_var 3) (fp_var 5) fp_int) sc.nd) (fs_one (fs_if (ft_ne (fp_var 6) (fp_var 7)) (fs_one (fs_app 4 (fp_tup (fa_cons (fp_var 5) (fa_cons (fp_var 6) (fa_cons (fp_var 7) fa_nil)))))) fs_nil))))) (fs_one (fs_retV 4))))))
abbrev s_L_draw:Stmt:=top 14
theorem sc_L_draw:FnScope ["_law_script","_law_k","_law_prime","_law_many","_law_cell"] ["_law_script","_law_k","_law_prime","_law_many"] (defScope s_L_draw):=⟨rfl,rfl,rfl,by decide +kernel,rfl,by decide +kernel,by decide +kernel⟩
def B_L_draw:SF:=(sSeq (sSet 4 (eC (.int 0))) (sSeq (sIf (tV (e2 oGt (e1 oLen (eVar 0)) (eC (.int 0)))) (sSet 4 (e2 oIx (eVar 0) (e2 oMod (eVar 1) (e1 oLen (eVar 0))))) sNx) (sRet (e2 oMod (e2 oMod (e2 oAdd (e2 oMul (e2 oAdd (eVar 4) (e2 oMul (eVar 1) (eVar 1))) (eC (.int 48271))) (eC (.int 11))) (eVar 2)) (eVar 3)))))
def F_L_draw:List D→Option D:=runF 4 5 B_L_draw
theorem ok_L_draw (g_len:mg "len"=none) (F:Fun K "_law_draw" "_law_draw" s_L_draw f fd):FnOk P w K mg base CX0 1 f fd ["_law_script","_law_k","_law_prime","_law_many"] (spF K F_L_draw):=by
 have sc:=sc_L_draw
 refine fn_F F sc_L_draw fun cdv A outer s H E hr=>?_
 have hu:=hu_of hr
 exact (fs_cons (fs_set 4 fp_int sc.nd) (fs_cons (fs_if (ft_gt (fp_len g_len (fp_var 0)) fp_int) (fs_one (fs_set 4 (fp_ix (fp_var 0) (fp_mod (fp_var 1) (fp_len g_len (fp_var 0)))) sc.nd)) fs_nil) (fs_one (fs_ret (fp_mod (fp_mod (fp_add (fp_mul (fp_add (fp_var 4) (fp_mul (fp_var 1) (fp_var 1))) fp_int) fp_int) (fp_var 2)) (fp_var 3))))))
abbrev s_L_value:Stmt:=top 15
theorem sc_L_value:FnScope ["_law_script","_law_k","_law_cell"] ["_law_script","_law_k"] (defScope s_L_value):=⟨rfl,rfl,rfl,by decide +kernel,rfl,by decide +kernel,by decide +kernel⟩
def B_L_value:SF:=(sSeq (sSet 2 (eC (.int 0))) (sSeq (sIf (tV (e2 oGt (e1 oLen (eVar 0)) (eC (.int 0)))) (sSet 2 (e2 oIx (eVar 0) (e2 oMod (eVar 1) (e1 oLen (eVar 0))))) sNx) (sSeq (sIf (tV (e2 oEq (eCall F_L_draw (aCons (eVar 0) (aCons (eVar 1) (aCons (eC (.int 10007)) (aCons (eC (.int 3)) aNil))))) (eC (.int 0)))) (sRet (e2 oAdd (eC (.int 1)) (e2 oMod (eVar 2) (eC (.int 1000000000))))) sNx) (sRet (e2 oIx (eLst (aCons (eC (.int 1)) (aCons (eC (.int 2)) (aCons (eC (.int 3)) (aCons (eC (.int 999999999)) (aCons (eC (.int 1000000000)) aNil)))))) (eCall F_L_draw (aCons (eVar 0) (aCons (eVar 1) (aCons (eC (.int 10009)) (aCons (eC (.int 5)) aNil))))))))))
def F_L_value:List D→Option D:=runF 2 3 B_L_value
theorem ok_L_value (g_len:mg "len"=none) (W_L_draw:FN P w K mg base CX0 1 "_law_draw" ["_law_script","_law_k","_law_prime","_law_many"] (spF K F_L_draw)) (F:Fun K "_law_value" "_law_value" s_L_value f fd):FnOk P w K mg base CX0 2 f fd ["_law_script","_law_k"] (spF K F_L_value):=by
 obtain ⟨_,_,G_L_draw,m_L_draw,k_L_draw,b_L_draw⟩:=W_L_draw
 have sc:=sc_L_value
 refine fn_F F sc_L_value fun cdv A outer s H E hr=>?_
 have hu:=hu_of hr
 exact (fs_cons (fs_set 2 fp_int sc.nd) (fs_cons (fs_if (ft_gt (fp_len g_len (fp_var 0)) fp_int) (fs_one (fs_set 2 (fp_ix (fp_var 0) (fp_mod (fp_var 1) (fp_len g_len (fp_var 0)))) sc.nd)) fs_nil) (fs_cons (fs_if (ft_eq (fp_call G_L_draw (hr.mono (by decide)) m_L_draw k_L_draw b_L_draw (fa_cons (fp_var 0) (fa_cons (fp_var 1) (fa_cons fp_int (fa_cons fp_int fa_nil))))) fp_int) (fs_one (fs_ret (fp_add fp_int (fp_mod (fp_var 2) fp_int)))) fs_nil) (fs_one (fs_ret (fp_ix (fp_lst (fa_cons fp_int (fa_cons fp_int (fa_cons fp_int (fa_cons fp_int (fa_cons fp_int fa_nil)))))) (fp_call G_L_draw (hr.mono (by decide)) m_L_draw k_L_draw b_L_draw (fa_cons (fp_var 0) (fa_cons (fp_var 1) (fa_cons fp_int (fa_cons fp_int fa_nil)))))))))))
abbrev s_L_slot:Stmt:=top 16
theorem sc_L_slot:FnScope ["_law_script","_law_k"] ["_law_script","_law_k"] (defScope s_L_slot):=⟨rfl,rfl,rfl,by decide +kernel,rfl,by decide +kernel,by decide +kernel⟩
def B_L_slot:SF:=(sSeq (sIf (tV (e2 oEq (eCall F_L_draw (aCons (eVar 0) (aCons (eC (.int 61)) (aCons (eC (.int 10037)) (aCons (eC (.int 2)) aNil))))) (eC (.int 0)))) (sRet (eCall F_L_draw (aCons (eVar 0) (aCons (eVar 1) (aCons (eC (.int 10039)) (aCons (eC (.int 12)) aNil)))))) sNx) (sRet (eCall F_L_draw (aCons (eVar 0) (aCons (eVar 1) (aCons (eC (.int 100003)) (aCons (eC (.int 1000)) aNil)))))))
def F_L_slot:List D→Option D:=runF 2 2 B_L_slot
theorem ok_L_slot (W_L_draw:FN P w K mg base CX0 1 "_law_draw" ["_law_script","_law_k","_law_prime","_law_many"] (spF K F_L_draw)) (F:Fun K "_law_slot" "_law_slot" s_L_slot f fd):FnOk P w K mg base CX0 2 f fd ["_law_script","_law_k"] (spF K F_L_slot):=by
 obtain ⟨_,_,G_L_draw,m_L_draw,k_L_draw,b_L_draw⟩:=W_L_draw
 have sc:=sc_L_slot
 refine fn_F F sc_L_slot fun cdv A outer s H E hr=>?_
 have hu:=hu_of hr
 exact (fs_cons (fs_if (ft_eq (fp_call G_L_draw (hr.mono (by decide)) m_L_draw k_L_draw b_L_draw (fa_cons (fp_var 0) (fa_cons fp_int (fa_cons fp_int (fa_cons fp_int fa_nil))))) fp_int) (fs_one (fs_ret (fp_call G_L_draw (hr.mono (by decide)) m_L_draw k_L_draw b_L_draw (fa_cons (fp_var 0) (fa_cons (fp_var 1) (fa_cons fp_int (fa_cons fp_int fa_nil))))))) fs_nil) (fs_one (fs_ret (fp_call G_L_draw (hr.mono (by decide)) m_L_draw k_L_draw b_L_draw (fa_cons (fp_var 0) (fa_cons (fp_var 1) (fa_cons fp_int (fa_cons fp_int fa_nil))))))))
abbrev s_L_values:Stmt:=top 17
theorem sc_L_values:FnScope ["_law_script","_law_first","_law_many","_law_values_here","_law_k"] ["_law_script","_law_first","_law_many"] (defScope s_L_values):=⟨rfl,rfl,rfl,by decide +kernel,rfl,by decide +kernel,by decide +kernel⟩
def B_L_values:SF:=(sSeq (sSet 3 (eC (.dic []))) (sSeq (sFor (iR1 (eVar 2)) (gN 4) (sDput 3 (eCall F_L_slot (aCons (eVar 0) (aCons (e2 oAdd (eVar 1) (eVar 4)) aNil))) (eCall F_L_value (aCons (eVar 0) (aCons (e2 oAdd (eVar 1) (eVar 4)) aNil))))) (sRetV 3)))
def F_L_values:List D→Option D:=runF 3 5 B_L_values
theorem ok_L_values (g_range:mg "range"=none) (W_L_slot:FN P w K mg base CX0 2 "_law_slot" ["_law_script","_law_k"] (spF K F_L_slot)) (W_L_value:FN P w K mg base CX0 2 "_law_value" ["_law_script","_law_k"] (spF K F_L_value)) (F:Fun K "_law_values" "_law_values" s_L_values f fd):FnOk P w K mg base CX0 3 f fd ["_law_script","_law_first","_law_many"] (spF K F_L_values):=by
 obtain ⟨_,_,G_L_slot,m_L_slot,k_L_slot,b_L_slot⟩:=W_L_slot
 obtain ⟨_,_,G_L_value,m_L_value,k_L_value,b_L_value⟩:=W_L_value
 have sc:=sc_L_values
 refine fn_F F sc_L_values fun cdv A outer s H E hr=>?_
 have hu:=hu_of hr
 exact (fs_cons (fs_set 3 fp_dnew sc.nd) (fs_cons (fs_for rfl (fi_range1 g_range (fp_var 2)) (fg_name 4 sc.nd) (fs_one (fs_dput 3 hu (fp_call G_L_slot (hr.mono (by decide)) m_L_slot k_L_slot b_L_slot (fa_cons (fp_var 0) (fa_cons (fp_add (fp_var 1) (fp_var 4)) fa_nil))) (fp_call G_L_value (hr.mono (by decide)) m_L_value k_L_value b_L_value (fa_cons (fp_var 0) (fa_cons (fp_add (fp_var 1) (fp_var 4)) fa_nil)))))) (fs_one (fs_retV 3))))
abbrev s_L_sheet:Stmt:=top 18
theorem sc_L_sheet:FnScope ["_law_values_here"] ["_law_values_here"] (defScope s_L_sheet):=⟨rfl,rfl,rfl,by decide +kernel,rfl,by decide +kernel,by decide +kernel⟩
def B_L_sheet:SF:=(sRet (eComp [none,some 0] (iSeqF (e1 oSorted (eVar 0))) (gN 0) (tV (e2 oGt (e2 oGet (eVar 1) (eVar 0)) (eC (.int 0)))) (eTup (aCons (eVar 0) (aCons (e2 oGet (eVar 1) (eVar 0)) aNil)))))
def F_L_sheet:List D→Option D:=runF 1 1 B_L_sheet
theorem ok_L_sheet (g_sorted:mg "sorted"=none) (F:Fun K "_law_sheet" "_law_sheet" s_L_sheet f fd):FnOk P w K mg base CX0 1 f fd ["_law_values_here"] (spF K F_L_sheet):=by
 have sc:=sc_L_sheet
 refine fn_F F sc_L_sheet fun cdv A outer s H E hr=>?_
 have hu:=hu_of hr
 exact (fs_one (fs_ret (fp_comp (M:=["_law_slot_here","_law_values_here"]) (js:=[none,some 0]) (is:=[0]) (compScope_mk (N:=["_law_values_here"]) (osc:=defScope s_L_sheet) rfl rfl rfl (by decide +kernel)) rfl (fi_seq (fp_sorted rfl g_sorted (fp_var 0))) (by decide) fun s3 H3 fp=>⟨(fg_name 0 (show (["_law_slot_here","_law_values_here"]:List Str).Nodup by decide +kernel)),(fts_one (ft_gt (fp_dget hu (fp_var 1) (fp_var 0)) fp_int)),(fp_tup (fa_cons (fp_var 0) (fa_cons (fp_dget hu (fp_var 1) (fp_var 0)) fa_nil)))⟩)))
abbrev s_L_new:Stmt:=top 19
theorem sc_L_new:FnScope ["_law_script","_law_k","_law_old","_law_new_here"] ["_law_script","_law_k","_law_old"] (defScope s_L_new):=⟨rfl,rfl,rfl,by decide +kernel,rfl,by decide +kernel,by decide +kernel⟩
def B_L_new:SF:=(sSeq (sSet 3 (eCall F_L_value (aCons (eVar 0) (aCons (e2 oAdd (eVar 1) (eC (.int 7))) aNil)))) (sSeq (sIf (tV (e2 oEq (eCall F_L_draw (aCons (eVar 0) (aCons (eVar 1) (aCons (eC (.int 10061)) (aCons (eC (.int 3)) aNil))))) (eC (.int 0)))) (sSet 3 (eC (.int 0))) sNx) (sSeq (sIf (tV (e2 oEq (eVar 3) (eVar 2))) (sSet 3 (e2 oMod (e2 oAdd (eVar 2) (eC (.int 1))) (eC (.int 1000000001)))) sNx) (sRetV 3))))
def F_L_new:List D→Option D:=runF 3 4 B_L_new
theorem ok_L_new (W_L_value:FN P w K mg base CX0 2 "_law_value" ["_law_script","_law_k"] (spF K F_L_value)) (W_L_draw:FN P w K mg base CX0 1 "_law_draw" ["_law_script","_law_k","_law_prime","_law_many"] (spF K F_L_draw)) (F:Fun K "_law_new" "_law_new" s_L_new f fd):FnOk P w K mg base CX0 3 f fd ["_law_script","_law_k","_law_old"] (spF K F_L_new):=by
 obtain ⟨_,_,G_L_value,m_L_value,k_L_value,b_L_value⟩:=W_L_value
 obtain ⟨_,_,G_L_draw,m_L_draw,k_L_draw,b_L_draw⟩:=W_L_draw
 have sc:=sc_L_new
 refine fn_F F sc_L_new fun cdv A outer s H E hr=>?_
 have hu:=hu_of hr
 exact (fs_cons (fs_set 3 (fp_call G_L_value (hr.mono (by decide)) m_L_value k_L_value b_L_value (fa_cons (fp_var 0) (fa_cons (fp_add (fp_var 1) fp_int) fa_nil))) sc.nd) (fs_cons (fs_if (ft_eq (fp_call G_L_draw (hr.mono (by decide)) m_L_draw k_L_draw b_L_draw (fa_cons (fp_var 0) (fa_cons (fp_var 1) (fa_cons fp_int (fa_cons fp_int fa_nil))))) fp_int) (fs_one (fs_set 3 fp_int sc.nd)) fs_nil) (fs_cons (fs_if (ft_eq (fp_var 3) (fp_var 2)) (fs_one (fs_set 3 (fp_mod (fp_add (fp_var 2) fp_int) fp_int) sc.nd)) fs_nil) (fs_one (fs_retV 3)))))
abbrev s_L_edits:Stmt:=top 20
theorem sc_L_edits:FnScope ["_law_script","_law_values_here","_law_first","_law_many","_law_news","_law_k","_law_slot_here"] ["_law_script","_law_values_here","_law_first","_law_many"] (defScope s_L_edits):=⟨rfl,rfl,rfl,by decide +kernel,rfl,by decide +kernel,by decide +kernel⟩
def B_L_edits:SF:=(sSeq (sSet 4 (eC (.dic []))) (sSeq (sFor (iR1 (eVar 3)) (gN 5) (sSeq (sSet 6 (eCall F_L_slot (aCons (eVar 0) (aCons (e2 oAdd (eVar 2) (eVar 5)) aNil)))) (sSeq (sIf (tAnd2 (tV (e2 oEq (eCall F_L_draw (aCons (eVar 0) (aCons (e2 oAdd (eVar 2) (eVar 5)) (aCons (eC (.int 10067)) (aCons (eC (.int 2)) aNil))))) (eC (.int 0)))) (tV (e2 oGt (e1 oLen (eVar 1)) (eC (.int 0))))) (sSet 6 (e2 oIx (e1 oSorted (eVar 1)) (eCall F_L_draw (aCons (eVar 0) (aCons (e2 oAdd (eVar 2) (eVar 5)) (aCons (eC (.int 10069)) (aCons (e1 oLen (eVar 1)) aNil))))))) sNx) (sDput 4 (eVar 6) (eCall F_L_new (aCons (eVar 0) (aCons (e2 oAdd (eVar 2) (eVar 5)) (aCons (e3 oGetD (eVar 1) (eVar 6) (eC (.int 0))) aNil)))))))) (sRet (eComp [none,some 1,some 4] (iSeqF (e1 oSorted (eVar 4))) (gN 0) tTrue (eTup (aCons (eVar 0) (aCons (e3 oGetD (eVar 1) (eVar 0) (eC (.int 0))) (aCons (e2 oGet (eVar 2) (eVar 0)) aNil))))))))
def F_L_edits:List D→Option D:=runF 4 7 B_L_edits
theorem ok_L_edits (g_len:mg "len"=none) (g_range:mg "range"=none) (g_sorted:mg "sorted"=none) (W_L_slot:FN P w K mg base CX0 2 "_law_slot" ["_law_script","_law_k"] (spF K F_L_slot)) (W_L_draw:FN P w K mg base CX0 1 "_law_draw" ["_law_script","_law_k","_law_prime","_law_many"] (spF K F_L_draw)) (W_L_new:FN P w K mg base CX0 3 "_law_new" ["_law_script","_law_k","_law_old"] (spF K F_L_new)) (F:Fun K "_law_edits" "_law_edits" s_L_edits f fd):FnOk P w K mg base CX0 4 f fd ["_law_script","_law_values_here","_law_first","_law_many"] (spF K F_L_edits):=by
 obtain ⟨_,_,G_L_slot,m_L_slot,k_L_slot,b_L_slot⟩:=W_L_slot
 obtain ⟨_,_,G_L_draw,m_L_draw,k_L_draw,b_L_draw⟩:=W_L_draw
 obtain ⟨_,_,G_L_new,m_L_new,k_L_new,b_L_new⟩:=W_L_new
 have sc:=sc_L_edits
 refine fn_F F sc_L_edits fun cdv A outer s H E hr=>?_
 have hu:=hu_of hr
 exact (fs_cons (fs_set 4 fp_dnew sc.nd) (fs_cons (fs_for rfl (fi_range1 g_range (fp_var 3)) (fg_name 5 sc.nd) (fs_cons (fs_set 6 (fp_call G_L_slot (hr.mono (by decide)) m_L_slot k_L_slot b_L_slot (fa_cons (fp_var 0) (fa_cons (fp_add (fp_var 2) (fp_var 5)) fa_nil))) sc.nd) (fs_cons (fs_if (FW.ft (fw_and (ft_eq (fp_call G_L_draw (hr.mono (by decide)) m_L_draw k_L_draw b_L_draw (fa_cons (fp_var 0) (fa_cons (fp_add (fp_var 2) (fp_var 5)) (fa_cons fp_int (fa_cons fp_int fa_nil))))) fp_int) (fw_and1 (ft_gt (fp_len g_len (fp_var 1)) fp_int)))) (fs_one (fs_set 6 (fp_ix (fp_sorted rfl g_sorted (fp_var 1)) (fp_call G_L_draw (hr.mono (by decide)) m_L_draw k_L_draw b_L_draw (fa_cons (fp_var 0) (fa_cons (fp_add (fp_var 2) (fp_var 5)) (fa_cons fp_int (fa_cons (fp_len g_len (fp_var 1)) fa_nil)))))) sc.nd)) fs_nil) (fs_one (fs_dput 4 hu (fp_var 6) (fp_call G_L_new (hr.mono (by decide)) m_L_new k_L_new b_L_new (fa_cons (fp_var 0) (fa_cons (fp_add (fp_var 2) (fp_var 5)) (fa_cons (fp_dget2 hu (fp_var 1) (fp_var 6) fp_int) fa_nil))))))))) (fs_one (fs_ret (fp_comp (M:=["_law_slot_here","_law_values_here","_law_news"]) (js:=[none,some 1,some 4]) (is:=[0]) (compScope_mk (N:=["_law_script","_law_values_here","_law_first","_law_many","_law_news","_law_k","_law_slot_here"]) (osc:=defScope s_L_edits) rfl rfl rfl (by decide +kernel)) rfl (fi_seq (fp_sorted rfl g_sorted (fp_var 4))) (by decide) fun s3 H3 fp=>⟨(fg_name 0 (show (["_law_slot_here","_law_values_here","_law_news"]:List Str).Nodup by decide +kernel)),fts_nil,(fp_tup (fa_cons (fp_var 0) (fa_cons (fp_dget2 hu (fp_var 1) (fp_var 0) fp_int) (fa_cons (fp_dget hu (fp_var 2) (fp_var 0)) fa_nil))))⟩)))))
abbrev s_L_did:Stmt:=top 21
theorem sc_L_did:FnScope ["_law_values_here","_law_edits_here","_law_after","_law_slot_here","_law_old","_law_new_here"] ["_law_values_here","_law_edits_here"] (defScope s_L_did):=⟨rfl,rfl,rfl,by decide +kernel,rfl,by decide +kernel,by decide +kernel⟩
def B_L_did:SF:=(sSeq (sSet 2 (e1 oDict (eVar 0))) (sSeq (sFor (iSeqF (eVar 1)) (gT (gsCons (gN 3) (gsCons (gN 4) (gsCons (gN 5) gsNil)))) (sDput 2 (eVar 3) (eVar 5))) (sRetV 2)))
def F_L_did:List D→Option D:=runF 2 6 B_L_did
theorem ok_L_did (g_dict:mg "dict"=none) (F:Fun K "_law_did" "_law_did" s_L_did f fd):FnOk P w K mg base CX0 1 f fd ["_law_values_here","_law_edits_here"] (spF K F_L_did):=by
 have sc:=sc_L_did
 refine fn_F F sc_L_did fun cdv A outer s H E hr=>?_
 have hu:=hu_of hr
 exact (fs_cons (fs_set 2 (fp_dict rfl g_dict (fp_var 0)) sc.nd) (fs_cons (fs_for rfl (fi_seq (fp_var 1)) (fg_tup rfl (fgs_cons (fg_name 3 sc.nd) (fgs_cons (fg_name 4 sc.nd) (fgs_cons (fg_name 5 sc.nd) fgs_nil)))) (fs_one (fs_dput 2 hu (fp_var 3) (fp_var 5)))) (fs_one (fs_retV 2))))
abbrev s_L_row:Stmt:=top 22
theorem sc_L_row:FnScope ["_law_script","_law_values_here","_law_row_here","_law_k","_law_edits_here"] ["_law_script","_law_values_here"] (defScope s_L_row):=⟨rfl,rfl,rfl,by decide +kernel,rfl,by decide +kernel,by decide +kernel⟩
def B_L_row:SF:=(sSeq (sSet 2 (eLst aNil)) (sSeq (sFor (iR3 (eC (.int 0)) (e2 oMin2 (eC (.int 60)) (e1 oLen (eVar 0))) 3) (gN 3) (sSeq (sSet 4 (eCall F_L_edits (aCons (eVar 0) (aCons (eVar 1) (aCons (eVar 3) (aCons (eCall F_L_draw (aCons (eVar 0) (aCons (eVar 3) (aCons (eC (.int 10141)) (aCons (eC (.int 7)) aNil))))) aNil)))))) (sSeq (sAppN 2 4) (sSet 1 (eCall F_L_did (aCons (eVar 1) (aCons (eVar 4) aNil))))))) (sRetV 2)))
def F_L_row:List D→Option D:=runF 2 5 B_L_row
theorem ok_L_row (g_len:mg "len"=none) (g_min:mg "min"=none) (g_range:mg "range"=none) (W_L_edits:FN P w K mg base CX0 4 "_law_edits" ["_law_script","_law_values_here","_law_first","_law_many"] (spF K F_L_edits)) (W_L_draw:FN P w K mg base CX0 1 "_law_draw" ["_law_script","_law_k","_law_prime","_law_many"] (spF K F_L_draw)) (W_L_did:FN P w K mg base CX0 1 "_law_did" ["_law_values_here","_law_edits_here"] (spF K F_L_did)) (F:Fun K "_law_row" "_law_row" s_L_row f fd):FnOk P w K mg base CX0 5 f fd ["_law_script","_law_values_here"] (spF K F_L_row):=by
 obtain ⟨_,_,G_L_edits,m_L_edits,k_L_edits,b_L_edits⟩:=W_L_edits
 obtain ⟨_,_,G_L_draw,m_L_draw,k_L_draw,b_L_draw⟩:=W_L_draw
 obtain ⟨_,_,G_L_did,m_L_did,k_L_did,b_L_did⟩:=W_L_did
 have sc:=sc_L_row
 refine fn_F F sc_L_row fun cdv A outer s H E hr=>?_
 have hu:=hu_of hr
 exact (fs_cons (fs_set 2 (fp_lst fa_nil) sc.nd) (fs_cons (fs_for rfl (fi_range3P g_range fp_int (fp_min2 rfl g_min fp_int (fp_len g_len (fp_var 0)))) (fg_name 3 sc.nd) (fs_cons (fs_set 4 (fp_call G_L_edits (hr.mono (by decide)) m_L_edits k_L_edits b_L_edits (fa_cons (fp_var 0) (fa_cons (fp_var 1) (fa_cons (fp_var 3) (fa_cons (fp_call G_L_draw (hr.mono (by decide)) m_L_draw k_L_draw b_L_draw (fa_cons (fp_var 0) (fa_cons (fp_var 3) (fa_cons fp_int (fa_cons fp_int fa_nil))))) fa_nil))))) sc.nd) (fs_cons (fs_appN 2 4) (fs_one (fs_set 1 (fp_call G_L_did (hr.mono (by decide)) m_L_did k_L_did b_L_did (fa_cons (fp_var 1) (fa_cons (fp_var 4) fa_nil))) sc.nd))))) (fs_one (fs_retV 2))))
abbrev s_law:Stmt:=top 23
theorem sc_law:FnScope ["_law_script","_law_values_here","_law_first","_law_row_here","_law_last","_law_forth","_law_edits_here","_law_back","_law_due"] ["_law_script"] (defScope s_law):=⟨rfl,rfl,rfl,by decide +kernel,rfl,by decide +kernel,by decide +kernel⟩
def B_law:SF:=(sSeq (sSet 1 (eCall F_L_values (aCons (eVar 0) (aCons (eC (.int 40)) (aCons (eCall F_L_draw (aCons (eVar 0) (aCons (eC (.int 2)) (aCons (eC (.int 10151)) (aCons (eC (.int 7)) aNil))))) aNil))))) (sSeq (sSet 2 (eCall F_L_sheet (aCons (eVar 1) aNil))) (sSeq (sSet 3 (eCall F_L_row (aCons (eVar 0) (aCons (eVar 1) aNil)))) (sSeq (sSet 4 (e1 oList (eVar 2))) (sSeq (sSet 5 (eLst aNil)) (sSeq (sFor (iSeqF (eVar 3)) (gN 6) (sSeq (sSet 4 (eCall F_edited (aCons (eVar 4) (aCons (eVar 6) aNil)))) (sSet 5 (eCall F_joined (aCons (eVar 5) (aCons (eVar 6) aNil)))))) (sSeq (sSet 7 (eLst aNil)) (sSeq (sFor (iRevF (eVar 3)) (gN 6) (sSet 7 (eCall F_joined (aCons (eVar 6) (aCons (eVar 7) aNil))))) (sSeq (sSet 8 (eCall F_between (aCons (eVar 2) (aCons (eVar 4) aNil)))) (sSeq (sIf (tOr2 (tV (e2 oNe (e1 oRepr (eVar 5)) (e1 oRepr (eVar 8)))) (tV (e2 oNe (e1 oRepr (eVar 7)) (e1 oRepr (eVar 8))))) (sRet (eC (.bl false))) sNx) (sSeq (sFor (iSeqF (eVar 3)) (gN 6) (sSet 1 (eCall F_L_did (aCons (eVar 1) (aCons (eVar 6) aNil))))) (sSeq (sIf (tOr2 (tV (e2 oNe (e1 oRepr (eVar 4)) (e1 oRepr (eCall F_L_sheet (aCons (eVar 1) aNil))))) (tV (e2 oNe (e1 oRepr (eCall F_edited (aCons (eVar 2) (aCons (eVar 5) aNil)))) (e1 oRepr (eVar 4))))) (sRet (eC (.bl false))) sNx) (sRet (e2 oEq (e1 oRepr (eCall F_edited (aCons (eVar 4) (aCons (eCall F_way_back (aCons (eVar 5) aNil)) aNil)))) (e1 oRepr (eVar 2))))))))))))))))
def F_law:List D→Option D:=runF 1 9 B_law
theorem ok_law (g_list:mg "list"=none) (g_repr:mg "repr"=none) (g_reversed:mg "reversed"=none) (W_L_values:FN P w K mg base CX0 3 "_law_values" ["_law_script","_law_first","_law_many"] (spF K F_L_values)) (W_L_draw:FN P w K mg base CX0 1 "_law_draw" ["_law_script","_law_k","_law_prime","_law_many"] (spF K F_L_draw)) (W_L_sheet:FN P w K mg base CX0 1 "_law_sheet" ["_law_values_here"] (spF K F_L_sheet)) (W_L_row:FN P w K mg base CX0 5 "_law_row" ["_law_script","_law_values_here"] (spF K F_L_row)) (W_edited:FN P w K mg base CX0 3 "edited" ["sheet","edits"] (spF K F_edited)) (W_joined:FN P w K mg base CX0 2 "joined" ["one","other"] (spF K F_joined)) (W_between:FN P w K mg base CX0 1 "between" ["sheet","other"] (spF K F_between)) (W_L_did:FN P w K mg base CX0 1 "_law_did" ["_law_values_here","_law_edits_here"] (spF K F_L_did)) (W_way_back:FN P w K mg base CX0 1 "way_back" ["edits"] (spF K F_way_back)) (F:Fun K "law" "law" s_law f fd):FnOk P w K mg base CX0 6 f fd ["_law_script"] (spF K F_law):=by
 obtain ⟨_,_,G_L_values,m_L_values,k_L_values,b_L_values⟩:=W_L_values
 obtain ⟨_,_,G_L_draw,m_L_draw,k_L_draw,b_L_draw⟩:=W_L_draw
 obtain ⟨_,_,G_L_sheet,m_L_sheet,k_L_sheet,b_L_sheet⟩:=W_L_sheet
 obtain ⟨_,_,G_L_row,m_L_row,k_L_row,b_L_row⟩:=W_L_row
 obtain ⟨_,_,G_edited,m_edited,k_edited,b_edited⟩:=W_edited
 obtain ⟨_,_,G_joined,m_joined,k_joined,b_joined⟩:=W_joined
 obtain ⟨_,_,G_between,m_between,k_between,b_between⟩:=W_between
 obtain ⟨_,_,G_L_did,m_L_did,k_L_did,b_L_did⟩:=W_L_did
 obtain ⟨_,_,G_way_back,m_way_back,k_way_back,b_way_back⟩:=W_way_back
 have sc:=sc_law
 refine fn_F F sc_law fun cdv A outer s H E hr=>?_
 have hu:=hu_of hr
 exact (fs_cons (fs_set 1 (fp_call G_L_values (hr.mono (by decide)) m_L_values k_L_values b_L_values (fa_cons (fp_var 0) (fa_cons fp_int (fa_cons (fp_call G_L_draw (hr.mono (by decide)) m_L_draw k_L_draw b_L_draw (fa_cons (fp_var 0) (fa_cons fp_int (fa_cons fp_int (fa_cons fp_int fa_nil))))) fa_nil)))) sc.nd) (fs_cons (fs_set 2 (fp_call G_L_sheet (hr.mono (by decide)) m_L_sheet k_L_sheet b_L_sheet (fa_cons (fp_var 1) fa_nil)) sc.nd) (fs_cons (fs_set 3 (fp_call G_L_row (hr.mono (by decide)) m_L_row k_L_row b_L_row (fa_cons (fp_var 0) (fa_cons (fp_var 1) fa_nil))) sc.nd) (fs_cons (fs_set 4 (fp_list g_list (fp_var 2)) sc.nd) (fs_cons (fs_set 5 (fp_lst fa_nil) sc.nd) (fs_cons (fs_for rfl (fi_seq (fp_var 3)) (fg_name 6 sc.nd) (fs_cons (fs_set 4 (fp_call G_edited (hr.mono (by decide)) m_edited k_edited b_edited (fa_cons (fp_var 4) (fa_cons (fp_var 6) fa_nil))) sc.nd) (fs_one (fs_set 5 (fp_call G_joined (hr.mono (by decide)) m_joined k_joined b_joined (fa_cons (fp_var 5) (fa_cons (fp_var 6) fa_nil))) sc.nd)))) (fs_cons (fs_set 7 (fp_lst fa_nil) sc.nd) (fs_cons (fs_for rfl (fi_rev g_reversed (fp_var 3)) (fg_name 6 sc.nd) (fs_one (fs_set 7 (fp_call G_joined (hr.mono (by decide)) m_joined k_joined b_joined (fa_cons (fp_var 6) (fa_cons (fp_var 7) fa_nil))) sc.nd))) (fs_cons (fs_set 8 (fp_call G_between (hr.mono (by decide)) m_between k_between b_between (fa_cons (fp_var 2) (fa_cons (fp_var 4) fa_nil))) sc.nd) (fs_cons (fs_if (FW.ft (fw_or (ft_ne (fp_repr hr g_repr (fp_var 5)) (fp_repr hr g_repr (fp_var 8))) (fw_or1 (ft_ne (fp_repr hr g_repr (fp_var 7)) (fp_repr hr g_repr (fp_var 8)))))) (fs_one (fs_ret fp_bl)) fs_nil) (fs_cons (fs_for rfl (fi_seq (fp_var 3)) (fg_name 6 sc.nd) (fs_one (fs_set 1 (fp_call G_L_did (hr.mono (by decide)) m_L_did k_L_did b_L_did (fa_cons (fp_var 1) (fa_cons (fp_var 6) fa_nil))) sc.nd))) (fs_cons (fs_if (FW.ft (fw_or (ft_ne (fp_repr hr g_repr (fp_var 4)) (fp_repr hr g_repr (fp_call G_L_sheet (hr.mono (by decide)) m_L_sheet k_L_sheet b_L_sheet (fa_cons (fp_var 1) fa_nil)))) (fw_or1 (ft_ne (fp_repr hr g_repr (fp_call G_edited (hr.mono (by decide)) m_edited k_edited b_edited (fa_cons (fp_var 2) (fa_cons (fp_var 5) fa_nil)))) (fp_repr hr g_repr (fp_var 4)))))) (fs_one (fs_ret fp_bl)) fs_nil) (fs_one (fs_ret (fp_eq (fp_repr hr g_repr (fp_call G_edited (hr.mono (by decide)) m_edited k_edited b_edited (fa_cons (fp_var 4) (fa_cons (fp_call G_way_back (hr.mono (by decide)) m_way_back k_way_back b_way_back (fa_cons (fp_var 5) fa_nil)) fa_nil)))) (fp_repr hr g_repr (fp_var 2)))))))))))))))))
end K07
namespace K07
open PySem L2 L2.Ev
local macro_rules | `(tactic| walk_at "evs")=>`(tactic| simp only [s_eVar,s_varK,s_tagS,s_tagO,s_tagL,s_eC,s_e1,s_k1,s_e2,s_k2,s_map,s_tV,s_kV,s_not,s_nx,s_bk,s_ct,s_seq,s_seqN,s_seqR,s_seqB,s_seqC,s_if,s_ifT,s_ifF,s_ret,s_retO,s_retV,s_retVO,s_retVL,s_set,s_setO,s_setS,s_sS,s_sO,s_gN,s_aNil,s_aCons,s_consK,
 s_call,s_bind,s_tup,s_lst,s_oAdd,s_oSub,s_oLt,s_oLe,s_oGt,s_oGe,s_oEq,s_oNe,s_lenL,s_lenT,s_lenF,s_lenD,List.getElem?_cons_zero,List.getElem?_cons_succ,List.set_cons_zero,List.set_cons_succ,List.map_cons,List.map_nil,beq_self_eq_true,s_e3,s_k3,s_tAnd,s_tOr,s_andKT,s_andKF,s_orKT,s_orKF,s_eAnd,s_eAndT,s_eAndF,s_oNot,s_min2,s_isN,s_notN,s_tTrue,s_getD,s_lenKV,List.length_map,decide_true,decide_false,if_true,if_false,Bool.not_true,Bool.not_false, *])
def cell (ns:List Int) (k:Int):Int:=if 0 < (ns.length:Int) then ns.getD (k % (ns.length:Int)).toNat 0 else 0
def draw (ns:List Int) (k p m:Int):Int:=((cell ns k + k * k) * 48271 + 11) % p % m
theorem draw_lt {ns:List Int}{k p m:Int} (hm:0 < m):0≤draw ns k p m∧draw ns k p m < m:=⟨Int.emod_nonneg _ (by omega),Int.emod_lt_of_pos _ hm⟩
theorem f_draw {ns:List Int}{k p m:Int} (hk:-(2 ^ 64) < k∧k < 2 ^ 64) (hp:0 < p) (hm:0 < m):F_L_draw [dI ns,.int k,.int p,.int m]=some (.int (draw ns k p m)):=by
 have c1:cMul k k=true:=by have h1:=hk.1;have h2:=hk.2;unfold cMul;rw [decide_eq_true h1,decide_eq_true h2];rfl
 have c2:∀ x,cMul x 48271=true:=fun x=>by unfold cMul;simp
 have q1:=@s_oMod
 have q2:=@s_oMul
 refine runF_rt rfl ?_
 show B_L_draw [some (.fls (ns.map D.int),.sh []),some (.int k,.sh []),some (.int p,.sh []),some (.int m,.sh []),none]=_
 unfold B_L_draw draw cell
 by_cases hl:0 < (ns.length:Int)
 ·have h0:0≤k % (ns.length:Int):=Int.emod_nonneg _ (by omega)
  have h1:k % (ns.length:Int) < (ns.length:Int):=Int.emod_lt_of_pos _ hl
  have ha:=s_ixF (atI_ints h0 h1) rfl
  walk_at "evs"
 ·walk_at "evs"
def value (ns:List Int) (k:Int):Int:=if draw ns k 10007 3=0 then 1 + cell ns k % 1000000000 else [1,2,3,999999999,1000000000].getD (draw ns k 10009 5).toNat 0
theorem f_value {ns:List Int}{k:Int} (hk:-(2 ^ 64) < k∧k < 2 ^ 64):F_L_value [dI ns,.int k]=some (.int (value ns k)):=by
 have q1:=@s_oMod
 have d1:=f_draw (ns:=ns) (p:=10007) (m:=3) hk (by omega) (by omega)
 have d2:=f_draw (ns:=ns) (p:=10009) (m:=5) hk (by omega) (by omega)
 have ht:=draw_lt (ns:=ns) (k:=k) (p:=10009) (m:=5) (by omega)
 have hx:oIx (.lst [.int 1,.int 2,.int 3,.int 999999999,.int 1000000000]) (.int (draw ns k 10009 5))=some (.int ([1,2,3,999999999,1000000000].getD (draw ns k 10009 5).toNat 0)):=s_ixL (atI_ints (ns:=[1,2,3,999999999,1000000000]) ht.1 ht.2) rfl
 have z:(0:Int) < 1000000000:=by omega
 refine runF_rt rfl ?_
 show B_L_value [some (.fls (ns.map D.int),.sh []),some (.int k,.sh []),none]=_
 have e:D.fls (ns.map D.int)=dI ns:=rfl
 unfold B_L_value value
 by_cases hd:draw ns k 10007 3=0
 ·unfold cell
  by_cases hl:0 < (ns.length:Int)
  ·have h0:0≤k % (ns.length:Int):=Int.emod_nonneg _ (by omega)
   have h1:k % (ns.length:Int) < (ns.length:Int):=Int.emod_lt_of_pos _ hl
   have ha:=s_ixF (atI_ints h0 h1) rfl
   have hd':(draw ns k 10007 3 == 0)=true:=by rw [hd];rfl
   simp only [e] at ha
   have hn:oLen (dI ns)=some (.int ns.length):=by unfold dI;rw [s_lenF,List.length_map]
   walk_at "evs"
  ·have hd':(draw ns k 10007 3 == 0)=true:=by rw [hd];rfl
   have hn:oLen (dI ns)=some (.int ns.length):=by unfold dI;rw [s_lenF,List.length_map]
   walk_at "evs"
 ·have hd':(draw ns k 10007 3 == 0)=false:=by simpa using hd
  have hn:oLen (dI ns)=some (.int ns.length):=by unfold dI;rw [s_lenF,List.length_map]
  by_cases hl:0 < (ns.length:Int)
  ·have h0:0≤k % (ns.length:Int):=Int.emod_nonneg _ (by omega)
   have h1:k % (ns.length:Int) < (ns.length:Int):=Int.emod_lt_of_pos _ hl
   have ha:=s_ixF (atI_ints h0 h1) rfl
   simp only [e] at ha
   walk_at "evs"
  ·walk_at "evs"
theorem for_nx0' {g:GF}{f:SF}{it:IF}{ds:List D}{ρ ρ':Rho} (hi:it ρ=some (ds,.sh [])) (h:loopF g (.sh []) f ds ρ=some (.nx ρ')):sFor it g f ρ=some (.nx ρ'):=for_nx hi h
theorem value_pos {ns:List Int}{k:Int}:0 < value ns k:=by
 unfold value
 split
 ·have:=Int.emod_nonneg (cell ns k) (show (1000000000:Int)≠0 by omega);omega
 ·have ht:=draw_lt (ns:=ns) (k:=k) (p:=10009) (m:=5) (by omega)
  obtain ⟨a,b⟩:=ht
  generalize draw ns k 10009 5=x at a b
  have:x=0∨x=1∨x=2∨x=3∨x=4:=by omega
  rcases this with rfl | rfl | rfl | rfl | rfl <;> decide
theorem value_le {ns:List Int}{k:Int}:value ns k≤1000000000:=by
 unfold value
 split
 ·omega
 ·have h:=draw_lt (ns:=ns) (k:=k) (p:=10009) (m:=5) (by omega)
  generalize (draw ns k 10009 5).toNat=j
  match j with
  | 0 | 1 | 2 | 3 | 4=>simp
  | j + 5=>simp
def slot (ns:List Int) (k:Int):Int:=if draw ns 61 10037 2=0 then draw ns k 10039 12 else draw ns k 100003 1000
theorem slot_b {ns:List Int}{k:Int}:0≤slot ns k∧slot ns k < 1000:=by
 have h1:=draw_lt (ns:=ns) (k:=k) (p:=10039) (m:=12) (by omega)
 have h2:=draw_lt (ns:=ns) (k:=k) (p:=100003) (m:=1000) (by omega)
 unfold slot
 split <;> omega
def Sl (ns:List Int) (t:Int):Prop:=∃ j:Nat,j < 63∧t=slot ns j
theorem sl_of {ns:List Int}{x:Int} (h:0≤x∧x < 63):Sl ns (slot ns x):=⟨x.toNat,by omega,by rw [show ((x.toNat:Nat):Int)=x by omega]⟩
theorem f_slot {ns:List Int}{k:Int} (hk:-(2 ^ 64) < k∧k < 2 ^ 64):F_L_slot [dI ns,.int k]=some (.int (slot ns k)):=by
 have d1:=f_draw (ns:=ns) (k:=61) (p:=10037) (m:=2) (by omega) (by omega) (by omega)
 have d2:=f_draw (ns:=ns) (p:=10039) (m:=12) hk (by omega) (by omega)
 have d3:=f_draw (ns:=ns) (p:=100003) (m:=1000) hk (by omega) (by omega)
 refine runF_rt rfl ?_
 show B_L_slot [some (dI ns,.sh []),some (.int k,.sh [])]=_
 unfold B_L_slot slot
 by_cases hd:draw ns 61 10037 2=0
 ·walk_at "evs"
 ·have hd':(draw ns 61 10037 2 == 0)=false:=by simpa using hd
  walk_at "evs"
theorem add_b {k:Int}{j:Nat} (hk:-(2 ^ 63) < k∧k < 2 ^ 63) (hj:j < 64):-(2 ^ 64) < k + j∧k + j < 2 ^ 64:=by omega
theorem small_nat {n:Nat} (h:n < 64):small (n:Int)=true:=by
 unfold small
 rw [decide_eq_true (show -(2 ^ 62)≤(n:Int) by omega),decide_eq_true (show (n:Int) < 2 ^ 62 by omega)];rfl
theorem size_nat {n:Nat} (h:n < 64):n < sizeLine:=by unfold sizeLine;omega
structure Vals' (es:List (Int×Int)) (n:Nat):Prop where
 nd:(es.map (·.1)).Nodup
 ln:es.length≤n
 ps:∀ j w,getI es j=some w→0 < w∧w≤1000000000∧0≤j∧j < 1000
abbrev bVals:SF:=sDput 3 (eCall F_L_slot (aCons (eVar 0) (aCons (e2 oAdd (eVar 1) (eVar 4)) aNil))) (eCall F_L_value (aCons (eVar 0) (aCons (e2 oAdd (eVar 1) (eVar 4)) aNil)))
def rVals (ns:List Int) (k n:Int) (es:List (Int×Int)) (s:Slot):Rho:=[some (dI ns,.sh []),some (.int k,.sh []),some (.int n,.sh []),some (dKV es,.own),s]
theorem vals_step {ns:List Int}{k n:Int}{j:Nat}{es:List (Int×Int)} (b:-(2 ^ 64) < k + j∧k + j < 2 ^ 64) (hl:es.length < sizeLine):bVals (rVals ns k n es (some (.int j,.sh [])))=some (.nx (rVals ns k n (putI es (slot ns (k + j)) (value ns (k + j))) (some (.int j,.sh [])))):=by
 have h1:=f_slot (ns:=ns) b
 have h2:=f_value (ns:=ns) b
 unfold rVals
 refine s_dput (es:=es) (k:=slot ns (k + j)) (v:=value ns (k + j)) (t1:=.own) (t2:=.own) ?_ rfl ?_ hl
 ·clear b;walk_at "evs"
 ·clear b;walk_at "evs"
theorem vals_loop {ns:List Int}{k:Int}{n:Nat} (hk:-(2 ^ 63) < k∧k < 2 ^ 63) (hn:n < 64) (h3:0≤k∧k + n≤63):∃ ρ',loopF (gN 4) (.sh []) bVals ((List.range (n:Int).toNat).map fun i:Nat=>D.int (0 + (i:Int))) (rVals ns k n [] none)=some (.nx ρ')∧∃ es s,(Vals' es n∧∀ q w,getI es q=some w→Sl ns q)∧ρ'=rVals ns k n es s:=by
 obtain ⟨ρ',h1,h2⟩:=loop_nx (g:=gN 4) (t:=.sh []) (f:=bVals) (fun j ρ=>∃ es s,(Vals' es j∧∀ q w,getI es q=some w→Sl ns q)∧ρ=rVals ns k n es s)
  (ds:=(List.range (n:Int).toNat).map fun i:Nat=>D.int (0 + (i:Int))) (ρ:=rVals ns k n [] none) (n:=0) ⟨[],none,⟨⟨List.nodup_nil,Nat.le_refl _,(fun j w h=>nomatch h)⟩,(fun j w h=>nomatch h)⟩,rfl⟩
  (fun j ρ d hd hp=>by
   obtain ⟨rfl,hj⟩:=range_at hd
   obtain ⟨es,s,⟨hv,hs⟩,rfl⟩:=hp
   rw [Int.toNat_natCast] at hj
   rw [Nat.zero_add] at hv ⊢
   refine ⟨rVals ns k n es (some (.int j,.sh [])),_,rfl,.inl (vals_step (add_b hk (by omega)) (size_nat (by have:=hv.ln;omega))),_,_,⟨⟨putI_nodup hv.nd,?_,?_⟩,?_⟩,rfl⟩
   ·exact Nat.le_trans putI_len (Nat.add_le_add_right hv.ln 1)
   ·intro x w h
    rw [getI_put] at h
    split at h
    ·rename_i e
     cases h
     have b:=slot_b (ns:=ns) (k:=k + j)
     exact ⟨value_pos,value_le,by omega,by omega⟩
    ·exact hv.ps _ _ h
   ·intro x w h
    rw [getI_put] at h
    split at h
    ·rename_i e;rw [e];exact sl_of (by omega)
    ·exact hs _ _ h)
 rw [List.length_map,List.length_range,Int.toNat_natCast,Nat.zero_add] at h2
 exact ⟨ρ',h1,h2⟩
theorem vals_for {ns:List Int}{k:Int}{n:Nat} (hk:-(2 ^ 63) < k∧k < 2 ^ 63) (hn:n < 64) (h3:0≤k∧k + n≤63):∃ es s,sFor (iR1 (eVar 2)) (gN 4) bVals (rVals ns k n [] none)=some (.nx (rVals ns k n es s))∧Vals' es n∧∀ q w,getI es q=some w→Sl ns q:=by
 obtain ⟨ρ',h1,es,s,hv,rfl⟩:=vals_loop (ns:=ns) hk hn h3
 exact ⟨es,s,for_nx0 (ir1 (t:=.sh []) rfl (small_nat hn)) h1,hv⟩
theorem f_values {ns:List Int}{k:Int}{n:Nat} (hk:-(2 ^ 63) < k∧k < 2 ^ 63) (hn:n < 64) (h3:0≤k∧k + n≤63):∃ es,F_L_values [dI ns,.int k,.int n]=some (dKV es)∧Vals' es n∧∀ q w,getI es q=some w→Sl ns q:=by
 obtain ⟨es,s,h1,hv⟩:=vals_for (ns:=ns) hk hn h3
 refine ⟨es,runF_rt rfl ?_,hv⟩
 clear hk hn hv h3
 show B_L_values [some (dI ns,.sh []),some (.int k,.sh []),some (.int n,.sh []),none,none]=_
 unfold B_L_values
 have e1:sSet 3 (eC (.dic [])) [some (dI ns,.sh []),some (.int k,.sh []),some (.int n,.sh []),none,none]=some (.nx (rVals ns k n [] none)):=rfl
 rw [s_seq,e1,s_seqN,s_seq,h1,s_seqN]
 rfl
def sheetI (es:List (Int×Int)):List (Int×Int):=(srt (es.map (·.1))).map fun k=>(k,(getI es k).getD 0)
theorem mem_srt {l:List Int}{x:Int}:x∈srt l↔x∈l:=(srt_perm l).mem_iff
theorem f_sheet {es:List (Int×Int)}{n:Nat} (hv:Vals' es n) (hn:n < 64):F_L_sheet [dKV es]=some (.lst ((sheetI es).map dP)):=by
 refine runF_rt rfl ?_
 show B_L_sheet [some (dKV es,.sh [])]=_
 have hs:(e1 oSorted (eVar 0)) [some (dKV es,.sh [])]=some (.lst ((srt (es.map (·.1))).map D.int),.own):=by
  rw [s_e1]
  show (oSorted (dKV es)).map _=_
  rw [s_sortedKV (by have:=hv.ln;omega)];rfl
 have hc:=comp_ok (js:=[none,some 0]) (g:=gN 0) (tt:=tV (e2 oGt (e2 oGet (eVar 1) (eVar 0)) (eC (.int 0)))) (te:=eTup (aCons (eVar 0) (aCons (e2 oGet (eVar 1) (eVar 0)) aNil))) (k:=fun d=>match d with
   | .int i=>some (dP (i,(getI es i).getD 0))
   | _=>none) (iseqL hs) (by rw [List.length_map,srt_len,List.length_map];exact size_nat (by have:=hv.ln;omega)) (fun d m=>by
  obtain ⟨i,mi,rfl⟩:=List.mem_map.mp m
  obtain ⟨w,hw⟩:=getI_key.mpr (mem_srt.mp mi)
  have hp:=(hv.ps _ _ hw).1
  have hg:=s_get hw
  have hd:decide (0 < w)=true:=decide_eq_true hp
  show _=some (some (dP (i,(getI es i).getD 0)))
  refine compE_imm (ρ1:=[some (.int i,.sh []),some (dKV es,.sh [])]) (tg:=.sh []) rfl ?_ ?_ rfl
  ·rw [s_tV,s_e2,s_e2]
   show Ev.kV (k2 oGt ((oGet (dKV es) (.int i)).map _) _)=_
   rw [hg,s_map]
   show some (decide (0 < w))=_
   rw [hd]
  ·rw [s_tup,s_aCons,s_aCons,s_e2]
   show Option.map _ (consK _ (consK ((oGet (dKV es) (.int i)).map _) _))=_
   rw [hg,hw];rfl)
 unfold B_L_sheet
 rw [s_ret,hc,s_retO]
 congr 3
 unfold sheetI
 rw [List.filterMap_map,List.map_map]
 exact congrFun (List.filterMap_eq_map (f:=dP ∘ fun k=>(k,(getI es k).getD 0))) _
theorem s_ipairs:∀ ps:List (Int×Int),immAll (ps.map dP)=true
 | []=>rfl
 | p::r=>by rw [List.map_cons];unfold immAll;rw [s_ipairs r];rfl
theorem s_listP {ps:List (Int×Int)}:oList (.lst (ps.map dP))=some (.lst (ps.map dP)):=by show (if immAll (ps.map dP)=true then some (D.lst (ps.map dP)) else none)=_;rw [if_pos (s_ipairs ps)]
theorem f_new {ns:List Int}{k v:Int} (hk:-(2 ^ 63) < k∧k < 2 ^ 63) (hv:0≤v∧v≤1000000000):∃ x,F_L_new [dI ns,.int k,.int v]=some (.int x)∧0≤x∧x≤1000000000∧x≠v:=by
 have m1:0≤(v + 1) % 1000000001∧(v + 1) % 1000000001≤1000000000:=by omega
 have m4:(v + 1) % 1000000001≠v:=by omega
 have m2:=value_pos (ns:=ns) (k:=k + 7)
 have m3:=value_le (ns:=ns) (k:=k + 7)
 have q1:=@s_oMod
 have z:(0:Int) < 1000000001:=by omega
 have d1:=f_draw (ns:=ns) (k:=k) (p:=10061) (m:=3) (by omega) (by omega) (by omega)
 have d2:=f_value (ns:=ns) (k:=k + 7) (by omega)
 clear hk hv
 by_cases h1:(draw ns k 10061 3 == 0)=true
 ·by_cases h2:(0 == v)=true
  ·refine ⟨(v + 1) % 1000000001,runF_rt rfl ?_,m1.1,m1.2,m4⟩
   clear m1 m2 m3 m4
   show B_L_new [some (dI ns,.sh []),some (.int k,.sh []),some (.int v,.sh []),none]=_
   unfold B_L_new
   walk_at "evs"
  ·have h2:(0 == v)=false:=by simpa using h2
   refine ⟨0,runF_rt rfl ?_,by omega,by omega,fun e=>by rw [e] at h2;simp at h2⟩
   clear m1 m2 m3 m4
   show B_L_new [some (dI ns,.sh []),some (.int k,.sh []),some (.int v,.sh []),none]=_
   unfold B_L_new
   walk_at "evs"
 ·have h1:(draw ns k 10061 3 == 0)=false:=by simpa using h1
  by_cases h2:(value ns (k + 7) == v)=true
  ·refine ⟨(v + 1) % 1000000001,runF_rt rfl ?_,m1.1,m1.2,m4⟩
   clear m1 m2 m3 m4
   show B_L_new [some (dI ns,.sh []),some (.int k,.sh []),some (.int v,.sh []),none]=_
   unfold B_L_new
   walk_at "evs"
  ·have h2:(value ns (k + 7) == v)=false:=by simpa using h2
   refine ⟨value ns (k + 7),runF_rt rfl ?_,by omega,m3,fun e=>by rw [e] at h2;simp at h2⟩
   clear m1 m2 m3 m4
   show B_L_new [some (dI ns,.sh []),some (.int k,.sh []),some (.int v,.sh []),none]=_
   unfold B_L_new
   walk_at "evs"
def dT (p:Int×Int×Int):D:=.tup [.int p.1,.int p.2.1,.int p.2.2]
def rEd (ns:List Int) (es:List (Int×Int)) (k n:Int) (fs:List (Int×Int)) (s5 s6:Slot):Rho:=[some (dI ns,.sh []),some (dKV es,.sh []),some (.int k,.sh []),some (.int n,.sh []),some (dKV fs,.own),s5,s6]
abbrev bEd:SF:=sSeq (sSet 6 (eCall F_L_slot (aCons (eVar 0) (aCons (e2 oAdd (eVar 2) (eVar 5)) aNil)))) (sSeq (sIf (tAnd2 (tV (e2 oEq (eCall F_L_draw (aCons (eVar 0) (aCons (e2 oAdd (eVar 2) (eVar 5)) (aCons (eC (.int 10067)) (aCons (eC (.int 2)) aNil))))) (eC (.int 0)))) (tV (e2 oGt (e1 oLen (eVar 1)) (eC (.int 0))))) (sSet 6 (e2 oIx (e1 oSorted (eVar 1)) (eCall F_L_draw (aCons (eVar 0) (aCons (e2 oAdd (eVar 2) (eVar 5)) (aCons (eC (.int 10069)) (aCons (e1 oLen (eVar 1)) aNil))))))) sNx) (sDput 4 (eVar 6) (eCall F_L_new (aCons (eVar 0) (aCons (e2 oAdd (eVar 2) (eVar 5)) (aCons (e3 oGetD (eVar 1) (eVar 6) (eC (.int 0))) aNil))))))
theorem ed_put {ns:List Int}{k n:Int}{j:Nat}{es fs:List (Int×Int)}{t:Int} (hk:-(2 ^ 63) < k + j∧k + j < 2 ^ 63) (hl:fs.length < sizeLine) (hg:∀ q,0≤(getI es q).getD 0∧(getI es q).getD 0≤1000000000) :
  ∃ x,0≤x∧x≤1000000000∧x≠(getI es t).getD 0∧sDput 4 (eVar 6) (eCall F_L_new (aCons (eVar 0) (aCons (e2 oAdd (eVar 2) (eVar 5)) (aCons (e3 oGetD (eVar 1) (eVar 6) (eC (.int 0))) aNil)))) (rEd ns es k n fs (some (.int j,.sh [])) (some (.int t,.own)))=some (.nx (rEd ns es k n (putI fs t x) (some (.int j,.sh [])) (some (.int t,.own)))):=by
 obtain ⟨x,hx,x1,x2,x3⟩:=f_new (ns:=ns) (k:=k + j) (v:=(getI es t).getD 0) hk (hg t)
 refine ⟨x,x1,x2,x3,s_dput (es:=fs) (k:=t) (v:=x) (t1:=.own) (t2:=.sh [6]) ?_ rfl rfl hl⟩
 clear hk hl x1 x2 x3 hg
 unfold rEd
 walk_at "evs"
theorem ed_step {ns:List Int}{k n:Int}{j:Nat}{es fs:List (Int×Int)}{s:Slot} (hk:-(2 ^ 63) < k + j∧k + j < 2 ^ 63) (hl:fs.length < sizeLine) (he:es.length < 64) (hb:∀ j w,getI es j=some w→0≤j∧j < 1000) (hg:∀ q,0≤(getI es q).getD 0∧(getI es q).getD 0≤1000000000) (hSl:∀ q w,getI es q=some w→Sl ns q) (h3:0≤k + j∧k + j < 63) :
  ∃ t x,((0≤t∧t < 1000)∧Sl ns t)∧(0≤x∧x≤1000000000∧x≠(getI es t).getD 0)∧bEd (rEd ns es k n fs (some (.int j,.sh [])) s)=some (.nx (rEd ns es k n (putI fs t x) (some (.int j,.sh [])) (some (.int t,.own)))):=by
 have h1:=f_slot (ns:=ns) (k:=k + j) (by omega)
 have d1:=f_draw (ns:=ns) (k:=k + j) (p:=10067) (m:=2) (by omega) (by omega) (by omega)
 have sb:=slot_b (ns:=ns) (k:=k + j)
 have e0:sSet 6 (eCall F_L_slot (aCons (eVar 0) (aCons (e2 oAdd (eVar 2) (eVar 5)) aNil))) (rEd ns es k n fs (some (.int j,.sh [])) s)=some (.nx (rEd ns es k n fs (some (.int j,.sh [])) (some (.int (slot ns (k + j)),.own)))):=by
  clear hk hl he sb hb hg hSl h3
  unfold rEd
  walk_at "evs"
 have fin:∀ (c:SF) (t:Int),((0≤t∧t < 1000)∧Sl ns t)→c (rEd ns es k n fs (some (.int j,.sh [])) (some (.int (slot ns (k + j)),.own)))=some (.nx (rEd ns es k n fs (some (.int j,.sh [])) (some (.int t,.own)))) →
   ∃ t x,((0≤t∧t < 1000)∧Sl ns t)∧(0≤x∧x≤1000000000∧x≠(getI es t).getD 0)∧sSeq (sSet 6 (eCall F_L_slot (aCons (eVar 0) (aCons (e2 oAdd (eVar 2) (eVar 5)) aNil)))) (sSeq c (sDput 4 (eVar 6) (eCall F_L_new (aCons (eVar 0) (aCons (e2 oAdd (eVar 2) (eVar 5)) (aCons (e3 oGetD (eVar 1) (eVar 6) (eC (.int 0))) aNil)))))) (rEd ns es k n fs (some (.int j,.sh [])) s)=some (.nx (rEd ns es k n (putI fs t x) (some (.int j,.sh [])) (some (.int t,.own)))):=by
  intro c t ht hc
  obtain ⟨x,x1,x2,x3,hx⟩:=ed_put (ns:=ns) (n:=n) (es:=es) (t:=t) hk hl hg
  exact ⟨t,x,ht,⟨x1,x2,x3⟩,by rw [s_seq,e0,s_seqN,s_seq,hc,s_seqN,hx]⟩
 by_cases c1:(draw ns (k + j) 10067 2 == 0)=true
 ·by_cases c2:0 < (es.length:Int)
  ·have d2:=f_draw (ns:=ns) (k:=k + j) (p:=10069) (m:=es.length) (by omega) (by omega) c2
   have hd:=draw_lt (ns:=ns) (k:=k + j) (p:=10069) c2
   have hs:=s_sortedKV (es:=es) (by omega)
   have hi:=s_ixL (atI_ints (ns:=srt (es.map (·.1))) hd.1 (by rw [srt_len,List.length_map];exact hd.2)) rfl
   have hm:((srt (es.map (·.1))).getD (draw ns (k + j) 10069 es.length).toNat 0)∈es.map (·.1):=by
    have hlt:(draw ns (k + j) 10069 es.length).toNat < (srt (es.map (·.1))).length:=by rw [srt_len,List.length_map];omega
    rw [List.getD_eq_getElem?_getD,List.getElem?_eq_getElem hlt]
    exact mem_srt.mp (List.getElem_mem hlt)
   obtain ⟨w,hw⟩:=getI_key.mpr hm
   refine fin _ ((srt (es.map (·.1))).getD (draw ns (k + j) 10069 es.length).toNat 0) ⟨hb _ w hw,hSl _ w hw⟩ ?_
   clear fin e0 hk hl he sb hb hm hw hg hSl h3
   unfold rEd
   walk_at "evs"
  ·refine fin _ (slot ns (k + j)) ⟨sb,sl_of h3⟩ ?_
   clear fin e0 hk hl he sb hb hg hSl h3
   unfold rEd
   walk_at "evs"
 ·have c1:(draw ns (k + j) 10067 2 == 0)=false:=by simpa using c1
  refine fin _ (slot ns (k + j)) ⟨sb,sl_of h3⟩ ?_
  clear fin e0 hk hl he sb hb hg hSl h3
  unfold rEd
  walk_at "evs"
def Fsb (fs:List (Int×Int)):Prop:=∀ j w,getI fs j=some w→(0≤j∧j < 1000)∧0≤w∧w≤1000000000
theorem Fsb.put {fs:List (Int×Int)}{t x:Int} (h:Fsb fs) (ht:0≤t∧t < 1000) (hx:0≤x∧x≤1000000000):Fsb (putI fs t x):=fun j w e=>by
 rw [getI_put] at e
 split at e
 ·rename_i q
  cases e
  rw [q]
  exact ⟨ht,hx⟩
 ·exact h j w e
def Fne (es fs:List (Int×Int)):Prop:=∀ j w,getI fs j=some w→w≠(getI es j).getD 0
theorem Fne.put {es fs:List (Int×Int)}{t x:Int} (h:Fne es fs) (hx:x≠(getI es t).getD 0):Fne es (putI fs t x):=fun j w e=>by
 rw [getI_put] at e
 split at e
 ·rename_i q
  cases e
  rw [q]
  exact hx
 ·exact h j w e
theorem ed_loop {ns:List Int}{es:List (Int×Int)}{k:Int}{n:Nat} (hk:-(2 ^ 62) < k∧k < 2 ^ 62) (hn:n < 64) (he:es.length < 64) (hb:∀ j w,getI es j=some w→0≤j∧j < 1000) (hg:∀ q,0≤(getI es q).getD 0∧(getI es q).getD 0≤1000000000) (hSl:∀ q w,getI es q=some w→Sl ns q) (h3:0≤k∧k + n≤63):∃ fs s5 s6,loopF (gN 5) (.sh []) bEd ((List.range (n:Int).toNat).map fun i:Nat=>D.int (0 + (i:Int))) (rEd ns es k n [] none none)=some (.nx (rEd ns es k n fs s5 s6))∧(fs.map (·.1)).Nodup∧fs.length≤n∧Fsb fs∧Fne es fs∧∀ q w,getI fs q=some w→Sl ns q:=by
 obtain ⟨ρ',h1,h2⟩:=loop_nx (g:=gN 5) (t:=.sh []) (f:=bEd) (fun j ρ=>∃ fs s5 s6,(fs.map (·.1)).Nodup∧fs.length≤j∧(Fsb fs∧Fne es fs∧∀ q w,getI fs q=some w→Sl ns q)∧ρ=rEd ns es k n fs s5 s6)
  (ds:=(List.range (n:Int).toNat).map fun i:Nat=>D.int (0 + (i:Int))) (ρ:=rEd ns es k n [] none none) (n:=0) ⟨[],none,none,List.nodup_nil,Nat.le_refl _,⟨(fun j w h=>nomatch h),(fun j w h=>nomatch h),(fun j w h=>nomatch h)⟩,rfl⟩
  (fun j ρ d hd hp=>by
   obtain ⟨rfl,hj⟩:=range_at hd
   obtain ⟨fs,s5,s6,h1,h2,hf,rfl⟩:=hp
   rw [Int.toNat_natCast] at hj
   rw [Nat.zero_add] at h2 ⊢
   obtain ⟨t,x,ht,hx0,hx⟩:=ed_step (ns:=ns) (n:=n) (es:=es) (fs:=fs) (s:=s6) (k:=k) (j:=j) (by omega) (size_nat (by omega)) he hb hg hSl (by omega)
   exact ⟨rEd ns es k n fs (some (.int j,.sh [])) s6,_,rfl,.inl hx,_,_,_,putI_nodup h1,Nat.le_trans putI_len (Nat.add_le_add_right h2 1),⟨hf.1.put ht.1 ⟨hx0.1,hx0.2.1⟩,hf.2.1.put hx0.2.2,fun q w e=>by
    rw [getI_put] at e
    split at e
    ·rename_i qe;rw [qe];exact ht.2
    ·exact hf.2.2 q w e⟩,rfl⟩)
 rw [List.length_map,List.length_range,Int.toNat_natCast,Nat.zero_add] at h2
 obtain ⟨fs,s5,s6,h3,h4,h5,rfl⟩:=h2
 exact ⟨fs,s5,s6,h1,h3,h4,h5⟩
def edI (es fs:List (Int×Int)):List (Int×Int×Int):=(srt (fs.map (·.1))).map fun k=>(k,(getI es k).getD 0,(getI fs k).getD 0)
theorem ed_comp {ns:List Int}{es fs:List (Int×Int)}{k n:Int}{s5 s6:Slot} (hn:fs.length < 64) :
  eComp [none,some 1,some 4] (iSeqF (e1 oSorted (eVar 4))) (gN 0) tTrue (eTup (aCons (eVar 0) (aCons (e3 oGetD (eVar 1) (eVar 0) (eC (.int 0))) (aCons (e2 oGet (eVar 2) (eVar 0)) aNil)))) (rEd ns es k n fs s5 s6)=some (.lst ((edI es fs).map dT),.own):=by
 have hs:(e1 oSorted (eVar 4)) (rEd ns es k n fs s5 s6)=some (.lst ((srt (fs.map (·.1))).map D.int),.own):=by
  rw [s_e1]
  show (oSorted (dKV fs)).map _=_
  rw [s_sortedKV (by omega)];rfl
 have hc:=comp_ok (js:=[none,some 1,some 4]) (g:=gN 0) (tt:=tTrue) (te:=eTup (aCons (eVar 0) (aCons (e3 oGetD (eVar 1) (eVar 0) (eC (.int 0))) (aCons (e2 oGet (eVar 2) (eVar 0)) aNil)))) (k:=fun d=>match d with
   | .int i=>some (dT (i,(getI es i).getD 0,(getI fs i).getD 0))
   | _=>none) (iseqL hs) (by rw [List.length_map,srt_len,List.length_map];exact size_nat hn) (fun d m=>by
  obtain ⟨i,mi,rfl⟩:=List.mem_map.mp m
  obtain ⟨w,hw⟩:=getI_key.mpr (mem_srt.mp mi)
  have hg:=s_get hw
  show _=some (some (dT (i,(getI es i).getD 0,(getI fs i).getD 0)))
  refine compE_imm (ρ1:=[some (.int i,.sh []),some (dKV es,.sh []),some (dKV fs,.sh [])]) (tg:=.sh []) rfl rfl ?_ rfl
  rw [s_tup,s_aCons,s_aCons,s_aCons,s_e2,s_e3]
  show Option.map _ (consK _ (consK ((oGetD (dKV es) (.int i) (.int 0)).map _) (consK ((oGet (dKV fs) (.int i)).map _) _)))=_
  rw [hg,hw,s_getD];rfl)
 rw [hc]
 congr 3
 unfold edI
 rw [List.filterMap_map,List.map_map]
 exact congrFun (List.filterMap_eq_map (f:=dT ∘ fun k=>(k,(getI es k).getD 0,(getI fs k).getD 0))) _
structure Eds (E:List (Int×Int×Int)) (n:Nat):Prop where
 so:(E.map (·.1)).Pairwise (·≤·)
 ln:E.length≤n
theorem f_edits {ns:List Int}{es:List (Int×Int)}{k:Int}{n:Nat} (hk:-(2 ^ 62) < k∧k < 2 ^ 62) (hn:n < 64) (he:es.length < 64) (hb:∀ j w,getI es j=some w→0≤j∧j < 1000) (hg:∀ q,0≤(getI es q).getD 0∧(getI es q).getD 0≤1000000000) (hSl:∀ q w,getI es q=some w→Sl ns q) (h5:0≤k∧k + n≤63):∃ fs,F_L_edits [dI ns,dKV es,.int k,.int n]=some (.lst ((edI es fs).map dT))∧(fs.map (·.1)).Nodup∧fs.length≤n∧Fsb fs∧Fne es fs∧∀ q w,getI fs q=some w→Sl ns q:=by
 obtain ⟨fs,s5,s6,h1,h2,h3,h4⟩:=ed_loop (ns:=ns) hk hn he hb hg hSl h5
 have hf:sFor (iR1 (eVar 3)) (gN 5) bEd (rEd ns es k n [] none none)=some (.nx (rEd ns es k n fs s5 s6)):=for_nx0 (ir1 (t:=.sh []) rfl (small_nat hn)) h1
 have hc:=ed_comp (ns:=ns) (es:=es) (fs:=fs) (k:=k) (n:=n) (s5:=s5) (s6:=s6) (by omega)
 refine ⟨fs,runF_rt rfl ?_,h2,h3,h4⟩
 clear hk hn he h1 hb h4 hg hSl h5
 show B_L_edits [some (dI ns,.sh []),some (dKV es,.sh []),some (.int k,.sh []),some (.int n,.sh []),none,none,none]=_
 unfold B_L_edits
 have e1:sSet 4 (eC (.dic [])) [some (dI ns,.sh []),some (dKV es,.sh []),some (.int k,.sh []),some (.int n,.sh []),none,none,none]=some (.nx (rEd ns es k n [] none none)):=rfl
 rw [s_seq,e1,s_seqN,s_seq,hf,s_seqN,s_ret,hc]
 rfl
theorem edI_keys {es fs:List (Int×Int)}:(edI es fs).map (·.1)=srt (fs.map (·.1)):=by
 unfold edI
 rw [List.map_map,show ((fun p:Int×Int×Int=>p.1) ∘ fun k=>(k,(getI es k).getD 0,(getI fs k).getD 0))=id from rfl,List.map_id]
theorem s_iT:∀ ps:List (Int×Int×Int),immAll (ps.map dT)=true
 | []=>rfl
 | p::r=>by rw [List.map_cons];unfold immAll;rw [s_iT r];rfl
def wrong (es:List (Int×Int)) (p:Int×Int×Int):Bool:=!((getI es p.1).getD 0 == p.2.1)
def bad (es:List (Int×Int)) (E:List (Int×Int×Int)):List Int:=(E.filter (wrong es)).map (·.1)
def firstD:List Int→D
 | []=>.non
 | x::_=>.int x
theorem minI_first:∀ {x:Int}{l:List Int},(x::l).Pairwise (·≤·)→minI (x::l)=x
 | x,l,h=>by
  obtain ⟨h1,h2⟩:=minI_spec (l:=x::l) (by simp)
  have h3:=h2 x List.mem_cons_self
  rcases List.mem_cons.mp h1 with e | m
  ·exact e
  ·have:=(List.pairwise_cons.mp h).1 _ m;omega
def kB (es:List (Int×Int)):D→Option D
 | .tup [.int a,.int b,.int c]=>if wrong es (a,b,c)=true then some (.int a) else none
 | _=>none
theorem kB_dT {es:List (Int×Int)}:∀ p,kB es (dT p)=if wrong es p=true then some (D.int p.1) else none
 | (_,_,_)=>rfl
theorem f_misfit {es:List (Int×Int)}{E:List (Int×Int×Int)}{n:Nat} (hE:Eds E n) (hn:n < 64) (w:List D→D) (hw:iSeqF (eVar 1) [some (dKV es,.sh []),some (w (E.map dT),.sh [])]=some (E.map dT,.sh [])):F_misfit [dKV es,w (E.map dT)]=some (firstD (bad es E)):=by
 refine runF_rt rfl ?_
 show B_misfit [some (dKV es,.sh []),some (w (E.map dT),.sh [])]=_
 have hc:=comp_ok (js:=[none,none,none,some 0]) (g:=gT (gsCons (gN 0) (gsCons (gN 1) (gsCons (gN 2) gsNil)))) (tt:=tV (e2 oNe (e3 oGetD (eVar 3) (eVar 0) (eC (.int 0))) (eVar 1))) (te:=eVar 0) (k:=kB es) hw (by rw [List.length_map];exact size_nat (by have:=hE.ln;omega)) (fun d m=>by
  obtain ⟨⟨a,b,c⟩,mi,rfl⟩:=List.mem_map.mp m
  show _=some (if wrong es (a,b,c)=true then some (D.int a) else none)
  have ht:(tV (e2 oNe (e3 oGetD (eVar 3) (eVar 0) (eC (.int 0))) (eVar 1))) [some (.int a,.own),some (.int b,.own),some (.int c,.own),some (dKV es,.sh [])]=some (wrong es (a,b,c)):=by
   rw [s_tV,s_e2,s_e3]
   show Ev.kV (k2 oNe ((oGetD (dKV es) (.int a) (.int 0)).map _) _)=_
   rw [s_getD];rfl
  by_cases h:wrong es (a,b,c)=true
  ·rw [if_pos h]
   exact compE_imm (ρ1:=[some (.int a,.own),some (.int b,.own),some (.int c,.own),some (dKV es,.sh [])]) (tg:=.sh [0]) rfl (by rw [ht,h]) rfl rfl
  ·rw [if_neg h]
   exact compE_no (ρ1:=[some (.int a,.own),some (.int b,.own),some (.int c,.own),some (dKV es,.sh [])]) rfl (by rw [ht,Bool.eq_false_iff.mpr h]))
 have hb:(E.map dT).filterMap (kB es)=(bad es E).map D.int:=by
  clear hc hw hE
  unfold bad
  induction E with
  | nil=>rfl
  | cons p r ih=>
   rw [List.map_cons,List.filterMap_cons,List.filter_cons,kB_dT]
   by_cases h:wrong es p=true
   ·rw [if_pos h,if_pos h]
    dsimp only
    rw [ih];rfl
   ·rw [if_neg h,if_neg h]
    exact ih
 rw [hb] at hc
 unfold B_misfit
 rw [s_ret,s_e2,hc]
 show retK ((oMinD (.lst ((bad es E).map D.int)) .non).map _)=_
 have hs:(bad es E).Pairwise (·≤·):=by
  unfold bad
  have:=hE.so
  rw [List.pairwise_map] at this ⊢
  exact this.filter _
 have:oMinD (.lst ((bad es E).map D.int)) .non=some (firstD (bad es E)):=by
  show (match intsD ((bad es E).map D.int) with | some []=>if imm .non=true then some D.non else none | some (n::r)=>some (D.int (minI (n::r))) | none=>none)=_
  rw [intsD_map]
  cases e:bad es E with
  | nil=>rfl
  | cons x l=>
   dsimp only
   rw [minI_first (by rw [← e];exact hs)];rfl
 rw [this];rfl
def nzK (es:List (Int×Int)):List Int:=(srt (es.map (·.1))).filter fun k=>!((getI es k).getD 0 == 0)
def nz (es:List (Int×Int)):List (Int×Int):=(nzK es).map fun k=>(k,(getI es k).getD 0)
def kS (es:List (Int×Int)):D→Option D
 | .int i=>if (!((getI es i).getD 0 == 0))=true then some (dP (i,(getI es i).getD 0)) else none
 | _=>none
theorem sz4 {n:Nat} (h:n < 4096):n < sizeLine:=by unfold sizeLine;omega
theorem f_sov {es:List (Int×Int)} (hl:es.length < 64):F_sheet_of_values [dKV es]=some (.lst ((nz es).map dP)):=by
 refine runF_rt rfl ?_
 show B_sheet_of_values [some (dKV es,.sh [])]=_
 have hs:(e1 oSorted (eVar 0)) [some (dKV es,.sh [])]=some (.lst ((srt (es.map (·.1))).map D.int),.own):=by
  rw [s_e1]
  show (oSorted (dKV es)).map _=_
  rw [s_sortedKV (by omega)];rfl
 have hc:=comp_ok (js:=[none,some 0]) (g:=gN 0) (tt:=tV (e2 oNe (e2 oGet (eVar 1) (eVar 0)) (eC (.int 0)))) (te:=eTup (aCons (eVar 0) (aCons (e2 oGet (eVar 1) (eVar 0)) aNil))) (k:=kS es)
   (iseqL hs) (by rw [List.length_map,srt_len,List.length_map];exact sz4 (by omega)) (fun d m=>by
  obtain ⟨i,mi,rfl⟩:=List.mem_map.mp m
  obtain ⟨w,hw⟩:=getI_key.mpr (mem_srt.mp mi)
  have hg:=s_get hw
  show _=some (if (!((getI es i).getD 0 == 0))=true then some (dP (i,(getI es i).getD 0)) else none)
  have ht:(tV (e2 oNe (e2 oGet (eVar 1) (eVar 0)) (eC (.int 0)))) [some (.int i,.sh []),some (dKV es,.sh [])]=some (!((getI es i).getD 0 == 0)):=by
   rw [s_tV,s_e2,s_e2]
   show Ev.kV (k2 oNe ((oGet (dKV es) (.int i)).map _) _)=_
   rw [hg,hw];rfl
  by_cases h:(!((getI es i).getD 0 == 0))=true
  ·rw [if_pos h]
   refine compE_imm (ρ1:=[some (.int i,.sh []),some (dKV es,.sh [])]) (tg:=.sh []) rfl (by rw [ht,h]) ?_ rfl
   rw [s_tup,s_aCons,s_aCons,s_e2]
   show Option.map _ (consK _ (consK ((oGet (dKV es) (.int i)).map _) _))=_
   rw [hg,hw];rfl
  ·rw [if_neg h]
   exact compE_no (ρ1:=[some (.int i,.sh []),some (dKV es,.sh [])]) rfl (by rw [ht,Bool.eq_false_iff.mpr h]))
 unfold B_sheet_of_values
 rw [s_ret,hc,s_retO]
 congr 3
 unfold nz nzK
 generalize srt (es.map (·.1))=l
 clear hs hc
 induction l with
 | nil=>rfl
 | cons x r ih=>
  rw [List.map_cons,List.filterMap_cons,List.filter_cons]
  by_cases h:(!((getI es x).getD 0 == 0))=true
  ·rw [if_pos h,show kS es (.int x)=some (dP (x,(getI es x).getD 0)) from if_pos h]
   dsimp only
   rw [ih];rfl
  ·rw [if_neg h,show kS es (.int x)=none from if_neg h]
   exact ih
def puts (es:List (Int×Int)) (E:List (Int×Int×Int)):List (Int×Int):=E.foldl (fun m p=>putI m p.1 p.2.2) es
theorem puts_nodup:∀ (E:List (Int×Int×Int)) (es:List (Int×Int)),(es.map (·.1)).Nodup→((puts es E).map (·.1)).Nodup
 | [],_,h=>h
 | p::r,es,h=>puts_nodup r _ (putI_nodup h)
theorem getI_puts:∀ (E:List (Int×Int×Int)) (es:List (Int×Int)) (k:Int),(E.map (·.1)).Nodup→(∀ p∈E,p.1=k→getI (puts es E) k=some p.2.2)∧(k∉E.map (·.1)→getI (puts es E) k=getI es k)
 | [],es,k,_=>⟨fun p m=>(nomatch m),fun _=>rfl⟩
 | q::r,es,k,h=>by
  obtain ⟨h1,h2⟩:=List.nodup_cons.mp h
  obtain ⟨a,b⟩:=getI_puts r (putI es q.1 q.2.2) k h2
  refine ⟨fun p m e=>?_,fun m=>?_⟩
  ·rcases List.mem_cons.mp m with rfl | m
   ·show getI (puts (putI es p.1 p.2.2) r) k=_
    rw [b (by rw [← e];exact h1),getI_put,if_pos e.symm]
   ·exact a p m e
  ·show getI (puts (putI es q.1 q.2.2) r) k=_
   rw [List.map_cons] at m
   rw [b fun x=>m (List.mem_cons_of_mem _ x),getI_put,if_neg fun x=>m (by rw [x];exact List.mem_cons_self)]
def rE (S L:D) (es:List (Int×Int)) (s3 s4 s5 s6 s7:Slot):Rho:=[some (S,.sh []),some (L,.sh []),some (dKV es,.own),s3,s4,s5,s6,s7]
abbrev gE:GF:=gT (gsCons (gN 5) (gsCons (gN 6) (gsCons (gN 7) gsNil)))
abbrev bIn:SF:=sDput 2 (eVar 5) (eVar 7)
theorem in_loop {S L M:D}:∀ {E:List (Int×Int×Int)}{es:List (Int×Int)}{s5 s6 s7:Slot},es.length + E.length < 4096→∃ s5' s6' s7',loopF gE (.sh []) bIn (E.map dT) (rE S L es (some (M,.sh [])) (some (.non,.own)) s5 s6 s7)=some (.nx (rE S L (puts es E) (some (M,.sh [])) (some (.non,.own)) s5' s6' s7'))
 | [],es,s5,s6,s7,_=>⟨s5,s6,s7,rfl⟩
 | (a,b,c)::E,es,s5,s6,s7,hl=>by
  rw [List.length_cons] at hl
  have hp:bIn (rE S L es (some (M,.sh [])) (some (.non,.own)) (some (.int a,.own)) (some (.int b,.own)) (some (.int c,.own)))=some (.nx (rE S L (putI es a c) (some (M,.sh [])) (some (.non,.own)) (some (.int a,.own)) (some (.int b,.own)) (some (.int c,.own)))):=
   s_dput (es:=es) (k:=a) (v:=c) (t1:=.sh [7]) (t2:=.sh [5]) rfl rfl rfl (sz4 (by omega))
  have e:loopF gE (.sh []) bIn (dT (a,b,c)::E.map dT) (rE S L es (some (M,.sh [])) (some (.non,.own)) s5 s6 s7)=match bIn (rE S L es (some (M,.sh [])) (some (.non,.own)) (some (.int a,.own)) (some (.int b,.own)) (some (.int c,.own))) with
   | some (.nx ρ2)=>loopF gE (.sh []) bIn (E.map dT) ρ2
   | some (.ct ρ2)=>loopF gE (.sh []) bIn (E.map dT) ρ2
   | some (.bk ρ2)=>some (.nx ρ2)
   | some (.rt r)=>some (.rt r)
   | some (.er raw cn ρ2)=>some (.er raw cn ρ2)
   | none=>none:=rfl
  obtain ⟨t5,t6,t7,ih⟩:=in_loop (S:=S) (L:=L) (M:=M) (E:=E) (es:=putI es a c) (s5:=some (.int a,.own)) (s6:=some (.int b,.own)) (s7:=some (.int c,.own)) (by have:=putI_len (es:=es) (k:=a) (v:=c);omega)
  refine ⟨t5,t6,t7,?_⟩
  rw [List.map_cons,e,hp]
  exact ih
structure Seq (w:List D→D):Prop where
 it:∀ {ρ:Rho}{i:Nat}{ds:List D},ρ[i]? = some (some (w ds,.sh []))→iSeqF (eVar i) ρ=some (ds,.sh [])
 di:∀ ps:List (Int×Int),oDict (w (ps.map dP))=some (dKV (dictI ps))
theorem seqL:Seq D.lst:=⟨fun {ρ i ds} h=>by unfold iSeqF eVar;rw [h];rfl,fun ps=>s_dictL⟩
theorem f_in_turn {w w':List D→D} (W:Seq w) (W':Seq w') {ps:List (Int×Int)}{E:List (Int×Int×Int)}{n:Nat} (hE:Eds E n) (hn:n < 64) (hb:bad (dictI ps) E=[]) (hl:(dictI ps).length + n < 4096) (hp:(puts (dictI ps) E).length < 64) :
  F_edited_in_turn [w (ps.map dP),.lst [w' (E.map dT)]]=some (.lst ((nz (puts (dictI ps) E)).map dP)):=by
 refine runF_rt rfl ?_
 generalize hS:w (ps.map dP)=S
 generalize hL:(D.lst [w' (E.map dT)])=L
 show B_edited_in_turn [some (S,.sh []),some (L,.sh []),none,none,none,none,none,none]=_
 have hle:=hE.ln
 have a1:sSet 2 (e1 oDict (eVar 0)) [some (S,.sh []),some (L,.sh []),none,none,none,none,none,none]=some (.nx (rE S L (dictI ps) none none none none none)):=by
  rw [s_set,s_e1]
  show setK 2 _ ((oDict S).map _)=_
  rw [← hS,W.di];rfl
 obtain ⟨s5,s6,s7,hin⟩:=in_loop (S:=S) (L:=L) (M:=w' (E.map dT)) (E:=E) (es:=dictI ps) (s5:=none) (s6:=none) (s7:=none) (by omega)
 have hm:=f_misfit (es:=dictI ps) hE hn w' (W'.it (i:=1) rfl)
 rw [hb] at hm
 have b1:sSet 4 (eCall F_misfit (aCons (eVar 2) (aCons (eVar 3) aNil))) (rE S L (dictI ps) (some (w' (E.map dT),.sh [])) none none none none)=some (.nx (rE S L (dictI ps) (some (w' (E.map dT),.sh [])) (some (.non,.own)) none none none)):=by
  rw [s_set]
  show setK 4 _ ((F_misfit [dKV (dictI ps),w' (E.map dT)]).map _)=_
  rw [hm];rfl
 have b2:sIf (tV (e2 oNotN (eVar 4) (eC .non))) sNo sNx (rE S L (dictI ps) (some (w' (E.map dT),.sh [])) (some (.non,.own)) none none none)=some (.nx (rE S L (dictI ps) (some (w' (E.map dT),.sh [])) (some (.non,.own)) none none none)):=rfl
 have b3:=for_nx0' (g:=gE) (f:=bIn) (it:=iSeqF (eVar 3)) (ρ:=rE S L (dictI ps) (some (w' (E.map dT),.sh [])) (some (.non,.own)) none none none) (ds:=E.map dT) (W'.it (i:=3) rfl) hin
 have b:∃ ρ',sFor (iSeqF (eVar 1)) (gN 3) (sSeq (sSet 4 (eCall F_misfit (aCons (eVar 2) (aCons (eVar 3) aNil)))) (sSeq (sIf (tV (e2 oNotN (eVar 4) (eC .non))) sNo sNx) (sFor (iSeqF (eVar 3)) gE bIn))) (rE S L (dictI ps) none none none none none)=some (.nx ρ')∧ρ'=rE S L (puts (dictI ps) E) (some (w' (E.map dT),.sh [])) (some (.non,.own)) s5 s6 s7:=by
  refine ⟨_,for_nx0' (ds:=[w' (E.map dT)]) (by rw [← hL];rfl) ?_,rfl⟩
  show (match sSeq (sSet 4 (eCall F_misfit (aCons (eVar 2) (aCons (eVar 3) aNil)))) (sSeq (sIf (tV (e2 oNotN (eVar 4) (eC .non))) sNo sNx) (sFor (iSeqF (eVar 3)) gE bIn)) (rE S L (dictI ps) (some (w' (E.map dT),.sh [])) none none none none) with
   | some (.nx ρ2)=>some (Out.nx ρ2)
   | some (.ct ρ2)=>some (.nx ρ2)
   | some (.bk ρ2)=>some (.nx ρ2)
   | some (.rt r)=>some (.rt r)
   | some (.er raw cn ρ2)=>some (.er raw cn ρ2)
   | none=>none)=_
  rw [s_seq,b1,s_seqN,s_seq,b2,s_seqN,b3]
 obtain ⟨ρ',b,rfl⟩:=b
 have c1:sRet (eCall F_sheet_of_values (aCons (eVar 2) aNil)) (rE S L (puts (dictI ps) E) (some (w' (E.map dT),.sh [])) (some (.non,.own)) s5 s6 s7)=some (.rt (.lst ((nz (puts (dictI ps) E)).map dP))):=by
  rw [s_ret]
  show retK ((F_sheet_of_values [dKV (puts (dictI ps) E)]).map _)=_
  rw [f_sov hp];rfl
 unfold B_edited_in_turn
 rw [s_seq,a1,s_seqN,s_seq,b,s_seqN,c1]
theorem f_edited {w w':List D→D} (W:Seq w) (W':Seq w') {ps:List (Int×Int)}{E:List (Int×Int×Int)}{n:Nat} (hE:Eds E n) (hn:n < 64) (hb:bad (dictI ps) E=[]) (hl:(dictI ps).length + n < 4096) (hp:(puts (dictI ps) E).length < 64) :
  F_edited [w (ps.map dP),w' (E.map dT)]=some (.lst ((nz (puts (dictI ps) E)).map dP)):=by
 refine runF_rt rfl ?_
 show B_edited [some (w (ps.map dP),.sh []),some (w' (E.map dT),.sh [])]=_
 unfold B_edited
 rw [s_ret]
 show retK ((F_edited_in_turn [w (ps.map dP),.lst [w' (E.map dT)]]).map _)=_
 rw [f_in_turn W W' hE hn hb hl hp];rfl
theorem nzK_mem {es:List (Int×Int)}{k:Int}:k∈nzK es↔(getI es k).getD 0≠0:=by
 unfold nzK
 rw [List.mem_filter]
 refine ⟨fun h=>by simpa using h.2,fun h=>⟨mem_srt.mpr (getI_key.mp ?_),by simpa using h⟩⟩
 cases e:getI es k with
 | none=>rw [e] at h;exact absurd rfl h
 | some v=>exact ⟨v,rfl⟩
theorem nzK_nodup {es:List (Int×Int)} (h:(es.map (·.1)).Nodup):(nzK es).Nodup:=((srt_perm _).nodup_iff.mpr h).sublist List.filter_sublist
theorem nzK_sorted {es:List (Int×Int)}:(nzK es).Pairwise (·≤·):=(srt_sorted _).sublist List.filter_sublist
theorem nz_ext {a b:List (Int×Int)} (ha:(a.map (·.1)).Nodup) (hb:(b.map (·.1)).Nodup) (h:∀ k,(getI a k).getD 0=(getI b k).getD 0):nz a=nz b:=by
 have p:(nzK a).Perm (nzK b):=(List.perm_ext_iff_of_nodup (nzK_nodup ha) (nzK_nodup hb)).mpr fun k=>by rw [nzK_mem,nzK_mem,h]
 have e:nzK a=nzK b:=(srt_unique p nzK_sorted).trans (srt_unique (List.Perm.refl _) nzK_sorted).symm
 unfold nz
 rw [e]
 exact List.map_congr_left fun k _=>by rw [h]
theorem nz_keys {es:List (Int×Int)}:(nz es).map (·.1)=nzK es:=by
 unfold nz
 rw [List.map_map]
 exact List.map_id' _
theorem getI_mapk (f:Int→Int) (k:Int):∀ l:List Int,getI (l.map fun k=>(k,f k)) k=if k∈l then some (f k) else none
 | []=>rfl
 | x::r=>by
  have ih:=getI_mapk f k r
  rw [List.map_cons]
  unfold getI at ih ⊢
  rw [List.find?_cons]
  by_cases hx:x=k
  ·rw [decide_eq_true hx,if_pos (by rw [hx];exact List.mem_cons_self),hx];rfl
  ·rw [decide_eq_false hx]
   dsimp only
   rw [ih]
   have:(k∈x::r)↔k∈r:=⟨fun m=>(List.mem_cons.mp m).elim (fun e=>absurd e.symm hx) id,List.mem_cons_of_mem _⟩
   simp only [this]
theorem getI_nz {es:List (Int×Int)} (k:Int):(getI (nz es) k).getD 0=(getI es k).getD 0:=by
 unfold nz
 rw [getI_mapk]
 by_cases h:k∈nzK es
 ·rw [if_pos h];rfl
 ·rw [if_neg h]
  have:=mt nzK_mem.mpr h
  simp only [ne_eq,Decidable.not_not] at this
  rw [this];rfl
theorem getI_dnz {es:List (Int×Int)} (h:(es.map (·.1)).Nodup) (k:Int):(getI (dictI (nz es)) k).getD 0=(getI es k).getD 0:=by
 rw [getI_dict (by rw [nz_keys];exact nzK_nodup h),getI_nz]
theorem dictI_nodup (ps:List (Int×Int)):((dictI ps).map (·.1)).Nodup:=by
 have go:∀ (ps m:List (Int×Int)),(m.map (·.1)).Nodup→((ps.foldl (fun m p=>putI m p.1 p.2) m).map (·.1)).Nodup:=by
  intro ps
  induction ps with
  | nil=>intro m h;exact h
  | cons p r ih=>intro m h;exact ih _ (putI_nodup h)
 exact go ps [] List.nodup_nil
theorem dictI_len (ps:List (Int×Int)):(dictI ps).length≤ps.length:=by
 have go:∀ (ps m:List (Int×Int)),(ps.foldl (fun m p=>putI m p.1 p.2) m).length≤m.length + ps.length:=by
  intro ps
  induction ps with
  | nil=>intro m;exact Nat.le_refl _
  | cons p r ih=>
   intro m
   have h:=ih (putI m p.1 p.2)
   have h2:=putI_len (es:=m) (k:=p.1) (v:=p.2)
   rw [List.length_cons]
   show (r.foldl _ (putI m p.1 p.2)).length≤_
   omega
 have:=go ps []
 rw [List.length_nil,Nat.zero_add] at this
 exact this
theorem nz_len (es:List (Int×Int)):(nz es).length≤es.length:=by
 unfold nz nzK
 rw [List.length_map]
 exact Nat.le_trans (List.length_filter_le _ _) (by rw [srt_len,List.length_map];exact Nat.le_refl _)
abbrev gV (es:List (Int×Int)) (k:Int):Int:=(getI es k).getD 0
def dS (ps:List (Int×Int)):D:=.lst (ps.map dP)
def dE (E:List (Int×Int×Int)):D:=.lst (E.map dT)
theorem mem_keys {es:List (Int×Int)}{k:Int} (h:gV es k≠0):k∈es.map (·.1):=by
 refine getI_key.mp ?_
 cases e:getI es k with
 | none=>exact absurd (by show (getI es k).getD 0=0;rw [e];rfl) h
 | some v=>exact ⟨v,rfl⟩
theorem f_sheetG {es:List (Int×Int)} (hl:es.length < 64) (h0:∀ k,0≤gV es k):F_L_sheet [dKV es]=some (dS (nz es)):=by
 refine runF_rt rfl ?_
 show B_L_sheet [some (dKV es,.sh [])]=_
 have hs:(e1 oSorted (eVar 0)) [some (dKV es,.sh [])]=some (.lst ((srt (es.map (·.1))).map D.int),.own):=by
  rw [s_e1]
  show (oSorted (dKV es)).map _=_
  rw [s_sortedKV (by omega)];rfl
 have hc:=comp_ok (js:=[none,some 0]) (g:=gN 0) (tt:=tV (e2 oGt (e2 oGet (eVar 1) (eVar 0)) (eC (.int 0)))) (te:=eTup (aCons (eVar 0) (aCons (e2 oGet (eVar 1) (eVar 0)) aNil))) (k:=kS es)
   (iseqL hs) (by rw [List.length_map,srt_len,List.length_map];exact size_nat hl) (fun d m=>by
  obtain ⟨i,mi,rfl⟩:=List.mem_map.mp m
  obtain ⟨w,hw⟩:=getI_key.mpr (mem_srt.mp mi)
  have hg:=s_get hw
  have hp:0≤(getI es i).getD 0:=h0 i
  have hq:decide (0 < (getI es i).getD 0)=!((getI es i).getD 0 == 0):=by
   rw [Bool.eq_iff_iff,decide_eq_true_eq]
   simp
   omega
  show _=some (if (!((getI es i).getD 0 == 0))=true then some (dP (i,(getI es i).getD 0)) else none)
  have ht:(tV (e2 oGt (e2 oGet (eVar 1) (eVar 0)) (eC (.int 0)))) [some (.int i,.sh []),some (dKV es,.sh [])]=some (!((getI es i).getD 0 == 0)):=by
   rw [s_tV,s_e2,s_e2,← hq]
   show Ev.kV (k2 oGt ((oGet (dKV es) (.int i)).map _) _)=_
   rw [hg,hw];rfl
  by_cases h:(!((getI es i).getD 0 == 0))=true
  ·rw [if_pos h]
   refine compE_imm (ρ1:=[some (.int i,.sh []),some (dKV es,.sh [])]) (tg:=.sh []) rfl (by rw [ht,h]) ?_ rfl
   rw [s_tup,s_aCons,s_aCons,s_e2]
   show Option.map _ (consK _ (consK ((oGet (dKV es) (.int i)).map _) _))=_
   rw [hg,hw];rfl
  ·rw [if_neg h]
   exact compE_no (ρ1:=[some (.int i,.sh []),some (dKV es,.sh [])]) rfl (by rw [ht,Bool.eq_false_iff.mpr h]))
 unfold B_L_sheet
 rw [s_ret,hc,s_retO]
 unfold dS nz nzK
 congr 3
 generalize srt (es.map (·.1))=l
 clear hs hc
 induction l with
 | nil=>rfl
 | cons x r ih=>
  rw [List.map_cons,List.filterMap_cons,List.filter_cons]
  by_cases h:(!((getI es x).getD 0 == 0))=true
  ·rw [if_pos h,show kS es (.int x)=some (dP (x,(getI es x).getD 0)) from if_pos h]
   dsimp only
   rw [ih];rfl
  ·rw [if_neg h,show kS es (.int x)=none from if_neg h]
   exact ih
def rD (S L:D) (es:List (Int×Int)) (s3 s4 s5:Slot):Rho:=[some (S,.sh []),some (L,.sh []),some (dKV es,.own),s3,s4,s5]
abbrev gD:GF:=gT (gsCons (gN 3) (gsCons (gN 4) (gsCons (gN 5) gsNil)))
abbrev bD:SF:=sDput 2 (eVar 3) (eVar 5)
theorem did_loop {S L:D}:∀ {E:List (Int×Int×Int)}{es:List (Int×Int)}{s3 s4 s5:Slot},es.length + E.length < 4096→∃ t3 t4 t5,loopF gD (.sh []) bD (E.map dT) (rD S L es s3 s4 s5)=some (.nx (rD S L (puts es E) t3 t4 t5))
 | [],es,s3,s4,s5,_=>⟨s3,s4,s5,rfl⟩
 | (a,b,c)::E,es,s3,s4,s5,hl=>by
  rw [List.length_cons] at hl
  have hp:bD (rD S L es (some (.int a,.own)) (some (.int b,.own)) (some (.int c,.own)))=some (.nx (rD S L (putI es a c) (some (.int a,.own)) (some (.int b,.own)) (some (.int c,.own)))):=
   s_dput (es:=es) (k:=a) (v:=c) (t1:=.sh [5]) (t2:=.sh [3]) rfl rfl rfl (sz4 (by omega))
  have e:loopF gD (.sh []) bD (dT (a,b,c)::E.map dT) (rD S L es s3 s4 s5)=match bD (rD S L es (some (.int a,.own)) (some (.int b,.own)) (some (.int c,.own))) with
   | some (.nx ρ2)=>loopF gD (.sh []) bD (E.map dT) ρ2
   | some (.ct ρ2)=>loopF gD (.sh []) bD (E.map dT) ρ2
   | some (.bk ρ2)=>some (.nx ρ2)
   | some (.rt r)=>some (.rt r)
   | some (.er raw cn ρ2)=>some (.er raw cn ρ2)
   | none=>none:=rfl
  obtain ⟨t3,t4,t5,ih⟩:=did_loop (S:=S) (L:=L) (E:=E) (es:=putI es a c) (s3:=some (.int a,.own)) (s4:=some (.int b,.own)) (s5:=some (.int c,.own)) (by have:=putI_len (es:=es) (k:=a) (v:=c);omega)
  refine ⟨t3,t4,t5,?_⟩
  rw [List.map_cons,e,hp]
  exact ih
theorem f_did {es:List (Int×Int)}{E:List (Int×Int×Int)} (hl:es.length + E.length < 4096):F_L_did [dKV es,dE E]=some (dKV (puts es E)):=by
 refine runF_rt rfl ?_
 show B_L_did [some (dKV es,.sh []),some (dE E,.sh []),none,none,none,none]=_
 have a1:sSet 2 (e1 oDict (eVar 0)) [some (dKV es,.sh []),some (dE E,.sh []),none,none,none,none]=some (.nx (rD (dKV es) (dE E) es none none none)):=by
  rw [s_set,s_e1]
  show setK 2 _ ((oDict (dKV es)).map _)=_
  rw [s_dictKV];rfl
 obtain ⟨t3,t4,t5,h⟩:=did_loop (S:=dKV es) (L:=dE E) (E:=E) (es:=es) (s3:=none) (s4:=none) (s5:=none) hl
 have b:=for_nx0' (g:=gD) (f:=bD) (it:=iSeqF (eVar 1)) (ρ:=rD (dKV es) (dE E) es none none none) (ds:=E.map dT) rfl h
 unfold B_L_did
 rw [s_seq,a1,s_seqN,s_seq,b,s_seqN]
 rfl
abbrev Ed:=Int×Int×Int
def kT (p:Ed):Key×D:=(Sum.inl p.1,dT p)
def dTV (E:List Ed):D:=.dic (E.map kT)
def getT (E:List Ed) (k:Int):Option Ed:=E.find? fun p=>decide (p.1=k)
theorem valD_T (E:List Ed) (k:Int):valD (E.map kT) (Sum.inl k:Key)=(getT E k).map dT:=by
 unfold valD getT
 induction E with
 | nil=>rfl
 | cons p r ih=>
  rw [List.map_cons,List.find?_cons,List.find?_cons]
  by_cases h:p.1=k
  ·rw [decide_eq_true (show (kT p).1=Sum.inl k from inl_iff.mpr h),decide_eq_true h];rfl
  ·rw [decide_eq_false (show ¬(kT p).1=Sum.inl k from fun e=>h (inl_iff.mp e)),decide_eq_false h];exact ih
theorem keysI_T:∀ E:List Ed,keysI (E.map kT)=some (E.map (·.1))
 | []=>rfl
 | p::r=>by rw [List.map_cons];show (keysI (r.map kT)).map (p.1::·)=_;rw [keysI_T r];rfl
theorem getT_key {E:List Ed}{k:Int}{p:Ed} (h:getT E k=some p):p.1=k∧p∈E:=by
 unfold getT at h
 have a:=List.find?_some h
 exact ⟨of_decide_eq_true a,List.mem_of_find?_eq_some h⟩
theorem getT_none {E:List Ed}{k:Int}:getT E k=none↔k∉E.map (·.1):=by
 unfold getT
 rw [List.find?_eq_none]
 refine ⟨fun h m=>?_,fun h p m e=>h (List.mem_map.mpr ⟨p,m,of_decide_eq_true e⟩)⟩
 obtain ⟨p,mp,e⟩:=List.mem_map.mp m
 exact h p mp (decide_eq_true e)
theorem getT_mem {E:List Ed} (nd:(E.map (·.1)).Nodup) {p:Ed} (m:p∈E):getT E p.1=some p:=by
 cases h:getT E p.1 with
 | none=>exact absurd (List.mem_map_of_mem m) (getT_none.mp h)
 | some q=>
  obtain ⟨e,mq⟩:=getT_key h
  congr 1
  induction E with
  | nil=>cases m
  | cons x r ih=>
   obtain ⟨n1,n2⟩:=List.nodup_cons.mp nd
   have n1:x.1∉r.map (·.1):=n1
   rcases List.mem_cons.mp m with e1 | m1
   ·rcases List.mem_cons.mp mq with e2 | mq1
    ·rw [e1,e2]
    ·exact absurd (by rw [← e1,← e];exact List.mem_map_of_mem (f:=fun p:Ed=>p.1) mq1) n1
   ·rcases List.mem_cons.mp mq with e2 | mq1
    ·exact absurd (by rw [← e2,e];exact List.mem_map_of_mem (f:=fun p:Ed=>p.1) m1) n1
    ·refine ih n2 m1 ?_ mq1
     unfold getT at h ⊢
     rw [List.find?_cons,decide_eq_false (fun e':x.1=p.1=>n1 (e' ▸ List.mem_map_of_mem (f:=fun p:Ed=>p.1) m1))] at h
     exact h
def tE (p:Ed):D:=.tup [.int p.1,dT p]
theorem pairs_T:∀ E:List Ed,pairsD (E.map tE)=some (E.map kT)
 | []=>rfl
 | p::r=>by
  rw [List.map_cons]
  show (match keyD (.int p.1),pairsD (r.map tE) with | some k,some ps=>if imm (dT p)=true then some ((k,dT p)::ps) else none | _,_=>none)=_
  rw [pairs_T r];rfl
theorem fold_T:∀ (E A:List Ed),((A++E).map (·.1)).Nodup→(E.map kT).foldl (fun m p=>putD m p.1 p.2) (A.map kT)=(A++E).map kT
 | [],A,_=>by rw [List.append_nil];rfl
 | p::E,A,nd=>by
  have na:p.1∉A.map (·.1):=fun m=>by
   rw [List.map_append,List.map_cons] at nd
   exact (List.nodup_append.mp nd).2.2 p.1 m p.1 List.mem_cons_self rfl
  have e:putD (A.map kT) (kT p).1 (kT p).2=(A++[p]).map kT:=by
   unfold putD
   rw [if_neg,List.map_append]
   ·rfl
   ·intro h
    obtain ⟨q,mq,eq⟩:=List.any_eq_true.mp h
    obtain ⟨r,mr,rfl⟩:=List.mem_map.mp mq
    exact na (List.mem_map.mpr ⟨r,mr,inl_iff.mp (of_decide_eq_true eq)⟩)
  rw [List.map_cons,List.foldl_cons,e,fold_T E (A++[p]) (by rw [List.append_assoc];exact nd),List.append_assoc];rfl
theorem f_by_slot {w:List D→D} (W:Seq w) {E:List Ed} (hl:E.length < 64) (nd:(E.map (·.1)).Nodup):F_by_slot [w (E.map dT)]=some (dTV E):=by
 refine runF_rt rfl ?_
 show B_by_slot [some (w (E.map dT),.sh [])]=_
 have hc:=comp_ok (js:=[none]) (g:=gN 0) (tt:=tTrue) (te:=eTup (aCons (e2 oIx (eVar 0) (eC (.int 0))) (aCons (eVar 0) aNil))) (k:=fun d=>match d with
   | .tup [.int a,b,c]=>some (.tup [.int a,.tup [.int a,b,c]])
   | _=>none) (W.it (ρ:=[some (w (E.map dT),.sh [])]) (i:=0) rfl) (by rw [List.length_map];exact size_nat hl) (fun d m=>by
  obtain ⟨⟨a,b,c⟩,mi,rfl⟩:=List.mem_map.mp m
  exact compE_imm (ρ1:=[some (dT (a,b,c),.sh [])]) (tg:=.sh []) (e:=tE (a,b,c)) rfl rfl rfl rfl)
 have e:(E.map dT).filterMap (fun d=>match d with
   | .tup [.int a,b,c]=>some (D.tup [.int a,.tup [.int a,b,c]])
   | _=>none)=E.map tE:=by
  rw [List.filterMap_map]
  exact congrFun (List.filterMap_eq_map (f:=tE)) _
 rw [e] at hc
 unfold B_by_slot
 rw [s_ret,s_e1,hc]
 show retK ((oDict (.lst (E.map tE))).map _)=_
 have q:oDict (.lst (E.map tE))=some (dTV E):=by
  show (pairsD (E.map tE)).map _=_
  rw [pairs_T]
  show some (D.dic ((E.map kT).foldl (fun m p=>putD m p.1 p.2) []))=_
  have:=fold_T E [] (by simpa using nd)
  rw [List.map_nil] at this
  rw [this];rfl
 rw [q];rfl
def jat2 (p q:Ed):List Ed:=if (p.2.1 == q.2.2)=true then [] else [(p.1,p.2.1,q.2.2)]
theorem f_joined_at {p q:Ed} (h:p.2.2=q.2.1):F_joined_at [dT p,dT q]=some (dE (jat2 p q)):=by
 obtain ⟨a,b,c⟩:=p
 obtain ⟨a',b',c'⟩:=q
 have h:c=b':=h
 subst h
 refine runF_rt rfl ?_
 show B_joined_at [some (dT (a,b,c),.sh []),some (dT (a',c,c'),.sh [])]=_
 unfold B_joined_at jat2
 have t1:tV (e2 oNe (e2 oIx (eVar 0) (eC (.int 2))) (e2 oIx (eVar 1) (eC (.int 1)))) [some (dT (a,b,c),.sh []),some (dT (a',c,c'),.sh [])]=some (!(c == c)):=rfl
 have t2:tV (e2 oEq (e2 oIx (eVar 0) (eC (.int 1))) (e2 oIx (eVar 1) (eC (.int 2)))) [some (dT (a,b,c),.sh []),some (dT (a',c,c'),.sh [])]=some (b == c'):=rfl
 rw [beq_self_eq_true] at t1
 rw [s_seq,s_if,t1]
 show seqK _ (ifK _ _ _ (some false))=_
 rw [s_ifF,s_nx,s_seqN,s_seq,s_if,t2]
 by_cases e:(b == c')=true
 ·rw [e,s_ifT,if_pos rfl];rfl
 ·rw [Bool.eq_false_iff.mpr e,s_ifF,if_neg Bool.false_ne_true];rfl
def jat (O T:List Ed) (k:Int):List Ed:=match getT O k,getT T k with
 | some p,some q=>jat2 p q
 | some p,none=>[p]
 | none,some q=>[q]
 | none,none=>[]
def jK (O T:List Ed):List Int:=srt (uni (O.map (·.1)) (T.map (·.1)))
def jn (O T:List Ed):List Ed:=(jK O T).flatMap (jat O T)
def Compat (O T:List Ed):Prop:=∀ k p q,getT O k=some p→getT T k=some q→p.2.2=q.2.1
def rJ (S T:D) (O T':List Ed) (L:List Ed) (s5:Slot):Rho:=[some (S,.sh []),some (T,.sh []),some (dTV O,.own),some (dTV T',.own),some (dE L,.own),s5]
abbrev bJ:SF:=sIf (tV (e2 (oDIn true) (eVar 5) (eVar 3))) (sApp 4 (e2 oGet (eVar 2) (eVar 5))) (sIf (tV (e2 (oDIn true) (eVar 5) (eVar 2))) (sApp 4 (e2 oGet (eVar 3) (eVar 5))) (sExt 4 (eCall F_joined_at (aCons (e2 oGet (eVar 2) (eVar 5)) (aCons (e2 oGet (eVar 3) (eVar 5)) aNil)))))
theorem s_dInT {E:List Ed}{k:Int}:oDIn true (.int k) (dTV E)=some (.bl (!(getT E k).isSome)):=by
 show some (D.bl (if true=true then !(valD (E.map kT) (Sum.inl k)).isSome else _))=_
 rw [if_pos rfl,valD_T,Option.isSome_map]
theorem s_getT {E:List Ed}{k:Int}{p:Ed} (h:getT E k=some p):oGet (dTV E) (.int k)=some (dT p):=by
 show ((valD (E.map kT) (Sum.inl k:Key)).bind fun d=>if imm d=true then some d else none)=_
 rw [valD_T,h];rfl
theorem s_appE {fv:EF}{S T:D}{O T' L:List Ed}{k:Int}{p:Ed}{t:Tag} (h:fv (rJ S T O T' L (some (.int k,.sh [])))=some (dT p,t)) (hl:L.length < 64):sApp 4 fv (rJ S T O T' L (some (.int k,.sh [])))=some (.nx (rJ S T O T' (L++[p]) (some (.int k,.sh [])))):=by
 unfold sApp
 rw [h]
 show (if (imm (dT p)&&immAll (L.map dT)&&decide ((L.map dT).length < sizeLine))=true then some (Out.nx (mutS (rJ S T O T' L (some (.int k,.sh []))) 4 (.lst (L.map dT++[dT p])))) else none)=_
 rw [if_pos (by rw [s_iT,decide_eq_true (by rw [List.length_map];exact size_nat hl)];rfl)]
 have e2:dE (L++[p])=.lst (L.map dT++[dT p]):=by unfold dE;rw [List.map_append];rfl
 unfold rJ
 rw [e2];rfl
theorem s_extE {fv:EF}{S T:D}{O T' L M:List Ed}{k:Int}{t:Tag} (h:fv (rJ S T O T' L (some (.int k,.sh [])))=some (dE M,t)) (hl:L.length + M.length < 64):sExt 4 fv (rJ S T O T' L (some (.int k,.sh [])))=some (.nx (rJ S T O T' (L++M) (some (.int k,.sh [])))):=by
 unfold sExt
 rw [h]
 show (if (immAll (M.map dT)&&immAll (L.map dT)&&decide ((L.map dT).length + (M.map dT).length≤sizeLine))=true then some (Out.nx (mutS (rJ S T O T' L (some (.int k,.sh []))) 4 (.lst (L.map dT++M.map dT)))) else none)=_
 rw [if_pos (by rw [s_iT,s_iT,List.length_map,List.length_map,decide_eq_true (Nat.le_of_lt (size_nat hl))];rfl)]
 have e2:dE (L++M)=.lst (L.map dT++M.map dT):=by unfold dE;rw [List.map_append]
 unfold rJ
 rw [e2];rfl
theorem jat2_len (p q:Ed):(jat2 p q).length≤1:=by unfold jat2;split <;> simp
theorem jat_len (O T:List Ed) (k:Int):(jat O T k).length≤1:=by
 unfold jat
 split
 ·exact jat2_len _ _
 ·exact Nat.le_refl _
 ·exact Nat.le_refl _
 ·exact Nat.zero_le _
theorem j_step {S T:D}{O T' L:List Ed}{k:Int} (hc:Compat O T') (hk:k∈O.map (·.1)∨k∈T'.map (·.1)) (hl:L.length < 63) :
  bJ (rJ S T O T' L (some (.int k,.sh [])))=some (.nx (rJ S T O T' (L++jat O T' k) (some (.int k,.sh [])))):=by
 have c1:tV (e2 (oDIn true) (eVar 5) (eVar 3)) (rJ S T O T' L (some (.int k,.sh [])))=some (!(getT T' k).isSome):=by
  have v5:eVar 5 (rJ S T O T' L (some (.int k,.sh [])))=some (.int k,.sh []):=rfl
  have v3:eVar 3 (rJ S T O T' L (some (.int k,.sh [])))=some (dTV T',.sh [3]):=rfl
  rw [s_tV,s_e2,v5,v3,s_k2,s_dInT];rfl
 have c2:tV (e2 (oDIn true) (eVar 5) (eVar 2)) (rJ S T O T' L (some (.int k,.sh [])))=some (!(getT O k).isSome):=by
  have v5:eVar 5 (rJ S T O T' L (some (.int k,.sh [])))=some (.int k,.sh []):=rfl
  have v2:eVar 2 (rJ S T O T' L (some (.int k,.sh [])))=some (dTV O,.sh [2]):=rfl
  rw [s_tV,s_e2,v5,v2,s_k2,s_dInT];rfl
 have g1:∀ p,getT O k=some p→(e2 oGet (eVar 2) (eVar 5)) (rJ S T O T' L (some (.int k,.sh [])))=some (dT p,.own):=fun p h=>by
  rw [s_e2]
  show (oGet (dTV O) (.int k)).map _=_
  rw [s_getT h];rfl
 have g2:∀ p,getT T' k=some p→(e2 oGet (eVar 3) (eVar 5)) (rJ S T O T' L (some (.int k,.sh [])))=some (dT p,.own):=fun p h=>by
  rw [s_e2]
  show (oGet (dTV T') (.int k)).map _=_
  rw [s_getT h];rfl
 unfold bJ
 rw [s_if,c1]
 cases ht:getT T' k with
 | none=>
  cases ho:getT O k with
  | none=>exact (hk.elim (getT_none.mp ho) (getT_none.mp ht)).elim
  | some p=>
   show ifK _ _ _ (some true)=_
   rw [s_ifT,s_appE (g1 p ho) (by omega)]
   unfold jat
   rw [ho,ht]
 | some q=>
  show ifK _ _ _ (some false)=_
  rw [s_ifF,s_if,c2]
  cases ho:getT O k with
  | none=>
   show ifK _ _ _ (some true)=_
   rw [s_ifT,s_appE (g2 q ht) (by omega)]
   unfold jat
   rw [ho,ht]
  | some p=>
   show ifK _ _ _ (some false)=_
   have h:=f_joined_at (hc k p q ho ht)
   have e:(eCall F_joined_at (aCons (e2 oGet (eVar 2) (eVar 5)) (aCons (e2 oGet (eVar 3) (eVar 5)) aNil))) (rJ S T O T' L (some (.int k,.sh [])))=some (dE (jat2 p q),.own):=by
    rw [s_call,s_aCons,s_aCons,g1 p ho,g2 q ht,s_aNil,s_consK,s_consK,s_bind]
    simp only [List.map_cons,List.map_nil]
    rw [h];rfl
   have:=jat2_len p q
   rw [s_ifF,s_extE e (by omega)]
   unfold jat
   rw [ho,ht]
theorem j_loop {S T:D}{O T':List Ed} (hc:Compat O T'):∀ {ks:List Int}{L:List Ed}{s5:Slot},(∀ k∈ks,k∈O.map (·.1)∨k∈T'.map (·.1))→L.length + ks.length < 64 →
  ∃ t5,loopF (gN 5) (.sh []) bJ (ks.map D.int) (rJ S T O T' L s5)=some (.nx (rJ S T O T' (L++ks.flatMap (jat O T')) t5))
 | [],L,s5,_,_=>⟨s5,by show some (Out.nx (rJ S T O T' L s5))=some (Out.nx (rJ S T O T' (L++[]) s5));rw [List.append_nil]⟩
 | k::ks,L,s5,hk,hl=>by
  rw [List.length_cons] at hl
  have hb:=j_step (S:=S) (T:=T) (L:=L) hc (hk k List.mem_cons_self) (by omega)
  have e:loopF (gN 5) (.sh []) bJ (D.int k::ks.map D.int) (rJ S T O T' L s5)=match bJ (rJ S T O T' L (some (.int k,.sh []))) with
   | some (.nx ρ2)=>loopF (gN 5) (.sh []) bJ (ks.map D.int) ρ2
   | some (.ct ρ2)=>loopF (gN 5) (.sh []) bJ (ks.map D.int) ρ2
   | some (.bk ρ2)=>some (.nx ρ2)
   | some (.rt r)=>some (.rt r)
   | some (.er raw cn ρ2)=>some (.er raw cn ρ2)
   | none=>none:=rfl
  have:=jat_len O T' k
  obtain ⟨t5,ih⟩:=j_loop (S:=S) (T:=T) hc (ks:=ks) (L:=L++jat O T' k) (s5:=some (.int k,.sh [])) (fun j m=>hk j (List.mem_cons_of_mem _ m)) (by rw [List.length_append];omega)
  refine ⟨t5,?_⟩
  rw [List.map_cons,e,hb]
  refine ih.trans ?_
  rw [List.flatMap_cons,List.append_assoc]
theorem f_joined {w w':List D→D} (W:Seq w) (W':Seq w') {O T':List Ed} (h1:O.length < 64) (h2:T'.length < 64) (hu:(uni (O.map (·.1)) (T'.map (·.1))).length < 64) (n1:(O.map (·.1)).Nodup) (n2:(T'.map (·.1)).Nodup) (hc:Compat O T') :
  F_joined [w (O.map dT),w' (T'.map dT)]=some (dE (jn O T')):=by
 refine runF_rt rfl ?_
 have b1:=f_by_slot W (E:=O) (by omega) n1
 have b2:=f_by_slot W' (E:=T') (by omega) n2
 generalize w (O.map dT)=S at b1 ⊢
 generalize w' (T'.map dT)=T at b2 ⊢
 show B_joined [some (S,.sh []),some (T,.sh []),none,none,none,none]=_
 have a1:sSet 2 (eCall F_by_slot (aCons (eVar 0) aNil)) [some (S,.sh []),some (T,.sh []),none,none,none,none]=some (.nx [some (S,.sh []),some (T,.sh []),some (dTV O,.own),none,none,none]):=by
  rw [s_set]
  show setK 2 _ ((F_by_slot [S]).map _)=_
  rw [b1];rfl
 have a2:sSet 3 (eCall F_by_slot (aCons (eVar 1) aNil)) [some (S,.sh []),some (T,.sh []),some (dTV O,.own),none,none,none]=some (.nx [some (S,.sh []),some (T,.sh []),some (dTV O,.own),some (dTV T',.own),none,none]):=by
  rw [s_set]
  show setK 3 _ ((F_by_slot [T]).map _)=_
  rw [b2];rfl
 have a3:sSet 4 (eLst aNil) [some (S,.sh []),some (T,.sh []),some (dTV O,.own),some (dTV T',.own),none,none]=some (.nx (rJ S T O T' [] none)):=rfl
 have e:(e2 oUni (eVar 2) (eVar 3)) (rJ S T O T' [] none)=some (.lst ((jK O T').map D.int),.own):=by
  rw [s_e2]
  show (oUni (dTV O) (dTV T')).map _=_
  have:oUni (dTV O) (dTV T')=some (.lst ((jK O T').map D.int)):=by
   unfold dTV oUni
   dsimp only
   rw [keysI_T,keysI_T]
   dsimp only
   rw [if_pos ⟨by rw [List.length_map];omega,by rw [List.length_map];omega,by omega⟩]
   rfl
  rw [this];rfl
 obtain ⟨t5,hl⟩:=j_loop (S:=S) (T:=T) hc (ks:=jK O T') (L:=[]) (s5:=none) (fun k m=>by unfold jK at m;rw [mem_srt,uni_mem] at m;exact m) (by unfold jK;rw [srt_len,List.length_nil];omega)
 have b:=for_nx0 (g:=gN 5) (f:=bJ) (it:=iSeqF (e2 oUni (eVar 2) (eVar 3))) (iseqL e) hl
 unfold B_joined
 rw [s_seq,a1,s_seqN,s_seq,a2,s_seqN,s_seq,a3,s_seqN,s_seq,b,s_seqN]
 rfl
def uK (A B:List (Int×Int)):List Int:=srt (uni (A.map (·.1)) (B.map (·.1)))
def btw (A B:List (Int×Int)):List (Int×Int×Int):=((uK A B).filter fun k=>!(gV A k == gV B k)).map fun k=>(k,gV A k,gV B k)
theorem s_uni {A B:List (Int×Int)} (h1:A.length < 120) (h2:B.length < 120) (h3:(uni (A.map (·.1)) (B.map (·.1))).length < 64):oUni (dKV A) (dKV B)=some (.lst ((uK A B).map D.int)):=by
 unfold dKV oUni
 dsimp only
 rw [keysI_I,keysI_I]
 dsimp only
 rw [if_pos ⟨by rw [List.length_map];exact h1,by rw [List.length_map];exact h2,h3⟩]
 rfl
def rB (S T:D) (A B:List (Int×Int)) (L:List (Int×Int×Int)) (s5 s6 s7:Slot):Rho:=[some (S,.sh []),some (T,.sh []),some (dKV A,.own),some (dKV B,.own),some (dE L,.own),s5,s6,s7]
abbrev bB:SF:=sSeq (sSet 6 (e3 oGetD (eVar 2) (eVar 5) (eC (.int 0)))) (sSeq (sSet 7 (e3 oGetD (eVar 3) (eVar 5) (eC (.int 0)))) (sIf (tV (e2 oNe (eVar 6) (eVar 7))) (sApp 4 (eTup (aCons (eVar 5) (aCons (eVar 6) (aCons (eVar 7) aNil))))) sNx))
theorem b_step {S T:D}{A B:List (Int×Int)}{L:List (Int×Int×Int)}{k:Int}{s6 s7:Slot} (hl:L.length < 64) :
  bB (rB S T A B L (some (.int k,.sh [])) s6 s7)=some (.nx (rB S T A B (if (!(gV A k == gV B k))=true then L++[(k,gV A k,gV B k)] else L) (some (.int k,.sh [])) (some (.int (gV A k),.own)) (some (.int (gV B k),.own)))):=by
 have h1:sSet 6 (e3 oGetD (eVar 2) (eVar 5) (eC (.int 0))) (rB S T A B L (some (.int k,.sh [])) s6 s7)=some (.nx (rB S T A B L (some (.int k,.sh [])) (some (.int (gV A k),.own)) s7)):=by
  rw [s_set,s_e3]
  show setK 6 _ ((oGetD (dKV A) (.int k) (.int 0)).map _)=_
  rw [s_getD];rfl
 have h2:sSet 7 (e3 oGetD (eVar 3) (eVar 5) (eC (.int 0))) (rB S T A B L (some (.int k,.sh [])) (some (.int (gV A k),.own)) s7)=some (.nx (rB S T A B L (some (.int k,.sh [])) (some (.int (gV A k),.own)) (some (.int (gV B k),.own)))):=by
  rw [s_set,s_e3]
  show setK 7 _ ((oGetD (dKV B) (.int k) (.int 0)).map _)=_
  rw [s_getD];rfl
 have h3:tV (e2 oNe (eVar 6) (eVar 7)) (rB S T A B L (some (.int k,.sh [])) (some (.int (gV A k),.own)) (some (.int (gV B k),.own)))=some (!(gV A k == gV B k)):=rfl
 unfold bB
 rw [s_seq,h1,s_seqN,s_seq,h2,s_seqN,s_if,h3]
 by_cases c:(!(gV A k == gV B k))=true
 ·rw [if_pos c,c,s_ifT]
  have e:sApp 4 (eTup (aCons (eVar 5) (aCons (eVar 6) (aCons (eVar 7) aNil)))) (rB S T A B L (some (.int k,.sh [])) (some (.int (gV A k),.own)) (some (.int (gV B k),.own))) =
   (if (imm (dT (k,gV A k,gV B k))&&immAll (L.map dT)&&decide ((L.map dT).length < sizeLine))=true then some (.nx (mutS (rB S T A B L (some (.int k,.sh [])) (some (.int (gV A k),.own)) (some (.int (gV B k),.own))) 4 (.lst (L.map dT++[dT (k,gV A k,gV B k)])))) else none):=rfl
  rw [e,if_pos (by rw [s_iT,decide_eq_true (by rw [List.length_map];exact size_nat hl)];rfl)]
  have e2:dE (L++[(k,gV A k,gV B k)])=.lst (L.map dT++[dT (k,gV A k,gV B k)]):=by unfold dE;rw [List.map_append];rfl
  unfold rB
  rw [e2]
  rfl
 ·rw [if_neg c,Bool.eq_false_iff.mpr c,s_ifF];rfl
theorem b_loop {S T:D}{A B:List (Int×Int)}:∀ {ks:List Int}{L:List (Int×Int×Int)}{s5 s6 s7:Slot},L.length + ks.length < 64 →
  ∃ t5 t6 t7,loopF (gN 5) (.sh []) bB (ks.map D.int) (rB S T A B L s5 s6 s7)=some (.nx (rB S T A B (L++(ks.filter fun k=>!(gV A k == gV B k)).map fun k=>(k,gV A k,gV B k)) t5 t6 t7))
 | [],L,s5,s6,s7,_=>⟨s5,s6,s7,by show some (Out.nx (rB S T A B L s5 s6 s7))=some (Out.nx (rB S T A B (L++[]) s5 s6 s7));rw [List.append_nil]⟩
 | k::ks,L,s5,s6,s7,hl=>by
  rw [List.length_cons] at hl
  have hb:=b_step (S:=S) (T:=T) (A:=A) (B:=B) (L:=L) (k:=k) (s6:=s6) (s7:=s7) (by omega)
  obtain ⟨t5,t6,t7,ih⟩:=b_loop (S:=S) (T:=T) (A:=A) (B:=B) (ks:=ks) (L:=if (!(gV A k == gV B k))=true then L++[(k,gV A k,gV B k)] else L) (s5:=some (.int k,.sh [])) (s6:=some (.int (gV A k),.own)) (s7:=some (.int (gV B k),.own)) (by
   split
   ·rw [List.length_append];show L.length + 1 + ks.length < 64;omega
   ·omega)
  refine ⟨t5,t6,t7,?_⟩
  rw [List.map_cons,loop_c (ρ1:=rB S T A B L (some (.int k,.sh [])) s6 s7) rfl hb]
  refine ih.trans ?_
  rw [List.filter_cons]
  by_cases c:(!(gV A k == gV B k))=true
  ·rw [if_pos c,if_pos c,List.append_assoc];rfl
  ·rw [if_neg c,if_neg c]
theorem f_between {w w':List D→D} (W:Seq w) (W':Seq w') {ps qs:List (Int×Int)} (h1:(dictI ps).length < 120) (h2:(dictI qs).length < 120) (h3:(uni ((dictI ps).map (·.1)) ((dictI qs).map (·.1))).length < 64) :
  F_between [w (ps.map dP),w' (qs.map dP)]=some (dE (btw (dictI ps) (dictI qs))):=by
 refine runF_rt rfl ?_
 generalize hS:w (ps.map dP)=S
 generalize hT:w' (qs.map dP)=T
 show B_between [some (S,.sh []),some (T,.sh []),none,none,none,none,none,none]=_
 have a1:sSet 2 (e1 oDict (eVar 0)) [some (S,.sh []),some (T,.sh []),none,none,none,none,none,none]=some (.nx [some (S,.sh []),some (T,.sh []),some (dKV (dictI ps),.own),none,none,none,none,none]):=by
  rw [s_set,s_e1]
  show setK 2 _ ((oDict S).map _)=_
  rw [← hS,W.di];rfl
 have a2:sSet 3 (e1 oDict (eVar 1)) [some (S,.sh []),some (T,.sh []),some (dKV (dictI ps),.own),none,none,none,none,none]=some (.nx [some (S,.sh []),some (T,.sh []),some (dKV (dictI ps),.own),some (dKV (dictI qs),.own),none,none,none,none]):=by
  rw [s_set,s_e1]
  show setK 3 _ ((oDict T).map _)=_
  rw [← hT,W'.di];rfl
 have a3:sSet 4 (eLst aNil) [some (S,.sh []),some (T,.sh []),some (dKV (dictI ps),.own),some (dKV (dictI qs),.own),none,none,none,none]=some (.nx (rB S T (dictI ps) (dictI qs) [] none none none)):=rfl
 have hu:=s_uni h1 h2 h3
 have hul:(uK (dictI ps) (dictI qs)).length < 64:=by unfold uK;rw [srt_len];exact h3
 have e:(e2 oUni (eVar 2) (eVar 3)) (rB S T (dictI ps) (dictI qs) [] none none none)=some (.lst ((uK (dictI ps) (dictI qs)).map D.int),.own):=by
  rw [s_e2]
  show (oUni (dKV (dictI ps)) (dKV (dictI qs))).map _=_
  rw [hu];rfl
 obtain ⟨t5,t6,t7,hl⟩:=b_loop (S:=S) (T:=T) (A:=dictI ps) (B:=dictI qs) (ks:=uK (dictI ps) (dictI qs)) (L:=[]) (s5:=none) (s6:=none) (s7:=none) (by rw [List.length_nil,Nat.zero_add];exact hul)
 have b:=for_nx0 (g:=gN 5) (f:=bB) (it:=iSeqF (e2 oUni (eVar 2) (eVar 3))) (iseqL e) hl
 unfold B_between
 rw [s_seq,a1,s_seqN,s_seq,a2,s_seqN,s_seq,a3,s_seqN,s_seq]
 rw [b,s_seqN]
 rfl
theorem uK_nodup {A B:List (Int×Int)}:(uK A B).Nodup:=(srt_perm _).nodup_iff.mpr uni_nodup
theorem uK_mem {A B:List (Int×Int)}{k:Int}:k∈uK A B↔k∈A.map (·.1)∨k∈B.map (·.1):=by unfold uK;rw [mem_srt,uni_mem]
theorem btw_keys {A B:List (Int×Int)}:(btw A B).map (·.1)=(uK A B).filter fun k=>!(gV A k == gV B k):=by
 unfold btw
 rw [List.map_map]
 exact List.map_id' _
def sw (p:Int×Int×Int):Int×Int×Int:=(p.1,p.2.2,p.2.1)
abbrev g3:GF:=gT (gsCons (gN 0) (gsCons (gN 1) (gsCons (gN 2) gsNil)))
abbrev eW:EF:=eTup (aCons (eVar 0) (aCons (eVar 2) (aCons (eVar 1) aNil)))
def kW:D→Option D
 | .tup [.int a,.int b,.int c]=>some (dT (a,c,b))
 | _=>none
theorem c_back {E:List (Int×Int×Int)}{it:IF}{ρ:Rho}{t:Tag} (hi:it ρ=some (E.map dT,t)) (hl:E.length < 64):eComp [none,none,none] it g3 tTrue eW ρ=some (dE (E.map sw),.own):=by
 have hc:=comp_ok (js:=[none,none,none]) (g:=g3) (tt:=tTrue) (te:=eW) (k:=kW) hi (by rw [List.length_map];exact size_nat hl) (fun d m=>by
  obtain ⟨⟨a,b,c⟩,mi,rfl⟩:=List.mem_map.mp m
  exact compE_imm (ρ1:=[some (.int a,.own),some (.int b,.own),some (.int c,.own)]) (e:=dT (a,c,b)) (tg:=.sh [0,2,1]) rfl rfl rfl rfl)
 rw [hc]
 congr 3
 rw [List.filterMap_map,List.map_map]
 clear hc hl hi
 induction E with
 | nil=>rfl
 | cons p r ih=>rw [List.filterMap_cons,List.map_cons];show _::_=_;rw [ih];rfl
theorem f_back {w:List D→D} (W:Seq w) {E:List (Int×Int×Int)} (hl:E.length < 64):F_way_back [w (E.map dT)]=some (dE (E.map sw)):=by
 refine runF_rt rfl ?_
 show B_way_back [some (w (E.map dT),.sh [])]=_
 unfold B_way_back
 rw [s_ret,c_back (W.it (i:=0) rfl) hl];rfl
theorem keys_sw (E:List (Int×Int×Int)):(E.map sw).map (·.1)=E.map (·.1):=by rw [List.map_map];rfl
def row3 (p:Int×Int×Int):List Int:=[p.1,p.2.1,p.2.2]
def row2 (p:Int×Int):List Int:=[p.1,p.2]
def Sm3 (E:List (Int×Int×Int)):Prop:=∀ p∈E,small12 p.1∧small12 p.2.1∧small12 p.2.2
theorem rows3 (E:List (Int×Int×Int)):E.map dT=dRows (E.map row3):=by unfold dRows;rw [List.map_map];rfl
theorem rows2 (E:List (Int×Int)):E.map dP=dRows (E.map row2):=by unfold dRows;rw [List.map_map];rfl
theorem shw3 {E:List (Int×Int×Int)} (h:Sm3 E) (hl:E.length < 64):shw (dE E)=true:=by
 unfold dE
 rw [rows3]
 refine shw_rows (fun r m=>?_) (by rw [List.length_map];omega)
 obtain ⟨p,mp,rfl⟩:=List.mem_map.mp m
 refine ⟨Nat.le_refl 3,fun i mi=>?_⟩
 obtain ⟨a,b,c⟩:=h p mp
 rcases List.mem_cons.mp mi with rfl | mi
 ·exact a
 rcases List.mem_cons.mp mi with rfl | mi
 ·exact b
 ·rw [List.mem_singleton.mp mi];exact c
theorem shw2 {E:List (Int×Int)} (h:∀ p∈E,small12 p.1∧small12 p.2) (hl:E.length < 4096):shw (dS E)=true:=by
 unfold dS
 rw [rows2]
 refine shw_rows (fun r m=>?_) (by rw [List.length_map];omega)
 obtain ⟨p,mp,rfl⟩:=List.mem_map.mp m
 refine ⟨by show 2≤3;omega,fun i mi=>?_⟩
 obtain ⟨a,b⟩:=h p mp
 rcases List.mem_cons.mp mi with rfl | mi
 ·exact a
 ·rw [List.mem_singleton.mp mi];exact b
theorem ne_str {x:Str}:oNe (.str x) (.str x)=some (.bl false):=by show some (D.bl (!(x == x)))=_;rw [beq_self_eq_true];rfl
theorem eq_str {x:Str}:oEq (.str x) (.str x)=some (.bl true):=by show some (D.bl (x == x))=_;rw [beq_self_eq_true]
theorem bad_nil {vs:List (Int×Int)}{E:List (Int×Int×Int)} (h:∀ p∈E,(getI vs p.1).getD 0=p.2.1):bad vs E=[]:=by
 unfold bad
 rw [List.filter_eq_nil_iff.mpr,List.map_nil]
 intro p m
 unfold wrong
 rw [h p m,beq_self_eq_true]
 decide
theorem gV_puts {es:List (Int×Int)}{E:List Ed} (nd:(E.map (·.1)).Nodup) (k:Int):gV (puts es E) k=match getT E k with
  | some p=>p.2.2
  | none=>gV es k:=by
 obtain ⟨c1,c2⟩:=getI_puts E es k nd
 show (getI (puts es E) k).getD 0=_
 cases h:getT E k with
 | some p=>
  obtain ⟨e,m⟩:=getT_key h
  rw [c1 p m e];rfl
 | none=>rw [c2 (getT_none.mp h)]
theorem sub_len:∀ {l m:List Int},l.Nodup→(∀ x∈l,x∈m)→l.length≤m.length
 | [],m,_,_=>Nat.zero_le _
 | a::l,m,h,s=>by
  obtain ⟨ha,hl⟩:=List.nodup_cons.mp h
  have ma:=s a List.mem_cons_self
  have:=sub_len (m:=m.erase a) hl fun x mx=>(List.mem_erase_of_ne fun e=>ha (by rw [← e];exact mx)).mpr (s x (List.mem_cons_of_mem _ mx))
  rw [List.length_erase_of_mem ma] at this
  have:=List.length_pos_of_mem ma
  rw [List.length_cons];omega
theorem put_keys {es:List (Int×Int)}{a c k:Int} (h:k∈(putI es a c).map (·.1)):k=a∨k∈es.map (·.1):=by
 obtain ⟨w,e⟩:=getI_key.mpr h
 rw [getI_put] at e
 split at e
 ·rename_i q;exact .inl q
 ·exact .inr (getI_key.mp ⟨w,e⟩)
theorem puts_keys {S:List Int}:∀ {E:List Ed}{es:List (Int×Int)},(∀ p∈E,p.1∈S)→(∀ k∈es.map (·.1),k∈S)→∀ k∈(puts es E).map (·.1),k∈S
 | [],es,_,h=>h
 | p::E,es,hE,h=>puts_keys (E:=E) (es:=putI es p.1 p.2.2) (fun q m=>hE q (List.mem_cons_of_mem _ m)) fun k m=>(put_keys m).elim (fun e=>by rw [e];exact hE p List.mem_cons_self) (h k)
structure IsD (f g:Int→Int) (E:List Ed):Prop where
 so:(E.map (·.1)).Pairwise (· < ·)
 at_:∀ k,getT E k=if f k=g k then none else some (k,f k,g k)
theorem lt_nodup {l:List Int} (h:l.Pairwise (· < ·)):l.Nodup:=h.imp fun a=>Int.ne_of_lt a
theorem IsD.nd {f g:Int→Int}{E:List Ed} (h:IsD f g E):(E.map (·.1)).Nodup:=lt_nodup h.so
theorem IsD.mem {f g:Int→Int}{E:List Ed} (h:IsD f g E) {p:Ed} (m:p∈E):p=(p.1,f p.1,g p.1)∧f p.1≠g p.1:=by
 have e:=getT_mem h.nd m
 rw [h.at_] at e
 split at e
 ·cases e
 ·rename_i c
  exact ⟨(Option.some.inj e).symm,c⟩
theorem IsD.uniq {f g:Int→Int}{E F:List Ed} (h:IsD f g E) (h':IsD f g F):E=F:=by
 have me:∀ {E F:List Ed},IsD f g E→IsD f g F→∀ p∈E,p∈F:=fun {E F} h h' p m=>by
  have e:=getT_mem h.nd m
  rw [h.at_,← h'.at_] at e
  exact (getT_key e).2
 have nd:∀ {E:List Ed},IsD f g E→E.Nodup:=fun {E} h=>(List.pairwise_map.mp h.nd).imp fun a e=>a (by rw [e])
 have q:E.Perm F:=(List.perm_ext_iff_of_nodup (nd h) (nd h')).mpr fun p=>⟨me h h' p,me h' h p⟩
 exact q.eq_of_pairwise (le:=fun p q:Ed=>p.1 < q.1) (fun x y _ _ a b=>absurd a (by omega)) (List.pairwise_map.mp h.so) (List.pairwise_map.mp h'.so)
theorem IsD.nil (f:Int→Int):IsD f f []:=⟨List.Pairwise.nil,fun k=>by rw [if_pos rfl];rfl⟩
theorem so_lt {l:List Int} (h:l.Pairwise (·≤·)) (n:l.Nodup):l.Pairwise (· < ·):=(h.and n).imp fun a=>by omega
theorem srt_lt {l:List Int} (n:l.Nodup):(srt l).Pairwise (· < ·):=so_lt (srt_sorted l) ((srt_perm l).nodup_iff.mpr n)
theorem getT_map (F:Int→Ed) (hF:∀ k,(F k).1=k) (k:Int):∀ l:List Int,getT (l.map F) k=if k∈l then some (F k) else none
 | []=>rfl
 | x::r=>by
  have ih:=getT_map F hF k r
  rw [List.map_cons]
  unfold getT at ih ⊢
  rw [List.find?_cons,hF]
  by_cases hx:x=k
  ·rw [decide_eq_true hx,if_pos (by rw [hx];exact List.mem_cons_self),hx]
  ·rw [decide_eq_false hx]
   dsimp only
   rw [ih]
   have:(k∈x::r)↔k∈r:=⟨fun m=>(List.mem_cons.mp m).elim (fun e=>absurd e.symm hx) id,List.mem_cons_of_mem _⟩
   simp only [this]
theorem isD_btw (A B:List (Int×Int)):IsD (gV A) (gV B) (btw A B):=by
 refine ⟨by rw [btw_keys];exact (so_lt (srt_sorted _) uK_nodup).sublist List.filter_sublist,fun k=>?_⟩
 unfold btw
 rw [getT_map (fun k=>(k,gV A k,gV B k)) (fun _=>rfl)]
 by_cases c:gV A k=gV B k
 ·rw [if_pos c,if_neg]
  rw [List.mem_filter]
  intro m
  have:=m.2
  rw [c,beq_self_eq_true] at this
  cases this
 ·rw [if_neg c,if_pos]
  rw [List.mem_filter]
  refine ⟨uK_mem.mpr ?_,by simpa using c⟩
  by_cases z:gV A k=0
  ·exact .inr (mem_keys fun y=>c (by rw [z,y]))
  ·exact .inl (mem_keys z)
theorem isD_edI {es fs:List (Int×Int)} (hd:(fs.map (·.1)).Nodup) (hu:Fne es fs):IsD (gV es) (gV (puts es (edI es fs))) (edI es fs):=by
 have nd:((edI es fs).map (·.1)).Nodup:=by rw [edI_keys];exact (srt_perm _).nodup_iff.mpr hd
 refine ⟨by rw [edI_keys];exact srt_lt hd,fun k=>?_⟩
 have e:=getT_map (fun k=>(k,gV es k,gV fs k)) (fun _=>rfl) k (srt (fs.map (·.1)))
 have e:getT (edI es fs) k=if k∈srt (fs.map (·.1)) then some (k,gV es k,gV fs k) else none:=e
 rw [gV_puts nd,e]
 by_cases c:k∈srt (fs.map (·.1))
 ·rw [if_pos c]
  dsimp only
  obtain ⟨w,hw⟩:=getI_key.mpr (mem_srt.mp c)
  have:gV fs k=w:=by show (getI fs k).getD 0=w;rw [hw];rfl
  have n:=hu k w hw
  rw [if_neg (by rw [this];exact fun x=>n x.symm)]
 ·rw [if_neg c]
  dsimp only
  rw [if_pos rfl]
theorem isD_sw {f g:Int→Int}{E:List Ed} (h:IsD f g E):IsD g f (E.map sw):=by
 refine ⟨by rw [keys_sw];exact h.so,fun k=>?_⟩
 have:getT (E.map sw) k=(getT E k).map sw:=by
  unfold getT
  rw [List.find?_map];rfl
 rw [this,h.at_]
 by_cases c:f k=g k
 ·rw [if_pos c,if_pos c.symm];rfl
 ·rw [if_neg c,if_neg fun x=>c x.symm];rfl
theorem fl_at {F:Int→List Ed} (hF:∀ k,F k=[]∨∃ p,F k=[p]∧p.1=k):∀ {ks:List Int},ks.Pairwise (· < ·)→((ks.flatMap F).map (·.1)).Sublist ks∧∀ k,getT (ks.flatMap F) k=if k∈ks then (F k).head? else none
 | [],_=>⟨List.Sublist.refl _,fun k=>rfl⟩
 | x::ks,h=>by
  obtain ⟨h1,h2⟩:=List.pairwise_cons.mp h
  obtain ⟨i1,i2⟩:=fl_at hF h2
  rw [List.flatMap_cons]
  have ne:∀ k,k∈ks→¬ k=x:=fun k m e=>by have:=h1 k m;omega
  rcases hF x with e | ⟨p,e,ep⟩
  ·rw [e,List.nil_append]
   refine ⟨i1.cons _,fun k=>?_⟩
   rw [i2]
   by_cases c:k∈ks
   ·rw [if_pos c,if_pos (List.mem_cons_of_mem _ c)]
   ·rw [if_neg c]
    by_cases d:k=x
    ·rw [if_pos (by rw [d];exact List.mem_cons_self),d,e];rfl
    ·rw [if_neg fun m=>(List.mem_cons.mp m).elim d c]
  ·rw [e,List.singleton_append,List.map_cons,ep]
   refine ⟨i1.cons₂ _,fun k=>?_⟩
   unfold getT at i2 ⊢
   rw [List.find?_cons,ep]
   by_cases d:x=k
   ·rw [decide_eq_true d,if_pos (by rw [d];exact List.mem_cons_self),← d,e];rfl
   ·rw [decide_eq_false d]
    dsimp only
    rw [i2]
    have:(k∈x::ks)↔k∈ks:=⟨fun m=>(List.mem_cons.mp m).elim (fun e=>absurd e.symm d) id,List.mem_cons_of_mem _⟩
    simp only [this]
theorem isD_compat {f g h:Int→Int}{O T:List Ed} (hO:IsD f g O) (hT:IsD g h T):Compat O T:=fun k p q ho ht=>by
 rw [hO.at_] at ho
 rw [hT.at_] at ht
 split at ho
 ·cases ho
 ·split at ht
  ·cases ht
  ·cases ho;cases ht;rfl
theorem isD_jn {f g h:Int→Int}{O T:List Ed} (hO:IsD f g O) (hT:IsD g h T):IsD f h (jn O T):=by
 have key:∀ k,jat O T k=if f k=h k then [] else [(k,f k,h k)]:=fun k=>by
  unfold jat
  rw [hO.at_,hT.at_]
  by_cases a:f k=g k
  ·rw [if_pos a]
   by_cases b:g k=h k
   ·rw [if_pos b,if_pos (a.trans b)]
   ·rw [if_neg b,if_neg (fun x=>b (a.symm.trans x)),a]
  ·rw [if_neg a]
   by_cases b:g k=h k
   ·rw [if_pos b,if_neg (fun x=>a (x.trans b.symm)),b]
   ·rw [if_neg b]
    dsimp only
    unfold jat2
    by_cases c:f k=h k
    ·rw [if_pos c,if_pos (by simpa using c)]
    ·rw [if_neg c,if_neg (by simpa using c)]
 have nd:(jK O T).Pairwise (· < ·):=srt_lt uni_nodup
 obtain ⟨h1,h2⟩:=fl_at (F:=jat O T) (fun k=>by
  rw [key]
  split
  ·exact .inl rfl
  ·exact .inr ⟨_,rfl,rfl⟩) nd
 refine ⟨nd.sublist h1,fun k=>?_⟩
 unfold jn
 rw [h2,key]
 by_cases c:f k=h k
 ·rw [if_pos c,if_pos c]
  split <;> rfl
 ·rw [if_neg c,if_neg c,if_pos]
  ·rfl
  ·unfold jK
   rw [mem_srt,uni_mem]
   by_cases a:f k=g k
   ·refine .inr ?_
    by_cases m:k∈T.map (·.1)
    ·exact m
    ·have:=getT_none.mpr m
     rw [hT.at_,if_neg (fun x=>c (a.trans x))] at this
     cases this
   ·refine .inl ?_
    by_cases m:k∈O.map (·.1)
    ·exact m
    ·have:=getT_none.mpr m
     rw [hO.at_,if_neg a] at this
     cases this
structure Nice (ns:List Int) (f:Int→Int):Prop where
 sl:∀ k,f k≠0→Sl ns k
 bd:∀ k,0≤f k∧f k≤1000000000
def slots (ns:List Int):List Int:=(List.range 63).map fun j:Nat=>slot ns j
theorem sl_mem {ns:List Int}{k:Int} (h:Sl ns k):k∈slots ns:=by
 obtain ⟨j,a,b⟩:=h
 exact List.mem_map.mpr ⟨j,List.mem_range.mpr a,b.symm⟩
theorem few {ns l:List Int} (nd:l.Nodup) (h:∀ k∈l,Sl ns k):l.length≤63:=by
 have:=sub_len (m:=slots ns) nd fun k m=>sl_mem (h k m)
 unfold slots at this
 rw [List.length_map,List.length_range] at this
 exact this
theorem sl_b {ns:List Int}{k:Int} (h:Sl ns k):0≤k∧k < 1000:=by
 obtain ⟨j,a,b⟩:=h
 rw [b];exact slot_b
section
variable {ns:List Int}{f g h:Int→Int}{O T:List Ed} (hf:Nice ns f) (hg:Nice ns g)
include hf hg
theorem isD_sl (hO:IsD f g O):∀ k∈O.map (·.1),Sl ns k:=fun k m=>by
 obtain ⟨p,mp,rfl⟩:=List.mem_map.mp m
 have c:=(hO.mem mp).2
 by_cases z:f p.1=0
 ·exact hg.sl _ fun y=>c (by rw [z,y])
 ·exact hf.sl _ z
theorem isD_len (hO:IsD f g O):O.length≤63:=by
 have:=few hO.nd (isD_sl hf hg hO)
 rw [List.length_map] at this
 exact this
theorem isD_uni (hh:Nice ns h) (hO:IsD f g O) (hT:IsD g h T):(uni (O.map (·.1)) (T.map (·.1))).length < 64:=by
 have:=few (ns:=ns) (l:=uni (O.map (·.1)) (T.map (·.1))) uni_nodup fun k m=>by
  rcases uni_mem.mp m with m | m
  ·exact isD_sl hf hg hO k m
  ·exact isD_sl hg hh hT k m
 omega
theorem isD_sm (hO:IsD f g O):Sm3 O:=fun p m=>by
 have a:=sl_b (isD_sl hf hg hO p.1 (List.mem_map_of_mem m))
 have b:=hf.bd p.1
 have c:=hg.bd p.1
 rw [(hO.mem m).1]
 unfold small12
 dsimp only
 omega
theorem isD_shw (hO:IsD f g O):shw (dE O)=true:=shw3 (isD_sm hf hg hO) (by have:=isD_len hf hg hO;omega)
theorem f_jn {w w':List D→D} (W:Seq w) (W':Seq w') (hh:Nice ns h) (hO:IsD f g O) (hT:IsD g h T):F_joined [w (O.map dT),w' (T.map dT)]=some (dE (jn O T)):=
 f_joined W W' (by have:=isD_len hf hg hO;omega) (by have:=isD_len hg hh hT;omega) (isD_uni hf hg hh hO hT) hO.nd hT.nd (isD_compat hO hT)
end
structure St (ns:List Int) (es:List (Int×Int)):Prop where
 nd:(es.map (·.1)).Nodup
 sl:∀ q w,getI es q=some w→Sl ns q
 bd:Fsb es
theorem St.len {ns:List Int}{es:List (Int×Int)} (h:St ns es):es.length≤63:=by
 have:=few h.nd fun k m=>by
  obtain ⟨v,e⟩:=getI_key.mpr m
  exact h.sl k v e
 rw [List.length_map] at this
 exact this
theorem St.nice {ns:List Int}{es:List (Int×Int)} (h:St ns es):Nice ns (gV es):=by
 refine ⟨fun k c=>?_,fun k=>?_⟩
 ·obtain ⟨v,e⟩:=getI_key.mpr (mem_keys c)
  exact h.sl k v e
 ·show 0≤(getI es k).getD 0∧(getI es k).getD 0≤_
  cases e:getI es k with
  | none=>decide
  | some v=>have:=h.bd k v e;exact ⟨this.2.1,this.2.2⟩
theorem St.shw {ns:List Int}{es:List (Int×Int)} (h:St ns es):shw (dS (nz es))=true:=by
 refine shw2 (fun p m=>?_) (by have:=nz_len es;have:=h.len;omega)
 unfold nz at m
 obtain ⟨k,mk,rfl⟩:=List.mem_map.mp m
 have c:=nzK_mem.mp mk
 have a:=sl_b (h.nice.sl k c)
 have b:0≤(getI es k).getD 0∧(getI es k).getD 0≤1000000000:=h.nice.bd k
 unfold small12
 dsimp only
 omega
theorem f_ed {w':List D→D} (W':Seq w') {ns:List Int}{es fs:List (Int×Int)}{E:List Ed} (h:St ns es) (h':St ns fs) (hE:IsD (gV es) (gV fs) E):F_edited [dS (nz es),w' (E.map dT)]=some (dS (nz fs)):=by
 have l:=isD_len h.nice h'.nice hE
 have ev:∀ k,gV (puts (dictI (nz es)) E) k=gV fs k:=fun k=>by
  rw [gV_puts hE.nd,hE.at_]
  by_cases c:gV es k=gV fs k
  ·rw [if_pos c]
   dsimp only
   rw [← c]
   exact getI_dnz h.nd k
  ·rw [if_neg c]
 have nd:((puts (dictI (nz es)) E).map (·.1)).Nodup:=puts_nodup _ _ (dictI_nodup _)
 have hl:(puts (dictI (nz es)) E).length≤63:=by
  have:=few (ns:=ns) nd fun k m=>by
   have:k∈slots ns:=puts_keys (S:=slots ns) (E:=E) (es:=dictI (nz es)) (fun p m=>sl_mem (isD_sl h.nice h'.nice hE p.1 (List.mem_map_of_mem m))) (fun k m=>by
    obtain ⟨v,e⟩:=getI_key.mpr m
    rw [getI_dict (by rw [nz_keys];exact nzK_nodup h.nd)] at e
    have:=getI_key.mp ⟨v,e⟩
    rw [nz_keys] at this
    exact sl_mem (h.nice.sl k (nzK_mem.mp this))) k m
   obtain ⟨j,a,b⟩:=List.mem_map.mp this
   exact ⟨j,List.mem_range.mp a,b.symm⟩
  rw [List.length_map] at this
  exact this
 have e:=f_edited seqL W' (ps:=nz es) (E:=E) (n:=63) ⟨hE.so.imp fun a=>Int.le_of_lt a,l⟩ (by omega) (bad_nil fun p m=>by
  rw [getI_dnz h.nd,(hE.mem m).1]) (by have:=dictI_len (nz es);have:=nz_len es;have:=h.len;omega) (by omega)
 refine e.trans ?_
 rw [nz_ext nd h'.nd ev];rfl
theorem st_puts {ns:List Int}{es:List (Int×Int)}{fs:List (Int×Int)} (h:St ns es) (hd:(fs.map (·.1)).Nodup) (hf:Fsb fs) (hs:∀ q w,getI fs q=some w→Sl ns q):St ns (puts es (edI es fs)):=by
 have nd:((edI es fs).map (·.1)).Nodup:=by rw [edI_keys];exact (srt_perm _).nodup_iff.mpr hd
 have at_:∀ k w,getI (puts es (edI es fs)) k=some w→getI fs k=some w∨getI es k=some w:=fun k w e=>by
  obtain ⟨c1,c2⟩:=getI_puts (edI es fs) es k nd
  by_cases hk:k∈(edI es fs).map (·.1)
  ·obtain ⟨p,mp,rfl⟩:=List.mem_map.mp hk
   rw [c1 p mp rfl] at e
   unfold edI at mp
   obtain ⟨k,mk,rfl⟩:=List.mem_map.mp mp
   obtain ⟨v,hv⟩:=getI_key.mpr (mem_srt.mp mk)
   refine .inl ?_
   dsimp only at e ⊢
   rw [hv] at e ⊢
   exact e
  ·rw [c2 hk] at e
   exact .inr e
 exact ⟨puts_nodup _ _ h.nd,fun q w e=>(at_ q w e).elim (hs q w) (h.sl q w),fun q w e=>(at_ q w e).elim (hf q w) (h.bd q w)⟩
def Row (ns:List Int):List (Int×Int)→List (List Ed)→Prop
 | _,[]=>True
 | es,E::R=>IsD (gV es) (gV (puts es E)) E∧St ns (puts es E)∧Row ns (puts es E) R
def fin (es:List (Int×Int)) (R:List (List Ed)):List (Int×Int):=R.foldl puts es
theorem st_fin {ns:List Int}:∀ {R:List (List Ed)}{es:List (Int×Int)},St ns es→Row ns es R→St ns (fin es R)
 | [],es,h,_=>h
 | E::R,es,h,⟨_,b,c⟩=>st_fin (R:=R) b c
def rR (ns:List Int) (es:List (Int×Int)) (t1:Tag) (R:List (List Ed)) (s3 s4:Slot):Rho:=[some (dI ns,.sh []),some (dKV es,t1),some (.lst (R.map dE),.own),s3,s4]
abbrev bR:SF:=(sSeq (sSet 4 (eCall F_L_edits (aCons (eVar 0) (aCons (eVar 1) (aCons (eVar 3) (aCons (eCall F_L_draw (aCons (eVar 0) (aCons (eVar 3) (aCons (eC (.int 10141)) (aCons (eC (.int 7)) aNil))))) aNil)))))) (sSeq (sAppN 2 4) (sSet 1 (eCall F_L_did (aCons (eVar 1) (aCons (eVar 4) aNil))))))
def Tg (t:Tag):Prop:=t=.own∨t=.sh []
theorem r_step {ns:List Int}{es:List (Int×Int)}{t1:Tag}{R:List (List Ed)}{i:Nat}{s4:Slot} (ht:Tg t1) (h:St ns es) (hi:i < 20) (hR:R.length < 64) :
  ∃ E,IsD (gV es) (gV (puts es E)) E∧St ns (puts es E)∧bR (rR ns es t1 R (some (.int (0 + i * 3),.sh [])) s4)=some (.nx (rR ns (puts es E) .own (R++[E]) (some (.int (0 + i * 3),.sh [])) (some (dE E,.sh [2])))):=by
 have d1:=f_draw (ns:=ns) (k:=0 + i * 3) (p:=10141) (m:=7) (by omega) (by omega) (by omega)
 have hd:=draw_lt (ns:=ns) (k:=0 + i * 3) (p:=10141) (m:=7) (by omega)
 obtain ⟨n,hn⟩:∃ n:Nat,draw ns (0 + i * 3) 10141 7=n:=⟨(draw ns (0 + i * 3) 10141 7).toNat,(Int.toNat_of_nonneg hd.1).symm⟩
 rw [hn] at d1 hd
 obtain ⟨fs,h1,h2,h3,h4,h5,h6⟩:=f_edits (ns:=ns) (es:=es) (k:=0 + i * 3) (n:=n) (by omega) (by omega) (by have:=h.len;omega) (fun j w e=>(h.bd j w e).1) h.nice.bd h.sl (by omega)
 have hE:=isD_edI h2 h5
 have hS:=st_puts h h2 h4 h6
 have lE:=isD_len h.nice hS.nice hE
 have d2:=f_did (es:=es) (E:=edI es fs) (by have:=h.len;omega)
 refine ⟨edI es fs,hE,hS,?_⟩
 generalize edI es fs=E at *
 have go:∀ (tv:Tag),eVar 1 (rR ns es t1 R (some (.int (0 + i * 3),.sh [])) s4)=some (dKV es,tv)→sSet 4 (eCall F_L_edits (aCons (eVar 0) (aCons (eVar 1) (aCons (eVar 3) (aCons (eCall F_L_draw (aCons (eVar 0) (aCons (eVar 3) (aCons (eC (.int 10141)) (aCons (eC (.int 7)) aNil))))) aNil))))) (rR ns es t1 R (some (.int (0 + i * 3),.sh [])) s4)=some (.nx (rR ns es t1 R (some (.int (0 + i * 3),.sh [])) (some (dE E,.own)))):=fun tv v1=>by
  have v0:eVar 0 (rR ns es t1 R (some (.int (0 + i * 3),.sh [])) s4)=some (dI ns,.sh []):=rfl
  have v3:eVar 3 (rR ns es t1 R (some (.int (0 + i * 3),.sh [])) s4)=some (.int (0 + i * 3),.sh []):=rfl
  have p1:eCall F_L_draw (aCons (eVar 0) (aCons (eVar 3) (aCons (eC (.int 10141)) (aCons (eC (.int 7)) aNil)))) (rR ns es t1 R (some (.int (0 + i * 3),.sh [])) s4)=some (.int n,.own):=by
   show (F_L_draw [dI ns,.int (0 + i * 3),.int 10141,.int 7]).map _=_
   rw [d1];rfl
  rw [s_set,s_call,s_aCons,s_aCons,s_aCons,s_aCons,p1,v0,v1,v3,s_aNil,s_consK,s_consK,s_consK,s_consK,s_bind]
  simp only [List.map_cons,List.map_nil]
  rw [h1];rfl
 have q1:=go (tagOf 1 t1) rfl
 have q2:sAppN 2 4 (rR ns es t1 R (some (.int (0 + i * 3),.sh [])) (some (dE E,.own)))=some (.nx (rR ns es t1 (R++[E]) (some (.int (0 + i * 3),.sh [])) (some (dE E,.sh [2])))):=by
  show (if 2≠4∧(R.map dE).length < sizeLine then some (Out.nx (moveS (rR ns es t1 R (some (.int (0 + i * 3),.sh [])) (some (dE E,.own))) 2 4 (.lst (R.map dE++[dE E])) (dE E))) else none)=_
  rw [if_pos ⟨by decide,by rw [List.length_map];exact size_nat hR⟩]
  unfold rR
  rw [List.map_append,List.map_cons,List.map_nil]
  rcases ht with rfl | rfl <;> rfl
 have q3:sSet 1 (eCall F_L_did (aCons (eVar 1) (aCons (eVar 4) aNil))) (rR ns es t1 (R++[E]) (some (.int (0 + i * 3),.sh [])) (some (dE E,.sh [2])))=some (.nx (rR ns (puts es E) .own (R++[E]) (some (.int (0 + i * 3),.sh [])) (some (dE E,.sh [2])))):=by
  rw [s_set]
  show setK 1 _ ((F_L_did [dKV es,dE E]).map _)=_
  rw [d2];rfl
 unfold bR
 rw [s_seq,q1,s_seqN,s_seq,q2,s_seqN,q3]
theorem r_loop {ns:List Int}:∀ {l:List Nat}{es:List (Int×Int)}{t1:Tag}{A:List (List Ed)}{s3 s4:Slot},Tg t1→St ns es→(∀ i∈l,i < 20)→A.length + l.length≤63 →
  ∃ R t1' t3 t4,Row ns es R∧A.length + R.length≤63∧loopF (gN 3) (.sh []) bR (l.map fun n:Nat=>D.int (0 + n * 3)) (rR ns es t1 A s3 s4)=some (.nx (rR ns (fin es R) t1' (A++R) t3 t4))
 | [],es,t1,A,s3,s4,ht,h,_,hl=>⟨[],t1,s3,s4,trivial,hl,by rw [List.append_nil];rfl⟩
 | i::l,es,t1,A,s3,s4,ht,h,hi,hl=>by
  rw [List.length_cons] at hl
  obtain ⟨E,a,b,c⟩:=r_step (R:=A) (s4:=s4) ht h (hi i List.mem_cons_self) (by omega)
  obtain ⟨R,t1',t3,t4,r1,r2,r3⟩:=r_loop (l:=l) (A:=A++[E]) (s3:=some (.int (0 + i * 3),.sh [])) (s4:=some (dE E,.sh [2])) (.inl rfl) b (fun j m=>hi j (List.mem_cons_of_mem _ m)) (by rw [List.length_append,List.length_singleton];omega)
  refine ⟨E::R,t1',t3,t4,⟨a,b,r1⟩,by rw [List.length_append,List.length_singleton] at r2;rw [List.length_cons];omega,?_⟩
  rw [List.map_cons,loop_c (ρ1:=rR ns es t1 A (some (.int (0 + i * 3),.sh [])) s4) rfl c,r3,List.append_assoc];rfl
theorem f_row {ns:List Int}{es:List (Int×Int)} (h:St ns es) (hn:ns.length≤63):∃ R,Row ns es R∧R.length≤63∧F_L_row [dI ns,dKV es]=some (.lst (R.map dE)):=by
 obtain ⟨m,hm,hle⟩:∃ m:Nat,(if (ns.length:Int) < 60 then (ns.length:Int) else 60)=(m:Int)∧m≤60:=by
  by_cases h:(ns.length:Int) < 60
  ·exact ⟨ns.length,by rw [if_pos h],by omega⟩
  ·exact ⟨60,by rw [if_neg h];rfl,Nat.le_refl _⟩
 have hs:Builtin.Range.small 0 m 3=true:=by
  have hz:∀ m:Nat,m≤60→Builtin.Range.small 0 (m:Int) 3=true:=by decide +kernel
  exact hz m hle
 have hz:(Builtin.Range.rangeSize 0 m 3).toNat≤20:=by
  unfold Builtin.Range.rangeSize
  rw [if_pos (by omega)]
  split <;> omega
 have hit:iR3 (eC (.int 0)) (e2 oMin2 (eC (.int 60)) (e1 oLen (eVar 0))) 3 (rR ns es (.sh []) [] none none)=some ((List.range (Builtin.Range.rangeSize 0 m 3).toNat).map fun n:Nat=>D.int (0 + n * 3),.own):=by
  have e:e2 oMin2 (eC (.int 60)) (e1 oLen (eVar 0)) (rR ns es (.sh []) [] none none)=some (.int m,.own):=by
   show some (D.int (if ((ns.map D.int).length:Int) < 60 then ((ns.map D.int).length:Int) else 60),Tag.own)=_
   rw [List.length_map,hm]
  unfold iR3
  rw [s_eC,e]
  show (if (decide ((3:Int)≠0)&&decide ((3:Int).natAbs < 1073741824)&&Builtin.Range.small 0 m 3)=true then _ else none)=_
  rw [hs];rfl
 obtain ⟨R,t1,t3,t4,r1,r2,r3⟩:=r_loop (l:=List.range (Builtin.Range.rangeSize 0 m 3).toNat) (t1:=.sh []) (A:=[]) (s3:=none) (s4:=none) (.inr rfl) h (fun i mi=>by have:=List.mem_range.mp mi;omega) (by rw [List.length_range,List.length_nil];omega)
 rw [List.length_nil,Nat.zero_add] at r2
 refine ⟨R,r1,r2,runF_rt rfl ?_⟩
 show B_L_row [some (dI ns,.sh []),some (dKV es,.sh []),none,none,none]=_
 have a1:sSet 2 (eLst aNil) [some (dI ns,.sh []),some (dKV es,.sh []),none,none,none]=some (.nx (rR ns es (.sh []) [] none none)):=rfl
 have a2:=for_nx0 (g:=gN 3) (f:=bR) hit r3
 unfold B_L_row
 rw [s_seq,a1,s_seqN,s_seq,a2,s_seqN,List.nil_append]
 rfl
def rL (ns:List Int) (v S:List (Int×Int)) (R:List (List Ed)) (t3:Tag) (la:List (Int×Int)) (F:List Ed) (s6 s7 s8:Slot):Rho:=
 [some (dI ns,.sh []),some (dKV v,.own),some (dS S,.own),some (.lst (R.map dE),t3),some (dS la,.own),some (dE F,.own),s6,s7,s8]
abbrev b1:SF:=sSeq (sSet 4 (eCall F_edited (aCons (eVar 4) (aCons (eVar 6) aNil)))) (sSet 5 (eCall F_joined (aCons (eVar 5) (aCons (eVar 6) aNil))))
theorem loop1 {ns:List Int}{v S e0:List (Int×Int)}{RR:List (List Ed)}{s7 s8:Slot} (h0:St ns e0):∀ {R:List (List Ed)}{es:List (Int×Int)}{F:List Ed}{s6:Slot},Row ns es R→St ns es→IsD (gV e0) (gV es) F →
  ∃ F' t6,IsD (gV e0) (gV (fin es R)) F'∧loopF (gN 6) (.sh [3]) b1 (R.map dE) (rL ns v S RR .lk (nz es) F s6 s7 s8)=some (.nx (rL ns v S RR .lk (nz (fin es R)) F' t6 s7 s8))
 | [],es,F,s6,_,h,hF=>⟨F,s6,hF,rfl⟩
 | E::R,es,F,s6,⟨a,b,c⟩,h,hF=>by
  obtain ⟨F',t6,i1,i2⟩:=loop1 (v:=v) (S:=S) (RR:=RR) (s7:=s7) (s8:=s8) h0 (R:=R) (es:=puts es E) (F:=jn F E) (s6:=some (dE E,.sh [3])) c b (isD_jn hF a)
  refine ⟨F',t6,i1,?_⟩
  have q1:sSet 4 (eCall F_edited (aCons (eVar 4) (aCons (eVar 6) aNil))) (rL ns v S RR .lk (nz es) F (some (dE E,.sh [3])) s7 s8)=some (.nx (rL ns v S RR .lk (nz (puts es E)) F (some (dE E,.sh [3])) s7 s8)):=by
   rw [s_set]
   show setK 4 _ ((F_edited [dS (nz es),.lst (E.map dT)]).map _)=_
   rw [f_ed seqL h b a];rfl
  have q2:sSet 5 (eCall F_joined (aCons (eVar 5) (aCons (eVar 6) aNil))) (rL ns v S RR .lk (nz (puts es E)) F (some (dE E,.sh [3])) s7 s8)=some (.nx (rL ns v S RR .lk (nz (puts es E)) (jn F E) (some (dE E,.sh [3])) s7 s8)):=by
   rw [s_set]
   show setK 5 _ ((F_joined [.lst (F.map dT),.lst (E.map dT)]).map _)=_
   rw [f_jn h0.nice h.nice seqL seqL b.nice hF a];rfl
  rw [List.map_cons,loop_c (ρ1:=rL ns v S RR .lk (nz es) F (some (dE E,.sh [3])) s7 s8) (ρ2:=rL ns v S RR .lk (nz (puts es E)) (jn F E) (some (dE E,.sh [3])) s7 s8) rfl (by unfold b1;rw [s_seq,q1,s_seqN,q2]),i2];rfl
def Bk (ns:List Int) (f0:Int→Int):(Int→Int)→List (List Ed)→Prop
 | f,[]=>f=f0
 | f,E::L=>∃ g,IsD g f E∧Nice ns g∧Bk ns f0 g L
theorem bk_snoc {ns:List Int}{f0 f1:Int→Int}{E:List Ed} (hE:IsD f0 f1 E) (h0:Nice ns f0):∀ {L:List (List Ed)}{f:Int→Int},Bk ns f1 f L→Bk ns f0 f (L++[E])
 | [],f,h=>by cases h;exact ⟨f0,hE,h0,rfl⟩
 | X::L,f,⟨g,a,b,c⟩=>⟨g,a,b,bk_snoc hE h0 c⟩
theorem row_bk {ns:List Int}:∀ {R:List (List Ed)}{es:List (Int×Int)},Row ns es R→St ns es→Bk ns (gV es) (gV (fin es R)) R.reverse
 | [],es,_,_=>rfl
 | E::R,es,⟨a,b,c⟩,h=>by
  rw [List.reverse_cons]
  exact bk_snoc a h.nice (row_bk c b)
abbrev b2:SF:=sSet 7 (eCall F_joined (aCons (eVar 6) (aCons (eVar 7) aNil)))
theorem loop2 {ns:List Int}{v S la:List (Int×Int)}{RR:List (List Ed)}{F:List Ed}{s8:Slot}{f0 h:Int→Int} (hh:Nice ns h):∀ {L:List (List Ed)}{f:Int→Int}{B:List Ed}{s6:Slot},Bk ns f0 f L→Nice ns f→IsD f h B →
  ∃ B' t6,IsD f0 h B'∧loopF (gN 6) (.sh [3]) b2 (L.map dE) (rL ns v S RR .lk la F s6 (some (dE B,.own)) s8)=some (.nx (rL ns v S RR .lk la F t6 (some (dE B',.own)) s8))
 | [],f,B,s6,e,_,hB=>⟨B,s6,by cases e;exact hB,rfl⟩
 | E::L,f,B,s6,⟨g,a,b,c⟩,hf,hB=>by
  obtain ⟨B',t6,i1,i2⟩:=loop2 (v:=v) (S:=S) (la:=la) (RR:=RR) (F:=F) (s8:=s8) (f0:=f0) hh (L:=L) (f:=g) (B:=jn E B) (s6:=some (dE E,.sh [3])) c b (isD_jn a hB)
  refine ⟨B',t6,i1,?_⟩
  have q1:b2 (rL ns v S RR .lk la F (some (dE E,.sh [3])) (some (dE B,.own)) s8)=some (.nx (rL ns v S RR .lk la F (some (dE E,.sh [3])) (some (dE (jn E B),.own)) s8)):=by
   unfold b2
   rw [s_set]
   show setK 7 _ ((F_joined [.lst (E.map dT),.lst (B.map dT)]).map _)=_
   rw [f_jn b hf seqL seqL hh a hB];rfl
  rw [List.map_cons,loop_c (ρ1:=rL ns v S RR .lk la F (some (dE E,.sh [3])) (some (dE B,.own)) s8) rfl q1,i2]
abbrev b3:SF:=sSet 1 (eCall F_L_did (aCons (eVar 1) (aCons (eVar 6) aNil)))
theorem loop3 {ns:List Int}{S la:List (Int×Int)}{RR:List (List Ed)}{F:List Ed}{s7 s8:Slot}:∀ {R:List (List Ed)}{es:List (Int×Int)}{s6:Slot},Row ns es R→St ns es →
  ∃ t6,loopF (gN 6) (.sh [3]) b3 (R.map dE) (rL ns es S RR .lk la F s6 s7 s8)=some (.nx (rL ns (fin es R) S RR .lk la F t6 s7 s8))
 | [],es,s6,_,_=>⟨s6,rfl⟩
 | E::R,es,s6,⟨a,b,c⟩,h=>by
  obtain ⟨t6,i2⟩:=loop3 (S:=S) (la:=la) (RR:=RR) (F:=F) (s7:=s7) (s8:=s8) (R:=R) (s6:=some (dE E,.sh [3])) c b
  refine ⟨t6,?_⟩
  have q1:b3 (rL ns es S RR .lk la F (some (dE E,.sh [3])) s7 s8)=some (.nx (rL ns (puts es E) S RR .lk la F (some (dE E,.sh [3])) s7 s8)):=by
   unfold b3
   rw [s_set]
   show setK 1 _ ((F_L_did [dKV es,dE E]).map _)=_
   rw [f_did (by have:=h.len;have:=isD_len h.nice b.nice a;omega)];rfl
  rw [List.map_cons,loop_c (ρ1:=rL ns es S RR .lk la F (some (dE E,.sh [3])) s7 s8) rfl q1,i2];rfl
theorem for3 {it:IF}{g:GF}{f:SF}{ρ ρ1 ρ2 ρ':Rho}{ds:List D} (hi:it ρ=some (ds,.sh [3])) (hl:lockS (ownsIn [3] ρ) ρ=ρ1) (h:loopF g (.sh [3]) f ds ρ1=some (.nx ρ2)) (hu:unlockS (ownsIn [3] ρ) ρ2=ρ'):sFor it g f ρ=some (.nx ρ'):=by
 subst hl hu
 exact for_nx (t:=.sh [3]) hi h
theorem rp3 {ns:List Int}{f g:Int→Int}{E:List Ed}{a:EF}{ρ:Rho}{t:Tag} (hf:Nice ns f) (hg:Nice ns g) (hE:IsD f g E) (ha:a ρ=some (dE E,t)):e1 oRepr a ρ=some (.str (py (dE E)).shown,.own):=by
 rw [s_e1,ha]
 show (oRepr (dE E)).map _=_
 rw [s_repr (isD_shw hf hg hE) (dep_lst _)];rfl
theorem rp2 {ns:List Int}{es:List (Int×Int)}{a:EF}{ρ:Rho}{t:Tag} (h:St ns es) (ha:a ρ=some (dS (nz es),t)):e1 oRepr a ρ=some (.str (py (dS (nz es))).shown,.own):=by
 rw [s_e1,ha]
 show (oRepr (dS (nz es))).map _=_
 rw [s_repr h.shw (dep_lst _)];rfl
theorem neS {a b:EF}{ρ:Rho}{x:Str}{t t':Tag} (h1:a ρ=some (.str x,t)) (h2:b ρ=some (.str x,t')):tV (e2 oNe a b) ρ=some false:=by
 rw [s_tV,s_e2,h1,h2,s_k2,ne_str];rfl
theorem f_law {ns:List Int} (hn:ns.length≤63):F_law [dI ns]=some (.bl true):=by
 refine runF_rt rfl ?_
 show B_law [some (dI ns,.sh []),none,none,none,none,none,none,none,none]=_
 have d1:=f_draw (ns:=ns) (k:=2) (p:=10151) (m:=7) (by omega) (by omega) (by omega)
 have hd:=draw_lt (ns:=ns) (k:=2) (p:=10151) (m:=7) (by omega)
 obtain ⟨n,hm⟩:∃ n:Nat,draw ns 2 10151 7=n:=⟨(draw ns 2 10151 7).toNat,(Int.toNat_of_nonneg hd.1).symm⟩
 rw [hm] at d1 hd
 obtain ⟨es,v1,v2,v3⟩:=f_values (ns:=ns) (k:=40) (n:=n) (by omega) (by omega) (by omega)
 have h0:St ns es:=⟨v2.nd,v3,fun j w e=>by have:=v2.ps j w e;omega⟩
 have q1:sSet 1 (eCall F_L_values (aCons (eVar 0) (aCons (eC (.int 40)) (aCons (eCall F_L_draw (aCons (eVar 0) (aCons (eC (.int 2)) (aCons (eC (.int 10151)) (aCons (eC (.int 7)) aNil))))) aNil)))) [some (dI ns,.sh []),none,none,none,none,none,none,none,none]=some (.nx [some (dI ns,.sh []),some (dKV es,.own),none,none,none,none,none,none,none]):=by
  have v0:eVar 0 [some (dI ns,.sh []),none,none,none,none,none,none,none,none]=some (dI ns,.sh []):=rfl
  have p1:eCall F_L_draw (aCons (eVar 0) (aCons (eC (.int 2)) (aCons (eC (.int 10151)) (aCons (eC (.int 7)) aNil)))) [some (dI ns,.sh []),none,none,none,none,none,none,none,none]=some (.int n,.own):=by
   show (F_L_draw [dI ns,.int 2,.int 10151,.int 7]).map _=_
   rw [d1];rfl
  rw [s_set,s_call,s_aCons,s_aCons,s_aCons,p1,v0,s_eC,s_aNil,s_consK,s_consK,s_consK,s_bind]
  simp only [List.map_cons,List.map_nil]
  rw [v1];rfl
 have q2:sSet 2 (eCall F_L_sheet (aCons (eVar 1) aNil)) [some (dI ns,.sh []),some (dKV es,.own),none,none,none,none,none,none,none]=some (.nx [some (dI ns,.sh []),some (dKV es,.own),some (dS (nz es),.own),none,none,none,none,none,none]):=by
  rw [s_set]
  show setK 2 _ ((F_L_sheet [dKV es]).map _)=_
  rw [f_sheetG (by have:=h0.len;omega) fun k=>(h0.nice.bd k).1];rfl
 obtain ⟨R,r1,r2,r3⟩:=f_row h0 hn
 have q3:sSet 3 (eCall F_L_row (aCons (eVar 0) (aCons (eVar 1) aNil))) [some (dI ns,.sh []),some (dKV es,.own),some (dS (nz es),.own),none,none,none,none,none,none]=some (.nx [some (dI ns,.sh []),some (dKV es,.own),some (dS (nz es),.own),some (.lst (R.map dE),.own),none,none,none,none,none]):=by
  rw [s_set]
  show setK 3 _ ((F_L_row [dI ns,dKV es]).map _)=_
  rw [r3];rfl
 have q4:sSet 4 (e1 oList (eVar 2)) [some (dI ns,.sh []),some (dKV es,.own),some (dS (nz es),.own),some (.lst (R.map dE),.own),none,none,none,none,none]=some (.nx [some (dI ns,.sh []),some (dKV es,.own),some (dS (nz es),.own),some (.lst (R.map dE),.own),some (dS (nz es),.own),none,none,none,none]):=by
  rw [s_set,s_e1]
  show setK 4 _ ((oList (.lst ((nz es).map dP))).map _)=_
  rw [s_listP];rfl
 have q5:sSet 5 (eLst aNil) [some (dI ns,.sh []),some (dKV es,.own),some (dS (nz es),.own),some (.lst (R.map dE),.own),some (dS (nz es),.own),none,none,none,none]=some (.nx (rL ns es (nz es) R .own (nz es) [] none none none)):=rfl
 obtain ⟨F,t6,f1,f2⟩:=loop1 (v:=es) (S:=nz es) (RR:=R) (s7:=none) (s8:=none) (s6:=none) h0 r1 h0 (IsD.nil _)
 have hz:=st_fin h0 r1
 generalize hfz:fin es R=z at *
 have q6:sFor (iSeqF (eVar 3)) (gN 6) b1 (rL ns es (nz es) R .own (nz es) [] none none none)=some (.nx (rL ns es (nz es) R .own (nz z) F t6 none none)):=for3 rfl rfl f2 rfl
 have q7:sSet 7 (eLst aNil) (rL ns es (nz es) R .own (nz z) F t6 none none)=some (.nx (rL ns es (nz es) R .own (nz z) F t6 (some (dE [],.own)) none)):=rfl
 have hb:=row_bk r1 h0
 rw [hfz] at hb
 obtain ⟨B,u6,g1,g2⟩:=loop2 (v:=es) (S:=nz es) (la:=nz z) (RR:=R) (F:=F) (s8:=none) (s6:=t6) hz.nice hb hz.nice (IsD.nil _)
 have q8:sFor (iRevF (eVar 3)) (gN 6) b2 (rL ns es (nz es) R .own (nz z) F t6 (some (dE [],.own)) none)=some (.nx (rL ns es (nz es) R .own (nz z) F u6 (some (dE B,.own)) none)):=for3 (by show some ((R.map dE).reverse,Tag.sh [3])=_;rw [← List.map_reverse]) rfl g2 rfl
 have eB:B=F:=g1.uniq f1
 subst eB
 have hbt:IsD (gV es) (gV z) (btw (dictI (nz es)) (dictI (nz z))):=by
  have:=isD_btw (dictI (nz es)) (dictI (nz z))
  rw [show gV (dictI (nz es))=gV es from funext fun k=>getI_dnz h0.nd k,show gV (dictI (nz z))=gV z from funext fun k=>getI_dnz hz.nd k] at this
  exact this
 have eD:=hbt.uniq f1
 have ln:∀ {es:List (Int×Int)},St ns es→(dictI (nz es)).length≤63∧∀ k∈(dictI (nz es)).map (·.1),Sl ns k:=fun {es} h=>⟨by have:=dictI_len (nz es);have:=nz_len es;have:=h.len;omega,fun k m=>by
  obtain ⟨v,e⟩:=getI_key.mpr m
  rw [getI_dict (by rw [nz_keys];exact nzK_nodup h.nd)] at e
  have:=getI_key.mp ⟨v,e⟩
  rw [nz_keys] at this
  exact h.nice.sl k (nzK_mem.mp this)⟩
 have hbw:F_between [dS (nz es),dS (nz z)]=some (dE B):=by
  have:=f_between seqL seqL (ps:=nz es) (qs:=nz z) (by have:=(ln h0).1;omega) (by have:=(ln hz).1;omega) (by
   have:=few (ns:=ns) (l:=uni ((dictI (nz es)).map (·.1)) ((dictI (nz z)).map (·.1))) uni_nodup fun k m=>(uni_mem.mp m).elim ((ln h0).2 k) ((ln hz).2 k)
   omega)
  rw [eD] at this
  exact this
 have q9:sSet 8 (eCall F_between (aCons (eVar 2) (aCons (eVar 4) aNil))) (rL ns es (nz es) R .own (nz z) B u6 (some (dE B,.own)) none)=some (.nx (rL ns es (nz es) R .own (nz z) B u6 (some (dE B,.own)) (some (dE B,.own)))):=by
  rw [s_set]
  show setK 8 _ ((F_between [dS (nz es),dS (nz z)]).map _)=_
  rw [hbw];rfl
 have R3:=fun {a:EF}{ρ:Rho}{t:Tag} (ha:a ρ=some (dE B,t))=>rp3 h0.nice hz.nice f1 ha
 have q10:sIf (tOr2 (tV (e2 oNe (e1 oRepr (eVar 5)) (e1 oRepr (eVar 8)))) (tV (e2 oNe (e1 oRepr (eVar 7)) (e1 oRepr (eVar 8))))) (sRet (eC (.bl false))) sNx (rL ns es (nz es) R .own (nz z) B u6 (some (dE B,.own)) (some (dE B,.own)))=some (.nx (rL ns es (nz es) R .own (nz z) B u6 (some (dE B,.own)) (some (dE B,.own)))):=by
  rw [s_if,s_tOr,neS (R3 (a:=eVar 5) (t:=.sh [5]) rfl) (R3 (a:=eVar 8) (t:=.sh [8]) rfl),s_orKF,neS (R3 (a:=eVar 7) (t:=.sh [7]) rfl) (R3 (a:=eVar 8) (t:=.sh [8]) rfl),s_ifF];rfl
 obtain ⟨w6,k1⟩:=loop3 (S:=nz es) (la:=nz z) (RR:=R) (F:=B) (s7:=some (dE B,.own)) (s8:=some (dE B,.own)) (s6:=u6) r1 h0
 rw [hfz] at k1
 have q11:sFor (iSeqF (eVar 3)) (gN 6) b3 (rL ns es (nz es) R .own (nz z) B u6 (some (dE B,.own)) (some (dE B,.own)))=some (.nx (rL ns z (nz es) R .own (nz z) B w6 (some (dE B,.own)) (some (dE B,.own)))):=for3 rfl rfl k1 rfl
 have p1:eCall F_L_sheet (aCons (eVar 1) aNil) (rL ns z (nz es) R .own (nz z) B w6 (some (dE B,.own)) (some (dE B,.own)))=some (dS (nz z),.own):=by
  show (F_L_sheet [dKV z]).map _=_
  rw [f_sheetG (by have:=hz.len;omega) fun k=>(hz.nice.bd k).1];rfl
 have p2:eCall F_edited (aCons (eVar 2) (aCons (eVar 5) aNil)) (rL ns z (nz es) R .own (nz z) B w6 (some (dE B,.own)) (some (dE B,.own)))=some (dS (nz z),.own):=by
  show (F_edited [dS (nz es),.lst (B.map dT)]).map _=_
  rw [f_ed seqL h0 hz f1];rfl
 have p3:eCall F_way_back (aCons (eVar 5) aNil) (rL ns z (nz es) R .own (nz z) B w6 (some (dE B,.own)) (some (dE B,.own)))=some (dE (B.map sw),.own):=by
  show (F_way_back [.lst (B.map dT)]).map _=_
  rw [f_back seqL (by have:=isD_len h0.nice hz.nice f1;omega)];rfl
 have p4:eCall F_edited (aCons (eVar 4) (aCons (eCall F_way_back (aCons (eVar 5) aNil)) aNil)) (rL ns z (nz es) R .own (nz z) B w6 (some (dE B,.own)) (some (dE B,.own)))=some (dS (nz es),.own):=by
  have v4:eVar 4 (rL ns z (nz es) R .own (nz z) B w6 (some (dE B,.own)) (some (dE B,.own)))=some (dS (nz z),.sh [4]):=rfl
  rw [s_call,s_aCons,s_aCons,p3,v4,s_aNil,s_consK,s_consK,s_bind]
  show (F_edited [dS (nz z),.lst ((B.map sw).map dT)]).map _=_
  rw [f_ed seqL hz h0 (isD_sw f1)];rfl
 have q12:sIf (tOr2 (tV (e2 oNe (e1 oRepr (eVar 4)) (e1 oRepr (eCall F_L_sheet (aCons (eVar 1) aNil))))) (tV (e2 oNe (e1 oRepr (eCall F_edited (aCons (eVar 2) (aCons (eVar 5) aNil)))) (e1 oRepr (eVar 4))))) (sRet (eC (.bl false))) sNx (rL ns z (nz es) R .own (nz z) B w6 (some (dE B,.own)) (some (dE B,.own)))=some (.nx (rL ns z (nz es) R .own (nz z) B w6 (some (dE B,.own)) (some (dE B,.own)))):=by
  rw [s_if,s_tOr,neS (rp2 hz (a:=eVar 4) (t:=.sh [4]) rfl) (rp2 hz p1),s_orKF,neS (rp2 hz p2) (rp2 hz (a:=eVar 4) (t:=.sh [4]) rfl),s_ifF];rfl
 have q13:sRet (e2 oEq (e1 oRepr (eCall F_edited (aCons (eVar 4) (aCons (eCall F_way_back (aCons (eVar 5) aNil)) aNil)))) (e1 oRepr (eVar 2))) (rL ns z (nz es) R .own (nz z) B w6 (some (dE B,.own)) (some (dE B,.own)))=some (.rt (.bl true)):=by
  rw [s_ret,s_e2,rp2 h0 p4,rp2 h0 (a:=eVar 2) (t:=.sh [2]) rfl,s_k2,eq_str];rfl
 unfold B_law
 rw [s_seq,q1,s_seqN,s_seq,q2,s_seqN,s_seq,q3,s_seqN,s_seq,q4,s_seqN,s_seq,q5,s_seqN,s_seq,q6,s_seqN,s_seq,q7,s_seqN,s_seq,q8,s_seqN,s_seq,q9,s_seqN,s_seq,q10,s_seqN,s_seq,q11,s_seqN,s_seq,q12,s_seqN,q13]
end K07
namespace HT
open PySem PySem.W PyProof.Rows
def oddL:List Obj→List Obj
 | []=>[]
 | [a]=>[a]
 | a::_::l=>a::oddL l
def ofL:Nat→List Obj→BT
 | 0,_=>.nil
 | _ + 1,[]=>.nil
 | k + 1,o::l=>.node o (ofL k (oddL l)) (ofL k (oddL l.tail))
def runT (tb:String→Option Builtin) (p:Program) (w:World) (n₀:Nat) (ann:Option Value):Nat→SharedT→Thread→Option SharedT
 | 0,_,_=>none
 | k + 1,s,t=>match through t with
  | true=>some s
  | false=>match stepOk n₀ ann t with
   | false=>none
   | true=>match stepT (denote tb) p w s t with
    | none=>none
    | some (s',t')=>runT tb p w n₀ ann k s' t'
theorem runT_is {tb:String→Option Builtin}{p:Program}{w:World}{n₀:Nat}{ann:Option Value}:∀ {k:Nat}{s s':SharedT}{t:Thread},runT tb p w n₀ ann k s t=some s'→topRun tb p w n₀ ann k s.abs t=some s'.abs
 | 0,_,_,_,h=>by cases h
 | k + 1,s,s',t,h=>by
  unfold runT at h
  unfold topRun
  cases e:through t with
  | true=>rw [e] at h;cases h;rfl
  | false=>
   rw [e] at h
   cases o:stepOk n₀ ann t with
   | false=>rw [o] at h;cases h
   | true=>
    rw [o] at h
    cases g:stepT (denote tb) p w s t with
    | none=>rw [g] at h;cases h
    | some r=>obtain ⟨s2,t2⟩:=r;rw [g] at h;rw [stepT_spec g];exact runT_is h
noncomputable def bootT (P:Params):BT:=ofL 12 (boot_heap P).objs.toList
def bootN:Nat:=11
theorem boot_size (P:Params):(boot_heap P).objs.size=bootN:=by kernel_rfl
theorem boot_abs (P:Params):absHeap (bootT P) bootN (boot_heap P).life=boot_heap P:=by kernel_rfl
noncomputable def s0T (P:Params) (os:OsState):SharedT:=⟨bootT P,bootN,(boot_heap P).life,Array.mk [],boot_drawn,boot_toks,os⟩
theorem left_T {p q:Program}{loose:List Str}{Xt:Shared→Bool}{α:Type}{Yf:Shared→α}{Ya:World→α}{N:Nat}{ann:Option Value}
  (he:opening p=plainProg p.main.scope.names) (hf:∀ s,fenceModules? p s=some s) (hN:Nat.ble 600 N=true)
  (hz:∀ P:Params,((boot_heap P).isNs mainGlobals,(boot_heap P).nsMap mainGlobals "__annotations__")=(true,ann))
  (h:∀ (w:World) (os:OsState),(runT treeTable p w bootN ann N (s0T w.params os) (topStub p)).map (fun sT=>
    ((staticsOk (importedModules p.main.body) (boot_heap w.params) sT.abs.heap&&namesBound p sT.abs.heap&&gensDone sT.abs&&laidKept (boot_heap w.params) sT.abs.heap),openSeen q loose (importedModules p.main.body) Xt true sT.abs,Yf sT.abs))=some (true,openGood q loose,Ya w)) :
  LeftO p q loose Xt Yf Ya N:=fun w=>by
 obtain ⟨⟨hh,gs,d,k,os⟩,e,e'⟩:=Option.map_eq_some_iff.mp (boot_open he hN hf w)
 obtain ⟨rfl,rfl,rfl,rfl⟩:hh=boot_heap w.params∧gs=Array.mk []∧d=boot_drawn∧k=boot_toks:=by simpa using e'
 obtain ⟨z1,z2⟩:_∧_:=by simpa only [Prod.mk.injEq] using hz w.params
 obtain ⟨sT,r,l⟩:=Option.map_eq_some_iff.mp (h w os)
 obtain ⟨l1,l2,l3⟩:_∧_∧_:=by simpa only [Prod.mk.injEq] using l
 have r':=runT_is r
 have ab:(s0T w.params os).abs=⟨boot_heap w.params,Array.mk [],boot_drawn,boot_toks,os⟩:=by
  show Shared.mk (absHeap (bootT w.params) bootN (boot_heap w.params).life) _ _ _ _=_
  rw [boot_abs];rfl
 rw [ab] at r'
 have t:topFrom treeTable p w N ⟨boot_heap w.params,Array.mk [],boot_drawn,boot_toks,os⟩=some sT.abs:=by
  unfold topFrom
  dsimp only
  rw [z1,z2,boot_size,r']
  show (match staticsOk (importedModules p.main.body) (boot_heap w.params) sT.abs.heap&&namesBound p sT.abs.heap&&gensDone sT.abs&&laidKept (boot_heap w.params) sT.abs.heap with | true=>_ | false=>_)=_
  rw [l1]
 unfold openEnds
 rw [e]
 show (topFrom treeTable p w N _).map _=_
 rw [t]
 exact congrArg some (Prod.ext l2 l3)
end HT
namespace K07
open PySem L2 L2.Ev
local macro_rules | `(tactic| walk_at "ba1")=>`(tactic| exact fun _ _ _ _ _ _ us hl=>match us,hl with | [_],_=>rfl)
local macro_rules | `(tactic| walk_at "ba2")=>`(tactic| exact fun _ _ _ _ _ _ us hl=>match us,hl with | [_,_],_=>rfl)
local macro_rules | `(tactic| walk_at "ba3")=>`(tactic| exact fun _ _ _ _ _ _ us hl=>match us,hl with | [_,_,_],_=>rfl)
local macro_rules | `(tactic| walk_at "ba4")=>`(tactic| exact fun _ _ _ _ _ _ us hl=>match us,hl with | [_,_,_,_],_=>rfl)
theorem all_mk {l:PySem.W.OpenLaw}{w:World}{K:PySem.W.Frag}{h:Heap}{mg:Str→Option Value}{fa:Addr} (X:K.In h) (G:h.Ns mainGlobals mg) (hfa:mg "law"=some (.ref fa))
  (l0:GFn K "_law_draw" s_L_draw)
  (l1:GFn K "_law_slot" s_L_slot)
  (l2:GFn K "_law_value" s_L_value)
  (l3:GFn K "_law_values" s_L_values)
  (l4:GFn K "_law_sheet" s_L_sheet)
  (l5:GFn K "_law_new" s_L_new)
  (l6:GFn K "_law_edits" s_L_edits)
  (l7:GFn K "_law_did" s_L_did)
  (l8:GFn K "_law_row" s_L_row)
  (l9:GFn K "misfit" s_misfit)
  (l10:GFn K "sheet_of_values" s_sheet_of_values)
  (l11:GFn K "edited_in_turn" s_edited_in_turn)
  (l12:GFn K "edited" s_edited)
  (l13:GFn K "by_slot" s_by_slot)
  (l14:GFn K "joined_at" s_joined_at)
  (l15:GFn K "joined" s_joined)
  (l16:GFn K "between" s_between)
  (l17:GFn K "way_back" s_way_back)
  (l18:GFn K "law" s_law)
  (z_dict:PySem.W.nsIn K mainGlobals "dict"=some none)
  (z_len:PySem.W.nsIn K mainGlobals "len"=some none)
  (z_list:PySem.W.nsIn K mainGlobals "list"=some none)
  (z_min:PySem.W.nsIn K mainGlobals "min"=some none)
  (z_range:PySem.W.nsIn K mainGlobals "range"=some none)
  (z_repr:PySem.W.nsIn K mainGlobals "repr"=some none)
  (z_reversed:PySem.W.nsIn K mainGlobals "reversed"=some none)
  (z_set:PySem.W.nsIn K mainGlobals "set"=some none)
  (z_sorted:PySem.W.nsIn K mainGlobals "sorted"=some none)
  : ∃ fd:FuncData,(∀ (s:Shared) (v:Value),BindsTo s fd ⟨[v],[]⟩ [("_law_script",v)])∧∀ base:Heap,K.In base→base.Ns mainGlobals mg→FnOk l.prog w K mg base CX0 6 fa fd ["_law_script"] (spF K F_law):=by
 have g_dict:=PySem.W.mg_none_of X G z_dict
 have g_len:=PySem.W.mg_none_of X G z_len
 have g_list:=PySem.W.mg_none_of X G z_list
 have g_min:=PySem.W.mg_none_of X G z_min
 have g_range:=PySem.W.mg_none_of X G z_range
 have g_repr:=PySem.W.mg_none_of X G z_repr
 have g_reversed:=PySem.W.mg_none_of X G z_reversed
 have g_set:=PySem.W.mg_none_of X G z_set
 have g_sorted:=PySem.W.mg_none_of X G z_sorted
 refine lawW (sp:=fun _=>spF K F_law) X G hfa l18 (fun _ _ _ _ _ _ _ _=>.of_eq rfl) fun base _ _ _ _ F=>?_
 have W0:=fnW X G l0 (fun F=>ok_L_draw (P:=l.prog) (w:=w) (mg:=mg) (base:=base) g_len F) (by walk_at "ba4")
 have W1:=fnW X G l1 (fun F=>ok_L_slot (P:=l.prog) (w:=w) (mg:=mg) (base:=base) W0 F) (by walk_at "ba2")
 have W2:=fnW X G l2 (fun F=>ok_L_value (P:=l.prog) (w:=w) (mg:=mg) (base:=base) g_len W0 F) (by walk_at "ba2")
 have W3:=fnW X G l3 (fun F=>ok_L_values (P:=l.prog) (w:=w) (mg:=mg) (base:=base) g_range W1 W2 F) (by walk_at "ba3")
 have W4:=fnW X G l4 (fun F=>ok_L_sheet (P:=l.prog) (w:=w) (mg:=mg) (base:=base) g_sorted F) (by walk_at "ba1")
 have W5:=fnW X G l5 (fun F=>ok_L_new (P:=l.prog) (w:=w) (mg:=mg) (base:=base) W2 W0 F) (by walk_at "ba3")
 have W6:=fnW X G l6 (fun F=>ok_L_edits (P:=l.prog) (w:=w) (mg:=mg) (base:=base) g_len g_range g_sorted W1 W0 W5 F) (by walk_at "ba4")
 have W7:=fnW X G l7 (fun F=>ok_L_did (P:=l.prog) (w:=w) (mg:=mg) (base:=base) g_dict F) (by walk_at "ba2")
 have W8:=fnW X G l8 (fun F=>ok_L_row (P:=l.prog) (w:=w) (mg:=mg) (base:=base) g_len g_min g_range W6 W0 W7 F) (by walk_at "ba2")
 have W9:=fnW X G l9 (fun F=>ok_misfit (P:=l.prog) (w:=w) (mg:=mg) (base:=base) g_min F) (by walk_at "ba2")
 have W10:=fnW X G l10 (fun F=>ok_sheet_of_values (P:=l.prog) (w:=w) (mg:=mg) (base:=base) g_sorted F) (by walk_at "ba1")
 have W11:=fnW X G l11 (fun F=>ok_edited_in_turn (P:=l.prog) (w:=w) (mg:=mg) (base:=base) g_dict W9 W10 F) (by walk_at "ba2")
 have W12:=fnW X G l12 (fun F=>ok_edited (P:=l.prog) (w:=w) (mg:=mg) (base:=base) W11 F) (by walk_at "ba2")
 have W13:=fnW X G l13 (fun F=>ok_by_slot (P:=l.prog) (w:=w) (mg:=mg) (base:=base) g_dict F) (by walk_at "ba1")
 have W14:=fnW X G l14 (fun F=>ok_joined_at (P:=l.prog) (w:=w) (mg:=mg) (base:=base) F) (by walk_at "ba2")
 have W15:=fnW X G l15 (fun F=>ok_joined (P:=l.prog) (w:=w) (mg:=mg) (base:=base) g_set g_sorted W13 W14 F) (by walk_at "ba2")
 have W16:=fnW X G l16 (fun F=>ok_between (P:=l.prog) (w:=w) (mg:=mg) (base:=base) g_dict g_set g_sorted F) (by walk_at "ba2")
 have W17:=fnW X G l17 (fun F=>ok_way_back (P:=l.prog) (w:=w) (mg:=mg) (base:=base) F) (by walk_at "ba1")
 exact ok_law g_list g_repr g_reversed W3 W0 W4 W8 W12 W15 W16 W7 W17 F
theorem walk {l:PySem.W.OpenLaw}{q:Program}{loose:List Str}{XP:(Str→Option Value)→Heap→Prop}{YP:World→Heap→Prop}{d:DefRec}{K:Params→PySem.W.Frag} (hn:l.most=some 63) (hdf:d.params.defaults=[])
  (hY:∀ (w:World) (h:Heap),YP w h→(K w.params).In h)
  (F:∀ (w:World) (mg:Str→Option Value) (fa:Addr) (h:Heap),(K w.params).In h→h.Ns mainGlobals mg→mg d.name=some (.ref fa) →
   ∃ fd:FuncData,(∀ (s:Shared) (u:Value),BindsTo s fd ⟨[u],[]⟩ [("_law_script",u)])∧∀ base:Heap,(K w.params).In base→base.Ns mainGlobals mg→FnOk l.prog w (K w.params) mg base CX0 6 fa fd ["_law_script"] (spF (K w.params) F_law)) :
  PySem.W.WalkO q loose XP YP l.row.toRowW d [] (fun f vs=>PySem.call f vs):=
 L2.walk_of (n:=63) (k:=6) (x:="_law_script") (CX:=fun _=>CX0) (sp:=fun w=>spF (K w.params) F_law) hn (by decide) hdf ⟨fun _=>rfl,by decide,by decide,rfl⟩ hY F (fun w H a ns hl hO hS=>by
  have hz:Frz (K w.params) H a (ns.map V.int):=by
   rcases hS with (h | h) | h
   ·rcases hO a with z | ⟨o,xs,z⟩ <;> rw [z] at h <;> cases h
   ·exact .inl h
   ·exact .inr h
  refine ⟨[dI ns],[]++[],.bl true,.cons (.lsf hz (reps_ints ns)) .nil,f_law hl,fun H' v fp' _ r _ _=>?_⟩
  cases r
  rfl) fun _ _ _ _ _ z=>z
end K07
namespace K07
open PySem PySem.W PyProof.Rows
def isNm:Stmt→Bool
 | .Assign [.Name x _] _ _=>x == "__name__"
 | _=>false
def vw:Program:={ PySem.Challenge.pw_linegate_k07_whole_rows_of_edits with main:={ (PySem.Challenge.pw_linegate_k07_whole_rows_of_edits).main with body:=(PySem.Challenge.pw_linegate_k07_whole_rows_of_edits).main.body.filter fun s=>!isNm s } }
def xt (s:Shared):Bool:=xlAt vw [] s&&recOk (RowW.records (OpenRow.toRowW (OpenLaw.row PySem.Challenge.rw_linegate_k07_whole_rows_of_edits))) s
theorem xt1 (s:Shared) (e:xt s=true):XL vw [] (s.heap.nsMap mainGlobals) s.heap:=xl_of s (Bool.and_eq_true_iff.mp e).1
theorem xt2 (s:Shared) (e:xt s=true):RecFacts (RowW.records (OpenRow.toRowW (OpenLaw.row PySem.Challenge.rw_linegate_k07_whole_rows_of_edits))) s.heap:=recFacts_of (Bool.and_eq_true_iff.mp e).2
end K07
open PySem PySem.W PyProof.Rows
local macro_rules | `(tactic| o_head $H)=>`(tactic| (refine PySem.W.holds_open (q:=K07.vw) (loose:=[]) (N:=20000) (Xt:=K07.xt) (XP:=XL K07.vw []) (Yf:=Hook.obs $H) (Ya:=Hook.val $H) (YP:=Hook.says $H) ?hl (Hook.of $H) (Hook.keeps $H) K07.xt1 XL.keeps (by rfl) (by rfl) (by rfl) K07.xt2 (by rfl) (by assumption) (by decide +kernel) ⟨rfl,rfl,rfl,rfl,rfl,by decide +kernel⟩ ?hw ?hc;(case hl=>exact HT.left_T (ann:=some (.ref 6)) (by rfl) (fun _=>rfl) (by decide) (fun _=>by kernel_rfl) fun w os=>by kernel_rfl);(case hw=>w_witness2)))
local macro_rules | `(tactic| walk_at "lkf")=>`(tactic| exact ⟨_,by k_is,_,_,_,_,_,_,_,_,_,by k_is,by k_is,by k_is⟩)
local macro_rules | `(tactic| walk_at "lkm")=>`(tactic| exact ⟨_,by k_is,by k_is,_,_,_,_,_,_,_,_,_,by k_is,by k_is,by k_is⟩)
set_option maxRecDepth 100000 in
set_option maxHeartbeats 0 in
theorem PySem.Challenge.cw_linegate_k07_whole_rows_of_edits_holds : PySem.Challenge.rw_linegate_k07_whole_rows_of_edits.Holds := by
 w_on;o_law;k_head
 k_fill
 refine K07.walk (l:=PySem.Challenge.rw_linegate_k07_whole_rows_of_edits) rfl rfl (fun w h Y=>PySem.W.kIn_of Y) ?F
 case F=>
  intro w mg fa h KX G hmg
  refine' K07.all_mk KX G hmg ?l0 ?l1 ?l2 ?l3 ?l4 ?l5 ?l6 ?l7 ?l8 ?l9 ?l10 ?l11 ?l12 ?l13 ?l14 ?l15 ?l16 ?l17 ?l18 ?z_dict ?z_len ?z_list ?z_min ?z_range ?z_repr ?z_reversed ?z_set ?z_sorted
  case l0 | l1 | l2 | l3 | l4 | l5 | l6 | l7 | l8 | l9 | l10 | l11 | l12 | l13 | l14 | l15 | l16 | l17 | l18=>walk_at "lkf"
  case z_dict | z_len | z_list | z_min | z_range | z_repr | z_reversed | z_set | z_sorted=>k_is
