import PyProof.Rows.All
import PyProof.RangeIter
import Wide.All
import OpenK.AllK
import Wide.FinOn
import Lean
import PyProof.EqAt
import PyProof.EqKinds
import PyProof.TupleCall
import PyProof.Rows.SortShell
import PyProof.RulesAs
import PyProof.NsDelKeeps
import PyProof.ReprRoads
import PyProof.ReprLen
import PyProof.Rows.FactsT3
import PyProof.NeData
import PyProof.ListRange
import PyProof.ZipIter
import PyProof.Rows.ZipGen
import PyProof.ConsumeWalk
import PyProof.Rows.RuleM_int
import PyProof.Rows.SeqGen
import PyProof.MinMaxWalk
import PyProof.WalkInts
import PyProof.SeqI3
import PyProof.Rows.SeqCalls
import PyProof.Rows.Range3
import PyProof.EnumIter
import PyProof.EnumFor
import PyProof.EnumMake
import PyProof.EnumStmt
import PyProof.MeetsSeq
import PyProof.Rows.RuleIs
import PySem.SetOps
import PyProof.SetKind
import PyProof.DictIter
import PyProof.FactsAll.set
import PyProof.CollectWalk
import PyProof.DictWalks
import PyProof.SeqWrite
import PyProof.Walk
import PyProof.Rows.SetFrom
import PyProof.ExcAttrAll.ValueError
import PyProof.ExcArgsOwn
import PyProof.Rows.CountFlat
import PyProof.CallFns
import PyProof.Conv_int_bool
import PyProof.Rows.RuleB_and
import Open.Seg
import Open.Fast
import Open.Tree
import Open.Boot
import PySem.Challenge.RW_linegate_k31_free_and_layable
set_option Elab.async false
set_option linter.all false
set_option maxRecDepth 100000
abbrev aaf:=@PySem.wpAny_bind
abbrev aaB:=@PySem.Heap.get?_push_of_some
abbrev aaF:=@List.mem_cons_self
abbrev aaH:=@List.map_cons
abbrev aaY:=@List.mem_cons_of_mem
abbrev aa1:=@PySem.wpAny_pure
abbrev aa8:=@List.mem_singleton
abbrev abh:=@List.mem_cons
abbrev abD:=@PySem.Heap.lt_size
abbrev abL:=@List.getElem?_eq_getElem
abbrev abU:=@PySem.Heap.get?_push_size
abbrev abW:=@Nat.le_refl
abbrev ab3:=@Bool.false_ne_true
abbrev ab5:=@decide_eq_true
abbrev acg:=@Array.length_toList
abbrev ack:=@List.size_toArray
abbrev aco:=@Option.some.inj
abbrev acr:=@Bool.and_eq_true
abbrev acE:=@PyProof.Rows.wpS_bind
abbrev acQ:=@List.mem_append_right
abbrev acS:=@List.length_cons
abbrev acU:=@Nat.ne_of_lt
abbrev acV:=@List.nodup_cons
abbrev acW:=@List.mem_append
abbrev acX:=@List.getElem?_map
abbrev acY:=@List.getElem?_eq_some_iff
abbrev acZ:=@List.length_append
abbrev ac0:=@PyProof.Rows.wpS_pure
abbrev ac1:=@List.nodup_nil
abbrev ac4:=@List.not_mem_nil
abbrev ac5:=@of_decide_eq_true
abbrev ac7:=@List.mem_append_left
abbrev ac9:=@PySem.Heap.get?_update_other
abbrev ada:=@decide_eq_false
abbrev adi:=@List.mem_map
abbrev adk:=@Option.bind_some
abbrev adl:=@Nat.lt_of_lt_of_le
abbrev adm:=@List.length_range
abbrev adn:=@List.map_nil
abbrev ado:=@PySem.Heap.get?_update_self
abbrev adq:=@PySem.wpAny_newObj_type
abbrev adv:=@List.nodup_append
abbrev adw:=@PySem.builtinLookup_eq_fast
abbrev adx:=@Nat.lt_irrefl
abbrev ady:=@List.append_nil
abbrev adA:=@PySem.Around.under_plainId
abbrev adB:=@PySem.wpAny_callSpecial?_slot
abbrev adC:=@List.getElem?_append_left
abbrev adD:=@Array.getElem?_eq_getElem
abbrev adE:=@PySem.wpAny_mono
abbrev adF:=@beq_eq_false_iff_ne
abbrev adG:=@List.map_append
abbrev adH:=@List.getElem?_set_ne
abbrev adI:=@PySem.wpAny_call_entry
abbrev adJ:=@List.append_assoc
abbrev adK:=@PySem.codeAny_builtin
abbrev adL:=@List.find?_cons
abbrev adM:=@Bool.false_eq_true
abbrev adN:=@Int.le_trans
abbrev adO:=@PySem.Obj.data_mapFields
abbrev adP:=@PySem.Heap.size_push
abbrev adQ:=@List.lookup_cons
abbrev adR:=@PyProof.Rows.callWith_type1
abbrev adS:=@List.map_map
abbrev adT:=@List.eq_nil_of_length_eq_zero
abbrev adU:=@List.drop_eq_getElem_cons
abbrev adV:=@Nat.lt_succ_of_lt
abbrev adW:=@PySem.wpAny_seqItems
abbrev adX:=@Nat.le_trans
abbrev adY:=@Nat.ne_of_gt
abbrev adZ:=@List.pairwise_append
abbrev ad0:=@List.mem_filter
abbrev ad1:=@List.filterMap_cons
abbrev ad2:=@Array.getElem?_toList
abbrev ad3:=@PyProof.Rows.wpS_forRange
abbrev ad4:=@PySem.typeLookup_type
abbrev ad5:=@List.foldl_cons
abbrev ad6:=@PyProof.Rows.wpS_mono
abbrev ad7:=@List.getElem?_append_right
abbrev ad8:=@Array.getElem?_eq_some_iff
abbrev ad9:=@List.getElem?_set_self
abbrev aea:=@PySem.wpAny_holding
abbrev aeb:=@Nat.lt_succ_self
abbrev aec:=@PySem.plainId_quiet
abbrev aed:=@Nat.zero_le
abbrev aee:=@PySem.wpAny_rule
abbrev aef:=@List.length_replicate
abbrev aeg:=@List.take_append_drop
abbrev aeh:=@List.getElem?_eq_none
abbrev aei:=@or_false
abbrev aej:=@Ne.symm
abbrev aek:=@PySem.wpAny_field
abbrev ael:=@PySem.wpAny_Call_Name_kw
abbrev aem:=@PySem.wpAny_isInstance
abbrev aen:=@Nat.le_of_lt
abbrev aeo:=@beq_self_eq_true
abbrev aep:=@List.all_eq_true
abbrev aeq:=@List.getD_eq_getElem?_getD
abbrev aer:=@List.take_of_length_le
abbrev aes:=@List.append_eq_nil_iff
abbrev aet:=@PySem.wpAny_truthy_bool
abbrev aeu:=@Int.toNat_natCast
abbrev aev:=@PySem.wpAny_setState_of
abbrev aew:=@Int.le_of_lt
abbrev aex:=@List.perm_append_comm
abbrev aey:=@Nat.zero_add
abbrev aez:=@List.cons.injEq
abbrev aeA:=@List.pairwise_cons
abbrev aeB:=@List.filterMap_map
abbrev aeC:=@Int.le_refl
abbrev aeD:=@List.getElem_mem
abbrev aeE:=@PySem.isSubtype_type
abbrev aeF:=@Array.toList_push
abbrev aeG:=@Array.toList_append
abbrev aeH:=@Array.size_push
abbrev aeI:=@Nat.min_eq_left
abbrev aeJ:=@PySem.wpAny_updateSeq
abbrev aeK:=@PySem.wpAny_ite_split
abbrev aeL:=@PySem.Heap.SameBut.update
abbrev aeM:=@Option.map_eq_some_iff
abbrev aeN:=@PySem.F.slot_tuple_iterator_next
abbrev aeO:=@List.length_take
abbrev aeP:=@PySem.F.plain_min_loop
abbrev aeQ:=@List.any_eq_true
abbrev aeR:=@PySem.wpAny_attempt
abbrev aeS:=@PySem.Calls.spliced_cons
abbrev aeT:=@PySem.wpAny_setField_rec
abbrev aeU:=@PySem.Obj.isFreed_of_fields
abbrev aeV:=@List.length_filter_le
abbrev aeW:=@List.pairwise_iff_getElem
abbrev aeX:=@PySem.wpAny_setField
abbrev aeY:=@List.length_set
abbrev aeZ:=@Bool.eq_false_iff
abbrev ae0:=@List.getElem?_replicate
abbrev ae1:=@List.getElem_of_mem
abbrev ae2:=@PySem.Calls.callWith_builtin
abbrev ae3:=@List.drop_eq_nil_of_le
abbrev ae4:=@Bool.eq_iff_iff
abbrev ae5:=@Nat.le_succ
abbrev ae6:=@PySem.wpAny_specialOf
abbrev ae7:=@List.getElem?_toArray
abbrev ae8:=@PySem.F.called_set
abbrev ae9:=@PySem.Calls.spliced_nil
abbrev afa:=@List.take_sublist
abbrev afb:=@if_false
abbrev afc:=@List.any_cons
abbrev afd:=@List.drop_sublist
abbrev afe:=@PySem.wpAny_pyIter_list
abbrev afg:=@decide_eq_true_eq
abbrev afh:=@Array.toList_extract
abbrev afi:=@PySem.wpAny_tryCatch
abbrev afj:=@List.mem_reverse
abbrev afk:=@PySem.wpAny_of_eq
abbrev afl:=@PySem.codeAny_mono
abbrev afm:=@PySem.wpAny_typeOf
abbrev afn:=@PySem.wpAny_passesOwn
abbrev afo:=@Bool.or_eq_true
abbrev afp:=@if_true
abbrev afq:=@List.reverse_cons
abbrev afr:=@PySem.call_meets
abbrev afs:=@List.getElem_drop
abbrev aft:=@Array.size_append
abbrev afu:=@List.ext_getElem?
abbrev afv:=@PySem.wpAny_letGo
abbrev afw:=@List.mem_range
abbrev afx:=@List.any_map
abbrev afy:=@beq_iff_eq
set_option autoImplicit true
namespace L2
open PySem PySem.Spec
theorem Px:entryFor table "proto.unchain"=some Builtin.«proto.unchain»:=entryFor_of_tree (by kernel_rfl)
theorem Pn{α:Type}{Q:α->Shared->Prop}(hh:A.handled=some (.ref h))(he:s.heap.get? e=some oe)(hd:oe.data=.fields ve)(h2:2<ve.size)
  (hx:s.heap.get? h=some oh) (BY:oh.data=.fields vh) (G6:vh[2]? = some .none) (ne:h≠e) (q:E (.ref e) { s with heap:=s.heap.update e (Obj.mapFields (·.setIfInBounds 2 (.ref h))) }):wpAny (model prog w) A (raiseNew (.ref e):Sem α) Q E s:=by
 unfold raiseNew;refine aaf (wpAny_handled ?_);rw[hh];dsimp only;rw[if_pos (by simpa using ne)];refine aaf (aea (wpAny_runValue (adK Px ?_)));unfold Builtin.«proto.unchain»;refine aaf (aek hx BY G6 ?_);rw[if_pos (by rfl)];refine aa1 ?_;refine aaf ?_;unfold updateField;refine aaf (wpAny_load he ?_);rw[hd];dsimp only;rw[if_pos h2];exact wpAny_update' he (wpAny_throw q)
theorem Wr{x left step:Int}(hh:A.handled=some (.ref h))(hx:s.heap.get? h=some oh)(BY:oh.data=.fields vh)(G6:vh[2]? = some .none)(hit:IsRangeIter s.heap it x left step)(Vu:left<=0)
  (hQ:∀h',Heap.ExtBut it s.heap h'->Q none { s with heap:=h' }):wpAny (model prog w) A (pyNext (.ref it)) Q E s:=by
 have hT:s.TypeIs (.ref it) "range_iterator":=⟨_,hit,rfl⟩
 unfold pyNext;refine aaf (aeR (adB (name:=Str.ofString "__next__") hT F.slot_range_iterator_next
  (adI F.slot_range_iterator_next hT F.entry_range_iterator_next ?_ (F.args_range_iterator_next_1 _))))
 show wpAny _ _ (field (.ref it) 0 >>= _) _ _ s;refine aaf (aek hit rfl rfl ?_);refine aaf (aek hit rfl rfl ?_);refine aaf (aek hit rfl rfl ?_);show wpAny _ _ (if left<=0 then _ else _) _ _ s;rw[if_pos Vu];refine aaf (aee ?_);refine aaf ?_;refine aaf ?_;simp only[newExc,newTuple];refine aaf (adq ?_ (by size_fits));refine aaf (afk (by first|rfl|(simp only[firstArgMember];rfl)) ?_);refine adq ?_ (by size_fits);have hn:h≠(s.heap.push { cls:=.type "tuple",dict:=none,data:=.seq ([]:List Value).toArray }).objs.size:=acU (abD (aaB _ hx));refine Pn (h:=h) (by first|exact hh|(show A.in1.handled=_;exact hh)) (abU _ rfl) rfl (by simp<;>omega) (aaB _ (aaB _ hx)) BY G6 hn ?_;refine aaf (aem (T:="StopIteration") ⟨_,ado _ (abU _ rfl) rfl,rfl⟩ isSubtype_stop ?_);refine aa1 (hQ _ λb o hb e=>?_);rw[ac9 _ _ (aej (acU (abD (aaB _ e))))];exact aaB _ (aaB _ e)
open PySem PySem.Spec PyProof.Rows
noncomputable abbrev Key:=Sum Int Str
noncomputable def nE:Key->Value->Bool
 |.inl k,v=>Value.isInt k v
 |.inr x,v=>Value.isStrOf x v
noncomputable def Sq(w:World):Key->Int
 |.inl k=>hashInt k
 |.inr x=>hashStr w x
theorem jO:∀{k:Key}{v:Value},nE k v=true->(∃i t,k=Sum.inl i/\v=Value.int i t)\/(∃x t,k=Sum.inr x/\v=Value.str x t)
 |.inl i,v,h=>by
  obtain⟨t,e⟩:=Value.isInt_shape h;exact .inl ⟨i,t,rfl,e⟩
 |.inr x,v,h=>by
  obtain⟨t,e⟩:=Value.isStrOf_shape h;exact .inr ⟨x,t,rfl,e⟩
theorem aaD(i:Int)(t:Tok):nE (.inl i) (.int i t)=true:=by simp[nE,Value.isInt]
theorem RG(x:Str)(t:Tok):nE (.inr x) (.str x t)=true:=by simp[nE,Value.isStrOf]
theorem Wd(a b:Int):decide ((Sum.inl a:Key)=Sum.inl b)=(a==b):=by
 by_cases e:a=b
 .subst e;simp
 .have h:¬(Sum.inl a:Key)=Sum.inl b:=λq=>e (Sum.inl.inj q)
  rw[ada h];exact(adF.mpr e).symm
theorem Yq(a b:Str):decide ((Sum.inr a:Key)=Sum.inr b)=decide (a=b):=by
 by_cases e:a=b
 .subst e;simp
 .have h:¬(Sum.inr a:Key)=Sum.inr b:=λq=>e (Sum.inr.inj q)
  rw[ada h,ada e]
theorem X7(a:Int)(b:Str):decide ((Sum.inl a:Key)=Sum.inr b)=false:=ada (λq=>nomatch q)
theorem VZ(a:Str)(b:Int):decide ((Sum.inr a:Key)=Sum.inl b)=false:=ada (λq=>nomatch q)
noncomputable def dD(prog:Program)(w:World):PySem.KeyKind prog w Key where
 is:=nE
 hash:=Sq w
 inj:=λv a b ha hb=>by
  rcases jO ha with⟨i,t,rfl,rfl⟩|⟨x,t,rfl,rfl⟩
  .rcases jO hb with⟨j,u,rfl,e⟩|⟨y,u,rfl,e⟩
   .injection e with e1 _;rw[e1]
   .exact nomatch e
  .rcases jO hb with⟨j,u,rfl,e⟩|⟨y,u,rfl,e⟩
   .exact nomatch e
   .injection e with e1 _;rw[e1]
 byValue:=λk v h=>by
  rcases jO h with⟨i,t,rfl,rfl⟩|⟨x,t,rfl,rfl⟩<;>rfl
 pyHash:=λhv h=>by
  rcases jO hv with⟨i,t,rfl,rfl⟩|⟨x,t,rfl,rfl⟩
  .exact wpAny_pyHash_int h
  .exact wpAny_pyHash_str h
 eqBool:=λhu hv h=>by
  rcases jO hu with⟨i,t,rfl,rfl⟩|⟨x,t,rfl,rfl⟩
  .rcases jO hv with⟨j,u,rfl,rfl⟩|⟨y,u,rfl,rfl⟩
   .rw[Wd] at h;exact wpAny_eqBool_int h
   .rw[X7] at h;exact SeqAt.EqAt.int_str i t y u _ _ _ _ h
  .rcases jO hv with⟨j,u,rfl,rfl⟩|⟨y,u,rfl,rfl⟩
   .rw[VZ] at h;exact SeqAt.EqAt.str_int x t j u _ _ _ _ h
   .rw[Yq] at h;exact wpAny_eqBool_str h
 «strs»:=λk x t v h=>by
  rcases jO h with⟨i,u,rfl,e⟩|⟨y,u,rfl,e⟩
  .exact nomatch e
  .injection e with e1 _;subst e1;cases v<;>rfl
theorem P6(prog:Program)(w:World)(i:Int)(t:Tok):(dD prog w).is (.inl i) (.int i t)=true:=aaD i t
theorem Z1(prog:Program)(w:World)(x:Str)(t:Tok):(dD prog w).is (.inr x) (.str x t)=true:=RG x t
inductive V where
 |aE|bl (b:Bool)|int (i:Int)|str (x:Str)|jR (b:Array UInt8)|qi (b:UInt64)|ref (a:Addr)|ty (n:String)
 deriving DecidableEq
def RelV:V->Value->Prop
 |.aE,u=>u=Value.none
 |.bl b,u=>u=Value.bool b
 |.int i,u=>∃t,u=Value.int i t
 |.str x,u=>∃t,u=Value.str x t
 |.jR b,u=>∃t,u=Value.bytes b t
 |.qi b,u=>∃t,u=Value.float b t
 |.ref a,u=>u=Value.ref a
 |.ty n,u=>u=Value.type n
noncomputable abbrev aS:List V->List Value->Prop:=Paired RelV
theorem aS.length{xs:List V}{us:List Value}(r:aS xs us):xs.length=us.length:=Paired.length r
theorem aS.get:∀{xs:List V}{us:List Value}{i:Nat}{x:V},aS xs us->xs[i]? = some x->∃u,us[i]? = some u/\RelV x u
 |_,_,_,_,.nil,e=>by simp at e
 |_,_,0,_,.cons r _,e=>by simp at e;subst e;exact⟨_,rfl,r⟩
 |_,_,i+1,x,.cons _ t,e=>by
  obtain⟨u,h1,h2⟩:=aS.get t (by simpa using e);exact⟨u,by simpa using h1,h2⟩
theorem aS.set(r:RelV x u):∀{xs:List V}{us:List Value} (i:Nat),aS xs us->aS (xs.set i x) (us.set i u)
 |_,_,_,.nil=>.nil
 |_,_,0,.cons _ t=>.cons r t
 |_,_,i+1,.cons q t=>.cons q (aS.set r i t)
theorem aS.append:∀{xs ys:List V}{us ws:List Value},aS xs us->aS ys ws->aS (xs++ys) (us++ws)
 |_,_,_,_,.nil,s=>s
 |_,_,_,_,.cons r t,s=>.cons r (aS.append t s)
theorem aS.take:∀{xs:List V}{us:List Value} (n:Nat),aS xs us->aS (xs.take n) (us.take n)
 |_,_,0,_=>.nil
 |_,_,_+1,.nil=>.nil
 |_,_,n+1,.cons r t=>.cons r (aS.take n t)
theorem aS.drop:∀{xs:List V}{us:List Value} (n:Nat),aS xs us->aS (xs.drop n) (us.drop n)
 |_,_,0,r=>r
 |_,_,_+1,.nil=>.nil
 |_,_,n+1,.cons _ t=>aS.drop n t
def g9:Option V->Option Value->Prop
 |some v,some u=>RelV v u
 |none,none=>True
 |_,_=>False
def KV{κ:Type}:List (κ×V)->List (κ×Value)->Prop:=Paired λ(p:κ×V) (q:κ×Value)=>p.1=q.1/\RelV p.2 q.2
noncomputable def kV:Key->V
 |.inl i=>.int i
 |.inr x=>.str x
def mS(h:Heap)(a:Addr)(items:Array Value):Prop:=∃o,h.get? a=some o/\o.cls=.type "tuple"/\o.dict=none/\∃n,o.data=.seq items n
theorem mS.isTup(x:mS h a items):IsTup h a items:=let⟨o,e,c,_,d⟩:=x;⟨o,e,c,d⟩
theorem mS.lt(x:mS h a items):a<h.objs.size:=let⟨_,e,_⟩:=x;abD e
theorem mS.new(h:Heap)(items:Array Value):mS (h.push { cls:=.type "tuple",data:=.seq items }) h.objs.size items:=⟨_,abU _ rfl,rfl,rfl,_,rfl⟩
inductive HO where
 |lst (xs:List V)
 |tup (xs:List V)
 |dK (kvs:List (Key×V))|dT (kvs:List (List Key×V))
 |set (S:Int->Bool) (n:Nat)
 |ins (C dx:Addr) (fs:List (Str×V))
 |own (x:Addr)
 |xd (fs:List (Str×V))
 |met (f x:Addr)
 |cR (lo hi:Int)
 |fH (o:Obj) (u:HO)
 |qg (ps:Array Value)
 |ext (φ:Heap->Prop)
noncomputable abbrev Hp:=Addr->Option HO
noncomputable def upd(H:Hp)(a:Addr)(o:HO):Hp:=λb=>if b=a then some o else H b
theorem cB{o:HO}:upd H a o a=some o:=by unfold upd;rw[if_pos rfl]
theorem aY{o:HO}(h:b≠a):upd H a o b=H b:=by unfold upd;rw[if_neg h]
theorem QA{H:Hp}{o u:HO}(h:H a=some o)(h':H b=some u)(d:o≠u):a≠b:=by
 intro e;subst e;rw[h] at h';exact d (aco h')
theorem dz{H:Hp}{o:HO}(h:H a=some o)(h':H b=none):a≠b:=by
 intro e;subst e;rw[h] at h';cases h'
section
variable(P:Program)(w:World)
def cV(H:Hp)(h:Heap)(a:Addr):HO->Prop
 |.lst xs=>xs.length<=sizeLine/\∃(aq:List Value) (n:Nat),aS xs aq/\h.get? a=some { cls:=.type "list",data:=.seq aq.toArray n }
 |.tup xs=>xs.length<=sizeLine/\∃aq:List Value,aS xs aq/\mS h a aq.toArray
 |.dK kvs=>kvs.length<=sizeLine/\(a==sysModules)=false/\∃vs,KV kvs vs/\h.DictOf (dD P w) a vs
 |.dT kvs=>kvs.length<=sizeLine/\(a==sysModules)=false/\∃xs:List (List Key×Addr×Value),
   Paired (λ(p:List Key×V) (q:List Key×Addr×Value)=>p.1=q.1/\H q.2.1=some (.tup (p.1.map kV))/\RelV p.2 q.2.2) kvs xs/\
   ∃o es ep,h.get? a=some o/\o.ExactDict/\o.data=.dict es ep/\es.toList=xs.map (entryOfKey (tupleKind (dD P w)))/\(xs.map (·.1)).Nodup
 |.set S n=>h.SetOf (intKind P w) a S n
 |.ins C dx fs=>H dx=some (.own a)/\fs.length<=1000/\dx≠a/\h.get? a=some (PySem.W.instObj C dx)/\
   ∃mA,h.Ns1 dx mA/\(∀f,g9 (fs.lookup f) (mA f))/\PySem.Within mA (fs.map (·.1))
 |.own _=>∃o,h.get? a=some o
 |.xd fs=>∃mA,h.Ns1 a mA/\∀f,g9 (fs.lookup f) (mA f)
 |.cR lo hi=>∃t u v,h.get? a=some { cls:=.type "range",data:=.fields #[.int lo t,.int hi u,.int 1 v] }
 |.fH o u=>h.get? a=some o/\cV H h a u
 |.qg ps=>h.get? a=some { cls:=.none,data:=.fields ps }
 |.met f x=>h.get? a=some (PySem.W.methodObj (.ref f) (.ref x))
 |.ext φ=>φ h/\(∃o,h.get? a=some o)/\∀h1 h2:Heap,φ h1->(∀o,h1.get? a=some o->h2.get? a=some o)->φ h2
def dJ(H:Hp)(h:Heap):Prop:=∀a o,H a=some o->cV P w H h a o
end
section
variable{P:Program}{w:World}{H H':Hp}{h h':Heap}{a:Addr}{o:HO}
theorem cV.lt(x:cV P w H h a o):a<h.objs.size:=by
 cases o with
 |lst xs=>obtain⟨_,_,_,_,e⟩:=x;exact abD e
 |tup xs=>obtain⟨_,_,_,p⟩:=x;exact p.lt
 |dK kvs=>obtain⟨_,_,_,_,o,_,_,e,_⟩:=x;exact abD e
 |dT kvs=>obtain⟨_,_,_,_,o,_,_,e,_⟩:=x;exact abD e
 |set S n=>obtain⟨o,_,_,_,e,_⟩:=x;exact abD e
 |ins C dx fs=>obtain⟨_,_,_,e,_⟩:=x;exact abD e
 |own y=>obtain⟨_,e⟩:=x;exact abD e
 |xd fs=>obtain⟨_,⟨_,_,_,e,_⟩,_⟩:=x;exact abD e
 |cR lo hi=>obtain⟨_,_,_,e⟩:=x;exact abD e
 |fH ob u=>obtain⟨e,_⟩:=x;exact abD e
 |qg ps=>exact abD (show h.get? a=some _ from x)
 |met f y=>exact abD (show h.get? a=some _ from x)
 |ext φ=>obtain⟨_,⟨_,e⟩,_⟩:=x;exact abD e
theorem Paired.Fw{α β:Type}{F G:α->β->Prop}:∀{Nt:List α}{Kf:List β},Paired F Nt Kf->(∀a b,F a b->G a b)->Paired G Nt Kf
 |_,_,.nil,_=>.nil
 |_,_,.cons r t,f=>.cons (f _ _ r) (Paired.Fw t f)
theorem cV.kH(x:cV P w H h a o)(k:∀b u,(b=a\/H b=some (.own a))->h.get? b=some u->h'.get? b=some u)
  (ho:∀b,H b=some (.own a)->H' b=some (.own a)) (ht:∀b xs,H b=some (.tup xs)->H' b=some (.tup xs)):cV P w H' h' a o:=by
 induction o with
 |lst xs=>obtain⟨z,aq,n,r,e⟩:=x;exact⟨z,aq,n,r,k _ _ (.inl rfl) e⟩
 |tup xs=>obtain⟨z,aq,r,ob,e,c⟩:=x;exact⟨z,aq,r,ob,k _ _ (.inl rfl) e,c⟩
 |dK kvs=>obtain⟨z,y,vs,r,ob,es,ep,e,c⟩:=x;exact⟨z,y,vs,r,ob,es,ep,k _ _ (.inl rfl) e,c⟩
 |dT kvs=>
  obtain⟨z,y,xs,r,ob,es,ep,e,c⟩:=x;exact⟨z,y,xs,Paired.Fw r λp q z=>⟨z.1,ht _ _ z.2.1,z.2.2⟩,ob,es,ep,k _ _ (.inl rfl) e,c⟩
 |set S n=>obtain⟨ob,es,ep,t,e,c⟩:=x;exact⟨ob,es,ep,t,k _ _ (.inl rfl) e,c⟩
 |ins C dx fs=>
  obtain⟨d,z,ne,e,mA,⟨od,es,ep,e2,c⟩,r⟩:=x;exact⟨ho _ d,z,ne,k _ _ (.inl rfl) e,mA,⟨od,es,ep,k _ _ (.inr d) e2,c⟩,r⟩
 |own y=>obtain⟨ob,e⟩:=x;exact⟨ob,k _ _ (.inl rfl) e⟩
 |xd fs=>obtain⟨mA,⟨od,es,ep,e,c⟩,r⟩:=x;exact⟨mA,⟨od,es,ep,k _ _ (.inl rfl) e,c⟩,r⟩
 |cR lo hi=>obtain⟨t,u,v,e⟩:=x;exact⟨t,u,v,k _ _ (.inl rfl) e⟩
 |fH ob u ih=>obtain⟨e,q⟩:=x;exact⟨k _ _ (.inl rfl) e,ih q⟩
 |qg ps=>
  have e:=x;exact k a _ (.inl rfl) e
 |met f y=>
  have e:=x;exact k a _ (.inl rfl) e
 |ext φ=>obtain⟨p,⟨o,e⟩,st⟩:=x;exact⟨st _ _ p λo q=>k _ _ (.inl rfl) q,⟨o,k _ _ (.inl rfl) e⟩,st⟩
theorem dJ.lt(x:dJ P w H h)(e:H a=some o):a<h.objs.size:=(x a o e).lt
theorem dJ.fresh(x:dJ P w H h)(e:h.objs.size<=a):H a=none:=by
 cases q:H a with
 |none=>rfl
 |some u=>exact absurd (adl (x.lt q) e) (adx _)
theorem dJ.kept(x:dJ P w H h)(k:∀b u,h.get? b=some u->h'.get? b=some u):dJ P w H h':=λa o e=>
 (x a o e).kH (λb u _ q=>k b u q) (λ_ q=>q) λ_ _ q=>q
theorem dJ.laid(x:dJ P w H h)(k:∀b u,h.get? b=some u->h'.get? b=some u)(hp:h.objs.size<=a)(new:cV P w (upd H a o) h' a o):dJ P w (upd H a o) h':=λb u e=>by
 have hn:=x.fresh hp
 by_cases hb:b=a
 .subst hb;rw[cB] at e;cases e;exact new
 .rw[aY hb] at e;exact(x b u e).kH (λc v _ q=>k c v q) (λc q=>by rw[aY (dz q hn)];exact q) λc xs q=>by rw[aY (dz q hn)];exact q
end
def Rd(H:Hp)(a:Addr)(u:HO):Prop:=H a=some u\/∃o,H a=some (.fH o u)
theorem Rd.ok{P:Program}{w:World}{H:Hp}{h:Heap}{a:Addr}{u:HO}(r:Rd H a u)(x:dJ P w H h):cV P w H h a u:=by
 rcases r with r|⟨o,r⟩
 .exact x a u r
 .obtain⟨_,q⟩:=x a _ r;exact q
def vf:Option HO->Prop
 |some (.lst _)=>True
 |some (.dK _)=>True
 |some (.dT _)=>True
 |some (.set _ _)=>True
 |some (.ins _ _ _)=>True
 |some (.ext _)=>True
 |_=>False
section
variable{P:Program}{w:World}{H:Hp}{h h':Heap}{x e:Addr}{o':HO}
theorem dJ.write(ok:dJ P w H h)(mu:vf (H x))(he:e=x\/H e=some (.own x))(k:∀b u,b≠e->h.get? b=some u->h'.get? b=some u)(sV:∃u,h'.get? e=some u)
  (new:cV P w (upd H x o') h' x o'):dJ P w (upd H x o') h':=λb u q=>by
 have Ij:∀c y,H c=some (.own y)->c≠x:=λc y r z=>by subst z;rw[r] at mu;exact mu
 have acB:∀c xs,H c=some (.tup xs)->c≠x:=λc xs r z=>by subst z;rw[r] at mu;exact mu
 by_cases hb:b=x
 .subst hb;rw[cB] at q;cases q;exact new
 .rw[aY hb] at q
  by_cases p8:b=e
  .have q':H b=some (.own x):=by
    rcases he with z|z
    .exact absurd (p8.trans z) hb
    .rw[p8];exact z
   rw[q] at q';cases q';obtain⟨v,hv⟩:=sV;exact⟨v,by rw[p8];exact hv⟩
  .refine(ok b u q).kH (λc v hc r=>k c v ?_ r) (λc r=>by rw[aY (Ij c b r)];exact r) λc xs r=>by rw[aY (acB c xs r)];exact r
   rcases hc with rfl|hc
   .exact p8
   .rintro rfl
    rcases he with z|z
    .exact Ij c b hc z
    .rw[hc] at z;cases z;exact hb rfl
end
structure Un(fs ex:List Addr)(H H':Hp)(h h':Heap):Prop where
 keep:∀b o,h.get? b=some o->H b=none->b∉fs->b∉ex->h'.get? b=some o
 slot:∀b o,h.get? b=some o->H b=none->b∈fs->b∉ex->∃sl,h'.get? b=some { o with slots:=sl }
 free:∀b o,h.get? b=some o->H b=none->b∉ex->H' b=none
 there:∀b o,h.get? b=some o->b∉ex->∃o',h'.get? b=some o'
 nJ:∀b xs,H b=some (.tup xs)->H' b=some (.tup xs)
 k8:∀b o u,H b=some (.fH o u)->H' b=some (.fH o u)
 m_:∀b ps,H b=some (.qg ps)->∃more,H' b=some (.qg (ps++more))
section
variable{fs ZE ex ex':List Addr}{H H1 H2:Hp}{h h1 h2 h':Heap}{a x e:Addr}{o:HO}
theorem Un.any(u:Un fs ex H H1 h h1){b:Addr}{ob:Obj}(q:h.get? b=some ob)(n:H b=none)(hx:b∉ex):∃sl,h1.get? b=some { ob with slots:=sl }:=by
 by_cases hb:b∈fs
 .exact u.slot b ob q n hb hx
 .exact⟨ob.slots,u.keep b ob q n hb hx⟩
theorem Un.kept(k:∀b u,h.get? b=some u->h'.get? b=some u):Un fs ex H H h h':=
 ⟨λb ob q _ _ _=>k b ob q,λb ob q _ _ _=>⟨ob.slots,k b ob q⟩,λ_ _ _ n _=>n,λb ob q _=>⟨ob,k b ob q⟩,λ_ _ q=>q,λ_ _ _ q=>q,λ_ ps q=>⟨#[],by rw[q];simp⟩⟩
theorem Un.refl:Un fs ex H H h h:=Un.kept λ_ _ q=>q
theorem Un.laid(k:∀b u,h.get? b=some u->h'.get? b=some u)(hp:h.objs.size<=a)(hn:H a=none):Un fs ex H (upd H a o) h h' where
 keep:=λb u q _ _ _=>k b u q
 slot:=λb u q _ _ _=>⟨u.slots,k b u q⟩
 free:=λb u q n _=>by rw[aY (acU (adl (abD q) hp))];exact n
 there:=λb u q _=>⟨u,k b u q⟩
 nJ:=λb xs q=>by rw[aY (dz q hn)];exact q
 k8:=λb u xs q=>by rw[aY (dz q hn)];exact q
 m_:=λb ps q=>⟨#[],by rw[aY (dz q hn),q];simp⟩
theorem Un.write(mu:vf (H x))(he:e=x\/H e=some (.own x))(k:∀b u,b≠e->h.get? b=some u->h'.get? b=some u)(sV:∃u,h'.get? e=some u):Un fs ex H (upd H x o) h h':=by
 have hx:∀b,H b=none->b≠x:=λb n z=>by subst z;rw[n] at mu;exact mu
 have hb:∀b,H b=none->b≠e:=λb n z=>by
  subst z;rcases he with r|r
  .exact hx b n r
  .rw[n] at r;cases r
 have hm:∀b u,H b=some u->¬vf (some u)->b≠x:=λb u q nm z=>by subst z;rw[q] at mu;exact nm mu
 refine⟨λb u q n _ _=>k b u (hb b n) q,λb u q n _ _=>⟨u.slots,k b u (hb b n) q⟩,λb u q n _=>by rw[aY (hx b n)];exact n,λb u q _=>?_,
  λb xs q=>by rw[aY (hm b _ q λz=>z)];exact q,λb u xs q=>by rw[aY (hm b _ q λz=>z)];exact q,λb ps q=>⟨#[],by rw[aY (hm b _ q λz=>z),q];simp⟩⟩
 by_cases p8:b=e
 .subst p8;exact sV
 .exact⟨u,k b u p8 q⟩
end
noncomputable def wX(h:Heap)(H:Hp):List Addr:=(List.range h.objs.size).filter λa=>(H a).isSome
noncomputable def ny(h:Heap)(H:Hp):Heap:=PySem.W.hideAll h (wX h H)
theorem VS(h:Heap)(H:Hp):(ny h H).objs.size=h.objs.size:=PySem.W.hideAll_size _ _
theorem Ut(e:h.get? b=some o)(n:H b=none):(ny h H).get? b=some o:=
 PySem.W.hideAll_get _ e λhm=>by
  have q:=(ad0.mp hm).2;rw[n] at q;simp at q
theorem ZO(e:(ny h H).get? b=some o):h.get? b=some o/\H b=none:=by
 have e':=PySem.W.of_hideAll (wX h H) e;refine⟨e',?_⟩;cases q:H b with
 |none=>rfl
 |some x=>
  have hm:b∈wX h H:=ad0.mpr ⟨afw.mpr (abD e'),by simp[q]⟩;have z:(ny h H).get? b=none:=PySem.W.hideAll_none (wX h H) hm;rw[z] at e;cases e
structure Mod(K:PySem.W.Frag)(mg:Str->Option Value)(base:Heap):Prop where
 yT:K.In base
 glob:base.Ns mainGlobals mg
 blt:∃mb,base.Ns builtinsNs mb/\∀x:Str,x≠"__name__"->mb x=bootBuiltins x
 nolimit:base.NoLimit
structure Cx where
 prog:Program
 w:World
 K:PySem.W.Frag
 mg:Str->Option Value
 base:Heap
 A:Around
 N:List Str
 d_:Shared
 uY:Hp
 env:Env
 outer:List Env
 stack:List Env
 ex:List Addr
 fn:Str->Bool
 calm:Bool
 pn:List (Addr×Obj)
 xe:Value->Shared->Prop
noncomputable def jM(l:List Env):List Addr:=l.filterMap (·.frame)
noncomputable abbrev Cx.fs(X:Cx):List Addr:=jM X.outer
def gP(sc:Scope)(x:Str):Prop:=sc.names.lookup x=some .local\/sc.names.lookup x=some .cell\/sc.names.lookup x=some .free
def Loc(sc:Scope)(x:Str):Prop:=sc.names.lookup x=some .local\/sc.names.lookup x=some .cell
def Look(env:Env)(h:Heap)(m:Str->Option Value)(x:Str)(u:Value):Prop:=
 (env.kindOf x=some .local/\m x=some u)\/((env.kindOf x=some .cell\/env.kindOf x=some .free)/\∃c,env.cells.lookup x=some c/\h.IsCell c (some u))
structure Cx.Ok(X:Cx):Prop where
 mod:Mod X.K X.mg X.base
 kind:X.env.scope.kind=.function
 glob:X.env.globals=mainGlobals
 blt:X.env.builtins=builtinsNs
 above:X.d_.heap.objs.size<=X.env.locals
 inj:∀x y c,X.env.cells.lookup x=some c->X.env.cells.lookup y=some c->x=y
 has:∀x,(X.env.kindOf x=some .cell\/X.env.kindOf x=some .free)->∃c,X.env.cells.lookup x=some c
 sG:∀x c,X.fn x=true->X.env.cells.lookup x=some c->X.d_.heap.objs.size<=c
 hd:X.calm=true->X.A.handled=none
 frames:X.A.frames=some X.stack
 um:X.stack=X.outer\/(X.stack=X.env::X.outer/\X.env.frame=some X.env.locals)
 yG:∀b∈X.ex,b≠X.env.locals/\∀x c,X.env.cells.lookup x=some c->c≠b
 bs:∀b o,X.base.get? b=some o->X.d_.heap.get? b=some o/\X.uY b=none
 jW:X.base.objs.size<=X.d_.heap.objs.size
 sJ:∀b o,X.base.get? b=some o->b∉X.ex
 qU:∀b∈X.ex,b∉X.fs
 jw:X.d_.heap.FunFrames X.base X.outer
 om:∀b∈X.fs,X.uY b=none
def uv(A:Around)(H:Hp):Prop:=A.handled=none\/∃(a:Addr) (ob:Obj) (u:HO) (vs:Array Value),A.handled=some (.ref a)/\H a=some (.fH ob u)/\ob.data=.fields vs/\vs[2]? = some .none
theorem uv.mono{A:Around}{H H':Hp}(h:uv A H)(f:∀b o u,H b=some (.fH o u)->H' b=some (.fH o u)):uv A H':=h.elim .inl λ⟨a,ob,u,vs,h1,h2,h3⟩=>.inr ⟨a,ob,u,vs,h1,f _ _ _ h2,h3⟩
structure Inv(X:Cx)(pins:List (Addr×Obj))(σ:List (Option V))(H:Hp)(s:Shared):Prop where
 ok:X.Ok
 os:s.os=X.d_.os
 bare:AllBare s.gens
 base:Un X.fs X.ex X.uY H X.d_.heap s.heap
 loc:∃m,s.heap.Ns X.env.locals m/\∀(i:Nat) (x:Str) (v:V),X.N[i]? = some x->σ[i]? = some (some v)->gP X.env.scope x->∃u,RelV v u/\Look X.env s.heap m x u
 cell:∀x c,X.env.cells.lookup x=some c->∃v,s.heap.IsCell c v
 free:H X.env.locals=none
 j_:∀x c,X.env.cells.lookup x=some c->H c=none
 pin:∀p∈X.pn++pins,s.heap.get? p.1=some p.2/\H p.1=none/\p.1≠X.env.locals/\p.1∉X.fs/\∀v,p.2.data≠.cell v
 aI:dJ X.prog X.w H s.heap
 len:σ.length=X.N.length
 hq:uv X.A H
section
variable{X:Cx}{pins:List (Addr×Obj)}{σ:List (Option V)}{H H':Hp}{s:Shared}{h':Heap}
theorem Cx.Ok.WI(ok:X.Ok)(e:X.base.get? b=some o):b∉X.fs:=λhb=>by
 have:=(ok.jw.mem hb).1;rw[e] at this;cases this
theorem Inv.bs(I:Inv X pins σ H s):∀b o,X.base.get? b=some o->s.heap.get? b=some o/\H b=none:=λb o e=>
 ⟨I.base.keep b o (I.ok.bs b o e).1 (I.ok.bs b o e).2 (I.ok.WI e) (I.ok.sJ b o e),I.base.free b o (I.ok.bs b o e).1 (I.ok.bs b o e).2 (I.ok.sJ b o e)⟩
theorem Inv.bk(I:Inv X pins σ H s):∀b o,X.base.get? b=some o->s.heap.get? b=some o:=λb o e=>(I.bs b o e).1
theorem Inv.mod(I:Inv X pins σ H s):Mod X.K X.mg X.base:=I.ok.mod
theorem Inv.d9(I:Inv X pins σ H s):X.K.In s.heap:=I.ok.mod.yT.keeps I.bk
theorem Inv.lt(I:Inv X pins σ H s):X.env.locals<s.heap.objs.size:=let⟨_,hn,_⟩:=I.loc;hn.lt
theorem Inv.sz(I:Inv X pins σ H s):X.d_.heap.objs.size<=s.heap.objs.size:=adX I.ok.above (aen I.lt)
theorem Inv.Qh(I:Inv X pins σ H s)(h:s.heap.objs.size<=a):a∉X.fs:=λhb=>by
 obtain⟨_,o,ho,_⟩:=I.ok.jw.mem hb;exact absurd (adl (abD ho) (adX I.sz h)) (adx _)
theorem Inv.lH(I:Inv X pins σ H s):∀x c,X.env.cells.lookup x=some c->c≠X.env.locals:=λx c e z=>by
 obtain⟨v,o,ho,hd⟩:=I.cell x c e;obtain⟨m,⟨o',es,ep,lu,Dm,_⟩,_⟩:=I.loc;rw[z,lu] at ho;cases ho;rw[Dm] at hd;cases hd
theorem Inv.jw(I:Inv X pins σ H s):s.heap.FunFrames X.base X.outer:=by
 have all:∀(l:List Env),(∀b∈jM l,b∈X.fs)->X.d_.heap.FunFrames X.base l->s.heap.FunFrames X.base l:=by
  intro l
  induction l with
  |nil=>intro _ _;trivial
  |cons env r ih=>
   intro hs hl;obtain⟨hk,⟨L,o,hf,hn,ho,hd⟩,hr⟩:=hl;have hL:=hs L (by unfold jM;rw[ad1,hf];exact aaF);obtain⟨sl,e⟩:=I.base.slot L o ho (I.ok.om L hL) hL λz=>I.ok.qU L z hL
   exact⟨hk,⟨L,_,hf,hn,e,hd⟩,ih (λb hb=>hs b (by unfold jM;rw[ad1,hf];exact aaY _ hb)) hr⟩
 exact all X.outer (λ_ hb=>hb) I.ok.jw
theorem Inv.stack(I:Inv X pins σ H s):s.heap.FunFrames X.base X.stack:=by
 rcases I.ok.um with e|⟨e,hf⟩
 .rw[e];exact I.jw
 .rw[e];obtain⟨m,hn,_⟩:=I.loc;refine .cons (by rw[I.ok.kind];decide) hf hn ?_ I.jw;exact Heap.get?_none_of_le (adX I.ok.jW I.ok.above)
theorem Inv.Gr(I:Inv X pins σ H s):∀b∈jM X.stack,b∈X.env.locals::X.fs:=λb hb=>by
 rcases I.ok.um with e|⟨e,hf⟩
 .rw[e] at hb;exact aaY _ hb
 .rw[e] at hb;unfold jM at hb;rw[ad1,hf] at hb;exact hb
theorem Inv.M4(I:Inv X pins σ H s):∀b∈jM X.stack,H b=none:=λb hb=>by
 rcases abh.mp (I.Gr b hb) with e|hb
 .rw[e];exact I.free
 .obtain⟨_,o,ho,_⟩:=I.ok.jw.mem hb;exact I.base.free b o ho (I.ok.om b hb) λz=>I.ok.qU b z hb
theorem Inv.step{g':Array GenState}{d':Drawn}{ch:List Addr}(I:Inv X pins σ H s)
  (lE:∀b∈ch,(b∈X.ex\/X.d_.heap.objs.size<=b)/\b≠X.env.locals/\(∀x c,X.env.cells.lookup x=some c->c≠b)/\∀p∈X.pn++pins,p.1≠b)
  (keep:∀b o,b≠X.env.locals->b∉X.fs->b∉ch->s.heap.get? b=some o->H b=none->h'.get? b=some o)
  (slot:∀b o,b≠X.env.locals->b∈X.fs->b∉ch->s.heap.get? b=some o->H b=none->∃sl,h'.get? b=some { o with slots:=sl }) (free:∀b o,b∉ch->s.heap.get? b=some o->H b=none->H' b=none)
  (there:∀b o,b∉ch->s.heap.get? b=some o->∃o',h'.get? b=some o')
  (nJ:∀b xs,H b=some (.tup xs)->H' b=some (.tup xs)) (k8:∀b o u,H b=some (.fH o u)->H' b=some (.fH o u)) (m_:∀b ps,H b=some (.qg ps)->∃more,H' b=some (.qg (ps++more)))
  (ns:∀m,s.heap.Ns X.env.locals m->h'.Ns X.env.locals m) (aI:dJ X.prog X.w H' h') (hg:AllBare g') :
  Inv X pins σ H' { s with heap:=h',gens:=g',drawn:=d',toks:=t' }:=by
 have JY:∀b o,X.d_.heap.get? b=some o->b≠X.env.locals:=λb o e=>acU (adl (abD e) I.ok.above)
 have yo:∀b o,X.d_.heap.get? b=some o->b∉X.ex->b∉ch:=λb o e hx hb=>by
  rcases(lE b hb).1 with z|z
  .exact hx z
  .exact absurd (adl (abD e) z) (adx _)
 have cellK:∀x c,X.env.cells.lookup x=some c->∀v,s.heap.IsCell c v->h'.IsCell c v:=λx c e v ⟨o,ho,hd⟩=>by
  have ki:c∉ch:=λz=>(lE c z).2.2.1 x c e rfl
  by_cases hc:c∈X.fs
  .obtain⟨sl,q⟩:=slot c o (I.lH x c e) hc ki ho (I.j_ x c e);exact⟨_,q,hd⟩
  .exact⟨o,keep c o (I.lH x c e) hc ki ho (I.j_ x c e),hd⟩
 refine⟨I.ok,I.os,hg,⟨λb o e n hb hx=>?_,λb o e n hb hx=>?_,λb o e n hx=>?_,λb o e hx=>?_,λb xs e=>nJ b xs (I.base.nJ b xs e),λb o xs e=>k8 b o xs (I.base.k8 b o xs e),λb ps e=>?_⟩,?_,λx c e=>?_,?_,λx c e=>?_,λp hp=>?_,aI,I.len,I.hq.mono k8⟩
 .exact keep b o (JY b o e) hb (yo b o e hx) (I.base.keep b o e n hb hx) (I.base.free b o e n hx)
 .obtain⟨sl,e1⟩:=I.base.slot b o e n hb hx;obtain⟨ZZ,e2⟩:=slot b _ (JY b o e) hb (yo b o e hx) e1 (I.base.free b o e n hx);exact⟨ZZ,e2⟩
 .obtain⟨o',e1⟩:=I.base.there b o e hx;exact free b o' (yo b o e hx) e1 (I.base.free b o e n hx)
 .obtain⟨o',e1⟩:=I.base.there b o e hx;exact there b o' (yo b o e hx) e1
 .obtain⟨m1,e1⟩:=I.base.m_ b ps e;obtain⟨m2,e2⟩:=m_ b _ e1;exact⟨m1++m2,by rw[e2,Array.append_assoc]⟩
 .obtain⟨m,hn,hl⟩:=I.loc;refine⟨m,ns m hn,λi x v e1 e2 e3=>?_⟩;obtain⟨u,r,l⟩:=hl i x v e1 e2 e3;refine⟨u,r,?_⟩;rcases l with l|⟨k,c,e,z⟩
  .exact .inl l
  .exact .inr ⟨k,c,e,cellK x c e _ z⟩
 .obtain⟨v,z⟩:=I.cell x c e;exact⟨v,cellK x c e v z⟩
 .obtain⟨m,⟨o,_,_,ho,_⟩,_⟩:=I.loc;exact free _ o (λz=>(lE _ z).2.1 rfl) ho I.free
 .obtain⟨v,o,ho,hd⟩:=I.cell x c e;exact free c o (λz=>(lE c z).2.2.1 x c e rfl) ho (I.j_ x c e)
 .obtain⟨e,n,ne,nf,d⟩:=I.pin p hp;have ki:p.1∉ch:=λz=>(lE p.1 z).2.2.2 p hp rfl
  exact⟨keep p.1 p.2 ne nf ki e n,free p.1 p.2 ki e n,ne,nf,d⟩
theorem Inv.un(I:Inv X pins σ H s)(u:Un X.fs [] H H' s.heap h')(aI:dJ X.prog X.w H' h'):Inv X pins σ H' { s with heap:=h',toks:=t' }:=by
 obtain⟨m,⟨o,es,ep,ho,r⟩,_⟩:=id I.loc;obtain⟨sl,hL⟩:=u.any ho I.free (by simp);exact I.step (g':=s.gens) (d':=s.drawn) (ch:=[]) (λ_ z=>nomatch z) (λb o _ hb _ e n=>u.keep b o e n hb (by simp)) (λb o _ hb _ e n=>u.slot b o e n hb (by simp)) (λb o _ e n=>u.free b o e n (by simp)) (λb o _ e=>u.there b o e (by simp)) u.nJ u.k8 u.m_ (λm' hm=>by
  obtain⟨o',fO,wC,lu,r'⟩:=hm;rw[ho] at lu;cases lu;exact⟨_,fO,wC,hL,r'⟩) aI I.bare
theorem Inv.call{g':Array GenState}{d':Drawn}(I:Inv X pins σ H s)(u:Un (jM X.stack) ch H H' s.heap h')(aI:dJ X.prog X.w H' h')(hg:AllBare g')
  (lE:∀b∈ch,(b∈X.ex\/X.d_.heap.objs.size<=b)/\b≠X.env.locals/\(∀x c,X.env.cells.lookup x=some c->c≠b)/\∀p∈X.pn++pins,p.1≠b) :
  Inv X pins σ H' { s with heap:=h',gens:=g',drawn:=d',toks:=t' }:=by
 obtain⟨m,⟨o,es,ep,ho,r⟩,_⟩:=id I.loc;obtain⟨sl,hL⟩:=u.any ho I.free λz=>(lE _ z).2.1 rfl
 exact I.step (ch:=ch) lE (λb o hL hb hc e n=>u.keep b o e n (λz=>(abh.mp (I.Gr b z)).elim hL hb) hc) (λb o _ _ hc e n=>u.any e n hc) (λb o hc e n=>u.free b o e n hc) (λb o hc e=>u.there b o e hc) u.nJ u.k8 u.m_ (λm' hm=>by
  obtain⟨o',fO,wC,lu,r'⟩:=hm;rw[ho] at lu;cases lu;exact⟨_,fO,wC,hL,r'⟩) aI hg
theorem Inv.turned(I:Inv X pins σ H s)(k:∀b o,b≠it->s.heap.get? b=some o->h'.get? b=some o)(hn:H it=none)(hL:it≠X.env.locals)
  (h1:it∈X.ex\/X.d_.heap.objs.size<=it) (h2:∀x c,X.env.cells.lookup x=some c->c≠it) (h3:∀p∈X.pn++pins,p.1≠it):Inv X pins σ H { s with heap:=h',toks:=t' }:=by
 have Nd:∀b u,H b=some u->b≠it:=λb u e z=>by rw[z,hn] at e;cases e
 refine I.step (g':=s.gens) (d':=s.drawn) (ch:=[it]) (λb hb=>?_) (λb o _ _ hc e _=>k b o (λz=>hc (by simp[z])) e) (λb o _ _ hc e _=>⟨o.slots,k b o (λz=>hc (by simp[z])) e⟩) (λ_ _ _ _ n=>n)
  (λb o hc e=>⟨o,k b o (λz=>hc (by simp[z])) e⟩) (λ_ _ e=>e) (λ_ _ _ e=>e) (λb ps e=>⟨#[],by rw[e];simp⟩) (λm hm=>?_) (λb u e=>?_) I.bare
 .have e:b=it:=by simpa using hb
  subst e;exact⟨h1,hL,h2,h3⟩
 .obtain⟨o,es,ep,ho,r⟩:=hm;exact⟨o,es,ep,k _ o (aej hL) ho,r⟩
 .refine(I.aI b u e).kH (λc v hc q=>k c v ?_ q) (λ_ q=>q) λ_ _ q=>q
  rcases hc with z|z
  .rw[z];exact Nd b u e
  .exact Nd c _ z
theorem Inv.tok(I:Inv X pins σ H s)(t:Nat):Inv X pins σ H { s with toks:=t }:=I.un Un.refl I.aI
theorem Inv.kept(I:Inv X pins σ H s)(k:∀b u,s.heap.get? b=some u->h'.get? b=some u):Inv X pins σ H { s with heap:=h',toks:=t' }:=I.un (Un.kept k) (I.aI.kept k)
theorem Inv.laid{o:HO}(I:Inv X pins σ H s)(k:∀b u,s.heap.get? b=some u->h'.get? b=some u)(hp:s.heap.objs.size<=a)(new:cV X.prog X.w (upd H a o) h' a o):
  Inv X pins σ (upd H a o) { s with heap:=h',toks:=t' }:=I.un (Un.laid k hp (I.aI.fresh hp)) (I.aI.laid k hp new)
theorem Inv.write{o:HO}(I:Inv X pins σ H s)(mu:vf (H x))(he:e=x\/H e=some (.own x))(k:∀b u,b≠e->s.heap.get? b=some u->h'.get? b=some u)(sV:∃u,h'.get? e=some u)
  (new:cV X.prog X.w (upd H x o) h' x o):Inv X pins σ (upd H x o) { s with heap:=h',toks:=t' }:=I.un (Un.write mu he k sV) (I.aI.write mu he k sV new)
theorem Inv.JP(I:Inv X pins σ H s)(h:∀p∈Km,s.heap.get? p.1=some p.2/\H p.1=none/\p.1≠X.env.locals/\p.1∉X.fs/\∀v,p.2.data≠.cell v):Inv X Km σ H s:=
 ⟨I.ok,I.os,I.bare,I.base,I.loc,I.cell,I.free,I.j_,λp hp=>(acW.mp hp).elim (λz=>I.pin p (ac7 _ z)) (h p),I.aI,I.len,I.hq⟩
theorem OO{N:List Str}(hN:N.Nodup){i j:Nat}(a:N[i]? = some x)(b:N[j]? = some x):i=j:=by
 obtain⟨h1,e1⟩:=acY.mp a;obtain⟨h2,e2⟩:=acY.mp b;exact(List.getElem_inj hN).mp (e1.trans e2.symm)
theorem NB{Q:Unit->Shared->Prop}(I:Inv X pins σ H s)(hN:X.N.Nodup)(hi:X.N[i]? = some x)(hx:Loc X.env.scope x)(r:RelV v u)
  (h:∀s',Inv X pins (σ.set i (some v)) H s'->(∃a,Heap.SameBut a s.heap s'.heap/\(a=X.env.locals\/X.env.cells.lookup x=some a))->Q () s') (hf:X.fn x=true\/X.env.scope.names.lookup x=some .local:=by first|exact .inl rfl|exact .inr rfl|assumption):wpAny M A (storeName X.env x u) Q E s:=by
 obtain⟨m,hn,hl⟩:=id I.loc;have UW:(X.env.scope.kind == .class||(X.env.scope.kind == .module&&X.env.locals != X.env.globals))=false:=by rw[I.ok.kind];rfl
 have JZ:i<σ.length:=by rw[I.len];exact(acY.mp hi).1
 have lH:=I.lH;have tracked:∀{a:Addr}{h':Heap},(∃o,s.heap.get? a=some o/\H a=none)->Heap.SameBut a s.heap h'->dJ X.prog X.w H h':=λ{a h'} ha hs b ob e=>by
  obtain⟨_,_,HZ⟩:=ha;refine(I.aI b ob e).kH (λc w' hc q=>(hs.2 c ?_).trans q) (λ_ q=>q) λ_ _ q=>q
  rintro rfl
  rcases hc with rfl|hc
  .rw[HZ] at e;cases e
  .rw[HZ] at hc;cases hc
 rcases hx with hk|hk
 .refine wpAny_storeName_local hk hn (λh' Uh hs=>?_) UW;obtain⟨oL,_,_,AH,_⟩:=id hn;refine h _ ⟨I.ok,I.os,I.bare,⟨λb o e n hb hx=>?_,λb o e n hb hx=>?_,I.base.free,λb o e hx=>?_,I.base.nJ,I.base.k8,I.base.m_⟩,⟨_,Uh,λj y v' e1 e2 e3=>?_⟩,λy c e=>?_,I.free,I.j_,λp hp=>?_,tracked ⟨oL,AH,I.free⟩ hs,by simpa using I.len,I.hq⟩ ⟨_,hs,.inl rfl⟩
  .exact(hs.2 b (acU (adl (abD e) I.ok.above))).trans (I.base.keep b o e n hb hx)
  .obtain⟨sl,e1⟩:=I.base.slot b o e n hb hx;exact⟨sl,(hs.2 b (acU (adl (abD e) I.ok.above))).trans e1⟩
  .obtain⟨o',e1⟩:=I.base.there b o e hx;exact⟨o',(hs.2 b (acU (adl (abD e) I.ok.above))).trans e1⟩
  .by_cases hj:j=i
   .subst hj;rw[hi] at e1;cases e1;rw[ad9 JZ] at e2;cases e2;exact⟨u,r,.inl ⟨hk,by simp⟩⟩
   .rw[adH (aej hj)] at e2;obtain⟨u',r',q⟩:=hl j y v' e1 e2 e3;refine⟨u',r',?_⟩;rcases q with⟨k,e⟩|⟨k,c,e,z⟩
    .refine .inl ⟨k,?_⟩;have:y≠x:=λe=>hj (OO hN e1 (e ▸ hi))
     simp[this,e]
    .exact .inr ⟨k,c,e,z.sameBut hs (lH y c e)⟩
  .obtain⟨w',z⟩:=I.cell y c e;exact⟨w',z.sameBut hs (lH y c e)⟩
  .obtain⟨e,n,ne,nf,d⟩:=I.pin p hp;exact⟨(hs.2 p.1 ne).trans e,n,ne,nf,d⟩
 .have D0:X.fn x=true:=by
   rcases hf with z|z
   .exact z
   .rw[z] at hk;cases hk
  obtain⟨c,hc⟩:=I.ok.has x (.inl hk);obtain⟨w',z⟩:=I.cell x c hc;refine wpAny_storeName_cell I.ok.kind hk hc z (λh' pW hs=>?_);obtain⟨oc,jP,VE⟩:=id z;refine h { s with heap:=h' } ⟨I.ok,I.os,I.bare,⟨λb o e n hb hx=>?_,λb o e n hb hx=>?_,I.base.free,λb o e hx=>?_,I.base.nJ,I.base.k8,I.base.m_⟩,⟨m,hn.sameBut hs (aej (lH x c hc)),λj y v' e1 e2 e3=>?_⟩,λy c' e=>?_,I.free,I.j_,λp hp=>?_,tracked ⟨oc,jP,I.j_ x c hc⟩ hs,by simpa using I.len,I.hq⟩ ⟨c,hs,.inr hc⟩
  .exact(hs.2 b (acU (adl (abD e) (I.ok.sG x c D0 hc)))).trans (I.base.keep b o e n hb hx)
  .obtain⟨sl,e1⟩:=I.base.slot b o e n hb hx;exact⟨sl,(hs.2 b (acU (adl (abD e) (I.ok.sG x c D0 hc)))).trans e1⟩
  .obtain⟨o',e1⟩:=I.base.there b o e hx;exact⟨o',(hs.2 b (acU (adl (abD e) (I.ok.sG x c D0 hc)))).trans e1⟩
  .by_cases hj:j=i
   .subst hj;rw[hi] at e1;cases e1;rw[ad9 JZ] at e2;cases e2;exact⟨u,r,.inr ⟨.inl hk,c,hc,pW⟩⟩
   .rw[adH (aej hj)] at e2;obtain⟨u',r',q⟩:=hl j y v' e1 e2 e3;refine⟨u',r',?_⟩;rcases q with q|⟨k,c',e,z'⟩
    .exact .inl q
    .refine .inr ⟨k,c',e,z'.sameBut hs ?_⟩
     rintro rfl
     exact hj (OO hN e1 (I.ok.inj _ _ _ e hc ▸ hi))
  .by_cases LD:c'=c
   .subst LD;exact⟨_,pW⟩
   .obtain⟨w2,z2⟩:=I.cell y c' e;exact⟨w2,z2.sameBut hs LD⟩
  .obtain⟨e,n,ne,nf,d⟩:=I.pin p hp;refine⟨(hs.2 p.1 ?_).trans e,n,ne,nf,d⟩;intro q;rw[q,jP] at e;have q':=aco e;exact d w' (by rw[<- q'];exact VE)
theorem D6{Q:Unit->Shared->Prop}(I:Inv X pins σ H s)(hN:X.N.Nodup)(hi:X.N[i]? = some x)(hx:Loc X.env.scope x)(r:RelV v u)
  (h:∀s',Inv X pins (σ.set i (some v)) H s'->Q () s') (hf:X.fn x=true\/X.env.scope.names.lookup x=some .local:=by first|exact .inl rfl|exact .inr rfl|assumption):wpAny M A (storeName X.env x u) Q E s:=
 NB I hN hi hx r (λs' I' _=>h s' I') hf
theorem Inv.Lw(I:Inv X pins σ H s)(ho:s'.os=s.os)(u:Un (jM X.stack) ch H H' s.heap s'.heap)(aI:dJ X.prog X.w H' s'.heap)(hg:AllBare s'.gens)
  (lE:∀b∈ch,(b∈X.ex\/X.d_.heap.objs.size<=b)/\b≠X.env.locals/\(∀x c,X.env.cells.lookup x=some c->c≠b)/\∀p∈X.pn++pins,p.1≠b):Inv X pins σ H' s':=by
 obtain⟨h',g',d',t',o'⟩:=s';have e:=ho;subst e;exact I.call (g':=g') (d':=d') u aI hg lE
end
noncomputable abbrev XK:=Value->Option Addr->Hp->Prop
noncomputable abbrev St:=List (Option V)
noncomputable abbrev VK:=V->Hp->Prop
noncomputable abbrev TE:=St->Hp->VK->Prop
noncomputable abbrev TT:=St->Hp->(Bool->Hp->Prop)->Prop
noncomputable abbrev TA:=St->Hp->(List V->Hp->Prop)->Prop
structure Ends where
 nx:St->Hp->Prop
 rt:VK
 bk:St->Hp->Prop:=λ_ _=>False
 ct:St->Hp->Prop:=λ_ _=>False
noncomputable abbrev TS:=Ends->St->Hp->Prop
def EP(X:Cx)(pins:List (Addr×Obj))(σ:St)(Q:VK)(u:Value)(s':Shared):Prop:=∃v H',Inv X pins σ H' s'/\RelV v u/\Q v H'
def TP(X:Cx)(pins:List (Addr×Obj))(σ:St)(Q:Bool->Hp->Prop)(b:Bool)(s':Shared):Prop:=∃H',Inv X pins σ H' s'/\Q b H'
def AP(X:Cx)(pins:List (Addr×Obj))(σ:St)(Q:List V->Hp->Prop)(us:List Value)(s':Shared):Prop:=∃vs H',Inv X pins σ H' s'/\aS vs us/\Q vs H'
def SP(X:Cx)(pins:List (Addr×Obj))(D:Ends)(f:Flow)(s':Shared):Prop:=
 match f with
 |.next=>∃aD H',Inv X pins aD H' s'/\D.nx aD H'
 |.brk=>∃aD H',Inv X pins aD H' s'/\D.bk aD H'
 |.cont=>∃aD H',Inv X pins aD H' s'/\D.ct aD H'
 |.ret u=>∃v aD H',Inv X pins aD H' s'/\RelV v u/\D.rt v H'
def PE(X:Cx)(e:Expr)(t:TE):Prop:=
 ∀(pins:List (Addr×Obj)) (s:Shared) (σ:St) (H:Hp) (Q:VK),Inv X pins σ H s->t σ H Q->wpAny (model X.prog X.w) X.A (eval e X.env) (EP X pins σ Q) X.xe s
def PT(X:Cx)(e:Expr)(t:TT):Prop:=
 ∀(pins:List (Addr×Obj)) (s:Shared) (σ:St) (H:Hp) (Q:Bool->Hp->Prop),Inv X pins σ H s->t σ H Q->wpAny (model X.prog X.w) X.A (isTrue e X.env (eval e X.env)) (TP X pins σ Q) X.xe s
def PW(X:Cx)(e:Expr)(t:TT):Prop:=
 ∀(whole:Sem Value) (pins:List (Addr×Obj)) (s:Shared) (σ:St) (H:Hp) (Q:Bool->Hp->Prop),Inv X pins σ H s->t σ H Q->wpAny (model X.prog X.w) X.A (isTrue e X.env whole) (TP X pins σ Q) X.xe s
theorem PW.pt{t:TT}(h:PW X e t):PT X e t:=h _
def PA(X:Cx)(es:List Expr)(t:TA):Prop:=
 ∀(pos:Pos) (pins:List (Addr×Obj)) (s:Shared) (σ:St) (H:Hp) (Q:List V->Hp->Prop),Inv X pins σ H s->t σ H Q->wpAny (model X.prog X.w) X.A (spliced (backTo pos (starEach es X.env))) (AP X pins σ Q) X.xe s
def PS(X:Cx)(st:Stmt)(t:TS):Prop:=
 ∀(pins:List (Addr×Obj)) (s:Shared) (σ:St) (H:Hp) (D:Ends),Inv X pins σ H s->t D σ H->wpAny (model X.prog X.w) X.A (exec st X.env) (SP X pins D) X.xe s
def gK(X:Cx)(st:List Stmt)(t:TS):Prop:=
 ∀(pins:List (Addr×Obj)) (s:Shared) (σ:St) (H:Hp) (D:Ends),Inv X pins σ H s->t D σ H->wpAny (model X.prog X.w) X.A (execs st X.env) (SP X pins D) X.xe s
theorem aQ{α:Type}{t:Sem α}{Q Q':α->Shared->Prop}(h:wpAny M A t Q E s)(hQ:∀a s,Q a s->Q' a s):wpAny M A t Q' E s:=adE h hQ λ_ _ x=>x
section
variable{X:Cx}
theorem bin(ha:PE X a ta)(hb:PE X b tb){R:V->V->Hp->Prop}(I:Inv X pins σ H s)(h:ta σ H λx H1=>tb σ H1 λy H2=>R x y H2)
  {α:Type}{Q:α->Shared->Prop}{f:Value->Value->Sem α}
  (hf:∀v u s2 x y H2,Inv X pins σ H2 s2->RelV x v->RelV y u->R x y H2->wpAny (model X.prog X.w) X.A (f v u) Q X.xe s2) :
  wpAny (model X.prog X.w) X.A (eval a X.env) (λv bu=>wpAny (model X.prog X.w) X.A (eval b X.env) (λu jz=>wpAny (model X.prog X.w) X.A (f v u) Q X.xe jz) X.xe bu) X.xe s:=by
 refine aQ (ha pins s σ H _ I h) λv s1 ⟨x,H1,I1,r1,q1⟩=>?_
 refine aQ (hb pins s1 σ H1 _ I1 q1) λu s2 ⟨y,H2,I2,r2,q2⟩=>?_
 exact hf v u s2 x y H2 I2 r1 r2 q2
def Ar(i:Nat):TE:=λσ H Q=>∃v,σ[i]? = some (some v)/\Q v H
def tC(v:V):TE:=λ_ H Q=>Q v H
theorem gX(hN:X.N[i]? = some x)(hv:gP X.env.scope x)(hd:(x==("__debug__":Str))=false:=by decide)(cQ:(x==("__classdict__":Str))=false:=by decide):PE X (.Name x pos) (Ar i):=by
 intro pins s σ H Q I h;obtain⟨v,e,h⟩:=h;obtain⟨m,hn,hl⟩:=I.loc;obtain⟨u,r,l⟩:=hl i x v hN e hv;have fin:EP X pins σ Q u s:=⟨v,H,I,r,h⟩
 rcases l with⟨hk,hm⟩|⟨hk,c,hc,N7⟩
 .exact wpAny_Name (wpAny_loadName_local I.ok.kind hk hn hm fin) hd
 .rcases hk with hk|hk
  .exact wpAny_Name (wpAny_loadName_cell I.ok.kind hk hc N7 fin) hd
  .exact wpAny_Name (wpAny_loadName_free I.ok.kind hk hc N7 fin cQ) hd
theorem DK{i j pos}:PE X (.Constant (.int i) j pos) (tC (.int i)):=λ_ _ _ H _ I h=>wpAny_Constant_int ⟨.int i,H,I.tok _,⟨_,rfl⟩,h⟩
theorem ZY{b j pos}:PE X (.Constant (.bool b) j pos) (tC (.bl b)):=λ_ _ _ H _ I h=>Constant_bool ⟨.bl b,H,I,rfl,h⟩
theorem O_{j pos}:PE X (.Constant .none j pos) (tC .aE):=λ_ _ _ H _ I h=>Constant_none ⟨.aE,H,I,rfl,h⟩
def Gl(X:Cx)(x:Str):Prop:=X.env.kindOf x=some .globalImplicit
theorem Gd(I:Inv X pins σ H s)(hg:Gl X x)(hm:X.mg x=some u)(h:Q u s)
  (hd:(x==("__debug__":Str))=false:=by decide):wpAny (model X.prog X.w) X.A (eval (.Name x pos) X.env) Q E s:=
 Calls.Name_function_global I.ok.kind hg (Calls.loadGlobal_global (by rw[I.ok.glob];exact I.mod.glob.keeps I.bk) hm h) hd
theorem lK(I:Inv X pins σ H s)(hg:Gl X x)(hm:X.mg x=none)(hv:bootBuiltins x=some u)(h:Q u s)
  (hn:x≠"__name__":=by decide) (hd:(x==("__debug__":Str))=false:=by decide):wpAny (model X.prog X.w) X.A (eval (.Name x pos) X.env) Q E s:=by
 obtain⟨mb,h1,h2⟩:=I.mod.blt;exact Calls.Name_function_global I.ok.kind hg (Calls.loadGlobal_builtin (by rw[I.ok.glob];exact I.mod.glob.keeps I.bk) hm (by rw[I.ok.blt];exact h1.keeps I.bk) ((h2 x hn).trans hv) h) hd
theorem QF(hg:Gl X x)(hm:X.mg x=some u)(r:RelV v u)(hd:(x==("__debug__":Str))=false:=by decide):PE X (.Name x pos) (tC v):=
 λ_ _ _ H _ I h=>Gd I hg hm ⟨v,H,I,r,h⟩ hd
theorem J2(hg:Gl X x)(hm:X.mg x=none)(hv:bootBuiltins x=some u)(r:RelV v u)(hn:x≠"__name__":=by decide)(hd:(x==("__debug__":Str))=false:=by decide):PE X (.Name x pos) (tC v):=
 λ_ _ _ H _ I h=>lK I hg hm hv ⟨v,H,I,r,h⟩ hn hd
variable{a b:Expr}{ta tb:TE}{pos:Pos}
def PC(X:Cx)(op:CmpOp)(a b:Expr)(t:TE):Prop:=
 ∀(pins:List (Addr×Obj)) (s:Shared) (σ:St) (H:Hp) (Q:VK),Inv X pins σ H s->t σ H Q->
  wpAny (model X.prog X.w) X.A (eval a X.env) (λv bu=>wpAny (model X.prog X.w) X.A (eval b X.env) (λu jz=>wpAny (model X.prog X.w) X.A (compareOp op v u) (EP X pins σ Q) X.xe jz) X.xe bu) X.xe s
def tB(t:TE):TT:=λσ H Q=>t σ H λx H1=>∃c,x=.bl c/\Q c H1
theorem Zr{op:CmpOp}(h:PC X op a b t)(h1:behindInMarks op b=false:=by first|exact Ve _ (by decide) (by decide)|rfl):PE X (.Compare a [op] [b] pos) t:=λpins s σ H Q I hw=>wpAny_Compare1 (h pins s σ H Q I hw) h1
theorem ac3{op:CmpOp}(h:PC X op a b t)(h1:behindInMarks op b=false:=by first|exact Ve _ (by decide) (by decide)|rfl):PT X (.Compare a [op] [b] pos) (tB t):=by
 intro pins s σ H Q I hw;refine wpAny_isTrue_Compare1 (aQ (h pins s σ H _ I hw) λv s1 h1=>aQ h1 λu s2 h2=>aQ h2 λc s3 ⟨x,H1,I1,r1,q1⟩=>?_) h1;obtain⟨d,rfl,q⟩:=q1;cases r1;exact aet ⟨H1,I1,q⟩
theorem abE(h:PE X e t)(he:∀whole,isTrue e X.env whole=(do let v <- whole;standAt e.pos;holding [v] (truthy v)):=by intro _;rfl):PT X e (tB t):=by
 intro pins s σ H Q I hw;refine isTrue_plain (aQ (h pins s σ H _ I hw) λv s1 ⟨x,H1,I1,r1,q1⟩=>?_) (he _);obtain⟨d,rfl,q⟩:=q1;cases r1;exact aet ⟨H1,I1,q⟩
variable{tA AJ:TT}{rest:List Expr}
def TR(t u:TT):TT:=λσ H Q=>t σ H λc H1=>if c=true then u σ H1 Q else Q false H1
def tOr(t u:TT):TT:=λσ H Q=>t σ H λc H1=>if c=true then Q true H1 else u σ H1 Q
def Y7(t:TT):TT:=λσ H Q=>t σ H λc H1=>Q (!c) H1
theorem abR(ha:PT X a tA):PW X (.BoolOp .And [a] pos) tA:=by
 intro wh pins s σ H Q I h;refine isTrue_and (aQ (ha pins s σ H Q I h) λc s1 e=>?_);cases c with
 |true=>exact isTrue_and_nil e
 |false=>exact e
theorem acA(ha:PT X a tA):PW X (.BoolOp .Or [a] pos) tA:=by
 intro wh pins s σ H Q I h;refine isTrue_or (aQ (ha pins s σ H Q I h) λc s1 e=>?_);cases c with
 |false=>exact isTrue_or_nil e
 |true=>exact e
theorem RS(ha:PT X a tA)(hb:PW X (.BoolOp .And (b::rest) pos) AJ):PW X (.BoolOp .And (a::b::rest) pos) (TR tA AJ):=by
 intro wh pins s σ H Q I h;refine isTrue_and (aQ (ha pins s σ H _ I h) λc s1 ⟨H1,I1,q1⟩=>?_);cases c with
 |true=>exact hb wh pins s1 σ H1 Q I1 q1
 |false=>exact⟨H1,I1,q1⟩
theorem SV(ha:PT X a tA)(hb:PW X (.BoolOp .Or (b::rest) pos) AJ):PW X (.BoolOp .Or (a::b::rest) pos) (tOr tA AJ):=by
 intro wh pins s σ H Q I h;refine isTrue_or (aQ (ha pins s σ H _ I h) λc s1 ⟨H1,I1,q1⟩=>?_);cases c with
 |true=>exact⟨H1,I1,q1⟩
 |false=>exact hb wh pins s1 σ H1 Q I1 q1
theorem Yi(ha:PT X a tA):PT X (.UnaryOp .Not a pos) (Y7 tA):=by
 intro pins s σ H Q I h;exact isTrue_not (ha pins s σ H (λc H1=>Q (!c) H1) I h)
def aak(ta tb:TE):TE:=λσ H Q=>ta σ H λx H1=>∃c,x=.bl c/\if c=true then tb σ H1 Q else Q (.bl false) H1
def Qq(ta:TE):TE:=λσ H Q=>ta σ H λx H1=>∃c,x=.bl c/\Q (.bl (!c)) H1
theorem Uy{op}(h:PE X a t):PE X (.BoolOp op [a] pos) t:=λpins s σ H Q I hw=>BoolOp_one (h pins s σ H Q I hw)
theorem PZ(ha:PE X a ta)(hb:PE X (.BoolOp .And (b::rest) pos) tb):PE X (.BoolOp .And (a::b::rest) pos) (aak ta tb):=by
 intro pins s σ H Q I h;refine BoolOp_and (aQ (ha pins s σ H _ I h) λv s1 ⟨x,H1,I1,r1,q1⟩=>?_);obtain⟨c,rfl,q1⟩:=q1;cases r1;refine aet ?_;cases c with
 |true=>exact hb pins s1 σ H1 Q I1 q1
 |false=>exact⟨.bl false,H1,I1,rfl,q1⟩
theorem Po(ha:PE X a ta):PE X (.UnaryOp .Not a pos) (Qq ta):=by
 intro pins s σ H Q I h;refine UnaryOp_ (aQ (ha pins s σ H _ I h) λv s1 ⟨x,H1,I1,r1,q1⟩=>?_);obtain⟨c,rfl,q1⟩:=q1;cases r1;exact not_of (aet ⟨.bl (!c),H1,I1,rfl,q1⟩)
end
def bQ(K:PySem.W.Frag)(H:Hp)(a:Addr)(xs:List V):Prop:=
 Rd H a (.lst xs)\/
  ∃(o:Obj) (aq:Array Value) (n:Nat),K.lookup a=some o/\o.cls=.type "list"/\o.dict=none/\o.data=.seq aq n/\aq.size<=sizeLine/\aS xs aq.toList
def cA(K:PySem.W.Frag)(H:Hp)(a:Addr)(xs:List V):Prop:=
 Rd H a (.tup xs)\/
  ∃(o:Obj) (aq:Array Value) (n:Nat),K.lookup a=some o/\o.cls=.type "tuple"/\o.dict=none/\o.data=.seq aq n/\aq.size<=sizeLine/\aS xs aq.toList
noncomputable def Vw:Value->Option V
 |.none=>some .aE
 |.bool b=>some (.bl b)
 |.int i _=>some (.int i)
 |.str x _=>some (.str x)
 |.bytes b _=>some (.jR b)
 |.float b _=>some (.qi b)
 |.ref a=>some (.ref a)
 |.type n=>some (.ty n)
 |_=>none
theorem RelV.abs(r:RelV x u):Vw u=some x:=by
 cases x with
 |aE=>cases r;rfl
 |bl _=>cases r;rfl
 |int _=>obtain⟨t,rfl⟩:=r;rfl
 |str _=>obtain⟨t,rfl⟩:=r;rfl
 |jR _=>obtain⟨t,rfl⟩:=r;rfl
 |qi _=>obtain⟨t,rfl⟩:=r;rfl
 |ref _=>cases r;rfl
 |ty _=>cases r;rfl
theorem RelV.inj(r:RelV x u)(q:RelV y u):x=y:=aco (r.abs.symm.trans q.abs)
theorem aS.inj:∀{xs ys:List V}{us:List Value},aS xs us->aS ys us->xs=ys
 |_,_,_,.nil,.nil=>rfl
 |_,_,_,.cons r t,.cons r' t'=>by rw[r.inj r',aS.inj t t']
section
variable{X:Cx}{pins:List (Addr×Obj)}{σ:St}{H:Hp}{s:Shared}{a:Addr}{xs ys:List V}
theorem bQ.of{K:PySem.W.Frag}(h:H a=some (.lst xs)):bQ K H a xs:=.inl (.inl h)
theorem cA.of{K:PySem.W.Frag}(h:H a=some (.tup xs)):cA K H a xs:=.inl (.inl h)
theorem Inv.list(I:Inv X pins σ H s)(h:bQ X.K H a xs):∃aq:List Value,aS xs aq/\PlainL s.heap a aq.toArray/\xs.length<=sizeLine:=by
 rcases h with h|⟨o,aq,n,hk,hc,hd,hs,hz,r⟩
 .obtain⟨z,aq,n,r,e⟩:=h.ok I.aI;exact⟨aq,r,⟨_,n,e,rfl,rfl,rfl⟩,z⟩
 .refine⟨aq.toList,r,⟨o,n,I.d9 a o hk,hc,hd,by simpa using hs⟩,?_⟩;have e:=r.length;simp only[acg] at e;omega
theorem Inv.Ue(I:Inv X pins σ H s)(h:cA X.K H a xs):∃aq:List Value,aS xs aq/\mS s.heap a aq.toArray/\xs.length<=sizeLine:=by
 rcases h with h|⟨o,aq,n,hk,hc,hd,hs,hz,r⟩
 .obtain⟨z,aq,r,p⟩:=h.ok I.aI;exact⟨aq,r,p,z⟩
 .refine⟨aq.toList,r,⟨o,I.d9 a o hk,hc,hd,n,by simpa using hs⟩,?_⟩;have e:=r.length;simp only[acg] at e;omega
theorem Inv.tuple(I:Inv X pins σ H s)(h:cA X.K H a xs):∃aq:List Value,aS xs aq/\IsTup s.heap a aq.toArray/\xs.length<=sizeLine:=by
 rcases h with h|⟨o,aq,n,hk,hc,hd,hs,hz,r⟩
 .obtain⟨z,aq,r,p⟩:=h.ok I.aI;exact⟨aq,r,p.isTup,z⟩
 .refine⟨aq.toList,r,⟨o,I.d9 a o hk,hc,n,by simpa using hs⟩,?_⟩;have e:=r.length;simp only[acg] at e;omega
theorem Inv.Ex(I:Inv X pins σ H s)(h:bQ X.K H a xs)(h':bQ X.K H a ys):xs=ys:=by
 obtain⟨aq,r,⟨o,n,e,_,_,d⟩,_⟩:=I.list h;obtain⟨its',r',⟨o',n',e',_,_,d'⟩,_⟩:=I.list h';rw[e] at e';cases e';rw[d] at d';injection d' with d1 _;have:aq=its':=by simpa using congrArg Array.toList d1
 subst this;exact r.inj r'
theorem Inv.F8(I:Inv X pins σ H s)(h:cA X.K H a xs)(h':cA X.K H a ys):xs=ys:=by
 obtain⟨aq,r,⟨o,e,_,n,d⟩,_⟩:=I.tuple h;obtain⟨its',r',⟨o',e',_,n',d'⟩,_⟩:=I.tuple h';rw[e] at e';cases e';rw[d] at d';injection d' with d1 _;have:aq=its':=by simpa using congrArg Array.toList d1
 subst this;exact r.inj r'
end
noncomputable abbrev Cx.jt(X:Cx)(E:Value->Shared->Prop):Cx:={ X with xe:=E }
noncomputable abbrev Cx.gq(X:Cx):Cx:=X.jt λ_ _=>False
theorem Cx.Ok.jt{X:Cx}(ok:X.Ok)(E:Value->Shared->Prop):(X.jt E).Ok:=
 ⟨ok.mod,ok.kind,ok.glob,ok.blt,ok.above,ok.inj,ok.has,ok.sG,ok.hd,ok.frames,ok.um,ok.yG,ok.bs,ok.jW,ok.sJ,ok.qU,ok.jw,ok.om⟩
theorem Cx.Ok.kX{X:Cx}{E:Value->Shared->Prop}(ok:(X.jt E).Ok):X.Ok:=
 ⟨ok.mod,ok.kind,ok.glob,ok.blt,ok.above,ok.inj,ok.has,ok.sG,ok.hd,ok.frames,ok.um,ok.yG,ok.bs,ok.jW,ok.sJ,ok.qU,ok.jw,ok.om⟩
section
variable{X:Cx}{pins:List (Addr×Obj)}{σ:St}{H:Hp}{s:Shared}{E:Value->Shared->Prop}
theorem Inv.jt(I:Inv X pins σ H s)(E:Value->Shared->Prop):Inv (X.jt E) pins σ H s:=⟨I.ok.jt E,I.os,I.bare,I.base,I.loc,I.cell,I.free,I.j_,I.pin,I.aI,I.len,I.hq⟩
theorem Inv.kX(I:Inv (X.jt E) pins σ H s):Inv X pins σ H s:=⟨I.ok.kX,I.os,I.bare,I.base,I.loc,I.cell,I.free,I.j_,I.pin,I.aI,I.len,I.hq⟩
theorem SP.kX{D:Ends}{f:Flow}(h:SP (X.jt E) pins D f s'):SP X pins D f s':=by
 cases f with
 |next=>obtain⟨aD,H',I,q⟩:=h;exact⟨aD,H',I.kX,q⟩
 |brk=>obtain⟨aD,H',I,q⟩:=h;exact⟨aD,H',I.kX,q⟩
 |cont=>obtain⟨aD,H',I,q⟩:=h;exact⟨aD,H',I.kX,q⟩
 |ret u=>obtain⟨v,aD,H',I,r,q⟩:=h;exact⟨v,aD,H',I.kX,r,q⟩
theorem gK.gq{st:List Stmt}(h:gK X.gq st t):gK X st t:=λpins s σ H D I hw=>
 adE (h pins s σ H D (I.jt _) hw) (λ_ _ q=>q.kX) λ_ _ z=>False.elim z
end
section
variable{X:Cx}{st:Stmt}{rest:List Stmt}{t u:TS}{e:Expr}{te:TE}{pos:Pos}
def acC:TS:=λD σ H=>D.nx σ H
def Va(t u:TS):TS:=λD σ H=>t { D with nx:=u D } σ H
theorem HA:gK X [] acC:=λ_ _ σ H _ I h=>wpAny_execs_nil ⟨σ,H,I,h⟩
theorem xY(h1:PS X st t)(h2:gK X rest u):gK X (st::rest) (Va t u):=by
 intro pins s σ H D I h;refine wpAny_execs_cons (aQ (h1 pins s σ H { D with nx:=u D } I h) λf s1 q=>?_);cases f with
 |next=>
  obtain⟨aD,H',I',q⟩:=q;exact h2 pins s1 aD H' D I' q
 |ret v=>exact q
 |brk=>exact q
 |cont=>exact q
theorem tU(h1:PS X st t):gK X [st] t:=by
 intro pins s σ H D I h;refine wpAny_execs_cons (aQ (h1 pins s σ H D I h) λf s1 q=>?_);cases f with
 |next=>exact wpAny_execs_nil q
 |ret v=>exact q
 |brk=>exact q
 |cont=>exact q
theorem Inv.quiet(I:Inv X pins σ H s):interactive X.env=false:=by simp[interactive,I.ok.kind]
def Vs(te:TE):TS:=λD σ H=>te σ H λ_ H1=>D.nx σ H1
theorem qR(he:PE X e te)(hs:swapsWith e none pos.line X.env=pure false:=by rfl):PS X (.Expr e pos) (Vs te):=by
 intro pins s σ H D I h;exact wpAny_Expr_any (aQ (he pins s σ H _ I h) λv s1 ⟨x,H1,I1,r1,q1⟩=>⟨σ,H1,I1,q1⟩) I.quiet hs
def Z0(te:TE):TS:=λD σ H=>te σ H D.rt
theorem oW(he:PE X e te):PS X (.Return (some e) pos) (Z0 te):=by
 intro pins s σ H D I h;exact wpAny_Return_some (aQ (he pins s σ H _ I h) λv s1 ⟨x,H1,I1,r1,q1⟩=>⟨x,σ,H1,I1,r1,q1⟩)
def aaZ(c:TT)(t u:TS):TS:=λD σ H=>c σ H λb H1=>if b=true then t D σ H1 else u D σ H1
theorem Cg{tc:TT}(hc:PT X c tc)(ha:gK X a t)(hb:gK X b u):PS X (.If c a b pos) (aaZ tc t u):=by
 intro pins s σ H D I h;refine wpAny_If (aQ (hc pins s σ H _ I h) λd s1 ⟨H1,I1,q1⟩=>?_);cases d with
 |true=>exact ha pins s1 σ H1 D I1 q1
 |false=>exact hb pins s1 σ H1 D I1 q1
def Vy:TS:=λ_ _ _=>False
theorem HR:PS X st Vy:=λ_ _ _ _ _ _ h=>h.elim
end
noncomputable abbrev TG:=V->St->Hp->(St->Hp->Prop)->Prop
noncomputable abbrev qk:=List V->St->Hp->(St->Hp->Prop)->Prop
def PG(X:Cx)(target:Expr)(t:TG):Prop:=
 ∀(pins:List (Addr×Obj)) (s:Shared) (σ:St) (H:Hp) (v:V) (u:Value) (Q:St->Hp->Prop),Inv X pins σ H s->RelV v u->t v σ H Q->
  wpAny (model X.prog X.w) X.A (assign target X.env u) (λ_ s'=>∃aD H',Inv X pins aD H' s'/\Q aD H') X.xe s
def wc(X:Cx)(ts:List Expr)(t:qk):Prop:=
 ∀(pins:List (Addr×Obj)) (s:Shared) (σ:St) (H:Hp) (vs:List V) (us:List Value) (Q:St->Hp->Prop),Inv X pins σ H s->aS vs us->t vs σ H Q->
  wpAny (model X.prog X.w) X.A (assignInOrder ((assignEach ts X.env).map (·.2)) us) (λ_ s'=>∃aD H',Inv X pins aD H' s'/\Q aD H') X.xe s
section
variable{X:Cx}{pos:Pos}
def xu(i:Nat):TG:=λv σ H Q=>Q (σ.set i (some v)) H
theorem SD(hN:X.N.Nodup)(hi:X.N[i]? = some x)(hx:Loc X.env.scope x)(hf:X.fn x=true\/X.env.scope.names.lookup x=some .local:=by first|exact .inl rfl|exact .inr rfl|assumption):PG X (.Name x pos) (xu i):=by
 intro pins s σ H v u Q I r h;exact wpAny_assign_Name (D6 I hN hi hx r (λs' I'=>⟨_,H,I',h⟩) hf)
def Qz:qk:=λvs σ H Q=>vs=[]/\Q σ H
def aay(t:TG)(u:qk):qk:=λvs σ H Q=>∃v r,vs=v::r/\t v σ H λaD H'=>u r aD H' Q
theorem aaT:wc X [] Qz:=by
 intro pins s σ H vs us Q I r h;obtain⟨e,h⟩:=h;subst e;cases r;exact assignInOrder_nil ⟨σ,H,I,h⟩
theorem Q9{u:qk}(h1:PG X e t)(h2:wc X es u)
  (hs:(assignEach (e::es) X.env).map (·.2)=assign e X.env::(assignEach es X.env).map (·.2):=by rfl):wc X (e::es) (aay t u):=by
 intro pins s σ H vs us Q I r h;obtain⟨v,vr,e1,h⟩:=h;subst e1;cases r with
 |cons r rr=>
  rw[hs];refine assignInOrder_cons (aQ (h1 pins s σ H _ _ _ I r h) λ_ s1 ⟨wA,H1,I1,q1⟩=>?_);exact h2 pins s1 wA H1 _ _ Q I1 rr q1
def O3(K:PySem.W.Frag)(n:Nat)(t:qk):TG:=λv σ H Q=>∃a xs,v=.ref a/\cA K H a xs/\xs.length=n/\t xs σ H Q
theorem Zw{t:qk}(hc:X.calm=true)(h:wc X es t)
  (hn:(assignEach es X.env).length=n:=by rfl) (ig:(assignEach es X.env).findIdx? (·.1)=none:=by rfl):PG X (.Tuple es k pos) (O3 X.K n t):=by
 intro pins s σ H v u Q I r hw;obtain⟨a,xs,e1,hq,hl,hw⟩:=hw;subst e1;cases r;obtain⟨aq,rv,ht,hz⟩:=I.tuple hq;refine assign_Tuple_tuple (I.ok.hd hc) ht (by simp[hn,<- hl,rv.length]) ig λh' hx=>?_
 have I1:=I.kept (t':=s.toks) λb o e=>hx b o (acU (abD e)) e
 exact h pins _ σ H xs _ Q I1 (by simpa using rv) hw
def HX(te:TE)(g:TG):TS:=λD σ H=>te σ H λx H1=>g x σ H1 D.nx
theorem LB(hN:X.N.Nodup)(hi:X.N[i]? = some x)(hx:Loc X.env.scope x)(he:PE X e te)(hs:swapsWith e (some (.Name x pos')) pos.line X.env=pure false:=by rfl)(hf:X.fn x=true\/X.env.scope.names.lookup x=some .local:=by first|exact .inl rfl|exact .inr rfl|assumption):
  PS X (.Assign [.Name x pos'] e pos) (HX te (xu i)):=by
 intro pins s σ H D I h;refine wpAny_Assign_Name (aQ (he pins s σ H _ I h) λv s1 ⟨y,H1,I1,r1,q1⟩=>?_) hs;exact D6 I1 hN hi hx r1 (λs2 I2=>⟨_,H1,I2,q1⟩) hf
end
structure It where
 go:Nat->Hp->Prop
 uu:Nat->Hp->V->Hp->Prop
 stop:Nat->Hp->Prop
 rg:Bool
def iX(X:Cx)(pins:List (Addr×Obj))(H:Hp)(b:Addr):Prop:=
 H b=none/\b≠X.env.locals/\b∉X.fs/\(b∈X.ex\/X.d_.heap.objs.size<=b)/\(∀x c,X.env.cells.lookup x=some c->c≠b)/\∀p∈X.pn++pins,p.1≠b
theorem Inv.se(I:Inv X pins σ H s)(hb:s.heap.objs.size<=b)(hn:H' b=none):iX X pins H' b:=by
 refine⟨hn,adY (adl I.lt hb),I.Qh hb,.inr (adX I.sz hb),λx c e z=>?_,λp hp z=>?_⟩
 .obtain⟨v,q⟩:=I.cell x c e;exact absurd (adl q.lt (by rw[z];exact hb)) (adx _)
 .exact absurd (adl (abD (I.pin p hp).1) (by rw[z];exact hb)) (adx _)
structure Turn(P:Program)(w:World)(K:PySem.W.Frag)(tg:Expr)(J:It)(fp:List Addr)(it:Addr)(tn:Nat->Heap->Prop):Prop where
 mem:it∈fp
 obj:∀i h,tn i h->∀b∈fp,∃o,h.get? b=some o/\∀v,o.data≠.cell v
 keep:∀i h h',tn i h->(∀b∈fp,∀o,h.get? b=some o->h'.get? b=some o)->tn i h'
 item:∀(X:Cx),X.prog=P->X.w=w->X.K=K->(X.calm=true\/J.rg=true)->∀(i:Nat) (pins:List (Addr×Obj)) (s:Shared) (σ:St) (H:Hp) (E:Value->Shared->Prop),Inv X pins σ H s->(∀b∈fp,iX X pins H b)->tn i s.heap->J.go i H->
  wpAny (model P w) X.A (pyNext (.ref it)) (λr s1=>∃u,r=some u/\
   wpAny (model P w) X.A (letOwnedTupleGo tg (.ref it) u) (λ_ s2=>∃x H',Inv X pins σ H' s2/\RelV x u/\J.uu i H x H'/\tn (i+1) s2.heap/\∀b∈fp,H' b=none) E s1) E s
 done:∀(X:Cx),X.prog=P->X.w=w->X.K=K->(X.calm=true\/J.rg=true)->∀(i:Nat) (pins:List (Addr×Obj)) (s:Shared) (σ:St) (H:Hp) (E:Value->Shared->Prop),Inv X pins σ H s->(∀b∈fp,iX X pins H b)->tn i s.heap->J.stop i H->
  wpAny (model P w) X.A (pyNext (.ref it)) (λr s1=>r=none/\Inv X pins σ H s1) E s
 self:∀(A:Around) (i:Nat) (s:Shared) (Q:Value->Shared->Prop) (E:Value->Shared->Prop),tn i s.heap->Q (.ref it) s->wpAny (model P w) A (pyIter (.ref it)) Q E s
noncomputable abbrev TI:=St->Hp->(It->Hp->Prop)->Prop
def JR(X:Cx)(pins:List (Addr×Obj))(σ:St)(tg:Expr)(R:It->Hp->Prop)(Ao:Value)(s2:Shared):Prop:=
 ∃(it:Addr) (fp:List Addr) (tn:Nat->Heap->Prop) (J:It) (H':Hp),Ao=.ref it/\Inv X pins σ H' s2/\Turn X.prog X.w X.K tg J fp it tn/\tn 0 s2.heap/\(∀b∈fp,iX X pins H' b)/\R J H'
def PI(X:Cx)(tg iter:Expr)(wi:TI):Prop:=
 ∀(pins:List (Addr×Obj)) (s:Shared) (σ:St) (H:Hp) (R:It->Hp->Prop),Inv X pins σ H s->wi σ H R->
  wpAny (model X.prog X.w) X.A (eval iter X.env) (λv s1=>wpAny (model X.prog X.w) X.A (pyIter v) (JR X pins σ tg R) X.xe s1) X.xe s
theorem Dw{n:String}{Q:Unit->Shared->Prop}(ho:s.heap.get? it=some o)(hc:o.cls=.type n)(hd:o.data=.fields vs)
    (hn:["enumerate","zip","dict_itemiterator","dict_reverseitemiterator","odict_iterator","itertools.zip_longest","itertools.pairwise"].contains n=false) (hQ:Q () s):wpAny M A (letOwnedTupleGo tg (.ref it) u) Q E s:=by
  unfold letOwnedTupleGo;cases tg<;>first
    |exact aa1 hQ
    | (cases u <;> first
        |exact aa1 hQ
        | (refine aaf (wpAny_load ho ?_)
           rw[hc,hd];show wpAny M A (if(["enumerate","zip","dict_itemiterator","dict_reverseitemiterator","odict_iterator","itertools.zip_longest","itertools.pairwise"].contains n&&vs[0]?==some (rawInt _))=true then _ else _) Q E s;rw[if_neg (by intro h;rw[hn,Bool.false_and] at h;cases h)];exact aa1 hQ))
noncomputable def zR(K:PySem.W.Frag)(a:Addr):It:=
 ⟨λi H=>∃xs x,bQ K H a xs/\xs[i]? = some x,λi H x H'=>H'=H/\∀xs,bQ K H a xs->xs[i]? = some x,λi H=>∃xs,bQ K H a xs/\xs.length<=i,false⟩
noncomputable def BB(K:PySem.W.Frag)(a:Addr):It:=
 ⟨λi H=>∃xs x,cA K H a xs/\xs[i]? = some x,λi H x H'=>H'=H/\∀xs,cA K H a xs->xs[i]? = some x,λi H=>∃xs,cA K H a xs/\xs.length<=i,false⟩
noncomputable def qz(lo:Int)(n:Nat):It:=⟨λi _=>i<n,λi H x H'=>H'=H/\x=.int (lo+i),λi _=>n<=i,true⟩
theorem aaz{K:PySem.W.Frag}(a it:Addr):Turn P w K tg (zR K a) [it] it (λi h=>h.IsListIter it a i) where
 mem:=by simp
 obj:=λi h st b hb=>by
  have e:b=it:=by simpa using hb
  subst e;obtain⟨o,e,c,d⟩:=st;exact⟨o,e,λv z=>by rw[d] at z;cases z⟩
 keep:=λi h h' st k=>st.at λo e=>k it (by simp) o e
 item:=by
  intro X hP hw hK hc i pins s σ H E I hf st hg;subst hP hw hK;obtain⟨xs,x,hq,hx⟩:=hg;obtain⟨aq,rv,p,hz⟩:=I.list hq;obtain⟨u,hu,ru⟩:=rv.get hx;obtain⟨f0,f1,f2,f3,f4,f5⟩:=hf it (by simp);refine wpAny_pyNext_list_item st p.isList (by simpa using hu) λh' ak sb=>?_
  have I1:Inv X pins σ H { s with heap:=h' }:=I.turned (λb o hb e=>(sb.2 b hb).trans e) f0 f1 f3 f4 f5;obtain⟨o,e,c,d⟩:=id ak;exact⟨u,rfl,Dw e c d (by decide) ⟨x,H,I1,ru,⟨rfl,λys hy=>by rw[I.Ex hy hq];exact hx⟩,ak,λb hb=>(hf b hb).1⟩⟩
 done:=by
  intro X hP hw hK hc i pins s σ H E I hf st hg;subst hP hw hK;obtain⟨xs,hq,hx⟩:=hg;obtain⟨aq,rv,p,hz⟩:=I.list hq;obtain⟨f0,f1,f2,f3,f4,f5⟩:=hf it (by simp);have hl:=rv.length;exact wpAny_pyNext_list_end (I.ok.hd (hc.resolve_right λz=>ab3 z)) st p.isList (by simp;omega) λh' eb=>⟨rfl,I.turned (λb o hb e=>eb b o hb e) f0 f1 f3 f4 f5⟩
 self:=λ_ _ _ _ _ st h=>wpAny_pyIter_listiter st h
theorem Xu{K:PySem.W.Frag}(a it:Addr):Turn P w K tg (BB K a) [it] it (λi h=>h.IsTupleIter it a i) where
 mem:=by simp
 obj:=λi h st b hb=>by
  have e:b=it:=by simpa using hb
  subst e;obtain⟨o,e,c,d⟩:=st;exact⟨o,e,λv z=>by rw[d] at z;cases z⟩
 keep:=λi h h' st k=>st.at λo e=>k it (by simp) o e
 item:=by
  intro X hP hw hK hc i pins s σ H E I hf st hg;subst hP hw hK;obtain⟨xs,x,hq,hx⟩:=hg;obtain⟨aq,rv,p,hz⟩:=I.tuple hq;obtain⟨u,hu,ru⟩:=rv.get hx;obtain⟨f0,f1,f2,f3,f4,f5⟩:=hf it (by simp);refine wpAny_pyNext_tuple_item st (show s.heap.IsTuple a aq.toArray from p) (by simpa using hu) λh' ak sb=>?_
  have I1:Inv X pins σ H { s with heap:=h' }:=I.turned (λb o hb e=>(sb.2 b hb).trans e) f0 f1 f3 f4 f5;obtain⟨o,e,c,d⟩:=id ak;exact⟨u,rfl,Dw e c d (by decide) ⟨x,H,I1,ru,⟨rfl,λys hy=>by rw[I.F8 hy hq];exact hx⟩,ak,λb hb=>(hf b hb).1⟩⟩
 done:=by
  intro X hP hw hK hc i pins s σ H E I hf st hg;subst hP hw hK;obtain⟨xs,hq,hx⟩:=hg;obtain⟨aq,rv,p,hz⟩:=I.tuple hq;obtain⟨f0,f1,f2,f3,f4,f5⟩:=hf it (by simp);have hl:=rv.length;exact wpAny_pyNext_tuple_end (I.ok.hd (hc.resolve_right λz=>ab3 z)) st (show s.heap.IsTuple a aq.toArray from p) (by simp;omega) λh' eb=>⟨rfl,I.turned (λb o hb e=>eb b o hb e) f0 f1 f3 f4 f5⟩
 self:=λ_ _ _ _ _ st h=>wpAny_pyIter_tupleiter st h
theorem aau{K:PySem.W.Frag}(it:Addr)(lo:Int)(n:Nat):Turn P w K tg (qz lo n) [it] it (λi h=>IsRangeIter h it (lo+(i:Nat)*1) ((n:Int)-(i:Nat)) 1) where
 mem:=by simp
 obj:=λi h st b hb=>by
  have e:b=it:=by simpa using hb
  subst e;exact⟨_,st,λv z=>by
   have z':Data.fields _=Data.cell v:=z;cases z'⟩
 keep:=λi h h' st k=>k it (by simp) _ st
 item:=by
  intro X hP hw hK hc i pins s σ H E I hf st hg;subst hP hw hK;obtain⟨f0,f1,f2,f3,f4,f5⟩:=hf it (by simp);refine wpAny_pyNext_range_item st (by have:i<n:=hg;omega) λh' ak sb=>?_
  have I1:Inv X pins σ H { s with heap:=h',toks:=s.toks+1 }:=I.turned (λb o hb e=>(sb.2 b hb).trans e) f0 f1 f3 f4 f5;have e1:lo+((i+1:Nat):Int)*1=lo+(i:Int)*1+1:=by omega
  have e2:(n:Int)-((i+1:Nat):Int)=(n:Int)-(i:Int)-1:=by omega
  refine⟨_,rfl,Dw ak rfl rfl (by decide) ⟨.int (lo+i),H,I1,⟨s.toks,?_⟩,⟨rfl,rfl⟩,by rw[e1,e2];exact ak,λb hb=>(hf b hb).1⟩⟩;rw[Int.mul_one]
 done:=by
  intro X hP hw hK hc i pins s σ H E I hf st hg;subst hP hw hK;obtain⟨f0,f1,f2,f3,f4,f5⟩:=hf it (by simp);rcases I.hq with h0|⟨a',ob,u,vs,h0,h1,h2,h3⟩
  .exact wpAny_pyNext_range_end h0 st (by have:n<=i:=hg;omega) λh' eb=>⟨rfl,I.turned (λb o hb e=>eb b o hb e) f0 f1 f3 f4 f5⟩
  .exact Wr h0 (I.aI a' _ h1).1 h2 h3 st (by have:n<=i:=hg;omega) λh' eb=>⟨rfl,I.turned (λb o hb e=>eb b o hb e) f0 f1 f3 f4 f5⟩
 self:=λ_ _ _ _ _ st h=>wpAny_pyIter_rangeiter st h
section
variable{X:Cx}{tg:Expr}
theorem Jw{R:It->Hp->Prop}{lo hi:Int}{t u v:Tok}{tk:Nat}(I:Inv X pins σ H s)(h1:-(2 ^ 62)<=lo)(h2:lo<2 ^ 62)(h3:-(2 ^ 62)<=hi)(h4:hi<2 ^ 62)
  (q:R (qz lo (hi-lo).toNat) H):wpAny (model X.prog X.w) X.A (pyIter (.ref s.heap.objs.size)) (JR X pins σ tg R) E { s with heap:=s.heap.push { cls:=.type "range",data:=.fields #[.int lo t,.int hi u,.int 1 v] },toks:=tk }:=by
 refine wpAny_pyIter_range (IsRange.new ..) (small_one h1 h2 h3 h4) ?_;have I1:Inv X pins σ H { s with heap:=s.heap.push { cls:=.type "range",data:=.fields #[.int lo t,.int hi u,.int 1 v] },toks:=tk }:=I.kept λb o e=>aaB _ e
 refine⟨(s.heap.push { cls:=.type "range",data:=.fields #[.int lo t,.int hi u,.int 1 v] }).objs.size,[(s.heap.push { cls:=.type "range",data:=.fields #[.int lo t,.int hi u,.int 1 v] }).objs.size],_,_,H,rfl,
  I1.kept λb o e=>aaB _ e,aau _ lo (hi-lo).toNat,?_,λb hb=>?_,q⟩
 .have e1:lo+((0:Nat):Int)*1=lo:=by simp
  have e2:(((hi-lo).toNat:Nat):Int)-((0:Nat):Int)=Builtin.Range.rangeSize lo hi 1:=by rw[rangeSize_one];split<;>omega
  rw[e1,e2];exact abU _ rfl
 .have e:b=(s.heap.push { cls:=.type "range",data:=.fields #[.int lo t,.int hi u,.int 1 v] }).objs.size:=by simpa using hb
  subst e;exact I1.se (abW _) (I1.aI.fresh (abW _))
def VN(ta:TA):TI:=λσ H R=>ta σ H λvs H1=>∃j:Int,vs=[.int j]/\-(2 ^ 62)<=j/\j<2 ^ 62/\R (qz 0 j.toNat) H1
def Ze(ta:TA):TI:=λσ H R=>ta σ H λvs H1=>∃i j:Int,vs=[.int i,.int j]/\(-(2 ^ 62)<=i/\i<2 ^ 62/\-(2 ^ 62)<=j/\j<2 ^ 62)/\R (qz i (j-i).toNat) H1
theorem IJ{ta:TA}(hg:Gl X "range")(hm:X.mg "range"=none)(ha:PA X [a] ta)(hs:starEach [a] X.env=[(false,eval a X.env)]:=by rfl):PI X tg (.Call (.Name "range" p) [a] [] pos) (VN ta):=by
 intro pins s σ H R I h;refine Call_ (lK I hg hm boot_range (adR (aQ (ha pos pins s σ H _ I h) λus s1 ⟨vs,H1,I1,r1,q1⟩=>?_) hs rfl));obtain⟨j,e,q1,q2,q⟩:=q1;subst e;cases r1 with
 |cons r rr=>
  cases rr;obtain⟨t,rfl⟩:=r;exact call_range_1 (Jw I1 (by omega) (by omega) q1 q2 (by simpa using q))
theorem U4{ta:TA}(hg:Gl X "range")(hm:X.mg "range"=none)(ha:PA X [a,b] ta)(hs:starEach [a,b] X.env=[(false,eval a X.env),(false,eval b X.env)]:=by rfl)(cG:starEach [b] X.env=[(false,eval b X.env)]:=by rfl):
  PI X tg (.Call (.Name "range" p) [a,b] [] pos) (Ze ta):=by
 intro pins s σ H R I h;refine Call_ (lK I hg hm boot_range (adR (aQ (ha pos pins s σ H _ I h) λus s1 ⟨vs,H1,I1,r1,q1⟩=>?_) (by rw[hs,cG]) (by rw[cG];rfl)));obtain⟨i,j,e,⟨q1,q2,q3,q4⟩,q⟩:=q1;subst e;cases r1 with
 |cons r rr=>
  cases rr with
  |cons r' rr=>
   cases rr;obtain⟨t,rfl⟩:=r;obtain⟨t',rfl⟩:=r';exact call_range_2 (Jw I1 q1 q2 q3 q4 q)
def QD(wi:TI)(g:TG)(tb:TS):TS:=λD σ H=>wi σ H λJ H1=>∃W:Nat->Nat->St->Hp->Prop,(∃m,W 0 m σ H1)/\∀i m σ H,W i m σ H->
 (J.stop i H/\D.nx σ H)\/(J.go i H/\∃N:St->Hp->Prop,(∀aD H',N aD H'->∃m',m'<m/\W (i+1) m' aD H')/\∀x H',J.uu i H x H'->g x σ H' λiB H2=>tb { D with nx:=N,ct:=N,bk:=D.nx } iB H2)
noncomputable def uN(fp:List Addr)(h:Heap):List (Addr×Obj):=fp.filterMap λb=>(h.get? b).map λo=>(b,o)
theorem yq(hb:b∈fp)(e:h.get? b=some o):(b,o)∈uN fp h:=List.mem_filterMap.mpr ⟨b,hb,by rw[e];rfl⟩
theorem Wq{p:Addr×Obj}(hp:p∈uN fp h):p.1∈fp/\h.get? p.1=some p.2:=by
 obtain⟨b,hb,e⟩:=List.mem_filterMap.mp hp;cases q:h.get? b with
 |none=>rw[q] at e;cases e
 |some o=>
  rw[q] at e;have e':=aco e;subst e';exact⟨hb,q⟩
theorem Inv.pinned(I:Inv X pins σ H s)(hf:∀b∈fp,iX X pins H b)(ho:∀b∈fp,∃o,s.heap.get? b=some o/\∀v,o.data≠.cell v):Inv X (pins++uN fp s.heap) σ H s:=
 I.JP λp hp=>(acW.mp hp).elim (λz=>I.pin p (acQ _ z)) λz=>by
  obtain⟨hb,e⟩:=Wq z;obtain⟨f0,f1,f2,_⟩:=hf p.1 hb;obtain⟨o,e',d⟩:=ho p.1 hb;rw[e] at e';cases e';exact⟨e,f0,f1,f2,d⟩
theorem Inv.u9(I:Inv X (pins++pl) σ H s):Inv X pins σ H s:=I.JP λp hp=>I.pin p (acQ _ (ac7 _ hp))
theorem M6(hp:PassesOwn (model X.prog X.w) X.A X.env X.xe)(hc:X.calm=true)(hi:PI X tg iter wi)(hg:PG X tg g)(hb:gK X body tb)
  (hs:∀x,foldedSetIterable iter X.env x=pure x:=by intro _;rfl):PS X (.For tg iter body [] pos) (QD wi g tb):=by
 intro pins s σ H D I h;refine wpAny_For (aQ (hi pins s σ H _ I h) λv s1 h1=>aQ h1 λAo s2 h2=>?_) hs;obtain⟨it,fp,tn,J,H2,e,I2,T,aU,f2,W,⟨m0,w0⟩,turn⟩:=h2;subst e;have pQ:∀{H':Hp},(∀b∈fp,H' b=none)->∀b∈fp,iX X pins H' b:=λhn b hb=>⟨hn b hb,(f2 b hb).2⟩
 refine codeAny_forLoop_any (λn s'=>∃i aD H',Inv X pins aD H' s'/\tn i s'.heap/\(∀b∈fp,H' b=none)/\W i n aD H') ?_ m0 ⟨0,σ,H2,I2,aU,λb hb=>(f2 b hb).1,w0⟩
 rintro n s3 ⟨i,d8,H3,I3,dY,KG,w3⟩
 rcases turn i n d8 H3 w3 with⟨stop,qn⟩|⟨go,N,hN,step⟩
 .refine afn hp (aQ (T.done X rfl rfl rfl (.inl hc) i pins s3 d8 H3 X.xe I3 (pQ KG) dY stop) λr s4 ⟨hr,I4⟩=>?_);subst hr;exact wpAny_execs_nil ⟨d8,H3,I4,qn⟩
 .refine afn hp (aQ (T.item X rfl rfl rfl (.inl hc) i pins s3 d8 H3 X.xe I3 (pQ KG) dY go) λr s4 ⟨u,hr,h4⟩=>?_);subst hr;refine afn hp (aQ h4 λ_ s5 ⟨x,H5,I5,r5,y5,sP,yY⟩=>?_);have SI:=I5.pinned (pQ yY) (T.obj _ _ sP);refine afn hp (aQ (hg _ s5 d8 H5 x u _ SI r5 (step x H5 y5)) λ_ s6 ⟨Z5,H6,I6,q6⟩=>?_);refine afn hp (aQ (hb _ s6 Z5 H6 _ I6 q6) λf s7 q7=>?_);have again:∀{kO:St}{H7:Hp},Inv X (pins++uN fp s5.heap) kO H7 s7->N kO H7->∃m,m<n/\∃i aD H',Inv X pins aD H' s7/\tn i s7.heap/\(∀b∈fp,H' b=none)/\W i m aD H':=λ{kO H7} I7 n7=>by
   obtain⟨m',hm,w7⟩:=hN kO H7 n7;refine⟨m',hm,i+1,kO,H7,I7.u9,T.keep _ _ _ sP λb hb o e=>(I7.pin (b,o) (acQ _ (acQ _ (yq hb e)))).1,λb hb=>?_,w7⟩;obtain⟨o,e,d⟩:=T.obj _ _ sP b hb;exact(I7.pin (b,o) (acQ _ (acQ _ (yq hb e)))).2.1
  cases f with
  |next=>obtain⟨kO,H7,I7,n7⟩:=q7;exact again I7 n7
  |cont=>obtain⟨kO,H7,I7,n7⟩:=q7;exact again I7 n7
  |brk=>obtain⟨kO,H7,I7,q7⟩:=q7;exact⟨kO,H7,I7.u9,q7⟩
  |ret v=>obtain⟨x7,kO,H7,I7,r7,q7⟩:=q7;exact⟨x7,kO,H7,I7.u9,r7,q7⟩
end
noncomputable abbrev R2:=V->V->Hp->VK->Prop
def dM(X:Cx)(f:Value->Value->Sem Value)(r:R2):Prop:=
 ∀(pins:List (Addr×Obj)) (s:Shared) (σ:St) (H:Hp) (x y:V) (v u:Value) (Q:VK),Inv X pins σ H s->RelV x v->RelV y u->r x y H Q->
  wpAny (model X.prog X.w) X.A (f v u) (EP X pins σ Q) X.xe s
def fP(X:Cx)(f:Value)(r:List V->Hp->VK->Prop):Prop:=
 ∀(pins:List (Addr×Obj)) (s:Shared) (σ:St) (H:Hp) (xs:List V) (us:List Value) (Q:VK),Inv X pins σ H s->aS xs us->r xs H Q->
  wpAny (model X.prog X.w) X.A (call f us) (EP X pins σ Q) X.xe s
def sO(r:R2)(ta tb:TE):TE:=λσ H Q=>ta σ H λx H1=>tb σ H1 λy H2=>r x y H2 Q
def rI(C:Int->Int->Prop)(g:Int->Int->V):R2:=λx y H Q=>∃i j,x=.int i/\y=.int j/\C i j/\Q (g i j) H
def lR(g:Int->Int->V):R2:=λx y H Q=>∃i j,x=.int i/\y=.int j/\Q (g i j) H
section
variable{X:Cx}{a b c:Expr}{ta tb tc:TE}{pos:Pos}
theorem BL(ha:PE X a ta)(hb:PE X b tb){R:V->V->Hp->Prop}(I:Inv X pins σ H s)
  (h:ta σ H λx H1=>tb σ H1 λy H2=>R x y H2){f:Value->Value->Sem Value}
  (hf:∀v u s2 x y H2,Inv X pins σ H2 s2->RelV x v->RelV y u->R x y H2->wpAny (model X.prog X.w) X.A (f v u) Q X.xe s2) :
  wpAny (model X.prog X.w) X.A (eval a X.env) (λv bu=>wpAny (model X.prog X.w) X.A (eval b X.env) (λu jz=>wpAny (model X.prog X.w) X.A (f v u) Q X.xe jz) X.xe bu) X.xe s:=by
 refine aQ (ha pins s σ H _ I h) λv s1 ⟨x,H1,I1,r1,q1⟩=>?_
 refine aQ (hb pins s1 σ H1 _ I1 q1) λu s2 ⟨y,H2,I2,r2,q2⟩=>?_
 exact hf v u s2 x y H2 I2 r1 r2 q2
theorem As{op:Operator}{r:R2}(ho:dM X (binaryOp op) r)(ha:PE X a ta)(hb:PE X b tb):PE X (.BinOp a op b pos) (sO r ta tb):=by
 intro pins s σ H Q I h;exact wpAny_BinOp (BL ha hb I h λv u s2 x y H2 I2 rx ry q=>ho pins s2 σ H2 x y v u Q I2 rx ry q)
theorem Hz{f:Value->Value->Sem Value}{C:Int->Int->Prop}{g:Int->Int->Int}
  (rule:∀(i j:Int) (t u:Tok) (s:Shared) (Q:Value->Shared->Prop) (E:Value->Shared->Prop),C i j->Q (.int (g i j) s.toks) { s with toks:=s.toks+1 }->wpAny (model X.prog X.w) X.A (f (.int i t) (.int j u)) Q E s) :
  dM X f (rI C λi j=>.int (g i j)):=by
 intro pins s σ H x y v u Q I rx ry h;obtain⟨i,j,rfl,rfl,hc,q⟩:=h;obtain⟨t,rfl⟩:=rx;obtain⟨t',rfl⟩:=ry;exact rule i j t t' s _ _ hc ⟨.int (g i j),H,I.tok _,⟨_,rfl⟩,q⟩
theorem KW{f:Value->Value->Sem Value}{g:Int->Int->Int}
  (rule:∀(i j:Int) (t u:Tok) (s:Shared) (Q:Value->Shared->Prop) (E:Value->Shared->Prop),Q (.int (g i j) s.toks) { s with toks:=s.toks+1 }->wpAny (model X.prog X.w) X.A (f (.int i t) (.int j u)) Q E s) :
  dM X f (lR λi j=>.int (g i j)):=by
 intro pins s σ H x y v u Q I rx ry h;obtain⟨i,j,rfl,rfl,q⟩:=h;obtain⟨t,rfl⟩:=rx;obtain⟨t',rfl⟩:=ry;exact rule i j t t' s _ _ ⟨.int (g i j),H,I.tok _,⟨_,rfl⟩,q⟩
theorem Aa{f:Value->Value->Sem Value}{g:Int->Int->Bool}
  (rule:∀(i j:Int) (t u:Tok) (s:Shared) (Q:Value->Shared->Prop) (E:Value->Shared->Prop),Q (.bool (g i j)) s->wpAny (model X.prog X.w) X.A (f (.int i t) (.int j u)) Q E s) :
  dM X f (lR λi j=>.bl (g i j)):=by
 intro pins s σ H x y v u Q I rx ry h;obtain⟨i,j,rfl,rfl,q⟩:=h;obtain⟨t,rfl⟩:=rx;obtain⟨t',rfl⟩:=ry;exact rule i j t t' s _ _ ⟨.bl (g i j),H,I,rfl,q⟩
def Zy(i j:Int):Prop:=0<=j/\j<=1000000/\i.natAbs<2 ^ 64
def vm(i j:Int):Prop:=(-(2 ^ 64)<i/\i<2 ^ 64)\/(-(2 ^ 64)<j/\j<2 ^ 64)
theorem vm.ok{i j:Int}(h:vm i j):IntMulOk i j:=by
 rcases h with⟨h1,h2⟩|⟨h1,h2⟩
 .exact .of_left (intBits_le_64 h1 h2)
 .exact .of_right (intBits_le_64 h1 h2)
theorem Od:dM X (binaryOp .Add) (lR λi j=>.int (i+j)):=KW λ_ _ _ _ _ _ _ q=>add_int q
theorem Qn:dM X (binaryOp .Sub) (lR λi j=>.int (i-j)):=KW λ_ _ _ _ _ _ _ q=>sub_int q
theorem O1:dM X (binaryOp .Mult) (rI vm λi j=>.int (i*j)):=Hz λ_ _ _ _ _ _ _ hc q=>mul_int q hc.ok
theorem IC:dM X (binaryOp .Mod) (rI (λ_ j=>0<j) λi j=>.int (i % j)):=Hz λi j _ _ _ _ _ hc q=>by
 have h1:=hc;exact mod_int' (by omega) (by rw[Int.fmod_eq_emod_of_nonneg i (by omega)];exact q)
theorem Y6:dM X (binaryOp .Pow) (rI Zy λi j=>.int (i ^ j.toNat)):=Hz λ_ _ _ _ _ _ _ hc q=>pow_int_small hc.1 hc.2.1 hc.2.2 q
end
noncomputable def MX:V->V->Bool
 |.aE,.aE=>true|.aE,.int _=>true|.int _,.aE=>true|.aE,.bl _=>true|.bl _,.aE=>true|.aE,.str _=>true|.str _,.aE=>true
 |.int _,.int _=>true|.bl _,.bl _=>true|.str _,.str _=>true|.jR _,.jR _=>true
 |.int _,.str _=>true|.str _,.int _=>true|.bl _,.str _=>true|.str _,.bl _=>true
 |_,_=>false
def Np:R2:=λx y H Q=>MX x y=true/\Q (.bl (decide (x=y))) H
def MO:R2:=λx y H Q=>MX x y=true/\Q (.bl (!decide (x=y))) H
theorem yg:decide (V.int i=V.int j)=(i==j):=by
 rw[ae4];simp
theorem xw:decide (V.bl i=V.bl j)=(i==j):=by
 rw[ae4];simp
theorem Ac:decide (V.str i=V.str j)=(i==j):=by
 rw[ae4];simp
theorem Ih{i j:Array UInt8}:decide (V.jR i=V.jR j)=(i.toList==j.toList):=by
 rw[ae4];cases i;cases j;simp
section
variable{X:Cx}{a b c:Expr}{ta tb tc:TE}{pos:Pos}
theorem dh(I:Inv X pins σ H s)(q:Q (.bl k) H)(e:k=k'):EP X pins σ Q (.bool k') s:=by
 subst e;exact⟨.bl k,H,I,rfl,q⟩
theorem L_:dM X (compareOp .Eq) Np:=by
 intro pins s σ H x y v u Q I rx ry h;obtain⟨hs,q⟩:=h;cases x with
 |aE=>
  cases rx;cases y with
  |aE=>cases ry;exact PySem.EqNone.eq_none_none (dh I q (by simp))
  |bl j=>cases ry;exact PySem.EqNone.eq_none_bool (dh I q (by simp))
  |int j=>obtain⟨t',rfl⟩:=ry;exact PySem.EqNone.eq_none_int (dh I q (by simp))
  |str j=>obtain⟨t',rfl⟩:=ry;exact PySem.EqNone.eq_none_str (dh I q (by simp))
  |_=>exact absurd (show false=true from hs) ab3
 |bl i=>
  cases rx;cases y with
  |aE=>cases ry;exact PySem.EqNone.eq_bool_none (dh I q (by simp))
  |bl j=>cases ry;exact eq_bool (dh I q xw)
  |str j=>obtain⟨t',rfl⟩:=ry;exact PySem.EqMixed.eq_bool_str (dh I q (by simp))
  |_=>exact absurd (show false=true from hs) ab3
 |int i=>
  obtain⟨t,rfl⟩:=rx;cases y with
  |aE=>cases ry;exact PySem.EqNone.eq_int_none (dh I q (by simp))
  |int j=>obtain⟨t',rfl⟩:=ry;exact eq_int (dh I q yg)
  |str j=>obtain⟨t',rfl⟩:=ry;exact PySem.EqMixed.eq_int_str (dh I q (by simp))
  |_=>exact absurd (show false=true from hs) ab3
 |str i=>
  obtain⟨t,rfl⟩:=rx;cases y with
  |aE=>cases ry;exact PySem.EqNone.eq_str_none (dh I q (by simp))
  |bl j=>cases ry;exact PySem.EqMixed.eq_str_bool (dh I q (by simp))
  |int j=>obtain⟨t',rfl⟩:=ry;exact PySem.EqMixed.eq_str_int (dh I q (by simp))
  |str j=>obtain⟨t',rfl⟩:=ry;exact eq_str (dh I q Ac)
  |_=>exact absurd (show false=true from hs) ab3
 |jR i=>
  obtain⟨t,rfl⟩:=rx;cases y with
  |jR j=>obtain⟨t',rfl⟩:=ry;exact PySem.W.eq_bytes (dh I q Ih)
  |_=>exact absurd (show false=true from hs) ab3
 |_=>cases y<;>exact absurd (show false=true from hs) ab3
theorem abo:dM X (compareOp .NotEq) MO:=by
 intro pins s σ H x y v u Q I rx ry h;obtain⟨hs,q⟩:=h;cases x with
 |aE=>
  cases rx;cases y with
  |aE=>cases ry;exact PySem.EqNone.ne_none_none (dh I q (by simp))
  |bl j=>cases ry;exact PySem.EqNone.ne_none_bool (dh I q (by simp))
  |int j=>obtain⟨t',rfl⟩:=ry;exact PySem.EqNone.ne_none_int (dh I q (by simp))
  |str j=>obtain⟨t',rfl⟩:=ry;exact PySem.EqNone.ne_none_str (dh I q (by simp))
  |_=>exact absurd (show false=true from hs) ab3
 |bl i=>
  cases rx;cases y with
  |aE=>cases ry;exact PySem.EqNone.ne_bool_none (dh I q (by simp))
  |bl j=>cases ry;exact ne_bool (dh I q (congrArg not xw))
  |str j=>obtain⟨t',rfl⟩:=ry;exact PySem.EqMixed.ne_bool_str (dh I q (by simp))
  |_=>exact absurd (show false=true from hs) ab3
 |int i=>
  obtain⟨t,rfl⟩:=rx;cases y with
  |aE=>cases ry;exact PySem.EqNone.ne_int_none (dh I q (by simp))
  |int j=>obtain⟨t',rfl⟩:=ry;exact ne_int (dh I q (congrArg not yg))
  |str j=>obtain⟨t',rfl⟩:=ry;exact PySem.EqMixed.ne_int_str (dh I q (by simp))
  |_=>exact absurd (show false=true from hs) ab3
 |str i=>
  obtain⟨t,rfl⟩:=rx;cases y with
  |aE=>cases ry;exact PySem.EqNone.ne_str_none (dh I q (by simp))
  |bl j=>cases ry;exact PySem.EqMixed.ne_str_bool (dh I q (by simp))
  |int j=>obtain⟨t',rfl⟩:=ry;exact PySem.EqMixed.ne_str_int (dh I q (by simp))
  |str j=>obtain⟨t',rfl⟩:=ry;exact ne_str (dh I q (congrArg not Ac))
  |_=>exact absurd (show false=true from hs) ab3
 |jR i=>
  obtain⟨t,rfl⟩:=rx;cases y with
  |jR j=>obtain⟨t',rfl⟩:=ry;exact PySem.W.ne_bytes (dh I q (congrArg not Ih))
  |_=>exact absurd (show false=true from hs) ab3
 |_=>cases y<;>exact absurd (show false=true from hs) ab3
theorem ZU:dM X (compareOp .Lt) (lR λi j=>.bl (decide (i<j))):=Aa λ_ _ _ _ _ _ _ q=>lt_int q
theorem FU:dM X (compareOp .LtE) (lR λi j=>.bl (decide (i<=j))):=Aa λ_ _ _ _ _ _ _ q=>le_int q
theorem QO:dM X (compareOp .Gt) (lR λi j=>.bl (decide (j<i))):=Aa λ_ _ _ _ _ _ _ q=>gt_int q
theorem Zu:dM X (compareOp .GtE) (lR λi j=>.bl (decide (j<=i))):=Aa λ_ _ _ _ _ _ _ q=>ge_int q
theorem Kl:dM X (compareOp .Is) (λx y H Q=>y=.aE/\Q (.bl (decide (x=.aE))) H):=by
 intro pins s σ H x y v u Q I rx ry h;obtain⟨rfl,q⟩:=h;cases ry;refine is_none_gen (dh I q ?_);cases x<;>first
  |(cases rx;rfl)
  |(obtain⟨t,rfl⟩:=rx;rfl)
theorem abn:dM X (compareOp .IsNot) (λx y H Q=>y=.aE/\Q (.bl (!decide (x=.aE))) H):=by
 intro pins s σ H x y v u Q I rx ry h;obtain⟨rfl,q⟩:=h;cases ry;refine isnot_none_gen (dh I q ?_);cases x<;>first
  |(cases rx;rfl)
  |(obtain⟨t,rfl⟩:=rx;rfl)
theorem lI(b:Expr){op:CmpOp}(h:op≠.In:=by decide)(h2:op≠.NotIn:=by decide):behindInMarks op b=false:=by
 have e1:(op==CmpOp.In)=false:=by cases op<;>first|rfl|exact absurd rfl h
 have e2:(op==CmpOp.NotIn)=false:=by cases op<;>first|rfl|exact absurd rfl h2
 cases b<;>simp[behindInMarks,e1,e2]
theorem QE{op:CmpOp}{r:R2}(ho:dM X (compareOp op) r)(ha:PE X a ta)(hb:PE X b tb)(hm:behindInMarks op b=false):PE X (.Compare a [op] [b] pos) (sO r ta tb):=by
 intro pins s σ H Q I h;exact wpAny_Compare1 (BL ha hb I h λv u s2 x y H2 I2 rx ry q=>ho pins s2 σ H2 x y v u Q I2 rx ry q) hm
def Zp(t:TE):TT:=λσ H Q=>t σ H λx H'=>∃k,x=.bl k/\Q k H'
theorem R0{op:CmpOp}{r:R2}(ho:dM X (compareOp op) r)(ha:PE X a ta)(hb:PE X b tb)(hm:behindInMarks op b=false):PT X (.Compare a [op] [b] pos) (Zp (sO r ta tb)):=by
 intro pins s σ H Q I h;refine wpAny_isTrue_Compare1 (aQ (ha pins s σ H _ I h) λv s1 ⟨x,H1,I1,r1,q1⟩=>aQ (hb pins s1 σ H1 _ I1 q1) λu s2 ⟨y,H2,I2,r2,q2⟩=>
  aQ (ho pins s2 σ H2 x y v u _ I2 r1 r2 q2) λc s3 ⟨z,H3,I3,r3,k,e,q3⟩=>?_) hm
 subst e;cases r3;exact aet ⟨H3,I3,q3⟩
def RW(r r':R2)(ta tb tc:TE):TE:=λσ H Q=>ta σ H λx H1=>tb σ H1 λy H2=>r x y H2 λz H3=>∃k,z=.bl k/\
 (if k=true then tc σ H3 λw' H4=>r' y w' H4 Q else Q (.bl false) H3)
theorem Rr{op qG:CmpOp}{r r':R2}(ho:dM X (compareOp op) r)(lu:dM X (compareOp qG) r')(ha:PE X a ta)(hb:PE X b tb)(hc:PE X c tc)
  (hm:lastMarks [op,qG] [b,c]=false:=by with_unfolding_all rfl):PE X (.Compare a [op,qG] [b,c] pos) (RW r r' ta tb tc):=by
 intro pins s σ H Q I h;refine Compare_chain (aQ (ha pins s σ H _ I h) λv s1 ⟨x,H1,I1,r1,q1⟩=>chain_link (aQ (hb pins s1 σ H1 _ I1 q1) λu s2 ⟨y,H2,I2,r2,q2⟩=>
  aQ (ho pins s2 σ H2 x y v u _ I2 r1 r2 q2) λd s3 ⟨z,H3,I3,r3,k,e,q3⟩=>?_)) hm
 subst e;cases r3;refine aet ?_;cases k with
 |false=>exact ite_ff ⟨.bl false,H3,I3,rfl,q3⟩
 |true=>exact ite_tt (chain_last (aQ (hc pins s3 σ H3 _ I3 q3) λw' s4 ⟨z',H4,I4,r4,q4⟩=>lu pins s4 σ H4 y z' u w' Q I4 r2 r4 q4))
theorem Al:(sizeLine:Nat)<2 ^ 63:=by rw[sizeLine_eq];decide
theorem vals1(r:aS [x] us):∃u,us=[u]/\RelV x u:=by
 cases r with
 |cons r1 r2=>cases r2;exact⟨_,rfl,r1⟩
theorem vals2(r:aS [x,y] us):∃u w',us=[u,w']/\RelV x u/\RelV y w':=by
 cases r with
 |cons r1 r2=>
  cases r2 with
  |cons r3 r4=>cases r4;exact⟨_,_,rfl,r1,r3⟩
end
structure qp(h:Heap)(x dx C:Addr)(mA:Str->Option Value):Prop where
 obj:h.get? x=some (PySem.W.instObj C dx)
 ns:h.Ns1 dx mA
 ne:dx≠x
theorem abN{h:Heap}{dx:Addr}{mA:Str->Option Value}(n:h.Ns1 dx mA):∃od,h.get? dx=some od/\∀name,PySem.W.lookIn name od=some (mA name):=by
 obtain⟨o,es,ep,ho,hd,hk,_,hm⟩:=n;refine⟨o,ho,λname=>?_⟩;have e:=hm name;unfold nsFind findBy at e;rw[<- Array.find?_toList] at e;unfold PySem.W.lookIn;rw[hd];dsimp only
 split
 .rename_i y q;rw[q] at e;exact congrArg some e
 .rename_i q;rw[q] at e;have a:es.toList.any (·.refKey)=false:=by
   rw[List.any_eq_false];intro y hy;obtain⟨z,t,Df⟩:=hk y (Array.mem_toList_iff.mp hy);simp[DictEntry.refKey,Df]
  have a':¬es.toList.any (·.refKey)=true:=by rw[a];exact ab3
  rw[if_neg a'];exact congrArg some e
theorem qp.look(I:qp h x dx C mA):∃od,PySem.W.InstAt h x (PySem.W.instObj C dx) C (some od)/\∀name,PySem.W.lookIn name od=some (mA name):=
 let⟨od,ho,hl⟩:=abN I.ns
 ⟨od,⟨I.obj,rfl,rfl,ho⟩,hl⟩
section
variable{prog:Program}{w:World}{A:Around}{E:Value->Shared->Prop}{s:Shared}{K:PySem.W.Frag}{x dx C f:Addr}{mA:Str->Option Value}{name:Str}{v:Value}
theorem get_map(X:K.In s.heap)(I:qp s.heap x dx C mA)(hg:PySem.W.plainGet K C name=true)(hh:PySem.W.hasDictIn K C=true)
  (ha:PySem.W.findIn K (.ref C) name=some none) (hv:mA name=some v) (vI:PySem.W.handedIn v=true) (h:Q v { s with toks:=s.toks+1 }) :
  wpAny (model prog w) A (getAttr (.ref x) name expr) Q E s:=by
 obtain⟨od,J,hl⟩:=I.look;exact PySem.W.get_value X J (PySem.W.plainGet_of hg).1 (PySem.W.findObj_own hh ha rfl (by rw[hl,hv])) vI h
theorem abV{pl:Sem Bool}{Q:Value×List Value->Shared->Prop}(X:K.In s.heap)(I:qp s.heap x dx C mA)(hg:PySem.W.plainGet K C name=true)
  (hf:PySem.W.findIn K (.ref C) name=some (some (.ref f))) (ht:PySem.W.isFn K (.ref f)=true) (hv:mA name=none) (h:Q (.ref f,[.ref x]) s) :
  wpAny (model prog w) A (getMethod (.ref x) name pl) Q E s:=by
 obtain⟨od,J,hl⟩:=I.look;exact PySem.W.method_fn X J (PySem.W.plainGet_of hg).1 (PySem.W.plainGet_of hg).2 hf (afy.mp ht) (by show(PySem.W.lookIn name od).map (·.isSome)=some false;rw[hl,hv];rfl) h
theorem acj{Q:Unit->Shared->Prop}(X:K.In s.heap)(I:qp s.heap x dx C mA)
  (hs:PySem.W.findIn K (.ref C) "__setattr__"=some (some (.builtin "object.__setattr__"))) (hp:PySem.W.plainOver K C=true) (ht:PySem.W.takerIn K C name=some none) (hh:PySem.W.hasDictIn K C=true)
  (hw:PySem.Within mA ns) (hsz:ns.length<=sizeLine)
  (h:∀h',qp h' x dx C (λy=>if y=name then some v else mA y)->Heap.SameBut dx s.heap h'->Q () { s with heap:=h',toks:=s.toks+2 }) :
  wpAny (model prog w) A (setAttr (.ref x) name v) Q E s:=by
 obtain⟨od,J,hl⟩:=I.look;refine PySem.W.set_plain X J hs (PySem.W.osa_open (r:=none) X J hp ht λb=>?_);obtain⟨cd,hc,Dm⟩:=PySem.W.any_some hh;have hx:=I.obj;refine aaf (aa1 (aaf (aaf (wpAny_loadPart hx (aaf (PySem.W.Looks.here (PySem.W.looks_clsIn X hc) ?_))))));rw[Dm];refine aa1 (aaf (aa1 (aaf ?_)));refine wpAny_nsSet1 I.ns λh' Ag cG=>?_
 obtain⟨oD,esD,epD,Du,Qe,hcD⟩:=Ag.count (PySem.Within.cons name v hw);refine aaf (wpAny_lookBehind Du (by rw[Qe];exact pastItsLine_dict (adX hcD (by rw[acS];omega))) ?_);exact aa1 (h _ ⟨(cG.2 _ (aej I.ne)).trans I.obj,Ag,I.ne⟩ cG)
theorem So{R:Result->Shared->Prop}{kw:List (Str×Value)}(X:K.In s.heap)(hm:PySem.W.makesIn K C=true)
  (hi:PySem.W.findIn K (.ref C) "__init__"=some (some (.ref f))) (hf:PySem.W.typeIn K (.ref f)=some (.type "function"))
  (h:codeAny (model prog w) (A.under (.builtin "type.__call__" ⟨.ref C::vs,kw⟩)) (.call (.ref f) ⟨.ref (s.heap.objs.size + 1)::vs,kw⟩) (PySem.W.InitBack (s.heap.objs.size + 1) R)
   { s with heap:=(s.heap.push PySem.W.emptyDict).push (PySem.W.instObj C s.heap.objs.size) }) :
  codeAny (model prog w) A (.call (.ref C) ⟨vs,kw⟩) R s:=by
 obtain⟨hh,g,d,t,os⟩:=s;exact PySem.W.make_core (PySem.W.makes_of X hm) (PySem.W.looks_findIn X hi) (λself=>PySem.W.bind_fn X self hf) (.inl rfl) h
end
noncomputable def eK(f:Str)(v:V):List (Str×V)->List (Str×V)
 |[]=>[(f,v)]
 |(g,x)::r=>if g=f then(g,v)::r else(g,x)::eK f v r
theorem Mw(f g:Str)(v:V):∀fs:List (Str×V),(eK f v fs).lookup g=if g=f then some v else fs.lookup g
 |[]=>by
  show List.lookup g [(f,v)]=_
  by_cases h:g=f
  .have hb:=afy.mpr h;simp only[List.lookup,hb,if_pos h]
  .have hb:=adF.mpr h;simp only[List.lookup,hb,if_neg h]
 |(k,x)::r=>by
  have ih:=Mw f g v r;rw[show eK f v ((k,x)::r)=(if k=f then(k,v)::r else(k,x)::eK f v r) from rfl]
  by_cases hk:k=f
  .rw[if_pos hk]
   by_cases h:g=k
   .have hb:=afy.mpr h;simp only[List.lookup,hb,if_pos (h.trans hk)]
   .have hb:=adF.mpr h;simp only[List.lookup,hb,if_neg (λe:g=f=>h (e.trans hk.symm))]
  .rw[if_neg hk]
   by_cases h:g=k
   .have hb:=afy.mpr h;simp only[List.lookup,hb,if_neg (λe:g=f=>hk (h.symm.trans e))]
   .have hb:=adF.mpr h;simp only[List.lookup,hb];exact ih
theorem Hf(f:Str)(v:V):∀fs:List (Str×V),f∈(eK f v fs).map (·.1)/\∀g,g∈fs.map (·.1)->g∈(eK f v fs).map (·.1)
 |[]=>⟨by simp[eK],λg h=>by simp at h⟩
 |(k,x)::r=>by
  obtain⟨i1,i2⟩:=Hf f v r;rw[show eK f v ((k,x)::r)=(if k=f then(k,v)::r else(k,x)::eK f v r) from rfl]
  by_cases hk:k=f
  .rw[if_pos hk];subst hk;exact⟨by simp,λg h=>by simpa using h⟩
  .rw[if_neg hk];refine⟨?_,λg h=>?_⟩
   .rw[aaH];exact aaY _ i1
   .rw[aaH] at h ⊢;rcases abh.mp h with e|e
    .exact abh.mpr (.inl e)
    .exact aaY _ (i2 g e)
theorem Jg(f:Str)(v:V):∀fs:List (Str×V),(eK f v fs).length<=fs.length+1
 |[]=>by simp[eK]
 |(k,x)::r=>by
  have ih:=Jg f v r;rw[show eK f v ((k,x)::r)=(if k=f then(k,v)::r else(k,x)::eK f v r) from rfl]
  by_cases hk:k=f
  .rw[if_pos hk,acS,acS];omega
  .rw[if_neg hk,acS,acS];omega
theorem g9.some_of{o:Option Value}(r:g9 (some v) o):∃u,o=some u/\RelV v u:=by
 cases o with
 |none=>exact(show False from r).elim
 |some u=>exact⟨u,rfl,r⟩
theorem g9.none_of{o:Option Value}(r:g9 none o):o=none:=by
 cases o with
 |none=>rfl
 |some u=>exact(show False from r).elim
theorem aaC(r:RelV v u):PySem.W.handedIn u=true:=by
 cases v with
 |aE=>cases(show u=Value.none from r);rfl
 |bl b=>cases(show u=Value.bool b from r);rfl
 |int i=>obtain⟨t,e⟩:=(show ∃t,u=Value.int i t from r);cases e;rfl
 |str x=>obtain⟨t,e⟩:=(show ∃t,u=Value.str x t from r);cases e;rfl
 |jR b=>obtain⟨t,e⟩:=(show ∃t,u=Value.bytes b t from r);cases e;rfl
 |qi b=>obtain⟨t,e⟩:=(show ∃t,u=Value.float b t from r);cases e;rfl
 |ref a=>cases(show u=Value.ref a from r);rfl
 |ty n=>cases(show u=Value.type n from r);rfl
section
variable{P:Program}{w:World}{H H':Hp}{h h':Heap}{a C dx:Addr}{fs ZE:List (Str×V)}
theorem xq(aI:dJ P w H h)(e:H a=some (.ins C dx fs)):∃mA,qp h a dx C mA/\(∀f,g9 (fs.lookup f) (mA f))/\PySem.Within mA (fs.map (·.1))/\fs.length<=1000/\H dx=some (.own a):=by
 obtain⟨d,z,ne,ob,mA,n,r,q⟩:=(show cV P w H h a (.ins C dx fs) from aI a _ e)
 exact⟨mA,⟨ob,n,ne⟩,r,q,z,d⟩
end
structure j5(K:PySem.W.Frag)(C:Addr):Prop where
 pg:PySem.W.plainGet K C Str.empty=true
 hd:PySem.W.hasDictIn K C=true
 po:PySem.W.plainOver K C=true
 sa:PySem.W.findIn K (.ref C) "__setattr__"=some (some (.builtin "object.__setattr__"))
theorem j5.get{K:PySem.W.Frag}(c:j5 K C)(f:Str):PySem.W.plainGet K C f=true:=c.pg
def jE(K:PySem.W.Frag)(C:Addr)(f:Str):Prop:=PySem.W.findIn K (.ref C) f=some none
theorem jE.Ww{K:PySem.W.Frag}(n:jE K C f):PySem.W.takerIn K C f=some none:=by
 unfold PySem.W.takerIn;rw[show PySem.W.findIn K (.ref C) f=some none from n];rfl
structure oS(K:PySem.W.Frag)(C:Addr)(m:Str)(f:Addr):Prop where
 at_:PySem.W.findIn K (.ref C) m=some (some (.ref f))
 fn:PySem.W.isFn K (.ref f)=true
 kp:PySem.W.keepIn K (.ref f)=true
section
variable{X:Cx}{pins:List (Addr×Obj)}{σ:St}{H:Hp}{s:Shared}{a C dx:Addr}{fs:List (Str×V)}{f:Str}{v:V}{A:Around}{E:Value->Shared->Prop}
theorem SO(I:Inv X pins σ H s)(e:H a=some (.ins C dx fs))(c:j5 X.K C)(n:jE X.K C f)(l:fs.lookup f=some v)
  (h:∀u s',Inv X pins σ H s'->RelV v u->Q u s'):wpAny (model X.prog X.w) A (getAttr (.ref a) f b) Q E s:=by
 obtain⟨mA,O,r,_,_,_⟩:=xq I.aI e;obtain⟨u,hu,ru⟩:=g9.some_of (by rw[<- l];exact r f);exact get_map I.d9 O (c.get f) c.hd n hu (aaC ru) (h u _ (I.tok _) ru)
theorem Be{pl:Sem Bool}{Q:Value×List Value->Shared->Prop}(I:Inv X pins σ H s)(e:H a=some (.ins C dx fs))(c:j5 X.K C)(k:oS X.K C m g)(l:fs.lookup m=none)
  (h:Q (.ref g,[.ref a]) s):wpAny (model X.prog X.w) A (getMethod (.ref a) m pl) Q E s:=by
 obtain⟨mA,O,r,_,_,_⟩:=xq I.aI e;have hn:=g9.none_of (by rw[<- l];exact r m);exact abV I.d9 O (c.get m) k.at_ k.fn hn h
theorem Uz{Q:Unit->Shared->Prop}(I:Inv X pins σ H s)(e:H a=some (.ins C dx fs))(c:j5 X.K C)(n:jE X.K C f)(hl:fs.length<1000)(ry:RelV y u)
  (h:∀s',Inv X pins σ (upd H a (.ins C dx (eK f y fs))) s'->Q () s'):wpAny (model X.prog X.w) A (setAttr (.ref a) f u) Q E s:=by
 obtain⟨mA,O,r,wi,_,ho⟩:=xq I.aI e;have hz:(fs.map (·.1)).length<=sizeLine:=by rw[List.length_map,sizeLine_eq];omega
 refine acj I.d9 O c.sa c.po n.Ww c.hd wi hz λh' O' sb=>h _ ?_
 have hd:∃o,h'.get? dx=some o:=let⟨o,_,_,e',_⟩:=O'.ns;⟨o,e'⟩
 refine I.write (by rw[e];exact True.intro) (.inr ho) (λb q hb z=>(sb.2 b hb).trans z) hd ?_;refine⟨by rw[aY O.ne];exact ho,?_,O.ne,O'.obj,_,O'.ns,λg=>?_,λg hg=>?_⟩
 .have:=Jg f y fs;omega
 .show g9 ((eK f y fs).lookup g) (if g=f then some u else mA g);rw[Mw]
  by_cases q:g=f
  .rw[if_pos q,if_pos q];exact ry
  .rw[if_neg q,if_neg q];exact r g
 .by_cases q:g=f
  .rw[q];exact(Hf f y fs).1
  .refine(Hf f y fs).2 g (wi g λz=>hg ?_);show(if g=f then some u else mA g)=none;rw[if_neg q];exact z
theorem Inv.made(I:Inv X pins σ H s):Inv X pins σ (upd (upd H s.heap.objs.size (.own (s.heap.objs.size+1))) (s.heap.objs.size+1) (.ins C s.heap.objs.size []))
  { s with heap:=(s.heap.push PySem.W.emptyDict).push (PySem.W.instObj C s.heap.objs.size) }:=by
 have e1:(s.heap.push PySem.W.emptyDict).get? s.heap.objs.size=some PySem.W.emptyDict:=abU s.heap rfl;have e2:((s.heap.push PySem.W.emptyDict).push (PySem.W.instObj C s.heap.objs.size)).get? (s.heap.objs.size+1)=some (PySem.W.instObj C s.heap.objs.size):=by
  have:=abU (s.heap.push PySem.W.emptyDict) (o:=PySem.W.instObj C s.heap.objs.size) rfl
  rwa [adP] at this
 have e3:(s.heap.push PySem.W.emptyDict).Ns s.heap.objs.size (λ_=>none):=⟨PySem.W.emptyDict,#[],_,e1,rfl,(λe he=>absurd he (by simp)),λ_=>rfl⟩
 have I1:=I.laid (o:=.own (s.heap.objs.size+1)) (t':=s.toks) (λb u q=>aaB _ q) (abW _) ⟨_,e1⟩;refine I1.laid (a:=s.heap.objs.size+1) (λb u q=>aaB _ q) (Nat.le_of_eq (adP _ _)) ?_;have ne:s.heap.objs.size≠s.heap.objs.size+1:=acU (aeb _);refine⟨by rw[aY ne,cB],aed _,ne,e2,λ_=>none,(Heap.Ns1.of_empty e3).at λo q=>aaB _ q,λ_=>True.intro,λy hy=>absurd rfl hy⟩
theorem VW{env:Env}(hb:attributeBase e f env (eval e env)=eval e env)
  (h:wpAny (model prog w) A (eval e env) (λo bu=>wpAny (model prog w) A (getAttr o f true) Q E bu) E s):wpAny (model prog w) A (eval (.Attribute e f pos) env) Q E s:=
 Attribute_any_ h (by rw[arm_eval_Attribute,hb])
end
def aa4(K:PySem.W.Frag)(ta:TE)(f:Str):TE:=λσ H Q=>ta σ H λx H1=>∃a C dx fs v,x=.ref a/\H1 a=some (.ins C dx fs)/\j5 K C/\jE K C f/\fs.lookup f=some v/\Q v H1
def Z9(K:PySem.W.Frag)(ta tv:TE)(f:Str):TS:=λD σ H=>tv σ H λy H1=>ta σ H1 λx H2=>∃a C dx fs,x=.ref a/\H2 a=some (.ins C dx fs)/\j5 K C/\jE K C f/\fs.length<1000/\
 D.nx σ (upd H2 a (.ins C dx (eK f y fs)))
section
variable{X:Cx}{o e value:Expr}{f:Str}{pos pos' Vf:Pos}{ta tv:TE}
theorem Ic(he:PE X e ta)(hb:attributeBase e f X.env (eval e X.env)=eval e X.env):PE X (.Attribute e f pos) (aa4 X.K ta f):=by
 intro pins s σ H Q I h;refine VW hb (aQ (he pins s σ H _ I h) λu s1 ⟨x,H1,I1,rx,a,C,dx,fs,v,ex,ea,c,n,l,q⟩=>?_);subst ex;obtain rfl:u=Value.ref a:=rx;exact SO I1 ea c n l λu' s2 I2 ru=>⟨v,H1,I2,ru,q⟩
theorem VQ(ha:PE X o ta)(hv:PE X value tv)(hs:swapsWith value (some (.Attribute o f pos')) pos.line X.env=pure false):PS X (.Assign [.Attribute o f pos'] value pos) (Z9 X.K ta tv f):=by
 intro pins s σ H D I h;refine plainObj_wpAny_Assign_Attribute (aQ (hv pins s σ H _ I h) λu s1 ⟨y,H1,I1,ry,q⟩=>aQ (ha pins s1 σ H1 _ I1 q) λov s2 ⟨x,H2,I2,rx,a,C,dx,fs,ex,ea,c,n,l,q2⟩=>?_) hs;subst ex;obtain rfl:ov=Value.ref a:=rx;exact Uz I2 ea c n l ry λs3 I3=>⟨σ,_,I3,q2⟩
theorem adb{pl:Sem Bool}(he:PE X e te)(I:Inv X pins σ H s)
  (h:te σ H λx H1=>∃a C dx fs g,x=.ref a/\H1 a=some (.ins C dx fs)/\j5 X.K C/\oS X.K C m g/\fs.lookup m=none/\
   ∀s1,Inv X pins σ H1 s1->wpAny (model X.prog X.w) X.A (callWith pos (.ref g) [.ref a] (backTo pos (starEach args X.env)) (backToKw pos (keywordEach [] X.env))) Q X.xe s1)
  (ht:eval (.Call (.Attribute e m apos) args [] pos) X.env=(do
   let ov <- eval e X.env
   standAt apos.atName
   let(f,first) <- holding [ov] (getMethod ov m pl)
   callWith pos f first (backTo pos (starEach args X.env)) (backToKw pos (keywordEach [] X.env)))) :
  wpAny (model X.prog X.w) X.A (eval (.Call (.Attribute e m apos) args [] pos) X.env) Q X.xe s:=by
 refine PySem.W.methodCall_KW (pl:=pl) (aQ (he pins s σ H _ I h) λu s1 ⟨x,H1,I1,rx,a,C,dx,fs,g,ex,ea,c,k,l,q⟩=>?_) ht;subst ex;obtain rfl:u=Value.ref a:=rx;exact Be I1 ea c k l (q s1 I1)
end
section
variable{X:Cx}{pins:List (Addr×Obj)}{σ:St}{H:Hp}{s:Shared}{A:Around}{E:Value->Shared->Prop}{Q:Value->Shared->Prop}{c:Value}{b:Bool}
inductive iR(K:PySem.W.Frag)(H:Hp):V->Value->Prop where
 |aE:iR K H .aE (.type "NoneType")
 |bl (x:Bool):iR K H (.bl x) (.type "bool")
 |int (i:Int):iR K H (.int i) (.type "int")
 |str (x:Str):iR K H (.str x) (.type "str")
 |qi (x:UInt64):iR K H (.qi x) (.type "float")
 |lst {a:Addr}{xs:List V} (e:H a=some (.lst xs)):iR K H (.ref a) (.type "list")
 |fH {a:Addr}{o:Obj}{xs:List V} (e:H a=some (.fH o (.lst xs))):iR K H (.ref a) (.type "list")
 |tup {a:Addr}{xs:List V} (e:H a=some (.tup xs)):iR K H (.ref a) (.type "tuple")
 |dK {a:Addr}{kvs:List (Key×V)} (e:H a=some (.dK kvs)):iR K H (.ref a) (.type "dict")
 |dT {a:Addr}{kvs:List (List Key×V)} (e:H a=some (.dT kvs)):iR K H (.ref a) (.type "dict")
 |ins {a C dx:Addr}{fs:List (Str×V)} (e:H a=some (.ins C dx fs)) (cl:j5 K C) (ha:PySem.W.findIn K (.ref C) "__class__"=some (some (.builtin "object.__class__")))
   (hn:PySem.W.specialIn K (.builtin "object.__class__") "__get__"=some (some (.builtin "getset_descriptor.__get__"))) (Oz:PySem.W.takesIn K (.builtin "object.__class__")=some true)
   (hm:PySem.W.mroIn K C (.type "object")=some true):iR K H (.ref a) (.ref C)
theorem Q5(I:Inv X pins σ H s)(rx:RelV x u)(ty:iR X.K H x t)(e:PySem.W.kitOne X.K t c=some b)(h:∀tk,Q (.bool b) { s with toks:=tk }):
  wpAny (model X.prog X.w) A (call (.builtin "isinstance") [u,c]) Q E s:=by
 cases ty with
 |aE=>cases(show u=Value.none from rx);exact PySem.W.kia_one PySem.W.kitx_none I.d9 True.intro e (λz=>nomatch z) h
 |bl y=>cases(show u=Value.bool y from rx);exact PySem.W.kia_one PySem.W.kitx_bool I.d9 True.intro e (λz=>nomatch z) h
 |int i=>obtain⟨t,q⟩:=(show ∃t,u=Value.int i t from rx);cases q;exact PySem.W.kia_one PySem.W.kitx_int I.d9 True.intro e (λz=>nomatch z) h
 |str y=>obtain⟨t,q⟩:=(show ∃t,u=Value.str y t from rx);cases q;exact PySem.W.kia_one PySem.W.kitx_str I.d9 True.intro e (λz=>nomatch z) h
 |qi y=>obtain⟨t,q⟩:=(show ∃t,u=Value.float y t from rx);cases q;exact PySem.W.kia_one PySem.W.kitx_float I.d9 True.intro e (λz=>nomatch z) h
 | @lst a xs ea=>
  cases(show u=Value.ref a from rx);obtain⟨_,_,n,_,h1⟩:=(show cV X.prog X.w H s.heap a (.lst xs) from I.aI a _ ea)
  exact PySem.W.kia_one PySem.W.kitx_list I.d9 ⟨_,h1,rfl⟩ e (λz=>nomatch z) h
 | @fH a ob xs ea=>
  cases(show u=Value.ref a from rx);obtain⟨_,_,_,n,_,h1⟩:=(show cV X.prog X.w H s.heap a (.fH ob (.lst xs)) from I.aI a _ ea)
  exact PySem.W.kia_one PySem.W.kitx_list I.d9 ⟨_,h1,rfl⟩ e (λz=>nomatch z) h
 | @tup a xs ea=>
  cases(show u=Value.ref a from rx);obtain⟨_,_,_,p⟩:=(show cV X.prog X.w H s.heap a (.tup xs) from I.aI a _ ea)
  obtain⟨o,h1,h2,_⟩:=p;exact PySem.W.kia_one PySem.W.kitx_tuple I.d9 ⟨o,h1,h2⟩ e (λz=>nomatch z) h
 | @dK a kvs ea=>
  cases(show u=Value.ref a from rx);obtain⟨_,_,vs,_,p⟩:=(show cV X.prog X.w H s.heap a (.dK kvs) from I.aI a _ ea)
  obtain⟨o,es,ep,h1,h2,_⟩:=p;exact PySem.W.kia_one PySem.W.kitx_dict I.d9 ⟨o,h1,h2.1⟩ e (λz=>nomatch z) h
 | @dT a kvs ea=>
  cases(show u=Value.ref a from rx);obtain⟨_,_,xs,_,o,es,ep,h1,h2,_⟩:=(show cV X.prog X.w H s.heap a (.dT kvs) from I.aI a _ ea)
  exact PySem.W.kia_one PySem.W.kitx_dict I.d9 ⟨o,h1,h2.1⟩ e (λz=>nomatch z) h
 | @ins a C dx fs ea cl ha hn Oz hm=>
  cases(show u=Value.ref a from rx);obtain⟨mA,O,_⟩:=xq I.aI ea;obtain⟨od,J,_⟩:=O.look;exact PySem.W.kia_one (PySem.W.kitx_own (cl.get _) cl.hd ha hn Oz hm) I.d9 J e (λz=>nomatch z) h
end
structure cN(k:Nat)(A:Around)(cm:Bool:=true):Prop where
 hd:cm=true->A.handled=none
 dp:A.depth+3*k+5<recursionLimit
 un:A.units+16*k+200<cLine
 gd:A.guards=some []
theorem cN.mono{j k:Nat}{A:Around}{cm:Bool}(r:cN k A cm)(h:j<=k):cN j A cm:=⟨r.hd,by have:=r.dp;omega,by have:=r.un;omega,r.gd⟩
theorem cN.deeper(r:cN (k+1) A cm)(env:Env):cN k (A.deeper env) cm:=
 ⟨r.hd,by have:=r.dp;show A.depth+1+3*k+5<_;omega,by have:=r.un;show A.units+3+16*k+200<_;omega,r.gd⟩
theorem Yu{A:Around}{C:Addr}{us:List Value}{kw:List (Str×Value)}:(A.under (.builtin "type.__call__" ⟨.ref C::us,kw⟩)).depth=A.depth+1:=by
 first|rfl|simp[Around.under,Code.weight,Code.isCreation,Code.isGuard,Code.isCaller,Code.frames,Code.isFrame,guardIds]
theorem Yk{A:Around}{C:Addr}{us:List Value}{kw:List (Str×Value)}:(A.under (.builtin "type.__call__" ⟨.ref C::us,kw⟩)).units=A.units+1:=by
 first|rfl|simp[Around.under,Code.cUnits,Code.frames,Code.isFrame]
theorem cN.make(r:cN (k+1) A cm)(C:Addr)(us:List Value)(kw:List (Str×Value)):cN k (A.under (.builtin "type.__call__" ⟨.ref C::us,kw⟩)) cm:=
 ⟨r.hd,by have:=r.dp;rw[Yu];omega,by have:=r.un;rw[Yk];omega,by first|exact r.gd|(simp[Around.under,Code.guards,Code.isGuard,guardIds,pushGuards];exact r.gd)⟩
theorem cN.depth(r:cN k A cm):A.depth<recursionLimit:=by have:=r.dp;omega
theorem cN.units(r:cN k A cm):A.units+64<cLine:=by have:=r.un;omega
def z9:TA:=λ_ H Q=>Q [] H
def OS(ta:TE)(tr:TA):TA:=λσ H Q=>ta σ H λx H1=>tr σ H1 λxs H2=>Q (x::xs) H2
section
variable{X:Cx}{e:Expr}{es:List Expr}{te:TE}{t:TA}{pos:Pos}
theorem fM:PA X [] z9:=λ_ _ _ _ H Q I h=>ae9 ⟨[],H,I,.nil,h⟩
theorem c_(ha:PE X e te)(hr:PA X es t)(hs:starEach (e::es) X.env=(false,eval e X.env)::starEach es X.env:=by rfl):PA X (e::es) (OS te t):=by
 intro pos pins s σ H Q I h;rw[hs];refine aeS (aQ (ha pins s σ H _ I h) λu s1 ⟨x,H1,I1,r1,q1⟩=>?_);exact aQ (hr pos pins s1 σ H1 _ I1 q1) λus s2 ⟨xs,H2,I2,r2,q2⟩=>⟨x::xs,H2,I2,.cons r1 r2,q2⟩
def VP(t:TA):TE:=λσ H Q=>t σ H λxs H1=>xs.length<=sizeLine/\∀p,H1 p=none->Q (.ref p) (upd H1 p (.tup xs))
def ZW(t:TA):TE:=λσ H Q=>t σ H λxs H1=>xs.length<=sizeLine/\∀p,H1 p=none->Q (.ref p) (upd H1 p (.lst xs))
theorem N9{x1}(h:PA X es t):PE X (.Tuple es x1 pos) (VP t):=by
 intro pins s σ H Q I hq;refine wpAny_Tuple_spliced (aQ (h pos pins s σ H _ I hq) λus s1 ⟨xs,H1,I1,r,z,q⟩=>⟨by rw[<- r.length];exact z,?_⟩);have hf:=I1.aI.fresh (abW _);refine⟨.ref s1.heap.objs.size,upd H1 s1.heap.objs.size (.tup xs),I1.laid (λb u e=>aaB _ e) (abW _) ?_,rfl,q _ hf⟩;exact⟨z,us,r,⟨_,abU _ rfl,rfl,rfl,_,rfl⟩⟩
theorem abb(h:PA X es t):PE X (.List es pos) (ZW t):=by
 intro pins s σ H Q I hq;refine wpAny_List_spliced (aQ (h pos pins s σ H _ I hq) λus s1 ⟨xs,H1,I1,r,z,q⟩=>⟨by rw[<- r.length];exact z,?_⟩);have hf:=I1.aI.fresh (abW _);refine⟨.ref s1.heap.objs.size,upd H1 s1.heap.objs.size (.lst xs),I1.laid (λb u e=>aaB _ e) (abW _) ?_,rfl,q _ hf⟩;exact⟨z,us,0,r,abU _ rfl⟩
end
noncomputable abbrev Sp:=List V->Hp->VK->XK->Prop
noncomputable abbrev jC:=List Env->Hp->Shared->XK->Value->Shared->Prop
structure p_(P:Program)(w:World)(K:PySem.W.Frag)(mg:Str->Option Value)(base:Heap)(A:Around)(outer:List Env)(s:Shared)(H:Hp):Prop where
 frames:A.frames=some outer
 mod:Mod K mg base
 bs:∀b o,base.get? b=some o->s.heap.get? b=some o/\H b=none
 jW:base.objs.size<=s.heap.objs.size
 jw:s.heap.FunFrames base outer
 om:∀b∈jM outer,H b=none
 aI:dJ P w H s.heap
 bare:AllBare s.gens
 hq:uv A H
def CE(outer:List Env)(P:Program)(w:World)(H:Hp)(s:Shared)(Q:VK)(u:Value)(s':Shared):Prop:=
 ∃v H',s'.os=s.os/\AllBare s'.gens/\Un (jM outer) [] H H' s.heap s'.heap/\dJ P w H' s'.heap/\RelV v u/\Q v H'
def CR(CX:jC)(outer:List Env)(P:Program)(w:World)(H:Hp)(s:Shared)(Q:VK)(E:XK)(r:Result)(s':Shared):Prop:=
 match r with
 |.ok (.ret u)=>CE outer P w H s Q u s'
 |.ok _=>False
 |.error e=>CX outer H s E e s'
structure a_(P:Program)(w:World)(K:PySem.W.Frag)(mg:Str->Option Value)(base:Heap)(CX:jC)(k:Nat)(f:Addr)(fd:FuncData)(ps:List Str)(sp:Sp)(cm:Bool:=true):Prop where
 len:∀vs H Q E,sp vs H Q E->vs.length=ps.length
 run:∀(A:Around) (outer:List Env) (s:Shared) (H:Hp) (args:Args) (us:List Value) (vs:List V) (Q:VK) (E:XK),cN k A cm->p_ P w K mg base A outer s H->BindsTo s fd args (ps.zip us)->aS vs us->sp vs H Q E->
  codeAny (model P w) A (.call (.ref f) args) (CR CX outer P w H s Q E) s
theorem p_.make{K:PySem.W.Frag}{outer:List Env}(e:p_ P w K mg base A outer s H)(C:Addr)(us:List Value)(kw:List (Str×Value)):
  p_ P w K mg base (A.under (.builtin "type.__call__" ⟨.ref C::us,kw⟩)) outer s H:=⟨by first|exact e.frames|(simpa[Around.under,Code.envs,Code.isFrame,pushEnvs] using e.frames),e.mod,e.bs,e.jW,e.jw,e.om,e.aI,e.bare,e.hq⟩
section
variable{X:Cx}{pins:List (Addr×Obj)}{σ:St}{H:Hp}{s s':Shared}
theorem Inv.OC(I:Inv X pins σ H s):p_ X.prog X.w X.K X.mg X.base X.A X.stack s H:=
 ⟨I.ok.frames,I.ok.mod,I.bs,adX I.ok.jW I.sz,I.stack,I.M4,I.aI,I.bare,I.hq⟩
theorem Inv.after(I:Inv X pins σ H s)(h:CE X.stack X.prog X.w H s Q u s'):EP X pins σ Q u s':=by
 obtain⟨v,H',os,bare,un,aI,r,q⟩:=h;obtain⟨hh,g,d,t,KR⟩:=s';obtain rfl:KR=s.os:=os;exact⟨v,H',I.call (g':=g) (d':=d) (ch:=[]) un aI bare (λb z=>absurd z (by simp)),r,q⟩
end
def V_(sp:Sp)(gh:List V)(E:XK)(t:TA):TE:=λσ H Q=>t σ H λvs H1=>sp (vs++gh) H1 Q E
def Aw(C:Addr)(m:Str)(sp:Sp)(gh:List V)(E:XK)(ta:TE)(t:TA):TE:=λσ H Q=>ta σ H λx H1=>∃a dx fs,x=.ref a/\H1 a=some (.ins C dx fs)/\fs.lookup m=none/\
 t σ H1 λvs H2=>sp (x::(vs++gh)) H2 Q E
def Nu(C:Addr)(sp:Sp)(gh:List V)(E:XK)(t:TA):TE:=λσ H Q=>t σ H λvs H1=>∀x dx,H1 x=none->H1 dx=none->dx≠x->
 sp (.ref x::(vs++gh)) (upd (upd H1 dx (.own x)) x (.ins C dx [])) (λv H2=>v=.aE/\Q (.ref x) H2) E
def Binds(K:PySem.W.Frag)(fd:FuncData)(ps:List Str)(ds:List Value):Prop:=
 ∀(s:Shared) (us:List Value),K.In s.heap->(us++ds).length=ps.length->BindsTo s fd ⟨us,[]⟩ (ps.zip (us++ds))
theorem Binds.all{K:PySem.W.Frag}{fd:FuncData}{ps:List Str}(h:∀us:List Value,us.length=ps.length->bindArgs fd ⟨us,[]⟩=pure (ps.zip us)):Binds K fd ps []:=λs us _ hl=>by
 rw[ady] at hl ⊢;exact .of_eq (h us hl)
def Passes(CX:jC)(X:Cx)(E:XK):Prop:=∀(pins:List (Addr×Obj)) (σ:St) (H:Hp) (s:Shared) (e:Value) (s':Shared),Inv X pins σ H s->CX X.stack H s E e s'->X.xe e s'
section
variable{X:Cx}{CX:jC}{k:Nat}{f C:Addr}{fd:FuncData}{ps:List Str}{sp:Sp}{gh:List V}{ds:List Value}{E:XK}{x m:Str}{p pos apos:Pos}{e o:Expr}{es:List Expr}{ta:TE}{t:TA}
variable{cm:Bool}
theorem A7(F:a_ X.prog X.w X.K X.mg X.base CX k f fd ps sp cm)(hr:cN k X.A cm)(hb:Binds X.K fd ps ds)(hd:aS gh ds)(hx:Passes CX X E)
  (I:Inv X pins σ H s) (r:aS vs us) (h:sp (vs++gh) H Q E):wpAny (model X.prog X.w) X.A (call (.ref f) us) (EP X pins σ Q) X.xe s:=by
 have r2:=r.append hd;have hl:(us++ds).length=ps.length:=by rw[<- r2.length];exact F.len _ _ _ _ h
 refine wpAny_call (afl (F.run X.A X.stack s H ⟨us,[]⟩ (us++ds) (vs++gh) Q E hr I.OC (hb s us I.d9 hl) r2 h) λr s' hq=>?_);cases r with
 |error e=>exact hx pins σ H s e s' I hq
 |ok fl=>
  cases fl with
  |ret u=>exact I.after hq
  |next=>exact False.elim hq
  |brk=>exact False.elim hq
  |cont=>exact False.elim hq
theorem xW(F:a_ X.prog X.w X.K X.mg X.base CX k f fd ps sp cm)(hr:cN k X.A cm)(hg:Gl X x)(hm:X.mg x=some (.ref f))(hk:PySem.W.keepIn X.K (.ref f)=true)(hb:Binds X.K fd ps ds)(hd:aS gh ds)(hx:Passes CX X E)
  (ha:PA X (e::es) t) (e8:(x==("__debug__":Str))=false:=by decide) (he:starEach (e::es) X.env=(false,eval e X.env)::starEach es X.env:=by rfl) (hpl:(backTo pos (starEach es X.env)).any (·.1)=false:=by rfl) :
  PE X (.Call (.Name x p) (e::es) [] pos) (V_ sp gh E t):=by
 intro pins s σ H Q I h;refine ael (Gd I hg hm ?_ e8);refine PySem.W.callWith_K (h₀:=X.base) I.ok.mod.yT hk (aQ (ha pos pins s σ H _ I h) λus s1 ⟨vs,H1,I1,r,q⟩=>⟨I1.d9,?_⟩) he hpl;exact A7 F hr hb hd hx I1 r q
theorem Nn{pl:Sem Bool}(he:PE X o ta)(c:j5 X.K C)(hm:oS X.K C m f)(F:a_ X.prog X.w X.K X.mg X.base CX k f fd ps sp cm)(hr:cN k X.A cm)(hb:Binds X.K fd ps ds)(hd:aS gh ds)(hx:Passes CX X E)(ha:PA X (e::es) t)
  (ig:starEach (e::es) X.env=(false,eval e X.env)::starEach es X.env:=by rfl) (hpl:(backTo pos (starEach es X.env)).any (·.1)=false:=by rfl)
  (ht:eval (.Call (.Attribute o m apos) (e::es) [] pos) X.env=(do
   let ov <- eval o X.env
   standAt apos.atName
   let(f,first) <- holding [ov] (getMethod ov m pl)
   callWith pos f first (backTo pos (starEach (e::es) X.env)) (backToKw pos (keywordEach [] X.env))):=by rfl) :
  PE X (.Call (.Attribute o m apos) (e::es) [] pos) (Aw C m sp gh E ta t):=by
 intro pins s σ H Q I h;refine PySem.W.methodCall_KW (pl:=pl) (aQ (he pins s σ H _ I h) λu s1 ⟨x,H1,I1,rx,a,dx,fs,ex,ea,l,q⟩=>?_) ht;subst ex;obtain rfl:u=Value.ref a:=rx;refine Be I1 ea c hm l ?_;refine PySem.W.callWith_K (first:=[.ref a]) (h₀:=X.base) I.ok.mod.yT hm.kp (aQ (ha pos pins s1 σ H1 _ I1 q) λus s2 ⟨vs,H2,I2,r,q2⟩=>⟨I2.d9,?_⟩) ig hpl;exact A7 (us:=.ref a::us) (vs:=.ref a::vs) F hr hb hd hx I2 (.cons rfl r) q2
theorem Zk{pl:Sem Bool}(he:PE X o ta)(c:j5 X.K C)(hm:oS X.K C m f)(F:a_ X.prog X.w X.K X.mg X.base CX k f fd ps sp cm)(hr:cN k X.A cm)(hb:Binds X.K fd ps ds)(hd:aS gh ds)(hx:Passes CX X E)
  (ht:eval (.Call (.Attribute o m apos) [] [] pos) X.env=(do
   let ov <- eval o X.env
   standAt apos.atName
   let(f,first) <- holding [ov] (getMethod ov m pl)
   callWith pos f first (backTo pos (starEach [] X.env)) (backToKw pos (keywordEach [] X.env))):=by rfl) :
  PE X (.Call (.Attribute o m apos) [] [] pos) (Aw C m sp gh E ta z9):=by
 intro pins s σ H Q I h;refine PySem.W.methodCall_KW (pl:=pl) (aQ (he pins s σ H _ I h) λu s1 ⟨x,H1,I1,rx,a,dx,fs,ex,ea,l,q⟩=>?_) ht;subst ex;obtain rfl:u=Value.ref a:=rx;refine Be I1 ea c hm l ?_;exact PySem.W.callWith_K0 (first:=[.ref a]) I1.d9 hm.kp (A7 (us:=[.ref a]) (vs:=[.ref a]) F hr hb hd hx I1 (.cons rfl .nil) q)
structure Mk(K:PySem.W.Frag)(C f:Addr):Prop where
 makes:PySem.W.makesIn K C=true
 init:PySem.W.findIn K (.ref C) "__init__"=some (some (.ref f))
 fn:PySem.W.isFn K (.ref f)=true
 kp:PySem.W.keepIn K (.ref C)=true
theorem aa7(M:Mk X.K C f)(F:a_ X.prog X.w X.K X.mg X.base CX k f fd ps sp cm)(hr:cN (k+1) X.A cm)(hb:Binds X.K fd ps ds)(hd:aS gh ds)
  (hx:Passes CX X E) (I:Inv X pins σ H s) (r:aS vs us)
  (h:∀x dx,H x=none->H dx=none->dx≠x->sp (.ref x::(vs++gh)) (upd (upd H dx (.own x)) x (.ins C dx [])) (λv H2=>v=.aE/\Q (.ref x) H2) E) :
  wpAny (model X.prog X.w) X.A (call (.ref C) us) (EP X pins σ Q) X.xe s:=by
 have hq:=h (s.heap.objs.size+1) s.heap.objs.size (I.aI.fresh (ae5 _)) (I.aI.fresh (abW _)) (acU (aeb _));have I2:=Inv.made (C:=C) I;have r2:aS (V.ref (s.heap.objs.size+1)::(vs++gh)) (Value.ref (s.heap.objs.size+1)::(us++ds)):=.cons rfl (r.append hd);have hl:(Value.ref (s.heap.objs.size+1)::us++ds).length=ps.length:=by
  have e:=r2.length;rw[F.len _ _ _ _ hq] at e;exact e.symm
 refine wpAny_call (So I.d9 M.makes M.init (afy.mp M.fn) (afl (F.run _ X.stack _ _ ⟨Value.ref (s.heap.objs.size + 1)::us,[]⟩ (Value.ref (s.heap.objs.size + 1)::(us++ds)) _ _ E (hr.make C us [])
  (I2.OC.make C us []) (hb _ (Value.ref (s.heap.objs.size+1)::us) I2.d9 hl) r2 hq) λr s' vd=>?_))
 cases r with
 |error e=>exact hx pins σ _ _ e s' I2 vd
 |ok fl=>
  cases fl with
  |ret u=>
   obtain⟨v,H',I3,rv,ev,q3⟩:=I2.after vd;subst ev;exact⟨rv,⟨V.ref (s.heap.objs.size+1),H',I3,rfl,q3⟩⟩
  |next=>exact False.elim vd
  |brk=>exact False.elim vd
  |cont=>exact False.elim vd
theorem PY(M:Mk X.K C f)(F:a_ X.prog X.w X.K X.mg X.base CX k f fd ps sp cm)(hr:cN (k+1) X.A cm)(hg:Gl X x)(hm:X.mg x=some (.ref C))(hb:Binds X.K fd ps ds)(hd:aS gh ds)(hx:Passes CX X E)
  (e8:(x==("__debug__":Str))=false:=by decide):PE X (.Call (.Name x p) [] [] pos) (Nu C sp gh E z9):=by
 intro pins s σ H Q I h;refine ael (Gd I hg hm ?_ e8);exact PySem.W.callWith_K0 I.d9 M.kp (aa7 (us:=[]) M F hr hb hd hx I .nil h)
end
structure cz(N P:List Str)(sc:Scope):Prop where
 kind:sc.kind=.function
 co:sc.isCoroutine=false
 gen:sc.isGenerator=false
 nd:N.Nodup
 pre:N.take P.length=P
 par:∀x∈P,sc.names.lookup x=some .local\/sc.names.lookup x=some .cell
 UK:∀y∈sc.names,y.2≠.free
theorem Oj{kindOf:Str->Option NameKind}:∀{binds:List (Str×Value)}{m:Str->Option Value},(∀v,(x,v)∉binds)->bindL kindOf binds m x=m x
 |[],_,_=>rfl
 |(n,v)::r,m,h=>by
  unfold bindL;rw[Oj λw hw=>h w (aaY _ hw)]
  split
  .have:x≠n:=by rintro rfl;exact h v aaF
   simp[this]
  .rfl
theorem IP{kindOf:Str->Option NameKind}:∀{binds:List (Str×Value)}{m:Str->Option Value},(∀v,(x,v)∉binds)->bindC kindOf binds m x=m x
 |[],_,_=>rfl
 |(n,v)::r,m,h=>by
  unfold bindC;rw[IP λw hw=>h w (aaY _ hw)]
  split
  .rfl
  .have:x≠n:=by rintro rfl;exact h v aaF
   simp[this]
theorem IG{kindOf:Str->Option NameKind}:∀{P:List Str}{vs:List Value}{i:Nat}{m:Str->Option Value},P.Nodup->P[i]? = some x->vs[i]? = some v->kindOf x=some .local->
  bindL kindOf (P.zip vs) m x=some v
 |[],_,_,_,_,h,_,_=>by simp at h
 |_::_,[],_,_,_,_,h,_=>by simp at h
 |p::P,w::vs,0,m,nd,h1,h2,hk=>by
  simp at h1 h2;subst h1;subst h2;show bindL kindOf ((p,w)::P.zip vs) m p=_;unfold bindL;rw[Oj λv hv=>(acV.mp nd).1 (List.of_mem_zip hv).1,if_pos hk];simp
 |p::P,w::vs,i+1,m,nd,h1,h2,hk=>by
  unfold bindL;exact IG (acV.mp nd).2 (by simpa using h1) (by simpa using h2) hk
theorem JE{kindOf:Str->Option NameKind}:∀{P:List Str}{vs:List Value}{i:Nat}{m:Str->Option Value},P.Nodup->P[i]? = some x->vs[i]? = some v->kindOf x≠some .local->
  bindC kindOf (P.zip vs) m x=some v
 |[],_,_,_,_,h,_,_=>by simp at h
 |_::_,[],_,_,_,_,h,_=>by simp at h
 |p::P,w::vs,0,m,nd,h1,h2,hk=>by
  simp at h1 h2;subst h1;subst h2;show bindC kindOf ((p,w)::P.zip vs) m p=_;unfold bindC;rw[IP λv hv=>(acV.mp nd).1 (List.of_mem_zip hv).1,if_neg hk];simp
 |p::P,w::vs,i+1,m,nd,h1,h2,hk=>by
  unfold bindC;exact JE (acV.mp nd).2 (by simpa using h1) (by simpa using h2) hk
noncomputable def start(N:List Str)(vs:List V):St:=vs.map some++List.replicate (N.length-vs.length) none
noncomputable def kD(CX:jC)(P:Program)(w:World)(K:PySem.W.Frag)(mg:Str->Option Value)(base:Heap)(N:List Str)(qual:Str)(scope:Scope)(f:Addr)(cd:Value)(A:Around)(outer:List Env)(s:Shared)(H:Hp)(E:XK)(cm:Bool:=true):Cx where
 prog:=P
 w:=w
 K:=K
 mg:=mg
 base:=base
 A:=A.deeper (envOfC qual scope s.heap.objs.size f cd)
 N:=N
 d_:=s
 uY:=H
 env:=envOfC qual scope s.heap.objs.size f cd
 outer:=outer
 stack:=envOfC qual scope s.heap.objs.size f cd::outer
 ex:=[]
 calm:=cm
 fn:=λ_=>true
 pn:=[]
 xe:=λe s'=>wpAny (model P w) (A.deeper (envOfC qual scope s.heap.objs.size f cd)) (leaving (envOfC qual scope s.heap.objs.size f cd) e) (λ_ uW=>CX outer H s E e uW) (λe' uW=>CX outer H s E e' uW) s'
theorem KI{sc:Scope}{n:Nat}{x:Str}(h:sc.names.lookup x=some .cell):∃c,(cellsFrom n sc.names []).lookup x=some c:=by
 have q:=PySem.W.cellsFrom_some sc.names n [] (.inl h);exact Option.isSome_iff_exists.mp q
theorem QI{CX:jC}{P:Program}{w:World}{K:PySem.W.Frag}{mg:Str->Option Value}{base:Heap}{N ps:List Str}{qual:Str}{scope:Scope}{outer:List Env}
  (S:cz N ps scope) (hd:cm=true->A.handled=none) (e0:p_ P w K mg base A outer s H) (hl:vs.length=ps.length) (r:aS vs us)
  (x:InCallC s s.heap.objs.size (bindL (envOfC qual scope s.heap.objs.size f cd).kindOf (ps.zip us) λ_=>none) (cellsFrom (s.heap.objs.size+1) scope.names []) (bindC (envOfC qual scope s.heap.objs.size f cd).kindOf (ps.zip us) λ_=>none) s1) :
  Inv (kD CX P w K mg base N qual scope f cd A outer s H E cm) [] (start N vs) H s1:=by
 have hpl:ps.length<=N.length:=by have:=congrArg List.length S.pre;rw[aeO] at this;omega
 obtain⟨h1,tk,rfl,hk⟩:=x.done;have u0:∀b:Addr,b∉(kD CX P w K mg base N qual scope f cd A outer s H E cm).ex:=λb z=>absurd (show b∈([]:List Addr) from z) (by simp)
 refine⟨⟨e0.mod,S.kind,rfl,rfl,abW _,λy z c h1 h2=>?_,λy hy=>?_,λy c _ h=>?_,hd,Around.frames_deeper e0.frames,.inr ⟨rfl,rfl⟩,λb z=>absurd z (u0 b),e0.bs,e0.jW,λb _ _=>u0 b,λb z=>absurd z (u0 b),e0.jw,e0.om⟩,
  rfl,e0.bare,Un.kept hk,⟨_,x.toInCall.ns,λi y v h1 h2 h3=>?_⟩,λy c h=>⟨_,x.cell y c h⟩,e0.aI.fresh (abW _),λy c h=>?_,λp hp=>absurd (show p∈([]:List (Addr×Obj)) from hp) (by simp),e0.aI.kept hk,?_,e0.hq⟩
 .exact name_of_addr x.apart (PySem.mem_of_lookup h1) (PySem.mem_of_lookup h2)
 .have hy:=hy;rcases hy with hy|hy
  .exact KI hy
  .exact absurd rfl (S.UK _ (PySem.mem_of_lookup hy))
 .exact aen (x.above y c (PySem.mem_of_lookup h))
 .have hi:i<vs.length:=by
   unfold start at h2
   by_cases hi:i<vs.length
   .exact hi
   .rw[ad7 (by simpa using hi)] at h2;rw[ae0] at h2
    split at h2<;>cases h2
  have ha:vs[i]? = some v:=by
   unfold start at h2;rw[adC (by simpa using hi),acX] at h2;cases e:vs[i]? with
   |none=>rw[e] at h2;cases h2
   |some a=>rw[e] at h2;cases h2;rfl
  obtain⟨u,hu,rv⟩:=r.get ha;have hp:ps[i]? = some y:=by
   rw[<- S.pre,List.getElem?_take_of_lt (by omega)];exact h1
  have Og:ps.Nodup:=by rw[<- S.pre];exact S.nd.sublist (afa _ _)
  refine⟨u,rv,?_⟩;rcases S.par y (List.mem_of_getElem? hp) with k|k
  .exact .inl ⟨k,IG Og hp hu k⟩
  .obtain⟨c,e⟩:=KI k;refine .inr ⟨.inl k,c,e,?_⟩;have q:=x.cell y c e;rw[JE Og hp hu (by show scope.names.lookup y≠_;rw[k];decide)] at q;exact q
 .exact e0.aI.fresh (aen (x.above y c (PySem.mem_of_lookup h)))
 .unfold start;show _=N.length;rw[acZ,List.length_map,aef];omega
theorem Ua{CX:jC}{P:Program}{w:World}{K:PySem.W.Frag}{mg:Str->Option Value}{base:Heap}{k:Nat}{f:Addr}{name qual:Str}{params:Arguments}{body:List Stmt}{scope:Scope}{dV kV doc pm aT ct oc:Value}{an od:Option Addr}
  {oz:Array (Option Value)}{N ps:List Str}{sp:Sp}{cm:Bool} (lk:K.lookup f=some ⟨oc,od,.func (PySem.W.fnOf name qual params body scope dV kV doc pm an aT ct),oz⟩) (cQ:PySem.W.codeIn K aT qual=true) (S:cz N ps scope)
  (len:∀vs H Q E,sp vs H Q E->vs.length=ps.length)
  (BO:∀(A:Around) (outer:List Env) (s:Shared) (H:Hp) (vs:List V) (Q:VK) (E:XK),cN k (A.deeper (envOfC qual scope s.heap.objs.size f aT)) cm->sp vs H Q E->
   ∃t,gK (kD CX P w K mg base N qual scope f aT A outer s H E cm) body t/\t { nx:=λ_ H'=>Q .aE H',rt:=Q } (start N vs) H) :
  a_ P w K mg base CX (k+1) f (PySem.W.fnOf name qual params body scope dV kV doc pm an aT ct) ps sp cm:=by
 refine⟨len,λA outer s H args us vs Q E hr e0 hb r oV=>?_⟩;have hl:=len _ _ _ _ oV;have KX:K.In s.heap:=e0.mod.yT.keeps λb o e=>(e0.bs b o e).1
 have lim:s.heap.NoLimit:=e0.mod.nolimit.keeps λb o e=>(e0.bs b o e).1
 have ab8:∀y∈ps.zip us,scope.names.lookup y.1=some .local\/(scope.names.lookup y.1=some .cell/\((cellsFrom (s.heap.objs.size+1) scope.names []).lookup y.1).isSome=true):=λ⟨n,v⟩ hy=>by
  rcases S.par n (List.of_mem_zip hy).1 with q|q
  .exact .inl q
  .exact .inr ⟨q,PySem.W.cellsFrom_some _ _ _ (.inl q)⟩
 refine codeAny_call_function hr.depth (KX _ _ lk) rfl S.co S.gen rfl (PySem.W.codeRec_of KX cQ) (hb _ _ _ _ ?_);refine wpAny_newFunctionEnv_cells S.kind ab8 λenv he s1 x=>?_
 subst he;refine⟨lim.keeps x.toInCall.keep,codeAny_func ?_⟩;obtain⟨t,ht,hq⟩:=BO A outer s H vs Q E (hr.deeper _) oV;have I:Inv (kD CX P w K mg base N qual scope f aT A outer s H E cm) [] (start N vs) H s1:=QI S hr.hd e0 hl r x;refine adE (ht [] s1 (start N vs) H _ I hq) (λfl s' hs=>?_) λe s' hs=>hs
 have fin:∀{aD:St}{H':Hp}{v:V}{u:Value},Inv (kD CX P w K mg base N qual scope f aT A outer s H E cm) [] aD H' s'->RelV v u->Q v H'->CE outer P w H s Q u s':=
  λ{aD H' v u} J rv q=>⟨v,H',J.os,J.bare,J.base,J.aI,rv,q⟩
 cases fl with
 |ret u=>
  obtain⟨v,aD,H',J,rv,q⟩:=hs;exact fin J rv q
 |next=>
  obtain⟨aD,H',J,q⟩:=hs;exact fin (v:=V.aE) (u:=Value.none) J rfl q
 |brk=>
  obtain⟨_,_,_,q⟩:=hs;exact False.elim q
 |cont=>
  obtain⟨_,_,_,q⟩:=hs;exact False.elim q
section
variable{X:Cx}{x:Str}{p pos:Pos}{e:Expr}{es:List Expr}{t:TA}{id T:String}{r:List V->Hp->VK->Prop}
def Ff(r:List V->Hp->VK->Prop)(t:TA):TE:=λσ H Q=>t σ H λvs H1=>r vs H1 Q
theorem q_(hc:fP X (.builtin id) r)(hg:Gl X x)(hm:X.mg x=none)(hv:bootBuiltins x=some (.builtin id))(ha:PA X (e::es) t)(hn:x≠"__name__":=by decide)(e8:(x==("__debug__":Str))=false:=by decide)
  (he:starEach (e::es) X.env=(false,eval e X.env)::starEach es X.env:=by rfl) (hpl:(backTo pos (starEach es X.env)).any (·.1)=false:=by rfl):PE X (.Call (.Name x p) (e::es) [] pos) (Ff r t):=by
 intro pins s σ H Q I h;refine ael (lK I hg hm hv ?_ hn e8);exact PyProof.Rows.callWith_builtin1 (aQ (ha pos pins s σ H _ I h) λus s1 ⟨vs,H1,I1,r1,q1⟩=>hc pins s1 σ H1 vs us Q I1 r1 q1) he hpl
theorem sD(hc:fP X (.type T) r)(hg:Gl X x)(hm:X.mg x=none)(hv:bootBuiltins x=some (.type T))(ha:PA X (e::es) t)(hn:x≠"__name__":=by decide)(e8:(x==("__debug__":Str))=false:=by decide)
  (he:starEach (e::es) X.env=(false,eval e X.env)::starEach es X.env:=by rfl) (hpl:(backTo pos (starEach es X.env)).any (·.1)=false:=by rfl):PE X (.Call (.Name x p) (e::es) [] pos) (Ff r t):=by
 intro pins s σ H Q I h;refine ael (lK I hg hm hv ?_ hn e8);exact adR (aQ (ha pos pins s σ H _ I h) λus s1 ⟨vs,H1,I1,r1,q1⟩=>hc pins s1 σ H1 vs us Q I1 r1 q1) he hpl
end
end L2
namespace HT
open PySem PyProof.Rows
section
variable{prog:Program}{w:World}{A:Around}{E:Value->Shared->Prop}{s:Shared}
noncomputable def f_(n d:Nat):Option Int->Nat
 |none=>d
 |some v=>if v<0 then(v+(n:Int)).toNat else min v.toNat n
theorem BV(n d:Nat):f_ n d none=d:=rfl
theorem E4(n d k:Nat):f_ n d (some (k:Int))=min k n:=by
 show(if(k:Int)<0 then((k:Int)+(n:Int)).toNat else min (k:Int).toNat n)=min k n;rw[if_neg (by omega),aeu]
end
end HT
namespace L2
open PySem PySem.Spec PyProof.Rows
noncomputable abbrev TO:=St->Hp->(Option Int->Hp->Prop)->Prop
def PO(X:Cx)(e:Option Expr)(t:TO):Prop:=
 ∀(pins:List (Addr×Obj)) (s:Shared) (σ:St) (H:Hp) (Q:Option Int->Hp->Prop),Inv X pins σ H s->t σ H Q->
  wpAny (model X.prog X.w) X.A (evalPart e X.env) (λu s'=>∃o H',Inv X pins σ H' s'/\IsPart u o/\Q o H') X.xe s
noncomputable def abZ:TO:=λ_ H Q=>Q none H
noncomputable def abq(t:TE):TO:=λσ H Q=>t σ H λx H1=>∃i,x=.int i/\Q (some i) H1
theorem intsAre_of:∀{us:List Value},aS (ns.map V.int) us->IntsAre us ns:=by
 induction ns with
 |nil=>intro us r;rw[adn] at r;cases r;exact .nil
 |cons n ns ih=>
  intro us r;rw[aaH] at r;cases r with
  |cons r1 r2=>
   obtain⟨t,e⟩:=r1;subst e;exact .cons n t (ih r2)
section
variable{X:Cx}{e:Expr}{te:TE}{lo hi:Option Expr}{tl th:TO}{pos p2:Pos}
theorem D8:PO X none abZ:=by
 intro pins s σ H Q I h;rw[evalPart_none];exact aa1 ⟨none,H,I,.none,h⟩
theorem Eh(h:PE X e te):PO X (some e) (abq te):=by
 intro pins s σ H Q I hw;rw[evalPart_some];refine aQ (h pins s σ H _ I hw) λu s1 ⟨x,H1,I1,r1,q1⟩=>?_
 obtain⟨i,rfl,q⟩:=q1;obtain⟨t,rfl⟩:=r1;exact⟨some i,H1,I1,.int i t,q⟩
def Ny(X:Cx)(r:V->Option Int->Option Int->Hp->VK->Prop):Prop:=
 ∀(pins:List (Addr×Obj)) (s:Shared) (σ:St) (H:Hp) (x:V) (v vl vu:Value) (lo hi:Option Int) (sl:Addr) (Q:VK),Inv X pins σ H s->RelV x v->s.heap.IsSliceOf sl vl vu .none->IsPart vl lo->IsPart vu hi->r x lo hi H Q->
  ∃T id,typeLookup (.type T) "__getitem__"=pure (some (.builtin id))/\s.TypeIs v T/\wpAny (model X.prog X.w) X.A (getItem v (.ref sl)) (EP X pins σ Q) X.xe s
def UH(r:V->Option Int->Option Int->Hp->VK->Prop)(te:TE)(tl th:TO):TE:=λσ H Q=>te σ H λx H1=>tl σ H1 λl H2=>th σ H2 λu H3=>r x l u H3 Q
theorem EX{r:V->Option Int->Option Int->Hp->VK->Prop}(hr:Ny X r)(he:PE X e te)(hl:PO X lo tl)(hu:PO X hi th):PE X (.Subscript e (.Slice lo hi none p2) pos) (UH r te tl th):=by
 intro pins s σ H Q I h;refine Subscript_ (aQ (he pins s σ H _ I h) λv s1 ⟨x,H1,I1,r1,q1⟩=>?_);refine wpAny_Slice (aQ (hl pins s1 σ H1 _ I1 q1) λvl s2 ⟨l,H2,I2,pl,q2⟩=>aQ (hu pins s2 σ H2 _ I2 q2) λvu s3 ⟨u,H3,I3,pu,q3⟩=>?_);rw[evalPart_none];refine aa1 ?_;have I4:Inv X pins σ H3 { s3 with heap:=s3.heap.push { cls:=.type "slice",data:=.fields #[vl,vu,.none] } }:=I3.kept λb ob q=>aaB _ q
 obtain⟨T,id,hT,ht,hg⟩:=hr pins { s3 with heap:=s3.heap.push { cls:=.type "slice",data:=.fields #[vl,vu,.none] } } σ H3 x v vl vu l u s3.heap.objs.size Q I4 r1 (Heap.IsSliceOf.new ..) pl pu q3;exact tail_any (ops:=[.ref s3.heap.objs.size,v]) ht hT hg (by with_unfolding_all rfl)
noncomputable def j8(xs:List V)(lo hi:Option Int):List V:=(xs.drop (HT.f_ xs.length 0 lo)).take (HT.f_ xs.length xs.length hi-HT.f_ xs.length 0 lo)
theorem Ti(xs:List V)(lo hi:Option Int):(j8 xs lo hi).length<=xs.length:=by
 unfold j8;rw[aeO,List.length_drop];omega
end
noncomputable def ku(n:Nat)(i:Int):Option Nat:=if 0<=i then(if i<n then some i.toNat else none) else if -(n:Int)<=i then some (i+n).toNat else none
noncomputable def cS{α:Type}(xs:List α)(i:Int):Option α:=(ku xs.length i).bind λj=>xs[j]?
theorem QJ(h:ku n i=some j):seqIndex? i n=some j/\j<n/\-(n:Int)<=i/\i<n:=by
 unfold ku at h
 by_cases h0:0<=i
 .rw[if_pos h0] at h
  by_cases h1:i<n
  .rw[if_pos h1] at h;have e:=aco h;exact⟨by rw[seqIndex_of h0 h1,e],by omega,by omega,h1⟩
  .rw[if_neg h1] at h;cases h
 .rw[if_neg h0] at h
  by_cases h1:-(n:Int)<=i
  .rw[if_pos h1] at h;have e:=aco h;exact⟨by rw[seqIndex_neg (by omega) h1,e],by omega,h1,by omega⟩
  .rw[if_neg h1] at h;cases h
theorem DO{α:Type}{xs:List α}{v:α}(h:cS xs i=some v):∃j,seqIndex? i xs.length=some j/\xs[j]? = some v/\j<xs.length/\-(xs.length:Int)<=i/\i<xs.length:=by
 unfold cS at h;cases e:ku xs.length i with
 |none=>rw[e] at h;cases h
 |some j=>
  rw[e] at h;obtain⟨h1,h2,h3,h4⟩:=QJ e;exact⟨j,h1,h,h2,h3,h4⟩
def uS(b:Expr):Prop:=∀o i,subscripted b false o i=operate [o,i] (getItem o i)
def nj(X:Cx)(r:R2):Prop:=
 ∀(value slice:Expr) (pins:List (Addr×Obj)) (s:Shared) (σ:St) (H:Hp) (x y:V) (v u:Value) (Q:VK),Inv X pins σ H s->RelV x v->RelV y u->r x y H Q->
  subscripted slice false v u=operate [v,u] (getItem v u)->wpAny (model X.prog X.w) X.A (subscriptTail value slice v u) (EP X pins σ Q) X.xe s
def Mt(X:Cx)(id:String)(r:V->List V->Hp->VK->Prop):Prop:=
 ∀(pins:List (Addr×Obj)) (s:Shared) (σ:St) (H:Hp) (x:V) (xs:List V) (v:Value) (us:List Value) (Q:VK),Inv X pins σ H s->RelV x v->aS xs us->r x xs H Q->
  wpAny (model X.prog X.w) X.A (call (.builtin id) (v::us)) (EP X pins σ Q) X.xe s
section
variable{X:Cx}{a b:Expr}{ta tb:TE}{pos:Pos}
theorem nj.or{r r':R2}(h:nj X r)(h':nj X r'):nj X (λx y H Q=>r x y H Q\/r' x y H Q):=by
 intro value slice pins s σ H x y v u Q I rx ry q hs;rcases q with q|q
 .exact h value slice pins s σ H x y v u Q I rx ry q hs
 .exact h' value slice pins s σ H x y v u Q I rx ry q hs
theorem zg{r:R2}(hr:nj X r)(ha:PE X a ta)(hb:PE X b tb)(hs:uS b):PE X (.Subscript a b pos) (sO r ta tb):=by
 intro pins s σ H Q I h;exact Subscript_ (BL ha hb I h λv u s2 x y H2 I2 rx ry q=>hr a b pins s2 σ H2 x y v u Q I2 rx ry q (hs _ _))
def Bg(K:PySem.W.Frag):R2:=λx y H Q=>∃p xs i v,x=.ref p/\y=.int i/\bQ K H p xs/\cS xs i=some v/\Q v H
def E5(K:PySem.W.Frag):R2:=λx y H Q=>∃p xs i v,x=.ref p/\y=.int i/\cA K H p xs/\cS xs i=some v/\Q v H
def Dz:R2:=λx y H Q=>∃z i c,x=.str z/\y=.int i/\z.length<=sizeLine/\cS z.cps.toList i=some c/\Q (.str ⟨#[c]⟩) H
theorem P4:nj X (Bg X.K):=by
 intro value slice pins s σ H x y v u Q I rx ry h hs;obtain⟨p,xs,i,z,rfl,rfl,hq,he,q⟩:=h;cases rx;obtain⟨t,rfl⟩:=ry;obtain⟨aq,r,pl,hz⟩:=I.list hq;obtain⟨j,h1,h2,h3,h4,h5⟩:=DO he;obtain⟨w,ew,iF⟩:=r.get h2;have hl:=r.length;have hn:=Al;have fin:EP X pins σ Q w s:=⟨z,H,I,iF,q⟩
 by_cases h0:0<=i
 .have hj:i.toNat=j:=by
   rw[seqIndex_of h0 h5] at h1;exact aco h1
  exact item_listR pl.isList h0 (by omega) (by rw[hj];simpa using ew) fin hs
 .have hj:(i+(aq.toArray.size:Int)).toNat=j:=by
   rw[seqIndex_neg (by omega) h4] at h1;rw[ack,<- hl];exact aco h1
  exact subscriptTail_builtinR pl.isList.typeIs slot_list_getitem.lookup
   (wpAny_getItem_list_neg pl.isList (by omega) (by rw[ack]<;>omega) (by omega) (by rw[hj];simpa using ew) ⟨rfl,fin⟩) hs
theorem Vz:nj X (E5 X.K):=by
 intro value slice pins s σ H x y v u Q I rx ry h hs;obtain⟨p,xs,i,z,rfl,rfl,hq,he,q⟩:=h;cases rx;obtain⟨t,rfl⟩:=ry;obtain⟨aq,r,pl,hz⟩:=I.tuple hq;obtain⟨j,h1,h2,h3,h4,h5⟩:=DO he;obtain⟨w,ew,iF⟩:=r.get h2;have hl:=r.length;have hn:=Al;have fin:EP X pins σ Q w s:=⟨z,H,I,iF,q⟩
 exact subscriptTail_builtinR pl.typeIs slot_tuple_getitem.lookup
  (getItem_tuple pl (by omega) (by omega) (by rw[ack,<- hl];exact h1) (by simpa using ew) ⟨rfl,fin⟩) hs
theorem abI:nj X Dz:=by
 intro value slice pins s σ H x y v u Q I rx ry h hs;obtain⟨z,i,c,rfl,rfl,hz,he,q⟩:=h;obtain⟨t,rfl⟩:=rx;obtain⟨t',rfl⟩:=ry;obtain⟨j,h1,h2,h3,h4,h5⟩:=DO he;have hl:z.cps.toList.length=z.length:=by simp[Str.length]
 rw[hl] at h1 h4 h5;have hn:=Al;exact tail_any (typeIs_str s z t) slot_str_getitem.lookup (getItem_str (by
  have e1:decide (i < -(2 ^ 63:Int))=false:=ada (by omega);have e2:decide (i >= 2 ^ 63)=false:=ada (by omega);rw[e1,e2,Bool.or_false]) (by rw[h1];simpa using h2) ⟨.str ⟨#[c]⟩,H,I.tok _,⟨_,rfl⟩,q⟩) hs
def Za(K:PySem.W.Frag):R2:=λx y H Q=>Bg K x y H Q\/E5 K x y H Q\/Dz x y H Q
theorem yV:nj X (Za X.K):=P4.or (Vz.or abI)
theorem S0(lo hi:Option Int)(n:Nat):(sliceBounds lo hi none n).1=((HT.f_ n 0 lo:Nat):Int)/\(sliceBounds lo hi none n).2.1=((HT.f_ n n hi:Nat):Int)/\(sliceBounds lo hi none n).2.2=1:=by
 refine⟨?_,?_,rfl⟩
 .cases lo with
  |none=>simp[sliceBounds,HT.f_]
  |some i=>
   simp only[sliceBounds,HT.f_,Option.getD_none,show(1:Int) > 0 by decide,afp]
   by_cases h:i<0
   .simp only[h,afp]<;>omega
   .simp only[h,afb]<;>omega
 .cases hi with
  |none=>simp[sliceBounds,HT.f_]
  |some i=>
   simp only[sliceBounds,HT.f_,Option.getD_none,show(1:Int) > 0 by decide,afp]
   by_cases h:i<0
   .simp only[h,afp]<;>omega
   .simp only[h,afb]<;>omega
theorem YO(aq:List Value)(lo hi:Option Int):slicePick aq.toArray lo hi none=((aq.drop (HT.f_ aq.length 0 lo)).take (HT.f_ aq.length aq.length hi-HT.f_ aq.length 0 lo)).toArray:=by
 obtain⟨h1,h2,h3⟩:=S0 lo hi aq.toArray.size;unfold slicePick;rw[h1,h2,h3];simp only[sliceRange_one,pick_run,ack]<;>rfl
def JK(K:PySem.W.Frag):V->Option Int->Option Int->Hp->VK->Prop:=λx lo hi H Q=>∃a xs,x=.ref a/\bQ K H a xs/\∀p,H p=none->Q (.ref p) (upd H p (.lst (j8 xs lo hi)))
theorem A9:Ny X (JK X.K):=by
 intro pins s σ H x v vl vu lo hi sl Q I rx hs pl pu h;obtain⟨a,xs,rfl,hx,q⟩:=h;cases rx;obtain⟨aq,r,ht,hz⟩:=I.list hx;have hlen:=r.length;refine⟨"list",_,slot_list_getitem.lookup,ht.isList.typeIs,?_⟩;refine wpAny_getItem_list_slice ht.isList hs pl pu .none (by simp) ?_ (by rw[ack]<;>omega);rw[YO,<- hlen];refine⟨.ref s.heap.objs.size,_,I.laid (λb ob q=>aaB _ q) (abW _) ?_,rfl,q _ (I.aI.fresh (abW _))⟩;exact⟨adX (Ti xs lo hi) hz,_,0,(r.drop (HT.f_ xs.length 0 lo)).take (HT.f_ xs.length xs.length hi-HT.f_ xs.length 0 lo),abU _ rfl⟩
noncomputable def m9:V->Bool
 |.aE=>true
 |.bl _=>true
 |.int _=>true
 |.str _=>true
 |_=>false
noncomputable def oU:V->V->Bool
 |.aE,.aE=>true
 |.bl a,.bl b=>a==b
 |.bl a,.int b=>(if a then 1 else 0)==b
 |.int a,.bl b=>a==(if b then 1 else 0)
 |.int a,.int b=>a==b
 |.str a,.str b=>a==b
 |_,_=>false
theorem Uk(ry:RelV y u)(rx:RelV x v)(fy:m9 y=true)(fx:m9 x=true):SeqAt.EqAt A s u v (oU y x):=by
 cases y with
 |aE=>
  cases ry;cases x with
  |aE=>cases rx;exact SeqAt.EqAt.same _
  |bl b=>cases rx;exact SeqAt.EqAt.none_bool b
  |int b=>obtain⟨t,rfl⟩:=rx;exact SeqAt.EqAt.none_int b t
  |str b=>obtain⟨t,rfl⟩:=rx;exact SeqAt.EqAt.none_str b t
  |_=>exact absurd (show false=true from fx) ab3
 |bl a=>
  cases ry;cases x with
  |aE=>cases rx;exact SeqAt.EqAt.bool_none a
  |bl b=>cases rx;exact SeqAt.EqAt.bool_bool a b
  |int b=>obtain⟨t,rfl⟩:=rx;exact SeqAt.EqAt.bool_int a b t
  |str b=>obtain⟨t,rfl⟩:=rx;exact SeqAt.EqAt.bool_str a b t
  |_=>exact absurd (show false=true from fx) ab3
 |int a=>
  obtain⟨t',rfl⟩:=ry;cases x with
  |aE=>cases rx;exact SeqAt.EqAt.int_none a t'
  |bl b=>cases rx;exact SeqAt.EqAt.int_bool a t' b
  |int b=>obtain⟨t,rfl⟩:=rx;exact SeqAt.EqAt.int_int a t' b t
  |str b=>obtain⟨t,rfl⟩:=rx;exact SeqAt.EqAt.int_str a t' b t
  |_=>exact absurd (show false=true from fx) ab3
 |str a=>
  obtain⟨t',rfl⟩:=ry;cases x with
  |aE=>cases rx;exact SeqAt.EqAt.str_none a t'
  |bl b=>cases rx;exact SeqAt.EqAt.str_bool a t' b
  |int b=>obtain⟨t,rfl⟩:=rx;exact SeqAt.EqAt.str_int a t' b t
  |str b=>obtain⟨t,rfl⟩:=rx;exact SeqAt.EqAt.str_str a t' b t
  |_=>exact absurd (show false=true from fx) ab3
 |_=>exact absurd (show false=true from fy) ab3
noncomputable def jb(x:V)(u:Value):Bool:=match u with
 |.none=>oU .aE x
 |.bool b=>oU (.bl b) x
 |.int i _=>oU (.int i) x
 |.str z _=>oU (.str z) x
 |_=>false
theorem MD(r:RelV y u)(f:m9 y=true):jb x u=oU y x:=by
 cases y with
 |aE=>cases r;rfl
 |bl b=>cases r;rfl
 |int i=>obtain⟨t,rfl⟩:=r;rfl
 |str z=>obtain⟨t,rfl⟩:=r;rfl
 |_=>exact absurd (show false=true from f) ab3
theorem wJ:∀{xs:List V}{us:List Value},aS xs us->xs.all m9=true->us.any (jb x)=xs.any λy=>oU y x
 |_,_,.nil,_=>rfl
 |y::xs,u::us,.cons r t,f=>by
  rw[List.all_cons,acr] at f;rw[afc,afc,MD r f.1,wJ t f.2]
theorem tX(rx:RelV x v)(fx:m9 x=true):∀{xs:List V}{us:List Value},aS xs us->xs.all m9=true->∀u∈us,SeqAt.EqAt A s u v (jb x u)
 |_,_,.nil,_=>λu hu=>by cases hu
 |y::xs,u::us,.cons r t,f=>λu' hu=>by
  rw[List.all_cons,acr] at f;rcases abh.mp hu with rfl|hu
  .rw[MD r f.1];exact Uk r rx f.1 fx
  .exact tX rx fx t f.2 u' hu
noncomputable def xS(x:V)(xs:List V):Bool:=xs.any λy=>oU y x
def AW(K:PySem.W.Frag)(neg:Bool):R2:=λx y H Q=>∃p xs,y=.ref p/\(bQ K H p xs\/cA K H p xs)/\m9 x=true/\xs.all m9=true/\Q (.bl (if neg then !xS x xs else xS x xs)) H
theorem Y8:dM X (compareOp .In) (AW X.K false):=by
 intro pins s σ H x y v u Q I rx ry h;obtain⟨p,xs,rfl,hq,fx,fs,q⟩:=h;cases ry;rcases hq with hq|hq
 .obtain⟨aq,r,pl,hz⟩:=I.list hq;refine SeqAt.in_listAt (jb x) pl.isList (λw hw=>tX rx fx r fs w (by simpa using hw)) ⟨.bl _,H,I,rfl,?_⟩;rw[show aq.toArray.any (jb x)=aq.any (jb x) by simp,wJ r fs];exact q
 .obtain⟨aq,r,pl,hz⟩:=I.tuple hq;refine SeqAt.in_tupleAt (jb x) pl (λw hw=>tX rx fx r fs w (by simpa using hw)) ⟨.bl _,H,I,rfl,?_⟩;rw[show aq.toArray.any (jb x)=aq.any (jb x) by simp,wJ r fs];exact q
theorem XI:dM X (compareOp .NotIn) (AW X.K true):=by
 intro pins s σ H x y v u Q I rx ry h;obtain⟨p,xs,rfl,hq,fx,fs,q⟩:=h;cases ry;rcases hq with hq|hq
 .obtain⟨aq,r,pl,hz⟩:=I.list hq;refine SeqAt.notIn_listAt (jb x) pl.isList (λw hw=>tX rx fx r fs w (by simpa using hw)) ⟨.bl _,H,I,rfl,?_⟩;rw[show aq.toArray.any (jb x)=aq.any (jb x) by simp,wJ r fs];exact q
 .obtain⟨aq,r,pl,hz⟩:=I.tuple hq;refine SeqAt.notIn_tupleAt (jb x) pl (λw hw=>tX rx fx r fs w (by simpa using hw)) ⟨.bl _,H,I,rfl,?_⟩;rw[show aq.toArray.any (jb x)=aq.any (jb x) by simp,wJ r fs];exact q
theorem Tt:fP X (.builtin "len") (λxs H Q=>∃p ys,xs=[.ref p]/\(bQ X.K H p ys\/cA X.K H p ys)/\Q (.int ys.length) H):=by
 intro pins s σ H xs us Q I r h;obtain⟨p,ys,rfl,hq,q⟩:=h;obtain⟨u,rfl,rx⟩:=vals1 r;cases rx;have hn:=Al;rcases hq with hq|hq
 .obtain⟨aq,r',pl,hz⟩:=I.list hq;have hlen:=r'.length;exact Calls.call_len_list pl.isList (by simp only[ack]<;>omega) ⟨.int ys.length,H,I.tok _,⟨s.toks+1,by rw[ack,hlen]⟩,q⟩
 .obtain⟨aq,r',pl,hz⟩:=I.tuple hq;have hlen:=r'.length;exact len_tuple pl (by simp only[ack]<;>omega) ⟨.int ys.length,H,I.tok _,⟨s.toks+1,by rw[ack,hlen]⟩,q⟩
theorem Tf:fP X (.type "list") (λxs H Q=>∃p ys,xs=[.ref p]/\(bQ X.K H p ys\/cA X.K H p ys)/\∀l,H l=none->Q (.ref l) (upd H l (.lst ys))):=by
 intro pins s σ H xs us Q I r h;obtain⟨p,ys,rfl,hq,q⟩:=h;obtain⟨u,rfl,rx⟩:=vals1 r;cases rx;have fin:∀(aq:List Value),aS ys aq->ys.length<=sizeLine->∀(h':Heap) (c':Nat),(∀b o',s.heap.get? b=some o'->h'.get? b=some o')->
   h'.get? s.heap.objs.size=some { cls:=.type "list",dict:=none,data:=.seq aq.toArray c',slots:=#[] }->EP X pins σ Q (.ref s.heap.objs.size) { s with heap:=h' }:=λaq r' hz h' c' kp e=>
  ⟨.ref s.heap.objs.size,_,I.laid kp (abW _) (show cV X.prog X.w _ h' _ (.lst ys) from⟨hz,aq,c',r',e⟩),rfl,q _ (I.aI.fresh (abW _))⟩
 rcases hq with hq|hq
 .obtain⟨aq,r',pl,hz⟩:=I.list hq;have hlen:=r'.length;obtain⟨o,ho,hc,n,hd⟩:=pl.isList;exact call_list_seq p (.inl rfl) ho hc hd (λh' c' kp e=>fin aq r' hz h' c' kp e) (by simp only[ack]<;>omega)
 .obtain⟨aq,r',pl,hz⟩:=I.tuple hq;have hlen:=r'.length;obtain⟨o,ho,hc,n,hd⟩:=pl;exact call_list_seq p (.inr rfl) ho hc hd (λh' c' kp e=>fin aq r' hz h' c' kp e) (by simp only[ack]<;>omega)
theorem aav:fP X (.type "tuple") (λxs H Q=>∃p ys,xs=[.ref p]/\((bQ X.K H p ys/\∀l,H l=none->Q (.ref l) (upd H l (.tup ys)))\/(cA X.K H p ys/\Q (.ref p) H))):=by
 intro pins s σ H xs us Q I r h;obtain⟨p,ys,rfl,h⟩:=h;obtain⟨u,rfl,rx⟩:=vals1 r;cases rx;rcases h with⟨hq,q⟩|⟨hq,q⟩
 .obtain⟨aq,r',pl,hz⟩:=I.list hq;have hlen:=r'.length;refine call_tuple_list pl.isList (λh' kp=>?_) (by simp only[ack]<;>omega);have I1:=I.kept (t':=s.toks) kp;have I2:Inv X pins σ (upd H h'.objs.size (.tup ys)) { s with heap:=h'.push { cls:=.type "tuple",data:=.seq aq.toArray } }:=
   I1.laid (λb o e=>aaB _ e) (abW _) (show cV X.prog X.w _ _ _ (.tup ys) from⟨hz,aq,r',mS.new _ _⟩)
  exact⟨.ref h'.objs.size,_,I2,rfl,q _ (I1.aI.fresh (abW _))⟩
 .obtain⟨aq,r',pl,hz⟩:=I.tuple hq;exact call_tuple_same pl ⟨.ref p,H,I,rfl,q⟩
def Aq(K:PySem.W.Frag)(T:String)(x:V)(H:Hp):Prop:=match x with
 |.str _=>T="str"
 |.int _=>T="int"
 |.ref p=>(T="list"/\∃xs,bQ K H p xs)\/(T="tuple"/\∃o,K.lookup p=some o/\o.cls=.type "tuple"/\o.dict=none)\/
   (T="dict"/\((∃kvs,H p=some (.dK kvs))\/∃kvs,H p=some (.dT kvs)))\/(T="set"/\∃S n,H p=some (.set S n))
 |_=>False
theorem CC{T:String}(I:Inv X pins σ H s)(r:RelV x v)(ty:Aq X.K T x H):
  s.TypeIs v T/\∀a,v=.ref a->∃ob,s.heap.get? a=some ob/\ob.dict=none:=by
 cases x with
 |str z=>
  obtain⟨t,rfl⟩:=r;cases(show T="str" from ty);exact⟨typeIs_str s z t,λ_ e=>nomatch e⟩
 |int i=>
  obtain⟨t,rfl⟩:=r;cases(show T="int" from ty);exact⟨typeIs_int s i t,λ_ e=>nomatch e⟩
 |ref p=>
  cases r;rcases ty with⟨rfl,xs,hq⟩|⟨rfl,o,hk,hc,hd⟩|⟨rfl,hk⟩|⟨rfl,S,n,hk⟩
  .obtain⟨aq,_,pl,_⟩:=I.list hq;refine⟨pl.isList.typeIs,λa e=>?_⟩;cases e;obtain⟨o,n,e,c,hd,_⟩:=pl;exact⟨o,e,hd⟩
  .refine⟨⟨o,I.d9 p o hk,hc⟩,λa e=>?_⟩;cases e;exact⟨o,I.d9 _ o hk,hd⟩
  .have z:∃o,s.heap.get? p=some o/\o.ExactDict:=by
    rcases hk with⟨kvs,hk⟩|⟨kvs,hk⟩
    .obtain⟨_,_,_,_,o,_,_,e,ex,_⟩:=I.aI p _ hk;exact⟨o,e,ex⟩
    .obtain⟨_,_,_,_,o,_,_,e,ex,_⟩:=I.aI p _ hk;exact⟨o,e,ex⟩
   obtain⟨o,e,ex⟩:=z;refine⟨⟨o,e,ex.1⟩,λa e2=>?_⟩;cases e2;exact⟨o,e,ex.2.1⟩
  .obtain⟨o,_,_,_,e,ex,_⟩:=I.aI p _ hk;refine⟨⟨o,e,ex.1⟩,λa e2=>?_⟩;cases e2;exact⟨o,e,ex.2.1⟩
 |_=>exact False.elim ty
def HY(K:PySem.W.Frag)(T:String)(r:V->List V->Hp->VK->Prop)(to:TE):TE:=λσ H Q=>to σ H λx H1=>Aq K T x H1/\r x [] H1 Q
def tBM(K:PySem.W.Frag)(T:String)(r:V->List V->Hp->VK->Prop)(to:TE)(t:TA):TE:=λσ H Q=>to σ H λx H1=>Aq K T x H1/\t σ H1 λxs H2=>r x xs H2 Q
variable{o e:Expr}{es:List Expr}{to:TE}{t:TA}{name:Str}{apos cpos:Pos}{T id:String}{r:V->List V->Hp->VK->Prop}
theorem Kg(pa:PlainAttrs T)(slot:Slot T name id)(pK:typeOf (.builtin id)=pure (.type "method_descriptor"))(hm:Mt X id r)(ho:PE X o to)
  (iu:attributeBase o name X.env (eval o X.env)=eval o X.env:=by rfl) (iD:(apos.endLine==cpos.line)=true:=by rfl):PE X (.Call (.Attribute o name apos) [] [] cpos) (HY X.K T r to):=by
 intro pins s σ H Q I h;refine wpAny_Call_method0_late iu iD (aQ (ho pins s σ H _ I h) λv s1 ⟨x,H1,I1,r1,ty,q1⟩=>?_);obtain⟨h1,h2⟩:=CC I1 r1 ty;exact⟨T,id,pa,slot,pK,h1,h2,ae2 rfl (PySem.evalArgs_none (hm pins s1 σ H1 x [] v [] Q I1 r1 .nil q1))⟩
theorem zv(pa:PlainAttrs T)(slot:Slot T name id)(pK:typeOf (.builtin id)=pure (.type "method_descriptor"))(hm:Mt X id r)(ho:PE X o to)(ha:PA X (e::es) t)
  (iu:attributeBase o name X.env (eval o X.env)=eval o X.env:=by rfl)
  (jK:((backTo cpos (starEach (e::es) X.env)).all (λx=>!x.1)&&(backToKw cpos (keywordEach [] X.env)).all (λx=>x.1.isSome)
   && decide ((e::es).length+([]:List Keyword).length+(if([]:List Keyword).isEmpty then 0 else 1)<30))=true:=by rfl)
  (iD:(apos.endLine==cpos.line)=true:=by rfl) (hs:starEach (e::es) X.env=(false,eval e X.env)::starEach es X.env:=by rfl) (Uc:(backTo cpos (starEach es X.env)).any (·.1)=false:=by rfl) :
  PE X (.Call (.Attribute o name apos) (e::es) [] cpos) (tBM X.K T r to t):=by
 intro pins s σ H Q I h;refine wpAny_Call_method_late iu jK iD rfl (aQ (ho pins s σ H _ I h) λv s1 ⟨x,H1,I1,r1,ty,q1⟩=>?_);obtain⟨h1,h2⟩:=CC I1 r1 ty;refine⟨T,id,pa,slot,pK,h1,h2,?_⟩;have hA:=ha cpos pins s1 σ H1 _ I1 q1;rw[hs] at hA ⊢;refine ae2 (by show(false||(backTo cpos (starEach es X.env)).any (·.1))=false;rw[Uc]<;>rfl) (Calls.evalArgs_plain ?_);exact aQ hA λus s2 ⟨vs,H2,I2,r2,q2⟩=>hm pins s2 σ H2 x vs v us Q I2 r1 r2 q2
end
def rC(X:Cx)(id:String)(r:V->List V->Hp->VK->Prop):Prop:=
 ∀(pins:List (Addr×Obj)) (s:Shared) (σ:St) (H:Hp) (x:V) (xs:List V) (v:Value) (us:List Value) (Q:VK),Inv X pins σ H s->RelV x v->aS xs us->r x xs H Q->
  wpAny (model X.prog X.w) X.A (call (.builtin id) (v::us)) (EP X pins σ Q) X.xe s
theorem aS.one:∀{x:V}{us:List Value},aS [x] us->∃u,us=[u]/\RelV x u
 |_,_,.cons r .nil=>⟨_,rfl,r⟩
theorem aS.zero:∀{us:List Value},aS [] us->us=[]
 |_,.nil=>rfl
theorem aS.dropLast(h:aS xs us):aS xs.dropLast us.dropLast:=by
 induction h with
 |nil=>exact .nil
 |cons r t ih=>
  cases t with
  |nil=>exact .nil
  |cons q t'=>exact .cons r ih
theorem aS.eraseIdx:∀{xs:List V}{us:List Value} (i:Nat),aS xs us->aS (xs.eraseIdx i) (us.eraseIdx i)
 |_,_,_,.nil=>.nil
 |_,_,0,.cons _ t=>t
 |_,_,i+1,.cons r t=>.cons r (aS.eraseIdx i t)
theorem aS.reverse(h:aS xs us):aS xs.reverse us.reverse:=by
 induction h with
 |nil=>exact .nil
 |cons r t ih=>rw[afq,afq];exact aS.append ih (.cons r .nil)
theorem WT{α:Type}(l:List α):l.eraseIdx (l.length-1)=l.dropLast:=by
 induction l with
 |nil=>rfl
 |cons a r ih=>
  cases r with
  |nil=>rfl
  |cons b r=>
   have e:(a::b::r).length-1=((b::r).length-1)+1:=by
    have h1:(a::b::r).length=r.length+2:=rfl;have h2:(b::r).length=r.length+1:=rfl;omega
   rw[e,List.eraseIdx_cons_succ,ih]
   all_goals rfl
section
variable{X:Cx}{pins:List (Addr×Obj)}{σ:St}{H:Hp}{s:Shared}{l b:Addr}{xs ys zs:List V}
theorem Inv.we{aq its':List Value}{n:Nat}{f:Array Value->Array Value}{t':Nat}(I:Inv X pins σ H s)(hH:H l=some (.lst xs))
  (e:s.heap.get? l=some { cls:=.type "list",data:=.seq aq.toArray n }) (hf:f aq.toArray=its'.toArray) (hv:aS ys its') (hz:ys.length<=sizeLine) :
  Inv X pins σ (upd H l (.lst ys)) { s with heap:=s.heap.update l (Obj.mapSeq f),toks:=t' }:=by
 have q:=PySem.IsL.update e f;rw[hf] at q;refine I.write (by rw[hH];exact trivial) (.inl rfl) (λb' u hb hu=>(ac9 s.heap (Obj.mapSeq f) (aej hb)).trans hu) ⟨_,q⟩ ?_;exact⟨hz,its',_,hv,q⟩
theorem Inv.aaG(I:Inv X pins σ H s)(hv:aS ys aq)(hz:ys.length<=sizeLine):
  Inv X pins σ (upd H s.heap.objs.size (.lst ys)) { s with heap:=s.heap.push { cls:=.type "list",data:=.seq aq.toArray },toks:=t' }:=
 I.laid (λ_ _ q=>aaB _ q) (abW _) ⟨hz,aq,0,hv,abU _ rfl⟩
theorem Inv.fresh(I:Inv X pins σ H s):H s.heap.objs.size=none:=I.aI.fresh (abW _)
theorem Inv.nv(I:Inv X pins σ H s)(hH:H l=some (.lst xs)):xs.length<=sizeLine/\∃(aq:List Value) (n:Nat),aS xs aq/\xs.length=aq.length/\s.heap.get? l=some { cls:=.type "list",data:=.seq aq.toArray n }:=by
 obtain⟨z,aq,n,r,e⟩:=I.aI l _ hH;exact⟨z,aq,n,r,r.length,e⟩
theorem S8{n:Nat}(h:n<=sizeLine):Builtin.List.listTooLong n=false:=by
 unfold Builtin.List.listTooLong;exact ada (by omega)
end
section
variable{X:Cx}
def abu:V->List V->Hp->VK->Prop:=λx vs H Q=>∃l xs y,x=.ref l/\vs=[y]/\H l=some (.lst xs)/\xs.length<sizeLine/\Q .aE (upd H l (.lst (xs++[y])))
theorem vE:rC X "list.append" abu:=by
 intro pins s σ H x vs v us Q I rx rv h;obtain⟨l,xs,y,rfl,rfl,hH,hz,q⟩:=h;cases rx;obtain⟨u,rfl,ru⟩:=rv.one;obtain⟨z,aq,n,r,hl,e⟩:=I.nv hH;refine afr F.slot_list_append ⟨_,e,rfl⟩ F.entry_list_append (F.args_list_append_2 _ _) (PySem.list_append l aq.toArray n u (by rw[ack];omega)) ⟨e,?_⟩;refine⟨.aE,_,I.we (its':=aq++[u]) hH e (by simp) (r.append (.cons ru .nil)) ?_,rfl,q⟩;rw[acZ,List.length_singleton];omega
def WB:V->List V->Hp->VK->Prop:=λx vs H Q=>∃l b xs zs,x=.ref l/\vs=[.ref b]/\H l=some (.lst xs)/\H b=some (.lst zs)/\xs.length+zs.length<=sizeLine/\Q .aE (upd H l (.lst (xs++zs)))
theorem adz:rC X "list.extend" WB:=by
 intro pins s σ H x vs v us Q I rx rv h;obtain⟨l,b,xs,zs,rfl,rfl,hH,hB,hz,q⟩:=h;cases rx;obtain⟨u,rfl,ru⟩:=rv.one;cases ru;obtain⟨z,aq,n,r,hl,e⟩:=I.nv hH;obtain⟨z2,pP,n2,r2,oG,e2⟩:=I.nv hB;have hsz:aq.toArray.size+pP.toArray.size<=sizeLine:=by rw[ack,ack];omega
 have Vd:¬(!aq.toArray.isEmpty&&Builtin.List.listTooLong (aq.toArray.size+pP.toArray.size))=true:=by
  rw[S8 hsz,Bool.and_false];exact ab3
 refine afr F.slot_list_extend ⟨_,e,rfl⟩ F.entry_list_extend (F.args_list_extend_2 _ _)
  (AutoSeq1.list_extend_list_list_0 l aq.toArray n b pP.toArray n2 Vd (by rw[ack];omega) (by omega)) ⟨e,e2,?_⟩
 refine⟨.aE,_,I.we (its':=aq++pP) hH e (by simp) (r.append r2) ?_,rfl,q⟩;rw[acZ];omega
def Jj:V->List V->Hp->VK->Prop:=λx vs H Q=>∃l xs y,x=.ref l/\vs=[]/\H l=some (.lst xs)/\xs[xs.length-1]? = some y/\Q y (upd H l (.lst xs.dropLast))
theorem Qo:rC X "list.pop" Jj:=by
 intro pins s σ H x vs v us Q I rx rv h;obtain⟨l,xs,y,rfl,rfl,hH,hy,q⟩:=h;cases rx;have Fg:=rv.zero;subst Fg;obtain⟨z,aq,n,r,hl,e⟩:=I.nv hH;obtain⟨u,hu,ru⟩:=r.get hy;have YT:aq.toArray[aq.toArray.size-1]? = some u:=by
  show aq.toArray[aq.length-1]? = some u;rw[<- ad2,<- hl];exact hu
 refine afr F.slot_list_pop ⟨_,e,rfl⟩ F.entry_list_pop (F.args_list_pop_1 _) (MeetsSeq.list_pop_last l aq.toArray n u YT (by rw[ack];omega)) ⟨e,?_⟩;refine⟨y,_,I.we (its':=aq.dropLast) hH e ?_ r.dropLast ?_,ru,q⟩
 .show aq.toArray.eraseIdxIfInBounds (aq.toArray.size-1)=aq.dropLast.toArray;rw[ack,List.eraseIdxIfInBounds_toArray,WT]
 .rw[List.length_dropLast];omega
def WG:V->List V->Hp->VK->Prop:=λx vs H Q=>∃l xs,x=.ref l/\vs=[]/\H l=some (.lst xs)/\Q .aE (upd H l (.lst []))
theorem XO:rC X "list.clear" WG:=by
 intro pins s σ H x vs v us Q I rx rv h;obtain⟨l,xs,rfl,rfl,hH,q⟩:=h;cases rx;have Fg:=rv.zero;subst Fg;obtain⟨z,aq,n,r,hl,e⟩:=I.nv hH;refine afr F.slot_list_clear ⟨_,e,rfl⟩ F.entry_list_clear (F.args_list_clear_1 _) (AutoSeq1.list_clear_list_0 l aq.toArray n (by rw[ack];omega)) ⟨e,?_⟩;exact⟨.aE,_,I.we (its':=[]) (ys:=[]) hH e rfl .nil (aed _),rfl,q⟩
def aan:R2:=λx y H Q=>∃l b xs zs,x=.ref l/\y=.ref b/\H l=some (.lst xs)/\H b=some (.lst zs)/\xs.length+zs.length<=sizeLine/\∀p,H p=none->Q (.ref p) (upd H p (.lst (xs++zs)))
theorem XX:dM X (binaryOp .Add) aan:=by
 intro pins s σ H x y v u Q I rx ry h;obtain⟨l,b,xs,zs,rfl,rfl,hH,hB,hz,q⟩:=h;cases rx;cases ry;obtain⟨z,aq,n,r,hl,e⟩:=I.nv hH;obtain⟨z2,pP,n2,r2,oG,e2⟩:=I.nv hB;refine PySem.P.add_list e e2 ?_ (by rw[ack,ack];omega);have ea:aq.toArray++pP.toArray=(aq++pP).toArray:=by simp
 rw[ea];exact⟨.ref _,_,I.aaG (r.append r2) (by rw[acZ];omega),rfl,q _ I.fresh⟩
end
section
variable{κ:Type}[DecidableEq κ]
noncomputable def iU(kvs:List (κ×V))(k:κ):Option V:=(kvs.find? λkv=>decide (kv.1=k)).map (·.2)
noncomputable def putK(kvs:List (κ×V))(k:κ)(v:V):List (κ×V):=
 if(kvs.any λkv=>decide (kv.1=k))=true then kvs.map (λkv=>if kv.1=k then(kv.1,v) else kv) else kvs++[(k,v)]
theorem xF{p:κ×V}{r:List (κ×V)}{k:κ}(e:p.1=k):iU (p::r) k=some p.2:=by simp[iU,adL,e]
theorem xB{p:κ×V}{r:List (κ×V)}{k:κ}(e:¬p.1=k):iU (p::r) k=iU r k:=by simp[iU,adL,e]
theorem Ji(k:κ):∀kvs:List (κ×V),(kvs.any λkv=>decide (kv.1=k))=(iU kvs k).isSome
 |[]=>rfl
 |p::r=>by
  rw[afc]
  by_cases e:p.1=k
  .simp only[xF e,ab5 e,Bool.true_or,Option.isSome_some]
  .rw[xB e,ada e,Bool.false_or];exact Ji k r
theorem A0(kvs:List (κ×V))(k:κ)(v:V):(putK kvs k v).length<=kvs.length+1:=by
 unfold putK
 split
 .rw[List.length_map];omega
 .rw[acZ,acS,List.length_nil];omega
theorem g9.EH{o:Option V}{u:Option Value}(r:g9 o u):o.isSome=u.isSome:=by
 cases o with
 |none=>cases u with
  |none=>rfl
  |some _=>exact(show False from r).elim
 |some _=>cases u with
  |none=>exact(show False from r).elim
  |some _=>rfl
theorem g9.getD{o:Option V}{u:Option Value}(r:g9 o u)(rd:RelV d d'):RelV (o.getD d) (u.getD d'):=by
 cases o with
 |none=>cases u with
  |none=>exact rd
  |some _=>exact(show False from r).elim
 |some _=>cases u with
  |none=>exact(show False from r).elim
  |some _=>exact r
theorem KV.val{kvs:List (κ×V)}{vs:List (κ×Value)}(r:KV kvs vs)(k:κ):g9 (iU kvs k) (valueAt vs k):=by
 unfold KV at r
 induction r with
 |nil=>exact True.intro
 | @cons p q ps qs h t ih=>
  obtain⟨h1,h2⟩:=h
  by_cases e:p.1=k
  .have e':=h1.symm.trans e;have b:valueAt (q::qs) k=some q.2:=by simp[valueAt,adL,e']
   rw[xF e,b];exact h2
  .have e':¬q.1=k:=λz=>e (h1.trans z)
   have b:valueAt (q::qs) k=valueAt qs k:=by simp[valueAt,adL,e']
   rw[xB e,b];exact ih
theorem KV.any{kvs:List (κ×V)}{vs:List (κ×Value)}(r:KV kvs vs)(k:κ):(kvs.any λkv=>decide (kv.1=k))=vs.any λkv=>decide (kv.1=k):=by
 unfold KV at r
 induction r with
 |nil=>rfl
 |cons h t ih=>rw[afc,afc,ih,h.1]
theorem KV.G5{kvs:List (κ×V)}{vs:List (κ×Value)}(r:KV kvs vs)(k:κ)(ry:RelV y u):
  KV (kvs.map λkv=>if kv.1=k then(kv.1,y) else kv) (vs.map λkv=>if kv.1=k then(kv.1,u) else kv):=by
 unfold KV at r ⊢
 induction r with
 |nil=>exact .nil
 | @cons p q ps qs h t ih=>
  rw[aaH,aaH];refine .cons ?_ ih;obtain⟨h1,h2⟩:=h
  by_cases e:p.1=k
  .rw[if_pos e,if_pos (h1.symm.trans e)];exact⟨h1,ry⟩
  .rw[if_neg e,if_neg (λz=>e (h1.trans z))];exact⟨h1,h2⟩
theorem KV.put{kvs:List (κ×V)}{vs:List (κ×Value)}(r:KV kvs vs)(k:κ)(ry:RelV y u):KV (putK kvs k y) (stored vs k u):=by
 unfold putK stored;rw[r.any k]
 by_cases e:(vs.any λkv=>decide (kv.1=k))=true
 .rw[if_pos e,if_pos e];exact r.G5 k ry
 .rw[if_neg e,if_neg e];exact Paired.snoc r ⟨rfl,ry⟩
theorem KV.keys{kvs:List (κ×V)}{vs:List (κ×Value)}(r:KV kvs vs):kvs.map (·.1)=vs.map (·.1):=by
 unfold KV at r
 induction r with
 |nil=>rfl
 |cons h t ih=>rw[aaH,aaH,ih,h.1]
theorem KV.length{kvs:List (κ×V)}{vs:List (κ×Value)}(r:KV kvs vs):kvs.length=vs.length:=Paired.length r
end
theorem qM(r:RelV (kV k) u):(dD P w).is k u=true:=by
 cases k with
 |inl i=>obtain⟨t,e⟩:=(show ∃t,u=Value.int i t from r);subst e;exact P6 P w i t
 |inr x=>obtain⟨t,e⟩:=(show ∃t,u=Value.str x t from r);subst e;exact Z1 P w x t
theorem LH:∀{ks:List Key}{us:List Value},aS (ks.map kV) us->ItemsAre (dD P w) ks us
 |[],_,r=>by rw[adn] at r;cases r;exact .nil
 |k::ks,_,r=>by
  rw[aaH] at r;cases r with
  |cons h t=>exact .cons (qM h) (LH t)
noncomputable abbrev KT(H:Hp):List (List Key×V)->List (List Key×Addr×Value)->Prop:=Paired λp q=>p.1=q.1/\H q.2.1=some (.tup (p.1.map kV))/\RelV p.2 q.2.2
theorem KT.val{kvs:List (List Key×V)}{xs:List (List Key×Addr×Value)}(r:KT H kvs xs)(k:List Key):g9 (iU kvs k) ((atKey xs k).map (·.2)):=by
 induction r with
 |nil=>exact True.intro
 | @cons p q ps qs h t ih=>
  obtain⟨h1,_,h2⟩:=h
  by_cases e:p.1=k
  .have e':=h1.symm.trans e;have b:atKey (q::qs) k=some q.2:=by simp[atKey,adL,e']
   rw[xF e,b];exact h2
  .have e':¬q.1=k:=λz=>e (h1.trans z)
   have b:atKey (q::qs) k=atKey qs k:=by simp[atKey,adL,e']
   rw[xB e,b];exact ih
theorem KT.G5{kvs:List (List Key×V)}{xs:List (List Key×Addr×Value)}(r:KT H kvs xs)(k:List Key)(ry:RelV y u):
  KT H (kvs.map λkv=>if kv.1=k then(kv.1,y) else kv) (xs.map (putAt k u)):=by
 induction r with
 |nil=>exact .nil
 | @cons p q ps qs h t ih=>
  rw[aaH,aaH];refine .cons ?_ ih;obtain⟨h1,h2,h3⟩:=h;unfold putAt
  by_cases e:p.1=k
  .rw[if_pos e,if_pos (h1.symm.trans e)];exact⟨h1,h2,ry⟩
  .rw[if_neg e,if_neg (λz=>e (h1.trans z))];exact⟨h1,h2,h3⟩
theorem KT.put{kvs:List (List Key×V)}{xs:List (List Key×Addr×Value)}(r:KT H kvs xs)(k:List Key)(hb:H b=some (.tup (k.map kV)))(ry:RelV y u):
  KT H (putK kvs k y) (storedH xs k b u):=by
 have e:(kvs.any λkv=>decide (kv.1=k))=(atKey xs k).isSome:=by
  rw[Ji,(r.val k).EH,Option.isSome_map]
 unfold putK storedH;rw[e]
 by_cases q:(atKey xs k).isSome=true
 .rw[if_pos q,if_pos q];exact r.G5 k ry
 .rw[if_neg q,if_neg q];exact Paired.snoc r ⟨rfl,hb,ry⟩
theorem KT.keeps{kvs:List (List Key×V)}{xs:List (List Key×Addr×Value)}(r:KT H kvs xs)(ht:∀b ys,H b=some (.tup ys)->H' b=some (.tup ys)):KT H' kvs xs:=
 Paired.Fw r λ_ _ z=>⟨z.1,ht _ _ z.2.1,z.2.2⟩
section
variable{P:Program}{w:World}{H:Hp}{h:Heap}{a:Addr}
theorem JJ{u:HO}(ok:dJ P w H h)(e:Rd H a u):cV P w H h a u:=e.ok ok
theorem o8{kvs:List (Key×V)}(ok:dJ P w H h)(e:Rd H a (.dK kvs)):kvs.length<=sizeLine/\(a==sysModules)=false/\∃vs,KV kvs vs/\h.DictOf (dD P w) a vs:=
 show cV P w H h a (.dK kvs) from JJ ok e
theorem IT{kvs:List (Key×V)}(ok:dJ P w H h)(e:H a=some (.dK kvs)):kvs.length<=sizeLine/\(a==sysModules)=false/\∃vs,KV kvs vs/\h.DictOf (dD P w) a vs:=o8 ok (.inl e)
theorem vS{ks:List Key}(ok:dJ P w H h)(e:H a=some (.tup (ks.map kV))):(tupleKind (dD P w)).is h ks a:=by
 obtain⟨_,aq,r,o,h1,h2,_,n,h3⟩:=(show cV P w H h a (.tup (ks.map kV)) from ok a _ e)
 exact⟨o,aq.toArray,n,h1,h2,h3,by simpa using LH r⟩
theorem rY{kvs:List (List Key×V)}(ok:dJ P w H h)(e:Rd H a (.dT kvs)):kvs.length<=sizeLine/\(a==sysModules)=false/\
  ∃xs,KT H kvs xs/\h.DictOfH (tupleKind (dD P w)) a xs:=by
 obtain⟨z,y,xs,r,o,es,ep,h1,h2,h3,h4,h5⟩:=(show cV P w H h a (.dT kvs) from JJ ok e)
 refine⟨z,y,xs,r,o,es,ep,h1,h2,h3,h4,λx hx=>?_,h5⟩;have all:∀{l:List (List Key×V)}{m:List (List Key×Addr×Value)},KT H l m->∀x∈m,(tupleKind (dD P w)).is h x.1 x.2.1:=by
  intro l m q
  induction q with
  |nil=>intro x hx;exact nomatch hx
  | @cons p q ps qs hq t ih=>
   intro x hx;rcases abh.mp hx with e|hx
   .subst e;exact vS ok (by rw[<- hq.1];exact hq.2.1)
   .exact ih x hx
 exact all r x hx
theorem QB{kvs:List (List Key×V)}(ok:dJ P w H h)(e:H a=some (.dT kvs)):kvs.length<=sizeLine/\(a==sysModules)=false/\
  ∃xs,KT H kvs xs/\h.DictOfH (tupleKind (dD P w)) a xs:=rY ok (.inl e)
end
def jf(H:Hp)(a:Addr)(y:V)(r:Option V):Prop:=
 (∃kvs k,Rd H a (.dK kvs)/\y=kV k/\r=iU kvs k)\/∃kvs k b,Rd H a (.dT kvs)/\y=.ref b/\H b=some (.tup (k.map kV))/\r=iU kvs k
def ug(H:Hp)(a:Addr)(y v:V)(H':Hp):Prop:=
 (∃kvs k,H a=some (.dK kvs)/\y=kV k/\kvs.length<sizeLine/\H'=upd H a (.dK (putK kvs k v)))\/
 ∃kvs k b,H a=some (.dT kvs)/\y=.ref b/\H b=some (.tup (k.map kV))/\kvs.length<sizeLine/\H'=upd H a (.dT (putK kvs k v))
theorem jf.k{H:Hp}{a:Addr}{kvs:List (Key×V)}{k:Key}(e:H a=some (.dK kvs)):jf H a (kV k) (iU kvs k):=.inl ⟨kvs,k,.inl e,rfl,rfl⟩
theorem ug.k{H:Hp}{a:Addr}{kvs:List (Key×V)}{k:Key}{v:V}(e:H a=some (.dK kvs))(hl:kvs.length<sizeLine):ug H a (kV k) v (upd H a (.dK (putK kvs k v))):=.inl ⟨kvs,k,e,rfl,hl,rfl⟩
section
variable{X:Cx}{pins:List (Addr×Obj)}{σ:St}{H:Hp}{s:Shared}{a:Addr}{y v:V}{u r:Value}{o:Option V}{A:Around}{E:Value->Shared->Prop}
theorem Inv.big(I:Inv X pins σ H s):sysModules<s.heap.objs.size:=by
 have h:=(I.mod.glob.keeps I.bk).lt;exact Nat.lt_trans (by decide) h
theorem Tc(hu:A.units+1<cLine)(I:Inv X pins σ H s)(g:jf H a y (some v))(ry:RelV y u)(h:∀w' s',Inv X pins σ H s'->RelV v w'->Q w' s'):
  wpAny (model X.prog X.w) A (getItem (.ref a) u) Q E s:=by
 rcases g with⟨kvs,k,e,ey,l⟩|⟨kvs,k,b,e,ey,eb,l⟩
 .subst ey;obtain⟨z,hd,vs,rel,dd⟩:=o8 I.aI e;obtain⟨w',hw,iF⟩:=g9.some_of (by rw[l];exact rel.val k);exact wpAny_getItem_of (qM ry) dd.mapOf hw (h w' _ (I.tok _) iF)
 .subst ey;cases(show u=Value.ref b from ry);obtain⟨z,hd,xs,rel,dd⟩:=rY I.aI e;obtain⟨w',hw,iF⟩:=g9.some_of (by rw[l];exact rel.val k);obtain⟨p,hp,Xv⟩:=aeM.mp hw;refine wpAny_getItem_heap (tupleKind_room_in1 hu) (vS I.aI eb) dd hp ?_;rw[Xv];exact h w' _ (I.tok _) iF
theorem ZG(hu:A.units+1<cLine)(I:Inv X pins σ H s)(g:jf H a y o)(ry:RelV y u)(h:∀s',Inv X pins σ H s'->Q (.bool o.isSome) s'):
  wpAny (model X.prog X.w) A (compareOp .In u (.ref a)) Q E s:=by
 rcases g with⟨kvs,k,e,ey,l⟩|⟨kvs,k,b,e,ey,eb,l⟩
 .subst ey;obtain⟨z,hd,vs,rel,dd⟩:=o8 I.aI e;refine wpAny_in_of (qM ry) hd dd.mapOf ?_;rw[<- (rel.val k).EH,<- l];exact h _ (I.tok _)
 .subst ey;cases(show u=Value.ref b from ry);obtain⟨z,hd,xs,rel,dd⟩:=rY I.aI e;refine wpAny_in_heap (tupleKind_room_in1 hu) (vS I.aI eb) hd dd ?_;have q:=(rel.val k).EH;rw[Option.isSome_map] at q;rw[<- q,<- l];exact h _ (I.tok _)
theorem NY{ob:HO}(I:Inv X pins σ H s)(mu:vf (H a))(hs:Heap.SameBut a s.heap h')(he:∃q,h'.get? a=some q)(new:cV X.prog X.w (upd H a ob) h' a ob):
  Inv X pins σ (upd H a ob) { s with heap:=h',toks:=t' }:=
 I.write mu (.inl rfl) (λb q hb z=>(hs.2 b hb).trans z) he new
theorem Fe{kvs:List (Key×V)}(z:kvs.length<=sizeLine)(hd:(a==sysModules)=false)(rel:KV kvs vs)(dd:h'.DictOf (dD P w) a vs):
  cV P w H' h' a (.dK kvs):=⟨z,hd,vs,rel,dd⟩
theorem S6{H':Hp}{Q:Unit->Shared->Prop}(hu:A.units+1<cLine)(I:Inv X pins σ H s)(g:ug H a y v H')(ry:RelV y u)(rv:RelV v r)(h:∀s',Inv X pins σ H' s'->Q () s'):
  wpAny (model X.prog X.w) A (setItem (.ref a) u r) Q E s:=by
 rcases g with⟨kvs,k,e,ey,l,eH⟩|⟨kvs,k,b,e,ey,eb,l,eH⟩
 .subst ey eH;obtain⟨z,hd,vs,rel,dd⟩:=IT I.aI e;have hz:vs.length<=sizeLine:=by rw[<- rel.length];exact z
  have hl:(putK kvs k v).length<=sizeLine:=by have:=A0 kvs k v;omega
  refine wpAny_setItem_pairs (hsz:=hz) (qM ry) dd λh' pB hs=>h _ ?_
  have he:∃q,h'.get? a=some q:=let⟨q,_,_,hq,_⟩:=pB;⟨q,hq⟩
  exact NY I (by rw[e];exact True.intro) hs he (Fe hl hd (rel.put k rv) pB)
 .subst ey eH;cases(show u=Value.ref b from ry);obtain⟨z,hd,xs,rel,dd⟩:=QB I.aI e;have hz:xs.length<=sizeLine:=by rw[<- Paired.length rel];exact z
  have hl:(putK kvs k v).length<=sizeLine:=by have:=A0 kvs k v;omega
  refine wpAny_setItem_heap (hsz:=hz) (tupleKind_room_in1 hu) (vS I.aI eb) dd λh' pB hs=>h _ ?_
  obtain⟨q,es,ep,hq,h2,h3,h4,_,h5⟩:=pB;refine NY I (by rw[e];exact True.intro) hs ⟨q,hq⟩ ⟨hl,hd,_,(rel.put k eb rv).keeps λc ys ec=>?_,q,es,ep,hq,h2,h3,h4,h5⟩;rw[aY (QA ec e (λz=>nomatch z))];exact ec
end
section
variable{X:Cx}{pins:List (Addr×Obj)}{σ:St}{H:Hp}{s:Shared}{a:Addr}{kvs:List (Key×V)}{k:Key}{u:Value}{A:Around}{E:Value->Shared->Prop}
theorem ZH(I:Inv X pins σ H s)(e:Rd H a (.dK kvs))(h:∀t s',Inv X pins σ H s'->Q (.int kvs.length t) s'):wpAny (model X.prog X.w) A (call (.builtin "len") [.ref a]) Q E s:=by
 obtain⟨z,hd,vs,rel,dd⟩:=o8 I.aI e;refine call_len_dict hd dd (by rw[<- rel.length];rw[sizeLine_eq] at z;omega) ?_;rw[<- rel.length];exact h _ _ (I.tok _)
end
def Ey(i:Expr):Prop:=∀ov iv,subscripted i false ov iv=operate [ov,iv] (getItem ov iv)
theorem SA{env:Env}{T id:String}
  (hl:typeLookup (.type T) "__getitem__"=pure (some (.builtin id))) (hs:Ey slice)
  (h:wpAny (model prog w) A (eval value env) (λo bu=>wpAny (model prog w) A (eval slice env) (λi jz=>jz.TypeIs o T/\wpAny (model prog w) A (getItem o i) Q E jz) E bu) E s) :
  wpAny (model prog w) A (eval (.Subscript value slice pos) env) Q E s:=by
 refine Subscript_ (adE h (λo bu V8=>adE V8 (λi jz GZ=>?_) λ_ _ x=>x) λ_ _ x=>x);obtain⟨hT,GZ⟩:=GZ;unfold subscriptTail;refine aaf ?_;rw[getitemInPython_of_ne hT.not_modules];refine aaf (ae6 hT hl ?_);have fin:wpAny (model prog w) A (subscripted slice false o i) (λr Ai=>wpAny (model prog w) A (letTemporaryGo value o r >>= λ_=>pure r) Q E Ai) E jz:=by
  rw[hs o i];exact wpAny_operating (adE GZ (λr Ai abM=>aaf (wpAny_letTemporaryGo (aa1 abM))) λ_ _ x=>x)
 first
  |exact aa1 (aaf fin)
  |exact aaf (aa1 (aaf fin))
  |exact aaf fin
theorem Vi{o:Option V}(I:Inv X pins σ H s)(g:jf H a y o):s.TypeIs (.ref a) "dict":=by
 rcases g with⟨kvs,k,e,_,_⟩|⟨kvs,k,b,e,_,_,_⟩
 .obtain⟨_,_,vs,_,dd⟩:=o8 I.aI e;exact dd.typeIs
 .obtain⟨_,_,xs,_,dd⟩:=rY I.aI e;exact dd.typeIs
def aaI(td ty:TE):TE:=λσ H Q=>td σ H λx H1=>ty σ H1 λy H2=>∃a v,x=.ref a/\jf H2 a y (some v)/\Q v H2
def Sx(ty td:TE):TE:=λσ H Q=>ty σ H λy H1=>td σ H1 λx H2=>∃a o,x=.ref a/\jf H2 a y o/\Q (.bl o.isSome) H2
def aaQ(td ty tv:TE):TS:=λD σ H=>tv σ H λv H1=>td σ H1 λx H2=>ty σ H2 λy H3=>∃a H4,x=.ref a/\ug H3 a y v H4/\D.nx σ H4
section
variable{X:Cx}{o i e value:Expr}{pos pos' Vf:Pos}{td ty tv:TE}
theorem Y_(hu:X.A.units+1<cLine)(ho:PE X o td)(hi:PE X i ty)(hs:Ey i):PE X (.Subscript o i pos) (aaI td ty):=by
 intro pins s σ H Q I h;refine SA PySem.F.slot_dict_getitem.lookup hs (aQ (ho pins s σ H _ I h) λu s1 ⟨x,H1,I1,rx,q1⟩=>aQ (hi pins s1 σ H1 _ I1 q1) λiv s2 ⟨y,H2,I2,ry,a,v,ex,g,q2⟩=>?_);subst ex;obtain rfl:u=Value.ref a:=rx;exact⟨Vi I2 g,Tc hu I2 g ry λw' s3 I3 iF=>⟨v,H2,I3,iF,q2⟩⟩
theorem RN(hu:X.A.units+1<cLine)(hi:PE X i ty)(ho:PE X o td):PC X .In i o (Sx ty td):=by
 intro pins s σ H Q I h;refine aQ (hi pins s σ H _ I h) λiv s1 ⟨y,H1,I1,ry,q1⟩=>aQ (ho pins s1 σ H1 _ I1 q1) λu s2 ⟨x,H2,I2,rx,a,ov,ex,g,q2⟩=>?_
 subst ex;obtain rfl:u=Value.ref a:=rx;exact ZG hu I2 g ry λs3 I3=>⟨.bl ov.isSome,H2,I3,rfl,q2⟩
theorem Wm(hu:X.A.units+1<cLine)(ho:PE X o td)(hi:PE X i ty)(hv:PE X value tv)(hs:swapsWith value (some (.Subscript o i pos')) pos.line X.env=pure false):
  PS X (.Assign [.Subscript o i pos'] value pos) (aaQ td ty tv):=by
 intro pins s σ H D I h;refine wpAny_Assign_Subscript (aQ (hv pins s σ H _ I h) λr s1 ⟨v,H1,I1,rv,q1⟩=>aQ (ho pins s1 σ H1 _ I1 q1) λu s2 ⟨x,H2,I2,rx,q2⟩=>aQ (hi pins s2 σ H2 _ I2 q2) λiv s3 ⟨y,H3,I3,ry,a,H4,ex,g,q3⟩=>?_) hs;subst ex;obtain rfl:u=Value.ref a:=rx;exact S6 hu I3 g ry rv λs4 I4=>⟨σ,H4,I4,q3⟩
end
theorem Pc(h:Heap)(hb:sysModules<h.objs.size):cV P w H (h.push { cls:=.type "dict",data:=.dict #[] }) h.objs.size (.dK []):=
 ⟨aed _,adF.mpr (aej (acU hb)),[],.nil,Heap.DictOf.new h⟩
def Rh:TE:=λ_ H Q=>∀p,H p=none->Q (.ref p) (upd H p (.dK []))
section
variable{X:Cx}{pos:Pos}
theorem Pk:PE X (.Dict [] [] pos) Rh:=λpins s σ H Q I h=>
 wpAny_Dict_empty ⟨.ref s.heap.objs.size,_,I.laid (λ_ _ q=>aaB _ q) (abW _) (Pc s.heap I.big),rfl,h _ (I.aI.fresh (abW _))⟩
end
structure M2(X:Cx)(o:Expr)(m:Str)(apos:Pos)(e f:Expr)(cpos:Pos):Prop where
 base:attributeBase o m X.env (eval o X.env)=eval o X.env
 i9:((backTo cpos (starEach [e,f] X.env)).all (λx=>!x.1)&&(backToKw cpos (keywordEach [] X.env)).all (λx=>x.1.isSome)
  && decide (([e,f]:List Expr).length+([]:List Keyword).length+(if([]:List Keyword).isEmpty then 0 else 1)<30))=true
 line:(apos.endLine==cpos.line)=true
 trees:backTo cpos (starEach [e,f] X.env)=[(false,eval e X.env),(false,eval f X.env)]
def MJ(H:Hp)(a:Addr):Prop:=(∃kvs,Rd H a (.dK kvs))\/∃kvs,Rd H a (.dT kvs)
theorem X0(I:Inv X pins σ H s)(d:MJ H a):
  s.TypeIs (.ref a) "dict"/\(∀b,Value.ref a=.ref b->∃ob,s.heap.get? b=some ob/\ob.dict=none)/\(a==sysModules)=false:=by
 rcases d with⟨kvs,e⟩|⟨kvs,e⟩
 .obtain⟨_,hd,vs,_,dd⟩:=o8 I.aI e;refine⟨dd.typeIs,λb q=>?_,hd⟩;cases q;obtain⟨ob,_,_,h1,h2,_⟩:=dd;exact⟨ob,h1,h2.2.1⟩
 .obtain⟨_,hd,xs,_,dd⟩:=rY I.aI e;refine⟨dd.typeIs,λb q=>?_,hd⟩;cases q;obtain⟨ob,_,_,h1,h2,_⟩:=dd;exact⟨ob,h1,h2.2.1⟩
section
variable{X:Cx}{pins:List (Addr×Obj)}{σ:St}{H:Hp}{s:Shared}{a:Addr}{y d:V}{u r:Value}{o:Option V}{A:Around}{E:Value->Shared->Prop}
theorem acp(hu:A.units+1<cLine)(I:Inv X pins σ H s)(g:jf H a y o)(ry:RelV y u)(rd:RelV d r)(h:∀w' s',Inv X pins σ H s'->RelV (o.getD d) w'->Q w' s'):
  wpAny (model X.prog X.w) A (call (.builtin "dict.get") [.ref a,u,r]) Q E s:=by
 rcases g with⟨kvs,k,e,ey,l⟩|⟨kvs,k,b,e,ey,eb,l⟩
 .subst ey;obtain⟨z,hd,vs,rel,dd⟩:=o8 I.aI e;refine call_meetsIn PySem.F.slot_dict_get dd.typeIs PySem.F.entry_dict_get (PySem.F.args_dict_get_3 _ _ _) (meets_dict_get_default (dD X.prog X.w) a (qM ry) hd r) ⟨_,dd.mapOf,h _ _ (I.tok _) ?_⟩;rw[l];exact(rel.val k).getD rd
 .subst ey;cases(show u=Value.ref b from ry);obtain⟨z,hd,xs,rel,dd⟩:=rY I.aI e;refine call_meetsIn PySem.F.slot_dict_get dd.typeIs PySem.F.entry_dict_get (PySem.F.args_dict_get_3 _ _ _) (meetsH_dict_get_default (tupleKind (dD X.prog X.w)) a b hd r) ⟨tupleKind_room_in1 hu,k,xs,vS I.aI eb,dd,h _ _ (I.tok _) ?_⟩;rw[l];exact(rel.val k).getD rd
end
def T8(td ty tx:TE):TE:=λσ H Q=>td σ H λx H1=>∃a,x=.ref a/\MJ H1 a/\ty σ H1 λy H2=>tx σ H2 λz H3=>∃o,jf H3 a y o/\Q (o.getD z) H3
section
variable{X:Cx}{o e f:Expr}{apos cpos:Pos}{td ty tx:TE}
theorem Uj(hu:X.A.units+1<cLine)(ho:PE X o td)(he:PE X e ty)(hf:PE X f tx)(m:M2 X o "get" apos e f cpos):PE X (.Call (.Attribute o "get" apos) [e,f] [] cpos) (T8 td ty tx):=by
 intro pins s σ H Q I h;refine wpAny_Call_method m.base m.i9 m.line PySem.F.plainAttrs_dict PySem.F.slot_dict_get PySem.F.type_dict_get (aQ (ho pins s σ H _ I h) λu s1 ⟨x,H1,I1,rx,a,ex,d,q1⟩=>?_);subst ex;obtain rfl:u=Value.ref a:=rx;obtain⟨t1,t2,_⟩:=X0 I1 d;refine⟨t1,t2,?_⟩;rw[m.trees];refine ae2 rfl (Calls.evalArgs_plain (aeS (aQ (he pins s1 σ H1 _ I1 q1) λiv s2 ⟨y,H2,I2,ry,q2⟩=>
  aeS (aQ (hf pins s2 σ H2 _ I2 q2) λfv s3 ⟨z,H3,I3,rz,ov,g,q3⟩=>ae9 ?_))))
 exact acp hu I3 g ry rz λw' s4 I4 iF=>⟨_,H3,I4,iF,q3⟩
end
section
variable{X:Cx}{pins:List (Addr×Obj)}{σ:St}{H:Hp}{s:Shared}{a:Addr}{kvs:List (Key×V)}{A:Around}{E:Value->Shared->Prop}
theorem TJ(I:Inv X pins σ H s)(e:Rd H a (.dK kvs))(h:∀p s',H p=none->Inv X pins σ (upd H p (.dK kvs)) s'->Q (.ref p) s'):wpAny (model X.prog X.w) A (call (.type "dict") [.ref a]) Q E s:=by
 obtain⟨z,hd,vs,rel,dd⟩:=o8 I.aI e;refine kt_call_dict hd dd (by rw[<- rel.length];exact z) λh' pB hs=>?_
 refine h _ _ (I.aI.fresh (abW _)) (I.laid (λb q hq=>?_) (abW _) (Fe z (adF.mpr (aej (acU I.big))) rel pB));exact(hs.2 b (acU (abD hq))).trans (aaB _ hq)
end
end L2
namespace JA
open PySem PySem.W PySem.Calls PyProof.Rows
theorem Um:∀(ns:List Int) (vs:List Value),WellAll P h vs (ns.map WData.int)->IntsAre vs ns:=by
 intro ns
 induction ns with
 |nil=>
  intro vs w;rw[adn] at w;cases w;exact .nil
 |cons n ns ih=>
  intro vs w;rw[aaH] at w;cases w with
  |cons a b=>
   cases a;exact .cons _ _ (ih _ b)
theorem Y3{l:OpenLaw}(hn:l.most=some n){args:List WData}
  (xh:l.row.toRowW.claim.pre args=true) (nF:WellAll P h vals args) :
  ∃a vs ns,vals=[Value.ref a]/\args=[WData.list (ns.map WData.int)]/\h.get? a=some { cls:=.type "list",data:=.seq vs.toArray }/\IntsAre vs ns/\ns.length<=n:=by
 have WA:=(pre_splitW xh).1;have hc:l.pre.holds [] { args:=args }=true:=(pre_splitW xh).2;obtain⟨d,r,rfl,h1,h2⟩:=hasAllW_cons WA;obtain rfl:=hasAllW_nil h2;obtain⟨xs,rfl,h3⟩:=hasW_list h1;obtain⟨ns,rfl⟩:=items_int h3;have hlen:ns.length<=n:=by
  unfold OpenLaw.pre at hc;have h4:(WTm.not (.lt (.lit (.int (n:Int))) (.len (.arg 0)))).holds [] { args:=[.list (ns.map .int)] }=true:=by
   have h4:=(holds_andW hc).1;rw[hn] at h4;exact h4
  have h5:=condW_of h4 (w_not (w_lt w_lit (w_len_list (w_arg rfl))));rw[List.length_map] at h5;refine Nat.le_of_not_lt λq=>?_
  have q':(n:Int)<((ns.length:Nat):Int):=by omega
  first
   |(rw[ab5 q'] at h5;exact absurd h5 (by decide))
   |(simp at h5;omega)
 cases nF with
 |cons w1 w2=>
  cases w2;cases w1 with
  |list ho RV=>exact⟨_,_,ns,rfl,rfl,ho,Um ns _ RV,hlen⟩
theorem aa2(l:OpenLaw)(args:List WData):l.row.toRowW.claim.post args (.bool true) args=true:=
 postW_of (r:=l.row.toRowW) (X:=(true==true))
  (show WShape.has [] (.bool true) .bool=true by first|rfl|decide|simp[WShape.has,WShape.arms,WShape.armsAll])
  (show(WTm.eq .res (.lit (.bool true))).value [] { args:=args,res:=some (.bool true),after:=args }=some (.bool (true==true)) from w_eq_bool (w_res rfl) w_lit) rfl
theorem U0{l:OpenLaw}{XP:(Str->Option Value)->Heap->Prop}{YP:World->Heap->Prop}
  (hn:l.most=some n) (vo:d.params.defaults=[])
  (call:∀(w:World) (d_ bu:Shared) (mg mb:Str->Option Value) (fa:Addr) (o:Obj) (pm cd doc:Value) (a:Addr) (vs:List Value) (ns:List Int),
   Ground q loose [] XP w d_ mg mb bu.heap->YP w bu.heap->
   bu.heap.get? fa=some o->o.data=.func (docDef d.name d.params d.body d.scope pm cd doc)->bu.heap.CodeRec cd d.name->mg d.name=some (.ref fa)->
   bu.heap.get? a=some { cls:=.type "list",data:=.seq vs.toArray }->IntsAre vs ns->ns.length<=n->bu.gens=#[]->
   codeAny (model l.prog w) callerA (.call (.ref fa) ⟨[.ref a],[]⟩) (λr s'=>r=.ok (.ret (.bool true))/\OldK bu.heap s'.heap/\s'.os=bu.os/\AllBare s'.gens) bu) :
  WalkO q loose XP YP l.row.toRowW d [] (λf vs=>PySem.call f vs):=by
 intro w d_ bu mg mb G Y fa o pm cd doc dV kV ho hd cQ hD wj hg args vals as xh ac2 hrd nF hlo;obtain rfl:dV=.none:=Dflts.none hD vo;obtain rfl:kV=.none:=Dflts.noKw hD;obtain⟨a,vs,ns,rfl,rfl,Dp,hints,hlen⟩:=Y3 hn xh nF;refine enter_call (afl (call w d_ bu mg mb fa o pm cd doc a vs ns G Y ho (fd_plain hd) cQ wj Dp hints hlen hg) λr s' hq=>?_);obtain⟨rfl,h2,h3,h4⟩:=hq;exact⟨.inl ⟨.bool true,.bool true,[],rfl,λ_=>rfl,.bool true,aa2 l _,λ_=>⟨List.Pairwise.nil,λ_ hm=>(nomatch hm)⟩⟩,h2,h3,h4⟩
end JA
namespace L2
open PySem PySem.Spec PyProof.Rows
theorem yz:∀{vs:List Value}{ns:List Int},IntsAre vs ns->aS (ns.map V.int) vs
 |_,_,.nil=>.nil
 |_,_,.cons n t h=>.cons ⟨t,rfl⟩ (yz h)
def BN(H:Hp):Prop:=∀b,H b=none\/∃o xs,H b=some (.fH o (.lst xs))
theorem Xq{P:Program}{w:World}{K:PySem.W.Frag}{mg mb:Str->Option Value}{CX:jC}{k:Nat}{fa a:Addr}{fd:FuncData}{x:Str}{sp:Sp}{bu:Shared}{vs:List Value}{ns:List Int}
  (KX:K.In bu.heap) (CQ:bu.heap.Ns mainGlobals mg) (hb:bu.heap.Ns builtinsNs mb) (ZL:∀x:Str,x≠"__name__"->mb x=bootBuiltins x) (aal:bu.heap.NoLimit) (hg:bu.gens=#[])
  (ha:bu.heap.get? a=some { cls:=.type "list",data:=.seq vs.toArray }) (hi:IntsAre vs ns) (hl:ns.length<=sizeLine) (hr:cN k callerA)
  (F:∀base:Heap,K.In base->base.Ns mainGlobals mg->a_ P w K mg base CX k fa fd [x] sp) (UR:∀(s:Shared) (u:Value),BindsTo s fd ⟨[u],[]⟩ [(x,u)])
  (oV:∀H:Hp,BN H->bQ K H a (ns.map V.int)->sp [.ref a] H (λv _=>v=.bl true) λ_ _ _=>False)
  (EG:∀H e s',CX [] H bu (λ_ _ _=>False) e s'->False) :
  codeAny (model P w) callerA (.call (.ref fa) ⟨[.ref a],[]⟩) (λr s'=>r=.ok (.ret (.bool true))/\OldK bu.heap s'.heap/\s'.os=bu.os/\AllBare s'.gens) bu:=by
 have rv:=yz hi;have Rf:=hi.length;have core:∀H:Hp,BN H->bQ K H a (ns.map V.int)->dJ P w H bu.heap->(∀b,H b≠none->b=a)->(H a≠none->K.lookup a=none)->
   codeAny (model P w) callerA (.call (.ref fa) ⟨[.ref a],[]⟩) (λr s'=>r=.ok (.ret (.bool true))/\OldK bu.heap s'.heap/\s'.os=bu.os/\AllBare s'.gens) bu:=by
  intro H hO hS aI hA hK;have Om:∀{b:Addr}{o:Obj},bu.heap.get? b=some o->H b=none->(ny bu.heap H).get? b=some o:=λe n=>Ut e n
  have u0:∀{b:Addr}{o:Obj}{es:Array DictEntry}{ep:Nat},bu.heap.get? b=some o->o.data=.dict es ep->H b=none:=λ{b o es ep} e d=>by
   cases q:H b with
   |none=>rfl
   |some u=>
    have e':=hA b (by rw[q];simp);subst e';rw[ha] at e;cases e;have d':=d;cases d'
  have Az:∀{b:Addr}{m:Str->Option Value},bu.heap.Ns b m->(ny bu.heap H).Ns b m:=λ{b m} ⟨o,es,ep,e,d,r⟩=>⟨o,es,ep,Om e (u0 e d),d,r⟩
  have Oc:K.In (ny bu.heap H):=λb o e=>Om (KX b o e) (by
   cases q:H b with
   |none=>rfl
   |some u=>
    have e':=hA b (by rw[q];simp);subst e';rw[hK (by rw[q];simp)] at e;cases e)
  have hM:Mod K mg (ny bu.heap H):=⟨Oc,Az CQ,⟨mb,Az hb,ZL⟩,let⟨mc,h1,h2⟩:=aal;⟨mc,Az h1,h2⟩⟩
  have e0:p_ P w K mg (ny bu.heap H) callerA [] bu H:=⟨rfl,hM,λb o e=>ZO e,Nat.le_of_eq (VS _ _),trivial,λb hb=>absurd (show b∈([]:List Addr) from hb) (by simp),aI,.of_eq hg,.inl rfl⟩
  refine afl ((F _ Oc (Az CQ)).run callerA [] bu H ⟨[.ref a],[]⟩ [.ref a] [.ref a] _ _ hr e0 (UR bu (.ref a)) (.cons rfl .nil) (oV H hO hS)) λr s' h=>?_
  cases r with
  |error e=>exact(EG H e s' h).elim
  |ok fl=>
   cases fl with
   |next=>exact False.elim h
   |brk=>exact False.elim h
   |cont=>exact False.elim h
   |ret u=>
    obtain⟨v,H',os,bare,un,Yw,r',q⟩:=h;have q':=q;subst q';obtain rfl:u=Value.bool true:=r';refine⟨rfl,OldK.of_keep λb o e=>?_,os,bare⟩;cases q:H b with
    |none=>exact un.keep b o e q (by intro z;exact absurd (show b∈([]:List Addr) from z) (by simp)) (by simp)
    |some u=>
     rcases hO b with z|⟨ob,xs,z⟩
     .rw[q] at z;cases z
     .have z2:=un.k8 b ob _ z;obtain⟨e1,_⟩:=aI b _ z;obtain⟨e2,_⟩:=Yw b _ z2;rw[e] at e1;cases e1;exact e2
 cases hk:K.lookup a with
 |some o=>
  have e:=KX a o hk;rw[ha] at e;cases e;refine core (λ_=>none) (λ_=>.inl rfl) (.inr ⟨_,vs.toArray,_,hk,rfl,rfl,rfl,by rw[ack,Rf];exact hl,by simpa using rv⟩) (λb u z=>by have z':(none:Option HO)=some u:=z;cases z') (λb z=>absurd rfl z) λz=>absurd rfl z
 |none=>
  refine core (λb=>if b=a then some (.fH { cls:=.type "list",data:=.seq vs.toArray } (.lst (ns.map V.int))) else none) (λb=>?_) (.inl (.inr ⟨{ cls:=.type "list",data:=.seq vs.toArray },if_pos rfl⟩)) (λb u z=>?_) (λb z=>?_) λ_=>hk
  .by_cases hb:b=a
   .exact .inr ⟨_,_,if_pos hb⟩
   .exact .inl (if_neg hb)
  .by_cases hb:b=a
   .have z':=(if_pos hb).symm.trans z;cases z';subst hb;exact⟨ha,by rw[List.length_map];exact hl,vs,_,rv,ha⟩
   .have z':=(if_neg hb).symm.trans z;cases z'
  .by_cases hb:b=a
   .exact hb
   .exact absurd (if_neg hb) z
theorem acF{l:PySem.W.OpenLaw}{XP:(Str->Option Value)->Heap->Prop}{YP:World->Heap->Prop}{K:Params->PySem.W.Frag}{CX:World->jC}{sp:World->Sp}
  (hn:l.most=some n) (Ag:n<=sizeLine) (vo:d.params.defaults=[]) (hr:cN k callerA)
  (hY:∀(w:World) (h:Heap),YP w h->(K w.params).In h)
  (F:∀(w:World) (mg:Str->Option Value) (fa:Addr) (h:Heap),(K w.params).In h->h.Ns mainGlobals mg->mg d.name=some (.ref fa)->
   ∃fd:FuncData,(∀(s:Shared) (u:Value),BindsTo s fd ⟨[u],[]⟩ [(x,u)])/\
    ∀base:Heap,(K w.params).In base->base.Ns mainGlobals mg->a_ l.prog w (K w.params) mg base (CX w) k fa fd [x] (sp w))
  (oV:∀(w:World) (H:Hp) (a:Addr) (ns:List Int),ns.length<=n->BN H->bQ (K w.params) H a (ns.map V.int)->sp w [.ref a] H (λv _=>v=.bl true) λ_ _ _=>False)
  (EG:∀(w:World) (H:Hp) (s:Shared) (e:Value) (s':Shared),CX w [] H s (λ_ _ _=>False) e s'->False) :
  PySem.W.WalkO q loose XP YP l.row.toRowW d [] (λf vs=>PySem.call f vs):=by
 refine JA.U0 hn vo λw d_ bu mg mb fa o pm cd doc a vs ns G Y ho hd cQ wj Dp hints hlen hg=>?_
 have KX:=hY w _ Y;obtain⟨fd,hb,hF⟩:=F w mg fa _ KX G.T.g wj;exact Xq KX G.T.g G.T.b G.T.builtins G.T.nolimit hg Dp hints (adX hlen Ag) hr hF hb (λH hO hS=>oV w H a ns hlen hO hS) λH e s'=>EG w H bu e s'
noncomputable def inClass(s:Stmt)(j:Nat):Stmt:=match s with
 |.ClassDef _ _ _ body _ _ _ _ _ _ _=>body.getD j (.Pass ⟨0,0,0,0⟩)
 |_=>.Pass ⟨0,0,0,0⟩
noncomputable def p5(s:Stmt):Arguments:=match s with
 |.FunctionDef _ a _ _ _ _ _ _ _ _=>a
 |_=>{ posonlyargs:=[],args:=[],vararg:=none,kwonlyargs:=[],kw_defaults:=[],kwarg:=none,defaults:=[] }
noncomputable def kL(s:Stmt):List Stmt:=match s with
 |.FunctionDef _ _ b _ _ _ _ _ _ _=>b
 |_=>[]
noncomputable def aV(s:Stmt):Scope:=match s with
 |.FunctionDef _ _ _ _ _ _ sc _ _ _=>sc
 |_=>{ kind:=.function,names:=[],isGenerator:=false,isCoroutine:=false }
noncomputable abbrev aJ:jC:=λ_ _ _ _ _ _=>False
noncomputable abbrev E0:XK:=λ_ _ _=>False
theorem pA:Passes aJ X E0:=λ_ _ _ _ _ _ _ h=>h.elim
structure bI(K:PySem.W.Frag)(x qual:Str)(st:Stmt)(f:Addr)(fd:FuncData):Prop where
 ex:∃(oc:Value) (od:Option Addr) (kV doc pm:Value) (an:Option Addr) (aT ct:Value) (oz:Array (Option Value)),
  fd=PySem.W.fnOf x qual (p5 st) (kL st) (aV st) .none kV doc pm an aT ct/\K.lookup f=some ⟨oc,od,.func fd,oz⟩/\PySem.W.codeIn K aT qual=true
 kp:PySem.W.keepIn K (.ref f)=true
section
variable{P:Program}{w:World}{K:PySem.W.Frag}{mg:Str->Option Value}{base:Heap}
theorem bI.ok{x qual:Str}{st:Stmt}{f:Addr}{fd:FuncData}{N ps:List Str}{k:Nat}{sp:Sp}{cm:Bool}(F:bI K x qual st f fd)(S:cz N ps (aV st))(len:∀vs H Q E,sp vs H Q E->vs.length=ps.length)
  (BO:∀(aT:Value) (A:Around) (outer:List Env) (s:Shared) (H:Hp) (vs:List V) (Q:VK) (E:XK),cN k (A.deeper (envOfC qual (aV st) s.heap.objs.size f aT)) cm->sp vs H Q E->
   ∃t,gK (kD aJ P w K mg base N qual (aV st) f aT A outer s H E cm).gq (kL st) t/\t { nx:=λ_ H'=>Q .aE H',rt:=Q } (start N vs) H):a_ P w K mg base aJ (k+1) f fd ps sp cm:=by
 obtain⟨oc,od,kV,doc,pm,an,aT,ct,oz,rfl,lk,cQ⟩:=F.ex;refine Ua lk cQ S len λA outer s H vs Q E hr oV=>?_
 obtain⟨t,h,q⟩:=BO aT A outer s H vs Q E hr oV;exact⟨t,h.gq,q⟩
theorem bI.binds{st:Stmt}(F:bI K x qual st f fd)
  (h:∀(kV doc pm:Value) (an:Option Addr) (aT ct:Value) (us:List Value),us.length=ps.length->bindArgs (PySem.W.fnOf x qual (p5 st) (kL st) (aV st) .none kV doc pm an aT ct) ⟨us,[]⟩=pure (ps.zip us)):Binds K fd ps []:=by
 obtain⟨oc,od,kV,doc,pm,an,aT,ct,oz,rfl,lk,cQ⟩:=F.ex;exact .all (h kV doc pm an aT ct)
theorem N8{st:Stmt}{od an:Option Addr}{oz:Array (Option Value)}{kV doc pm aT ct:Value}(l:K.lookup f=some ⟨oc,od,.func (PySem.W.fnOf x qual (p5 st) (kL st) (aV st) .none kV doc pm an aT ct),oz⟩)
  (c:PySem.W.codeIn K aT qual=true) (k:PySem.W.keepIn K (.ref f)=true):bI K x qual st f (PySem.W.fnOf x qual (p5 st) (kL st) (aV st) .none kV doc pm an aT ct):=⟨⟨oc,od,kV,doc,pm,an,aT,ct,oz,rfl,l,c⟩,k⟩
end
theorem c9{A:Around}{k:Nat}{cm:Bool}(hr:cN k A cm):A.units+1<cLine:=Nat.lt_of_le_of_lt (Nat.add_le_add_left (by decide:1<=64) _) hr.units
theorem zT(h:n<=1000):n<sizeLine:=Nat.lt_of_le_of_lt h (by decide)
theorem UD{A B:Prop}(h:B):if false=true then A else B:=by
 rw[if_neg ab3];exact h
theorem aaO{A B:Prop}(h:A):if true=true then A else B:=by
 rw[if_pos rfl];exact h
def aL(H H':Hp):Prop:=∀b o,H b=some o->H' b=some o
theorem aL.refl(H:Hp):aL H H:=λ_ _ h=>h
theorem aL.trans(a:aL H H1)(b:aL H1 H2):aL H H2:=λc o h=>b c o (a c o h)
theorem aL.free(e:aL H H')(h:H' l=Option.none):H l=Option.none:=by
 cases q:H l with
 |none=>rfl
 |some o=>
  rw[e l o q] at h;cases h
section
variable{X:Cx}
theorem Zo:fP X (.builtin "len") (λxs H Q=>∃a kvs,xs=[V.ref a]/\H a=some (.dK kvs)/\Q (.int kvs.length) H):=by
 intro pins s σ H xs us Q I r h;obtain⟨a,kvs,rfl,ha,q⟩:=h;obtain⟨u,rfl,ru⟩:=vals1 r;cases ru;exact ZH I (.inl ha) λt s' I'=>⟨.int kvs.length,H,I',⟨t,rfl⟩,q⟩
end
end L2
namespace L2.M7
open PySem PyProof.Rows
def fT(xs:Array Keyed)(lo hi:Nat):Prop:=∀i j,lo<=i->i<=j->j<hi->K xs i<=K xs j
def tF(xs:Array Keyed)(lo hi:Nat):Prop:=∀i j,lo<=i->i<=j->j<hi->K xs j<=K xs i
def fK(xs ys:Array Keyed)(lo hi:Nat):Prop:=∀k,(k<lo\/hi<=k)->K ys k=K xs k
theorem fK.refl(xs:Array Keyed)(lo hi:Nat):fK xs xs lo hi:=λ_ _=>rfl
theorem fK.trans{xs ys zs:Array Keyed}{lo hi:Nat}(a:fK xs ys lo hi)(b:fK ys zs lo hi):fK xs zs lo hi:=λk h=>(b k h).trans (a k h)
theorem fK.wide{xs ys:Array Keyed}{lo hi KN ni:Nat}(a:fK xs ys lo hi)(h1:KN<=lo)(h2:hi<=ni):fK xs ys KN ni:=λk h=>a k (by omega)
structure SB(a₀:Array Keyed)(p:Array (Nat×Nat×Nat))(st:SortSt):Prop where
 perm:(arrOf st).Perm a₀
 kind:kindOf st=oneType'
 failed:failedOf st=none
 pend:pendingOf st=p
section
variable{a₀:Array Keyed}{p:Array (Nat×Nat×Nat)}{st:SortSt}
theorem SB.size(h:SB a₀ p st):(arrOf st).size=a₀.size:=h.perm.size_eq
theorem SB.setArr(h:SB a₀ p st){xs:Array Keyed}(q:xs.Perm (arrOf st)):SB a₀ p (PyProof.Rows.setArr st xs):=⟨q.trans h.perm,h.kind,h.failed,h.pend⟩
theorem SB.bare(h:SB a₀ p st):SBase a₀ (setPending st #[]):=⟨h.perm,h.kind,h.failed,rfl⟩
variable{prog:Program}{w:World}{A:Around}{E:Value->Shared->Prop}{s:Shared}
theorem uJ{Q:Option Bool->SortSt->Prop}(hB:SB a₀ p st)(h0:IntKeys a₀)(hi:i<a₀.size)(hj:j<a₀.size)(h:Q (some (decide (K (arrOf st) i<K (arrOf st) j))) st):
  wpS (model prog w) A E s (ltAt' i j) Q st:=by
 obtain⟨t,q,e1⟩:=hB.bare.at h0 hi;obtain⟨u,r,e2⟩:=hB.bare.at h0 hj;exact wpS_ltAt hB.kind e1 e2 h
noncomputable abbrev CA:=Option (Option Nat)×Nat
noncomputable def asc(lo a bC:Nat):StateT SortSt Sem CA:=forIn [a:bC] ((none,a):CA) λ_ c=>do
 let b <- ltAt' (lo+c.snd) (lo+c.snd-1)
 match b with
 |some sm=>if sm=true then pure (.done (none,c.snd)) else pure (.yield (none,c.snd+1))
 |_=>pure (.done (some none,c.snd))
theorem Kr{lo a bC:Nat}{Q:CA->SortSt->Prop}(h0:IntKeys a₀)(hB:SB a₀ p st)(hn:lo+bC<=a₀.size)(h1:1<=a)(h2:a<=bC)(hs:fT (arrOf st) lo (lo+a))
  (h:∀n,a<=n->n<=bC->fT (arrOf st) lo (lo+n)->(n=bC\/K (arrOf st) (lo+n)<K (arrOf st) (lo+n-1))->Q (none,n) st):wpS (model prog w) A E s (asc lo a bC) Q st:=by
 unfold asc;refine ad3 (I:=λx c ak=>ak=st/\c=(none,x)/\fT (arrOf st) lo (lo+x)) ?step ?fin ⟨rfl,rfl,hs⟩
 case fin=>
  rintro c ak ⟨rfl,rfl,bN⟩
  have e:max a bC=bC:=by omega
  rw[e] at bN ⊢;exact h bC h2 (abW _) bN (.inl rfl)
 case step=>
  rintro x c ak g1 g2 ⟨rfl,rfl,bN⟩
  dsimp only;refine acE (uJ hB h0 (by omega) (by omega) ?_)
  by_cases g:K (arrOf ak) (lo+x)<K (arrOf ak) (lo+x-1)
  .simp only[g,decide_true,afp];exact ac0 (h x g1 (by omega) bN (.inr g))
  .simp only[g,decide_false,adM,afb];refine ac0 ⟨rfl,rfl,λi j q1 q2 q3=>?_⟩
   by_cases q4:j<lo+x
   .exact bN i j q1 q2 q4
   .have q5:j=lo+x:=by omega
    subst q5
    by_cases q6:i=lo+x
    .rw[q6];exact aeC _
    .exact adN (bN i (lo+x-1) q1 (by omega) (by omega)) (Int.not_lt.mp g)
theorem zC{Q:Unit->SortSt->Prop}(h:Q () (PyProof.Rows.setArr st (mirror (arrOf st) i j ((j-i) / 2)))):wpS (model prog w) A E s (reverseSlice' i j) Q st:=by
 rw[reverseSlice'_eq];exact wpS_modify h
theorem Ab{xs:Array Keyed}{i j lo hi:Nat}(hj:j<=xs.size)(h1:lo<=i)(h2:j<=hi):fK xs (mirror xs i j ((j-i) / 2)) lo hi:=λk h=>by
 rw[K_mirror hj,if_neg (by omega)]
noncomputable def turned(lo n bC:Nat):StateT SortSt Sem (Option Nat):=do
 reverseSlice' lo (lo+n)
 let c <- asc lo n bC
 match c.fst with
 |some r=>pure r
 |none=>pure (some c.snd)
theorem OX{lo n bC:Nat}{Q:Option Nat->SortSt->Prop}(h0:IntKeys a₀)(hB:SB a₀ p st)(hn:lo+bC<=a₀.size)(h1:1<=n)(h2:n<=bC)(hs:tF (arrOf st) lo (lo+n))
  (h:∀m ak,SB a₀ p ak->1<=m->m<=bC->fT (arrOf ak) lo (lo+m)->fK (arrOf st) (arrOf ak) lo (lo+bC)->Q (some m) ak):wpS (model prog w) A E s (turned lo n bC) Q st:=by
 unfold turned;have sz:lo+n<=(arrOf st).size:=by rw[hB.size];omega
 refine acE (zC ?_);have gn:=hB.setArr (mirror_perm (arrOf st) lo (lo+n) ((lo+n-lo) / 2));refine acE (Kr h0 gn hn h1 h2 ?_ λm g1 g2 g3 _=>ac0 (h m _ gn (by omega) g2 g3 (Ab sz (abW _) (by omega))));intro i j q1 q2 q3;rw[K_mirror sz,K_mirror sz,if_pos (by omega),if_pos (by omega)];exact hs _ _ (by omega) (by omega) (by omega)
noncomputable abbrev CD:=Option (Option Nat)×Nat×Nat
noncomputable def desc(lo n bC:Nat):StateT SortSt Sem CD:=forIn [n:bC] ((none,n,0):CD) λ_ c=>do
 let b <- ltAt' (lo+c.snd.fst) (lo+c.snd.fst-1)
 match b with
 |some sm=>
  if sm=true then
   if c.snd.snd > 0 then do
    reverseSlice' (lo+c.snd.fst-(c.snd.snd+1)) (lo+c.snd.fst)
    pure (.yield (none,c.snd.fst+1,0))
   else pure (.yield (none,c.snd.fst+1,0))
  else do
   let b <- ltAt' (lo+c.snd.fst-1) (lo+c.snd.fst)
   match b with
   |some lg=>if lg=true then pure (.done (none,c.snd.fst,c.snd.snd)) else pure (.yield (none,c.snd.fst+1,c.snd.snd+1))
   |_=>pure (.done (some none,c.snd.fst,c.snd.snd))
 |_=>pure (.done (some none,c.snd.fst,c.snd.snd))
def Alike(xs:Array Keyed)(hi q:Nat):Prop:=∀i,hi-(q+1)<=i->i<hi->K xs i=K xs (hi-1)
theorem DP{xs:Array Keyed}(sz:hi<=xs.size)(he:Alike xs hi q)(k:Nat):K (mirror xs (hi-(q+1)) hi ((hi-(hi-(q+1))) / 2)) k=K xs k:=by
 rw[K_mirror sz]
 split
 .rw[he _ (by omega) (by omega),he k (by omega) (by omega)]
 .rfl
theorem UA{lo n bC:Nat}{Q:CD->SortSt->Prop}(h0:IntKeys a₀)(hB:SB a₀ p st)(hn:lo+bC<=a₀.size)(h1:1<=n)(h2:n<=bC)(hs:tF (arrOf st) lo (lo+n))
  (h:∀m q ak,SB a₀ p ak->n<=m->m<=bC->tF (arrOf ak) lo (lo+m)->q+1<=m->Alike (arrOf ak) (lo+m) q->fK (arrOf st) (arrOf ak) lo (lo+bC)->Q (none,m,q) ak) :
  wpS (model prog w) A E s (desc lo n bC) Q st:=by
 unfold desc;refine ad3 (I:=λx c ak=>∃q,c=(none,x,q)/\SB a₀ p ak/\tF (arrOf ak) lo (lo+x)/\q+1<=x/\Alike (arrOf ak) (lo+x) q/\fK (arrOf st) (arrOf ak) lo (lo+bC)) ?step ?fin
  ⟨0,rfl,hB,hs,by omega,λi g1 g2=>by congr 1;omega,.refl _ _ _⟩
 case fin=>
  rintro c ak ⟨q,rfl,gn,g1,g2,g3,g4⟩
  have e:max n bC=bC:=by omega
  rw[e] at g1 g2 g3 ⊢;exact h bC q ak gn h2 (abW _) g1 g2 g3 g4
 case step=>
  rintro x c ak k1 k2 ⟨q,rfl,gn,g1,g2,g3,g4⟩
  dsimp only;have sz:lo+x<=(arrOf ak).size:=by rw[gn.size];omega
  refine acE (uJ gn h0 (by omega) (by omega) ?_)
  by_cases g:K (arrOf ak) (lo+x)<K (arrOf ak) (lo+x-1)
  .simp only[g,decide_true,afp];have one:∀ys:Array Keyed,(∀k,K ys k=K (arrOf ak) k)->tF ys lo (lo+(x+1)):=by
    intro ys hk i j q1 q2 q3;rw[hk,hk]
    by_cases q4:j<lo+x
    .exact g1 i j q1 q2 q4
    .have q5:j=lo+x:=by omega
     subst q5
     by_cases q6:i=lo+x
     .rw[q6];exact aeC _
     .exact adN (aew g) (g1 i (lo+x-1) q1 (by omega) (by omega))
   by_cases hq:q > 0
   .rw[if_pos hq];refine acE (zC (ac0 ⟨0,rfl,gn.setArr (mirror_perm _ _ _ _),one _ (DP sz g3),by omega,λi w1 w2=>by congr 1;omega,?_⟩));exact g4.trans (Ab sz (by omega) (by omega))
   .rw[if_neg hq];exact ac0 ⟨0,rfl,gn,one _ (λ_=>rfl),by omega,λi w1 w2=>by congr 1;omega,g4⟩
  .simp only[g,decide_false,adM,afb];refine acE (uJ gn h0 (by omega) (by omega) ?_)
   by_cases g':K (arrOf ak) (lo+x-1)<K (arrOf ak) (lo+x)
   .simp only[g',decide_true,afp];exact ac0 (h x q ak gn k1 (by omega) g1 g2 g3 g4)
   .simp only[g',decide_false,adM,afb];have e:K (arrOf ak) (lo+x)=K (arrOf ak) (lo+x-1):=by omega
    refine ac0 ⟨q+1,rfl,gn,λi j q1 q2 q3=>?_,by omega,λi w1 w2=>?_,g4⟩
    .by_cases q4:j<lo+x
     .exact g1 i j q1 q2 q4
     .have q5:j=lo+x:=by omega
      subst q5
      by_cases q6:i=lo+x
      .rw[q6];exact aeC _
      .rw[e];exact g1 i (lo+x-1) q1 (by omega) (by omega)
    .rw[show lo+(x+1)-1=lo+x by omega]
     by_cases q6:i=lo+x
     .rw[q6]
     .rw[e];exact g3 i (by omega) (by omega)
noncomputable def uL(lo n bC:Nat):StateT SortSt Sem (Option Nat):=do
 liftM (rule "list.sort.descending-run")
 let c <- desc lo (n+1) bC
 match c.fst with
 |some r=>pure r
 |none=>
  if c.snd.snd > 0 then do
   reverseSlice' (lo+c.snd.fst-(c.snd.snd+1)) (lo+c.snd.fst)
   turned lo c.snd.fst bC
  else turned lo c.snd.fst bC
theorem Nv{lo n bC:Nat}{Q:Option Nat->SortSt->Prop}(h0:IntKeys a₀)(hB:SB a₀ p st)(hn:lo+bC<=a₀.size)(h2:n+1<=bC)(hs:tF (arrOf st) lo (lo+(n+1)))
  (h:∀m ak,SB a₀ p ak->1<=m->m<=bC->fT (arrOf ak) lo (lo+m)->fK (arrOf st) (arrOf ak) lo (lo+bC)->Q (some m) ak):wpS (model prog w) A E s (uL lo n bC) Q st:=by
 unfold uL;refine acE (wpS_lift (aee ⟨rfl,?_⟩));refine acE (UA h0 hB hn (by omega) h2 hs λm q ak gn g1 g2 g3 g4 g5 g6=>?_);dsimp only;have sz:lo+m<=(arrOf ak).size:=by rw[gn.size];omega
 by_cases hq:q > 0
 .rw[if_pos hq];refine acE (zC (OX h0 (gn.setArr (mirror_perm _ _ _ _)) hn (by omega) g2 ?_ λm' aU b1 b2 b3 b4 b5=>h m' aU b1 b2 b3 b4 ((g6.trans (Ab sz (by omega) (by omega))).trans b5)));intro i j q1 q2 q3;rw[DP sz g5,DP sz g5];exact g3 i j q1 q2 q3
 .rw[if_neg hq];exact OX h0 gn hn (by omega) g2 g3 λm' aU b1 b2 b3 b4 b5=>h m' aU b1 b2 b3 b4 (g6.trans b5)
theorem aaU(lo bC:Nat):countRun' lo bC=(do
  let c <- asc lo 1 bC
  match c.fst with
  |some r=>pure r
  |none=>
   if(c.snd==bC)=true then pure (some c.snd)
   else if c.snd > 1 then do
    let b <- ltAt' lo (lo+c.snd-1)
    match b with
    |some up=>if up=true then pure (some c.snd) else do
      reverseSlice' lo (lo+c.snd)
      uL lo c.snd bC
    |_=>pure none
   else uL lo c.snd bC):=by
 rw[countRun'_eq];simp only[Nat.add_zero];unfold uL turned desc asc
 congr 1
 funext c
 obtain⟨r,n⟩:=c;cases r with
 |some r=>rfl
 |none=>
  dsimp only
  split
  .rfl
  .split
   .congr 1
    funext x
    cases x with
    |none=>rfl
    |some up=>
     dsimp only
     split
     .rfl
     .congr 1
      funext _r
      congr 1
      funext _u
      congr 1
      congr 1
      funext c2
      obtain⟨r2,n2,q2⟩:=c2;cases r2 with
      |some r2=>rfl
      |none=>
       dsimp only
       split
       .congr 1
        funext _v
        congr 1
        funext _w
        congr 1
        funext c3
        obtain⟨r3,n3⟩:=c3;cases r3<;>rfl
       .congr 1
        funext _w
        congr 1
        funext c3
        obtain⟨r3,n3⟩:=c3;cases r3<;>rfl
   .skip
    congr 1
    funext _u
    congr 1
    congr 1
    funext c2
    obtain⟨r2,n2,q2⟩:=c2;cases r2 with
    |some r2=>rfl
    |none=>
     dsimp only
     split
     .congr 1
      funext _v
      congr 1
      funext _w
      congr 1
      funext c3
      obtain⟨r3,n3⟩:=c3;cases r3<;>rfl
     .congr 1
      funext _w
      congr 1
      funext c3
      obtain⟨r3,n3⟩:=c3;cases r3<;>rfl
theorem QY{lo bC:Nat}{Q:Option Nat->SortSt->Prop}(h0:IntKeys a₀)(hB:SB a₀ p st)(hn:lo+bC<=a₀.size)(h1:1<=bC)
  (h:∀m ak,SB a₀ p ak->1<=m->m<=bC->fT (arrOf ak) lo (lo+m)->fK (arrOf st) (arrOf ak) lo (lo+bC)->Q (some m) ak):wpS (model prog w) A E s (countRun' lo bC) Q st:=by
 rw[aaU];refine acE (Kr h0 hB hn (abW 1) h1 (λi j q1 q2 q3=>by rw[show i=j by omega];exact aeC _) λn g1 g2 g3 g4=>?_);dsimp only
 by_cases e:n=bC
 .rw[if_pos (by simpa using e)];exact ac0 (h n st hB g1 g2 g3 (.refl _ _ _))
 .rw[if_neg (by simpa using e)];have lt:=g4.resolve_left e
  by_cases gt:n > 1
  .rw[if_pos gt];refine acE (uJ hB h0 (by omega) (by omega) ?_)
   by_cases up:K (arrOf st) lo<K (arrOf st) (lo+n-1)
   .simp only[up,decide_true,afp];exact ac0 (h n st hB g1 g2 g3 (.refl _ _ _))
   .simp only[up,decide_false,adM,afb];have sz:lo+n<=(arrOf st).size:=by rw[hB.size];omega
    have all:∀k,lo<=k->k<lo+n->K (arrOf st) k=K (arrOf st) (lo+n-1):=by
     intro k q1 q2;have a1:=g3 lo k (abW _) q1 q2;have a2:=g3 k (lo+n-1) q1 (by omega) (by omega);omega
    have km:∀k,K (mirror (arrOf st) lo (lo+n) ((lo+n-lo) / 2)) k=K (arrOf st) k:=by
     intro k;rw[K_mirror sz]
     split
     .rw[all _ (by omega) (by omega),all k (by omega) (by omega)]
     .rfl
    refine acE (zC (Nv h0 (hB.setArr (mirror_perm _ _ _ _)) hn (by omega) ?_ λm' aU b1 b2 b3 b4 b5=>h m' aU b1 b2 b3 b4 ((Ab sz (by omega) (by omega)).trans b5)));intro i j q1 q2 q3;rw[km,km]
    by_cases q4:j<lo+n
    .rw[all i (by omega) (by omega),all j (by omega) q4];exact aeC _
    .have q5:j=lo+n:=by omega
     subst q5
     by_cases q6:i=lo+n
     .rw[q6];exact aeC _
     .rw[all i (by omega) (by omega)];exact aew lt
  .rw[if_neg gt];have e1:n=1:=by omega
   subst e1;refine Nv h0 hB hn (by omega) ?_ h;intro i j q1 q2 q3
   by_cases q6:i=j
   .rw[q6];exact aeC _
   .have i0:i=lo:=by omega
    have j1:j=lo+1:=by omega
    subst i0 j1;exact aew lt
end
section
variable{a₀:Array Keyed}{p:Array (Nat×Nat×Nat)}{st:SortSt}{prog:Program}{w:World}{A:Around}{E:Value->Shared->Prop}{s:Shared}
theorem Y5{lo n ok:Nat}{Q:Bool->SortSt->Prop}(h0:IntKeys a₀)(hB:SB a₀ p st)(hn:lo+n<=a₀.size)(aI:ok<=n)(hs:fT (arrOf st) lo (lo+ok))
  (h:∀ak,SB a₀ p ak->fT (arrOf ak) lo (lo+n)->fK (arrOf st) (arrOf ak) lo (lo+n)->Q true ak):wpS (model prog w) A E s (binarySort' lo n ok) Q st:=by
 rw[binarySort'_eq];refine acE (ad6 (ad3 (I:=λk c ak=>c=(none,())/\SB a₀ p ak/\fT (arrOf ak) lo (lo + min k n)/\fK (arrOf st) (arrOf ak) lo (lo + n))
  (Q:=λc ak=>c=(none,())/\SB a₀ p ak/\fT (arrOf ak) lo (lo+n)/\fK (arrOf st) (arrOf ak) lo (lo+n)) ?step ?fin ?init) ?post)
 case post=>
  rintro c ak ⟨rfl,g1,g2,g3⟩
  exact ac0 (h ak g1 g2 g3)
 case init=>
  refine⟨rfl,hB,λi j q1 q2 q3=>?_,.refl _ _ _⟩
  by_cases q:ok=0
  .rw[show i=j by omega];exact aeC _
  .exact hs i j q1 q2 (by omega)
 case fin=>
  rintro c ak ⟨hc,g1,g2,g3⟩
  refine⟨hc,g1,?_,g3⟩
  rwa [show min (max (max ok 1) n) n=n by omega] at g2
 case step=>
  rintro k c ak k1 k2 ⟨rfl,gn,g2,g3⟩
  rw[show min k n=k by omega] at g2;have hk:lo+k<a₀.size:=by omega
  refine acE (ad6 (ad3 (I:=λx c aU=>aU=ak/\∃l r,c=(none,l,r)/\l<=r/\r<=k/\r - l<=k - x/\
    (∀i,i<l->K (arrOf ak) (lo+i)<=K (arrOf ak) (lo+k))/\(∀i,r<=i->i<k->K (arrOf ak) (lo+k)<K (arrOf ak) (lo+i)))
   (Q:=λc aU=>aU=ak/\∃l r,c=(none,l,r)/\l<=k/\
    (∀i,i<l->K (arrOf ak) (lo+i)<=K (arrOf ak) (lo+k))/\(∀i,l<=i->i<k->K (arrOf ak) (lo+k)<K (arrOf ak) (lo+i))) ?Qd ?Sd ?RJ) ?Tg)
  case RJ=>exact⟨rfl,0,k,rfl,by omega,by omega,by omega,λi hi=>by omega,λi _ _=>by omega⟩
  case Sd=>
   rintro c aU ⟨rfl,l,r,rfl,w1,w2,w3,w4,w5⟩
   obtain rfl:l=r:=by omega
   exact⟨rfl,l,l,rfl,w2,w4,w5⟩
  case Qd=>
   rintro x c aU _ hx ⟨rfl,l,r,rfl,w1,w2,w3,w4,w5⟩
   dsimp only
   by_cases ge:l >= r
   .rw[if_pos ge];obtain rfl:l=r:=by omega
    exact ac0 ⟨rfl,l,l,rfl,w2,w4,w5⟩
   .rw[if_neg ge];refine acE (uJ gn h0 hk (by omega) ?_)
    by_cases g:K (arrOf aU) (lo+k)<K (arrOf aU) (lo+(l+r) / 2)
    .simp only[g,decide_true,afp];exact ac0 ⟨rfl,l,(l+r) / 2,rfl,by omega,by omega,by omega,w4,λi q1 q2=>Int.lt_of_lt_of_le g (g2 _ _ (by omega) (by omega) (by omega))⟩
    .simp only[g,decide_false,adM,afb];exact ac0 ⟨rfl,(l+r) / 2+1,r,rfl,by omega,by omega,by omega,λi q1=>adN (g2 (lo+i) (lo+(l+r) / 2) (by omega) (by omega) (by omega)) (Int.not_lt.mp g),w5⟩
  case Tg=>
   rintro c aU ⟨rfl,l,r,rfl,w2,w4,w5⟩
   show wpS _ _ _ _ (do moveDown' (lo+k) (lo+l);pure (ForInStep.yield (none,()))) _ _;rw[moveDown'_eq];have ks:lo+k<(arrOf aU).size:=by rw[gn.size];exact hk
   refine acE (wpS_modify (ac0 ⟨rfl,gn.setArr (bubble_perm _ _ _),?_,g3.trans λq hq=>?_⟩))
   .rw[show min (k+1) n=k+1 by omega];intro i j q1 q2 q3;have at_:∀m,lo<=m->K (arrOf aU) m=K (arrOf aU) (lo+(m-lo)):=λm hm=>by congr 1;omega
    have up:∀m,lo<=m->m<lo+l->K (arrOf aU) m<=K (arrOf aU) (lo+k):=λm m1 m2=>by rw[at_ m m1];exact w4 _ (by omega)
    have dn:∀m,lo+l<=m->m<lo+k->K (arrOf aU) (lo+k)<=K (arrOf aU) m:=λm m1 m2=>by rw[at_ m (by omega)];exact aew (w5 _ (by omega) (by omega))
    rw[K_bubble ks (by omega),K_bubble ks (by omega),show lo+k-(lo+k-(lo+l))=lo+l by omega]
    repeat' split
    all_goals first
     |(exfalso;omega)
     |exact aeC _
     |exact up _ (by omega) (by omega)
     |exact dn _ (by omega) (by omega)
     |exact g2 _ _ (by omega) (by omega) (by omega)
   .show K (bubble (arrOf aU) (lo+k) (lo+k-(lo+l))) q=_;rw[K_bubble ks (by omega),if_neg (by omega),if_neg (by omega)]
noncomputable def j6:Bool->Keyed->Array Keyed->Nat->Nat->Nat->StateT SortSt Sem (Option Nat):=sortPriv% PySem.Builtin.gallop
theorem QM(lf:Bool)(ky:Keyed)(xs:Array Keyed)(b n ht:Nat):j6 lf ky xs b n ht=(do
 let bH (i:Nat):StateT SortSt Sem (Option Bool):=do
  let x <- elem' xs (b+i)
  if lf then lt' x ky else return(<- lt' ky x).map (!·)
 let mut last:=0
 let mut of:=1
 let mut l:=0
 let mut h:=0
 let some rt <- bH ht|return none
 if rt then
  let mx:=n-ht
  for _ in [0:n] do
   if of >= mx then break
   let some mo <- bH (ht+of)|return none
   if !mo then break
   last:=of
   of:=2*of+1
  l:=ht+last+1
  h:=ht+min of mx
 else
  let mx:=ht+1
  for _ in [0:n] do
   if of >= mx then break
   let some mo <- bH (ht-of)|return none
   if mo then break
   last:=of
   of:=2*of+1
  l:=ht+1-min of mx
  h:=ht-last
 for _ in [0:n] do
  if l >= h then break
  let m:=l+(h-l) / 2
  let some mo <- bH m|return none
  if mo then l:=m+1 else h:=m
 return some h):=rfl
noncomputable def ky(p:Keyed):Int:=numOf p.1
def h_(p:Keyed):Prop:=∃n t,p.1=.int n t
theorem Af{x y:Keyed}{Q:Option Bool->SortSt->Prop}(hk:kindOf st=oneType')(hx:h_ x)(hy:h_ y)(h:Q (some (decide (ky x<ky y))) st):wpS (model prog w) A E s (lt' x y) Q st:=by
 obtain⟨a,t,ea⟩:=hx;obtain⟨b,u,eb⟩:=hy;have ha:ky x=a:=by unfold ky;rw[ea];rfl
 have hb:ky y=b:=by unfold ky;rw[eb];rfl
 rw[ha,hb] at h;rw[lt'_eq];refine acE (wpS_get ?_);rw[hk,keyLt'_oneType,ea,eb];exact acE (wpS_lift (aeR (oneLt_int ⟨rfl,ac0 h⟩)))
theorem fZ{xs:Array Keyed}{q:Keyed}{Q:Keyed->SortSt->Prop}(e:xs[i]? = some q)(h:Q q st):wpS (model prog w) A E s (elem' xs i) Q st:=by
 rw[elem'_eq,e];exact ac0 h
noncomputable def bH(lf:Bool)(v x:Int):Bool:=if lf then decide (x<v) else !decide (v<x)
theorem WE(h:x<=y)(q:bH lf v y=true):bH lf v x=true:=by
 unfold bH at q ⊢;cases lf<;>simp at q ⊢<;>omega
theorem WN{x:Keyed}{xs:Array Keyed}{Q:Option Bool->SortSt->Prop}{k:Keyed}(hk:kindOf st=oneType')(e:xs[i]? = some x)(hx:h_ x)(hy:h_ k)(h:Q (some (bH lf (ky k) (ky x))) st):
  wpS (model prog w) A E s (do
   let x <- elem' xs i
   if lf then lt' x k else return(<- lt' k x).map (!·)) Q st:=by
 refine acE (fZ e ?_);cases lf with
 |true=>rw[if_pos rfl];exact Af hk hx hy (by unfold bH at h;rw[if_pos rfl] at h;exact h)
 |false=>
  rw[if_neg (by simp)];refine acE (Af hk hy hx (ac0 ?_));unfold bH at h;rw[if_neg (by simp)] at h;exact h
structure Sub(xs:Array Keyed)(b n:Nat)(f:Nat->Int):Prop where
 ex:∀i,i<n->∃q,xs[b+i]? = some q/\h_ q/\ky q=f i
 up:∀i j,i<=j->j<n->f i<=f j
noncomputable abbrev CG:=Option (Option Nat)×Nat×Nat
noncomputable def xC(lf:Bool)(k:Keyed)(xs:Array Keyed)(b n l h:Nat):StateT SortSt Sem (Option Nat):=do
 let c <- forIn [:n] ((none,l,h):CG) λ_ c=>if c.snd.fst >= c.snd.snd then pure (.done (none,c.snd.fst,c.snd.snd)) else do
  let x <- (do
   let x <- elem' xs (b+(c.snd.fst+(c.snd.snd-c.snd.fst) / 2))
   if lf then lt' x k else return(<- lt' k x).map (!·))
  match x with
  |some mo=>if mo=true then pure (.yield (none,c.snd.fst+(c.snd.snd-c.snd.fst) / 2+1,c.snd.snd)) else pure (.yield (none,c.snd.fst,c.snd.fst+(c.snd.snd-c.snd.fst) / 2))
  |_=>pure (.done (some none,c.snd.fst,c.snd.snd))
 match c.fst with
 |some r=>pure r
 |none=>pure (some c.snd.snd)
section
variable{lf:Bool}{k:Keyed}{xs:Array Keyed}{b n ht:Nat}{f:Nat->Int}{Q:Option Nat->SortSt->Prop}
theorem Sub.fr(S:Sub xs b n f)(hk:kindOf st=oneType')(hy:h_ k){Q':Option Bool->SortSt->Prop}(hi:i < n)(hq:Q' (some (bH lf (ky k) (f i))) st):wpS (model prog w) A E s (do
   let x <- elem' xs (b+i)
   if lf then lt' x k else return(<- lt' k x).map (!·)) Q' st:=by
 obtain⟨q,e,iq,ek⟩:=S.ex i hi;exact WN hk e iq hy (by rw[ek];exact hq)
theorem Sub.yes(S:Sub xs b n f)(lZ:i<=j)(hj:j<n)(e:bH lf v (f j)=true):bH lf v (f i)=true:=WE (S.up i j lZ hj) e
theorem Sub.no(S:Sub xs b n f)(lZ:i<=j)(hj:j<n)(e:bH lf v (f i)=false):bH lf v (f j)=false:=by
 cases q:bH lf v (f j) with
 |false=>rfl
 |true=>rw[S.yes lZ hj q] at e;cases e
theorem Ou(hk:kindOf st=oneType')(S:Sub xs b n f)(hy:h_ k)(g1:l0<=h0)(g2:h0<=n)(g3:∀i,i<l0->bH lf (ky k) (f i)=true)(g4:∀i,h0<=i->i<n->bH lf (ky k) (f i)=false)
  (h:∀m,m<=n->(∀i,i<m->bH lf (ky k) (f i)=true)->(∀i,m<=i->i<n->bH lf (ky k) (f i)=false)->Q (some m) st):wpS (model prog w) A E s (xC lf k xs b n l0 h0) Q st:=by
 unfold xC;refine acE (ad6 (ad3 (I:=λx c ak=>ak=st/\∃l r,c=(none,l,r)/\l<=r/\r<=n/\r - l<=n - x/\(∀i,i < l->bH lf (ky k) (f i)=true)/\(∀i,r<=i->i < n->bH lf (ky k) (f i)=false))
  (Q:=λc ak=>ak=st/\∃l,c=(none,l,l)/\l<=n/\(∀i,i<l->bH lf (ky k) (f i)=true)/\(∀i,l<=i->i<n->bH lf (ky k) (f i)=false)) ?step ?fin ⟨rfl,l0,h0,rfl,g1,g2,by omega,g3,g4⟩) ?post)
 case post=>
  rintro c ak ⟨rfl,l,rfl,w1,w2,w3⟩
  exact ac0 (h l w1 w2 w3)
 case fin=>
  rintro c ak ⟨rfl,l,r,rfl,w1,w2,w3,w4,w5⟩
  obtain rfl:l=r:=by omega
  exact⟨rfl,l,rfl,w2,w4,w5⟩
 case step=>
  rintro x c ak _ hx ⟨rfl,l,r,rfl,w1,w2,w3,w4,w5⟩
  dsimp only
  by_cases ge:l >= r
  .rw[if_pos ge];obtain rfl:l=r:=by omega
   exact ac0 ⟨rfl,l,rfl,w2,w4,w5⟩
  .rw[if_neg ge];refine acE (S.fr hk hy (by omega) ?_);cases g:bH lf (ky k) (f (l+(r-l) / 2)) with
   |true=>
    dsimp only;rw[if_pos rfl];exact ac0 ⟨rfl,l+(r-l) / 2+1,r,rfl,by omega,w2,by omega,λi q=>S.yes (by omega) (by omega) g,w5⟩
   |false=>
    dsimp only;rw[if_neg (by simp)];exact ac0 ⟨rfl,l,l+(r-l) / 2,rfl,by omega,by omega,by omega,w4,λi q1 q2=>S.no q1 q2 g⟩
theorem as{α:Type}{t t':StateT SortSt Sem α}{Q:α->SortSt->Prop}(e:t=t')(h:wpS (model prog w) A E s t' Q st):wpS (model prog w) A E s t Q st:=by rw[e];exact h
theorem r9(hk:kindOf st=oneType')(S:Sub xs b n f)(hy:h_ k)(hh:ht<n)
  (h:∀m,m<=n->(∀i,i<m->bH lf (ky k) (f i)=true)->(∀i,m<=i->i<n->bH lf (ky k) (f i)=false)->Q (some m) st):wpS (model prog w) A E s (j6 lf k xs b n ht) Q st:=by
 rw[QM];dsimp only;refine acE (S.fr hk hy hh ?_);cases g:bH lf (ky k) (f ht) with
 |true=>
  dsimp only;rw[if_pos rfl];refine acE (ad6 (ad3 (I:=λx c ak=>ak=st/\∃la o,c=(none,la,o)/\la < o/\x + 1<=o/\ht + la < n/\bH lf (ky k) (f (ht + la))=true)
   (Q:=λc ak=>ak=st/\∃la o,c=(none,la,o)/\la<o/\ht+la<n/\bH lf (ky k) (f (ht+la))=true/\(n-ht<=o\/(ht+o<n/\bH lf (ky k) (f (ht+o))=false))) ?step ?fin ⟨rfl,0,1,rfl,by omega,by omega,hh,g⟩) ?post)
  case fin=>
   rintro c ak ⟨rfl,la,o,rfl,w1,w2,w3,w4⟩
   exact⟨rfl,la,o,rfl,w1,w3,w4,.inl (by omega)⟩
  case step=>
   rintro x c ak _ hx ⟨rfl,la,o,rfl,w1,w2,w3,w4⟩
   dsimp only
   by_cases ge:o >= n-ht
   .rw[if_pos ge];exact ac0 ⟨rfl,la,o,rfl,w1,w3,w4,.inl ge⟩
   .rw[if_neg ge];refine acE (S.fr hk hy (by omega) ?_);cases g':bH lf (ky k) (f (ht+o)) with
    |true=>
     dsimp only;rw[if_neg (by simp)];exact ac0 ⟨rfl,o,2*o+1,rfl,by omega,by omega,by omega,g'⟩
    |false=>
     dsimp only;rw[if_pos (by simp)];exact ac0 ⟨rfl,la,o,rfl,w1,w3,w4,.inr ⟨by omega,g'⟩⟩
  case post=>
   rintro c ak ⟨rfl,la,o,rfl,w1,w3,w4,w5⟩
   dsimp only;refine as (by unfold xC;congr 1;funext c;obtain⟨r,_⟩:=c;cases r<;>rfl) (Ou hk S hy (by omega) (by omega) (λi q=>S.yes (by omega) w3 w4) (λi q1 q2=>?_) h);rcases w5 with w5|⟨w5,w6⟩
   .omega
   .exact S.no (by omega) q2 w6
 |false=>
  dsimp only;rw[if_neg (by simp)];refine acE (ad6 (ad3 (I:=λx c ak=>ak=st/\∃la o,c=(none,la,o)/\la < o/\x + 1<=o/\la<=ht/\bH lf (ky k) (f (ht - la))=false)
   (Q:=λc ak=>ak=st/\∃la o,c=(none,la,o)/\la<o/\la<=ht/\bH lf (ky k) (f (ht-la))=false/\(ht+1<=o\/(o<=ht/\bH lf (ky k) (f (ht-o))=true))) ?Xl ?fin2 ⟨rfl,0,1,rfl,by omega,by omega,by omega,g⟩) ?Vv)
  case fin2=>
   rintro c ak ⟨rfl,la,o,rfl,w1,w2,w3,w4⟩
   exact⟨rfl,la,o,rfl,w1,w3,w4,.inl (by omega)⟩
  case Xl=>
   rintro x c ak _ hx ⟨rfl,la,o,rfl,w1,w2,w3,w4⟩
   dsimp only
   by_cases ge:o >= ht+1
   .rw[if_pos ge];exact ac0 ⟨rfl,la,o,rfl,w1,w3,w4,.inl ge⟩
   .rw[if_neg ge];refine acE (S.fr hk hy (by omega) ?_);cases g':bH lf (ky k) (f (ht-o)) with
    |false=>
     dsimp only;rw[if_neg (by simp)];exact ac0 ⟨rfl,o,2*o+1,rfl,by omega,by omega,by omega,g'⟩
    |true=>
     dsimp only;rw[if_pos rfl];exact ac0 ⟨rfl,la,o,rfl,w1,w3,w4,.inr ⟨by omega,g'⟩⟩
  case Vv=>
   rintro c ak ⟨rfl,la,o,rfl,w1,w3,w4,w5⟩
   dsimp only;refine as (by unfold xC;congr 1;funext c;obtain⟨r,_⟩:=c;cases r<;>rfl) (Ou hk S hy (by omega) (by omega) (λi q=>?_) (λi q1 q2=>S.no q1 q2 w4) h);rcases w5 with w5|⟨w5,w6⟩
   .omega
   .exact S.yes (by omega) (by omega) w6
end
end
def Up(x:List Keyed):Prop:=x.Pairwise λa b=>ky a<=ky b
structure MI(x y o:List Keyed)(i j:Nat):Prop where
 hi:i<=x.length
 hj:j<=y.length
 pm:(o++x.drop i++y.drop j).Perm (x++y)
 so:Up o
 ox:∀e∈o,∀f∈x.drop i,ky e<=ky f
 oy:∀e∈o,∀f∈y.drop j,ky e<=ky f
section
variable{x y o:List Keyed}{i j k:Nat}
theorem MI.swap(M:MI x y o i j):MI y x o j i:=by
 refine⟨M.hj,M.hi,?_,M.so,M.oy,M.ox⟩;have h:=M.pm;rw[adJ] at h ⊢;exact((aex).append_left o).trans (h.trans aex)
theorem MI.len(M:MI x y o i j):o.length+(x.length-i)+(y.length-j)=x.length+y.length:=by
 have h:=M.pm.length_eq;simp at h;omega
theorem MI.qH(M:MI x y o i j)(ux:Up x)(hk:i+k<=x.length)(c:∀e∈(x.drop i).take k,∀f∈y.drop j,ky e<=ky f):MI x y (o++(x.drop i).take k) (i+k) j:=by
 have ud:Up ((x.drop i).take k++(x.drop i).drop k):=by rw[aeg];exact ux.sublist (afd _ _)
 have dd:x.drop (i+k)=(x.drop i).drop k:=by rw[List.drop_drop]
 obtain⟨u1,u2,u3⟩:=adZ.mp ud;refine⟨hk,M.hj,?_,?_,?_,?_⟩
 .rw[dd,adJ o,aeg];exact M.pm
 .exact adZ.mpr ⟨M.so,u1,λe he f hf=>M.ox e he f (List.mem_of_mem_take hf)⟩
 .intro e he f hf;rw[dd] at hf;rcases acW.mp he with he|he
  .exact M.ox e he f (List.mem_of_mem_drop hf)
  .exact u3 e he f hf
 .intro e he f hf;rcases acW.mp he with he|he
  .exact M.oy e he f hf
  .exact c e he f hf
theorem MI.vN(M:MI x y o i j)(uy:Up y)(hk:j+k<=y.length)(c:∀e∈(y.drop j).take k,∀f∈x.drop i,ky e<=ky f):MI x y (o++(y.drop j).take k) i (j+k):=(M.swap.qH uy hk c).swap
def Good(x y out:List Keyed):Prop:=out.Perm (x++y)/\Up out
theorem MI.good(M:MI x y o i j)(ux:Up x)(uy:Up y)(c:∀e∈x.drop i,∀f∈y.drop j,ky e<=ky f):Good x y (o++x.drop i++y.drop j):=by
 refine⟨M.pm,adZ.mpr ⟨adZ.mpr ⟨M.so,ux.sublist (afd _ _),M.ox⟩,uy.sublist (afd _ _),λe he f hf=>?_⟩⟩;rcases acW.mp he with he|he
 .exact M.oy e he f hf
 .exact c e he f hf
theorem Good.swap{out:List Keyed}(g:Good y x out):Good x y out:=⟨g.1.trans aex,g.2⟩
theorem MI.Hi(M:MI x y o i j)(ux:Up x)(uy:Up y)(c:∀e∈y.drop j,∀f∈x.drop i,ky e<=ky f):Good x y (o++y.drop j++x.drop i):=(M.swap.good uy ux c).swap
theorem take_one{d:List Keyed}{q:Keyed}(e:d[i]? = some q):(d.drop i).take 1=[q]:=by
 obtain⟨h,rfl⟩:=acY.mp e;rw[adU h];rfl
theorem Ig{d:List Keyed}{q e:Keyed}(h:d[i]? = some q)(m:e∈(d.drop i).take 1):e=q:=by
 rw[take_one h] at m;exact aa8.mp m
theorem qB{d:List Keyed}{q f:Keyed}(u:Up d)(h:d[i]? = some q)(m:f∈d.drop i):ky q<=ky f:=by
 obtain⟨hl,rfl⟩:=acY.mp h;rw[adU hl] at m;rcases abh.mp m with rfl|m
 .exact aeC _
 .have w:=u.sublist (afd i d);rw[adU hl] at w;exact(aeA.mp w).1 f m
theorem OP{d:List Keyed}{e:Keyed}(m:e∈(d.drop i).take k):∃t,t<k/\d[i+t]? = some e:=by
 obtain⟨t,ht,rfl⟩:=List.mem_iff_getElem.mp m;have h1:t<k:=by rw[aeO] at ht;omega
 refine⟨t,h1,?_⟩;rw[List.getElem_take,afs,abL]
end
section
variable{st ak:SortSt}{prog:Program}{w:World}{A:Around}{E:Value->Shared->Prop}{s:Shared}
def Sm(st ak:SortSt):Prop:=kindOf ak=kindOf st/\arrOf ak=arrOf st/\pendingOf ak=pendingOf st/\failedOf ak=failedOf st
theorem Sm.refl(st:SortSt):Sm st st:=⟨rfl,rfl,rfl,rfl⟩
theorem Sm.trans{st gM aU:SortSt}(a:Sm st gM)(b:Sm gM aU):Sm st aU:=⟨b.1.trans a.1,b.2.1.trans a.2.1,b.2.2.1.trans a.2.2.1,b.2.2.2.trans a.2.2.2⟩
noncomputable def mF:Nat->StateT SortSt Sem Unit:=sortPriv% PySem.Builtin.setMinGallop
theorem yE{Q:Unit->SortSt->Prop}(h:∀ak,Sm st ak->Q () ak):wpS (model prog w) A E s (mF g) Q st:=by
 have e:mF g=modify λs=>SortSt.mk' (kindOf s) (arrOf s) (pendingOf s) g (failedOf s):=rfl
 rw[e];exact wpS_modify (h _ ⟨rfl,rfl,rfl,rfl⟩)
noncomputable def xU:Array Keyed->Array Keyed->StateT SortSt Sem (Array Keyed):=sortPriv% PySem.Builtin.mergeLo
theorem aai(x y:Array Keyed):xU x y=(do
 rule "list.sort.merge-lo"
 let tot:=x.size+y.size
 let fi (o:Array Keyed) (i j:Nat):=o++x.extract i x.size++y.extract j y.size
 let la (o:Array Keyed) (i j:Nat):=o++y.extract j y.size++x.extract i x.size
 let mut o:Array Keyed:=#[<- elem' y 0]
 let mut i:=0
 let mut j:=1
 if j==y.size then return fi o i j
 if i+1==x.size then return la o i j
 let mut mg:=gallopOf (<- get)
 for _ in [0:tot] do
  let mut ac:=0
  let mut bc:=0
  for _ in [0:tot] do
   let some bw <- lt' (<- elem' y j) (<- elem' x i)|return fi o i j
   if bw then
    o:=o.push (<- elem' y j);j:=j+1;bc:=bc+1;ac:=0
    if j==y.size then return fi o i j
    if bc >= mg then break
   else
    o:=o.push (<- elem' x i);i:=i+1;ac:=ac+1;bc:=0
    if i+1==x.size then return la o i j
    if ac >= mg then break
  rule "list.sort.gallop"
  mg:=mg+1
  for _ in [0:tot] do
   if mg > 1 then mg:=mg-1
   mF mg
   let some k <- j6 false (<- elem' y j) x i (x.size-i) 0|return fi o i j
   ac:=k
   if k > 0 then
    o:=o++x.extract i (i+k);i:=i+k
    if i+1==x.size then return la o i j
    if i==x.size then return fi o i j
   o:=o.push (<- elem' y j);j:=j+1
   if j==y.size then return fi o i j
   let some k <- j6 true (<- elem' x i) y j (y.size-j) 0|return fi o i j
   bc:=k
   if k > 0 then
    o:=o++y.extract j (j+k);j:=j+k
    if j==y.size then return fi o i j
   o:=o.push (<- elem' x i);i:=i+1
   if i+1==x.size then return la o i j
   if ac<7&&bc<7 then break
  mg:=mg+1
  mF mg
 unsupported "internal:list.sort.merge-bound"):=rfl
noncomputable abbrev C2:=Option (Array Keyed)×Array Keyed×Nat×Nat×Nat×Nat×Nat
noncomputable def yH(x y o:Array Keyed)(i j mg k k1:Nat):StateT SortSt Sem (ForInStep C2):=do
 let e <- elem' x i
 if(i+1+1==x.size)=true then pure (.done (some (o.push e++y.extract j y.size++x.extract (i+1) x.size),o.push e,i+1,j,mg,k,k1))
 else if(decide (k<7)&&decide (k1<7))=true then pure (.done (none,o.push e,i+1,j,mg,k,k1)) else pure (.yield (none,o.push e,i+1,j,mg,k,k1))
noncomputable def yt(x y o:Array Keyed)(i j mg k bc:Nat):StateT SortSt Sem (ForInStep C2):=do
 let q <- elem' y j
 if(j+1==y.size)=true then pure (.done (some (o.push q++x.extract i x.size++y.extract (j+1) y.size),o.push q,i,j+1,mg,k,bc))
 else do
  let e <- elem' x i
  let r <- j6 true e y (j+1) (y.size-(j+1)) 0
  match r with
  |some k1=>
   if k1 > 0 then
    if(j+1+k1==y.size)=true then pure (.done (some (o.push q++y.extract (j+1) (j+1+k1)++x.extract i x.size++y.extract (j+1+k1) y.size),o.push q++y.extract (j+1) (j+1+k1),i,j+1+k1,mg,k,k1))
    else yH x y (o.push q++y.extract (j+1) (j+1+k1)) i (j+1+k1) mg k k1
   else yH x y (o.push q) i (j+1) mg k k1
  |_=>pure (.done (some (o.push q++x.extract i x.size++y.extract (j+1) y.size),o.push q,i,j+1,mg,k,bc))
noncomputable def lo1(x y o:Array Keyed)(i j mg ac bc:Nat):StateT SortSt Sem (ForInStep C2):=do
 mF mg
 let q <- elem' y j
 let r <- j6 false q x i (x.size-i) 0
 match r with
 |some k=>
  if k > 0 then
   if(i+k+1==x.size)=true then pure (.done (some (o++x.extract i (i+k)++y.extract j y.size++x.extract (i+k) x.size),o++x.extract i (i+k),i+k,j,mg,k,bc))
   else if(i+k==x.size)=true then pure (.done (some (o++x.extract i (i+k)++x.extract (i+k) x.size++y.extract j y.size),o++x.extract i (i+k),i+k,j,mg,k,bc))
   else yt x y (o++x.extract i (i+k)) (i+k) j mg k bc
  else yt x y o i j mg k bc
 |_=>pure (.done (some (o++x.extract i x.size++y.extract j y.size),o,i,j,mg,ac,bc))
noncomputable abbrev C1:=Option (Array Keyed)×Array Keyed×Nat×Nat×Nat×Nat
noncomputable def gM(x y o:Array Keyed)(i j mg ac bc:Nat):StateT SortSt Sem (ForInStep C1):=do
 let q <- elem' y j
 let e <- elem' x i
 let r <- lt' q e
 match r with
 |some bw=>
  if bw=true then do
   let q <- elem' y j
   if(j+1==y.size)=true then pure (.done (some (o.push q++x.extract i x.size++y.extract (j+1) y.size),o.push q,i,j+1,0,bc+1))
   else if bc+1 >= mg then pure (.done (none,o.push q,i,j+1,0,bc+1)) else pure (.yield (none,o.push q,i,j+1,0,bc+1))
  else do
   let e <- elem' x i
   if(i+1+1==x.size)=true then pure (.done (some (o.push e++y.extract j y.size++x.extract (i+1) x.size),o.push e,i+1,j,ac+1,0))
   else if ac+1 >= mg then pure (.done (none,o.push e,i+1,j,ac+1,0)) else pure (.yield (none,o.push e,i+1,j,ac+1,0))
 |_=>pure (.done (some (o++x.extract i x.size++y.extract j y.size),o,i,j,ac,bc))
noncomputable def round(x y:Array Keyed)(c:Option (Array Keyed)×Array Keyed×Nat×Nat×Nat):StateT SortSt Sem (ForInStep (Option (Array Keyed)×Array Keyed×Nat×Nat×Nat)):=do
 let d <- forIn [:x.size+y.size] ((none,c.snd.fst,c.snd.snd.fst,c.snd.snd.snd.fst,0,0):C1) λ_ d=>gM x y d.snd.fst d.snd.snd.fst d.snd.snd.snd.fst c.snd.snd.snd.snd d.snd.snd.snd.snd.fst d.snd.snd.snd.snd.snd
 match d.fst with
 |some r=>pure (.done (some r,d.snd.fst,d.snd.snd.fst,d.snd.snd.snd.fst,c.snd.snd.snd.snd))
 |none=>do
  liftM (rule "list.sort.gallop")
  let g <- forIn [:x.size+y.size] ((none,d.snd.fst,d.snd.snd.fst,d.snd.snd.snd.fst,c.snd.snd.snd.snd+1,d.snd.snd.snd.snd.fst,d.snd.snd.snd.snd.snd):C2) λ_ g=>
   if g.snd.snd.snd.snd.fst > 1 then lo1 x y g.snd.fst g.snd.snd.fst g.snd.snd.snd.fst (g.snd.snd.snd.snd.fst-1) g.snd.snd.snd.snd.snd.fst g.snd.snd.snd.snd.snd.snd
   else lo1 x y g.snd.fst g.snd.snd.fst g.snd.snd.snd.fst g.snd.snd.snd.snd.fst g.snd.snd.snd.snd.snd.fst g.snd.snd.snd.snd.snd.snd
  match g.fst with
  |some r=>pure (.done (some r,g.snd.fst,g.snd.snd.fst,g.snd.snd.snd.fst,g.snd.snd.snd.snd.fst))
  |none=>do
   mF (g.snd.snd.snd.snd.fst+1)
   pure (.yield (none,g.snd.fst,g.snd.snd.fst,g.snd.snd.snd.fst,g.snd.snd.snd.snd.fst+1))
noncomputable def lows(x y o:Array Keyed)(g:Nat):StateT SortSt Sem (Array Keyed):=do
 let c <- forIn [:x.size+y.size] ((none,o,0,1,g):Option (Array Keyed)×Array Keyed×Nat×Nat×Nat) λ_ c=>round x y c
 match c.fst with
 |some r=>pure r
 |none=>liftM (unsupported "internal:list.sort.merge-bound":Sem (Array Keyed))
theorem UI(x y:Array Keyed):xU x y=(do
 liftM (rule "list.sort.merge-lo")
 let q <- elem' y 0
 if(1==y.size)=true then pure (#[q]++x.extract 0 x.size++y.extract 1 y.size)
 else if(0+1==x.size)=true then pure (#[q]++y.extract 1 y.size++x.extract 0 x.size)
 else do
  let g <- get
  lows x y #[q] (gallopOf g)):=by
 rw[aai];dsimp only
 congr 1
 funext _
 congr 1
 funext q
 refine ite_congr rfl (λ_=>rfl) λ_=>ite_congr rfl (λ_=>rfl) λ_=>?_
 ··congr 1
   funext g
   unfold lows
   congr 1
   .congr 1
    funext _ c
    unfold round
    congr 1
    funext d
    obtain⟨r,d⟩:=d;cases r with
    |some r=>rfl
    |none=>
     dsimp only
     congr 1
     funext _
     congr 1
     funext g
     obtain⟨r,d⟩:=g;cases r<;>rfl
   .funext c
    obtain⟨r,c⟩:=c;cases r<;>rfl
end
theorem KQ(x:Array Keyed)(i:Nat):(x.extract i x.size).toList=x.toList.drop i:=by
 rw[afh,List.extract_eq_drop_take];exact aer (by simp)
theorem acJ(x:Array Keyed)(i k:Nat):(x.extract i (i+k)).toList=(x.toList.drop i).take k:=by
 rw[afh,List.extract_eq_drop_take]
 congr 1
 omega
theorem AS(o x y:Array Keyed)(i j:Nat):(o++x.extract i x.size++y.extract j y.size).toList=o.toList++x.toList.drop i++y.toList.drop j:=by
 rw[aeG,aeG,KQ,KQ]
theorem ML(o x:Array Keyed)(i k:Nat):(o++x.extract i (i+k)).toList=o.toList++(x.toList.drop i).take k:=by rw[aeG,acJ]
theorem getL{x:Array Keyed}{i:Nat}:x.toList[i]? = x[i]? :=by simp
structure Cm(x y:Array Keyed):Prop where
 ux:Up x.toList
 uy:Up y.toList
 ix:∀q∈x.toList,h_ q
 iy:∀q∈y.toList,h_ q
 la:∀i q f,i+1=x.size->x[i]? = some q->f∈y.toList->ky f<=ky q
noncomputable abbrev MA(x y o:Array Keyed)(i j:Nat):Prop:=MI x.toList y.toList o.toList i j
noncomputable abbrev GA(x y o:Array Keyed):Prop:=Good x.toList y.toList o.toList
section
variable{x y o:Array Keyed}{i j k:Nat}{q:Keyed}
theorem mh(h:x[i]? = some q):q∈x.toList:=by
 obtain⟨h,rfl⟩:=ad8.mp h;simp
theorem there(x:Array Keyed)(h:i<x.size):∃q,x[i]? = some q:=⟨x[i],ad8.mpr ⟨h,rfl⟩⟩
theorem MI.pushX(M:MA x y o i j)(C:Cm x y)(e:x[i]? = some q)(c:∀f∈y.toList.drop j,ky q<=ky f):MA x y (o.push q) (i+1) j:=by
 have el:x.toList[i]? = some q:=by rw[getL];exact e
 have h:=(ad8.mp e).1;have w:=M.qH C.ux (k:=1) (by rw[acg];omega) λa ha f hf=>by rw[Ig el ha];exact c f hf
 rw[take_one el] at w;show MI _ _ (o.push q).toList _ _;rw[aeF];exact w
theorem MI.qQ(M:MA x y o i j)(C:Cm x y)(e:y[j]? = some q)(c:∀f∈x.toList.drop i,ky q<=ky f):MA x y (o.push q) i (j+1):=by
 have el:y.toList[j]? = some q:=by rw[getL];exact e
 have h:=(ad8.mp e).1;have w:=M.vN C.uy (k:=1) (by rw[acg];omega) λa ha f hf=>by rw[Ig el ha];exact c f hf
 rw[take_one el] at w;show MI _ _ (o.push q).toList _ _;rw[aeF];exact w
theorem Mf{l:List Keyed}(h:l.length<=n):l.drop n=[]:=List.drop_eq_nil_iff.mpr h
theorem MI.yF(M:MA x y o i j)(C:Cm x y)(h:j=y.size):GA x y (o++x.extract i x.size++y.extract j y.size):=by
 show Good _ _ _;rw[AS];refine M.good C.ux C.uy λe _ f hf=>?_
 rw[Mf (by rw[acg];omega)] at hf;cases hf
theorem MI.aaR(M:MA x y o i j)(C:Cm x y)(h:i=x.size):GA x y (o++x.extract i x.size++y.extract j y.size):=by
 show Good _ _ _;rw[AS];refine M.good C.ux C.uy λe he f _=>?_
 rw[Mf (by rw[acg];omega)] at he;cases he
theorem MI.zc(M:MA x y o i j)(C:Cm x y)(h:i+1=x.size):GA x y (o++y.extract j y.size++x.extract i x.size):=by
 show Good _ _ _;rw[AS];refine M.Hi C.ux C.uy λe he f hf=>?_
 obtain⟨q,eq⟩:=there x (i:=i) (by omega);have el:x.toList[i]? = some q:=by rw[getL];exact eq
 have:=take_one el;rw[aer (by rw[List.length_drop,acg];omega)] at this;rw[this] at hf;rw[aa8.mp hf];exact C.la i q e h eq (List.mem_of_mem_drop he)
theorem Up.Gc{l:List Keyed}(u:Up l){p q:Keyed}(lZ:i<=j)(e1:l[i]? = some p)(e2:l[j]? = some q):ky p<=ky q:=by
 refine qB u e1 ?_;obtain⟨h2,rfl⟩:=acY.mp e2;exact List.mem_drop_iff_getElem.mpr ⟨j-i,by omega,by congr 1;omega⟩
theorem Ad(u:Up x.toList)(ix:∀q∈x.toList,h_ q)(h:b+n<=x.size):Sub x b n (λt=>K x (b+t)):=by
 have kq:∀{i:Nat}{q:Keyed},x[i]? = some q->K x i=ky q:=λ{i q} e=>by unfold K;rw[e];rfl
 refine⟨λt ht=>?_,λs t ig ht=>?_⟩
 .obtain⟨q,e⟩:=there x (i:=b+t) (by omega);exact⟨q,e,ix q (mh e),(kq e).symm⟩
 .obtain⟨q,e⟩:=there x (i:=b+t) (by omega);obtain⟨r,e'⟩:=there x (i:=b+s) (by omega);rw[kq e,kq e'];exact u.Gc (i:=b+s) (j:=b+t) (by omega) (by rw[getL];exact e') (by rw[getL];exact e)
theorem gc{q:Keyed}(e:x[i]? = some q):K x i=ky q:=by unfold K;rw[e];rfl
theorem Fi(h:bH false v u=true):u<=v:=by unfold bH at h;simp at h;omega
theorem DN(h:bH false v u=false):v<u:=by unfold bH at h;simp at h;omega
theorem HC(h:bH true v u=true):u<v:=by unfold bH at h;simp at h;omega
theorem Fj(h:bH true v u=false):v<=u:=by unfold bH at h;simp at h;omega
theorem MI.E6{e:Keyed}(M:MA x y o i j)(C:Cm x y)(hk:i+k<=x.size)(ey:y[j]? = some e)(c:∀t,t<k->bH false (ky e) (K x (i+t))=true):MA x y (o++x.extract i (i+k)) (i+k) j:=by
 show MI _ _ _ _ _;rw[ML];refine M.qH C.ux (by rw[acg];exact hk) λa ha f hf=>?_
 obtain⟨t,ht,et⟩:=OP ha;rw[getL] at et;have h1:=Fi (c t ht);rw[gc et] at h1;exact adN h1 (qB C.uy (by rw[getL];exact ey) hf)
theorem MI.CI{e:Keyed}(M:MA x y o i j)(C:Cm x y)(hk:j+k<=y.size)(ex:x[i]? = some e)(c:∀t,t<k->bH true (ky e) (K y (j+t))=true):MA x y (o++y.extract j (j+k)) i (j+k):=by
 show MI _ _ _ _ _;rw[ML];refine M.vN C.uy (by rw[acg];exact hk) λa ha f hf=>?_
 obtain⟨t,ht,et⟩:=OP ha;rw[getL] at et;have h1:=HC (c t ht);rw[gc et] at h1;exact adN (aew h1) (qB C.ux (by rw[getL];exact ex) hf)
end
section
variable{x y o:Array Keyed}{st:SortSt}{prog:Program}{w:World}{A:Around}{E:Value->Shared->Prop}{s:Shared}{i j mg k k1 ac bc N:Nat}
def Ft(x y:Array Keyed)(N:Nat)(r:Option (Array Keyed))(o:Array Keyed)(i j:Nat):Prop:=(∃z,r=some z/\GA x y z)\/(r=none/\MA x y o i j/\i+1<x.size/\j<y.size/\N<=o.size)
def F2(x y:Array Keyed)(N:Nat)(c:C2):Prop:=Ft x y N c.1 c.2.1 c.2.2.1 c.2.2.2.1
def P2(x y:Array Keyed)(N:Nat)(st:SortSt)(r:ForInStep C2)(ak:SortSt):Prop:=Sm st ak/\match r with
 |.done c=>F2 x y N c
 |.yield c=>c.1=none/\F2 x y N c
theorem Ke(C:Cm x y)(M:MA x y o i j)(hi:i+1<x.size)(hj:j<y.size)(c:∀e f,x[i]? = some e->f∈y.toList.drop j->ky e<=ky f)(hN:N<=o.size):
  wpS (model prog w) A E s (yH x y o i j mg k k1) (P2 x y N st) st:=by
 unfold yH;obtain⟨e,ee⟩:=there x (i:=i) (by omega);refine acE (fZ ee ?_);have M1:=M.pushX C ee λf hf=>c e f ee hf
 have sz:N<=(o.push e).size:=by rw[aeH];omega
 by_cases h:i+1+1=x.size
 .rw[if_pos (by simpa using h)];exact ac0 ⟨.refl _,.inl ⟨_,rfl,M1.zc C h⟩⟩
 .rw[if_neg (by simpa using h)]
  split
  .exact ac0 ⟨.refl _,.inr ⟨rfl,M1,by show i+1+1<_;omega,hj,sz⟩⟩
  .exact ac0 ⟨.refl _,rfl,.inr ⟨rfl,M1,by show i+1+1<_;omega,hj,sz⟩⟩
theorem Lj(C:Cm x y)(hk:kindOf st=oneType')(M:MA x y o i j)(hi:i+1<x.size)(hj:j<y.size)(c:∀q f,y[j]? = some q->f∈x.toList.drop i->ky q<=ky f)(hN:N<=o.size+1):
  wpS (model prog w) A E s (yt x y o i j mg k bc) (P2 x y N st) st:=by
 unfold yt;obtain⟨q,eq⟩:=there y hj;refine acE (fZ eq ?_);have M1:=M.qQ C eq λf hf=>c q f eq hf
 have sz:N<=(o.push q).size:=by rw[aeH];omega
 by_cases h:j+1=y.size
 .rw[if_pos (by simpa using h)];exact ac0 ⟨.refl _,.inl ⟨_,rfl,M1.yF C h⟩⟩
 .rw[if_neg (by simpa using h)];obtain⟨e,ee⟩:=there x (i:=i) (by omega);refine acE (fZ ee ?_);refine acE (r9 hk (Ad C.uy C.iy (by omega)) (C.ix e (mh ee)) (by omega) λm g1 g2 g3=>?_);dsimp only;have M2:=M1.CI C (by omega) ee g2;have rest:j+1+m≠y.size->∀e' f,x[i]? = some e'->f∈y.toList.drop (j+1+m)->ky e'<=ky f:=by
   intro ne e' f h1 h2;rw[ee] at h1;cases h1;obtain⟨r,er⟩:=there y (i:=j+1+m) (by omega);have g:=Fj (g3 m (abW _) (by omega));rw[gc er] at g;exact adN g (qB C.uy (by rw[getL];exact er) h2)
  by_cases m0:m > 0
  .rw[if_pos m0]
   by_cases h2:j+1+m=y.size
   .rw[if_pos (by simpa using h2)];exact ac0 ⟨.refl _,.inl ⟨_,rfl,M2.yF C h2⟩⟩
   .rw[if_neg (by simpa using h2)];exact Ke C M2 hi (by omega) (rest h2) (by rw[aft];omega)
  .rw[if_neg m0];obtain rfl:m=0:=by omega
   exact Ke C M1 hi (by omega) (rest (by omega)) sz
theorem P2.of{ak:SortSt}{r:ForInStep C2}{tS:SortSt}(a:Sm st ak)(h:P2 x y N ak r tS):P2 x y N st r tS:=⟨a.trans h.1,h.2⟩
theorem Zm(C:Cm x y)(hk:kindOf st=oneType')(M:MA x y o i j)(hi:i+1<x.size)(hj:j<y.size)(hN:N<=o.size+1):wpS (model prog w) A E s (lo1 x y o i j mg ac bc) (P2 x y N st) st:=by
 unfold lo1;refine acE (yE λak sm=>?_);have jX:=sm.1.trans hk;obtain⟨q,eq⟩:=there y hj;refine acE (fZ eq ?_);refine acE (r9 jX (Ad C.ux C.ix (by omega)) (C.iy q (mh eq)) (by omega) λm g1 g2 g3=>?_);dsimp only;have M2:=M.E6 C (by omega) eq g2;have rest:i+m≠x.size->∀q' f,y[j]? = some q'->f∈x.toList.drop (i+m)->ky q'<=ky f:=by
  intro ne q' f h1 h2;rw[eq] at h1;cases h1;obtain⟨r,er⟩:=there x (i:=i+m) (by omega);have g:=DN (g3 m (abW _) (by omega));rw[gc er] at g;exact adN (aew g) (qB C.ux (by rw[getL];exact er) h2)
 by_cases m0:m > 0
 .rw[if_pos m0]
  by_cases h1:i+m+1=x.size
  .rw[if_pos (by simpa using h1)];exact ac0 ⟨sm,.inl ⟨_,rfl,M2.zc C h1⟩⟩
  .rw[if_neg (by simpa using h1)]
   by_cases h2:i+m=x.size
   .rw[if_pos (by simpa using h2)];exact ac0 ⟨sm,.inl ⟨_,rfl,M2.aaR C h2⟩⟩
   .rw[if_neg (by simpa using h2)];exact ad6 (Lj C jX M2 (by omega) hj (rest h2) (by rw[aft];omega)) λ_ _ z=>P2.of sm z
 .rw[if_neg m0];obtain rfl:m=0:=by omega
  exact ad6 (Lj C jX M hi hj (rest (by omega)) hN) λ_ _ z=>P2.of sm z
def F1(x y:Array Keyed)(N:Nat)(c:C1):Prop:=Ft x y N c.1 c.2.1 c.2.2.1 c.2.2.2.1
theorem YQ(C:Cm x y)(hk:kindOf st=oneType')(M:MA x y o i j)(hi:i+1<x.size)(hj:j<y.size)(hN:N<=o.size):
  wpS (model prog w) A E s (gM x y o i j mg ac bc) (λr ak=>ak=st/\match r with
   |.done c=>F1 x y N c
   |.yield c=>c.1=none/\F1 x y N c) st:=by
 unfold gM;obtain⟨q,eq⟩:=there y hj;obtain⟨e,ee⟩:=there x (i:=i) (by omega);refine acE (fZ eq (acE (fZ ee (acE (Af hk (C.iy q (mh eq)) (C.ix e (mh ee)) ?_)))));dsimp only
 by_cases g:ky q<ky e
 .rw[if_pos (ab5 g)];refine acE (fZ eq ?_);have M1:=M.qQ C eq λf hf=>adN (aew g) (qB C.ux (by rw[getL];exact ee) hf)
  have sz:N<=(o.push q).size:=by rw[aeH];omega
  by_cases h:j+1=y.size
  .rw[if_pos (by simpa using h)];exact ac0 ⟨rfl,.inl ⟨_,rfl,M1.yF C h⟩⟩
  .rw[if_neg (by simpa using h)]
   split
   .exact ac0 ⟨rfl,.inr ⟨rfl,M1,hi,by show j+1<_;omega,sz⟩⟩
   .exact ac0 ⟨rfl,rfl,.inr ⟨rfl,M1,hi,by show j+1<_;omega,sz⟩⟩
 .rw[if_neg (by simpa using g)];refine acE (fZ ee ?_);have M1:=M.pushX C ee λf hf=>adN (Int.not_lt.mp g) (qB C.uy (by rw[getL];exact eq) hf)
  have sz:N<=(o.push e).size:=by rw[aeH];omega
  by_cases h:i+1+1=x.size
  .rw[if_pos (by simpa using h)];exact ac0 ⟨rfl,.inl ⟨_,rfl,M1.zc C h⟩⟩
  .rw[if_neg (by simpa using h)]
   split
   .exact ac0 ⟨rfl,.inr ⟨rfl,M1,by show i+1+1<_;omega,hj,sz⟩⟩
   .exact ac0 ⟨rfl,rfl,.inr ⟨rfl,M1,by show i+1+1<_;omega,hj,sz⟩⟩
noncomputable abbrev C0:=Option (Array Keyed)×Array Keyed×Nat×Nat×Nat
def F0(x y:Array Keyed)(N:Nat)(c:C0):Prop:=Ft x y N c.1 c.2.1 c.2.2.1 c.2.2.2.1
theorem Ye(C:Cm x y)(hk:kindOf st=oneType')(M:MA x y o i j)(hi:i+1<x.size)(hj:j<y.size)(hN:N<=o.size):
  wpS (model prog w) A E s (round x y (none,o,i,j,mg)) (λr ak=>Sm st ak/\match r with
   |.done c=>∃z,c.1=some z/\GA x y z
   |.yield c=>c.1=none/\F0 x y (N+1) c) st:=by
 unfold round;refine acE (ad6 (ad3 (I:=λ_ c ak=>ak=st/\c.1=none/\F1 x y N c) (Q:=λc ak=>ak=st/\F1 x y N c) ?s1 (λc ak z=>⟨z.1,z.2.2⟩) ⟨rfl,rfl,.inr ⟨rfl,M,hi,hj,hN⟩⟩) ?p1)
 case s1=>
  rintro _ ⟨r,o,i,j,ac,bc⟩ ak _ _ ⟨rfl,rfl,f⟩
  rcases f with⟨z,h,_⟩|⟨_,g1,g2,g3,g4⟩
  .cases h
  .refine ad6 (YQ C hk g1 g2 g3 g4) λr aU z=>?_
   obtain⟨rfl,z⟩:=z;cases r with
   |done c=>exact⟨rfl,z⟩
   |yield c=>exact⟨rfl,z⟩
 case p1=>
  rintro⟨r,o,i,j,ac,bc⟩ ak ⟨rfl,f⟩
  rcases f with⟨z,h,g⟩|⟨h,g1,g2,g3,g4⟩
  .have h:=h;subst h;exact ac0 ⟨.refl _,z,rfl,g⟩
  .have h:=h;subst h;dsimp only;refine acE (wpS_lift (aee ⟨rfl,?_⟩));refine acE (ad6 (ad3 (I:=λn c aU=>Sm ak aU/\c.1=none/\F2 x y (if n=0 then N else N+1) c) (Q:=λc aU=>Sm ak aU/\F2 x y (N+1) c) ?s2 ?f2 ⟨.refl _,rfl,.inr ⟨rfl,g1,g2,g3,by rw[if_pos rfl];exact g4⟩⟩) ?p2)
   case f2=>
    rintro c aU ⟨z1,z2,z3⟩
    have hz:max 0 (x.size+y.size)≠0:=by omega
    rw[if_neg hz] at z3;exact⟨z1,z3⟩
   case s2=>
    rintro n ⟨r,o,i,j,mg,ac,bc⟩ aU _ _ ⟨sm,rfl,f⟩
    rcases f with⟨z,h,_⟩|⟨_,g1,g2,g3,g4⟩
    .cases h
    .have g4:(if n=0 then N else N+1)<=o.size:=g4;have g5:N+1<=o.size+1:=by split at g4<;>omega
     have step:∀vt,wpS (model prog w) A E s (lo1 x y o i j vt ac bc) (λr dY=>match r with
       |.done c=>Sm ak dY/\F2 x y (N+1) c
       |.yield c=>Sm ak dY/\c.1=none/\F2 x y (if n+1=0 then N else N+1) c) aU:=λvt=>by
      refine ad6 (Zm C (sm.1.trans hk) g1 g2 g3 g5) λr dY z=>?_
      rw[if_neg (by omega)];cases r with
      |done c=>exact⟨sm.trans z.1,z.2⟩
      |yield c=>exact⟨sm.trans z.1,z.2⟩
     dsimp only
     split
     .exact ad6 (step _) λr dY z=>by cases r<;>exact z
     .exact ad6 (step _) λr dY z=>by cases r<;>exact z
   case p2=>
    rintro⟨r,o,i,j,mg,ac,bc⟩ aU ⟨sm,f⟩
    rcases f with⟨z,h,g⟩|⟨h,g1,g2,g3,g4⟩
    .have h:=h;subst h;exact ac0 ⟨sm,z,rfl,g⟩
    .have h:=h;subst h;dsimp only;exact acE (yE λdY s3=>ac0 ⟨sm.trans s3,rfl,.inr ⟨rfl,g1,g2,g3,g4⟩⟩)
theorem Yr{Q:Array Keyed->SortSt->Prop}(C:Cm x y)(hk:kindOf st=oneType')(hx:0<x.size)(hy:0<y.size)(c:∀q e,y[0]? = some q->e∈x.toList->ky q<=ky e)
  (h:∀z ak,Sm st ak->GA x y z->Q z ak):wpS (model prog w) A E s (xU x y) Q st:=by
 rw[UI];refine acE (wpS_lift (aee ⟨rfl,?_⟩));obtain⟨q,eq⟩:=there y hy;refine acE (fZ eq ?_);have M0:MA x y #[] 0 0:=⟨aed _,aed _,by simp,.nil,by simp,by simp⟩
 have M1:=M0.qQ C eq λf hf=>c q f eq (by simpa using hf)
 by_cases h1:1=y.size
 .rw[if_pos (by simpa using h1)];exact ac0 (h _ st (.refl _) (M1.yF C h1))
 .rw[if_neg (by simpa using h1)]
  by_cases h2:0+1=x.size
  .rw[if_pos (by simpa using h2)];exact ac0 (h _ st (.refl _) (M1.zc C h2))
  .rw[if_neg (by simpa using h2)];refine acE (wpS_get ?_);unfold lows;refine acE (ad6 (ad3 (I:=λn c ak=>Sm st ak/\c.1=none/\F0 x y (n+1) c) (Q:=λc ak=>Sm st ak/\∃z,c.1=some z/\GA x y z) ?s ?f ⟨.refl _,rfl,.inr ⟨rfl,M1,by show 0+1<_;omega,by show 1<_;omega,abW 1⟩⟩) ?p)
   case s=>
    rintro n ⟨r,o,i,j,mg⟩ aU _ _ ⟨sm,rfl,f⟩
    rcases f with⟨z,h,_⟩|⟨_,g1,g2,g3,g4⟩
    .cases h
    .refine ad6 (Ye C (sm.1.trans hk) g1 g2 g3 g4) λr dY z=>?_
     cases r with
     |done c=>exact⟨sm.trans z.1,z.2⟩
     |yield c=>exact⟨sm.trans z.1,z.2⟩
   case f=>
    rintro⟨r,o,i,j,mg⟩ aU ⟨sm,rfl,f⟩
    exfalso
    rcases f with⟨z,h,_⟩|⟨_,g1,g2,g3,g4⟩
    .cases h
    .have g:=MI.len g1;simp only[acg] at g;have g4:max 0 (x.size+y.size)+1<=o.size:=g4;omega
   case p=>
    rintro⟨r,c⟩ aU ⟨sm,z,hz,g⟩
    have hz:=hz;subst hz;exact ac0 (h z aU sm g)
end
structure MH(x y o:List Keyed)(i j:Nat):Prop where
 hi:i<=x.length
 hj:j<=y.length
 pm:(x.take i++y.take j++o.reverse).Perm (x++y)
 so:Up o.reverse
 ox:∀e∈x.take i,∀f∈o,ky e<=ky f
 oy:∀e∈y.take j,∀f∈o,ky e<=ky f
section
variable{x y o:List Keyed}{i j a:Nat}
theorem MH.swap(M:MH x y o i j):MH y x o j i:=
 ⟨M.hj,M.hi,((aex).append_right _).trans (M.pm.trans aex),M.so,M.oy,M.ox⟩
theorem MH.len(M:MH x y o i j):i+j+o.length=x.length+y.length:=by
 have h:=M.pm.length_eq;have h1:=M.hi;have h2:=M.hj;simp at h;omega
theorem MH.qH(M:MH x y o i j)(ux:Up x)(ha:a<=i)(c:∀e∈y.take j,∀f∈(x.take i).drop a,ky e<=ky f):MH x y (o++((x.take i).drop a).reverse) a j:=by
 have tt:x.take i=x.take a++(x.take i).drop a:=by
  have:=(aeg a (x.take i)).symm
  rwa [List.take_take,aeI ha] at this
 have ud:Up (x.take a++(x.take i).drop a):=by rw[<- tt];exact ux.sublist (afa _ _)
 obtain⟨u1,u2,u3⟩:=adZ.mp ud;have hl:=M.hi;refine⟨by omega,M.hj,?_,?_,?_,?_⟩
 .rw[List.reverse_append,List.reverse_reverse];have h:=M.pm;rw[tt] at h;refine List.Perm.trans ?_ h;rw[adJ,adJ,adJ];refine List.Perm.append_left _ ?_;rw[<- adJ,<- adJ];exact aex.append_right _
 .rw[List.reverse_append,List.reverse_reverse];exact adZ.mpr ⟨u2,M.so,λe he f hf=>M.ox e (List.mem_of_mem_drop he) f (afj.mp hf)⟩
 .intro e he f hf;rcases acW.mp hf with hf|hf
  .exact M.ox e (by rw[tt];exact ac7 _ he) f hf
  .exact u3 e he f (afj.mp hf)
 .intro e he f hf;rcases acW.mp hf with hf|hf
  .exact M.oy e he f hf
  .exact c e he f (afj.mp hf)
theorem MH.vN(M:MH x y o i j)(uy:Up y)(ha:a<=j)(c:∀e∈x.take i,∀f∈(y.take j).drop a,ky e<=ky f):MH x y (o++((y.take j).drop a).reverse) i a:=(M.swap.qH uy ha c).swap
theorem MH.good(M:MH x y o i j)(ux:Up x)(uy:Up y)(c:∀e∈x.take i,∀f∈y.take j,ky e<=ky f):Good x y (x.take i++y.take j++o.reverse):=by
 refine⟨M.pm,adZ.mpr ⟨adZ.mpr ⟨ux.sublist (afa _ _),uy.sublist (afa _ _),c⟩,M.so,λe he f hf=>?_⟩⟩;rcases acW.mp he with he|he
 .exact M.ox e he f (afj.mp hf)
 .exact M.oy e he f (afj.mp hf)
theorem MH.Hi(M:MH x y o i j)(ux:Up x)(uy:Up y)(c:∀e∈y.take j,∀f∈x.take i,ky e<=ky f):Good x y (y.take j++x.take i++o.reverse):=(M.swap.good uy ux c).swap
end
noncomputable def AB:Array Keyed->Array Keyed->StateT SortSt Sem (Array Keyed):=sortPriv% PySem.Builtin.mergeHi
theorem Ph(x y:Array Keyed):AB x y=(do
 rule "list.sort.merge-hi"
 let tot:=x.size+y.size
 let fi (o:Array Keyed) (i j:Nat):=x.extract 0 i++y.extract 0 j++o.reverse
 let fb (o:Array Keyed) (i j:Nat):=y.extract 0 j++x.extract 0 i++o.reverse
 let mut i:=x.size-1
 let mut j:=y.size
 let mut o:Array Keyed:=#[<- elem' x i]
 if i==0 then return fi o i j
 if j==1 then return fb o i j
 let mut mg:=gallopOf (<- get)
 for _ in [0:tot] do
  let mut ac:=0
  let mut bc:=0
  for _ in [0:tot] do
   let some aw <- lt' (<- elem' y (j-1)) (<- elem' x (i-1))|return fi o i j
   if aw then
    i:=i-1;o:=o.push (<- elem' x i);ac:=ac+1;bc:=0
    if i==0 then return fi o i j
    if ac >= mg then break
   else
    j:=j-1;o:=o.push (<- elem' y j);bc:=bc+1;ac:=0
    if j==1 then return fb o i j
    if bc >= mg then break
  rule "list.sort.gallop"
  mg:=mg+1
  for _ in [0:tot] do
   if mg > 1 then mg:=mg-1
   mF mg
   let some a <- j6 false (<- elem' y (j-1)) x 0 i (i-1)|return fi o i j
   let k:=i-a
   ac:=k
   if k > 0 then
    o:=o++(x.extract a i).reverse;i:=a
    if i==0 then return fi o i j
   j:=j-1;o:=o.push (<- elem' y j)
   if j==1 then return fb o i j
   let some a <- j6 true (<- elem' x (i-1)) y 0 j (j-1)|return fi o i j
   let k:=j-a
   bc:=k
   if k > 0 then
    o:=o++(y.extract a j).reverse;j:=a
    if j==1 then return fb o i j
    if j==0 then return fi o i j
   i:=i-1;o:=o.push (<- elem' x i)
   if i==0 then return fi o i j
   if ac<7&&bc<7 then break
  mg:=mg+1
  mF mg
 unsupported "internal:list.sort.merge-bound"):=rfl
noncomputable abbrev H2:=Option (Array Keyed)×Nat×Nat×Array Keyed×Nat×Nat×Nat
noncomputable def zf(x y o:Array Keyed)(i j mg ac bc:Nat):StateT SortSt Sem (ForInStep H2):=do
 let e <- elem' x (i-1)
 if(i-1==0)=true then pure (.done (some (x.extract 0 (i-1)++y.extract 0 j++(o.push e).reverse),i-1,j,o.push e,mg,ac,bc))
 else if(decide (ac<7)&&decide (bc<7))=true then pure (.done (none,i-1,j,o.push e,mg,ac,bc)) else pure (.yield (none,i-1,j,o.push e,mg,ac,bc))
noncomputable def zB(x y o:Array Keyed)(i j mg ac bc:Nat):StateT SortSt Sem (ForInStep H2):=do
 let q <- elem' y (j-1)
 if(j-1==1)=true then pure (.done (some (y.extract 0 (j-1)++x.extract 0 i++(o.push q).reverse),i,j-1,o.push q,mg,ac,bc))
 else do
  let e <- elem' x (i-1)
  let r <- j6 true e y 0 (j-1) (j-1-1)
  match r with
  |some a=>
   if j-1-a > 0 then
    if(a==1)=true then pure (.done (some (y.extract 0 a++x.extract 0 i++(o.push q++(y.extract a (j-1)).reverse).reverse),i,a,o.push q++(y.extract a (j-1)).reverse,mg,ac,j-1-a))
    else if(a==0)=true then pure (.done (some (x.extract 0 i++y.extract 0 a++(o.push q++(y.extract a (j-1)).reverse).reverse),i,a,o.push q++(y.extract a (j-1)).reverse,mg,ac,j-1-a))
    else zf x y (o.push q++(y.extract a (j-1)).reverse) i a mg ac (j-1-a)
   else zf x y (o.push q) i (j-1) mg ac (j-1-a)
  |_=>pure (.done (some (x.extract 0 i++y.extract 0 (j-1)++(o.push q).reverse),i,j-1,o.push q,mg,ac,bc))
noncomputable def vO(x y o:Array Keyed)(i j mg ac bc:Nat):StateT SortSt Sem (ForInStep H2):=do
 mF mg
 let q <- elem' y (j-1)
 let r <- j6 false q x 0 i (i-1)
 match r with
 |some a=>
  if i-a > 0 then
   if(a==0)=true then pure (.done (some (x.extract 0 a++y.extract 0 j++(o++(x.extract a i).reverse).reverse),a,j,o++(x.extract a i).reverse,mg,i-a,bc))
   else zB x y (o++(x.extract a i).reverse) a j mg (i-a) bc
  else zB x y o i j mg (i-a) bc
 |_=>pure (.done (some (x.extract 0 i++y.extract 0 j++o.reverse),i,j,o,mg,ac,bc))
noncomputable abbrev H1:=Option (Array Keyed)×Nat×Nat×Array Keyed×Nat×Nat
noncomputable def EJ(x y o:Array Keyed)(i j mg ac bc:Nat):StateT SortSt Sem (ForInStep H1):=do
 let q <- elem' y (j-1)
 let e <- elem' x (i-1)
 let r <- lt' q e
 match r with
 |some aw=>
  if aw=true then do
   let e <- elem' x (i-1)
   if(i-1==0)=true then pure (.done (some (x.extract 0 (i-1)++y.extract 0 j++(o.push e).reverse),i-1,j,o.push e,ac+1,0))
   else if ac+1 >= mg then pure (.done (none,i-1,j,o.push e,ac+1,0)) else pure (.yield (none,i-1,j,o.push e,ac+1,0))
  else do
   let q <- elem' y (j-1)
   if(j-1==1)=true then pure (.done (some (y.extract 0 (j-1)++x.extract 0 i++(o.push q).reverse),i,j-1,o.push q,0,bc+1))
   else if bc+1 >= mg then pure (.done (none,i,j-1,o.push q,0,bc+1)) else pure (.yield (none,i,j-1,o.push q,0,bc+1))
 |_=>pure (.done (some (x.extract 0 i++y.extract 0 j++o.reverse),i,j,o,ac,bc))
noncomputable abbrev H0:=Option (Array Keyed)×Nat×Nat×Array Keyed×Nat
noncomputable def zA(x y:Array Keyed)(c:H0):StateT SortSt Sem (ForInStep H0):=do
 let d <- forIn [:x.size+y.size] ((none,c.snd.fst,c.snd.snd.fst,c.snd.snd.snd.fst,0,0):H1) λ_ d=>EJ x y d.snd.snd.snd.fst d.snd.fst d.snd.snd.fst c.snd.snd.snd.snd d.snd.snd.snd.snd.fst d.snd.snd.snd.snd.snd
 match d.fst with
 |some r=>pure (.done (some r,d.snd.fst,d.snd.snd.fst,d.snd.snd.snd.fst,c.snd.snd.snd.snd))
 |none=>do
  liftM (rule "list.sort.gallop")
  let g <- forIn [:x.size+y.size] ((none,d.snd.fst,d.snd.snd.fst,d.snd.snd.snd.fst,c.snd.snd.snd.snd+1,d.snd.snd.snd.snd.fst,d.snd.snd.snd.snd.snd):H2) λ_ g=>
   if g.snd.snd.snd.snd.fst > 1 then vO x y g.snd.snd.snd.fst g.snd.fst g.snd.snd.fst (g.snd.snd.snd.snd.fst-1) g.snd.snd.snd.snd.snd.fst g.snd.snd.snd.snd.snd.snd
   else vO x y g.snd.snd.snd.fst g.snd.fst g.snd.snd.fst g.snd.snd.snd.snd.fst g.snd.snd.snd.snd.snd.fst g.snd.snd.snd.snd.snd.snd
  match g.fst with
  |some r=>pure (.done (some r,g.snd.fst,g.snd.snd.fst,g.snd.snd.snd.fst,g.snd.snd.snd.snd.fst))
  |none=>do
   mF (g.snd.snd.snd.snd.fst+1)
   pure (.yield (none,g.snd.fst,g.snd.snd.fst,g.snd.snd.snd.fst,g.snd.snd.snd.snd.fst+1))
noncomputable def highs(x y o:Array Keyed)(g:Nat):StateT SortSt Sem (Array Keyed):=do
 let c <- forIn [:x.size+y.size] ((none,x.size-1,y.size,o,g):H0) λ_ c=>zA x y c
 match c.fst with
 |some r=>pure r
 |none=>liftM (unsupported "internal:list.sort.merge-bound":Sem (Array Keyed))
theorem aa9(x y:Array Keyed):AB x y=(do
 liftM (rule "list.sort.merge-hi")
 let q <- elem' x (x.size-1)
 if(x.size-1==0)=true then pure (x.extract 0 (x.size-1)++y.extract 0 y.size++#[q].reverse)
 else if(y.size==1)=true then pure (y.extract 0 y.size++x.extract 0 (x.size-1)++#[q].reverse)
 else do
  let g <- get
  highs x y #[q] (gallopOf g)):=by
 rw[Ph];dsimp only
 congr 1
 funext _
 congr 1
 funext q
 refine ite_congr rfl (λ_=>rfl) λ_=>ite_congr rfl (λ_=>rfl) λ_=>?_
 congr 1
 funext g
 unfold highs
 congr 1
 .congr 1
  funext _ c
  unfold zA
  congr 1
  funext d
  obtain⟨r,d⟩:=d;cases r with
  |some r=>rfl
  |none=>
   dsimp only
   congr 1
   funext _
   congr 1
   funext g
   obtain⟨r,d⟩:=g;cases r<;>rfl
 .funext c
  obtain⟨r,c⟩:=c;cases r<;>rfl
theorem vn(x:Array Keyed)(a i:Nat):(x.extract a i).toList=(x.toList.take i).drop a:=by
 rw[afh,List.extract_eq_drop_take,List.drop_take]
theorem NI(x:Array Keyed)(i:Nat):(x.extract 0 i).toList=x.toList.take i:=by rw[vn,List.drop_zero]
theorem Jv(o x y:Array Keyed)(i j:Nat):(x.extract 0 i++y.extract 0 j++o.reverse).toList=x.toList.take i++y.toList.take j++o.toList.reverse:=by
 rw[aeG,aeG,NI,NI,Array.toList_reverse]
theorem LF(o x:Array Keyed)(a i:Nat):(o++(x.extract a i).reverse).toList=o.toList++((x.toList.take i).drop a).reverse:=by rw[aeG,Array.toList_reverse,vn]
structure Ch(x y:Array Keyed):Prop where
 ux:Up x.toList
 uy:Up y.toList
 ix:∀q∈x.toList,h_ q
 iy:∀q∈y.toList,h_ q
 fi:∀q e,y[0]? = some q->e∈x.toList->ky q<=ky e
noncomputable abbrev MB(x y o:Array Keyed)(i j:Nat):Prop:=MH x.toList y.toList o.toList i j
section
variable{x y o:Array Keyed}{i j a:Nat}{q e:Keyed}
theorem AE{d:Array Keyed}{e:Keyed}(m:e∈(d.toList.take i).drop a):∃t,a<=t/\t<i/\d[t]? = some e:=by
 obtain⟨t,ht,rfl⟩:=List.mem_iff_getElem.mp m;rw[List.length_drop,aeO] at ht;refine⟨a+t,by omega,by omega,?_⟩;rw[afs,List.getElem_take,<- getL,abL]
theorem xj{d:Array Keyed}{e:Keyed}(m:e∈d.toList.take i):∃t,t<i/\d[t]? = some e:=by
 obtain⟨t,_,h,r⟩:=AE (by rw[List.drop_zero];exact m);exact⟨t,h,r⟩
theorem aa3{d:Array Keyed}(u:Up d.toList){p q:Keyed}(lZ:i<=j)(e1:d[i]? = some p)(e2:d[j]? = some q):ky p<=ky q:=u.Gc lZ (by rw[getL];exact e1) (by rw[getL];exact e2)
theorem xT{d:Array Keyed}(u:Up d.toList){f q:Keyed}(e:d[i-1]? = some q)(m:f∈d.toList.take i):ky f<=ky q:=by
 obtain⟨t,h,r⟩:=xj m;exact aa3 u (by omega) r e
theorem xN{d:Array Keyed}{q:Keyed}(h:1<=i)(e:d[i-1]? = some q):(d.toList.take i).drop (i-1)=[q]:=by
 rw[<- getL] at e;have:=take_one e;rw[List.drop_take]
 rwa [show i-(i-1)=1 by omega]
theorem MH.pushX(M:MB x y o i j)(C:Ch x y)(h:1<=i)(ee:x[i-1]? = some e)(c:∀f∈y.toList.take j,ky f<=ky e):MB x y (o.push e) (i-1) j:=by
 have w:=M.qH C.ux (a:=i-1) (by omega) λf hf g hg=>by rw[xN h ee] at hg;rw[aa8.mp hg];exact c f hf
 rw[xN h ee] at w;show MH _ _ (o.push e).toList _ _;rw[aeF];exact w
theorem MH.qQ(M:MB x y o i j)(C:Ch x y)(h:1<=j)(eq:y[j-1]? = some q)(c:∀f∈x.toList.take i,ky f<=ky q):MB x y (o.push q) i (j-1):=by
 have w:=M.vN C.uy (a:=j-1) (by omega) λf hf g hg=>by rw[xN h eq] at hg;rw[aa8.mp hg];exact c f hf
 rw[xN h eq] at w;show MH _ _ (o.push q).toList _ _;rw[aeF];exact w
theorem MH.vU(M:MB x y o i j)(C:Ch x y)(h:i=0\/j=0):GA x y (x.extract 0 i++y.extract 0 j++o.reverse):=by
 show Good _ _ _;rw[Jv];refine M.good C.ux C.uy λe he f hf=>?_
 rcases h with h|h
 .rw[h,List.take_zero] at he;cases he
 .rw[h,List.take_zero] at hf;cases hf
theorem MH.Ak(M:MB x y o i j)(C:Ch x y)(h:j=1):GA x y (y.extract 0 j++x.extract 0 i++o.reverse):=by
 show Good _ _ _;rw[Jv];refine M.Hi C.ux C.uy λe he f hf=>?_
 obtain⟨t,ht,r⟩:=xj he;rw[show t=0 by omega] at r;exact C.fi e f r (List.mem_of_mem_take hf)
theorem MH.E6(M:MB x y o i j)(C:Ch x y)(ha:a<=i)(eq:y[j-1]? = some q)(c:∀t,a<=t->t<i->bH false (ky q) (K x (0+t))=false):MB x y (o++(x.extract a i).reverse) a j:=by
 show MH _ _ _ _ _;rw[LF];refine M.qH C.ux ha λf hf g hg=>?_
 obtain⟨t,h1,h2,r⟩:=AE hg;have w:=DN (c t h1 h2);rw[aey,gc r] at w;exact adN (xT C.uy eq hf) (aew w)
theorem MH.CI(M:MB x y o i j)(C:Ch x y)(ha:a<=j)(ee:x[i-1]? = some e)(c:∀t,a<=t->t<j->bH true (ky e) (K y (0+t))=false):MB x y (o++(y.extract a j).reverse) i a:=by
 show MH _ _ _ _ _;rw[LF];refine M.vN C.uy ha λf hf g hg=>?_
 obtain⟨t,h1,h2,r⟩:=AE hg;have w:=Fj (c t h1 h2);rw[aey,gc r] at w;exact adN (xT C.ux ee hf) w
end
section
variable{x y o:Array Keyed}{st:SortSt}{prog:Program}{w:World}{A:Around}{E:Value->Shared->Prop}{s:Shared}{i j mg k k1 ac bc N:Nat}
def Fh(x y:Array Keyed)(N:Nat)(r:Option (Array Keyed))(i j:Nat)(o:Array Keyed):Prop:=(∃z,r=some z/\GA x y z)\/(r=none/\MB x y o i j/\1<=i/\2<=j/\N<=o.size)
def E2(x y:Array Keyed)(N:Nat)(c:H2):Prop:=Fh x y N c.1 c.2.1 c.2.2.1 c.2.2.2.1
def R2(x y:Array Keyed)(N:Nat)(st:SortSt)(r:ForInStep H2)(ak:SortSt):Prop:=Sm st ak/\match r with
 |.done c=>E2 x y N c
 |.yield c=>c.1=none/\E2 x y N c
theorem n_{l:Array Keyed}(h:n<=l.toList.length):n<=l.size:=by rwa [acg] at h
theorem Kz(C:Ch x y)(M:MB x y o i j)(hi:1<=i)(hj:2<=j)(c:∀e f,x[i-1]? = some e->f∈y.toList.take j->ky f<=ky e)(hN:N<=o.size):
  wpS (model prog w) A E s (zf x y o i j mg k k1) (R2 x y N st) st:=by
 unfold zf;have b1:=n_ M.hi;obtain⟨e,ee⟩:=there x (i:=i-1) (by omega);refine acE (fZ ee ?_);have M1:=M.pushX C hi ee λf hf=>c e f ee hf
 have sz:N<=(o.push e).size:=by rw[aeH];omega
 by_cases h:i-1=0
 .rw[if_pos (by simpa using h)];exact ac0 ⟨.refl _,.inl ⟨_,rfl,M1.vU C (.inl h)⟩⟩
 .rw[if_neg (by simpa using h)]
  split
  .exact ac0 ⟨.refl _,.inr ⟨rfl,M1,by show 1<=i-1;omega,hj,sz⟩⟩
  .exact ac0 ⟨.refl _,rfl,.inr ⟨rfl,M1,by show 1<=i-1;omega,hj,sz⟩⟩
theorem Kv(C:Ch x y)(hk:kindOf st=oneType')(M:MB x y o i j)(hi:1<=i)(hj:2<=j)(c:∀q f,y[j-1]? = some q->f∈x.toList.take i->ky f<=ky q)(hN:N<=o.size+1):
  wpS (model prog w) A E s (zB x y o i j mg k bc) (R2 x y N st) st:=by
 unfold zB;have b1:=n_ M.hi;have b2:=n_ M.hj;obtain⟨q,eq⟩:=there y (i:=j-1) (by omega);refine acE (fZ eq ?_);have M1:=M.qQ C (by omega) eq λf hf=>c q f eq hf
 have sz:N<=(o.push q).size:=by rw[aeH];omega
 by_cases h:j-1=1
 .rw[if_pos (by simpa using h)];exact ac0 ⟨.refl _,.inl ⟨_,rfl,M1.Ak C h⟩⟩
 .rw[if_neg (by simpa using h)];obtain⟨e,ee⟩:=there x (i:=i-1) (by omega);refine acE (fZ ee ?_);refine acE (r9 hk (Ad C.uy C.iy (by omega)) (C.ix e (mh ee)) (by omega) λm g1 g2 g3=>?_);dsimp only;have M2:=M1.CI C g1 ee g3;have rest:∀e' f,x[i-1]? = some e'->f∈y.toList.take m->ky f<=ky e':=by
   intro e' f h1 h2;rw[ee] at h1;cases h1;obtain⟨t,ht,r⟩:=xj h2;have g:=HC (g2 t ht);rw[aey,gc r] at g;exact aew g
  by_cases m0:j-1-m > 0
  .rw[if_pos m0]
   by_cases h1:m=1
   .rw[if_pos (by simpa using h1)];exact ac0 ⟨.refl _,.inl ⟨_,rfl,M2.Ak C h1⟩⟩
   .rw[if_neg (by simpa using h1)]
    by_cases h2:m=0
    .rw[if_pos (by simpa using h2)];exact ac0 ⟨.refl _,.inl ⟨_,rfl,M2.vU C (.inr h2)⟩⟩
    .rw[if_neg (by simpa using h2)];exact Kz C M2 hi (by omega) rest (by rw[aft];omega)
  .rw[if_neg m0];have hm:m=j-1:=by omega
   rw[hm] at rest;exact Kz C M1 hi (by omega) rest sz
theorem R2.of{ak:SortSt}{r:ForInStep H2}{tS:SortSt}(a:Sm st ak)(h:R2 x y N ak r tS):R2 x y N st r tS:=⟨a.trans h.1,h.2⟩
theorem V3(C:Ch x y)(hk:kindOf st=oneType')(M:MB x y o i j)(hi:1<=i)(hj:2<=j)(hN:N<=o.size+1):wpS (model prog w) A E s (vO x y o i j mg ac bc) (R2 x y N st) st:=by
 unfold vO;have b1:=n_ M.hi;have b2:=n_ M.hj;refine acE (yE λak sm=>?_);have jX:=sm.1.trans hk;obtain⟨q,eq⟩:=there y (i:=j-1) (by omega);refine acE (fZ eq ?_);refine acE (r9 jX (Ad C.ux C.ix (by omega)) (C.iy q (mh eq)) (by omega) λm g1 g2 g3=>?_);dsimp only;have M2:=M.E6 C g1 eq g3;have rest:∀q' f,y[j-1]? = some q'->f∈x.toList.take m->ky f<=ky q':=by
  intro q' f h1 h2;rw[eq] at h1;cases h1;obtain⟨t,ht,r⟩:=xj h2;have g:=Fi (g2 t ht);rw[aey,gc r] at g;exact g
 by_cases m0:i-m > 0
 .rw[if_pos m0]
  by_cases h1:m=0
  .rw[if_pos (by simpa using h1)];exact ac0 ⟨sm,.inl ⟨_,rfl,M2.vU C (.inl h1)⟩⟩
  .rw[if_neg (by simpa using h1)];exact ad6 (Kv C jX M2 (by omega) hj rest (by rw[aft];omega)) λ_ _ z=>R2.of sm z
 .rw[if_neg m0];have hm:m=i:=by omega
  rw[hm] at rest;exact ad6 (Kv C jX M hi hj rest hN) λ_ _ z=>R2.of sm z
def E1(x y:Array Keyed)(N:Nat)(c:H1):Prop:=Fh x y N c.1 c.2.1 c.2.2.1 c.2.2.2.1
theorem SY(C:Ch x y)(hk:kindOf st=oneType')(M:MB x y o i j)(hi:1<=i)(hj:2<=j)(hN:N<=o.size):
  wpS (model prog w) A E s (EJ x y o i j mg ac bc) (λr ak=>ak=st/\match r with
   |.done c=>E1 x y N c
   |.yield c=>c.1=none/\E1 x y N c) st:=by
 unfold EJ;have b1:=n_ M.hi;have b2:=n_ M.hj;obtain⟨q,eq⟩:=there y (i:=j-1) (by omega);obtain⟨e,ee⟩:=there x (i:=i-1) (by omega);refine acE (fZ eq (acE (fZ ee (acE (Af hk (C.iy q (mh eq)) (C.ix e (mh ee)) ?_)))));dsimp only
 by_cases g:ky q<ky e
 .rw[if_pos (ab5 g)];refine acE (fZ ee ?_);have M1:=M.pushX C hi ee λf hf=>adN (xT C.uy eq hf) (aew g)
  have sz:N<=(o.push e).size:=by rw[aeH];omega
  by_cases h:i-1=0
  .rw[if_pos (by simpa using h)];exact ac0 ⟨rfl,.inl ⟨_,rfl,M1.vU C (.inl h)⟩⟩
  .rw[if_neg (by simpa using h)]
   split
   .exact ac0 ⟨rfl,.inr ⟨rfl,M1,by show 1<=i-1;omega,hj,sz⟩⟩
   .exact ac0 ⟨rfl,rfl,.inr ⟨rfl,M1,by show 1<=i-1;omega,hj,sz⟩⟩
 .rw[if_neg (by simpa using g)];refine acE (fZ eq ?_);have M1:=M.qQ C (by omega) eq λf hf=>adN (xT C.ux ee hf) (Int.not_lt.mp g)
  have sz:N<=(o.push q).size:=by rw[aeH];omega
  by_cases h:j-1=1
  .rw[if_pos (by simpa using h)];exact ac0 ⟨rfl,.inl ⟨_,rfl,M1.Ak C h⟩⟩
  .rw[if_neg (by simpa using h)]
   split
   .exact ac0 ⟨rfl,.inr ⟨rfl,M1,hi,by show 2<=j-1;omega,sz⟩⟩
   .exact ac0 ⟨rfl,rfl,.inr ⟨rfl,M1,hi,by show 2<=j-1;omega,sz⟩⟩
def E0(x y:Array Keyed)(N:Nat)(c:H0):Prop:=Fh x y N c.1 c.2.1 c.2.2.1 c.2.2.2.1
theorem V6(C:Ch x y)(hk:kindOf st=oneType')(M:MB x y o i j)(hi:1<=i)(hj:2<=j)(hN:N<=o.size):
  wpS (model prog w) A E s (zA x y (none,i,j,o,mg)) (λr ak=>Sm st ak/\match r with
   |.done c=>∃z,c.1=some z/\GA x y z
   |.yield c=>c.1=none/\E0 x y (N+1) c) st:=by
 unfold zA;have b2:=n_ M.hj;refine acE (ad6 (ad3 (I:=λ_ c ak=>ak=st/\c.1=none/\E1 x y N c) (Q:=λc ak=>ak=st/\E1 x y N c) ?s1 (λc ak z=>⟨z.1,z.2.2⟩) ⟨rfl,rfl,.inr ⟨rfl,M,hi,hj,hN⟩⟩) ?p1)
 case s1=>
  rintro _ ⟨r,i,j,o,ac,bc⟩ ak _ _ ⟨rfl,rfl,f⟩
  rcases f with⟨z,h,_⟩|⟨_,g1,g2,g3,g4⟩
  .cases h
  .refine ad6 (SY C hk g1 g2 g3 g4) λr aU z=>?_
   obtain⟨rfl,z⟩:=z;cases r with
   |done c=>exact⟨rfl,z⟩
   |yield c=>exact⟨rfl,z⟩
 case p1=>
  rintro⟨r,i,j,o,ac,bc⟩ ak ⟨rfl,f⟩
  rcases f with⟨z,h,g⟩|⟨h,g1,g2,g3,g4⟩
  .have h:=h;subst h;exact ac0 ⟨.refl _,z,rfl,g⟩
  .have h:=h;subst h;dsimp only;refine acE (wpS_lift (aee ⟨rfl,?_⟩));refine acE (ad6 (ad3 (I:=λn c aU=>Sm ak aU/\c.1=none/\E2 x y (if n=0 then N else N+1) c) (Q:=λc aU=>Sm ak aU/\E2 x y (N+1) c) ?s2 ?f2 ⟨.refl _,rfl,.inr ⟨rfl,g1,g2,g3,by rw[if_pos rfl];exact g4⟩⟩) ?p2)
   case f2=>
    rintro c aU ⟨z1,z2,z3⟩
    have hz:max 0 (x.size+y.size)≠0:=by omega
    rw[if_neg hz] at z3;exact⟨z1,z3⟩
   case s2=>
    rintro n ⟨r,i,j,o,mg,ac,bc⟩ aU _ _ ⟨sm,rfl,f⟩
    rcases f with⟨z,h,_⟩|⟨_,g1,g2,g3,g4⟩
    .cases h
    .have g4:(if n=0 then N else N+1)<=o.size:=g4;have g5:N+1<=o.size+1:=by split at g4<;>omega
     have step:∀vt,wpS (model prog w) A E s (vO x y o i j vt ac bc) (λr dY=>match r with
       |.done c=>Sm ak dY/\E2 x y (N+1) c
       |.yield c=>Sm ak dY/\c.1=none/\E2 x y (if n+1=0 then N else N+1) c) aU:=λvt=>by
      refine ad6 (V3 C (sm.1.trans hk) g1 g2 g3 g5) λr dY z=>?_
      rw[if_neg (by omega)];cases r with
      |done c=>exact⟨sm.trans z.1,z.2⟩
      |yield c=>exact⟨sm.trans z.1,z.2⟩
     dsimp only
     split
     .exact ad6 (step _) λr dY z=>by cases r<;>exact z
     .exact ad6 (step _) λr dY z=>by cases r<;>exact z
   case p2=>
    rintro⟨r,i,j,o,mg,ac,bc⟩ aU ⟨sm,f⟩
    rcases f with⟨z,h,g⟩|⟨h,g1,g2,g3,g4⟩
    .have h:=h;subst h;exact ac0 ⟨sm,z,rfl,g⟩
    .have h:=h;subst h;dsimp only;exact acE (yE λdY s3=>ac0 ⟨sm.trans s3,rfl,.inr ⟨rfl,g1,g2,g3,g4⟩⟩)
theorem aaN{Q:Array Keyed->SortSt->Prop}(C:Ch x y)(hk:kindOf st=oneType')(hx:0<x.size)(hy:0<y.size)(c:∀q e,x[x.size-1]? = some q->e∈y.toList->ky e<=ky q)
  (h:∀z ak,Sm st ak->GA x y z->Q z ak):wpS (model prog w) A E s (AB x y) Q st:=by
 rw[aa9];refine acE (wpS_lift (aee ⟨rfl,?_⟩));obtain⟨q,eq⟩:=there x (i:=x.size-1) (by omega);refine acE (fZ eq ?_);have M0:MB x y #[] x.size y.size:=⟨by simp,by simp,by rw[aer (by simp),aer (by simp)];simp,.nil,by simp,by simp⟩
 have M1:=M0.pushX C (by omega) eq λf hf=>c q f eq (List.mem_of_mem_take hf)
 by_cases h1:x.size-1=0
 .rw[if_pos (by simpa using h1)];exact ac0 (h _ st (.refl _) (M1.vU C (.inl h1)))
 .rw[if_neg (by simpa using h1)]
  by_cases h2:y.size=1
  .rw[if_pos (by simpa using h2)];exact ac0 (h _ st (.refl _) (M1.Ak C h2))
  .rw[if_neg (by simpa using h2)];refine acE (wpS_get ?_);unfold highs;have a1:1<=x.size-1:=by omega
   have a2:2<=y.size:=by omega
   refine acE (ad6 (ad3 (I:=λn (c:H0) ak=>Sm st ak/\c.1=none/\E0 x y (n+1) c) (Q:=λ(c:H0) ak=>Sm st ak/\∃z,c.1=some z/\GA x y z) ?s ?f ⟨.refl _,rfl,.inr ⟨rfl,M1,a1,a2,abW 1⟩⟩) ?pp)
   case s=>
    rintro n ⟨r,i,j,o,mg⟩ aU _ _ ⟨sm,rfl,f⟩
    rcases f with⟨z,h,_⟩|⟨_,g1,g2,g3,g4⟩
    .cases h
    .refine ad6 (V6 C (sm.1.trans hk) g1 g2 g3 g4) λr dY z=>?_
     cases r with
     |done c=>exact⟨sm.trans z.1,z.2⟩
     |yield c=>exact⟨sm.trans z.1,z.2⟩
   case f=>
    rintro⟨r,i,j,o,mg⟩ aU ⟨sm,rfl,f⟩
    exfalso
    rcases f with⟨z,h,_⟩|⟨_,g1,g2,g3,g4⟩
    .cases h
    .have g:=MH.len g1;simp only[acg] at g;have g4:max 0 (x.size+y.size)+1<=o.size:=g4;have g2:=g2;omega
   case pp=>
    rintro⟨r,c⟩ aU ⟨sm,z,hz,g⟩
    have hz:=hz;subst hz;exact ac0 (h z aU sm g)
end
theorem PK(n:Nat):mergeAt' n=(do
 let c <- get
 let(some (sa,na,pw),some (sb,nb,_)):=((pendingOf c)[n]?,(pendingOf c)[n+1]?)|unsupported "internal:list.sort.pending"
 set (SortSt.mk' (kindOf c) (arrOf c) (((pendingOf c).setIfInBounds n (sa,na+nb,pw)).eraseIdxIfInBounds (n+1)) (gallopOf c) (failedOf c))
 let some k <- j6 false (<- elem' (arrOf c) sb) (arrOf c) sa na 0|return false
 let(sa,na):=(sa+k,na-k)
 if na==0 then return true
 let some nb <- j6 true (<- elem' (arrOf c) (sa+na-1)) (arrOf c) sb nb (nb-1)|return false
 if nb==0 then return true
 let x:=(arrOf c).extract sa sb
 let y:=(arrOf c).extract sb (sb+nb)
 let m <- if na<=nb then xU x y else AB x y
 modify λs=>PyProof.Rows.setArr s (m.toList.zipIdx.foldl (λa (p,j)=>a.setIfInBounds (sa+j) p) (arrOf s))
 return(failedOf (<- get)).isNone):=rfl
noncomputable def wr(l:List Keyed)(s n:Nat)(xs:Array Keyed):Array Keyed:=(l.zipIdx n).foldl (λa (p,j)=>a.setIfInBounds (s+j) p) xs
theorem Wy(p:Keyed)(l:List Keyed)(s n:Nat)(xs:Array Keyed):wr (p::l) s n xs=wr l s (n+1) (xs.setIfInBounds (s+n) p):=rfl
theorem Nc:∀(l:List Keyed) (s n:Nat) (xs:Array Keyed),s+n+l.length<=xs.size->∀k:Nat,(wr l s n xs)[k]? = if s+n<=k/\k<s+n+l.length then l[k-(s+n)]? else xs[k]?
 |[],s,n,xs,h,k=>by
  have hl:([]:List Keyed).length=0:=rfl;rw[if_neg (by rw[hl];omega)];rfl
 |p::l,s,n,xs,h,k=>by
  have hl:(p::l).length=l.length+1:=rfl;rw[Wy,Nc l s (n+1) _ (by rw[Array.size_setIfInBounds];omega) k]
  by_cases h1:k=s+n
  .subst h1;rw[if_neg (by omega),if_pos (by omega),Array.getElem?_setIfInBounds_self_of_lt (by omega)];simp
  .by_cases h2:s+(n+1)<=k/\k<s+(n+1)+l.length
   .rw[if_pos h2,if_pos (by omega),show k-(s+n)=(k-(s+(n+1)))+1 by omega];simp
   .rw[if_neg h2,if_neg (by omega),Array.getElem?_setIfInBounds_ne (by omega)]
section
variable{a₀:Array Keyed}{p:Array (Nat×Nat×Nat)}{st:SortSt}{prog:Program}{w:World}{A:Around}{E:Value->Shared->Prop}{s:Shared}
theorem SB.int(hB:SB a₀ p st)(h0:IntKeys a₀){i:Nat}{q:Keyed}(e:(arrOf st)[i]? = some q):h_ q:=by
 have m:=mh e;exact h0 q ((Array.perm_iff_toList_perm.mp hB.perm).mem_iff.mp m)
theorem SB.sub(hB:SB a₀ p st)(h0:IntKeys a₀)(h:b+n<=a₀.size)(hs:fT (arrOf st) b (b+n)):Sub (arrOf st) b n (λt=>K (arrOf st) (b+t)):=by
 refine⟨λt ht=>?_,λi j lZ hj=>hs _ _ (by omega) (by omega) (by omega)⟩;obtain⟨q,e⟩:=there (arrOf st) (i:=b+t) (by rw[hB.size];omega);exact⟨q,e,hB.int h0 e,(gc e).symm⟩
theorem Gf{xs:Array Keyed}(h:i<b-a)(hb:b<=xs.size):(xs.extract a b)[i]? = xs[a+i]? :=by
 rw[Array.getElem?_extract,if_pos (by omega)]
theorem Ov{xs:Array Keyed}{q:Keyed}(hb:b<=xs.size)(m:q∈(xs.extract a b).toList):∃t,a<=t/\t<b/\xs[t]? = some q:=by
 rw[vn] at m;exact AE m
theorem Jq{xs:Array Keyed}(hb:b<=xs.size)(hs:fT xs a b):Up (xs.extract a b).toList:=by
 refine aeW.mpr λi j hi hj lZ=>?_
 have sz:(xs.extract a b).size=b-a:=by rw[Array.size_extract,aeI hb]
 rw[acg,sz] at hi hj;have g:∀{t:Nat} (h:t<(xs.extract a b).toList.length),K xs (a+t)=ky (xs.extract a b).toList[t]:=by
  intro t h;have ht:t<b-a:=by rw[acg,sz] at h;exact h
  refine gc ?_;rw[<- Gf ht hb,<- getL,abL]
 rw[<- g,<- g];exact hs _ _ (by omega) (by omega) (by omega)
theorem Yp{Q:Bool->SortSt->Prop}(h0:IntKeys a₀)(hB:SB a₀ p st)(e1:p[n]? = some (sa,na,pw))(e2:p[n+1]? = some (sa+na,nb,Mq))(h1:1<=na)(h2:1<=nb)(hz:sa+na+nb<=a₀.size)
  (s1:fT (arrOf st) sa (sa+na)) (s2:fT (arrOf st) (sa+na) (sa+na+nb))
  (h:∀ak,SB a₀ ((p.setIfInBounds n (sa,na+nb,pw)).eraseIdxIfInBounds (n+1)) ak->fT (arrOf ak) sa (sa+na+nb)->fK (arrOf st) (arrOf ak) sa (sa+na+nb)->Q true ak) :
  wpS (model prog w) A E s (mergeAt' n) Q st:=by
 rw[PK];refine acE (wpS_get ?_);rw[hB.pend,e1,e2];dsimp only;generalize hX:arrOf st=X;have zX:X.size=a₀.size:=by rw[<- hX];exact hB.size
 rw[hX] at s1 s2 h;have Yz:∀{c:SortSt}{Q':PUnit->SortSt->Prop},Q' ⟨⟩ c->wpS (model prog w) A E s (set c:StateT SortSt Sem PUnit) Q' st:=by
  intro c Q' hq;unfold wpS;rw[StateT.run_set];exact aa1 ⟨rfl,hq⟩
 refine acE (Yz ?_);generalize ig:SortSt.mk' (kindOf st) X ((p.setIfInBounds n (sa,na+nb,pw)).eraseIdxIfInBounds (n+1)) (gallopOf st) (failedOf st)=gM;have j9:SB a₀ ((p.setIfInBounds n (sa,na+nb,pw)).eraseIdxIfInBounds (n+1)) gM:=by subst ig;exact⟨by show X.Perm a₀;rw[<- hX];exact hB.perm,hB.kind,hB.failed,rfl⟩
 have lF:arrOf gM=X:=by subst ig;rfl
 obtain⟨qb,eb⟩:=there X (i:=sa+na) (by omega);have kb:=gc eb;have S1:Sub X sa na (λt=>K X (sa+t)):=by have:=j9.sub h0 (b:=sa) (n:=na) (by omega) (by rw[lF];exact s1);rwa [lF] at this
 have S2:Sub X (sa+na) nb (λt=>K X (sa+na+t)):=by have:=j9.sub h0 (by omega) (by rw[lF];exact s2);rwa [lF] at this
 have ya:∀{i:Nat}{q:Keyed},X[i]? = some q->h_ q:=λ{i q} e=>j9.int h0 (by rw[lF];exact e)
 refine acE (fZ eb (acE (r9 j9.kind S1 (ya eb) (by omega) λk k1 k2 k3=>?_)));dsimp only;have DU:∀i,sa<=i->i<sa+k->K X i<=K X (sa+na):=λi i1 i2=>by
  have g:=Fi (k2 (i-sa) (by omega));rw[show sa+(i-sa)=i by omega] at g;rw[kb];exact g
 have aaS:∀i,sa+k<=i->i<sa+na->K X (sa+na)<K X i:=λi i1 i2=>by
  have g:=DN (k3 (i-sa) (by omega) (by omega));rw[show sa+(i-sa)=i by omega] at g;rw[kb];exact g
 by_cases hk:na-k=0
 .rw[if_pos (by simpa using hk)];refine ac0 (h gM j9 ?_ (by rw[lF];exact .refl _ _ _));rw[lF];intro i j q1 q2 q3
  by_cases c1:j<sa+na
  .exact s1 i j q1 q2 c1
  .by_cases c2:i<sa+na
   .exact adN (DU i q1 (by omega)) (s2 _ _ (abW _) (by omega) q3)
   .exact s2 i j (by omega) q2 q3
 .rw[if_neg (by simpa using hk)];obtain⟨ql,el⟩:=there X (i:=sa+k+(na-k)-1) (by omega);have kl:K X (sa+na-1)=ky ql:=by rw[<- gc el];congr 1;omega
  refine acE (fZ el (acE (r9 j9.kind S2 (ya el) (by omega) λm m1 m2 m3=>?_)));dsimp only;have Ur:∀i,sa+na<=i->i<sa+na+m->K X i<K X (sa+na-1):=λi i1 i2=>by
   have g:=HC (m2 (i-(sa+na)) (by omega));rw[show sa+na+(i-(sa+na))=i by omega] at g;rw[kl];exact g
  have Nh:∀i,sa+na+m<=i->i<sa+na+nb->K X (sa+na-1)<=K X i:=λi i1 i2=>by
   have g:=Fj (m3 (i-(sa+na)) (by omega) (by omega));rw[show sa+na+(i-(sa+na))=i by omega] at g;rw[kl];exact g
  by_cases hm:m=0
  .rw[if_pos (by simpa using hm)];refine ac0 (h gM j9 ?_ (by rw[lF];exact .refl _ _ _));rw[lF];intro i j q1 q2 q3
   by_cases c1:j<sa+na
   .exact s1 i j q1 q2 c1
   .by_cases c2:i<sa+na
    .exact adN (s1 i (sa+na-1) q1 (by omega) (by omega)) (Nh j (by omega) q3)
    .exact s2 i j (by omega) q2 q3
  .rw[if_neg (by simpa using hm)];generalize hx:X.extract (sa+k) (sa+na)=x;generalize hy:X.extract (sa+na) (sa+na+m)=y;have zx:x.size=na-k:=by rw[<- hx,Array.size_extract,aeI (by omega)];omega
   have zy:y.size=m:=by rw[<- hy,Array.size_extract,aeI (by omega)];omega
   have ux:Up x.toList:=by rw[<- hx];exact Jq (by omega) λi j q1 q2 q3=>s1 i j (by omega) q2 q3
   have uy:Up y.toList:=by rw[<- hy];exact Jq (by omega) λi j q1 q2 q3=>s2 i j q1 q2 (by omega)
   have xo:∀q∈x.toList,∃t,sa+k<=t/\t<sa+na/\X[t]? = some q:=λq hq=>by rw[<- hx] at hq;exact Ov (by omega) hq
   have xx:∀q∈y.toList,∃t,sa+na<=t/\t<sa+na+m/\X[t]? = some q:=λq hq=>by rw[<- hy] at hq;exact Ov (by omega) hq
   have ix:∀q∈x.toList,h_ q:=λq hq=>let⟨t,_,_,e⟩:=xo q hq;ya e
   have iy:∀q∈y.toList,h_ q:=λq hq=>let⟨t,_,_,e⟩:=xx q hq;ya e
   have la:∀q f,x[x.size-1]? = some q->f∈y.toList->ky f<=ky q:=by
    intro q f hq hf;rw[<- hx,Gf (by rw[hx,zx];omega) (by omega),hx,zx] at hq;obtain⟨t,t1,t2,et⟩:=xx f hf;rw[<- gc hq,<- gc et,show sa+k+(na-k-1)=sa+na-1 by omega];exact aew (Ur t t1 t2)
   have fi:∀q e,y[0]? = some q->e∈x.toList->ky q<=ky e:=by
    intro q e hq he;rw[<- hy,Gf (by omega) (by omega)] at hq;obtain⟨t,t1,t2,et⟩:=xo e he;rw[<- gc hq,<- gc et];exact aew (aaS t t1 t2)
   have fin:∀z aU,Sm gM aU->GA x y z->wpS (model prog w) A E s (do
     modify λs=>PyProof.Rows.setArr s (z.toList.zipIdx.foldl (λa (p,j)=>a.setIfInBounds (sa+k+j) p) (arrOf s))
     let c <- get
     pure (failedOf c).isNone) Q aU:=by
    intro z aU sm g;refine acE (wpS_modify (acE (wpS_get (ac0 ?_))));have e2:=sm.2.1.trans lF;generalize y_:PyProof.Rows.setArr aU (z.toList.zipIdx.foldl (λa (p,j)=>a.setIfInBounds (sa+k+j) p) (arrOf aU))=dY;have e3:arrOf dY=wr z.toList (sa+k) 0 X:=by subst y_;show _=_;rw[<- e2];rfl
    have f3:failedOf dY=none:=by subst y_;exact sm.2.2.2.trans j9.failed
    rw[f3];have lz:z.toList.length=(na-k)+m:=by
     have:=g.1.length_eq;simp only[acZ,acg] at this ⊢;omega
    have get3:∀i:Nat,(arrOf dY)[i]? = if sa+k<=i/\i<sa+na+m then z.toList[i-(sa+k)]? else X[i]? :=by
     intro i;rw[e3,Nc _ _ _ _ (by rw[lz];omega),lz];simp only[Nat.add_zero]
     by_cases c:sa+k<=i/\i<sa+k+(na-k+m)
     .rw[if_pos c,if_pos (by omega)]
     .rw[if_neg c,if_neg (by omega)]
    have Am:∀i,¬(sa+k<=i/\i<sa+na+m)->K (arrOf dY) i=K X i:=λi c=>K_congr (by rw[get3,if_neg c])
    have C3:∀i,sa+k<=i->i<sa+na+m->∃q,z.toList[i-(sa+k)]? = some q/\K (arrOf dY) i=ky q:=λi c1 c2=>by
     obtain⟨q,eq⟩:∃q,z.toList[i-(sa+k)]? = some q:=⟨_,abL (by omega)⟩
     exact⟨q,eq,gc (by rw[get3,if_pos ⟨c1,c2⟩];exact eq)⟩
    have oj:∀q,q∈z.toList->q∈x.toList\/q∈y.toList:=λq hq=>acW.mp (g.1.mem_iff.mp hq)
    have lo:∀(v:Int) (i:Nat) (q:Keyed),(∀t,sa+k<=t->t<sa+na->v<=K X t)->(∀t,sa+na<=t->t<sa+na+m->v<=K X t)->z.toList[i]? = some q->v<=ky q:=by
     intro v i q g1 g2 e;rcases oj q (by obtain⟨h,rfl⟩:=acY.mp e;exact aeD h) with hq|hq
     .obtain⟨t,t1,t2,et⟩:=xo q hq;rw[<- gc et];exact g1 t t1 t2
     .obtain⟨t,t1,t2,et⟩:=xx q hq;rw[<- gc et];exact g2 t t1 t2
    have hi:∀(v:Int) (i:Nat) (q:Keyed),(∀t,sa+k<=t->t<sa+na->K X t<=v)->(∀t,sa+na<=t->t<sa+na+m->K X t<=v)->z.toList[i]? = some q->ky q<=v:=by
     intro v i q g1 g2 e;rcases oj q (by obtain⟨h,rfl⟩:=acY.mp e;exact aeD h) with hq|hq
     .obtain⟨t,t1,t2,et⟩:=xo q hq;rw[<- gc et];exact g1 t t1 t2
     .obtain⟨t,t1,t2,et⟩:=xx q hq;rw[<- gc et];exact g2 t t1 t2
    refine h dY ⟨?_,?_,f3,?_⟩ ?_ ?_
    .refine Array.Perm.trans ?_ (show X.Perm a₀ by rw[<- hX];exact hB.perm);rw[Array.perm_iff_toList_perm];have lX:X.toList=X.toList.take (sa+k)++(x.toList++y.toList)++X.toList.drop (sa+na+m):=by
      rw[<- hx,<- hy,vn,vn];have a1:X.toList.take (sa+na)=X.toList.take (sa+k)++(X.toList.take (sa+na)).drop (sa+k):=by
       have:=(aeg (sa+k) (X.toList.take (sa+na))).symm
       rwa [List.take_take,aeI (by omega)] at this
      have a2:X.toList.take (sa+na+m)=X.toList.take (sa+na)++(X.toList.take (sa+na+m)).drop (sa+na):=by
       have:=(aeg (sa+na) (X.toList.take (sa+na+m))).symm
       rwa [List.take_take,aeI (by omega)] at this
      rw[<- adJ,<- a1,<- a2,aeg]
     have l3:(arrOf dY).toList=X.toList.take (sa+k)++z.toList++X.toList.drop (sa+na+m):=by
      refine afu λi=>?_
      rw[getL,get3];have tl:(X.toList.take (sa+k)).length=sa+k:=by rw[aeO,acg];omega
      by_cases c1:i<sa+k
      .rw[if_neg (by omega),adJ,adC (by omega),List.getElem?_take_of_lt c1,getL]
      .by_cases c2:i<sa+na+m
       .rw[if_pos ⟨by omega,c2⟩,adJ,ad7 (by omega),tl,adC (by omega)]
       .rw[if_neg (by omega),ad7 (by rw[acZ];omega),acZ,tl,lz,List.getElem?_drop,getL]
        congr 1
        omega
     rw[l3];exact List.Perm.trans (List.Perm.append_right _ (List.Perm.append_left _ g.1)) (List.Perm.of_eq lX.symm)
    .subst y_;exact sm.1.trans j9.kind
    .subst y_;exact sm.2.2.1.trans j9.pend
    .intro i j q1 q2 q3
     by_cases ci:sa+k<=i/\i<sa+na+m
     .obtain⟨q,eq,kq⟩:=C3 i ci.1 ci.2
      by_cases cj:sa+k<=j/\j<sa+na+m
      .obtain⟨r,er,kr⟩:=C3 j cj.1 cj.2;rw[kq,kr];exact g.2.Gc (by omega) eq er
      .rw[kq,Am j cj];refine hi _ _ q (λt t1 t2=>adN (s1 t (sa+na-1) (by omega) (by omega) (by omega)) (Nh j (by omega) q3)) (λt t1 t2=>s2 t j t1 (by omega) q3) eq
     .rw[Am i ci]
      by_cases cj:sa+k<=j/\j<sa+na+m
      .obtain⟨r,er,kr⟩:=C3 j cj.1 cj.2;rw[kr];refine lo _ _ r (λt t1 t2=>s1 i t q1 (by omega) t2) (λt t1 t2=>adN (DU i q1 (by omega)) (s2 _ _ (abW _) t1 (by omega))) er
      .rw[Am j cj]
       by_cases c1:j<sa+na
       .exact s1 i j q1 q2 c1
       .by_cases c2:i<sa+na
        .exact adN (DU i q1 (by omega)) (s2 _ _ (abW _) (by omega) q3)
        .exact s2 i j (by omega) q2 q3
    .intro i hi;exact Am i (by omega)
   by_cases hle:na-k<=m
   .rw[if_pos hle];refine acE (Yr ⟨ux,uy,ix,iy,λi q f hi hq hf=>la q f (by rw[<- hq];congr 1;omega) hf⟩ j9.kind (by omega) (by omega) fi fin)
   .rw[if_neg hle];exact acE (aaN ⟨ux,uy,ix,iy,fi⟩ j9.kind (by omega) (by omega) la fin)
end
def Runs(X:Array Keyed):List (Nat×Nat×Nat)->Nat->Nat->Prop
 |[],s,e=>s=e
 |q::r,s,e=>q.1=s/\1<=q.2.1/\fT X s (s+q.2.1)/\Runs X r (s+q.2.1) e
section
variable{X Y:Array Keyed}
theorem Runs.len:∀{l:List (Nat×Nat×Nat)}{s e:Nat},Runs X l s e->s+l.length<=e
 |[],s,e,h=>by
  have h:=h;rw[h];exact abW _
 |q::r,s,e,h=>by
  have g:=Runs.len h.2.2.2;have g2:=h.2.1;rw[acS];omega
theorem Runs.keep:∀{l:List (Nat×Nat×Nat)}{s e:Nat},Runs X l s e->(∀k,s<=k->k<e->K Y k=K X k)->Runs Y l s e
 |[],_,_,h,_=>h
 |q::r,s,e,h,k=>by
  have g:=Runs.len h.2.2.2;refine⟨h.1,h.2.1,λi j q1 q2 q3=>?_,Runs.keep h.2.2.2 λm m1 m2=>k m (by omega) m2⟩;rw[k i q1 (by omega),k j (by omega) (by omega)];exact h.2.2.1 i j q1 q2 q3
theorem Runs.power(w:Nat):∀{l:List (Nat×Nat×Nat)}{s e:Nat} (i:Nat),Runs X l s e->Runs X (l.modify i λx=>(x.fst,x.2.fst,w)) s e
 |[],s,e,i,h=>by cases i<;>exact h
 |q::r,s,e,0,h=>h
 |q::r,s,e,i+1,h=>⟨h.1,h.2.1,h.2.2.1,Runs.power w i h.2.2.2⟩
theorem Runs.push:∀{l:List (Nat×Nat×Nat)}{s e n:Nat},Runs X l s e->1<=n->fT X e (e+n)->Runs X (l++[(e,n,0)]) s (e+n)
 |[],s,e,n,h,h1,h2=>by
  have h:=h;subst h;exact⟨rfl,h1,h2,rfl⟩
 |q::r,s,e,n,h,h1,h2=>⟨h.1,h.2.1,h.2.2.1,Runs.push h.2.2.2 h1 h2⟩
theorem Runs.two:∀{l:List (Nat×Nat×Nat)}{s e n:Nat}{a b:Nat×Nat×Nat},Runs X l s e->l[n]? = some a->l[n+1]? = some b->
  b.1=a.1+a.2.1/\1<=a.2.1/\1<=b.2.1/\s<=a.1/\a.1+a.2.1+b.2.1<=e/\fT X a.1 (a.1+a.2.1)/\fT X (a.1+a.2.1) (a.1+a.2.1+b.2.1)
 |[],_,_,_,_,_,_,e1,_=>by simp at e1
 |[q],_,_,n,_,_,_,_,e2=>by simp at e2
 |q::r::t,s,e,0,a,b,h,e1,e2=>by
  have e1:q=a:=by simpa using e1
  have e2:r=b:=by simpa using e2
  subst e1 e2;obtain⟨h1,h2,h3,h4,h5,h6,h7⟩:=h;have g:=Runs.len h7;subst h1;exact⟨h4,h2,h5,abW _,by omega,h3,h6⟩
 |q::r::t,s,e,n+1,a,b,h,e1,e2=>by
  obtain⟨w1,w2,w3,w4,w5⟩:=Runs.two h.2.2.2 (by simpa using e1) (by simpa using e2);exact⟨w1,w2,w3,by omega,w5⟩
theorem Runs.one:∀{l:List (Nat×Nat×Nat)}{s e n:Nat}{a b:Nat×Nat×Nat},Runs X l s e->l[n]? = some a->l[n+1]? = some b->fK X Y a.1 (a.1+a.2.1+b.2.1)->fT Y a.1 (a.1+a.2.1+b.2.1)->
  Runs Y ((l.set n (a.1,a.2.1+b.2.1,a.2.2)).eraseIdx (n+1)) s e
 |[],_,_,_,_,_,_,e1,_,_,_=>by simp at e1
 |[q],_,_,n,_,_,_,_,e2,_,_=>by simp at e2
 |q::r::t,s,e,0,a,b,h,e1,e2,el,so=>by
  have e1:q=a:=by simpa using e1
  have e2:r=b:=by simpa using e2
  subst e1 e2;obtain⟨h1,h2,h3,h4,h5,h6,h7⟩:=h;subst h1;refine⟨rfl,by show 1<=q.2.1+r.2.1;omega,?_,?_⟩
  .show fT Y q.1 (q.1+(q.2.1+r.2.1));rw[<- Nat.add_assoc];exact so
  .show Runs Y t (q.1+(q.2.1+r.2.1)) e;rw[<- Nat.add_assoc];exact Runs.keep h7 λk k1 k2=>el k (by omega)
 |q::r::t,s,e,n+1,a,b,h,e1,e2,el,so=>by
  have f1:(r::t)[n]? = some a:=by simpa using e1
  have f2:(r::t)[n+1]? = some b:=by simpa using e2
  obtain⟨_,_,_,w4,_⟩:=Runs.two h.2.2.2 f1 f2;refine⟨h.1,h.2.1,λi j q1 q2 q3=>?_,Runs.one h.2.2.2 f1 f2 el so⟩;rw[el i (by omega),el j (by omega)];exact h.2.2.1 i j q1 q2 q3
end
section
variable{a₀:Array Keyed}{p:Array (Nat×Nat×Nat)}{st:SortSt}{prog:Program}{w:World}{A:Around}{E:Value->Shared->Prop}{s:Shared}
theorem Lf{n e:Nat}{Q:Bool->SortSt->Prop}(h0:IntKeys a₀)(hB:SB a₀ p st)(R:Runs (arrOf st) p.toList 0 e)(he:e<=a₀.size)(hn:n+1<p.size)
  (h:∀p' ak,SB a₀ p' ak->Runs (arrOf ak) p'.toList 0 e->p'.size+1=p.size->fK (arrOf st) (arrOf ak) 0 e->Q true ak):wpS (model prog w) A E s (mergeAt' n) Q st:=by
 obtain⟨a,ea⟩:∃a,p[n]? = some a:=⟨p[n],ad8.mpr ⟨by omega,rfl⟩⟩
 obtain⟨b,eb⟩:∃b,p[n+1]? = some b:=⟨p[n+1],ad8.mpr ⟨by omega,rfl⟩⟩
 obtain⟨sa,na,pw⟩:=a;obtain⟨sb,nb,Mq⟩:=b;have la:p.toList[n]? = some (sa,na,pw):=by simpa using ea
 have lb:p.toList[n+1]? = some (sb,nb,Mq):=by simpa using eb
 obtain⟨w1,w2,w3,w4,w5,w6,w7⟩:=R.two la lb;dsimp only at w1 w2 w3 w4 w5 w6 w7;subst w1;refine Yp h0 hB ea eb w2 w3 (by omega) w6 w7 λak b1 b2 b3=>?_
 have lp:((p.setIfInBounds n (sa,na+nb,pw)).eraseIdxIfInBounds (n+1)).toList=(p.toList.set n (sa,na+nb,pw)).eraseIdx (n+1):=by
  rw[Array.eraseIdxIfInBounds,dif_pos (by rw[Array.size_setIfInBounds];omega)];simp
 refine h _ ak b1 ?_ ?_ (b3.wide (by omega) w5)
 .rw[lp];exact R.one la lb b3 b2
 .rw[<- acg,lp,List.length_eraseIdx,if_pos (by rw[aeY,acg];omega),aeY,acg];omega
noncomputable def HN(pw:Nat):StateT SortSt Sem (ForInStep (Option Unit×Unit)):=do
 let c <- get
 match(if(pendingOf c).size > 1 then(pendingOf c)[(pendingOf c).size-2]? else none) with
 |some (_,_,old)=>if old<=pw then pure (.done (none,())) else do
   let b <- mergeAt' ((pendingOf c).size-2)
   if(!b)=true then pure (.done (some (),())) else pure (.yield (none,()))
 |_=>pure (.done (none,()))
noncomputable def put(sz lo n:Nat):StateT SortSt Sem (ForInStep (Option Unit×Nat)):=do
 let c <- get
 match(pendingOf c).back? with
 |some (s1,n1,_)=>do
  let d <- forIn [:sz] ((none,()):Option Unit×Unit) λ_ _=>HN (power' sz (2*s1+n1) (2*s1+n1+n1+n) sz)
  match d.fst with
  |some r=>pure (.done (some r,lo))
  |none=>do
   modify λs=>setPending s ((pendingOf s).modify ((pendingOf s).size-1) λx=>(x.fst,x.2.fst,power' sz (2*s1+n1) (2*s1+n1+n1+n) sz))
   modify λs=>setPending s ((pendingOf s).push (lo,n,0))
   pure (.yield (none,lo+n))
 |_=>do
  modify λs=>setPending s ((pendingOf s).push (lo,n,0))
  pure (.yield (none,lo+n))
theorem HM{sz lo n:Nat}{Q:ForInStep (Option Unit×Nat)->SortSt->Prop}(h0:IntKeys a₀)(hB:SB a₀ p st)(R:Runs (arrOf st) p.toList 0 lo)(hz:lo+n<=a₀.size)(h1:1<=n)(hs:fT (arrOf st) lo (lo+n))
  (h:∀p' ak,SB a₀ p' ak->Runs (arrOf ak) p'.toList 0 (lo+n)->Q (.yield (none,lo+n)) ak):wpS (model prog w) A E s (put sz lo n) Q st:=by
 unfold put;refine acE (wpS_get ?_);have last:∀{p':Array (Nat×Nat×Nat)}{ak:SortSt},SB a₀ p' ak->Runs (arrOf ak) p'.toList 0 lo->fK (arrOf st) (arrOf ak) 0 lo->Q (.yield (none,lo+n)) (setPending ak ((pendingOf ak).push (lo,n,0))):=by
  intro p' ak b r e;refine h (p'.push (lo,n,0)) _ ⟨b.perm,b.kind,b.failed,by show(pendingOf ak).push _=_;rw[b.pend]⟩ ?_;rw[aeF];refine Runs.push r h1 λi j q1 q2 q3=>?_
  rw[e i (by omega),e j (by omega)];exact hs i j q1 q2 q3
 cases hb:(pendingOf st).back? with
 |none=>exact acE (wpS_modify (ac0 (last hB R (.refl _ _ _))))
 |some q=>
  obtain⟨s1,n1,w1⟩:=q;dsimp only;generalize power' sz (2 * s1 + n1) (2 * s1 + n1 + n1 + n) sz=pw;refine acE (ad6 (ad3 (I:=λ_ (c:Option Unit×Unit) ak=>c=(none,())/\∃p',SB a₀ p' ak/\Runs (arrOf ak) p'.toList 0 lo/\fK (arrOf st) (arrOf ak) 0 lo)
   ?B_ (λ_ _ z=>z) ⟨rfl,p,hB,R,.refl _ _ _⟩) ?Hs)
  case B_=>
   rintro x c ak _ _ ⟨rfl,p',b,r,e⟩
   unfold HN;refine acE (wpS_get ?_);rw[b.pend]
   by_cases h2:p'.size > 1
   .rw[if_pos h2];cases h3:p'[p'.size-2]? with
    |none=>exact ac0 ⟨rfl,p',b,r,e⟩
    |some q=>
     obtain⟨_,_,old⟩:=q;dsimp only
     by_cases h4:old<=pw
     .rw[if_pos h4];exact ac0 ⟨rfl,p',b,r,e⟩
     .rw[if_neg h4];refine acE (Lf h0 b r (by omega) (by omega) λp2 aU b2 r2 _ e2=>?_);rw[if_neg (by simp)];exact ac0 ⟨rfl,p2,b2,r2,e.trans e2⟩
   .rw[if_neg h2];exact ac0 ⟨rfl,p',b,r,e⟩
  case Hs=>
   rintro c ak ⟨rfl,p',b,r,e⟩
   dsimp only;refine acE (wpS_modify (acE (wpS_modify (ac0 ?_))));refine last (p':=p'.modify (p'.size-1) λx=>(x.fst,x.2.fst,pw)) ⟨b.perm,b.kind,b.failed,?_⟩ ?_ e
   .show(pendingOf ak).modify ((pendingOf ak).size-1) (λx=>(x.fst,x.2.fst,pw))=p'.modify (p'.size-1) λx=>(x.fst,x.2.fst,pw)
    rw[b.pend]
   .rw[Array.toList_modify];exact Runs.power pw _ r
noncomputable def Ba(sz lo:Nat):StateT SortSt Sem (ForInStep (Option Unit×Nat)):=if lo >= sz then pure (.done (none,lo)) else do
 let x <- countRun' lo (sz-lo)
 match x with
 |some f=>
  if f<minRun' sz sz 0 then do
   liftM (rule "list.sort.binary-insertion")
   let b <- binarySort' lo (min (sz-lo) (minRun' sz sz 0)) f
   if(!b)=true then pure (.done (some (),lo)) else put sz lo (min (sz-lo) (minRun' sz sz 0))
  else put sz lo f
 |_=>pure (.done (some (),lo))
noncomputable def IK:StateT SortSt Sem (ForInStep (Option Unit×Unit)):=do
 let c <- get
 if(pendingOf c).size<=1 then pure (.done (none,()))
 else do
  let b <- mergeAt' (if Option.any (λx=>decide (x < (pendingOf c)[(pendingOf c).size - 2 + 1]?.elim 0 λx=>x.snd.fst)) (if(pendingOf c).size - 2 > 0 then Option.map (λx=>x.snd.fst) (pendingOf c)[(pendingOf c).size - 2 - 1]? else none)=true
   then(pendingOf c).size-2-1 else(pendingOf c).size-2)
  if(!b)=true then pure (.done (some (),())) else pure (.yield (none,()))
theorem XM:sortRuns'=(do
 let c <- get
 let d <- forIn [:(arrOf c).size] ((none,0):Option Unit×Nat) λ_ d=>Ba (arrOf c).size d.snd
 match d.fst with
 |some r=>pure r
 |none=>do
  let d <- forIn [:(arrOf c).size] ((none,()):Option Unit×Unit) λ_ _=>IK
  match d.fst with
  |some r=>pure r
  |none=>pure ()):=by
 rw[sortRuns'_eq];dsimp only
 congr 1
 funext c
 congr 1
 .congr 1
  funext _ d
  unfold Ba;refine ite_congr rfl (λ_=>rfl) λ_=>?_
  congr 1
  funext x
  have pe:∀n,put (arrOf c).size d.snd n=put (arrOf c).size d.snd n:=λ_=>rfl
  cases x with
  |none=>rfl
  |some f=>
   dsimp only;refine ite_congr rfl (λ_=>?_) λ_=>?_
   .congr 1
    funext _
    congr 1
    funext b
    refine ite_congr rfl (λ_=>rfl) λ_=>?_
    unfold put
    congr 1
    funext e
    cases(pendingOf e).back? with
    |none=>rfl
    |some q=>
     dsimp only
     congr 1
     funext d
     obtain⟨r,u⟩:=d;cases r<;>rfl
   .unfold put
    congr 1
    funext e
    cases(pendingOf e).back? with
    |none=>rfl
    |some q=>
     dsimp only
     congr 1
     funext d
     obtain⟨r,u⟩:=d;cases r<;>rfl
 .funext d
  obtain⟨r,u⟩:=d;cases r with
  |some r=>rfl
  |none=>
   dsimp only
   congr 1
   funext d
   obtain⟨r,u⟩:=d;cases r<;>rfl
theorem acv[Decidable c](a b:Nat):(if c then a else b)=a\/(if c then a else b)=b:=by by_cases h:c<;>simp[h]
theorem Wt{Q:Unit->SortSt->Prop}(h0:IntKeys a₀)(hB:SBase a₀ st)(h:∀ak,(arrOf ak).Perm a₀->failedOf ak=none->SortedTo (arrOf ak) a₀.size->Q () ak):wpS (model prog w) A E s sortRuns' Q st:=by
 rw[XM];refine acE (wpS_get ?_);rw[hB.size];have B0:SB a₀ #[] st:=⟨hB.perm,hB.kind,hB.failed,hB.pend⟩
 refine acE (ad6 (ad3 (I:=λx (c:Option Unit×Nat) ak=>∃lo,c=(none,lo)/\x<=lo/\lo<=a₀.size/\∃p,SB a₀ p ak/\Runs (arrOf ak) p.toList 0 lo)
  (Q:=λ(c:Option Unit×Nat) ak=>c=(none,a₀.size)/\∃p,SB a₀ p ak/\Runs (arrOf ak) p.toList 0 a₀.size) ?B_ ?fin ⟨0,rfl,abW _,aed _,#[],B0,rfl⟩) ?Hs)
 case fin=>
  rintro c ak ⟨lo,rfl,h1,h2,p,b,r⟩
  obtain rfl:lo=a₀.size:=by omega
  exact⟨rfl,p,b,r⟩
 case B_=>
  rintro x c ak _ hx ⟨lo,rfl,h1,h2,p,b,r⟩
  unfold Ba
  by_cases ge:lo >= a₀.size
  .rw[if_pos ge];obtain rfl:lo=a₀.size:=by omega
   exact ac0 ⟨rfl,p,b,r⟩
  .rw[if_neg ge];refine acE (QY h0 b (by omega) (by omega) λm aU b2 m1 m2 s2 e2=>?_);dsimp only;have r2:=r.keep λk _ k2=>e2 k (.inl k2)
   by_cases lt:m<minRun' a₀.size a₀.size 0
   .rw[if_pos lt];refine acE (wpS_lift (aee ⟨rfl,?_⟩));refine acE (Y5 h0 b2 (by omega) (by omega) s2 λdY b3 s3 e3=>?_);rw[if_neg (by simp)];refine HM h0 b3 (r2.keep λk _ k2=>e3 k (.inl k2)) (by omega) (by omega) s3 λp' AL b4 r4=>?_
    exact⟨_,rfl,by omega,by omega,p',b4,r4⟩
   .rw[if_neg lt];exact HM h0 b2 r2 (by omega) m1 s2 λp' AL b4 r4=>⟨_,rfl,by omega,by omega,p',b4,r4⟩
 case Hs=>
  rintro c ak ⟨rfl,p,b,r⟩
  dsimp only;have pl:=r.len;rw[acg] at pl;refine acE (ad6 (ad3 (I:=λx (c:Option Unit×Unit) aU=>c=(none,())/\∃p,SB a₀ p aU/\Runs (arrOf aU) p.toList 0 a₀.size/\p.size + x<=a₀.size)
   (Q:=λ(c:Option Unit×Unit) aU=>c=(none,())/\∃p,SB a₀ p aU/\Runs (arrOf aU) p.toList 0 a₀.size/\p.size<=1) ?aU ?Y9 ⟨rfl,p,b,r,by omega⟩) ?Qg)
  case Y9=>
   rintro c aU ⟨rfl,p2,b2,r2,z2⟩
   exact⟨rfl,p2,b2,r2,by omega⟩
  case aU=>
   rintro x c aU _ hx ⟨rfl,p2,b2,r2,z2⟩
   unfold IK;refine acE (wpS_get ?_);rw[b2.pend]
   by_cases le:p2.size<=1
   .rw[if_pos le];exact ac0 ⟨rfl,p2,b2,r2,le⟩
   .rw[if_neg le];refine acE (Lf h0 b2 r2 (abW _) (by rcases acv (c:=Option.any (λx=>decide (x<p2[p2.size-2+1]?.elim 0 λx=>x.snd.fst)) (if p2.size-2 > 0 then Option.map (λx=>x.snd.fst) p2[p2.size-2-1]? else none)=true) (p2.size-2-1) (p2.size-2) with e|e<;>(rw[e];omega)) λp3 dY b3 r3 z3 _=>?_);rw[if_neg (by simp)];exact ac0 ⟨rfl,p3,b3,r3,by omega⟩
  case Qg=>
   rintro c aU ⟨rfl,p2,b2,r2,z2⟩
   dsimp only;refine ac0 (h aU b2.perm b2.failed λi j lZ hj=>?_);rw[<- acg] at z2
   match hp:p2.toList,r2,z2 with
   |[],r2,_=>
    have:0=a₀.size:=r2;omega
   |[q],r2,_=>
    obtain⟨_,_,g3,g4⟩:=r2;have g4:0+q.2.1=a₀.size:=g4;exact g3 i j (aed _) lZ (by omega)
   |_::_::_,_,z2=>simp at z2
end
section
variable{prog:Program}{w:World}{A:Around}{E:Value->Shared->Prop}{s:Shared}
theorem Ym{P:Fin->Shared->Prop}(ho:s.heap.get? a=some (seqObj "list" vs.toArray n))(hI:IntsAre vs ns)(hz:vs.length<=sizeLine)
  (h:∀(out:Array Value) (ms:List Int),IntsAre out.toList ms->ms.Perm ns->ms.Pairwise (·<=·)->P (.done (.ret .none)) { s with heap:=sortedHeap s.heap a vs out }) :
  wpAny (model prog w) A (Builtin.«list.sort» ⟨[.ref a],[]⟩) P E s:=by
 by_cases i6:vs.length<64
 .exact list_sort_tree ho hI i6 h
 rw[list_sort_plain];have la:=abD ho;refine aaf (listItems_at ho rfl (aaf (listUpdate_at ho rfl ?_)));obtain⟨e1,o1⟩:∃e1,(s.heap.update a (Obj.mapSeq λ_=>#[])).get? a=some (seqObj "list" #[] e1):=⟨_,get?_update_seq ho (λ_=>#[])⟩
 refine aaf (seqEpoch_at o1 rfl (aaf (wpAny_newTuple (aaf (wpAny_newList (aea ?_))))));have o6:(((s.heap.update a (Obj.mapSeq λ_=>#[])).push (seqObj "tuple" vs.toArray 0)).push (seqObj "list" #[] 0)).get? a=some (seqObj "list" #[] e1):=by
  rw[Heap.get?_push_ne _ _ _ (by rw[size_push',Heap.size_update];exact acU (adV la)),Heap.get?_push_ne _ _ _ (by rw[Heap.size_update];exact acU la)];exact o1
 dsimp only;have n2:¬vs.toArray.size<2:=by rw[ack];omega
 rw[if_neg n2,if_neg n2]
 match vs,hI,hz,i6,ho,h,o6,n2 with
 |[],_,_,i6,_,_,_,_=>simp at i6
 |[_],_,_,i6,_,_,_,_=>simp at i6
 |v1::v2::r,hI,hz,i6,ho,h,o6,n2=>
  rw[keyKind_ints hI];refine aaf (aa1 ?_);refine aaf (adE (Wt (a₀:=pairsOf (v1::v2::r)) (st:=SortSt.mk' oneType' ((v1::v2::r).toArray.zip (v1::v2::r).toArray) #[] 7 none)
   (Q:=λ_ st=>(arrOf st).Perm (pairsOf (v1::v2::r))/\failedOf st=none/\SortedTo (arrOf st) (pairsOf (v1::v2::r)).size) hI.intKeys ⟨Array.Perm.refl _,rfl,rfl,rfl⟩ λst b1 b2 b3=>⟨b1,b2,b3⟩) ?_ λ_ _ e=>e)
  rintro⟨⟨⟩,st⟩ t ⟨rfl,hp,hf,hs⟩
  dsimp only;have sz:((arrOf st).map (·.2)).size<=sizeLine:=by rw[Array.size_map,hp.size_eq,pairsOf_size];exact hz
  refine aaf (seqEpoch_at o6 rfl (aaf (listUpdate_at o6 rfl ?_ (hsz2:=by first|exact sz|exact adX sz (by omega)))));rw[hf];simp only[bne_self_eq_false,adM,afb];obtain⟨ms,c1,c2,c3⟩:=sorted_out hI hp hs;exact aa1 (h _ ms c1 c2 c3)
end
end L2.M7
namespace L2
open PySem PySem.Spec PyProof.Rows
noncomputable def XQ(a:Addr)(cls:Value)(de:Option Addr):HO:=.ext λh=>∃oe,h.get? a=some oe/\oe.cls=cls/\(∀dx,de=some dx->oe.dict=some dx/\PySem.W.notCls oe=true)
noncomputable def Vn(ob:Obj)(a:Addr)(cls:Value)(de:Option Addr):HO:=.fH ob (XQ a cls de)
noncomputable def Jt(n:Nat)(t:Tok):Str->Option Value:=λy=>if y="slot" then some (.int n t) else none
noncomputable def ZP(dx:Addr)(n:Nat):HO:=.ext λh=>∃t,h.Ns1 dx (Jt n t)
noncomputable def wm(o:Obj):Option Value:=match o.data with
 |.fields vs=>vs[2]?
 |_=>none
def Kd(h h':Heap):Prop:=∀(a:Nat) (o:Obj),h.objs[a]? = some o->∃o',h'.objs[a]? = some o'/\o'.dict=o.dict/\wm o'=wm o
theorem Kd.at{h h':Heap}(k:Kd h h'){a:Addr}{o o':Obj}(e:h.get? a=some o)(e':h'.get? a=some o'):o'.dict=o.dict/\wm o'=wm o:=by
 have raw:∀{h:Heap}{o:Obj},h.get? a=some o->h.objs[a]? = some o:=λ{h o} e=>by
  unfold Heap.get? at e
  split at e
  .cases e
  .exact e
 obtain⟨u,q,d⟩:=k a o (raw e);rw[raw e'] at q;cases q;exact d
def US(h:Heap)(H:Hp)(nw:Addr->Prop)(e:Addr):Option Addr->Prop
 |none=>True
 |some n=>∃oe dx t,h.get? e=some oe/\oe.dict=some dx/\h.Ns1 dx (Jt n t)/\H dx=none/\nw dx
def Ox(h:Heap)(H:Hp)(nw:Addr->Prop)(e:Addr)(fU:Option Addr):Prop:=(∃oe,h.get? e=some oe/\wm oe=some .none)/\US h H nw e fU
structure Sn(h:Heap)(H:Hp)(h0:Heap)(e:Addr)(cls:Value)(fU:Option Addr):Prop where
 py:Ox h H (λa=>h0.get? a=none) e fU
 nw:h0.get? e=none
 fr:H e=none
 ob:∃oe vs a0,h.get? e=some oe/\oe.cls=cls/\vs[0]? = some a0/\oe.data=.fields vs/\vs[1]? = some .none
theorem Un.dead(u:Un fs [] H H' h h')(n:h'.get? a=none):h.get? a=none:=by
 cases q:h.get? a with
 |none=>rfl
 |some o=>
  obtain⟨o',e⟩:=u.there a o q (by simp);rw[n] at e;cases e
noncomputable abbrev XS:=Value->Option Addr->St->Hp->Prop
def abj(X:Cx)(E:XS):Prop:=∀(pins:List (Addr×Obj)) (σ:St) (H:Hp) (s:Shared) (e:Addr) (cls:Value) (fU:Option Addr),Inv X pins σ H s->Sn s.heap H X.d_.heap e cls fU->E cls fU σ H->X.xe (.ref e) s
section
variable{X:Cx}{pins:List (Addr×Obj)}{σ:St}{H:Hp}{s:Shared}{h':Heap}
theorem Inv.apart(I:Inv X pins σ H s)(hx:X.ex=[])(n:s.heap.get? x=none):X.d_.heap.get? x=none/\x≠X.env.locals/\(∀y c,X.env.cells.lookup y=some c->c≠x)/\∀p∈X.pn++pins,p.1≠x:=by
 refine⟨?_,λz=>?_,λy c e z=>?_,λp hp z=>?_⟩
 .have u:=I.base;rw[hx] at u;exact u.dead n
 .obtain⟨m,⟨o,_,_,ho,_⟩,_⟩:=I.loc;rw[<- z,n] at ho;cases ho
 .obtain⟨v,o,ho,_⟩:=I.cell y c e;rw[z,n] at ho;cases ho
 .have:=(I.pin p hp).1;rw[z,n] at this;cases this
noncomputable abbrev Apart(X:Cx)(pins:List (Addr×Obj))(a:Addr):Prop:=X.d_.heap.get? a=none/\a≠X.env.locals/\(∀y c,X.env.cells.lookup y=some c->c≠a)/\∀p∈X.pn++pins,p.1≠a
structure Io(X:Cx)(pins:List (Addr×Obj))(σ:St)(H:Hp)(e:Addr)(cls:Value)(fU:Option Addr)(s:Shared):Prop where
 py:Ox s.heap H (Apart X pins) e fU
 inv:Inv X pins σ H s
 fr:H e=none
 ap:X.d_.heap.get? e=none/\e≠X.env.locals/\(∀y c,X.env.cells.lookup y=some c->c≠e)/\∀p∈X.pn++pins,p.1≠e
 ob:∃oe vs a0 T oT ts,s.heap.get? e=some oe/\oe.cls=cls/\vs[0]? = some a0/\oe.data=.fields vs/\vs[1]? = some (.ref T)/\T≠e/\H T=none/\(X.d_.heap.get? T=none/\T≠X.env.locals/\(∀y c,X.env.cells.lookup y=some c->c≠T)/\∀p∈X.pn++pins,p.1≠T)/\s.heap.get? T=some oT/\oT.data=.fields ts/\ts[3]? = some .none
end
def uM(X:Cx)(E:XS):Prop:=∀(pins:List (Addr×Obj)) (σ:St) (H:Hp) (s:Shared) (e:Addr) (cls:Value) (fU:Option Addr),Io X pins σ H e cls fU s->E cls fU σ H->X.xe (.ref e) s
def II(X:Cx)(pins:List (Addr×Obj))(σ:St)(E:XK)(e:Value)(s':Shared):Prop:=∃a cls fU H',e=.ref a/\Io X pins σ H' a cls fU s'/\E cls fU H'
noncomputable abbrev TX:=St->Hp->VK->XK->Prop
def PX(X:Cx)(e:Expr)(t:TX):Prop:=
 ∀(pins:List (Addr×Obj)) (s:Shared) (σ:St) (H:Hp) (Q:VK) (E:XK),Inv X pins σ H s->t σ H Q E->wpAny (model X.prog X.w) X.A (eval e X.env) (EP X pins σ Q) (II X pins σ E) s
section
variable{X:Cx}{cm:Bool}{k:Nat}{f C:Addr}{fd:FuncData}{ps:List Str}{sp:Sp}{gh:List V}{ds:List Value}{x m:Str}{p pos apos:Pos}{e o:Expr}{es:List Expr}{ta:TE}{t:TA}
theorem Xa(ha:PE X.gq o ta)(I:Inv X pins σ H s)(h:ta σ H Q):
  wpAny (model X.prog X.w) X.A (eval o X.env) (EP X pins σ Q) E' s:=
 adE (ha pins s σ H Q (I.jt _) h) (λus s1 ⟨vs,H1,I1,q⟩=>⟨vs,H1,I1.kX,q⟩) λ_ _ z=>False.elim z
end
section
variable{X:Cx}{e:Expr}{t:TX}{ES:XS}{pos:Pos}
theorem HU(th:uM X ES)(h:II X pins σ (λcls fU H=>ES cls fU σ H) v s):X.xe v s:=by
 obtain⟨a,cls,fU,H',rfl,L,q⟩:=h;exact th pins σ H' s a cls fU L q
def Pz(i:Nat)(ES:XS)(t:TX):TS:=λD σ H=>t σ H (λv H1=>D.nx (σ.set i (some v)) H1) λcls fU H'=>ES cls fU σ H'
theorem Mp(th:uM X ES)(hN:X.N.Nodup)(hi:X.N[i]? = some x)(hx:Loc X.env.scope x)(he:PX X e t)(hs:swapsWith e (some (.Name x pos')) pos.line X.env=pure false:=by rfl)(hf:X.fn x=true\/X.env.scope.names.lookup x=some .local:=by first|exact .inl rfl|exact .inr rfl|assumption):
  PS X (.Assign [.Name x pos'] e pos) (Pz i ES t):=by
 intro pins s σ H D I h;refine wpAny_Assign_Name (adE (he pins s σ H _ _ I h) (λv s1 ⟨y,H1,I1,r1,q1⟩=>?_) λ_ _ z=>HU th z) hs;exact D6 I1 hN hi hx r1 (λs2 I2=>⟨_,H1,I2,q1⟩) hf
def QW(ES:XS)(t:TX):TS:=λD σ H=>t σ H (λ_ H1=>D.nx σ H1) λcls fU H'=>ES cls fU σ H'
theorem acw(th:uM X ES)(he:PX X e t)(hs:swapsWith e none pos.line X.env=pure false:=by rfl):PS X (.Expr e pos) (QW ES t):=by
 intro pins s σ H D I h;exact wpAny_Expr_any (adE (he pins s σ H _ _ I h) (λv s1 ⟨x,H1,I1,r1,q1⟩=>⟨σ,H1,I1,q1⟩) λ_ _ z=>HU th z) I.quiet hs
end
section
variable{prog:Program}{w:World}{A:Around}{R:Result->Shared->Prop}{s:Shared}
theorem abx{env:Env}(Iv:Nat->Shared->Prop)
  (turn:∀n s,Iv n s->wpAny (model prog w) A (pyNext it) (λr s1=>match r with
   |none=>R (.ok .next) s1
   | some v=>wpAny (model prog w) A (letOwnedTupleGo tg it v) (λ_ AK=>wpAny (model prog w) A (assign tg env v) (λ_ s2=>
     wpAny (model prog w) A (forIn ifs true λc r=>if r=true then do let ok <- isTrue c env (eval c env);pure (ForInStep.yield ok) else pure (ForInStep.yield r)) (λok s3=>
      if ok=true then wpAny (model prog w) A (eval elt env) (λx s4=>
       wpAny (model prog w) A (call (.builtin "list.append") [acc,x]) (λ_ s5=>∃m,m<n/\Iv m s5) (λ_ _=>False) s4) (λ_ _=>False) s3
      else ∃m,m<n/\Iv m s3) (λ_ _=>False) s2) (λ_ _=>False) AK) (λ_ _=>False) s1) (λ_ _=>False) s)
  (n:Nat) (hn:Iv n s):codeAny (model prog w) A (.compLoop (.ListComp elt [⟨tg,iter,ifs,0⟩] scope pos) 0 it acc env) R s:=by
 have ff:∀{E:Value->Shared->Prop} (x:Value) (s:Shared),False->E x s:=λ_ _ f=>f.elim
 refine codeAny_loop rfl Iv (λk s0 hI=>?_) n hn;refine wpAny_noted ?_;rw[compTurn_list];refine aaf (wpAny_standAt (aaf (adE (turn k s0 hI) (λr s1 h1=>?_) ff)));cases r with
 |none=>exact aa1 h1
 |some v=>
  refine aaf (adE h1 (λ_ AK ia=>aaf (adE ia (λ_ s2 h2=>aaf (adE h2 (λok s3 h3=>?_) ff)) ff)) ff);cases ok with
  |false=>exact aa1 ⟨rfl,h3⟩
  |true=>exact aaf (aaf (adE h3 (λx s4 h4=>aaf (adE h4 (λ_ s5 h5=>aa1 (aa1 ⟨rfl,h5⟩)) ff)) ff))
end
noncomputable def frees(sc:Scope):List Str:=(sc.names.filter λx=>x.2 == .free).map (·.1)
noncomputable def kK(env:Env):List (Str×NameKind)->List (Str×Addr)->List (Str×Addr)
 |[],cs=>cs
 |(n,k)::r,cs=>kK env r (if k == .free then(n,(env.cells.lookup n).getD 0)::cs else cs)
theorem M_{env:Env}(h:∀x∈frees sc,∃c,env.cells.lookup x=some c):closureFor sc env=pure (kK env sc.names []):=by
 have key:∀(l:List (Str×NameKind)) (cs:List (Str×Addr)),(∀x∈(l.filter λx=>x.2 == .free).map (·.1),∃c,env.cells.lookup x=some c)->
   (forIn l cs λx r=>(do
    let(name,kind):=x
    if kind == .free then do
     let a <- cellOf env name
     pure (ForInStep.yield ((name,a)::r))
    else pure (ForInStep.yield r):Sem (ForInStep (List (Str×Addr)))))=pure (kK env l cs):=by
  intro l
  induction l with
  |nil=>intro cs _;rfl
  |cons p r ih=>
   obtain⟨n,k⟩:=p;intro cs h;rw[List.forIn_cons]
   by_cases hk:(k==NameKind.free)=true
   .obtain⟨c,hc⟩:=h n (by simp[hk]);have BE:=ih ((n,c)::cs) λx hx=>h x (by simp only[List.filter_cons,hk,afp,aaH,abh];exact Or.inr hx)
    have e:cellOf env n=pure c:=by unfold cellOf;rw[hc]
    simp only[hk,afp,e,pure_bind,kK,hc,Option.getD_some];exact BE
   .have BE:=ih cs λx hx=>h x (by simp only[List.filter_cons,hk];exact hx)
    simp only[hk,kK,adM,afb,pure_bind];exact BE
 unfold closureFor;have k:=key sc.names [] h;simp only[bind_pure] at k ⊢
 first
  |exact k
  |(simp only[pure_bind];exact k)
theorem HL{env:Env}:∀{l:List (Str×NameKind)}{cs:List (Str×Addr)}{x:Str}{c:Addr},(kK env l cs).lookup x=some c->
  cs.lookup x=some c\/((x,NameKind.free)∈l/\c=(env.cells.lookup x).getD 0)
 |[],_,_,_,h=>.inl h
 |(n,k)::r,cs,x,c,h=>by
  rcases HL (l:=r) h with q|⟨q,e⟩
  .by_cases hk:(k==NameKind.free)=true
   .rw[if_pos hk,adQ] at q
    by_cases hx:(x==n)=true
    .rw[hx] at q;have e:=eq_of_beq hx;subst e;have jX:k=.free:=by cases k<;>first|rfl|exact absurd hk (by decide)
     subst jX;exact .inr ⟨aaF,(aco q).symm⟩
    .rw[Bool.not_eq_true] at hx;rw[hx] at q;exact .inl q
   .rw[if_neg hk] at q;exact .inl q
  .exact .inr ⟨aaY _ q,e⟩
theorem Hw{env:Env}:∀{l:List (Str×NameKind)}{cs:List (Str×Addr)}{x:Str},(∃c,cs.lookup x=some c)\/(x,NameKind.free)∈l->∃c,(kK env l cs).lookup x=some c
 |[],_,_,h=>h.elim id λz=>nomatch z
 |(n,k)::r,cs,x,h=>by
  refine Hw (l:=r) ?_;rcases h with⟨c,h⟩|h
  .left
   by_cases hk:(k==NameKind.free)=true
   .rw[if_pos hk,adQ]
    by_cases hx:(x==n)=true
    .rw[hx];exact⟨_,rfl⟩
    .rw[Bool.not_eq_true] at hx;rw[hx];exact⟨c,h⟩
   .rw[if_neg hk];exact⟨c,h⟩
  .rcases abh.mp h with e|h
   .left
    cases e;rw[if_pos (by decide),adQ,aeo];exact⟨_,rfl⟩
   .exact .inr h
noncomputable def eX(X:Cx)(N:List Str)(sc:Scope)(s3:Shared)(H3:Hp)(fp:List Addr):Cx:=
 { X with N:=N,d_:=s3,uY:=H3,env:=compEnvC sc (kK X.env sc.names []) s3.heap.objs.size X.env,outer:=X.stack,stack:=X.stack,ex:=fp,fn:=λ_=>false,pn:=[],xe:=λ_ _=>False }
noncomputable def k6(js:List (Option Nat))(σ:St):St:=js.map λj=>match j with
 |none=>none
 |some j=>(σ[j]?).join
noncomputable def m8(N:List Str)(sc:Scope):List Str->List (Option Nat)->Bool
 |[],[]=>true
 |x::r,none::js=>m8 N sc r js
 |x::r,some j::js=>decide (N[j]? = some x)&&decide (sc.names.lookup x=some .free)&&m8 N sc r js
 |_,_=>false
theorem xy:∀{M:List Str}{js:List (Option Nat)},m8 N sc M js=true->js.length=M.length
 |[],[],_=>rfl
 |_::r,none::js,h=>by
  have:=xy (js:=js) h;simp[this]
 |_::r,some j::js,h=>by
  unfold m8 at h;have:=xy ((acr _ _).mp h).2;simp[this]
 |[],_::_,h=>by cases h
 |_::_,[],h=>by cases h
theorem GC:∀{M:List Str}{js:List (Option Nat)}{i j:Nat}{x:Str},m8 N sc M js=true->M[i]? = some x->js[i]? = some (some j)->N[j]? = some x/\sc.names.lookup x=some .free
 |[],_,_,_,_,_,h,_=>by simp at h
 |_::_,[],_,_,_,h,_,_=>by cases h
 |y::r,none::js,0,j,x,h,h1,h2=>by simp at h2
 |y::r,some q::js,0,j,x,h,h1,h2=>by
  simp at h1 h2;subst h1 h2;unfold m8 at h;obtain⟨a,b⟩:=(acr _ _).mp ((acr _ _).mp h).1;exact⟨ac5 a,ac5 b⟩
 |y::r,none::js,i+1,j,x,h,h1,h2=>GC (js:=js) h (by simpa using h1) (by simpa using h2)
 |y::r,some q::js,i+1,j,x,h,h1,h2=>by
  unfold m8 at h;exact GC ((acr _ _).mp h).2 (by simpa using h1) (by simpa using h2)
structure o_(X:Cx)(M:List Str)(js:List (Option Nat))(sc:Scope):Prop where
 kind:sc.kind=.function
 MZ:∀y∈sc.names,y.2≠.cell
 loc:∀y∈sc.names,y.2=.local->sc.names.lookup y.1=some .local
 EE:m8 X.N sc M js=true
 free:∀x∈frees sc,X.env.kindOf x=some .cell\/X.env.kindOf x=some .free
 nd:M.Nodup
def GY(wi:TI)(js:List (Option Nat))(g:TG)(tt:TT)(te:TE):TE:=λσ H Q=>wi σ H λJ H1=>∀D,H1 D=none->
 ∃W:Nat->Nat->St->Hp->Prop,(∃m,W 0 m (k6 js σ) (upd H1 D (.lst [])))/\∀i m aD H',W i m aD H'->
  (J.stop i H'/\Q (.ref D) H')\/(J.go i H'/\∀x H2,J.uu i H' x H2->g x aD H2 λd8 H3=>tt d8 H3 λb H4=>
   if b=true then te d8 H4 λy H5=>∃xs,H5 D=some (.lst xs)/\xs.length<sizeLine/\∃m',m'<m/\W (i+1) m' d8 (upd H5 D (.lst (xs++[y])))
   else ∃m',m'<m/\W (i+1) m' d8 H4)
def wH(X:Cx)(ifs:List Expr)(t:TT):Prop:=
 ∀(pins:List (Addr×Obj)) (s:Shared) (σ:St) (H:Hp) (Q:Bool->Hp->Prop),Inv X pins σ H s->t σ H Q->
  wpAny (model X.prog X.w) X.A (forIn ifs true λc r=>if r=true then do let ok <- isTrue c X.env (eval c X.env);pure (ForInStep.yield ok) else pure (ForInStep.yield r)) (TP X pins σ Q) X.xe s
theorem S9{t:TT}(h:PT X c t):wH X [c] t:=λpins s σ H Q I q=>wpAny_tests_one (h pins s σ H Q I q)
section
variable{X:Cx}
theorem Inv.comp(S:o_ X M js sc)(I:Inv X pins σ H3 s3)
  (hf:∀b∈fp,iX X pins H3 b) (cT:∀b∈fp,b<s3.heap.objs.size) (hn:h'.Ns s3.heap.objs.size λ_=>none) (hk:∀b o,s3.heap.get? b=some o->h'.get? b=some o) :
  Inv (eX X M sc s3 H3 fp) [] (k6 js σ) H3 { s3 with heap:=h',toks:=tk }:=by
 have cl:∀{x:Str}{c:Addr},(kK X.env sc.names []).lookup x=some c->X.env.cells.lookup x=some c:=λ{x c} e=>by
  rcases HL e with q|⟨q,e'⟩
  .cases q
  .obtain⟨c',hc⟩:=I.ok.has x (S.free x (adi.mpr ⟨(x,.free),ad0.mpr ⟨q,rfl⟩,rfl⟩));rw[hc] at e' ⊢;rw[e'];rfl
 have jW:=adX I.ok.jW I.sz;have lk:∀{x:Str},sc.names.lookup x=some .free->(relabel sc X.env).names.lookup x=some .cell\/(relabel sc X.env).names.lookup x=some .free:=λ{x} e=>by
  have key:∀(l:List (Str×NameKind)),l.lookup x=some .free->(l.map λ(n,k)=>if(k==NameKind.free&&X.env.scope.kind == .function&&X.env.kindOf n==some .cell) then(n,NameKind.cell) else(n,k)).lookup x=some .cell\/
    (l.map λ(n,k)=>if(k==NameKind.free&&X.env.scope.kind == .function&&X.env.kindOf n==some .cell) then(n,NameKind.cell) else(n,k)).lookup x=some .free:=by
   intro l
   induction l with
   |nil=>intro e;cases e
   |cons p r ih=>
    obtain⟨n,k⟩:=p;intro e;rw[adQ] at e;rw[aaH]
    by_cases hx:(x==n)=true
    .rw[hx] at e;have e':=aco e;subst e';dsimp only
     split
     .left;rw[adQ,hx]
     .right;rw[adQ,hx]
    .rw[Bool.not_eq_true] at hx;rw[hx] at e;dsimp only
     split<;>(rw[adQ,hx];exact ih e)
  exact key sc.names e
 have kf:∀{x:Str},((relabel sc X.env).names.lookup x=some .cell\/(relabel sc X.env).names.lookup x=some .free)->(x,NameKind.free)∈sc.names:=λ{x} e=>by
  have key:∀(l:List (Str×NameKind)),(∀y∈l,y.2≠.cell)->((l.map λ(n,k)=>if(k == NameKind.free&&X.env.scope.kind == .function&&X.env.kindOf n == some .cell) then(n,NameKind.cell) else(n,k)).lookup x=some .cell\/
    (l.map λ(n,k)=>if(k==NameKind.free&&X.env.scope.kind == .function&&X.env.kindOf n==some .cell) then(n,NameKind.cell) else(n,k)).lookup x=some .free)->(x,NameKind.free)∈l:=by
   intro l
   induction l with
   |nil=>intro _ e;rcases e with e|e<;>cases e
   |cons p r ih=>
    obtain⟨n,k⟩:=p;intro nc e;rw[aaH] at e
    by_cases hx:(x==n)=true
    .have e0:=eq_of_beq hx;subst e0;have hkf:k=.free:=by
      dsimp only at e
      split at e
      .rename_i hc;have:=((acr _ _).mp ((acr _ _).mp hc).1).1;cases k<;>first|rfl|exact absurd this (by decide)
      .rw[adQ,aeo] at e;rcases e with e|e
       .exact absurd (aco e) (nc _ aaF)
       .exact aco e
     rw[hkf];exact aaF
    .rw[Bool.not_eq_true] at hx;refine aaY _ (ih (λy hy=>nc y (aaY _ hy)) ?_);dsimp only at e
     split at e<;>(rw[adQ,hx] at e;exact e)
  exact key sc.names S.MZ e
 refine⟨⟨I.ok.mod,S.kind,I.ok.glob,I.ok.blt,abW _,λx y c h1 h2=>I.ok.inj x y c (cl h1) (cl h2),λx hx=>Hw (.inr (kf hx)),(λx c h _=>by cases h),I.ok.hd,I.ok.frames,.inl rfl,λb hb=>⟨acU (cT b hb),λx c e=>(hf b hb).2.2.2.2.1 x c (cl e)⟩,
   I.bs,jW,λb o e hb=>?_,λb hb rF=>?_,I.stack,I.M4⟩,
  rfl,I.bare,Un.kept hk,⟨_,hn,λi x v h1 h2 h3=>?_⟩,λx c e=>?_,I.aI.fresh (abW _),λx c e=>I.j_ x c (cl e),λp hp=>absurd (show p∈([]:List (Addr×Obj)) from hp) (by simp),I.aI.kept hk,?_,I.hq⟩
 .rcases(hf b hb).2.2.2.1 with z|z
  .exact I.ok.sJ b o e z
  .exact absurd (adl (abD e) (adX I.ok.jW z)) (adx _)
 .rcases abh.mp (I.Gr b rF) with z|z
  .exact(hf b hb).2.1 z
  .exact(hf b hb).2.2.1 z
 .have hlen:=xy S.EE;have hi:i<js.length:=by rw[hlen];exact(acY.mp h1).1
  unfold k6 at h2;rw[acX,abL hi,Option.map_some] at h2;cases hj:js[i] with
  |none=>rw[hj] at h2;cases h2
  |some j=>
   rw[hj] at h2;have jj:(σ[j]?).join=some v:=aco h2;obtain⟨a,b⟩:=GC S.EE h1 (by rw[abL hi,hj]);have hs:σ[j]? = some (some v):=by
    cases q:σ[j]? with
    |none=>rw[q] at jj;cases jj
    |some z=>rw[q] at jj;rw[show z=some v from jj]
   have uh:=S.free x (adi.mpr ⟨(x,.free),ad0.mpr ⟨PySem.mem_of_lookup b,rfl⟩,rfl⟩);obtain⟨m,hm,hl⟩:=I.loc;obtain⟨u,ru,l⟩:=hl j x v a hs (uh.elim (λz=>.inr (.inl z)) λz=>.inr (.inr z));refine⟨u,ru,.inr ⟨lk b,?_⟩⟩;rcases l with⟨k,_⟩|⟨_,c,e,hc⟩
   .rcases uh with z|z<;>(rw[z] at k;cases k)
   .obtain⟨c',pW⟩:=Hw (env:=X.env) (cs:=[]) (.inr (PySem.mem_of_lookup b));have e':=cl pW;rw[e] at e';have e2:=aco e';subst e2;obtain⟨o,ho,hd⟩:=hc;exact⟨c,pW,o,hk _ _ ho,hd⟩
 .obtain⟨v,o,ho,hd⟩:=I.cell x c (cl e);exact⟨v,o,hk _ _ ho,hd⟩
 .unfold k6;rw[List.length_map];exact xy S.EE
theorem Inv.ME(I:Inv X pins σ H3 s3)(hf:∀b∈fp,iX X pins H3 b)
  (J:Inv (eX X M sc s3 H3 fp) Km aD H' s') (hs:Heap.SameBut s3.heap.objs.size s'.heap h'):Inv X pins σ H' { s' with heap:=h' }:=by
 have B:=J.base;have ne:∀{b:Addr}{o:Obj},s3.heap.get? b=some o->b≠s3.heap.objs.size:=λe=>acU (abD e)
 have B':Un (jM X.stack) fp H3 H' s3.heap h':=⟨λb o e n hb hx=>(hs.2 b (ne e)).trans (B.keep b o e n hb hx),λb o e n hb hx=>let⟨sl,q⟩:=B.slot b o e n hb hx;⟨sl,(hs.2 b (ne e)).trans q⟩,B.free,
  λb o e hx=>let⟨o',q⟩:=B.there b o e hx;⟨o',(hs.2 b (ne e)).trans q⟩,B.nJ,B.k8,B.m_⟩
 have fr:H' s3.heap.objs.size=none:=J.free;refine I.Lw (s':={ s' with heap:=h' }) (ch:=fp) J.os B' (λb u e=>?_) J.bare λb hb=>⟨(hf b hb).2.2.2.1,(hf b hb).2.1,(hf b hb).2.2.2.2.1,(hf b hb).2.2.2.2.2⟩
 refine(J.aI b u e).kH (λc v hc q=>(hs.2 c ?_).trans q) (λ_ q=>q) λ_ _ q=>q
 rintro rfl
 rcases hc with rfl|hc
 .rw[fr] at e;cases e
 .rw[fr] at hc;cases hc
theorem Ko{tt:TT}{fp:List Addr}
  {tn:Nat->Heap->Prop}{J:It}{Q:VK}{RR:Value->Addr->Result->Shared->Prop} (S:o_ X M js sc) (hc:X.calm=true\/J.rg=true) (I2:Inv X pins σ H2 s2) (T:Turn X.prog X.w X.K tg J fp it tn) (st:tn 0 s2.heap) (hf:∀b∈fp,iX X pins H2 b)
  (hb:∀s3 H3 fp,PG (eX X M sc s3 H3 fp) tg g/\wH (eX X M sc s3 H3 fp) ifs tt/\PE (eX X M sc s3 H3 fp) elt te)
  (h:∀D,H2 D=none->∃W:Nat->Nat->St->Hp->Prop,(∃m,W 0 m (k6 js σ) (upd H2 D (.lst [])))/\∀i m aD H',W i m aD H'->
   (J.stop i H'/\Q (.ref D) H')\/(J.go i H'/\∀x H2,J.uu i H' x H2->g x aD H2 λd8 H3=>tt d8 H3 λb H4=>
    if b=true then te d8 H4 λy H5=>∃xs,H5 D=some (.lst xs)/\xs.length<sizeLine/\∃m',m'<m/\W (i+1) m' d8 (upd H5 D (.lst (xs++[y])))
    else ∃m',m'<m/\W (i+1) m' d8 H4))
  (hR:∀D s3 H3 s' aD H',Inv X pins σ H3 s3->(∀b∈fp,iX X pins H3 b)->Inv (eX X M sc s3 H3 fp) [] aD H' s'->Q (.ref D) H'->RR (.ref D) s3.heap.objs.size (.ok .next) s') :
  wpAny (model X.prog X.w) X.A (newList []) (λacc Ai=>wpAny (model X.prog X.w) X.A (newFunctionEnv sc X.env.globals (kK X.env sc.names []) [] X.env.qual none .none (some X.env)) (λJc ab4=>
   codeAny (model X.prog X.w) X.A (.compStart (.ListComp elt [⟨tg,iter,ifs,0⟩] sc pos) 0 (.ref it) acc { Jc with scope:=relabel sc X.env }) (RR acc Jc.locals) ab4) X.xe Ai) X.xe s2:=by
 have U8:=I2.aI.fresh (abW _);obtain⟨W,⟨m0,w0⟩,turn⟩:=h _ U8;have I3:Inv X pins σ (upd H2 s2.heap.objs.size (.lst [])) { s2 with heap:=s2.heap.push { cls:=.type "list",data:=.seq ([]:List Value).toArray } }:=
  I2.laid (λ_ _ q=>aaB _ q) (abW _) ⟨aed _,[],0,.nil,abU _ rfl⟩
 have Ir:∀b∈fp,b<s2.heap.objs.size:=λb hb=>let⟨_,e,_⟩:=T.obj _ _ st b hb;abD e
 have Bd:∀b∈fp,iX X pins (upd H2 s2.heap.objs.size (.lst [])) b:=λb hb=>⟨by rw[aY (acU (Ir b hb))];exact(hf b hb).1,(hf b hb).2⟩
 have hsz:(s2.heap.push { cls:=.type "list",data:=.seq ([]:List Value).toArray }).objs.size=s2.heap.objs.size+1:=adP ..;refine adq (wpAny_newFunctionEnv S.MZ (λy hy=>nomatch hy) (λh1 U6 YA=>?_) S.kind);generalize uX:({ s2 with heap:=s2.heap.push { cls:=.type "list",dict:=none,data:=.seq ([]:List Value).toArray } }:Shared)=s3 at *;have su:∀b o,s3.heap.get? b=some o->h1.get? b=some o:=λb o e=>(YA.2 b (acU (abD e))).trans (aaB _ e)
 have Iq:∀b∈fp,b<s3.heap.objs.size:=λb hb=>by rw[<- uX];show b<(s2.heap.push _).objs.size;rw[hsz];exact adV (Ir b hb)
 have I4:Inv (eX X M sc s3 (upd H2 s2.heap.objs.size (.lst [])) fp) [] (k6 js σ) (upd H2 s2.heap.objs.size (.lst [])) { s3 with heap:=h1,toks:=s3.toks+([]:List (Str×Value)).length }:=I3.comp S Bd Iq U6 su;obtain⟨hg,ht,he⟩:=hb s3 (upd H2 s2.heap.objs.size (.lst [])) fp;have pQ:∀{H':Hp},(∀b∈fp,H' b=none)->∀b∈fp,iX (eX X M sc s3 (upd H2 s2.heap.objs.size (.lst [])) fp) [] H' b:=λ{H'} hn b hb=>
  ⟨hn b hb,acU (Iq b hb),I4.ok.qU b hb,.inl hb,(I4.ok.yG b hb).2,λp hp=>absurd (show p∈([]:List (Addr×Obj)) from hp) (by simp)⟩
 have AL:=T.keep _ _ _ st λb hb o e=>su b o (by rw[<- uX];exact aaB _ e)
 have YY:∀b∈fp,upd H2 s2.heap.objs.size (.lst []) b=none:=λb hb=>(Bd b hb).1
 have loop:codeAny (model X.prog X.w) X.A (.compLoop (.ListComp elt [⟨tg,iter,ifs,0⟩] sc pos) 0 (.ref it) (.ref s2.heap.objs.size) (compEnvC sc (kK X.env sc.names []) s3.heap.objs.size X.env)) (RR (.ref s2.heap.objs.size) s3.heap.objs.size)
   { s3 with heap:=h1,toks:=s3.toks+([]:List (Str×Value)).length }:=by
  refine abx (λn s'=>∃i aD H',Inv (eX X M sc s3 (upd H2 s2.heap.objs.size (.lst [])) fp) [] aD H' s'/\tn i s'.heap/\(∀b∈fp,H' b=none)/\W i n aD H') ?_ m0 ⟨0,_,_,I4,AL,YY,w0⟩
  rintro n s5 ⟨i,yc,H5,I5,sP,yY,w5⟩
  rcases turn i n yc H5 w5 with⟨stop,q⟩|⟨go,step⟩
  .refine aQ (T.done (eX X M sc s3 (upd H2 s2.heap.objs.size (.lst [])) fp) rfl rfl rfl hc i [] s5 yc H5 _ I5 (pQ yY) sP stop) λr s6 ⟨hr,I6⟩=>?_
   subst hr;exact hR _ _ _ _ _ _ I3 Bd I6 q
  .refine aQ (T.item (eX X M sc s3 (upd H2 s2.heap.objs.size (.lst [])) fp) rfl rfl rfl hc i [] s5 yc H5 _ I5 (pQ yY) sP go) λr s6 ⟨u,hr,h6⟩=>?_
   subst hr;refine aQ h6 λ_ s7 ⟨x,H7,I7,r7,y7,F6,Q8⟩=>?_
   have Xh:=I7.pinned (pQ Q8) (T.obj _ _ F6);have back:∀{ou:St}{H8:Hp}{s8:Shared},Inv (eX X M sc s3 (upd H2 s2.heap.objs.size (.lst [])) fp) ([]++uN fp s7.heap) ou H8 s8->tn (i+1) s8.heap/\(∀b∈fp,H8 b=none):=λ{ou H8 s8} I8=>
    ⟨T.keep _ _ _ F6 λb hb o e=>(I8.pin (b,o) (acQ _ (acQ _ (yq hb e)))).1,λb hb=>by
     obtain⟨o,e,_⟩:=T.obj _ _ F6 b hb;exact(I8.pin (b,o) (acQ _ (acQ _ (yq hb e)))).2.1⟩
   refine aQ (hg _ s7 yc H7 x u _ Xh r7 (step x H7 y7)) λ_ s8 ⟨ou,H8,I8,q8⟩=>?_
   refine aQ (ht _ s8 ou H8 _ I8 q8) λok s9 ⟨H9,I9,q9⟩=>?_
   cases ok with
   |false=>
    rw[if_neg ab3] at q9 ⊢;obtain⟨m',hm,w9⟩:=q9;obtain⟨a9,b9⟩:=back I9;exact⟨m',hm,i+1,ou,H9,I9.u9,a9,b9,w9⟩
   |true=>
    rw[if_pos rfl] at q9 ⊢;refine aQ (he _ s9 ou H9 _ I9 q9) λy CJ ⟨yv,JH,Ui,O5,xs,hD,hz,m',hm,w10⟩=>?_
    refine aQ (vE _ CJ ou JH (.ref s2.heap.objs.size) [yv] (.ref s2.heap.objs.size) [y] (λv LV=>v=.aE/\LV=upd JH s2.heap.objs.size (.lst (xs++[yv]))) Ui rfl (.cons O5 .nil) ⟨_,xs,yv,rfl,rfl,hD,hz,rfl,rfl⟩) λ_ s11 ⟨v11,LV,Mc,_,_,Sv⟩=>?_
    subst Sv;obtain⟨a9,b9⟩:=back Mc;exact⟨m',hm,i+1,ou,_,Mc.u9,a9,b9,w10⟩
 exact codeAny_compStart_list loop (T.self _ 0 _ _ _ AL loop)
theorem aah{tt:TT}(S:o_ X M js sc)(hc:X.calm=true)(hi:PI X tg iter wi)
  (hb:∀s3 H3 fp,PG (eX X M sc s3 H3 fp) tg g/\wH (eX X M sc s3 H3 fp) ifs tt/\PE (eX X M sc s3 H3 fp) elt te) (hs:∀x,foldedSetIterable iter X.env x=pure x:=by intro _;rfl) :
  PE X (.ListComp elt [⟨tg,iter,ifs,0⟩] sc pos) (GY wi js g tt te):=by
 intro pins s σ H Q I h;rw[eval_ListComp];refine wpAny_comprehension_free (use:=none) rfl hs (M_ λx hx=>I.ok.has x (S.free x hx)) S.kind S.loc ?_;refine aQ (hi pins s σ H _ I h) λv s1 h1=>aQ h1 λAo s2 ⟨it,fp,tn,J,H2,e,I2,T,aU,f2,h2⟩=>?_
 subst e;refine Ko (RR:=λacc C=>compPost (model X.prog X.w) X.A X.xe none (EP X pins σ Q) acc C) S (.inl hc) I2 T aU f2 hb h2 λD s3 H3 s' aD H' I3 f3 J' q=>?_
 obtain⟨m,hm,_⟩:=J'.loc;exact⟨m,hm,λh' bN=>⟨.ref D,H',I3.ME f3 J' bN,rfl,q⟩⟩
theorem Uo{tt:TT}(hN:X.N.Nodup)(hy:X.N[i]? = some y)(hl:X.env.scope.names.lookup y=some .local)
  (S:o_ X M js sc) (hc:X.calm=true) (hi:PI X tg iter wi) (hb:∀s3 H3 fp,PG (eX X M sc s3 H3 fp) tg g/\wH (eX X M sc s3 H3 fp) ifs tt/\PE (eX X M sc s3 H3 fp) elt te)
  (iE:swapsWith (.ListComp elt [⟨tg,iter,ifs,0⟩] sc pos) (some (.Name y py)) zY.line X.env=pure true:=by rfl) (hs:∀x,foldedSetIterable iter X.env x=pure x:=by intro _;rfl) :
  PS X (.Assign [.Name y py] (.ListComp elt [⟨tg,iter,ifs,0⟩] sc pos) zY) (HX (GY wi js g tt te) (xu i)):=by
 intro pins s σ H D I h;rw[exec_Assign_Name_used _ _ _ _ iE];refine aaf (wpAny_standAt (aaf ?_));refine aaf (adE (wpAny_comprehension_free (use:=some (assign (.Name y py) X.env)) rfl hs (M_ λx hx=>I.ok.has x (S.free x hx)) S.kind S.loc ?_) (λ_ s' q=>aa1 (aa1 q)) λ_ _ e=>e);refine aQ (hi pins s σ H _ I h) λv s1 h1=>aQ h1 λAo s2 ⟨it,fp,tn,J,H2,e,I2,T,aU,f2,h2⟩=>?_
 subst e;refine Ko (Q:=λx H1=>xu i x σ H1 D.nx) (RR:=λacc C=>compPost (model X.prog X.w) X.A X.xe (some (assign (.Name y py) X.env)) (λ_ s'=>SP X pins D .next s') acc C) S (.inl hc) I2 T aU f2 hb h2 λDa s3 H3 s' aD H' I3 f3 J' q=>?_
 have sb:Heap.SameBut s3.heap.objs.size s'.heap s'.heap:=⟨rfl,λ_ _=>rfl⟩
 have I5:=I3.ME f3 J' sb;obtain⟨m,hm,_⟩:=J'.loc;have ne:=acU I3.lt;refine wpAny_assign_Name (NB I5 hN hy (.inl hl) (show RelV (.ref Da) (.ref Da) from rfl) (λs6 I6 ⟨a,yy,ha⟩=>?_) (.inr hl));have lH:∀x c,X.env.cells.lookup x=some c->c≠s3.heap.objs.size:=λx c e=>by
  obtain⟨v',vI⟩:=I3.cell x c e;exact acU vI.lt
 have na:=ha.elim (λe=>by rw[e];exact ne) λz=>lH y a z
 refine⟨m,hm.sameBut yy (aej na),λh' bN=>⟨_,H',I6.turned (λb o hb e=>(bN.2 b hb).trans e) J'.free (aej ne) (.inr I3.sz) lH (λp hp=>?_),q⟩⟩;exact acU (abD (I3.pin p hp).1)
end
theorem aao:typeLookup (.type "dict") "__len__"=pure (some (.builtin "dict.__len__")):=by rw[ad4,adw];kernel_rfl
section
variable{prog:Program}{w:World}{A:Around}{E:Value->Shared->Prop}{s:Shared}
theorem ZC{κ:Type}[DecidableEq κ]{knd:KeyKind prog w κ}{kvs:List (κ×Value)}{Q:List Value->Shared->Prop}(hh:A.handled=none)(hd:(d==sysModules)=false)(hm:s.heap.DictOf knd d kvs)(hz:kvs.length<=sizeLine)
  (hQ:∀s' acc,s.heap.objs.size<=s'.heap.objs.size->(∀b o,s.heap.get? b=some o->s'.heap.get? b=some o)->s'.gens=s.gens->s'.drawn=s.drawn->s'.os=s.os->ItemsOf (λi v=>∃k x,kvs[i]? = some (k,x)/\knd.is k v=true) acc kvs.length->Q acc.toList s') :
  wpAny (model prog w) A (collect (.ref d)) Q E s:=by
 obtain⟨ep,hm⟩:=hm.dictAt;have cT:=hm.lt_size;unfold collect;refine aaf (wpAny_runValue (adK F.entry_proto_collect ?_));rw[adA F.plain_proto_collect _];refine aaf (adq ?_);refine aa1 ⟨aec F.plain_list_iadd _,adK F.entry_list_iadd ?_⟩;rw[adA F.plain_list_iadd _];have k7:=hm.push { cls:=.type "list",data:=.seq ([]:List Value).toArray };have Cr:({ s with heap:=s.heap.push { cls:=.type "list",data:=.seq ([]:List Value).toArray } }:Shared).TypeIs (.ref d) "dict":=k7.dictOf.typeIs;show wpAny (model prog w) A.in1 (Builtin.List.listExtendWith (.ref s.heap.objs.size) (.ref d) (.ref s.heap.objs.size)) _ _ _;unfold Builtin.List.listExtendWith;refine aaf (afm Cr ?_);have h1:Builtin.List.listSameRef (.ref s.heap.objs.size) (.ref d)=false:=by simp[Builtin.List.listSameRef,adY cT]
 have h2:(Value.type "dict" == Value.type "list")=false:=by decide
 have h3:(Value.type "dict" == Value.type "tuple")=false:=by decide
 simp only[h1,h2,h3,Bool.or_false,adM,afb];refine aaf (wpAny_pyIter_dict hd k7 ?_);refine aaf (aea ?_);have gQ:=k7.push { cls:=.type "dict_keyiterator",data:=.fields #[.ref d,.int 0 0,.int kvs.length 0,.int ep 0] };have pO:({ s with heap:=(s.heap.push { cls:=.type "list",data:=.seq ([]:List Value).toArray }).push { cls:=.type "dict_keyiterator",data:=.fields #[.ref d,.int 0 0,.int kvs.length 0,.int ep 0] } }:Shared).TypeIs (.ref d) "dict":=gQ.dictOf.typeIs;unfold Builtin.List.listLengthHint;refine aaf (ae6 pO aao ?_);generalize k9:("dict.__len__":String)=oO
 (fail_if_success (clear k9 oO))
 wp_delta
 rw[show splitId oO=some ("dict","__len__") from by subst k9;decide +kernel];subst k9;refine aaf (aem (b:=true) pO (by rw[aeE];kernel_rfl) ?_);refine aaf (afm pO ?_);refine aa1 ?_;refine aaf (aee ?_);have hsz:(s.heap.push { cls:=.type "list",data:=.seq ([]:List Value).toArray }).objs.size=s.heap.objs.size+1:=adP ..;generalize mY:s.heap.push { cls:=.type "list",data:=.seq ([]:List Value).toArray }=h1 at *;have AG:h1.get? s.heap.objs.size=some { cls:=.type "list",data:=.seq ([]:List Value).toArray }:=by rw[<- mY];exact abU _ rfl
 have uO:∀b o,s.heap.get? b=some o->h1.get? b=some o:=λb o e=>by rw[<- mY];exact aaB _ e
 dsimp only;have hI2:(h1.push { cls:=.type "dict_keyiterator",data:=.fields #[.ref d,.int 0 0,.int kvs.length 0,.int ep 0] }).get? h1.objs.size=some { cls:=.type "dict_keyiterator",data:=.fields #[.ref d,.int 0 0,.int kvs.length 0,.int ep 0] }:=abU _ rfl;have nY:(h1.push { cls:=.type "dict_keyiterator",data:=.fields #[.ref d,.int 0 0,.int kvs.length 0,.int ep 0] }).get? s.heap.objs.size=some { cls:=.type "list",data:=.seq ([]:List Value).toArray }:=aaB _ AG;have vW:∀b o,s.heap.get? b=some o->(h1.push { cls:=.type "dict_keyiterator",data:=.fields #[.ref d,.int 0 0,.int kvs.length 0,.int ep 0] }).get? b=some o:=λb o e=>aaB _ (uO b o e)
 generalize hh2:h1.push { cls:=.type "dict_keyiterator",data:=.fields #[.ref d,.int 0 0,.int kvs.length 0,.int ep 0] }=h2 at *;have KL:s.heap.objs.size≠h1.objs.size:=by rw[hsz];exact acU (aeb _)
 have Mu:=adY cT;have X8:d≠h1.objs.size:=by rw[hsz];exact acU (adV cT)
 refine aaf ?_;refine aaf (aeJ nY rfl ?_);have tW:=ado (Obj.mapSeq (·.push Value.none)) nY rfl;refine aeJ tW rfl ?_;have AN:=ado (Obj.mapSeq (·.pop)) tW rfl;have qS:∀b o,b≠s.heap.objs.size->h2.get? b=some o->((h2.update s.heap.objs.size (Obj.mapSeq (·.push Value.none))).update s.heap.objs.size (Obj.mapSeq (·.pop))).get? b=some o:=
  λb o hb e=>(ac9 _ _ (aej hb)).trans ((ac9 _ _ (aej hb)).trans e)
 have W:=(Walks.dictKeys (prog:=prog) (w:=w) (A:=A.in1) (knd:=knd) hh h1.objs.size d X8 kvs ep).toS;refine aa1 ⟨aec F.plain_extend_loop _,codeAny_extend_loopS W hz s.heap.objs.size (by simp;exact⟨KL,Mu⟩) _ kvs.length 0 _ _ _ rfl (aed _) ?_ AN (ItemsOf.nil _) λs' iC c' oN gG jL=>?_⟩
 .exact⟨⟨_,qS _ _ (aej KL) hI2,rfl,rfl⟩,gQ.at' λo e=>qS _ _ (aej Mu) e⟩
 .show wpAny (model prog w) A (load s.heap.objs.size >>= _) _ _ s';refine aaf (wpAny_load gG ?_);refine aa1 (hQ s' iC (aen (abD gG)) (λb o e=>?_) oN.gens oN.drawn oN.os jL);have hb:=abD e;refine oN.heap b o ?_ (qS b o (acU hb) (vW b o e));intro m;rcases abh.mp m with z|z
  .exact absurd hb (by rw[z];exact adx _)
  .have z:=aa8.mp z;rw[hsz] at z;exact absurd hb (by rw[z];exact Nat.not_lt.mpr (ae5 _))
theorem OQ(hc:∀(Q':List Value->Shared->Prop),(∀vs s',(∃ns,IntsAre vs ns/\∀(out:Array Value) (dg:List Int),IntsAre out.toList dg->dg.Perm ns->dg.Pairwise (·<=·)->
    Q (.ref s'.heap.objs.size) { s' with heap:=sortedHeap (s'.heap.push (seqObj "list" vs.toArray 0)) s'.heap.objs.size vs out })/\vs.length<=sizeLine->Q' vs s')->wpAny (model prog w) A.in1 (collect x) Q' E s):wpAny (model prog w) A (call (.builtin "sorted") [x]) Q E s:=by
 refine call_function_tree kind_sorted plain_sorted entry_sorted (args_sorted1 _) ?_;unfold Builtin.«sorted»;refine aaf (aa1 ?_);refine aaf (hc _ λvs s' ⟨⟨ns,hI,h⟩,i6⟩=>?_);refine aaf (wpAny_newList ?_);have AH:(s'.heap.push (seqObj "list" vs.toArray 0)).get? s'.heap.objs.size=some (seqObj "list" vs.toArray 0):=abU _ rfl;refine aaf (aea (adI slot_list_sort ⟨_,AH,rfl⟩ entry_list_sort (M7.Ym AH hI i6 λout dg a1 a2 a3=>⟨_,rfl,?_⟩) (args_list_sort _)));exact aa1 (h out dg a1 a2 a3)
end
section
variable{X:Cx}
theorem K0:∀{ks:List Int}{kvs:List (Key×Value)}{vs:List Value},kvs.map (·.1)=ks.map Sum.inl->vs.length=kvs.length->(∀(i:Nat) v,vs[i]? = some v->∃k x,kvs[i]? = some (k,x)/\(dD P w).is k v=true)->IntsAre vs ks
 |[],[],vs,_,hl,_=>by cases vs with
  |nil=>exact .nil
  |cons _ _=>simp at hl
 |[],_::_,_,e,_,_=>by simp at e
 |_::_,[],_,e,_,_=>by simp at e
 |k::ks,(q,x)::kvs,vs,e,hl,h=>by
  simp only[aaH,aez] at e;obtain⟨rfl,e⟩:=e;cases vs with
  |nil=>simp at hl
  |cons v vs=>
   obtain⟨k',x',e0,hk⟩:=h 0 v rfl;have Pr:=aco e0;cases Pr;rcases jO (show nE (Sum.inl k) v=true from hk) with⟨i,t,e1,e2⟩|⟨y,t,e1,e2⟩
   .cases e1;subst e2;exact .cons k t (K0 e (by simpa using hl) λi v hv=>h (i+1) v (by simpa using hv))
   .cases e1
def Ib(K:PySem.W.Frag):List V->Hp->VK->Prop:=λxs H Q=>∃(p:Addr) (ks:List Int),xs=[.ref p]/\ks.length<=sizeLine/\((∃kvs:List (Key×V),H p=some (.dK kvs)/\kvs.map (·.1)=ks.map Sum.inl)\/bQ K H p (ks.map V.int))/\
 ∀(l:Addr) (jx:List Int),H l=none->jx.Perm ks->jx.Pairwise (·<=·)->Q (.ref l) (upd H l (.lst (jx.map V.int)))
theorem acn(hc:X.calm=true):fP X (.builtin "sorted") (Ib X.K):=by
 intro pins s σ H xs us Q I r h;obtain⟨p,ks,rfl,i6,A5,q⟩:=h;obtain⟨u,rfl,ru⟩:=vals1 r;cases ru;have fin:∀(vs:List Value) (s':Shared),s.heap.objs.size<=s'.heap.objs.size->(∀b o,s.heap.get? b=some o->s'.heap.get? b=some o)->s'.gens=s.gens->s'.drawn=s.drawn->s'.os=s.os->∀(out:Array Value) (dg:List Int),IntsAre out.toList dg->dg.Perm ks->dg.Pairwise (·<=·)->
   EP X pins σ Q (.ref s'.heap.objs.size) { s' with heap:=sortedHeap (s'.heap.push (seqObj "list" vs.toArray 0)) s'.heap.objs.size vs out }:=by
  intro vs s' hle hk e1 e2 e3 out dg a1 a2 a3;obtain⟨h',g',d',t',o'⟩:=s';dsimp only at e1 e2 e3 hk hle;subst e1 e2 e3;obtain⟨e,he⟩:=sortedHeap_at (vs:=vs) (out:=out) (show(h'.push (seqObj "list" vs.toArray 0)).get? h'.objs.size=some (seqObj "list" vs.toArray 0) from abU _ rfl);refine⟨.ref h'.objs.size,upd H h'.objs.size (.lst (dg.map V.int)),I.laid (λb o eb=>?_) hle ?_,rfl,q _ dg (I.aI.fresh hle) a2 a3⟩
  .have hb:=abD (hk b o eb);rw[sortedHeap_old (acU hb) (by rw[adP];exact adV hb)];exact aaB _ (hk b o eb)
  .exact⟨by rw[List.length_map,a2.length_eq];exact i6,out.toList,e,yz a1,by rw[he]⟩
 have hh:=I.ok.hd hc;refine OQ λQ' zE=>?_
 rcases A5 with⟨kvs,hp,hk⟩|hp
 .obtain⟨hz,hd,vs,rel,dd⟩:=IT I.aI hp;refine ZC hh hd dd (by rw[<- rel.length];exact hz) λs' acc hle kp e1 e2 e3 it=>zE _ s' ⟨⟨ks,?_,λout dg a1 a2 a3=>fin _ s' hle kp e1 e2 e3 out dg a1 a2 a3⟩,?_⟩
  .refine K0 (P:=X.prog) (kvs:=vs) (by rw[<- rel.keys];exact hk) (by rw[acg];exact it.1) λi v hv=>it.2 i v (by rw[<- ad2];exact hv)
  .rw[acg,it.1,<- rel.length];have:=congrArg List.length hk;rw[List.length_map,List.length_map] at this;omega
 .obtain⟨aq,rv,pl,hz⟩:=I.list hp;have hi:=intsAre_of rv;have k1:s.heap.objs.size<=((s.heap.push (seqObj "list" #[] 0)).update s.heap.objs.size (Obj.mapSeq (·++aq.toArray))).objs.size:=by
   rw[Heap.size_update,adP];exact ae5 _
  have k2:∀b o,s.heap.get? b=some o->((s.heap.push (seqObj "list" #[] 0)).update s.heap.objs.size (Obj.mapSeq (·++aq.toArray))).get? b=some o:=λb o e=>
   (ac9 _ _ (adY (abD e))).trans (aaB _ e)
  refine collect_list pl.isList (zE _ _ ⟨⟨ks,hi,λout dg a1 a2 a3=>fin aq { s with heap:=(s.heap.push (seqObj "list" #[] 0)).update s.heap.objs.size (Obj.mapSeq (·++aq.toArray)) } k1 k2 rfl rfl rfl out dg a1 a2 a3⟩,?_⟩) (by rw[<- rv.length];exact hz);rw[<- rv.length,List.length_map];exact i6
end
theorem Rp(a d:Value):argsOk "min" ⟨[a],[("default",d)]⟩:=by unfold argsOk;kernel_rfl
section
variable{prog:Program}{w:World}{A:Around}{R:Result->Shared->Prop}{it:Addr}{gi iA:List Addr}{n:Nat}{P:Nat->Value->Prop}{T:Nat->Heap->Prop}
theorem xD:(toString "min"++toString ".loop":String)="min.loop":=by decide
theorem ZK(W:Walks prog w A.in1 it gi iA n P T)(bt:Nat->Nat->Bool)(Ga:CmpOf prog w A.in1 .Lt P bt)(kw:List (Str×Value))(B:Addr)(hB:B∉gi):
  ∀(k j:Nat) (s:Shared) (vb:Value) (c:Nat),n-(j+1)=k->j+1<=n->T (j+1) s.heap->P (argBest bt j) vb->s.heap.get? B=some { cls:=.type "list",dict:=none,data:=.seq #[vb,vb] c,slots:=#[] }->
   (∀v h' tk,P (argBest bt (n-1)) v->(∀b o,b∉iA->b≠B->s.heap.get? b=some o->h'.get? b=some o)->R (.ok (.ret v)) { s with heap:=h',toks:=tk })->
   codeAny (model prog w) A (.builtin "min.loop" ⟨[.ref it,.none,.ref B],kw⟩) R s:=by
 have nB:B∉iA:=λm=>hB (W.sub _ m)
 intro k
 induction k with
 |zero=>
  intro j s vb c e1 e2 st pb gB fin;have en:j+1=n:=by omega
  refine adK F.entry_min_loop ?_;rw[adA aeP _];refine aaf (adW gB rfl ?_);refine aaf (afi (W.done s _ _ (en ▸ st) λh1 t1 kp=>?_));have pF:=kp B _ nB gB;refine aaf (aeJ pF rfl (aaf (afv (aa1 ?_))));exact fin vb _ t1 (by rw[<- en];exact pb) λb o m1 m2 e=>(ac9 _ _ (aej m2)).trans (kp b o m1 e)
 |succ k ih=>
  intro j s vb c e1 e2 st pb gB fin;have lt:j+1<n:=by omega
  refine adK F.entry_min_loop ?_;rw[adA aeP _];refine aaf (adW gB rfl ?_);refine aaf (afi (W.item (j+1) s _ _ lt st λv h1 t1 pv gM kp=>?_));have pF:=kp B _ nB gB;show wpAny (model prog w) A.in1 (tryCatch (holding [v,v] (richCompare .Lt v vb >>= _)) _ >>= _) _ _ _;refine aaf (afi (aea (aaf (Ga (j+1) (argBest bt j) v vb _ _ _ pv pb ?_))));refine aaf (aea (aet (aaf (afv (aa1 ?_)))));cases hb:bt (j+1) (argBest bt j) with
  |true=>
   simp only[afp];refine aaf (aeJ pF rfl (aaf (afv ?_)));rw[xD];refine aa1 ⟨aec aeP _,ih (j + 1) _ v _ (by omega) lt (W.frame _ _ _ gM λb m o e=>(ac9 _ _ (λz:B=b=>hB (by rw[z];exact m))).trans e)
    (by simp only[argBest,hb,afp];exact pv) (ado _ pF rfl) λv2 h2 t2 p2 k2=>?_⟩
   exact fin v2 h2 t2 p2 λb o m1 m2 e=>k2 b o m1 m2 ((ac9 _ _ (aej m2)).trans (kp b o m1 e))
  |false=>
   simp only[adM,afb];refine aaf (afv ?_);rw[xD];refine aa1 ⟨aec aeP _,ih (j+1) _ vb c (by omega) lt gM (by simp only[argBest,hb,adM,afb];exact pb) pF λv2 h2 t2 p2 k2=>?_⟩;exact fin v2 h2 t2 p2 λb o m1 m2 e=>k2 b o m1 m2 (kp b o m1 e)
theorem WS(W:Walks prog w A.in1 it gi iA n P T)(bt:Nat->Nat->Bool)(Ga:CmpOf prog w A.in1 .Lt P bt)(key:Str)(dv:Value)(B:Addr)(hB:B∉gi)(st:T 0 s.heap)
  (gB:s.heap.get? B=some { cls:=.type "list",dict:=none,data:=.seq #[] c,slots:=#[] })
  (fin:∀v h' tk,(n=0/\v=dv\/0<n/\P (argBest bt (n-1)) v)->(∀b o,b∉iA->b≠B->s.heap.get? b=some o->h'.get? b=some o)->R (.ok (.ret v)) { s with heap:=h',toks:=tk }) :
  codeAny (model prog w) A (.builtin "min.loop" ⟨[.ref it,.none,.ref B],[(key,dv)]⟩) R s:=by
 have nB:B∉iA:=λm=>hB (W.sub _ m)
 refine adK F.entry_min_loop ?_;rw[adA aeP _];refine aaf (adW gB rfl ?_)
 by_cases hn:0<n
 .refine aaf (afi (W.item 0 s _ _ hn st λv h1 t1 pv gM kp=>?_));have pF:=kp B _ nB gB;show wpAny (model prog w) A.in1 (updateSeq B (λ_=>#[v,v]) >>= _) _ _ _;refine aaf (aeJ pF rfl ?_);rw[xD];refine aa1 ⟨aec aeP _,ZK W bt Ga _ B hB _ 0 _ v _ rfl hn (W.frame _ _ _ gM λb m o e=>(ac9 _ _ (λz:B=b=>hB (by rw[z];exact m))).trans e) pv (ado _ pF rfl) λv2 h2 t2 p2 k2=>?_⟩;exact fin v2 h2 t2 (.inr ⟨hn,p2⟩) λb o m1 m2 e=>k2 b o m1 m2 ((ac9 _ _ (aej m2)).trans (kp b o m1 e))
 .have en:n=0:=by omega
  refine aaf (afi (W.done s _ _ (en ▸ st) λh1 t1 kp=>?_));exact aaf (aee (aa1 (fin dv h1 t1 (.inl ⟨en,rfl⟩) λb o m1 _ e=>kp b o m1 e)))
end
section
variable{prog:Program}{w:World}{A:Around}{E:Value->Shared->Prop}{s:Shared}
theorem YK{id:String}{b:Builtin}{kw:List (Str×Value)}(hk:builtinKind id=none)(hp:plainId id=true)(hb:entryFor table id=some b)(ha:argsOk id ⟨args,kw⟩)
  (hc:wpAny (model prog w) A.in1 (b ⟨args,kw⟩) (λfin s'=>match fin with
   |.done f=>(match(Except.ok f:Result) with|.ok (.ret v)=>Q v s'|.ok _=>False|.error e=>E e s')
   |.again c=>c.quiet=true/\codeAny (model prog w) A c (λr s'=>match r with|.ok (.ret v)=>Q v s'|.ok _=>False|.error e=>E e s') s') E s):wpAny (model prog w) A (call (.builtin id) args kw) Q E s:=by
 refine wpAny_call (codeAny_call_builtin hp hb ?_);simp only[checkBuiltinCall,hk];cases Vg:Manifest.signature? id with
 |none=>exact aa1 hc
 |some sig=>
  have h2:Bind.checkArgs id sig ⟨args,kw⟩=pure ():=by simpa only[argsOk,Vg] using ha
  simp only[h2];exact aa1 hc
theorem Jz:∀{vs:List Value}{ns:List Int}{i:Nat}{v:Value},IntsAre vs ns->vs[i]? = some v->∃t,v=Value.int (ns.getD i 0) t
 |_,_,_,_,.nil,e=>by simp at e
 |_,_,0,_,.cons n t h,e=>by
  have e':=aco e;subst e';exact⟨t,rfl⟩
 |_,_,i+1,v,.cons n t h,e=>by
  obtain⟨u,eu⟩:=Jz h (by simpa using e);exact⟨u,by simpa using eu⟩
theorem Si{ns:List Int}(h:i<ns.length):ns.getD i 0∈ns:=by
 rw[aeq,abL h];exact aeD h
theorem aac(hh:A.handled=none)(hl:s.heap.IsList l vs.toArray)(hi:IntsAre vs ns)
  (fin:∀v h' tk,(ns=[]/\v=dv\/∃m t,v=.int m t/\m∈ns/\∀x∈ns,m<=x)->(∀b o,s.heap.get? b=some o->h'.get? b=some o)->Q v { s with heap:=h',toks:=tk }) :
  wpAny (model prog w) A (call (.builtin "min") [.ref l] [("default",dv)]) Q E s:=by
 refine YK F.kind_min F.plain_min F.entry_min (Rp _ _) ?_;refine aaf (afk (show Builtin.Builtins.bindParams "min" ["key","default"] 0 ⟨[],[("default",dv)]⟩=pure [none,some dv] from rfl) ?_);refine aaf (aa1 (aaf (afe hl ?_)));refine aaf (adq ?_);rw[xD];have Jm:=let⟨_,ho,_⟩:=hl;abD ho
 have hsz:(s.heap.push { cls:=.type "list_iterator",data:=.fields #[.ref l,.int 0 0] }).objs.size=s.heap.objs.size+1:=adP ..;have hv:∀(i:Nat) (v:Value),vs.toArray[i]? = some v->∃t,v=Value.int (ns.getD i 0) t:=λi v e=>Jz hi (by simpa using e)
 have hlen:=hi.length;generalize mY:s.heap.push { cls:=.type "list_iterator",data:=.fields #[.ref l,.int 0 0] }=h1 at *;have g1:h1.get? s.heap.objs.size=some { cls:=.type "list_iterator",data:=.fields #[.ref l,.int 0 0] }:=by rw[<- mY];exact abU _ rfl
 have old:∀b o,s.heap.get? b=some o->h1.get? b=some o:=λb o e=>by rw[<- mY];exact aaB _ e
 have nl:=acU Jm;have W:=Walks.list (prog:=prog) (w:=w) (A:=A.in1.in1) hh s.heap.objs.size l nl vs.toArray;have hB:h1.objs.size∉[s.heap.objs.size,l]:=by
  intro m;rcases abh.mp m with z|z
  .rw[hsz] at z;exact absurd z (adY (aeb _))
  .have z:=aa8.mp z;rw[hsz] at z;exact absurd z (adY (adV Jm))
 refine aa1 ⟨aec aeP _,WS W.of_in1 (λi j=>decide (ns.getD i 0<ns.getD j 0)) (CmpOf.ints_lt (λi=>ns.getD i 0) hv) _ dv h1.objs.size hB ?_ (abU _ rfl) λv h' tk Av kp=>?_⟩
 .exact⟨⟨_,aaB _ g1,rfl,rfl⟩,hl.at λo e=>aaB _ (old l o e)⟩
 .refine fin v h' tk ?_ λb o e=>kp b o ?_ ?_ (aaB _ (old b o e))
  .have cG:vs.toArray.size=ns.length:=by rw[ack,hlen]
   rw[cG] at Av;rcases Av with⟨h0,e⟩|⟨h0,pv⟩
   .exact .inl ⟨adT h0,e⟩
   .obtain⟨t,e⟩:=hv _ v pv;obtain⟨a1,a2⟩:=argBest_lt (λi=>ns.getD i 0) (ns.length-1);refine .inr ⟨_,t,e,Si (by omega),λx hx=>?_⟩;obtain⟨j,hj,rfl⟩:=ae1 hx;have:=a2 j (by omega);rw[show ns[j]=ns.getD j 0 by rw[aeq,abL hj];rfl];exact this
  .intro m;exact absurd (abD e) (by rw[aa8.mp m];exact adx _)
  .intro z;exact absurd (abD e) (by rw[z,hsz];exact Nat.not_lt.mpr (ae5 _))
end
section
variable{X:Cx}{p pos:Pos}{a:Expr}{ta td:TE}
def PB(K:PySem.W.Frag)(ta td:TE):TE:=λσ H Q=>ta σ H λx H1=>td σ H1 λy H2=>∃(l:Addr) (ns:List Int),x=.ref l/\bQ K H2 l (ns.map V.int)/\((ns=[]/\Q y H2)\/ns≠[]/\∀m,m∈ns->(∀n∈ns,m<=n)->Q (.int m) H2)
theorem VL(hc:X.calm=true)(hm:X.mg "min"=none)(ha:PE X a ta)(hb:PE X b td)(hg:Gl X "min":=by rfl)(hs:starEach [a] X.env=[(false,eval a X.env)]:=by rfl)
  (h1:backTo pos (starEach [a] X.env)=(false,eval a X.env)::backTo pos (starEach [] X.env):=by rfl) (h2:(backTo pos (starEach [a] X.env)).any (·.1)=false:=by rfl)
  (h3:(backToKw pos (keywordEach [⟨some "default",b,kp⟩] X.env)).all (·.1.isSome)=true:=by rfl) (h4:(backToKw pos (keywordEach [⟨some "default",b,kp⟩] X.env)).any (·.1.isNone)=false:=by rfl)
  (h5:(backToKw pos (keywordEach [⟨some "default",b,kp⟩] X.env)).filterMap (·.1)=[("default":Str)]:=by rfl) :
  PE X (.Call (.Name "min" p) [a] [⟨some "default",b,kp⟩] pos) (PB X.K ta td):=by
 intro pins s σ H Q I h;refine ael (lK I hg hm (show bootBuiltins "min"=some (.builtin "min") by decide +kernel) ?_ (by decide) (by decide));refine callWith_kw ?_ h1 h2 h3 h4;rw[h5];refine aQ (c_ ha fM hs pos pins s σ H (λvs H1=>match vs with|[x]=>td σ H1 λy H2=>∃(l:Addr) (ns:List Int),x=.ref l/\bQ X.K H2 l (ns.map V.int)/\((ns=[]/\Q y H2)\/ns≠[]/\∀m,m∈ns->(∀n∈ns,m<=n)->Q (.int m) H2)|_=>False) I h) λus s1 ⟨vs,H1,I1,rv,q1⟩=>?_
 rcases vs with _|⟨x,_|⟨x2,r2⟩⟩
 .exact q1.elim
 .obtain⟨u,rfl,ru⟩:=vals1 rv;refine kws_cons (aQ (hb pins s1 σ H1 _ I1 q1) λdv s2 ⟨y,H2,I2,ry,l,ns,ex,hq,q2⟩=>kws_nil ?_);subst ex;cases ru;obtain⟨aq,ri,pl,hz⟩:=I2.list hq;refine aac (I2.ok.hd hc) pl.isList (intsAre_of ri) λv h' tk Av kp=>?_
  rcases Av with⟨en,ev⟩|⟨m,t,ev,k7,gQ⟩
  .subst ev;rcases q2 with⟨_,q2⟩|⟨ne,_⟩
   .exact⟨y,H2,I2.kept kp,ry,q2⟩
   .exact absurd en ne
  .subst ev;rcases q2 with⟨en,_⟩|⟨_,q2⟩
   .rw[en] at k7;cases k7
   .exact⟨.int m,H2,I2.kept kp,⟨t,rfl⟩,q2 m k7 gQ⟩
 .exact q1.elim
end
end L2
namespace PySem
theorem XW:typeLookup (.type "list") "keys"=pure none:=by rw[ad4,adw];kernel_rfl
theorem VU:typeLookup (.type "tuple") "keys"=pure none:=by rw[ad4,adw];kernel_rfl
section
variable{prog:Program}{w:World}{A:Around}{E:Value->Shared->Prop}{s:Shared}{a:Addr}{xs:Array Value}{k:Nat}{sl:Array (Option Value)}{Q:Option Value->Shared->Prop}
theorem PJ(hx:s.heap.get? a=some { cls:=.type "list",dict:=none,data:=.seq xs k,slots:=sl })(hA:A.handled=none)
  (h:∀h' tk,(∀b o,s.heap.get? b=some o->h'.get? b=some o)->Q none { s with heap:=h',toks:=tk }):wpAny (model prog w) A (getAttr? (.ref a) "keys") Q E s:=by
 obtain⟨hp,g,d,tk,os⟩:=s;have hT:∀qw,(⟨hp,g,d,qw,os⟩:Shared).TypeIs (.ref a) "list":=λ_=>⟨_,hx,rfl⟩
 have f1:=sub_AttributeError;have f3:=F.slot_list_getattribute.lookup;have f4:=F.slot_list_getattribute.bind (.ref a);have f5:=am_list_getattr_none;unfold getAttr? getAttrBy? getAttrBy
 repeat (any_goals (first|assumption|exact hT _|((with_reducible show wpAny _ _ (call (Value.builtin "list.__getattribute__") _ _) _ _ _);refine afr F.slot_list_getattribute (hT _) am_entry_list_getattribute (F.args_list_getattribute_2 _ _) (meets_getattribute_miss_list a xs k sl "keys" _ XW (by decide +kernel)) ⟨hx,hA,λh' qw e wu=>?_⟩)|wp_step))
 obtain⟨t',u',he⟩:=wu.there;unfold getattributeRaised
 repeat (any_goals (first|assumption|wp_step))
 all_goals exact h _ _ wu.keeps
theorem Xo(hx:s.heap.get? a=some { cls:=.type "tuple",dict:=none,data:=.seq xs k,slots:=sl })(hA:A.handled=none)
  (h:∀h' tk,(∀b o,s.heap.get? b=some o->h'.get? b=some o)->Q none { s with heap:=h',toks:=tk }):wpAny (model prog w) A (getAttr? (.ref a) "keys") Q E s:=by
 obtain⟨hp,g,d,tk,os⟩:=s;have hT:∀qw,(⟨hp,g,d,qw,os⟩:Shared).TypeIs (.ref a) "tuple":=λ_=>⟨_,hx,rfl⟩
 have f1:=sub_AttributeError;have f3:=F.slot_tuple_getattribute.lookup;have f4:=F.slot_tuple_getattribute.bind (.ref a);have f5:=am_tuple_getattr_none;unfold getAttr? getAttrBy? getAttrBy
 repeat (any_goals (first|assumption|exact hT _|((with_reducible show wpAny _ _ (call (Value.builtin "tuple.__getattribute__") _ _) _ _ _);refine afr F.slot_tuple_getattribute (hT _) am_entry_tuple_getattribute (F.args_tuple_getattribute_2 _ _) (meets_getattribute_miss_tuple a xs k sl "keys" _ VU (by decide +kernel)) ⟨hx,hA,λh' qw e wu=>?_⟩)|wp_step))
 obtain⟨t',u',he⟩:=wu.there;unfold getattributeRaised
 repeat (any_goals (first|assumption|wp_step))
 all_goals exact h _ _ wu.keeps
end
end PySem
namespace L2
open PySem PySem.Spec PyProof.Rows
theorem zO:plainId "dict.update.loop"=true:=by decide +kernel
theorem Ml:entryFor table "dict.update.loop"=some Builtin.«dict.update.loop»:=entryFor_of_fast (by kernel_rfl)
def pairAt{prog:Program}{w:World}{κ:Type}[DecidableEq κ](knd:KeyKind prog w κ)(h:Heap)(no:List Addr)(v:Value)(p:κ×Value):Prop:=∃a key,v=.ref a/\a∉no/\IsTup h a #[key,p.2]/\knd.is p.1 key=true
section
variable{prog:Program}{w:World}{A:Around}{R:Result->Shared->Prop}{κ:Type}[DecidableEq κ]{knd:KeyKind prog w κ}{it d:Addr}{gi iA:List Addr}{n:Nat}{P:Nat->Value->Prop}{T:Nat->Heap->Prop}
theorem Zi(W:Walks prog w A.in1 it gi iA n P T)(hd:d∉gi)(h0:Heap)(ps:List (κ×Value))(hn:ps.length=n)(hP:∀i v,P i v->∃p,ps[i]? = some p/\pairAt knd h0 (d::iA) v p)(res:Value):
  ∀(k i:Nat) (s:Shared) (m:List (κ×Value)) (Bx:Tok),n-i=k->i<=n->T i s.heap->s.heap.DictOf knd d m->m.length+(n-i)<=sizeLine->(∀b o,b∉d::iA->h0.get? b=some o->s.heap.get? b=some o)->
   (∀h' tk,h'.DictOf knd d ((ps.drop i).foldl (λm p=>stored m p.1 p.2) m)->(∀b o,b∉d::iA->h0.get? b=some o->h'.get? b=some o)->R (.ok (.ret res)) { s with heap:=h',toks:=tk })->
   codeAny (model prog w) A (.builtin "dict.update.loop" ⟨[.ref d,.ref it,.int i Bx,res],[]⟩) R s:=by
 have nd:d∉iA:=λm=>hd (W.sub _ m)
 intro k
 induction k with
 |zero=>
  intro i s m Bx e1 e2 st dm hz kp fin;have en:i=n:=by omega
  subst en;refine adK Ml ?_;rw[adA zO _];refine aaf (W.done s _ _ st λh1 t1 k1=>?_);refine aaf (aa1 (aa1 (fin h1 t1 ?_ λb o mb e=>k1 b o (λz=>mb (aaY _ z)) (kp b o mb e))));rw[ae3 (by omega)];obtain⟨o,es,ep,ho,r⟩:=dm;exact⟨o,es,ep,k1 d o nd ho,r⟩
 |succ k ih=>
  intro i s m Bx e1 e2 st dm hz kp fin;have lt:i<n:=by omega
  refine adK Ml ?_;rw[adA zO _];refine aaf (W.item i s _ _ lt st λv h1 t1 pv gM k1=>?_);obtain⟨p,ep,a,key,rfl,na,hpt,Df⟩:=hP i v pv;have dm1:h1.DictOf knd d m:=by
   obtain⟨o,es,ep,ho,r⟩:=dm;exact⟨o,es,ep,k1 d o nd ho,r⟩
  obtain⟨oa,QN,Pu,na',Yl⟩:=hpt;have ga:=k1 a oa (λz=>na (aaY _ z)) (kp a oa na QN);refine aaf (aea ?_);refine aaf (afi ?_);unfold Builtin.Dict.pairItems;refine aaf (afm (T:="tuple") ⟨oa,ga,Pu⟩ ?_);rw[if_pos (by decide)];refine aaf (adW ga Yl (aa1 ?_));refine aea (wpAny_dictSet_pairs Df dm1 (λh2 Pw sb=>?_) (by omega));have LI:∀b o,b≠d->h1.get? b=some o->h2.get? b=some o:=λb o hb e=>(sb.2 b hb).trans e
  have aU:=W.frame _ _ _ gM λb mb o e=>LI b o (λz=>hd (by rw[<- z];exact mb)) e
  have oG:(stored m p.1 p.2).length<=m.length+1:=by
   unfold stored
   split
   .rw[List.length_map];exact ae5 _
   .rw[acZ];exact abW _
  refine aa1 ⟨aec zO _,?_⟩;refine ih (i+1) _ (stored m p.1 p.2) 0 (by omega) lt aU Pw (by omega) (λb o mb e=>LI b o (λz=>mb (by rw[z];exact aaF)) (k1 b o (λz=>mb (aaY _ z)) (kp b o mb e))) λh3 t3 CM k3=>?_
  refine fin h3 t3 ?_ k3;have hi:i<ps.length:=by omega
  have wC:ps[i]=p:=by rw[abL hi] at ep;exact aco ep
  rw[adU hi,ad5,wC];exact CM
theorem Nx(ps:List (κ×Value))(hz:ps.length<=sizeLine)(T0:String)(Uu:(Value.type T0 != Value.type "dict")=true)
  (pK:∀o,({ s with heap:=s.heap.push o }:Shared).TypeIs x T0)
  (hk:∀(o:Obj) (Q':Option Value->Shared->Prop) (E':Value->Shared->Prop),(∀h' tk,(∀b ob,(s.heap.push o).get? b=some ob->h'.get? b=some ob)->Q' none { s with heap:=h',toks:=tk })->wpAny (model prog w) A.in1.in1 (getAttr? x "keys") Q' E' { s with heap:=s.heap.push o })
  (hi:∀(s2:Shared) (Q':Value->Shared->Prop) (E':Value->Shared->Prop),(∀b ob,s.heap.get? b=some ob->s2.heap.get? b=some ob)->(∃o,s2.heap.get? s.heap.objs.size=some o)->
   (∀I gi iA n P T h3,Walks prog w A.in1.in1 I gi iA n P T->T 0 h3->ps.length=n->s.heap.objs.size∉gi->(∀b ob,s2.heap.get? b=some ob->h3.get? b=some ob)->(∀b∈iA,s.heap.get? b=none)->(∀i v,P i v->∃p,ps[i]? = some p/\pairAt knd s.heap (s.heap.objs.size::iA) v p)->Q' (.ref I) { s2 with heap:=h3 })->
   wpAny (model prog w) A.in1.in1 (pyIter x) Q' E' s2)
  (h:∀h' tk,h'.DictOf knd s.heap.objs.size (ps.foldl (λm p=>stored m p.1 p.2) [])->(∀b o,s.heap.get? b=some o->h'.get? b=some o)->Q (.ref s.heap.objs.size) { s with heap:=h',toks:=tk }) :
  wpAny (model prog w) A (call (.type "dict") [x]) Q E s:=by
 refine callType_codes (Q₁:=λobj bu=>obj=.ref s.heap.objs.size/\bu={ s with heap:=s.heap.push { cls:=.type "dict",data:=.dict #[] } }) F.kt_called_dict (F.kt_typeCall_dict_1 _) F.entry_dict_init (kt_code_dict_new _ ⟨rfl,rfl⟩) ?_
 rintro obj bu ⟨rfl,rfl⟩
 have A1:(s.heap.push { cls:=.type "dict",data:=.dict #[] }).DictOf knd s.heap.objs.size []:=Heap.DictOf.new s.heap;refine⟨A1.typeIs,F.args_dict_init_2 _ _,?_⟩;unfold Builtin.«dict.__init__»;refine aaf ?_;unfold Builtin.Dict.selfAndRest;refine aaf (wpAny_notOrdered_dict A1.typeIs ?_);refine aa1 ?_;show wpAny (model prog w) _ (Builtin.Dict.updateFrom "dict.__init__" s.heap.objs.size x [] .none) _ _ _;unfold Builtin.Dict.updateFrom;refine aaf (afm (pK _) ?_);rw[if_pos Uu];refine aaf (hk _ _ _ λh1 t1 k1=>?_);refine aaf (aee (aaf ?_));have o1:∀b ob,s.heap.get? b=some ob->h1.get? b=some ob:=λb ob e=>k1 b ob (aaB _ e)
 refine hi { s with heap:=h1,toks:=t1 } _ _ o1 ⟨_,k1 _ _ (abU _ rfl)⟩ (λI gi iA n P T h3 W st hn hd k3 hw hP=>?_);have CM:h3.DictOf knd s.heap.objs.size []:=by
  obtain⟨o,es,ep,ho,r⟩:=A1;exact⟨o,es,ep,k3 _ o (k1 _ o ho),r⟩
 refine aa1 ⟨aec zO _,Zi W hd s.heap ps hn hP .none n 0 _ [] 0 rfl (aed _) st CM (by rw[List.length_nil];omega) (λb o _ e=>k3 b o (o1 b o e)) λh4 t4 Qy k4=>?_⟩;refine⟨rfl,h h4 t4 (by simpa using Qy) λb o e=>k4 b o (λm=>?_) e⟩;rcases abh.mp m with z|z
 .exact absurd (abD e) (by rw[z];exact adx _)
 .rw[hw b z] at e;cases e
end
section
variable{X:Cx}
theorem JL{κ:Type}[DecidableEq κ]:∀{ps:List (κ×V)}{qs:List (κ×Value)}{m:List (κ×V)}{r:List (κ×Value)},KV ps qs->KV m r->KV (ps.foldl (λm p=>putK m p.1 p.2) m) (qs.foldl (λm p=>stored m p.1 p.2) r)
 |_,_,_,_,.nil,h=>h
 |_,_,_,_,.cons (a:=p) (b:=q) e t,h=>by
  rw[ad5,ad5];refine JL t ?_;rw[<- e.1];exact h.put p.1 e.2
def F7(K:PySem.W.Frag):List V->Hp->VK->Prop:=λxs H Q=>∃(p:Addr) (ys:List V) (ps:List (Key×V)),xs=[.ref p]/\(bQ K H p ys\/cA K H p ys)/\Paired (λy (q:Key×V)=>∃a,y=.ref a/\cA K H a [kV q.1,q.2]) ys ps/\
 ∀l,H l=none->Q (.ref l) (upd H l (.dK (ps.foldl (λm q=>putK m q.1 q.2) [])))
theorem DH(I:Inv X pins σ H s):∀{ys:List V}{ps:List (Key×V)}{aq:List Value},Paired (λy (q:Key×V)=>∃a,y=.ref a/\cA X.K H a [kV q.1,q.2]) ys ps->aS ys aq->
  ∃qs:List (Key×Value),KV ps qs/\∀(i:Nat) (v:Value),aq[i]? = some v->∃q,qs[i]? = some q/\∃a key,v=.ref a/\IsTup s.heap a #[key,q.2]/\(dD X.prog X.w).is q.1 key=true
 |_,_,_,.nil,.nil=>⟨[],.nil,λi v e=>by simp at e⟩
 |_,_,_,.cons (b:=q) ⟨a,ey,hr⟩ t,.cons (b:=u) r rs=>by
  obtain⟨qs,h1,h2⟩:=DH I t rs;subst ey;cases r;obtain⟨us,ru,pt,_⟩:=I.tuple hr;obtain⟨key,x,rfl,rk,rx⟩:=vals2 ru;refine⟨(q.1,x)::qs,.cons ⟨rfl,rx⟩ h1,λi v e=>?_⟩;cases i with
  |zero=>
   have e':=aco e;subst e';exact⟨_,rfl,a,key,rfl,pt,qM rk⟩
  |succ i=>
   obtain⟨q',e1,e2⟩:=h2 i v (by simpa using e);exact⟨q',by simpa using e1,e2⟩
theorem YZ(hc:X.calm=true):fP X (.type "dict") (F7 X.K):=by
 intro pins s σ H xs us Q I r h;obtain⟨p,ys,ps,rfl,A5,r8,q⟩:=h;obtain⟨u,rfl,ru⟩:=vals1 r;cases ru;have hh:=I.ok.hd hc;have big:=I.big;have fin:∀(aq:List Value) (qs:List (Key×Value)),KV ps qs->ys.length<=sizeLine->∀h' tk,h'.DictOf (dD X.prog X.w) s.heap.objs.size (qs.foldl (λm p=>stored m p.1 p.2) [])->(∀b o,s.heap.get? b=some o->h'.get? b=some o)->
   EP X pins σ Q (.ref s.heap.objs.size) { s with heap:=h',toks:=tk }:=by
  intro aq qs nU hz h' tk dm kp;have rel:=JL (r:=[]) nU .nil;have zK:∀(l:List (Key×V)) (m:List (Key×V)),(l.foldl (λm q=>putK m q.1 q.2) m).length<=m.length+l.length:=by
   intro l
   induction l with
   |nil=>intro m;exact abW _
   |cons a l ih=>
    intro m;rw[ad5];have h1:=ih (putK m a.1 a.2);have h2:=A0 m a.1 a.2;rw[acS];omega
  have hl:=(Paired.length r8).symm;refine⟨.ref s.heap.objs.size,_,I.laid kp (abW _) (Fe ?_ (adF.mpr (aej (acU big))) rel dm),rfl,q _ (I.aI.fresh (abW _))⟩;have:=zK ps [];rw[List.length_nil] at this;omega
 have yS:∀{qs:List (Key×Value)},KV ps qs->qs.length=ys.length:=λh=>by rw[<- h.length];exact(Paired.length r8).symm
 have ow:∀{s2:Shared},(∃o,s2.heap.get? s.heap.objs.size=some o)->s.heap.objs.size<s2.heap.objs.size:=λ⟨_,e⟩=>abD e
 rcases A5 with hq|hq
 .obtain⟨aq,rv,pl,hz⟩:=I.list hq;obtain⟨qs,nU,E_⟩:=DH I r8 rv;obtain⟨o,n,ho,jP,uf,qA⟩:=pl;have hp:=abD ho;refine Nx (knd:=dD X.prog X.w) qs (by rw[yS nU];exact hz) "list" (by decide) (λob=>⟨o,aaB _ ho,jP⟩) (λob Q' E' k=>?_) (λs2 Q' E' o2 hS k=>?_) (λh' tk dm kp=>fin aq qs nU hz h' tk dm kp)
  .obtain⟨c0,d0,TH,Qs⟩:=o;dsimp only at jP uf qA;subst jP uf qA;exact PJ (aaB _ ho) hh λh1 t1 kp=>k h1 t1 kp
  .have oG:s2.heap.IsList p aq.toArray:=⟨o,o2 p o ho,jP,n,qA⟩
   refine afe oG (k s2.heap.objs.size [s2.heap.objs.size,p] [s2.heap.objs.size] _ _ _ _ (Walks.list (A:=X.A.in1.in1) hh s2.heap.objs.size p (acU (Nat.lt_trans hp (ow hS))) aq.toArray) ⟨⟨_,abU _ rfl,rfl,rfl⟩,oG.push _⟩ (by rw[yS nU,ack,<- rv.length]) ?_ (λb ob e=>aaB _ e) ?_ λi v e=>?_)
   .intro m;rcases abh.mp m with z|z
    .exact absurd z (acU (ow hS))
    .exact absurd (aa8.mp z) (adY hp)
   .intro b m;rw[aa8.mp m];exact Heap.get?_none_of_le (aen (ow hS))
   .obtain⟨q',e1,a,key,e2,e3,e4⟩:=E_ i v (by simpa using e);refine⟨q',e1,a,key,e2,λm=>?_,e3,e4⟩;obtain⟨oa,ha,_⟩:=e3;rcases abh.mp m with z|z
    .exact absurd (abD ha) (by rw[z];exact adx _)
    .exact absurd (abD ha) (by rw[aa8.mp z];exact Nat.not_lt.mpr (aen (ow hS)))
 .obtain⟨aq,rv,⟨o,ho,jP,uf,n,qA⟩,hz⟩:=I.Ue hq;obtain⟨qs,nU,E_⟩:=DH I r8 rv;have hp:=abD ho;refine Nx (knd:=dD X.prog X.w) qs (by rw[yS nU];exact hz) "tuple" (by decide) (λob=>⟨o,aaB _ ho,jP⟩) (λob Q' E' k=>?_) (λs2 Q' E' o2 hS k=>?_) (λh' tk dm kp=>fin aq qs nU hz h' tk dm kp)
  .obtain⟨c0,d0,TH,Qs⟩:=o;dsimp only at jP uf qA;subst jP uf qA;exact Xo (aaB _ ho) hh λh1 t1 kp=>k h1 t1 kp
  .have oG:s2.heap.IsTuple p aq.toArray:=⟨o,o2 p o ho,jP,n,qA⟩
   refine wpAny_pyIter_tuple oG (k s2.heap.objs.size [s2.heap.objs.size,p] [s2.heap.objs.size] _ _ _ _ (Walks.tuple (A:=X.A.in1.in1) hh s2.heap.objs.size p (acU (Nat.lt_trans hp (ow hS))) aq.toArray) ⟨⟨_,abU _ rfl,rfl,rfl⟩,oG.push _⟩ (by rw[yS nU,ack,<- rv.length]) ?_ (λb ob e=>aaB _ e) ?_ λi v e=>?_)
   .intro m;rcases abh.mp m with z|z
    .exact absurd z (acU (ow hS))
    .exact absurd (aa8.mp z) (adY hp)
   .intro b m;rw[aa8.mp m];exact Heap.get?_none_of_le (aen (ow hS))
   .obtain⟨q',e1,a,key,e2,e3,e4⟩:=E_ i v (by simpa using e);refine⟨q',e1,a,key,e2,λm=>?_,e3,e4⟩;obtain⟨oa,ha,_⟩:=e3;rcases abh.mp m with z|z
    .exact absurd (abD ha) (by rw[z];exact adx _)
    .exact absurd (abD ha) (by rw[aa8.mp z];exact Nat.not_lt.mpr (aen (ow hS)))
end
end L2
namespace L2.Ev
open PySem PySem.Spec PyProof.Rows
noncomputable abbrev XN:=Str×Option Nat
inductive D where
 |aE|bl (b:Bool)|int (i:Int)|str (x:Str)|tup (ds:List D)|lst (ds:List D)|iZ (ds:List D)|bD (kvs:List (Key×D))|n5 (kvs:List (List Key×D))|ins (cn:Str) (fs:List (Str×D))|exc (cn:XN)
def rZ(K:PySem.W.Frag)(H:Hp)(a:Addr)(xs:List V):Prop:=(∃o,H a=some (.fH o (.lst xs)))\/
 ∃(o:Obj) (aq:Array Value) (n:Nat),K.lookup a=some o/\o.cls=.type "list"/\o.dict=none/\o.data=.seq aq n/\aq.size<=sizeLine/\aS xs aq.toList
theorem rZ.sq{K:PySem.W.Frag}(h:rZ K H a xs):bQ K H a xs:=h.elim (λz=>.inl (.inr z)) .inr
mutual
inductive Rep(K:PySem.W.Frag)(H:Hp):D->V->List Addr->Prop
 |aE:Rep K H .aE .aE []
 |bl (b:Bool):Rep K H (.bl b) (.bl b) []
 |int (i:Int):Rep K H (.int i) (.int i) []
 |str (x:Str):Rep K H (.str x) (.str x) []
 |tup {a:Addr}{xs:List V}{ds:List D}{fp:List Addr}:cA K H a xs->aA K H ds xs fp->Rep K H (.tup ds) (.ref a) fp
 |lst {a:Addr}{xs:List V}{ds:List D}{fp:List Addr}:H a=some (.lst xs)->aA K H ds xs fp->Rep K H (.lst ds) (.ref a) (a::fp)
 |pM {a:Addr}{xs:List V}{ds:List D}{fp:List Addr}:rZ K H a xs->aA K H ds xs fp->Rep K H (.iZ ds) (.ref a) fp
 |bD {a:Addr}{kvs:List (Key×V)}{es:List (Key×D)}{fp:List Addr}:H a=some (.dK kvs)->es.map (·.1)=kvs.map (·.1)->aA K H (es.map (·.2)) (kvs.map (·.2)) fp->Rep K H (.bD es) (.ref a) (a::fp)
 |n5 {a:Addr}{kvs:List (List Key×V)}{es:List (List Key×D)}{fp:List Addr}:H a=some (.dT kvs)->es.map (·.1)=kvs.map (·.1)->aA K H (es.map (·.2)) (kvs.map (·.2)) fp->Rep K H (.n5 es) (.ref a) (a::fp)
 |ins {cn:Str}{a C dx:Addr}{fs:List (Str×V)}{es:List (Str×D)}{fp:List Addr}:PySem.W.nsIn K mainGlobals cn=some (some (.ref C))->H a=some (.ins C dx fs)->H dx=some (.own a)->es.map (·.1)=fs.map (·.1)->aA K H (es.map (·.2)) (fs.map (·.2)) fp->Rep K H (.ins cn es) (.ref a) (a::dx::fp)
 |exc {cn:XN}{a C:Addr}{de:Option Addr}{ob:Obj}:PySem.W.nsIn K mainGlobals cn.1=some (some (.ref C))->H a=some (Vn ob a (.ref C) de)->(∀n,cn.2=some n->∃dx,de=some dx/\H dx=some (ZP dx n))->Rep K H (.exc cn) (.ref a) []
inductive aA(K:PySem.W.Frag)(H:Hp):List D->List V->List Addr->Prop
 |nil:aA K H [] [] []
 |cons {d:D}{v:V}{ds:List D}{vs:List V}{f1 f2:List Addr}:Rep K H d v f1->aA K H ds vs f2->aA K H (d::ds) (v::vs) (f1++f2)
end
def bW(H H':Hp):Prop:=(∀a xs,H a=some (.tup xs)->H' a=some (.tup xs))/\(∀a o u,H a=some (.fH o u)->H' a=some (.fH o u))/\∀a φ,H a=some (.ext φ)->H' a=some (.ext φ)
theorem bW.Wx{K:PySem.W.Frag}(i:bW H H')(h:cA K H a xs):cA K H' a xs:=by
 rcases h with(h|⟨o,h⟩)|h
 .exact .inl (.inl (i.1 _ _ h))
 .exact .inl (.inr ⟨o,i.2.1 _ _ _ h⟩)
 .exact .inr h
theorem bW.fH{K:PySem.W.Frag}(i:bW H H')(h:rZ K H a xs):rZ K H' a xs:=by
 rcases h with⟨o,h⟩|h
 .exact .inl ⟨o,i.2.1 _ _ _ h⟩
 .exact .inr h
theorem bW.of(h:aL H H'):bW H H':=⟨λ_ _ e=>h _ _ e,λ_ _ _ e=>h _ _ e,λ_ _ e=>h _ _ e⟩
theorem bW.trans(a:bW H H1)(b:bW H1 H2):bW H H2:=⟨λ_ _ e=>b.1 _ _ (a.1 _ _ e),λ_ _ _ e=>b.2.1 _ _ _ (a.2.1 _ _ _ e),λ_ _ e=>b.2.2 _ _ (a.2.2 _ _ e)⟩
noncomputable def nO:HO->Bool
 |.lst _|.dK _|.dT _|.ins _ _ _|.own _=>true
 |_=>false
theorem bW.upd{o o':HO}(h:H p=some o)(m:nO o=true):bW H (upd H p o'):=by
 refine⟨λa xs e=>?_,λa q u e=>?_,λa q e=>?_⟩
 .rw[aY]
  .exact e
  .rintro rfl;rw[h] at e;cases e;cases m
 .rw[aY]
  .exact e
  .rintro rfl;rw[h] at e;cases e;cases m
 .rw[aY]
  .exact e
  .rintro rfl;rw[h] at e;cases e;cases m
section
variable{K:PySem.W.Frag}{H H':Hp}
mutual
theorem Rep.frame:∀{d:D}{v:V}{fp:List Addr},Rep K H d v fp->(∀a∈fp,H' a=H a)->bW H H'->Rep K H' d v fp
 |_,_,_,.aE,_,_=>.aE
 |_,_,_,.bl b,_,_=>.bl b
 |_,_,_,.int i,_,_=>.int i
 |_,_,_,.str x,_,_=>.str x
 |_,_,_,.tup h r,k,i=>.tup (i.Wx h) (aA.frame r k i)
 |_,_,_,.lst h r,k,i=>.lst ((k _ aaF).trans h) (aA.frame r (λa m=>k a (aaY _ m)) i)
 |_,_,_,.pM h r,k,i=>.pM (i.fH h) (aA.frame r k i)
 |_,_,_,.bD h e r,k,i=>.bD ((k _ aaF).trans h) e (aA.frame r (λa m=>k a (aaY _ m)) i)
 |_,_,_,.n5 h e r,k,i=>.n5 ((k _ aaF).trans h) e (aA.frame r (λa m=>k a (aaY _ m)) i)
 |_,_,_,.exc g h p,k,i=>.exc g (i.2.1 _ _ _ h) λn e=>let⟨dx,q,z⟩:=p n e;⟨dx,q,i.2.2 _ _ z⟩
 |_,_,_,.ins g h h2 e r,k,i=>.ins g ((k _ aaF).trans h) ((k _ (aaY _ aaF)).trans h2) e (aA.frame r (λa m=>k a (aaY _ (aaY _ m))) i)
theorem aA.frame:∀{ds:List D}{vs:List V}{fp:List Addr},aA K H ds vs fp->(∀a∈fp,H' a=H a)->bW H H'->aA K H' ds vs fp
 |_,_,_,.nil,_,_=>.nil
 |_,_,_,.cons h t,k,i=>.cons (Rep.frame h (λa m=>k a (ac7 _ m)) i) (aA.frame t (λa m=>k a (acQ _ m)) i)
end
mutual
theorem Rep.cF:∀{d:D}{v:V}{fp:List Addr},Rep K H d v fp->∀a∈fp,∃o,H a=some o/\nO o=true
 |_,_,_,.aE,_,m=>nomatch m
 |_,_,_,.bl b,_,m=>nomatch m
 |_,_,_,.int i,_,m=>nomatch m
 |_,_,_,.str x,_,m=>nomatch m
 |_,_,_,.tup h r,a,m=>aA.cF r a m
 |_,_,_,.lst h r,a,m=>(abh.mp m).elim (λe=>⟨_,e ▸ h,rfl⟩) λm=>aA.cF r a m
 |_,_,_,.pM h r,a,m=>aA.cF r a m
 |_,_,_,.bD h e r,a,m=>(abh.mp m).elim (λe=>⟨_,e ▸ h,rfl⟩) λm=>aA.cF r a m
 |_,_,_,.n5 h e r,a,m=>(abh.mp m).elim (λe=>⟨_,e ▸ h,rfl⟩) λm=>aA.cF r a m
 |_,_,_,.exc _ _ _,_,m=>nomatch m
 |_,_,_,.ins _ h h2 e r,a,m=>(abh.mp m).elim (λe=>⟨_,e ▸ h,rfl⟩) λm=>(abh.mp m).elim (λe=>⟨_,e ▸ h2,rfl⟩) λm=>aA.cF r a m
theorem aA.cF:∀{ds:List D}{vs:List V}{fp:List Addr},aA K H ds vs fp->∀a∈fp,∃o,H a=some o/\nO o=true
 |_,_,_,.nil,_,m=>nomatch m
 |_,_,_,.cons h t,a,m=>(acW.mp m).elim (Rep.cF h a) (aA.cF t a)
end
theorem Rep.same(h:Rep K H d v fp)(s:aL H H'):Rep K H' d v fp:=
 h.frame (λa m=>let⟨o,e,_⟩:=h.cF a m;(s a o e).trans e.symm) (.of s)
theorem aA.same(h:aA K H ds vs fp)(s:aL H H'):aA K H' ds vs fp:=
 h.frame (λa m=>let⟨o,e,_⟩:=h.cF a m;(s a o e).trans e.symm) (.of s)
theorem aA.length:∀{ds:List D}{vs:List V}{fp:List Addr},aA K H ds vs fp->ds.length=vs.length
 |_,_,_,.nil=>rfl
 |_,_,_,.cons _ t=>by rw[acS,acS,aA.length t]
theorem aA.get:∀{ds:List D}{vs:List V}{fp:List Addr}{i:Nat}{d:D},aA K H ds vs fp->ds[i]? = some d->∃v f,vs[i]? = some v/\Rep K H d v f/\∀a∈f,a∈fp
 |_,_,_,_,_,.nil,e=>by simp at e
 |_,_,_,0,_,.cons h t,e=>by
  have e':=aco e;subst e';exact⟨_,_,rfl,h,λa m=>ac7 _ m⟩
 |_,_,_,i+1,d,.cons h t,e=>by
  obtain⟨v,f,e1,r,s⟩:=aA.get (d:=d) t (by simpa using e);exact⟨v,f,by simpa using e1,r,λa m=>acQ _ (s a m)⟩
theorem aA.append:∀{ds es:List D}{vs ws:List V}{f g:List Addr},aA K H ds vs f->aA K H es ws g->aA K H (ds++es) (vs++ws) (f++g)
 |_,_,_,_,_,_,.nil,s=>s
 |_,_,_,_,_,g,.cons h t,s=>by
  rw[adJ];exact .cons h (aA.append t s)
end
theorem Rep.ju{K:PySem.W.Frag}(r:Rep K H (.int i) v fp):v=.int i/\fp=[]:=by cases r;exact⟨rfl,rfl⟩
theorem Rep.An{K:PySem.W.Frag}(r:Rep K H (.bl i) v fp):v=.bl i/\fp=[]:=by cases r;exact⟨rfl,rfl⟩
theorem Rep.zZ{K:PySem.W.Frag}(r:Rep K H (.str i) v fp):v=.str i/\fp=[]:=by cases r;exact⟨rfl,rfl⟩
theorem Rep.zh{K:PySem.W.Frag}(r:Rep K H .aE v fp):v=.aE/\fp=[]:=by cases r;exact⟨rfl,rfl⟩
mutual
noncomputable def aH:D->Bool
 |.lst _|.bD _|.n5 _|.ins _ _=>false
 |.tup ds=>aN ds
 |.iZ ds=>aN ds
 |_=>true
noncomputable def aN:List D->Bool
 |[]=>true
 |d::ds=>aH d&&aN ds
end
section
variable{K:PySem.W.Frag}{H H':Hp}
mutual
theorem Rep.aH:∀{d:D}{v:V}{fp:List Addr},Rep K H d v fp->aH d=true->fp=[]
 |_,_,_,.aE,_=>rfl
 |_,_,_,.bl _,_=>rfl
 |_,_,_,.int _,_=>rfl
 |_,_,_,.str _,_=>rfl
 |_,_,_,.tup _ r,e=>aA.aH r (by unfold L2.Ev.aH at e;exact e)
 |_,_,_,.lst _ _,e=>by unfold L2.Ev.aH at e;cases e
 |_,_,_,.pM _ r,e=>by unfold L2.Ev.aH at e;exact aA.aH r e
 |_,_,_,.bD _ _ _,e=>by unfold L2.Ev.aH at e;cases e
 |_,_,_,.n5 _ _ _,e=>by unfold L2.Ev.aH at e;cases e
 |_,_,_,.ins _ _ _ _ _,e=>by unfold L2.Ev.aH at e;cases e
 |_,_,_,.exc _ _ _,_=>rfl
theorem aA.aH:∀{ds:List D}{vs:List V}{fp:List Addr},aA K H ds vs fp->aN ds=true->fp=[]
 |_,_,_,.nil,_=>rfl
 |_,_,_,.cons h t,e=>by
  unfold aN at e;obtain⟨a,b⟩:=(acr _ _).mp e;rw[Rep.aH h a,aA.aH t b];rfl
end
end
inductive Tag where
 |own|lk|sh (o:List Nat)
noncomputable abbrev Slot:=Option (D×Tag)
noncomputable abbrev aK:=List Slot
def uH(z:Addr->Option Nat)(i:Nat):Tag->List Addr->Prop
 |.sh o,fp=>∀a∈fp,∀j,z a=some j->j∈o
 |_,fp=>fp.Nodup/\∀a∈fp,z a=some i
def Bl(ρ:aK)(j:Nat):Prop:=∀d,ρ[j]?≠some (some (d,.own))
structure cI where
 d:D
 v:V
 fp:List Addr
 z0:Addr->Option Nat
structure Ok(K:PySem.W.Frag)(H0:Hp)(S:List Addr)(z:Addr->Option Nat)(held:List cI)(ρ:aK)(σ:St)(H:Hp):Prop where
 sl:∀i d t,ρ[i]? = some (some (d,t))->∃v fp,σ[i]? = some (some v)/\Rep K H d v fp/\uH z i t fp
 hl:∀p∈held,Rep K H p.d p.v p.fp/\∀a∈p.fp,∀j,z a=some j->p.z0 a=some j/\Bl ρ j
 zd:∀a j,z a=some j->(∃o,H a=some o)/\(H0 a=none\/a∈S)
 en:∀a o,H0 a=some o->a∉S->H a=some o
 ln:ρ.length=σ.length
theorem Ok.same{K:PySem.W.Frag}{H0:Hp}{S:List Addr}{z:Addr->Option Nat}(h:Ok K H0 S z held ρ σ H)(s:aL H H'):Ok K H0 S z held ρ σ H':=
 ⟨λi d t e=>let⟨v,fp,a,b,c⟩:=h.sl i d t e;⟨v,fp,a,b.same s,c⟩,λp m=>let⟨a,b⟩:=h.hl p m;⟨a.same s,b⟩,
  λa j e=>let⟨⟨o,x⟩,y⟩:=h.zd a j e;⟨⟨o,s _ _ x⟩,y⟩,λa o e n=>s _ _ (h.en a o e n),h.ln⟩
def cK(z:Addr->Option Nat)(H:Hp):Tag->List Addr->Prop
 |.sh o,fp=>∀a∈fp,∀j,z a=some j->j∈o
 |_,fp=>fp.Nodup/\∀a∈fp,H a=none
theorem cK.nil:cK z H t []:=by
 cases t with
 |sh o=>intro a m;cases m
 |own=>exact⟨ac1,λa m=>nomatch m⟩
 |lk=>exact⟨ac1,λa m=>nomatch m⟩
noncomputable abbrev EF:=aK->Option (D×Tag)
def FP(X:Cx)(e:Expr)(f:EF):Prop:=∃t,PE X e t/\∀(H0:Hp) (S:List Addr) (z:Addr->Option Nat) (held:List cI) (ρ:aK) (σ:St) (H:Hp) (Q:VK) (d:D) (tg:Tag),
 Ok X.K H0 S z held ρ σ H->f ρ=some (d,tg)->(∀H' v fp,aL H H'->Rep X.K H' d v fp->cK z H tg fp->Q v H')->t σ H Q
noncomputable abbrev AF:=aK->Option (List (D×Tag))
noncomputable abbrev TF:=aK->Option Bool
def FT(X:Cx)(e:Expr)(f:TF):Prop:=∃t,PT X e t/\∀(H0:Hp) (S:List Addr) (z:Addr->Option Nat) (held:List cI) (ρ:aK) (σ:St) (H:Hp) (Q:Bool->Hp->Prop) (b:Bool),
 Ok X.K H0 S z held ρ σ H->f ρ=some b->(∀H',aL H H'->Q b H')->t σ H Q
noncomputable def OY(i:Nat):Tag->Tag
 |.sh o=>.sh o
 |_=>.sh [i]
noncomputable def af(i:Nat):EF:=λρ=>match ρ[i]? with
 |some (some (d,t))=>some (d,OY i t)
 |_=>none
section
variable{X:Cx}
theorem ai(i:Nat){x:Str}{pos:Pos}(hN:X.N[i]? = some x:=by rfl)(hv:gP X.env.scope x:=by first|exact Or.inl rfl|exact Or.inr (Or.inl rfl)|exact Or.inr (Or.inr rfl))(hd:(x==("__debug__":Str))=false:=by decide)
  (cQ:(x==("__classdict__":Str))=false:=by decide):FP X (.Name x pos) (af i):=by
 refine⟨_,gX hN hv hd cQ,λH0 S z held ρ σ H Q d tg ok e q=>?_⟩;unfold af at e;cases h:ρ[i]? with
 |none=>rw[h] at e;cases e
 |some s=>
  cases s with
  |none=>rw[h] at e;cases e
  |some p=>
   obtain⟨d',t⟩:=p;rw[h] at e;have e':=aco e;have e1:=congrArg Prod.fst e';have e2:=congrArg Prod.snd e';subst e1 e2;obtain⟨v,fp,hs,r,zz⟩:=ok.sl i d' t h;refine⟨v,hs,q H v fp (aL.refl H) r ?_⟩;cases t with
   |sh o=>exact zz
   |own=>intro a m j ej;rw[zz.2 a m] at ej;cases ej;exact aaF
   |lk=>intro a m j ej;rw[zz.2 a m] at ej;cases ej;exact aaF
noncomputable def eC(d:D):EF:=λ_=>some (d,.own)
theorem aF{i j pos}:FP X (.Constant (.int i) j pos) (eC (.int i)):=⟨_,DK,λ_ _ _ _ _ _ H _ _ _ _ e q=>by cases e;exact q H _ _ (aL.refl H) (.int i) .nil⟩
theorem kP{b j pos}:FP X (.Constant (.bool b) j pos) (eC (.bl b)):=⟨_,ZY,λ_ _ _ _ _ _ H _ _ _ _ e q=>by cases e;exact q H _ _ (aL.refl H) (.bl b) .nil⟩
theorem oX{j pos}:FP X (.Constant .none j pos) (eC .aE):=⟨_,O_,λ_ _ _ _ _ _ H _ _ _ _ e q=>by cases e;exact q H _ _ (aL.refl H) .aE .nil⟩
noncomputable def e2(op:D->D->Option D)(fa fb:EF):EF:=λρ=>match fa ρ,fb ρ with
 |some (d1,_),some (d2,_)=>(op d1 d2).map λd=>(d,.own)
 |_,_=>none
theorem xr{op:D->D->Option D}(e:e2 op fa fb ρ=some (d,tg)):∃d1 t1 d2 t2,fa ρ=some (d1,t1)/\fb ρ=some (d2,t2)/\op d1 d2=some d/\tg=.own:=by
 unfold e2 at e;cases h1:fa ρ with
 |none=>rw[h1] at e;cases e
 |some p=>
  obtain⟨d1,t1⟩:=p;cases h2:fb ρ with
  |none=>rw[h1,h2] at e;cases e
  |some p=>
   obtain⟨d2,t2⟩:=p;rw[h1,h2] at e;dsimp only at e;cases h3:op d1 d2 with
   |none=>rw[h3] at e;cases e
   |some d3=>
    rw[h3] at e;cases e;exact⟨d1,t1,d2,t2,rfl,rfl,h3,rfl⟩
def gZ(K:PySem.W.Frag)(r:R2)(op:D->D->Option D):Prop:=∀(H:Hp) (x y:V) (d1 d2:D) (f1 f2:List Addr) (d:D) (Q:VK),Rep K H d1 x f1->Rep K H d2 y f2->op d1 d2=some d->
 (∀H' v,aL H H'->Rep K H' d v []->Q v H')->r x y H Q
theorem fp_2{r:R2}{op:D->D->Option D}(dd:gZ X.K r op)(ha:FP X a fa)(hb:FP X b fb)(he:∀ta tb,PE X a ta->PE X b tb->PE X e (sO r ta tb)):FP X e (e2 op fa fb):=by
 obtain⟨ta,pa,sa⟩:=ha;obtain⟨tb,pb,sb⟩:=hb;refine⟨_,he ta tb pa pb,λH0 S z held ρ σ H Q d tg ok e q=>?_⟩;obtain⟨d1,t1,d2,t2,e1,lq,e3,rfl⟩:=xr e;refine sa H0 S z held ρ σ H _ d1 t1 ok e1 λH1 x f1 s1 r1 _=>?_
 refine sb H0 S z held ρ σ H1 _ d2 t2 (ok.same s1) lq λH2 y f2 s2 r2 _=>?_
 exact dd H2 x y d1 d2 f1 f2 d Q (r1.same s2) r2 e3 λH3 v s3 r3=>q H3 v [] ((s1.trans s2).trans s3) r3 .nil
end
end L2.Ev
namespace L2.Ev
open PySem PySem.Spec PyProof.Rows
noncomputable def NQ:Tag->Tag->Tag
 |.sh o,.sh p=>.sh (o++p)
 |.sh o,_=>.sh o
 |_,t=>t
noncomputable def iN:List (D×Tag)->Tag
 |[]=>.own
 |p::r=>NQ p.2 (iN r)
def FA(X:Cx)(es:List Expr)(f:AF):Prop:=∃t,PA X es t/\(∀ρ ps,f ρ=some ps->ps.length=es.length)/\∀(H0:Hp) (S:List Addr) (z:Addr->Option Nat) (held:List cI) (ρ:aK) (σ:St) (H:Hp) (Q:List V->Hp->Prop) (ps:List (D×Tag)),
 Ok X.K H0 S z held ρ σ H->f ρ=some ps->(∀H' vs fp,aL H H'->aA X.K H' (ps.map (·.1)) vs fp->cK z H (iN ps) fp->Q vs H')->t σ H Q
noncomputable def aj:AF:=λ_=>some []
noncomputable def ah(f:EF)(g:AF):AF:=λρ=>match f ρ,g ρ with
 |some p,some ps=>some (p::ps)
 |_,_=>none
theorem MC{ps:List (D×Tag)}(e:ah f g ρ=some ps):∃d t r,f ρ=some (d,t)/\g ρ=some r/\ps=(d,t)::r:=by
 unfold ah at e;cases h1:f ρ with
 |none=>rw[h1] at e;cases e
 |some p=>
  cases h2:g ρ with
  |none=>rw[h1,h2] at e;cases e
  |some r=>
   rw[h1,h2] at e;cases e;exact⟨p.1,p.2,r,rfl,rfl,rfl⟩
theorem cK.join{K:PySem.W.Frag}(ok:Ok K H0 S z held ρ σ H)(s:aL H H1)
  (h1:cK z H t1 f1) (d1:∀a∈f1,∃o,H1 a=some o/\nO o=true) (h2:cK z H1 t2 f2):cK z H (NQ t1 t2) (f1++f2):=by
 have nz:∀{a:Addr}{j:Nat},H a=none->z a=some j->False:=λ{a j} e q=>by
  obtain⟨⟨o,w⟩,_⟩:=ok.zd a j q;rw[e] at w;cases w
 have both:∀{t1 t2:Tag},(f1.Nodup/\∀a∈f1,H a=none)->(f2.Nodup/\∀a∈f2,H1 a=none)->(f1++f2).Nodup/\∀a∈f1++f2,H a=none:=λp q=>by
  refine⟨adv.mpr ⟨p.1,q.1,λa m b m' e=>?_⟩,λa m=>?_⟩
  .subst e;obtain⟨o,w,_⟩:=d1 a m;rw[q.2 a m'] at w;cases w
  .rcases acW.mp m with m|m
   .exact p.2 a m
   .exact s.free (q.2 a m)
 cases t1 with
 |sh o=>
  have ia:=h1;cases t2 with
  |sh p=>
   intro a m j q;rcases acW.mp m with m|m
   .exact ac7 _ (ia a m j q)
   .exact acQ _ (h2 a m j q)
  |own=>
   intro a m j q;rcases acW.mp m with m|m
   .exact ia a m j q
   .exact(nz (s.free (h2.2 a m)) q).elim
  |lk=>
   intro a m j q;rcases acW.mp m with m|m
   .exact ia a m j q
   .exact(nz (s.free (h2.2 a m)) q).elim
 |own=>
  cases t2 with
  |sh p=>
   intro a m j q;rcases acW.mp m with m|m
   .exact(nz (h1.2 a m) q).elim
   .exact h2 a m j q
  |own=>exact both (t1:=.own) (t2:=.own) h1 h2
  |lk=>exact both (t1:=.own) (t2:=.own) h1 h2
 |lk=>
  cases t2 with
  |sh p=>
   intro a m j q;rcases acW.mp m with m|m
   .exact(nz (h1.2 a m) q).elim
   .exact h2 a m j q
  |own=>exact both (t1:=.own) (t2:=.own) h1 h2
  |lk=>exact both (t1:=.own) (t2:=.own) h1 h2
section
variable{X:Cx}{pos:Pos}
theorem aR:FA X [] aj:=⟨_,fM,λ_ _ e=>by cases e;rfl,λ_ _ _ _ _ _ H _ _ _ e q=>by cases e;exact q H _ _ (aL.refl H) .nil .nil⟩
theorem ao{e:Expr}{es:List Expr}{f:EF}{g:AF}(ha:FP X e f)(hr:FA X es g)(hs:starEach (e::es) X.env=(false,eval e X.env)::starEach es X.env:=by rfl):FA X (e::es) (ah f g):=by
 obtain⟨t,p,q⟩:=ha;obtain⟨t',p',l',q'⟩:=hr;refine⟨_,c_ p p' hs,λρ ps e=>by obtain⟨d,tg,r,e1,e2,rfl⟩:=MC e;rw[acS,acS,l' ρ r e2],λH0 S z held ρ σ H Q ps ok e k=>?_⟩;obtain⟨d,tg,r,e1,e2,rfl⟩:=MC e;refine q H0 S z held ρ σ H _ d tg ok e1 λH1 v f1 s1 r1 g1=>?_
 refine q' H0 S z held ρ σ H1 _ r (ok.same s1) e2 λH2 vs f2 s2 r2 g2=>?_
 exact k H2 (v::vs) (f1++f2) (s1.trans s2) (.cons (r1.same s2) r2) (cK.join ok s1 g1 r1.cF g2)
noncomputable def je(g:AF):EF:=λρ=>(g ρ).map λps=>(.tup (ps.map (·.1)),iN ps)
theorem zG{es:List Expr}{g:AF}{x1}(h:FA X es g)(hl:es.length<=1000:=by decide):FP X (.Tuple es x1 pos) (je g):=by
 obtain⟨t,p,hg,q⟩:=h;refine⟨_,N9 p,λH0 S z held ρ σ H Q d tg ok e k=>?_⟩;unfold je at e;cases h1:g ρ with
 |none=>rw[h1] at e;cases e
 |some ps=>
  rw[h1] at e;cases e;refine q H0 S z held ρ σ H _ ps ok h1 λH1 vs fp s1 r1 g1=>⟨?_,λa ha=>?_⟩
  .rw[<- r1.length,List.length_map,hg ρ ps h1];exact aen (zT hl)
  .have s2:aL H1 (upd H1 a (.tup vs)):=λb o e=>by rw[aY (dz e ha)];exact e
   exact k _ _ fp (s1.trans s2) (.tup (cA.of cB) (r1.same s2)) g1
noncomputable def cO(g:AF):EF:=λρ=>(g ρ).map λps=>(.lst (ps.map (·.1)),iN ps)
theorem cK.cons{K:PySem.W.Frag}{H0:Hp}{S:List Addr}{z:Addr->Option Nat}{held:List cI}(ok:Ok K H0 S z held ρ σ H)(s:aL H H1)(h:cK z H t fp)
  (d:∀b∈fp,∃o,H1 b=some o/\nO o=true) (ha:H1 a=none):cK z H t (a::fp):=by
 have na:=s.free ha;have both:(fp.Nodup/\∀b∈fp,H b=none)->(a::fp).Nodup/\∀b∈a::fp,H b=none:=λp=>by
  refine⟨acV.mpr ⟨λm=>?_,p.1⟩,λb m=>?_⟩
  .obtain⟨o,w,_⟩:=d a m;rw[ha] at w;cases w
  .rcases abh.mp m with e|m
   .rw[e];exact na
   .exact p.2 b m
 cases t with
 |sh o=>
  intro b m j q;rcases abh.mp m with e|m
  .obtain⟨⟨o,w⟩,_⟩:=ok.zd b j q;rw[e,na] at w;cases w
  .exact h b m j q
 |own=>exact both h
 |lk=>exact both h
theorem kc{es:List Expr}{g:AF}(h:FA X es g)(hl:es.length<=1000:=by decide):FP X (.List es pos) (cO g):=by
 obtain⟨t,p,hg,q⟩:=h;refine⟨_,abb p,λH0 S z held ρ σ H Q d tg ok e k=>?_⟩;unfold cO at e;cases h1:g ρ with
 |none=>rw[h1] at e;cases e
 |some ps=>
  rw[h1] at e;cases e;refine q H0 S z held ρ σ H _ ps ok h1 λH1 vs fp s1 r1 g1=>⟨?_,λa ha=>?_⟩
  .rw[<- r1.length,List.length_map,hg ρ ps h1];exact aen (zT hl)
  .have s2:aL H1 (upd H1 a (.lst vs)):=λb o e=>by rw[aY (dz e ha)];exact e
   exact k _ _ (a::fp) (s1.trans s2) (.lst cB (r1.same s2)) (g1.cons ok s1 r1.cF ha)
end
def aO(K:PySem.W.Frag)(F:List D->Option D):Sp:=λvs H Q _=>∃ds fp d,aA K H ds vs fp/\F ds=some d/\∀H' v eF,aL H H'->Rep K H' d v eF->eF.Nodup->(∀a∈eF,H a=none)->Q v H'
noncomputable def aC(F:List D->Option D)(g:AF):EF:=λρ=>(g ρ).bind λps=>(F (ps.map (·.1))).map λd=>(d,.own)
theorem X5{F:List D->Option D}(e:aC F g ρ=some (d,tg)):∃ps,g ρ=some ps/\F (ps.map (·.1))=some d/\tg=.own:=by
 unfold aC at e;cases h1:g ρ with
 |none=>rw[h1] at e;cases e
 |some ps=>
  rw[h1,adk] at e;cases h2:F (ps.map (·.1)) with
  |none=>rw[h2] at e;cases e
  |some d'=>
   rw[h2] at e;cases e;exact⟨ps,rfl,h2,rfl⟩
section
variable{X:Cx}{x:Str}{p pos:Pos}{e:Expr}{es:List Expr}{k:Nat}{f:Addr}{fd:FuncData}{ps:List Str}{F:List D->Option D}{g:AF}
theorem bK(G:a_ X.prog X.w X.K X.mg X.base aJ k f fd ps (aO X.K F) cm)(hr:cN k X.A cm)(hm:X.mg x=some (.ref f))(hk:PySem.W.keepIn X.K (.ref f)=true)(hb:Binds X.K fd ps [])(ha:FA X (e::es) g)
  (hg:Gl X x:=by rfl) (e8:(x==("__debug__":Str))=false:=by decide)
  (he:starEach (e::es) X.env=(false,eval e X.env)::starEach es X.env:=by rfl) (hpl:(backTo pos (starEach es X.env)).any (·.1)=false:=by rfl):FP X (.Call (.Name x p) (e::es) [] pos) (aC F g):=by
 obtain⟨t,pa,_,sa⟩:=ha;refine⟨_,xW G hr hg hm hk hb .nil pA pa e8 he hpl,λH0 S z held ρ σ H Q d tg ok e0 q=>?_⟩;obtain⟨qs,e1,e2,rfl⟩:=X5 e0;refine sa H0 S z held ρ σ H _ qs ok e1 λH1 vs fp s1 r1 _=>?_
 rw[ady];exact⟨_,fp,d,r1,e2,λH2 v eF s2 r2 nd fr=>q H2 v eF (s1.trans s2) r2 ⟨nd,λa m=>s1.free (fr a m)⟩⟩
end
section
variable{X:Cx}{pos:Pos}
noncomputable def tV(f:EF):TF:=λρ=>match f ρ with
 |some (.bl b,_)=>some b
 |_=>none
theorem Ol(e:tV f ρ=some b):∃t,f ρ=some (.bl b,t):=by
 unfold tV at e;cases h:f ρ with
 |none=>rw[h] at e;cases e
 |some p=>
  obtain⟨d,t⟩:=p;rw[h] at e;cases d<;>first|(cases e;exact⟨t,rfl⟩)|cases e
theorem gm(h:FP X e f)(he:∀whole,isTrue e X.env whole=(do let v <- whole;standAt e.pos;holding [v] (truthy v)):=by intro _;rfl):FT X e (tV f):=by
 obtain⟨t,p,q⟩:=h;refine⟨_,abE p he,λH0 S z held ρ σ H Q b ok e k=>?_⟩;obtain⟨tg,e1⟩:=Ol e;refine q H0 S z held ρ σ H _ _ tg ok e1 λH1 v fp s1 r1 _=>?_
 cases r1;exact⟨b,rfl,k H1 s1⟩
theorem qc{op:CmpOp}{r:R2}{o:D->D->Option D}(ho:dM X (compareOp op) r)(dd:gZ X.K r o)(ha:FP X a fa)(hb:FP X b fb)(hm:behindInMarks op b=false):FT X (.Compare a [op] [b] pos) (tV (e2 o fa fb)):=by
 obtain⟨ta,pa,sa⟩:=ha;obtain⟨tb,pb,sb⟩:=hb;refine⟨_,R0 ho pa pb hm,λH0 S z held ρ σ H Q c ok e k=>?_⟩;obtain⟨tg,e0⟩:=Ol e;obtain⟨d1,t1,d2,t2,e1,lq,e3,rfl⟩:=xr e0;refine sa H0 S z held ρ σ H _ d1 t1 ok e1 λH1 x f1 s1 r1 _=>?_
 refine sb H0 S z held ρ σ H1 _ d2 t2 (ok.same s1) lq λH2 y f2 s2 r2 _=>?_
 refine dd H2 x y d1 d2 f1 f2 _ _ (r1.same s2) r2 e3 λH3 v s3 r3=>?_
 cases r3;exact⟨c,rfl,k H3 ((s1.trans s2).trans s3)⟩
theorem tR{op:CmpOp}{r:R2}{o:D->D->Option D}(ho:dM X (compareOp op) r)(dd:gZ X.K r o)(ha:FP X a fa)(hb:FP X b fb)(hm:behindInMarks op b=false):FP X (.Compare a [op] [b] pos) (e2 o fa fb):=
 fp_2 dd ha hb λ_ _ pa pb=>QE ho pa pb hm
theorem qN{op:Operator}{r:R2}{o:D->D->Option D}(ho:dM X (binaryOp op) r)(dd:gZ X.K r o)(ha:FP X a fa)(hb:FP X b fb):FP X (.BinOp a op b pos) (e2 o fa fb):=
 fp_2 dd ha hb λ_ _ pa pb=>As ho pa pb
noncomputable def jh(f g:TF):TF:=λρ=>match f ρ with
 |some true=>g ρ
 |some false=>some false
 |none=>none
noncomputable def iz(f g:TF):TF:=λρ=>match f ρ with
 |some true=>some true
 |some false=>g ρ
 |none=>none
noncomputable def dF(f:TF):TF:=λρ=>(f ρ).map λb=>!b
def FW(X:Cx)(e:Expr)(f:TF):Prop:=∃t,PW X e t/\∀(H0:Hp) (S:List Addr) (z:Addr->Option Nat) (held:List cI) (ρ:aK) (σ:St) (H:Hp) (Q:Bool->Hp->Prop) (b:Bool),
 Ok X.K H0 S z held ρ σ H->f ρ=some b->(∀H',aL H H'->Q b H')->t σ H Q
theorem FW.ft(h:FW X e f):FT X e f:=let⟨t,p,q⟩:=h;⟨t,p.pt,q⟩
theorem Ht(h:FT X a f):FW X (.BoolOp .And [a] pos) f:=let⟨t,p,q⟩:=h;⟨t,abR p,q⟩
theorem sF(h:FT X a f):FW X (.BoolOp .Or [a] pos) f:=let⟨t,p,q⟩:=h;⟨t,acA p,q⟩
theorem B3(ha:FT X a f)(hb:FW X (.BoolOp .And (b::rest) pos) g):FW X (.BoolOp .And (a::b::rest) pos) (jh f g):=by
 obtain⟨t,p,q⟩:=ha;obtain⟨t',p',q'⟩:=hb;refine⟨_,RS p p',λH0 S z held ρ σ H Q c ok e k=>?_⟩;unfold jh at e;cases h:f ρ with
 |none=>rw[h] at e;cases e
 |some y=>
  rw[h] at e;cases y with
  |false=>
   cases e;refine q H0 S z held ρ σ H _ false ok h λH1 s1=>?_
   rw[if_neg ab3];exact k H1 s1
  |true=>
   refine q H0 S z held ρ σ H _ true ok h λH1 s1=>?_
   rw[if_pos rfl];exact q' H0 S z held ρ σ H1 _ c (ok.same s1) e λH2 s2=>k H2 (s1.trans s2)
theorem tE(ha:FT X a f)(hb:FW X (.BoolOp .Or (b::rest) pos) g):FW X (.BoolOp .Or (a::b::rest) pos) (iz f g):=by
 obtain⟨t,p,q⟩:=ha;obtain⟨t',p',q'⟩:=hb;refine⟨_,SV p p',λH0 S z held ρ σ H Q c ok e k=>?_⟩;unfold iz at e;cases h:f ρ with
 |none=>rw[h] at e;cases e
 |some y=>
  rw[h] at e;cases y with
  |true=>
   cases e;refine q H0 S z held ρ σ H _ true ok h λH1 s1=>?_
   rw[if_pos rfl];exact k H1 s1
  |false=>
   refine q H0 S z held ρ σ H _ false ok h λH1 s1=>?_
   rw[if_neg ab3];exact q' H0 S z held ρ σ H1 _ c (ok.same s1) e λH2 s2=>k H2 (s1.trans s2)
theorem jU(ha:FT X a f):FT X (.UnaryOp .Not a pos) (dF f):=by
 obtain⟨t,p,q⟩:=ha;refine⟨_,Yi p,λH0 S z held ρ σ H Q c ok e k=>?_⟩;unfold dF at e;cases h:f ρ with
 |none=>rw[h] at e;cases e
 |some y=>
  rw[h] at e;cases e;exact q H0 S z held ρ σ H _ y ok h λH1 s1=>k H1 s1
end
inductive Out where
 |nx (ρ:aK)|rt (d:D)|bk (ρ:aK)|ct (ρ:aK)
 |er (raw:Bool) (cn:XN) (ρ:aK)
noncomputable abbrev SF:=aK->Option Out
noncomputable def mG(X:Cx)(x:Str):Bool:=x==("self":Str)||(X.fn ("self":Str)&&!X.fn x)
def Kp(X:Cx)(σ aD:St):Prop:=∀(i:Nat) (x:Str),X.N[i]? = some x->mG X x=true->aD[i]? = σ[i]?
theorem Kp.refl(X:Cx)(σ:St):Kp X σ σ:=λ_ _ _ _=>rfl
theorem Kp.trans(a:Kp X σ wA)(b:Kp X wA iB):Kp X σ iB:=λi x h k=>(b i x h k).trans (a i x h k)
theorem Kp.set{v:Option V}(hi:X.N[i]? = some x)(hs:mG X x=false):Kp X σ (σ.set i v):=λj y h k=>by
 refine adH λe=>?_
 subst e;rw[hi] at h;have h:=aco h;subst h;rw[hs] at k;cases k
def nV(X:Cx)(H0:Hp)(S:List Addr)(held:List cI)(gR:St)(raw:Bool)(cn:XN)(ρ:aK):Prop:=∃ES:XS,(if raw=true then abj X ES else uM X ES)/\
 ∀z σ H C,Ok X.K H0 S z held ρ σ H->Kp X gR σ->PySem.W.nsIn X.K mainGlobals cn.1=some (some (.ref C))->ES (.ref C) cn.2 σ H
theorem nV.of{cn:XN}(k:nV X H0 S held σ raw cn ρ)(a:Kp X σ aD):nV X H0 S held aD raw cn ρ:=
 let⟨ES,th,q⟩:=k;⟨ES,th,λz s H C ok b hC=>q z s H C ok (a.trans b) hC⟩
def tO(X:Cx)(H0:Hp)(S:List Addr)(held:List cI)(gR:St)(E:Ends):Out->Prop
 |.nx ρ=>∀z σ H,Ok X.K H0 S z held ρ σ H->Kp X gR σ->E.nx σ H
 |.bk ρ=>∀z σ H,Ok X.K H0 S z held ρ σ H->Kp X gR σ->E.bk σ H
 |.ct ρ=>∀z σ H,Ok X.K H0 S z held ρ σ H->Kp X gR σ->E.ct σ H
 |.er raw cn ρ=>nV X H0 S held gR raw cn ρ
 |.rt d=>∀H v fp,(∀a o,H0 a=some o->a∉S->H a=some o)->Rep X.K H d v fp->fp.Nodup->(∀a∈fp,H0 a=none\/a∈S)->E.rt v H
def FS(X:Cx)(st:List Stmt)(f:SF):Prop:=∃t,gK X st t/\∀(H0:Hp) (S:List Addr) (z:Addr->Option Nat) (held:List cI) (ρ:aK) (σ:St) (H:Hp) (E:Ends) (o:Out),
 Ok X.K H0 S z held ρ σ H->f ρ=some o->tO X H0 S held σ E o->t E σ H
def fJ(X:Cx)(st:Stmt)(f:SF):Prop:=∃t,PS X st t/\∀(H0:Hp) (S:List Addr) (z:Addr->Option Nat) (held:List cI) (ρ:aK) (σ:St) (H:Hp) (E:Ends) (o:Out),
 Ok X.K H0 S z held ρ σ H->f ρ=some o->tO X H0 S held σ E o->t E σ H
theorem tO.of{E:Ends}{o:Out}(k:tO X H0 S held σ E o)(a:Kp X σ aD):tO X H0 S held aD E o:=by
 cases o with
 |nx ρ=>exact λz s H ok b=>k z s H ok (a.trans b)
 |bk ρ=>exact λz s H ok b=>k z s H ok (a.trans b)
 |ct ρ=>exact λz s H ok b=>k z s H ok (a.trans b)
 |rt d=>exact k
 |er raw cn ρ=>exact nV.of k a
noncomputable def bx:SF:=λρ=>some (.nx ρ)
noncomputable def aB(f g:SF):SF:=λρ=>match f ρ with
 |some (.nx au)=>g au
 |o=>o
section
variable{X:Cx}{pos:Pos}
theorem e_:FS X [] bx:=⟨_,HA,λ_ _ z _ _ σ H _ _ ok e k=>by cases e;exact k z σ H ok (.refl _ _)⟩
theorem bg{st:Stmt}{f:SF}(h:fJ X st f):FS X [st] f:=let⟨t,p,q⟩:=h;⟨t,tU p,q⟩
theorem aZ{st:Stmt}{rest:List Stmt}{f g:SF}(h1:fJ X st f)(h2:FS X rest g):FS X (st::rest) (aB f g):=by
 obtain⟨t,p,q⟩:=h1;obtain⟨t',p',q'⟩:=h2;refine⟨_,xY p p',λH0 S z held ρ σ H E o ok e k=>?_⟩;unfold aB at e;cases h:f ρ with
 |none=>rw[h] at e;cases e
 |some w=>
  refine q H0 S z held ρ σ H _ w ok h ?_;rw[h] at e;cases w with
  |nx au=>exact λz' aD H' bq a=>q' H0 S z' held au aD H' E o bq e (k.of a)
  |rt d=>cases e;exact k
  |bk au=>cases e;exact k
  |ct au=>cases e;exact k
  |er _ _ _=>cases e;exact k
noncomputable def pJ:SF:=λ_=>none
theorem Ip{st:Stmt}:fJ X st pJ:=⟨_,HR,λ_ _ _ _ _ _ _ _ _ _ e _=>by cases e⟩
noncomputable def bG(c:TF)(f g:SF):SF:=λρ=>match c ρ with
 |some true=>f ρ
 |some false=>g ρ
 |none=>none
theorem fz(hc:FT X c tc)(ha:FS X a f)(hb:FS X b g):fJ X (.If c a b pos) (bG tc f g):=by
 obtain⟨t,p,q⟩:=hc;obtain⟨t1,p1,q1⟩:=ha;obtain⟨t2,p2,q2⟩:=hb;refine⟨_,Cg p p1 p2,λH0 S z held ρ σ H E o ok e k=>?_⟩;unfold bG at e;cases h:tc ρ with
 |none=>rw[h] at e;cases e
 |some y=>
  rw[h] at e;refine q H0 S z held ρ σ H _ y ok h λH1 s1=>?_
  cases y with
  |true=>rw[if_pos rfl];exact q1 H0 S z held ρ σ H1 E o (ok.same s1) e k
  |false=>rw[if_neg ab3];exact q2 H0 S z held ρ σ H1 E o (ok.same s1) e k
noncomputable def kh:Tag->Bool
 |.sh _=>false
 |_=>true
noncomputable def bT(f:EF):SF:=λρ=>match f ρ with
 |some (d,t)=>if kh t=true then some (.rt d) else if aH d=true then some (.rt d) else none
 |none=>none
theorem cH(he:FP X e f):fJ X (.Return (some e) pos) (bT f):=by
 obtain⟨t,p,q⟩:=he;refine⟨_,oW p,λH0 S z held ρ σ H E o ok e k=>?_⟩;unfold bT at e;cases h:f ρ with
 |none=>rw[h] at e;cases e
 |some w=>
  obtain⟨d,tg⟩:=w;rw[h] at e;dsimp only at e;refine q H0 S z held ρ σ H _ d tg ok h λH1 v fp s1 r1 g1=>?_
  have en:∀a o,H0 a=some o->a∉S->H1 a=some o:=λa o e n=>s1 _ _ (ok.en a o e n)
  by_cases ho:kh tg=true
  .rw[if_pos ho] at e;cases e;have g:fp.Nodup/\∀a∈fp,H a=none:=by cases tg<;>first|exact g1|cases ho
   refine k H1 v fp en r1 g.1 λa m=>?_
   cases h0:H0 a with
   |none=>exact .inl rfl
   |some o=>
    by_cases hs:a∈S
    .exact .inr hs
    .have w:=ok.en a o h0 hs;rw[g.2 a m] at w;cases w
  .rw[if_neg ho] at e
   by_cases hi:aH d=true
   .rw[if_pos hi] at e;cases e;have hn:=r1.aH hi;subst hn;exact k H1 v [] en r1 ac1 λa m=>nomatch m
   .rw[if_neg hi] at e;cases e
noncomputable def mC(i:Nat):SF:=λρ=>match ρ[i]? with
 |some (some (d,t))=>if kh t=true then some (.rt d) else if aH d=true then some (.rt d) else none
 |_=>none
theorem yI(i:Nat)(hN:X.N[i]? = some x:=by rfl)(hv:gP X.env.scope x:=by first|exact Or.inl rfl|exact Or.inr (Or.inl rfl)|exact Or.inr (Or.inr rfl))(hd:(x==("__debug__":Str))=false:=by decide)
  (cQ:(x==("__classdict__":Str))=false:=by decide):fJ X (.Return (some (.Name x pos')) pos) (mC i):=by
 refine⟨_,oW (gX hN hv hd cQ),λH0 S z held ρ σ H E o ok e k=>?_⟩;unfold mC at e;cases h:ρ[i]? with
 |none=>rw[h] at e;cases e
 |some w=>
  cases w with
  |none=>rw[h] at e;cases e
  |some w=>
   obtain⟨d,tg⟩:=w;rw[h] at e;dsimp only at e;obtain⟨v,fp,hs,r,zz⟩:=ok.sl i d tg h;refine⟨v,hs,?_⟩
   by_cases ho:kh tg=true
   .rw[if_pos ho] at e;cases e;have g:fp.Nodup/\∀a∈fp,z a=some i:=by cases tg<;>first|exact zz|cases ho
    exact k H v fp ok.en r g.1 λa m=>(ok.zd a i (g.2 a m)).2
   .rw[if_neg ho] at e
    by_cases hi:aH d=true
    .rw[if_pos hi] at e;cases e;have hn:=r.aH hi;subst hn;exact k H v [] ok.en r ac1 λa m=>nomatch m
    .rw[if_neg hi] at e;cases e
noncomputable def lV(ρ:aK)(i:Nat)(d:D):Tag->aK
 |.sh o=>ρ.set i (some (d,.sh o))
 |_=>ρ.set i (some (d,.own))
noncomputable def aM(i:Nat)(f:EF):SF:=λρ=>match f ρ with
 |some (d,t)=>some (.nx (lV ρ i d t))
 |none=>none
theorem Ok.set{K:PySem.W.Frag}{H0:Hp}{S:List Addr}{σ:St}{H H1:Hp}{i:Nat}{d:D}{t:Tag}{v:V}{fp:List Addr}(ok:Ok K H0 S z held ρ σ H)(hi:i<σ.length)(s:aL H H1)
  (r:Rep K H1 d v fp) (g:cK z H t fp):∃z',Ok K H0 S z' held (lV ρ i d t) (σ.set i (some v)) H1:=by
 classical
 have vp:i<ρ.length:=by rw[ok.ln];exact hi
 have dH:∀{a:Addr},H a=none->z a=none:=λ{a} e=>by
  cases q:z a with
  |none=>rfl
  |some j=>obtain⟨⟨o,w⟩,_⟩:=ok.zd a j q;rw[e] at w;cases w
 have main:∀(fo:List Addr) (tg:Tag),(∀a∈fo,H a=none/\∃o,H1 a=some o)->uH (λa=>if a∈fo then some i else if z a=some i then none else z a) i tg fp->
   Ok K H0 S (λa=>if a∈fo then some i else if z a=some i then none else z a) held (ρ.set i (some (d,tg))) (σ.set i (some v)) H1:=by
  intro fo tg J9 hz;have old:∀{eF:List Addr},(∀a∈eF,∃o,H a=some o/\nO o=true)->∀a∈eF,(if a∈fo then some i else if z a=some i then none else z a)=(if z a=some i then none else z a):=λ{eF} h a m=>by
   rw[if_neg λq=>?_];obtain⟨o,w,_⟩:=h a m;rw[(J9 a q).1] at w;cases w
  refine⟨λj d' t' e=>?_,λp hp=>?_,λa j e=>?_,λa o e n=>s _ _ (ok.en a o e n),by rw[aeY,aeY];exact ok.ln⟩
  .by_cases hj:j=i
   .subst hj;rw[ad9 vp] at e;cases e;exact⟨v,fp,ad9 hi,r,hz⟩
   .rw[adH (aej hj)] at e;obtain⟨v',eF,bN,r',z'⟩:=ok.sl j d' t' e;refine⟨v',eF,by rw[adH (aej hj)];exact bN,r'.same s,?_⟩;have o1:=old r'.cF;cases t' with
    |sh o=>
     intro a m k q;dsimp only at q;rw[o1 a m] at q
     by_cases w:z a=some i
     .rw[if_pos w] at q;cases q
     .rw[if_neg w] at q;exact z' a m k q
    |own=>exact⟨z'.1,λa m=>by dsimp only;rw[o1 a m,if_neg (by rw[z'.2 a m];intro w;exact hj (aco w))];exact z'.2 a m⟩
    |lk=>exact⟨z'.1,λa m=>by dsimp only;rw[o1 a m,if_neg (by rw[z'.2 a m];intro w;exact hj (aco w))];exact z'.2 a m⟩
  .obtain⟨r',ZT⟩:=ok.hl p hp;refine⟨r'.same s,λa m j q=>?_⟩;rw[old r'.cF a m] at q
   by_cases w:z a=some i
   .rw[if_pos w] at q;cases q
   .rw[if_neg w] at q;obtain⟨Ux,e'⟩:=ZT a m j q;have hj:j≠i:=λe=>w (by rw[<- e];exact q)
    exact⟨Ux,λd'=>by rw[adH (aej hj)];exact e' d'⟩
  .by_cases w:a∈fo
   .obtain⟨w1,w2⟩:=J9 a w;refine⟨w2,?_⟩;cases h0:H0 a with
    |none=>exact .inl rfl
    |some o=>
     by_cases hs:a∈S
     .exact .inr hs
     .have q:=ok.en a o h0 hs;rw[w1] at q;cases q
   .rw[if_neg w] at e
    by_cases w':z a=some i
    .rw[if_pos w'] at e;cases e
    .rw[if_neg w'] at e;obtain⟨⟨o,x⟩,y⟩:=ok.zd a j e;exact⟨⟨o,s _ _ x⟩,y⟩
 have own:(fp.Nodup/\∀a∈fp,H a=none)->Ok K H0 S (λa=>if a∈fp then some i else if z a=some i then none else z a) held (ρ.set i (some (d,.own))) (σ.set i (some v)) H1:=λg=>
  main fp .own (λa m=>⟨g.2 a m,let⟨o,w,_⟩:=r.cF a m;⟨o,w⟩⟩) ⟨g.1,λa m=>if_pos m⟩
 cases t with
 |own=>exact⟨_,own g⟩
 |lk=>exact⟨_,own g⟩
 |sh o=>
  refine⟨_,main [] (.sh o) (λa m=>nomatch m) λa m j q=>?_⟩;have q:(if a∈([]:List Addr) then some i else if z a=some i then none else z a)=some j:=q;rw[if_neg (show ¬a∈([]:List Addr) from λw=>nomatch w)] at q
  by_cases w:z a=some i
  .rw[if_pos w] at q;cases q
  .rw[if_neg w] at q;exact g a m j q
theorem Ok.stored{K:PySem.W.Frag}{H H1:Hp}{i:Nat}{d:D}{fp:List Addr}{G:Prop}(ok:Ok K H0 S z held ρ σ H)(s:aL H H1)
  (r:Rep K H1 d v fp) (g:cK z H t fp) (k:∀z',Ok K H0 S z' held (lV ρ i d t) (σ.set i (some v)) H1->G):G:=by
 by_cases hi:i<σ.length
 .obtain⟨z',bq⟩:=ok.set hi s r g;exact k z' bq
 .have e1:σ.set i (some v)=σ:=List.set_eq_of_length_le (Nat.le_of_not_lt hi);have e2:∀w,ρ.set i w=ρ:=λw=>List.set_eq_of_length_le (by rw[ok.ln];exact Nat.le_of_not_lt hi)
  have e3:lV ρ i d t=ρ:=by cases t<;>exact e2 _
  refine k z ?_;rw[e1,e3];exact ok.same s
theorem cE(i:Nat){x:Str}{e:Expr}{f:EF}{pos':Pos}(he:FP X e f)(hN:X.N.Nodup)(hi:X.N[i]? = some x:=by rfl)(hx:Loc X.env.scope x:=by first|exact Or.inl rfl|exact Or.inr rfl)
  (hs:swapsWith e (some (.Name x pos')) pos.line X.env=pure false:=by rfl) (hf:X.fn x=true\/X.env.scope.names.lookup x=some .local:=by first|exact .inl rfl|exact .inr rfl) (mK:mG X x=false:=by rfl):fJ X (.Assign [.Name x pos'] e pos) (aM i f):=by
 obtain⟨t,p,q⟩:=he;refine⟨_,LB hN hi hx p hs hf,λH0 S z held ρ σ H E o ok e k=>?_⟩;unfold aM at e;cases h:f ρ with
 |none=>rw[h] at e;cases e
 |some w=>
  obtain⟨d,tg⟩:=w;rw[h] at e;cases e;refine q H0 S z held ρ σ H _ d tg ok h λH1 v fp s1 r1 g1=>?_
  exact ok.stored s1 r1 g1 λz' bq=>k z' _ H1 bq (.set hi mK)
end
noncomputable abbrev GF:=D->Tag->aK->Option aK
def FG(X:Cx)(tg:Expr)(g:GF)(is:List Nat):Prop:=(∀i∈is,∀x,X.N[i]? = some x->mG X x=false)/\∃t,PG X tg t/\∀(H0:Hp) (S:List Addr) (z:Addr->Option Nat) (held:List cI) (ρ:aK) (σ:St) (H H1:Hp) (v:V) (d:D) (tag:Tag) (fp:List Addr) (Q:St->Hp->Prop) (au:aK),
 Ok X.K H0 S z held ρ σ H->aL H H1->Rep X.K H1 d v fp->cK z H tag fp->g d tag ρ=some au->(∀z' aD,Ok X.K H0 S z' held au aD H1->(aD.length=σ.length/\∀j,j∉is->aD[j]? = σ[j]?)->Q aD H1)->t v σ H1 Q
noncomputable def gN(i:Nat):GF:=λd t ρ=>some (lV ρ i d t)
noncomputable abbrev n9:=List D->aK->Option aK
theorem Kp.off{is:List Nat}(hk:∀i∈is,∀x,X.N[i]? = some x->mG X x=false)(h:∀j,j∉is->aD[j]? = σ[j]?):Kp X σ aD:=λi x e k=>h i λm=>by rw[hk i m x e] at k;cases k
def xG(X:Cx)(ts:List Expr)(g:n9)(is:List Nat):Prop:=(∀i∈is,∀x,X.N[i]? = some x->mG X x=false)/\∃t,wc X ts t/\(∀ds ρ au,g ds ρ=some au->ds.length=ts.length)/\∀(H0:Hp) (S:List Addr) (z:Addr->Option Nat) (held:List cI) (ρ:aK) (σ:St) (H:Hp) (vs:List V) (ds:List D) (fp:List Addr) (Q:St->Hp->Prop) (au:aK),
 Ok X.K H0 S z held ρ σ H->aA X.K H ds vs fp->g ds ρ=some au->(∀z' aD,Ok X.K H0 S z' held au aD H->(aD.length=σ.length/\∀j,j∉is->aD[j]? = σ[j]?)->Q aD H)->t vs σ H Q
noncomputable def i7:n9:=λds ρ=>match ds with
 |[]=>some ρ
 |_=>none
noncomputable def b_(g:GF)(gs:n9):n9:=λds ρ=>match ds with
 |d::r=>if aH d=true then(g d .own ρ).bind λau=>gs r au else none
 |_=>none
theorem LQ{gs:n9}(e:b_ g gs ds ρ=some au):∃d r aG,ds=d::r/\aH d=true/\g d .own ρ=some aG/\gs r aG=some au:=by
 cases ds with
 |nil=>cases e
 |cons d r=>
  unfold b_ at e;dsimp only at e
  by_cases hi:aH d=true
  .rw[if_pos hi] at e;cases h:g d .own ρ with
   |none=>rw[h] at e;cases e
   |some aG=>
    rw[h,adk] at e;exact⟨d,r,aG,rfl,hi,h,e⟩
  .rw[if_neg hi] at e;cases e
noncomputable def gT(gs:n9):GF:=λd _ ρ=>match d with
 |.tup ds=>gs ds ρ
 |_=>none
section
variable{X:Cx}{pos:Pos}
theorem bY(i:Nat){x:Str}(hN:X.N.Nodup)(hi:X.N[i]? = some x:=by rfl)(hx:Loc X.env.scope x:=by first|exact Or.inl rfl|exact Or.inr rfl)(hf:X.fn x=true\/X.env.scope.names.lookup x=some .local:=by first|exact .inl rfl|exact .inr rfl)(mK:mG X x=false:=by rfl):FG X (.Name x pos) (gN i) [i]:=by
 refine⟨λj m y e=>by rw[aa8.mp m,hi] at e;have e:=aco e;subst e;exact mK,_,SD hN hi hx hf,λH0 S z held ρ σ H H1 v d tag fp Q au ok s r g e k=>?_⟩;cases e;exact ok.stored s r g λz' bq=>k z' _ bq ⟨aeY ..,λj hj=>adH λe=>hj (by rw[e];exact aaF)⟩
theorem pN:xG X [] i7 []:=by
 refine⟨λj m=>(nomatch m),_,aaT,λds ρ au e=>?_,λH0 S z held ρ σ H vs ds fp Q au ok r e k=>?_⟩
 .cases ds with
  |nil=>rfl
  |cons _ _=>cases e
 .cases ds with
  |nil=>cases r;cases e;exact⟨rfl,k z σ ok ⟨rfl,λ_ _=>rfl⟩⟩
  |cons _ _=>cases e
theorem gu{gs:n9}{is ks:List Nat}(h1:FG X e g is)(h2:xG X es gs ks)(hs:(assignEach (e::es) X.env).map (·.2)=assign e X.env::(assignEach es X.env).map (·.2):=by rfl):xG X (e::es) (b_ g gs) (is++ks):=by
 obtain⟨n1,t,p,q⟩:=h1;obtain⟨n2,t',p',l',q'⟩:=h2;refine⟨λj m=>(acW.mp m).elim (n1 j) (n2 j),_,Q9 p p' hs,λds ρ au e=>?_,λH0 S z held ρ σ H vs ds fp Q au ok r e k=>?_⟩
 .obtain⟨d,r,aG,rfl,_,_,h⟩:=LQ e;rw[acS,acS,l' r aG au h]
 .obtain⟨d,dr,aG,rfl,hi,h1,h2⟩:=LQ e;cases r with
  | @cons _ v _ vr f1 f2 r1 r2=>
   have hn:=r1.aH hi;subst hn;exact⟨v,vr,rfl,q H0 S z held ρ σ H H v d .own [] _ aG ok (aL.refl H) r1 .nil h1 λz1 wA cC a1=>q' H0 S z1 held aG wA H vr dr f2 Q au cC r2 h2 λz2 iB fG a2=>k z2 iB fG ⟨a2.1.trans a1.1,λj hj=>(a2.2 j λm=>hj (acQ _ m)).trans (a1.2 j λm=>hj (ac7 _ m))⟩⟩
theorem p7{gs:n9}{is:List Nat}(hc:X.calm=true)(h:xG X es gs is)(hn:(assignEach es X.env).length=es.length:=by rfl)(ig:(assignEach es X.env).findIdx? (·.1)=none:=by rfl):FG X (.Tuple es k pos) (gT gs) is:=by
 obtain⟨n1,t,p,l,q⟩:=h;refine⟨n1,_,Zw hc p hn ig,λH0 S z held ρ σ H H1 v d tag fp Q au ok s r g e k=>?_⟩;cases r with
 | @tup a xs ds fp hq rs=>
  have e:=e;exact⟨a,xs,rfl,hq,by rw[<- rs.length];exact l ds ρ au e,q H0 S z held ρ σ H1 xs ds fp Q au (ok.same s) rs e k⟩
 |_=>cases e
end
structure Hv where
 d:D
 v:V
 fp:List Addr
def nQ(K:PySem.W.Frag)(J:It)(ds:List D)(hv:List Hv):Prop:=∀(H:Hp) (i:Nat),(∀h∈hv,Rep K H h.d h.v h.fp)->
 (∀d,ds[i]? = some d->J.go i H/\∀x H1,J.uu i H x H1->aL H H1/\∃fp,Rep K H1 d x fp/\∀a∈fp,∃h∈hv,a∈h.fp)/\(ds.length<=i->J.stop i H)
noncomputable abbrev IF:=aK->Option (List D×Tag)
def FI(X:Cx)(tg iter:Expr)(f:IF):Prop:=∃wi,PI X tg iter wi/\∀(H0:Hp) (S:List Addr) (z:Addr->Option Nat) (held:List cI) (ρ:aK) (σ:St) (H:Hp) (R:It->Hp->Prop) (ds:List D) (t:Tag),
 Ok X.K H0 S z held ρ σ H->f ρ=some (ds,t)->(∀H1 J hv,aL H H1->(∀h∈hv,Rep X.K H1 h.d h.v h.fp/\∀a∈h.fp,∀j,z a=some j->∃o,t=.sh o/\j∈o)->nQ X.K J ds hv->R J H1)->wi σ H R
noncomputable def bh(f:EF):IF:=λρ=>match f ρ with
 |some (.lst ds,t)=>some (ds,t)
 |some (.iZ ds,t)=>some (ds,t)
 |some (.tup ds,t)=>some (ds,t)
 |_=>none
def R1(K:PySem.W.Frag)(tl:TE):TI:=λσ H R=>tl σ H λx H1=>∃a,x=.ref a/\(((∃xs,bQ K H1 a xs)/\R (zR K a) H1)\/((∃xs,cA K H1 a xs)/\R (BB K a) H1))
section
variable{X:Cx}{tg:Expr}
theorem abd{tl:TE}(hl:PE X l tl):PI X tg l (R1 X.K tl):=by
 intro pins s σ H R I h;refine aQ (hl pins s σ H _ I h) λv s1 ⟨x,H1,I1,r1,q1⟩=>?_
 obtain⟨a,e,q⟩:=q1;subst e;cases r1;rcases q with⟨⟨xs,hq⟩,q⟩|⟨⟨xs,hq⟩,q⟩
 .obtain⟨aq,rv,p,hz⟩:=I1.list hq;refine afe p.isList ?_;refine⟨s1.heap.objs.size,[s1.heap.objs.size],_,_,H1,rfl,I1.kept (λb o e=>aaB _ e),aaz a _,⟨_,abU _ rfl,rfl,rfl⟩,λb hb=>?_,q⟩;obtain rfl:b=s1.heap.objs.size:=by simpa using hb
  exact I1.se (abW _) (I1.aI.fresh (abW _))
 .obtain⟨aq,rv,p,hz⟩:=I1.tuple hq;refine wpAny_pyIter_tuple (show s1.heap.IsTuple a aq.toArray from p) ?_;refine⟨s1.heap.objs.size,[s1.heap.objs.size],_,_,H1,rfl,I1.kept (λb o e=>aaB _ e),Xu a _,⟨_,abU _ rfl,rfl,rfl⟩,λb hb=>?_,q⟩;obtain rfl:b=s1.heap.objs.size:=by simpa using hb
  exact I1.se (abW _) (I1.aI.fresh (abW _))
theorem Rep.e7{K:PySem.W.Frag}{H:Hp}(r:Rep K H (.lst ds) v fp):∃a xs f,v=.ref a/\bQ K H a xs/\aA K H ds xs f/\∀b∈f,b∈fp:=by
 cases r with
 |lst h rs=>exact⟨_,_,_,rfl,bQ.of h,rs,λb m=>aaY _ m⟩
theorem Rep.sr{K:PySem.W.Frag}(r:Rep K H (.iZ ds) v fp):∃a xs,v=.ref a/\bQ K H a xs/\aA K H ds xs fp:=by
 cases r with
 |pM h rs=>exact⟨_,_,rfl,h.sq,rs⟩
theorem Rep.lB{K:PySem.W.Frag}(r:Rep K H (.tup ds) v fp):∃a xs,v=.ref a/\cA K H a xs/\aA K H ds xs fp:=by
 cases r with
 |tup h rs=>exact⟨_,_,rfl,h,rs⟩
theorem abi{K:PySem.W.Frag}:nQ K (zR K a) ds [⟨.lst ds,.ref a,fp⟩]:=by
 intro H i hh;have r:=hh ⟨.lst ds,.ref a,fp⟩ aaF;obtain⟨a',xs,f,e,hq,rs,sub⟩:=r.e7;cases e;refine⟨λd hd=>?_,λhl=>⟨xs,hq,by rw[<- rs.length];exact hl⟩⟩;obtain⟨v,f',hv,rv,s'⟩:=rs.get hd;refine⟨⟨xs,v,hq,hv⟩,λx H1 y=>?_⟩;obtain⟨e1,y⟩:=y;subst e1;have e2:=y xs hq;rw[hv] at e2;cases e2;exact⟨aL.refl _,f',rv,λb m=>⟨_,aaF,sub b (s' b m)⟩⟩
theorem UQ{K:PySem.W.Frag}:nQ K (zR K a) ds [⟨.iZ ds,.ref a,fp⟩]:=by
 intro H i hh;have r:=hh ⟨.iZ ds,.ref a,fp⟩ aaF;obtain⟨a',xs,e,hq,rs⟩:=r.sr;cases e;refine⟨λd hd=>?_,λhl=>⟨xs,hq,by rw[<- rs.length];exact hl⟩⟩;obtain⟨v,f',hv,rv,s'⟩:=rs.get hd;refine⟨⟨xs,v,hq,hv⟩,λx H1 y=>?_⟩;obtain⟨e1,y⟩:=y;subst e1;have e2:=y xs hq;rw[hv] at e2;cases e2;exact⟨aL.refl _,f',rv,λb m=>⟨_,aaF,s' b m⟩⟩
theorem aaP{K:PySem.W.Frag}:nQ K (BB K a) ds [⟨.tup ds,.ref a,fp⟩]:=by
 intro H i hh;have r:=hh ⟨.tup ds,.ref a,fp⟩ aaF;obtain⟨a',xs,e,hq,rs⟩:=r.lB;cases e;refine⟨λd hd=>?_,λhl=>⟨xs,hq,by rw[<- rs.length];exact hl⟩⟩;obtain⟨v,f',hv,rv,s'⟩:=rs.get hd;refine⟨⟨xs,v,hq,hv⟩,λx H1 y=>?_⟩;obtain⟨e1,y⟩:=y;subst e1;have e2:=y xs hq;rw[hv] at e2;cases e2;exact⟨aL.refl _,f',rv,λb m=>⟨_,aaF,s' b m⟩⟩
theorem NS{K:PySem.W.Frag}{lo:Int}:nQ K (qz lo n) ((List.range n).map λi:Nat=>D.int (lo+(i:Int))) []:=by
 intro H i _;refine⟨λd hd=>?_,λhl=>?_⟩
 .rw[acX] at hd
  by_cases hi:i<n
  .rw[List.getElem?_range hi] at hd;cases hd;refine⟨hi,λx H1 y=>?_⟩;obtain⟨e1,e2⟩:=y;subst e1 e2;exact⟨aL.refl _,[],.int _,λb m=>nomatch m⟩
  .rw[aeh (by simpa using hi)] at hd;cases hd
 .rw[List.length_map,adm] at hl;exact hl
theorem cK.over{K:PySem.W.Frag}(ok:Ok K H0 S z held ρ σ H)(g:cK z H t fp):∀a∈fp,∀j,z a=some j->∃o,t=.sh o/\j∈o:=by
 intro a m j q;cases t with
 |sh o=>exact⟨o,rfl,g a m j q⟩
 |own=>obtain⟨⟨o,w⟩,_⟩:=ok.zd a j q;rw[g.2 a m] at w;cases w
 |lk=>obtain⟨⟨o,w⟩,_⟩:=ok.zd a j q;rw[g.2 a m] at w;cases w
theorem fC{l:Expr}{f:EF}(hl:FP X l f):FI X tg l (bh f):=by
 obtain⟨t,p,q⟩:=hl;refine⟨_,abd p,λH0 S z held ρ σ H R ds tg ok e k=>?_⟩;unfold bh at e;cases h:f ρ with
 |none=>rw[h] at e;cases e
 |some w=>
  obtain⟨d,KJ⟩:=w;rw[h] at e;cases d with
  |lst es=>
   cases e;refine q H0 S z held ρ σ H _ _ _ ok h λH1 v fp s1 r1 g1=>?_
   obtain⟨a,xs,f,rfl,hq,rs,sub⟩:=r1.e7;exact⟨a,rfl,.inl ⟨⟨xs,hq⟩,k H1 _ [⟨.lst ds,.ref a,fp⟩] s1 (λh m=>by cases aa8.mp m;exact⟨r1,g1.over ok⟩) abi⟩⟩
  |iZ es=>
   cases e;refine q H0 S z held ρ σ H _ _ _ ok h λH1 v fp s1 r1 g1=>?_
   obtain⟨a,xs,rfl,hq,rs⟩:=r1.sr;exact⟨a,rfl,.inl ⟨⟨xs,hq⟩,k H1 _ [⟨.iZ ds,.ref a,fp⟩] s1 (λh m=>by cases aa8.mp m;exact⟨r1,g1.over ok⟩) UQ⟩⟩
  |tup es=>
   cases e;refine q H0 S z held ρ σ H _ _ _ ok h λH1 v fp s1 r1 g1=>?_
   obtain⟨a,xs,rfl,hq,rs⟩:=r1.lB;exact⟨a,rfl,.inr ⟨⟨xs,hq⟩,k H1 _ [⟨.tup ds,.ref a,fp⟩] s1 (λh m=>by cases aa8.mp m;exact⟨r1,g1.over ok⟩) aaP⟩⟩
  |_=>cases e
noncomputable def small(i:Int):Bool:=decide (-(2 ^ 62)<=i)&&decide (i<2 ^ 62)
noncomputable def iJ(g:EF):IF:=λρ=>match g ρ with
 |some (.int j,_)=>if small j=true then some ((List.range j.toNat).map λi:Nat=>D.int (0+(i:Int)),.own) else none
 |_=>none
noncomputable def rT(f g:EF):IF:=λρ=>match f ρ,g ρ with
 |some (.int i,_),some (.int j,_)=>if(small i&&small j)=true then some ((List.range (j-i).toNat).map λk:Nat=>D.int (i+(k:Int)),.own) else none
 |_,_=>none
theorem qD(h:small i=true):-(2 ^ 62)<=i/\i<2 ^ 62:=by
 obtain⟨a,b⟩:=(acr _ _).mp h;exact⟨ac5 a,ac5 b⟩
theorem rX(hm:X.mg "range"=none)(ha:FP X a g)(hg:Gl X "range":=by rfl)(hs:starEach [a] X.env=[(false,eval a X.env)]:=by rfl):FI X tg (.Call (.Name "range" p) [a] [] pos) (iJ g):=by
 obtain⟨t,pa,q⟩:=ha;refine⟨_,IJ hg hm (c_ pa fM hs) hs,λH0 S z held ρ σ H R ds tg ok e k=>?_⟩;unfold iJ at e;cases h:g ρ with
 |none=>rw[h] at e;cases e
 |some w=>
  obtain⟨d,KJ⟩:=w;rw[h] at e;cases d with
  |int j=>
   dsimp only at e
   by_cases hj:small j=true
   .rw[if_pos hj] at e;cases e;refine q H0 S z held ρ σ H _ _ _ ok h λH1 v fp s1 r1 g1=>?_
    cases r1;exact⟨j,rfl,(qD hj).1,(qD hj).2,k H1 _ [] s1 (λh m=>nomatch m) NS⟩
   .rw[if_neg hj] at e;cases e
  |_=>cases e
theorem aap(hm:X.mg "range"=none)(ha:FP X a f)(hb:FP X b g)(hg:Gl X "range":=by rfl)(hs:starEach [a,b] X.env=[(false,eval a X.env),(false,eval b X.env)]:=by rfl)(cG:starEach [b] X.env=[(false,eval b X.env)]:=by rfl):
  FI X tg (.Call (.Name "range" p) [a,b] [] pos) (rT f g):=by
 obtain⟨t,pa,q⟩:=ha;obtain⟨t',pb,q'⟩:=hb;refine⟨_,U4 hg hm (c_ pa (c_ pb fM cG) (by rw[hs,cG])) hs cG,λH0 S z held ρ σ H R ds tg ok e k=>?_⟩;unfold rT at e;cases h:f ρ with
 |none=>rw[h] at e;cases e
 |some w=>
  obtain⟨d,KJ⟩:=w;cases h2:g ρ with
  |none=>rw[h,h2] at e;cases d<;>cases e
  |some w=>
   obtain⟨d2,tg2⟩:=w;rw[h,h2] at e;cases d with
   |int i=>
    cases d2 with
    |int j=>
     dsimp only at e
     by_cases hj:(small i&&small j)=true
     .rw[if_pos hj] at e;cases e;obtain⟨si,sj⟩:=(acr _ _).mp hj;refine q H0 S z held ρ σ H _ _ _ ok h λH1 v fp s1 r1 g1=>?_
      cases r1;refine q' H0 S z held ρ σ H1 _ _ _ (ok.same s1) h2 λH2 v fp s2 r2 g2=>?_
      cases r2;exact⟨i,j,rfl,⟨(qD si).1,(qD si).2,(qD sj).1,(qD sj).2⟩,k H2 _ [] (s1.trans s2) (λh m=>nomatch m) NS⟩
     .rw[if_neg hj] at e;cases e
    |_=>cases e
   |_=>cases e
end
noncomputable def kF:Tag->List Nat
 |.sh o=>o
 |_=>[]
noncomputable def lT(t:Tag):Tag:=.sh (kF t)
noncomputable def ownAt(ρ:aK)(j:Nat):Bool:=match ρ[j]? with
 |some (some (_,.own))=>true
 |_=>false
noncomputable def lQ(o:List Nat)(ρ:aK):List Nat:=o.filter (ownAt ρ)
noncomputable def Iw:Tag->Tag
 |.own=>.lk
 |t=>t
noncomputable def Nf:Tag->Tag
 |.lk=>.own
 |t=>t
noncomputable def yL(f:Tag->Tag):Slot->Slot
 |some (d,t)=>some (d,f t)
 |none=>none
noncomputable def m5:List Nat->aK->aK
 |[],ρ=>ρ
 |j::r,ρ=>m5 r (ρ.modify j (yL Iw))
noncomputable def qC:List Nat->aK->aK
 |[],ρ=>ρ
 |j::r,ρ=>qC r (ρ.modify j (yL Nf))
noncomputable def cX(g:GF)(t:Tag)(f:SF):List D->SF
 |[],ρ=>some (.nx ρ)
 |d::ds,ρ=>match g d t ρ with
  |none=>none
  |some aG=>match f aG with
   |some (.nx bS)=>cX g t f ds bS
   |some (.ct bS)=>cX g t f ds bS
   |some (.bk bS)=>some (.nx bS)
   |some (.rt r)=>some (.rt r)
   |some (.er raw cn bS)=>some (.er raw cn bS)
   |none=>none
noncomputable def cP(it:IF)(g:GF)(f:SF):SF:=λρ=>match it ρ with
 |none=>none
 |some (ds,t)=>match cX g (lT t) f ds (m5 (lQ (kF t) ρ) ρ) with
  |some (.nx au)=>some (.nx (qC (lQ (kF t) ρ) au))
  |some (.rt d)=>some (.rt d)
  |some (.er raw cn au)=>some (.er raw cn (qC (lQ (kF t) ρ) au))
  |_=>none
theorem x6:∀{ks:List Nat}{ρ:aK}{i:Nat}{d:D}{t:Tag},(m5 ks ρ)[i]? = some (some (d,t))->∃t',ρ[i]? = some (some (d,t'))/\(t=t'\/(t'=.own/\t=.lk))/\(i∈ks->t≠.own)
 |[],ρ,i,d,t,h=>⟨t,h,.inl rfl,λm=>nomatch m⟩
 |j::r,ρ,i,d,t,h=>by
  obtain⟨t1,h1,h2,h3⟩:=x6 (ks:=r) h;rw[List.getElem?_modify] at h1;cases e:ρ[i]? with
  |none=>rw[e] at h1;cases h1
  |some s=>
   rw[e] at h1;have ia:(if j=i then yL Iw s else s)=some (d,t1):=aco h1
   by_cases hj:j=i
   .rw[if_pos hj] at ia;cases s with
    |none=>cases ia
    |some p=>
     obtain⟨d0,t0⟩:=p;cases ia;refine⟨t0,rfl,?_,λ_=>?_⟩
     .rcases h2 with h2|⟨h2,jj⟩
      .cases t0<;>first|exact .inl h2|exact .inr ⟨rfl,h2⟩
      .cases t0<;>cases h2
     .rcases h2 with h2|⟨h2,jj⟩
      .rw[h2];cases t0<;>(intro z;cases z)
      .rw[jj];intro z;cases z
   .rw[if_neg hj] at ia;subst ia;refine⟨t1,rfl,h2,λm=>?_⟩;rcases abh.mp m with z|z
    .exact absurd z.symm hj
    .exact h3 z
theorem K4:∀{ks:List Nat}{ρ:aK},(m5 ks ρ).length=ρ.length
 |[],_=>rfl
 |_::r,ρ=>(K4 (ks:=r)).trans (List.length_modify ..)
theorem Nr:∀{ks:List Nat}{ρ:aK},(qC ks ρ).length=ρ.length
 |[],_=>rfl
 |_::r,ρ=>(Nr (ks:=r)).trans (List.length_modify ..)
theorem HE:∀{ks:List Nat}{ρ:aK}{i:Nat}{d:D}{t:Tag},(qC ks ρ)[i]? = some (some (d,t))->∃t',ρ[i]? = some (some (d,t'))/\(t=t'\/(t'=.lk/\t=.own/\i∈ks))
 |[],ρ,i,d,t,h=>⟨t,h,.inl rfl⟩
 |j::r,ρ,i,d,t,h=>by
  obtain⟨t1,h1,h2⟩:=HE (ks:=r) h;rw[List.getElem?_modify] at h1;cases e:ρ[i]? with
  |none=>rw[e] at h1;cases h1
  |some s=>
   rw[e] at h1;have ia:(if j=i then yL Nf s else s)=some (d,t1):=aco h1
   by_cases hj:j=i
   .rw[if_pos hj] at ia;cases s with
    |none=>cases ia
    |some p=>
     obtain⟨d0,t0⟩:=p;cases ia;refine⟨t0,rfl,?_⟩;rcases h2 with h2|⟨h2,jj,h3⟩
     .cases t0<;>first|exact .inl h2|exact .inr ⟨rfl,h2,by rw[hj];exact aaF⟩
     .cases t0<;>cases h2
   .rw[if_neg hj] at ia;subst ia;refine⟨t1,rfl,?_⟩;rcases h2 with h2|⟨h2,jj,h3⟩
    .exact .inl h2
    .exact .inr ⟨h2,jj,aaY _ h3⟩
noncomputable def nK(z:Addr->Option Nat)(hv:List Hv):List cI:=hv.map λh=>⟨h.d,h.v,h.fp,z⟩
noncomputable def n8(z:Addr->Option Nat)(held:List cI):List cI:=held.map λh=>{ h with z0:=z }
section
variable{K:PySem.W.Frag}{H0:Hp}{S:List Addr}{z:Addr->Option Nat}{held:List cI}{ρ:aK}{σ:St}{H:Hp}
theorem Ok.begin{hv:List Hv}(ok:Ok K H0 S z held ρ σ H)(hh:∀h∈hv,Rep K H h.d h.v h.fp/\∀a∈h.fp,∀j,z a=some j->∃o,t=.sh o/\j∈o):
  Ok K H0 S z (nK z hv++n8 z held) (m5 (lQ (kF t) ρ) ρ) σ H:=by
 refine⟨λi d tg e=>?_,λp m=>?_,ok.zd,ok.en,by rw[K4];exact ok.ln⟩
 .obtain⟨t',e',h,_⟩:=x6 e;obtain⟨v,fp,a,b,c⟩:=ok.sl i d t' e';refine⟨v,fp,a,b,?_⟩;rcases h with h|⟨h,h'⟩
  .subst h;exact c
  .subst h h';exact c
 .have UN:∀j,Bl ρ j->Bl (m5 (lQ (kF t) ρ) ρ) j:=λj n d e=>by
   obtain⟨t',e',h,_⟩:=x6 e;rcases h with h|⟨h,h'⟩
   .subst h;exact n d e'
   .cases h'
  rcases acW.mp m with m|m
  .obtain⟨h,hm,rfl⟩:=adi.mp m;refine⟨(hh h hm).1,λa ha j q=>⟨q,λd e=>?_⟩⟩;obtain⟨o,rfl,hj⟩:=(hh h hm).2 a ha j q;obtain⟨t',e',h',n⟩:=x6 e;rcases h' with h'|⟨h',nI⟩
   .subst h';exact n (ad0.mpr ⟨hj,by unfold ownAt;rw[e']⟩) rfl
   .cases nI
  .obtain⟨h,hm,rfl⟩:=adi.mp m;obtain⟨r,hz⟩:=ok.hl h hm;exact⟨r,λa ha j q=>⟨q,UN j (hz a ha j q).2⟩⟩
theorem Ok.fin{hv:List Hv}{t:Tag}{z':Addr->Option Nat}{au:aK}{aD:St}{H':Hp}(ok:Ok K H0 S z held ρ σ H)(bq:Ok K H0 S z' (nK z hv++n8 z held) au aD H'):Ok K H0 S z' held (qC (lQ (kF t) ρ) au) aD H':=by
 refine⟨λi d tg e=>?_,λp m=>?_,bq.zd,bq.en,by rw[Nr];exact bq.ln⟩
 .obtain⟨t',e',h⟩:=HE e;obtain⟨v,fp,a,b,c⟩:=bq.sl i d t' e';refine⟨v,fp,a,b,?_⟩;rcases h with h|⟨h,h',_⟩
  .subst h;exact c
  .subst h h';exact c
 .obtain⟨r,hz⟩:=bq.hl { p with z0:=z } (acQ _ (adi.mpr ⟨p,m,rfl⟩));refine⟨r,λa ha j q=>?_⟩;obtain⟨h1,h2⟩:=hz a ha j q;have h1:=h1;obtain⟨h3,h4⟩:=(ok.hl p m).2 a ha j h1;refine⟨h3,λd e=>?_⟩;obtain⟨t',e',h⟩:=HE e;rcases h with h|⟨h,_,hk⟩
  .subst h;exact h2 d e'
  .have ho:=(ad0.mp hk).2;unfold ownAt at ho;cases e0:ρ[j]? with
   |none=>rw[e0] at ho;cases ho
   |some s=>
    rw[e0] at ho;cases s with
    |none=>cases ho
    |some p=>
     obtain⟨d0,t0⟩:=p;cases t0<;>first|exact h4 d0 e0|cases ho
end
section
variable{X:Cx}{pos:Pos}
theorem jY{tg iter:Expr}{body:List Stmt}{it:IF}{g:GF}{f:SF}{is:List Nat}(hc:X.calm=true)(hi:FI X tg iter it)(hg:FG X tg g is)(hb:FS X body f)(hp:PassesOwn (model X.prog X.w) X.A X.env X.xe:=by exact PassesOwn.never)
  (hs:∀x,foldedSetIterable iter X.env x=pure x:=by intro _;rfl):fJ X (.For tg iter body [] pos) (cP it g f):=by
 obtain⟨wi,pi,si⟩:=hi;obtain⟨n1,Zc,pg,sg⟩:=hg;obtain⟨tb,pb,sb⟩:=hb;refine⟨_,M6 hp hc pi pg pb hs,λH0 S z held ρ σ H E o ok e k=>?_⟩;unfold cP at e;cases h:it ρ with
 |none=>rw[h] at e;cases e
 |some w=>
  obtain⟨ds,t⟩:=w;rw[h] at e;dsimp only at e;refine si H0 S z held ρ σ H _ ds t ok h λH1 J hv s1 hh rO=>?_
  cases ho:cX g (lT t) f ds (m5 (lQ (kF t) ρ) ρ) with
  |none=>rw[ho] at e;cases e
  |some out=>
   rw[ho] at e;have cC:=ok.same s1;have fG:=cC.begin hh;have fin:∀{z':Addr->Option Nat}{au:aK}{aD:St}{H':Hp},Ok X.K H0 S z' (nK z hv++n8 z held) au aD H'->out=.nx au->Kp X σ aD->E.nx aD H':=λ{z' au aD H'} bq eo kp=>by
    subst eo;cases e;exact k z' aD H' (cC.fin bq) kp
   refine⟨λi m aD H'=>m=ds.length-i/\∃z' au,Ok X.K H0 S z' (nK z hv++n8 z held) au aD H'/\cX g (lT t) f (ds.drop i) au=some out/\Kp X σ aD,⟨ds.length,rfl,z,_,fG,ho,.refl _ _⟩,?_⟩
   rintro i m aD H' ⟨rfl,z',au,bq,e',kp⟩
   have hH:∀h∈hv,Rep X.K H' h.d h.v h.fp:=λh m=>(bq.hl _ (ac7 _ (adi.mpr ⟨h,m,rfl⟩))).1
   obtain⟨go,stop⟩:=rO H' i hH
   by_cases hl:ds.length<=i
   .refine .inl ⟨stop hl,?_⟩;rw[ae3 hl] at e';cases e';exact fin bq rfl kp
   .have cT:i<ds.length:=Nat.lt_of_not_le hl;rw[adU cT] at e';obtain⟨g1,g2⟩:=go ds[i] (abL cT);refine .inr ⟨g1,λiB H2=>∃z' au,Ok X.K H0 S z' (nK z hv++n8 z held) au iB H2/\cX g (lT t) f (ds.drop (i+1)) au=some out/\Kp X σ iB,λiB H2 hn=>⟨ds.length-(i+1),by omega,rfl,hn⟩,λx H2 y=>?_⟩;obtain⟨s2,fp,r2,sub⟩:=g2 x H2 y;unfold cX at e';cases kE:g ds[i] (lT t) au with
    |none=>rw[kE] at e';cases e'
    |some aG=>
     rw[kE] at e';dsimp only at e';refine sg H0 S z' _ au aD H' H2 x ds[i] (lT t) fp _ aG bq s2 r2 (λa ha j q=>?_) kE λz2 iB lD a3=>?_
     .obtain⟨h,hm,KP⟩:=sub a ha;obtain⟨_,hz⟩:=bq.hl _ (ac7 _ (adi.mpr ⟨h,hm,rfl⟩));obtain⟨q0,_⟩:=hz a KP j q;obtain⟨o',rfl,hj⟩:=(hh h hm).2 a KP j q0;exact hj
     .cases hf:f aG with
      |none=>rw[hf] at e';cases e'
      |some o1=>
       rw[hf] at e';refine sb H0 S z2 _ aG iB H2 _ o1 lD hf ?_;cases o1 with
       |nx bS=>exact λz3 d8 H3 iY b=>⟨z3,bS,iY,e',(kp.trans (.off n1 a3.2)).trans b⟩
       |ct bS=>exact λz3 d8 H3 iY b=>⟨z3,bS,iY,e',(kp.trans (.off n1 a3.2)).trans b⟩
       |bk bS=>
        cases e';exact λz3 d8 H3 iY b=>fin iY rfl ((kp.trans (.off n1 a3.2)).trans b)
       |rt d=>
        cases e';cases e;exact k
       |er raw cn bS=>
        cases e';cases e;obtain⟨ES,th,q⟩:=k;exact⟨ES,th,λz3 d8 H3 C iY b hC=>q z3 d8 H3 C (cC.fin iY) ((kp.trans (.off n1 a3.2)).trans b) hC⟩
end
def Gx(K:PySem.W.Frag)(f:EF):TE:=λσ H Q=>∃H0 S z held ρ d tg,Ok K H0 S z held ρ σ H/\f ρ=some (d,tg)/\∀H' v fp,aL H H'->Rep K H' d v fp->cK z H tg fp->Q v H'
def uR(K:PySem.W.Frag)(f:TF):TT:=λσ H Q=>∃H0 S z held ρ b,Ok K H0 S z held ρ σ H/\f ρ=some b/\∀H',aL H H'->Q b H'
def Bm(K:PySem.W.Frag)(g:GF)(is:List Nat):TG:=λv σ H1 Q=>∃H0 S z held ρ H d tag fp au,Ok K H0 S z held ρ σ H/\aL H H1/\Rep K H1 d v fp/\cK z H tag fp/\g d tag ρ=some au/\
 ∀z' aD,Ok K H0 S z' held au aD H1->(aD.length=σ.length/\∀j,j∉is->aD[j]? = σ[j]?)->Q aD H1
section
variable{X:Cx}
theorem FP.pe(h:FP X e f):PE X e (Gx X.K f):=by
 obtain⟨t,p,q⟩:=h;intro pins s σ H Q I ⟨H0,S,z,held,ρ,d,tg,ok,e,k⟩;exact p pins s σ H Q I (q H0 S z held ρ σ H Q d tg ok e k)
theorem FT.pt(h:FT X e f):PT X e (uR X.K f):=by
 obtain⟨t,p,q⟩:=h;intro pins s σ H Q I ⟨H0,S,z,held,ρ,b,ok,e,k⟩;exact p pins s σ H Q I (q H0 S z held ρ σ H Q b ok e k)
theorem FG.pg{is:List Nat}(h:FG X e g is):PG X e (Bm X.K g is):=by
 obtain⟨_,t,p,q⟩:=h;intro pins s σ H1 v u Q I r ⟨H0,S,z,held,ρ,H,d,tag,fp,au,ok,sm,rp,tk,e,k⟩;exact p pins s σ H1 v u Q I r (q H0 S z held ρ σ H H1 v d tag fp Q au ok sm rp tk e k)
end
def za(X:Cx)(ifs:List Expr)(f:TF):Prop:=wH X ifs (uR X.K f)
noncomputable def dG:TF:=λ_=>some true
theorem kJ:za X [] dG:=by
 intro pins s σ H Q I ⟨H0,S,z,held,ρ,b,ok,e,k⟩;cases e;exact wpAny_tests_nil ⟨H,I,k H (aL.refl H)⟩
theorem nq(h:FT X c f):za X [c] f:=S9 h.pt
noncomputable def jk(js:List (Option Nat))(ρ:aK):aK:=js.map λj=>match j with
 |none=>none
 |some j=>match ρ[j]? with
  |some (some (d,_))=>some (d,.sh [])
  |_=>none
noncomputable def iK(g:GF)(tt:TF)(te:EF)(ρ:aK)(d:D):Option (Option D):=match g d (.sh []) ρ with
 |none=>none
 |some aG=>match tt aG with
  |none=>none
  |some false=>some none
  |some true=>match te aG with
   |none=>none
   |some (e,t)=>if kh t=true then some (some e) else if aH e=true then some (some e) else none
noncomputable def m7(h:D->Option (Option D)):List D->Option (List D)
 |[]=>some []
 |d::ds=>match h d with
  |none=>none
  |some none=>m7 h ds
  |some (some e)=>match m7 h ds with
   |none=>none
   |some es=>some (e::es)
noncomputable def ck(js:List (Option Nat))(it:IF)(g:GF)(tt:TF)(te:EF):EF:=λρ=>match it ρ with
 |none=>none
 |some (ds,_)=>if ds.length<sizeLine then(m7 (iK g tt te (jk js ρ)) ds).map λes=>(.lst es,.own) else none
theorem Li{h:D->Option (Option D)}{k:D->Option D}:∀{ds:List D},(∀d∈ds,h d=some (k d))->m7 h ds=some (ds.filterMap k)
 |[],_=>rfl
 |d::ds,e=>by
  unfold m7;rw[e d aaF,Li λx m=>e x (aaY _ m),ad1];cases k d<;>rfl
section
variable{X:Cx}{pos:Pos}
theorem LN{wi:TI}{is:List Nat}(vD:∀i∈is,js[i]? = some none)
  (si:∀(H0:Hp) (S:List Addr) (z:Addr->Option Nat) (held:List cI) (ρ:aK) (σ:St) (H:Hp) (R:It->Hp->Prop) (ds:List D) (t:Tag),
   Ok X.K H0 S z held ρ σ H->it ρ=some (ds,t)->(∀H1 J hv,aL H H1->(∀h∈hv,Rep X.K H1 h.d h.v h.fp/\∀a∈h.fp,∀j,z a=some j->∃o,t=.sh o/\j∈o)->nQ X.K J ds hv->R J H1)->wi σ H R)
  (H0:Hp) (S:List Addr) (z:Addr->Option Nat) (held:List cI) (ρ:aK) (σ:St) (H:Hp) (Q:VK) (d:D) (tg:Tag) (ok:Ok X.K H0 S z held ρ σ H) (e:ck js it g tt te ρ=some (d,tg))
  (k:∀H' v fp,aL H H'->Rep X.K H' d v fp->cK z H tg fp->Q v H'):GY wi js (Bm X.K g is) (uR X.K tt) (Gx X.K te) σ H Q:=by
 unfold ck at e;cases h:it ρ with
 |none=>rw[h] at e;cases e
 |some w=>
  obtain⟨ds,t⟩:=w;rw[h] at e;dsimp only at e
  by_cases hz:ds.length<sizeLine
  .rw[if_pos hz] at e;cases DF:m7 (iK g tt te (jk js ρ)) ds with
   |none=>rw[DF] at e;cases e
   |some es=>
    rw[DF] at e;cases e;refine si H0 S z held ρ σ H _ ds t ok h λH1 J hv s1 hh rO Dd qZ=>?_
    have cC:=ok.same s1;have inner:∀(aD:St) (H2:Hp),aL H1 H2->(∃o,H2 Dd=some o)->aD.length=js.length->(∀j,j∉is->aD[j]? = (k6 js σ)[j]?)->Ok X.K H1 [] (λa=>if a=Dd then some js.length else none) (nK (λ_=>none) hv) (jk js ρ) aD H2:=by
     intro aD H2 s2 Du hlen wW;have nD:∀{a:Addr}{o:HO},H1 a=some o->a≠Dd:=λe=>dz e qZ
     refine⟨λi d t e=>?_,λp m=>?_,λa j e=>?_,λa o e _=>s2 _ _ e,by unfold jk;rw[List.length_map,hlen]⟩
     .unfold jk at e;rw[acX] at e;cases hj:js[i]? with
      |none=>rw[hj] at e;cases e
      |some o=>
       rw[hj] at e;cases o with
       |none=>cases e
       |some j=>
        have e:(match ρ[j]? with|some (some (d,_))=>some (d,Tag.sh [])|_=>none)=some (d,t):=aco e;cases hr:ρ[j]? with
        |none=>rw[hr] at e;cases e
        |some s=>
         rw[hr] at e;cases s with
         |none=>cases e
         |some p=>
          obtain⟨d0,t0⟩:=p;have e1:=Prod.mk.inj (aco e);obtain⟨rfl,rfl⟩:=e1;obtain⟨v,fp,hs,r,_⟩:=cC.sl j d0 t0 hr;have hi:i∉is:=λm=>by rw[vD i m] at hj;cases hj
          refine⟨v,fp,?_,r.same s2,λa m q e=>?_⟩
          .rw[wW i hi];unfold k6;rw[acX,hj];show some ((σ[j]?).join)=some (some v);rw[hs];rfl
          .obtain⟨o,w,_⟩:=r.cF a m;dsimp only at e;rw[if_neg (nD w)] at e;cases e
     .obtain⟨h,hm,rfl⟩:=adi.mp m;refine⟨(hh h hm).1.same s2,λa ha q e=>?_⟩;obtain⟨o,w,_⟩:=(hh h hm).1.cF a ha;rw[if_neg (nD w)] at e;cases e
     .by_cases w:a=Dd
      .rw[w];exact⟨Du,.inl qZ⟩
      .rw[if_neg w] at e;cases e
    refine⟨λi m aD H'=>m=ds.length - i/\aL H1 H'/\aD.length=js.length/\(∀j,j∉is->aD[j]? = (k6 js σ)[j]?)/\∃done rest vs fp,H' Dd=some (.lst vs)/\aA X.K H' done vs fp/\fp.Nodup/\(∀a∈fp,H1 a=none/\a≠Dd)/\
     m7 (iK g tt te (jk js ρ)) (ds.drop i)=some rest/\done++rest=es/\done.length<=i,?_,?_⟩
    .refine⟨ds.length,rfl,λb o e=>by rw[aY (dz e qZ)];exact e,by unfold k6;rw[List.length_map],λ_ _=>rfl,[],es,[],[],cB,.nil,ac1,(λa m=>nomatch m),DF,rfl,abW _⟩
    .rintro i m aD H' ⟨rfl,sH,hlen,wW,done,rest,vs,fp,hD,rs,nd,fr,hr,rfl,hle⟩
     obtain⟨go,stop⟩:=rO H' i λh m=>(hh h m).1.same sH
     by_cases hl:ds.length<=i
     .refine .inl ⟨stop hl,?_⟩;rw[ae3 hl] at hr;cases hr;rw[ady] at k;refine k H' (.ref Dd) (Dd::fp) (s1.trans sH) (.lst hD rs) ⟨acV.mpr ⟨λm=>(fr Dd m).2 rfl,nd⟩,λa m=>?_⟩;rcases abh.mp m with e|m
      .rw[e];exact s1.free qZ
      .exact s1.free (fr a m).1
     .have cT:i<ds.length:=Nat.lt_of_not_le hl;rw[adU cT] at hr;obtain⟨g1,g2⟩:=go ds[i] (abL cT);refine .inr ⟨g1,λx H2 y=>?_⟩;obtain⟨s2,mL,r2,sub⟩:=g2 x H2 y;have fG:=inner aD H' sH ⟨_,hD⟩ hlen wW;unfold m7 at hr;cases hE:iK g tt te (jk js ρ) ds[i] with
      |none=>rw[hE] at hr;cases hr
      |some oe=>
       rw[hE] at hr;unfold iK at hE;cases kE:g ds[i] (.sh []) (jk js ρ) with
       |none=>rw[kE] at hE;cases hE
       |some aG=>
        rw[kE] at hE;dsimp only at hE;have Ru:cK (λa=>if a=Dd then some js.length else none) H' (.sh []) mL:=λa m j e=>by
         obtain⟨h,hm,ha⟩:=sub a m;obtain⟨o,w,_⟩:=(hh h hm).1.cF a ha;dsimp only at e;rw[if_neg (dz w qZ)] at e;cases e
        refine⟨H1,[],_,_,jk js ρ,H',ds[i],.sh [],mL,aG,fG,s2,r2,Ru,kE,λz3 d8 lD MR=>?_⟩;have NF:d8.length=js.length:=MR.1.trans hlen;have LO:∀j,j∉is->d8[j]? = (k6 js σ)[j]? :=λj hj=>(MR.2 j hj).trans (wW j hj)
        cases ht:tt aG with
        |none=>rw[ht] at hE;cases hE
        |some b=>
         rw[ht] at hE;refine⟨H1,[],z3,_,aG,b,lD,ht,λH4 s4=>?_⟩;have dw:aL H1 H4:=(sH.trans s2).trans s4;have uo:aL H' H4:=s2.trans s4;cases b with
         |false=>
          cases hE;refine UD ?_;exact⟨ds.length-(i+1),by omega,rfl,dw,NF,LO,done,rest,vs,fp,uo _ _ hD,rs.same uo,nd,fr,hr,rfl,Nat.le_succ_of_le hle⟩
         |true=>
          refine aaO ?_;dsimp only at hE;cases BJ:te aG with
          |none=>rw[BJ] at hE;cases hE
          |some w=>
           obtain⟨y,ty⟩:=w;rw[BJ] at hE;dsimp only at hE;refine⟨H1,[],z3,_,aG,y,ty,lD.same s4,BJ,λH5 yv fy s5 ry gy=>?_⟩;have Ry:oe=some y/\fy.Nodup/\∀a∈fy,H4 a=none:=by
            by_cases ho:kh ty=true
            .rw[if_pos ho] at hE;cases hE;exact⟨rfl,by cases ty<;>first|exact gy|cases ho⟩
            .rw[if_neg ho] at hE
             by_cases hi:aH y=true
             .rw[if_pos hi] at hE;cases hE;have hn:=ry.aH hi;subst hn;exact⟨rfl,ac1,λa m=>nomatch m⟩
             .rw[if_neg hi] at hE;cases hE
           obtain⟨rfl,Tp,Bw⟩:=Ry;dsimp only at hr;cases BU:m7 (iK g tt te (jk js ρ)) (ds.drop (i+1)) with
           |none=>rw[BU] at hr;cases hr
           |some r'=>
            rw[BU] at hr;cases hr;have Ja:=uo.trans s5;have L0:H5 Dd=some (.lst vs):=Ja _ _ hD;have lv:vs.length<sizeLine:=by rw[<- rs.length];omega
            have im:bW H5 (upd H5 Dd (.lst (vs++[yv]))):=bW.upd L0 rfl;have n1:∀a∈fp++fy,a≠Dd:=λa m=>by
             rcases acW.mp m with m|m
             .exact(fr a m).2
             .intro e;have:=Bw a m;rw[e,uo _ _ hD] at this;cases this
            have XD:aA X.K H5 (done++[y]) (vs++[yv]) (fp++fy):=by
             have q:=aA.append (rs.same Ja) (aA.cons ry .nil);rw[ady] at q;exact q
            refine⟨vs,L0,lv,ds.length-(i+1),by omega,rfl,λb o e=>?_,NF,LO,done++[y],r',vs++[yv],fp++fy,cB,XD.frame (λa m=>aY (n1 a m)) im,?_,λa m=>?_,BU,?_,?_⟩
            .rw[aY (dz e qZ)];exact s5 _ _ (dw _ _ e)
            .refine adv.mpr ⟨nd,Tp,λa m b m' e=>?_⟩;subst e;obtain⟨o,w,_⟩:=(rs.same uo).cF a m;rw[Bw a m'] at w;cases w
            .refine⟨?_,n1 a m⟩;rcases acW.mp m with m|m
             .exact(fr a m).1
             .exact dw.free (Bw a m)
            .rw[adJ];rfl
            .rw[acZ,List.length_singleton];omega
  .rw[if_neg hz] at e;cases e
theorem iV{is:List Nat}(S:o_ X M js sc)(hc:X.calm=true)(hi:FI X tg iter it)(vD:∀i∈is,js[i]? = some none)
  (hb:∀s3 H3 fp,FG (eX X M sc s3 H3 fp) tg g is/\za (eX X M sc s3 H3 fp) ifs tt/\FP (eX X M sc s3 H3 fp) elt te) (hs:∀x,foldedSetIterable iter X.env x=pure x:=by intro _;rfl) :
  FP X (.ListComp elt [⟨tg,iter,ifs,0⟩] sc pos) (ck js it g tt te):=by
 obtain⟨wi,pi,si⟩:=hi;exact⟨_,aah (tt:=uR X.K tt) S hc pi (λs3 H3 fp=>⟨(hb s3 H3 fp).1.pg,(hb s3 H3 fp).2.1,(hb s3 H3 fp).2.2.pe⟩) hs,λH0 S z held ρ σ H Q d tg ok e k=>LN vD si H0 S z held ρ σ H Q d tg ok e k⟩
theorem uA(i:Nat){y:Str}{tg iter elt:Expr}{ifs:List Expr}{sc:Scope}{py zY:Pos}{is:List Nat}(hN:X.N.Nodup)(S:o_ X M js sc)(hc:X.calm=true)(hi:FI X tg iter it)
  (vD:∀i∈is,js[i]? = some none) (hb:∀s3 H3 fp,FG (eX X M sc s3 H3 fp) tg g is/\za (eX X M sc s3 H3 fp) ifs tt/\FP (eX X M sc s3 H3 fp) elt te) (hy:X.N[i]? = some y:=by rfl) (hl:X.env.scope.names.lookup y=some .local:=by rfl)
  (iE:swapsWith (.ListComp elt [⟨tg,iter,ifs,0⟩] sc pos) (some (.Name y py)) zY.line X.env=pure true:=by rfl) (hs:∀x,foldedSetIterable iter X.env x=pure x:=by intro _;rfl) (mK:mG X y=false:=by rfl) :
  fJ X (.Assign [.Name y py] (.ListComp elt [⟨tg,iter,ifs,0⟩] sc pos) zY) (aM i (ck js it g tt te)):=by
 obtain⟨wi,pi,si⟩:=hi;refine⟨_,Uo (g:=Bm X.K g is) (tt:=uR X.K tt) (te:=Gx X.K te) hN hy hl S hc pi (λs3 H3 fp=>⟨(hb s3 H3 fp).1.pg,(hb s3 H3 fp).2.1,(hb s3 H3 fp).2.2.pe⟩) iE hs,λH0 S z held ρ σ H E o ok e k=>?_⟩;unfold aM at e;cases h:ck js it g tt te ρ with
 |none=>rw[h] at e;cases e
 |some w=>
  obtain⟨d,tg⟩:=w;rw[h] at e;cases e;refine LN vD si H0 S z held ρ σ H _ d tg ok h λH1 v fp s1 r1 g1=>?_
  exact ok.stored s1 r1 g1 λz' bq=>k z' _ H1 bq (.set hy mK)
end
noncomputable def qx(n:Nat)(ds:List D):aK:=ds.map (λd=>some (d,.sh []))++List.replicate (n-ds.length) none
noncomputable def b6(n N:Nat)(b:SF):List D->Option D:=λds=>if ds.length=n then(match b (qx N ds) with
 |some (.rt d)=>some d
 |some (.nx _)=>some .aE
 |_=>none) else none
section
variable{P:Program}{w:World}{K:PySem.W.Frag}{mg:Str->Option Value}{base:Heap}
theorem d7{cm:Bool}{x qual:Str}{st:Stmt}{f:Addr}{fd:FuncData}{N ps:List Str}{k:Nat}{b:SF}(F:bI K x qual st f fd)(S:cz N ps (aV st))
  (hb:∀(aT:Value) (A:Around) (outer:List Env) (s:Shared) (H:Hp) (E:XK),cN k (A.deeper (envOfC qual (aV st) s.heap.objs.size f aT)) cm->FS (kD aJ P w K mg base N qual (aV st) f aT A outer s H E cm).gq (kL st) b) :
  a_ P w K mg base aJ (k+1) f fd ps (aO K (b6 ps.length N.length b)) cm:=by
 have zK:∀{ds:List D}{d:D},b6 ps.length N.length b ds=some d->ds.length=ps.length:=λ{ds d} e=>by
  unfold b6 at e
  by_cases h:ds.length=ps.length
  .exact h
  .rw[if_neg h] at e;cases e
 refine F.ok S (λvs H Q E ⟨ds,fp,d,rs,e,_⟩=>?_) (λaT A outer s H vs Q E hr ⟨ds,fp,d,rs,e,q⟩=>?_)
 .rw[<- rs.length];exact zK e
 .obtain⟨t,p,sd⟩:=hb aT A outer s H E hr;refine⟨t,p,?_⟩;have hl:=zK e;have U_:=rs.length;have ok:Ok K H [] (λ_=>none) [] (qx N.length ds) (start N vs) H:=by
   refine⟨λi d' t' e'=>?_,(λp m=>by cases m),(λa j e=>by cases e),(λa o e _=>e),?_⟩
   .unfold qx at e'
    by_cases hi:i<ds.length
    .rw[adC (by rw[List.length_map];exact hi),acX,abL hi] at e';cases e';obtain⟨v,f',hv,rv,_⟩:=rs.get (abL hi);refine⟨v,f',?_,rv,λa _ j e=>by cases e⟩;unfold start;rw[adC (by rw[List.length_map];omega),acX,hv];rfl
    .rw[ad7 (by rw[List.length_map];omega),ae0] at e'
     split at e'<;>cases e'
   .unfold qx start;rw[acZ,acZ,List.length_map,List.length_map,aef,aef,U_]
  unfold b6 at e;rw[if_pos hl] at e;cases ho:b (qx N.length ds) with
  |none=>rw[ho] at e;cases e
  |some o=>
   rw[ho] at e;refine sd H [] (λ_=>none) [] (qx N.length ds) (start N vs) H _ o ok ho ?_;cases o with
   |rt d'=>
    cases e;exact λH' v eF en r nd fr=>q H' v eF (λa o e=>en a o e (λm=>nomatch m)) r nd λa m=>(fr a m).resolve_right λm=>nomatch m
   |nx au=>
    cases e;exact λz' aD H' bq _=>q H' .aE [] (λa o e=>bq.en a o e (λm=>nomatch m)) .aE ac1 λa m=>nomatch m
   |bk _=>cases e
   |ct _=>cases e
   |er _ _ _=>cases e
end
noncomputable def vB(f:Int->Int->Int):D->D->Option D
 |.int i,.int j=>some (.int (f i j))
 |_,_=>none
noncomputable def wo(C:Int->Int->Bool)(f:Int->Int->Int):D->D->Option D
 |.int i,.int j=>if C i j=true then some (.int (f i j)) else none
 |_,_=>none
noncomputable def rM(f:Int->Int->Bool):D->D->Option D
 |.int i,.int j=>some (.bl (f i j))
 |_,_=>none
noncomputable def nM(i j:Int):Bool:=(decide (-(2 ^ 64)<i)&&decide (i<2 ^ 64))||(decide (-(2 ^ 64)<j)&&decide (j<2 ^ 64))
noncomputable def Cz(_ j:Int):Bool:=decide (0<j)
noncomputable def aX:=vB λi j=>i+j
noncomputable def fQ:=vB λi j=>i-j
noncomputable def jo:=wo nM λi j=>i*j
noncomputable def oMod:=wo Cz λi j=>i % j
noncomputable def oLt:=rM λi j=>decide (i<j)
noncomputable def oLe:=rM λi j=>decide (i<=j)
noncomputable def j0:=rM λi j=>decide (j<i)
noncomputable def yh:=rM λi j=>decide (j<=i)
noncomputable def oEq:D->D->Option D
 |.int i,.int j=>some (.bl (i==j))
 |.bl i,.bl j=>some (.bl (i==j))
 |.str i,.str j=>some (.bl (i==j))
 |.aE,.aE=>some (.bl true)
 |_,_=>none
noncomputable def gD:D->D->Option D
 |.int i,.int j=>some (.bl (!(i==j)))
 |.bl i,.bl j=>some (.bl (!(i==j)))
 |.str i,.str j=>some (.bl (!(i==j)))
 |.aE,.aE=>some (.bl false)
 |_,_=>none
noncomputable def oE:D->Bool
 |.aE=>true
 |_=>false
noncomputable def iW:D->D->Option D
 |d,.aE=>some (.bl (oE d))
 |_,_=>none
noncomputable def uT:D->D->Option D
 |d,.aE=>some (.bl (!oE d))
 |_,_=>none
section
variable{K:PySem.W.Frag}
theorem yr{g:Int->Int->Int}:gZ K (lR λi j=>.int (g i j)) (vB g):=by
 intro H x y d1 d2 f1 f2 d Q r1 r2 e k;unfold vB at e
 split at e
 .cases e;exact⟨_,_,r1.ju.1,r2.ju.1,k H _ (aL.refl H) (.int _)⟩
 .cases e
theorem r_{g:Int->Int->Bool}:gZ K (lR λi j=>.bl (g i j)) (rM g):=by
 intro H x y d1 d2 f1 f2 d Q r1 r2 e k;unfold rM at e
 split at e
 .cases e;exact⟨_,_,r1.ju.1,r2.ju.1,k H _ (aL.refl H) (.bl _)⟩
 .cases e
theorem Ew{C:Int->Int->Prop}{c:Int->Int->Bool}{g:Int->Int->Int}(h:∀i j,c i j=true->C i j):gZ K (rI C λi j=>.int (g i j)) (wo c g):=by
 intro H x y d1 d2 f1 f2 d Q r1 r2 e k;unfold wo at e
 split at e
 .rename_i i j
  by_cases hc:c i j=true
  .rw[if_pos hc] at e;cases e;exact⟨i,j,r1.ju.1,r2.ju.1,h i j hc,k H _ (aL.refl H) (.int _)⟩
  .rw[if_neg hc] at e;cases e
 .cases e
theorem R6(i j:Int)(h:nM i j=true):vm i j:=by
 unfold nM at h;unfold vm;rcases(afo _ _).mp h with h|h
 .obtain⟨a,b⟩:=(acr _ _).mp h;exact .inl ⟨ac5 a,ac5 b⟩
 .obtain⟨a,b⟩:=(acr _ _).mp h;exact .inr ⟨ac5 a,ac5 b⟩
theorem NL:gZ K Np oEq:=by
 intro H x y d1 d2 f1 f2 d Q r1 r2 e k;unfold oEq at e
 split at e
 .cases e;rw[r1.ju.1,r2.ju.1];refine⟨rfl,?_⟩;rw[yg];exact k H _ (aL.refl H) (.bl _)
 .cases e;rw[r1.An.1,r2.An.1];refine⟨rfl,?_⟩;rw[xw];exact k H _ (aL.refl H) (.bl _)
 .cases e;rw[r1.zZ.1,r2.zZ.1];refine⟨rfl,?_⟩;rw[Ac];exact k H _ (aL.refl H) (.bl _)
 .cases e;rw[r1.zh.1,r2.zh.1];exact⟨rfl,by have:=k H (.bl true) (aL.refl H) (.bl _);simpa using this⟩
 .cases e
theorem abH:gZ K MO gD:=by
 intro H x y d1 d2 f1 f2 d Q r1 r2 e k;unfold gD at e
 split at e
 .cases e;rw[r1.ju.1,r2.ju.1];refine⟨rfl,?_⟩;rw[yg];exact k H _ (aL.refl H) (.bl _)
 .cases e;rw[r1.An.1,r2.An.1];refine⟨rfl,?_⟩;rw[xw];exact k H _ (aL.refl H) (.bl _)
 .cases e;rw[r1.zZ.1,r2.zZ.1];refine⟨rfl,?_⟩;rw[Ac];exact k H _ (aL.refl H) (.bl _)
 .cases e;rw[r1.zh.1,r2.zh.1];exact⟨rfl,by have:=k H (.bl false) (aL.refl H) (.bl _);simpa using this⟩
 .cases e
theorem Rep.oE(r:Rep K H d v fp):decide (v=.aE)=oE d:=by
 cases r<;>first|rfl|exact ada (λe=>nomatch e)
theorem MU:gZ K (λx y H Q=>y=.aE/\Q (.bl (decide (x=.aE))) H) iW:=by
 intro H x y d1 d2 f1 f2 d Q r1 r2 e k;cases r2 with
 |aE=>
  have e:some (D.bl (Ev.oE d1))=some d:=by cases d1<;>exact e
  cases e;refine⟨rfl,?_⟩;rw[r1.oE];exact k H _ (aL.refl H) (.bl _)
 |_=>cases d1<;>cases e
theorem Ub:gZ K (λx y H Q=>y=.aE/\Q (.bl (!decide (x=.aE))) H) uT:=by
 intro H x y d1 d2 f1 f2 d Q r1 r2 e k;cases r2 with
 |aE=>
  have e:some (D.bl (!Ev.oE d1))=some d:=by cases d1<;>exact e
  cases e;refine⟨rfl,?_⟩;rw[r1.oE];exact k H _ (aL.refl H) (.bl _)
 |_=>cases d1<;>cases e
end
section
variable{X:Cx}{a b:Expr}{fa fb:EF}{pos:Pos}
theorem gF(ha:FP X a fa)(hb:FP X b fb):FP X (.BinOp a .Add b pos) (e2 aX fa fb):=qN Od yr ha hb
theorem qF(ha:FP X a fa)(hb:FP X b fb):FP X (.BinOp a .Sub b pos) (e2 fQ fa fb):=qN Qn yr ha hb
theorem yx(ha:FP X a fa)(hb:FP X b fb):FP X (.BinOp a .Mult b pos) (e2 jo fa fb):=qN O1 (Ew R6) ha hb
theorem Gv(ha:FP X a fa)(hb:FP X b fb):FP X (.BinOp a .Mod b pos) (e2 oMod fa fb):=qN IC (Ew λ_ _ h=>ac5 h) ha hb
theorem yl(ha:FP X a fa)(hb:FP X b fb):FT X (.Compare a [.Gt] [b] pos) (tV (e2 j0 fa fb)):=qc QO r_ ha hb (lI _)
theorem QV(ha:FP X a fa)(hb:FP X b fb):FT X (.Compare a [.GtE] [b] pos) (tV (e2 yh fa fb)):=qc Zu r_ ha hb (lI _)
theorem mH(ha:FP X a fa)(hb:FP X b fb):FT X (.Compare a [.Eq] [b] pos) (tV (e2 oEq fa fb)):=qc L_ NL ha hb (lI _)
theorem wO(ha:FP X a fa)(hb:FP X b fb):FT X (.Compare a [.NotEq] [b] pos) (tV (e2 gD fa fb)):=qc abo abH ha hb (lI _)
theorem Hy(ha:FP X a fa)(hb:FP X b fb):FT X (.Compare a [.Is] [b] pos) (tV (e2 iW fa fb)):=qc Kl MU ha hb (lI _)
theorem abC(ha:FP X a fa)(hb:FP X b fb):FT X (.Compare a [.IsNot] [b] pos) (tV (e2 uT fa fb)):=qc abn Ub ha hb (lI _)
theorem yX(ha:FP X a fa)(hb:FP X b fb):FP X (.Compare a [.Eq] [b] pos) (e2 oEq fa fb):=tR L_ NL ha hb (lI _)
noncomputable def e1(op:D->Option D)(fa:EF):EF:=λρ=>match fa ρ with
 |some (d1,_)=>(op d1).map λd=>(d,.own)
 |none=>none
theorem qy{op:D->Option D}(e:e1 op fa ρ=some (d,tg)):∃d1 t1,fa ρ=some (d1,t1)/\op d1=some d/\tg=.own:=by
 unfold e1 at e;cases h1:fa ρ with
 |none=>rw[h1] at e;cases e
 |some p=>
  obtain⟨d1,t1⟩:=p;rw[h1] at e;dsimp only at e;cases h3:op d1 with
  |none=>rw[h3] at e;cases e
  |some d3=>rw[h3] at e;cases e;exact⟨d1,t1,rfl,h3,rfl⟩
def oA(K:PySem.W.Frag)(r:List V->Hp->VK->Prop)(op:D->Option D):Prop:=∀(H:Hp) (x:V) (d1:D) (f1:List Addr) (d:D) (Q:VK),Rep K H d1 x f1->op d1=some d->
 (∀H' v fp,aL H H'->Rep K H' d v fp->fp.Nodup->(∀a∈fp,H a=none)->Q v H')->r [x] H Q
theorem fp_1{r:List V->Hp->VK->Prop}{op:D->Option D}(dd:oA X.K r op)(ha:FP X a fa)(he:∀ta,PE X a ta->PE X e (Ff r (OS ta z9))):FP X e (e1 op fa):=by
 obtain⟨t,p,q⟩:=ha;refine⟨_,he t p,λH0 S z held ρ σ H Q d tg ok e k=>?_⟩;obtain⟨d1,t1,h1,h2,rfl⟩:=qy e;refine q H0 S z held ρ σ H _ d1 t1 ok h1 λH1 x f1 s1 r1 _=>?_
 exact dd H1 x d1 f1 d Q r1 h2 λH2 v fp s2 r2 nd fr=>k H2 v fp (s1.trans s2) r2 ⟨nd,λa m=>s1.free (fr a m)⟩
noncomputable def bX:D->Option D
 |.lst ds=>some (.int ds.length)
 |.iZ ds=>some (.int ds.length)
 |.tup ds=>some (.int ds.length)
 |.bD es=>some (.int es.length)
 |_=>none
theorem fP.or'{r r':List V->Hp->VK->Prop}(h:fP X f r)(h':fP X f r'):fP X f (λxs H Q=>r xs H Q\/r' xs H Q):=by
 intro pins s σ H xs us Q I rv q;rcases q with q|q
 .exact h pins s σ H xs us Q I rv q
 .exact h' pins s σ H xs us Q I rv q
theorem Rt:oA X.K (λxs H Q=>(∃p ys,xs=[V.ref p]/\(bQ X.K H p ys\/cA X.K H p ys)/\Q (.int ys.length) H)\/(∃a kvs,xs=[V.ref a]/\H a=some (.dK kvs)/\Q (.int kvs.length) H)) bX:=by
 intro H x d1 f1 d Q r e k;have fin:∀n:Nat,d=.int n->Q (.int n) H:=λn e=>by subst e;exact k H _ [] (aL.refl H) (.int _) ac1 λa m=>nomatch m
 cases d1 with
 |lst ds=>
  obtain⟨a,xs,f,rfl,hq,rs,_⟩:=r.e7;cases e;exact .inl ⟨a,xs,rfl,.inl hq,by rw[<- rs.length];exact fin _ rfl⟩
 |iZ ds=>
  obtain⟨a,xs,rfl,hq,rs⟩:=r.sr;cases e;exact .inl ⟨a,xs,rfl,.inl hq,by rw[<- rs.length];exact fin _ rfl⟩
 |tup ds=>
  obtain⟨a,xs,rfl,hq,rs⟩:=r.lB;cases e;exact .inl ⟨a,xs,rfl,.inr hq,by rw[<- rs.length];exact fin _ rfl⟩
 |bD es=>
  cases r with
  |bD h hk rs=>
   cases e;refine .inr ⟨_,_,rfl,h,?_⟩;have hl:=congrArg List.length hk;rw[List.length_map,List.length_map] at hl;rw[<- hl];exact fin _ rfl
 |_=>cases e
theorem ic(hm:X.mg "len"=none)(ha:FP X a fa)(hg:Gl X "len":=by rfl)(hs:starEach [a] X.env=[(false,eval a X.env)]:=by rfl):FP X (.Call (.Name "len" p) [a] [] pos) (e1 bX fa):=
 fp_1 Rt ha λta pa=>q_ (fP.or' Tt Zo) hg hm PySem.boot_len (c_ pa fM hs) (he:=hs) (hpl:=rfl)
noncomputable def iO:D->Option D
 |.lst ds=>if aN ds=true then some (.lst ds) else none
 |.tup ds=>if aN ds=true then some (.lst ds) else none
 |_=>none
theorem Vx:oA X.K (λxs H Q=>∃p ys,xs=[V.ref p]/\(bQ X.K H p ys\/cA X.K H p ys)/\∀l,H l=none->Q (.ref l) (upd H l (.lst ys))) iO:=by
 intro H x d1 f1 d Q r e k;have fin:∀{ds:List D}{xs:List V}{f:List Addr},aA X.K H ds xs f->(if aN ds=true then some (D.lst ds) else none)=some d->∀l,H l=none->Q (.ref l) (upd H l (.lst xs)):=λ{ds xs f} rs e l hl=>by
  by_cases hi:aN ds=true
  .rw[if_pos hi] at e;cases e;have hn:=rs.aH hi;subst hn;have s2:aL H (upd H l (.lst xs)):=λb o e=>by rw[aY (dz e hl)];exact e
   exact k _ _ [l] s2 (.lst cB (rs.same s2)) (acV.mpr ⟨(λm=>by cases m),ac1⟩) λa m=>by cases aa8.mp m;exact hl
  .rw[if_neg hi] at e;cases e
 cases d1 with
 |lst ds=>
  obtain⟨a,xs,f,rfl,hq,rs,_⟩:=r.e7;exact⟨a,xs,rfl,.inl hq,fin rs e⟩
 |tup ds=>
  obtain⟨a,xs,rfl,hq,rs⟩:=r.lB;exact⟨a,xs,rfl,.inr hq,fin rs e⟩
 |_=>cases e
theorem sL(hm:X.mg "list"=none)(ha:FP X a fa)(hg:Gl X "list":=by rfl)(hs:starEach [a] X.env=[(false,eval a X.env)]:=by rfl):FP X (.Call (.Name "list" p) [a] [] pos) (e1 iO fa):=
 fp_1 Vx ha λta pa=>sD Tf hg hm (by rfl) (c_ pa fM hs) (he:=hs) (hpl:=rfl)
end
noncomputable def cY:D->D->Option D
 |.iZ ds,.int i=>(cS ds i).bind λd=>if aH d=true then some d else none
 |.lst ds,.int i=>(cS ds i).bind λd=>if aH d=true then some d else none
 |.tup ds,.int i=>(cS ds i).bind λd=>if aH d=true then some d else none
 |_,_=>none
theorem Wz{K:PySem.W.Frag}:gZ K (λx y H Q=>Bg K x y H Q\/E5 K x y H Q\/Dz x y H Q) cY:=by
 intro H x y d1 d2 f1 f2 d Q r1 r2 e k;have key:∀{ds:List D}{xs:List V}{f:List Addr}{i:Int},aA K H ds xs f->((cS ds i).bind λd=>if aH d=true then some d else none)=some d->∃v,cS xs i=some v/\Rep K H d v []:=λ{ds xs f i} rs e=>by
  unfold cS at e ⊢;rw[<- rs.length];cases h:ku ds.length i with
  |none=>rw[h] at e;cases e
  |some j=>
   rw[h,adk] at e;rw[adk];cases h2:ds[j]? with
   |none=>rw[h2] at e;cases e
   |some d'=>
    rw[h2,adk] at e
    by_cases hi:aH d'=true
    .rw[if_pos hi] at e;cases e;obtain⟨v,f',hv,rv,_⟩:=rs.get h2;have hn:=rv.aH hi;subst hn;exact⟨v,hv,rv⟩
    .rw[if_neg hi] at e;cases e
 unfold cY at e
 split at e
 .obtain⟨a,xs,rfl,hq,rs⟩:=r1.sr;obtain⟨v,hv,rv⟩:=key rs e;exact .inl ⟨a,xs,_,v,rfl,r2.ju.1,hq,hv,k H v (aL.refl H) rv⟩
 .obtain⟨a,xs,f,rfl,hq,rs,_⟩:=r1.e7;obtain⟨v,hv,rv⟩:=key rs e;exact .inl ⟨a,xs,_,v,rfl,r2.ju.1,hq,hv,k H v (aL.refl H) rv⟩
 .obtain⟨a,xs,rfl,hq,rs⟩:=r1.lB;obtain⟨v,hv,rv⟩:=key rs e;exact .inr (.inl ⟨a,xs,_,v,rfl,r2.ju.1,hq,hv,k H v (aL.refl H) rv⟩)
 .cases e
theorem kM(ha:FP X a fa)(hb:FP X b fb)(hs:uS b:=by exact λ_ _=>rfl):FP X (.Subscript a b pos) (e2 cY fa fb):=fp_2 Wz ha hb λ_ _ pa pb=>zg yV pa pb hs
section
variable{ρ au:aK}{i j:Nat}{d d1 d2:D}{t t1 t2:Tag}{yu:D->D->Option D}{ym:D->Option D}{f g fa fb:EF}{tf tg:TF}{sf sg:SF}{o:Out}
noncomputable def IW(i:Nat):Option Slot->Option (D×Tag)
 |some (some (d,t))=>some (d,OY i t)
 |_=>none
theorem Sk:af i ρ=IW i ρ[i]? :=by
 unfold af IW;cases ρ[i]? with
 |none=>rfl
 |some s=>cases s<;>rfl
theorem eG:eC d ρ=some (d,.own):=rfl
noncomputable def k1(op:D->Option D):Option (D×Tag)->Option (D×Tag)
 |some (d,_)=>(op d).map λd=>(d,.own)
 |none=>none
theorem eE:e1 ym fa ρ=k1 ym (fa ρ):=by unfold e1 k1;cases fa ρ<;>rfl
theorem eT:k1 ym (some (d,t))=(ym d).map λd=>(d,.own):=rfl
noncomputable def k2(op:D->D->Option D):Option (D×Tag)->Option (D×Tag)->Option (D×Tag)
 |some (d1,_),some (d2,_)=>(op d1 d2).map λd=>(d,.own)
 |_,_=>none
theorem bL:e2 yu fa fb ρ=k2 yu (fa ρ) (fb ρ):=by unfold e2 k2;cases fa ρ<;>cases fb ρ<;>rfl
theorem cg:k2 yu (some (d1,t1)) (some (d2,t2))=(yu d1 d2).map λd=>(d,.own):=rfl
theorem gY{α β:Type}{f:α->β}{a:α}:(some a).map f=some (f a):=rfl
noncomputable def kV:Option (D×Tag)->Option Bool
 |some (.bl b,_)=>some b
 |_=>none
theorem eY:tV fa ρ=Ev.kV (fa ρ):=by
 unfold tV Ev.kV;cases fa ρ with
 |none=>rfl
 |some p=>obtain⟨d,t⟩:=p;cases d<;>rfl
theorem V5:Ev.kV (some (.bl b,t))=some b:=rfl
theorem adf:jh tf tg ρ=(match tf ρ with|some true=>tg ρ|some false=>some false|none=>none):=rfl
theorem ED(h:tf ρ=some a)(h2:tg ρ=some b):jh tf tg ρ=some (a&&b):=by unfold jh;rw[h];cases a<;>first|exact h2|rfl
theorem sQ(h:tf ρ=some a)(h2:tg ρ=some b):iz tf tg ρ=some (a||b):=by unfold iz;rw[h];cases a<;>first|exact h2|rfl
theorem lC:dF tf ρ=(tf ρ).map λb=>!b:=rfl
theorem gC:bx ρ=some (.nx ρ):=rfl
noncomputable def jH(g:SF):Option Out->Option Out
 |some (.nx ρ)=>g ρ
 |o=>o
theorem aW:aB sf sg ρ=jH sg (sf ρ):=by
 unfold aB jH;cases sf ρ with
 |none=>rfl
 |some o=>cases o<;>rfl
theorem bf:jH sg (some (.nx ρ))=sg ρ:=rfl
noncomputable def zo(sf sg:SF)(ρ:aK):Option Bool->Option Out
 |some true=>sf ρ
 |some false=>sg ρ
 |none=>none
theorem eN:bG tf sf sg ρ=zo sf sg ρ (tf ρ):=by unfold bG zo;cases tf ρ<;>rfl
theorem oR:zo sf sg ρ (some true)=sf ρ:=rfl
theorem kg:zo sf sg ρ (some false)=sg ρ:=rfl
noncomputable def lJ:Option (D×Tag)->Option Out
 |some (d,t)=>if kh t=true then some (.rt d) else if aH d=true then some (.rt d) else none
 |none=>none
theorem eV:bT fa ρ=lJ (fa ρ):=by unfold bT lJ;cases fa ρ<;>rfl
theorem Wv:lJ (some (d,.own))=some (.rt d):=rfl
noncomputable def Ah(i:Nat)(ρ:aK):Option (D×Tag)->Option Out
 |some (d,t)=>some (.nx (lV ρ i d t))
 |none=>none
theorem eZ:aM i fa ρ=Ah i ρ (fa ρ):=by unfold aM Ah;cases fa ρ<;>rfl
theorem fD:aj ρ=some []:=rfl
noncomputable def uc:Option (D×Tag)->Option (List (D×Tag))->Option (List (D×Tag))
 |some p,some ps=>some (p::ps)
 |_,_=>none
theorem br:ah fa a ρ=uc (fa ρ) (a ρ):=by unfold ah uc;cases fa ρ<;>cases a ρ<;>rfl
theorem bO{p:D×Tag}{ps:List (D×Tag)}:uc (some p) (some ps)=some (p::ps):=rfl
theorem s_call{F:List D->Option D}:aC F a ρ=(a ρ).bind λps=>(F (ps.map (·.1))).map λd=>(d,.own):=rfl
theorem eS{α β:Type}{f:α->Option β}{a:α}:(some a).bind f=f a:=rfl
theorem LM:je a ρ=(a ρ).map λps=>(.tup (ps.map (·.1)),iN ps):=rfl
theorem wB:cO a ρ=(a ρ).map λps=>(.lst (ps.map (·.1)),iN ps):=rfl
variable{m n:Int}
theorem tL:aX (.int m) (.int n)=some (.int (m+n)):=rfl
theorem yK(h:nM m n=true):jo (.int m) (.int n)=some (.int (m*n)):=by show(if nM m n=true then some (D.int (m*n)) else none)=_;rw[if_pos h]
theorem Eb(h:0<n):oMod (.int m) (.int n)=some (.int (m % n)):=by show(if Cz m n=true then some (D.int (m % n)) else none)=_;rw[if_pos (show Cz m n=true from ab5 h)]
theorem UM:oLt (.int m) (.int n)=some (.bl (decide (m<n))):=rfl
theorem Jy:oLe (.int m) (.int n)=some (.bl (decide (m<=n))):=rfl
theorem Xz:yh (.int m) (.int n)=some (.bl (decide (n<=m))):=rfl
theorem mE:bX (.lst ds)=some (.int ds.length):=rfl
theorem NC(h:cS ds m=some d)(hi:aH d=true):cY (.lst ds) (.int m)=some d:=by show((cS ds m).bind λd=>if aH d=true then some d else none)=_;rw[h,adk,if_pos hi]
theorem dU{n N:Nat}{b:SF}{ds:List D}(hl:ds.length=n)(h:b (qx N ds)=some (.rt d)):b6 n N b ds=some d:=by unfold b6;rw[if_pos hl,h]
end
noncomputable def dI(ns:List Int):D:=.iZ (ns.map D.int)
section
variable{κ:Type}[DecidableEq κ]
noncomputable def fu(es:List (κ×D))(k:κ):Option D:=(es.find? λkv=>decide (kv.1=k)).map (·.2)
noncomputable def putD(es:List (κ×D))(k:κ)(d:D):List (κ×D):=
 if(es.any λkv=>decide (kv.1=k))=true then es.map (λkv=>if kv.1=k then(kv.1,d) else kv) else es++[(k,d)]
theorem AD{K:PySem.W.Frag}{k:κ}:∀{es:List (κ×D)}{kvs:List (κ×V)}{fp:List Addr},es.map (·.1)=kvs.map (·.1)->aA K H (es.map (·.2)) (kvs.map (·.2)) fp->
  (∀d,fu es k=some d->∃v f,iU kvs k=some v/\Rep K H d v f/\∀a∈f,a∈fp)/\(fu es k=none->iU kvs k=none)
 |[],[],_,_,_=>⟨λd e=>(nomatch e),λ_=>rfl⟩
 |[],_::_,_,e,_=>by simp at e
 |_::_,[],_,e,_=>by simp at e
 |(q,d0)::es,(q',v0)::kvs,fp,e,r=>by
  simp only[aaH,aez] at e;obtain⟨rfl,e⟩:=e;simp only[aaH] at r;cases r with
  | @cons _ _ _ _ f1 f2 r1 r2=>
   obtain⟨i1,i2⟩:=AD e r2
   by_cases h:q=k
   .have e1:fu ((q,d0)::es) k=some d0:=by unfold fu;rw[adL,ab5 h];rfl
    refine⟨λd ed=>?_,λen=>?_⟩
    .rw[e1] at ed;cases ed;exact⟨v0,f1,xF h,r1,λa m=>ac7 _ m⟩
    .rw[e1] at en;cases en
   .have e1:fu ((q,d0)::es) k=fu es k:=by unfold fu;rw[adL,ada h]
    rw[e1,xB h];exact⟨λd ed=>let⟨v,f,a,b,c⟩:=i1 d ed;⟨v,f,a,b,λx m=>acQ _ (c x m)⟩,i2⟩
theorem LZ{es:List (κ×D)}{kvs:List (κ×V)}{k:κ}(e:es.map (·.1)=kvs.map (·.1)):(putD es k d).map (·.1)=(putK kvs k v).map (·.1):=by
 have any:(es.any λkv=>decide (kv.1=k))=kvs.any λkv=>decide (kv.1=k):=by
  have h1:(es.any λkv=>decide (kv.1=k))=(es.map (·.1)).any λx=>decide (x=k):=by rw[afx];rfl
  have h2:(kvs.any λkv=>decide (kv.1=k))=(kvs.map (·.1)).any λx=>decide (x=k):=by rw[afx];rfl
  rw[h1,h2,e]
 have m1:∀l:List (κ×D),(l.map λkv=>if kv.1=k then(kv.1,d) else kv).map (·.1)=l.map (·.1):=λl=>by
  rw[adS];congr 1;funext kv;show(if kv.1=k then(kv.1,d) else kv).1=kv.1;split<;>rfl
 have m2:∀l:List (κ×V),(l.map λkv=>if kv.1=k then(kv.1,v) else kv).map (·.1)=l.map (·.1):=λl=>by
  rw[adS];congr 1;funext kv;show(if kv.1=k then(kv.1,v) else kv).1=kv.1;split<;>rfl
 unfold putD putK;rw[any]
 by_cases h:(kvs.any λkv=>decide (kv.1=k))=true
 .rw[if_pos h,if_pos h,m1,m2,e]
 .rw[if_neg h,if_neg h,adG,adG,e];rfl
theorem IU{K:PySem.W.Frag}{k:κ}{es:List (κ×D)}{kvs:List (κ×V)}(e:es.map (·.1)=kvs.map (·.1))(r:aA K H (es.map (·.2)) (kvs.map (·.2)) [])(rv:Rep K H d v []):
  aA K H ((putD es k d).map (·.2)) ((putK kvs k v).map (·.2)) []:=by
 have any:(es.any λkv=>decide (kv.1=k))=kvs.any λkv=>decide (kv.1=k):=by
  have h1:(es.any λkv=>decide (kv.1=k))=(es.map (·.1)).any λx=>decide (x=k):=by rw[afx];rfl
  have h2:(kvs.any λkv=>decide (kv.1=k))=(kvs.map (·.1)).any λx=>decide (x=k):=by rw[afx];rfl
  rw[h1,h2,e]
 have go:∀(es:List (κ×D)) (kvs:List (κ×V)),es.map (·.1)=kvs.map (·.1)->aA K H (es.map (·.2)) (kvs.map (·.2)) []->aA K H ((es.map λkv=>if kv.1=k then(kv.1,d) else kv).map (·.2)) ((kvs.map λkv=>if kv.1=k then(kv.1,v) else kv).map (·.2)) []:=by
  intro es
  induction es with
  |nil=>
   intro kvs e r;cases kvs with
   |nil=>exact .nil
   |cons _ _=>simp at e
  |cons p es ih=>
   intro kvs e r;cases kvs with
   |nil=>simp at e
   |cons p' kvs=>
    obtain⟨q,d0⟩:=p;obtain⟨q',v0⟩:=p';simp only[aaH,aez] at e;obtain⟨rfl,e⟩:=e;simp only[aaH] at r ⊢;generalize hf:([]:List Addr)=fp at r;cases r with
    | @cons _ _ _ _ f1 f2 r1 r2=>
     obtain⟨h1,h2⟩:=aes.mp hf.symm;subst h1 h2;have t:=ih kvs e r2
     by_cases h:q=k
     .rw[if_pos h,if_pos h];exact aA.cons (f1:=[]) (f2:=[]) rv t
     .rw[if_neg h,if_neg h];exact aA.cons (f1:=[]) (f2:=[]) r1 t
 unfold putD putK;rw[any]
 by_cases h:(kvs.any λkv=>decide (kv.1=k))=true
 .rw[if_pos h,if_pos h];exact go es kvs e r
 .rw[if_neg h,if_neg h,adG,adG];exact aA.append r (aA.cons (f1:=[]) (f2:=[]) rv .nil)
end
noncomputable def iP:D->Option Key
 |.int i=>some (.inl i)
 |.str x=>some (.inr x)
 |_=>none
theorem Rep.key{K:PySem.W.Frag}(r:Rep K H d y fp)(e:iP d=some k):y=L2.kV k:=by
 cases r<;>cases e<;>rfl
noncomputable def mq:D->D->Option D
 |.bD es,kd=>match iP kd with
  |some k=>(fu es k).bind λd=>if aH d=true then some d else none
  |none=>none
 |_,_=>none
def Wg:R2:=λx y H Q=>∃a v,x=.ref a/\jf H a y (some v)/\Q v H
theorem Xd{K:PySem.W.Frag}:gZ K Wg mq:=by
 intro H x y d1 d2 f1 f2 d Q r1 r2 e k;cases r1 with
 | @bD a kvs es fp h hk rs=>
  have e:(match iP d2 with|some k=>(fu es k).bind λd=>if aH d=true then some d else none|none=>none)=some d:=e;cases kU:iP d2 with
  |none=>rw[kU] at e;cases e
  |some key=>
   rw[kU] at e;dsimp only at e;cases hv:fu es key with
   |none=>rw[hv] at e;cases e
   |some d'=>
    rw[hv,adk] at e
    by_cases hi:aH d'=true
    .rw[if_pos hi] at e;cases e;obtain⟨v,f,h1,r,_⟩:=(AD (k:=key) hk rs).1 d hv;have hn:=r.aH hi;subst hn;have ek:=r2.key kU;subst ek;have g:=jf.k (k:=key) h;rw[h1] at g;exact⟨a,v,rfl,g,k H v (aL.refl H) r⟩
    .rw[if_neg hi] at e;cases e
 |_=>cases e
section
variable{X:Cx}{a b c:Expr}{fa fb fc:EF}{pos:Pos}
theorem IA(hu:X.A.units+1<cLine)(ha:FP X a fa)(hb:FP X b fb)(hs:Ey b:=by exact λ_ _=>rfl):FP X (.Subscript a b pos) (e2 mq fa fb):=
 fp_2 Xd ha hb λ_ _ pa pb=>Y_ hu pa pb hs
noncomputable def i_(d1 d2 d3:D):Option D:=match d1,iP d2 with
 |.bD es,some k=>match fu es k with
  |some d=>if aH d=true then some d else none
  |none=>if aH d3=true then some d3 else none
 |_,_=>none
noncomputable def e3(op:D->D->D->Option D)(fa fb fc:EF):EF:=λρ=>match fa ρ,fb ρ,fc ρ with
 |some (d1,_),some (d2,_),some (d3,_)=>(op d1 d2 d3).map λd=>(d,.own)
 |_,_,_=>none
theorem YG{op:D->D->D->Option D}(e:e3 op fa fb fc ρ=some (d,tg)):∃d1 t1 d2 t2 d3 t3,fa ρ=some (d1,t1)/\fb ρ=some (d2,t2)/\fc ρ=some (d3,t3)/\op d1 d2 d3=some d/\tg=.own:=by
 unfold e3 at e;cases h1:fa ρ with
 |none=>rw[h1] at e;cases e
 |some p=>
  cases h2:fb ρ with
  |none=>rw[h1,h2] at e;cases e
  |some q=>
   cases h3:fc ρ with
   |none=>rw[h1,h2,h3] at e;cases e
   |some r=>
    obtain⟨d1,t1⟩:=p;obtain⟨d2,t2⟩:=q;obtain⟨d3,t3⟩:=r;rw[h1,h2,h3] at e;dsimp only at e;cases h4:op d1 d2 d3 with
    |none=>rw[h4] at e;cases e
    |some d4=>rw[h4] at e;cases e;exact⟨d1,t1,d2,t2,d3,t3,rfl,rfl,rfl,h4,rfl⟩
theorem Bf{apos cpos:Pos}(hu:X.A.units+1<cLine)(ha:FP X a fa)(hb:FP X b fb)(hc:FP X c fc)(m:M2 X a "get" apos b c cpos:=by exact⟨rfl,rfl,rfl,rfl⟩):FP X (.Call (.Attribute a "get" apos) [b,c] [] cpos) (e3 i_ fa fb fc):=by
 obtain⟨ta,pa,sa⟩:=ha;obtain⟨tb,pb,sb⟩:=hb;obtain⟨tc,pc,sc⟩:=hc;refine⟨_,Uj hu pa pb pc m,λH0 S z held ρ σ H Q d tg ok e k=>?_⟩;obtain⟨d1,t1,d2,t2,d3,t3,h1,h2,h3,h4,rfl⟩:=YG e;refine sa H0 S z held ρ σ H _ d1 t1 ok h1 λH1 x f1 s1 r1 _=>?_
 cases d1 with
 |bD es=>
  cases r1 with
  | @bD p kvs _ fp h hk rs=>
   refine⟨p,rfl,.inl ⟨kvs,.inl h⟩,?_⟩;refine sb H0 S z held ρ σ H1 _ d2 t2 (ok.same s1) h2 λH2 y f2 s2 r2 _=>?_
   refine sc H0 S z held ρ σ H2 _ d3 t3 ((ok.same s1).same s2) h3 λH3 w f3 s3 r3 _=>?_
   unfold i_ at h4;cases kU:iP d2 with
   |none=>rw[kU] at h4;cases h4
   |some key=>
    rw[kU] at h4;dsimp only at h4;have ek:=r2.key kU;subst ek;have Wo:=s3 _ _ (s2 _ _ h);have g:=jf.k (k:=key) Wo;refine⟨_,g,?_⟩;have H_:=(s1.trans s2).trans s3;obtain⟨i1,i2⟩:=AD hk ((rs.same s2).same s3);cases hv:fu es key with
    |some d'=>
     rw[hv] at h4;dsimp only at h4
     by_cases hi:aH d'=true
     .rw[if_pos hi] at h4;cases h4;obtain⟨v,f,e1,r,_⟩:=i1 d hv;have hn:=r.aH hi;subst hn;rw[e1];exact k H3 v [] H_ r .nil
     .rw[if_neg hi] at h4;cases h4
    |none=>
     rw[hv] at h4;dsimp only at h4
     by_cases hi:aH d3=true
     .rw[if_pos hi] at h4;cases h4;rw[i2 hv];have hn:=r3.aH hi;subst hn;exact k H3 w [] H_ r3 .nil
     .rw[if_neg hi] at h4;cases h4
 |_=>cases h4
theorem GN:FP X (.Dict [] [] pos) (eC (.bD [])):=by
 refine⟨_,Pk,λH0 S z held ρ σ H Q d tg ok e k p hp=>?_⟩;cases e;have s2:aL H (upd H p (.dK [])):=λb o e=>by rw[aY (dz e hp)];exact e
 exact k _ _ [p] s2 (.bD cB rfl .nil) ⟨acV.mpr ⟨(λm=>by cases m),ac1⟩,λa m=>by cases aa8.mp m;exact hp⟩
end
noncomputable def MV(i:Nat):Slot->Slot
 |some (d,.sh o)=>if o.contains i=true then none else some (d,.sh o)
 |s=>s
noncomputable def cL(ρ:aK)(i:Nat)(d:D):aK:=(ρ.map (MV i)).set i (some (d,.own))
theorem Ok.vP{K:PySem.W.Frag}{o o':HO}(ok:Ok K H0 S z held ρ σ H)(h:ρ[i]? = some (some (d0,.own)))
  (hs:σ[i]? = some (some v)) (zz:uH z i .own fp) (hp:p∈fp) (ho:H p=some o) (mo:nO o=true) (r1:Rep K (upd H p o') d1 v fp):Ok K H0 S z held (cL ρ i d1) σ (upd H p o'):=by
 have im:bW H (upd H p o'):=bW.upd ho mo;have zp:=zz.2 p hp;have vp:=(acY.mp h).1;refine⟨λj d t e=>?_,λq m=>?_,λa j e=>?_,λa u e n=>?_,?_⟩
 .unfold cL at e
  by_cases hj:j=i
  .subst hj;rw[ad9 (by rw[List.length_map];exact vp)] at e;cases e;exact⟨v,fp,hs,r1,zz⟩
  .rw[adH (aej hj),acX] at e;cases e0:ρ[j]? with
   |none=>rw[e0] at e;cases e
   |some s=>
    rw[e0] at e;have e:=aco e;have e1:s=some (d,t)/\∀o,t=.sh o->¬i∈o:=by
     cases s with
     |none=>cases e
     |some w=>
      obtain⟨d',t'⟩:=w;cases t' with
      |sh o=>
       have e:(if o.contains i=true then none else some (d',Tag.sh o))=some (d,t):=e
       by_cases hc:o.contains i=true
       .rw[if_pos hc] at e;cases e
       .rw[if_neg hc] at e;cases e;exact⟨rfl,λo' eo m=>by cases eo;exact hc (List.contains_iff_mem.mpr m)⟩
      |own=>cases e;exact⟨rfl,λo eo=>by cases eo⟩
      |lk=>cases e;exact⟨rfl,λo eo=>by cases eo⟩
    obtain⟨rfl,nd⟩:=e1;obtain⟨v',eF,bN,r',z'⟩:=ok.sl j d t e0;have np:∀a∈eF,a≠p:=λa m e=>by
     subst e;cases t with
     |sh o=>exact nd o rfl (z' a m i zp)
     |own=>have:=z'.2 a m;rw[zp] at this;exact hj (aco this).symm
     |lk=>have:=z'.2 a m;rw[zp] at this;exact hj (aco this).symm
    exact⟨v',eF,bN,r'.frame (λa m=>aY (np a m)) im,z'⟩
 .obtain⟨r,hz⟩:=ok.hl q m;have np:∀a∈q.fp,a≠p:=λa m e=>by
   subst e;exact(hz a m i zp).2 d0 h
  refine⟨r.frame (λa m=>aY (np a m)) im,λa ha j e=>?_⟩;obtain⟨h1,h2⟩:=hz a ha j e;have hj:j≠i:=λe=>h2 d0 (by rw[e];exact h)
  refine⟨h1,λd e=>?_⟩;unfold cL at e;rw[adH (aej hj),acX] at e;cases e0:ρ[j]? with
  |none=>rw[e0] at e;cases e
  |some s=>
   rw[e0] at e;have e:MV i s=some (d,.own):=aco e;cases s with
   |none=>cases e
   |some w=>
    obtain⟨d',t'⟩:=w;cases t' with
    |sh o=>
     have e:(if o.contains i=true then none else some (d',Tag.sh o))=some (d,.own):=e
     split at e<;>cases e
    |own=>exact h2 d' e0
    |lk=>cases e
 .obtain⟨⟨u,w⟩,y⟩:=ok.zd a j e;refine⟨?_,y⟩
  by_cases ea:a=p
  .subst ea;exact⟨_,cB⟩
  .exact⟨u,by rw[aY ea];exact w⟩
 .have w:=ok.en a u e n;rw[aY]
  .exact w
  .intro ea;subst ea;rcases(ok.zd a i zp).2 with q|q
   .rw[q] at e;cases e
   .exact n q
 .unfold cL;rw[aeY,List.length_map];exact ok.ln
section
variable{X:Cx}{pos:Pos}
noncomputable def gk(i:Nat)(fk fv:EF):SF:=λρ=>match fv ρ,ρ[i]?,fk ρ with
 |some (d,_),some (some (.bD es,.own)),some (kd,_)=>match iP kd with
  |some k=>if(aH d&&aN (es.map (·.2))&&decide (es.length<sizeLine))=true then some (.nx (cL ρ i (.bD (putD es k d)))) else none
  |none=>none
 |_,_,_=>none
theorem tT(i:Nat){x:Str}(hu:X.A.units+1<cLine)(hk:FP X k fk)(hv:FP X v fv)(hN:X.N[i]? = some x:=by rfl)(fY:gP X.env.scope x:=by first|exact Or.inl rfl|exact Or.inr (Or.inl rfl)|exact Or.inr (Or.inr rfl))
  (hd:(x==("__debug__":Str))=false:=by decide) (cQ:(x==("__classdict__":Str))=false:=by decide) (hs:swapsWith v (some (.Subscript (.Name x p1) k pos')) pos.line X.env=pure false:=by rfl) :
  fJ X (.Assign [.Subscript (.Name x p1) k pos'] v pos) (gk i fk fv):=by
 obtain⟨tk,pk,sk⟩:=hk;obtain⟨tv,mZ,sv⟩:=hv;refine⟨_,Wm hu (gX hN fY hd cQ) pk mZ hs,λH0 S z held ρ σ H E o ok e q=>?_⟩;unfold gk at e;cases h1:fv ρ with
 |none=>rw[h1] at e;cases e
 |some w=>
  obtain⟨d,td⟩:=w;cases h2:ρ[i]? with
  |none=>rw[h1,h2] at e;cases e
  |some s=>
   cases h3:fk ρ with
   |none=>rw[h1,h2,h3] at e;cases s with
    |none=>cases e
    |some w=>obtain⟨d',t'⟩:=w;cases d'<;>cases t'<;>cases e
   |some w=>
    obtain⟨kd,Z2⟩:=w;rw[h1,h2,h3] at e;cases s with
    |none=>cases e
    |some w=>
     obtain⟨d',t'⟩:=w;cases d' with
     |bD es=>
      cases t' with
      |own=>
       dsimp only at e;cases h4:iP kd with
       |none=>rw[h4] at e;cases e
       |some key=>
        rw[h4] at e;dsimp only at e
        by_cases hc:(aH d&&aN (es.map (·.2))&&decide (es.length<sizeLine))=true
        .rw[if_pos hc] at e;cases e;obtain⟨D5,O7⟩:=(acr _ _).mp hc;obtain⟨D5,qo⟩:=(acr _ _).mp D5;have hz:=ac5 O7;refine sv H0 S z held ρ σ H _ d td ok h1 λH1 v S4 s1 rv _=>?_
         obtain⟨xv,fp,bN,r,zz⟩:=(ok.same s1).sl i _ _ h2;refine⟨xv,bN,?_⟩;refine sk H0 S z held ρ σ H1 _ kd Z2 (ok.same s1) h3 λH2 y fk' s2 rk _=>?_
         have ek:=rk.key h4;subst ek;have r':=r.same s2;cases r' with
         | @bD a kvs _ f h Gk rs=>
          have hn:=rs.aH qo;subst hn;have CU:=rv.aH D5;subst CU;have hl:kvs.length=es.length:=by have:=congrArg List.length Gk;simpa using this.symm
          refine⟨a,_,rfl,ug.k h (by rw[hl];exact hz),?_⟩;have im:bW H2 (upd H2 a (.dK (putK kvs key v))):=bW.upd h rfl;refine q z σ _ (Ok.vP ((ok.same s1).same s2) h2 bN zz aaF h rfl (.bD cB (LZ Gk) ?_)) (.refl _ _);exact IU Gk (rs.frame (λa m=>nomatch m) im) ((rv.same s2).frame (λa m=>nomatch m) im)
        .rw[if_neg hc] at e;cases e
      |_=>cases e
     |_=>cases t'<;>cases e
end
noncomputable def rG(x:Int):List Int->List Int
 |[]=>[x]
 |y::r=>if x<=y then x::y::r else y::rG x r
noncomputable def ef:List Int->List Int
 |[]=>[]
 |x::r=>rG x (ef r)
theorem By(x:Int):∀l:List Int,(rG x l).Perm (x::l)
 |[]=>.refl _
 |y::r=>by
  unfold rG
  split
  .exact .refl _
  .exact((By x r).cons y).trans (.swap x y r)
theorem rD:∀l:List Int,(ef l).Perm l
 |[]=>.refl _
 |x::r=>(By x (ef r)).trans ((rD r).cons x)
theorem OI(x:Int):∀{l:List Int},l.Pairwise (·<=·)->(rG x l).Pairwise (·<=·)
 |[],_=>List.pairwise_singleton _ _
 |y::r,h=>by
  obtain⟨h1,h2⟩:=aeA.mp h;unfold rG
  split
  .rename_i hx;exact aeA.mpr ⟨λz m=>(abh.mp m).elim (λe=>e ▸ hx) λm=>adN hx (h1 z m),h⟩
  .rename_i hx;refine aeA.mpr ⟨λz m=>?_,OI x h2⟩;rcases abh.mp ((By x r).mem_iff.mp m) with e|m
   .rw[e];omega
   .exact h1 z m
theorem Cy:∀l:List Int,(ef l).Pairwise (·<=·)
 |[]=>.nil
 |x::r=>OI x (Cy r)
theorem N5(p:a.Perm b)(s:a.Pairwise (·<=·)):a=ef b:=by
 have q:=p.trans (rD b).symm;exact q.eq_of_pairwise (λx y _ _ h1 h2=>Int.le_antisymm h1 h2) s (Cy b)
theorem Ds(l:List Int):(ef l).length=l.length:=(rD l).length_eq
noncomputable def dO:List D->Option (List Int)
 |[]=>some []
 |.int i::r=>(dO r).map (i::·)
 |_=>none
noncomputable def jI{α:Type}:List (Key×α)->Option (List Int)
 |[]=>some []
 |(.inl i,_)::r=>(jI r).map (i::·)
 |_=>none
theorem qu{K:PySem.W.Frag}:∀{ds:List D}{xs:List V}{fp:List Addr}{ns:List Int},aA K H ds xs fp->dO ds=some ns->xs=ns.map V.int
 |_,_,_,ns,.nil,e=>by cases e;rfl
 |_,_,_,ns,.cons (d:=d) h t,e=>by
  cases d with
  |int i=>
   unfold dO at e;cases q:dO _ with
   |none=>rw[q] at e;cases e
   |some r=>
    rw[q] at e;cases e;cases h;rw[qu t q];rfl
  |_=>cases e
theorem uZ(ns:List Int):dO (ns.map D.int)=some ns:=by
 induction ns with
 |nil=>rfl
 |cons n r ih=>rw[aaH];unfold dO;rw[ih];rfl
theorem La{α:Type}:∀{es:List (Key×α)}{ks:List Int},jI es=some ks->es.map (·.1)=ks.map Sum.inl
 |[],ks,e=>by cases e;rfl
 |(.inl i,_)::r,ks,e=>by
  unfold jI at e;cases q:jI r with
  |none=>rw[q] at e;cases e
  |some l=>
   rw[q] at e;cases e;rw[aaH,La q];rfl
 |(.inr _,_)::_,_,e=>by cases e
noncomputable def nR:D->Option D
 |.lst ds=>match dO ds with
  |some ns=>if ns.length<4096 then some (.lst ((ef ns).map D.int)) else none
  |none=>none
 |.bD es=>match jI es with
  |some ns=>if ns.length<4096 then some (.lst ((ef ns).map D.int)) else none
  |none=>none
 |_=>none
theorem qJ{K:PySem.W.Frag}:∀ns:List Int,aA K H (ns.map D.int) (ns.map V.int) []
 |[]=>.nil
 |n::r=>aA.cons (f1:=[]) (f2:=[]) (.int n) (qJ r)
theorem QH{K:PySem.W.Frag}:oA K (Ib K) nR:=by
 intro H x d1 f1 d Q r e k;have fin:∀(ns:List Int),(if ns.length<4096 then some (D.lst ((ef ns).map D.int)) else none)=some d->ns.length<4096/\∀l (jx:List Int),H l=none->jx.Perm ns->jx.Pairwise (·<=·)->Q (.ref l) (upd H l (.lst (jx.map V.int))):=λns e=>by
  by_cases h:ns.length<4096
  .rw[if_pos h] at e;cases e;refine⟨h,λl jx hl p s=>?_⟩;have eq:=N5 p s;subst eq;have s2:aL H (upd H l (.lst ((ef ns).map V.int))):=λb o e=>by rw[aY (dz e hl)];exact e
   exact k _ _ [l] s2 (.lst cB (qJ _)) (acV.mpr ⟨(λm=>by cases m),ac1⟩) λa m=>by cases aa8.mp m;exact hl
  .rw[if_neg h] at e;cases e
 cases d1 with
 |lst ds=>
  obtain⟨a,xs,f,rfl,hq,rs,_⟩:=r.e7;have e:(match dO ds with|some ns=>if ns.length<4096 then some (D.lst ((ef ns).map D.int)) else none|none=>none)=some d:=e;cases h:dO ds with
  |none=>rw[h] at e;cases e
  |some ns=>
   rw[h] at e;obtain⟨h1,h2⟩:=fin ns e;have ex:=qu rs h;subst ex;exact⟨a,ns,rfl,by unfold sizeLine;omega,.inr hq,h2⟩
 |bD es=>
  cases r with
  | @bD a kvs _ fp h hk rs=>
   have e:(match jI es with|some ns=>if ns.length<4096 then some (D.lst ((ef ns).map D.int)) else none|none=>none)=some d:=e;cases h':jI es with
   |none=>rw[h'] at e;cases e
   |some ns=>
    rw[h'] at e;obtain⟨h1,h2⟩:=fin ns e;exact⟨a,ns,rfl,by unfold sizeLine;omega,.inl ⟨kvs,h,by rw[<- hk];exact La h'⟩,h2⟩
 |_=>cases e
noncomputable def jg:List D->Option (List (Key×D))
 |[]=>some []
 |.tup [kd,d]::r=>match iP kd,jg r with
  |some k,some ps=>if aH d=true then some ((k,d)::ps) else none
  |_,_=>none
 |_=>none
noncomputable def jd:D->Option D
 |.lst ds=>(jg ds).map λps=>.bD (ps.foldl (λm p=>putD m p.1 p.2) [])
 |.tup ds=>(jg ds).map λps=>.bD (ps.foldl (λm p=>putD m p.1 p.2) [])
 |.bD es=>if aN (es.map (·.2))=true then some (.bD es) else none
 |_=>none
theorem NK:bootBuiltins "sorted"=some (.builtin "sorted"):=by decide +kernel
section
variable{X:Cx}{a b:Expr}{fa fb:EF}{pos:Pos}
theorem J4(hc:X.calm=true)(hm:X.mg "sorted"=none)(ha:FP X a fa)(hg:Gl X "sorted":=by rfl)(hs:starEach [a] X.env=[(false,eval a X.env)]:=by rfl):FP X (.Call (.Name "sorted" p) [a] [] pos) (e1 nR fa):=
 fp_1 QH ha λta pa=>q_ (acn hc) hg hm NK (c_ pa fM hs) (he:=hs) (hpl:=rfl)
noncomputable def jJ:List Int->Int
 |[]=>0
 |[x]=>x
 |x::r=>if x<=jJ r then x else jJ r
theorem EA:∀{l:List Int},l≠[]->jJ l∈l/\∀x∈l,jJ l<=x
 |[x],_=>⟨aaF,λy m=>by rw[aa8.mp m];exact aeC _⟩
 |x::y::r,_=>by
  obtain⟨h1,h2⟩:=EA (l:=y::r) (by simp);show(if x<=jJ (y::r) then x else jJ (y::r))∈_/\∀z∈_,(if x<=jJ (y::r) then x else jJ (y::r))<=z
  by_cases h:x<=jJ (y::r)
  .rw[if_pos h];exact⟨aaF,λz m=>(abh.mp m).elim (λe=>by rw[e];exact aeC _) λm=>adN h (h2 z m)⟩
  .rw[if_neg h];exact⟨aaY _ h1,λz m=>(abh.mp m).elim (λe=>by rw[e];omega) λm=>h2 z m⟩
noncomputable def yd:D->D->Option D
 |.lst ds,z=>match dO ds with
  |some []=>if aH z=true then some z else none
  |some (n::r)=>some (.int (jJ (n::r)))
  |none=>none
 |_,_=>none
theorem S5{p kp:Pos}(hc:X.calm=true)(hm:X.mg "min"=none)(ha:FP X a fa)(hb:FP X b fb)(hg:Gl X "min":=by rfl)(hs:starEach [a] X.env=[(false,eval a X.env)]:=by rfl)
  (h1:backTo pos (starEach [a] X.env)=(false,eval a X.env)::backTo pos (starEach [] X.env):=by rfl) (h2:(backTo pos (starEach [a] X.env)).any (·.1)=false:=by rfl)
  (h3:(backToKw pos (keywordEach [⟨some "default",b,kp⟩] X.env)).all (·.1.isSome)=true:=by rfl) (h4:(backToKw pos (keywordEach [⟨some "default",b,kp⟩] X.env)).any (·.1.isNone)=false:=by rfl)
  (h5:(backToKw pos (keywordEach [⟨some "default",b,kp⟩] X.env)).filterMap (·.1)=[("default":Str)]:=by rfl) :
  FP X (.Call (.Name "min" p) [a] [⟨some "default",b,kp⟩] pos) (e2 yd fa fb):=by
 obtain⟨ta,pa,sa⟩:=ha;obtain⟨tb,pb,sb⟩:=hb;refine⟨_,VL hc hm pa pb hg hs h1 h2 h3 h4 h5,λH0 S z held ρ σ H Q d tg ok e k=>?_⟩;obtain⟨d1,t1,d2,t2,g1,g2,g3,rfl⟩:=xr e;refine sa H0 S z held ρ σ H _ d1 t1 ok g1 λH1 x f1 s1 r1 _=>?_
 refine sb H0 S z held ρ σ H1 _ d2 t2 (ok.same s1) g2 λH2 y f2 s2 r2 _=>?_
 cases d1 with
 |lst ds=>
  obtain⟨l,xs,f,rfl,hq,rs,_⟩:=(r1.same s2).e7;have g3:(match dO ds with|some []=>if aH d2=true then some d2 else none|some (n::r)=>some (.int (jJ (n::r)))|none=>none)=some d:=g3;cases h:dO ds with
  |none=>rw[h] at g3;cases g3
  |some ns=>
   rw[h] at g3;have ex:=qu rs h;subst ex;refine⟨l,ns,rfl,hq,?_⟩;cases ns with
   |nil=>
    have g3:=g3
    by_cases hi:aH d2=true
    .rw[if_pos hi] at g3;cases g3;have hn:=r2.aH hi;subst hn;exact .inl ⟨rfl,k H2 y [] (s1.trans s2) r2 .nil⟩
    .rw[if_neg hi] at g3;cases g3
   |cons n r=>
    cases g3;refine .inr ⟨by simp,λm k7 gQ=>?_⟩;obtain⟨q1,q2⟩:=EA (l:=n::r) (by simp);have em:=Int.le_antisymm (gQ _ q1) (q2 m k7);rw[em];exact k H2 _ [] (s1.trans s2) (.int _) .nil
 |_=>cases g3
end
theorem Je{K:PySem.W.Frag}:∀{ds:List D}{xs:List V}{fp:List Addr}{ps:List (Key×D)},aA K H ds xs fp->jg ds=some ps->
  ∃qs:List (Key×V),Paired (λy (q:Key×V)=>∃a,y=.ref a/\cA K H a [L2.kV q.1,q.2]) xs qs/\ps.map (·.1)=qs.map (·.1)/\aA K H (ps.map (·.2)) (qs.map (·.2)) []
 |_,_,_,ps,.nil,e=>by cases e;exact⟨[],.nil,rfl,.nil⟩
 |_,_,_,ps,.cons (d:=d) (ds:=dr) h t,e=>by
  unfold jg at e
  split at e
  .rename_i heq;cases heq
  .rename_i kd d' r heq;cases heq;cases h1:iP kd with
   |none=>rw[h1] at e;cases e
   |some k=>
    cases h2:jg dr with
    |none=>rw[h1,h2] at e;cases e
    |some pr=>
     rw[h1,h2] at e;dsimp only at e
     by_cases hi:aH d'=true
     .rw[if_pos hi] at e;cases e;obtain⟨qs,a1,a2,a3⟩:=Je t h2;obtain⟨a,ys,rfl,hq,rs⟩:=h.lB;cases rs with
      |cons rk rs=>
       cases rs with
       |cons rv rs=>
        cases rs with
        |nil=>
         have ek:=rk.key h1;subst ek;have hn:=rv.aH hi;subst hn;exact⟨(k,_)::qs,.cons ⟨a,rfl,hq⟩ a1,by rw[aaH,aaH,a2],aA.cons (f1:=[]) (f2:=[]) rv a3⟩
     .rw[if_neg hi] at e;cases e
  .cases e
theorem IM{K:PySem.W.Frag}:∀{ps:List (Key×D)}{qs:List (Key×V)}{es:List (Key×D)}{kvs:List (Key×V)},ps.map (·.1)=qs.map (·.1)->aA K H (ps.map (·.2)) (qs.map (·.2)) []->es.map (·.1)=kvs.map (·.1)->aA K H (es.map (·.2)) (kvs.map (·.2)) []->
  (ps.foldl (λm p=>putD m p.1 p.2) es).map (·.1)=(qs.foldl (λm q=>putK m q.1 q.2) kvs).map (·.1)/\aA K H ((ps.foldl (λm p=>putD m p.1 p.2) es).map (·.2)) ((qs.foldl (λm q=>putK m q.1 q.2) kvs).map (·.2)) []
 |[],[],_,_,_,_,h1,h2=>⟨h1,h2⟩
 |[],_::_,_,_,e,_,_,_=>by simp at e
 |_::_,[],_,_,e,_,_,_=>by simp at e
 |(k,d)::ps,(k',v)::qs,es,kvs,e,r,h1,h2=>by
  simp only[aaH,aez] at e;obtain⟨rfl,e⟩:=e;simp only[aaH] at r;generalize hf:([]:List Addr)=fp at r;cases r with
  | @cons _ _ _ _ f1 f2 r1 r2=>
   obtain⟨z1,z2⟩:=aes.mp hf.symm;subst z1 z2;rw[ad5,ad5];exact IM e r2 (LZ h1) (IU h1 h2 r1)
theorem PV{K:PySem.W.Frag}:oA K (λxs H Q=>F7 K xs H Q\/∃a kvs,xs=[V.ref a]/\H a=some (.dK kvs)/\∀l,H l=none->Q (.ref l) (upd H l (.dK kvs))) jd:=by
 intro H x d1 f1 d Q r e k;have fresh:∀{o:HO}{l:Addr},H l=none->aL H (upd H l o):=λhl b o e=>by rw[aY (dz e hl)];exact e
 have mW:∀l:Addr,([l]:List Addr).Nodup:=λl=>acV.mpr ⟨(λm=>by cases m),ac1⟩
 have seq:∀{ds:List D}{xs:List V}{f:List Addr}{p:Addr},aA K H ds xs f->(bQ K H p xs\/cA K H p xs)->((jg ds).map λps=>D.bD (ps.foldl (λm p=>putD m p.1 p.2) []))=some d->F7 K [.ref p] H Q:=λ{ds xs f p} rs hq e=>by
  cases h:jg ds with
  |none=>rw[h] at e;cases e
  |some ps=>
   rw[h] at e;cases e;obtain⟨qs,a1,a2,a3⟩:=Je rs h;refine⟨p,xs,qs,rfl,hq,a1,λl hl=>?_⟩;obtain⟨b1,b2⟩:=IM (es:=[]) (kvs:=[]) a2 a3 rfl .nil;exact k _ _ [l] (fresh hl) (.bD cB b1 (b2.same (fresh hl))) (mW l) λa m=>by cases aa8.mp m;exact hl
 cases d1 with
 |lst ds=>
  obtain⟨a,xs,f,rfl,hq,rs,_⟩:=r.e7;exact .inl (seq rs (.inl hq) e)
 |tup ds=>
  obtain⟨a,xs,rfl,hq,rs⟩:=r.lB;exact .inl (seq rs (.inr hq) e)
 |bD es=>
  cases r with
  | @bD a kvs _ fp h hk rs=>
   have e:(if aN (es.map (·.2))=true then some (D.bD es) else none)=some d:=e
   by_cases hi:aN (es.map (·.2))=true
   .rw[if_pos hi] at e;cases e;have hn:=rs.aH hi;subst hn;exact .inr ⟨a,kvs,rfl,h,λl hl=>k _ _ [l] (fresh hl) (.bD cB hk (rs.same (fresh hl))) (mW l) λa m=>by cases aa8.mp m;exact hl⟩
   .rw[if_neg hi] at e;cases e
 |_=>cases e
section
variable{X:Cx}{a b:Expr}{fa fb:EF}{pos:Pos}
theorem aaM:fP X (.type "dict") (λxs H Q=>∃a kvs,xs=[V.ref a]/\H a=some (.dK kvs)/\∀l,H l=none->Q (.ref l) (upd H l (.dK kvs))):=by
 intro pins s σ H xs us Q I r h;obtain⟨a,kvs,rfl,ha,q⟩:=h;obtain⟨u,rfl,ru⟩:=vals1 r;cases ru;exact TJ I (.inl ha) λp s' hp I'=>⟨.ref p,_,I',rfl,q p hp⟩
theorem Au(hc:X.calm=true)(hm:X.mg "dict"=none)(ha:FP X a fa)(hg:Gl X "dict":=by rfl)(hs:starEach [a] X.env=[(false,eval a X.env)]:=by rfl):FP X (.Call (.Name "dict" p) [a] [] pos) (e1 jd fa):=
 fp_1 PV ha λta pa=>sD (fP.or' (YZ hc) aaM) hg hm (show bootBuiltins "dict"=some (.type "dict") by decide +kernel) (c_ pa fM hs) (he:=hs) (hpl:=rfl)
noncomputable def gw:D->Option D
 |.lst ds=>if aN ds=true then some (.tup ds) else none
 |.tup ds=>if aN ds=true then some (.tup ds) else none
 |_=>none
theorem Xj:oA X.K (λxs H Q=>∃p ys,xs=[V.ref p]/\((bQ X.K H p ys/\∀l,H l=none->Q (.ref l) (upd H l (.tup ys)))\/(cA X.K H p ys/\Q (.ref p) H))) gw:=by
 intro H x d1 f1 d Q r e k;cases d1 with
 |lst ds=>
  obtain⟨a,xs,f,rfl,hq,rs,_⟩:=r.e7;have e:(if aN ds=true then some (D.tup ds) else none)=some d:=e
  by_cases hi:aN ds=true
  .rw[if_pos hi] at e;cases e;have hn:=rs.aH hi;subst hn;refine⟨a,xs,rfl,.inl ⟨hq,λl hl=>?_⟩⟩;have s2:aL H (upd H l (.tup xs)):=λb o e=>by rw[aY (dz e hl)];exact e
   exact k _ _ [] s2 (.tup (cA.of cB) (rs.same s2)) ac1 λa m=>nomatch m
  .rw[if_neg hi] at e;cases e
 |tup ds=>
  obtain⟨a,xs,rfl,hq,rs⟩:=r.lB;have e:(if aN ds=true then some (D.tup ds) else none)=some d:=e
  by_cases hi:aN ds=true
  .rw[if_pos hi] at e;cases e;have hn:=rs.aH hi;subst hn;exact⟨a,xs,rfl,.inr ⟨hq,k H _ [] (aL.refl H) (.tup hq rs) ac1 λa m=>nomatch m⟩⟩
  .rw[if_neg hi] at e;cases e
 |_=>cases e
theorem sA(hm:X.mg "tuple"=none)(ha:FP X a fa)(hg:Gl X "tuple":=by rfl)(hs:starEach [a] X.env=[(false,eval a X.env)]:=by rfl):FP X (.Call (.Name "tuple" p) [a] [] pos) (e1 gw fa):=
 fp_1 Xj ha λta pa=>sD aav hg hm (show bootBuiltins "tuple"=some (.type "tuple") by decide +kernel) (c_ pa fM hs) (he:=hs) (hpl:=rfl)
end
section
variable{X:Cx}{pins:List (Addr×Obj)}{σ:St}{H:Hp}{s:Shared}
noncomputable def zD(N:List Str)(eU sc:Scope)(M:List Str)(js:List (Option Nat)):Bool:=
 (sc.kind == .function)&&sc.names.all (λy=>y.2 != .cell)&&sc.names.all (λy=>if y.2 == .local then sc.names.lookup y.1==some .local else true)&&m8 N sc M js&&(frees sc).all (λx=>eU.names.lookup x==some .cell||eU.names.lookup x==some .free)&&decide M.Nodup
theorem gJ(h1:X.N=N)(h2:X.env.scope=eU)(h3:X.env.kindOf=λx=>eU.names.lookup x)(h:zD N eU sc M js=true):o_ X M js sc:=by
 unfold zD at h;obtain⟨h,a6⟩:=(acr _ _).mp h;obtain⟨h,a5⟩:=(acr _ _).mp h;obtain⟨h,a4⟩:=(acr _ _).mp h;obtain⟨h,a3⟩:=(acr _ _).mp h;obtain⟨a1,a2⟩:=(acr _ _).mp h;refine⟨?_,λy hy=>?_,λy hy hl=>?_,?_,λx hx=>?_,ac5 a6⟩
 .cases hk:sc.kind<;>rw[hk] at a1<;>first|rfl|exact absurd a1 (by decide)
 .have:=aep.mp a2 y hy;intro z;rw[z] at this;exact absurd this (by decide)
 .have:=aep.mp a3 y hy;rw[hl] at this;have this:=this;cases q:sc.names.lookup y.1 with
  |none=>rw[q] at this;exact absurd this (by decide)
  |some k=>rw[q] at this;cases k<;>first|rfl|exact absurd this (by decide)
 .rw[h1];exact a4
 .have:=aep.mp a5 x hx;rw[h3];dsimp only;cases q:eU.names.lookup x with
  |none=>rw[q] at this;exact absurd this (by decide)
  |some k=>rw[q] at this;cases k<;>first|exact .inl rfl|exact .inr rfl|exact absurd this (by decide)
end
theorem cK.back(g:cK z H1 t fp)(s:aL H H1):cK z H t fp:=by
 cases t with
 |sh o=>exact g
 |own=>exact⟨g.1,λa m=>s.free (g.2 a m)⟩
 |lk=>exact⟨g.1,λa m=>s.free (g.2 a m)⟩
section
variable{X:Cx}{a b:Expr}{fa fb:EF}{pos:Pos}
noncomputable def lS(fa fb:EF):EF:=λρ=>match fa ρ with
 |some (.bl true,_)=>fb ρ
 |some (.bl false,_)=>some (.bl false,.own)
 |_=>none
noncomputable def v7:D->Option D
 |.bl b=>some (.bl (!b))
 |_=>none
theorem AM{op}(h:FP X a fa):FP X (.BoolOp op [a] pos) fa:=let⟨t,p,q⟩:=h;⟨t,Uy p,q⟩
theorem sE(ha:FP X a fa)(hb:FP X (.BoolOp .And (b::rest) pos) fb):FP X (.BoolOp .And (a::b::rest) pos) (lS fa fb):=by
 obtain⟨t,p,q⟩:=ha;obtain⟨t',p',q'⟩:=hb;refine⟨_,PZ p p',λH0 S z held ρ σ H Q d tg ok e k=>?_⟩;unfold lS at e
 split at e
 .rename_i tt h;refine q H0 S z held ρ σ H _ _ tt ok h λH1 v fp s1 r1 _=>?_
  cases r1;refine⟨true,rfl,?_⟩;rw[if_pos rfl];exact q' H0 S z held ρ σ H1 _ d tg (ok.same s1) e λH2 v fp s2 r2 g2=>k H2 v fp (s1.trans s2) r2 (g2.back s1)
 .rename_i tt h;cases e;refine q H0 S z held ρ σ H _ _ tt ok h λH1 v fp s1 r1 _=>?_
  cases r1;refine⟨false,rfl,?_⟩;rw[if_neg ab3];exact k H1 _ [] s1 (.bl _) .nil
 .cases e
theorem NV(ha:FP X a fa):FP X (.UnaryOp .Not a pos) (e1 v7 fa):=by
 obtain⟨t,p,q⟩:=ha;refine⟨_,Po p,λH0 S z held ρ σ H Q d tg ok e k=>?_⟩;obtain⟨d1,t1,h1,h2,rfl⟩:=qy e;refine q H0 S z held ρ σ H _ d1 t1 ok h1 λH1 v fp s1 r1 _=>?_
 cases r1<;>cases h2
 exact⟨_,rfl,k H1 _ [] s1 (.bl _) .nil⟩
noncomputable def qO:D->D->Option D
 |.lst ds,.lst es=>if(aN ds&&aN es&&decide (ds.length+es.length<=sizeLine))=true then some (.lst (ds++es)) else none
 |_,_=>none
theorem MK(ha:FP X a fa)(hb:FP X b fb):FP X (.BinOp a .Add b pos) (e2 qO fa fb):=by
 obtain⟨ta,pa,sa⟩:=ha;obtain⟨tb,pb,sb⟩:=hb;refine⟨_,As XX pa pb,λH0 S z held ρ σ H Q d tg ok e q=>?_⟩;obtain⟨d1,t1,d2,t2,e1,lq,e3,rfl⟩:=xr e;refine sa H0 S z held ρ σ H _ d1 t1 ok e1 λH1 x f1 s1 r1 _=>?_
 refine sb H0 S z held ρ σ H1 _ d2 t2 (ok.same s1) lq λH2 y f2 s2 r2 _=>?_
 have Tj:=r1.same s2;cases Tj with
 | @lst p xs ds f h rs=>
  cases r2 with
  | @lst p' ys es f' h' mJ=>
   have e3:(if(aN ds&&aN es&&decide (ds.length+es.length<=sizeLine))=true then some (D.lst (ds++es)) else none)=some d:=e3
   by_cases hc:(aN ds&&aN es&&decide (ds.length+es.length<=sizeLine))=true
   .rw[if_pos hc] at e3;cases e3;obtain⟨c1,c3⟩:=(acr _ _).mp hc;obtain⟨c1,c2⟩:=(acr _ _).mp c1;have n1:=rs.aH c1;have n2:=mJ.aH c2;subst n1 n2;refine⟨p,p',xs,ys,rfl,rfl,h,h',by rw[<- rs.length,<- mJ.length];exact ac5 c3,λl hl=>?_⟩;have s3:aL H2 (upd H2 l (.lst (xs++ys))):=λb o e=>by rw[aY (dz e hl)];exact e
    have rr:=aA.append rs mJ;refine q _ _ [l] ((s1.trans s2).trans s3) (.lst cB (rr.same s3)) ⟨acV.mpr ⟨(λm=>by cases m),ac1⟩,λa m=>?_⟩;cases aa8.mp m;exact(s1.trans s2).free hl
   .rw[if_neg hc] at e3;cases e3
  |_=>cases e3
 |_=>cases d2<;>cases e3
noncomputable def zU:D->Option String
 |.int _=>some "int"
 |.bl _=>some "bool"
 |.str _=>some "str"
 |.aE=>some "NoneType"
 |.lst _=>some "list"
 |.bD _=>some "dict"
 |_=>none
noncomputable def gp(T:String)(d:D):Option D:=match zU d with
 |some t=>some (.bl (t==T||(t == "bool"&&T == "int")))
 |none=>none
def qe(T:String):Prop:=∀(K:PySem.W.Frag) (t:String),t∈["int","bool","str","NoneType","list","dict"]->PySem.W.kitOne K (.type t) (.type T)=some (t==T||(t == "bool"&&T == "int"))
theorem K9:qe "int":=by
 intro K t m;simp only[abh,ac4,aei] at m;rcases m with rfl|rfl|rfl|rfl|rfl|rfl<;>rfl
theorem OG:qe "bool":=by
 intro K t m;simp only[abh,ac4,aei] at m;rcases m with rfl|rfl|rfl|rfl|rfl|rfl<;>rfl
theorem Ly:qe "list":=by
 intro K t m;simp only[abh,ac4,aei] at m;rcases m with rfl|rfl|rfl|rfl|rfl|rfl<;>rfl
theorem Kh(T:String):fP X (.builtin "isinstance") (λxs H Q=>∃x t b,xs=[x,V.ty T]/\iR X.K H x t/\PySem.W.kitOne X.K t (.type T)=some b/\Q (.bl b) H):=by
 intro pins s σ H xs us Q I r h;obtain⟨x,t,bb,rfl,ty,e,q⟩:=h;obtain⟨u,w',rfl,ru,iF⟩:=vals2 r;cases iF;exact Q5 I ru ty e λtk=>⟨.bl bb,H,I.tok tk,rfl,q⟩
theorem Rep.ty{K:PySem.W.Frag}{t:String}(r:Rep K H d v fp)(e:zU d=some t):iR K H v (.type t)/\t∈["int","bool","str","NoneType","list","dict"]:=by
 cases r with
 |aE=>cases e;exact⟨.aE,by decide⟩
 |bl b=>cases e;exact⟨.bl b,by decide⟩
 |int i=>cases e;exact⟨.int i,by decide⟩
 |str x=>cases e;exact⟨.str x,by decide⟩
 |lst h _=>cases e;exact⟨.lst h,by decide⟩
 |bD h _ _=>cases e;exact⟨.dK h,by decide⟩
 |tup _ _=>cases e
 |pM _ _=>cases e
 |n5 _ _ _=>cases e
 |ins _ _ _ _=>cases e
 |exc _ _ _=>cases e
theorem oJ{T:String}{x:Str}(hT:qe T)(hm:X.mg "isinstance"=none)(CK:X.mg x=none)(ha:FP X a fa)(FH:bootBuiltins x=some (.type T):=by decide +kernel)(hg:Gl X "isinstance":=by rfl)(DA:Gl X x:=by rfl)(hn:x≠"__name__":=by decide)(e8:(x==("__debug__":Str))=false:=by decide)
  (hs:starEach [a,.Name x p2] X.env=[(false,eval a X.env),(false,eval (.Name x p2) X.env)]:=by rfl) (hpl:(backTo pos (starEach [.Name x p2] X.env)).any (·.1)=false:=by rfl):FP X (.Call (.Name "isinstance" p) [a,.Name x p2] [] pos) (e1 (gp T) fa):=by
 obtain⟨ta,pa,sa⟩:=ha;have cG:starEach [.Name x p2] X.env=[(false,eval (.Name x p2) X.env)]:=rfl;refine⟨_,q_ (Kh T) hg hm (show bootBuiltins "isinstance"=some (.builtin "isinstance") by decide +kernel) (c_ pa (c_ (J2 (v:=.ty T) DA CK FH rfl hn e8) fM) (by rw[hs,cG])) (he:=by rw[hs,cG]) (hpl:=hpl),λH0 S z held ρ σ H Q d tg ok e k=>?_⟩;obtain⟨d1,t1,h1,h2,rfl⟩:=qy e;refine sa H0 S z held ρ σ H _ d1 t1 ok h1 λH1 v fp s1 r1 _=>?_
 unfold gp at h2;cases ht:zU d1 with
 |none=>rw[ht] at h2;cases h2
 |some t=>
  rw[ht] at h2;cases h2;obtain⟨ty,mem⟩:=r1.ty ht;exact⟨v,_,_,rfl,ty,hT X.K t mem,k H1 _ [] s1 (.bl _) .nil⟩
end
end L2.Ev
namespace L2.Ev
open PySem
section
variable{ρ:aK}{fa fb fc:EF}{d d1 d2 d3:D}{t t1 t2 t3:Tag}{Mr:D->D->D->Option D}{tf tg:TF}
noncomputable def k3(op:D->D->D->Option D):Option (D×Tag)->Option (D×Tag)->Option (D×Tag)->Option (D×Tag)
 |some (d1,_),some (d2,_),some (d3,_)=>(op d1 d2 d3).map λd=>(d,.own)
 |_,_,_=>none
theorem CO:e3 Mr fa fb fc ρ=k3 Mr (fa ρ) (fb ρ) (fc ρ):=by unfold e3 k3;cases fa ρ<;>cases fb ρ<;>cases fc ρ<;>rfl
noncomputable def F4(fb:EF)(ρ:aK):Option (D×Tag)->Option (D×Tag)
 |some (.bl true,_)=>fb ρ
 |some (.bl false,_)=>some (.bl false,.own)
 |_=>none
theorem vg:lS fa fb ρ=F4 fb ρ (fa ρ):=by
 unfold lS F4;cases fa ρ with
 |none=>rfl
 |some w=>obtain⟨d,t⟩:=w;cases d<;>first|rfl|(rename_i b;cases b<;>rfl)
theorem uq:F4 fb ρ (some (.bl true,t))=fb ρ:=rfl
end
section
variable{g:GF}{t:Tag}{f:SF}
theorem pS(P:Nat->aK->Prop):∀{ds:List D}{ρ:aK}{n:Nat},P n ρ->(∀j ρ d,ds[j]? = some d->P (n+j) ρ->∃aG bS,g d t ρ=some aG/\(f aG=some (.nx bS)\/f aG=some (.ct bS))/\P (n+j+1) bS)->
  ∃au,cX g t f ds ρ=some (.nx au)/\P (n+ds.length) au
 |[],ρ,n,h,_=>⟨ρ,rfl,h⟩
 |d::ds,ρ,n,h,hs=>by
  obtain⟨aG,bS,h1,h2,h3⟩:=hs 0 ρ d rfl h;obtain⟨au,h4,h5⟩:=pS P h3 λj ρ d hd hp=>by
   have:=hs (j+1) ρ d hd (by rw[show n+(j+1)=n+1+j by omega];exact hp);rw[show n+(j+1)+1=n+1+j+1 by omega] at this;exact this
  refine⟨au,?_,by rw[acS,show n+(ds.length+1)=n+1+ds.length by omega];exact h5⟩;unfold cX;rw[h1];rcases h2 with h2|h2<;>(dsimp only;rw[h2];exact h4)
theorem AY(hi:it ρ=some (ds,t))(h:cX g (lT t) f ds (m5 (lQ (kF t) ρ) ρ)=some (.nx au)):cP it g f ρ=some (.nx (qC (lQ (kF t) ρ) au)):=by unfold cP;rw[hi];dsimp only;rw[h]
theorem Qc(hi:it ρ=some (ds,t))(h:cX g (lT t) f ds (m5 (lQ (kF t) ρ) ρ)=some (.rt r)):cP it g f ρ=some (.rt r):=by unfold cP;rw[hi];dsimp only;rw[h]
theorem xZ(hi:it ρ=some (ds,.own))(h:cX g (.sh []) f ds ρ=some (.nx au)):cP it g f ρ=some (.nx au):=AY hi h
theorem zQ(h:e ρ=some (.int n,t))(hs:small n=true):iJ e ρ=some ((List.range n.toNat).map λi:Nat=>D.int (0+(i:Int)),.own):=by unfold iJ;rw[h];dsimp only;rw[if_pos hs]
theorem yi(h:((List.range n).map λi:Nat=>D.int (0+(i:Int)))[j]? = some d):d=.int j/\j<n:=by
 rw[acX] at h;cases e:(List.range n)[j]? with
 |none=>rw[e] at h;cases h
 |some x=>
  rw[e] at h;obtain⟨hl,hx⟩:=acY.mp e;rw[List.getElem_range] at hx;rw[adm] at hl;subst hx;refine⟨?_,hl⟩;have:=aco h;rw[<- this];exact congrArg D.int (Int.zero_add _)
theorem rH(h:e ρ=some (.lst ds,t)):bh e ρ=some (ds,t):=by unfold bh;rw[h]
theorem mw{k:D->Option D}(hi:it ρ=some (ds,t))(hl:ds.length<sizeLine)(h:∀d∈ds,iK g tt te (jk js ρ) d=some (k d)):
  ck js it g tt te ρ=some (.lst (ds.filterMap k),.own):=by unfold ck;rw[hi];dsimp only;rw[if_pos hl,Li h];rfl
theorem wY(h1:g d (.sh []) ρ=some aG)(h2:tt aG=some false):iK g tt te ρ d=some none:=by unfold iK;rw[h1];dsimp only;rw[h2]
theorem lO(h1:g d (.sh []) ρ=some aG)(h2:tt aG=some true)(h3:te aG=some (e,.own)):iK g tt te ρ d=some (some e):=by unfold iK;rw[h1];dsimp only;rw[h2];dsimp only;rw[h3];rfl
theorem wG(h1:g d (.sh []) ρ=some aG)(h2:tt aG=some true)(h3:te aG=some (e,tg))(hi:aH e=true):iK g tt te ρ d=some (some e):=by
 unfold iK;rw[h1];dsimp only;rw[h2];dsimp only;rw[h3];dsimp only
 by_cases ho:kh tg=true
 .rw[if_pos ho]
 .rw[if_neg ho,if_pos hi]
end
noncomputable def kI(p:Int×Int):Key×D:=(Sum.inl p.1,.int p.2)
noncomputable def aP(es:List (Int×Int)):D:=.bD (es.map kI)
noncomputable def bM(es:List (Int×Int))(k:Int):Option Int:=(es.find? λp=>decide (p.1=k)).map (·.2)
noncomputable def fq(es:List (Int×Int))(k v:Int):List (Int×Int):=if(es.any λp=>decide (p.1=k))=true then es.map (λp=>if p.1=k then(p.1,v) else p) else es++[(k,v)]
theorem rN:((Sum.inl a:Key)=Sum.inl k)↔a=k:=⟨λh=>Sum.inl.inj h,λh=>by rw[h]⟩
theorem Jk(es:List (Int×Int))(k:Int):fu (es.map kI) (Sum.inl k:Key)=(bM es k).map D.int:=by
 unfold fu bM
 induction es with
 |nil=>rfl
 |cons p r ih=>
  rw[aaH,adL,adL]
  by_cases h:p.1=k
  .rw[ab5 (show(kI p).1=Sum.inl k from rN.mpr h),ab5 h];rfl
  .rw[ada (show ¬(kI p).1=Sum.inl k from λe=>h (rN.mp e)),ada h];exact ih
theorem HP(es:List (Int×Int))(k v:Int):putD (es.map kI) (Sum.inl k:Key) (.int v)=(fq es k v).map kI:=by
 unfold putD fq;have e:((es.map kI).any λkv=>decide (kv.1=(Sum.inl k:Key)))=es.any λp=>decide (p.1=k):=by
  rw[afx]
  congr 1
  funext p
  exact decide_eq_decide.mpr rN
 rw[e]
 by_cases h:(es.any λp=>decide (p.1=k))=true
 .rw[if_pos h,if_pos h,adS,adS]
  congr 1
  funext p
  show(if(kI p).1=Sum.inl k then((kI p).1,D.int v) else kI p)=kI (if p.1=k then(p.1,v) else p)
  by_cases hp:p.1=k
  .rw[if_pos hp,if_pos (show(kI p).1=Sum.inl k from rN.mpr hp)];rfl
  .rw[if_neg hp,if_neg (show ¬(kI p).1=Sum.inl k from λe=>hp (rN.mp e))]
 .rw[if_neg h,if_neg h,adG];rfl
theorem Fv:i_ (aP es) (.int k) (.int z)=some (.int ((bM es k).getD z)):=by
 show(match fu (es.map kI) (Sum.inl k:Key) with|some d=>if aH d=true then some d else none|none=>if aH (.int z)=true then some (.int z) else none)=_;rw[Jk];cases bM es k<;>rfl
theorem ab9(h:bM es k=some v):mq (aP es) (.int k)=some (.int v):=by
 show((fu (es.map kI) (Sum.inl k:Key)).bind λd=>if aH d=true then some d else none)=_;rw[Jk,h];rfl
theorem Il:∀es:List (Int×Int),jI (es.map kI)=some (es.map (·.1))
 |[]=>rfl
 |p::r=>by rw[aaH];show(jI (r.map kI)).map (p.1::·)=_;rw[Il r];rfl
theorem P9(h:es.length<4096):nR (aP es)=some (.lst ((ef (es.map (·.1))).map D.int)):=by
 show(match jI (es.map kI) with|some ns=>if ns.length<4096 then some (D.lst ((ef ns).map D.int)) else none|none=>none)=_;rw[Il];dsimp only;rw[if_pos (by rw[List.length_map];exact h)]
theorem GU:∀es:List (Int×Int),aN ((es.map kI).map (·.2))=true
 |[]=>rfl
 |p::r=>by rw[aaH,aaH];unfold aN;rw[GU r];rfl
theorem Rb:jd (aP es)=some (aP es):=by
 show(if aN ((es.map kI).map (·.2))=true then some (D.bD (es.map kI)) else none)=_;rw[if_pos (GU es)];rfl
theorem G7(h1:fv ρ=some (.int v,t1))(h2:ρ[i]? = some (some (aP es,.own)))(h3:fk ρ=some (.int k,t2))(hl:es.length<sizeLine):
  gk i fk fv ρ=some (.nx (cL ρ i (aP (fq es k v)))):=by
 unfold gk;rw[h1,h2,h3];unfold aP;dsimp only[iP];rw[if_pos (by rw[GU,List.length_map,ab5 hl];rfl),HP]
theorem FO(es:List (Int×Int))(k v j:Int):bM (fq es k v) j=if j=k then some v else bM es j:=by
 unfold fq
 by_cases h:(es.any λp=>decide (p.1=k))=true
 .rw[if_pos h];unfold bM
  induction es with
  |nil=>cases h
  |cons p r ih=>
   rw[aaH,adL,adL]
   by_cases hp:p.1=k
   .rw[if_pos hp];dsimp only
    by_cases hj:j=k
    .rw[ab5 (hp.trans hj.symm),if_pos hj];rfl
    .have ie:¬p.1=j:=λe=>hj (e.symm.trans hp)
     rw[ada ie,if_neg hj];dsimp only
     by_cases hr:(r.any λp=>decide (p.1=k))=true
     .rw[ih hr,if_neg hj]
     .congr 1
      have:r.map (λp=>if p.1=k then(p.1,v) else p)=r:=by
       conv=>rhs;rw[<- List.map_id r]
       refine List.map_congr_left λq m=>?_
       rw[if_neg λe=>hr (aeQ.mpr ⟨q,m,ab5 e⟩)];rfl
      rw[this]
   .rw[if_neg hp];have hr:(r.any λp=>decide (p.1=k))=true:=by
     rw[afc,ada hp] at h;exact h
    by_cases hj:p.1=j
    .rw[ab5 hj,if_neg λe=>hp (hj.trans e)]
    .rw[ada hj];exact ih hr
 .rw[if_neg h];unfold bM;rw[List.find?_append]
  by_cases hj:j=k
  .have:(es.find? λp=>decide (p.1=j))=none:=List.find?_eq_none.mpr λq m hq=>h (aeQ.mpr ⟨q,m,by rw[<- hj];exact hq⟩)
   rw[this,if_pos hj,hj];simp
  .rw[if_neg hj];have:([(k,v)].find? λp=>decide (p.1=j))=none:=List.find?_eq_none.mpr λq m hq=>hj (by cases aa8.mp m;exact(ac5 hq).symm)
   rw[this,Option.or_none]
theorem Kq(es:List (Int×Int))(k v:Int):(fq es k v).map (·.1)=if k∈es.map (·.1) then es.map (·.1) else es.map (·.1)++[k]:=by
 unfold fq
 by_cases h:(es.any λp=>decide (p.1=k))=true
 .have hm:k∈es.map (·.1):=by
   obtain⟨p,m,hp⟩:=aeQ.mp h;exact adi.mpr ⟨p,m,ac5 hp⟩
  rw[if_pos h,if_pos hm,adS];refine List.map_congr_left λp m=>?_
  show(if p.1=k then(p.1,v) else p).1=p.1
  split<;>rfl
 .have hm:k∉es.map (·.1):=λm=>by
   obtain⟨p,m,hp⟩:=adi.mp m;exact h (aeQ.mpr ⟨p,m,ab5 hp⟩)
  rw[if_neg h,if_neg hm,adG];rfl
theorem aaw(h:(es.map (·.1)).Nodup):((fq es k v).map (·.1)).Nodup:=by
 rw[Kq]
 by_cases hm:k∈es.map (·.1)
 .rw[if_pos hm];exact h
 .rw[if_neg hm];exact adv.mpr ⟨h,acV.mpr ⟨(λm=>by cases m),ac1⟩,λa ha b hb e=>hm (by cases aa8.mp hb;exact e ▸ ha)⟩
theorem yZ:(fq es k v).length<=es.length+1:=by
 have:=congrArg List.length (Kq es k v);rw[List.length_map] at this;rw[this]
 split
 .rw[List.length_map];omega
 .rw[acZ,List.length_map];exact abW _
theorem Hu:(∃v,bM es k=some v)↔k∈es.map (·.1):=by
 unfold bM;constructor
 .rintro⟨v,h⟩
  cases e:es.find? λp=>decide (p.1=k) with
  |none=>rw[e] at h;cases h
  |some p=>exact adi.mpr ⟨p,List.mem_of_find?_eq_some e,ac5 (List.find?_some e :)⟩
 .intro h;obtain⟨p,m,hp⟩:=adi.mp h;cases e:es.find? λp=>decide (p.1=k) with
  |none=>exact absurd (ab5 hp) (List.find?_eq_none.mp e p m)
  |some q=>exact⟨q.2,rfl⟩
noncomputable def jm(ps:List (Int×Int)):List (Int×Int):=ps.foldl (λm p=>fq m p.1 p.2) []
theorem foldI:∀(ps m:List (Int×Int)),(ps.map kI).foldl (λm p=>putD m p.1 p.2) (m.map kI)=(ps.foldl (λm p=>fq m p.1 p.2) m).map kI
 |[],_=>rfl
 |p::r,m=>by rw[aaH,ad5,ad5];show(r.map kI).foldl _ (putD (m.map kI) (Sum.inl p.1) (.int p.2))=_;rw[HP];exact foldI r _
noncomputable def dP(p:Int×Int):D:=.tup [.int p.1,.int p.2]
theorem I0:∀ps:List (Int×Int),jg (ps.map dP)=some (ps.map kI)
 |[]=>rfl
 |p::r=>by
  rw[aaH];show(match iP (.int p.1),jg (r.map dP) with|some k,some ps=>if aH (.int p.2)=true then some ((k,D.int p.2)::ps) else none|_,_=>none)=_;rw[I0 r];rfl
theorem U3:jd (.lst (ps.map dP))=some (aP (jm ps)):=by
 show(jg (ps.map dP)).map _=_;rw[I0];show some (D.bD ((ps.map kI).foldl (λm p=>putD m p.1 p.2) []))=_;rw[show([]:List (Key×D))=([]:List (Int×Int)).map kI from rfl,foldI];rfl
theorem abP(hn:(ps.map (·.1)).Nodup)(k:Int):bM (jm ps) k=bM ps k:=by
 have go:∀(ps m:List (Int×Int)),(ps.map (·.1)).Nodup->bM (ps.foldl (λm p=>fq m p.1 p.2) m) k=(bM ps k).or (bM m k):=by
  intro ps
  induction ps with
  |nil=>intro m _;rfl
  |cons p r ih=>
   intro m h;rw[aaH] at h;obtain⟨h1,h2⟩:=acV.mp h;rw[ad5,ih _ h2,FO]
   by_cases hk:k=p.1
   .have hr:bM r k=none:=by
     cases e:bM r k with
     |none=>rfl
     |some v=>exact absurd (Hu.mp ⟨v,e⟩) (hk ▸ h1)
    rw[hr,if_pos hk];unfold bM;rw[adL,ab5 hk.symm];rfl
   .rw[if_neg hk];have:bM (p::r) k=bM r k:=by unfold bM;rw[adL,ada λe=>hk e.symm]
    rw[this]
 unfold jm;rw[go ps [] hn];cases bM ps k<;>rfl
open PySem PySem.Spec PyProof.Rows
noncomputable def dQ(fa fb:EF):EF:=λρ=>match fa ρ,fb ρ with
 |some (.lst ds,.sh o),some (.int i,_)=>(cS ds i).map λd=>(d,.sh o)
 |_,_=>none
theorem QL(e:dQ fa fb ρ=some (d,tg)):∃ds o i t2,fa ρ=some (.lst ds,.sh o)/\fb ρ=some (.int i,t2)/\cS ds i=some d/\tg=.sh o:=by
 unfold dQ at e
 split at e
 .rename_i ds o i t2 h1 h2;cases h3:cS ds i with
  |none=>rw[h3] at e;cases e
  |some d3=>
   rw[h3] at e;cases e;exact⟨ds,o,i,t2,h1,h2,h3,rfl⟩
 .cases e
theorem mX{X:Cx}{fa fb:EF}{pos:Pos}(ha:FP X a fa)(hb:FP X b fb)(hs:uS b:=by exact λ_ _=>rfl):FP X (.Subscript a b pos) (dQ fa fb):=by
 obtain⟨ta,pa,sa⟩:=ha;obtain⟨tb,pb,sb⟩:=hb;refine⟨_,zg yV pa pb hs,λH0 S z held ρ σ H Q d tg ok e q=>?_⟩;obtain⟨ds,o,i,t2,e1,lq,e3,rfl⟩:=QL e;refine sa H0 S z held ρ σ H _ _ _ ok e1 λH1 x f1 s1 r1 g1=>?_
 refine sb H0 S z held ρ σ H1 _ _ t2 (ok.same s1) lq λH2 y f2 s2 r2 _=>?_
 have r1:=r1.same s2;obtain⟨p,xs,f,rfl,hq,rs,hf⟩:=r1.e7;cases r2;unfold cS at e3;cases h:ku ds.length i with
 |none=>rw[h] at e3;cases e3
 |some j=>
  rw[h,adk] at e3;obtain⟨v,f',hv,rv,hm⟩:=rs.get e3;refine .inl ⟨p,xs,i,v,rfl,rfl,hq,?_,q H2 v f' (s1.trans s2) rv λa m=>g1 a ?_⟩
  .unfold cS;rw[<- rs.length,h,adk];exact hv
  .exact hf a (hm a m)
theorem M5:qe "tuple":=by
 intro K t m;simp only[abh,ac4,aei] at m;rcases m with rfl|rfl|rfl|rfl|rfl|rfl<;>rfl
theorem Ni:qe "str":=by
 intro K t m;simp only[abh,ac4,aei] at m;rcases m with rfl|rfl|rfl|rfl|rfl|rfl<;>rfl
section
variable{X:Cx}{a b c:Expr}{fa fb:EF}{tc:TF}{pos:Pos}
noncomputable def Zz(i j:Int):Bool:=decide (0<=j)&&decide (j<=1000000)&&decide (i.natAbs<2 ^ 64)
noncomputable def f6:=wo Zz λi j=>i ^ j.toNat
theorem u_(ha:FP X a fa)(hb:FP X b fb):FP X (.BinOp a .Pow b pos) (e2 f6 fa fb):=qN Y6 (Ew λi j h=>by
 obtain⟨h,h3⟩:=(acr _ _).mp h;obtain⟨h1,h2⟩:=(acr _ _).mp h;exact⟨ac5 h1,ac5 h2,ac5 h3⟩) ha hb
noncomputable def jD(neg:Bool):D->D->Option D
 |.int i,.lst ds=>(dO ds).map λns=>.bl (if neg=true then !(ns.any (· == i)) else ns.any (· == i))
 |_,_=>none
theorem Tr(i:Int)(ns:List Int):xS (.int i) (ns.map V.int)=ns.any (· == i):=by
 unfold xS;rw[afx];rfl
theorem Tq(ns:List Int):(ns.map V.int).all m9=true:=by
 rw[List.all_map];exact aep.mpr λ_ _=>rfl
theorem Jo{K:PySem.W.Frag}:gZ K (AW K neg) (jD neg):=by
 intro H x y d1 d2 f1 f2 d Q r1 r2 e k;cases d1 with
 |int i=>
  cases d2 with
  |lst ds=>
   have e:((dO ds).map λns=>D.bl (if neg=true then !(ns.any (· == i)) else ns.any (· == i)))=some d:=e;cases h:dO ds with
   |none=>rw[h] at e;cases e
   |some ns=>
    rw[h] at e;cases e;obtain⟨p,xs,f,rfl,hq,rs,_⟩:=r2.e7;cases r1;have ex:=qu rs h;subst ex;refine⟨p,_,rfl,.inl hq,rfl,Tq ns,?_⟩;rw[Tr];exact k H _ (aL.refl H) (.bl _)
  |_=>cases e
 |_=>cases e
theorem abJ(ha:FP X a fa)(hb:FP X b fb)(hm:behindInMarks .NotIn b=false:=by rfl):FT X (.Compare a [.NotIn] [b] pos) (tV (e2 (jD true) fa fb)):=qc XI Jo ha hb hm
theorem Rc(ha:FP X a fa)(hb:FP X b fb)(hm:behindInMarks .In b=false:=by rfl):FP X (.Compare a [.In] [b] pos) (e2 (jD false) fa fb):=tR Y8 Jo ha hb hm
theorem JN{neg:Bool}{i:Int}{ns:List Int}:jD neg (.int i) (.lst (ns.map D.int))=some (.bl (if neg=true then !(ns.any (· == i)) else ns.any (· == i))):=by
 show((dO (ns.map D.int)).map _)=_;rw[uZ];rfl
noncomputable def n6(i:Nat)(fv:EF):SF:=λρ=>match fv ρ,ρ[i]? with
 |some (d,_),some (some (.lst ds,.own))=>if(aH d&&aN ds&&decide (ds.length<sizeLine))=true then some (.nx (cL ρ i (.lst (ds++[d])))) else none
 |_,_=>none
theorem IL(i:Nat){x:Str}(hv:FP X a fv)(hN:X.N[i]? = some x:=by rfl)(fY:gP X.env.scope x:=by first|exact Or.inl rfl|exact Or.inr (Or.inl rfl)|exact Or.inr (Or.inr rfl))
  (hd:(x==("__debug__":Str))=false:=by decide) (cQ:(x==("__classdict__":Str))=false:=by decide) (hs:starEach [a] X.env=[(false,eval a X.env)]:=by rfl)
  (iu:attributeBase (.Name x p1) "append" X.env (eval (.Name x p1) X.env)=eval (.Name x p1) X.env:=by rfl)
  (jK:((backTo p3 (starEach [a] X.env)).all (λx=>!x.1)&&(backToKw p3 (keywordEach [] X.env)).all (λx=>x.1.isSome)&&decide ([a].length+([]:List Keyword).length+(if([]:List Keyword).isEmpty then 0 else 1)<30))=true:=by rfl)
  (iD:(p2.endLine==p3.line)=true:=by rfl) (iE:swapsWith (.Call (.Attribute (.Name x p1) "append" p2) [a] [] p3) none pos.line X.env=pure false:=by rfl) :
  fJ X (.Expr (.Call (.Attribute (.Name x p1) "append" p2) [a] [] p3) pos) (n6 i fv):=by
 obtain⟨tv,mZ,sv⟩:=hv;refine⟨_,qR (zv PySem.F.plainAttrs_list PySem.F.slot_list_append PySem.F.type_list_append vE (gX hN fY hd cQ) (c_ mZ fM hs) iu jK iD hs rfl) iE,λH0 S z held ρ σ H E o ok e q=>?_⟩;unfold n6 at e
 split at e
 .rename_i d td ds g1 g2
  by_cases hc:(aH d&&aN ds&&decide (ds.length<sizeLine))=true
  .rw[if_pos hc] at e;cases e;obtain⟨c1,c3⟩:=(acr _ _).mp hc;obtain⟨c1,c2⟩:=(acr _ _).mp c1;obtain⟨xv,fp,bN,r,zz⟩:=ok.sl i _ _ g2;refine⟨xv,bN,?_⟩;obtain⟨l,xs,f,rfl,hq,_,_⟩:=r.e7;refine⟨.inl ⟨rfl,_,hq⟩,?_⟩;refine sv H0 S z held ρ σ H _ d td ok g1 λH1 v S4 s1 rv _=>?_
   have r':=r.same s1;have cC:=ok.same s1;generalize hw:(V.ref l)=w at r' bN;cases r' with
   | @lst a' ys _ f' h rs=>
    cases hw;have hn:=rs.aH c2;subst hn;have CU:=rv.aH c1;subst CU;refine⟨_,ys,v,rfl,rfl,h,by rw[<- rs.length];exact ac5 c3,?_⟩;have im:bW H1 (upd H1 l (.lst (ys++[v]))):=bW.upd h rfl;refine q z σ _ (Ok.vP cC g2 bN zz aaF h rfl (.lst cB ?_)) (.refl _ _);exact aA.append (rs.frame (λa m=>nomatch m) im) (aA.cons (f1:=[]) (f2:=[]) (rv.frame (λa m=>nomatch m) im) .nil)
  .rw[if_neg hc] at e;cases e
 .cases e
noncomputable def lP(i:Nat):SF:=λρ=>match ρ[i]? with
 |some (some (.lst ds,.own))=>if aN ds=true then some (.nx (cL ρ i (.lst []))) else none
 |_=>none
theorem Ju(i:Nat)(hN:X.N[i]? = some x:=by rfl)(fY:gP X.env.scope x:=by first|exact Or.inl rfl|exact Or.inr (Or.inl rfl)|exact Or.inr (Or.inr rfl))
  (hd:(x==("__debug__":Str))=false:=by decide) (cQ:(x==("__classdict__":Str))=false:=by decide)
  (iu:attributeBase (.Name x p1) "clear" X.env (eval (.Name x p1) X.env)=eval (.Name x p1) X.env:=by rfl)
  (iD:(p2.endLine==p3.line)=true:=by rfl) (iE:swapsWith (.Call (.Attribute (.Name x p1) "clear" p2) [] [] p3) none pos.line X.env=pure false:=by rfl) :
  fJ X (.Expr (.Call (.Attribute (.Name x p1) "clear" p2) [] [] p3) pos) (lP i):=by
 refine⟨_,qR (Kg PySem.F.plainAttrs_list PySem.F.slot_list_clear PySem.F.type_list_clear XO (gX hN fY hd cQ) iu iD) iE,λH0 S z held ρ σ H E o ok e q=>?_⟩;unfold lP at e
 split at e
 .rename_i ds g2
  by_cases hc:aN ds=true
  .rw[if_pos hc] at e;cases e;obtain⟨xv,fp,bN,r,zz⟩:=ok.sl i _ _ g2;refine⟨xv,bN,?_⟩;cases r with
   | @lst l ys _ f' h rs=>
    have hn:=rs.aH hc;subst hn;refine⟨.inl ⟨rfl,_,bQ.of h⟩,l,ys,rfl,rfl,h,?_⟩;exact q z σ _ (Ok.vP ok g2 bN zz aaF h rfl (.lst cB .nil)) (.refl _ _)
  .rw[if_neg hc] at e;cases e
 .cases e
noncomputable def cutD(ds:List D)(lo hi:Option Int):List D:=(ds.drop (HT.f_ ds.length 0 lo)).take (HT.f_ ds.length ds.length hi-HT.f_ ds.length 0 lo)
noncomputable def rB(lo hi:Option Int):D->Option D
 |.lst ds=>if aN ds=true then some (.lst (cutD ds lo hi)) else none
 |.iZ ds=>if aN ds=true then some (.lst (cutD ds lo hi)) else none
 |_=>none
theorem aA.ye{K:PySem.W.Frag}:∀{ds:List D}{xs:List V} (n:Nat),aA K H ds xs []->aA K H (ds.drop n) (xs.drop n) []
 |ds,xs,0,r=>r
 |[],_,n+1,r=>by cases r;exact .nil
 |d::ds,xs,n+1,r=>by
  generalize hf:([]:List Addr)=fp at r;cases r with
  | @cons _ _ _ _ f1 f2 r1 r2=>
   obtain⟨z1,z2⟩:=aes.mp hf.symm;subst z1 z2;exact aA.ye n r2
theorem aA.xm{K:PySem.W.Frag}:∀{ds:List D}{xs:List V} (n:Nat),aA K H ds xs []->aA K H (ds.take n) (xs.take n) []
 |ds,xs,0,r=>.nil
 |[],_,n+1,r=>by cases r;exact .nil
 |d::ds,xs,n+1,r=>by
  generalize hf:([]:List Addr)=fp at r;cases r with
  | @cons _ _ _ _ f1 f2 r1 r2=>
   obtain⟨z1,z2⟩:=aes.mp hf.symm;subst z1 z2;exact aA.cons (f1:=[]) (f2:=[]) r1 (aA.xm n r2)
def zk(X:Cx)(e:Option Expr)(v:Option Int):Prop:=∃t,PO X e t/\∀σ H Q,Q v H->t σ H Q
theorem M9:zk X none none:=⟨_,D8,λ_ _ _ q=>q⟩
theorem Ld{j p}:zk X (some (.Constant (.int i) j p)) (some i):=⟨_,Eh DK,λ_ _ _ q=>⟨i,rfl,q⟩⟩
theorem K7{lo hi:Option Expr}{l h:Option Int}{p2:Pos}(hl:zk X lo l)(hh:zk X hi h)(ha:FP X a fa):FP X (.Subscript a (.Slice lo hi none p2) pos) (e1 (rB l h) fa):=by
 obtain⟨t,p,q⟩:=ha;obtain⟨tl,pl,ql⟩:=hl;obtain⟨th,ph,qh⟩:=hh;refine⟨_,EX A9 p pl ph,λH0 S z held ρ σ H Q d tg ok e k=>?_⟩;obtain⟨d1,t1,g1,g2,rfl⟩:=qy e;refine q H0 S z held ρ σ H _ d1 t1 ok g1 λH1 x f1 s1 r1 _=>?_
 refine ql σ H1 _ (qh σ H1 _ ?_);have fin:∀{ds:List D}{xs:List V}{f:List Addr}{w:Addr},aA X.K H1 ds xs f->bQ X.K H1 w xs->(if aN ds=true then some (D.lst (cutD ds l h)) else none)=some d->JK X.K (.ref w) l h H1 Q:=λ{ds xs f w} rs hq e=>by
  by_cases hi:aN ds=true
  .rw[if_pos hi] at e;cases e;have hn:=rs.aH hi;subst hn;refine⟨w,xs,rfl,hq,λp hp=>?_⟩;have s2:aL H1 (upd H1 p (.lst (j8 xs l h))):=λb o e=>by rw[aY (dz e hp)];exact e
   have rr:aA X.K H1 (cutD ds l h) (j8 xs l h) []:=by
    unfold cutD j8;rw[rs.length];exact aA.xm _ (aA.ye _ rs)
   refine k _ _ [p] (s1.trans s2) (.lst cB (rr.same s2)) ⟨acV.mpr ⟨(λm=>by cases m),ac1⟩,λa m=>?_⟩;cases aa8.mp m;exact s1.free hp
  .rw[if_neg hi] at e;cases e
 cases d1 with
 |lst ds=>
  obtain⟨w,xs,f,rfl,hq,rs,_⟩:=r1.e7;exact fin rs hq g2
 |iZ ds=>
  obtain⟨w,xs,rfl,hq,rs⟩:=r1.sr;exact fin rs hq g2
 |_=>cases g2
end
end L2.Ev
namespace L2
open PySem PySem.Spec PyProof.Rows
namespace Rv
theorem slot_next:Slot "list_reverseiterator" "__next__" "list_reverseiterator.__next__":=.of (owner:="list_reverseiterator") (n:="__next__") (by rw[ad4,adw];kernel_rfl) (by decide +kernel) (by decide +kernel) (by decide +kernel) (by first|exact .inl (by decide +kernel)|exact .inr (by decide +kernel)) (by rw[aeE];kernel_rfl)
theorem MN:Slot "list_reverseiterator" "__iter__" "list_reverseiterator.__iter__":=.of (owner:="list_reverseiterator") (n:="__iter__") (by rw[ad4,adw];kernel_rfl) (by decide +kernel) (by decide +kernel) (by decide +kernel) (by first|exact .inl (by decide +kernel)|exact .inr (by decide +kernel)) (by rw[aeE];kernel_rfl)
theorem entry_next:entryFor table "list_reverseiterator.__next__"=some Builtin.«list_reverseiterator.__next__»:=entryFor_of_tree (by kernel_rfl)
theorem Rl:entryFor table "list_reverseiterator.__iter__"=some Builtin.«dict_keyiterator.__iter__»:=entryFor_alias (id':="dict_keyiterator.__iter__") (by kernel_rfl) rfl (by decide +kernel) (by kernel_rfl)
theorem args_next(a:Value):argsOk "list_reverseiterator.__next__" ⟨[a],[]⟩:=by unfold argsOk;kernel_rfl
theorem abK(a:Value):argsOk "list_reverseiterator.__iter__" ⟨[a],[]⟩:=by unfold argsOk;kernel_rfl
theorem QS:typeLookup (.type "list_reverseiterator") "__len__"=pure none:=by rw[ad4,adw];kernel_rfl
theorem Zx:typeLookup (.type "list_reverseiterator") "__length_hint__"=pure (some (.builtin "list_reverseiterator.__length_hint__")):=by rw[ad4,adw];kernel_rfl
noncomputable abbrev l_(h:Heap)(it l:Addr)(i:Int):Prop:=h.get? it=some { cls:=.type "list_reverseiterator",data:=.fields #[.ref l,rawInt i] }
section
variable{prog:Program}{w:World}{A:Around}{E:Value->Shared->Prop}{s:Shared}{it l:Addr}{items:Array Value}
theorem next_item{i:Nat}(h1:l_ s.heap it l i)(hl:s.heap.IsList l items)(hx:items[i]? = some x)
  (hQ:∀h',l_ h' it l ((i:Int)-1)->Heap.SameBut it s.heap h'->Q (some x) { s with heap:=h' }):wpAny (model prog w) A (pyNext (.ref it)) Q E s:=by
 obtain⟨ol,yN,_,nl,qY⟩:=hl;have ty:s.TypeIs (.ref it) "list_reverseiterator":=⟨_,h1,rfl⟩
 unfold pyNext;refine aaf (aeR (adB (name:=Str.ofString "__next__") ty slot_next (adI slot_next ty entry_next ?_ (args_next _))));show wpAny _ _ (field (.ref it) 1 >>= λv=>_) _ _ s;refine aaf (aek h1 rfl rfl ?_);show wpAny _ _ (if((i:Int)<0) then _ else _) _ _ s;rw[if_neg (by omega)];refine aaf (aek h1 rfl rfl ?_);refine aaf (adW yN qY ?_);simp only[aeu,hx];refine aaf (aeT h1 (by simp) λh' e1 sb=>aa1 ⟨x,rfl,aa1 (hQ h' ?_ sb)⟩);exact e1
theorem next_end(hh:A.handled=none)(h1:l_ s.heap it l (-1))(hQ:∀h',Heap.ExtBut it s.heap h'->Q none { s with heap:=h' }):wpAny (model prog w) A (pyNext (.ref it)) Q E s:=by
 have ty:s.TypeIs (.ref it) "list_reverseiterator":=⟨_,h1,rfl⟩
 unfold pyNext;refine aaf (aeR (adB (name:=Str.ofString "__next__") ty slot_next (adI slot_next ty entry_next ?_ (args_next _))));show wpAny _ _ (field (.ref it) 1 >>= λv=>_) _ _ s;refine aaf (aek h1 rfl rfl ?_);show wpAny _ _ (if((-1:Int)<0) then _ else _) _ _ s;rw[if_pos (by omega)];refine aaf (aee ?_);refine aaf ?_;unfold Builtin.SmallTypes.stopIteration;refine aaf ?_;unfold newExc newTuple;refine aaf (adq ?_ (by size_fits));refine aaf (afk (by first|(simp only[firstArgMember];rfl)|rfl) ?_);refine adq ?_ (by size_fits);unfold raiseNew;refine aaf (wpAny_handled ?_);have mY:=hh;rw[mY];refine aaf (aa1 (wpAny_throw ?_));refine aaf (aem (T:="StopIteration") ⟨_,abU _ rfl,rfl⟩ isSubtype_stop (aa1 (hQ _ ?_)));exact λb o _ e=>aaB _ (aaB _ e)
theorem walks(hh:A.handled=none)(ie:l≠it):Walks prog w A it [it,l] [it] items.size (λi v=>items[items.size-1-i]? = some v) (λi h=>l_ h it l ((items.size:Int)-1-(i:Nat))/\h.IsList l items) where
 sub:=λb hb=>by simp at hb;simp[hb]
 frame:=λ_ _ _ st hk=>⟨hk it (by simp) _ st.1,st.2.at λo e=>hk l (by simp) o e⟩
 item:=λi s Q E hi st hQ=>by
  have e1:l_ s.heap it l ((items.size-1-i:Nat):Int):=by
   have:=st.1;rw[show((items.size-1-i:Nat):Int)=(items.size:Int)-1-(i:Nat) by omega];exact this
  have hx:items[items.size-1-i]? = some items[items.size-1-i]:=by simp
  refine next_item e1 st.2 hx λh' r' sb=>hQ _ h' s.toks hx ⟨?_,st.2.extBut sb.extBut ie⟩ λb o hb e=>sb.extBut b o (λz=>hb (by simp[z])) e
  have:=r';rw[show((items.size-1-i:Nat):Int)-1=(items.size:Int)-1-((i+1:Nat):Int) by omega] at this;exact this
 done:=λs Q E st hQ=>by
  have e1:l_ s.heap it l (-1):=by
   have:=st.1;rw[show(items.size:Int)-1-((items.size:Nat):Int)=-1 by omega] at this;exact this
  exact next_end hh e1 λh' eb=>hQ h' s.toks λb o hb e=>eb b o (λz=>hb (by simp[z])) e
 self:=λi s Q E st hQ=>by
  have ty:s.TypeIs (.ref it) "list_reverseiterator":=⟨_,st.1,rfl⟩
  refine wpAny_pyIter_slot ty MN (adI MN ty Rl ?_ (abK _));exact aa1 ⟨_,rfl,"list_reverseiterator",_,ty,slot_next.lookup,hQ⟩
theorem hint{Q:Bool->Shared->Prop}(h1:l_ s.heap it l i)(h:Q false s):wpAny (model prog w) A (Builtin.List.listLengthHint (.ref it)) Q E s:=by
 have ty:s.TypeIs (.ref it) "list_reverseiterator":=⟨_,h1,rfl⟩
 unfold Builtin.List.listLengthHint;refine aaf (ae6 ty QS ?_);refine aaf (ae6 ty Zx ?_);generalize k9:("list_reverseiterator.__length_hint__":String)=oO
 (fail_if_success (clear k9 oO))
 wp_delta
 rw[show splitId oO=some ("list_reverseiterator","__length_hint__") from by subst k9;decide +kernel];subst k9;refine aaf (aem (b:=true) ty (by rw[aeE];kernel_rfl) ?_);refine aeK (λz=>absurd z (by decide)) λ_=>?_
 refine aeK (λ_=>?_) λz=>absurd (by decide +kernel) z
 exact aeK (λz=>absurd z (by decide +kernel)) λ_=>aa1 h
theorem extend{R:Result->Shared->Prop}(hh:A.handled=none)(h1:l_ s.heap it l ((items.size:Int)-1))(hl:s.heap.IsList l items)(ie:l≠it)(hz:items.size<=sizeLine)(S:Addr)(WX:S≠l)(Nm:S≠it)(res:Value)(c₀:Nat)(hS:s.heap.get? S=some { cls:=.type "list",data:=.seq #[] c₀ })
  (hR:∀h' tk iC c',(∀b o,b≠S->b≠it->s.heap.get? b=some o->h'.get? b=some o)->h'.get? S=some { cls:=.type "list",dict:=none,data:=.seq iC c',slots:=#[] }->ItemsOf (λi v=>items[items.size-1-i]? = some v) iC items.size->R (.ok (.ret res)) { s with heap:=h',toks:=tk }) :
  wpAny (model prog w) A.in1 (Builtin.List.listExtendWith (.ref S) (.ref it) res) (λfin s'=>match fin with|.done f=>R (.ok f) s'|.again c'=>c'.quiet=true/\codeAny (model prog w) A c' R s') (λe s'=>R (.error e) s') s:=by
 have ty:s.TypeIs (.ref it) "list_reverseiterator":=⟨_,h1,rfl⟩
 have W:=walks (prog:=prog) (w:=w) (A:=A.in1) (items:=items) hh ie;have st:l_ s.heap it l ((items.size:Int)-1-((0:Nat):Int))/\s.heap.IsList l items:=⟨by simpa using h1,hl⟩
 unfold Builtin.List.listExtendWith;refine aaf (afm ty ?_);have q1:Builtin.List.listSameRef (.ref S) (.ref it)=false:=by simp[Builtin.List.listSameRef,Nm]
 have q2:(Value.type "list_reverseiterator" == Value.type "list")=false:=by decide
 have q3:(Value.type "list_reverseiterator" == Value.type "tuple")=false:=by decide
 simp only[q1,q2,q3,Bool.or_self,adM,afb];refine aaf (W.self 0 s _ _ st ?_);refine aaf (aea (hint h1 ?_));refine aeK (λz=>absurd z (by decide +kernel)) λ_=>aa1 ⟨aec F.plain_extend_loop _,?_⟩
 refine codeAny_extend_loopS W.toS hz S (λm=>?_) res items.size 0 s #[] c₀ rfl (aed _) st hS (ItemsOf.nil _) λs' iC c' hm gG jL=>?_
 .rcases abh.mp m with z|z
  .exact Nm z
  .exact WX (aa8.mp z)
 .rw[Moved.eq_with hm];refine hR s'.heap s'.toks iC c' (λb o hb hi e=>hm.heap b o (λz=>?_) e) gG jL;rcases abh.mp z with z|z
  .exact hb z
  .exact hi (aa8.mp z)
theorem abl(hh:A.handled=none)(h1:l_ s.heap it l ((items.size:Int)-1))(hl:s.heap.IsList l items)(ie:l≠it)(hz:items.size<=sizeLine)
  (hQ:∀h' tk iC c',(∀b o,b≠it->s.heap.get? b=some o->h'.get? b=some o)->h'.get? s.heap.objs.size=some { cls:=.type "list",dict:=none,data:=.seq iC c',slots:=#[] }->ItemsOf (λi v=>items[items.size-1-i]? = some v) iC items.size->Q (.ref s.heap.objs.size) { s with heap:=h',toks:=tk }) :
  wpAny (model prog w) A (call (.type "list") [.ref it]) Q E s:=by
 have li:=abD h1;have ll:=let⟨o,e,_⟩:=hl;abD e
 refine callType_codes (Q₁:=λobj bu=>obj=.ref s.heap.objs.size/\bu={ s with heap:=s.heap.push { cls:=.type "list",data:=.seq #[] } }) F.called_list (F.typeCall_list_1 _) F.entry_list_init (code_list_new _ ⟨rfl,rfl⟩) λobj bu g=>?_
 obtain⟨rfl,rfl⟩:=g;have hS:(s.heap.push { cls:=.type "list",data:=.seq #[] }).get? s.heap.objs.size=some { cls:=.type "list",data:=.seq #[] }:=abU _ rfl;refine⟨⟨_,hS,rfl⟩,F.args_list_init_2 _ _,?_⟩;refine aaf ?_;unfold Builtin.List.listItems;refine aaf (adW hS rfl (aa1 ?_));refine aaf ?_;refine aeJ hS rfl ?_;have ab0:=ado (Obj.mapSeq (λ_=>(#[]:Array Value))) hS rfl;have old:∀b o,s.heap.get? b=some o->((s.heap.push { cls:=.type "list",data:=.seq #[] }).update s.heap.objs.size (Obj.mapSeq (λ_=>(#[]:Array Value)))).get? b=some o:=λb o e=>
  (ac9 _ _ (adY (abD e))).trans (aaB _ e)
 refine aaf (afv ?_);refine extend (A:=A.in1) hh (old _ _ h1) (hl.at λo e=>old _ _ e) ie hz _ (adY ll) (adY li) .none _ ab0 λh' tk iC c' hk gG jL=>?_
 exact⟨rfl,hQ h' tk iC c' (λb o hb e=>hk b o (acU (abD e)) hb (old b o e)) gG jL⟩
end
end Rv
namespace Rv
theorem KS:isSubtype (.type "reversed") (.type "reversed")=pure true:=by rw[aeE];kernel_rfl
theorem aaV:typeLookup (.type "list") "__reversed__"=pure (some (.builtin "list.__reversed__")):=by rw[ad4,adw];kernel_rfl
theorem Wb(l:Addr)(items:Array Value)(n:Nat):Meets (Builtin.«reversed.__new__» ⟨[.type "reversed",.ref l],[]⟩) (λ_ R s=>s.heap.get? l=some { cls:=.type "list",data:=.seq items n }/\
  R (.ok (.ret (.ref s.heap.objs.size))) { s with heap:=s.heap.push { cls:=.type "list_reverseiterator",data:=.fields #[.ref l,rawInt ((items.size:Int)-1)] } }):=.of_wp λprog w A R s h=>by
 obtain⟨hp,g,d,tk,os⟩:=s;obtain⟨hl,h⟩:=h;have nX:=KS;have ty:Shared.TypeIs ⟨hp,g,d,tk,os⟩ (.ref l) "list":=⟨_,hl,rfl⟩
 wp_walk using ae6 ty aaV
 refine afk (F.slot_list_reversed.bind (.ref l)) ?_;refine aeK (λz=>absurd z (by decide)) λ_=>?_
 refine aaf (aee ?_);refine aaf (afr F.slot_list_reversed ty F.entry_list_reversed (F.args_list_reversed_1 _) (AutoListH.list___reversed___list_0 l items n) ⟨hl,?_⟩);exact aa1 ⟨_,rfl,h⟩
theorem Mj:mroOf (.type "reversed")=pure [.type "reversed",.type "object"]:=by rw[mroOf_type];kernel_rfl
theorem RA:typeLookup (.type "reversed") "__new__"=pure (some (.builtin "reversed.__new__")):=by rw[ad4,adw];kernel_rfl
theorem Yn:Bind.madeBy (.type "reversed")=pure (some "reversed.__new__"):=madeBy_type Mj RA (by decide +kernel)
theorem aaj:entryFor table "reversed.__new__"=some Builtin.«reversed.__new__»:=entryFor_of_tree (by kernel_rfl)
theorem acu(a:Value):checkTypeCall "reversed" ⟨[a],[]⟩=pure ():=by kernel_rfl
theorem R_(a:Value):checkBuiltinCall "reversed.__new__" ⟨[.type "reversed",a],[]⟩=pure ():=by kernel_rfl
theorem N3:isSubtype (.type "list_reverseiterator") (.type "reversed")=pure false:=by rw[aeE];kernel_rfl
section
variable{prog:Program}{w:World}{A:Around}{E:Value->Shared->Prop}{s:Shared}{l:Addr}{items:Array Value}{n:Nat}
theorem Xy(hl:s.heap.get? l=some { cls:=.type "list",data:=.seq items n })
  (hQ:Q (.ref s.heap.objs.size) { s with heap:=s.heap.push { cls:=.type "list_reverseiterator",data:=.fields #[.ref l,rawInt ((items.size:Int)-1)] } }):wpAny (model prog w) A (call (.type "reversed") [.ref l]) Q E s:=by
 have ace:=Mj;have RL:=Yn;have nX:=KS;have CQ:=N3;have Wn:=acu (.ref l);refine wpAny_call (codeAny_of_tree ?_);refine aa1 ⟨Code.quiet_builtin _ (by decide +kernel),adK F.entry_type_call ?_⟩;rw[Around.under_plain (weight_type_call_type "reversed" [.ref l] []) rfl];have g1:(Value.type "reversed" == Value.type "type")=false:=by decide +kernel
 have g2:((Manifest.find? "reversed").bind (·.mro.findSome? λt=>(Manifest.find? t).bind λb=>if b.noNew then some true else if b.attrs.any (·.1 == "__new__") then some false else none)).getD false=false:=by decide +kernel
 repeat (any_goals (first|assumption|wp_step))
 have hn:codeAny (model prog w) A.in1 (.call (.builtin "reversed.__new__") ⟨[.type "reversed",.ref l],[]⟩) (λr s'=>r=.ok (.ret (.ref s.heap.objs.size))/\s'={ s with heap:=s.heap.push { cls:=.type "list_reverseiterator",data:=.fields #[.ref l,rawInt ((items.size:Int)-1)] } }) s:=
  codeAny_call_builtin (by decide +kernel) aaj (afk (R_ (.ref l)) (Wb l items n prog w A.in1 (λr s'=>r=.ok (.ret (.ref s.heap.objs.size))/\s'={ s with heap:=s.heap.push { cls:=.type "list_reverseiterator",data:=.fields #[.ref l,rawInt ((items.size:Int)-1)] } }) s ⟨hl,rfl,rfl⟩))
 refine afl hn λr bu hr=>?_
 obtain⟨rfl,rfl⟩:=hr;have ty:Shared.TypeIs { s with heap:=s.heap.push { cls:=.type "list_reverseiterator",data:=.fields #[.ref l,rawInt ((items.size:Int)-1)] } } (.ref s.heap.objs.size) "list_reverseiterator":=⟨_,abU _ rfl,rfl⟩
 refine aaf (aem ty N3 ?_);refine aeK (λ_=>?_) λz=>absurd rfl z
 refine aaf (aee ?_);exact aa1 hQ
end
end Rv
section
variable{X:Cx}{a:Expr}{ta:TE}{p1 p2 p3 pos:Pos}
def Se(ta:TE):TE:=λσ H Q=>ta σ H λx H1=>∃p xs,x=.ref p/\H1 p=some (.lst xs)/\∀l,H1 l=none->Q (.ref l) (upd H1 l (.lst xs.reverse))
theorem T6(hv:aS xs aq)(h:ItemsOf (λi v=>aq.toArray[aq.toArray.size-1-i]? = some v) acc aq.toArray.size):aS xs.reverse acc.toList:=by
 have e:acc.toList=aq.reverse:=by
  have h1:acc.size=aq.length:=by have:=h.1;simpa using this
  have h2:=h.2;refine afu λi=>?_
  by_cases hi:i<aq.length
  .have hs:acc[i]? = some (acc[i]'(by omega)):=by simp
   have:=h2 i _ hs;dsimp only at this;rw[ack,ae7] at this;rw[List.getElem?_reverse hi,this,ad2,hs]
  .rw[aeh (by rw[acg];omega),aeh (by rw[List.length_reverse];omega)]
 rw[e];exact hv.reverse
theorem Inv.Br{ch:List Addr}{o:HO}(I:Inv X pins σ H s)(hf:∀b∈ch,iX X pins H b)(k:∀b o,b∉ch->s.heap.get? b=some o->h'.get? b=some o)
  (hT:s.heap.objs.size<=T) (new:cV X.prog X.w (upd H T o) h' T o):Inv X pins σ (upd H T o) { s with heap:=h',toks:=t' }:=by
 have nT:=I.aI.fresh hT;have ki:∀b u,H b=some u->b∉ch:=λb u e m=>by rw[(hf b m).1] at e;cases e
 refine I.step (g':=s.gens) (d':=s.drawn) (ch:=ch) (λb m=>⟨(hf b m).2.2.2.1,(hf b m).2.1,(hf b m).2.2.2.2.1,(hf b m).2.2.2.2.2⟩) (λb o _ _ m e _=>k b o m e) (λb o _ _ m e _=>⟨o.slots,k b o m e⟩)
  (λb o _ e n=>by rw[aY (acU (adl (abD e) hT))];exact n) (λb o m e=>⟨o,k b o m e⟩) (λb xs e=>by rw[aY (dz e nT)];exact e) (λb o u e=>by rw[aY (dz e nT)];exact e)
  (λb ps e=>⟨#[],by rw[aY (dz e nT),e];simp⟩) (λm hm=>?_) (λb u e=>?_) I.bare
 .obtain⟨o,es,ep,ho,r⟩:=hm;exact⟨o,es,ep,k _ o (λm=>(hf _ m).2.1 rfl) ho,r⟩
 .by_cases hb:b=T
  .subst hb;rw[cB] at e;cases e;exact new
  .rw[aY hb] at e;refine(I.aI b u e).kH (λc v hc q=>k c v ?_ q) (λc q=>by rw[aY (dz q nT)];exact q) λc xs q=>by rw[aY (dz q nT)];exact q
   rcases hc with z|z
   .rw[z];exact ki b u e
   .exact ki c _ z
theorem Inv.BS{ch:List Addr}(I:Inv X pins σ H s)(hf:∀b∈ch,iX X pins H b)(k:∀b o,b∉ch->s.heap.get? b=some o->h'.get? b=some o):Inv X pins σ H { s with heap:=h',toks:=t' }:=by
 have ki:∀b u,H b=some u->b∉ch:=λb u e m=>by rw[(hf b m).1] at e;cases e
 refine I.step (g':=s.gens) (d':=s.drawn) (ch:=ch) (λb m=>⟨(hf b m).2.2.2.1,(hf b m).2.1,(hf b m).2.2.2.2.1,(hf b m).2.2.2.2.2⟩) (λb o _ _ m e _=>k b o m e) (λb o _ _ m e _=>⟨o.slots,k b o m e⟩)
  (λb o _ e n=>n) (λb o m e=>⟨o,k b o m e⟩) (λb xs e=>e) (λb o u e=>e) (λb ps e=>⟨#[],by rw[e];simp⟩) (λm hm=>?_) (λb u e=>?_) I.bare
 .obtain⟨o,es,ep,ho,r⟩:=hm;exact⟨o,es,ep,k _ o (λm=>(hf _ m).2.1 rfl) ho,r⟩
 .refine(I.aI b u e).kH (λc v hc q=>k c v ?_ q) (λc q=>q) λc xs q=>q
  rcases hc with z|z
  .rw[z];exact ki b u e
  .exact ki c _ z
theorem VO(hc:X.calm=true)(hm:X.mg "list"=none)(gQ:X.mg "reversed"=none)(ha:PE X a ta)(hg:Gl X "list":=by rfl)(ng:Gl X "reversed":=by rfl)(hs:starEach [a] X.env=[(false,eval a X.env)]:=by rfl)
  (cG:starEach [.Call (.Name "reversed" p2) [a] [] p3] X.env=[(false,eval (.Call (.Name "reversed" p2) [a] [] p3) X.env)]:=by rfl):PE X (.Call (.Name "list" p1) [.Call (.Name "reversed" p2) [a] [] p3] [] pos) (Se ta):=by
 intro pins s σ H Q I h;refine ael (lK I hg hm (show bootBuiltins "list"=some (.type "list") by decide +kernel) ?_);refine adR ?_ cG rfl;rw[cG];refine aeS ?_;refine ael (lK I ng gQ boot_reversed ?_);refine adR ?_ hs rfl;rw[hs];refine aeS (aQ (ha pins s σ H _ I h) λu s1 ⟨x,H1,I1,r1,q1⟩=>?_);refine ae9 ?_;obtain⟨p,xs,rfl,hp,q⟩:=q1;cases r1;obtain⟨z,aq,n,hv,hl,e⟩:=I1.nv hp;refine Rv.Xy e ?_;refine ae9 ?_;have lp:=abD e;have I2:Inv X pins σ H1 { s1 with heap:=s1.heap.push { cls:=.type "list_reverseiterator",data:=.fields #[.ref p,rawInt ((aq.toArray.size:Int)-1)] } }:=I1.kept λb o e=>aaB _ e
 refine Rv.abl (items:=aq.toArray) (I2.ok.hd hc) (abU _ rfl) ⟨_,aaB _ e,rfl,_,rfl⟩ (acU lp) (by rw[ack];omega) λh' tk iC c' hk gG jL=>?_
 have f:=I1.se (H':=H1) (abW _) (I1.aI.fresh (abW _));refine⟨.ref _,_,I2.Br (ch:=[s1.heap.objs.size]) (λb m=>by rw[aa8.mp m];exact f) (λb o m e=>hk b o (λz=>m (by rw[z];exact aa8.mpr rfl)) e) (abW _) (show cV X.prog X.w _ h' _ (.lst xs.reverse) from⟨by rw[List.length_reverse];exact z,iC.toList,c',T6 hv jL,by simpa using gG⟩),rfl,q _ (I2.aI.fresh (abW _))⟩
end
noncomputable def BD(K:PySem.W.Frag)(l1 l2:Addr):It:=
  ⟨λi H=>∃xs ys x y,bQ K H l1 xs/\bQ K H l2 ys/\xs[i]? = some x/\ys[i]? = some y,
   λi H v H'=>∃T a b,H T=none/\v=.ref T/\H'=upd H T (.tup [a,b])/\(∀xs,bQ K H l1 xs->xs[i]? = some a)/\∀ys,bQ K H l2 ys->ys[i]? = some b,
   λi H=>∃xs ys,bQ K H l1 xs/\bQ K H l2 ys/\(xs.length<=i\/ys.length<=i),false⟩
def Sj(z TI TO i1 i2 l1 l2:Addr)(i:Nat)(h:Heap):Prop:=IsZip h z TI TO .none/\IsPair h TI (.ref i1) (.ref i2)/\(∃a b,IsPair h TO a b)/\h.IsListIter i1 l1 i/\h.IsListIter i2 l2 i
theorem Xk{w:World}{K:PySem.W.Frag}{x1}{z TI TO i1 i2 l1 l2:Addr}(D:ZipApart z TI TO i1 i2 l1 l2):
  Turn P w K (.Tuple elts x1 pos) (BD K l1 l2) [z,TI,TO,i1,i2] z (Sj z TI TO i1 i2 l1 l2) where
 mem:=by simp
 obj:=λi h st b hb=>by
  obtain⟨s1,s2,⟨a,b',s3⟩,⟨o4,e4,c4,d4⟩,⟨o5,e5,c5,d5⟩⟩:=st;simp only[abh,ac4,aei] at hb;rcases hb with rfl|rfl|rfl|rfl|rfl
  .exact⟨_,s1,λv q=>by cases q⟩
  .exact⟨_,s2,λv q=>by cases q⟩
  .exact⟨_,s3,λv q=>by cases q⟩
  .exact⟨o4,e4,λv q=>by rw[d4] at q;cases q⟩
  .exact⟨o5,e5,λv q=>by rw[d5] at q;cases q⟩
 keep:=λi h h' st k=>by
  obtain⟨s1,s2,⟨a,b',s3⟩,s4,s5⟩:=st;exact⟨k _ (by simp) _ s1,k _ (by simp) _ s2,⟨a,b',k _ (by simp) _ s3⟩,s4.at λo e=>k _ (by simp) o e,s5.at λo e=>k _ (by simp) o e⟩
 item:=by
  intro X hP hw hK hc i pins s σ H E I hf st hg;subst hP hw hK;obtain⟨s1,s2,⟨a,b',s3⟩,s4,s5⟩:=st;obtain⟨xs,ys,x,y,q1,q2,e1,e2⟩:=hg;obtain⟨us,v1,p1,z1⟩:=I.list q1;obtain⟨ws,v2,p2,z2⟩:=I.list q2;obtain⟨u,hu,ru⟩:=v1.get e1;obtain⟨t,ht,rt⟩:=v2.get e2;refine wpAny_pyNext_zip_item D s1 s2 s3 s4 s5 p1.isList p2.isList (by simpa using hu) (by simpa using ht) λh' a1 a2 a3 a4 a5 a6 a7=>⟨_,rfl,?_⟩
  refine wpAny_letOwnedTupleGo_zip a1 λnI b1 b2=>?_
  have lz:=abD s1;have nz:=adY lz;have T2:IsPair nI s.heap.objs.size u t:=b2.extBut _ _ nz a5;have nT:H s.heap.objs.size=none:=I.aI.fresh (abW _);have I1:Inv X pins σ (upd H s.heap.objs.size (.tup [x,y])) { s with heap:=nI }:=I.Br (ch:=[z,TO,i1,i2]) (λb m=>hf b (by
    simp only[abh,ac4,aei] at m ⊢;rcases m with rfl|rfl|rfl|rfl<;>simp)) (λb o m e=>by
    simp only[abh,ac4,aei,not_or] at m;exact b2.extBut _ _ m.1 (a7 b o m.1 m.2.1 m.2.2.1 m.2.2.2 e)) (abW _) (show cV X.prog X.w _ nI _ (.tup [x,y]) from⟨show 2<=sizeLine by unfold sizeLine;omega,[u,t],.cons ru (.cons rt .nil),⟨_,T2,rfl,rfl,_,rfl⟩⟩)
  refine⟨.ref s.heap.objs.size,_,I1,rfl,⟨_,x,y,nT,rfl,rfl,λSw h=>by rw[I.Ex h q1];exact e1,λXs h=>by rw[I.Ex h q2];exact e2⟩,?_,λb m=>?_⟩
  .have up:∀c o,c≠z->h'.get? c=some o->nI.get? c=some o:=λc o n e=>b2.extBut _ _ n e
   exact⟨b1,up _ _ D.TIz (a7 TI _ D.TIz D.TITO D.TIi1 D.TIi2 s2),⟨u,t,up _ _ D.TOz a2⟩,a3.at λo e=>up _ o D.i1z e,a4.at λo e=>up _ o D.i2z e⟩
  .rw[aY]
   .exact(hf b m).1
   .rintro rfl
    obtain⟨o4,e4,_⟩:=id s4;obtain⟨o5,e5,_⟩:=id s5;simp only[abh,ac4,aei] at m;rcases m with m|m|m|m|m
    .exact nz m
    .exact absurd (abD s2) (by rw[<- m];exact adx _)
    .exact absurd (abD s3) (by rw[<- m];exact adx _)
    .exact absurd (abD e4) (by rw[<- m];exact adx _)
    .exact absurd (abD e5) (by rw[<- m];exact adx _)
 done:=by
  intro X hP hw hK hc i pins s σ H E I hf st hg;subst hP hw hK;obtain⟨s1,s2,⟨a,b',s3⟩,s4,s5⟩:=st;obtain⟨xs,ys,q1,q2,e⟩:=hg;obtain⟨us,v1,p1,z1⟩:=I.list q1;obtain⟨ws,v2,p2,z2⟩:=I.list q2;have l1:=v1.length;have l2:=v2.length;refine wpAny_pyNext_zip_end (I.ok.hd (hc.resolve_right λz=>ab3 z)) D s1 s2 s3 s4 s5 p1.isList p2.isList (e.imp (λe=>by simp;omega) λe=>by simp;omega) λh' k=>⟨rfl,I.BS (ch:=[z,TO,i1,i2]) (λb m=>hf b (by
    simp only[abh,ac4,aei] at m ⊢;rcases m with rfl|rfl|rfl|rfl<;>simp)) λb o m e=>?_⟩
  simp only[abh,ac4,aei,not_or] at m;exact k b o m.1 m.2.1 m.2.2.1 m.2.2.2 e
 self:=λ_ _ _ _ _ st h=>wpAny_pyIter_zip st.1 h
section
variable{X:Cx}{elts:List Expr}{tp:Pos}{a b:Expr}{ta:TA}{p pos:Pos}
def Wk(K:PySem.W.Frag)(ta:TA):TI:=λσ H R=>ta σ H λvs H1=>∃l1 l2 xs ys,vs=[.ref l1,.ref l2]/\bQ K H1 l1 xs/\bQ K H1 l2 ys/\R (BD K l1 l2) H1
theorem Ql{x1}(hg:Gl X "zip")(hm:X.mg "zip"=none)(ha:PA X [a,b] ta)(hs:starEach [a,b] X.env=[(false,eval a X.env),(false,eval b X.env)]:=by rfl)(cG:starEach [b] X.env=[(false,eval b X.env)]:=by rfl):
  PI X (.Tuple elts x1 tp) (.Call (.Name "zip" p) [a,b] [] pos) (Wk X.K ta):=by
 intro pins s σ H R I h;refine ael (lK I hg hm boot_zip (adR (aQ (ha pos pins s σ H _ I h) λus s1 ⟨vs,H1,I1,r1,q1⟩=>?_) (by rw[hs,cG]) (by rw[cG];rfl)));obtain⟨l1,l2,xs,ys,rfl,h1,h2,q⟩:=q1;obtain⟨u,v,rfl,ru,rv⟩:=vals2 r1;cases ru;cases rv;obtain⟨us,v1,p1,z1⟩:=I1.list h1;obtain⟨ws,v2,p2,z2⟩:=I1.list h2;have b1:=let⟨o,n,e,_⟩:=p1;abD e
 have b2:l2<s1.heap.objs.size:=let⟨o,n,e,_⟩:=p2;abD e
 refine call_zip_2 p1.isList p2.isList λh' g1 g2 g3 g4 g5 g6 k=>?_
 refine wpAny_pyIter_zip g1 ?_;refine⟨_,_,_,_,H1,rfl,I1.kept k,Xk (zipApart_new b1 b2),⟨g1,g2,⟨_,_,g3⟩,g4,g5⟩,λc hc=>?_,q⟩;have up:∀j,iX X pins H1 (s1.heap.objs.size+j):=λj=>I1.se (Nat.le_add_right _ _) (I1.aI.fresh (Nat.le_add_right _ _))
 simp only[abh,ac4,aei] at hc;rcases hc with rfl|rfl|rfl|rfl|rfl
 .exact up 4
 .exact up 2
 .exact up 3
 .exact up 0
 .exact up 1
end
end L2
namespace L2.Ev
open PySem PySem.Spec PyProof.Rows
section
variable{X:Cx}{elts:List Expr}{tp:Pos}{a b:Expr}{fa fb:EF}{p pos:Pos}
noncomputable def wQ(fa fb:EF):IF:=λρ=>match fa ρ,fb ρ with
 |some (.lst ds,t1),some (.lst es,t2)=>if(aN ds&&aN es)=true then some ((ds.zip es).map λp=>.tup [p.1,p.2],iN [(.lst ds,t1),(.lst es,t2)]) else none
 |_,_=>none
theorem aA.N_{K:PySem.W.Frag}{i:Nat}(r:aA K H ds vs [])(e:ds[i]? = some d):∃v,vs[i]? = some v/\Rep K H d v []:=by
 obtain⟨v,f,e1,r1,s⟩:=r.get e;have:f=[]:=List.eq_nil_iff_forall_not_mem.mpr λa m=>by have:=s a m;cases this
 subst this;exact⟨v,e1,r1⟩
theorem WU{K:PySem.W.Frag}{l1 l2:Addr}{ds es:List D}(c1:aN ds=true)(c2:aN es=true):
  nQ K (BD K l1 l2) ((ds.zip es).map λp=>.tup [p.1,p.2]) [⟨.lst ds,.ref l1,f1⟩,⟨.lst es,.ref l2,f2⟩]:=by
 intro H i hh;obtain⟨p1,xs,g1,e1,q1,r1,_⟩:=(hh _ aaF).e7;obtain⟨p2,ys,g2,e2,q2,r2,_⟩:=(hh _ (aaY _ aaF)).e7;cases e1;cases e2;have n1:=r1.aH c1;have n2:=r2.aH c2;subst n1 n2;refine⟨λd hd=>?_,λhl=>?_⟩
 .rw[acX] at hd;cases hz:(ds.zip es)[i]? with
  |none=>rw[hz] at hd;cases hd
  |some pr=>
   rw[hz] at hd;cases hd;obtain⟨k1,k2⟩:=List.getElem?_zip_eq_some.mp hz;obtain⟨x,hx,rx⟩:=r1.N_ k1;obtain⟨y,hy,ry⟩:=r2.N_ k2;refine⟨⟨xs,ys,x,y,q1,q2,hx,hy⟩,λv H1 hv=>?_⟩;obtain⟨T,a,b,hT,rfl,rfl,ha,hb⟩:=hv;have ea:=ha xs q1;have eb:=hb ys q2;rw[hx] at ea;rw[hy] at eb;cases ea;cases eb;have s2:aL H (upd H T (.tup [x,y])):=λb o e=>by rw[aY (dz e hT)];exact e
   exact⟨s2,[],.tup (cA.of cB) (aA.cons (f1:=[]) (f2:=[]) (rx.same s2) (aA.cons (f1:=[]) (f2:=[]) (ry.same s2) .nil)),λa m=>nomatch m⟩
 .rw[List.length_map,List.length_zip,r1.length,r2.length] at hl;exact⟨xs,ys,q1,q2,by omega⟩
theorem Zd{x1}(hm:X.mg "zip"=none)(ha:FP X a fa)(hb:FP X b fb)(hg:Gl X "zip":=by rfl)(hs:starEach [a,b] X.env=[(false,eval a X.env),(false,eval b X.env)]:=by rfl)(cG:starEach [b] X.env=[(false,eval b X.env)]:=by rfl):
  FI X (.Tuple elts x1 tp) (.Call (.Name "zip" p) [a,b] [] pos) (wQ fa fb):=by
 obtain⟨t,pa,hlen,q⟩:=ao ha (ao hb aR cG) (by rw[hs,cG]);refine⟨_,Ql hg hm pa hs cG,λH0 S z held ρ σ H R ds tg ok e k=>?_⟩;unfold wQ at e
 split at e
 .rename_i d1 t1 d2 t2 h1 h2
  by_cases hc:(aN d1&&aN d2)=true
  .rw[if_pos hc] at e;cases e;obtain⟨c1,c2⟩:=(acr _ _).mp hc;refine q H0 S z held ρ σ H _ [(.lst d1,t1),(.lst d2,t2)] ok (by unfold ah aj;rw[h1,h2]) λH1 vs fp s1 r g=>?_
   cases r with
   | @cons _ v1 _ _ f1 _ r1 r=>
    cases r with
    | @cons _ v2 _ _ f2 _ r2 r=>
     cases r;obtain⟨l1,xs,g1,rfl,q1,_,_⟩:=r1.e7;obtain⟨l2,ys,g2,rfl,q2,_,_⟩:=r2.e7;refine⟨l1,l2,xs,ys,rfl,q1,q2,k H1 _ [⟨.lst d1,.ref l1,f1⟩,⟨.lst d2,.ref l2,f2⟩] s1 (λh m=>?_) (WU c1 c2)⟩;have go:=g.over ok;rcases abh.mp m with rfl|m
     .exact⟨r1,λa ma=>go a (ac7 _ ma)⟩
     .cases aa8.mp m;exact⟨r2,λa ma=>go a (acQ _ (ac7 _ ma))⟩
  .rw[if_neg hc] at e;cases e
 .cases e
noncomputable def DV:D->Option D
 |.lst ds=>if aN ds=true then some (.lst ds.reverse) else none
 |_=>none
theorem aA.N2{K:PySem.W.Frag}:∀{ds:List D}{xs:List V},aA K H ds xs []->aA K H ds.reverse xs.reverse []
 |[],_,r=>by cases r;exact .nil
 |d::ds,xs,r=>by
  generalize hf:([]:List Addr)=fp at r;cases r with
  | @cons _ _ _ _ f1 f2 r1 r2=>
   obtain⟨z1,z2⟩:=aes.mp hf.symm;subst z1 z2;rw[afq,afq];exact aA.append (aA.N2 r2) (aA.cons (f1:=[]) (f2:=[]) r1 .nil)
theorem acD(hc:X.calm=true)(hm:X.mg "list"=none)(gQ:X.mg "reversed"=none)(ha:FP X a fa)(hg:Gl X "list":=by rfl)(ng:Gl X "reversed":=by rfl)(hs:starEach [a] X.env=[(false,eval a X.env)]:=by rfl)
  (cG:starEach [.Call (.Name "reversed" p2) [a] [] p3] X.env=[(false,eval (.Call (.Name "reversed" p2) [a] [] p3) X.env)]:=by rfl):FP X (.Call (.Name "list" p) [.Call (.Name "reversed" p2) [a] [] p3] [] pos) (e1 DV fa):=by
 obtain⟨t,pa,q⟩:=ha;refine⟨_,VO hc hm gQ pa hg ng hs cG,λH0 S z held ρ σ H Q d tg ok e k=>?_⟩;obtain⟨d1,t1,g1,g2,rfl⟩:=qy e;refine q H0 S z held ρ σ H _ d1 t1 ok g1 λH1 x f1 s1 r1 _=>?_
 cases r1 with
 | @lst l xs ds f h rs=>
  have g2:(if aN ds=true then some (D.lst ds.reverse) else none)=some d:=g2
  by_cases hi:aN ds=true
  .rw[if_pos hi] at g2;cases g2;have hn:=rs.aH hi;subst hn;refine⟨l,xs,rfl,h,λl' hl=>?_⟩;have s2:aL H1 (upd H1 l' (.lst xs.reverse)):=λb o e=>by rw[aY (dz e hl)];exact e
   refine k _ _ [l'] (s1.trans s2) (.lst cB ((aA.N2 rs).same s2)) ⟨acV.mpr ⟨(λm=>by cases m),ac1⟩,λa m=>?_⟩;cases aa8.mp m;exact s1.free hl
  .rw[if_neg hi] at g2;cases g2
 |_=>cases g2
end
end L2.Ev
namespace L2
open PySem PySem.Spec PyProof.Rows
section
variable{X:Cx}
theorem J5:∀{bs:List Bool}{us:List Value},aS (bs.map V.bl) us->us=bs.map Value.bool
 |[],_,r=>by rw[adn] at r;cases r;rfl
 |b::bs,_,r=>by
  rw[aaH] at r;cases r with
  |cons r1 r2=>cases r1;rw[J5 r2];rfl
theorem range_all(bs:List Bool):(List.range bs.length).all (λj=>bs.getD j true)=bs.all id:=by
 induction bs with
 |nil=>rfl
 |cons b r ih=>
  rw[acS,List.range_succ_eq_map,List.all_cons,List.all_map,List.all_cons,<- ih];rfl
theorem VD(hc:X.calm=true):fP X (.builtin "all") (λxs H Q=>∃(p:Addr) (bs:List Bool),xs=[V.ref p]/\bQ X.K H p (bs.map V.bl)/\Q (.bl (bs.all id)) H):=by
 intro pins s σ H xs us Q I r h;obtain⟨p,bs,rfl,hq,q⟩:=h;obtain⟨u,rfl,ru⟩:=vals1 r;cases ru;obtain⟨aq,v1,pl,hz⟩:=I.list hq;have ei:=J5 v1;subst ei;have lp:=let⟨o,n,e,_⟩:=pl;abD e
 have hh:X.A.in1.handled=none:=I.ok.hd hc;refine call_all_walk (afe pl.isList ?_);refine⟨s.heap.objs.size,_,_,_,_,_,λj=>bs.getD j true,rfl,Walks.list hh s.heap.objs.size p (acU lp) (bs.map Value.bool).toArray,⟨⟨_,abU _ rfl,rfl,rfl⟩,pl.isList.at λo e=>aaB _ e⟩,?_,λh' tk hk=>?_⟩
 .intro i v s' Q' E' hv hQ;rw[ae7,acX] at hv;cases e:bs[i]? with
  |none=>rw[e] at hv;cases hv
  |some b=>
   rw[e] at hv;cases hv;dsimp only at hQ;rw[aeq,e] at hQ;exact aet hQ
 .have f:=I.se (H':=H) (abW s.heap.objs.size) (I.aI.fresh (abW _));have I1:Inv X pins σ H { s with heap:=s.heap.push { cls:=.type "list_iterator",data:=.fields #[.ref p,.int 0 0] } }:=I.kept λb o e=>aaB _ e
  rw[ack,List.length_map,range_all];exact⟨.bl _,H,I1.BS (ch:=[s.heap.objs.size]) (λb m=>by rw[aa8.mp m];exact f) λb o m e=>hk b o m e,rfl,q⟩
end
end L2
namespace L2.Ev
open PySem PySem.Spec PyProof.Rows
section
variable{X:Cx}{a b c:Expr}{fa fb:EF}{p pos:Pos}
noncomputable def jy:List D->Option (List Bool)
 |[]=>some []
 |.bl b::r=>(jy r).map (b::·)
 |_=>none
theorem MG{K:PySem.W.Frag}:∀{ds:List D}{xs:List V}{fp:List Addr}{bs:List Bool},aA K H ds xs fp->jy ds=some bs->xs=bs.map V.bl
 |[],_,_,bs,r,e=>by cases r;cases e;rfl
 |d::ds,_,_,bs,r,e=>by
  cases r with
  |cons h t=>
   cases d<;>try (cases e;done)
   cases h;unfold jy at e;cases q:jy ds with
   |none=>rw[q] at e;cases e
   |some r=>
    rw[q] at e;cases e;rw[MG t q];rfl
noncomputable def jB:D->Option D
 |.lst ds=>(jy ds).map λbs=>.bl (bs.all id)
 |_=>none
theorem aaJ{K:PySem.W.Frag}:oA K (λxs H Q=>∃(p:Addr) (bs:List Bool),xs=[V.ref p]/\bQ K H p (bs.map V.bl)/\Q (.bl (bs.all id)) H) jB:=by
 intro H x d1 f1 d Q r e k;cases d1 with
 |lst ds=>
  obtain⟨p,xs,f,rfl,hq,rs,_⟩:=r.e7;have e:(jy ds).map (λbs=>D.bl (bs.all id))=some d:=e;cases h:jy ds with
  |none=>rw[h] at e;cases e
  |some bs=>
   rw[h] at e;cases e;have ex:=MG rs h;subst ex;exact⟨p,bs,rfl,hq,k H _ [] (aL.refl H) (.bl _) ac1 λa m=>nomatch m⟩
 |_=>cases e
theorem sM(hc:X.calm=true)(hm:X.mg "all"=none)(ha:FP X a fa)(hg:Gl X "all":=by rfl)(hs:starEach [a] X.env=[(false,eval a X.env)]:=by rfl):FP X (.Call (.Name "all" p) [a] [] pos) (e1 jB fa):=
 fp_1 aaJ ha λta pa=>q_ (VD hc) hg hm boot_all (c_ pa fM hs) (he:=hs) (hpl:=rfl)
end
noncomputable abbrev XF:=aK->Option (D×aK)
noncomputable abbrev Sy:=aK->Option (Bool×aK)
noncomputable abbrev kC:=aK->Option (List D×aK)
def mV(z:Addr->Option Nat)(H H':Hp):Prop:=bW H H'/\∀a o,z a=none->H a=some o->H' a=some o
theorem mV.of(s:aL H H'):mV z H H':=⟨.of s,λa o _ e=>s _ _ e⟩
theorem mV.trans(a:mV z H H1)(b:mV z H1 H2):mV z H H2:=⟨a.1.trans b.1,λc o e q=>b.2 c o e (a.2 c o e q)⟩
theorem Rep.kH{K:PySem.W.Frag}(r:Rep K H d v [])(s:mV z H H'):Rep K H' d v []:=r.frame (λa m=>nomatch m) s.1
def FX(X:Cx)(e:Expr)(f:XF):Prop:=∃t,PE X e t/\∀(H0:Hp) (S:List Addr) (z:Addr->Option Nat) (held:List cI) (ρ:aK) (σ:St) (H:Hp) (Q:VK) (d:D) (au:aK),
 Ok X.K H0 S z held ρ σ H->f ρ=some (d,au)->(∀H' v,Ok X.K H0 S z held au σ H'->mV z H H'->Rep X.K H' d v []->Q v H')->t σ H Q
def yC(X:Cx)(es:List Expr)(f:kC):Prop:=∃t,PA X es t/\(∀ρ ds au,f ρ=some (ds,au)->ds.length=es.length)/\∀(H0:Hp) (S:List Addr) (z:Addr->Option Nat) (held:List cI) (ρ:aK) (σ:St) (H:Hp) (Q:List V->Hp->Prop) (ds:List D) (au:aK),
 Ok X.K H0 S z held ρ σ H->f ρ=some (ds,au)->(∀H' vs,Ok X.K H0 S z held au σ H'->mV z H H'->aA X.K H' ds vs []->Q vs H')->t σ H Q
section
variable{X:Cx}{a b c e:Expr}{es:List Expr}{f g:XF}{pos:Pos}
noncomputable def xP(f:EF):XF:=λρ=>match f ρ with
 |some (d,_)=>if aH d=true then some (d,ρ) else none
 |none=>none
theorem lA{f:EF}(h:FP X e f):FX X e (xP f):=by
 obtain⟨t,p,q⟩:=h;refine⟨t,p,λH0 S z held ρ σ H Q d au ok e k=>?_⟩;unfold xP at e;cases h:f ρ with
 |none=>rw[h] at e;cases e
 |some w=>
  obtain⟨d0,t0⟩:=w;rw[h] at e;dsimp only at e
  by_cases hi:aH d0=true
  .rw[if_pos hi] at e;cases e;refine q H0 S z held ρ σ H _ d t0 ok h λH1 v fp s1 r1 _=>?_
   have hn:=r1.aH hi;subst hn;exact k H1 v (ok.same s1) (.of s1) r1
  .rw[if_neg hi] at e;cases e
noncomputable def x2(op:D->D->Option D)(f g:XF):XF:=λρ=>match f ρ with
 |some (d1,aG)=>match g aG with
  |some (d2,bS)=>(op d1 d2).map λd=>(d,bS)
  |none=>none
 |none=>none
theorem Vr{op:D->D->Option D}(e:x2 op f g ρ=some (d,au)):∃d1 aG d2,f ρ=some (d1,aG)/\g aG=some (d2,au)/\op d1 d2=some d:=by
 unfold x2 at e;cases h1:f ρ with
 |none=>rw[h1] at e;cases e
 |some w=>
  obtain⟨d1,aG⟩:=w;rw[h1] at e;dsimp only at e;cases h2:g aG with
  |none=>rw[h2] at e;cases e
  |some w=>
   obtain⟨d2,bS⟩:=w;rw[h2] at e;dsimp only at e;cases h3:op d1 d2 with
   |none=>rw[h3] at e;cases e
   |some d3=>rw[h3] at e;cases e;exact⟨d1,aG,d2,rfl,h2,h3⟩
theorem Zb{op:Operator}{r:R2}{o:D->D->Option D}(ho:dM X (binaryOp op) r)(dd:gZ X.K r o)(ha:FX X a f)(hb:FX X b g):FX X (.BinOp a op b pos) (x2 o f g):=by
 obtain⟨ta,pa,sa⟩:=ha;obtain⟨tb,pb,sb⟩:=hb;refine⟨_,As ho pa pb,λH0 S z held ρ σ H Q d au ok e k=>?_⟩;obtain⟨d1,aG,d2,e1,e2,e3⟩:=Vr e;refine sa H0 S z held ρ σ H _ d1 aG ok e1 λH1 x cC s1 r1=>?_
 refine sb H0 S z held aG σ H1 _ d2 au cC e2 λH2 y fG s2 r2=>?_
 exact dd H2 x y d1 d2 [] [] d Q (r1.kH s2) r2 e3 λH3 v s3 r3=>k H3 v (fG.same s3) ((s1.trans s2).trans (.of s3)) r3
theorem Mv(ha:FX X a f)(hb:FX X b g):FX X (.BinOp a .Add b pos) (x2 aX f g):=Zb Od yr ha hb
noncomputable def xV(f:XF):Sy:=λρ=>match f ρ with
 |some (.bl b,au)=>some (b,au)
 |_=>none
noncomputable def fN:kC:=λρ=>some ([],ρ)
noncomputable def eO(f:XF)(g:kC):kC:=λρ=>match f ρ with
 |some (d,aG)=>match g aG with
  |some (ds,bS)=>some (d::ds,bS)
  |none=>none
 |none=>none
theorem LX{g:kC}(e:eO f g ρ=some (ds,au)):∃d aG r,f ρ=some (d,aG)/\g aG=some (r,au)/\ds=d::r:=by
 unfold eO at e;cases h1:f ρ with
 |none=>rw[h1] at e;cases e
 |some w=>
  obtain⟨d,aG⟩:=w;rw[h1] at e;dsimp only at e;cases h2:g aG with
  |none=>rw[h2] at e;cases e
  |some w=>
   obtain⟨r,bS⟩:=w;rw[h2] at e;cases e;exact⟨d,aG,r,rfl,h2,rfl⟩
theorem oK:yC X [] fN:=⟨_,fM,λ_ _ _ e=>by cases e;rfl,λ_ _ _ _ _ _ H _ _ _ ok e q=>by cases e;exact q H _ ok (.of (aL.refl H)) .nil⟩
theorem pC{g:kC}(ha:FX X e f)(hr:yC X es g)(hs:starEach (e::es) X.env=(false,eval e X.env)::starEach es X.env:=by rfl):yC X (e::es) (eO f g):=by
 obtain⟨t,p,q⟩:=ha;obtain⟨t',p',l',q'⟩:=hr;refine⟨_,c_ p p' hs,λρ ds au e=>by obtain⟨d,aG,r,e1,e2,rfl⟩:=LX e;rw[acS,acS,l' _ _ _ e2],λH0 S z held ρ σ H Q ds au ok e k=>?_⟩;obtain⟨d,aG,r,e1,e2,rfl⟩:=LX e;refine q H0 S z held ρ σ H _ d aG ok e1 λH1 v cC s1 r1=>?_
 refine q' H0 S z held aG σ H1 _ r au cC e2 λH2 vs fG s2 r2=>?_
 exact k H2 (v::vs) fG (s1.trans s2) (aA.cons (f1:=[]) (f2:=[]) (r1.kH s2) r2)
noncomputable def xIx(g:kC)(f:XF):XF:=λρ=>match g ρ with
 |some (ds,aG)=>match f aG with
  |some (.int i,bS)=>(cS ds i).map λd=>(d,bS)
  |_=>none
 |none=>none
def pD(K:PySem.W.Frag)(G:List Int->List D->Option (D×List Int)):Sp:=λvs H Q _=>∃a ns ws es d dg,vs=V.ref a::ws/\H a=some (.lst (ns.map V.int))/\aA K H es ws []/\G ns es=some (d,dg)/\
 ∀H' v,(∀b o,b≠a->H b=some o->H' b=some o)->H' a=some (.lst (dg.map V.int))->Rep K H' d v []->Q v H'
noncomputable def xM(i:Nat)(G:List Int->List D->Option (D×List Int))(g:kC):XF:=λρ=>match ρ[i]?,g ρ with
 |some (some _),some (es,aG)=>match aG[i]? with
  |some (some (.lst ds,.own))=>match dO ds with
   |some ns=>(G ns es).map λw=>(w.1,cL aG i (.lst (w.2.map D.int)))
   |none=>none
  |_=>none
 |_,_=>none
theorem NW:∀{ds:List D}{ns:List Int},dO ds=some ns->aN ds=true
 |[],_,_=>rfl
 |d::r,ns,h=>by
  cases d<;>try (cases h;done)
  unfold dO at h;cases q:dO r with
  |none=>rw[q] at h;cases h
  |some m=>unfold aN;rw[NW q];rfl
theorem oM(i:Nat){fa:Addr}{fd:FuncData}{ps:List Str}{G:List Int->List D->Option (D×List Int)}{g:kC}(GG:a_ X.prog X.w X.K X.mg X.base aJ k fa fd ps (pD X.K G))(hr:cN k X.A)(hm:X.mg x=some (.ref fa))(hk:PySem.W.keepIn X.K (.ref fa)=true)(hb:Binds X.K fd ps [])(ha:yC X es g)
  (hN:X.N[i]? = some xn:=by rfl) (fY:gP X.env.scope xn:=by first|exact Or.inl rfl|exact Or.inr (Or.inl rfl)|exact Or.inr (Or.inr rfl)) (hd:(xn==("__debug__":Str))=false:=by decide) (cQ:(xn==("__classdict__":Str))=false:=by decide)
  (hg:Gl X x:=by rfl) (e8:(x==("__debug__":Str))=false:=by decide) (he:starEach (.Name xn p1::es) X.env=(false,eval (.Name xn p1) X.env)::starEach es X.env:=by rfl) (hpl:(backTo pos (starEach es X.env)).any (·.1)=false:=by rfl) :
  FX X (.Call (.Name x p) (.Name xn p1::es) [] pos) (xM i G g):=by
 obtain⟨t,pa,_,sa⟩:=ha;refine⟨_,xW GG hr hg hm hk hb .nil pA (c_ (gX hN fY hd cQ) pa he) e8 he hpl,λH0 S z held ρ σ H Q d au ok e0 q=>?_⟩;unfold xM at e0
 split at e0
 .rename_i w0 bV aG h0 h1
  split at e0
  .rename_i ds h2;cases h3:dO ds with
   |none=>rw[h3] at e0;cases e0
   |some ns=>
    rw[h3] at e0;dsimp only at e0;cases h4:G ns bV with
    |none=>rw[h4] at e0;cases e0
    |some w=>
     obtain⟨d',dg⟩:=w;rw[h4] at e0;cases e0;obtain⟨d0,t0⟩:=w0;obtain⟨v,fp,hs,_,_⟩:=ok.sl i d0 t0 h0;refine⟨v,hs,?_⟩;refine sa H0 S z held ρ σ H _ bV aG ok h1 λH1 vs cC s1 r1=>?_
     obtain⟨v',eF,bN,r',zz⟩:=cC.sl i _ _ h2;rw[hs] at bN;cases bN;rw[ady];cases r' with
     | @lst l xs _ f h rs=>
      have ex:=qu rs h3;subst ex;have WV:f=[]:=by
       have hm:aN ds=true:=NW h3;exact rs.aH hm
      subst WV;refine⟨l,ns,vs,bV,_,dg,rfl,h,r1,h4,λH' v kp hl rv=>?_⟩;have s2:aL (upd H1 l (.lst (dg.map V.int))) H':=λb o e=>by
       by_cases hb:b=l
       .subst hb;rw[cB] at e;cases e;exact hl
       .rw[aY hb] at e;exact kp b o hb e
      have fG:=Ok.vP cC h2 hs zz aaF h rfl (d1:=.lst (dg.map D.int)) (o':=.lst (dg.map V.int)) (.lst cB (qJ dg));refine q H' v (fG.same s2) (s1.trans ⟨(bW.upd h rfl).trans (.of s2),λb o zb e=>?_⟩) rv;exact kp b o (λhb=>by subst hb;rw[zz.2 _ aaF] at zb;cases zb) e
  .cases e0
 .cases e0
noncomputable def ir(i:Nat)(f:XF):SF:=λρ=>match f ρ with
 |some (d,au)=>some (.nx (lV au i d .own))
 |none=>none
theorem rQ(i:Nat){x:Str}(he:FX X e f)(hN:X.N.Nodup)(hi:X.N[i]? = some x:=by rfl)(hx:Loc X.env.scope x:=by first|exact Or.inl rfl|exact Or.inr rfl)
  (hs:swapsWith e (some (.Name x pos')) pos.line X.env=pure false:=by rfl) (hf:X.fn x=true\/X.env.scope.names.lookup x=some .local:=by first|exact .inl rfl|exact .inr rfl) (mK:mG X x=false:=by rfl):fJ X (.Assign [.Name x pos'] e pos) (ir i f):=by
 obtain⟨t,p,q⟩:=he;refine⟨_,LB hN hi hx p hs hf,λH0 S z held ρ σ H E o ok e k=>?_⟩;unfold ir at e;cases h:f ρ with
 |none=>rw[h] at e;cases e
 |some w=>
  obtain⟨d,aG⟩:=w;rw[h] at e;cases e;refine q H0 S z held ρ σ H _ d aG ok h λH1 v cC s1 r1=>?_
  exact cC.stored (aL.refl H1) r1 .nil λz' bq=>k z' _ H1 bq (.set hi mK)
noncomputable def dX:List Int->List D->Option (D×List Int)
 |ns,[.int m]=>if ns=[] then some (.int 0,[]) else if 0<m then some (.int (ns.getLastD 0 % m),ns.dropLast) else none
 |_,_=>none
end
theorem Ii{K:PySem.W.Frag}(h:pD K dX vs H Q E):vs.length=2:=by
 obtain⟨a,ns,ws,es,d,dg,rfl,h1,h2,h3,_⟩:=h;rw[acS,<- h2.length];cases es with
 |nil=>cases h3
 |cons e es=>
  cases es with
  |nil=>rfl
  |cons e' es=>cases e<;>cases h3
theorem VJ(hN:N.length=2)(hc:FT X c (tV (e2 oEq (e1 bX (af 0)) (eC (.int 0)))))(hz:PE X z (tC (.int 0)))
  (hp:PE X e (sO (rI (λ_ j=>0<j) λi j=>.int (i % j)) (HY X.K "list" Jj (Ar 0)) (Ar 1))) (h:pD X.K dX vs H Q E) :
  ∃t,gK X [.If c [.Return (some z) p1] [] p2,.Return (some e) p3] t/\t { nx:=λ_ H'=>Q .aE H',rt:=Q } (start N vs) H:=by
 have hl:=Ii h;obtain⟨a,ns,ws,es,d,dg,rfl,h1,h2,h3,q⟩:=h;obtain⟨tt,pt,qt⟩:=hc;refine⟨_,xY (Cg pt (tU (oW hz)) HA) (tU (oW hp)),?_⟩;generalize hf:([]:List Addr)=fp at h2;cases h2 with
 |nil=>cases h3
 | @cons d0 v0 NU vs0 f1 f2 r1 r2=>
  obtain⟨z1,z2⟩:=aes.mp hf.symm;subst z1 z2;have hv:=adT (by simpa using hl);subst hv;cases r2;cases r1<;>try (cases h3;done)
  rename_i m;have st:start N [V.ref a,V.int m]=[some (.ref a),some (.int m)]:=by unfold start;rw[hN];rfl
  rw[st];have ok:Ok X.K H [] (λ_=>none) [] [some (.lst (ns.map D.int),.sh []),some (.int m,.sh [])] [some (.ref a),some (.int m)] H:=by
   refine⟨λi d t e=>?_,(λp m=>nomatch m),(λa j e=>nomatch e),(λa o e _=>e),rfl⟩
   match i,e with
   |0,e=>cases e;exact⟨_,_,rfl,.lst h1 (qJ ns),λb _ j e=>nomatch e⟩
   |1,e=>cases e;exact⟨_,_,rfl,.int m,λb m=>nomatch m⟩
  by_cases hn:ns=[]
  .subst hn;have h3:=h3;cases h3;refine qt H [] (λ_=>none) [] _ _ H _ true ok rfl λH1 s1=>?_
   rw[if_pos rfl];exact q H1 _ (λb o _ e=>s1 _ _ e) (s1 _ _ h1) (.int 0)
  .have h3:(if ns=[] then some (D.int 0,([]:List Int)) else if 0<m then some (D.int (ns.getLastD 0 % m),ns.dropLast) else none)=some (d,dg):=h3;rw[if_neg hn] at h3
   by_cases hm:0<m
   .rw[if_pos hm] at h3;cases h3;have hb:tV (e2 oEq (e1 bX (af 0)) (eC (.int 0))) [some (.lst (ns.map D.int),.sh []),some (.int m,.sh [])]=some false:=by
     show some ((((ns.map D.int).length:Int))==0)=some false;have:((ns.map D.int).length:Int)≠0:=by
      rw[List.length_map];intro z;exact hn (adT (by omega))
     rw[adF.mpr this]
    refine qt H [] (λ_=>none) [] _ _ H _ false ok hb λH1 s1=>?_
    rw[if_neg ab3];have g1:=s1 _ _ h1;have hlen:=List.length_pos_iff.mpr hn;have hy:(ns.map V.int)[(ns.map V.int).length-1]? = some (.int (ns.getLastD 0)):=by
     rw[List.length_map,acX,abL (by omega),List.getLastD_eq_getLast?,List.getLast?_eq_getElem?,abL (by omega)];rfl
    refine⟨.ref a,rfl,.inl ⟨rfl,_,bQ.of g1⟩,a,_,_,rfl,rfl,g1,hy,.int m,rfl,ns.getLastD 0,m,rfl,rfl,hm,?_⟩;refine q _ _ (λb o hb e=>by rw[aY hb];exact s1 _ _ e) ?_ (.int _);rw[cB,List.map_dropLast]
   .rw[if_neg hm] at h3;cases h3
theorem PM{P:Program}{w:World}{K:PySem.W.Frag}{mg:Str->Option Value}{base:Heap}{x qual:Str}{st:Stmt}{f:Addr}{fd:FuncData}{N ps:List Str}{k:Nat}(F:bI K x qual st f fd)(S:cz N ps (aV st)):
  a_ P w K mg base aJ (k+1) f fd ps (aO K λ_=>none):=F.ok S (λvs H Q E ⟨_,_,_,_,e,_⟩=>nomatch e) λaT A outer s H vs Q E hr ⟨_,_,_,_,e,_⟩=>nomatch e
section
variable{X:Cx}{a b:Expr}{fa fb:EF}{pos:Pos}
theorem acK(ha:FP X a fa)(hb:FP X b fb):FP X (.Compare a [.Lt] [b] pos) (e2 oLt fa fb):=tR ZU r_ ha hb (lI _)
theorem YL(ha:FP X a fa)(hb:FP X b fb):FP X (.Compare a [.LtE] [b] pos) (e2 oLe fa fb):=tR FU r_ ha hb (lI _)
theorem K5(ha:FP X a fa)(hb:FP X b fb):FP X (.Compare a [.Is] [b] pos) (e2 iW fa fb):=tR Kl MU ha hb (lI _)
end
end L2.Ev
namespace L2.Ev
open PySem
theorem RE(ls:List Int)(hm:0<m):∃v dW,0<=v/\v<m/\dX ls [.int m]=some (.int v,dW):=by
 by_cases h:ls=[]
 .subst h;exact⟨0,[],aeC _,hm,rfl⟩
 .refine⟨ls.getLastD 0 % m,ls.dropLast,Int.emod_nonneg _ (by omega),Int.emod_lt_of_pos _ hm,?_⟩;show(if ls=[] then _ else if 0<m then _ else none)=_;rw[if_neg h,if_pos hm]
theorem Xn{g:kC}{w:D×Tag}{G:List Int->List D->Option (D×List Int)}(h0:ρ[i]? = some (some w))(hg:g ρ=some (es,aG))(h1:aG[i]? = some (some (.lst (ls.map D.int),.own)))(h:G ls es=some (d,dW)):
  xM i G g ρ=some (d,cL aG i (.lst (dW.map D.int))):=by
 unfold xM;rw[h0,hg];dsimp only;rw[h1];dsimp only;rw[uZ];dsimp only;rw[h];rfl
theorem Lv(h:f ρ=some (d,t))(hi:aH d=true):xP f ρ=some (d,ρ):=by unfold xP;rw[h];dsimp only;rw[if_pos hi]
theorem Jl{op:D->D->Option D}(h1:f ρ=some (d1,aG))(h2:g aG=some (d2,bS))(h:op d1 d2=some d):x2 op f g ρ=some (d,bS):=by unfold x2;rw[h1];dsimp only;rw[h2];dsimp only;rw[h];rfl
theorem Qm:fN ρ=some ([],ρ):=rfl
theorem RT{g:kC}(h1:f ρ=some (d,aG))(h2:g aG=some (ds,bS)):eO f g ρ=some (d::ds,bS):=by unfold eO;rw[h1];dsimp only;rw[h2]
theorem uF(h:f ρ=some (d,aG)):ir i f ρ=some (.nx (aG.set i (some (d,.own)))):=by unfold ir;rw[h];rfl
theorem gU:∀ns:List Int,aN (ns.map D.int)=true
 |[]=>rfl
 |n::r=>by rw[aaH];unfold aN;rw[gU r];rfl
theorem Qx{as bs:List Int}(h:as.length+bs.length<=PySem.sizeLine):qO (.lst (as.map D.int)) (.lst (bs.map D.int))=some (.lst ((as++bs).map D.int)):=by
 show(if(aN (as.map D.int)&&aN (bs.map D.int)&&decide ((as.map D.int).length+(bs.map D.int).length<=PySem.sizeLine))=true then some (D.lst (as.map D.int++bs.map D.int)) else none)=_;rw[gU,gU,List.length_map,List.length_map,ab5 h,adG];rfl
theorem Zj{ns:List Int}:iO (.lst (ns.map D.int))=some (.lst (ns.map D.int)):=by show(if aN (ns.map D.int)=true then some (D.lst (ns.map D.int)) else none)=_;rw[if_pos (gU ns)]
theorem Jh{ns:List Int}:iO (.tup (ns.map D.int))=some (.lst (ns.map D.int)):=by show(if aN (ns.map D.int)=true then some (D.lst (ns.map D.int)) else none)=_;rw[if_pos (gU ns)]
theorem Oq{ns:List Int}:gw (.lst (ns.map D.int))=some (.tup (ns.map D.int)):=by show(if aN (ns.map D.int)=true then some (D.tup (ns.map D.int)) else none)=_;rw[if_pos (gU ns)]
theorem Mx{i:Nat}{ρ:aK}{ns:List Int}(h:ρ[i]? = some (some (.lst (ns.map D.int),.own))):lP i ρ=some (.nx (cL ρ i (.lst []))):=by unfold lP;rw[h];dsimp only;rw[if_pos (gU ns)]
theorem YM(h:ns.length<=63):rB none (some 200) (dI ns)=some (.lst (ns.map D.int)):=by
 show(if aN (ns.map D.int)=true then some (D.lst (cutD (ns.map D.int) none (some 200))) else none)=_;rw[if_pos (gU ns)];have:cutD (ns.map D.int) none (some 200)=ns.map D.int:=by
  unfold cutD;have e:HT.f_ (ns.map D.int).length (ns.map D.int).length (some 200)=(ns.map D.int).length:=by
   have q:=HT.E4 (ns.map D.int).length (ns.map D.int).length 200;rw[show((200:Nat):Int)=200 from rfl] at q;rw[q,List.length_map];omega
  rw[HT.BV,e,List.drop_zero,Nat.sub_zero,List.take_length]
 rw[this]
theorem RO{ns:List Int}:DV (.lst (ns.map D.int))=some (.lst (ns.reverse.map D.int)):=by
 show(if aN (ns.map D.int)=true then some (D.lst (ns.map D.int).reverse) else none)=_;rw[if_pos (gU ns),List.map_reverse]
open PySem PySem.Spec PyProof.Rows
theorem Ok.put{K:PySem.W.Frag}{H0:Hp}{S:List Addr}{z:Addr->Option Nat}{held:List cI}{ρ:aK}(ok:Ok K H0 S z held ρ σ H)(h:ρ[i]? = some (some (d0,.own)))
  (hs:σ[i]? = some (some v)) (zz:uH z i .own bJ) (im:bW H H') (keep:∀b o,b∉bJ->H b=some o->H' b=some o) (r1:Rep K H' d1 v cM) (nd:cM.Nodup) (fr:∀b∈cM,b∈bJ\/H b=none):∃z',Ok K H0 S z' held (cL ρ i d1) σ H':=by
 classical
 have vp:=(acY.mp h).1;have oj:∀{a:Addr},a∈bJ->z a=some i:=λ{a} m=>zz.2 a m
 have old:∀{a:Addr}{o:HO},a∉bJ->H a=some o->(if a∈cM then some i else if z a=some i then none else z a)=(if z a=some i then none else z a):=λ{a o} n e=>by
  rw[if_neg λm=>?_];rcases fr a m with q|q
  .exact n q
  .rw[e] at q;cases q
 have dr:∀{j:Nat}{d:D}{t:Tag},j≠i->(cL ρ i d1)[j]? = some (some (d,t))->ρ[j]? = some (some (d,t))/\∀o,t=.sh o->i∉o:=λ{j d t} hj e=>by
  unfold cL at e;rw[adH (aej hj),acX] at e;cases e0:ρ[j]? with
  |none=>rw[e0] at e;cases e
  |some s=>
   rw[e0] at e;have e:=aco e;cases s with
   |none=>cases e
   |some w=>
    obtain⟨d',t'⟩:=w;cases t' with
    |sh o=>
     have e:(if o.contains i=true then none else some (d',Tag.sh o))=some (d,t):=e
     by_cases hc:o.contains i=true
     .rw[if_pos hc] at e;cases e
     .rw[if_neg hc] at e;cases e;exact⟨rfl,λo' eo m=>by cases eo;exact hc (List.contains_iff_mem.mpr m)⟩
    |own=>cases e;exact⟨rfl,λo eo=>by cases eo⟩
    |lk=>cases e;exact⟨rfl,λo eo=>by cases eo⟩
 refine⟨λa=>if a∈cM then some i else if z a=some i then none else z a,λj d t e=>?_,λq m=>?_,λa j e=>?_,λa u e n=>?_,?_⟩
 .by_cases hj:j=i
  .subst hj;unfold cL at e;rw[ad9 (by rw[List.length_map];exact vp)] at e;cases e;exact⟨v,cM,hs,r1,nd,λa m=>if_pos m⟩
  .obtain⟨e0,Bt⟩:=dr hj e;obtain⟨v',eF,bN,r',z'⟩:=ok.sl j d t e0;have nz:∀a∈eF,z a≠some i:=λa m q=>by
    cases t with
    |sh o=>exact Bt o rfl (z' a m i q)
    |own=>have:=z'.2 a m;rw[q] at this;exact hj (aco this).symm
    |lk=>have:=z'.2 a m;rw[q] at this;exact hj (aco this).symm
   have n0:∀a∈eF,a∉bJ:=λa m q=>nz a m (oj q)
   refine⟨v',eF,bN,r'.frame (λa m=>?_) im,?_⟩
   .obtain⟨o,w,_⟩:=r'.cF a m;rw[keep a o (n0 a m) w,w]
   .have at_:∀a∈eF,(if a∈cM then some i else if z a=some i then none else z a)=z a:=λa m=>by
     obtain⟨o,w,_⟩:=r'.cF a m;rw[old (n0 a m) w,if_neg (nz a m)]
    cases t with
    |sh o=>exact λa m k q=>z' a m k (by rw[<- at_ a m];exact q)
    |own=>exact⟨z'.1,λa m=>(at_ a m).trans (z'.2 a m)⟩
    |lk=>exact⟨z'.1,λa m=>(at_ a m).trans (z'.2 a m)⟩
 .obtain⟨r,hz⟩:=ok.hl q m;have nz:∀a∈q.fp,z a≠some i:=λa m e=>(hz a m i e).2 d0 h
  have n0:∀a∈q.fp,a∉bJ:=λa m e=>nz a m (oj e)
  refine⟨r.frame (λa m=>?_) im,λa ha j e=>?_⟩
  .obtain⟨o,w,_⟩:=r.cF a m;rw[keep a o (n0 a m) w,w]
  .obtain⟨o,w,_⟩:=r.cF a ha;rw[old (n0 a ha) w,if_neg (nz a ha)] at e;obtain⟨h1,h2⟩:=hz a ha j e;have hj:j≠i:=λq=>nz a ha (by rw[<- q];exact e)
   exact⟨h1,λd e=>h2 d (dr hj e).1⟩
 .by_cases m:a∈cM
  .obtain⟨o,w,_⟩:=r1.cF a m;refine⟨⟨o,w⟩,?_⟩;rcases fr a m with q|q
   .exact(ok.zd a i (oj q)).2
   .cases h0:H0 a with
    |none=>exact .inl rfl
    |some o=>
     by_cases hs:a∈S
     .exact .inr hs
     .have w:=ok.en a o h0 hs;rw[q] at w;cases w
  .rw[if_neg m] at e
   by_cases q:z a=some i
   .rw[if_pos q] at e;cases e
   .rw[if_neg q] at e;obtain⟨⟨o,w⟩,y⟩:=ok.zd a j e;exact⟨⟨o,keep a o (λm=>q (oj m)) w⟩,y⟩
 .have w:=ok.en a u e n;refine keep a u (λm=>?_) w;rcases(ok.zd a i (oj m)).2 with q|q
  .rw[e] at q;cases q
  .exact n q
 .unfold cL;rw[aeY,List.length_map];exact ok.ln
theorem aA.look{K:PySem.W.Frag}:∀{es:List (Str×D)}{fs:List (Str×V)}{fp:List Addr}{f:Str}{d:D},es.map (·.1)=fs.map (·.1)->aA K H (es.map (·.2)) (fs.map (·.2)) fp->es.lookup f=some d->∃v g,fs.lookup f=some v/\Rep K H d v g/\∀a∈g,a∈fp
 |[],[],_,_,_,_,_,e=>by cases e
 |[],_::_,_,_,_,k,_,_=>by simp at k
 |_::_,[],_,_,_,k,_,_=>by simp at k
 |(x,d0)::es,(y,v0)::fs,fp,f,d,k,r,e=>by
  simp only[aaH,aez] at k;obtain⟨rfl,k⟩:=k;cases r with
  |cons r1 r2=>
   by_cases hx:(f==x)=true
   .simp only[List.lookup,hx] at e ⊢;cases e;exact⟨v0,_,rfl,r1,λa m=>ac7 _ m⟩
   .have hx:(f==x)=false:=by simpa using hx
    simp only[List.lookup,hx] at e ⊢;obtain⟨v,g,h1,h2,h3⟩:=aA.look (d:=d) k r2 e;exact⟨v,g,h1,h2,λa m=>acQ _ (h3 a m)⟩
theorem Gz:∀{es:List (Str×D)}{fs:List (Str×V)}{f:Str},es.map (·.1)=fs.map (·.1)->es.lookup f=none->fs.lookup f=none
 |[],[],_,_,_=>rfl
 |[],_::_,_,k,_=>by simp at k
 |_::_,[],_,k,_=>by simp at k
 |(x,d0)::es,(y,v0)::fs,f,k,e=>by
  simp only[aaH,aez] at k;obtain⟨rfl,k⟩:=k
  by_cases hx:(f==x)=true
  .simp only[List.lookup,hx] at e;cases e
  .have hx:(f==x)=false:=by simpa using hx
   simp only[List.lookup,hx] at e ⊢;exact Gz k e
structure ClsAt(K:PySem.W.Frag)(cn:Str)(C:Addr):Prop where
 ns:PySem.W.nsIn K mainGlobals cn=some (some (.ref C))
 cl:j5 K C
theorem Rep.vJ{K:PySem.W.Frag}{H:Hp}{cn:Str}(r:Rep K H (.ins cn es) v fp)(hn:PySem.W.nsIn K mainGlobals cn=some (some (.ref C))):
  ∃a dx fs g,v=.ref a/\fp=a::dx::g/\H a=some (.ins C dx fs)/\H dx=some (.own a)/\es.map (·.1)=fs.map (·.1)/\aA K H (es.map (·.2)) (fs.map (·.2)) g:=by
 cases r with
 | @ins _ a C' dx fs _ g h0 h1 h2 h3 h4=>
  rw[hn] at h0;cases h0;exact⟨a,dx,fs,g,rfl,rfl,h1,h2,h3,h4⟩
noncomputable def qI(cn f:Str)(fa:EF):EF:=λρ=>match fa ρ with
 |some (.ins c es,t)=>if c=cn then(es.lookup f).map λd=>(d,lT t) else none
 |_=>none
section
variable{X:Cx}{a:Expr}{fa:EF}{pos:Pos}
theorem cK.sub(hz:∀a j,z a=some j->∃o,H a=some o)(h:cK z H t f)(s:∀a∈g,a∈f):cK z H (lT t) g:=by
 cases t with
 |sh o=>exact λa m j q=>h a (s a m) j q
 |own=>exact λa m j q=>by obtain⟨o,w⟩:=hz a j q;rw[h.2 a (s a m)] at w;cases w
 |lk=>exact λa m j q=>by obtain⟨o,w⟩:=hz a j q;rw[h.2 a (s a m)] at w;cases w
theorem KC{cn f:Str}(hC:ClsAt X.K cn C)(na:jE X.K C f)(ha:FP X a fa)(hb:attributeBase a f X.env (eval a X.env)=eval a X.env:=by rfl):FP X (.Attribute a f pos) (qI cn f fa):=by
 obtain⟨t,p,q⟩:=ha;refine⟨_,Ic p hb,λH0 S z held ρ σ H Q d tg ok e k=>?_⟩;unfold qI at e;cases h:fa ρ with
 |none=>rw[h] at e;cases e
 |some w=>
  obtain⟨d0,t0⟩:=w;rw[h] at e;cases d0<;>try (cases e;done)
  rename_i c es;dsimp only at e
  by_cases hc:c=cn
  .subst hc;rw[if_pos rfl] at e;cases hl:es.lookup f with
   |none=>rw[hl] at e;cases e
   |some d1=>
    rw[hl] at e;cases e;refine q H0 S z held ρ σ H _ _ t0 ok h λH1 v fp s1 r1 g1=>?_
    obtain⟨b,dx,fs,g,rfl,rfl,h1,h2,h3,h4⟩:=r1.vJ hC.ns;obtain⟨u,gf,h5,h6,h7⟩:=aA.look h3 h4 hl;exact⟨b,C,dx,fs,u,rfl,h1,hC.cl,na,h5,k H1 u gf s1 h6 (cK.sub (λa j e=>(ok.zd a j e).1) g1 λa m=>aaY _ (aaY _ (h7 a m)))⟩
  .rw[if_neg hc] at e;cases e
end
noncomputable def bZ(cn m:Str)(F:List D->Option D)(fo:EF)(g:AF):EF:=λρ=>match fo ρ with
 |some (.ins c es,_)=>if c=cn/\es.lookup m=none then(g ρ).bind λps=>(F (.ins c es::ps.map (·.1))).map λd=>(d,.own) else none
 |_=>none
section
variable{X:Cx}{o e:Expr}{es:List Expr}{fo:EF}{g:AF}{m cn:Str}{apos pos:Pos}{k:Nat}{C f:Addr}{fd:FuncData}{ps:List Str}{F:List D->Option D}{pl:Sem Bool}
theorem Of{ta:TA}(hC:ClsAt X.K cn C)(q:∀(H0:Hp) (S:List Addr) (z:Addr->Option Nat) (held:List cI) (ρ:aK) (σ:St) (H:Hp) (Q:VK) (d:D) (tg:Tag),Ok X.K H0 S z held ρ σ H->fo ρ=some (d,tg)->(∀H' v fp,aL H H'->Rep X.K H' d v fp->cK z H tg fp->Q v H')->t σ H Q)
  (qa:∀(H0:Hp) (S:List Addr) (z:Addr->Option Nat) (held:List cI) (ρ:aK) (σ:St) (H:Hp) (Q:List V->Hp->Prop) (ps:List (D×Tag)),Ok X.K H0 S z held ρ σ H->g ρ=some ps->(∀H' vs fp,aL H H'->aA X.K H' (ps.map (·.1)) vs fp->cK z H (iN ps) fp->Q vs H')->ta σ H Q)
  (ok:Ok X.K H0 S z held ρ σ H) (e0:bZ cn m F fo g ρ=some (d,tg)) (kk:∀H' v fp,aL H H'->Rep X.K H' d v fp->cK z H tg fp->Q v H') :
  Aw C m (aO X.K F) [] E0 t ta σ H Q:=by
 unfold bZ at e0;cases h:fo ρ with
 |none=>rw[h] at e0;cases e0
 |some w=>
  obtain⟨d0,t0⟩:=w;rw[h] at e0;cases d0<;>try (cases e0;done)
  rename_i c AU;dsimp only at e0
  by_cases hc:c=cn/\AU.lookup m=none
  .rw[if_pos hc] at e0;obtain⟨rfl,hm⟩:=hc;cases h2:g ρ with
   |none=>rw[h2] at e0;cases e0
   |some qs=>
    rw[h2,adk] at e0;cases h3:F (.ins c AU::qs.map (·.1)) with
    |none=>rw[h3] at e0;cases e0
    |some d1=>
     rw[h3] at e0;cases e0;refine q H0 S z held ρ σ H _ _ t0 ok h λH1 v fp s1 r1 g1=>?_
     obtain⟨b,dx,fs,gf,rfl,rfl,h4,h5,h6,h7⟩:=r1.vJ hC.ns;refine⟨b,dx,fs,rfl,h4,Gz h6 hm,?_⟩;refine qa H0 S z held ρ σ H1 _ qs (ok.same s1) h2 λH2 vs mL s2 r2 _=>?_
     rw[ady];exact⟨_,_,d,.cons (r1.same s2) r2,h3,λH3 u eF s3 r3 nd fr=>kk H3 u eF ((s1.trans s2).trans s3) r3 ⟨nd,λa m=>s1.free (s2.free (fr a m))⟩⟩
  .rw[if_neg hc] at e0;cases e0
theorem j3(hC:ClsAt X.K cn C)(hm:oS X.K C m f)(G:a_ X.prog X.w X.K X.mg X.base aJ k f fd ps (aO X.K F))(hr:cN k X.A)(hb:Binds X.K fd ps [])(ho:FP X o fo)(ha:FA X (e::es) g)
  (ig:starEach (e::es) X.env=(false,eval e X.env)::starEach es X.env:=by rfl) (hpl:(backTo pos (starEach es X.env)).any (·.1)=false:=by rfl)
  (ht:eval (.Call (.Attribute o m apos) (e::es) [] pos) X.env=(do
   let ov <- eval o X.env
   standAt apos.atName
   let(f,first) <- holding [ov] (getMethod ov m pl)
   callWith pos f first (backTo pos (starEach (e::es) X.env)) (backToKw pos (keywordEach [] X.env))):=by rfl):FP X (.Call (.Attribute o m apos) (e::es) [] pos) (bZ cn m F fo g):=by
 obtain⟨t,p,q⟩:=ho;obtain⟨ta,pa,_,qa⟩:=ha;exact⟨_,Nn (pl:=pl) p hC.cl hm G hr hb .nil pA pa ig hpl ht,λH0 S z held ρ σ H Q d tg ok e0 kk=>Of hC q qa ok e0 kk⟩
theorem xE(hC:ClsAt X.K cn C)(hm:oS X.K C m f)(G:a_ X.prog X.w X.K X.mg X.base aJ k f fd ps (aO X.K F))(hr:cN k X.A)(hb:Binds X.K fd ps [])(ho:FP X o fo)
  (ht:eval (.Call (.Attribute o m apos) [] [] pos) X.env=(do
   let ov <- eval o X.env
   standAt apos.atName
   let(f,first) <- holding [ov] (getMethod ov m pl)
   callWith pos f first (backTo pos (starEach [] X.env)) (backToKw pos (keywordEach [] X.env))):=by rfl):FP X (.Call (.Attribute o m apos) [] [] pos) (bZ cn m F fo aj):=by
 obtain⟨t,p,q⟩:=ho;obtain⟨ta,pa,_,qa⟩:=aR (X:=X);refine⟨_,Zk (pl:=pl) p hC.cl hm G hr hb .nil pA ht,λH0 S z held ρ σ H Q d tg ok e0 kk=>Of hC q (λ_ _ _ _ _ _ H _ _ _ e q=>by cases e;exact q H _ _ (aL.refl H) .nil .nil) ok e0 kk⟩
end
noncomputable abbrev MF:=D->List D->Option (D×D)
def nL(K:PySem.W.Frag)(G:MF):Sp:=λvs H Q _=>∃a ws d0 bJ ds gi r d1,vs=V.ref a::ws/\Rep K H d0 (.ref a) bJ/\bJ.Nodup/\aA K H ds ws gi/\(∀b∈gi,b∉bJ)/\G d0 ds=some (r,d1)/\
 ∀H' v cM,bW H H'->(∀b o,b∉bJ->H b=some o->H' b=some o)->Rep K H' d1 (.ref a) cM->cM.Nodup->(∀b∈cM,b∈bJ\/H b=none)->Rep K H' r v []->Q v H'
noncomputable def apart(i:Nat)(ps:List (D×Tag)):Bool:=match iN ps with
 |.sh o=>!o.contains i
 |_=>true
theorem Ls{K:PySem.W.Frag}{H0:Hp}{S:List Addr}{z:Addr->Option Nat}{held:List cI}{ps:List (D×Tag)}(ok:Ok K H0 S z held ρ σ H)(h:apart i ps=true)(g:cK z H (iN ps) fp)(zz:uH z i .own bJ):∀b∈fp,b∉bJ:=by
 intro b m n;unfold apart at h;have zb:=zz.2 b n;cases ht:iN ps with
 |sh o=>
  rw[ht] at h g;have:=g b m i zb;simp at h;exact h this
 |own=>
  rw[ht] at g;obtain⟨⟨o,w⟩,_⟩:=ok.zd b i zb;rw[g.2 b m] at w;cases w
 |lk=>
  rw[ht] at g;obtain⟨⟨o,w⟩,_⟩:=ok.zd b i zb;rw[g.2 b m] at w;cases w
noncomputable def xO(i:Nat)(cn m:Str)(G:MF)(g:AF):XF:=λρ=>match ρ[i]?,g ρ with
 |some (some (.ins c es,.own)),some ps=>if c=cn/\es.lookup m=none/\apart i ps=true then(G (.ins c es) (ps.map (·.1))).map λw=>(w.1,cL ρ i w.2) else none
 |_,_=>none
theorem acI(e:xO i cn m G g ρ=some (r,au)):∃es ps d1,ρ[i]? = some (some (.ins cn es,.own))/\g ρ=some ps/\es.lookup m=none/\apart i ps=true/\G (.ins cn es) (ps.map (·.1))=some (r,d1)/\au=cL ρ i d1:=by
 unfold xO at e
 split at e
 .rename_i c es ps h1 h2
  by_cases hc:c=cn/\es.lookup m=none/\apart i ps=true
  .rw[if_pos hc] at e;obtain⟨rfl,hm,ha⟩:=hc;cases h3:G (.ins c es) (ps.map (·.1)) with
   |none=>rw[h3] at e;cases e
   |some w=>
    rw[h3] at e;cases e;exact⟨es,ps,w.2,h1,h2,hm,ha,h3,rfl⟩
  .rw[if_neg hc] at e;cases e
 .cases e
def FZ(X:Cx)(e:Expr)(f:XF):Prop:=∃t,PE X e t/\∀(H0:Hp) (S:List Addr) (z:Addr->Option Nat) (held:List cI) (ρ:aK) (σ:St) (H:Hp) (Q:VK) (d:D) (au:aK),
 Ok X.K H0 S z held ρ σ H->f ρ=some (d,au)->(∀z' H' v,Ok X.K H0 S z' held au σ H'->Rep X.K H' d v []->Q v H')->t σ H Q
section
variable{X:Cx}{e:Expr}{es:List Expr}{g:AF}{m cn x:Str}{p1 apos pos:Pos}{k:Nat}{C f:Addr}{fd:FuncData}{ps:List Str}{G:MF}{pl:Sem Bool}{fx:XF}
theorem YN{i:Nat}{ta:TA}(hC:ClsAt X.K cn C)(hN:X.N[i]? = some x)
  (qa:∀(H0:Hp) (S:List Addr) (z:Addr->Option Nat) (held:List cI) (ρ:aK) (σ:St) (H:Hp) (Q:List V->Hp->Prop) (ps:List (D×Tag)),Ok X.K H0 S z held ρ σ H->g ρ=some ps->(∀H' vs fp,aL H H'->aA X.K H' (ps.map (·.1)) vs fp->cK z H (iN ps) fp->Q vs H')->ta σ H Q)
  {H0:Hp} (ok:Ok X.K H0 S z held ρ σ H) (e0:xO i cn m G g ρ=some (d,au)) (kk:∀z' H' v,Ok X.K H0 S z' held au σ H'->Rep X.K H' d v []->Q v H') :
  Aw C m (nL X.K G) [] E0 (Ar i) ta σ H Q:=by
 obtain⟨AU,qs,d1,h1,h2,hm,wg,hG,rfl⟩:=acI e0;obtain⟨v,bJ,hs,r0,zz⟩:=ok.sl i _ _ h1;refine⟨v,hs,?_⟩;obtain⟨b,dx,fs,gf,rfl,IS,h4,h5,h6,h7⟩:=r0.vJ hC.ns;refine⟨b,dx,fs,rfl,h4,Gz h6 hm,?_⟩;refine qa H0 S z held ρ σ H _ qs ok h2 λH2 vs mL s2 r2 g2=>?_
 rw[ady];have fG:=ok.same s2;refine⟨b,vs,_,bJ,_,mL,d,d1,rfl,r0.same s2,zz.1,r2,Ls ok wg g2 zz,hG,λH3 u cM im kp r1 nd fr rr=>?_⟩;obtain⟨z',lD⟩:=fG.put h1 hs zz im kp r1 nd fr;exact kk z' H3 u lD rr
theorem SR(i:Nat)(hC:ClsAt X.K cn C)(hm:oS X.K C m f)(GG:a_ X.prog X.w X.K X.mg X.base aJ k f fd ps (nL X.K G))(hr:cN k X.A)(hb:Binds X.K fd ps [])(ha:FA X (e::es) g)(hN:X.N[i]? = some x:=by rfl)
  (fY:gP X.env.scope x:=by first|exact Or.inl rfl|exact Or.inr (Or.inl rfl)|exact Or.inr (Or.inr rfl)) (hd:(x==("__debug__":Str))=false:=by decide) (cQ:(x==("__classdict__":Str))=false:=by decide)
  (ig:starEach (e::es) X.env=(false,eval e X.env)::starEach es X.env:=by rfl) (hpl:(backTo pos (starEach es X.env)).any (·.1)=false:=by rfl)
  (ht:eval (.Call (.Attribute (.Name x p1) m apos) (e::es) [] pos) X.env=(do
   let ov <- eval (.Name x p1) X.env
   standAt apos.atName
   let(f,first) <- holding [ov] (getMethod ov m pl)
   callWith pos f first (backTo pos (starEach (e::es) X.env)) (backToKw pos (keywordEach [] X.env))):=by rfl):FZ X (.Call (.Attribute (.Name x p1) m apos) (e::es) [] pos) (xO i cn m G g):=by
 obtain⟨ta,pa,_,qa⟩:=ha;exact⟨_,Nn (pl:=pl) (gX hN fY hd cQ) hC.cl hm GG hr hb .nil pA pa ig hpl ht,λH0 S z held ρ σ H Q d au ok e0 kk=>YN hC hN qa ok e0 kk⟩
noncomputable def sZ(f:XF):SF:=λρ=>(f ρ).map λw=>.nx w.2
theorem Zs(he:FZ X e fx)(iE:swapsWith e none pos.line X.env=pure false:=by rfl):fJ X (.Expr e pos) (sZ fx):=by
 obtain⟨t,p,q⟩:=he;refine⟨_,qR p iE,λH0 S z held ρ σ H E o ok e k=>?_⟩;unfold sZ at e;cases h:fx ρ with
 |none=>rw[h] at e;cases e
 |some w=>
  obtain⟨d,aG⟩:=w;rw[h] at e;cases e;exact q H0 S z held ρ σ H _ d aG ok h λz' H1 v cC r1=>k z' σ H1 cC (.refl _ _)
end
noncomputable def tu(cn:Str)(G:MF)(g:AF):EF:=λρ=>(g ρ).bind λps=>match G (.ins cn []) (ps.map (·.1)) with
 |some (.aE,d)=>some (d,.own)
 |_=>none
section
variable{X:Cx}{e:Expr}{es:List Expr}{g:AF}{cn x:Str}{p pos:Pos}{k:Nat}{C f:Addr}{fd:FuncData}{ps:List Str}{G:MF}
theorem Rq{ta:TA}(hn:PySem.W.nsIn X.K mainGlobals cn=some (some (.ref C)))
  (qa:∀(H0:Hp) (S:List Addr) (z:Addr->Option Nat) (held:List cI) (ρ:aK) (σ:St) (H:Hp) (Q:List V->Hp->Prop) (ps:List (D×Tag)),Ok X.K H0 S z held ρ σ H->g ρ=some ps->(∀H' vs fp,aL H H'->aA X.K H' (ps.map (·.1)) vs fp->cK z H (iN ps) fp->Q vs H')->ta σ H Q)
  (ok:Ok X.K H0 S z held ρ σ H) (e0:tu cn G g ρ=some (d,tg)) (kk:∀H' v fp,aL H H'->Rep X.K H' d v fp->cK z H tg fp->Q v H') :
  Nu C (nL X.K G) [] E0 ta σ H Q:=by
 unfold tu at e0;cases h2:g ρ with
 |none=>rw[h2] at e0;cases e0
 |some qs=>
  rw[h2,adk] at e0;cases h3:G (.ins cn []) (qs.map (·.1)) with
  |none=>rw[h3] at e0;cases e0
  |some w=>
   obtain⟨r,d1⟩:=w;rw[h3] at e0;cases r<;>try (cases e0;done)
   cases e0;refine qa H0 S z held ρ σ H _ qs ok h2 λH1 vs fp s1 r1 _=>?_
   intro b dx nb wZ ne;rw[ady];have s2:aL H1 (upd (upd H1 dx (.own b)) b (.ins C dx [])):=λc o e=>by rw[aY (dz e nb),aY (dz e wZ)];exact e
   refine⟨b,vs,.ins cn [],[b,dx],_,fp,.aE,d,rfl,.ins hn cB (by rw[aY ne];exact cB) rfl .nil,?_,r1.same s2,λc m n=>?_,h3,λH3 u cM im kp r3 nd fr rr=>?_⟩
   .exact acV.mpr ⟨λm=>ne (aa8.mp m).symm,acV.mpr ⟨(λm=>nomatch m),ac1⟩⟩
   .obtain⟨o,w,_⟩:=r1.cF c m;rcases abh.mp n with e|n
    .rw[e,nb] at w;cases w
    .rw[aa8.mp n,wZ] at w;cases w
   .cases rr;refine⟨rfl,kk H3 _ cM (λc o e=>?_) r3 ⟨nd,λc m=>?_⟩⟩
    .have e1:=s1 c o e;refine kp c o (λn=>?_) (s2 c o e1);rcases abh.mp n with q|n
     .rw[q,nb] at e1;cases e1
     .rw[aa8.mp n,wZ] at e1;cases e1
    .rcases fr c m with q|q
     .refine s1.free ?_;rcases abh.mp q with q|q
      .rw[q];exact nb
      .rw[aa8.mp q];exact wZ
     .exact s1.free (s2.free q)
theorem ab6(hn:PySem.W.nsIn X.K mainGlobals cn=some (some (.ref C)))(M:Mk X.K C f)(GG:a_ X.prog X.w X.K X.mg X.base aJ k f fd ps (nL X.K G))(hr:cN (k+1) X.A)(hm:X.mg x=some (.ref C))(hb:Binds X.K fd ps [])(hg:Gl X x:=by rfl)(e8:(x==("__debug__":Str))=false:=by decide):
  FP X (.Call (.Name x p) [] [] pos) (tu cn G aj):=
 ⟨_,PY M GG hr hg hm hb .nil pA e8,λH0 S z held ρ σ H Q d tg ok e0 kk=>Rq hn (λ_ _ _ _ _ _ H _ _ _ e q=>by cases e;exact q H _ _ (aL.refl H) .nil .nil) ok e0 kk⟩
end
def wU(X:Cx)(H0:Hp)(S:List Addr)(held:List cI)(gR:St)(E:Ends):Out->Prop
 |.nx ρ=>∀z σ H,Ok X.K H0 S z held ρ σ H->Kp X gR σ->E.nx σ H
 |.bk ρ=>∀z σ H,Ok X.K H0 S z held ρ σ H->Kp X gR σ->E.bk σ H
 |.ct ρ=>∀z σ H,Ok X.K H0 S z held ρ σ H->Kp X gR σ->E.ct σ H
 |.er raw cn ρ=>nV X H0 S held gR raw cn ρ
 |.rt p=>∃r d0,p=.tup [r,d0]/\∀z ρ σ H v,Ok X.K H0 S z held ρ σ H->ρ[0]? = some (some (d0,.own))->Kp X gR σ->Rep X.K H r v []->E.rt v H
def FM(X:Cx)(st:List Stmt)(f:SF):Prop:=∃t,gK X st t/\∀(H0:Hp) (S:List Addr) (z:Addr->Option Nat) (held:List cI) (ρ:aK) (σ:St) (H:Hp) (E:Ends) (o:Out),
 Ok X.K H0 S z held ρ σ H->f ρ=some o->wU X H0 S held σ E o->t E σ H
def qm(X:Cx)(st:Stmt)(f:SF):Prop:=∃t,PS X st t/\∀(H0:Hp) (S:List Addr) (z:Addr->Option Nat) (held:List cI) (ρ:aK) (σ:St) (H:Hp) (E:Ends) (o:Out),
 Ok X.K H0 S z held ρ σ H->f ρ=some o->wU X H0 S held σ E o->t E σ H
theorem wU.of{E:Ends}{o:Out}(k:wU X H0 S held σ E o)(a:Kp X σ aD):wU X H0 S held aD E o:=by
 cases o with
 |nx ρ=>exact λz s H ok b=>k z s H ok (a.trans b)
 |bk ρ=>exact λz s H ok b=>k z s H ok (a.trans b)
 |ct ρ=>exact λz s H ok b=>k z s H ok (a.trans b)
 |er raw cn ρ=>exact nV.of k a
 |rt d=>obtain⟨r,d0,e,k⟩:=k;exact⟨r,d0,e,λz ρ s H v ok h b=>k z ρ s H v ok h (a.trans b)⟩
noncomputable def cZ(f:SF):SF:=λρ=>match f ρ with
 |some (.nx au)=>some (.nx au)
 |some (.bk au)=>some (.bk au)
 |some (.ct au)=>some (.ct au)
 |some (.er raw cn au)=>some (.er raw cn au)
 |_=>none
section
variable{X:Cx}{pos:Pos}{st:Stmt}{rest:List Stmt}{f g:SF}
theorem jT(h:fJ X st f):qm X st (cZ f):=by
 obtain⟨t,p,q⟩:=h;refine⟨t,p,λH0 S z held ρ σ H E o ok e k=>?_⟩;unfold cZ at e;cases h:f ρ with
 |none=>rw[h] at e;cases e
 |some w=>
  rw[h] at e;refine q H0 S z held ρ σ H E w ok h ?_;cases w<;>first|(cases e;done)|(cases e;exact k)
theorem J0:FM X [] bx:=⟨_,HA,λ_ _ z _ _ σ H _ _ ok e k=>by cases e;exact k z σ H ok (.refl _ _)⟩
theorem xJ(h:qm X st f):FM X [st] f:=let⟨t,p,q⟩:=h;⟨t,tU p,q⟩
theorem Ci(h1:qm X st f)(h2:FM X rest g):FM X (st::rest) (aB f g):=by
 obtain⟨t,p,q⟩:=h1;obtain⟨t',p',q'⟩:=h2;refine⟨_,xY p p',λH0 S z held ρ σ H E o ok e k=>?_⟩;unfold aB at e;cases h:f ρ with
 |none=>rw[h] at e;cases e
 |some w=>
  refine q H0 S z held ρ σ H _ w ok h ?_;rw[h] at e;cases w with
  |nx au=>exact λz' aD H' bq a=>q' H0 S z' held au aD H' E o bq e (k.of a)
  |rt d=>cases e;exact k
  |bk au=>cases e;exact k
  |ct au=>cases e;exact k
  |er _ _ _=>cases e;exact k
theorem tM(hc:FT X c tc)(ha:FM X a f)(hb:FM X b g):qm X (.If c a b pos) (bG tc f g):=by
 obtain⟨t,p,q⟩:=hc;obtain⟨t1,p1,q1⟩:=ha;obtain⟨t2,p2,q2⟩:=hb;refine⟨_,Cg p p1 p2,λH0 S z held ρ σ H E o ok e k=>?_⟩;unfold bG at e;cases h:tc ρ with
 |none=>rw[h] at e;cases e
 |some y=>
  rw[h] at e;refine q H0 S z held ρ σ H _ y ok h λH1 s1=>?_
  cases y with
  |true=>rw[if_pos rfl];exact q1 H0 S z held ρ σ H1 E o (ok.same s1) e k
  |false=>rw[if_neg ab3];exact q2 H0 S z held ρ σ H1 E o (ok.same s1) e k
theorem Jp:qm X st pJ:=⟨_,HR,λ_ _ _ _ _ _ _ _ _ _ e _=>by cases e⟩
noncomputable def yR(f:EF):SF:=λρ=>match f ρ,ρ[0]? with
 |some (r,_),some (some (d0,Tag.own))=>if aH r=true then some (.rt (.tup [r,d0])) else none
 |_,_=>none
theorem V4{f:EF}(he:FP X e f):qm X (.Return (some e) pos) (yR f):=by
 obtain⟨t,p,q⟩:=he;refine⟨_,oW p,λH0 S z held ρ σ H E o ok e k=>?_⟩;unfold yR at e
 split at e
 .rename_i r tg d0 h1 h2
  by_cases hi:aH r=true
  .rw[if_pos hi] at e;cases e;obtain⟨r',KO,ee,k⟩:=k;cases ee;refine q H0 S z held ρ σ H _ _ _ ok h1 λH1 v fp s1 r1 _=>?_
   have hn:=r1.aH hi;subst hn;exact k z ρ σ H1 v (ok.same s1) h2 (.refl _ _) r1
  .rw[if_neg hi] at e;cases e
 .cases e
noncomputable def acR(f:XF):SF:=λρ=>match f ρ with
 |some (r,au)=>match au[0]? with
  |some (some (d0,Tag.own))=>some (.rt (.tup [r,d0]))
  |_=>none
 |none=>none
end
noncomputable def oH(n:Nat)(d0:D)(ds:List D):aK:=some (d0,.own)::(ds.map (λd=>some (d,.sh []))++List.replicate (n-(ds.length+1)) none)
noncomputable def runM(n N:Nat)(b:SF):MF:=λd0 ds=>if ds.length + 1=n then(match b (oH N d0 ds) with
 |some (.rt (.tup [r,d1]))=>some (r,d1)
 |some (.nx ρ)=>match ρ[0]? with
  |some (some (d1,Tag.own))=>some (.aE,d1)
  |_=>none
 |_=>none) else none
theorem aA.J1{K:PySem.W.Frag}{i:Nat}(r:aA K H ds vs fp)(e:ds[i]? = some d):∃v f,vs[i]? = some v/\Rep K H d v f/\∀a∈f,a∈fp:=r.get e
section
variable{P:Program}{w:World}{K:PySem.W.Frag}{mg:Str->Option Value}{base:Heap}
theorem Ka{st:Stmt}{f:Addr}(F:bI K x qual st f fd)(S:cz N ps (aV st))(h0:N[0]? = some ("self":Str))(r8:ps.length<=N.length)
  (hb:∀(aT:Value) (A:Around) (outer:List Env) (s:Shared) (H:Hp) (E:XK),cN k (A.deeper (envOfC qual (aV st) s.heap.objs.size f aT))->FM (kD aJ P w K mg base N qual (aV st) f aT A outer s H E).gq (kL st) b) :
  a_ P w K mg base aJ (k+1) f fd ps (nL K (runM ps.length N.length b)):=by
 classical
 refine F.ok S (λvs H Q E h=>?_) λaT A outer s H vs Q E hr h=>?_
 .obtain⟨a,ws,d0,bJ,ds,gi,r,d1,rfl,_,_,rs,_,e,_⟩:=h;unfold runM at e
  by_cases hl:ds.length+1=ps.length
  .rw[acS,<- rs.length,hl]
  .rw[if_neg hl] at e;cases e
 .obtain⟨a,ws,d0,bJ,ds,gi,r,d1,rfl,r0,GP,rs,dj,e,q⟩:=h;obtain⟨t,pt,sd⟩:=hb aT A outer s H E hr;refine⟨t,pt,?_⟩;unfold runM at e
  by_cases hl:ds.length+1=ps.length
  .rw[if_pos hl] at e;have lw:=rs.length;have ok:Ok K H bJ (λc=>if c∈bJ then some 0 else none) [] (oH N.length d0 ds) (start N (V.ref a::ws)) H:=by
    refine⟨λi d t e'=>?_,λp m=>(nomatch m),λc j e'=>?_,λc o e' _=>e',?_⟩
    .cases i with
     |zero=>
      have e':=e';cases e';exact⟨.ref a,bJ,rfl,r0,GP,λc m=>if_pos m⟩
     |succ i=>
      have e':(ds.map (λd=>some (d,Tag.sh []))++List.replicate (N.length-(ds.length+1)) none)[i]? = some (some (d,t)):=e'
      by_cases hi:i<ds.length
      .rw[adC (by rw[List.length_map];exact hi),acX] at e';cases ed:ds[i]? with
       |none=>rw[ed] at e';cases e'
       |some d'=>
        rw[ed] at e';cases e';obtain⟨v,g,hv,rv,sub⟩:=rs.J1 ed;refine⟨v,g,?_,rv,λc m j nP=>?_⟩
        .show(some (V.ref a)::(ws.map some++List.replicate (N.length-(ws.length+1)) none))[i+1]? = _;rw[List.getElem?_cons_succ,adC (by rw[List.length_map,<- lw];exact hi),acX,hv];rfl
        .have nP:(if c∈bJ then some 0 else none)=some j:=nP;rw[if_neg (dj c (sub c m))] at nP;cases nP
      .rw[ad7 (by rw[List.length_map];omega),ae0] at e'
       split at e'<;>cases e'
    .have e':=e'
     by_cases m:c∈bJ
     .obtain⟨o,w,_⟩:=r0.cF c m;exact⟨⟨o,w⟩,.inr m⟩
     .rw[if_neg m] at e';cases e'
    .unfold oH start;rw[acS,acZ,acZ,List.length_map,List.length_map,aef,aef,acS,lw];omega
   have fin:∀{z:Addr->Option Nat}{ρ:aK}{σ:St}{H':Hp}{v:V},Ok K H bJ z [] ρ σ H'->ρ[0]? = some (some (d1,.own))->Kp (kD aJ P w K mg base N qual (aV st) f aT A outer s H E).gq (start N (V.ref a::ws)) σ->Rep K H' r v []->Q v H':=by
    intro z ρ σ H' v bq h1 kp rr;obtain⟨u,cM,hs,r1,zz⟩:=bq.sl 0 d1 .own h1;have hk:=kp 0 _ h0 rfl;have hk:=hk;rw[hk] at hs;cases hs;refine q H' v cM ⟨λc xs e'=>?_,λc o u e'=>?_,λc φ e'=>?_⟩ (λc o n e'=>bq.en c o e' n) r1 zz.1 (λc m=>?_) rr
    .refine bq.en c _ e' λm=>?_
     obtain⟨o,w,mo⟩:=r0.cF c m;rw[e'] at w;cases w;cases mo
    .refine bq.en c _ e' λm=>?_
     obtain⟨o,w,mo⟩:=r0.cF c m;rw[e'] at w;cases w;cases mo
    .refine bq.en c _ e' λm=>?_
     obtain⟨o,w,mo⟩:=r0.cF c m;rw[e'] at w;cases w;cases mo
    .exact((bq.zd c 0 (zz.2 c m)).2).symm.imp id id
   cases ho:b (oH N.length d0 ds) with
   |none=>rw[ho] at e;cases e
   |some o=>
    rw[ho] at e;refine sd H bJ _ [] _ _ H _ o ok ho ?_;cases o with
    |rt p=>
     have hp:p=.tup [r,d1]:=by
      split at e<;>rename_i hh
      .cases e;cases hh;rfl
      .cases hh
      .cases e
     exact⟨r,d1,hp,λz ρ σ H' v bq h1 kp rr=>fin bq h1 kp rr⟩
    |nx au=>
     dsimp only at e
     split at e
     .rename_i dd h1;cases e;exact λz σ H' bq kp=>fin bq h1 kp .aE
     .cases e
    |bk _=>cases e
    |ct _=>cases e
    |er _ _ _=>cases e
  .rw[if_neg hl] at e;cases e
end
noncomputable def gW(f:Str)(d:D):List (Str×D)->List (Str×D)
 |[]=>[(f,d)]
 |(g,x)::r=>if g=f then(g,d)::r else(g,x)::gW f d r
theorem OA:∀{es:List (Str×D)}{fs:List (Str×V)},es.map (·.1)=fs.map (·.1)->(gW f d es).map (·.1)=(eK f v fs).map (·.1)
 |[],[],_=>rfl
 |[],_::_,k=>by simp at k
 |_::_,[],k=>by simp at k
 |(x,d0)::es,(y,v0)::fs,k=>by
  simp only[aaH,aez] at k;obtain⟨rfl,k⟩:=k;unfold gW eK
  by_cases hx:x=f
  .rw[if_pos hx,if_pos hx,aaH,aaH,k]
  .rw[if_neg hx,if_neg hx,aaH,aaH,OA k]
theorem N6:∀{es:List (Str×D)},es.lookup f=some d0->(gW f d es).map (·.1)=es.map (·.1)
 |[],e=>by cases e
 |(x,d1)::es,e=>by
  unfold gW
  by_cases hx:x=f
  .rw[if_pos hx];rfl
  .have hb:=adF.mpr λq=>hx q.symm
   simp only[List.lookup,hb] at e;rw[if_neg hx,aaH,N6 e];rfl
section
variable{K:PySem.W.Frag}{H H':Hp}
theorem aA.eK(rd:Rep K H d v fd):∀{es:List (Str×D)}{fs:List (Str×V)}{g:List Addr},es.map (·.1)=fs.map (·.1)->aA K H (es.map (·.2)) (fs.map (·.2)) g->
  ∃g',aA K H ((gW f d es).map (·.2)) ((L2.eK f v fs).map (·.2)) g'/\(∀a∈g',a∈g\/a∈fd)/\(g.Nodup->fd.Nodup->(∀a∈fd,a∉g)->g'.Nodup)
 |[],[],_,_,r=>by
  cases r;exact⟨fd++[],.cons rd .nil,λa m=>.inr (by simpa using m),λ_ n _=>by simpa using n⟩
 |[],_::_,_,k,_=>by simp at k
 |_::_,[],_,k,_=>by simp at k
 |(x,d0)::es,(y,v0)::fs,_,k,r=>by
  simp only[aaH,aez] at k;obtain⟨rfl,k⟩:=k;cases r with
  | @cons _ _ _ _ f1 f2 r1 r2=>
   unfold gW L2.eK
   by_cases hx:x=f
   .rw[if_pos hx,if_pos hx];refine⟨fd++f2,.cons rd r2,λa m=>(acW.mp m).elim .inr λm=>.inl (acQ _ m),λn1 n2 n3=>?_⟩;exact adv.mpr ⟨n2,(adv.mp n1).2.1,λa ma b mb e=>n3 a ma (acQ _ (e ▸ mb))⟩
   .rw[if_neg hx,if_neg hx];obtain⟨g',h1,h2,h3⟩:=aA.eK rd k r2;refine⟨f1++g',.cons r1 h1,λa m=>?_,λn1 n2 n3=>?_⟩
    .rcases acW.mp m with m|m
     .exact .inl (ac7 _ m)
     .exact(h2 a m).imp (acQ _) id
    .obtain⟨a1,a2,a3⟩:=adv.mp n1;refine adv.mpr ⟨a1,h3 a2 n2 (λa m q=>n3 a m (acQ _ q)),λa ma b mb e=>?_⟩;rcases h2 b mb with q|q
     .exact a3 a ma b q e
     .exact n3 b q (ac7 _ (e ▸ ma))
theorem aA.place:∀{es:List (Str×D)}{fs:List (Str×V)}{g:List Addr},es.map (·.1)=fs.map (·.1)->aA K H (es.map (·.2)) (fs.map (·.2)) g->g.Nodup->es.lookup f=some d0->
  ∃v gf,fs.lookup f=some v/\Rep K H d0 v gf/\gf.Nodup/\(∀a∈gf,a∈g)/\∀(H':Hp) (d1:D) (g1:List Addr),bW H H'->(∀b o,b∉gf->H b=some o->H' b=some o)->Rep K H' d1 v g1->g1.Nodup->(∀b∈g1,b∈gf\/H b=none)->
   ∃g',aA K H' ((gW f d1 es).map (·.2)) (fs.map (·.2)) g'/\g'.Nodup/\∀b∈g',b∈g\/H b=none
 |[],_,_,_,_,_,e=>by cases e
 |_::_,[],_,k,_,_,_=>by simp at k
 |(x,d)::es,(y,v0)::fs,_,k,r,nd,e=>by
  simp only[aaH,aez] at k;obtain⟨rfl,k⟩:=k;cases r with
  | @cons _ _ _ _ f1 f2 r1 r2=>
   obtain⟨a1,a2,a3⟩:=adv.mp nd
   by_cases hx:x=f
   .subst hx;have hb:=aeo x;simp only[List.lookup,hb] at e ⊢;cases e;refine⟨v0,f1,rfl,r1,a1,λa m=>ac7 _ m,λH' d1 g1 im kp rr n1 fr=>?_⟩;refine⟨g1++f2,?_,adv.mpr ⟨n1,a2,λa ma b mb e=>?_⟩,λb m=>?_⟩
    .unfold gW;rw[if_pos rfl];refine .cons rr (r2.frame (λa m=>?_) im);obtain⟨o,w,_⟩:=r2.cF a m;rw[kp a o (λq=>a3 a q a m rfl) w,w]
    .subst e;obtain⟨o,w,_⟩:=r2.cF a mb;rcases fr a ma with q|q
     .exact a3 a q a mb rfl
     .rw[q] at w;cases w
    .rcases acW.mp m with m|m
     .exact(fr b m).imp (ac7 _) id
     .exact .inl (acQ _ m)
   .have hb:=adF.mpr λq=>hx q.symm
    simp only[List.lookup,hb] at e ⊢;obtain⟨v,gf,h1,h2,h3,h4,h5⟩:=aA.place k r2 a2 e;refine⟨v,gf,h1,h2,h3,λa m=>acQ _ (h4 a m),λH' d1 g1 im kp rr n1 fr=>?_⟩;obtain⟨g',c1,c2,c3⟩:=h5 H' d1 g1 im kp rr n1 fr;refine⟨f1++g',?_,adv.mpr ⟨a1,c2,λa ma b mb e=>?_⟩,λb m=>?_⟩
    .unfold gW;rw[if_neg hx];refine .cons (r1.frame (λa m=>?_) im) c1;obtain⟨o,w,_⟩:=r1.cF a m;rw[kp a o (λq=>a3 a m a (h4 a q) rfl) w,w]
    .subst e;obtain⟨o,w,_⟩:=r1.cF a ma;rcases c3 a mb with q|q
     .exact a3 a ma a q rfl
     .rw[q] at w;cases w
    .rcases acW.mp m with m|m
     .exact .inl (ac7 _ m)
     .exact(c3 b m).imp (acQ _) id
theorem Rep.place{cn f:Str}{es:List (Str×D)}{v:V}(r:Rep K H (.ins cn es) v fp)(hn:PySem.W.nsIn K mainGlobals cn=some (some (.ref C)))(nd:fp.Nodup)(e:es.lookup f=some d0):
  ∃a dx fs u gf,v=.ref a/\H a=some (.ins C dx fs)/\fs.lookup f=some u/\Rep K H d0 u gf/\gf.Nodup/\(∀b∈gf,b∈fp)/\∀(H':Hp) (d1:D) (g1:List Addr),bW H H'->(∀b o,b∉gf->H b=some o->H' b=some o)->Rep K H' d1 u g1->g1.Nodup->(∀b∈g1,b∈gf\/H b=none)->
   ∃cM,Rep K H' (.ins cn (gW f d1 es)) v cM/\cM.Nodup/\∀b∈cM,b∈fp\/H b=none:=by
 obtain⟨a,dx,fs,g,rfl,rfl,h1,h2,h3,h4⟩:=r.vJ hn;obtain⟨n1,n2⟩:=acV.mp nd;obtain⟨n3,n4⟩:=acV.mp n2;obtain⟨u,gf,c1,c2,c3,c4,c5⟩:=aA.place h3 h4 n4 e;refine⟨a,dx,fs,u,gf,rfl,h1,c1,c2,c3,λb m=>aaY _ (aaY _ (c4 b m)),λH' d1 g1 im kp rr m1 fr=>?_⟩;obtain⟨g',e1,e2,e3⟩:=c5 H' d1 g1 im kp rr m1 fr;have ka:=kp a _ (λq=>n1 (aaY _ (c4 a q))) h1;have kd:=kp dx _ (λq=>n3 (c4 dx q)) h2;refine⟨a::dx::g',.ins hn ka kd (by rw[N6 e];exact h3) e1,?_,λb m=>?_⟩
 .refine acV.mpr ⟨λm=>?_,acV.mpr ⟨λm=>?_,e2⟩⟩
  .rcases abh.mp m with q|m
   .exact n1 (by rw[q];exact aaF)
   .rcases e3 a m with q|q
    .exact n1 (aaY _ q)
    .rw[h1] at q;cases q
  .rcases e3 dx m with q|q
   .exact n3 q
   .rw[h2] at q;cases q
 .rcases abh.mp m with q|m
  .exact .inl (by rw[q];exact aaF)
  .rcases abh.mp m with q|m
   .exact .inl (by rw[q];exact aaY _ aaF)
   .exact(e3 b m).imp (λq=>aaY _ (aaY _ q)) id
end
noncomputable def GW(i:Nat)(cn f:Str)(fv:EF):SF:=λρ=>match fv ρ,ρ[i]? with
 |some (d,t),some (some (.ins c es,.own))=>if c=cn/\es.length<1000/\(kh t||aH d)=true then some (.nx (cL ρ i (.ins c (gW f d es)))) else none
 |_,_=>none
section
variable{X:Cx}{a:Expr}{fv:EF}{pos pos' p1 p2 p3:Pos}{x cn f:Str}{C:Addr}
theorem Pd(i:Nat)(hC:ClsAt X.K cn C)(na:jE X.K C f)(hv:FP X a fv)(hN:X.N[i]? = some x:=by rfl)(fY:gP X.env.scope x:=by first|exact Or.inl rfl|exact Or.inr (Or.inl rfl)|exact Or.inr (Or.inr rfl))(hd:(x==("__debug__":Str))=false:=by decide)
  (cQ:(x==("__classdict__":Str))=false:=by decide) (hs:swapsWith a (some (.Attribute (.Name x p1) f pos')) pos.line X.env=pure false:=by rfl):fJ X (.Assign [.Attribute (.Name x p1) f pos'] a pos) (GW i cn f fv):=by
 obtain⟨t,p,q⟩:=hv;refine⟨_,VQ (gX (i:=i) hN fY hd cQ) p hs,λH0 S z held ρ σ H E o ok e k=>?_⟩;unfold GW at e
 split at e
 .rename_i d tg c es h1 h2
  by_cases hc:c=cn/\es.length<1000/\(kh tg||aH d)=true
  .rw[if_pos hc] at e;cases e;obtain⟨rfl,hl,ho⟩:=hc;obtain⟨v,bJ,bN,r0,zz⟩:=ok.sl i _ _ h2;refine q H0 S z held ρ σ H _ d tg ok h1 λH1 y fd s1 r1 g1=>?_
   refine⟨v,bN,?_⟩;obtain⟨b,dx,fs,g,rfl,rfl,h3,h4,h5,h6⟩:=(r0.same s1).vJ hC.ns;have lf:fs.length<1000:=by have:=congrArg List.length h5;rw[List.length_map,List.length_map] at this;omega
   refine⟨b,C,dx,fs,rfl,h3,hC.cl,na,lf,?_⟩;have iT:fd.Nodup/\∀c∈fd,c∉(b::dx::g):=by
    rcases(afo _ _).mp ho with h|h
    .have g:fd.Nodup/\∀a∈fd,H a=none:=by cases tg<;>first|exact g1|cases h
     refine⟨g.1,λc m n=>?_⟩;obtain⟨⟨o,w⟩,_⟩:=ok.zd c i (zz.2 c n);rw[g.2 c m] at w;cases w
    .have:=r1.aH h;subst this;exact⟨ac1,λc m=>(nomatch m)⟩
   have zz1:=zz;obtain⟨n1,n2⟩:=acV.mp zz.1;obtain⟨n3,n4⟩:=acV.mp n2;have im:bW H1 (upd H1 b (.ins C dx (L2.eK f y fs))):=bW.upd h3 rfl;have kp:∀c o,c∉(b::dx::g)->H1 c=some o->upd H1 b (.ins C dx (L2.eK f y fs)) c=some o:=λc o n e=>by rw[aY λq=>n (by rw[q];exact aaF)];exact e
   have vQ:=r1.frame (λc m=>aY λq=>iT.2 c m (by rw[q];exact aaF)) im;have mJ:aA X.K (upd H1 b (.ins C dx (L2.eK f y fs))) (es.map (·.2)) (fs.map (·.2)) g:=h6.frame (λc m=>aY λq=>n1 (by rw[<- q];exact aaY _ m)) im;obtain⟨g',c1,c2,c3⟩:=aA.eK vQ h5 mJ;have Bt:(b::dx::g').Nodup:=by
    refine acV.mpr ⟨λm=>?_,acV.mpr ⟨λm=>?_,c3 n4 iT.1 λc m n=>iT.2 c m (aaY _ (aaY _ n))⟩⟩
    .rcases abh.mp m with q|m
     .exact n1 (by rw[q];exact aaF)
     .rcases c2 b m with q|q
      .exact n1 (aaY _ q)
      .exact iT.2 b q aaF
    .rcases c2 dx m with q|q
     .exact n3 q
     .exact iT.2 dx q (aaY _ aaF)
   obtain⟨z',bq⟩:=ok.put (cM:=b::dx::g') (d1:=.ins c (gW f d es)) h2 bN zz ((bW.of s1).trans im) (λc o n e=>kp c o n (s1 c o e)) (.ins hC.ns cB (by rw[aY λq=>n1 (by rw[q];exact aaF)];exact h4) (OA h5) c1) Bt λc m=>by
    rcases abh.mp m with q|m
    .exact .inl (by rw[q];exact aaF)
    .rcases abh.mp m with q|m
     .exact .inl (by rw[q];exact aaY _ aaF)
     .rcases c2 c m with q|q
      .exact .inl (aaY _ (aaY _ q))
      .rcases(afo _ _).mp ho with h|h
       .have g:fd.Nodup/\∀a∈fd,H a=none:=by cases tg<;>first|exact g1|cases h
        exact .inr (g.2 c q)
       .have:=r1.aH h;rw[this] at q;cases q
   exact k z' σ _ bq (.refl _ _)
  .rw[if_neg hc] at e;cases e
 .cases e
end
section
variable{X:Cx}{a b c:Expr}{fa fb fc fv:EF}{p p1 p2 p3 pos:Pos}
theorem tD{tk:Tok}(hm:X.mg x=some (.int n tk))(hg:Gl X x:=by rfl)(hd:(x==("__debug__":Str))=false:=by decide):FP X (.Name x pos) (eC (.int n)):=
 ⟨_,QF hg hm (v:=.int n) ⟨_,rfl⟩ hd,λ_ _ _ _ _ _ H _ _ _ _ e q=>by cases e;exact q H _ _ (aL.refl H) (.int n) .nil⟩
noncomputable def pI(o o':D->D->Option D)(fa fb fc:EF):EF:=λρ=>match fa ρ,fb ρ with
 |some (d1,_),some (d2,_)=>match o d1 d2 with
  |some (.bl true)=>match fc ρ with
   |some (d3,_)=>(o' d2 d3).map λd=>(d,.own)
   |none=>none
  |some (.bl false)=>some (.bl false,.own)
  |_=>none
 |_,_=>none
theorem Tw{op qG:CmpOp}{r r':R2}{o o':D->D->Option D}(ho:dM X (compareOp op) r)(lu:dM X (compareOp qG) r')(dd:gZ X.K r o)(pB:gZ X.K r' o')(ha:FP X a fa)(hb:FP X b fb)(hc:FP X c fc)(hm:lastMarks [op,qG] [b,c]=false:=by with_unfolding_all rfl):
  FP X (.Compare a [op,qG] [b,c] pos) (pI o o' fa fb fc):=by
 obtain⟨ta,pa,sa⟩:=ha;obtain⟨tb,pb,sb⟩:=hb;obtain⟨tc,pc,sc⟩:=hc;refine⟨_,Rr ho lu pa pb pc hm,λH0 S z held ρ σ H Q d tg ok e k=>?_⟩;unfold pI at e
 split at e
 .rename_i d1 t1 d2 t2 e1 e2;refine sa H0 S z held ρ σ H _ d1 t1 ok e1 λH1 x f1 s1 r1 _=>?_
  refine sb H0 S z held ρ σ H1 _ d2 t2 (ok.same s1) e2 λH2 y f2 s2 r2 _=>?_
  cases h:o d1 d2 with
  |none=>rw[h] at e;cases e
  |some w=>
   refine dd H2 x y d1 d2 f1 f2 w _ (r1.same s2) r2 h λH3 u s3 r3=>?_
   rw[h] at e;cases w<;>try (cases e;done)
   rename_i b';cases r3;refine⟨b',rfl,?_⟩;cases b' with
   |false=>
    cases e;rw[if_neg ab3];exact k H3 _ [] ((s1.trans s2).trans s3) (.bl false) .nil
   |true=>
    rw[if_pos rfl];dsimp only at e;cases h3:fc ρ with
    |none=>rw[h3] at e;cases e
    |some w3=>
     obtain⟨d3,t3⟩:=w3;rw[h3] at e;dsimp only at e;cases h4:o' d2 d3 with
     |none=>rw[h4] at e;cases e
     |some d4=>
      rw[h4] at e;cases e;refine sc H0 S z held ρ σ H3 _ d3 t3 (((ok.same s1).same s2).same s3) h3 λH4 w' f4 s4 r4 _=>?_
      exact pB H4 y w' d2 d3 f2 f4 d Q ((r2.same s3).same s4) r4 h4 λH5 v5 s5 r5=>k H5 v5 [] ((((s1.trans s2).trans s3).trans s4).trans s5) r5 .nil
 .cases e
theorem ZR(ha:FP X a fa)(hb:FP X b fb)(hc:FP X c fc)(hm:lastMarks [.LtE,.LtE] [b,c]=false:=by with_unfolding_all rfl):FP X (.Compare a [.LtE,.LtE] [b,c] pos) (pI oLe oLe fa fb fc):=Tw FU FU r_ r_ ha hb hc hm
noncomputable def qq(neg:Bool):D->D->Option D:=λkd dd=>match dd with
 |.bD es=>(iP kd).map λk=>.bl (if neg=true then !(fu es k).isSome else(fu es k).isSome)
 |_=>none
def Yx(neg:Bool):R2:=λy x H Q=>∃a o,x=.ref a/\jf H a y o/\Q (.bl (if neg=true then !o.isSome else o.isSome)) H
theorem WJ{K:PySem.W.Frag}:gZ K (Yx neg) (qq neg):=by
 intro H y x d1 d2 f1 f2 d Q r1 r2 e k;cases r2 with
 | @bD a kvs es fp h hk rs=>
  have e:((iP d1).map λk=>D.bl (if neg=true then !(fu es k).isSome else(fu es k).isSome))=some d:=e;cases kU:iP d1 with
  |none=>rw[kU] at e;cases e
  |some key=>
   rw[kU] at e;cases e;have ek:=r1.key kU;subst ek;have ev:(iU kvs key).isSome=(fu es key).isSome:=by
    obtain⟨h1,h2⟩:=AD hk rs;cases hv:fu es key with
    |none=>rw[h2 hv];rfl
    |some dv=>obtain⟨v,f,vI,_⟩:=h1 dv hv;rw[vI];rfl
   refine⟨a,iU kvs key,rfl,jf.k h,?_⟩;rw[ev];exact k H _ (aL.refl H) (.bl _)
 |_=>cases e
theorem P5(hu:X.A.units+1<cLine)(ha:FP X a fa)(hb:FP X b fb)(hm:behindInMarks .In b=false:=by rfl):FP X (.Compare a [.In] [b] pos) (e2 (qq false) fa fb):=
 fp_2 WJ ha hb λta tb pa pb=>Zr (RN hu pa pb) hm
end
section
variable{X:Cx}{a b o:Expr}{fa fb fv fo:EF}{p p1 p2 p3 pos:Pos}{x cn f:Str}{C:Addr}
noncomputable def L6(i:Nat)(fv:EF):SF:=λρ=>match fv ρ,ρ[i]? with
 |some (d,t),some (some (.lst ds,.own))=>if((kh t||aH d)&&decide (ds.length<sizeLine))=true then some (.nx (cL ρ i (.lst (ds++[d])))) else none
 |_,_=>none
theorem ads(i:Nat)(hv:FP X a fv)(hN:X.N[i]? = some x:=by rfl)(fY:gP X.env.scope x:=by first|exact Or.inl rfl|exact Or.inr (Or.inl rfl)|exact Or.inr (Or.inr rfl))
  (hd:(x==("__debug__":Str))=false:=by decide) (cQ:(x==("__classdict__":Str))=false:=by decide) (hs:starEach [a] X.env=[(false,eval a X.env)]:=by rfl)
  (iu:attributeBase (.Name x p1) "append" X.env (eval (.Name x p1) X.env)=eval (.Name x p1) X.env:=by rfl)
  (jK:((backTo p3 (starEach [a] X.env)).all (λx=>!x.1)&&(backToKw p3 (keywordEach [] X.env)).all (λx=>x.1.isSome)&&decide ([a].length+([]:List Keyword).length+(if([]:List Keyword).isEmpty then 0 else 1)<30))=true:=by rfl)
  (iD:(p2.endLine==p3.line)=true:=by rfl) (iE:swapsWith (.Call (.Attribute (.Name x p1) "append" p2) [a] [] p3) none pos.line X.env=pure false:=by rfl) :
  fJ X (.Expr (.Call (.Attribute (.Name x p1) "append" p2) [a] [] p3) pos) (L6 i fv):=by
 obtain⟨tv,mZ,sv⟩:=hv;refine⟨_,qR (zv PySem.F.plainAttrs_list PySem.F.slot_list_append PySem.F.type_list_append vE (gX (i:=i) hN fY hd cQ) (c_ mZ fM hs) iu jK iD hs rfl) iE,λH0 S z held ρ σ H E o ok e q=>?_⟩;unfold L6 at e
 split at e
 .rename_i d td ds g1 g2
  by_cases hc:((kh td||aH d)&&decide (ds.length<sizeLine))=true
  .rw[if_pos hc] at e;cases e;obtain⟨c1,c3⟩:=(acr _ _).mp hc;obtain⟨xv,fp,bN,r,zz⟩:=ok.sl i _ _ g2;refine⟨xv,bN,?_⟩;obtain⟨l,xs,f,rfl,hq,_,_⟩:=r.e7;refine⟨.inl ⟨rfl,_,hq⟩,?_⟩;refine sv H0 S z held ρ σ H _ d td ok g1 λH1 v fd s1 rv gv=>?_
   have r':=r.same s1;generalize hw:(V.ref l)=w at r' bN;cases r' with
   | @lst a' ys _ f' h rs=>
    cases hw;have iT:fd.Nodup/\(∀c∈fd,c∉(l::f'))/\∀c∈fd,H c=none:=by
     rcases(afo _ _).mp c1 with hh|hh
     .have g:fd.Nodup/\∀a∈fd,H a=none:=by cases td<;>first|exact gv|cases hh
      refine⟨g.1,λc m n=>?_,g.2⟩;obtain⟨⟨o,w⟩,_⟩:=ok.zd c i (zz.2 c n);rw[g.2 c m] at w;cases w
     .have:=rv.aH hh;subst this;exact⟨ac1,λc m=>(nomatch m),λc m=>(nomatch m)⟩
    refine⟨_,ys,v,rfl,rfl,h,by rw[<- rs.length];exact ac5 c3,?_⟩;obtain⟨n1,n2⟩:=acV.mp zz.1;have im:bW H1 (upd H1 l (.lst (ys++[v]))):=bW.upd h rfl;have mJ:=rs.frame (H':=upd H1 l (.lst (ys++[v]))) (λc m=>aY λq=>n1 (by rw[<- q];exact m)) im;have vQ:=rv.frame (H':=upd H1 l (.lst (ys++[v]))) (λc m=>aY λq=>iT.2.1 c m (by rw[q];exact aaF)) im;have mW:(l::(f'++(fd++[]))).Nodup:=by
     rw[ady];refine acV.mpr ⟨λm=>?_,adv.mpr ⟨n2,iT.1,λc mc e me ee=>iT.2.1 e me (by rw[<- ee];exact aaY _ mc)⟩⟩;rcases acW.mp m with m|m
     .exact n1 m
     .exact iT.2.1 l m aaF
    have DZ:∀c∈l::(f'++(fd++[])),c∈l::f'\/H c=none:=by
     intro c m;rw[ady] at m;rcases abh.mp m with q|m
     .exact .inl (by rw[q];exact aaF)
     .rcases acW.mp m with m|m
      .exact .inl (aaY _ m)
      .exact .inr (iT.2.2 c m)
    obtain⟨z',bq⟩:=ok.put (cM:=l::(f'++(fd++[]))) (d1:=.lst (ds++[d])) g2 bN zz ((bW.of s1).trans im) (λc o n e=>by rw[aY λq=>n (by rw[q];exact aaF)];exact s1 c o e)
     (.lst cB (aA.append mJ (.cons vQ .nil))) mW DZ
    exact q z' σ _ bq (.refl _ _)
  .rw[if_neg hc] at e;cases e
 .cases e
noncomputable def rJ(i:Nat)(cn f:Str)(fv:EF):SF:=λρ=>match fv ρ,ρ[i]? with
 | some (d,_),some (some (.ins c es,.own))=>if c=cn then(match es.lookup f with
  |some (.lst ds)=>if(aH d&&aN ds&&decide (ds.length<sizeLine))=true then some (.nx (cL ρ i (.ins c (gW f (.lst (ds++[d])) es)))) else none
  |_=>none) else none
 |_,_=>none
theorem YB(i:Nat)(hC:ClsAt X.K cn C)(na:jE X.K C f)(hv:FP X a fv)(hN:X.N[i]? = some x:=by rfl)(fY:gP X.env.scope x:=by first|exact Or.inl rfl|exact Or.inr (Or.inl rfl)|exact Or.inr (Or.inr rfl))
  (hd:(x==("__debug__":Str))=false:=by decide) (cQ:(x==("__classdict__":Str))=false:=by decide) (hs:starEach [a] X.env=[(false,eval a X.env)]:=by rfl)
  (hb:attributeBase (.Name x p) f X.env (eval (.Name x p) X.env)=eval (.Name x p) X.env:=by rfl)
  (iu:attributeBase (.Attribute (.Name x p) f p1) "append" X.env (eval (.Attribute (.Name x p) f p1) X.env)=eval (.Attribute (.Name x p) f p1) X.env:=by rfl)
  (jK:((backTo p3 (starEach [a] X.env)).all (λx=>!x.1)&&(backToKw p3 (keywordEach [] X.env)).all (λx=>x.1.isSome)&&decide ([a].length+([]:List Keyword).length+(if([]:List Keyword).isEmpty then 0 else 1)<30))=true:=by rfl)
  (iD:(p2.endLine==p3.line)=true:=by rfl) (iE:swapsWith (.Call (.Attribute (.Attribute (.Name x p) f p1) "append" p2) [a] [] p3) none pos.line X.env=pure false:=by rfl) :
  fJ X (.Expr (.Call (.Attribute (.Attribute (.Name x p) f p1) "append" p2) [a] [] p3) pos) (rJ i cn f fv):=by
 obtain⟨tv,mZ,sv⟩:=hv;refine⟨_,qR (zv PySem.F.plainAttrs_list PySem.F.slot_list_append PySem.F.type_list_append vE (Ic (gX (i:=i) hN fY hd cQ) hb) (c_ mZ fM hs) iu jK iD hs rfl) iE,λH0 S z held ρ σ H E o ok e q=>?_⟩;unfold rJ at e
 split at e
 .rename_i d td c es g1 g2
  by_cases hc:c=cn
  .subst hc;rw[if_pos rfl] at e
   split at e
   .rename_i ds hl
    by_cases hc:(aH d&&aN ds&&decide (ds.length<sizeLine))=true
    .rw[if_pos hc] at e;cases e;obtain⟨c1,c3⟩:=(acr _ _).mp hc;obtain⟨c1,c2⟩:=(acr _ _).mp c1;obtain⟨xv,fp,bN,r,zz⟩:=ok.sl i _ _ g2;refine⟨xv,bN,?_⟩;obtain⟨b0,dx,fs,u,gf,rfl,h1,h2,h3,h4,h5,h6⟩:=r.place hC.ns zz.1 hl;refine⟨b0,C,dx,fs,u,rfl,h1,hC.cl,na,h2,?_⟩;obtain⟨l,xs,f0,rfl,hq,_,_⟩:=h3.e7;refine⟨.inl ⟨rfl,_,hq⟩,?_⟩;refine sv H0 S z held ρ σ H _ d td ok g1 λH1 v fd s1 rv gv=>?_
     have hn:=rv.aH c1;subst hn;generalize hw:(V.ref l)=w at h3 h6;cases h3 with
     | @lst a' ys _ f' h rs=>
      cases hw;have hn:=rs.aH c2;subst hn;have uw:=s1 _ _ h;refine⟨_,ys,v,rfl,rfl,uw,by rw[<- rs.length];exact ac5 c3,?_⟩;have im:bW H1 (upd H1 l (.lst (ys++[v]))):=bW.upd uw rfl;obtain⟨cM,k1,k2,k3⟩:=h6 (upd H1 l (.lst (ys++[v]))) (.lst (ds++[d])) [l] ((bW.of s1).trans im) (λc o n e=>by rw[aY λq=>n (by rw[q];exact aaF)];exact s1 c o e)
       (.lst cB (aA.append ((rs.same s1).frame (λa m=>nomatch m) im) (aA.cons (f1:=[]) (f2:=[]) (rv.frame (λa m=>nomatch m) im) .nil))) h4 (λc m=>.inl m)
      obtain⟨z',bq⟩:=ok.put g2 bN zz ((bW.of s1).trans im) (λc o n e=>by rw[aY λq=>n (by rw[q];exact h5 l aaF)];exact s1 c o e) k1 k2 k3;exact q z' σ _ bq (.refl _ _)
    .rw[if_neg hc] at e;cases e
   .cases e
  .rw[if_neg hc] at e;cases e
 .cases e
end
end L2.Ev
namespace L2
open PySem PySem.Spec PyProof.Rows
section
variable{X:Cx}{elts:List Expr}{tp:Pos}{a b:Expr}{ta:TA}{p pos:Pos}
def Ra:V->List V->Hp->VK->Prop:=λx vs H Q=>∃(l:Addr) (ns:List Int) (n:Int),x=.ref l/\vs=[.int n]/\H l=some (.lst (ns.map V.int))/\n∈ns/\Q .aE (upd H l (.lst ((ns.erase n).map V.int)))
noncomputable def SH(n:Int):Value->Bool
 |.int a _=>a==n
 |_=>false
theorem GK{ns:List Int}(r:aS (ns.map V.int) us)(h:m<us.length)(h2:m<ns.length):∃t,us[m]=.int ns[m] t:=by
 obtain⟨u,hu,ru⟩:=r.get (by rw[acX,abL h2];rfl);rw[abL h] at hu;obtain⟨t,rt⟩:=ru;exact⟨t,by rw[<- rt];exact aco hu⟩
theorem LU:∀{ns:List Int}{n:Int}{m:Nat} (h:m<ns.idxOf n) (h2:m<ns.length),ns[m]≠n
 |[],_,_,_,h2=>absurd h2 (Nat.not_lt_zero _)
 |a::ns,n,m,h,h2=>by
  rw[List.idxOf_cons] at h
  by_cases ha:(a==n)=true
  .rw[ha] at h;exact absurd h (Nat.not_lt_zero _)
  .have ha:(a==n)=false:=by simpa using ha
   rw[ha] at h;cases m with
   |zero=>exact adF.mp ha
   |succ m=>exact LU (Nat.lt_of_succ_lt_succ h) (Nat.lt_of_succ_lt_succ h2)
theorem SJ{α β:Type}{f:α->β}{l:List α}:(l.map f).eraseIdx k=(l.eraseIdx k).map f:=by
 rw[List.eraseIdx_eq_take_drop_succ,List.eraseIdx_eq_take_drop_succ,adG,List.map_take,List.map_drop]
theorem UX:rC X "list.remove" Ra:=by
 intro pins s σ H x vs v us Q I rx rv h;obtain⟨l,ns,n,rfl,rfl,hH,hn,q⟩:=h;cases rx;obtain⟨u,rfl,ru⟩:=rv.one;obtain⟨t,rfl⟩:=ru;obtain⟨z,aq,nn,r,hl,e⟩:=I.nv hH;have hi:=List.idxOf_lt_length_of_mem hn;rw[List.length_map] at hl z;have hj:ns.idxOf n<aq.toArray.size:=by rw[ack];omega
 refine afr F.slot_list_remove ⟨_,e,rfl⟩ F.entry_list_remove (F.args_list_remove_2 _ _)
  (MeetsSeq.list_remove l aq.toArray nn (.int n t) (SH n) (λy my=>?_) (ns.idxOf n) hj ?_ (λm hm h2=>?_) (by rw[ack];omega)) ⟨e,?_⟩
 .obtain⟨m,hm,em⟩:=Array.mem_iff_getElem.mp my;rw[ack] at hm;rw[List.getElem_toArray] at em;obtain⟨t',et⟩:=GK r hm (by omega);rw[<- em,et];exact MeetsSeq.EqGives.int _ _ _ _
 .rw[List.getElem_toArray];obtain⟨t',et⟩:=GK r (by omega) hi;rw[et];rw[List.getElem_idxOf hi];exact aeo n
 .rw[List.getElem_toArray];rw[ack] at hm;obtain⟨t',et⟩:=GK r hm (by omega);rw[et];exact adF.mpr (LU h2 (by omega))
 .refine⟨.aE,_,I.we (its':=aq.eraseIdx (ns.idxOf n)) hH e ?_ ?_ ?_,rfl,q⟩
  .show aq.toArray.eraseIdxIfInBounds _=(aq.eraseIdx _).toArray;rw[List.eraseIdxIfInBounds_toArray]
  .rw[List.erase_eq_eraseIdx_of_idxOf rfl,<- SJ];exact r.eraseIdx _
  .rw[List.length_map];have:=List.length_erase_le (a:=n) (l:=ns);omega
end
end L2
namespace L2.Ev
open PySem PySem.Spec PyProof.Rows
noncomputable def yO(env:Env):Str×NameKind->Str×NameKind:=λ(n,k)=>if(k==NameKind.free&&env.scope.kind == .function&&env.kindOf n==some .cell) then(n,NameKind.cell) else(n,k)
theorem Ow{env:Env}:∀{names:List (Str×NameKind)}{x:Str},(names.lookup x=some .cell\/names.lookup x=some .free)->(names.map (yO env)).lookup x=some .cell\/(names.map (yO env)).lookup x=some .free
 |[],_,h=>by simp at h
 |(n,k)::r,x,h=>by
  rw[aaH];have e:yO env (n,k)=(n,.cell)\/yO env (n,k)=(n,k):=by
   show(if(k==NameKind.free&&env.scope.kind == .function&&env.kindOf n==some .cell)=true then(n,NameKind.cell) else(n,k))=_\/(if(k==NameKind.free&&env.scope.kind == .function&&env.kindOf n==some .cell)=true then(n,NameKind.cell) else(n,k))=_
   split
   .exact .inl rfl
   .exact .inr rfl
  cases hx:x==n with
  |true=>
   simp only[adQ,hx] at h;rcases e with e|e<;>rw[e]<;>simp only[adQ,hx]
   .exact .inl trivial
   .exact h
  |false=>
   simp only[adQ,hx] at h;have ih:=Ow (env:=env) (names:=r) h;rcases e with e|e<;>rw[e]<;>simp only[adQ,hx]<;>exact ih
theorem abk(h:zD M0 Cf sc M js=true):o_ (eX X M0 Cf s3 H3 fp) M js sc:=by
 unfold zD at h;obtain⟨h,a6⟩:=(acr _ _).mp h;obtain⟨h,a5⟩:=(acr _ _).mp h;obtain⟨h,a4⟩:=(acr _ _).mp h;obtain⟨h,a3⟩:=(acr _ _).mp h;obtain⟨a1,a2⟩:=(acr _ _).mp h;refine⟨?_,λy hy=>?_,λy hy hl=>?_,a4,λx hx=>?_,ac5 a6⟩
 .cases hk:sc.kind<;>rw[hk] at a1<;>first|rfl|exact absurd a1 (by decide)
 .have:=aep.mp a2 y hy;intro z;rw[z] at this;exact absurd this (by decide)
 .have:=aep.mp a3 y hy;rw[hl] at this;have this:=this;cases q:sc.names.lookup y.1 with
  |none=>rw[q] at this;exact absurd this (by decide)
  |some k=>rw[q] at this;cases k<;>first|rfl|exact absurd this (by decide)
 .have:=aep.mp a5 x hx;refine Ow (env:=X.env) (names:=Cf.names) ?_;cases q:Cf.names.lookup x with
  |none=>rw[q] at this;exact absurd this (by decide)
  |some k=>rw[q] at this;cases k<;>first|exact .inl rfl|exact .inr rfl|exact absurd this (by decide)
section
variable{X:Cx}{elts:List Expr}{tp:Pos}{a b c:Expr}{fa fb fv:EF}{p p1 p2 p3 pos pos':Pos}{x:Str}
noncomputable def adp(fa:EF):IF:=λρ=>match fa ρ with
 |some (.lst ds,t)=>if aN ds=true then some ((List.range ds.length).map λi:Nat=>D.tup [.int i,ds.getD i .aE],iN [(.lst ds,t)]) else none
 |_=>none
noncomputable def v_(i:Nat)(fv:EF):SF:=λρ=>match fv ρ,ρ[i]? with
 |some (.int n,_),some (some (.lst ds,.own))=>match dO ds with
  |some ns=>if n∈ns then some (.nx (cL ρ i (.lst ((ns.erase n).map D.int)))) else none
  |none=>none
 |_,_=>none
theorem LK:∀{ds:List D}{ns:List Int},dO ds=some ns->ds=ns.map D.int
 |[],_,e=>by cases e;rfl
 |d::ds,ns,e=>by
  cases d<;>try (cases e;done)
  rename_i i;unfold dO at e;cases h:dO ds with
  |none=>rw[h] at e;cases e
  |some r=>
   rw[h] at e;cases e;rw[LK h];rfl
theorem Xw(i:Nat)(hv:FP X a fv)(hN:X.N[i]? = some x:=by rfl)(fY:gP X.env.scope x:=by first|exact Or.inl rfl|exact Or.inr (Or.inl rfl)|exact Or.inr (Or.inr rfl))
  (hd:(x==("__debug__":Str))=false:=by decide) (cQ:(x==("__classdict__":Str))=false:=by decide) (hs:starEach [a] X.env=[(false,eval a X.env)]:=by rfl)
  (iu:attributeBase (.Name x p1) "remove" X.env (eval (.Name x p1) X.env)=eval (.Name x p1) X.env:=by rfl)
  (jK:((backTo p3 (starEach [a] X.env)).all (λx=>!x.1)&&(backToKw p3 (keywordEach [] X.env)).all (λx=>x.1.isSome)&&decide ([a].length+([]:List Keyword).length+(if([]:List Keyword).isEmpty then 0 else 1)<30))=true:=by rfl)
  (iD:(p2.endLine==p3.line)=true:=by rfl) (iE:swapsWith (.Call (.Attribute (.Name x p1) "remove" p2) [a] [] p3) none pos.line X.env=pure false:=by rfl) :
  fJ X (.Expr (.Call (.Attribute (.Name x p1) "remove" p2) [a] [] p3) pos) (v_ i fv):=by
 obtain⟨tv,mZ,sv⟩:=hv;refine⟨_,qR (zv PySem.F.plainAttrs_list PySem.F.slot_list_remove PySem.F.type_list_remove UX (gX (i:=i) hN fY hd cQ) (c_ mZ fM hs) iu jK iD hs rfl) iE,λH0 S z held ρ σ H E o ok e q=>?_⟩;unfold v_ at e
 split at e
 .rename_i n td ds g1 g2;cases hI:dO ds with
  |none=>rw[hI] at e;cases e
  |some ns=>
   rw[hI] at e;dsimp only at e
   by_cases hc:n∈ns
   .rw[if_pos hc] at e;cases e;have:=LK hI;subst this;obtain⟨xv,fp,bN,r,zz⟩:=ok.sl i _ _ g2;refine⟨xv,bN,?_⟩;obtain⟨l,xs,f,rfl,hq,_,_⟩:=r.e7;refine⟨.inl ⟨rfl,_,hq⟩,?_⟩;refine sv H0 S z held ρ σ H _ _ td ok g1 λH1 v fd s1 rv gv=>?_
    cases rv;have r':=r.same s1;have cC:=ok.same s1;generalize hw:(V.ref l)=w at r' bN;cases r' with
    | @lst a' ys _ f' h rs=>
     cases hw;have ey:=qu rs hI;subst ey;have hn:=rs.aH (gU ns);subst hn;refine⟨_,ns,n,rfl,rfl,h,hc,?_⟩;have im:bW H1 (upd H1 l (.lst ((ns.erase n).map V.int))):=bW.upd h rfl;exact q z σ _ (Ok.vP cC g2 bN zz aaF h rfl (.lst cB (qJ _))) (.refl _ _)
   .rw[if_neg hc] at e;cases e
 .cases e
noncomputable def vZ(fa fh:EF):EF:=λρ=>match fa ρ,fh ρ with
 |some (.lst ds,_),some (.int i,_)=>if aN ds=true then some (.lst (cutD ds none (some i)),.own) else none
 |_,_=>none
theorem SQ{fh:EF}(ha:FP X a fa)(hh:FP X b fh):FP X (.Subscript a (.Slice none (some b) none p2) pos) (vZ fa fh):=by
 obtain⟨t,p,q⟩:=ha;obtain⟨th,ph,qh⟩:=hh;refine⟨_,EX A9 p D8 (Eh ph),λH0 S z held ρ σ H Q d tg ok e k=>?_⟩;unfold vZ at e
 split at e
 .rename_i ds t1 i t2 e1 e2
  by_cases hi:aN ds=true
  .rw[if_pos hi] at e;cases e;refine q H0 S z held ρ σ H _ _ t1 ok e1 λH1 x f1 s1 r1 _=>?_
   refine qh H0 S z held ρ σ H1 _ _ t2 (ok.same s1) e2 λH2 y f2 s2 r2 _=>?_
   cases r2;refine⟨i,rfl,?_⟩;obtain⟨w,xs,f,rfl,hq,rs,_⟩:=(r1.same s2).e7;have hn:=rs.aH hi;subst hn;refine⟨w,xs,rfl,hq,λp hp=>?_⟩;have s3:aL H2 (upd H2 p (.lst (j8 xs none (some i)))):=λb o e=>by rw[aY (dz e hp)];exact e
   have rr:aA X.K H2 (cutD ds none (some i)) (j8 xs none (some i)) []:=by
    unfold cutD j8;rw[rs.length];exact aA.xm _ (aA.ye _ rs)
   refine k _ _ [p] ((s1.trans s2).trans s3) (.lst cB (rr.same s3)) ⟨acV.mpr ⟨(λm=>by cases m),ac1⟩,λa m=>?_⟩;cases aa8.mp m;exact s1.free (s2.free hp)
  .rw[if_neg hi] at e;cases e
 .cases e
end
end L2.Ev
namespace L2.SetT
open PySem
def Rs(t:SetTable):Prop:=t.place.toList.Pairwise (· < ·)/\t.dummies=#[]
theorem ZM{xs:Array Nat}(h:i<xs.size):xs.getD i j=xs.toList[i]'(by simpa using h):=by
 rw[Array.getD_eq_getD_getElem?,adD h];simp
theorem VR{xs:Array Nat}(hr:xs.toList.Pairwise (· < ·)):∀(fuel lo hi:Nat),hi-lo<=fuel->lo<=hi->hi<=xs.size->(∀i (h:i<xs.size),i<lo->xs[i]<j)->(∀i (h:i<xs.size),hi<=i->j<=xs[i])->
  SetTable.below.go xs j fuel lo hi<=xs.size/\(∀i (h:i<xs.size),i<SetTable.below.go xs j fuel lo hi->xs[i]<j)/\∀i (h:i<xs.size),SetTable.below.go xs j fuel lo hi<=i->j<=xs[i]:=by
 have mono:∀a b (ha:a<xs.size) (hb:b<xs.size),a<b->xs[a]<xs[b]:=λa b ha hb nH=>by
  have:=aeW.mp hr a b (by simpa using ha) (by simpa using hb) nH;simpa using this
 intro fuel
 induction fuel with
 |zero=>
  intro lo hi h1 h2 h3 h4 h5;have e:lo=hi:=by omega
  subst e;exact⟨h3,h4,h5⟩
 |succ fuel ih=>
  intro lo hi h1 h2 h3 h4 h5;unfold SetTable.below.go
  by_cases hl:lo<hi
  .rw[if_pos hl];have hm:(lo+hi) / 2<xs.size:=by omega
   have em:xs.getD ((lo+hi) / 2) j=xs[(lo+hi) / 2]:=by rw[ZM hm];simp
   dsimp only;rw[em]
   by_cases hx:xs[(lo+hi) / 2]<j
   .rw[if_pos hx];refine ih _ _ (by omega) (by omega) h3 (λi h ni=>?_) h5
    by_cases q:i<(lo+hi) / 2
    .exact Nat.lt_trans (mono _ _ h hm q) hx
    .have:i=(lo+hi) / 2:=by omega
     subst this;exact hx
   .rw[if_neg hx];refine ih _ _ (by omega) (by omega) (by omega) h4 (λi h ni=>?_)
    by_cases q:(lo+hi) / 2<i
    .have:=mono _ _ hm h q;omega
    .have:i=(lo+hi) / 2:=by omega
     subst this;omega
  .rw[if_neg hl];have e:lo=hi:=by omega
   subst e;exact⟨h3,h4,h5⟩
theorem LA{xs:Array Nat}(hr:xs.toList.Pairwise (· < ·)):SetTable.below xs j<=xs.size/\(∀i (h:i<xs.size),i<SetTable.below xs j->xs[i]<j)/\∀i (h:i<xs.size),SetTable.below xs j<=i->j<=xs[i]:=
 VR hr xs.size 0 xs.size (by omega) (aed _) (abW _) (λi h q=>absurd q (Nat.not_lt_zero _)) (λi h q=>absurd h (by omega))
theorem below_at{xs:Array Nat}(hr:xs.toList.Pairwise (· < ·))(hk:k<=xs.size)(h1:∀i (h:i<xs.size),i<k->xs[i]<j)(h2:∀i (h:i<xs.size),k<=i->j<=xs[i]):SetTable.below xs j=k:=by
 obtain⟨a,b,c⟩:=LA hr;rcases Nat.lt_trichotomy (SetTable.below xs j) k with q|q|q
 .have:=h1 (SetTable.below xs j) (by omega) q;have:=c (SetTable.below xs j) (by omega) (abW _);omega
 .exact q
 .have:=b k (by omega) q;have:=h2 k (by omega) (abW _);omega
theorem O6{xs:Array Nat}(hr:xs.toList.Pairwise (· < ·))(hj:xs[SetTable.below xs j]?≠some j):(SetTable.insertAt xs (SetTable.below xs j) j).toList.Pairwise (· < ·):=by
 obtain⟨a,b,c⟩:=LA hr;unfold SetTable.insertAt;have e:((xs.extract 0 (SetTable.below xs j)).push j++xs.extract (SetTable.below xs j) xs.size).toList=xs.toList.take (SetTable.below xs j)++(j::xs.toList.drop (SetTable.below xs j)):=by
  simp[afh,aer]
 rw[e];have c':∀i (h:i<xs.size),SetTable.below xs j<=i->j<xs[i]:=λi h hi=>by
  have q:=c i h hi;rcases Nat.lt_or_eq_of_le q with q|q
  .exact q
  .exfalso
   have p1:SetTable.below xs j<xs.size:=by omega
   have q1:=c _ p1 (abW _)
   by_cases ei:i=SetTable.below xs j
   .subst ei;exact hj (by rw[adD h,<- q])
   .have:=aeW.mp hr (SetTable.below xs j) i (by simpa using p1) (by simpa using h) (by omega);have:xs[SetTable.below xs j]<xs[i]:=by simpa using this
    omega
 refine adZ.mpr ⟨hr.sublist (afa _ _),aeA.mpr ⟨λx hx=>?_,hr.sublist (afd _ _)⟩,λx hx y hy=>?_⟩
 .obtain⟨i,hi,rfl⟩:=ae1 hx;rw[afs];have ni:i<xs.size-SetTable.below xs j:=by simpa using hi
  have:=c' (SetTable.below xs j+i) (by omega) (by omega);simpa using this
 .obtain⟨i,hi,rfl⟩:=ae1 hx;have ni:i<SetTable.below xs j/\i<xs.size:=by simpa[Nat.lt_min] using hi
  have F3:=b i ni.2 ni.1;rw[List.getElem_take];have F3:xs.toList[i]'(by simpa using ni.2)<j:=by simpa using F3
  rcases abh.mp hy with e|hy
  .rw[e];exact F3
  .obtain⟨k,hk,rfl⟩:=ae1 hy;rw[afs];have jX:k<xs.size-SetTable.below xs j:=by simpa using hk
   have:=c' (SetTable.below xs j+k) (by omega) (by omega);have:j<xs.toList[SetTable.below xs j+k]'(by simp;omega):=by simpa using this
   omega
theorem QX(n:Nat):(Array.range n).toList.Pairwise (· < ·):=by
 rw[Array.toList_range];exact List.pairwise_lt_range
theorem Rs.standIn(t:SetTable)(n:Nat):Rs (t.standIn n):=⟨QX n,rfl⟩
theorem K2{t:SetTable}(hd:t.dummies=#[]){hashAt:Nat->Int}:∀{fuel:Nat}{p:SetTable.Probe}{j:Nat}{d:Option Nat},p.dummy=none->SetTable.probe.go t hashAt h fuel p=some (.empty j d)->d=none/\t.slot j=.empty
 |0,_,_,_,_,e=>by simp[SetTable.probe.go] at e
 |fuel+1,p,j,d,hp,e=>by
  unfold SetTable.probe.go at e;have Pj:∀q:SetTable.Probe,q.dummy=none->(t.advance q).dummy=none:=λq hq=>by
   unfold SetTable.advance
   split
   .exact hq
   .exact hq
  cases hs:t.slot p.j with
  |empty=>
   rw[hs] at e;cases e;exact⟨hp,hs⟩
  |dummy=>
   exfalso
   unfold SetTable.slot at hs;dsimp only at hs
   split at hs
   .cases hs
   .split at hs
    .rename_i hh;rw[hd] at hh;simp[SetTable.has] at hh
    .cases hs
  |live i=>
   rw[hs] at e;dsimp only at e
   split at e
   .cases e
   .exact K2 hd (Pj p hp) e
theorem abf{t:SetTable}(hd:t.dummies=#[])(e:t.freeSlot h=some (slot,b)):t.place[SetTable.below t.place slot]?≠some slot:=by
 unfold SetTable.freeSlot at e
 split at e
 .rename_i j d hp;cases e;obtain⟨e1,e2⟩:=K2 hd rfl hp;subst e1;show t.place[SetTable.below t.place j]?≠some j;intro q;unfold SetTable.slot at e2;dsimp only at e2;rw[q] at e2;simp at e2
 .cases e
theorem Rs.put{t:SetTable}(r:Rs t)(h:t.place[SetTable.below t.place slot]?≠some slot):Rs (t.put slot).1:=by
 refine⟨O6 r.1 h,?_⟩;show(if SetTable.has t.dummies slot=true then _ else t.dummies)=#[];rw[r.2];simp[SetTable.has]
theorem Rs.orStandIn{t:SetTable}(r:Rs t)(n:Nat):Rs (t.orStandIn n):=by
 unfold SetTable.orStandIn
 split
 .exact r
 .exact Rs.standIn t n
theorem Rs.layNew{t:SetTable}(r:Rs t)(es:Array (Int×Value))(h:Int)(x:Value):Rs (PySem.layNew t es h x).2.1:=by
 unfold PySem.layNew
 split
 .rename_i slot b e;exact(r.put (abf r.2 e)).orStandIn _
 .exact Rs.standIn _ _
theorem Rg{led plain:Bool}{hashes:Array Int}{r:SetTable×Array Nat}(h:SetTable.laid mask finger moves led plain hashes=some r):Rs r.1:=by
 unfold SetTable.laid at h;cases hc:SetTable.layClean mask hashes with
 |none=>rw[hc] at h;cases h
 |some o=>
  rw[hc] at h;cases h;refine⟨?_,rfl⟩;dsimp only;have key:∀(l:List Nat),l.Pairwise (· < ·)->((l.filterMap λj=>(o.getD j none).map (j,·)).map (·.1)).Pairwise (· < ·):=λl hl=>by
   rw[List.map_filterMap];refine List.Pairwise.filterMap _ (λa a' haa b hb b' rF=>?_) hl;have e1:b=a:=by
    cases q:o.getD a none with
    |none=>rw[q] at hb;simp at hb
    |some x=>rw[q] at hb;simpa using hb.symm
   have e2:b'=a':=by
    cases q:o.getD a' none with
    |none=>rw[q] at rF;simp at rF
    |some x=>rw[q] at rF;simpa using rF.symm
   rw[e1,e2];exact haa
  exact key _ List.pairwise_lt_range
theorem Rs.relayAll{t:SetTable}(es:Array (Int×Value))(wanted:Nat):Rs (PySem.relayAll t es wanted).2.1:=by
 unfold PySem.relayAll
 split
 .rename_i t' order h;dsimp only
  split
  .exact Rg h
  .exact Rs.standIn _ _
 .exact Rs.standIn _ _
noncomputable def IZ:List Nat:=[8,16,32,64,128,256,512]
theorem Q3(t:SetTable)(es:Array (Int×Value))(h:Int)(x:Value):(layNew t es h x).2.1.led=t.led:=by
 unfold layNew
 split
 .dsimp only;unfold SetTable.orStandIn
  split<;>rfl
 .rfl
theorem Yg{led plain:Bool}{hashes:Array Int}{r:SetTable×Array Nat}(h:SetTable.laid mask finger moves led plain hashes=some r):r.1.led=led:=by
 unfold SetTable.laid at h;cases hc:SetTable.layClean mask hashes with
 |none=>rw[hc] at h;cases h
 |some o=>rw[hc] at h;cases h;rfl
theorem ZA(t:SetTable)(es:Array (Int×Value))(wanted:Nat):(relayAll t es wanted).2.1.led=t.led:=by
 unfold relayAll
 split
 .rename_i t' order h;dsimp only
  split
  .exact Yg h
  .rfl
 .rfl
def Tl(t:SetTable)(led:Bool):Prop:=t.led=led/\Rs t
theorem Z4{t:SetTable}(es:Array (Int×Value))(h:Int)(x:Value)(hl:Tl t led):Tl (layNew t es h x).2.1 led:=⟨(Q3 t es h x).trans hl.1,hl.2.layNew es h x⟩
theorem abT{t:SetTable}(es:Array (Int×Value))(wanted:Nat)(hl:Tl t led):Tl (relayAll t es wanted).2.1 led:=⟨(ZA t es wanted).trans hl.1,Rs.relayAll es wanted⟩
section
variable{prog:Program}{w:World}{K:Type}[DecidableEq K](knd:KeyKind prog w K)
structure Full(S:K->Bool)(led:Bool)(es:Array (Int×Value))(t:SetTable):Prop where
 el:ElemsOf knd es.toList
 me:∀k,S k=true↔∃e∈es.toList,knd.is k e.2=true
 bd:es.size<scanBound
 ft:t.fits es.size=true
 tl:Tl t led
def pG(h:Heap)(a:Addr)(S:K->Bool)(n:Nat)(led:Bool):Prop:=
 ∃o es ep t,h.get? a=some o/\o.ExactSet/\o.data=.set es ep t/\ElemsOf knd es.toList/\(∀k,S k=true↔∃e∈es.toList,knd.is k e.2=true)
 /\es.size<scanBound/\t.fits es.size=true/\es.size=n/\Tl t led
variable{knd}
variable{A:Around}{E:Value->Shared->Prop}{s:Shared}{led:Bool}
theorem Full.perm{S:K->Bool}{es fO:Array (Int×Value)}{t t':SetTable}(f:Full knd S led es t)(p:fO.toList.Perm es.toList)(hf:t'.fits fO.size=true)(hl:Tl t' led):Full knd S led fO t' where
 el:=f.el.perm p
 me:=λk=>(f.me k).trans ⟨λ⟨e,m,q⟩=>⟨e,p.mem_iff.mpr m,q⟩,λ⟨e,m,q⟩=>⟨e,p.mem_iff.mp m,q⟩⟩
 bd:=by
  have:=p.length_eq;rw[acg,acg] at this;rw[this];exact f.bd
 ft:=hf
 tl:=hl
theorem ab1{h:Heap}{a:Addr}{o:Obj}{es:Array (Int×Value)}{ep:Nat}{t:SetTable}(ho:h.get? a=some o)(hex:o.ExactSet)(hd:o.data=.set es ep t)
  {fO:Array (Int×Value)}{t':SetTable}{S':K->Bool} (o7:ElemsOf knd fO.toList) (nN:∀k,S' k=true↔∃e∈fO.toList,knd.is k e.2=true) (hb:fO.size<scanBound) (hf:t'.fits fO.size=true) (hl:Tl t' led) :
  (h.update a (Obj.putSet fO t')).get? a=some { o with data:=.set fO (ep+1) t' }/\pG knd (h.update a (Obj.putSet fO t')) a S' fO.size led:=by
 obtain⟨hg,_⟩:=SetOf_store (knd:=knd) ho hex hd o7 nN hb hf;exact⟨hg,_,fO,ep+1,t',hg,hex,rfl,o7,nN,hb,hf,rfl,hl⟩
theorem stored{es:Array (Int×Value)}{t:SetTable}{fO:Array (Int×Value)}{t':SetTable}{S':K->Bool}{Q:Unit->Shared->Prop}(ho:s.heap.get? a=some o)(hex:o.ExactSet)(hd:o.data=.set es ep t)(f:Full knd S' led fO t')
  (h:∀h',Heap.SameBut a s.heap h'->h'.get? a=some { o with data:=.set fO (ep+1) t' }->pG knd h' a S' fO.size led->Q () { s with heap:=h' }):wpAny (model prog w) A (storeSet a fO t') Q E s:=by
 obtain⟨q1,q2⟩:=ab1 (knd:=knd) (led:=led) ho hex hd f.el f.me f.bd f.ft f.tl;exact wpAny_storeSet_of ho hd (h _ (aeL s.heap a _) q1 q2) (fits_of_scanBound f.bd)
theorem T3{S:K->Bool}{k:K}{Q:Bool->Shared->Prop}(hk:knd.is k x=true)(hx:x.scannable=true)(hS:pG knd s.heap a S n led)(hn:n+1<scanBound)
  (h:∀h',Heap.SameBut a s.heap h'->pG knd h' a (λk'=>S k'||decide (k'=k)) (if S k then n else n+1) led->Q (!S k) { s with heap:=h' }):wpAny (model prog w) A (setAddHashed a x (knd.hash k)) Q E s:=by
 obtain⟨o,es,ep,t,ho,hex,hd,o7,nN,hb,hf,rfl,hl⟩:=id hS;unfold setAddHashed setAddHashedIn;refine aea (aaf (aev ho hd hf ?_));dsimp only;rw[byScan_of hx hb o7,if_pos rfl];unfold setAddByScan;refine aaf (aaf (aee (aaf (wpAny_setScan_of hk ho hd hf o7 ?_))));cases hr:List.findIdx? (λe=>knd.is k e.2) es.toList with
 |some j=>
  obtain⟨hj,PN,_⟩:=List.findIdx?_eq_some_iff_getElem.mp hr;have there:=(nN k).mpr ⟨_,aeD hj,PN⟩;have Ug:(λk'=>S k'||decide (k'=k))=S:=funext λk'=>by
   by_cases e:k'=k
   .rw[e,there];rfl
   .simp[e]
  have q:=h s.heap (Heap.SameBut.refl a s.heap);rw[there,if_pos rfl,Ug] at q;exact aa1 (aa1 (q hS))
 |none=>
  have away:=aeZ.mpr λq=>by
   obtain⟨e,m,p⟩:=(nN k).mp q;exact absurd p (by rw[List.findIdx?_eq_none_iff.mp hr e m];exact ab3)
  have q:=h;rw[away,if_neg ab3] at q;have p1:=layNew_perm t es (knd.hash k) x;have p2:=layNew_fits t es (knd.hash k) x;have p3:=Z4 es (knd.hash k) x hl;dsimp only;revert p1 p2 p3;generalize layNew t es (knd.hash k) x=L;obtain⟨iG,t1,dm,RC⟩:=L;intro p1 p2 p3;dsimp only at p1 p2 p3 ⊢;rw[aeF] at p1;have z1:iG.size=es.size+1:=by
   have:=p1.length_eq;rw[acZ,acg,acg] at this;exact this
  have f1:∀b:Bool,Full knd (λk'=>S k'||decide (k'=k)) led iG (if b then t1 else { t1 with plain:=false }):=λb=>by
   refine⟨(o7.push hk hx).perm p1,mem_push_iff hk nN p1,by rw[z1];exact hn,?_,?_⟩
   .cases b
    .exact SetTable.fits_plain_off p2
    .exact p2
   .cases b<;>exact p3
  have say:∀(b:Bool) (s1:Shared) (R:Unit->Shared->Prop),R () s1->wpAny (model prog w) A (match b with|true=>rule "set.scan.the-table-gave-way" | false=>pure ()) R E s1:=λb s1 R r=>by
   cases b
   .exact aa1 r
   .exact aee r
  refine aaf (say RC _ _ ?_);have tail:∀t2:SetTable,Full knd (λk'=>S k'||decide (k'=k)) led iG t2->wpAny (model prog w) A (do
    storeSet a iG t2
    if(!dm&&t2.tooFull)=true then do
     (match(relayAll t2 iG (SetTable.grown iG.size)).2.2 with|true=>rule "set.scan.the-table-gave-way" | false=>pure ())
     storeSet a (relayAll t2 iG (SetTable.grown iG.size)).1 (relayAll t2 iG (SetTable.grown iG.size)).2.1
     pure (some true)
    else pure (some true)) (λr s'=>r=some true/\Q true s') E s:=λt2 f2=>by
   refine aaf (stored ho hex hd f2 λh1 L5 g1 S1=>?_)
   by_cases tf:(!dm&&t2.tooFull)=true
   .rw[if_pos tf];have r1:=relayAll_perm t2 iG (SetTable.grown iG.size);have r2:=relayAll_fits t2 iG (SetTable.grown iG.size);have r3:=abT iG (SetTable.grown iG.size) f2.tl;refine aaf (say _ _ _ ?_);refine aaf (stored g1 hex rfl (f2.perm r1 r2 r3) λh2 XY _ S2=>?_);have z2:=r1.length_eq;rw[acg,acg] at z2;rw[z2,z1] at S2;exact aa1 ⟨rfl,q h2 (L5.trans XY) S2⟩
   .rw[if_neg tf];rw[z1] at S1;exact aa1 ⟨rfl,q h1 L5 S1⟩
  split
  .refine aaf ?_;rw[hashByValue_scannable 8 hx];refine aa1 (adE (tail _ (f1 _)) (λr s' hr=>?_) λ_ _ e=>e);obtain⟨rfl,hr⟩:=hr;exact aa1 hr
  .refine aaf (aa1 (adE (tail _ (f1 true)) (λr s' hr=>?_) λ_ _ e=>e));obtain⟨rfl,hr⟩:=hr;exact aa1 hr
end
structure oY(t:SetTable)(led:Bool)(more:Nat):Prop where
 pl:t.place=#[]
 du:t.dummies=#[]
 ms:t.mask+1∈IZ
 ld:t.led=led
 rm:more<=t.mask
theorem oY.tl{t:SetTable}(b:oY t led more):Tl t led:=⟨b.ld,by rw[b.pl];exact List.Pairwise.nil,b.du⟩
theorem oY.fits{t:SetTable}(b:oY t led more):t.fits 0=true:=by
 unfold SetTable.fits SetTable.fill;rw[b.pl,b.du];simp
noncomputable def jc(w:World):Bool:=w.params.followText "set-order"
theorem EZ{α:Type}:∀{l:List α}{i:Nat} (h:i<l.length),(l[i]::l.eraseIdx i).Perm l
 |a::l,0,_=>List.Perm.refl _
 |a::l,i+1,h=>by
  rw[List.getElem_cons_succ,List.eraseIdx_cons_succ];exact(List.Perm.swap _ _ _).trans ((EZ (Nat.lt_of_succ_lt_succ h)).cons a)
theorem M8{α:Type}(next:Nat->Nat):∀(fuel k:Nat) (left:List α) (out:Array α),fuel=left.length->(pickOrder.go next fuel k left out).toList.Perm (out.toList++left)
 |0,k,left,out,h=>by
  have:left=[]:=adT h.symm;subst this;unfold pickOrder.go;rw[ady]
 |fuel+1,k,left,out,h=>by
  have hi:next k % left.length<left.length:=Nat.mod_lt _ (by omega);unfold pickOrder.go;rw[abL hi];dsimp only;refine(M8 next fuel (k+1) _ _ (by rw[List.length_eraseIdx_of_lt hi];omega)).trans ?_;rw[aeF,adJ];exact(EZ hi).append_left _
theorem Js{α:Type}(next:Nat->Nat)(xs:Array α):(pickOrder next xs).toList.Perm xs.toList:=by
 have:=M8 next xs.size 0 xs.toList #[] (by simp);unfold pickOrder;simpa using this
noncomputable def gH{K:Type}[DecidableEq K](U:List K)(k:K):List K:=if k∈U then U else U++[k]
theorem C8{K:Type}[DecidableEq K]{U:List K}{k j:K}:j∈gH U k↔j∈U\/j=k:=by
 unfold gH
 split
 .rename_i h;exact⟨.inl,λq=>q.elim id λe=>e ▸ h⟩
 .rw[acW,aa8]
theorem OW{K:Type}[DecidableEq K]{U:List K}{k:K}(h:U.Nodup):(gH U k).Nodup:=by
 unfold gH
 split
 .exact h
 .rename_i n;refine adv.mpr ⟨h,by simp,λa m b m' e=>?_⟩;rw[aa8.mp m'] at e;exact n (e ▸ m)
theorem Ot{K:Type}[DecidableEq K]{U:List K}{k:K}:(gH U k).length=if k∈U then U.length else U.length+1:=by
 unfold gH
 split
 .rfl
 .rw[acZ];rfl
theorem Lc{K:Type}[DecidableEq K]{U:List K}{k:K}:(gH U k).length<=U.length+1:=by
 rw[Ot];split<;>omega
section
variable{prog:Program}{w:World}{K:Type}[DecidableEq K]{knd:KeyKind prog w K}
variable{A:Around}{E:Value->Shared->Prop}{s:Shared}{led:Bool}
theorem Ae{Q:Bool->Shared->Prop}(h:Q (jc w) s):wpAny (model prog w) A setsByText Q E s:=by
 unfold setsByText;exact aaf (wpAny_askSetting (aa1 h))
def ja(knd:KeyKind prog w K)(h:Heap)(a:Addr)(U:List K)(led:Bool):Prop:=U.Nodup/\pG knd h a (λk=>decide (k∈U)) U.length led
theorem pG.keep{S:K->Bool}(x:pG knd h a S n led)(e:∀o,h.get? a=some o->h'.get? a=some o):pG knd h' a S n led:=by
 obtain⟨o,es,ep,t,ho,r⟩:=x;exact⟨o,es,ep,t,e o ho,r⟩
theorem ja.keep{U:List K}(x:ja knd h a U led)(e:∀o,h.get? a=some o->h'.get? a=some o):ja knd h' a U led:=⟨x.1,x.2.keep e⟩
theorem Z3{U:List K}{k:K}{Q:Bool->Shared->Prop}(hk:knd.is k x=true)(hx:x.scannable=true)(hS:ja knd s.heap a U led)(hn:U.length+1<scanBound)
  (h:∀b h',Heap.SameBut a s.heap h'->ja knd h' a (gH U k) led->Q b { s with heap:=h' }):wpAny (model prog w) A (setAddHashed a x (knd.hash k)) Q E s:=by
 refine T3 hk hx hS.2 hn λh' sb q=>h _ h' sb ⟨OW hS.1,?_⟩
 have e1:(λk'=>decide (k'∈U)||decide (k'=k))=λk'=>decide (k'∈gH U k):=funext λk'=>by
  rw[ae4,afo,afg,afg,afg,C8]
 have e2:(if decide (k∈U)=true then U.length else U.length+1)=(gH U k).length:=by
  rw[Ot]
  by_cases q:k∈U
  .rw[if_pos q,if_pos (ab5 q)]
  .rw[if_neg q,if_neg (by simpa using q)]
 rw[e1,e2] at q;exact q
theorem oY.aae{t:SetTable}(ho:h.get? a=some o)(hex:o.ExactSet)(hd:o.data=.set #[] ep t)(b:oY t led more):ja knd h a [] led:=
 ⟨ac1,o,#[],ep,t,ho,hex,hd,λe m=>by simp at m,λk=>by simp,by decide,b.fits,rfl,b.tl⟩
end
theorem Rw(led:Bool):oY (.fresh 0 0 led) led 0:=⟨rfl,rfl,(by decide:8∈IZ),rfl,aed _⟩
theorem Xm:entryFor table "set.__iter__"=some Builtin.«frozenset.__iter__»:=
 entryFor_alias (id':="frozenset.__iter__") (by kernel_rfl) rfl (by decide +kernel) (by kernel_rfl)
theorem kZ:Slot "set_iterator" "__next__" "set_iterator.__next__":=
 .of (owner:="set_iterator") (n:="__next__") (by rw[ad4,adw];kernel_rfl) (by decide +kernel) (by decide +kernel) (by decide +kernel)
  (by first|exact .inl (by decide +kernel)|exact .inr (by decide +kernel)) (by rw[aeE];kernel_rfl)
theorem ze:entryFor table "set_iterator.__next__"=some Builtin.«set_iterator.__next__»:=entryFor_of_tree (by kernel_rfl)
theorem JW:Manifest.owners.lookup (String.ofList ['r','o','t','a','r','e','t','i','_','t','e','s'].reverse)=some Manifest.sig_set_iterator:=by kernel_rfl
theorem w_(a:Value):argsOk "set_iterator.__next__" ⟨[a],[]⟩:=by
 unfold argsOk;rw[signature?_of (id:="set_iterator.__next__") (n:=['_','_','t','x','e','n','_','_']) (by kernel_rfl) JW];kernel_rfl
theorem JO:Slot "set_iterator" "__iter__" "set_iterator.__iter__":=
 .of (owner:="set_iterator") (n:="__iter__") (by rw[ad4,adw];kernel_rfl) (by decide +kernel) (by decide +kernel) (by decide +kernel)
  (by first|exact .inl (by decide +kernel)|exact .inr (by decide +kernel)) (by rw[aeE];kernel_rfl)
theorem Y0:entryFor table "set_iterator.__iter__"=some Builtin.«dict_keyiterator.__iter__»:=
 entryFor_alias (id':="dict_keyiterator.__iter__") (by kernel_rfl) rfl (by decide +kernel) (by kernel_rfl)
theorem WZ(a:Value):argsOk "set_iterator.__iter__" ⟨[a],[]⟩:=by
 unfold argsOk;rw[signature?_of (id:="set_iterator.__iter__") (n:=['_','_','r','e','t','i','_','_']) (by kernel_rfl) JW];kernel_rfl
theorem VI:typeLookup (.type "set") "__len__"=pure (some (.builtin "set.__len__")):=by rw[ad4,adw];kernel_rfl
theorem aar{src:Source}{Q:Nat->Shared->Prop}(hn:n≠0)(h:∀i d',i<n->Q i { s with drawn:=d' }):wpAny M A (choose src n) Q E s:=
 λΓ p _=>⟨hn,h _ _ (Nat.mod_lt _ (Nat.pos_of_ne_zero hn))⟩
theorem Ik{α:Type}:∀{n:Nat}{xs:List α}{s:Shared}{Q:List α->Shared->Prop},n=xs.length->(∀ys d',ys.Perm xs->Q ys { s with drawn:=d' })->wpAny M A (drawOrder n xs) Q E s
 |0,xs,s,Q,hn,h=>by
  have:xs=[]:=adT hn.symm;subst this;have e:s={ s with drawn:=s.drawn }:=by cases s;rfl
  unfold drawOrder;refine aa1 ?_;rw[e];exact h [] _ (List.Perm.refl _)
 |n+1,[],s,Q,hn,h=>by simp at hn
 |n+1,x::xs,s,Q,hn,h=>by
  unfold drawOrder;refine aaf (aar (by simp) λi d' hi=>?_);rw[abL hi];dsimp only;refine aaf (Ik (by rw[List.length_eraseIdx_of_lt hi];omega) λys Uq p=>aa1 ?_);exact h _ Uq ((p.cons _).trans (EZ hi))
def iS(h:Heap)(I:Addr)(first:Value)(i:Nat)(a:Addr)(n ep:Nat):Prop:=∃o,h.get? I=some o/\o.cls=.type "set_iterator"/\o.data=.fields #[first,.int i 0,.ref a,.int n 0,.int ep 0]
theorem iS.typeIs{s:Shared}{I a:Addr}{first:Value}{i n ep:Nat}(x:iS s.heap I first i a n ep):s.TypeIs (.ref I) "set_iterator":=let⟨o,ho,hc,_⟩:=x;⟨o,ho,hc⟩
theorem iS.at(x:iS h I first i a n ep)(e:∀o,h.get? I=some o->h'.get? I=some o):iS h' I first i a n ep:=let⟨o,ho,r⟩:=x;⟨o,e o ho,r⟩
section
variable{prog:Program}{w:World}{A:Around}{E:Value->Shared->Prop}{s:Shared}
theorem Lq{Q:Fin->Shared->Prop}(hh:A.handled=none)(h:∀h' e,Heap.ExtBut I s.heap h'->Shared.TypeIs { s with heap:=h' } e "StopIteration"->R e { s with heap:=h' }):
  wpAny (model prog w) A (do raiseNew (<- newExc (.type "StopIteration") []):Sem Fin) Q R s:=by
 refine aaf ?_;simp only[newExc,newTuple];refine aaf (adq ?_ (by size_fits));refine aaf (afk (by first|rfl|(simp only[firstArgMember];rfl)) ?_);refine adq ?_ (by size_fits);simp only[raiseNew];refine aaf (wpAny_handled ?_);rw[hh];refine aaf (aa1 (wpAny_throw ?_));exact h _ _ (((Heap.SameBut.refl I s.heap).extBut.push _).push _) ⟨_,abU _ rfl,rfl⟩
end
section
variable{prog:Program}{w:World}{A:Around}{E:Value->Shared->Prop}{s:Shared}
variable{I a:Addr}{oa:Obj}{es:Array (Int×Value)}{ep i:Nat}{t:SetTable}
theorem uQ{R:Array (Int×Value)->Shared->Prop}(ho:s.heap.get? a=some oa)(hd:oa.data=.set es ep t)(hf:t.fits es.size=true)(h:R es s):wpAny (model prog w) A (setEntries a) R E s:=by
 unfold setEntries;exact aaf (aev ho hd hf (aa1 h))
theorem next_item{sl nx:Nat}(hit:iS s.heap I (.int sl 0) i a es.size ep)(ho:s.heap.get? a=some oa)(hd:oa.data=.set es ep t)(hf:t.fits es.size=true)
  (hn:∀(R:Option (Value×Nat)->Shared->Prop) (E':Value->Shared->Prop),R (some (x,nx)) s->wpAny (model prog w) A.in1 (setNext a sl i ep) R E' s)
  (hQ:∀h',iS h' I (.int nx 0) (i+1) a es.size ep->Heap.SameBut I s.heap h'->Q (some x) { s with heap:=h' }):wpAny (model prog w) A (pyNext (.ref I)) Q E s:=by
 obtain⟨o,ji,hc,gA⟩:=id hit;unfold pyNext;refine aaf (aeR (adB (name:=Str.ofString "__next__") hit.typeIs kZ (adI kZ hit.typeIs ze ?_ (w_ _))));refine aaf (aa1 ?_);refine aaf (wpAny_fieldsOf ji gA ?_);dsimp only;refine aaf (uQ ho hd hf ?_);rw[if_neg (by simp)];refine aaf (hn _ _ ?_);dsimp only;refine aaf (aeX ji gA (by simp) ?_);have h1:=ado (Obj.mapFields (·.setIfInBounds 0 (rawInt nx))) ji (aeU (adO gA _));refine aaf (aeX h1 (adO gA _) (by simp) ?_);refine aa1 ⟨_,rfl,?_⟩;have h2:=ado (Obj.mapFields (·.setIfInBounds 1 (rawInt ((i:Int)+1)))) h1 (aeU (adO (adO gA _) _));refine aa1 (hQ _ ⟨_,h2,?_,?_⟩ ((aeL ..).trans (aeL ..)))
 .rw[Obj.cls_mapFields,Obj.cls_mapFields];exact hc
 .rw[adO (adO gA _)];simp[rawInt]
theorem next_end{sl:Nat}(hh:A.handled=none)(hit:iS s.heap I (.int sl 0) i a es.size ep)(ho:s.heap.get? a=some oa)(hd:oa.data=.set es ep t)(hf:t.fits es.size=true)
  (hn:∀(R:Option (Value×Nat)->Shared->Prop) (E':Value->Shared->Prop),R none s->wpAny (model prog w) A.in1 (setNext a sl i ep) R E' s)
  (hQ:∀h',Heap.ExtBut I s.heap h'->Q none { s with heap:=h' }):wpAny (model prog w) A (pyNext (.ref I)) Q E s:=by
 obtain⟨o,ji,hc,gA⟩:=id hit;unfold pyNext;refine aaf (aeR (adB (name:=Str.ofString "__next__") hit.typeIs kZ (adI kZ hit.typeIs ze ?_ (w_ _))));refine aaf (aa1 ?_);refine aaf (wpAny_fieldsOf ji gA ?_);dsimp only;refine aaf (uQ ho hd hf ?_);rw[if_neg (by simp)];refine aaf (hn _ _ ?_);dsimp only;refine aaf (aeX ji gA (by simp) ?_);refine Lq (I:=I) hh λh' e x1 x2=>?_
 refine aaf (aem (T:="StopIteration") x2 isSubtype_stop ?_);refine aa1 (hQ _ λb o' hb e'=>x1 b o' hb ?_);rw[ac9 _ _ (aej hb)];exact e'
theorem RU{tp pl c:Nat}(hit:iS s.heap I (.ref tp) i a es.size ep)(ho:s.heap.get? a=some oa)(hd:oa.data=.set es ep t)(hf:t.fits es.size=true)
  (ht:s.heap.get? tp=some ot) (rL:ot.data=.seq ps c) (hp:ps[i]? = some (rawInt pl)) (hx:es[pl]? = some (hx,x))
  (hQ:∀h',iS h' I (.ref tp) (i+1) a es.size ep->Heap.SameBut I s.heap h'->Q (some x) { s with heap:=h' }):wpAny (model prog w) A (pyNext (.ref I)) Q E s:=by
 obtain⟨o,ji,hc,gA⟩:=id hit;unfold pyNext;refine aaf (aeR (adB (name:=Str.ofString "__next__") hit.typeIs kZ (adI kZ hit.typeIs ze ?_ (w_ _))));refine aaf (aa1 ?_);refine aaf (wpAny_fieldsOf ji gA ?_);dsimp only;refine aaf (uQ ho hd hf ?_);rw[if_neg (by simp)];refine aaf (adW ht rL ?_);dsimp only;rw[aeu,hp];dsimp only[rawInt];refine aaf ?_;unfold setNextDrawn;refine aaf (aev ho hd hf ?_);dsimp only;rw[if_neg (by simp),aeu,hx];refine aa1 ?_;refine aaf (aeX ji gA (by simp) ?_);have h2:=ado (Obj.mapFields (·.setIfInBounds 1 (rawInt ((i:Int)+1)))) ji (aeU (adO gA _));refine aa1 ⟨_,rfl,aa1 (hQ _ ⟨_,h2,?_,?_⟩ (aeL ..))⟩
 .rw[Obj.cls_mapFields];exact hc
 .rw[adO gA];simp[rawInt]
theorem Sf(hh:A.handled=none)(hit:iS s.heap I (.ref tp) i a es.size ep)(ho:s.heap.get? a=some oa)(hd:oa.data=.set es ep t)(hf:t.fits es.size=true)
  (ht:s.heap.get? tp=some ot) (rL:ot.data=.seq ps c) (hp:ps[i]? = none)
  (hQ:∀h',Heap.ExtBut I s.heap h'->Q none { s with heap:=h' }):wpAny (model prog w) A (pyNext (.ref I)) Q E s:=by
 obtain⟨o,ji,hc,gA⟩:=id hit;unfold pyNext;refine aaf (aeR (adB (name:=Str.ofString "__next__") hit.typeIs kZ (adI kZ hit.typeIs ze ?_ (w_ _))));refine aaf (aa1 ?_);refine aaf (wpAny_fieldsOf ji gA ?_);dsimp only;refine aaf (uQ ho hd hf ?_);rw[if_neg (by simp)];refine aaf (adW ht rL ?_);dsimp only;rw[aeu,hp];dsimp only;refine aaf (aeX ji gA (by simp) ?_);have h1:=ado (Obj.mapFields (·.setIfInBounds 0 (rawInt 0))) ji (aeU (adO gA _));refine aaf (aeX h1 (adO gA _) (by simp) ?_);refine Lq (I:=I) (s:={ s with heap:=(s.heap.update I (Obj.mapFields (·.setIfInBounds 0 (rawInt 0)))).update I (Obj.mapFields (·.setIfInBounds 2 Value.none)) }) hh λh' e x1 x2=>?_
 refine aaf (aem (T:="StopIteration") x2 isSubtype_stop ?_);refine aa1 (hQ _ λb o' hb e'=>x1 b o' hb ?_);rw[ac9 _ _ (aej hb),ac9 _ _ (aej hb)];exact e'
theorem Kw{R:Option (Value×Nat)->Shared->Prop}(hb:jc w=true)(ho:s.heap.get? a=some oa)(hd:oa.data=.set es ep t)(hf:t.fits es.size=true)
  (h:R (((pickOrder (w.params.setOrder a ep) es)[i]?).map λe=>(e.2,sl)) s):wpAny (model prog w) A (setNext a sl i ep) R E s:=by
 unfold setNext;refine aaf (aev ho hd hf ?_);dsimp only;refine aaf (Ae ?_);rw[hb,if_pos rfl,if_neg (by simp)];unfold setWalk;refine aaf (aaf (aev ho hd hf ?_));dsimp only;refine aaf (Ae ?_);rw[hb,if_pos rfl];exact aaf (wpAny_askSetting (aa1 (aa1 h)))
theorem ND{R:Option (Value×Nat)->Shared->Prop}(hb:jc w=false)(ho:s.heap.get? a=some oa)(hd:oa.data=.set es ep t)(hf:t.fits es.size=true)(hl:t.led=true)(hp:(!t.plain&&decide (es.size > 1))=false)
  (h:R (match es[SetTable.below t.place sl]?,t.place[SetTable.below t.place sl]? with|some (_,x),some j=>some (x,j+1)|_,_=>none) s):wpAny (model prog w) A (setNext a sl i ep) R E s:=by
 unfold setNext;refine aaf (aev ho hd hf ?_);dsimp only;refine aaf (Ae ?_);rw[hb,if_neg ab3];show wpAny _ _ (ite ((!t.plain&&decide (es.size > 1))=true) _ _) _ _ _;rw[if_neg (by rw[hp];exact ab3)];show wpAny _ _ ((ite ((!t.led&&!es.isEmpty)=true) _ _) >>= _) _ _ _;rw[if_neg (by rw[hl];exact ab3)];exact aaf (aa1 (aa1 h))
theorem L8(hit:iS s.heap I first i a n ep)(h:Q (.ref I) s):wpAny (model prog w) A (pyIter (.ref I)) Q E s:=by
 refine wpAny_pyIter_slot hit.typeIs JO (adI JO hit.typeIs Y0 ?_ (WZ _));exact aa1 ⟨_,rfl,"set_iterator",_,hit.typeIs,kZ.lookup,h⟩
theorem N1(hh:A.handled=none)(ie:a≠I)(hd:oa.data=.set es ep t)(hf:t.fits es.size=true)(xs:List (Int×Value))(Sl:Nat->Nat->Prop)
  (step:∀i sl,Sl i sl->i<es.size->∃e nx,xs[i]? = some e/\Sl (i+1) nx/\∀(s:Shared) (R:Option (Value×Nat)->Shared->Prop) (E':Value->Shared->Prop),s.heap.get? a=some oa->R (some (e.2,nx)) s->wpAny (model prog w) A.in1 (setNext a sl i ep) R E' s)
  (fin:∀sl,Sl es.size sl->∀(s:Shared) (R:Option (Value×Nat)->Shared->Prop) (E':Value->Shared->Prop),s.heap.get? a=some oa->R none s->wpAny (model prog w) A.in1 (setNext a sl es.size ep) R E' s) :
  Walks prog w A I [I,a] [I] es.size (λi v=>∃e,xs[i]? = some e/\e.2=v) (λi h=>(∃sl:Nat,iS h I (.int sl 0) i a es.size ep/\Sl i sl)/\h.get? a=some oa) where
 sub:=λb hb=>by simp at hb;simp[hb]
 frame:=λ_ _ _ st hk=>⟨let⟨sl,x,y⟩:=st.1;⟨sl,x.at λo e=>hk I (by simp) o e,y⟩,hk a (by simp) _ st.2⟩
 item:=λi s Q E hi st hQ=>by
  obtain⟨⟨sl,x,y⟩,ho⟩:=st;obtain⟨e,nx,e1,e2,e3⟩:=step i sl y hi;refine next_item x ho hd hf (λR E' r=>e3 s R E' ho r) λh' x' sb=>?_
  exact hQ e.2 h' s.toks ⟨e,e1,rfl⟩ ⟨⟨nx,x',e2⟩,by rw[sb.2 a ie];exact ho⟩ λb o hb e=>by rw[sb.2 b (λz=>hb (by simp[z]))];exact e
 done:=λs Q E st hQ=>by
  obtain⟨⟨sl,x,y⟩,ho⟩:=st;exact next_end hh x ho hd hf (λR E' r=>fin sl y s R E' ho r) λh' eb=>hQ h' s.toks λb o hb e=>eb b o (λz=>hb (by simp[z])) e
 self:=λ_ _ _ _ st hQ=>by
  obtain⟨⟨sl,x,y⟩,ho⟩:=st;exact L8 x hQ
theorem Th{ys:List Nat}(hh:A.handled=none)(ie:a≠I)(V2:tp≠I)(hd:oa.data=.set es ep t)(hf:t.fits es.size=true)(rL:ot.data=.seq ((ys.map λ(i:Nat)=>rawInt i).toArray) c)(hy:ys.Perm (List.range es.size)):
  Walks prog w A I [I,a,tp] [I] es.size (λi v=>∃e,(ys.filterMap λj=>es[j]?)[i]? = some e/\e.2=v) (λi h=>iS h I (.ref tp) i a es.size ep/\h.get? a=some oa/\h.get? tp=some ot) where
 sub:=λb hb=>by simp at hb;simp[hb]
 frame:=λ_ _ _ st hk=>⟨st.1.at λo e=>hk I (by simp) o e,hk a (by simp) _ st.2.1,hk tp (by simp) _ st.2.2⟩
 item:=λi s Q E hi st hQ=>by
  obtain⟨x,ho,ht⟩:=st;have hl:ys.length=es.size:=by rw[hy.length_eq,adm]
  have hm:ys[i]'(by omega)<es.size:=afw.mp (hy.mem_iff.mp (aeD _));have e1:((ys.map λ(i:Nat)=>rawInt i).toArray)[i]? = some (rawInt (ys[i]'(by omega):Nat)):=by
   rw[ae7,acX,abL (by omega)];rfl
  have all:∀(zs:List Nat),(∀z∈zs,z<es.size)->(zs.filterMap λj=>es[j]?)=zs.map λj=>es.getD j (0,.none):=λzs=>by
   induction zs with
   |nil=>intro _;rfl
   |cons z zs ih=>
    intro hz;have q:=hz z aaF;rw[ad1,adD q,aaH,ih λz' m=>hz z' (aaY _ m)];simp[Array.getD,q]
  have e2:(ys.filterMap λj=>es[j]?)[i]? = some (es[ys[i]'(by omega)]):=by
   rw[all ys λz m=>afw.mp (hy.mem_iff.mp m),acX,abL (by omega)];simp[Array.getD,hm]
  refine RU x ho hd hf ht rL e1 (hx:=es[ys[i]'(by omega)].1) (x:=es[ys[i]'(by omega)].2) (adD hm) λh' x' sb=>?_
  exact hQ _ h' s.toks ⟨_,e2,rfl⟩ ⟨x',by rw[sb.2 a ie];exact ho,by rw[sb.2 tp V2];exact ht⟩ λb o hb e=>by rw[sb.2 b (λz=>hb (by simp[z]))];exact e
 done:=λs Q E st hQ=>by
  obtain⟨x,ho,ht⟩:=st;refine Sf hh x ho hd hf ht rL ?_ λh' eb=>hQ h' s.toks λb o hb e=>eb b o (λz=>hb (by simp[z])) e
  rw[ae7,aeh (by rw[List.length_map,hy.length_eq,adm];exact abW _)]
 self:=λ_ _ _ _ st hQ=>L8 st.1 hQ
theorem Wi{place:Array Nat}(hr:place.toList.Pairwise (· < ·))(hz:place.size=es.size)(h1:∀j (h:j<place.size),j<i->place[j]<sl)(h2:∀j (h:j<place.size),i<=j->sl<=place[j])(hi:i<es.size):
  SetTable.below place sl=i/\(∀j (h:j<place.size),j<i+1->place[j]<place[i]'(by omega)+1)/\∀j (h:j<place.size),i+1<=j->place[i]'(by omega)+1<=place[j]:=by
 have mono:∀a b (ha:a<place.size) (hb:b<place.size),a<b->place[a]<place[b]:=λa b ha hb nH=>by
  have:=aeW.mp hr a b (by simpa using ha) (by simpa using hb) nH;simpa using this
 refine⟨below_at hr (by omega) h1 h2,λj h hj=>?_,λj h hj=>mono i j (by omega) h (by omega)⟩
 by_cases e:j=i
 .subst e;exact aeb _
 .exact adV (mono j i h (by omega) (by omega))
end
section
variable{prog:Program}{w:World}{K:Type}[DecidableEq K]{knd:KeyKind prog w K}
variable{A:Around}{E:Value->Shared->Prop}{s:Shared}
variable{a:Addr}{oa:Obj}{es:Array (Int×Value)}{ep:Nat}{t:SetTable}
theorem Vt(hex:oa.ExactSet)(ho:s.heap.get? a=some oa)(hd:oa.data=.set es ep t)(hf:t.fits es.size=true)(oZ:Tl t (!jc w))(hz:es.size<scanBound)
  (h:∀(h':Heap) (d':Drawn) (I:Addr) (fp:List Addr) (xs:List (Int×Value)) (St:Nat->Heap->Prop),(∀b o,s.heap.get? b=some o->h'.get? b=some o)->s.heap.objs.size<=I->(∀b∈fp,b=a\/(s.heap.objs.size<=b/\b < h'.objs.size))->xs.Perm es.toList->
   (∀A':Around,A'.handled=none->Walks prog w A' I fp [I] es.size (λi v=>∃e,xs[i]? = some e/\e.2=v) St)->St 0 h'->Q (.ref I) { s with heap:=h',drawn:=d' }):wpAny (model prog w) A (pyIter (.ref a)) Q E s:=by
 have hT:s.TypeIs (.ref a) "set":=⟨oa,ho,hex.1⟩
 have cT:=abD ho;have Ro:t.place.size=es.size:=by
  have:=hf;unfold SetTable.fits at this;exact afy.mp ((acr _ _).mp this).1
 refine wpAny_pyIter_slot hT F.slot_set_iter (adI F.slot_set_iter hT Xm ?_ (F.args_set_iter_1 _));unfold Builtin.«frozenset.__iter__»;refine aaf (aa1 ?_);unfold Builtin.Frozenset.sizeOf;refine aaf (aaf (uQ ho hd hf (aa1 ?_)));unfold setDrawn;refine aaf (aaf (aev ho hd hf ?_));dsimp only;refine aaf (Ae (aa1 ?_));show wpAny _ _ (ite ((!jc w&&(!t.plain&&decide (es.size > 1)))=true) _ _) _ _ _;have Ky:∀(s1:Shared) (R:Nat->Shared->Prop),s1.heap.get? a=some oa->R ep s1->wpAny (model prog w) A.in1 (setEpoch a) R E s1:=λs1 R g r=>by
  unfold setEpoch;exact aaf (aev g hd hf (aa1 r))
 have Ku:∀(xs:List (Int×Value)) (Sl:Nat->Nat->Prop),xs.Perm es.toList->Sl 0 0->(∀A':Around,A'.handled=none->Walks prog w A' s.heap.objs.size [s.heap.objs.size,a] [s.heap.objs.size] es.size (λi v=>∃e,xs[i]? = some e/\e.2=v) (λi h=>(∃sl:Nat,iS h s.heap.objs.size (.int sl 0) i a es.size ep/\Sl i sl)/\h.get? a=some oa))->
   wpAny (model prog w) A.in1 (pure (rawInt 0)) (λfirst s1=>wpAny (model prog w) A.in1 (setEpoch a) (λe s2=>wpAny (model prog w) A.in1 (newFields "set_iterator" [first,rawInt 0,.ref a,rawInt es.size,rawInt e]) (λv s3=>wpAny (model prog w) A.in1 (ret v) (λfin s'=>∃v,fin=.done (.ret v)/\∃T' r,s'.TypeIs v T'/\typeLookup (.type T') "__next__"=pure (some r)/\Q v s') E s3) E s2) E s1) E s:=λxs Sl hp h0 W=>by
  refine aa1 (Ky s _ ho ?_);refine adq (aa1 ⟨_,rfl,"set_iterator",_,⟨_,abU _ rfl,rfl⟩,kZ.lookup,?_⟩) (by size_fits);have e:∀h1:Heap,({ s with heap:=h1 }:Shared)={ s with heap:=h1,drawn:=s.drawn }:=λh1=>rfl
  rw[e];refine h _ s.drawn s.heap.objs.size _ xs _ (λb o e=>aaB _ e) (abW _) (λb m=>?_) hp W ⟨⟨0,⟨_,abU _ rfl,rfl,rfl⟩,h0⟩,aaB _ ho⟩;rcases abh.mp m with z|z
  .exact .inr ⟨Nat.le_of_eq z.symm,by rw[adP,z];exact aeb _⟩
  .exact .inl (aa8.mp z)
 have ie:=acU cT;cases hb:jc w with
 |true=>
  rw[if_neg (by simp)];refine aaf (adE (Ku (pickOrder (w.params.setOrder a ep) es).toList (λ_ _=>True) (Js _ _) trivial λA' hh=>?_) (λv s1 q=>aaf (adE q (λe s2 q=>aaf q) λ_ _ x=>x)) λ_ _ x=>x);have hl:(pickOrder (w.params.setOrder a ep) es).toList.length=es.size:=by rw[(Js _ _).length_eq,acg]
  refine N1 hh ie hd hf _ _ (λi sl _ hi=>⟨(pickOrder (w.params.setOrder a ep) es).toList[i]'(by omega),sl,abL _,trivial,λs' R E' g r=>Kw hb g hd hf ?_⟩) λsl _ s' R E' g r=>Kw hb g hd hf ?_
  .rw[<- ad2,abL (by omega)];exact r
  .rw[<- ad2,aeh (by omega)];exact r
 |false=>
  rw[hb] at oZ;have Jr:=oZ.1;cases hp:(!t.plain&&decide (es.size > 1)) with
  |false=>
   rw[if_neg (by simp)];refine aaf (adE (Ku es.toList (λi sl=>(∀j (h:j<t.place.size),j<i->t.place[j]<sl)/\∀j (h:j<t.place.size),i<=j->sl<=t.place[j]) (List.Perm.refl _) ⟨λj h q=>absurd q (Nat.not_lt_zero _),λj h q=>aed _⟩ λA' hh=>?_) (λv s1 q=>aaf (adE q (λe s2 q=>aaf q) λ_ _ x=>x)) λ_ _ x=>x);refine N1 hh ie hd hf _ _ (λi sl hs hi=>?_) λsl hs s' R E' g r=>ND hb g hd hf Jr hp ?_
   .obtain⟨q1,q2,q3⟩:=Wi oZ.2.1 Ro hs.1 hs.2 hi;refine⟨es[i],t.place[i]'(by omega)+1,by rw[ad2,adD hi],⟨q2,q3⟩,λs' R E' g r=>ND hb g hd hf Jr hp ?_⟩;rw[q1,adD hi,adD (by omega)];exact r
   .have q:=below_at oZ.2.1 (by omega) hs.1 hs.2;rw[q,Array.getElem?_eq_none (abW _)];exact r
  |true=>
   rw[if_pos (by simp)];refine aaf (Ik (xs:=List.range es.size) (by rw[adm]) λys d' hy=>?_);have VX:ys.length=es.size:=by rw[hy.length_eq,adm]
   refine aaf (adq ?_ (by show((ys.map λ(i:Nat)=>rawInt i).toArray).size<=sizeLine;rw[ack,List.length_map,VX];exact fits_of_scanBound hz));refine aaf (Ky _ _ (aaB _ ho) ?_);refine aaf (adq (aa1 ⟨_,rfl,"set_iterator",_,⟨_,abU _ rfl,rfl⟩,kZ.lookup,?_⟩) (by size_fits));have hsz:∀o:Obj,(s.heap.push o).objs.size=s.heap.objs.size+1:=λo=>adP ..
   refine h _ d' _ [_,a,s.heap.objs.size] (ys.filterMap λj=>es[j]?) _ (λb o e=>aaB _ (aaB _ e)) (by rw[hsz];exact ae5 _) (λb m=>?_) ?_
    (λA' hh=>Th (tp:=s.heap.objs.size) hh (by rw[hsz];exact acU (adV cT)) (by rw[hsz];exact acU (aeb _)) hd hf rfl hy) ⟨⟨_,abU _ rfl,rfl,rfl⟩,aaB _ (aaB _ ho),aaB _ (abU _ rfl)⟩
   .rcases abh.mp m with z|z
    .refine .inr ⟨by rw[z,hsz];exact ae5 _,by rw[adP,z];exact aeb _⟩
    .rcases abh.mp z with z|z
     .exact .inl z
     .have z:=aa8.mp z;exact .inr ⟨Nat.le_of_eq z.symm,by rw[adP,hsz,z];exact adV (aeb _)⟩
   .have q:=(hy.filterMap λj=>es[j]?)
    rw[filterMap_getElem?_range] at q;exact q
end
section
variable{prog:Program}{w:World}{A:Around}{E:Value->Shared->Prop}{s:Shared}
variable{a:Addr}{oa:Obj}{es:Array (Int×Value)}{ep:Nat}{t:SetTable}
theorem abe{Q:List Value->Shared->Prop}(hh:A.handled=none)(hex:oa.ExactSet)(ho:s.heap.get? a=some oa)(hd:oa.data=.set es ep t)(hf:t.fits es.size=true)(oZ:Tl t (!jc w))(hz:es.size<scanBound)
  (hQ:∀s' (xs:List (Int×Value)),s.heap.objs.size<=s'.heap.objs.size->(∀b o,s.heap.get? b=some o->s'.heap.get? b=some o)->s'.gens=s.gens->s'.os=s.os->xs.Perm es.toList->Q (xs.map (·.2)) s') :
  wpAny (model prog w) A (collect (.ref a)) Q E s:=by
 have cT:=abD ho;unfold collect;refine aaf (wpAny_runValue (adK F.entry_proto_collect ?_));rw[adA F.plain_proto_collect _];refine aaf (adq ?_);refine aa1 ⟨aec F.plain_list_iadd _,adK F.entry_list_iadd ?_⟩;rw[adA F.plain_list_iadd _];have hsz:(s.heap.push { cls:=.type "list",data:=.seq ([]:List Value).toArray }).objs.size=s.heap.objs.size+1:=adP ..;have uO:∀b o,s.heap.get? b=some o->(s.heap.push { cls:=.type "list",data:=.seq ([]:List Value).toArray }).get? b=some o:=λb o e=>aaB _ e
 have AG:(s.heap.push { cls:=.type "list",data:=.seq ([]:List Value).toArray }).get? s.heap.objs.size=some { cls:=.type "list",data:=.seq ([]:List Value).toArray }:=abU _ rfl;show wpAny (model prog w) A.in1 (Builtin.List.listExtendWith (.ref s.heap.objs.size) (.ref a) (.ref s.heap.objs.size)) _ _ { s with heap:=s.heap.push { cls:=.type "list",data:=.seq ([]:List Value).toArray } };generalize s.heap.push { cls:=.type "list",data:=.seq ([]:List Value).toArray }=h1 at hsz uO AG ⊢;have BK:=uO _ _ ho;have Cr:({ s with heap:=h1 }:Shared).TypeIs (.ref a) "set":=⟨oa,BK,hex.1⟩
 unfold Builtin.List.listExtendWith;refine aaf (afm Cr ?_);have c1:Builtin.List.listSameRef (.ref s.heap.objs.size) (.ref a)=false:=by simp[Builtin.List.listSameRef,adY cT]
 have c2:(Value.type "set" == Value.type "list")=false:=by decide
 have c3:(Value.type "set" == Value.type "tuple")=false:=by decide
 simp only[c1,c2,c3,Bool.or_false,adM,afb];refine aaf (Vt hex BK hd hf oZ hz λh2 d' I fp xs St vW hI IS hp W Sa=>?_);refine aaf (aea ?_);have WM:=vW _ _ BK;have pO:({ s with heap:=h2,drawn:=d' }:Shared).TypeIs (.ref a) "set":=⟨oa,WM,hex.1⟩
 have nY:=vW _ _ AG;unfold Builtin.List.listLengthHint;refine aaf (ae6 pO VI ?_);generalize k9:("set.__len__":String)=oO
 (fail_if_success (clear k9 oO))
 wp_delta
 rw[show splitId oO=some ("set","__len__") from by subst k9;decide +kernel];subst k9;refine aaf (aem (b:=true) pO (by rw[aeE];kernel_rfl) ?_);show wpAny (model prog w) A.in1 (typeOf (.ref a) >>= _) _ _ _;refine aaf (afm pO ?_);refine aa1 ?_;refine aaf (aee ?_);refine aaf ?_;refine aaf (aeJ nY rfl ?_);have tW:=ado (Obj.mapSeq (·.push Value.none)) nY rfl;refine aeJ tW rfl ?_;have AN:=ado (Obj.mapSeq (·.pop)) tW rfl;have qS:∀b o,b≠s.heap.objs.size->h2.get? b=some o->((h2.update s.heap.objs.size (Obj.mapSeq (·.push Value.none))).update s.heap.objs.size (Obj.mapSeq (·.pop))).get? b=some o:=
  λb o hb e=>(ac9 _ _ (aej hb)).trans ((ac9 _ _ (aej hb)).trans e)
 have nf:s.heap.objs.size∉fp:=λm=>by
  rcases IS _ m with z|⟨z,_⟩
  .exact adY cT z
  .dsimp only at z;rw[hsz] at z;exact Nat.not_succ_le_self _ z
 have W':=(W A.in1 hh).toS;refine aa1 ⟨aec F.plain_extend_loop _,codeAny_extend_loopS W' (fits_of_scanBound hz) s.heap.objs.size nf _ es.size 0 _ _ _ rfl (aed _) ?_ AN (ItemsOf.nil _) λs' iC c' oN gG jL=>?_⟩
 .exact(W A.in1 hh).frame 0 _ _ Sa λb hb o e=>qS b o (λz=>nf (z ▸ hb)) e
 .show wpAny (model prog w) A (load s.heap.objs.size >>= _) _ _ s';refine aaf (wpAny_load gG ?_);have Ay:xs.length=es.size:=by rw[hp.length_eq,acg]
  have ea:iC.toList=xs.map (·.2):=by
   apply afu
   intro j;rw[acX,ad2]
   by_cases hj:j<iC.size
   .rw[adD hj];obtain⟨e,e1,e2⟩:=jL.2 j iC[j] (adD hj);rw[e1,Option.map_some,e2]
   .rw[Array.getElem?_eq_none (by omega),aeh (by rw[Ay,<- jL.1];omega)];rfl
  refine aa1 ?_;rw[ea];refine hQ s' xs (aen (abD gG)) (λb o e=>?_) oN.gens oN.os hp;have hb:=abD e;refine oN.heap b o ?_ (qS b o (acU hb) (vW b o (uO b o e)));intro m;rcases abh.mp m with z|z
  .exact absurd hb (by rw[z];exact adx _)
  .have z:=aa8.mp z;dsimp only at hI;rw[hsz] at hI;exact absurd (adl hb (Nat.le_of_succ_le hI)) (by rw[z];exact adx _)
end
open PySem PyProof.Rows
noncomputable abbrev jV(w:World):Obj:={ cls:=.type "set",dict:=none,data:=.set #[] 0 (.fresh 0 0 (!jc w)) }
section
variable{prog:Program}{w:World}{A:Around}{E:Value->Shared->Prop}{s:Shared}
theorem YR(h:R (.ref s.heap.objs.size) { s with heap:=s.heap.push (jV w) }):codeAny (model prog w) A (.call (.builtin "set.__new__") ⟨[.type "set",v],[]⟩) (wants R E) s:=by
 have nX:=sub_set_self;refine codeAny_of_tree ?_;refine aaf (afk (F.newCall_set_1 v) (aa1 ⟨aec F.plain_set_new _,adK F.entry_set_new ?_⟩));rw[adA F.plain_set_new _];unfold Builtin.«set.__new__» Builtin.Frozenset.newClass;obtain⟨hp,g,d,tk,os⟩:=s;dsimp only
 wp_walk
 refine wpAny_askSetting (aa1 ?_);dsimp only;refine adq ?_ (by size_fits);exact aa1 h
end
end L2.SetT
namespace L2
open PySem PySem.Spec PyProof.Rows L2.SetT
theorem SetT.ja.parts{K:Type}[DecidableEq K]{knd:KeyKind prog w K}{U:List K}(x:ja knd h a U led):U.Nodup/\∃o es ep t,h.get? a=some o/\o.ExactSet/\o.data=.set es ep t/\ElemsOf knd es.toList/\(∀k,k∈U↔∃e∈es.toList,knd.is k e.2=true)
 /\es.size<scanBound/\t.fits es.size=true/\es.size=U.length/\Tl t led:=by
 obtain⟨nd,o,es,ep,t,h1,h2,h3,h4,h5,r⟩:=x;exact⟨nd,o,es,ep,t,h1,h2,h3,h4,λk=>by rw[<- h5 k,afg],r⟩
noncomputable def kQ(P:Program)(w:World)(a:Addr)(U:List Int):HO:=.ext λh=>ja (dD P w) h a (U.map Sum.inl) (!jc w)
theorem kQ.ok{P:Program}{w:World}{H:Hp}{h:Heap}{a:Addr}{U:List Int}(x:ja (dD P w) h a (U.map Sum.inl) (!jc w)):cV P w H h a (kQ P w a U):=by
 obtain⟨_,o,_,_,_,ho,_⟩:=id x;exact⟨x,⟨o,ho⟩,λh1 h2 q e=>q.keep e⟩
theorem kQ.get(ok:dJ P w H h)(e:H a=some (kQ P w a U)):ja (dD P w) h a (U.map Sum.inl) (!jc w):=
 (show cV P w H h a (kQ P w a U) from ok a _ e).1
theorem Lr:∀{U:List Key},(∀k∈U,∃i:Int,k=Sum.inl i)->∃W:List Int,U=W.map Sum.inl
 |[],_=>⟨[],rfl⟩
 |k::U,h=>by
  obtain⟨i,rfl⟩:=h k aaF;obtain⟨W,e⟩:=Lr λj m=>h j (aaY _ m)
  exact⟨i::W,by rw[e];rfl⟩
theorem IX{W:List Int}:(Sum.inl i:Key)∈W.map Sum.inl↔i∈W:=by
 rw[adi];exact⟨λ⟨j,m,e⟩=>by cases e;exact m,λm=>⟨i,m,rfl⟩⟩
theorem MQ{W:List Int}(h:(W.map (Sum.inl:Int->Key)).Nodup):W.Nodup:=by
 rw[List.Nodup,List.pairwise_map] at h;exact h.imp λq e=>q (by rw[e])
theorem LS:∀{U ns:List Int},U.Nodup->(∀k∈U,k∈ns)->ns.length=U.length->ns.Perm U
 |[],ns,_,_,hl=>by
  have:ns=[]:=adT hl;subst this;exact List.Perm.refl _
 |u::U,ns,nd,sub,hl=>by
  obtain⟨n1,n2⟩:=acV.mp nd;have mu:=sub u aaF;have p:=List.perm_cons_erase mu;have q:(ns.erase u).Perm U:=LS n2 (λk m=>(List.mem_erase_of_ne (λe=>n1 (by rw[<- e];exact m))).mpr (sub k (aaY _ m))) (by rw[List.length_erase_of_mem mu,hl];rfl);exact p.trans (q.cons u)
theorem LJ{P:Program}{w:World}{U:List Int}:∀(xs:List (Int×Value)),(∀e∈xs,∃i∈U,∃t,e.2=.int i t)->∃ns:List Int,IntsAre (xs.map (·.2)) ns/\ns.length=xs.length/\∀e∈xs,∀i t,e.2=.int i t->i∈ns
 |[],_=>⟨[],.nil,rfl,λe m=>nomatch m⟩
 |x::xs,h=>by
  obtain⟨ns,h1,h2,h3⟩:=LJ (P:=P) (w:=w) xs λe m=>h e (aaY _ m)
  obtain⟨i,_,t,e⟩:=h x aaF;refine⟨i::ns,by rw[aaH,e];exact .cons i t h1,by rw[acS,h2,acS],λe' m j u q=>?_⟩;rcases abh.mp m with z|z
  .rw[z,e] at q;cases q;exact aaF
  .exact aaY _ (h3 e' z j u q)
def Z7(P:Program)(w:World):List V->Hp->VK->Prop:=λxs H Q=>∃(p:Addr) (U:List Int),xs=[.ref p]/\H p=some (kQ P w p U)/\U.length<64/\
 ∀(l:Addr) (jx:List Int),H l=none->jx.Perm U->jx.Pairwise (·<=·)->Q (.ref l) (upd H l (.lst (jx.map V.int)))
section
variable{X:Cx}
theorem Wa(hc:X.calm=true):fP X (.builtin "sorted") (Z7 X.prog X.w):=by
 intro pins s σ H xs us Q I r h;obtain⟨p,U,rfl,hp,i6,q⟩:=h;obtain⟨u,rfl,ru⟩:=vals1 r;cases ru;have hh:X.A.handled=none:=I.ok.hd hc;obtain⟨nd,o,es,ep,t,ho,hex,hd,o7,nN,hb,hf,hn,oZ⟩:=(kQ.get I.aI hp).parts;rw[List.length_map] at hn;refine OQ λQ' zE=>?_
 refine abe hh hex ho hd hf oZ hb λs' xs hle kp e1 e3 Ep=>?_
 have isInt:∀e∈xs,∃i∈U,∃t,e.2=.int i t:=λe m=>by
  have m2:=Ep.mem_iff.mp m;obtain⟨⟨k,q1,q2⟩,q3⟩:=o7 e m2;have m3:=(nN k).mpr ⟨e,m2,q1⟩;obtain⟨i,m4,rfl⟩:=adi.mp m3;rcases jO (show nE (Sum.inl i) e.2=true from q1) with⟨j,t',z1,z2⟩|⟨y,t',z1,z2⟩
  .cases z1;exact⟨i,m4,t',z2⟩
  .cases z1
 obtain⟨ns,n1,n2,n3⟩:=LJ (P:=X.prog) (w:=X.w) xs isInt;have Ay:xs.length=U.length:=by rw[Ep.length_eq,acg,hn]
 have pm:=LS (MQ nd) (λk m=>by
  obtain⟨e,m2,z⟩:=(nN (Sum.inl k)).mp (IX.mpr m);have m3:=Ep.mem_iff.mpr m2;rcases jO (show nE (Sum.inl k) e.2=true from z) with⟨j,t',z1,z2⟩|⟨y,t',z1,z2⟩
  .cases z1;exact n3 e m3 k t' z2
  .cases z1) (by rw[n2,Ay])
 refine zE _ s' ⟨⟨ns,n1,λout dg a1 a2 a3=>?_⟩,?_⟩
 .obtain⟨h',g',d',t',o'⟩:=s';dsimp only at e1 e3 kp hle;subst e1 e3;obtain⟨e,he⟩:=sortedHeap_at (vs:=xs.map (·.2)) (out:=out) (show(h'.push (seqObj "list" (xs.map (·.2)).toArray 0)).get? h'.objs.size=some (seqObj "list" (xs.map (·.2)).toArray 0) from abU _ rfl);have p2:=a2.trans pm;have hlen:dg.length<64:=by rw[p2.length_eq];exact i6
  have kk:∀b ob,s.heap.get? b=some ob->(sortedHeap (h'.push (seqObj "list" (xs.map (·.2)).toArray 0)) h'.objs.size (xs.map (·.2)) out).get? b=some ob:=λb ob eb=>by
   have hb:=abD (kp b ob eb);rw[sortedHeap_old (acU hb) (by rw[adP];exact adV hb)];exact aaB _ (kp b ob eb)
  refine⟨.ref h'.objs.size,upd H h'.objs.size (.lst (dg.map V.int)),?_,rfl,q _ dg (I.aI.fresh hle) p2 a3⟩;refine I.Lw (ch:=[]) rfl (Un.laid kk hle (I.aI.fresh hle)) (I.aI.laid kk hle ?_) I.bare λb z=>absurd z (by simp)
  exact⟨by rw[List.length_map];exact aen (zT (by omega)),out.toList,e,yz a1,by rw[he]⟩
 .rw[List.length_map,Ay]
  first|exact i6|exact aen (zT (by omega))
end
end L2
namespace L2.Ev
open PySem PySem.Spec PyProof.Rows L2.SetT
noncomputable def mz(a b:List Int):List Int:=b.foldl gH (a.foldl gH [])
theorem El:∀{b U:List Int},k∈b.foldl gH U↔k∈U\/k∈b
 |[],U=>by simp
 |j::b,U=>by
  rw[ad5,El,C8,abh,or_assoc]
theorem Fc:∀{b U:List Int},U.Nodup->(b.foldl gH U).Nodup
 |[],U,h=>h
 |j::b,U,h=>Fc (b:=b) (OW h)
theorem Dj:∀{b U:List Int},(b.foldl gH U).length<=U.length+b.length
 |[],U=>abW _
 |j::b,U=>by
  have h1:=Dj (b:=b) (U:=gH U j);have h2:=Lc (U:=U) (k:=j);rw[ad5,acS];omega
theorem J6:k∈mz a b↔k∈a\/k∈b:=by
 unfold mz;rw[El,El];simp
theorem NX:(mz a b).Nodup:=Fc (Fc ac1)
theorem YH:(mz a b).length<=a.length+b.length:=by
 have h1:=Dj (b:=b) (U:=a.foldl gH []);have h2:=Dj (b:=a) (U:=[]);unfold mz;simp only[List.length_nil] at h2;omega
theorem MW(h:l.Nodup):(ef l).Pairwise (· < ·):=by
 have n:=(rD l).nodup_iff.mpr h;exact(List.Pairwise.and (Cy l) n).imp λ⟨a,b⟩=>Int.lt_iff_le_and_ne.mpr ⟨a,b⟩
theorem Tn:bootBuiltins "set"=some (.type "set"):=by decide +kernel
theorem aL.new{H:Hp}{l:Addr}{o:HO}(h:H l=none):aL H (upd H l o):=λb o' e=>by rw[aY (dz e h)];exact e
end L2.Ev
namespace L2.Ev
open PySem PySem.Spec PyProof.Rows
def wk(X:Cx)(st:Stmt):TS:=λW σ H=>∀(pins:List (Addr×Obj)) (s:Shared),Inv X pins σ H s->wpAny (model X.prog X.w) X.A (exec st X.env) (SP X pins W) X.xe s
theorem OF{st:Stmt}:PS X st (wk X st):=λpins s _ _ _ I h=>h pins s I
inductive ER where
 |ok (d:D) (ρ:aK)|er (cn:XN) (ρ:aK)
def ab7(X:Cx)(H0:Hp)(S:List Addr)(held:List cI)(σ:St)(Q:VK)(E:XK):ER->Prop
 |.ok d ρ=>∀z H1 H' v fp,Ok X.K H0 S z held ρ σ H1->aL H1 H'->Rep X.K H' d v fp->cK z H1 .own fp->Q v H'
 |.er cn ρ=>∀z H' C,Ok X.K H0 S z held ρ σ H'->PySem.W.nsIn X.K mainGlobals cn.1=some (some (.ref C))->E (.ref C) cn.2 H'
noncomputable abbrev XR:=aK->Option ER
def FE(X:Cx)(e:Expr)(f:XR):Prop:=∃t,PX X e t/\∀(H0:Hp) (S:List Addr) (z:Addr->Option Nat) (held:List cI) (ρ:aK) (σ:St) (H:Hp) (Q:VK) (E:XK) (r:ER),
 Ok X.K H0 S z held ρ σ H->f ρ=some r->ab7 X H0 S held σ Q E r->t σ H Q E
theorem J3:uM X (λ_ _ _ _=>False):=λ_ _ _ _ _ _ _ _ z=>z.elim
noncomputable def pY(i:Nat)(f:XR):SF:=λρ=>match f ρ with
 |some (.ok d au)=>some (.nx (lV au i d .own))
 |some (.er cn au)=>some (.er false cn au)
 |none=>none
section
variable{X:Cx}{e:Expr}{f:XR}{pos:Pos}
theorem Hl(i:Nat)(he:FE X e f)(hN:X.N.Nodup)(hi:X.N[i]? = some x:=by rfl)(hx:Loc X.env.scope x:=by first|exact Or.inl rfl|exact Or.inr rfl)
  (hs:swapsWith e (some (.Name x pos')) pos.line X.env=pure false:=by rfl) (hf:X.fn x=true\/X.env.scope.names.lookup x=some .local:=by first|exact .inl rfl|exact .inr rfl) (mK:mG X x=false:=by rfl):fJ X (.Assign [.Name x pos'] e pos) (pY i f):=by
 obtain⟨t,p,q⟩:=he;refine⟨_,OF,λH0 S z held ρ σ H E o ok e k=>?_⟩;unfold pY at e;cases h:f ρ with
 |none=>rw[h] at e;cases e
 |some r=>
  rw[h] at e;intro pins s I;cases r with
  |ok d aG=>
   cases e;refine Mp J3 hN hi hx p hs hf pins s σ H E I ?_;exact q H0 S z held ρ σ H _ _ _ ok h λz1 H1 H2 v fp cC s1 r1 g1=>cC.stored (t:=.own) s1 r1 g1 λz' bq=>k z' _ H2 bq (.set hi mK)
  |er cn aG=>
   cases e;obtain⟨ES,th,kk⟩:=k;refine Mp th hN hi hx p hs hf pins s σ H E I ?_;exact q H0 S z held ρ σ H _ _ _ ok h λz1 H1 C cC hC=>kk z1 σ H1 C cC (.refl _ _) hC
end
inductive Rz where
 |ok (d:D)|er (cn:XN)
end L2.Ev
namespace L2
open PySem PySem.Spec PyProof.Rows
section
variable{X:Cx}{e:Expr}{ES:XS}{pos:Pos}
theorem HV(h:PE X.gq e t):PX X e (λσ H Q _=>t σ H Q):=λpins s σ H Q E I hw=>
 adE (h pins s σ H Q (I.jt _) hw) (λ_ _ ⟨v,H',I',r,q⟩=>⟨v,H',I'.kX,r,q⟩) λ_ _ z=>False.elim z
noncomputable abbrev Cx.qd(X:Cx)(xs:List Str):Cx:={ X with fn:=λy=>!(xs.contains y) }
theorem gK.qd{st:List Stmt}(hX:X.fn=λ_=>true)(h:gK (X.qd xs) st t):gK X st t:=λpins s σ H W I hw=>by
 have I':Inv (X.qd xs) pins σ H s:=⟨⟨I.ok.mod,I.ok.kind,I.ok.glob,I.ok.blt,I.ok.above,I.ok.inj,I.ok.has,λx c _ e=>I.ok.sG x c (by rw[hX]) e,I.ok.hd,I.ok.frames,I.ok.um,I.ok.yG,I.ok.bs,I.ok.jW,I.ok.sJ,I.ok.qU,I.ok.jw,I.ok.om⟩,I.os,I.bare,I.base,I.loc,I.cell,I.free,I.j_,I.pin,I.aI,I.len,I.hq⟩
 have back:∀{aD:St}{H':Hp}{s':Shared},Inv (X.qd xs) pins aD H' s'->Inv X pins aD H' s':=λJ=>⟨I.ok,J.os,J.bare,J.base,J.loc,J.cell,J.free,J.j_,J.pin,J.aI,J.len,J.hq⟩
 refine adE (h pins s σ H W I' hw) (λf s' q=>?_) λ_ _ z=>z
 cases f with
 |next=>obtain⟨a,b,J,q⟩:=q;exact⟨a,b,back J,q⟩
 |brk=>obtain⟨a,b,J,q⟩:=q;exact⟨a,b,back J,q⟩
 |cont=>obtain⟨a,b,J,q⟩:=q;exact⟨a,b,back J,q⟩
 |ret u=>obtain⟨v,a,b,J,r,q⟩:=q;exact⟨v,a,b,back J,r,q⟩
end
end L2
namespace L2.Ev
open PySem PySem.Spec PyProof.Rows
def mO(K:PySem.W.Frag)(G:MF):Sp:=λvs H Q _=>∃v0 ws d0 bJ ds gi r d1,vs=v0::ws/\Rep K H d0 v0 bJ/\bJ.Nodup/\aA K H ds ws gi/\(∀b∈gi,b∉bJ)/\G d0 ds=some (r,d1)/\
 ∀H' v cM eB,bW H H'->(∀b o,b∉bJ->H b=some o->H' b=some o)->Rep K H' d1 v0 cM->cM.Nodup->(∀b∈cM,b∈bJ\/H b=none)->Rep K H' r v eB->eB.Nodup->(∀b∈eB,(b∈bJ\/H b=none)/\b∉cM)->Q v H'
def wD(X:Cx)(H0:Hp)(S:List Addr)(held:List cI)(gR:St)(E:Ends):Out->Prop
 |.nx ρ=>∀z σ H,Ok X.K H0 S z held ρ σ H->Kp X gR σ->E.nx σ H
 |.bk ρ=>∀z σ H,Ok X.K H0 S z held ρ σ H->Kp X gR σ->E.bk σ H
 |.ct ρ=>∀z σ H,Ok X.K H0 S z held ρ σ H->Kp X gR σ->E.ct σ H
 |.er raw cn ρ=>nV X H0 S held gR raw cn ρ
 |.rt p=>∃r d0,p=.tup [r,d0]/\∀z ρ σ H v eB,Ok X.K H0 S z held ρ σ H->ρ[0]? = some (some (d0,.own))->Kp X gR σ->Rep X.K H r v eB->eB.Nodup->(∀b∈eB,(H0 b=none\/b∈S)/\z b≠some 0)->E.rt v H
def FQ(X:Cx)(st:List Stmt)(f:SF):Prop:=∃t,gK X st t/\∀(H0:Hp) (S:List Addr) (z:Addr->Option Nat) (held:List cI) (ρ:aK) (σ:St) (H:Hp) (E:Ends) (o:Out),
 Ok X.K H0 S z held ρ σ H->f ρ=some o->wD X H0 S held σ E o->t E σ H
def ur(X:Cx)(st:Stmt)(f:SF):Prop:=∃t,PS X st t/\∀(H0:Hp) (S:List Addr) (z:Addr->Option Nat) (held:List cI) (ρ:aK) (σ:St) (H:Hp) (E:Ends) (o:Out),
 Ok X.K H0 S z held ρ σ H->f ρ=some o->wD X H0 S held σ E o->t E σ H
theorem wD.of{E:Ends}{o:Out}(k:wD X H0 S held σ E o)(a:Kp X σ aD):wD X H0 S held aD E o:=by
 cases o with
 |nx ρ=>exact λz s H ok b=>k z s H ok (a.trans b)
 |bk ρ=>exact λz s H ok b=>k z s H ok (a.trans b)
 |ct ρ=>exact λz s H ok b=>k z s H ok (a.trans b)
 |er raw cn ρ=>exact nV.of k a
 |rt d=>obtain⟨r,d0,e,k⟩:=k;exact⟨r,d0,e,λz ρ s H v eB ok h b=>k z ρ s H v eB ok h (a.trans b)⟩
section
variable{X:Cx}{pos:Pos}{st:Stmt}{rest:List Stmt}{f g:SF}
theorem lW(h:qm X st f):ur X st f:=by
 obtain⟨t,p,q⟩:=h;refine⟨t,p,λH0 S z held ρ σ H E o ok e k=>q H0 S z held ρ σ H E o ok e ?_⟩;cases o with
 |nx ρ=>exact k
 |bk ρ=>exact k
 |ct ρ=>exact k
 |er raw cn ρ=>exact k
 |rt d=>obtain⟨r,d0,e,k⟩:=k;exact⟨r,d0,e,λz ρ s H v ok h b rr=>k z ρ s H v [] ok h b rr ac1 λb m=>nomatch m⟩
theorem EI(h:ur X st f):FQ X [st] f:=let⟨t,p,q⟩:=h;⟨t,tU p,q⟩
theorem lG(h1:ur X st f)(h2:FQ X rest g):FQ X (st::rest) (aB f g):=by
 obtain⟨t,p,q⟩:=h1;obtain⟨t',p',q'⟩:=h2;refine⟨_,xY p p',λH0 S z held ρ σ H E o ok e k=>?_⟩;unfold aB at e;cases h:f ρ with
 |none=>rw[h] at e;cases e
 |some w=>
  refine q H0 S z held ρ σ H _ w ok h ?_;rw[h] at e;cases w with
  |nx au=>exact λz' aD H' bq a=>q' H0 S z' held au aD H' E o bq e (k.of a)
  |rt d=>cases e;exact k
  |bk au=>cases e;exact k
  |ct au=>cases e;exact k
  |er _ _ _=>cases e;exact k
noncomputable def adt(i j:Nat):SF:=λρ=>match ρ[i]?,ρ[j]?,ρ[0]? with
 |some (some (d1,_)),some (some (d2,Tag.own)),some (some (d0,Tag.own))=>if aH d1=true/\j≠0 then some (.rt (.tup [.tup [d1,d2],d0])) else none
 |_,_,_=>none
end
section
variable{P:Program}{w:World}{K:PySem.W.Frag}{mg:Str->Option Value}{base:Heap}
theorem Dh{x qual x0:Str}{st:Stmt}{f:Addr}(F:bI K x qual st f fd)(S:cz N ps (aV st))(h0:N[0]? = some x0)(r8:ps.length<=N.length)
  (hb:∀(aT:Value) (A:Around) (outer:List Env) (s:Shared) (H:Hp) (E:XK),cN k (A.deeper (envOfC qual (aV st) s.heap.objs.size f aT))->FQ ((kD aJ P w K mg base N qual (aV st) f aT A outer s H E).gq.qd [x0]) (kL st) b) (YF:([x0].contains ("self":Str))=false:=by decide) :
  a_ P w K mg base aJ (k+1) f fd ps (mO K (runM ps.length N.length b)):=by
 classical
 refine F.ok S (λvs H Q E h=>?_) λaT A outer s H vs Q E hr h=>?_
 .obtain⟨v0,ws,d0,bJ,ds,gi,r,d1,rfl,_,_,rs,_,e,_⟩:=h;unfold runM at e
  by_cases hl:ds.length+1=ps.length
  .rw[acS,<- rs.length,hl]
  .rw[if_neg hl] at e;cases e
 .obtain⟨v0,ws,d0,bJ,ds,gi,r,d1,rfl,r0,GP,rs,dj,e,q⟩:=h;obtain⟨t,pt,sd⟩:=hb aT A outer s H E hr;refine⟨t,pt.qd rfl,?_⟩;unfold runM at e
  by_cases hl:ds.length+1=ps.length
  .rw[if_pos hl] at e;have lw:=rs.length;have ok:Ok K H bJ (λc=>if c∈bJ then some 0 else none) [] (oH N.length d0 ds) (start N (v0::ws)) H:=by
    refine⟨λi d t e'=>?_,λp m=>(nomatch m),λc j e'=>?_,λc o e' _=>e',?_⟩
    .cases i with
     |zero=>
      have e':=e';cases e';exact⟨v0,bJ,rfl,r0,GP,λc m=>if_pos m⟩
     |succ i=>
      have e':(ds.map (λd=>some (d,Tag.sh []))++List.replicate (N.length-(ds.length+1)) none)[i]? = some (some (d,t)):=e'
      by_cases hi:i<ds.length
      .rw[adC (by rw[List.length_map];exact hi),acX] at e';cases ed:ds[i]? with
       |none=>rw[ed] at e';cases e'
       |some d'=>
        rw[ed] at e';cases e';obtain⟨v,g,hv,rv,sub⟩:=rs.J1 ed;refine⟨v,g,?_,rv,λc m j nP=>?_⟩
        .show(some v0::(ws.map some++List.replicate (N.length-(ws.length+1)) none))[i+1]? = _;rw[List.getElem?_cons_succ,adC (by rw[List.length_map,<- lw];exact hi),acX,hv];rfl
        .have nP:(if c∈bJ then some 0 else none)=some j:=nP;rw[if_neg (dj c (sub c m))] at nP;cases nP
      .rw[ad7 (by rw[List.length_map];omega),ae0] at e'
       split at e'<;>cases e'
    .have e':=e'
     by_cases m:c∈bJ
     .obtain⟨o,w,_⟩:=r0.cF c m;exact⟨⟨o,w⟩,.inr m⟩
     .rw[if_neg m] at e';cases e'
    .unfold oH start;rw[acS,acZ,acZ,List.length_map,List.length_map,aef,aef,acS,lw];omega
   have fin:∀{z:Addr->Option Nat}{ρ:aK}{σ:St}{H':Hp}{v:V}{eB:List Addr},Ok K H bJ z [] ρ σ H'->ρ[0]? = some (some (d1,.own))->Kp ((kD aJ P w K mg base N qual (aV st) f aT A outer s H E).gq.qd [x0]) (start N (v0::ws)) σ->Rep K H' r v eB->eB.Nodup->(∀b∈eB,(H b=none\/b∈bJ)/\z b≠some 0)->Q v H':=by
    intro z ρ σ H' v eB bq h1 kp rr uB nG;obtain⟨u,cM,hs,r1,zz⟩:=bq.sl 0 d1 .own h1;have hk:=kp 0 _ h0 (by show(x0==("self":Str)||(!([x0].contains ("self":Str))&&!(!([x0].contains x0))))=true;rw[YF];simp);rw[hk] at hs;cases hs;have st:∀{c:Addr}{o:HO},H c=some o->nO o=false->H' c=some o:=λ{c o} e' mo=>bq.en c _ e' λm=>by
     obtain⟨o',w,vK⟩:=r0.cF c m;rw[e'] at w;cases w;rw[mo] at vK;cases vK
    exact q H' v cM eB ⟨λc xs e'=>st e' rfl,λc o u e'=>st e' rfl,λc φ e'=>st e' rfl⟩ (λc o n e'=>bq.en c o e' n) r1 zz.1 (λc m=>((bq.zd c 0 (zz.2 c m)).2).symm.imp id id) rr uB λc m=>⟨(nG c m).1.symm.imp id id,λm'=>(nG c m).2 (zz.2 c m')⟩
   cases ho:b (oH N.length d0 ds) with
   |none=>rw[ho] at e;cases e
   |some o=>
    rw[ho] at e;refine sd H bJ _ [] _ _ H _ o ok ho ?_;cases o with
    |rt p=>
     have hp:p=.tup [r,d1]:=by
      split at e<;>rename_i hh
      .cases e;cases hh;rfl
      .cases hh
      .cases e
     exact⟨r,d1,hp,λz ρ σ H' v eB bq h1 kp rr uB nG=>fin bq h1 kp rr uB nG⟩
    |nx au=>
     dsimp only at e
     split at e
     .rename_i dd h1;cases e;exact λz σ H' bq kp=>fin bq h1 kp .aE ac1 λb m=>nomatch m
     .cases e
    |bk _=>cases e
    |ct _=>cases e
    |er _ _ _=>cases e
  .rw[if_neg hl] at e;cases e
end
section
variable{K:PySem.W.Frag}{H H':Hp}
theorem Q2{bJ cM eB:List Addr}(im:bW H H')(kp:∀b o,b∉bJ->H b=some o->H' b=some o)(r1:Rep K H' d1 v0 cM)(rr:Rep K H' r u eB)(nG:∀b∈eB,(b∈bJ\/H b=none)/\b∉cM):
  ∃H4:Hp,bW H H4/\(∀b o,b∉bJ->H b=some o->H4 b=some o)/\Rep K H4 d1 v0 cM/\aL H4 H'/\∀a∈eB,H4 a=none:=by
 classical
 have st:∀{c:Addr}{o:HO},H' c=some o->nO o=false->(if c∈eB then none else H' c)=some o:=λ{c o} e mo=>by
  rw[if_neg λm=>?_]
  .exact e
  .obtain⟨o',w,vK⟩:=rr.cF c m;rw[e] at w;cases w;rw[mo] at vK;cases vK
 refine⟨λc=>if c∈eB then none else H' c,⟨λc xs e=>st (im.1 c xs e) rfl,λc o u e=>st (im.2.1 c o u e) rfl,λc φ e=>st (im.2.2 c φ e) rfl⟩,λb o n e=>?_,r1.frame (λc m=>if_neg λq=>(nG c q).2 m) ⟨λc xs e=>st e rfl,λc o u e=>st e rfl,λc φ e=>st e rfl⟩,λc o e=>?_,λa m=>if_pos m⟩
 .show(if b∈eB then none else H' b)=some o;rw[if_neg λm=>?_]
  .exact kp b o n e
  .rcases(nG b m).1 with q|q
   .exact n q
   .rw[e] at q;cases q
 .have e:(if c∈eB then none else H' c)=some o:=e
  by_cases m:c∈eB
  .rw[if_pos m] at e;cases e
  .rw[if_neg m] at e;exact e
end
noncomputable def oF(i:Nat)(G:MF)(g:AF):XR:=λρ=>match ρ[i]?,g ρ with
 |some (some (d0,.own)),some ps=>if apart i ps=true then(G d0 (ps.map (·.1))).map λw=>.ok w.1 (cL ρ i w.2) else none
 |_,_=>none
section
variable{X:Cx}{x xn:Str}{p p1 p2 pos:Pos}{b:Expr}{es:List Expr}{k:Nat}{f:Addr}{fd:FuncData}{ps:List Str}{G:MF}{g:AF}{fk:EF}
theorem Hx(i:Nat)(GG:a_ X.prog X.w X.K X.mg X.base aJ k f fd ps (mO X.K G))(hr:cN k X.A)(hm:X.mg x=some (.ref f))(hk:PySem.W.keepIn X.K (.ref f)=true)(hb:Binds X.K fd ps [])(ha:FA X.gq es g)
  (hN:X.N[i]? = some xn:=by rfl) (fY:gP X.env.scope xn:=by first|exact Or.inl rfl|exact Or.inr (Or.inl rfl)|exact Or.inr (Or.inr rfl)) (hd:(xn==("__debug__":Str))=false:=by decide) (cQ:(xn==("__classdict__":Str))=false:=by decide)
  (hg:Gl X x:=by rfl) (e8:(x==("__debug__":Str))=false:=by decide) (he:starEach (.Name xn p1::es) X.env=(false,eval (.Name xn p1) X.env)::starEach es X.env:=by rfl) (hpl:(backTo pos (starEach es X.env)).any (·.1)=false:=by rfl) :
  FE X (.Call (.Name x p) (.Name xn p1::es) [] pos) (oF i G g):=by
 obtain⟨t,pa,_,sa⟩:=ha;refine⟨_,HV (xW (X:=X.gq) GG hr hg hm hk hb .nil pA (c_ (gX (X:=X.gq) (i:=i) hN fY hd cQ) pa he) e8 he hpl),λH0 S z held ρ σ H Q E r ok e0 kk=>?_⟩;unfold oF at e0
 split at e0
 .rename_i d0 qs h1 h2
  by_cases wg:apart i qs=true
  .rw[if_pos wg] at e0;cases h3:G d0 (qs.map (·.1)) with
   |none=>rw[h3] at e0;cases e0
   |some w=>
    rw[h3] at e0;cases e0;obtain⟨v,bJ,hs,r0,zz⟩:=ok.sl i _ _ h1;refine⟨v,hs,?_⟩;refine sa H0 S z held ρ σ H _ qs ok h2 λH2 vs mL s2 r2 g2=>?_
    show mO X.K G ((v::vs)++[]) H2 Q E0;rw[ady];have fG:=ok.same s2;refine⟨v,vs,d0,bJ,_,mL,w.1,w.2,rfl,r0.same s2,zz.1,r2,Ls ok wg g2 zz,h3,λH3 u cM eB im kp r1 nd fr rr uB nG=>?_⟩;obtain⟨H4,i4,k4,r4,s4,n4⟩:=Q2 im kp r1 rr nG;obtain⟨z',lD⟩:=fG.put h1 hs zz i4 k4 r4 nd fr;exact kk z' H4 H3 u eB lD s4 rr ⟨uB,n4⟩
  .rw[if_neg wg] at e0;cases e0
 .cases e0
end
noncomputable def ac8(cn m:Str)(F:List D->Option Rz)(fo:EF)(g:AF):XR:=λρ=>match fo ρ,g ρ with
 | some (.ins c es,_),some ps=>if c=cn/\es.lookup m=none then(match F (.ins c es::ps.map (·.1)) with
  |some (.ok d)=>some (.ok d ρ)
  |some (.er en)=>some (.er en ρ)
  |none=>none) else none
 |_,_=>none
noncomputable def wV(fa fh:EF):EF:=λρ=>match fa ρ,fh ρ with
 |some (.lst ds,_),some (.int i,_)=>if aN ds=true then some (.lst (cutD ds (some i) none),.own) else none
 |_,_=>none
section
variable{X:Cx}{a b:Expr}{fa:EF}{p2 pos:Pos}
theorem Y4{fh:EF}(ha:FP X a fa)(hh:FP X b fh):FP X (.Subscript a (.Slice (some b) none none p2) pos) (wV fa fh):=by
 obtain⟨t,p,q⟩:=ha;obtain⟨th,ph,qh⟩:=hh;refine⟨_,EX A9 p (Eh ph) D8,λH0 S z held ρ σ H Q d tg ok e k=>?_⟩;unfold wV at e
 split at e
 .rename_i ds t1 i t2 e1 e2
  by_cases hi:aN ds=true
  .rw[if_pos hi] at e;cases e;refine q H0 S z held ρ σ H _ _ t1 ok e1 λH1 x f1 s1 r1 _=>?_
   refine qh H0 S z held ρ σ H1 _ _ t2 (ok.same s1) e2 λH2 y f2 s2 r2 _=>?_
   cases r2;refine⟨i,rfl,?_⟩;obtain⟨w,xs,f,rfl,hq,rs,_⟩:=(r1.same s2).e7;have hn:=rs.aH hi;subst hn;refine⟨w,xs,rfl,hq,λp hp=>?_⟩;have s3:aL H2 (upd H2 p (.lst (j8 xs (some i) none))):=λb o e=>by rw[aY (dz e hp)];exact e
   have rr:aA X.K H2 (cutD ds (some i) none) (j8 xs (some i) none) []:=by
    unfold cutD j8;rw[rs.length];exact aA.xm _ (aA.ye _ rs)
   refine k _ _ [p] ((s1.trans s2).trans s3) (.lst cB (rr.same s3)) ⟨acV.mpr ⟨(λm=>by cases m),ac1⟩,λa m=>?_⟩;cases aa8.mp m;exact s1.free (s2.free hp)
  .rw[if_neg hi] at e;cases e
 .cases e
end
noncomputable def cD(fa fb:EF):EF:=λρ=>match fa ρ,fb ρ with
 |some (.tup ds,.sh o),some (.int i,_)=>(cS ds i).map λd=>(d,.sh o)
 |_,_=>none
theorem mD{X:Cx}{fa fb:EF}{pos:Pos}(ha:FP X a fa)(hb:FP X b fb)(hs:uS b:=by exact λ_ _=>rfl):FP X (.Subscript a b pos) (cD fa fb):=by
 obtain⟨ta,pa,sa⟩:=ha;obtain⟨tb,pb,sb⟩:=hb;refine⟨_,zg yV pa pb hs,λH0 S z held ρ σ H Q d tg ok e q=>?_⟩;unfold cD at e
 split at e
 .rename_i ds o i t2 e1 lq;cases h3:cS ds i with
  |none=>rw[h3] at e;cases e
  |some d3=>
   rw[h3] at e;cases e;refine sa H0 S z held ρ σ H _ _ _ ok e1 λH1 x f1 s1 r1 g1=>?_
   refine sb H0 S z held ρ σ H1 _ _ t2 (ok.same s1) lq λH2 y f2 s2 r2 _=>?_
   have r1:=r1.same s2;obtain⟨p,xs,rfl,hq,rs⟩:=r1.lB;cases r2;unfold cS at h3;cases h:ku ds.length i with
   |none=>rw[h] at h3;cases h3
   |some j=>
    rw[h,adk] at h3;obtain⟨v,f',hv,rv,hm⟩:=rs.get h3;refine .inr (.inl ⟨p,xs,i,v,rfl,rfl,hq,?_,q H2 v f' (s1.trans s2) rv λa m=>g1 a (hm a m)⟩);unfold cS;rw[<- rs.length,h,adk];exact hv
 .cases e
theorem aA.MP{K:PySem.W.Frag}:∀{ds:List D}{vs:List V}{fp:List Addr}{i:Nat}{d:D},aA K H ds vs fp->ds[i]? = some d->∃v f,vs[i]? = some v/\Rep K H d v f/\f.Sublist fp
 |_,_,_,_,_,.nil,e=>by simp at e
 |_,_,_,0,_,.cons (f2:=f2) h t,e=>by
  cases aco e;exact⟨_,_,rfl,h,List.sublist_append_left _ _⟩
 |_,_,_,i+1,d,.cons h t,e=>by
  obtain⟨v,f,e1,r,s⟩:=aA.MP (d:=d) t (by simpa using e);exact⟨v,f,by simpa using e1,r,s.trans (List.sublist_append_right _ _)⟩
noncomputable def mT(fa fb:EF):EF:=λρ=>match fa ρ,fb ρ with
 |some (.lst ds,.own),some (.int i,_)=>(cS ds i).map λd=>(d,.own)
 |_,_=>none
theorem IB(ha:FP X a fa)(hb:FP X b fb)(hs:uS b:=by exact λ_ _=>rfl):FP X (.Subscript a b pos) (mT fa fb):=by
 obtain⟨ta,pa,sa⟩:=ha;obtain⟨tb,pb,sb⟩:=hb;refine⟨_,zg yV pa pb hs,λH0 S z held ρ σ H Q d tg ok e q=>?_⟩;unfold mT at e
 split at e
 .rename_i ds i t2 e1 lq;cases e3:cS ds i with
  |none=>rw[e3] at e;cases e
  |some d'=>
   rw[e3] at e;cases e;refine sa H0 S z held ρ σ H _ _ _ ok e1 λH1 x f1 s1 r1 g1=>?_
   refine sb H0 S z held ρ σ H1 _ _ t2 (ok.same s1) lq λH2 y f2 s2 r2 _=>?_
   have r1:=r1.same s2;cases r2;unfold cS at e3;cases h:ku ds.length i with
   |none=>rw[h] at e3;cases e3
   |some j=>
    rw[h,adk] at e3;cases r1 with
    |lst hq rs=>
     obtain⟨v,f',hv,rv,hm⟩:=rs.MP e3;have g1:=g1;refine .inl ⟨_,_,i,v,rfl,rfl,bQ.of hq,?_,q H2 v f' (s1.trans s2) rv ⟨hm.nodup (acV.mp g1.1).2,λa m=>g1.2 a (aaY _ (hm.subset m))⟩⟩;unfold cS;rw[<- rs.length,h,adk];exact hv
 .cases e
section
variable(P:Program)(w:World)(K:PySem.W.Frag)(mg:Str->Option Value)(base:Heap)(CX:jC)(k:Nat)
def FN(x:Str)(ps:List Str)(sp:Sp)(cm:Bool:=true):Prop:=∃a fd,a_ P w K mg base CX k a fd ps sp cm/\mg x=some (.ref a)/\PySem.W.keepIn K (.ref a)=true/\Binds K fd ps []
def MT(C:Addr)(x:Str)(ps:List Str)(sp:Sp)(cm:Bool:=true):Prop:=∃a fd,a_ P w K mg base CX k a fd ps sp cm/\Binds K fd ps []/\oS K C x a
def MI(C:Addr)(ps:List Str)(sp:Sp)(cm:Bool:=true):Prop:=∃a fd,a_ P w K mg base CX k a fd ps sp cm/\Binds K fd ps []/\Mk K C a
end
def GL(K:PySem.W.Frag)(x q:Str)(st:Stmt)(f:Addr):Prop:=∃oc od kV dc pm an cd ct sl,K.lookup f=some ⟨oc,od,.func (PySem.W.fnOf x q (p5 st) (kL st) (aV st) .none kV dc pm an cd ct),sl⟩/\PySem.W.codeIn K cd q=true/\PySem.W.keepIn K (.ref f)=true
def dZ(K:PySem.W.Frag)(x:Str)(st:Stmt):Prop:=∃f,PySem.W.nsIn K mainGlobals x=some (some (.ref f))/\GL K x x st f
def GM(K:PySem.W.Frag)(C:Addr)(x q:Str)(st:Stmt):Prop:=∃f,PySem.W.findIn K (.ref C) x=some (some (.ref f))/\PySem.W.isFn K (.ref f)=true/\GL K x q st f
noncomputable abbrev BA(x q:Str)(st:Stmt)(ps:List Str):Prop:=∀(kV doc pm:Value) (an:Option Addr) (aT ct:Value) (us:List Value),us.length=ps.length->bindArgs (PySem.W.fnOf x q (p5 st) (kL st) (aV st) .none kV doc pm an aT ct) ⟨us,[]⟩=pure (ps.zip us)
theorem yp{K:PySem.W.Frag}{x q:Str}{st:Stmt}{f:Addr}(l:GL K x q st f):PySem.W.keepIn K (.ref f)=true/\∃fd,bI K x q st f fd:=by
 obtain⟨oc,od,kV,dc,pm,an,cd,ct,sl,h1,h2,h3⟩:=l;exact⟨h3,_,N8 h1 h2 h3⟩
section
variable{P:Program}{w:World}{K:PySem.W.Frag}{h:Heap}{mg:Str->Option Value}{base:Heap}{CX:jC}{k:Nat}{C:Addr}{x q:Str}{st:Stmt}{ps:List Str}{sp:Sp}{cm:Bool}
theorem fF(X:K.In h)(G:h.Ns mainGlobals mg)(l:dZ K x st)(ok:∀{f:Addr}{fd:FuncData},bI K x x st f fd->a_ P w K mg base CX k f fd ps sp cm)(b:BA x x st ps):FN P w K mg base CX k x ps sp cm:=by
 obtain⟨f,a,l⟩:=l;obtain⟨kp,fd,F⟩:=yp l;exact⟨f,fd,ok F,PySem.W.mg_of X G a,kp,F.binds b⟩
theorem oQ(l:GM K C x q st)(ok:∀{f:Addr}{fd:FuncData},bI K x q st f fd->a_ P w K mg base CX k f fd ps sp cm)(b:BA x q st ps):MT P w K mg base CX k C x ps sp cm:=by
 obtain⟨f,a,i,l⟩:=l;obtain⟨kp,fd,F⟩:=yp l;exact⟨f,fd,ok F,F.binds b,⟨a,i,kp⟩⟩
theorem miW(l:GM K C "__init__" q st)(m1:PySem.W.makesIn K C=true)(m2:PySem.W.keepIn K (.ref C)=true)(ok:∀{f:Addr}{fd:FuncData},bI K "__init__" q st f fd->a_ P w K mg base CX k f fd ps sp cm)(b:BA "__init__" q st ps):MI P w K mg base CX k C ps sp cm:=by
 obtain⟨f,a,i,l⟩:=l;obtain⟨kp,fd,F⟩:=yp l;exact⟨f,fd,ok F,F.binds b,⟨m1,a,i,m2⟩⟩
theorem P7{sp:Heap->Sp}(X:K.In h)(G:h.Ns mainGlobals mg)(BG:mg "law"=some (.ref fa))(l:dZ K "law" st)
  (b:∀(kV doc pm:Value) (an:Option Addr) (aT ct:Value) (s:Shared) (v:Value),BindsTo s (PySem.W.fnOf "law" "law" (p5 st) (kL st) (aV st) .none kV doc pm an aT ct) ⟨[v],[]⟩ [(p,v)])
  (ok:∀base:Heap,K.In base->base.Ns mainGlobals mg->∀{f:Addr}{fd:FuncData},bI K "law" "law" st f fd->a_ P w K mg base CX k f fd [p] (sp base) cm) :
  ∃fd:FuncData,(∀(s:Shared) (v:Value),BindsTo s fd ⟨[v],[]⟩ [(p,v)])/\∀base:Heap,K.In base->base.Ns mainGlobals mg->a_ P w K mg base CX k fa fd [p] (sp base) cm:=by
 obtain⟨f,a,oc,od,kV,dc,pm,an,cd,ct,sl,h1,h2,h3⟩:=l;have e:=BG.symm.trans (PySem.W.mg_of X G a);cases e;exact⟨_,b kV dc pm an cd ct,λbase K1 G1=>ok base K1 G1 (N8 h1 h2 h3)⟩
end
section
variable{g:GF}{t:Tag}{f:SF}{d:D}{ds:List D}{ρ aG bS:aK}
theorem qX(h1:g d t ρ=some aG)(h2:f aG=some (.nx bS)):cX g t f (d::ds) ρ=cX g t f ds bS:=by
 conv=>lhs;unfold cX
 rw[h1];dsimp only;rw[h2]
theorem Pp(h1:g d t ρ=some aG)(h2:f aG=some (.rt r)):cX g t f (d::ds) ρ=some (.rt r):=by
 unfold cX;rw[h1];dsimp only;rw[h2]
end
end L2.Ev
namespace L2
open PySem PySem.Spec PyProof.Rows
section
variable{X:Cx}{o e:Expr}{to:TE}{t:TX}{name:Str}{apos cpos:Pos}{T id:String}{r:V->List V->Hp->VK->Prop}
def acy(K:PySem.W.Frag)(T:String)(r:V->List V->Hp->VK->Prop)(to:TE)(t:TX):TX:=λσ H Q E=>to σ H λx H1=>Aq K T x H1/\t σ H1 (λy H2=>r x [y] H2 Q) E
theorem abt(pa:PlainAttrs T)(slot:PySem.Slot T name id)(pK:typeOf (.builtin id)=pure (.type "method_descriptor"))(hm:rC X.gq id r)(ho:PE X.gq o to)(ha:PX X e t)
  (iu:attributeBase o name X.env (eval o X.env)=eval o X.env:=by rfl)
  (jK:((backTo cpos (starEach [e] X.env)).all (λx=>!x.1)&&(backToKw cpos (keywordEach [] X.env)).all (λx=>x.1.isSome)
   && decide ([e].length+([]:List Keyword).length+(if([]:List Keyword).isEmpty then 0 else 1)<30))=true:=by rfl)
  (iD:(apos.endLine==cpos.line)=true:=by rfl) (hs:starEach [e] X.env=[(false,eval e X.env)]:=by rfl) :
  PX X (.Call (.Attribute o name apos) [e] [] cpos) (acy X.K T r to t):=by
 intro pins s σ H Q E I h;refine wpAny_Call_method_late iu jK iD rfl (adE (Xa ho I h) (λv s1 ⟨x,H1,I1,r1,ty,q1⟩=>?_) λ_ _ z=>z);obtain⟨h1,h2⟩:=CC I1 r1 ty;refine⟨T,id,pa,slot,pK,h1,h2,?_⟩;rw[hs];refine ae2 rfl (Calls.evalArgs_plain ?_);refine aeS (adE (ha pins s1 σ H1 _ _ I1 q1) (λu s2 ⟨y,H2,I2,r2,q2⟩=>?_) λ_ _ z=>z);refine ae9 ?_;exact adE (hm pins s2 σ H2 x [y] v [u] Q (I2.jt _) r1 (.cons r2 .nil) q2) (λ_ _ ⟨v,H',I',r,q⟩=>⟨v,H',I'.kX,r,q⟩) λ_ _ z=>False.elim z
end
namespace Zt
section
variable{prog:Program}{w:World}{A:Around}{E:Value->Shared->Prop}{s:Shared}
theorem drawn(hit:s.heap.IsTupleIter it t i)(ht:s.heap.IsTuple t items)(hx:items[i]? = some x)
  (hQ:∀h',h'.IsTupleIter it t (i+1)->Heap.SameBut it s.heap h'->Q x { s with heap:=h' }):wpAny (model prog w) A (Builtin.SmallTypes.nextOf (.ref it)) Q E s:=by
 obtain⟨oi,ei,ci,di⟩:=id hit;obtain⟨ot,et,_,nt,dt⟩:=ht;unfold Builtin.SmallTypes.nextOf;refine aaf (adB (name:=Str.ofString "__next__") hit.typeIs aeN (adI aeN hit.typeIs F.entry_tuple_iterator_next ?_ (F.args_tuple_iterator_next_1 _)));show wpAny _ _ (field (.ref it) 0 >>= λv=>_) _ _ s;refine aaf (aek ei di rfl ?_);refine aeK (λz=>absurd z ab3) λ_=>?_
 refine aaf (aek ei di rfl ?_);refine aaf (adW et dt ?_);simp only[aeu,hx];refine aaf (aeX ei di (by simp) (aa1 ⟨x,rfl,aa1 (hQ _ ⟨_,ado _ ei (aeU (adO di _)),(Obj.cls_mapFields ..).trans ci,?_⟩ (aeL ..))⟩));rw[adO di];simp[rawInt]
theorem ended(hh:A.handled=none)(hit:s.heap.IsTupleIter it t i)(ht:s.heap.IsTuple t items)(hx:items[i]? = none)
  (hE:∀h' e,Heap.ExtBut it s.heap h'->(∃o,h'.get? e=some o/\o.cls=.type "StopIteration")->E (.ref e) { s with heap:=h' }):wpAny (model prog w) A (Builtin.SmallTypes.nextOf (.ref it)) Q E s:=by
 obtain⟨oi,ei,ci,di⟩:=id hit;obtain⟨ot,et,_,nt,dt⟩:=ht;have mY:=hh;unfold Builtin.SmallTypes.nextOf;refine aaf (adB (name:=Str.ofString "__next__") hit.typeIs aeN (adI aeN hit.typeIs F.entry_tuple_iterator_next ?_ (F.args_tuple_iterator_next_1 _)));show wpAny _ _ (field (.ref it) 0 >>= λv=>_) _ _ s;refine aaf (aek ei di rfl ?_);refine aeK (λz=>absurd z ab3) λ_=>?_
 refine aaf (aek ei di rfl ?_);refine aaf (adW et dt ?_);simp only[aeu,hx];refine aaf (aee (aaf (aeX ei di (by simp) ?_)));unfold Builtin.SmallTypes.stopIteration;refine aaf ?_;unfold newExc newTuple;refine aaf (adq ?_ (by size_fits));refine aaf (afk (by first|(simp only[firstArgMember];rfl)|rfl) ?_);refine adq ?_ (by size_fits);unfold raiseNew;refine aaf (wpAny_handled ?_);rw[mY];exact aaf (aa1 (wpAny_throw (hE _ _ (((aeL ..).extBut.push _).push _) ⟨_,abU _ rfl,rfl⟩)))
theorem step{z TI TO i1 i2 l1 l2:Addr}{Q:Fin->Shared->Prop}(D:ZipApart z TI TO i1 i2 l1 l2)
  (hz:IsZip s.heap z TI TO .none) (GB:IsPair s.heap TI (.ref i1) (.ref i2)) (E9:IsPair s.heap TO a b)
  (h1:s.heap.IsTupleIter i1 l1 k) (h2:s.heap.IsTupleIter i2 l2 k) (t1:s.heap.IsTuple l1 xs) (t2:s.heap.IsTuple l2 ys)
  (hQ:∀x y h',xs[k]? = some x->ys[k]? = some y->IsZip h' z TI TO (rawInt s.heap.objs.size)->IsPair h' TO x y->h'.IsTupleIter i1 l1 (k + 1)->h'.IsTupleIter i2 l2 (k + 1)->IsPair h' s.heap.objs.size x y->
   (∀c o,c∉[z,TO,i1,i2]->s.heap.get? c=some o->h'.get? c=some o)->Q (.done (.ret (.ref s.heap.objs.size))) { s with heap:=h' })
  (hE:(xs[k]? = none\/ys[k]? = none)->A.handled=none/\∀h' e,(∀c o,c∉[z,TO,i1,i2]->s.heap.get? c=some o->h'.get? c=some o)->(∃o,h'.get? e=some o/\o.cls=.type "StopIteration")->E (.ref e) { s with heap:=h' }) :
  wpAny (model prog w) A (Builtin.«zip.__next__» ⟨[.ref z],[]⟩) Q E s:=by
 show wpAny _ _ (field (.ref z) 2 >>= λv=>_) _ _ _;refine aaf (aek hz rfl rfl ?_);refine aaf (aek hz rfl rfl (aaf (adW GB rfl ?_)));refine aaf ?_;unfold Builtin.SmallTypes.ownedTupleIsFree;refine aaf (aek hz rfl rfl (aa1 ?_));simp only[afp];refine aaf (aee (aaf (aek hz rfl rfl (aaf (aeT hz (by simp) λg1 z1 b1=>?_)))));have Cq:=z1;have D1:=D;obtain⟨TIz,TOz,i1z,i2z,TITO,TIi1,TIi2,TOi1,TOi2,i12,l1z,l1TO,l1i1,l1i2,l2z,l2TO,l2i1,l2i2⟩:=D1;refine aaf ?_;simp only[List.zipIdx_cons,List.zipIdx_nil,List.forIn_cons,List.forIn_nil];refine aaf (aaf (wpAny_onRaise ?_));cases hx:xs[k]? with
 |none=>
  obtain⟨hh,fin⟩:=hE (.inl hx);refine aaf (ended hh (h1.extBut b1.extBut i1z) (t1.extBut b1.extBut l1z) hx λg2 e b2 ⟨oe,he,ce⟩=>?_);have z2:=b2 _ _ i1z.symm Cq;have ez:e≠z:=λq=>by subst q;rw[z2] at he;cases he;simp at ce
  refine aeT z2 (by simp) λg3 _ b3=>fin g3 e (λc o m q=>?_) ⟨oe,b3.extBut _ _ ez he,ce⟩
  simp only[abh,ac4,aei,not_or] at m;exact b3.extBut _ _ m.1 (b2 _ _ m.2.2.1 (b1.extBut _ _ m.1 q))
 |some x=>
  refine aaf (drawn (h1.extBut b1.extBut i1z) (t1.extBut b1.extBut l1z) hx λg2 Yb b2=>aa1 ?_);have o2:=b2.extBut _ _ TOi1 (b1.extBut _ _ TOz E9);refine aaf (adW o2 rfl (aaf (wpAny_updateSeq_pair o2 λg3 o3 b3=>aaf (afv (aa1 ?_)))));have RP:=o3;refine aaf (aaf (wpAny_onRaise ?_));have j2:=((h2.extBut b1.extBut i2z).extBut b2.extBut i12.symm).extBut b3.extBut TOi2.symm;have u2:=((t2.extBut b1.extBut l2z).extBut b2.extBut l2i1).extBut b3.extBut l2TO;cases hy:ys[k]? with
  |none=>
   obtain⟨hh,fin⟩:=hE (.inr hy);refine aaf (ended hh j2 u2 hy λg4 e b4 ⟨oe,he,ce⟩=>?_);have z4:=b4 _ _ i2z.symm (b3.extBut _ _ TOz.symm (b2.extBut _ _ i1z.symm Cq));have ez:e≠z:=λq=>by subst q;rw[z4] at he;cases he;simp at ce
   refine aeT z4 (by simp) λg5 _ b5=>fin g5 e (λc o m q=>?_) ⟨oe,b5.extBut _ _ ez he,ce⟩
   simp only[abh,ac4,aei,not_or] at m;exact b5.extBut _ _ m.1 (b4 _ _ m.2.2.2 (b3.extBut _ _ m.2.1 (b2.extBut _ _ m.2.2.1 (b1.extBut _ _ m.1 q))))
  |some y=>
   refine aaf (drawn j2 u2 hy λg4 k2 b4=>aa1 ?_);have o4:=b4.extBut _ _ TOi2 RP;refine aaf (adW o4 rfl (aaf (wpAny_updateSeq_pair o4 λg5 o5 b5=>aaf (afv (aa1 (aa1 ?_))))));have Jb:IsPair g5 TO x y:=o5;refine aaf (adW Jb rfl (aaf (wpAny_newTuple ?_)));have sz:g5.objs.size=s.heap.objs.size:=by rw[b5.1,b4.1,b3.1,b2.1,b1.1]
   have z5:IsZip g5 z TI TO .ellipsis:=b5.extBut _ _ TOz.symm (b4.extBut _ _ i2z.symm (b3.extBut _ _ TOz.symm (b2.extBut _ _ i1z.symm Cq)));have zl:g5.objs.size≠z:=adY (abD z5);refine aaf ?_;unfold Builtin.SmallTypes.ownedTupleHandOut;have z6:IsZip (g5.push { cls:=.type "tuple",data:=.seq #[x,y] }) z TI TO .ellipsis:=aaB _ z5;refine aaf (aeT z6 (by simp) λg7 z7 b7=>?_);have z7':=z7;refine aeT z7' (by simp) λg8 z8 b8=>?_
   have Oa:=z8;have up:∀c o,c≠z->g5.get? c=some o->g8.get? c=some o:=λc o n q=>b8.extBut _ _ n (b7.extBut _ _ n (aaB _ q))
   have new:=b8.extBut _ _ zl (b7.extBut _ _ zl (abU _ rfl));rw[sz] at Oa new;have r1:=((Yb.extBut b3.extBut TOi1.symm).extBut b4.extBut i12).extBut b5.extBut TOi1.symm;have r2:=k2.extBut b5.extBut TOi2.symm;refine aa1 ?_;rw[sz];refine hQ x y g8 hx hy Oa (up _ _ TOz Jb) (r1.at λo q=>up _ o i1z q) (r2.at λo q=>up _ o i2z q) new λc o m q=>?_
   simp only[abh,ac4,aei,not_or] at m;exact up c o m.1 (b5.extBut _ _ m.2.1 (b4.extBut _ _ m.2.2.2 (b3.extBut _ _ m.2.1 (b2.extBut _ _ m.2.2.1 (b1.extBut _ _ m.1 q)))))
end
end Zt
namespace Zt
section
variable{prog:Program}{w:World}{A:Around}{E:Value->Shared->Prop}{s:Shared}
theorem next{z TI TO i1 i2 l1 l2:Addr}{k:Nat}(D:ZipApart z TI TO i1 i2 l1 l2)
  (hz:IsZip s.heap z TI TO .none) (GB:IsPair s.heap TI (.ref i1) (.ref i2)) (E9:IsPair s.heap TO a b)
  (h1:s.heap.IsTupleIter i1 l1 k) (h2:s.heap.IsTupleIter i2 l2 k) (t1:s.heap.IsTuple l1 xs) (t2:s.heap.IsTuple l2 ys)
  (hQ:∀x y h',xs[k]? = some x->ys[k]? = some y->IsZip h' z TI TO (rawInt s.heap.objs.size)->IsPair h' TO x y->h'.IsTupleIter i1 l1 (k + 1)->h'.IsTupleIter i2 l2 (k + 1)->IsPair h' s.heap.objs.size x y->
   (∀c o,c∉[z,TO,i1,i2]->s.heap.get? c=some o->h'.get? c=some o)->Q (some (.ref s.heap.objs.size)) { s with heap:=h' })
  (hE:(xs[k]? = none\/ys[k]? = none)->A.handled=none/\∀h',(∀c o,c∉[z,TO,i1,i2]->s.heap.get? c=some o->h'.get? c=some o)->Q none { s with heap:=h' }) :
  wpAny (model prog w) A (pyNext (.ref z)) Q E s:=by
 have ty:s.TypeIs (.ref z) "zip":=⟨_,hz,rfl⟩
 unfold pyNext;refine aaf (aeR (adB (name:=Str.ofString "__next__") ty F.slot_zip_next (adI F.slot_zip_next ty F.entry_zip_next (step D hz GB E9 h1 h2 t1 t2 ?_ ?_) (F.args_zip_next_1 _))))
 .exact λx y h' e1 e2 a1 a2 a3 a4 a5 a6=>⟨_,rfl,aa1 (hQ x y h' e1 e2 a1 a2 a3 a4 a5 a6)⟩
 .intro en;obtain⟨hh,fin⟩:=hE en;exact⟨hh,λh' e kp ⟨o,ho,hc⟩=>aaf (aem (T:="StopIteration") ⟨o,ho,hc⟩ isSubtype_stop (aa1 (fin _ kp)))⟩
end
end Zt
noncomputable def YC(K:PySem.W.Frag)(l1 l2:Addr):It:=
  ⟨λi H=>∃xs ys x y,cA K H l1 xs/\cA K H l2 ys/\xs[i]? = some x/\ys[i]? = some y,
   λi H v H'=>∃T a b,H T=none/\v=.ref T/\H'=upd H T (.tup [a,b])/\(∀xs,cA K H l1 xs->xs[i]? = some a)/\∀ys,cA K H l2 ys->ys[i]? = some b,
   λi H=>∃xs ys,cA K H l1 xs/\cA K H l2 ys/\(xs.length<=i\/ys.length<=i),false⟩
def R8(z TI TO i1 i2 l1 l2:Addr)(i:Nat)(h:Heap):Prop:=IsZip h z TI TO .none/\IsPair h TI (.ref i1) (.ref i2)/\(∃a b,IsPair h TO a b)/\h.IsTupleIter i1 l1 i/\h.IsTupleIter i2 l2 i
theorem adu{w:World}{K:PySem.W.Frag}{elts:List Expr}{x1}{z TI TO i1 i2 l1 l2:Addr}(D:ZipApart z TI TO i1 i2 l1 l2):
  Turn P w K (.Tuple elts x1 pos) (YC K l1 l2) [z,TI,TO,i1,i2] z (R8 z TI TO i1 i2 l1 l2) where
 mem:=by simp
 obj:=λi h st b hb=>by
  obtain⟨s1,s2,⟨a,b',s3⟩,⟨o4,e4,c4,d4⟩,⟨o5,e5,c5,d5⟩⟩:=st;simp only[abh,ac4,aei] at hb;rcases hb with rfl|rfl|rfl|rfl|rfl
  .exact⟨_,s1,λv q=>by cases q⟩
  .exact⟨_,s2,λv q=>by cases q⟩
  .exact⟨_,s3,λv q=>by cases q⟩
  .exact⟨o4,e4,λv q=>by rw[d4] at q;cases q⟩
  .exact⟨o5,e5,λv q=>by rw[d5] at q;cases q⟩
 keep:=λi h h' st k=>by
  obtain⟨s1,s2,⟨a,b',s3⟩,s4,s5⟩:=st;exact⟨k _ (by simp) _ s1,k _ (by simp) _ s2,⟨a,b',k _ (by simp) _ s3⟩,s4.at λo e=>k _ (by simp) o e,s5.at λo e=>k _ (by simp) o e⟩
 item:=by
  intro X hP hw hK hc i pins s σ H E I hf st hg;subst hP hw hK;obtain⟨s1,s2,⟨a,b',s3⟩,s4,s5⟩:=st;obtain⟨xs,ys,x,y,q1,q2,e1,e2⟩:=hg;obtain⟨us,v1,p1,z1⟩:=I.tuple q1;obtain⟨ws,v2,p2,z2⟩:=I.tuple q2;obtain⟨u,hu,ru⟩:=v1.get e1;obtain⟨t,ht,rt⟩:=v2.get e2;refine Zt.next D s1 s2 s3 s4 s5 (show s.heap.IsTuple l1 us.toArray from p1) (show s.heap.IsTuple l2 ws.toArray from p2) (λu' t' h' f1 f2 a1 a2 a3 a4 a5 a7=>⟨_,rfl,?_⟩) λz=>?_
  .have Ng:us[i]? = some u':=by simpa using f1
   have Nk:ws[i]? = some t':=by simpa using f2
   rw[hu] at Ng;rw[ht] at Nk;cases Ng;cases Nk;refine wpAny_letOwnedTupleGo_zip a1 λnI b1 b2=>?_
   have lz:=abD s1;have nz:=adY lz;have T2:=b2.extBut _ _ nz a5;have nT:=I.aI.fresh (abW _);have I1:=I.Br (t':=s.toks) (ch:=[z,TO,i1,i2]) (λb m=>hf b (by
     simp only[abh,ac4,aei] at m ⊢;rcases m with rfl|rfl|rfl|rfl<;>simp)) (λb o m e=>b2.extBut _ _ (λq=>m (by rw[q];exact aaF)) (a7 b o m e)) (abW _)
     (show cV X.prog X.w _ nI _ (.tup [x,y]) from⟨show 2<=sizeLine by unfold sizeLine;omega,[u,t],.cons ru (.cons rt .nil),⟨_,T2,rfl,rfl,_,rfl⟩⟩)
   refine⟨.ref s.heap.objs.size,_,I1,rfl,⟨_,x,y,nT,rfl,rfl,λSw h=>by rw[I.F8 h q1];exact e1,λXs h=>by rw[I.F8 h q2];exact e2⟩,?_,λb m=>?_⟩
   .have up:∀c o,c≠z->h'.get? c=some o->nI.get? c=some o:=λc o n e=>b2.extBut _ _ n e
    exact⟨b1,up _ _ D.TIz (a7 TI _ (by simp[D.TIz,D.TITO,D.TIi1,D.TIi2]) s2),⟨u,t,up _ _ D.TOz a2⟩,a3.at λo e=>up _ o D.i1z e,a4.at λo e=>up _ o D.i2z e⟩
   .rw[aY]
    .exact(hf b m).1
    .rintro rfl
     obtain⟨o4,e4,_⟩:=id s4;obtain⟨o5,e5,_⟩:=id s5;simp only[abh,ac4,aei] at m;rcases m with m|m|m|m|m
     .exact nz m
     .exact absurd (abD s2) (by rw[<- m];exact adx _)
     .exact absurd (abD s3) (by rw[<- m];exact adx _)
     .exact absurd (abD e4) (by rw[<- m];exact adx _)
     .exact absurd (abD e5) (by rw[<- m];exact adx _)
  .have z1:us[i]? = none\/ws[i]? = none:=by simpa using z
   rw[hu,ht] at z1;rcases z1 with z1|z1<;>cases z1
 done:=by
  intro X hP hw hK hc i pins s σ H E I hf st hg;subst hP hw hK;obtain⟨s1,s2,⟨a,b',s3⟩,s4,s5⟩:=st;obtain⟨xs,ys,q1,q2,e⟩:=hg;obtain⟨us,v1,p1,z1⟩:=I.tuple q1;obtain⟨ws,v2,p2,z2⟩:=I.tuple q2;have l1:=v1.length;have l2:=v2.length;refine Zt.next D s1 s2 s3 s4 s5 (show s.heap.IsTuple _ us.toArray from p1) (show s.heap.IsTuple _ ws.toArray from p2) (λu' t' h' f1 f2=>?_) λ_=>⟨I.ok.hd (hc.resolve_right λz=>ab3 z),λh' k=>⟨rfl,I.BS (ch:=[z,TO,i1,i2]) (λb m=>hf b (by
    simp only[abh,ac4,aei] at m ⊢;rcases m with rfl|rfl|rfl|rfl<;>simp)) k⟩⟩
  have g1:=(acY.mp (show us[i]? = some u' by simpa using f1)).1;have g2:=(acY.mp (show ws[i]? = some t' by simpa using f2)).1;omega
 self:=λ_ _ _ _ _ st h=>wpAny_pyIter_zip st.1 h
end L2
namespace L2.Ev
open PySem PySem.Spec PyProof.Rows
section
variable{X:Cx}{elts:List Expr}{tp:Pos}{a b:Expr}{fa fb:EF}{p pos:Pos}
noncomputable def nZ(T:String):D->Option D
 |.tup _=>some (.bl ("tuple" == T))
 |.iZ _=>some (.bl ("list" == T))
 |d=>gp T d
def OD(T:String):Prop:=∀(K:PySem.W.Frag) (t:String),t∈["tuple","list"]->PySem.W.kitOne K (.type t) (.type T)=some (t==T)
theorem Ob:OD "tuple":=by
 intro K t m;simp only[abh,ac4,aei] at m;rcases m with rfl|rfl<;>rfl
theorem abQ(T:String):fP X (.builtin "isinstance") (λxs H Q=>(∃x t b,xs=[x,V.ty T]/\iR X.K H x t/\PySem.W.kitOne X.K t (.type T)=some b/\Q (.bl b) H)\/
  (∃a ys b,xs=[.ref a,V.ty T]/\cA X.K H a ys/\PySem.W.kitOne X.K (.type "tuple") (.type T)=some b/\Q (.bl b) H)\/(∃a ys b,xs=[.ref a,V.ty T]/\bQ X.K H a ys/\PySem.W.kitOne X.K (.type "list") (.type T)=some b/\Q (.bl b) H)):=by
 intro pins s σ H xs us Q I r h;rcases h with h|⟨a,ys,bb,rfl,hq,e,q⟩|⟨a,ys,bb,rfl,hq,e,q⟩
 .exact Kh T pins s σ H xs us Q I r h
 .obtain⟨u,w',rfl,ru,iF⟩:=vals2 r;cases iF;cases(show u=Value.ref a from ru);obtain⟨aq,_,⟨o,h1,h2,_⟩,_⟩:=I.tuple hq;exact PySem.W.kia_one PySem.W.kitx_tuple I.d9 ⟨o,h1,h2⟩ e (λz=>nomatch z) λtk=>⟨.bl bb,H,I.tok tk,rfl,q⟩
 .obtain⟨u,w',rfl,ru,iF⟩:=vals2 r;cases iF;cases(show u=Value.ref a from ru);obtain⟨aq,_,⟨o,n,h1,h2,_⟩,_⟩:=I.list hq;exact PySem.W.kia_one PySem.W.kitx_list I.d9 ⟨o,h1,h2⟩ e (λz=>nomatch z) λtk=>⟨.bl bb,H,I.tok tk,rfl,q⟩
theorem Oo{T:String}{x:Str}(hT:qe T)(Mh:OD T)(hm:X.mg "isinstance"=none)(CK:X.mg x=none)(ha:FP X a fa)(FH:bootBuiltins x=some (.type T):=by decide +kernel)(hg:Gl X "isinstance":=by rfl)(DA:Gl X x:=by rfl)(hn:x≠"__name__":=by decide)(e8:(x==("__debug__":Str))=false:=by decide)
  (hs:starEach [a,.Name x p2] X.env=[(false,eval a X.env),(false,eval (.Name x p2) X.env)]:=by rfl) (hpl:(backTo pos (starEach [.Name x p2] X.env)).any (·.1)=false:=by rfl):FP X (.Call (.Name "isinstance" p) [a,.Name x p2] [] pos) (e1 (nZ T) fa):=by
 obtain⟨ta,pa,sa⟩:=ha;have cG:starEach [.Name x p2] X.env=[(false,eval (.Name x p2) X.env)]:=rfl;refine⟨_,q_ (abQ T) hg hm (show bootBuiltins "isinstance"=some (.builtin "isinstance") by decide +kernel) (c_ pa (c_ (J2 (v:=.ty T) DA CK FH rfl hn e8) fM) (by rw[hs,cG])) (he:=by rw[hs,cG]) (hpl:=hpl),λH0 S z held ρ σ H Q d tg ok e k=>?_⟩;obtain⟨d1,t1,h1,h2,rfl⟩:=qy e;refine sa H0 S z held ρ σ H _ d1 t1 ok h1 λH1 v fp s1 r1 _=>?_
 unfold nZ at h2
 split at h2
 .cases h2;obtain⟨w,xs,rfl,hq,_⟩:=r1.lB;exact .inr (.inl ⟨w,xs,_,rfl,hq,Mh X.K "tuple" (by decide),k H1 _ [] s1 (.bl _) .nil⟩)
 .cases h2;obtain⟨w,xs,rfl,hq,_⟩:=r1.sr;exact .inr (.inr ⟨w,xs,_,rfl,hq,Mh X.K "list" (by decide),k H1 _ [] s1 (.bl _) .nil⟩)
 .unfold gp at h2;cases ht:zU d1 with
  |none=>rw[ht] at h2;cases h2
  |some t=>
   rw[ht] at h2;cases h2;obtain⟨ty,mem⟩:=r1.ty ht;exact .inl ⟨v,_,_,rfl,ty,hT X.K t mem,k H1 _ [] s1 (.bl _) .nil⟩
end
section
variable{X:Cx}{a b e:Expr}{fa fb fv:EF}{fx:XF}{pos:Pos}
noncomputable def adj(fa:EF):EF:=λρ=>match fa ρ with
 |some (.bD [],_)=>some (.lst [],.own)
 |_=>none
noncomputable def ade(i:Nat)(cn f:Str)(fv:EF):SF:=λρ=>match fv ρ,ρ[i]? with
 | some (.lst ls,_),some (some (.ins c es,.own))=>if c=cn then(match es.lookup f with
  |some (.lst ds)=>if(aN ls&&aN ds&&decide (ds.length+ls.length<=sizeLine))=true then some (.nx (cL ρ i (.ins c (gW f (.lst (ds++ls)) es)))) else none
  |_=>none) else none
 |_,_=>none
end
section
variable{X:Cx}{pos:Pos}
noncomputable def yM(f:EF):SF:=λρ=>match f ρ,ρ[0]? with
 |some (r,Tag.own),some (some (d0,Tag.own))=>some (.rt (.tup [r,d0]))
 |_,_=>none
theorem abv(he:FP X e f):ur X (.Return (some e) pos) (yM f):=by
 obtain⟨t,p,q⟩:=he;refine⟨_,oW p,λH0 S z held ρ σ H E o ok e k=>?_⟩;unfold yM at e
 split at e
 .rename_i r d0 h1 h0;cases e;obtain⟨r',KO,ee,k⟩:=k;cases ee;refine q H0 S z held ρ σ H _ _ _ ok h1 λH1 v fp s1 r1 g1=>?_
  refine k z ρ σ H1 v fp (ok.same s1) h0 (.refl _ _) r1 g1.1 λb m=>⟨?_,λzb=>?_⟩
  .cases hb:H0 b with
   |none=>exact .inl rfl
   |some o=>
    by_cases hS:b∈S
    .exact .inr hS
    .have:=ok.en b o hb hS;rw[g1.2 b m] at this;cases this
  .obtain⟨⟨o,w⟩,_⟩:=ok.zd b 0 zb;rw[g1.2 b m] at w;cases w
 .cases e
end
end L2.Ev
namespace L2.Ev
open PySem PySem.W
section
variable{P:Program}{w:World}{K:Frag}{h base:Heap}{mg:Str->Option Value}{CX:jC}{k:Nat}{x:Str}{st:Stmt}{ps:List Str}{sp:Sp}{cm:Bool}
theorem RX(X:K.In h)(G:h.Ns mainGlobals mg)(l:dZ K x st)(ok:∀{f:Addr}{fd:FuncData},mg x=some (.ref f)->keepIn K (.ref f)=true->Binds K fd ps []->bI K x x st f fd->a_ P w K mg base CX k f fd ps sp cm)(b:BA x x st ps):FN P w K mg base CX k x ps sp cm:=by
 obtain⟨f,a,l⟩:=l;obtain⟨kp,fd,F⟩:=yp l;exact⟨f,fd,ok (mg_of X G a) kp (F.binds b) F,mg_of X G a,kp,F.binds b⟩
end
end L2.Ev
namespace L2.SetT
open PySem PyProof.Rows
section
variable{prog:Program}{w:World}{A:Around}{R:Result->Shared->Prop}{I:Addr}{fp wr:List Addr}{G:Array GenState->Array GenState->Prop}{n:Nat}{P:Nat->Value->Prop}{St:Nat->Shared->Prop}{led:Bool}
noncomputable def jF(val:Nat->Int)(i:Nat):List Key:=((List.range i).map λj=>(Sum.inl (val j):Key)).foldl gH []
theorem BX{val:Nat->Int}:jF val (i+1)=gH (jF val i) (Sum.inl (val i)):=by
 unfold jF;rw[List.range_succ,adG,List.foldl_append];rfl
theorem BP{val:Nat->Int}:∀{i:Nat},(jF val i).length<=i
 |0=>abW _
 |i+1=>by
  rw[BX];have h1:=Lc (U:=jF val i) (k:=(Sum.inl (val i):Key));have h2:=BP (val:=val) (i:=i);omega
theorem Ei{val:Nat->Int}:∀{i:Nat},k∈jF val i↔∃j,j<i/\k=Sum.inl (val j)
 |0=>by unfold jF;simp
 |i+1=>by
  rw[BX,C8,Ei];constructor
  .rintro(⟨j,h,e⟩|e)
   .exact⟨j,by omega,e⟩
   .exact⟨i,by omega,e⟩
  .rintro⟨j,h,e⟩
   by_cases q:j=i
   .exact .inr (by rw[e,q])
   .exact .inl ⟨j,by omega,e⟩
theorem J7{t:Tok}:(dD prog w).is (Sum.inl i) (.int i t)=true:=by
 first|rfl|(show(i==i)=true;simp)|(unfold dD;simp)
theorem Qw(W:WalksS prog w A.in1 I fp wr G n P St)(S:Addr)(zu:S∉fp)
  (val:Nat->Int) (GD:∀i v,P i v->∃t,v=.int (val i) t) (hb:n+1<scanBound) :
  ∀(k i:Nat) (s:Shared),n-i=k->i<=n->St i s->ja (dD prog w) s.heap S (jF val i) led->
   (∀s',Moved (S::wr) G s s'->ja (dD prog w) s'.heap S (jF val n) led->R (.ok (.ret .none)) s')->
   codeAny (model prog w) A (.builtin "set.update.loop" ⟨[.ref S,.ref I],[]⟩) R s:=by
 have Ie:S∉wr:=λh=>zu (W.sub _ h)
 have nX:∀b∈wr,b∈S::wr:=λb hb=>aaY _ hb
 intro k
 induction k with
 |zero=>
  intro i s hk hi ig hS hR;have uP:i=n:=by omega
  subst uP;refine adK F.entry_set_update_loop ?_;rw[adA F.plain_set_update_loop _];refine aaf (W.done s _ _ ig λs' hm=>?_);exact aa1 (hR s' (hm.mono nX) (hS.keep λo e=>hm.heap S _ Ie e))
 |succ k ih=>
  intro i s hk hi ig hS hR;have cT:i<n:=by omega
  refine adK F.entry_set_update_loop ?_;rw[adA F.plain_set_update_loop _];refine aaf (W.item i s _ _ cT ig λv s' hP Q7 hm=>?_);obtain⟨t,rfl⟩:=GD i v hP;have gG:=hS.keep λo e=>hm.heap S _ Ie e
  refine aaf (aea ?_);unfold setAdd;refine aea ?_;refine aaf ((dD prog w).pyHash J7 ?_);have Rm:(jF val i).length+1<scanBound:=by have:=BP (val:=val) (i:=i);omega
  refine Z3 (knd:=dD prog w) J7 rfl gG Rm λbb h' yy nY=>?_
  rw[<- BX] at nY;refine aa1 ⟨aec F.plain_set_update_loop _,ih (i+1) _ (by omega) cT (W.frame _ s' _ _ Q7 (ae5 _) λb hb o e=>?_) nY λuW acP SG=>?_⟩
  .rw[yy.2 b (λh:b=S=>zu (by rw[<- h];exact hb))];exact e
  .refine hR uW (Moved.trans W.gtrans ((hm.mono nX).then_heap (ae5 _) λb o hb e=>?_) acP) SG;rw[yy.2 b (λh:b=S=>hb (by rw[h];exact aaF))];exact e
end
section
variable{prog:Program}{w:World}{A:Around}{E:Value->Shared->Prop}{s:Shared}
set_option maxHeartbeats 3200000 in
theorem aas
  (hh:A.handled=none) (hl:s.heap.IsList l items) (hi:IntsAre items.toList ns) (hb:items.size+1<scanBound)
  (h:∀(h':Heap) (tk:Nat),ja (dD prog w) h' s.heap.objs.size (jF (λi=>ns.getD i 0) items.size) (!jc w)->
   (∀b o,s.heap.get? b=some o->h'.get? b=some o)->Q (.ref s.heap.objs.size) { s with heap:=h',toks:=tk }) :
  wpAny (model prog w) A (call (.type "set") [.ref l]) Q E s:=by
 obtain⟨c,tl,ace⟩:=ae8.mro;have RL:=ae8.made;have nX:=ae8.sub;have h1:=ae8.notType;have h2:=ae8.canCreate;have Wn:=F.typeCall_set_1 (.ref l);refine wpAny_call (codeAny_of_tree ?_);refine aa1 ⟨Code.quiet_builtin _ (by decide +kernel),adK F.entry_type_call ?_⟩;rw[Around.under_plain (weight_type_call_type "set" [.ref l] []) rfl]
 repeat (any_goals (first|assumption|wp_step))
 refine afl (YR (E:=E) (R:=λobj bu=>obj=.ref s.heap.objs.size/\bu={ s with heap:=s.heap.push (jV w) }) ⟨rfl,rfl⟩) λr bu hr=>?_
 cases r with
 |error e=>exact hr
 |ok fl=>
  cases fl with
  |ret obj=>
   obtain⟨rfl,rfl⟩:=hr;have hS:(s.heap.push (jV w)).get? s.heap.objs.size=some (jV w):=abU _ rfl;have hT:Shared.TypeIs { s with heap:=s.heap.push (jV w) } (.ref s.heap.objs.size) "set":=⟨_,hS,rfl⟩
   have hli:=ae8.init.lookup;have hbi:=ae8.init.bind (.ref s.heap.objs.size)
   repeat (any_goals (first|assumption|wp_step))
   refine afl (codeAny_call_builtin (R:=wants (λr jz=>r=.none/\∃h' tk,jz={ s with heap:=h',toks:=tk }/\
     ja (dD prog w) h' s.heap.objs.size (jF (λi=>ns.getD i 0) items.size) (!jc w)/\(∀b o,s.heap.get? b=some o->h'.get? b=some o)) E)
    ae8.init.plain F.entry_set_init (check_set_init_1 hT ?_)) λaaE jz De=>?_
   .obtain⟨ol,yN,K8,nl,qY⟩:=hl;obtain⟨adh,RI,ac6,aam⟩:=ol;simp only at K8 qY;subst K8;subst qY;have Py:(s.heap.push (jV w)).get? l=some { cls:=.type "list",dict:=RI,data:=.seq items nl,slots:=aam }:=aaB _ yN;have adg:=F.sub_list_set;have acT:=F.sub_list_frozenset;have ie:(Value.type "list" == Value.type "dict")=false:=by decide
    have uw:(s.heap.push (jV w)).IsList l items:=⟨_,Py,rfl,nl,rfl⟩
    unfold Builtin.«set.__init__» noKeywords Builtin.Frozenset.updateFrom;generalize Uv:pyIter=PI
    wp_walk
    subst Uv;refine afe uw ?_;refine aaf (wpAny_runValue ?_);have Ms:=abD yN;have Qt:A.in1.in1.in1.handled=none:=by simp[hh]
    have Q4:l≠(s.heap.push (jV w)).objs.size:=by
     rw[adP];exact acU (adV Ms)
    have zu:s.heap.objs.size∉[(s.heap.push (jV w)).objs.size,l]:=by
     rw[adP];simp only[abh,aa8,ac4,aei,not_or];exact⟨acU (aeb _),adY Ms⟩
    have GD:∀(i:Nat) (v:Value),items[i]? = some v->∃t,v=.int ((λi=>ns.getD i 0) i) t:=λi v hv=>
     IntsAre.int_at hi i v (by rw[ad2];exact hv)
    refine Qw (led:=!jc w) ((Walks.list Qt _ l Q4 items).toS) s.heap.objs.size
     zu (λi=>ns.getD i 0) GD hb (items.size-0) 0 _ (by omega) (aed _)
     ⟨⟨_,abU _ rfl,rfl,rfl⟩,(uw.push _)⟩ ?Zf ?hR
    case Zf=>
     have RM:((s.heap.push (jV w)).push { cls:=.type "list_iterator",data:=.fields #[.ref l,.int 0 0] }).get? s.heap.objs.size=some (jV w):=aaB _ hS;exact oY.aae (more:=0) RM ⟨rfl,rfl,rfl⟩ rfl (Rw _)
    case hR=>
     intro s' hm gG;obtain⟨h',g',d',qw,KR⟩:=s';have eg:=hm.gens;have ed:=hm.drawn;have eo:=hm.os;subst eg;subst ed;subst eo;refine aa1 ?_;refine aa1 ⟨rfl,h',qw,rfl,gG,λb o e=>?_⟩;have hb:=abD e;have Zq:=acU hb;have zJ:b≠(s.heap.push (jV w)).objs.size:=by
      rw[adP];exact acU (adV hb)
     exact hm.heap b o (by simp only[abh,aa8,ac4,aei,not_or];exact⟨Zq,zJ⟩) (aaB _ (aaB _ e))
   .cases aaE with
    |error e=>exact De
    |ok aby=>
     cases aby with
     |ret r=>
      obtain⟨rfl,h',tk,rfl,gG,jX⟩:=De
      repeat (any_goals (first|assumption|wp_step))
      exact h _ _ gG jX
     |_=>exact De.elim
  |_=>exact hr.elim
end
end L2.SetT
namespace L2
open PySem PySem.Spec PyProof.Rows L2.SetT
section
variable{X:Cx}
def V0(K:PySem.W.Frag)(P:Program)(w:World):List V->Hp->VK->Prop:=λxs H Q=>∃(p:Addr) (ks:List Int),xs=[.ref p]/\bQ K H p (ks.map V.int)/\ks.length<120/\
 ∀(l:Addr) (U:List Int),H l=none->U.Nodup->(∀k,k∈U↔k∈ks)->U.length<=ks.length->Q (.ref l) (upd H l (kQ P w l U))
theorem O2(hc:X.calm=true):fP X (.type "set") (V0 X.K X.prog X.w):=by
 intro pins s σ H xs us Q I r h;obtain⟨p,ks,rfl,hp,hn,q⟩:=h;obtain⟨u,rfl,ru⟩:=vals1 r;cases ru;obtain⟨aq,rv,pl,hz⟩:=I.list hp;have hl:aq.length=ks.length:=by have:=rv.length;rw[List.length_map] at this;exact this.symm
 refine aas (items:=aq.toArray) (I.ok.hd hc) pl.isList (by simpa using intsAre_of rv) (by unfold scanBound;simp only[ack];omega) λh' tk k3 k1=>?_
 have hsz:aq.toArray.size=ks.length:=by rw[ack];exact hl
 rw[hsz] at k3;obtain⟨W,eW⟩:=Lr (U:=jF (λi=>ks.getD i 0) ks.length) λk m=>by
  obtain⟨j,_,e⟩:=Ei.mp m;exact⟨_,e⟩
 have len:=BP (val:=λi=>ks.getD i 0) (i:=ks.length);rw[eW] at k3 len;refine⟨.ref s.heap.objs.size,upd H s.heap.objs.size (kQ X.prog X.w s.heap.objs.size W),I.laid k1 (abW _) (kQ.ok k3),rfl,q _ W (I.aI.fresh (abW _)) (MQ k3.1) (λk=>?_) ?_⟩
 .rw[<- IX,<- eW,Ei];constructor
  .rintro⟨j,hj,e⟩
   have e:=Sum.inl.inj e;rw[e,aeq,abL hj];exact aeD hj
  .intro m;obtain⟨j,hj,e⟩:=ae1 m;exact⟨j,hj,by rw[<- e,aeq,abL hj];rfl⟩
 .rw[List.length_map] at len;exact len
theorem Q6:fP X (.type "int") (λxs H Q=>∃b,xs=[V.bl b]/\Q (.int (if b then 1 else 0)) H):=by
 intro pins s σ H xs us Q I r h;obtain⟨b,rfl,q⟩:=h;obtain⟨u,rfl,ru⟩:=vals1 r;cases ru;exact call_int_bool ⟨.int _,H,I.tok _,⟨_,rfl⟩,q⟩
theorem Vq:dM X (binaryOp .BitAnd) (λx y H Q=>∃i j:Int,x=.int i/\y=.int j/\Q (.int (Builtin.bitAnd i j)) H):=by
 intro pins s σ H x y v u Q I rx ry h;obtain⟨i,j,rfl,rfl,q⟩:=h;obtain⟨t,rfl⟩:=rx;obtain⟨t',rfl⟩:=ry;exact and_int ⟨.int _,H,I.tok _,⟨_,rfl⟩,q⟩
theorem OE:∀{n:Nat}{l:List Value}{k:Nat},l.length=n->(∀(m:Nat) (v:Value),l[m]? = some v->∃t,v=.int (i+((k+m:Nat):Int)) t)->aS ((List.range' k n).map λn:Nat=>V.int (i+n)) l
 |0,[],_,_,_=>.nil
 |n+1,v::l,k,h,hv=>by
  rw[List.range'_succ,aaH];refine .cons ?_ (OE (by simpa using h) λm w e=>?_)
  .obtain⟨t,e⟩:=hv 0 v rfl;exact⟨t,by rw[e];simp⟩
  .obtain⟨t,e⟩:=hv (m+1) w (by simpa using e);exact⟨t,by rw[e];congr 2;omega⟩
def Rj(ta:TA):TE:=λσ H Q=>ta σ H λvs H1=>∃i j:Int,vs=[.int i,.int j]/\∀l,H1 l=none->Q (.ref l) (upd H1 l (.cR i j))
theorem WC{ta:TA}(gQ:X.mg "range"=none)(ha:PA X [a,b] ta)(ng:Gl X "range":=by rfl)
  (hs:starEach [a,b] X.env=[(false,eval a X.env),(false,eval b X.env)]:=by rfl) (cG:starEach [b] X.env=[(false,eval b X.env)]:=by rfl):PE X (.Call (.Name "range" p2) [a,b] [] p3) (Rj ta):=by
 intro pins s σ H Q I h;refine Call_ (lK I ng gQ boot_range (adR (aQ (ha p3 pins s σ H _ I h) λus s1 ⟨vs,H1,I1,r1,q1⟩=>?_) (by rw[hs,cG]) (by rw[cG];rfl)));obtain⟨i,j,e,q⟩:=q1;subst e;cases r1 with
 |cons r rr=>
  cases rr with
  |cons r' rr=>
   cases rr;obtain⟨t,rfl⟩:=r;obtain⟨t',rfl⟩:=r';refine call_range_2 ?_;exact⟨.ref s1.heap.objs.size,upd H1 s1.heap.objs.size (.cR i j),I1.laid (λb u e=>aaB _ e) (abW _) ⟨_,_,_,abU _ rfl⟩,rfl,q _ (I1.aI.fresh (abW _))⟩
theorem R9(hc:X.calm=true):fP X (.type "list") (λxs H Q=>∃p i j,xs=[V.ref p]/\H p=some (.cR i j)/\(-(2 ^ 20)<=i/\i<2 ^ 20/\-(2 ^ 20)<=j/\j<2 ^ 20)/\(j-i).toNat<=sizeLine/\∀l,H l=none->Q (.ref l) (upd H l (.lst ((List.range (j-i).toNat).map λn:Nat=>V.int (i+n))))):=by
 intro pins s σ H xs us Q I r h;obtain⟨p,i,j,rfl,hp,hb,hz,q⟩:=h;obtain⟨u,rfl,ru⟩:=vals1 r;cases ru;obtain⟨t,u',v,hr⟩:=(show ∃t u v,s.heap.get? p=some { cls:=.type "range",data:=.fields #[.int i t,.int j u,.int 1 v] } from I.aI p _ hp)
 have e2:Builtin.Range.rangeSize i j 1=((j-i).toNat:Int):=by rw[rangeSize_one];split<;>omega
 refine call_list_range (I.ok.hd hc) hr (small_one (by omega) (by omega) (by omega) (by omega)) e2 (by omega) λh' tk acc c' kp he jL=>?_
 obtain⟨az,av⟩:=jL;have vv:aS ((List.range (j-i).toNat).map λn:Nat=>V.int (i+n)) acc.toList:=by
  rw[List.range_eq_range'];refine OE (by simpa using az) λm w e=>?_
  obtain⟨t,e⟩:=av m w (by simpa using e);exact⟨t,by rw[e];simp⟩
 exact⟨.ref s.heap.objs.size,_,I.laid kp (abW _) (show cV X.prog X.w _ h' _ (.lst _) from⟨by rw[List.length_map,adm];exact hz,acc.toList,c',vv,by simpa using he⟩),rfl,q _ (I.aI.fresh (abW _))⟩
end
end L2
namespace L2.Ev
open PySem PySem.Spec PyProof.Rows L2.SetT
section
variable{X:Cx}{a b e:Expr}{fa fb fv:EF}{p p1 p2 p3 pos:Pos}
noncomputable def sX(g:AF):EF:=λρ=>match g ρ with
 |some [(.int i,_),(.int j,_)]=>if -(2 ^ 20)<=i/\i<2 ^ 20/\-(2 ^ 20)<=j/\j<2 ^ 20 then some (.lst ((List.range (j-i).toNat).map λn:Nat=>D.int (i+n)),.own) else none
 |_=>none
theorem OU{K:PySem.W.Frag}:∀(l:List Nat),aA K H (l.map λn:Nat=>D.int (i+n)) (l.map λn:Nat=>V.int (i+n)) []
 |[]=>.nil
 |n::l=>by rw[aaH,aaH];exact aA.cons (f1:=[]) (f2:=[]) (.int _) (OU l)
theorem P1(hc:X.calm=true)(hm:X.mg "list"=none)(gQ:X.mg "range"=none)(ha:FA X [a,b] g)(hg:Gl X "list":=by rfl)(ng:Gl X "range":=by rfl)
  (hs:starEach [a,b] X.env=[(false,eval a X.env),(false,eval b X.env)]:=by rfl) (cG:starEach [b] X.env=[(false,eval b X.env)]:=by rfl)
  (uX:starEach [.Call (.Name "range" p2) [a,b] [] p3] X.env=[(false,eval (.Call (.Name "range" p2) [a,b] [] p3) X.env)]:=by rfl) :
  FP X (.Call (.Name "list" p) [.Call (.Name "range" p2) [a,b] [] p3] [] pos) (sX g):=by
 obtain⟨ta,pa,_,qa⟩:=ha;refine⟨_,sD (R9 hc) hg hm (by rfl) (c_ (WC gQ pa ng hs cG) fM uX) (he:=uX) (hpl:=rfl),λH0 S z held ρ σ H Q d tg ok e k=>?_⟩;unfold sX at e
 split at e
 .rename_i i t1 j t2 h1
  by_cases hb:-(2 ^ 20)<=i/\i<2 ^ 20/\-(2 ^ 20)<=j/\j<2 ^ 20
  .rw[if_pos hb] at e;cases e;refine qa H0 S z held ρ σ H _ _ ok h1 λH1 vs fp s1 r1 _=>?_
   cases r1 with
   |cons r r1=>
    cases r1 with
    |cons r' r1=>
     cases r1;cases r;cases r';refine⟨i,j,rfl,λr hr=>⟨r,i,j,rfl,cB,hb,?_,λl hl=>?_⟩⟩
     .unfold sizeLine;omega
     .have s2:=aL.new (o:=.cR i j) hr;have s3:=aL.new (o:=.lst ((List.range (j-i).toNat).map λn:Nat=>V.int (i+n))) hl;refine k _ _ [l] ((s1.trans s2).trans s3) (.lst cB (OU _)) ⟨acV.mpr ⟨(λm=>by cases m),ac1⟩,λc m=>?_⟩;cases aa8.mp m;exact(s1.trans s2).free hl
  .rw[if_neg hb] at e;cases e
 .cases e
noncomputable def qT:D->Option D
 |.lst ds=>match dO ds with
  |some ns=>if ns.length<64 then some (.lst ((ef (mz ns [])).map D.int)) else none
  |none=>none
 |_=>none
theorem Su(hc:X.calm=true)(hm:X.mg "sorted"=none)(gQ:X.mg "set"=none)(ha:FP X a fa)(hg:Gl X "sorted":=by rfl)(ng:Gl X "set":=by rfl)(vL:starEach [a] X.env=[(false,eval a X.env)]:=by rfl)
  (hs:starEach [.Call (.Name "set" p1) [a] [] p2] X.env=[(false,eval (.Call (.Name "set" p1) [a] [] p2) X.env)]:=by rfl):FP X (.Call (.Name "sorted" p) [.Call (.Name "set" p1) [a] [] p2] [] pos) (e1 qT fa):=by
 obtain⟨ta,pa,sa⟩:=ha;refine⟨_,q_ (Wa hc) hg hm NK (c_ (sD (O2 hc) ng gQ Tn (c_ pa fM vL) (he:=vL) (hpl:=rfl)) fM hs) (he:=hs) (hpl:=rfl),λH0 S z held ρ σ H Q d tg ok e k=>?_⟩;obtain⟨d1,t1,h1,h2,rfl⟩:=qy e;cases d1 with
 |lst ds=>
  unfold qT at h2;dsimp only at h2;cases hn:dO ds with
  |none=>rw[hn] at h2;cases h2
  |some ns=>
   rw[hn] at h2;dsimp only at h2
   by_cases hl:ns.length<64
   .rw[if_pos hl] at h2;cases h2;refine sa H0 S z held ρ σ H _ _ t1 ok h1 λH1 x f1 s1 r1 _=>?_
    obtain⟨q,xs,f,rfl,hq,rs,_⟩:=r1.e7;have hx:=qu rs hn;subst hx;refine⟨q,ns,rfl,hq,by omega,λl U Ul Wj mU lU=>?_⟩;have pw:U.Perm (mz ns []):=(List.perm_ext_iff_of_nodup Wj NX).mpr λk=>by rw[mU,J6];simp
    refine⟨l,U,rfl,cB,by omega,λl4 jx Jf pm RY=>?_⟩;have eq:=N5 (pm.trans pw) RY;subst eq;have s4:=aL.new (o:=kQ X.prog X.w l U) Ul;have s5:=aL.new (o:=.lst ((ef (mz ns [])).map V.int)) Jf;refine k _ _ [l4] ((s1.trans s4).trans s5) (.lst cB (qJ _)) ⟨acV.mpr ⟨(λm=>by cases m),ac1⟩,λc m=>?_⟩;cases aa8.mp m;exact(s1.trans s4).free Jf
   .rw[if_neg hl] at h2;cases h2
 |_=>cases h2
noncomputable def sN:D->Option D
 |.bl b=>some (.int (if b then 1 else 0))
 |_=>none
theorem Zl{K:PySem.W.Frag}:oA K (λxs H Q=>∃b,xs=[V.bl b]/\Q (.int (if b then 1 else 0)) H) sN:=by
 intro H x d1 f1 d Q r e k;cases d1<;>try (cases e;done)
 cases e;cases r;exact⟨_,rfl,k H _ [] (aL.refl H) (.int _) ac1 λa m=>nomatch m⟩
theorem acM(hm:X.mg "int"=none)(ha:FP X a fa)(hg:Gl X "int":=by rfl)(hs:starEach [a] X.env=[(false,eval a X.env)]:=by rfl):FP X (.Call (.Name "int" p) [a] [] pos) (e1 sN fa):=
 fp_1 Zl ha λta pa=>sD Q6 hg hm (show bootBuiltins "int"=some (.type "int") by decide +kernel) (c_ pa fM hs) (he:=hs) (hpl:=rfl)
noncomputable def vM:D->D->Option D:=vB λi j=>Builtin.bitAnd i j
theorem Er(ha:FP X a fa)(hb:FP X b fb):FP X (.BinOp a .BitAnd b pos) (e2 vM fa fb):=qN Vq yr ha hb
end
end L2.Ev
namespace L2.Ev
open PySem PySem.Spec PyProof.Rows
section
variable{X:Cx}{pos:Pos}
noncomputable def sI(fx:XF)(g:GF)(f:SF):SF:=λρ=>match fx ρ with
 | some (.int n,aG)=>if small n=true then(match cX g (.sh []) f ((List.range n.toNat).map λi:Nat=>D.int (0 + (i:Int))) aG with
  |some (.nx au)=>some (.nx au)
  |some (.rt d)=>some (.rt d)
  |some (.er raw cn au)=>some (.er raw cn au)
  |_=>none) else none
 |_=>none
theorem abF{K:PySem.W.Frag}:nQ K (qz 0 n) ((List.range n).map λi:Nat=>D.int (0+(i:Int))) []:=by
 intro H i hh;refine⟨λd hd=>?_,λhl=>?_⟩
 .obtain⟨rfl,hi⟩:d=.int (0+(i:Int))/\i<n:=by
   rw[acX] at hd;cases e:(List.range n)[i]? with
   |none=>rw[e] at hd;cases hd
   |some j=>
    rw[e] at hd;obtain⟨h1,h2⟩:=acY.mp e;rw[List.getElem_range] at h2;rw[adm] at h1;subst h2;cases hd;exact⟨rfl,h1⟩
  refine⟨hi,λx H' y=>?_⟩;obtain⟨rfl,rfl⟩:=y;exact⟨aL.refl _,[],.int _,λa m=>nomatch m⟩
 .rw[List.length_map,adm] at hl;exact hl
theorem Xi{tg a:Expr}{body:List Stmt}{fx:XF}{g:GF}{f:SF}{is:List Nat}{p p2:Pos}(hc:X.calm=true)(hm:X.mg "range"=none)(ha:FX X a fx)(hg:FG X tg g is)(hb:FS X body f)(hgl:Gl X "range":=by rfl)(vL:starEach [a] X.env=[(false,eval a X.env)]:=by rfl)
  (hp:PassesOwn (model X.prog X.w) X.A X.env X.xe:=by exact PassesOwn.never) (hs:∀x,foldedSetIterable (.Call (.Name "range" p) [a] [] p2) X.env x=pure x:=by intro _;rfl):fJ X (.For tg (.Call (.Name "range" p) [a] [] p2) body [] pos) (sI fx g f):=by
 obtain⟨ta,pa,qa⟩:=ha;obtain⟨n1,Zc,pg,sg⟩:=hg;obtain⟨tb,pb,sb⟩:=hb;refine⟨_,M6 hp hc (IJ hgl hm (c_ pa fM vL) vL) pg pb hs,λH0 S z held LY σ H E o uD e k=>?_⟩;unfold sI at e;cases h:fx LY with
 |none=>rw[h] at e;cases e
 |some w=>
  obtain⟨d0,ρ⟩:=w;rw[h] at e;cases d0<;>try (cases e;done)
  rename_i n;dsimp only at e
  by_cases vA:small n=true
  .rw[if_pos vA] at e;refine qa H0 S z held LY σ H _ _ ρ uD h λH1 v cC _ rv=>?_
   cases rv;obtain⟨UC,VM⟩:=qD vA;refine⟨n,rfl,UC,VM,?_⟩;have rO:nQ X.K (qz 0 n.toNat) ((List.range n.toNat).map λi:Nat=>D.int (0+(i:Int))) []:=abF;generalize hds:((List.range n.toNat).map λi:Nat=>D.int (0+(i:Int)))=ds at e rO;cases ho:cX g (.sh []) f ds ρ with
   |none=>rw[ho] at e;cases e
   |some out=>
    rw[ho] at e;have fG:=cC.begin (t:=.own) (hv:=[]) (λh m=>nomatch m);have fin:∀{z':Addr->Option Nat}{au:aK}{aD:St}{H':Hp},Ok X.K H0 S z' (nK z []++n8 z held) au aD H'->out=.nx au->Kp X σ aD->E.nx aD H':=λ{z' au aD H'} bq eo kp=>by
     subst eo;cases e;exact k z' aD H' (cC.fin (t:=.own) bq) kp
    refine⟨λi m aD H'=>m=ds.length-i/\∃z' au,Ok X.K H0 S z' (nK z []++n8 z held) au aD H'/\cX g (.sh []) f (ds.drop i) au=some out/\Kp X σ aD,⟨ds.length,rfl,z,_,fG,ho,.refl _ _⟩,?_⟩
    rintro i m aD H' ⟨rfl,z',au,bq,e',kp⟩
    obtain⟨go,stop⟩:=rO H' i (λh m=>nomatch m)
    by_cases hl:ds.length<=i
    .refine .inl ⟨stop hl,?_⟩;rw[ae3 hl] at e';cases e';exact fin bq rfl kp
    .have cT:=Nat.lt_of_not_le hl;rw[adU cT] at e';obtain⟨g1,g2⟩:=go ds[i] (abL cT);refine .inr ⟨g1,λiB H2=>∃z' au,Ok X.K H0 S z' (nK z []++n8 z held) au iB H2/\cX g (.sh []) f (ds.drop (i+1)) au=some out/\Kp X σ iB,λiB H2 hn=>⟨ds.length-(i+1),by omega,rfl,hn⟩,λx H2 y=>?_⟩;obtain⟨s2,fp,r2,sub⟩:=g2 x H2 y;unfold cX at e';cases kE:g ds[i] (.sh []) au with
     |none=>rw[kE] at e';cases e'
     |some aG=>
      rw[kE] at e';dsimp only at e';refine sg H0 S z' _ au aD H' H2 x ds[i] (.sh []) fp _ aG bq s2 r2 (λa ha j q=>?_) kE λz2 iB lD a3=>?_
      .obtain⟨h,hm,_⟩:=sub a ha;cases hm
      .cases hf:f aG with
       |none=>rw[hf] at e';cases e'
       |some o1=>
        rw[hf] at e';refine sb H0 S z2 _ aG iB H2 _ o1 lD hf ?_;cases o1 with
        |nx bS=>exact λz3 d8 H3 iY b=>⟨z3,bS,iY,e',(kp.trans (.off n1 a3.2)).trans b⟩
        |ct bS=>exact λz3 d8 H3 iY b=>⟨z3,bS,iY,e',(kp.trans (.off n1 a3.2)).trans b⟩
        |bk bS=>
         cases e';exact λz3 d8 H3 iY b=>fin iY rfl ((kp.trans (.off n1 a3.2)).trans b)
        |rt d=>
         cases e';cases e;exact k
        |er raw cn bS=>
         cases e';cases e;obtain⟨ES,th,q⟩:=k;exact⟨ES,th,λz3 d8 H3 C iY b hC=>q z3 d8 H3 C (cC.fin (t:=.own) iY) ((kp.trans (.off n1 a3.2)).trans b) hC⟩
  .rw[if_neg vA] at e;cases e
noncomputable def sS(F:List D->Option D)(fx:XF)(g:AF):XR:=λρ=>match fx ρ with
 | some (d,aG)=>(match g aG with
  |some ps=>(F (d::ps.map (·.1))).map λr=>.ok r aG
  |none=>none)
 |none=>none
theorem aa0{e1:Expr}{F:List D->Option D}(GG:a_ X.prog X.w X.K X.mg X.base aJ k f fd ps (aO X.K F))(hr:cN k X.A)(hm:X.mg x=some (.ref f))(hk:PySem.W.keepIn X.K (.ref f)=true)(hb:Binds X.K fd ps [])
  (h1:FX X.gq e1 fx) (ha:FA X.gq es g) (hg:Gl X x:=by rfl) (e8:(x==("__debug__":Str))=false:=by decide) (he:starEach (e1::es) X.env=(false,eval e1 X.env)::starEach es X.env:=by rfl) (hpl:(backTo pos (starEach es X.env)).any (·.1)=false:=by rfl) :
  FE X (.Call (.Name x p) (e1::es) [] pos) (sS F fx g):=by
 obtain⟨t1,p1,q1⟩:=h1;obtain⟨t,pa,_,sa⟩:=ha;refine⟨_,HV (xW (X:=X.gq) GG hr hg hm hk hb .nil pA (c_ p1 pa he) e8 he hpl),λH0 S z held ρ σ H Q E r ok e0 kk=>?_⟩;unfold sS at e0;cases h:fx ρ with
 |none=>rw[h] at e0;cases e0
 |some w=>
  obtain⟨d,aG⟩:=w;rw[h] at e0;dsimp only at e0;cases h2:g aG with
  |none=>rw[h2] at e0;cases e0
  |some qs=>
   rw[h2] at e0;dsimp only at e0;cases h3:F (d::qs.map (·.1)) with
   |none=>rw[h3] at e0;cases e0
   |some rr=>
    rw[h3] at e0;cases e0;refine q1 H0 S z held ρ σ H _ d aG ok h λH1 v cC _ rv=>?_
    refine sa H0 S z held aG σ H1 _ qs cC h2 λH2 vs mL s2 r2 g2=>?_
    show aO X.K F ((v::vs)++[]) H2 Q E0;rw[ady];exact⟨_,_,_,.cons (rv.same s2) r2,h3,λH3 u eF s3 r3 nd fr=>kk z H2 H3 u eF (cC.same s2) s3 r3 ⟨nd,fr⟩⟩
noncomputable def tH(i:Nat)(f:XR):SF:=λρ=>match f ρ with
 | some (.ok d au)=>(match ρ[i]?,au[i]? with
  |some (some (.lst _,.own)),some (some (.lst ds,.own))=>if decide (ds.length<sizeLine)=true then some (.nx (cL au i (.lst (ds++[d])))) else none
  |_,_=>none)
 |_=>none
theorem SW{a:Expr}{f:XR}{x:Str}{p1 p2 p3:Pos}(i:Nat)(hv:FE X a f)(hN:X.N[i]? = some x:=by rfl)(fY:gP X.env.scope x:=by first|exact Or.inl rfl|exact Or.inr (Or.inl rfl)|exact Or.inr (Or.inr rfl))
  (hd:(x==("__debug__":Str))=false:=by decide) (cQ:(x==("__classdict__":Str))=false:=by decide) (hs:starEach [a] X.env=[(false,eval a X.env)]:=by rfl)
  (iu:attributeBase (.Name x p1) "append" X.env (eval (.Name x p1) X.env)=eval (.Name x p1) X.env:=by rfl)
  (jK:((backTo p3 (starEach [a] X.env)).all (λx=>!x.1)&&(backToKw p3 (keywordEach [] X.env)).all (λx=>x.1.isSome)&&decide ([a].length+([]:List Keyword).length+(if([]:List Keyword).isEmpty then 0 else 1)<30))=true:=by rfl)
  (iD:(p2.endLine==p3.line)=true:=by rfl) (iE:swapsWith (.Call (.Attribute (.Name x p1) "append" p2) [a] [] p3) none pos.line X.env=pure false:=by rfl) :
  fJ X (.Expr (.Call (.Attribute (.Name x p1) "append" p2) [a] [] p3) pos) (tH i f):=by
 obtain⟨tv,pv,sv⟩:=hv;have P:=abt (X:=X) (name:="append") (apos:=p2) (cpos:=p3) PySem.F.plainAttrs_list PySem.F.slot_list_append PySem.F.type_list_append vE (gX (X:=X.gq) (pos:=p1) (i:=i) hN fY hd cQ) pv iu jK iD hs;refine⟨_,OF,λH0 S z held ρ σ H E o ok e q=>?_⟩;intro pins s I;unfold tH at e
 split at e
 .rename_i d au h
  split at e
  .rename_i NU ds g0 g2
   by_cases hc:decide (ds.length<sizeLine)=true
   .rw[if_pos hc] at e;cases e;refine acw J3 P iE pins s σ H E I ?_;obtain⟨xv,fp,bN,r,zz⟩:=ok.sl i _ _ g0;refine⟨xv,bN,?_⟩;obtain⟨l,xs,f',rfl,hq,_,_⟩:=r.e7;refine⟨.inl ⟨rfl,_,hq⟩,?_⟩;refine sv H0 S z held ρ σ H _ _ _ ok h λz1 H1 H2 v fd uD s1 rv gv=>?_
    have gv:fd.Nodup/\∀a∈fd,H1 a=none:=gv;obtain⟨xv2,mL,cG,r2,Di⟩:=uD.sl i _ _ g2;rw[bN] at cG;cases cG;have LL:=r2.same s1;generalize hw:(V.ref l)=w at LL r2 bN;cases LL with
    | @lst a' ys _ f' h rs=>
     cases hw;have iT:∀c∈fd,c∉(l::f'):=λc m n=>by
      obtain⟨⟨o,w⟩,_⟩:=uD.zd c i (Di.2 c n);rw[gv.2 c m] at w;cases w
     refine⟨_,ys,v,rfl,rfl,h,by rw[<- rs.length];exact ac5 hc,?_⟩;obtain⟨n1,n2⟩:=acV.mp Di.1;have im:bW H2 (upd H2 l (.lst (ys++[v]))):=bW.upd h rfl;have mJ:=rs.frame (H':=upd H2 l (.lst (ys++[v]))) (λc m=>aY λq=>n1 (by rw[<- q];exact m)) im;have vQ:=rv.frame (H':=upd H2 l (.lst (ys++[v]))) (λc m=>aY λq=>iT c m (by rw[q];exact aaF)) im;have mW:(l::(f'++(fd++[]))).Nodup:=by
      rw[ady];refine acV.mpr ⟨λm=>?_,adv.mpr ⟨n2,gv.1,λc mc e me ee=>iT e me (by rw[<- ee];exact aaY _ mc)⟩⟩;rcases acW.mp m with m|m
      .exact n1 m
      .exact iT l m aaF
     have DZ:∀c∈l::(f'++(fd++[])),c∈l::f'\/H1 c=none:=by
      intro c m;rw[ady] at m;rcases abh.mp m with q|m
      .exact .inl (by rw[q];exact aaF)
      .rcases acW.mp m with m|m
       .exact .inl (aaY _ m)
       .exact .inr (gv.2 c m)
     obtain⟨z',bq⟩:=uD.put (cM:=l::(f'++(fd++[]))) (d1:=.lst (ds++[d])) g2 bN Di ((bW.of s1).trans im) (λc o n e=>by rw[aY λq=>n (by rw[q];exact aaF)];exact s1 c o e)
      (.lst cB (aA.append mJ (.cons vQ .nil))) mW DZ
     exact q z' σ _ bq (.refl _ _)
   .rw[if_neg hc] at e;cases e
  .cases e
 .cases e
noncomputable def qP(i:Nat):SF:=λρ=>match ρ[i]?,ρ[0]? with
 |some (some (d,Tag.own)),some (some (d0,Tag.own))=>if i≠0 then some (.rt (.tup [d,d0])) else none
 |_,_=>none
theorem Lz(i:Nat){x:Str}{p1:Pos}(hi:X.N[i]? = some x:=by rfl)(vx:gP X.env.scope x:=by first|exact Or.inl rfl|exact Or.inr (Or.inl rfl)|exact Or.inr (Or.inr rfl))(dx:(x==("__debug__":Str))=false:=by decide)(cx:(x==("__classdict__":Str))=false:=by decide):
  ur X (.Return (some (.Name x p1)) pos) (qP i):=by
 refine⟨_,oW (gX hi vx dx cx),λH0 S z held ρ σ H E o ok e k=>?_⟩;unfold qP at e
 split at e
 .rename_i d d0 h1 h0
  by_cases hc:i≠0
  .rw[if_pos hc] at e;cases e;obtain⟨r,KO,ee,k⟩:=k;cases ee;obtain⟨v1,f1,s1,r1,zz⟩:=ok.sl i d _ h1;refine⟨v1,s1,?_⟩;refine k z ρ σ _ _ f1 ok h0 (.refl _ _) r1 zz.1 λb m=>⟨(ok.zd b i (zz.2 b m)).2,λq=>?_⟩
   rw[zz.2 b m] at q;exact hc (aco q)
  .rw[if_neg hc] at e;cases e
 .cases e
noncomputable def zq(fa fb:EF)(i j:Nat):SF:=λρ=>match fa ρ,fb ρ,ρ[i]?,ρ[j]? with
 |some (da,_),some (db,Tag.own),some (some (di,Tag.own)),some (some (dj,Tag.own))=>if aH da=true/\i≠j then some (.rt (.tup [da,db,di,dj])) else none
 |_,_,_,_=>none
theorem RD{x y:Str}{x1}(i j:Nat)(ha:FP X a fa)(hb:FP X b fb)(hi:X.N[i]? = some x:=by rfl)(hj:X.N[j]? = some y:=by rfl)(vx:gP X.env.scope x:=by first|exact Or.inl rfl|exact Or.inr (Or.inl rfl)|exact Or.inr (Or.inr rfl))(vy:gP X.env.scope y:=by first|exact Or.inl rfl|exact Or.inr (Or.inl rfl)|exact Or.inr (Or.inr rfl))
  (dx:(x==("__debug__":Str))=false:=by decide) (dy:(y==("__debug__":Str))=false:=by decide) (cx:(x==("__classdict__":Str))=false:=by decide) (cy:(y==("__classdict__":Str))=false:=by decide)
  (h1:starEach [a,b,.Name x p1,.Name y p2] X.env=(false,eval a X.env)::starEach [b,.Name x p1,.Name y p2] X.env:=by rfl) (h2:starEach [b,.Name x p1,.Name y p2] X.env=(false,eval b X.env)::starEach [.Name x p1,.Name y p2] X.env:=by rfl) :
  fJ X (.Return (some (.Tuple [a,b,.Name x p1,.Name y p2] x1 pt)) pos) (zq fa fb i j):=by
 obtain⟨ta,pa,qa⟩:=ha;obtain⟨tb,pb,qb⟩:=hb;refine⟨_,oW (N9 (c_ pa (c_ pb (c_ (gX hi vx dx cx) (c_ (gX hj vy dy cy) fM)) h2) h1)),λH0 S z held ρ σ H E o ok e k=>?_⟩;unfold zq at e
 split at e
 .rename_i da tga db di dj g1 g2 g3 g4
  by_cases hc:aH da=true/\i≠j
  .rw[if_pos hc] at e;cases e;refine qa H0 S z held ρ σ H _ _ _ ok g1 λH1 va fpa s1 ra _=>?_
   have hn:=ra.aH hc.1;subst hn;have cC:=ok.same s1;refine qb H0 S z held ρ σ H1 _ _ _ cC g2 λH2 vb zL s2 rb gb=>?_
   have gb:zL.Nodup/\∀a∈zL,H1 a=none:=gb;have fG:=cC.same s2;obtain⟨vi,fi,si,ri,zi⟩:=fG.sl i _ _ g3;obtain⟨vj,fj,sj,rj,zj⟩:=fG.sl j _ _ g4;refine⟨vi,si,vj,sj,?_,λc pW=>?_⟩
   .show 4<=sizeLine;decide
   have sm:aL H2 (upd H2 c (.tup [va,vb,vi,vj])):=λb o e=>by rw[aY (dz e pW)];exact e
   have nb:∀a∈zL,z a=none:=λa m=>by
    cases hz:z a with
    |none=>rfl
    |some q=>
     obtain⟨⟨o,w⟩,_⟩:=cC.zd a q hz;rw[gb.2 a m] at w;cases w
   refine k _ _ ([]++(zL++(fi++(fj++[])))) (λa o e n=>sm _ _ (fG.en a o e n)) (.tup (cA.of cB) (.cons ((ra.same s2).same sm) (.cons (rb.same sm) (.cons (ri.same sm) (.cons (rj.same sm) .nil))))) ?_ λa m=>?_
   .simp only[List.nil_append,ady];refine adv.mpr ⟨gb.1,adv.mpr ⟨zi.1,zj.1,λa ma b mb e=>?_⟩,λa ma b mb e=>?_⟩
    .subst e;have:=zi.2 a ma;rw[zj.2 a mb] at this;exact hc.2 (aco this).symm
    .subst e;rcases acW.mp mb with m|m
     .have:=zi.2 a m;rw[nb a ma] at this;cases this
     .have:=zj.2 a m;rw[nb a ma] at this;cases this
   .simp only[List.nil_append,ady] at m;rcases acW.mp m with m|m
    .cases h0:H0 a with
     |none=>exact .inl rfl
     |some o=>
      by_cases hs:a∈S
      .exact .inr hs
      .have w:=cC.en a o h0 hs;rw[gb.2 a m] at w;cases w
    .rcases acW.mp m with m|m
     .exact(fG.zd a i (zi.2 a m)).2
     .exact(fG.zd a j (zj.2 a m)).2
  .rw[if_neg hc] at e;cases e
 .cases e
end
end L2.Ev
namespace L2.Ev
open PySem
section
variable{ρ au:aK}{f:EF}{sf sg:SF}{d d1 d2:D}{t t1 t2:Tag}{i:Nat}{r:Option Out}
theorem sq(h:sf ρ=some (.nx au))(h2:sg au=r):aB sf sg ρ=r:=by rw[aW,h,bf,h2]
theorem o9(h:f ρ=some (d,t))(h2:sg (lV ρ i d t)=r):aB (aM i f) sg ρ=r:=sq (by unfold aM;rw[h]) h2
theorem aaK(h:tf ρ=some b)(h2:aB (if b=true then sf else bx) sg ρ=r):aB (bG tf sf bx) sg ρ=r:=by
 have e:bG tf sf bx ρ=(if b=true then sf else bx) ρ:=by rw[eN,h];cases b<;>rfl
 rw[aW,e,<- aW,h2]
theorem z_{op:D->Option D}(h:f ρ=some (d,t))(h2:op d=some d1):e1 op f ρ=some (d1,.own):=by rw[eE,h,eT,h2];rfl
theorem Ct{op:D->D->Option D}(h:f ρ=some (d1,t1))(h2:g ρ=some (d2,t2))(h3:op d1 d2=some d):e2 op f g ρ=some (d,.own):=by rw[bL,h,h2,cg,h3];rfl
theorem MS{F:List D->Option D}{ps:List (D×Tag)}(h:g ρ=some ps)(h2:F (ps.map (·.1))=some d):aC F g ρ=some (d,.own):=by rw[s_call,h,eS,h2];rfl
theorem Wh(h:f ρ=some (.bl b,t)):tV f ρ=some b:=by rw[eY,h];rfl
end
end L2.Ev
namespace K31
open PySem L2 L2.Ev
noncomputable def top(i:Nat):Stmt:=PySem.Challenge.pw_linegate_k31_free_and_layable.main.body.getD i (.Pass ⟨0,0,0,0⟩)
variable{P:Program}{w:World}{K:PySem.W.Frag}{mg:Str->Option Value}{base:Heap}{f:Addr}{fd:FuncData}
noncomputable abbrev D9:Stmt:=top 7
theorem NJ:cz ["value","least","most"] ["value","least","most"] (aV D9):=⟨rfl,rfl,rfl,by decide +kernel,rfl,by decide +kernel,by decide +kernel⟩
noncomputable def Ec:SF:=(bT (lS (e1 (gp "int") (af 0)) (lS (e1 v7 (e1 (gp "bool") (af 0))) (pI oLe oLe (af 1) (af 0) (af 2)))))
noncomputable def gx:List D->Option D:=b6 3 3 Ec
theorem S_(g_bool:mg "bool"=none)(nA:mg "int"=none)(jl:mg "isinstance"=none)(F:bI K "within" "within" D9 f fd):a_ P w K mg base aJ 1 f fd ["value","least","most"] (aO K gx):=by
 have sc:=NJ;refine d7 F NJ λaT A outer s H E hr=>?_
 have hu:=c9 hr;exact(bg (cH (sE (oJ K9 jl nA (ai 0)) (sE (NV (oJ OG jl g_bool (ai 0))) (AM (ZR (ai 1) (ai 0) (ai 2)))))))
noncomputable abbrev yU:Stmt:=top 8
theorem JT:cz ["numbers"] ["numbers"] (aV yU):=⟨rfl,rfl,rfl,by decide +kernel,rfl,by decide +kernel,by decide +kernel⟩
noncomputable def B6:SF:=(bT (e1 jB (ck [none,none] (wQ (af 0) (e1 (rB (some 1) none) (af 0))) (gT (b_ (gN 0) (b_ (gN 1) i7))) dG (e2 oLt (af 0) (af 1)))))
noncomputable def pH:List D->Option D:=b6 1 1 B6
theorem Yh(iI:mg "all"=none)(DY:mg "zip"=none)(F:bI K "rising" "rising" yU f fd):a_ P w K mg base aJ 1 f fd ["numbers"] (aO K pH):=by
 have sc:=JT;refine d7 F JT λaT A outer s H E hr=>?_
 have hu:=c9 hr;exact(bg (cH (sM rfl iI (iV (M:=["low","high"]) (js:=[none,none]) (is:=[0,1]) (gJ (N:=["numbers"]) (eU:=aV yU) rfl rfl rfl (by decide +kernel)) rfl (Zd DY (ai 0) (K7 Ld M9 (ai 0))) (by decide) λs3 H3 fp=>⟨(p7 rfl (gu (bY 0 (show(["low","high"]:List Str).Nodup by decide +kernel)) (gu (bY 1 (show(["low","high"]:List Str).Nodup by decide +kernel)) pN))),kJ,(acK (ai 0) (ai 1))⟩))))
noncomputable abbrev y9:Stmt:=top 14
theorem OB:cz ["values","edits"] ["values","edits"] (aV y9):=⟨rfl,rfl,rfl,by decide +kernel,rfl,by decide +kernel,by decide +kernel⟩
noncomputable def Eo:SF:=(bT (e2 yd (ck [none,none,none,some 0] (bh (af 1)) (gT (b_ (gN 0) (b_ (gN 1) (b_ (gN 2) i7)))) (tV (e2 gD (e3 i_ (af 3) (af 0) (eC (.int 0))) (af 1))) (af 0)) (eC .aE)))
noncomputable def mQ:List D->Option D:=b6 2 2 Eo
theorem TL(Cv:mg "min"=none)(F:bI K "misfit" "misfit" y9 f fd):a_ P w K mg base aJ 1 f fd ["values","edits"] (aO K mQ):=by
 have sc:=OB;refine d7 F OB λaT A outer s H E hr=>?_
 have hu:=c9 hr;exact(bg (cH (S5 rfl Cv (iV (M:=["slot","old","new","values"]) (js:=[none,none,none,some 0]) (is:=[0,1,2]) (gJ (N:=["values","edits"]) (eU:=aV y9) rfl rfl rfl (by decide +kernel)) rfl (fC (ai 1)) (by decide) λs3 H3 fp=>⟨(p7 rfl (gu (bY 0 (show(["slot","old","new","values"]:List Str).Nodup by decide +kernel)) (gu (bY 1 (show(["slot","old","new","values"]:List Str).Nodup by decide +kernel)) (gu (bY 2 (show(["slot","old","new","values"]:List Str).Nodup by decide +kernel)) pN)))),(nq (wO (Bf hu (ai 3) (ai 0) aF) (ai 1))),(ai 0)⟩) oX)))
noncomputable abbrev zm:Stmt:=top 15
theorem Mm:cz ["values"] ["values"] (aV zm):=⟨rfl,rfl,rfl,by decide +kernel,rfl,by decide +kernel,by decide +kernel⟩
noncomputable def D7:SF:=(bT (ck [none,some 0] (bh (e1 nR (af 0))) (gN 0) (tV (e2 gD (e2 mq (af 1) (af 0)) (eC (.int 0)))) (je (ah (af 0) (ah (e2 mq (af 1) (af 0)) aj)))))
noncomputable def t_:List D->Option D:=b6 1 1 D7
theorem V1(nk:mg "sorted"=none)(F:bI K "sheet_of_values" "sheet_of_values" zm f fd):a_ P w K mg base aJ 1 f fd ["values"] (aO K t_):=by
 have sc:=Mm;refine d7 F Mm λaT A outer s H E hr=>?_
 have hu:=c9 hr;exact(bg (cH (iV (M:=["slot","values"]) (js:=[none,some 0]) (is:=[0]) (gJ (N:=["values"]) (eU:=aV zm) rfl rfl rfl (by decide +kernel)) rfl (fC (J4 rfl nk (ai 0))) (by decide) λs3 H3 fp=>⟨(bY 0 (show(["slot","values"]:List Str).Nodup by decide +kernel)),(nq (wO (IA hu (ai 1) (ai 0)) aF)),(zG (ao (ai 0) (ao (IA hu (ai 1) (ai 0)) aR)))⟩)))
noncomputable abbrev Bj:Stmt:=top 12
theorem Le:cz ["sheet","edits_in_turn","values","edits","least","slot","old","new"] ["sheet","edits_in_turn"] (aV Bj):=⟨rfl,rfl,rfl,by decide +kernel,rfl,by decide +kernel,by decide +kernel⟩
noncomputable def Cn:SF:=(aB (aM 2 (e1 jd (af 0))) (aB (cP (bh (af 1)) (gN 3) (aB (aM 4 (aC mQ (ah (af 2) (ah (af 3) aj)))) (aB (bG (tV (e2 uT (af 4) (eC .aE))) pJ bx) (cP (bh (af 3)) (gT (b_ (gN 5) (b_ (gN 6) (b_ (gN 7) i7)))) (gk 2 (af 5) (af 7)))))) (bT (aC t_ (ah (af 2) aj)))))
noncomputable def ua:List D->Option D:=b6 2 8 Cn
theorem U7(jN:mg "dict"=none)(Gn:FN P w K mg base aJ 1 "misfit" ["values","edits"] (aO K mQ))(Qj:FN P w K mg base aJ 1 "sheet_of_values" ["values"] (aO K t_))(F:bI K "edited_in_turn" "edited_in_turn" Bj f fd):a_ P w K mg base aJ 2 f fd ["sheet","edits_in_turn"] (aO K ua):=by
 obtain⟨_,_,GX,Hr,Gm,Hq⟩:=Gn;obtain⟨_,_,Yo,aax,P_,Xc⟩:=Qj;have sc:=Le;refine d7 F Le λaT A outer s H E hr=>?_
 have hu:=c9 hr;exact(aZ (cE 2 (Au rfl jN (ai 0)) sc.nd) (aZ (jY rfl (fC (ai 1)) (bY 3 sc.nd) (aZ (cE 4 (bK GX (hr.mono (by decide)) Hr Gm Hq (ao (ai 2) (ao (ai 3) aR))) sc.nd) (aZ (fz (abC (ai 4) oX) (bg Ip) e_) (bg (jY rfl (fC (ai 3)) (p7 rfl (gu (bY 5 sc.nd) (gu (bY 6 sc.nd) (gu (bY 7 sc.nd) pN)))) (bg (tT 2 hu (ai 5) (ai 7)))))))) (bg (cH (bK Yo (hr.mono (by decide)) aax P_ Xc (ao (ai 2) aR))))))
noncomputable abbrev yk:Stmt:=top 13
theorem Mb:cz ["edits","slot","old","new"] ["edits"] (aV yk):=⟨rfl,rfl,rfl,by decide +kernel,rfl,by decide +kernel,by decide +kernel⟩
noncomputable def C6:SF:=(aB (cP (bh (af 0)) (gT (b_ (gN 1) (b_ (gN 2) (b_ (gN 3) i7)))) (aB (bG (dF (jh (tV (aC gx (ah (af 1) (ah (eC (.int 0)) (ah (eC (.int 999)) aj))))) (tV (aC gx (ah (af 2) (ah (eC (.int 0)) (ah (eC (.int 1000000000)) aj))))))) (bT (eC (.bl false))) bx) (bG (iz (dF (tV (aC gx (ah (af 3) (ah (eC (.int 0)) (ah (eC (.int 1000000000)) aj)))))) (tV (e2 oEq (af 2) (af 3)))) (bT (eC (.bl false))) bx))) (bT (aC pH (ah (ck [none] (bh (af 0)) (gN 0) dG (e2 cY (af 0) (eC (.int 0)))) aj))))
noncomputable def vV:List D->Option D:=b6 1 4 C6
theorem XC{G3:Tok}(CY:mg "GREATEST_SLOT"=some (.int 999 G3)){CP:Tok}(zS:mg "GREATEST_VALUE"=some (.int 1000000000 CP))(uK:FN P w K mg base aJ 1 "within" ["value","least","most"] (aO K gx))(C9:FN P w K mg base aJ 1 "rising" ["numbers"] (aO K pH))(F:bI K "are_edits" "are_edits" yk f fd):a_ P w K mg base aJ 2 f fd ["edits"] (aO K vV):=by
 obtain⟨_,_,qj,qv,p6,pU⟩:=uK;obtain⟨_,_,F_,AO,D3,A4⟩:=C9;have sc:=Mb;refine d7 F Mb λaT A outer s H E hr=>?_
 have hu:=c9 hr;exact(aZ (jY rfl (fC (ai 0)) (p7 rfl (gu (bY 1 sc.nd) (gu (bY 2 sc.nd) (gu (bY 3 sc.nd) pN)))) (aZ (fz (jU (FW.ft (B3 (gm (bK qj (hr.mono (by decide)) qv p6 pU (ao (ai 1) (ao aF (ao (tD CY) aR))))) (Ht (gm (bK qj (hr.mono (by decide)) qv p6 pU (ao (ai 2) (ao aF (ao (tD zS) aR))))))))) (bg (cH kP)) e_) (bg (fz (FW.ft (tE (jU (gm (bK qj (hr.mono (by decide)) qv p6 pU (ao (ai 3) (ao aF (ao (tD zS) aR)))))) (sF (mH (ai 2) (ai 3))))) (bg (cH kP)) e_)))) (bg (cH (bK F_ (hr.mono (by decide)) AO D3 A4 (ao (iV (M:=["edit"]) (js:=[none]) (is:=[0]) (gJ (N:=["edits","slot","old","new"]) (eU:=aV yk) rfl rfl rfl (by decide +kernel)) rfl (fC (ai 0)) (by decide) λs3 H3 fp=>⟨(bY 0 (show(["edit"]:List Str).Nodup by decide +kernel)),kJ,(kM (ai 0) aF)⟩) aR)))))
noncomputable abbrev CW:Stmt:=inClass (top 20) 0
theorem JG:cz ["self"] ["self"] (aV CW):=⟨rfl,rfl,rfl,by decide +kernel,rfl,by decide +kernel,by decide +kernel⟩
noncomputable def aa6:SF:=(cZ (GW 0 "Changes" "entries" (cO aj)))
noncomputable def tP:MF:=runM 1 1 aa6
theorem WQ{bz:Addr}(bF:ClsAt K "Changes" bz)(jn:jE K bz "entries")(F:bI K "__init__" "Changes.__init__" CW f fd):a_ P w K mg base aJ 1 f fd ["self"] (nL K tP):=by
 have sc:=JG;refine Ka F JG rfl (by decide) λaT A outer s H E hr=>?_
 have hu:=c9 hr;exact(xJ (jT (Pd 0 bF jn (kc aR))))
noncomputable abbrev HB:Stmt:=inClass (top 20) 2
theorem Oh:cz ["self"] ["self"] (aV HB):=⟨rfl,rfl,rfl,by decide +kernel,rfl,by decide +kernel,by decide +kernel⟩
noncomputable def FL:SF:=(bT (e1 bX (qI "Changes" "entries" (af 0))))
noncomputable def jZ:List D->Option D:=b6 1 1 FL
theorem acs(c8:mg "len"=none)(bF:ClsAt K "Changes" bz)(jn:jE K bz "entries")(F:bI K "many" "Changes.many" HB f fd):a_ P w K mg base aJ 1 f fd ["self"] (aO K jZ):=by
 have sc:=Oh;refine d7 F Oh λaT A outer s H E hr=>?_
 have hu:=c9 hr;exact(bg (cH (ic c8 (KC bF jn (ai 0)))))
noncomputable abbrev Fy:Stmt:=inClass (top 20) 9
theorem Ll:cz ["self","number"] ["self","number"] (aV Fy):=⟨rfl,rfl,rfl,by decide +kernel,rfl,by decide +kernel,by decide +kernel⟩
noncomputable def Ej:SF:=(bT (aC gx (ah (af 1) (ah (eC (.int 1)) (ah (bZ "Changes" "many" jZ (af 0) aj) aj)))))
noncomputable def mR:List D->Option D:=b6 2 2 Ej
theorem XT(bF:ClsAt K "Changes" bz)(uK:FN P w K mg base aJ 1 "within" ["value","least","most"] (aO K gx))(vC:MT P w K mg base aJ 1 bz "many" ["self"] (aO K jZ))(F:bI K "has" "Changes.has" Fy f fd):a_ P w K mg base aJ 2 f fd ["self","number"] (aO K mR):=by
 obtain⟨_,_,qj,qv,p6,pU⟩:=uK;obtain⟨_,_,tG,sU,rK⟩:=vC;have sc:=Ll;refine d7 F Ll λaT A outer s H E hr=>?_
 have hu:=c9 hr;exact(bg (cH (bK qj (hr.mono (by decide)) qv p6 pU (ao (ai 1) (ao aF (ao (xE bF rK tG (hr.mono (by decide)) sU (ai 0)) aR))))))
noncomputable abbrev xR:Stmt:=inClass (top 20) 11
theorem Iz:cz ["self","rank","leans","edits"] ["self","rank","leans","edits"] (aV xR):=⟨rfl,rfl,rfl,by decide +kernel,rfl,by decide +kernel,by decide +kernel⟩
noncomputable def G4:SF:=(aB (bG (dF (tV (aC gx (ah (af 1) (ah (eC (.int 0)) (ah (eC (.int 9)) aj)))))) (bT (eC (.bl false))) bx) (aB (bG (iz (dF (tV (e1 jB (ck [none,some 0] (bh (af 2)) (gN 0) dG (bZ "Changes" "has" mR (af 1) (ah (af 0) aj)))))) (dF (tV (aC pH (ah (af 2) aj))))) (bT (eC (.bl false))) bx) (bT (lS (e2 oLe (e1 bX (af 3)) (eC (.int 20))) (aC vV (ah (af 3) aj))))))
noncomputable def qW:List D->Option D:=b6 4 4 G4
theorem Vp(iI:mg "all"=none)(c8:mg "len"=none){DS:Tok}(Dc:mg "GREATEST_RANK"=some (.int 9 DS)){Gh:Tok}(AZ:mg "MOST_EDITS"=some (.int 20 Gh))(bF:ClsAt K "Changes" bz)(uK:FN P w K mg base aJ 1 "within" ["value","least","most"] (aO K gx))(C9:FN P w K mg base aJ 1 "rising" ["numbers"] (aO K pH))(CS:MT P w K mg base aJ 2 bz "has" ["self","number"] (aO K mR))(acf:FN P w K mg base aJ 2 "are_edits" ["edits"] (aO K vV))(F:bI K "makes_change" "Changes.makes_change" xR f fd):a_ P w K mg base aJ 3 f fd ["self","rank","leans","edits"] (aO K qW):=by
 obtain⟨_,_,qj,qv,p6,pU⟩:=uK;obtain⟨_,_,F_,AO,D3,A4⟩:=C9;obtain⟨_,_,D4,EU,DW⟩:=CS;obtain⟨_,_,Yv,T4,Z6,PU⟩:=acf;have sc:=Iz;refine d7 F Iz λaT A outer s H E hr=>?_
 have hu:=c9 hr;exact(aZ (fz (jU (gm (bK qj (hr.mono (by decide)) qv p6 pU (ao (ai 1) (ao aF (ao (tD Dc) aR)))))) (bg (cH kP)) e_) (aZ (fz (FW.ft (tE (jU (gm (sM rfl iI (iV (M:=["lean","self"]) (js:=[none,some 0]) (is:=[0]) (gJ (N:=["self","rank","leans","edits"]) (eU:=aV xR) rfl rfl rfl (by decide +kernel)) rfl (fC (ai 2)) (by decide) λs3 H3 fp=>⟨(bY 0 (show(["lean","self"]:List Str).Nodup by decide +kernel)),kJ,(j3 bF DW D4 (hr.mono (by decide)) EU (ai 1) (ao (ai 0) aR))⟩)))) (sF (jU (gm (bK F_ (hr.mono (by decide)) AO D3 A4 (ao (ai 2) aR))))))) (bg (cH kP)) e_) (bg (cH (sE (YL (ic c8 (ai 3)) (tD AZ)) (AM (bK Yv (hr.mono (by decide)) T4 Z6 PU (ao (ai 3) aR))))))))
noncomputable abbrev yQ:Stmt:=inClass (top 20) 1
theorem OL:cz ["self","rank","leans","edits"] ["self","rank","leans","edits"] (aV yQ):=⟨rfl,rfl,rfl,by decide +kernel,rfl,by decide +kernel,by decide +kernel⟩
noncomputable def Cd:SF:=(aB (bG (dF (tV (bZ "Changes" "makes_change" qW (af 0) (ah (af 1) (ah (af 2) (ah (af 3) aj)))))) pJ bx) (aB (bG (tV (e2 yh (bZ "Changes" "many" jZ (af 0) aj) (eC (.int 60)))) pJ bx) (aB (cZ (rJ 0 "Changes" "entries" (je (ah (af 1) (ah (e1 gw (af 2)) (ah (e1 gw (ck [none] (bh (af 3)) (gN 0) dG (e1 gw (af 0)))) aj)))))) (yR (bZ "Changes" "many" jZ (af 0) aj)))))
noncomputable def qL:MF:=runM 4 4 Cd
theorem R5(jr:mg "tuple"=none){GI:Tok}(B5:mg "MOST_CHANGES"=some (.int 60 GI)){bz:Addr}(bF:ClsAt K "Changes" bz)(jn:jE K bz "entries")(ZX:MT P w K mg base aJ 3 bz "makes_change" ["self","rank","leans","edits"] (aO K qW))(vC:MT P w K mg base aJ 1 bz "many" ["self"] (aO K jZ))(F:bI K "added" "Changes.added" yQ f fd):a_ P w K mg base aJ 4 f fd ["self","rank","leans","edits"] (nL K qL):=by
 obtain⟨_,_,Wp,We,UP⟩:=ZX;obtain⟨_,_,tG,sU,rK⟩:=vC;have sc:=OL;refine Ka F OL rfl (by decide) λaT A outer s H E hr=>?_
 have hu:=c9 hr;exact(Ci (tM (jU (gm (j3 bF UP Wp (hr.mono (by decide)) We (ai 0) (ao (ai 1) (ao (ai 2) (ao (ai 3) aR)))))) (xJ Jp) J0) (Ci (tM (QV (xE bF rK tG (hr.mono (by decide)) sU (ai 0)) (tD B5)) (xJ Jp) J0) (Ci (jT (YB 0 bF jn (zG (ao (ai 1) (ao (sA jr (ai 2)) (ao (sA jr (iV (M:=["edit"]) (gJ (N:=["self","rank","leans","edits"]) (eU:=aV yQ) rfl rfl rfl (by decide +kernel)) rfl (fC (ai 3)) (by decide) λs3 H3 fp=>⟨(bY 0 (show(["edit"]:List Str).Nodup by decide +kernel)),kJ,(sA jr (ai 0))⟩)) aR)))))) (xJ (V4 (xE bF rK tG (hr.mono (by decide)) sU (ai 0)))))))
noncomputable abbrev Ef:Stmt:=inClass (top 20) 10
theorem Ia:cz ["self","number"] ["self","number"] (aV Ef):=⟨rfl,rfl,rfl,by decide +kernel,rfl,by decide +kernel,by decide +kernel⟩
noncomputable def GR:SF:=(aB (bG (dF (tV (bZ "Changes" "has" mR (af 0) (ah (af 1) aj)))) pJ bx) (bT (e2 cY (qI "Changes" "entries" (af 0)) (e2 fQ (af 1) (eC (.int 1))))))
noncomputable def kR:List D->Option D:=b6 2 2 GR
theorem RQ(bF:ClsAt K "Changes" bz)(jn:jE K bz "entries")(CS:MT P w K mg base aJ 2 bz "has" ["self","number"] (aO K mR))(F:bI K "entry_of" "Changes.entry_of" Ef f fd):a_ P w K mg base aJ 3 f fd ["self","number"] (aO K kR):=by
 obtain⟨_,_,D4,EU,DW⟩:=CS;have sc:=Ia;refine d7 F Ia λaT A outer s H E hr=>?_
 have hu:=c9 hr;exact(aZ (fz (jU (gm (j3 bF DW D4 (hr.mono (by decide)) EU (ai 0) (ao (ai 1) aR)))) (bg Ip) e_) (bg (cH (kM (KC bF jn (ai 0)) (qF (ai 1) aF)))))
noncomputable abbrev GV:Stmt:=inClass (top 20) 3
theorem Ks:cz ["self","number"] ["self","number"] (aV GV):=⟨rfl,rfl,rfl,by decide +kernel,rfl,by decide +kernel,by decide +kernel⟩
noncomputable def GH:SF:=(bT (e2 cY (bZ "Changes" "entry_of" kR (af 0) (ah (af 1) aj)) (eC (.int 0))))
noncomputable def qV:List D->Option D:=b6 2 2 GH
theorem Xr(bF:ClsAt K "Changes" bz)(uC:MT P w K mg base aJ 3 bz "entry_of" ["self","number"] (aO K kR))(F:bI K "rank_of" "Changes.rank_of" GV f fd):a_ P w K mg base aJ 4 f fd ["self","number"] (aO K qV):=by
 obtain⟨_,_,wz,tZ,vc⟩:=uC;have sc:=Ks;refine d7 F Ks λaT A outer s H E hr=>?_
 have hu:=c9 hr;exact(bg (cH (kM (j3 bF vc wz (hr.mono (by decide)) tZ (ai 0) (ao (ai 1) aR)) aF)))
noncomputable abbrev DM:Stmt:=inClass (top 20) 4
theorem LP:cz ["self","number"] ["self","number"] (aV DM):=⟨rfl,rfl,rfl,by decide +kernel,rfl,by decide +kernel,by decide +kernel⟩
noncomputable def A6:SF:=(bT (e1 iO (e2 cY (bZ "Changes" "entry_of" kR (af 0) (ah (af 1) aj)) (eC (.int 1)))))
noncomputable def lY:List D->Option D:=b6 2 2 A6
theorem Qu(e9:mg "list"=none)(bF:ClsAt K "Changes" bz)(uC:MT P w K mg base aJ 3 bz "entry_of" ["self","number"] (aO K kR))(F:bI K "leans_of" "Changes.leans_of" DM f fd):a_ P w K mg base aJ 4 f fd ["self","number"] (aO K lY):=by
 obtain⟨_,_,wz,tZ,vc⟩:=uC;have sc:=LP;refine d7 F LP λaT A outer s H E hr=>?_
 have hu:=c9 hr;exact(bg (cH (sL e9 (kM (j3 bF vc wz (hr.mono (by decide)) tZ (ai 0) (ao (ai 1) aR)) aF))))
noncomputable abbrev EW:Stmt:=inClass (top 20) 5
theorem JU:cz ["self","number"] ["self","number"] (aV EW):=⟨rfl,rfl,rfl,by decide +kernel,rfl,by decide +kernel,by decide +kernel⟩
noncomputable def Ek:SF:=(bT (e1 iO (e2 cY (bZ "Changes" "entry_of" kR (af 0) (ah (af 1) aj)) (eC (.int 2)))))
noncomputable def jA:List D->Option D:=b6 2 2 Ek
theorem P0(e9:mg "list"=none)(bF:ClsAt K "Changes" bz)(uC:MT P w K mg base aJ 3 bz "entry_of" ["self","number"] (aO K kR))(F:bI K "edits_of" "Changes.edits_of" EW f fd):a_ P w K mg base aJ 4 f fd ["self","number"] (aO K jA):=by
 obtain⟨_,_,wz,tZ,vc⟩:=uC;have sc:=JU;refine d7 F JU λaT A outer s H E hr=>?_
 have hu:=c9 hr;exact(bg (cH (sL e9 (kM (j3 bF vc wz (hr.mono (by decide)) tZ (ai 0) (ao (ai 1) aR)) aF))))
noncomputable abbrev yW:Stmt:=top 21
theorem L7:cz ["changes","row"] ["changes","row"] (aV yW):=⟨rfl,rfl,rfl,by decide +kernel,rfl,by decide +kernel,by decide +kernel⟩
noncomputable def EL:SF:=(bT (aC ua (ah (cO aj) (ah (ck [none,some 0] (bh (af 1)) (gN 0) dG (bZ "Changes" "edits_of" jA (af 1) (ah (af 0) aj))) aj))))
noncomputable def uV:List D->Option D:=b6 2 2 EL
theorem QZ(bF:ClsAt K "Changes" bz)(X3:FN P w K mg base aJ 2 "edited_in_turn" ["sheet","edits_in_turn"] (aO K ua))(uz:MT P w K mg base aJ 4 bz "edits_of" ["self","number"] (aO K jA))(F:bI K "sheet_of" "sheet_of" yW f fd):a_ P w K mg base aJ 5 f fd ["changes","row"] (aO K uV):=by
 obtain⟨_,_,XZ,YI,WW,O0⟩:=X3;obtain⟨_,_,uU,vX,wN⟩:=uz;have sc:=L7;refine d7 F L7 λaT A outer s H E hr=>?_
 have hu:=c9 hr;exact(bg (cH (bK XZ (hr.mono (by decide)) YI WW O0 (ao (kc aR) (ao (iV (M:=["number","changes"]) (js:=[none,some 0]) (is:=[0]) (gJ (N:=["changes","row"]) (eU:=aV yW) rfl rfl rfl (by decide +kernel)) rfl (fC (ai 1)) (by decide) λs3 H3 fp=>⟨(bY 0 (show(["number","changes"]:List Str).Nodup by decide +kernel)),kJ,(j3 bF wN uU (hr.mono (by decide)) vX (ai 1) (ao (ai 0) aR))⟩) aR)))))
noncomputable abbrev wR:Stmt:=top 23
theorem LG:cz ["changes","line","laid","waiting","here"] ["changes","line","laid","waiting"] (aV wR):=⟨rfl,rfl,rfl,by decide +kernel,rfl,by decide +kernel,by decide +kernel⟩
noncomputable def Et:SF:=(aB (aM 4 (e1 jd (ck [none] (bh (e2 qO (e1 iO (af 1)) (e1 iO (af 2)))) (gN 0) dG (je (ah (af 0) (ah (eC (.bl true)) aj)))))) (bT (ck [none,some 0,some 4] (bh (af 3)) (gN 0) (tV (e1 jB (ck [none,some 2] (bh (bZ "Changes" "leans_of" lY (af 1) (ah (af 0) aj))) (gN 0) dG (e2 (qq false) (af 0) (af 1))))) (af 0))))
noncomputable def lM:List D->Option D:=b6 4 5 Et
theorem Pb(iI:mg "all"=none)(jN:mg "dict"=none)(e9:mg "list"=none)(bF:ClsAt K "Changes" bz)(Cp:MT P w K mg base aJ 4 bz "leans_of" ["self","number"] (aO K lY))(F:bI K "free" "free" wR f fd):a_ P w K mg base aJ 5 f fd ["changes","line","laid","waiting"] (aO K lM):=by
 obtain⟨_,_,Dn,CT,Fp⟩:=Cp;have sc:=LG;refine d7 F LG λaT A outer s H E hr=>?_
 have hu:=c9 hr;exact(aZ (cE 4 (Au rfl jN (iV (M:=["number"]) (js:=[none]) (is:=[0]) (gJ (N:=["changes","line","laid","waiting","here"]) (eU:=aV wR) rfl rfl rfl (by decide +kernel)) rfl (fC (MK (sL e9 (ai 1)) (sL e9 (ai 2)))) (by decide) λs3 H3 fp=>⟨(bY 0 (show(["number"]:List Str).Nodup by decide +kernel)),kJ,(zG (ao (ai 0) (ao kP aR)))⟩)) sc.nd) (bg (cH (iV (M:=["number","changes","here"]) (js:=[none,some 0,some 4]) (is:=[0]) (gJ (N:=["changes","line","laid","waiting","here"]) (eU:=aV wR) rfl rfl rfl (by decide +kernel)) rfl (fC (ai 3)) (by decide) λs3 H3 fp=>⟨(bY 0 (show(["number","changes","here"]:List Str).Nodup by decide +kernel)),(nq (gm (sM rfl iI (iV (M:=["lean","here"]) (js:=[none,some 2]) (is:=[0]) (abk (by decide +kernel)) rfl (fC (j3 bF Fp Dn (hr.mono (by decide)) CT (ai 1) (ao (ai 0) aR))) (by decide) λs3 H3 fp=>⟨(bY 0 (show(["lean","here"]:List Str).Nodup by decide +kernel)),kJ,(P5 hu (ai 0) (ai 1))⟩)))),(ai 0)⟩))))
noncomputable abbrev Cc:Stmt:=top 25
theorem Oi:cz ["changes","line","laid"] ["changes","line","laid"] (aV Cc):=⟨rfl,rfl,rfl,by decide +kernel,rfl,by decide +kernel,by decide +kernel⟩
noncomputable def DC:SF:=(bT (e1 jd (aC uV (ah (af 0) (ah (e2 qO (e1 iO (af 1)) (e1 iO (af 2))) aj)))))
noncomputable def vY:List D->Option D:=b6 3 3 DC
theorem Xb(jN:mg "dict"=none)(e9:mg "list"=none)(U1:FN P w K mg base aJ 5 "sheet_of" ["changes","row"] (aO K uV))(F:bI K "values_behind" "values_behind" Cc f fd):a_ P w K mg base aJ 6 f fd ["changes","line","laid"] (aO K vY):=by
 obtain⟨_,_,ZI,Ss,aag,VG⟩:=U1;have sc:=Oi;refine d7 F Oi λaT A outer s H E hr=>?_
 have hu:=c9 hr;exact(bg (cH (Au rfl jN (bK ZI (hr.mono (by decide)) Ss aag VG (ao (ai 0) (ao (MK (sL e9 (ai 1)) (sL e9 (ai 2))) aR))))))
noncomputable abbrev A_:Stmt:=top 26
theorem OM:cz ["changes","values","number"] ["changes","values","number"] (aV A_):=⟨rfl,rfl,rfl,by decide +kernel,rfl,by decide +kernel,by decide +kernel⟩
noncomputable def Fx:SF:=(bT (e2 iW (aC mQ (ah (af 1) (ah (bZ "Changes" "edits_of" jA (af 0) (ah (af 2) aj)) aj))) (eC .aE)))
noncomputable def vF:List D->Option D:=b6 3 3 Fx
theorem UE(bF:ClsAt K "Changes" bz)(Gn:FN P w K mg base aJ 1 "misfit" ["values","edits"] (aO K mQ))(uz:MT P w K mg base aJ 4 bz "edits_of" ["self","number"] (aO K jA))(F:bI K "fits" "fits" A_ f fd):a_ P w K mg base aJ 5 f fd ["changes","values","number"] (aO K vF):=by
 obtain⟨_,_,GX,Hr,Gm,Hq⟩:=Gn;obtain⟨_,_,uU,vX,wN⟩:=uz;have sc:=OM;refine d7 F OM λaT A outer s H E hr=>?_
 have hu:=c9 hr;exact(bg (cH (K5 (bK GX (hr.mono (by decide)) Hr Gm Hq (ao (ai 1) (ao (j3 bF wN uU (hr.mono (by decide)) vX (ai 0) (ao (ai 2) aR)) aR))) oX)))
noncomputable abbrev xQ:Stmt:=top 24
theorem K3:cz ["changes","line","laid","waiting","values"] ["changes","line","laid","waiting"] (aV xQ):=⟨rfl,rfl,rfl,by decide +kernel,rfl,by decide +kernel,by decide +kernel⟩
noncomputable def BF:SF:=(aB (aM 4 (aC vY (ah (af 0) (ah (af 1) (ah (af 2) aj))))) (bT (ck [none,some 0,some 4] (bh (aC lM (ah (af 0) (ah (af 1) (ah (af 2) (ah (af 3) aj)))))) (gN 0) (tV (aC vF (ah (af 1) (ah (af 2) (ah (af 0) aj))))) (af 0))))
noncomputable def pZ:List D->Option D:=b6 4 5 BF
theorem abA(abp:FN P w K mg base aJ 6 "values_behind" ["changes","line","laid"] (aO K vY))(Gy:FN P w K mg base aJ 5 "free" ["changes","line","laid","waiting"] (aO K lM))(VT:FN P w K mg base aJ 5 "fits" ["changes","values","number"] (aO K vF))(F:bI K "layable" "layable" xQ f fd):a_ P w K mg base aJ 7 f fd ["changes","line","laid","waiting"] (aO K pZ):=by
 obtain⟨_,_,Rn,YS,Q0,acz⟩:=abp;obtain⟨_,_,Em,A3,Bk,Ge⟩:=Gy;obtain⟨_,_,P8,acG,RB,abO⟩:=VT;have sc:=K3;refine d7 F K3 λaT A outer s H E hr=>?_
 have hu:=c9 hr;exact(aZ (cE 4 (bK Rn (hr.mono (by decide)) YS Q0 acz (ao (ai 0) (ao (ai 1) (ao (ai 2) aR)))) sc.nd) (bg (cH (iV (M:=["number","changes","values"]) (js:=[none,some 0,some 4]) (is:=[0]) (gJ (N:=["changes","line","laid","waiting","values"]) (eU:=aV xQ) rfl rfl rfl (by decide +kernel)) rfl (fC (bK Em (hr.mono (by decide)) A3 Bk Ge (ao (ai 0) (ao (ai 1) (ao (ai 2) (ao (ai 3) aR)))))) (by decide) λs3 H3 fp=>⟨(bY 0 (show(["number","changes","values"]:List Str).Nodup by decide +kernel)),(nq (gm (bK P8 (hr.mono (by decide)) acG RB abO (ao (ai 1) (ao (ai 2) (ao (ai 0) aR)))))),(ai 0)⟩))))
noncomputable abbrev HK:Stmt:=top 28
theorem MM:cz ["_law_left","_law_many"] ["_law_left","_law_many"] (aV HK):=⟨rfl,rfl,rfl,by decide +kernel,rfl,by decide +kernel,by decide +kernel⟩
theorem aci(c8:mg "len"=none)(F:bI K "_law_take" "_law_take" HK f fd):a_ P w K mg base aJ 1 f fd ["_law_left","_law_many"] (pD K dX):=by
 have sc:=MM;refine F.ok MM (λvs H Q E h=>Ii h) λaT A outer s H vs Q E hr h=>?_
 exact VJ (N:=["_law_left","_law_many"]) rfl (mH (ic c8 (ai 0)) aF) DK (As IC (Kg PySem.F.plainAttrs_list PySem.F.slot_list_pop PySem.F.type_list_pop Qo (gX rfl (Or.inl rfl))) (gX rfl (Or.inl rfl))) h
noncomputable abbrev DX:Stmt:=top 29
theorem Jd:cz ["_law_cell","_law_turn","_law_many","_law_mixed"] ["_law_cell","_law_turn","_law_many"] (aV DX):=⟨rfl,rfl,rfl,by decide +kernel,rfl,by decide +kernel,by decide +kernel⟩
noncomputable def Fz:SF:=(aB (aM 3 (e2 jo (e2 aX (e2 oMod (af 0) (eC (.int 2147483629))) (eC (.int 11))) (e2 aX (eC (.int 982451653)) (e2 jo (e2 jo (eC (.int 57885161)) (af 1)) (af 1))))) (bT (e2 oMod (e2 oMod (af 3) (eC (.int 2147483629))) (af 2))))
noncomputable def bB:List D->Option D:=b6 3 4 Fz
theorem Xe(F:bI K "_law_mix" "_law_mix" DX f fd):a_ P w K mg base aJ 1 f fd ["_law_cell","_law_turn","_law_many"] (aO K bB):=by
 have sc:=Jd;refine d7 F Jd λaT A outer s H E hr=>?_
 have hu:=c9 hr;exact(aZ (cE 3 (yx (gF (Gv (ai 0) aF) aF) (gF aF (yx (yx aF (ai 1)) (ai 1)))) sc.nd) (bg (cH (Gv (Gv (ai 3) aF) (ai 2)))))
noncomputable abbrev zI:Stmt:=top 30
theorem Kn:cz ["_law_cell","_law_many","_law_most","_law_slots_here"] ["_law_cell"] (aV zI):=⟨rfl,rfl,rfl,by decide +kernel,rfl,by decide +kernel,by decide +kernel⟩
noncomputable def EN:SF:=(aB (aM 1 (e2 cY (cO (ah (eC (.int 0)) (ah (eC (.int 1)) (ah (eC (.int 1)) (ah (eC (.int 1)) (ah (eC (.int 2)) (ah (eC (.int 3)) (ah (eC (.int 4)) (ah (eC (.int 20)) aj))))))))) (aC bB (ah (af 0) (ah (eC (.int 1)) (ah (eC (.int 8)) aj)))))) (aB (aM 2 (e2 cY (cO (ah (eC (.int 3)) (ah (eC (.int 5)) (ah (eC (.int 1000)) aj)))) (aC bB (ah (af 0) (ah (eC (.int 2)) (ah (eC (.int 3)) aj)))))) (aB (aM 3 (ck [none,some 0,some 2] (iJ (af 1)) (gN 0) dG (aC bB (ah (af 1) (ah (e2 aX (eC (.int 100)) (af 0)) (ah (af 2) aj)))))) (bT (e1 qT (af 3))))))
noncomputable def qK:List D->Option D:=b6 1 4 EN
theorem acm(gj:mg "range"=none)(DT:mg "set"=none)(nk:mg "sorted"=none)(nh:FN P w K mg base aJ 1 "_law_mix" ["_law_cell","_law_turn","_law_many"] (aO K bB))(F:bI K "_law_slots" "_law_slots" zI f fd):a_ P w K mg base aJ 2 f fd ["_law_cell"] (aO K qK):=by
 obtain⟨_,_,fV,fX,f9,gg⟩:=nh;have sc:=Kn;refine d7 F Kn λaT A outer s H E hr=>?_
 have hu:=c9 hr;exact(aZ (cE 1 (kM (kc (ao aF (ao aF (ao aF (ao aF (ao aF (ao aF (ao aF (ao aF aR))))))))) (bK fV (hr.mono (by decide)) fX f9 gg (ao (ai 0) (ao aF (ao aF aR))))) sc.nd) (aZ (cE 2 (kM (kc (ao aF (ao aF (ao aF aR)))) (bK fV (hr.mono (by decide)) fX f9 gg (ao (ai 0) (ao aF (ao aF aR))))) sc.nd) (aZ (uA 3 (hN:=sc.nd) (M:=["_law_k","_law_cell","_law_most"]) (js:=[none,some 0,some 2]) (is:=[0]) (gJ (N:=["_law_cell","_law_many","_law_most","_law_slots_here"]) (eU:=aV zI) rfl rfl rfl (by decide +kernel)) rfl (rX gj (ai 1)) (by decide) λs3 H3 fp=>⟨(bY 0 (show(["_law_k","_law_cell","_law_most"]:List Str).Nodup by decide +kernel)),kJ,(bK fV (hr.mono (by decide)) fX f9 gg (ao (ai 1) (ao (gF aF (ai 0)) (ao (ai 2) aR))))⟩) (bg (cH (Su rfl nk DT (ai 3)))))))
noncomputable abbrev G9:Stmt:=top 31
theorem Mz:cz ["_law_cell","_law_sheet_here","_law_edits_here","_law_slot","_law_old","_law_some","_law_new"] ["_law_cell","_law_sheet_here"] (aV G9):=⟨rfl,rfl,rfl,by decide +kernel,rfl,by decide +kernel,by decide +kernel⟩
noncomputable def EB:SF:=(aB (aM 2 (cO aj)) (aB (cP (bh (aC qK (ah (af 0) aj))) (gN 3) (aB (aM 4 (e3 i_ (af 1) (af 3) (eC (.int 0)))) (aB (bG (tV (e2 oEq (aC bB (ah (af 0) (ah (e2 aX (eC (.int 130)) (af 3)) (ah (eC (.int 8)) aj)))) (eC (.int 0)))) (aM 4 (aC bB (ah (af 0) (ah (eC (.int 3)) (ah (eC (.int 3)) aj))))) bx) (aB (aM 5 (cO (ah (eC (.int 0)) (ah (eC (.int 1)) (ah (aC bB (ah (af 0) (ah (e2 aX (eC (.int 140)) (af 3)) (ah (eC (.int 3)) aj)))) (ah (aC bB (ah (af 0) (ah (e2 aX (eC (.int 150)) (af 3)) (ah (e2 aX (e2 f6 (eC (.int 10)) (eC (.int 9))) (eC (.int 1))) aj)))) aj)))))) (aB (aM 6 (e2 cY (af 5) (aC bB (ah (af 0) (ah (e2 aX (eC (.int 160)) (af 3)) (ah (eC (.int 4)) aj)))))) (aB (bG (tV (e2 oEq (af 6) (af 4))) (aM 6 (mT (cO (ah (e2 aX (af 4) (eC (.int 1))) (ah (e2 fQ (af 4) (eC (.int 1))) aj))) (e1 sN (e2 oEq (af 4) (e2 f6 (eC (.int 10)) (eC (.int 9))))))) bx) (n6 2 (je (ah (af 3) (ah (af 4) (ah (af 6) aj))))))))))) (mC 2)))
noncomputable def wF:List D->Option D:=b6 2 7 EB
theorem Sz(nA:mg "int"=none)(aaW:FN P w K mg base aJ 2 "_law_slots" ["_law_cell"] (aO K qK))(nh:FN P w K mg base aJ 1 "_law_mix" ["_law_cell","_law_turn","_law_many"] (aO K bB))(F:bI K "_law_edits" "_law_edits" G9 f fd):a_ P w K mg base aJ 3 f fd ["_law_cell","_law_sheet_here"] (aO K wF):=by
 obtain⟨_,_,ZQ,UB,abB,acN⟩:=aaW;obtain⟨_,_,fV,fX,f9,gg⟩:=nh;have sc:=Mz;refine d7 F Mz λaT A outer s H E hr=>?_
 have hu:=c9 hr;exact(aZ (cE 2 (kc aR) sc.nd) (aZ (jY rfl (fC (bK ZQ (hr.mono (by decide)) UB abB acN (ao (ai 0) aR))) (bY 3 sc.nd) (aZ (cE 4 (Bf hu (ai 1) (ai 3) aF) sc.nd) (aZ (fz (mH (bK fV (hr.mono (by decide)) fX f9 gg (ao (ai 0) (ao (gF aF (ai 3)) (ao aF aR)))) aF) (bg (cE 4 (bK fV (hr.mono (by decide)) fX f9 gg (ao (ai 0) (ao aF (ao aF aR)))) sc.nd)) e_) (aZ (cE 5 (kc (ao aF (ao aF (ao (bK fV (hr.mono (by decide)) fX f9 gg (ao (ai 0) (ao (gF aF (ai 3)) (ao aF aR)))) (ao (bK fV (hr.mono (by decide)) fX f9 gg (ao (ai 0) (ao (gF aF (ai 3)) (ao (gF (u_ aF aF) aF) aR)))) aR))))) sc.nd) (aZ (cE 6 (kM (ai 5) (bK fV (hr.mono (by decide)) fX f9 gg (ao (ai 0) (ao (gF aF (ai 3)) (ao aF aR))))) sc.nd) (aZ (fz (mH (ai 6) (ai 4)) (bg (cE 6 (IB (kc (ao (gF (ai 4) aF) (ao (qF (ai 4) aF) aR))) (acM nA (yX (ai 4) (u_ aF aF)))) sc.nd)) e_) (bg (IL 2 (zG (ao (ai 3) (ao (ai 4) (ao (ai 6) aR)))))))))))) (bg (yI 2))))
noncomputable abbrev EO:Stmt:=top 32
theorem NT:cz ["_law_cell","_law_specs_here","_law_number","_law_parent","_law_sheet_here","_law_leans","_law_edits_here","_law_slot","_law_old","_law_new","_law_rank"] ["_law_cell","_law_specs_here"] (aV EO):=⟨rfl,rfl,rfl,by decide +kernel,rfl,by decide +kernel,by decide +kernel⟩
noncomputable def B9:SF:=(aB (aM 2 (e2 aX (e1 bX (af 1)) (eC (.int 1)))) (aB (aM 3 (aC bB (ah (af 0) (ah (eC (.int 4)) (ah (af 2) aj))))) (aB (aM 4 (eC (.bD []))) (aB (aM 5 (eC (.bD []))) (aB (bG (tV (e2 j0 (af 3) (eC (.int 0)))) (aB (aM 4 (e1 jd (cD (dQ (af 1) (e2 fQ (af 3) (eC (.int 1)))) (eC (.int 3))))) (bG (tV (e2 oEq (aC bB (ah (af 0) (ah (eC (.int 5)) (ah (eC (.int 2)) aj)))) (eC (.int 0)))) (gk 5 (af 3) (eC (.bl true))) bx)) bx) (aB (bG (jh (tV (e2 j0 (af 2) (eC (.int 1)))) (tV (e2 oEq (aC bB (ah (af 0) (ah (eC (.int 6)) (ah (eC (.int 4)) aj)))) (eC (.int 0))))) (gk 5 (e2 aX (eC (.int 1)) (aC bB (ah (af 0) (ah (eC (.int 7)) (ah (e2 fQ (af 2) (eC (.int 1))) aj))))) (eC (.bl true))) bx) (aB (aM 6 (aC wF (ah (af 0) (ah (af 4) aj)))) (aB (cP (bh (af 6)) (gT (b_ (gN 7) (b_ (gN 8) (b_ (gN 9) i7)))) (gk 4 (af 7) (af 9))) (aB (aM 10 (mT (cO (ah (aC bB (ah (af 0) (ah (eC (.int 8)) (ah (eC (.int 10)) aj)))) (ah (aC bB (ah (af 0) (ah (eC (.int 9)) (ah (eC (.int 2)) aj)))) aj))) (aC bB (ah (af 0) (ah (eC (.int 10)) (ah (eC (.int 2)) aj)))))) (zq (af 10) (e1 nR (af 5)) 6 4))))))))))
noncomputable def pX:List D->Option D:=b6 2 11 B9
theorem acq(jN:mg "dict"=none)(c8:mg "len"=none)(nk:mg "sorted"=none)(nh:FN P w K mg base aJ 1 "_law_mix" ["_law_cell","_law_turn","_law_many"] (aO K bB))(Vh:FN P w K mg base aJ 3 "_law_edits" ["_law_cell","_law_sheet_here"] (aO K wF))(F:bI K "_law_spec" "_law_spec" EO f fd):a_ P w K mg base aJ 4 f fd ["_law_cell","_law_specs_here"] (aO K pX):=by
 obtain⟨_,_,fV,fX,f9,gg⟩:=nh;obtain⟨_,_,Zh,Vl,YJ,UL⟩:=Vh;have sc:=NT;refine d7 F NT λaT A outer s H E hr=>?_
 have hu:=c9 hr;exact(aZ (cE 2 (gF (ic c8 (ai 1)) aF) sc.nd) (aZ (cE 3 (bK fV (hr.mono (by decide)) fX f9 gg (ao (ai 0) (ao aF (ao (ai 2) aR)))) sc.nd) (aZ (cE 4 GN sc.nd) (aZ (cE 5 GN sc.nd) (aZ (fz (yl (ai 3) aF) (aZ (cE 4 (Au rfl jN (mD (mX (ai 1) (qF (ai 3) aF)) aF)) sc.nd) (bg (fz (mH (bK fV (hr.mono (by decide)) fX f9 gg (ao (ai 0) (ao aF (ao aF aR)))) aF) (bg (tT 5 hu (ai 3) kP)) e_))) e_) (aZ (fz (FW.ft (B3 (yl (ai 2) aF) (Ht (mH (bK fV (hr.mono (by decide)) fX f9 gg (ao (ai 0) (ao aF (ao aF aR)))) aF)))) (bg (tT 5 hu (gF aF (bK fV (hr.mono (by decide)) fX f9 gg (ao (ai 0) (ao aF (ao (qF (ai 2) aF) aR))))) kP)) e_) (aZ (cE 6 (bK Zh (hr.mono (by decide)) Vl YJ UL (ao (ai 0) (ao (ai 4) aR))) sc.nd) (aZ (jY rfl (fC (ai 6)) (p7 rfl (gu (bY 7 sc.nd) (gu (bY 8 sc.nd) (gu (bY 9 sc.nd) pN)))) (bg (tT 4 hu (ai 7) (ai 9)))) (aZ (cE 10 (IB (kc (ao (bK fV (hr.mono (by decide)) fX f9 gg (ao (ai 0) (ao aF (ao aF aR)))) (ao (bK fV (hr.mono (by decide)) fX f9 gg (ao (ai 0) (ao aF (ao aF aR)))) aR))) (bK fV (hr.mono (by decide)) fX f9 gg (ao (ai 0) (ao aF (ao aF aR))))) sc.nd) (bg (RD 6 4 (ai 10) (J4 rfl nk (ai 5)))))))))))))
noncomputable abbrev Dg:Stmt:=top 33
theorem KZ:cz ["_law_specs_here","_law_row_here","_law_sheet_here","_law_number","_law_slot","_law_old","_law_new"] ["_law_specs_here","_law_row_here"] (aV Dg):=⟨rfl,rfl,rfl,by decide +kernel,rfl,by decide +kernel,by decide +kernel⟩
noncomputable def AX:SF:=(aB (aM 2 (eC (.bD []))) (aB (cP (bh (af 1)) (gN 3) (cP (bh (cD (dQ (af 0) (e2 fQ (af 3) (eC (.int 1)))) (eC (.int 2)))) (gT (b_ (gN 4) (b_ (gN 5) (b_ (gN 6) i7)))) (gk 2 (af 4) (af 6)))) (mC 2)))
noncomputable def oB:List D->Option D:=b6 2 7 AX
theorem YU(F:bI K "_law_sheet" "_law_sheet" Dg f fd):a_ P w K mg base aJ 1 f fd ["_law_specs_here","_law_row_here"] (aO K oB):=by
 have sc:=KZ;refine d7 F KZ λaT A outer s H E hr=>?_
 have hu:=c9 hr;exact(aZ (cE 2 GN sc.nd) (aZ (jY rfl (fC (ai 1)) (bY 3 sc.nd) (bg (jY rfl (fC (mD (mX (ai 0) (qF (ai 3) aF)) aF)) (p7 rfl (gu (bY 4 sc.nd) (gu (bY 5 sc.nd) (gu (bY 6 sc.nd) pN)))) (bg (tT 2 hu (ai 4) (ai 6)))))) (bg (yI 2))))
noncomputable abbrev E8:Stmt:=top 34
theorem My:cz ["_law_specs_here","_law_sheet_here","_law_number","_law_slot","_law_old","_law_new"] ["_law_specs_here","_law_sheet_here","_law_number"] (aV E8):=⟨rfl,rfl,rfl,by decide +kernel,rfl,by decide +kernel,by decide +kernel⟩
noncomputable def C_:SF:=(aB (cP (bh (cD (dQ (af 0) (e2 fQ (af 2) (eC (.int 1)))) (eC (.int 2)))) (gT (b_ (gN 3) (b_ (gN 4) (b_ (gN 5) i7)))) (bG (tV (e2 gD (e3 i_ (af 1) (af 3) (eC (.int 0))) (af 4))) (mC 3) bx)) (bT (eC .aE)))
noncomputable def kj:List D->Option D:=b6 3 6 C_
theorem XJ(F:bI K "_law_unfit" "_law_unfit" E8 f fd):a_ P w K mg base aJ 1 f fd ["_law_specs_here","_law_sheet_here","_law_number"] (aO K kj):=by
 have sc:=My;refine d7 F My λaT A outer s H E hr=>?_
 have hu:=c9 hr;exact(aZ (jY rfl (fC (mD (mX (ai 0) (qF (ai 2) aF)) aF)) (p7 rfl (gu (bY 3 sc.nd) (gu (bY 4 sc.nd) (gu (bY 5 sc.nd) pN)))) (bg (fz (wO (Bf hu (ai 1) (ai 3) aF) (ai 4)) (bg (yI 3)) e_))) (bg (cH oX)))
noncomputable abbrev zM:Stmt:=top 35
theorem JB:cz ["_law_specs_here","_law_there","_law_number"] ["_law_specs_here","_law_there","_law_number"] (aV zM):=⟨rfl,rfl,rfl,by decide +kernel,rfl,by decide +kernel,by decide +kernel⟩
noncomputable def Bb:SF:=(bT (e1 jB (ck [none,some 1] (bh (cD (dQ (af 0) (e2 fQ (af 2) (eC (.int 1)))) (eC (.int 1)))) (gN 0) dG (e2 (jD false) (af 0) (af 1)))))
noncomputable def k_:List D->Option D:=b6 3 3 Bb
theorem Pf(iI:mg "all"=none)(F:bI K "_law_free" "_law_free" zM f fd):a_ P w K mg base aJ 1 f fd ["_law_specs_here","_law_there","_law_number"] (aO K k_):=by
 have sc:=JB;refine d7 F JB λaT A outer s H E hr=>?_
 have hu:=c9 hr;exact(bg (cH (sM rfl iI (iV (M:=["_law_lean","_law_there"]) (js:=[none,some 1]) (is:=[0]) (gJ (N:=["_law_specs_here","_law_there","_law_number"]) (eU:=aV zM) rfl rfl rfl (by decide +kernel)) rfl (fC (mD (mX (ai 0) (qF (ai 2) aF)) aF)) (by decide) λs3 H3 fp=>⟨(bY 0 (show(["_law_lean","_law_there"]:List Str).Nodup by decide +kernel)),kJ,(Rc (ai 0) (ai 1))⟩))))
noncomputable abbrev CH:Stmt:=top 36
theorem Me:cz ["_law_specs_here","_law_changes","_law_spec_here"] ["_law_specs_here"] (aV CH):=⟨rfl,rfl,rfl,by decide +kernel,rfl,by decide +kernel,by decide +kernel⟩
noncomputable def Hj:SF:=(aB (aM 1 (tu "Changes" tP aj)) (aB (cP (bh (af 0)) (gN 2) (sZ (xO 1 "Changes" "added" qL (ah (cD (af 2) (eC (.int 0))) (ah (cD (af 2) (eC (.int 1))) (ah (cD (af 2) (eC (.int 2))) aj)))))) (mC 1)))
noncomputable def yj:List D->Option D:=b6 1 3 Hj
theorem VC(bF:ClsAt K "Changes" bz)(QC:MI P w K mg base aJ 1 bz ["self"] (nL K tP))(Cj:mg "Changes"=some (.ref bz))(ZN:MT P w K mg base aJ 4 bz "added" ["self","rank","leans","edits"] (nL K qL))(F:bI K "_law_added" "_law_added" CH f fd):a_ P w K mg base aJ 5 f fd ["_law_specs_here"] (aO K yj):=by
 obtain⟨_,_,TZ,Pe,acd⟩:=QC;obtain⟨_,_,Tv,PL,abw⟩:=ZN;have sc:=Me;refine d7 F Me λaT A outer s H E hr=>?_
 have hu:=c9 hr;exact(aZ (cE 1 (ab6 bF.ns acd TZ (hr.mono (by decide)) Cj Pe) sc.nd) (aZ (jY rfl (fC (ai 0)) (bY 2 sc.nd) (bg (Zs (SR 1 bF abw Tv (hr.mono (by decide)) PL (ao (mD (ai 2) aF) (ao (mD (ai 2) aF) (ao (mD (ai 2) aF) aR))))))) (bg (yI 1))))
noncomputable abbrev F5:Stmt:=top 37
theorem LC:cz ["_law_left","_law_specs_here","_law_k"] ["_law_left"] (aV F5):=⟨rfl,rfl,rfl,by decide +kernel,rfl,by decide +kernel,by decide +kernel⟩
noncomputable def AQ:SF:=(aB (cZ (aM 1 (cO aj))) (aB (cZ (sI (xM 0 dX (eO (xP (eC (.int 25))) fN)) (gN 2) (tH 1 (sS pX (x2 aX (xM 0 dX (eO (xP (e2 f6 (eC (.int 10)) (eC (.int 12)))) fN)) (xP (e2 jo (eC (.int 31)) (af 2)))) (ah (af 1) aj))))) (qP 1)))
noncomputable def xg:MF:=runM 1 3 AQ
theorem Pg(gj:mg "range"=none)(qf:FN P w K mg base aJ 1 "_law_take" ["_law_left","_law_many"] (pD K dX))(R7:FN P w K mg base aJ 4 "_law_spec" ["_law_cell","_law_specs_here"] (aO K pX))(F:bI K "_law_specs" "_law_specs" F5 f fd):a_ P w K mg base aJ 5 f fd ["_law_left"] (mO K xg):=by
 obtain⟨_,_,kT,kN,ko,kY⟩:=qf;obtain⟨_,_,S7,UZ,Vj,TN⟩:=R7;have sc:=LC;refine Dh F LC rfl (by decide) λaT A outer s H E hr=>?_
 have hu:=c9 hr;exact(lG (lW (jT (cE 1 (kc aR) sc.nd))) (lG (lW (jT (Xi rfl gj (oM 0 kT (hr.mono (by decide)) kN ko kY (pC (lA aF) oK)) (bY 2 sc.nd) (bg (SW 1 (aa0 S7 (hr.mono (by decide)) UZ Vj TN (Mv (oM 0 kT (hr.mono (by decide)) kN ko kY (pC (lA (u_ aF aF)) oK)) (lA (yx aF (ai 2)))) (ao (ai 1) aR))))))) (EI (Lz 1))))
noncomputable abbrev xA:Stmt:=top 38
theorem OR:cz ["_law_left","_law_specs_here","_law_row_here","_law_pool","_law_turns","_law_cell","_law_k","_law_sheet_here","_law_some","_law_number"] ["_law_left","_law_specs_here"] (aV xA):=⟨rfl,rfl,rfl,by decide +kernel,rfl,by decide +kernel,by decide +kernel⟩
noncomputable def CL:SF:=(aB (cZ (aM 2 (cO aj))) (aB (cZ (aM 3 (sX (ah (eC (.int 1)) (ah (e2 aX (e1 bX (af 1)) (eC (.int 1))) aj))))) (aB (cZ (ir 4 (xM 0 dX (eO (xP (eC (.int 30))) fN)))) (aB (cZ (ir 5 (xM 0 dX (eO (xP (e2 f6 (eC (.int 10)) (eC (.int 12)))) fN)))) (aB (cZ (cP (iJ (af 4)) (gN 6) (aB (aM 7 (aC oB (ah (af 1) (ah (af 2) aj)))) (aB (aM 8 (ck [none,some 1,some 2,some 7] (bh (af 3)) (gN 0) (jh (tV (aC k_ (ah (af 1) (ah (af 2) (ah (af 0) aj))))) (tV (e2 iW (aC kj (ah (af 1) (ah (af 3) (ah (af 0) aj)))) (eC .aE)))) (af 0))) (bG (tV (e2 j0 (e1 bX (af 8)) (eC (.int 0)))) (aB (aM 9 (e2 cY (af 8) (aC bB (ah (af 5) (ah (e2 aX (eC (.int 200)) (af 6)) (ah (e1 bX (af 8)) aj)))))) (aB (n6 2 (af 9)) (v_ 3 (af 9)))) bx))))) (qP 2))))))
noncomputable def Ax:MF:=runM 2 10 CL
theorem UJ(c8:mg "len"=none)(e9:mg "list"=none)(gj:mg "range"=none)(qf:FN P w K mg base aJ 1 "_law_take" ["_law_left","_law_many"] (pD K dX))(GS:FN P w K mg base aJ 1 "_law_sheet" ["_law_specs_here","_law_row_here"] (aO K oB))(BH:FN P w K mg base aJ 1 "_law_unfit" ["_law_specs_here","_law_sheet_here","_law_number"] (aO K kj))(DQ:FN P w K mg base aJ 1 "_law_free" ["_law_specs_here","_law_there","_law_number"] (aO K k_))(nh:FN P w K mg base aJ 1 "_law_mix" ["_law_cell","_law_turn","_law_many"] (aO K bB))(F:bI K "_law_row" "_law_row" xA f fd):a_ P w K mg base aJ 2 f fd ["_law_left","_law_specs_here"] (mO K Ax):=by
 obtain⟨_,_,kT,kN,ko,kY⟩:=qf;obtain⟨_,_,Bq,G0,BI,Fo⟩:=GS;obtain⟨_,_,Gj,BC,DE,Fl⟩:=BH;obtain⟨_,_,ET,Cb,Dk,Hh⟩:=DQ;obtain⟨_,_,fV,fX,f9,gg⟩:=nh;have sc:=OR;refine Dh F OR rfl (by decide) λaT A outer s H E hr=>?_
 have hu:=c9 hr;exact(lG (lW (jT (cE 2 (kc aR) sc.nd))) (lG (lW (jT (cE 3 (P1 rfl e9 gj (ao aF (ao (gF (ic c8 (ai 1)) aF) aR))) sc.nd))) (lG (lW (jT (rQ 4 (oM 0 kT (hr.mono (by decide)) kN ko kY (pC (lA aF) oK)) sc.nd))) (lG (lW (jT (rQ 5 (oM 0 kT (hr.mono (by decide)) kN ko kY (pC (lA (u_ aF aF)) oK)) sc.nd))) (lG (lW (jT (jY rfl (rX gj (ai 4)) (bY 6 sc.nd) (aZ (cE 7 (bK Bq (hr.mono (by decide)) G0 BI Fo (ao (ai 1) (ao (ai 2) aR))) sc.nd) (aZ (uA 8 (hN:=sc.nd) (js:=[none,some 1,some 2,some 7]) (is:=[0]) (gJ (N:=["_law_left","_law_specs_here","_law_row_here","_law_pool","_law_turns","_law_cell","_law_k","_law_sheet_here","_law_some","_law_number"]) (eU:=aV xA) rfl rfl rfl (by decide +kernel)) rfl (fC (ai 3)) (by decide) λs3 H3 fp=>⟨(bY 0 (show(["_law_one","_law_specs_here","_law_row_here","_law_sheet_here"]:List Str).Nodup by decide +kernel)),(nq (FW.ft (B3 (gm (bK ET (hr.mono (by decide)) Cb Dk Hh (ao (ai 1) (ao (ai 2) (ao (ai 0) aR))))) (Ht (Hy (bK Gj (hr.mono (by decide)) BC DE Fl (ao (ai 1) (ao (ai 3) (ao (ai 0) aR)))) oX))))),(ai 0)⟩) (bg (fz (yl (ic c8 (ai 8)) aF) (aZ (cE 9 (kM (ai 8) (bK fV (hr.mono (by decide)) fX f9 gg (ao (ai 5) (ao (gF aF (ai 6)) (ao (ic c8 (ai 8)) aR))))) sc.nd) (aZ (IL 2 (ai 9)) (bg (Xw 3 (ai 9))))) e_))))))) (EI (Lz 2)))))))
noncomputable abbrev vq:Stmt:=top 39
theorem Mi:cz ["_law_left","_law_specs_here","_law_row_here","_law_cell","_law_share","_law_pool"] ["_law_left","_law_specs_here","_law_row_here"] (aV vq):=⟨rfl,rfl,rfl,by decide +kernel,rfl,by decide +kernel,by decide +kernel⟩
noncomputable def DR:SF:=(aB (cZ (ir 3 (xM 0 dX (eO (xP (e2 f6 (eC (.int 10)) (eC (.int 12)))) fN)))) (aB (cZ (ir 4 (x2 aX (xP (eC (.int 1))) (xM 0 dX (eO (xP (eC (.int 6))) fN))))) (aB (cZ (aM 5 (ck [none,some 2] (rT (eC (.int 1)) (e2 aX (e1 bX (af 1)) (eC (.int 1)))) (gN 0) (tV (e2 (jD true) (af 0) (af 1))) (af 0)))) (yM (ck [none,some 4,some 3] (bh (af 5)) (gN 0) (iz (tV (e2 j0 (af 1) (eC (.int 1)))) (tV (e2 oEq (aC bB (ah (af 2) (ah (e2 aX (eC (.int 300)) (af 0)) (ah (eC (.int 2)) aj)))) (eC (.int 0))))) (af 0))))))
noncomputable def yf:MF:=runM 3 6 DR
theorem Vo(c8:mg "len"=none)(gj:mg "range"=none)(qf:FN P w K mg base aJ 1 "_law_take" ["_law_left","_law_many"] (pD K dX))(nh:FN P w K mg base aJ 1 "_law_mix" ["_law_cell","_law_turn","_law_many"] (aO K bB))(F:bI K "_law_rest" "_law_rest" vq f fd):a_ P w K mg base aJ 2 f fd ["_law_left","_law_specs_here","_law_row_here"] (mO K yf):=by
 obtain⟨_,_,kT,kN,ko,kY⟩:=qf;obtain⟨_,_,fV,fX,f9,gg⟩:=nh;have sc:=Mi;refine Dh F Mi rfl (by decide) λaT A outer s H E hr=>?_
 have hu:=c9 hr;exact(lG (lW (jT (rQ 3 (oM 0 kT (hr.mono (by decide)) kN ko kY (pC (lA (u_ aF aF)) oK)) sc.nd))) (lG (lW (jT (rQ 4 (Mv (lA aF) (oM 0 kT (hr.mono (by decide)) kN ko kY (pC (lA aF) oK))) sc.nd))) (lG (lW (jT (uA 5 (hN:=sc.nd) (gJ (N:=["_law_left","_law_specs_here","_law_row_here","_law_cell","_law_share","_law_pool"]) (eU:=aV vq) rfl rfl rfl (by decide +kernel)) rfl (aap gj aF (gF (ic c8 (ai 1)) aF)) (by decide) λs3 H3 fp=>⟨(bY 0 (show(["_law_number","_law_row_here"]:List Str).Nodup by decide +kernel)),(nq (abJ (ai 0) (ai 1))),(ai 0)⟩))) (EI (abv (iV (M:=["_law_number","_law_share","_law_cell"]) (js:=[none,some 4,some 3]) (gJ (N:=["_law_left","_law_specs_here","_law_row_here","_law_cell","_law_share","_law_pool"]) (eU:=aV vq) rfl rfl rfl (by decide +kernel)) rfl (fC (ai 5)) (by decide) λs3 H3 fp=>⟨(bY 0 (show(["_law_number","_law_share","_law_cell"]:List Str).Nodup by decide +kernel)),(nq (FW.ft (tE (yl (ai 1) aF) (sF (mH (bK fV (hr.mono (by decide)) fX f9 gg (ao (ai 2) (ao (gF aF (ai 0)) (ao aF aR)))) aF))))),(ai 0)⟩))))))
noncomputable abbrev uI:Stmt:=top 40
theorem Fb:cz ["_law_found","_law_due"] ["_law_found","_law_due"] (aV uI):=⟨rfl,rfl,rfl,by decide +kernel,rfl,by decide +kernel,by decide +kernel⟩
noncomputable def g_(G:List D->Option D):SF:=(aB (bG (tV (e1 (nZ "tuple") (af 1))) (aB (bG (iz (dF (tV (e1 (nZ "tuple") (af 0)))) (tV (e2 gD (e1 bX (af 0)) (e1 bX (af 1))))) (bT (eC (.bl false))) bx) (bT (e1 jB (ck [none,some 0,some 1] (iJ (e1 bX (af 1))) (gN 0) dG (aC G (ah (e2 cY (af 1) (af 0)) (ah (e2 cY (af 2) (af 0)) aj))))))) bx) (aB (bG (tV (e1 (gp "list") (af 1))) (aB (bG (iz (dF (tV (e1 (gp "list") (af 0)))) (tV (e2 gD (e1 bX (af 0)) (e1 bX (af 1))))) (bT (eC (.bl false))) bx) (bT (e1 jB (ck [none,some 0,some 1] (iJ (e1 bX (af 1))) (gN 0) dG (aC G (ah (dQ (af 1) (af 0)) (ah (dQ (af 2) (af 0)) aj))))))) bx) (aB (bG (tV (e2 iW (af 1) (eC .aE))) (bT (e2 iW (af 0) (eC .aE))) bx) (aB (bG (tV (e1 (gp "str") (af 1))) (bT (lS (e1 (gp "str") (af 0)) (e2 oEq (af 0) (af 1)))) bx) (bT (lS (e1 (gp "int") (af 0)) (lS (e1 v7 (e1 (gp "bool") (af 0))) (e2 oEq (af 0) (af 1)))))))))
noncomputable def En:List D->Option D:=b6 2 2 (g_ λ_=>none)
noncomputable def Eu:List D->Option D:=b6 2 2 (g_ En)
noncomputable def AV:List D->Option D:=b6 2 2 (g_ Eu)
noncomputable def zw:List D->Option D:=b6 2 2 (g_ AV)
noncomputable abbrev jG:List D->Option D:=zw
theorem ZD(iI:mg "all"=none)(g_bool:mg "bool"=none)(nA:mg "int"=none)(jl:mg "isinstance"=none)(c8:mg "len"=none)(e9:mg "list"=none)(gj:mg "range"=none)(zN:mg "str"=none)(jr:mg "tuple"=none)(s_:mg "_law_same"=some (.ref f))(sW:PySem.W.keepIn K (.ref f)=true)(sC:Binds K fd ["_law_found","_law_due"] [])(F:bI K "_law_same" "_law_same" uI f fd):a_ P w K mg base aJ 5 f fd ["_law_found","_law_due"] (aO K jG):=by
 have sc:=Fb;have st:∀(k:Nat) G,a_ P w K mg base aJ (k+1) f fd ["_law_found","_law_due"] (aO K G)->a_ P w K mg base aJ (k+1+1) f fd ["_law_found","_law_due"] (aO K (b6 2 2 (g_ G))):=λk G JI=>by
  refine d7 F Fb λaT A outer s H E hr=>?_
  have hu:=c9 hr;exact(aZ (fz (gm (Oo M5 Ob jl jr (ai 1))) (aZ (fz (FW.ft (tE (jU (gm (Oo M5 Ob jl jr (ai 0)))) (sF (wO (ic c8 (ai 0)) (ic c8 (ai 1)))))) (bg (cH kP)) e_) (bg (cH (sM rfl iI (iV (M:=["_law_k","_law_found","_law_due"]) (js:=[none,some 0,some 1]) (is:=[0]) (gJ (N:=["_law_found","_law_due"]) (eU:=aV uI) rfl rfl rfl (by decide +kernel)) rfl (rX gj (ic c8 (ai 1))) (by decide) λs3 H3 fp=>⟨(bY 0 (show(["_law_k","_law_found","_law_due"]:List Str).Nodup by decide +kernel)),kJ,(bK JI (hr.mono (by omega)) s_ sW sC (ao (kM (ai 1) (ai 0)) (ao (kM (ai 2) (ai 0)) aR)))⟩))))) e_) (aZ (fz (gm (oJ Ly jl e9 (ai 1))) (aZ (fz (FW.ft (tE (jU (gm (oJ Ly jl e9 (ai 0)))) (sF (wO (ic c8 (ai 0)) (ic c8 (ai 1)))))) (bg (cH kP)) e_) (bg (cH (sM rfl iI (iV (M:=["_law_k","_law_found","_law_due"]) (js:=[none,some 0,some 1]) (is:=[0]) (gJ (N:=["_law_found","_law_due"]) (eU:=aV uI) rfl rfl rfl (by decide +kernel)) rfl (rX gj (ic c8 (ai 1))) (by decide) λs3 H3 fp=>⟨(bY 0 (show(["_law_k","_law_found","_law_due"]:List Str).Nodup by decide +kernel)),kJ,(bK JI (hr.mono (by omega)) s_ sW sC (ao (mX (ai 1) (ai 0)) (ao (mX (ai 2) (ai 0)) aR)))⟩))))) e_) (aZ (fz (Hy (ai 1) oX) (bg (cH (K5 (ai 0) oX))) e_) (aZ (fz (gm (oJ Ni jl zN (ai 1))) (bg (cH (sE (oJ Ni jl zN (ai 0)) (AM (yX (ai 0) (ai 1)))))) e_) (bg (cH (sE (oJ K9 jl nA (ai 0)) (sE (NV (oJ OG jl g_bool (ai 0))) (AM (yX (ai 0) (ai 1)))))))))))
 exact(st 3 _ (st 2 _ (st 1 _ (st 0 _ (PM F Fb)))))
noncomputable abbrev wI:Stmt:=top 41
theorem KY:cz ["_law_script","_law_left","_law_specs_here","_law_row_here","_law_cut","_law_waiting","_law_sheet_here","_law_due","_law_fitting","_law_changes","_law_line","_law_laid","_law_kinds","_law_turn","_law_found","_law_other","_law_k","_law_told"] ["_law_script"] (aV wI):=⟨rfl,rfl,rfl,by decide +kernel,rfl,by decide +kernel,by decide +kernel⟩
noncomputable def Q_:SF:=(aB (aM 1 (e1 DV (e1 (rB none (some 200)) (af 0)))) (aB (pY 2 (oF 1 xg aj)) (aB (pY 3 (oF 1 Ax (ah (af 2) aj))) (aB (ir 4 (xM 1 dX (eO (xP (e2 aX (e1 bX (af 3)) (eC (.int 1)))) fN))) (aB (pY 5 (oF 1 yf (ah (af 2) (ah (af 3) aj)))) (aB (aM 6 (aC oB (ah (af 2) (ah (af 3) aj)))) (aB (aM 7 (ck [none,some 2,some 3] (bh (af 5)) (gN 0) (tV (aC k_ (ah (af 1) (ah (af 2) (ah (af 0) aj))))) (af 0))) (aB (aM 8 (ck [none,some 2,some 6] (bh (af 7)) (gN 0) (tV (e2 iW (aC kj (ah (af 1) (ah (af 2) (ah (af 0) aj)))) (eC .aE))) (af 0))) (aB (aM 9 (aC yj (ah (af 2) aj))) (aB (aM 10 (vZ (af 3) (af 4))) (aB (aM 11 (wV (af 3) (af 4))) (aB (ir 12 (xM 1 dX (eO (xP (eC (.int 8))) fN))) (aB (bG (tV (e2 oEq (e2 vM (af 12) (eC (.int 1))) (eC (.int 1)))) (aM 10 (e1 gw (af 10))) bx) (aB (bG (tV (e2 oEq (e2 vM (af 12) (eC (.int 2))) (eC (.int 2)))) (aM 11 (e1 gw (af 11))) bx) (aB (bG (tV (e2 oEq (e2 vM (af 12) (eC (.int 4))) (eC (.int 4)))) (aM 5 (e1 gw (af 5))) bx) (aB (cP (iJ (eC (.int 2))) (gN 13) (aB (aM 14 (aC lM (ah (af 9) (ah (af 10) (ah (af 11) (ah (af 5) aj)))))) (aB (aM 15 (aC pZ (ah (af 9) (ah (af 10) (ah (af 11) (ah (af 5) aj)))))) (aB (bG (iz (dF (tV (aC jG (ah (af 14) (ah (af 7) aj))))) (dF (tV (aC jG (ah (af 15) (ah (af 8) aj)))))) (bT (eC (.bl false))) bx) (aB (lP 14) (lP 15)))))) (aB (cP (iJ (e1 bX (af 2))) (gN 16) (aB (aM 17 (cO (ah (bZ "Changes" "rank_of" qV (af 9) (ah (e2 aX (af 16) (eC (.int 1))) aj)) (ah (bZ "Changes" "leans_of" lY (af 9) (ah (e2 aX (af 16) (eC (.int 1))) aj)) (ah (bZ "Changes" "edits_of" jA (af 9) (ah (e2 aX (af 16) (eC (.int 1))) aj)) aj))))) (bG (dF (tV (aC jG (ah (af 17) (ah (cO (ah (cD (dQ (af 2) (af 16)) (eC (.int 0))) (ah (cD (dQ (af 2) (af 16)) (eC (.int 1))) (ah (cD (dQ (af 2) (af 16)) (eC (.int 2))) aj)))) aj))))) (bT (eC (.bl false))) bx))) (bT (e2 oEq (bZ "Changes" "many" jZ (af 9) aj) (e1 bX (af 2)))))))))))))))))))))
noncomputable def r6:List D->Option D:=b6 1 18 Q_
theorem abz(c8:mg "len"=none)(e9:mg "list"=none)(gj:mg "range"=none)(DL:mg "reversed"=none)(jr:mg "tuple"=none)(bF:ClsAt K "Changes" bz)(T5:FN P w K mg base aJ 5 "_law_specs" ["_law_left"] (mO K xg))(UT:FN P w K mg base aJ 2 "_law_row" ["_law_left","_law_specs_here"] (mO K Ax))(qf:FN P w K mg base aJ 1 "_law_take" ["_law_left","_law_many"] (pD K dX))(YW:FN P w K mg base aJ 2 "_law_rest" ["_law_left","_law_specs_here","_law_row_here"] (mO K yf))(GS:FN P w K mg base aJ 1 "_law_sheet" ["_law_specs_here","_law_row_here"] (aO K oB))(DQ:FN P w K mg base aJ 1 "_law_free" ["_law_specs_here","_law_there","_law_number"] (aO K k_))(BH:FN P w K mg base aJ 1 "_law_unfit" ["_law_specs_here","_law_sheet_here","_law_number"] (aO K kj))(WK:FN P w K mg base aJ 5 "_law_added" ["_law_specs_here"] (aO K yj))(Gy:FN P w K mg base aJ 5 "free" ["changes","line","laid","waiting"] (aO K lM))(O9:FN P w K mg base aJ 7 "layable" ["changes","line","laid","waiting"] (aO K pZ))(Xx:FN P w K mg base aJ 5 "_law_same" ["_law_found","_law_due"] (aO K jG))(uz:MT P w K mg base aJ 4 bz "edits_of" ["self","number"] (aO K jA))(Cp:MT P w K mg base aJ 4 bz "leans_of" ["self","number"] (aO K lY))(VH:MT P w K mg base aJ 4 bz "rank_of" ["self","number"] (aO K qV))(vC:MT P w K mg base aJ 1 bz "many" ["self"] (aO K jZ))(F:bI K "law" "law" wI f fd):a_ P w K mg base aJ 8 f fd ["_law_script"] (aO K r6):=by
 obtain⟨_,_,RK,Vc,abY,Us⟩:=T5;obtain⟨_,_,UU,aat,abS,acO⟩:=UT;obtain⟨_,_,kT,kN,ko,kY⟩:=qf;obtain⟨_,_,SX,XA,acL,TQ⟩:=YW;obtain⟨_,_,Bq,G0,BI,Fo⟩:=GS;obtain⟨_,_,ET,Cb,Dk,Hh⟩:=DQ;obtain⟨_,_,Gj,BC,DE,Fl⟩:=BH;obtain⟨_,_,VA,Ud,WR,aa5⟩:=WK;obtain⟨_,_,Em,A3,Bk,Ge⟩:=Gy;obtain⟨_,_,aaX,Wl,Ws,aaq⟩:=O9;obtain⟨_,_,Dt,s_,sW,sC⟩:=Xx;obtain⟨_,_,uU,vX,wN⟩:=uz;obtain⟨_,_,Dn,CT,Fp⟩:=Cp;obtain⟨_,_,Te,UY,RZ⟩:=VH;obtain⟨_,_,tG,sU,rK⟩:=vC;have sc:=KY;refine d7 F KY λaT A outer s H E hr=>?_
 have hu:=c9 hr;exact(aZ (cE 1 (acD rfl e9 DL (K7 M9 Ld (ai 0))) sc.nd) (aZ (Hl 2 (Hx 1 RK (hr.mono (by decide)) Vc abY Us aR) sc.nd) (aZ (Hl 3 (Hx 1 UU (hr.mono (by decide)) aat abS acO (ao (ai 2) aR)) sc.nd) (aZ (rQ 4 (oM 1 kT (hr.mono (by decide)) kN ko kY (pC (lA (gF (ic c8 (ai 3)) aF)) oK)) sc.nd) (aZ (Hl 5 (Hx 1 SX (hr.mono (by decide)) XA acL TQ (ao (ai 2) (ao (ai 3) aR))) sc.nd) (aZ (cE 6 (bK Bq (hr.mono (by decide)) G0 BI Fo (ao (ai 2) (ao (ai 3) aR))) sc.nd) (aZ (uA 7 (hN:=sc.nd) (M:=["_law_number","_law_specs_here","_law_row_here"]) (js:=[none,some 2,some 3]) (is:=[0]) (gJ (N:=["_law_script","_law_left","_law_specs_here","_law_row_here","_law_cut","_law_waiting","_law_sheet_here","_law_due","_law_fitting","_law_changes","_law_line","_law_laid","_law_kinds","_law_turn","_law_found","_law_other","_law_k","_law_told"]) (eU:=aV wI) rfl rfl rfl (by decide +kernel)) rfl (fC (ai 5)) (by decide) λs3 H3 fp=>⟨(bY 0 (show(["_law_number","_law_specs_here","_law_row_here"]:List Str).Nodup by decide +kernel)),(nq (gm (bK ET (hr.mono (by decide)) Cb Dk Hh (ao (ai 1) (ao (ai 2) (ao (ai 0) aR)))))),(ai 0)⟩) (aZ (uA 8 (hN:=sc.nd) (M:=["_law_number","_law_specs_here","_law_sheet_here"]) (js:=[none,some 2,some 6]) (is:=[0]) (gJ (N:=["_law_script","_law_left","_law_specs_here","_law_row_here","_law_cut","_law_waiting","_law_sheet_here","_law_due","_law_fitting","_law_changes","_law_line","_law_laid","_law_kinds","_law_turn","_law_found","_law_other","_law_k","_law_told"]) (eU:=aV wI) rfl rfl rfl (by decide +kernel)) rfl (fC (ai 7)) (by decide) λs3 H3 fp=>⟨(bY 0 (show(["_law_number","_law_specs_here","_law_sheet_here"]:List Str).Nodup by decide +kernel)),(nq (Hy (bK Gj (hr.mono (by decide)) BC DE Fl (ao (ai 1) (ao (ai 2) (ao (ai 0) aR)))) oX)),(ai 0)⟩) (aZ (cE 9 (bK VA (hr.mono (by decide)) Ud WR aa5 (ao (ai 2) aR)) sc.nd) (aZ (cE 10 (SQ (ai 3) (ai 4)) sc.nd) (aZ (cE 11 (Y4 (ai 3) (ai 4)) sc.nd) (aZ (rQ 12 (oM 1 kT (hr.mono (by decide)) kN ko kY (pC (lA aF) oK)) sc.nd) (aZ (fz (mH (Er (ai 12) aF) aF) (bg (cE 10 (sA jr (ai 10)) sc.nd)) e_) (aZ (fz (mH (Er (ai 12) aF) aF) (bg (cE 11 (sA jr (ai 11)) sc.nd)) e_) (aZ (fz (mH (Er (ai 12) aF) aF) (bg (cE 5 (sA jr (ai 5)) sc.nd)) e_) (aZ (jY rfl (rX gj aF) (bY 13 sc.nd) (aZ (cE 14 (bK Em (hr.mono (by decide)) A3 Bk Ge (ao (ai 9) (ao (ai 10) (ao (ai 11) (ao (ai 5) aR))))) sc.nd) (aZ (cE 15 (bK aaX (hr.mono (by decide)) Wl Ws aaq (ao (ai 9) (ao (ai 10) (ao (ai 11) (ao (ai 5) aR))))) sc.nd) (aZ (fz (FW.ft (tE (jU (gm (bK Dt (hr.mono (by decide)) s_ sW sC (ao (ai 14) (ao (ai 7) aR))))) (sF (jU (gm (bK Dt (hr.mono (by decide)) s_ sW sC (ao (ai 15) (ao (ai 8) aR)))))))) (bg (cH kP)) e_) (aZ (Ju 14) (bg (Ju 15))))))) (aZ (jY rfl (rX gj (ic c8 (ai 2))) (bY 16 sc.nd) (aZ (cE 17 (kc (ao (j3 bF RZ Te (hr.mono (by decide)) UY (ai 9) (ao (gF (ai 16) aF) aR)) (ao (j3 bF Fp Dn (hr.mono (by decide)) CT (ai 9) (ao (gF (ai 16) aF) aR)) (ao (j3 bF wN uU (hr.mono (by decide)) vX (ai 9) (ao (gF (ai 16) aF) aR)) aR)))) sc.nd) (bg (fz (jU (gm (bK Dt (hr.mono (by decide)) s_ sW sC (ao (ai 17) (ao (kc (ao (mD (mX (ai 2) (ai 16)) aF) (ao (mD (mX (ai 2) (ai 16)) aF) (ao (mD (mX (ai 2) (ai 16)) aF) aR)))) aR))))) (bg (cH kP)) e_)))) (bg (cH (yX (xE bF rK tG (hr.mono (by decide)) sU (ai 9)) (ic c8 (ai 2))))))))))))))))))))))
end K31
namespace K31
open PySem L2 L2.Ev
theorem Mn:gx [.int v,.int a,.int b]=some (.bl (decide (a<=v)&&decide (v<=b))):=by
 refine dU rfl ?_;show Ec [some (.int v,.sh []),some (.int a,.sh []),some (.int b,.sh [])]=_;unfold Ec;have q1:e1 (gp "int") (af 0) [some (.int v,.sh []),some (.int a,.sh []),some (.int b,.sh [])]=some (.bl true,.own):=rfl;have q2:e1 v7 (e1 (gp "bool") (af 0)) [some (.int v,.sh []),some (.int a,.sh []),some (.int b,.sh [])]=some (.bl true,.own):=rfl;rw[eV,vg,q1,uq,vg,q2,uq]
 by_cases h:a<=v
 .have e1:oLe (.int a) (.int v)=some (.bl true):=by rw[Jy,ab5 h]
  have:pI oLe oLe (af 1) (af 0) (af 2) [some (.int v,.sh []),some (.int a,.sh []),some (.int b,.sh [])]=some (.bl (decide (v<=b)),.own):=by
   unfold pI;show(match oLe (.int a) (.int v) with|some (.bl true)=>(oLe (.int v) (.int b)).map (λd=>(d,Tag.own))|some (.bl false)=>some (.bl false,.own)|_=>none)=_;rw[e1]<;>rfl
  rw[this,ab5 h];rfl
 .have e1:oLe (.int a) (.int v)=some (.bl false):=by rw[Jy,ada h]
  have:pI oLe oLe (af 1) (af 0) (af 2) [some (.int v,.sh []),some (.int a,.sh []),some (.int b,.sh [])]=some (.bl false,.own):=by
   unfold pI;show(match oLe (.int a) (.int v) with|some (.bl true)=>(oLe (.int v) (.int b)).map (λd=>(d,Tag.own))|some (.bl false)=>some (.bl false,.own)|_=>none)=_;rw[e1]<;>rfl
  rw[this,ada h];rfl
noncomputable def iL(l:List Int):D:=.lst (l.map D.int)
noncomputable abbrev Ed:=Int×Int×Int
noncomputable def dT(p:Ed):D:=.tup [.int p.1,.int p.2.1,.int p.2.2]
noncomputable def eL(E:List Ed):D:=.lst (E.map dT)
theorem tN:∀E:List Ed,aN (E.map dT)=true
 |[]=>rfl
 |p::r=>by rw[aaH];unfold aN;rw[tN r];rfl
theorem Lo:∀bs:List Bool,jy (bs.map D.bl)=some bs
 |[]=>rfl
 |b::r=>by rw[aaH];unfold jy;rw[Lo r];rfl
theorem KE{bs:List Bool}:jB (.lst (bs.map D.bl))=some (.bl (bs.all id)):=by
 show(jy (bs.map D.bl)).map (λbs=>D.bl (bs.all id))=_;rw[Lo];rfl
theorem nW{α β:Type}(f:α->β):∀l:List α,l.filterMap (λx=>some (f x))=l.map f
 |[]=>rfl
 |a::l=>by rw[ad1,aaH];show _::_=_;rw[nW f l]
noncomputable abbrev g2:GF:=gT (b_ (gN 0) (b_ (gN 1) i7))
theorem size_le(h:n<=10000):n<sizeLine:=by unfold sizeLine;omega
theorem ON{k:Nat}(hk:k<=ds.length):cutD ds (some (k:Int)) none=ds.drop k:=by
 unfold cutD;rw[HT.E4,HT.BV,aeI hk,aer (by rw[List.length_drop];exact abW _)]
theorem QK{k:Nat}(hk:k<=ds.length):cutD ds none (some (k:Int))=ds.take k:=by
 unfold cutD;rw[HT.E4,HT.BV,aeI hk];rfl
theorem ab2{ds:List D}:cutD ds (some 1) none=ds.drop 1:=by
 cases ds with
 |nil=>rfl
 |cons a r=>exact ON (by simp)
noncomputable def nC:List Int->Bool
 |x::y::r=>decide (x<y)&&nC (y::r)
 |_=>true
theorem Lk:∀l:List Int,((l.zip (l.drop 1)).map λp=>decide (p.1<p.2)).all id=nC l
 |[]=>rfl
 |[_]=>rfl
 |x::y::r=>by
  have ih:=Lk (y::r);show(decide (x<y)&&(((y::r).zip ((y::r).drop 1)).map λp=>decide (p.1<p.2)).all id)=_;rw[ih];rfl
theorem Bh:∀{l:List Int},l.Pairwise (· < ·)->nC l=true
 |[],_=>rfl
 |[_],_=>rfl
 |x::y::r,h=>by
  obtain⟨h1,h2⟩:=aeA.mp h;show(decide (x<y)&&nC (y::r))=true;rw[Bh h2,ab5 (h1 y aaF)];rfl
theorem M3(hl:l.length<=100):pH [iL l]=some (.bl (nC l)):=by
 refine dU rfl ?_;show B6 [some (iL l,.sh [])]=_;unfold B6;have v0:af 0 [some (iL l,.sh [])]=some (iL l,.sh []):=rfl;have q1:e1 (rB (some 1) none) (af 0) [some (iL l,.sh [])]=some (iL (l.drop 1),.own):=by
  rw[eE,v0,eT];show Option.map _ (if aN (l.map D.int)=true then some (D.lst (cutD (l.map D.int) (some 1) none)) else none)=_;rw[if_pos (gU l),ab2,<- List.map_drop];rfl
 have hz:wQ (af 0) (e1 (rB (some 1) none) (af 0)) [some (iL l,.sh [])]=some (((l.zip (l.drop 1)).map λp=>D.tup [.int p.1,.int p.2]),iN [(iL l,.sh []),(iL (l.drop 1),.own)]):=by
  unfold wQ;rw[v0,q1];show(if(aN (l.map D.int)&&aN ((l.drop 1).map D.int))=true then some (((l.map D.int).zip ((l.drop 1).map D.int)).map λp=>D.tup [p.1,p.2],iN [(iL l,.sh []),(iL (l.drop 1),.own)]) else none)=_;rw[if_pos (by rw[gU,gU];rfl),List.zip_map,adS];rfl
 have st:∀a b:Int,iK g2 dG (e2 oLt (af 0) (af 1)) [none,none] (.tup [.int a,.int b])=some (some (.bl (decide (a<b)))):=λa b=>by
  refine lO (aG:=[some (.int a,.own),some (.int b,.own)]) rfl rfl ?_;show k2 oLt (some (.int a,.own)) (some (.int b,.own))=_;rw[cg,UM];rfl
 have hc:=mw (js:=[none,none]) (g:=g2) (tt:=dG) (te:=e2 oLt (af 0) (af 1)) (k:=λd=>match d with | .tup [.int a,.int b]=>some (.bl (decide (a < b))) | _=>none) hz (by rw[List.length_map,List.length_zip];exact size_le (by omega)) (λd m=>by
  obtain⟨⟨a,b⟩,mi,rfl⟩:=adi.mp m;exact st a b)
 rw[eV,eE,hc,eT,aeB];have e:(l.zip (l.drop 1)).filterMap ((λd=>match d with|.tup [.int a,.int b]=>some (.bl (decide (a<b)))|_=>none) ∘ λp:Int×Int=>D.tup [.int p.1,.int p.2])=((l.zip (l.drop 1)).map λp=>decide (p.1<p.2)).map D.bl:=by
  rw[adS];exact nW (λp:Int×Int=>D.bl (decide (p.1<p.2))) _
 rw[e,KE,Lk];rfl
theorem pR(hi:it ρ=some (ds,.sh []))(h:cX g (.sh []) f ds ρ=some (.nx au)):cP it g f ρ=some (.nx au):=AY hi h
theorem OT(hi:it ρ=some (ds,.sh []))(h:cX g (.sh []) f ds ρ=some (.rt r)):cP it g f ρ=some (.rt r):=Qc hi h
noncomputable def inR(v a b:Int):Bool:=decide (a<=v)&&decide (v<=b)
noncomputable def j4(p:Ed):Bool:=inR p.1 0 999&&inR p.2.1 0 1000000000&&inR p.2.2 0 1000000000&&!(p.2.1==p.2.2)
noncomputable def wM(E:List Ed):Bool:=E.all j4&&nC (E.map (·.1))
noncomputable abbrev gE:GF:=gT (b_ (gN 1) (b_ (gN 2) (b_ (gN 3) i7)))
noncomputable def bE:SF:=(aB (bG (dF (jh (tV (aC gx (ah (af 1) (ah (eC (.int 0)) (ah (eC (.int 999)) aj))))) (tV (aC gx (ah (af 2) (ah (eC (.int 0)) (ah (eC (.int 1000000000)) aj))))))) (bT (eC (.bl false))) bx) (bG (iz (dF (tV (aC gx (ah (af 3) (ah (eC (.int 0)) (ah (eC (.int 1000000000)) aj)))))) (tV (e2 oEq (af 2) (af 3)))) (bT (eC (.bl false))) bx))
theorem AI(h:af i ρ=some (.int v,t)):tV (aC gx (ah (af i) (ah (eC (.int a)) (ah (eC (.int b)) aj)))) ρ=some (inR v a b):=by
 rw[eY,s_call,br,br,br,h,eG,eG,fD,bO,bO,bO,eS];simp only[aaH,adn];rw[Mn];rfl
noncomputable def rE(L:D)(a b c:Int):aK:=[some (L,.sh []),some (.int a,.own),some (.int b,.own),some (.int c,.own)]
theorem Vm:bE (rE L a b c)=some (if j4 (a,b,c)=true then .nx (rE L a b c) else .rt (.bl false)):=by
 have w1:tV (aC gx (ah (af 1) (ah (eC (.int 0)) (ah (eC (.int 999)) aj)))) (rE L a b c)=some (inR a 0 999):=AI rfl;have w2:tV (aC gx (ah (af 2) (ah (eC (.int 0)) (ah (eC (.int 1000000000)) aj)))) (rE L a b c)=some (inR b 0 1000000000):=AI rfl;have w3:tV (aC gx (ah (af 3) (ah (eC (.int 0)) (ah (eC (.int 1000000000)) aj)))) (rE L a b c)=some (inR c 0 1000000000):=AI rfl;have w4:tV (e2 oEq (af 2) (af 3)) (rE L a b c)=some (b==c):=rfl;have c1:=ED w1 w2;have c2:=sQ (show dF (tV (aC gx (ah (af 3) (ah (eC (.int 0)) (ah (eC (.int 1000000000)) aj))))) (rE L a b c)=some (!inR c 0 1000000000) by rw[lC,w3];rfl) w4;unfold bE j4;rw[aW,eN,lC,c1];cases inR a 0 999<;>cases inR b 0 1000000000<;>try rfl
 show jH _ (bx _)=_;rw[gC,bf,eN,c2];cases inR c 0 1000000000<;>cases(b==c)<;>rfl
theorem Lg:∀{E:List Ed}{s1 s2 s3:Slot},∃AK YD VV,cX gE (.sh []) bE (E.map dT) [some (L,.sh []),s1,s2,s3]=some (if E.all j4=true then .nx [some (L,.sh []),AK,YD,VV] else .rt (.bl false))
 |[],s1,s2,s3=>⟨s1,s2,s3,rfl⟩
 |(a,b,c)::E,s1,s2,s3=>by
  obtain⟨t1,t2,t3,ih⟩:=Lg;refine⟨t1,t2,t3,?_⟩;rw[aaH];show(match bE (rE L a b c) with|some (.nx bS)=>cX gE (.sh []) bE (E.map dT) bS|some (.ct bS)=>cX gE (.sh []) bE (E.map dT) bS|some (.bk bS)=>some (.nx bS)|some (.rt r)=>some (.rt r)|some (.er raw cn bS)=>some (.er raw cn bS)|none=>none)=_;rw[Vm,List.all_cons];cases j4 (a,b,c) with
  |true=>rw[if_pos rfl,Bool.true_and];exact ih
  |false=>rfl
theorem f_are(hl:E.length<=100):vV [eL E]=some (.bl (wM E)):=by
 refine dU rfl ?_;show C6 [some (eL E,.sh []),none,none,none]=_;have e:C6=aB (cP (bh (af 0)) gE bE) (bT (aC pH (ah (ck [none] (bh (af 0)) (gN 0) dG (e2 cY (af 0) (eC (.int 0)))) aj))):=rfl;have hi:∀s1 s2 s3,bh (af 0) [some (eL E,.sh []),s1,s2,s3]=some (E.map dT,.sh []):=λ_ _ _=>rfl
 obtain⟨t1,t2,t3,sy⟩:=Lg (L:=eL E) (E:=E) (s1:=none) (s2:=none) (s3:=none);rw[e,aW];unfold wM;cases ha:E.all j4 with
 |false=>
  rw[ha] at sy;rw[OT (hi _ _ _) sy];rfl
 |true=>
  rw[ha] at sy;rw[pR (hi _ _ _) sy,bf,eV];have hc:=mw (js:=[none]) (g:=gN 0) (tt:=dG) (te:=e2 cY (af 0) (eC (.int 0))) (k:=λd=>match d with | .tup [.int a,.int _,.int _]=>some (.int a) | _=>none) (hi t1 t2 t3) (by rw[List.length_map];exact size_le (by omega)) (λd m=>by
   obtain⟨⟨a,b,c⟩,mi,rfl⟩:=adi.mp m;exact lO (aG:=[some (dT (a,b,c),.sh [])]) rfl rfl rfl)
  have e2:(E.map dT).filterMap (λd=>match d with|.tup [.int a,.int _,.int _]=>some (.int a)|_=>none)=(E.map (·.1)).map D.int:=by
   rw[aeB,adS];exact nW (λp:Ed=>D.int p.1) _
  rw[s_call,br,hc,e2,fD,bO,eS];simp only[aaH,adn];have:=M3 (l:=E.map (·.1)) (by rw[List.length_map];exact hl);unfold iL at this;rw[adS] at this ⊢;rw[this];rfl
noncomputable abbrev Ch:=Int×List Int×List Ed
noncomputable def ent(c:Ch):D:=.tup [.int c.1,.tup (c.2.1.map D.int),.tup (c.2.2.map dT)]
noncomputable def obj(C:List Ch):D:=.ins "Changes" [("entries",.lst (C.map ent))]
theorem Dq(c:Ch):aH (ent c)=true:=by
 unfold ent;show aN [.int c.1,.tup (c.2.1.map D.int),.tup (c.2.2.map dT)]=true;unfold aN;unfold aN;unfold aN;unfold aN;show(aH (.int c.1)&&(aN (c.2.1.map D.int)&&(aN (c.2.2.map dT)&&true)))=true;rw[gU,tN];rfl
theorem OH:∀C:List Ch,aN (C.map ent)=true
 |[]=>rfl
 |c::r=>by rw[aaH];unfold aN;rw[OH r,Dq];rfl
theorem E7{F:List D->Option D}{ps:List (D×Tag)}(h:fo ρ=some (.ins cn es,t))(hm:es.lookup m=none)(hg:g ρ=some ps)(hF:F (.ins cn es::ps.map (·.1))=some d):
  bZ cn m F fo g ρ=some (d,.own):=by
 unfold bZ;rw[h];dsimp only;rw[if_pos ⟨rfl,hm⟩,hg,adk,hF];rfl
theorem yw(h:(mm==("entries":Str))=false):([("entries",d)]:List (Str×D)).lookup mm=none:=by simp only[List.lookup,h]
theorem SK(C:List Ch):jZ [obj C]=some (.int C.length):=by
 refine dU rfl ?_;show FL [some (obj C,.sh [])]=_;have v:qI "Changes" "entries" (af 0) [some (obj C,.sh [])]=some (.lst (C.map ent),.sh []):=rfl;unfold FL;rw[eV,eE,v,eT,mE,List.length_map];rfl
theorem yP(h:af i ρ=some (obj C,t)):bZ "Changes" "many" jZ (af i) aj ρ=some (.int C.length,.own):=
 E7 h (yw (by decide)) fD (SK C)
theorem kG{F:List D->Option D}(h:af i ρ=some (obj C,t))(ha:fa ρ=some (x,t2))(hF:F [obj C,x]=some d)(hm:(mm==("entries":Str))=false:=by decide):
  bZ "Changes" mm F (af i) (ah fa aj) ρ=some (d,.own):=
 E7 (ps:=[(x,t2)]) h (yw hm) (by rw[br,ha,fD,bO]) hF
theorem ID(C:List Ch)(m:Int):mR [obj C,.int m]=some (.bl (inR m 1 C.length)):=by
 refine dU rfl ?_;show Ej [some (obj C,.sh []),some (.int m,.sh [])]=_;unfold Ej;have v1:af 1 [some (obj C,.sh []),some (.int m,.sh [])]=some (.int m,.sh []):=rfl;rw[eV,s_call,br,br,br,v1,eG,yP (C:=C) rfl,fD,bO,bO,bO,eS];simp only[aaH,adn];rw[Mn];rfl
noncomputable def tK(n:Nat)(r:Int)(l:List Int)(E:List Ed):Bool:=inR r 0 9&&(l.all (λx=>inR x 1 n)&&nC l)&&(decide ((E.length:Int)<=20)&&wM E)
theorem Yt(hl:l.length<=100)(hE:E.length<=100):qW [obj C,.int r,iL l,eL E]=some (.bl (tK C.length r l E)):=by
 refine dU rfl ?_;generalize sR:([some (obj C,.sh []),some (.int r,.sh []),some (iL l,.sh []),some (eL E,.sh [])]:aK)=ρ;show G4 [some (obj C,.sh []),some (.int r,.sh []),some (iL l,.sh []),some (eL E,.sh [])]=_;rw[sR];have v0:af 0 ρ=some (obj C,.sh []):=by rw[<- sR];rfl
 have v1:af 1 ρ=some (.int r,.sh []):=by rw[<- sR];rfl
 have v2:af 2 ρ=some (iL l,.sh []):=by rw[<- sR];rfl
 have v3:af 3 ρ=some (eL E,.sh []):=by rw[<- sR];rfl
 have q1:dF (tV (aC gx (ah (af 1) (ah (eC (.int 0)) (ah (eC (.int 9)) aj))))) ρ=some (!inR r 0 9):=by rw[lC,AI v1];rfl
 have hc:=mw (js:=[none,some 0]) (g:=gN 0) (tt:=dG) (te:=bZ "Changes" "has" mR (af 1) (ah (af 0) aj)) (k:=λd=>match d with | .int x=>some (.bl (inR x 1 C.length)) | _=>none) (it:=bh (af 2)) (ρ:=ρ) (rH v2) (by rw[List.length_map];exact size_le (by omega)) (λd m=>by
  obtain⟨x,mx,rfl⟩:=adi.mp m;refine lO (aG:=[some (.int x,.sh []),some (obj C,.sh [])]) ?_ rfl (kG (C:=C) (t:=.sh []) (t2:=.sh []) rfl rfl (ID C x));rw[<- sR];rfl)
 have q2:iz (dF (tV (e1 jB (ck [none,some 0] (bh (af 2)) (gN 0) dG (bZ "Changes" "has" mR (af 1) (ah (af 0) aj)))))) (dF (tV (aC pH (ah (af 2) aj)))) ρ=some ((!(l.all λx=>inR x 1 C.length))||!nC l):=by
  refine sQ ?_ ?_
  .have e:(l.map D.int).filterMap (λd=>match d with|.int x=>some (D.bl (inR x 1 C.length))|_=>none)=(l.map λx=>inR x 1 C.length).map D.bl:=by
    rw[aeB,adS];exact nW (λx=>D.bl (inR x 1 C.length)) _
   rw[lC,eY,eE,hc,eT,e,KE,List.all_map];rfl
  .rw[lC,eY,s_call,br,v2,fD,bO,eS];simp only[aaH,adn];rw[M3 hl];rfl
 have q3:e2 oLe (e1 bX (af 3)) (eC (.int 20)) ρ=some (.bl (decide ((E.length:Int)<=20)),.own):=by
  rw[bL,eE,v3,eG,eT];unfold eL;rw[mE,List.length_map];rfl
 have q4:aC vV (ah (af 3) aj) ρ=some (.bl (wM E),.own):=by
  rw[s_call,br,v3,fD,bO,eS];simp only[aaH,adn];rw[f_are hE];rfl
 unfold G4 tK;rw[aW,eN,q1];cases inR r 0 9 with
 |false=>rfl
 |true=>
  show jH _ (bx _)=_;rw[gC,bf,aW,eN,q2];generalize(l.all λx=>inR x 1 C.length)=b1;generalize nC l=b2;cases b1<;>cases b2<;>try rfl
  show jH _ (bx _)=_;rw[gC,bf,eV,vg,q3];cases decide ((E.length:Int)<=20) with
  |false=>rfl
  |true=>rw[uq,q4];rfl
theorem Ri(h1:fv ρ=some (d,t))(h2:ρ[i]? = some (some (.ins cn es,.own)))(hl:es.lookup f=some (.lst ds))(hc:(aH d&&aN ds&&decide (ds.length<sizeLine))=true):
  rJ i cn f fv ρ=some (.nx (cL ρ i (.ins cn (gW f (.lst (ds++[d])) es)))):=by
 unfold rJ;rw[h1,h2];dsimp only;rw[if_pos rfl,hl];dsimp only;rw[if_pos hc]
theorem ly(h:f ρ=some (.nx au)):cZ f ρ=some (.nx au):=by unfold cZ;rw[h]
theorem AA(hl:ds.length+1=n)(h:b (oH N d0 ds)=some (.rt (.tup [r,d1]))):runM n N b d0 ds=some (r,d1):=by unfold runM;rw[if_pos hl,h]
theorem abX(hl:l.length<=100)(hE:E.length<=100)(v0:af 0 ρ=some (obj C,t))(v1:af 1 ρ=some (.int r,.sh []))(v2:af 2 ρ=some (iL l,.sh []))(v3:af 3 ρ=some (eL E,.sh [])):
  dF (tV (bZ "Changes" "makes_change" qW (af 0) (ah (af 1) (ah (af 2) (ah (af 3) aj))))) ρ=some (!tK C.length r l E):=by
 rw[lC,eY,E7 v0 (yw (by decide)) (by rw[br,br,br,v1,v2,v3,fD,bO,bO,bO]) (Yt hl hE)];rfl
theorem ach(hE:E.length<=100)(v3:af 3 ρ=some (eL E,.sh [])):e1 gw (ck [none] (bh (af 3)) (gN 0) dG (e1 gw (af 0))) ρ=some (.tup (E.map dT),.own):=by
 have hc:=mw (js:=[none]) (g:=gN 0) (tt:=dG) (te:=e1 gw (af 0)) (rH v3) (by rw[List.length_map];exact size_le (by omega)) (λd m=>by
  obtain⟨⟨a,b,c⟩,mx,rfl⟩:=adi.mp m;exact lO rfl rfl rfl)
 have e:(E.map dT).filterMap (λd=>some d)=E.map dT:=by rw[nW (λd:D=>d)];exact List.map_id' _
 rw[eE,hc,e,eT];show Option.map _ (if aN (E.map dT)=true then some (D.tup (E.map dT)) else none)=_;rw[if_pos (tN E)];rfl
theorem TM(hl:l.length<=100)(hE:E.length<=100)(hm:tK C.length r l E=true)(hC:C.length<60):qL (obj C) [.int r,iL l,eL E]=some (.int (C.length+1),obj (C++[(r,l,E)])):=by
 have e:Cd [some (obj C,.own),some (.int r,.sh []),some (iL l,.sh []),some (eL E,.sh [])]=some (.rt (.tup [.int (C.length+1),obj (C++[(r,l,E)])])):=by
  unfold Cd;have q1:dF (tV (bZ "Changes" "makes_change" qW (af 0) (ah (af 1) (ah (af 2) (ah (af 3) aj))))) [some (obj C,.own),some (.int r,.sh []),some (iL l,.sh []),some (eL E,.sh [])]=some false:=by
   rw[abX hl hE rfl rfl rfl rfl,hm];rfl
  have q2:tV (e2 yh (bZ "Changes" "many" jZ (af 0) aj) (eC (.int 60))) [some (obj C,.own),some (.int r,.sh []),some (iL l,.sh []),some (eL E,.sh [])]=some false:=by
   rw[eY,bL,yP rfl,eG,cg,Xz,ada (by omega)];rfl
  have hv:∃t,je (ah (af 1) (ah (e1 gw (af 2)) (ah (e1 gw (ck [none] (bh (af 3)) (gN 0) dG (e1 gw (af 0)))) aj))) [some (obj C,.own),some (.int r,.sh []),some (iL l,.sh []),some (eL E,.sh [])]=some (ent (r,l,E),t):=by
   have v2:af 2 [some (obj C,.own),some (.int r,.sh []),some (iL l,.sh []),some (eL E,.sh [])]=some (.lst (l.map D.int),.sh []):=rfl;have v1:af 1 [some (obj C,.own),some (.int r,.sh []),some (iL l,.sh []),some (eL E,.sh [])]=some (.int r,.sh []):=rfl;rw[LM,br,br,br,ach hE rfl,fD,eE,v2,v1,eT,Oq];exact⟨_,rfl⟩
  obtain⟨t,hv⟩:=hv;have q3:cZ (rJ 0 "Changes" "entries" (je (ah (af 1) (ah (e1 gw (af 2)) (ah (e1 gw (ck [none] (bh (af 3)) (gN 0) dG (e1 gw (af 0)))) aj))))) [some (obj C,.own),some (.int r,.sh []),some (iL l,.sh []),some (eL E,.sh [])]=some (.nx [some (obj (C++[(r,l,E)]),.own),some (.int r,.sh []),some (iL l,.sh []),some (eL E,.sh [])]):=by
   refine(ly (Ri hv rfl rfl (by rw[Dq,OH,ab5 (by rw[List.length_map];exact size_le (by omega))];rfl))).trans ?_;have:obj (C++[(r,l,E)])=.ins "Changes" (gW "entries" (.lst (C.map ent++[ent (r,l,E)])) [("entries",.lst (C.map ent))]):=by
    unfold obj gW;rw[if_pos rfl,adG];rfl
   rw[this];rfl
  rw[aW,eN,q1,kg,gC,bf,aW,eN,q2,kg,gC,bf,aW,q3,bf];unfold yR;rw[yP rfl];rw[acZ];rfl
 exact AA rfl e
theorem vz(h1:-1000<=i)(h2:i<=1000):small i=true:=by
 unfold small;rw[ab5 (show -(2 ^ 62)<=i by omega),ab5 (show i<2 ^ 62 by omega)];rfl
noncomputable def cR(a:Int)(n:Nat):List Int:=(List.range n).map λi:Nat=>a+(i:Int)
theorem tQ:x∈cR a n↔a<=x/\x<a+n:=by
 unfold cR;rw[adi];constructor
 .rintro⟨i,m,rfl⟩
  have:=afw.mp m;omega
 .intro h;exact⟨(x-a).toNat,afw.mpr (by omega),by omega⟩
theorem ir2(h:f ρ=some (.int i,t))(h2:g ρ=some (.int j,t2))(hi:small i=true)(hj:small j=true):rT f g ρ=some ((cR i (j-i).toNat).map D.int,.own):=by
 unfold rT;rw[h,h2];dsimp only;rw[if_pos (by rw[hi,hj];rfl)];unfold cR;rw[adS];rfl
theorem tM(p:Int->Bool)(f:Int->Int):∀l:List Int,l.filterMap (λx=>if p x=true then some (D.int (f x)) else none)=((l.filter p).map f).map D.int
 |[]=>rfl
 |a::r=>by
  rw[ad1]
  by_cases hp:p a=true
  .rw[List.filter_cons_of_pos hp,if_pos hp,tM p f r];rfl
  .rw[List.filter_cons_of_neg hp,if_neg hp,tM p f r]
theorem Bc{l:List Int}{p:Int->Bool}{f:Int->Int}(hi:it ρ=some (l.map D.int,t))(hl:l.length<=10000)(h:∀x∈l,iK g tt te (jk js ρ) (.int x)=some (if p x=true then some (.int (f x)) else none)):
  ck js it g tt te ρ=some (iL ((l.filter p).map f),.own):=by
 have hc:=mw (k:=λd=>match d with | .int x=>if p x=true then some (.int (f x)) else none | _=>none) hi (by rw[List.length_map];exact size_le hl) (λd m=>by
  obtain⟨x,mx,rfl⟩:=adi.mp m;exact h x mx)
 rw[hc]
 congr 3
 clear hc h hi hl;rw[aeB];exact tM p f l
noncomputable def lean(L:List (List Int))(m:Int):List Int:=if 1<=m then(L[(m-1).toNat]?).getD [] else[]
structure Good(L:List (List Int)):Prop where
 ln:L.length<=60
 inc:∀m,(lean L m).Pairwise (· < ·)
 bd:∀m x,x∈lean L m->1<=x/\x<m/\m<=L.length
 i9:∀m,(lean L m).length<=60
noncomputable abbrev sec(C:List Ch):List (List Int):=C.map (·.2.1)
theorem KA{α:Type}{f:α->D}{L:List α}{m:Int}{l:α}(h1:1<=m)(h2:m<=L.length)(h:L[(m-1).toNat]? = some l):cS (L.map f) (m-1)=some (f l):=by
 unfold cS ku;rw[List.length_map];rw[if_pos (by omega),if_pos (by omega),adk,acX,h];rfl
theorem fld(L:List Ch)(ρ:aK)(t:Tag)(h:ρ[0]? = some (some (obj L,.sh []))):qI "Changes" "entries" (af 0) ρ=some (.lst (L.map ent),.sh []):=by
 have v:af 0 ρ=some (obj L,.sh []):=by rw[Sk,h];rfl
 unfold qI;rw[v];rfl
noncomputable def ch(L:List Ch)(m:Int):Ch:=(L[(m-1).toNat]?).getD (0,[],[])
theorem TY(h1:1<=m)(h2:m<=L.length):L[(m-1).toNat]? = some (ch L m):=by
 unfold ch;rw[abL (by omega)];rfl
theorem Nl(h1:1<=m)(h2:m<=L.length):(ch L m).2.1=lean (sec L) m:=by
 unfold ch lean sec;rw[if_pos h1,acX,abL (by omega)];rfl
theorem DG(h1:1<=m)(h2:m<=L.length):kR [obj L,.int m]=some (ent (ch L m)):=by
 refine dU rfl ?_;show GR [some (obj L,.sh []),some (.int m,.sh [])]=_;unfold GR;have q:bZ "Changes" "has" mR (af 0) (ah (af 1) aj) [some (obj L,.sh []),some (.int m,.sh [])]=some (.bl true,.own):=kG rfl rfl (by rw[ID];unfold inR;rw[ab5 h1,ab5 h2];rfl);rw[aW,eN,lC,eY,q,V5];show jH _ (bx _)=_;rw[gC,bf,eV,bL,fld L _ .own rfl,bL];show lJ (k2 cY (some (.lst (L.map ent),.sh [])) (some (.int (m-1),.own)))=_;rw[cg,NC (KA h1 h2 (TY h1 h2)) (Dq _)];rfl
theorem JM(h1:1<=m)(h2:m<=L.length):lY [obj L,.int m]=some (iL (lean (sec L) m)):=by
 refine dU rfl ?_;show A6 [some (obj L,.sh []),some (.int m,.sh [])]=_;unfold A6;have q:bZ "Changes" "entry_of" kR (af 0) (ah (af 1) aj) [some (obj L,.sh []),some (.int m,.sh [])]=some (ent (ch L m),.own):=kG rfl rfl (DG h1 h2);rw[eV,eE,bL,q,eG,cg];have e:cY (ent (ch L m)) (.int 1)=some (.tup ((ch L m).2.1.map D.int)):=by
  show(if aH (D.tup ((ch L m).2.1.map D.int))=true then some (D.tup ((ch L m).2.1.map D.int)) else none)=_;rw[if_pos (by simp only[aH,gU])]
 rw[e,gY,eT,Jh,Nl h1 h2];rfl
noncomputable def bV(L:List Ch)(m:Int):List Ed:=(ch L m).2.2
theorem Ce(h1:1<=m)(h2:m<=L.length):jA [obj L,.int m]=some (eL (bV L m)):=by
 refine dU rfl ?_;show Ek [some (obj L,.sh []),some (.int m,.sh [])]=_;unfold Ek;have q:bZ "Changes" "entry_of" kR (af 0) (ah (af 1) aj) [some (obj L,.sh []),some (.int m,.sh [])]=some (ent (ch L m),.own):=kG rfl rfl (DG h1 h2);rw[eV,eE,bL,q,eG,cg];have e:cY (ent (ch L m)) (.int 2)=some (.tup ((ch L m).2.2.map dT)):=by
  show(if aH (D.tup ((ch L m).2.2.map dT))=true then some (D.tup ((ch L m).2.2.map dT)) else none)=_;rw[if_pos (show aH (D.tup _)=true from tN _)]
 have hy:iO (.tup ((ch L m).2.2.map dT))=some (eL (bV L m)):=by
  show(if aN ((ch L m).2.2.map dT)=true then some (D.lst ((ch L m).2.2.map dT)) else none)=_;rw[if_pos (tN _)];rfl
 rw[e,gY,eT,hy];rfl
theorem Fd(h:e ρ=some (.int n,t))(hs:n<=1000):iJ e ρ=some ((cR 0 n).map D.int,.own):=by
 rw[zQ h (vz (by omega) (by omega)),aeu];unfold cR;rw[adS];rfl
theorem Lp{l:List Int}:l.any (· == m)=decide (m∈l):=by
 by_cases h:m∈l
 .rw[ab5 h];exact aeQ.mpr ⟨m,h,by simp⟩
 .rw[ada h,aeZ];intro e;obtain⟨y,my,ey⟩:=aeQ.mp e;exact h (by rw[<- (afy.mp ey)];exact my)
theorem Pq{bs:List Bool}:jB (.lst (bs.map D.bl))=some (.bl (bs.all id)):=by
 have e:jy (bs.map D.bl)=some bs:=by
  induction bs with
  |nil=>rfl
  |cons b r ih=>rw[aaH];unfold jy;rw[ih];rfl
 show(jy (bs.map D.bl)).map (λbs=>D.bl (bs.all id))=_;rw[e];rfl
theorem x_{te:EF}{ρ:aK}{l:List Int}{p:Int->Bool}(hi:it ρ=some (l.map D.int,t))(hl:l.length<=10000)(h:∀x∈l,iK g dG te (jk js ρ) (.int x)=some (some (.bl (p x)))):
  e1 jB (ck js it g dG te) ρ=some (.bl (l.all p),.own):=by
 have hc:=mw (k:=λd=>match d with | .int x=>some (.bl (p x)) | _=>none) hi (by rw[List.length_map];exact size_le hl) (λd m=>by
  obtain⟨x,mx,rfl⟩:=adi.mp m;exact h x mx)
 rw[eE,hc,eT,aeB];have e:l.filterMap ((λd=>match d with|D.int x=>some (D.bl (p x))|_=>none) ∘ D.int)=(l.map p).map D.bl:=by
  rw[adS];exact nW (λx=>D.bl (p x)) _
 rw[e,Pq,List.all_map];rfl
theorem WY(hx:af 0 aG=some (.int x,.sh []))(hh:fh aG=some (iL l,t)):e2 (jD false) (af 0) fh aG=some (.bl (decide (x∈l)),.own):=by
 rw[bL,hx,hh,cg];show(jD false (.int x) (.lst (l.map D.int))).map _=_;rw[JN,if_neg ab3,Lp];rfl
theorem zP:x∈ef l↔x∈l:=(rD l).mem_iff
structure pT(E:List Ed)(n:Nat):Prop where
 so:(E.map (·.1)).Pairwise (·<=·)
 ln:E.length<=n
theorem vR(h:n<4096):n<sizeLine:=by unfold sizeLine;omega
noncomputable def jQ(es:List (Int×Int))(p:Int×Int×Int):Bool:=!((bM es p.1).getD 0==p.2.1)
noncomputable def bad(es:List (Int×Int))(E:List (Int×Int×Int)):List Int:=(E.filter (jQ es)).map (·.1)
noncomputable def vG:List Int->D
 |[]=>.aE
 |x::_=>.int x
theorem Qi:∀{x:Int}{l:List Int},(x::l).Pairwise (·<=·)->jJ (x::l)=x
 |x,l,h=>by
  obtain⟨h1,h2⟩:=EA (l:=x::l) (by simp);have h3:=h2 x aaF;rcases abh.mp h1 with e|m
  .exact e
  .have:=(aeA.mp h).1 _ m;omega
noncomputable def kW(es:List (Int×Int)):D->Option D
 |.tup [.int a,.int b,.int c]=>if jQ es (a,b,c)=true then some (.int a) else none
 |_=>none
theorem Yj:∀p,kW es (dT p)=if jQ es p=true then some (D.int p.1) else none
 |(_,_,_)=>rfl
theorem Jx{E:List (Int×Int×Int)}(hE:pT E n)(hn:n<64)(w:List D->D)(hw:bh (af 1) [some (aP es,.sh []),some (w (E.map dT),.sh [])]=some (E.map dT,.sh [])):mQ [aP es,w (E.map dT)]=some (vG (bad es E)):=by
 refine dU rfl ?_;show Eo [some (aP es,.sh []),some (w (E.map dT),.sh [])]=_;have hc:=mw (js:=[none,none,none,some 0]) (g:=gT (b_ (gN 0) (b_ (gN 1) (b_ (gN 2) i7)))) (tt:=tV (e2 gD (e3 i_ (af 3) (af 0) (eC (.int 0))) (af 1))) (te:=af 0) (k:=kW es) hw (by rw[List.length_map];exact vR (by have:=hE.ln;omega)) (λd m=>by
  obtain⟨⟨a,b,c⟩,mi,rfl⟩:=adi.mp m;show _=some (if jQ es (a,b,c)=true then some (D.int a) else none);have ht:(tV (e2 gD (e3 i_ (af 3) (af 0) (eC (.int 0))) (af 1))) [some (.int a,.own),some (.int b,.own),some (.int c,.own),some (aP es,.sh [])]=some (jQ es (a,b,c)):=by
   rw[eY,bL,CO];show Ev.kV (k2 gD ((i_ (aP es) (.int a) (.int 0)).map _) _)=_;rw[Fv];rfl
  by_cases h:jQ es (a,b,c)=true
  .rw[if_pos h];exact wG (aG:=[some (.int a,.own),some (.int b,.own),some (.int c,.own),some (aP es,.sh [])]) (tg:=.sh [0]) rfl (by rw[ht,h]) rfl rfl
  .rw[if_neg h];exact wY (aG:=[some (.int a,.own),some (.int b,.own),some (.int c,.own),some (aP es,.sh [])]) rfl (by rw[ht,aeZ.mpr h]))
 have hb:(E.map dT).filterMap (kW es)=(bad es E).map D.int:=by
  clear hc hw hE;unfold bad
  induction E with
  |nil=>rfl
  |cons p r ih=>
   rw[aaH,ad1,List.filter_cons,Yj]
   by_cases h:jQ es p=true
   .rw[if_pos h,if_pos h];dsimp only;rw[ih];rfl
   .rw[if_neg h,if_neg h];exact ih
 rw[hb] at hc;unfold Eo;rw[eV,bL,hc];show lJ ((yd (.lst ((bad es E).map D.int)) .aE).map _)=_;have hs:(bad es E).Pairwise (·<=·):=by
  unfold bad;have:=hE.so;rw[List.pairwise_map] at this ⊢;exact this.filter _
 have:yd (.lst ((bad es E).map D.int)) .aE=some (vG (bad es E)):=by
  show(match dO ((bad es E).map D.int) with|some []=>if aH .aE=true then some D.aE else none|some (n::r)=>some (D.int (jJ (n::r)))|none=>none)=_;rw[uZ];cases e:bad es E with
  |nil=>rfl
  |cons x l=>
   dsimp only;rw[Qi (by rw[<- e];exact hs)];rfl
 rw[this];rfl
noncomputable def pV(es:List (Int×Int)):List Int:=(ef (es.map (·.1))).filter λk=>!((bM es k).getD 0==0)
noncomputable def nz(es:List (Int×Int)):List (Int×Int):=(pV es).map λk=>(k,(bM es k).getD 0)
noncomputable def kS(es:List (Int×Int)):D->Option D
 |.int i=>if(!((bM es i).getD 0==0))=true then some (dP (i,(bM es i).getD 0)) else none
 |_=>none
theorem X4(hl:es.length<4096):t_ [aP es]=some (.lst ((nz es).map dP)):=by
 refine dU rfl ?_;show D7 [some (aP es,.sh [])]=_;have hs:(e1 nR (af 0)) [some (aP es,.sh [])]=some (.lst ((ef (es.map (·.1))).map D.int),.own):=by
  rw[eE];show(nR (aP es)).map _=_;rw[P9 (by omega)];rfl
 have hc:=mw (js:=[none,some 0]) (g:=gN 0) (tt:=tV (e2 gD (e2 mq (af 1) (af 0)) (eC (.int 0)))) (te:=je (ah (af 0) (ah (e2 mq (af 1) (af 0)) aj))) (k:=kS es)
   (rH hs) (by rw[List.length_map,Ds,List.length_map];exact vR (by omega)) (λd m=>by
  obtain⟨i,mi,rfl⟩:=adi.mp m;obtain⟨w,hw⟩:=Hu.mpr (zP.mp mi);have hg:=ab9 hw;show _=some (if(!((bM es i).getD 0==0))=true then some (dP (i,(bM es i).getD 0)) else none);have ht:(tV (e2 gD (e2 mq (af 1) (af 0)) (eC (.int 0)))) [some (.int i,.sh []),some (aP es,.sh [])]=some (!((bM es i).getD 0==0)):=by
   rw[eY,bL,bL];show Ev.kV (k2 gD ((mq (aP es) (.int i)).map _) _)=_;rw[hg,hw];rfl
  by_cases h:(!((bM es i).getD 0==0))=true
  .rw[if_pos h];refine wG (aG:=[some (.int i,.sh []),some (aP es,.sh [])]) (tg:=.sh []) rfl (by rw[ht,h]) ?_ rfl;rw[LM,br,br,bL];show Option.map _ (uc _ (uc ((mq (aP es) (.int i)).map _) _))=_;rw[hg,hw];rfl
  .rw[if_neg h];exact wY (aG:=[some (.int i,.sh []),some (aP es,.sh [])]) rfl (by rw[ht,aeZ.mpr h]))
 unfold D7;rw[eV,hc,Wv]
 congr 3
 unfold nz pV;generalize ef (es.map (·.1))=l;clear hs hc
 induction l with
 |nil=>rfl
 |cons x r ih=>
  rw[aaH,ad1,List.filter_cons]
  by_cases h:(!((bM es x).getD 0==0))=true
  .rw[if_pos h,show kS es (.int x)=some (dP (x,(bM es x).getD 0)) from if_pos h];dsimp only;rw[ih];rfl
  .rw[if_neg h,show kS es (.int x)=none from if_neg h];exact ih
noncomputable def cJ(es:List (Int×Int))(E:List (Int×Int×Int)):List (Int×Int):=E.foldl (λm p=>fq m p.1 p.2.2) es
theorem Aj:∀(E:List (Int×Int×Int)) (es:List (Int×Int)),(cJ es E).length<=es.length+E.length
 |[],es=>abW _
 |p::r,es=>by
  have h:=Aj r (fq es p.1 p.2.2);have h2:=yZ (es:=es) (k:=p.1) (v:=p.2.2);show(cJ (fq es p.1 p.2.2) r).length<=es.length+(r.length+1);omega
theorem Co:∀(E:List (Int×Int×Int)) (es:List (Int×Int)),(es.map (·.1)).Nodup->((cJ es E).map (·.1)).Nodup
 |[],_,h=>h
 |p::r,es,h=>Co r _ (aaw h)
theorem JQ:∀(E:List (Int×Int×Int)) (es:List (Int×Int)) (k:Int),(E.map (·.1)).Nodup->(∀p∈E,p.1=k->bM (cJ es E) k=some p.2.2)/\(k∉E.map (·.1)->bM (cJ es E) k=bM es k)
 |[],es,k,_=>⟨λp m=>(nomatch m),λ_=>rfl⟩
 |q::r,es,k,h=>by
  obtain⟨h1,h2⟩:=acV.mp h;obtain⟨a,b⟩:=JQ r (fq es q.1 q.2.2) k h2;refine⟨λp m e=>?_,λm=>?_⟩
  .rcases abh.mp m with rfl|m
   .show bM (cJ (fq es p.1 p.2.2) r) k=_;rw[b (by rw[<- e];exact h1),FO,if_pos e.symm]
   .exact a p m e
  .show bM (cJ (fq es q.1 q.2.2) r) k=_;rw[aaH] at m;rw[b λx=>m (aaY _ x),FO,if_neg λx=>m (by rw[x];exact aaF)]
noncomputable def iM(S L:D)(es:List (Int×Int))(s3 s4 s5 s6 s7:Slot):aK:=[some (S,.sh []),some (L,.sh []),some (aP es,.own),s3,s4,s5,s6,s7]
noncomputable abbrev Bo:GF:=gT (b_ (gN 5) (b_ (gN 6) (b_ (gN 7) i7)))
noncomputable abbrev xH:SF:=gk 2 (af 5) (af 7)
theorem Im:∀{E:List (Int×Int×Int)}{es:List (Int×Int)}{s5 s6 s7:Slot},es.length+E.length<4096->∃s5' Sg Z8,cX Bo (.sh []) xH (E.map dT) (iM S L es (some (M,.sh [])) (some (.aE,.own)) s5 s6 s7)=some (.nx (iM S L (cJ es E) (some (M,.sh [])) (some (.aE,.own)) s5' Sg Z8))
 |[],es,s5,s6,s7,_=>⟨s5,s6,s7,rfl⟩
 |(a,b,c)::E,es,s5,s6,s7,hl=>by
  rw[acS] at hl;have hp:xH (iM S L es (some (M,.sh [])) (some (.aE,.own)) (some (.int a,.own)) (some (.int b,.own)) (some (.int c,.own)))=some (.nx (iM S L (fq es a c) (some (M,.sh [])) (some (.aE,.own)) (some (.int a,.own)) (some (.int b,.own)) (some (.int c,.own)))):=
   G7 rfl rfl rfl (vR (by omega))
  obtain⟨t5,t6,t7,ih⟩:=Im (E:=E) (es:=fq es a c) (by have:=yZ (es:=es) (k:=a) (v:=c);omega);refine⟨t5,t6,t7,?_⟩;rw[aaH,qX rfl hp];exact ih
theorem WD:k∈pV es↔(bM es k).getD 0≠0:=by
 unfold pV;rw[ad0];refine⟨λh=>by simpa using h.2,λh=>⟨zP.mpr (Hu.mp ?_),by simpa using h⟩⟩;cases e:bM es k with
 |none=>rw[e] at h;exact absurd rfl h
 |some v=>exact⟨v,rfl⟩
theorem YV(h:(es.map (·.1)).Nodup):(pV es).Nodup:=((rD _).nodup_iff.mpr h).sublist List.filter_sublist
theorem Vb:(nz es).map (·.1)=pV es:=by
 unfold nz;rw[adS];exact List.map_id' _
theorem OV(f:Int->Int)(k:Int):∀l:List Int,bM (l.map λk=>(k,f k)) k=if k∈l then some (f k) else none
 |[]=>rfl
 |x::r=>by
  have ih:=OV f k r;rw[aaH];unfold bM at ih ⊢;rw[adL]
  by_cases hx:x=k
  .rw[ab5 hx,if_pos (by rw[hx];exact aaF),hx];rfl
  .rw[ada hx];dsimp only;rw[ih];have:(k∈x::r)↔k∈r:=⟨λm=>(abh.mp m).elim (λe=>absurd e.symm hx) id,aaY _⟩
   simp only[this]
theorem ZJ(k:Int):(bM (nz es) k).getD 0=(bM es k).getD 0:=by
 unfold nz;rw[OV]
 by_cases h:k∈pV es
 .rw[if_pos h];rfl
 .rw[if_neg h];have:=mt WD.mpr h;simp only[ne_eq,Decidable.not_not] at this;rw[this];rfl
theorem O8(h:(es.map (·.1)).Nodup)(k:Int):(bM (jm (nz es)) k).getD 0=(bM es k).getD 0:=by
 rw[abP (by rw[Vb];exact YV h),ZJ]
noncomputable abbrev f7:=List (Int×Int)
noncomputable def iQ:f7->List (List Ed)->Option f7
 |v,[]=>some v
 |v,E::r=>if bad v E=[] then iQ (cJ v E) r else none
noncomputable abbrev G8(Z:SF):SF:=aB (aM 4 (aC mQ (ah (af 2) (ah (af 3) aj)))) (aB (bG (tV (e2 uT (af 4) (eC .aE))) Z bx) (cP (bh (af 3)) Bo xH))
theorem Qv(hE:pT E n)(hn:n<64):aM 4 (aC mQ (ah (af 2) (ah (af 3) aj))) (iM S L v (some (eL E,.sh [])) s4 s5 s6 s7)=some (.nx (iM S L v (some (eL E,.sh [])) (some (vG (bad v E),.own)) s5 s6 s7)):=by
 have hm:=Jx (es:=v) hE hn D.lst rfl;rw[eZ];show Ah 4 _ ((mQ [aP v,.lst (E.map dT)]).map _)=_;rw[hm];rfl
theorem Xf(hE:pT E n)(hn:n<64)(hb:bad v E=[])(hl:v.length<=3000):∃t5 t6 t7,G8 Z (iM S L v (some (eL E,.sh [])) s4 s5 s6 s7)=some (.nx (iM S L (cJ v E) (some (eL E,.sh [])) (some (.aE,.own)) t5 t6 t7)):=by
 have hle:=hE.ln;obtain⟨t5,t6,t7,uP⟩:=Im (M:=eL E) (E:=E) (es:=v) (s7:=s7) (by omega);refine⟨t5,t6,t7,?_⟩;have b1:=Qv (S:=S) (L:=L) (v:=v) (s4:=s4) (s5:=s5) (s6:=s6) (s7:=s7) hE hn;rw[hb] at b1;have b2:bG (tV (e2 uT (af 4) (eC .aE))) Z bx (iM S L v (some (eL E,.sh [])) (some (.aE,.own)) s5 s6 s7)=some (.nx (iM S L v (some (eL E,.sh [])) (some (.aE,.own)) s5 s6 s7)):=rfl;have b3:=pR (g:=Bo) (f:=xH) (it:=bh (af 3)) (ρ:=iM S L v (some (eL E,.sh [])) (some (.aE,.own)) s5 s6 s7) (ds:=E.map dT) rfl uP;unfold G8;rw[aW,b1];show jH _ (some (.nx (iM S L v (some (eL E,.sh [])) (some (.aE,.own)) s5 s6 s7)))=_;rw[bf,aW,b2,bf,b3]
theorem Lu:∀{Es:List (List Ed)}{v v':f7}{s3 s4 s5 s6 s7:Slot},(∀E∈Es,pT E 20)->iQ v Es=some v'->v.length+20*Es.length<=3000->
  ∃t3 t4 t5 t6 t7,cX (gN 3) (.sh []) (G8 Z) (Es.map eL) (iM S L v s3 s4 s5 s6 s7)=some (.nx (iM S L v' t3 t4 t5 t6 t7))/\v'.length<=v.length+20*Es.length
 |[],v,v',s3,s4,s5,s6,s7,_,h,_=>by
  cases h;exact⟨s3,s4,s5,s6,s7,rfl,by simp⟩
 |E::Es,v,v',s3,s4,s5,s6,s7,hE,h,hl=>by
  unfold iQ at h;rw[acS] at hl
  by_cases hb:bad v E=[]
  .rw[if_pos hb] at h;have NH:=hE E aaF;obtain⟨t5,t6,t7,hs⟩:=Xf (Z:=Z) NH (by omega) hb (by omega);have hp:=Aj E v;have i8:=NH.ln;obtain⟨u3,u4,u5,u6,u7,ih,ihl⟩:=Lu (Z:=Z) (λE' m=>hE E' (aaY _ m)) h (by omega);refine⟨u3,u4,u5,u6,u7,?_,by rw[acS];omega⟩;rw[aaH,qX rfl hs];exact ih
  .rw[if_neg hb] at h;cases h
noncomputable def dS(ps:f7):D:=.lst (ps.map dP)
theorem XU(hS:S=.lst []):aM 2 (e1 jd (af 0)) [some (S,.sh []),some (L,.sh []),none,none,none,none,none,none]=some (.nx (iM S L [] none none none none none)):=by subst hS;rfl
theorem UO{Es:List (List Ed)}(hE:∀E∈Es,pT E 20)(h:iQ [] Es=some v)(hl:Es.length<=100):ua [.lst [],.lst (Es.map eL)]=some (dS (nz v)):=by
 refine dU rfl ?_;generalize gG:(D.lst [])=S';generalize hL:(D.lst (Es.map eL))=L;show Cn [some (S',.sh []),some (L,.sh []),none,none,none,none,none,none]=_;obtain⟨t3,t4,t5,t6,t7,sy,OZ⟩:=Lu (Z:=pJ) (S:=S') (L:=L) (s3:=none) (s4:=none) (s5:=none) (s6:=none) (s7:=none) hE h (by simp;omega);have b:=pR (it:=bh (af 1)) (ρ:=iM S' L [] none none none none none) (ds:=Es.map eL) (by rw[<- hL];rfl) sy;unfold Cn;rw[aW,XU gG.symm,bf,aW,b,bf,eV];show lJ ((t_ [aP v]).map _)=_;rw[X4 (by simp at OZ;omega)];rfl
structure uE(w:List D->D):Prop where
 it:∀{ρ:aK}{i:Nat}{ds:List D}{o:List Nat},af i ρ=some (w ds,.sh o)->bh (af i) ρ=some (ds,.sh o)
theorem wL:uE D.lst:=⟨λ{ρ i ds o} h=>by unfold bh;rw[h]⟩
theorem wT:uE D.tup:=⟨λ{ρ i ds o} h=>by unfold bh;rw[h]⟩
noncomputable def dR(w:List D->D)(row:List Int):D:=w (row.map D.int)
noncomputable def iH(C:List Ch)(row:List Int):List (List Ed):=row.map (bV C)
theorem YE{w:List D->D}(W:uE w)(hb:∀x∈row,1<=x/\x<=C.length)(hl:row.length<=100):(ck [none,some 0] (bh (af 1)) (gN 0) dG (bZ "Changes" "edits_of" jA (af 1) (ah (af 0) aj))) [some (obj C,.sh []),some (dR w row,.sh [])]=some (.lst ((iH C row).map eL),.own):=by
 have hc:=mw (js:=[none,some 0]) (it:=bh (af 1)) (ρ:=[some (obj C,.sh []),some (dR w row,.sh [])]) (g:=gN 0) (tt:=dG) (te:=bZ "Changes" "edits_of" jA (af 1) (ah (af 0) aj)) (k:=λd=>match d with | .int x=>some (eL (bV C x)) | _=>none) (W.it rfl) (by rw[List.length_map];exact size_le (by omega)) (λd m=>by
  obtain⟨x,mx,rfl⟩:=adi.mp m;obtain⟨h1,h2⟩:=hb x mx;exact lO rfl rfl (kG rfl rfl (Ce h1 h2)))
 rw[hc,aeB];unfold iH;rw[adS];rw[show(row.filterMap ((λd=>match d with|D.int x=>some (eL (bV C x))|_=>none) ∘ D.int))=row.map (λx=>eL (bV C x)) from nW _ _];rfl
structure GoodC(C:List Ch):Prop where
 ld:Good (sec C)
 ed:∀m,pT (bV C m) 20
 sl:∀m,∀p∈bV C m,0<=p.1/\p.1<=999
 nd:∀m,((bV C m).map (·.1)).Nodup
 nb:∀m,∀p∈bV C m,0<=p.2.2/\p.2.2<=1000000000
theorem Tz(g:GoodC C)(row:List Int):∀E∈iH C row,pT E 20:=λE m=>by
 obtain⟨x,_,rfl⟩:=adi.mp m;exact g.ed x
theorem TV{w:List D->D}(W:uE w){row:List Int}(g:GoodC C)(hb:∀x∈row,1<=x/\x<=C.length)(hl:row.length<=100)(h:iQ [] (iH C row)=some v):uV [obj C,dR w row]=some (dS (nz v)):=by
 refine dU rfl ?_;show EL [some (obj C,.sh []),some (dR w row,.sh [])]=_;unfold EL;rw[eV,s_call,br,br,wB,fD,YE W hb hl,bO,gY,bO,eS];show lJ ((ua [.lst [],.lst ((iH C row).map eL)]).map _)=_;rw[UO (Tz g row) h (by unfold iH;rw[List.length_map];exact hl)];rfl
noncomputable def mix(c t m:Int):Int:=((c % 2147483629+11)*(982451653+57885161*t*t)) % 2147483629 % m
theorem jv(hm:0<m):0<=mix c t m/\mix c t m<m:=⟨Int.emod_nonneg _ (by omega),Int.emod_lt_of_pos _ hm⟩
theorem NR(h:-(2 ^ 64)<i/\i<2 ^ 64):nM i j=true:=by unfold nM;rw[ab5 h.1,ab5 h.2];rfl
theorem Sb(ht:0<=t/\t<=10000)(hm:0<m):bB [.int c,.int t,.int m]=some (.int (mix c t m)):=by
 refine dU rfl ?_;show Fz [some (.int c,.sh []),some (.int t,.sh []),some (.int m,.sh []),none]=_;have h0:=Int.emod_nonneg c (show(2147483629:Int)≠0 by omega);have h1:=Int.emod_lt_of_pos c (show(0:Int)<2147483629 by omega);generalize hM:(c % 2147483629+11)*(982451653+57885161*t*t)=M;have g1:aM 3 (e2 jo (e2 aX (e2 oMod (af 0) (eC (.int 2147483629))) (eC (.int 11))) (e2 aX (eC (.int 982451653)) (e2 jo (e2 jo (eC (.int 57885161)) (af 1)) (af 1)))) [some (.int c,.sh []),some (.int t,.sh []),some (.int m,.sh []),none]=some (.nx [some (.int c,.sh []),some (.int t,.sh []),some (.int m,.sh []),some (.int M,.own)]):=by
  have v0:af 0 [some (.int c,.sh []),some (.int t,.sh []),some (.int m,.sh []),none]=some (.int c,.sh []):=rfl;have v1:af 1 [some (.int c,.sh []),some (.int t,.sh []),some (.int m,.sh []),none]=some (.int t,.sh []):=rfl;rw[eZ,bL,bL,bL,bL,bL,bL,v0,v1,eG,eG,eG,eG,cg,Eb (by omega),gY,cg,tL,gY,cg,yK (NR (by omega)),gY,cg];rw[show jo (.int (57885161*t)) (.int t)=some (.int (57885161*t*t)) from yK (by unfold nM;rw[ab5 (show -(2 ^ 64)<t by omega),ab5 (show t<2 ^ 64 by omega)];simp),gY,cg,tL,gY,cg,yK (NR (by omega)),hM];rfl
 unfold Fz;rw[aW,g1,bf,eV];have v3:af 3 [some (.int c,.sh []),some (.int t,.sh []),some (.int m,.sh []),some (.int M,.own)]=some (.int M,.sh [3]):=rfl;have v2:af 2 [some (.int c,.sh []),some (.int t,.sh []),some (.int m,.sh []),some (.int M,.own)]=some (.int m,.sh []):=rfl;rw[bL,bL,v3,v2,eG,cg,Eb (by omega),gY,cg,Eb hm];unfold mix;rw[hM];rfl
theorem mx(h1:fc ρ=some (.int c,t1))(h2:ft ρ=some (.int t,t2))(h3:fm ρ=some (.int m,t3))(ht:0<=t/\t<=10000)(hm:0<m):aC bB (ah fc (ah ft (ah fm aj))) ρ=some (.int (mix c t m),.own):=by
 rw[s_call,br,br,br,h1,h2,h3,fD,bO,bO,bO,eS];simp only[aaH,adn];rw[Sb ht hm];rfl
theorem oq(h:f ρ=some (.int x,t)):e2 aX (eC (.int a)) f ρ=some (.int (a+x),.own):=by rw[bL,eG,h,cg,tL];rfl
structure Slots(S:List Int):Prop where
 inc:S.Pairwise (· < ·)
 bd:∀x∈S,0<=x/\x<=999
 ln:S.length<=20
theorem T7:∃S,qK [.int c]=some (iL S)/\Slots S:=by
 have p1:∃n:Nat,n<=20/\aM 1 (e2 cY (cO (ah (eC (.int 0)) (ah (eC (.int 1)) (ah (eC (.int 1)) (ah (eC (.int 1)) (ah (eC (.int 2)) (ah (eC (.int 3)) (ah (eC (.int 4)) (ah (eC (.int 20)) aj))))))))) (aC bB (ah (af 0) (ah (eC (.int 1)) (ah (eC (.int 8)) aj))))) [some (.int c,.sh []),none,none,none]=some (.nx [some (.int c,.sh []),some (.int (n:Int),.own),none,none]):=by
  obtain⟨h0,h8⟩:=jv (c:=c) (t:=1) (m:=8) (by omega);have e:=mx (ρ:=[some (.int c,.sh []),none,none,none]) (fc:=af 0) (ft:=eC (.int 1)) (fm:=eC (.int 8)) rfl rfl rfl (by omega) (by omega);generalize mix c 1 8=i at e h0 h8;have el:cO (ah (eC (.int 0)) (ah (eC (.int 1)) (ah (eC (.int 1)) (ah (eC (.int 1)) (ah (eC (.int 2)) (ah (eC (.int 3)) (ah (eC (.int 4)) (ah (eC (.int 20)) aj)))))))) [some (.int c,.sh []),none,none,none]=some (.lst [.int 0,.int 1,.int 1,.int 1,.int 2,.int 3,.int 4,.int 20],.own):=rfl;rw[eZ,bL,el,e,cg];have ci:i=0\/i=1\/i=2\/i=3\/i=4\/i=5\/i=6\/i=7:=by omega
  rcases ci with rfl|rfl|rfl|rfl|rfl|rfl|rfl|rfl
  .exact⟨0,by omega,rfl⟩
  .exact⟨1,by omega,rfl⟩
  .exact⟨1,by omega,rfl⟩
  .exact⟨1,by omega,rfl⟩
  .exact⟨2,by omega,rfl⟩
  .exact⟨3,by omega,rfl⟩
  .exact⟨4,by omega,rfl⟩
  .exact⟨20,by omega,rfl⟩
 obtain⟨n,hn,p1⟩:=p1;have p2:∃m:Int,(1<=m/\m<=1000)/\aM 2 (e2 cY (cO (ah (eC (.int 3)) (ah (eC (.int 5)) (ah (eC (.int 1000)) aj)))) (aC bB (ah (af 0) (ah (eC (.int 2)) (ah (eC (.int 3)) aj))))) [some (.int c,.sh []),some (.int (n:Int),.own),none,none]=some (.nx [some (.int c,.sh []),some (.int (n:Int),.own),some (.int m,.own),none]):=by
  obtain⟨h0,h8⟩:=jv (c:=c) (t:=2) (m:=3) (by omega);have e:=mx (ρ:=[some (.int c,.sh []),some (.int (n:Int),.own),none,none]) (fc:=af 0) (ft:=eC (.int 2)) (fm:=eC (.int 3)) (c:=c) (t:=2) (m:=3) (t1:=.sh []) (t2:=.own) (t3:=.own) rfl rfl rfl (by omega) (by omega);generalize mix c 2 3=i at e h0 h8;have el:cO (ah (eC (.int 3)) (ah (eC (.int 5)) (ah (eC (.int 1000)) aj))) [some (.int c,.sh []),some (.int (n:Int),.own),none,none]=some (.lst [.int 3,.int 5,.int 1000],.own):=rfl;rw[eZ,bL,el,e,cg];have ci:i=0\/i=1\/i=2:=by omega
  rcases ci with rfl|rfl|rfl
  .exact⟨3,by omega,rfl⟩
  .exact⟨5,by omega,rfl⟩
  .exact⟨1000,by omega,rfl⟩
 obtain⟨m,hm,p2⟩:=p2;have hc:=Bc (js:=[none,some 0,some 2]) (g:=gN 0) (tt:=dG) (te:=aC bB (ah (af 1) (ah (e2 aX (eC (.int 100)) (af 0)) (ah (af 2) aj)))) (p:=λ_=>true) (f:=λx=>mix c (100+x) m) (ρ:=[some (.int c,.sh []),some (.int (n:Int),.own),some (.int m,.own),none])
  (Fd (e:=af 1) (n:=n) (t:=.sh [1]) rfl (by omega)) (by unfold cR;rw[List.length_map,adm];omega) (λx cU=>by
   obtain⟨h1,h2⟩:=tQ.mp cU;rw[if_pos rfl];exact lO (aG:=[some (.int x,.sh []),some (.int c,.sh []),some (.int m,.sh [])]) rfl rfl (mx (c:=c) rfl (oq (t:=.sh []) rfl) rfl (by omega) (by omega)))
 generalize hL:((cR 0 n).filter λ_=>true).map (λx=>mix c (100+x) m)=L at hc;have i8:L.length=n:=by rw[<- hL,List.length_map,List.filter_eq_self.mpr (λ_ _=>rfl)];unfold cR;rw[List.length_map,adm]
 have PR:∀x∈L,0<=x/\x<=999:=λx cU=>by
  rw[<- hL] at cU;obtain⟨y,_,rfl⟩:=adi.mp cU;have:=jv (c:=c) (t:=100+y) (m:=m) (by omega);omega
 have p3:aM 3 (ck [none,some 0,some 2] (iJ (af 1)) (gN 0) dG (aC bB (ah (af 1) (ah (e2 aX (eC (.int 100)) (af 0)) (ah (af 2) aj))))) [some (.int c,.sh []),some (.int (n:Int),.own),some (.int m,.own),none]=some (.nx [some (.int c,.sh []),some (.int (n:Int),.own),some (.int m,.own),some (iL L,.own)]):=by
  rw[eZ,hc];rfl
 have os:qT (iL L)=some (iL (ef (mz L []))):=by
  unfold iL qT;dsimp only;rw[uZ];dsimp only;rw[if_pos (by omega)]
 refine⟨ef (mz L []),dU rfl ?_,MW NX,λx cU=>?_,?_⟩
 .show EN [some (.int c,.sh []),none,none,none]=_;unfold EN;rw[aW,p1,bf,aW,p2,bf,aW,p3,bf,eV,eE];show lJ (k1 qT (some (iL L,.sh [3])))=_;rw[eT,os];rfl
 .have:=zP.mp cU;rw[J6] at this;rcases this with h|h
  .exact PR x h
  .cases h
 .rw[Ds];have:=YH (a:=L) (b:=[]);simp at this;omega
noncomputable abbrev gV(es:f7)(k:Int):Int:=(bM es k).getD 0
structure Sh(es:f7):Prop where
 nd:(es.map (·.1)).Nodup
 bd:∀k,0<=gV es k/\gV es k<=1000000000
theorem Sh.nil:Sh []:=⟨ac1,λk=>by show(0:Int)<=0/\(0:Int)<=1000000000;omega⟩
noncomputable def cW(c:Int)(es:f7)(E:List Ed)(s3 s4 s5 s6:Slot):aK:=[some (.int c,.sh []),some (aP es,.sh []),some (eL E,.own),s3,s4,s5,s6]
noncomputable def FD:SF:=(aB (aM 4 (e3 i_ (af 1) (af 3) (eC (.int 0)))) (aB (bG (tV (e2 oEq (aC bB (ah (af 0) (ah (e2 aX (eC (.int 130)) (af 3)) (ah (eC (.int 8)) aj)))) (eC (.int 0)))) (aM 4 (aC bB (ah (af 0) (ah (eC (.int 3)) (ah (eC (.int 3)) aj))))) bx) (aB (aM 5 (cO (ah (eC (.int 0)) (ah (eC (.int 1)) (ah (aC bB (ah (af 0) (ah (e2 aX (eC (.int 140)) (af 3)) (ah (eC (.int 3)) aj)))) (ah (aC bB (ah (af 0) (ah (e2 aX (eC (.int 150)) (af 3)) (ah (e2 aX (e2 f6 (eC (.int 10)) (eC (.int 9))) (eC (.int 1))) aj)))) aj)))))) (aB (aM 6 (e2 cY (af 5) (aC bB (ah (af 0) (ah (e2 aX (eC (.int 160)) (af 3)) (ah (eC (.int 4)) aj)))))) (aB (bG (tV (e2 oEq (af 6) (af 4))) (aM 6 (mT (cO (ah (e2 aX (af 4) (eC (.int 1))) (ah (e2 fQ (af 4) (eC (.int 1))) aj))) (e1 sN (e2 oEq (af 4) (e2 f6 (eC (.int 10)) (eC (.int 9))))))) bx) (n6 2 (je (ah (af 3) (ah (af 4) (ah (af 6) aj))))))))))
theorem Pa(hs:Sh es)(hx:0<=x/\x<=999)(hE:E.length<=20):∃o n t5,FD (cW c es E (some (.int x,.sh [])) s4 s5 s6)=some (.nx (cW c es (E++[(x,o,n)]) (some (.int x,.sh [])) (some (.int o,.own)) t5 (some (.int n,.own))))/\j4 (x,o,n)=true:=by
 have v3:∀E s4 s5 s6,af 3 (cW c es E (some (.int x,.sh [])) s4 s5 s6)=some (.int x,.sh []):=λ_ _ _ _=>rfl
 have v0:∀E s4 s5 s6,af 0 (cW c es E (some (.int x,.sh [])) s4 s5 s6)=some (.int c,.sh []):=λ_ _ _ _=>rfl
 have g1:aM 4 (e3 i_ (af 1) (af 3) (eC (.int 0))) (cW c es E (some (.int x,.sh [])) s4 s5 s6)=some (.nx (cW c es E (some (.int x,.sh [])) (some (.int (gV es x),.own)) s5 s6)):=by
  rw[eZ,CO];show Ah 4 _ ((i_ (aP es) (.int x) (.int 0)).map _)=_;rw[Fv];rfl
 have g2:∃o,(0<=o/\o<=1000000000)/\bG (tV (e2 oEq (aC bB (ah (af 0) (ah (e2 aX (eC (.int 130)) (af 3)) (ah (eC (.int 8)) aj)))) (eC (.int 0)))) (aM 4 (aC bB (ah (af 0) (ah (eC (.int 3)) (ah (eC (.int 3)) aj))))) bx (cW c es E (some (.int x,.sh [])) (some (.int (gV es x),.own)) s5 s6)=some (.nx (cW c es E (some (.int x,.sh [])) (some (.int o,.own)) s5 s6)):=by
  have cc:tV (e2 oEq (aC bB (ah (af 0) (ah (e2 aX (eC (.int 130)) (af 3)) (ah (eC (.int 8)) aj)))) (eC (.int 0))) (cW c es E (some (.int x,.sh [])) (some (.int (gV es x),.own)) s5 s6)=some (mix c (130+x) 8==0):=by
   rw[eY,bL,mx rfl (oq (t:=.sh []) rfl) rfl (by omega) (by omega),eG,cg];rfl
  rw[eN,cc];cases(mix c (130+x) 8==0) with
  |false=>exact⟨gV es x,hs.bd x,rfl⟩
  |true=>
   have:=jv (c:=c) (t:=3) (m:=3) (by omega);refine⟨mix c 3 3,by omega,?_⟩;rw[oR,eZ,mx (c:=c) (t:=3) (t3:=.own) rfl rfl rfl (by omega) (by omega)];rfl
 obtain⟨o,ho,g2⟩:=g2;have k7:=jv (c:=c) (t:=140+x) (m:=3) (by omega);have gQ:=jv (c:=c) (t:=150+x) (m:=1000000001) (by omega);have hm3:=jv (c:=c) (t:=160+x) (m:=4) (by omega);have g3:aM 5 (cO (ah (eC (.int 0)) (ah (eC (.int 1)) (ah (aC bB (ah (af 0) (ah (e2 aX (eC (.int 140)) (af 3)) (ah (eC (.int 3)) aj)))) (ah (aC bB (ah (af 0) (ah (e2 aX (eC (.int 150)) (af 3)) (ah (e2 aX (e2 f6 (eC (.int 10)) (eC (.int 9))) (eC (.int 1))) aj)))) aj))))) (cW c es E (some (.int x,.sh [])) (some (.int o,.own)) s5 s6)=some (.nx (cW c es E (some (.int x,.sh [])) (some (.int o,.own)) (some (.lst [.int 0,.int 1,.int (mix c (140+x) 3),.int (mix c (150+x) 1000000001)],.own)) s6)):=by
  have a1:=mx (ρ:=cW c es E (some (.int x,.sh [])) (some (.int o,.own)) s5 s6) (fc:=af 0) (ft:=e2 aX (eC (.int 140)) (af 3)) (fm:=eC (.int 3)) (c:=c) (t:=140+x) (m:=3) (t1:=.sh []) (t2:=.own) (t3:=.own) rfl (oq (t:=.sh []) rfl) rfl (by omega) (by omega);have a2:=mx (ρ:=cW c es E (some (.int x,.sh [])) (some (.int o,.own)) s5 s6) (fc:=af 0) (ft:=e2 aX (eC (.int 150)) (af 3)) (fm:=e2 aX (e2 f6 (eC (.int 10)) (eC (.int 9))) (eC (.int 1))) (c:=c) (t:=150+x) (m:=1000000001) (t1:=.sh []) (t2:=.own) (t3:=.own) rfl (oq (t:=.sh []) rfl) (by kernel_rfl) (by omega) (by omega);rw[eZ,wB,br,br,br,br,a1,a2];rfl
 generalize RH:mix c (140+x) 3=k2 at g3 k7;generalize yD:mix c (150+x) 1000000001=k3 at g3 gQ;have g4:∃n0,(0<=n0/\n0<=1000000000)/\aM 6 (e2 cY (af 5) (aC bB (ah (af 0) (ah (e2 aX (eC (.int 160)) (af 3)) (ah (eC (.int 4)) aj))))) (cW c es E (some (.int x,.sh [])) (some (.int o,.own)) (some (.lst [.int 0,.int 1,.int k2,.int k3],.own)) s6)=some (.nx (cW c es E (some (.int x,.sh [])) (some (.int o,.own)) (some (.lst [.int 0,.int 1,.int k2,.int k3],.own)) (some (.int n0,.own)))):=by
  have a1:=mx (ρ:=cW c es E (some (.int x,.sh [])) (some (.int o,.own)) (some (.lst [.int 0,.int 1,.int k2,.int k3],.own)) s6) (fc:=af 0) (ft:=e2 aX (eC (.int 160)) (af 3)) (fm:=eC (.int 4)) (c:=c) (t:=160+x) (m:=4) (t1:=.sh []) (t2:=.own) (t3:=.own) rfl (oq (t:=.sh []) rfl) rfl (by omega) (by omega);have v5:af 5 (cW c es E (some (.int x,.sh [])) (some (.int o,.own)) (some (.lst [.int 0,.int 1,.int k2,.int k3],.own)) s6)=some (.lst [.int 0,.int 1,.int k2,.int k3],.sh [5]):=rfl;generalize mix c (160+x) 4=i at a1 hm3;rw[eZ,bL,a1,v5,cg];have ci:i=0\/i=1\/i=2\/i=3:=by omega
  rcases ci with rfl|rfl|rfl|rfl
  .exact⟨0,by omega,rfl⟩
  .exact⟨1,by omega,rfl⟩
  .exact⟨k2,by omega,rfl⟩
  .exact⟨k3,by omega,rfl⟩
 obtain⟨n0,hn0,g4⟩:=g4;have g5:∃n,(0<=n/\n<=1000000000)/\n≠o/\bG (tV (e2 oEq (af 6) (af 4))) (aM 6 (mT (cO (ah (e2 aX (af 4) (eC (.int 1))) (ah (e2 fQ (af 4) (eC (.int 1))) aj))) (e1 sN (e2 oEq (af 4) (e2 f6 (eC (.int 10)) (eC (.int 9))))))) bx (cW c es E (some (.int x,.sh [])) (some (.int o,.own)) (some (.lst [.int 0,.int 1,.int k2,.int k3],.own)) (some (.int n0,.own)))=some (.nx (cW c es E (some (.int x,.sh [])) (some (.int o,.own)) (some (.lst [.int 0,.int 1,.int k2,.int k3],.own)) (some (.int n,.own)))):=by
  have cc:tV (e2 oEq (af 6) (af 4)) (cW c es E (some (.int x,.sh [])) (some (.int o,.own)) (some (.lst [.int 0,.int 1,.int k2,.int k3],.own)) (some (.int n0,.own)))=some (n0==o):=rfl;rw[eN,cc]
  by_cases he:n0=o
  .subst he;rw[aeo,oR,eZ];have el:cO (ah (e2 aX (af 4) (eC (.int 1))) (ah (e2 fQ (af 4) (eC (.int 1))) aj)) (cW c es E (some (.int x,.sh [])) (some (.int n0,.own)) (some (.lst [.int 0,.int 1,.int k2,.int k3],.own)) (some (.int n0,.own)))=some (.lst [.int (n0+1),.int (n0-1)],.own):=rfl;have ep:e2 f6 (eC (.int 10)) (eC (.int 9)) (cW c es E (some (.int x,.sh [])) (some (.int n0,.own)) (some (.lst [.int 0,.int 1,.int k2,.int k3],.own)) (some (.int n0,.own)))=some (.int 1000000000,.own):=by kernel_rfl
   have v4:af 4 (cW c es E (some (.int x,.sh [])) (some (.int n0,.own)) (some (.lst [.int 0,.int 1,.int k2,.int k3],.own)) (some (.int n0,.own)))=some (.int n0,.sh [4]):=rfl;have ei:e1 sN (e2 oEq (af 4) (e2 f6 (eC (.int 10)) (eC (.int 9)))) (cW c es E (some (.int x,.sh [])) (some (.int n0,.own)) (some (.lst [.int 0,.int 1,.int k2,.int k3],.own)) (some (.int n0,.own)))=some (.int (if(n0==1000000000)=true then 1 else 0),.own):=by
    rw[eE,bL,v4,ep,cg];rfl
   unfold mT;rw[el,ei]
   by_cases hz:n0=1000000000
   .subst hz;exact⟨999999999,by omega,by omega,rfl⟩
   .rw[if_neg (by simpa using hz)];exact⟨n0+1,by omega,by omega,rfl⟩
  .rw[show(n0==o)=false from by simpa using he,kg,gC];exact⟨n0,hn0,he,rfl⟩
 obtain⟨n,hn,ie,g5⟩:=g5;refine⟨o,n,some (.lst [.int 0,.int 1,.int k2,.int k3],.own),?_,?_⟩
 .have g6:n6 2 (je (ah (af 3) (ah (af 4) (ah (af 6) aj)))) (cW c es E (some (.int x,.sh [])) (some (.int o,.own)) (some (.lst [.int 0,.int 1,.int k2,.int k3],.own)) (some (.int n,.own)))=some (.nx (cW c es (E++[(x,o,n)]) (some (.int x,.sh [])) (some (.int o,.own)) (some (.lst [.int 0,.int 1,.int k2,.int k3],.own)) (some (.int n,.own)))):=by
   show(if(aH (.tup [.int x,.int o,.int n])&&aN (E.map dT)&&decide ((E.map dT).length<sizeLine))=true then some (Out.nx (cL (cW c es E (some (.int x,.sh [])) (some (.int o,.own)) (some (.lst [.int 0,.int 1,.int k2,.int k3],.own)) (some (.int n,.own))) 2 (.lst (E.map dT++[.tup [.int x,.int o,.int n]])))) else none)=_;rw[if_pos (by rw[tN,List.length_map,ab5 (size_le (by omega))];rfl)];have:eL (E++[(x,o,n)])=.lst (E.map dT++[.tup [.int x,.int o,.int n]]):=by unfold eL;rw[adG];rfl
   unfold cW;rw[this];rfl
  unfold FD;rw[aW,g1,bf,aW,g2,bf,aW,g3,bf,aW,g4,bf,aW,g5,bf,g6]
 .unfold j4 inR;rw[ab5 hx.1,ab5 hx.2,ab5 ho.1,ab5 ho.2,ab5 hn.1,ab5 hn.2,show(o==n)=false from by simpa using λh=>ie h.symm];rfl
structure sY(E:List Ed):Prop where
 inc:(E.map (·.1)).Pairwise (· < ·)
 ok:∀p∈E,j4 p=true
 i9:E.length<=20
theorem Qk{c:Int}(hs:Sh es):∃E,wF [.int c,aP es]=some (eL E)/\sY E:=by
 obtain⟨S,fS,gS⟩:=T7;have i8:=gS.ln;obtain⟨au,q1,E,s3,s4,s5,s6,rfl,hk,aI⟩:=pS (g:=gN 3) (t:=.sh []) (λj ρ=>∃E s3 s4 s5 s6,ρ=cW c es E s3 s4 s5 s6/\E.map (·.1)=S.take j/\∀p∈E,j4 p=true)
  (n:=0) ⟨[],none,none,none,none,rfl,rfl,λp m=>nomatch m⟩ (λj ρ d hd ⟨E,s3,s4,s5,s6,e,hk,aI⟩=>by
   subst e;rw[aey] at hk ⊢;rw[acX] at hd;cases hj:S[j]? with
   |none=>rw[hj] at hd;cases hd
   |some x=>
    rw[hj] at hd;cases hd;obtain⟨cT,hx⟩:=acY.mp hj;have hlen:E.length=j:=by
     have:=congrArg List.length hk;rw[List.length_map,aeO] at this;omega
    obtain⟨o,n,t5,st,SS⟩:=Pa (c:=c) (E:=E) hs (gS.bd x (List.mem_of_getElem? hj)) (by omega);refine⟨cW c es E (some (.int x,.sh [])) s4 s5 s6,_,rfl,.inl st,E++[(x,o,n)],_,_,_,_,rfl,?_,λp m=>?_⟩
    .rw[adG,hk,List.take_succ_eq_append_getElem cT,hx];rfl
    .rcases acW.mp m with m|m
     .exact aI p m
     .cases aa8.mp m;exact SS)
 rw[aey,List.length_map,List.take_length] at hk;refine⟨E,dU rfl ?_,by rw[hk];exact gS.inc,aI,?_⟩
 .show EB [some (.int c,.sh []),some (aP es,.sh []),none,none,none,none,none]=_;have e:EB=aB (aM 2 (cO aj)) (aB (cP (bh (aC qK (ah (af 0) aj))) (gN 3) FD) (mC 2)):=rfl;have p1:aM 2 (cO aj) [some (.int c,.sh []),some (aP es,.sh []),none,none,none,none,none]=some (.nx (cW c es [] none none none none)):=rfl;have hi:bh (aC qK (ah (af 0) aj)) (cW c es [] none none none none)=some (S.map D.int,.own):=by
   have v0:af 0 (cW c es [] none none none none)=some (.int c,.sh []):=rfl;have:aC qK (ah (af 0) aj) (cW c es [] none none none none)=some (.lst (S.map D.int),.own):=by
    rw[s_call,br,v0,fD,bO,eS];simp only[aaH,adn];rw[fS];rfl
   unfold bh;rw[this]
  rw[e,aW,p1,bf,aW,xZ hi q1,bf];rfl
 .have:=congrArg List.length hk;rw[List.length_map] at this;omega
noncomputable def kB(k:Int):Key×D:=(Sum.inl k,.bl true)
noncomputable def dB(ks:List Int):D:=.bD (ks.map kB)
noncomputable def add(ks:List Int)(k:Int):List Int:=if k∈ks then ks else ks++[k]
theorem L1:x∈add ks k↔x∈ks\/x=k:=by
 unfold add
 by_cases h:k∈ks
 .rw[if_pos h];exact⟨.inl,λe=>e.elim id λe=>by rw[e];exact h⟩
 .rw[if_neg h,acW,aa8]
theorem Qp:(add ks k).length<=ks.length+1:=by
 unfold add
 split
 .omega
 .rw[acZ];exact abW _
theorem mW(a:Int):[a].Nodup:=by simp
theorem abg(h:ks.Nodup):(add ks k).Nodup:=by
 unfold add
 split
 .exact h
 .rename_i hk;rw[adv];exact⟨h,mW _,λa ma b mb e=>by cases aa8.mp mb;rw[e] at ma;exact hk ma⟩
theorem IY{ks:List Int}:((ks.map kB).any λkv=>decide (kv.1=(Sum.inl k:Key)))=decide (k∈ks):=by
 induction ks with
 |nil=>simp
 |cons a r ih=>
  rw[aaH,afc,ih];have:decide ((kB a).1=(Sum.inl k:Key))=decide (a=k):=by
   exact decide_eq_decide.mpr rN
  rw[this]
  by_cases h:a=k
  .subst h;simp
  .simp[h,aej h]
theorem X6:qq false (.int x) (dB ks)=some (.bl (decide (x∈ks))):=by
 show some (D.bl (if false=true then _ else(fu (ks.map kB) (Sum.inl x:Key)).isSome))=_;rw[if_neg ab3,<- IY];unfold fu;rw[Option.isSome_map]
 congr 2
 rw[ae4,List.find?_isSome,aeQ]
theorem I_:∀ks:List Int,aN ((ks.map kB).map (·.2))=true
 |[]=>rfl
 |k::r=>by rw[aaH,aaH];unfold aN;rw[I_ r];rfl
theorem JV:putD (ks.map kB) (Sum.inl k:Key) (.bl true)=(add ks k).map kB:=by
 unfold putD add;rw[IY]
 by_cases h:k∈ks
 .rw[if_pos (ab5 h),if_pos h,adS];refine List.map_congr_left λa _=>?_
  show(if(Sum.inl a:Key)=Sum.inl k then((Sum.inl a:Key),D.bl true) else kB a)=kB a
  split<;>rfl
 .rw[if_neg (by simpa using h),if_neg h,adG];rfl
theorem JS(h1:fv ρ=some (.bl true,t1))(h2:ρ[i]? = some (some (dB ks,.own)))(h3:fk ρ=some (.int k,t2))(hl:ks.length<=10000):gk i fk fv ρ=some (.nx (cL ρ i (dB (add ks k)))):=by
 unfold gk;rw[h1,h2,h3];show(if(aH (.bl true)&&aN ((ks.map kB).map (·.2))&&decide ((ks.map kB).length<sizeLine))=true then some (Out.nx (cL ρ i (.bD (putD (ks.map kB) (Sum.inl k:Key) (.bl true))))) else none)=_;rw[if_pos (by rw[I_,ab5 (by rw[List.length_map];exact size_le hl)];rfl),JV];rfl
theorem Lh:∀ks:List Int,jI (ks.map kB)=some ks
 |[]=>rfl
 |k::r=>by rw[aaH];show(jI (r.map kB)).map _=_;rw[Lh r];rfl
theorem Wc(h:ks.length<4096):nR (dB ks)=some (iL (ef ks)):=by
 show(match jI (ks.map kB) with|some ns=>if ns.length<4096 then some (D.lst ((ef ns).map D.int)) else none|none=>none)=_;rw[Lh];dsimp only;rw[if_pos h];rfl
noncomputable abbrev Sp:=Ch×f7
noncomputable def gO(p:Sp):D:=.tup [.int p.1.1,iL p.1.2.1,eL p.1.2.2,aP p.2]
noncomputable def ay(L:List Sp):D:=.lst (L.map gO)
structure m6(n:Nat)(p:Sp):Prop where
 rk:0<=p.1.1/\p.1.1<=9
 inc:p.1.2.1.Pairwise (· < ·)
 bd:∀x∈p.1.2.1,1<=x/\x<=n
 i9:p.1.2.1.length<=2
 ge:sY p.1.2.2
 sh:Sh p.2
 ln:p.2.length<=20*(n+1)
def sp(L:List Sp)(m:Int):Sp:=(L[(m-1).toNat]?).getD ((0,[],[]),[])
theorem HJ{L:List Sp}{m:Int}(h1:1<=m)(h2:m<=L.length):L[(m-1).toNat]? = some (sp L m):=by
 unfold sp;rw[abL (by omega)];rfl
theorem zW{m:Int}{t:Tag}{o:List Nat}(h:af i ρ=some (ay L,.sh o))(hk:fk ρ=some (.int (m-1),t))(h1:1<=m)(h2:m<=L.length):dQ (af i) fk ρ=some (gO (sp L m),.sh o):=by
 unfold dQ;rw[h,hk];unfold ay;dsimp only;rw[KA h1 h2 (HJ h1 h2)];rfl
theorem vH{p:Sp}{o:List Nat}(h:fa ρ=some (gO p,.sh o)):cD fa (eC (.int 0)) ρ=some (.int p.1.1,.sh o)/\cD fa (eC (.int 1)) ρ=some (iL p.1.2.1,.sh o)/\cD fa (eC (.int 2)) ρ=some (eL p.1.2.2,.sh o)/\cD fa (eC (.int 3)) ρ=some (aP p.2,.sh o):=by
 unfold cD;rw[h];exact⟨rfl,rfl,rfl,rfl⟩
theorem HG{p:Ed}(h:j4 p=true):(0<=p.1/\p.1<=999)/\(0<=p.2.1/\p.2.1<=1000000000)/\(0<=p.2.2/\p.2.2<=1000000000):=by
 unfold j4 inR at h;simp only[acr,afg] at h;exact⟨h.1.1.1,h.1.1.2,h.1.2⟩
theorem sY.nd(g:sY E):(E.map (·.1)).Nodup:=g.inc.imp λh e=>by omega
theorem Sh.cJ(s:Sh es)(g:sY E):Sh (cJ es E):=by
 refine⟨Co _ _ s.nd,λk=>?_⟩;obtain⟨g1,g2⟩:=JQ E es k g.nd
 by_cases mj:k∈E.map (·.1)
 .obtain⟨p,mp,rfl⟩:=adi.mp mj;unfold gV;rw[g1 p mp rfl];exact(HG (g.ok p mp)).2.2
 .unfold gV;rw[g2 mj];exact s.bd k
noncomputable def rS(c:Int)(S:D)(n b:Int)(v:f7)(d5:D)(s6 s7 s8 s9 CJ:Slot):aK:=[some (.int c,.sh []),some (S,.sh []),some (.int n,.own),some (.int b,.own),some (aP v,.own),some (d5,.own),s6,s7,s8,s9,CJ]
noncomputable abbrev IQ:GF:=gT (b_ (gN 7) (b_ (gN 8) (b_ (gN 9) i7)))
theorem KU:∀{E:List Ed}{es:f7}{s7 s8 s9:Slot},es.length+E.length<4096->∃t7 t8 t9,cX IQ (.sh [6]) (gk 4 (af 7) (af 9)) (E.map dT) (rS c S n b es d5 (some (M,.lk)) s7 s8 s9 none)=some (.nx (rS c S n b (cJ es E) d5 (some (M,.lk)) t7 t8 t9 none))
 |[],es,s7,s8,s9,_=>⟨s7,s8,s9,rfl⟩
 |(a,o,w)::E,es,s7,s8,s9,hl=>by
  rw[acS] at hl;have hp:gk 4 (af 7) (af 9) (rS c S n b es d5 (some (M,.lk)) (some (.int a,.own)) (some (.int o,.own)) (some (.int w,.own)) none)=some (.nx (rS c S n b (fq es a w) d5 (some (M,.lk)) (some (.int a,.own)) (some (.int o,.own)) (some (.int w,.own)) none)):=
   G7 rfl rfl rfl (vR (by omega))
  obtain⟨t7,t8,t9,ih⟩:=KU (d5:=d5) (E:=E) (es:=fq es a w) (s7:=some (.int a,.own)) (by have:=yZ (es:=es) (k:=a) (v:=w);omega);refine⟨t7,t8,t9,?_⟩;rw[aaH,qX rfl hp];exact ih
theorem f_spec{c:Int}(hn:L.length<=25)(hL:∀i p,L[i]? = some p->m6 i p):∃p,pX [.int c,ay L]=some (gO p)/\m6 L.length p:=by
 have hlen:∀ρ:aK,af 1 ρ=some (ay L,.sh [])->e2 aX (e1 bX (af 1)) (eC (.int 1)) ρ=some (.int ((L.length:Int)+1),.own):=λρ h=>by
  rw[bL,eE,h,eG,eT];unfold ay;rw[mE,List.length_map,gY,cg,tL];rfl
 have q1:aM 2 (e2 aX (e1 bX (af 1)) (eC (.int 1))) [some (.int c,.sh []),some (ay L,.sh []),none,none,none,none,none,none,none,none,none]=some (.nx [some (.int c,.sh []),some (ay L,.sh []),some (.int ((L.length:Int)+1),.own),none,none,none,none,none,none,none,none]):=by
  rw[eZ,hlen _ rfl];rfl
 have hb:=jv (c:=c) (t:=4) (m:=(L.length:Int)+1) (by omega);have q2:aM 3 (aC bB (ah (af 0) (ah (eC (.int 4)) (ah (af 2) aj)))) [some (.int c,.sh []),some (ay L,.sh []),some (.int ((L.length:Int)+1),.own),none,none,none,none,none,none,none,none]=some (.nx [some (.int c,.sh []),some (ay L,.sh []),some (.int ((L.length:Int)+1),.own),some (.int (mix c 4 ((L.length:Int)+1)),.own),none,none,none,none,none,none,none]):=by
  rw[eZ,mx (c:=c) (t:=4) (m:=(L.length:Int)+1) (t1:=.sh []) (t2:=.own) (t3:=.sh [2]) rfl rfl rfl (by omega) (by omega)];rfl
 generalize mix c 4 ((L.length:Int)+1)=b at hb q2;generalize hN:((L.length:Int)+1)=N at hb q1 q2;have q3:aM 4 (eC (.bD [])) [some (.int c,.sh []),some (ay L,.sh []),some (.int N,.own),some (.int b,.own),none,none,none,none,none,none,none]=some (.nx [some (.int c,.sh []),some (ay L,.sh []),some (.int N,.own),some (.int b,.own),some (aP [],.own),none,none,none,none,none,none]):=rfl;have q4:aM 5 (eC (.bD [])) [some (.int c,.sh []),some (ay L,.sh []),some (.int N,.own),some (.int b,.own),some (aP [],.own),none,none,none,none,none,none]=some (.nx (rS c (ay L) N b [] (dB []) none none none none none)):=rfl;have q5:∃v ks,(Sh v/\v.length<=20*L.length)/\(ks.Nodup/\ks.length<=1/\∀x∈ks,1<=x/\x<=(L.length:Int))/\bG (tV (e2 j0 (af 3) (eC (.int 0)))) (aB (aM 4 (e1 jd (cD (dQ (af 1) (e2 fQ (af 3) (eC (.int 1)))) (eC (.int 3))))) (bG (tV (e2 oEq (aC bB (ah (af 0) (ah (eC (.int 5)) (ah (eC (.int 2)) aj)))) (eC (.int 0)))) (gk 5 (af 3) (eC (.bl true))) bx)) bx (rS c (ay L) N b [] (dB []) none none none none none)=some (.nx (rS c (ay L) N b v (dB ks) none none none none none)):=by
  have cc:tV (e2 j0 (af 3) (eC (.int 0))) (rS c (ay L) N b [] (dB []) none none none none none)=some (decide (b > 0)):=rfl;rw[eN,cc]
  by_cases h0:b > 0
  .rw[ab5 h0,oR,aW];have h1:1<=b:=by omega
   have h2:b<=(L.length:Int):=by omega
   have hp:=hL _ _ (HJ h1 h2);have a1:=(vH (zW (i:=1) (o:=[]) (ρ:=rS c (ay L) N b [] (dB []) none none none none none) (fk:=e2 fQ (af 3) (eC (.int 1))) (t:=.own) rfl rfl h1 h2)).2.2.2;have a2:aM 4 (e1 jd (cD (dQ (af 1) (e2 fQ (af 3) (eC (.int 1)))) (eC (.int 3)))) (rS c (ay L) N b [] (dB []) none none none none none)=some (.nx (rS c (ay L) N b (sp L b).2 (dB []) none none none none none)):=by
    rw[eZ,eE,a1,eT,Rb];rfl
   have XE:tV (e2 oEq (aC bB (ah (af 0) (ah (eC (.int 5)) (ah (eC (.int 2)) aj)))) (eC (.int 0))) (rS c (ay L) N b (sp L b).2 (dB []) none none none none none)=some (mix c 5 2==0):=by
    rw[eY,bL,mx (c:=c) (t:=5) (m:=2) (t1:=.sh []) (t2:=.own) (t3:=.own) rfl rfl rfl (by omega) (by omega),eG,cg];rfl
   rw[a2,bf,eN,XE];have hs:Sh (sp L b).2/\(sp L b).2.length<=20*L.length:=⟨hp.sh,by have:=hp.ln;omega⟩
   cases(mix c 5 2==0) with
   |false=>exact⟨_,[],hs,⟨ac1,by simp,λx m=>nomatch m⟩,rfl⟩
   |true=>
    refine⟨_,[b],hs,⟨mW _,by simp,λx m=>by cases aa8.mp m;exact⟨h1,h2⟩⟩,?_⟩;rw[oR];exact JS (ks:=[]) (k:=b) (t1:=.own) rfl rfl rfl (by simp)
  .rw[ada h0,kg,gC];exact⟨[],[],⟨Sh.nil,by simp⟩,⟨ac1,by simp,λx m=>nomatch m⟩,rfl⟩
 obtain⟨v,mP,⟨hv,OZ⟩,⟨su,RH,yD⟩,q5⟩:=q5;have q6:∃ks,(ks.Nodup/\ks.length<=2/\∀x∈ks,1<=x/\x<=(L.length:Int))/\bG (jh (tV (e2 j0 (af 2) (eC (.int 1)))) (tV (e2 oEq (aC bB (ah (af 0) (ah (eC (.int 6)) (ah (eC (.int 4)) aj)))) (eC (.int 0))))) (gk 5 (e2 aX (eC (.int 1)) (aC bB (ah (af 0) (ah (eC (.int 7)) (ah (e2 fQ (af 2) (eC (.int 1))) aj))))) (eC (.bl true))) bx (rS c (ay L) N b v (dB mP) none none none none none)=some (.nx (rS c (ay L) N b v (dB ks) none none none none none)):=by
  have c1:tV (e2 j0 (af 2) (eC (.int 1))) (rS c (ay L) N b v (dB mP) none none none none none)=some (decide (N > 1)):=rfl;have c2:tV (e2 oEq (aC bB (ah (af 0) (ah (eC (.int 6)) (ah (eC (.int 4)) aj)))) (eC (.int 0))) (rS c (ay L) N b v (dB mP) none none none none none)=some (mix c 6 4==0):=by
   rw[eY,bL,mx (t2:=.own) (t3:=.own) rfl rfl rfl (by omega) (by omega),eG,cg];rfl
  rw[eN,ED c1 c2]
  by_cases h0:N > 1
  .rw[ab5 h0,Bool.true_and];cases(mix c 6 4==0) with
   |false=>exact⟨mP,⟨su,by omega,yD⟩,rfl⟩
   |true=>
    rw[oR];have hm:=jv (c:=c) (t:=7) (m:=N-1) (by omega);have a1:=mx (ρ:=rS c (ay L) N b v (dB mP) none none none none none) (fc:=af 0) (ft:=eC (.int 7)) (fm:=e2 fQ (af 2) (eC (.int 1))) (c:=c) (t:=7) (m:=N-1) (t1:=.sh []) (t2:=.own) (t3:=.own) rfl rfl rfl (by omega) (by omega);refine⟨add mP (1+mix c 7 (N-1)),⟨abg su,by have:=Qp (ks:=mP) (k:=1+mix c 7 (N-1));omega,λx m=>?_⟩,?_⟩
    .rcases L1.mp m with m|rfl
     .exact yD x m
     .omega
    .exact JS (ks:=mP) (k:=1+mix c 7 (N-1)) (t1:=.own) (t2:=.own) rfl rfl (oq a1) (by omega)
  .rw[ada h0,Bool.false_and,kg,gC];exact⟨mP,⟨su,by omega,yD⟩,rfl⟩
 obtain⟨ks,⟨R4,R3,Xg⟩,q6⟩:=q6;obtain⟨E,fE,gE⟩:=Qk (c:=c) hv;have hEl:=gE.i9;have q7:aM 6 (aC wF (ah (af 0) (ah (af 4) aj))) (rS c (ay L) N b v (dB ks) none none none none none)=some (.nx (rS c (ay L) N b v (dB ks) (some (eL E,.own)) none none none none)):=by
  have v0:af 0 (rS c (ay L) N b v (dB ks) none none none none none)=some (.int c,.sh []):=rfl;have v4:af 4 (rS c (ay L) N b v (dB ks) none none none none none)=some (aP v,.sh [4]):=rfl;rw[eZ,s_call,br,br,v0,v4,fD,bO,bO,eS];simp only[aaH,adn];rw[fE];rfl
 obtain⟨t7,t8,t9,lp⟩:=KU (c:=c) (n:=N) (b:=b) (S:=ay L) (d5:=dB ks) (M:=eL E) (E:=E) (es:=v) (s7:=none) (s8:=none) (s9:=none) (by omega);have q8:cP (bh (af 6)) IQ (gk 4 (af 7) (af 9)) (rS c (ay L) N b v (dB ks) (some (eL E,.own)) none none none none)=some (.nx (rS c (ay L) N b (cJ v E) (dB ks) (some (eL E,.own)) t7 t8 t9 none)):=(AY (t:=.sh [6]) rfl lp).trans rfl;have h8:=jv (c:=c) (t:=8) (m:=10) (by omega);have h9:=jv (c:=c) (t:=9) (m:=2) (by omega);have ZF:=jv (c:=c) (t:=10) (m:=2) (by omega);have q9:∃r,(0<=r/\r<=9)/\aM 10 (mT (cO (ah (aC bB (ah (af 0) (ah (eC (.int 8)) (ah (eC (.int 10)) aj)))) (ah (aC bB (ah (af 0) (ah (eC (.int 9)) (ah (eC (.int 2)) aj)))) aj))) (aC bB (ah (af 0) (ah (eC (.int 10)) (ah (eC (.int 2)) aj))))) (rS c (ay L) N b (cJ v E) (dB ks) (some (eL E,.own)) t7 t8 t9 none)=some (.nx (rS c (ay L) N b (cJ v E) (dB ks) (some (eL E,.own)) t7 t8 t9 (some (.int r,.own)))):=by
  have a8:=mx (ρ:=rS c (ay L) N b (cJ v E) (dB ks) (some (eL E,.own)) t7 t8 t9 none) (fc:=af 0) (ft:=eC (.int 8)) (fm:=eC (.int 10)) (c:=c) (t:=8) (m:=10) (t1:=.sh []) (t2:=.own) (t3:=.own) rfl rfl rfl (by omega) (by omega);have a9:=mx (ρ:=rS c (ay L) N b (cJ v E) (dB ks) (some (eL E,.own)) t7 t8 t9 none) (fc:=af 0) (ft:=eC (.int 9)) (fm:=eC (.int 2)) (c:=c) (t:=9) (m:=2) (t1:=.sh []) (t2:=.own) (t3:=.own) rfl rfl rfl (by omega) (by omega);have Kc:=mx (ρ:=rS c (ay L) N b (cJ v E) (dB ks) (some (eL E,.own)) t7 t8 t9 none) (fc:=af 0) (ft:=eC (.int 10)) (fm:=eC (.int 2)) (c:=c) (t:=10) (m:=2) (t1:=.sh []) (t2:=.own) (t3:=.own) rfl rfl rfl (by omega) (by omega);generalize mix c 8 10=x8 at a8 h8;generalize mix c 9 2=x9 at a9 h9;generalize mix c 10 2=Nq at Kc ZF;have el:cO (ah (aC bB (ah (af 0) (ah (eC (.int 8)) (ah (eC (.int 10)) aj)))) (ah (aC bB (ah (af 0) (ah (eC (.int 9)) (ah (eC (.int 2)) aj)))) aj)) (rS c (ay L) N b (cJ v E) (dB ks) (some (eL E,.own)) t7 t8 t9 none)=some (.lst [.int x8,.int x9],.own):=by
   rw[wB,br,br,a8,a9];rfl
  rw[eZ];unfold mT;rw[el,Kc];have cc:Nq=0\/Nq=1:=by omega
  rcases cc with rfl|rfl
  .exact⟨x8,by omega,rfl⟩
  .exact⟨x9,by omega,rfl⟩
 obtain⟨r,hr,q9⟩:=q9;refine⟨((r,ef ks,E),cJ v E),dU rfl ?_,⟨hr,MW R4,λx m=>Xg x (zP.mp m),by rw[Ds];exact R3,gE,hv.cJ gE,?_⟩⟩
 .show B9 [some (.int c,.sh []),some (ay L,.sh []),none,none,none,none,none,none,none,none,none]=_;unfold B9;rw[aW,q1,bf,aW,q2,bf,aW,q3,bf,aW,q4,bf,aW,q5,bf,aW,q6,bf,aW,q7,bf,aW,q8,bf,aW,q9,bf];have v10:af 10 (rS c (ay L) N b (cJ v E) (dB ks) (some (eL E,.own)) t7 t8 t9 (some (.int r,.own)))=some (.int r,.sh [10]):=rfl;have v5:e1 nR (af 5) (rS c (ay L) N b (cJ v E) (dB ks) (some (eL E,.own)) t7 t8 t9 (some (.int r,.own)))=some (iL (ef ks),.own):=by
   have v5:af 5 (rS c (ay L) N b (cJ v E) (dB ks) (some (eL E,.own)) t7 t8 t9 (some (.int r,.own)))=some (dB ks,.sh [5]):=rfl;rw[eE,v5,eT,Wc (by omega)];rfl
  unfold zq;rw[v10,v5];rfl
 .have:=Aj E v;show(cJ v E).length<=_;omega
theorem p9(h:ρ[i]? = some (some (iL ls,.own)))(hm:fm ρ=some (.int m,t))(h0:0<m):
  ∃(v:Int) (dW:List Int),0<=v/\v<m/\xM i dX (eO (xP fm) fN) ρ=some (.int v,cL ρ i (iL dW)):=by
 obtain⟨v,dW,h1,h2,h3⟩:=RE ls h0;exact⟨v,dW,h1,h2,Xn h (RT (Lv hm rfl) Qm) h h3⟩
structure iw(L:List Sp):Prop where
 ln:L.length<=24
 ok:∀i p,L[i]? = some p->m6 i p
noncomputable def rP(ls:List Int)(L:List Sp)(s2:Slot):aK:=[some (iL ls,.own),some (ay L,.own),s2]
noncomputable def bP:SF:=tH 1 (sS pX (x2 aX (xM 0 dX (eO (xP (e2 f6 (eC (.int 10)) (eC (.int 12)))) fN)) (xP (e2 jo (eC (.int 31)) (af 2)))) (ah (af 1) aj))
theorem abG(h:f ρ=some (.ok d au))(h0:ρ[i]? = some (some (.lst NU,.own)))(h1:au[i]? = some (some (.lst ds,.own)))(hl:ds.length<sizeLine):tH i f ρ=some (.nx (cL au i (.lst (ds++[d])))):=by
 unfold tH;rw[h];dsimp only;rw[h0,h1];dsimp only;rw[if_pos (ab5 hl)]
theorem VB(hj:j<=24)(hl:L.length<=24)(hL:∀i p,L[i]? = some p->m6 i p):∃dW p,bP (rP ls L (some (.int j,.sh [])))=some (.nx (rP dW (L++[p]) (some (.int j,.sh []))))/\m6 L.length p:=by
 have hp:e2 f6 (eC (.int 10)) (eC (.int 12)) (rP ls L (some (.int j,.sh [])))=some (.int 1000000000000,.own):=by kernel_rfl
 obtain⟨v,dW,h1,h2,h3⟩:=p9 (i:=0) rfl hp (by omega);have h4:xP (e2 jo (eC (.int 31)) (af 2)) (rP dW L (some (.int j,.sh [])))=some (.int (31*j),rP dW L (some (.int j,.sh []))):=by
  refine Lv (t:=.own) ?_ rfl;rw[bL,eG];show k2 jo (some (.int 31,.own)) (some (.int j,.sh []))=_;rw[cg,yK (by unfold nM;simp)];rfl
 have h5:=Jl h3 h4 (op:=aX) (d:=.int (v+31*j)) rfl;obtain⟨p,fp,CN⟩:=f_spec (by omega) hL;refine⟨dW,p,?_,CN⟩;have h6:sS pX (x2 aX (xM 0 dX (eO (xP (e2 f6 (eC (.int 10)) (eC (.int 12)))) fN)) (xP (e2 jo (eC (.int 31)) (af 2)))) (ah (af 1) aj) (rP ls L (some (.int j,.sh [])))=some (.ok (gO p) (rP dW L (some (.int j,.sh [])))):=by
  unfold sS;rw[h5];show((pX [.int (v+31*j),ay L]).map _)=_;rw[fp];rfl
 refine(abG h6 rfl rfl (by rw[List.length_map];exact size_le (by omega))).trans ?_;unfold rP ay;rw[adG];rfl
theorem S3(ls:List Int):∃L dW,xg (iL ls) []=some (ay L,iL dW)/\iw L:=by
 obtain⟨n,l1,h1,h2,h3⟩:=p9 (ρ:=rP ls [] none) (i:=0) (fm:=eC (.int 25)) (m:=25) (t:=.own) rfl rfl (by omega);obtain⟨au,lp,dW,L,s2,rfl,i8,aI⟩:=pS (g:=gN 2) (t:=.sh []) (f:=bP) (λj ρ=>∃ls L s2,ρ=rP ls L s2/\L.length=j/\∀i p,L[i]? = some p->m6 i p)
  (ds:=(List.range n.toNat).map λi:Nat=>D.int (0 + (i:Int))) (ρ:=rP l1 [] none) (n:=0) ⟨l1,[],none,rfl,rfl,λi p h=>by rw[List.getElem?_nil] at h;cases h⟩ (λj ρ d hd ⟨ls,L,s2,e,i8,aI⟩=>by
   subst e;obtain⟨rfl,hj⟩:=yi hd;rw[aey] at i8 ⊢;obtain⟨dW,p,st,CN⟩:=VB (ls:=ls) (L:=L) (j:=j) (by omega) (by omega) aI;refine⟨rP ls L (some (.int j,.sh [])),_,rfl,.inl st,dW,L++[p],_,rfl,by rw[acZ];simp[i8],λi q h=>?_⟩;rw[List.getElem?_append] at h
   split at h
   .exact aI i q h
   .rename_i hi;have:i=L.length:=by
     have:=(acY.mp h).1;simp at this;omega
    subst this;rw[Nat.sub_self] at h;cases h;exact CN)
 rw[aey,List.length_map,adm] at i8;refine⟨L,dW,AA rfl ?_,⟨by omega,aI⟩⟩;show AQ [some (iL ls,.own),none,none]=_;have e:AQ=aB (cZ (aM 1 (cO aj))) (aB (cZ (sI (xM 0 dX (eO (xP (eC (.int 25))) fN)) (gN 2) bP)) (qP 1)):=rfl;have q1:cZ (aM 1 (cO aj)) [some (iL ls,.own),none,none]=some (.nx (rP ls [] none)):=ly rfl;have q2:cZ (sI (xM 0 dX (eO (xP (eC (.int 25))) fN)) (gN 2) bP) (rP ls [] none)=some (.nx (rP dW L s2)):=by
  refine ly ?_;unfold sI;rw[h3];dsimp only;rw[if_pos (vz (by omega) (by omega))];show(match cX (gN 2) (.sh []) bP ((List.range n.toNat).map λi:Nat=>D.int (0+(i:Int))) (rP l1 [] none) with|some (.nx au)=>_|some (.rt d)=>_|some (.er raw cn au)=>_|_=>none)=_;rw[lp]
 rw[e,aW,q1,bf,aW,q2,bf];rfl
noncomputable abbrev cs(L:List Sp):List Ch:=L.map (·.1)
theorem BW(h1:1<=m)(h2:m<=L.length):(sp L m).1=ch (cs L) m:=by
 unfold sp ch cs;rw[acX,abL (by omega)];rfl
theorem JC(h1:1<=m)(h2:m<=L.length):(sp L m).1.2.2=bV (cs L) m:=by unfold bV;rw[BW h1 h2]
theorem Gs{L:List Sp}{m:Int}(h1:1<=m)(h2:m<=L.length):(sp L m).1.2.1=lean (sec (cs L)) m:=by rw[BW h1 h2,Nl h1 (by rw[List.length_map];exact h2)]
theorem abr{L:List (List Int)}{m:Int}(h:¬(1<=m/\m<=L.length)):lean L m=[]:=by
 unfold lean
 split
 .rw[aeh (by omega)];rfl
 .rfl
theorem Gg{L:List Sp}(g:iw L)(m:Int):lean (sec (cs L)) m=[]\/(1<=m/\m<=L.length/\m6 (m-1).toNat (sp L m)/\lean (sec (cs L)) m=(sp L m).1.2.1):=by
 by_cases h:1<=m/\m<=L.length
 .exact .inr ⟨h.1,h.2,g.ok _ _ (HJ h.1 h.2),(Gs h.1 h.2).symm⟩
 .exact .inl (abr (by rw[List.length_map,List.length_map];exact h))
theorem pL(g:iw L)(m:Int):sY (bV (cs L) m):=by
 unfold bV ch cs;rw[acX];cases e:L[(m-1).toNat]? with
 |none=>exact⟨List.Pairwise.nil,λp h=>(nomatch h),by simp⟩
 |some p=>exact(g.ok _ _ e).ge
theorem tY(g:iw L):GoodC (cs L):=by
 refine⟨⟨by rw[List.length_map,List.length_map];have:=g.ln;omega,λm=>?_,λm x mx=>?_,λm=>?_⟩,λm=>⟨(pL g m).inc.imp λh=>by omega,(pL g m).i9⟩,λm p mp=>(HG ((pL g m).ok p mp)).1,λm=>(pL g m).nd,λm p mp=>(HG ((pL g m).ok p mp)).2.2⟩
 .rcases Gg g m with e|⟨_,_,o,e⟩
  .rw[e];exact List.Pairwise.nil
  .rw[e];exact o.inc
 .rcases Gg g m with e|⟨h1,h2,o,e⟩
  .rw[e] at mx;cases mx
  .rw[e] at mx;have:=o.bd x mx;refine⟨this.1,by omega,by rw[List.length_map,List.length_map];exact h2⟩
 .rcases Gg g m with e|⟨_,_,o,e⟩
  .rw[e];simp
  .rw[e];have:=o.i9;omega
theorem Qf{p:Sp}(o:m6 n p):tK n p.1.1 p.1.2.1 p.1.2.2=true:=by
 unfold tK wM inR;rw[ab5 o.rk.1,ab5 o.rk.2,Bh o.inc,Bh o.ge.inc,aep.mpr o.ge.ok,ab5 (show(p.1.2.2.length:Int)<=20 by have:=o.ge.i9;omega)];rw[aep.mpr (λx mx=>by rw[ab5 (o.bd x mx).1,ab5 (o.bd x mx).2];rfl)];rfl
noncomputable def rA(S:D)(C:List Ch)(s2:Slot):aK:=[some (S,.sh []),some (obj C,.own),s2]
noncomputable def bA:SF:=sZ (xO 1 "Changes" "added" qL (ah (cD (af 2) (eC (.int 0))) (ah (cD (af 2) (eC (.int 1))) (ah (cD (af 2) (eC (.int 2))) aj))))
theorem QT{p:Sp}(o:m6 C.length p)(hC:C.length<60):bA (rA S C (some (gO p,.sh [])))=some (.nx (rA S (C++[p.1]) (some (gO p,.sh [])))):=by
 have v2:af 2 (rA S C (some (gO p,.sh [])))=some (gO p,.sh []):=rfl;obtain⟨f0,f1,f2,_⟩:=vH v2;have hg:ah (cD (af 2) (eC (.int 0))) (ah (cD (af 2) (eC (.int 1))) (ah (cD (af 2) (eC (.int 2))) aj)) (rA S C (some (gO p,.sh [])))=some [(.int p.1.1,.sh []),(iL p.1.2.1,.sh []),(eL p.1.2.2,.sh [])]:=by
  rw[br,br,br,f0,f1,f2,fD,bO,bO,bO]
 have hx:xO 1 "Changes" "added" qL (ah (cD (af 2) (eC (.int 0))) (ah (cD (af 2) (eC (.int 1))) (ah (cD (af 2) (eC (.int 2))) aj))) (rA S C (some (gO p,.sh [])))=some (.int (C.length+1),rA S (C++[p.1]) (some (gO p,.sh []))):=by
  unfold xO;rw[hg];show(if("Changes":Str)="Changes"/\([("entries",.lst (C.map ent))]:List (Str×D)).lookup ("added":Str)=none/\apart 1 [(.int p.1.1,.sh []),(iL p.1.2.1,.sh []),(eL p.1.2.2,.sh [])]=true then(qL (obj C) [.int p.1.1,iL p.1.2.1,eL p.1.2.2]).map _ else none)=_;rw[if_pos ⟨rfl,yw (by decide),rfl⟩,TM (by have:=o.i9;omega) (by have:=o.ge.i9;omega) (Qf o) hC];rfl
 unfold bA sZ;rw[hx];rfl
theorem U5(g:iw L):yj [ay L]=some (obj (cs L)):=by
 have i8:=g.ln;obtain⟨au,lp,s2,rfl⟩:=pS (g:=gN 2) (t:=.sh []) (λj ρ=>∃s2,ρ=rA (ay L) (cs (L.take j)) s2) (ρ:=rA (ay L) [] none) (n:=0) ⟨none,rfl⟩ (λj ρ d hd ⟨s2,e⟩=>by
  subst e;rw[acX] at hd;cases hj:L[j]? with
  |none=>rw[hj] at hd;cases hd
  |some p=>
   rw[hj] at hd;cases hd;obtain⟨cT,hx⟩:=acY.mp hj;rw[aey];have hlen:(cs (L.take j)).length=j:=by rw[List.length_map,aeO];omega
   have st:=QT (S:=ay L) (C:=cs (L.take j)) (p:=p) (by rw[hlen];exact g.ok j p hj) (by omega);refine⟨rA (ay L) (cs (L.take j)) (some (gO p,.sh [])),_,rfl,.inl st,some (gO p,.sh []),?_⟩;rw[List.take_succ_eq_append_getElem cT,hx];unfold cs;rw[adG];rfl)
 refine dU rfl ?_;show Hj [some (ay L,.sh []),none,none]=_;have e:Hj=aB (aM 1 (tu "Changes" tP aj)) (aB (cP (bh (af 0)) (gN 2) bA) (mC 1)):=rfl;have q1:aM 1 (tu "Changes" tP aj) [some (ay L,.sh []),none,none]=some (.nx (rA (ay L) [] none)):=rfl;have q2:=pR (it:=bh (af 0)) (ρ:=rA (ay L) [] none) (ds:=L.map gO) rfl lp;rw[e,aW,q1,bf,aW,q2,bf,aey,List.length_map,List.take_length];rfl
noncomputable def yb(C:List Ch)(v:f7)(row:List Int):f7:=row.foldl (λv m=>cJ v (bV C m)) v
theorem EY:∀{row:List Int}{v v':f7},iQ v (iH C row)=some v'->v'=yb C v row
 |[],v,v',h=>by cases h;rfl
 |m::r,v,v',h=>by
  have h:(if bad v (bV C m)=[] then iQ (cJ v (bV C m)) (iH C r) else none)=some v':=h
  by_cases hb:bad v (bV C m)=[]
  .rw[if_pos hb] at h;exact EY (row:=r) h
  .rw[if_neg hb] at h;cases h
theorem Ln:∀{row:List Int}{v v':f7}{m:Int},iQ v (iH C row)=some v'->bad v' (bV C m)=[]->iQ v (iH C (row++[m]))=some (cJ v' (bV C m))
 |[],v,v',m,h,hb=>by
  cases h;show(if bad v (bV C m)=[] then iQ (cJ v (bV C m)) [] else none)=_;rw[if_pos hb];rfl
 |x::r,v,v',m,h,hb=>by
  have h:(if bad v (bV C x)=[] then iQ (cJ v (bV C x)) (iH C r) else none)=some v':=h;show(if bad v (bV C x)=[] then iQ (cJ v (bV C x)) (iH C (r++[m])) else none)=_
  by_cases zJ:bad v (bV C x)=[]
  .rw[if_pos zJ] at h ⊢;exact Ln h hb
  .rw[if_neg zJ] at h;cases h
noncomputable def nu(S R:D)(v:f7)(s3 s4 s5 s6:Slot):aK:=[some (S,.sh []),some (R,.sh []),some (aP v,.own),s3,s4,s5,s6]
noncomputable abbrev NZ:GF:=gT (b_ (gN 4) (b_ (gN 5) (b_ (gN 6) i7)))
theorem HW:∀{E:List Ed}{es:f7}{s4 s5 s6:Slot},es.length+E.length<4096->∃t4 t5 t6,cX NZ (.sh []) (gk 2 (af 4) (af 6)) (E.map dT) (nu S R es (some (.int m,.sh [])) s4 s5 s6)=some (.nx (nu S R (cJ es E) (some (.int m,.sh [])) t4 t5 t6))
 |[],es,s4,s5,s6,_=>⟨s4,s5,s6,rfl⟩
 |(a,o,w)::E,es,s4,s5,s6,hl=>by
  rw[acS] at hl;have hp:gk 2 (af 4) (af 6) (nu S R es (some (.int m,.sh [])) (some (.int a,.own)) (some (.int o,.own)) (some (.int w,.own)))=some (.nx (nu S R (fq es a w) (some (.int m,.sh [])) (some (.int a,.own)) (some (.int o,.own)) (some (.int w,.own)))):=
   G7 rfl rfl rfl (vR (by omega))
  obtain⟨t4,t5,t6,ih⟩:=HW (E:=E) (es:=fq es a w) (by have:=yZ (es:=es) (k:=a) (v:=w);omega);refine⟨t4,t5,t6,?_⟩;rw[aaH,qX rfl hp];exact ih
noncomputable def Bv:SF:=cP (bh (cD (dQ (af 0) (e2 fQ (af 3) (eC (.int 1)))) (eC (.int 2)))) NZ (gk 2 (af 4) (af 6))
theorem IE{ρ:aK}(v0:af i ρ=some (ay L,.sh []))(v3:af j ρ=some (.int m,t))(h1:1<=m)(h2:m<=L.length):bh (cD (dQ (af i) (e2 fQ (af j) (eC (.int 1)))) (eC (.int 2))) ρ=some ((bV (cs L) m).map dT,.sh []):=by
 have hk:e2 fQ (af j) (eC (.int 1)) ρ=some (.int (m-1),.own):=by rw[bL,v3,eG,cg];rfl
 have:=(vH (zW v0 hk h1 h2)).2.2.1;unfold bh;rw[this,JC h1 h2];rfl
theorem Ma(g:iw L):∀{row:List Int}{v:f7}{s3 s4 s5 s6:Slot},(∀x∈row,1<=x/\x<=(L.length:Int))->v.length+20*row.length<=3000->∃t3 t4 t5 t6,cX (gN 3) (.sh []) Bv (row.map D.int) (nu (ay L) R v s3 s4 s5 s6)=some (.nx (nu (ay L) R (yb (cs L) v row) t3 t4 t5 t6))
 |[],v,s3,s4,s5,s6,_,_=>⟨s3,s4,s5,s6,rfl⟩
 |m::row,v,s3,s4,s5,s6,hb,hl=>by
  rw[acS] at hl;obtain⟨h1,h2⟩:=hb m aaF;have hf:=(pL g m).i9;obtain⟨t4,t5,t6,uP⟩:=HW (m:=m) (E:=bV (cs L) m) (es:=v) (s4:=s4) (by omega);have st:Bv (nu (ay L) R v (some (.int m,.sh [])) s4 s5 s6)=some (.nx (nu (ay L) R (cJ v (bV (cs L) m)) (some (.int m,.sh [])) t4 t5 t6)):=pR (IE rfl rfl h1 h2) uP;have hp:=Aj (bV (cs L) m) v;obtain⟨u3,u4,u5,u6,ih⟩:=Ma g (v:=cJ v (bV (cs L) m)) (s3:=some (.int m,.sh [])) (s4:=t4) (s5:=t5) (s6:=t6) (λx mx=>hb x (aaY _ mx)) (by omega);refine⟨u3,u4,u5,u6,?_⟩;rw[aaH,qX rfl st];exact ih
theorem JF(g:iw L)(hb:∀x∈row,1<=x/\x<=(L.length:Int))(hl:row.length<=100):oB [ay L,iL row]=some (aP (yb (cs L) [] row)):=by
 refine dU rfl ?_;show AX [some (ay L,.sh []),some (iL row,.sh []),none,none,none,none,none]=_;have e:AX=aB (aM 2 (eC (.bD []))) (aB (cP (bh (af 1)) (gN 3) Bv) (mC 2)):=rfl;have q1:aM 2 (eC (.bD [])) [some (ay L,.sh []),some (iL row,.sh []),none,none,none,none,none]=some (.nx (nu (ay L) (iL row) [] none none none none)):=rfl;obtain⟨t3,t4,t5,t6,lp⟩:=Ma g (R:=iL row) (row:=row) (v:=[]) (s3:=none) (s4:=none) (s5:=none) (s6:=none) hb (by simp;omega);rw[e,aW,q1,bf,aW,pR rfl lp,bf];rfl
noncomputable def rU(S:D)(v:f7)(m:Int)(s3 s4 s5:Slot):aK:=[some (S,.sh []),some (aP v,.sh []),some (.int m,.sh []),s3,s4,s5]
noncomputable abbrev L4:GF:=gT (b_ (gN 3) (b_ (gN 4) (b_ (gN 5) i7)))
noncomputable def bU:SF:=bG (tV (e2 gD (e3 i_ (af 1) (af 3) (eC (.int 0))) (af 4))) (mC 3) bx
theorem Z_:bU (rU S v m (some (.int a,.own)) (some (.int b,.own)) (some (.int c,.own)))=some (if jQ v (a,b,c)=true then .rt (.int a) else .nx (rU S v m (some (.int a,.own)) (some (.int b,.own)) (some (.int c,.own)))):=by
 have ht:tV (e2 gD (e3 i_ (af 1) (af 3) (eC (.int 0))) (af 4)) (rU S v m (some (.int a,.own)) (some (.int b,.own)) (some (.int c,.own)))=some (jQ v (a,b,c)):=by
  rw[eY,bL,CO];show Ev.kV (k2 gD ((i_ (aP v) (.int a) (.int 0)).map _) _)=_;rw[Fv];rfl
 unfold bU;rw[eN,ht];cases jQ v (a,b,c)<;>rfl
theorem Mg:∀{E:List Ed}{s3 s4 s5:Slot},∃t3 t4 t5,cX L4 (.sh []) bU (E.map dT) (rU S v m s3 s4 s5)=some (match bad v E with|[]=>.nx (rU S v m t3 t4 t5)|x::_=>.rt (.int x))
 |[],s3,s4,s5=>⟨s3,s4,s5,rfl⟩
 |(a,b,c)::E,s3,s4,s5=>by
  obtain⟨t3,t4,t5,ih⟩:=Mg;refine⟨t3,t4,t5,?_⟩;have st:=Z_ (S:=S) (v:=v) (m:=m) (a:=a) (b:=b) (c:=c);rw[aaH]
  by_cases hw:jQ v (a,b,c)=true
  .rw[if_pos hw] at st;rw[Pp rfl st];unfold bad;rw[List.filter_cons_of_pos hw];rfl
  .rw[if_neg hw] at st;rw[qX rfl st,ih];unfold bad;rw[List.filter_cons_of_neg hw]
theorem abm(h1:1<=m)(h2:m<=(L.length:Int)):kj [ay L,aP v,.int m]=some (vG (bad v (bV (cs L) m))):=by
 refine dU rfl ?_;show C_ (rU (ay L) v m none none none)=_;have e:C_=aB (cP (bh (cD (dQ (af 0) (e2 fQ (af 2) (eC (.int 1)))) (eC (.int 2)))) L4 bU) (bT (eC .aE)):=rfl;obtain⟨t3,t4,t5,lp⟩:=Mg;have hi:=IE (ρ:=rU (ay L) v m none none none) (i:=0) (j:=2) (t:=.sh []) rfl rfl h1 h2;rw[e,aW];cases hb:bad v (bV (cs L) m) with
 |nil=>
  rw[hb] at lp;rw[pR hi lp,bf];rfl
 |cons x l=>
  rw[hb] at lp;rw[OT hi lp];rfl
noncomputable def jS(C:List Ch)(there:List Int)(m:Int):Bool:=(lean (sec C) m).all λx=>decide (x∈there)
theorem T_(g:iw L)(h1:1<=m)(h2:m<=(L.length:Int)):k_ [ay L,iL there,.int m]=some (.bl (jS (cs L) there m)):=by
 refine dU rfl ?_;show Bb [some (ay L,.sh []),some (iL there,.sh []),some (.int m,.sh [])]=_;have hi:bh (cD (dQ (af 0) (e2 fQ (af 2) (eC (.int 1)))) (eC (.int 1))) [some (ay L,.sh []),some (iL there,.sh []),some (.int m,.sh [])]=some ((lean (sec (cs L)) m).map D.int,.sh []):=by
  have:=(vH (zW (L:=L) (ρ:=[some (ay L,.sh []),some (iL there,.sh []),some (.int m,.sh [])]) (i:=0) (fk:=e2 fQ (af 2) (eC (.int 1))) (m:=m) (t:=.own) (o:=[]) rfl rfl h1 h2)).2.1;unfold bh;rw[this,Gs h1 h2];rfl
 have:=x_ (js:=[none,some 1]) (g:=gN 0) (te:=e2 (jD false) (af 0) (af 1)) (p:=λx=>decide (x∈there)) hi (by have:=(tY g).ld.i9 m;omega) (λx mx=>lO (aG:=[some (.int x,.sh []),some (iL there,.sh [])]) rfl rfl (WY (l:=there) (t:=.sh []) rfl rfl));unfold Bb;rw[eV,this];rfl
noncomputable def jq(C:List Ch)(v:f7)(m:Int):Bool:=(bad v (bV C m)).isEmpty
theorem aaL:jq C v m=true↔bad v (bV C m)=[]:=by unfold jq;exact List.isEmpty_iff
theorem NN:iW (vG l) .aE=some (.bl l.isEmpty):=by cases l<;>rfl
theorem Nz(v1:af i ρ=some (ay L,t1))(v3:af j ρ=some (aP v,t2))(v0:af 0 ρ=some (.int m,t3))(h1:1<=m)(h2:m<=(L.length:Int)):tV (e2 iW (aC kj (ah (af i) (ah (af j) (ah (af 0) aj)))) (eC .aE)) ρ=some (jq (cs L) v m):=by
 rw[eY,bL,s_call,br,br,br,v1,v3,v0,fD,bO,bO,bO,eS];simp only[aaH,adn];rw[abm h1 h2,gY,eG,cg,NN];rfl
theorem Lb(g:iw L)(v1:af i ρ=some (ay L,t1))(v3:af j ρ=some (iL there,t2))(v0:af 0 ρ=some (.int m,t3))(h1:1<=m)(h2:m<=(L.length:Int)):tV (aC k_ (ah (af i) (ah (af j) (ah (af 0) aj)))) ρ=some (jS (cs L) there m):=by
 rw[eY,s_call,br,br,br,v1,v3,v0,fD,bO,bO,bO,eS];simp only[aaH,adn];rw[T_ g h1 h2];rfl
noncomputable def rR(ls:List Int)(S:D)(row pool:List Int)(n c:Int)(s6 s7 s8 s9:Slot):aK:=[some (iL ls,.own),some (S,.sh []),some (iL row,.own),some (iL pool,.own),some (.int n,.own),some (.int c,.own),s6,s7,s8,s9]
noncomputable def bR:SF:=(aB (aM 7 (aC oB (ah (af 1) (ah (af 2) aj)))) (aB (aM 8 (ck [none,some 1,some 2,some 7] (bh (af 3)) (gN 0) (jh (tV (aC k_ (ah (af 1) (ah (af 2) (ah (af 0) aj))))) (tV (e2 iW (aC kj (ah (af 1) (ah (af 3) (ah (af 0) aj)))) (eC .aE)))) (af 0))) (bG (tV (e2 j0 (e1 bX (af 8)) (eC (.int 0)))) (aB (aM 9 (e2 cY (af 8) (aC bB (ah (af 5) (ah (e2 aX (eC (.int 200)) (af 6)) (ah (e1 bX (af 8)) aj)))))) (aB (n6 2 (af 9)) (v_ 3 (af 9)))) bx)))
theorem NP(l:List Int):l.map (λx=>x)=l:=List.map_id' l
theorem Wu(h0:0<=i)(h1:i<l.length):∃x∈l,cY (iL l) (.int i)=some (.int x):=by
 have cT:i.toNat<l.length:=by omega
 refine⟨l[i.toNat],aeD cT,?_⟩;refine NC ?_ rfl;unfold cS ku;rw[List.length_map,if_pos (by omega),if_pos (by omega),adk,acX,abL cT];rfl
structure A8(L:List Sp)(row pool:List Int)(j:Nat):Prop where
 bd:∀x∈row,1<=x/\x<=(L.length:Int)
 pl:∀x∈pool,1<=x/\x<=(L.length:Int)
 ln:row.length<=j
 pn:pool.length<=24
 run:∃v,iQ [] (iH (cs L) row)=some v
theorem WO(g:iw L)(hj:j<=30)(I:A8 L row pool j):∃xX zH t7 t8 t9,bR (rR ls (ay L) row pool n c (some (.int j,.sh [])) s7 s8 s9)=some (.nx (rR ls (ay L) xX zH n c (some (.int j,.sh [])) t7 t8 t9))/\A8 L xX zH (j+1):=by
 have Uw:=I.ln;have CB:=I.pn;obtain⟨v,hv⟩:=I.run;have zF:=EY hv;have q1:aM 7 (aC oB (ah (af 1) (ah (af 2) aj))) (rR ls (ay L) row pool n c (some (.int j,.sh [])) s7 s8 s9)=some (.nx (rR ls (ay L) row pool n c (some (.int j,.sh [])) (some (aP v,.own)) s8 s9)):=by
  have v1:af 1 (rR ls (ay L) row pool n c (some (.int j,.sh [])) s7 s8 s9)=some (ay L,.sh []):=rfl;have v2:af 2 (rR ls (ay L) row pool n c (some (.int j,.sh [])) s7 s8 s9)=some (iL row,.sh [2]):=rfl;rw[eZ,s_call,br,br,v1,v2,fD,bO,bO,eS];simp only[aaH,adn];rw[JF g I.bd (by omega),<- zF];rfl
 have hc:=Bc (js:=[none,some 1,some 2,some 7]) (it:=bh (af 3)) (g:=gN 0) (tt:=jh (tV (aC k_ (ah (af 1) (ah (af 2) (ah (af 0) aj))))) (tV (e2 iW (aC kj (ah (af 1) (ah (af 3) (ah (af 0) aj)))) (eC .aE)))) (te:=af 0) (ρ:=rR ls (ay L) row pool n c (some (.int j,.sh [])) (some (aP v,.own)) s8 s9) (t:=.sh [3]) (l:=pool) rfl (by omega) (λx mx=>by
  obtain⟨h1,h2⟩:=I.pl x mx;have ht:jh (tV (aC k_ (ah (af 1) (ah (af 2) (ah (af 0) aj))))) (tV (e2 iW (aC kj (ah (af 1) (ah (af 3) (ah (af 0) aj)))) (eC .aE))) [some (.int x,.sh []),some (ay L,.sh []),some (iL row,.sh []),some (aP v,.sh [])]=some (jS (cs L) row x&&jq (cs L) v x):=
   ED (Lb g rfl rfl rfl h1 h2) (Nz rfl rfl rfl h1 h2)
  by_cases h:(jS (cs L) row x&&jq (cs L) v x)=true
  .rw[if_pos h];exact wG (aG:=[some (.int x,.sh []),some (ay L,.sh []),some (iL row,.sh []),some (aP v,.sh [])]) (tg:=.sh []) rfl (by rw[ht,h]) rfl rfl
  .rw[if_neg h];exact wY (aG:=[some (.int x,.sh []),some (ay L,.sh []),some (iL row,.sh []),some (aP v,.sh [])]) rfl (by rw[ht,aeZ.mpr h]))
 rw[NP] at hc;generalize vA:pool.filter (λx=>jS (cs L) row x&&jq (cs L) v x)=sm at hc;have nX:∀x∈sm,x∈pool/\bad v (bV (cs L) x)=[]:=λx mx=>by
  rw[<- vA] at mx;obtain⟨a,b⟩:=ad0.mp mx;exact⟨a,aaL.mp (Bool.and_eq_true_iff.mp b).2⟩
 have q2:aM 8 (ck [none,some 1,some 2,some 7] (bh (af 3)) (gN 0) (jh (tV (aC k_ (ah (af 1) (ah (af 2) (ah (af 0) aj))))) (tV (e2 iW (aC kj (ah (af 1) (ah (af 3) (ah (af 0) aj)))) (eC .aE)))) (af 0)) (rR ls (ay L) row pool n c (some (.int j,.sh [])) (some (aP v,.own)) s8 s9)=some (.nx (rR ls (ay L) row pool n c (some (.int j,.sh [])) (some (aP v,.own)) (some (iL sm,.own)) s9)):=by
  rw[eZ,hc];rfl
 have v8:af 8 (rR ls (ay L) row pool n c (some (.int j,.sh [])) (some (aP v,.own)) (some (iL sm,.own)) s9)=some (iL sm,.sh [8]):=rfl;have i8:e1 bX (af 8) (rR ls (ay L) row pool n c (some (.int j,.sh [])) (some (aP v,.own)) (some (iL sm,.own)) s9)=some (.int sm.length,.own):=by
  rw[eE,v8,eT];unfold iL;rw[mE,List.length_map];rfl
 have q3:tV (e2 j0 (e1 bX (af 8)) (eC (.int 0))) (rR ls (ay L) row pool n c (some (.int j,.sh [])) (some (aP v,.own)) (some (iL sm,.own)) s9)=some (decide ((sm.length:Int) > 0)):=by
  rw[eY,bL,i8,eG,cg];rfl
 unfold bR;rw[aW,q1,bf,aW,q2,bf,eN,q3]
 by_cases h0:(sm.length:Int) > 0
 .rw[ab5 h0,oR];have hm:=jv (c:=c) (t:=200+j) (m:=sm.length) h0;have a1:=mx (ρ:=rR ls (ay L) row pool n c (some (.int j,.sh [])) (some (aP v,.own)) (some (iL sm,.own)) s9) (fc:=af 5) (ft:=e2 aX (eC (.int 200)) (af 6)) rfl (oq rfl) i8 (by omega) h0;obtain⟨x,cU,hx⟩:=Wu hm.1 hm.2;obtain⟨mp,SM⟩:=nX x cU;have q4:aM 9 (e2 cY (af 8) (aC bB (ah (af 5) (ah (e2 aX (eC (.int 200)) (af 6)) (ah (e1 bX (af 8)) aj))))) (rR ls (ay L) row pool n c (some (.int j,.sh [])) (some (aP v,.own)) (some (iL sm,.own)) s9)=some (.nx (rR ls (ay L) row pool n c (some (.int j,.sh [])) (some (aP v,.own)) (some (iL sm,.own)) (some (.int x,.own)))):=by
   rw[eZ,bL,v8,a1,cg,hx];rfl
  have q5:n6 2 (af 9) (rR ls (ay L) row pool n c (some (.int j,.sh [])) (some (aP v,.own)) (some (iL sm,.own)) (some (.int x,.own)))=some (.nx (rR ls (ay L) (row++[x]) pool n c (some (.int j,.sh [])) (some (aP v,.own)) (some (iL sm,.own)) (some (.int x,.own)))):=by
   show(if(aH (.int x)&&aN (row.map D.int)&&decide ((row.map D.int).length<sizeLine))=true then some (Out.nx (cL (rR ls (ay L) row pool n c (some (.int j,.sh [])) (some (aP v,.own)) (some (iL sm,.own)) (some (.int x,.own))) 2 (.lst (row.map D.int++[.int x])))) else none)=_;rw[if_pos (by rw[gU,List.length_map,ab5 (size_le (by omega))];rfl)];have:iL (row++[x])=.lst (row.map D.int++[.int x]):=by unfold iL;rw[adG];rfl
   unfold rR;rw[this];rfl
  have q6:v_ 3 (af 9) (rR ls (ay L) (row++[x]) pool n c (some (.int j,.sh [])) (some (aP v,.own)) (some (iL sm,.own)) (some (.int x,.own)))=some (.nx (rR ls (ay L) (row++[x]) (pool.erase x) n c (some (.int j,.sh [])) (some (aP v,.own)) (some (iL sm,.own)) (some (.int x,.own)))):=by
   show(match dO (pool.map D.int) with|some ns=>if x∈ns then some (Out.nx (cL (rR ls (ay L) (row++[x]) pool n c (some (.int j,.sh [])) (some (aP v,.own)) (some (iL sm,.own)) (some (.int x,.own))) 3 (.lst ((ns.erase x).map D.int)))) else none|none=>none)=_;rw[uZ];dsimp only;rw[if_pos mp];rfl
  refine⟨row++[x],pool.erase x,_,_,_,by rw[aW,q4,bf,aW,q5,bf,q6],⟨λy my=>?_,λy my=>I.pl y (List.mem_of_mem_erase my),?_,?_,?_⟩⟩
  .rcases acW.mp my with my|my
   .exact I.bd y my
   .cases aa8.mp my;exact I.pl _ mp
  .rw[acZ];simp;omega
  .exact adX (List.length_erase_le) CB
  .exact⟨_,Ln hv SM⟩
 .rw[ada h0,kg,gC];exact⟨row,pool,_,_,_,rfl,⟨I.bd,I.pl,by omega,I.pn,I.run⟩⟩
theorem SN(g:iw L)(ls:List Int):∃row dW,Ax (iL ls) [ay L]=some (iL row,iL dW)/\(∀x∈row,1<=x/\x<=(L.length:Int))/\row.length<=30/\∃v,iQ [] (iH (cs L) row)=some v:=by
 have i8:=g.ln;have q1:cZ (aM 2 (cO aj)) [some (iL ls,.own),some (ay L,.sh []),none,none,none,none,none,none,none,none]=some (.nx [some (iL ls,.own),some (ay L,.sh []),some (iL [],.own),none,none,none,none,none,none,none]):=ly rfl;have q2:cZ (aM 3 (sX (ah (eC (.int 1)) (ah (e2 aX (e1 bX (af 1)) (eC (.int 1))) aj)))) [some (iL ls,.own),some (ay L,.sh []),some (iL [],.own),none,none,none,none,none,none,none]=some (.nx [some (iL ls,.own),some (ay L,.sh []),some (iL [],.own),some (iL (cR 1 L.length),.own),none,none,none,none,none,none]):=by
  refine ly ?_;have hl:e2 aX (e1 bX (af 1)) (eC (.int 1)) [some (iL ls,.own),some (ay L,.sh []),some (iL [],.own),none,none,none,none,none,none,none]=some (.int ((L.length:Int)+1),.own):=by
   have v1:af 1 [some (iL ls,.own),some (ay L,.sh []),some (iL [],.own),none,none,none,none,none,none,none]=some (.lst (L.map gO),.sh []):=rfl;rw[bL,eE,v1,eG,eT,mE,List.length_map,gY,cg,tL];rfl
  rw[eZ];unfold sX;rw[br,br,hl,eG,fD,bO,bO];dsimp only;rw[if_pos (by omega),show((L.length:Int)+1-1).toNat=L.length by omega];unfold iL cR;rw[adS];rfl
 obtain⟨n,l1,n1,n2,x3⟩:=p9 (ρ:=[some (iL ls,.own),some (ay L,.sh []),some (iL [],.own),some (iL (cR 1 L.length),.own),none,none,none,none,none,none]) (i:=0) (ls:=ls) (fm:=eC (.int 30)) rfl rfl (by omega);have q3:cZ (ir 4 (xM 0 dX (eO (xP (eC (.int 30))) fN))) [some (iL ls,.own),some (ay L,.sh []),some (iL [],.own),some (iL (cR 1 L.length),.own),none,none,none,none,none,none]=some (.nx [some (iL l1,.own),some (ay L,.sh []),some (iL [],.own),some (iL (cR 1 L.length),.own),some (.int n,.own),none,none,none,none,none]):=ly (uF x3);have hp:e2 f6 (eC (.int 10)) (eC (.int 12)) [some (iL l1,.own),some (ay L,.sh []),some (iL [],.own),some (iL (cR 1 L.length),.own),some (.int n,.own),none,none,none,none,none]=some (.int 1000000000000,.own):=by kernel_rfl
 obtain⟨c,l2,c1,c2,x4⟩:=p9 (ρ:=[some (iL l1,.own),some (ay L,.sh []),some (iL [],.own),some (iL (cR 1 L.length),.own),some (.int n,.own),none,none,none,none,none]) (i:=0) (ls:=l1) (t:=.own) rfl hp (by omega);have q4:cZ (ir 5 (xM 0 dX (eO (xP (e2 f6 (eC (.int 10)) (eC (.int 12)))) fN))) [some (iL l1,.own),some (ay L,.sh []),some (iL [],.own),some (iL (cR 1 L.length),.own),some (.int n,.own),none,none,none,none,none]=some (.nx (rR l2 (ay L) [] (cR 1 L.length) n c none none none none)):=ly (uF x4);obtain⟨m,rfl⟩:∃m:Nat,n=m:=⟨n.toNat,by omega⟩
 obtain⟨au,lp,row,pool,s6,s7,s8,s9,rfl,I⟩:=pS (g:=gN 6) (t:=.sh []) (f:=bR) (λj ρ=>∃row pool s6 s7 s8 s9,ρ=rR l2 (ay L) row pool m c s6 s7 s8 s9/\A8 L row pool j)
  (ds:=(List.range (m:Int).toNat).map λi:Nat=>D.int (0 + (i:Int))) (ρ:=rR l2 (ay L) [] (cR 1 L.length) m c none none none none) (n:=0) ⟨[],cR 1 L.length,none,none,none,none,rfl,⟨λx mx=>(nomatch mx),λx mx=>by have:=tQ.mp mx;omega,by simp,by unfold cR;rw[List.length_map,adm];exact i8,⟨[],rfl⟩⟩⟩ (λj ρ d hd ⟨row,pool,s6,s7,s8,s9,e,I⟩=>by
   subst e;obtain⟨rfl,hj⟩:=yi hd;rw[aey] at I ⊢;obtain⟨xX,zH,t7,t8,t9,st,I'⟩:=WO g (ls:=l2) (row:=row) (pool:=pool) (n:=m) (c:=c) (j:=j) (s7:=s7) (s8:=s8) (s9:=s9) (by omega) I;exact⟨rR l2 (ay L) row pool m c (some (.int j,.sh [])) s7 s8 s9,_,rfl,.inl st,xX,zH,_,t7,t8,t9,rfl,I'⟩)
 rw[aey,List.length_map,adm] at I;refine⟨row,l2,AA rfl ?_,I.bd,by have:=I.ln;omega,I.run⟩;show CL [some (iL ls,.own),some (ay L,.sh []),none,none,none,none,none,none,none,none]=_;have q5:cZ (cP (iJ (af 4)) (gN 6) bR) (rR l2 (ay L) [] (cR 1 L.length) m c none none none none)=some (.nx (rR l2 (ay L) row pool m c s6 s7 s8 s9)):=ly (xZ (zQ (n:=m) (t:=.sh [4]) rfl (vz (by omega) (by omega))) lp);have e:CL=(aB (cZ (aM 2 (cO aj))) (aB (cZ (aM 3 (sX (ah (eC (.int 1)) (ah (e2 aX (e1 bX (af 1)) (eC (.int 1))) aj))))) (aB (cZ (ir 4 (xM 0 dX (eO (xP (eC (.int 30))) fN)))) (aB (cZ (ir 5 (xM 0 dX (eO (xP (e2 f6 (eC (.int 10)) (eC (.int 12)))) fN)))) (aB (cZ (cP (iJ (af 4)) (gN 6) bR)) (qP 2)))))):=rfl;rw[e,aW,q1,bf,aW,q2,bf,aW,q3,bf,aW,q4,bf,aW,q5,bf];rfl
theorem Yy(hf:f ρ=some (.int m,t))(hh:h ρ=some (iL l,t2)):tV (e2 (jD true) f h) ρ=some (!decide (m∈l)):=by
 rw[eY,bL,hf,hh,cg];show Ev.kV ((jD true (.int m) (.lst (l.map D.int))).map _)=_;rw[JN,if_pos rfl,Lp];rfl
theorem rq{js:List (Option Nat)}{it:IF}{tt:TF}{ρ:aK}{t:Tag}{l:List Int}{p:Int->Bool}{r:aK}(hi:it ρ=some (l.map D.int,t))(hl:l.length<=10000)(hr:∀x,gN 0 (.int x) (.sh []) (jk js ρ)=some (some (.int x,.sh [])::r))(h:∀x∈l,tt (some (.int x,.sh [])::r)=some (p x)):
  ck js it (gN 0) tt (af 0) ρ=some (iL (l.filter p),.own):=by
 have:=Bc (tt:=tt) (te:=af 0) hi hl (λx mx=>by
  by_cases hp:p x=true
  .rw[if_pos hp];exact wG (hr x) (by rw[h x mx,hp]) rfl rfl
  .rw[if_neg hp];exact wY (hr x) (by rw[h x mx,aeZ.mpr hp]))
 rw[NP] at this;exact this
theorem Xp(g:iw L)(ls row:List Int):∃wt dW,yf (iL ls) [ay L,iL row]=some (iL wt,iL dW)/\(∀x∈wt,1<=x/\x<=(L.length:Int))/\wt.length<=24:=by
 have i8:=g.ln;have hp:e2 f6 (eC (.int 10)) (eC (.int 12)) [some (iL ls,.own),some (ay L,.sh []),some (iL row,.sh []),none,none,none]=some (.int 1000000000000,.own):=by kernel_rfl
 obtain⟨c,l1,c1,c2,x3⟩:=p9 (ρ:=[some (iL ls,.own),some (ay L,.sh []),some (iL row,.sh []),none,none,none]) (i:=0) rfl hp (by omega);have q1:cZ (ir 3 (xM 0 dX (eO (xP (e2 f6 (eC (.int 10)) (eC (.int 12)))) fN))) [some (iL ls,.own),some (ay L,.sh []),some (iL row,.sh []),none,none,none]=some (.nx [some (iL l1,.own),some (ay L,.sh []),some (iL row,.sh []),some (.int c,.own),none,none]):=ly (uF x3);obtain⟨s,l2,s1,s2,x4⟩:=p9 (ρ:=[some (iL l1,.own),some (ay L,.sh []),some (iL row,.sh []),some (.int c,.own),none,none]) (i:=0) (ls:=l1) (fm:=eC (.int 6)) (m:=6) (t:=.own) rfl rfl (by omega);have x5:=Jl (op:=aX) (f:=xP (eC (.int 1))) (ρ:=[some (iL l1,.own),some (ay L,.sh []),some (iL row,.sh []),some (.int c,.own),none,none]) (d:=.int (1+s)) rfl x4 rfl;have q2:cZ (ir 4 (x2 aX (xP (eC (.int 1))) (xM 0 dX (eO (xP (eC (.int 6))) fN)))) [some (iL l1,.own),some (ay L,.sh []),some (iL row,.sh []),some (.int c,.own),none,none]=some (.nx [some (iL l2,.own),some (ay L,.sh []),some (iL row,.sh []),some (.int c,.own),some (.int (1+s),.own),none]):=ly (uF x5);have hl:e2 aX (e1 bX (af 1)) (eC (.int 1)) [some (iL l2,.own),some (ay L,.sh []),some (iL row,.sh []),some (.int c,.own),some (.int (1+s),.own),none]=some (.int ((L.length:Int)+1),.own):=by
  have v1:af 1 [some (iL l2,.own),some (ay L,.sh []),some (iL row,.sh []),some (.int c,.own),some (.int (1+s),.own),none]=some (.lst (L.map gO),.sh []):=rfl;rw[bL,eE,v1,eG,eT,mE,List.length_map,gY,cg,tL];rfl
 have hc:=rq (js:=[none,some 2]) (tt:=tV (e2 (jD true) (af 0) (af 1))) (p:=λx=>!decide (x∈row)) (r:=[some (iL row,.sh [])]) (ir2 (f:=eC (.int 1)) (i:=1) rfl hl rfl (vz (by omega) (by omega))) (by unfold cR;rw[List.length_map,adm];omega) (λx=>rfl) (λx mx=>Yy rfl rfl);rw[show((L.length:Int)+1-1).toNat=L.length by omega] at hc;generalize hpl:(cR 1 L.length).filter (λx=>!decide (x∈row))=pool at hc;have IV:∀x∈pool,1<=x/\x<=(L.length:Int):=λx mx=>by
  rw[<- hpl] at mx;have:=tQ.mp (ad0.mp mx).1;omega
 have CB:pool.length<=24:=by
  rw[<- hpl];refine adX (aeV _ _) ?_;unfold cR;rw[List.length_map,adm];exact i8
 have q3:cZ (aM 5 (ck [none,some 2] (rT (eC (.int 1)) (e2 aX (e1 bX (af 1)) (eC (.int 1)))) (gN 0) (tV (e2 (jD true) (af 0) (af 1))) (af 0))) [some (iL l2,.own),some (ay L,.sh []),some (iL row,.sh []),some (.int c,.own),some (.int (1+s),.own),none]=some (.nx [some (iL l2,.own),some (ay L,.sh []),some (iL row,.sh []),some (.int c,.own),some (.int (1+s),.own),some (iL pool,.own)]):=by
  refine ly ?_;rw[eZ,hc];rfl
 have qo:=rq (js:=[none,some 4,some 3]) (it:=bh (af 5)) (ρ:=[some (iL l2,.own),some (ay L,.sh []),some (iL row,.sh []),some (.int c,.own),some (.int (1 + s),.own),some (iL pool,.own)]) (tt:=iz (tV (e2 j0 (af 1) (eC (.int 1)))) (tV (e2 oEq (aC bB (ah (af 2) (ah (e2 aX (eC (.int 300)) (af 0)) (ah (eC (.int 2)) aj)))) (eC (.int 0))))) (p:=λx=>decide (1 + s > 1)||(mix c (300 + x) 2 == 0)) (r:=[some (.int (1 + s),.sh []),some (.int c,.sh [])]) rfl (by omega) (λx=>rfl) (λx cU=>by
  obtain⟨h1,h2⟩:=IV x cU;refine sQ rfl ?_;rw[eY,bL,mx rfl (oq rfl) rfl (by omega) (by omega),eG,cg];rfl)
 refine⟨pool.filter (λx=>decide (1+s > 1)||(mix c (300+x) 2==0)),l2,AA rfl ?_,λx cU=>IV x (ad0.mp cU).1,adX (aeV _ _) CB⟩;show DR [some (iL ls,.own),some (ay L,.sh []),some (iL row,.sh []),none,none,none]=_;unfold DR;rw[aW,q1,bf,aW,q2,bf,aW,q3,bf];unfold yM;rw[qo];rfl
structure WL(w:List D->D):Prop extends uE w where
 ls:∀l:List Int,iO (dR w l)=some (iL l)
theorem V9:WL D.lst:=⟨wL,λl=>Zj⟩
theorem Vk:WL D.tup:=⟨wT,λl=>Jh⟩
theorem OJ{w1 w2:List D->D}(W1:WL w1)(W2:WL w2)(v1:af 1 ρ=some (dR w1 a,t1))(v2:af 2 ρ=some (dR w2 b,t2))(hl:a.length+b.length<=100):e2 qO (e1 iO (af 1)) (e1 iO (af 2)) ρ=some (iL (a++b),.own):=by
 rw[bL,eE,eE,v1,v2,eT,eT,W1.ls,W2.ls,gY,gY,cg];unfold iL;rw[Qx (by unfold PySem.sizeLine;omega)];rfl
noncomputable def adds(m l:List Int):List Int:=l.foldl add m
theorem L3:∀{l m:List Int}{x:Int},x∈adds m l↔x∈m\/x∈l
 |[],m,x=>by simp[adds]
 |a::l,m,x=>by
  have:=L3 (l:=l) (m:=add m a) (x:=x);show x∈adds (add m a) l↔_;rw[this,L1,abh,or_assoc]
noncomputable def pq(x:Int):D:=.tup [.int x,.bl true]
theorem Oe:∀l:List Int,jg (l.map pq)=some (l.map kB)
 |[]=>rfl
 |p::r=>by
  rw[aaH];show(match iP (.int p),jg (r.map pq) with|some k,some ps=>if aH (.bl true)=true then some ((k,D.bl true)::ps) else none|_,_=>none)=_;rw[Oe r];rfl
theorem KH:∀(l m:List Int),(l.map kB).foldl (λm p=>putD m p.1 p.2) (m.map kB)=(adds m l).map kB
 |[],_=>rfl
 |p::r,m=>by rw[aaH,ad5];show(r.map kB).foldl _ (putD (m.map kB) (Sum.inl p:Key) (.bl true))=_;rw[JV];exact KH r _
theorem PF:jd (.lst (l.map pq))=some (dB (adds [] l)):=by
 show(jg (l.map pq)).map _=_;rw[Oe];show some (D.bD ((l.map kB).foldl (λm p=>putD m p.1 p.2) []))=_;rw[show([]:List (Key×D))=([]:List Int).map kB from rfl,KH];rfl
theorem Nj(g:iw L){w1 w2 w3:List D->D}(W1:WL w1)(W2:WL w2)(W3:WL w3)(hl:a.length+b.length<=100)(hw:∀x∈wt,1<=x/\x<=(L.length:Int))(nF:wt.length<=100):lM [obj (cs L),dR w1 a,dR w2 b,dR w3 wt]=some (iL (wt.filter (jS (cs L) (a++b)))):=by
 refine dU rfl ?_;show Et [some (obj (cs L),.sh []),some (dR w1 a,.sh []),some (dR w2 b,.sh []),some (dR w3 wt,.sh []),none]=_;have EM:=OJ W1 W2 (a:=a) (b:=b) (ρ:=[some (obj (cs L),.sh []),some (dR w1 a,.sh []),some (dR w2 b,.sh []),some (dR w3 wt,.sh []),none]) (t1:=.sh []) (t2:=.sh []) rfl rfl hl;have hc:=mw (js:=[none]) (g:=gN 0) (tt:=dG) (te:=je (ah (af 0) (ah (eC (.bl true)) aj))) (k:=λd=>match d with | .int x=>some (pq x) | _=>none) (rH EM) (by rw[List.length_map,acZ];exact size_le (by omega)) (λd m=>by
  obtain⟨x,cU,rfl⟩:=adi.mp m;exact wG (aG:=[some (.int x,.sh [])]) (tg:=.sh []) rfl rfl rfl rfl)
 have e:((a++b).map D.int).filterMap (λd=>match d with|.int x=>some (pq x)|_=>none)=(a++b).map pq:=by
  rw[aeB];exact nW pq _
 rw[e] at hc;have q1:aM 4 (e1 jd (ck [none] (bh (e2 qO (e1 iO (af 1)) (e1 iO (af 2)))) (gN 0) dG (je (ah (af 0) (ah (eC (.bl true)) aj))))) [some (obj (cs L),.sh []),some (dR w1 a,.sh []),some (dR w2 b,.sh []),some (dR w3 wt,.sh []),none]=some (.nx [some (obj (cs L),.sh []),some (dR w1 a,.sh []),some (dR w2 b,.sh []),some (dR w3 wt,.sh []),some (dB (adds [] (a++b)),.own)]):=by
  rw[eZ,eE,hc,eT,PF];rfl
 have qo:=rq (js:=[none,some 0,some 4]) (it:=bh (af 3)) (ρ:=[some (obj (cs L),.sh []),some (dR w1 a,.sh []),some (dR w2 b,.sh []),some (dR w3 wt,.sh []),some (dB (adds [] (a++b)),.own)]) (tt:=tV (e1 jB (ck [none,some 2] (bh (bZ "Changes" "leans_of" lY (af 1) (ah (af 0) aj))) (gN 0) dG (e2 (qq false) (af 0) (af 1))))) (p:=jS (cs L) (a++b)) (r:=[some (obj (cs L),.sh []),some (dB (adds [] (a++b)),.sh [])]) (W3.it (ds:=wt.map D.int) (o:=[]) rfl) (by omega) (λx=>rfl) (λx cU=>by
  obtain⟨h1,h2⟩:=hw x cU;have hm:bZ "Changes" "leans_of" lY (af 1) (ah (af 0) aj) [some (.int x,.sh []),some (obj (cs L),.sh []),some (dB (adds [] (a++b)),.sh [])]=some (iL (lean (sec (cs L)) x),.own):=kG (C:=cs L) (t:=.sh []) (t2:=.sh []) rfl rfl (JM h1 (by rw[List.length_map];exact h2));have:=x_ (js:=[none,some 2]) (g:=gN 0) (te:=e2 (qq false) (af 0) (af 1)) (ρ:=[some (.int x,.sh []),some (obj (cs L),.sh []),some (dB (adds [] (a++b)),.sh [])]) (p:=λy=>decide (y∈a++b)) (rH hm) (by have:=(tY g).ld.i9 x;omega) (λy my=>by
   refine lO (aG:=[some (.int y,.sh []),some (dB (adds [] (a++b)),.sh [])]) rfl rfl ?_;rw[bL];show k2 (qq false) (some (.int y,.sh [])) (some (dB (adds [] (a++b)),.sh []))=_;rw[cg,X6,show decide (y∈adds [] (a++b))=decide (y∈a++b) from decide_eq_decide.mpr (by rw[L3];simp)];rfl)
  rw[eY,this];rfl)
 unfold Et;rw[aW,q1,bf,eV,qo];rfl
theorem YX(g:iw L){w1 w2:List D->D}(W1:WL w1)(W2:WL w2)(hl:a.length+b.length<=100)(hb:∀x∈a++b,1<=x/\x<=(L.length:Int))(h:iQ [] (iH (cs L) (a++b))=some v):vY [obj (cs L),dR w1 a,dR w2 b]=some (aP (jm (nz v))):=by
 refine dU rfl ?_;show DC [some (obj (cs L),.sh []),some (dR w1 a,.sh []),some (dR w2 b,.sh [])]=_;have EM:=OJ W1 W2 (a:=a) (b:=b) (ρ:=[some (obj (cs L),.sh []),some (dR w1 a,.sh []),some (dR w2 b,.sh [])]) (t1:=.sh []) (t2:=.sh []) rfl rfl hl;have v0:af 0 [some (obj (cs L),.sh []),some (dR w1 a,.sh []),some (dR w2 b,.sh [])]=some (obj (cs L),.sh []):=rfl;have fs:=TV (C:=cs L) wL (row:=a++b) (tY g) (λx cU=>by rw[List.length_map];exact hb x cU) (by rw[acZ];omega) h;unfold DC;rw[eV,eE,s_call,br,br,EM,v0,fD,bO,bO,eS];simp only[aaH,adn];show lJ (k1 jd ((uV [obj (cs L),dR D.lst (a++b)]).map _))=_;rw[fs,gY,eT];unfold dS;rw[U3];rfl
theorem XG(h:∀k,gV u k=gV v k)(E:List Ed):bad u E=bad v E:=by
 unfold bad
 congr 1
 refine List.filter_congr λp _=>?_
 unfold jQ;have:=h p.1;unfold gV at this;rw[this]
theorem WH(g:iw L)(h1:1<=m)(h2:m<=(L.length:Int)):vF [obj (cs L),aP v,.int m]=some (.bl (jq (cs L) v m)):=by
 refine dU rfl ?_;show Fx [some (obj (cs L),.sh []),some (aP v,.sh []),some (.int m,.sh [])]=_;have hm:bZ "Changes" "edits_of" jA (af 0) (ah (af 2) aj) [some (obj (cs L),.sh []),some (aP v,.sh []),some (.int m,.sh [])]=some (eL (bV (cs L) m),.own):=kG rfl rfl (Ce h1 (by rw[List.length_map];exact h2));have v1:af 1 [some (obj (cs L),.sh []),some (aP v,.sh []),some (.int m,.sh [])]=some (aP v,.sh []):=rfl;have fm:=Jx (es:=v) ((tY g).ed m) (by omega) D.lst rfl;unfold Fx;rw[eV,bL,s_call,br,br,hm,v1,fD,bO,bO,eS];simp only[aaH,adn];unfold eL;rw[fm,gY,eG,cg,NN];rfl
theorem QG(g:iw L){w1 w2 w3:List D->D}(W1:WL w1)(W2:WL w2)(W3:WL w3)(hl:a.length+b.length<=100)(hb:∀x∈a++b,1<=x/\x<=(L.length:Int))(h:iQ [] (iH (cs L) (a++b))=some v)(hv:(v.map (·.1)).Nodup)(hw:∀x∈wt,1<=x/\x<=(L.length:Int))(nF:wt.length<=100):pZ [obj (cs L),dR w1 a,dR w2 b,dR w3 wt]=some (iL ((wt.filter (jS (cs L) (a++b))).filter (jq (cs L) v))):=by
 refine dU rfl ?_;show BF [some (obj (cs L),.sh []),some (dR w1 a,.sh []),some (dR w2 b,.sh []),some (dR w3 wt,.sh []),none]=_;have q1:aM 4 (aC vY (ah (af 0) (ah (af 1) (ah (af 2) aj)))) [some (obj (cs L),.sh []),some (dR w1 a,.sh []),some (dR w2 b,.sh []),some (dR w3 wt,.sh []),none]=some (.nx [some (obj (cs L),.sh []),some (dR w1 a,.sh []),some (dR w2 b,.sh []),some (dR w3 wt,.sh []),some (aP (jm (nz v)),.own)]):=by
  have v0:ah (af 0) (ah (af 1) (ah (af 2) aj)) [some (obj (cs L),.sh []),some (dR w1 a,.sh []),some (dR w2 b,.sh []),some (dR w3 wt,.sh []),none]=some [(obj (cs L),.sh []),(dR w1 a,.sh []),(dR w2 b,.sh [])]:=rfl;rw[eZ,s_call,v0,eS];simp only[aaH,adn];rw[YX g W1 W2 hl hb h];rfl
 have hf:aC lM (ah (af 0) (ah (af 1) (ah (af 2) (ah (af 3) aj)))) [some (obj (cs L),.sh []),some (dR w1 a,.sh []),some (dR w2 b,.sh []),some (dR w3 wt,.sh []),some (aP (jm (nz v)),.own)]=some (iL (wt.filter (jS (cs L) (a++b))),.own):=by
  have v0:ah (af 0) (ah (af 1) (ah (af 2) (ah (af 3) aj))) [some (obj (cs L),.sh []),some (dR w1 a,.sh []),some (dR w2 b,.sh []),some (dR w3 wt,.sh []),some (aP (jm (nz v)),.own)]=some [(obj (cs L),.sh []),(dR w1 a,.sh []),(dR w2 b,.sh []),(dR w3 wt,.sh [])]:=rfl;rw[s_call,v0,eS];simp only[aaH,adn];rw[Nj g W1 W2 W3 hl hw nF];rfl
 generalize uh:wt.filter (jS (cs L) (a++b))=fr at hf;have ZV:∀x∈fr,x∈wt:=λx cU=>by rw[<- uh] at cU;exact(ad0.mp cU).1
 have Td:fr.length<=100:=by rw[<- uh];exact adX (aeV _ _) nF
 have qo:=rq (js:=[none,some 0,some 4]) (ρ:=[some (obj (cs L),.sh []),some (dR w1 a,.sh []),some (dR w2 b,.sh []),some (dR w3 wt,.sh []),some (aP (jm (nz v)),.own)]) (tt:=tV (aC vF (ah (af 1) (ah (af 2) (ah (af 0) aj))))) (p:=jq (cs L) v) (r:=[some (obj (cs L),.sh []),some (aP (jm (nz v)),.sh [])]) (rH hf) (by omega) (λx=>rfl) (λx cU=>by
  obtain⟨h1,h2⟩:=hw x (ZV x cU);have v0:ah (af 1) (ah (af 2) (ah (af 0) aj)) [some (.int x,.sh []),some (obj (cs L),.sh []),some (aP (jm (nz v)),.sh [])]=some [(obj (cs L),.sh []),(aP (jm (nz v)),.sh []),(.int x,.sh [])]:=rfl;rw[eY,s_call,v0,eS];simp only[aaH,adn];rw[WH g h1 h2];have:jq (cs L) (jm (nz v)) x=jq (cs L) v x:=by
   unfold jq;rw[XG (u:=jm (nz v)) (v:=v) (λk=>O8 hv k)]
  rw[this];rfl)
 unfold BF;rw[aW,q1,bf,eV,qo];rfl
theorem X_:En=b6 2 2 (g_ λ_=>none):=rfl
theorem HS:Eu=b6 2 2 (g_ En):=rfl
theorem NG:AV=b6 2 2 (g_ Eu):=rfl
theorem Nb:zw=b6 2 2 (g_ AV):=rfl
theorem same_int{G:List D->Option D}(a:Int):b6 2 2 (g_ G) [.int a,.int a]=some (.bl true):=by
 refine dU rfl ?_;show g_ G [some (.int a,.sh []),some (.int a,.sh [])]=_;have c1:tV (e1 (nZ "tuple") (af 1)) [some (.int a,.sh []),some (.int a,.sh [])]=some false:=rfl;have c2:tV (e1 (gp "list") (af 1)) [some (.int a,.sh []),some (.int a,.sh [])]=some false:=rfl;have c3:tV (e2 iW (af 1) (eC .aE)) [some (.int a,.sh []),some (.int a,.sh [])]=some false:=rfl;have c4:tV (e1 (gp "str") (af 1)) [some (.int a,.sh []),some (.int a,.sh [])]=some false:=rfl;have c5:e1 (gp "int") (af 0) [some (.int a,.sh []),some (.int a,.sh [])]=some (.bl true,.own):=rfl;have c6:e1 v7 (e1 (gp "bool") (af 0)) [some (.int a,.sh []),some (.int a,.sh [])]=some (.bl true,.own):=rfl;have c7:e2 oEq (af 0) (af 1) [some (.int a,.sh []),some (.int a,.sh [])]=some (.bl (a==a),.own):=rfl;unfold g_;rw[aW,eN,c1,kg,gC,bf,aW,eN,c2,kg,gC,bf,aW,eN,c3,kg,gC,bf,aW,eN,c4,kg,gC,bf,eV,vg,c5,uq,vg,c6,uq,c7,aeo];rfl
theorem all_true{l:List Int}:l.all (λ_=>true)=true:=by simp
theorem HQ(h1:0<=x)(h2:x<ds.length):∃d∈ds,cS ds x=some d:=by
 have cT:x.toNat<ds.length:=by omega
 refine⟨ds[x.toNat],aeD cT,?_⟩;unfold cS ku;rw[if_pos (by omega),if_pos (by omega),adk,abL cT]
theorem zV{G:List D->Option D}(hl:ds.length<=1000)(h:∀d∈ds,G [d,d]=some (.bl true)):b6 2 2 (g_ G) [.lst ds,.lst ds]=some (.bl true):=by
 refine dU rfl ?_;show g_ G [some (.lst ds,.sh []),some (.lst ds,.sh [])]=_;have c1:tV (e1 (nZ "tuple") (af 1)) [some (.lst ds,.sh []),some (.lst ds,.sh [])]=some false:=rfl;have c2:tV (e1 (gp "list") (af 1)) [some (.lst ds,.sh []),some (.lst ds,.sh [])]=some true:=rfl;have l0:e1 bX (af 0) [some (.lst ds,.sh []),some (.lst ds,.sh [])]=some (.int ds.length,.own):=by
  have v:af 0 [some (.lst ds,.sh []),some (.lst ds,.sh [])]=some (.lst ds,.sh []):=rfl;rw[eE,v,eT,mE];rfl
 have l1:e1 bX (af 1) [some (.lst ds,.sh []),some (.lst ds,.sh [])]=some (.int ds.length,.own):=by
  have v:af 1 [some (.lst ds,.sh []),some (.lst ds,.sh [])]=some (.lst ds,.sh []):=rfl;rw[eE,v,eT,mE];rfl
 have c3:iz (dF (tV (e1 (gp "list") (af 0)))) (tV (e2 gD (e1 bX (af 0)) (e1 bX (af 1)))) [some (.lst ds,.sh []),some (.lst ds,.sh [])]=some (false||!((ds.length:Int)==ds.length)):=by
  refine sQ rfl ?_;rw[eY,bL,l0,l1,cg];rfl
 have hc:=x_ (js:=[none,some 0,some 1]) (g:=gN 0) (te:=aC G (ah (dQ (af 1) (af 0)) (ah (dQ (af 2) (af 0)) aj))) (p:=λ_=>true) (Fd l1 hl) (by unfold cR;rw[List.length_map,adm];omega) (λx cU=>by
  obtain⟨h1,h2⟩:=tQ.mp cU;obtain⟨d,md,hd⟩:=HQ (ds:=ds) h1 (by omega);refine lO (aG:=[some (.int x,.sh []),some (.lst ds,.sh []),some (.lst ds,.sh [])]) rfl rfl ?_;have i1:dQ (af 1) (af 0) [some (.int x,.sh []),some (.lst ds,.sh []),some (.lst ds,.sh [])]=some (d,.sh []):=by
   show(cS ds x).map _=_;rw[hd];rfl
  have i2:dQ (af 2) (af 0) [some (.int x,.sh []),some (.lst ds,.sh []),some (.lst ds,.sh [])]=some (d,.sh []):=by
   show(cS ds x).map _=_;rw[hd];rfl
  rw[s_call,br,br,i1,i2,fD,bO,bO,eS];simp only[aaH,adn];rw[h d md];rfl)
 unfold g_;rw[aW,eN,c1,kg,gC,bf,aW,eN,c2,oR,aW,eN,c3,aeo];show jH _ (jH _ (bx _))=_;rw[gC,bf,eV,hc,all_true];rfl
theorem SE{G:List D->Option D}(hl:ds.length<=1000)(hi:∀d∈ds,aH d=true)(h:∀d∈ds,G [d,d]=some (.bl true)):b6 2 2 (g_ G) [.tup ds,.tup ds]=some (.bl true):=by
 refine dU rfl ?_;show g_ G [some (.tup ds,.sh []),some (.tup ds,.sh [])]=_;have c1:tV (e1 (nZ "tuple") (af 1)) [some (.tup ds,.sh []),some (.tup ds,.sh [])]=some true:=rfl;have l0:e1 bX (af 0) [some (.tup ds,.sh []),some (.tup ds,.sh [])]=some (.int ds.length,.own):=rfl;have l1:e1 bX (af 1) [some (.tup ds,.sh []),some (.tup ds,.sh [])]=some (.int ds.length,.own):=rfl;have c3:iz (dF (tV (e1 (nZ "tuple") (af 0)))) (tV (e2 gD (e1 bX (af 0)) (e1 bX (af 1)))) [some (.tup ds,.sh []),some (.tup ds,.sh [])]=some (false||!((ds.length:Int)==ds.length)):=by
  refine sQ rfl ?_;rw[eY,bL,l0,l1,cg];rfl
 have hc:=x_ (js:=[none,some 0,some 1]) (g:=gN 0) (te:=aC G (ah (e2 cY (af 1) (af 0)) (ah (e2 cY (af 2) (af 0)) aj))) (p:=λ_=>true) (Fd l1 hl) (by unfold cR;rw[List.length_map,adm];omega) (λx cU=>by
  obtain⟨h1,h2⟩:=tQ.mp cU;obtain⟨d,md,hd⟩:=HQ (ds:=ds) h1 (by omega);refine lO (aG:=[some (.int x,.sh []),some (.tup ds,.sh []),some (.tup ds,.sh [])]) rfl rfl ?_;have io:cY (.tup ds) (.int x)=some d:=by
   show((cS ds x).bind λd=>if aH d=true then some d else none)=_;rw[hd,adk,if_pos (hi d md)]
  have i1:e2 cY (af 1) (af 0) [some (.int x,.sh []),some (.tup ds,.sh []),some (.tup ds,.sh [])]=some (d,.own):=by
   rw[bL];show k2 cY (some (.tup ds,.sh [])) (some (.int x,.sh []))=_;rw[cg,io];rfl
  have i2:e2 cY (af 2) (af 0) [some (.int x,.sh []),some (.tup ds,.sh []),some (.tup ds,.sh [])]=some (d,.own):=by
   rw[bL];show k2 cY (some (.tup ds,.sh [])) (some (.int x,.sh []))=_;rw[cg,io];rfl
  rw[s_call,br,br,i1,i2,fD,bO,bO,eS];simp only[aaH,adn];rw[h d md];rfl)
 unfold g_;rw[aW,eN,c1,oR,aW,eN,c3,aeo];show jH _ (jH _ (bx _))=_;rw[gC,bf,eV,hc,all_true];rfl
theorem same_ints(hl:l.length<=1000):jG [iL l,iL l]=some (.bl true):=by
 show zw _=_;rw[Nb];refine zV (by rw[List.length_map];exact hl) λd m=>?_
 obtain⟨x,_,rfl⟩:=adi.mp m;rw[NG];exact same_int x
theorem Zn(hl:l.length<=1000)(hE:E.length<=1000):jG [.lst [.int r,iL l,eL E],.lst [.int r,iL l,eL E]]=some (.bl true):=by
 show zw _=_;rw[Nb];refine zV (by simp) λd m=>?_
 rw[NG];simp only[abh,ac4,aei] at m;rcases m with rfl|rfl|rfl
 .exact same_int r
 .refine zV (by rw[List.length_map];exact hl) λd m=>?_
  obtain⟨x,_,rfl⟩:=adi.mp m;rw[HS];exact same_int x
 .refine zV (by rw[List.length_map];exact hE) λd m=>?_
  obtain⟨p,_,rfl⟩:=adi.mp m;rw[HS];refine SE (by simp) (λd m=>?_) λd m=>?_
  .simp only[abh,ac4,aei] at m;rcases m with rfl|rfl|rfl<;>rfl
  .simp only[abh,ac4,aei] at m;rw[X_];rcases m with rfl|rfl|rfl<;>exact same_int _
theorem V7(h1:1<=m)(h2:m<=L.length):qV [obj L,.int m]=some (.int (ch L m).1):=by
 refine dU rfl ?_;show GH [some (obj L,.sh []),some (.int m,.sh [])]=_;unfold GH;have q:bZ "Changes" "entry_of" kR (af 0) (ah (af 1) aj) [some (obj L,.sh []),some (.int m,.sh [])]=some (ent (ch L m),.own):=kG rfl rfl (DG h1 h2);rw[eV,bL,q,eG,cg];rfl
theorem UG{ps:List (D×Tag)}(h:ρ[i]? = some (some (d0,.own)))(hg:g ρ=some ps)(ha:apart i ps=true)(hG:G d0 (ps.map (·.1))=some (r,d1)):oF i G g ρ=some (.ok r (cL ρ i d1)):=by
 unfold oF;rw[h,hg];dsimp only;rw[if_pos ha,hG];rfl
theorem CF{ps:List (D×Tag)}(h:ρ[i]? = some (some (d0,.own)))(hg:g ρ=some ps)(ha:apart i ps=true)(hG:G d0 (ps.map (·.1))=some (r,d1)):pY j (oF i G g) ρ=some (.nx (lV (cL ρ i d1) j r .own)):=by
 unfold pY;rw[UG h hg ha hG]
theorem JD:∀{row:List Int}{v:f7},(v.map (·.1)).Nodup->((yb C v row).map (·.1)).Nodup
 |[],v,h=>h
 |m::r,v,h=>JD (v:=cJ v (bV C m)) (Co _ _ h)
theorem AR{r:Option Out}(hk:af 12 ρ=some (.int k,.sh [12]))(hi:ρ[i]? = some (some (iL l,.own)))(c:∀w,WL w->g (ρ.set i (some (dR w l,.own)))=r):aB (bG (tV (e2 oEq (e2 vM (af 12) (eC (.int z))) (eC (.int z)))) (aM i (e1 gw (af i))) bx) g ρ=r:=by
 refine aaK (Wh (Ct (Ct hk rfl rfl) rfl rfl)) ?_;cases(Builtin.bitAnd k z==z) with
 |false=>
  refine sq rfl ?_;have:=c D.lst V9
  rwa [show ρ.set i (some (dR D.lst l,.own))=ρ from afu λn=>by
   by_cases e:i=n
   .subst e;have hl:=(acY.mp hi).1;rw[ad9 hl,hi];rfl
   .rw[adH e]] at this
 |true=>
  refine o9 (t:=.own) (z_ (d:=iL l) (t:=.sh [i]) ?_ Oq) (c D.tup Vk);unfold af;rw[hi];rfl
theorem KD{r:Option Out}(h:ρ[i]? = some (some (iL ls,.own)))(hm:fm ρ=some (.int m,t))(h0:0<m)(k:∀(v:Int) (dW:List Int),0<=v->v<m->g ((cL ρ i (iL dW)).set j (some (.int v,.own)))=r):aB (ir j (xM i dX (eO (xP fm) fN))) g ρ=r:=by
 obtain⟨v,dW,a,b,x⟩:=p9 h hm h0;exact sq (uF x) (k v dW a b)
theorem aad(h1:fa ρ=some (iL row,t1))(h2:fb ρ=some (.int cut,t2))(h:cut<=row.length):vZ fa fb ρ=some (iL (row.take cut),.own):=by
 unfold vZ;rw[h1,h2];show(if aN (row.map D.int)=true then some (D.lst (cutD (row.map D.int) none (some (cut:Int))),Tag.own) else none)=_;rw[if_pos (gU row),QK (by rw[List.length_map];exact h),<- List.map_take];rfl
theorem VF(h1:fa ρ=some (iL row,t1))(h2:fb ρ=some (.int cut,t2))(h:cut<=row.length):wV fa fb ρ=some (iL (row.drop cut),.own):=by
 unfold wV;rw[h1,h2];show(if aN (row.map D.int)=true then some (D.lst (cutD (row.map D.int) (some (cut:Int)) none),Tag.own) else none)=_;rw[if_pos (gU row),ON (by rw[List.length_map];exact h),<- List.map_drop];rfl
theorem acH:bX (iL l)=some (.int l.length):=by unfold iL;rw[mE,List.length_map]
noncomputable def b1:SF:=(aB (aM 14 (aC lM (ah (af 9) (ah (af 10) (ah (af 11) (ah (af 5) aj)))))) (aB (aM 15 (aC pZ (ah (af 9) (ah (af 10) (ah (af 11) (ah (af 5) aj)))))) (aB (bG (iz (dF (tV (aC jG (ah (af 14) (ah (af 7) aj))))) (dF (tV (aC jG (ah (af 15) (ah (af 8) aj)))))) (bT (eC (.bl false))) bx) (aB (lP 14) (lP 15)))))
noncomputable def b2:SF:=(aB (aM 17 (cO (ah (bZ "Changes" "rank_of" qV (af 9) (ah (e2 aX (af 16) (eC (.int 1))) aj)) (ah (bZ "Changes" "leans_of" lY (af 9) (ah (e2 aX (af 16) (eC (.int 1))) aj)) (ah (bZ "Changes" "edits_of" jA (af 9) (ah (e2 aX (af 16) (eC (.int 1))) aj)) aj))))) (bG (dF (tV (aC jG (ah (af 17) (ah (cO (ah (cD (dQ (af 2) (af 16)) (eC (.int 0))) (ah (cD (dQ (af 2) (af 16)) (eC (.int 1))) (ah (cD (dQ (af 2) (af 16)) (eC (.int 2))) aj)))) aj))))) (bT (eC (.bl false))) bx))
noncomputable def rW(ns ls:List Int)(L:List Sp)(row:List Int)(cut:Int)(w1 w2 w3:List D->D)(wt:List Int)(v:f7)(du fi a b:List Int)(kd:Int)(fB dw dN j7 gI:Slot):aK:=[some (dI ns,.sh []),some (iL ls,.own),some (ay L,.own),some (iL row,.own),some ((.int cut),.own),some (dR w3 wt,.own),some (aP v,.own),some (iL du,.own),some (iL fi,.own),some (obj (cs L),.own),some (dR w1 a,.own),some (dR w2 b,.own),some ((.int kd),.own),fB,dw,dN,j7,gI]
theorem b_1{w1 w2 w3:List D->D}(hd:du.length<=1000)(hf:fi.length<=1000)(hF:lM [obj (cs L),dR w1 a,dR w2 b,dR w3 wt]=some (iL du))(hY:pZ [obj (cs L),dR w1 a,dR w2 b,dR w3 wt]=some (iL fi)):b1 (rW ns ls L row cut w1 w2 w3 wt v du fi a b kd (some (.int j,.sh [])) (dw) (dN) (none) (none))=some (.nx (rW ns ls L row cut w1 w2 w3 wt v du fi a b kd (some (.int j,.sh [])) (some (iL [],.own)) (some (iL [],.own)) (none) (none))):=by
 have q1:aM 14 (aC lM (ah (af 9) (ah (af 10) (ah (af 11) (ah (af 5) aj))))) (rW ns ls L row cut w1 w2 w3 wt v du fi a b kd (some (.int j,.sh [])) (dw) (dN) (none) (none))=some (.nx (rW ns ls L row cut w1 w2 w3 wt v du fi a b kd (some (.int j,.sh [])) (some (iL du,.own)) (dN) (none) (none))):=by
  have hg:ah (af 9) (ah (af 10) (ah (af 11) (ah (af 5) aj))) (rW ns ls L row cut w1 w2 w3 wt v du fi a b kd (some (.int j,.sh [])) (dw) (dN) (none) (none))=some [(obj (cs L),.sh [9]),(dR w1 a,.sh [10]),(dR w2 b,.sh [11]),(dR w3 wt,.sh [5])]:=rfl;rw[eZ,s_call,hg,eS];simp only[aaH,adn];rw[hF];rfl
 have q2:aM 15 (aC pZ (ah (af 9) (ah (af 10) (ah (af 11) (ah (af 5) aj))))) (rW ns ls L row cut w1 w2 w3 wt v du fi a b kd (some (.int j,.sh [])) (some (iL du,.own)) (dN) (none) (none))=some (.nx (rW ns ls L row cut w1 w2 w3 wt v du fi a b kd (some (.int j,.sh [])) (some (iL du,.own)) (some (iL fi,.own)) (none) (none))):=by
  have hg:ah (af 9) (ah (af 10) (ah (af 11) (ah (af 5) aj))) (rW ns ls L row cut w1 w2 w3 wt v du fi a b kd (some (.int j,.sh [])) (some (iL du,.own)) (dN) (none) (none))=some [(obj (cs L),.sh [9]),(dR w1 a,.sh [10]),(dR w2 b,.sh [11]),(dR w3 wt,.sh [5])]:=rfl;rw[eZ,s_call,hg,eS];simp only[aaH,adn];rw[hY];rfl
 have q3:iz (dF (tV (aC jG (ah (af 14) (ah (af 7) aj))))) (dF (tV (aC jG (ah (af 15) (ah (af 8) aj))))) (rW ns ls L row cut w1 w2 w3 wt v du fi a b kd (some (.int j,.sh [])) (some (iL du,.own)) (some (iL fi,.own)) (none) (none))=some (false||false):=by
  refine sQ ?_ ?_
  .have hg:ah (af 14) (ah (af 7) aj) (rW ns ls L row cut w1 w2 w3 wt v du fi a b kd (some (.int j,.sh [])) (some (iL du,.own)) (some (iL fi,.own)) (none) (none))=some [(iL du,.sh [14]),(iL du,.sh [7])]:=rfl;rw[lC,eY,s_call,hg,eS];simp only[aaH,adn];rw[same_ints hd];rfl
  .have hg:ah (af 15) (ah (af 8) aj) (rW ns ls L row cut w1 w2 w3 wt v du fi a b kd (some (.int j,.sh [])) (some (iL du,.own)) (some (iL fi,.own)) (none) (none))=some [(iL fi,.sh [15]),(iL fi,.sh [8])]:=rfl;rw[lC,eY,s_call,hg,eS];simp only[aaH,adn];rw[same_ints hf];rfl
 have q4:lP 14 (rW ns ls L row cut w1 w2 w3 wt v du fi a b kd (some (.int j,.sh [])) (some (iL du,.own)) (some (iL fi,.own)) (none) (none))=some (.nx (rW ns ls L row cut w1 w2 w3 wt v du fi a b kd (some (.int j,.sh [])) (some (iL [],.own)) (some (iL fi,.own)) (none) (none))):=Mx rfl;have q5:lP 15 (rW ns ls L row cut w1 w2 w3 wt v du fi a b kd (some (.int j,.sh [])) (some (iL [],.own)) (some (iL fi,.own)) (none) (none))=some (.nx (rW ns ls L row cut w1 w2 w3 wt v du fi a b kd (some (.int j,.sh [])) (some (iL [],.own)) (some (iL [],.own)) (none) (none))):=Mx rfl;unfold b1;rw[aW,q1,bf,aW,q2,bf,aW,eN,q3];show jH _ (bx _)=_;rw[gC,bf,aW,q4,bf,q5]
theorem b_2{cut:Int}{w1 w2 w3:List D->D}{wt:List Int}(g:iw L)(hj:0<=j/\j<(L.length:Int)):∃NO,b2 (rW ns ls L row cut w1 w2 w3 wt v du fi a b kd (fB) (dw) (dN) (some (.int j,.sh [])) (gI))=some (.nx (rW ns ls L row cut w1 w2 w3 wt v du fi a b kd (fB) (dw) (dN) (some (.int j,.sh [])) (NO))):=by
 have h1:1<=j+1:=by omega
 have h2:j+1<=(L.length:Int):=by omega
 have jj:j+1<=((cs L).length:Int):=by rw[List.length_map];exact h2
 have hk:e2 aX (af 16) (eC (.int 1)) (rW ns ls L row cut w1 w2 w3 wt v du fi a b kd (fB) (dw) (dN) (some (.int j,.sh [])) (gI))=some (.int (j+1),.own):=rfl;have v9:af 9 (rW ns ls L row cut w1 w2 w3 wt v du fi a b kd (fB) (dw) (dN) (some (.int j,.sh [])) (gI))=some (obj (cs L),.sh [9]):=rfl;have m0:=kG (mm:="rank_of") v9 hk (V7 h1 jj);have m1:=kG (mm:="leans_of") v9 hk (JM h1 jj);have m2:=kG (mm:="edits_of") v9 hk (Ce h1 jj);refine⟨some (.lst [.int (ch (cs L) (j+1)).1,iL (lean (sec (cs L)) (j+1)),eL (bV (cs L) (j+1))],.own),?_⟩;have q1:aM 17 (cO (ah (bZ "Changes" "rank_of" qV (af 9) (ah (e2 aX (af 16) (eC (.int 1))) aj)) (ah (bZ "Changes" "leans_of" lY (af 9) (ah (e2 aX (af 16) (eC (.int 1))) aj)) (ah (bZ "Changes" "edits_of" jA (af 9) (ah (e2 aX (af 16) (eC (.int 1))) aj)) aj)))) (rW ns ls L row cut w1 w2 w3 wt v du fi a b kd (fB) (dw) (dN) (some (.int j,.sh [])) (gI))=some (.nx (rW ns ls L row cut w1 w2 w3 wt v du fi a b kd (fB) (dw) (dN) (some (.int j,.sh [])) (some (.lst [.int (ch (cs L) (j+1)).1,iL (lean (sec (cs L)) (j+1)),eL (bV (cs L) (j+1))],.own)))):=by
  rw[eZ,wB,br,br,br,m0,m1,m2];rfl
 generalize hZ:(rW ns ls L row cut w1 w2 w3 wt v du fi a b kd (fB) (dw) (dN) (some (.int j,.sh [])) (some (.lst [.int (ch (cs L) (j+1)).1,iL (lean (sec (cs L)) (j+1)),eL (bV (cs L) (j+1))],.own)))=ρ at q1;have v2:af 2 ρ=some (ay L,.sh [2]):=by rw[<- hZ];rfl
 have XH:af 16 ρ=some (.int (j+1-1),.sh []):=by rw[<- hZ,show j+1-1=j by omega];rfl
 have Ys:af 17 ρ=some (.lst [.int (ch (cs L) (j+1)).1,iL (lean (sec (cs L)) (j+1)),eL (bV (cs L) (j+1))],.sh [17]):=by rw[<- hZ];rfl
 have ix:=zW v2 XH h1 h2;obtain⟨f0,f1,f2,_⟩:=vH ix;rw[Gs h1 h2] at f1;rw[JC h1 h2] at f2;rw[BW h1 h2] at f0;have q2:dF (tV (aC jG (ah (af 17) (ah (cO (ah (cD (dQ (af 2) (af 16)) (eC (.int 0))) (ah (cD (dQ (af 2) (af 16)) (eC (.int 1))) (ah (cD (dQ (af 2) (af 16)) (eC (.int 2))) aj)))) aj)))) ρ=some false:=by
  rw[lC,eY,s_call,br,br,Ys,wB,br,br,br,f0,f1,f2,fD,bO,bO,bO,gY,bO,bO,eS];simp only[aaH,adn];rw[Zn (by have:=(tY g).ld.i9 (j+1);omega) (by have:=(pL g (j+1)).i9;omega)];rfl
 unfold b2;rw[aW,q1,bf,eN,q2,kg,gC]
theorem tw{g:SF}{r:Option Out}(au:aK)(h:g au=r)(e:ρ=au:=by rfl):g ρ=r:=by rw[e,h]
noncomputable def o(d:D):Slot:=some (d,.own)
noncomputable def rV(ns l:List Int)(s:List Slot):aK:=some (dI ns,.sh [])::some (iL l,.own)::(s++List.replicate (16-s.length) none)
theorem Yd{ns:List Int}(hl:ns.length<=63):r6 [dI ns]=some (.bl true):=by
 refine dU rfl ?_;obtain⟨L,l1,fL,g⟩:=S3 ns.reverse;have hLn:=g.ln;obtain⟨row,l2,fR,Lx,Uw,v,hv⟩:=SN g l1;have zF:=EY hv;refine o9 (z_ (z_ (d:=dI ns) (t:=.sh []) rfl (YM hl)) RO) ?_;refine tw (rV ns ns.reverse []) ?_;refine sq (CF (d0:=iL ns.reverse) (ps:=[]) rfl rfl rfl fL) ?_;refine tw (rV ns l1 [o (ay L)]) ?_;refine sq (CF (d0:=iL l1) (ps:=[(ay L,.sh [2])]) rfl rfl rfl fR) ?_;refine tw (rV ns l2 [o (ay L),o (iL row)]) ?_;refine KD (ls:=l2) (m:=(row.length:Int)+1) rfl (Ct (z_ (d:=iL row) (t:=.sh [3]) rfl acH) rfl rfl) (by omega) λcu l3 cu1 cu2=>?_
 obtain⟨cut,rfl⟩:∃cut:Nat,cu=cut:=⟨cu.toNat,by omega⟩
 obtain⟨wt,l4,fW,wK,nF⟩:=Xp g l3 row;refine tw (rV ns l3 [o (ay L),o (iL row),o (.int cut)]) ?_;refine sq (CF (d0:=iL l3) (ps:=[(ay L,.sh [2]),(iL row,.sh [3])]) rfl rfl rfl fW) ?_;refine tw (rV ns l4 [o (ay L),o (iL row),o (.int cut),o (iL wt)]) ?_;refine o9 (d:=aP v) (MS (ps:=[(ay L,.sh [2]),(iL row,.sh [3])]) rfl (by rw[zF];exact JF g Lx (by omega))) ?_;refine tw (rV ns l4 [o (ay L),o (iL row),o (.int cut),o (iL wt),o (aP v)]) ?_;refine o9 (rq (p:=jS (cs L) row) (r:=[some (ay L,.sh []),some (iL row,.sh [])]) (t:=.sh [5]) (l:=wt) rfl (by omega) (λx=>rfl) (λx cU=>Lb g (t1:=.sh []) (t2:=.sh []) (t3:=.sh []) rfl rfl rfl (wK x cU).1 (wK x cU).2)) ?_;generalize xK:wt.filter (jS (cs L) row)=du;refine tw (rV ns l4 [o (ay L),o (iL row),o (.int cut),o (iL wt),o (aP v),o (iL du)]) ?_;have e8:∀x∈du,1<=x/\x<=(L.length:Int):=λx cU=>by rw[<- xK] at cU;exact wK x (ad0.mp cU).1
 have qY:du.length<=24:=by rw[<- xK];exact adX (aeV _ _) nF
 refine o9 (rq (p:=jq (cs L) v) (r:=[some (ay L,.sh []),some (aP v,.sh [])]) (t:=.sh [7]) (l:=du) rfl (by omega) (λx=>rfl) (λx cU=>Nz (t1:=.sh []) (t2:=.sh []) (t3:=.sh []) rfl rfl rfl (e8 x cU).1 (e8 x cU).2)) ?_;generalize JX:du.filter (jq (cs L) v)=fi;refine tw (rV ns l4 [o (ay L),o (iL row),o (.int cut),o (iL wt),o (aP v),o (iL du),o (iL fi)]) ?_;have Td:fi.length<=24:=by rw[<- JX];exact adX (aeV _ _) qY
 refine o9 (MS (ps:=[(ay L,.sh [2])]) rfl (U5 g)) ?_;refine tw (rV ns l4 [o (ay L),o (iL row),o (.int cut),o (iL wt),o (aP v),o (iL du),o (iL fi),o (obj (cs L))]) ?_;refine o9 (aad (row:=row) (cut:=cut) (t1:=.sh [3]) (t2:=.sh [4]) rfl rfl (by omega)) ?_;refine o9 (VF (row:=row) (cut:=cut) (t1:=.sh [3]) (t2:=.sh [4]) rfl rfl (by omega)) ?_;have nH:=aeg cut row;have Iu:(row.take cut).length+(row.drop cut).length<=100:=by rw[<- acZ,nH];omega
 generalize row.take cut=a at *;generalize row.drop cut=b at *;refine tw (rV ns l4 [o (ay L),o (iL row),o (.int cut),o (iL wt),o (aP v),o (iL du),o (iL fi),o (obj (cs L)),o (iL a),o (iL b)]) ?_;refine KD (ls:=l4) (m:=8) (t:=.own) rfl rfl (by omega) λkd l5 kd1 kd2=>?_
 refine tw (rV ns l5 [o (ay L),o (iL row),o (.int cut),o (iL wt),o (aP v),o (iL du),o (iL fi),o (obj (cs L)),o (iL a),o (iL b),o (.int kd)]) ?_;refine AR (k:=kd) (l:=a) rfl rfl λw1 LR=>?_
 refine AR (k:=kd) (l:=b) rfl rfl λw2 N4=>?_
 refine AR (k:=kd) (l:=wt) rfl rfl λw3 K6=>?_
 have hF:=Nj g LR N4 K6 (a:=a) (b:=b) (wt:=wt) Iu wK (by omega);have hY:=QG g LR N4 K6 (a:=a) (b:=b) (wt:=wt) (v:=v) Iu (by rw[nH];exact Lx) (by rw[nH];exact hv) (by rw[zF];exact JD ac1) wK (by omega);rw[nH,xK] at hF;rw[nH,xK,JX] at hY;obtain⟨au,lp,fB,dw,dN,rfl⟩:=pS (g:=gN 13) (t:=.sh []) (f:=b1) (λ_ ρ=>∃fB dw dN,ρ=rW ns l5 L row cut w1 w2 w3 wt v du fi a b kd fB dw dN none none)
  (ds:=(List.range (2:Int).toNat).map λi:Nat=>D.int (0 + (i:Int))) (ρ:=rW ns l5 L row cut w1 w2 w3 wt v du fi a b kd none none none none none) (n:=0) ⟨none,none,none,rfl⟩ (λj ρ d hd ⟨fB,dw,dN,e⟩=>by
   subst e;obtain⟨rfl,hj⟩:=yi hd;exact⟨rW ns l5 L row cut w1 w2 w3 wt v du fi a b kd (some (.int j,.sh [])) dw dN none none,_,rfl,.inl (b_1 (by omega) (by omega) hF hY),_,_,_,rfl⟩)
 have QU:cP (iJ (eC (.int 2))) (gN 13) b1 (rW ns l5 L row cut w1 w2 w3 wt v du fi a b kd none none none none none)=some (.nx (rW ns l5 L row cut w1 w2 w3 wt v du fi a b kd fB dw dN none none)):=xZ (zQ (n:=2) (t:=.own) rfl rfl) lp;have hlen:∀j7 gI,e1 bX (af 2) (rW ns l5 L row cut w1 w2 w3 wt v du fi a b kd fB dw dN j7 gI)=some (.int L.length,.own):=λj7 gI=>by
  have v2:af 2 (rW ns l5 L row cut w1 w2 w3 wt v du fi a b kd fB dw dN j7 gI)=some (.lst (L.map gO),.sh [2]):=rfl;rw[eE,v2,eT,mE,List.length_map];rfl
 obtain⟨au,Tu,j7,gI,rfl⟩:=pS (g:=gN 16) (t:=.sh []) (f:=b2) (λ_ ρ=>∃j7 gI,ρ=rW ns l5 L row cut w1 w2 w3 wt v du fi a b kd fB dw dN j7 gI)
  (ds:=(List.range (L.length:Int).toNat).map λi:Nat=>D.int (0 + (i:Int))) (ρ:=rW ns l5 L row cut w1 w2 w3 wt v du fi a b kd fB dw dN none none) (n:=0) ⟨none,none,rfl⟩ (λj ρ d hd ⟨j7,gI,e⟩=>by
   subst e;obtain⟨rfl,hj⟩:=yi hd;obtain⟨NO,st⟩:=b_2 (ns:=ns) (ls:=l5) (L:=L) (row:=row) (cut:=cut) (w1:=w1) (w2:=w2) (w3:=w3) (wt:=wt) (v:=v) (du:=du) (fi:=fi) (a:=a) (b:=b) (kd:=kd) (fB:=fB) (dw:=dw) (dN:=dN) (gI:=gI) (j:=j) g (by omega);exact⟨rW ns l5 L row cut w1 w2 w3 wt v du fi a b kd fB dw dN (some (.int j,.sh [])) gI,_,rfl,.inl st,_,_,rfl⟩)
 have Qa:cP (iJ (e1 bX (af 2))) (gN 16) b2 (rW ns l5 L row cut w1 w2 w3 wt v du fi a b kd fB dw dN none none)=some (.nx (rW ns l5 L row cut w1 w2 w3 wt v du fi a b kd fB dw dN j7 gI)):=xZ (zQ (hlen _ _) (vz (by omega) (by omega))) Tu;have q17:bT (e2 oEq (bZ "Changes" "many" jZ (af 9) aj) (e1 bX (af 2))) (rW ns l5 L row cut w1 w2 w3 wt v du fi a b kd fB dw dN j7 gI)=some (.rt (.bl true)):=by
  have v9:af 9 (rW ns l5 L row cut w1 w2 w3 wt v du fi a b kd fB dw dN j7 gI)=some (obj (cs L),.sh [9]):=rfl;rw[eV,bL,yP v9,hlen,cg,List.length_map];show lJ (Option.map _ (some (D.bl ((L.length:Int)==(L.length:Int)))))=_;rw[aeo];rfl
 show aB (cP _ _ b1) (aB (cP _ _ b2) _) (rW ns l5 L row cut w1 w2 w3 wt v du fi a b kd none none none none none)=_;exact sq QU (sq Qa q17)
end K31
namespace HT
open PySem PySem.W PyProof.Rows
noncomputable def Bp:List Obj->List Obj
 |[]=>[]
 |[a]=>[a]
 |a::_::l=>a::Bp l
noncomputable def C5:Nat->List Obj->BT
 |0,_=>.nil
 |_+1,[]=>.nil
 |k+1,o::l=>.node o (C5 k (Bp l)) (C5 k (Bp l.tail))
noncomputable def nS(tb:String->Option Builtin)(p:Program)(w:World)(uG:Nat)(ann:Option Value):Nat->SharedT->Thread->Option SharedT
 |0,_,_=>none
 |k+1,s,t=>match through t with
  |true=>some s
  |false=>match stepOk uG ann t with
   |false=>none
   |true=>match stepT (denote tb) p w s t with
    |none=>none
    |some (s',t')=>nS tb p w uG ann k s' t'
theorem Na{tb:String->Option Builtin}{ann:Option Value}:∀{k:Nat}{s s':SharedT}{t:Thread},nS tb p w uG ann k s t=some s'->topRun tb p w uG ann k s.abs t=some s'.abs
 |0,_,_,_,h=>by cases h
 |k+1,s,s',t,h=>by
  unfold nS at h;unfold topRun;cases e:through t with
  |true=>rw[e] at h;cases h;rfl
  |false=>
   rw[e] at h;cases o:stepOk uG ann t with
   |false=>rw[o] at h;cases h
   |true=>
    rw[o] at h;cases g:stepT (denote tb) p w s t with
    |none=>rw[g] at h;cases h
    |some r=>obtain⟨s2,t2⟩:=r;rw[g] at h;rw[stepT_spec g];exact Na h
noncomputable def Gi(P:Params):BT:=C5 12 (boot_heap P).objs.toList
noncomputable def lN:Nat:=11
theorem aaA(P:Params):(boot_heap P).objs.size=lN:=by kernel_rfl
theorem boot_abs(P:Params):absHeap (Gi P) lN (boot_heap P).life=boot_heap P:=by kernel_rfl
noncomputable def qE(P:Params)(os:OsState):SharedT:=⟨Gi P,lN,(boot_heap P).life,Array.mk [],boot_drawn,boot_toks,os⟩
theorem Rk{Xt:Shared->Bool}{α:Type}{Yf:Shared->α}{Ya:World->α}{ann:Option Value}
  (he:opening p=plainProg p.main.scope.names) (hf:∀s,fenceModules? p s=some s) (hN:Nat.ble 600 N=true)
  (hz:∀P:Params,((boot_heap P).isNs mainGlobals,(boot_heap P).nsMap mainGlobals "__annotations__")=(true,ann))
  (h:∀(w:World) (os:OsState),(nS treeTable p w lN ann N (qE w.params os) (topStub p)).map (λsT=>
    ((staticsOk (importedModules p.main.body) (boot_heap w.params) sT.abs.heap&&namesBound p sT.abs.heap&&gensDone sT.abs&&laidKept (boot_heap w.params) sT.abs.heap),openSeen q loose (importedModules p.main.body) Xt true sT.abs,Yf sT.abs))=some (true,openGood q loose,Ya w)) :
  LeftO p q loose Xt Yf Ya N:=λw=>by
 obtain⟨⟨hh,gs,d,k,os⟩,e,e'⟩:=aeM.mp (boot_open he hN hf w);obtain⟨rfl,rfl,rfl,rfl⟩:hh=boot_heap w.params/\gs=Array.mk []/\d=boot_drawn/\k=boot_toks:=by simpa using e'
 obtain⟨z1,z2⟩:_/\_:=by simpa only[Prod.mk.injEq] using hz w.params
 obtain⟨sT,r,l⟩:=aeM.mp (h w os);obtain⟨l1,l2,l3⟩:_/\_/\_:=by simpa only[Prod.mk.injEq] using l
 have r':=Na r;have ab:(qE w.params os).abs=⟨boot_heap w.params,Array.mk [],boot_drawn,boot_toks,os⟩:=by
  show Shared.mk (absHeap (Gi w.params) lN (boot_heap w.params).life) _ _ _ _=_;rw[boot_abs];rfl
 rw[ab] at r';have t:topFrom treeTable p w N ⟨boot_heap w.params,Array.mk [],boot_drawn,boot_toks,os⟩=some sT.abs:=by
  unfold topFrom;dsimp only;rw[z1,z2,aaA,r'];show(match staticsOk (importedModules p.main.body) (boot_heap w.params) sT.abs.heap&&namesBound p sT.abs.heap&&gensDone sT.abs&&laidKept (boot_heap w.params) sT.abs.heap with|true=>_|false=>_)=_;rw[l1]
 unfold openEnds;rw[e];show(topFrom treeTable p w N _).map _=_;rw[t];exact congrArg some (Prod.ext l2 l3)
theorem O4{Xt:Shared->Bool}{α:Type}{Yf:Shared->α}{Ya:World->α}{ann:Option Value}
  (he:opening p=plainProg p.main.scope.names) (hf:∀s,fenceModules? p s=some s) (hN:Nat.ble 600 N=true)
  (hz:∀P:Params,((boot_heap P).isNs mainGlobals,(boot_heap P).nsMap mainGlobals "__annotations__")=(true,ann))
  (h1:∀(w:World) (os:OsState),(nS treeTable p w lN ann N (qE w.params os) (topStub p)).map (λsT=>((staticsOk (importedModules p.main.body) (boot_heap w.params) sT.abs.heap&&namesBound p sT.abs.heap&&gensDone sT.abs&&laidKept (boot_heap w.params) sT.abs.heap),openSeen q loose (importedModules p.main.body) Xt true sT.abs))=some (true,openGood q loose))
  (h3:∀(w:World) (os:OsState),(nS treeTable p w lN ann N (qE w.params os) (topStub p)).map (λsT=>Yf sT.abs)=some (Ya w)) :
  LeftO p q loose Xt Yf Ya N:=Rk he hf hN hz λw os=>by
 obtain⟨sT,r,e1⟩:=aeM.mp (h1 w os);have e3:=h3 w os;rw[r] at e3 ⊢;have e3:=aco e3;obtain⟨e1,e2⟩:_/\_:=by simpa only[Prod.mk.injEq] using e1
 show some (_,_,_)=some (true,openGood q loose,Ya w);rw[e1,<- e2,<- e3]
noncomputable def tg(s:SharedT)(a:Nat):Option Obj:=match Nat.blt a s.n with
 |true=>match s.tree.get a with
  |some o=>alive o
  |none=>none
 |false=>none
theorem Zv{s:SharedT}(h:tg s a=some o):s.abs.heap.get? a=some o:=by
 unfold tg at h;cases e:Nat.blt a s.n with
 |false=>rw[e] at h;cases h
 |true=>
  rw[e] at h;dsimp only at h;cases g:s.tree.get a with
  |none=>rw[g] at h;cases h
  |some o'=>
   rw[g] at h;have cT:a<s.n:=by simpa using e
   exact(abs_get (life:=s.life) cT g).trans h
theorem J8{s:SharedT}:∀{as:List Addr}{os:List Obj},as.map (tg s)=os.map some->as.map s.abs.heap.get? = os.map some
 |[],[],_=>rfl
 |[],_::_,h=>by cases h
 |_::_,[],h=>by cases h
 |a::as,o::os,h=>by
  rw[aaH,aaH] at h;injection h with h1 h2;rw[aaH,aaH,Zv h1,J8 h2]
section
variable{p q:Program}{loose:List Str}{Xt:Shared->Bool}{N:Nat}{ann:Option Value}{K:Params->Frag}{as ts:List Addr}{e:∀P,as=(K P).map (·.1)}
theorem left_Tk(he:opening p=plainProg p.main.scope.names)(hf:∀s,fenceModules? p s=some s)(hN:Nat.ble 600 N=true)
  (hz:∀P:Params,((boot_heap P).isNs mainGlobals,(boot_heap P).nsMap mainGlobals "__annotations__")=(true,ann))
  (h1:∀(w:World) (os:OsState),(nS treeTable p w lN ann N (qE w.params os) (topStub p)).map (λsT=>((staticsOk (importedModules p.main.body) (boot_heap w.params) sT.abs.heap&&namesBound p sT.abs.heap&&gensDone sT.abs&&laidKept (boot_heap w.params) sT.abs.heap),openSeen q loose (importedModules p.main.body) Xt true sT.abs))=some (true,openGood q loose))
  (h3:∀(w:World) (os:OsState),(nS treeTable p w lN ann N (qE w.params os) (topStub p)).map (λsT=>as.map (tg sT))=some (((K w.params).map (·.2)).map some)) :
  LeftO p q loose Xt (Hook.obs (kHook K as e)) (Hook.val (kHook K as e)) N:=O4 he hf hN hz h1 λw os=>by
 obtain⟨sT,r,e1⟩:=aeM.mp (h3 w os);rw[r];show some (as.map sT.abs.heap.get?)=some ((K w.params).map λp=>some p.2);rw[J8 e1,adS];rfl
end
end HT
namespace K31
open PySem L2 L2.Ev
local macro_rules | `(tactic| walk_at "ba1")=>`(tactic| exact fun _ _ _ _ _ _ us hl=>match us,hl with | [_],_=>rfl)
local macro_rules | `(tactic| walk_at "ba2")=>`(tactic| exact fun _ _ _ _ _ _ us hl=>match us,hl with | [_,_],_=>rfl)
local macro_rules | `(tactic| walk_at "ba3")=>`(tactic| exact fun _ _ _ _ _ _ us hl=>match us,hl with | [_,_,_],_=>rfl)
local macro_rules | `(tactic| walk_at "ba4")=>`(tactic| exact fun _ _ _ _ _ _ us hl=>match us,hl with | [_,_,_,_],_=>rfl)
set_option maxHeartbeats 0 in
theorem all_mk{l:PySem.W.OpenLaw}{w:World}{K:PySem.W.Frag}{h:Heap}{mg:Str->Option Value}{fa bz:Addr}(X:K.In h)(G:h.Ns mainGlobals mg)(BG:mg "law"=some (.ref fa))
  {DS G3 CP GI Gh:Tok}
  (yJ:PySem.W.nsIn K mainGlobals "Changes"=some (some (.ref bz)))
  (BR:PySem.W.plainGet K bz Str.empty=true)
  (FJ:PySem.W.hasDictIn K bz=true)
  (E3:PySem.W.plainOver K bz=true)
  (DB:PySem.W.findIn K (.ref bz) "__setattr__"=some (some (.builtin "object.__setattr__")))
  (Hg:PySem.W.makesIn K bz=true)
  (F9:PySem.W.keepIn K (.ref bz)=true)
  (jn:PySem.W.findIn K (.ref bz) "entries"=some none)
  (l0:dZ K "_law_take" HK)
  (l1:dZ K "_law_mix" DX)
  (l2:dZ K "_law_slots" zI)
  (l3:dZ K "_law_edits" G9)
  (l4:dZ K "_law_spec" EO)
  (l5:dZ K "_law_specs" F5)
  (l6:dZ K "_law_sheet" Dg)
  (l7:dZ K "_law_unfit" E8)
  (l8:dZ K "_law_free" zM)
  (l9:dZ K "_law_row" xA)
  (G_:dZ K "_law_rest" vq)
  (HH:GM K bz "__init__" "Changes.__init__" CW)
  (EC:dZ K "within" D9)
  (Gu:dZ K "rising" yU)
  (HF:GM K bz "many" "Changes.many" HB)
  (C4:GM K bz "has" "Changes.has" Fy)
  (CV:dZ K "are_edits" yk)
  (Eg:GM K bz "makes_change" "Changes.makes_change" xR)
  (Cs:GM K bz "added" "Changes.added" yQ)
  (B8:dZ K "_law_added" CH)
  (GO:GM K bz "entry_of" "Changes.entry_of" Ef)
  (GQ:GM K bz "leans_of" "Changes.leans_of" DM)
  (Ez:dZ K "free" wR)
  (Gq:dZ K "misfit" y9)
  (C7:dZ K "sheet_of_values" zm)
  (DJ:dZ K "edited_in_turn" Bj)
  (Dv:GM K bz "edits_of" "Changes.edits_of" EW)
  (BZ:dZ K "sheet_of" yW)
  (Fq:dZ K "values_behind" Cc)
  (CZ:dZ K "fits" A_)
  (Bu:dZ K "layable" xQ)
  (Dl:dZ K "_law_same" uI)
  (EV:GM K bz "rank_of" "Changes.rank_of" GV)
  (Ca:dZ K "law" wI)
  (G2:PySem.W.nsIn K mainGlobals "GREATEST_RANK"=some (some (.int 9 DS)))
  (FY:PySem.W.nsIn K mainGlobals "GREATEST_SLOT"=some (some (.int 999 G3)))
  (BQ:PySem.W.nsIn K mainGlobals "GREATEST_VALUE"=some (some (.int 1000000000 CP)))
  (B4:PySem.W.nsIn K mainGlobals "MOST_CHANGES"=some (some (.int 60 GI)))
  (Dy:PySem.W.nsIn K mainGlobals "MOST_EDITS"=some (some (.int 20 Gh)))
  (Gb:PySem.W.nsIn K mainGlobals "all"=some none)
  (Fk:PySem.W.nsIn K mainGlobals "bool"=some none)
  (Cw:PySem.W.nsIn K mainGlobals "dict"=some none)
  (EK:PySem.W.nsIn K mainGlobals "int"=some none)
  (FF:PySem.W.nsIn K mainGlobals "isinstance"=some none)
  (B7:PySem.W.nsIn K mainGlobals "len"=some none)
  (DI:PySem.W.nsIn K mainGlobals "list"=some none)
  (HD:PySem.W.nsIn K mainGlobals "min"=some none)
  (GJ:PySem.W.nsIn K mainGlobals "range"=some none)
  (Gw:PySem.W.nsIn K mainGlobals "reversed"=some none)
  (Gp:PySem.W.nsIn K mainGlobals "set"=some none)
  (D_:PySem.W.nsIn K mainGlobals "sorted"=some none)
  (Bs:PySem.W.nsIn K mainGlobals "str"=some none)
  (Cu:PySem.W.nsIn K mainGlobals "tuple"=some none)
  (Ck:PySem.W.nsIn K mainGlobals "zip"=some none)
  : ∃fd:FuncData,(∀(s:Shared) (v:Value),BindsTo s fd ⟨[v],[]⟩ [("_law_script",v)])/\∀base:Heap,K.In base->base.Ns mainGlobals mg->a_ l.prog w K mg base aJ 8 fa fd ["_law_script"] (aO K r6):=by
 have iI:=PySem.W.mg_none_of X G Gb;have g_bool:=PySem.W.mg_none_of X G Fk;have jN:=PySem.W.mg_none_of X G Cw;have nA:=PySem.W.mg_none_of X G EK;have jl:=PySem.W.mg_none_of X G FF;have c8:=PySem.W.mg_none_of X G B7;have e9:=PySem.W.mg_none_of X G DI;have Cv:=PySem.W.mg_none_of X G HD;have gj:=PySem.W.mg_none_of X G GJ;have DL:=PySem.W.mg_none_of X G Gw;have DT:=PySem.W.mg_none_of X G Gp;have nk:=PySem.W.mg_none_of X G D_;have zN:=PySem.W.mg_none_of X G Bs;have jr:=PySem.W.mg_none_of X G Cu;have DY:=PySem.W.mg_none_of X G Ck;have Dc:=PySem.W.mg_of X G G2;have CY:=PySem.W.mg_of X G FY;have zS:=PySem.W.mg_of X G BQ;have B5:=PySem.W.mg_of X G B4;have AZ:=PySem.W.mg_of X G Dy;have bF:ClsAt K "Changes" bz:=⟨yJ,⟨BR,FJ,E3,DB⟩⟩
 have Cj:=PySem.W.mg_of X G yJ;refine P7 (sp:=λ_=>aO K r6) X G BG Ca (λ_ _ _ _ _ _ _ _=>.of_eq rfl) λbase _ _ _ _ F=>?_
 have W0:=fF X G l0 (λF=>aci (P:=l.prog) (w:=w) (mg:=mg) (base:=base) c8 F) (by walk_at "ba2");have W1:=fF X G l1 (λF=>Xe (P:=l.prog) (w:=w) (mg:=mg) (base:=base) F) (by walk_at "ba3");have W2:=fF X G l2 (λF=>acm (P:=l.prog) (w:=w) (mg:=mg) (base:=base) gj DT nk W1 F) (by walk_at "ba1");have W3:=fF X G l3 (λF=>Sz (P:=l.prog) (w:=w) (mg:=mg) (base:=base) nA W2 W1 F) (by walk_at "ba2");have W4:=fF X G l4 (λF=>acq (P:=l.prog) (w:=w) (mg:=mg) (base:=base) jN c8 nk W1 W3 F) (by walk_at "ba2");have W5:=fF X G l5 (λF=>Pg (P:=l.prog) (w:=w) (mg:=mg) (base:=base) gj W0 W4 F) (by walk_at "ba1");have W6:=fF X G l6 (λF=>YU (P:=l.prog) (w:=w) (mg:=mg) (base:=base) F) (by walk_at "ba2");have W7:=fF X G l7 (λF=>XJ (P:=l.prog) (w:=w) (mg:=mg) (base:=base) F) (by walk_at "ba3");have W8:=fF X G l8 (λF=>Pf (P:=l.prog) (w:=w) (mg:=mg) (base:=base) iI F) (by walk_at "ba3");have W9:=fF X G l9 (λF=>UJ (P:=l.prog) (w:=w) (mg:=mg) (base:=base) c8 e9 gj W0 W6 W7 W8 W1 F) (by walk_at "ba2");have W10:=fF X G G_ (λF=>Vo (P:=l.prog) (w:=w) (mg:=mg) (base:=base) c8 gj W0 W1 F) (by walk_at "ba3");have VY:=miW HH Hg F9 (λF=>WQ (P:=l.prog) (w:=w) (mg:=mg) (base:=base) bF jn F) (by walk_at "ba1");have A2:=fF X G EC (λF=>S_ (P:=l.prog) (w:=w) (mg:=mg) (base:=base) g_bool nA jl F) (by walk_at "ba3");have LW:=fF X G Gu (λF=>Yh (P:=l.prog) (w:=w) (mg:=mg) (base:=base) iI DY F) (by walk_at "ba1");have Dr:=oQ HF (λF=>acs (P:=l.prog) (w:=w) (mg:=mg) (base:=base) c8 bF jn F) (by walk_at "ba1");have J_:=oQ C4 (λF=>XT (P:=l.prog) (w:=w) (mg:=mg) (base:=base) bF A2 Dr F) (by walk_at "ba2");have W16:=fF X G CV (λF=>XC (P:=l.prog) (w:=w) (mg:=mg) (base:=base) CY zS A2 LW F) (by walk_at "ba1");have U9:=oQ Eg (λF=>Vp (P:=l.prog) (w:=w) (mg:=mg) (base:=base) iI c8 Dc AZ bF A2 LW J_ W16 F) (by walk_at "ba4");have Wf:=oQ Cs (λF=>R5 (P:=l.prog) (w:=w) (mg:=mg) (base:=base) jr B5 bF jn U9 Dr F) (by walk_at "ba4");have ZS:=fF X G B8 (λF=>VC (P:=l.prog) (w:=w) (mg:=mg) (base:=base) bF VY Cj Wf F) (by walk_at "ba1");have Ho:=oQ GO (λF=>RQ (P:=l.prog) (w:=w) (mg:=mg) (base:=base) bF jn J_ F) (by walk_at "ba2");have Lm:=oQ GQ (λF=>Qu (P:=l.prog) (w:=w) (mg:=mg) (base:=base) e9 bF Ho F) (by walk_at "ba2");have MY:=fF X G Ez (λF=>Pb (P:=l.prog) (w:=w) (mg:=mg) (base:=base) iI jN e9 bF Lm F) (by walk_at "ba4");have K_:=fF X G Gq (λF=>TL (P:=l.prog) (w:=w) (mg:=mg) (base:=base) Cv F) (by walk_at "ba2");have W_:=fF X G C7 (λF=>V1 (P:=l.prog) (w:=w) (mg:=mg) (base:=base) nk F) (by walk_at "ba1");have PD:=fF X G DJ (λF=>U7 (P:=l.prog) (w:=w) (mg:=mg) (base:=base) jN K_ W_ F) (by walk_at "ba2");have Ea:=oQ Dv (λF=>P0 (P:=l.prog) (w:=w) (mg:=mg) (base:=base) e9 bF Ho F) (by walk_at "ba2");have TU:=fF X G BZ (λF=>QZ (P:=l.prog) (w:=w) (mg:=mg) (base:=base) bF PD Ea F) (by walk_at "ba2");have To:=fF X G Fq (λF=>Xb (P:=l.prog) (w:=w) (mg:=mg) (base:=base) jN e9 TU F) (by walk_at "ba3");have Zg:=fF X G CZ (λF=>UE (P:=l.prog) (w:=w) (mg:=mg) (base:=base) bF K_ Ea F) (by walk_at "ba3");have Yc:=fF X G Bu (λF=>abA (P:=l.prog) (w:=w) (mg:=mg) (base:=base) To MY Zg F) (by walk_at "ba4");have Rx:=RX X G Dl (λm k b F=>ZD (P:=l.prog) (w:=w) (mg:=mg) (base:=base) iI g_bool nA jl c8 e9 gj zN jr m k b F) (by walk_at "ba2");have T9:=oQ EV (λF=>Xr (P:=l.prog) (w:=w) (mg:=mg) (base:=base) bF Ho F) (by walk_at "ba2");exact abz c8 e9 gj DL jr bF W5 W9 W0 W10 W6 W8 W7 ZS MY Yc Rx Ea Lm T9 Dr F
theorem walk{l:PySem.W.OpenLaw}{q:Program}{loose:List Str}{XP:(Str->Option Value)->Heap->Prop}{YP:World->Heap->Prop}{d:DefRec}{K:Params->PySem.W.Frag}(hn:l.most=some 63)(vo:d.params.defaults=[])
  (hY:∀(w:World) (h:Heap),YP w h->(K w.params).In h)
  (F:∀(w:World) (mg:Str->Option Value) (fa:Addr) (h:Heap),(K w.params).In h->h.Ns mainGlobals mg->mg d.name=some (.ref fa)->
   ∃fd:FuncData,(∀(s:Shared) (u:Value),BindsTo s fd ⟨[u],[]⟩ [("_law_script",u)])/\∀base:Heap,(K w.params).In base->base.Ns mainGlobals mg->a_ l.prog w (K w.params) mg base aJ 8 fa fd ["_law_script"] (aO (K w.params) r6)) :
  PySem.W.WalkO q loose XP YP l.row.toRowW d [] (λf vs=>PySem.call f vs):=
 L2.acF (n:=63) (k:=8) (x:="_law_script") (CX:=λ_=>aJ) (sp:=λw=>aO (K w.params) r6) hn (by decide) vo ⟨λ_=>rfl,by decide,by decide,rfl⟩ hY F (λw H a ns hl hO hS=>by
  have hz:rZ (K w.params) H a (ns.map V.int):=by
   rcases hS with(h|h)|h
   .rcases hO a with z|⟨o,xs,z⟩<;>rw[z] at h<;>cases h
   .exact .inl h
   .exact .inr h
  refine⟨[dI ns],[]++[],.bl true,.cons (.pM hz (qJ ns)) .nil,Yd hl,λH' v eF _ r _ _=>?_⟩;cases r;rfl) λ_ _ _ _ _ z=>z
end K31
namespace K31
open PySem PySem.W PyProof.Rows
noncomputable def isNm:Stmt->Bool
 |.FunctionDef x ..=>!(x == "law")
 |_=>true
noncomputable def lo:List Str:=(["_wall","LinegateError","NoFit","NoChange","TooMany","within","rising","GREATEST_SLOT","GREATEST_VALUE","edited_in_turn","are_edits","misfit","sheet_of_values","MOST_CHANGES","MOST_EDITS","GREATEST_RANK","Changes","sheet_of","free","layable","values_behind","fits","_law_take","_law_mix","_law_slots","_law_edits","_law_spec","_law_sheet","_law_unfit","_law_free","_law_added","_law_specs","_law_row","_law_rest","_law_same"]:List String).map Str.ofString
noncomputable def vw:Program:={ PySem.Challenge.pw_linegate_k31_free_and_layable with main:={ (PySem.Challenge.pw_linegate_k31_free_and_layable).main with body:=(PySem.Challenge.pw_linegate_k31_free_and_layable).main.body.filter λs=>!isNm s } }
noncomputable def xt(s:Shared):Bool:=xlAt vw [] s&&recOk (RowW.records (OpenRow.toRowW (OpenLaw.row PySem.Challenge.rw_linegate_k31_free_and_layable))) s
theorem xt1(s:Shared)(e:xt s=true):XL vw [] (s.heap.nsMap mainGlobals) s.heap:=xl_of s (Bool.and_eq_true_iff.mp e).1
theorem rn(w:World)(os:OsState):(HT.nS treeTable PySem.Challenge.pw_linegate_k31_free_and_layable w HT.lN (some (.ref 6)) 20000 (HT.qE w.params os) (topStub PySem.Challenge.pw_linegate_k31_free_and_layable)).map (λsT=>((staticsOk (importedModules (PySem.Challenge.pw_linegate_k31_free_and_layable).main.body) (boot_heap w.params) sT.abs.heap&&namesBound PySem.Challenge.pw_linegate_k31_free_and_layable sT.abs.heap&&gensDone sT.abs&&laidKept (boot_heap w.params) sT.abs.heap),openSeen vw lo (importedModules (PySem.Challenge.pw_linegate_k31_free_and_layable).main.body) xt true sT.abs))=some (true,openGood vw lo):=by kernel_rfl
theorem xt2(s:Shared)(e:xt s=true):RecFacts (RowW.records (OpenRow.toRowW (OpenLaw.row PySem.Challenge.rw_linegate_k31_free_and_layable))) s.heap:=recFacts_of (Bool.and_eq_true_iff.mp e).2
end K31
open PySem PySem.W PyProof.Rows
local macro_rules | `(tactic| o_head $H)=>`(tactic| (refine PySem.W.holds_open (q:=K31.vw) (loose:=K31.lo) (N:=20000) (Xt:=K31.xt) (XP:=XL K31.vw []) (Yf:=Hook.obs $H) (Ya:=Hook.val $H) (YP:=Hook.says $H) ?hl (Hook.of $H) (Hook.keeps $H) K31.xt1 XL.keeps (by rfl) (by rfl) (by rfl) K31.xt2 (by rfl) (by assumption) (by decide +kernel) ⟨rfl,rfl,rfl,rfl,rfl,by decide +kernel⟩ ?hw ?hc;(case hl=>exact HT.left_Tk (ann:=some (.ref 6)) (by rfl) (fun _=>rfl) (by decide) (fun _=>by kernel_rfl) K31.rn fun w os=>by kernel_rfl);(case hw=>w_witness2)))
local macro_rules | `(tactic| walk_at "lkf")=>`(tactic| exact ⟨_,by k_is,_,_,_,_,_,_,_,_,_,by k_is,by k_is,by k_is⟩)
local macro_rules | `(tactic| walk_at "lkm")=>`(tactic| exact ⟨_,by k_is,by k_is,_,_,_,_,_,_,_,_,_,by k_is,by k_is,by k_is⟩)
set_option maxRecDepth 100000 in
set_option maxHeartbeats 0 in
theorem PySem.Challenge.cw_linegate_k31_free_and_layable_holds : PySem.Challenge.rw_linegate_k31_free_and_layable.Holds := by
 w_on;o_law;k_head
 k_fill
 refine K31.walk (l:=PySem.Challenge.rw_linegate_k31_free_and_layable) rfl rfl (λw h Y=>PySem.W.kIn_of Y) ?F
 case F=>
  intro w mg fa h KX G wj;refine' K31.all_mk KX G wj ?yJ ?BR ?FJ ?E3 ?DB ?Hg ?F9 ?jn ?l0 ?l1 ?l2 ?l3 ?l4 ?l5 ?l6 ?l7 ?l8 ?l9 ?G_ ?HH ?EC ?Gu ?HF ?C4 ?CV ?Eg ?Cs ?B8 ?GO ?GQ ?Ez ?Gq ?C7 ?DJ ?Dv ?BZ ?Fq ?CZ ?Bu ?Dl ?EV ?Ca ?G2 ?FY ?BQ ?B4 ?Dy ?Gb ?Fk ?Cw ?EK ?FF ?B7 ?DI ?HD ?GJ ?Gw ?Gp ?D_ ?Bs ?Cu ?Ck
  case yJ|BR|FJ|E3|DB|Hg|F9|jn=>k_is
  case l0|l1|l2|l3|l4|l5|l6|l7|l8|l9|G_=>walk_at "lkf"
  case HH=>walk_at "lkm"
  case EC|Gu=>walk_at "lkf"
  case HF|C4=>walk_at "lkm"
  case CV=>walk_at "lkf"
  case Eg|Cs=>walk_at "lkm"
  case B8=>walk_at "lkf"
  case GO|GQ=>walk_at "lkm"
  case Ez|Gq|C7|DJ=>walk_at "lkf"
  case Dv=>walk_at "lkm"
  case BZ|Fq|CZ|Bu|Dl=>walk_at "lkf"
  case EV=>walk_at "lkm"
  case Ca=>walk_at "lkf"
  case G2|FY|BQ|B4|Dy|Gb|Fk|Cw|EK|FF|B7|DI|HD|GJ|Gw|Gp|D_|Bs|Cu|Ck=>k_is
