import PyProof.Rows.All
import Wide.All
import OpenK.AllK
import Wide.FinOn
import PySem.Challenge.RW_linegate_k33_filled_walked
set_option Elab.async false
set_option linter.all false
set_option maxRecDepth 100000
set_option hygiene false
local macro_rules|`(tactic|exists 20,$p)=>`(tactic|refine ⟨_,$p,@fun H0 S z aq ρ σ H Q d tg ok e q=>?_⟩)
local macro_rules|`(tactic|exists 21,$p)=>`(tactic|refine ⟨_,$p,@fun H0 S z aq ρ σ H Q d tg ok e k=>?_⟩)
local macro_rules|`(tactic|exists 22,$p)=>`(tactic|refine ⟨_,$p,@fun H0 S z aq ρ σ H Q c ok e k=>?_⟩)
local macro_rules|`(tactic|exists 23,$p)=>`(tactic|refine ⟨_,$p,@fun H0 S z aq ρ σ H E o ok e k=>?_⟩)
local macro_rules|`(tactic|exists 24,$p)=>`(tactic|refine ⟨_,$p,@fun H0 S z aq ρ σ H R ds tg ok e k=>?_⟩)
local macro_rules|`(tactic|exists 25,$p)=>`(tactic|refine ⟨_,$p,@fun H0 S z aq ρ σ H E o ok e q=>?_⟩)
set_option hygiene true
noncomputable section
abbrev aac:=@PySem.wpAny_bind
abbrev aad:=@PySem.Heap.get?_push_of_some
abbrev aah:=@List.mem_cons_self
abbrev aas:=@List.mem_cons_of_mem
abbrev aat:=@List.mem_singleton
abbrev aau:=@List.getElem?_eq_getElem
abbrev aaz:=@List.map_cons
abbrev aaC:=@PySem.wpAny_pure
abbrev aaF:=@Bool.and_eq_true
abbrev aaG:=@List.mem_cons
abbrev aaQ:=@List.mem_append_right
abbrev aaR:=@of_decide_eq_true
abbrev aa2:=@Nat.le_refl
abbrev aa7:=@if_neg
abbrev aba:=@PySem.Heap.lt_size
abbrev abb:=@PySem.Heap.get?_push_size
abbrev abI:=@Bool.false_ne_true
abbrev abQ:=@List.size_toArray
abbrev abU:=@decide_eq_true
abbrev ab2:=@Array.length_toList
abbrev ab3:=@List.mem_append
abbrev ab6:=@Nat.ne_of_lt
abbrev ab8:=@Option.some.inj
abbrev ab9:=@PyProof.Rows.wpS_bind
abbrev acd:=@List.nodup_cons
abbrev ace:=@List.getElem?_eq_some_iff
abbrev acf:=@List.mem_append_left
abbrev acg:=@List.getElem?_map
abbrev ach:=@PyProof.Rows.wpS_pure
abbrev aci:=@List.nodup_nil
abbrev acj:=@List.length_cons
abbrev ack:=@List.length_append
abbrev acm:=@PySem.Heap.get?_update_other
abbrev acn:=@Nat.lt_of_lt_of_le
abbrev aco:=@decide_eq_false
abbrev acq:=@Option.bind_some
abbrev acs:=@List.getD_eq_getElem?_getD
abbrev acu:=@List.mem_map
abbrev acv:=@List.nodup_append
abbrev acw:=@List.append_assoc
abbrev acy:=@PySem.Heap.get?_update_self
abbrev acB:=@List.append_nil
abbrev acC:=@PySem.wpAny_mono
abbrev acD:=@Nat.zero_le
abbrev acE:=@PySem.builtinLookup_eq_fast
abbrev acF:=@List.map_append
abbrev acG:=@Bool.false_eq_true
abbrev acH:=@List.not_mem_nil
abbrev acI:=@PySem.Around.under_plainId
abbrev acJ:=@Array.getElem?_eq_getElem
abbrev acK:=@PySem.wpAny_newObj_type
abbrev acM:=@beq_eq_false_iff_ne
abbrev acN:=@List.find?_cons
abbrev acO:=@Option.map_eq_some_iff
abbrev acP:=@List.pairwise_append
abbrev acQ:=@List.lookup_cons
abbrev acR:=@PySem.wpAny_holding
abbrev acS:=@PySem.codeAny_builtin
abbrev acT:=@Int.le_trans
abbrev acU:=@List.contains_iff_mem
abbrev acV:=@PySem.Heap.size_push
abbrev acW:=@Nat.lt_irrefl
abbrev acX:=@List.all_eq_true
abbrev acY:=@PyProof.Rows.callWith_type1
abbrev acZ:=@List.length_range
abbrev ac0:=@Array.getD_eq_getD_getElem?
abbrev ac1:=@List.pairwise_cons
abbrev ac2:=@List.mem_filter
abbrev ac3:=@List.eq_nil_of_length_eq_zero
abbrev ac4:=@List.getElem?_append_left
abbrev ac5:=@List.drop_eq_getElem_cons
abbrev ac6:=@List.pairwise_iff_getElem
abbrev ac7:=@Nat.lt_succ_of_lt
abbrev ac8:=@List.map_map
abbrev ac9:=@Nat.le_trans
abbrev ada:=@Nat.ne_of_gt
abbrev adb:=@PySem.Obj.data_mapFields
abbrev ade:=@Nat.le_of_lt
abbrev adf:=@List.filterMap_cons
abbrev adg:=@Array.getElem?_toList
abbrev adh:=@PyProof.Rows.wpS_forRange
abbrev adi:=@PySem.typeLookup_type
abbrev adj:=@List.foldl_cons
abbrev adk:=@PySem.wpAny_call_entry
abbrev adl:=@Nat.lt_succ_self
abbrev adm:=@PySem.wpAny_callSpecial?_slot
abbrev adn:=@PyProof.Rows.wpS_mono
abbrev ado:=@List.getElem?_append_right
abbrev adp:=@Array.getElem?_eq_some_iff
abbrev adq:=@Array.perm_iff_toList_perm
abbrev ads:=@List.getElem?_set_ne
abbrev adt:=@PySem.wpAny_Call_Name_kw
abbrev adu:=@PySem.plainId_quiet
abbrev adv:=@List.take_append_drop
abbrev adw:=@List.getElem?_eq_none
abbrev adx:=@Ne.symm
abbrev ady:=@PySem.wpAny_rule
abbrev adz:=@List.getElem?_set_self
abbrev adA:=@List.take_of_length_le
abbrev adB:=@List.append_eq_nil_iff
abbrev adC:=@PySem.wpAny_truthy_bool
abbrev adD:=@PySem.wpAny_setState_of
abbrev adE:=@Int.le_of_lt
abbrev adF:=@List.perm_append_comm
abbrev adG:=@Array.size_push
abbrev adH:=@List.cons.injEq
abbrev adI:=@beq_iff_eq
abbrev adJ:=@PySem.wpAny_isInstance
abbrev adK:=@List.length_take
abbrev adL:=@Int.le_refl
abbrev adM:=@List.getElem_mem
abbrev adN:=@PySem.isSubtype_type
abbrev adO:=@Array.toList_push
abbrev adP:=@Array.toList_append
abbrev adQ:=@Nat.min_eq_left
abbrev adR:=@PySem.wpAny_updateSeq
abbrev adS:=@PySem.Heap.get?_update_ne
abbrev adT:=@PySem.F.plain_min_loop
abbrev adU:=@List.any_eq_true
abbrev adV:=@PySem.wpAny_attempt
abbrev adW:=@PySem.Calls.spliced_cons
abbrev adX:=@Nat.zero_add
abbrev adY:=@List.filterMap_map
abbrev adZ:=@PySem.wpAny_seqItems
abbrev ad0:=@List.take_succ_eq_append_getElem
abbrev ad1:=@List.mem_of_getElem?
abbrev ad2:=@PySem.wpAny_passesOwn
abbrev ad3:=@Int.toNat_natCast
abbrev ad4:=@List.length_set
abbrev ad5:=@decide_eq_true_eq
abbrev ad6:=@Nat.le_succ
abbrev ad7:=@if_false
abbrev ad8:=@List.getElem_of_mem
abbrev ad9:=@or_false
abbrev aea:=@PySem.Heap.SameBut.update
abbrev aeb:=@List.filter_sublist
abbrev aec:=@beq_self_eq_true
abbrev aed:=@PySem.Calls.callWith_builtin
abbrev aee:=@List.drop_eq_nil_of_le
abbrev aef:=@Nat.lt_of_le_of_lt
abbrev aeg:=@Bool.eq_iff_iff
abbrev aeh:=@PySem.sizeLine_eq
abbrev aei:=@PySem.codeAny_mono
abbrev aej:=@List.length_singleton
abbrev aek:=@List.length_nil
abbrev ael:=@PySem.wpAny_specialOf
abbrev aem:=@PySem.wpAny_ite_split
abbrev aen:=@List.getElem?_toArray
abbrev aeo:=@PySem.Obj.isFreed_of_fields
abbrev aep:=@PySem.F.called_set
abbrev aeq:=@List.length_filter_le
abbrev aer:=@PySem.Calls.spliced_nil
abbrev aes:=@List.take_sublist
abbrev aet:=@List.any_cons
abbrev aeu:=@List.drop_sublist
abbrev aev:=@PySem.wpAny_pyIter_list
abbrev aew:=@Bool.eq_false_iff
abbrev aex:=@PySem.Heap.get?_none_of_le
abbrev aey:=@Array.toList_extract
abbrev aez:=@PySem.wpAny_tryCatch
abbrev aeA:=@PySem.wpAny_setField
abbrev aeB:=@List.mem_reverse
abbrev aeC:=@PySem.Heap.size_update
abbrev aeD:=@List.take_length
abbrev aeE:=@Option.isSome_iff_exists
abbrev aeF:=@PySem.wpAny_typeOf
abbrev aeG:=@List.length_erase_of_mem
abbrev aeH:=@List.find?_eq_none
abbrev aeI:=@Nat.not_lt_zero
abbrev aeJ:=@PySem.wpAny_field
abbrev aeK:=@PySem.wpAny_of_eq
abbrev aeL:=@List.reverse_cons
abbrev aeM:=@List.getElem_drop
abbrev aeN:=@Array.size_append
abbrev aeO:=@List.ext_getElem?
abbrev aeP:=@List.pairwise_map
abbrev aeQ:=@List.mem_range
abbrev aeR:=@List.any_map
abbrev aeS:=@if_true
set_option autoImplicit true
namespace L2
open PySem PySem.Spec
open PySem PySem.Spec PyProof.Rows
noncomputable def r_(o:Obj):Option (Value×Str×Pos):=match o.data with
 |.func fd=>match fd.body with
  |.stmts [.Return (some (.Call _ _ [⟨_,.Lambda _ _ _ pos,_⟩] _)) _]=>some (fd.code,fd.qualname++".<locals>."++"<lambda>",pos)
  |_=>none
 |_=>none
def wH(K:PySem.W.Frag)(p:Addr×Obj):Option (Addr×Addr×Str×Pos):=match r_ p.2 with
 |some (.ref c,q,pos)=>match K.lookup c with
  |some ⟨_,_,.fields vs,_⟩=>match(vs[11]? : Option Value) with
   |some (.ref P)=>some (c,P,q,pos)
   |_=>none
  |_=>none
 |_=>none
def gR(K:PySem.W.Frag):List (Addr×Addr×Str×Pos):=K.filterMap (wH K)
noncomputable def B4(K:PySem.W.Frag):Bool:=K.all λp=>match p.2.data with
 |.seq ak _=>ak.size==0||ak.toList.any λv=>match v with|.int _ _=>false|_=>true
 |_=>true
def uW(K:PySem.W.Frag):Bool:=(B4 K&&K.all λp=>(r_ p.2).isNone||(wH K p).isSome)&&match gR K with
 |[]=>true
 |[r]=>PySem.W.codeHdIn K r.1 r.2.1&&(K.lookup r.2.1).isNone
 |_=>false
end L2
namespace L2
open PySem PySem.Spec PyProof.Rows
noncomputable def inClass(s:Stmt)(j:Nat):Stmt:=match s with
 |.ClassDef _ _ _ body _ _ _ _ _ _ _=>body.getD j (.Pass ⟨0,0,0,0⟩)
 |_=>.Pass ⟨0,0,0,0⟩
noncomputable def jS(s:Stmt):Arguments:=match s with
 |.FunctionDef _ a _ _ _ _ _ _ _ _=>a
 |_=>{ posonlyargs:=[],args:=[],vararg:=none,kwonlyargs:=[],kw_defaults:=[],kwarg:=none,defaults:=[] }
noncomputable def f7(s:Stmt):List Stmt:=match s with
 |.FunctionDef _ _ b _ _ _ _ _ _ _=>b
 |_=>[]
noncomputable def cC(s:Stmt):Scope:=match s with
 |.FunctionDef _ _ _ _ _ _ sc _ _ _=>sc
 |_=>{ kind:=.function,names:=[],isGenerator:=false,isCoroutine:=false }
end L2
namespace L2.Ev
open PySem PySem.W
noncomputable abbrev JF:List Value:=[.type "ValueError",.type "Exception",.type "BaseException",.type "object"]
end L2.Ev
namespace L2
open PySem PySem.Spec PyProof.Rows
theorem tabs_ok{K:Params->PySem.W.Frag}{e:∀P,as=(K P).map (·.1)}(h:∀w:World,(gR (K w.params)).map (·.2.1)=ts)(w:World)(hp:Heap)(Y:(PySem.W.kmHook K as e ts).says w hp):∀r∈gR (K w.params),hp.get? r.2.1=some (PySem.W.tabObj #[]):=
 λr m=>PySem.W.km_tabs_of Y _ (by rw[<- h w];exact List.mem_map_of_mem m)
end L2
namespace L2.Ev
open PySem PySem.Spec PySem.W PyProof.Rows
structure Ls where
 bt:List Str
 gi:List (Str×Int)
 tp:List (Str×List Str)
 cl:List Str
 na:List (Str×Str)
 ni:Bool
 ex:List Str
 xc:List Str
 ct:List (Str×List Str)
 kt:List (Str×List (Str×Bool))
 ki:List (Str×List Str×List (Str×Bool))
noncomputable def cA(K:Frag)(c:Str):Addr:=match nsIn K mainGlobals c with
 |some (some (.ref a))=>a
 |_=>0
def kv(K:Frag)(c:Str):Value:=if c == "ValueError" then .type "ValueError" else .ref (cA K c)
noncomputable def fY:Stmt->Str
 |.FunctionDef x ..=>x
 |_=>Str.empty
def iI(c:Str)(s:Stmt):Str:=if c==Str.empty then fY s else c++"."++fY s
noncomputable def strOf:Value->Option Str
 |.str s _=>some s
 |_=>none
def EO(K:Frag)(x:Str)(l:List Str):Bool:=match nsIn K mainGlobals x with
 | some (some (.ref a))=>(match K.lookup a with
  |some ⟨c,none,.seq ak _,_⟩=>c == .type "tuple"&&decide (ak.size<=sizeLine)&&ak.toList.map strOf==l.map some
  |_=>false)
 |_=>false
noncomputable def KN(K:Frag)(x:Str)(n:Int):Bool:=match nsIn K mainGlobals x with
 |some (some (.int m _))=>m==n
 |_=>false
def uT(K:Frag)(c:Str):Bool:=nsIn K mainGlobals c==some (some (.ref (cA K c)))&&plainGet K (cA K c) Str.empty&&hasDictIn K (cA K c)&&plainOver K (cA K c)&&findIn K (.ref (cA K c)) "__setattr__" == some (some (.builtin "object.__setattr__"))&&makesIn K (cA K c)&&keepIn K (.ref (cA K c))
def ek(K:Frag)(r:Str):Bool:=findIn K (.ref (cA K r)) "__getattribute__" == some (some (.builtin "BaseException.__getattribute__"))&&findIn K (.ref (cA K r)) "__getattr__" == some none&&findIn K (.ref (cA K r)) "__class__" == some (some (.builtin "object.__class__"))&&specialIn K (.builtin "object.__class__") "__get__" == some (some (.builtin "getset_descriptor.__get__"))&&takesIn K (.builtin "object.__class__")==some true&&mroIn K (cA K r) (.type "object")==some true&&mroIn K (cA K r) (.type "BaseException")==some true
def Oc(L:Ls)(K:Frag):Bool:=L.ex.all (λc=>nsIn K mainGlobals c==some (some (.ref (cA K c))))&&L.xc.all (λc=>excIn K (cA K c) JF "ValueError.__new__")&&L.ct.all (λp=>L.xc.contains p.1&&mroIn K (cA K p.1) (.type "BaseException")==some true&&p.2.all λr=>L.xc.contains r&&L.ex.contains r&&mroIn K (cA K r) (.ref (cA K p.1))==some true)&&L.kt.all (λp=>p.2.all λr=>L.ex.contains r.1&&ek K r.1&&kitOne K (.ref (cA K r.1)) (kv K p.1)==some r.2)&&L.ki.all (λp=>p.2.2.all λr=>L.ex.contains r.1&&ek K r.1&&kitAny K (.ref (cA K r.1)) ((p.2.1.map (cA K)).map Value.ref)==some r.2)
def pH(L:Ls)(K:Frag):Bool:=(!L.ni||B4 K)&&Oc L K&&L.bt.all (λx=>nsIn K mainGlobals x==some none)&&L.gi.all (λp=>KN K p.1 p.2)&&L.tp.all (λp=>EO K p.1 p.2)&&L.cl.all (uT K)&&L.na.all (λp=>findIn K (.ref (cA K p.1)) p.2==some none)
noncomputable def Nu(fd:FuncData):FuncData:={ fd with kwdefaults:=.none,doc:=.none,pyModule:=.none,annotations:=none,code:=.none,closureTuple:=.none }
def Aq(K:Frag)(q:Str):Option (Option Value)->Option FuncData
 | some (some (.ref a))=>(match K.lookup a with
  |some ⟨_,_,.func fd,_⟩=>if(codeIn K fd.code q&&keepIn K (.ref a)&&isFn K (.ref a))=true then some (Nu fd) else none
  |_=>none)
 |_=>none
def look(K:Frag)(p:Str×Stmt):Option FuncData:=Aq K (iI p.1 p.2) (if p.1==Str.empty then nsIn K mainGlobals (fY p.2) else findIn K (.ref (cA K p.1)) (fY p.2))
def want(p:Str×Stmt):Option FuncData:=some (fnOf (fY p.2) (iI p.1 p.2) (jS p.2) (f7 p.2) (cC p.2) .none .none .none .none none .none .none)
end L2.Ev
namespace K33
open PySem L2 L2.Ev
noncomputable def top(i:Nat):Stmt:=PySem.Challenge.pw_linegate_k33_filled_walked.main.body.getD i (.Pass ⟨0,0,0,0⟩)
noncomputable def L:Ls:=⟨["all","bool","dict","int","isinstance","len","list","min","range","reversed","set","sorted","str","tuple","zip"],[("GREATEST_RANK",9),("GREATEST_SLOT",999),("GREATEST_VALUE",1000000000),("MOST_CHANGES",60),("MOST_EDITS",20)],[],["Changes"],[("Changes","entries")],false,[],[],[],[],[]⟩
end K33
namespace HT
open PySem PySem.W PyProof.Rows
noncomputable def B9:List Obj->List Obj
 |[]=>[]
 |[a]=>[a]
 |a::_::l=>a::B9 l
def A6:Nat->List Obj->BT
 |0,_=>.nil
 |_+1,[]=>.nil
 |k+1,o::l=>.node o (A6 k (B9 l)) (A6 k (B9 l.tail))
noncomputable def mD(tb:String->Option Builtin)(p:Program)(w:World)(qD:Nat)(ann:Option Value):Nat->SharedT->Thread->Option SharedT
 |0,_,_=>none
 |k+1,s,t=>match through t with
  |true=>some s
  |false=>match stepOk qD ann t with
   |false=>none
   |true=>match stepT (denote tb) p w s t with
    |none=>none
    |some (s',t')=>mD tb p w qD ann k s' t'
theorem I_{tb:String->Option Builtin}{p:Program}{w:World}{qD:Nat}{ann:Option Value}:∀{k:Nat}{s s':SharedT}{t:Thread},mD tb p w qD ann k s t=some s'->topRun tb p w qD ann k s.abs t=some s'.abs
 |0,_,_,_,h=>by cases h
 |k+1,s,s',t,h=>by
  unfold mD at h;unfold topRun;cases e:through t with
  |true=>rw[e] at h;cases h;rfl
  |false=>
   rw[e] at h;cases o:stepOk qD ann t with
   |false=>rw[o] at h;cases h
   |true=>
    rw[o] at h;cases g:stepT (denote tb) p w s t with
    |none=>rw[g] at h;cases h
    |some r=>obtain⟨s2,t2⟩:=r;rw[g] at h;rw[stepT_spec g];exact I_ h
def Bg(P:Params):BT:=A6 12 (boot_heap P).objs.toList
noncomputable def kU:Nat:=11
theorem XU(P:Params):(boot_heap P).objs.size=kU:=by kernel_rfl
theorem boot_abs(P:Params):absHeap (Bg P) kU (boot_heap P).life=boot_heap P:=by kernel_rfl
def pU(P:Params)(os:OsState):SharedT:=⟨Bg P,kU,(boot_heap P).life,Array.mk [],boot_drawn,boot_toks,os⟩
theorem abn{p q:Program}{loose:List Str}{Xt:Shared->Bool}{α:Type}{Yf:Shared->α}{Ya:World->α}{N:Nat}{ann:Option Value}
  (he:opening p=plainProg p.main.scope.names) (hf:∀s,fenceModules? p s=some s) (hN:Nat.ble 600 N=true)
  (hz:∀P:Params,((boot_heap P).isNs mainGlobals,(boot_heap P).nsMap mainGlobals "__annotations__")=(true,ann))
  (h:∀(w:World) (os:OsState),(mD treeTable p w kU ann N (pU w.params os) (topStub p)).map (λsT=>
    ((staticsOk (importedModules p.main.body) (boot_heap w.params) sT.abs.heap&&namesBound p sT.abs.heap&&gensDone sT.abs&&laidKept (boot_heap w.params) sT.abs.heap),openSeen q loose (importedModules p.main.body) Xt true sT.abs,Yf sT.abs))=some (true,openGood q loose,Ya w)) :
  LeftO p q loose Xt Yf Ya N:=λw=>by
 obtain⟨⟨hh,gs,d,k,os⟩,e,e'⟩:=acO.mp (boot_open he hN hf w);obtain⟨rfl,rfl,rfl,rfl⟩:hh=boot_heap w.params/\gs=Array.mk []/\d=boot_drawn/\k=boot_toks:=by simpa using e'
 obtain⟨z1,z2⟩:_/\_:=by simpa only[Prod.mk.injEq] using hz w.params
 obtain⟨sT,r,l⟩:=acO.mp (h w os);obtain⟨l1,l2,l3⟩:_/\_/\_:=by simpa only[Prod.mk.injEq] using l
 have r':=I_ r;have ab:(pU w.params os).abs=⟨boot_heap w.params,Array.mk [],boot_drawn,boot_toks,os⟩:=by
  show Shared.mk (absHeap (Bg w.params) kU (boot_heap w.params).life) _ _ _ _=_;rw[boot_abs];rfl
 rw[ab] at r';have t:topFrom treeTable p w N ⟨boot_heap w.params,Array.mk [],boot_drawn,boot_toks,os⟩=some sT.abs:=by
  unfold topFrom;dsimp only;rw[z1,z2,XU,r'];show(match staticsOk (importedModules p.main.body) (boot_heap w.params) sT.abs.heap&&namesBound p sT.abs.heap&&gensDone sT.abs&&laidKept (boot_heap w.params) sT.abs.heap with|true=>_|false=>_)=_;rw[l1]
 unfold openEnds;rw[e];show(topFrom treeTable p w N _).map _=_;rw[t];exact congrArg some (Prod.ext l2 l3)
theorem R5{p q:Program}{loose:List Str}{Xt:Shared->Bool}{α:Type}{Yf:Shared->α}{Ya:World->α}{N:Nat}{ann:Option Value}
  (he:opening p=plainProg p.main.scope.names) (hf:∀s,fenceModules? p s=some s) (hN:Nat.ble 600 N=true)
  (hz:∀P:Params,((boot_heap P).isNs mainGlobals,(boot_heap P).nsMap mainGlobals "__annotations__")=(true,ann))
  (h1:∀(w:World) (os:OsState),(mD treeTable p w kU ann N (pU w.params os) (topStub p)).map (λsT=>((staticsOk (importedModules p.main.body) (boot_heap w.params) sT.abs.heap&&namesBound p sT.abs.heap&&gensDone sT.abs&&laidKept (boot_heap w.params) sT.abs.heap),openSeen q loose (importedModules p.main.body) Xt true sT.abs))=some (true,openGood q loose))
  (h3:∀(w:World) (os:OsState),(mD treeTable p w kU ann N (pU w.params os) (topStub p)).map (λsT=>Yf sT.abs)=some (Ya w)) :
  LeftO p q loose Xt Yf Ya N:=abn he hf hN hz λw os=>by
 obtain⟨sT,r,e1⟩:=acO.mp (h1 w os);have e3:=h3 w os;rw[r] at e3 ⊢;have e3:=ab8 e3;obtain⟨e1,e2⟩:_/\_:=by simpa only[Prod.mk.injEq] using e1
 show some (_,_,_)=some (true,openGood q loose,Ya w);rw[e1,<- e2,<- e3]
noncomputable def tg(s:SharedT)(a:Nat):Option Obj:=match Nat.blt a s.n with
 |true=>match s.tree.get a with
  |some o=>alive o
  |none=>none
 |false=>none
theorem aaX{s:SharedT}{a:Nat}{o:Obj}(h:tg s a=some o):s.abs.heap.get? a=some o:=by
 unfold tg at h;cases e:Nat.blt a s.n with
 |false=>rw[e] at h;cases h
 |true=>
  rw[e] at h;dsimp only at h;cases g:s.tree.get a with
  |none=>rw[g] at h;cases h
  |some o'=>
   rw[g] at h;have bI:a<s.n:=by simpa using e
   exact(abs_get (life:=s.life) bI g).trans h
theorem DE{s:SharedT}:∀{as:List Addr}{os:List Obj},as.map (tg s)=os.map some->as.map s.abs.heap.get? = os.map some
 |[],[],_=>rfl
 |[],_::_,h=>by cases h
 |_::_,[],h=>by cases h
 |a::as,o::os,h=>by
  rw[aaz,aaz] at h;injection h with h1 h2;rw[aaz,aaz,aaX h1,DE h2]
end HT
namespace HT
open PySem PySem.W PyProof.Rows
variable{p q:Program}{loose:List Str}{Xt:Shared->Bool}{N:Nat}{ann:Option Value}{K:Params->Frag}{as ts:List Addr}{e:∀P,as=(K P).map (·.1)}
theorem left_Tkm(he:opening p=plainProg p.main.scope.names)(hf:∀s,fenceModules? p s=some s)(hN:Nat.ble 600 N=true)
  (hz:∀P:Params,((boot_heap P).isNs mainGlobals,(boot_heap P).nsMap mainGlobals "__annotations__")=(true,ann))
  (h1:∀(w:World) (os:OsState),(mD treeTable p w kU ann N (pU w.params os) (topStub p)).map (λsT=>((staticsOk (importedModules p.main.body) (boot_heap w.params) sT.abs.heap&&namesBound p sT.abs.heap&&gensDone sT.abs&&laidKept (boot_heap w.params) sT.abs.heap),openSeen q loose (importedModules p.main.body) Xt true sT.abs))=some (true,openGood q loose))
  (h3:∀(w:World) (os:OsState),(mD treeTable p w kU ann N (pU w.params os) (topStub p)).map (λsT=>(as.map (tg sT),ts.map (tg sT)))=some (((K w.params).map (·.2)).map some,(ts.map λ_=>tabObj #[]).map some)) :
  LeftO p q loose Xt (Hook.obs (kmHook K as e ts)) (Hook.val (kmHook K as e ts)) N:=R5 he hf hN hz h1 λw os=>by
 obtain⟨sT,r,e1⟩:=acO.mp (h3 w os);obtain⟨e1,e2⟩:_/\_:=by simpa only[Prod.mk.injEq] using e1
 rw[r];show some (as.map sT.abs.heap.get?,ts.map sT.abs.heap.get?)=some ((K w.params).map λp=>some p.2,ts.map λ_=>some (tabObj #[]));rw[DE e1,DE e2,ac8,ac8];rfl
end HT
namespace K33
open PySem L2 L2.Ev
def tab:List (Str×Stmt):=[30,31,32,33,34,40,35,36,37,41,42,7,8,13,39,14,15,12,21,27,26,28,25,23,24,43,38,44,45].map (λi=>(Str.empty,top i))++[0,2,9,11,1,10,5,3,4].map (λi=>(("Changes":Str),inClass (top 20) i))
noncomputable def isNm:Stmt->Bool
 |.FunctionDef x ..=>!(x == "law")
 |_=>true
noncomputable def lo:List Str:=(["_wall","LinegateError","NoFit","NoChange","TooMany","within","rising","GREATEST_SLOT","GREATEST_VALUE","edited_in_turn","are_edits","misfit","sheet_of_values","MOST_CHANGES","MOST_EDITS","GREATEST_RANK","Changes","sheet_of","free","filled","first_fitting","in_turn","values_behind","fits","_law_take","_law_mix","_law_slots","_law_edits","_law_spec","_law_sheet","_law_unfit","_law_free","_law_best","_law_added","_law_specs","_law_row","_law_rest","_law_same","_law_walked"]:List String).map Str.ofString
def vw:Program:={ PySem.Challenge.pw_linegate_k33_filled_walked with main:={ (PySem.Challenge.pw_linegate_k33_filled_walked).main with body:=(PySem.Challenge.pw_linegate_k33_filled_walked).main.body.filter λs=>!isNm s } }
def Wk:Prop:=∀{YP:World->Heap->Prop}{K:Params->PySem.W.Frag}{d:DefRec},(∀(w:World) (h:Heap),YP w h->(K w.params).In h)->(∀(w:World) (h:Heap),YP w h->∀r∈gR (K w.params),h.get? r.2.1=some (PySem.W.tabObj #[]))->(∀w:World,uW (K w.params)=true)->(∀w:World,pH L (K w.params)=true)->(∀w:World,tab.map (look (K w.params))=tab.map want)->d.params.defaults=[]->d.name="law"->PySem.W.WalkO vw lo (PySem.W.XL vw []) YP (PySem.W.OpenLaw.row PySem.Challenge.rw_linegate_k33_filled_walked).toRowW d [] (λf vs=>PySem.call f vs)
end K33
namespace K33
open PySem L2 L2.Ev
open PySem PySem.W PyProof.Rows L2 L2.Ev
def xt(s:Shared):Bool:=xlAt vw [] s&&recOk (RowW.records (OpenRow.toRowW (OpenLaw.row PySem.Challenge.rw_linegate_k33_filled_walked))) s
theorem xt1(s:Shared)(e:xt s=true):XL vw [] (s.heap.nsMap mainGlobals) s.heap:=xl_of s (Bool.and_eq_true_iff.mp e).1
theorem rn(w:World)(os:OsState):(HT.mD treeTable PySem.Challenge.pw_linegate_k33_filled_walked w HT.kU (some (.ref 6)) 20000 (HT.pU w.params os) (topStub PySem.Challenge.pw_linegate_k33_filled_walked)).map (λsT=>((staticsOk (importedModules (PySem.Challenge.pw_linegate_k33_filled_walked).main.body) (boot_heap w.params) sT.abs.heap&&namesBound PySem.Challenge.pw_linegate_k33_filled_walked sT.abs.heap&&gensDone sT.abs&&laidKept (boot_heap w.params) sT.abs.heap),openSeen vw lo (importedModules (PySem.Challenge.pw_linegate_k33_filled_walked).main.body) xt true sT.abs))=some (true,openGood vw lo):=by kernel_rfl
theorem xt2(s:Shared)(e:xt s=true):RecFacts (RowW.records (OpenRow.toRowW (OpenLaw.row PySem.Challenge.rw_linegate_k33_filled_walked))) s.heap:=recFacts_of (Bool.and_eq_true_iff.mp e).2
local macro_rules | `(tactic| o_head $H)=>`(tactic| (refine PySem.W.holds_open (q:=K33.vw) (loose:=K33.lo) (N:=20000) (Xt:=K33.xt) (XP:=XL K33.vw []) (Yf:=Hook.obs $H) (Ya:=Hook.val $H) (YP:=Hook.says $H) ?hl (Hook.of $H) (Hook.keeps $H) K33.xt1 XL.keeps (by rfl) (by rfl) (by rfl) K33.xt2 (by rfl) (by assumption) (by decide +kernel) ⟨rfl,rfl,rfl,rfl,rfl,by decide +kernel⟩ ?hw ?hc;(case hl=>exact HT.left_Tkm (ann:=some (.ref 6)) (by rfl) (fun _=>rfl) (by decide) (fun _=>by kernel_rfl) K33.rn fun w os=>by kernel_rfl);(case hw=>w_witness2)))
theorem wsd:OpenLaw.wellSaid PySem.Challenge.rw_linegate_k33_filled_walked=true:=by kernel_rfl
set_option maxHeartbeats 0 in
theorem early(H:Wk):PySem.Challenge.rw_linegate_k33_filled_walked.Holds:=by
 w_on;refine holds_law wsd λab7=>?_;k_head
 k_fill
 exact H (λw h Y=>PySem.W.km_in_of Y) (L2.tabs_ok λw=>by kernel_rfl) (λw=>by kernel_rfl) (λw=>by kernel_rfl) (λw=>by kernel_rfl) rfl rfl
end K33
local macro_rules | `(tactic| walk_at "va")=>`(tactic| exact ⟨rfl,by first | exact Or.inl rfl | exact Or.inr (Or.inl rfl) | exact Or.inr (Or.inr rfl),by decide,by decide⟩)
local macro_rules | `(tactic| exists $h:ident, $x, $w:ident, $e:ident) => `(tactic| (rcases $h:ident : $x:term with _ | $w:ident; (rw [$h:ident] at $e:ident; cases $e:ident); rw [$h:ident] at $e:ident))
local macro_rules | `(tactic| exists $h:ident, $x, $w:ident, $e:ident, 0) => `(tactic| (rcases $h:ident : $x:term with _ | $w:ident; (rw [$h:ident] at $e:ident; cases $e:ident)))
theorem ci{c:Prop}[Decidable c]{α:Type}{a:Option α}{y:α}(e:(if c then a else none)=some y):c/\a=some y:=by
 by_cases h:c
 .rw[if_pos h] at e;exact⟨h,e⟩
 .rw[aa7 h] at e;cases e
namespace L2
open PySem PySem.Spec
theorem aai:entryFor table "proto.unchain"=some Builtin.«proto.unchain»:=entryFor_of_tree (by kernel_rfl)
theorem aax{α:Type}{Q:α->Shared->Prop}(hh:A.handled=some (.ref h))(he:s.heap.get? e=some oe)(hd:oe.data=.fields ve)(h2:2<ve.size)
  (hx:s.heap.get? h=some oh) (AV:oh.data=.fields vh) (AH:vh[2]? = some .none) (ne:h≠e) (q:E (.ref e) { s with heap:=s.heap.update e (Obj.mapFields (·.setIfInBounds 2 (.ref h))) }):wpAny (model prog w) A (raiseNew (.ref e):Sem α) Q E s:=by
 unfold raiseNew;refine aac (wpAny_handled ?_);rw[hh];dsimp only;rw[if_pos (by simpa using ne)];refine aac (acR (wpAny_runValue (acS aai ?_)));unfold Builtin.«proto.unchain»;refine aac (aeJ hx AV AH ?_);rw[if_pos (by rfl)];refine aaC ?_;refine aac ?_;unfold updateField;refine aac (wpAny_load he ?_);rw[hd];dsimp only;rw[if_pos h2];exact wpAny_update' he (wpAny_throw q)
theorem Wi{x left step:Int}(hh:A.handled=some (.ref h))(hx:s.heap.get? h=some oh)(AV:oh.data=.fields vh)(AH:vh[2]? = some .none)(hit:IsRangeIter s.heap it x left step)(TV:left<=0)
  (hQ:∀h',Heap.ExtBut it s.heap h'->Q none { s with heap:=h' }):wpAny (model prog w) A (pyNext (.ref it)) Q E s:=by
 have hT:s.TypeIs (.ref it) "range_iterator":=⟨_,hit,rfl⟩
 unfold pyNext;refine aac (adV (adm (name:=Str.ofString "__next__") hT F.slot_range_iterator_next
  (adk F.slot_range_iterator_next hT F.entry_range_iterator_next ?_ (F.args_range_iterator_next_1 _))))
 show wpAny _ _ (field (.ref it) 0 >>= _) _ _ s;refine aac (aeJ hit rfl rfl ?_);refine aac (aeJ hit rfl rfl ?_);refine aac (aeJ hit rfl rfl ?_);show wpAny _ _ (if left<=0 then _ else _) _ _ s;rw[if_pos TV];refine aac (ady ?_);refine aac ?_;refine aac ?_;simp only[newExc,newTuple];refine aac (acK ?_ (by size_fits));refine aac (aeK (by first|rfl|(simp only[firstArgMember];rfl)) ?_);refine acK ?_ (by size_fits);have hn:h≠(s.heap.push { cls:=.type "tuple",dict:=none,data:=.seq ([]:List Value).toArray }).objs.size:=ab6 (aba (aad _ hx));refine aax (h:=h) (by first|exact hh|(show A.in1.handled=_;exact hh)) (abb _ rfl) rfl (by simp<;>lia) (aad _ (aad _ hx)) AV AH hn ?_;refine aac (adJ (T:="StopIteration") ⟨_,acy _ (abb _ rfl) rfl,rfl⟩ isSubtype_stop ?_);refine aaC (hQ _ λb o hb e=>?_);rw[acm _ _ (adx (ab6 (aba (aad _ e))))];exact aad _ (aad _ e)
open PySem PySem.Spec PyProof.Rows
noncomputable abbrev Key:=Sum Int Str
noncomputable def ng:Key->Value->Bool
 |.inl k,v=>Value.isInt k v
 |.inr x,v=>Value.isStrOf x v
noncomputable def aam(w:World):Key->Int
 |.inl k=>hashInt k
 |.inr x=>hashStr w x
theorem jB:∀{k:Key}{v:Value},ng k v=true->(∃i t,k=Sum.inl i/\v=Value.int i t)\/(∃x t,k=Sum.inr x/\v=Value.str x t)
 |.inl i,v,h=>by
  obtain⟨t,e⟩:=Value.isInt_shape h;exact .inl ⟨i,t,rfl,e⟩
 |.inr x,v,h=>by
  obtain⟨t,e⟩:=Value.isStrOf_shape h;exact .inr ⟨x,t,rfl,e⟩
theorem Wv(i:Int)(t:Tok):ng (.inl i) (.int i t)=true:=by simp[ng,Value.isInt]
theorem aal(x:Str)(t:Tok):ng (.inr x) (.str x t)=true:=by simp[ng,Value.isStrOf]
theorem WX(a b:Int):decide ((Sum.inl a:Key)=Sum.inl b)=(a==b):=by
 by_cases e:a=b
 .subst e;simp
 .have h:¬(Sum.inl a:Key)=Sum.inl b:=λq=>e (Sum.inl.inj q)
  rw[aco h];exact(acM.mpr e).symm
theorem abw(a b:Str):decide ((Sum.inr a:Key)=Sum.inr b)=decide (a=b):=by
 by_cases e:a=b
 .subst e;simp
 .have h:¬(Sum.inr a:Key)=Sum.inr b:=λq=>e (Sum.inr.inj q)
  rw[aco h,aco e]
theorem aaN(a:Int)(b:Str):decide ((Sum.inl a:Key)=Sum.inr b)=false:=aco (λq=>nomatch q)
theorem aaY(a:Str)(b:Int):decide ((Sum.inr a:Key)=Sum.inl b)=false:=aco (λq=>nomatch q)
def cO(prog:Program)(w:World):PySem.KeyKind prog w Key where
 is:=ng
 hash:=aam w
 inj:=λv a b ha hb=>by
  rcases jB ha with⟨i,t,rfl,rfl⟩|⟨x,t,rfl,rfl⟩
  .rcases jB hb with⟨j,u,rfl,e⟩|⟨y,u,rfl,e⟩
   .injection e with e1 _;rw[e1]
   .exact nomatch e
  .rcases jB hb with⟨j,u,rfl,e⟩|⟨y,u,rfl,e⟩
   .exact nomatch e
   .injection e with e1 _;rw[e1]
 byValue:=λk v h=>by
  rcases jB h with⟨i,t,rfl,rfl⟩|⟨x,t,rfl,rfl⟩<;>rfl
 pyHash:=λhv h=>by
  rcases jB hv with⟨i,t,rfl,rfl⟩|⟨x,t,rfl,rfl⟩
  .exact wpAny_pyHash_int h
  .exact wpAny_pyHash_str h
 eqBool:=λhu hv h=>by
  rcases jB hu with⟨i,t,rfl,rfl⟩|⟨x,t,rfl,rfl⟩
  .rcases jB hv with⟨j,u,rfl,rfl⟩|⟨y,u,rfl,rfl⟩
   .rw[WX] at h;exact wpAny_eqBool_int h
   .rw[aaN] at h;exact SeqAt.EqAt.int_str i t y u _ _ _ _ h
  .rcases jB hv with⟨j,u,rfl,rfl⟩|⟨y,u,rfl,rfl⟩
   .rw[aaY] at h;exact SeqAt.EqAt.str_int x t j u _ _ _ _ h
   .rw[abw] at h;exact wpAny_eqBool_str h
 «strs»:=λk x t v h=>by
  rcases jB h with⟨i,u,rfl,e⟩|⟨y,u,rfl,e⟩
  .exact nomatch e
  .injection e with e1 _;subst e1;cases v<;>rfl
theorem Vt(prog:Program)(w:World)(i:Int)(t:Tok):(cO prog w).is (.inl i) (.int i t)=true:=Wv i t
theorem OE(prog:Program)(w:World)(x:Str)(t:Tok):(cO prog w).is (.inr x) (.str x t)=true:=aal x t
inductive V where
 |aH|bl (b:Bool)|int (i:Int)|str (x:Str)|jt (b:Array UInt8)|pN (b:UInt64)|ref (a:Addr)|ty (n:String)
 deriving DecidableEq
def RelV:V->Value->Prop
 |.aH,u=>u=Value.none
 |.bl b,u=>u=Value.bool b
 |.int i,u=>∃t,u=Value.int i t
 |.str x,u=>∃t,u=Value.str x t
 |.jt b,u=>∃t,u=Value.bytes b t
 |.pN b,u=>∃t,u=Value.float b t
 |.ref a,u=>u=Value.ref a
 |.ty n,u=>u=Value.type n
noncomputable abbrev aK:List V->List Value->Prop:=Paired RelV
theorem aK.length{xs:List V}{us:List Value}(r:aK xs us):xs.length=us.length:=Paired.length r
theorem aK.get:∀{xs:List V}{us:List Value}{i:Nat}{x:V},aK xs us->xs[i]? = some x->∃u,us[i]? = some u/\RelV x u
 |_,_,_,_,.nil,e=>by simp at e
 |_,_,0,_,.cons r _,e=>by simp at e;subst e;exact⟨_,rfl,r⟩
 |_,_,i+1,x,.cons _ t,e=>by
  obtain⟨u,h1,h2⟩:=aK.get t (by simpa using e);exact⟨u,by simpa using h1,h2⟩
theorem aK.set(r:RelV x u):∀{xs:List V}{us:List Value} (i:Nat),aK xs us->aK (xs.set i x) (us.set i u)
 |_,_,_,.nil=>.nil
 |_,_,0,.cons _ t=>.cons r t
 |_,_,i+1,.cons q t=>.cons q (aK.set r i t)
theorem aK.append:∀{xs ys:List V}{us ws:List Value},aK xs us->aK ys ws->aK (xs++ys) (us++ws)
 |_,_,_,_,.nil,s=>s
 |_,_,_,_,.cons r t,s=>.cons r (aK.append t s)
theorem aK.take:∀{xs:List V}{us:List Value} (n:Nat),aK xs us->aK (xs.take n) (us.take n)
 |_,_,0,_=>.nil
 |_,_,_+1,.nil=>.nil
 |_,_,n+1,.cons r t=>.cons r (aK.take n t)
theorem aK.drop:∀{xs:List V}{us:List Value} (n:Nat),aK xs us->aK (xs.drop n) (us.drop n)
 |_,_,0,r=>r
 |_,_,_+1,.nil=>.nil
 |_,_,n+1,.cons _ t=>aK.drop n t
def fX:Option V->Option Value->Prop
 |some v,some u=>RelV v u
 |none,none=>True
 |_,_=>False
def KV{κ:Type}:List (κ×V)->List (κ×Value)->Prop:=Paired λ(p:κ×V) (q:κ×Value)=>p.1=q.1/\RelV p.2 q.2
noncomputable def kV:Key->V
 |.inl i=>.int i
 |.inr x=>.str x
def lP(h:Heap)(a:Addr)(items:Array Value):Prop:=∃o,h.get? a=some o/\o.cls=.type "tuple"/\o.dict=none/\∃n,o.data=.seq items n
theorem lP.isTup(x:lP h a items):IsTup h a items:=let⟨o,e,c,_,d⟩:=x;⟨o,e,c,d⟩
theorem lP.lt(x:lP h a items):a<h.objs.size:=let⟨_,e,_⟩:=x;aba e
theorem lP.new(h:Heap)(items:Array Value):lP (h.push { cls:=.type "tuple",data:=.seq items }) h.objs.size items:=⟨_,abb _ rfl,rfl,rfl,_,rfl⟩
inductive HO where
 |lst (xs:List V)
 |tup (xs:List V)
 |dK (aj:List (Key×V))|dT (aj:List (List Key×V))
 |set (S:Int->Bool) (n:Nat)
 |ins (C dx:Addr) (fs:List (Str×V))
 |own (x:Addr)
 |xd (fs:List (Str×V))
 |met (f x:Addr)
 |cR (lo hi:Int)
 |c_ (o:Obj) (u:HO)
 |o7 (ps:Array Value)
 |gH (q:Str) (pos:Pos)|iM (q:Str)
 |ext (φ:Heap->Prop)
noncomputable abbrev Hp:=Addr->Option HO
inductive j8 where
 |tup (xs:List V)|Cz (o:Obj) (xs:List V)|gH (q:Str) (pos:Pos)|iM (q:Str)
noncomputable def j8.ho:j8->HO
 |.tup xs=>.tup xs
 |.Cz o xs=>.c_ o (.tup xs)
 |.gH q p=>.gH q p
 |.iM q=>.iM q
noncomputable def j8.tp:j8->Option (List V)
 |.tup xs=>some xs
 |.Cz _ xs=>some xs
 |_=>none
def Tk(H:Hp)(b:Addr)(xs:List V):Prop:=∃t:j8,t.tp=some xs/\H b=some t.ho
noncomputable def upd(H:Hp)(a:Addr)(o:HO):Hp:=λb=>if b=a then some o else H b
theorem bL{H:Hp}{a:Addr}{o:HO}:upd H a o a=some o:=by unfold upd;rw[if_pos rfl]
theorem aN{H:Hp}{a b:Addr}{o:HO}(h:b≠a):upd H a o b=H b:=by unfold upd;rw[aa7 h]
theorem Y3{H:Hp}{o u:HO}(h:H a=some o)(h':H b=some u)(d:o≠u):a≠b:=by
 intro e;subst e;rw[h] at h';exact d (ab8 h')
theorem cD{H:Hp}{o:HO}(h:H a=some o)(h':H b=none):a≠b:=by
 intro e;subst e;rw[h] at h';cases h'
section
variable(P:Program)(w:World)
def cF(H:Hp)(h:Heap)(a:Addr):HO->Prop
 |.lst xs=>xs.length<=sizeLine/\∃(ak:List Value) (n:Nat),aK xs ak/\h.get? a=some { cls:=.type "list",data:=.seq ak.toArray n }
 |.tup xs=>xs.length<=sizeLine/\∃ak:List Value,aK xs ak/\lP h a ak.toArray
 |.dK aj=>aj.length<=sizeLine/\(a==sysModules)=false/\∃vs,KV aj vs/\h.DictOf (cO P w) a vs
 |.dT aj=>aj.length<=sizeLine/\(a==sysModules)=false/\∃xs:List (List Key×Addr×Value),
   Paired (λ(p:List Key×V) (q:List Key×Addr×Value)=>p.1=q.1/\Tk H q.2.1 (p.1.map kV)/\RelV p.2 q.2.2) aj xs/\
   ∃o es ep,h.get? a=some o/\o.ExactDict/\o.data=.dict es ep/\es.toList=xs.map (entryOfKey (tupleKind (cO P w)))/\(xs.map (·.1)).Nodup
 |.set S n=>h.SetOf (intKind P w) a S n
 |.ins C dx fs=>H dx=some (.own a)/\fs.length<=1000/\dx≠a/\h.get? a=some (PySem.W.instObj C dx)/\
   ∃mA,h.Ns1 dx mA/\(∀f,fX (fs.lookup f) (mA f))/\PySem.Within mA (fs.map (·.1))
 |.own _=>∃o,h.get? a=some o
 |.xd fs=>∃mA,h.Ns1 a mA/\∀f,fX (fs.lookup f) (mA f)
 |.cR lo hi=>∃t u v,h.get? a=some { cls:=.type "range",data:=.fields #[.int lo t,.int hi u,.int 1 v] }
 |.c_ o u=>h.get? a=some o/\cF H h a u
 |.o7 ps=>h.get? a=some { cls:=.none,data:=.fields ps }
 |.gH q pos=>∃ps:Array Value,h.get? a=some { cls:=.none,data:=.fields ps }/\(ps=#[]\/∃c,ps=#[rawInt pos.line,rawInt pos.col,.ref c]/\H c=some (.iM q))
 |.iM q=>h.CodeRec (.ref a) q
 |.met f x=>h.get? a=some (PySem.W.methodObj (.ref f) (.ref x))
 |.ext φ=>φ h/\(∃o,h.get? a=some o)/\∀h1 h2:Heap,φ h1->(∀o,h1.get? a=some o->h2.get? a=some o)->φ h2
def cL(H:Hp)(h:Heap):Prop:=∀a o,H a=some o->cF P w H h a o
end
section
variable{P:Program}{w:World}{H H':Hp}{h h':Heap}{a:Addr}{o:HO}
theorem cF.lt(x:cF P w H h a o):a<h.objs.size:=by
 cases o with
 |lst xs=>obtain⟨_,_,_,_,e⟩:=x;exact aba e
 |tup xs=>obtain⟨_,_,_,p⟩:=x;exact p.lt
 |dK aj=>obtain⟨_,_,_,_,o,_,_,e,_⟩:=x;exact aba e
 |dT aj=>obtain⟨_,_,_,_,o,_,_,e,_⟩:=x;exact aba e
 |set S n=>obtain⟨o,_,_,_,e,_⟩:=x;exact aba e
 |ins C dx fs=>obtain⟨_,_,_,e,_⟩:=x;exact aba e
 |own y=>obtain⟨_,e⟩:=x;exact aba e
 |xd fs=>obtain⟨_,⟨_,_,_,e,_⟩,_⟩:=x;exact aba e
 |cR lo hi=>obtain⟨_,_,_,e⟩:=x;exact aba e
 |c_ ob u=>obtain⟨e,_⟩:=x;exact aba e
 |o7 ps=>exact aba (show h.get? a=some _ from x)
 |gH q pos=>obtain⟨_,e,_⟩:=x;exact aba e
 |iM q=>obtain⟨_,_,_,_,e,g,_⟩:=x;cases e;exact aba g
 |met f y=>exact aba (show h.get? a=some _ from x)
 |ext φ=>obtain⟨_,⟨_,e⟩,_⟩:=x;exact aba e
theorem Paired.zc{α β:Type}{F G:α->β->Prop}:∀{G9:List α}{J4:List β},Paired F G9 J4->(∀a b,F a b->G a b)->Paired G G9 J4
 |_,_,.nil,_=>.nil
 |_,_,.cons r t,f=>.cons (f _ _ r) (Paired.zc t f)
theorem cF.ic(x:cF P w H h a o)(k:∀b u,(b=a\/H b=some (.own a))->h.get? b=some u->h'.get? b=some u)
  (ho:∀b,H b=some (.own a)->H' b=some (.own a)) (ht:∀b (t:j8),H b=some t.ho->H' b=some t.ho):cF P w H' h' a o:=by
 induction o with
 |lst xs=>obtain⟨z,ak,n,r,e⟩:=x;exact⟨z,ak,n,r,k _ _ (.inl rfl) e⟩
 |tup xs=>obtain⟨z,ak,r,ob,e,c⟩:=x;exact⟨z,ak,r,ob,k _ _ (.inl rfl) e,c⟩
 |dK aj=>obtain⟨z,y,vs,r,ob,es,ep,e,c⟩:=x;exact⟨z,y,vs,r,ob,es,ep,k _ _ (.inl rfl) e,c⟩
 |dT aj=>
  obtain⟨z,y,xs,r,ob,es,ep,e,c⟩:=x;exact⟨z,y,xs,Paired.zc r λp q z=>⟨z.1,let⟨t,e,g⟩:=z.2.1;⟨t,e,ht _ t g⟩,z.2.2⟩,ob,es,ep,k _ _ (.inl rfl) e,c⟩
 |set S n=>obtain⟨ob,es,ep,t,e,c⟩:=x;exact⟨ob,es,ep,t,k _ _ (.inl rfl) e,c⟩
 |ins C dx fs=>
  obtain⟨d,z,ne,e,mA,⟨od,es,ep,e2,c⟩,r⟩:=x;exact⟨ho _ d,z,ne,k _ _ (.inl rfl) e,mA,⟨od,es,ep,k _ _ (.inr d) e2,c⟩,r⟩
 |own y=>obtain⟨ob,e⟩:=x;exact⟨ob,k _ _ (.inl rfl) e⟩
 |xd fs=>obtain⟨mA,⟨od,es,ep,e,c⟩,r⟩:=x;exact⟨mA,⟨od,es,ep,k _ _ (.inl rfl) e,c⟩,r⟩
 |cR lo hi=>obtain⟨t,u,v,e⟩:=x;exact⟨t,u,v,k _ _ (.inl rfl) e⟩
 |c_ ob u ih=>obtain⟨e,q⟩:=x;exact⟨k _ _ (.inl rfl) e,ih q⟩
 |gH q pos=>obtain⟨ps,e,g⟩:=x;exact⟨ps,k _ _ (.inl rfl) e,g.imp id λ⟨c,e1,e2⟩=>⟨c,e1,ht c (.iM q) e2⟩⟩
 |iM q=>obtain⟨_,o,vs,t,e,g,r⟩:=x;cases e;exact⟨_,o,vs,t,rfl,k _ _ (.inl rfl) g,r⟩
 |o7 ps=>
  have e:=x;exact k a _ (.inl rfl) e
 |met f y=>
  have e:=x;exact k a _ (.inl rfl) e
 |ext φ=>obtain⟨p,⟨o,e⟩,st⟩:=x;exact⟨st _ _ p λo q=>k _ _ (.inl rfl) q,⟨o,k _ _ (.inl rfl) e⟩,st⟩
theorem cL.lt(x:cL P w H h)(e:H a=some o):a<h.objs.size:=(x a o e).lt
theorem cL.fresh(x:cL P w H h)(e:h.objs.size<=a):H a=none:=by
 cases q:H a with
 |none=>rfl
 |some u=>exact absurd (acn (x.lt q) e) (acW _)
theorem cL.kept(x:cL P w H h)(k:∀b u,h.get? b=some u->h'.get? b=some u):cL P w H h':=λa o e=>
 (x a o e).ic (λb u _ q=>k b u q) (λ_ q=>q) λ_ _ q=>q
theorem cL.laid(x:cL P w H h)(k:∀b u,h.get? b=some u->h'.get? b=some u)(hp:h.objs.size<=a)(new:cF P w (upd H a o) h' a o):cL P w (upd H a o) h':=λb u e=>by
 have hn:=x.fresh hp
 by_cases hb:b=a
 .subst hb;rw[bL] at e;cases e;exact new
 .rw[aN hb] at e;exact(x b u e).ic (λc v _ q=>k c v q) (λc q=>by rw[aN (cD q hn)];exact q) λc xs q=>by rw[aN (cD q hn)];exact q
end
def Rd(H:Hp)(a:Addr)(u:HO):Prop:=H a=some u\/∃o,H a=some (.c_ o u)
theorem Rd.ok{P:Program}{w:World}{H:Hp}{h:Heap}{a:Addr}{u:HO}(r:Rd H a u)(x:cL P w H h):cF P w H h a u:=by
 rcases r with r|⟨o,r⟩
 .exact x a u r
 .obtain⟨_,q⟩:=x a _ r;exact q
def tD:Option HO->Prop
 |some (.lst _)=>True
 |some (.dK _)=>True
 |some (.dT _)=>True
 |some (.set _ _)=>True
 |some (.ins _ _ _)=>True
 |some (.ext _)=>True
 |_=>False
section
variable{P:Program}{w:World}{H:Hp}{h h':Heap}{x e:Addr}{o':HO}
theorem cL.write(ok:cL P w H h)(mu:tD (H x))(he:e=x\/H e=some (.own x))(k:∀b u,b≠e->h.get? b=some u->h'.get? b=some u)(qK:∃u,h'.get? e=some u)
  (new:cF P w (upd H x o') h' x o'):cL P w (upd H x o') h':=λb u q=>by
 have Jt:∀c y,H c=some (.own y)->c≠x:=λc y r z=>by subst z;rw[r] at mu;exact mu
 have aa8:∀c (t:j8),H c=some t.ho->c≠x:=λc t r z=>by subst z;rw[r] at mu;cases t<;>exact mu
 by_cases hb:b=x
 .subst hb;rw[bL] at q;cases q;exact new
 .rw[aN hb] at q
  by_cases qp:b=e
  .have q':H b=some (.own x):=by
    rcases he with z|z
    .exact absurd (qp.trans z) hb
    .rw[qp];exact z
   rw[q] at q';cases q';obtain⟨v,hv⟩:=qK;exact⟨v,by rw[qp];exact hv⟩
  .refine(ok b u q).ic (λc v hc r=>k c v ?_ r) (λc r=>by rw[aN (Jt c b r)];exact r) λc xs r=>by rw[aN (aa8 c xs r)];exact r
   rcases hc with rfl|hc
   .exact qp
   .rintro rfl
    rcases he with z|z
    .exact Jt c b hc z
    .rw[hc] at z;cases z;exact hb rfl
end
structure Un(fs ex:List Addr)(H H':Hp)(h h':Heap):Prop where
 keep:∀b o,h.get? b=some o->H b=none->b∉fs->b∉ex->h'.get? b=some o
 slot:∀b o,h.get? b=some o->H b=none->b∈fs->b∉ex->∃sl,h'.get? b=some { o with slots:=sl }
 free:∀b o,h.get? b=some o->H b=none->b∉ex->H' b=none
 there:∀b o,h.get? b=some o->b∉ex->∃o',h'.get? b=some o'
 jE:∀b (t:j8),H b=some t.ho->H' b=some t.ho
 jF:∀b o u,H b=some (.c_ o u)->H' b=some (.c_ o u)
 k9:∀b ps,H b=some (.o7 ps)->∃more,H' b=some (.o7 (ps++more))
section
variable{fs Ij ex ex':List Addr}{H H1 H2:Hp}{h h1 h2 h':Heap}{a x e:Addr}{o:HO}
theorem Un.any(u:Un fs ex H H1 h h1){b:Addr}{ob:Obj}(q:h.get? b=some ob)(n:H b=none)(hx:b∉ex):∃sl,h1.get? b=some { ob with slots:=sl }:=by
 by_cases hb:b∈fs
 .exact u.slot b ob q n hb hx
 .exact⟨ob.slots,u.keep b ob q n hb hx⟩
theorem Un.kept(k:∀b u,h.get? b=some u->h'.get? b=some u):Un fs ex H H h h':=
 ⟨λb ob q _ _ _=>k b ob q,λb ob q _ _ _=>⟨ob.slots,k b ob q⟩,λ_ _ _ n _=>n,λb ob q _=>⟨ob,k b ob q⟩,λ_ _ q=>q,λ_ _ _ q=>q,λ_ ps q=>⟨#[],by rw[q];simp⟩⟩
theorem Un.refl:Un fs ex H H h h:=Un.kept λ_ _ q=>q
theorem Un.laid(k:∀b u,h.get? b=some u->h'.get? b=some u)(hp:h.objs.size<=a)(hn:H a=none):Un fs ex H (upd H a o) h h' where
 keep:=λb u q _ _ _=>k b u q
 slot:=λb u q _ _ _=>⟨u.slots,k b u q⟩
 free:=λb u q n _=>by rw[aN (ab6 (acn (aba q) hp))];exact n
 there:=λb u q _=>⟨u,k b u q⟩
 jE:=λb xs q=>by rw[aN (cD q hn)];exact q
 jF:=λb u xs q=>by rw[aN (cD q hn)];exact q
 k9:=λb ps q=>⟨#[],by rw[aN (cD q hn),q];simp⟩
theorem Un.write(mu:tD (H x))(he:e=x\/H e=some (.own x))(k:∀b u,b≠e->h.get? b=some u->h'.get? b=some u)(qK:∃u,h'.get? e=some u):Un fs ex H (upd H x o) h h':=by
 have hx:∀b,H b=none->b≠x:=λb n z=>by subst z;rw[n] at mu;exact mu
 have hb:∀b,H b=none->b≠e:=λb n z=>by
  subst z;rcases he with r|r
  .exact hx b n r
  .rw[n] at r;cases r
 have hm:∀b u,H b=some u->¬tD (some u)->b≠x:=λb u q nm z=>by subst z;rw[q] at mu;exact nm mu
 refine⟨λb u q n _ _=>k b u (hb b n) q,λb u q n _ _=>⟨u.slots,k b u (hb b n) q⟩,λb u q n _=>by rw[aN (hx b n)];exact n,λb u q _=>?_,
  λb xs q=>by rw[aN (hm b _ q (by cases xs<;>exact λz=>z))];exact q,λb u xs q=>by rw[aN (hm b _ q λz=>z)];exact q,λb ps q=>⟨#[],by rw[aN (hm b _ q λz=>z),q];simp⟩⟩
 by_cases qp:b=e
 .subst qp;exact qK
 .exact⟨u,k b u qp q⟩
end
noncomputable def zF(h:Heap)(H:Hp):List Addr:=(List.range h.objs.size).filter λa=>(H a).isSome
def oO(h:Heap)(H:Hp):Heap:=PySem.W.hideAll h (zF h H)
theorem To(h:Heap)(H:Hp):(oO h H).objs.size=h.objs.size:=PySem.W.hideAll_size _ _
theorem DR(e:h.get? b=some o)(n:H b=none):(oO h H).get? b=some o:=
 PySem.W.hideAll_get _ e λhm=>by
  have q:=(ac2.mp hm).2;rw[n] at q;simp at q
theorem RX(e:(oO h H).get? b=some o):h.get? b=some o/\H b=none:=by
 have e':=PySem.W.of_hideAll (zF h H) e;refine⟨e',?_⟩;cases q:H b with
 |none=>rfl
 |some x=>
  have hm:b∈zF h H:=ac2.mpr ⟨aeQ.mpr (aba e'),by simp[q]⟩;have z:(oO h H).get? b=none:=PySem.W.hideAll_none (zF h H) hm;rw[z] at e;cases e
structure Mod(K:PySem.W.Frag)(mg:Str->Option Value)(base:Heap):Prop where
 ye:K.In base
 glob:base.Ns mainGlobals mg
 blt:∃mb,base.Ns builtinsNs mb/\∀x:Str,x≠"__name__"->mb x=bootBuiltins x
 nolimit:base.NoLimit
 bmn:∃bm ob,mg "__builtins__"=some (.ref bm)/\bm≠builtinsNs/\base.get? bm=some ob/\ob.cls=.type "module"/\ob.dict=some builtinsNs/\ob.data=.plain
structure Cx where
 prog:Program
 w:World
 K:PySem.W.Frag
 mg:Str->Option Value
 base:Heap
 A:Around
 N:List Str
 cY:Shared
 sC:Hp
 env:Env
 outer:List Env
 stack:List Env
 ex:List Addr
 fn:Str->Bool
 calm:Bool
 pn:List (Addr×Obj)
 xe:Value->Shared->Prop
noncomputable def jC(l:List Env):List Addr:=l.filterMap (·.frame)
abbrev Cx.fs(X:Cx):List Addr:=jC X.outer
def uH(sc:Scope)(x:Str):Prop:=sc.names.lookup x=some .local\/sc.names.lookup x=some .cell\/sc.names.lookup x=some .free
def Loc(sc:Scope)(x:Str):Prop:=sc.names.lookup x=some .local\/sc.names.lookup x=some .cell
def Look(env:Env)(h:Heap)(m:Str->Option Value)(x:Str)(u:Value):Prop:=
 (env.kindOf x=some .local/\m x=some u)\/((env.kindOf x=some .cell\/env.kindOf x=some .free)/\∃c,env.cells.lookup x=some c/\h.IsCell c (some u))
structure Cx.Ok(X:Cx):Prop where
 mod:Mod X.K X.mg X.base
 kind:X.env.scope.kind=.function
 glob:X.env.globals=mainGlobals
 blt:X.env.builtins=builtinsNs
 above:X.cY.heap.objs.size<=X.env.locals
 inj:∀x y c,X.env.cells.lookup x=some c->X.env.cells.lookup y=some c->x=y
 has:∀x,(X.env.kindOf x=some .cell\/X.env.kindOf x=some .free)->∃c,X.env.cells.lookup x=some c
 rJ:∀x c,X.fn x=true->X.env.cells.lookup x=some c->X.cY.heap.objs.size<=c
 hd:X.calm=true->X.A.handled=none
 frames:X.A.frames=some X.stack
 ue:X.stack=X.outer\/(X.stack=X.env::X.outer/\X.env.frame=some X.env.locals)
 zp:∀b∈X.ex,b≠X.env.locals/\∀x c,X.env.cells.lookup x=some c->c≠b
 bs:∀b o,X.base.get? b=some o->X.cY.heap.get? b=some o/\X.sC b=none
 jh:X.base.objs.size<=X.cY.heap.objs.size
 qT:∀b o,X.base.get? b=some o->b∉X.ex
 se:∀b∈X.ex,b∉X.fs
 jc:X.cY.heap.FunFrames X.base X.outer
 n5:∀b∈X.fs,X.sC b=none
def v_(A:Around)(H:Hp):Prop:=A.handled=none\/∃(a:Addr) (ob:Obj) (u:HO) (vs:Array Value),A.handled=some (.ref a)/\H a=some (.c_ ob u)/\ob.data=.fields vs/\vs[2]? = some .none
theorem v_.mono{A:Around}{H H':Hp}(h:v_ A H)(f:∀b o u,H b=some (.c_ o u)->H' b=some (.c_ o u)):v_ A H':=h.elim .inl λ⟨a,ob,u,vs,h1,h2,h3⟩=>.inr ⟨a,ob,u,vs,h1,f _ _ _ h2,h3⟩
structure Hq(K:PySem.W.Frag)(A:Around)(H:Hp):Prop where
 hd:v_ A H
 ok:uW K=true
 lm:∀r∈gR K,H r.2.1=some (.gH r.2.2.1 r.2.2.2)
theorem Hq.mono{K:PySem.W.Frag}(h:Hq K A H)(f:∀b o u,H b=some (.c_ o u)->H' b=some (.c_ o u))(g:∀b (t:j8),H b=some t.ho->H' b=some t.ho):Hq K A H':=
 ⟨h.hd.mono f,h.ok,λr m=>g _ (.gH _ _) (h.lm r m)⟩
structure Inv(X:Cx)(af:List (Addr×Obj))(σ:List (Option V))(H:Hp)(s:Shared):Prop where
 ok:X.Ok
 os:s.os=X.cY.os
 bare:AllBare s.gens
 base:Un X.fs X.ex X.sC H X.cY.heap s.heap
 loc:∃m,s.heap.Ns X.env.locals m/\∀(i:Nat) (x:Str) (v:V),X.N[i]? = some x->σ[i]? = some (some v)->uH X.env.scope x->∃u,RelV v u/\Look X.env s.heap m x u
 cell:∀x c,X.env.cells.lookup x=some c->∃v,s.heap.IsCell c v
 free:H X.env.locals=none
 iJ:∀x c,X.env.cells.lookup x=some c->H c=none
 pin:∀p∈X.pn++af,s.heap.get? p.1=some p.2/\H p.1=none/\p.1≠X.env.locals/\p.1∉X.fs/\∀v,p.2.data≠.cell v
 aC:cL X.prog X.w H s.heap
 len:σ.length=X.N.length
 hq:Hq X.K X.A H
section
variable{X:Cx}{af:List (Addr×Obj)}{σ:List (Option V)}{H H':Hp}{s:Shared}{h':Heap}
theorem Cx.Ok.WV(ok:X.Ok)(e:X.base.get? b=some o):b∉X.fs:=λhb=>by
 have:=(ok.jc.mem hb).1;rw[e] at this;cases this
theorem Inv.bs(I:Inv X af σ H s):∀b o,X.base.get? b=some o->s.heap.get? b=some o/\H b=none:=λb o e=>
 ⟨I.base.keep b o (I.ok.bs b o e).1 (I.ok.bs b o e).2 (I.ok.WV e) (I.ok.qT b o e),I.base.free b o (I.ok.bs b o e).1 (I.ok.bs b o e).2 (I.ok.qT b o e)⟩
theorem Inv.bk(I:Inv X af σ H s):∀b o,X.base.get? b=some o->s.heap.get? b=some o:=λb o e=>(I.bs b o e).1
theorem Inv.mod(I:Inv X af σ H s):Mod X.K X.mg X.base:=I.ok.mod
theorem Inv.cS(I:Inv X af σ H s):X.K.In s.heap:=I.ok.mod.ye.keeps I.bk
theorem Inv.lt(I:Inv X af σ H s):X.env.locals<s.heap.objs.size:=let⟨_,hn,_⟩:=I.loc;hn.lt
theorem Inv.sz(I:Inv X af σ H s):X.cY.heap.objs.size<=s.heap.objs.size:=ac9 I.ok.above (ade I.lt)
theorem Inv.Ie(I:Inv X af σ H s)(h:s.heap.objs.size<=a):a∉X.fs:=λhb=>by
 obtain⟨_,o,ho,_⟩:=I.ok.jc.mem hb;exact absurd (acn (aba ho) (ac9 I.sz h)) (acW _)
theorem Inv.lH(I:Inv X af σ H s):∀x c,X.env.cells.lookup x=some c->c≠X.env.locals:=λx c e z=>by
 obtain⟨v,o,ho,hd⟩:=I.cell x c e;obtain⟨m,⟨o',es,ep,jU,Ea,_⟩,_⟩:=I.loc;rw[z,jU] at ho;cases ho;rw[Ea] at hd;cases hd
theorem Inv.jc(I:Inv X af σ H s):s.heap.FunFrames X.base X.outer:=by
 have all:∀(l:List Env),(∀b∈jC l,b∈X.fs)->X.cY.heap.FunFrames X.base l->s.heap.FunFrames X.base l:=by
  intro l
  induction l with
  |nil=>intro _ _;trivial
  |cons env r ih=>
   intro hs hl;obtain⟨hk,⟨L,o,hf,hn,ho,hd⟩,hr⟩:=hl;have hL:=hs L (by unfold jC;rw[adf,hf];exact aah);obtain⟨sl,e⟩:=I.base.slot L o ho (I.ok.n5 L hL) hL λz=>I.ok.se L z hL
   exact⟨hk,⟨L,_,hf,hn,e,hd⟩,ih (λb hb=>hs b (by unfold jC;rw[adf,hf];exact aas _ hb)) hr⟩
 exact all X.outer (λ_ hb=>hb) I.ok.jc
theorem Inv.stack(I:Inv X af σ H s):s.heap.FunFrames X.base X.stack:=by
 rcases I.ok.ue with e|⟨e,hf⟩
 .rw[e];exact I.jc
 .rw[e];obtain⟨m,hn,_⟩:=I.loc;refine .cons (by rw[I.ok.kind];decide) hf hn ?_ I.jc;exact aex (ac9 I.ok.jh I.ok.above)
theorem Inv.Fj(I:Inv X af σ H s):∀b∈jC X.stack,b∈X.env.locals::X.fs:=λb hb=>by
 rcases I.ok.ue with e|⟨e,hf⟩
 .rw[e] at hb;exact aas _ hb
 .rw[e] at hb;unfold jC at hb;rw[adf,hf] at hb;exact hb
theorem Inv.Bl(I:Inv X af σ H s):∀b∈jC X.stack,H b=none:=λb hb=>by
 rcases aaG.mp (I.Fj b hb) with e|hb
 .rw[e];exact I.free
 .obtain⟨_,o,ho,_⟩:=I.ok.jc.mem hb;exact I.base.free b o ho (I.ok.n5 b hb) λz=>I.ok.se b z hb
theorem Inv.step{g':Array GenState}{d':Drawn}{ch:List Addr}(I:Inv X af σ H s)
  (lI:∀b∈ch,(b∈X.ex\/X.cY.heap.objs.size<=b)/\b≠X.env.locals/\(∀x c,X.env.cells.lookup x=some c->c≠b)/\∀p∈X.pn++af,p.1≠b)
  (keep:∀b o,b≠X.env.locals->b∉X.fs->b∉ch->s.heap.get? b=some o->H b=none->h'.get? b=some o)
  (slot:∀b o,b≠X.env.locals->b∈X.fs->b∉ch->s.heap.get? b=some o->H b=none->∃sl,h'.get? b=some { o with slots:=sl }) (free:∀b o,b∉ch->s.heap.get? b=some o->H b=none->H' b=none)
  (there:∀b o,b∉ch->s.heap.get? b=some o->∃o',h'.get? b=some o')
  (jE:∀b (t:j8),H b=some t.ho->H' b=some t.ho) (jF:∀b o u,H b=some (.c_ o u)->H' b=some (.c_ o u)) (k9:∀b ps,H b=some (.o7 ps)->∃more,H' b=some (.o7 (ps++more)))
  (ns:∀m,s.heap.Ns X.env.locals m->h'.Ns X.env.locals m) (aC:cL X.prog X.w H' h') (hg:AllBare g') :
  Inv X af σ H' { s with heap:=h',gens:=g',drawn:=d',toks:=t' }:=by
 have Oq:∀b o,X.cY.heap.get? b=some o->b≠X.env.locals:=λb o e=>ab6 (acn (aba e) I.ok.above)
 have yf:∀b o,X.cY.heap.get? b=some o->b∉X.ex->b∉ch:=λb o e hx hb=>by
  rcases(lI b hb).1 with z|z
  .exact hx z
  .exact absurd (acn (aba e) z) (acW _)
 have cellK:∀x c,X.env.cells.lookup x=some c->∀v,s.heap.IsCell c v->h'.IsCell c v:=λx c e v ⟨o,ho,hd⟩=>by
  have jX:c∉ch:=λz=>(lI c z).2.2.1 x c e rfl
  by_cases hc:c∈X.fs
  .obtain⟨sl,q⟩:=slot c o (I.lH x c e) hc jX ho (I.iJ x c e);exact⟨_,q,hd⟩
  .exact⟨o,keep c o (I.lH x c e) hc jX ho (I.iJ x c e),hd⟩
 refine⟨I.ok,I.os,hg,⟨λb o e n hb hx=>?_,λb o e n hb hx=>?_,λb o e n hx=>?_,λb o e hx=>?_,λb xs e=>jE b xs (I.base.jE b xs e),λb o xs e=>jF b o xs (I.base.jF b o xs e),λb ps e=>?_⟩,?_,λx c e=>?_,?_,λx c e=>?_,λp hp=>?_,aC,I.len,I.hq.mono jF jE⟩
 .exact keep b o (Oq b o e) hb (yf b o e hx) (I.base.keep b o e n hb hx) (I.base.free b o e n hx)
 .obtain⟨sl,e1⟩:=I.base.slot b o e n hb hx;obtain⟨YR,e2⟩:=slot b _ (Oq b o e) hb (yf b o e hx) e1 (I.base.free b o e n hx);exact⟨YR,e2⟩
 .obtain⟨o',e1⟩:=I.base.there b o e hx;exact free b o' (yf b o e hx) e1 (I.base.free b o e n hx)
 .obtain⟨o',e1⟩:=I.base.there b o e hx;exact there b o' (yf b o e hx) e1
 .obtain⟨m1,e1⟩:=I.base.k9 b ps e;obtain⟨m2,e2⟩:=k9 b _ e1;exact⟨m1++m2,by rw[e2,Array.append_assoc]⟩
 .obtain⟨m,hn,hl⟩:=I.loc;refine⟨m,ns m hn,λi x v e1 e2 e3=>?_⟩;obtain⟨u,r,l⟩:=hl i x v e1 e2 e3;refine⟨u,r,?_⟩;rcases l with l|⟨k,c,e,z⟩
  .exact .inl l
  .exact .inr ⟨k,c,e,cellK x c e _ z⟩
 .obtain⟨v,z⟩:=I.cell x c e;exact⟨v,cellK x c e v z⟩
 .obtain⟨m,⟨o,_,_,ho,_⟩,_⟩:=I.loc;exact free _ o (λz=>(lI _ z).2.1 rfl) ho I.free
 .obtain⟨v,o,ho,hd⟩:=I.cell x c e;exact free c o (λz=>(lI c z).2.2.1 x c e rfl) ho (I.iJ x c e)
 .obtain⟨e,n,ne,nf,d⟩:=I.pin p hp;have jX:p.1∉ch:=λz=>(lI p.1 z).2.2.2 p hp rfl
  exact⟨keep p.1 p.2 ne nf jX e n,free p.1 p.2 jX e n,ne,nf,d⟩
theorem Inv.un(I:Inv X af σ H s)(u:Un X.fs [] H H' s.heap h')(aC:cL X.prog X.w H' h'):Inv X af σ H' { s with heap:=h',toks:=t' }:=by
 obtain⟨m,⟨o,es,ep,ho,r⟩,_⟩:=id I.loc;obtain⟨sl,hL⟩:=u.any ho I.free (by simp);exact I.step (g':=s.gens) (d':=s.drawn) (ch:=[]) (λ_ z=>nomatch z) (λb o _ hb _ e n=>u.keep b o e n hb (by simp)) (λb o _ hb _ e n=>u.slot b o e n hb (by simp)) (λb o _ e n=>u.free b o e n (by simp)) (λb o _ e=>u.there b o e (by simp)) u.jE u.jF u.k9 (λm' hm=>by
  obtain⟨o',eN,uz,jU,r'⟩:=hm;rw[ho] at jU;cases jU;exact⟨_,eN,uz,hL,r'⟩) aC I.bare
theorem Inv.call{g':Array GenState}{d':Drawn}(I:Inv X af σ H s)(u:Un (jC X.stack) ch H H' s.heap h')(aC:cL X.prog X.w H' h')(hg:AllBare g')
  (lI:∀b∈ch,(b∈X.ex\/X.cY.heap.objs.size<=b)/\b≠X.env.locals/\(∀x c,X.env.cells.lookup x=some c->c≠b)/\∀p∈X.pn++af,p.1≠b) :
  Inv X af σ H' { s with heap:=h',gens:=g',drawn:=d',toks:=t' }:=by
 obtain⟨m,⟨o,es,ep,ho,r⟩,_⟩:=id I.loc;obtain⟨sl,hL⟩:=u.any ho I.free λz=>(lI _ z).2.1 rfl
 exact I.step (ch:=ch) lI (λb o hL hb hc e n=>u.keep b o e n (λz=>(aaG.mp (I.Fj b z)).elim hL hb) hc) (λb o _ _ hc e n=>u.any e n hc) (λb o hc e n=>u.free b o e n hc) (λb o hc e=>u.there b o e hc) u.jE u.jF u.k9 (λm' hm=>by
  obtain⟨o',eN,uz,jU,r'⟩:=hm;rw[ho] at jU;cases jU;exact⟨_,eN,uz,hL,r'⟩) aC hg
theorem Inv.turned(I:Inv X af σ H s)(k:∀b o,b≠it->s.heap.get? b=some o->h'.get? b=some o)(hn:H it=none)(hL:it≠X.env.locals)
  (h1:it∈X.ex\/X.cY.heap.objs.size<=it) (h2:∀x c,X.env.cells.lookup x=some c->c≠it) (h3:∀p∈X.pn++af,p.1≠it):Inv X af σ H { s with heap:=h',toks:=t' }:=by
 have Jh:∀b u,H b=some u->b≠it:=λb u e z=>by rw[z,hn] at e;cases e
 refine I.step (g':=s.gens) (d':=s.drawn) (ch:=[it]) (λb hb=>?_) (λb o _ _ hc e _=>k b o (λz=>hc (by simp[z])) e) (λb o _ _ hc e _=>⟨o.slots,k b o (λz=>hc (by simp[z])) e⟩) (λ_ _ _ _ n=>n)
  (λb o hc e=>⟨o,k b o (λz=>hc (by simp[z])) e⟩) (λ_ _ e=>e) (λ_ _ _ e=>e) (λb ps e=>⟨#[],by rw[e];simp⟩) (λm hm=>?_) (λb u e=>?_) I.bare
 .have e:b=it:=by simpa using hb
  subst e;exact⟨h1,hL,h2,h3⟩
 .obtain⟨o,es,ep,ho,r⟩:=hm;exact⟨o,es,ep,k _ o (adx hL) ho,r⟩
 .refine(I.aC b u e).ic (λc v hc q=>k c v ?_ q) (λ_ q=>q) λ_ _ q=>q
  rcases hc with z|z
  .rw[z];exact Jh b u e
  .exact Jh c _ z
theorem Inv.tok(I:Inv X af σ H s)(t:Nat):Inv X af σ H { s with toks:=t }:=I.un Un.refl I.aC
theorem Inv.kept(I:Inv X af σ H s)(k:∀b u,s.heap.get? b=some u->h'.get? b=some u):Inv X af σ H { s with heap:=h',toks:=t' }:=I.un (Un.kept k) (I.aC.kept k)
theorem Inv.laid{o:HO}(I:Inv X af σ H s)(k:∀b u,s.heap.get? b=some u->h'.get? b=some u)(hp:s.heap.objs.size<=a)(new:cF X.prog X.w (upd H a o) h' a o):
  Inv X af σ (upd H a o) { s with heap:=h',toks:=t' }:=I.un (Un.laid k hp (I.aC.fresh hp)) (I.aC.laid k hp new)
theorem Inv.write{o:HO}(I:Inv X af σ H s)(mu:tD (H x))(he:e=x\/H e=some (.own x))(k:∀b u,b≠e->s.heap.get? b=some u->h'.get? b=some u)(qK:∃u,h'.get? e=some u)
  (new:cF X.prog X.w (upd H x o) h' x o):Inv X af σ (upd H x o) { s with heap:=h',toks:=t' }:=I.un (Un.write mu he k qK) (I.aC.write mu he k qK new)
theorem Inv.qf(I:Inv X af σ H s)(h:∀p∈IK,s.heap.get? p.1=some p.2/\H p.1=none/\p.1≠X.env.locals/\p.1∉X.fs/\∀v,p.2.data≠.cell v):Inv X IK σ H s:=
 ⟨I.ok,I.os,I.bare,I.base,I.loc,I.cell,I.free,I.iJ,λp hp=>(ab3.mp hp).elim (λz=>I.pin p (acf _ z)) (h p),I.aC,I.len,I.hq⟩
theorem NB{N:List Str}(hN:N.Nodup){i j:Nat}(a:N[i]? = some x)(b:N[j]? = some x):i=j:=by
 obtain⟨h1,e1⟩:=ace.mp a;obtain⟨h2,e2⟩:=ace.mp b;exact(List.getElem_inj hN).mp (e1.trans e2.symm)
theorem Hz{Q:Unit->Shared->Prop}(I:Inv X af σ H s)(hN:X.N.Nodup)(hi:X.N[i]? = some x)(hx:Loc X.env.scope x)(r:RelV v u)
  (h:∀s',Inv X af (σ.set i (some v)) H s'->(∃a,Heap.SameBut a s.heap s'.heap/\(a=X.env.locals\/X.env.cells.lookup x=some a))->Q () s') (hf:X.fn x=true\/X.env.scope.names.lookup x=some .local:=by first|exact .inl rfl|exact .inr rfl|assumption):wpAny M A (storeName X.env x u) Q E s:=by
 obtain⟨m,hn,hl⟩:=id I.loc;have Tq:(X.env.scope.kind == .class||(X.env.scope.kind == .module&&X.env.locals != X.env.globals))=false:=by rw[I.ok.kind];rfl
 have Ht:i<σ.length:=by rw[I.len];exact(ace.mp hi).1
 have lH:=I.lH;have tracked:∀{a:Addr}{h':Heap},(∃o,s.heap.get? a=some o/\H a=none)->Heap.SameBut a s.heap h'->cL X.prog X.w H h':=λ{a h'} ha hs b ob e=>by
  obtain⟨_,_,HZ⟩:=ha;refine(I.aC b ob e).ic (λc w' hc q=>(hs.2 c ?_).trans q) (λ_ q=>q) λ_ _ q=>q
  rintro rfl
  rcases hc with rfl|hc
  .rw[HZ] at e;cases e
  .rw[HZ] at hc;cases hc
 rcases hx with hk|hk
 .refine wpAny_storeName_local hk hn (λh' YH hs=>?_) Tq;obtain⟨oL,_,_,wX,_⟩:=id hn;refine h _ ⟨I.ok,I.os,I.bare,⟨λb o e n hb hx=>?_,λb o e n hb hx=>?_,I.base.free,λb o e hx=>?_,I.base.jE,I.base.jF,I.base.k9⟩,⟨_,YH,λj y v' e1 e2 e3=>?_⟩,λy c e=>?_,I.free,I.iJ,λp hp=>?_,tracked ⟨oL,wX,I.free⟩ hs,by simpa using I.len,I.hq⟩ ⟨_,hs,.inl rfl⟩
  .exact(hs.2 b (ab6 (acn (aba e) I.ok.above))).trans (I.base.keep b o e n hb hx)
  .obtain⟨sl,e1⟩:=I.base.slot b o e n hb hx;exact⟨sl,(hs.2 b (ab6 (acn (aba e) I.ok.above))).trans e1⟩
  .obtain⟨o',e1⟩:=I.base.there b o e hx;exact⟨o',(hs.2 b (ab6 (acn (aba e) I.ok.above))).trans e1⟩
  .by_cases hj:j=i
   .subst hj;rw[hi] at e1;cases e1;rw[adz Ht] at e2;cases e2;exact⟨u,r,.inl ⟨hk,by simp⟩⟩
   .rw[ads (adx hj)] at e2;obtain⟨u',r',q⟩:=hl j y v' e1 e2 e3;refine⟨u',r',?_⟩;rcases q with⟨k,e⟩|⟨k,c,e,z⟩
    .refine .inl ⟨k,?_⟩;have:y≠x:=λe=>hj (NB hN e1 (e ▸ hi))
     simp[this,e]
    .exact .inr ⟨k,c,e,z.sameBut hs (lH y c e)⟩
  .obtain⟨w',z⟩:=I.cell y c e;exact⟨w',z.sameBut hs (lH y c e)⟩
  .obtain⟨e,n,ne,nf,d⟩:=I.pin p hp;exact⟨(hs.2 p.1 ne).trans e,n,ne,nf,d⟩
 .have AM:X.fn x=true:=by
   rcases hf with z|z
   .exact z
   .rw[z] at hk;cases hk
  obtain⟨c,hc⟩:=I.ok.has x (.inl hk);obtain⟨w',z⟩:=I.cell x c hc;refine wpAny_storeName_cell I.ok.kind hk hc z (λh' mh hs=>?_);obtain⟨oc,jJ,Vv⟩:=id z;refine h { s with heap:=h' } ⟨I.ok,I.os,I.bare,⟨λb o e n hb hx=>?_,λb o e n hb hx=>?_,I.base.free,λb o e hx=>?_,I.base.jE,I.base.jF,I.base.k9⟩,⟨m,hn.sameBut hs (adx (lH x c hc)),λj y v' e1 e2 e3=>?_⟩,λy c' e=>?_,I.free,I.iJ,λp hp=>?_,tracked ⟨oc,jJ,I.iJ x c hc⟩ hs,by simpa using I.len,I.hq⟩ ⟨c,hs,.inr hc⟩
  .exact(hs.2 b (ab6 (acn (aba e) (I.ok.rJ x c AM hc)))).trans (I.base.keep b o e n hb hx)
  .obtain⟨sl,e1⟩:=I.base.slot b o e n hb hx;exact⟨sl,(hs.2 b (ab6 (acn (aba e) (I.ok.rJ x c AM hc)))).trans e1⟩
  .obtain⟨o',e1⟩:=I.base.there b o e hx;exact⟨o',(hs.2 b (ab6 (acn (aba e) (I.ok.rJ x c AM hc)))).trans e1⟩
  .by_cases hj:j=i
   .subst hj;rw[hi] at e1;cases e1;rw[adz Ht] at e2;cases e2;exact⟨u,r,.inr ⟨.inl hk,c,hc,mh⟩⟩
   .rw[ads (adx hj)] at e2;obtain⟨u',r',q⟩:=hl j y v' e1 e2 e3;refine⟨u',r',?_⟩;rcases q with q|⟨k,c',e,z'⟩
    .exact .inl q
    .refine .inr ⟨k,c',e,z'.sameBut hs ?_⟩
     rintro rfl
     exact hj (NB hN e1 (I.ok.inj _ _ _ e hc ▸ hi))
  .by_cases Gi:c'=c
   .subst Gi;exact⟨_,mh⟩
   .obtain⟨w2,z2⟩:=I.cell y c' e;exact⟨w2,z2.sameBut hs Gi⟩
  .obtain⟨e,n,ne,nf,d⟩:=I.pin p hp;refine⟨(hs.2 p.1 ?_).trans e,n,ne,nf,d⟩;intro q;rw[q,jJ] at e;have q':=ab8 e;exact d w' (by rw[<- q'];exact Vv)
theorem BW{Q:Unit->Shared->Prop}(I:Inv X af σ H s)(hN:X.N.Nodup)(hi:X.N[i]? = some x)(hx:Loc X.env.scope x)(r:RelV v u)
  (h:∀s',Inv X af (σ.set i (some v)) H s'->Q () s') (hf:X.fn x=true\/X.env.scope.names.lookup x=some .local:=by first|exact .inl rfl|exact .inr rfl|assumption):wpAny M A (storeName X.env x u) Q E s:=
 Hz I hN hi hx r (λs' I' _=>h s' I') hf
theorem Inv.HL(I:Inv X af σ H s)(ho:s'.os=s.os)(u:Un (jC X.stack) ch H H' s.heap s'.heap)(aC:cL X.prog X.w H' s'.heap)(hg:AllBare s'.gens)
  (lI:∀b∈ch,(b∈X.ex\/X.cY.heap.objs.size<=b)/\b≠X.env.locals/\(∀x c,X.env.cells.lookup x=some c->c≠b)/\∀p∈X.pn++af,p.1≠b):Inv X af σ H' s':=by
 obtain⟨h',g',d',t',o'⟩:=s';have e:=ho;subst e;exact I.call (g':=g') (d':=d') u aC hg lI
end
abbrev XK:=Value->Option Addr->Hp->Prop
noncomputable abbrev St:=List (Option V)
abbrev VK:=V->Hp->Prop
abbrev TE:=St->Hp->VK->Prop
abbrev TT:=St->Hp->(Bool->Hp->Prop)->Prop
abbrev TA:=St->Hp->(List V->Hp->Prop)->Prop
structure Ends where
 nx:St->Hp->Prop
 rt:VK
 bk:St->Hp->Prop:=λ_ _=>False
 ct:St->Hp->Prop:=λ_ _=>False
abbrev TS:=Ends->St->Hp->Prop
def EP(X:Cx)(af:List (Addr×Obj))(σ:St)(Q:VK)(u:Value)(s':Shared):Prop:=∃v H',Inv X af σ H' s'/\RelV v u/\Q v H'
def TP(X:Cx)(af:List (Addr×Obj))(σ:St)(Q:Bool->Hp->Prop)(b:Bool)(s':Shared):Prop:=∃H',Inv X af σ H' s'/\Q b H'
def AP(X:Cx)(af:List (Addr×Obj))(σ:St)(Q:List V->Hp->Prop)(us:List Value)(s':Shared):Prop:=∃vs H',Inv X af σ H' s'/\aK vs us/\Q vs H'
def SP(X:Cx)(af:List (Addr×Obj))(D:Ends)(f:Flow)(s':Shared):Prop:=
 match f with
 |.next=>∃aB H',Inv X af aB H' s'/\D.nx aB H'
 |.brk=>∃aB H',Inv X af aB H' s'/\D.bk aB H'
 |.cont=>∃aB H',Inv X af aB H' s'/\D.ct aB H'
 |.ret u=>∃v aB H',Inv X af aB H' s'/\RelV v u/\D.rt v H'
def PE(X:Cx)(e:Expr)(t:TE):Prop:=
 ∀(af:List (Addr×Obj)) (s:Shared) (σ:St) (H:Hp) (Q:VK),Inv X af σ H s->t σ H Q->wpAny (model X.prog X.w) X.A (eval e X.env) (EP X af σ Q) X.xe s
def PT(X:Cx)(e:Expr)(t:TT):Prop:=
 ∀(af:List (Addr×Obj)) (s:Shared) (σ:St) (H:Hp) (Q:Bool->Hp->Prop),Inv X af σ H s->t σ H Q->wpAny (model X.prog X.w) X.A (isTrue e X.env (eval e X.env)) (TP X af σ Q) X.xe s
def PW(X:Cx)(e:Expr)(t:TT):Prop:=
 ∀(whole:Sem Value) (af:List (Addr×Obj)) (s:Shared) (σ:St) (H:Hp) (Q:Bool->Hp->Prop),Inv X af σ H s->t σ H Q->wpAny (model X.prog X.w) X.A (isTrue e X.env whole) (TP X af σ Q) X.xe s
theorem PW.pt{t:TT}(h:PW X e t):PT X e t:=h _
def PA(X:Cx)(es:List Expr)(t:TA):Prop:=
 ∀(pos:Pos) (af:List (Addr×Obj)) (s:Shared) (σ:St) (H:Hp) (Q:List V->Hp->Prop),Inv X af σ H s->t σ H Q->wpAny (model X.prog X.w) X.A (spliced (backTo pos (starEach es X.env))) (AP X af σ Q) X.xe s
def PS(X:Cx)(st:Stmt)(t:TS):Prop:=
 ∀(af:List (Addr×Obj)) (s:Shared) (σ:St) (H:Hp) (D:Ends),Inv X af σ H s->t D σ H->wpAny (model X.prog X.w) X.A (exec st X.env) (SP X af D) X.xe s
def fu(X:Cx)(st:List Stmt)(t:TS):Prop:=
 ∀(af:List (Addr×Obj)) (s:Shared) (σ:St) (H:Hp) (D:Ends),Inv X af σ H s->t D σ H->wpAny (model X.prog X.w) X.A (execs st X.env) (SP X af D) X.xe s
theorem aL{α:Type}{t:Sem α}{Q Q':α->Shared->Prop}(h:wpAny M A t Q E s)(hQ:∀a s,Q a s->Q' a s):wpAny M A t Q' E s:=acC h hQ λ_ _ x=>x
section
variable{X:Cx}
def t_(i:Nat):TE:=λσ H Q=>∃v,σ[i]? = some (some v)/\Q v H
def tC(v:V):TE:=λ_ H Q=>Q v H
theorem pQ(hN:X.N[i]? = some x)(hv:uH X.env.scope x)(hd:(x==("__debug__":Str))=false:=by decide)(nq:(x==("__classdict__":Str))=false:=by decide):PE X (.Name x pos) (t_ i):=by
 intro af s σ H Q I h;obtain⟨v,e,h⟩:=h;obtain⟨m,hn,hl⟩:=I.loc;obtain⟨u,r,l⟩:=hl i x v hN e hv;have fin:EP X af σ Q u s:=⟨v,H,I,r,h⟩
 rcases l with⟨hk,hm⟩|⟨hk,c,hc,L7⟩
 .exact wpAny_Name (wpAny_loadName_local I.ok.kind hk hn hm fin) hd
 .rcases hk with hk|hk
  .exact wpAny_Name (wpAny_loadName_cell I.ok.kind hk hc L7 fin) hd
  .exact wpAny_Name (wpAny_loadName_free I.ok.kind hk hc L7 fin nq) hd
theorem AZ{i j pos}:PE X (.Constant (.int i) j pos) (tC (.int i)):=λ_ _ _ H _ I h=>wpAny_Constant_int ⟨.int i,H,I.tok _,⟨_,rfl⟩,h⟩
theorem Q2{b j pos}:PE X (.Constant (.bool b) j pos) (tC (.bl b)):=λ_ _ _ H _ I h=>Constant_bool ⟨.bl b,H,I,rfl,h⟩
theorem P1{j pos}:PE X (.Constant .none j pos) (tC .aH):=λ_ _ _ H _ I h=>Constant_none ⟨.aH,H,I,rfl,h⟩
def Gl(X:Cx)(x:Str):Prop:=X.env.kindOf x=some .globalImplicit
theorem DS(I:Inv X af σ H s)(hg:Gl X x)(hm:X.mg x=some u)(h:Q u s)
  (hd:(x==("__debug__":Str))=false:=by decide):wpAny (model X.prog X.w) X.A (eval (.Name x pos) X.env) Q E s:=
 Calls.Name_function_global I.ok.kind hg (Calls.loadGlobal_global (by rw[I.ok.glob];exact I.mod.glob.keeps I.bk) hm h) hd
theorem ku(I:Inv X af σ H s)(hg:Gl X x)(hm:X.mg x=none)(hv:bootBuiltins x=some u)(h:Q u s)
  (hn:x≠"__name__":=by decide) (hd:(x==("__debug__":Str))=false:=by decide):wpAny (model X.prog X.w) X.A (eval (.Name x pos) X.env) Q E s:=by
 obtain⟨mb,h1,h2⟩:=I.mod.blt;exact Calls.Name_function_global I.ok.kind hg (Calls.loadGlobal_builtin (by rw[I.ok.glob];exact I.mod.glob.keeps I.bk) hm (by rw[I.ok.blt];exact h1.keeps I.bk) ((h2 x hn).trans hv) h) hd
theorem Xo(hg:Gl X x)(hm:X.mg x=some u)(r:RelV v u)(hd:(x==("__debug__":Str))=false:=by decide):PE X (.Name x pos) (tC v):=
 λ_ _ _ H _ I h=>DS I hg hm ⟨v,H,I,r,h⟩ hd
theorem Ik{x:Str}{v:V}{u:Value}{pos:Pos}(hg:Gl X x)(hm:X.mg x=none)(hv:bootBuiltins x=some u)(r:RelV v u)(hn:x≠"__name__":=by decide)(hd:(x==("__debug__":Str))=false:=by decide):PE X (.Name x pos) (tC v):=
 λ_ _ _ H _ I h=>ku I hg hm hv ⟨v,H,I,r,h⟩ hn hd
variable{a b:Expr}{ta tb:TE}{pos:Pos}
def PC(X:Cx)(op:CmpOp)(a b:Expr)(t:TE):Prop:=
 ∀(af:List (Addr×Obj)) (s:Shared) (σ:St) (H:Hp) (Q:VK),Inv X af σ H s->t σ H Q->
  wpAny (model X.prog X.w) X.A (eval a X.env) (λv aY=>wpAny (model X.prog X.w) X.A (eval b X.env) (λu j_=>wpAny (model X.prog X.w) X.A (compareOp op v u) (EP X af σ Q) X.xe j_) X.xe aY) X.xe s
def tB(t:TE):TT:=λσ H Q=>t σ H λx H1=>∃c,x=.bl c/\Q c H1
theorem VT{op:CmpOp}(h:PC X op a b t)(h1:behindInMarks op b=false:=by first|exact acp _ (by decide) (by decide)|rfl):PE X (.Compare a [op] [b] pos) t:=λaf s σ H Q I hw=>wpAny_Compare1 (h af s σ H Q I hw) h1
theorem XA(h:PE X e t)(he:∀whole,isTrue e X.env whole=(do let v <- whole;standAt e.pos;holding [v] (truthy v)):=by intro _;rfl):PT X e (tB t):=by
 intro af s σ H Q I hw;refine isTrue_plain (aL (h af s σ H _ I hw) λv s1 ⟨x,H1,I1,r1,q1⟩=>?_) (he _);obtain⟨d,rfl,q⟩:=q1;cases r1;exact adC ⟨H1,I1,q⟩
variable{tA wV:TT}{rest:List Expr}
def abk(t u:TT):TT:=λσ H Q=>t σ H λc H1=>if c=true then u σ H1 Q else Q false H1
def tOr(t u:TT):TT:=λσ H Q=>t σ H λc H1=>if c=true then Q true H1 else u σ H1 Q
def abv(t:TT):TT:=λσ H Q=>t σ H λc H1=>Q (!c) H1
theorem VH(ha:PT X a tA):PW X (.BoolOp .And [a] pos) tA:=by
 intro wh af s σ H Q I h;refine isTrue_and (aL (ha af s σ H Q I h) λc s1 e=>?_);cases c with
 |true=>exact isTrue_and_nil e
 |false=>exact e
theorem Uq(ha:PT X a tA):PW X (.BoolOp .Or [a] pos) tA:=by
 intro wh af s σ H Q I h;refine isTrue_or (aL (ha af s σ H Q I h) λc s1 e=>?_);cases c with
 |false=>exact isTrue_or_nil e
 |true=>exact e
theorem Ph(ha:PT X a tA)(hb:PW X (.BoolOp .And (b::rest) pos) wV):PW X (.BoolOp .And (a::b::rest) pos) (abk tA wV):=by
 intro wh af s σ H Q I h;refine isTrue_and (aL (ha af s σ H _ I h) λc s1 ⟨H1,I1,q1⟩=>?_);cases c with
 |true=>exact hb wh af s1 σ H1 Q I1 q1
 |false=>exact⟨H1,I1,q1⟩
theorem abq(ha:PT X a tA)(hb:PW X (.BoolOp .Or (b::rest) pos) wV):PW X (.BoolOp .Or (a::b::rest) pos) (tOr tA wV):=by
 intro wh af s σ H Q I h;refine isTrue_or (aL (ha af s σ H _ I h) λc s1 ⟨H1,I1,q1⟩=>?_);cases c with
 |true=>exact⟨H1,I1,q1⟩
 |false=>exact hb wh af s1 σ H1 Q I1 q1
theorem Qs(ha:PT X a tA):PT X (.UnaryOp .Not a pos) (abv tA):=by
 intro af s σ H Q I h;exact isTrue_not (ha af s σ H (λc H1=>Q (!c) H1) I h)
def WT(ta tb:TE):TE:=λσ H Q=>ta σ H λx H1=>∃c,x=.bl c/\if c=true then tb σ H1 Q else Q (.bl false) H1
def Ra(ta tb:TE):TE:=λσ H Q=>ta σ H λx H1=>∃c,x=.bl c/\if c=true then Q (.bl true) H1 else tb σ H1 Q
def WR(ta:TE):TE:=λσ H Q=>ta σ H λx H1=>∃c,x=.bl c/\Q (.bl (!c)) H1
theorem Rf{op}(h:PE X a t):PE X (.BoolOp op [a] pos) t:=λaf s σ H Q I hw=>BoolOp_one (h af s σ H Q I hw)
theorem aa9(ha:PE X a ta)(hb:PE X (.BoolOp .And (b::rest) pos) tb):PE X (.BoolOp .And (a::b::rest) pos) (WT ta tb):=by
 intro af s σ H Q I h;refine BoolOp_and (aL (ha af s σ H _ I h) λv s1 ⟨x,H1,I1,r1,q1⟩=>?_);obtain⟨c,rfl,q1⟩:=q1;cases r1;refine adC ?_;cases c with
 |true=>exact hb af s1 σ H1 Q I1 q1
 |false=>exact⟨.bl false,H1,I1,rfl,q1⟩
theorem abP(ha:PE X a ta)(hb:PE X (.BoolOp .Or (b::rest) pos) tb):PE X (.BoolOp .Or (a::b::rest) pos) (Ra ta tb):=by
 intro af s σ H Q I h;refine BoolOp_or (aL (ha af s σ H _ I h) λv s1 ⟨x,H1,I1,r1,q1⟩=>?_);obtain⟨c,rfl,q1⟩:=q1;cases r1;refine adC ?_;cases c with
 |false=>exact hb af s1 σ H1 Q I1 q1
 |true=>exact⟨.bl true,H1,I1,rfl,q1⟩
theorem OW(ha:PE X a ta):PE X (.UnaryOp .Not a pos) (WR ta):=by
 intro af s σ H Q I h;refine UnaryOp_ (aL (ha af s σ H _ I h) λv s1 ⟨x,H1,I1,r1,q1⟩=>?_);obtain⟨c,rfl,q1⟩:=q1;cases r1;exact not_of (adC ⟨.bl (!c),H1,I1,rfl,q1⟩)
end
def bG(K:PySem.W.Frag)(H:Hp)(a:Addr)(xs:List V):Prop:=
 Rd H a (.lst xs)\/
  ∃(o:Obj) (ak:Array Value) (n:Nat),K.lookup a=some o/\o.cls=.type "list"/\o.dict=none/\o.data=.seq ak n/\ak.size<=sizeLine/\aK xs ak.toList
def b8(K:PySem.W.Frag)(H:Hp)(a:Addr)(xs:List V):Prop:=
 Rd H a (.tup xs)\/
  ∃(o:Obj) (ak:Array Value) (n:Nat),K.lookup a=some o/\o.cls=.type "tuple"/\o.dict=none/\o.data=.seq ak n/\ak.size<=sizeLine/\aK xs ak.toList
noncomputable def Wc:Value->Option V
 |.none=>some .aH
 |.bool b=>some (.bl b)
 |.int i _=>some (.int i)
 |.str x _=>some (.str x)
 |.bytes b _=>some (.jt b)
 |.float b _=>some (.pN b)
 |.ref a=>some (.ref a)
 |.type n=>some (.ty n)
 |_=>none
theorem RelV.abs(r:RelV x u):Wc u=some x:=by
 cases x with
 |aH=>cases r;rfl
 |bl _=>cases r;rfl
 |int _=>obtain⟨t,rfl⟩:=r;rfl
 |str _=>obtain⟨t,rfl⟩:=r;rfl
 |jt _=>obtain⟨t,rfl⟩:=r;rfl
 |pN _=>obtain⟨t,rfl⟩:=r;rfl
 |ref _=>cases r;rfl
 |ty _=>cases r;rfl
theorem RelV.inj(r:RelV x u)(q:RelV y u):x=y:=ab8 (r.abs.symm.trans q.abs)
theorem aK.inj:∀{xs ys:List V}{us:List Value},aK xs us->aK ys us->xs=ys
 |_,_,_,.nil,.nil=>rfl
 |_,_,_,.cons r t,.cons r' t'=>by rw[r.inj r',aK.inj t t']
section
variable{X:Cx}{af:List (Addr×Obj)}{σ:St}{H:Hp}{s:Shared}{a:Addr}{xs ys:List V}
theorem bG.of{K:PySem.W.Frag}(h:H a=some (.lst xs)):bG K H a xs:=.inl (.inl h)
theorem b8.of{K:PySem.W.Frag}(h:H a=some (.tup xs)):b8 K H a xs:=.inl (.inl h)
theorem Inv.list(I:Inv X af σ H s)(h:bG X.K H a xs):∃ak:List Value,aK xs ak/\PlainL s.heap a ak.toArray/\xs.length<=sizeLine:=by
 rcases h with h|⟨o,ak,n,hk,hc,hd,hs,hz,r⟩
 .obtain⟨z,ak,n,r,e⟩:=h.ok I.aC;exact⟨ak,r,⟨_,n,e,rfl,rfl,rfl⟩,z⟩
 .refine⟨ak.toList,r,⟨o,n,I.cS a o hk,hc,hd,by simpa using hs⟩,?_⟩;have e:=r.length;simp only[ab2] at e
  lia
theorem Inv.SM(I:Inv X af σ H s)(h:b8 X.K H a xs):∃ak:List Value,aK xs ak/\lP s.heap a ak.toArray/\xs.length<=sizeLine:=by
 rcases h with h|⟨o,ak,n,hk,hc,hd,hs,hz,r⟩
 .obtain⟨z,ak,r,p⟩:=h.ok I.aC;exact⟨ak,r,p,z⟩
 .refine⟨ak.toList,r,⟨o,I.cS a o hk,hc,hd,n,by simpa using hs⟩,?_⟩;have e:=r.length;simp only[ab2] at e
  lia
theorem Inv.tuple(I:Inv X af σ H s)(h:b8 X.K H a xs):∃ak:List Value,aK xs ak/\IsTup s.heap a ak.toArray/\xs.length<=sizeLine:=by
 rcases h with h|⟨o,ak,n,hk,hc,hd,hs,hz,r⟩
 .obtain⟨z,ak,r,p⟩:=h.ok I.aC;exact⟨ak,r,p.isTup,z⟩
 .refine⟨ak.toList,r,⟨o,I.cS a o hk,hc,n,by simpa using hs⟩,?_⟩;have e:=r.length;simp only[ab2] at e
  lia
theorem Inv.AL(I:Inv X af σ H s)(h:bG X.K H a xs)(h':bG X.K H a ys):xs=ys:=by
 obtain⟨ak,r,⟨o,n,e,_,_,d⟩,_⟩:=I.list h;obtain⟨its',r',⟨o',n',e',_,_,d'⟩,_⟩:=I.list h';rw[e] at e';cases e';rw[d] at d';injection d' with d1 _;have:ak=its':=by simpa using congrArg Array.toList d1
 subst this;exact r.inj r'
theorem Inv.PF(I:Inv X af σ H s)(h:b8 X.K H a xs)(h':b8 X.K H a ys):xs=ys:=by
 obtain⟨ak,r,⟨o,e,_,n,d⟩,_⟩:=I.tuple h;obtain⟨its',r',⟨o',e',_,n',d'⟩,_⟩:=I.tuple h';rw[e] at e';cases e';rw[d] at d';injection d' with d1 _;have:ak=its':=by simpa using congrArg Array.toList d1
 subst this;exact r.inj r'
end
noncomputable abbrev Cx.ja(X:Cx)(E:Value->Shared->Prop):Cx:={ X with xe:=E }
abbrev Cx.d8(X:Cx):Cx:=X.ja λ_ _=>False
theorem Cx.Ok.ja{X:Cx}(ok:X.Ok)(E:Value->Shared->Prop):(X.ja E).Ok:=
 ⟨ok.mod,ok.kind,ok.glob,ok.blt,ok.above,ok.inj,ok.has,ok.rJ,ok.hd,ok.frames,ok.ue,ok.zp,ok.bs,ok.jh,ok.qT,ok.se,ok.jc,ok.n5⟩
theorem Cx.Ok.jN{X:Cx}{E:Value->Shared->Prop}(ok:(X.ja E).Ok):X.Ok:=
 ⟨ok.mod,ok.kind,ok.glob,ok.blt,ok.above,ok.inj,ok.has,ok.rJ,ok.hd,ok.frames,ok.ue,ok.zp,ok.bs,ok.jh,ok.qT,ok.se,ok.jc,ok.n5⟩
section
variable{X:Cx}{af:List (Addr×Obj)}{σ:St}{H:Hp}{s:Shared}{E:Value->Shared->Prop}
theorem Inv.ja(I:Inv X af σ H s)(E:Value->Shared->Prop):Inv (X.ja E) af σ H s:=⟨I.ok.ja E,I.os,I.bare,I.base,I.loc,I.cell,I.free,I.iJ,I.pin,I.aC,I.len,I.hq⟩
theorem Inv.jN(I:Inv (X.ja E) af σ H s):Inv X af σ H s:=⟨I.ok.jN,I.os,I.bare,I.base,I.loc,I.cell,I.free,I.iJ,I.pin,I.aC,I.len,I.hq⟩
theorem SP.jN{D:Ends}{f:Flow}(h:SP (X.ja E) af D f s'):SP X af D f s':=by
 cases f with
 |next=>obtain⟨aB,H',I,q⟩:=h;exact⟨aB,H',I.jN,q⟩
 |brk=>obtain⟨aB,H',I,q⟩:=h;exact⟨aB,H',I.jN,q⟩
 |cont=>obtain⟨aB,H',I,q⟩:=h;exact⟨aB,H',I.jN,q⟩
 |ret u=>obtain⟨v,aB,H',I,r,q⟩:=h;exact⟨v,aB,H',I.jN,r,q⟩
theorem fu.d8{st:List Stmt}(h:fu X.d8 st t):fu X st t:=λaf s σ H D I hw=>
 acC (h af s σ H D (I.ja _) hw) (λ_ _ q=>q.jN) λ_ _ z=>False.elim z
end
section
variable{X:Cx}{st:Stmt}{rest:List Stmt}{t u:TS}{e:Expr}{te:TE}{pos:Pos}
def Pr:TS:=λD σ H=>D.nx σ H
def PB(t u:TS):TS:=λD σ H=>t { D with nx:=u D } σ H
theorem BV:fu X [] Pr:=λ_ _ σ H _ I h=>wpAny_execs_nil ⟨σ,H,I,h⟩
theorem C8(h1:PS X st t)(h2:fu X rest u):fu X (st::rest) (PB t u):=by
 intro af s σ H D I h;refine wpAny_execs_cons (aL (h1 af s σ H { D with nx:=u D } I h) λf s1 q=>?_);cases f with
 |next=>
  obtain⟨aB,H',I',q⟩:=q;exact h2 af s1 aB H' D I' q
 |ret v=>exact q
 |brk=>exact q
 |cont=>exact q
theorem zM(h1:PS X st t):fu X [st] t:=by
 intro af s σ H D I h;refine wpAny_execs_cons (aL (h1 af s σ H D I h) λf s1 q=>?_);cases f with
 |next=>exact wpAny_execs_nil q
 |ret v=>exact q
 |brk=>exact q
 |cont=>exact q
theorem Inv.quiet(I:Inv X af σ H s):interactive X.env=false:=by simp[interactive,I.ok.kind]
def UC(te:TE):TS:=λD σ H=>te σ H λ_ H1=>D.nx σ H1
theorem uI(he:PE X e te)(hs:swapsWith e none pos.line X.env=pure false:=by rfl):PS X (.Expr e pos) (UC te):=by
 intro af s σ H D I h;exact wpAny_Expr_any (aL (he af s σ H _ I h) λv s1 ⟨x,H1,I1,r1,q1⟩=>⟨σ,H1,I1,q1⟩) I.quiet hs
def RW(te:TE):TS:=λD σ H=>te σ H D.rt
theorem n6(he:PE X e te):PS X (.Return (some e) pos) (RW te):=by
 intro af s σ H D I h;exact wpAny_Return_some (aL (he af s σ H _ I h) λv s1 ⟨x,H1,I1,r1,q1⟩=>⟨x,σ,H1,I1,r1,q1⟩)
def P4(c:TT)(t u:TS):TS:=λD σ H=>c σ H λb H1=>if b=true then t D σ H1 else u D σ H1
theorem Ec{tc:TT}(hc:PT X c tc)(ha:fu X a t)(hb:fu X b u):PS X (.If c a b pos) (P4 tc t u):=by
 intro af s σ H D I h;refine wpAny_If (aL (hc af s σ H _ I h) λd s1 ⟨H1,I1,q1⟩=>?_);cases d with
 |true=>exact ha af s1 σ H1 D I1 q1
 |false=>exact hb af s1 σ H1 D I1 q1
def Ym:TS:=λ_ _ _=>False
theorem Jp:PS X st Ym:=λ_ _ _ _ _ _ h=>h.elim
end
abbrev TG:=V->St->Hp->(St->Hp->Prop)->Prop
abbrev p7:=List V->St->Hp->(St->Hp->Prop)->Prop
def PG(X:Cx)(target:Expr)(t:TG):Prop:=
 ∀(af:List (Addr×Obj)) (s:Shared) (σ:St) (H:Hp) (v:V) (u:Value) (Q:St->Hp->Prop),Inv X af σ H s->RelV v u->t v σ H Q->
  wpAny (model X.prog X.w) X.A (assign target X.env u) (λ_ s'=>∃aB H',Inv X af aB H' s'/\Q aB H') X.xe s
def uX(X:Cx)(ts:List Expr)(t:p7):Prop:=
 ∀(af:List (Addr×Obj)) (s:Shared) (σ:St) (H:Hp) (vs:List V) (us:List Value) (Q:St->Hp->Prop),Inv X af σ H s->aK vs us->t vs σ H Q->
  wpAny (model X.prog X.w) X.A (assignInOrder ((assignEach ts X.env).map (·.2)) us) (λ_ s'=>∃aB H',Inv X af aB H' s'/\Q aB H') X.xe s
abbrev EW:=V->V->V->Hp->(Hp->Prop)->Prop
def K6(X:Cx)(t:EW):Prop:=
 ∀(af:List (Addr×Obj)) (s:Shared) (σ:St) (H:Hp) (o i v:V) (ov iv u:Value) (Q:Hp->Prop),Inv X af σ H s->RelV o ov->RelV i iv->RelV v u->t o i v H Q->
  wpAny (model X.prog X.w) X.A (setItem ov iv u) (λ_ s'=>∃H',Inv X af σ H' s'/\Q H') X.xe s
section
variable{X:Cx}{pos:Pos}
def zW(i:Nat):TG:=λv σ H Q=>Q (σ.set i (some v)) H
theorem Qp(hN:X.N.Nodup)(hi:X.N[i]? = some x)(hx:Loc X.env.scope x)(hf:X.fn x=true\/X.env.scope.names.lookup x=some .local:=by first|exact .inl rfl|exact .inr rfl|assumption):PG X (.Name x pos) (zW i):=by
 intro af s σ H v u Q I r h;exact wpAny_assign_Name (BW I hN hi hx r (λs' I'=>⟨_,H,I',h⟩) hf)
def VS:p7:=λvs σ H Q=>vs=[]/\Q σ H
def Xf(t:TG)(u:p7):p7:=λvs σ H Q=>∃v r,vs=v::r/\t v σ H λaB H'=>u r aB H' Q
theorem Sv:uX X [] VS:=by
 intro af s σ H vs us Q I r h;obtain⟨e,h⟩:=h;subst e;cases r;exact assignInOrder_nil ⟨σ,H,I,h⟩
theorem VJ{u:p7}(h1:PG X e t)(h2:uX X es u)
  (hs:(assignEach (e::es) X.env).map (·.2)=assign e X.env::(assignEach es X.env).map (·.2):=by rfl):uX X (e::es) (Xf t u):=by
 intro af s σ H vs us Q I r h;obtain⟨v,vr,e1,h⟩:=h;subst e1;cases r with
 |cons r rr=>
  rw[hs];refine assignInOrder_cons (aL (h1 af s σ H _ _ _ I r h) λ_ s1 ⟨kG,H1,I1,q1⟩=>?_);exact h2 af s1 kG H1 _ _ Q I1 rr q1
def UD(K:PySem.W.Frag)(n:Nat)(t:p7):TG:=λv σ H Q=>∃a xs,v=.ref a/\b8 K H a xs/\xs.length=n/\t xs σ H Q
theorem Rx{t:p7}(hc:X.calm=true)(h:uX X es t)
  (hn:(assignEach es X.env).length=n:=by rfl) (fC:(assignEach es X.env).findIdx? (·.1)=none:=by rfl):PG X (.Tuple es k pos) (UD X.K n t):=by
 intro af s σ H v u Q I r hw;obtain⟨a,xs,e1,hq,hl,hw⟩:=hw;subst e1;cases r;obtain⟨ak,rv,ht,hz⟩:=I.tuple hq;refine assign_Tuple_tuple (I.ok.hd hc) ht (by simp[hn,<- hl,rv.length]) fC λh' hx=>?_
 have I1:=I.kept (t':=s.toks) λb o e=>hx b o (ab6 (aba e)) e
 exact h af _ σ H xs _ Q I1 (by simpa using rv) hw
def Ru(to ti:TE)(t:EW):TG:=λv σ H Q=>to σ H λo H1=>ti σ H1 λi H2=>t o i v H2 λH3=>Q σ H3
theorem Qx{t:EW}(ho:PE X o to)(hi:PE X i ti)(hs:K6 X t)
  (ha:∀v,assign (.Subscript o i pos) X.env v=(do
   let ov <- holding [v] (eval o X.env)
   let iv <- holding [v,ov] (eval i X.env)
   standAt pos
   holding [v,ov,iv] (setItem ov iv v)
   release [v,ov,iv] []):=by intro _;rfl):PG X (.Subscript o i pos) (Ru to ti t):=by
 intro af s σ H v u Q I r h;rw[ha];refine aac (acR (aL (ho af s σ H _ I h) λov s1 ⟨x,H1,I1,r1,q1⟩=>?_));refine aac (acR (aL (hi af s1 σ H1 _ I1 q1) λiv s2 ⟨y,H2,I2,r2,q2⟩=>?_));refine aac (wpAny_standAt (aac (acR (aL (hs af s2 σ H2 x y v ov iv u _ I2 r1 r2 r q2) λ_ s3 ⟨H3,I3,q3⟩=>?_))));exact wpAny_release ⟨σ,H3,I3,q3⟩
def El(te:TE)(g:TG):TS:=λD σ H=>te σ H λx H1=>g x σ H1 D.nx
theorem PK(he:PE X e te)(hg:PG X tg g)(hs:swapsWithSole [tg] e pos.line X.env=pure false:=by rfl)(hw:swappedStores [tg] e X.env=pure none:=by rfl)
  (h1:(assignEach [tg] X.env).map (·.2)=[assign tg X.env]:=by rfl):PS X (.Assign [tg] e pos) (El te g):=by
 intro af s σ H D I h;refine wpAny_Assign_stores (aL (he af s σ H _ I h) λv s1 ⟨x,H1,I1,r1,q1⟩=>?_) hs hw;rw[h1];exact aL (hg af s1 σ H1 x v _ I1 r1 q1) λ_ s2 q=>q
theorem Iq(hN:X.N.Nodup)(hi:X.N[i]? = some x)(hx:Loc X.env.scope x)(he:PE X e te)(hs:swapsWith e (some (.Name x pos')) pos.line X.env=pure false:=by rfl)(hf:X.fn x=true\/X.env.scope.names.lookup x=some .local:=by first|exact .inl rfl|exact .inr rfl|assumption):
  PS X (.Assign [.Name x pos'] e pos) (El te (zW i)):=by
 intro af s σ H D I h;refine wpAny_Assign_Name (aL (he af s σ H _ I h) λv s1 ⟨y,H1,I1,r1,q1⟩=>?_) hs;exact BW I1 hN hi hx r1 (λs2 I2=>⟨_,H1,I2,q1⟩) hf
def VU(c:TT)(tb:TS):TS:=λD σ H=>∃W:Nat->St->Hp->Prop,(∃m,W m σ H)/\∀m σ H,W m σ H->
 c σ H λb H1=>if b=true then ∃N:St->Hp->Prop,(∀aB H',N aB H'->∃m',m'<m/\W m' aB H')/\tb { D with nx:=N,ct:=N,bk:=D.nx } σ H1 else D.nx σ H1
theorem Vr{c:Expr}{body:List Stmt}{tc:TT}{tb:TS}(hp:PassesOwn (model X.prog X.w) X.A X.env X.xe)(hc:PT X c tc)(hb:fu X body tb):PS X (.While c body [] pos) (VU tc tb):=by
 intro af s σ H D I h;obtain⟨W,⟨m0,w0⟩,turn⟩:=h;refine wpAny_While (codeAny_whileLoop (λn s'=>∃aB H',Inv X af aB H' s'/\W n aB H') ?_ m0 ⟨σ,H,I,w0⟩)
 rintro n s1 ⟨kG,H1,I1,w1⟩
 refine ad2 hp (aL (hc af s1 kG H1 _ I1 (turn n kG H1 w1)) λb s2 ⟨H2,I2,q2⟩=>?_);cases b with
 |true=>
  obtain⟨N,hN,q2⟩:=q2;rw[if_pos rfl];refine ad2 hp (aL (hb af s2 kG H2 _ I2 q2) λf s3 q3=>?_);cases f with
  |next=>
   obtain⟨b7,H3,I3,n3⟩:=q3;obtain⟨m',hm,w3⟩:=hN b7 H3 n3;exact⟨m',hm,b7,H3,I3,w3⟩
  |cont=>
   obtain⟨b7,H3,I3,n3⟩:=q3;obtain⟨m',hm,w3⟩:=hN b7 H3 n3;exact⟨m',hm,b7,H3,I3,w3⟩
  |brk=>exact q3
  |ret v=>exact q3
 |false=>
  rw[aa7 abI];exact wpAny_execs_nil ⟨kG,H2,I2,q2⟩
end
structure It where
 go:Nat->Hp->Prop
 uq:Nat->Hp->V->Hp->Prop
 stop:Nat->Hp->Prop
 rg:Bool
def gg(X:Cx)(af:List (Addr×Obj))(H:Hp)(b:Addr):Prop:=
 H b=none/\b≠X.env.locals/\b∉X.fs/\(b∈X.ex\/X.cY.heap.objs.size<=b)/\(∀x c,X.env.cells.lookup x=some c->c≠b)/\∀p∈X.pn++af,p.1≠b
theorem Inv.oN(I:Inv X af σ H s)(hb:s.heap.objs.size<=b)(hn:H' b=none):gg X af H' b:=by
 refine⟨hn,ada (acn I.lt hb),I.Ie hb,.inr (ac9 I.sz hb),λx c e z=>?_,λp hp z=>?_⟩
 .obtain⟨v,q⟩:=I.cell x c e;exact absurd (acn q.lt (by rw[z];exact hb)) (acW _)
 .exact absurd (acn (aba (I.pin p hp).1) (by rw[z];exact hb)) (acW _)
structure Turn(P:Program)(w:World)(K:PySem.W.Frag)(tg:Expr)(J:It)(fp:List Addr)(it:Addr)(tn:Nat->Heap->Prop):Prop where
 mem:it∈fp
 obj:∀i h,tn i h->∀b∈fp,∃o,h.get? b=some o/\∀v,o.data≠.cell v
 keep:∀i h h',tn i h->(∀b∈fp,∀o,h.get? b=some o->h'.get? b=some o)->tn i h'
 item:∀(X:Cx),X.prog=P->X.w=w->X.K=K->(X.calm=true\/J.rg=true)->∀(i:Nat) (af:List (Addr×Obj)) (s:Shared) (σ:St) (H:Hp) (E:Value->Shared->Prop),Inv X af σ H s->(∀b∈fp,gg X af H b)->tn i s.heap->J.go i H->
  wpAny (model P w) X.A (pyNext (.ref it)) (λr s1=>∃u,r=some u/\
   wpAny (model P w) X.A (letOwnedTupleGo tg (.ref it) u) (λ_ s2=>∃x H',Inv X af σ H' s2/\RelV x u/\J.uq i H x H'/\tn (i+1) s2.heap/\∀b∈fp,H' b=none) E s1) E s
 done:∀(X:Cx),X.prog=P->X.w=w->X.K=K->(X.calm=true\/J.rg=true)->∀(i:Nat) (af:List (Addr×Obj)) (s:Shared) (σ:St) (H:Hp) (E:Value->Shared->Prop),Inv X af σ H s->(∀b∈fp,gg X af H b)->tn i s.heap->J.stop i H->
  wpAny (model P w) X.A (pyNext (.ref it)) (λr s1=>r=none/\Inv X af σ H s1) E s
 self:∀(A:Around) (i:Nat) (s:Shared) (Q:Value->Shared->Prop) (E:Value->Shared->Prop),tn i s.heap->Q (.ref it) s->wpAny (model P w) A (pyIter (.ref it)) Q E s
abbrev TI:=St->Hp->(It->Hp->Prop)->Prop
def LA(X:Cx)(af:List (Addr×Obj))(σ:St)(tg:Expr)(R:It->Hp->Prop)(yQ:Value)(s2:Shared):Prop:=
 ∃(it:Addr) (fp:List Addr) (tn:Nat->Heap->Prop) (J:It) (H':Hp),yQ=.ref it/\Inv X af σ H' s2/\Turn X.prog X.w X.K tg J fp it tn/\tn 0 s2.heap/\(∀b∈fp,gg X af H' b)/\R J H'
def PI(X:Cx)(tg iter:Expr)(wi:TI):Prop:=
 ∀(af:List (Addr×Obj)) (s:Shared) (σ:St) (H:Hp) (R:It->Hp->Prop),Inv X af σ H s->wi σ H R->
  wpAny (model X.prog X.w) X.A (eval iter X.env) (λv s1=>wpAny (model X.prog X.w) X.A (pyIter v) (LA X af σ tg R) X.xe s1) X.xe s
theorem Fp{n:String}{Q:Unit->Shared->Prop}(ho:s.heap.get? it=some o)(hc:o.cls=.type n)(hd:o.data=.fields vs)
    (hn:["enumerate","zip","dict_itemiterator","dict_reverseitemiterator","odict_iterator","itertools.zip_longest","itertools.pairwise"].contains n=false) (hQ:Q () s):wpAny M A (letOwnedTupleGo tg (.ref it) u) Q E s:=by
  unfold letOwnedTupleGo;cases tg<;>first
    |exact aaC hQ
    | (cases u <;> first
        |exact aaC hQ
        | (refine aac (wpAny_load ho ?_)
           rw[hc,hd];show wpAny M A (if(["enumerate","zip","dict_itemiterator","dict_reverseitemiterator","odict_iterator","itertools.zip_longest","itertools.pairwise"].contains n&&vs[0]?==some (rawInt _))=true then _ else _) Q E s;rw[aa7 (by intro h;rw[hn,Bool.false_and] at h;cases h)];exact aaC hQ))
noncomputable def zf(K:PySem.W.Frag)(a:Addr):It:=
 ⟨λi H=>∃xs x,bG K H a xs/\xs[i]? = some x,λi H x H'=>H'=H/\∀xs,bG K H a xs->xs[i]? = some x,λi H=>∃xs,bG K H a xs/\xs.length<=i,false⟩
noncomputable def Bd(K:PySem.W.Frag)(a:Addr):It:=
 ⟨λi H=>∃xs x,b8 K H a xs/\xs[i]? = some x,λi H x H'=>H'=H/\∀xs,b8 K H a xs->xs[i]? = some x,λi H=>∃xs,b8 K H a xs/\xs.length<=i,false⟩
def qd(lo:Int)(n:Nat):It:=⟨λi _=>i<n,λi H x H'=>H'=H/\x=.int (lo+i),λi _=>n<=i,true⟩
theorem P9{K:PySem.W.Frag}(a it:Addr):Turn P w K tg (zf K a) [it] it (λi h=>h.IsListIter it a i) where
 mem:=by simp
 obj:=λi h st b hb=>by
  have e:b=it:=by simpa using hb
  subst e;obtain⟨o,e,c,d⟩:=st;exact⟨o,e,λv z=>by rw[d] at z;cases z⟩
 keep:=λi h h' st k=>st.at λo e=>k it (by simp) o e
 item:=by
  intro X hP hw hK hc i af s σ H E I hf st hg;subst hP hw hK;obtain⟨xs,x,hq,hx⟩:=hg;obtain⟨ak,rv,p,hz⟩:=I.list hq;obtain⟨u,hu,ru⟩:=rv.get hx;obtain⟨f0,f1,f2,f3,f4,f5⟩:=hf it (by simp);refine wpAny_pyNext_list_item st p.isList (by simpa using hu) λh' ao sb=>?_
  have I1:Inv X af σ H { s with heap:=h' }:=I.turned (λb o hb e=>(sb.2 b hb).trans e) f0 f1 f3 f4 f5;obtain⟨o,e,c,d⟩:=id ao;exact⟨u,rfl,Fp e c d (by decide) ⟨x,H,I1,ru,⟨rfl,λys hy=>by rw[I.AL hy hq];exact hx⟩,ao,λb hb=>(hf b hb).1⟩⟩
 done:=by
  intro X hP hw hK hc i af s σ H E I hf st hg;subst hP hw hK;obtain⟨xs,hq,hx⟩:=hg;obtain⟨ak,rv,p,hz⟩:=I.list hq;obtain⟨f0,f1,f2,f3,f4,f5⟩:=hf it (by simp);have hl:=rv.length;exact wpAny_pyNext_list_end (I.ok.hd (hc.resolve_right λz=>abI z)) st p.isList (by simp;lia) λh' eb=>⟨rfl,I.turned (λb o hb e=>eb b o hb e) f0 f1 f3 f4 f5⟩
 self:=λ_ _ _ _ _ st h=>wpAny_pyIter_listiter st h
theorem RN{K:PySem.W.Frag}(a it:Addr):Turn P w K tg (Bd K a) [it] it (λi h=>h.IsTupleIter it a i) where
 mem:=by simp
 obj:=λi h st b hb=>by
  have e:b=it:=by simpa using hb
  subst e;obtain⟨o,e,c,d⟩:=st;exact⟨o,e,λv z=>by rw[d] at z;cases z⟩
 keep:=λi h h' st k=>st.at λo e=>k it (by simp) o e
 item:=by
  intro X hP hw hK hc i af s σ H E I hf st hg;subst hP hw hK;obtain⟨xs,x,hq,hx⟩:=hg;obtain⟨ak,rv,p,hz⟩:=I.tuple hq;obtain⟨u,hu,ru⟩:=rv.get hx;obtain⟨f0,f1,f2,f3,f4,f5⟩:=hf it (by simp);refine wpAny_pyNext_tuple_item st (show s.heap.IsTuple a ak.toArray from p) (by simpa using hu) λh' ao sb=>?_
  have I1:Inv X af σ H { s with heap:=h' }:=I.turned (λb o hb e=>(sb.2 b hb).trans e) f0 f1 f3 f4 f5;obtain⟨o,e,c,d⟩:=id ao;exact⟨u,rfl,Fp e c d (by decide) ⟨x,H,I1,ru,⟨rfl,λys hy=>by rw[I.PF hy hq];exact hx⟩,ao,λb hb=>(hf b hb).1⟩⟩
 done:=by
  intro X hP hw hK hc i af s σ H E I hf st hg;subst hP hw hK;obtain⟨xs,hq,hx⟩:=hg;obtain⟨ak,rv,p,hz⟩:=I.tuple hq;obtain⟨f0,f1,f2,f3,f4,f5⟩:=hf it (by simp);have hl:=rv.length;exact wpAny_pyNext_tuple_end (I.ok.hd (hc.resolve_right λz=>abI z)) st (show s.heap.IsTuple a ak.toArray from p) (by simp;lia) λh' eb=>⟨rfl,I.turned (λb o hb e=>eb b o hb e) f0 f1 f3 f4 f5⟩
 self:=λ_ _ _ _ _ st h=>wpAny_pyIter_tupleiter st h
theorem S5{K:PySem.W.Frag}(it:Addr)(lo:Int)(n:Nat):Turn P w K tg (qd lo n) [it] it (λi h=>IsRangeIter h it (lo+(i:Nat)*1) ((n:Int)-(i:Nat)) 1) where
 mem:=by simp
 obj:=λi h st b hb=>by
  have e:b=it:=by simpa using hb
  subst e;exact⟨_,st,λv z=>by
   have z':Data.fields _=Data.cell v:=z;cases z'⟩
 keep:=λi h h' st k=>k it (by simp) _ st
 item:=by
  intro X hP hw hK hc i af s σ H E I hf st hg;subst hP hw hK;obtain⟨f0,f1,f2,f3,f4,f5⟩:=hf it (by simp);refine wpAny_pyNext_range_item st (by have:i<n:=hg;lia) λh' ao sb=>?_
  have I1:Inv X af σ H { s with heap:=h',toks:=s.toks+1 }:=I.turned (λb o hb e=>(sb.2 b hb).trans e) f0 f1 f3 f4 f5;have e1:lo+((i+1:Nat):Int)*1=lo+(i:Int)*1+1:=by lia
  have e2:(n:Int)-((i+1:Nat):Int)=(n:Int)-(i:Int)-1:=by lia
  refine⟨_,rfl,Fp ao rfl rfl (by decide) ⟨.int (lo+i),H,I1,⟨s.toks,?_⟩,⟨rfl,rfl⟩,by rw[e1,e2];exact ao,λb hb=>(hf b hb).1⟩⟩;rw[Int.mul_one]
 done:=by
  intro X hP hw hK hc i af s σ H E I hf st hg;subst hP hw hK;obtain⟨f0,f1,f2,f3,f4,f5⟩:=hf it (by simp);rcases I.hq.hd with h0|⟨a',ob,u,vs,h0,h1,h2,h3⟩
  .exact wpAny_pyNext_range_end h0 st (by have:n<=i:=hg;lia) λh' eb=>⟨rfl,I.turned (λb o hb e=>eb b o hb e) f0 f1 f3 f4 f5⟩
  .exact Wi h0 (I.aC a' _ h1).1 h2 h3 st (by have:n<=i:=hg;lia) λh' eb=>⟨rfl,I.turned (λb o hb e=>eb b o hb e) f0 f1 f3 f4 f5⟩
 self:=λ_ _ _ _ _ st h=>wpAny_pyIter_rangeiter st h
section
variable{X:Cx}{tg:Expr}
theorem Ln{R:It->Hp->Prop}{lo hi:Int}{t u v:Tok}{tk:Nat}(I:Inv X af σ H s)(h1:-(2 ^ 62)<=lo)(h2:lo<2 ^ 62)(h3:-(2 ^ 62)<=hi)(h4:hi<2 ^ 62)
  (q:R (qd lo (hi-lo).toNat) H):wpAny (model X.prog X.w) X.A (pyIter (.ref s.heap.objs.size)) (LA X af σ tg R) E { s with heap:=s.heap.push { cls:=.type "range",data:=.fields #[.int lo t,.int hi u,.int 1 v] },toks:=tk }:=by
 refine wpAny_pyIter_range (IsRange.new ..) (small_one h1 h2 h3 h4) ?_;have I1:Inv X af σ H { s with heap:=s.heap.push { cls:=.type "range",data:=.fields #[.int lo t,.int hi u,.int 1 v] },toks:=tk }:=I.kept λb o e=>aad _ e
 refine⟨(s.heap.push { cls:=.type "range",data:=.fields #[.int lo t,.int hi u,.int 1 v] }).objs.size,[(s.heap.push { cls:=.type "range",data:=.fields #[.int lo t,.int hi u,.int 1 v] }).objs.size],_,_,H,rfl,
  I1.kept λb o e=>aad _ e,S5 _ lo (hi-lo).toNat,?_,λb hb=>?_,q⟩
 .have e1:lo+((0:Nat):Int)*1=lo:=by simp
  have e2:(((hi-lo).toNat:Nat):Int)-((0:Nat):Int)=Builtin.Range.rangeSize lo hi 1:=by rw[rangeSize_one];split<;>lia
  rw[e1,e2];exact abb _ rfl
 .have e:b=(s.heap.push { cls:=.type "range",data:=.fields #[.int lo t,.int hi u,.int 1 v] }).objs.size:=by simpa using hb
  subst e;exact I1.oN (aa2 _) (I1.aC.fresh (aa2 _))
def UO(ta:TA):TI:=λσ H R=>ta σ H λvs H1=>∃j:Int,vs=[.int j]/\-(2 ^ 62)<=j/\j<2 ^ 62/\R (qd 0 j.toNat) H1
def abj(ta:TA):TI:=λσ H R=>ta σ H λvs H1=>∃i j:Int,vs=[.int i,.int j]/\(-(2 ^ 62)<=i/\i<2 ^ 62/\-(2 ^ 62)<=j/\j<2 ^ 62)/\R (qd i (j-i).toNat) H1
theorem N1{ta:TA}(hg:Gl X "range")(hm:X.mg "range"=none)(ha:PA X [a] ta)(hs:starEach [a] X.env=[(false,eval a X.env)]:=by rfl):PI X tg (.Call (.Name "range" p) [a] [] pos) (UO ta):=by
 intro af s σ H R I h;refine Call_ (ku I hg hm boot_range (acY (aL (ha pos af s σ H _ I h) λus s1 ⟨vs,H1,I1,r1,q1⟩=>?_) hs rfl));obtain⟨j,e,q1,q2,q⟩:=q1;subst e;cases r1 with
 |cons r rr=>
  cases rr;obtain⟨t,rfl⟩:=r;exact call_range_1 (Ln I1 (by lia) (by lia) q1 q2 (by simpa using q))
theorem Tj{ta:TA}(hg:Gl X "range")(hm:X.mg "range"=none)(ha:PA X [a,b] ta)(hs:starEach [a,b] X.env=[(false,eval a X.env),(false,eval b X.env)]:=by rfl)(bY:starEach [b] X.env=[(false,eval b X.env)]:=by rfl):
  PI X tg (.Call (.Name "range" p) [a,b] [] pos) (abj ta):=by
 intro af s σ H R I h;refine Call_ (ku I hg hm boot_range (acY (aL (ha pos af s σ H _ I h) λus s1 ⟨vs,H1,I1,r1,q1⟩=>?_) (by rw[hs,bY]) (by rw[bY];rfl)));obtain⟨i,j,e,⟨q1,q2,q3,q4⟩,q⟩:=q1;subst e;cases r1 with
 |cons r rr=>
  cases rr with
  |cons r' rr=>
   cases rr;obtain⟨t,rfl⟩:=r;obtain⟨t',rfl⟩:=r';exact call_range_2 (Ln I1 q1 q2 q3 q4 q)
def O_(wi:TI)(g:TG)(tb:TS):TS:=λD σ H=>wi σ H λJ H1=>∃W:Nat->Nat->St->Hp->Prop,(∃m,W 0 m σ H1)/\∀i m σ H,W i m σ H->
 (J.stop i H/\D.nx σ H)\/(J.go i H/\∃N:St->Hp->Prop,(∀aB H',N aB H'->∃m',m'<m/\W (i+1) m' aB H')/\∀x H',J.uq i H x H'->g x σ H' λeY H2=>tb { D with nx:=N,ct:=N,bk:=D.nx } eY H2)
noncomputable def v7(fp:List Addr)(h:Heap):List (Addr×Obj):=fp.filterMap λb=>(h.get? b).map λo=>(b,o)
theorem yp(hb:b∈fp)(e:h.get? b=some o):(b,o)∈v7 fp h:=List.mem_filterMap.mpr ⟨b,hb,by rw[e];rfl⟩
theorem aaZ{p:Addr×Obj}(hp:p∈v7 fp h):p.1∈fp/\h.get? p.1=some p.2:=by
 obtain⟨b,hb,e⟩:=List.mem_filterMap.mp hp;exists q,h.get? b,o,e;have e':=ab8 e;subst e';exact⟨hb,q⟩
theorem Inv.pinned(I:Inv X af σ H s)(hf:∀b∈fp,gg X af H b)(ho:∀b∈fp,∃o,s.heap.get? b=some o/\∀v,o.data≠.cell v):Inv X (af++v7 fp s.heap) σ H s:=
 I.qf λp hp=>(ab3.mp hp).elim (λz=>I.pin p (aaQ _ z)) λz=>by
  obtain⟨hb,e⟩:=aaZ z;obtain⟨f0,f1,f2,_⟩:=hf p.1 hb;obtain⟨o,e',d⟩:=ho p.1 hb;rw[e] at e';cases e';exact⟨e,f0,f1,f2,d⟩
theorem Inv.uF(I:Inv X (af++pl) σ H s):Inv X af σ H s:=I.qf λp hp=>I.pin p (aaQ _ (acf _ hp))
theorem Ih(hp:PassesOwn (model X.prog X.w) X.A X.env X.xe)(hc:X.calm=true)(hi:PI X tg iter wi)(hg:PG X tg g)(hb:fu X body tb)
  (hs:∀x,foldedSetIterable iter X.env x=pure x:=by intro _;rfl):PS X (.For tg iter body [] pos) (O_ wi g tb):=by
 intro af s σ H D I h;refine wpAny_For (aL (hi af s σ H _ I h) λv s1 h1=>aL h1 λyQ s2 h2=>?_) hs;obtain⟨it,fp,tn,J,H2,e,I2,T,aP,f2,W,⟨m0,w0⟩,turn⟩:=h2;subst e;have pP:∀{H':Hp},(∀b∈fp,H' b=none)->∀b∈fp,gg X af H' b:=λhn b hb=>⟨hn b hb,(f2 b hb).2⟩
 refine codeAny_forLoop_any (λn s'=>∃i aB H',Inv X af aB H' s'/\tn i s'.heap/\(∀b∈fp,H' b=none)/\W i n aB H') ?_ m0 ⟨0,σ,H2,I2,aP,λb hb=>(f2 b hb).1,w0⟩
 rintro n s3 ⟨i,b7,H3,I3,cZ,HY,w3⟩
 rcases turn i n b7 H3 w3 with⟨stop,qn⟩|⟨go,N,hN,step⟩
 .refine ad2 hp (aL (T.done X rfl rfl rfl (.inl hc) i af s3 b7 H3 X.xe I3 (pP HY) cZ stop) λr s4 ⟨hr,I4⟩=>?_);subst hr;exact wpAny_execs_nil ⟨b7,H3,I4,qn⟩
 .refine ad2 hp (aL (T.item X rfl rfl rfl (.inl hc) i af s3 b7 H3 X.xe I3 (pP HY) cZ go) λr s4 ⟨u,hr,h4⟩=>?_);subst hr;refine ad2 hp (aL h4 λ_ s5 ⟨x,H5,I5,r5,y5,qE,yK⟩=>?_);have Sg:=I5.pinned (pP yK) (T.obj _ _ qE);refine ad2 hp (aL (hg _ s5 b7 H5 x u _ Sg r5 (step x H5 y5)) λ_ s6 ⟨YO,H6,I6,q6⟩=>?_);refine ad2 hp (aL (hb _ s6 YO H6 _ I6 q6) λf s7 q7=>?_);have again:∀{jM:St}{H7:Hp},Inv X (af++v7 fp s5.heap) jM H7 s7->N jM H7->∃m,m<n/\∃i aB H',Inv X af aB H' s7/\tn i s7.heap/\(∀b∈fp,H' b=none)/\W i m aB H':=λ{jM H7} I7 n7=>by
   obtain⟨m',hm,w7⟩:=hN jM H7 n7;refine⟨m',hm,i+1,jM,H7,I7.uF,T.keep _ _ _ qE λb hb o e=>(I7.pin (b,o) (aaQ _ (aaQ _ (yp hb e)))).1,λb hb=>?_,w7⟩;obtain⟨o,e,d⟩:=T.obj _ _ qE b hb;exact(I7.pin (b,o) (aaQ _ (aaQ _ (yp hb e)))).2.1
  cases f with
  |next=>obtain⟨jM,H7,I7,n7⟩:=q7;exact again I7 n7
  |cont=>obtain⟨jM,H7,I7,n7⟩:=q7;exact again I7 n7
  |brk=>obtain⟨jM,H7,I7,q7⟩:=q7;exact⟨jM,H7,I7.uF,q7⟩
  |ret v=>obtain⟨x7,jM,H7,I7,r7,q7⟩:=q7;exact⟨x7,jM,H7,I7.uF,r7,q7⟩
end
abbrev R2:=V->V->Hp->VK->Prop
def cG(X:Cx)(f:Value->Value->Sem Value)(r:R2):Prop:=
 ∀(af:List (Addr×Obj)) (s:Shared) (σ:St) (H:Hp) (x y:V) (v u:Value) (Q:VK),Inv X af σ H s->RelV x v->RelV y u->r x y H Q->
  wpAny (model X.prog X.w) X.A (f v u) (EP X af σ Q) X.xe s
def DC(X:Cx)(f:Value->Sem Value)(r:V->Hp->VK->Prop):Prop:=
 ∀(af:List (Addr×Obj)) (s:Shared) (σ:St) (H:Hp) (x:V) (v:Value) (Q:VK),Inv X af σ H s->RelV x v->r x H Q->
  wpAny (model X.prog X.w) X.A (f v) (EP X af σ Q) X.xe s
def eF(X:Cx)(f:Value)(r:List V->Hp->VK->Prop):Prop:=
 ∀(af:List (Addr×Obj)) (s:Shared) (σ:St) (H:Hp) (xs:List V) (us:List Value) (Q:VK),Inv X af σ H s->aK xs us->r xs H Q->
  wpAny (model X.prog X.w) X.A (call f us) (EP X af σ Q) X.xe s
def sW(r:R2)(ta tb:TE):TE:=λσ H Q=>ta σ H λx H1=>tb σ H1 λy H2=>r x y H2 Q
def RY(r:V->Hp->VK->Prop)(ta:TE):TE:=λσ H Q=>ta σ H λx H1=>r x H1 Q
def rI(C:Int->Int->Prop)(g:Int->Int->V):R2:=λx y H Q=>∃i j,x=.int i/\y=.int j/\C i j/\Q (g i j) H
def lK(g:Int->Int->V):R2:=λx y H Q=>∃i j,x=.int i/\y=.int j/\Q (g i j) H
def rU(g:Int->V):V->Hp->VK->Prop:=λx H Q=>∃i,x=.int i/\Q (g i) H
section
variable{X:Cx}{a b c:Expr}{ta tb tc:TE}{pos:Pos}
theorem D8(ha:PE X a ta)(hb:PE X b tb){R:V->V->Hp->Prop}(I:Inv X af σ H s)
  (h:ta σ H λx H1=>tb σ H1 λy H2=>R x y H2){f:Value->Value->Sem Value}
  (hf:∀v u s2 x y H2,Inv X af σ H2 s2->RelV x v->RelV y u->R x y H2->wpAny (model X.prog X.w) X.A (f v u) Q X.xe s2) :
  wpAny (model X.prog X.w) X.A (eval a X.env) (λv aY=>wpAny (model X.prog X.w) X.A (eval b X.env) (λu j_=>wpAny (model X.prog X.w) X.A (f v u) Q X.xe j_) X.xe aY) X.xe s:=by
 refine aL (ha af s σ H _ I h) λv s1 ⟨x,H1,I1,r1,q1⟩=>?_
 refine aL (hb af s1 σ H1 _ I1 q1) λu s2 ⟨y,H2,I2,r2,q2⟩=>?_
 exact hf v u s2 x y H2 I2 r1 r2 q2
theorem xw{op:Operator}{r:R2}(ho:cG X (binaryOp op) r)(ha:PE X a ta)(hb:PE X b tb):PE X (.BinOp a op b pos) (sW r ta tb):=by
 intro af s σ H Q I h;exact wpAny_BinOp (D8 ha hb I h λv u s2 x y H2 I2 rx ry q=>ho af s2 σ H2 x y v u Q I2 rx ry q)
theorem Qe{op:UnaryOp}{r:V->Hp->VK->Prop}(ho:DC X (unaryOp op) r)(ha:PE X a ta):PE X (.UnaryOp op a pos) (RY r ta):=by
 intro af s σ H Q I h;exact UnaryOp_ (aL (ha af s σ H _ I h) λv s1 ⟨x,H1,I1,r1,q1⟩=>ho af s1 σ H1 x v Q I1 r1 q1)
theorem zw{f:Value->Value->Sem Value}{C:Int->Int->Prop}{g:Int->Int->Int}
  (rule:∀(i j:Int) (t u:Tok) (s:Shared) (Q:Value->Shared->Prop) (E:Value->Shared->Prop),C i j->Q (.int (g i j) s.toks) { s with toks:=s.toks+1 }->wpAny (model X.prog X.w) X.A (f (.int i t) (.int j u)) Q E s) :
  cG X f (rI C λi j=>.int (g i j)):=by
 intro af s σ H x y v u Q I rx ry h;obtain⟨i,j,rfl,rfl,hc,q⟩:=h;obtain⟨t,rfl⟩:=rx;obtain⟨t',rfl⟩:=ry;exact rule i j t t' s _ _ hc ⟨.int (g i j),H,I.tok _,⟨_,rfl⟩,q⟩
theorem Mg{f:Value->Value->Sem Value}{g:Int->Int->Int}
  (rule:∀(i j:Int) (t u:Tok) (s:Shared) (Q:Value->Shared->Prop) (E:Value->Shared->Prop),Q (.int (g i j) s.toks) { s with toks:=s.toks+1 }->wpAny (model X.prog X.w) X.A (f (.int i t) (.int j u)) Q E s) :
  cG X f (lK λi j=>.int (g i j)):=by
 intro af s σ H x y v u Q I rx ry h;obtain⟨i,j,rfl,rfl,q⟩:=h;obtain⟨t,rfl⟩:=rx;obtain⟨t',rfl⟩:=ry;exact rule i j t t' s _ _ ⟨.int (g i j),H,I.tok _,⟨_,rfl⟩,q⟩
theorem yI{f:Value->Value->Sem Value}{g:Int->Int->Bool}
  (rule:∀(i j:Int) (t u:Tok) (s:Shared) (Q:Value->Shared->Prop) (E:Value->Shared->Prop),Q (.bool (g i j)) s->wpAny (model X.prog X.w) X.A (f (.int i t) (.int j u)) Q E s) :
  cG X f (lK λi j=>.bl (g i j)):=by
 intro af s σ H x y v u Q I rx ry h;obtain⟨i,j,rfl,rfl,q⟩:=h;obtain⟨t,rfl⟩:=rx;obtain⟨t',rfl⟩:=ry;exact rule i j t t' s _ _ ⟨.bl (g i j),H,I,rfl,q⟩
def X7(i j:Int):Prop:=0<=j/\j<=1000000/\i.natAbs<2 ^ 64
def tO(i j:Int):Prop:=(-(2 ^ 64)<i/\i<2 ^ 64)\/(-(2 ^ 64)<j/\j<2 ^ 64)
theorem tO.ok{i j:Int}(h:tO i j):IntMulOk i j:=by
 rcases h with⟨h1,h2⟩|⟨h1,h2⟩
 .exact .of_left (intBits_le_64 h1 h2)
 .exact .of_right (intBits_le_64 h1 h2)
theorem V9(k:Nat):(0:Int)<=2 ^ k:=by
 rw[two_pow_cast];exact Int.natCast_nonneg _
theorem Oa:cG X (binaryOp .Add) (lK λi j=>.int (i+j)):=Mg λ_ _ _ _ _ _ _ q=>add_int q
theorem aa0:cG X (binaryOp .Sub) (lK λi j=>.int (i-j)):=Mg λ_ _ _ _ _ _ _ q=>sub_int q
theorem RL:cG X (binaryOp .Mult) (rI tO λi j=>.int (i*j)):=zw λ_ _ _ _ _ _ _ hc q=>mul_int q hc.ok
theorem Oj:cG X (binaryOp .Mod) (rI (λ_ j=>0<j) λi j=>.int (i % j)):=zw λi j _ _ _ _ _ hc q=>by
 have h1:=hc;exact mod_int' (by lia) (by rw[Int.fmod_eq_emod_of_nonneg i (by lia)];exact q)
theorem ZA:cG X (binaryOp .Pow) (rI X7 λi j=>.int (i ^ j.toNat)):=zw λ_ _ _ _ _ _ _ hc q=>pow_int_small hc.1 hc.2.1 hc.2.2 q
theorem RU:cG X (binaryOp .RShift) (rI (λ_ j=>0<=j) λi j=>.int (i / 2 ^ j.toNat)):=zw λi j _ _ _ _ _ hc q=>
 rshift_int hc (by rw[Int.fdiv_eq_ediv_of_nonneg i (V9 _)];exact q)
theorem V0{f:Value->Sem Value}{g:Int->Int}
  (rule:∀(i:Int) (t:Tok) (s:Shared) (Q:Value->Shared->Prop) (E:Value->Shared->Prop),Q (.int (g i) s.toks) { s with toks:=s.toks+1 }->wpAny (model X.prog X.w) X.A (f (.int i t)) Q E s) :
  DC X f (rU λi=>.int (g i)):=by
 intro af s σ H x v Q I rx h;obtain⟨i,rfl,q⟩:=h;obtain⟨t,rfl⟩:=rx;exact rule i t s _ _ ⟨.int (g i),H,I.tok _,⟨_,rfl⟩,q⟩
theorem Zs:DC X (unaryOp .USub) (rU λi=>.int (-i)):=V0 λ_ _ _ _ _ q=>neg_int q
end
noncomputable def KU:V->V->Bool
 |.aH,.aH=>true|.aH,.int _=>true|.int _,.aH=>true|.aH,.bl _=>true|.bl _,.aH=>true|.aH,.str _=>true|.str _,.aH=>true
 |.int _,.int _=>true|.bl _,.bl _=>true|.str _,.str _=>true|.jt _,.jt _=>true
 |.int _,.str _=>true|.str _,.int _=>true|.bl _,.str _=>true|.str _,.bl _=>true
 |_,_=>false
def L4:R2:=λx y H Q=>KU x y=true/\Q (.bl (decide (x=y))) H
def Jx:R2:=λx y H Q=>KU x y=true/\Q (.bl (!decide (x=y))) H
theorem yR:decide (V.int i=V.int j)=(i==j):=by
 rw[aeg];simp
theorem yr:decide (V.bl i=V.bl j)=(i==j):=by
 rw[aeg];simp
theorem wZ:decide (V.str i=V.str j)=(i==j):=by
 rw[aeg];simp
theorem GV{i j:Array UInt8}:decide (V.jt i=V.jt j)=(i.toList==j.toList):=by
 rw[aeg];cases i;cases j;simp
section
variable{X:Cx}{a b c:Expr}{ta tb tc:TE}{pos:Pos}
theorem cI(I:Inv X af σ H s)(q:Q (.bl k) H)(e:k=k'):EP X af σ Q (.bool k') s:=by
 subst e;exact⟨.bl k,H,I,rfl,q⟩
theorem Nz:cG X (compareOp .Eq) L4:=by
 intro af s σ H x y v u Q I rx ry h;obtain⟨hs,q⟩:=h;cases x with
 |aH=>
  cases rx;cases y with
  |aH=>cases ry;exact PySem.EqNone.eq_none_none (cI I q (by simp))
  |bl j=>cases ry;exact PySem.EqNone.eq_none_bool (cI I q (by simp))
  |int j=>obtain⟨t',rfl⟩:=ry;exact PySem.EqNone.eq_none_int (cI I q (by simp))
  |str j=>obtain⟨t',rfl⟩:=ry;exact PySem.EqNone.eq_none_str (cI I q (by simp))
  |_=>exact absurd (show false=true from hs) abI
 |bl i=>
  cases rx;cases y with
  |aH=>cases ry;exact PySem.EqNone.eq_bool_none (cI I q (by simp))
  |bl j=>cases ry;exact eq_bool (cI I q yr)
  |str j=>obtain⟨t',rfl⟩:=ry;exact PySem.EqMixed.eq_bool_str (cI I q (by simp))
  |_=>exact absurd (show false=true from hs) abI
 |int i=>
  obtain⟨t,rfl⟩:=rx;cases y with
  |aH=>cases ry;exact PySem.EqNone.eq_int_none (cI I q (by simp))
  |int j=>obtain⟨t',rfl⟩:=ry;exact eq_int (cI I q yR)
  |str j=>obtain⟨t',rfl⟩:=ry;exact PySem.EqMixed.eq_int_str (cI I q (by simp))
  |_=>exact absurd (show false=true from hs) abI
 |str i=>
  obtain⟨t,rfl⟩:=rx;cases y with
  |aH=>cases ry;exact PySem.EqNone.eq_str_none (cI I q (by simp))
  |bl j=>cases ry;exact PySem.EqMixed.eq_str_bool (cI I q (by simp))
  |int j=>obtain⟨t',rfl⟩:=ry;exact PySem.EqMixed.eq_str_int (cI I q (by simp))
  |str j=>obtain⟨t',rfl⟩:=ry;exact eq_str (cI I q wZ)
  |_=>exact absurd (show false=true from hs) abI
 |jt i=>
  obtain⟨t,rfl⟩:=rx;cases y with
  |jt j=>obtain⟨t',rfl⟩:=ry;exact PySem.W.eq_bytes (cI I q GV)
  |_=>exact absurd (show false=true from hs) abI
 |_=>cases y<;>exact absurd (show false=true from hs) abI
theorem Z7:cG X (compareOp .NotEq) Jx:=by
 intro af s σ H x y v u Q I rx ry h;obtain⟨hs,q⟩:=h;cases x with
 |aH=>
  cases rx;cases y with
  |aH=>cases ry;exact PySem.EqNone.ne_none_none (cI I q (by simp))
  |bl j=>cases ry;exact PySem.EqNone.ne_none_bool (cI I q (by simp))
  |int j=>obtain⟨t',rfl⟩:=ry;exact PySem.EqNone.ne_none_int (cI I q (by simp))
  |str j=>obtain⟨t',rfl⟩:=ry;exact PySem.EqNone.ne_none_str (cI I q (by simp))
  |_=>exact absurd (show false=true from hs) abI
 |bl i=>
  cases rx;cases y with
  |aH=>cases ry;exact PySem.EqNone.ne_bool_none (cI I q (by simp))
  |bl j=>cases ry;exact ne_bool (cI I q (congrArg not yr))
  |str j=>obtain⟨t',rfl⟩:=ry;exact PySem.EqMixed.ne_bool_str (cI I q (by simp))
  |_=>exact absurd (show false=true from hs) abI
 |int i=>
  obtain⟨t,rfl⟩:=rx;cases y with
  |aH=>cases ry;exact PySem.EqNone.ne_int_none (cI I q (by simp))
  |int j=>obtain⟨t',rfl⟩:=ry;exact ne_int (cI I q (congrArg not yR))
  |str j=>obtain⟨t',rfl⟩:=ry;exact PySem.EqMixed.ne_int_str (cI I q (by simp))
  |_=>exact absurd (show false=true from hs) abI
 |str i=>
  obtain⟨t,rfl⟩:=rx;cases y with
  |aH=>cases ry;exact PySem.EqNone.ne_str_none (cI I q (by simp))
  |bl j=>cases ry;exact PySem.EqMixed.ne_str_bool (cI I q (by simp))
  |int j=>obtain⟨t',rfl⟩:=ry;exact PySem.EqMixed.ne_str_int (cI I q (by simp))
  |str j=>obtain⟨t',rfl⟩:=ry;exact ne_str (cI I q (congrArg not wZ))
  |_=>exact absurd (show false=true from hs) abI
 |jt i=>
  obtain⟨t,rfl⟩:=rx;cases y with
  |jt j=>obtain⟨t',rfl⟩:=ry;exact PySem.W.ne_bytes (cI I q (congrArg not GV))
  |_=>exact absurd (show false=true from hs) abI
 |_=>cases y<;>exact absurd (show false=true from hs) abI
theorem H_:cG X (compareOp .Lt) (lK λi j=>.bl (decide (i<j))):=yI λ_ _ _ _ _ _ _ q=>lt_int q
theorem CH:cG X (compareOp .LtE) (lK λi j=>.bl (decide (i<=j))):=yI λ_ _ _ _ _ _ _ q=>le_int q
theorem Wr:cG X (compareOp .Gt) (lK λi j=>.bl (decide (j<i))):=yI λ_ _ _ _ _ _ _ q=>gt_int q
theorem LS:cG X (compareOp .GtE) (lK λi j=>.bl (decide (j<=i))):=yI λ_ _ _ _ _ _ _ q=>ge_int q
theorem N9:cG X (compareOp .Is) (λx y H Q=>y=.aH/\Q (.bl (decide (x=.aH))) H):=by
 intro af s σ H x y v u Q I rx ry h;obtain⟨rfl,q⟩:=h;cases ry;refine is_none_gen (cI I q ?_);cases x<;>first
  |(cases rx;rfl)
  |(obtain⟨t,rfl⟩:=rx;rfl)
theorem Wy:cG X (compareOp .IsNot) (λx y H Q=>y=.aH/\Q (.bl (!decide (x=.aH))) H):=by
 intro af s σ H x y v u Q I rx ry h;obtain⟨rfl,q⟩:=h;cases ry;refine isnot_none_gen (cI I q ?_);cases x<;>first
  |(cases rx;rfl)
  |(obtain⟨t,rfl⟩:=rx;rfl)
theorem jj(b:Expr){op:CmpOp}(h:op≠.In:=by decide)(h2:op≠.NotIn:=by decide):behindInMarks op b=false:=by
 have e1:(op==CmpOp.In)=false:=by cases op<;>first|rfl|exact absurd rfl h
 have e2:(op==CmpOp.NotIn)=false:=by cases op<;>first|rfl|exact absurd rfl h2
 cases b<;>simp[behindInMarks,e1,e2]
theorem UM{op:CmpOp}{r:R2}(ho:cG X (compareOp op) r)(ha:PE X a ta)(hb:PE X b tb)(hm:behindInMarks op b=false):PE X (.Compare a [op] [b] pos) (sW r ta tb):=by
 intro af s σ H Q I h;exact wpAny_Compare1 (D8 ha hb I h λv u s2 x y H2 I2 rx ry q=>ho af s2 σ H2 x y v u Q I2 rx ry q) hm
def OO(t:TE):TT:=λσ H Q=>t σ H λx H'=>∃k,x=.bl k/\Q k H'
theorem V8{op:CmpOp}{r:R2}(ho:cG X (compareOp op) r)(ha:PE X a ta)(hb:PE X b tb)(hm:behindInMarks op b=false):PT X (.Compare a [op] [b] pos) (OO (sW r ta tb)):=by
 intro af s σ H Q I h;refine wpAny_isTrue_Compare1 (aL (ha af s σ H _ I h) λv s1 ⟨x,H1,I1,r1,q1⟩=>aL (hb af s1 σ H1 _ I1 q1) λu s2 ⟨y,H2,I2,r2,q2⟩=>
  aL (ho af s2 σ H2 x y v u _ I2 r1 r2 q2) λc s3 ⟨z,H3,I3,r3,k,e,q3⟩=>?_) hm
 subst e;cases r3;exact adC ⟨H3,I3,q3⟩
def aaW(r r':R2)(ta tb tc:TE):TE:=λσ H Q=>ta σ H λx H1=>tb σ H1 λy H2=>r x y H2 λz H3=>∃k,z=.bl k/\
 (if k=true then tc σ H3 λw' H4=>r' y w' H4 Q else Q (.bl false) H3)
theorem abL{op pK:CmpOp}{r r':R2}(ho:cG X (compareOp op) r)(jU:cG X (compareOp pK) r')(ha:PE X a ta)(hb:PE X b tb)(hc:PE X c tc)
  (hm:lastMarks [op,pK] [b,c]=false:=by with_unfolding_all rfl):PE X (.Compare a [op,pK] [b,c] pos) (aaW r r' ta tb tc):=by
 intro af s σ H Q I h;refine Compare_chain (aL (ha af s σ H _ I h) λv s1 ⟨x,H1,I1,r1,q1⟩=>chain_link (aL (hb af s1 σ H1 _ I1 q1) λu s2 ⟨y,H2,I2,r2,q2⟩=>
  aL (ho af s2 σ H2 x y v u _ I2 r1 r2 q2) λd s3 ⟨z,H3,I3,r3,k,e,q3⟩=>?_)) hm
 subst e;cases r3;refine adC ?_;cases k with
 |false=>exact ite_ff ⟨.bl false,H3,I3,rfl,q3⟩
 |true=>exact ite_tt (chain_last (aL (hc af s3 σ H3 _ I3 q3) λw' s4 ⟨z',H4,I4,r4,q4⟩=>jU af s4 σ H4 y z' u w' Q I4 r2 r4 q4))
theorem u0:(sizeLine:Nat)<2 ^ 63:=by rw[aeh];decide
theorem vals1(r:aK [x] us):∃u,us=[u]/\RelV x u:=by
 cases r with
 |cons r1 r2=>cases r2;exact⟨_,rfl,r1⟩
theorem vals2(r:aK [x,y] us):∃u w',us=[u,w']/\RelV x u/\RelV y w':=by
 cases r with
 |cons r1 r2=>
  cases r2 with
  |cons r3 r4=>cases r4;exact⟨_,_,rfl,r1,r3⟩
end
structure pF(h:Heap)(x dx C:Addr)(mA:Str->Option Value):Prop where
 obj:h.get? x=some (PySem.W.instObj C dx)
 ns:h.Ns1 dx mA
 ne:dx≠x
theorem RG{h:Heap}{dx:Addr}{mA:Str->Option Value}(n:h.Ns1 dx mA):∃od,h.get? dx=some od/\∀name,PySem.W.lookIn name od=some (mA name):=by
 obtain⟨o,es,ep,ho,hd,hk,_,hm⟩:=n;refine⟨o,ho,λname=>?_⟩;have e:=hm name;unfold nsFind findBy at e;rw[<- Array.find?_toList] at e;unfold PySem.W.lookIn;rw[hd];dsimp only
 split
 .rename_i y q;rw[q] at e;exact congrArg some e
 .rename_i q;rw[q] at e;have a:es.toList.any (·.refKey)=false:=by
   rw[List.any_eq_false];intro y hy;obtain⟨z,t,Em⟩:=hk y (Array.mem_toList_iff.mp hy);simp[DictEntry.refKey,Em]
  have a':¬es.toList.any (·.refKey)=true:=by rw[a];exact abI
  rw[aa7 a'];exact congrArg some e
theorem pF.look(I:pF h x dx C mA):∃od,PySem.W.InstAt h x (PySem.W.instObj C dx) C (some od)/\∀name,PySem.W.lookIn name od=some (mA name):=
 let⟨od,ho,hl⟩:=RG I.ns
 ⟨od,⟨I.obj,rfl,rfl,ho⟩,hl⟩
section
variable{prog:Program}{w:World}{A:Around}{E:Value->Shared->Prop}{s:Shared}{K:PySem.W.Frag}{x dx C f:Addr}{mA:Str->Option Value}{name:Str}{v:Value}
theorem get_map(X:K.In s.heap)(I:pF s.heap x dx C mA)(hg:PySem.W.plainGet K C name=true)(hh:PySem.W.hasDictIn K C=true)
  (ha:PySem.W.findIn K (.ref C) name=some none) (hv:mA name=some v) (tR:PySem.W.handedIn v=true) (h:Q v { s with toks:=s.toks+1 }) :
  wpAny (model prog w) A (getAttr (.ref x) name expr) Q E s:=by
 obtain⟨od,J,hl⟩:=I.look;exact PySem.W.get_value X J (PySem.W.plainGet_of hg).1 (PySem.W.findObj_own hh ha rfl (by rw[hl,hv])) tR h
theorem TN{pl:Sem Bool}{Q:Value×List Value->Shared->Prop}(X:K.In s.heap)(I:pF s.heap x dx C mA)(hg:PySem.W.plainGet K C name=true)
  (hf:PySem.W.findIn K (.ref C) name=some (some (.ref f))) (ht:PySem.W.isFn K (.ref f)=true) (hv:mA name=none) (h:Q (.ref f,[.ref x]) s) :
  wpAny (model prog w) A (getMethod (.ref x) name pl) Q E s:=by
 obtain⟨od,J,hl⟩:=I.look;exact PySem.W.method_fn X J (PySem.W.plainGet_of hg).1 (PySem.W.plainGet_of hg).2 hf (adI.mp ht) (by show(PySem.W.lookIn name od).map (·.isSome)=some false;rw[hl,hv];rfl) h
theorem PD{Q:Unit->Shared->Prop}(X:K.In s.heap)(I:pF s.heap x dx C mA)
  (hs:PySem.W.findIn K (.ref C) "__setattr__"=some (some (.builtin "object.__setattr__"))) (hp:PySem.W.plainOver K C=true) (ht:PySem.W.takerIn K C name=some none) (hh:PySem.W.hasDictIn K C=true)
  (hw:PySem.Within mA ns) (hsz:ns.length<=sizeLine)
  (h:∀h',pF h' x dx C (λy=>if y=name then some v else mA y)->Heap.SameBut dx s.heap h'->Q () { s with heap:=h',toks:=s.toks+2 }) :
  wpAny (model prog w) A (setAttr (.ref x) name v) Q E s:=by
 obtain⟨od,J,hl⟩:=I.look;refine PySem.W.set_plain X J hs (PySem.W.osa_open (r:=none) X J hp ht λb=>?_);obtain⟨cd,hc,Ea⟩:=PySem.W.any_some hh;have hx:=I.obj;refine aac (aaC (aac (aac (wpAny_loadPart hx (aac (PySem.W.Looks.here (PySem.W.looks_clsIn X hc) ?_))))));rw[Ea];refine aaC (aac (aaC (aac ?_)));refine wpAny_nsSet1 I.ns λh' Ae bY=>?_
 obtain⟨oD,esD,epD,Ej,SY,Sy⟩:=Ae.count (PySem.Within.cons name v hw);refine aac (wpAny_lookBehind Ej (by rw[SY];exact pastItsLine_dict (ac9 Sy (by rw[acj];lia))) ?_);exact aaC (h _ ⟨(bY.2 _ (adx I.ne)).trans I.obj,Ae,I.ne⟩ bY)
theorem O5{R:Result->Shared->Prop}{kw:List (Str×Value)}(X:K.In s.heap)(hm:PySem.W.makesIn K C=true)
  (hi:PySem.W.findIn K (.ref C) "__init__"=some (some (.ref f))) (hf:PySem.W.typeIn K (.ref f)=some (.type "function"))
  (h:codeAny (model prog w) (A.under (.builtin "type.__call__" ⟨.ref C::vs,kw⟩)) (.call (.ref f) ⟨.ref (s.heap.objs.size + 1)::vs,kw⟩) (PySem.W.InitBack (s.heap.objs.size + 1) R)
   { s with heap:=(s.heap.push PySem.W.emptyDict).push (PySem.W.instObj C s.heap.objs.size) }) :
  codeAny (model prog w) A (.call (.ref C) ⟨vs,kw⟩) R s:=by
 obtain⟨hh,g,d,t,os⟩:=s;exact PySem.W.make_core (PySem.W.makes_of X hm) (PySem.W.looks_findIn X hi) (λself=>PySem.W.bind_fn X self hf) (.inl rfl) h
end
noncomputable def dF(f:Str)(v:V):List (Str×V)->List (Str×V)
 |[]=>[(f,v)]
 |(g,x)::r=>if g=f then(g,v)::r else(g,x)::dF f v r
theorem G0(f g:Str)(v:V):∀fs:List (Str×V),(dF f v fs).lookup g=if g=f then some v else fs.lookup g
 |[]=>by
  show List.lookup g [(f,v)]=_
  by_cases h:g=f
  .have hb:=adI.mpr h;simp only[List.lookup,hb,if_pos h]
  .have hb:=acM.mpr h;simp only[List.lookup,hb,aa7 h]
 |(k,x)::r=>by
  have ih:=G0 f g v r;rw[show dF f v ((k,x)::r)=(if k=f then(k,v)::r else(k,x)::dF f v r) from rfl]
  by_cases hk:k=f
  .rw[if_pos hk]
   by_cases h:g=k
   .have hb:=adI.mpr h;simp only[List.lookup,hb,if_pos (h.trans hk)]
   .have hb:=acM.mpr h;simp only[List.lookup,hb,aa7 (λe:g=f=>h (e.trans hk.symm))]
  .rw[aa7 hk]
   by_cases h:g=k
   .have hb:=adI.mpr h;simp only[List.lookup,hb,aa7 (λe:g=f=>hk (h.symm.trans e))]
   .have hb:=acM.mpr h;simp only[List.lookup,hb];exact ih
theorem A5(f:Str)(v:V):∀fs:List (Str×V),f∈(dF f v fs).map (·.1)/\∀g,g∈fs.map (·.1)->g∈(dF f v fs).map (·.1)
 |[]=>⟨by simp[dF],λg h=>by simp at h⟩
 |(k,x)::r=>by
  obtain⟨i1,i2⟩:=A5 f v r;rw[show dF f v ((k,x)::r)=(if k=f then(k,v)::r else(k,x)::dF f v r) from rfl]
  by_cases hk:k=f
  .rw[if_pos hk];subst hk;exact⟨by simp,λg h=>by simpa using h⟩
  .rw[aa7 hk];refine⟨?_,λg h=>?_⟩
   .rw[aaz];exact aas _ i1
   .rw[aaz] at h ⊢;rcases aaG.mp h with e|e
    .exact aaG.mpr (.inl e)
    .exact aas _ (i2 g e)
theorem N2(f:Str)(v:V):∀fs:List (Str×V),(dF f v fs).length<=fs.length+1
 |[]=>by simp[dF]
 |(k,x)::r=>by
  have ih:=N2 f v r;rw[show dF f v ((k,x)::r)=(if k=f then(k,v)::r else(k,x)::dF f v r) from rfl]
  by_cases hk:k=f
  .rw[if_pos hk,acj,acj];lia
  .rw[aa7 hk,acj,acj];lia
theorem fX.some_of{o:Option Value}(r:fX (some v) o):∃u,o=some u/\RelV v u:=by
 cases o with
 |none=>exact(show False from r).elim
 |some u=>exact⟨u,rfl,r⟩
theorem fX.none_of{o:Option Value}(r:fX none o):o=none:=by
 cases o with
 |none=>rfl
 |some u=>exact(show False from r).elim
theorem aa3(r:RelV v u):PySem.W.handedIn u=true:=by
 cases v with
 |aH=>cases(show u=Value.none from r);rfl
 |bl b=>cases(show u=Value.bool b from r);rfl
 |int i=>obtain⟨t,e⟩:=(show ∃t,u=Value.int i t from r);cases e;rfl
 |str x=>obtain⟨t,e⟩:=(show ∃t,u=Value.str x t from r);cases e;rfl
 |jt b=>obtain⟨t,e⟩:=(show ∃t,u=Value.bytes b t from r);cases e;rfl
 |pN b=>obtain⟨t,e⟩:=(show ∃t,u=Value.float b t from r);cases e;rfl
 |ref a=>cases(show u=Value.ref a from r);rfl
 |ty n=>cases(show u=Value.type n from r);rfl
section
variable{P:Program}{w:World}{H H':Hp}{h h':Heap}{a C dx:Addr}{fs Ij:List (Str×V)}
theorem wU(aC:cL P w H h)(e:H a=some (.ins C dx fs)):∃mA,pF h a dx C mA/\(∀f,fX (fs.lookup f) (mA f))/\PySem.Within mA (fs.map (·.1))/\fs.length<=1000/\H dx=some (.own a):=by
 obtain⟨d,z,ne,ob,mA,n,r,q⟩:=(show cF P w H h a (.ins C dx fs) from aC a _ e)
 exact⟨mA,⟨ob,n,ne⟩,r,q,z,d⟩
end
structure jO(K:PySem.W.Frag)(C:Addr):Prop where
 pg:PySem.W.plainGet K C Str.empty=true
 hd:PySem.W.hasDictIn K C=true
 po:PySem.W.plainOver K C=true
 sa:PySem.W.findIn K (.ref C) "__setattr__"=some (some (.builtin "object.__setattr__"))
theorem jO.get{K:PySem.W.Frag}(c:jO K C)(f:Str):PySem.W.plainGet K C f=true:=c.pg
def kQ(K:PySem.W.Frag)(C:Addr)(f:Str):Prop:=PySem.W.findIn K (.ref C) f=some none
theorem kQ.Z9{K:PySem.W.Frag}(n:kQ K C f):PySem.W.takerIn K C f=some none:=by
 unfold PySem.W.takerIn;rw[show PySem.W.findIn K (.ref C) f=some none from n];rfl
structure nK(K:PySem.W.Frag)(C:Addr)(m:Str)(f:Addr):Prop where
 at_:PySem.W.findIn K (.ref C) m=some (some (.ref f))
 fn:PySem.W.isFn K (.ref f)=true
 kp:PySem.W.keepIn K (.ref f)=true
section
variable{X:Cx}{af:List (Addr×Obj)}{σ:St}{H:Hp}{s:Shared}{a C dx:Addr}{fs:List (Str×V)}{f:Str}{v:V}{A:Around}{E:Value->Shared->Prop}
theorem UX(I:Inv X af σ H s)(e:H a=some (.ins C dx fs))(c:jO X.K C)(n:kQ X.K C f)(l:fs.lookup f=some v)
  (h:∀u s',Inv X af σ H s'->RelV v u->Q u s'):wpAny (model X.prog X.w) A (getAttr (.ref a) f b) Q E s:=by
 obtain⟨mA,O,r,_,_,_⟩:=wU I.aC e;obtain⟨u,hu,ru⟩:=fX.some_of (by rw[<- l];exact r f);exact get_map I.cS O (c.get f) c.hd n hu (aa3 ru) (h u _ (I.tok _) ru)
theorem G4{pl:Sem Bool}{Q:Value×List Value->Shared->Prop}(I:Inv X af σ H s)(e:H a=some (.ins C dx fs))(c:jO X.K C)(k:nK X.K C m g)(l:fs.lookup m=none)
  (h:Q (.ref g,[.ref a]) s):wpAny (model X.prog X.w) A (getMethod (.ref a) m pl) Q E s:=by
 obtain⟨mA,O,r,_,_,_⟩:=wU I.aC e;have hn:=fX.none_of (by rw[<- l];exact r m);exact TN I.cS O (c.get m) k.at_ k.fn hn h
theorem Px{Q:Unit->Shared->Prop}(I:Inv X af σ H s)(e:H a=some (.ins C dx fs))(c:jO X.K C)(n:kQ X.K C f)(hl:fs.length<1000)(ry:RelV y u)
  (h:∀s',Inv X af σ (upd H a (.ins C dx (dF f y fs))) s'->Q () s'):wpAny (model X.prog X.w) A (setAttr (.ref a) f u) Q E s:=by
 obtain⟨mA,O,r,wi,_,ho⟩:=wU I.aC e;have hz:(fs.map (·.1)).length<=sizeLine:=by rw[List.length_map,aeh];lia
 refine PD I.cS O c.sa c.po n.Z9 c.hd wi hz λh' O' sb=>h _ ?_
 have hd:∃o,h'.get? dx=some o:=let⟨o,_,_,e',_⟩:=O'.ns;⟨o,e'⟩
 refine I.write (by rw[e];exact True.intro) (.inr ho) (λb q hb z=>(sb.2 b hb).trans z) hd ?_;refine⟨by rw[aN O.ne];exact ho,?_,O.ne,O'.obj,_,O'.ns,λg=>?_,λg hg=>?_⟩
 .have:=N2 f y fs;lia
 .show fX ((dF f y fs).lookup g) (if g=f then some u else mA g);rw[G0]
  by_cases q:g=f
  .rw[if_pos q,if_pos q];exact ry
  .rw[aa7 q,aa7 q];exact r g
 .by_cases q:g=f
  .rw[q];exact(A5 f y fs).1
  .refine(A5 f y fs).2 g (wi g λz=>hg ?_);show(if g=f then some u else mA g)=none;rw[aa7 q];exact z
theorem Inv.made(I:Inv X af σ H s):Inv X af σ (upd (upd H s.heap.objs.size (.own (s.heap.objs.size+1))) (s.heap.objs.size+1) (.ins C s.heap.objs.size []))
  { s with heap:=(s.heap.push PySem.W.emptyDict).push (PySem.W.instObj C s.heap.objs.size) }:=by
 have e1:(s.heap.push PySem.W.emptyDict).get? s.heap.objs.size=some PySem.W.emptyDict:=abb s.heap rfl;have e2:((s.heap.push PySem.W.emptyDict).push (PySem.W.instObj C s.heap.objs.size)).get? (s.heap.objs.size+1)=some (PySem.W.instObj C s.heap.objs.size):=by
  have:=abb (s.heap.push PySem.W.emptyDict) (o:=PySem.W.instObj C s.heap.objs.size) rfl
  rwa [acV] at this
 have e3:(s.heap.push PySem.W.emptyDict).Ns s.heap.objs.size (λ_=>none):=⟨PySem.W.emptyDict,#[],_,e1,rfl,(λe he=>absurd he (by simp)),λ_=>rfl⟩
 have I1:=I.laid (o:=.own (s.heap.objs.size+1)) (t':=s.toks) (λb u q=>aad _ q) (aa2 _) ⟨_,e1⟩;refine I1.laid (λb u q=>aad _ q) (Nat.le_of_eq (acV _ _)) ?_;have ne:s.heap.objs.size≠s.heap.objs.size+1:=ab6 (adl _);refine⟨by rw[aN ne,bL],acD _,ne,e2,λ_=>none,(Heap.Ns1.of_empty e3).at λo q=>aad _ q,λ_=>True.intro,λy hy=>absurd rfl hy⟩
theorem T_{env:Env}(hb:attributeBase e f env (eval e env)=eval e env)
  (h:wpAny (model prog w) A (eval e env) (λo aY=>wpAny (model prog w) A (getAttr o f true) Q E aY) E s):wpAny (model prog w) A (eval (.Attribute e f pos) env) Q E s:=
 Attribute_any_ h (by rw[arm_eval_Attribute,hb])
end
def Wd(K:PySem.W.Frag)(ta:TE)(f:Str):TE:=λσ H Q=>ta σ H λx H1=>∃a C dx fs v,x=.ref a/\H1 a=some (.ins C dx fs)/\jO K C/\kQ K C f/\fs.lookup f=some v/\Q v H1
def abK(K:PySem.W.Frag)(ta tv:TE)(f:Str):TS:=λD σ H=>tv σ H λy H1=>ta σ H1 λx H2=>∃a C dx fs,x=.ref a/\H2 a=some (.ins C dx fs)/\jO K C/\kQ K C f/\fs.length<1000/\
 D.nx σ (upd H2 a (.ins C dx (dF f y fs)))
section
variable{X:Cx}{o e value:Expr}{f:Str}{pos pos' ZZ:Pos}{ta tv:TE}
theorem Nt(he:PE X e ta)(hb:attributeBase e f X.env (eval e X.env)=eval e X.env):PE X (.Attribute e f pos) (Wd X.K ta f):=by
 intro af s σ H Q I h;refine T_ hb (aL (he af s σ H _ I h) λu s1 ⟨x,H1,I1,rx,a,C,dx,fs,v,ex,ea,c,n,l,q⟩=>?_);subst ex;obtain rfl:u=Value.ref a:=rx;exact UX I1 ea c n l λu' s2 I2 ru=>⟨v,H1,I2,ru,q⟩
theorem TL(ha:PE X o ta)(hv:PE X value tv)(hs:swapsWith value (some (.Attribute o f pos')) pos.line X.env=pure false):PS X (.Assign [.Attribute o f pos'] value pos) (abK X.K ta tv f):=by
 intro af s σ H D I h;refine plainObj_wpAny_Assign_Attribute (aL (hv af s σ H _ I h) λu s1 ⟨y,H1,I1,ry,q⟩=>aL (ha af s1 σ H1 _ I1 q) λov s2 ⟨x,H2,I2,rx,a,C,dx,fs,ex,ea,c,n,l,q2⟩=>?_) hs;subst ex;obtain rfl:ov=Value.ref a:=rx;exact Px I2 ea c n l ry λs3 I3=>⟨σ,_,I3,q2⟩
end
section
variable{X:Cx}{af:List (Addr×Obj)}{σ:St}{H:Hp}{s:Shared}{A:Around}{E:Value->Shared->Prop}{Q:Value->Shared->Prop}{c:Value}{b:Bool}
inductive gY(K:PySem.W.Frag)(H:Hp):V->Value->Prop where
 |aH:gY K H .aH (.type "NoneType")
 |bl (x:Bool):gY K H (.bl x) (.type "bool")
 |int (i:Int):gY K H (.int i) (.type "int")
 |str (x:Str):gY K H (.str x) (.type "str")
 |pN (x:UInt64):gY K H (.pN x) (.type "float")
 |lst {a:Addr}{xs:List V} (e:H a=some (.lst xs)):gY K H (.ref a) (.type "list")
 |c_ {a:Addr}{o:Obj}{xs:List V} (e:H a=some (.c_ o (.lst xs))):gY K H (.ref a) (.type "list")
 |tup {a:Addr}{xs:List V} (e:H a=some (.tup xs)):gY K H (.ref a) (.type "tuple")
 |dK {a:Addr}{aj:List (Key×V)} (e:H a=some (.dK aj)):gY K H (.ref a) (.type "dict")
 |dT {a:Addr}{aj:List (List Key×V)} (e:H a=some (.dT aj)):gY K H (.ref a) (.type "dict")
 |ins {a C dx:Addr}{fs:List (Str×V)} (e:H a=some (.ins C dx fs)) (cl:jO K C) (ha:PySem.W.findIn K (.ref C) "__class__"=some (some (.builtin "object.__class__")))
   (hn:PySem.W.specialIn K (.builtin "object.__class__") "__get__"=some (some (.builtin "getset_descriptor.__get__"))) (Lk:PySem.W.takesIn K (.builtin "object.__class__")=some true)
   (hm:PySem.W.mroIn K C (.type "object")=some true):gY K H (.ref a) (.ref C)
theorem aaI(I:Inv X af σ H s)(rx:RelV x u)(ty:gY X.K H x t)(e:PySem.W.kitOne X.K t c=some b)(h:∀tk,Q (.bool b) { s with toks:=tk }):
  wpAny (model X.prog X.w) A (call (.builtin "isinstance") [u,c]) Q E s:=by
 cases ty with
 |aH=>cases(show u=Value.none from rx);exact PySem.W.kia_one PySem.W.kitx_none I.cS True.intro e (λz=>nomatch z) h
 |bl y=>cases(show u=Value.bool y from rx);exact PySem.W.kia_one PySem.W.kitx_bool I.cS True.intro e (λz=>nomatch z) h
 |int i=>obtain⟨t,q⟩:=(show ∃t,u=Value.int i t from rx);cases q;exact PySem.W.kia_one PySem.W.kitx_int I.cS True.intro e (λz=>nomatch z) h
 |str y=>obtain⟨t,q⟩:=(show ∃t,u=Value.str y t from rx);cases q;exact PySem.W.kia_one PySem.W.kitx_str I.cS True.intro e (λz=>nomatch z) h
 |pN y=>obtain⟨t,q⟩:=(show ∃t,u=Value.float y t from rx);cases q;exact PySem.W.kia_one PySem.W.kitx_float I.cS True.intro e (λz=>nomatch z) h
 | @lst a xs ea=>
  cases(show u=Value.ref a from rx);obtain⟨_,_,n,_,h1⟩:=(show cF X.prog X.w H s.heap a (.lst xs) from I.aC a _ ea)
  exact PySem.W.kia_one PySem.W.kitx_list I.cS ⟨_,h1,rfl⟩ e (λz=>nomatch z) h
 | @c_ a ob xs ea=>
  cases(show u=Value.ref a from rx);obtain⟨_,_,_,n,_,h1⟩:=(show cF X.prog X.w H s.heap a (.c_ ob (.lst xs)) from I.aC a _ ea)
  exact PySem.W.kia_one PySem.W.kitx_list I.cS ⟨_,h1,rfl⟩ e (λz=>nomatch z) h
 | @tup a xs ea=>
  cases(show u=Value.ref a from rx);obtain⟨_,_,_,p⟩:=(show cF X.prog X.w H s.heap a (.tup xs) from I.aC a _ ea)
  obtain⟨o,h1,h2,_⟩:=p;exact PySem.W.kia_one PySem.W.kitx_tuple I.cS ⟨o,h1,h2⟩ e (λz=>nomatch z) h
 | @dK a aj ea=>
  cases(show u=Value.ref a from rx);obtain⟨_,_,vs,_,p⟩:=(show cF X.prog X.w H s.heap a (.dK aj) from I.aC a _ ea)
  obtain⟨o,es,ep,h1,h2,_⟩:=p;exact PySem.W.kia_one PySem.W.kitx_dict I.cS ⟨o,h1,h2.1⟩ e (λz=>nomatch z) h
 | @dT a aj ea=>
  cases(show u=Value.ref a from rx);obtain⟨_,_,xs,_,o,es,ep,h1,h2,_⟩:=(show cF X.prog X.w H s.heap a (.dT aj) from I.aC a _ ea)
  exact PySem.W.kia_one PySem.W.kitx_dict I.cS ⟨o,h1,h2.1⟩ e (λz=>nomatch z) h
 | @ins a C dx fs ea cl ha hn Lk hm=>
  cases(show u=Value.ref a from rx);obtain⟨mA,O,_⟩:=wU I.aC ea;obtain⟨od,J,_⟩:=O.look;exact PySem.W.kia_one (PySem.W.kitx_own (cl.get _) cl.hd ha hn Lk hm) I.cS J e (λz=>nomatch z) h
end
structure bh(k:Nat)(A:Around)(cm:Bool:=true):Prop where
 hd:cm=true->A.handled=none
 dp:A.depth+3*k+5<recursionLimit
 un:A.units+16*k+200<cLine
 gd:A.guards=some []
theorem bh.mono{j k:Nat}{A:Around}{cm:Bool}(r:bh k A cm)(h:j<=k):bh j A cm:=⟨r.hd,by have:=r.dp;lia,by have:=r.un;lia,r.gd⟩
theorem bh.deeper{k:Nat}{A:Around}{cm:Bool}(r:bh (k+1) A cm)(env:Env):bh k (A.deeper env) cm:=
 ⟨r.hd,by have:=r.dp;show A.depth+1+3*k+5<_;lia,by have:=r.un;show A.units+3+16*k+200<_;lia,r.gd⟩
theorem bh.in1{k:Nat}{A:Around}{cm:Bool}(r:bh (k+1) A cm):bh k A.in1 cm:=
 ⟨r.hd,by have:=r.dp;show A.depth+3*k+5<_;lia,by have:=r.un;show A.units+1+16*k+200<_;lia,r.gd⟩
theorem abD{A:Around}{C:Addr}{us:List Value}{kw:List (Str×Value)}:(A.under (.builtin "type.__call__" ⟨.ref C::us,kw⟩)).depth=A.depth+1:=by
 first|rfl|simp[Around.under,Code.weight,Code.isCreation,Code.isGuard,Code.isCaller,Code.frames,Code.isFrame,guardIds]
theorem Sw{A:Around}{C:Addr}{us:List Value}{kw:List (Str×Value)}:(A.under (.builtin "type.__call__" ⟨.ref C::us,kw⟩)).units=A.units+1:=by
 first|rfl|simp[Around.under,Code.cUnits,Code.frames,Code.isFrame]
theorem bh.make(r:bh (k+1) A cm)(C:Addr)(us:List Value)(kw:List (Str×Value)):bh k (A.under (.builtin "type.__call__" ⟨.ref C::us,kw⟩)) cm:=
 ⟨r.hd,by have:=r.dp;rw[abD];omega,by have:=r.un;rw[Sw];omega,by first|exact r.gd|(simp[Around.under,Code.guards,Code.isGuard,guardIds,pushGuards];exact r.gd)⟩
theorem bh.depth{k:Nat}{A:Around}{cm:Bool}(r:bh k A cm):A.depth<recursionLimit:=by have:=r.dp;lia
theorem bh.units{k:Nat}{A:Around}{cm:Bool}(r:bh k A cm):A.units+64<cLine:=by have:=r.un;lia
def rD:TA:=λ_ H Q=>Q [] H
def Mq(ta:TE)(tr:TA):TA:=λσ H Q=>ta σ H λx H1=>tr σ H1 λxs H2=>Q (x::xs) H2
section
variable{X:Cx}{e:Expr}{es:List Expr}{te:TE}{t:TA}{pos:Pos}
theorem dU:PA X [] rD:=λ_ _ _ _ H Q I h=>aer ⟨[],H,I,.nil,h⟩
theorem cH(ha:PE X e te)(hr:PA X es t)(hs:starEach (e::es) X.env=(false,eval e X.env)::starEach es X.env:=by rfl):PA X (e::es) (Mq te t):=by
 intro pos af s σ H Q I h;rw[hs];refine adW (aL (ha af s σ H _ I h) λu s1 ⟨x,H1,I1,r1,q1⟩=>?_);exact aL (hr pos af s1 σ H1 _ I1 q1) λus s2 ⟨xs,H2,I2,r2,q2⟩=>⟨x::xs,H2,I2,.cons r1 r2,q2⟩
def Sn(t:TA):TE:=λσ H Q=>t σ H λxs H1=>xs.length<=sizeLine/\∀p,H1 p=none->Q (.ref p) (upd H1 p (.tup xs))
def OC(t:TA):TE:=λσ H Q=>t σ H λxs H1=>xs.length<=sizeLine/\∀p,H1 p=none->Q (.ref p) (upd H1 p (.lst xs))
theorem Oo{x1}(h:PA X es t):PE X (.Tuple es x1 pos) (Sn t):=by
 intro af s σ H Q I hq;refine wpAny_Tuple_spliced (aL (h pos af s σ H _ I hq) λus s1 ⟨xs,H1,I1,r,z,q⟩=>⟨by rw[<- r.length];exact z,?_⟩);have hf:=I1.aC.fresh (aa2 _);refine⟨.ref s1.heap.objs.size,upd H1 s1.heap.objs.size (.tup xs),I1.laid (λb u e=>aad _ e) (aa2 _) ?_,rfl,q _ hf⟩;exact⟨z,us,r,⟨_,abb _ rfl,rfl,rfl,_,rfl⟩⟩
theorem JG(h:PA X es t):PE X (.List es pos) (OC t):=by
 intro af s σ H Q I hq;refine wpAny_List_spliced (aL (h pos af s σ H _ I hq) λus s1 ⟨xs,H1,I1,r,z,q⟩=>⟨by rw[<- r.length];exact z,?_⟩);have hf:=I1.aC.fresh (aa2 _);refine⟨.ref s1.heap.objs.size,upd H1 s1.heap.objs.size (.lst xs),I1.laid (λb u e=>aad _ e) (aa2 _) ?_,rfl,q _ hf⟩;exact⟨z,us,0,r,abb _ rfl⟩
end
abbrev Sp:=List V->Hp->VK->XK->Prop
abbrev iX:=List Env->Hp->Shared->XK->Value->Shared->Prop
structure pq(P:Program)(w:World)(K:PySem.W.Frag)(mg:Str->Option Value)(base:Heap)(A:Around)(outer:List Env)(s:Shared)(H:Hp):Prop where
 frames:A.frames=some outer
 mod:Mod K mg base
 bs:∀b o,base.get? b=some o->s.heap.get? b=some o/\H b=none
 jh:base.objs.size<=s.heap.objs.size
 jc:s.heap.FunFrames base outer
 n5:∀b∈jC outer,H b=none
 aC:cL P w H s.heap
 bare:AllBare s.gens
 hq:Hq K A H
def CE(outer:List Env)(P:Program)(w:World)(H:Hp)(s:Shared)(Q:VK)(u:Value)(s':Shared):Prop:=
 ∃v H',s'.os=s.os/\AllBare s'.gens/\Un (jC outer) [] H H' s.heap s'.heap/\cL P w H' s'.heap/\RelV v u/\Q v H'
def CR(CX:iX)(outer:List Env)(P:Program)(w:World)(H:Hp)(s:Shared)(Q:VK)(E:XK)(r:Result)(s':Shared):Prop:=
 match r with
 |.ok (.ret u)=>CE outer P w H s Q u s'
 |.ok _=>False
 |.error e=>CX outer H s E e s'
structure bT(P:Program)(w:World)(K:PySem.W.Frag)(mg:Str->Option Value)(base:Heap)(CX:iX)(k:Nat)(f:Addr)(fd:FuncData)(ps:List Str)(sp:Sp)(cm:Bool:=true):Prop where
 len:∀vs H Q E,sp vs H Q E->vs.length=ps.length
 run:∀(A:Around) (outer:List Env) (s:Shared) (H:Hp) (args:Args) (us:List Value) (vs:List V) (Q:VK) (E:XK),bh k A cm->pq P w K mg base A outer s H->BindsTo s fd args (ps.zip us)->aK vs us->sp vs H Q E->
  codeAny (model P w) A (.call (.ref f) args) (CR CX outer P w H s Q E) s
theorem bT.imp{K:PySem.W.Frag}{sp Nr:Sp}(F:bT P w K mg base CX k f fd ps sp cm)
  (h:∀vs H Q E,Nr vs H Q E->sp vs H Q E):bT P w K mg base CX k f fd ps Nr cm:=
 ⟨λvs H Q E q=>F.len vs H Q E (h _ _ _ _ q),λA outer s H args us vs Q E hr he hb hv hs=>F.run A outer s H args us vs Q E hr he hb hv (h _ _ _ _ hs)⟩
theorem pq.make{K:PySem.W.Frag}{outer:List Env}(e:pq P w K mg base A outer s H)(C:Addr)(us:List Value)(kw:List (Str×Value)):
  pq P w K mg base (A.under (.builtin "type.__call__" ⟨.ref C::us,kw⟩)) outer s H:=⟨by first|exact e.frames|(simpa[Around.under,Code.envs,Code.isFrame,pushEnvs] using e.frames),e.mod,e.bs,e.jh,e.jc,e.n5,e.aC,e.bare,⟨e.hq.hd,e.hq.ok,e.hq.lm⟩⟩
section
variable{X:Cx}{af:List (Addr×Obj)}{σ:St}{H:Hp}{s s':Shared}
theorem Inv.HV(I:Inv X af σ H s):pq X.prog X.w X.K X.mg X.base X.A X.stack s H:=
 ⟨I.ok.frames,I.ok.mod,I.bs,ac9 I.ok.jh I.sz,I.stack,I.Bl,I.aC,I.bare,I.hq⟩
theorem Inv.after(I:Inv X af σ H s)(h:CE X.stack X.prog X.w H s Q u s'):EP X af σ Q u s':=by
 obtain⟨v,H',os,bare,un,aC,r,q⟩:=h;obtain⟨hh,g,d,t,HH⟩:=s';obtain rfl:HH=s.os:=os;exact⟨v,H',I.call (g':=g) (d':=d) (ch:=[]) un aC bare (λb z=>absurd z (by simp)),r,q⟩
end
def RK(sp:Sp)(eU:List V)(E:XK)(t:TA):TE:=λσ H Q=>t σ H λvs H1=>sp (vs++eU) H1 Q E
def wQ(C:Addr)(m:Str)(sp:Sp)(eU:List V)(E:XK)(ta:TE)(t:TA):TE:=λσ H Q=>ta σ H λx H1=>∃a dx fs,x=.ref a/\H1 a=some (.ins C dx fs)/\fs.lookup m=none/\
 t σ H1 λvs H2=>sp (x::(vs++eU)) H2 Q E
def Ml(C:Addr)(sp:Sp)(eU:List V)(E:XK)(t:TA):TE:=λσ H Q=>t σ H λvs H1=>∀x dx,H1 x=none->H1 dx=none->dx≠x->
 sp (.ref x::(vs++eU)) (upd (upd H1 dx (.own x)) x (.ins C dx [])) (λv H2=>v=.aH/\Q (.ref x) H2) E
def Binds(K:PySem.W.Frag)(fd:FuncData)(ps:List Str)(ds:List Value):Prop:=
 ∀(s:Shared) (us:List Value),K.In s.heap->(us++ds).length=ps.length->BindsTo s fd ⟨us,[]⟩ (ps.zip (us++ds))
theorem Binds.all{K:PySem.W.Frag}(h:∀us:List Value,us.length=ps.length->bindArgs fd ⟨us,[]⟩=pure (ps.zip us)):Binds K fd ps []:=λs us _ hl=>by
 rw[acB] at hl ⊢;exact .of_eq (h us hl)
def Passes(CX:iX)(X:Cx)(E:XK):Prop:=∀(af:List (Addr×Obj)) (σ:St) (H:Hp) (s:Shared) (e:Value) (s':Shared),Inv X af σ H s->CX X.stack H s E e s'->X.xe e s'
section
variable{X:Cx}{CX:iX}{k:Nat}{f C:Addr}{fd:FuncData}{ps:List Str}{sp:Sp}{eU:List V}{ds:List Value}{E:XK}{x m:Str}{p pos apos:Pos}{e o:Expr}{es:List Expr}{ta:TE}{t:TA}
variable{cm:Bool}
theorem BC(F:bT X.prog X.w X.K X.mg X.base CX k f fd ps sp cm)(hr:bh k X.A cm)(hb:Binds X.K fd ps ds)(hd:aK eU ds)(hx:Passes CX X E)
  (I:Inv X af σ H s) (r:aK vs us) (h:sp (vs++eU) H Q E):wpAny (model X.prog X.w) X.A (call (.ref f) us) (EP X af σ Q) X.xe s:=by
 have r2:=r.append hd;have hl:(us++ds).length=ps.length:=by rw[<- r2.length];exact F.len _ _ _ _ h
 refine wpAny_call (aei (F.run X.A X.stack s H ⟨us,[]⟩ (us++ds) (vs++eU) Q E hr I.HV (hb s us I.cS hl) r2 h) λr s' hq=>?_);cases r with
 |error e=>exact hx af σ H s e s' I hq
 |ok fl=>
  cases fl with
  |ret u=>exact I.after hq
  |next=>exact False.elim hq
  |brk=>exact False.elim hq
  |cont=>exact False.elim hq
theorem xh(F:bT X.prog X.w X.K X.mg X.base CX k f fd ps sp cm)(hr:bh k X.A cm)(hg:Gl X x)(hm:X.mg x=some (.ref f))(hk:PySem.W.keepIn X.K (.ref f)=true)(hb:Binds X.K fd ps ds)(hd:aK eU ds)(hx:Passes CX X E)
  (ha:PA X (e::es) t) (kC:(x==("__debug__":Str))=false:=by decide) (he:starEach (e::es) X.env=(false,eval e X.env)::starEach es X.env:=by rfl) (hpl:(backTo pos (starEach es X.env)).any (·.1)=false:=by rfl) :
  PE X (.Call (.Name x p) (e::es) [] pos) (RK sp eU E t):=by
 intro af s σ H Q I h;refine adt (DS I hg hm ?_ kC);refine PySem.W.callWith_K (h₀:=X.base) I.ok.mod.ye hk (aL (ha pos af s σ H _ I h) λus s1 ⟨vs,H1,I1,r,q⟩=>⟨I1.cS,?_⟩) he hpl;exact BC F hr hb hd hx I1 r q
theorem NG{pl:Sem Bool}(he:PE X o ta)(c:jO X.K C)(hm:nK X.K C m f)(F:bT X.prog X.w X.K X.mg X.base CX k f fd ps sp cm)(hr:bh k X.A cm)(hb:Binds X.K fd ps ds)(hd:aK eU ds)(hx:Passes CX X E)(ha:PA X (e::es) t)
  (fC:starEach (e::es) X.env=(false,eval e X.env)::starEach es X.env:=by rfl) (hpl:(backTo pos (starEach es X.env)).any (·.1)=false:=by rfl)
  (ht:eval (.Call (.Attribute o m apos) (e::es) [] pos) X.env=(do
   let ov <- eval o X.env
   standAt apos.atName
   let(f,first) <- holding [ov] (getMethod ov m pl)
   callWith pos f first (backTo pos (starEach (e::es) X.env)) (backToKw pos (keywordEach [] X.env))):=by rfl) :
  PE X (.Call (.Attribute o m apos) (e::es) [] pos) (wQ C m sp eU E ta t):=by
 intro af s σ H Q I h;refine PySem.W.methodCall_KW (pl:=pl) (aL (he af s σ H _ I h) λu s1 ⟨x,H1,I1,rx,a,dx,fs,ex,ea,l,q⟩=>?_) ht;subst ex;obtain rfl:u=Value.ref a:=rx;refine G4 I1 ea c hm l ?_;refine PySem.W.callWith_K (first:=[.ref a]) (h₀:=X.base) I.ok.mod.ye hm.kp (aL (ha pos af s1 σ H1 _ I1 q) λus s2 ⟨vs,H2,I2,r,q2⟩=>⟨I2.cS,?_⟩) fC hpl;exact BC (us:=.ref a::us) (vs:=.ref a::vs) F hr hb hd hx I2 (.cons rfl r) q2
theorem QV{pl:Sem Bool}(he:PE X o ta)(c:jO X.K C)(hm:nK X.K C m f)(F:bT X.prog X.w X.K X.mg X.base CX k f fd ps sp cm)(hr:bh k X.A cm)(hb:Binds X.K fd ps ds)(hd:aK eU ds)(hx:Passes CX X E)
  (ht:eval (.Call (.Attribute o m apos) [] [] pos) X.env=(do
   let ov <- eval o X.env
   standAt apos.atName
   let(f,first) <- holding [ov] (getMethod ov m pl)
   callWith pos f first (backTo pos (starEach [] X.env)) (backToKw pos (keywordEach [] X.env))):=by rfl) :
  PE X (.Call (.Attribute o m apos) [] [] pos) (wQ C m sp eU E ta rD):=by
 intro af s σ H Q I h;refine PySem.W.methodCall_KW (pl:=pl) (aL (he af s σ H _ I h) λu s1 ⟨x,H1,I1,rx,a,dx,fs,ex,ea,l,q⟩=>?_) ht;subst ex;obtain rfl:u=Value.ref a:=rx;refine G4 I1 ea c hm l ?_;exact PySem.W.callWith_K0 (first:=[.ref a]) I1.cS hm.kp (BC (us:=[.ref a]) (vs:=[.ref a]) F hr hb hd hx I1 (.cons rfl .nil) q)
structure Mk(K:PySem.W.Frag)(C f:Addr):Prop where
 makes:PySem.W.makesIn K C=true
 init:PySem.W.findIn K (.ref C) "__init__"=some (some (.ref f))
 fn:PySem.W.isFn K (.ref f)=true
 kp:PySem.W.keepIn K (.ref C)=true
theorem Rl(M:Mk X.K C f)(F:bT X.prog X.w X.K X.mg X.base CX k f fd ps sp cm)(hr:bh (k+1) X.A cm)(hb:Binds X.K fd ps ds)(hd:aK eU ds)
  (hx:Passes CX X E) (I:Inv X af σ H s) (r:aK vs us)
  (h:∀x dx,H x=none->H dx=none->dx≠x->sp (.ref x::(vs++eU)) (upd (upd H dx (.own x)) x (.ins C dx [])) (λv H2=>v=.aH/\Q (.ref x) H2) E) :
  wpAny (model X.prog X.w) X.A (call (.ref C) us) (EP X af σ Q) X.xe s:=by
 have hq:=h (s.heap.objs.size+1) s.heap.objs.size (I.aC.fresh (ad6 _)) (I.aC.fresh (aa2 _)) (ab6 (adl _));have I2:=Inv.made (C:=C) I;have r2:aK (V.ref (s.heap.objs.size+1)::(vs++eU)) (Value.ref (s.heap.objs.size+1)::(us++ds)):=.cons rfl (r.append hd);have hl:(Value.ref (s.heap.objs.size+1)::us++ds).length=ps.length:=by
  have e:=r2.length;rw[F.len _ _ _ _ hq] at e;exact e.symm
 refine wpAny_call (O5 I.cS M.makes M.init (adI.mp M.fn) (aei (F.run _ X.stack _ _ ⟨Value.ref (s.heap.objs.size + 1)::us,[]⟩ (Value.ref (s.heap.objs.size + 1)::(us++ds)) _ _ E (hr.make C us [])
  (I2.HV.make C us []) (hb _ (Value.ref (s.heap.objs.size+1)::us) I2.cS hl) r2 hq) λr s' lW=>?_))
 cases r with
 |error e=>exact hx af σ _ _ e s' I2 lW
 |ok fl=>
  cases fl with
  |ret u=>
   obtain⟨v,H',I3,rv,ev,q3⟩:=I2.after lW;subst ev;exact⟨rv,⟨V.ref (s.heap.objs.size+1),H',I3,rfl,q3⟩⟩
  |next=>exact False.elim lW
  |brk=>exact False.elim lW
  |cont=>exact False.elim lW
theorem Vx(M:Mk X.K C f)(F:bT X.prog X.w X.K X.mg X.base CX k f fd ps sp cm)(hr:bh (k+1) X.A cm)(hg:Gl X x)(hm:X.mg x=some (.ref C))(hb:Binds X.K fd ps ds)(hd:aK eU ds)(hx:Passes CX X E)
  (kC:(x==("__debug__":Str))=false:=by decide):PE X (.Call (.Name x p) [] [] pos) (Ml C sp eU E rD):=by
 intro af s σ H Q I h;refine adt (DS I hg hm ?_ kC);exact PySem.W.callWith_K0 I.cS M.kp (Rl (us:=[]) M F hr hb hd hx I .nil h)
end
structure m9(N P:List Str)(sc:Scope):Prop where
 kind:sc.kind=.function
 co:sc.isCoroutine=false
 gen:sc.isGenerator=false
 nd:N.Nodup
 pre:N.take P.length=P
 par:∀x∈P,sc.names.lookup x=some .local\/sc.names.lookup x=some .cell
 OH:∀y∈sc.names,y.2≠.free
theorem LB{kindOf:Str->Option NameKind}:∀{binds:List (Str×Value)}{m:Str->Option Value},(∀v,(x,v)∉binds)->bindL kindOf binds m x=m x
 |[],_,_=>rfl
 |(n,v)::r,m,h=>by
  unfold bindL;rw[LB λw hw=>h w (aas _ hw)]
  split
  .have:x≠n:=by rintro rfl;exact h v aah
   simp[this]
  .rfl
theorem HW{kindOf:Str->Option NameKind}:∀{binds:List (Str×Value)}{m:Str->Option Value},(∀v,(x,v)∉binds)->bindC kindOf binds m x=m x
 |[],_,_=>rfl
 |(n,v)::r,m,h=>by
  unfold bindC;rw[HW λw hw=>h w (aas _ hw)]
  split
  .rfl
  .have:x≠n:=by rintro rfl;exact h v aah
   simp[this]
theorem M8{kindOf:Str->Option NameKind}:∀{P:List Str}{vs:List Value}{i:Nat}{m:Str->Option Value},P.Nodup->P[i]? = some x->vs[i]? = some v->kindOf x=some .local->
  bindL kindOf (P.zip vs) m x=some v
 |[],_,_,_,_,h,_,_=>by simp at h
 |_::_,[],_,_,_,_,h,_=>by simp at h
 |p::P,w::vs,0,m,nd,h1,h2,hk=>by
  simp at h1 h2;subst h1;subst h2;show bindL kindOf ((p,w)::P.zip vs) m p=_;unfold bindL;rw[LB λv hv=>(acd.mp nd).1 (List.of_mem_zip hv).1,if_pos hk];simp
 |p::P,w::vs,i+1,m,nd,h1,h2,hk=>by
  unfold bindL;exact M8 (acd.mp nd).2 (by simpa using h1) (by simpa using h2) hk
theorem Gf{kindOf:Str->Option NameKind}:∀{P:List Str}{vs:List Value}{i:Nat}{m:Str->Option Value},P.Nodup->P[i]? = some x->vs[i]? = some v->kindOf x≠some .local->
  bindC kindOf (P.zip vs) m x=some v
 |[],_,_,_,_,h,_,_=>by simp at h
 |_::_,[],_,_,_,_,h,_=>by simp at h
 |p::P,w::vs,0,m,nd,h1,h2,hk=>by
  simp at h1 h2;subst h1;subst h2;show bindC kindOf ((p,w)::P.zip vs) m p=_;unfold bindC;rw[HW λv hv=>(acd.mp nd).1 (List.of_mem_zip hv).1,aa7 hk];simp
 |p::P,w::vs,i+1,m,nd,h1,h2,hk=>by
  unfold bindC;exact Gf (acd.mp nd).2 (by simpa using h1) (by simpa using h2) hk
noncomputable def start(N:List Str)(vs:List V):St:=vs.map some++List.replicate (N.length-vs.length) none
noncomputable def iO(CX:iX)(P:Program)(w:World)(K:PySem.W.Frag)(mg:Str->Option Value)(base:Heap)(N:List Str)(qual:Str)(scope:Scope)(f:Addr)(cd:Value)(A:Around)(outer:List Env)(s:Shared)(H:Hp)(E:XK)(cm:Bool:=true):Cx where
 prog:=P
 w:=w
 K:=K
 mg:=mg
 base:=base
 A:=A.deeper (envOfC qual scope s.heap.objs.size f cd)
 N:=N
 cY:=s
 sC:=H
 env:=envOfC qual scope s.heap.objs.size f cd
 outer:=outer
 stack:=envOfC qual scope s.heap.objs.size f cd::outer
 ex:=[]
 calm:=cm
 fn:=λ_=>true
 pn:=[]
 xe:=λe s'=>wpAny (model P w) (A.deeper (envOfC qual scope s.heap.objs.size f cd)) (leaving (envOfC qual scope s.heap.objs.size f cd) e) (λ_ ly=>CX outer H s E e ly) (λe' ly=>CX outer H s E e' ly) s'
theorem K9{sc:Scope}{n:Nat}{x:Str}(h:sc.names.lookup x=some .cell):∃c,(cellsFrom n sc.names []).lookup x=some c:=by
 have q:=PySem.W.cellsFrom_some sc.names n [] (.inl h);exact aeE.mp q
theorem aaL{CX:iX}{P:Program}{w:World}{K:PySem.W.Frag}{mg:Str->Option Value}{base:Heap}{N ps:List Str}{qual:Str}{scope:Scope}{outer:List Env}
  (S:m9 N ps scope) (hd:cm=true->A.handled=none) (e0:pq P w K mg base A outer s H) (hl:vs.length=ps.length) (r:aK vs us)
  (x:InCallC s s.heap.objs.size (bindL (envOfC qual scope s.heap.objs.size f cd).kindOf (ps.zip us) λ_=>none) (cellsFrom (s.heap.objs.size+1) scope.names []) (bindC (envOfC qual scope s.heap.objs.size f cd).kindOf (ps.zip us) λ_=>none) s1) :
  Inv (iO CX P w K mg base N qual scope f cd A outer s H E cm) [] (start N vs) H s1:=by
 have hpl:ps.length<=N.length:=by have:=congrArg List.length S.pre;rw[adK] at this;lia
 obtain⟨h1,tk,rfl,hk⟩:=x.done;have p5:∀b:Addr,b∉(iO CX P w K mg base N qual scope f cd A outer s H E cm).ex:=λb z=>absurd (show b∈([]:List Addr) from z) (by simp)
 refine⟨⟨e0.mod,S.kind,rfl,rfl,aa2 _,λy z c h1 h2=>?_,λy hy=>?_,λy c _ h=>?_,hd,Around.frames_deeper e0.frames,.inr ⟨rfl,rfl⟩,λb z=>absurd z (p5 b),e0.bs,e0.jh,λb _ _=>p5 b,λb z=>absurd z (p5 b),e0.jc,e0.n5⟩,
  rfl,e0.bare,Un.kept hk,⟨_,x.toInCall.ns,λi y v h1 h2 h3=>?_⟩,λy c h=>⟨_,x.cell y c h⟩,e0.aC.fresh (aa2 _),λy c h=>?_,λp hp=>absurd (show p∈([]:List (Addr×Obj)) from hp) (by simp),e0.aC.kept hk,?_,⟨e0.hq.hd,e0.hq.ok,e0.hq.lm⟩⟩
 .exact name_of_addr x.apart (PySem.mem_of_lookup h1) (PySem.mem_of_lookup h2)
 .have hy:=hy;rcases hy with hy|hy
  .exact K9 hy
  .exact absurd rfl (S.OH _ (PySem.mem_of_lookup hy))
 .exact ade (x.above y c (PySem.mem_of_lookup h))
 .have hi:i<vs.length:=by
   unfold start at h2
   by_cases hi:i<vs.length
   .exact hi
   .rw[ado (by simpa using hi)] at h2;rw[List.getElem?_replicate] at h2
    split at h2<;>cases h2
  have ha:vs[i]? = some v:=by
   unfold start at h2;rw[ac4 (by simpa using hi),acg] at h2;exists e,vs[i]?,a,h2;cases h2;rfl
  obtain⟨u,hu,rv⟩:=r.get ha;have hp:ps[i]? = some y:=by
   rw[<- S.pre,List.getElem?_take_of_lt (by lia)];exact h1
  have Lx:ps.Nodup:=by rw[<- S.pre];exact S.nd.sublist (aes _ _)
  refine⟨u,rv,?_⟩;rcases S.par y (ad1 hp) with k|k
  .exact .inl ⟨k,M8 Lx hp hu k⟩
  .obtain⟨c,e⟩:=K9 k;refine .inr ⟨.inl k,c,e,?_⟩;have q:=x.cell y c e;rw[Gf Lx hp hu (by show scope.names.lookup y≠_;rw[k];decide)] at q;exact q
 .exact e0.aC.fresh (ade (x.above y c (PySem.mem_of_lookup h)))
 .unfold start;show _=N.length;rw[ack,List.length_map,List.length_replicate]
  lia
theorem Yz{CX:iX}{P:Program}{w:World}{K:PySem.W.Frag}{mg:Str->Option Value}{base:Heap}{k:Nat}{f:Addr}{name qual:Str}{params:Arguments}{body:List Stmt}{scope:Scope}{dV kV doc pm aV ct oc:Value}{an od:Option Addr}
  {mC:Array (Option Value)}{N ps:List Str}{sp:Sp}{cm:Bool} (lk:K.lookup f=some ⟨oc,od,.func (PySem.W.fnOf name qual params body scope dV kV doc pm an aV ct),mC⟩) (nq:PySem.W.codeIn K aV qual=true) (S:m9 N ps scope)
  (len:∀vs H Q E,sp vs H Q E->vs.length=ps.length)
  (DP:∀(A:Around) (outer:List Env) (s:Shared) (H:Hp) (vs:List V) (Q:VK) (E:XK),bh k (A.deeper (envOfC qual scope s.heap.objs.size f aV)) cm->sp vs H Q E->
   ∃t,fu (iO CX P w K mg base N qual scope f aV A outer s H E cm) body t/\t { nx:=λ_ H'=>Q .aH H',rt:=Q } (start N vs) H) :
  bT P w K mg base CX (k+1) f (PySem.W.fnOf name qual params body scope dV kV doc pm an aV ct) ps sp cm:=by
 refine⟨len,λA outer s H args us vs Q E hr e0 hb r ny=>?_⟩;have hl:=len _ _ _ _ ny;have KX:K.In s.heap:=e0.mod.ye.keeps λb o e=>(e0.bs b o e).1
 have lim:s.heap.NoLimit:=e0.mod.nolimit.keeps λb o e=>(e0.bs b o e).1
 have Yk:∀y∈ps.zip us,scope.names.lookup y.1=some .local\/(scope.names.lookup y.1=some .cell/\((cellsFrom (s.heap.objs.size+1) scope.names []).lookup y.1).isSome=true):=λ⟨n,v⟩ hy=>by
  rcases S.par n (List.of_mem_zip hy).1 with q|q
  .exact .inl q
  .exact .inr ⟨q,PySem.W.cellsFrom_some _ _ _ (.inl q)⟩
 refine codeAny_call_function hr.depth (KX _ _ lk) rfl S.co S.gen rfl (PySem.W.codeRec_of KX nq) (hb _ _ _ _ ?_);refine wpAny_newFunctionEnv_cells S.kind Yk λenv he s1 x=>?_
 subst he;refine⟨lim.keeps x.toInCall.keep,codeAny_func ?_⟩;obtain⟨t,ht,hq⟩:=DP A outer s H vs Q E (hr.deeper _) ny;have I:Inv (iO CX P w K mg base N qual scope f aV A outer s H E cm) [] (start N vs) H s1:=aaL S hr.hd e0 hl r x;refine acC (ht [] s1 (start N vs) H _ I hq) (λfl s' hs=>?_) λe s' hs=>hs
 have fin:∀{aB:St}{H':Hp}{v:V}{u:Value},Inv (iO CX P w K mg base N qual scope f aV A outer s H E cm) [] aB H' s'->RelV v u->Q v H'->CE outer P w H s Q u s':=
  λ{aB H' v u} J rv q=>⟨v,H',J.os,J.bare,J.base,J.aC,rv,q⟩
 cases fl with
 |ret u=>
  obtain⟨v,aB,H',J,rv,q⟩:=hs;exact fin J rv q
 |next=>
  obtain⟨aB,H',J,q⟩:=hs;exact fin (v:=V.aH) (u:=Value.none) J rfl q
 |brk=>
  obtain⟨_,_,_,q⟩:=hs;exact False.elim q
 |cont=>
  obtain⟨_,_,_,q⟩:=hs;exact False.elim q
section
variable{X:Cx}{x:Str}{p pos:Pos}{e:Expr}{es:List Expr}{t:TA}{id T:String}{r:List V->Hp->VK->Prop}
def E9(r:List V->Hp->VK->Prop)(t:TA):TE:=λσ H Q=>t σ H λvs H1=>r vs H1 Q
theorem rO(hc:eF X (.builtin id) r)(hg:Gl X x)(hm:X.mg x=none)(hv:bootBuiltins x=some (.builtin id))(ha:PA X (e::es) t)(hn:x≠"__name__":=by decide)(kC:(x==("__debug__":Str))=false:=by decide)
  (he:starEach (e::es) X.env=(false,eval e X.env)::starEach es X.env:=by rfl) (hpl:(backTo pos (starEach es X.env)).any (·.1)=false:=by rfl):PE X (.Call (.Name x p) (e::es) [] pos) (E9 r t):=by
 intro af s σ H Q I h;refine adt (ku I hg hm hv ?_ hn kC);exact PyProof.Rows.callWith_builtin1 (aL (ha pos af s σ H _ I h) λus s1 ⟨vs,H1,I1,r1,q1⟩=>hc af s1 σ H1 vs us Q I1 r1 q1) he hpl
theorem pR(hc:eF X (.type T) r)(hg:Gl X x)(hm:X.mg x=none)(hv:bootBuiltins x=some (.type T))(ha:PA X (e::es) t)(hn:x≠"__name__":=by decide)(kC:(x==("__debug__":Str))=false:=by decide)
  (he:starEach (e::es) X.env=(false,eval e X.env)::starEach es X.env:=by rfl) (hpl:(backTo pos (starEach es X.env)).any (·.1)=false:=by rfl):PE X (.Call (.Name x p) (e::es) [] pos) (E9 r t):=by
 intro af s σ H Q I h;refine adt (ku I hg hm hv ?_ hn kC);exact acY (aL (ha pos af s σ H _ I h) λus s1 ⟨vs,H1,I1,r1,q1⟩=>hc af s1 σ H1 vs us Q I1 r1 q1) he hpl
end
end L2
namespace HT
open PySem PyProof.Rows
section
variable{prog:Program}{w:World}{A:Around}{E:Value->Shared->Prop}{s:Shared}
noncomputable def eV(n d:Nat):Option Int->Nat
 |none=>d
 |some v=>if v<0 then(v+(n:Int)).toNat else min v.toNat n
theorem Fx(n d:Nat):eV n d none=d:=rfl
theorem BD(n d k:Nat):eV n d (some (k:Int))=min k n:=by
 show(if(k:Int)<0 then((k:Int)+(n:Int)).toNat else min (k:Int).toNat n)=min k n;rw[aa7 (by lia),ad3]
end
end HT
namespace L2
open PySem PySem.Spec PyProof.Rows
abbrev TO:=St->Hp->(Option Int->Hp->Prop)->Prop
def PO(X:Cx)(e:Option Expr)(t:TO):Prop:=
 ∀(af:List (Addr×Obj)) (s:Shared) (σ:St) (H:Hp) (Q:Option Int->Hp->Prop),Inv X af σ H s->t σ H Q->
  wpAny (model X.prog X.w) X.A (evalPart e X.env) (λu s'=>∃o H',Inv X af σ H' s'/\IsPart u o/\Q o H') X.xe s
noncomputable def QS:TO:=λ_ H Q=>Q none H
noncomputable def YV(t:TE):TO:=λσ H Q=>t σ H λx H1=>∃i,x=.int i/\Q (some i) H1
theorem intsAre_of:∀{us:List Value},aK (ns.map V.int) us->IntsAre us ns:=by
 induction ns with
 |nil=>intro us r;rw[List.map_nil] at r;cases r;exact .nil
 |cons n ns ih=>
  intro us r;rw[aaz] at r;cases r with
  |cons r1 r2=>
   obtain⟨t,e⟩:=r1;subst e;exact .cons n t (ih r2)
section
variable{X:Cx}{e:Expr}{te:TE}{lo hi:Option Expr}{tl th:TO}{pos p2:Pos}
theorem Cu:PO X none QS:=by
 intro af s σ H Q I h;rw[evalPart_none];exact aaC ⟨none,H,I,.none,h⟩
theorem DM(h:PE X e te):PO X (some e) (YV te):=by
 intro af s σ H Q I hw;rw[evalPart_some];refine aL (h af s σ H _ I hw) λu s1 ⟨x,H1,I1,r1,q1⟩=>?_
 obtain⟨i,rfl,q⟩:=q1;obtain⟨t,rfl⟩:=r1;exact⟨some i,H1,I1,.int i t,q⟩
def L6(X:Cx)(r:V->Option Int->Option Int->Hp->VK->Prop):Prop:=
 ∀(af:List (Addr×Obj)) (s:Shared) (σ:St) (H:Hp) (x:V) (v vl vu:Value) (lo hi:Option Int) (sl:Addr) (Q:VK),Inv X af σ H s->RelV x v->s.heap.IsSliceOf sl vl vu .none->IsPart vl lo->IsPart vu hi->r x lo hi H Q->
  ∃T id,typeLookup (.type T) "__getitem__"=pure (some (.builtin id))/\s.TypeIs v T/\wpAny (model X.prog X.w) X.A (getItem v (.ref sl)) (EP X af σ Q) X.xe s
def Zk(r:V->Option Int->Option Int->Hp->VK->Prop)(te:TE)(tl th:TO):TE:=λσ H Q=>te σ H λx H1=>tl σ H1 λl H2=>th σ H2 λu H3=>r x l u H3 Q
theorem E4{r:V->Option Int->Option Int->Hp->VK->Prop}(hr:L6 X r)(he:PE X e te)(hl:PO X lo tl)(hu:PO X hi th):PE X (.Subscript e (.Slice lo hi none p2) pos) (Zk r te tl th):=by
 intro af s σ H Q I h;refine Subscript_ (aL (he af s σ H _ I h) λv s1 ⟨x,H1,I1,r1,q1⟩=>?_);refine wpAny_Slice (aL (hl af s1 σ H1 _ I1 q1) λvl s2 ⟨l,H2,I2,pl,q2⟩=>aL (hu af s2 σ H2 _ I2 q2) λvu s3 ⟨u,H3,I3,pu,q3⟩=>?_);rw[evalPart_none];refine aaC ?_;have I4:Inv X af σ H3 { s3 with heap:=s3.heap.push { cls:=.type "slice",data:=.fields #[vl,vu,.none] } }:=I3.kept λb ob q=>aad _ q
 obtain⟨T,id,hT,ht,hg⟩:=hr af { s3 with heap:=s3.heap.push { cls:=.type "slice",data:=.fields #[vl,vu,.none] } } σ H3 x v vl vu l u s3.heap.objs.size Q I4 r1 (Heap.IsSliceOf.new ..) pl pu q3;exact tail_any (ops:=[.ref s3.heap.objs.size,v]) ht hT hg (by with_unfolding_all rfl)
def jA(xs:List V)(lo hi:Option Int):List V:=(xs.drop (HT.eV xs.length 0 lo)).take (HT.eV xs.length xs.length hi-HT.eV xs.length 0 lo)
theorem XX(xs:List V)(lo hi:Option Int):(jA xs lo hi).length<=xs.length:=by
 unfold jA;rw[adK,List.length_drop]
 lia
end
noncomputable def h_(n:Nat)(i:Int):Option Nat:=if 0<=i then(if i<n then some i.toNat else none) else if -(n:Int)<=i then some (i+n).toNat else none
def bV{α:Type}(xs:List α)(i:Int):Option α:=(h_ xs.length i).bind λj=>xs[j]?
theorem Kg(h:h_ n i=some j):seqIndex? i n=some j/\j<n/\-(n:Int)<=i/\i<n:=by
 unfold h_ at h
 by_cases h0:0<=i
 .rw[if_pos h0] at h;obtain⟨h1,h⟩:=ci h;have e:=ab8 h;exact⟨by rw[seqIndex_of h0 h1,e],by omega,by omega,h1⟩
 .rw[aa7 h0] at h;obtain⟨h1,h⟩:=ci h;have e:=ab8 h;exact⟨by rw[seqIndex_neg (by omega) h1,e],by omega,h1,by omega⟩
theorem Bp{α:Type}{xs:List α}{v:α}(h:bV xs i=some v):∃j,seqIndex? i xs.length=some j/\xs[j]? = some v/\j<xs.length/\-(xs.length:Int)<=i/\i<xs.length:=by
 unfold bV at h;exists e,h_ xs.length i,j,h;obtain⟨h1,h2,h3,h4⟩:=Kg e;exact⟨j,h1,h,h2,h3,h4⟩
def rQ(b:Expr):Prop:=∀o i,subscripted b false o i=operate [o,i] (getItem o i)
def mP(X:Cx)(r:R2):Prop:=
 ∀(value slice:Expr) (af:List (Addr×Obj)) (s:Shared) (σ:St) (H:Hp) (x y:V) (v u:Value) (Q:VK),Inv X af σ H s->RelV x v->RelV y u->r x y H Q->
  subscripted slice false v u=operate [v,u] (getItem v u)->wpAny (model X.prog X.w) X.A (subscriptTail value slice v u) (EP X af σ Q) X.xe s
def Om(X:Cx)(id:String)(r:V->List V->Hp->VK->Prop):Prop:=
 ∀(af:List (Addr×Obj)) (s:Shared) (σ:St) (H:Hp) (x:V) (xs:List V) (v:Value) (us:List Value) (Q:VK),Inv X af σ H s->RelV x v->aK xs us->r x xs H Q->
  wpAny (model X.prog X.w) X.A (call (.builtin id) (v::us)) (EP X af σ Q) X.xe s
section
variable{X:Cx}{a b:Expr}{ta tb:TE}{pos:Pos}
theorem mP.or{r r':R2}(h:mP X r)(h':mP X r'):mP X (λx y H Q=>r x y H Q\/r' x y H Q):=by
 intro value slice af s σ H x y v u Q I rx ry q hs;rcases q with q|q
 .exact h value slice af s σ H x y v u Q I rx ry q hs
 .exact h' value slice af s σ H x y v u Q I rx ry q hs
theorem vZ{r:R2}(hr:mP X r)(ha:PE X a ta)(hb:PE X b tb)(hs:rQ b):PE X (.Subscript a b pos) (sW r ta tb):=by
 intro af s σ H Q I h;exact Subscript_ (D8 ha hb I h λv u s2 x y H2 I2 rx ry q=>hr a b af s2 σ H2 x y v u Q I2 rx ry q (hs _ _))
def E5(K:PySem.W.Frag):R2:=λx y H Q=>∃p xs i v,x=.ref p/\y=.int i/\bG K H p xs/\bV xs i=some v/\Q v H
def Ey(K:PySem.W.Frag):R2:=λx y H Q=>∃p xs i v,x=.ref p/\y=.int i/\b8 K H p xs/\bV xs i=some v/\Q v H
def Cs:R2:=λx y H Q=>∃z i c,x=.str z/\y=.int i/\z.length<=sizeLine/\bV z.cps.toList i=some c/\Q (.str ⟨#[c]⟩) H
theorem U5:mP X (E5 X.K):=by
 intro value slice af s σ H x y v u Q I rx ry h hs;obtain⟨p,xs,i,z,rfl,rfl,hq,he,q⟩:=h;cases rx;obtain⟨t,rfl⟩:=ry;obtain⟨ak,r,pl,hz⟩:=I.list hq;obtain⟨j,h1,h2,h3,h4,h5⟩:=Bp he;obtain⟨w,ew,fH⟩:=r.get h2;have hl:=r.length;have hn:=u0;have fin:EP X af σ Q w s:=⟨z,H,I,fH,q⟩
 by_cases h0:0<=i
 .have hj:i.toNat=j:=by
   rw[seqIndex_of h0 h5] at h1;exact ab8 h1
  exact item_listR pl.isList h0 (by lia) (by rw[hj];simpa using ew) fin hs
 .have hj:(i+(ak.toArray.size:Int)).toNat=j:=by
   rw[seqIndex_neg (by lia) h4] at h1;rw[abQ,<- hl];exact ab8 h1
  exact subscriptTail_builtinR pl.isList.typeIs slot_list_getitem.lookup
   (wpAny_getItem_list_neg pl.isList (by lia) (by rw[abQ]<;>lia) (by lia) (by rw[hj];simpa using ew) ⟨rfl,fin⟩) hs
theorem Zc:mP X (Ey X.K):=by
 intro value slice af s σ H x y v u Q I rx ry h hs;obtain⟨p,xs,i,z,rfl,rfl,hq,he,q⟩:=h;cases rx;obtain⟨t,rfl⟩:=ry;obtain⟨ak,r,pl,hz⟩:=I.tuple hq;obtain⟨j,h1,h2,h3,h4,h5⟩:=Bp he;obtain⟨w,ew,fH⟩:=r.get h2;have hl:=r.length;have hn:=u0;have fin:EP X af σ Q w s:=⟨z,H,I,fH,q⟩
 exact subscriptTail_builtinR pl.typeIs slot_tuple_getitem.lookup
  (getItem_tuple pl (by lia) (by lia) (by rw[abQ,<- hl];exact h1) (by simpa using ew) ⟨rfl,fin⟩) hs
theorem O2:mP X Cs:=by
 intro value slice af s σ H x y v u Q I rx ry h hs;obtain⟨z,i,c,rfl,rfl,hz,he,q⟩:=h;obtain⟨t,rfl⟩:=rx;obtain⟨t',rfl⟩:=ry;obtain⟨j,h1,h2,h3,h4,h5⟩:=Bp he;have hl:z.cps.toList.length=z.length:=by simp[Str.length]
 rw[hl] at h1 h4 h5;have hn:=u0;exact tail_any (typeIs_str s z t) slot_str_getitem.lookup (getItem_str (by
  have e1:decide (i < -(2 ^ 63:Int))=false:=aco (by lia);have e2:decide (i >= 2 ^ 63)=false:=aco (by lia);rw[e1,e2,Bool.or_false]) (by rw[h1];simpa using h2) ⟨.str ⟨#[c]⟩,H,I.tok _,⟨_,rfl⟩,q⟩) hs
def Qz(K:PySem.W.Frag):R2:=λx y H Q=>E5 K x y H Q\/Ey K x y H Q\/Cs x y H Q
theorem vp:mP X (Qz X.K):=U5.or (Zc.or O2)
theorem Xy(ak:List Value)(n j:Nat)(u:Value):Obj.mapSeq (·.setIfInBounds j u) { cls:=.type "list",data:=.seq ak.toArray n }={ cls:=.type "list",data:=.seq (ak.set j u).toArray n }:=by
 simp[Obj.mapSeq]
theorem Inv.lst{af:List (Addr×Obj)}{σ:St}{H:Hp}{s:Shared}{p:Addr}{xs:List V}(I:Inv X af σ H s)(h:H p=some (.lst xs)):
  ∃(ak:List Value) (n:Nat),aK xs ak/\s.heap.get? p=some { cls:=.type "list",data:=.seq ak.toArray n }/\xs.length<=sizeLine:=by
 obtain⟨z,ak,n,r,e⟩:=I.aC p _ h;exact⟨ak,n,r,e,z⟩
theorem Inv.WW{af:List (Addr×Obj)}{σ:St}{H:Hp}{s:Shared}{p:Addr}{xs ys:List V}{ak its':List Value}{n n':Nat}{f:Obj->Obj}(I:Inv X af σ H s)(h:H p=some (.lst xs))
  (ho:s.heap.get? p=some { cls:=.type "list",data:=.seq ak.toArray n }) (hf:f { cls:=.type "list",data:=.seq ak.toArray n }={ cls:=.type "list",data:=.seq its'.toArray n' }) (r:aK ys its') (hz:ys.length<=sizeLine) (t:Nat) :
  Inv X af σ (upd H p (.lst ys)) { s with heap:=s.heap.update p f,toks:=t }:=by
 have e:(s.heap.update p f).get? p=some { cls:=.type "list",data:=.seq its'.toArray n' }:=by
  rw[acy f ho (by rw[hf]<;>rfl),hf]
 refine I.write (by rw[h];trivial) (.inl rfl) (λb u hb q=>(acm _ _ (adx hb)).trans q) ⟨_,e⟩ ?_;exact⟨hz,its',n',r,e⟩
def Pc:V->V->V->Hp->(Hp->Prop)->Prop:=λo i v H Q=>∃p xs k j,o=.ref p/\i=.int k/\H p=some (.lst xs)/\h_ xs.length k=some j/\Q (upd H p (.lst (xs.set j v)))
theorem set_list:K6 X Pc:=by
 intro af s σ H o i v ov iv u Q I ro ri rv h;obtain⟨p,xs,k,j,rfl,rfl,hp,hj,q⟩:=h;cases ro;obtain⟨t,rfl⟩:=ri;obtain⟨ak,n,r,ho,hz⟩:=I.lst hp;obtain⟨h1,h2,h3,h4⟩:=Kg hj;have hl:=r.length;have hn:=u0;have I':Inv X af σ (upd H p (.lst (xs.set j v))) { s with heap:=s.heap.update p (Obj.mapSeq (·.setIfInBounds j u)) }:=
  I.WW hp ho (Xy ak n j u) (r.set rv j) (by rw[ad4];exact hz) s.toks
 by_cases h0:0<=k
 .have hk:k.toNat=j:=by
   rw[seqIndex_of h0 h4] at h1;exact ab8 h1
  exact PySem.W.ki_setAt ho h0 (by lia) (by rw[abQ,<- hl];exact h4) (by rw[hk];exact⟨_,I',q⟩)
 .have hk:(k+(ak.toArray.size:Int)).toNat=j:=by
   rw[seqIndex_neg (by lia) h3] at h1;rw[abQ,<- hl];exact ab8 h1
  exact PySem.W.ki_setBack ho (by lia) (by rw[abQ,<- hl];exact h3) (by lia) (by rw[hk];exact⟨_,I',q⟩)
theorem ZO(lo hi:Option Int)(n:Nat):(sliceBounds lo hi none n).1=((HT.eV n 0 lo:Nat):Int)/\(sliceBounds lo hi none n).2.1=((HT.eV n n hi:Nat):Int)/\(sliceBounds lo hi none n).2.2=1:=by
 refine⟨?_,?_,rfl⟩
 .cases lo with
  |none=>simp[sliceBounds,HT.eV]
  |some i=>
   simp only[sliceBounds,HT.eV,Option.getD_none,show(1:Int) > 0 by decide,aeS]
   by_cases h:i<0
   .simp only[h,aeS]<;>lia
   .simp only[h,ad7]<;>lia
 .cases hi with
  |none=>simp[sliceBounds,HT.eV]
  |some i=>
   simp only[sliceBounds,HT.eV,Option.getD_none,show(1:Int) > 0 by decide,aeS]
   by_cases h:i<0
   .simp only[h,aeS]<;>lia
   .simp only[h,ad7]<;>lia
theorem abR(ak:List Value)(lo hi:Option Int):slicePick ak.toArray lo hi none=((ak.drop (HT.eV ak.length 0 lo)).take (HT.eV ak.length ak.length hi-HT.eV ak.length 0 lo)).toArray:=by
 obtain⟨h1,h2,h3⟩:=ZO lo hi ak.toArray.size;unfold slicePick;rw[h1,h2,h3];simp only[sliceRange_one,pick_run,abQ]<;>rfl
def ND(K:PySem.W.Frag):V->Option Int->Option Int->Hp->VK->Prop:=λx lo hi H Q=>∃a xs,x=.ref a/\bG K H a xs/\∀p,H p=none->Q (.ref p) (upd H p (.lst (jA xs lo hi)))
theorem Au:L6 X (ND X.K):=by
 intro af s σ H x v vl vu lo hi sl Q I rx hs pl pu h;obtain⟨a,xs,rfl,hx,q⟩:=h;cases rx;obtain⟨ak,r,ht,hz⟩:=I.list hx;have hlen:=r.length;refine⟨"list",_,slot_list_getitem.lookup,ht.isList.typeIs,?_⟩;refine wpAny_getItem_list_slice ht.isList hs pl pu .none (by simp) ?_ (by rw[abQ]<;>lia);rw[abR,<- hlen];refine⟨.ref s.heap.objs.size,_,I.laid (λb ob q=>aad _ q) (aa2 _) ?_,rfl,q _ (I.aC.fresh (aa2 _))⟩;exact⟨ac9 (XX xs lo hi) hz,_,0,(r.drop (HT.eV xs.length 0 lo)).take (HT.eV xs.length xs.length hi-HT.eV xs.length 0 lo),abb _ rfl⟩
noncomputable def lN:V->Bool
 |.aH=>true
 |.bl _=>true
 |.int _=>true
 |.str _=>true
 |_=>false
noncomputable def oX:V->V->Bool
 |.aH,.aH=>true
 |.bl a,.bl b=>a==b
 |.bl a,.int b=>(if a then 1 else 0)==b
 |.int a,.bl b=>a==(if b then 1 else 0)
 |.int a,.int b=>a==b
 |.str a,.str b=>a==b
 |_,_=>false
theorem Vu(ry:RelV y u)(rx:RelV x v)(fy:lN y=true)(fx:lN x=true):SeqAt.EqAt A s u v (oX y x):=by
 cases y with
 |aH=>
  cases ry;cases x with
  |aH=>cases rx;exact SeqAt.EqAt.same _
  |bl b=>cases rx;exact SeqAt.EqAt.none_bool b
  |int b=>obtain⟨t,rfl⟩:=rx;exact SeqAt.EqAt.none_int b t
  |str b=>obtain⟨t,rfl⟩:=rx;exact SeqAt.EqAt.none_str b t
  |_=>exact absurd (show false=true from fx) abI
 |bl a=>
  cases ry;cases x with
  |aH=>cases rx;exact SeqAt.EqAt.bool_none a
  |bl b=>cases rx;exact SeqAt.EqAt.bool_bool a b
  |int b=>obtain⟨t,rfl⟩:=rx;exact SeqAt.EqAt.bool_int a b t
  |str b=>obtain⟨t,rfl⟩:=rx;exact SeqAt.EqAt.bool_str a b t
  |_=>exact absurd (show false=true from fx) abI
 |int a=>
  obtain⟨t',rfl⟩:=ry;cases x with
  |aH=>cases rx;exact SeqAt.EqAt.int_none a t'
  |bl b=>cases rx;exact SeqAt.EqAt.int_bool a t' b
  |int b=>obtain⟨t,rfl⟩:=rx;exact SeqAt.EqAt.int_int a t' b t
  |str b=>obtain⟨t,rfl⟩:=rx;exact SeqAt.EqAt.int_str a t' b t
  |_=>exact absurd (show false=true from fx) abI
 |str a=>
  obtain⟨t',rfl⟩:=ry;cases x with
  |aH=>cases rx;exact SeqAt.EqAt.str_none a t'
  |bl b=>cases rx;exact SeqAt.EqAt.str_bool a t' b
  |int b=>obtain⟨t,rfl⟩:=rx;exact SeqAt.EqAt.str_int a t' b t
  |str b=>obtain⟨t,rfl⟩:=rx;exact SeqAt.EqAt.str_str a t' b t
  |_=>exact absurd (show false=true from fx) abI
 |_=>exact absurd (show false=true from fy) abI
def g_(x:V)(u:Value):Bool:=match u with
 |.none=>oX .aH x
 |.bool b=>oX (.bl b) x
 |.int i _=>oX (.int i) x
 |.str z _=>oX (.str z) x
 |_=>false
theorem HJ(r:RelV y u)(f:lN y=true):g_ x u=oX y x:=by
 cases y with
 |aH=>cases r;rfl
 |bl b=>cases r;rfl
 |int i=>obtain⟨t,rfl⟩:=r;rfl
 |str z=>obtain⟨t,rfl⟩:=r;rfl
 |_=>exact absurd (show false=true from f) abI
theorem vB:∀{xs:List V}{us:List Value},aK xs us->xs.all lN=true->us.any (g_ x)=xs.any λy=>oX y x
 |_,_,.nil,_=>rfl
 |y::xs,u::us,.cons r t,f=>by
  rw[List.all_cons,aaF] at f;rw[aet,aet,HJ r f.1,vB t f.2]
theorem tu(rx:RelV x v)(fx:lN x=true):∀{xs:List V}{us:List Value},aK xs us->xs.all lN=true->∀u∈us,SeqAt.EqAt A s u v (g_ x u)
 |_,_,.nil,_=>λu hu=>by cases hu
 |y::xs,u::us,.cons r t,f=>λu' hu=>by
  rw[List.all_cons,aaF] at f;rcases aaG.mp hu with rfl|hu
  .rw[HJ r f.1];exact Vu r rx f.1 fx
  .exact tu rx fx t f.2 u' hu
def zP(x:V)(xs:List V):Bool:=xs.any λy=>oX y x
def Ep(K:PySem.W.Frag)(neg:Bool):R2:=λx y H Q=>∃p xs,y=.ref p/\(bG K H p xs\/b8 K H p xs)/\lN x=true/\xs.all lN=true/\Q (.bl (if neg then !zP x xs else zP x xs)) H
theorem Vw:cG X (compareOp .In) (Ep X.K false):=by
 intro af s σ H x y v u Q I rx ry h;obtain⟨p,xs,rfl,hq,fx,fs,q⟩:=h;cases ry;rcases hq with hq|hq
 .obtain⟨ak,r,pl,hz⟩:=I.list hq;refine SeqAt.in_listAt (g_ x) pl.isList (λw hw=>tu rx fx r fs w (by simpa using hw)) ⟨.bl _,H,I,rfl,?_⟩;rw[show ak.toArray.any (g_ x)=ak.any (g_ x) by simp,vB r fs];exact q
 .obtain⟨ak,r,pl,hz⟩:=I.tuple hq;refine SeqAt.in_tupleAt (g_ x) pl (λw hw=>tu rx fx r fs w (by simpa using hw)) ⟨.bl _,H,I,rfl,?_⟩;rw[show ak.toArray.any (g_ x)=ak.any (g_ x) by simp,vB r fs];exact q
theorem YQ:cG X (compareOp .NotIn) (Ep X.K true):=by
 intro af s σ H x y v u Q I rx ry h;obtain⟨p,xs,rfl,hq,fx,fs,q⟩:=h;cases ry;rcases hq with hq|hq
 .obtain⟨ak,r,pl,hz⟩:=I.list hq;refine SeqAt.notIn_listAt (g_ x) pl.isList (λw hw=>tu rx fx r fs w (by simpa using hw)) ⟨.bl _,H,I,rfl,?_⟩;rw[show ak.toArray.any (g_ x)=ak.any (g_ x) by simp,vB r fs];exact q
 .obtain⟨ak,r,pl,hz⟩:=I.tuple hq;refine SeqAt.notIn_tupleAt (g_ x) pl (λw hw=>tu rx fx r fs w (by simpa using hw)) ⟨.bl _,H,I,rfl,?_⟩;rw[show ak.toArray.any (g_ x)=ak.any (g_ x) by simp,vB r fs];exact q
theorem Z_:eF X (.builtin "len") (λxs H Q=>∃p ys,xs=[.ref p]/\(bG X.K H p ys\/b8 X.K H p ys)/\Q (.int ys.length) H):=by
 intro af s σ H xs us Q I r h;obtain⟨p,ys,rfl,hq,q⟩:=h;obtain⟨u,rfl,rx⟩:=vals1 r;cases rx;have hn:=u0;rcases hq with hq|hq
 .obtain⟨ak,r',pl,hz⟩:=I.list hq;have hlen:=r'.length;exact Calls.call_len_list pl.isList (by simp only[abQ]<;>lia) ⟨.int ys.length,H,I.tok _,⟨s.toks+1,by rw[abQ,hlen]⟩,q⟩
 .obtain⟨ak,r',pl,hz⟩:=I.tuple hq;have hlen:=r'.length;exact len_tuple pl (by simp only[abQ]<;>lia) ⟨.int ys.length,H,I.tok _,⟨s.toks+1,by rw[abQ,hlen]⟩,q⟩
theorem JT:eF X (.type "list") (λxs H Q=>∃p ys,xs=[.ref p]/\(bG X.K H p ys\/b8 X.K H p ys)/\∀l,H l=none->Q (.ref l) (upd H l (.lst ys))):=by
 intro af s σ H xs us Q I r h;obtain⟨p,ys,rfl,hq,q⟩:=h;obtain⟨u,rfl,rx⟩:=vals1 r;cases rx;have fin:∀(ak:List Value),aK ys ak->ys.length<=sizeLine->∀(h':Heap) (c':Nat),(∀b o',s.heap.get? b=some o'->h'.get? b=some o')->
   h'.get? s.heap.objs.size=some { cls:=.type "list",dict:=none,data:=.seq ak.toArray c',slots:=#[] }->EP X af σ Q (.ref s.heap.objs.size) { s with heap:=h' }:=λak r' hz h' c' kp e=>
  ⟨.ref s.heap.objs.size,_,I.laid kp (aa2 _) (show cF X.prog X.w _ h' _ (.lst ys) from⟨hz,ak,c',r',e⟩),rfl,q _ (I.aC.fresh (aa2 _))⟩
 rcases hq with hq|hq
 .obtain⟨ak,r',pl,hz⟩:=I.list hq;have hlen:=r'.length;obtain⟨o,ho,hc,n,hd⟩:=pl.isList;exact call_list_seq p (.inl rfl) ho hc hd (λh' c' kp e=>fin ak r' hz h' c' kp e) (by simp only[abQ]<;>lia)
 .obtain⟨ak,r',pl,hz⟩:=I.tuple hq;have hlen:=r'.length;obtain⟨o,ho,hc,n,hd⟩:=pl;exact call_list_seq p (.inr rfl) ho hc hd (λh' c' kp e=>fin ak r' hz h' c' kp e) (by simp only[abQ]<;>lia)
theorem Vi:eF X (.type "tuple") (λxs H Q=>∃p ys,xs=[.ref p]/\((bG X.K H p ys/\∀l,H l=none->Q (.ref l) (upd H l (.tup ys)))\/(b8 X.K H p ys/\Q (.ref p) H))):=by
 intro af s σ H xs us Q I r h;obtain⟨p,ys,rfl,h⟩:=h;obtain⟨u,rfl,rx⟩:=vals1 r;cases rx;rcases h with⟨hq,q⟩|⟨hq,q⟩
 .obtain⟨ak,r',pl,hz⟩:=I.list hq;have hlen:=r'.length;refine call_tuple_list pl.isList (λh' kp=>?_) (by simp only[abQ]<;>lia);have I1:=I.kept (t':=s.toks) kp;have I2:Inv X af σ (upd H h'.objs.size (.tup ys)) { s with heap:=h'.push { cls:=.type "tuple",data:=.seq ak.toArray } }:=
   I1.laid (λb o e=>aad _ e) (aa2 _) (show cF X.prog X.w _ _ _ (.tup ys) from⟨hz,ak,r',lP.new _ _⟩)
  exact⟨.ref h'.objs.size,_,I2,rfl,q _ (I1.aC.fresh (aa2 _))⟩
 .obtain⟨ak,r',pl,hz⟩:=I.tuple hq;exact call_tuple_same pl ⟨.ref p,H,I,rfl,q⟩
def Ah(K:PySem.W.Frag)(T:String)(x:V)(H:Hp):Prop:=match x with
 |.str _=>T="str"
 |.int _=>T="int"
 |.ref p=>(T="list"/\∃xs,bG K H p xs)\/(T="tuple"/\∃o,K.lookup p=some o/\o.cls=.type "tuple"/\o.dict=none)\/
   (T="dict"/\((∃aj,H p=some (.dK aj))\/∃aj,H p=some (.dT aj)))\/(T="set"/\∃S n,H p=some (.set S n))
 |_=>False
theorem Dr{T:String}(I:Inv X af σ H s)(r:RelV x v)(ty:Ah X.K T x H):
  s.TypeIs v T/\∀a,v=.ref a->∃ob,s.heap.get? a=some ob/\ob.dict=none:=by
 cases x with
 |str z=>
  obtain⟨t,rfl⟩:=r;cases(show T="str" from ty);exact⟨typeIs_str s z t,λ_ e=>nomatch e⟩
 |int i=>
  obtain⟨t,rfl⟩:=r;cases(show T="int" from ty);exact⟨typeIs_int s i t,λ_ e=>nomatch e⟩
 |ref p=>
  cases r;rcases ty with⟨rfl,xs,hq⟩|⟨rfl,o,hk,hc,hd⟩|⟨rfl,hk⟩|⟨rfl,S,n,hk⟩
  .obtain⟨ak,_,pl,_⟩:=I.list hq;refine⟨pl.isList.typeIs,λa e=>?_⟩;cases e;obtain⟨o,n,e,c,hd,_⟩:=pl;exact⟨o,e,hd⟩
  .refine⟨⟨o,I.cS p o hk,hc⟩,λa e=>?_⟩;cases e;exact⟨o,I.cS _ o hk,hd⟩
  .have z:∃o,s.heap.get? p=some o/\o.ExactDict:=by
    rcases hk with⟨aj,hk⟩|⟨aj,hk⟩
    .obtain⟨_,_,_,_,o,_,_,e,ex,_⟩:=I.aC p _ hk;exact⟨o,e,ex⟩
    .obtain⟨_,_,_,_,o,_,_,e,ex,_⟩:=I.aC p _ hk;exact⟨o,e,ex⟩
   obtain⟨o,e,ex⟩:=z;refine⟨⟨o,e,ex.1⟩,λa e2=>?_⟩;cases e2;exact⟨o,e,ex.2.1⟩
  .obtain⟨o,_,_,_,e,ex,_⟩:=I.aC p _ hk;refine⟨⟨o,e,ex.1⟩,λa e2=>?_⟩;cases e2;exact⟨o,e,ex.2.1⟩
 |_=>exact False.elim ty
def GB(K:PySem.W.Frag)(T:String)(r:V->List V->Hp->VK->Prop)(to:TE):TE:=λσ H Q=>to σ H λx H1=>Ah K T x H1/\r x [] H1 Q
def Yw(K:PySem.W.Frag)(T:String)(r:V->List V->Hp->VK->Prop)(to:TE)(t:TA):TE:=λσ H Q=>to σ H λx H1=>Ah K T x H1/\t σ H1 λxs H2=>r x xs H2 Q
variable{o e:Expr}{es:List Expr}{to:TE}{t:TA}{name:Str}{apos cpos:Pos}{T id:String}{r:V->List V->Hp->VK->Prop}
theorem NH(pa:PlainAttrs T)(slot:Slot T name id)(qu:typeOf (.builtin id)=pure (.type "method_descriptor"))(hm:Om X id r)(ho:PE X o to)
  (ia:attributeBase o name X.env (eval o X.env)=eval o X.env:=by rfl) (ir:(apos.endLine==cpos.line)=true:=by rfl):PE X (.Call (.Attribute o name apos) [] [] cpos) (GB X.K T r to):=by
 intro af s σ H Q I h;refine wpAny_Call_method0_late ia ir (aL (ho af s σ H _ I h) λv s1 ⟨x,H1,I1,r1,ty,q1⟩=>?_);obtain⟨h1,h2⟩:=Dr I1 r1 ty;exact⟨T,id,pa,slot,qu,h1,h2,aed rfl (PySem.evalArgs_none (hm af s1 σ H1 x [] v [] Q I1 r1 .nil q1))⟩
theorem BJ(pa:PlainAttrs T)(slot:Slot T name id)(qu:typeOf (.builtin id)=pure (.type "method_descriptor"))(hm:Om X id r)(ho:PE X o to)(ha:PA X (e::es) t)
  (ia:attributeBase o name X.env (eval o X.env)=eval o X.env:=by rfl)
  (j6:((backTo cpos (starEach (e::es) X.env)).all (λx=>!x.1)&&(backToKw cpos (keywordEach [] X.env)).all (λx=>x.1.isSome)
   && decide ((e::es).length+([]:List Keyword).length+(if([]:List Keyword).isEmpty then 0 else 1)<30))=true:=by rfl)
  (ir:(apos.endLine==cpos.line)=true:=by rfl) (hs:starEach (e::es) X.env=(false,eval e X.env)::starEach es X.env:=by rfl) (Y7:(backTo cpos (starEach es X.env)).any (·.1)=false:=by rfl) :
  PE X (.Call (.Attribute o name apos) (e::es) [] cpos) (Yw X.K T r to t):=by
 intro af s σ H Q I h;refine wpAny_Call_method_late ia j6 ir rfl (aL (ho af s σ H _ I h) λv s1 ⟨x,H1,I1,r1,ty,q1⟩=>?_);obtain⟨h1,h2⟩:=Dr I1 r1 ty;refine⟨T,id,pa,slot,qu,h1,h2,?_⟩;have hA:=ha cpos af s1 σ H1 _ I1 q1;rw[hs] at hA ⊢;refine aed (by show(false||(backTo cpos (starEach es X.env)).any (·.1))=false;rw[Y7]<;>rfl) (Calls.evalArgs_plain ?_);exact aL hA λus s2 ⟨vs,H2,I2,r2,q2⟩=>hm af s2 σ H2 x vs v us Q I2 r1 r2 q2
end
def sY(X:Cx)(id:String)(r:V->List V->Hp->VK->Prop):Prop:=
 ∀(af:List (Addr×Obj)) (s:Shared) (σ:St) (H:Hp) (x:V) (xs:List V) (v:Value) (us:List Value) (Q:VK),Inv X af σ H s->RelV x v->aK xs us->r x xs H Q->
  wpAny (model X.prog X.w) X.A (call (.builtin id) (v::us)) (EP X af σ Q) X.xe s
theorem aK.one:∀{x:V}{us:List Value},aK [x] us->∃u,us=[u]/\RelV x u
 |_,_,.cons r .nil=>⟨_,rfl,r⟩
theorem aK.zero:∀{us:List Value},aK [] us->us=[]
 |_,.nil=>rfl
theorem aK.dropLast(h:aK xs us):aK xs.dropLast us.dropLast:=by
 induction h with
 |nil=>exact .nil
 |cons r t ih=>
  cases t with
  |nil=>exact .nil
  |cons q t'=>exact .cons r ih
theorem aK.eraseIdx:∀{xs:List V}{us:List Value} (i:Nat),aK xs us->aK (xs.eraseIdx i) (us.eraseIdx i)
 |_,_,_,.nil=>.nil
 |_,_,0,.cons _ t=>t
 |_,_,i+1,.cons r t=>.cons r (aK.eraseIdx i t)
theorem aK.reverse(h:aK xs us):aK xs.reverse us.reverse:=by
 induction h with
 |nil=>exact .nil
 |cons r t ih=>rw[aeL,aeL];exact aK.append ih (.cons r .nil)
theorem YY{α:Type}(l:List α):l.eraseIdx (l.length-1)=l.dropLast:=by
 induction l with
 |nil=>rfl
 |cons a r ih=>
  cases r with
  |nil=>rfl
  |cons b r=>
   have e:(a::b::r).length-1=((b::r).length-1)+1:=by
    have h1:(a::b::r).length=r.length+2:=rfl;have h2:(b::r).length=r.length+1:=rfl
    lia
   rw[e,List.eraseIdx_cons_succ,ih]
   all_goals rfl
section
variable{X:Cx}{af:List (Addr×Obj)}{σ:St}{H:Hp}{s:Shared}{l b:Addr}{xs ys zs:List V}
theorem Inv.yj{ak its':List Value}{n:Nat}{f:Array Value->Array Value}{t':Nat}(I:Inv X af σ H s)(hH:H l=some (.lst xs))
  (e:s.heap.get? l=some { cls:=.type "list",data:=.seq ak.toArray n }) (hf:f ak.toArray=its'.toArray) (hv:aK ys its') (hz:ys.length<=sizeLine) :
  Inv X af σ (upd H l (.lst ys)) { s with heap:=s.heap.update l (Obj.mapSeq f),toks:=t' }:=by
 have q:=PySem.IsL.update e f;rw[hf] at q;refine I.write (by rw[hH];exact trivial) (.inl rfl) (λb' u hb hu=>(acm s.heap (Obj.mapSeq f) (adx hb)).trans hu) ⟨_,q⟩ ?_;exact⟨hz,its',_,hv,q⟩
theorem Inv.abr(I:Inv X af σ H s)(hv:aK ys ak)(hz:ys.length<=sizeLine):
  Inv X af σ (upd H s.heap.objs.size (.lst ys)) { s with heap:=s.heap.push { cls:=.type "list",data:=.seq ak.toArray },toks:=t' }:=
 I.laid (λ_ _ q=>aad _ q) (aa2 _) ⟨hz,ak,0,hv,abb _ rfl⟩
theorem Inv.fresh(I:Inv X af σ H s):H s.heap.objs.size=none:=I.aC.fresh (aa2 _)
theorem Inv.pO(I:Inv X af σ H s)(hH:H l=some (.lst xs)):xs.length<=sizeLine/\∃(ak:List Value) (n:Nat),aK xs ak/\xs.length=ak.length/\s.heap.get? l=some { cls:=.type "list",data:=.seq ak.toArray n }:=by
 obtain⟨z,ak,n,r,e⟩:=I.aC l _ hH;exact⟨z,ak,n,r,r.length,e⟩
end
section
variable{X:Cx}
def UJ:V->List V->Hp->VK->Prop:=λx vs H Q=>∃l xs y,x=.ref l/\vs=[y]/\H l=some (.lst xs)/\xs.length<sizeLine/\Q .aH (upd H l (.lst (xs++[y])))
theorem y9:sY X "list.append" UJ:=by
 intro af s σ H x vs v us Q I rx rv h;obtain⟨l,xs,y,rfl,rfl,hH,hz,q⟩:=h;cases rx;obtain⟨u,rfl,ru⟩:=rv.one;obtain⟨z,ak,n,r,hl,e⟩:=I.pO hH;refine call_meets F.slot_list_append ⟨_,e,rfl⟩ F.entry_list_append (F.args_list_append_2 _ _) (PySem.list_append l ak.toArray n u (by rw[abQ];lia)) ⟨e,?_⟩;refine⟨.aH,_,I.yj (its':=ak++[u]) hH e (by simp) (r.append (.cons ru .nil)) ?_,rfl,q⟩;rw[ack,aej]
 lia
def NY:V->List V->Hp->VK->Prop:=λx vs H Q=>∃l xs y,x=.ref l/\vs=[]/\H l=some (.lst xs)/\xs[xs.length-1]? = some y/\Q y (upd H l (.lst xs.dropLast))
theorem Uj:sY X "list.pop" NY:=by
 intro af s σ H x vs v us Q I rx rv h;obtain⟨l,xs,y,rfl,rfl,hH,hy,q⟩:=h;cases rx;have Dk:=rv.zero;subst Dk;obtain⟨z,ak,n,r,hl,e⟩:=I.pO hH;obtain⟨u,hu,ru⟩:=r.get hy;have Se:ak.toArray[ak.toArray.size-1]? = some u:=by
  show ak.toArray[ak.length-1]? = some u;rw[<- adg,<- hl];exact hu
 refine call_meets F.slot_list_pop ⟨_,e,rfl⟩ F.entry_list_pop (F.args_list_pop_1 _) (MeetsSeq.list_pop_last l ak.toArray n u Se (by rw[abQ];omega)) ⟨e,?_⟩;refine⟨y,_,I.yj (its':=ak.dropLast) hH e ?_ r.dropLast ?_,ru,q⟩
 .show ak.toArray.eraseIdxIfInBounds (ak.toArray.size-1)=ak.dropLast.toArray;rw[abQ,List.eraseIdxIfInBounds_toArray,YY]
 .rw[List.length_dropLast];omega
def abx:V->List V->Hp->VK->Prop:=λx vs H Q=>∃l xs,x=.ref l/\vs=[]/\H l=some (.lst xs)/\Q .aH (upd H l (.lst []))
theorem abV:sY X "list.clear" abx:=by
 intro af s σ H x vs v us Q I rx rv h;obtain⟨l,xs,rfl,rfl,hH,q⟩:=h;cases rx;have Dk:=rv.zero;subst Dk;obtain⟨z,ak,n,r,hl,e⟩:=I.pO hH;refine call_meets F.slot_list_clear ⟨_,e,rfl⟩ F.entry_list_clear (F.args_list_clear_1 _) (AutoSeq1.list_clear_list_0 l ak.toArray n (by rw[abQ];lia)) ⟨e,?_⟩;exact⟨.aH,_,I.yj (its':=[]) (ys:=[]) hH e rfl .nil (acD _),rfl,q⟩
def XT:R2:=λx y H Q=>∃l b xs zs,x=.ref l/\y=.ref b/\H l=some (.lst xs)/\H b=some (.lst zs)/\xs.length+zs.length<=sizeLine/\∀p,H p=none->Q (.ref p) (upd H p (.lst (xs++zs)))
theorem Xe:cG X (binaryOp .Add) XT:=by
 intro af s σ H x y v u Q I rx ry h;obtain⟨l,b,xs,zs,rfl,rfl,hH,hB,hz,q⟩:=h;cases rx;cases ry;obtain⟨z,ak,n,r,hl,e⟩:=I.pO hH;obtain⟨z2,HA,n2,r2,qm,e2⟩:=I.pO hB;refine PySem.P.add_list e e2 ?_ (by rw[abQ,abQ];lia);have ea:ak.toArray++HA.toArray=(ak++HA).toArray:=by simp
 rw[ea];exact⟨.ref _,_,I.abr (r.append r2) (by rw[ack];lia),rfl,q _ I.fresh⟩
end
section
variable{κ:Type}[DecidableEq κ]
def g8(aj:List (κ×V))(k:κ):Option V:=(aj.find? λkv=>decide (kv.1=k)).map (·.2)
def putK(aj:List (κ×V))(k:κ)(v:V):List (κ×V):=
 if(aj.any λkv=>decide (kv.1=k))=true then aj.map (λkv=>if kv.1=k then(kv.1,v) else kv) else aj++[(k,v)]
theorem zK{p:κ×V}{r:List (κ×V)}{k:κ}(e:p.1=k):g8 (p::r) k=some p.2:=by simp[g8,acN,e]
theorem x9{p:κ×V}{r:List (κ×V)}{k:κ}(e:¬p.1=k):g8 (p::r) k=g8 r k:=by simp[g8,acN,e]
theorem Ly(k:κ):∀aj:List (κ×V),(aj.any λkv=>decide (kv.1=k))=(g8 aj k).isSome
 |[]=>rfl
 |p::r=>by
  rw[aet]
  by_cases e:p.1=k
  .simp only[zK e,abU e,Bool.true_or,Option.isSome_some]
  .rw[x9 e,aco e,Bool.false_or];exact Ly k r
theorem Fq(aj:List (κ×V))(k:κ)(v:V):(putK aj k v).length<=aj.length+1:=by
 unfold putK
 split
 .rw[List.length_map];lia
 .rw[ack,acj,aek];lia
theorem fX.E8{o:Option V}{u:Option Value}(r:fX o u):o.isSome=u.isSome:=by
 cases o with
 |none=>cases u with
  |none=>rfl
  |some _=>exact(show False from r).elim
 |some _=>cases u with
  |none=>exact(show False from r).elim
  |some _=>rfl
theorem fX.getD{o:Option V}{u:Option Value}{d:V}{d':Value}(r:fX o u)(rd:RelV d d'):RelV (o.getD d) (u.getD d'):=by
 cases o with
 |none=>cases u with
  |none=>exact rd
  |some _=>exact(show False from r).elim
 |some _=>cases u with
  |none=>exact(show False from r).elim
  |some _=>exact r
theorem KV.val{aj:List (κ×V)}{vs:List (κ×Value)}(r:KV aj vs)(k:κ):fX (g8 aj k) (valueAt vs k):=by
 unfold KV at r
 induction r with
 |nil=>exact True.intro
 | @cons p q ps qs h t ih=>
  obtain⟨h1,h2⟩:=h
  by_cases e:p.1=k
  .have e':=h1.symm.trans e;have b:valueAt (q::qs) k=some q.2:=by simp[valueAt,acN,e']
   rw[zK e,b];exact h2
  .have e':¬q.1=k:=λz=>e (h1.trans z)
   have b:valueAt (q::qs) k=valueAt qs k:=by simp[valueAt,acN,e']
   rw[x9 e,b];exact ih
theorem KV.any{aj:List (κ×V)}{vs:List (κ×Value)}(r:KV aj vs)(k:κ):(aj.any λkv=>decide (kv.1=k))=vs.any λkv=>decide (kv.1=k):=by
 unfold KV at r
 induction r with
 |nil=>rfl
 |cons h t ih=>rw[aet,aet,ih,h.1]
theorem KV.CU{aj:List (κ×V)}{vs:List (κ×Value)}(r:KV aj vs)(k:κ)(ry:RelV y u):
  KV (aj.map λkv=>if kv.1=k then(kv.1,y) else kv) (vs.map λkv=>if kv.1=k then(kv.1,u) else kv):=by
 unfold KV at r ⊢
 induction r with
 |nil=>exact .nil
 | @cons p q ps qs h t ih=>
  rw[aaz,aaz];refine .cons ?_ ih;obtain⟨h1,h2⟩:=h
  by_cases e:p.1=k
  .rw[if_pos e,if_pos (h1.symm.trans e)];exact⟨h1,ry⟩
  .rw[aa7 e,aa7 (λz=>e (h1.trans z))];exact⟨h1,h2⟩
theorem KV.put{aj:List (κ×V)}{vs:List (κ×Value)}(r:KV aj vs)(k:κ){y:V}{u:Value}(ry:RelV y u):KV (putK aj k y) (stored vs k u):=by
 unfold putK stored;rw[r.any k]
 by_cases e:(vs.any λkv=>decide (kv.1=k))=true
 .rw[if_pos e,if_pos e];exact r.CU k ry
 .rw[aa7 e,aa7 e];exact Paired.snoc r ⟨rfl,ry⟩
theorem KV.keys{aj:List (κ×V)}{vs:List (κ×Value)}(r:KV aj vs):aj.map (·.1)=vs.map (·.1):=by
 unfold KV at r
 induction r with
 |nil=>rfl
 |cons h t ih=>rw[aaz,aaz,ih,h.1]
theorem KV.length{aj:List (κ×V)}{vs:List (κ×Value)}(r:KV aj vs):aj.length=vs.length:=Paired.length r
end
theorem r6(r:RelV (kV k) u):(cO P w).is k u=true:=by
 cases k with
 |inl i=>obtain⟨t,e⟩:=(show ∃t,u=Value.int i t from r);subst e;exact Vt P w i t
 |inr x=>obtain⟨t,e⟩:=(show ∃t,u=Value.str x t from r);subst e;exact OE P w x t
theorem NZ:∀{ks:List Key}{us:List Value},aK (ks.map kV) us->ItemsAre (cO P w) ks us
 |[],_,r=>by rw[List.map_nil] at r;cases r;exact .nil
 |k::ks,_,r=>by
  rw[aaz] at r;cases r with
  |cons h t=>exact .cons (r6 h) (NZ t)
abbrev KT(H:Hp):List (List Key×V)->List (List Key×Addr×Value)->Prop:=Paired λp q=>p.1=q.1/\Tk H q.2.1 (p.1.map kV)/\RelV p.2 q.2.2
theorem KT.val{aj:List (List Key×V)}{xs:List (List Key×Addr×Value)}(r:KT H aj xs)(k:List Key):fX (g8 aj k) ((atKey xs k).map (·.2)):=by
 induction r with
 |nil=>exact True.intro
 | @cons p q ps qs h t ih=>
  obtain⟨h1,_,h2⟩:=h
  by_cases e:p.1=k
  .have e':=h1.symm.trans e;have b:atKey (q::qs) k=some q.2:=by simp[atKey,acN,e']
   rw[zK e,b];exact h2
  .have e':¬q.1=k:=λz=>e (h1.trans z)
   have b:atKey (q::qs) k=atKey qs k:=by simp[atKey,acN,e']
   rw[x9 e,b];exact ih
theorem KT.CU{aj:List (List Key×V)}{xs:List (List Key×Addr×Value)}(r:KT H aj xs)(k:List Key)(ry:RelV y u):
  KT H (aj.map λkv=>if kv.1=k then(kv.1,y) else kv) (xs.map (putAt k u)):=by
 induction r with
 |nil=>exact .nil
 | @cons p q ps qs h t ih=>
  rw[aaz,aaz];refine .cons ?_ ih;obtain⟨h1,h2,h3⟩:=h;unfold putAt
  by_cases e:p.1=k
  .rw[if_pos e,if_pos (h1.symm.trans e)];exact⟨h1,h2,ry⟩
  .rw[aa7 e,aa7 (λz=>e (h1.trans z))];exact⟨h1,h2,h3⟩
theorem KT.put{H:Hp}{aj:List (List Key×V)}{xs:List (List Key×Addr×Value)}(r:KT H aj xs)(k:List Key){b:Addr}{y:V}{u:Value}(hb:Tk H b (k.map kV))(ry:RelV y u):
  KT H (putK aj k y) (storedH xs k b u):=by
 have e:(aj.any λkv=>decide (kv.1=k))=(atKey xs k).isSome:=by
  rw[Ly,(r.val k).E8,Option.isSome_map]
 unfold putK storedH;rw[e]
 by_cases q:(atKey xs k).isSome=true
 .rw[if_pos q,if_pos q];exact r.CU k ry
 .rw[aa7 q,aa7 q];exact Paired.snoc r ⟨rfl,hb,ry⟩
theorem KT.keeps{aj:List (List Key×V)}{xs:List (List Key×Addr×Value)}(r:KT H aj xs)(ht:∀b (t:j8),H b=some t.ho->H' b=some t.ho):KT H' aj xs:=
 Paired.zc r λ_ _ z=>⟨z.1,let⟨t,e,g⟩:=z.2.1;⟨t,e,ht _ t g⟩,z.2.2⟩
section
variable{P:Program}{w:World}{H:Hp}{h:Heap}{a:Addr}
theorem Mj{u:HO}(ok:cL P w H h)(e:Rd H a u):cF P w H h a u:=e.ok ok
theorem nu{aj:List (Key×V)}(ok:cL P w H h)(e:Rd H a (.dK aj)):aj.length<=sizeLine/\(a==sysModules)=false/\∃vs,KV aj vs/\h.DictOf (cO P w) a vs:=
 show cF P w H h a (.dK aj) from Mj ok e
theorem LF{aj:List (Key×V)}(ok:cL P w H h)(e:H a=some (.dK aj)):aj.length<=sizeLine/\(a==sysModules)=false/\∃vs,KV aj vs/\h.DictOf (cO P w) a vs:=nu ok (.inl e)
theorem vR{ks:List Key}(ok:cL P w H h)(e:Tk H a (ks.map kV)):(tupleKind (cO P w)).is h ks a:=by
 have q:cF P w H h a (.tup (ks.map kV)):=by
  obtain⟨t,e1,e2⟩:=e;cases t with
  |tup xs=>cases e1;exact ok a _ e2
  |Cz o xs=>cases e1;exact(ok a _ e2).2
  |gH _ _=>cases e1
  |iM _=>cases e1
 obtain⟨_,ak,r,o,h1,h2,_,n,h3⟩:=q;exact⟨o,ak.toArray,n,h1,h2,h3,by simpa using NZ r⟩
theorem sU{aj:List (List Key×V)}(ok:cL P w H h)(e:Rd H a (.dT aj)):aj.length<=sizeLine/\(a==sysModules)=false/\
  ∃xs,KT H aj xs/\h.DictOfH (tupleKind (cO P w)) a xs:=by
 obtain⟨z,y,xs,r,o,es,ep,h1,h2,h3,h4,h5⟩:=(show cF P w H h a (.dT aj) from Mj ok e)
 refine⟨z,y,xs,r,o,es,ep,h1,h2,h3,h4,λx hx=>?_,h5⟩;have all:∀{l:List (List Key×V)}{m:List (List Key×Addr×Value)},KT H l m->∀x∈m,(tupleKind (cO P w)).is h x.1 x.2.1:=by
  intro l m q
  induction q with
  |nil=>intro x hx;exact nomatch hx
  | @cons p q ps qs hq t ih=>
   intro x hx;rcases aaG.mp hx with e|hx
   .subst e;exact vR ok (by rw[<- hq.1];exact hq.2.1)
   .exact ih x hx
 exact all r x hx
theorem Tg{aj:List (List Key×V)}(ok:cL P w H h)(e:H a=some (.dT aj)):aj.length<=sizeLine/\(a==sysModules)=false/\
  ∃xs,KT H aj xs/\h.DictOfH (tupleKind (cO P w)) a xs:=sU ok (.inl e)
end
def iT(H:Hp)(a:Addr)(y:V)(r:Option V):Prop:=
 (∃aj k,Rd H a (.dK aj)/\y=kV k/\r=g8 aj k)\/∃aj k b,Rd H a (.dT aj)/\y=.ref b/\Tk H b (k.map kV)/\r=g8 aj k
def vM(H:Hp)(a:Addr)(y v:V)(H':Hp):Prop:=
 (∃aj k,H a=some (.dK aj)/\y=kV k/\aj.length<sizeLine/\H'=upd H a (.dK (putK aj k v)))\/
 ∃aj k b,H a=some (.dT aj)/\y=.ref b/\Tk H b (k.map kV)/\aj.length<sizeLine/\H'=upd H a (.dT (putK aj k v))
theorem iT.k{H:Hp}{a:Addr}{aj:List (Key×V)}{k:Key}(e:H a=some (.dK aj)):iT H a (kV k) (g8 aj k):=.inl ⟨aj,k,.inl e,rfl,rfl⟩
theorem vM.k{H:Hp}{a:Addr}{aj:List (Key×V)}{k:Key}{v:V}(e:H a=some (.dK aj))(hl:aj.length<sizeLine):vM H a (kV k) v (upd H a (.dK (putK aj k v))):=.inl ⟨aj,k,e,rfl,hl,rfl⟩
section
variable{X:Cx}{af:List (Addr×Obj)}{σ:St}{H:Hp}{s:Shared}{a:Addr}{y v:V}{u r:Value}{o:Option V}{A:Around}{E:Value->Shared->Prop}
theorem Inv.big(I:Inv X af σ H s):sysModules<s.heap.objs.size:=by
 have h:=(I.mod.glob.keeps I.bk).lt;exact Nat.lt_trans (by decide) h
theorem aaS(hu:A.units+1<cLine)(I:Inv X af σ H s)(g:iT H a y (some v))(ry:RelV y u)(h:∀w' s',Inv X af σ H s'->RelV v w'->Q w' s'):
  wpAny (model X.prog X.w) A (getItem (.ref a) u) Q E s:=by
 rcases g with⟨aj,k,e,ey,l⟩|⟨aj,k,b,e,ey,eb,l⟩
 .subst ey;obtain⟨z,hd,vs,rel,dd⟩:=nu I.aC e;obtain⟨w',hw,fH⟩:=fX.some_of (by rw[l];exact rel.val k);exact wpAny_getItem_of (r6 ry) dd.mapOf hw (h w' _ (I.tok _) fH)
 .subst ey;cases(show u=Value.ref b from ry);obtain⟨z,hd,xs,rel,dd⟩:=sU I.aC e;obtain⟨w',hw,fH⟩:=fX.some_of (by rw[l];exact rel.val k);obtain⟨p,hp,RM⟩:=acO.mp hw;refine wpAny_getItem_heap (tupleKind_room_in1 hu) (vR I.aC eb) dd hp ?_;rw[RM];exact h w' _ (I.tok _) fH
theorem U3(hu:A.units+1<cLine)(I:Inv X af σ H s)(g:iT H a y o)(ry:RelV y u)(h:∀s',Inv X af σ H s'->Q (.bool o.isSome) s'):
  wpAny (model X.prog X.w) A (compareOp .In u (.ref a)) Q E s:=by
 rcases g with⟨aj,k,e,ey,l⟩|⟨aj,k,b,e,ey,eb,l⟩
 .subst ey;obtain⟨z,hd,vs,rel,dd⟩:=nu I.aC e;refine wpAny_in_of (r6 ry) hd dd.mapOf ?_;rw[<- (rel.val k).E8,<- l];exact h _ (I.tok _)
 .subst ey;cases(show u=Value.ref b from ry);obtain⟨z,hd,xs,rel,dd⟩:=sU I.aC e;refine wpAny_in_heap (tupleKind_room_in1 hu) (vR I.aC eb) hd dd ?_;have q:=(rel.val k).E8;rw[Option.isSome_map] at q;rw[<- q,<- l];exact h _ (I.tok _)
theorem I0{ob:HO}(I:Inv X af σ H s)(mu:tD (H a))(hs:Heap.SameBut a s.heap h')(he:∃q,h'.get? a=some q)(new:cF X.prog X.w (upd H a ob) h' a ob):
  Inv X af σ (upd H a ob) { s with heap:=h',toks:=t' }:=
 I.write mu (.inl rfl) (λb q hb z=>(hs.2 b hb).trans z) he new
theorem Dv{aj:List (Key×V)}(z:aj.length<=sizeLine)(hd:(a==sysModules)=false)(rel:KV aj vs)(dd:h'.DictOf (cO P w) a vs):
  cF P w H' h' a (.dK aj):=⟨z,hd,vs,rel,dd⟩
theorem Xp{H':Hp}{Q:Unit->Shared->Prop}(hu:A.units+1<cLine)(I:Inv X af σ H s)(g:vM H a y v H')(ry:RelV y u)(rv:RelV v r)(h:∀s',Inv X af σ H' s'->Q () s'):
  wpAny (model X.prog X.w) A (setItem (.ref a) u r) Q E s:=by
 rcases g with⟨aj,k,e,ey,l,eH⟩|⟨aj,k,b,e,ey,eb,l,eH⟩
 .subst ey eH;obtain⟨z,hd,vs,rel,dd⟩:=LF I.aC e;have hz:vs.length<=sizeLine:=by rw[<- rel.length];exact z
  have hl:(putK aj k v).length<=sizeLine:=by have:=Fq aj k v;lia
  refine wpAny_setItem_pairs (hsz:=hz) (r6 ry) dd λh' jn hs=>h _ ?_
  have he:∃q,h'.get? a=some q:=let⟨q,_,_,hq,_⟩:=jn;⟨q,hq⟩
  exact I0 I (by rw[e];exact True.intro) hs he (Dv hl hd (rel.put k rv) jn)
 .subst ey eH;cases(show u=Value.ref b from ry);obtain⟨z,hd,xs,rel,dd⟩:=Tg I.aC e;have hz:xs.length<=sizeLine:=by rw[<- Paired.length rel];exact z
  have hl:(putK aj k v).length<=sizeLine:=by have:=Fq aj k v;lia
  refine wpAny_setItem_heap (hsz:=hz) (tupleKind_room_in1 hu) (vR I.aC eb) dd λh' jn hs=>h _ ?_
  obtain⟨q,es,ep,hq,h2,h3,h4,_,h5⟩:=jn;refine I0 I (by rw[e];exact True.intro) hs ⟨q,hq⟩ ⟨hl,hd,_,(rel.put k eb rv).keeps λc ys ec=>?_,q,es,ep,hq,h2,h3,h4,h5⟩;rw[aN (Y3 ec e (by cases ys<;>intro z<;>cases z))];exact ec
end
section
variable{X:Cx}{af:List (Addr×Obj)}{σ:St}{H:Hp}{s:Shared}{a:Addr}{aj:List (Key×V)}{k:Key}{u:Value}{A:Around}{E:Value->Shared->Prop}
theorem T8(I:Inv X af σ H s)(e:Rd H a (.dK aj))(h:∀t s',Inv X af σ H s'->Q (.int aj.length t) s'):wpAny (model X.prog X.w) A (call (.builtin "len") [.ref a]) Q E s:=by
 obtain⟨z,hd,vs,rel,dd⟩:=nu I.aC e;refine call_len_dict hd dd (by rw[<- rel.length];rw[aeh] at z;lia) ?_;rw[<- rel.length];exact h _ _ (I.tok _)
end
def Bu(i:Expr):Prop:=∀ov iv,subscripted i false ov iv=operate [ov,iv] (getItem ov iv)
theorem Q7{env:Env}{T id:String}
  (hl:typeLookup (.type T) "__getitem__"=pure (some (.builtin id))) (hs:Bu slice)
  (h:wpAny (model prog w) A (eval value env) (λo aY=>wpAny (model prog w) A (eval slice env) (λi j_=>j_.TypeIs o T/\wpAny (model prog w) A (getItem o i) Q E j_) E aY) E s) :
  wpAny (model prog w) A (eval (.Subscript value slice pos) env) Q E s:=by
 refine Subscript_ (acC h (λo aY yu=>acC yu (λi j_ A0=>?_) λ_ _ x=>x) λ_ _ x=>x);obtain⟨hT,A0⟩:=A0;unfold subscriptTail;refine aac ?_;rw[getitemInPython_of_ne hT.not_modules];refine aac (ael hT hl ?_);have fin:wpAny (model prog w) A (subscripted slice false o i) (λr x6=>wpAny (model prog w) A (letTemporaryGo value o r >>= λ_=>pure r) Q E x6) E j_:=by
  rw[hs o i];exact wpAny_operating (acC A0 (λr x6 Rm=>aac (wpAny_letTemporaryGo (aaC Rm))) λ_ _ x=>x)
 first
  |exact aaC (aac fin)
  |exact aac (aaC (aac fin))
  |exact aac fin
theorem Zg{o:Option V}(I:Inv X af σ H s)(g:iT H a y o):s.TypeIs (.ref a) "dict":=by
 rcases g with⟨aj,k,e,_,_⟩|⟨aj,k,b,e,_,_,_⟩
 .obtain⟨_,_,vs,_,dd⟩:=nu I.aC e;exact dd.typeIs
 .obtain⟨_,_,xs,_,dd⟩:=sU I.aC e;exact dd.typeIs
def Sj(td ty:TE):TE:=λσ H Q=>td σ H λx H1=>ty σ H1 λy H2=>∃a v,x=.ref a/\iT H2 a y (some v)/\Q v H2
def ZW(ty td:TE):TE:=λσ H Q=>ty σ H λy H1=>td σ H1 λx H2=>∃a o,x=.ref a/\iT H2 a y o/\Q (.bl o.isSome) H2
def VY(td ty tv:TE):TS:=λD σ H=>tv σ H λv H1=>td σ H1 λx H2=>ty σ H2 λy H3=>∃a H4,x=.ref a/\vM H3 a y v H4/\D.nx σ H4
section
variable{X:Cx}{o i e value:Expr}{pos pos' ZZ:Pos}{td ty tv:TE}
theorem Uc(hu:X.A.units+1<cLine)(ho:PE X o td)(hi:PE X i ty)(hs:Bu i):PE X (.Subscript o i pos) (Sj td ty):=by
 intro af s σ H Q I h;refine Q7 PySem.F.slot_dict_getitem.lookup hs (aL (ho af s σ H _ I h) λu s1 ⟨x,H1,I1,rx,q1⟩=>aL (hi af s1 σ H1 _ I1 q1) λiv s2 ⟨y,H2,I2,ry,a,v,ex,g,q2⟩=>?_);subst ex;obtain rfl:u=Value.ref a:=rx;exact⟨Zg I2 g,aaS hu I2 g ry λw' s3 I3 fH=>⟨v,H2,I3,fH,q2⟩⟩
theorem aaU(hu:X.A.units+1<cLine)(hi:PE X i ty)(ho:PE X o td):PC X .In i o (ZW ty td):=by
 intro af s σ H Q I h;refine aL (hi af s σ H _ I h) λiv s1 ⟨y,H1,I1,ry,q1⟩=>aL (ho af s1 σ H1 _ I1 q1) λu s2 ⟨x,H2,I2,rx,a,ov,ex,g,q2⟩=>?_
 subst ex;obtain rfl:u=Value.ref a:=rx;exact U3 hu I2 g ry λs3 I3=>⟨.bl ov.isSome,H2,I3,rfl,q2⟩
theorem WU(hu:X.A.units+1<cLine)(ho:PE X o td)(hi:PE X i ty)(hv:PE X value tv)(hs:swapsWith value (some (.Subscript o i pos')) pos.line X.env=pure false):
  PS X (.Assign [.Subscript o i pos'] value pos) (VY td ty tv):=by
 intro af s σ H D I h;refine wpAny_Assign_Subscript (aL (hv af s σ H _ I h) λr s1 ⟨v,H1,I1,rv,q1⟩=>aL (ho af s1 σ H1 _ I1 q1) λu s2 ⟨x,H2,I2,rx,q2⟩=>aL (hi af s2 σ H2 _ I2 q2) λiv s3 ⟨y,H3,I3,ry,a,H4,ex,g,q3⟩=>?_) hs;subst ex;obtain rfl:u=Value.ref a:=rx;exact Xp hu I3 g ry rv λs4 I4=>⟨σ,H4,I4,q3⟩
end
theorem Zv(h:Heap)(hb:sysModules<h.objs.size):cF P w H (h.push { cls:=.type "dict",data:=.dict #[] }) h.objs.size (.dK []):=
 ⟨acD _,acM.mpr (adx (ab6 hb)),[],.nil,Heap.DictOf.new h⟩
def XC:TE:=λ_ H Q=>∀p,H p=none->Q (.ref p) (upd H p (.dK []))
section
variable{X:Cx}{pos:Pos}
theorem Ye:PE X (.Dict [] [] pos) XC:=λaf s σ H Q I h=>
 wpAny_Dict_empty ⟨.ref s.heap.objs.size,_,I.laid (λ_ _ q=>aad _ q) (aa2 _) (Zv s.heap I.big),rfl,h _ (I.aC.fresh (aa2 _))⟩
end
structure M2(X:Cx)(o:Expr)(m:Str)(apos:Pos)(e f:Expr)(cpos:Pos):Prop where
 base:attributeBase o m X.env (eval o X.env)=eval o X.env
 few:((backTo cpos (starEach [e,f] X.env)).all (λx=>!x.1)&&(backToKw cpos (keywordEach [] X.env)).all (λx=>x.1.isSome)
  && decide (([e,f]:List Expr).length+([]:List Keyword).length+(if([]:List Keyword).isEmpty then 0 else 1)<30))=true
 line:(apos.endLine==cpos.line)=true
 trees:backTo cpos (starEach [e,f] X.env)=[(false,eval e X.env),(false,eval f X.env)]
def Mt(H:Hp)(a:Addr):Prop:=(∃aj,Rd H a (.dK aj))\/∃aj,Rd H a (.dT aj)
theorem abN(I:Inv X af σ H s)(d:Mt H a):
  s.TypeIs (.ref a) "dict"/\(∀b,Value.ref a=.ref b->∃ob,s.heap.get? b=some ob/\ob.dict=none)/\(a==sysModules)=false:=by
 rcases d with⟨aj,e⟩|⟨aj,e⟩
 .obtain⟨_,hd,vs,_,dd⟩:=nu I.aC e;refine⟨dd.typeIs,λb q=>?_,hd⟩;cases q;obtain⟨ob,_,_,h1,h2,_⟩:=dd;exact⟨ob,h1,h2.2.1⟩
 .obtain⟨_,hd,xs,_,dd⟩:=sU I.aC e;refine⟨dd.typeIs,λb q=>?_,hd⟩;cases q;obtain⟨ob,_,_,h1,h2,_⟩:=dd;exact⟨ob,h1,h2.2.1⟩
section
variable{X:Cx}{af:List (Addr×Obj)}{σ:St}{H:Hp}{s:Shared}{a:Addr}{y d:V}{u r:Value}{o:Option V}{A:Around}{E:Value->Shared->Prop}
theorem XD(hu:A.units+1<cLine)(I:Inv X af σ H s)(g:iT H a y o)(ry:RelV y u)(rd:RelV d r)(h:∀w' s',Inv X af σ H s'->RelV (o.getD d) w'->Q w' s'):
  wpAny (model X.prog X.w) A (call (.builtin "dict.get") [.ref a,u,r]) Q E s:=by
 rcases g with⟨aj,k,e,ey,l⟩|⟨aj,k,b,e,ey,eb,l⟩
 .subst ey;obtain⟨z,hd,vs,rel,dd⟩:=nu I.aC e;refine call_meetsIn PySem.F.slot_dict_get dd.typeIs PySem.F.entry_dict_get (PySem.F.args_dict_get_3 _ _ _) (meets_dict_get_default (cO X.prog X.w) a (r6 ry) hd r) ⟨_,dd.mapOf,h _ _ (I.tok _) ?_⟩;rw[l];exact(rel.val k).getD rd
 .subst ey;cases(show u=Value.ref b from ry);obtain⟨z,hd,xs,rel,dd⟩:=sU I.aC e;refine call_meetsIn PySem.F.slot_dict_get dd.typeIs PySem.F.entry_dict_get (PySem.F.args_dict_get_3 _ _ _) (meetsH_dict_get_default (tupleKind (cO X.prog X.w)) a b hd r) ⟨tupleKind_room_in1 hu,k,xs,vR I.aC eb,dd,h _ _ (I.tok _) ?_⟩;rw[l];exact(rel.val k).getD rd
end
def OL(td ty tx:TE):TE:=λσ H Q=>td σ H λx H1=>∃a,x=.ref a/\Mt H1 a/\ty σ H1 λy H2=>tx σ H2 λz H3=>∃o,iT H3 a y o/\Q (o.getD z) H3
section
variable{X:Cx}{o e f:Expr}{apos cpos:Pos}{td ty tx:TE}
theorem Pk(hu:X.A.units+1<cLine)(ho:PE X o td)(he:PE X e ty)(hf:PE X f tx)(m:M2 X o "get" apos e f cpos):PE X (.Call (.Attribute o "get" apos) [e,f] [] cpos) (OL td ty tx):=by
 intro af s σ H Q I h;refine wpAny_Call_method m.base m.few m.line PySem.F.plainAttrs_dict PySem.F.slot_dict_get PySem.F.type_dict_get (aL (ho af s σ H _ I h) λu s1 ⟨x,H1,I1,rx,a,ex,d,q1⟩=>?_);subst ex;obtain rfl:u=Value.ref a:=rx;obtain⟨t1,t2,_⟩:=abN I1 d;refine⟨t1,t2,?_⟩;rw[m.trees];refine aed rfl (Calls.evalArgs_plain (adW (aL (he af s1 σ H1 _ I1 q1) λiv s2 ⟨y,H2,I2,ry,q2⟩=>
  adW (aL (hf af s2 σ H2 _ I2 q2) λfv s3 ⟨z,H3,I3,rz,ov,g,q3⟩=>aer ?_))))
 exact XD hu I3 g ry rz λw' s4 I4 fH=>⟨_,H3,I4,fH,q3⟩
end
section
variable{X:Cx}{af:List (Addr×Obj)}{σ:St}{H:Hp}{s:Shared}{a:Addr}{aj:List (Key×V)}{A:Around}{E:Value->Shared->Prop}
theorem YJ(I:Inv X af σ H s)(e:Rd H a (.dK aj))(h:∀p s',H p=none->Inv X af σ (upd H p (.dK aj)) s'->Q (.ref p) s'):wpAny (model X.prog X.w) A (call (.type "dict") [.ref a]) Q E s:=by
 obtain⟨z,hd,vs,rel,dd⟩:=nu I.aC e;refine kt_call_dict hd dd (by rw[<- rel.length];exact z) λh' jn hs=>?_
 refine h _ _ (I.aC.fresh (aa2 _)) (I.laid (λb q hq=>?_) (aa2 _) (Dv z (acM.mpr (adx (ab6 I.big))) rel jn));exact(hs.2 b (ab6 (aba hq))).trans (aad _ hq)
end
end L2
namespace Gk
open PySem PySem.W PySem.Calls PyProof.Rows
theorem TR:∀(ns:List Int) (vs:List Value),WellAll P h vs (ns.map WData.int)->IntsAre vs ns:=by
 intro ns
 induction ns with
 |nil=>
  intro vs w;rw[List.map_nil] at w;cases w;exact .nil
 |cons n ns ih=>
  intro vs w;rw[aaz] at w;cases w with
  |cons a b=>
   cases a;exact .cons _ _ (ih _ b)
theorem aaO{l:OpenLaw}(hn:l.most=some n){args:List WData}
  (yy:l.row.toRowW.claim.pre args=true) (jk:WellAll P h vals args) :
  ∃a vs ns,vals=[Value.ref a]/\args=[WData.list (ns.map WData.int)]/\h.get? a=some { cls:=.type "list",data:=.seq vs.toArray }/\IntsAre vs ns/\ns.length<=n:=by
 have Wp:=(pre_splitW yy).1;have hc:l.pre.holds [] { args:=args }=true:=(pre_splitW yy).2;obtain⟨d,r,rfl,h1,h2⟩:=hasAllW_cons Wp;obtain rfl:=hasAllW_nil h2;obtain⟨xs,rfl,h3⟩:=hasW_list h1;obtain⟨ns,rfl⟩:=items_int h3;have hlen:ns.length<=n:=by
  unfold OpenLaw.pre at hc;have h4:(WTm.not (.lt (.lit (.int (n:Int))) (.len (.arg 0)))).holds [] { args:=[.list (ns.map .int)] }=true:=by
   have h4:=(holds_andW hc).1;rw[hn] at h4;exact h4
  have h5:=condW_of h4 (w_not (w_lt w_lit (w_len_list (w_arg rfl))));rw[List.length_map] at h5;refine Nat.le_of_not_lt λq=>?_
  have q':(n:Int)<((ns.length:Nat):Int):=by omega
  first
   |(rw[abU q'] at h5;exact absurd h5 (by decide))
   |(simp at h5;omega)
 cases jk with
 |cons w1 w2=>
  cases w2;cases w1 with
  |list ho QE=>exact⟨_,_,ns,rfl,rfl,ho,TR ns _ QE,hlen⟩
theorem S3(l:OpenLaw)(args:List WData):l.row.toRowW.claim.post args (.bool true) args=true:=
 postW_of (r:=l.row.toRowW) (X:=(true==true))
  (show WShape.has [] (.bool true) .bool=true by first|rfl|decide|simp[WShape.has,WShape.arms,WShape.armsAll])
  (show(WTm.eq .res (.lit (.bool true))).value [] { args:=args,res:=some (.bool true),after:=args }=some (.bool (true==true)) from w_eq_bool (w_res rfl) w_lit) rfl
theorem Wu{l:OpenLaw}{XP:(Str->Option Value)->Heap->Prop}{YP:World->Heap->Prop}
  (hn:l.most=some n) (vt:d.params.defaults=[])
  (call:∀(w:World) (cY aY:Shared) (mg mb:Str->Option Value) (fa:Addr) (o:Obj) (pm cd doc:Value) (a:Addr) (vs:List Value) (ns:List Int),
   Ground q loose [] XP w cY mg mb aY.heap->YP w aY.heap->
   aY.heap.get? fa=some o->o.data=.func (docDef d.name d.params d.body d.scope pm cd doc)->aY.heap.CodeRec cd d.name->mg d.name=some (.ref fa)->
   aY.heap.get? a=some { cls:=.type "list",data:=.seq vs.toArray }->IntsAre vs ns->ns.length<=n->aY.gens=#[]->
   codeAny (model l.prog w) callerA (.call (.ref fa) ⟨[.ref a],[]⟩) (λr s'=>r=.ok (.ret (.bool true))/\OldK aY.heap s'.heap/\s'.os=aY.os/\AllBare s'.gens) aY) :
  WalkO q loose XP YP l.row.toRowW d [] (λf vs=>PySem.call f vs):=by
 intro w cY aY mg mb G Y fa o pm cd doc dV kV ho hd nq hD ua hg args vals as yy acL hrd jk uM;obtain rfl:dV=.none:=Dflts.none hD vt;obtain rfl:kV=.none:=Dflts.noKw hD;obtain⟨a,vs,ns,rfl,rfl,AX,hints,hlen⟩:=aaO hn yy jk;refine enter_call (aei (call w cY aY mg mb fa o pm cd doc a vs ns G Y ho (fd_plain hd) nq ua AX hints hlen hg) λr s' hq=>?_);obtain⟨rfl,h2,h3,h4⟩:=hq;exact⟨.inl ⟨.bool true,.bool true,[],rfl,λ_=>rfl,.bool true,S3 l _,λ_=>⟨List.Pairwise.nil,λ_ hm=>(nomatch hm)⟩⟩,h2,h3,h4⟩
end Gk
namespace L2
open PySem PySem.Spec PyProof.Rows
theorem Ad:∀{vs:List Value}{ns:List Int},IntsAre vs ns->aK (ns.map V.int) vs
 |_,_,.nil=>.nil
 |_,_,.cons n t h=>.cons ⟨t,rfl⟩ (Ad h)
noncomputable abbrev cJ:iX:=λ_ _ _ _ _ _=>False
noncomputable abbrev E0:XK:=λ_ _ _=>False
theorem nY{X:Cx}:Passes cJ X E0:=λ_ _ _ _ _ _ _ h=>h.elim
structure gQ(K:PySem.W.Frag)(x qual:Str)(st:Stmt)(f:Addr)(fd:FuncData):Prop where
 ex:∃(oc:Value) (od:Option Addr) (kV doc pm:Value) (an:Option Addr) (aV ct:Value) (mC:Array (Option Value)),
  fd=PySem.W.fnOf x qual (jS st) (f7 st) (cC st) .none kV doc pm an aV ct/\K.lookup f=some ⟨oc,od,.func fd,mC⟩/\PySem.W.codeIn K aV qual=true
 kp:PySem.W.keepIn K (.ref f)=true
section
variable{P:Program}{w:World}{K:PySem.W.Frag}{mg:Str->Option Value}{base:Heap}
theorem gQ.ok{x qual:Str}{st:Stmt}{f:Addr}{fd:FuncData}{N ps:List Str}{k:Nat}{sp:Sp}{cm:Bool}(F:gQ K x qual st f fd)(S:m9 N ps (cC st))(len:∀vs H Q E,sp vs H Q E->vs.length=ps.length)
  (DP:∀(aV:{c:Value // c=fd.code}) (A:Around) (outer:List Env) (s:Shared) (H:Hp) (vs:List V) (Q:VK) (E:XK),bh k (A.deeper (envOfC qual (cC st) s.heap.objs.size f aV)) cm->sp vs H Q E->
   ∃t,fu (iO cJ P w K mg base N qual (cC st) f aV A outer s H E cm).d8 (f7 st) t/\t { nx:=λ_ H'=>Q .aH H',rt:=Q } (start N vs) H):bT P w K mg base cJ (k+1) f fd ps sp cm:=by
 obtain⟨oc,od,kV,doc,pm,an,aV,ct,mC,rfl,lk,nq⟩:=F.ex;refine Yz lk nq S len λA outer s H vs Q E hr ny=>?_
 obtain⟨t,h,q⟩:=DP ⟨aV,rfl⟩ A outer s H vs Q E hr ny;exact⟨t,h.d8,q⟩
theorem gQ.binds{x qual:Str}{st:Stmt}(F:gQ K x qual st f fd)
  (h:∀(kV doc pm:Value) (an:Option Addr) (aV ct:Value) (us:List Value),us.length=ps.length->bindArgs (PySem.W.fnOf x qual (jS st) (f7 st) (cC st) .none kV doc pm an aV ct) ⟨us,[]⟩=pure (ps.zip us)):Binds K fd ps []:=by
 obtain⟨oc,od,kV,doc,pm,an,aV,ct,mC,rfl,lk,nq⟩:=F.ex;exact .all (h kV doc pm an aV ct)
theorem NU{st:Stmt}{od an:Option Addr}{mC:Array (Option Value)}{kV doc pm aV ct:Value}(l:K.lookup f=some ⟨oc,od,.func (PySem.W.fnOf x qual (jS st) (f7 st) (cC st) .none kV doc pm an aV ct),mC⟩)
  (c:PySem.W.codeIn K aV qual=true) (k:PySem.W.keepIn K (.ref f)=true):gQ K x qual st f (PySem.W.fnOf x qual (jS st) (f7 st) (cC st) .none kV doc pm an aV ct):=⟨⟨oc,od,kV,doc,pm,an,aV,ct,mC,rfl,l,c⟩,k⟩
end
theorem jD{A:Around}{k:Nat}{cm:Bool}(hr:bh k A cm):A.units+1<cLine:=aef (Nat.add_le_add_left (by decide:1<=64) _) hr.units
theorem vJ(h:n<=1000):n<sizeLine:=aef h (by decide)
theorem Pu{A B:Prop}(h:B):if false=true then A else B:=by
 rw[aa7 abI];exact h
theorem Wa{A B:Prop}(h:A):if true=true then A else B:=by
 rw[if_pos rfl];exact h
def aG(H H':Hp):Prop:=∀b o,H b=some o->H' b=some o
theorem aG.refl(H:Hp):aG H H:=λ_ _ h=>h
theorem aG.trans{H H1 H2:Hp}(a:aG H H1)(b:aG H1 H2):aG H H2:=λc o h=>b c o (a c o h)
theorem aG.free{H H':Hp}(e:aG H H'){l:Addr}(h:H' l=Option.none):H l=Option.none:=by
 cases q:H l with
 |none=>rfl
 |some o=>
  rw[e l o q] at h;cases h
section
variable{X:Cx}
theorem abd:eF X (.builtin "len") (λxs H Q=>∃a aj,xs=[V.ref a]/\H a=some (.dK aj)/\Q (.int aj.length) H):=by
 intro af s σ H xs us Q I r h;obtain⟨a,aj,rfl,ha,q⟩:=h;obtain⟨u,rfl,ru⟩:=vals1 r;cases ru;exact T8 I (.inl ha) λt s' I'=>⟨.int aj.length,H,I',⟨t,rfl⟩,q⟩
end
end L2
namespace L2.Hy
open PySem PyProof.Rows
def eG(xs:Array Keyed)(lo hi:Nat):Prop:=∀i j,lo<=i->i<=j->j<hi->K xs i<=K xs j
def qW(xs:Array Keyed)(lo hi:Nat):Prop:=∀i j,lo<=i->i<=j->j<hi->K xs j<=K xs i
def dY(xs ys:Array Keyed)(lo hi:Nat):Prop:=∀k,(k<lo\/hi<=k)->K ys k=K xs k
theorem dY.refl(xs:Array Keyed)(lo hi:Nat):dY xs xs lo hi:=λ_ _=>rfl
theorem dY.trans{xs ys zs:Array Keyed}{lo hi:Nat}(a:dY xs ys lo hi)(b:dY ys zs lo hi):dY xs zs lo hi:=λk h=>(b k h).trans (a k h)
theorem dY.wide{xs ys:Array Keyed}{lo hi HS jq:Nat}(a:dY xs ys lo hi)(h1:HS<=lo)(h2:hi<=jq):dY xs ys HS jq:=λk h=>a k (by lia)
structure SB(a₀:Array Keyed)(p:Array (Nat×Nat×Nat))(st:SortSt):Prop where
 perm:(arrOf st).Perm a₀
 kind:kindOf st=oneType'
 failed:failedOf st=none
 pend:pendingOf st=p
section
variable{a₀:Array Keyed}{p:Array (Nat×Nat×Nat)}{st:SortSt}
theorem SB.size(h:SB a₀ p st):(arrOf st).size=a₀.size:=h.perm.size_eq
theorem SB.setArr(h:SB a₀ p st){xs:Array Keyed}(q:xs.Perm (arrOf st)):SB a₀ p (PyProof.Rows.setArr st xs):=⟨q.trans h.perm,h.kind,h.failed,h.pend⟩
theorem SB.bare(h:SB a₀ p st):SBase a₀ (setPending st #[]):=⟨h.perm,h.kind,h.failed,rfl⟩
variable{prog:Program}{w:World}{A:Around}{E:Value->Shared->Prop}{s:Shared}
theorem vW{Q:Option Bool->SortSt->Prop}(hB:SB a₀ p st)(h0:IntKeys a₀)(hi:i<a₀.size)(hj:j<a₀.size)(h:Q (some (decide (K (arrOf st) i<K (arrOf st) j))) st):
  wpS (model prog w) A E s (ltAt' i j) Q st:=by
 obtain⟨t,q,e1⟩:=hB.bare.at h0 hi;obtain⟨u,r,e2⟩:=hB.bare.at h0 hj;exact wpS_ltAt hB.kind e1 e2 h
noncomputable abbrev CA:=Option (Option Nat)×Nat
def asc(lo a bg:Nat):StateT SortSt Sem CA:=forIn [a:bg] ((none,a):CA) λ_ c=>do
 let b <- ltAt' (lo+c.snd) (lo+c.snd-1)
 match b with
 |some sm=>if sm=true then pure (.done (none,c.snd)) else pure (.yield (none,c.snd+1))
 |_=>pure (.done (some none,c.snd))
theorem Nn{lo a bg:Nat}{Q:CA->SortSt->Prop}(h0:IntKeys a₀)(hB:SB a₀ p st)(hn:lo+bg<=a₀.size)(h1:1<=a)(h2:a<=bg)(hs:eG (arrOf st) lo (lo+a))
  (h:∀n,a<=n->n<=bg->eG (arrOf st) lo (lo+n)->(n=bg\/K (arrOf st) (lo+n)<K (arrOf st) (lo+n-1))->Q (none,n) st):wpS (model prog w) A E s (asc lo a bg) Q st:=by
 unfold asc;refine adh (I:=λx c ao=>ao=st/\c=(none,x)/\eG (arrOf st) lo (lo+x)) ?step ?fin ⟨rfl,rfl,hs⟩
 case fin=>
  rintro c ao ⟨rfl,rfl,bu⟩
  have e:max a bg=bg:=by lia
  rw[e] at bu ⊢;exact h bg h2 (aa2 _) bu (.inl rfl)
 case step=>
  rintro x c ao g1 g2 ⟨rfl,rfl,bu⟩
  dsimp only;refine ab9 (vW hB h0 (by lia) (by lia) ?_)
  by_cases g:K (arrOf ao) (lo+x)<K (arrOf ao) (lo+x-1)
  .simp only[g,decide_true,aeS];exact ach (h x g1 (by lia) bu (.inr g))
  .simp only[g,decide_false,acG,ad7];refine ach ⟨rfl,rfl,λi j q1 q2 q3=>?_⟩
   by_cases q4:j<lo+x
   .exact bu i j q1 q2 q4
   .have q5:j=lo+x:=by lia
    subst q5
    by_cases q6:i=lo+x
    .rw[q6];exact adL _
    .exact acT (bu i (lo+x-1) q1 (by lia) (by lia)) (Int.not_lt.mp g)
theorem Aj{Q:Unit->SortSt->Prop}(h:Q () (PyProof.Rows.setArr st (mirror (arrOf st) i j ((j-i) / 2)))):wpS (model prog w) A E s (reverseSlice' i j) Q st:=by
 rw[reverseSlice'_eq];exact wpS_modify h
theorem y_{xs:Array Keyed}{i j lo hi:Nat}(hj:j<=xs.size)(h1:lo<=i)(h2:j<=hi):dY xs (mirror xs i j ((j-i) / 2)) lo hi:=λk h=>by
 rw[K_mirror hj,aa7 (by lia)]
def turned(lo n bg:Nat):StateT SortSt Sem (Option Nat):=do
 reverseSlice' lo (lo+n)
 let c <- asc lo n bg
 match c.fst with
 |some r=>pure r
 |none=>pure (some c.snd)
theorem KY{lo n bg:Nat}{Q:Option Nat->SortSt->Prop}(h0:IntKeys a₀)(hB:SB a₀ p st)(hn:lo+bg<=a₀.size)(h1:1<=n)(h2:n<=bg)(hs:qW (arrOf st) lo (lo+n))
  (h:∀m ao,SB a₀ p ao->1<=m->m<=bg->eG (arrOf ao) lo (lo+m)->dY (arrOf st) (arrOf ao) lo (lo+bg)->Q (some m) ao):wpS (model prog w) A E s (turned lo n bg) Q st:=by
 unfold turned;have sz:lo+n<=(arrOf st).size:=by rw[hB.size];omega
 refine ab9 (Aj ?_);have e_:=hB.setArr (mirror_perm (arrOf st) lo (lo+n) ((lo+n-lo) / 2));refine ab9 (Nn h0 e_ hn h1 h2 ?_ λm g1 g2 g3 _=>ach (h m _ e_ (by omega) g2 g3 (y_ sz (aa2 _) (by omega))));intro i j q1 q2 q3;rw[K_mirror sz,K_mirror sz,if_pos (by omega),if_pos (by omega)];exact hs _ _ (by omega) (by omega) (by omega)
noncomputable abbrev CD:=Option (Option Nat)×Nat×Nat
def desc(lo n bg:Nat):StateT SortSt Sem CD:=forIn [n:bg] ((none,n,0):CD) λ_ c=>do
 let b <- ltAt' (lo+c.snd.fst) (lo+c.snd.fst-1)
 match b with
 |some sm=>
  if sm=true then
   if c.snd.snd > 0 then do
    reverseSlice' (lo+c.snd.fst-(c.snd.snd+1)) (lo+c.snd.fst)
    pure (.yield (none,c.snd.fst+1,0))
   else pure (.yield (none,c.snd.fst+1,0))
  else do
   let b <- ltAt' (lo+c.snd.fst-1) (lo+c.snd.fst)
   match b with
   |some lg=>if lg=true then pure (.done (none,c.snd.fst,c.snd.snd)) else pure (.yield (none,c.snd.fst+1,c.snd.snd+1))
   |_=>pure (.done (some none,c.snd.fst,c.snd.snd))
 |_=>pure (.done (some none,c.snd.fst,c.snd.snd))
def Alike(xs:Array Keyed)(hi q:Nat):Prop:=∀i,hi-(q+1)<=i->i<hi->K xs i=K xs (hi-1)
theorem DH{xs:Array Keyed}(sz:hi<=xs.size)(he:Alike xs hi q)(k:Nat):K (mirror xs (hi-(q+1)) hi ((hi-(hi-(q+1))) / 2)) k=K xs k:=by
 rw[K_mirror sz]
 split
 .rw[he _ (by omega) (by omega),he k (by omega) (by omega)]
 .rfl
theorem YU{lo n bg:Nat}{Q:CD->SortSt->Prop}(h0:IntKeys a₀)(hB:SB a₀ p st)(hn:lo+bg<=a₀.size)(h1:1<=n)(h2:n<=bg)(hs:qW (arrOf st) lo (lo+n))
  (h:∀m q ao,SB a₀ p ao->n<=m->m<=bg->qW (arrOf ao) lo (lo+m)->q+1<=m->Alike (arrOf ao) (lo+m) q->dY (arrOf st) (arrOf ao) lo (lo+bg)->Q (none,m,q) ao) :
  wpS (model prog w) A E s (desc lo n bg) Q st:=by
 unfold desc;refine adh (I:=λx c ao=>∃q,c=(none,x,q)/\SB a₀ p ao/\qW (arrOf ao) lo (lo+x)/\q+1<=x/\Alike (arrOf ao) (lo+x) q/\dY (arrOf st) (arrOf ao) lo (lo+bg)) ?step ?fin
  ⟨0,rfl,hB,hs,by lia,λi g1 g2=>by congr 1;lia,.refl _ _ _⟩
 case fin=>
  rintro c ao ⟨q,rfl,e_,g1,g2,g3,g4⟩
  have e:max n bg=bg:=by lia
  rw[e] at g1 g2 g3 ⊢;exact h bg q ao e_ h2 (aa2 _) g1 g2 g3 g4
 case step=>
  rintro x c ao k1 k2 ⟨q,rfl,e_,g1,g2,g3,g4⟩
  dsimp only;have sz:lo+x<=(arrOf ao).size:=by rw[e_.size];lia
  refine ab9 (vW e_ h0 (by lia) (by lia) ?_)
  by_cases g:K (arrOf ao) (lo+x)<K (arrOf ao) (lo+x-1)
  .simp only[g,decide_true,aeS];have one:∀ys:Array Keyed,(∀k,K ys k=K (arrOf ao) k)->qW ys lo (lo+(x+1)):=by
    intro ys hk i j q1 q2 q3;rw[hk,hk]
    by_cases q4:j<lo+x
    .exact g1 i j q1 q2 q4
    .have q5:j=lo+x:=by lia
     subst q5
     by_cases q6:i=lo+x
     .rw[q6];exact adL _
     .exact acT (adE g) (g1 i (lo+x-1) q1 (by lia) (by lia))
   by_cases hq:q > 0
   .rw[if_pos hq];refine ab9 (Aj (ach ⟨0,rfl,e_.setArr (mirror_perm _ _ _ _),one _ (DH sz g3),by lia,λi w1 w2=>by congr 1;lia,?_⟩));exact g4.trans (y_ sz (by lia) (by lia))
   .rw[aa7 hq];exact ach ⟨0,rfl,e_,one _ (λ_=>rfl),by lia,λi w1 w2=>by congr 1;lia,g4⟩
  .simp only[g,decide_false,acG,ad7];refine ab9 (vW e_ h0 (by lia) (by lia) ?_)
   by_cases g':K (arrOf ao) (lo+x-1)<K (arrOf ao) (lo+x)
   .simp only[g',decide_true,aeS];exact ach (h x q ao e_ k1 (by lia) g1 g2 g3 g4)
   .simp only[g',decide_false,acG,ad7];have e:K (arrOf ao) (lo+x)=K (arrOf ao) (lo+x-1):=by lia
    refine ach ⟨q+1,rfl,e_,λi j q1 q2 q3=>?_,by lia,λi w1 w2=>?_,g4⟩
    .by_cases q4:j<lo+x
     .exact g1 i j q1 q2 q4
     .have q5:j=lo+x:=by lia
      subst q5
      by_cases q6:i=lo+x
      .rw[q6];exact adL _
      .rw[e];exact g1 i (lo+x-1) q1 (by lia) (by lia)
    .rw[show lo+(x+1)-1=lo+x by lia]
     by_cases q6:i=lo+x
     .rw[q6]
     .rw[e];exact g3 i (by lia) (by lia)
def vn(lo n bg:Nat):StateT SortSt Sem (Option Nat):=do
 liftM (rule "list.sort.descending-run")
 let c <- desc lo (n+1) bg
 match c.fst with
 |some r=>pure r
 |none=>
  if c.snd.snd > 0 then do
   reverseSlice' (lo+c.snd.fst-(c.snd.snd+1)) (lo+c.snd.fst)
   turned lo c.snd.fst bg
  else turned lo c.snd.fst bg
theorem Jk{lo n bg:Nat}{Q:Option Nat->SortSt->Prop}(h0:IntKeys a₀)(hB:SB a₀ p st)(hn:lo+bg<=a₀.size)(h2:n+1<=bg)(hs:qW (arrOf st) lo (lo+(n+1)))
  (h:∀m ao,SB a₀ p ao->1<=m->m<=bg->eG (arrOf ao) lo (lo+m)->dY (arrOf st) (arrOf ao) lo (lo+bg)->Q (some m) ao):wpS (model prog w) A E s (vn lo n bg) Q st:=by
 unfold vn;refine ab9 (wpS_lift (ady ⟨rfl,?_⟩));refine ab9 (YU h0 hB hn (by lia) h2 hs λm q ao e_ g1 g2 g3 g4 g5 g6=>?_);dsimp only;have sz:lo+m<=(arrOf ao).size:=by rw[e_.size];lia
 by_cases hq:q > 0
 .rw[if_pos hq];refine ab9 (Aj (KY h0 (e_.setArr (mirror_perm _ _ _ _)) hn (by lia) g2 ?_ λm' aP b1 b2 b3 b4 b5=>h m' aP b1 b2 b3 b4 ((g6.trans (y_ sz (by lia) (by lia))).trans b5)));intro i j q1 q2 q3;rw[DH sz g5,DH sz g5];exact g3 i j q1 q2 q3
 .rw[aa7 hq];exact KY h0 e_ hn (by lia) g2 g3 λm' aP b1 b2 b3 b4 b5=>h m' aP b1 b2 b3 b4 (g6.trans b5)
theorem Qh(lo bg:Nat):countRun' lo bg=(do
  let c <- asc lo 1 bg
  match c.fst with
  |some r=>pure r
  |none=>
   if(c.snd==bg)=true then pure (some c.snd)
   else if c.snd > 1 then do
    let b <- ltAt' lo (lo+c.snd-1)
    match b with
    |some up=>if up=true then pure (some c.snd) else do
      reverseSlice' lo (lo+c.snd)
      vn lo c.snd bg
    |_=>pure none
   else vn lo c.snd bg):=by
 rw[countRun'_eq];simp only[Nat.add_zero];unfold vn turned desc asc
 congr 1
 funext c
 obtain⟨r,n⟩:=c;cases r with
 |some r=>rfl
 |none=>
  dsimp only
  split
  .rfl
  .split
   .congr 1
    funext x
    cases x with
    |none=>rfl
    |some up=>
     dsimp only
     split
     .rfl
     .congr 1
      funext _r
      congr 1
      funext _u
      congr 1
      congr 1
      funext c2
      obtain⟨r2,n2,q2⟩:=c2;cases r2 with
      |some r2=>rfl
      |none=>
       dsimp only
       split
       .congr 1
        funext _v
        congr 1
        funext _w
        congr 1
        funext c3
        obtain⟨r3,n3⟩:=c3;cases r3<;>rfl
       .congr 1
        funext _w
        congr 1
        funext c3
        obtain⟨r3,n3⟩:=c3;cases r3<;>rfl
   .skip
    congr 1
    funext _u
    congr 1
    congr 1
    funext c2
    obtain⟨r2,n2,q2⟩:=c2;cases r2 with
    |some r2=>rfl
    |none=>
     dsimp only
     split
     .congr 1
      funext _v
      congr 1
      funext _w
      congr 1
      funext c3
      obtain⟨r3,n3⟩:=c3;cases r3<;>rfl
     .congr 1
      funext _w
      congr 1
      funext c3
      obtain⟨r3,n3⟩:=c3;cases r3<;>rfl
theorem Yb{lo bg:Nat}{Q:Option Nat->SortSt->Prop}(h0:IntKeys a₀)(hB:SB a₀ p st)(hn:lo+bg<=a₀.size)(h1:1<=bg)
  (h:∀m ao,SB a₀ p ao->1<=m->m<=bg->eG (arrOf ao) lo (lo+m)->dY (arrOf st) (arrOf ao) lo (lo+bg)->Q (some m) ao):wpS (model prog w) A E s (countRun' lo bg) Q st:=by
 rw[Qh];refine ab9 (Nn h0 hB hn (aa2 1) h1 (λi j q1 q2 q3=>by rw[show i=j by lia];exact adL _) λn g1 g2 g3 g4=>?_);dsimp only
 by_cases e:n=bg
 .rw[if_pos (by simpa using e)];exact ach (h n st hB g1 g2 g3 (.refl _ _ _))
 .rw[aa7 (by simpa using e)];have lt:=g4.resolve_left e
  by_cases gt:n > 1
  .rw[if_pos gt];refine ab9 (vW hB h0 (by lia) (by lia) ?_)
   by_cases up:K (arrOf st) lo<K (arrOf st) (lo+n-1)
   .simp only[up,decide_true,aeS];exact ach (h n st hB g1 g2 g3 (.refl _ _ _))
   .simp only[up,decide_false,acG,ad7];have sz:lo+n<=(arrOf st).size:=by rw[hB.size];lia
    have all:∀k,lo<=k->k<lo+n->K (arrOf st) k=K (arrOf st) (lo+n-1):=by
     intro k q1 q2;have a1:=g3 lo k (aa2 _) q1 q2;have a2:=g3 k (lo+n-1) q1 (by lia) (by lia)
     lia
    have km:∀k,K (mirror (arrOf st) lo (lo+n) ((lo+n-lo) / 2)) k=K (arrOf st) k:=by
     intro k;rw[K_mirror sz]
     split
     .rw[all _ (by lia) (by lia),all k (by lia) (by lia)]
     .rfl
    refine ab9 (Aj (Jk h0 (hB.setArr (mirror_perm _ _ _ _)) hn (by lia) ?_ λm' aP b1 b2 b3 b4 b5=>h m' aP b1 b2 b3 b4 ((y_ sz (by lia) (by lia)).trans b5)));intro i j q1 q2 q3;rw[km,km]
    by_cases q4:j<lo+n
    .rw[all i (by lia) (by lia),all j (by lia) q4];exact adL _
    .have q5:j=lo+n:=by lia
     subst q5
     by_cases q6:i=lo+n
     .rw[q6];exact adL _
     .rw[all i (by lia) (by lia)];exact adE lt
  .rw[aa7 gt];have e1:n=1:=by lia
   subst e1;refine Jk h0 hB hn (by lia) ?_ h;intro i j q1 q2 q3
   by_cases q6:i=j
   .rw[q6];exact adL _
   .have i0:i=lo:=by lia
    have j1:j=lo+1:=by lia
    subst i0 j1;exact adE lt
end
section
variable{a₀:Array Keyed}{p:Array (Nat×Nat×Nat)}{st:SortSt}{prog:Program}{w:World}{A:Around}{E:Value->Shared->Prop}{s:Shared}
theorem Vb{lo n ok:Nat}{Q:Bool->SortSt->Prop}(h0:IntKeys a₀)(hB:SB a₀ p st)(hn:lo+n<=a₀.size)(aC:ok<=n)(hs:eG (arrOf st) lo (lo+ok))
  (h:∀ao,SB a₀ p ao->eG (arrOf ao) lo (lo+n)->dY (arrOf st) (arrOf ao) lo (lo+n)->Q true ao):wpS (model prog w) A E s (binarySort' lo n ok) Q st:=by
 rw[binarySort'_eq];refine ab9 (adn (adh (I:=λk c ao=>c=(none,())/\SB a₀ p ao/\eG (arrOf ao) lo (lo + min k n)/\dY (arrOf st) (arrOf ao) lo (lo + n))
  (Q:=λc ao=>c=(none,())/\SB a₀ p ao/\eG (arrOf ao) lo (lo+n)/\dY (arrOf st) (arrOf ao) lo (lo+n)) ?step ?fin ?init) ?post)
 case post=>
  rintro c ao ⟨rfl,g1,g2,g3⟩
  exact ach (h ao g1 g2 g3)
 case init=>
  refine⟨rfl,hB,λi j q1 q2 q3=>?_,.refl _ _ _⟩
  by_cases q:ok=0
  .rw[show i=j by lia];exact adL _
  .exact hs i j q1 q2 (by lia)
 case fin=>
  rintro c ao ⟨hc,g1,g2,g3⟩
  refine⟨hc,g1,?_,g3⟩
  rwa [show min (max (max ok 1) n) n=n by lia] at g2
 case step=>
  rintro k c ao k1 k2 ⟨rfl,e_,g2,g3⟩
  rw[show min k n=k by lia] at g2;have hk:lo+k<a₀.size:=by lia
  refine ab9 (adn (adh (I:=λx c aP=>aP=ao/\∃l r,c=(none,l,r)/\l<=r/\r<=k/\r - l<=k - x/\
    (∀i,i<l->K (arrOf ao) (lo+i)<=K (arrOf ao) (lo+k))/\(∀i,r<=i->i<k->K (arrOf ao) (lo+k)<K (arrOf ao) (lo+i)))
   (Q:=λc aP=>aP=ao/\∃l r,c=(none,l,r)/\l<=k/\
    (∀i,i<l->K (arrOf ao) (lo+i)<=K (arrOf ao) (lo+k))/\(∀i,l<=i->i<k->K (arrOf ao) (lo+k)<K (arrOf ao) (lo+i))) ?VE ?abX ?abh) ?Rb)
  case abh=>exact⟨rfl,0,k,rfl,by lia,by lia,by lia,λi hi=>by lia,λi _ _=>by lia⟩
  case abX=>
   rintro c aP ⟨rfl,l,r,rfl,w1,w2,w3,w4,w5⟩
   obtain rfl:l=r:=by lia
   exact⟨rfl,l,l,rfl,w2,w4,w5⟩
  case VE=>
   rintro x c aP _ hx ⟨rfl,l,r,rfl,w1,w2,w3,w4,w5⟩
   dsimp only
   by_cases ge:l >= r
   .rw[if_pos ge];obtain rfl:l=r:=by lia
    exact ach ⟨rfl,l,l,rfl,w2,w4,w5⟩
   .rw[aa7 ge];refine ab9 (vW e_ h0 hk (by lia) ?_)
    by_cases g:K (arrOf aP) (lo+k)<K (arrOf aP) (lo+(l+r) / 2)
    .simp only[g,decide_true,aeS];exact ach ⟨rfl,l,(l+r) / 2,rfl,by lia,by lia,by lia,w4,λi q1 q2=>Int.lt_of_lt_of_le g (g2 _ _ (by lia) (by lia) (by lia))⟩
    .simp only[g,decide_false,acG,ad7];exact ach ⟨rfl,(l+r) / 2+1,r,rfl,by lia,by lia,by lia,λi q1=>acT (g2 (lo+i) (lo+(l+r) / 2) (by lia) (by lia) (by lia)) (Int.not_lt.mp g),w5⟩
  case Rb=>
   rintro c aP ⟨rfl,l,r,rfl,w2,w4,w5⟩
   show wpS _ _ _ _ (do moveDown' (lo+k) (lo+l);pure (ForInStep.yield (none,()))) _ _;rw[moveDown'_eq];have ks:lo+k<(arrOf aP).size:=by rw[e_.size];exact hk
   refine ab9 (wpS_modify (ach ⟨rfl,e_.setArr (bubble_perm _ _ _),?_,g3.trans λq hq=>?_⟩))
   .rw[show min (k+1) n=k+1 by lia];intro i j q1 q2 q3;have at_:∀m,lo<=m->K (arrOf aP) m=K (arrOf aP) (lo+(m-lo)):=λm hm=>by congr 1;lia
    have up:∀m,lo<=m->m<lo+l->K (arrOf aP) m<=K (arrOf aP) (lo+k):=λm m1 m2=>by rw[at_ m m1];exact w4 _ (by lia)
    have dn:∀m,lo+l<=m->m<lo+k->K (arrOf aP) (lo+k)<=K (arrOf aP) m:=λm m1 m2=>by rw[at_ m (by lia)];exact adE (w5 _ (by lia) (by lia))
    rw[K_bubble ks (by lia),K_bubble ks (by lia),show lo+k-(lo+k-(lo+l))=lo+l by lia]
    repeat' split
    all_goals first
     |(exfalso;lia)
     |exact adL _
     |exact up _ (by lia) (by lia)
     |exact dn _ (by lia) (by lia)
     |exact g2 _ _ (by lia) (by lia) (by lia)
   .show K (bubble (arrOf aP) (lo+k) (lo+k-(lo+l))) q=_;rw[K_bubble ks (by lia),aa7 (by lia),aa7 (by lia)]
noncomputable def jy:Bool->Keyed->Array Keyed->Nat->Nat->Nat->StateT SortSt Sem (Option Nat):=sortPriv% PySem.Builtin.gallop
theorem abC(lf:Bool)(ky:Keyed)(xs:Array Keyed)(b n ht:Nat):jy lf ky xs b n ht=(do
 let bz (i:Nat):StateT SortSt Sem (Option Bool):=do
  let x <- elem' xs (b+i)
  if lf then lt' x ky else return(<- lt' ky x).map (!·)
 let mut last:=0
 let mut of:=1
 let mut l:=0
 let mut h:=0
 let some rt <- bz ht|return none
 if rt then
  let mx:=n-ht
  for _ in [0:n] do
   if of >= mx then break
   let some mo <- bz (ht+of)|return none
   if !mo then break
   last:=of
   of:=2*of+1
  l:=ht+last+1
  h:=ht+min of mx
 else
  let mx:=ht+1
  for _ in [0:n] do
   if of >= mx then break
   let some mo <- bz (ht-of)|return none
   if mo then break
   last:=of
   of:=2*of+1
  l:=ht+1-min of mx
  h:=ht-last
 for _ in [0:n] do
  if l >= h then break
  let m:=l+(h-l) / 2
  let some mo <- bz m|return none
  if mo then l:=m+1 else h:=m
 return some h):=rfl
noncomputable def ky(p:Keyed):Int:=numOf p.1
def gn(p:Keyed):Prop:=∃n t,p.1=.int n t
theorem xW{x y:Keyed}{Q:Option Bool->SortSt->Prop}(hk:kindOf st=oneType')(hx:gn x)(hy:gn y)(h:Q (some (decide (ky x<ky y))) st):wpS (model prog w) A E s (lt' x y) Q st:=by
 obtain⟨a,t,ea⟩:=hx;obtain⟨b,u,eb⟩:=hy;have ha:ky x=a:=by unfold ky;rw[ea];rfl
 have hb:ky y=b:=by unfold ky;rw[eb];rfl
 rw[ha,hb] at h;rw[lt'_eq];refine ab9 (wpS_get ?_);rw[hk,keyLt'_oneType,ea,eb];exact ab9 (wpS_lift (adV (oneLt_int ⟨rfl,ach h⟩)))
theorem eS{xs:Array Keyed}{q:Keyed}{Q:Keyed->SortSt->Prop}(e:xs[i]? = some q)(h:Q q st):wpS (model prog w) A E s (elem' xs i) Q st:=by
 rw[elem'_eq,e];exact ach h
noncomputable def bz(lf:Bool)(v x:Int):Bool:=if lf then decide (x<v) else !decide (v<x)
theorem Py(h:x<=y)(q:bz lf v y=true):bz lf v x=true:=by
 unfold bz at q ⊢;cases lf<;>simp at q ⊢<;>lia
theorem VX{x:Keyed}{xs:Array Keyed}{Q:Option Bool->SortSt->Prop}{k:Keyed}(hk:kindOf st=oneType')(e:xs[i]? = some x)(hx:gn x)(hy:gn k)(h:Q (some (bz lf (ky k) (ky x))) st):
  wpS (model prog w) A E s (do
   let x <- elem' xs i
   if lf then lt' x k else return(<- lt' k x).map (!·)) Q st:=by
 refine ab9 (eS e ?_);cases lf with
 |true=>rw[if_pos rfl];exact xW hk hx hy (by unfold bz at h;rw[if_pos rfl] at h;exact h)
 |false=>
  rw[aa7 (by simp)];refine ab9 (xW hk hy hx (ach ?_));unfold bz at h;rw[aa7 (by simp)] at h;exact h
structure Sub(xs:Array Keyed)(b n:Nat)(f:Nat->Int):Prop where
 ex:∀i,i<n->∃q,xs[b+i]? = some q/\gn q/\ky q=f i
 up:∀i j,i<=j->j<n->f i<=f j
noncomputable abbrev CG:=Option (Option Nat)×Nat×Nat
def xE(lf:Bool)(k:Keyed)(xs:Array Keyed)(b n l h:Nat):StateT SortSt Sem (Option Nat):=do
 let c <- forIn [:n] ((none,l,h):CG) λ_ c=>if c.snd.fst >= c.snd.snd then pure (.done (none,c.snd.fst,c.snd.snd)) else do
  let x <- (do
   let x <- elem' xs (b+(c.snd.fst+(c.snd.snd-c.snd.fst) / 2))
   if lf then lt' x k else return(<- lt' k x).map (!·))
  match x with
  |some mo=>if mo=true then pure (.yield (none,c.snd.fst+(c.snd.snd-c.snd.fst) / 2+1,c.snd.snd)) else pure (.yield (none,c.snd.fst,c.snd.fst+(c.snd.snd-c.snd.fst) / 2))
  |_=>pure (.done (some none,c.snd.fst,c.snd.snd))
 match c.fst with
 |some r=>pure r
 |none=>pure (some c.snd.snd)
section
variable{lf:Bool}{k:Keyed}{xs:Array Keyed}{b n ht:Nat}{f:Nat->Int}{Q:Option Nat->SortSt->Prop}
theorem Sub.fr(S:Sub xs b n f)(hk:kindOf st=oneType')(hy:gn k){Q':Option Bool->SortSt->Prop}(hi:i < n)(hq:Q' (some (bz lf (ky k) (f i))) st):wpS (model prog w) A E s (do
   let x <- elem' xs (b+i)
   if lf then lt' x k else return(<- lt' k x).map (!·)) Q' st:=by
 obtain⟨q,e,iq,ek⟩:=S.ex i hi;exact VX hk e iq hy (by rw[ek];exact hq)
theorem Sub.yes(S:Sub xs b n f)(kO:i<=j)(hj:j<n)(e:bz lf v (f j)=true):bz lf v (f i)=true:=Py (S.up i j kO hj) e
theorem Sub.no(S:Sub xs b n f)(kO:i<=j)(hj:j<n)(e:bz lf v (f i)=false):bz lf v (f j)=false:=by
 cases q:bz lf v (f j) with
 |false=>rfl
 |true=>rw[S.yes kO hj q] at e;cases e
theorem Gm(hk:kindOf st=oneType')(S:Sub xs b n f)(hy:gn k)(g1:l0<=h0)(g2:h0<=n)(g3:∀i,i<l0->bz lf (ky k) (f i)=true)(g4:∀i,h0<=i->i<n->bz lf (ky k) (f i)=false)
  (h:∀m,m<=n->(∀i,i<m->bz lf (ky k) (f i)=true)->(∀i,m<=i->i<n->bz lf (ky k) (f i)=false)->Q (some m) st):wpS (model prog w) A E s (xE lf k xs b n l0 h0) Q st:=by
 unfold xE;refine ab9 (adn (adh (I:=λx c ao=>ao=st/\∃l r,c=(none,l,r)/\l<=r/\r<=n/\r - l<=n - x/\(∀i,i < l->bz lf (ky k) (f i)=true)/\(∀i,r<=i->i < n->bz lf (ky k) (f i)=false))
  (Q:=λc ao=>ao=st/\∃l,c=(none,l,l)/\l<=n/\(∀i,i<l->bz lf (ky k) (f i)=true)/\(∀i,l<=i->i<n->bz lf (ky k) (f i)=false)) ?step ?fin ⟨rfl,l0,h0,rfl,g1,g2,by lia,g3,g4⟩) ?post)
 case post=>
  rintro c ao ⟨rfl,l,rfl,w1,w2,w3⟩
  exact ach (h l w1 w2 w3)
 case fin=>
  rintro c ao ⟨rfl,l,r,rfl,w1,w2,w3,w4,w5⟩
  obtain rfl:l=r:=by lia
  exact⟨rfl,l,rfl,w2,w4,w5⟩
 case step=>
  rintro x c ao _ hx ⟨rfl,l,r,rfl,w1,w2,w3,w4,w5⟩
  dsimp only
  by_cases ge:l >= r
  .rw[if_pos ge];obtain rfl:l=r:=by lia
   exact ach ⟨rfl,l,rfl,w2,w4,w5⟩
  .rw[aa7 ge];refine ab9 (S.fr hk hy (by lia) ?_);cases g:bz lf (ky k) (f (l+(r-l) / 2)) with
   |true=>
    dsimp only;rw[if_pos rfl];exact ach ⟨rfl,l+(r-l) / 2+1,r,rfl,by lia,w2,by lia,λi q=>S.yes (by lia) (by lia) g,w5⟩
   |false=>
    dsimp only;rw[aa7 (by simp)];exact ach ⟨rfl,l,l+(r-l) / 2,rfl,by lia,by lia,by lia,w4,λi q1 q2=>S.no q1 q2 g⟩
theorem as{α:Type}{t t':StateT SortSt Sem α}{Q:α->SortSt->Prop}(e:t=t')(h:wpS (model prog w) A E s t' Q st):wpS (model prog w) A E s t Q st:=by rw[e];exact h
theorem sF(hk:kindOf st=oneType')(S:Sub xs b n f)(hy:gn k)(hh:ht<n)
  (h:∀m,m<=n->(∀i,i<m->bz lf (ky k) (f i)=true)->(∀i,m<=i->i<n->bz lf (ky k) (f i)=false)->Q (some m) st):wpS (model prog w) A E s (jy lf k xs b n ht) Q st:=by
 rw[abC];dsimp only;refine ab9 (S.fr hk hy hh ?_);cases g:bz lf (ky k) (f ht) with
 |true=>
  dsimp only;rw[if_pos rfl];refine ab9 (adn (adh (I:=λx c ao=>ao=st/\∃la o,c=(none,la,o)/\la < o/\x + 1<=o/\ht + la < n/\bz lf (ky k) (f (ht + la))=true)
   (Q:=λc ao=>ao=st/\∃la o,c=(none,la,o)/\la<o/\ht+la<n/\bz lf (ky k) (f (ht+la))=true/\(n-ht<=o\/(ht+o<n/\bz lf (ky k) (f (ht+o))=false))) ?step ?fin ⟨rfl,0,1,rfl,by omega,by omega,hh,g⟩) ?post)
  case fin=>
   rintro c ao ⟨rfl,la,o,rfl,w1,w2,w3,w4⟩
   exact⟨rfl,la,o,rfl,w1,w3,w4,.inl (by omega)⟩
  case step=>
   rintro x c ao _ hx ⟨rfl,la,o,rfl,w1,w2,w3,w4⟩
   dsimp only
   by_cases ge:o >= n-ht
   .rw[if_pos ge];exact ach ⟨rfl,la,o,rfl,w1,w3,w4,.inl ge⟩
   .rw[aa7 ge];refine ab9 (S.fr hk hy (by omega) ?_);cases g':bz lf (ky k) (f (ht+o)) with
    |true=>
     dsimp only;rw[aa7 (by simp)];exact ach ⟨rfl,o,2*o+1,rfl,by omega,by omega,by omega,g'⟩
    |false=>
     dsimp only;rw[if_pos (by simp)];exact ach ⟨rfl,la,o,rfl,w1,w3,w4,.inr ⟨by omega,g'⟩⟩
  case post=>
   rintro c ao ⟨rfl,la,o,rfl,w1,w3,w4,w5⟩
   dsimp only;refine as (by unfold xE;congr 1;funext c;obtain⟨r,_⟩:=c;cases r<;>rfl) (Gm hk S hy (by omega) (by omega) (λi q=>S.yes (by omega) w3 w4) (λi q1 q2=>?_) h);rcases w5 with w5|⟨w5,w6⟩
   .omega
   .exact S.no (by omega) q2 w6
 |false=>
  dsimp only;rw[aa7 (by simp)];refine ab9 (adn (adh (I:=λx c ao=>ao=st/\∃la o,c=(none,la,o)/\la < o/\x + 1<=o/\la<=ht/\bz lf (ky k) (f (ht - la))=false)
   (Q:=λc ao=>ao=st/\∃la o,c=(none,la,o)/\la<o/\la<=ht/\bz lf (ky k) (f (ht-la))=false/\(ht+1<=o\/(o<=ht/\bz lf (ky k) (f (ht-o))=true))) ?aaK ?fin2 ⟨rfl,0,1,rfl,by omega,by omega,by omega,g⟩) ?SQ)
  case fin2=>
   rintro c ao ⟨rfl,la,o,rfl,w1,w2,w3,w4⟩
   exact⟨rfl,la,o,rfl,w1,w3,w4,.inl (by omega)⟩
  case aaK=>
   rintro x c ao _ hx ⟨rfl,la,o,rfl,w1,w2,w3,w4⟩
   dsimp only
   by_cases ge:o >= ht+1
   .rw[if_pos ge];exact ach ⟨rfl,la,o,rfl,w1,w3,w4,.inl ge⟩
   .rw[aa7 ge];refine ab9 (S.fr hk hy (by omega) ?_);cases g':bz lf (ky k) (f (ht-o)) with
    |false=>
     dsimp only;rw[aa7 (by simp)];exact ach ⟨rfl,o,2*o+1,rfl,by omega,by omega,by omega,g'⟩
    |true=>
     dsimp only;rw[if_pos rfl];exact ach ⟨rfl,la,o,rfl,w1,w3,w4,.inr ⟨by omega,g'⟩⟩
  case SQ=>
   rintro c ao ⟨rfl,la,o,rfl,w1,w3,w4,w5⟩
   dsimp only;refine as (by unfold xE;congr 1;funext c;obtain⟨r,_⟩:=c;cases r<;>rfl) (Gm hk S hy (by omega) (by omega) (λi q=>?_) (λi q1 q2=>S.no q1 q2 w4) h);rcases w5 with w5|⟨w5,w6⟩
   .omega
   .exact S.yes (by omega) (by omega) w6
end
end
def Up(x:List Keyed):Prop:=x.Pairwise λa b=>ky a<=ky b
structure MI(x y o:List Keyed)(i j:Nat):Prop where
 hi:i<=x.length
 hj:j<=y.length
 pm:(o++x.drop i++y.drop j).Perm (x++y)
 so:Up o
 ox:∀e∈o,∀f∈x.drop i,ky e<=ky f
 oy:∀e∈o,∀f∈y.drop j,ky e<=ky f
section
variable{x y o:List Keyed}{i j k:Nat}
theorem MI.swap(M:MI x y o i j):MI y x o j i:=by
 refine⟨M.hj,M.hi,?_,M.so,M.oy,M.ox⟩;have h:=M.pm;rw[acw] at h ⊢;exact((adF).append_left o).trans (h.trans adF)
theorem MI.len(M:MI x y o i j):o.length+(x.length-i)+(y.length-j)=x.length+y.length:=by
 have h:=M.pm.length_eq;simp at h
 lia
theorem MI.pJ(M:MI x y o i j)(ux:Up x)(hk:i+k<=x.length)(c:∀e∈(x.drop i).take k,∀f∈y.drop j,ky e<=ky f):MI x y (o++(x.drop i).take k) (i+k) j:=by
 have ud:Up ((x.drop i).take k++(x.drop i).drop k):=by rw[adv];exact ux.sublist (aeu _ _)
 have dd:x.drop (i+k)=(x.drop i).drop k:=by rw[List.drop_drop]
 obtain⟨u1,u2,u3⟩:=acP.mp ud;refine⟨hk,M.hj,?_,?_,?_,?_⟩
 .rw[dd,acw o,adv];exact M.pm
 .exact acP.mpr ⟨M.so,u1,λe he f hf=>M.ox e he f (List.mem_of_mem_take hf)⟩
 .intro e he f hf;rw[dd] at hf;rcases ab3.mp he with he|he
  .exact M.ox e he f (List.mem_of_mem_drop hf)
  .exact u3 e he f hf
 .intro e he f hf;rcases ab3.mp he with he|he
  .exact M.oy e he f hf
  .exact c e he f hf
theorem MI.vf(M:MI x y o i j)(uy:Up y)(hk:j+k<=y.length)(c:∀e∈(y.drop j).take k,∀f∈x.drop i,ky e<=ky f):MI x y (o++(y.drop j).take k) i (j+k):=(M.swap.pJ uy hk c).swap
def Good(x y out:List Keyed):Prop:=out.Perm (x++y)/\Up out
theorem MI.good(M:MI x y o i j)(ux:Up x)(uy:Up y)(c:∀e∈x.drop i,∀f∈y.drop j,ky e<=ky f):Good x y (o++x.drop i++y.drop j):=by
 refine⟨M.pm,acP.mpr ⟨acP.mpr ⟨M.so,ux.sublist (aeu _ _),M.ox⟩,uy.sublist (aeu _ _),λe he f hf=>?_⟩⟩;rcases ab3.mp he with he|he
 .exact M.oy e he f hf
 .exact c e he f hf
theorem Good.swap{out:List Keyed}(g:Good y x out):Good x y out:=⟨g.1.trans adF,g.2⟩
theorem MI.Bh(M:MI x y o i j)(ux:Up x)(uy:Up y)(c:∀e∈y.drop j,∀f∈x.drop i,ky e<=ky f):Good x y (o++y.drop j++x.drop i):=(M.swap.good uy ux c).swap
theorem take_one{d:List Keyed}{q:Keyed}(e:d[i]? = some q):(d.drop i).take 1=[q]:=by
 obtain⟨h,rfl⟩:=ace.mp e;rw[ac5 h];rfl
theorem N4{d:List Keyed}{q e:Keyed}(h:d[i]? = some q)(m:e∈(d.drop i).take 1):e=q:=by
 rw[take_one h] at m;exact aat.mp m
theorem oZ{d:List Keyed}{q f:Keyed}(u:Up d)(h:d[i]? = some q)(m:f∈d.drop i):ky q<=ky f:=by
 obtain⟨hl,rfl⟩:=ace.mp h;rw[ac5 hl] at m;rcases aaG.mp m with rfl|m
 .exact adL _
 .have w:=u.sublist (aeu i d);rw[ac5 hl] at w;exact(ac1.mp w).1 f m
theorem JO{d:List Keyed}{e:Keyed}(m:e∈(d.drop i).take k):∃t,t<k/\d[i+t]? = some e:=by
 obtain⟨t,ht,rfl⟩:=List.mem_iff_getElem.mp m;have h1:t<k:=by rw[adK] at ht;lia
 refine⟨t,h1,?_⟩;rw[List.getElem_take,aeM,aau]
end
section
variable{st ao:SortSt}{prog:Program}{w:World}{A:Around}{E:Value->Shared->Prop}{s:Shared}
def Sm(st ao:SortSt):Prop:=kindOf ao=kindOf st/\arrOf ao=arrOf st/\pendingOf ao=pendingOf st/\failedOf ao=failedOf st
theorem Sm.refl(st:SortSt):Sm st st:=⟨rfl,rfl,rfl,rfl⟩
theorem Sm.trans{st fB aP:SortSt}(a:Sm st fB)(b:Sm fB aP):Sm st aP:=⟨b.1.trans a.1,b.2.1.trans a.2.1,b.2.2.1.trans a.2.2.1,b.2.2.2.trans a.2.2.2⟩
noncomputable def kM:Nat->StateT SortSt Sem Unit:=sortPriv% PySem.Builtin.setMinGallop
theorem xx{Q:Unit->SortSt->Prop}(h:∀ao,Sm st ao->Q () ao):wpS (model prog w) A E s (kM g) Q st:=by
 have e:kM g=modify λs=>SortSt.mk' (kindOf s) (arrOf s) (pendingOf s) g (failedOf s):=rfl
 rw[e];exact wpS_modify (h _ ⟨rfl,rfl,rfl,rfl⟩)
noncomputable def wN:Array Keyed->Array Keyed->StateT SortSt Sem (Array Keyed):=sortPriv% PySem.Builtin.mergeLo
theorem abz(x y:Array Keyed):wN x y=(do
 rule "list.sort.merge-lo"
 let tot:=x.size+y.size
 let fi (o:Array Keyed) (i j:Nat):=o++x.extract i x.size++y.extract j y.size
 let la (o:Array Keyed) (i j:Nat):=o++y.extract j y.size++x.extract i x.size
 let mut o:Array Keyed:=#[<- elem' y 0]
 let mut i:=0
 let mut j:=1
 if j==y.size then return fi o i j
 if i+1==x.size then return la o i j
 let mut mg:=gallopOf (<- get)
 for _ in [0:tot] do
  let mut ac:=0
  let mut bc:=0
  for _ in [0:tot] do
   let some bw <- lt' (<- elem' y j) (<- elem' x i)|return fi o i j
   if bw then
    o:=o.push (<- elem' y j);j:=j+1;bc:=bc+1;ac:=0
    if j==y.size then return fi o i j
    if bc >= mg then break
   else
    o:=o.push (<- elem' x i);i:=i+1;ac:=ac+1;bc:=0
    if i+1==x.size then return la o i j
    if ac >= mg then break
  rule "list.sort.gallop"
  mg:=mg+1
  for _ in [0:tot] do
   if mg > 1 then mg:=mg-1
   kM mg
   let some k <- jy false (<- elem' y j) x i (x.size-i) 0|return fi o i j
   ac:=k
   if k > 0 then
    o:=o++x.extract i (i+k);i:=i+k
    if i+1==x.size then return la o i j
    if i==x.size then return fi o i j
   o:=o.push (<- elem' y j);j:=j+1
   if j==y.size then return fi o i j
   let some k <- jy true (<- elem' x i) y j (y.size-j) 0|return fi o i j
   bc:=k
   if k > 0 then
    o:=o++y.extract j (j+k);j:=j+k
    if j==y.size then return fi o i j
   o:=o.push (<- elem' x i);i:=i+1
   if i+1==x.size then return la o i j
   if ac<7&&bc<7 then break
  mg:=mg+1
  kM mg
 unsupported "internal:list.sort.merge-bound"):=rfl
noncomputable abbrev C2:=Option (Array Keyed)×Array Keyed×Nat×Nat×Nat×Nat×Nat
noncomputable def zk(x y o:Array Keyed)(i j mg k k1:Nat):StateT SortSt Sem (ForInStep C2):=do
 let e <- elem' x i
 if(i+1+1==x.size)=true then pure (.done (some (o.push e++y.extract j y.size++x.extract (i+1) x.size),o.push e,i+1,j,mg,k,k1))
 else if(decide (k<7)&&decide (k1<7))=true then pure (.done (none,o.push e,i+1,j,mg,k,k1)) else pure (.yield (none,o.push e,i+1,j,mg,k,k1))
def yL(x y o:Array Keyed)(i j mg k bc:Nat):StateT SortSt Sem (ForInStep C2):=do
 let q <- elem' y j
 if(j+1==y.size)=true then pure (.done (some (o.push q++x.extract i x.size++y.extract (j+1) y.size),o.push q,i,j+1,mg,k,bc))
 else do
  let e <- elem' x i
  let r <- jy true e y (j+1) (y.size-(j+1)) 0
  match r with
  |some k1=>
   if k1 > 0 then
    if(j+1+k1==y.size)=true then pure (.done (some (o.push q++y.extract (j+1) (j+1+k1)++x.extract i x.size++y.extract (j+1+k1) y.size),o.push q++y.extract (j+1) (j+1+k1),i,j+1+k1,mg,k,k1))
    else zk x y (o.push q++y.extract (j+1) (j+1+k1)) i (j+1+k1) mg k k1
   else zk x y (o.push q) i (j+1) mg k k1
  |_=>pure (.done (some (o.push q++x.extract i x.size++y.extract (j+1) y.size),o.push q,i,j+1,mg,k,bc))
def lo1(x y o:Array Keyed)(i j mg ac bc:Nat):StateT SortSt Sem (ForInStep C2):=do
 kM mg
 let q <- elem' y j
 let r <- jy false q x i (x.size-i) 0
 match r with
 |some k=>
  if k > 0 then
   if(i+k+1==x.size)=true then pure (.done (some (o++x.extract i (i+k)++y.extract j y.size++x.extract (i+k) x.size),o++x.extract i (i+k),i+k,j,mg,k,bc))
   else if(i+k==x.size)=true then pure (.done (some (o++x.extract i (i+k)++x.extract (i+k) x.size++y.extract j y.size),o++x.extract i (i+k),i+k,j,mg,k,bc))
   else yL x y (o++x.extract i (i+k)) (i+k) j mg k bc
  else yL x y o i j mg k bc
 |_=>pure (.done (some (o++x.extract i x.size++y.extract j y.size),o,i,j,mg,ac,bc))
noncomputable abbrev C1:=Option (Array Keyed)×Array Keyed×Nat×Nat×Nat×Nat
noncomputable def fB(x y o:Array Keyed)(i j mg ac bc:Nat):StateT SortSt Sem (ForInStep C1):=do
 let q <- elem' y j
 let e <- elem' x i
 let r <- lt' q e
 match r with
 |some bw=>
  if bw=true then do
   let q <- elem' y j
   if(j+1==y.size)=true then pure (.done (some (o.push q++x.extract i x.size++y.extract (j+1) y.size),o.push q,i,j+1,0,bc+1))
   else if bc+1 >= mg then pure (.done (none,o.push q,i,j+1,0,bc+1)) else pure (.yield (none,o.push q,i,j+1,0,bc+1))
  else do
   let e <- elem' x i
   if(i+1+1==x.size)=true then pure (.done (some (o.push e++y.extract j y.size++x.extract (i+1) x.size),o.push e,i+1,j,ac+1,0))
   else if ac+1 >= mg then pure (.done (none,o.push e,i+1,j,ac+1,0)) else pure (.yield (none,o.push e,i+1,j,ac+1,0))
 |_=>pure (.done (some (o++x.extract i x.size++y.extract j y.size),o,i,j,ac,bc))
def round(x y:Array Keyed)(c:Option (Array Keyed)×Array Keyed×Nat×Nat×Nat):StateT SortSt Sem (ForInStep (Option (Array Keyed)×Array Keyed×Nat×Nat×Nat)):=do
 let d <- forIn [:x.size+y.size] ((none,c.snd.fst,c.snd.snd.fst,c.snd.snd.snd.fst,0,0):C1) λ_ d=>fB x y d.snd.fst d.snd.snd.fst d.snd.snd.snd.fst c.snd.snd.snd.snd d.snd.snd.snd.snd.fst d.snd.snd.snd.snd.snd
 match d.fst with
 |some r=>pure (.done (some r,d.snd.fst,d.snd.snd.fst,d.snd.snd.snd.fst,c.snd.snd.snd.snd))
 |none=>do
  liftM (rule "list.sort.gallop")
  let g <- forIn [:x.size+y.size] ((none,d.snd.fst,d.snd.snd.fst,d.snd.snd.snd.fst,c.snd.snd.snd.snd+1,d.snd.snd.snd.snd.fst,d.snd.snd.snd.snd.snd):C2) λ_ g=>
   if g.snd.snd.snd.snd.fst > 1 then lo1 x y g.snd.fst g.snd.snd.fst g.snd.snd.snd.fst (g.snd.snd.snd.snd.fst-1) g.snd.snd.snd.snd.snd.fst g.snd.snd.snd.snd.snd.snd
   else lo1 x y g.snd.fst g.snd.snd.fst g.snd.snd.snd.fst g.snd.snd.snd.snd.fst g.snd.snd.snd.snd.snd.fst g.snd.snd.snd.snd.snd.snd
  match g.fst with
  |some r=>pure (.done (some r,g.snd.fst,g.snd.snd.fst,g.snd.snd.snd.fst,g.snd.snd.snd.snd.fst))
  |none=>do
   kM (g.snd.snd.snd.snd.fst+1)
   pure (.yield (none,g.snd.fst,g.snd.snd.fst,g.snd.snd.snd.fst,g.snd.snd.snd.snd.fst+1))
def lows(x y o:Array Keyed)(g:Nat):StateT SortSt Sem (Array Keyed):=do
 let c <- forIn [:x.size+y.size] ((none,o,0,1,g):Option (Array Keyed)×Array Keyed×Nat×Nat×Nat) λ_ c=>round x y c
 match c.fst with
 |some r=>pure r
 |none=>liftM (unsupported "internal:list.sort.merge-bound":Sem (Array Keyed))
theorem ZY(x y:Array Keyed):wN x y=(do
 liftM (rule "list.sort.merge-lo")
 let q <- elem' y 0
 if(1==y.size)=true then pure (#[q]++x.extract 0 x.size++y.extract 1 y.size)
 else if(0+1==x.size)=true then pure (#[q]++y.extract 1 y.size++x.extract 0 x.size)
 else do
  let g <- get
  lows x y #[q] (gallopOf g)):=by
 rw[abz];dsimp only
 congr 1
 funext _
 congr 1
 funext q
 refine ite_congr rfl (λ_=>rfl) λ_=>ite_congr rfl (λ_=>rfl) λ_=>?_
 ··congr 1
   funext g
   unfold lows
   congr 1
   .congr 1
    funext _ c
    unfold round
    congr 1
    funext d
    obtain⟨r,d⟩:=d;cases r with
    |some r=>rfl
    |none=>
     dsimp only
     congr 1
     funext _
     congr 1
     funext g
     obtain⟨r,d⟩:=g;cases r<;>rfl
   .funext c
    obtain⟨r,c⟩:=c;cases r<;>rfl
end
theorem KR(x:Array Keyed)(i:Nat):(x.extract i x.size).toList=x.toList.drop i:=by
 rw[aey,List.extract_eq_drop_take];exact adA (by simp)
theorem UA(x:Array Keyed)(i k:Nat):(x.extract i (i+k)).toList=(x.toList.drop i).take k:=by
 rw[aey,List.extract_eq_drop_take]
 congr 1
 lia
theorem Dn(o x y:Array Keyed)(i j:Nat):(o++x.extract i x.size++y.extract j y.size).toList=o.toList++x.toList.drop i++y.toList.drop j:=by
 rw[adP,adP,KR,KR]
theorem KC(o x:Array Keyed)(i k:Nat):(o++x.extract i (i+k)).toList=o.toList++(x.toList.drop i).take k:=by rw[adP,UA]
theorem getL{x:Array Keyed}{i:Nat}:x.toList[i]? = x[i]? :=by simp
structure Cm(x y:Array Keyed):Prop where
 ux:Up x.toList
 uy:Up y.toList
 ix:∀q∈x.toList,gn q
 iy:∀q∈y.toList,gn q
 la:∀i q f,i+1=x.size->x[i]? = some q->f∈y.toList->ky f<=ky q
noncomputable abbrev MA(x y o:Array Keyed)(i j:Nat):Prop:=MI x.toList y.toList o.toList i j
noncomputable abbrev GA(x y o:Array Keyed):Prop:=Good x.toList y.toList o.toList
section
variable{x y o:Array Keyed}{i j k:Nat}{q:Keyed}
theorem kZ(h:x[i]? = some q):q∈x.toList:=by
 obtain⟨h,rfl⟩:=adp.mp h;simp
theorem there(x:Array Keyed)(h:i<x.size):∃q,x[i]? = some q:=⟨x[i],adp.mpr ⟨h,rfl⟩⟩
theorem MI.pushX(M:MA x y o i j)(C:Cm x y)(e:x[i]? = some q)(c:∀f∈y.toList.drop j,ky q<=ky f):MA x y (o.push q) (i+1) j:=by
 have el:x.toList[i]? = some q:=by rw[getL];exact e
 have h:=(adp.mp e).1;have w:=M.pJ C.ux (k:=1) (by rw[ab2];lia) λa ha f hf=>by rw[N4 el ha];exact c f hf
 rw[take_one el] at w;show MI _ _ (o.push q).toList _ _;rw[adO];exact w
theorem MI.qI(M:MA x y o i j)(C:Cm x y)(e:y[j]? = some q)(c:∀f∈x.toList.drop i,ky q<=ky f):MA x y (o.push q) i (j+1):=by
 have el:y.toList[j]? = some q:=by rw[getL];exact e
 have h:=(adp.mp e).1;have w:=M.vf C.uy (k:=1) (by rw[ab2];lia) λa ha f hf=>by rw[N4 el ha];exact c f hf
 rw[take_one el] at w;show MI _ _ (o.push q).toList _ _;rw[adO];exact w
theorem Mu{l:List Keyed}(h:l.length<=n):l.drop n=[]:=List.drop_eq_nil_iff.mpr h
theorem MI.xB(M:MA x y o i j)(C:Cm x y)(h:j=y.size):GA x y (o++x.extract i x.size++y.extract j y.size):=by
 show Good _ _ _;rw[Dn];refine M.good C.ux C.uy λe _ f hf=>?_
 rw[Mu (by rw[ab2];lia)] at hf;cases hf
theorem MI.aaw(M:MA x y o i j)(C:Cm x y)(h:i=x.size):GA x y (o++x.extract i x.size++y.extract j y.size):=by
 show Good _ _ _;rw[Dn];refine M.good C.ux C.uy λe he f _=>?_
 rw[Mu (by rw[ab2];lia)] at he;cases he
theorem MI.zA(M:MA x y o i j)(C:Cm x y)(h:i+1=x.size):GA x y (o++y.extract j y.size++x.extract i x.size):=by
 show Good _ _ _;rw[Dn];refine M.Bh C.ux C.uy λe he f hf=>?_
 obtain⟨q,eq⟩:=there x (i:=i) (by lia);have el:x.toList[i]? = some q:=by rw[getL];exact eq
 have:=take_one el;rw[adA (by rw[List.length_drop,ab2];lia)] at this;rw[this] at hf;rw[aat.mp hf];exact C.la i q e h eq (List.mem_of_mem_drop he)
theorem Up.DK{l:List Keyed}(u:Up l){p q:Keyed}(kO:i<=j)(e1:l[i]? = some p)(e2:l[j]? = some q):ky p<=ky q:=by
 refine oZ u e1 ?_;obtain⟨h2,rfl⟩:=ace.mp e2;exact List.mem_drop_iff_getElem.mpr ⟨j-i,by omega,by congr 1;omega⟩
theorem yD(u:Up x.toList)(ix:∀q∈x.toList,gn q)(h:b+n<=x.size):Sub x b n (λt=>K x (b+t)):=by
 have kq:∀{i:Nat}{q:Keyed},x[i]? = some q->K x i=ky q:=λ{i q} e=>by unfold K;rw[e];rfl
 refine⟨λt ht=>?_,λs t fC ht=>?_⟩
 .obtain⟨q,e⟩:=there x (i:=b+t) (by lia);exact⟨q,e,ix q (kZ e),(kq e).symm⟩
 .obtain⟨q,e⟩:=there x (i:=b+t) (by lia);obtain⟨r,e'⟩:=there x (i:=b+s) (by lia);rw[kq e,kq e'];exact u.DK (i:=b+s) (j:=b+t) (by lia) (by rw[getL];exact e') (by rw[getL];exact e)
theorem eT{q:Keyed}(e:x[i]? = some q):K x i=ky q:=by unfold K;rw[e];rfl
theorem Cn(h:bz false v u=true):u<=v:=by unfold bz at h;simp at h;omega
theorem BU(h:bz false v u=false):v<u:=by unfold bz at h;simp at h;omega
theorem Fy(h:bz true v u=true):u<v:=by unfold bz at h;simp at h;omega
theorem Cv(h:bz true v u=false):v<=u:=by unfold bz at h;simp at h;omega
theorem MI.CV{e:Keyed}(M:MA x y o i j)(C:Cm x y)(hk:i+k<=x.size)(ey:y[j]? = some e)(c:∀t,t<k->bz false (ky e) (K x (i+t))=true):MA x y (o++x.extract i (i+k)) (i+k) j:=by
 show MI _ _ _ _ _;rw[KC];refine M.pJ C.ux (by rw[ab2];exact hk) λa ha f hf=>?_
 obtain⟨t,ht,et⟩:=JO ha;rw[getL] at et;have h1:=Cn (c t ht);rw[eT et] at h1;exact acT h1 (oZ C.uy (by rw[getL];exact ey) hf)
theorem MI.D_{e:Keyed}(M:MA x y o i j)(C:Cm x y)(hk:j+k<=y.size)(ex:x[i]? = some e)(c:∀t,t<k->bz true (ky e) (K y (j+t))=true):MA x y (o++y.extract j (j+k)) i (j+k):=by
 show MI _ _ _ _ _;rw[KC];refine M.vf C.uy (by rw[ab2];exact hk) λa ha f hf=>?_
 obtain⟨t,ht,et⟩:=JO ha;rw[getL] at et;have h1:=Fy (c t ht);rw[eT et] at h1;exact acT (adE h1) (oZ C.ux (by rw[getL];exact ex) hf)
end
section
variable{x y o:Array Keyed}{st:SortSt}{prog:Program}{w:World}{A:Around}{E:Value->Shared->Prop}{s:Shared}{i j mg k k1 ac bc N:Nat}
def Ft(x y:Array Keyed)(N:Nat)(r:Option (Array Keyed))(o:Array Keyed)(i j:Nat):Prop:=(∃z,r=some z/\GA x y z)\/(r=none/\MA x y o i j/\i+1<x.size/\j<y.size/\N<=o.size)
def F2(x y:Array Keyed)(N:Nat)(c:C2):Prop:=Ft x y N c.1 c.2.1 c.2.2.1 c.2.2.2.1
def P2(x y:Array Keyed)(N:Nat)(st:SortSt)(r:ForInStep C2)(ao:SortSt):Prop:=Sm st ao/\match r with
 |.done c=>F2 x y N c
 |.yield c=>c.1=none/\F2 x y N c
theorem Ib(C:Cm x y)(M:MA x y o i j)(hi:i+1<x.size)(hj:j<y.size)(c:∀e f,x[i]? = some e->f∈y.toList.drop j->ky e<=ky f)(hN:N<=o.size):
  wpS (model prog w) A E s (zk x y o i j mg k k1) (P2 x y N st) st:=by
 unfold zk;obtain⟨e,ee⟩:=there x (i:=i) (by lia);refine ab9 (eS ee ?_);have M1:=M.pushX C ee λf hf=>c e f ee hf
 have sz:N<=(o.push e).size:=by rw[adG];lia
 by_cases h:i+1+1=x.size
 .rw[if_pos (by simpa using h)];exact ach ⟨.refl _,.inl ⟨_,rfl,M1.zA C h⟩⟩
 .rw[aa7 (by simpa using h)]
  split
  .exact ach ⟨.refl _,.inr ⟨rfl,M1,by show i+1+1<_;lia,hj,sz⟩⟩
  .exact ach ⟨.refl _,rfl,.inr ⟨rfl,M1,by show i+1+1<_;lia,hj,sz⟩⟩
theorem LL(C:Cm x y)(hk:kindOf st=oneType')(M:MA x y o i j)(hi:i+1<x.size)(hj:j<y.size)(c:∀q f,y[j]? = some q->f∈x.toList.drop i->ky q<=ky f)(hN:N<=o.size+1):
  wpS (model prog w) A E s (yL x y o i j mg k bc) (P2 x y N st) st:=by
 unfold yL;obtain⟨q,eq⟩:=there y hj;refine ab9 (eS eq ?_);have M1:=M.qI C eq λf hf=>c q f eq hf
 have sz:N<=(o.push q).size:=by rw[adG];lia
 by_cases h:j+1=y.size
 .rw[if_pos (by simpa using h)];exact ach ⟨.refl _,.inl ⟨_,rfl,M1.xB C h⟩⟩
 .rw[aa7 (by simpa using h)];obtain⟨e,ee⟩:=there x (i:=i) (by lia);refine ab9 (eS ee ?_);refine ab9 (sF hk (yD C.uy C.iy (b:=j+1) (n:=y.size-(j+1)) (by lia)) (C.ix e (kZ ee)) (by lia) λm g1 g2 g3=>?_);dsimp only;have M2:=M1.D_ C (by lia) ee g2;have rest:j+1+m≠y.size->∀e' f,x[i]? = some e'->f∈y.toList.drop (j+1+m)->ky e'<=ky f:=by
   intro ne e' f h1 h2;rw[ee] at h1;cases h1;obtain⟨r,er⟩:=there y (i:=j+1+m) (by lia);have g:=Cv (g3 m (aa2 _) (by lia));rw[eT er] at g;exact acT g (oZ C.uy (by rw[getL];exact er) h2)
  by_cases m0:m > 0
  .rw[if_pos m0]
   by_cases h2:j+1+m=y.size
   .rw[if_pos (by simpa using h2)];exact ach ⟨.refl _,.inl ⟨_,rfl,M2.xB C h2⟩⟩
   .rw[aa7 (by simpa using h2)];exact Ib C M2 hi (by lia) (rest h2) (by rw[aeN];lia)
  .rw[aa7 m0];obtain rfl:m=0:=by lia
   exact Ib C M1 hi (by lia) (rest (by lia)) sz
theorem P2.of{ao:SortSt}{r:ForInStep C2}{vY:SortSt}(a:Sm st ao)(h:P2 x y N ao r vY):P2 x y N st r vY:=⟨a.trans h.1,h.2⟩
theorem aab(C:Cm x y)(hk:kindOf st=oneType')(M:MA x y o i j)(hi:i+1<x.size)(hj:j<y.size)(hN:N<=o.size+1):wpS (model prog w) A E s (lo1 x y o i j mg ac bc) (P2 x y N st) st:=by
 unfold lo1;refine ab9 (xx λao sm=>?_);have jG:=sm.1.trans hk;obtain⟨q,eq⟩:=there y hj;refine ab9 (eS eq ?_);refine ab9 (sF jG (yD C.ux C.ix (n:=x.size-i) (by lia)) (C.iy q (kZ eq)) (by lia) λm g1 g2 g3=>?_);dsimp only;have M2:=M.CV C (by lia) eq g2;have rest:i+m≠x.size->∀q' f,y[j]? = some q'->f∈x.toList.drop (i+m)->ky q'<=ky f:=by
  intro ne q' f h1 h2;rw[eq] at h1;cases h1;obtain⟨r,er⟩:=there x (i:=i+m) (by lia);have g:=BU (g3 m (aa2 _) (by lia));rw[eT er] at g;exact acT (adE g) (oZ C.ux (by rw[getL];exact er) h2)
 by_cases m0:m > 0
 .rw[if_pos m0]
  by_cases h1:i+m+1=x.size
  .rw[if_pos (by simpa using h1)];exact ach ⟨sm,.inl ⟨_,rfl,M2.zA C h1⟩⟩
  .rw[aa7 (by simpa using h1)]
   by_cases h2:i+m=x.size
   .rw[if_pos (by simpa using h2)];exact ach ⟨sm,.inl ⟨_,rfl,M2.aaw C h2⟩⟩
   .rw[aa7 (by simpa using h2)];exact adn (LL C jG M2 (by lia) hj (rest h2) (by rw[aeN];lia)) λ_ _ z=>P2.of sm z
 .rw[aa7 m0];obtain rfl:m=0:=by lia
  exact adn (LL C jG M hi hj (rest (by lia)) hN) λ_ _ z=>P2.of sm z
def F1(x y:Array Keyed)(N:Nat)(c:C1):Prop:=Ft x y N c.1 c.2.1 c.2.2.1 c.2.2.2.1
theorem Tt(C:Cm x y)(hk:kindOf st=oneType')(M:MA x y o i j)(hi:i+1<x.size)(hj:j<y.size)(hN:N<=o.size):
  wpS (model prog w) A E s (fB x y o i j mg ac bc) (λr ao=>ao=st/\match r with
   |.done c=>F1 x y N c
   |.yield c=>c.1=none/\F1 x y N c) st:=by
 unfold fB;obtain⟨q,eq⟩:=there y hj;obtain⟨e,ee⟩:=there x (i:=i) (by lia);refine ab9 (eS eq (ab9 (eS ee (ab9 (xW hk (C.iy q (kZ eq)) (C.ix e (kZ ee)) ?_)))));dsimp only
 by_cases g:ky q<ky e
 .rw[if_pos (abU g)];refine ab9 (eS eq ?_);have M1:=M.qI C eq λf hf=>acT (adE g) (oZ C.ux (by rw[getL];exact ee) hf)
  have sz:N<=(o.push q).size:=by rw[adG];lia
  by_cases h:j+1=y.size
  .rw[if_pos (by simpa using h)];exact ach ⟨rfl,.inl ⟨_,rfl,M1.xB C h⟩⟩
  .rw[aa7 (by simpa using h)]
   split
   .exact ach ⟨rfl,.inr ⟨rfl,M1,hi,by show j+1<_;lia,sz⟩⟩
   .exact ach ⟨rfl,rfl,.inr ⟨rfl,M1,hi,by show j+1<_;lia,sz⟩⟩
 .rw[aa7 (by simpa using g)];refine ab9 (eS ee ?_);have M1:=M.pushX C ee λf hf=>acT (Int.not_lt.mp g) (oZ C.uy (by rw[getL];exact eq) hf)
  have sz:N<=(o.push e).size:=by rw[adG];lia
  by_cases h:i+1+1=x.size
  .rw[if_pos (by simpa using h)];exact ach ⟨rfl,.inl ⟨_,rfl,M1.zA C h⟩⟩
  .rw[aa7 (by simpa using h)]
   split
   .exact ach ⟨rfl,.inr ⟨rfl,M1,by show i+1+1<_;lia,hj,sz⟩⟩
   .exact ach ⟨rfl,rfl,.inr ⟨rfl,M1,by show i+1+1<_;lia,hj,sz⟩⟩
noncomputable abbrev C0:=Option (Array Keyed)×Array Keyed×Nat×Nat×Nat
def F0(x y:Array Keyed)(N:Nat)(c:C0):Prop:=Ft x y N c.1 c.2.1 c.2.2.1 c.2.2.2.1
theorem Wh(C:Cm x y)(hk:kindOf st=oneType')(M:MA x y o i j)(hi:i+1<x.size)(hj:j<y.size)(hN:N<=o.size):
  wpS (model prog w) A E s (round x y (none,o,i,j,mg)) (λr ao=>Sm st ao/\match r with
   |.done c=>∃z,c.1=some z/\GA x y z
   |.yield c=>c.1=none/\F0 x y (N+1) c) st:=by
 unfold round;refine ab9 (adn (adh (I:=λ_ c ao=>ao=st/\c.1=none/\F1 x y N c) (Q:=λc ao=>ao=st/\F1 x y N c) ?s1 (λc ao z=>⟨z.1,z.2.2⟩) ⟨rfl,rfl,.inr ⟨rfl,M,hi,hj,hN⟩⟩) ?p1)
 case s1=>
  rintro _ ⟨r,o,i,j,ac,bc⟩ ao _ _ ⟨rfl,rfl,f⟩
  rcases f with⟨z,h,_⟩|⟨_,g1,g2,g3,g4⟩
  .cases h
  .refine adn (Tt C hk g1 g2 g3 g4) λr aP z=>?_
   obtain⟨rfl,z⟩:=z;cases r with
   |done c=>exact⟨rfl,z⟩
   |yield c=>exact⟨rfl,z⟩
 case p1=>
  rintro⟨r,o,i,j,ac,bc⟩ ao ⟨rfl,f⟩
  rcases f with⟨z,h,g⟩|⟨h,g1,g2,g3,g4⟩
  .have h:=h;subst h;exact ach ⟨.refl _,z,rfl,g⟩
  .have h:=h;subst h;dsimp only;refine ab9 (wpS_lift (ady ⟨rfl,?_⟩));refine ab9 (adn (adh (I:=λn c aP=>Sm ao aP/\c.1=none/\F2 x y (if n=0 then N else N+1) c) (Q:=λc aP=>Sm ao aP/\F2 x y (N+1) c) ?s2 ?f2 ⟨.refl _,rfl,.inr ⟨rfl,g1,g2,g3,by rw[if_pos rfl];exact g4⟩⟩) ?p2)
   case f2=>
    rintro c aP ⟨z1,z2,z3⟩
    have hz:max 0 (x.size+y.size)≠0:=by lia
    rw[aa7 hz] at z3;exact⟨z1,z3⟩
   case s2=>
    rintro n ⟨r,o,i,j,mg,ac,bc⟩ aP _ _ ⟨sm,rfl,f⟩
    rcases f with⟨z,h,_⟩|⟨_,g1,g2,g3,g4⟩
    .cases h
    .have g4:(if n=0 then N else N+1)<=o.size:=g4;have g5:N+1<=o.size+1:=by split at g4<;>lia
     have step:∀uv,wpS (model prog w) A E s (lo1 x y o i j uv ac bc) (λr cZ=>match r with
       |.done c=>Sm ao cZ/\F2 x y (N+1) c
       |.yield c=>Sm ao cZ/\c.1=none/\F2 x y (if n+1=0 then N else N+1) c) aP:=λuv=>by
      refine adn (aab C (sm.1.trans hk) g1 g2 g3 g5) λr cZ z=>?_
      rw[aa7 (by lia)];cases r with
      |done c=>exact⟨sm.trans z.1,z.2⟩
      |yield c=>exact⟨sm.trans z.1,z.2⟩
     dsimp only
     split
     .exact adn (step _) λr cZ z=>by cases r<;>exact z
     .exact adn (step _) λr cZ z=>by cases r<;>exact z
   case p2=>
    rintro⟨r,o,i,j,mg,ac,bc⟩ aP ⟨sm,f⟩
    rcases f with⟨z,h,g⟩|⟨h,g1,g2,g3,g4⟩
    .have h:r=some z:=h;subst h;exact ach ⟨sm,z,rfl,g⟩
    .have h:r=none:=h;subst h;dsimp only;exact ab9 (xx λcZ s3=>ach ⟨sm.trans s3,rfl,.inr ⟨rfl,g1,g2,g3,g4⟩⟩)
theorem Pz{Q:Array Keyed->SortSt->Prop}(C:Cm x y)(hk:kindOf st=oneType')(hx:0<x.size)(hy:0<y.size)(c:∀q e,y[0]? = some q->e∈x.toList->ky q<=ky e)
  (h:∀z ao,Sm st ao->GA x y z->Q z ao):wpS (model prog w) A E s (wN x y) Q st:=by
 rw[ZY];refine ab9 (wpS_lift (ady ⟨rfl,?_⟩));obtain⟨q,eq⟩:=there y hy;refine ab9 (eS eq ?_);have M0:MA x y #[] 0 0:=⟨acD _,acD _,by simp,.nil,by simp,by simp⟩
 have M1:=M0.qI C eq λf hf=>c q f eq (by simpa using hf)
 by_cases h1:1=y.size
 .rw[if_pos (by simpa using h1)];exact ach (h _ st (.refl _) (M1.xB C h1))
 .rw[aa7 (by simpa using h1)]
  by_cases h2:0+1=x.size
  .rw[if_pos (by simpa using h2)];exact ach (h _ st (.refl _) (M1.zA C h2))
  .rw[aa7 (by simpa using h2)];refine ab9 (wpS_get ?_);unfold lows;refine ab9 (adn (adh (I:=λn c ao=>Sm st ao/\c.1=none/\F0 x y (n+1) c) (Q:=λc ao=>Sm st ao/\∃z,c.1=some z/\GA x y z) ?s ?f ⟨.refl _,rfl,.inr ⟨rfl,M1,by show 0+1<_;lia,by show 1<_;lia,aa2 1⟩⟩) ?p)
   case s=>
    rintro n ⟨r,o,i,j,mg⟩ aP _ _ ⟨sm,rfl,f⟩
    rcases f with⟨z,h,_⟩|⟨_,g1,g2,g3,g4⟩
    .cases h
    .refine adn (Wh C (sm.1.trans hk) g1 g2 g3 g4) λr cZ z=>?_
     cases r with
     |done c=>exact⟨sm.trans z.1,z.2⟩
     |yield c=>exact⟨sm.trans z.1,z.2⟩
   case f=>
    rintro⟨r,o,i,j,mg⟩ aP ⟨sm,rfl,f⟩
    exfalso
    rcases f with⟨z,h,_⟩|⟨_,g1,g2,g3,g4⟩
    .cases h
    .have g:=MI.len g1;simp only[ab2] at g;have g4:max 0 (x.size+y.size)+1<=o.size:=g4
     lia
   case p=>
    rintro⟨r,c⟩ aP ⟨sm,z,hz,g⟩
    have hz:r=some z:=hz;subst hz;exact ach (h z aP sm g)
end
structure MH(x y o:List Keyed)(i j:Nat):Prop where
 hi:i<=x.length
 hj:j<=y.length
 pm:(x.take i++y.take j++o.reverse).Perm (x++y)
 so:Up o.reverse
 ox:∀e∈x.take i,∀f∈o,ky e<=ky f
 oy:∀e∈y.take j,∀f∈o,ky e<=ky f
section
variable{x y o:List Keyed}{i j a:Nat}
theorem MH.swap(M:MH x y o i j):MH y x o j i:=
 ⟨M.hj,M.hi,((adF).append_right _).trans (M.pm.trans adF),M.so,M.oy,M.ox⟩
theorem MH.len(M:MH x y o i j):i+j+o.length=x.length+y.length:=by
 have h:=M.pm.length_eq;have h1:=M.hi;have h2:=M.hj;simp at h
 lia
theorem MH.pJ(M:MH x y o i j)(ux:Up x)(ha:a<=i)(c:∀e∈y.take j,∀f∈(x.take i).drop a,ky e<=ky f):MH x y (o++((x.take i).drop a).reverse) a j:=by
 have tt:x.take i=x.take a++(x.take i).drop a:=by
  have:=(adv a (x.take i)).symm
  rwa [List.take_take,adQ ha] at this
 have ud:Up (x.take a++(x.take i).drop a):=by rw[<- tt];exact ux.sublist (aes _ _)
 obtain⟨u1,u2,u3⟩:=acP.mp ud;have hl:=M.hi;refine⟨by lia,M.hj,?_,?_,?_,?_⟩
 .rw[List.reverse_append,List.reverse_reverse];have h:=M.pm;rw[tt] at h;refine List.Perm.trans ?_ h;rw[acw,acw,acw];refine List.Perm.append_left _ ?_;rw[<- acw,<- acw];exact adF.append_right _
 .rw[List.reverse_append,List.reverse_reverse];exact acP.mpr ⟨u2,M.so,λe he f hf=>M.ox e (List.mem_of_mem_drop he) f (aeB.mp hf)⟩
 .intro e he f hf;rcases ab3.mp hf with hf|hf
  .exact M.ox e (by rw[tt];exact acf _ he) f hf
  .exact u3 e he f (aeB.mp hf)
 .intro e he f hf;rcases ab3.mp hf with hf|hf
  .exact M.oy e he f hf
  .exact c e he f (aeB.mp hf)
theorem MH.vf(M:MH x y o i j)(uy:Up y)(ha:a<=j)(c:∀e∈x.take i,∀f∈(y.take j).drop a,ky e<=ky f):MH x y (o++((y.take j).drop a).reverse) i a:=(M.swap.pJ uy ha c).swap
theorem MH.good(M:MH x y o i j)(ux:Up x)(uy:Up y)(c:∀e∈x.take i,∀f∈y.take j,ky e<=ky f):Good x y (x.take i++y.take j++o.reverse):=by
 refine⟨M.pm,acP.mpr ⟨acP.mpr ⟨ux.sublist (aes _ _),uy.sublist (aes _ _),c⟩,M.so,λe he f hf=>?_⟩⟩;rcases ab3.mp he with he|he
 .exact M.ox e he f (aeB.mp hf)
 .exact M.oy e he f (aeB.mp hf)
theorem MH.Bh(M:MH x y o i j)(ux:Up x)(uy:Up y)(c:∀e∈y.take j,∀f∈x.take i,ky e<=ky f):Good x y (y.take j++x.take i++o.reverse):=(M.swap.good uy ux c).swap
end
noncomputable def yT:Array Keyed->Array Keyed->StateT SortSt Sem (Array Keyed):=sortPriv% PySem.Builtin.mergeHi
theorem aaM(x y:Array Keyed):yT x y=(do
 rule "list.sort.merge-hi"
 let tot:=x.size+y.size
 let fi (o:Array Keyed) (i j:Nat):=x.extract 0 i++y.extract 0 j++o.reverse
 let fb (o:Array Keyed) (i j:Nat):=y.extract 0 j++x.extract 0 i++o.reverse
 let mut i:=x.size-1
 let mut j:=y.size
 let mut o:Array Keyed:=#[<- elem' x i]
 if i==0 then return fi o i j
 if j==1 then return fb o i j
 let mut mg:=gallopOf (<- get)
 for _ in [0:tot] do
  let mut ac:=0
  let mut bc:=0
  for _ in [0:tot] do
   let some aw <- lt' (<- elem' y (j-1)) (<- elem' x (i-1))|return fi o i j
   if aw then
    i:=i-1;o:=o.push (<- elem' x i);ac:=ac+1;bc:=0
    if i==0 then return fi o i j
    if ac >= mg then break
   else
    j:=j-1;o:=o.push (<- elem' y j);bc:=bc+1;ac:=0
    if j==1 then return fb o i j
    if bc >= mg then break
  rule "list.sort.gallop"
  mg:=mg+1
  for _ in [0:tot] do
   if mg > 1 then mg:=mg-1
   kM mg
   let some a <- jy false (<- elem' y (j-1)) x 0 i (i-1)|return fi o i j
   let k:=i-a
   ac:=k
   if k > 0 then
    o:=o++(x.extract a i).reverse;i:=a
    if i==0 then return fi o i j
   j:=j-1;o:=o.push (<- elem' y j)
   if j==1 then return fb o i j
   let some a <- jy true (<- elem' x (i-1)) y 0 j (j-1)|return fi o i j
   let k:=j-a
   bc:=k
   if k > 0 then
    o:=o++(y.extract a j).reverse;j:=a
    if j==1 then return fb o i j
    if j==0 then return fi o i j
   i:=i-1;o:=o.push (<- elem' x i)
   if i==0 then return fi o i j
   if ac<7&&bc<7 then break
  mg:=mg+1
  kM mg
 unsupported "internal:list.sort.merge-bound"):=rfl
noncomputable abbrev H2:=Option (Array Keyed)×Nat×Nat×Array Keyed×Nat×Nat×Nat
noncomputable def wu(x y o:Array Keyed)(i j mg ac bc:Nat):StateT SortSt Sem (ForInStep H2):=do
 let e <- elem' x (i-1)
 if(i-1==0)=true then pure (.done (some (x.extract 0 (i-1)++y.extract 0 j++(o.push e).reverse),i-1,j,o.push e,mg,ac,bc))
 else if(decide (ac<7)&&decide (bc<7))=true then pure (.done (none,i-1,j,o.push e,mg,ac,bc)) else pure (.yield (none,i-1,j,o.push e,mg,ac,bc))
def yl(x y o:Array Keyed)(i j mg ac bc:Nat):StateT SortSt Sem (ForInStep H2):=do
 let q <- elem' y (j-1)
 if(j-1==1)=true then pure (.done (some (y.extract 0 (j-1)++x.extract 0 i++(o.push q).reverse),i,j-1,o.push q,mg,ac,bc))
 else do
  let e <- elem' x (i-1)
  let r <- jy true e y 0 (j-1) (j-1-1)
  match r with
  |some a=>
   if j-1-a > 0 then
    if(a==1)=true then pure (.done (some (y.extract 0 a++x.extract 0 i++(o.push q++(y.extract a (j-1)).reverse).reverse),i,a,o.push q++(y.extract a (j-1)).reverse,mg,ac,j-1-a))
    else if(a==0)=true then pure (.done (some (x.extract 0 i++y.extract 0 a++(o.push q++(y.extract a (j-1)).reverse).reverse),i,a,o.push q++(y.extract a (j-1)).reverse,mg,ac,j-1-a))
    else wu x y (o.push q++(y.extract a (j-1)).reverse) i a mg ac (j-1-a)
   else wu x y (o.push q) i (j-1) mg ac (j-1-a)
  |_=>pure (.done (some (x.extract 0 i++y.extract 0 (j-1)++(o.push q).reverse),i,j-1,o.push q,mg,ac,bc))
def uY(x y o:Array Keyed)(i j mg ac bc:Nat):StateT SortSt Sem (ForInStep H2):=do
 kM mg
 let q <- elem' y (j-1)
 let r <- jy false q x 0 i (i-1)
 match r with
 |some a=>
  if i-a > 0 then
   if(a==0)=true then pure (.done (some (x.extract 0 a++y.extract 0 j++(o++(x.extract a i).reverse).reverse),a,j,o++(x.extract a i).reverse,mg,i-a,bc))
   else yl x y (o++(x.extract a i).reverse) a j mg (i-a) bc
  else yl x y o i j mg (i-a) bc
 |_=>pure (.done (some (x.extract 0 i++y.extract 0 j++o.reverse),i,j,o,mg,ac,bc))
noncomputable abbrev H1:=Option (Array Keyed)×Nat×Nat×Array Keyed×Nat×Nat
noncomputable def Fi(x y o:Array Keyed)(i j mg ac bc:Nat):StateT SortSt Sem (ForInStep H1):=do
 let q <- elem' y (j-1)
 let e <- elem' x (i-1)
 let r <- lt' q e
 match r with
 |some aw=>
  if aw=true then do
   let e <- elem' x (i-1)
   if(i-1==0)=true then pure (.done (some (x.extract 0 (i-1)++y.extract 0 j++(o.push e).reverse),i-1,j,o.push e,ac+1,0))
   else if ac+1 >= mg then pure (.done (none,i-1,j,o.push e,ac+1,0)) else pure (.yield (none,i-1,j,o.push e,ac+1,0))
  else do
   let q <- elem' y (j-1)
   if(j-1==1)=true then pure (.done (some (y.extract 0 (j-1)++x.extract 0 i++(o.push q).reverse),i,j-1,o.push q,0,bc+1))
   else if bc+1 >= mg then pure (.done (none,i,j-1,o.push q,0,bc+1)) else pure (.yield (none,i,j-1,o.push q,0,bc+1))
 |_=>pure (.done (some (x.extract 0 i++y.extract 0 j++o.reverse),i,j,o,ac,bc))
noncomputable abbrev H0:=Option (Array Keyed)×Nat×Nat×Array Keyed×Nat
def zL(x y:Array Keyed)(c:H0):StateT SortSt Sem (ForInStep H0):=do
 let d <- forIn [:x.size+y.size] ((none,c.snd.fst,c.snd.snd.fst,c.snd.snd.snd.fst,0,0):H1) λ_ d=>Fi x y d.snd.snd.snd.fst d.snd.fst d.snd.snd.fst c.snd.snd.snd.snd d.snd.snd.snd.snd.fst d.snd.snd.snd.snd.snd
 match d.fst with
 |some r=>pure (.done (some r,d.snd.fst,d.snd.snd.fst,d.snd.snd.snd.fst,c.snd.snd.snd.snd))
 |none=>do
  liftM (rule "list.sort.gallop")
  let g <- forIn [:x.size+y.size] ((none,d.snd.fst,d.snd.snd.fst,d.snd.snd.snd.fst,c.snd.snd.snd.snd+1,d.snd.snd.snd.snd.fst,d.snd.snd.snd.snd.snd):H2) λ_ g=>
   if g.snd.snd.snd.snd.fst > 1 then uY x y g.snd.snd.snd.fst g.snd.fst g.snd.snd.fst (g.snd.snd.snd.snd.fst-1) g.snd.snd.snd.snd.snd.fst g.snd.snd.snd.snd.snd.snd
   else uY x y g.snd.snd.snd.fst g.snd.fst g.snd.snd.fst g.snd.snd.snd.snd.fst g.snd.snd.snd.snd.snd.fst g.snd.snd.snd.snd.snd.snd
  match g.fst with
  |some r=>pure (.done (some r,g.snd.fst,g.snd.snd.fst,g.snd.snd.snd.fst,g.snd.snd.snd.snd.fst))
  |none=>do
   kM (g.snd.snd.snd.snd.fst+1)
   pure (.yield (none,g.snd.fst,g.snd.snd.fst,g.snd.snd.snd.fst,g.snd.snd.snd.snd.fst+1))
def highs(x y o:Array Keyed)(g:Nat):StateT SortSt Sem (Array Keyed):=do
 let c <- forIn [:x.size+y.size] ((none,x.size-1,y.size,o,g):H0) λ_ c=>zL x y c
 match c.fst with
 |some r=>pure r
 |none=>liftM (unsupported "internal:list.sort.merge-bound":Sem (Array Keyed))
theorem Yj(x y:Array Keyed):yT x y=(do
 liftM (rule "list.sort.merge-hi")
 let q <- elem' x (x.size-1)
 if(x.size-1==0)=true then pure (x.extract 0 (x.size-1)++y.extract 0 y.size++#[q].reverse)
 else if(y.size==1)=true then pure (y.extract 0 y.size++x.extract 0 (x.size-1)++#[q].reverse)
 else do
  let g <- get
  highs x y #[q] (gallopOf g)):=by
 rw[aaM];dsimp only
 congr 1
 funext _
 congr 1
 funext q
 refine ite_congr rfl (λ_=>rfl) λ_=>ite_congr rfl (λ_=>rfl) λ_=>?_
 congr 1
 funext g
 unfold highs
 congr 1
 .congr 1
  funext _ c
  unfold zL
  congr 1
  funext d
  obtain⟨r,d⟩:=d;cases r with
  |some r=>rfl
  |none=>
   dsimp only
   congr 1
   funext _
   congr 1
   funext g
   obtain⟨r,d⟩:=g;cases r<;>rfl
 .funext c
  obtain⟨r,c⟩:=c;cases r<;>rfl
theorem tP(x:Array Keyed)(a i:Nat):(x.extract a i).toList=(x.toList.take i).drop a:=by
 rw[aey,List.extract_eq_drop_take,List.drop_take]
theorem Lg(x:Array Keyed)(i:Nat):(x.extract 0 i).toList=x.toList.take i:=by rw[tP,List.drop_zero]
theorem M9(o x y:Array Keyed)(i j:Nat):(x.extract 0 i++y.extract 0 j++o.reverse).toList=x.toList.take i++y.toList.take j++o.toList.reverse:=by
 rw[adP,adP,Lg,Lg,Array.toList_reverse]
theorem Lo(o x:Array Keyed)(a i:Nat):(o++(x.extract a i).reverse).toList=o.toList++((x.toList.take i).drop a).reverse:=by rw[adP,Array.toList_reverse,tP]
structure Ch(x y:Array Keyed):Prop where
 ux:Up x.toList
 uy:Up y.toList
 ix:∀q∈x.toList,gn q
 iy:∀q∈y.toList,gn q
 fi:∀q e,y[0]? = some q->e∈x.toList->ky q<=ky e
noncomputable abbrev MB(x y o:Array Keyed)(i j:Nat):Prop:=MH x.toList y.toList o.toList i j
section
variable{x y o:Array Keyed}{i j a:Nat}{q e:Keyed}
theorem Ac{d:Array Keyed}{e:Keyed}(m:e∈(d.toList.take i).drop a):∃t,a<=t/\t<i/\d[t]? = some e:=by
 obtain⟨t,ht,rfl⟩:=List.mem_iff_getElem.mp m;rw[List.length_drop,adK] at ht;refine⟨a+t,by lia,by lia,?_⟩;rw[aeM,List.getElem_take,<- getL,aau]
theorem zZ{d:Array Keyed}{e:Keyed}(m:e∈d.toList.take i):∃t,t<i/\d[t]? = some e:=by
 obtain⟨t,_,h,r⟩:=Ac (by rw[List.drop_zero];exact m);exact⟨t,h,r⟩
theorem XM{d:Array Keyed}(u:Up d.toList){p q:Keyed}(kO:i<=j)(e1:d[i]? = some p)(e2:d[j]? = some q):ky p<=ky q:=u.DK kO (by rw[getL];exact e1) (by rw[getL];exact e2)
theorem yk{d:Array Keyed}(u:Up d.toList){f q:Keyed}(e:d[i-1]? = some q)(m:f∈d.toList.take i):ky f<=ky q:=by
 obtain⟨t,h,r⟩:=zZ m;exact XM u (by lia) r e
theorem Ag{d:Array Keyed}{q:Keyed}(h:1<=i)(e:d[i-1]? = some q):(d.toList.take i).drop (i-1)=[q]:=by
 rw[<- getL] at e;have:=take_one e;rw[List.drop_take]
 rwa [show i-(i-1)=1 by lia]
theorem MH.pushX(M:MB x y o i j)(C:Ch x y)(h:1<=i)(ee:x[i-1]? = some e)(c:∀f∈y.toList.take j,ky f<=ky e):MB x y (o.push e) (i-1) j:=by
 have w:=M.pJ C.ux (a:=i-1) (by omega) λf hf g hg=>by rw[Ag h ee] at hg;rw[aat.mp hg];exact c f hf
 rw[Ag h ee] at w;show MH _ _ (o.push e).toList _ _;rw[adO];exact w
theorem MH.qI(M:MB x y o i j)(C:Ch x y)(h:1<=j)(eq:y[j-1]? = some q)(c:∀f∈x.toList.take i,ky f<=ky q):MB x y (o.push q) i (j-1):=by
 have w:=M.vf C.uy (a:=j-1) (by lia) λf hf g hg=>by rw[Ag h eq] at hg;rw[aat.mp hg];exact c f hf
 rw[Ag h eq] at w;show MH _ _ (o.push q).toList _ _;rw[adO];exact w
theorem MH.vo(M:MB x y o i j)(C:Ch x y)(h:i=0\/j=0):GA x y (x.extract 0 i++y.extract 0 j++o.reverse):=by
 show Good _ _ _;rw[M9];refine M.good C.ux C.uy λe he f hf=>?_
 rcases h with h|h
 .rw[h,List.take_zero] at he;cases he
 .rw[h,List.take_zero] at hf;cases hf
theorem MH.yX(M:MB x y o i j)(C:Ch x y)(h:j=1):GA x y (y.extract 0 j++x.extract 0 i++o.reverse):=by
 show Good _ _ _;rw[M9];refine M.Bh C.ux C.uy λe he f hf=>?_
 obtain⟨t,ht,r⟩:=zZ he;rw[show t=0 by lia] at r;exact C.fi e f r (List.mem_of_mem_take hf)
theorem MH.CV(M:MB x y o i j)(C:Ch x y)(ha:a<=i)(eq:y[j-1]? = some q)(c:∀t,a<=t->t<i->bz false (ky q) (K x (0+t))=false):MB x y (o++(x.extract a i).reverse) a j:=by
 show MH _ _ _ _ _;rw[Lo];refine M.pJ C.ux ha λf hf g hg=>?_
 obtain⟨t,h1,h2,r⟩:=Ac hg;have w:=BU (c t h1 h2);rw[adX,eT r] at w;exact acT (yk C.uy eq hf) (adE w)
theorem MH.D_(M:MB x y o i j)(C:Ch x y)(ha:a<=j)(ee:x[i-1]? = some e)(c:∀t,a<=t->t<j->bz true (ky e) (K y (0+t))=false):MB x y (o++(y.extract a j).reverse) i a:=by
 show MH _ _ _ _ _;rw[Lo];refine M.vf C.uy ha λf hf g hg=>?_
 obtain⟨t,h1,h2,r⟩:=Ac hg;have w:=Cv (c t h1 h2);rw[adX,eT r] at w;exact acT (yk C.ux ee hf) w
end
section
variable{x y o:Array Keyed}{st:SortSt}{prog:Program}{w:World}{A:Around}{E:Value->Shared->Prop}{s:Shared}{i j mg k k1 ac bc N:Nat}
def Fh(x y:Array Keyed)(N:Nat)(r:Option (Array Keyed))(i j:Nat)(o:Array Keyed):Prop:=(∃z,r=some z/\GA x y z)\/(r=none/\MB x y o i j/\1<=i/\2<=j/\N<=o.size)
def E2(x y:Array Keyed)(N:Nat)(c:H2):Prop:=Fh x y N c.1 c.2.1 c.2.2.1 c.2.2.2.1
def R2(x y:Array Keyed)(N:Nat)(st:SortSt)(r:ForInStep H2)(ao:SortSt):Prop:=Sm st ao/\match r with
 |.done c=>E2 x y N c
 |.yield c=>c.1=none/\E2 x y N c
theorem oG{l:Array Keyed}(h:n<=l.toList.length):n<=l.size:=by rwa [ab2] at h
theorem Kf(C:Ch x y)(M:MB x y o i j)(hi:1<=i)(hj:2<=j)(c:∀e f,x[i-1]? = some e->f∈y.toList.take j->ky f<=ky e)(hN:N<=o.size):
  wpS (model prog w) A E s (wu x y o i j mg k k1) (R2 x y N st) st:=by
 unfold wu;have b1:=oG M.hi;obtain⟨e,ee⟩:=there x (i:=i-1) (by lia);refine ab9 (eS ee ?_);have M1:=M.pushX C hi ee λf hf=>c e f ee hf
 have sz:N<=(o.push e).size:=by rw[adG];lia
 by_cases h:i-1=0
 .rw[if_pos (by simpa using h)];exact ach ⟨.refl _,.inl ⟨_,rfl,M1.vo C (.inl h)⟩⟩
 .rw[aa7 (by simpa using h)]
  split
  .exact ach ⟨.refl _,.inr ⟨rfl,M1,by show 1<=i-1;lia,hj,sz⟩⟩
  .exact ach ⟨.refl _,rfl,.inr ⟨rfl,M1,by show 1<=i-1;lia,hj,sz⟩⟩
theorem L1(C:Ch x y)(hk:kindOf st=oneType')(M:MB x y o i j)(hi:1<=i)(hj:2<=j)(c:∀q f,y[j-1]? = some q->f∈x.toList.take i->ky f<=ky q)(hN:N<=o.size+1):
  wpS (model prog w) A E s (yl x y o i j mg k bc) (R2 x y N st) st:=by
 unfold yl;have b1:=oG M.hi;have b2:=oG M.hj;obtain⟨q,eq⟩:=there y (i:=j-1) (by lia);refine ab9 (eS eq ?_);have M1:=M.qI C (by lia) eq λf hf=>c q f eq hf
 have sz:N<=(o.push q).size:=by rw[adG];lia
 by_cases h:j-1=1
 .rw[if_pos (by simpa using h)];exact ach ⟨.refl _,.inl ⟨_,rfl,M1.yX C h⟩⟩
 .rw[aa7 (by simpa using h)];obtain⟨e,ee⟩:=there x (i:=i-1) (by lia);refine ab9 (eS ee ?_);refine ab9 (sF hk (yD C.uy C.iy (by lia)) (C.ix e (kZ ee)) (by lia) λm g1 g2 g3=>?_);dsimp only;have M2:=M1.D_ C g1 ee g3;have rest:∀e' f,x[i-1]? = some e'->f∈y.toList.take m->ky f<=ky e':=by
   intro e' f h1 h2;rw[ee] at h1;cases h1;obtain⟨t,ht,r⟩:=zZ h2;have g:=Fy (g2 t ht);rw[adX,eT r] at g;exact adE g
  by_cases m0:j-1-m > 0
  .rw[if_pos m0]
   by_cases h1:m=1
   .rw[if_pos (by simpa using h1)];exact ach ⟨.refl _,.inl ⟨_,rfl,M2.yX C h1⟩⟩
   .rw[aa7 (by simpa using h1)]
    by_cases h2:m=0
    .rw[if_pos (by simpa using h2)];exact ach ⟨.refl _,.inl ⟨_,rfl,M2.vo C (.inr h2)⟩⟩
    .rw[aa7 (by simpa using h2)];exact Kf C M2 hi (by lia) rest (by rw[aeN];lia)
  .rw[aa7 m0];have hm:m=j-1:=by lia
   rw[hm] at rest;exact Kf C M1 hi (by lia) rest sz
theorem R2.of{ao:SortSt}{r:ForInStep H2}{vY:SortSt}(a:Sm st ao)(h:R2 x y N ao r vY):R2 x y N st r vY:=⟨a.trans h.1,h.2⟩
theorem T6(C:Ch x y)(hk:kindOf st=oneType')(M:MB x y o i j)(hi:1<=i)(hj:2<=j)(hN:N<=o.size+1):wpS (model prog w) A E s (uY x y o i j mg ac bc) (R2 x y N st) st:=by
 unfold uY;have b1:=oG M.hi;have b2:=oG M.hj;refine ab9 (xx λao sm=>?_);have jG:=sm.1.trans hk;obtain⟨q,eq⟩:=there y (i:=j-1) (by lia);refine ab9 (eS eq ?_);refine ab9 (sF jG (yD C.ux C.ix (by lia)) (C.iy q (kZ eq)) (by lia) λm g1 g2 g3=>?_);dsimp only;have M2:=M.CV C g1 eq g3;have rest:∀q' f,y[j-1]? = some q'->f∈x.toList.take m->ky f<=ky q':=by
  intro q' f h1 h2;rw[eq] at h1;cases h1;obtain⟨t,ht,r⟩:=zZ h2;have g:=Cn (g2 t ht);rw[adX,eT r] at g;exact g
 by_cases m0:i-m > 0
 .rw[if_pos m0]
  by_cases h1:m=0
  .rw[if_pos (by simpa using h1)];exact ach ⟨sm,.inl ⟨_,rfl,M2.vo C (.inl h1)⟩⟩
  .rw[aa7 (by simpa using h1)];exact adn (L1 C jG M2 (by lia) hj rest (by rw[aeN];lia)) λ_ _ z=>R2.of sm z
 .rw[aa7 m0];have hm:m=i:=by lia
  rw[hm] at rest;exact adn (L1 C jG M hi hj rest hN) λ_ _ z=>R2.of sm z
def E1(x y:Array Keyed)(N:Nat)(c:H1):Prop:=Fh x y N c.1 c.2.1 c.2.2.1 c.2.2.2.1
theorem ZI(C:Ch x y)(hk:kindOf st=oneType')(M:MB x y o i j)(hi:1<=i)(hj:2<=j)(hN:N<=o.size):
  wpS (model prog w) A E s (Fi x y o i j mg ac bc) (λr ao=>ao=st/\match r with
   |.done c=>E1 x y N c
   |.yield c=>c.1=none/\E1 x y N c) st:=by
 unfold Fi;have b1:=oG M.hi;have b2:=oG M.hj;obtain⟨q,eq⟩:=there y (i:=j-1) (by lia);obtain⟨e,ee⟩:=there x (i:=i-1) (by lia);refine ab9 (eS eq (ab9 (eS ee (ab9 (xW hk (C.iy q (kZ eq)) (C.ix e (kZ ee)) ?_)))));dsimp only
 by_cases g:ky q<ky e
 .rw[if_pos (abU g)];refine ab9 (eS ee ?_);have M1:=M.pushX C hi ee λf hf=>acT (yk C.uy eq hf) (adE g)
  have sz:N<=(o.push e).size:=by rw[adG];lia
  by_cases h:i-1=0
  .rw[if_pos (by simpa using h)];exact ach ⟨rfl,.inl ⟨_,rfl,M1.vo C (.inl h)⟩⟩
  .rw[aa7 (by simpa using h)]
   split
   .exact ach ⟨rfl,.inr ⟨rfl,M1,by show 1<=i-1;lia,hj,sz⟩⟩
   .exact ach ⟨rfl,rfl,.inr ⟨rfl,M1,by show 1<=i-1;lia,hj,sz⟩⟩
 .rw[aa7 (by simpa using g)];refine ab9 (eS eq ?_);have M1:=M.qI C (by lia) eq λf hf=>acT (yk C.ux ee hf) (Int.not_lt.mp g)
  have sz:N<=(o.push q).size:=by rw[adG];lia
  by_cases h:j-1=1
  .rw[if_pos (by simpa using h)];exact ach ⟨rfl,.inl ⟨_,rfl,M1.yX C h⟩⟩
  .rw[aa7 (by simpa using h)]
   split
   .exact ach ⟨rfl,.inr ⟨rfl,M1,hi,by show 2<=j-1;lia,sz⟩⟩
   .exact ach ⟨rfl,rfl,.inr ⟨rfl,M1,hi,by show 2<=j-1;lia,sz⟩⟩
def E0(x y:Array Keyed)(N:Nat)(c:H0):Prop:=Fh x y N c.1 c.2.1 c.2.2.1 c.2.2.2.1
theorem XI(C:Ch x y)(hk:kindOf st=oneType')(M:MB x y o i j)(hi:1<=i)(hj:2<=j)(hN:N<=o.size):
  wpS (model prog w) A E s (zL x y (none,i,j,o,mg)) (λr ao=>Sm st ao/\match r with
   |.done c=>∃z,c.1=some z/\GA x y z
   |.yield c=>c.1=none/\E0 x y (N+1) c) st:=by
 unfold zL;have b2:=oG M.hj;refine ab9 (adn (adh (I:=λ_ c ao=>ao=st/\c.1=none/\E1 x y N c) (Q:=λc ao=>ao=st/\E1 x y N c) ?s1 (λc ao z=>⟨z.1,z.2.2⟩) ⟨rfl,rfl,.inr ⟨rfl,M,hi,hj,hN⟩⟩) ?p1)
 case s1=>
  rintro _ ⟨r,i,j,o,ac,bc⟩ ao _ _ ⟨rfl,rfl,f⟩
  rcases f with⟨z,h,_⟩|⟨_,g1,g2,g3,g4⟩
  .cases h
  .refine adn (ZI C hk g1 g2 g3 g4) λr aP z=>?_
   obtain⟨rfl,z⟩:=z;cases r with
   |done c=>exact⟨rfl,z⟩
   |yield c=>exact⟨rfl,z⟩
 case p1=>
  rintro⟨r,i,j,o,ac,bc⟩ ao ⟨rfl,f⟩
  rcases f with⟨z,h,g⟩|⟨h,g1,g2,g3,g4⟩
  .have h:=h;subst h;exact ach ⟨.refl _,z,rfl,g⟩
  .have h:=h;subst h;dsimp only;refine ab9 (wpS_lift (ady ⟨rfl,?_⟩));refine ab9 (adn (adh (I:=λn c aP=>Sm ao aP/\c.1=none/\E2 x y (if n=0 then N else N+1) c) (Q:=λc aP=>Sm ao aP/\E2 x y (N+1) c) ?s2 ?f2 ⟨.refl _,rfl,.inr ⟨rfl,g1,g2,g3,by rw[if_pos rfl];exact g4⟩⟩) ?p2)
   case f2=>
    rintro c aP ⟨z1,z2,z3⟩
    have hz:max 0 (x.size+y.size)≠0:=by lia
    rw[aa7 hz] at z3;exact⟨z1,z3⟩
   case s2=>
    rintro n ⟨r,i,j,o,mg,ac,bc⟩ aP _ _ ⟨sm,rfl,f⟩
    rcases f with⟨z,h,_⟩|⟨_,g1,g2,g3,g4⟩
    .cases h
    .have g4:(if n=0 then N else N+1)<=o.size:=g4;have g5:N+1<=o.size+1:=by split at g4<;>lia
     have step:∀uv,wpS (model prog w) A E s (uY x y o i j uv ac bc) (λr cZ=>match r with
       |.done c=>Sm ao cZ/\E2 x y (N+1) c
       |.yield c=>Sm ao cZ/\c.1=none/\E2 x y (if n+1=0 then N else N+1) c) aP:=λuv=>by
      refine adn (T6 C (sm.1.trans hk) g1 g2 g3 g5) λr cZ z=>?_
      rw[aa7 (by lia)];cases r with
      |done c=>exact⟨sm.trans z.1,z.2⟩
      |yield c=>exact⟨sm.trans z.1,z.2⟩
     dsimp only
     split
     .exact adn (step _) λr cZ z=>by cases r<;>exact z
     .exact adn (step _) λr cZ z=>by cases r<;>exact z
   case p2=>
    rintro⟨r,i,j,o,mg,ac,bc⟩ aP ⟨sm,f⟩
    rcases f with⟨z,h,g⟩|⟨h,g1,g2,g3,g4⟩
    .have h:r=some z:=h;subst h;exact ach ⟨sm,z,rfl,g⟩
    .have h:r=none:=h;subst h;dsimp only;exact ab9 (xx λcZ s3=>ach ⟨sm.trans s3,rfl,.inr ⟨rfl,g1,g2,g3,g4⟩⟩)
theorem Yo{Q:Array Keyed->SortSt->Prop}(C:Ch x y)(hk:kindOf st=oneType')(hx:0<x.size)(hy:0<y.size)(c:∀q e,x[x.size-1]? = some q->e∈y.toList->ky e<=ky q)
  (h:∀z ao,Sm st ao->GA x y z->Q z ao):wpS (model prog w) A E s (yT x y) Q st:=by
 rw[Yj];refine ab9 (wpS_lift (ady ⟨rfl,?_⟩));obtain⟨q,eq⟩:=there x (i:=x.size-1) (by lia);refine ab9 (eS eq ?_);have M0:MB x y #[] x.size y.size:=⟨by simp,by simp,by rw[adA (by simp),adA (by simp)];simp,.nil,by simp,by simp⟩
 have M1:=M0.pushX C (by lia) eq λf hf=>c q f eq (List.mem_of_mem_take hf)
 by_cases h1:x.size-1=0
 .rw[if_pos (by simpa using h1)];exact ach (h _ st (.refl _) (M1.vo C (.inl h1)))
 .rw[aa7 (by simpa using h1)]
  by_cases h2:y.size=1
  .rw[if_pos (by simpa using h2)];exact ach (h _ st (.refl _) (M1.yX C h2))
  .rw[aa7 (by simpa using h2)];refine ab9 (wpS_get ?_);unfold highs;have a1:1<=x.size-1:=by lia
   have a2:2<=y.size:=by lia
   refine ab9 (adn (adh (I:=λn (c:H0) ao=>Sm st ao/\c.1=none/\E0 x y (n+1) c) (Q:=λ(c:H0) ao=>Sm st ao/\∃z,c.1=some z/\GA x y z) ?s ?f ⟨.refl _,rfl,.inr ⟨rfl,M1,a1,a2,aa2 1⟩⟩) ?pp)
   case s=>
    rintro n ⟨r,i,j,o,mg⟩ aP _ _ ⟨sm,rfl,f⟩
    rcases f with⟨z,h,_⟩|⟨_,g1,g2,g3,g4⟩
    .cases h
    .refine adn (XI C (sm.1.trans hk) g1 g2 g3 g4) λr cZ z=>?_
     cases r with
     |done c=>exact⟨sm.trans z.1,z.2⟩
     |yield c=>exact⟨sm.trans z.1,z.2⟩
   case f=>
    rintro⟨r,i,j,o,mg⟩ aP ⟨sm,rfl,f⟩
    exfalso
    rcases f with⟨z,h,_⟩|⟨_,g1,g2,g3,g4⟩
    .cases h
    .have g:=MH.len g1;simp only[ab2] at g;have g4:max 0 (x.size+y.size)+1<=o.size:=g4;have g2:=g2
     lia
   case pp=>
    rintro⟨r,c⟩ aP ⟨sm,z,hz,g⟩
    have hz:=hz;subst hz;exact ach (h z aP sm g)
end
theorem U9(n:Nat):mergeAt' n=(do
 let c <- get
 let(some (sa,na,pw),some (sb,nb,_)):=((pendingOf c)[n]?,(pendingOf c)[n+1]?)|unsupported "internal:list.sort.pending"
 set (SortSt.mk' (kindOf c) (arrOf c) (((pendingOf c).setIfInBounds n (sa,na+nb,pw)).eraseIdxIfInBounds (n+1)) (gallopOf c) (failedOf c))
 let some k <- jy false (<- elem' (arrOf c) sb) (arrOf c) sa na 0|return false
 let(sa,na):=(sa+k,na-k)
 if na==0 then return true
 let some nb <- jy true (<- elem' (arrOf c) (sa+na-1)) (arrOf c) sb nb (nb-1)|return false
 if nb==0 then return true
 let x:=(arrOf c).extract sa sb
 let y:=(arrOf c).extract sb (sb+nb)
 let m <- if na<=nb then wN x y else yT x y
 modify λs=>PyProof.Rows.setArr s (m.toList.zipIdx.foldl (λa (p,j)=>a.setIfInBounds (sa+j) p) (arrOf s))
 return(failedOf (<- get)).isNone):=rfl
noncomputable def wr(l:List Keyed)(s n:Nat)(xs:Array Keyed):Array Keyed:=(l.zipIdx n).foldl (λa (p,j)=>a.setIfInBounds (s+j) p) xs
theorem R3(p:Keyed)(l:List Keyed)(s n:Nat)(xs:Array Keyed):wr (p::l) s n xs=wr l s (n+1) (xs.setIfInBounds (s+n) p):=rfl
theorem Lh:∀(l:List Keyed) (s n:Nat) (xs:Array Keyed),s+n+l.length<=xs.size->∀k:Nat,(wr l s n xs)[k]? = if s+n<=k/\k<s+n+l.length then l[k-(s+n)]? else xs[k]?
 |[],s,n,xs,h,k=>by
  have hl:([]:List Keyed).length=0:=rfl;rw[aa7 (by rw[hl];lia)];rfl
 |p::l,s,n,xs,h,k=>by
  have hl:(p::l).length=l.length+1:=rfl;rw[R3,Lh l s (n+1) _ (by rw[Array.size_setIfInBounds];lia) k]
  by_cases h1:k=s+n
  .subst h1;rw[aa7 (by lia),if_pos (by lia),Array.getElem?_setIfInBounds_self_of_lt (by lia)];simp
  .by_cases h2:s+(n+1)<=k/\k<s+(n+1)+l.length
   .rw[if_pos h2,if_pos (by lia),show k-(s+n)=(k-(s+(n+1)))+1 by lia];simp
   .rw[aa7 h2,aa7 (by lia),Array.getElem?_setIfInBounds_ne (by lia)]
section
variable{a₀:Array Keyed}{p:Array (Nat×Nat×Nat)}{st:SortSt}{prog:Program}{w:World}{A:Around}{E:Value->Shared->Prop}{s:Shared}
theorem SB.int(hB:SB a₀ p st)(h0:IntKeys a₀){i:Nat}{q:Keyed}(e:(arrOf st)[i]? = some q):gn q:=by
 have m:=kZ e;exact h0 q ((adq.mp hB.perm).mem_iff.mp m)
theorem SB.sub(hB:SB a₀ p st)(h0:IntKeys a₀)(h:b+n<=a₀.size)(hs:eG (arrOf st) b (b+n)):Sub (arrOf st) b n (λt=>K (arrOf st) (b+t)):=by
 refine⟨λt ht=>?_,λi j kO hj=>hs _ _ (by lia) (by lia) (by lia)⟩;obtain⟨q,e⟩:=there (arrOf st) (i:=b+t) (by rw[hB.size];lia);exact⟨q,e,hB.int h0 e,(eT e).symm⟩
theorem BO{xs:Array Keyed}(h:i<b-a)(hb:b<=xs.size):(xs.extract a b)[i]? = xs[a+i]? :=by
 rw[Array.getElem?_extract,if_pos (by lia)]
theorem KS{xs:Array Keyed}{q:Keyed}(hb:b<=xs.size)(m:q∈(xs.extract a b).toList):∃t,a<=t/\t<b/\xs[t]? = some q:=by
 rw[tP] at m;exact Ac m
theorem Oe{xs:Array Keyed}(hb:b<=xs.size)(hs:eG xs a b):Up (xs.extract a b).toList:=by
 refine ac6.mpr λi j hi hj kO=>?_
 have sz:(xs.extract a b).size=b-a:=by rw[Array.size_extract,adQ hb]
 rw[ab2,sz] at hi hj;have g:∀{t:Nat} (h:t<(xs.extract a b).toList.length),K xs (a+t)=ky (xs.extract a b).toList[t]:=by
  intro t h;have ht:t<b-a:=by rw[ab2,sz] at h;exact h
  refine eT ?_;rw[<- BO ht hb,<- getL,aau]
 rw[<- g,<- g];exact hs _ _ (by lia) (by lia) (by lia)
theorem Yy{Q:Bool->SortSt->Prop}(h0:IntKeys a₀)(hB:SB a₀ p st)(e1:p[n]? = some (sa,na,pw))(e2:p[n+1]? = some (sa+na,nb,M6))(h1:1<=na)(h2:1<=nb)(hz:sa+na+nb<=a₀.size)
  (s1:eG (arrOf st) sa (sa+na)) (s2:eG (arrOf st) (sa+na) (sa+na+nb))
  (h:∀ao,SB a₀ ((p.setIfInBounds n (sa,na+nb,pw)).eraseIdxIfInBounds (n+1)) ao->eG (arrOf ao) sa (sa+na+nb)->dY (arrOf st) (arrOf ao) sa (sa+na+nb)->Q true ao) :
  wpS (model prog w) A E s (mergeAt' n) Q st:=by
 rw[U9];refine ab9 (wpS_get ?_);rw[hB.pend,e1,e2];dsimp only;generalize hX:arrOf st=X;have zX:X.size=a₀.size:=by rw[<- hX];exact hB.size
 rw[hX] at s1 s2 h;have Zl:∀{c:SortSt}{Q':PUnit->SortSt->Prop},Q' ⟨⟩ c->wpS (model prog w) A E s (set c:StateT SortSt Sem PUnit) Q' st:=by
  intro c Q' hq;unfold wpS;rw[StateT.run_set];exact aaC ⟨rfl,hq⟩
 refine ab9 (Zl ?_);generalize fC:SortSt.mk' (kindOf st) X ((p.setIfInBounds n (sa,na+nb,pw)).eraseIdxIfInBounds (n+1)) (gallopOf st) (failedOf st)=fB;have jm:SB a₀ ((p.setIfInBounds n (sa,na+nb,pw)).eraseIdxIfInBounds (n+1)) fB:=by subst fC;exact⟨by show X.Perm a₀;rw[<- hX];exact hB.perm,hB.kind,hB.failed,rfl⟩
 have kY:arrOf fB=X:=by subst fC;rfl
 obtain⟨qb,eb⟩:=there X (i:=sa+na) (by omega);have kb:=eT eb;have S1:Sub X sa na (λt=>K X (sa+t)):=by have:=jm.sub h0 (b:=sa) (n:=na) (by omega) (by rw[kY];exact s1);rwa [kY] at this
 have S2:Sub X (sa+na) nb (λt=>K X (sa+na+t)):=by have:=jm.sub h0 (n:=nb) (by omega) (by rw[kY];exact s2);rwa [kY] at this
 have xF:∀{i:Nat}{q:Keyed},X[i]? = some q->gn q:=λ{i q} e=>jm.int h0 (by rw[kY];exact e)
 refine ab9 (eS eb (ab9 (sF jm.kind S1 (xF eb) (by omega) λk k1 k2 k3=>?_)));dsimp only;have Ck:∀i,sa<=i->i<sa+k->K X i<=K X (sa+na):=λi i1 i2=>by
  have g:=Cn (k2 (i-sa) (by omega));rw[show sa+(i-sa)=i by omega] at g;rw[kb];exact g
 have YK:∀i,sa+k<=i->i<sa+na->K X (sa+na)<K X i:=λi i1 i2=>by
  have g:=BU (k3 (i-sa) (by omega) (by omega));rw[show sa+(i-sa)=i by omega] at g;rw[kb];exact g
 by_cases hk:na-k=0
 .rw[if_pos (by simpa using hk)];refine ach (h fB jm ?_ (by rw[kY];exact .refl _ _ _));rw[kY];intro i j q1 q2 q3
  by_cases c1:j<sa+na
  .exact s1 i j q1 q2 c1
  .by_cases c2:i<sa+na
   .exact acT (Ck i q1 (by omega)) (s2 _ _ (aa2 _) (by omega) q3)
   .exact s2 i j (by omega) q2 q3
 .rw[aa7 (by simpa using hk)];obtain⟨ql,el⟩:=there X (i:=sa+k+(na-k)-1) (by omega);have kl:K X (sa+na-1)=ky ql:=by rw[<- eT el];congr 1;omega
  refine ab9 (eS el (ab9 (sF jm.kind S2 (xF el) (by omega) λm m1 m2 m3=>?_)));dsimp only;have O6:∀i,sa+na<=i->i<sa+na+m->K X i<K X (sa+na-1):=λi i1 i2=>by
   have g:=Fy (m2 (i-(sa+na)) (by omega));rw[show sa+na+(i-(sa+na))=i by omega] at g;rw[kl];exact g
  have MW:∀i,sa+na+m<=i->i<sa+na+nb->K X (sa+na-1)<=K X i:=λi i1 i2=>by
   have g:=Cv (m3 (i-(sa+na)) (by omega) (by omega));rw[show sa+na+(i-(sa+na))=i by omega] at g;rw[kl];exact g
  by_cases hm:m=0
  .rw[if_pos (by simpa using hm)];refine ach (h fB jm ?_ (by rw[kY];exact .refl _ _ _));rw[kY];intro i j q1 q2 q3
   by_cases c1:j<sa+na
   .exact s1 i j q1 q2 c1
   .by_cases c2:i<sa+na
    .exact acT (s1 i (sa+na-1) q1 (by omega) (by omega)) (MW j (by omega) q3)
    .exact s2 i j (by omega) q2 q3
  .rw[aa7 (by simpa using hm)];generalize hx:X.extract (sa+k) (sa+na)=x;generalize hy:X.extract (sa+na) (sa+na+m)=y;have zx:x.size=na-k:=by rw[<- hx,Array.size_extract,adQ (by omega)];omega
   have zy:y.size=m:=by rw[<- hy,Array.size_extract,adQ (by omega)];omega
   have ux:Up x.toList:=by rw[<- hx];exact Oe (by omega) λi j q1 q2 q3=>s1 i j (by omega) q2 q3
   have uy:Up y.toList:=by rw[<- hy];exact Oe (by omega) λi j q1 q2 q3=>s2 i j q1 q2 (by omega)
   have zQ:∀q∈x.toList,∃t,sa+k<=t/\t<sa+na/\X[t]? = some q:=λq hq=>by rw[<- hx] at hq;exact KS (by omega) hq
   have yG:∀q∈y.toList,∃t,sa+na<=t/\t<sa+na+m/\X[t]? = some q:=λq hq=>by rw[<- hy] at hq;exact KS (by omega) hq
   have ix:∀q∈x.toList,gn q:=λq hq=>let⟨t,_,_,e⟩:=zQ q hq;xF e
   have iy:∀q∈y.toList,gn q:=λq hq=>let⟨t,_,_,e⟩:=yG q hq;xF e
   have la:∀q f,x[x.size-1]? = some q->f∈y.toList->ky f<=ky q:=by
    intro q f hq hf;rw[<- hx,BO (by rw[hx,zx];omega) (by omega),hx,zx] at hq;obtain⟨t,t1,t2,et⟩:=yG f hf;rw[<- eT hq,<- eT et,show sa+k+(na-k-1)=sa+na-1 by omega];exact adE (O6 t t1 t2)
   have fi:∀q e,y[0]? = some q->e∈x.toList->ky q<=ky e:=by
    intro q e hq he;rw[<- hy,BO (by omega) (by omega)] at hq;obtain⟨t,t1,t2,et⟩:=zQ e he;rw[<- eT hq,<- eT et];exact adE (YK t t1 t2)
   have fin:∀z aP,Sm fB aP->GA x y z->wpS (model prog w) A E s (do
     modify λs=>PyProof.Rows.setArr s (z.toList.zipIdx.foldl (λa (p,j)=>a.setIfInBounds (sa+k+j) p) (arrOf s))
     let c <- get
     pure (failedOf c).isNone) Q aP:=by
    intro z aP sm g;refine ab9 (wpS_modify (ab9 (wpS_get (ach ?_))));have e2:=sm.2.1.trans kY;generalize zC:PyProof.Rows.setArr aP (z.toList.zipIdx.foldl (λa (p,j)=>a.setIfInBounds (sa+k+j) p) (arrOf aP))=cZ;have e3:arrOf cZ=wr z.toList (sa+k) 0 X:=by subst zC;show _=_;rw[<- e2];rfl
    have f3:failedOf cZ=none:=by subst zC;exact sm.2.2.2.trans jm.failed
    rw[f3];have lz:z.toList.length=(na-k)+m:=by
     have:=g.1.length_eq;simp only[ack,ab2] at this ⊢;omega
    have get3:∀i:Nat,(arrOf cZ)[i]? = if sa+k<=i/\i<sa+na+m then z.toList[i-(sa+k)]? else X[i]? :=by
     intro i;rw[e3,Lh _ _ _ _ (by rw[lz];omega),lz];simp only[Nat.add_zero]
     by_cases c:sa+k<=i/\i<sa+k+(na-k+m)
     .rw[if_pos c,if_pos (by omega)]
     .rw[aa7 c,aa7 (by omega)]
    have z8:∀i,¬(sa+k<=i/\i<sa+na+m)->K (arrOf cZ) i=K X i:=λi c=>K_congr (by rw[get3,aa7 c])
    have EK:∀i,sa+k<=i->i<sa+na+m->∃q,z.toList[i-(sa+k)]? = some q/\K (arrOf cZ) i=ky q:=λi c1 c2=>by
     obtain⟨q,eq⟩:∃q,z.toList[i-(sa+k)]? = some q:=⟨_,aau (by omega)⟩
     exact⟨q,eq,eT (by rw[get3,if_pos ⟨c1,c2⟩];exact eq)⟩
    have Hs:∀q,q∈z.toList->q∈x.toList\/q∈y.toList:=λq hq=>ab3.mp (g.1.mem_iff.mp hq)
    have lo:∀(v:Int) (i:Nat) (q:Keyed),(∀t,sa+k<=t->t<sa+na->v<=K X t)->(∀t,sa+na<=t->t<sa+na+m->v<=K X t)->z.toList[i]? = some q->v<=ky q:=by
     intro v i q g1 g2 e;rcases Hs q (by obtain⟨h,rfl⟩:=ace.mp e;exact adM h) with hq|hq
     .obtain⟨t,t1,t2,et⟩:=zQ q hq;rw[<- eT et];exact g1 t t1 t2
     .obtain⟨t,t1,t2,et⟩:=yG q hq;rw[<- eT et];exact g2 t t1 t2
    have hi:∀(v:Int) (i:Nat) (q:Keyed),(∀t,sa+k<=t->t<sa+na->K X t<=v)->(∀t,sa+na<=t->t<sa+na+m->K X t<=v)->z.toList[i]? = some q->ky q<=v:=by
     intro v i q g1 g2 e;rcases Hs q (by obtain⟨h,rfl⟩:=ace.mp e;exact adM h) with hq|hq
     .obtain⟨t,t1,t2,et⟩:=zQ q hq;rw[<- eT et];exact g1 t t1 t2
     .obtain⟨t,t1,t2,et⟩:=yG q hq;rw[<- eT et];exact g2 t t1 t2
    refine h cZ ⟨?_,?_,f3,?_⟩ ?_ ?_
    .refine Array.Perm.trans ?_ (show X.Perm a₀ by rw[<- hX];exact hB.perm);rw[adq];have lX:X.toList=X.toList.take (sa+k)++(x.toList++y.toList)++X.toList.drop (sa+na+m):=by
      rw[<- hx,<- hy,tP,tP];have a1:X.toList.take (sa+na)=X.toList.take (sa+k)++(X.toList.take (sa+na)).drop (sa+k):=by
       have:=(adv (sa+k) (X.toList.take (sa+na))).symm
       rwa [List.take_take,adQ (by omega)] at this
      have a2:X.toList.take (sa+na+m)=X.toList.take (sa+na)++(X.toList.take (sa+na+m)).drop (sa+na):=by
       have:=(adv (sa+na) (X.toList.take (sa+na+m))).symm
       rwa [List.take_take,adQ (by omega)] at this
      rw[<- acw,<- a1,<- a2,adv]
     have l3:(arrOf cZ).toList=X.toList.take (sa+k)++z.toList++X.toList.drop (sa+na+m):=by
      refine aeO λi=>?_
      rw[getL,get3];have tl:(X.toList.take (sa+k)).length=sa+k:=by rw[adK,ab2];omega
      by_cases c1:i<sa+k
      .rw[aa7 (by omega),acw,ac4 (by omega),List.getElem?_take_of_lt c1,getL]
      .by_cases c2:i<sa+na+m
       .rw[if_pos ⟨by omega,c2⟩,acw,ado (by omega),tl,ac4 (by omega)]
       .rw[aa7 (by omega),ado (by rw[ack];omega),ack,tl,lz,List.getElem?_drop,getL]
        congr 1
        omega
     rw[l3];exact List.Perm.trans (List.Perm.append_right _ (List.Perm.append_left _ g.1)) (List.Perm.of_eq lX.symm)
    .subst zC;exact sm.1.trans jm.kind
    .subst zC;exact sm.2.2.1.trans jm.pend
    .intro i j q1 q2 q3
     by_cases ci:sa+k<=i/\i<sa+na+m
     .obtain⟨q,eq,kq⟩:=EK i ci.1 ci.2
      by_cases cj:sa+k<=j/\j<sa+na+m
      .obtain⟨r,er,kr⟩:=EK j cj.1 cj.2;rw[kq,kr];exact g.2.DK (by omega) eq er
      .rw[kq,z8 j cj];refine hi _ _ q (λt t1 t2=>acT (s1 t (sa+na-1) (by omega) (by omega) (by omega)) (MW j (by omega) q3)) (λt t1 t2=>s2 t j t1 (by omega) q3) eq
     .rw[z8 i ci]
      by_cases cj:sa+k<=j/\j<sa+na+m
      .obtain⟨r,er,kr⟩:=EK j cj.1 cj.2;rw[kr];refine lo _ _ r (λt t1 t2=>s1 i t q1 (by omega) t2) (λt t1 t2=>acT (Ck i q1 (by omega)) (s2 _ _ (aa2 _) t1 (by omega))) er
      .rw[z8 j cj]
       by_cases c1:j<sa+na
       .exact s1 i j q1 q2 c1
       .by_cases c2:i<sa+na
        .exact acT (Ck i q1 (by omega)) (s2 _ _ (aa2 _) (by omega) q3)
        .exact s2 i j (by omega) q2 q3
    .intro i hi;exact z8 i (by omega)
   by_cases hle:na-k<=m
   .rw[if_pos hle];refine ab9 (Pz ⟨ux,uy,ix,iy,λi q f hi hq hf=>la q f (by rw[<- hq];congr 1;omega) hf⟩ jm.kind (by omega) (by omega) fi fin)
   .rw[aa7 hle];exact ab9 (Yo ⟨ux,uy,ix,iy,fi⟩ jm.kind (by omega) (by omega) la fin)
end
def Runs(X:Array Keyed):List (Nat×Nat×Nat)->Nat->Nat->Prop
 |[],s,e=>s=e
 |q::r,s,e=>q.1=s/\1<=q.2.1/\eG X s (s+q.2.1)/\Runs X r (s+q.2.1) e
section
variable{X Y:Array Keyed}
theorem Runs.len:∀{l:List (Nat×Nat×Nat)}{s e:Nat},Runs X l s e->s+l.length<=e
 |[],s,e,h=>by
  have h:=h;rw[h];exact aa2 _
 |q::r,s,e,h=>by
  have g:=Runs.len h.2.2.2;have g2:=h.2.1;rw[acj]
  lia
theorem Runs.keep:∀{l:List (Nat×Nat×Nat)}{s e:Nat},Runs X l s e->(∀k,s<=k->k<e->K Y k=K X k)->Runs Y l s e
 |[],_,_,h,_=>h
 |q::r,s,e,h,k=>by
  have g:=Runs.len h.2.2.2;refine⟨h.1,h.2.1,λi j q1 q2 q3=>?_,Runs.keep h.2.2.2 λm m1 m2=>k m (by lia) m2⟩;rw[k i q1 (by lia),k j (by lia) (by lia)];exact h.2.2.1 i j q1 q2 q3
theorem Runs.power(w:Nat):∀{l:List (Nat×Nat×Nat)}{s e:Nat} (i:Nat),Runs X l s e->Runs X (l.modify i λx=>(x.fst,x.2.fst,w)) s e
 |[],s,e,i,h=>by cases i<;>exact h
 |q::r,s,e,0,h=>h
 |q::r,s,e,i+1,h=>⟨h.1,h.2.1,h.2.2.1,Runs.power w i h.2.2.2⟩
theorem Runs.push:∀{l:List (Nat×Nat×Nat)}{s e n:Nat},Runs X l s e->1<=n->eG X e (e+n)->Runs X (l++[(e,n,0)]) s (e+n)
 |[],s,e,n,h,h1,h2=>by
  have h:=h;subst h;exact⟨rfl,h1,h2,rfl⟩
 |q::r,s,e,n,h,h1,h2=>⟨h.1,h.2.1,h.2.2.1,Runs.push h.2.2.2 h1 h2⟩
theorem Runs.two:∀{l:List (Nat×Nat×Nat)}{s e n:Nat}{a b:Nat×Nat×Nat},Runs X l s e->l[n]? = some a->l[n+1]? = some b->
  b.1=a.1+a.2.1/\1<=a.2.1/\1<=b.2.1/\s<=a.1/\a.1+a.2.1+b.2.1<=e/\eG X a.1 (a.1+a.2.1)/\eG X (a.1+a.2.1) (a.1+a.2.1+b.2.1)
 |[],_,_,_,_,_,_,e1,_=>by simp at e1
 |[q],_,_,n,_,_,_,_,e2=>by simp at e2
 |q::r::t,s,e,0,a,b,h,e1,e2=>by
  have e1:q=a:=by simpa using e1
  have e2:r=b:=by simpa using e2
  subst e1 e2;obtain⟨h1,h2,h3,h4,h5,h6,h7⟩:=h;have g:=Runs.len h7;subst h1;exact⟨h4,h2,h5,aa2 _,by lia,h3,h6⟩
 |q::r::t,s,e,n+1,a,b,h,e1,e2=>by
  obtain⟨w1,w2,w3,w4,w5⟩:=Runs.two h.2.2.2 (by simpa using e1) (by simpa using e2);exact⟨w1,w2,w3,by lia,w5⟩
theorem Runs.one:∀{l:List (Nat×Nat×Nat)}{s e n:Nat}{a b:Nat×Nat×Nat},Runs X l s e->l[n]? = some a->l[n+1]? = some b->dY X Y a.1 (a.1+a.2.1+b.2.1)->eG Y a.1 (a.1+a.2.1+b.2.1)->
  Runs Y ((l.set n (a.1,a.2.1+b.2.1,a.2.2)).eraseIdx (n+1)) s e
 |[],_,_,_,_,_,_,e1,_,_,_=>by simp at e1
 |[q],_,_,n,_,_,_,_,e2,_,_=>by simp at e2
 |q::r::t,s,e,0,a,b,h,e1,e2,el,so=>by
  have e1:q=a:=by simpa using e1
  have e2:r=b:=by simpa using e2
  subst e1 e2;obtain⟨h1,h2,h3,h4,h5,h6,h7⟩:=h;subst h1;refine⟨rfl,by show 1<=q.2.1+r.2.1;lia,?_,?_⟩
  .show eG Y q.1 (q.1+(q.2.1+r.2.1));rw[<- Nat.add_assoc];exact so
  .show Runs Y t (q.1+(q.2.1+r.2.1)) e;rw[<- Nat.add_assoc];exact Runs.keep h7 λk k1 k2=>el k (by lia)
 |q::r::t,s,e,n+1,a,b,h,e1,e2,el,so=>by
  have f1:(r::t)[n]? = some a:=by simpa using e1
  have f2:(r::t)[n+1]? = some b:=by simpa using e2
  obtain⟨_,_,_,w4,_⟩:=Runs.two h.2.2.2 f1 f2;refine⟨h.1,h.2.1,λi j q1 q2 q3=>?_,Runs.one h.2.2.2 f1 f2 el so⟩;rw[el i (by lia),el j (by lia)];exact h.2.2.1 i j q1 q2 q3
end
section
variable{a₀:Array Keyed}{p:Array (Nat×Nat×Nat)}{st:SortSt}{prog:Program}{w:World}{A:Around}{E:Value->Shared->Prop}{s:Shared}
theorem Ir{n e:Nat}{Q:Bool->SortSt->Prop}(h0:IntKeys a₀)(hB:SB a₀ p st)(R:Runs (arrOf st) p.toList 0 e)(he:e<=a₀.size)(hn:n+1<p.size)
  (h:∀p' ao,SB a₀ p' ao->Runs (arrOf ao) p'.toList 0 e->p'.size+1=p.size->dY (arrOf st) (arrOf ao) 0 e->Q true ao):wpS (model prog w) A E s (mergeAt' n) Q st:=by
 obtain⟨a,ea⟩:∃a,p[n]? = some a:=⟨p[n],adp.mpr ⟨by lia,rfl⟩⟩
 obtain⟨b,eb⟩:∃b,p[n+1]? = some b:=⟨p[n+1],adp.mpr ⟨by lia,rfl⟩⟩
 obtain⟨sa,na,pw⟩:=a;obtain⟨sb,nb,M6⟩:=b;have la:p.toList[n]? = some (sa,na,pw):=by simpa using ea
 have lb:p.toList[n+1]? = some (sb,nb,M6):=by simpa using eb
 obtain⟨w1,w2,w3,w4,w5,w6,w7⟩:=R.two la lb;dsimp only at w1 w2 w3 w4 w5 w6 w7;subst w1;refine Yy h0 hB ea eb w2 w3 (by lia) w6 w7 λao b1 b2 b3=>?_
 have lp:((p.setIfInBounds n (sa,na+nb,pw)).eraseIdxIfInBounds (n+1)).toList=(p.toList.set n (sa,na+nb,pw)).eraseIdx (n+1):=by
  rw[Array.eraseIdxIfInBounds,dif_pos (by rw[Array.size_setIfInBounds];lia)];simp
 refine h _ ao b1 ?_ ?_ (b3.wide (by lia) w5)
 .rw[lp];exact R.one la lb b3 b2
 .rw[<- ab2,lp,List.length_eraseIdx,if_pos (by rw[ad4,ab2];lia),ad4,ab2]
  lia
noncomputable def NQ(pw:Nat):StateT SortSt Sem (ForInStep (Option Unit×Unit)):=do
 let c <- get
 match(if(pendingOf c).size > 1 then(pendingOf c)[(pendingOf c).size-2]? else none) with
 |some (_,_,old)=>if old<=pw then pure (.done (none,())) else do
   let b <- mergeAt' ((pendingOf c).size-2)
   if(!b)=true then pure (.done (some (),())) else pure (.yield (none,()))
 |_=>pure (.done (none,()))
def put(sz lo n:Nat):StateT SortSt Sem (ForInStep (Option Unit×Nat)):=do
 let c <- get
 match(pendingOf c).back? with
 |some (s1,n1,_)=>do
  let d <- forIn [:sz] ((none,()):Option Unit×Unit) λ_ _=>NQ (power' sz (2*s1+n1) (2*s1+n1+n1+n) sz)
  match d.fst with
  |some r=>pure (.done (some r,lo))
  |none=>do
   modify λs=>setPending s ((pendingOf s).modify ((pendingOf s).size-1) λx=>(x.fst,x.2.fst,power' sz (2*s1+n1) (2*s1+n1+n1+n) sz))
   modify λs=>setPending s ((pendingOf s).push (lo,n,0))
   pure (.yield (none,lo+n))
 |_=>do
  modify λs=>setPending s ((pendingOf s).push (lo,n,0))
  pure (.yield (none,lo+n))
theorem L3{sz lo n:Nat}{Q:ForInStep (Option Unit×Nat)->SortSt->Prop}(h0:IntKeys a₀)(hB:SB a₀ p st)(R:Runs (arrOf st) p.toList 0 lo)(hz:lo+n<=a₀.size)(h1:1<=n)(hs:eG (arrOf st) lo (lo+n))
  (h:∀p' ao,SB a₀ p' ao->Runs (arrOf ao) p'.toList 0 (lo+n)->Q (.yield (none,lo+n)) ao):wpS (model prog w) A E s (put sz lo n) Q st:=by
 unfold put;refine ab9 (wpS_get ?_);have last:∀{p':Array (Nat×Nat×Nat)}{ao:SortSt},SB a₀ p' ao->Runs (arrOf ao) p'.toList 0 lo->dY (arrOf st) (arrOf ao) 0 lo->Q (.yield (none,lo+n)) (setPending ao ((pendingOf ao).push (lo,n,0))):=by
  intro p' ao b r e;refine h (p'.push (lo,n,0)) _ ⟨b.perm,b.kind,b.failed,by show(pendingOf ao).push _=_;rw[b.pend]⟩ ?_;rw[adO];refine Runs.push r h1 λi j q1 q2 q3=>?_
  rw[e i (by lia),e j (by lia)];exact hs i j q1 q2 q3
 cases hb:(pendingOf st).back? with
 |none=>exact ab9 (wpS_modify (ach (last hB R (.refl _ _ _))))
 |some q=>
  obtain⟨s1,n1,w1⟩:=q;dsimp only;generalize power' sz (2 * s1 + n1) (2 * s1 + n1 + n1 + n) sz=pw;refine ab9 (adn (adh (I:=λ_ (c:Option Unit×Unit) ao=>c=(none,())/\∃p',SB a₀ p' ao/\Runs (arrOf ao) p'.toList 0 lo/\dY (arrOf st) (arrOf ao) 0 lo)
   ?Ew (λ_ _ z=>z) ⟨rfl,p,hB,R,.refl _ _ _⟩) ?D9)
  case Ew=>
   rintro x c ao _ _ ⟨rfl,p',b,r,e⟩
   unfold NQ;refine ab9 (wpS_get ?_);rw[b.pend]
   by_cases h2:p'.size > 1
   .rw[if_pos h2];cases h3:p'[p'.size-2]? with
    |none=>exact ach ⟨rfl,p',b,r,e⟩
    |some q=>
     obtain⟨_,_,old⟩:=q;dsimp only
     by_cases h4:old<=pw
     .rw[if_pos h4];exact ach ⟨rfl,p',b,r,e⟩
     .rw[aa7 h4];refine ab9 (Ir h0 b r (by lia) (by lia) λp2 aP b2 r2 _ e2=>?_);rw[aa7 (by simp)];exact ach ⟨rfl,p2,b2,r2,e.trans e2⟩
   .rw[aa7 h2];exact ach ⟨rfl,p',b,r,e⟩
  case D9=>
   rintro c ao ⟨rfl,p',b,r,e⟩
   dsimp only;refine ab9 (wpS_modify (ab9 (wpS_modify (ach ?_))));refine last (p':=p'.modify (p'.size-1) λx=>(x.fst,x.2.fst,pw)) ⟨b.perm,b.kind,b.failed,?_⟩ ?_ e
   .show(pendingOf ao).modify ((pendingOf ao).size-1) (λx=>(x.fst,x.2.fst,pw))=p'.modify (p'.size-1) λx=>(x.fst,x.2.fst,pw)
    rw[b.pend]
   .rw[Array.toList_modify];exact Runs.power pw _ r
def AO(sz lo:Nat):StateT SortSt Sem (ForInStep (Option Unit×Nat)):=if lo >= sz then pure (.done (none,lo)) else do
 let x <- countRun' lo (sz-lo)
 match x with
 |some f=>
  if f<minRun' sz sz 0 then do
   liftM (rule "list.sort.binary-insertion")
   let b <- binarySort' lo (min (sz-lo) (minRun' sz sz 0)) f
   if(!b)=true then pure (.done (some (),lo)) else put sz lo (min (sz-lo) (minRun' sz sz 0))
  else put sz lo f
 |_=>pure (.done (some (),lo))
noncomputable def LC:StateT SortSt Sem (ForInStep (Option Unit×Unit)):=do
 let c <- get
 if(pendingOf c).size<=1 then pure (.done (none,()))
 else do
  let b <- mergeAt' (if Option.any (λx=>decide (x < (pendingOf c)[(pendingOf c).size - 2 + 1]?.elim 0 λx=>x.snd.fst)) (if(pendingOf c).size - 2 > 0 then Option.map (λx=>x.snd.fst) (pendingOf c)[(pendingOf c).size - 2 - 1]? else none)=true
   then(pendingOf c).size-2-1 else(pendingOf c).size-2)
  if(!b)=true then pure (.done (some (),())) else pure (.yield (none,()))
theorem PL:sortRuns'=(do
 let c <- get
 let d <- forIn [:(arrOf c).size] ((none,0):Option Unit×Nat) λ_ d=>AO (arrOf c).size d.snd
 match d.fst with
 |some r=>pure r
 |none=>do
  let d <- forIn [:(arrOf c).size] ((none,()):Option Unit×Unit) λ_ _=>LC
  match d.fst with
  |some r=>pure r
  |none=>pure ()):=by
 rw[sortRuns'_eq];dsimp only
 congr 1
 funext c
 congr 1
 .congr 1
  funext _ d
  unfold AO;refine ite_congr rfl (λ_=>rfl) λ_=>?_
  congr 1
  funext x
  have pe:∀n,put (arrOf c).size d.snd n=put (arrOf c).size d.snd n:=λ_=>rfl
  cases x with
  |none=>rfl
  |some f=>
   dsimp only;refine ite_congr rfl (λ_=>?_) λ_=>?_
   .congr 1
    funext _
    congr 1
    funext b
    refine ite_congr rfl (λ_=>rfl) λ_=>?_
    unfold put
    congr 1
    funext e
    cases(pendingOf e).back? with
    |none=>rfl
    |some q=>
     dsimp only
     congr 1
     funext d
     obtain⟨r,u⟩:=d;cases r<;>rfl
   .unfold put
    congr 1
    funext e
    cases(pendingOf e).back? with
    |none=>rfl
    |some q=>
     dsimp only
     congr 1
     funext d
     obtain⟨r,u⟩:=d;cases r<;>rfl
 .funext d
  obtain⟨r,u⟩:=d;cases r with
  |some r=>rfl
  |none=>
   dsimp only
   congr 1
   funext d
   obtain⟨r,u⟩:=d;cases r<;>rfl
theorem aay[Decidable c](a b:Nat):(if c then a else b)=a\/(if c then a else b)=b:=by by_cases h:c<;>simp[h]
theorem PZ{Q:Unit->SortSt->Prop}(h0:IntKeys a₀)(hB:SBase a₀ st)(h:∀ao,(arrOf ao).Perm a₀->failedOf ao=none->SortedTo (arrOf ao) a₀.size->Q () ao):wpS (model prog w) A E s sortRuns' Q st:=by
 rw[PL];refine ab9 (wpS_get ?_);rw[hB.size];have B0:SB a₀ #[] st:=⟨hB.perm,hB.kind,hB.failed,hB.pend⟩
 refine ab9 (adn (adh (I:=λx (c:Option Unit×Nat) ao=>∃lo,c=(none,lo)/\x<=lo/\lo<=a₀.size/\∃p,SB a₀ p ao/\Runs (arrOf ao) p.toList 0 lo)
  (Q:=λ(c:Option Unit×Nat) ao=>c=(none,a₀.size)/\∃p,SB a₀ p ao/\Runs (arrOf ao) p.toList 0 a₀.size) ?Ew ?fin ⟨0,rfl,aa2 _,acD _,#[],B0,rfl⟩) ?D9)
 case fin=>
  rintro c ao ⟨lo,rfl,h1,h2,p,b,r⟩
  obtain rfl:lo=a₀.size:=by lia
  exact⟨rfl,p,b,r⟩
 case Ew=>
  rintro x c ao _ hx ⟨lo,rfl,h1,h2,p,b,r⟩
  unfold AO
  by_cases ge:lo >= a₀.size
  .rw[if_pos ge];obtain rfl:lo=a₀.size:=by lia
   exact ach ⟨rfl,p,b,r⟩
  .rw[aa7 ge];refine ab9 (Yb h0 b (by lia) (by lia) λm aP b2 m1 m2 s2 e2=>?_);dsimp only;have r2:=r.keep λk _ k2=>e2 k (.inl k2)
   by_cases lt:m<minRun' a₀.size a₀.size 0
   .rw[if_pos lt];refine ab9 (wpS_lift (ady ⟨rfl,?_⟩));refine ab9 (Vb h0 b2 (by lia) (by lia) s2 λcZ b3 s3 e3=>?_);rw[aa7 (by simp)];refine L3 h0 b3 (r2.keep λk _ k2=>e3 k (.inl k2)) (by lia) (by lia) s3 λp' Ak b4 r4=>?_
    exact⟨_,rfl,by lia,by lia,p',b4,r4⟩
   .rw[aa7 lt];exact L3 h0 b2 r2 (by lia) m1 s2 λp' Ak b4 r4=>⟨_,rfl,by lia,by lia,p',b4,r4⟩
 case D9=>
  rintro c ao ⟨rfl,p,b,r⟩
  dsimp only;have pl:=r.len;rw[ab2] at pl;refine ab9 (adn (adh (I:=λx (c:Option Unit×Unit) aP=>c=(none,())/\∃p,SB a₀ p aP/\Runs (arrOf aP) p.toList 0 a₀.size/\p.size + x<=a₀.size)
   (Q:=λ(c:Option Unit×Unit) aP=>c=(none,())/\∃p,SB a₀ p aP/\Runs (arrOf aP) p.toList 0 a₀.size/\p.size<=1) ?aP ?Ow ⟨rfl,p,b,r,by lia⟩) ?Ut)
  case Ow=>
   rintro c aP ⟨rfl,p2,b2,r2,z2⟩
   exact⟨rfl,p2,b2,r2,by lia⟩
  case aP=>
   rintro x c aP _ hx ⟨rfl,p2,b2,r2,z2⟩
   unfold LC;refine ab9 (wpS_get ?_);rw[b2.pend]
   by_cases le:p2.size<=1
   .rw[if_pos le];exact ach ⟨rfl,p2,b2,r2,le⟩
   .rw[aa7 le];refine ab9 (Ir h0 b2 r2 (aa2 _) (by rcases aay (c:=Option.any (λx=>decide (x<p2[p2.size-2+1]?.elim 0 λx=>x.snd.fst)) (if p2.size-2 > 0 then Option.map (λx=>x.snd.fst) p2[p2.size-2-1]? else none)=true) (p2.size-2-1) (p2.size-2) with e|e<;>(rw[e];lia)) λp3 cZ b3 r3 z3 _=>?_);rw[aa7 (by simp)];exact ach ⟨rfl,p3,b3,r3,by lia⟩
  case Ut=>
   rintro c aP ⟨rfl,p2,b2,r2,z2⟩
   dsimp only;refine ach (h aP b2.perm b2.failed λi j kO hj=>?_);rw[<- ab2] at z2
   match hp:p2.toList,r2,z2 with
   |[],r2,_=>
    have:0=a₀.size:=r2
    lia
   |[q],r2,_=>
    obtain⟨_,_,g3,g4⟩:=r2;have g4:0+q.2.1=a₀.size:=g4;exact g3 i j (acD _) kO (by lia)
   |_::_::_,_,z2=>simp at z2
end
section
variable{prog:Program}{w:World}{A:Around}{E:Value->Shared->Prop}{s:Shared}
theorem Tr{P:Fin->Shared->Prop}(ho:s.heap.get? a=some (seqObj "list" vs.toArray n))(hI:IntsAre vs ns)(hz:vs.length<=sizeLine)
  (h:∀(out:Array Value) (ms:List Int),IntsAre out.toList ms->ms.Perm ns->ms.Pairwise (·<=·)->P (.done (.ret .none)) { s with heap:=sortedHeap s.heap a vs out }) :
  wpAny (model prog w) A (Builtin.«list.sort» ⟨[.ref a],[]⟩) P E s:=by
 by_cases eK:vs.length<64
 .exact list_sort_tree ho hI eK h
 rw[list_sort_plain];have la:=aba ho;refine aac (listItems_at ho rfl (aac (listUpdate_at ho rfl ?_)));obtain⟨e1,o1⟩:∃e1,(s.heap.update a (Obj.mapSeq λ_=>#[])).get? a=some (seqObj "list" #[] e1):=⟨_,get?_update_seq ho (λ_=>#[])⟩
 refine aac (seqEpoch_at o1 rfl (aac (wpAny_newTuple (aac (wpAny_newList (acR ?_))))));have o6:(((s.heap.update a (Obj.mapSeq λ_=>#[])).push (seqObj "tuple" vs.toArray 0)).push (seqObj "list" #[] 0)).get? a=some (seqObj "list" #[] e1):=by
  rw[Heap.get?_push_ne _ _ _ (by rw[size_push',aeC];exact ab6 (ac7 la)),Heap.get?_push_ne _ _ _ (by rw[aeC];exact ab6 la)];exact o1
 dsimp only;have n2:¬vs.toArray.size<2:=by rw[abQ];lia
 rw[aa7 n2,aa7 n2]
 match vs,hI,hz,eK,ho,h,o6,n2 with
 |[],_,_,eK,_,_,_,_=>simp at eK
 |[_],_,_,eK,_,_,_,_=>simp at eK
 |v1::v2::r,hI,hz,eK,ho,h,o6,n2=>
  rw[keyKind_ints hI];refine aac (aaC ?_);refine aac (acC (PZ (a₀:=pairsOf (v1::v2::r)) (st:=SortSt.mk' oneType' ((v1::v2::r).toArray.zip (v1::v2::r).toArray) #[] 7 none)
   (Q:=λ_ st=>(arrOf st).Perm (pairsOf (v1::v2::r))/\failedOf st=none/\SortedTo (arrOf st) (pairsOf (v1::v2::r)).size) hI.intKeys ⟨Array.Perm.refl _,rfl,rfl,rfl⟩ λst b1 b2 b3=>⟨b1,b2,b3⟩) ?_ λ_ _ e=>e)
  rintro⟨⟨⟩,st⟩ t ⟨rfl,hp,hf,hs⟩
  dsimp only;have sz:((arrOf st).map (·.2)).size<=sizeLine:=by rw[Array.size_map,hp.size_eq,pairsOf_size];exact hz
  refine aac (seqEpoch_at o6 rfl (aac (listUpdate_at o6 rfl ?_ (hsz2:=by first|exact sz|exact ac9 sz (by lia)))));rw[hf];simp only[bne_self_eq_false,acG,ad7];obtain⟨ms,c1,c2,c3⟩:=sorted_out hI hp hs;exact aaC (h _ ms c1 c2 c3)
end
end L2.Hy
namespace L2
open PySem PySem.Spec PyProof.Rows
noncomputable def OQ(a:Addr)(cls:Value)(de:Option Addr):HO:=.ext λh=>∃oe,h.get? a=some oe/\oe.cls=cls/\(∀dx,de=some dx->oe.dict=some dx/\PySem.W.notCls oe=true)
def Rz(ob:Obj)(a:Addr)(cls:Value)(de:Option Addr):HO:=.c_ ob (OQ a cls de)
noncomputable def Jj(n:Nat)(t:Tok):Str->Option Value:=λy=>if y="slot" then some (.int n t) else none
def WJ(dx:Addr)(n:Nat):HO:=.ext λh=>∃t,h.Ns1 dx (Jj n t)
noncomputable def aaE(o:Obj):Option Value:=match o.data with
 |.fields vs=>vs[2]?
 |_=>none
def Qi(h:Heap)(H:Hp)(nw:Addr->Prop)(e:Addr):Option Addr->Prop
 |none=>True
 |some n=>∃oe dx t,h.get? e=some oe/\oe.dict=some dx/\h.Ns1 dx (Jj n t)/\H dx=none/\nw dx
def HX(h:Heap)(H:Hp)(nw:Addr->Prop)(e:Addr)(d_:Option Addr):Prop:=(∃oe,h.get? e=some oe/\aaE oe=some .none)/\Qi h H nw e d_
structure abm(h:Heap)(H:Hp)(h0:Heap)(e:Addr)(cls:Value)(d_:Option Addr):Prop where
 py:HX h H (λa=>h0.get? a=none) e d_
 nw:h0.get? e=none
 fr:H e=none
 ob:∃oe vs a0,h.get? e=some oe/\oe.cls=cls/\vs[0]? = some a0/\oe.data=.fields vs/\vs[1]? = some .none
abbrev XS:=Value->Option Addr->St->Hp->Prop
def Oz(X:Cx)(E:XS):Prop:=∀(af:List (Addr×Obj)) (σ:St) (H:Hp) (s:Shared) (e:Addr) (cls:Value) (d_:Option Addr),Inv X af σ H s->abm s.heap H X.cY.heap e cls d_->E cls d_ σ H->X.xe (.ref e) s
structure Mx(K:PySem.W.Frag)(C:Addr):Prop where
 ex:∃B newId abT uV bm N nm qn bs iS sn sub ab col dd k0 k1 k2 k3 k5,ExcBaseFacts B newId abT uV/\K.lookup C=some (excClassObj nm qn C N bs bm iS sn sub ab col dd k0 k1 k2 k3 k5 newId)/\
  PySem.W.nsOkIn K N=true/\PySem.W.nsIn K N "__init__"=some none/\PySem.W.tailIn K uV bm=true
section
variable{X:Cx}{af:List (Addr×Obj)}{σ:St}{H:Hp}{s:Shared}{h':Heap}
noncomputable abbrev Apart(X:Cx)(af:List (Addr×Obj))(a:Addr):Prop:=X.cY.heap.get? a=none/\a≠X.env.locals/\(∀y c,X.env.cells.lookup y=some c->c≠a)/\∀p∈X.pn++af,p.1≠a
structure IJ(X:Cx)(af:List (Addr×Obj))(σ:St)(H:Hp)(e:Addr)(cls:Value)(d_:Option Addr)(s:Shared):Prop where
 py:HX s.heap H (Apart X af) e d_
 inv:Inv X af σ H s
 fr:H e=none
 ap:X.cY.heap.get? e=none/\e≠X.env.locals/\(∀y c,X.env.cells.lookup y=some c->c≠e)/\∀p∈X.pn++af,p.1≠e
 ob:∃oe vs a0 T oT ts,s.heap.get? e=some oe/\oe.cls=cls/\vs[0]? = some a0/\oe.data=.fields vs/\vs[1]? = some (.ref T)/\T≠e/\H T=none/\(X.cY.heap.get? T=none/\T≠X.env.locals/\(∀y c,X.env.cells.lookup y=some c->c≠T)/\∀p∈X.pn++af,p.1≠T)/\s.heap.get? T=some oT/\oT.data=.fields ts/\(ts[3]? = some .none\/ts[3]? = some (rawInt X.env.locals))
end
def vm(X:Cx)(E:XS):Prop:=∀(af:List (Addr×Obj)) (σ:St) (H:Hp) (s:Shared) (e:Addr) (cls:Value) (d_:Option Addr),IJ X af σ H e cls d_ s->E cls d_ σ H->X.xe (.ref e) s
def JY(X:Cx)(af:List (Addr×Obj))(σ:St)(E:XK)(e:Value)(s':Shared):Prop:=∃a cls d_ H',e=.ref a/\IJ X af σ H' a cls d_ s'/\E cls d_ H'
abbrev TX:=St->Hp->VK->XK->Prop
def PX(X:Cx)(e:Expr)(t:TX):Prop:=
 ∀(af:List (Addr×Obj)) (s:Shared) (σ:St) (H:Hp) (Q:VK) (E:XK),Inv X af σ H s->t σ H Q E->wpAny (model X.prog X.w) X.A (eval e X.env) (EP X af σ Q) (JY X af σ E) s
section
variable{X:Cx}{cm:Bool}{k:Nat}{f C:Addr}{fd:FuncData}{ps:List Str}{sp:Sp}{eU:List V}{ds:List Value}{x m:Str}{p pos apos:Pos}{e o:Expr}{es:List Expr}{ta:TE}{t:TA}
theorem Ul(ha:PE X.d8 o ta)(I:Inv X af σ H s)(h:ta σ H Q):
  wpAny (model X.prog X.w) X.A (eval o X.env) (EP X af σ Q) E' s:=
 acC (ha af s σ H Q (I.ja _) h) (λus s1 ⟨vs,H1,I1,q⟩=>⟨vs,H1,I1.jN,q⟩) λ_ _ z=>False.elim z
end
section
variable{X:Cx}{e:Expr}{t:TX}{ES:XS}{pos:Pos}
theorem G3(th:vm X ES)(h:JY X af σ (λcls d_ H=>ES cls d_ σ H) v s):X.xe v s:=by
 obtain⟨a,cls,d_,H',rfl,L,q⟩:=h;exact th af σ H' s a cls d_ L q
def Rk(i:Nat)(ES:XS)(t:TX):TS:=λD σ H=>t σ H (λv H1=>D.nx (σ.set i (some v)) H1) λcls d_ H'=>ES cls d_ σ H'
theorem J6(th:vm X ES)(hN:X.N.Nodup)(hi:X.N[i]? = some x)(hx:Loc X.env.scope x)(he:PX X e t)(hs:swapsWith e (some (.Name x pos')) pos.line X.env=pure false:=by rfl)(hf:X.fn x=true\/X.env.scope.names.lookup x=some .local:=by first|exact .inl rfl|exact .inr rfl|assumption):
  PS X (.Assign [.Name x pos'] e pos) (Rk i ES t):=by
 intro af s σ H D I h;refine wpAny_Assign_Name (acC (he af s σ H _ _ I h) (λv s1 ⟨y,H1,I1,r1,q1⟩=>?_) λ_ _ z=>G3 th z) hs;exact BW I1 hN hi hx r1 (λs2 I2=>⟨_,H1,I2,q1⟩) hf
def Pa(ES:XS)(t:TX):TS:=λD σ H=>t σ H (λ_ H1=>D.nx σ H1) λcls d_ H'=>ES cls d_ σ H'
theorem VQ(th:vm X ES)(he:PX X e t)(hs:swapsWith e none pos.line X.env=pure false:=by rfl):PS X (.Expr e pos) (Pa ES t):=by
 intro af s σ H D I h;exact wpAny_Expr_any (acC (he af s σ H _ _ I h) (λv s1 ⟨x,H1,I1,r1,q1⟩=>⟨σ,H1,I1,q1⟩) λ_ _ z=>G3 th z) I.quiet hs
end
section
variable{X:Cx}{af:List (Addr×Obj)}{σ:St}{H:Hp}{s:Shared}{e:Addr}{cls:Value}{d_:Option Addr}
theorem Inv.QT{u:HO}(I:Inv X af σ H s)(fr:H e=none)(ap:Apart X af e)(ok:cF X.prog X.w (upd H e u) s.heap e u):Inv X af σ (upd H e u) s:=by
 obtain⟨a1,a2,a3,a4⟩:=ap;have ne:∀{b:Addr}{o:HO},H b=some o->b≠e:=λ{b o} q z=>by rw[z,fr] at q;cases q
 refine⟨I.ok,I.os,I.bare,⟨I.base.keep,I.base.slot,λb o q n hx=>?_,I.base.there,λb xs q=>?_,λb o u q=>?_,λb ps q=>?_⟩,I.loc,I.cell,?_,λx c q=>?_,λp hp=>?_,λb o q=>?_,I.len,I.hq.mono (λb o u q=>by rw[aN (ne q)];exact q) λb t q=>by rw[aN (ne q)];exact q⟩
 .rw[aN λz=>by rw[z,a1] at q;cases q];exact I.base.free b o q n hx
 .have w:=I.base.jE b xs q;rw[aN (ne w)];exact w
 .have w:=I.base.jF b o u q;rw[aN (ne w)];exact w
 .obtain⟨more,w⟩:=I.base.k9 b ps q;exact⟨more,by rw[aN (ne w)];exact w⟩
 .rw[aN λz=>a2 z.symm];exact I.free
 .rw[aN (a3 x c q)];exact I.iJ x c q
 .obtain⟨p1,p2,p3⟩:=I.pin p hp;exact⟨p1,by rw[aN (a4 p hp)];exact p2,p3⟩
 .by_cases z:b=e
  .subst z;rw[bL] at q;cases q;exact ok
  .rw[aN z] at q;exact(I.aC b o q).ic (λ_ _ _ q=>q) (λc q=>by rw[aN (ne q)];exact q) λc xs q=>by rw[aN (ne q)];exact q
end
section
variable{prog:Program}{w:World}{A:Around}{R:Result->Shared->Prop}{s:Shared}
theorem O0{env:Env}(Iv:Nat->Shared->Prop)
  (turn:∀n s,Iv n s->wpAny (model prog w) A (pyNext it) (λr s1=>match r with
   |none=>R (.ok .next) s1
   | some v=>wpAny (model prog w) A (letOwnedTupleGo tg it v) (λ_ xA=>wpAny (model prog w) A (assign tg env v) (λ_ s2=>
     wpAny (model prog w) A (forIn ifs true λc r=>if r=true then do let ok <- isTrue c env (eval c env);pure (ForInStep.yield ok) else pure (ForInStep.yield r)) (λok s3=>
      if ok=true then wpAny (model prog w) A (eval elt env) (λx s4=>
       wpAny (model prog w) A (call (.builtin "list.append") [acc,x]) (λ_ s5=>∃m,m<n/\Iv m s5) (λ_ _=>False) s4) (λ_ _=>False) s3
      else ∃m,m<n/\Iv m s3) (λ_ _=>False) s2) (λ_ _=>False) xA) (λ_ _=>False) s1) (λ_ _=>False) s)
  (n:Nat) (hn:Iv n s):codeAny (model prog w) A (.compLoop (.ListComp elt [⟨tg,iter,ifs,0⟩] scope pos) 0 it acc env) R s:=by
 have ff:∀{E:Value->Shared->Prop} (x:Value) (s:Shared),False->E x s:=λ_ _ f=>f.elim
 refine codeAny_loop rfl Iv (λk s0 hI=>?_) n hn;refine wpAny_noted ?_;rw[compTurn_list];refine aac (wpAny_standAt (aac (acC (turn k s0 hI) (λr s1 h1=>?_) ff)));cases r with
 |none=>exact aaC h1
 |some v=>
  refine aac (acC h1 (λ_ xA fG=>aac (acC fG (λ_ s2 h2=>aac (acC h2 (λok s3 h3=>?_) ff)) ff)) ff);cases ok with
  |false=>exact aaC ⟨rfl,h3⟩
  |true=>exact aac (aac (acC h3 (λx s4 h4=>aac (acC h4 (λ_ s5 h5=>aaC (aaC ⟨rfl,h5⟩)) ff)) ff))
end
noncomputable def frees(sc:Scope):List Str:=(sc.names.filter λx=>x.2 == .free).map (·.1)
noncomputable def j7(env:Env):List (Str×NameKind)->List (Str×Addr)->List (Str×Addr)
 |[],cs=>cs
 |(n,k)::r,cs=>j7 env r (if k == .free then(n,(env.cells.lookup n).getD 0)::cs else cs)
theorem Js{env:Env}(h:∀x∈frees sc,∃c,env.cells.lookup x=some c):closureFor sc env=pure (j7 env sc.names []):=by
 have key:∀(l:List (Str×NameKind)) (cs:List (Str×Addr)),(∀x∈(l.filter λx=>x.2 == .free).map (·.1),∃c,env.cells.lookup x=some c)->
   (forIn l cs λx r=>(do
    let(name,kind):=x
    if kind == .free then do
     let a <- cellOf env name
     pure (ForInStep.yield ((name,a)::r))
    else pure (ForInStep.yield r):Sem (ForInStep (List (Str×Addr)))))=pure (j7 env l cs):=by
  intro l
  induction l with
  |nil=>intro cs _;rfl
  |cons p r ih=>
   obtain⟨n,k⟩:=p;intro cs h;rw[List.forIn_cons]
   by_cases hk:(k==NameKind.free)=true
   .obtain⟨c,hc⟩:=h n (by simp[hk]);have EL:=ih ((n,c)::cs) λx hx=>h x (by simp only[List.filter_cons,hk,aeS,aaz,aaG];exact Or.inr hx)
    have e:cellOf env n=pure c:=by unfold cellOf;rw[hc]
    simp only[hk,aeS,e,pure_bind,j7,hc,Option.getD_some];exact EL
   .have EL:=ih cs λx hx=>h x (by simp only[List.filter_cons,hk];exact hx)
    simp only[hk,j7,acG,ad7,pure_bind];exact EL
 unfold closureFor;have k:=key sc.names [] h;simp only[bind_pure] at k ⊢
 first
  |exact k
  |(simp only[pure_bind];exact k)
theorem Io{env:Env}:∀{l:List (Str×NameKind)}{cs:List (Str×Addr)}{x:Str}{c:Addr},(j7 env l cs).lookup x=some c->
  cs.lookup x=some c\/((x,NameKind.free)∈l/\c=(env.cells.lookup x).getD 0)
 |[],_,_,_,h=>.inl h
 |(n,k)::r,cs,x,c,h=>by
  rcases Io (l:=r) h with q|⟨q,e⟩
  .by_cases hk:(k==NameKind.free)=true
   .rw[if_pos hk,acQ] at q
    by_cases hx:(x==n)=true
    .rw[hx] at q;have e:=eq_of_beq hx;subst e;have jG:k=.free:=by cases k<;>first|rfl|exact absurd hk (by decide)
     subst jG;exact .inr ⟨aah,(ab8 q).symm⟩
    .rw[Bool.not_eq_true] at hx;rw[hx] at q;exact .inl q
   .rw[aa7 hk] at q;exact .inl q
  .exact .inr ⟨aas _ q,e⟩
theorem CO{env:Env}:∀{l:List (Str×NameKind)}{cs:List (Str×Addr)}{x:Str},(∃c,cs.lookup x=some c)\/(x,NameKind.free)∈l->∃c,(j7 env l cs).lookup x=some c
 |[],_,_,h=>h.elim id λz=>nomatch z
 |(n,k)::r,cs,x,h=>by
  refine CO (l:=r) ?_;rcases h with⟨c,h⟩|h
  .left
   by_cases hk:(k==NameKind.free)=true
   .rw[if_pos hk,acQ]
    by_cases hx:(x==n)=true
    .rw[hx];exact⟨_,rfl⟩
    .rw[Bool.not_eq_true] at hx;rw[hx];exact⟨c,h⟩
   .rw[aa7 hk];exact⟨c,h⟩
  .rcases aaG.mp h with e|h
   .left
    cases e;rw[if_pos (by decide),acQ,aec];exact⟨_,rfl⟩
   .exact .inr h
def dJ(X:Cx)(N:List Str)(sc:Scope)(s3:Shared)(H3:Hp)(fp:List Addr):Cx:=
 { X with N:=N,cY:=s3,sC:=H3,env:=compEnvC sc (j7 X.env sc.names []) s3.heap.objs.size X.env,outer:=X.stack,stack:=X.stack,ex:=fp,fn:=λ_=>false,pn:=[],xe:=λ_ _=>False }
noncomputable def kg(js:List (Option Nat))(σ:St):St:=js.map λj=>match j with
 |none=>none
 |some j=>(σ[j]?).join
noncomputable def lM(N:List Str)(sc:Scope):List Str->List (Option Nat)->Bool
 |[],[]=>true
 |x::r,none::js=>lM N sc r js
 |x::r,some j::js=>decide (N[j]? = some x)&&decide (sc.names.lookup x=some .free)&&lM N sc r js
 |_,_=>false
theorem xS:∀{M:List Str}{js:List (Option Nat)},lM N sc M js=true->js.length=M.length
 |[],[],_=>rfl
 |_::r,none::js,h=>by
  have:=xS (js:=js) h;simp[this]
 |_::r,some j::js,h=>by
  unfold lM at h;have:=xS ((aaF _ _).mp h).2;simp[this]
 |[],_::_,h=>by cases h
 |_::_,[],h=>by cases h
theorem DZ:∀{M:List Str}{js:List (Option Nat)}{i j:Nat}{x:Str},lM N sc M js=true->M[i]? = some x->js[i]? = some (some j)->N[j]? = some x/\sc.names.lookup x=some .free
 |[],_,_,_,_,_,h,_=>by simp at h
 |_::_,[],_,_,_,h,_,_=>by cases h
 |y::r,none::js,0,j,x,h,h1,h2=>by simp at h2
 |y::r,some q::js,0,j,x,h,h1,h2=>by
  simp at h1 h2;subst h1 h2;unfold lM at h;obtain⟨a,b⟩:=(aaF _ _).mp ((aaF _ _).mp h).1;exact⟨aaR a,aaR b⟩
 |y::r,none::js,i+1,j,x,h,h1,h2=>DZ (js:=js) h (by simpa using h1) (by simpa using h2)
 |y::r,some q::js,i+1,j,x,h,h1,h2=>by
  unfold lM at h;exact DZ ((aaF _ _).mp h).2 (by simpa using h1) (by simpa using h2)
structure m7(X:Cx)(M:List Str)(js:List (Option Nat))(sc:Scope):Prop where
 kind:sc.kind=.function
 uO:∀y∈sc.names,y.2≠.cell
 loc:∀y∈sc.names,y.2=.local->sc.names.lookup y.1=some .local
 BN:lM X.N sc M js=true
 free:∀x∈frees sc,X.env.kindOf x=some .cell\/X.env.kindOf x=some .free
 nd:M.Nodup
def De(wi:TI)(js:List (Option Nat))(g:TG)(tt:TT)(te:TE):TE:=λσ H Q=>wi σ H λJ H1=>∀D,H1 D=none->
 ∃W:Nat->Nat->St->Hp->Prop,(∃m,W 0 m (kg js σ) (upd H1 D (.lst [])))/\∀i m aB H',W i m aB H'->
  (J.stop i H'/\Q (.ref D) H')\/(J.go i H'/\∀x H2,J.uq i H' x H2->g x aB H2 λb7 H3=>tt b7 H3 λb H4=>
   if b=true then te b7 H4 λy H5=>∃xs,H5 D=some (.lst xs)/\xs.length<sizeLine/\∃m',m'<m/\W (i+1) m' b7 (upd H5 D (.lst (xs++[y])))
   else ∃m',m'<m/\W (i+1) m' b7 H4)
def tT(X:Cx)(ifs:List Expr)(t:TT):Prop:=
 ∀(af:List (Addr×Obj)) (s:Shared) (σ:St) (H:Hp) (Q:Bool->Hp->Prop),Inv X af σ H s->t σ H Q->
  wpAny (model X.prog X.w) X.A (forIn ifs true λc r=>if r=true then do let ok <- isTrue c X.env (eval c X.env);pure (ForInStep.yield ok) else pure (ForInStep.yield r)) (TP X af σ Q) X.xe s
theorem UR{t:TT}(h:PT X c t):tT X [c] t:=λaf s σ H Q I q=>wpAny_tests_one (h af s σ H Q I q)
section
variable{X:Cx}
theorem Inv.comp(S:m7 X M js sc)(I:Inv X af σ H3 s3)
  (hf:∀b∈fp,gg X af H3 b) (bI:∀b∈fp,b<s3.heap.objs.size) (hn:h'.Ns s3.heap.objs.size λ_=>none) (hk:∀b o,s3.heap.get? b=some o->h'.get? b=some o) :
  Inv (dJ X M sc s3 H3 fp) [] (kg js σ) H3 { s3 with heap:=h',toks:=tk }:=by
 have cl:∀{x:Str}{c:Addr},(j7 X.env sc.names []).lookup x=some c->X.env.cells.lookup x=some c:=λ{x c} e=>by
  rcases Io e with q|⟨q,e'⟩
  .cases q
  .obtain⟨c',hc⟩:=I.ok.has x (S.free x (acu.mpr ⟨(x,.free),ac2.mpr ⟨q,rfl⟩,rfl⟩));rw[hc] at e' ⊢;rw[e'];rfl
 have jh:=ac9 I.ok.jh I.sz;have lk:∀{x:Str},sc.names.lookup x=some .free->(relabel sc X.env).names.lookup x=some .cell\/(relabel sc X.env).names.lookup x=some .free:=λ{x} e=>by
  have key:∀(l:List (Str×NameKind)),l.lookup x=some .free->(l.map λ(n,k)=>if(k==NameKind.free&&X.env.scope.kind == .function&&X.env.kindOf n==some .cell) then(n,NameKind.cell) else(n,k)).lookup x=some .cell\/
    (l.map λ(n,k)=>if(k==NameKind.free&&X.env.scope.kind == .function&&X.env.kindOf n==some .cell) then(n,NameKind.cell) else(n,k)).lookup x=some .free:=by
   intro l
   induction l with
   |nil=>intro e;cases e
   |cons p r ih=>
    obtain⟨n,k⟩:=p;intro e;rw[acQ] at e;rw[aaz]
    by_cases hx:(x==n)=true
    .rw[hx] at e;have e':=ab8 e;subst e';dsimp only
     split
     .left;rw[acQ,hx]
     .right;rw[acQ,hx]
    .rw[Bool.not_eq_true] at hx;rw[hx] at e;dsimp only
     split<;>(rw[acQ,hx];exact ih e)
  exact key sc.names e
 have kf:∀{x:Str},((relabel sc X.env).names.lookup x=some .cell\/(relabel sc X.env).names.lookup x=some .free)->(x,NameKind.free)∈sc.names:=λ{x} e=>by
  have key:∀(l:List (Str×NameKind)),(∀y∈l,y.2≠.cell)->((l.map λ(n,k)=>if(k == NameKind.free&&X.env.scope.kind == .function&&X.env.kindOf n == some .cell) then(n,NameKind.cell) else(n,k)).lookup x=some .cell\/
    (l.map λ(n,k)=>if(k==NameKind.free&&X.env.scope.kind == .function&&X.env.kindOf n==some .cell) then(n,NameKind.cell) else(n,k)).lookup x=some .free)->(x,NameKind.free)∈l:=by
   intro l
   induction l with
   |nil=>intro _ e;rcases e with e|e<;>cases e
   |cons p r ih=>
    obtain⟨n,k⟩:=p;intro nc e;rw[aaz] at e
    by_cases hx:(x==n)=true
    .have e0:=eq_of_beq hx;subst e0;have QA:k=.free:=by
      dsimp only at e
      split at e
      .rename_i hc;have:=((aaF _ _).mp ((aaF _ _).mp hc).1).1;cases k<;>first|rfl|exact absurd this (by decide)
      .rw[acQ,aec] at e;rcases e with e|e
       .exact absurd (ab8 e) (nc _ aah)
       .exact ab8 e
     rw[QA];exact aah
    .rw[Bool.not_eq_true] at hx;refine aas _ (ih (λy hy=>nc y (aas _ hy)) ?_);dsimp only at e
     split at e<;>(rw[acQ,hx] at e;exact e)
  exact key sc.names S.uO e
 refine⟨⟨I.ok.mod,S.kind,I.ok.glob,I.ok.blt,aa2 _,λx y c h1 h2=>I.ok.inj x y c (cl h1) (cl h2),λx hx=>CO (.inr (kf hx)),(λx c h _=>by cases h),I.ok.hd,I.ok.frames,.inl rfl,λb hb=>⟨ab6 (bI b hb),λx c e=>(hf b hb).2.2.2.2.1 x c (cl e)⟩,
   I.bs,jh,λb o e hb=>?_,λb hb oW=>?_,I.stack,I.Bl⟩,
  rfl,I.bare,Un.kept hk,⟨_,hn,λi x v h1 h2 h3=>?_⟩,λx c e=>?_,I.aC.fresh (aa2 _),λx c e=>I.iJ x c (cl e),λp hp=>absurd (show p∈([]:List (Addr×Obj)) from hp) (by simp),I.aC.kept hk,?_,I.hq⟩
 .rcases(hf b hb).2.2.2.1 with z|z
  .exact I.ok.qT b o e z
  .exact absurd (acn (aba e) (ac9 I.ok.jh z)) (acW _)
 .rcases aaG.mp (I.Fj b oW) with z|z
  .exact(hf b hb).2.1 z
  .exact(hf b hb).2.2.1 z
 .have hlen:=xS S.BN;have hi:i<js.length:=by rw[hlen];exact(ace.mp h1).1
  unfold kg at h2;rw[acg,aau hi,Option.map_some] at h2;exists hj,js[i],j,h2;have lD:(σ[j]?).join=some v:=ab8 h2;obtain⟨a,b⟩:=DZ S.BN h1 (by rw[aau hi,hj]);have hs:σ[j]? = some (some v):=by
   exists q,σ[j]?,z,lD;rw[show z=some v from lD]
  have J5:=S.free x (acu.mpr ⟨(x,.free),ac2.mpr ⟨PySem.mem_of_lookup b,rfl⟩,rfl⟩);obtain⟨m,hm,hl⟩:=I.loc;obtain⟨u,ru,l⟩:=hl j x v a hs (J5.elim (λz=>.inr (.inl z)) λz=>.inr (.inr z));refine⟨u,ru,.inr ⟨lk b,?_⟩⟩;rcases l with⟨k,_⟩|⟨_,c,e,hc⟩
  .rcases J5 with z|z<;>(rw[z] at k;cases k)
  .obtain⟨c',mh⟩:=CO (env:=X.env) (cs:=[]) (.inr (PySem.mem_of_lookup b));have e':=cl mh;rw[e] at e';have e2:=ab8 e';subst e2;obtain⟨o,ho,hd⟩:=hc;exact⟨c,mh,o,hk _ _ ho,hd⟩
 .obtain⟨v,o,ho,hd⟩:=I.cell x c (cl e);exact⟨v,o,hk _ _ ho,hd⟩
 .unfold kg;rw[List.length_map];exact xS S.BN
theorem Inv.IA(I:Inv X af σ H3 s3)(hf:∀b∈fp,gg X af H3 b)
  (J:Inv (dJ X M sc s3 H3 fp) IK aB H' s') (hs:Heap.SameBut s3.heap.objs.size s'.heap h'):Inv X af σ H' { s' with heap:=h' }:=by
 have B:=J.base;have ne:∀{b:Addr}{o:Obj},s3.heap.get? b=some o->b≠s3.heap.objs.size:=λe=>ab6 (aba e)
 have B':Un (jC X.stack) fp H3 H' s3.heap h':=⟨λb o e n hb hx=>(hs.2 b (ne e)).trans (B.keep b o e n hb hx),λb o e n hb hx=>let⟨sl,q⟩:=B.slot b o e n hb hx;⟨sl,(hs.2 b (ne e)).trans q⟩,B.free,
  λb o e hx=>let⟨o',q⟩:=B.there b o e hx;⟨o',(hs.2 b (ne e)).trans q⟩,B.jE,B.jF,B.k9⟩
 have fr:H' s3.heap.objs.size=none:=J.free;refine I.HL (s':={ s' with heap:=h' }) (ch:=fp) J.os B' (λb u e=>?_) J.bare λb hb=>⟨(hf b hb).2.2.2.1,(hf b hb).2.1,(hf b hb).2.2.2.2.1,(hf b hb).2.2.2.2.2⟩
 refine(J.aC b u e).ic (λc v hc q=>(hs.2 c ?_).trans q) (λ_ q=>q) λ_ _ q=>q
 rintro rfl
 rcases hc with rfl|hc
 .rw[fr] at e;cases e
 .rw[fr] at hc;cases hc
theorem Mn{tt:TT}
  {tn:Nat->Heap->Prop}{J:It}{Q:VK}{RR:Value->Addr->Result->Shared->Prop} (S:m7 X M js sc) (hc:X.calm=true\/J.rg=true) (I2:Inv X af σ H2 s2) (T:Turn X.prog X.w X.K tg J fp it tn) (st:tn 0 s2.heap) (hf:∀b∈fp,gg X af H2 b)
  (hb:∀s3 H3 fp,PG (dJ X M sc s3 H3 fp) tg g/\tT (dJ X M sc s3 H3 fp) ifs tt/\PE (dJ X M sc s3 H3 fp) elt te)
  (h:∀D,H2 D=none->∃W:Nat->Nat->St->Hp->Prop,(∃m,W 0 m (kg js σ) (upd H2 D (.lst [])))/\∀i m aB H',W i m aB H'->
   (J.stop i H'/\Q (.ref D) H')\/(J.go i H'/\∀x H2,J.uq i H' x H2->g x aB H2 λb7 H3=>tt b7 H3 λb H4=>
    if b=true then te b7 H4 λy H5=>∃xs,H5 D=some (.lst xs)/\xs.length<sizeLine/\∃m',m'<m/\W (i+1) m' b7 (upd H5 D (.lst (xs++[y])))
    else ∃m',m'<m/\W (i+1) m' b7 H4))
  (hR:∀D s3 H3 s' aB H',Inv X af σ H3 s3->(∀b∈fp,gg X af H3 b)->Inv (dJ X M sc s3 H3 fp) [] aB H' s'->Q (.ref D) H'->RR (.ref D) s3.heap.objs.size (.ok .next) s') :
  wpAny (model X.prog X.w) X.A (newList []) (λacc x6=>wpAny (model X.prog X.w) X.A (newFunctionEnv sc X.env.globals (j7 X.env sc.names []) [] X.env.qual none .none (some X.env)) (λKA V2=>
   codeAny (model X.prog X.w) X.A (.compStart (.ListComp elt [⟨tg,iter,ifs,0⟩] sc pos) 0 (.ref it) acc { KA with scope:=relabel sc X.env }) (RR acc KA.locals) V2) X.xe x6) X.xe s2:=by
 have Pp:=I2.aC.fresh (aa2 _);obtain⟨W,⟨m0,w0⟩,turn⟩:=h _ Pp;have I3:Inv X af σ (upd H2 s2.heap.objs.size (.lst [])) { s2 with heap:=s2.heap.push { cls:=.type "list",data:=.seq ([]:List Value).toArray } }:=
  I2.laid (λ_ _ q=>aad _ q) (aa2 _) ⟨acD _,[],0,.nil,abb _ rfl⟩
 have Ng:∀b∈fp,b<s2.heap.objs.size:=λb hb=>let⟨_,e,_⟩:=T.obj _ _ st b hb;aba e
 have Fz:∀b∈fp,gg X af (upd H2 s2.heap.objs.size (.lst [])) b:=λb hb=>⟨by rw[aN (ab6 (Ng b hb))];exact(hf b hb).1,(hf b hb).2⟩
 have hsz:(s2.heap.push { cls:=.type "list",data:=.seq ([]:List Value).toArray }).objs.size=s2.heap.objs.size+1:=acV ..;refine acK (wpAny_newFunctionEnv S.uO (λy hy=>nomatch hy) (λh1 Uy Rj=>?_) S.kind);generalize tZ:({ s2 with heap:=s2.heap.push { cls:=.type "list",dict:=none,data:=.seq ([]:List Value).toArray } }:Shared)=s3 at *;have vA:∀b o,s3.heap.get? b=some o->h1.get? b=some o:=λb o e=>(Rj.2 b (ab6 (aba e))).trans (aad _ e)
 have Lb:∀b∈fp,b<s3.heap.objs.size:=λb hb=>by rw[<- tZ];show b<(s2.heap.push _).objs.size;rw[hsz];exact ac7 (Ng b hb)
 have I4:Inv (dJ X M sc s3 (upd H2 s2.heap.objs.size (.lst [])) fp) [] (kg js σ) (upd H2 s2.heap.objs.size (.lst [])) { s3 with heap:=h1,toks:=s3.toks+([]:List (Str×Value)).length }:=I3.comp S Fz Lb Uy vA;obtain⟨hg,ht,he⟩:=hb s3 (upd H2 s2.heap.objs.size (.lst [])) fp;have pP:∀{H':Hp},(∀b∈fp,H' b=none)->∀b∈fp,gg (dJ X M sc s3 (upd H2 s2.heap.objs.size (.lst [])) fp) [] H' b:=λ{H'} hn b hb=>
  ⟨hn b hb,ab6 (Lb b hb),I4.ok.se b hb,.inl hb,(I4.ok.zp b hb).2,λp hp=>absurd (show p∈([]:List (Addr×Obj)) from hp) (by simp)⟩
 have Ak:=T.keep _ _ _ st λb hb o e=>vA b o (by rw[<- tZ];exact aad _ e)
 have Ou:∀b∈fp,upd H2 s2.heap.objs.size (.lst []) b=none:=λb hb=>(Fz b hb).1
 have loop:codeAny (model X.prog X.w) X.A (.compLoop (.ListComp elt [⟨tg,iter,ifs,0⟩] sc pos) 0 (.ref it) (.ref s2.heap.objs.size) (compEnvC sc (j7 X.env sc.names []) s3.heap.objs.size X.env)) (RR (.ref s2.heap.objs.size) s3.heap.objs.size)
   { s3 with heap:=h1,toks:=s3.toks+([]:List (Str×Value)).length }:=by
  refine O0 (λn s'=>∃i aB H',Inv (dJ X M sc s3 (upd H2 s2.heap.objs.size (.lst [])) fp) [] aB H' s'/\tn i s'.heap/\(∀b∈fp,H' b=none)/\W i n aB H') ?_ m0 ⟨0,_,_,I4,Ak,Ou,w0⟩
  rintro n s5 ⟨i,wK,H5,I5,qE,yK,w5⟩
  rcases turn i n wK H5 w5 with⟨stop,q⟩|⟨go,step⟩
  .refine aL (T.done (dJ X M sc s3 (upd H2 s2.heap.objs.size (.lst [])) fp) rfl rfl rfl hc i [] s5 wK H5 _ I5 (pP yK) qE stop) λr s6 ⟨hr,I6⟩=>?_
   subst hr;exact hR _ _ _ _ _ _ I3 Fz I6 q
  .refine aL (T.item (dJ X M sc s3 (upd H2 s2.heap.objs.size (.lst [])) fp) rfl rfl rfl hc i [] s5 wK H5 _ I5 (pP yK) qE go) λr s6 ⟨u,hr,h6⟩=>?_
   subst hr;refine aL h6 λ_ s7 ⟨x,H7,I7,r7,y7,Bt,Z4⟩=>?_
   have I7':=I7.pinned (pP Z4) (T.obj _ _ Bt);have back:∀{nF:St}{H8:Hp}{s8:Shared},Inv (dJ X M sc s3 (upd H2 s2.heap.objs.size (.lst [])) fp) ([]++v7 fp s7.heap) nF H8 s8->tn (i+1) s8.heap/\(∀b∈fp,H8 b=none):=λ{nF H8 s8} I8=>
    ⟨T.keep _ _ _ Bt λb hb o e=>(I8.pin (b,o) (aaQ _ (aaQ _ (yp hb e)))).1,λb hb=>by
     obtain⟨o,e,_⟩:=T.obj _ _ Bt b hb;exact(I8.pin (b,o) (aaQ _ (aaQ _ (yp hb e)))).2.1⟩
   refine aL (hg _ s7 wK H7 x u _ I7' r7 (step x H7 y7)) λ_ s8 ⟨nF,H8,I8,q8⟩=>?_
   refine aL (ht _ s8 nF H8 _ I8 q8) λok s9 ⟨H9,I9,q9⟩=>?_
   cases ok with
   |false=>
    rw[aa7 abI] at q9 ⊢;obtain⟨m',hm,w9⟩:=q9;obtain⟨a9,b9⟩:=back I9;exact⟨m',hm,i+1,nF,H9,I9.uF,a9,b9,w9⟩
   |true=>
    rw[if_pos rfl] at q9 ⊢;refine aL (he _ s9 nF H9 _ I9 q9) λy f6 ⟨yv,Gj,Q_,Xh,xs,hD,hz,m',hm,QY⟩=>?_
    refine aL (y9 _ f6 nF Gj (.ref s2.heap.objs.size) [yv] (.ref s2.heap.objs.size) [y] (λv HP=>v=.aH/\HP=upd Gj s2.heap.objs.size (.lst (xs++[yv]))) Q_ rfl (.cons Xh .nil) ⟨_,xs,yv,rfl,rfl,hD,hz,rfl,rfl⟩) λ_ g7 ⟨v11,HP,GZ,_,_,MN⟩=>?_
    subst MN;obtain⟨a9,b9⟩:=back GZ;exact⟨m',hm,i+1,nF,_,GZ.uF,a9,b9,QY⟩
 exact codeAny_compStart_list loop (T.self _ 0 _ _ _ Ak loop)
theorem X4{tt:TT}(S:m7 X M js sc)(hc:X.calm=true)(hi:PI X tg iter wi)
  (hb:∀s3 H3 fp,PG (dJ X M sc s3 H3 fp) tg g/\tT (dJ X M sc s3 H3 fp) ifs tt/\PE (dJ X M sc s3 H3 fp) elt te) (hs:∀x,foldedSetIterable iter X.env x=pure x:=by intro _;rfl) :
  PE X (.ListComp elt [⟨tg,iter,ifs,0⟩] sc pos) (De wi js g tt te):=by
 intro af s σ H Q I h;rw[eval_ListComp];refine wpAny_comprehension_free (use:=none) rfl hs (Js λx hx=>I.ok.has x (S.free x hx)) S.kind S.loc ?_;refine aL (hi af s σ H _ I h) λv s1 h1=>aL h1 λyQ s2 ⟨it,fp,tn,J,H2,e,I2,T,aP,f2,h2⟩=>?_
 subst e;refine Mn (RR:=λacc C=>compPost (model X.prog X.w) X.A X.xe none (EP X af σ Q) acc C) S (.inl hc) I2 T aP f2 hb h2 λD s3 H3 s' aB H' I3 f3 J' q=>?_
 obtain⟨m,hm,_⟩:=J'.loc;exact⟨m,hm,λh' bu=>⟨.ref D,H',I3.IA f3 J' bu,rfl,q⟩⟩
theorem XE{tt:TT}(hN:X.N.Nodup)(hy:X.N[i]? = some y)(hl:X.env.scope.names.lookup y=some .local)
  (S:m7 X M js sc) (hc:X.calm=true) (hi:PI X tg iter wi) (hb:∀s3 H3 fp,PG (dJ X M sc s3 H3 fp) tg g/\tT (dJ X M sc s3 H3 fp) ifs tt/\PE (dJ X M sc s3 H3 fp) elt te)
  (gZ:swapsWith (.ListComp elt [⟨tg,iter,ifs,0⟩] sc pos) (some (.Name y py)) Cq.line X.env=pure true:=by rfl) (hs:∀x,foldedSetIterable iter X.env x=pure x:=by intro _;rfl) :
  PS X (.Assign [.Name y py] (.ListComp elt [⟨tg,iter,ifs,0⟩] sc pos) Cq) (El (De wi js g tt te) (zW i)):=by
 intro af s σ H D I h;rw[exec_Assign_Name_used _ _ _ _ gZ];refine aac (wpAny_standAt (aac ?_));refine aac (acC (wpAny_comprehension_free (use:=some (assign (.Name y py) X.env)) rfl hs (Js λx hx=>I.ok.has x (S.free x hx)) S.kind S.loc ?_) (λ_ s' q=>aaC (aaC q)) λ_ _ e=>e);refine aL (hi af s σ H _ I h) λv s1 h1=>aL h1 λyQ s2 ⟨it,fp,tn,J,H2,e,I2,T,aP,f2,h2⟩=>?_
 subst e;refine Mn (Q:=λx H1=>zW i x σ H1 D.nx) (RR:=λacc C=>compPost (model X.prog X.w) X.A X.xe (some (assign (.Name y py) X.env)) (λ_ s'=>SP X af D .next s') acc C) S (.inl hc) I2 T aP f2 hb h2 λDa s3 H3 s' aB H' I3 f3 J' q=>?_
 have sb:Heap.SameBut s3.heap.objs.size s'.heap s'.heap:=⟨rfl,λ_ _=>rfl⟩
 have I5:=I3.IA f3 J' sb;obtain⟨m,hm,_⟩:=J'.loc;have ne:=ab6 I3.lt;refine wpAny_assign_Name (Hz I5 hN hy (.inl hl) (show RelV (.ref Da) (.ref Da) from rfl) (λs6 I6 ⟨a,sS,ha⟩=>?_) (.inr hl));have lH:∀x c,X.env.cells.lookup x=some c->c≠s3.heap.objs.size:=λx c e=>by
  obtain⟨v',tR⟩:=I3.cell x c e;exact ab6 tR.lt
 have na:=ha.elim (λe=>by rw[e];exact ne) λz=>lH y a z
 refine⟨m,hm.sameBut sS (adx na),λh' bu=>⟨_,H',I6.turned (λb o hb e=>(bu.2 b hb).trans e) J'.free (adx ne) (.inr I3.sz) lH (λp hp=>?_),q⟩⟩;exact ab6 (aba (I3.pin p hp).1)
end
theorem Qw:typeLookup (.type "dict") "__len__"=pure (some (.builtin "dict.__len__")):=by rw[adi,acE];kernel_rfl
section
variable{prog:Program}{w:World}{A:Around}{E:Value->Shared->Prop}{s:Shared}
theorem VI{κ:Type}[DecidableEq κ]{knd:KeyKind prog w κ}{aj:List (κ×Value)}{Q:List Value->Shared->Prop}(hh:A.handled=none)(hd:(d==sysModules)=false)(hm:s.heap.DictOf knd d aj)(hz:aj.length<=sizeLine)
  (hQ:∀s' acc,s.heap.objs.size<=s'.heap.objs.size->(∀b o,s.heap.get? b=some o->s'.heap.get? b=some o)->s'.gens=s.gens->s'.drawn=s.drawn->s'.os=s.os->ItemsOf (λi v=>∃k x,aj[i]? = some (k,x)/\knd.is k v=true) acc aj.length->Q acc.toList s') :
  wpAny (model prog w) A (collect (.ref d)) Q E s:=by
 obtain⟨ep,hm⟩:=hm.dictAt;have bI:=hm.lt_size;unfold collect;refine aac (wpAny_runValue (acS F.entry_proto_collect ?_));rw[acI F.plain_proto_collect _];refine aac (acK ?_);refine aaC ⟨adu F.plain_list_iadd _,acS F.entry_list_iadd ?_⟩;rw[acI F.plain_list_iadd _];have mO:=hm.push { cls:=.type "list",data:=.seq ([]:List Value).toArray };have Fd:({ s with heap:=s.heap.push { cls:=.type "list",data:=.seq ([]:List Value).toArray } }:Shared).TypeIs (.ref d) "dict":=mO.dictOf.typeIs;show wpAny (model prog w) A.in1 (Builtin.List.listExtendWith (.ref s.heap.objs.size) (.ref d) (.ref s.heap.objs.size)) _ _ _;unfold Builtin.List.listExtendWith;refine aac (aeF Fd ?_);have h1:Builtin.List.listSameRef (.ref s.heap.objs.size) (.ref d)=false:=by simp[Builtin.List.listSameRef,ada bI]
 have h2:(Value.type "dict" == Value.type "list")=false:=by decide
 have h3:(Value.type "dict" == Value.type "tuple")=false:=by decide
 simp only[h1,h2,h3,Bool.or_false,acG,ad7];refine aac (wpAny_pyIter_dict hd mO ?_);refine aac (acR ?_);have gC:=mO.push { cls:=.type "dict_keyiterator",data:=.fields #[.ref d,.int 0 0,.int aj.length 0,.int ep 0] };have pA:({ s with heap:=(s.heap.push { cls:=.type "list",data:=.seq ([]:List Value).toArray }).push { cls:=.type "dict_keyiterator",data:=.fields #[.ref d,.int 0 0,.int aj.length 0,.int ep 0] } }:Shared).TypeIs (.ref d) "dict":=gC.dictOf.typeIs;unfold Builtin.List.listLengthHint;refine aac (ael pA Qw ?_);generalize j4:("dict.__len__":String)=nX
 (fail_if_success (clear j4 nX))
 wp_delta
 rw[show splitId nX=some ("dict","__len__") from by subst j4;decide +kernel];subst j4;refine aac (adJ (b:=true) pA (by rw[adN];kernel_rfl) ?_);refine aac (aeF pA ?_);refine aaC ?_;refine aac (ady ?_);have hsz:(s.heap.push { cls:=.type "list",data:=.seq ([]:List Value).toArray }).objs.size=s.heap.objs.size+1:=acV ..;generalize pV:s.heap.push { cls:=.type "list",data:=.seq ([]:List Value).toArray }=h1 at *;have z7:h1.get? s.heap.objs.size=some { cls:=.type "list",data:=.seq ([]:List Value).toArray }:=by rw[<- pV];exact abb _ rfl
 have uQ:∀b o,s.heap.get? b=some o->h1.get? b=some o:=λb o e=>by rw[<- pV];exact aad _ e
 dsimp only;have Xj:(h1.push { cls:=.type "dict_keyiterator",data:=.fields #[.ref d,.int 0 0,.int aj.length 0,.int ep 0] }).get? h1.objs.size=some { cls:=.type "dict_keyiterator",data:=.fields #[.ref d,.int 0 0,.int aj.length 0,.int ep 0] }:=abb _ rfl;have nC:(h1.push { cls:=.type "dict_keyiterator",data:=.fields #[.ref d,.int 0 0,.int aj.length 0,.int ep 0] }).get? s.heap.objs.size=some { cls:=.type "list",data:=.seq ([]:List Value).toArray }:=aad _ z7;have vG:∀b o,s.heap.get? b=some o->(h1.push { cls:=.type "dict_keyiterator",data:=.fields #[.ref d,.int 0 0,.int aj.length 0,.int ep 0] }).get? b=some o:=λb o e=>aad _ (uQ b o e)
 generalize hh2:h1.push { cls:=.type "dict_keyiterator",data:=.fields #[.ref d,.int 0 0,.int aj.length 0,.int ep 0] }=h2 at *;have HG:s.heap.objs.size≠h1.objs.size:=by rw[hsz];exact ab6 (adl _)
 have Oh:=ada bI;have Qu:d≠h1.objs.size:=by rw[hsz];exact ab6 (ac7 bI)
 refine aac ?_;refine aac (adR nC rfl ?_);have vL:=acy (Obj.mapSeq (·.push Value.none)) nC rfl;refine adR vL rfl ?_;have D3:=acy (Obj.mapSeq (·.pop)) vL rfl;have sN:∀b o,b≠s.heap.objs.size->h2.get? b=some o->((h2.update s.heap.objs.size (Obj.mapSeq (·.push Value.none))).update s.heap.objs.size (Obj.mapSeq (·.pop))).get? b=some o:=
  λb o hb e=>(acm _ _ (adx hb)).trans ((acm _ _ (adx hb)).trans e)
 have W:=(Walks.dictKeys (prog:=prog) (A:=A.in1) (knd:=knd) hh h1.objs.size d Qu aj ep).toS;refine aaC ⟨adu F.plain_extend_loop _,codeAny_extend_loopS W hz s.heap.objs.size (by simp;exact⟨HG,Oh⟩) _ aj.length 0 _ _ _ rfl (acD _) ?_ D3 (ItemsOf.nil _) λs' f_ c' oU gm ju=>?_⟩
 .exact⟨⟨_,sN _ _ (adx HG) Xj,rfl,rfl⟩,gC.at' λo e=>sN _ _ (adx Oh) e⟩
 .show wpAny (model prog w) A (load s.heap.objs.size >>= _) _ _ s';refine aac (wpAny_load gm ?_);refine aaC (hQ s' f_ (ade (aba gm)) (λb o e=>?_) oU.gens oU.drawn oU.os ju);have hb:=aba e;refine oU.heap b o ?_ (sN b o (ab6 hb) (vG b o e));intro m;rcases aaG.mp m with z|z
  .exact absurd hb (by rw[z];exact acW _)
  .have z:=aat.mp z;rw[hsz] at z;exact absurd hb (by rw[z];exact Nat.not_lt.mpr (ad6 _))
theorem JW(hc:∀(Q':List Value->Shared->Prop),(∀vs s',(∃ns,IntsAre vs ns/\∀(out:Array Value) (bR:List Int),IntsAre out.toList bR->bR.Perm ns->bR.Pairwise (·<=·)->
    Q (.ref s'.heap.objs.size) { s' with heap:=sortedHeap (s'.heap.push (seqObj "list" vs.toArray 0)) s'.heap.objs.size vs out })/\vs.length<=sizeLine->Q' vs s')->wpAny (model prog w) A.in1 (collect x) Q' E s):wpAny (model prog w) A (call (.builtin "sorted") [x]) Q E s:=by
 refine call_function_tree kind_sorted plain_sorted entry_sorted (args_sorted1 _) ?_;unfold Builtin.«sorted»;refine aac (aaC ?_);refine aac (hc _ λvs s' ⟨⟨ns,hI,h⟩,eK⟩=>?_);refine aac (wpAny_newList ?_);have wX:(s'.heap.push (seqObj "list" vs.toArray 0)).get? s'.heap.objs.size=some (seqObj "list" vs.toArray 0):=abb _ rfl;refine aac (acR (adk slot_list_sort ⟨_,wX,rfl⟩ entry_list_sort (Hy.Tr wX hI eK λout bR a1 a2 a3=>⟨_,rfl,?_⟩) (args_list_sort _)));exact aaC (h out bR a1 a2 a3)
end
section
variable{X:Cx}
theorem Jr:∀{ks:List Int}{aj:List (Key×Value)}{vs:List Value},aj.map (·.1)=ks.map Sum.inl->vs.length=aj.length->(∀(i:Nat) v,vs[i]? = some v->∃k x,aj[i]? = some (k,x)/\(cO P w).is k v=true)->IntsAre vs ks
 |[],[],vs,_,hl,_=>by cases vs with
  |nil=>exact .nil
  |cons _ _=>simp at hl
 |[],_::_,_,e,_,_=>by simp at e
 |_::_,[],_,e,_,_=>by simp at e
 |k::ks,(q,x)::aj,vs,e,hl,h=>by
  simp only[aaz,adH] at e;obtain⟨rfl,e⟩:=e;cases vs with
  |nil=>simp at hl
  |cons v vs=>
   obtain⟨k',x',e0,hk⟩:=h 0 v rfl;have Yt:=ab8 e0;cases Yt;rcases jB (show ng (Sum.inl k) v=true from hk) with⟨i,t,e1,e2⟩|⟨y,t,e1,e2⟩
   .cases e1;subst e2;exact .cons k t (Jr e (by simpa using hl) λi v hv=>h (i+1) v (by simpa using hv))
   .cases e1
def MG(K:PySem.W.Frag):List V->Hp->VK->Prop:=λxs H Q=>∃(p:Addr) (ks:List Int),xs=[.ref p]/\ks.length<=sizeLine/\((∃aj:List (Key×V),H p=some (.dK aj)/\aj.map (·.1)=ks.map Sum.inl)\/bG K H p (ks.map V.int))/\
 ∀(l:Addr) (i9:List Int),H l=none->i9.Perm ks->i9.Pairwise (·<=·)->Q (.ref l) (upd H l (.lst (i9.map V.int)))
theorem Vn(hc:X.calm=true):eF X (.builtin "sorted") (MG X.K):=by
 intro af s σ H xs us Q I r h;obtain⟨p,ks,rfl,eK,C7,q⟩:=h;obtain⟨u,rfl,ru⟩:=vals1 r;cases ru;have fin:∀(vs:List Value) (s':Shared),s.heap.objs.size<=s'.heap.objs.size->(∀b o,s.heap.get? b=some o->s'.heap.get? b=some o)->s'.gens=s.gens->s'.drawn=s.drawn->s'.os=s.os->∀(out:Array Value) (bR:List Int),IntsAre out.toList bR->bR.Perm ks->bR.Pairwise (·<=·)->
   EP X af σ Q (.ref s'.heap.objs.size) { s' with heap:=sortedHeap (s'.heap.push (seqObj "list" vs.toArray 0)) s'.heap.objs.size vs out }:=by
  intro vs s' hle hk e1 e2 e3 out bR a1 a2 a3;obtain⟨h',g',d',t',o'⟩:=s';dsimp only at e1 e2 e3 hk hle;subst e1 e2 e3;obtain⟨e,he⟩:=sortedHeap_at (vs:=vs) (out:=out) (show(h'.push (seqObj "list" vs.toArray 0)).get? h'.objs.size=some (seqObj "list" vs.toArray 0) from abb _ rfl);refine⟨.ref h'.objs.size,upd H h'.objs.size (.lst (bR.map V.int)),I.laid (λb o eb=>?_) hle ?_,rfl,q _ bR (I.aC.fresh hle) a2 a3⟩
  .have hb:=aba (hk b o eb);rw[sortedHeap_old (ab6 hb) (by rw[acV];exact ac7 hb)];exact aad _ (hk b o eb)
  .exact⟨by rw[List.length_map,a2.length_eq];exact eK,out.toList,e,Ad a1,by rw[he]⟩
 have hh:=I.ok.hd hc;refine JW λQ' yb=>?_
 rcases C7 with⟨aj,hp,hk⟩|hp
 .obtain⟨hz,hd,vs,rel,dd⟩:=LF I.aC hp;refine VI hh hd dd (by rw[<- rel.length];exact hz) λs' acc hle kp e1 e2 e3 it=>yb _ s' ⟨⟨ks,?_,λout bR a1 a2 a3=>fin _ s' hle kp e1 e2 e3 out bR a1 a2 a3⟩,?_⟩
  .refine Jr (P:=X.prog) (aj:=vs) (by rw[<- rel.keys];exact hk) (by rw[ab2];exact it.1) λi v hv=>it.2 i v (by rw[<- adg];exact hv)
  .rw[ab2,it.1,<- rel.length];have:=congrArg List.length hk;rw[List.length_map,List.length_map] at this;omega
 .obtain⟨ak,rv,pl,hz⟩:=I.list hp;have hi:=intsAre_of rv;have k1:s.heap.objs.size<=((s.heap.push (seqObj "list" #[] 0)).update s.heap.objs.size (Obj.mapSeq (·++ak.toArray))).objs.size:=by
   rw[aeC,acV];exact ad6 _
  have k2:∀b o,s.heap.get? b=some o->((s.heap.push (seqObj "list" #[] 0)).update s.heap.objs.size (Obj.mapSeq (·++ak.toArray))).get? b=some o:=λb o e=>
   (acm _ _ (ada (aba e))).trans (aad _ e)
  refine collect_list pl.isList (yb _ _ ⟨⟨ks,hi,λout bR a1 a2 a3=>fin ak { s with heap:=(s.heap.push (seqObj "list" #[] 0)).update s.heap.objs.size (Obj.mapSeq (·++ak.toArray)) } k1 k2 rfl rfl rfl out bR a1 a2 a3⟩,?_⟩) (by rw[<- rv.length];exact hz);rw[<- rv.length,List.length_map];exact eK
end
theorem TQ(a d:Value):argsOk "min" ⟨[a],[("default",d)]⟩:=by unfold argsOk;kernel_rfl
section
variable{prog:Program}{w:World}{A:Around}{R:Result->Shared->Prop}{it:Addr}{cE gc:List Addr}{n:Nat}{P:Nat->Value->Prop}{T:Nat->Heap->Prop}
theorem Aa:(toString "min"++toString ".loop":String)="min.loop":=by decide
theorem RO(W:Walks prog w A.in1 it cE gc n P T)(bt:Nat->Nat->Bool)(FH:CmpOf prog w A.in1 .Lt P bt)(kw:List (Str×Value))(B:Addr)(hB:B∉cE):
  ∀(k j:Nat) (s:Shared) (vb:Value) (c:Nat),n-(j+1)=k->j+1<=n->T (j+1) s.heap->P (argBest bt j) vb->s.heap.get? B=some { cls:=.type "list",dict:=none,data:=.seq #[vb,vb] c,slots:=#[] }->
   (∀v h' tk,P (argBest bt (n-1)) v->(∀b o,b∉gc->b≠B->s.heap.get? b=some o->h'.get? b=some o)->R (.ok (.ret v)) { s with heap:=h',toks:=tk })->
   codeAny (model prog w) A (.builtin "min.loop" ⟨[.ref it,.none,.ref B],kw⟩) R s:=by
 have nB:B∉gc:=λm=>hB (W.sub _ m)
 intro k
 induction k with
 |zero=>
  intro j s vb c e1 e2 st pb gB fin;have en:j+1=n:=by omega
  refine acS F.entry_min_loop ?_;rw[acI adT _];refine aac (adZ gB rfl ?_);refine aac (aez (W.done s _ _ (en ▸ st) λh1 t1 kp=>?_));have nt:=kp B _ nB gB;refine aac (adR nt rfl (aac (wpAny_letGo (aaC ?_))));exact fin vb _ t1 (by rw[<- en];exact pb) λb o m1 m2 e=>(acm _ _ (adx m2)).trans (kp b o m1 e)
 |succ k ih=>
  intro j s vb c e1 e2 st pb gB fin;have lt:j+1<n:=by omega
  refine acS F.entry_min_loop ?_;rw[acI adT _];refine aac (adZ gB rfl ?_);show wpAny (model prog w) A.in1 (tryCatch (pyNext (.ref it)) _ >>= _) _ _ s;refine aac (aez (W.item (j+1) s _ _ lt st λv h1 t1 pv fB kp=>?_));have nt:=kp B _ nB gB;show wpAny (model prog w) A.in1 (tryCatch (holding [v,v] (richCompare .Lt v vb >>= _)) _ >>= _) _ _ _;refine aac (aez (acR (aac (FH (j+1) (argBest bt j) v vb _ _ _ pv pb ?_))));refine aac (acR (adC (aac (wpAny_letGo (aaC ?_)))));cases hb:bt (j+1) (argBest bt j) with
  |true=>
   simp only[aeS];refine aac (adR nt rfl (aac (wpAny_letGo ?_)));rw[Aa];refine aaC ⟨adu adT _,ih (j + 1) _ v _ (by omega) lt (W.frame _ _ _ fB λb m o e=>(acm _ _ (λz:B=b=>hB (by rw[z];exact m))).trans e)
    (by simp only[argBest,hb,aeS];exact pv) (acy _ nt rfl) λv2 h2 t2 p2 k2=>?_⟩
   exact fin v2 h2 t2 p2 λb o m1 m2 e=>k2 b o m1 m2 ((acm _ _ (adx m2)).trans (kp b o m1 e))
  |false=>
   simp only[acG,ad7];refine aac (wpAny_letGo ?_);rw[Aa];refine aaC ⟨adu adT _,ih (j+1) _ vb c (by omega) lt fB (by simp only[argBest,hb,acG,ad7];exact pb) nt λv2 h2 t2 p2 k2=>?_⟩;exact fin v2 h2 t2 p2 λb o m1 m2 e=>k2 b o m1 m2 (kp b o m1 e)
theorem aav(W:Walks prog w A.in1 it cE gc n P T)(bt:Nat->Nat->Bool)(FH:CmpOf prog w A.in1 .Lt P bt)(key:Str)(dv:Value)(B:Addr)(hB:B∉cE)(st:T 0 s.heap)
  (gB:s.heap.get? B=some { cls:=.type "list",dict:=none,data:=.seq #[] c,slots:=#[] })
  (fin:∀v h' tk,(n=0/\v=dv\/0<n/\P (argBest bt (n-1)) v)->(∀b o,b∉gc->b≠B->s.heap.get? b=some o->h'.get? b=some o)->R (.ok (.ret v)) { s with heap:=h',toks:=tk }) :
  codeAny (model prog w) A (.builtin "min.loop" ⟨[.ref it,.none,.ref B],[(key,dv)]⟩) R s:=by
 have nB:B∉gc:=λm=>hB (W.sub _ m)
 refine acS F.entry_min_loop ?_;rw[acI adT _];refine aac (adZ gB rfl ?_)
 by_cases hn:0<n
 .refine aac (aez (W.item 0 s _ _ hn st λv h1 t1 pv fB kp=>?_));have nt:=kp B _ nB gB;show wpAny (model prog w) A.in1 (updateSeq B (λ_=>#[v,v]) >>= _) _ _ _;refine aac (adR nt rfl ?_);rw[Aa];refine aaC ⟨adu adT _,RO W bt FH _ B hB _ 0 _ v _ rfl hn (W.frame _ _ _ fB λb m o e=>(acm _ _ (λz:B=b=>hB (by rw[z];exact m))).trans e) pv (acy _ nt rfl) λv2 h2 t2 p2 k2=>?_⟩;exact fin v2 h2 t2 (.inr ⟨hn,p2⟩) λb o m1 m2 e=>k2 b o m1 m2 ((acm _ _ (adx m2)).trans (kp b o m1 e))
 .have en:n=0:=by lia
  refine aac (aez (W.done s _ _ (en ▸ st) λh1 t1 kp=>?_));exact aac (ady (aaC (fin dv h1 t1 (.inl ⟨en,rfl⟩) λb o m1 _ e=>kp b o m1 e)))
end
section
variable{prog:Program}{w:World}{A:Around}{E:Value->Shared->Prop}{s:Shared}
theorem Ua{id:String}{b:Builtin}{kw:List (Str×Value)}(hk:builtinKind id=none)(hp:plainId id=true)(hb:entryFor table id=some b)(ha:argsOk id ⟨args,kw⟩)
  (hc:wpAny (model prog w) A.in1 (b ⟨args,kw⟩) (λfin s'=>match fin with
   |.done f=>(match(Except.ok f:Result) with|.ok (.ret v)=>Q v s'|.ok _=>False|.error e=>E e s')
   |.again c=>c.quiet=true/\codeAny (model prog w) A c (λr s'=>match r with|.ok (.ret v)=>Q v s'|.ok _=>False|.error e=>E e s') s') E s):wpAny (model prog w) A (call (.builtin id) args kw) Q E s:=by
 refine wpAny_call (codeAny_call_builtin hp hb ?_);simp only[checkBuiltinCall,hk];cases OT:Manifest.signature? id with
 |none=>exact aaC hc
 |some sig=>
  have h2:Bind.checkArgs id sig ⟨args,kw⟩=pure ():=by simpa only[argsOk,OT] using ha
  simp only[h2];exact aaC hc
theorem HN:∀{vs:List Value}{ns:List Int}{i:Nat}{v:Value},IntsAre vs ns->vs[i]? = some v->∃t,v=Value.int (ns.getD i 0) t
 |_,_,_,_,.nil,e=>by simp at e
 |_,_,0,_,.cons n t h,e=>by
  have e':=ab8 e;subst e';exact⟨t,rfl⟩
 |_,_,i+1,v,.cons n t h,e=>by
  obtain⟨u,eu⟩:=HN h (by simpa using e);exact⟨u,by simpa using eu⟩
theorem aby{ns:List Int}(h:i<ns.length):ns.getD i 0∈ns:=by
 rw[acs,aau h];exact adM h
theorem Zz{l:Addr}{vs:List Value}{ns:List Int}{dv:Value}{Q:Value->Shared->Prop}(hh:A.handled=none)(hl:s.heap.IsList l vs.toArray)(hi:IntsAre vs ns)
  (fin:∀v h' tk,(ns=[]/\v=dv\/∃m t,v=.int m t/\m∈ns/\∀x∈ns,m<=x)->(∀b o,s.heap.get? b=some o->h'.get? b=some o)->Q v { s with heap:=h',toks:=tk }) :
  wpAny (model prog w) A (call (.builtin "min") [.ref l] [("default",dv)]) Q E s:=by
 refine Ua F.kind_min F.plain_min F.entry_min (TQ _ _) ?_;refine aac (aeK (show Builtin.Builtins.bindParams "min" ["key","default"] 0 ⟨[],[("default",dv)]⟩=pure [none,some dv] from rfl) ?_);refine aac (aaC (aac (aev hl ?_)));refine aac (acK ?_);rw[Aa];have K_:l<s.heap.objs.size:=let⟨_,ho,_⟩:=hl;aba ho
 have hsz:(s.heap.push { cls:=.type "list_iterator",data:=.fields #[.ref l,.int 0 0] }).objs.size=s.heap.objs.size+1:=acV ..;have hv:∀(i:Nat) (v:Value),vs.toArray[i]? = some v->∃t,v=Value.int (ns.getD i 0) t:=λi v e=>HN hi (by simpa using e)
 have hlen:=hi.length;generalize pV:s.heap.push { cls:=.type "list_iterator",data:=.fields #[.ref l,.int 0 0] }=h1 at *;have g1:h1.get? s.heap.objs.size=some { cls:=.type "list_iterator",data:=.fields #[.ref l,.int 0 0] }:=by rw[<- pV];exact abb _ rfl
 have old:∀b o,s.heap.get? b=some o->h1.get? b=some o:=λb o e=>by rw[<- pV];exact aad _ e
 have nl:=ab6 K_;have W:=Walks.list (prog:=prog) (w:=w) (A:=A.in1.in1) hh s.heap.objs.size l nl vs.toArray;have hB:h1.objs.size∉[s.heap.objs.size,l]:=by
  intro m;rcases aaG.mp m with z|z
  .rw[hsz] at z;exact absurd z (ada (adl _))
  .have z:=aat.mp z;rw[hsz] at z;exact absurd z (ada (ac7 K_))
 refine aaC ⟨adu adT _,aav W.of_in1 (λi j=>decide (ns.getD i 0<ns.getD j 0)) (CmpOf.ints_lt (λi=>ns.getD i 0) hv) _ dv h1.objs.size hB (c:=0) ?_ (abb _ rfl) λv h' tk x_ kp=>?_⟩
 .exact⟨⟨_,aad _ g1,rfl,rfl⟩,hl.at λo e=>aad _ (old l o e)⟩
 .refine fin v h' tk ?_ λb o e=>kp b o ?_ ?_ (aad _ (old b o e))
  .have bY:vs.toArray.size=ns.length:=by rw[abQ,hlen]
   rw[bY] at x_;rcases x_ with⟨h0,e⟩|⟨h0,pv⟩
   .exact .inl ⟨ac3 h0,e⟩
   .obtain⟨t,e⟩:=hv _ v pv;obtain⟨a1,a2⟩:=argBest_lt (λi=>ns.getD i 0) (ns.length-1);refine .inr ⟨_,t,e,aby (by omega),λx hx=>?_⟩;obtain⟨j,hj,rfl⟩:=ad8 hx;have:=a2 j (by omega);rw[show ns[j]=ns.getD j 0 by rw[acs,aau hj];rfl];exact this
  .intro m;exact absurd (aba e) (by rw[aat.mp m];exact acW _)
  .intro z;exact absurd (aba e) (by rw[z,hsz];exact Nat.not_lt.mpr (ad6 _))
end
section
variable{X:Cx}{p pos:Pos}{a:Expr}{ta td:TE}
def Zh(K:PySem.W.Frag)(ta td:TE):TE:=λσ H Q=>ta σ H λx H1=>td σ H1 λy H2=>∃(l:Addr) (ns:List Int),x=.ref l/\bG K H2 l (ns.map V.int)/\((ns=[]/\Q y H2)\/ns≠[]/\∀m,m∈ns->(∀n∈ns,m<=n)->Q (.int m) H2)
theorem ZH(hc:X.calm=true)(hm:X.mg "min"=none)(ha:PE X a ta)(hb:PE X b td)(hg:Gl X "min":=by rfl)(hs:starEach [a] X.env=[(false,eval a X.env)]:=by rfl)
  (h1:backTo pos (starEach [a] X.env)=(false,eval a X.env)::backTo pos (starEach [] X.env):=by rfl) (h2:(backTo pos (starEach [a] X.env)).any (·.1)=false:=by rfl)
  (h3:(backToKw pos (keywordEach [⟨some "default",b,kp⟩] X.env)).all (·.1.isSome)=true:=by rfl) (h4:(backToKw pos (keywordEach [⟨some "default",b,kp⟩] X.env)).any (·.1.isNone)=false:=by rfl)
  (h5:(backToKw pos (keywordEach [⟨some "default",b,kp⟩] X.env)).filterMap (·.1)=[("default":Str)]:=by rfl) :
  PE X (.Call (.Name "min" p) [a] [⟨some "default",b,kp⟩] pos) (Zh X.K ta td):=by
 intro af s σ H Q I h;refine adt (ku I hg hm (show bootBuiltins "min"=some (.builtin "min") by decide +kernel) ?_ (by decide) (by decide));refine callWith_kw ?_ h1 h2 h3 h4;rw[h5];refine aL (cH ha dU hs pos af s σ H (λvs H1=>match vs with|[x]=>td σ H1 λy H2=>∃(l:Addr) (ns:List Int),x=.ref l/\bG X.K H2 l (ns.map V.int)/\((ns=[]/\Q y H2)\/ns≠[]/\∀m,m∈ns->(∀n∈ns,m<=n)->Q (.int m) H2)|_=>False) I h) λus s1 ⟨vs,H1,I1,rv,q1⟩=>?_
 rcases vs with _|⟨x,_|⟨x2,r2⟩⟩
 .exact q1.elim
 .obtain⟨u,rfl,ru⟩:=vals1 rv;refine kws_cons (aL (hb af s1 σ H1 _ I1 q1) λdv s2 ⟨y,H2,I2,ry,l,ns,ex,hq,q2⟩=>kws_nil ?_);subst ex;cases ru;obtain⟨ak,ri,pl,hz⟩:=I2.list hq;refine Zz (I2.ok.hd hc) pl.isList (intsAre_of ri) λv h' tk x_ kp=>?_
  rcases x_ with⟨en,ev⟩|⟨m,t,ev,mO,gC⟩
  .subst ev;rcases q2 with⟨_,q2⟩|⟨ne,_⟩
   .exact⟨y,H2,I2.kept kp,ry,q2⟩
   .exact absurd en ne
  .subst ev;rcases q2 with⟨en,_⟩|⟨_,q2⟩
   .rw[en] at mO;cases mO
   .exact⟨.int m,H2,I2.kept kp,⟨t,rfl⟩,q2 m mO gC⟩
 .exact q1.elim
end
end L2
namespace PySem
theorem TH:typeLookup (.type "list") "keys"=pure none:=by rw[adi,acE];kernel_rfl
theorem PV:typeLookup (.type "tuple") "keys"=pure none:=by rw[adi,acE];kernel_rfl
section
variable{prog:Program}{w:World}{A:Around}{E:Value->Shared->Prop}{s:Shared}{a:Addr}{xs:Array Value}{k:Nat}{sl:Array (Option Value)}{Q:Option Value->Shared->Prop}
theorem Vd(hx:s.heap.get? a=some { cls:=.type "list",dict:=none,data:=.seq xs k,slots:=sl })(hA:A.handled=none)
  (h:∀h' tk,(∀b o,s.heap.get? b=some o->h'.get? b=some o)->Q none { s with heap:=h',toks:=tk }):wpAny (model prog w) A (getAttr? (.ref a) "keys") Q E s:=by
 obtain⟨hp,g,d,tk,os⟩:=s;have hT:∀qw,(⟨hp,g,d,qw,os⟩:Shared).TypeIs (.ref a) "list":=λ_=>⟨_,hx,rfl⟩
 have f1:=sub_AttributeError;have f3:=F.slot_list_getattribute.lookup;have f4:=F.slot_list_getattribute.bind (.ref a);have f5:=am_list_getattr_none;unfold getAttr? getAttrBy? getAttrBy
 repeat (any_goals (first|assumption|exact hT _|((with_reducible show wpAny _ _ (call (Value.builtin "list.__getattribute__") _ _) _ _ _);refine call_meets F.slot_list_getattribute (hT _) am_entry_list_getattribute (F.args_list_getattribute_2 _ _) (meets_getattribute_miss_list a xs k sl "keys" _ TH (by decide +kernel)) ⟨hx,hA,λh' qw e jw=>?_⟩)|wp_step))
 obtain⟨t',u',he⟩:=jw.there;unfold getattributeRaised
 repeat (any_goals (first|assumption|wp_step))
 all_goals exact h _ _ jw.keeps
theorem V1(hx:s.heap.get? a=some { cls:=.type "tuple",dict:=none,data:=.seq xs k,slots:=sl })(hA:A.handled=none)
  (h:∀h' tk,(∀b o,s.heap.get? b=some o->h'.get? b=some o)->Q none { s with heap:=h',toks:=tk }):wpAny (model prog w) A (getAttr? (.ref a) "keys") Q E s:=by
 obtain⟨hp,g,d,tk,os⟩:=s;have hT:∀qw,(⟨hp,g,d,qw,os⟩:Shared).TypeIs (.ref a) "tuple":=λ_=>⟨_,hx,rfl⟩
 have f1:=sub_AttributeError;have f3:=F.slot_tuple_getattribute.lookup;have f4:=F.slot_tuple_getattribute.bind (.ref a);have f5:=am_tuple_getattr_none;unfold getAttr? getAttrBy? getAttrBy
 repeat (any_goals (first|assumption|exact hT _|((with_reducible show wpAny _ _ (call (Value.builtin "tuple.__getattribute__") _ _) _ _ _);refine call_meets F.slot_tuple_getattribute (hT _) am_entry_tuple_getattribute (F.args_tuple_getattribute_2 _ _) (meets_getattribute_miss_tuple a xs k sl "keys" _ PV (by decide +kernel)) ⟨hx,hA,λh' qw e jw=>?_⟩)|wp_step))
 obtain⟨t',u',he⟩:=jw.there;unfold getattributeRaised
 repeat (any_goals (first|assumption|wp_step))
 all_goals exact h _ _ jw.keeps
end
end PySem
namespace L2
open PySem PySem.Spec PyProof.Rows
theorem zu:plainId "dict.update.loop"=true:=by decide +kernel
theorem KW:entryFor table "dict.update.loop"=some Builtin.«dict.update.loop»:=entryFor_of_fast (by kernel_rfl)
def pairAt{prog:Program}{w:World}{κ:Type}[DecidableEq κ](knd:KeyKind prog w κ)(h:Heap)(no:List Addr)(v:Value)(p:κ×Value):Prop:=∃a key,v=.ref a/\a∉no/\IsTup h a #[key,p.2]/\knd.is p.1 key=true
section
variable{prog:Program}{w:World}{A:Around}{R:Result->Shared->Prop}{κ:Type}[DecidableEq κ]{knd:KeyKind prog w κ}{it d:Addr}{cE gc:List Addr}{n:Nat}{P:Nat->Value->Prop}{T:Nat->Heap->Prop}
theorem aap(W:Walks prog w A.in1 it cE gc n P T)(hd:d∉cE)(h0:Heap)(ps:List (κ×Value))(hn:ps.length=n)(hP:∀i v,P i v->∃p,ps[i]? = some p/\pairAt knd h0 (d::gc) v p)(res:Value):
  ∀(k i:Nat) (s:Shared) (m:List (κ×Value)) (Bx:Tok),n-i=k->i<=n->T i s.heap->s.heap.DictOf knd d m->m.length+(n-i)<=sizeLine->(∀b o,b∉d::gc->h0.get? b=some o->s.heap.get? b=some o)->
   (∀h' tk,h'.DictOf knd d ((ps.drop i).foldl (λm p=>stored m p.1 p.2) m)->(∀b o,b∉d::gc->h0.get? b=some o->h'.get? b=some o)->R (.ok (.ret res)) { s with heap:=h',toks:=tk })->
   codeAny (model prog w) A (.builtin "dict.update.loop" ⟨[.ref d,.ref it,.int i Bx,res],[]⟩) R s:=by
 have nd:d∉gc:=λm=>hd (W.sub _ m)
 intro k
 induction k with
 |zero=>
  intro i s m Bx e1 e2 st dm hz kp fin;have en:i=n:=by lia
  subst en;refine acS KW ?_;rw[acI zu _];refine aac (W.done s _ _ st λh1 t1 k1=>?_);refine aac (aaC (aaC (fin h1 t1 ?_ λb o mb e=>k1 b o (λz=>mb (aas _ z)) (kp b o mb e))));rw[aee (by lia)];obtain⟨o,es,ep,ho,r⟩:=dm;exact⟨o,es,ep,k1 d o nd ho,r⟩
 |succ k ih=>
  intro i s m Bx e1 e2 st dm hz kp fin;have lt:i<n:=by lia
  refine acS KW ?_;rw[acI zu _];refine aac (W.item i s _ _ lt st λv h1 t1 pv fB k1=>?_);obtain⟨p,ep,a,key,rfl,na,P6,Em⟩:=hP i v pv;have dm1:h1.DictOf knd d m:=by
   obtain⟨o,es,ep,ho,r⟩:=dm;exact⟨o,es,ep,k1 d o nd ho,r⟩
  obtain⟨oa,Sx,UP,na',T5⟩:=P6;have ga:=k1 a oa (λz=>na (aas _ z)) (kp a oa na Sx);refine aac (acR ?_);refine aac (aez ?_);unfold Builtin.Dict.pairItems;refine aac (aeF (T:="tuple") ⟨oa,ga,UP⟩ ?_);rw[if_pos (by decide)];refine aac (adZ ga T5 (aaC ?_));refine acR (wpAny_dictSet_pairs Em dm1 (λh2 QU sb=>?_) (by lia));have IT:∀b o,b≠d->h1.get? b=some o->h2.get? b=some o:=λb o hb e=>(sb.2 b hb).trans e
  have aP:=W.frame _ _ _ fB λb mb o e=>IT b o (λz=>hd (by rw[<- z];exact mb)) e
  have qm:(stored m p.1 p.2).length<=m.length+1:=by
   unfold stored
   split
   .rw[List.length_map];exact ad6 _
   .rw[ack];exact aa2 _
  refine aaC ⟨adu zu _,?_⟩;refine ih (i+1) _ (stored m p.1 p.2) 0 (by lia) lt aP QU (by lia) (λb o mb e=>IT b o (λz=>mb (by rw[z];exact aah)) (k1 b o (λz=>mb (aas _ z)) (kp b o mb e))) λh3 t3 DU k3=>?_
  refine fin h3 t3 ?_ k3;have hi:i<ps.length:=by lia
  have uz:ps[i]=p:=by rw[aau hi] at ep;exact ab8 ep
  rw[ac5 hi,adj,uz];exact DU
theorem Np(ps:List (κ×Value))(hz:ps.length<=sizeLine)(T0:String)(Ub:(Value.type T0 != Value.type "dict")=true)
  (qu:∀o,({ s with heap:=s.heap.push o }:Shared).TypeIs x T0)
  (hk:∀(o:Obj) (Q':Option Value->Shared->Prop) (E':Value->Shared->Prop),(∀h' tk,(∀b ob,(s.heap.push o).get? b=some ob->h'.get? b=some ob)->Q' none { s with heap:=h',toks:=tk })->wpAny (model prog w) A.in1.in1 (getAttr? x "keys") Q' E' { s with heap:=s.heap.push o })
  (hi:∀(s2:Shared) (Q':Value->Shared->Prop) (E':Value->Shared->Prop),(∀b ob,s.heap.get? b=some ob->s2.heap.get? b=some ob)->(∃o,s2.heap.get? s.heap.objs.size=some o)->
   (∀I cE gc n P T h3,Walks prog w A.in1.in1 I cE gc n P T->T 0 h3->ps.length=n->s.heap.objs.size∉cE->(∀b ob,s2.heap.get? b=some ob->h3.get? b=some ob)->(∀b∈gc,s.heap.get? b=none)->(∀i v,P i v->∃p,ps[i]? = some p/\pairAt knd s.heap (s.heap.objs.size::gc) v p)->Q' (.ref I) { s2 with heap:=h3 })->
   wpAny (model prog w) A.in1.in1 (pyIter x) Q' E' s2)
  (h:∀h' tk,h'.DictOf knd s.heap.objs.size (ps.foldl (λm p=>stored m p.1 p.2) [])->(∀b o,s.heap.get? b=some o->h'.get? b=some o)->Q (.ref s.heap.objs.size) { s with heap:=h',toks:=tk }) :
  wpAny (model prog w) A (call (.type "dict") [x]) Q E s:=by
 refine callType_codes (Q₁:=λobj aY=>obj=.ref s.heap.objs.size/\aY={ s with heap:=s.heap.push { cls:=.type "dict",data:=.dict #[] } }) F.kt_called_dict (F.kt_typeCall_dict_1 _) F.entry_dict_init (kt_code_dict_new _ ⟨rfl,rfl⟩) ?_
 rintro obj aY ⟨rfl,rfl⟩
 have Cd:(s.heap.push { cls:=.type "dict",data:=.dict #[] }).DictOf knd s.heap.objs.size []:=Heap.DictOf.new s.heap;refine⟨Cd.typeIs,F.args_dict_init_2 _ _,?_⟩;unfold Builtin.«dict.__init__»;refine aac ?_;unfold Builtin.Dict.selfAndRest;refine aac (wpAny_notOrdered_dict Cd.typeIs ?_);refine aaC ?_;show wpAny (model prog w) _ (Builtin.Dict.updateFrom "dict.__init__" s.heap.objs.size x [] .none) _ _ _;unfold Builtin.Dict.updateFrom;refine aac (aeF (qu _) ?_);rw[if_pos Ub];refine aac (hk _ _ _ λh1 t1 k1=>?_);refine aac (ady (aac ?_));have o1:∀b ob,s.heap.get? b=some ob->h1.get? b=some ob:=λb ob e=>k1 b ob (aad _ e)
 refine hi { s with heap:=h1,toks:=t1 } _ _ o1 ⟨_,k1 _ _ (abb _ rfl)⟩ (λI cE gc n P T h3 W st hn hd k3 hw hP=>?_);have DU:h3.DictOf knd s.heap.objs.size []:=by
  obtain⟨o,es,ep,ho,r⟩:=Cd;exact⟨o,es,ep,k3 _ o (k1 _ o ho),r⟩
 refine aaC ⟨adu zu _,aap W hd s.heap ps hn hP .none n 0 _ [] 0 rfl (acD _) st DU (by rw[aek];lia) (λb o _ e=>k3 b o (o1 b o e)) λh4 t4 SH k4=>?_⟩;refine⟨rfl,h h4 t4 (by simpa using SH) λb o e=>k4 b o (λm=>?_) e⟩;rcases aaG.mp m with z|z
 .exact absurd (aba e) (by rw[z];exact acW _)
 .rw[hw b z] at e;cases e
end
section
variable{X:Cx}
theorem JP{κ:Type}[DecidableEq κ]:∀{ps:List (κ×V)}{qs:List (κ×Value)}{m:List (κ×V)}{r:List (κ×Value)},KV ps qs->KV m r->KV (ps.foldl (λm p=>putK m p.1 p.2) m) (qs.foldl (λm p=>stored m p.1 p.2) r)
 |_,_,_,_,.nil,h=>h
 |_,_,_,_,.cons (a:=p) (b:=q) e t,h=>by
  rw[adj,adj];refine JP t ?_;rw[<- e.1];exact h.put p.1 e.2
def Dj(K:PySem.W.Frag):List V->Hp->VK->Prop:=λxs H Q=>∃(p:Addr) (ys:List V) (ps:List (Key×V)),xs=[.ref p]/\(bG K H p ys\/b8 K H p ys)/\Paired (λy (q:Key×V)=>∃a,y=.ref a/\b8 K H a [kV q.1,q.2]) ys ps/\
 ∀l,H l=none->Q (.ref l) (upd H l (.dK (ps.foldl (λm q=>putK m q.1 q.2) [])))
theorem DY(I:Inv X af σ H s):∀{ys:List V}{ps:List (Key×V)}{ak:List Value},Paired (λy (q:Key×V)=>∃a,y=.ref a/\b8 X.K H a [kV q.1,q.2]) ys ps->aK ys ak->
  ∃qs:List (Key×Value),KV ps qs/\∀(i:Nat) (v:Value),ak[i]? = some v->∃q,qs[i]? = some q/\∃a key,v=.ref a/\IsTup s.heap a #[key,q.2]/\(cO X.prog X.w).is q.1 key=true
 |_,_,_,.nil,.nil=>⟨[],.nil,λi v e=>by simp at e⟩
 |_,_,_,.cons (b:=q) ⟨a,ey,hr⟩ t,.cons (b:=u) r rs=>by
  obtain⟨qs,h1,h2⟩:=DY I t rs;subst ey;cases r;obtain⟨us,ru,pt,_⟩:=I.tuple hr;obtain⟨key,x,rfl,rk,rx⟩:=vals2 ru;refine⟨(q.1,x)::qs,.cons ⟨rfl,rx⟩ h1,λi v e=>?_⟩;cases i with
  |zero=>
   have e':=ab8 e;subst e';exact⟨_,rfl,a,key,rfl,pt,r6 rk⟩
  |succ i=>
   obtain⟨q',e1,e2⟩:=h2 i v (by simpa using e);exact⟨q',by simpa using e1,e2⟩
theorem Ot(hc:X.calm=true):eF X (.type "dict") (Dj X.K):=by
 intro af s σ H xs us Q I r h;obtain⟨p,ys,ps,rfl,C7,rT,q⟩:=h;obtain⟨u,rfl,ru⟩:=vals1 r;cases ru;have hh:=I.ok.hd hc;have big:=I.big;have fin:∀(ak:List Value) (qs:List (Key×Value)),KV ps qs->ys.length<=sizeLine->∀h' tk,h'.DictOf (cO X.prog X.w) s.heap.objs.size (qs.foldl (λm p=>stored m p.1 p.2) [])->(∀b o,s.heap.get? b=some o->h'.get? b=some o)->
   EP X af σ Q (.ref s.heap.objs.size) { s with heap:=h',toks:=tk }:=by
  intro ak qs mE hz h' tk dm kp;have rel:=JP (r:=[]) mE .nil;have xr:∀(l:List (Key×V)) (m:List (Key×V)),(l.foldl (λm q=>putK m q.1 q.2) m).length<=m.length+l.length:=by
   intro l
   induction l with
   |nil=>intro m;exact aa2 _
   |cons a l ih=>
    intro m;rw[adj];have h1:=ih (putK m a.1 a.2);have h2:=Fq m a.1 a.2;rw[acj]
    lia
  have hl:=(Paired.length rT).symm;refine⟨.ref s.heap.objs.size,_,I.laid kp (aa2 _) (Dv ?_ (acM.mpr (adx (ab6 big))) rel dm),rfl,q _ (I.aC.fresh (aa2 _))⟩;have:=xr ps [];rw[aek] at this
  lia
 have wY:∀{qs:List (Key×Value)},KV ps qs->qs.length=ys.length:=λh=>by rw[<- h.length];exact(Paired.length rT).symm
 have nV:∀{s2:Shared},(∃o,s2.heap.get? s.heap.objs.size=some o)->s.heap.objs.size<s2.heap.objs.size:=λ⟨_,e⟩=>aba e
 rcases C7 with hq|hq
 .obtain⟨ak,rv,pl,hz⟩:=I.list hq;obtain⟨qs,mE,Am⟩:=DY I rT rv;obtain⟨o,n,ho,jJ,vE,qB⟩:=pl;have hp:=aba ho;refine Np (knd:=cO X.prog X.w) qs (by rw[wY mE];exact hz) "list" (by decide) (λob=>⟨o,aad _ ho,jJ⟩) (λob Q' E' k=>?_) (λs2 Q' E' o2 hS k=>?_) (λh' tk dm kp=>fin ak qs mE hz h' tk dm kp)
  .obtain⟨c0,d0,Rr,OY⟩:=o;dsimp only at jJ vE qB;subst jJ vE qB;exact Vd (aad _ ho) hh λh1 t1 kp=>k h1 t1 kp
  .have qm:s2.heap.IsList p ak.toArray:=⟨o,o2 p o ho,jJ,n,qB⟩
   refine aev qm (k s2.heap.objs.size [s2.heap.objs.size,p] [s2.heap.objs.size] _ _ _ _ (Walks.list (A:=X.A.in1.in1) hh s2.heap.objs.size p (ab6 (Nat.lt_trans hp (nV hS))) ak.toArray) ⟨⟨_,abb _ rfl,rfl,rfl⟩,qm.push _⟩ (by rw[wY mE,abQ,<- rv.length]) ?_ (λb ob e=>aad _ e) ?_ λi v e=>?_)
   .intro m;rcases aaG.mp m with z|z
    .exact absurd z (ab6 (nV hS))
    .exact absurd (aat.mp z) (ada hp)
   .intro b m;rw[aat.mp m];exact aex (ade (nV hS))
   .obtain⟨q',e1,a,key,e2,e3,e4⟩:=Am i v (by simpa using e);refine⟨q',e1,a,key,e2,λm=>?_,e3,e4⟩;obtain⟨oa,ha,_⟩:=e3;rcases aaG.mp m with z|z
    .exact absurd (aba ha) (by rw[z];exact acW _)
    .exact absurd (aba ha) (by rw[aat.mp z];exact Nat.not_lt.mpr (ade (nV hS)))
 .obtain⟨ak,rv,⟨o,ho,jJ,vE,n,qB⟩,hz⟩:=I.SM hq;obtain⟨qs,mE,Am⟩:=DY I rT rv;have hp:=aba ho;refine Np (knd:=cO X.prog X.w) qs (by rw[wY mE];exact hz) "tuple" (by decide) (λob=>⟨o,aad _ ho,jJ⟩) (λob Q' E' k=>?_) (λs2 Q' E' o2 hS k=>?_) (λh' tk dm kp=>fin ak qs mE hz h' tk dm kp)
  .obtain⟨c0,d0,Rr,OY⟩:=o;dsimp only at jJ vE qB;subst jJ vE qB;exact V1 (aad _ ho) hh λh1 t1 kp=>k h1 t1 kp
  .have qm:s2.heap.IsTuple p ak.toArray:=⟨o,o2 p o ho,jJ,n,qB⟩
   refine wpAny_pyIter_tuple qm (k s2.heap.objs.size [s2.heap.objs.size,p] [s2.heap.objs.size] _ _ _ _ (Walks.tuple (A:=X.A.in1.in1) hh s2.heap.objs.size p (ab6 (Nat.lt_trans hp (nV hS))) ak.toArray) ⟨⟨_,abb _ rfl,rfl,rfl⟩,qm.push _⟩ (by rw[wY mE,abQ,<- rv.length]) ?_ (λb ob e=>aad _ e) ?_ λi v e=>?_)
   .intro m;rcases aaG.mp m with z|z
    .exact absurd z (ab6 (nV hS))
    .exact absurd (aat.mp z) (ada hp)
   .intro b m;rw[aat.mp m];exact aex (ade (nV hS))
   .obtain⟨q',e1,a,key,e2,e3,e4⟩:=Am i v (by simpa using e);refine⟨q',e1,a,key,e2,λm=>?_,e3,e4⟩;obtain⟨oa,ha,_⟩:=e3;rcases aaG.mp m with z|z
    .exact absurd (aba ha) (by rw[z];exact acW _)
    .exact absurd (aba ha) (by rw[aat.mp z];exact Nat.not_lt.mpr (ade (nV hS)))
end
end L2
namespace L2.Ev
open PySem PySem.Spec PyProof.Rows
structure VA(X:Cx)(i:Nat)(x:Str):Prop where
 N:X.N[i]? = some x
 v:uH X.env.scope x
 d:(x==("__debug__":Str))=false
 c:(x==("__classdict__":Str))=false
theorem VA.pe{X:Cx}{i:Nat}{x:Str}{p:Pos}(h:VA X i x):PE X (.Name x p) (t_ i):=pQ h.N h.v h.d h.c
def DB(X:Cx)(o:Expr)(m:Str)(apos:Pos)(as:List Expr)(pos:Pos)(pl:Sem Bool):Prop:=eval (.Call (.Attribute o m apos) as [] pos) X.env=(do
   let ov <- eval o X.env
   standAt apos.atName
   let(f,first) <- holding [ov] (getMethod ov m pl)
   callWith pos f first (backTo pos (starEach as X.env)) (backToKw pos (keywordEach [] X.env)))
def SE(X:Cx)(e:Expr)(es:List Expr)(pos:Pos):Prop:=starEach (e::es) X.env=(false,eval e X.env)::starEach es X.env/\(backTo pos (starEach es X.env)).any (·.1)=false
def GD(X:Cx)(x:Str):Prop:=Gl X x/\(x==("__debug__":Str))=false
noncomputable abbrev XN:=Str×Option Nat
inductive D where
 |aH|bl (b:Bool)|int (i:Int)|str (x:Str)|tup (ds:List D)|lst (ds:List D)|fZ (ds:List D)|bS (aj:List (Key×D))|qG (aj:List (List Key×D))|ins (cn:Str) (fs:List (Str×D))|exc (cn:XN)
def nA(K:PySem.W.Frag)(H:Hp)(a:Addr)(xs:List V):Prop:=(∃o,H a=some (.c_ o (.lst xs)))\/
 ∃(o:Obj) (ak:Array Value) (n:Nat),K.lookup a=some o/\o.cls=.type "list"/\o.dict=none/\o.data=.seq ak n/\ak.size<=sizeLine/\aK xs ak.toList
theorem nA.sq{K:PySem.W.Frag}{H:Hp}{a:Addr}{xs:List V}(h:nA K H a xs):bG K H a xs:=h.elim (λz=>.inl (.inr z)) .inr
mutual
inductive Rep(K:PySem.W.Frag)(H:Hp):D->V->List Addr->Prop
 |aH:Rep K H .aH .aH []
 |bl (b:Bool):Rep K H (.bl b) (.bl b) []
 |int (i:Int):Rep K H (.int i) (.int i) []
 |str (x:Str):Rep K H (.str x) (.str x) []
 |tup {a:Addr}{xs:List V}{ds:List D}{fp:List Addr}:b8 K H a xs->ay K H ds xs fp->Rep K H (.tup ds) (.ref a) fp
 |lst {a:Addr}{xs:List V}{ds:List D}{fp:List Addr}:H a=some (.lst xs)->ay K H ds xs fp->Rep K H (.lst ds) (.ref a) (a::fp)
 |yE {a:Addr}{xs:List V}{ds:List D}{fp:List Addr}:nA K H a xs->ay K H ds xs fp->Rep K H (.fZ ds) (.ref a) fp
 |bS {a:Addr}{aj:List (Key×V)}{es:List (Key×D)}{fp:List Addr}:H a=some (.dK aj)->es.map (·.1)=aj.map (·.1)->ay K H (es.map (·.2)) (aj.map (·.2)) fp->Rep K H (.bS es) (.ref a) (a::fp)
 |qG {a:Addr}{aj:List (List Key×V)}{es:List (List Key×D)}{fp:List Addr}:H a=some (.dT aj)->es.map (·.1)=aj.map (·.1)->ay K H (es.map (·.2)) (aj.map (·.2)) fp->Rep K H (.qG es) (.ref a) (a::fp)
 |ins {cn:Str}{a C dx:Addr}{fs:List (Str×V)}{es:List (Str×D)}{fp:List Addr}:PySem.W.nsIn K mainGlobals cn=some (some (.ref C))->H a=some (.ins C dx fs)->H dx=some (.own a)->es.map (·.1)=fs.map (·.1)->ay K H (es.map (·.2)) (fs.map (·.2)) fp->Rep K H (.ins cn es) (.ref a) (a::dx::fp)
 |exc {cn:XN}{a C:Addr}{de:Option Addr}{ob:Obj}:PySem.W.nsIn K mainGlobals cn.1=some (some (.ref C))->H a=some (Rz ob a (.ref C) de)->(∀n,cn.2=some n->∃dx,de=some dx/\H dx=some (WJ dx n))->Rep K H (.exc cn) (.ref a) []
inductive ay(K:PySem.W.Frag)(H:Hp):List D->List V->List Addr->Prop
 |nil:ay K H [] [] []
 |cons {d:D}{v:V}{ds:List D}{vs:List V}{f1 f2:List Addr}:Rep K H d v f1->ay K H ds vs f2->ay K H (d::ds) (v::vs) (f1++f2)
end
def bH(H H':Hp):Prop:=(∀a xs,H a=some (.tup xs)->H' a=some (.tup xs))/\(∀a o u,H a=some (.c_ o u)->H' a=some (.c_ o u))/\∀a φ,H a=some (.ext φ)->H' a=some (.ext φ)
theorem bH.XG{K:PySem.W.Frag}(i:bH H H')(h:b8 K H a xs):b8 K H' a xs:=by
 rcases h with(h|⟨o,h⟩)|h
 .exact .inl (.inl (i.1 _ _ h))
 .exact .inl (.inr ⟨o,i.2.1 _ _ _ h⟩)
 .exact .inr h
theorem bH.c_{K:PySem.W.Frag}(i:bH H H')(h:nA K H a xs):nA K H' a xs:=by
 rcases h with⟨o,h⟩|h
 .exact .inl ⟨o,i.2.1 _ _ _ h⟩
 .exact .inr h
theorem bH.of{H H':Hp}(h:aG H H'):bH H H':=⟨λ_ _ e=>h _ _ e,λ_ _ _ e=>h _ _ e,λ_ _ e=>h _ _ e⟩
theorem bH.trans{H H1 H2:Hp}(a:bH H H1)(b:bH H1 H2):bH H H2:=⟨λ_ _ e=>b.1 _ _ (a.1 _ _ e),λ_ _ _ e=>b.2.1 _ _ _ (a.2.1 _ _ _ e),λ_ _ e=>b.2.2 _ _ (a.2.2 _ _ e)⟩
noncomputable def iN:HO->Bool
 |.lst _|.dK _|.dT _|.ins _ _ _|.own _=>true
 |_=>false
theorem bH.upd{o o':HO}(h:H p=some o)(m:iN o=true):bH H (upd H p o'):=by
 refine⟨λa xs e=>?_,λa q u e=>?_,λa q e=>?_⟩
 .rw[aN]
  .exact e
  .rintro rfl;rw[h] at e;cases e;cases m
 .rw[aN]
  .exact e
  .rintro rfl;rw[h] at e;cases e;cases m
 .rw[aN]
  .exact e
  .rintro rfl;rw[h] at e;cases e;cases m
section
variable{K:PySem.W.Frag}{H H':Hp}
theorem Rep.frame(r:Rep K H d v fp)(k:∀a∈fp,H' a=H a)(i:bH H H'):Rep K H' d v fp:=
 Rep.rec (motive_1:=λd v fp _=>(∀a∈fp,H' a=H a)->Rep K H' d v fp) (motive_2:=λd v fp _=>(∀a∈fp,H' a=H a)->ay K H' d v fp) (λ_=>.aH) (λb _=>.bl b) (λn _=>.int n) (λx _=>.str x) (λh _ r k=>.tup (i.XG h) (r k))
  (λh _ r k=>.lst ((k _ (.head _)).trans h) (r λa m=>k a (.tail _ m))) (λh _ r k=>.yE (i.c_ h) (r k)) (λh e _ r k=>.bS ((k _ (.head _)).trans h) e (r λa m=>k a (.tail _ m))) (λh e _ r k=>.qG ((k _ (.head _)).trans h) e (r λa m=>k a (.tail _ m)))
  (λg h h2 e _ r k=>.ins g ((k _ (.head _)).trans h) ((k _ (.tail _ (.head _))).trans h2) e (r λa m=>k a (.tail _ (.tail _ m)))) (λg h p _=>.exc g (i.2.1 _ _ _ h) λn e=>(p n e).imp λ_ q=>⟨q.1,i.2.2 _ _ q.2⟩)
  (λ_=>.nil) (λ_ _ h t k=>.cons (h λa m=>k a (acf _ m)) (t λa m=>k a (aaQ _ m))) r k
theorem ay.frame:∀{ds:List D}{vs:List V}{fp:List Addr},ay K H ds vs fp->(∀a∈fp,H' a=H a)->bH H H'->ay K H' ds vs fp
 |_,_,_,.nil,_,_=>.nil
 |_,_,_,.cons h t,k,i=>.cons (h.frame (λa m=>k a (acf _ m)) i) (ay.frame t (λa m=>k a (aaQ _ m)) i)
theorem Rep.dw(r:Rep K H d v fp):∀a∈fp,∃o,H a=some o/\iN o=true:=by
 have c:∀{b:Addr}{o:HO}{f:List Addr},H b=some o->iN o=true->(∀a∈f,∃o,H a=some o/\iN o=true)->∀a∈b::f,∃o,H a=some o/\iN o=true:=λh m r a=>λ| .head _=>⟨_,h,m⟩|.tail _ z=>r a z
 have n:∀a∈([]:List Addr),∃o,H a=some o/\iN o=true:=λ_ m=>nomatch m
 exact Rep.rec (motive_1:=λ_ _ fp _=>∀a∈fp,∃o,H a=some o/\iN o=true) (motive_2:=λ_ _ fp _=>∀a∈fp,∃o,H a=some o/\iN o=true) n (λ_=>n) (λ_=>n) (λ_=>n) (λ_ _ r=>r) (λh _ r=>c h rfl r) (λ_ _ r=>r) (λh _ _ r=>c h rfl r) (λh _ _ r=>c h rfl r)
  (λ_ h h2 _ _ r=>c h rfl (c h2 rfl r)) (λ_ _ _=>n) n (λ_ _ h t a m=>(ab3.mp m).elim (h a) (t a)) r
theorem ay.dw:∀{ds:List D}{vs:List V}{fp:List Addr},ay K H ds vs fp->∀a∈fp,∃o,H a=some o/\iN o=true
 |_,_,_,.nil,_,m=>nomatch m
 |_,_,_,.cons h t,a,m=>(ab3.mp m).elim (h.dw a) (ay.dw t a)
theorem Rep.same{d:D}{v:V}{fp:List Addr}(h:Rep K H d v fp)(s:aG H H'):Rep K H' d v fp:=
 h.frame (λa m=>let⟨o,e,_⟩:=h.dw a m;(s a o e).trans e.symm) (.of s)
theorem ay.same{ds:List D}{vs:List V}{fp:List Addr}(h:ay K H ds vs fp)(s:aG H H'):ay K H' ds vs fp:=
 h.frame (λa m=>let⟨o,e,_⟩:=h.dw a m;(s a o e).trans e.symm) (.of s)
theorem ay.length:∀{ds:List D}{vs:List V}{fp:List Addr},ay K H ds vs fp->ds.length=vs.length
 |_,_,_,.nil=>rfl
 |_,_,_,.cons _ t=>by rw[acj,acj,ay.length t]
theorem ay.get:∀{ds:List D}{vs:List V}{fp:List Addr}{i:Nat}{d:D},ay K H ds vs fp->ds[i]? = some d->∃v f,vs[i]? = some v/\Rep K H d v f/\∀a∈f,a∈fp
 |_,_,_,_,_,.nil,e=>by simp at e
 |_,_,_,0,_,.cons h t,e=>by
  have e':=ab8 e;subst e';exact⟨_,_,rfl,h,λa m=>acf _ m⟩
 |_,_,_,i+1,d,.cons h t,e=>by
  obtain⟨v,f,e1,r,s⟩:=ay.get (d:=d) t (by simpa using e);exact⟨v,f,by simpa using e1,r,λa m=>aaQ _ (s a m)⟩
theorem ay.append:∀{ds es:List D}{vs ws:List V}{f g:List Addr},ay K H ds vs f->ay K H es ws g->ay K H (ds++es) (vs++ws) (f++g)
 |_,_,_,_,_,_,.nil,s=>s
 |_,_,_,_,_,g,.cons h t,s=>by
  rw[acw];exact .cons h (ay.append t s)
end
theorem Rep.jf{K:PySem.W.Frag}(r:Rep K H (.int i) v fp):v=.int i/\fp=[]:=by cases r;exact⟨rfl,rfl⟩
theorem Rep.ze{K:PySem.W.Frag}(r:Rep K H (.bl i) v fp):v=.bl i/\fp=[]:=by cases r;exact⟨rfl,rfl⟩
theorem Rep.yJ{K:PySem.W.Frag}(r:Rep K H (.str i) v fp):v=.str i/\fp=[]:=by cases r;exact⟨rfl,rfl⟩
theorem Rep.yO{K:PySem.W.Frag}(r:Rep K H .aH v fp):v=.aH/\fp=[]:=by cases r;exact⟨rfl,rfl⟩
mutual
noncomputable def aI:D->Bool
 |.lst _|.bS _|.qG _|.ins _ _=>false
 |.tup ds=>aU ds
 |.fZ ds=>aU ds
 |_=>true
noncomputable def aU:List D->Bool
 |[]=>true
 |d::ds=>aI d&&aU ds
end
section
variable{K:PySem.W.Frag}{H H':Hp}
theorem Rep.aI(r:Rep K H d v fp)(e:aI d=true):fp=[]:=
 Rep.rec (motive_1:=λd _ fp _=>L2.Ev.aI d=true->fp=[]) (motive_2:=λds _ fp _=>aU ds=true->fp=[]) (λ_=>rfl) (λ_ _=>rfl) (λ_ _=>rfl) (λ_ _=>rfl) (λ_ _ r e=>r (by rw[L2.Ev.aI] at e;exact e)) (λ_ _ _ e=>by delta L2.Ev.aI at e;cases e) (λ_ _ r e=>r (by rw[L2.Ev.aI] at e;exact e))
  (λ_ _ _ _ e=>by delta L2.Ev.aI at e;cases e) (λ_ _ _ _ e=>by delta L2.Ev.aI at e;cases e) (λ_ _ _ _ _ _ e=>by delta L2.Ev.aI at e;cases e) (λ_ _ _ _=>rfl) (λ_=>rfl) (λ_ _ h t e=>by
   rw[aU,aaF] at e;rw[h e.1,t e.2];rfl) r e
theorem ay.aI:∀{ds:List D}{vs:List V}{fp:List Addr},ay K H ds vs fp->aU ds=true->fp=[]
 |_,_,_,.nil,_=>rfl
 |_,_,_,.cons h t,e=>by
  rw[aU,aaF] at e;rw[h.aI e.1,ay.aI t e.2];rfl
end
inductive Tag where
 |own|lk|sh (o:List Nat)
noncomputable abbrev Slot:=Option (D×Tag)
abbrev aE:=List Slot
def qV(z:Addr->Option Nat)(i:Nat):Tag->List Addr->Prop
 |.sh o,fp=>∀a∈fp,∀j,z a=some j->j∈o
 |_,fp=>fp.Nodup/\∀a∈fp,z a=some i
def rW(ρ:aE)(j:Nat):Prop:=∀d,ρ[j]?≠some (some (d,.own))
structure ck where
 d:D
 v:V
 fp:List Addr
 z0:Addr->Option Nat
structure Ok(K:PySem.W.Frag)(H0:Hp)(S:List Addr)(z:Addr->Option Nat)(aq:List ck)(ρ:aE)(σ:St)(H:Hp):Prop where
 sl:∀i d t,ρ[i]? = some (some (d,t))->∃v fp,σ[i]? = some (some v)/\Rep K H d v fp/\qV z i t fp
 hl:∀p∈aq,Rep K H p.d p.v p.fp/\∀a∈p.fp,∀j,z a=some j->p.z0 a=some j/\rW ρ j
 zd:∀a j,z a=some j->(∃o,H a=some o)/\(H0 a=none\/a∈S)
 en:∀a o,H0 a=some o->a∉S->H a=some o
 ln:ρ.length=σ.length
theorem Ok.same{K:PySem.W.Frag}{H0:Hp}{S:List Addr}{z:Addr->Option Nat}(h:Ok K H0 S z aq ρ σ H)(s:aG H H'):Ok K H0 S z aq ρ σ H':=
 ⟨λi d t e=>let⟨v,fp,a,b,c⟩:=h.sl i d t e;⟨v,fp,a,b.same s,c⟩,λp m=>let⟨a,b⟩:=h.hl p m;⟨a.same s,b⟩,
  λa j e=>let⟨⟨o,x⟩,y⟩:=h.zd a j e;⟨⟨o,s _ _ x⟩,y⟩,λa o e n=>s _ _ (h.en a o e n),h.ln⟩
def cB(z:Addr->Option Nat)(H:Hp):Tag->List Addr->Prop
 |.sh o,fp=>∀a∈fp,∀j,z a=some j->j∈o
 |_,fp=>fp.Nodup/\∀a∈fp,H a=none
theorem cB.nil{z:Addr->Option Nat}{H:Hp}{t:Tag}:cB z H t []:=by
 cases t with
 |sh o=>intro a m;cases m
 |own=>exact⟨aci,λa m=>nomatch m⟩
 |lk=>exact⟨aci,λa m=>nomatch m⟩
abbrev EF:=aE->Option (D×Tag)
def FP(X:Cx)(e:Expr)(f:EF):Prop:=∃t,PE X e t/\∀{H0:Hp}{S:List Addr}{z:Addr->Option Nat}{aq:List ck}{ρ:aE}{σ:St}{H:Hp}{Q:VK}{d:D}{tg:Tag},
 Ok X.K H0 S z aq ρ σ H->f ρ=some (d,tg)->(∀H' v fp,aG H H'->Rep X.K H' d v fp->cB z H tg fp->Q v H')->t σ H Q
abbrev AF:=aE->Option (List (D×Tag))
abbrev TF:=aE->Option Bool
def FT(X:Cx)(e:Expr)(f:TF):Prop:=∃t,PT X e t/\∀{H0:Hp}{S:List Addr}{z:Addr->Option Nat}{aq:List ck}{ρ:aE}{σ:St}{H:Hp}{Q:Bool->Hp->Prop}{b:Bool},
 Ok X.K H0 S z aq ρ σ H->f ρ=some b->(∀H',aG H H'->Q b H')->t σ H Q
noncomputable def Pg(i:Nat):Tag->Tag
 |.sh o=>.sh o
 |_=>.sh [i]
def ai(i:Nat):EF:=λρ=>match ρ[i]? with
 |some (some (d,t))=>some (d,Pg i t)
 |_=>none
section
variable{X:Cx}
theorem ah(i:Nat){x:Str}{pos:Pos}(va:VA X i x:=by walk_at "va"):FP X (.Name x pos) (ai i):=by
 exists 20,va.pe;unfold ai at e;exists h,ρ[i]?,s,e,0;cases s with
 |none=>rw[h] at e;cases e
 |some p=>
  obtain⟨d',t⟩:=p;rw[h] at e;have e':=ab8 e;have e1:=congrArg Prod.fst e';have e2:=congrArg Prod.snd e';subst e1 e2;obtain⟨v,fp,hs,r,zz⟩:=ok.sl i d' t h;refine⟨v,hs,q H v fp (aG.refl H) r ?_⟩;cases t with
  |sh o=>exact zz
  |own=>intro a m j ej;rw[zz.2 a m] at ej;cases ej;exact aah
  |lk=>intro a m j ej;rw[zz.2 a m] at ej;cases ej;exact aah
noncomputable def eC(d:D):EF:=λ_=>some (d,.own)
theorem aF{i j pos}:FP X (.Constant (.int i) j pos) (eC (.int i)):=⟨_,AZ,@λ_ _ _ _ _ _ H _ _ _ _ e q=>by cases e;exact q H _ _ (aG.refl H) (.int i) .nil⟩
theorem iY{b j pos}:FP X (.Constant (.bool b) j pos) (eC (.bl b)):=⟨_,Q2,@λ_ _ _ _ _ _ H _ _ _ _ e q=>by cases e;exact q H _ _ (aG.refl H) (.bl b) .nil⟩
theorem iP{j pos}:FP X (.Constant .none j pos) (eC .aH):=⟨_,P1,@λ_ _ _ _ _ _ H _ _ _ _ e q=>by cases e;exact q H _ _ (aG.refl H) .aH .nil⟩
noncomputable def e2(op:D->D->Option D)(fa fb:EF):EF:=λρ=>match fa ρ,fb ρ with
 |some (d1,_),some (d2,_)=>(op d1 d2).map λd=>(d,.own)
 |_,_=>none
theorem xC{op:D->D->Option D}{fa fb:EF}{ρ:aE}{d:D}{tg:Tag}(e:e2 op fa fb ρ=some (d,tg)):∃d1 t1 d2 t2,fa ρ=some (d1,t1)/\fb ρ=some (d2,t2)/\op d1 d2=some d/\tg=.own:=by
 unfold e2 at e;exists h1,fa ρ,p,e,0;obtain⟨d1,t1⟩:=p;cases h2:fb ρ with
 |none=>rw[h1,h2] at e;cases e
 |some p=>
  obtain⟨d2,t2⟩:=p;rw[h1,h2] at e;dsimp only at e;exists h3,op d1 d2,d3,e;cases e;exact⟨d1,t1,d2,t2,rfl,rfl,h3,rfl⟩
def fJ(K:PySem.W.Frag)(r:R2)(op:D->D->Option D):Prop:=∀(H:Hp) (x y:V) (d1 d2:D) (f1 f2:List Addr) (d:D) (Q:VK),Rep K H d1 x f1->Rep K H d2 y f2->op d1 d2=some d->
 (∀H' v,aG H H'->Rep K H' d v []->Q v H')->r x y H Q
theorem fp_2{a b e:Expr}{r:R2}{op:D->D->Option D}(dd:fJ X.K r op)(ha:FP X a fa)(hb:FP X b fb)(he:∀ta tb,PE X a ta->PE X b tb->PE X e (sW r ta tb)):FP X e (e2 op fa fb):=by
 obtain⟨ta,pa,sa⟩:=ha;obtain⟨tb,pb,sb⟩:=hb;exists 20,he ta tb pa pb;obtain⟨d1,t1,d2,t2,e1,jQ,e3,rfl⟩:=xC e;refine sa ok e1 λH1 x f1 s1 r1 _=>?_
 refine sb (ok.same s1) jQ λH2 y f2 s2 r2 _=>?_
 exact dd H2 x y d1 d2 f1 f2 d Q (r1.same s2) r2 e3 λH3 v s3 r3=>q H3 v [] ((s1.trans s2).trans s3) r3 .nil
end
end L2.Ev
namespace L2.Ev
open PySem PySem.Spec PyProof.Rows
noncomputable def NL:Tag->Tag->Tag
 |.sh o,.sh p=>.sh (o++p)
 |.sh o,_=>.sh o
 |_,t=>t
def iw:List (D×Tag)->Tag
 |[]=>.own
 |p::r=>NL p.2 (iw r)
def FA(X:Cx)(es:List Expr)(f:AF):Prop:=∃t,PA X es t/\(∀ρ ps,f ρ=some ps->ps.length=es.length)/\∀{H0:Hp}{S:List Addr}{z:Addr->Option Nat}{aq:List ck}{ρ:aE}{σ:St}{H:Hp}{Q:List V->Hp->Prop}{ps:List (D×Tag)},
 Ok X.K H0 S z aq ρ σ H->f ρ=some ps->(∀H' vs fp,aG H H'->ay X.K H' (ps.map (·.1)) vs fp->cB z H (iw ps) fp->Q vs H')->t σ H Q
noncomputable def aX:AF:=λ_=>some []
noncomputable def aA(f:EF)(g:AF):AF:=λρ=>match f ρ,g ρ with
 |some p,some ps=>some (p::ps)
 |_,_=>none
theorem F_{ps:List (D×Tag)}(e:aA f g ρ=some ps):∃d t r,f ρ=some (d,t)/\g ρ=some r/\ps=(d,t)::r:=by
 unfold aA at e;exists h1,f ρ,p,e,0;cases h2:g ρ with
 |none=>rw[h1,h2] at e;cases e
 |some r=>
  rw[h1,h2] at e;cases e;exact⟨p.1,p.2,r,rfl,rfl,rfl⟩
theorem cB.join{K:PySem.W.Frag}(ok:Ok K H0 S z aq ρ σ H)(s:aG H H1)
  (h1:cB z H t1 f1) (d1:∀a∈f1,∃o,H1 a=some o/\iN o=true) (h2:cB z H1 t2 f2):cB z H (NL t1 t2) (f1++f2):=by
 have nz:∀{a:Addr}{j:Nat},H a=none->z a=some j->False:=λ{a j} e q=>by
  obtain⟨⟨o,w⟩,_⟩:=ok.zd a j q;rw[e] at w;cases w
 have both:∀{t1 t2:Tag},(f1.Nodup/\∀a∈f1,H a=none)->(f2.Nodup/\∀a∈f2,H1 a=none)->(f1++f2).Nodup/\∀a∈f1++f2,H a=none:=λp q=>by
  refine⟨acv.mpr ⟨p.1,q.1,λa m b m' e=>?_⟩,λa m=>?_⟩
  .subst e;obtain⟨o,w,_⟩:=d1 a m;rw[q.2 a m'] at w;cases w
  .rcases ab3.mp m with m|m
   .exact p.2 a m
   .exact s.free (q.2 a m)
 cases t1 with
 |sh o=>
  have fG:=h1;cases t2 with
  |sh p=>
   intro a m j q;rcases ab3.mp m with m|m
   .exact acf _ (fG a m j q)
   .exact aaQ _ (h2 a m j q)
  |own=>
   intro a m j q;rcases ab3.mp m with m|m
   .exact fG a m j q
   .exact(nz (s.free (h2.2 a m)) q).elim
  |lk=>
   intro a m j q;rcases ab3.mp m with m|m
   .exact fG a m j q
   .exact(nz (s.free (h2.2 a m)) q).elim
 |own=>
  cases t2 with
  |sh p=>
   intro a m j q;rcases ab3.mp m with m|m
   .exact(nz (h1.2 a m) q).elim
   .exact h2 a m j q
  |own=>exact both (t1:=.own) (t2:=.own) h1 h2
  |lk=>exact both (t1:=.own) (t2:=.own) h1 h2
 |lk=>
  cases t2 with
  |sh p=>
   intro a m j q;rcases ab3.mp m with m|m
   .exact(nz (h1.2 a m) q).elim
   .exact h2 a m j q
  |own=>exact both (t1:=.own) (t2:=.own) h1 h2
  |lk=>exact both (t1:=.own) (t2:=.own) h1 h2
section
variable{X:Cx}{pos:Pos}
theorem aJ:FA X [] aX:=⟨_,dU,λ_ _ e=>by cases e;rfl,@λ_ _ _ _ _ _ H _ _ _ e q=>by cases e;exact q H _ _ (aG.refl H) .nil .nil⟩
theorem au{e:Expr}{es:List Expr}{f:EF}{g:AF}(ha:FP X e f)(hr:FA X es g)(hs:starEach (e::es) X.env=(false,eval e X.env)::starEach es X.env:=by rfl):FA X (e::es) (aA f g):=by
 obtain⟨t,p,q⟩:=ha;obtain⟨t',p',l',q'⟩:=hr;refine⟨_,cH p p' hs,λρ ps e=>by obtain⟨d,tg,r,e1,e2,rfl⟩:=F_ e;rw[acj,acj,l' ρ r e2],@λH0 S z aq ρ σ H Q ps ok e k=>?_⟩;obtain⟨d,tg,r,e1,e2,rfl⟩:=F_ e;refine q ok e1 λH1 v f1 s1 r1 g1=>?_
 refine q' (ok.same s1) e2 λH2 vs f2 s2 r2 g2=>?_
 exact k H2 (v::vs) (f1++f2) (s1.trans s2) (.cons (r1.same s2) r2) (cB.join ok s1 g1 r1.dw g2)
def p6(g:AF):EF:=λρ=>(g ρ).map λps=>(.tup (ps.map (·.1)),iw ps)
theorem vQ{es:List Expr}{g:AF}{x1}(h:FA X es g)(hl:es.length<=1000:=by decide):FP X (.Tuple es x1 pos) (p6 g):=by
 obtain⟨t,p,hg,q⟩:=h;exists 21,Oo p;unfold p6 at e;exists h1,g ρ,ps,e;cases e;refine q ok h1 λH1 vs fp s1 r1 g1=>⟨?_,λa ha=>?_⟩
 .rw[<- r1.length,List.length_map,hg ρ ps h1];exact ade (vJ hl)
 .have s2:aG H1 (upd H1 a (.tup vs)):=λb o e=>by rw[aN (cD e ha)];exact e
  exact k _ _ fp (s1.trans s2) (.tup (b8.of bL) (r1.same s2)) g1
def qN(g:AF):EF:=λρ=>(g ρ).map λps=>(.lst (ps.map (·.1)),iw ps)
theorem cB.cons{K:PySem.W.Frag}{H0:Hp}{S:List Addr}{z:Addr->Option Nat}{aq:List ck}{ρ:aE}{σ:St}{H H1:Hp}{t:Tag}{fp:List Addr}{a:Addr}(ok:Ok K H0 S z aq ρ σ H)(s:aG H H1)(h:cB z H t fp)
  (d:∀b∈fp,∃o,H1 b=some o/\iN o=true) (ha:H1 a=none):cB z H t (a::fp):=by
 have na:=s.free ha;have both:(fp.Nodup/\∀b∈fp,H b=none)->(a::fp).Nodup/\∀b∈a::fp,H b=none:=λp=>by
  refine⟨acd.mpr ⟨λm=>?_,p.1⟩,λb m=>?_⟩
  .obtain⟨o,w,_⟩:=d a m;rw[ha] at w;cases w
  .rcases aaG.mp m with e|m
   .rw[e];exact na
   .exact p.2 b m
 cases t with
 |sh o=>
  intro b m j q;rcases aaG.mp m with e|m
  .obtain⟨⟨o,w⟩,_⟩:=ok.zd b j q;rw[e,na] at w;cases w
  .exact h b m j q
 |own=>exact both h
 |lk=>exact both h
theorem jV{es:List Expr}{g:AF}(h:FA X es g)(hl:es.length<=1000:=by decide):FP X (.List es pos) (qN g):=by
 obtain⟨t,p,hg,q⟩:=h;exists 21,JG p;unfold qN at e;exists h1,g ρ,ps,e;cases e;refine q ok h1 λH1 vs fp s1 r1 g1=>⟨?_,λa ha=>?_⟩
 .rw[<- r1.length,List.length_map,hg ρ ps h1];exact ade (vJ hl)
 .have s2:aG H1 (upd H1 a (.lst vs)):=λb o e=>by rw[aN (cD e ha)];exact e
  exact k _ _ (a::fp) (s1.trans s2) (.lst bL (r1.same s2)) (g1.cons ok s1 r1.dw ha)
end
def bq(K:PySem.W.Frag)(F:List D->Option D):Sp:=λvs H Q _=>∃ds fp d,ay K H ds vs fp/\F ds=some d/\∀H' v eX,aG H H'->Rep K H' d v eX->eX.Nodup->(∀a∈eX,H a=none)->Q v H'
noncomputable def bP(F:List D->Option D)(g:AF):EF:=λρ=>(g ρ).bind λps=>(F (ps.map (·.1))).map λd=>(d,.own)
theorem Ze{F:List D->Option D}(e:bP F g ρ=some (d,tg)):∃ps,g ρ=some ps/\F (ps.map (·.1))=some d/\tg=.own:=by
 unfold bP at e;exists h1,g ρ,ps,e,0;rw[h1,acq] at e;exists h2,F (ps.map (·.1)),d',e;cases e;exact⟨ps,rfl,h2,rfl⟩
section
variable{X:Cx}{x:Str}{p pos:Pos}{e:Expr}{es:List Expr}{k:Nat}{f:Addr}{fd:FuncData}{ps:List Str}{F:List D->Option D}{g:AF}
theorem bf{cm:Bool}(G:bT X.prog X.w X.K X.mg X.base cJ k f fd ps (bq X.K F) cm)(hr:bh k X.A cm)(hm:X.mg x=some (.ref f))(hk:PySem.W.keepIn X.K (.ref f)=true)(hb:Binds X.K fd ps [])(ha:FA X (e::es) g)
  (hg:GD X x:=by exact⟨rfl,by decide⟩)
  (he:SE X e es pos:=by exact⟨rfl,rfl⟩):FP X (.Call (.Name x p) (e::es) [] pos) (bP F g):=by
 obtain⟨t,pa,_,sa⟩:=ha;refine⟨_,xh G hr hg.1 hm hk hb .nil nY pa hg.2 he.1 he.2,@λH0 S z aq ρ σ H Q d tg ok e0 q=>?_⟩;obtain⟨qs,e1,e2,rfl⟩:=Ze e0;refine sa ok e1 λH1 vs fp s1 r1 _=>?_
 rw[acB];exact⟨_,fp,d,r1,e2,λH2 v eX s2 r2 nd fr=>q H2 v eX (s1.trans s2) r2 ⟨nd,λa m=>s1.free (fr a m)⟩⟩
end
section
variable{X:Cx}{pos:Pos}
noncomputable def tV(f:EF):TF:=λρ=>match f ρ with
 |some (.bl b,_)=>some b
 |_=>none
theorem JN(e:tV f ρ=some b):∃t,f ρ=some (.bl b,t):=by
 unfold tV at e;exists h,f ρ,p,e,0;obtain⟨d,t⟩:=p;rw[h] at e;cases d<;>first|(cases e;exact⟨t,rfl⟩)|cases e
theorem dQ{e:Expr}{f:EF}(h:FP X e f)(he:∀whole,isTrue e X.env whole=(do let v <- whole;standAt e.pos;holding [v] (truthy v)):=by intro _;rfl):FT X e (tV f):=by
 obtain⟨t,p,q⟩:=h;refine⟨_,XA p he,@λH0 S z aq ρ σ H Q b ok e k=>?_⟩;obtain⟨tg,e1⟩:=JN e;refine q ok e1 λH1 v fp s1 r1 _=>?_
 cases r1;exact⟨b,rfl,k H1 s1⟩
theorem ow{op:CmpOp}{r:R2}{o:D->D->Option D}{a b:Expr}(ho:cG X (compareOp op) r)(dd:fJ X.K r o)(ha:FP X a fa)(hb:FP X b fb)(hm:behindInMarks op b=false):FT X (.Compare a [op] [b] pos) (tV (e2 o fa fb)):=by
 obtain⟨ta,pa,sa⟩:=ha;obtain⟨tb,pb,sb⟩:=hb;exists 22,V8 ho pa pb hm;obtain⟨tg,e0⟩:=JN e;obtain⟨d1,t1,d2,t2,e1,jQ,e3,rfl⟩:=xC e0;refine sa ok e1 λH1 x f1 s1 r1 _=>?_
 refine sb (ok.same s1) jQ λH2 y f2 s2 r2 _=>?_
 refine dd H2 x y d1 d2 f1 f2 _ _ (r1.same s2) r2 e3 λH3 v s3 r3=>?_
 cases r3;exact⟨c,rfl,k H3 ((s1.trans s2).trans s3)⟩
theorem pB{op:CmpOp}{r:R2}{o:D->D->Option D}(ho:cG X (compareOp op) r)(dd:fJ X.K r o)(ha:FP X a fa)(hb:FP X b fb)(hm:behindInMarks op b=false):FP X (.Compare a [op] [b] pos) (e2 o fa fb):=
 fp_2 dd ha hb λ_ _ pa pb=>UM ho pa pb hm
theorem qq{op:Operator}{r:R2}{o:D->D->Option D}(ho:cG X (binaryOp op) r)(dd:fJ X.K r o)(ha:FP X a fa)(hb:FP X b fb):FP X (.BinOp a op b pos) (e2 o fa fb):=
 fp_2 dd ha hb λ_ _ pa pb=>xw ho pa pb
noncomputable def pY(f g:TF):TF:=λρ=>match f ρ with
 |some true=>g ρ
 |some false=>some false
 |none=>none
noncomputable def jr(f g:TF):TF:=λρ=>match f ρ with
 |some true=>some true
 |some false=>g ρ
 |none=>none
noncomputable def gU(f:TF):TF:=λρ=>(f ρ).map λb=>!b
def FW(X:Cx)(e:Expr)(f:TF):Prop:=∃t,PW X e t/\∀{H0:Hp}{S:List Addr}{z:Addr->Option Nat}{aq:List ck}{ρ:aE}{σ:St}{H:Hp}{Q:Bool->Hp->Prop}{b:Bool},
 Ok X.K H0 S z aq ρ σ H->f ρ=some b->(∀H',aG H H'->Q b H')->t σ H Q
theorem FW.ft{e:Expr}{f:TF}(h:FW X e f):FT X e f:=let⟨t,p,q⟩:=h;⟨t,p.pt,q⟩
theorem yd{a:Expr}{f:TF}(h:FT X a f):FW X (.BoolOp .And [a] pos) f:=let⟨t,p,q⟩:=h;⟨t,VH p,q⟩
theorem mY{a:Expr}{f:TF}(h:FT X a f):FW X (.BoolOp .Or [a] pos) f:=let⟨t,p,q⟩:=h;⟨t,Uq p,q⟩
theorem xZ{a b:Expr}{rest:List Expr}{f g:TF}(ha:FT X a f)(hb:FW X (.BoolOp .And (b::rest) pos) g):FW X (.BoolOp .And (a::b::rest) pos) (pY f g):=by
 obtain⟨t,p,q⟩:=ha;obtain⟨t',p',q'⟩:=hb;exists 22,Ph p p';unfold pY at e;exists h,f ρ,y,e;cases y with
 |false=>
  cases e;refine q ok h λH1 s1=>?_
  rw[aa7 abI];exact k H1 s1
 |true=>
  refine q ok h λH1 s1=>?_
  rw[if_pos rfl];exact q' (ok.same s1) e λH2 s2=>k H2 (s1.trans s2)
theorem lC{a b:Expr}{rest:List Expr}{f g:TF}(ha:FT X a f)(hb:FW X (.BoolOp .Or (b::rest) pos) g):FW X (.BoolOp .Or (a::b::rest) pos) (jr f g):=by
 obtain⟨t,p,q⟩:=ha;obtain⟨t',p',q'⟩:=hb;exists 22,abq p p';unfold jr at e;exists h,f ρ,y,e;cases y with
 |true=>
  cases e;refine q ok h λH1 s1=>?_
  rw[if_pos rfl];exact k H1 s1
 |false=>
  refine q ok h λH1 s1=>?_
  rw[aa7 abI];exact q' (ok.same s1) e λH2 s2=>k H2 (s1.trans s2)
theorem gA{a:Expr}{f:TF}(ha:FT X a f):FT X (.UnaryOp .Not a pos) (gU f):=by
 obtain⟨t,p,q⟩:=ha;exists 22,Qs p;unfold gU at e;exists h,f ρ,y,e;cases e;exact q ok h λH1 s1=>k H1 s1
end
inductive Out where
 |nx (ρ:aE)|rt (d:D)|bk (ρ:aE)|ct (ρ:aE)
 |er (raw:Bool) (cn:XN) (ρ:aE)
abbrev SF:=aE->Option Out
noncomputable def kT(X:Cx)(x:Str):Bool:=x==("self":Str)||(X.fn ("self":Str)&&!X.fn x)
def Kp(X:Cx)(σ aB:St):Prop:=∀(i:Nat) (x:Str),X.N[i]? = some x->kT X x=true->aB[i]? = σ[i]?
theorem Kp.refl(X:Cx)(σ:St):Kp X σ σ:=λ_ _ _ _=>rfl
theorem Kp.trans{X:Cx}{σ kG eY:St}(a:Kp X σ kG)(b:Kp X kG eY):Kp X σ eY:=λi x h k=>(b i x h k).trans (a i x h k)
theorem Kp.set{v:Option V}(hi:X.N[i]? = some x)(hs:kT X x=false):Kp X σ (σ.set i v):=λj y h k=>by
 refine ads λe=>?_
 subst e;rw[hi] at h;have h:=ab8 h;subst h;rw[hs] at k;cases k
def qS(X:Cx)(H0:Hp)(S:List Addr)(aq:List ck)(lR:St)(raw:Bool)(cn:XN)(ρ:aE):Prop:=∃ES:XS,(if raw=true then Oz X ES else vm X ES)/\
 ∀z σ H C,Ok X.K H0 S z aq ρ σ H->Kp X lR σ->PySem.W.nsIn X.K mainGlobals cn.1=some (some (.ref C))->ES (.ref C) cn.2 σ H
theorem qS.of{X:Cx}{H0:Hp}{S:List Addr}{aq:List ck}{σ aB:St}{raw:Bool}{cn:XN}{ρ:aE}(k:qS X H0 S aq σ raw cn ρ)(a:Kp X σ aB):qS X H0 S aq aB raw cn ρ:=
 let⟨ES,th,q⟩:=k;⟨ES,th,λz s H C ok b hC=>q z s H C ok (a.trans b) hC⟩
def l_(X:Cx)(H0:Hp)(S:List Addr)(aq:List ck)(lR:St)(E:Ends):Out->Prop
 |.nx ρ=>∀z σ H,Ok X.K H0 S z aq ρ σ H->Kp X lR σ->E.nx σ H
 |.bk ρ=>∀z σ H,Ok X.K H0 S z aq ρ σ H->Kp X lR σ->E.bk σ H
 |.ct ρ=>∀z σ H,Ok X.K H0 S z aq ρ σ H->Kp X lR σ->E.ct σ H
 |.er raw cn ρ=>qS X H0 S aq lR raw cn ρ
 |.rt d=>∀H v fp,(∀a o,H0 a=some o->a∉S->H a=some o)->Rep X.K H d v fp->fp.Nodup->(∀a∈fp,H0 a=none\/a∈S)->E.rt v H
def FS(X:Cx)(st:List Stmt)(f:SF):Prop:=∃t,fu X st t/\∀{H0:Hp}{S:List Addr}{z:Addr->Option Nat}{aq:List ck}{ρ:aE}{σ:St}{H:Hp}{E:Ends}{o:Out},
 Ok X.K H0 S z aq ρ σ H->f ρ=some o->l_ X H0 S aq σ E o->t E σ H
def dO(X:Cx)(st:Stmt)(f:SF):Prop:=∃t,PS X st t/\∀{H0:Hp}{S:List Addr}{z:Addr->Option Nat}{aq:List ck}{ρ:aE}{σ:St}{H:Hp}{E:Ends}{o:Out},
 Ok X.K H0 S z aq ρ σ H->f ρ=some o->l_ X H0 S aq σ E o->t E σ H
theorem l_.of{X:Cx}{H0:Hp}{S:List Addr}{aq:List ck}{σ aB:St}{E:Ends}{o:Out}(k:l_ X H0 S aq σ E o)(a:Kp X σ aB):l_ X H0 S aq aB E o:=by
 cases o with
 |nx ρ=>exact λz s H ok b=>k z s H ok (a.trans b)
 |bk ρ=>exact λz s H ok b=>k z s H ok (a.trans b)
 |ct ρ=>exact λz s H ok b=>k z s H ok (a.trans b)
 |rt d=>exact k
 |er raw cn ρ=>exact qS.of k a
noncomputable def cP:SF:=λρ=>some (.nx ρ)
noncomputable def bO(f g:SF):SF:=λρ=>match f ρ with
 |some (.nx ρ')=>g ρ'
 |o=>o
section
variable{X:Cx}{pos:Pos}
theorem cT:FS X [] cP:=⟨_,BV,@λ_ _ z _ _ σ H _ _ ok e k=>by cases e;exact k z σ H ok (.refl _ _)⟩
theorem aO{st:Stmt}{f:SF}(h:dO X st f):FS X [st] f:=let⟨t,p,q⟩:=h;⟨t,zM p,q⟩
theorem aM{st:Stmt}{rest:List Stmt}{f g:SF}(h1:dO X st f)(h2:FS X rest g):FS X (st::rest) (bO f g):=by
 obtain⟨t,p,q⟩:=h1;obtain⟨t',p',q'⟩:=h2;exists 23,C8 p p';unfold bO at e;exists h,f ρ,w,e,0;refine q ok h ?_;rw[h] at e;cases w with
 |nx ρ'=>exact λz' aB H' a_ a=>q' a_ e (k.of a)
 |rt d=>cases e;exact k
 |bk ρ'=>cases e;exact k
 |ct ρ'=>cases e;exact k
 |er _ _ _=>cases e;exact k
noncomputable def EV:SF:=λ_=>none
theorem Lz{st:Stmt}:dO X st EV:=⟨_,Jp,@λ_ _ _ _ _ _ _ _ _ _ e _=>by cases e⟩
noncomputable def cQ(c:TF)(f g:SF):SF:=λρ=>match c ρ with
 |some true=>f ρ
 |some false=>g ρ
 |none=>none
theorem cU{c:Expr}{a b:List Stmt}{tc:TF}{f g:SF}(hc:FT X c tc)(ha:FS X a f)(hb:FS X b g):dO X (.If c a b pos) (cQ tc f g):=by
 obtain⟨t,p,q⟩:=hc;obtain⟨t1,p1,q1⟩:=ha;obtain⟨t2,p2,q2⟩:=hb;exists 23,Ec p p1 p2;unfold cQ at e;exists h,tc ρ,y,e;refine q ok h λH1 s1=>?_
 cases y with
 |true=>rw[if_pos rfl];exact q1 (ok.same s1) e k
 |false=>rw[aa7 abI];exact q2 (ok.same s1) e k
noncomputable def lG:Tag->Bool
 |.sh _=>false
 |_=>true
def fQ(f:EF):SF:=λρ=>match f ρ with
 |some (d,t)=>if lG t=true then some (.rt d) else if aI d=true then some (.rt d) else none
 |none=>none
theorem bW{e:Expr}{f:EF}(he:FP X e f):dO X (.Return (some e) pos) (fQ f):=by
 obtain⟨t,p,q⟩:=he;exists 23,n6 p;unfold fQ at e;exists h,f ρ,w,e,0;obtain⟨d,tg⟩:=w;rw[h] at e;dsimp only at e;refine q ok h λH1 v fp s1 r1 g1=>?_
 have en:∀a o,H0 a=some o->a∉S->H1 a=some o:=λa o e n=>s1 _ _ (ok.en a o e n)
 by_cases ho:lG tg=true
 .rw[if_pos ho] at e;cases e;have g:fp.Nodup/\∀a∈fp,H a=none:=by cases tg<;>first|exact g1|cases ho
  refine k H1 v fp en r1 g.1 λa m=>?_
  cases h0:H0 a with
  |none=>exact .inl rfl
  |some o=>
   by_cases hs:a∈S
   .exact .inr hs
   .have w:=ok.en a o h0 hs;rw[g.2 a m] at w;cases w
 .rw[aa7 ho] at e;obtain⟨hi,e⟩:=ci e;cases e;have hn:=r1.aI hi;subst hn;exact k H1 v [] en r1 aci λa m=>nomatch m
def nS(i:Nat):SF:=λρ=>match ρ[i]? with
 |some (some (d,t))=>if lG t=true then some (.rt d) else if aI d=true then some (.rt d) else none
 |_=>none
theorem nO(i:Nat){x:Str}{pos':Pos}(va:VA X i x:=by walk_at "va"):dO X (.Return (some (.Name x pos')) pos) (nS i):=by
 exists 23,n6 va.pe;unfold nS at e;exists h,ρ[i]?,w,e,0;cases w with
 |none=>rw[h] at e;cases e
 |some w=>
  obtain⟨d,tg⟩:=w;rw[h] at e;dsimp only at e;obtain⟨v,fp,hs,r,zz⟩:=ok.sl i d tg h;refine⟨v,hs,?_⟩
  by_cases ho:lG tg=true
  .rw[if_pos ho] at e;cases e;have g:fp.Nodup/\∀a∈fp,z a=some i:=by cases tg<;>first|exact zz|cases ho
   exact k H v fp ok.en r g.1 λa m=>(ok.zd a i (g.2 a m)).2
  .rw[aa7 ho] at e;obtain⟨hi,e⟩:=ci e;cases e;have hn:=r.aI hi;subst hn;exact k H v [] ok.en r aci λa m=>nomatch m
noncomputable def jI(ρ:aE)(i:Nat)(d:D):Tag->aE
 |.sh o=>ρ.set i (some (d,.sh o))
 |_=>ρ.set i (some (d,.own))
def gD(i:Nat)(f:EF):SF:=λρ=>match f ρ with
 |some (d,t)=>some (.nx (jI ρ i d t))
 |none=>none
theorem Ok.chg{K:PySem.W.Frag}{v:V}{fp aT fo:List Addr}(ok:Ok K H0 S z aq ρ σ H)(hi:ρ'[i]? = some (some (d,tg)))(hs:aB[i]? = some (some v))(h0:∀a∈aT,z a=some i)(im:bH H H')
  (keep:∀b o,b∉aT->H b=some o->H' b=some o) (r:Rep K H' d v fp) (hz:qV z' i tg fp) (zn:∀a,a∉fo->z a=some i/\z' a=none\/z' a=z a/\a∉aT/\(z a=some i->¬rW ρ i)) (FQ:∀a∈fo,(a∈aT\/H a=none)/\∃o,H' a=some o)
  (ot:∀{j d t},j≠i->ρ'[j]? = some (some (d,t))->ρ[j]? = some (some (d,t))/\(aT=[]\/∀o,t=.sh o->i∉o)) (os:∀j,j≠i->aB[j]? = σ[j]?) (hh:aT=[]\/¬rW ρ i) (ln:ρ'.length=aB.length):Ok K H0 S z' aq ρ' aB H':=by
 have old:∀{a:Addr}{o:HO},a∉aT->H a=some o->a∉fo:=λn e m=>(FQ _ m).1.elim n λq=>by rw[e] at q;cases q
 have at_:∀{a:Addr}{k:Nat},a∉fo->z' a=some k->z a=some k/\a∉aT/\(k=i->¬rW ρ i):=λ{a k} n e=>by
  rcases zn a n with⟨_,w⟩|⟨w,q,u⟩
  .rw[e] at w;cases w
  .rw[e] at w;exact⟨w.symm,q,λx=>u (x ▸ w.symm)⟩
 have S0:∀a∈aT,H0 a=none\/a∈S:=λa m=>(ok.zd a i (h0 a m)).2
 refine⟨λj d' t e=>?_,λp hp=>?_,λa j e=>?_,λa o e n=>keep a o (λm=>?_) (ok.en a o e n),ln⟩
 .by_cases hj:j=i
  .subst hj;rw[hi] at e;cases e;exact⟨v,fp,hs,r,hz⟩
  .obtain⟨e0,nd⟩:=ot hj e;obtain⟨v',eX,bu,r',zz⟩:=ok.sl j d' t e0;have n0:∀a∈eX,a∉aT:=λa m q=>by
    have zi:=h0 a q;rcases nd with rfl|nd
    .cases q
    cases t with
    |sh o=>exact nd o rfl (zz a m i zi)
    |own=>rw[zz.2 a m] at zi;exact hj (ab8 zi)
    |lk=>rw[zz.2 a m] at zi;exact hj (ab8 zi)
   have n1:∀a∈eX,a∉fo:=λa m=>let⟨o,w,_⟩:=r'.dw a m;old (n0 a m) w
   have o1:∀a∈eX,z a=some j->z' a=some j:=λa m e=>by
    rcases zn a (n1 a m) with⟨w,_⟩|⟨w,_⟩
    .rw[e] at w;exact(hj (ab8 w)).elim
    .rw[w,e]
   refine⟨v',eX,(os j hj).trans bu,r'.frame (λa m=>?_) im,?_⟩
   .obtain⟨o,w,_⟩:=r'.dw a m;rw[keep a o (n0 a m) w,w]
   .cases t with
    |sh o=>exact λa m k q=>zz a m k (at_ (n1 a m) q).1
    |own=>exact⟨zz.1,λa m=>o1 a m (zz.2 a m)⟩
    |lk=>exact⟨zz.1,λa m=>o1 a m (zz.2 a m)⟩
 .obtain⟨r',K8⟩:=ok.hl p hp;have n0:∀a∈p.fp,a∉aT:=λa m q=>by
   rcases hh with rfl|hh
   .cases q
   .exact hh (K8 a m i (h0 a q)).2
  refine⟨r'.frame (λa m=>?_) im,λa m j q=>?_⟩
  .obtain⟨o,w,_⟩:=r'.dw a m;rw[keep a o (n0 a m) w,w]
  .obtain⟨o,w,_⟩:=r'.dw a m;obtain⟨q,_,hj⟩:=at_ (old (n0 a m) w) q;obtain⟨x,y⟩:=K8 a m j q;exact⟨x,λd e=>y d (ot (λx=>hj x (x ▸ y)) e).1⟩
 .by_cases w:a∈fo
  .refine⟨(FQ a w).2,(FQ a w).1.elim (S0 a) λq=>?_⟩;cases h0:H0 a with
   |none=>exact .inl rfl
   |some o=>
    by_cases hs:a∈S
    .exact .inr hs
    .rw[ok.en a o h0 hs] at q;cases q
  .obtain⟨e,n,_⟩:=at_ w e;obtain⟨⟨o,x⟩,y⟩:=ok.zd a j e;exact⟨⟨o,keep a o n x⟩,y⟩
 .rcases S0 a m with q|q
  .rw[e] at q;cases q
  .exact n q
open Classical in
noncomputable def zN(fo:List Addr)(i:Nat)(z:Addr->Option Nat):Addr->Option Nat:=λa=>if a∈fo then some i else if z a=some i then none else z a
theorem EG{fo aT:List Addr}(h:∀a∈aT,z a=some i)(a:Addr)(n:a∉fo):z a=some i/\zN fo i z a=none\/zN fo i z a=z a/\a∉aT/\(z a=some i->P):=by
 unfold zN
 by_cases w:z a=some i
 .exact .inl ⟨w,by rw[aa7 n,if_pos w]⟩
 .exact .inr ⟨by rw[aa7 n,aa7 w],λm=>w (h a m),λq=>(w q).elim⟩
theorem Ok.set{K:PySem.W.Frag}{H0:Hp}{S:List Addr}{z:Addr->Option Nat}{aq:List ck}{ρ:aE}{σ:St}{H H1:Hp}{i:Nat}{d:D}{t:Tag}{v:V}{fp:List Addr}(ok:Ok K H0 S z aq ρ σ H)(hi:i<σ.length)(s:aG H H1)
  (r:Rep K H1 d v fp) (g:cB z H t fp):∃z',Ok K H0 S z' aq (jI ρ i d t) (σ.set i (some v)) H1:=by
 have n0:∀a∈([]:List Addr),z a=some i:=λa m=>nomatch m
 have main:∀(fo:List Addr) (tg:Tag),(∀a∈fo,H a=none/\a∈fp)->qV (zN fo i z) i tg fp->∃z',Ok K H0 S z' aq (ρ.set i (some (d,tg))) (σ.set i (some v)) H1:=λfo tg h hz=>
  ⟨_,ok.chg (adz (by rw[ok.ln];exact hi)) (adz hi) n0 (.of s) (λb o _ e=>s b o e) r hz (EG n0) (λa m=>⟨.inr (h a m).1,let⟨o,w,_⟩:=r.dw a (h a m).2;⟨o,w⟩⟩)
   (λhj e=>⟨(ads (adx hj)).symm.trans e,.inl rfl⟩) (λj hj=>ads (adx hj)) (.inl rfl) (by rw[ad4,ad4];exact ok.ln)⟩
 cases t with
 |own=>exact main fp .own (λa m=>⟨g.2 a m,m⟩) ⟨g.1,λa m=>if_pos m⟩
 |lk=>exact main fp .own (λa m=>⟨g.2 a m,m⟩) ⟨g.1,λa m=>if_pos m⟩
 |sh o=>
  refine main [] (.sh o) (λa m=>nomatch m) λa m j q=>?_
  rcases EG (fo:=[]) (P:=True) n0 a (λw=>nomatch w) with⟨_,w⟩|⟨w,_⟩
  .rw[q] at w;cases w
  .exact g a m j (w ▸ q)
theorem Ok.stored{K:PySem.W.Frag}{H0:Hp}{S:List Addr}{z:Addr->Option Nat}{aq:List ck}{ρ:aE}{σ:St}{H H1:Hp}{i:Nat}{d:D}{t:Tag}{v:V}{fp:List Addr}{G:Prop}(ok:Ok K H0 S z aq ρ σ H)(s:aG H H1)
  (r:Rep K H1 d v fp) (g:cB z H t fp) (k:∀z',Ok K H0 S z' aq (jI ρ i d t) (σ.set i (some v)) H1->G):G:=by
 by_cases hi:i<σ.length
 .obtain⟨z',a_⟩:=ok.set hi s r g;exact k z' a_
 .have e1:σ.set i (some v)=σ:=List.set_eq_of_length_le (Nat.le_of_not_lt hi);have e2:∀w,ρ.set i w=ρ:=λw=>List.set_eq_of_length_le (by rw[ok.ln];exact Nat.le_of_not_lt hi)
  have e3:jI ρ i d t=ρ:=by cases t<;>exact e2 _
  refine k z ?_;rw[e1,e3];exact ok.same s
theorem bN(i:Nat){x:Str}{e:Expr}{f:EF}{pos':Pos}(he:FP X e f)(hN:X.N.Nodup)(hi:X.N[i]? = some x:=by rfl)(hx:Loc X.env.scope x:=by first|exact Or.inl rfl|exact Or.inr rfl)
  (hs:swapsWith e (some (.Name x pos')) pos.line X.env=pure false:=by rfl) (hf:X.fn x=true\/X.env.scope.names.lookup x=some .local:=by first|exact .inl rfl|exact .inr rfl) (m_:kT X x=false:=by rfl):dO X (.Assign [.Name x pos'] e pos) (gD i f):=by
 obtain⟨t,p,q⟩:=he;exists 23,Iq hN hi hx p hs hf;unfold gD at e;exists h,f ρ,w,e,0;obtain⟨d,tg⟩:=w;rw[h] at e;cases e;refine q ok h λH1 v fp s1 r1 g1=>?_
 exact ok.stored s1 r1 g1 λz' a_=>k z' _ H1 a_ (.set hi m_)
end
abbrev GF:=D->Tag->aE->Option aE
def FG(X:Cx)(tg:Expr)(g:GF)(is:List Nat):Prop:=(∀i∈is,∀x,X.N[i]? = some x->kT X x=false)/\∃t,PG X tg t/\∀{H0:Hp}{S:List Addr}{z:Addr->Option Nat}{aq:List ck}{ρ:aE}{σ:St}{H H1:Hp}{v:V}{d:D}{tag:Tag}{fp:List Addr}{Q:St->Hp->Prop}{ρ':aE},
 Ok X.K H0 S z aq ρ σ H->aG H H1->Rep X.K H1 d v fp->cB z H tag fp->g d tag ρ=some ρ'->(∀z' aB,Ok X.K H0 S z' aq ρ' aB H1->(aB.length=σ.length/\∀j,j∉is->aB[j]? = σ[j]?)->Q aB H1)->t v σ H1 Q
def gN(i:Nat):GF:=λd t ρ=>some (jI ρ i d t)
abbrev n8:=List D->aE->Option aE
theorem Kp.off{is:List Nat}(hk:∀i∈is,∀x,X.N[i]? = some x->kT X x=false)(h:∀j,j∉is->aB[j]? = σ[j]?):Kp X σ aB:=λi x e k=>h i λm=>by rw[hk i m x e] at k;cases k
def xR(X:Cx)(ts:List Expr)(g:n8)(is:List Nat):Prop:=(∀i∈is,∀x,X.N[i]? = some x->kT X x=false)/\∃t,uX X ts t/\(∀ds ρ ρ',g ds ρ=some ρ'->ds.length=ts.length)/\∀{H0:Hp}{S:List Addr}{z:Addr->Option Nat}{aq:List ck}{ρ:aE}{σ:St}{H:Hp}{vs:List V}{ds:List D}{fp:List Addr}{Q:St->Hp->Prop}{ρ':aE},
 Ok X.K H0 S z aq ρ σ H->ay X.K H ds vs fp->g ds ρ=some ρ'->(∀z' aB,Ok X.K H0 S z' aq ρ' aB H->(aB.length=σ.length/\∀j,j∉is->aB[j]? = σ[j]?)->Q aB H)->t vs σ H Q
noncomputable def k7:n8:=λds ρ=>match ds with
 |[]=>some ρ
 |_=>none
def cW(g:GF)(gs:n8):n8:=λds ρ=>match ds with
 |d::r=>if aI d=true then(g d .own ρ).bind λρ'=>gs r ρ' else none
 |_=>none
theorem Il{gs:n8}(e:cW g gs ds ρ=some ρ'):∃d r aD,ds=d::r/\aI d=true/\g d .own ρ=some aD/\gs r aD=some ρ':=by
 cases ds with
 |nil=>cases e
 |cons d r=>
  unfold cW at e;dsimp only at e;obtain⟨hi,e⟩:=ci e;exists h,g d .own ρ,aD,e,0;rw[h,acq] at e;exact⟨d,r,aD,rfl,hi,h,e⟩
noncomputable def gT(gs:n8):GF:=λd _ ρ=>match d with
 |.tup ds=>gs ds ρ
 |_=>none
section
variable{X:Cx}{pos:Pos}
theorem bx(i:Nat){x:Str}(hN:X.N.Nodup)(hi:X.N[i]? = some x:=by rfl)(hx:Loc X.env.scope x:=by first|exact Or.inl rfl|exact Or.inr rfl)(hf:X.fn x=true\/X.env.scope.names.lookup x=some .local:=by first|exact .inl rfl|exact .inr rfl)(m_:kT X x=false:=by rfl):FG X (.Name x pos) (gN i) [i]:=by
 refine⟨λj m y e=>by rw[aat.mp m,hi] at e;have e:=ab8 e;subst e;exact m_,_,Qp hN hi hx hf,@λH0 S z aq ρ σ H H1 v d tag fp Q ρ' ok s r g e k=>?_⟩;cases e;exact ok.stored s r g λz' a_=>k z' _ a_ ⟨ad4 ..,λj hj=>ads λe=>hj (by rw[e];exact aah)⟩
theorem nL:xR X [] k7 []:=by
 refine⟨λj m=>(nomatch m),_,Sv,λds ρ ρ' e=>?_,@λH0 S z aq ρ σ H vs ds fp Q ρ' ok r e k=>?_⟩
 .cases ds with
  |nil=>rfl
  |cons _ _=>cases e
 .cases ds with
  |nil=>cases r;cases e;exact⟨rfl,k z σ ok ⟨rfl,λ_ _=>rfl⟩⟩
  |cons _ _=>cases e
theorem d9{e:Expr}{es:List Expr}{g:GF}{gs:n8}{is ks:List Nat}(h1:FG X e g is)(h2:xR X es gs ks)(hs:(assignEach (e::es) X.env).map (·.2)=assign e X.env::(assignEach es X.env).map (·.2):=by rfl):xR X (e::es) (cW g gs) (is++ks):=by
 obtain⟨n1,t,p,q⟩:=h1;obtain⟨n2,t',p',l',q'⟩:=h2;refine⟨λj m=>(ab3.mp m).elim (n1 j) (n2 j),_,VJ p p' hs,λds ρ ρ' e=>?_,@λH0 S z aq ρ σ H vs ds fp Q ρ' ok r e k=>?_⟩
 .obtain⟨d,r,aD,rfl,_,_,h⟩:=Il e;rw[acj,acj,l' r aD ρ' h]
 .obtain⟨d,dr,aD,rfl,hi,h1,h2⟩:=Il e;cases r with
  | @cons _ v _ vr f1 f2 r1 r2=>
   have hn:=r1.aI hi;subst hn;exact⟨v,vr,rfl,q ok (aG.refl H) r1 .nil h1 λz1 kG bD a1=>q' bD r2 h2 λz2 eY dH a2=>k z2 eY dH ⟨a2.1.trans a1.1,λj hj=>(a2.2 j λm=>hj (aaQ _ m)).trans (a1.2 j λm=>hj (acf _ m))⟩⟩
theorem oE{es:List Expr}{gs:n8}{is:List Nat}(hc:X.calm=true)(h:xR X es gs is)(hn:(assignEach es X.env).length=es.length:=by rfl)(fC:(assignEach es X.env).findIdx? (·.1)=none:=by rfl):FG X (.Tuple es k pos) (gT gs) is:=by
 obtain⟨n1,t,p,l,q⟩:=h;refine⟨n1,_,Rx hc p hn fC,@λH0 S z aq ρ σ H H1 v d tag fp Q ρ' ok s r g e k=>?_⟩;cases r with
 | @tup a xs ds fp hq rs=>
  have e:=e;exact⟨a,xs,rfl,hq,by rw[<- rs.length];exact l ds ρ ρ' e,q (ok.same s) rs e k⟩
 |_=>cases e
end
structure Hv where
 d:D
 v:V
 fp:List Addr
def l9(K:PySem.W.Frag)(J:It)(ds:List D)(hv:List Hv):Prop:=∀(H:Hp) (i:Nat),(∀h∈hv,Rep K H h.d h.v h.fp)->
 (∀d,ds[i]? = some d->J.go i H/\∀x H1,J.uq i H x H1->aG H H1/\∃fp,Rep K H1 d x fp/\∀a∈fp,∃h∈hv,a∈h.fp)/\(ds.length<=i->J.stop i H)
abbrev IF:=aE->Option (List D×Tag)
def FI(X:Cx)(tg iter:Expr)(f:IF):Prop:=∃wi,PI X tg iter wi/\∀{H0:Hp}{S:List Addr}{z:Addr->Option Nat}{aq:List ck}{ρ:aE}{σ:St}{H:Hp}{R:It->Hp->Prop}{ds:List D}{t:Tag},
 Ok X.K H0 S z aq ρ σ H->f ρ=some (ds,t)->(∀H1 J hv,aG H H1->(∀h∈hv,Rep X.K H1 h.d h.v h.fp/\∀a∈h.fp,∀j,z a=some j->∃o,t=.sh o/\j∈o)->l9 X.K J ds hv->R J H1)->wi σ H R
noncomputable def gj(f:EF):IF:=λρ=>match f ρ with
 |some (.lst ds,t)=>some (ds,t)
 |some (.fZ ds,t)=>some (ds,t)
 |some (.tup ds,t)=>some (ds,t)
 |_=>none
def Xs(K:PySem.W.Frag)(tl:TE):TI:=λσ H R=>tl σ H λx H1=>∃a,x=.ref a/\(((∃xs,bG K H1 a xs)/\R (zf K a) H1)\/((∃xs,b8 K H1 a xs)/\R (Bd K a) H1))
section
variable{X:Cx}{tg:Expr}
theorem QX{tl:TE}(hl:PE X l tl):PI X tg l (Xs X.K tl):=by
 intro af s σ H R I h;refine aL (hl af s σ H _ I h) λv s1 ⟨x,H1,I1,r1,q1⟩=>?_
 obtain⟨a,e,q⟩:=q1;subst e;cases r1;rcases q with⟨⟨xs,hq⟩,q⟩|⟨⟨xs,hq⟩,q⟩
 .obtain⟨ak,rv,p,hz⟩:=I1.list hq;refine aev p.isList ?_;refine⟨s1.heap.objs.size,[s1.heap.objs.size],_,_,H1,rfl,I1.kept (λb o e=>aad _ e),P9 a _,⟨_,abb _ rfl,rfl,rfl⟩,λb hb=>?_,q⟩;obtain rfl:b=s1.heap.objs.size:=by simpa using hb
  exact I1.oN (aa2 _) (I1.aC.fresh (aa2 _))
 .obtain⟨ak,rv,p,hz⟩:=I1.tuple hq;refine wpAny_pyIter_tuple (show s1.heap.IsTuple a ak.toArray from p) ?_;refine⟨s1.heap.objs.size,[s1.heap.objs.size],_,_,H1,rfl,I1.kept (λb o e=>aad _ e),RN a _,⟨_,abb _ rfl,rfl,rfl⟩,λb hb=>?_,q⟩;obtain rfl:b=s1.heap.objs.size:=by simpa using hb
  exact I1.oN (aa2 _) (I1.aC.fresh (aa2 _))
theorem Rep.dh{K:PySem.W.Frag}{H:Hp}(r:Rep K H (.lst ds) v fp):∃a xs f,v=.ref a/\bG K H a xs/\ay K H ds xs f/\∀b∈f,b∈fp:=by
 cases r with
 |lst h rs=>exact⟨_,_,_,rfl,bG.of h,rs,λb m=>aas _ m⟩
theorem Rep.pT{K:PySem.W.Frag}(r:Rep K H (.fZ ds) v fp):∃a xs,v=.ref a/\bG K H a xs/\ay K H ds xs fp:=by
 cases r with
 |yE h rs=>exact⟨_,_,rfl,h.sq,rs⟩
theorem Rep.jz{K:PySem.W.Frag}(r:Rep K H (.tup ds) v fp):∃a xs,v=.ref a/\b8 K H a xs/\ay K H ds xs fp:=by
 cases r with
 |tup h rs=>exact⟨_,_,rfl,h,rs⟩
theorem TM{K:PySem.W.Frag}:l9 K (zf K a) ds [⟨.lst ds,.ref a,fp⟩]:=by
 intro H i hh;have r:=hh ⟨.lst ds,.ref a,fp⟩ aah;obtain⟨a',xs,f,e,hq,rs,sub⟩:=r.dh;cases e;refine⟨λd hd=>?_,λhl=>⟨xs,hq,by rw[<- rs.length];exact hl⟩⟩;obtain⟨v,f',hv,rv,s'⟩:=rs.get hd;refine⟨⟨xs,v,hq,hv⟩,λx H1 y=>?_⟩;obtain⟨e1,y⟩:=y;subst e1;have e2:=y xs hq;rw[hv] at e2;cases e2;exact⟨aG.refl _,f',rv,λb m=>⟨_,aah,sub b (s' b m)⟩⟩
theorem Rc{K:PySem.W.Frag}:l9 K (zf K a) ds [⟨.fZ ds,.ref a,fp⟩]:=by
 intro H i hh;have r:=hh ⟨.fZ ds,.ref a,fp⟩ aah;obtain⟨a',xs,e,hq,rs⟩:=r.pT;cases e;refine⟨λd hd=>?_,λhl=>⟨xs,hq,by rw[<- rs.length];exact hl⟩⟩;obtain⟨v,f',hv,rv,s'⟩:=rs.get hd;refine⟨⟨xs,v,hq,hv⟩,λx H1 y=>?_⟩;obtain⟨e1,y⟩:=y;subst e1;have e2:=y xs hq;rw[hv] at e2;cases e2;exact⟨aG.refl _,f',rv,λb m=>⟨_,aah,s' b m⟩⟩
theorem Sq{K:PySem.W.Frag}:l9 K (Bd K a) ds [⟨.tup ds,.ref a,fp⟩]:=by
 intro H i hh;have r:=hh ⟨.tup ds,.ref a,fp⟩ aah;obtain⟨a',xs,e,hq,rs⟩:=r.jz;cases e;refine⟨λd hd=>?_,λhl=>⟨xs,hq,by rw[<- rs.length];exact hl⟩⟩;obtain⟨v,f',hv,rv,s'⟩:=rs.get hd;refine⟨⟨xs,v,hq,hv⟩,λx H1 y=>?_⟩;obtain⟨e1,y⟩:=y;subst e1;have e2:=y xs hq;rw[hv] at e2;cases e2;exact⟨aG.refl _,f',rv,λb m=>⟨_,aah,s' b m⟩⟩
theorem Mm{K:PySem.W.Frag}{lo:Int}:l9 K (qd lo n) ((List.range n).map λi:Nat=>D.int (lo+(i:Int))) []:=by
 intro H i _;refine⟨λd hd=>?_,λhl=>?_⟩
 .rw[acg] at hd
  by_cases hi:i<n
  .rw[List.getElem?_range hi] at hd;cases hd;refine⟨hi,λx H1 y=>?_⟩;obtain⟨e1,e2⟩:=y;subst e1 e2;exact⟨aG.refl _,[],.int _,λb m=>nomatch m⟩
  .rw[adw (by simpa using hi)] at hd;cases hd
 .rw[List.length_map,acZ] at hl;exact hl
theorem cB.over{K:PySem.W.Frag}(ok:Ok K H0 S z aq ρ σ H)(g:cB z H t fp):∀a∈fp,∀j,z a=some j->∃o,t=.sh o/\j∈o:=by
 intro a m j q;cases t with
 |sh o=>exact⟨o,rfl,g a m j q⟩
 |own=>obtain⟨⟨o,w⟩,_⟩:=ok.zd a j q;rw[g.2 a m] at w;cases w
 |lk=>obtain⟨⟨o,w⟩,_⟩:=ok.zd a j q;rw[g.2 a m] at w;cases w
theorem dM{l:Expr}{f:EF}(hl:FP X l f):FI X tg l (gj f):=by
 obtain⟨t,p,q⟩:=hl;exists 24,QX p;unfold gj at e;exists h,f ρ,w,e,0;obtain⟨d,GI⟩:=w;rw[h] at e;cases d with
 |lst es=>
  cases e;refine q ok h λH1 v fp s1 r1 g1=>?_
  obtain⟨a,xs,f,rfl,hq,rs,sub⟩:=r1.dh;exact⟨a,rfl,.inl ⟨⟨xs,hq⟩,k H1 _ [⟨.lst ds,.ref a,fp⟩] s1 (λh m=>by cases aat.mp m;exact⟨r1,g1.over ok⟩) TM⟩⟩
 |fZ es=>
  cases e;refine q ok h λH1 v fp s1 r1 g1=>?_
  obtain⟨a,xs,rfl,hq,rs⟩:=r1.pT;exact⟨a,rfl,.inl ⟨⟨xs,hq⟩,k H1 _ [⟨.fZ ds,.ref a,fp⟩] s1 (λh m=>by cases aat.mp m;exact⟨r1,g1.over ok⟩) Rc⟩⟩
 |tup es=>
  cases e;refine q ok h λH1 v fp s1 r1 g1=>?_
  obtain⟨a,xs,rfl,hq,rs⟩:=r1.jz;exact⟨a,rfl,.inr ⟨⟨xs,hq⟩,k H1 _ [⟨.tup ds,.ref a,fp⟩] s1 (λh m=>by cases aat.mp m;exact⟨r1,g1.over ok⟩) Sq⟩⟩
 |_=>cases e
noncomputable def small(i:Int):Bool:=decide (-(2 ^ 62)<=i)&&decide (i<2 ^ 62)
def n_(g:EF):IF:=λρ=>match g ρ with
 |some (.int j,_)=>if small j=true then some ((List.range j.toNat).map λi:Nat=>D.int (0+(i:Int)),.own) else none
 |_=>none
def yM(f g:EF):IF:=λρ=>match f ρ,g ρ with
 |some (.int i,_),some (.int j,_)=>if(small i&&small j)=true then some ((List.range (j-i).toNat).map λk:Nat=>D.int (i+(k:Int)),.own) else none
 |_,_=>none
theorem o_(h:small i=true):-(2 ^ 62)<=i/\i<2 ^ 62:=by
 obtain⟨a,b⟩:=(aaF _ _).mp h;exact⟨aaR a,aaR b⟩
theorem rq{a:Expr}{g:EF}{p pos:Pos}(hm:X.mg "range"=none)(ha:FP X a g)(hg:Gl X "range":=by rfl)(hs:starEach [a] X.env=[(false,eval a X.env)]:=by rfl):FI X tg (.Call (.Name "range" p) [a] [] pos) (n_ g):=by
 obtain⟨t,pa,q⟩:=ha;exists 24,N1 hg hm (cH pa dU hs) hs;unfold n_ at e;exists h,g ρ,w,e,0;obtain⟨d,GI⟩:=w;rw[h] at e;cases d with
 |int j=>
  dsimp only at e;obtain⟨hj,e⟩:=ci e;cases e;refine q ok h λH1 v fp s1 r1 g1=>?_
  cases r1;exact⟨j,rfl,(o_ hj).1,(o_ hj).2,k H1 _ [] s1 (λh m=>nomatch m) Mm⟩
 |_=>cases e
theorem XQ{a b:Expr}(hm:X.mg "range"=none)(ha:FP X a f)(hb:FP X b g)(hg:Gl X "range":=by rfl)(hs:starEach [a,b] X.env=[(false,eval a X.env),(false,eval b X.env)]:=by rfl)(bY:starEach [b] X.env=[(false,eval b X.env)]:=by rfl):
  FI X tg (.Call (.Name "range" p) [a,b] [] pos) (yM f g):=by
 obtain⟨t,pa,q⟩:=ha;obtain⟨t',pb,q'⟩:=hb;exists 24,Tj hg hm (cH pa (cH pb dU bY) (by rw[hs,bY])) hs bY;unfold yM at e;exists h,f ρ,w,e,0;obtain⟨d,GI⟩:=w;cases h2:g ρ with
 |none=>rw[h,h2] at e;cases d<;>cases e
 |some w=>
  obtain⟨d2,tg2⟩:=w;rw[h,h2] at e;cases d with
  |int i=>
   cases d2 with
   |int j=>
    dsimp only at e;obtain⟨hj,e⟩:=ci e;cases e;obtain⟨si,sj⟩:=(aaF _ _).mp hj;refine q ok h λH1 v fp s1 r1 g1=>?_
    cases r1;refine q' (ok.same s1) h2 λH2 v fp s2 r2 g2=>?_
    cases r2;exact⟨i,j,rfl,⟨(o_ si).1,(o_ si).2,(o_ sj).1,(o_ sj).2⟩,k H2 _ [] (s1.trans s2) (λh m=>nomatch m) Mm⟩
   |_=>cases e
  |_=>cases e
end
noncomputable def jT:Tag->List Nat
 |.sh o=>o
 |_=>[]
def lB(t:Tag):Tag:=.sh (jT t)
noncomputable def ownAt(ρ:aE)(j:Nat):Bool:=match ρ[j]? with
 |some (some (_,.own))=>true
 |_=>false
def kH(o:List Nat)(ρ:aE):List Nat:=o.filter (ownAt ρ)
noncomputable def MD:Tag->Tag
 |.own=>.lk
 |t=>t
noncomputable def Jb:Tag->Tag
 |.lk=>.own
 |t=>t
noncomputable def Ab(f:Tag->Tag):Slot->Slot
 |some (d,t)=>some (d,f t)
 |none=>none
def mS:List Nat->aE->aE
 |[],ρ=>ρ
 |j::r,ρ=>mS r (ρ.modify j (Ab MD))
def qo:List Nat->aE->aE
 |[],ρ=>ρ
 |j::r,ρ=>qo r (ρ.modify j (Ab Jb))
noncomputable def cg(g:GF)(t:Tag)(f:SF):List D->SF
 |[],ρ=>some (.nx ρ)
 |d::ds,ρ=>match g d t ρ with
  |none=>none
  |some aD=>match f aD with
   |some (.nx aR)=>cg g t f ds aR
   |some (.ct aR)=>cg g t f ds aR
   |some (.bk aR)=>some (.nx aR)
   |some (.rt r)=>some (.rt r)
   |some (.er raw cn aR)=>some (.er raw cn aR)
   |none=>none
def gz(it:IF)(g:GF)(f:SF):SF:=λρ=>match it ρ with
 |none=>none
 |some (ds,t)=>match cg g (lB t) f ds (mS (kH (jT t) ρ) ρ) with
  |some (.nx ρ')=>some (.nx (qo (kH (jT t) ρ) ρ'))
  |some (.rt d)=>some (.rt d)
  |some (.er raw cn ρ')=>some (.er raw cn (qo (kH (jT t) ρ) ρ'))
  |_=>none
theorem yZ:∀{ks:List Nat}{ρ:aE}{i:Nat}{d:D}{t:Tag},(mS ks ρ)[i]? = some (some (d,t))->∃t',ρ[i]? = some (some (d,t'))/\(t=t'\/(t'=.own/\t=.lk))/\(i∈ks->t≠.own)
 |[],ρ,i,d,t,h=>⟨t,h,.inl rfl,λm=>nomatch m⟩
 |j::r,ρ,i,d,t,h=>by
  obtain⟨t1,h1,h2,h3⟩:=yZ (ks:=r) h;rw[List.getElem?_modify] at h1;exists e,ρ[i]?,s,h1;have fG:(if j=i then Ab MD s else s)=some (d,t1):=ab8 h1
  by_cases hj:j=i
  .rw[if_pos hj] at fG;cases s with
   |none=>cases fG
   |some p=>
    obtain⟨d0,t0⟩:=p;cases fG;refine⟨t0,rfl,?_,λ_=>?_⟩
    .rcases h2 with h2|⟨h2,lD⟩
     .cases t0<;>first|exact .inl h2|exact .inr ⟨rfl,h2⟩
     .cases t0<;>cases h2
    .rcases h2 with h2|⟨h2,lD⟩
     .rw[h2];cases t0<;>(intro z;cases z)
     .rw[lD];intro z;cases z
  .rw[aa7 hj] at fG;subst fG;refine⟨t1,rfl,h2,λm=>?_⟩;rcases aaG.mp m with z|z
   .exact absurd z.symm hj
   .exact h3 z
theorem Kw:∀{ks:List Nat}{ρ:aE},(mS ks ρ).length=ρ.length
 |[],_=>rfl
 |_::r,ρ=>(Kw (ks:=r)).trans (List.length_modify ..)
theorem MC:∀{ks:List Nat}{ρ:aE},(qo ks ρ).length=ρ.length
 |[],_=>rfl
 |_::r,ρ=>(MC (ks:=r)).trans (List.length_modify ..)
theorem CS:∀{ks:List Nat}{ρ:aE}{i:Nat}{d:D}{t:Tag},(qo ks ρ)[i]? = some (some (d,t))->∃t',ρ[i]? = some (some (d,t'))/\(t=t'\/(t'=.lk/\t=.own/\i∈ks))
 |[],ρ,i,d,t,h=>⟨t,h,.inl rfl⟩
 |j::r,ρ,i,d,t,h=>by
  obtain⟨t1,h1,h2⟩:=CS (ks:=r) h;rw[List.getElem?_modify] at h1;exists e,ρ[i]?,s,h1;have fG:(if j=i then Ab Jb s else s)=some (d,t1):=ab8 h1
  by_cases hj:j=i
  .rw[if_pos hj] at fG;cases s with
   |none=>cases fG
   |some p=>
    obtain⟨d0,t0⟩:=p;cases fG;refine⟨t0,rfl,?_⟩;rcases h2 with h2|⟨h2,lD,h3⟩
    .cases t0<;>first|exact .inl h2|exact .inr ⟨rfl,h2,by rw[hj];exact aah⟩
    .cases t0<;>cases h2
  .rw[aa7 hj] at fG;subst fG;refine⟨t1,rfl,?_⟩;rcases h2 with h2|⟨h2,lD,h3⟩
   .exact .inl h2
   .exact .inr ⟨h2,lD,aas _ h3⟩
noncomputable def mG(z:Addr->Option Nat)(hv:List Hv):List ck:=hv.map λh=>⟨h.d,h.v,h.fp,z⟩
noncomputable def ou(z:Addr->Option Nat)(aq:List ck):List ck:=aq.map λh=>{ h with z0:=z }
section
variable{K:PySem.W.Frag}{H0:Hp}{S:List Addr}{z:Addr->Option Nat}{aq:List ck}{ρ:aE}{σ:St}{H:Hp}
theorem Ok.begin{hv:List Hv}(ok:Ok K H0 S z aq ρ σ H)(hh:∀h∈hv,Rep K H h.d h.v h.fp/\∀a∈h.fp,∀j,z a=some j->∃o,t=.sh o/\j∈o):
  Ok K H0 S z (mG z hv++ou z aq) (mS (kH (jT t) ρ) ρ) σ H:=by
 refine⟨λi d tg e=>?_,λp m=>?_,ok.zd,ok.en,by rw[Kw];exact ok.ln⟩
 .obtain⟨t',e',h,_⟩:=yZ e;obtain⟨v,fp,a,b,c⟩:=ok.sl i d t' e';refine⟨v,fp,a,b,?_⟩;rcases h with h|⟨h,h'⟩
  .subst h;exact c
  .subst h h';exact c
 .have Uk:∀j,rW ρ j->rW (mS (kH (jT t) ρ) ρ) j:=λj n d e=>by
   obtain⟨t',e',h,_⟩:=yZ e;rcases h with h|⟨h,h'⟩
   .subst h;exact n d e'
   .cases h'
  rcases ab3.mp m with m|m
  .obtain⟨h,hm,rfl⟩:=acu.mp m;refine⟨(hh h hm).1,λa ha j q=>⟨q,λd e=>?_⟩⟩;obtain⟨o,rfl,hj⟩:=(hh h hm).2 a ha j q;obtain⟨t',e',h',n⟩:=yZ e;rcases h' with h'|⟨h',v8⟩
   .subst h';exact n (ac2.mpr ⟨hj,by unfold ownAt;rw[e']⟩) rfl
   .cases v8
  .obtain⟨h,hm,rfl⟩:=acu.mp m;obtain⟨r,hz⟩:=ok.hl h hm;exact⟨r,λa ha j q=>⟨q,Uk j (hz a ha j q).2⟩⟩
theorem Ok.fin{hv:List Hv}{t:Tag}{z':Addr->Option Nat}{ρ':aE}{aB:St}{H':Hp}(ok:Ok K H0 S z aq ρ σ H)(a_:Ok K H0 S z' (mG z hv++ou z aq) ρ' aB H'):Ok K H0 S z' aq (qo (kH (jT t) ρ) ρ') aB H':=by
 refine⟨λi d tg e=>?_,λp m=>?_,a_.zd,a_.en,by rw[MC];exact a_.ln⟩
 .obtain⟨t',e',h⟩:=CS e;obtain⟨v,fp,a,b,c⟩:=a_.sl i d t' e';refine⟨v,fp,a,b,?_⟩;rcases h with h|⟨h,h',_⟩
  .subst h;exact c
  .subst h h';exact c
 .obtain⟨r,hz⟩:=a_.hl { p with z0:=z } (aaQ _ (acu.mpr ⟨p,m,rfl⟩));refine⟨r,λa ha j q=>?_⟩;obtain⟨h1,h2⟩:=hz a ha j q;have h1:=h1;obtain⟨h3,h4⟩:=(ok.hl p m).2 a ha j h1;refine⟨h3,λd e=>?_⟩;obtain⟨t',e',h⟩:=CS e;rcases h with h|⟨h,_,hk⟩
  .subst h;exact h2 d e'
  .have ho:=(ac2.mp hk).2;unfold ownAt at ho;exists e0,ρ[j]?,s,ho;cases s with
   |none=>cases ho
   |some p=>
    obtain⟨d0,t0⟩:=p;cases t0<;>first|exact h4 d0 e0|cases ho
end
section
variable{X:Cx}{pos:Pos}
theorem gP{tg iter:Expr}{body:List Stmt}{is:List Nat}(hc:X.calm=true)(hi:FI X tg iter it)(hg:FG X tg g is)(hb:FS X body f)(hp:PassesOwn (model X.prog X.w) X.A X.env X.xe:=by exact PassesOwn.never)
  (hs:∀x,foldedSetIterable iter X.env x=pure x:=by intro _;rfl):dO X (.For tg iter body [] pos) (gz it g f):=by
 obtain⟨wi,pi,si⟩:=hi;obtain⟨n1,ZN,pg,sg⟩:=hg;obtain⟨tb,pb,sb⟩:=hb;exists 23,Ih hp hc pi pg pb hs;unfold gz at e;exists h,it ρ,w,e,0;obtain⟨ds,t⟩:=w;rw[h] at e;dsimp only at e;refine si ok h λH1 J hv s1 hh sE=>?_
 exists ho,cg g (lB t) f ds (mS (kH (jT t) ρ) ρ),out,e;have bD:=ok.same s1;have dH:=bD.begin hh;have fin:∀{z':Addr->Option Nat}{ρ':aE}{aB:St}{H':Hp},Ok X.K H0 S z' (mG z hv++ou z aq) ρ' aB H'->out=.nx ρ'->Kp X σ aB->E.nx aB H':=λ{z' ρ' aB H'} a_ eo kp=>by
  subst eo;cases e;exact k z' aB H' (bD.fin a_) kp
 refine⟨λi m aB H'=>m=ds.length-i/\∃z' ρ',Ok X.K H0 S z' (mG z hv++ou z aq) ρ' aB H'/\cg g (lB t) f (ds.drop i) ρ'=some out/\Kp X σ aB,⟨ds.length,rfl,z,_,dH,ho,.refl _ _⟩,?_⟩
 rintro i m aB H' ⟨rfl,z',ρ',a_,e',kp⟩
 have hH:∀h∈hv,Rep X.K H' h.d h.v h.fp:=λh m=>(a_.hl _ (acf _ (acu.mpr ⟨h,m,rfl⟩))).1
 obtain⟨go,stop⟩:=sE H' i hH
 by_cases hl:ds.length<=i
 .refine .inl ⟨stop hl,?_⟩;rw[aee hl] at e';cases e';exact fin a_ rfl kp
 .have bI:i<ds.length:=Nat.lt_of_not_le hl;rw[ac5 bI] at e';obtain⟨g1,g2⟩:=go ds[i] (aau bI);refine .inr ⟨g1,λeY H2=>∃z' ρ',Ok X.K H0 S z' (mG z hv++ou z aq) ρ' eY H2/\cg g (lB t) f (ds.drop (i+1)) ρ'=some out/\Kp X σ eY,λeY H2 hn=>⟨ds.length-(i+1),by omega,rfl,hn⟩,λx H2 y=>?_⟩;obtain⟨s2,fp,r2,sub⟩:=g2 x H2 y;unfold cg at e';cases kE:g ds[i] (lB t) ρ' with
  |none=>rw[kE] at e';cases e'
  |some aD=>
   rw[kE] at e';dsimp only at e';refine sg (tag:=lB t) a_ s2 r2 (λa ha j q=>?_) kE λz2 eY iF a3=>?_
   .obtain⟨h,hm,Gh⟩:=sub a ha;obtain⟨_,hz⟩:=a_.hl _ (acf _ (acu.mpr ⟨h,hm,rfl⟩));obtain⟨q0,_⟩:=hz a Gh j q;obtain⟨o',rfl,hj⟩:=(hh h hm).2 a Gh j q0;exact hj
   .cases hf:f aD with
    |none=>rw[hf] at e';cases e'
    |some o1=>
     rw[hf] at e';refine sb iF hf ?_;cases o1 with
     |nx aR=>exact λz3 b7 H3 ez b=>⟨z3,aR,ez,e',(kp.trans (.off n1 a3.2)).trans b⟩
     |ct aR=>exact λz3 b7 H3 ez b=>⟨z3,aR,ez,e',(kp.trans (.off n1 a3.2)).trans b⟩
     |bk aR=>
      cases e';exact λz3 b7 H3 ez b=>fin ez rfl ((kp.trans (.off n1 a3.2)).trans b)
     |rt d=>
      cases e';cases e;exact k
     |er raw cn aR=>
      cases e';cases e;obtain⟨ES,th,q⟩:=k;exact⟨ES,th,λz3 b7 H3 C ez b hC=>q z3 b7 H3 C (bD.fin ez) ((kp.trans (.off n1 a3.2)).trans b) hC⟩
noncomputable def iz(c:TF)(f:SF):Nat->SF
 |0,_=>none
 |n+1,ρ=>match c ρ with
  |some false=>some (.nx ρ)
  |some true=>match f ρ with
   |some (.nx ρ')=>iz c f n ρ'
   |some (.ct ρ')=>iz c f n ρ'
   |some (.bk ρ')=>some (.nx ρ')
   |some (.rt d)=>some (.rt d)
   |some (.er raw cn ρ')=>some (.er raw cn ρ')
   |none=>none
  |none=>none
theorem X6(n:Nat){c:Expr}{body:List Stmt}{tc:TF}{f:SF}(hc:FT X c tc)(hb:FS X body f)(hp:PassesOwn (model X.prog X.w) X.A X.env X.xe:=by exact PassesOwn.never):dO X (.While c body [] pos) (iz tc f n):=by
 obtain⟨t,p,q⟩:=hc;obtain⟨tb,pb,qb⟩:=hb;exists 23,Vr hp p pb;refine⟨λm aB H'=>∃z' ρ',Ok X.K H0 S z' aq ρ' aB H'/\iz tc f m ρ'=some o/\Kp X σ aB,⟨n,z,ρ,ok,e,.refl _ _⟩,?_⟩
 rintro m aB H' ⟨z',ρ',a_,e',kp⟩
 cases m with
 |zero=>cases e'
 |succ m=>
  unfold iz at e';exists hc,tc ρ',b,e';refine q a_ hc λH1 s1=>?_
  cases b with
  |false=>
   cases e';rw[aa7 abI];exact k z' aB H1 (a_.same s1) kp
  |true=>
   rw[if_pos rfl];dsimp only at e';exists hf,f ρ',o1,e';refine⟨λeY H2=>∃z2 aR,Ok X.K H0 S z2 aq aR eY H2/\iz tc f m aR=some o/\Kp X σ eY,λeY H2 hn=>⟨m,adl m,hn⟩,?_⟩;refine qb (a_.same s1) hf ?_;cases o1 with
   |nx aR=>exact λz3 b7 H3 ez b=>⟨z3,aR,ez,e',kp.trans b⟩
   |ct aR=>exact λz3 b7 H3 ez b=>⟨z3,aR,ez,e',kp.trans b⟩
   |bk aR=>
    cases e';exact λz3 b7 H3 ez b=>k z3 b7 H3 ez (kp.trans b)
   |rt d=>
    cases e';exact k
   |er raw cn aR=>
    cases e';obtain⟨ES,th,q⟩:=k;exact⟨ES,th,λz3 b7 H3 C ez b hC=>q z3 b7 H3 C ez (kp.trans b) hC⟩
end
def wR(K:PySem.W.Frag)(f:EF):TE:=λσ H Q=>∃H0 S z aq ρ d tg,Ok K H0 S z aq ρ σ H/\f ρ=some (d,tg)/\∀H' v fp,aG H H'->Rep K H' d v fp->cB z H tg fp->Q v H'
def uf(K:PySem.W.Frag)(f:TF):TT:=λσ H Q=>∃H0 S z aq ρ b,Ok K H0 S z aq ρ σ H/\f ρ=some b/\∀H',aG H H'->Q b H'
def C_(K:PySem.W.Frag)(g:GF)(is:List Nat):TG:=λv σ H1 Q=>∃H0 S z aq ρ H d tag fp ρ',Ok K H0 S z aq ρ σ H/\aG H H1/\Rep K H1 d v fp/\cB z H tag fp/\g d tag ρ=some ρ'/\
 ∀z' aB,Ok K H0 S z' aq ρ' aB H1->(aB.length=σ.length/\∀j,j∉is->aB[j]? = σ[j]?)->Q aB H1
section
variable{X:Cx}
theorem FP.pe{e:Expr}{f:EF}(h:FP X e f):PE X e (wR X.K f):=by
 obtain⟨t,p,q⟩:=h
 rintro af s σ H Q I ⟨H0,S,z,aq,ρ,d,tg,ok,e,k⟩
 exact p af s σ H Q I (q ok e k)
theorem FT.pt(h:FT X e f):PT X e (uf X.K f):=by
 obtain⟨t,p,q⟩:=h
 rintro af s σ H Q I ⟨H0,S,z,aq,ρ,b,ok,e,k⟩
 exact p af s σ H Q I (q ok e k)
theorem FG.pg{is:List Nat}(h:FG X e g is):PG X e (C_ X.K g is):=by
 obtain⟨_,t,p,q⟩:=h
 rintro af s σ H1 v u Q I r ⟨H0,S,z,aq,ρ,H,d,tag,fp,ρ',ok,sm,rp,tk,e,k⟩
 exact p af s σ H1 v u Q I r (q ok sm rp tk e k)
end
def zm(X:Cx)(ifs:List Expr)(f:TF):Prop:=tT X ifs (uf X.K f)
noncomputable def lE:TF:=λ_=>some true
theorem jL{X:Cx}:zm X [] lE:=by
 rintro af s σ H Q I ⟨H0,S,z,aq,ρ,b,ok,e,k⟩
 cases e;exact wpAny_tests_nil ⟨H,I,k H (aG.refl H)⟩
theorem qF{X:Cx}{c:Expr}{f:TF}(h:FT X c f):zm X [c] f:=UR h.pt
noncomputable def iR(js:List (Option Nat))(ρ:aE):aE:=js.map λj=>match j with
 |none=>none
 |some j=>match ρ[j]? with
  |some (some (d,_))=>some (d,.sh [])
  |_=>none
def ie(g:GF)(tt:TF)(te:EF)(ρ:aE)(d:D):Option (Option D):=match g d (.sh []) ρ with
 |none=>none
 |some aD=>match tt aD with
  |none=>none
  |some false=>some none
  |some true=>match te aD with
   |none=>none
   |some (e,t)=>if lG t=true then some (some e) else if aI e=true then some (some e) else none
noncomputable def mT(h:D->Option (Option D)):List D->Option (List D)
 |[]=>some []
 |d::ds=>match h d with
  |none=>none
  |some none=>mT h ds
  |some (some e)=>match mT h ds with
   |none=>none
   |some es=>some (e::es)
def iE(js:List (Option Nat))(it:IF)(g:GF)(tt:TF)(te:EF):EF:=λρ=>match it ρ with
 |none=>none
 |some (ds,_)=>if ds.length<sizeLine then(mT (ie g tt te (iR js ρ)) ds).map λes=>(.lst es,.own) else none
theorem Li{h:D->Option (Option D)}{k:D->Option D}:∀{ds:List D},(∀d∈ds,h d=some (k d))->mT h ds=some (ds.filterMap k)
 |[],_=>rfl
 |d::ds,e=>by
  unfold mT;rw[e d aah,Li λx m=>e x (aas _ m),adf];cases k d<;>rfl
section
variable{X:Cx}{pos:Pos}
theorem LP{is:List Nat}(uo:∀i∈is,js[i]? = some none)
  (si:∀{H0:Hp}{R:It->Hp->Prop}{ds:List D}{t:Tag},
   Ok X.K H0 S z aq ρ σ H->it ρ=some (ds,t)->(∀H1 J hv,aG H H1->(∀h∈hv,Rep X.K H1 h.d h.v h.fp/\∀a∈h.fp,∀j,z a=some j->∃o,t=.sh o/\j∈o)->l9 X.K J ds hv->R J H1)->wi σ H R)
  (ok:Ok X.K H0 S z aq ρ σ H) (e:iE js it g tt te ρ=some (d,tg))
  (k:∀H' v fp,aG H H'->Rep X.K H' d v fp->cB z H tg fp->Q v H'):De wi js (C_ X.K g is) (uf X.K tt) (wR X.K te) σ H Q:=by
 unfold iE at e;cases h:it ρ with
 |none=>rw[h] at e;cases e
 |some w=>
  obtain⟨ds,t⟩:=w;rw[h] at e;dsimp only at e
  by_cases hz:ds.length<sizeLine
  .rw[if_pos hz] at e;cases Ce:mT (ie g tt te (iR js ρ)) ds with
   |none=>rw[Ce] at e;cases e
   |some es=>
    rw[Ce] at e;cases e;refine si ok h λH1 J hv s1 hh sE Dd qU=>?_
    have bD:=ok.same s1;have inner:∀(aB:St) (H2:Hp),aG H1 H2->(∃o,H2 Dd=some o)->aB.length=js.length->(∀j,j∉is->aB[j]? = (kg js σ)[j]?)->Ok X.K H1 [] (λa=>if a=Dd then some js.length else none) (mG (λ_=>none) hv) (iR js ρ) aB H2:=by
     intro aB H2 s2 Ej hlen yF;have nD:∀{a:Addr}{o:HO},H1 a=some o->a≠Dd:=λe=>cD e qU
     refine⟨λi d t e=>?_,λp m=>?_,λa j e=>?_,λa o e _=>s2 _ _ e,by unfold iR;rw[List.length_map,hlen]⟩
     .unfold iR at e;rw[acg] at e;cases hj:js[i]? with
      |none=>rw[hj] at e;cases e
      |some o=>
       rw[hj] at e;cases o with
       |none=>cases e
       |some j=>
        have e:(match ρ[j]? with|some (some (d,_))=>some (d,Tag.sh [])|_=>none)=some (d,t):=ab8 e;cases hr:ρ[j]? with
        |none=>rw[hr] at e;cases e
        |some s=>
         rw[hr] at e;cases s with
         |none=>cases e
         |some p=>
          obtain⟨d0,t0⟩:=p;have e1:=Prod.mk.inj (ab8 e);obtain⟨rfl,rfl⟩:=e1;obtain⟨v,fp,hs,r,_⟩:=bD.sl j d0 t0 hr;have hi:i∉is:=λm=>by rw[uo i m] at hj;cases hj
          refine⟨v,fp,?_,r.same s2,λa m q e=>?_⟩
          .rw[yF i hi];unfold kg;rw[acg,hj];show some ((σ[j]?).join)=some (some v);rw[hs];rfl
          .obtain⟨o,w,_⟩:=r.dw a m;dsimp only at e;rw[aa7 (nD w)] at e;cases e
     .obtain⟨h,hm,rfl⟩:=acu.mp m;refine⟨(hh h hm).1.same s2,λa ha q e=>?_⟩;obtain⟨o,w,_⟩:=(hh h hm).1.dw a ha;rw[aa7 (nD w)] at e;cases e
     .by_cases w:a=Dd
      .rw[w];exact⟨Ej,.inl qU⟩
      .rw[aa7 w] at e;cases e
    refine⟨λi m aB H'=>m=ds.length - i/\aG H1 H'/\aB.length=js.length/\(∀j,j∉is->aB[j]? = (kg js σ)[j]?)/\∃done rest vs fp,H' Dd=some (.lst vs)/\ay X.K H' done vs fp/\fp.Nodup/\(∀a∈fp,H1 a=none/\a≠Dd)/\
     mT (ie g tt te (iR js ρ)) (ds.drop i)=some rest/\done++rest=es/\done.length<=i,?_,?_⟩
    .refine⟨ds.length,rfl,λb o e=>by rw[aN (cD e qU)];exact e,by unfold kg;rw[List.length_map],λ_ _=>rfl,[],es,[],[],bL,.nil,aci,(λa m=>nomatch m),Ce,rfl,aa2 _⟩
    .rintro i m aB H' ⟨rfl,sH,hlen,yF,done,rest,vs,fp,hD,rs,nd,fr,hr,rfl,hle⟩
     obtain⟨go,stop⟩:=sE H' i λh m=>(hh h m).1.same sH
     by_cases hl:ds.length<=i
     .refine .inl ⟨stop hl,?_⟩;rw[aee hl] at hr;cases hr;rw[acB] at k;refine k H' (.ref Dd) (Dd::fp) (s1.trans sH) (.lst hD rs) ⟨acd.mpr ⟨λm=>(fr Dd m).2 rfl,nd⟩,λa m=>?_⟩;rcases aaG.mp m with e|m
      .rw[e];exact s1.free qU
      .exact s1.free (fr a m).1
     .have bI:=Nat.lt_of_not_le hl;rw[ac5 bI] at hr;obtain⟨g1,g2⟩:=go ds[i] (aau bI);refine .inr ⟨g1,λx H2 y=>?_⟩;obtain⟨s2,lY,r2,sub⟩:=g2 x H2 y;have dH:=inner aB H' sH ⟨_,hD⟩ hlen yF;unfold mT at hr;cases hE:ie g tt te (iR js ρ) ds[i] with
      |none=>rw[hE] at hr;cases hr
      |some oe=>
       rw[hE] at hr;unfold ie at hE;cases kE:g ds[i] (.sh []) (iR js ρ) with
       |none=>rw[kE] at hE;cases hE
       |some aD=>
        rw[kE] at hE;dsimp only at hE;have WM:cB (λa=>if a=Dd then some js.length else none) H' (.sh []) lY:=λa m j e=>by
         obtain⟨h,hm,ha⟩:=sub a m;obtain⟨o,w,_⟩:=(hh h hm).1.dw a ha;dsimp only at e;rw[aa7 (cD w qU)] at e;cases e
        refine⟨H1,[],_,_,iR js ρ,H',ds[i],.sh [],lY,aD,dH,s2,r2,WM,kE,λz3 b7 iF Hw=>?_⟩;have LJ:=Hw.1.trans hlen;have IY:∀j,j∉is->b7[j]? = (kg js σ)[j]? :=λj hj=>(Hw.2 j hj).trans (yF j hj)
        cases ht:tt aD with
        |none=>rw[ht] at hE;cases hE
        |some b=>
         rw[ht] at hE;refine⟨H1,[],z3,_,aD,b,iF,ht,λH4 s4=>?_⟩;have vV:=(sH.trans s2).trans s4;have tM:=s2.trans s4;cases b with
         |false=>
          cases hE;refine Pu ?_;exact⟨ds.length-(i+1),by lia,rfl,vV,LJ,IY,done,rest,vs,fp,tM _ _ hD,rs.same tM,nd,fr,hr,rfl,Nat.le_succ_of_le hle⟩
         |true=>
          refine Wa ?_;dsimp only at hE;cases CT:te aD with
          |none=>rw[CT] at hE;cases hE
          |some w=>
           obtain⟨y,ty⟩:=w;rw[CT] at hE;dsimp only at hE;refine⟨H1,[],z3,_,aD,y,ty,iF.same s4,CT,λH5 yv fy s5 ry gy=>?_⟩;have Wo:oe=some y/\fy.Nodup/\∀a∈fy,H4 a=none:=by
            by_cases ho:lG ty=true
            .rw[if_pos ho] at hE;cases hE;exact⟨rfl,by cases ty<;>first|exact gy|cases ho⟩
            .rw[aa7 ho] at hE
             by_cases hi:aI y=true
             .rw[if_pos hi] at hE;cases hE;have hn:=ry.aI hi;subst hn;exact⟨rfl,aci,λa m=>nomatch m⟩
             .rw[aa7 hi] at hE;cases hE
           obtain⟨rfl,ndy,F4⟩:=Wo;dsimp only at hr;cases BS:mT (ie g tt te (iR js ρ)) (ds.drop (i+1)) with
           |none=>rw[BS] at hr;cases hr
           |some r'=>
            rw[BS] at hr;cases hr;have Gu:=tM.trans s5;have IE:=Gu _ _ hD;have lv:vs.length<sizeLine:=by rw[<- rs.length];lia
            have im:bH H5 (upd H5 Dd (.lst (vs++[yv]))):=bH.upd IE rfl;have n1:∀a∈fp++fy,a≠Dd:=λa m=>by
             rcases ab3.mp m with m|m
             .exact(fr a m).2
             .intro e;have:=F4 a m;rw[e,tM _ _ hD] at this;cases this
            have Pq:ay X.K H5 (done++[y]) (vs++[yv]) (fp++fy):=by
             have q:=ay.append (rs.same Gu) (ay.cons ry .nil);rw[acB] at q;exact q
            refine⟨vs,IE,lv,ds.length-(i+1),by lia,rfl,λb o e=>?_,LJ,IY,done++[y],r',vs++[yv],fp++fy,bL,Pq.frame (λa m=>aN (n1 a m)) im,?_,λa m=>?_,BS,?_,?_⟩
            .rw[aN (cD e qU)];exact s5 _ _ (vV _ _ e)
            .refine acv.mpr ⟨nd,ndy,λa m b m' e=>?_⟩;subst e;obtain⟨o,w,_⟩:=(rs.same tM).dw a m;rw[F4 a m'] at w;cases w
            .refine⟨?_,n1 a m⟩;rcases ab3.mp m with m|m
             .exact(fr a m).1
             .exact vV.free (F4 a m)
            .rw[acw];rfl
            .rw[ack,aej];lia
  .rw[aa7 hz] at e;cases e
theorem iV{M:List Str}{js:List (Option Nat)}{it:IF}{g:GF}{tt:TF}{te:EF}{is:List Nat}(S:m7 X M js sc)(hc:X.calm=true)(hi:FI X tg iter it)(uo:∀i∈is,js[i]? = some none)
  (hb:∀s3 H3 fp,FG (dJ X M sc s3 H3 fp) tg g is/\zm (dJ X M sc s3 H3 fp) ifs tt/\FP (dJ X M sc s3 H3 fp) elt te) (hs:∀x,foldedSetIterable iter X.env x=pure x:=by intro _;rfl) :
  FP X (.ListComp elt [⟨tg,iter,ifs,0⟩] sc pos) (iE js it g tt te):=by
 obtain⟨wi,pi,si⟩:=hi;exact⟨_,X4 (tt:=uf X.K tt) (te:=wR X.K te) S hc pi (λs3 H3 fp=>⟨(hb s3 H3 fp).1.pg,(hb s3 H3 fp).2.1,(hb s3 H3 fp).2.2.pe⟩) hs,@λH0 S z aq ρ σ H Q d tg ok e k=>LP uo si ok e k⟩
theorem BG(i:Nat){y:Str}{sc:Scope}{js:List (Option Nat)}{it:IF}{is:List Nat}(hN:X.N.Nodup)(S:m7 X M js sc)(hc:X.calm=true)(hi:FI X tg iter it)
  (uo:∀i∈is,js[i]? = some none) (hb:∀s3 H3 fp,FG (dJ X M sc s3 H3 fp) tg g is/\zm (dJ X M sc s3 H3 fp) ifs tt/\FP (dJ X M sc s3 H3 fp) elt te) (hy:X.N[i]? = some y:=by rfl) (hl:X.env.scope.names.lookup y=some .local:=by rfl)
  (gZ:swapsWith (.ListComp elt [⟨tg,iter,ifs,0⟩] sc pos) (some (.Name y py)) Cq.line X.env=pure true:=by rfl) (hs:∀x,foldedSetIterable iter X.env x=pure x:=by intro _;rfl) (m_:kT X y=false:=by rfl) :
  dO X (.Assign [.Name y py] (.ListComp elt [⟨tg,iter,ifs,0⟩] sc pos) Cq) (gD i (iE js it g tt te)):=by
 obtain⟨wi,pi,si⟩:=hi;exists 23,XE (g:=C_ X.K g is) (tt:=uf X.K tt) (te:=wR X.K te) hN hy hl S hc pi (λs3 H3 fp=>⟨(hb s3 H3 fp).1.pg,(hb s3 H3 fp).2.1,(hb s3 H3 fp).2.2.pe⟩) gZ hs;unfold gD at e;exists h,iE js it g tt te ρ,w,e,0;obtain⟨d,tg⟩:=w;rw[h] at e;cases e;refine LP uo si ok h λH1 v fp s1 r1 g1=>?_
 exact ok.stored s1 r1 g1 λz' a_=>k z' _ H1 a_ (.set hy m_)
end
noncomputable def F5(n:Nat)(ds:List D):aE:=ds.map (λd=>some (d,.sh []))++List.replicate (n-ds.length) none
def bM(n N:Nat)(b:SF):List D->Option D:=λds=>if ds.length=n then(match b (F5 N ds) with
 |some (.rt d)=>some d
 |some (.nx _)=>some .aH
 |_=>none) else none
noncomputable abbrev CF:=List D->List D->Option D
noncomputable def xD(N:Nat)(es ds:List D):aE:=es.map (λd=>some (d,.own))++(ds.map (λd=>some (d,.sh []))++List.replicate (N-(ds.length+es.length)) none)
def runC(n N:Nat)(b:SF):CF:=λes ds=>if ds.length + es.length=n then(match b (xD N es ds) with
 |some (.rt d)=>some d
 |some (.nx _)=>some .aH
 |_=>none) else none
def Y_(K:PySem.W.Frag)(G:CF):Sp:=λvs H Q _=>∃us ws es ds aT cE d,vs=us++ws/\ay K H es us aT/\aT.Nodup/\ay K H ds ws cE/\(∀b∈cE,b∉aT)/\G es ds=some d/\
 ∀H' v fp,(∀a o,H a=some o->a∉aT->H' a=some o)->Rep K H' d v fp->fp.Nodup->(∀a∈fp,H a=none\/a∈aT)->Q v H'
theorem ay.own{K:PySem.W.Frag}{H:Hp}:∀{es:List D}{us:List V}{fp:List Addr} (k:Nat),ay K H es us fp->fp.Nodup->∃z:Addr->Option Nat,(∀i d,es[i]? = some d->∃v f,us[i]? = some v/\Rep K H d v f/\f.Nodup/\∀a∈f,z a=some (k+i))/\∀a j,z a=some j->a∈fp
 |_,_,_,_,.nil,_=>⟨λ_=>none,λi d e=>by simp at e,λ_ _ e=>nomatch e⟩
 |_,_,_,k,.cons (f1:=f1) (f2:=f2) r t,n=>by
  classical
  obtain⟨n1,n2,n3⟩:=acv.mp n;obtain⟨z,h1,h2⟩:=t.own (k+1) n2;refine⟨λa=>if a∈f1 then some k else z a,λi d e=>?_,λa j e=>?_⟩
  .cases i with
   |zero=>cases e;exact⟨_,f1,rfl,r,n1,λa m=>if_pos m⟩
   |succ i=>
    obtain⟨v,f,a1,a2,a3,a4⟩:=h1 i d e;exact⟨v,f,a1,a2,a3,λa m=>(aa7 λq=>n3 a q a (h2 a _ (a4 a m)) rfl).trans ((a4 a m).trans (by rw[Nat.add_assoc,Nat.add_comm 1]))⟩
  .dsimp only at e
   split at e
   .exact acf _ (by assumption)
   .exact aaQ _ (h2 a j e)
section
variable{P:Program}{w:World}{K:PySem.W.Frag}{mg:Str->Option Value}{base:Heap}
theorem Ok.IX{us ws:List V}{es ds:List D}{aT cE:List Addr}(r0:ay K H es us aT)(nd:aT.Nodup)(rs:ay K H ds ws cE)(dj:∀b∈cE,b∉aT):∃z,Ok K H aT z [] (xD N.length es ds) (start N (us++ws)) H:=by
 obtain⟨z,h1,h2⟩:=r0.own 0 nd;have l0:=r0.length;have l1:=rs.length;unfold xD start;rw[acF,acw];refine⟨z,λi d' t' e'=>?_,(λp m=>by cases m),(λa j e=>⟨let⟨o,w,_⟩:=r0.dw a (h2 a j e);⟨o,w⟩,.inr (h2 a j e)⟩),(λa o e _=>e),?_⟩
 .by_cases hi:i<es.length
  .rw[ac4 (by rw[List.length_map];exact hi),acg,aau hi] at e';cases e';obtain⟨v,g,hv,rv,n',hz⟩:=h1 i _ (aau hi);rw[adX] at hz;exact⟨v,g,(ac4 (by rw[List.length_map];lia)).trans (by rw[acg,hv];rfl),rv,n',hz⟩
  .rw[ado (by rw[List.length_map];lia),List.length_map] at e';rw[ado (by rw[List.length_map];lia),List.length_map,<- l0];generalize i-es.length=i at e' ⊢
   by_cases hi:i<ds.length
   .rw[ac4 (by rw[List.length_map];exact hi),acg,aau hi] at e';cases e';obtain⟨v,g,hv,rv,sub⟩:=rs.get (aau hi);exact⟨v,g,(ac4 (by rw[List.length_map];lia)).trans (by rw[acg,hv];rfl),rv,λa m j e=>(dj a (sub a m) (h2 a j e)).elim⟩
   .rw[ado (by rw[List.length_map];lia),List.getElem?_replicate] at e'
    split at e'<;>cases e'
 .simp only[ack,List.length_map,List.length_replicate]
  lia
theorem UH{st:Stmt}(F:gQ K x qual st f fd)(S:m9 N ps (cC st))
  (hb:∀(aV:{c:Value // c=fd.code}) (A:Around) (outer:List Env) (s:Shared) (H:Hp) (E:XK),bh k (A.deeper (envOfC qual (cC st) s.heap.objs.size f aV)) cm->FS (iO cJ P w K mg base N qual (cC st) f aV A outer s H E cm).d8 (f7 st) b) :
  bT P w K mg base cJ (k+1) f fd ps (Y_ K (runC ps.length N.length b)) cm:=by
 refine F.ok S (λvs H Q E ⟨us,ws,es,ds,aT,cE,d,e0,r0,_,rs,_,e,_⟩=>?_) (λaV A outer s H vs Q E hr ⟨us,ws,es,ds,aT,cE,d,e0,r0,nd,rs,dj,e,q⟩=>?_)
 .unfold runC at e
  split at e
  .rename_i h;rw[e0,ack,<- r0.length,<- rs.length,Nat.add_comm,h]
  .cases e
 .obtain⟨t,p,sd⟩:=hb aV A outer s H E hr;refine⟨t,p,?_⟩;obtain⟨z,ok⟩:=Ok.IX r0 nd rs dj;rw[e0];unfold runC at e
  split at e
  .cases ho:b (xD N.length es ds) with
   |none=>rw[ho] at e;cases e
   |some o=>
    rw[ho] at e;refine sd ok ho ?_;cases o with
    |rt d'=>cases e;exact q
    |nx ρ'=>cases e;exact λz' aB H' a_ _=>q H' .aH [] a_.en .aH aci λa m=>nomatch m
    |bk _=>cases e
    |ct _=>cases e
    |er _ _ _=>cases e
  .cases e
theorem Ao{st:Stmt}(F:gQ K x qual st f fd)(S:m9 N ps (cC st))
  (hb:∀(aV:{c:Value // c=fd.code}) (A:Around) (outer:List Env) (s:Shared) (H:Hp) (E:XK),bh k (A.deeper (envOfC qual (cC st) s.heap.objs.size f aV)) cm->FS (iO cJ P w K mg base N qual (cC st) f aV A outer s H E cm).d8 (f7 st) b) :
  bT P w K mg base cJ (k+1) f fd ps (bq K (bM ps.length N.length b)) cm:=
 (UH F S hb).imp λvs H Q E ⟨ds,fp,d,rs,e,q⟩=>⟨[],vs,[],ds,[],fp,d,rfl,.nil,.nil,rs,(λ_ _ m=>nomatch m),e,λH' v fp en r n fr=>q H' v fp (λa o e=>en a o e λm=>nomatch m) r n λa m=>(fr a m).resolve_right λm=>nomatch m⟩
end
noncomputable def tQ(f:Int->Int->Int):D->D->Option D
 |.int i,.int j=>some (.int (f i j))
 |_,_=>none
noncomputable def sX(C:Int->Int->Bool)(f:Int->Int->Int):D->D->Option D
 |.int i,.int j=>if C i j=true then some (.int (f i j)) else none
 |_,_=>none
noncomputable def qO(f:Int->Int->Bool):D->D->Option D
 |.int i,.int j=>some (.bl (f i j))
 |_,_=>none
noncomputable def lQ(i j:Int):Bool:=(decide (-(2 ^ 64)<i)&&decide (i<2 ^ 64))||(decide (-(2 ^ 64)<j)&&decide (j<2 ^ 64))
noncomputable def Cw(_ j:Int):Bool:=decide (0<j)
def pG:=tQ λi j=>i+j
def mF:=tQ λi j=>i-j
def Ez:=sX lQ λi j=>i*j
def oMod:=sX Cw λi j=>i % j
def oLt:=qO λi j=>decide (i<j)
def oLe:=qO λi j=>decide (i<=j)
def Bf:=qO λi j=>decide (j<i)
def p9:=qO λi j=>decide (j<=i)
noncomputable def oEq:D->D->Option D
 |.int i,.int j=>some (.bl (i==j))
 |.bl i,.bl j=>some (.bl (i==j))
 |.str i,.str j=>some (.bl (i==j))
 |.aH,.aH=>some (.bl true)
 |_,_=>none
noncomputable def iB:D->D->Option D
 |.int i,.int j=>some (.bl (!(i==j)))
 |.bl i,.bl j=>some (.bl (!(i==j)))
 |.str i,.str j=>some (.bl (!(i==j)))
 |.aH,.aH=>some (.bl false)
 |_,_=>none
noncomputable def r8:D->Bool
 |.aH=>true
 |_=>false
def iD:D->D->Option D
 |d,.aH=>some (.bl (r8 d))
 |_,_=>none
def xq:D->D->Option D
 |d,.aH=>some (.bl (!r8 d))
 |_,_=>none
section
variable{K:PySem.W.Frag}
theorem wc{g:Int->Int->Int}:fJ K (lK λi j=>.int (g i j)) (tQ g):=by
 intro H x y d1 d2 f1 f2 d Q r1 r2 e k;unfold tQ at e
 split at e
 .cases e;exact⟨_,_,r1.jf.1,r2.jf.1,k H _ (aG.refl H) (.int _)⟩
 .cases e
theorem nU{g:Int->Int->Bool}:fJ K (lK λi j=>.bl (g i j)) (qO g):=by
 intro H x y d1 d2 f1 f2 d Q r1 r2 e k;unfold qO at e
 split at e
 .cases e;exact⟨_,_,r1.jf.1,r2.jf.1,k H _ (aG.refl H) (.bl _)⟩
 .cases e
theorem xX{C:Int->Int->Prop}{c:Int->Int->Bool}{g:Int->Int->Int}(h:∀i j,c i j=true->C i j):fJ K (rI C λi j=>.int (g i j)) (sX c g):=by
 intro H x y d1 d2 f1 f2 d Q r1 r2 e k;unfold sX at e
 split at e
 .rename_i i j;obtain⟨hc,e⟩:=ci e;cases e;exact⟨i,j,r1.jf.1,r2.jf.1,h i j hc,k H _ (aG.refl H) (.int _)⟩
 .cases e
theorem OG(i j:Int)(h:lQ i j=true):tO i j:=by
 unfold lQ at h;unfold tO;rcases(Bool.or_eq_true _ _).mp h with h|h
 .obtain⟨a,b⟩:=(aaF _ _).mp h;exact .inl ⟨aaR a,aaR b⟩
 .obtain⟨a,b⟩:=(aaF _ _).mp h;exact .inr ⟨aaR a,aaR b⟩
theorem JK:fJ K L4 oEq:=by
 intro H x y d1 d2 f1 f2 d Q r1 r2 e k;unfold oEq at e
 split at e
 .cases e;rw[r1.jf.1,r2.jf.1];refine⟨rfl,?_⟩;rw[yR];exact k H _ (aG.refl H) (.bl _)
 .cases e;rw[r1.ze.1,r2.ze.1];refine⟨rfl,?_⟩;rw[yr];exact k H _ (aG.refl H) (.bl _)
 .cases e;rw[r1.yJ.1,r2.yJ.1];refine⟨rfl,?_⟩;rw[wZ];exact k H _ (aG.refl H) (.bl _)
 .cases e;rw[r1.yO.1,r2.yO.1];exact⟨rfl,by have:=k H (.bl true) (aG.refl H) (.bl _);simpa using this⟩
 .cases e
theorem Zw:fJ K Jx iB:=by
 intro H x y d1 d2 f1 f2 d Q r1 r2 e k;unfold iB at e
 split at e
 .cases e;rw[r1.jf.1,r2.jf.1];refine⟨rfl,?_⟩;rw[yR];exact k H _ (aG.refl H) (.bl _)
 .cases e;rw[r1.ze.1,r2.ze.1];refine⟨rfl,?_⟩;rw[yr];exact k H _ (aG.refl H) (.bl _)
 .cases e;rw[r1.yJ.1,r2.yJ.1];refine⟨rfl,?_⟩;rw[wZ];exact k H _ (aG.refl H) (.bl _)
 .cases e;rw[r1.yO.1,r2.yO.1];exact⟨rfl,by have:=k H (.bl false) (aG.refl H) (.bl _);simpa using this⟩
 .cases e
theorem Rep.r8(r:Rep K H d v fp):decide (v=.aH)=r8 d:=by
 cases r<;>first|rfl|exact aco (λe=>nomatch e)
theorem L_:fJ K (λx y H Q=>y=.aH/\Q (.bl (decide (x=.aH))) H) iD:=by
 intro H x y d1 d2 f1 f2 d Q r1 r2 e k;unfold iD at e
 split at e
 .cases e;cases r2;refine⟨rfl,?_⟩;rw[r1.r8];exact k H _ (aG.refl H) (.bl _)
 .cases e
theorem Wg:fJ K (λx y H Q=>y=.aH/\Q (.bl (!decide (x=.aH))) H) xq:=by
 intro H x y d1 d2 f1 f2 d Q r1 r2 e k;unfold xq at e
 split at e
 .cases e;cases r2;refine⟨rfl,?_⟩;rw[r1.r8];exact k H _ (aG.refl H) (.bl _)
 .cases e
end
section
variable{X:Cx}{a b:Expr}{fa fb:EF}{pos:Pos}
theorem gp(ha:FP X a fa)(hb:FP X b fb):FP X (.BinOp a .Add b pos) (e2 pG fa fb):=qq Oa wc ha hb
theorem m5(ha:FP X a fa)(hb:FP X b fb):FP X (.BinOp a .Sub b pos) (e2 mF fa fb):=qq aa0 wc ha hb
theorem xT(ha:FP X a fa)(hb:FP X b fb):FP X (.BinOp a .Mult b pos) (e2 Ez fa fb):=qq RL (xX OG) ha hb
theorem Cj(ha:FP X a fa)(hb:FP X b fb):FP X (.BinOp a .Mod b pos) (e2 oMod fa fb):=qq Oj (xX λ_ _ h=>aaR h) ha hb
theorem Pf(ha:FP X a fa)(hb:FP X b fb):FT X (.Compare a [.Lt] [b] pos) (tV (e2 oLt fa fb)):=ow H_ nU ha hb (jj _)
theorem uL(ha:FP X a fa)(hb:FP X b fb):FT X (.Compare a [.Gt] [b] pos) (tV (e2 Bf fa fb)):=ow Wr nU ha hb (jj _)
theorem NK(ha:FP X a fa)(hb:FP X b fb):FT X (.Compare a [.GtE] [b] pos) (tV (e2 p9 fa fb)):=ow LS nU ha hb (jj _)
theorem oz(ha:FP X a fa)(hb:FP X b fb):FT X (.Compare a [.Eq] [b] pos) (tV (e2 oEq fa fb)):=ow Nz JK ha hb (jj _)
theorem uR(ha:FP X a fa)(hb:FP X b fb):FT X (.Compare a [.NotEq] [b] pos) (tV (e2 iB fa fb)):=ow Z7 Zw ha hb (jj _)
theorem qR(ha:FP X a fa)(hb:FP X b fb):FT X (.Compare a [.Is] [b] pos) (tV (e2 iD fa fb)):=ow N9 L_ ha hb (jj _)
theorem VR(ha:FP X a fa)(hb:FP X b fb):FT X (.Compare a [.IsNot] [b] pos) (tV (e2 xq fa fb)):=ow Wy Wg ha hb (jj _)
theorem Fc(ha:FP X a fa)(hb:FP X b fb):FP X (.Compare a [.Eq] [b] pos) (e2 oEq fa fb):=pB Nz JK ha hb (jj _)
noncomputable def e1(op:D->Option D)(fa:EF):EF:=λρ=>match fa ρ with
 |some (d1,_)=>(op d1).map λd=>(d,.own)
 |none=>none
theorem nG{op:D->Option D}(e:e1 op fa ρ=some (d,tg)):∃d1 t1,fa ρ=some (d1,t1)/\op d1=some d/\tg=.own:=by
 unfold e1 at e;exists h1,fa ρ,p,e,0;obtain⟨d1,t1⟩:=p;rw[h1] at e;dsimp only at e;exists h3,op d1,d3,e;cases e;exact⟨d1,t1,rfl,h3,rfl⟩
def oS(K:PySem.W.Frag)(r:List V->Hp->VK->Prop)(op:D->Option D):Prop:=∀(H:Hp) (x:V) (d1:D) (f1:List Addr) (d:D) (Q:VK),Rep K H d1 x f1->op d1=some d->
 (∀H' v fp,aG H H'->Rep K H' d v fp->fp.Nodup->(∀a∈fp,H a=none)->Q v H')->r [x] H Q
theorem fp_1{e:Expr}{r:List V->Hp->VK->Prop}{op:D->Option D}(dd:oS X.K r op)(ha:FP X a fa)(he:∀ta,PE X a ta->PE X e (E9 r (Mq ta rD))):FP X e (e1 op fa):=by
 obtain⟨t,p,q⟩:=ha;exists 21,he t p;obtain⟨d1,t1,h1,h2,rfl⟩:=nG e;refine q ok h1 λH1 x f1 s1 r1 _=>?_
 exact dd H1 x d1 f1 d Q r1 h2 λH2 v fp s2 r2 nd fr=>k H2 v fp (s1.trans s2) r2 ⟨nd,λa m=>s1.free (fr a m)⟩
noncomputable def dZ:D->Option D
 |.lst ds=>some (.int ds.length)
 |.fZ ds=>some (.int ds.length)
 |.tup ds=>some (.int ds.length)
 |.bS es=>some (.int es.length)
 |_=>none
theorem eF.or'{r r':List V->Hp->VK->Prop}(h:eF X f r)(h':eF X f r'):eF X f (λxs H Q=>r xs H Q\/r' xs H Q):=by
 intro af s σ H xs us Q I rv q;rcases q with q|q
 .exact h af s σ H xs us Q I rv q
 .exact h' af s σ H xs us Q I rv q
theorem S_:oS X.K (λxs H Q=>(∃p ys,xs=[V.ref p]/\(bG X.K H p ys\/b8 X.K H p ys)/\Q (.int ys.length) H)\/(∃a aj,xs=[V.ref a]/\H a=some (.dK aj)/\Q (.int aj.length) H)) dZ:=by
 intro H x d1 f1 d Q r e k;have fin:∀n:Nat,d=.int n->Q (.int n) H:=λn e=>by subst e;exact k H _ [] (aG.refl H) (.int _) aci λa m=>nomatch m
 cases d1 with
 |lst ds=>
  obtain⟨a,xs,f,rfl,hq,rs,_⟩:=r.dh;cases e;exact .inl ⟨a,xs,rfl,.inl hq,by rw[<- rs.length];exact fin _ rfl⟩
 |fZ ds=>
  obtain⟨a,xs,rfl,hq,rs⟩:=r.pT;cases e;exact .inl ⟨a,xs,rfl,.inl hq,by rw[<- rs.length];exact fin _ rfl⟩
 |tup ds=>
  obtain⟨a,xs,rfl,hq,rs⟩:=r.jz;cases e;exact .inl ⟨a,xs,rfl,.inr hq,by rw[<- rs.length];exact fin _ rfl⟩
 |bS es=>
  cases r with
  |bS h hk rs=>
   cases e;refine .inr ⟨_,_,rfl,h,?_⟩;have hl:=congrArg List.length hk;rw[List.length_map,List.length_map] at hl;rw[<- hl];exact fin _ rfl
 |_=>cases e
theorem eE{p:Pos}(hm:X.mg "len"=none)(ha:FP X a fa)(hg:Gl X "len":=by rfl)(hs:starEach [a] X.env=[(false,eval a X.env)]:=by rfl):FP X (.Call (.Name "len" p) [a] [] pos) (e1 dZ fa):=
 fp_1 S_ ha λta pa=>rO (eF.or' Z_ abd) hg hm PySem.boot_len (cH pa dU hs) (he:=hs) (hpl:=rfl)
def jY:D->Option D
 |.lst ds=>if aU ds=true then some (.lst ds) else none
 |.tup ds=>if aU ds=true then some (.lst ds) else none
 |_=>none
theorem aaq:oS X.K (λxs H Q=>∃p ys,xs=[V.ref p]/\(bG X.K H p ys\/b8 X.K H p ys)/\∀l,H l=none->Q (.ref l) (upd H l (.lst ys))) jY:=by
 intro H x d1 f1 d Q r e k;have fin:∀{ds:List D}{xs:List V}{f:List Addr},ay X.K H ds xs f->(if aU ds=true then some (D.lst ds) else none)=some d->∀l,H l=none->Q (.ref l) (upd H l (.lst xs)):=λ{ds xs f} rs e l hl=>by
  obtain⟨hi,e⟩:=ci e;cases e;have hn:=rs.aI hi;subst hn;have s2:aG H (upd H l (.lst xs)):=λb o e=>by rw[aN (cD e hl)];exact e
  exact k _ _ [l] s2 (.lst bL (rs.same s2)) (acd.mpr ⟨(λm=>by cases m),aci⟩) λa m=>by cases aat.mp m;exact hl
 cases d1 with
 |lst ds=>
  obtain⟨a,xs,f,rfl,hq,rs,_⟩:=r.dh;exact⟨a,xs,rfl,.inl hq,fin rs e⟩
 |tup ds=>
  obtain⟨a,xs,rfl,hq,rs⟩:=r.jz;exact⟨a,xs,rfl,.inr hq,fin rs e⟩
 |_=>cases e
theorem gI{p:Pos}(hm:X.mg "list"=none)(ha:FP X a fa)(hg:Gl X "list":=by rfl)(hs:starEach [a] X.env=[(false,eval a X.env)]:=by rfl):FP X (.Call (.Name "list" p) [a] [] pos) (e1 jY fa):=
 fp_1 aaq ha λta pa=>pR JT hg hm (by rfl) (cH pa dU hs) (he:=hs) (hpl:=rfl)
end
def mV:D->D->Option D
 |.fZ ds,.int i=>(bV ds i).bind λd=>if aI d=true then some d else none
 |.lst ds,.int i=>(bV ds i).bind λd=>if aI d=true then some d else none
 |.tup ds,.int i=>(bV ds i).bind λd=>if aI d=true then some d else none
 |_,_=>none
theorem Tw{K:PySem.W.Frag}:fJ K (λx y H Q=>E5 K x y H Q\/Ey K x y H Q\/Cs x y H Q) mV:=by
 intro H x y d1 d2 f1 f2 d Q r1 r2 e k;have key:∀{ds:List D}{xs:List V}{f:List Addr}{i:Int},ay K H ds xs f->((bV ds i).bind λd=>if aI d=true then some d else none)=some d->∃v,bV xs i=some v/\Rep K H d v []:=λ{ds xs f i} rs e=>by
  unfold bV at e ⊢;rw[<- rs.length];exists h,h_ ds.length i,j,e,0;rw[h,acq] at e;rw[acq];exists h2,ds[j]?,d',e,0;rw[h2,acq] at e
  by_cases hi:aI d'=true
  .rw[if_pos hi] at e;cases e;obtain⟨v,f',hv,rv,_⟩:=rs.get h2;have hn:=rv.aI hi;subst hn;exact⟨v,hv,rv⟩
  .rw[aa7 hi] at e;cases e
 unfold mV at e
 split at e
 .obtain⟨a,xs,rfl,hq,rs⟩:=r1.pT;obtain⟨v,hv,rv⟩:=key rs e;exact .inl ⟨a,xs,_,v,rfl,r2.jf.1,hq,hv,k H v (aG.refl H) rv⟩
 .obtain⟨a,xs,f,rfl,hq,rs,_⟩:=r1.dh;obtain⟨v,hv,rv⟩:=key rs e;exact .inl ⟨a,xs,_,v,rfl,r2.jf.1,hq,hv,k H v (aG.refl H) rv⟩
 .obtain⟨a,xs,rfl,hq,rs⟩:=r1.jz;obtain⟨v,hv,rv⟩:=key rs e;exact .inr (.inl ⟨a,xs,_,v,rfl,r2.jf.1,hq,hv,k H v (aG.refl H) rv⟩)
 .cases e
theorem ko{X:Cx}{a b:Expr}{fa fb:EF}{pos:Pos}(ha:FP X a fa)(hb:FP X b fb)(hs:rQ b:=by exact λ_ _=>rfl):FP X (.Subscript a b pos) (e2 mV fa fb):=fp_2 Tw ha hb λ_ _ pa pb=>vZ vp pa pb hs
section
variable{ρ ρ':aE}{i j:Nat}{d d1 d2:D}{t t1 t2:Tag}{xg:D->D->Option D}{zI:D->Option D}{f g fa fb:EF}{tf tg:TF}{sf sg:SF}{o:Out}
theorem KE:eC d ρ=some (d,.own):=rfl
noncomputable def k1(op:D->Option D):Option (D×Tag)->Option (D×Tag)
 |some (d,_)=>(op d).map λd=>(d,.own)
 |none=>none
theorem v9:e1 zI fa ρ=k1 zI (fa ρ):=by unfold e1 k1;cases fa ρ<;>rfl
theorem zD:k1 zI (some (d,t))=(zI d).map λd=>(d,.own):=rfl
noncomputable def k2(op:D->D->Option D):Option (D×Tag)->Option (D×Tag)->Option (D×Tag)
 |some (d1,_),some (d2,_)=>(op d1 d2).map λd=>(d,.own)
 |_,_=>none
theorem nR:e2 xg fa fb ρ=k2 xg (fa ρ) (fb ρ):=by unfold e2 k2;cases fa ρ<;>cases fb ρ<;>rfl
theorem AD:k2 xg (some (d1,t1)) (some (d2,t2))=(xg d1 d2).map λd=>(d,.own):=rfl
noncomputable def kV:Option (D×Tag)->Option Bool
 |some (.bl b,_)=>some b
 |_=>none
theorem uJ:tV fa ρ=Ev.kV (fa ρ):=by
 unfold tV Ev.kV;cases fa ρ with
 |none=>rfl
 |some p=>obtain⟨d,t⟩:=p;cases d<;>rfl
theorem wA(h:tf ρ=some a)(h2:tg ρ=some b):pY tf tg ρ=some (a&&b):=by unfold pY;rw[h];cases a<;>first|exact h2|rfl
theorem mH(h:tf ρ=some a)(h2:tg ρ=some b):jr tf tg ρ=some (a||b):=by unfold jr;rw[h];cases a<;>first|exact h2|rfl
theorem CP:gU tf ρ=(tf ρ).map λb=>!b:=rfl
theorem qg:cP ρ=some (.nx ρ):=rfl
noncomputable def qJ(g:SF):Option Out->Option Out
 |some (.nx ρ)=>g ρ
 |o=>o
theorem jx:bO sf sg ρ=qJ sg (sf ρ):=by
 unfold bO qJ;cases sf ρ with
 |none=>rfl
 |some o=>cases o<;>rfl
theorem oY:qJ sg (some (.nx ρ))=sg ρ:=rfl
noncomputable def zB(sf sg:SF)(ρ:aE):Option Bool->Option Out
 |some true=>sf ρ
 |some false=>sg ρ
 |none=>none
theorem fN:cQ tf sf sg ρ=zB sf sg ρ (tf ρ):=by unfold cQ zB;cases tf ρ<;>rfl
theorem Ue:zB sf sg ρ (some true)=sf ρ:=rfl
theorem uu:zB sf sg ρ (some false)=sg ρ:=rfl
def NF:Option (D×Tag)->Option Out
 |some (d,t)=>if lG t=true then some (.rt d) else if aI d=true then some (.rt d) else none
 |none=>none
theorem BE:fQ fa ρ=NF (fa ρ):=by unfold fQ NF;cases fa ρ<;>rfl
def Oi:Option Slot->Option Out
 |some (some (d,t))=>if lG t=true then some (.rt d) else if aI d=true then some (.rt d) else none
 |_=>none
theorem UZ:nS i ρ=Oi ρ[i]? :=by
 unfold nS Oi;cases ρ[i]? with
 |none=>rfl
 |some s=>cases s<;>rfl
def Kd(i:Nat)(ρ:aE):Option (D×Tag)->Option Out
 |some (d,t)=>some (.nx (jI ρ i d t))
 |none=>none
theorem yP:gD i fa ρ=Kd i ρ (fa ρ):=by unfold gD Kd;cases fa ρ<;>rfl
theorem Fe:aX ρ=some []:=rfl
noncomputable def jZ:Option (D×Tag)->Option (List (D×Tag))->Option (List (D×Tag))
 |some p,some ps=>some (p::ps)
 |_,_=>none
theorem bA:aA fa a ρ=jZ (fa ρ) (a ρ):=by unfold aA jZ;cases fa ρ<;>cases a ρ<;>rfl
theorem EB{p:D×Tag}{ps:List (D×Tag)}:jZ (some p) (some ps)=some (p::ps):=rfl
theorem s_call{F:List D->Option D}:bP F a ρ=(a ρ).bind λps=>(F (ps.map (·.1))).map λd=>(d,.own):=rfl
theorem Im{α β:Type}{f:α->Option β}{a:α}:(some a).bind f=f a:=rfl
theorem EE:p6 a ρ=(a ρ).map λps=>(.tup (ps.map (·.1)),iw ps):=rfl
theorem KG:qN a ρ=(a ρ).map λps=>(.lst (ps.map (·.1)),iw ps):=rfl
variable{m n:Int}
theorem Eh:pG (.int m) (.int n)=some (.int (m+n)):=rfl
theorem xm(h:lQ m n=true):Ez (.int m) (.int n)=some (.int (m*n)):=by show(if lQ m n=true then some (D.int (m*n)) else none)=_;rw[if_pos h]
theorem AE(h:0<n):oMod (.int m) (.int n)=some (.int (m % n)):=by show(if Cw m n=true then some (D.int (m % n)) else none)=_;rw[if_pos (show Cw m n=true from abU h)]
theorem OJ:oLt (.int m) (.int n)=some (.bl (decide (m<n))):=rfl
theorem aak:oLe (.int m) (.int n)=some (.bl (decide (m<=n))):=rfl
theorem Lj:Bf (.int m) (.int n)=some (.bl (decide (n<m))):=rfl
theorem abc:p9 (.int m) (.int n)=some (.bl (decide (n<=m))):=rfl
theorem sQ:dZ (.lst ds)=some (.int ds.length):=rfl
theorem MJ(h:bV ds m=some d)(hi:aI d=true):mV (.lst ds) (.int m)=some d:=by show((bV ds m).bind λd=>if aI d=true then some d else none)=_;rw[h,acq,if_pos hi]
theorem cX{n N:Nat}{b:SF}{ds:List D}(hl:ds.length=n)(h:b (F5 N ds)=some (.rt d)):bM n N b ds=some d:=by unfold bM;rw[if_pos hl,h]
end
noncomputable def dI(ns:List Int):D:=.fZ (ns.map D.int)
section
variable{κ:Type}[DecidableEq κ]
def dW(es:List (κ×D))(k:κ):Option D:=(es.find? λkv=>decide (kv.1=k)).map (·.2)
def putD(es:List (κ×D))(k:κ)(d:D):List (κ×D):=
 if(es.any λkv=>decide (kv.1=k))=true then es.map (λkv=>if kv.1=k then(kv.1,d) else kv) else es++[(k,d)]
theorem xu{K:PySem.W.Frag}{k:κ}:∀{es:List (κ×D)}{aj:List (κ×V)}{fp:List Addr},es.map (·.1)=aj.map (·.1)->ay K H (es.map (·.2)) (aj.map (·.2)) fp->
  (∀d,dW es k=some d->∃v f,g8 aj k=some v/\Rep K H d v f/\∀a∈f,a∈fp)/\(dW es k=none->g8 aj k=none)
 |[],[],_,_,_=>⟨λd e=>(nomatch e),λ_=>rfl⟩
 |[],_::_,_,e,_=>by simp at e
 |_::_,[],_,e,_=>by simp at e
 |(q,d0)::es,(q',v0)::aj,fp,e,r=>by
  simp only[aaz,adH] at e;obtain⟨rfl,e⟩:=e;simp only[aaz] at r;cases r with
  | @cons _ _ _ _ f1 f2 r1 r2=>
   obtain⟨i1,i2⟩:=xu e r2
   by_cases h:q=k
   .have e1:dW ((q,d0)::es) k=some d0:=by unfold dW;rw[acN,abU h];rfl
    refine⟨λd ed=>?_,λen=>?_⟩
    .rw[e1] at ed;cases ed;exact⟨v0,f1,zK h,r1,λa m=>acf _ m⟩
    .rw[e1] at en;cases en
   .have e1:dW ((q,d0)::es) k=dW es k:=by unfold dW;rw[acN,aco h]
    rw[e1,x9 h];exact⟨λd ed=>let⟨v,f,a,b,c⟩:=i1 d ed;⟨v,f,a,b,λx m=>aaQ _ (c x m)⟩,i2⟩
theorem Nx{es:List (κ×D)}{aj:List (κ×V)}{k:κ}(e:es.map (·.1)=aj.map (·.1)):(putD es k d).map (·.1)=(putK aj k v).map (·.1):=by
 have any:(es.any λkv=>decide (kv.1=k))=aj.any λkv=>decide (kv.1=k):=by
  have h1:(es.any λkv=>decide (kv.1=k))=(es.map (·.1)).any λx=>decide (x=k):=by rw[aeR];rfl
  have h2:(aj.any λkv=>decide (kv.1=k))=(aj.map (·.1)).any λx=>decide (x=k):=by rw[aeR];rfl
  rw[h1,h2,e]
 have m1:∀l:List (κ×D),(l.map λkv=>if kv.1=k then(kv.1,d) else kv).map (·.1)=l.map (·.1):=λl=>by
  rw[ac8];congr 1;funext kv;show(if kv.1=k then(kv.1,d) else kv).1=kv.1;split<;>rfl
 have m2:∀l:List (κ×V),(l.map λkv=>if kv.1=k then(kv.1,v) else kv).map (·.1)=l.map (·.1):=λl=>by
  rw[ac8];congr 1;funext kv;show(if kv.1=k then(kv.1,v) else kv).1=kv.1;split<;>rfl
 unfold putD putK;rw[any]
 by_cases h:(aj.any λkv=>decide (kv.1=k))=true
 .rw[if_pos h,if_pos h,m1,m2,e]
 .rw[aa7 h,aa7 h,acF,acF,e];rfl
theorem IZ{K:PySem.W.Frag}{H:Hp}{k:κ}{es:List (κ×D)}{aj:List (κ×V)}(e:es.map (·.1)=aj.map (·.1))(r:ay K H (es.map (·.2)) (aj.map (·.2)) [])(rv:Rep K H d v []):
  ay K H ((putD es k d).map (·.2)) ((putK aj k v).map (·.2)) []:=by
 have any:(es.any λkv=>decide (kv.1=k))=aj.any λkv=>decide (kv.1=k):=by
  have h1:(es.any λkv=>decide (kv.1=k))=(es.map (·.1)).any λx=>decide (x=k):=by rw[aeR];rfl
  have h2:(aj.any λkv=>decide (kv.1=k))=(aj.map (·.1)).any λx=>decide (x=k):=by rw[aeR];rfl
  rw[h1,h2,e]
 have go:∀(es:List (κ×D)) (aj:List (κ×V)),es.map (·.1)=aj.map (·.1)->ay K H (es.map (·.2)) (aj.map (·.2)) []->ay K H ((es.map λkv=>if kv.1=k then(kv.1,d) else kv).map (·.2)) ((aj.map λkv=>if kv.1=k then(kv.1,v) else kv).map (·.2)) []:=by
  intro es
  induction es with
  |nil=>
   intro aj e r;cases aj with
   |nil=>exact .nil
   |cons _ _=>simp at e
  |cons p es ih=>
   intro aj e r;cases aj with
   |nil=>simp at e
   |cons p' aj=>
    obtain⟨q,d0⟩:=p;obtain⟨q',v0⟩:=p';simp only[aaz,adH] at e;obtain⟨rfl,e⟩:=e;simp only[aaz] at r ⊢;generalize hf:([]:List Addr)=fp at r;cases r with
    | @cons _ _ _ _ f1 f2 r1 r2=>
     obtain⟨h1,h2⟩:=adB.mp hf.symm;subst h1 h2;have t:=ih aj e r2
     by_cases h:q=k
     .rw[if_pos h,if_pos h];exact ay.cons (f1:=[]) (f2:=[]) rv t
     .rw[aa7 h,aa7 h];exact ay.cons (f1:=[]) (f2:=[]) r1 t
 unfold putD putK;rw[any]
 by_cases h:(aj.any λkv=>decide (kv.1=k))=true
 .rw[if_pos h,if_pos h];exact go es aj e r
 .rw[aa7 h,aa7 h,acF,acF];exact ay.append r (ay.cons (f1:=[]) (f2:=[]) rv .nil)
end
noncomputable def gJ:D->Option Key
 |.int i=>some (.inl i)
 |.str x=>some (.inr x)
 |_=>none
theorem Rep.key{K:PySem.W.Frag}{H:Hp}{d:D}(r:Rep K H d y fp)(e:gJ d=some k):y=L2.kV k:=by
 cases r<;>cases e<;>rfl
def oA:D->D->Option D
 |.bS es,kd=>match gJ kd with
  |some k=>(dW es k).bind λd=>if aI d=true then some d else none
  |none=>none
 |_,_=>none
def Uh:R2:=λx y H Q=>∃a v,x=.ref a/\iT H a y (some v)/\Q v H
theorem Ql{K:PySem.W.Frag}:fJ K Uh oA:=by
 intro H x y d1 d2 f1 f2 d Q r1 r2 e k;cases r1 with
 | @bS a aj es fp h hk rs=>
  have e:(match gJ d2 with|some k=>(dW es k).bind λd=>if aI d=true then some d else none|none=>none)=some d:=e;exists vq,gJ d2,key,e;dsimp only at e;exists hv,dW es key,d',e,0;rw[hv,acq] at e
  by_cases hi:aI d'=true
  .rw[if_pos hi] at e;cases e;obtain⟨v,f,h1,r,_⟩:=(xu (k:=key) hk rs).1 d hv;have hn:=r.aI hi;subst hn;have ek:=r2.key vq;subst ek;have g:=iT.k (k:=key) h;rw[h1] at g;exact⟨a,v,rfl,g,k H v (aG.refl H) r⟩
  .rw[aa7 hi] at e;cases e
 |_=>cases e
section
variable{X:Cx}{a b c:Expr}{fa fb fc:EF}{pos:Pos}
theorem HR(hu:X.A.units+1<cLine)(ha:FP X a fa)(hb:FP X b fb)(hs:Bu b:=by exact λ_ _=>rfl):FP X (.Subscript a b pos) (e2 oA fa fb):=
 fp_2 Ql ha hb λ_ _ pa pb=>Uc hu pa pb hs
def lA(d1 d2 d3:D):Option D:=match d1,gJ d2 with
 |.bS es,some k=>match dW es k with
  |some d=>if aI d=true then some d else none
  |none=>if aI d3=true then some d3 else none
 |_,_=>none
noncomputable def e3(op:D->D->D->Option D)(fa fb fc:EF):EF:=λρ=>match fa ρ,fb ρ,fc ρ with
 |some (d1,_),some (d2,_),some (d3,_)=>(op d1 d2 d3).map λd=>(d,.own)
 |_,_,_=>none
theorem VG{op:D->D->D->Option D}(e:e3 op fa fb fc ρ=some (d,tg)):∃d1 t1 d2 t2 d3 t3,fa ρ=some (d1,t1)/\fb ρ=some (d2,t2)/\fc ρ=some (d3,t3)/\op d1 d2 d3=some d/\tg=.own:=by
 unfold e3 at e;exists h1,fa ρ,p,e,0;cases h2:fb ρ with
 |none=>rw[h1,h2] at e;cases e
 |some q=>
  cases h3:fc ρ with
  |none=>rw[h1,h2,h3] at e;cases e
  |some r=>
   obtain⟨d1,t1⟩:=p;obtain⟨d2,t2⟩:=q;obtain⟨d3,t3⟩:=r;rw[h1,h2,h3] at e;dsimp only at e;exists h4,op d1 d2 d3,d4,e;cases e;exact⟨d1,t1,d2,t2,d3,t3,rfl,rfl,rfl,h4,rfl⟩
theorem BF{apos cpos:Pos}(hu:X.A.units+1<cLine)(ha:FP X a fa)(hb:FP X b fb)(hc:FP X c fc)(m:M2 X a "get" apos b c cpos:=by exact⟨rfl,rfl,rfl,rfl⟩):FP X (.Call (.Attribute a "get" apos) [b,c] [] cpos) (e3 lA fa fb fc):=by
 obtain⟨ta,pa,sa⟩:=ha;obtain⟨tb,pb,sb⟩:=hb;obtain⟨tc,pc,sc⟩:=hc;exists 21,Pk hu pa pb pc m;obtain⟨d1,t1,d2,t2,d3,t3,h1,h2,h3,h4,rfl⟩:=VG e;refine sa ok h1 λH1 x f1 s1 r1 _=>?_
 cases d1 with
 |bS es=>
  cases r1 with
  | @bS p aj _ fp h hk rs=>
   refine⟨p,rfl,.inl ⟨aj,.inl h⟩,?_⟩;refine sb (ok.same s1) h2 λH2 y f2 s2 r2 _=>?_
   refine sc ((ok.same s1).same s2) h3 λH3 w f3 s3 r3 _=>?_
   unfold lA at h4;exists vq,gJ d2,key,h4;dsimp only at h4;have ek:=r2.key vq;subst ek;have Rh:=s3 _ _ (s2 _ _ h);have g:=iT.k (k:=key) Rh;refine⟨_,g,?_⟩;have NO:=(s1.trans s2).trans s3;obtain⟨i1,i2⟩:=xu hk ((rs.same s2).same s3);cases hv:dW es key with
   |some d'=>
    rw[hv] at h4;dsimp only at h4;obtain⟨hi,h4⟩:=ci h4;cases h4;obtain⟨v,f,e1,r,_⟩:=i1 d hv;have hn:=r.aI hi;subst hn;rw[e1];exact k H3 v [] NO r .nil
   |none=>
    rw[hv] at h4;dsimp only at h4;obtain⟨hi,h4⟩:=ci h4;cases h4;rw[i2 hv];have hn:=r3.aI hi;subst hn;exact k H3 w [] NO r3 .nil
 |_=>cases h4
theorem Bs:FP X (.Dict [] [] pos) (eC (.bS [])):=by
 refine⟨_,Ye,@λH0 S z aq ρ σ H Q d tg ok e k p hp=>?_⟩;cases e;have s2:aG H (upd H p (.dK [])):=λb o e=>by rw[aN (cD e hp)];exact e
 exact k _ _ [p] s2 (.bS bL rfl .nil) ⟨acd.mpr ⟨(λm=>by cases m),aci⟩,λa m=>by cases aat.mp m;exact hp⟩
end
noncomputable def gk(i:Nat):Slot->Slot
 |some (d,.sh o)=>if o.contains i=true then none else some (d,.sh o)
 |s=>s
def cz(ρ:aE)(i:Nat)(d:D):aE:=(ρ.map (gk i)).set i (some (d,.own))
theorem abf(e:gk i s=some (d,t)):s=some (d,t)/\∀o,t=.sh o->i∉o:=by
 cases s with
 |none=>cases e
 |some w=>
  obtain⟨d',t'⟩:=w;cases t' with
  |sh o=>
   have e:(if o.contains i=true then none else some (d',Tag.sh o))=some (d,t):=e
   split at e
   .cases e
   .rename_i hc;cases e;exact⟨rfl,λo' eo m=>by cases eo;exact hc (acU.mpr m)⟩
  |own=>cases e;exact⟨rfl,λo eo=>by cases eo⟩
  |lk=>cases e;exact⟨rfl,λo eo=>by cases eo⟩
theorem Ii(hj:j≠i)(e:(cz ρ i d1)[j]? = some (some (d,t))):ρ[j]? = some (some (d,t))/\(P\/∀o,t=.sh o->i∉o):=by
 unfold cz at e;rw[ads (adx hj),acg] at e;obtain⟨s,e0,e⟩:=acO.mp e;obtain⟨rfl,n⟩:=abf e;exact⟨e0,.inr n⟩
theorem Lc(h:ρ[i]? = some d0):(cz ρ i d1)[i]? = some (some (d1,.own)):=adz (by rw[List.length_map];exact(ace.mp h).1)
theorem IS:(cz ρ i d1).length=ρ.length:=by unfold cz;rw[ad4,List.length_map]
theorem Ok.put{K:PySem.W.Frag}{H0:Hp}{S:List Addr}{z:Addr->Option Nat}{aq:List ck}{ρ:aE}(ok:Ok K H0 S z aq ρ σ H)(h:ρ[i]? = some (some (d0,.own)))
  (hs:σ[i]? = some (some v)) (zz:qV z i .own aT) (im:bH H H') (keep:∀b o,b∉aT->H b=some o->H' b=some o) (r1:Rep K H' d1 v bX) (nd:bX.Nodup) (fr:∀b∈bX,b∈aT\/H b=none):∃z',Ok K H0 S z' aq (cz ρ i d1) σ H':=
 ⟨_,ok.chg (Lc h) hs zz.2 im keep r1 ⟨nd,λa m=>if_pos m⟩ (EG zz.2) (λa m=>⟨fr a m,let⟨o,w,_⟩:=r1.dw a m;⟨o,w⟩⟩) Ii (λ_ _=>rfl) (.inr λn=>n _ h) (IS.trans ok.ln)⟩
theorem Ok.vP{K:PySem.W.Frag}{o o':HO}(ok:Ok K H0 S z aq ρ σ H)(h:ρ[i]? = some (some (d0,.own)))
  (hs:σ[i]? = some (some v)) (zz:qV z i .own fp) (hp:p∈fp) (ho:H p=some o) (mo:iN o=true) (r1:Rep K (upd H p o') d1 v fp):Ok K H0 S z aq (cz ρ i d1) σ (upd H p o'):=
 ok.chg (Lc h) hs zz.2 (bH.upd ho mo) (λb o n e=>by rw[aN λq:b=p=>n (q ▸ hp)];exact e) r1 zz (λa n=>.inr ⟨rfl,n,λ_ n=>n _ h⟩) (λa m=>⟨.inl m,let⟨o,w,_⟩:=r1.dw a m;⟨o,w⟩⟩) Ii (λ_ _=>rfl) (.inr λn=>n _ h) (IS.trans ok.ln)
section
variable{X:Cx}{pos:Pos}
def j9(i:Nat)(fk fv:EF):SF:=λρ=>match fv ρ,ρ[i]?,fk ρ with
 |some (d,_),some (some (.bS es,.own)),some (kd,_)=>match gJ kd with
  |some k=>if(aI d&&aU (es.map (·.2))&&decide (es.length<sizeLine))=true then some (.nx (cz ρ i (.bS (putD es k d)))) else none
  |none=>none
 |_,_,_=>none
theorem sL(i:Nat){x:Str}(hu:X.A.units+1<cLine)(hk:FP X k fk)(hv:FP X v fv)(va:VA X i x:=by walk_at "va")(hs:swapsWith v (some (.Subscript (.Name x p1) k pos')) pos.line X.env=pure false:=by rfl):
  dO X (.Assign [.Subscript (.Name x p1) k pos'] v pos) (j9 i fk fv):=by
 obtain⟨tk,pk,sk⟩:=hk;obtain⟨tv,mJ,sv⟩:=hv;exists 25,WU hu va.pe pk mJ hs;unfold j9 at e
 split at e
 .rename_i d td es kd tkd h1 h2 h3;exists h4,gJ kd,key,e;dsimp only at e;obtain⟨hc,e⟩:=ci e;cases e;obtain⟨BQ,ZT⟩:=(aaF _ _).mp hc;obtain⟨BQ,Eo⟩:=(aaF _ _).mp BQ;have hz:=aaR ZT;refine sv ok h1 λH1 v Ip s1 rv _=>?_
  obtain⟨xv,fp,bu,r,zz⟩:=(ok.same s1).sl i _ _ h2;refine⟨xv,bu,?_⟩;refine sk (ok.same s1) h3 λH2 y R6 s2 rk _=>?_
  have ek:=rk.key h4;subst ek;have r':=r.same s2;cases r' with
  | @bS a aj _ f h D5 rs=>
   have hn:=rs.aI Eo;subst hn;have EX:=rv.aI BQ;subst EX;have hl:aj.length=es.length:=by have:=congrArg List.length D5;simpa using this.symm
   refine⟨a,_,rfl,vM.k h (by rw[hl];exact hz),?_⟩;have im:bH H2 (upd H2 a (.dK (putK aj key v))):=bH.upd h rfl;refine q z σ _ (Ok.vP ((ok.same s1).same s2) h2 bu zz aah h rfl (.bS bL (Nx D5) ?_)) (.refl _ _);exact IZ D5 (rs.frame (λa m=>nomatch m) im) ((rv.same s2).frame (λa m=>nomatch m) im)
 .cases e
end
noncomputable def qM(x:Int):List Int->List Int
 |[]=>[x]
 |y::r=>if x<=y then x::y::r else y::qM x r
def dD:List Int->List Int
 |[]=>[]
 |x::r=>qM x (dD r)
theorem Fg(x:Int):∀l:List Int,(qM x l).Perm (x::l)
 |[]=>.refl _
 |y::r=>by
  unfold qM
  split
  .exact .refl _
  .exact((Fg x r).cons y).trans (.swap x y r)
theorem sy:∀l:List Int,(dD l).Perm l
 |[]=>.refl _
 |x::r=>(Fg x (dD r)).trans ((sy r).cons x)
theorem KH(x:Int):∀{l:List Int},l.Pairwise (·<=·)->(qM x l).Pairwise (·<=·)
 |[],_=>List.pairwise_singleton _ _
 |y::r,h=>by
  obtain⟨h1,h2⟩:=ac1.mp h;unfold qM
  split
  .rename_i hx;exact ac1.mpr ⟨λz m=>(aaG.mp m).elim (λe=>e ▸ hx) λm=>acT hx (h1 z m),h⟩
  .rename_i hx;refine ac1.mpr ⟨λz m=>?_,KH x h2⟩;rcases aaG.mp ((Fg x r).mem_iff.mp m) with e|m
   .rw[e];lia
   .exact h1 z m
theorem EN:∀l:List Int,(dD l).Pairwise (·<=·)
 |[]=>.nil
 |x::r=>KH x (EN r)
theorem Le(p:a.Perm b)(s:a.Pairwise (·<=·)):a=dD b:=by
 have q:=p.trans (sy b).symm;exact q.eq_of_pairwise (λx y _ _ h1 h2=>Int.le_antisymm h1 h2) s (EN b)
theorem yo(l:List Int):(dD l).length=l.length:=(sy l).length_eq
noncomputable def cM:List D->Option (List Int)
 |[]=>some []
 |.int i::r=>(cM r).map (i::·)
 |_=>none
noncomputable def i7{α:Type}:List (Key×α)->Option (List Int)
 |[]=>some []
 |(.inl i,_)::r=>(i7 r).map (i::·)
 |_=>none
theorem oK{K:PySem.W.Frag}:∀{ds:List D}{xs:List V}{fp:List Addr}{ns:List Int},ay K H ds xs fp->cM ds=some ns->xs=ns.map V.int
 |_,_,_,ns,.nil,e=>by cases e;rfl
 |_,_,_,ns,.cons (d:=d) h t,e=>by
  cases d with
  |int i=>
   unfold cM at e;exists q,cM _,r,e;cases e;cases h;rw[oK t q];rfl
  |_=>cases e
theorem rG(ns:List Int):cM (ns.map D.int)=some ns:=by
 induction ns with
 |nil=>rfl
 |cons n r ih=>rw[aaz];unfold cM;rw[ih];rfl
theorem G7{α:Type}:∀{es:List (Key×α)}{ks:List Int},i7 es=some ks->es.map (·.1)=ks.map Sum.inl
 |[],ks,e=>by cases e;rfl
 |(.inl i,_)::r,ks,e=>by
  unfold i7 at e;exists q,i7 r,l,e;cases e;rw[aaz,G7 q];rfl
 |(.inr _,_)::_,_,e=>by cases e
def q_:D->Option D
 |.lst ds=>match cM ds with
  |some ns=>if ns.length<4096 then some (.lst ((dD ns).map D.int)) else none
  |none=>none
 |.bS es=>match i7 es with
  |some ns=>if ns.length<4096 then some (.lst ((dD ns).map D.int)) else none
  |none=>none
 |_=>none
theorem nH{K:PySem.W.Frag}:∀ns:List Int,ay K H (ns.map D.int) (ns.map V.int) []
 |[]=>.nil
 |n::r=>ay.cons (f1:=[]) (f2:=[]) (.int n) (nH r)
theorem Uz{K:PySem.W.Frag}:oS K (MG K) q_:=by
 intro H x d1 f1 d Q r e k;have fin:∀(ns:List Int),(if ns.length<4096 then some (D.lst ((dD ns).map D.int)) else none)=some d->ns.length<4096/\∀l (i9:List Int),H l=none->i9.Perm ns->i9.Pairwise (·<=·)->Q (.ref l) (upd H l (.lst (i9.map V.int))):=λns e=>by
  by_cases h:ns.length<4096
  .rw[if_pos h] at e;cases e;refine⟨h,λl i9 hl p s=>?_⟩;have eq:=Le p s;subst eq;have s2:aG H (upd H l (.lst ((dD ns).map V.int))):=λb o e=>by rw[aN (cD e hl)];exact e
   exact k _ _ [l] s2 (.lst bL (nH _)) (acd.mpr ⟨(λm=>by cases m),aci⟩) λa m=>by cases aat.mp m;exact hl
  .rw[aa7 h] at e;cases e
 cases d1 with
 |lst ds=>
  obtain⟨a,xs,f,rfl,hq,rs,_⟩:=r.dh;have e:(match cM ds with|some ns=>if ns.length<4096 then some (D.lst ((dD ns).map D.int)) else none|none=>none)=some d:=e;cases h:cM ds with
  |none=>rw[h] at e;cases e
  |some ns=>
   rw[h] at e;obtain⟨h1,h2⟩:=fin ns e;have ex:=oK rs h;subst ex;exact⟨a,ns,rfl,by unfold sizeLine;lia,.inr hq,h2⟩
 |bS es=>
  cases r with
  | @bS a aj _ fp h hk rs=>
   have e:(match i7 es with|some ns=>if ns.length<4096 then some (D.lst ((dD ns).map D.int)) else none|none=>none)=some d:=e;cases h':i7 es with
   |none=>rw[h'] at e;cases e
   |some ns=>
    rw[h'] at e;obtain⟨h1,h2⟩:=fin ns e;exact⟨a,ns,rfl,by unfold sizeLine;lia,.inl ⟨aj,h,by rw[<- hk];exact G7 h'⟩,h2⟩
 |_=>cases e
def iQ:List D->Option (List (Key×D))
 |[]=>some []
 |.tup [kd,d]::r=>match gJ kd,iQ r with
  |some k,some ps=>if aI d=true then some ((k,d)::ps) else none
  |_,_=>none
 |_=>none
def uK:D->Option D
 |.lst ds=>(iQ ds).map λps=>.bS (ps.foldl (λm p=>putD m p.1 p.2) [])
 |.tup ds=>(iQ ds).map λps=>.bS (ps.foldl (λm p=>putD m p.1 p.2) [])
 |.bS es=>if aU (es.map (·.2))=true then some (.bS es) else none
 |_=>none
theorem Jm:bootBuiltins "sorted"=some (.builtin "sorted"):=by decide +kernel
section
variable{X:Cx}{a b:Expr}{fa fb:EF}{pos:Pos}
theorem Ni{p:Pos}(hc:X.calm=true)(hm:X.mg "sorted"=none)(ha:FP X a fa)(hg:Gl X "sorted":=by rfl)(hs:starEach [a] X.env=[(false,eval a X.env)]:=by rfl):FP X (.Call (.Name "sorted" p) [a] [] pos) (e1 q_ fa):=
 fp_1 Uz ha λta pa=>rO (Vn hc) hg hm Jm (cH pa dU hs) (he:=hs) (hpl:=rfl)
noncomputable def jb:List Int->Int
 |[]=>0
 |[x]=>x
 |x::r=>if x<=jb r then x else jb r
theorem C5:∀{l:List Int},l≠[]->jb l∈l/\∀x∈l,jb l<=x
 |[x],_=>⟨aah,λy m=>by rw[aat.mp m];exact adL _⟩
 |x::y::r,_=>by
  obtain⟨h1,h2⟩:=C5 (l:=y::r) (by simp);show(if x<=jb (y::r) then x else jb (y::r))∈_/\∀z∈_,(if x<=jb (y::r) then x else jb (y::r))<=z
  by_cases h:x<=jb (y::r)
  .rw[if_pos h];exact⟨aah,λz m=>(aaG.mp m).elim (λe=>by rw[e];exact adL _) λm=>acT h (h2 z m)⟩
  .rw[aa7 h];exact⟨aas _ h1,λz m=>(aaG.mp m).elim (λe=>by rw[e];lia) λm=>h2 z m⟩
def Vs:D->D->Option D
 |.lst ds,z=>match cM ds with
  |some []=>if aI z=true then some z else none
  |some (n::r)=>some (.int (jb (n::r)))
  |none=>none
 |_,_=>none
theorem Ud(hc:X.calm=true)(hm:X.mg "min"=none)(ha:FP X a fa)(hb:FP X b fb)(hg:Gl X "min":=by rfl)(hs:starEach [a] X.env=[(false,eval a X.env)]:=by rfl)
  (h1:backTo pos (starEach [a] X.env)=(false,eval a X.env)::backTo pos (starEach [] X.env):=by rfl) (h2:(backTo pos (starEach [a] X.env)).any (·.1)=false:=by rfl)
  (h3:(backToKw pos (keywordEach [⟨some "default",b,kp⟩] X.env)).all (·.1.isSome)=true:=by rfl) (h4:(backToKw pos (keywordEach [⟨some "default",b,kp⟩] X.env)).any (·.1.isNone)=false:=by rfl)
  (h5:(backToKw pos (keywordEach [⟨some "default",b,kp⟩] X.env)).filterMap (·.1)=[("default":Str)]:=by rfl) :
  FP X (.Call (.Name "min" p) [a] [⟨some "default",b,kp⟩] pos) (e2 Vs fa fb):=by
 obtain⟨ta,pa,sa⟩:=ha;obtain⟨tb,pb,sb⟩:=hb;exists 21,ZH hc hm pa pb hg hs h1 h2 h3 h4 h5;obtain⟨d1,t1,d2,t2,g1,g2,g3,rfl⟩:=xC e;refine sa ok g1 λH1 x f1 s1 r1 _=>?_
 refine sb (ok.same s1) g2 λH2 y f2 s2 r2 _=>?_
 cases d1 with
 |lst ds=>
  obtain⟨l,xs,f,rfl,hq,rs,_⟩:=(r1.same s2).dh;have g3:(match cM ds with|some []=>if aI d2=true then some d2 else none|some (n::r)=>some (.int (jb (n::r)))|none=>none)=some d:=g3;cases h:cM ds with
  |none=>rw[h] at g3;cases g3
  |some ns=>
   rw[h] at g3;have ex:=oK rs h;subst ex;refine⟨l,ns,rfl,hq,?_⟩;cases ns with
   |nil=>
    have g3:=g3
    by_cases hi:aI d2=true
    .rw[if_pos hi] at g3;cases g3;have hn:=r2.aI hi;subst hn;exact .inl ⟨rfl,k H2 y [] (s1.trans s2) r2 .nil⟩
    .rw[aa7 hi] at g3;cases g3
   |cons n r=>
    cases g3;refine .inr ⟨by simp,λm mO gC=>?_⟩;obtain⟨q1,q2⟩:=C5 (l:=n::r) (by simp);have em:=Int.le_antisymm (gC _ q1) (q2 m mO);rw[em];exact k H2 _ [] (s1.trans s2) (.int _) .nil
 |_=>cases g3
end
theorem Ja{K:PySem.W.Frag}:∀{ds:List D}{xs:List V}{fp:List Addr}{ps:List (Key×D)},ay K H ds xs fp->iQ ds=some ps->
  ∃qs:List (Key×V),Paired (λy (q:Key×V)=>∃a,y=.ref a/\b8 K H a [L2.kV q.1,q.2]) xs qs/\ps.map (·.1)=qs.map (·.1)/\ay K H (ps.map (·.2)) (qs.map (·.2)) []
 |_,_,_,ps,.nil,e=>by cases e;exact⟨[],.nil,rfl,.nil⟩
 |_,_,_,ps,.cons (d:=d) (ds:=dr) h t,e=>by
  unfold iQ at e
  split at e
  .rename_i heq;cases heq
  .rename_i kd d' r heq;cases heq;exists h1,gJ kd,k,e,0;cases h2:iQ dr with
   |none=>rw[h1,h2] at e;cases e
   |some pr=>
    rw[h1,h2] at e;dsimp only at e;obtain⟨hi,e⟩:=ci e;cases e;obtain⟨qs,a1,a2,a3⟩:=Ja t h2;obtain⟨a,ys,rfl,hq,rs⟩:=h.jz;cases rs with
    |cons rk rs=>
     cases rs with
     |cons rv rs=>
      cases rs with
      |nil=>
       have ek:=rk.key h1;subst ek;have hn:=rv.aI hi;subst hn;exact⟨(k,_)::qs,.cons ⟨a,rfl,hq⟩ a1,by rw[aaz,aaz,a2],ay.cons (f1:=[]) (f2:=[]) rv a3⟩
  .cases e
theorem J_{K:PySem.W.Frag}:∀{ps:List (Key×D)}{qs:List (Key×V)}{es:List (Key×D)}{aj:List (Key×V)},ps.map (·.1)=qs.map (·.1)->ay K H (ps.map (·.2)) (qs.map (·.2)) []->es.map (·.1)=aj.map (·.1)->ay K H (es.map (·.2)) (aj.map (·.2)) []->
  (ps.foldl (λm p=>putD m p.1 p.2) es).map (·.1)=(qs.foldl (λm q=>putK m q.1 q.2) aj).map (·.1)/\ay K H ((ps.foldl (λm p=>putD m p.1 p.2) es).map (·.2)) ((qs.foldl (λm q=>putK m q.1 q.2) aj).map (·.2)) []
 |[],[],_,_,_,_,h1,h2=>⟨h1,h2⟩
 |[],_::_,_,_,e,_,_,_=>by simp at e
 |_::_,[],_,_,e,_,_,_=>by simp at e
 |(k,d)::ps,(k',v)::qs,es,aj,e,r,h1,h2=>by
  simp only[aaz,adH] at e;obtain⟨rfl,e⟩:=e;simp only[aaz] at r;generalize hf:([]:List Addr)=fp at r;cases r with
  | @cons _ _ _ _ f1 f2 r1 r2=>
   obtain⟨z1,z2⟩:=adB.mp hf.symm;subst z1 z2;rw[adj,adj];exact J_ e r2 (Nx h1) (IZ h1 h2 r1)
theorem RZ{K:PySem.W.Frag}:oS K (λxs H Q=>Dj K xs H Q\/∃a aj,xs=[V.ref a]/\H a=some (.dK aj)/\∀l,H l=none->Q (.ref l) (upd H l (.dK aj))) uK:=by
 intro H x d1 f1 d Q r e k;have fresh:∀{o:HO}{l:Addr},H l=none->aG H (upd H l o):=λhl b o e=>by rw[aN (cD e hl)];exact e
 have qy:∀l:Addr,([l]:List Addr).Nodup:=λl=>acd.mpr ⟨(λm=>by cases m),aci⟩
 have seq:∀{ds:List D}{xs:List V}{f:List Addr}{p:Addr},ay K H ds xs f->(bG K H p xs\/b8 K H p xs)->((iQ ds).map λps=>D.bS (ps.foldl (λm p=>putD m p.1 p.2) []))=some d->Dj K [.ref p] H Q:=λ{ds xs f p} rs hq e=>by
  exists h,iQ ds,ps,e;cases e;obtain⟨qs,a1,a2,a3⟩:=Ja rs h;refine⟨p,xs,qs,rfl,hq,a1,λl hl=>?_⟩;obtain⟨b1,b2⟩:=J_ (es:=[]) (aj:=[]) a2 a3 rfl .nil;exact k _ _ [l] (fresh hl) (.bS bL b1 (b2.same (fresh hl))) (qy l) λa m=>by cases aat.mp m;exact hl
 cases d1 with
 |lst ds=>
  obtain⟨a,xs,f,rfl,hq,rs,_⟩:=r.dh;exact .inl (seq rs (.inl hq) e)
 |tup ds=>
  obtain⟨a,xs,rfl,hq,rs⟩:=r.jz;exact .inl (seq rs (.inr hq) e)
 |bS es=>
  cases r with
  | @bS a aj _ fp h hk rs=>
   have e:(if aU (es.map (·.2))=true then some (D.bS es) else none)=some d:=e;obtain⟨hi,e⟩:=ci e;cases e;have hn:=rs.aI hi;subst hn;exact .inr ⟨a,aj,rfl,h,λl hl=>k _ _ [l] (fresh hl) (.bS bL hk (rs.same (fresh hl))) (qy l) λa m=>by cases aat.mp m;exact hl⟩
 |_=>cases e
section
variable{X:Cx}{a b:Expr}{fa fb:EF}{pos:Pos}
theorem Tz:eF X (.type "dict") (λxs H Q=>∃a aj,xs=[V.ref a]/\H a=some (.dK aj)/\∀l,H l=none->Q (.ref l) (upd H l (.dK aj))):=by
 intro af s σ H xs us Q I r h;obtain⟨a,aj,rfl,ha,q⟩:=h;obtain⟨u,rfl,ru⟩:=vals1 r;cases ru;exact YJ I (.inl ha) λp s' hp I'=>⟨.ref p,_,I',rfl,q p hp⟩
theorem ya{p:Pos}(hc:X.calm=true)(hm:X.mg "dict"=none)(ha:FP X a fa)(hg:Gl X "dict":=by rfl)(hs:starEach [a] X.env=[(false,eval a X.env)]:=by rfl):FP X (.Call (.Name "dict" p) [a] [] pos) (e1 uK fa):=
 fp_1 RZ ha λta pa=>pR (eF.or' (Ot hc) Tz) hg hm (show bootBuiltins "dict"=some (.type "dict") by decide +kernel) (cH pa dU hs) (he:=hs) (hpl:=rfl)
def sr:D->Option D
 |.lst ds=>if aU ds=true then some (.tup ds) else none
 |.tup ds=>if aU ds=true then some (.tup ds) else none
 |_=>none
theorem OI:oS X.K (λxs H Q=>∃p ys,xs=[V.ref p]/\((bG X.K H p ys/\∀l,H l=none->Q (.ref l) (upd H l (.tup ys)))\/(b8 X.K H p ys/\Q (.ref p) H))) sr:=by
 intro H x d1 f1 d Q r e k;cases d1 with
 |lst ds=>
  obtain⟨a,xs,f,rfl,hq,rs,_⟩:=r.dh;have e:(if aU ds=true then some (D.tup ds) else none)=some d:=e;obtain⟨hi,e⟩:=ci e;cases e;have hn:=rs.aI hi;subst hn;refine⟨a,xs,rfl,.inl ⟨hq,λl hl=>?_⟩⟩;have s2:aG H (upd H l (.tup xs)):=λb o e=>by rw[aN (cD e hl)];exact e
  exact k _ _ [] s2 (.tup (b8.of bL) (rs.same s2)) aci λa m=>nomatch m
 |tup ds=>
  obtain⟨a,xs,rfl,hq,rs⟩:=r.jz;have e:(if aU ds=true then some (D.tup ds) else none)=some d:=e;obtain⟨hi,e⟩:=ci e;cases e;have hn:=rs.aI hi;subst hn;exact⟨a,xs,rfl,.inr ⟨hq,k H _ [] (aG.refl H) (.tup hq rs) aci λa m=>nomatch m⟩⟩
 |_=>cases e
theorem z_{p:Pos}(hm:X.mg "tuple"=none)(ha:FP X a fa)(hg:Gl X "tuple":=by rfl)(hs:starEach [a] X.env=[(false,eval a X.env)]:=by rfl):FP X (.Call (.Name "tuple" p) [a] [] pos) (e1 sr fa):=
 fp_1 OI ha λta pa=>pR Vi hg hm (show bootBuiltins "tuple"=some (.type "tuple") by decide +kernel) (cH pa dU hs) (he:=hs) (hpl:=rfl)
end
section
variable{X:Cx}{af:List (Addr×Obj)}{σ:St}{H:Hp}{s:Shared}
def vK(N:List Str)(rX sc:Scope)(M:List Str)(js:List (Option Nat)):Bool:=
 (sc.kind == .function)&&sc.names.all (λy=>y.2 != .cell)&&sc.names.all (λy=>if y.2 == .local then sc.names.lookup y.1==some .local else true)&&lM N sc M js&&(frees sc).all (λx=>rX.names.lookup x==some .cell||rX.names.lookup x==some .free)&&decide M.Nodup
theorem Yv(h1:X.N=N)(h2:X.env.scope=rX)(h3:X.env.kindOf=λx=>rX.names.lookup x)(h:vK N rX sc M js=true):m7 X M js sc:=by
 unfold vK at h;obtain⟨h,a6⟩:=(aaF _ _).mp h;obtain⟨h,a5⟩:=(aaF _ _).mp h;obtain⟨h,a4⟩:=(aaF _ _).mp h;obtain⟨h,a3⟩:=(aaF _ _).mp h;obtain⟨a1,a2⟩:=(aaF _ _).mp h;refine⟨?_,λy hy=>?_,λy hy hl=>?_,?_,λx hx=>?_,aaR a6⟩
 .cases hk:sc.kind<;>rw[hk] at a1<;>first|rfl|exact absurd a1 (by decide)
 .have:=acX.mp a2 y hy;intro z;rw[z] at this;exact absurd this (by decide)
 .have:=acX.mp a3 y hy;rw[hl] at this;have this:=this;cases q:sc.names.lookup y.1 with
  |none=>rw[q] at this;exact absurd this (by decide)
  |some k=>rw[q] at this;cases k<;>first|rfl|exact absurd this (by decide)
 .rw[h1];exact a4
 .have:=acX.mp a5 x hx;rw[h3];dsimp only;cases q:rX.names.lookup x with
  |none=>rw[q] at this;exact absurd this (by decide)
  |some k=>rw[q] at this;cases k<;>first|exact .inl rfl|exact .inr rfl|exact absurd this (by decide)
end
theorem cB.back(g:cB z H1 t fp)(s:aG H H1):cB z H t fp:=by
 cases t with
 |sh o=>exact g
 |own=>exact⟨g.1,λa m=>s.free (g.2 a m)⟩
 |lk=>exact⟨g.1,λa m=>s.free (g.2 a m)⟩
section
variable{X:Cx}{a b:Expr}{fa fb:EF}{pos:Pos}
noncomputable def nQ(fa fb:EF):EF:=λρ=>match fa ρ with
 |some (.bl true,_)=>fb ρ
 |some (.bl false,_)=>some (.bl false,.own)
 |_=>none
noncomputable def AI(fa fb:EF):EF:=λρ=>match fa ρ with
 |some (.bl true,_)=>some (.bl true,.own)
 |some (.bl false,_)=>fb ρ
 |_=>none
noncomputable def ET:D->Option D
 |.bl b=>some (.bl (!b))
 |_=>none
theorem uS{op}(h:FP X a fa):FP X (.BoolOp op [a] pos) fa:=let⟨t,p,q⟩:=h;⟨t,Rf p,q⟩
theorem rZ{rest:List Expr}(ha:FP X a fa)(hb:FP X (.BoolOp .And (b::rest) pos) fb):FP X (.BoolOp .And (a::b::rest) pos) (nQ fa fb):=by
 obtain⟨t,p,q⟩:=ha;obtain⟨t',p',q'⟩:=hb;exists 21,aa9 p p';unfold nQ at e
 split at e
 .rename_i tt h;refine q ok h λH1 v fp s1 r1 _=>?_
  cases r1;refine⟨true,rfl,?_⟩;rw[if_pos rfl];exact q' (ok.same s1) e λH2 v fp s2 r2 g2=>k H2 v fp (s1.trans s2) r2 (g2.back s1)
 .rename_i tt h;cases e;refine q ok h λH1 v fp s1 r1 _=>?_
  cases r1;refine⟨false,rfl,?_⟩;rw[aa7 abI];exact k H1 _ [] s1 (.bl _) .nil
 .cases e
theorem Zy{rest:List Expr}(ha:FP X a fa)(hb:FP X (.BoolOp .Or (b::rest) pos) fb):FP X (.BoolOp .Or (a::b::rest) pos) (AI fa fb):=by
 obtain⟨t,p,q⟩:=ha;obtain⟨t',p',q'⟩:=hb;exists 21,abP p p';unfold AI at e
 split at e
 .rename_i tt h;cases e;refine q ok h λH1 v fp s1 r1 _=>?_
  cases r1;refine⟨true,rfl,?_⟩;rw[if_pos rfl];exact k H1 _ [] s1 (.bl _) .nil
 .rename_i tt h;refine q ok h λH1 v fp s1 r1 _=>?_
  cases r1;refine⟨false,rfl,?_⟩;rw[aa7 abI];exact q' (ok.same s1) e λH2 v fp s2 r2 g2=>k H2 v fp (s1.trans s2) r2 (g2.back s1)
 .cases e
theorem Ig(ha:FP X a fa):FP X (.UnaryOp .Not a pos) (e1 ET fa):=by
 obtain⟨t,p,q⟩:=ha;exists 21,OW p;obtain⟨d1,t1,h1,h2,rfl⟩:=nG e;refine q ok h1 λH1 v fp s1 r1 _=>?_
 cases r1<;>cases h2
 exact⟨_,rfl,k H1 _ [] s1 (.bl _) .nil⟩
def uP:D->D->Option D
 |.lst ds,.lst es=>if(aU ds&&aU es&&decide (ds.length+es.length<=sizeLine))=true then some (.lst (ds++es)) else none
 |_,_=>none
theorem Eu(ha:FP X a fa)(hb:FP X b fb):FP X (.BinOp a .Add b pos) (e2 uP fa fb):=by
 obtain⟨ta,pa,sa⟩:=ha;obtain⟨tb,pb,sb⟩:=hb;exists 20,xw Xe pa pb;obtain⟨d1,t1,d2,t2,e1,jQ,e3,rfl⟩:=xC e;refine sa ok e1 λH1 x f1 s1 r1 _=>?_
 refine sb (ok.same s1) jQ λH2 y f2 s2 r2 _=>?_
 unfold uP at e3
 split at e3
 .rename_i ds es;obtain⟨hc,e3⟩:=ci e3;cases e3;obtain⟨c1,c3⟩:=(aaF _ _).mp hc;obtain⟨c1,c2⟩:=(aaF _ _).mp c1;have r1:=r1.same s2;cases r1 with
  | @lst p xs _ f h rs=>
   cases r2 with
   | @lst p' ys _ f' h' uc=>
    have n1:=rs.aI c1;have n2:=uc.aI c2;subst n1 n2;refine⟨p,p',xs,ys,rfl,rfl,h,h',by rw[<- rs.length,<- uc.length];exact aaR c3,λl hl=>?_⟩;have s3:aG H2 (upd H2 l (.lst (xs++ys))):=λb o e=>by rw[aN (cD e hl)];exact e
    have rr:ay X.K H2 (ds++es) (xs++ys) []:=ay.append rs uc;refine q _ _ [l] ((s1.trans s2).trans s3) (.lst bL (rr.same s3)) ⟨acd.mpr ⟨(λm=>by cases m),aci⟩,λa m=>?_⟩;cases aat.mp m;exact(s1.trans s2).free hl
 .cases e3
noncomputable def xG:D->Option String
 |.int _=>some "int"
 |.bl _=>some "bool"
 |.str _=>some "str"
 |.aH=>some "NoneType"
 |.lst _=>some "list"
 |.bS _=>some "dict"
 |_=>none
def gW(T:String)(d:D):Option D:=match xG d with
 |some t=>some (.bl (t==T||(t == "bool"&&T == "int")))
 |none=>none
def pC(T:String):Prop:=∀(K:PySem.W.Frag) (t:String),t∈["int","bool","str","NoneType","list","dict"]->PySem.W.kitOne K (.type t) (.type T)=some (t==T||(t == "bool"&&T == "int"))
theorem Ky:pC "int":=by
 intro K t m;simp only[aaG,acH,ad9] at m;rcases m with rfl|rfl|rfl|rfl|rfl|rfl<;>rfl
theorem Ji:pC "bool":=by
 intro K t m;simp only[aaG,acH,ad9] at m;rcases m with rfl|rfl|rfl|rfl|rfl|rfl<;>rfl
theorem Cy:pC "list":=by
 intro K t m;simp only[aaG,acH,ad9] at m;rcases m with rfl|rfl|rfl|rfl|rfl|rfl<;>rfl
theorem Ko(T:String):eF X (.builtin "isinstance") (λxs H Q=>∃x t b,xs=[x,V.ty T]/\gY X.K H x t/\PySem.W.kitOne X.K t (.type T)=some b/\Q (.bl b) H):=by
 intro af s σ H xs us Q I r h;obtain⟨x,t,bb,rfl,ty,e,q⟩:=h;obtain⟨u,w',rfl,ru,fH⟩:=vals2 r;cases fH;exact aaI I ru ty e λtk=>⟨.bl bb,H,I.tok tk,rfl,q⟩
theorem Rep.ty{K:PySem.W.Frag}{H:Hp}{d:D}{v:V}{fp:List Addr}{t:String}(r:Rep K H d v fp)(e:xG d=some t):gY K H v (.type t)/\t∈["int","bool","str","NoneType","list","dict"]:=by
 cases r with
 |aH=>cases e;exact⟨.aH,by decide⟩
 |bl b=>cases e;exact⟨.bl b,by decide⟩
 |int i=>cases e;exact⟨.int i,by decide⟩
 |str x=>cases e;exact⟨.str x,by decide⟩
 |lst h _=>cases e;exact⟨.lst h,by decide⟩
 |bS h _ _=>cases e;exact⟨.dK h,by decide⟩
 |tup _ _=>cases e
 |yE _ _=>cases e
 |qG _ _ _=>cases e
 |ins _ _ _ _=>cases e
 |exc _ _ _=>cases e
theorem lO{T:String}{x:Str}(hT:pC T)(hm:X.mg "isinstance"=none)(Fo:X.mg x=none)(ha:FP X a fa)(Ct:bootBuiltins x=some (.type T):=by decide +kernel)(hg:Gl X "isinstance":=by rfl)(EC:Gl X x:=by rfl)(hn:x≠"__name__":=by decide)(kC:(x==("__debug__":Str))=false:=by decide)
  (hs:starEach [a,.Name x p2] X.env=[(false,eval a X.env),(false,eval (.Name x p2) X.env)]:=by rfl) (hpl:(backTo pos (starEach [.Name x p2] X.env)).any (·.1)=false:=by rfl):FP X (.Call (.Name "isinstance" p) [a,.Name x p2] [] pos) (e1 (gW T) fa):=by
 obtain⟨ta,pa,sa⟩:=ha;have bY:starEach [.Name x p2] X.env=[(false,eval (.Name x p2) X.env)]:=rfl;exists 21,rO (Ko T) hg hm (show bootBuiltins "isinstance"=some (.builtin "isinstance") by decide +kernel) (cH pa (cH (Ik (v:=.ty T) EC Fo Ct rfl hn kC) dU) (by rw[hs,bY])) (he:=by rw[hs,bY]) (hpl:=hpl);obtain⟨d1,t1,h1,h2,rfl⟩:=nG e;refine sa ok h1 λH1 v fp s1 r1 _=>?_
 unfold gW at h2;exists ht,xG d1,t,h2;cases h2;obtain⟨ty,mem⟩:=r1.ty ht;exact⟨v,_,_,rfl,ty,hT X.K t mem,k H1 _ [] s1 (.bl _) .nil⟩
end
end L2.Ev
namespace L2.Ev
open PySem
section
variable{ρ:aE}{fa fb fc:EF}{d d1 d2 d3:D}{t t1 t2 t3:Tag}{Hj:D->D->D->Option D}{tf tg:TF}
noncomputable def k3(op:D->D->D->Option D):Option (D×Tag)->Option (D×Tag)->Option (D×Tag)->Option (D×Tag)
 |some (d1,_),some (d2,_),some (d3,_)=>(op d1 d2 d3).map λd=>(d,.own)
 |_,_,_=>none
theorem Ds:e3 Hj fa fb fc ρ=k3 Hj (fa ρ) (fb ρ) (fc ρ):=by unfold e3 k3;cases fa ρ<;>cases fb ρ<;>cases fc ρ<;>rfl
noncomputable def Ei(fb:EF)(ρ:aE):Option (D×Tag)->Option (D×Tag)
 |some (.bl true,_)=>fb ρ
 |some (.bl false,_)=>some (.bl false,.own)
 |_=>none
theorem F8:nQ fa fb ρ=Ei fb ρ (fa ρ):=by
 unfold nQ Ei;cases fa ρ with
 |none=>rfl
 |some w=>obtain⟨d,t⟩:=w;cases d<;>first|rfl|(rename_i b;cases b<;>rfl)
theorem HU:Ei fb ρ (some (.bl true,t))=fb ρ:=rfl
end
section
variable{g:GF}{t:Tag}{f:SF}
theorem Gr(P:Nat->aE->Prop):∀{ds:List D}{ρ:aE}{n:Nat},P n ρ->(∀j ρ d,ds[j]? = some d->P (n+j) ρ->∃aD aR,g d t ρ=some aD/\(f aD=some (.nx aR)\/f aD=some (.ct aR))/\P (n+j+1) aR)->
  ∃ρ',cg g t f ds ρ=some (.nx ρ')/\P (n+ds.length) ρ'
 |[],ρ,n,h,_=>⟨ρ,rfl,h⟩
 |d::ds,ρ,n,h,hs=>by
  obtain⟨aD,aR,h1,h2,h3⟩:=hs 0 ρ d rfl h;obtain⟨ρ',h4,h5⟩:=Gr P h3 λj ρ d hd hp=>by
   have:=hs (j+1) ρ d hd (by rw[show n+(j+1)=n+1+j by lia];exact hp);rw[show n+(j+1)+1=n+1+j+1 by lia] at this;exact this
  refine⟨ρ',?_,by rw[acj,show n+(ds.length+1)=n+1+ds.length by lia];exact h5⟩;unfold cg;rw[h1];rcases h2 with h2|h2<;>(dsimp only;rw[h2];exact h4)
theorem Dt(hi:it ρ=some (ds,t))(h:cg g (lB t) f ds (mS (kH (jT t) ρ) ρ)=some (.nx ρ')):gz it g f ρ=some (.nx (qo (kH (jT t) ρ) ρ')):=by unfold gz;rw[hi];dsimp only;rw[h]
theorem HB(hi:it ρ=some (ds,t))(h:cg g (lB t) f ds (mS (kH (jT t) ρ) ρ)=some (.rt r)):gz it g f ρ=some (.rt r):=by unfold gz;rw[hi];dsimp only;rw[h]
theorem pW(hi:it ρ=some (ds,.own))(h:cg g (.sh []) f ds ρ=some (.nx ρ')):gz it g f ρ=some (.nx ρ'):=Dt hi h
theorem We(hi:it ρ=some (ds,.own))(h:cg g (.sh []) f ds ρ=some (.rt r)):gz it g f ρ=some (.rt r):=HB hi h
theorem RP(h:e ρ=some (.int n,t))(hs:small n=true):n_ e ρ=some ((List.range n.toNat).map λi:Nat=>D.int (0+(i:Int)),.own):=by unfold n_;rw[h];dsimp only;rw[if_pos hs]
theorem UQ(h:((List.range n).map λi:Nat=>D.int (0+(i:Int)))[j]? = some d):d=.int j/\j<n:=by
 rw[acg] at h;cases e:(List.range n)[j]? with
 |none=>rw[e] at h;cases h
 |some x=>
  rw[e] at h;obtain⟨hl,hx⟩:=ace.mp e;rw[List.getElem_range] at hx;rw[acZ] at hl;subst hx;refine⟨?_,hl⟩;have:=ab8 h;rw[<- this];exact congrArg D.int (Int.zero_add _)
theorem k_(h:e ρ=some (.lst ds,t)):gj e ρ=some (ds,t):=by unfold gj;rw[h]
theorem mK{k:D->Option D}(hi:it ρ=some (ds,t))(hl:ds.length<sizeLine)(h:∀d∈ds,ie g tt te (iR js ρ) d=some (k d)):
  iE js it g tt te ρ=some (.lst (ds.filterMap k),.own):=by unfold iE;rw[hi];dsimp only;rw[if_pos hl,Li h];rfl
theorem DG(h1:g d (.sh []) ρ=some aD)(h2:tt aD=some false):ie g tt te ρ d=some none:=by unfold ie;rw[h1];dsimp only;rw[h2]
theorem nh(h1:g d (.sh []) ρ=some aD)(h2:tt aD=some true)(h3:te aD=some (e,.own)):ie g tt te ρ d=some (some e):=by unfold ie;rw[h1];dsimp only;rw[h2];dsimp only;rw[h3];rfl
theorem xV(h1:g d (.sh []) ρ=some aD)(h2:tt aD=some true)(h3:te aD=some (e,tg))(hi:aI e=true):ie g tt te ρ d=some (some e):=by
 unfold ie;rw[h1];dsimp only;rw[h2];dsimp only;rw[h3];dsimp only
 by_cases ho:lG tg=true
 .rw[if_pos ho]
 .rw[aa7 ho,if_pos hi]
end
noncomputable def kI(p:Int×Int):Key×D:=(Sum.inl p.1,.int p.2)
def aS(es:List (Int×Int)):D:=.bS (es.map kI)
noncomputable def bC(es:List (Int×Int))(k:Int):Option Int:=(es.find? λp=>decide (p.1=k)).map (·.2)
noncomputable def dX(es:List (Int×Int))(k v:Int):List (Int×Int):=if(es.any λp=>decide (p.1=k))=true then es.map (λp=>if p.1=k then(p.1,v) else p) else es++[(k,v)]
theorem rH:((Sum.inl a:Key)=Sum.inl k)↔a=k:=⟨λh=>Sum.inl.inj h,λh=>by rw[h]⟩
theorem IC(es:List (Int×Int))(k:Int):dW (es.map kI) (Sum.inl k:Key)=(bC es k).map D.int:=by
 unfold dW bC
 induction es with
 |nil=>rfl
 |cons p r ih=>
  rw[aaz,acN,acN]
  by_cases h:p.1=k
  .rw[abU (show(kI p).1=Sum.inl k from rH.mpr h),abU h];rfl
  .rw[aco (show ¬(kI p).1=Sum.inl k from λe=>h (rH.mp e)),aco h];exact ih
theorem IU(es:List (Int×Int))(k v:Int):putD (es.map kI) (Sum.inl k:Key) (.int v)=(dX es k v).map kI:=by
 unfold putD dX;have e:((es.map kI).any λkv=>decide (kv.1=(Sum.inl k:Key)))=es.any λp=>decide (p.1=k):=by
  rw[aeR]
  congr 1
  funext p
  exact decide_eq_decide.mpr rH
 rw[e]
 by_cases h:(es.any λp=>decide (p.1=k))=true
 .rw[if_pos h,if_pos h,ac8,ac8]
  congr 1
  funext p
  show(if(kI p).1=Sum.inl k then((kI p).1,D.int v) else kI p)=kI (if p.1=k then(p.1,v) else p)
  by_cases hp:p.1=k
  .rw[if_pos hp,if_pos (show(kI p).1=Sum.inl k from rH.mpr hp)];rfl
  .rw[aa7 hp,aa7 (show ¬(kI p).1=Sum.inl k from λe=>hp (rH.mp e))]
 .rw[aa7 h,aa7 h,acF];rfl
theorem Ay:lA (aS es) (.int k) (.int z)=some (.int ((bC es k).getD z)):=by
 show(match dW (es.map kI) (Sum.inl k:Key) with|some d=>if aI d=true then some d else none|none=>if aI (.int z)=true then some (.int z) else none)=_;rw[IC];cases bC es k<;>rfl
theorem P_(h:bC es k=some v):oA (aS es) (.int k)=some (.int v):=by
 show((dW (es.map kI) (Sum.inl k:Key)).bind λd=>if aI d=true then some d else none)=_;rw[IC,h];rfl
theorem KL:∀es:List (Int×Int),i7 (es.map kI)=some (es.map (·.1))
 |[]=>rfl
 |p::r=>by rw[aaz];show(i7 (r.map kI)).map (p.1::·)=_;rw[KL r];rfl
theorem Zx(h:es.length<4096):q_ (aS es)=some (.lst ((dD (es.map (·.1))).map D.int)):=by
 show(match i7 (es.map kI) with|some ns=>if ns.length<4096 then some (D.lst ((dD ns).map D.int)) else none|none=>none)=_;rw[KL];dsimp only;rw[if_pos (by rw[List.length_map];exact h)]
theorem Bv:∀es:List (Int×Int),aU ((es.map kI).map (·.2))=true
 |[]=>rfl
 |p::r=>by rw[aaz,aaz];unfold aU;rw[Bv r];rfl
theorem abi:uK (aS es)=some (aS es):=by
 show(if aU ((es.map kI).map (·.2))=true then some (D.bS (es.map kI)) else none)=_;rw[if_pos (Bv es)];rfl
theorem yc(h1:fv ρ=some (.int v,t1))(h2:ρ[i]? = some (some (aS es,.own)))(h3:fk ρ=some (.int k,t2))(hl:es.length<sizeLine):
  j9 i fk fv ρ=some (.nx (cz ρ i (aS (dX es k v)))):=by
 unfold j9;rw[h1,h2,h3];unfold aS;dsimp only[gJ];rw[if_pos (by rw[Bv,List.length_map,abU hl];rfl),IU]
theorem Ba(es:List (Int×Int))(k v j:Int):bC (dX es k v) j=if j=k then some v else bC es j:=by
 unfold dX
 by_cases h:(es.any λp=>decide (p.1=k))=true
 .rw[if_pos h];unfold bC
  induction es with
  |nil=>cases h
  |cons p r ih=>
   rw[aaz,acN,acN]
   by_cases hp:p.1=k
   .rw[if_pos hp];dsimp only
    by_cases hj:j=k
    .rw[abU (hp.trans hj.symm),if_pos hj];rfl
    .have gq:¬p.1=j:=λe=>hj (e.symm.trans hp)
     rw[aco gq,aa7 hj];dsimp only
     by_cases hr:(r.any λp=>decide (p.1=k))=true
     .rw[ih hr,aa7 hj]
     .congr 1
      have:r.map (λp=>if p.1=k then(p.1,v) else p)=r:=by
       conv=>rhs;rw[<- List.map_id r]
       refine List.map_congr_left λq m=>?_
       rw[aa7 λe=>hr (adU.mpr ⟨q,m,abU e⟩)];rfl
      rw[this]
   .rw[aa7 hp];have hr:(r.any λp=>decide (p.1=k))=true:=by
     rw[aet,aco hp] at h;exact h
    by_cases hj:p.1=j
    .rw[abU hj,aa7 λe=>hp (hj.trans e)]
    .rw[aco hj];exact ih hr
 .rw[aa7 h];unfold bC;rw[List.find?_append]
  by_cases hj:j=k
  .have:(es.find? λp=>decide (p.1=j))=none:=aeH.mpr λq m hq=>h (adU.mpr ⟨q,m,by rw[<- hj];exact hq⟩)
   rw[this,if_pos hj,hj];simp
  .rw[aa7 hj];have:([(k,v)].find? λp=>decide (p.1=j))=none:=aeH.mpr λq m hq=>hj (by cases aat.mp m;exact(aaR hq).symm)
   rw[this,Option.or_none]
theorem IG(es:List (Int×Int))(k v:Int):(dX es k v).map (·.1)=if k∈es.map (·.1) then es.map (·.1) else es.map (·.1)++[k]:=by
 unfold dX
 by_cases h:(es.any λp=>decide (p.1=k))=true
 .have hm:k∈es.map (·.1):=by
   obtain⟨p,m,hp⟩:=adU.mp h;exact acu.mpr ⟨p,m,aaR hp⟩
  rw[if_pos h,if_pos hm,ac8];refine List.map_congr_left λp m=>?_
  show(if p.1=k then(p.1,v) else p).1=p.1
  split<;>rfl
 .have hm:k∉es.map (·.1):=λm=>by
   obtain⟨p,m,hp⟩:=acu.mp m;exact h (adU.mpr ⟨p,m,abU hp⟩)
  rw[aa7 h,aa7 hm,acF];rfl
theorem TU(h:(es.map (·.1)).Nodup):((dX es k v).map (·.1)).Nodup:=by
 rw[IG]
 by_cases hm:k∈es.map (·.1)
 .rw[if_pos hm];exact h
 .rw[aa7 hm];exact acv.mpr ⟨h,acd.mpr ⟨(λm=>by cases m),aci⟩,λa ha b hb e=>hm (by cases aat.mp hb;exact e ▸ ha)⟩
theorem DW:(dX es k v).length<=es.length+1:=by
 have:=congrArg List.length (IG es k v);rw[List.length_map] at this;rw[this]
 split
 .rw[List.length_map];lia
 .rw[ack,List.length_map];exact aa2 _
theorem FL:(∃v,bC es k=some v)↔k∈es.map (·.1):=by
 unfold bC;constructor
 .rintro⟨v,h⟩
  cases e:es.find? λp=>decide (p.1=k) with
  |none=>rw[e] at h;cases h
  |some p=>exact acu.mpr ⟨p,List.mem_of_find?_eq_some e,aaR (List.find?_some e :)⟩
 .intro h;obtain⟨p,m,hp⟩:=acu.mp h;cases e:es.find? λp=>decide (p.1=k) with
  |none=>exact absurd (abU hp) (aeH.mp e p m)
  |some q=>exact⟨q.2,rfl⟩
def mQ(ps:List (Int×Int)):List (Int×Int):=ps.foldl (λm p=>dX m p.1 p.2) []
theorem foldI:∀(ps m:List (Int×Int)),(ps.map kI).foldl (λm p=>putD m p.1 p.2) (m.map kI)=(ps.foldl (λm p=>dX m p.1 p.2) m).map kI
 |[],_=>rfl
 |p::r,m=>by rw[aaz,adj,adj];show(r.map kI).foldl _ (putD (m.map kI) (Sum.inl p.1) (.int p.2))=_;rw[IU];exact foldI r _
noncomputable def dP(p:Int×Int):D:=.tup [.int p.1,.int p.2]
theorem JL:∀ps:List (Int×Int),iQ (ps.map dP)=some (ps.map kI)
 |[]=>rfl
 |p::r=>by
  rw[aaz];show(match gJ (.int p.1),iQ (r.map dP) with|some k,some ps=>if aI (.int p.2)=true then some ((k,D.int p.2)::ps) else none|_,_=>none)=_;rw[JL r];rfl
theorem WE:uK (.lst (ps.map dP))=some (aS (mQ ps)):=by
 show(iQ (ps.map dP)).map _=_;rw[JL];show some (D.bS ((ps.map kI).foldl (λm p=>putD m p.1 p.2) []))=_;rw[show([]:List (Key×D))=([]:List (Int×Int)).map kI from rfl,foldI];rfl
theorem aae(hn:(ps.map (·.1)).Nodup)(k:Int):bC (mQ ps) k=bC ps k:=by
 have go:∀(ps m:List (Int×Int)),(ps.map (·.1)).Nodup->bC (ps.foldl (λm p=>dX m p.1 p.2) m) k=(bC ps k).or (bC m k):=by
  intro ps
  induction ps with
  |nil=>intro m _;rfl
  |cons p r ih=>
   intro m h;rw[aaz] at h;obtain⟨h1,h2⟩:=acd.mp h;rw[adj,ih _ h2,Ba]
   by_cases hk:k=p.1
   .have hr:bC r k=none:=by
     cases e:bC r k with
     |none=>rfl
     |some v=>exact absurd (FL.mp ⟨v,e⟩) (hk ▸ h1)
    rw[hr,if_pos hk];unfold bC;rw[acN,abU hk.symm];rfl
   .rw[aa7 hk];have:bC (p::r) k=bC r k:=by unfold bC;rw[acN,aco λe=>hk e.symm]
    rw[this]
 unfold mQ;rw[go ps [] hn];cases bC ps k<;>rfl
open PySem PySem.Spec PyProof.Rows
def c8(fa fb:EF):EF:=λρ=>match fa ρ,fb ρ with
 |some (.lst ds,.sh o),some (.int i,_)=>(bV ds i).map λd=>(d,.sh o)
 |_,_=>none
theorem aaP(e:c8 fa fb ρ=some (d,tg)):∃ds o i t2,fa ρ=some (.lst ds,.sh o)/\fb ρ=some (.int i,t2)/\bV ds i=some d/\tg=.sh o:=by
 unfold c8 at e
 split at e
 .rename_i ds o i t2 h1 h2;cases h3:bV ds i with
  |none=>rw[h3] at e;cases e
  |some d3=>
   rw[h3] at e;cases e;exact⟨ds,o,i,t2,h1,h2,h3,rfl⟩
 .cases e
theorem g9{X:Cx}{a b:Expr}{fa fb:EF}{pos:Pos}(ha:FP X a fa)(hb:FP X b fb)(hs:rQ b:=by exact λ_ _=>rfl):FP X (.Subscript a b pos) (c8 fa fb):=by
 obtain⟨ta,pa,sa⟩:=ha;obtain⟨tb,pb,sb⟩:=hb;exists 20,vZ vp pa pb hs;obtain⟨ds,o,i,t2,e1,jQ,e3,rfl⟩:=aaP e;refine sa ok e1 λH1 x f1 s1 r1 g1=>?_
 refine sb (ok.same s1) jQ λH2 y f2 s2 r2 _=>?_
 have r1:=r1.same s2;obtain⟨p,xs,f,rfl,hq,rs,hf⟩:=r1.dh;cases r2;unfold bV at e3;cases h:h_ ds.length i with
 |none=>rw[h] at e3;cases e3
 |some j=>
  rw[h,acq] at e3;obtain⟨v,f',hv,rv,hm⟩:=rs.get e3;refine .inl ⟨p,xs,i,v,rfl,rfl,hq,?_,q H2 v f' (s1.trans s2) rv λa m=>g1 a ?_⟩
  .unfold bV;rw[<- rs.length,h,acq];exact hv
  .exact hf a (hm a m)
mutual
noncomputable def py:D->PyData
 |.bl b=>.bool b
 |.int i=>.int i
 |.str x=>.str x
 |.tup ds=>.tuple (i8 ds)
 |.lst ds=>.list (i8 ds)
 |.fZ ds=>.list (i8 ds)
 |_=>.none
noncomputable def i8:List D->List PyData
 |[]=>[]
 |d::ds=>py d::i8 ds
end
mutual
noncomputable def fq:D->Bool
 |.aH|.bl _|.int _|.str _=>true
 |.tup ds|.lst ds|.fZ ds=>kX ds
 |_=>false
noncomputable def kX:List D->Bool
 |[]=>true
 |d::ds=>fq d&&kX ds
end
section
variable{X:Cx}{af:List (Addr×Obj)}{σ:St}{H:Hp}{s:Shared}
mutual
theorem AA(I:Inv X af σ H s):∀{d:D}{v:V}{f:List Addr}{u:Value},Rep X.K H d v f->RelV v u->fq d=true->∃as,Reads s.heap u (py d) as
 |.aH,_,_,_,r,q,_=>by cases r;cases q;exact⟨_,by unfold py;exact .none⟩
 |.bl b,_,_,_,r,q,_=>by cases r;cases q;exact⟨_,by unfold py;exact .bool b⟩
 |.int i,_,_,_,r,q,_=>by cases r;obtain⟨t,rfl⟩:=q;exact⟨_,by unfold py;exact .int i t⟩
 |.str x,_,_,_,r,q,_=>by cases r;obtain⟨t,rfl⟩:=q;exact⟨_,by unfold py;exact .str x t⟩
 |.tup ds,_,_,_,r,q,e=>by
  obtain⟨a,xs,rfl,hq,rs⟩:=r.jz;cases q;obtain⟨us,v1,⟨o,h1,h2,n,h3⟩,_⟩:=I.tuple hq;obtain⟨as,ra⟩:=zH I rs v1 (by unfold fq at e;exact e);exact⟨_,by unfold py;exact .tuple h1 h2 h3 (by simpa using ra)⟩
 |.lst ds,_,_,_,r,q,e=>by
  obtain⟨a,xs,f,rfl,hq,rs,_⟩:=r.dh;cases q;obtain⟨us,v1,⟨o,n,h1,h2,_,h3⟩,_⟩:=I.list hq;obtain⟨as,ra⟩:=zH I rs v1 (by unfold fq at e;exact e);exact⟨_,by unfold py;exact .list h1 h2 h3 (by simpa using ra)⟩
 |.fZ ds,_,_,_,r,q,e=>by
  obtain⟨a,xs,rfl,hq,rs⟩:=r.pT;cases q;obtain⟨us,v1,⟨o,n,h1,h2,_,h3⟩,_⟩:=I.list hq;obtain⟨as,ra⟩:=zH I rs v1 (by unfold fq at e;exact e);exact⟨_,by unfold py;exact .list h1 h2 h3 (by simpa using ra)⟩
 |.bS _,_,_,_,_,_,e=>by unfold fq at e;cases e
 |.qG _,_,_,_,_,_,e=>by unfold fq at e;cases e
 |.ins _ _,_,_,_,_,_,e=>by unfold fq at e;cases e
 |.exc _,_,_,_,_,_,e=>by unfold fq at e;cases e
theorem zH(I:Inv X af σ H s):∀{ds:List D}{xs:List V}{f:List Addr}{us:List Value},ay X.K H ds xs f->aK xs us->kX ds=true->∃as,ReadsAll s.heap us (i8 ds) as
 |[],_,_,_,r,q,_=>by cases r;cases q;exact⟨_,by unfold i8;exact .nil⟩
 |d::ds,_,_,_,r,q,e=>by
  cases r with
  |cons r1 r2=>
   cases q with
   |cons q1 q2=>
    unfold kX at e;obtain⟨e1,e2⟩:=(aaF _ _).mp e;obtain⟨as,h1⟩:=AA I r1 q1 e1;obtain⟨bs,h2⟩:=zH I r2 q2 e2;exact⟨_,by unfold i8;exact .cons h1 h2⟩
end
end
theorem C3:∀r:List Int,i8 (r.map D.int)=r.map PyData.int
 |[]=>rfl
 |i::r=>by rw[aaz,aaz];unfold i8;rw[C3 r];unfold py;rfl
theorem EJ:∀r:List Int,kX (r.map D.int)=true
 |[]=>rfl
 |i::r=>by rw[aaz];unfold kX;rw[EJ r];rfl
theorem depthAll_ints:∀r:List Int,PyData.depthAll (r.map PyData.int)=0
 |[]=>rfl
 |i::r=>by rw[aaz];simp only[PyData.depthAll,PyData.depth,depthAll_ints r];rfl
def mw(d:D):Bool:=fq d&&(py d).canLay0&&decide ((py d).depth<=40)
def vN(d1 d2:D):Option D:=if(mw d1&&mw d2)=true then some (.bl (PyData.eqv (py d1) (py d2))) else none
def KD(K:PySem.W.Frag)(neg:Bool):R2:=λx y H Q=>∃d1 d2 f1 f2,Rep K H d1 x f1/\Rep K H d2 y f2/\mw d1=true/\mw d2=true/\Q (.bl (if neg=true then !PyData.eqv (py d1) (py d2) else PyData.eqv (py d1) (py d2))) H
section
variable{X:Cx}{a b:Expr}{fa fb:EF}{pos:Pos}
theorem lay_of(h:mw d=true):fq d=true/\(py d).canLay0=true/\(py d).depth<=40:=by
 unfold mw at h;obtain⟨h,h3⟩:=(aaF _ _).mp h;obtain⟨h1,h2⟩:=(aaF _ _).mp h;exact⟨h1,h2,aaR h3⟩
theorem P8(hu:X.A.units+64<cLine):cG X (compareOp .Eq) (KD X.K false):=by
 intro af s σ H x y v u Q I rx ry h;obtain⟨d1,d2,f1,f2,r1,r2,l1,l2,q⟩:=h;obtain⟨a1,a2,a3⟩:=lay_of l1;obtain⟨b1,b2,b3⟩:=lay_of l2;obtain⟨as,ra⟩:=AA I r1 rx a1;obtain⟨bs,rb⟩:=AA I r2 ry b1;exact SeqAt.compareEq_reads ra rb a2 b2 (by omega) ⟨.bl _,H,I,rfl,q⟩
theorem XO{K:PySem.W.Frag}:fJ K (KD K false) vN:=by
 intro H x y d1 d2 f1 f2 d Q r1 r2 e k;unfold vN at e;obtain⟨hc,e⟩:=ci e;cases e;obtain⟨c1,c2⟩:=(aaF _ _).mp hc;exact⟨d1,d2,f1,f2,r1,r2,c1,c2,k H _ (aG.refl H) (.bl _)⟩
theorem aaj(hu:X.A.units+64<cLine)(ha:FP X a fa)(hb:FP X b fb):FP X (.Compare a [.Eq] [b] pos) (e2 vN fa fb):=pB (P8 hu) XO ha hb (jj _)
end
theorem aa1{d:D}(h:mw d=true):vN d d=some (.bl true):=by unfold vN;rw[h,Bool.and_self,if_pos rfl,SeqAt.eqv_refl _ (lay_of h).2.1]
theorem DL:∀r:List Int,PyData.canLayAll0 (r.map PyData.int)=true
 |[]=>rfl
 |i::r=>by rw[aaz];simp only[PyData.canLayAll0,PyData.canLay0,DL r,Bool.and_self]
end L2.Ev
namespace L2.Ev
open PySem PySem.Spec PyProof.Rows
theorem Gn:pC "tuple":=by
 intro K t m;simp only[aaG,acH,ad9] at m;rcases m with rfl|rfl|rfl|rfl|rfl|rfl<;>rfl
theorem Kv:pC "str":=by
 intro K t m;simp only[aaG,acH,ad9] at m;rcases m with rfl|rfl|rfl|rfl|rfl|rfl<;>rfl
section
variable{X:Cx}{a b c:Expr}{fa fb:EF}{tc:TF}{pos:Pos}
noncomputable def Wj(i j:Int):Bool:=decide (0<=j)&&decide (j<=1000000)&&decide (i.natAbs<2 ^ 64)
def xj:=sX Wj λi j=>i ^ j.toNat
theorem tW(ha:FP X a fa)(hb:FP X b fb):FP X (.BinOp a .Pow b pos) (e2 xj fa fb):=qq ZA (xX λi j h=>by
 obtain⟨h,h3⟩:=(aaF _ _).mp h;obtain⟨h1,h2⟩:=(aaF _ _).mp h;exact⟨aaR h1,aaR h2,aaR h3⟩) ha hb
def sV(neg:Bool):D->D->Option D
 |.int i,.lst ds=>(cM ds).map λns=>.bl (if neg=true then !(ns.any (· == i)) else ns.any (· == i))
 |_,_=>none
theorem Pe(i:Int)(ns:List Int):zP (.int i) (ns.map V.int)=ns.any (· == i):=by
 unfold zP;rw[aeR];rfl
theorem Y4(ns:List Int):(ns.map V.int).all lN=true:=by
 rw[List.all_map];exact acX.mpr λ_ _=>rfl
theorem N7{K:PySem.W.Frag}:fJ K (Ep K neg) (sV neg):=by
 intro H x y d1 d2 f1 f2 d Q r1 r2 e k;cases d1 with
 |int i=>
  cases d2 with
  |lst ds=>
   have e:((cM ds).map λns=>D.bl (if neg=true then !(ns.any (· == i)) else ns.any (· == i)))=some d:=e;exists h,cM ds,ns,e;cases e;obtain⟨p,xs,f,rfl,hq,rs,_⟩:=r2.dh;cases r1;have ex:=oK rs h;subst ex;refine⟨p,_,rfl,.inl hq,rfl,Y4 ns,?_⟩;rw[Pe];exact k H _ (aG.refl H) (.bl _)
  |_=>cases e
 |_=>cases e
theorem Vg(ha:FP X a fa)(hb:FP X b fb)(hm:behindInMarks .NotIn b=false:=by rfl):FT X (.Compare a [.NotIn] [b] pos) (tV (e2 (sV true) fa fb)):=ow YQ N7 ha hb hm
theorem Qo(ha:FP X a fa)(hb:FP X b fb)(hm:behindInMarks .In b=false:=by rfl):FP X (.Compare a [.In] [b] pos) (e2 (sV false) fa fb):=pB Vw N7 ha hb hm
theorem Mr{neg:Bool}{i:Int}{ns:List Int}:sV neg (.int i) (.lst (ns.map D.int))=some (.bl (if neg=true then !(ns.any (· == i)) else ns.any (· == i))):=by
 show((cM (ns.map D.int)).map _)=_;rw[rG];rfl
def qC(i:Nat)(fv:EF):SF:=λρ=>match fv ρ,ρ[i]? with
 |some (d,_),some (some (.lst ds,.own))=>if(aI d&&aU ds&&decide (ds.length<sizeLine))=true then some (.nx (cz ρ i (.lst (ds++[d])))) else none
 |_,_=>none
theorem wm(i:Nat){x:Str}(hv:FP X a fv)(va:VA X i x:=by walk_at "va")(hs:starEach [a] X.env=[(false,eval a X.env)]:=by rfl)
  (ia:attributeBase (.Name x p1) "append" X.env (eval (.Name x p1) X.env)=eval (.Name x p1) X.env:=by rfl)
  (j6:((backTo p3 (starEach [a] X.env)).all (λx=>!x.1)&&(backToKw p3 (keywordEach [] X.env)).all (λx=>x.1.isSome)&&decide ([a].length+([]:List Keyword).length+(if([]:List Keyword).isEmpty then 0 else 1)<30))=true:=by rfl)
  (ir:(p2.endLine==p3.line)=true:=by rfl) (gZ:swapsWith (.Call (.Attribute (.Name x p1) "append" p2) [a] [] p3) none pos.line X.env=pure false:=by rfl) :
  dO X (.Expr (.Call (.Attribute (.Name x p1) "append" p2) [a] [] p3) pos) (qC i fv):=by
 obtain⟨tv,mJ,sv⟩:=hv;exists 25,uI (BJ PySem.F.plainAttrs_list PySem.F.slot_list_append PySem.F.type_list_append y9 va.pe (cH mJ dU hs) ia j6 ir hs rfl) gZ;unfold qC at e
 split at e
 .rename_i d td ds g1 g2;obtain⟨hc,e⟩:=ci e;cases e;obtain⟨c1,c3⟩:=(aaF _ _).mp hc;obtain⟨c1,c2⟩:=(aaF _ _).mp c1;obtain⟨xv,fp,bu,r,zz⟩:=ok.sl i _ _ g2;refine⟨xv,bu,?_⟩;obtain⟨l,xs,f,rfl,hq,_,_⟩:=r.dh;refine⟨.inl ⟨rfl,_,hq⟩,?_⟩;refine sv ok g1 λH1 v Ip s1 rv _=>?_
  have r':=r.same s1;have bD:=ok.same s1;generalize hw:(V.ref l)=w at r' bu;cases r' with
  | @lst a' ys _ f' h rs=>
   cases hw;have hn:=rs.aI c2;subst hn;have EX:=rv.aI c1;subst EX;refine⟨_,ys,v,rfl,rfl,h,by rw[<- rs.length];exact aaR c3,?_⟩;have im:bH H1 (upd H1 l (.lst (ys++[v]))):=bH.upd h rfl;refine q z σ _ (Ok.vP bD g2 bu zz aah h rfl (.lst bL ?_)) (.refl _ _);exact ay.append (rs.frame (λa m=>nomatch m) im) (ay.cons (f1:=[]) (f2:=[]) (rv.frame (λa m=>nomatch m) im) .nil)
 .cases e
theorem Dh(h1:fv ρ=some (.int n,t1))(h2:ρ[i]? = some (some (.lst (ns.map D.int),.own)))(hl:ns.length<sizeLine):
  qC i fv ρ=some (.nx (cz ρ i (.lst ((ns++[n]).map D.int)))):=by
 unfold qC;rw[h1,h2];dsimp only;have DF:∀ns:List Int,aU (ns.map D.int)=true:=λns=>by
  induction ns with
  |nil=>rfl
  |cons n r ih=>rw[aaz];unfold aU;rw[ih];rfl
 rw[if_pos (by rw[DF,List.length_map,abU hl];rfl),acF];rfl
def vH(i:Nat):SF:=λρ=>match ρ[i]? with
 |some (some (.lst ds,.own))=>if aU ds=true then some (.nx (cz ρ i (.lst []))) else none
 |_=>none
theorem SS(i:Nat){x:Str}{p1 p2 p3:Pos}(va:VA X i x:=by walk_at "va")
  (ia:attributeBase (.Name x p1) "clear" X.env (eval (.Name x p1) X.env)=eval (.Name x p1) X.env:=by rfl)
  (ir:(p2.endLine==p3.line)=true:=by rfl) (gZ:swapsWith (.Call (.Attribute (.Name x p1) "clear" p2) [] [] p3) none pos.line X.env=pure false:=by rfl) :
  dO X (.Expr (.Call (.Attribute (.Name x p1) "clear" p2) [] [] p3) pos) (vH i):=by
 exists 25,uI (NH PySem.F.plainAttrs_list PySem.F.slot_list_clear PySem.F.type_list_clear abV va.pe ia ir) gZ;unfold vH at e
 split at e
 .rename_i ds g2
  by_cases hc:aU ds=true
  .rw[if_pos hc] at e;cases e;obtain⟨xv,fp,bu,r,zz⟩:=ok.sl i _ _ g2;refine⟨xv,bu,?_⟩;cases r with
   | @lst l ys _ f' h rs=>
    have hn:=rs.aI hc;subst hn;refine⟨.inl ⟨rfl,_,bG.of h⟩,l,ys,rfl,rfl,h,?_⟩;exact q z σ _ (Ok.vP ok g2 bu zz aah h rfl (.lst bL .nil)) (.refl _ _)
  .rw[aa7 hc] at e;cases e
 .cases e
def cutD(ds:List D)(lo hi:Option Int):List D:=(ds.drop (HT.eV ds.length 0 lo)).take (HT.eV ds.length ds.length hi-HT.eV ds.length 0 lo)
def wz(lo hi:Option Int):D->Option D
 |.lst ds=>if aU ds=true then some (.lst (cutD ds lo hi)) else none
 |.fZ ds=>if aU ds=true then some (.lst (cutD ds lo hi)) else none
 |_=>none
theorem ay.xY{K:PySem.W.Frag}:∀{ds:List D}{xs:List V} (n:Nat),ay K H ds xs []->ay K H (ds.drop n) (xs.drop n) []
 |ds,xs,0,r=>r
 |[],_,n+1,r=>by cases r;exact .nil
 |d::ds,xs,n+1,r=>by
  generalize hf:([]:List Addr)=fp at r;cases r with
  | @cons _ _ _ _ f1 f2 r1 r2=>
   obtain⟨z1,z2⟩:=adB.mp hf.symm;subst z1 z2;exact ay.xY n r2
theorem ay.wB{K:PySem.W.Frag}:∀{ds:List D}{xs:List V} (n:Nat),ay K H ds xs []->ay K H (ds.take n) (xs.take n) []
 |ds,xs,0,r=>.nil
 |[],_,n+1,r=>by cases r;exact .nil
 |d::ds,xs,n+1,r=>by
  generalize hf:([]:List Addr)=fp at r;cases r with
  | @cons _ _ _ _ f1 f2 r1 r2=>
   obtain⟨z1,z2⟩:=adB.mp hf.symm;subst z1 z2;exact ay.cons (f1:=[]) (f2:=[]) r1 (ay.wB n r2)
def zY(X:Cx)(e:Option Expr)(v:Option Int):Prop:=∃t,PO X e t/\∀σ H Q,Q v H->t σ H Q
theorem MX:zY X none none:=⟨_,Cu,λ_ _ _ q=>q⟩
theorem JR{i:Int}{j p}:zY X (some (.Constant (.int i) j p)) (some i):=⟨_,DM AZ,λ_ _ _ q=>⟨i,rfl,q⟩⟩
theorem HQ{lo hi:Option Expr}{l h:Option Int}{p2:Pos}(hl:zY X lo l)(hh:zY X hi h)(ha:FP X a fa):FP X (.Subscript a (.Slice lo hi none p2) pos) (e1 (wz l h) fa):=by
 obtain⟨t,p,q⟩:=ha;obtain⟨tl,pl,ql⟩:=hl;obtain⟨th,ph,qh⟩:=hh;exists 21,E4 Au p pl ph;obtain⟨d1,t1,g1,g2,rfl⟩:=nG e;refine q ok g1 λH1 x f1 s1 r1 _=>?_
 refine ql σ H1 _ (qh σ H1 _ ?_);have fin:∀{ds:List D}{xs:List V}{f:List Addr}{w:Addr},ay X.K H1 ds xs f->bG X.K H1 w xs->(if aU ds=true then some (D.lst (cutD ds l h)) else none)=some d->ND X.K (.ref w) l h H1 Q:=λ{ds xs f w} rs hq e=>by
  obtain⟨hi,e⟩:=ci e;cases e;have hn:=rs.aI hi;subst hn;refine⟨w,xs,rfl,hq,λp hp=>?_⟩;have s2:aG H1 (upd H1 p (.lst (jA xs l h))):=λb o e=>by rw[aN (cD e hp)];exact e
  have rr:ay X.K H1 (cutD ds l h) (jA xs l h) []:=by
   unfold cutD jA;rw[rs.length];exact ay.wB _ (ay.xY _ rs)
  refine k _ _ [p] (s1.trans s2) (.lst bL (rr.same s2)) ⟨acd.mpr ⟨(λm=>by cases m),aci⟩,λa m=>?_⟩;cases aat.mp m;exact s1.free hp
 cases d1 with
 |lst ds=>
  obtain⟨w,xs,f,rfl,hq,rs,_⟩:=r1.dh;exact fin rs hq g2
 |fZ ds=>
  obtain⟨w,xs,rfl,hq,rs⟩:=r1.pT;exact fin rs hq g2
 |_=>cases g2
end
end L2.Ev
namespace L2
open PySem PySem.Spec PyProof.Rows
namespace Rv
theorem slot_next:Slot "list_reverseiterator" "__next__" "list_reverseiterator.__next__":=.of (owner:="list_reverseiterator") (n:="__next__") (by rw[adi,acE];kernel_rfl) (by decide +kernel) (by decide +kernel) (by decide +kernel) (by first|exact .inl (by decide +kernel)|exact .inr (by decide +kernel)) (by rw[adN];kernel_rfl)
theorem JA:Slot "list_reverseiterator" "__iter__" "list_reverseiterator.__iter__":=.of (owner:="list_reverseiterator") (n:="__iter__") (by rw[adi,acE];kernel_rfl) (by decide +kernel) (by decide +kernel) (by decide +kernel) (by first|exact .inl (by decide +kernel)|exact .inr (by decide +kernel)) (by rw[adN];kernel_rfl)
theorem entry_next:entryFor table "list_reverseiterator.__next__"=some Builtin.«list_reverseiterator.__next__»:=entryFor_of_tree (by kernel_rfl)
theorem Si:entryFor table "list_reverseiterator.__iter__"=some Builtin.«dict_keyiterator.__iter__»:=entryFor_alias (id':="dict_keyiterator.__iter__") (by kernel_rfl) rfl (by decide +kernel) (by kernel_rfl)
theorem args_next(a:Value):argsOk "list_reverseiterator.__next__" ⟨[a],[]⟩:=by unfold argsOk;kernel_rfl
theorem ZC(a:Value):argsOk "list_reverseiterator.__iter__" ⟨[a],[]⟩:=by unfold argsOk;kernel_rfl
theorem WY:typeLookup (.type "list_reverseiterator") "__len__"=pure none:=by rw[adi,acE];kernel_rfl
theorem aan:typeLookup (.type "list_reverseiterator") "__length_hint__"=pure (some (.builtin "list_reverseiterator.__length_hint__")):=by rw[adi,acE];kernel_rfl
noncomputable abbrev kR(h:Heap)(it l:Addr)(i:Int):Prop:=h.get? it=some { cls:=.type "list_reverseiterator",data:=.fields #[.ref l,rawInt i] }
section
variable{prog:Program}{w:World}{A:Around}{E:Value->Shared->Prop}{s:Shared}{it l:Addr}{items:Array Value}
theorem next_item{i:Nat}(h1:kR s.heap it l i)(hl:s.heap.IsList l items)(hx:items[i]? = some x)
  (hQ:∀h',kR h' it l ((i:Int)-1)->Heap.SameBut it s.heap h'->Q (some x) { s with heap:=h' }):wpAny (model prog w) A (pyNext (.ref it)) Q E s:=by
 obtain⟨ol,Al,_,nl,zo⟩:=hl;have ty:s.TypeIs (.ref it) "list_reverseiterator":=⟨_,h1,rfl⟩
 unfold pyNext;refine aac (adV (adm (name:=Str.ofString "__next__") ty slot_next (adk slot_next ty entry_next ?_ (args_next _))));show wpAny _ _ (field (.ref it) 1 >>= λv=>_) _ _ s;refine aac (aeJ h1 rfl rfl ?_);show wpAny _ _ (if((i:Int)<0) then _ else _) _ _ s;rw[aa7 (by lia)];refine aac (aeJ h1 rfl rfl ?_);refine aac (adZ Al zo ?_);simp only[ad3,hx];refine aac (wpAny_setField_rec h1 (by simp) λh' e1 sb=>aaC ⟨x,rfl,aaC (hQ h' ?_ sb)⟩);exact e1
theorem next_end(hh:A.handled=none)(h1:kR s.heap it l (-1))(hQ:∀h',Heap.ExtBut it s.heap h'->Q none { s with heap:=h' }):wpAny (model prog w) A (pyNext (.ref it)) Q E s:=by
 have ty:s.TypeIs (.ref it) "list_reverseiterator":=⟨_,h1,rfl⟩
 unfold pyNext;refine aac (adV (adm (name:=Str.ofString "__next__") ty slot_next (adk slot_next ty entry_next ?_ (args_next _))));show wpAny _ _ (field (.ref it) 1 >>= λv=>_) _ _ s;refine aac (aeJ h1 rfl rfl ?_);show wpAny _ _ (if((-1:Int)<0) then _ else _) _ _ s;rw[if_pos (by omega)];refine aac (ady ?_);refine aac ?_;unfold Builtin.SmallTypes.stopIteration;refine aac ?_;unfold newExc newTuple;refine aac (acK ?_ (by size_fits));refine aac (aeK (by first|(simp only[firstArgMember];rfl)|rfl) ?_);refine acK ?_ (by size_fits);unfold raiseNew;refine aac (wpAny_handled ?_);have pV:=hh;rw[pV];refine aac (aaC (wpAny_throw ?_));refine aac (adJ (T:="StopIteration") ⟨_,abb _ rfl,rfl⟩ isSubtype_stop (aaC (hQ _ ?_)));exact λb o _ e=>aad _ (aad _ e)
theorem walks(hh:A.handled=none)(gq:l≠it):Walks prog w A it [it,l] [it] items.size (λi v=>items[items.size-1-i]? = some v) (λi h=>kR h it l ((items.size:Int)-1-(i:Nat))/\h.IsList l items) where
 sub:=λb hb=>by simp at hb;simp[hb]
 frame:=λ_ _ _ st hk=>⟨hk it (by simp) _ st.1,st.2.at λo e=>hk l (by simp) o e⟩
 item:=λi s Q E hi st hQ=>by
  have e1:kR s.heap it l ((items.size-1-i:Nat):Int):=by
   have:=st.1;rw[show((items.size-1-i:Nat):Int)=(items.size:Int)-1-(i:Nat) by omega];exact this
  have hx:items[items.size-1-i]? = some items[items.size-1-i]:=by simp
  refine next_item e1 st.2 hx λh' r' sb=>hQ _ h' s.toks hx ⟨?_,st.2.extBut sb.extBut gq⟩ λb o hb e=>sb.extBut b o (λz=>hb (by simp[z])) e
  have:=r';rw[show((items.size-1-i:Nat):Int)-1=(items.size:Int)-1-((i+1:Nat):Int) by omega] at this;exact this
 done:=λs Q E st hQ=>by
  have e1:kR s.heap it l (-1):=by
   have:=st.1;rw[show(items.size:Int)-1-((items.size:Nat):Int)=-1 by omega] at this;exact this
  exact next_end hh e1 λh' eb=>hQ h' s.toks λb o hb e=>eb b o (λz=>hb (by simp[z])) e
 self:=λi s Q E st hQ=>by
  have ty:s.TypeIs (.ref it) "list_reverseiterator":=⟨_,st.1,rfl⟩
  refine wpAny_pyIter_slot ty JA (adk JA ty Si ?_ (ZC _));exact aaC ⟨_,rfl,"list_reverseiterator",_,ty,slot_next.lookup,hQ⟩
theorem hint{Q:Bool->Shared->Prop}(h1:kR s.heap it l i)(h:Q false s):wpAny (model prog w) A (Builtin.List.listLengthHint (.ref it)) Q E s:=by
 have ty:s.TypeIs (.ref it) "list_reverseiterator":=⟨_,h1,rfl⟩
 unfold Builtin.List.listLengthHint;refine aac (ael ty WY ?_);refine aac (ael ty aan ?_);generalize j4:("list_reverseiterator.__length_hint__":String)=nX
 (fail_if_success (clear j4 nX))
 wp_delta
 rw[show splitId nX=some ("list_reverseiterator","__length_hint__") from by subst j4;decide +kernel];subst j4;refine aac (adJ (b:=true) ty (by rw[adN];kernel_rfl) ?_);refine aem (λz=>absurd z (by decide)) λ_=>?_
 refine aem (λ_=>?_) λz=>absurd (by decide +kernel) z
 exact aem (λz=>absurd z (by decide +kernel)) λ_=>aaC h
theorem extend{R:Result->Shared->Prop}(hh:A.handled=none)(h1:kR s.heap it l ((items.size:Int)-1))(hl:s.heap.IsList l items)(gq:l≠it)(hz:items.size<=sizeLine)(S:Addr)(ZV:S≠l)(IQ:S≠it)(res:Value)(c₀:Nat)(hS:s.heap.get? S=some { cls:=.type "list",data:=.seq #[] c₀ })
  (hR:∀h' tk f_ c',(∀b o,b≠S->b≠it->s.heap.get? b=some o->h'.get? b=some o)->h'.get? S=some { cls:=.type "list",dict:=none,data:=.seq f_ c',slots:=#[] }->ItemsOf (λi v=>items[items.size-1-i]? = some v) f_ items.size->R (.ok (.ret res)) { s with heap:=h',toks:=tk }) :
  wpAny (model prog w) A.in1 (Builtin.List.listExtendWith (.ref S) (.ref it) res) (λfin s'=>match fin with|.done f=>R (.ok f) s'|.again c'=>c'.quiet=true/\codeAny (model prog w) A c' R s') (λe s'=>R (.error e) s') s:=by
 have ty:s.TypeIs (.ref it) "list_reverseiterator":=⟨_,h1,rfl⟩
 have W:=walks (prog:=prog) (w:=w) (A:=A.in1) (items:=items) hh gq;have st:kR s.heap it l ((items.size:Int)-1-((0:Nat):Int))/\s.heap.IsList l items:=⟨by simpa using h1,hl⟩
 unfold Builtin.List.listExtendWith;refine aac (aeF ty ?_);have q1:Builtin.List.listSameRef (.ref S) (.ref it)=false:=by simp[Builtin.List.listSameRef,IQ]
 have q2:(Value.type "list_reverseiterator" == Value.type "list")=false:=by decide
 have q3:(Value.type "list_reverseiterator" == Value.type "tuple")=false:=by decide
 simp only[q1,q2,q3,Bool.or_self,acG,ad7];refine aac (W.self 0 s _ _ st ?_);refine aac (acR (hint h1 ?_));refine aem (λz=>absurd z (by decide +kernel)) λ_=>aaC ⟨adu F.plain_extend_loop _,?_⟩
 refine codeAny_extend_loopS W.toS hz S (λm=>?_) res items.size 0 s #[] c₀ rfl (acD _) st hS (ItemsOf.nil _) λs' f_ c' hm gm ju=>?_
 .rcases aaG.mp m with z|z
  .exact IQ z
  .exact ZV (aat.mp z)
 .rw[Moved.eq_with hm];refine hR s'.heap s'.toks f_ c' (λb o hb hi e=>hm.heap b o (λz=>?_) e) gm ju;rcases aaG.mp z with z|z
  .exact hb z
  .exact hi (aat.mp z)
theorem YS(hh:A.handled=none)(h1:kR s.heap it l ((items.size:Int)-1))(hl:s.heap.IsList l items)(gq:l≠it)(hz:items.size<=sizeLine)
  (hQ:∀h' tk f_ c',(∀b o,b≠it->s.heap.get? b=some o->h'.get? b=some o)->h'.get? s.heap.objs.size=some { cls:=.type "list",dict:=none,data:=.seq f_ c',slots:=#[] }->ItemsOf (λi v=>items[items.size-1-i]? = some v) f_ items.size->Q (.ref s.heap.objs.size) { s with heap:=h',toks:=tk }) :
  wpAny (model prog w) A (call (.type "list") [.ref it]) Q E s:=by
 have li:=aba h1;have ll:=let⟨o,e,_⟩:=hl;aba e
 refine callType_codes (Q₁:=λobj aY=>obj=.ref s.heap.objs.size/\aY={ s with heap:=s.heap.push { cls:=.type "list",data:=.seq #[] } }) F.called_list (F.typeCall_list_1 _) F.entry_list_init (code_list_new _ ⟨rfl,rfl⟩) λobj aY g=>?_
 obtain⟨rfl,rfl⟩:=g;have hS:(s.heap.push { cls:=.type "list",data:=.seq #[] }).get? s.heap.objs.size=some { cls:=.type "list",data:=.seq #[] }:=abb _ rfl;refine⟨⟨_,hS,rfl⟩,F.args_list_init_2 _ _,?_⟩;refine aac ?_;unfold Builtin.List.listItems;refine aac (adZ hS rfl (aaC ?_));refine aac ?_;refine adR hS rfl ?_;have Xw:=acy (Obj.mapSeq (λ_=>(#[]:Array Value))) hS rfl;have old:∀b o,s.heap.get? b=some o->((s.heap.push { cls:=.type "list",data:=.seq #[] }).update s.heap.objs.size (Obj.mapSeq (λ_=>(#[]:Array Value)))).get? b=some o:=λb o e=>
  (acm _ _ (ada (aba e))).trans (aad _ e)
 refine aac (wpAny_letGo ?_);refine extend (A:=A.in1) hh (old _ _ h1) (hl.at λo e=>old _ _ e) gq hz _ (ada ll) (ada li) .none _ Xw λh' tk f_ c' hk gm ju=>?_
 exact⟨rfl,hQ h' tk f_ c' (λb o hb e=>hk b o (ab6 (aba e)) hb (old b o e)) gm ju⟩
end
end Rv
namespace Rv
theorem Jy:isSubtype (.type "reversed") (.type "reversed")=pure true:=by rw[adN];kernel_rfl
theorem RB:typeLookup (.type "list") "__reversed__"=pure (some (.builtin "list.__reversed__")):=by rw[adi,acE];kernel_rfl
theorem Us(l:Addr)(items:Array Value)(n:Nat):Meets (Builtin.«reversed.__new__» ⟨[.type "reversed",.ref l],[]⟩) (λ_ R s=>s.heap.get? l=some { cls:=.type "list",data:=.seq items n }/\
  R (.ok (.ret (.ref s.heap.objs.size))) { s with heap:=s.heap.push { cls:=.type "list_reverseiterator",data:=.fields #[.ref l,rawInt ((items.size:Int)-1)] } }):=.of_wp λprog w A R s h=>by
 obtain⟨hp,g,d,tk,os⟩:=s;obtain⟨hl,h⟩:=h;have l8:=Jy;have ty:Shared.TypeIs ⟨hp,g,d,tk,os⟩ (.ref l) "list":=⟨_,hl,rfl⟩
 wp_walk using ael ty RB
 refine aeK (F.slot_list_reversed.bind (.ref l)) ?_;refine aem (λz=>absurd z (by decide)) λ_=>?_
 refine aac (ady ?_);refine aac (call_meets F.slot_list_reversed ty F.entry_list_reversed (F.args_list_reversed_1 _) (AutoListH.list___reversed___list_0 l items n) ⟨hl,?_⟩);exact aaC ⟨_,rfl,h⟩
theorem Gz:mroOf (.type "reversed")=pure [.type "reversed",.type "object"]:=by rw[mroOf_type];kernel_rfl
theorem Sb:typeLookup (.type "reversed") "__new__"=pure (some (.builtin "reversed.__new__")):=by rw[adi,acE];kernel_rfl
theorem RT:Bind.madeBy (.type "reversed")=pure (some "reversed.__new__"):=madeBy_type Gz Sb (by decide +kernel)
theorem QF:entryFor table "reversed.__new__"=some Builtin.«reversed.__new__»:=entryFor_of_tree (by kernel_rfl)
theorem QK(a:Value):checkTypeCall "reversed" ⟨[a],[]⟩=pure ():=by kernel_rfl
theorem Uo(a:Value):checkBuiltinCall "reversed.__new__" ⟨[.type "reversed",a],[]⟩=pure ():=by kernel_rfl
theorem J8:isSubtype (.type "list_reverseiterator") (.type "reversed")=pure false:=by rw[adN];kernel_rfl
section
variable{prog:Program}{w:World}{A:Around}{E:Value->Shared->Prop}{s:Shared}{l:Addr}{items:Array Value}{n:Nat}
theorem SG(hl:s.heap.get? l=some { cls:=.type "list",data:=.seq items n })
  (hQ:Q (.ref s.heap.objs.size) { s with heap:=s.heap.push { cls:=.type "list_reverseiterator",data:=.fields #[.ref l,rawInt ((items.size:Int)-1)] } }):wpAny (model prog w) A (call (.type "reversed") [.ref l]) Q E s:=by
 have OM:=Gz;have Zo:=RT;have l8:=Jy;have pS:=J8;have Ui:=QK (.ref l);refine wpAny_call (codeAny_of_tree ?_);refine aaC ⟨Code.quiet_builtin _ (by decide +kernel),acS F.entry_type_call ?_⟩;rw[Around.under_plain (weight_type_call_type "reversed" [.ref l] []) rfl];have g1:(Value.type "reversed" == Value.type "type")=false:=by decide +kernel
 have g2:((Manifest.find? "reversed").bind (·.mro.findSome? λt=>(Manifest.find? t).bind λb=>if b.noNew then some true else if b.attrs.any (·.1 == "__new__") then some false else none)).getD false=false:=by decide +kernel
 repeat (any_goals (first|assumption|wp_step))
 have hn:codeAny (model prog w) A.in1 (.call (.builtin "reversed.__new__") ⟨[.type "reversed",.ref l],[]⟩) (λr s'=>r=.ok (.ret (.ref s.heap.objs.size))/\s'={ s with heap:=s.heap.push { cls:=.type "list_reverseiterator",data:=.fields #[.ref l,rawInt ((items.size:Int)-1)] } }) s:=
  codeAny_call_builtin (by decide +kernel) QF (aeK (Uo (.ref l)) (Us l items n prog w A.in1 (λr s'=>r=.ok (.ret (.ref s.heap.objs.size))/\s'={ s with heap:=s.heap.push { cls:=.type "list_reverseiterator",data:=.fields #[.ref l,rawInt ((items.size:Int)-1)] } }) s ⟨hl,rfl,rfl⟩))
 refine aei hn λr aY hr=>?_
 obtain⟨rfl,rfl⟩:=hr;have ty:Shared.TypeIs { s with heap:=s.heap.push { cls:=.type "list_reverseiterator",data:=.fields #[.ref l,rawInt ((items.size:Int)-1)] } } (.ref s.heap.objs.size) "list_reverseiterator":=⟨_,abb _ rfl,rfl⟩
 refine aac (adJ ty J8 ?_);refine aem (λ_=>?_) λz=>absurd rfl z
 refine aac (ady ?_);exact aaC hQ
end
end Rv
section
variable{X:Cx}{a:Expr}{ta:TE}{p1 p2 p3 pos:Pos}
def ZX(ta:TE):TE:=λσ H Q=>ta σ H λx H1=>∃p xs,x=.ref p/\H1 p=some (.lst xs)/\∀l,H1 l=none->Q (.ref l) (upd H1 l (.lst xs.reverse))
theorem Ve(hv:aK xs ak)(h:ItemsOf (λi v=>ak.toArray[ak.toArray.size-1-i]? = some v) acc ak.toArray.size):aK xs.reverse acc.toList:=by
 have e:acc.toList=ak.reverse:=by
  have h1:acc.size=ak.length:=by have:=h.1;simpa using this
  have h2:=h.2;refine aeO λi=>?_
  by_cases hi:i<ak.length
  .have hs:acc[i]? = some (acc[i]'(by lia)):=by simp
   have:=h2 i _ hs;dsimp only at this;rw[abQ,aen] at this;rw[List.getElem?_reverse hi,this,adg,hs]
  .rw[adw (by rw[ab2];lia),adw (by rw[List.length_reverse];lia)]
 rw[e];exact hv.reverse
theorem Inv.MS{ch:List Addr}{o:HO}(I:Inv X af σ H s)(hf:∀b∈ch,gg X af H b)(k:∀b o,b∉ch->s.heap.get? b=some o->h'.get? b=some o)
  (hT:s.heap.objs.size<=T) (new:cF X.prog X.w (upd H T o) h' T o):Inv X af σ (upd H T o) { s with heap:=h',toks:=t' }:=by
 have nT:=I.aC.fresh hT;have jX:∀b u,H b=some u->b∉ch:=λb u e m=>by rw[(hf b m).1] at e;cases e
 refine I.step (g':=s.gens) (d':=s.drawn) (ch:=ch) (λb m=>⟨(hf b m).2.2.2.1,(hf b m).2.1,(hf b m).2.2.2.2.1,(hf b m).2.2.2.2.2⟩) (λb o _ _ m e _=>k b o m e) (λb o _ _ m e _=>⟨o.slots,k b o m e⟩)
  (λb o _ e n=>by rw[aN (ab6 (acn (aba e) hT))];exact n) (λb o m e=>⟨o,k b o m e⟩) (λb xs e=>by rw[aN (cD e nT)];exact e) (λb o u e=>by rw[aN (cD e nT)];exact e)
  (λb ps e=>⟨#[],by rw[aN (cD e nT),e];simp⟩) (λm hm=>?_) (λb u e=>?_) I.bare
 .obtain⟨o,es,ep,ho,r⟩:=hm;exact⟨o,es,ep,k _ o (λm=>(hf _ m).2.1 rfl) ho,r⟩
 .by_cases hb:b=T
  .subst hb;rw[bL] at e;cases e;exact new
  .rw[aN hb] at e;refine(I.aC b u e).ic (λc v hc q=>k c v ?_ q) (λc q=>by rw[aN (cD q nT)];exact q) λc xs q=>by rw[aN (cD q nT)];exact q
   rcases hc with z|z
   .rw[z];exact jX b u e
   .exact jX c _ z
theorem Inv.Mv{ch:List Addr}(I:Inv X af σ H s)(hf:∀b∈ch,gg X af H b)(k:∀b o,b∉ch->s.heap.get? b=some o->h'.get? b=some o):Inv X af σ H { s with heap:=h',toks:=t' }:=by
 have jX:∀b u,H b=some u->b∉ch:=λb u e m=>by rw[(hf b m).1] at e;cases e
 refine I.step (g':=s.gens) (d':=s.drawn) (ch:=ch) (λb m=>⟨(hf b m).2.2.2.1,(hf b m).2.1,(hf b m).2.2.2.2.1,(hf b m).2.2.2.2.2⟩) (λb o _ _ m e _=>k b o m e) (λb o _ _ m e _=>⟨o.slots,k b o m e⟩)
  (λb o _ e n=>n) (λb o m e=>⟨o,k b o m e⟩) (λb xs e=>e) (λb o u e=>e) (λb ps e=>⟨#[],by rw[e];simp⟩) (λm hm=>?_) (λb u e=>?_) I.bare
 .obtain⟨o,es,ep,ho,r⟩:=hm;exact⟨o,es,ep,k _ o (λm=>(hf _ m).2.1 rfl) ho,r⟩
 .refine(I.aC b u e).ic (λc v hc q=>k c v ?_ q) (λc q=>q) λc xs q=>q
  rcases hc with z|z
  .rw[z];exact jX b u e
  .exact jX c _ z
theorem YG(hc:X.calm=true)(hm:X.mg "list"=none)(gC:X.mg "reversed"=none)(ha:PE X a ta)(hg:Gl X "list":=by rfl)(lZ:Gl X "reversed":=by rfl)(hs:starEach [a] X.env=[(false,eval a X.env)]:=by rfl)
  (bY:starEach [.Call (.Name "reversed" p2) [a] [] p3] X.env=[(false,eval (.Call (.Name "reversed" p2) [a] [] p3) X.env)]:=by rfl):PE X (.Call (.Name "list" p1) [.Call (.Name "reversed" p2) [a] [] p3] [] pos) (ZX ta):=by
 intro af s σ H Q I h;refine adt (ku I hg hm (show bootBuiltins "list"=some (.type "list") by decide +kernel) ?_);refine acY ?_ bY rfl;rw[bY];refine adW ?_;refine adt (ku I lZ gC boot_reversed ?_);refine acY ?_ hs rfl;rw[hs];refine adW (aL (ha af s σ H _ I h) λu s1 ⟨x,H1,I1,r1,q1⟩=>?_);refine aer ?_;obtain⟨p,xs,rfl,hp,q⟩:=q1;cases r1;obtain⟨z,ak,n,hv,hl,e⟩:=I1.pO hp;refine Rv.SG e ?_;refine aer ?_;have lp:=aba e;have I2:Inv X af σ H1 { s1 with heap:=s1.heap.push { cls:=.type "list_reverseiterator",data:=.fields #[.ref p,rawInt ((ak.toArray.size:Int)-1)] } }:=I1.kept λb o e=>aad _ e
 refine Rv.YS (items:=ak.toArray) (I2.ok.hd hc) (abb _ rfl) ⟨_,aad _ e,rfl,_,rfl⟩ (ab6 lp) (by rw[abQ];lia) λh' tk f_ c' hk gm ju=>?_
 have f:=I1.oN (H':=H1) (aa2 _) (I1.aC.fresh (aa2 _));refine⟨.ref _,_,I2.MS (ch:=[s1.heap.objs.size]) (λb m=>by rw[aat.mp m];exact f) (λb o m e=>hk b o (λz=>m (by rw[z];exact aat.mpr rfl)) e) (aa2 _) (show cF X.prog X.w _ h' _ (.lst xs.reverse) from⟨by rw[List.length_reverse];exact z,f_.toList,c',Ve hv ju,by simpa using gm⟩),rfl,q _ (I2.aC.fresh (aa2 _))⟩
end
def CK(K:PySem.W.Frag)(l1 l2:Addr):It:=
  ⟨λi H=>∃xs ys x y,bG K H l1 xs/\bG K H l2 ys/\xs[i]? = some x/\ys[i]? = some y,
   λi H v H'=>∃T a b,H T=none/\v=.ref T/\H'=upd H T (.tup [a,b])/\(∀xs,bG K H l1 xs->xs[i]? = some a)/\∀ys,bG K H l2 ys->ys[i]? = some b,
   λi H=>∃xs ys,bG K H l1 xs/\bG K H l2 ys/\(xs.length<=i\/ys.length<=i),false⟩
def OU(z TI TO i1 i2 l1 l2:Addr)(i:Nat)(h:Heap):Prop:=IsZip h z TI TO .none/\IsPair h TI (.ref i1) (.ref i2)/\(∃a b,IsPair h TO a b)/\h.IsListIter i1 l1 i/\h.IsListIter i2 l2 i
theorem VL{K:PySem.W.Frag}{x1}{z TI TO i1 i2 l1 l2:Addr}(D:ZipApart z TI TO i1 i2 l1 l2):
  Turn P w K (.Tuple elts x1 pos) (CK K l1 l2) [z,TI,TO,i1,i2] z (OU z TI TO i1 i2 l1 l2) where
 mem:=by simp
 obj:=λi h st b hb=>by
  obtain⟨s1,s2,⟨a,b',s3⟩,⟨o4,e4,c4,d4⟩,⟨o5,e5,c5,d5⟩⟩:=st;simp only[aaG,acH,ad9] at hb;rcases hb with rfl|rfl|rfl|rfl|rfl
  .exact⟨_,s1,λv q=>by cases q⟩
  .exact⟨_,s2,λv q=>by cases q⟩
  .exact⟨_,s3,λv q=>by cases q⟩
  .exact⟨o4,e4,λv q=>by rw[d4] at q;cases q⟩
  .exact⟨o5,e5,λv q=>by rw[d5] at q;cases q⟩
 keep:=λi h h' st k=>by
  obtain⟨s1,s2,⟨a,b',s3⟩,s4,s5⟩:=st;exact⟨k _ (by simp) _ s1,k _ (by simp) _ s2,⟨a,b',k _ (by simp) _ s3⟩,s4.at λo e=>k _ (by simp) o e,s5.at λo e=>k _ (by simp) o e⟩
 item:=by
  intro X hP hw hK hc i af s σ H E I hf st hg;subst hP hw hK;obtain⟨s1,s2,⟨a,b',s3⟩,s4,s5⟩:=st;obtain⟨xs,ys,x,y,q1,q2,e1,e2⟩:=hg;obtain⟨us,v1,p1,z1⟩:=I.list q1;obtain⟨ws,v2,p2,z2⟩:=I.list q2;obtain⟨u,hu,ru⟩:=v1.get e1;obtain⟨t,ht,rt⟩:=v2.get e2;refine wpAny_pyNext_zip_item D s1 s2 s3 s4 s5 p1.isList p2.isList (by simpa using hu) (by simpa using ht) λh' a1 a2 a3 a4 a5 a6 a7=>⟨_,rfl,?_⟩
  refine wpAny_letOwnedTupleGo_zip a1 λv8 b1 b2=>?_
  have lz:=aba s1;have nz:=ada lz;have T2:=b2.extBut _ _ nz a5;have nT:=I.aC.fresh (aa2 _);have I1:Inv X af σ (upd H s.heap.objs.size (.tup [x,y])) { s with heap:=v8 }:=I.MS (ch:=[z,TO,i1,i2]) (λb m=>hf b (by
    simp only[aaG,acH,ad9] at m ⊢;rcases m with rfl|rfl|rfl|rfl<;>simp)) (λb o m e=>by
    simp only[aaG,acH,ad9,not_or] at m;exact b2.extBut _ _ m.1 (a7 b o m.1 m.2.1 m.2.2.1 m.2.2.2 e)) (aa2 _) (show cF X.prog X.w _ v8 _ (.tup [x,y]) from⟨show 2<=sizeLine by unfold sizeLine;lia,[u,t],.cons ru (.cons rt .nil),⟨_,T2,rfl,rfl,_,rfl⟩⟩)
  refine⟨.ref s.heap.objs.size,_,I1,rfl,⟨_,x,y,nT,rfl,rfl,λxs' h=>by rw[I.AL h q1];exact e1,λys' h=>by rw[I.AL h q2];exact e2⟩,?_,λb m=>?_⟩
  .have up:∀c o,c≠z->h'.get? c=some o->v8.get? c=some o:=λc o n e=>b2.extBut _ _ n e
   exact⟨b1,up _ _ D.TIz (a7 TI _ D.TIz D.TITO D.TIi1 D.TIi2 s2),⟨u,t,up _ _ D.TOz a2⟩,a3.at λo e=>up _ o D.i1z e,a4.at λo e=>up _ o D.i2z e⟩
  .rw[aN]
   .exact(hf b m).1
   .rintro rfl
    obtain⟨o4,e4,_⟩:=id s4;obtain⟨o5,e5,_⟩:=id s5;simp only[aaG,acH,ad9] at m;rcases m with m|m|m|m|m
    .exact nz m
    .exact absurd (aba s2) (by rw[<- m];exact acW _)
    .exact absurd (aba s3) (by rw[<- m];exact acW _)
    .exact absurd (aba e4) (by rw[<- m];exact acW _)
    .exact absurd (aba e5) (by rw[<- m];exact acW _)
 done:=by
  intro X hP hw hK hc i af s σ H E I hf st hg;subst hP hw hK;obtain⟨s1,s2,⟨a,b',s3⟩,s4,s5⟩:=st;obtain⟨xs,ys,q1,q2,e⟩:=hg;obtain⟨us,v1,p1,z1⟩:=I.list q1;obtain⟨ws,v2,p2,z2⟩:=I.list q2;have l1:=v1.length;have l2:=v2.length;refine wpAny_pyNext_zip_end (I.ok.hd (hc.resolve_right λz=>abI z)) D s1 s2 s3 s4 s5 p1.isList p2.isList (e.imp (λe=>by simp;lia) λe=>by simp;lia) λh' k=>⟨rfl,I.Mv (ch:=[z,TO,i1,i2]) (λb m=>hf b (by
    simp only[aaG,acH,ad9] at m ⊢;rcases m with rfl|rfl|rfl|rfl<;>simp)) λb o m e=>?_⟩
  simp only[aaG,acH,ad9,not_or] at m;exact k b o m.1 m.2.1 m.2.2.1 m.2.2.2 e
 self:=λ_ _ _ _ _ st h=>wpAny_pyIter_zip st.1 h
section
variable{X:Cx}{elts:List Expr}{tp:Pos}{a b:Expr}{ta:TA}{p pos:Pos}
def Xl(K:PySem.W.Frag)(ta:TA):TI:=λσ H R=>ta σ H λvs H1=>∃l1 l2 xs ys,vs=[.ref l1,.ref l2]/\bG K H1 l1 xs/\bG K H1 l2 ys/\R (CK K l1 l2) H1
theorem WO{x1}(hg:Gl X "zip")(hm:X.mg "zip"=none)(ha:PA X [a,b] ta)(hs:starEach [a,b] X.env=[(false,eval a X.env),(false,eval b X.env)]:=by rfl)(bY:starEach [b] X.env=[(false,eval b X.env)]:=by rfl):
  PI X (.Tuple elts x1 tp) (.Call (.Name "zip" p) [a,b] [] pos) (Xl X.K ta):=by
 intro af s σ H R I h;refine adt (ku I hg hm boot_zip (acY (aL (ha pos af s σ H _ I h) λus s1 ⟨vs,H1,I1,r1,q1⟩=>?_) (by rw[hs,bY]) (by rw[bY];rfl)));obtain⟨l1,l2,xs,ys,rfl,h1,h2,q⟩:=q1;obtain⟨u,v,rfl,ru,rv⟩:=vals2 r1;cases ru;cases rv;obtain⟨us,v1,p1,z1⟩:=I1.list h1;obtain⟨ws,v2,p2,z2⟩:=I1.list h2;have b1:=let⟨o,n,e,_⟩:=p1;aba e
 have b2:l2<s1.heap.objs.size:=let⟨o,n,e,_⟩:=p2;aba e
 refine call_zip_2 p1.isList p2.isList λh' g1 g2 g3 g4 g5 g6 k=>?_
 refine wpAny_pyIter_zip g1 ?_;refine⟨_,_,_,_,H1,rfl,I1.kept k,VL (zipApart_new b1 b2),⟨g1,g2,⟨_,_,g3⟩,g4,g5⟩,λc hc=>?_,q⟩;have up:∀j,gg X af H1 (s1.heap.objs.size+j):=λj=>I1.oN (Nat.le_add_right _ _) (I1.aC.fresh (Nat.le_add_right _ _))
 simp only[aaG,acH,ad9] at hc;rcases hc with rfl|rfl|rfl|rfl|rfl
 .exact up 4
 .exact up 2
 .exact up 3
 .exact up 0
 .exact up 1
end
end L2
namespace L2.Ev
open PySem PySem.Spec PyProof.Rows
section
variable{X:Cx}{elts:List Expr}{tp:Pos}{a b:Expr}{fa fb:EF}{p pos:Pos}
def yz(fa fb:EF):IF:=λρ=>match fa ρ,fb ρ with
 |some (.lst ds,t1),some (.lst es,t2)=>if(aU ds&&aU es)=true then some ((ds.zip es).map λp=>.tup [p.1,p.2],iw [(.lst ds,t1),(.lst es,t2)]) else none
 |_,_=>none
theorem ay.By{K:PySem.W.Frag}{vs:List V}{i:Nat}(r:ay K H ds vs [])(e:ds[i]? = some d):∃v,vs[i]? = some v/\Rep K H d v []:=by
 obtain⟨v,f,e1,r1,s⟩:=r.get e;have:f=[]:=List.eq_nil_iff_forall_not_mem.mpr λa m=>by have:=s a m;cases this
 subst this;exact⟨v,e1,r1⟩
theorem Pn{K:PySem.W.Frag}{l1 l2:Addr}{ds es:List D}(c1:aU ds=true)(c2:aU es=true):
  l9 K (CK K l1 l2) ((ds.zip es).map λp=>.tup [p.1,p.2]) [⟨.lst ds,.ref l1,f1⟩,⟨.lst es,.ref l2,f2⟩]:=by
 intro H i hh;obtain⟨p1,xs,g1,e1,q1,r1,_⟩:=(hh _ aah).dh;obtain⟨p2,ys,g2,e2,q2,r2,_⟩:=(hh _ (aas _ aah)).dh;cases e1;cases e2;have n1:=r1.aI c1;have n2:=r2.aI c2;subst n1 n2;refine⟨λd hd=>?_,λhl=>?_⟩
 .rw[acg] at hd;exists hz,(ds.zip es)[i]?,pr,hd;cases hd;obtain⟨k1,k2⟩:=List.getElem?_zip_eq_some.mp hz;obtain⟨x,hx,rx⟩:=r1.By k1;obtain⟨y,hy,ry⟩:=r2.By k2;refine⟨⟨xs,ys,x,y,q1,q2,hx,hy⟩,λv H1 hv=>?_⟩;obtain⟨T,a,b,hT,rfl,rfl,ha,hb⟩:=hv;have ea:=ha xs q1;have eb:=hb ys q2;rw[hx] at ea;rw[hy] at eb;cases ea;cases eb;have s2:aG H (upd H T (.tup [x,y])):=λb o e=>by rw[aN (cD e hT)];exact e
  exact⟨s2,[],.tup (b8.of bL) (ay.cons (f1:=[]) (f2:=[]) (rx.same s2) (ay.cons (f1:=[]) (f2:=[]) (ry.same s2) .nil)),λa m=>nomatch m⟩
 .rw[List.length_map,List.length_zip,r1.length,r2.length] at hl;exact⟨xs,ys,q1,q2,by lia⟩
theorem abO{x1}(hm:X.mg "zip"=none)(ha:FP X a fa)(hb:FP X b fb)(hg:Gl X "zip":=by rfl)(hs:starEach [a,b] X.env=[(false,eval a X.env),(false,eval b X.env)]:=by rfl)(bY:starEach [b] X.env=[(false,eval b X.env)]:=by rfl):
  FI X (.Tuple elts x1 tp) (.Call (.Name "zip" p) [a,b] [] pos) (yz fa fb):=by
 obtain⟨t,pa,hlen,q⟩:=au ha (au hb aJ bY) (by rw[hs,bY]);exists 24,WO hg hm pa hs bY;unfold yz at e
 split at e
 .rename_i d1 t1 d2 t2 h1 h2;obtain⟨hc,e⟩:=ci e;cases e;obtain⟨c1,c2⟩:=(aaF _ _).mp hc;refine q ok (by unfold aA aX;rw[h1,h2]) λH1 vs fp s1 r g=>?_
  cases r with
  | @cons _ v1 _ _ f1 _ r1 r=>
   cases r with
   | @cons _ v2 _ _ f2 _ r2 r=>
    cases r;obtain⟨l1,xs,g1,rfl,q1,_,_⟩:=r1.dh;obtain⟨l2,ys,g2,rfl,q2,_,_⟩:=r2.dh;refine⟨l1,l2,xs,ys,rfl,q1,q2,k H1 _ [⟨.lst d1,.ref l1,f1⟩,⟨.lst d2,.ref l2,f2⟩] s1 (λh m=>?_) (Pn c1 c2)⟩;have go:=g.over ok;rcases aaG.mp m with rfl|m
    .exact⟨r1,λa ma=>go a (acf _ ma)⟩
    .cases aat.mp m;exact⟨r2,λa ma=>go a (aaQ _ (acf _ ma))⟩
 .cases e
def Gc:D->Option D
 |.lst ds=>if aU ds=true then some (.lst ds.reverse) else none
 |_=>none
theorem ay.G5{K:PySem.W.Frag}:∀{ds:List D}{xs:List V},ay K H ds xs []->ay K H ds.reverse xs.reverse []
 |[],_,r=>by cases r;exact .nil
 |d::ds,xs,r=>by
  generalize hf:([]:List Addr)=fp at r;cases r with
  | @cons _ _ _ _ f1 f2 r1 r2=>
   obtain⟨z1,z2⟩:=adB.mp hf.symm;subst z1 z2;rw[aeL,aeL];exact ay.append (ay.G5 r2) (ay.cons (f1:=[]) (f2:=[]) r1 .nil)
theorem aaB{p2 p3:Pos}(hc:X.calm=true)(hm:X.mg "list"=none)(gC:X.mg "reversed"=none)(ha:FP X a fa)(hg:Gl X "list":=by rfl)(lZ:Gl X "reversed":=by rfl)(hs:starEach [a] X.env=[(false,eval a X.env)]:=by rfl)
  (bY:starEach [.Call (.Name "reversed" p2) [a] [] p3] X.env=[(false,eval (.Call (.Name "reversed" p2) [a] [] p3) X.env)]:=by rfl):FP X (.Call (.Name "list" p) [.Call (.Name "reversed" p2) [a] [] p3] [] pos) (e1 Gc fa):=by
 obtain⟨t,pa,q⟩:=ha;exists 21,YG hc hm gC pa hg lZ hs bY;obtain⟨d1,t1,g1,g2,rfl⟩:=nG e;refine q ok g1 λH1 x f1 s1 r1 _=>?_
 cases r1 with
 | @lst l xs ds f h rs=>
  have g2:(if aU ds=true then some (D.lst ds.reverse) else none)=some d:=g2;obtain⟨hi,g2⟩:=ci g2;cases g2;have hn:=rs.aI hi;subst hn;refine⟨l,xs,rfl,h,λl' hl=>?_⟩;have s2:aG H1 (upd H1 l' (.lst xs.reverse)):=λb o e=>by rw[aN (cD e hl)];exact e
  refine k _ _ [l'] (s1.trans s2) (.lst bL ((ay.G5 rs).same s2)) ⟨acd.mpr ⟨(λm=>by cases m),aci⟩,λa m=>?_⟩;cases aat.mp m;exact s1.free hl
 |_=>cases g2
end
end L2.Ev
namespace L2
open PySem PySem.Spec PyProof.Rows
section
variable{X:Cx}
theorem Ke:∀{bs:List Bool}{us:List Value},aK (bs.map V.bl) us->us=bs.map Value.bool
 |[],_,r=>by rw[List.map_nil] at r;cases r;rfl
 |b::bs,_,r=>by
  rw[aaz] at r;cases r with
  |cons r1 r2=>cases r1;rw[Ke r2];rfl
theorem range_all(bs:List Bool):(List.range bs.length).all (λj=>bs.getD j true)=bs.all id:=by
 induction bs with
 |nil=>rfl
 |cons b r ih=>
  rw[acj,List.range_succ_eq_map,List.all_cons,List.all_map,List.all_cons,<- ih];rfl
theorem Vz(hc:X.calm=true):eF X (.builtin "all") (λxs H Q=>∃(p:Addr) (bs:List Bool),xs=[V.ref p]/\bG X.K H p (bs.map V.bl)/\Q (.bl (bs.all id)) H):=by
 intro af s σ H xs us Q I r h;obtain⟨p,bs,rfl,hq,q⟩:=h;obtain⟨u,rfl,ru⟩:=vals1 r;cases ru;obtain⟨ak,v1,pl,hz⟩:=I.list hq;have ei:=Ke v1;subst ei;have lp:=let⟨o,n,e,_⟩:=pl;aba e
 have hh:X.A.in1.handled=none:=I.ok.hd hc;refine call_all_walk (aev pl.isList ?_);refine⟨s.heap.objs.size,_,_,_,_,_,λj=>bs.getD j true,rfl,Walks.list hh s.heap.objs.size p (ab6 lp) (bs.map Value.bool).toArray,⟨⟨_,abb _ rfl,rfl,rfl⟩,pl.isList.at λo e=>aad _ e⟩,?_,λh' tk hk=>?_⟩
 .intro i v s' Q' E' hv hQ;rw[aen,acg] at hv;exists e,bs[i]?,b,hv;cases hv;dsimp only at hQ;rw[acs,e] at hQ;exact adC hQ
 .have f:=I.oN (H':=H) (aa2 s.heap.objs.size) (I.aC.fresh (aa2 _));have I1:Inv X af σ H { s with heap:=s.heap.push { cls:=.type "list_iterator",data:=.fields #[.ref p,.int 0 0] } }:=I.kept λb o e=>aad _ e
  rw[abQ,List.length_map,range_all];exact⟨.bl _,H,I1.Mv (ch:=[s.heap.objs.size]) (λb m=>by rw[aat.mp m];exact f) λb o m e=>hk b o m e,rfl,q⟩
end
end L2
namespace L2.Ev
open PySem PySem.Spec PyProof.Rows
section
variable{X:Cx}{a b c:Expr}{fa fb:EF}{p pos:Pos}
noncomputable def lu:List D->Option (List Bool)
 |[]=>some []
 |.bl b::r=>(lu r).map (b::·)
 |_=>none
theorem KZ{K:PySem.W.Frag}:∀{ds:List D}{xs:List V}{fp:List Addr}{bs:List Bool},ay K H ds xs fp->lu ds=some bs->xs=bs.map V.bl
 |[],_,_,bs,r,e=>by cases r;cases e;rfl
 |d::ds,_,_,bs,r,e=>by
  cases r with
  |cons h t=>
   cases d<;>try (cases e;done)
   cases h;unfold lu at e;exists q,lu ds,r,e;cases e;rw[KZ t q];rfl
def qv:D->Option D
 |.lst ds=>(lu ds).map λbs=>.bl (bs.all id)
 |_=>none
theorem Sf{K:PySem.W.Frag}:oS K (λxs H Q=>∃(p:Addr) (bs:List Bool),xs=[V.ref p]/\bG K H p (bs.map V.bl)/\Q (.bl (bs.all id)) H) qv:=by
 intro H x d1 f1 d Q r e k;cases d1 with
 |lst ds=>
  obtain⟨p,xs,f,rfl,hq,rs,_⟩:=r.dh;have e:(lu ds).map (λbs=>D.bl (bs.all id))=some d:=e;exists h,lu ds,bs,e;cases e;have ex:=KZ rs h;subst ex;exact⟨p,bs,rfl,hq,k H _ [] (aG.refl H) (.bl _) aci λa m=>nomatch m⟩
 |_=>cases e
theorem sO(hc:X.calm=true)(hm:X.mg "all"=none)(ha:FP X a fa)(hg:Gl X "all":=by rfl)(hs:starEach [a] X.env=[(false,eval a X.env)]:=by rfl):FP X (.Call (.Name "all" p) [a] [] pos) (e1 qv fa):=
 fp_1 Sf ha λta pa=>rO (Vz hc) hg hm boot_all (cH pa dU hs) (he:=hs) (hpl:=rfl)
end
abbrev XF:=aE->Option (D×aE)
abbrev ji:=aE->Option (List D×aE)
def kP(z:Addr->Option Nat)(H H':Hp):Prop:=bH H H'/\∀a o,z a=none->H a=some o->H' a=some o
theorem kP.of{z:Addr->Option Nat}{H H':Hp}(s:aG H H'):kP z H H':=⟨.of s,λa o _ e=>s _ _ e⟩
theorem kP.trans{z:Addr->Option Nat}{H H1 H2:Hp}(a:kP z H H1)(b:kP z H1 H2):kP z H H2:=⟨a.1.trans b.1,λc o e q=>b.2 c o e (a.2 c o e q)⟩
theorem Rep.ic{K:PySem.W.Frag}(r:Rep K H d v [])(s:kP z H H'):Rep K H' d v []:=r.frame (λa m=>nomatch m) s.1
theorem ay.ic{K:PySem.W.Frag}{z:Addr->Option Nat}{H H':Hp}{d:List D}{v:List V}(r:ay K H d v [])(s:kP z H H'):ay K H' d v []:=r.frame (λa m=>nomatch m) s.1
def FX(X:Cx)(e:Expr)(f:XF):Prop:=∃t,PE X e t/\∀{H0:Hp}{S:List Addr}{z:Addr->Option Nat}{aq:List ck}{ρ:aE}{σ:St}{H:Hp}{Q:VK}{d:D}{ρ':aE},
 Ok X.K H0 S z aq ρ σ H->f ρ=some (d,ρ')->(∀H' v,Ok X.K H0 S z aq ρ' σ H'->kP z H H'->Rep X.K H' d v []->Q v H')->t σ H Q
def um(X:Cx)(es:List Expr)(f:ji):Prop:=∃t,PA X es t/\(∀ρ ds ρ',f ρ=some (ds,ρ')->ds.length=es.length)/\∀{H0:Hp}{S:List Addr}{z:Addr->Option Nat}{aq:List ck}{ρ:aE}{σ:St}{H:Hp}{Q:List V->Hp->Prop}{ds:List D}{ρ':aE},
 Ok X.K H0 S z aq ρ σ H->f ρ=some (ds,ρ')->(∀H' vs,Ok X.K H0 S z aq ρ' σ H'->kP z H H'->ay X.K H' ds vs []->Q vs H')->t σ H Q
section
variable{X:Cx}{a b c e:Expr}{es:List Expr}{f g:XF}{pos:Pos}
def xP(f:EF):XF:=λρ=>match f ρ with
 |some (d,_)=>if aI d=true then some (d,ρ) else none
 |none=>none
theorem iA{f:EF}(h:FP X e f):FX X e (xP f):=by
 obtain⟨t,p,q⟩:=h;refine⟨t,p,@λH0 S z aq ρ σ H Q d ρ' ok e k=>?_⟩;unfold xP at e;exists h,f ρ,w,e,0;obtain⟨d0,t0⟩:=w;rw[h] at e;dsimp only at e;obtain⟨hi,e⟩:=ci e;cases e;refine q ok h λH1 v fp s1 r1 _=>?_
 have hn:=r1.aI hi;subst hn;exact k H1 v (ok.same s1) (.of s1) r1
noncomputable def x2(op:D->D->Option D)(f g:XF):XF:=λρ=>match f ρ with
 |some (d1,aD)=>match g aD with
  |some (d2,aR)=>(op d1 d2).map λd=>(d,aR)
  |none=>none
 |none=>none
theorem QM{op:D->D->Option D}(e:x2 op f g ρ=some (d,ρ')):∃d1 aD d2,f ρ=some (d1,aD)/\g aD=some (d2,ρ')/\op d1 d2=some d:=by
 unfold x2 at e;exists h1,f ρ,w,e,0;obtain⟨d1,aD⟩:=w;rw[h1] at e;dsimp only at e;exists h2,g aD,w,e,0;obtain⟨d2,aR⟩:=w;rw[h2] at e;dsimp only at e;cases h3:op d1 d2 with
 |none=>rw[h3] at e;cases e
 |some d3=>rw[h3] at e;cases e;exact⟨d1,aD,d2,rfl,h2,h3⟩
theorem Xn{op:Operator}{r:R2}{o:D->D->Option D}(ho:cG X (binaryOp op) r)(dd:fJ X.K r o)(ha:FX X a f)(hb:FX X b g):FX X (.BinOp a op b pos) (x2 o f g):=by
 obtain⟨ta,pa,sa⟩:=ha;obtain⟨tb,pb,sb⟩:=hb;refine⟨_,xw ho pa pb,@λH0 S z aq ρ σ H Q d ρ' ok e k=>?_⟩;obtain⟨d1,aD,d2,e1,e2,e3⟩:=QM e;refine sa ok e1 λH1 x bD s1 r1=>?_
 refine sb bD e2 λH2 y dH s2 r2=>?_
 exact dd H2 x y d1 d2 [] [] d Q (r1.ic s2) r2 e3 λH3 v s3 r3=>k H3 v (dH.same s3) ((s1.trans s2).trans (.of s3)) r3
theorem Ia(ha:FX X a f)(hb:FX X b g):FX X (.BinOp a .Add b pos) (x2 pG f g):=Xn Oa wc ha hb
noncomputable def ur:ji:=λρ=>some ([],ρ)
noncomputable def oB(f:XF)(g:ji):ji:=λρ=>match f ρ with
 |some (d,aD)=>match g aD with
  |some (ds,aR)=>some (d::ds,aR)
  |none=>none
 |none=>none
theorem K5{g:ji}(e:oB f g ρ=some (ds,ρ')):∃d aD r,f ρ=some (d,aD)/\g aD=some (r,ρ')/\ds=d::r:=by
 unfold oB at e;exists h1,f ρ,w,e,0;obtain⟨d,aD⟩:=w;rw[h1] at e;dsimp only at e;exists h2,g aD,w,e,0;obtain⟨r,aR⟩:=w;rw[h2] at e;cases e;exact⟨d,aD,r,rfl,h2,rfl⟩
theorem jW:um X [] ur:=⟨_,dU,λ_ _ _ e=>by cases e;rfl,@λ_ _ _ _ _ _ H _ _ _ ok e q=>by cases e;exact q H _ ok (.of (aG.refl H)) .nil⟩
theorem iU{g:ji}(ha:FX X e f)(hr:um X es g)(hs:starEach (e::es) X.env=(false,eval e X.env)::starEach es X.env:=by rfl):um X (e::es) (oB f g):=by
 obtain⟨t,p,q⟩:=ha;obtain⟨t',p',l',q'⟩:=hr;refine⟨_,cH p p' hs,λρ ds ρ' e=>by obtain⟨d,aD,r,e1,e2,rfl⟩:=K5 e;rw[acj,acj,l' _ _ _ e2],@λH0 S z aq ρ σ H Q ds ρ' ok e k=>?_⟩;obtain⟨d,aD,r,e1,e2,rfl⟩:=K5 e;refine q ok e1 λH1 v bD s1 r1=>?_
 refine q' bD e2 λH2 vs dH s2 r2=>?_
 exact k H2 (v::vs) dH (s1.trans s2) (ay.cons (f1:=[]) (f2:=[]) (r1.ic s2) r2)
def xN(g:ji)(f:XF):XF:=λρ=>match g ρ with
 |some (ds,aD)=>match f aD with
  |some (.int i,aR)=>(bV ds i).map λd=>(d,aR)
  |_=>none
 |none=>none
theorem R0{g:ji}{p2:Pos}(ha:um X es g)(hc:FX X c f)(hl:es.length<=1000:=by decide)(hs:rQ c:=by exact λ_ _=>rfl):FX X (.Subscript (.List es p2) c pos) (xN g f):=by
 obtain⟨t,p,hg,q⟩:=ha;obtain⟨tc,pc,qc⟩:=hc;refine⟨_,vZ vp (JG p) pc hs,@λH0 S z aq ρ σ H Q d ρ' ok e k=>?_⟩;unfold xN at e;cases h1:g ρ with
 |none=>rw[h1] at e;cases e
 |some w=>
  obtain⟨ds,aD⟩:=w;rw[h1] at e;dsimp only at e;cases h2:f aD with
  |none=>rw[h2] at e;cases e
  |some w=>
   obtain⟨di,aR⟩:=w;rw[h2] at e;cases di<;>try (cases e;done)
   rename_i i;dsimp only at e;cases h3:bV ds i with
   |none=>rw[h3] at e;cases e
   |some d3=>
    rw[h3] at e;cases e;refine q ok h1 λH1 vs bD s1 r1=>⟨?_,λl nN=>?_⟩
    .rw[<- r1.length,hg ρ ds aD h1];exact ade (vJ hl)
    .have s2:aG H1 (upd H1 l (.lst vs)):=λb o e=>by rw[aN (cD e nN)];exact e
     have zl:z l=none:=by
      cases hz:z l with
      |none=>rfl
      |some j=>obtain⟨⟨o,w⟩,_⟩:=bD.zd l j hz;rw[nN] at w;cases w
     refine qc (bD.same s2) h2 λH3 y iF s3 r3=>?_
     have UI:H3 l=some (.lst vs):=s3.2 l _ zl bL;cases r3;unfold bV at h3;cases hj:h_ ds.length i with
     |none=>rw[hj] at h3;cases h3
     |some j=>
      rw[hj,acq] at h3;have r3:=(r1.same s2).ic s3;obtain⟨v,hv,rv⟩:=r3.By h3;refine .inl ⟨l,vs,i,v,rfl,rfl,bG.of UI,?_,k H3 v iF ((s1.trans (.of s2)).trans s3) rv⟩;unfold bV;rw[<- r1.length,hj,acq];exact hv
def uE(K:PySem.W.Frag)(G:List Int->List D->Option (D×List Int)):Sp:=λvs H Q _=>∃a ns ws es d bR,vs=V.ref a::ws/\H a=some (.lst (ns.map V.int))/\ay K H es ws []/\G ns es=some (d,bR)/\
 ∀H' v,(∀b o,b≠a->H b=some o->H' b=some o)->H' a=some (.lst (bR.map V.int))->Rep K H' d v []->Q v H'
def xM(i:Nat)(G:List Int->List D->Option (D×List Int))(g:ji):XF:=λρ=>match ρ[i]?,g ρ with
 |some (some _),some (es,aD)=>match aD[i]? with
  |some (some (.lst ds,.own))=>match cM ds with
   |some ns=>(G ns es).map λw=>(w.1,cz aD i (.lst (w.2.map D.int)))
   |none=>none
  |_=>none
 |_,_=>none
theorem JM:∀{ds:List D}{ns:List Int},cM ds=some ns->aU ds=true
 |[],_,_=>rfl
 |d::r,ns,h=>by
  cases d<;>try (cases h;done)
  unfold cM at h;exists q,cM r,m,h,0;unfold aU;rw[JM q];rfl
theorem kJ(i:Nat){x xn:Str}{fa:Addr}{fd:FuncData}{ps:List Str}{G:List Int->List D->Option (D×List Int)}{g:ji}(GG:bT X.prog X.w X.K X.mg X.base cJ k fa fd ps (uE X.K G))(hr:bh k X.A)(hm:X.mg x=some (.ref fa))(hk:PySem.W.keepIn X.K (.ref fa)=true)(hb:Binds X.K fd ps [])(ha:um X es g)
  (va:VA X i xn:=by walk_at "va")
  (hg:GD X x:=by exact⟨rfl,by decide⟩) (he:starEach (.Name xn p1::es) X.env=(false,eval (.Name xn p1) X.env)::starEach es X.env:=by rfl) (hpl:(backTo pos (starEach es X.env)).any (·.1)=false:=by rfl) :
  FX X (.Call (.Name x p) (.Name xn p1::es) [] pos) (xM i G g):=by
 obtain⟨t,pa,_,sa⟩:=ha;refine⟨_,xh GG hr hg.1 hm hk hb .nil nY (cH va.pe pa he) hg.2 he hpl,@λH0 S z aq ρ σ H Q d ρ' ok e0 q=>?_⟩;unfold xM at e0
 split at e0
 .rename_i w0 br aD h0 h1
  split at e0
  .rename_i ds h2;exists h3,cM ds,ns,e0;dsimp only at e0;exists h4,G ns br,w,e0,0;obtain⟨d',bR⟩:=w;rw[h4] at e0;cases e0;obtain⟨d0,t0⟩:=w0;obtain⟨v,fp,hs,_,_⟩:=ok.sl i d0 t0 h0;refine⟨v,hs,?_⟩;refine sa ok h1 λH1 vs bD s1 r1=>?_
   obtain⟨v',eX,bu,r',zz⟩:=bD.sl i _ _ h2;rw[hs] at bu;cases bu;rw[acB];cases r' with
   | @lst l xs _ f h rs=>
    have ex:=oK rs h3;subst ex;have DF:f=[]:=by
     have hm:=JM h3;exact rs.aI hm
    subst DF;refine⟨l,ns,vs,br,_,bR,rfl,h,r1,h4,λH' v kp hl rv=>?_⟩;have s2:aG (upd H1 l (.lst (bR.map V.int))) H':=λb o e=>by
     by_cases hb:b=l
     .subst hb;rw[bL] at e;cases e;exact hl
     .rw[aN hb] at e;exact kp b o hb e
    have dH:=Ok.vP bD h2 hs zz aah h rfl (d1:=.lst (bR.map D.int)) (o':=.lst (bR.map V.int)) (.lst bL (nH bR));refine q H' v (dH.same s2) (s1.trans ⟨(bH.upd h rfl).trans (.of s2),λb o zb e=>?_⟩) rv;exact kp b o (λhb=>by subst hb;rw[zz.2 _ aah] at zb;cases zb) e
  .cases e0
 .cases e0
def su(i:Nat)(f:XF):SF:=λρ=>match f ρ with
 |some (d,ρ')=>some (.nx (jI ρ' i d .own))
 |none=>none
theorem pX(i:Nat){x:Str}{pos':Pos}(he:FX X e f)(hN:X.N.Nodup)(hi:X.N[i]? = some x:=by rfl)(hx:Loc X.env.scope x:=by first|exact Or.inl rfl|exact Or.inr rfl)
  (hs:swapsWith e (some (.Name x pos')) pos.line X.env=pure false:=by rfl) (hf:X.fn x=true\/X.env.scope.names.lookup x=some .local:=by first|exact .inl rfl|exact .inr rfl) (m_:kT X x=false:=by rfl):dO X (.Assign [.Name x pos'] e pos) (su i f):=by
 obtain⟨t,p,q⟩:=he;exists 23,Iq hN hi hx p hs hf;unfold su at e;cases h:f ρ with
 |none=>rw[h] at e;cases e
 |some w=>
  obtain⟨d,aD⟩:=w;rw[h] at e;cases e;refine q ok h λH1 v bD s1 r1=>?_
  exact bD.stored (aG.refl H1) r1 .nil λz' a_=>k z' _ H1 a_ (.set hi m_)
noncomputable def oj:List Int->List D->Option (D×List Int)
 |ns,[.int m]=>if ns=[] then some (.int 0,[]) else if 0<m then some (.int (ns.getLastD 0 % m),ns.dropLast) else none
 |_,_=>none
end
theorem Je{K:PySem.W.Frag}(h:uE K oj vs H Q E):vs.length=2:=by
 obtain⟨a,ns,ws,es,d,bR,rfl,h1,h2,h3,_⟩:=h;rw[acj,<- h2.length];cases es with
 |nil=>cases h3
 |cons e es=>
  cases es with
  |nil=>rfl
  |cons e' es=>cases e<;>cases h3
theorem Ry(hN:N.length=2)(hc:FT X c (tV (e2 oEq (e1 dZ (ai 0)) (eC (.int 0)))))(hz:PE X z (tC (.int 0)))
  (hp:PE X e (sW (rI (λ_ j=>0<j) λi j=>.int (i % j)) (GB X.K "list" NY (t_ 0)) (t_ 1))) (h:uE X.K oj vs H Q E) :
  ∃t,fu X [.If c [.Return (some z) p1] [] p2,.Return (some e) p3] t/\t { nx:=λ_ H'=>Q .aH H',rt:=Q } (start N vs) H:=by
 have hl:=Je h;obtain⟨a,ns,ws,es,d,bR,rfl,h1,h2,h3,q⟩:=h;obtain⟨tt,pt,qt⟩:=hc;refine⟨_,C8 (Ec pt (zM (n6 hz)) BV) (zM (n6 hp)),?_⟩;generalize hf:([]:List Addr)=fp at h2;cases h2 with
 |nil=>cases h3
 | @cons d0 v0 Ny vs0 f1 f2 r1 r2=>
  obtain⟨z1,z2⟩:=adB.mp hf.symm;subst z1 z2;have hv:=ac3 (by simpa using hl);subst hv;cases r2;cases r1<;>try (cases h3;done)
  rename_i m;have st:start N [V.ref a,V.int m]=[some (.ref a),some (.int m)]:=by unfold start;rw[hN];rfl
  rw[st];have ok:Ok X.K H [] (λ_=>none) [] [some (.lst (ns.map D.int),.sh []),some (.int m,.sh [])] [some (.ref a),some (.int m)] H:=by
   refine⟨λi d t e=>?_,(λp m=>nomatch m),(λa j e=>nomatch e),(λa o e _=>e),rfl⟩
   match i,e with
   |0,e=>cases e;exact⟨_,_,rfl,.lst h1 (nH ns),λb _ j e=>nomatch e⟩
   |1,e=>cases e;exact⟨_,_,rfl,.int m,λb m=>nomatch m⟩
  by_cases hn:ns=[]
  .subst hn;have h3:=h3;cases h3;refine qt (b:=true) ok rfl λH1 s1=>?_
   rw[if_pos rfl];exact q H1 _ (λb o _ e=>s1 _ _ e) (s1 _ _ h1) (.int 0)
  .have h3:(if ns=[] then some (D.int 0,([]:List Int)) else if 0<m then some (D.int (ns.getLastD 0 % m),ns.dropLast) else none)=some (d,bR):=h3;rw[aa7 hn] at h3;obtain⟨hm,h3⟩:=ci h3;cases h3;have hb:tV (e2 oEq (e1 dZ (ai 0)) (eC (.int 0))) [some (.lst (ns.map D.int),.sh []),some (.int m,.sh [])]=some false:=by
    show some ((((ns.map D.int).length:Int))==0)=some false;have:((ns.map D.int).length:Int)≠0:=by
     rw[List.length_map];intro z;exact hn (ac3 (by lia))
    rw[acM.mpr this]
   refine qt ok hb λH1 s1=>?_
   rw[aa7 abI];have g1:=s1 _ _ h1;have hlen:=List.length_pos_iff.mpr hn;have hy:(ns.map V.int)[(ns.map V.int).length-1]? = some (.int (ns.getLastD 0)):=by
    rw[List.length_map,acg,aau (by lia),List.getLastD_eq_getLast?,List.getLast?_eq_getElem?,aau (by lia)];rfl
   refine⟨.ref a,rfl,.inl ⟨rfl,_,bG.of g1⟩,a,_,_,rfl,rfl,g1,hy,.int m,rfl,ns.getLastD 0,m,rfl,rfl,hm,?_⟩;refine q _ _ (λb o hb e=>by rw[aN hb];exact s1 _ _ e) ?_ (.int _);rw[bL,List.map_dropLast]
theorem S8{K:PySem.W.Frag}{x qual:Str}{st:Stmt}{fd:FuncData}{N ps:List Str}{k:Nat}(F:gQ K x qual st f fd)(S:m9 N ps (cC st)):
  bT P w K mg base cJ (k+1) f fd ps (bq K λ_=>none):=F.ok S (λvs H Q E ⟨_,_,_,_,e,_⟩=>nomatch e) λaV A outer s H vs Q E hr ⟨_,_,_,_,e,_⟩=>nomatch e
section
variable{X:Cx}{a b:Expr}{fa fb:EF}{pos:Pos}
theorem abW(ha:FP X a fa)(hb:FP X b fb):FP X (.Compare a [.Lt] [b] pos) (e2 oLt fa fb):=pB H_ nU ha hb (jj _)
theorem Zr(ha:FP X a fa)(hb:FP X b fb):FP X (.Compare a [.LtE] [b] pos) (e2 oLe fa fb):=pB CH nU ha hb (jj _)
theorem R_(ha:FP X a fa)(hb:FP X b fb):FP X (.Compare a [.GtE] [b] pos) (e2 p9 fa fb):=pB LS nU ha hb (jj _)
theorem FD(ha:FP X a fa)(hb:FP X b fb):FP X (.Compare a [.Is] [b] pos) (e2 iD fa fb):=pB N9 L_ ha hb (jj _)
end
end L2.Ev
namespace L2.Ev
open PySem
theorem Qg(ls:List Int)(hm:0<m):∃v dz,0<=v/\v<m/\oj ls [.int m]=some (.int v,dz):=by
 by_cases h:ls=[]
 .subst h;exact⟨0,[],adL _,hm,rfl⟩
 .refine⟨ls.getLastD 0 % m,ls.dropLast,Int.emod_nonneg _ (by lia),Int.emod_lt_of_pos _ hm,?_⟩;show(if ls=[] then _ else if 0<m then _ else none)=_;rw[aa7 h,if_pos hm]
theorem abS{g:ji}{w:D×Tag}{G:List Int->List D->Option (D×List Int)}(h0:ρ[i]? = some (some w))(hg:g ρ=some (es,aD))(h1:aD[i]? = some (some (.lst (ls.map D.int),.own)))(h:G ls es=some (d,dz)):
  xM i G g ρ=some (d,cz aD i (.lst (dz.map D.int))):=by
 unfold xM;rw[h0,hg];dsimp only;rw[h1];dsimp only;rw[rG];dsimp only;rw[h];rfl
theorem vC(h:f ρ=some (d,t))(hi:aI d=true):xP f ρ=some (d,ρ):=by unfold xP;rw[h];dsimp only;rw[if_pos hi]
theorem JZ{op:D->D->Option D}(h1:f ρ=some (d1,aD))(h2:g aD=some (d2,aR))(h:op d1 d2=some d):x2 op f g ρ=some (d,aR):=by unfold x2;rw[h1];dsimp only;rw[h2];dsimp only;rw[h];rfl
theorem LK:ur ρ=some ([],ρ):=rfl
theorem vI{g:ji}(h1:f ρ=some (d,aD))(h2:g aD=some (ds,aR)):oB f g ρ=some (d::ds,aR):=by unfold oB;rw[h1];dsimp only;rw[h2]
theorem Wm{g:ji}{f:XF}{ρ aD aR:aE}{ds:List D}{i:Int}{d:D}(h1:g ρ=some (ds,aD))(h2:f aD=some (.int i,aR))(h:bV ds i=some d):xN g f ρ=some (d,aR):=by unfold xN;rw[h1];dsimp only;rw[h2];dsimp only;rw[h];rfl
theorem wo(h:f ρ=some (d,aD)):su i f ρ=some (.nx (aD.set i (some (d,.own)))):=by unfold su;rw[h];rfl
theorem f9:∀ns:List Int,aU (ns.map D.int)=true
 |[]=>rfl
 |n::r=>by rw[aaz];unfold aU;rw[f9 r];rfl
theorem Ic{as bs:List Int}(h:as.length+bs.length<=PySem.sizeLine):uP (.lst (as.map D.int)) (.lst (bs.map D.int))=some (.lst ((as++bs).map D.int)):=by
 show(if(aU (as.map D.int)&&aU (bs.map D.int)&&decide ((as.map D.int).length+(bs.map D.int).length<=PySem.sizeLine))=true then some (D.lst (as.map D.int++bs.map D.int)) else none)=_;rw[f9,f9,List.length_map,List.length_map,abU h,acF];rfl
theorem qY{ns:List Int}:jY (.lst (ns.map D.int))=some (.lst (ns.map D.int)):=by show(if aU (ns.map D.int)=true then some (D.lst (ns.map D.int)) else none)=_;rw[if_pos (f9 ns)]
theorem Nk{ns:List Int}:jY (.tup (ns.map D.int))=some (.lst (ns.map D.int)):=by show(if aU (ns.map D.int)=true then some (D.lst (ns.map D.int)) else none)=_;rw[if_pos (f9 ns)]
theorem G8{ns:List Int}:sr (.lst (ns.map D.int))=some (.tup (ns.map D.int)):=by show(if aU (ns.map D.int)=true then some (D.tup (ns.map D.int)) else none)=_;rw[if_pos (f9 ns)]
theorem aaD{i:Nat}{ρ:aE}{ns:List Int}(h:ρ[i]? = some (some (.lst (ns.map D.int),.own))):vH i ρ=some (.nx (cz ρ i (.lst []))):=by unfold vH;rw[h];dsimp only;rw[if_pos (f9 ns)]
theorem SA(h:ns.length<=63):wz none (some 200) (dI ns)=some (.lst (ns.map D.int)):=by
 show(if aU (ns.map D.int)=true then some (D.lst (cutD (ns.map D.int) none (some 200))) else none)=_;rw[if_pos (f9 ns)];have:cutD (ns.map D.int) none (some 200)=ns.map D.int:=by
  unfold cutD;have e:HT.eV (ns.map D.int).length (ns.map D.int).length (some 200)=(ns.map D.int).length:=by
   have q:=HT.BD (ns.map D.int).length (ns.map D.int).length 200;rw[show((200:Nat):Int)=200 from rfl] at q;rw[q,List.length_map];lia
  rw[HT.Fx,e,List.drop_zero,Nat.sub_zero,aeD]
 rw[this]
theorem Ys{ns:List Int}:Gc (.lst (ns.map D.int))=some (.lst (ns.reverse.map D.int)):=by
 show(if aU (ns.map D.int)=true then some (D.lst (ns.map D.int).reverse) else none)=_;rw[if_pos (f9 ns),List.map_reverse]
open PySem PySem.Spec PyProof.Rows
theorem ay.look{K:PySem.W.Frag}{H:Hp}:∀{es:List (Str×D)}{fs:List (Str×V)}{fp:List Addr}{f:Str}{d:D},es.map (·.1)=fs.map (·.1)->ay K H (es.map (·.2)) (fs.map (·.2)) fp->es.lookup f=some d->∃v g,fs.lookup f=some v/\Rep K H d v g/\∀a∈g,a∈fp
 |[],[],_,_,_,_,_,e=>by cases e
 |[],_::_,_,_,_,k,_,_=>by simp at k
 |_::_,[],_,_,_,k,_,_=>by simp at k
 |(x,d0)::es,(y,v0)::fs,fp,f,d,k,r,e=>by
  simp only[aaz,adH] at k;obtain⟨rfl,k⟩:=k;cases r with
  |cons r1 r2=>
   by_cases hx:(f==x)=true
   .simp only[List.lookup,hx] at e ⊢;cases e;exact⟨v0,_,rfl,r1,λa m=>acf _ m⟩
   .have hx:(f==x)=false:=by simpa using hx
    simp only[List.lookup,hx] at e ⊢;obtain⟨v,g,h1,h2,h3⟩:=ay.look (d:=d) k r2 e;exact⟨v,g,h1,h2,λa m=>aaQ _ (h3 a m)⟩
theorem Dw:∀{es:List (Str×D)}{fs:List (Str×V)}{f:Str},es.map (·.1)=fs.map (·.1)->es.lookup f=none->fs.lookup f=none
 |[],[],_,_,_=>rfl
 |[],_::_,_,k,_=>by simp at k
 |_::_,[],_,k,_=>by simp at k
 |(x,d0)::es,(y,v0)::fs,f,k,e=>by
  simp only[aaz,adH] at k;obtain⟨rfl,k⟩:=k
  by_cases hx:(f==x)=true
  .simp only[List.lookup,hx] at e;cases e
  .have hx:(f==x)=false:=by simpa using hx
   simp only[List.lookup,hx] at e ⊢;exact Dw k e
structure ClsAt(K:PySem.W.Frag)(cn:Str)(C:Addr):Prop where
 ns:PySem.W.nsIn K mainGlobals cn=some (some (.ref C))
 cl:jO K C
theorem Rep.qH{K:PySem.W.Frag}{H:Hp}{cn:Str}(r:Rep K H (.ins cn es) v fp)(hn:PySem.W.nsIn K mainGlobals cn=some (some (.ref C))):
  ∃a dx fs g,v=.ref a/\fp=a::dx::g/\H a=some (.ins C dx fs)/\H dx=some (.own a)/\es.map (·.1)=fs.map (·.1)/\ay K H (es.map (·.2)) (fs.map (·.2)) g:=by
 cases r with
 | @ins _ a C' dx fs _ g h0 h1 h2 h3 h4=>
  rw[hn] at h0;cases h0;exact⟨a,dx,fs,g,rfl,rfl,h1,h2,h3,h4⟩
def NW(cn f:Str)(fa:EF):EF:=λρ=>match fa ρ with
 |some (.ins c es,t)=>if c=cn then(es.lookup f).map λd=>(d,lB t) else none
 |_=>none
section
variable{X:Cx}{a:Expr}{fa:EF}{pos:Pos}
theorem cB.sub(hz:∀a j,z a=some j->∃o,H a=some o)(h:cB z H t f)(s:∀a∈g,a∈f):cB z H (lB t) g:=by
 cases t with
 |sh o=>exact λa m j q=>h a (s a m) j q
 |own=>exact λa m j q=>by obtain⟨o,w⟩:=hz a j q;rw[h.2 a (s a m)] at w;cases w
 |lk=>exact λa m j q=>by obtain⟨o,w⟩:=hz a j q;rw[h.2 a (s a m)] at w;cases w
theorem MU{cn f:Str}{C:Addr}(hC:ClsAt X.K cn C)(na:kQ X.K C f)(ha:FP X a fa)(hb:attributeBase a f X.env (eval a X.env)=eval a X.env:=by rfl):FP X (.Attribute a f pos) (NW cn f fa):=by
 obtain⟨t,p,q⟩:=ha;exists 21,Nt p hb;unfold NW at e;exists h,fa ρ,w,e,0;obtain⟨d0,t0⟩:=w;rw[h] at e;cases d0<;>try (cases e;done)
 rename_i c es;dsimp only at e
 by_cases hc:c=cn
 .subst hc;rw[if_pos rfl] at e;exists hl,es.lookup f,d1,e;cases e;refine q ok h λH1 v fp s1 r1 g1=>?_
  obtain⟨b,dx,fs,g,rfl,rfl,h1,h2,h3,h4⟩:=r1.qH hC.ns;obtain⟨u,gf,h5,h6,h7⟩:=ay.look h3 h4 hl;exact⟨b,C,dx,fs,u,rfl,h1,hC.cl,na,h5,k H1 u gf s1 h6 (cB.sub (λa j e=>(ok.zd a j e).1) g1 λa m=>aas _ (aas _ (h7 a m)))⟩
 .rw[aa7 hc] at e;cases e
end
noncomputable def gO(cn m:Str)(F:List D->Option D)(fo:EF)(g:AF):EF:=λρ=>match fo ρ with
 |some (.ins c es,_)=>if c=cn/\es.lookup m=none then(g ρ).bind λps=>(F (.ins c es::ps.map (·.1))).map λd=>(d,.own) else none
 |_=>none
section
variable{X:Cx}{o e:Expr}{es:List Expr}{fo:EF}{g:AF}{m cn:Str}{apos pos:Pos}{k:Nat}{C f:Addr}{fd:FuncData}{ps:List Str}{F:List D->Option D}{pl:Sem Bool}
theorem K3{ta:TA}(hC:ClsAt X.K cn C)(q:∀{H0:Hp}{S:List Addr}{z:Addr->Option Nat}{Q:VK}{d:D}{tg:Tag},Ok X.K H0 S z aq ρ σ H->fo ρ=some (d,tg)->(∀H' v fp,aG H H'->Rep X.K H' d v fp->cB z H tg fp->Q v H')->t σ H Q)
  (qa:∀{H0:Hp}{S:List Addr}{z:Addr->Option Nat}{aq:List ck}{ρ:aE}{σ:St}{H:Hp}{Q:List V->Hp->Prop}{ps:List (D×Tag)},Ok X.K H0 S z aq ρ σ H->g ρ=some ps->(∀H' vs fp,aG H H'->ay X.K H' (ps.map (·.1)) vs fp->cB z H (iw ps) fp->Q vs H')->ta σ H Q)
  (ok:Ok X.K H0 S z aq ρ σ H) (e0:gO cn m F fo g ρ=some (d,tg)) (kk:∀H' v fp,aG H H'->Rep X.K H' d v fp->cB z H tg fp->Q v H') :
  wQ C m (bq X.K F) [] E0 t ta σ H Q:=by
 unfold gO at e0;cases h:fo ρ with
 |none=>rw[h] at e0;cases e0
 |some w=>
  obtain⟨d0,t0⟩:=w;rw[h] at e0;cases d0<;>try (cases e0;done)
  rename_i c DT;dsimp only at e0
  by_cases hc:c=cn/\DT.lookup m=none
  .rw[if_pos hc] at e0;obtain⟨rfl,hm⟩:=hc;cases h2:g ρ with
   |none=>rw[h2] at e0;cases e0
   |some qs=>
    rw[h2,acq] at e0;cases h3:F (.ins c DT::qs.map (·.1)) with
    |none=>rw[h3] at e0;cases e0
    |some d1=>
     rw[h3] at e0;cases e0;refine q ok h λH1 v fp s1 r1 g1=>?_
     obtain⟨b,dx,fs,gf,rfl,rfl,h4,h5,h6,h7⟩:=r1.qH hC.ns;refine⟨b,dx,fs,rfl,h4,Dw h6 hm,?_⟩;refine qa (ok.same s1) h2 λH2 vs lY s2 r2 _=>?_
     rw[acB];exact⟨_,_,d,.cons (r1.same s2) r2,h3,λH3 u eX s3 r3 nd fr=>kk H3 u eX ((s1.trans s2).trans s3) r3 ⟨nd,λa m=>s1.free (s2.free (fr a m))⟩⟩
  .rw[aa7 hc] at e0;cases e0
theorem kD(hC:ClsAt X.K cn C)(hm:nK X.K C m f)(G:bT X.prog X.w X.K X.mg X.base cJ k f fd ps (bq X.K F))(hr:bh k X.A)(hb:Binds X.K fd ps [])(ho:FP X o fo)(ha:FA X (e::es) g)
  (fC:SE X e es pos:=by exact⟨rfl,rfl⟩)
  (ht:DB X o m apos (e::es) pos pl:=by exact rfl):FP X (.Call (.Attribute o m apos) (e::es) [] pos) (gO cn m F fo g):=by
 obtain⟨t,p,q⟩:=ho;obtain⟨ta,pa,_,qa⟩:=ha;exact⟨_,NG (pl:=pl) p hC.cl hm G hr hb .nil nY pa fC.1 fC.2 ht,@λH0 S z aq ρ σ H Q d tg ok e0 kk=>K3 hC q qa ok e0 kk⟩
theorem C6(hC:ClsAt X.K cn C)(hm:nK X.K C m f)(G:bT X.prog X.w X.K X.mg X.base cJ k f fd ps (bq X.K F))(hr:bh k X.A)(hb:Binds X.K fd ps [])(ho:FP X o fo)
  (ht:DB X o m apos [] pos pl:=by exact rfl):FP X (.Call (.Attribute o m apos) [] [] pos) (gO cn m F fo aX):=by
 obtain⟨t,p,q⟩:=ho;obtain⟨ta,pa,_,qa⟩:=aJ (X:=X);refine⟨_,QV (pl:=pl) p hC.cl hm G hr hb .nil nY ht,@λH0 S z aq ρ σ H Q d tg ok e0 kk=>K3 (ta:=rD) (g:=aX) hC q (@λ_ _ _ _ _ _ H _ _ _ e q=>by cases e;exact q H _ _ (aG.refl H) .nil .nil) ok e0 kk⟩
end
noncomputable abbrev MF:=D->List D->Option (D×D)
def iK(K:PySem.W.Frag)(G:MF):Sp:=λvs H Q _=>∃a ws d0 aT ds cE r d1,vs=V.ref a::ws/\Rep K H d0 (.ref a) aT/\aT.Nodup/\ay K H ds ws cE/\(∀b∈cE,b∉aT)/\G d0 ds=some (r,d1)/\
 ∀H' v bX,bH H H'->(∀b o,b∉aT->H b=some o->H' b=some o)->Rep K H' d1 (.ref a) bX->bX.Nodup->(∀b∈bX,b∈aT\/H b=none)->Rep K H' r v []->Q v H'
def apart(i:Nat)(ps:List (D×Tag)):Bool:=match iw ps with
 |.sh o=>!o.contains i
 |_=>true
theorem HM{K:PySem.W.Frag}{H0:Hp}{S:List Addr}{z:Addr->Option Nat}{aq:List ck}{ps:List (D×Tag)}(ok:Ok K H0 S z aq ρ σ H)(h:apart i ps=true)(g:cB z H (iw ps) fp)(zz:qV z i .own aT):∀b∈fp,b∉aT:=by
 intro b m n;unfold apart at h;have zb:=zz.2 b n;cases ht:iw ps with
 |sh o=>
  rw[ht] at h g;have:=g b m i zb;simp at h;exact h this
 |own=>
  rw[ht] at g;obtain⟨⟨o,w⟩,_⟩:=ok.zd b i zb;rw[g.2 b m] at w;cases w
 |lk=>
  rw[ht] at g;obtain⟨⟨o,w⟩,_⟩:=ok.zd b i zb;rw[g.2 b m] at w;cases w
def xO(i:Nat)(cn m:Str)(G:MF)(g:AF):XF:=λρ=>match ρ[i]?,g ρ with
 |some (some (.ins c es,.own)),some ps=>if c=cn/\es.lookup m=none/\apart i ps=true then(G (.ins c es) (ps.map (·.1))).map λw=>(w.1,cz ρ i w.2) else none
 |_,_=>none
theorem WZ{i:Nat}{cn m:Str}{G:MF}{g:AF}{ρ ρ':aE}{r:D}(e:xO i cn m G g ρ=some (r,ρ')):∃es ps d1,ρ[i]? = some (some (.ins cn es,.own))/\g ρ=some ps/\es.lookup m=none/\apart i ps=true/\G (.ins cn es) (ps.map (·.1))=some (r,d1)/\ρ'=cz ρ i d1:=by
 unfold xO at e
 split at e
 .rename_i c es ps h1 h2
  by_cases hc:c=cn/\es.lookup m=none/\apart i ps=true
  .rw[if_pos hc] at e;obtain⟨rfl,hm,ha⟩:=hc;exists h3,G (.ins c es) (ps.map (·.1)),w,e;cases e;exact⟨es,ps,w.2,h1,h2,hm,ha,h3,rfl⟩
  .rw[aa7 hc] at e;cases e
 .cases e
def FZ(X:Cx)(e:Expr)(f:XF):Prop:=∃t,PE X e t/\∀{H0:Hp}{S:List Addr}{z:Addr->Option Nat}{aq:List ck}{ρ:aE}{σ:St}{H:Hp}{Q:VK}{d:D}{ρ':aE},
 Ok X.K H0 S z aq ρ σ H->f ρ=some (d,ρ')->(∀z' H' v,Ok X.K H0 S z' aq ρ' σ H'->Rep X.K H' d v []->Q v H')->t σ H Q
section
variable{X:Cx}{e:Expr}{es:List Expr}{g:AF}{m cn x:Str}{p1 apos pos:Pos}{k:Nat}{C f:Addr}{fd:FuncData}{ps:List Str}{G:MF}{pl:Sem Bool}{fx:XF}
theorem WA{i:Nat}{ta:TA}(hC:ClsAt X.K cn C)(hN:X.N[i]? = some x)
  (qa:∀{H0:Hp}{S:List Addr}{z:Addr->Option Nat}{aq:List ck}{ρ:aE}{σ:St}{H:Hp}{Q:List V->Hp->Prop}{ps:List (D×Tag)},Ok X.K H0 S z aq ρ σ H->g ρ=some ps->(∀H' vs fp,aG H H'->ay X.K H' (ps.map (·.1)) vs fp->cB z H (iw ps) fp->Q vs H')->ta σ H Q)
  {H0:Hp} (ok:Ok X.K H0 S z aq ρ σ H) (e0:xO i cn m G g ρ=some (d,ρ')) (kk:∀z' H' v,Ok X.K H0 S z' aq ρ' σ H'->Rep X.K H' d v []->Q v H') :
  wQ C m (iK X.K G) [] E0 (t_ i) ta σ H Q:=by
 obtain⟨DT,qs,d1,h1,h2,hm,vX,hG,rfl⟩:=WZ e0;obtain⟨v,aT,hs,r0,zz⟩:=ok.sl i _ _ h1;refine⟨v,hs,?_⟩;obtain⟨b,dx,fs,gf,rfl,Lm,h4,h5,h6,h7⟩:=r0.qH hC.ns;refine⟨b,dx,fs,rfl,h4,Dw h6 hm,?_⟩;refine qa ok h2 λH2 vs lY s2 r2 g2=>?_
 rw[acB];have dH:=ok.same s2;refine⟨b,vs,_,aT,_,lY,d,d1,rfl,r0.same s2,zz.1,r2,HM ok vX g2 zz,hG,λH3 u bX im kp r1 nd fr rr=>?_⟩;obtain⟨z',iF⟩:=dH.put h1 hs zz im kp r1 nd fr;exact kk z' H3 u iF rr
theorem Wt(i:Nat)(hC:ClsAt X.K cn C)(hm:nK X.K C m f)(GG:bT X.prog X.w X.K X.mg X.base cJ k f fd ps (iK X.K G))(hr:bh k X.A)(hb:Binds X.K fd ps [])(ha:FA X (e::es) g)(va:VA X i x:=by walk_at "va")
  (fC:SE X e es pos:=by exact⟨rfl,rfl⟩)
  (ht:DB X (.Name x p1) m apos (e::es) pos pl:=by exact rfl):FZ X (.Call (.Attribute (.Name x p1) m apos) (e::es) [] pos) (xO i cn m G g):=by
 obtain⟨ta,pa,_,qa⟩:=ha;exact⟨_,NG (pl:=pl) va.pe hC.cl hm GG hr hb .nil nY pa fC.1 fC.2 ht,@λH0 S z aq ρ σ H Q d ρ' ok e0 kk=>WA hC va.N qa ok e0 kk⟩
noncomputable def sZ(f:XF):SF:=λρ=>(f ρ).map λw=>.nx w.2
theorem YT(he:FZ X e fx)(gZ:swapsWith e none pos.line X.env=pure false:=by rfl):dO X (.Expr e pos) (sZ fx):=by
 obtain⟨t,p,q⟩:=he;exists 23,uI p gZ;unfold sZ at e;exists h,fx ρ,w,e,0;obtain⟨d,aD⟩:=w;rw[h] at e;cases e;exact q ok h λz' H1 v bD r1=>k z' σ H1 bD (.refl _ _)
end
noncomputable def ED(cn:Str)(G:MF)(g:AF):EF:=λρ=>(g ρ).bind λps=>match G (.ins cn []) (ps.map (·.1)) with
 |some (.aH,d)=>some (d,.own)
 |_=>none
section
variable{X:Cx}{e:Expr}{es:List Expr}{g:AF}{cn x:Str}{p pos:Pos}{k:Nat}{C f:Addr}{fd:FuncData}{ps:List Str}{G:MF}
theorem make_core{H1:Hp}{vs:List V}{fp:List Addr}{Q:VK}(hn:PySem.W.nsIn X.K mainGlobals cn=some (some (.ref C)))(r1:ay X.K H1 ds vs fp)(h3:G (.ins cn []) ds=some (.aH,d))(kk:∀H' v fp,aG H1 H'->Rep X.K H' d v fp->fp.Nodup->(∀a∈fp,H1 a=none)->Q v H'):
  ∀x dx,H1 x=none->H1 dx=none->dx≠x->iK X.K G (.ref x::(vs++[])) (upd (upd H1 dx (.own x)) x (.ins C dx [])) (λv H2=>v=.aH/\Q (.ref x) H2) E0:=by
 intro b dx nb xK ne;rw[acB];have s2:aG H1 (upd (upd H1 dx (.own b)) b (.ins C dx [])):=λc o e=>by rw[aN (cD e nb),aN (cD e xK)];exact e
 refine⟨b,vs,.ins cn [],[b,dx],_,fp,.aH,d,rfl,.ins hn bL (by rw[aN ne];exact bL) rfl .nil,?_,r1.same s2,λc m n=>?_,h3,λH3 u bX im kp r3 nd fr rr=>?_⟩
 .exact acd.mpr ⟨λm=>ne (aat.mp m).symm,acd.mpr ⟨(λm=>nomatch m),aci⟩⟩
 .obtain⟨o,w,_⟩:=r1.dw c m;rcases aaG.mp n with e|n
  .rw[e,nb] at w;cases w
  .rw[aat.mp n,xK] at w;cases w
 .cases rr;refine⟨rfl,kk H3 _ bX (λc o e=>?_) r3 nd λc m=>?_⟩
  .refine kp c o (λn=>?_) (s2 c o e);rcases aaG.mp n with q|n
   .rw[q,nb] at e;cases e
   .rw[aat.mp n,xK] at e;cases e
  .rcases fr c m with q|q
   .rcases aaG.mp q with q|q
    .rw[q];exact nb
    .rw[aat.mp q];exact xK
   .exact s2.free q
theorem Yl{ta:TA}(hn:PySem.W.nsIn X.K mainGlobals cn=some (some (.ref C)))
  (qa:∀{H0:Hp}{S:List Addr}{z:Addr->Option Nat}{aq:List ck}{ρ:aE}{σ:St}{H:Hp}{Q:List V->Hp->Prop}{ps:List (D×Tag)},Ok X.K H0 S z aq ρ σ H->g ρ=some ps->(∀H' vs fp,aG H H'->ay X.K H' (ps.map (·.1)) vs fp->cB z H (iw ps) fp->Q vs H')->ta σ H Q)
  {H0:Hp}{S:List Addr}{z:Addr->Option Nat}{aq:List ck}{ρ:aE}{σ:St}{H:Hp}{Q:VK}{d:D}{tg:Tag} (ok:Ok X.K H0 S z aq ρ σ H) (e0:ED cn G g ρ=some (d,tg)) (kk:∀H' v fp,aG H H'->Rep X.K H' d v fp->cB z H tg fp->Q v H') :
  Ml C (iK X.K G) [] E0 ta σ H Q:=by
 unfold ED at e0;exists h2,g ρ,qs,e0,0;rw[h2,acq] at e0;exists h3,G (.ins cn []) (qs.map (·.1)),w,e0,0;obtain⟨r,d1⟩:=w;rw[h3] at e0;cases r<;>try (cases e0;done)
 cases e0;refine qa ok h2 λH1 vs fp s1 r1 _=>?_
 exact make_core hn r1 h3 λH' v fp s2 r3 nd fr=>kk H' v fp (s1.trans s2) r3 ⟨nd,λa m=>s1.free (fr a m)⟩
theorem QN(hn:PySem.W.nsIn X.K mainGlobals cn=some (some (.ref C)))(M:Mk X.K C f)(GG:bT X.prog X.w X.K X.mg X.base cJ k f fd ps (iK X.K G))(hr:bh (k+1) X.A)(hm:X.mg x=some (.ref C))(hb:Binds X.K fd ps [])(hg:GD X x:=by exact⟨rfl,by decide⟩):
  FP X (.Call (.Name x p) [] [] pos) (ED cn G aX):=
 ⟨_,Vx M GG hr hg.1 hm hb .nil nY hg.2,@λH0 S z aq ρ σ H Q d tg ok e0 kk=>Yl (ta:=rD) (g:=aX) hn (@λ_ _ _ _ _ _ H _ _ _ e q=>by cases e;exact q H _ _ (aG.refl H) .nil .nil) ok e0 kk⟩
end
end L2.Ev
namespace L2
open PySem PySem.Spec PyProof.Rows
section
variable{X:Cx}
noncomputable abbrev Cx.lF(X:Cx)(xs:List Str):Cx:={ X with fn:=λy=>!(xs.contains y) }
theorem fu.lF{st:List Stmt}(hX:X.fn=λ_=>true)(h:fu (X.lF xs) st t):fu X st t:=λaf s σ H W I hw=>by
 have I':Inv (X.lF xs) af σ H s:=⟨⟨I.ok.mod,I.ok.kind,I.ok.glob,I.ok.blt,I.ok.above,I.ok.inj,I.ok.has,λx c _ e=>I.ok.rJ x c (by rw[hX]) e,I.ok.hd,I.ok.frames,I.ok.ue,I.ok.zp,I.ok.bs,I.ok.jh,I.ok.qT,I.ok.se,I.ok.jc,I.ok.n5⟩,I.os,I.bare,I.base,I.loc,I.cell,I.free,I.iJ,I.pin,I.aC,I.len,I.hq⟩
 have back:∀{aB:St}{H':Hp}{s':Shared},Inv (X.lF xs) af aB H' s'->Inv X af aB H' s':=λJ=>⟨I.ok,J.os,J.bare,J.base,J.loc,J.cell,J.free,J.iJ,J.pin,J.aC,J.len,J.hq⟩
 refine acC (h af s σ H W I' hw) (λf s' q=>?_) λ_ _ z=>z
 cases f with
 |next=>obtain⟨a,b,J,q⟩:=q;exact⟨a,b,back J,q⟩
 |brk=>obtain⟨a,b,J,q⟩:=q;exact⟨a,b,back J,q⟩
 |cont=>obtain⟨a,b,J,q⟩:=q;exact⟨a,b,back J,q⟩
 |ret u=>obtain⟨v,a,b,J,r,q⟩:=q;exact⟨v,a,b,back J,r,q⟩
end
end L2
namespace L2.Ev
open PySem PySem.Spec PyProof.Rows
def uw(im:Bool)(X:Cx)(H0:Hp)(S:List Addr)(aq:List ck)(lR:St)(E:Ends):Out->Prop
 |.rt p=>∃r d0,p=.tup [r,d0]/\∀z ρ σ H v b_,Ok X.K H0 S z aq ρ σ H->ρ[0]? = some (some (d0,.own))->Kp X lR σ->Rep X.K H r v b_->b_.Nodup->(∀b∈b_,(H0 b=none\/b∈S)/\z b≠some 0)->(im=true->b_=[])->E.rt v H
 |o=>l_ X H0 S aq lR E o
def k8(im:Bool)(X:Cx)(st:List Stmt)(f:SF):Prop:=∃t,fu X st t/\∀{H0:Hp}{S:List Addr}{z:Addr->Option Nat}{aq:List ck}{ρ:aE}{σ:St}{H:Hp}{E:Ends}{o:Out},
 Ok X.K H0 S z aq ρ σ H->f ρ=some o->uw im X H0 S aq σ E o->t E σ H
def pL(im:Bool)(X:Cx)(st:Stmt)(f:SF):Prop:=∃t,PS X st t/\∀{H0:Hp}{S:List Addr}{z:Addr->Option Nat}{aq:List ck}{ρ:aE}{σ:St}{H:Hp}{E:Ends}{o:Out},
 Ok X.K H0 S z aq ρ σ H->f ρ=some o->uw im X H0 S aq σ E o->t E σ H
noncomputable abbrev Hl:=pL false
theorem uw.of{im:Bool}{X:Cx}{H0:Hp}{S:List Addr}{aq:List ck}{σ aB:St}{E:Ends}{o:Out}(k:uw im X H0 S aq σ E o)(a:Kp X σ aB):uw im X H0 S aq aB E o:=by
 cases o with
 |nx ρ=>exact l_.of (o:=.nx ρ) k a
 |bk ρ=>exact l_.of (o:=.bk ρ) k a
 |ct ρ=>exact l_.of (o:=.ct ρ) k a
 |er raw cn ρ=>exact qS.of k a
 |rt d=>obtain⟨r,d0,e,k⟩:=k;exact⟨r,d0,e,λz ρ s H v b_ ok h b=>k z ρ s H v b_ ok h (a.trans b)⟩
noncomputable def lT(f:SF):SF:=λρ=>match f ρ with
 |some (.nx ρ')=>some (.nx ρ')
 |some (.bk ρ')=>some (.bk ρ')
 |some (.ct ρ')=>some (.ct ρ')
 |some (.er raw cn ρ')=>some (.er raw cn ρ')
 |_=>none
section
variable{im:Bool}{X:Cx}{pos:Pos}{st:Stmt}{rest:List Stmt}{f g:SF}
theorem jo(h:dO X st f):pL im X st (lT f):=by
 obtain⟨t,p,q⟩:=h;refine⟨t,p,@λH0 S z aq ρ σ H E o ok e k=>?_⟩;unfold lT at e;exists h,f ρ,w,e;refine q ok h ?_;cases w<;>first|(cases e;done)|(cases e;exact k)
theorem HF:k8 im X [] cP:=⟨_,BV,@λ_ _ z _ _ σ H _ _ ok e k=>by cases e;exact k z σ H ok (.refl _ _)⟩
theorem p8(h:pL im X st f):k8 im X [st] f:=let⟨t,p,q⟩:=h;⟨t,zM p,q⟩
theorem i_(h1:pL im X st f)(h2:k8 im X rest g):k8 im X (st::rest) (bO f g):=by
 obtain⟨t,p,q⟩:=h1;obtain⟨t',p',q'⟩:=h2;exists 23,C8 p p';unfold bO at e;exists h,f ρ,w,e,0;refine q ok h ?_;rw[h] at e;cases w with
 |nx ρ'=>exact λz' aB H' a_ a=>q' a_ e (k.of a)
 |rt d=>cases e;exact k
 |bk ρ'=>cases e;exact k
 |ct ρ'=>cases e;exact k
 |er _ _ _=>cases e;exact k
theorem rM{c:Expr}{a b:List Stmt}{tc:TF}(hc:FT X c tc)(ha:k8 im X a f)(hb:k8 im X b g):pL im X (.If c a b pos) (cQ tc f g):=by
 obtain⟨t,p,q⟩:=hc;obtain⟨t1,p1,q1⟩:=ha;obtain⟨t2,p2,q2⟩:=hb;exists 23,Ec p p1 p2;unfold cQ at e;exists h,tc ρ,y,e;refine q ok h λH1 s1=>?_
 cases y with
 |true=>rw[if_pos rfl];exact q1 (ok.same s1) e k
 |false=>rw[aa7 abI];exact q2 (ok.same s1) e k
theorem J9:pL im X st EV:=⟨_,Jp,@λ_ _ _ _ _ _ _ _ _ _ e _=>by cases e⟩
def zO(f:EF):SF:=λρ=>match f ρ,ρ[0]? with
 |some (r,_),some (some (d0,Tag.own))=>if aI r=true then some (.rt (.tup [r,d0])) else none
 |_,_=>none
theorem Q9{f:EF}(he:FP X e f):pL im X (.Return (some e) pos) (zO f):=by
 obtain⟨t,p,q⟩:=he;exists 23,n6 p;unfold zO at e
 split at e
 .rename_i r tg d0 h1 h2;obtain⟨hi,e⟩:=ci e;cases e;obtain⟨r',Mi,ee,k⟩:=k;cases ee;refine q ok h1 λH1 v fp s1 r1 _=>?_
  have hn:=r1.aI hi;subst hn;exact k z ρ σ H1 v [] (ok.same s1) h2 (.refl _ _) r1 aci (λb m=>nomatch m) λ_=>rfl
 .cases e
end
noncomputable def yN(n:Nat)(d0:D)(ds:List D):aE:=some (d0,.own)::(ds.map (λd=>some (d,.sh []))++List.replicate (n-(ds.length+1)) none)
def runM(n N:Nat)(b:SF):MF:=λd0 ds=>if ds.length + 1=n then(match b (yN N d0 ds) with
 |some (.rt (.tup [r,d1]))=>some (r,d1)
 |some (.nx ρ)=>match ρ[0]? with
  |some (some (d1,Tag.own))=>some (.aH,d1)
  |_=>none
 |_=>none) else none
def yi(im:Bool)(K:PySem.W.Frag)(G:MF):Sp:=λvs H Q _=>∃v0 ws d0 aT ds cE r d1,vs=v0::ws/\Rep K H d0 v0 aT/\aT.Nodup/\ay K H ds ws cE/\(∀b∈cE,b∉aT)/\G d0 ds=some (r,d1)/\
 ∀H' v bX b_,bH H H'->(∀b o,b∉aT->H b=some o->H' b=some o)->Rep K H' d1 v0 bX->bX.Nodup->(∀b∈bX,b∈aT\/H b=none)->Rep K H' r v b_->b_.Nodup->(∀b∈b_,(b∈aT\/H b=none)/\b∉bX)->(im=true->b_=[])->Q v H'
def lJ(K:PySem.W.Frag)(G:MF):Sp:=λvs H Q _=>∃v0 ws d0 aT ds cE r d1,vs=v0::ws/\Rep K H d0 v0 aT/\aT.Nodup/\ay K H ds ws cE/\(∀b∈cE,b∉aT)/\G d0 ds=some (r,d1)/\
 ∀H' v bX b_,bH H H'->(∀b o,b∉aT->H b=some o->H' b=some o)->Rep K H' d1 v0 bX->bX.Nodup->(∀b∈bX,b∈aT\/H b=none)->Rep K H' r v b_->b_.Nodup->(∀b∈b_,(b∈aT\/H b=none)/\b∉bX)->Q v H'
section
variable{P:Program}{w:World}{K:PySem.W.Frag}{mg:Str->Option Value}{base:Heap}
theorem Z8:∀vs H Q E,iK K G vs H Q E->yi true K G vs H Q E:=λ_ _ _ _ ⟨a,ws,d0,aT,ds,cE,r,d1,h1,h2,h3,h4,h5,h6,q⟩=>⟨.ref a,ws,d0,aT,ds,cE,r,d1,h1,h2,h3,h4,h5,h6,λH' v bX b_ a1 a2 a3 a4 a5 a6 _ _ e=>q H' v bX a1 a2 a3 a4 a5 (by rw[<- e rfl];exact a6)⟩
theorem S9:∀vs H Q E,lJ K G vs H Q E->yi false K G vs H Q E:=λ_ _ _ _ ⟨v0,ws,d0,aT,ds,cE,r,d1,h1,h2,h3,h4,h5,h6,q⟩=>⟨v0,ws,d0,aT,ds,cE,r,d1,h1,h2,h3,h4,h5,h6,λH' v bX b_ a1 a2 a3 a4 a5 a6 a7 a8 _=>q H' v bX b_ a1 a2 a3 a4 a5 a6 a7 a8⟩
theorem QC{st:Stmt}(F:gQ K x qual st f fd)(S:m9 N ps (cC st))(h0:N[0]? = some x0)
  (hb:∀(aV:Value) (A:Around) (outer:List Env) (s:Shared) (H:Hp) (E:XK),bh k (A.deeper (envOfC qual (cC st) s.heap.objs.size f aV))->k8 im ((iO cJ P w K mg base N qual (cC st) f aV A outer s H E).d8.lF [x0]) (f7 st) b) :
  bT P w K mg base cJ (k+1) f fd ps (yi im K (runM ps.length N.length b)):=by
 have xr:∀{d0:D}{ds:List D}{r:D×D},runM ps.length N.length b d0 ds=some r->ds.length+1=ps.length:=λ{d0 ds r} e=>by
  unfold runM at e
  split at e
  .assumption
  .cases e
 refine F.ok S (λvs H Q E ⟨v0,ws,d0,aT,ds,cE,r,d1,e0,_,_,rs,_,e,_⟩=>?_) λaV A outer s H vs Q E hr ⟨v0,ws,d0,aT,ds,cE,r,d1,e0,r0,OA,rs,dj,e,q⟩=>?_
 .rw[e0,acj,<- rs.length,xr e]
 .obtain⟨t,pt,sd⟩:=hb aV A outer s H E hr;refine⟨t,pt.lF rfl,?_⟩;have YM:ay K H [d0] [v0] aT:=by have:=ay.cons r0 .nil;rwa [acB] at this
  obtain⟨z,ok⟩:=Ok.IX YM OA rs dj;rw[e0];have fin:∀{z:Addr->Option Nat}{ρ:aE}{σ:St}{H':Hp}{v:V}{b_:List Addr},Ok K H aT z [] ρ σ H'->ρ[0]? = some (some (d1,.own))->Kp ((iO cJ P w K mg base N qual (cC st) f aV A outer s H E).d8.lF [x0]) (start N (v0::ws)) σ->Rep K H' r v b_->b_.Nodup->(∀b∈b_,(H b=none\/b∈aT)/\z b≠some 0)->(im=true->b_=[])->Q v H':=by
   intro z ρ σ H' v b_ a_ h1 kp rr Bw pM hi;obtain⟨u,bX,hs,r1,zz⟩:=a_.sl 0 d1 .own h1;have hk:=kp 0 _ h0 (by
    show(x0==("self":Str)||(!([x0].contains ("self":Str))&&!(!([x0].contains x0))))=true
    by_cases h:x0=("self":Str)
    .rw[h];rfl
    .simp[adx h])
   rw[hk] at hs;cases hs;have st:∀{c:Addr}{o:HO},H c=some o->iN o=false->H' c=some o:=λ{c o} e' mo=>a_.en c _ e' λm=>by
    obtain⟨o',w,vS⟩:=r0.dw c m;rw[e'] at w;cases w;rw[mo] at vS;cases vS
   exact q H' v bX b_ ⟨λc xs e'=>st e' rfl,λc o u e'=>st e' rfl,λc φ e'=>st e' rfl⟩ (λc o n e'=>a_.en c o e' n) r1 zz.1 (λc m=>((a_.zd c 0 (zz.2 c m)).2).symm.imp id id) rr Bw (λc m=>⟨(pM c m).1.symm.imp id id,λm'=>(pM c m).2 (zz.2 c m')⟩) hi
  have hl:=xr e;unfold runM at e;rw[if_pos hl] at e;cases ho:b (yN N.length d0 ds) with
  |none=>rw[ho] at e;cases e
  |some o=>
   rw[ho] at e;refine sd ok ho ?_;cases o with
   |rt p=>
    have hp:p=.tup [r,d1]:=by
     split at e<;>rename_i hh
     .cases e;cases hh;rfl
     .cases hh
     .cases e
    exact⟨r,d1,hp,λz ρ σ H' v b_ a_ h1 kp=>fin a_ h1 kp⟩
   |nx ρ'=>
    dsimp only at e
    split at e
    .rename_i dd h1;cases e;exact λz σ H' a_ kp=>fin a_ h1 kp .aH aci (λb m=>nomatch m) λ_=>rfl
    .cases e
   |bk _=>cases e
   |ct _=>cases e
   |er _ _ _=>cases e
end
noncomputable def gr(f:Str)(d:D):List (Str×D)->List (Str×D)
 |[]=>[(f,d)]
 |(g,x)::r=>if g=f then(g,d)::r else(g,x)::gr f d r
theorem Jz:∀{es:List (Str×D)}{fs:List (Str×V)},es.map (·.1)=fs.map (·.1)->(gr f d es).map (·.1)=(dF f v fs).map (·.1)
 |[],[],_=>rfl
 |[],_::_,k=>by simp at k
 |_::_,[],k=>by simp at k
 |(x,d0)::es,(y,v0)::fs,k=>by
  simp only[aaz,adH] at k;obtain⟨rfl,k⟩:=k;unfold gr dF
  by_cases hx:x=f
  .rw[if_pos hx,if_pos hx,aaz,aaz,k]
  .rw[aa7 hx,aa7 hx,aaz,aaz,Jz k]
theorem LQ:∀{es:List (Str×D)},es.lookup f=some d0->(gr f d es).map (·.1)=es.map (·.1)
 |[],e=>by cases e
 |(x,d1)::es,e=>by
  unfold gr
  by_cases hx:x=f
  .rw[if_pos hx];rfl
  .have hb:=acM.mpr λq=>hx q.symm
   simp only[List.lookup,hb] at e;rw[aa7 hx,aaz,LQ e];rfl
section
variable{K:PySem.W.Frag}{H H':Hp}
theorem ay.dF(rd:Rep K H d v fd):∀{es:List (Str×D)}{fs:List (Str×V)}{g:List Addr},es.map (·.1)=fs.map (·.1)->ay K H (es.map (·.2)) (fs.map (·.2)) g->
  ∃g',ay K H ((gr f d es).map (·.2)) ((L2.dF f v fs).map (·.2)) g'/\(∀a∈g',a∈g\/a∈fd)/\(g.Nodup->fd.Nodup->(∀a∈fd,a∉g)->g'.Nodup)
 |[],[],_,_,r=>by
  cases r;exact⟨fd++[],.cons rd .nil,λa m=>.inr (by simpa using m),λ_ n _=>by simpa using n⟩
 |[],_::_,_,k,_=>by simp at k
 |_::_,[],_,k,_=>by simp at k
 |(x,d0)::es,(y,v0)::fs,_,k,r=>by
  simp only[aaz,adH] at k;obtain⟨rfl,k⟩:=k;cases r with
  | @cons _ _ _ _ f1 f2 r1 r2=>
   unfold gr L2.dF
   by_cases hx:x=f
   .rw[if_pos hx,if_pos hx];refine⟨fd++f2,.cons rd r2,λa m=>(ab3.mp m).elim .inr λm=>.inl (aaQ _ m),λn1 n2 n3=>?_⟩;exact acv.mpr ⟨n2,(acv.mp n1).2.1,λa ma b mb e=>n3 a ma (aaQ _ (e ▸ mb))⟩
   .rw[aa7 hx,aa7 hx];obtain⟨g',h1,h2,h3⟩:=ay.dF rd k r2;refine⟨f1++g',.cons r1 h1,λa m=>?_,λn1 n2 n3=>?_⟩
    .rcases ab3.mp m with m|m
     .exact .inl (acf _ m)
     .exact(h2 a m).imp (aaQ _) id
    .obtain⟨a1,a2,a3⟩:=acv.mp n1;refine acv.mpr ⟨a1,h3 a2 n2 (λa m q=>n3 a m (aaQ _ q)),λa ma b mb e=>?_⟩;rcases h2 b mb with q|q
     .exact a3 a ma b q e
     .exact n3 b q (acf _ (e ▸ ma))
theorem ay.place{f:Str}{d0:D}:∀{es:List (Str×D)}{fs:List (Str×V)}{g:List Addr},es.map (·.1)=fs.map (·.1)->ay K H (es.map (·.2)) (fs.map (·.2)) g->g.Nodup->es.lookup f=some d0->
  ∃v gf,fs.lookup f=some v/\Rep K H d0 v gf/\gf.Nodup/\(∀a∈gf,a∈g)/\∀(H':Hp) (d1:D) (g1:List Addr),bH H H'->(∀b o,b∉gf->H b=some o->H' b=some o)->Rep K H' d1 v g1->g1.Nodup->(∀b∈g1,b∈gf\/H b=none)->
   ∃g',ay K H' ((gr f d1 es).map (·.2)) (fs.map (·.2)) g'/\g'.Nodup/\∀b∈g',b∈g\/H b=none
 |[],_,_,_,_,_,e=>by cases e
 |_::_,[],_,k,_,_,_=>by simp at k
 |(x,d)::es,(y,v0)::fs,_,k,r,nd,e=>by
  simp only[aaz,adH] at k;obtain⟨rfl,k⟩:=k;cases r with
  | @cons _ _ _ _ f1 f2 r1 r2=>
   obtain⟨a1,a2,a3⟩:=acv.mp nd
   by_cases hx:x=f
   .subst hx;have hb:=aec x;simp only[List.lookup,hb] at e ⊢;cases e;refine⟨v0,f1,rfl,r1,a1,λa m=>acf _ m,λH' d1 g1 im kp rr n1 fr=>?_⟩;refine⟨g1++f2,?_,acv.mpr ⟨n1,a2,λa ma b mb e=>?_⟩,λb m=>?_⟩
    .unfold gr;rw[if_pos rfl];refine .cons rr (r2.frame (λa m=>?_) im);obtain⟨o,w,_⟩:=r2.dw a m;rw[kp a o (λq=>a3 a q a m rfl) w,w]
    .subst e;obtain⟨o,w,_⟩:=r2.dw a mb;rcases fr a ma with q|q
     .exact a3 a q a mb rfl
     .rw[q] at w;cases w
    .rcases ab3.mp m with m|m
     .exact(fr b m).imp (acf _) id
     .exact .inl (aaQ _ m)
   .have hb:=acM.mpr λq=>hx q.symm
    simp only[List.lookup,hb] at e ⊢;obtain⟨v,gf,h1,h2,h3,h4,h5⟩:=ay.place k r2 a2 e;refine⟨v,gf,h1,h2,h3,λa m=>aaQ _ (h4 a m),λH' d1 g1 im kp rr n1 fr=>?_⟩;obtain⟨g',c1,c2,c3⟩:=h5 H' d1 g1 im kp rr n1 fr;refine⟨f1++g',?_,acv.mpr ⟨a1,c2,λa ma b mb e=>?_⟩,λb m=>?_⟩
    .unfold gr;rw[aa7 hx];refine .cons (r1.frame (λa m=>?_) im) c1;obtain⟨o,w,_⟩:=r1.dw a m;rw[kp a o (λq=>a3 a m a (h4 a q) rfl) w,w]
    .subst e;obtain⟨o,w,_⟩:=r1.dw a ma;rcases c3 a mb with q|q
     .exact a3 a ma a q rfl
     .rw[q] at w;cases w
    .rcases ab3.mp m with m|m
     .exact .inl (acf _ m)
     .exact(c3 b m).imp (aaQ _) id
theorem Rep.T9{cn f:Str}(r:Rep K H (.ins cn es) v fp)(hn:PySem.W.nsIn K mainGlobals cn=some (some (.ref C)))(nd:fp.Nodup)(e:es.lookup f=some d0):
  ∃a dx fs u gf,(a∉gf/\dx∉gf)/\v=.ref a/\H a=some (.ins C dx fs)/\fs.lookup f=some u/\Rep K H d0 u gf/\gf.Nodup/\(∀b∈gf,b∈fp)/\∀(H':Hp) (d1:D) (g1:List Addr),bH H H'->(∀b o,b∉gf->H b=some o->H' b=some o)->Rep K H' d1 u g1->g1.Nodup->(∀b∈g1,b∈gf\/H b=none)->
   ∃bX,Rep K H' (.ins cn (gr f d1 es)) v bX/\bX.Nodup/\∀b∈bX,b∈fp\/H b=none:=by
 obtain⟨a,dx,fs,g,rfl,rfl,h1,h2,h3,h4⟩:=r.qH hn;obtain⟨n1,n2⟩:=acd.mp nd;obtain⟨n3,n4⟩:=acd.mp n2;obtain⟨u,gf,c1,c2,c3,c4,c5⟩:=ay.place h3 h4 n4 e;refine⟨a,dx,fs,u,gf,⟨λm=>n1 (aas _ (c4 _ m)),λm=>n3 (c4 _ m)⟩,rfl,h1,c1,c2,c3,λb m=>aas _ (aas _ (c4 b m)),λH' d1 g1 im kp rr m1 fr=>?_⟩;obtain⟨g',e1,e2,e3⟩:=c5 H' d1 g1 im kp rr m1 fr;have ka:=kp a _ (λq=>n1 (aas _ (c4 a q))) h1;have kd:=kp dx _ (λq=>n3 (c4 dx q)) h2;refine⟨a::dx::g',.ins hn ka kd (by rw[LQ e];exact h3) e1,?_,λb m=>?_⟩
 .refine acd.mpr ⟨λm=>?_,acd.mpr ⟨λm=>?_,e2⟩⟩
  .rcases aaG.mp m with q|m
   .exact n1 (by rw[q];exact aah)
   .rcases e3 a m with q|q
    .exact n1 (aas _ q)
    .rw[h1] at q;cases q
  .rcases e3 dx m with q|q
   .exact n3 q
   .rw[h2] at q;cases q
 .rcases aaG.mp m with q|m
  .exact .inl (by rw[q];exact aah)
  .rcases aaG.mp m with q|m
   .exact .inl (by rw[q];exact aas _ aah)
   .exact(e3 b m).imp (λq=>aas _ (aas _ q)) id
theorem Rep.place{cn f:Str}{es:List (Str×D)}{v:V}{fp:List Addr}{d0:D}{C:Addr}(r:Rep K H (.ins cn es) v fp)(hn:PySem.W.nsIn K mainGlobals cn=some (some (.ref C)))(nd:fp.Nodup)(e:es.lookup f=some d0):
  ∃a dx fs u gf,v=.ref a/\H a=some (.ins C dx fs)/\fs.lookup f=some u/\Rep K H d0 u gf/\gf.Nodup/\(∀b∈gf,b∈fp)/\∀(H':Hp) (d1:D) (g1:List Addr),bH H H'->(∀b o,b∉gf->H b=some o->H' b=some o)->Rep K H' d1 u g1->g1.Nodup->(∀b∈g1,b∈gf\/H b=none)->
   ∃bX,Rep K H' (.ins cn (gr f d1 es)) v bX/\bX.Nodup/\∀b∈bX,b∈fp\/H b=none:=
 let⟨a,dx,fs,u,gf,_,h⟩:=r.T9 hn nd e;⟨a,dx,fs,u,gf,h⟩
end
theorem Ok.fld{K:PySem.W.Frag}{fs:List (Str×V)}(hC:ClsAt K cn C)(ok:Ok K H0 S z aq ρ σ H)(h:ρ[i]? = some (some (.ins cn es,.own)))
  (hs:σ[i]? = some (some (.ref b))) (hb:H b=some (.ins C dx fs)) (s1:aG H H1) (r1:Rep K H1 d y fd) (nd:fd.Nodup) (fr:∀c∈fd,H c=none):∃z',Ok K H0 S z' aq (cz ρ i (.ins cn (gr f d es))) σ (upd H1 b (.ins C dx (L2.dF f y fs))):=by
 obtain⟨v,aT,bu,r0,zz⟩:=ok.sl i _ _ h;rw[hs] at bu;cases bu;obtain⟨b',dx',Ij,g,e,rfl,h3,h4,h5,h6⟩:=(r0.same s1).qH hC.ns;cases e;rw[s1 _ _ hb] at h3;cases h3;have h3:=s1 _ _ hb;have nE:∀c∈fd,c∉b::dx::g:=λc m n=>by
  obtain⟨⟨o,w⟩,_⟩:=ok.zd c i (zz.2 c n);rw[fr c m] at w;cases w
 have me:b∈b::dx::g:=aah;have md:dx∈b::dx::g:=aas _ aah;have mg:∀{c},c∈g->c∈b::dx::g:=λm=>aas _ (aas _ m)
 obtain⟨n1,n2⟩:=acd.mp zz.1;obtain⟨n3,n4⟩:=acd.mp n2;have ne:∀{c},c∈g->c≠b:=λm q=>n1 (q ▸ aas _ m)
 have im:bH H1 (upd H1 b (.ins C dx (L2.dF f y fs))):=bH.upd h3 rfl;obtain⟨g',c1,c2,c3⟩:=ay.dF (r1.frame (λc m=>aN λq:c=b=>nE c m (q ▸ me)) im) h5 (h6.frame (λc m=>aN (ne m)) im);have out:∀{c},c∈g'->c∈g\/c∈fd:=λ{c} m=>c2 c m
 refine ok.put (bX:=b::dx::g') h hs zz ((bH.of s1).trans im) (λc o n e=>by rw[aN λq:c=b=>n (q ▸ me)];exact s1 c o e) (.ins hC.ns bL (by rw[aN λq:dx=b=>n1 (q ▸ aah)];exact h4) (Jz h5) c1) ?_ λc m=>?_
 .refine acd.mpr ⟨λm=>?_,acd.mpr ⟨λm=>(out m).elim n3 λq=>nE dx q md,c3 n4 nd λc m n=>nE c m (mg n)⟩⟩;rcases aaG.mp m with q|m
  .exact n1 (q ▸ aah)
  .exact(out m).elim (λq=>n1 (aas _ q)) λq=>nE b q me
 .rcases aaG.mp m with q|m
  .exact .inl (q ▸ me)
  .rcases aaG.mp m with q|m
   .exact .inl (q ▸ md)
   .exact(out m).imp mg (fr c)
def Gv(i:Nat)(cn f:Str)(fv:EF):SF:=λρ=>match fv ρ,ρ[i]? with
 |some (d,t),some (some (.ins c es,.own))=>if c=cn/\es.length<1000/\(lG t||aI d)=true then some (.nx (cz ρ i (.ins c (gr f d es)))) else none
 |_,_=>none
section
variable{X:Cx}{a:Expr}{fv:EF}{pos pos' p1 p2 p3:Pos}{x cn f:Str}{C:Addr}
theorem Yh(i:Nat)(hC:ClsAt X.K cn C)(na:kQ X.K C f)(hv:FP X a fv)(va:VA X i x:=by walk_at "va")(hs:swapsWith a (some (.Attribute (.Name x p1) f pos')) pos.line X.env=pure false:=by rfl):dO X (.Assign [.Attribute (.Name x p1) f pos'] a pos) (Gv i cn f fv):=by
 obtain⟨t,p,q⟩:=hv;exists 23,TL va.pe p hs;unfold Gv at e
 split at e
 .rename_i d tg c es h1 h2;obtain⟨hc,e⟩:=ci e;cases e;obtain⟨rfl,hl,ho⟩:=hc;obtain⟨v,aT,bu,r0,zz⟩:=ok.sl i _ _ h2;refine q ok h1 λH1 y fd s1 r1 g1=>⟨v,bu,?_⟩
  obtain⟨b,dx,fs,g,rfl,rfl,h3,h4,h5,h6⟩:=r0.qH hC.ns;have lf:fs.length<1000:=by have:=congrArg List.length h5;rw[List.length_map,List.length_map] at this;lia
  refine⟨b,C,dx,fs,rfl,s1 _ _ h3,hC.cl,na,lf,?_⟩;have g:fd.Nodup/\∀a∈fd,H a=none:=by
   rcases(Bool.or_eq_true _ _).mp ho with h|h
   .cases tg<;>first|exact g1|cases h
   .rw[r1.aI h];exact⟨aci,λc m=>nomatch m⟩
  obtain⟨z',a_⟩:=ok.fld (f:=f) hC h2 bu h3 s1 r1 g.1 g.2;exact k z' σ _ a_ (.refl _ _)
 .cases e
end
section
variable{X:Cx}{a b:Expr}{fa fb:EF}{p pos:Pos}
noncomputable def zT:D->Option D
 |.int i=>some (.int (-i))
 |_=>none
theorem Za(ha:FP X a fa):FP X (.UnaryOp .USub a pos) (e1 zT fa):=by
 obtain⟨t,pa,q⟩:=ha;exists 21,Qe Zs pa;obtain⟨d1,t1,g1,g2,rfl⟩:=nG e;refine q ok g1 λH1 x f1 s1 r1 _=>?_
 cases r1<;>cases g2
 exact⟨_,rfl,k H1 _ [] s1 (.int _) .nil⟩
end
section
variable{X:Cx}{a b c:Expr}{fa fb fc fv:EF}{p p1 p2 p3 pos:Pos}
theorem U4{tk:Tok}(hm:X.mg x=some (.int n tk))(hg:GD X x:=by exact⟨rfl,by decide⟩):FP X (.Name x pos) (eC (.int n)):=
 ⟨_,Xo hg.1 hm (v:=.int n) ⟨_,rfl⟩ hg.2,@λ_ _ _ _ _ _ H _ _ _ _ e q=>by cases e;exact q H _ _ (aG.refl H) (.int n) .nil⟩
noncomputable def B5(o o':D->D->Option D)(fa fb fc:EF):EF:=λρ=>match fa ρ,fb ρ with
 |some (d1,_),some (d2,_)=>match o d1 d2 with
  |some (.bl true)=>match fc ρ with
   |some (d3,_)=>(o' d2 d3).map λd=>(d,.own)
   |none=>none
  |some (.bl false)=>some (.bl false,.own)
  |_=>none
 |_,_=>none
theorem Uu{op pK:CmpOp}{r r':R2}{o o':D->D->Option D}(ho:cG X (compareOp op) r)(jU:cG X (compareOp pK) r')(dd:fJ X.K r o)(jn:fJ X.K r' o')(ha:FP X a fa)(hb:FP X b fb)(hc:FP X c fc)(hm:lastMarks [op,pK] [b,c]=false:=by with_unfolding_all rfl):
  FP X (.Compare a [op,pK] [b,c] pos) (B5 o o' fa fb fc):=by
 obtain⟨ta,pa,sa⟩:=ha;obtain⟨tb,pb,sb⟩:=hb;obtain⟨tc,pc,sc⟩:=hc;exists 21,abL ho jU pa pb pc hm;unfold B5 at e
 split at e
 .rename_i d1 t1 d2 t2 e1 e2;refine sa ok e1 λH1 x f1 s1 r1 _=>?_
  refine sb (ok.same s1) e2 λH2 y f2 s2 r2 _=>?_
  exists h,o d1 d2,w,e,0;refine dd H2 x y d1 d2 f1 f2 w _ (r1.same s2) r2 h λH3 u s3 r3=>?_
  rw[h] at e;cases w<;>try (cases e;done)
  rename_i b';cases r3;refine⟨b',rfl,?_⟩;cases b' with
  |false=>
   cases e;rw[aa7 abI];exact k H3 _ [] ((s1.trans s2).trans s3) (.bl false) .nil
  |true=>
   rw[if_pos rfl];dsimp only at e;exists h3,fc ρ,w3,e,0;obtain⟨d3,t3⟩:=w3;rw[h3] at e;dsimp only at e;cases h4:o' d2 d3 with
   |none=>rw[h4] at e;cases e
   |some d4=>
    rw[h4] at e;cases e;refine sc (((ok.same s1).same s2).same s3) h3 λH4 w' f4 s4 r4 _=>?_
    exact jn H4 y w' d2 d3 f2 f4 d Q ((r2.same s3).same s4) r4 h4 λH5 v5 s5 r5=>k H5 v5 [] ((((s1.trans s2).trans s3).trans s4).trans s5) r5 .nil
 .cases e
theorem Ov(ha:FP X a fa)(hb:FP X b fb)(hc:FP X c fc)(hm:lastMarks [.LtE,.LtE] [b,c]=false:=by with_unfolding_all rfl):FP X (.Compare a [.LtE,.LtE] [b,c] pos) (B5 oLe oLe fa fb fc):=Uu CH CH nU nU ha hb hc hm
def FO(neg:Bool):D->D->Option D:=λkd dd=>match dd with
 |.bS es=>(gJ kd).map λk=>.bl (if neg=true then !(dW es k).isSome else(dW es k).isSome)
 |_=>none
def UK(neg:Bool):R2:=λy x H Q=>∃a o,x=.ref a/\iT H a y o/\Q (.bl (if neg=true then !o.isSome else o.isSome)) H
theorem Pb{K:PySem.W.Frag}:fJ K (UK neg) (FO neg):=by
 intro H y x d1 d2 f1 f2 d Q r1 r2 e k;cases r2 with
 | @bS a aj es fp h hk rs=>
  have e:((gJ d1).map λk=>D.bl (if neg=true then !(dW es k).isSome else(dW es k).isSome))=some d:=e;exists vq,gJ d1,key,e;cases e;have ek:=r1.key vq;subst ek;have ev:(g8 aj key).isSome=(dW es key).isSome:=by
   obtain⟨h1,h2⟩:=xu hk rs;cases hv:dW es key with
   |none=>rw[h2 hv];rfl
   |some dv=>obtain⟨v,f,tR,_⟩:=h1 dv hv;rw[tR];rfl
  refine⟨a,g8 aj key,rfl,iT.k h,?_⟩;rw[ev];exact k H _ (aG.refl H) (.bl _)
 |_=>cases e
theorem Yp(hu:X.A.units+1<cLine)(ha:FP X a fa)(hb:FP X b fb)(hm:behindInMarks .In b=false:=by rfl):FP X (.Compare a [.In] [b] pos) (e2 (FO false) fa fb):=
 fp_2 Pb ha hb λta tb pa pb=>VT (aaU hu pa pb) hm
end
section
variable{X:Cx}{a b o:Expr}{fa fb fv fo:EF}{p p1 p2 p3 pos:Pos}{x cn f:Str}{C:Addr}
def wD(i:Nat)(cn f:Str)(fv:EF):SF:=λρ=>match fv ρ,ρ[i]? with
 | some (d,_),some (some (.ins c es,.own))=>if c=cn then(match es.lookup f with
  |some (.lst ds)=>if(aI d&&aU ds&&decide (ds.length<sizeLine))=true then some (.nx (cz ρ i (.ins c (gr f (.lst (ds++[d])) es)))) else none
  |_=>none) else none
 |_,_=>none
theorem Xa(i:Nat)(hC:ClsAt X.K cn C)(na:kQ X.K C f)(hv:FP X a fv)(va:VA X i x:=by walk_at "va")(hs:starEach [a] X.env=[(false,eval a X.env)]:=by rfl)
  (hb:attributeBase (.Name x p) f X.env (eval (.Name x p) X.env)=eval (.Name x p) X.env:=by rfl)
  (ia:attributeBase (.Attribute (.Name x p) f p1) "append" X.env (eval (.Attribute (.Name x p) f p1) X.env)=eval (.Attribute (.Name x p) f p1) X.env:=by rfl)
  (j6:((backTo p3 (starEach [a] X.env)).all (λx=>!x.1)&&(backToKw p3 (keywordEach [] X.env)).all (λx=>x.1.isSome)&&decide ([a].length+([]:List Keyword).length+(if([]:List Keyword).isEmpty then 0 else 1)<30))=true:=by rfl)
  (ir:(p2.endLine==p3.line)=true:=by rfl) (gZ:swapsWith (.Call (.Attribute (.Attribute (.Name x p) f p1) "append" p2) [a] [] p3) none pos.line X.env=pure false:=by rfl) :
  dO X (.Expr (.Call (.Attribute (.Attribute (.Name x p) f p1) "append" p2) [a] [] p3) pos) (wD i cn f fv):=by
 obtain⟨tv,mJ,sv⟩:=hv;exists 25,uI (BJ PySem.F.plainAttrs_list PySem.F.slot_list_append PySem.F.type_list_append y9 (Nt va.pe hb) (cH mJ dU hs) ia j6 ir hs rfl) gZ;unfold wD at e
 split at e
 .rename_i d td c es g1 g2
  by_cases hc:c=cn
  .subst hc;rw[if_pos rfl] at e
   split at e
   .rename_i ds hl;obtain⟨hc,e⟩:=ci e;cases e;obtain⟨c1,c3⟩:=(aaF _ _).mp hc;obtain⟨c1,c2⟩:=(aaF _ _).mp c1;obtain⟨xv,fp,bu,r,zz⟩:=ok.sl i _ _ g2;refine⟨xv,bu,?_⟩;obtain⟨b0,dx,fs,u,gf,rfl,h1,h2,h3,h4,h5,h6⟩:=r.place hC.ns zz.1 hl;refine⟨b0,C,dx,fs,u,rfl,h1,hC.cl,na,h2,?_⟩;obtain⟨l,xs,f0,rfl,hq,_,_⟩:=h3.dh;refine⟨.inl ⟨rfl,_,hq⟩,?_⟩;refine sv ok g1 λH1 v fd s1 rv gv=>?_
    have hn:=rv.aI c1;subst hn;generalize hw:(V.ref l)=w at h3 h6;cases h3 with
    | @lst a' ys _ f' h rs=>
     cases hw;have hn:=rs.aI c2;subst hn;have nN:=s1 _ _ h;refine⟨_,ys,v,rfl,rfl,nN,by rw[<- rs.length];exact aaR c3,?_⟩;have im:bH H1 (upd H1 l (.lst (ys++[v]))):=bH.upd nN rfl;obtain⟨bX,k1,k2,k3⟩:=h6 (upd H1 l (.lst (ys++[v]))) (.lst (ds++[d])) [l] ((bH.of s1).trans im) (λc o n e=>by rw[aN λq=>n (by rw[q];exact aah)];exact s1 c o e)
      (.lst bL (ay.append ((rs.same s1).frame (λa m=>nomatch m) im) (ay.cons (f1:=[]) (f2:=[]) (rv.frame (λa m=>nomatch m) im) .nil))) h4 (λc m=>.inl m)
     obtain⟨z',a_⟩:=ok.put g2 bu zz ((bH.of s1).trans im) (λc o n e=>by rw[aN λq=>n (by rw[q];exact h5 l aah)];exact s1 c o e) k1 k2 k3;exact q z' σ _ a_ (.refl _ _)
   .cases e
  .rw[aa7 hc] at e;cases e
 .cases e
end
end L2.Ev
namespace L2
open PySem PySem.Spec PyProof.Rows
section
variable{X:Cx}{elts:List Expr}{tp:Pos}{a b:Expr}{ta:TA}{p pos:Pos}
def abo:V->List V->Hp->VK->Prop:=λx vs H Q=>∃(l:Addr) (ns:List Int) (n:Int),x=.ref l/\vs=[.int n]/\H l=some (.lst (ns.map V.int))/\n∈ns/\Q .aH (upd H l (.lst ((ns.erase n).map V.int)))
noncomputable def Sa(n:Int):Value->Bool
 |.int a _=>a==n
 |_=>false
theorem Eg{ns:List Int}(r:aK (ns.map V.int) us)(h:m<us.length)(h2:m<ns.length):∃t,us[m]=.int ns[m] t:=by
 obtain⟨u,hu,ru⟩:=r.get (by rw[acg,aau h2];rfl);rw[aau h] at hu;obtain⟨t,rt⟩:=ru;exact⟨t,by rw[<- rt];exact ab8 hu⟩
theorem GP:∀{ns:List Int}{n:Int}{m:Nat} (h:m<ns.idxOf n) (h2:m<ns.length),ns[m]≠n
 |[],_,_,_,h2=>absurd h2 (aeI _)
 |a::ns,n,m,h,h2=>by
  rw[List.idxOf_cons] at h
  by_cases ha:(a==n)=true
  .rw[ha] at h;exact absurd h (aeI _)
  .have ha:(a==n)=false:=by simpa using ha
   rw[ha] at h;cases m with
   |zero=>exact acM.mp ha
   |succ m=>exact GP (Nat.lt_of_succ_lt_succ h) (Nat.lt_of_succ_lt_succ h2)
theorem VC{α β:Type}{f:α->β}{l:List α}:(l.map f).eraseIdx k=(l.eraseIdx k).map f:=by
 rw[List.eraseIdx_eq_take_drop_succ,List.eraseIdx_eq_take_drop_succ,acF,List.map_take,List.map_drop]
theorem RH:sY X "list.remove" abo:=by
 intro af s σ H x vs v us Q I rx rv h;obtain⟨l,ns,n,rfl,rfl,hH,hn,q⟩:=h;cases rx;obtain⟨u,rfl,ru⟩:=rv.one;obtain⟨t,rfl⟩:=ru;obtain⟨z,ak,nn,r,hl,e⟩:=I.pO hH;have hi:=List.idxOf_lt_length_of_mem hn;rw[List.length_map] at hl z;have hj:ns.idxOf n<ak.toArray.size:=by rw[abQ];lia
 refine call_meets F.slot_list_remove ⟨_,e,rfl⟩ F.entry_list_remove (F.args_list_remove_2 _ _)
  (MeetsSeq.list_remove l ak.toArray nn (.int n t) (Sa n) (λy my=>?_) (ns.idxOf n) hj ?_ (λm hm h2=>?_) (by rw[abQ];lia)) ⟨e,?_⟩
 .obtain⟨m,hm,em⟩:=Array.mem_iff_getElem.mp my;rw[abQ] at hm;rw[List.getElem_toArray] at em;obtain⟨t',et⟩:=Eg r hm (by lia);rw[<- em,et];exact MeetsSeq.EqGives.int _ _ _ _
 .rw[List.getElem_toArray];obtain⟨t',et⟩:=Eg r (by lia) hi;rw[et];rw[List.getElem_idxOf hi];exact aec n
 .rw[List.getElem_toArray];rw[abQ] at hm;obtain⟨t',et⟩:=Eg r hm (by lia);rw[et];exact acM.mpr (GP h2 (by lia))
 .refine⟨.aH,_,I.yj (its':=ak.eraseIdx (ns.idxOf n)) hH e ?_ ?_ ?_,rfl,q⟩
  .show ak.toArray.eraseIdxIfInBounds _=(ak.eraseIdx _).toArray;rw[List.eraseIdxIfInBounds_toArray]
  .rw[List.erase_eq_eraseIdx_of_idxOf rfl,<- VC];exact r.eraseIdx _
  .rw[List.length_map];have:=List.length_erase_le (a:=n) (l:=ns)
   lia
end
end L2
namespace L2.Ev
open PySem PySem.Spec PyProof.Rows
noncomputable def yU(env:Env):Str×NameKind->Str×NameKind:=λ(n,k)=>if(k==NameKind.free&&env.scope.kind == .function&&env.kindOf n==some .cell) then(n,NameKind.cell) else(n,k)
theorem Kh{env:Env}:∀{names:List (Str×NameKind)}{x:Str},(names.lookup x=some .cell\/names.lookup x=some .free)->(names.map (yU env)).lookup x=some .cell\/(names.map (yU env)).lookup x=some .free
 |[],_,h=>by simp at h
 |(n,k)::r,x,h=>by
  rw[aaz];have e:yU env (n,k)=(n,.cell)\/yU env (n,k)=(n,k):=by
   show(if(k==NameKind.free&&env.scope.kind == .function&&env.kindOf n==some .cell)=true then(n,NameKind.cell) else(n,k))=_\/(if(k==NameKind.free&&env.scope.kind == .function&&env.kindOf n==some .cell)=true then(n,NameKind.cell) else(n,k))=_
   split
   .exact .inl rfl
   .exact .inr rfl
  cases hx:x==n with
  |true=>
   simp only[acQ,hx] at h;rcases e with e|e<;>rw[e]<;>simp only[acQ,hx]
   .exact .inl trivial
   .exact h
  |false=>
   simp only[acQ,hx] at h;have ih:=Kh (env:=env) (names:=r) h;rcases e with e|e<;>rw[e]<;>simp only[acQ,hx]<;>exact ih
theorem abB{X:Cx}{M0 M:List Str}{zJ sc:Scope}{s3:Shared}{H3:Hp}{fp:List Addr}{js:List (Option Nat)}(h:vK M0 zJ sc M js=true):m7 (dJ X M0 zJ s3 H3 fp) M js sc:=by
 unfold vK at h;obtain⟨h,a6⟩:=(aaF _ _).mp h;obtain⟨h,a5⟩:=(aaF _ _).mp h;obtain⟨h,a4⟩:=(aaF _ _).mp h;obtain⟨h,a3⟩:=(aaF _ _).mp h;obtain⟨a1,a2⟩:=(aaF _ _).mp h;refine⟨?_,λy hy=>?_,λy hy hl=>?_,a4,λx hx=>?_,aaR a6⟩
 .cases hk:sc.kind<;>rw[hk] at a1<;>first|rfl|exact absurd a1 (by decide)
 .have:=acX.mp a2 y hy;intro z;rw[z] at this;exact absurd this (by decide)
 .have:=acX.mp a3 y hy;rw[hl] at this;have this:=this;cases q:sc.names.lookup y.1 with
  |none=>rw[q] at this;exact absurd this (by decide)
  |some k=>rw[q] at this;cases k<;>first|rfl|exact absurd this (by decide)
 .have:=acX.mp a5 x hx;refine Kh (env:=X.env) (names:=zJ.names) ?_;cases q:zJ.names.lookup x with
  |none=>rw[q] at this;exact absurd this (by decide)
  |some k=>rw[q] at this;cases k<;>first|exact .inl rfl|exact .inr rfl|exact absurd this (by decide)
section
variable{X:Cx}{elts:List Expr}{tp:Pos}{a b c:Expr}{fa fb fv:EF}{p p1 p2 p3 pos pos':Pos}{x:Str}
def r9(i:Nat)(fv:EF):SF:=λρ=>match fv ρ,ρ[i]? with
 |some (.int n,_),some (some (.lst ds,.own))=>match cM ds with
  |some ns=>if n∈ns then some (.nx (cz ρ i (.lst ((ns.erase n).map D.int)))) else none
  |none=>none
 |_,_=>none
theorem G_:∀{ds:List D}{ns:List Int},cM ds=some ns->ds=ns.map D.int
 |[],_,e=>by cases e;rfl
 |d::ds,ns,e=>by
  cases d<;>try (cases e;done)
  rename_i i;unfold cM at e;exists h,cM ds,r,e;cases e;rw[G_ h];rfl
theorem AB(i:Nat)(hv:FP X a fv)(va:VA X i x:=by walk_at "va")(hs:starEach [a] X.env=[(false,eval a X.env)]:=by rfl)
  (ia:attributeBase (.Name x p1) "remove" X.env (eval (.Name x p1) X.env)=eval (.Name x p1) X.env:=by rfl)
  (j6:((backTo p3 (starEach [a] X.env)).all (λx=>!x.1)&&(backToKw p3 (keywordEach [] X.env)).all (λx=>x.1.isSome)&&decide ([a].length+([]:List Keyword).length+(if([]:List Keyword).isEmpty then 0 else 1)<30))=true:=by rfl)
  (ir:(p2.endLine==p3.line)=true:=by rfl) (gZ:swapsWith (.Call (.Attribute (.Name x p1) "remove" p2) [a] [] p3) none pos.line X.env=pure false:=by rfl) :
  dO X (.Expr (.Call (.Attribute (.Name x p1) "remove" p2) [a] [] p3) pos) (r9 i fv):=by
 obtain⟨tv,mJ,sv⟩:=hv;exists 25,uI (BJ PySem.F.plainAttrs_list PySem.F.slot_list_remove PySem.F.type_list_remove RH va.pe (cH mJ dU hs) ia j6 ir hs rfl) gZ;unfold r9 at e
 split at e
 .rename_i n td ds g1 g2;exists hI,cM ds,ns,e;dsimp only at e;obtain⟨hc,e⟩:=ci e;cases e;have:=G_ hI;subst this;obtain⟨xv,fp,bu,r,zz⟩:=ok.sl i _ _ g2;refine⟨xv,bu,?_⟩;obtain⟨l,xs,f,rfl,hq,_,_⟩:=r.dh;refine⟨.inl ⟨rfl,_,hq⟩,?_⟩;refine sv ok g1 λH1 v fd s1 rv gv=>?_
  cases rv;have r':=r.same s1;have bD:=ok.same s1;generalize hw:(V.ref l)=w at r' bu;cases r' with
  | @lst a' ys _ f' h rs=>
   cases hw;have ey:=oK rs hI;subst ey;have hn:=rs.aI (f9 ns);subst hn;refine⟨_,ns,n,rfl,rfl,h,hc,?_⟩;have im:bH H1 (upd H1 l (.lst ((ns.erase n).map V.int))):=bH.upd h rfl;exact q z σ _ (Ok.vP bD g2 bu zz aah h rfl (.lst bL (nH _))) (.refl _ _)
 .cases e
def yq(fa fh:EF):EF:=λρ=>match fa ρ,fh ρ with
 |some (.lst ds,_),some (.int i,_)=>if aU ds=true then some (.lst (cutD ds none (some i)),.own) else none
 |_,_=>none
theorem GW{fh:EF}(ha:FP X a fa)(hh:FP X b fh):FP X (.Subscript a (.Slice none (some b) none p2) pos) (yq fa fh):=by
 obtain⟨t,p,q⟩:=ha;obtain⟨th,ph,qh⟩:=hh;exists 21,E4 Au p Cu (DM ph);unfold yq at e
 split at e
 .rename_i ds t1 i t2 e1 e2;obtain⟨hi,e⟩:=ci e;cases e;refine q ok e1 λH1 x f1 s1 r1 _=>?_
  refine qh (ok.same s1) e2 λH2 y f2 s2 r2 _=>?_
  cases r2;refine⟨i,rfl,?_⟩;obtain⟨w,xs,f,rfl,hq,rs,_⟩:=(r1.same s2).dh;have hn:=rs.aI hi;subst hn;refine⟨w,xs,rfl,hq,λp hp=>?_⟩;have s3:aG H2 (upd H2 p (.lst (jA xs none (some i)))):=λb o e=>by rw[aN (cD e hp)];exact e
  have rr:ay X.K H2 (cutD ds none (some i)) (jA xs none (some i)) []:=by
   unfold cutD jA;rw[rs.length];exact ay.wB _ (ay.xY _ rs)
  refine k _ _ [p] ((s1.trans s2).trans s3) (.lst bL (rr.same s3)) ⟨acd.mpr ⟨(λm=>by cases m),aci⟩,λa m=>?_⟩;cases aat.mp m;exact s1.free (s2.free hp)
 .cases e
end
end L2.Ev
namespace L2.SetT
open PySem
def Rs(t:SetTable):Prop:=t.place.toList.Pairwise (· < ·)/\t.dummies=#[]
theorem QL{xs:Array Nat}(h:i<xs.size):xs.getD i j=xs.toList[i]'(by simpa using h):=by
 rw[ac0,acJ h];simp
theorem Wx{xs:Array Nat}(hr:xs.toList.Pairwise (· < ·)):∀(fuel lo hi:Nat),hi-lo<=fuel->lo<=hi->hi<=xs.size->(∀i (h:i<xs.size),i<lo->xs[i]<j)->(∀i (h:i<xs.size),hi<=i->j<=xs[i])->
  SetTable.below.go xs j fuel lo hi<=xs.size/\(∀i (h:i<xs.size),i<SetTable.below.go xs j fuel lo hi->xs[i]<j)/\∀i (h:i<xs.size),SetTable.below.go xs j fuel lo hi<=i->j<=xs[i]:=by
 have mono:∀a b (ha:a<xs.size) (hb:b<xs.size),a<b->xs[a]<xs[b]:=λa b ha hb o8=>by
  have:=ac6.mp hr a b (by simpa using ha) (by simpa using hb) o8;simpa using this
 intro fuel
 induction fuel with
 |zero=>
  intro lo hi h1 h2 h3 h4 h5;have e:lo=hi:=by lia
  subst e;exact⟨h3,h4,h5⟩
 |succ fuel ih=>
  intro lo hi h1 h2 h3 h4 h5;unfold SetTable.below.go
  by_cases hl:lo<hi
  .rw[if_pos hl];have hm:(lo+hi) / 2<xs.size:=by lia
   have em:xs.getD ((lo+hi) / 2) j=xs[(lo+hi) / 2]:=by rw[QL hm];simp
   dsimp only;rw[em]
   by_cases hx:xs[(lo+hi) / 2]<j
   .rw[if_pos hx];refine ih _ _ (by lia) (by lia) h3 (λi h jq=>?_) h5
    by_cases q:i<(lo+hi) / 2
    .exact Nat.lt_trans (mono _ _ h hm q) hx
    .have:i=(lo+hi) / 2:=by lia
     subst this;exact hx
   .rw[aa7 hx];refine ih _ _ (by lia) (by lia) (by lia) h4 (λi h jq=>?_)
    by_cases q:(lo+hi) / 2<i
    .have:=mono _ _ hm h q;lia
    .have:i=(lo+hi) / 2:=by lia
     subst this;lia
  .rw[aa7 hl];have e:lo=hi:=by lia
   subst e;exact⟨h3,h4,h5⟩
theorem Nj{xs:Array Nat}(hr:xs.toList.Pairwise (· < ·)):SetTable.below xs j<=xs.size/\(∀i (h:i<xs.size),i<SetTable.below xs j->xs[i]<j)/\∀i (h:i<xs.size),SetTable.below xs j<=i->j<=xs[i]:=
 Wx hr xs.size 0 xs.size (by lia) (acD _) (aa2 _) (λi h q=>absurd q (aeI _)) (λi h q=>absurd h (by lia))
theorem below_at{xs:Array Nat}(hr:xs.toList.Pairwise (· < ·))(hk:k<=xs.size)(h1:∀i (h:i<xs.size),i<k->xs[i]<j)(h2:∀i (h:i<xs.size),k<=i->j<=xs[i]):SetTable.below xs j=k:=by
 obtain⟨a,b,c⟩:=Nj hr;rcases Nat.lt_trichotomy (SetTable.below xs j) k with q|q|q
 .have:=h1 (SetTable.below xs j) (by lia) q;have:=c (SetTable.below xs j) (by lia) (aa2 _)
  lia
 .exact q
 .have:=b k (by lia) q;have:=h2 k (by lia) (aa2 _)
  lia
theorem V4{xs:Array Nat}(hr:xs.toList.Pairwise (· < ·))(hj:xs[SetTable.below xs j]?≠some j):(SetTable.insertAt xs (SetTable.below xs j) j).toList.Pairwise (· < ·):=by
 obtain⟨a,b,c⟩:=Nj hr;unfold SetTable.insertAt;have e:((xs.extract 0 (SetTable.below xs j)).push j++xs.extract (SetTable.below xs j) xs.size).toList=xs.toList.take (SetTable.below xs j)++(j::xs.toList.drop (SetTable.below xs j)):=by
  simp[aey,adA]
 rw[e];have c':∀i (h:i<xs.size),SetTable.below xs j<=i->j<xs[i]:=λi h hi=>by
  have q:=c i h hi;rcases Nat.lt_or_eq_of_le q with q|q
  .exact q
  .exfalso
   have p1:SetTable.below xs j<xs.size:=by lia
   have q1:=c _ p1 (aa2 _)
   by_cases ei:i=SetTable.below xs j
   .subst ei;exact hj (by rw[acJ h,<- q])
   .have:=ac6.mp hr (SetTable.below xs j) i (by simpa using p1) (by simpa using h) (by lia);have:xs[SetTable.below xs j]<xs[i]:=by simpa using this
    lia
 refine acP.mpr ⟨hr.sublist (aes _ _),ac1.mpr ⟨λx hx=>?_,hr.sublist (aeu _ _)⟩,λx hx y hy=>?_⟩
 .obtain⟨i,hi,rfl⟩:=ad8 hx;rw[aeM];have jq:i<xs.size-SetTable.below xs j:=by simpa using hi
  have:=c' (SetTable.below xs j+i) (by lia) (by lia);simpa using this
 .obtain⟨i,hi,rfl⟩:=ad8 hx;have jq:i<SetTable.below xs j/\i<xs.size:=by simpa[Nat.lt_min] using hi
  have BX:=b i jq.2 jq.1;rw[List.getElem_take];have BX:xs.toList[i]'(by simpa using jq.2)<j:=by simpa using BX
  rcases aaG.mp hy with e|hy
  .rw[e];exact BX
  .obtain⟨k,hk,rfl⟩:=ad8 hy;rw[aeM];have jG:k<xs.size-SetTable.below xs j:=by simpa using hk
   have:=c' (SetTable.below xs j+k) (by lia) (by lia);have:j<xs.toList[SetTable.below xs j+k]'(by simp;lia):=by simpa using this
   lia
theorem RV(n:Nat):(Array.range n).toList.Pairwise (· < ·):=by
 rw[Array.toList_range];exact List.pairwise_lt_range
theorem Rs.standIn(t:SetTable)(n:Nat):Rs (t.standIn n):=⟨RV n,rfl⟩
theorem Gd{t:SetTable}(hd:t.dummies=#[]){hashAt:Nat->Int}:∀{fuel:Nat}{p:SetTable.Probe}{j:Nat}{d:Option Nat},p.dummy=none->SetTable.probe.go t hashAt h fuel p=some (.empty j d)->d=none/\t.slot j=.empty
 |0,_,_,_,_,e=>by simp[SetTable.probe.go] at e
 |fuel+1,p,j,d,hp,e=>by
  unfold SetTable.probe.go at e;have Tf:∀q:SetTable.Probe,q.dummy=none->(t.advance q).dummy=none:=λq hq=>by
   unfold SetTable.advance
   split
   .exact hq
   .exact hq
  cases hs:t.slot p.j with
  |empty=>
   rw[hs] at e;cases e;exact⟨hp,hs⟩
  |dummy=>
   exfalso
   unfold SetTable.slot at hs;dsimp only at hs
   split at hs
   .cases hs
   .split at hs
    .rename_i hh;rw[hd] at hh;simp[SetTable.has] at hh
    .cases hs
  |live i=>
   rw[hs] at e;dsimp only at e
   split at e
   .cases e
   .exact Gd hd (Tf p hp) e
theorem Xb{t:SetTable}(hd:t.dummies=#[])(e:t.freeSlot h=some (slot,b)):t.place[SetTable.below t.place slot]?≠some slot:=by
 unfold SetTable.freeSlot at e
 split at e
 .rename_i j d hp;cases e;obtain⟨e1,e2⟩:=Gd hd rfl hp;subst e1;show t.place[SetTable.below t.place j]?≠some j;intro q;unfold SetTable.slot at e2;dsimp only at e2;rw[q] at e2;simp at e2
 .cases e
theorem Rs.put{t:SetTable}(r:Rs t)(h:t.place[SetTable.below t.place slot]?≠some slot):Rs (t.put slot).1:=by
 refine⟨V4 r.1 h,?_⟩;show(if SetTable.has t.dummies slot=true then _ else t.dummies)=#[];rw[r.2];simp[SetTable.has]
theorem Rs.orStandIn{t:SetTable}(r:Rs t)(n:Nat):Rs (t.orStandIn n):=by
 unfold SetTable.orStandIn
 split
 .exact r
 .exact Rs.standIn t n
theorem Rs.layNew{t:SetTable}(r:Rs t)(es:Array (Int×Value))(h:Int)(x:Value):Rs (PySem.layNew t es h x).2.1:=by
 unfold PySem.layNew
 split
 .rename_i slot b e;exact(r.put (Xb r.2 e)).orStandIn _
 .exact Rs.standIn _ _
theorem abZ{led plain:Bool}{hashes:Array Int}{r:SetTable×Array Nat}(h:SetTable.laid mask finger moves led plain hashes=some r):Rs r.1:=by
 unfold SetTable.laid at h;cases hc:SetTable.layClean mask hashes with
 |none=>rw[hc] at h;cases h
 |some o=>
  rw[hc] at h;cases h;refine⟨?_,rfl⟩;dsimp only;have key:∀(l:List Nat),l.Pairwise (· < ·)->((l.filterMap λj=>(o.getD j none).map (j,·)).map (·.1)).Pairwise (· < ·):=λl hl=>by
   rw[List.map_filterMap];refine List.Pairwise.filterMap _ (λa a' T4 b hb b' oW=>?_) hl;have e1:b=a:=by
    cases q:o.getD a none with
    |none=>rw[q] at hb;simp at hb
    |some x=>rw[q] at hb;simpa using hb.symm
   have e2:b'=a':=by
    cases q:o.getD a' none with
    |none=>rw[q] at oW;simp at oW
    |some x=>rw[q] at oW;simpa using oW.symm
   rw[e1,e2];exact T4
  exact key _ List.pairwise_lt_range
theorem Rs.relayAll{t:SetTable}(es:Array (Int×Value))(wanted:Nat):Rs (PySem.relayAll t es wanted).2.1:=by
 unfold PySem.relayAll
 split
 .rename_i t' order h;dsimp only
  split
  .exact abZ h
  .exact Rs.standIn _ _
 .exact Rs.standIn _ _
noncomputable def sizes:List Nat:=[8,16,32,64,128,256,512]
theorem Zu(t:SetTable)(es:Array (Int×Value))(h:Int)(x:Value):(layNew t es h x).2.1.led=t.led:=by
 unfold layNew
 split
 .dsimp only;unfold SetTable.orStandIn
  split<;>rfl
 .rfl
theorem Vq{led plain:Bool}{hashes:Array Int}{r:SetTable×Array Nat}(h:SetTable.laid mask finger moves led plain hashes=some r):r.1.led=led:=by
 unfold SetTable.laid at h;cases hc:SetTable.layClean mask hashes with
 |none=>rw[hc] at h;cases h
 |some o=>rw[hc] at h;cases h;rfl
theorem Qn(t:SetTable)(es:Array (Int×Value))(wanted:Nat):(relayAll t es wanted).2.1.led=t.led:=by
 unfold relayAll
 split
 .rename_i t' order h;dsimp only
  split
  .exact Vq h
  .rfl
 .rfl
def Tl(t:SetTable)(led:Bool):Prop:=t.led=led/\Rs t
theorem Rt{t:SetTable}(es:Array (Int×Value))(h:Int)(x:Value)(hl:Tl t led):Tl (layNew t es h x).2.1 led:=⟨(Zu t es h x).trans hl.1,hl.2.layNew es h x⟩
theorem ab4{t:SetTable}(es:Array (Int×Value))(wanted:Nat)(hl:Tl t led):Tl (relayAll t es wanted).2.1 led:=⟨(Qn t es wanted).trans hl.1,Rs.relayAll es wanted⟩
section
variable{prog:Program}{w:World}{K:Type}[DecidableEq K](knd:KeyKind prog w K)
structure Full(S:K->Bool)(led:Bool)(es:Array (Int×Value))(t:SetTable):Prop where
 el:ElemsOf knd es.toList
 me:∀k,S k=true↔∃e∈es.toList,knd.is k e.2=true
 bd:es.size<scanBound
 ft:t.fits es.size=true
 tl:Tl t led
def nZ(h:Heap)(a:Addr)(S:K->Bool)(n:Nat)(led:Bool):Prop:=
 ∃o es ep t,h.get? a=some o/\o.ExactSet/\o.data=.set es ep t/\ElemsOf knd es.toList/\(∀k,S k=true↔∃e∈es.toList,knd.is k e.2=true)
 /\es.size<scanBound/\t.fits es.size=true/\es.size=n/\Tl t led
variable{knd}
variable{A:Around}{E:Value->Shared->Prop}{s:Shared}{led:Bool}
theorem Full.perm{S:K->Bool}{es eN:Array (Int×Value)}{t t':SetTable}(f:Full knd S led es t)(p:eN.toList.Perm es.toList)(hf:t'.fits eN.size=true)(hl:Tl t' led):Full knd S led eN t' where
 el:=f.el.perm p
 me:=λk=>(f.me k).trans ⟨λ⟨e,m,q⟩=>⟨e,p.mem_iff.mpr m,q⟩,λ⟨e,m,q⟩=>⟨e,p.mem_iff.mp m,q⟩⟩
 bd:=by
  have:=p.length_eq;rw[ab2,ab2] at this;rw[this];exact f.bd
 ft:=hf
 tl:=hl
theorem WS{h:Heap}{a:Addr}{o:Obj}{es:Array (Int×Value)}{ep:Nat}{t:SetTable}(ho:h.get? a=some o)(hex:o.ExactSet)(hd:o.data=.set es ep t)
  {eN:Array (Int×Value)}{t':SetTable}{S':K->Bool} (kK:ElemsOf knd eN.toList) (mX:∀k,S' k=true↔∃e∈eN.toList,knd.is k e.2=true) (hb:eN.size<scanBound) (hf:t'.fits eN.size=true) (hl:Tl t' led) :
  (h.update a (Obj.putSet eN t')).get? a=some { o with data:=.set eN (ep+1) t' }/\nZ knd (h.update a (Obj.putSet eN t')) a S' eN.size led:=by
 obtain⟨hg,_⟩:=SetOf_store (knd:=knd) ho hex hd kK mX hb hf;exact⟨hg,_,eN,ep+1,t',hg,hex,rfl,kK,mX,hb,hf,rfl,hl⟩
theorem stored{es:Array (Int×Value)}{t:SetTable}{eN:Array (Int×Value)}{t':SetTable}{S':K->Bool}{Q:Unit->Shared->Prop}(ho:s.heap.get? a=some o)(hex:o.ExactSet)(hd:o.data=.set es ep t)(f:Full knd S' led eN t')
  (h:∀h',Heap.SameBut a s.heap h'->h'.get? a=some { o with data:=.set eN (ep+1) t' }->nZ knd h' a S' eN.size led->Q () { s with heap:=h' }):wpAny (model prog w) A (storeSet a eN t') Q E s:=by
 obtain⟨q1,q2⟩:=WS (knd:=knd) (led:=led) ho hex hd f.el f.me f.bd f.ft f.tl;exact wpAny_storeSet_of ho hd (h _ (aea s.heap a _) q1 q2) (fits_of_scanBound f.bd)
theorem OD{S:K->Bool}{k:K}{Q:Bool->Shared->Prop}(hk:knd.is k x=true)(hx:x.scannable=true)(hS:nZ knd s.heap a S n led)(hn:n+1<scanBound)
  (h:∀h',Heap.SameBut a s.heap h'->nZ knd h' a (λk'=>S k'||decide (k'=k)) (if S k then n else n+1) led->Q (!S k) { s with heap:=h' }):wpAny (model prog w) A (setAddHashed a x (knd.hash k)) Q E s:=by
 obtain⟨o,es,ep,t,ho,hex,hd,kK,mX,hb,hf,rfl,hl⟩:=id hS;unfold setAddHashed setAddHashedIn;refine acR (aac (adD ho hd hf ?_));dsimp only;rw[byScan_of hx hb kK,if_pos rfl];unfold setAddByScan;refine aac (aac (ady (aac (wpAny_setScan_of hk ho hd hf kK ?_))));cases hr:List.findIdx? (λe=>knd.is k e.2) es.toList with
 |some j=>
  obtain⟨hj,Rw,_⟩:=List.findIdx?_eq_some_iff_getElem.mp hr;have there:=(mX k).mpr ⟨_,adM hj,Rw⟩;have QO:(λk'=>S k'||decide (k'=k))=S:=funext λk'=>by
   by_cases e:k'=k
   .rw[e,there];rfl
   .simp[e]
  have q:=h s.heap (Heap.SameBut.refl a s.heap);rw[there,if_pos rfl,QO] at q;exact aaC (aaC (q hS))
 |none=>
  have away:=aew.mpr λq=>by
   obtain⟨e,m,p⟩:=(mX k).mp q;exact absurd p (by rw[List.findIdx?_eq_none_iff.mp hr e m];exact abI)
  have q:=h;rw[away,aa7 abI] at q;have p1:=layNew_perm t es (knd.hash k) x;have p2:=layNew_fits t es (knd.hash k) x;have p3:=Rt es (knd.hash k) x hl;dsimp only;revert p1 p2 p3;generalize layNew t es (knd.hash k) x=L;obtain⟨gx,t1,dm,V7⟩:=L;intro p1 p2 p3;dsimp only at p1 p2 p3 ⊢;rw[adO] at p1;have z1:gx.size=es.size+1:=by
   have:=p1.length_eq;rw[ack,ab2,ab2] at this;exact this
  have f1:∀b:Bool,Full knd (λk'=>S k'||decide (k'=k)) led gx (if b then t1 else { t1 with plain:=false }):=λb=>by
   refine⟨(kK.push hk hx).perm p1,mem_push_iff hk mX p1,by rw[z1];exact hn,?_,?_⟩
   .cases b
    .exact SetTable.fits_plain_off p2
    .exact p2
   .cases b<;>exact p3
  have say:∀(b:Bool) (s1:Shared) (R:Unit->Shared->Prop),R () s1->wpAny (model prog w) A (match b with|true=>rule "set.scan.the-table-gave-way" | false=>pure ()) R E s1:=λb s1 R r=>by
   cases b
   .exact aaC r
   .exact ady r
  refine aac (say V7 _ _ ?_);have tail:∀t2:SetTable,Full knd (λk'=>S k'||decide (k'=k)) led gx t2->wpAny (model prog w) A (do
    storeSet a gx t2
    if(!dm&&t2.tooFull)=true then do
     (match(relayAll t2 gx (SetTable.grown gx.size)).2.2 with|true=>rule "set.scan.the-table-gave-way" | false=>pure ())
     storeSet a (relayAll t2 gx (SetTable.grown gx.size)).1 (relayAll t2 gx (SetTable.grown gx.size)).2.1
     pure (some true)
    else pure (some true)) (λr s'=>r=some true/\Q true s') E s:=λt2 f2=>by
   refine aac (stored ho hex hd f2 λh1 KQ g1 S1=>?_)
   by_cases tf:(!dm&&t2.tooFull)=true
   .rw[if_pos tf];have r1:=relayAll_perm t2 gx (SetTable.grown gx.size);have r2:=relayAll_fits t2 gx (SetTable.grown gx.size);have r3:=ab4 gx (SetTable.grown gx.size) f2.tl;refine aac (say _ _ _ ?_);refine aac (stored g1 hex rfl (f2.perm r1 r2 r3) λh2 Q4 _ S2=>?_);have z2:=r1.length_eq;rw[ab2,ab2] at z2;rw[z2,z1] at S2;exact aaC ⟨rfl,q h2 (KQ.trans Q4) S2⟩
   .rw[aa7 tf];rw[z1] at S1;exact aaC ⟨rfl,q h1 KQ S1⟩
  split
  .refine aac ?_;rw[hashByValue_scannable 8 hx];refine aaC (acC (tail _ (f1 _)) (λr s' hr=>?_) λ_ _ e=>e);obtain⟨rfl,hr⟩:=hr;exact aaC hr
  .refine aac (aaC (acC (tail _ (f1 true)) (λr s' hr=>?_) λ_ _ e=>e));obtain⟨rfl,hr⟩:=hr;exact aaC hr
end
structure oR(t:SetTable)(led:Bool)(more:Nat):Prop where
 pl:t.place=#[]
 du:t.dummies=#[]
 ms:t.mask+1∈sizes
 ld:t.led=led
 rm:more<=t.mask
theorem oR.tl{t:SetTable}(b:oR t led more):Tl t led:=⟨b.ld,by rw[b.pl];exact List.Pairwise.nil,b.du⟩
theorem oR.fits{t:SetTable}(b:oR t led more):t.fits 0=true:=by
 unfold SetTable.fits SetTable.fill;rw[b.pl,b.du];simp
noncomputable def iG(w:World):Bool:=w.params.followText "set-order"
theorem Bm{α:Type}:∀{l:List α}{i:Nat} (h:i<l.length),(l[i]::l.eraseIdx i).Perm l
 |a::l,0,_=>List.Perm.refl _
 |a::l,i+1,h=>by
  rw[List.getElem_cons_succ,List.eraseIdx_cons_succ];exact(List.Perm.swap _ _ _).trans ((Bm (Nat.lt_of_succ_lt_succ h)).cons a)
theorem L0{α:Type}(next:Nat->Nat):∀(fuel k:Nat) (left:List α) (out:Array α),fuel=left.length->(pickOrder.go next fuel k left out).toList.Perm (out.toList++left)
 |0,k,left,out,h=>by
  have:left=[]:=ac3 h.symm;subst this;unfold pickOrder.go;rw[acB]
 |fuel+1,k,left,out,h=>by
  have hi:next k % left.length<left.length:=Nat.mod_lt _ (by lia);unfold pickOrder.go;rw[aau hi];dsimp only;refine(L0 next fuel (k+1) _ _ (by rw[List.length_eraseIdx_of_lt hi];lia)).trans ?_;rw[adO,acw];exact(Bm hi).append_left _
theorem GH{α:Type}(next:Nat->Nat)(xs:Array α):(pickOrder next xs).toList.Perm xs.toList:=by
 have:=L0 next xs.size 0 xs.toList #[] (by simp);unfold pickOrder;simpa using this
noncomputable def fT{K:Type}[DecidableEq K](U:List K)(k:K):List K:=if k∈U then U else U++[k]
theorem DN{K:Type}[DecidableEq K]{U:List K}{k j:K}:j∈fT U k↔j∈U\/j=k:=by
 unfold fT
 split
 .rename_i h;exact⟨.inl,λq=>q.elim id λe=>e ▸ h⟩
 .rw[ab3,aat]
theorem Nm{K:Type}[DecidableEq K]{U:List K}{k:K}(h:U.Nodup):(fT U k).Nodup:=by
 unfold fT
 split
 .exact h
 .rename_i n;refine acv.mpr ⟨h,by simp,λa m b m' e=>?_⟩;rw[aat.mp m'] at e;exact n (e ▸ m)
theorem Gy{K:Type}[DecidableEq K]{U:List K}{k:K}:(fT U k).length=if k∈U then U.length else U.length+1:=by
 unfold fT
 split
 .rfl
 .rw[ack];rfl
theorem Hg{K:Type}[DecidableEq K]{U:List K}{k:K}:(fT U k).length<=U.length+1:=by
 rw[Gy];split<;>lia
section
variable{prog:Program}{w:World}{K:Type}[DecidableEq K]{knd:KeyKind prog w K}
variable{A:Around}{E:Value->Shared->Prop}{s:Shared}{led:Bool}
theorem xQ{Q:Bool->Shared->Prop}(h:Q (iG w) s):wpAny (model prog w) A setsByText Q E s:=by
 unfold setsByText;exact aac (wpAny_askSetting (aaC h))
def gX(knd:KeyKind prog w K)(h:Heap)(a:Addr)(U:List K)(led:Bool):Prop:=U.Nodup/\nZ knd h a (λk=>decide (k∈U)) U.length led
theorem nZ.keep{S:K->Bool}(x:nZ knd h a S n led)(e:∀o,h.get? a=some o->h'.get? a=some o):nZ knd h' a S n led:=by
 obtain⟨o,es,ep,t,ho,r⟩:=x;exact⟨o,es,ep,t,e o ho,r⟩
theorem gX.keep{U:List K}(x:gX knd h a U led)(e:∀o,h.get? a=some o->h'.get? a=some o):gX knd h' a U led:=⟨x.1,x.2.keep e⟩
theorem aa4{U:List K}{k:K}{Q:Bool->Shared->Prop}(hk:knd.is k x=true)(hx:x.scannable=true)(hS:gX knd s.heap a U led)(hn:U.length+1<scanBound)
  (h:∀b h',Heap.SameBut a s.heap h'->gX knd h' a (fT U k) led->Q b { s with heap:=h' }):wpAny (model prog w) A (setAddHashed a x (knd.hash k)) Q E s:=by
 refine OD hk hx hS.2 hn λh' sb q=>h _ h' sb ⟨Nm hS.1,?_⟩
 have e1:(λk'=>decide (k'∈U)||decide (k'=k))=λk'=>decide (k'∈fT U k):=funext λk'=>by
  rw[aeg,Bool.or_eq_true,ad5,ad5,ad5,DN]
 have e2:(if decide (k∈U)=true then U.length else U.length+1)=(fT U k).length:=by
  rw[Gy]
  by_cases q:k∈U
  .rw[if_pos q,if_pos (abU q)]
  .rw[aa7 q,aa7 (by simpa using q)]
 rw[e1,e2] at q;exact q
theorem oR.abM{t:SetTable}(ho:h.get? a=some o)(hex:o.ExactSet)(hd:o.data=.set #[] ep t)(b:oR t led more):gX knd h a [] led:=
 ⟨aci,o,#[],ep,t,ho,hex,hd,λe m=>by simp at m,λk=>by simp,by decide,b.fits,rfl,b.tl⟩
end
theorem US(led:Bool):oR (.fresh 0 0 led) led 0:=⟨rfl,rfl,(by decide:8∈sizes),rfl,acD _⟩
theorem YF:entryFor table "set.__iter__"=some Builtin.«frozenset.__iter__»:=
 entryFor_alias (id':="frozenset.__iter__") (by kernel_rfl) rfl (by decide +kernel) (by kernel_rfl)
theorem jR:Slot "set_iterator" "__next__" "set_iterator.__next__":=
 .of (owner:="set_iterator") (n:="__next__") (by rw[adi,acE];kernel_rfl) (by decide +kernel) (by decide +kernel) (by decide +kernel)
  (by first|exact .inl (by decide +kernel)|exact .inr (by decide +kernel)) (by rw[adN];kernel_rfl)
theorem z9:entryFor table "set_iterator.__next__"=some Builtin.«set_iterator.__next__»:=entryFor_of_tree (by kernel_rfl)
theorem Nl:Manifest.owners.lookup (String.ofList ['r','o','t','a','r','e','t','i','_','t','e','s'].reverse)=some Manifest.sig_set_iterator:=by kernel_rfl
theorem yW(a:Value):argsOk "set_iterator.__next__" ⟨[a],[]⟩:=by
 unfold argsOk;rw[signature?_of (id:="set_iterator.__next__") (n:=['_','_','t','x','e','n','_','_']) (by kernel_rfl) Nl];kernel_rfl
theorem GQ:Slot "set_iterator" "__iter__" "set_iterator.__iter__":=
 .of (owner:="set_iterator") (n:="__iter__") (by rw[adi,acE];kernel_rfl) (by decide +kernel) (by decide +kernel) (by decide +kernel)
  (by first|exact .inl (by decide +kernel)|exact .inr (by decide +kernel)) (by rw[adN];kernel_rfl)
theorem Vp:entryFor table "set_iterator.__iter__"=some Builtin.«dict_keyiterator.__iter__»:=
 entryFor_alias (id':="dict_keyiterator.__iter__") (by kernel_rfl) rfl (by decide +kernel) (by kernel_rfl)
theorem abe(a:Value):argsOk "set_iterator.__iter__" ⟨[a],[]⟩:=by
 unfold argsOk;rw[signature?_of (id:="set_iterator.__iter__") (n:=['_','_','r','e','t','i','_','_']) (by kernel_rfl) Nl];kernel_rfl
theorem O3:typeLookup (.type "set") "__len__"=pure (some (.builtin "set.__len__")):=by rw[adi,acE];kernel_rfl
theorem aaH{src:Source}{Q:Nat->Shared->Prop}(hn:n≠0)(h:∀i d',i<n->Q i { s with drawn:=d' }):wpAny M A (choose src n) Q E s:=
 λΓ p _=>⟨hn,h _ _ (Nat.mod_lt _ (Nat.pos_of_ne_zero hn))⟩
theorem IV{α:Type}:∀{n:Nat}{xs:List α}{s:Shared}{Q:List α->Shared->Prop},n=xs.length->(∀ys d',ys.Perm xs->Q ys { s with drawn:=d' })->wpAny M A (drawOrder n xs) Q E s
 |0,xs,s,Q,hn,h=>by
  have:xs=[]:=ac3 hn.symm;subst this;have e:s={ s with drawn:=s.drawn }:=by cases s;rfl
  unfold drawOrder;refine aaC ?_;rw[e];exact h [] _ (List.Perm.refl _)
 |n+1,[],s,Q,hn,h=>by simp at hn
 |n+1,x::xs,s,Q,hn,h=>by
  unfold drawOrder;refine aac (aaH (by simp) λi d' hi=>?_);rw[aau hi];dsimp only;refine aac (IV (by rw[List.length_eraseIdx_of_lt hi];lia) λys d'' p=>aaC ?_);exact h _ d'' ((p.cons _).trans (Bm hi))
def iu(h:Heap)(I:Addr)(first:Value)(i:Nat)(a:Addr)(n ep:Nat):Prop:=∃o,h.get? I=some o/\o.cls=.type "set_iterator"/\o.data=.fields #[first,.int i 0,.ref a,.int n 0,.int ep 0]
theorem iu.typeIs{s:Shared}{I a:Addr}{first:Value}{i n ep:Nat}(x:iu s.heap I first i a n ep):s.TypeIs (.ref I) "set_iterator":=let⟨o,ho,hc,_⟩:=x;⟨o,ho,hc⟩
theorem iu.at(x:iu h I first i a n ep)(e:∀o,h.get? I=some o->h'.get? I=some o):iu h' I first i a n ep:=let⟨o,ho,r⟩:=x;⟨o,e o ho,r⟩
section
variable{prog:Program}{w:World}{A:Around}{E:Value->Shared->Prop}{s:Shared}
theorem LZ{Q:Fin->Shared->Prop}(hh:A.handled=none)(h:∀h' e,Heap.ExtBut I s.heap h'->Shared.TypeIs { s with heap:=h' } e "StopIteration"->R e { s with heap:=h' }):
  wpAny (model prog w) A (do raiseNew (<- newExc (.type "StopIteration") []):Sem Fin) Q R s:=by
 refine aac ?_;simp only[newExc,newTuple];refine aac (acK ?_ (by size_fits));refine aac (aeK (by first|rfl|(simp only[firstArgMember];rfl)) ?_);refine acK ?_ (by size_fits);simp only[raiseNew];refine aac (wpAny_handled ?_);rw[hh];refine aac (aaC (wpAny_throw ?_));exact h _ _ (((Heap.SameBut.refl I s.heap).extBut.push _).push _) ⟨_,abb _ rfl,rfl⟩
end
section
variable{prog:Program}{w:World}{A:Around}{E:Value->Shared->Prop}{s:Shared}
variable{I a:Addr}{oa:Obj}{es:Array (Int×Value)}{ep i:Nat}{t:SetTable}
theorem vF{R:Array (Int×Value)->Shared->Prop}(ho:s.heap.get? a=some oa)(hd:oa.data=.set es ep t)(hf:t.fits es.size=true)(h:R es s):wpAny (model prog w) A (setEntries a) R E s:=by
 unfold setEntries;exact aac (adD ho hd hf (aaC h))
theorem next_item{sl nx:Nat}(hit:iu s.heap I (.int sl 0) i a es.size ep)(ho:s.heap.get? a=some oa)(hd:oa.data=.set es ep t)(hf:t.fits es.size=true)
  (hn:∀(R:Option (Value×Nat)->Shared->Prop) (E':Value->Shared->Prop),R (some (x,nx)) s->wpAny (model prog w) A.in1 (setNext a sl i ep) R E' s)
  (hQ:∀h',iu h' I (.int nx 0) (i+1) a es.size ep->Heap.SameBut I s.heap h'->Q (some x) { s with heap:=h' }):wpAny (model prog w) A (pyNext (.ref I)) Q E s:=by
 obtain⟨o,iZ,hc,fM⟩:=id hit;unfold pyNext;refine aac (adV (adm (name:=Str.ofString "__next__") hit.typeIs jR (adk jR hit.typeIs z9 ?_ (yW _))));refine aac (aaC ?_);refine aac (wpAny_fieldsOf iZ fM ?_);dsimp only;refine aac (vF ho hd hf ?_);rw[aa7 (by simp)];refine aac (hn _ _ ?_);dsimp only;refine aac (aeA iZ fM (by simp) ?_);have h1:=acy (Obj.mapFields (·.setIfInBounds 0 (rawInt nx))) iZ (aeo (adb fM _));refine aac (aeA h1 (adb fM _) (by simp) ?_);refine aaC ⟨_,rfl,?_⟩;have h2:=acy (Obj.mapFields (·.setIfInBounds 1 (rawInt ((i:Int)+1)))) h1 (aeo (adb (adb fM _) _));refine aaC (hQ _ ⟨_,h2,?_,?_⟩ ((aea ..).trans (aea ..)))
 .rw[Obj.cls_mapFields,Obj.cls_mapFields];exact hc
 .rw[adb (adb fM _)];simp[rawInt]
theorem next_end{sl:Nat}(hh:A.handled=none)(hit:iu s.heap I (.int sl 0) i a es.size ep)(ho:s.heap.get? a=some oa)(hd:oa.data=.set es ep t)(hf:t.fits es.size=true)
  (hn:∀(R:Option (Value×Nat)->Shared->Prop) (E':Value->Shared->Prop),R none s->wpAny (model prog w) A.in1 (setNext a sl i ep) R E' s)
  (hQ:∀h',Heap.ExtBut I s.heap h'->Q none { s with heap:=h' }):wpAny (model prog w) A (pyNext (.ref I)) Q E s:=by
 obtain⟨o,iZ,hc,fM⟩:=id hit;unfold pyNext;refine aac (adV (adm (name:=Str.ofString "__next__") hit.typeIs jR (adk jR hit.typeIs z9 ?_ (yW _))));refine aac (aaC ?_);refine aac (wpAny_fieldsOf iZ fM ?_);dsimp only;refine aac (vF ho hd hf ?_);rw[aa7 (by simp)];refine aac (hn _ _ ?_);dsimp only;refine aac (aeA iZ fM (by simp) ?_);refine LZ (I:=I) hh λh' e x1 x2=>?_
 refine aac (adJ (T:="StopIteration") x2 isSubtype_stop ?_);refine aaC (hQ _ λb o' hb e'=>x1 b o' hb ?_);rw[acm _ _ (adx hb)];exact e'
theorem YN{tp pl c:Nat}{ot:Obj}{ps:Array Value}(hit:iu s.heap I (.ref tp) i a es.size ep)(ho:s.heap.get? a=some oa)(hd:oa.data=.set es ep t)(hf:t.fits es.size=true)
  (ht:s.heap.get? tp=some ot) (qP:ot.data=.seq ps c) (hp:ps[i]? = some (rawInt pl)) (hx:es[pl]? = some (hx,x))
  (hQ:∀h',iu h' I (.ref tp) (i+1) a es.size ep->Heap.SameBut I s.heap h'->Q (some x) { s with heap:=h' }):wpAny (model prog w) A (pyNext (.ref I)) Q E s:=by
 obtain⟨o,iZ,hc,fM⟩:=id hit;unfold pyNext;refine aac (adV (adm (name:=Str.ofString "__next__") hit.typeIs jR (adk jR hit.typeIs z9 ?_ (yW _))));refine aac (aaC ?_);refine aac (wpAny_fieldsOf iZ fM ?_);dsimp only;refine aac (vF ho hd hf ?_);rw[aa7 (by simp)];refine aac (adZ ht qP ?_);dsimp only;rw[ad3,hp];dsimp only[rawInt];refine aac ?_;unfold setNextDrawn;refine aac (adD ho hd hf ?_);dsimp only;rw[aa7 (by simp),ad3,hx];refine aaC ?_;refine aac (aeA iZ fM (by simp) ?_);have h2:=acy (Obj.mapFields (·.setIfInBounds 1 (rawInt ((i:Int)+1)))) iZ (aeo (adb fM _));refine aaC ⟨_,rfl,aaC (hQ _ ⟨_,h2,?_,?_⟩ (aea ..))⟩
 .rw[Obj.cls_mapFields];exact hc
 .rw[adb fM];simp[rawInt]
theorem Qc(hh:A.handled=none)(hit:iu s.heap I (.ref tp) i a es.size ep)(ho:s.heap.get? a=some oa)(hd:oa.data=.set es ep t)(hf:t.fits es.size=true)
  (ht:s.heap.get? tp=some ot) (qP:ot.data=.seq ps c) (hp:ps[i]? = none)
  (hQ:∀h',Heap.ExtBut I s.heap h'->Q none { s with heap:=h' }):wpAny (model prog w) A (pyNext (.ref I)) Q E s:=by
 obtain⟨o,iZ,hc,fM⟩:=id hit;unfold pyNext;refine aac (adV (adm (name:=Str.ofString "__next__") hit.typeIs jR (adk jR hit.typeIs z9 ?_ (yW _))));refine aac (aaC ?_);refine aac (wpAny_fieldsOf iZ fM ?_);dsimp only;refine aac (vF ho hd hf ?_);rw[aa7 (by simp)];refine aac (adZ ht qP ?_);dsimp only;rw[ad3,hp];dsimp only;refine aac (aeA iZ fM (by simp) ?_);have h1:=acy (Obj.mapFields (·.setIfInBounds 0 (rawInt 0))) iZ (aeo (adb fM _));refine aac (aeA h1 (adb fM _) (by simp) ?_);refine LZ (I:=I) (s:={ s with heap:=(s.heap.update I (Obj.mapFields (·.setIfInBounds 0 (rawInt 0)))).update I (Obj.mapFields (·.setIfInBounds 2 Value.none)) }) hh λh' e x1 x2=>?_
 refine aac (adJ (T:="StopIteration") x2 isSubtype_stop ?_);refine aaC (hQ _ λb o' hb e'=>x1 b o' hb ?_);rw[acm _ _ (adx hb),acm _ _ (adx hb)];exact e'
theorem M_{R:Option (Value×Nat)->Shared->Prop}(hb:iG w=true)(ho:s.heap.get? a=some oa)(hd:oa.data=.set es ep t)(hf:t.fits es.size=true)
  (h:R (((pickOrder (w.params.setOrder a ep) es)[i]?).map λe=>(e.2,sl)) s):wpAny (model prog w) A (setNext a sl i ep) R E s:=by
 unfold setNext;refine aac (adD ho hd hf ?_);dsimp only;refine aac (xQ ?_);rw[hb,if_pos rfl,aa7 (by simp)];unfold setWalk;refine aac (aac (adD ho hd hf ?_));dsimp only;refine aac (xQ ?_);rw[hb,if_pos rfl];exact aac (wpAny_askSetting (aaC (aaC h)))
theorem Iw{R:Option (Value×Nat)->Shared->Prop}(hb:iG w=false)(ho:s.heap.get? a=some oa)(hd:oa.data=.set es ep t)(hf:t.fits es.size=true)(hl:t.led=true)(hp:(!t.plain&&decide (es.size > 1))=false)
  (h:R (match es[SetTable.below t.place sl]?,t.place[SetTable.below t.place sl]? with|some (_,x),some j=>some (x,j+1)|_,_=>none) s):wpAny (model prog w) A (setNext a sl i ep) R E s:=by
 unfold setNext;refine aac (adD ho hd hf ?_);dsimp only;refine aac (xQ ?_);rw[hb,aa7 abI];show wpAny _ _ (ite ((!t.plain&&decide (es.size > 1))=true) _ _) _ _ _;rw[aa7 (by rw[hp];exact abI)];show wpAny _ _ ((ite ((!t.led&&!es.isEmpty)=true) _ _) >>= _) _ _ _;rw[aa7 (by rw[hl];exact abI)];exact aac (aaC (aaC h))
theorem Na(hit:iu s.heap I first i a n ep)(h:Q (.ref I) s):wpAny (model prog w) A (pyIter (.ref I)) Q E s:=by
 refine wpAny_pyIter_slot hit.typeIs GQ (adk GQ hit.typeIs Vp ?_ (abe _));exact aaC ⟨_,rfl,"set_iterator",_,hit.typeIs,jR.lookup,h⟩
theorem Mc(hh:A.handled=none)(gq:a≠I)(hd:oa.data=.set es ep t)(hf:t.fits es.size=true)(xs:List (Int×Value))(Sl:Nat->Nat->Prop)
  (step:∀i sl,Sl i sl->i<es.size->∃e nx,xs[i]? = some e/\Sl (i+1) nx/\∀(s:Shared) (R:Option (Value×Nat)->Shared->Prop) (E':Value->Shared->Prop),s.heap.get? a=some oa->R (some (e.2,nx)) s->wpAny (model prog w) A.in1 (setNext a sl i ep) R E' s)
  (fin:∀sl,Sl es.size sl->∀(s:Shared) (R:Option (Value×Nat)->Shared->Prop) (E':Value->Shared->Prop),s.heap.get? a=some oa->R none s->wpAny (model prog w) A.in1 (setNext a sl es.size ep) R E' s) :
  Walks prog w A I [I,a] [I] es.size (λi v=>∃e,xs[i]? = some e/\e.2=v) (λi h=>(∃sl:Nat,iu h I (.int sl 0) i a es.size ep/\Sl i sl)/\h.get? a=some oa) where
 sub:=λb hb=>by simp at hb;simp[hb]
 frame:=λ_ _ _ st hk=>⟨let⟨sl,x,y⟩:=st.1;⟨sl,x.at λo e=>hk I (by simp) o e,y⟩,hk a (by simp) _ st.2⟩
 item:=λi s Q E hi st hQ=>by
  obtain⟨⟨sl,x,y⟩,ho⟩:=st;obtain⟨e,nx,e1,e2,e3⟩:=step i sl y hi;refine next_item x ho hd hf (λR E' r=>e3 s R E' ho r) λh' x' sb=>?_
  exact hQ e.2 h' s.toks ⟨e,e1,rfl⟩ ⟨⟨nx,x',e2⟩,by rw[sb.2 a gq];exact ho⟩ λb o hb e=>by rw[sb.2 b (λz=>hb (by simp[z]))];exact e
 done:=λs Q E st hQ=>by
  obtain⟨⟨sl,x,y⟩,ho⟩:=st;exact next_end hh x ho hd hf (λR E' r=>fin sl y s R E' ho r) λh' eb=>hQ h' s.toks λb o hb e=>eb b o (λz=>hb (by simp[z])) e
 self:=λ_ _ _ _ st hQ=>by
  obtain⟨⟨sl,x,y⟩,ho⟩:=st;exact Na x hQ
theorem ab1{ys:List Nat}(hh:A.handled=none)(gq:a≠I)(O8:tp≠I)(hd:oa.data=.set es ep t)(hf:t.fits es.size=true)(qP:ot.data=.seq ((ys.map λ(i:Nat)=>rawInt i).toArray) c)(hy:ys.Perm (List.range es.size)):
  Walks prog w A I [I,a,tp] [I] es.size (λi v=>∃e,(ys.filterMap λj=>es[j]?)[i]? = some e/\e.2=v) (λi h=>iu h I (.ref tp) i a es.size ep/\h.get? a=some oa/\h.get? tp=some ot) where
 sub:=λb hb=>by simp at hb;simp[hb]
 frame:=λ_ _ _ st hk=>⟨st.1.at λo e=>hk I (by simp) o e,hk a (by simp) _ st.2.1,hk tp (by simp) _ st.2.2⟩
 item:=λi s Q E hi st hQ=>by
  obtain⟨x,ho,ht⟩:=st;have hl:ys.length=es.size:=by rw[hy.length_eq,acZ]
  have hm:ys[i]'(by lia)<es.size:=aeQ.mp (hy.mem_iff.mp (adM _));have e1:((ys.map λ(i:Nat)=>rawInt i).toArray)[i]? = some (rawInt (ys[i]'(by lia):Nat)):=by
   rw[aen,acg,aau (by lia)];rfl
  have all:∀(zs:List Nat),(∀z∈zs,z<es.size)->(zs.filterMap λj=>es[j]?)=zs.map λj=>es.getD j (0,.none):=λzs=>by
   induction zs with
   |nil=>intro _;rfl
   |cons z zs ih=>
    intro hz;have q:=hz z aah;rw[adf,acJ q,aaz,ih λz' m=>hz z' (aas _ m)];simp[Array.getD,q]
  have e2:(ys.filterMap λj=>es[j]?)[i]? = some (es[ys[i]'(by lia)]):=by
   rw[all ys λz m=>aeQ.mp (hy.mem_iff.mp m),acg,aau (by lia)];simp[Array.getD,hm]
  refine YN x ho hd hf ht qP e1 (hx:=es[ys[i]'(by lia)].1) (x:=es[ys[i]'(by lia)].2) (acJ hm) λh' x' sb=>?_
  exact hQ _ h' s.toks ⟨_,e2,rfl⟩ ⟨x',by rw[sb.2 a gq];exact ho,by rw[sb.2 tp O8];exact ht⟩ λb o hb e=>by rw[sb.2 b (λz=>hb (by simp[z]))];exact e
 done:=λs Q E st hQ=>by
  obtain⟨x,ho,ht⟩:=st;refine Qc hh x ho hd hf ht qP ?_ λh' eb=>hQ h' s.toks λb o hb e=>eb b o (λz=>hb (by simp[z])) e
  rw[aen,adw (by rw[List.length_map,hy.length_eq,acZ];exact aa2 _)]
 self:=λ_ _ _ _ st hQ=>Na st.1 hQ
theorem VW{place:Array Nat}(hr:place.toList.Pairwise (· < ·))(hz:place.size=es.size)(h1:∀j (h:j<place.size),j<i->place[j]<sl)(h2:∀j (h:j<place.size),i<=j->sl<=place[j])(hi:i<es.size):
  SetTable.below place sl=i/\(∀j (h:j<place.size),j<i+1->place[j]<place[i]'(by lia)+1)/\∀j (h:j<place.size),i+1<=j->place[i]'(by lia)+1<=place[j]:=by
 have mono:∀a b (ha:a<place.size) (hb:b<place.size),a<b->place[a]<place[b]:=λa b ha hb o8=>by
  have:=ac6.mp hr a b (by simpa using ha) (by simpa using hb) o8;simpa using this
 refine⟨below_at hr (by lia) h1 h2,λj h hj=>?_,λj h hj=>mono i j (by lia) h (by lia)⟩
 by_cases e:j=i
 .subst e;exact adl _
 .exact ac7 (mono j i h (by lia) (by lia))
end
section
variable{prog:Program}{w:World}{K:Type}[DecidableEq K]{knd:KeyKind prog w K}
variable{A:Around}{E:Value->Shared->Prop}{s:Shared}
variable{a:Addr}{oa:Obj}{es:Array (Int×Value)}{ep:Nat}{t:SetTable}
theorem abE(hex:oa.ExactSet)(ho:s.heap.get? a=some oa)(hd:oa.data=.set es ep t)(hf:t.fits es.size=true)(nW:Tl t (!iG w))(hz:es.size<scanBound)
  (h:∀(h':Heap) (d':Drawn) (I:Addr) (fp:List Addr) (xs:List (Int×Value)) (St:Nat->Heap->Prop),(∀b o,s.heap.get? b=some o->h'.get? b=some o)->s.heap.objs.size<=I->(∀b∈fp,b=a\/(s.heap.objs.size<=b/\b < h'.objs.size))->xs.Perm es.toList->
   (∀A':Around,A'.handled=none->Walks prog w A' I fp [I] es.size (λi v=>∃e,xs[i]? = some e/\e.2=v) St)->St 0 h'->Q (.ref I) { s with heap:=h',drawn:=d' }):wpAny (model prog w) A (pyIter (.ref a)) Q E s:=by
 have hT:s.TypeIs (.ref a) "set":=⟨oa,ho,hex.1⟩
 have bI:=aba ho;have hpz:t.place.size=es.size:=by
  have:=hf;unfold SetTable.fits at this;exact adI.mp ((aaF _ _).mp this).1
 refine wpAny_pyIter_slot hT F.slot_set_iter (adk F.slot_set_iter hT YF ?_ (F.args_set_iter_1 _));unfold Builtin.«frozenset.__iter__»;refine aac (aaC ?_);unfold Builtin.Frozenset.sizeOf;refine aac (aac (vF ho hd hf (aaC ?_)));unfold setDrawn;refine aac (aac (adD ho hd hf ?_));dsimp only;refine aac (xQ (aaC ?_));show wpAny _ _ (ite ((!iG w&&(!t.plain&&decide (es.size > 1)))=true) _ _) _ _ _;have Iu:∀(s1:Shared) (R:Nat->Shared->Prop),s1.heap.get? a=some oa->R ep s1->wpAny (model prog w) A.in1 (setEpoch a) R E s1:=λs1 R g r=>by
  unfold setEpoch;exact aac (adD g hd hf (aaC r))
 have K4:∀(xs:List (Int×Value)) (Sl:Nat->Nat->Prop),xs.Perm es.toList->Sl 0 0->(∀A':Around,A'.handled=none->Walks prog w A' s.heap.objs.size [s.heap.objs.size,a] [s.heap.objs.size] es.size (λi v=>∃e,xs[i]? = some e/\e.2=v) (λi h=>(∃sl:Nat,iu h s.heap.objs.size (.int sl 0) i a es.size ep/\Sl i sl)/\h.get? a=some oa))->
   wpAny (model prog w) A.in1 (pure (rawInt 0)) (λfirst s1=>wpAny (model prog w) A.in1 (setEpoch a) (λe s2=>wpAny (model prog w) A.in1 (newFields "set_iterator" [first,rawInt 0,.ref a,rawInt es.size,rawInt e]) (λv s3=>wpAny (model prog w) A.in1 (ret v) (λfin s'=>∃v,fin=.done (.ret v)/\∃T' r,s'.TypeIs v T'/\typeLookup (.type T') "__next__"=pure (some r)/\Q v s') E s3) E s2) E s1) E s:=λxs Sl hp h0 W=>by
  refine aaC (Iu s _ ho ?_);refine acK (aaC ⟨_,rfl,"set_iterator",_,⟨_,abb _ rfl,rfl⟩,jR.lookup,?_⟩) (by size_fits);have e:∀h1:Heap,({ s with heap:=h1 }:Shared)={ s with heap:=h1,drawn:=s.drawn }:=λh1=>rfl
  rw[e];refine h _ s.drawn s.heap.objs.size _ xs _ (λb o e=>aad _ e) (aa2 _) (λb m=>?_) hp W ⟨⟨0,⟨_,abb _ rfl,rfl,rfl⟩,h0⟩,aad _ ho⟩;rcases aaG.mp m with z|z
  .exact .inr ⟨Nat.le_of_eq z.symm,by rw[acV,z];exact adl _⟩
  .exact .inl (aat.mp z)
 have gq:=ab6 bI;cases hb:iG w with
 |true=>
  rw[aa7 (by simp)];refine aac (acC (K4 (pickOrder (w.params.setOrder a ep) es).toList (λ_ _=>True) (GH _ _) trivial λA' hh=>?_) (λv s1 q=>aac (acC q (λe s2 q=>aac q) λ_ _ x=>x)) λ_ _ x=>x);have hl:(pickOrder (w.params.setOrder a ep) es).toList.length=es.size:=by rw[(GH _ _).length_eq,ab2]
  refine Mc hh gq hd hf _ _ (λi sl _ hi=>⟨(pickOrder (w.params.setOrder a ep) es).toList[i]'(by lia),sl,aau _,trivial,λs' R E' g r=>M_ hb g hd hf ?_⟩) λsl _ s' R E' g r=>M_ hb g hd hf ?_
  .rw[<- adg,aau (by lia)];exact r
  .rw[<- adg,adw (by lia)];exact r
 |false=>
  rw[hb] at nW;have JD:=nW.1;cases hp:(!t.plain&&decide (es.size > 1)) with
  |false=>
   rw[aa7 (by simp)];refine aac (acC (K4 es.toList (λi sl=>(∀j (h:j<t.place.size),j<i->t.place[j]<sl)/\∀j (h:j<t.place.size),i<=j->sl<=t.place[j]) (List.Perm.refl _) ⟨λj h q=>absurd q (aeI _),λj h q=>acD _⟩ λA' hh=>?_) (λv s1 q=>aac (acC q (λe s2 q=>aac q) λ_ _ x=>x)) λ_ _ x=>x);refine Mc hh gq hd hf _ _ (λi sl hs hi=>?_) λsl hs s' R E' g r=>Iw hb g hd hf JD hp ?_
   .obtain⟨q1,q2,q3⟩:=VW nW.2.1 hpz hs.1 hs.2 hi;refine⟨es[i],t.place[i]'(by lia)+1,by rw[adg,acJ hi],⟨q2,q3⟩,λs' R E' g r=>Iw hb g hd hf JD hp ?_⟩;rw[q1,acJ hi,acJ (by lia)];exact r
   .have q:=below_at nW.2.1 (by lia) hs.1 hs.2;rw[q,Array.getElem?_eq_none (aa2 _)];exact r
  |true=>
   rw[if_pos (by simp)];refine aac (IV (xs:=List.range es.size) (by rw[acZ]) λys d' hy=>?_);have ZD:ys.length=es.size:=by rw[hy.length_eq,acZ]
   refine aac (acK ?_ (by show((ys.map λ(i:Nat)=>rawInt i).toArray).size<=sizeLine;rw[abQ,List.length_map,ZD];exact fits_of_scanBound hz));refine aac (Iu _ _ (aad _ ho) ?_);refine aac (acK (aaC ⟨_,rfl,"set_iterator",_,⟨_,abb _ rfl,rfl⟩,jR.lookup,?_⟩) (by size_fits));have hsz:∀o:Obj,(s.heap.push o).objs.size=s.heap.objs.size+1:=λo=>acV ..
   refine h _ d' _ [_,a,s.heap.objs.size] (ys.filterMap λj=>es[j]?) _ (λb o e=>aad _ (aad _ e)) (by rw[hsz];exact ad6 _) (λb m=>?_) ?_
    (λA' hh=>ab1 (tp:=s.heap.objs.size) hh (by rw[hsz];exact ab6 (ac7 bI)) (by rw[hsz];exact ab6 (adl _)) hd hf rfl hy) ⟨⟨_,abb _ rfl,rfl,rfl⟩,aad _ (aad _ ho),aad _ (abb _ rfl)⟩
   .rcases aaG.mp m with z|z
    .refine .inr ⟨by rw[z,hsz];exact ad6 _,by rw[acV,z];exact adl _⟩
    .rcases aaG.mp z with z|z
     .exact .inl z
     .have z:=aat.mp z;exact .inr ⟨Nat.le_of_eq z.symm,by rw[acV,hsz,z];exact ac7 (adl _)⟩
   .have q:=(hy.filterMap λj=>es[j]?)
    rw[filterMap_getElem?_range] at q;exact q
end
section
variable{prog:Program}{w:World}{A:Around}{E:Value->Shared->Prop}{s:Shared}
variable{a:Addr}{oa:Obj}{es:Array (Int×Value)}{ep:Nat}{t:SetTable}
theorem Q6{Q:List Value->Shared->Prop}(hh:A.handled=none)(hex:oa.ExactSet)(ho:s.heap.get? a=some oa)(hd:oa.data=.set es ep t)(hf:t.fits es.size=true)(nW:Tl t (!iG w))(hz:es.size<scanBound)
  (hQ:∀s' (xs:List (Int×Value)),s.heap.objs.size<=s'.heap.objs.size->(∀b o,s.heap.get? b=some o->s'.heap.get? b=some o)->s'.gens=s.gens->s'.os=s.os->xs.Perm es.toList->Q (xs.map (·.2)) s') :
  wpAny (model prog w) A (collect (.ref a)) Q E s:=by
 have bI:a<s.heap.objs.size:=aba ho;unfold collect;refine aac (wpAny_runValue (acS F.entry_proto_collect ?_));rw[acI F.plain_proto_collect _];show wpAny (model prog w) A.in1 (newList [] >>= λl=>again (.builtin "list.__iadd__" ⟨[l,.ref a],[]⟩)) _ _ s;refine aac (acK ?_);refine aaC ⟨adu F.plain_list_iadd _,acS F.entry_list_iadd ?_⟩;rw[acI F.plain_list_iadd _];have hsz:(s.heap.push { cls:=.type "list",data:=.seq ([]:List Value).toArray }).objs.size=s.heap.objs.size+1:=acV ..;have uQ:∀b o,s.heap.get? b=some o->(s.heap.push { cls:=.type "list",data:=.seq ([]:List Value).toArray }).get? b=some o:=λb o e=>aad _ e
 have z7:(s.heap.push { cls:=.type "list",data:=.seq ([]:List Value).toArray }).get? s.heap.objs.size=some { cls:=.type "list",data:=.seq ([]:List Value).toArray }:=abb _ rfl;show wpAny (model prog w) A.in1 (Builtin.List.listExtendWith (.ref s.heap.objs.size) (.ref a) (.ref s.heap.objs.size)) _ _ { s with heap:=s.heap.push { cls:=.type "list",data:=.seq ([]:List Value).toArray } };generalize s.heap.push { cls:=.type "list",data:=.seq ([]:List Value).toArray }=h1 at hsz uQ z7 ⊢;have Co:=uQ _ _ ho;have Fd:({ s with heap:=h1 }:Shared).TypeIs (.ref a) "set":=⟨oa,Co,hex.1⟩
 unfold Builtin.List.listExtendWith;refine aac (aeF Fd ?_);have c1:Builtin.List.listSameRef (.ref s.heap.objs.size) (.ref a)=false:=by simp[Builtin.List.listSameRef,ada bI]
 have c2:(Value.type "set" == Value.type "list")=false:=by decide
 have c3:(Value.type "set" == Value.type "tuple")=false:=by decide
 simp only[c1,c2,c3,Bool.or_false,acG,ad7];refine aac (abE hex Co hd hf nW hz λh2 d' I fp xs St vG hI Lm hp W Qa=>?_);refine aac (acR ?_);have UY:=vG _ _ Co;have pA:({ s with heap:=h2,drawn:=d' }:Shared).TypeIs (.ref a) "set":=⟨oa,UY,hex.1⟩
 have nC:=vG _ _ z7;unfold Builtin.List.listLengthHint;refine aac (ael (s:={ s with heap:=h2,drawn:=d' }) pA O3 ?_);generalize j4:("set.__len__":String)=nX
 (fail_if_success (clear j4 nX))
 wp_delta
 rw[show splitId nX=some ("set","__len__") from by subst j4;decide +kernel];subst j4;refine aac (adJ (b:=true) pA (by rw[adN];kernel_rfl) ?_);show wpAny (model prog w) A.in1 (typeOf (.ref a) >>= _) _ _ _;refine aac (aeF pA ?_);refine aaC ?_;refine aac (ady ?_);refine aac ?_;refine aac (adR nC rfl ?_);have vL:=acy (Obj.mapSeq (·.push Value.none)) nC rfl;refine adR vL rfl ?_;have D3:=acy (Obj.mapSeq (·.pop)) vL rfl;have sN:∀b o,b≠s.heap.objs.size->h2.get? b=some o->((h2.update s.heap.objs.size (Obj.mapSeq (·.push Value.none))).update s.heap.objs.size (Obj.mapSeq (·.pop))).get? b=some o:=
  λb o hb e=>(acm _ _ (adx hb)).trans ((acm _ _ (adx hb)).trans e)
 have nf:s.heap.objs.size∉fp:=λm=>by
  rcases Lm _ m with z|⟨z,_⟩
  .exact ada bI z
  .dsimp only at z;rw[hsz] at z;exact Nat.not_succ_le_self _ z
 have W':=(W A.in1 hh).toS;refine aaC ⟨adu F.plain_extend_loop _,codeAny_extend_loopS W' (fits_of_scanBound hz) s.heap.objs.size nf _ es.size 0 _ _ _ rfl (acD _) ?_ D3 (ItemsOf.nil _) λs' f_ c' oU gm ju=>?_⟩
 .exact(W A.in1 hh).frame 0 _ _ Qa λb hb o e=>sN b o (λz=>nf (z ▸ hb)) e
 .show wpAny (model prog w) A (load s.heap.objs.size >>= _) _ _ s';refine aac (wpAny_load gm ?_);have yx:xs.length=es.size:=by rw[hp.length_eq,ab2]
  have ea:f_.toList=xs.map (·.2):=by
   apply aeO
   intro j;rw[acg,adg]
   by_cases hj:j<f_.size
   .rw[acJ hj];obtain⟨e,e1,e2⟩:=ju.2 j f_[j] (acJ hj);rw[e1,Option.map_some,e2]
   .rw[Array.getElem?_eq_none (by lia),adw (by rw[yx,<- ju.1];lia)];rfl
  refine aaC ?_;rw[ea];refine hQ s' xs (ade (aba gm)) (λb o e=>?_) oU.gens oU.os hp;have hb:b<s.heap.objs.size:=aba e;refine oU.heap b o ?_ (sN b o (ab6 hb) (vG b o (uQ b o e)));intro m;rcases aaG.mp m with z|z
  .exact absurd hb (by rw[z];exact acW _)
  .have z:=aat.mp z;dsimp only at hI;rw[hsz] at hI;exact absurd (acn hb (Nat.le_of_succ_le hI)) (by rw[z];exact acW _)
end
open PySem PyProof.Rows
abbrev jH(w:World):Obj:={ cls:=.type "set",dict:=none,data:=.set #[] 0 (.fresh 0 0 (!iG w)) }
section
variable{prog:Program}{w:World}{A:Around}{E:Value->Shared->Prop}{s:Shared}
theorem YE(h:R (.ref s.heap.objs.size) { s with heap:=s.heap.push (jH w) }):codeAny (model prog w) A (.call (.builtin "set.__new__") ⟨[.type "set",v],[]⟩) (wants R E) s:=by
 have l8:=sub_set_self;refine codeAny_of_tree ?_;refine aac (aeK (F.newCall_set_1 v) (aaC ⟨adu F.plain_set_new _,acS F.entry_set_new ?_⟩));rw[acI F.plain_set_new _];unfold Builtin.«set.__new__» Builtin.Frozenset.newClass;obtain⟨hp,g,d,tk,os⟩:=s;dsimp only
 wp_walk
 refine wpAny_askSetting (aaC ?_);dsimp only;refine acK ?_ (by size_fits);exact aaC h
end
end L2.SetT
namespace L2
open PySem PySem.Spec PyProof.Rows L2.SetT
theorem SetT.gX.parts{K:Type}[DecidableEq K]{knd:KeyKind prog w K}{U:List K}(x:gX knd h a U led):U.Nodup/\∃o es ep t,h.get? a=some o/\o.ExactSet/\o.data=.set es ep t/\ElemsOf knd es.toList/\(∀k,k∈U↔∃e∈es.toList,knd.is k e.2=true)
 /\es.size<scanBound/\t.fits es.size=true/\es.size=U.length/\Tl t led:=by
 obtain⟨nd,o,es,ep,t,h1,h2,h3,h4,h5,r⟩:=x;exact⟨nd,o,es,ep,t,h1,h2,h3,h4,λk=>by rw[<- h5 k,ad5],r⟩
def kh(P:Program)(w:World)(a:Addr)(U:List Int):HO:=.ext λh=>gX (cO P w) h a (U.map Sum.inl) (!iG w)
theorem kh.ok{P:Program}{w:World}{H:Hp}{h:Heap}{a:Addr}{U:List Int}(x:gX (cO P w) h a (U.map Sum.inl) (!iG w)):cF P w H h a (kh P w a U):=by
 obtain⟨_,o,_,_,_,ho,_⟩:=id x;exact⟨x,⟨o,ho⟩,λh1 h2 q e=>q.keep e⟩
theorem kh.get(ok:cL P w H h)(e:H a=some (kh P w a U)):gX (cO P w) h a (U.map Sum.inl) (!iG w):=
 (show cF P w H h a (kh P w a U) from ok a _ e).1
theorem KI:∀{U:List Key},(∀k∈U,∃i:Int,k=Sum.inl i)->∃W:List Int,U=W.map Sum.inl
 |[],_=>⟨[],rfl⟩
 |k::U,h=>by
  obtain⟨i,rfl⟩:=h k aah;obtain⟨W,e⟩:=KI λj m=>h j (aas _ m)
  exact⟨i::W,by rw[e];rfl⟩
theorem JV{W:List Int}:(Sum.inl i:Key)∈W.map Sum.inl↔i∈W:=by
 rw[acu];exact⟨λ⟨j,m,e⟩=>by cases e;exact m,λm=>⟨i,m,rfl⟩⟩
theorem GU{W:List Int}(h:(W.map (Sum.inl:Int->Key)).Nodup):W.Nodup:=by
 rw[List.Nodup,aeP] at h;exact h.imp λq e=>q (by rw[e])
theorem MY:∀{U ns:List Int},U.Nodup->(∀k∈U,k∈ns)->ns.length=U.length->ns.Perm U
 |[],ns,_,_,hl=>by
  have:ns=[]:=ac3 hl;subst this;exact List.Perm.refl _
 |u::U,ns,nd,sub,hl=>by
  obtain⟨n1,n2⟩:=acd.mp nd;have mu:=sub u aah;have p:=List.perm_cons_erase mu;have q:(ns.erase u).Perm U:=MY n2 (λk m=>(List.mem_erase_of_ne (λe=>n1 (by rw[<- e];exact m))).mpr (sub k (aas _ m))) (by rw[aeG mu,hl];rfl);exact p.trans (q.cons u)
theorem IB{P:Program}{w:World}{U:List Int}:∀(xs:List (Int×Value)),(∀e∈xs,∃i∈U,∃t,e.2=.int i t)->∃ns:List Int,IntsAre (xs.map (·.2)) ns/\ns.length=xs.length/\∀e∈xs,∀i t,e.2=.int i t->i∈ns
 |[],_=>⟨[],.nil,rfl,λe m=>nomatch m⟩
 |x::xs,h=>by
  obtain⟨ns,h1,h2,h3⟩:=IB (P:=P) (w:=w) xs λe m=>h e (aas _ m)
  obtain⟨i,_,t,e⟩:=h x aah;refine⟨i::ns,by rw[aaz,e];exact .cons i t h1,by rw[acj,h2,acj],λe' m j u q=>?_⟩;rcases aaG.mp m with z|z
  .rw[z,e] at q;cases q;exact aah
  .exact aas _ (h3 e' z j u q)
def Rq(P:Program)(w:World):List V->Hp->VK->Prop:=λxs H Q=>∃(p:Addr) (U:List Int),xs=[.ref p]/\H p=some (kh P w p U)/\U.length<64/\
 ∀(l:Addr) (i9:List Int),H l=none->i9.Perm U->i9.Pairwise (·<=·)->Q (.ref l) (upd H l (.lst (i9.map V.int)))
section
variable{X:Cx}
theorem TY(hc:X.calm=true):eF X (.builtin "sorted") (Rq X.prog X.w):=by
 intro af s σ H xs us Q I r h;obtain⟨p,U,rfl,hp,eK,q⟩:=h;obtain⟨u,rfl,ru⟩:=vals1 r;cases ru;have hh:X.A.handled=none:=I.ok.hd hc;obtain⟨nd,o,es,ep,t,ho,hex,hd,kK,mX,hb,hf,hn,nW⟩:=(kh.get I.aC hp).parts;rw[List.length_map] at hn;refine JW λQ' yb=>?_
 refine Q6 hh hex ho hd hf nW hb λs' xs hle kp e1 e3 Du=>?_
 have isInt:∀e∈xs,∃i∈U,∃t,e.2=.int i t:=λe m=>by
  have m2:=Du.mem_iff.mp m;obtain⟨⟨k,q1,q2⟩,q3⟩:=kK e m2;have m3:=(mX k).mpr ⟨e,m2,q1⟩;obtain⟨i,m4,rfl⟩:=acu.mp m3;rcases jB (show ng (Sum.inl i) e.2=true from q1) with⟨j,t',z1,z2⟩|⟨y,t',z1,z2⟩
  .cases z1;exact⟨i,m4,t',z2⟩
  .cases z1
 obtain⟨ns,n1,n2,n3⟩:=IB (P:=X.prog) (w:=X.w) xs isInt;have yx:xs.length=U.length:=by rw[Du.length_eq,ab2,hn]
 have pm:ns.Perm U:=MY (GU nd) (λk m=>by
  obtain⟨e,m2,z⟩:=(mX (Sum.inl k)).mp (JV.mpr m);have m3:=Du.mem_iff.mpr m2;rcases jB (show ng (Sum.inl k) e.2=true from z) with⟨j,t',z1,z2⟩|⟨y,t',z1,z2⟩
  .cases z1;exact n3 e m3 k t' z2
  .cases z1) (by rw[n2,yx])
 refine yb _ s' ⟨⟨ns,n1,λout bR a1 a2 a3=>?_⟩,?_⟩
 .obtain⟨h',g',d',t',o'⟩:=s';dsimp only at e1 e3 kp hle;subst e1 e3;obtain⟨e,he⟩:=sortedHeap_at (vs:=xs.map (·.2)) (n:=0) (out:=out) (show(h'.push (seqObj "list" (xs.map (·.2)).toArray 0)).get? h'.objs.size=some (seqObj "list" (xs.map (·.2)).toArray 0) from abb _ rfl);have p2:=a2.trans pm;have hlen:bR.length<64:=by rw[p2.length_eq];exact eK
  have kk:∀b ob,s.heap.get? b=some ob->(sortedHeap (h'.push (seqObj "list" (xs.map (·.2)).toArray 0)) h'.objs.size (xs.map (·.2)) out).get? b=some ob:=λb ob eb=>by
   have hb:b<h'.objs.size:=aba (kp b ob eb);rw[sortedHeap_old (ab6 hb) (by rw[acV];exact ac7 hb)];exact aad _ (kp b ob eb)
  refine⟨.ref h'.objs.size,upd H h'.objs.size (.lst (bR.map V.int)),?_,rfl,q _ bR (I.aC.fresh hle) p2 a3⟩;refine I.HL (ch:=[]) rfl (Un.laid kk hle (I.aC.fresh hle)) (I.aC.laid kk hle ?_) I.bare λb z=>absurd z (by simp)
  exact⟨by rw[List.length_map];exact ade (vJ (by lia)),out.toList,e,Ad a1,by rw[he]⟩
 .rw[List.length_map,yx]
  first|exact eK|exact ade (vJ (by lia))
end
end L2
namespace L2.Ev
open PySem PySem.Spec PyProof.Rows L2.SetT
def nk(a b:List Int):List Int:=b.foldl fT (a.foldl fT [])
theorem BH:∀{b U:List Int},k∈b.foldl fT U↔k∈U\/k∈b
 |[],U=>by simp
 |j::b,U=>by
  rw[adj,BH,DN,aaG,or_assoc]
theorem EU:∀{b U:List Int},U.Nodup->(b.foldl fT U).Nodup
 |[],U,h=>h
 |j::b,U,h=>EU (b:=b) (Nm h)
theorem CY:∀{b U:List Int},(b.foldl fT U).length<=U.length+b.length
 |[],U=>aa2 _
 |j::b,U=>by
  have h1:=CY (b:=b) (U:=fT U j);have h2:=Hg (U:=U) (k:=j);rw[adj,acj]
  lia
theorem Nc:k∈nk a b↔k∈a\/k∈b:=by
 unfold nk;rw[BH,BH];simp
theorem Jv:(nk a b).Nodup:=EU (EU aci)
theorem UT:(nk a b).length<=a.length+b.length:=by
 have h1:=CY (b:=b) (U:=a.foldl fT []);have h2:=CY (b:=a) (U:=[]);unfold nk;simp only[aek] at h2
 lia
theorem G2(h:l.Nodup):(dD l).Pairwise (· < ·):=by
 have n:=(sy l).nodup_iff.mpr h;exact(List.Pairwise.and (EN l) n).imp λ⟨a,b⟩=>Int.lt_iff_le_and_ne.mpr ⟨a,b⟩
theorem UN:bootBuiltins "set"=some (.type "set"):=by decide +kernel
theorem aG.new{H:Hp}{l:Addr}{o:HO}(h:H l=none):aG H (upd H l o):=λb o' e=>by rw[aN (cD e h)];exact e
end L2.Ev
namespace L2
open PySem PySem.Spec PyProof.Rows
def LV(K:PySem.W.Frag)(C D:Addr):Prop:=∃nm q N bs bm iS sn sub ab col dd k0 k1 k2 k3 k5 newId,K.lookup C=some (excClassObj nm q C N bs bm iS sn sub ab col dd k0 k1 k2 k3 k5 newId)/\
 ∃Eb q' N' Dq yV DQ BL Cg B_ D6 jn j0 j1 j2 j3 j5 Az,K.lookup D=some (excClassObj Eb q' D N' Dq yV DQ BL Cg B_ D6 jn j0 j1 j2 j3 j5 Az)/\yV.contains (.type "BaseException")=true/\(Value.ref C::bm).contains (.ref D)=true
open PySem PySem.Spec PySem.W PySem.Calls PyProof.Rows Builtin Builtin.ObjectAttr Builtin.Getset_descriptor
structure EZ(K:Frag)(C:Addr):Prop where
 ga:findIn K (.ref C) "__getattribute__"=some (some (.builtin "BaseException.__getattribute__"))
 gh:findIn K (.ref C) "__getattr__"=some none
 at_:findIn K (.ref C) "__class__"=some (some (.builtin "object.__class__"))
 get:specialIn K (.builtin "object.__class__") "__get__"=some (some (.builtin "getset_descriptor.__get__"))
 tk:takesIn K (.builtin "object.__class__")=some true
 mo:mroIn K C (.type "object")=some true
 mb:mroIn K C (.type "BaseException")=some true
 cl:(clsIn K C).isSome=true
end L2
namespace L2.Ev
open PySem PySem.Spec PyProof.Rows
def wk(X:Cx)(st:Stmt):TS:=λW σ H=>∀(af:List (Addr×Obj)) (s:Shared),Inv X af σ H s->wpAny (model X.prog X.w) X.A (exec st X.env) (SP X af W) X.xe s
theorem Mw{st:Stmt}:PS X st (wk X st):=λaf s _ _ _ I h=>h af s I
inductive ER where
 |ok (d:D) (ρ:aE)|er (cn:XN) (ρ:aE)
def aa6(X:Cx)(H0:Hp)(S:List Addr)(aq:List ck)(σ:St)(Q:VK)(E:XK):ER->Prop
 |.ok d ρ=>∀z H1 H' v fp,Ok X.K H0 S z aq ρ σ H1->aG H1 H'->Rep X.K H' d v fp->cB z H1 .own fp->Q v H'
 |.er cn ρ=>∀z H' C,Ok X.K H0 S z aq ρ σ H'->PySem.W.nsIn X.K mainGlobals cn.1=some (some (.ref C))->E (.ref C) cn.2 H'
abbrev XR:=aE->Option ER
def FE(X:Cx)(e:Expr)(f:XR):Prop:=∃t,PX X e t/\∀{H0:Hp}{S:List Addr}{z:Addr->Option Nat}{aq:List ck}{ρ:aE}{σ:St}{H:Hp}{Q:VK}{E:XK}{r:ER},
 Ok X.K H0 S z aq ρ σ H->f ρ=some r->aa6 X H0 S aq σ Q E r->t σ H Q E
theorem Ma:vm X (λ_ _ _ _=>False):=λ_ _ _ _ _ _ _ _ z=>z.elim
def zS(i:Nat)(f:XR):SF:=λρ=>match f ρ with
 |some (.ok d ρ')=>some (.nx (jI ρ' i d .own))
 |some (.er cn ρ')=>some (.er false cn ρ')
 |none=>none
section
variable{X:Cx}{e:Expr}{f:XR}{pos:Pos}
theorem BI(i:Nat){x:Str}{pos':Pos}(he:FE X e f)(hN:X.N.Nodup)(hi:X.N[i]? = some x:=by rfl)(hx:Loc X.env.scope x:=by first|exact Or.inl rfl|exact Or.inr rfl)
  (hs:swapsWith e (some (.Name x pos')) pos.line X.env=pure false:=by rfl) (hf:X.fn x=true\/X.env.scope.names.lookup x=some .local:=by first|exact .inl rfl|exact .inr rfl) (m_:kT X x=false:=by rfl):dO X (.Assign [.Name x pos'] e pos) (zS i f):=by
 obtain⟨t,p,q⟩:=he;exists 23,Mw;unfold zS at e;cases h:f ρ with
 |none=>rw[h] at e;cases e
 |some r=>
  rw[h] at e;intro af s I;cases r with
  |ok d aD=>
   cases e;refine J6 Ma hN hi hx p hs hf af s σ H E I ?_;exact q ok h λz1 H1 H2 v fp bD s1 r1 g1=>bD.stored s1 r1 g1 λz' a_=>k z' _ H2 a_ (.set hi m_)
  |er cn aD=>
   cases e;obtain⟨ES,th,kk⟩:=k;refine J6 th hN hi hx p hs hf af s σ H E I ?_;exact q ok h λz1 H1 C bD hC=>kk z1 σ H1 C bD (.refl _ _) hC
end
def aag(K:PySem.W.Frag)(T:List (Str×Bool))(c:Value):Prop:=∀cn b C,T.lookup cn=some b->PySem.W.nsIn K mainGlobals cn=some (some (.ref C))->EZ K C/\PySem.W.kitOne K (.ref C) c=some b
section
variable{X:Cx}{o a b c d:Expr}{fo fa fb fc fd:EF}{p p1 p2 p3 p4 pos:Pos}
def LU(K:PySem.W.Frag)(t:Addr)(ys:List Str):Prop:=∃(o:Obj) (ak:Array Value) (n:Nat),K.lookup t=some o/\o.cls=.type "tuple"/\o.dict=none/\o.data=.seq ak n/\ak.size<=sizeLine/\aK (ys.map V.str) ak.toList
end
end L2.Ev
namespace L2.Ev
open PySem PySem.W
theorem NI{K:Frag}{newId:String}(q:excIn K C uV newId=true):∃nm qn N bs bm iS sn sub ab col dd k0 k1 k2 k3 k5,K.lookup C=some (excClassObj nm qn C N bs bm iS sn sub ab col dd k0 k1 k2 k3 k5 newId)/\
  tailIn K uV bm=true/\nsOkIn K N=true/\nsIn K N "__init__"=some none:=by
 unfold excIn at q
 split at q
 .rename_i dd cd sl ho
  split at q
  .rename_i C' bm k0 k1 k2 k3 n k5 hm hs;simp only[aaF,adI,Bool.not_eq_true'] at q;obtain⟨⟨⟨⟨⟨rfl,rfl⟩,Mb⟩,ht⟩,aC⟩,My⟩:=q;obtain⟨nm,bs,mro,ns,qn,hd,sn,sub,ab,col,del⟩:=cd;dsimp only at hm Mb aC My;subst hm Mb;have Uw:sl=#[k0,k1,k2,k3,some (.builtin n),k5]:=by
    obtain⟨l⟩:=sl;simp only at hs;rw[hs]
   subst Uw;exact⟨nm,qn,ns,bs,bm,hd,sn,sub,ab,col,dd,k0,k1,k2,k3,k5,ho,ht,aC,My⟩
  .cases q
 .cases q
theorem OS{K:Frag}(q:excIn K C JF "ValueError.__new__"=true):Mx K C:=by
 obtain⟨nm,qn,N,bs,bm,iS,sn,sub,ab,col,dd,k0,k1,k2,k3,k5,h1,h2,h3,h4⟩:=NI q;exact⟨⟨_,_,_,_,bm,N,nm,qn,bs,iS,sn,sub,ab,col,dd,k0,k1,k2,k3,k5,PySem.F.excBase_ValueError,h1,h3,h4,h2⟩⟩
def Shape(K:Frag)(C:Addr):Prop:=∃nm qn N bs bm iS sn sub ab col dd k0 k1 k2 k3 k5 newId,K.lookup C=some (excClassObj nm qn C N bs bm iS sn sub ab col dd k0 k1 k2 k3 k5 newId)
theorem LO{K:Frag}{newId:String}(q:excIn K C uV newId=true):Shape K C:=by
 obtain⟨nm,qn,N,bs,bm,iS,sn,sub,ab,col,dd,k0,k1,k2,k3,k5,h1,_⟩:=NI q;exact⟨nm,qn,N,bs,bm,iS,sn,sub,ab,col,dd,k0,k1,k2,k3,k5,newId,h1⟩
theorem ID{K:Frag}{sub:List Value}{col:Option Bool}{dd:Option Addr}{k0 k1 k2 k3 k5:Option Value}{newId:String}
  (h:K.lookup C=some (excClassObj nm qn C N bs bm iS sn sub ab col dd k0 k1 k2 k3 k5 newId)) (m:mroIn K C v=some true):(Value.ref C::bm).contains v=true:=by
 unfold mroIn clsIn at m;rw[h] at m;dsimp only at m;rw[acq,aa7 (by simp)] at m;exact ab8 m
theorem QD{K:Frag}{C D:Addr}(hC:Shape K C)(hD:Shape K D)(m:mroIn K C (.ref D)=some true)(b:mroIn K D (.type "BaseException")=some true):LV K C D:=by
 obtain⟨nm,qn,N,bs,bm,iS,sn,sub,ab,col,dd,k0,k1,k2,k3,k5,newId,h1⟩:=hC;obtain⟨Eb,Pw,N',Dq,yV,DQ,BL,Cg,B_,D6,jn,j0,j1,j2,j3,j5,Az,h2⟩:=hD;refine⟨nm,qn,N,bs,bm,iS,sn,sub,ab,col,dd,k0,k1,k2,k3,k5,newId,h1,Eb,Pw,N',Dq,yV,DQ,BL,Cg,B_,D6,jn,j0,j1,j2,j3,j5,Az,h2,?_,ID h1 m⟩;have:=ID h2 b;rw[List.contains_cons] at this;rcases(Bool.or_eq_true _ _).mp this with q|q
 .cases adI.mp q
 .exact q
noncomputable def ZF(names:List Str):Str->Bool:=λcn=>names.contains cn
def ZL(K:Frag)(names:List Str)(Dc:Addr):Prop:=∀cn C,ZF names cn=true->nsIn K mainGlobals cn=some (some (.ref C))->LV K C Dc
theorem Xg{K:Frag}(m:mroIn K C v=some b):(clsIn K C).isSome=true:=by
 unfold mroIn at m;cases h:clsIn K C with
 |none=>rw[h] at m;cases m
 |some _=>rfl
end L2.Ev
namespace L2
open PySem PySem.Spec PyProof.Rows
section
variable{X:Cx}{e:Expr}{ES:XS}{pos:Pos}
theorem Ku(h:PE X.d8 e t):PX X e (λσ H Q _=>t σ H Q):=λaf s σ H Q E I hw=>
 acC (h af s σ H Q (I.ja _) hw) (λ_ _ ⟨v,H',I',r,q⟩=>⟨v,H',I'.jN,r,q⟩) λ_ _ z=>False.elim z
end
end L2
namespace L2.Ev
open PySem PySem.Spec PyProof.Rows
section
variable{K:PySem.W.Frag}{H H':Hp}
theorem U_{aT bX b_:List Addr}(im:bH H H')(kp:∀b o,b∉aT->H b=some o->H' b=some o)(r1:Rep K H' d1 v0 bX)(rr:Rep K H' r u b_)(pM:∀b∈b_,(b∈aT\/H b=none)/\b∉bX):
  ∃H4:Hp,bH H H4/\(∀b o,b∉aT->H b=some o->H4 b=some o)/\Rep K H4 d1 v0 bX/\aG H4 H'/\∀a∈b_,H4 a=none:=by
 classical
 have st:∀{c:Addr}{o:HO},H' c=some o->iN o=false->(if c∈b_ then none else H' c)=some o:=λ{c o} e mo=>by
  rw[aa7 λm=>?_]
  .exact e
  .obtain⟨o',w,vS⟩:=rr.dw c m;rw[e] at w;cases w;rw[mo] at vS;cases vS
 refine⟨λc=>if c∈b_ then none else H' c,⟨λc xs e=>st (im.1 c xs e) rfl,λc o u e=>st (im.2.1 c o u e) rfl,λc φ e=>st (im.2.2 c φ e) rfl⟩,λb o n e=>?_,r1.frame (λc m=>aa7 λq=>(pM c q).2 m) ⟨λc xs e=>st e rfl,λc o u e=>st e rfl,λc φ e=>st e rfl⟩,λc o e=>?_,λa m=>if_pos m⟩
 .show(if b∈b_ then none else H' b)=some o;rw[aa7 λm=>?_]
  .exact kp b o n e
  .rcases(pM b m).1 with q|q
   .exact n q
   .rw[e] at q;cases q
 .have e:(if c∈b_ then none else H' c)=some o:=e
  by_cases m:c∈b_
  .rw[if_pos m] at e;cases e
  .rw[aa7 m] at e;exact e
end
def uU(i:Nat)(G:MF)(g:AF):XR:=λρ=>match ρ[i]?,g ρ with
 |some (some (d0,.own)),some ps=>if apart i ps=true then(G d0 (ps.map (·.1))).map λw=>.ok w.1 (cz ρ i w.2) else none
 |_,_=>none
section
variable{X:Cx}{x xn:Str}{p p1 p2 pos:Pos}{b:Expr}{es:List Expr}{k:Nat}{f:Addr}{fd:FuncData}{ps:List Str}{G:MF}{g:AF}{fk:EF}
theorem CC(i:Nat)(GG:bT X.prog X.w X.K X.mg X.base cJ k f fd ps (lJ X.K G))(hr:bh k X.A)(hm:X.mg x=some (.ref f))(hk:PySem.W.keepIn X.K (.ref f)=true)(hb:Binds X.K fd ps [])(ha:FA X.d8 es g)
  (va:VA X i xn:=by walk_at "va")
  (hg:GD X x:=by exact⟨rfl,by decide⟩) (he:starEach (.Name xn p1::es) X.env=(false,eval (.Name xn p1) X.env)::starEach es X.env:=by rfl) (hpl:(backTo pos (starEach es X.env)).any (·.1)=false:=by rfl) :
  FE X (.Call (.Name x p) (.Name xn p1::es) [] pos) (uU i G g):=by
 obtain⟨t,pa,_,sa⟩:=ha;refine⟨_,Ku (xh (X:=X.d8) GG hr hg.1 hm hk hb .nil nY (cH (pQ (X:=X.d8) va.N va.v va.d va.c) pa he) hg.2 he hpl),@λH0 S z aq ρ σ H Q E r ok e0 kk=>?_⟩;unfold uU at e0
 split at e0
 .rename_i d0 qs h1 h2
  by_cases vX:apart i qs=true
  .rw[if_pos vX] at e0;cases h3:G d0 (qs.map (·.1)) with
   |none=>rw[h3] at e0;cases e0
   |some w=>
    rw[h3] at e0;cases e0;obtain⟨v,aT,hs,r0,zz⟩:=ok.sl i _ _ h1;refine⟨v,hs,?_⟩;refine sa ok h2 λH2 vs lY s2 r2 g2=>?_
    show lJ X.K G ((v::vs)++[]) H2 Q E0;rw[acB];have dH:=ok.same s2;refine⟨v,vs,d0,aT,_,lY,w.1,w.2,rfl,r0.same s2,zz.1,r2,HM ok vX g2 zz,h3,λH3 u bX b_ im kp r1 nd fr rr Bw pM=>?_⟩;obtain⟨H4,i4,k4,r4,s4,n4⟩:=U_ im kp r1 rr pM;obtain⟨z',iF⟩:=dH.put h1 hs zz i4 k4 r4 nd fr;exact kk z' H4 H3 u b_ iF s4 rr ⟨Bw,n4⟩
  .rw[aa7 vX] at e0;cases e0
 .cases e0
end
def xy(fa fh:EF):EF:=λρ=>match fa ρ,fh ρ with
 |some (.lst ds,_),some (.int i,_)=>if aU ds=true then some (.lst (cutD ds (some i) none),.own) else none
 |_,_=>none
section
variable{X:Cx}{a b:Expr}{fa:EF}{p2 pos:Pos}
theorem IP{fh:EF}(ha:FP X a fa)(hh:FP X b fh):FP X (.Subscript a (.Slice (some b) none none p2) pos) (xy fa fh):=by
 obtain⟨t,p,q⟩:=ha;obtain⟨th,ph,qh⟩:=hh;exists 21,E4 Au p (DM ph) Cu;unfold xy at e
 split at e
 .rename_i ds t1 i t2 e1 e2;obtain⟨hi,e⟩:=ci e;cases e;refine q ok e1 λH1 x f1 s1 r1 _=>?_
  refine qh (ok.same s1) e2 λH2 y f2 s2 r2 _=>?_
  cases r2;refine⟨i,rfl,?_⟩;obtain⟨w,xs,f,rfl,hq,rs,_⟩:=(r1.same s2).dh;have hn:=rs.aI hi;subst hn;refine⟨w,xs,rfl,hq,λp hp=>?_⟩;have s3:aG H2 (upd H2 p (.lst (jA xs (some i) none))):=λb o e=>by rw[aN (cD e hp)];exact e
  have rr:ay X.K H2 (cutD ds (some i) none) (jA xs (some i) none) []:=by
   unfold cutD jA;rw[rs.length];exact ay.wB _ (ay.xY _ rs)
  refine k _ _ [p] ((s1.trans s2).trans s3) (.lst bL (rr.same s3)) ⟨acd.mpr ⟨(λm=>by cases m),aci⟩,λa m=>?_⟩;cases aat.mp m;exact s1.free (s2.free hp)
 .cases e
end
def iC(fa fb:EF):EF:=λρ=>match fa ρ,fb ρ with
 |some (.tup ds,.sh o),some (.int i,_)=>(bV ds i).map λd=>(d,.sh o)
 |_,_=>none
theorem lS(ha:FP X a fa)(hb:FP X b fb)(hs:rQ b:=by exact λ_ _=>rfl):FP X (.Subscript a b pos) (iC fa fb):=by
 obtain⟨ta,pa,sa⟩:=ha;obtain⟨tb,pb,sb⟩:=hb;exists 20,vZ vp pa pb hs;unfold iC at e
 split at e
 .rename_i ds o i t2 e1 jQ;cases h3:bV ds i with
  |none=>rw[h3] at e;cases e
  |some d3=>
   rw[h3] at e;cases e;refine sa ok e1 λH1 x f1 s1 r1 g1=>?_
   refine sb (ok.same s1) jQ λH2 y f2 s2 r2 _=>?_
   have r1:=r1.same s2;obtain⟨p,xs,rfl,hq,rs⟩:=r1.jz;cases r2;unfold bV at h3;cases h:h_ ds.length i with
   |none=>rw[h] at h3;cases h3
   |some j=>
    rw[h,acq] at h3;obtain⟨v,f',hv,rv,hm⟩:=rs.get h3;refine .inr (.inl ⟨p,xs,i,v,rfl,rfl,hq,?_,q H2 v f' (s1.trans s2) rv λa m=>g1 a (hm a m)⟩);unfold bV;rw[<- rs.length,h,acq];exact hv
 .cases e
theorem ay.ME{K:PySem.W.Frag}:∀{ds:List D}{vs:List V}{fp:List Addr}{i:Nat}{d:D},ay K H ds vs fp->ds[i]? = some d->∃v f,vs[i]? = some v/\Rep K H d v f/\f.Sublist fp
 |_,_,_,_,_,.nil,e=>by simp at e
 |_,_,_,0,_,.cons (f2:=f2) h t,e=>by
  cases ab8 e;exact⟨_,_,rfl,h,List.sublist_append_left _ _⟩
 |_,_,_,i+1,d,.cons h t,e=>by
  obtain⟨v,f,e1,r,s⟩:=ay.ME (d:=d) t (by simpa using e);exact⟨v,f,by simpa using e1,r,s.trans (List.sublist_append_right _ _)⟩
def sG(fa fb:EF):EF:=λρ=>match fa ρ,fb ρ with
 |some (.lst ds,.own),some (.int i,_)=>(bV ds i).map λd=>(d,.own)
 |_,_=>none
theorem JJ{a b:Expr}(ha:FP X a fa)(hb:FP X b fb)(hs:rQ b:=by exact λ_ _=>rfl):FP X (.Subscript a b pos) (sG fa fb):=by
 obtain⟨ta,pa,sa⟩:=ha;obtain⟨tb,pb,sb⟩:=hb;exists 20,vZ vp pa pb hs;unfold sG at e
 split at e
 .rename_i ds i t2 e1 jQ;cases e3:bV ds i with
  |none=>rw[e3] at e;cases e
  |some d'=>
   rw[e3] at e;cases e;refine sa ok e1 λH1 x f1 s1 r1 g1=>?_
   refine sb (ok.same s1) jQ λH2 y f2 s2 r2 _=>?_
   have r1:=r1.same s2;cases r2;unfold bV at e3;cases h:h_ ds.length i with
   |none=>rw[h] at e3;cases e3
   |some j=>
    rw[h,acq] at e3;cases r1 with
    |lst hq rs=>
     obtain⟨v,f',hv,rv,hm⟩:=rs.ME e3;have g1:=g1;refine .inl ⟨_,_,i,v,rfl,rfl,bG.of hq,?_,q H2 v f' (s1.trans s2) rv ⟨hm.nodup (acd.mp g1.1).2,λa m=>g1.2 a (aas _ (hm.subset m))⟩⟩;unfold bV;rw[<- rs.length,h,acq];exact hv
 .cases e
section
variable(P:Program)(w:World)(K:PySem.W.Frag)(mg:Str->Option Value)(base:Heap)(CX:iX)(k:Nat)
def FN(x:Str)(ps:List Str)(sp:Sp)(cm:Bool:=true):Prop:=∃a fd,bT P w K mg base CX k a fd ps sp cm/\mg x=some (.ref a)/\PySem.W.keepIn K (.ref a)=true/\Binds K fd ps []
def MT(C:Addr)(x:Str)(ps:List Str)(sp:Sp)(cm:Bool:=true):Prop:=∃a fd,bT P w K mg base CX k a fd ps sp cm/\Binds K fd ps []/\nK K C x a
def MI(C:Addr)(ps:List Str)(sp:Sp)(cm:Bool:=true):Prop:=∃a fd,bT P w K mg base CX k a fd ps sp cm/\Binds K fd ps []/\Mk K C a
end
def GL(K:PySem.W.Frag)(x q:Str)(st:Stmt)(f:Addr):Prop:=∃oc od kV dc pm an cd ct sl,K.lookup f=some ⟨oc,od,.func (PySem.W.fnOf x q (jS st) (f7 st) (cC st) .none kV dc pm an cd ct),sl⟩/\PySem.W.codeIn K cd q=true/\PySem.W.keepIn K (.ref f)=true
def Af(K:PySem.W.Frag)(x:Str)(st:Stmt):Prop:=∃f,PySem.W.nsIn K mainGlobals x=some (some (.ref f))/\GL K x x st f
def GM(K:PySem.W.Frag)(C:Addr)(x q:Str)(st:Stmt):Prop:=∃f,PySem.W.findIn K (.ref C) x=some (some (.ref f))/\PySem.W.isFn K (.ref f)=true/\GL K x q st f
abbrev BA(x q:Str)(st:Stmt)(ps:List Str):Prop:=∀(kV doc pm:Value) (an:Option Addr) (aV ct:Value) (us:List Value),us.length=ps.length->bindArgs (PySem.W.fnOf x q (jS st) (f7 st) (cC st) .none kV doc pm an aV ct) ⟨us,[]⟩=pure (ps.zip us)
theorem yg{K:PySem.W.Frag}{x q:Str}{st:Stmt}{f:Addr}(l:GL K x q st f):PySem.W.keepIn K (.ref f)=true/\∃fd,gQ K x q st f fd:=by
 obtain⟨oc,od,kV,dc,pm,an,cd,ct,sl,h1,h2,h3⟩:=l;exact⟨h3,_,NU h1 h2 h3⟩
section
variable{P:Program}{w:World}{K:PySem.W.Frag}{h:Heap}{mg:Str->Option Value}{base:Heap}{CX:iX}{k:Nat}{C:Addr}{x q:Str}{st:Stmt}{ps:List Str}{sp:Sp}{cm:Bool}
theorem U6(X:K.In h)(G:h.Ns mainGlobals mg)(l:Af K x st)(ok:∀{f:Addr}{fd:FuncData},gQ K x x st f fd->bT P w K mg base CX k f fd ps sp cm)(b:BA x x st ps):FN P w K mg base CX k x ps sp cm:=by
 obtain⟨f,a,l⟩:=l;obtain⟨kp,fd,F⟩:=yg l;exact⟨f,fd,ok F,PySem.W.mg_of X G a,kp,F.binds b⟩
theorem Ur(l:GM K C x q st)(ok:∀{f:Addr}{fd:FuncData},gQ K x q st f fd->bT P w K mg base CX k f fd ps sp cm)(b:BA x q st ps):MT P w K mg base CX k C x ps sp cm:=by
 obtain⟨f,a,i,l⟩:=l;obtain⟨kp,fd,F⟩:=yg l;exact⟨f,fd,ok F,F.binds b,⟨a,i,kp⟩⟩
theorem ZE{sp:Heap->Sp}(X:K.In h)(G:h.Ns mainGlobals mg)(EI:mg "law"=some (.ref fa))(l:Af K "law" st)
  (b:∀(kV doc pm:Value) (an:Option Addr) (aV ct:Value) (s:Shared) (v:Value),BindsTo s (PySem.W.fnOf "law" "law" (jS st) (f7 st) (cC st) .none kV doc pm an aV ct) ⟨[v],[]⟩ [(p,v)])
  (ok:∀base:Heap,K.In base->base.Ns mainGlobals mg->∀{f:Addr}{fd:FuncData},gQ K "law" "law" st f fd->bT P w K mg base CX k f fd [p] (sp base) cm) :
  ∃fd:FuncData,(∀(s:Shared) (v:Value),BindsTo s fd ⟨[v],[]⟩ [(p,v)])/\∀base:Heap,K.In base->base.Ns mainGlobals mg->bT P w K mg base CX k fa fd [p] (sp base) cm:=by
 obtain⟨f,a,oc,od,kV,dc,pm,an,cd,ct,sl,h1,h2,h3⟩:=l;have e:=EI.symm.trans (PySem.W.mg_of X G a);cases e;exact⟨_,b kV dc pm an cd ct,λbase K1 G1=>ok base K1 G1 (NU h1 h2 h3)⟩
end
section
variable{g:GF}{t:Tag}{f:SF}{d:D}{ds:List D}{ρ aD aR:aE}
theorem kc(h1:g d t ρ=some aD)(h2:f aD=some (.nx aR)):cg g t f (d::ds) ρ=cg g t f ds aR:=by
 conv=>lhs;unfold cg
 rw[h1];dsimp only;rw[h2]
theorem Kl(h1:g d t ρ=some aD)(h2:f aD=some (.rt r)):cg g t f (d::ds) ρ=some (.rt r):=by
 unfold cg;rw[h1];dsimp only;rw[h2]
end
end L2.Ev
namespace L2
open PySem PySem.Spec PyProof.Rows
section
variable{X:Cx}{o e:Expr}{to:TE}{t:TX}{name:Str}{apos cpos:Pos}{T id:String}{r:V->List V->Hp->VK->Prop}
def Z1(K:PySem.W.Frag)(T:String)(r:V->List V->Hp->VK->Prop)(to:TE)(t:TX):TX:=λσ H Q E=>to σ H λx H1=>Ah K T x H1/\t σ H1 (λy H2=>r x [y] H2 Q) E
theorem abl(pa:PlainAttrs T)(slot:PySem.Slot T name id)(qu:typeOf (.builtin id)=pure (.type "method_descriptor"))(hm:sY X.d8 id r)(ho:PE X.d8 o to)(ha:PX X e t)
  (ia:attributeBase o name X.env (eval o X.env)=eval o X.env:=by rfl)
  (j6:((backTo cpos (starEach [e] X.env)).all (λx=>!x.1)&&(backToKw cpos (keywordEach [] X.env)).all (λx=>x.1.isSome)
   && decide ([e].length+([]:List Keyword).length+(if([]:List Keyword).isEmpty then 0 else 1)<30))=true:=by rfl)
  (ir:(apos.endLine==cpos.line)=true:=by rfl) (hs:starEach [e] X.env=[(false,eval e X.env)]:=by rfl) :
  PX X (.Call (.Attribute o name apos) [e] [] cpos) (Z1 X.K T r to t):=by
 intro af s σ H Q E I h;refine wpAny_Call_method_late ia j6 ir rfl (acC (Ul ho I h) (λv s1 ⟨x,H1,I1,r1,ty,q1⟩=>?_) λ_ _ z=>z);obtain⟨h1,h2⟩:=Dr I1 r1 ty;refine⟨T,id,pa,slot,qu,h1,h2,?_⟩;rw[hs];refine aed rfl (Calls.evalArgs_plain ?_);refine adW (acC (ha af s1 σ H1 _ _ I1 q1) (λu s2 ⟨y,H2,I2,r2,q2⟩=>?_) λ_ _ z=>z);refine aer ?_;exact acC (hm af s2 σ H2 x [y] v [u] Q (I2.ja _) r1 (.cons r2 .nil) q2) (λ_ _ ⟨v,H',I',r,q⟩=>⟨v,H',I'.jN,r,q⟩) λ_ _ z=>False.elim z
end
end L2
namespace L2.Ev
open PySem PySem.Spec PyProof.Rows
section
variable{X:Cx}{elts:List Expr}{tp:Pos}{a b:Expr}{fa fb:EF}{p pos:Pos}
def qZ(T:String):D->Option D
 |.tup _=>some (.bl ("tuple" == T))
 |.fZ _=>some (.bl ("list" == T))
 |d=>gW T d
def Jo(T:String):Prop:=∀(K:PySem.W.Frag) (t:String),t∈["tuple","list"]->PySem.W.kitOne K (.type t) (.type T)=some (t==T)
theorem NX:Jo "tuple":=by
 intro K t m;simp only[aaG,acH,ad9] at m;rcases m with rfl|rfl<;>rfl
theorem QJ(T:String):eF X (.builtin "isinstance") (λxs H Q=>(∃x t b,xs=[x,V.ty T]/\gY X.K H x t/\PySem.W.kitOne X.K t (.type T)=some b/\Q (.bl b) H)\/
  (∃a ys b,xs=[.ref a,V.ty T]/\b8 X.K H a ys/\PySem.W.kitOne X.K (.type "tuple") (.type T)=some b/\Q (.bl b) H)\/(∃a ys b,xs=[.ref a,V.ty T]/\bG X.K H a ys/\PySem.W.kitOne X.K (.type "list") (.type T)=some b/\Q (.bl b) H)):=by
 intro af s σ H xs us Q I r h;rcases h with h|⟨a,ys,bb,rfl,hq,e,q⟩|⟨a,ys,bb,rfl,hq,e,q⟩
 .exact Ko T af s σ H xs us Q I r h
 .obtain⟨u,w',rfl,ru,fH⟩:=vals2 r;cases fH;cases(show u=Value.ref a from ru);obtain⟨ak,_,⟨o,h1,h2,_⟩,_⟩:=I.tuple hq;exact PySem.W.kia_one PySem.W.kitx_tuple I.cS ⟨o,h1,h2⟩ e (λz=>nomatch z) λtk=>⟨.bl bb,H,I.tok tk,rfl,q⟩
 .obtain⟨u,w',rfl,ru,fH⟩:=vals2 r;cases fH;cases(show u=Value.ref a from ru);obtain⟨ak,_,⟨o,n,h1,h2,_⟩,_⟩:=I.list hq;exact PySem.W.kia_one PySem.W.kitx_list I.cS ⟨o,h1,h2⟩ e (λz=>nomatch z) λtk=>⟨.bl bb,H,I.tok tk,rfl,q⟩
theorem Ol{T:String}{x:Str}(hT:pC T)(JX:Jo T)(hm:X.mg "isinstance"=none)(Fo:X.mg x=none)(ha:FP X a fa)(Ct:bootBuiltins x=some (.type T):=by decide +kernel)(hg:Gl X "isinstance":=by rfl)(EC:Gl X x:=by rfl)(hn:x≠"__name__":=by decide)(kC:(x==("__debug__":Str))=false:=by decide)
  (hs:starEach [a,.Name x p2] X.env=[(false,eval a X.env),(false,eval (.Name x p2) X.env)]:=by rfl) (hpl:(backTo pos (starEach [.Name x p2] X.env)).any (·.1)=false:=by rfl):FP X (.Call (.Name "isinstance" p) [a,.Name x p2] [] pos) (e1 (qZ T) fa):=by
 obtain⟨ta,pa,sa⟩:=ha;have bY:starEach [.Name x p2] X.env=[(false,eval (.Name x p2) X.env)]:=rfl;exists 21,rO (QJ T) hg hm (show bootBuiltins "isinstance"=some (.builtin "isinstance") by decide +kernel) (cH pa (cH (Ik (v:=.ty T) EC Fo Ct rfl hn kC) dU) (by rw[hs,bY])) (he:=by rw[hs,bY]) (hpl:=hpl);obtain⟨d1,t1,h1,h2,rfl⟩:=nG e;refine sa ok h1 λH1 v fp s1 r1 _=>?_
 unfold qZ at h2
 split at h2
 .cases h2;obtain⟨w,xs,rfl,hq,_⟩:=r1.jz;exact .inr (.inl ⟨w,xs,_,rfl,hq,JX X.K "tuple" (by decide),k H1 _ [] s1 (.bl _) .nil⟩)
 .cases h2;obtain⟨w,xs,rfl,hq,_⟩:=r1.pT;exact .inr (.inr ⟨w,xs,_,rfl,hq,JX X.K "list" (by decide),k H1 _ [] s1 (.bl _) .nil⟩)
 .unfold gW at h2;exists ht,xG d1,t,h2;cases h2;obtain⟨ty,mem⟩:=r1.ty ht;exact .inl ⟨v,_,_,rfl,ty,hT X.K t mem,k H1 _ [] s1 (.bl _) .nil⟩
end
section
variable{X:Cx}{a b e:Expr}{fa fb fv:EF}{fx:XF}{pos:Pos}
def S4(K:PySem.W.Frag)(T:List (Str×Bool))(cs:List Addr):Prop:=∀cn b C,T.lookup cn=some b->PySem.W.nsIn K mainGlobals cn=some (some (.ref C))->EZ K C/\PySem.W.kitAny K (.ref C) (cs.map Value.ref)=some b
end
section
variable{X:Cx}{pos:Pos}
noncomputable def yt(f:EF):SF:=λρ=>match f ρ,ρ[0]? with
 |some (r,Tag.own),some (some (d0,Tag.own))=>some (.rt (.tup [r,d0]))
 |_,_=>none
theorem SJ(he:FP X e f):Hl X (.Return (some e) pos) (yt f):=by
 obtain⟨t,p,q⟩:=he;exists 23,n6 p;unfold yt at e
 split at e
 .rename_i r d0 h1 h0;cases e;obtain⟨r',Mi,ee,k⟩:=k;cases ee;refine q ok h1 λH1 v fp s1 r1 g1=>?_
  refine k z ρ σ H1 v fp (ok.same s1) h0 (.refl _ _) r1 g1.1 (λb m=>⟨?_,λzb=>?_⟩) λq=>nomatch q
  .cases hb:H0 b with
   |none=>exact .inl rfl
   |some o=>
    by_cases hS:b∈S
    .exact .inr hS
    .have:=ok.en b o hb hS;rw[g1.2 b m] at this;cases this
  .obtain⟨⟨o,w⟩,_⟩:=ok.zd b 0 zb;rw[g1.2 b m] at w;cases w
 .cases e
end
end L2.Ev
namespace L2.Ev
open PySem PySem.W
section
variable{P:Program}{w:World}{K:Frag}{h base:Heap}{mg:Str->Option Value}{CX:iX}{k:Nat}{x:Str}{st:Stmt}{ps:List Str}{sp:Sp}{cm:Bool}
theorem Rn(X:K.In h)(G:h.Ns mainGlobals mg)(l:Af K x st)(ok:∀{f:Addr}{fd:FuncData},mg x=some (.ref f)->keepIn K (.ref f)=true->Binds K fd ps []->gQ K x x st f fd->bT P w K mg base CX k f fd ps sp cm)(b:BA x x st ps):FN P w K mg base CX k x ps sp cm:=by
 obtain⟨f,a,l⟩:=l;obtain⟨kp,fd,F⟩:=yg l;exact⟨f,fd,ok (mg_of X G a) kp (F.binds b) F,mg_of X G a,kp,F.binds b⟩
end
end L2.Ev
namespace L2.SetT
open PySem PyProof.Rows
section
variable{prog:Program}{w:World}{A:Around}{R:Result->Shared->Prop}{I:Addr}{fp wr:List Addr}{G:Array GenState->Array GenState->Prop}{n:Nat}{P:Nat->Value->Prop}{St:Nat->Shared->Prop}{led:Bool}
def jg(val:Nat->Int)(i:Nat):List Key:=((List.range i).map λj=>(Sum.inl (val j):Key)).foldl fT []
theorem Aw{val:Nat->Int}:jg val (i+1)=fT (jg val i) (Sum.inl (val i)):=by
 unfold jg;rw[List.range_succ,acF,List.foldl_append];rfl
theorem Be{val:Nat->Int}:∀{i:Nat},(jg val i).length<=i
 |0=>aa2 _
 |i+1=>by
  rw[Aw];have h1:=Hg (U:=jg val i) (k:=(Sum.inl (val i):Key));have h2:=Be (val:=val) (i:=i)
  lia
theorem E_{val:Nat->Int}:∀{i:Nat},k∈jg val i↔∃j,j<i/\k=Sum.inl (val j)
 |0=>by unfold jg;simp
 |i+1=>by
  rw[Aw,DN,E_];constructor
  .rintro(⟨j,h,e⟩|e)
   .exact⟨j,by lia,e⟩
   .exact⟨i,by lia,e⟩
  .rintro⟨j,h,e⟩
   by_cases q:j=i
   .exact .inr (by rw[e,q])
   .exact .inl ⟨j,by lia,e⟩
theorem Hh{t:Tok}:(cO prog w).is (Sum.inl i) (.int i t)=true:=by
 first|rfl|(show(i==i)=true;simp)|(unfold cO;simp)
theorem XY(W:WalksS prog w A.in1 I fp wr G n P St)(S:Addr)(zg:S∉fp)
  (val:Nat->Int) (Bc:∀i v,P i v->∃t,v=.int (val i) t) (hb:n+1<scanBound) :
  ∀(k i:Nat) (s:Shared),n-i=k->i<=n->St i s->gX (cO prog w) s.heap S (jg val i) led->
   (∀s',Moved (S::wr) G s s'->gX (cO prog w) s'.heap S (jg val n) led->R (.ok (.ret .none)) s')->
   codeAny (model prog w) A (.builtin "set.update.loop" ⟨[.ref S,.ref I],[]⟩) R s:=by
 have LX:S∉wr:=λh=>zg (W.sub _ h)
 have l8:∀b∈wr,b∈S::wr:=λb hb=>aas _ hb
 intro k
 induction k with
 |zero=>
  intro i s hk hi fC hS hR;have Kn:i=n:=by lia
  subst Kn;refine acS F.entry_set_update_loop ?_;rw[acI F.plain_set_update_loop _];refine aac (W.done s _ _ fC λs' hm=>?_);exact aaC (hR s' (hm.mono l8) (hS.keep λo e=>hm.heap S _ LX e))
 |succ k ih=>
  intro i s hk hi fC hS hR;have bI:i<n:=by lia
  refine acS F.entry_set_update_loop ?_;rw[acI F.plain_set_update_loop _];refine aac (W.item i s _ _ bI fC λv s' hP WK hm=>?_);obtain⟨t,rfl⟩:=Bc i v hP;have gm:=hS.keep λo e=>hm.heap S _ LX e
  refine aac (acR ?_);unfold setAdd;refine acR ?_;refine aac ((cO prog w).pyHash Hh ?_);have WC:(jg val i).length+1<scanBound:=by have:=Be (val:=val) (i:=i);lia
  refine aa4 (knd:=cO prog w) (s:={ s' with toks:=s'.toks+1 }) Hh rfl gm WC λbb h' sS nC=>?_
  rw[<- Aw] at nC;refine aaC ⟨adu F.plain_set_update_loop _,ih (i+1) _ (by lia) bI (W.frame _ s' _ _ WK (ad6 _) λb hb o e=>?_) nC λly Ri ZG=>?_⟩
  .rw[sS.2 b (λh:b=S=>zg (by rw[<- h];exact hb))];exact e
  .refine hR ly (Moved.trans W.gtrans ((hm.mono l8).then_heap (ad6 _) λb o hb e=>?_) Ri) ZG;rw[sS.2 b (λh:b=S=>hb (by rw[h];exact aah))];exact e
end
section
variable{prog:Program}{w:World}{A:Around}{E:Value->Shared->Prop}{s:Shared}
set_option maxHeartbeats 3200000 in
theorem abp
  (hh:A.handled=none) (hl:s.heap.IsList l items) (hi:IntsAre items.toList ns) (hb:items.size+1<scanBound)
  (h:∀(h':Heap) (tk:Nat),gX (cO prog w) h' s.heap.objs.size (jg (λi=>ns.getD i 0) items.size) (!iG w)->
   (∀b o,s.heap.get? b=some o->h'.get? b=some o)->Q (.ref s.heap.objs.size) { s with heap:=h',toks:=tk }) :
  wpAny (model prog w) A (call (.type "set") [.ref l]) Q E s:=by
 obtain⟨c,tl,OM⟩:=aep.mro;have Zo:=aep.made;have l8:=aep.sub;have h1:=aep.notType;have h2:=aep.canCreate;have Ui:=F.typeCall_set_1 (.ref l);refine wpAny_call (codeAny_of_tree ?_);refine aaC ⟨Code.quiet_builtin _ (by decide +kernel),acS F.entry_type_call ?_⟩;rw[Around.under_plain (weight_type_call_type "set" [.ref l] []) rfl]
 repeat (any_goals (first|assumption|wp_step))
 refine aei (YE (E:=E) (R:=λobj aY=>obj=.ref s.heap.objs.size/\aY={ s with heap:=s.heap.push (jH w) }) ⟨rfl,rfl⟩) λr aY hr=>?_
 cases r with
 |error e=>exact hr
 |ok fl=>
  cases fl with
  |ret obj=>
   obtain⟨rfl,rfl⟩:=hr;have hS:(s.heap.push (jH w)).get? s.heap.objs.size=some (jH w):=abb _ rfl;have hT:Shared.TypeIs { s with heap:=s.heap.push (jH w) } (.ref s.heap.objs.size) "set":=⟨_,hS,rfl⟩
   have hli:=aep.init.lookup;have hbi:=aep.init.bind (.ref s.heap.objs.size)
   repeat (any_goals (first|assumption|wp_step))
   refine aei (codeAny_call_builtin (R:=wants (λr j_=>r=.none/\∃h' tk,j_={ s with heap:=h',toks:=tk }/\
     gX (cO prog w) h' s.heap.objs.size (jg (λi=>ns.getD i 0) items.size) (!iG w)/\(∀b o,s.heap.get? b=some o->h'.get? b=some o)) E)
    aep.init.plain F.entry_set_init (check_set_init_1 hT ?_)) λY8 j_ BP=>?_
   .obtain⟨ol,Al,mW,nl,zo⟩:=hl;obtain⟨acz,RA,acr,T7⟩:=ol;simp only at mW zo;subst mW;subst zo;have Yu:(s.heap.push (jH w)).get? l=some { cls:=.type "list",dict:=RA,data:=.seq items nl,slots:=T7 }:=aad _ Al;have acA:=F.sub_list_set;have ab5:=F.sub_list_frozenset;have gq:(Value.type "list" == Value.type "dict")=false:=by decide
    have nN:(s.heap.push (jH w)).IsList l items:=⟨_,Yu,rfl,nl,rfl⟩
    unfold Builtin.«set.__init__» noKeywords Builtin.Frozenset.updateFrom;generalize R7:pyIter=PI
    wp_walk
    subst R7;refine aev nN ?_;refine aac (wpAny_runValue ?_);have Lw:l<s.heap.objs.size:=aba Al;have VV:A.in1.in1.in1.handled=none:=by simp[hh]
    have VO:l≠(s.heap.push (jH w)).objs.size:=by
     rw[acV];exact ab6 (ac7 Lw)
    have zg:s.heap.objs.size∉[(s.heap.push (jH w)).objs.size,l]:=by
     rw[acV];simp only[aaG,aat,acH,ad9,not_or];exact⟨ab6 (adl _),ada Lw⟩
    have Bc:∀(i:Nat) (v:Value),items[i]? = some v->∃t,v=.int ((λi=>ns.getD i 0) i) t:=λi v hv=>
     IntsAre.int_at hi i v (by rw[adg];exact hv)
    refine XY (led:=!iG w) ((Walks.list VV _ l VO items).toS) s.heap.objs.size
     zg (λi=>ns.getD i 0) Bc hb (items.size-0) 0 _ (by lia) (acD _)
     ⟨⟨_,abb _ rfl,rfl,rfl⟩,(nN.push _)⟩ ?Td ?hR
    case Td=>
     have Qf:((s.heap.push (jH w)).push { cls:=.type "list_iterator",data:=.fields #[.ref l,.int 0 0] }).get? s.heap.objs.size=some (jH w):=aad _ hS;exact oR.abM (more:=0) Qf ⟨rfl,rfl,rfl⟩ rfl (US _)
    case hR=>
     intro s' hm gm;obtain⟨h',g',d',qw,HH⟩:=s';have eg:=hm.gens;have ed:=hm.drawn;have eo:=hm.os;subst eg;subst ed;subst eo;refine aaC ?_;refine aaC ⟨rfl,h',qw,rfl,gm,λb o e=>?_⟩;have hb:=aba e;have Qy:=ab6 hb;have z5:b≠(s.heap.push (jH w)).objs.size:=by
      rw[acV];exact ab6 (ac7 hb)
     exact hm.heap b o (by simp only[aaG,aat,acH,ad9,not_or];exact⟨Qy,z5⟩) (aad _ (aad _ e))
   .cases Y8 with
    |error e=>exact BP
    |ok ZP=>
     cases ZP with
     |ret r=>
      obtain⟨rfl,h',tk,rfl,gm,jG⟩:=BP
      repeat (any_goals (first|assumption|wp_step))
      exact h _ _ gm jG
     |_=>exact BP.elim
  |_=>exact hr.elim
end
end L2.SetT
namespace L2
open PySem PySem.Spec PyProof.Rows L2.SetT
section
variable{X:Cx}
def X0(K:PySem.W.Frag)(P:Program)(w:World):List V->Hp->VK->Prop:=λxs H Q=>∃(p:Addr) (ks:List Int),xs=[.ref p]/\bG K H p (ks.map V.int)/\ks.length<120/\
 ∀(l:Addr) (U:List Int),H l=none->U.Nodup->(∀k,k∈U↔k∈ks)->U.length<=ks.length->Q (.ref l) (upd H l (kh P w l U))
theorem Q8(hc:X.calm=true):eF X (.type "set") (X0 X.K X.prog X.w):=by
 intro af s σ H xs us Q I r h;obtain⟨p,ks,rfl,hp,hn,q⟩:=h;obtain⟨u,rfl,ru⟩:=vals1 r;cases ru;obtain⟨ak,rv,pl,hz⟩:=I.list hp;have hl:ak.length=ks.length:=by have:=rv.length;rw[List.length_map] at this;exact this.symm
 refine abp (ns:=ks) (items:=ak.toArray) (I.ok.hd hc) pl.isList (by simpa using intsAre_of rv) (by unfold scanBound;simp only[abQ];lia) λh' tk k3 k1=>?_
 have hsz:ak.toArray.size=ks.length:=by rw[abQ];exact hl
 rw[hsz] at k3;obtain⟨W,eW⟩:=KI (U:=jg (λi=>ks.getD i 0) ks.length) λk m=>by
  obtain⟨j,_,e⟩:=E_.mp m;exact⟨_,e⟩
 have len:=Be (val:=λi=>ks.getD i 0) (i:=ks.length);rw[eW] at k3 len;refine⟨.ref s.heap.objs.size,upd H s.heap.objs.size (kh X.prog X.w s.heap.objs.size W),I.laid k1 (aa2 _) (kh.ok k3),rfl,q _ W (I.aC.fresh (aa2 _)) (GU k3.1) (λk=>?_) ?_⟩
 .rw[<- JV,<- eW,E_];constructor
  .rintro⟨j,hj,e⟩
   have e:=Sum.inl.inj e;rw[e,acs,aau hj];exact adM hj
  .intro m;obtain⟨j,hj,e⟩:=ad8 m;exact⟨j,hj,by rw[<- e,acs,aau hj];rfl⟩
 .rw[List.length_map] at len;exact len
theorem XJ:eF X (.type "int") (λxs H Q=>∃b,xs=[V.bl b]/\Q (.int (if b then 1 else 0)) H):=by
 intro af s σ H xs us Q I r h;obtain⟨b,rfl,q⟩:=h;obtain⟨u,rfl,ru⟩:=vals1 r;cases ru;exact call_int_bool ⟨.int _,H,I.tok _,⟨_,rfl⟩,q⟩
theorem O7:cG X (binaryOp .BitAnd) (λx y H Q=>∃i j:Int,x=.int i/\y=.int j/\Q (.int (Builtin.bitAnd i j)) H):=by
 intro af s σ H x y v u Q I rx ry h;obtain⟨i,j,rfl,rfl,q⟩:=h;obtain⟨t,rfl⟩:=rx;obtain⟨t',rfl⟩:=ry;exact and_int ⟨.int _,H,I.tok _,⟨_,rfl⟩,q⟩
theorem Jd:∀{n:Nat}{l:List Value}{k:Nat},l.length=n->(∀(m:Nat) (v:Value),l[m]? = some v->∃t,v=.int (i+((k+m:Nat):Int)) t)->aK ((List.range' k n).map λn:Nat=>V.int (i+n)) l
 |0,[],_,_,_=>.nil
 |n+1,v::l,k,h,hv=>by
  rw[List.range'_succ,aaz];refine .cons ?_ (Jd (by simpa using h) λm w e=>?_)
  .obtain⟨t,e⟩:=hv 0 v rfl;exact⟨t,by rw[e];simp⟩
  .obtain⟨t,e⟩:=hv (m+1) w (by simpa using e);exact⟨t,by rw[e];congr 2;lia⟩
def Su(ta:TA):TE:=λσ H Q=>ta σ H λvs H1=>∃i j:Int,vs=[.int i,.int j]/\∀l,H1 l=none->Q (.ref l) (upd H1 l (.cR i j))
theorem abY{ta:TA}(gC:X.mg "range"=none)(ha:PA X [a,b] ta)(lZ:Gl X "range":=by rfl)
  (hs:starEach [a,b] X.env=[(false,eval a X.env),(false,eval b X.env)]:=by rfl) (bY:starEach [b] X.env=[(false,eval b X.env)]:=by rfl):PE X (.Call (.Name "range" p2) [a,b] [] p3) (Su ta):=by
 intro af s σ H Q I h;refine Call_ (ku I lZ gC boot_range (acY (aL (ha p3 af s σ H _ I h) λus s1 ⟨vs,H1,I1,r1,q1⟩=>?_) (by rw[hs,bY]) (by rw[bY];rfl)));obtain⟨i,j,e,q⟩:=q1;subst e;cases r1 with
 |cons r rr=>
  cases rr with
  |cons r' rr=>
   cases rr;obtain⟨t,rfl⟩:=r;obtain⟨t',rfl⟩:=r';refine call_range_2 ?_;exact⟨.ref s1.heap.objs.size,upd H1 s1.heap.objs.size (.cR i j),I1.laid (λb u e=>aad _ e) (aa2 _) ⟨_,_,_,abb _ rfl⟩,rfl,q _ (I1.aC.fresh (aa2 _))⟩
theorem Xv(hc:X.calm=true):eF X (.type "list") (λxs H Q=>∃p i j,xs=[V.ref p]/\H p=some (.cR i j)/\(-(2 ^ 20)<=i/\i<2 ^ 20/\-(2 ^ 20)<=j/\j<2 ^ 20)/\(j-i).toNat<=sizeLine/\∀l,H l=none->Q (.ref l) (upd H l (.lst ((List.range (j-i).toNat).map λn:Nat=>V.int (i+n))))):=by
 intro af s σ H xs us Q I r h;obtain⟨p,i,j,rfl,hp,hb,hz,q⟩:=h;obtain⟨u,rfl,ru⟩:=vals1 r;cases ru;obtain⟨t,u',v,hr⟩:=(show ∃t u v,s.heap.get? p=some { cls:=.type "range",data:=.fields #[.int i t,.int j u,.int 1 v] } from I.aC p _ hp)
 have e2:Builtin.Range.rangeSize i j 1=((j-i).toNat:Int):=by rw[rangeSize_one];split<;>lia
 refine call_list_range (I.ok.hd hc) hr (small_one (by lia) (by lia) (by lia) (by lia)) e2 (by lia) λh' tk acc c' kp he ju=>?_
 obtain⟨az,av⟩:=ju;have vv:aK ((List.range (j-i).toNat).map λn:Nat=>V.int (i+n)) acc.toList:=by
  rw[List.range_eq_range'];refine Jd (by simpa using az) λm w e=>?_
  obtain⟨t,e⟩:=av m w (by simpa using e);exact⟨t,by rw[e];simp⟩
 exact⟨.ref s.heap.objs.size,_,I.laid kp (aa2 _) (show cF X.prog X.w _ h' _ (.lst _) from⟨by rw[List.length_map,acZ];exact hz,acc.toList,c',vv,by simpa using he⟩),rfl,q _ (I.aC.fresh (aa2 _))⟩
end
end L2
namespace L2.Ev
open PySem PySem.Spec PyProof.Rows L2.SetT
section
variable{X:Cx}{a b e:Expr}{fa fb fv:EF}{p p1 p2 p3 pos:Pos}
noncomputable def A9(g:AF):EF:=λρ=>match g ρ with
 |some [(.int i,_),(.int j,_)]=>if -(2 ^ 20)<=i/\i<2 ^ 20/\-(2 ^ 20)<=j/\j<2 ^ 20 then some (.lst ((List.range (j-i).toNat).map λn:Nat=>D.int (i+n)),.own) else none
 |_=>none
theorem Lr{K:PySem.W.Frag}:∀(l:List Nat),ay K H (l.map λn:Nat=>D.int (i+n)) (l.map λn:Nat=>V.int (i+n)) []
 |[]=>.nil
 |n::l=>by rw[aaz,aaz];exact ay.cons (f1:=[]) (f2:=[]) (.int _) (Lr l)
theorem aaV(hc:X.calm=true)(hm:X.mg "list"=none)(gC:X.mg "range"=none)(ha:FA X [a,b] g)(hg:Gl X "list":=by rfl)(lZ:Gl X "range":=by rfl)
  (hs:starEach [a,b] X.env=[(false,eval a X.env),(false,eval b X.env)]:=by rfl) (bY:starEach [b] X.env=[(false,eval b X.env)]:=by rfl)
  (tZ:starEach [.Call (.Name "range" p2) [a,b] [] p3] X.env=[(false,eval (.Call (.Name "range" p2) [a,b] [] p3) X.env)]:=by rfl) :
  FP X (.Call (.Name "list" p) [.Call (.Name "range" p2) [a,b] [] p3] [] pos) (A9 g):=by
 obtain⟨ta,pa,_,qa⟩:=ha;exists 21,pR (Xv hc) hg hm (by rfl) (cH (abY gC pa lZ hs bY) dU tZ) (he:=tZ) (hpl:=rfl);unfold A9 at e
 split at e
 .rename_i i t1 j t2 h1
  by_cases hb:-(2 ^ 20)<=i/\i<2 ^ 20/\-(2 ^ 20)<=j/\j<2 ^ 20
  .rw[if_pos hb] at e;cases e;refine qa ok h1 λH1 vs fp s1 r1 _=>?_
   cases r1 with
   |cons r r1=>
    cases r1 with
    |cons r' r1=>
     cases r1;cases r;cases r';refine⟨i,j,rfl,λr hr=>⟨r,i,j,rfl,bL,hb,?_,λl hl=>?_⟩⟩
     .unfold sizeLine;lia
     .have s2:=aG.new (o:=.cR i j) hr;have s3:=aG.new (o:=.lst ((List.range (j-i).toNat).map λn:Nat=>V.int (i+n))) hl;refine k _ _ [l] ((s1.trans s2).trans s3) (.lst bL (Lr _)) ⟨acd.mpr ⟨(λm=>by cases m),aci⟩,λc m=>?_⟩;cases aat.mp m;exact(s1.trans s2).free hl
  .rw[aa7 hb] at e;cases e
 .cases e
def w_:D->Option D
 |.lst ds=>match cM ds with
  |some ns=>if ns.length<64 then some (.lst ((dD (nk ns [])).map D.int)) else none
  |none=>none
 |_=>none
theorem WB(hc:X.calm=true)(hm:X.mg "sorted"=none)(gC:X.mg "set"=none)(ha:FP X a fa)(hg:Gl X "sorted":=by rfl)(lZ:Gl X "set":=by rfl)(tE:starEach [a] X.env=[(false,eval a X.env)]:=by rfl)
  (hs:starEach [.Call (.Name "set" p1) [a] [] p2] X.env=[(false,eval (.Call (.Name "set" p1) [a] [] p2) X.env)]:=by rfl):FP X (.Call (.Name "sorted" p) [.Call (.Name "set" p1) [a] [] p2] [] pos) (e1 w_ fa):=by
 obtain⟨ta,pa,sa⟩:=ha;exists 21,rO (TY hc) hg hm Jm (cH (pR (Q8 hc) lZ gC UN (cH pa dU tE) (he:=tE) (hpl:=rfl)) dU hs) (he:=hs) (hpl:=rfl);obtain⟨d1,t1,h1,h2,rfl⟩:=nG e;cases d1 with
 |lst ds=>
  unfold w_ at h2;dsimp only at h2;cases hn:cM ds with
  |none=>rw[hn] at h2;cases h2
  |some ns=>
   rw[hn] at h2;dsimp only at h2
   by_cases hl:ns.length<64
   .rw[if_pos hl] at h2;cases h2;refine sa ok h1 λH1 x f1 s1 r1 _=>?_
    obtain⟨q,xs,f,rfl,hq,rs,_⟩:=r1.dh;have hx:=oK rs hn;subst hx;refine⟨q,ns,rfl,hq,by lia,λl U V5 ndU mU lU=>?_⟩;have pw:U.Perm (nk ns []):=(List.perm_ext_iff_of_nodup ndU Jv).mpr λk=>by rw[mU,Nc];simp
    refine⟨l,U,rfl,bL,by lia,λl4 i9 Gg pm Wn=>?_⟩;have eq:=Le (pm.trans pw) Wn;subst eq;have s4:=aG.new (o:=kh X.prog X.w l U) V5;have s5:=aG.new (o:=.lst ((dD (nk ns [])).map V.int)) Gg;refine k _ _ [l4] ((s1.trans s4).trans s5) (.lst bL (nH _)) ⟨acd.mpr ⟨(λm=>by cases m),aci⟩,λc m=>?_⟩;cases aat.mp m;exact(s1.trans s4).free Gg
   .rw[aa7 hl] at h2;cases h2
 |_=>cases h2
noncomputable def xJ:D->Option D
 |.bl b=>some (.int (if b then 1 else 0))
 |_=>none
theorem ZU{K:PySem.W.Frag}:oS K (λxs H Q=>∃b,xs=[V.bl b]/\Q (.int (if b then 1 else 0)) H) xJ:=by
 intro H x d1 f1 d Q r e k;cases d1<;>try (cases e;done)
 cases e;cases r;exact⟨_,rfl,k H _ [] (aG.refl H) (.int _) aci λa m=>nomatch m⟩
theorem QI(hm:X.mg "int"=none)(ha:FP X a fa)(hg:Gl X "int":=by rfl)(hs:starEach [a] X.env=[(false,eval a X.env)]:=by rfl):FP X (.Call (.Name "int" p) [a] [] pos) (e1 xJ fa):=
 fp_1 ZU ha λta pa=>pR XJ hg hm (show bootBuiltins "int"=some (.type "int") by decide +kernel) (cH pa dU hs) (he:=hs) (hpl:=rfl)
def Kq:D->D->Option D:=tQ λi j=>Builtin.bitAnd i j
theorem aao(ha:FP X a fa)(hb:FP X b fb):FP X (.BinOp a .BitAnd b pos) (e2 Kq fa fb):=qq O7 wc ha hb
end
end L2.Ev
namespace L2.Ev
open PySem PySem.Spec PyProof.Rows
section
variable{X:Cx}{pos:Pos}
def ym(fx:XF)(g:GF)(f:SF):SF:=λρ=>match fx ρ with
 | some (.int n,aD)=>if small n=true then(match cg g (.sh []) f ((List.range n.toNat).map λi:Nat=>D.int (0 + (i:Int))) aD with
  |some (.nx ρ')=>some (.nx ρ')
  |some (.rt d)=>some (.rt d)
  |some (.er raw cn ρ')=>some (.er raw cn ρ')
  |_=>none) else none
 |_=>none
theorem abu{K:PySem.W.Frag}:l9 K (qd 0 n) ((List.range n).map λi:Nat=>D.int (0+(i:Int))) []:=by
 intro H i hh;refine⟨λd hd=>?_,λhl=>?_⟩
 .obtain⟨rfl,hi⟩:d=.int (0+(i:Int))/\i<n:=by
   rw[acg] at hd;cases e:(List.range n)[i]? with
   |none=>rw[e] at hd;cases hd
   |some j=>
    rw[e] at hd;obtain⟨h1,h2⟩:=ace.mp e;rw[List.getElem_range] at h2;rw[acZ] at h1;subst h2;cases hd;exact⟨rfl,h1⟩
  refine⟨hi,λx H' y=>?_⟩;obtain⟨rfl,rfl⟩:=y;exact⟨aG.refl _,[],.int _,λa m=>nomatch m⟩
 .rw[List.length_map,acZ] at hl;exact hl
theorem XH{tg a:Expr}{body:List Stmt}{fx:XF}{g:GF}{f:SF}{is:List Nat}{p p2:Pos}(hc:X.calm=true)(hm:X.mg "range"=none)(ha:FX X a fx)(hg:FG X tg g is)(hb:FS X body f)(PN:Gl X "range":=by rfl)(tE:starEach [a] X.env=[(false,eval a X.env)]:=by rfl)
  (hp:PassesOwn (model X.prog X.w) X.A X.env X.xe:=by exact PassesOwn.never) (hs:∀x,foldedSetIterable (.Call (.Name "range" p) [a] [] p2) X.env x=pure x:=by intro _;rfl):dO X (.For tg (.Call (.Name "range" p) [a] [] p2) body [] pos) (ym fx g f):=by
 obtain⟨ta,pa,qa⟩:=ha;obtain⟨n1,ZN,pg,sg⟩:=hg;obtain⟨tb,pb,sb⟩:=hb;refine⟨_,Ih hp hc (N1 PN hm (cH pa dU tE) tE) pg pb hs,@λH0 S z aq Xz σ H E o s_ e k=>?_⟩;unfold ym at e;cases h:fx Xz with
 |none=>rw[h] at e;cases e
 |some w=>
  obtain⟨d0,ρ⟩:=w;rw[h] at e;cases d0<;>try (cases e;done)
  rename_i n;dsimp only at e
  by_cases Bk:small n=true
  .rw[if_pos Bk] at e;refine qa s_ h λH1 v bD _ rv=>?_
   cases rv;obtain⟨sm1,Uv⟩:=o_ Bk;refine⟨n,rfl,sm1,Uv,?_⟩;have sE:l9 X.K (qd 0 n.toNat) ((List.range n.toNat).map λi:Nat=>D.int (0+(i:Int))) []:=abu;generalize hds:((List.range n.toNat).map λi:Nat=>D.int (0+(i:Int)))=ds at e sE;cases ho:cg g (.sh []) f ds ρ with
   |none=>rw[ho] at e;cases e
   |some out=>
    rw[ho] at e;have dH:=bD.begin (t:=.own) (hv:=[]) (λh m=>nomatch m);have fin:∀{z':Addr->Option Nat}{ρ':aE}{aB:St}{H':Hp},Ok X.K H0 S z' (mG z []++ou z aq) ρ' aB H'->out=.nx ρ'->Kp X σ aB->E.nx aB H':=λ{z' ρ' aB H'} a_ eo kp=>by
     subst eo;cases e;exact k z' aB H' (bD.fin (t:=.own) a_) kp
    refine⟨λi m aB H'=>m=ds.length-i/\∃z' ρ',Ok X.K H0 S z' (mG z []++ou z aq) ρ' aB H'/\cg g (.sh []) f (ds.drop i) ρ'=some out/\Kp X σ aB,⟨ds.length,rfl,z,_,dH,ho,.refl _ _⟩,?_⟩
    rintro i m aB H' ⟨rfl,z',ρ',a_,e',kp⟩
    obtain⟨go,stop⟩:=sE H' i (λh m=>nomatch m)
    by_cases hl:ds.length<=i
    .refine .inl ⟨stop hl,?_⟩;rw[aee hl] at e';cases e';exact fin a_ rfl kp
    .have bI:=Nat.lt_of_not_le hl;rw[ac5 bI] at e';obtain⟨g1,g2⟩:=go ds[i] (aau bI);refine .inr ⟨g1,λeY H2=>∃z' ρ',Ok X.K H0 S z' (mG z []++ou z aq) ρ' eY H2/\cg g (.sh []) f (ds.drop (i+1)) ρ'=some out/\Kp X σ eY,λeY H2 hn=>⟨ds.length-(i+1),by omega,rfl,hn⟩,λx H2 y=>?_⟩;obtain⟨s2,fp,r2,sub⟩:=g2 x H2 y;unfold cg at e';cases kE:g ds[i] (.sh []) ρ' with
     |none=>rw[kE] at e';cases e'
     |some aD=>
      rw[kE] at e';dsimp only at e';refine sg (tag:=.sh []) a_ s2 r2 (λa ha j q=>?_) kE λz2 eY iF a3=>?_
      .obtain⟨h,hm,_⟩:=sub a ha;cases hm
      .cases hf:f aD with
       |none=>rw[hf] at e';cases e'
       |some o1=>
        rw[hf] at e';refine sb iF hf ?_;cases o1 with
        |nx aR=>exact λz3 b7 H3 ez b=>⟨z3,aR,ez,e',(kp.trans (.off n1 a3.2)).trans b⟩
        |ct aR=>exact λz3 b7 H3 ez b=>⟨z3,aR,ez,e',(kp.trans (.off n1 a3.2)).trans b⟩
        |bk aR=>
         cases e';exact λz3 b7 H3 ez b=>fin ez rfl ((kp.trans (.off n1 a3.2)).trans b)
        |rt d=>
         cases e';cases e;exact k
        |er raw cn aR=>
         cases e';cases e;obtain⟨ES,th,q⟩:=k;exact⟨ES,th,λz3 b7 H3 C ez b hC=>q z3 b7 H3 C (bD.fin (t:=.own) ez) ((kp.trans (.off n1 a3.2)).trans b) hC⟩
  .rw[aa7 Bk] at e;cases e
noncomputable def Df(F:List D->Option D)(fx:XF)(g:AF):XR:=λρ=>match fx ρ with
 | some (d,aD)=>(match g aD with
  |some ps=>(F (d::ps.map (·.1))).map λr=>.ok r aD
  |none=>none)
 |none=>none
theorem XW{e1:Expr}{es:List Expr}{fx:XF}{F:List D->Option D}(GG:bT X.prog X.w X.K X.mg X.base cJ k f fd ps (bq X.K F))(hr:bh k X.A)(hm:X.mg x=some (.ref f))(hk:PySem.W.keepIn X.K (.ref f)=true)(hb:Binds X.K fd ps [])
  (h1:FX X.d8 e1 fx) (ha:FA X.d8 es g) (hg:GD X x:=by exact⟨rfl,by decide⟩) (he:starEach (e1::es) X.env=(false,eval e1 X.env)::starEach es X.env:=by rfl) (hpl:(backTo pos (starEach es X.env)).any (·.1)=false:=by rfl) :
  FE X (.Call (.Name x p) (e1::es) [] pos) (Df F fx g):=by
 obtain⟨t1,p1,q1⟩:=h1;obtain⟨t,pa,_,sa⟩:=ha;refine⟨_,Ku (xh (X:=X.d8) GG hr hg.1 hm hk hb .nil nY (cH p1 pa he) hg.2 he hpl),@λH0 S z aq ρ σ H Q E r ok e0 kk=>?_⟩;unfold Df at e0;cases h:fx ρ with
 |none=>rw[h] at e0;cases e0
 |some w=>
  obtain⟨d,aD⟩:=w;rw[h] at e0;dsimp only at e0;cases h2:g aD with
  |none=>rw[h2] at e0;cases e0
  |some qs=>
   rw[h2] at e0;dsimp only at e0;cases h3:F (d::qs.map (·.1)) with
   |none=>rw[h3] at e0;cases e0
   |some rr=>
    rw[h3] at e0;cases e0;refine q1 ok h λH1 v bD _ rv=>?_
    refine sa bD h2 λH2 vs lY s2 r2 g2=>?_
    show bq X.K F ((v::vs)++[]) H2 Q E0;rw[acB];exact⟨_,_,_,.cons (rv.same s2) r2,h3,λH3 u eX s3 r3 nd fr=>kk z H2 H3 u eX (bD.same s2) s3 r3 ⟨nd,fr⟩⟩
def xH(i:Nat)(f:XR):SF:=λρ=>match f ρ with
 | some (.ok d ρ')=>(match ρ[i]?,ρ'[i]? with
  |some (some (.lst _,.own)),some (some (.lst ds,.own))=>if decide (ds.length<sizeLine)=true then some (.nx (cz ρ' i (.lst (ds++[d])))) else none
  |_,_=>none)
 |_=>none
theorem U7{a:Expr}{f:XR}{x:Str}{p1 p2 p3:Pos}(i:Nat)(hv:FE X a f)(va:VA X i x:=by walk_at "va")(hs:starEach [a] X.env=[(false,eval a X.env)]:=by rfl)
  (ia:attributeBase (.Name x p1) "append" X.env (eval (.Name x p1) X.env)=eval (.Name x p1) X.env:=by rfl)
  (j6:((backTo p3 (starEach [a] X.env)).all (λx=>!x.1)&&(backToKw p3 (keywordEach [] X.env)).all (λx=>x.1.isSome)&&decide ([a].length+([]:List Keyword).length+(if([]:List Keyword).isEmpty then 0 else 1)<30))=true:=by rfl)
  (ir:(p2.endLine==p3.line)=true:=by rfl) (gZ:swapsWith (.Call (.Attribute (.Name x p1) "append" p2) [a] [] p3) none pos.line X.env=pure false:=by rfl) :
  dO X (.Expr (.Call (.Attribute (.Name x p1) "append" p2) [a] [] p3) pos) (xH i f):=by
 obtain⟨tv,pv,sv⟩:=hv;have P:=abl (X:=X) (name:="append") (apos:=p2) (cpos:=p3) PySem.F.plainAttrs_list PySem.F.slot_list_append PySem.F.type_list_append y9 (pQ (X:=X.d8) (pos:=p1) va.N va.v va.d va.c) pv ia j6 ir hs;exists 25,Mw;intro af s I;unfold xH at e
 split at e
 .rename_i d ρ' h
  split at e
  .rename_i Ny ds g0 g2
   by_cases hc:decide (ds.length<sizeLine)=true
   .rw[if_pos hc] at e;cases e;refine VQ Ma P gZ af s σ H E I ?_;obtain⟨xv,fp,bu,r,zz⟩:=ok.sl i _ _ g0;refine⟨xv,bu,?_⟩;obtain⟨l,xs,f',rfl,hq,_,_⟩:=r.dh;refine⟨.inl ⟨rfl,_,hq⟩,?_⟩;refine sv ok h λz1 H1 H2 v fd s_ s1 rv gv=>?_
    have gv:=gv;obtain⟨xv2,lY,bY,r2,FU⟩:=s_.sl i _ _ g2;rw[bu] at bY;cases bY;have Mf:=r2.same s1;generalize hw:(V.ref l)=w at Mf r2 bu;cases Mf with
    | @lst a' ys _ f' h rs=>
     cases hw;have nE:∀c∈fd,c∉(l::f'):=λc m n=>by
      obtain⟨⟨o,w⟩,_⟩:=s_.zd c i (FU.2 c n);rw[gv.2 c m] at w;cases w
     refine⟨_,ys,v,rfl,rfl,h,by rw[<- rs.length];exact aaR hc,?_⟩;obtain⟨n1,n2⟩:=acd.mp FU.1;have im:bH H2 (upd H2 l (.lst (ys++[v]))):=bH.upd h rfl;have uc:=rs.frame (H':=upd H2 l (.lst (ys++[v]))) (λc m=>aN λq=>n1 (by rw[<- q];exact m)) im;have PJ:=rv.frame (H':=upd H2 l (.lst (ys++[v]))) (λc m=>aN λq=>nE c m (by rw[q];exact aah)) im;have qy:(l::(f'++(fd++[]))).Nodup:=by
      rw[acB];refine acd.mpr ⟨λm=>?_,acv.mpr ⟨n2,gv.1,λc mc e me ee=>nE e me (by rw[<- ee];exact aas _ mc)⟩⟩;rcases ab3.mp m with m|m
      .exact n1 m
      .exact nE l m aah
     have S6:∀c∈l::(f'++(fd++[])),c∈l::f'\/H1 c=none:=by
      intro c m;rw[acB] at m;rcases aaG.mp m with q|m
      .exact .inl (by rw[q];exact aah)
      .rcases ab3.mp m with m|m
       .exact .inl (aas _ m)
       .exact .inr (gv.2 c m)
     obtain⟨z',a_⟩:=s_.put (bX:=l::(f'++(fd++[]))) (d1:=.lst (ds++[d])) g2 bu FU ((bH.of s1).trans im) (λc o n e=>by rw[aN λq=>n (by rw[q];exact aah)];exact s1 c o e)
      (.lst bL (ay.append uc (.cons PJ .nil))) qy S6
     exact q z' σ _ a_ (.refl _ _)
   .rw[aa7 hc] at e;cases e
  .cases e
 .cases e
noncomputable def Ho(i:Nat):SF:=λρ=>match ρ[i]?,ρ[0]? with
 |some (some (d,Tag.own)),some (some (d0,Tag.own))=>if i≠0 then some (.rt (.tup [d,d0])) else none
 |_,_=>none
theorem KJ(i:Nat){x:Str}{p1:Pos}(va:VA X i x:=by walk_at "va"):
  Hl X (.Return (some (.Name x p1)) pos) (Ho i):=by
 exists 23,n6 va.pe;unfold Ho at e
 split at e
 .rename_i d d0 h1 h0
  by_cases hc:i≠0
  .rw[if_pos hc] at e;cases e;obtain⟨r,Mi,ee,k⟩:=k;cases ee;obtain⟨v1,f1,s1,r1,zz⟩:=ok.sl i d _ h1;refine⟨v1,s1,?_⟩;refine k z ρ σ _ _ f1 ok h0 (.refl _ _) r1 zz.1 (λb m=>⟨(ok.zd b i (zz.2 b m)).2,λq=>?_⟩) λq=>nomatch q
   rw[zz.2 b m] at q;exact hc (ab8 q)
  .rw[aa7 hc] at e;cases e
 .cases e
def wg(fa fb:EF)(i j:Nat):SF:=λρ=>match fa ρ,fb ρ,ρ[i]?,ρ[j]? with
 |some (da,_),some (db,Tag.own),some (some (di,Tag.own)),some (some (dj,Tag.own))=>if aI da=true/\i≠j then some (.rt (.tup [da,db,di,dj])) else none
 |_,_,_,_=>none
theorem X_{x1}(i j:Nat)(ha:FP X a fa)(hb:FP X b fb)(hi:X.N[i]? = some x:=by rfl)(hj:X.N[j]? = some y:=by rfl)(vx:uH X.env.scope x:=by first|exact Or.inl rfl|exact Or.inr (Or.inl rfl)|exact Or.inr (Or.inr rfl))(vy:uH X.env.scope y:=by first|exact Or.inl rfl|exact Or.inr (Or.inl rfl)|exact Or.inr (Or.inr rfl))
  (dx:(x==("__debug__":Str))=false:=by decide) (dy:(y==("__debug__":Str))=false:=by decide) (cx:(x==("__classdict__":Str))=false:=by decide) (cy:(y==("__classdict__":Str))=false:=by decide)
  (h1:starEach [a,b,.Name x p1,.Name y p2] X.env=(false,eval a X.env)::starEach [b,.Name x p1,.Name y p2] X.env:=by rfl) (h2:starEach [b,.Name x p1,.Name y p2] X.env=(false,eval b X.env)::starEach [.Name x p1,.Name y p2] X.env:=by rfl) :
  dO X (.Return (some (.Tuple [a,b,.Name x p1,.Name y p2] x1 pt)) pos) (wg fa fb i j):=by
 obtain⟨ta,pa,qa⟩:=ha;obtain⟨tb,pb,qb⟩:=hb;exists 23,n6 (Oo (cH pa (cH pb (cH (pQ hi vx dx cx) (cH (pQ hj vy dy cy) dU)) h2) h1));unfold wg at e
 split at e
 .rename_i da tga db di dj g1 g2 g3 g4
  by_cases hc:aI da=true/\i≠j
  .rw[if_pos hc] at e;cases e;refine qa ok g1 λH1 va fpa s1 ra _=>?_
   have hn:=ra.aI hc.1;subst hn;have bD:=ok.same s1;refine qb bD g2 λH2 vb HD s2 rb gb=>?_
   have gb:=gb;have dH:=bD.same s2;obtain⟨vi,fi,si,ri,zi⟩:=dH.sl i _ _ g3;obtain⟨vj,fj,sj,rj,zj⟩:=dH.sl j _ _ g4;refine⟨vi,si,vj,sj,?_,λc mh=>?_⟩
   .show 4<=sizeLine;decide
   have sm:aG H2 (upd H2 c (.tup [va,vb,vi,vj])):=λb o e=>by rw[aN (cD e mh)];exact e
   have nb:∀a∈HD,z a=none:=λa m=>by
    cases hz:z a with
    |none=>rfl
    |some q=>
     obtain⟨⟨o,w⟩,_⟩:=bD.zd a q hz;rw[gb.2 a m] at w;cases w
   refine k _ _ ([]++(HD++(fi++(fj++[])))) (λa o e n=>sm _ _ (dH.en a o e n)) (.tup (b8.of bL) (.cons ((ra.same s2).same sm) (.cons (rb.same sm) (.cons (ri.same sm) (.cons (rj.same sm) .nil))))) ?_ λa m=>?_
   .simp only[List.nil_append,acB];refine acv.mpr ⟨gb.1,acv.mpr ⟨zi.1,zj.1,λa ma b mb e=>?_⟩,λa ma b mb e=>?_⟩
    .subst e;have:=zi.2 a ma;rw[zj.2 a mb] at this;exact hc.2 (ab8 this).symm
    .subst e;rcases ab3.mp mb with m|m
     .have:=zi.2 a m;rw[nb a ma] at this;cases this
     .have:=zj.2 a m;rw[nb a ma] at this;cases this
   .simp only[List.nil_append,acB] at m;rcases ab3.mp m with m|m
    .cases h0:H0 a with
     |none=>exact .inl rfl
     |some o=>
      by_cases hs:a∈S
      .exact .inr hs
      .have w:=bD.en a o h0 hs;rw[gb.2 a m] at w;cases w
    .rcases ab3.mp m with m|m
     .exact(dH.zd a i (zi.2 a m)).2
     .exact(dH.zd a j (zj.2 a m)).2
  .rw[aa7 hc] at e;cases e
 .cases e
end
end L2.Ev
namespace L2.Ev
open PySem
section
variable{ρ ρ':aE}{f:EF}{sf sg:SF}{d d1 d2:D}{t t1 t2:Tag}{i:Nat}{r:Option Out}
theorem sq(h:sf ρ=some (.nx ρ'))(h2:sg ρ'=r):bO sf sg ρ=r:=by rw[jx,h,oY,h2]
theorem eB(h:f ρ=some (d,t))(h2:sg (jI ρ i d t)=r):bO (gD i f) sg ρ=r:=sq (by unfold gD;rw[h]) h2
theorem E7(h:tf ρ=some b)(h2:bO (if b=true then sf else cP) sg ρ=r):bO (cQ tf sf cP) sg ρ=r:=by
 have e:cQ tf sf cP ρ=(if b=true then sf else cP) ρ:=by rw[fN,h];cases b<;>rfl
 rw[jx,e,<- jx,h2]
theorem kF(h:tf ρ=some false)(h2:sg ρ=r):bO (cQ tf sf cP) sg ρ=r:=sq (by rw[fN,h];rfl) h2
theorem bZ{op:D->Option D}(h:f ρ=some (d,t))(h2:op d=some d1):e1 op f ρ=some (d1,.own):=by rw[v9,h,zD,h2];rfl
theorem aZ{op:D->D->Option D}(h:f ρ=some (d1,t1))(h2:g ρ=some (d2,t2))(h3:op d1 d2=some d):e2 op f g ρ=some (d,.own):=by rw[nR,h,h2,AD,h3];rfl
theorem cN{F:List D->Option D}{ps:List (D×Tag)}(h:g ρ=some ps)(h2:F (ps.map (·.1))=some d):bP F g ρ=some (d,.own):=by rw[s_call,h,Im,h2];rfl
theorem cV(h:f ρ=some (.bl b,t)):tV f ρ=some b:=by rw[uJ,h];rfl
theorem kN(h:tf ρ=some b):gU tf ρ=some (!b):=by rw[CP,h];rfl
end
open PySem PySem.Spec PyProof.Rows
section
variable{X:Cx}{x f cn:Str}{C:Addr}{a k v:Expr}{fk fv:EF}{p p1 p2 p3 pos pos':Pos}
def NV:=sX (λ_ j=>decide (0<=j)) λi j=>i / 2 ^ j.toNat
theorem RD{b:Expr}{fa fb:EF}(ha:FP X a fa)(hb:FP X b fb):FP X (.BinOp a .RShift b pos) (e2 NV fa fb):=qq RU (xX λi j h=>aaR h) ha hb
end
end L2.Ev
namespace L2
open PySem PySem.W PyProof.Rows
structure nj(r:Nat->Nat->Bool)(n:Nat):Prop where
 tr:∀i j k,i<n->j<n->k<n->r i j=true->r j k=true->r i k=true
 tt:∀i j,i<n->j<n->i≠j->r i j=false->r j i=true
def iH(r:Nat->Nat->Bool)(p:Array Nat)(m:Nat):Prop:=∀i j,i<j->j<m->r (p.getD i 0) (p.getD j 0)=true
def uB(r:Nat->Nat->Bool)(p:Array Nat)(m:Nat):Prop:=∀i j,i<j->j<m->r (p.getD j 0) (p.getD i 0)=true
noncomputable abbrev aW(n:Nat)(p:Array Nat):Prop:=p.Perm (List.range n).toArray
section
variable{cmp:Nat->Nat->(Bool->Shared->Prop)->Shared->Prop}{r:Nat->Nat->Bool}{n:Nat}{s:Shared}{p:Array Nat}
theorem aW.sz(P:aW n p):p.size=n:=by rw[Array.Perm.size_eq P];simp
theorem getD_at(h:i<p.size):p.getD i 0=p[i]:=by simp[Array.getD,h]
theorem aW.lt(P:aW n p)(h:i<n):p.getD i 0<n:=by
 have hs:i<p.size:=by rw[aW.sz P];exact h
 rw[getD_at hs];have m:p[i]∈p.toList:=by simp
 have:=(adq.mp P).mem_iff.mp m;simpa using this
theorem aW.ne(P:aW n p)(hi:i<n)(hj:j<n)(h:i≠j):p.getD i 0≠p.getD j 0:=λe'=>by
 have hs:i<p.size:=by rw[aW.sz P];exact hi
 have bu:j<p.size:=by rw[aW.sz P];exact hj
 rw[getD_at hs,getD_at bu] at e';have nd:=(adq.mp P).nodup_iff.mpr (by simpa using List.nodup_range);have w:=ac6.mp nd;rcases Nat.lt_or_gt_of_ne h with q|q
 .exact w i j (by simpa using hs) (by simpa using bu) q (by simpa using e')
 .exact w j i (by simpa using bu) (by simpa using hs) q (by simpa using e'.symm)
def sR(cmp:Nat->Nat->(Bool->Shared->Prop)->Shared->Prop)(r:Nat->Nat->Bool)(n:Nat)(s:Shared):Prop:=∀i j C,i<n->j<n->C (r i j) s->cmp i j C s
theorem iH.snoc(T:nj r n)(P:aW n p)(h:iH r p m)(h1:1<=m)(hm:m<n)(h2:r (p.getD (m-1) 0) (p.getD m 0)=true):iH r p (m+1):=λi j a b=>by
 by_cases e:j=m
 .subst e
  by_cases e':i=j-1
  .subst e';exact h2
  .exact T.tr _ _ _ (aW.lt P (by lia)) (aW.lt P (by lia)) (aW.lt P (by lia)) (h i (j-1) (by lia) (by lia)) h2
 .exact h i j a (by lia)
theorem uB.snoc(T:nj r n)(P:aW n p)(h:uB r p m)(h1:1<=m)(hm:m<n)(h2:r (p.getD m 0) (p.getD (m-1) 0)=true):uB r p (m+1):=λi j a b=>by
 by_cases e:j=m
 .subst e
  by_cases e':i=j-1
  .subst e';exact h2
  .exact T.tr _ _ _ (aW.lt P (by lia)) (aW.lt P (by lia)) (aW.lt P (by lia)) h2 (h i (j-1) (by lia) (by lia))
 .exact h i j a (by lia)
theorem A1(T:nj r n)(A:sR cmp r n s)(P:aW n p):∀(f m:Nat) {G:Nat->Shared->Prop},1<=m->m+f<=n->iH r p m->
  (∀m',m<=m'->m'<=m+f->iH r p m'->(m'=m+f\/r (p.getD m' 0) (p.getD (m'-1) 0)=true)->G m' s)->(kas_asc p f m).kasWp cmp G s
 |0,m,G,_,_,hs,g=>g m (aa2 _) (aa2 _) hs (.inl rfl)
 |f+1,m,G,h1,h2,hs,g=>by
  refine A _ _ _ (aW.lt P (by lia)) (aW.lt P (by lia)) ?_;cases c:r (p.getD m 0) (p.getD (m-1) 0) with
  |true=>exact g m (aa2 _) (by lia) hs (.inr c)
  |false=>
   exact A1 T A P f (m+1) (by lia) (by lia) (hs.snoc T P h1 (by lia) (T.tt _ _ (aW.lt P (by lia)) (aW.lt P (by lia)) (aW.ne P (by lia) (by lia) (by lia)) c)) λm' a b c d=>g m' (by lia) (by lia) c (by rw[show m+1+f=m+(f+1) by lia] at d;exact d)
theorem Lq(T:nj r n)(A:sR cmp r n s)(P:aW n p):∀(f m:Nat) {G:Array Nat×Nat×Nat->Shared->Prop},1<=m->m+f<=n->uB r p m->
  (∀m',m<=m'->m'<=m+f->uB r p m'->G (p,m',0) s)->(kas_desc f p m 0).kasWp cmp G s
 |0,m,G,_,_,hs,g=>g m (aa2 _) (aa2 _) hs
 |f+1,m,G,h1,h2,hs,g=>by
  refine A _ _ _ (aW.lt P (by lia)) (aW.lt P (by lia)) ?_;cases c:r (p.getD m 0) (p.getD (m-1) 0) with
  |true=>exact Lq T A P f (m+1) (by lia) (by lia) (hs.snoc T P h1 (by lia) c) λm' a b d=>g m' (by lia) (by lia) d
  |false=>
   refine A _ _ _ (aW.lt P (by lia)) (aW.lt P (by lia)) ?_;rw[T.tt _ _ (aW.lt P (by lia)) (aW.lt P (by lia)) (aW.ne P (by lia) (by lia) (by lia)) c];exact g m (aa2 _) (by lia) hs
theorem rev_getD(hm:m<=p.size)(h:i<m):(kas_rev p 0 m).getD i 0=p.getD (m-1-i) 0:=by
 have e:=getElem?_mirror_all (xs:=p) (i:=0) hm i;rw[if_pos ⟨acD _,h⟩] at e;unfold kas_rev;rw[ac0,ac0,e]
 congr 2;lia
theorem O1(T:nj r n)(A:sR cmp r n s)(P:aW n p)(h:1<=n){G:Nat×Array Nat->Shared->Prop}(g:∀m q,1<=m->m<=n->aW n q->iH r q m->G (m,q) s):(kas_count n p).kasWp cmp G s:=by
 unfold kas_count;rw[KasT.kasWp_bind];refine A1 T A P (n-1) 1 (aa2 _) (by lia) (λi j a b=>by lia) λm a b hs d=>?_
 by_cases e:m=n
 .subst e;rw[if_pos (by simp)];exact g m p a (aa2 _) P hs
 .rw[aa7 (by simpa using e)]
  by_cases e1:m > 1
  .rw[if_pos e1];refine A _ _ _ (aW.lt P (by lia)) (aW.lt P (by lia)) ?_;rw[hs 0 (m-1) (by lia) (by lia)];exact g m p a (by lia) P hs
  .rw[aa7 e1];obtain rfl:m=1:=by lia
   have d:=d.resolve_left (by lia);unfold kas_descPart;rw[KasT.kasWp_bind];refine Lq T A P (n - (1 + 1)) (1 + 1) (by lia) (by lia) (λi j a b=>by
    obtain⟨rfl,rfl⟩:i=0/\j=1:=by lia
    exact d) λm' a' b' hd=>?_
   dsimp only;rw[aa7 (by lia)];unfold kas_tail3;rw[KasT.kasWp_bind];have Q:aW n (kas_rev p 0 m'):=(mirror_perm _ _ _ _).trans P;refine A1 T A Q (n-m') m' (by lia) (by lia) (λi j a b=>?_) λm2 a2 b2 bY _=>g m2 _ (by lia) (by lia) Q bY
   rw[rev_getD (by rw[aW.sz P];lia) (by lia),rev_getD (by rw[aW.sz P];lia) (by lia)];exact hd _ _ (by lia) (by lia)
theorem FY(T:nj r n)(A:sR cmp r n s)(P:aW n p)(hx:x<n)(hs:iH r p x):∀(f l u:Nat) {G:Nat->Shared->Prop},u-l<=f->u<=x->l<=u->(∀i,i<l->r (p.getD i 0) (p.getD x 0)=true)->(∀i,u<=i->i<x->r (p.getD x 0) (p.getD i 0)=true)->
  (∀l,l<=x->(∀i,i<l->r (p.getD i 0) (p.getD x 0)=true)->(∀i,l<=i->i<x->r (p.getD x 0) (p.getD i 0)=true)->G l s)->(kas_place p x f l u).kasWp cmp G s
 |0,l,u,G,h1,h2,h3,lo,hi,g=>g l (by lia) lo λi a b=>hi i (by lia) b
 |f+1,l,u,G,h1,h2,h3,lo,hi,g=>by
  unfold kas_place
  by_cases c:l >= u
  .rw[if_pos c];exact g l (by lia) lo λi a b=>hi i (by lia) b
  .rw[aa7 c];refine A _ _ _ (aW.lt P hx) (aW.lt P (by lia)) ?_;cases d:r (p.getD x 0) (p.getD ((l+u) / 2) 0) with
   |true=>
    refine FY T A P hx hs f l ((l+u) / 2) (by lia) (by lia) (by lia) lo (λi a b=>?_) g
    by_cases e:i=(l+u) / 2
    .rw[e];exact d
    .exact T.tr _ _ _ (aW.lt P (by lia)) (aW.lt P (by lia)) (aW.lt P (by lia)) d (hs _ i (by lia) b)
   |false=>
    have d:=T.tt _ _ (aW.lt P (by lia)) (aW.lt P (by lia)) (aW.ne P (by lia) (by lia) (by lia)) d;refine FY T A P hx hs f ((l+u) / 2+1) u (by lia) h2 (by lia) (λi a=>?_) hi g
    by_cases e:i=(l+u) / 2
    .rw[e];exact d
    .exact T.tr _ _ _ (aW.lt P (by lia)) (aW.lt P (by lia)) (aW.lt P (by lia)) (hs i _ (by lia) (by lia)) d
theorem Ll(hx:x<p.size)(hl:l<=x):(bubble p x (x-l)).getD i 0=if i=l then p.getD x 0 else if l<i/\i<=x then p.getD (i-1) 0 else p.getD i 0:=by
 have e:=getElem?_bubble hx (x-l) (by lia) i;rw[show x-(x-l)=l by lia] at e;rw[ac0,e]
 by_cases h1:i=l
 .rw[if_pos h1,if_pos h1,ac0]
 .rw[aa7 h1,aa7 h1]
  by_cases h2:l<i/\i<=x
  .rw[if_pos h2,if_pos h2,ac0]
  .rw[aa7 h2,aa7 h2,ac0]
theorem Hx(T:nj r n)(A:sR cmp r n s):∀(f:Nat) (p:Array Nat) (x:Nat) {G:Array Nat->Shared->Prop},aW n p->1<=x->x+f=n->iH r p x->(∀q,aW n q->iH r q n->G q s)->(kas_bin f p x).kasWp cmp G s
 |0,p,x,G,P,_,e,hs,g=>g p P (by rw[<- e];exact hs)
 |f+1,p,x,G,P,h1,e,hs,g=>by
  unfold kas_bin;rw[KasT.kasWp_bind];refine FY T A P (by lia) hs x 0 x (by lia) (aa2 _) (acD _) (λi a=>by lia) (λi a b=>by lia) λl hl lo hi=>?_
  have hz:x<p.size:=by rw[aW.sz P];lia
  refine Hx T A f _ (x+1) ((bubble_perm _ _ _).trans P) (by lia) (by lia) (λi j a b=>?_) g;rw[Ll hz hl,Ll hz hl]
  by_cases i1:i=l
  .rw[if_pos i1,aa7 (by lia),if_pos (by lia)];exact hi _ (by lia) (by lia)
  .rw[aa7 i1]
   by_cases j1:j=l
   .rw[if_pos j1,aa7 (by lia)];exact lo _ (by lia)
   .rw[aa7 j1]
    by_cases i2:l<i/\i<=x
    .rw[if_pos i2,if_pos (by lia)];exact hs _ _ (by lia) (by lia)
    .rw[aa7 i2]
     by_cases j2:l<j/\j<=x
     .rw[if_pos j2];exact hs _ _ (by lia) (by lia)
     .rw[aa7 j2];exact hs _ _ (by lia) (by lia)
theorem UB(T:nj r n)(A:sR cmp r n s)(h:1<=n){G:Array Nat->Shared->Prop}(g:∀q,aW n q->iH r q n->G q s):(kas_sort n).kasWp cmp G s:=by
 unfold kas_sort;rw[KasT.kasWp_bind];refine O1 T A (Array.Perm.refl _) h λm q a b Q hs=>?_
 by_cases e:m<n
 .dsimp only;rw[if_pos e,Nat.max_eq_left a];exact Hx T A _ q m Q a (by lia) hs g
 .dsimp only;rw[aa7 e];obtain rfl:m=n:=by lia
  exact g q Q hs
end
open PySem PySem.Spec PySem.W PyProof.Rows
noncomputable def lex(x y:Int×Int):Bool:=decide (x.1<y.1\/x.1=y.1/\x.2<y.2)
def IsPair(h:Heap)(q:Addr)(x:Int×Int):Prop:=∃t u,IsTup h q #[.int x.1 t,.int x.2 u]
theorem Ug{pr:Nat->Int×Int}(h:∀i j,i<n->j<n->pr i=pr j->i=j):nj (λi j=>lex (pr i) (pr j)) n where
 tr:=λi j k _ _ _ a b=>by
  have a:=aaR a;have b:=aaR b;exact abU (by lia)
 tt:=λi j a b ne e=>by
  have e:=of_decide_eq_false e;have n2:¬((pr i).1=(pr j).1/\(pr i).2=(pr j).2):=λz=>ne (h i j a b (Prod.ext z.1 z.2))
  exact abU (by lia)
section
variable{prog:Program}{w:World}{A:Around}{E:Value->Shared->Prop}{s:Shared}
theorem WG{a b:Int×Int}{Q:Bool->Shared->Prop}(hx:IsPair s.heap x a)(hy:IsPair s.heap y b)(h:Q (lex a b) s):wpAny (model prog w) A (keyLt' (tuples' true) (.ref x) (.ref y)) Q E s:=by
 obtain⟨t,u,o,h1,_,n,h2⟩:=hx;obtain⟨t',u',o',fG,_,n',lD⟩:=hy;refine kat_lt h1 h2 fG lD (kat_cons (wpAny_eqBool_int (kat_go (λe=>kat_yes (kat_cons (wpAny_eqBool_int (kat_go (λe2=>kat_yes (kat_nil ?_)) λe2=>kat_no (kat_one _ _ (lt_int ?_)))))) λe=>kat_no (oneLt_int ?_))))
 .have e:=eq_of_beq e;have e2:=eq_of_beq e2;have:lex a b=false:=aco (by omega);rw[this] at h;exact h
 .have e:=eq_of_beq e;have:lex a b=decide (a.2<b.2):=by unfold lex;congr 1;exact propext ⟨λz=>by omega,λz=>.inr ⟨e,z⟩⟩
  rw[this] at h;exact h
 .have e:=ne_of_beq_false e;have:lex a b=decide (a.1<b.1):=by unfold lex;congr 1;exact propext ⟨λz=>by omega,.inl⟩
  rw[this] at h;exact h
theorem LI:∀{qs:List Addr}{ps:List (Int×Int)},Paired (IsPair h) qs ps->∃fs,KatTups h (qs.map Value.ref) fs/\fs.length=qs.length/\∀v∈fs,∃i t,v=Value.int i t
 |_,_,.nil=>⟨[],.nil,rfl,λ_ m=>nomatch m⟩
 |_,_,.cons r t=>by
  obtain⟨fs,h1,h2,h3⟩:=LI t;obtain⟨t,u,o,e1,e2,n,e3⟩:=r;exact⟨_::fs,KatTups.cons e1 e2 e3 rfl h1,by rw[acj,acj,h2],λv m=>(aaG.mp m).elim (λz=>⟨_,_,z⟩) (h3 v)⟩
theorem PR{a kS:Addr}{vs:List Value}{qs:List Addr}{ps:List (Int×Int)}{e e1:Nat}{P:PySem.Fin->Shared->Prop}(eK:vs.length<64)(hl:qs.length=vs.length)(hp:Paired (IsPair s.heap) qs ps)(nd:ps.Nodup)
  (hk:s.heap.get? kS=some (seqObj "list" (qs.map Value.ref).toArray e)) (ha:s.heap.get? a=some (seqObj "list" #[] e1)) (ne:a≠kS)
  (h:∀q:Array Nat,aW vs.length q->iH (λi j=>lex (ps.getD i (0,0)) (ps.getD j (0,0))) q vs.length->
   P (.done (.ret .none)) { s with heap:=(s.heap.update kS (Obj.mapSeq λ_=>#[])).update a (Obj.mapSeq λ_=>(q.toList.map λi=>vs.getD i Value.none).toArray) }) :
  wpAny (model prog w) A (ksk_end a false vs.toArray e1 (.ref kS) (qs.map Value.ref).toArray) P E s:=by
 have vd:(qs.map Value.ref).length=vs.length:=by rw[List.length_map];exact hl
 have tail:∀(st:SortSt) (q:Array Nat),aW vs.length q->iH (λi j=>lex (ps.getD i (0,0)) (ps.getD j (0,0))) q vs.length->(arrOf st).map (·.2)=(q.toList.map λi=>vs.getD i Value.none).toArray->failedOf st=none->
   wpAny (model prog w) A (ksk_tail a false e1 (.ref kS) st) P E s:=by
  intro st q hq hs ho hf;have s1:=aea s.heap kS (Obj.mapSeq λ_=>(#[]:Array Value));have Ga:=(s1.2 a ne).trans ha;unfold ksk_tail;dsimp only;refine aac (listUpdate_at hk rfl ?_ (by rw[abQ,vd,aeh];lia) (acD _));refine aac (wpAny_letGo ?_);refine aac (seqEpoch_at Ga rfl ?_);refine aac (listUpdate_at Ga rfl ?_ (acD _) ?_)
  .rw[hf];simp only[bne_self_eq_false,acG,ad7];rw[ho];exact aaC (h q hq hs)
  .simp only[acG,ad7];rw[ho,abQ,List.length_map,ab2,aW.sz hq,aeh];lia
 unfold ksk_end;dsimp only;rw[aa7 abI]
 by_cases h2:vs.toArray.size<2
 .rw[if_pos h2,if_pos h2];refine aac (aaC ?_);rw[StateT.run_pure];refine aac (aaC ?_);dsimp only;rw[abQ] at h2;refine tail _ (List.range vs.length).toArray (Array.Perm.refl _) (λi j a b=>by lia) ?_ rfl;have e:=kat_snds (vs:=vs) vd (st:=kas_st general' ((qs.map Value.ref).toArray.zip vs.toArray) (List.range vs.length).toArray) rfl;have er:(List.range vs.length).toArray.map (kas_item ((qs.map Value.ref).toArray.zip vs.toArray))=(qs.map Value.ref).toArray.zip vs.toArray:=by
   have:=kas_range ((qs.map Value.ref).toArray.zip vs.toArray);rw[show((qs.map Value.ref).toArray.zip vs.toArray).size=vs.length by simp[hl]] at this;exact this
  rw[<- e];show((qs.map Value.ref).toArray.zip vs.toArray).map (·.2)=((List.range vs.length).toArray.map (kas_item ((qs.map Value.ref).toArray.zip vs.toArray))).map (·.2);rw[er]
 .rw[aa7 h2,aa7 h2];rw[abQ] at h2;obtain⟨fs,k1,k2,k3⟩:=LI hp;refine aac (kat_kind (T:=.type "int") k1 (by lia) (λv m=>by obtain⟨i,t,rfl⟩:=k3 v m;exact Looks.of_pure rfl) (by decide) ?_);refine aac (acC (kat_run (Q:=λst s'=>s'=s/\∃q:Array Nat,aW vs.length q/\iH (λi j=>lex (ps.getD i (0,0)) (ps.getD j (0,0))) q vs.length/\(arrOf st).map (·.2)=(q.toList.map λi=>vs.getD i Value.none).toArray/\failedOf st=none)
   (G:=λq s'=>s'=s/\aW vs.length q/\iH (λi j=>lex (ps.getD i (0,0)) (ps.getD j (0,0))) q vs.length) vd (by lia) eK (λq ao s' _ ha hf g=>⟨g.1,q,g.2.1,g.2.2,kat_snds vd ha,hf⟩) ?_) ?_ λ_ _ z=>z)
  .have lp:ps.length=vs.length:=by rw[<- Paired.length hp];exact hl
   refine UB (Ug λi j a b e=>?_) (λi j C hi hj hc=>?_) (by lia) λq a b=>⟨rfl,a,b⟩
   .have ei:i<ps.length:=by lia
    have ej:j<ps.length:=by lia
    simp only[acs,aau ei,aau ej,Option.getD_some] at e;have w:=ac6.mp nd;rcases Nat.lt_trichotomy i j with q|q|q
    .exact absurd e (w i j ei ej q)
    .exact q
    .exact absurd e.symm (w j i ej ei q)
   .have at_:∀i,i<vs.length->∃x,(qs.map Value.ref).getD i Value.none=.ref x/\IsPair s.heap x (ps.getD i (0,0)):=λi hi=>by
     have lq:i<qs.length:=by lia
     have Lv:i<ps.length:=by lia
     refine⟨qs[i],by simp[acs,lq],?_⟩;rw[acs,aau Lv,Option.getD_some];have go:∀{qs:List Addr}{ps:List (Int×Int)},Paired (IsPair s.heap) qs ps->∀(i:Nat) (a:i<qs.length) (b:i<ps.length),IsPair s.heap qs[i] ps[i]:=by
      intro qs ps r
      induction r with
      |nil=>intro i a;exact absurd a (aeI _)
      |cons r t ih=>intro i a b;cases i with
       |zero=>exact r
       |succ i=>exact ih i (by simpa using a) (by simpa using b)
     exact go hp i lq Lv
    obtain⟨x,ex,hx⟩:=at_ i hi;obtain⟨y,ey,hy⟩:=at_ j hj;show wpAny (model prog w) A (keyLt' _ ((qs.map Value.ref).getD i Value.none) ((qs.map Value.ref).getD j Value.none)) C _ s;rw[ex,ey];exact WG hx hy hc
  .rintro⟨⟨⟩,st⟩ s' ⟨rfl,q,h1,h3,h4,h5⟩
   exact tail st q h1 h3 h4 h5
end
section
variable{X:Cx}{af:List (Addr×Obj)}{σ:St}{H:Hp}{s:Shared}{q:Str}{ig:Pos}{args:Arguments}{body:Expr}{sc:Scope}{clos:List (Str×Addr)}
theorem AQ:∀{K:PySem.W.Frag},K.lookup a=some o->(a,o)∈K
 |[],h=>by cases h
 |(b,u)::r,h=>by
  by_cases e:(a==b)=true
  .simp only[List.lookup,e] at h;cases h;rw[eq_of_beq e];exact aah
  .simp only[List.lookup,(by simpa using e:(a==b)=false)] at h;exact aas _ (AQ h)
theorem YD(I:Inv X af σ H s)(lk:X.K.lookup f0=some o0)(sh:r_ o0=some (cv,q,ig)):∃cc P,cv=.ref cc/\codeHdIn X.K cc P=true/\H P=some (.gH q ig):=by
 obtain⟨bD,ok⟩:=(aaF _ _).mp I.hq.ok;have bD:=acX.mp ((aaF _ _).mp bD).2 (f0,o0) (AQ lk);have bD:=bD;rw[sh] at bD;obtain⟨⟨cc,P,q',pos'⟩,e⟩:=aeE.mp (show(wH X.K (f0,o0)).isSome=true from bD);have hm:(cc,P,q',pos')∈gR X.K:=List.mem_filterMap.mpr ⟨_,AQ lk,e⟩;have e':=e;unfold wH at e';dsimp only at e';rw[sh] at e'
 split at e'
 .rename_i h;cases h
  split at e'
  .split at e'
   .cases e';refine⟨cc,P,rfl,?_,I.hq.lm _ hm⟩
    split at ok
    .rename_i e;rw[e] at hm;cases hm
    .rename_i r e;rw[e] at hm;cases aat.mp hm;exact((aaF _ _).mp ok).1
    .cases ok
   .cases e'
  .cases e'
 .cases e'
theorem Zn(I:Inv X af σ H s)(lk:X.K.lookup f0=some o0)(sh:r_ o0=some (X.env.code,q,ig))(vz:defaultsOf args X.env=([],[]))(mW:closureFor sc X.env=pure clos)(hq:X.env.qual++"<lambda>"=q)
  (h:∀f c' fV pm H' s',Inv X ((f,kla_obj "<lambda>" q args body sc clos pm c' fV)::af) σ H' s'->aG H H'->H' c'=some (.iM q)->Q (.ref f) s'):wpAny (model X.prog X.w) A (eval (.Lambda args body sc ig) X.env) Q E s:=by
 refine kla_eval vz ?_;rw[hq];obtain⟨cc,P,JE,hc,hP⟩:=YD I lk sh;obtain⟨ps,eP,rT⟩:=I.aC P _ hP;have C:=codeHd_of_K I.cS hc;have g:=I.ok.mod.glob.keeps I.bk;obtain⟨bm,ob,b1,b2,b3,b4,b5,b6⟩:=I.ok.mod.bmn;have nP:∀{b:Addr}{o:Obj},X.base.get? b=some o->b≠P:=λ{b o} e z=>by
  have:=(I.bs b o e).2;rw[z,hP] at this;cases this
 obtain⟨om,es,ep,em,dm,_⟩:=id I.ok.mod.glob;have hb:s.heap.BuiltinsAt X.mg P:=⟨bm,ob,b1,b2,(λz=>by rw[z,em] at b3;cases b3;rw[dm] at b6;cases b6),nP b3,I.bk _ _ b3,b4,b5,b6⟩
 have fin:∀(f:Addr) (o:Obj) (H':Hp) (s':Shared),Inv X af σ H' s'->s'.heap.get? f=some o->s.heap.objs.size<=f->H' f=none->(∀v,o.data≠.cell v)->Inv X ((f,o)::af) σ H' s':=λf o H' s' J e hf hn hd=>by
  refine J.qf λp hp=>?_
  rcases aaG.mp hp with rfl|hp
  .exact⟨e,hn,ada (acn I.lt hf),I.Ie hf,hd⟩
  .exact J.pin p (aaQ _ hp)
 rcases rT with rfl|⟨c',rfl,mh⟩
 .refine kla_makeFunction mW I.ok.glob g JE C eP trivial rfl (nP em) hb λc' fV h' tk hx xU bI VF LG=>?_
  have fc:=I.aC.fresh xU;have ff:=I.aC.fresh (ade (aef xU bI));have up:∀{b:Addr}{o:HO},H b=some o->upd H c' (.iM q) b=some o:=λ{b o} e=>by rw[aN (cD e fc)];exact e
  have pu:∀(b:Addr) (o:Obj),b≠P->s.heap.get? b=some o->(h'.push (kla_obj "<lambda>" q args body sc clos ((X.mg "__name__").getD .none) c' fV)).get? b=some o:=λb o n e=>aad _ (hx b o n e)
  have JH:∀{b:Addr},H b=none->b≠P:=λ{b} e z=>by rw[z,hP] at e;cases e
  have J:Inv X af σ (upd H c' (.iM q)) { s with heap:=h'.push (kla_obj "<lambda>" q args body sc clos ((X.mg "__name__").getD .none) c' fV),toks:=tk }:=by
   refine I.un ⟨λb o e n _ _=>pu b o (JH n) e,λb o e n _ _=>⟨o.slots,pu b o (JH n) e⟩,λb o e n _=>?_,λb o e _=>?_,λb t e=>up e,λb o u e=>up e,λb ps e=>⟨#[],by rw[up e];simp⟩⟩ λa o e=>?_
   .rw[aN (ab6 (acn (aba e) xU))];exact n
   .by_cases z:b=P
    .rw[z];exact⟨_,aad _ LG⟩
    .exact⟨o,pu b o z e⟩
   .by_cases z:a=c'
    .subst z;rw[bL] at e;cases e;exact VF.push _
    .rw[aN z] at e
     by_cases z2:a=P
     .subst z2;rw[hP] at e;cases e;exact⟨_,aad _ LG,.inr ⟨c',by simp,bL⟩⟩
     .refine(I.aC a o e).ic (λb u oW q=>pu b u ?_ q) (λb q=>up q) λb t q=>up q
      rcases oW with z3|z3
      .rw[z3];exact z2
      .intro z4;rw[z4,hP] at z3;cases z3
  refine h _ c' fV _ _ _ (fin _ _ _ _ J (abb _ rfl) (ade (aef xU bI)) ?_ (λv z=>by cases z)) (λb o e=>up e) bL;rw[aN (ada bI)];exact ff
 .refine kla_makeFunctionHit (cv:=.ref c') mW I.ok.glob g JE C eP (TriplesOk_snoc _ _ _ [] trivial) (codeAmong_snoc [] trivial rfl) hb λfV h' tk hk hsz=>?_
  exact h _ c' fV _ H _ (fin _ _ _ _ (I.kept λb u e=>aad _ (hk b u e)) (abb _ rfl) hsz (I.aC.fresh hsz) λv z=>by cases z) (aG.refl H) mh
noncomputable def qe(X:Cx)(A:Around)(x y:Str)(q:Str)(sc:Scope)(f:Addr)(cd:Value)(clos:List (Str×Addr))(s:Shared)(H:Hp):Cx where
 prog:=X.prog
 w:=X.w
 K:=X.K
 mg:=X.mg
 base:=X.base
 A:=A.deeper (envX q sc s.heap.objs.size f cd clos)
 N:=[x,y]
 cY:=s
 sC:=H
 env:=envX q sc s.heap.objs.size f cd clos
 outer:=X.stack
 stack:=envX q sc s.heap.objs.size f cd clos::X.stack
 ex:=[]
 fn:=λ_=>false
 calm:=X.calm
 pn:=[]
 xe:=λ_ _=>False
structure wj(sc:Scope)(args:Arguments)(x y:Str):Prop where
 kind:sc.kind=.function
 co:sc.isCoroutine=false
 gen:sc.isGenerator=false
 uO:∀z∈sc.names,z.2≠.cell
 loc:sc.names.lookup x=some .local
 Tv:sc.names.lookup y=some .free
 one:∀z∈sc.names,z.2=.free->z.1=y
 Xx:∀(q:Str) (body:Expr) (clos:List (Str×Addr)) (pm aV fV u:Value),bindArgs (kla_fn "<lambda>" q args body sc clos pm aV fV) ⟨[u],[]⟩=pure [(x,u)]
theorem SX{j:Nat}(I:Inv X af σ H s)(S:wj sc args x y)(hf:(f,kla_obj "<lambda>" q args body sc [(y,c)] pm c' fV)∈af)(hc:H c'=some (.iM q))
  (m6:X.env.cells.lookup y=some c) (hj:X.N[j]? = some y) (hv:σ[j]? = some (some v1)) (nI:X.env.scope.names.lookup y=some .cell) (ru:RelV v0 u) (hA:A.frames=X.A.frames) (hh:A.handled=X.A.handled) (hr:A.depth<recursionLimit)
  (hb:PE (qe X A x y q sc f (.ref c') [(y,c)] s H) body te) (h:te [some v0,some v1] H Q):wpAny (model X.prog X.w) A (call (.ref f) [u]) (EP X af σ Q) E s:=by
 have Yd:=(I.pin _ (aaQ _ hf)).1;refine wpAny_call (aei (R:=λr s'=>match r with|.ok (.ret v)=>CE X.stack X.prog X.w H s Q v s'|_=>False) ?_ λr s' z=>?_)
 .refine kla_callFunE hr Yd rfl S.co S.gen rfl (I.aC c' _ hc) ?_;rw[S.Xx];refine aaC (wpAny_newFunctionEnv S.uO (λz m=>by cases aat.mp m;exact S.loc) (λyu pS sS=>?_) S.kind);have tU:∀b o,s.heap.get? b=some o->yu.get? b=some o:=λb o e=>sS.extBut b o (ab6 (aba e)) (aad _ e)
  refine⟨(I.ok.mod.nolimit.keeps I.bk).keeps tU,?_⟩;have cl:∀{z:Str}{d:Addr},List.lookup z [(y,c)]=some d->z=y/\d=c:=λ{z d} e=>by
   by_cases w:(z==y)=true
   .simp only[List.lookup,w] at e;cases e;exact⟨eq_of_beq w,rfl⟩
   .simp only[List.lookup,(by simpa using w:(z==y)=false)] at e;cases e
  have cy:List.lookup y [(y,c)]=some c:=by simp[List.lookup]
  have p5:∀b:Addr,b∉(qe X A x y q sc f (.ref c') [(y,c)] s H).ex:=λb z=>absurd (show b∈([]:List Addr) from z) (by simp)
  have J:Inv (qe X A x y q sc f (.ref c') [(y,c)] s H) [] [some v0,some v1] H { s with heap:=yu,toks:=s.toks+[(x,u)].length }:=by
   refine⟨⟨I.ok.mod,S.kind,rfl,rfl,aa2 _,λa b d h1 h2=>?_,λa ha=>?_,(λa d h _=>by cases h),λhc=>?_,Around.frames_deeper (hA.trans I.ok.frames),.inr ⟨rfl,rfl⟩,λb z=>absurd z (p5 b),I.bs,ac9 I.ok.jh I.sz,λb _ _=>p5 b,λb z=>absurd z (p5 b),I.stack,I.Bl⟩,
    rfl,I.bare,Un.kept tU,⟨_,pS,λi z v h1 h2 h3=>?_⟩,λz d e=>?_,I.aC.fresh (aa2 _),λz d e=>?_,λp hp=>absurd (show p∈([]:List (Addr×Obj)) from hp) (by simp),I.aC.kept tU,rfl,⟨?_,I.hq.ok,I.hq.lm⟩⟩
   .exact(cl h1).1.trans (cl h2).1.symm
   .have ha:=ha;rcases ha with ha|ha
    .exact absurd rfl (S.uO _ (PySem.mem_of_lookup ha))
    .have e:a=y:=S.one _ (PySem.mem_of_lookup ha) rfl;rw[e];exact⟨c,cy⟩
   .have:=I.ok.hd hc;exact hh.trans this
   .match i,h1,h2 with
    |0,h1,h2=>
     cases h1;cases h2;refine⟨u,ru,.inl ⟨S.loc,by simp[List.lookup]⟩⟩
    |1,h1,h2=>
     cases h1;cases h2;obtain⟨m,_,hl⟩:=I.loc;obtain⟨u1,r1,l⟩:=hl j y v1 hj hv (.inr (.inl nI));refine⟨u1,r1,.inr ⟨.inr S.Tv,c,cy,?_⟩⟩;rcases l with⟨kk,_⟩|⟨_,d,e,o,ho,hd⟩
     .rw[show X.env.kindOf y=some .cell from nI] at kk;cases kk
     .rw[m6] at e;cases e;exact⟨o,tU _ _ ho,hd⟩
    |i+2,h1,h2=>exact absurd h2 (by simp)
   .rw[(cl e).2];obtain⟨w,o,ho,hd⟩:=I.cell y c m6;exact⟨w,o,tU _ _ ho,hd⟩
   .rw[(cl e).2];exact I.iJ y c m6
   .have:=I.hq.hd;unfold v_ at this ⊢;rw[show(qe X A x y q sc f (.ref c') [(y,c)] s H).A.handled=X.A.handled from hh];exact this
  refine kla_codeExpr (acC (hb [] _ _ H _ J h) (λv s' ⟨v',H',J',rv,q'⟩=>?_) λ_ _ z=>z.elim);exact⟨v',H',J'.os,J'.bare,J'.base,J'.aC,rv,q'⟩
 .cases r with
  |error e=>exact z.elim
  |ok fl=>
   cases fl with
   |ret w=>exact I.after z
   |next=>exact z
   |brk=>exact z
   |cont=>exact z
end
theorem Xd(r:aK [.int a,.int b] ak):∃t u,ak=[.int a t,.int b u]:=by
 cases r with
 |cons h1 r=>cases r with
  |cons h2 r=>cases r;obtain⟨t,rfl⟩:=h1;obtain⟨u,rfl⟩:=h2;exact⟨t,u,rfl⟩
theorem IntsAre.at{vs:List Value}{ns:List Int}(h:IntsAre vs ns):∀{j:Nat}{v:Value},vs[j]? = some v->∃n t,ns[j]? = some n/\v=.int n t:=by
 induction h with
 |nil=>intro j v e;simp at e
 |cons n t _ ih=>
  intro j v e;cases j with
  |zero=>cases e;exact⟨n,t,rfl,rfl⟩
  |succ j=>exact ih (by simpa using e)
theorem Paired.Zj{α β:Type}{R:α->β->Prop}{l:List α}{m:List β}{a:α}{b:β}(h:Paired R l m)(r:R a b):Paired R (l++[a]) (m++[b]):=by
 induction h with
 |nil=>exact .cons r .nil
 |cons r' _ ih=>exact .cons r' ih
theorem LM(h:IntsAre ak ns):∀(l:List Nat),(∀i∈l,i<ns.length)->aK ((l.map λi=>ns.getD i 0).map V.int) (l.map λi=>ak.getD i Value.none)
 |[],_=>.nil
 |i::l,hl=>by
  have hi:=hl i aah;have jq:i<ak.length:=by rw[h.length];exact hi
  obtain⟨n,t,e1,e2⟩:=IntsAre.at h (aau jq);refine .cons ?_ (LM h l λj m=>hl j (aas _ m));show RelV (V.int (ns.getD i 0)) (ak.getD i Value.none);rw[acs,acs,e1,aau jq,e2];exact⟨t,rfl⟩
theorem aa5{ns:List Int}{q:Array Nat}(P:aW ns.length q):(q.toList.map λi=>ns.getD i 0).Perm ns:=by
 have h:=(adq.mp P).map λi=>ns.getD i 0
 have e:((List.range ns.length).toArray.toList.map λi=>ns.getD i 0)=ns:=by
  refine List.ext_getElem (by simp) λi h1 h2=>?_
  simp[acs,h2]
 rw[e] at h;exact h
section
variable{X:Cx}{af:List (Addr×Obj)}{σ:St}{s:Shared}{q:Str}{args:Arguments}{body:Expr}{sc:Scope}{x y:Str}{c:Addr}{j:Nat}{te:Addr->Addr->Shared->Hp->TE}
theorem Th{H2:Hp}{p f c':Addr}{fV pm:Value}{v1:V}{ns:List Int}{pr:Int->Int×Int}{Q:VK}(I:Inv X ((f,kla_obj "<lambda>" q args body sc [(y,c)] pm c' fV)::af) σ H2 s)(S:wj sc args x y)(hc:H2 c'=some (.iM q))
  (m6:X.env.cells.lookup y=some c) (hj:X.N[j]? = some y) (hv:σ[j]? = some (some v1)) (nI:X.env.scope.names.lookup y=some .cell) (uZ:X.A.in1.in1.depth<recursionLimit)
  (hb:∀f c' s H,PE (qe X X.A.in1.in1 x y q sc f (.ref c') [(y,c)] s H) body (te f c' s H)) (hq:bG X.K H2 p (ns.map V.int)) (eK:ns.length<64) (nd:(ns.map pr).Nodup)
  (ht:∀s H3,aG H2 H3->∀n∈ns,te f c' s H3 [some (.int n),some v1] H3 λv H4=>∃k,v=.ref k/\b8 X.K H4 k [.int (pr n).1,.int (pr n).2]/\aG H3 H4)
  (hQ:∀(Hf:Hp) (D:Addr) (bR:List Int),aG H2 Hf->H2 D=none->Hf D=some (.lst (bR.map V.int))->bR.Perm ns->bR.Pairwise (λa b=>lex (pr a) (pr b)=true)->Q (.ref D) Hf) :
  wpAny (model X.prog X.w) X.A (call (.builtin "sorted") [.ref p] [(Str.ofString "key",.ref f)]) (EP X af σ Q) X.xe s:=by
 obtain⟨ak,ri,pl,hz⟩:=I.list hq;have hi:=intsAre_of ri;have li:ak.length=ns.length:=hi.length;have zl:ak.length<=sizeLine:=by rw[aeh];lia
 refine call_function_entry_kw kind_sorted plain_sorted entry_sorted (ksk_s1 _ _) ?_;unfold Builtin.«sorted»;refine aac (m:=checkCount "sorted" 1 1 _) (aaC ?_);refine aac (collect_list pl.isList ?_ zl);refine aac (wpAny_newList ?_ zl);generalize MP:(s.heap.push (seqObj "list" #[] 0)).update s.heap.objs.size (Obj.mapSeq (·++ak.toArray))=h3;have k3:∀b o,s.heap.get? b=some o->h3.get? b=some o:=λb o e=>by
  rw[<- MP,adS _ _ _ _ (ab6 (aba e))];exact aad _ e
 have z3:h3.objs.size=s.heap.objs.size+1:=by rw[<- MP,aeC,size_push']
 have hD:(h3.push (seqObj "list" ak.toArray 0)).get? h3.objs.size=some (seqObj "list" ak.toArray 0):=abb _ rfl;show wpAny _ _ _ _ _ { s with heap:=h3.push (seqObj "list" ak.toArray 0) };refine aac (acR (wpAny_call_entry_kw slot_list_sort ⟨_,hD,rfl⟩ entry_list_sort ?body (ksk_l1 _ _)))
 case body=>
  show wpAny (model X.prog X.w) X.A.in1.in1 (Builtin.«list.sort» ⟨[.ref h3.objs.size],[(Str.ofString "key",.ref f)]⟩) _ _ _;rw[ksk_t1];obtain⟨e1,LH⟩:∃e1,((h3.push (seqObj "list" ak.toArray 0)).update h3.objs.size (Obj.mapSeq λ_=>(#[]:Array Value))).get? h3.objs.size=some (seqObj "list" #[] e1):=⟨_,get?_update_seq hD λ_=>#[]⟩
  unfold ksk_tree;refine aac (listItems_at hD rfl ?_);refine aac (listUpdate_at hD rfl ?_ (by rw[abQ];exact zl) (acD _));refine aac (seqEpoch_at LH rfl ?_);refine aac (wpAny_newTuple ?_ (by show ak.length<=_;exact zl));refine aac (wpAny_newList ?_ (acD _));refine acR ?_;generalize Dg:((h3.push (seqObj "list" ak.toArray 0)).update h3.objs.size (Obj.mapSeq λ_=>(#[]:Array Value))).push (seqObj "tuple" ak.toArray 0)=h6;have z6:h6.objs.size=s.heap.objs.size+3:=by rw[<- Dg,size_push',aeC,size_push',z3]
  have k6:∀b o,s.heap.get? b=some o->h6.get? b=some o:=λb o e=>by
   have bI:=aba e;rw[<- Dg];refine aad _ ?_;rw[adS _ _ _ _ (ab6 (acn bI (by rw[z3];exact ad6 _)))];exact aad _ (k3 b o e)
  have ZS:h6.get? h3.objs.size=some (seqObj "list" #[] e1):=by rw[<- Dg];exact aad _ LH
  generalize hDe:h3.objs.size=D at *;generalize Tn:h6.objs.size=kS at *;have fD:=I.oN (H':=λ_=>none) (b:=D) (by lia) rfl;have fK:=I.oN (H':=λ_=>none) (b:=kS) (by lia) rfl;have FF:D≠kS:=by lia
  have CZ:∀{H:Hp}{s':Shared}{b:Addr}{o:Obj},gg X ((f,kla_obj "<lambda>" q args body sc [(y,c)] pm c' fV)::af) (λ_=>none) b->H b=none->s'.heap.get? b=some o->(∀v,o.data≠.cell v)->
    s'.heap.get? b=some o/\H b=none/\b≠X.env.locals/\b∉X.fs/\∀v,o.data≠.cell v:=λF a b d=>⟨b,a,F.2.1,F.2.2.1,d⟩
  have J0:Inv X ((kS,seqObj "list" (List.map Value.ref []).toArray 0)::(D,seqObj "list" #[] e1)::(f,kla_obj "<lambda>" q args body sc [(y,c)] pm c' fV)::af) σ H2 { s with heap:=h6.push (seqObj "list" #[] 0) }:=by
   have J:=I.kept (h':=h6.push (seqObj "list" #[] 0)) (t':=s.toks) λb o e=>aad _ (k6 b o e)
   refine J.qf λp hp=>?_
   rcases aaG.mp hp with rfl|hp
   .exact CZ fK (I.aC.fresh (by lia)) (by rw[<- Tn];exact abb _ rfl) (λv z=>by cases z)
   .rcases aaG.mp hp with rfl|hp
    .exact CZ fD (I.aC.fresh (by lia)) (aad _ ZS) (λv z=>by cases z)
    .exact J.pin p (aaQ _ hp)
  unfold ksk_rest;refine aac (ady ?_);rw[List.forIn_toArray];refine aac (ksk_fold (λi s'=>∃(H:Hp) (qs:List Addr) (e:Nat),Inv X ((kS,seqObj "list" (qs.map Value.ref).toArray e)::(D,seqObj "list" #[] e1)::(f,kla_obj "<lambda>" q args body sc [(y,c)] pm c' fV)::af) σ H s'/\aG H2 H/\
   Paired (λk n=>b8 X.K H k [.int (pr n).1,.int (pr n).2]) qs (ns.take i)) ak 0 _ ⟨H2,[],0,J0,aG.refl _,.nil⟩ (λi u s' hu hI=>?_) λs' hI=>?_)
  .rw[adX] at hI ⊢;obtain⟨H,qs,e,J,sm,pd⟩:=hI;obtain⟨n,t,en,rfl⟩:=IntsAre.at hi hu;have ln:=Paired.length pd;have Kn:i<ns.length:=(ace.mp en).1;rw[adK] at ln;refine aac (adV (acC (SX (A:=X.A.in1.in1) (v0:=.int n) (E:=λ_ _=>False) J S (aas _ (aas _ aah)) (sm _ _ hc) m6 hj hv nI ⟨t,rfl⟩ rfl rfl uZ (hb f c' s' H) (ht s' H sm n (ad1 en))) (λk ly hk=>?_) λ_ _ z=>z.elim));obtain⟨v,H',J',rv,k',rfl,sq,vD⟩:=hk;obtain rfl:k=.ref k':=rv;have pk:=(J'.pin _ (aaQ _ aah))
   have ea:((qs.map Value.ref).toArray).push (.ref k')=((qs++[k']).map Value.ref).toArray:=by simp
   obtain⟨c2,Eo⟩:∃c2,(ly.heap.update kS (Obj.mapSeq (·.push (.ref k')))).get? kS=some (seqObj "list" ((qs++[k']).map Value.ref).toArray c2):=⟨_,by rw[<- ea];exact get?_update_seq pk.1 (·.push (.ref k'))⟩
   dsimp only;refine aac (listUpdate_at pk.1 rfl ?_ (by rw[abQ,List.length_map,ln,aeh];lia) (ac9 (Nat.le_of_eq (adG ..)) (by rw[abQ,List.length_map,ln,aeh];lia)));refine aaC ⟨rfl,H',qs++[k'],c2,?_,sm.trans vD,?_⟩
   .have J1:Inv X ((D,seqObj "list" #[] e1)::(f,kla_obj "<lambda>" q args body sc [(y,c)] pm c' fV)::af) σ H' ly:=J'.qf λp hp=>J'.pin p (aaQ _ (aas _ hp))
    have J2:=J1.turned (h':=ly.heap.update kS (Obj.mapSeq (·.push (.ref k')))) (t':=ly.toks) (it:=kS) (λb o n e=>(adS _ _ _ _ n).trans e) pk.2.1 fK.2.1 fK.2.2.2.1 fK.2.2.2.2.1 λp hp=>by
     rcases ab3.mp hp with hp|hp
     .exact fK.2.2.2.2.2 p (acf _ hp)
     .rcases aaG.mp hp with rfl|hp
      .exact FF
      .exact fK.2.2.2.2.2 p (aaQ _ hp)
    refine J2.qf λp hp=>?_
    rcases aaG.mp hp with rfl|hp
    .exact CZ fK pk.2.1 Eo (λv z=>by cases z)
    .exact J2.pin p (aaQ _ hp)
   .rw[List.take_succ,en];exact Paired.Zj (Paired.zc pd λk n r=>by
     rcases r with(r|⟨o,r⟩)|r
     .exact .inl (.inl (vD _ _ r))
     .exact .inl (.inr ⟨o,vD _ _ r⟩)
     .exact .inr r) sq
  .rw[adX] at hI;obtain⟨H,qs,e,J,sm,pd⟩:=hI;rw[li,aeD] at pd;have lq:qs.length=ns.length:=Paired.length pd;have pk:=(J.pin _ (aaQ _ aah))
   have pD:=(J.pin _ (aaQ _ (aas _ aah)))
   refine aac (listItems_at pk.1 rfl ?_);have pp:∀{l:List Int}{qs:List Addr},Paired (λk n=>b8 X.K H k [.int (pr n).1,.int (pr n).2]) qs l->Paired (IsPair s'.heap) qs (l.map pr):=by
    intro l qs r
    induction r with
    |nil=>exact .nil
    |cons r _ ih=>
     refine .cons ?_ ih;obtain⟨it,rv,tp,_⟩:=J.tuple r;obtain⟨t,u,rfl⟩:=Xd rv;exact⟨t,u,tp⟩
   refine PR (by lia) (by rw[lq,li]) (pp pd) nd pk.1 pD.1 FF λq2 P2 S2=>?_
   rw[li] at P2 S2;have ql:∀i∈q2.toList,i<ns.length:=λi m=>by
    have:=(adq.mp P2).mem_iff.mp m;simpa using this
   refine⟨_,rfl,aaC ⟨_,rfl,?_⟩⟩;have J1:Inv X af σ H s':=J.qf λp hp=>J.pin p (aaQ _ (aas _ (aas _ (aas _ hp))))
   have np:∀{b:Addr},gg X ((f,kla_obj "<lambda>" q args body sc [(y,c)] pm c' fV)::af) (λ_=>none) b->∀p∈X.pn++af,p.1≠b:=λF p hp=>F.2.2.2.2.2 p ((ab3.mp hp).elim (λz=>acf _ z) λz=>aaQ _ (aas _ z))
   have J2:=J1.turned (h':=s'.heap.update kS (Obj.mapSeq λ_=>#[])) (t':=s'.toks) (it:=kS) (λb o n e=>(adS _ _ _ _ n).trans e) pk.2.1 fK.2.1 fK.2.2.2.1 fK.2.2.2.2.1 (np fK);have J3:=J2.turned (h':=(s'.heap.update kS (Obj.mapSeq λ_=>#[])).update D (Obj.mapSeq λ_=>(q2.toList.map λi=>ak.getD i Value.none).toArray)) (t':=s'.toks) (it:=D) (λb o n e=>(adS _ _ _ _ n).trans e) pD.2.1 fD.2.1 fD.2.2.2.1 fD.2.2.2.2.1 (np fD);have WI:=get?_update_seq (h:=s'.heap.update kS (Obj.mapSeq λ_=>#[])) ((adS _ _ _ _ FF).trans pD.1) λ_=>(q2.toList.map λi=>ak.getD i Value.none).toArray
   refine⟨.ref D,upd H D (.lst ((q2.toList.map λi=>ns.getD i 0).map V.int)),J3.QT (e:=D) (u:=.lst ((q2.toList.map λi=>ns.getD i 0).map V.int)) pD.2.1 ⟨?_,fD.2.1,fD.2.2.2.2.1,np fD⟩ ⟨?_,_,_,LM hi _ ql,WI⟩,rfl,hQ _ D _ (λb o e=>?_) ?_ bL (aa5 P2) ?_⟩
   .exact aex (by have:=I.sz;lia)
   .rw[List.length_map,List.length_map,ab2,aW.sz P2,aeh];lia
   .rw[aN (cD (sm b o e) pD.2.1)];exact sm b o e
   .cases e:H2 D with
    |none=>rfl
    |some o=>have:=sm D o e;rw[pD.2.1] at this;cases this
   .rw[ac6];intro i k hi hk U8;have hq:∀i,i<ns.length->(hx:i<(q2.toList.map λi=>ns.getD i 0).length)->pr ((q2.toList.map λi=>ns.getD i 0)[i])=(ns.map pr).getD (q2.getD i 0) (0,0):=λi hi hx=>by
     have hs:i<q2.size:=by rw[aW.sz P2];exact hi
     have bI:=aW.lt P2 hi;rw[List.getElem_map,getD_at hs];rw[getD_at hs] at bI;simp[acs,bI]
    have hz:(q2.toList.map λi=>ns.getD i 0).length=ns.length:=by rw[List.length_map,ab2,aW.sz P2]
    rw[hq i (by lia) hi,hq k (by lia) hk];exact S2 i k U8 (by lia)
def Od(K:PySem.W.Frag)(j:Nat)(te:Addr->Addr->Shared->Hp->TE)(σ:St)(Q:VK)(x:V)(H1:Hp):Prop:=∃(p:Addr) (ns:List Int) (pr:Int->Int×Int) (v1:V),x=.ref p/\bG K H1 p (ns.map V.int)/\ns.length<64/\(ns.map pr).Nodup/\σ[j]? = some (some v1)/\
 (∀f c' s H3,aG H1 H3->∀n∈ns,te f c' s H3 [some (.int n),some v1] H3 λv H4=>∃k,v=.ref k/\b8 K H4 k [.int (pr n).1,.int (pr n).2]/\aG H3 H4)/\
 ∀(Hf:Hp) (D:Addr) (bR:List Int),aG H1 Hf->H1 D=none->Hf D=some (.lst (bR.map V.int))->bR.Perm ns->bR.Pairwise (λa b=>lex (pr a) (pr b)=true)->Q (.ref D) Hf
def U0(K:PySem.W.Frag)(j:Nat)(ta:TE)(te:Addr->Addr->Shared->Hp->TE):TE:=λσ H Q=>ta σ H (Od K j te σ Q)
theorem Y6(hm:X.mg "sorted"=none)(ha:PE X a ta)(S:wj sc args x y)(lk:X.K.lookup f0=some o0)(sh:r_ o0=some (X.env.code,q,ig))(hq:X.env.qual++"<lambda>"=q)(mW:closureFor sc X.env=pure [(y,c)])
  (m6:X.env.cells.lookup y=some c) (hj:X.N[j]? = some y) (nI:X.env.scope.names.lookup y=some .cell) (uZ:X.A.in1.in1.depth<recursionLimit) (hb:∀f c' s H,PE (qe X X.A.in1.in1 x y q sc f (.ref c') [(y,c)] s H) body (te f c' s H))
  (vz:defaultsOf args X.env=([],[]):=by rfl) (hg:Gl X "sorted":=by rfl) (hs:starEach [a] X.env=[(false,eval a X.env)]:=by rfl)
  (h1:backTo pos (starEach [a] X.env)=(false,eval a X.env)::backTo pos (starEach [] X.env):=by rfl) (h2:(backTo pos (starEach [a] X.env)).any (·.1)=false:=by rfl)
  (h3:(backToKw pos (keywordEach [⟨some "key",.Lambda args body sc ig,kp⟩] X.env)).all (·.1.isSome)=true:=by rfl) (h4:(backToKw pos (keywordEach [⟨some "key",.Lambda args body sc ig,kp⟩] X.env)).any (·.1.isNone)=false:=by rfl)
  (h5:(backToKw pos (keywordEach [⟨some "key",.Lambda args body sc ig,kp⟩] X.env)).filterMap (·.1)=[("key":Str)]:=by rfl) :
  PE X (.Call (.Name "sorted" p) [a] [⟨some "key",.Lambda args body sc ig,kp⟩] pos) (U0 X.K j ta te):=by
 intro af s σ H Q I h;refine adt (ku I hg hm (show bootBuiltins "sorted"=some (.builtin "sorted") by decide +kernel) ?_ (by decide) (by decide));refine callWith_kw ?_ h1 h2 h3 h4;rw[h5];refine aL (cH ha dU hs pos af s σ H (λvs H1=>match vs with|[x]=>Od X.K j te σ Q x H1|_=>False) I h) λus s1 ⟨vs,H1,I1,rv,q1⟩=>?_
 rcases vs with _|⟨x,_|⟨x2,r2⟩⟩
 .exact q1.elim
 .obtain⟨u,rfl,ru⟩:=vals1 rv;obtain⟨p,ns,pr,v1,rfl,lW,eK,nd,hv,ht,hQ⟩:=q1;cases ru;refine kws_cons (Zn (clos:=[(y,c)]) I1 lk sh vz mW hq λf c' fV pm H' s' J sm hc=>kws_nil ?_);refine Th J S hc m6 hj hv nI uZ hb (lW.elim (λz=>.inl (z.elim (λz=>.inl (sm _ _ z)) λ⟨o,z⟩=>.inr ⟨o,sm _ _ z⟩)) .inr) eK nd (λs H3 vD=>ht f c' s H3 (sm.trans vD)) λHf D bR s1 n1=>hQ Hf D bR (sm.trans s1) ?_
  cases e:H1 D with
  |none=>rfl
  |some o=>have:=sm D o e;rw[n1] at this;cases this
 .exact q1.elim
end
end L2
namespace L2.Ev
open PySem PySem.Spec PyProof.Rows
section
variable{pr:Int->Int×Int}
def qX(pr:Int->Int×Int)(x:Int):List Int->List Int
 |[]=>[x]
 |y::r=>if lex (pr x) (pr y)=true then x::y::r else y::qX pr x r
def gF(pr:Int->Int×Int):List Int->List Int
 |[]=>[]
 |x::r=>qX pr x (gF pr r)
theorem Er(x:Int):∀l:List Int,(qX pr x l).Perm (x::l)
 |[]=>.refl _
 |y::r=>by
  unfold qX
  split
  .exact .refl _
  .exact((Er x r).cons y).trans (.swap x y r)
theorem ug:∀l:List Int,(gF pr l).Perm l
 |[]=>.refl _
 |x::r=>(Er x (gF pr r)).trans ((ug r).cons x)
theorem lex_trans{a b c:Int×Int}(h:lex a b=true)(g:lex b c=true):lex a c=true:=by
 have h:=aaR h;have g:=aaR g;exact abU (by lia)
theorem Yc{a b:Int×Int}(h:a≠b)(g:¬lex a b=true):lex b a=true:=by
 have n2:¬(a.1=b.1/\a.2=b.2):=λz=>h (Prod.ext z.1 z.2)
 have g:¬(a.1<b.1\/a.1=b.1/\a.2<b.2):=λz=>g (abU z)
 exact abU (by omega)
theorem Mh(x:Int):∀{l:List Int},(∀y∈l,pr x≠pr y)->l.Pairwise (λa b=>lex (pr a) (pr b)=true)->(qX pr x l).Pairwise (λa b=>lex (pr a) (pr b)=true)
 |[],_,_=>List.pairwise_singleton _ _
 |y::r,n,h=>by
  obtain⟨h1,h2⟩:=ac1.mp h;unfold qX
  split
  .rename_i hx;exact ac1.mpr ⟨λz m=>(aaG.mp m).elim (λe=>e ▸ hx) λm=>lex_trans hx (h1 z m),h⟩
  .rename_i hx;refine ac1.mpr ⟨λz m=>?_,Mh x (λy m=>n y (aas _ m)) h2⟩;rcases aaG.mp ((Er x r).mem_iff.mp m) with e|m
   .rw[e];exact Yc (n y aah) hx
   .exact h1 z m
theorem AU:∀{l:List Int},(l.map pr).Nodup->(gF pr l).Pairwise (λa b=>lex (pr a) (pr b)=true)
 |[],_=>.nil
 |x::r,n=>by
  rw[aaz] at n;obtain⟨n1,n2⟩:=acd.mp n;exact Mh x (λy m e=>n1 (acu.mpr ⟨y,(ug r).mem_iff.mp m,e.symm⟩)) (AU n2)
theorem Vf(p:a.Perm b)(n:(b.map pr).Nodup)(s:a.Pairwise (λa b=>lex (pr a) (pr b)=true)):a=gF pr b:=by
 have q:a.Perm (gF pr b):=p.trans (ug b).symm;refine q.eq_of_pairwise (λx y _ _ h1 h2=>?_) s (AU n);have h1:=aaR h1;have h2:=aaR h2
 lia
end
noncomputable def qk(fb:EF)(dc:D)(n:Int):Option (Int×Int):=match fb [some (.int n,.own),some (dc,.sh [])] with
 |some (.tup [.int a,.int b],_)=>some (a,b)
 |_=>none
def sA(fb:EF)(dc:D)(n:Int):Int×Int:=(qk fb dc n).getD (0,0)
def AY(j:Nat)(fa fb:EF):EF:=λρ=>match fa ρ,ρ[j]? with
 |some (.lst ds,_),some (some (dc,_))=>match cM ds with
  |some ns=>if ns.length<64/\(ns.map (sA fb dc)).Nodup/\∀n∈ns,(qk fb dc n).isSome=true then some (.lst ((gF (sA fb dc) ns).map D.int),.own) else none
  |none=>none
 |_,_=>none
section
variable{X:Cx}{a body:Expr}{fa fb:EF}{p kp pos ig:Pos}{f0 c:Addr}{o0:Obj}{x y q:Str}{args:Arguments}{sc:Scope}
theorem YZ(j:Nat)(hm:X.mg "sorted"=none)(ha:FP X a fa)(S:wj sc args x y)(lk:X.K.lookup f0=some o0)(sh:r_ o0=some (X.env.code,q,ig))(uZ:X.A.in1.in1.depth<recursionLimit)
  (hb:∀f c' s H,FP (qe X X.A.in1.in1 x y q sc f (.ref c') [(y,c)] s H) body fb) (hq:X.env.qual++"<lambda>"=q:=by rfl) (mW:closureFor sc X.env=pure [(y,c)]:=by rfl)
  (m6:X.env.cells.lookup y=some c:=by rfl) (hj:X.N[j]? = some y:=by rfl) (nI:X.env.scope.names.lookup y=some .cell:=by rfl)
  (vz:defaultsOf args X.env=([],[]):=by rfl) (hg:Gl X "sorted":=by rfl) (hs:starEach [a] X.env=[(false,eval a X.env)]:=by rfl)
  (h1:backTo pos (starEach [a] X.env)=(false,eval a X.env)::backTo pos (starEach [] X.env):=by rfl) (h2:(backTo pos (starEach [a] X.env)).any (·.1)=false:=by rfl)
  (h3:(backToKw pos (keywordEach [⟨some "key",.Lambda args body sc ig,kp⟩] X.env)).all (·.1.isSome)=true:=by rfl) (h4:(backToKw pos (keywordEach [⟨some "key",.Lambda args body sc ig,kp⟩] X.env)).any (·.1.isNone)=false:=by rfl)
  (h5:(backToKw pos (keywordEach [⟨some "key",.Lambda args body sc ig,kp⟩] X.env)).filterMap (·.1)=[("key":Str)]:=by rfl) :
  FP X (.Call (.Name "sorted" p) [a] [⟨some "key",.Lambda args body sc ig,kp⟩] pos) (AY j fa fb):=by
 obtain⟨ta,pa,sa⟩:=ha;refine⟨_,Y6 (te:=λf c' s H=>(hb f c' s H).choose) hm pa S lk sh hq mW m6 hj nI uZ (λf c' s H=>(hb f c' s H).choose_spec.1) vz hg hs h1 h2 h3 h4 h5,@λH0 S' z aq ρ σ H Q d tg ok e k=>?_⟩;unfold AY at e
 split at e
 .rename_i ds t1 dc t2 e1 e2
  split at e
  .rename_i ns pS
   split at e
   .rename_i hc;cases e;obtain⟨eK,nd,hk⟩:=hc;refine sa ok e1 λH1 v fp s1 r1 g1=>?_
    obtain⟨l,xs,f',rfl,lW,rs,_⟩:=r1.dh;have ex:=oK rs pS;subst ex;obtain⟨vc,fc,Vo,rc,_⟩:=ok.sl j dc t2 e2;refine⟨l,ns,sA fb dc,vc,rfl,lW,eK,nd,Vo,λf c' s H3 s3 n mn=>?_,λHf D bR sf nD hD pm st=>?_⟩
    .obtain⟨kk,ek⟩:=aeE.mp (hk n mn);have yh:=ek;unfold qk at yh
     split at yh
     .rename_i a b tb eb;cases yh;have iF:Ok X.K H3 [] (λ_=>none) [] [some (.int n,.own),some (dc,.sh [])] [some (.int n),some vc] H3:=by
       refine⟨λi d t e=>?_,(λp m=>nomatch m),(λa j e=>nomatch e),λa o e _=>e,rfl⟩
       match i,e with
       |0,e=>cases e;exact⟨_,[],rfl,.int n,aci,λa m=>nomatch m⟩
       |1,e=>cases e;exact⟨vc,fc,rfl,(rc.same s1).same s3,λa m j e=>nomatch e⟩
       |i+2,e=>exact absurd e (by simp)
      refine(hb f c' s H3).choose_spec.2 iF eb λH4 v fp s4 r4 _=>?_
      obtain⟨w,xs,rfl,hw,fH⟩:=r4.jz;refine⟨w,rfl,?_,s4⟩;have e1:(sA fb dc n)=(a,b):=by unfold sA;rw[ek];rfl
      rw[e1];cases fH with
      |cons h1 r=>cases r with
       |cons h2 r=>cases r;cases h1;cases h2;exact hw
     .cases yh
    .have eq:=Vf pm nd st;subst eq;refine k Hf _ [D] (s1.trans sf) (.lst hD (nH _)) ⟨acd.mpr ⟨(λm=>nomatch m),aci⟩,λa m=>?_⟩;cases aat.mp m;exact s1.free nD
   .cases e
  .cases e
 .cases e
end
section
variable{K:PySem.W.Frag}{H H':Hp}
variable{κ:Type}[DecidableEq κ]
end
end L2.Ev
namespace L2
theorem bh.m{j k:Nat}{A:PySem.Around}{cm:Bool}(r:bh k A cm)(h:j<=k:=by decide):bh j A cm:=r.mono h
open PySem PySem.Spec PyProof.Rows
theorem Cf{K:PySem.W.Frag}(h:uW K=true):∀r∈gR K,gR K=[r]/\PySem.W.codeHdIn K r.1 r.2.1=true/\K.lookup r.2.1=none:=λr m=>by
 have ok:=((aaF _ _).mp h).2
 split at ok
 .rename_i e;rw[e] at m;cases m
 .rename_i r' e;rw[e] at m;cases aat.mp m;obtain⟨a,b⟩:=(aaF _ _).mp ok;exact⟨e,a,by simpa using b⟩
 .cases ok
def qL(K:PySem.W.Frag):Hp:=λb=>match gR K with
 |[r]=>if b=r.2.1 then some (.gH r.2.2.1 r.2.2.2) else none
 |_=>none
theorem Rg{P:Program}{w:World}{K:PySem.W.Frag}{mg mb:Str->Option Value}{CX:iX}{k:Nat}{fa a:Addr}{fd:FuncData}{x:Str}{sp:Sp}{aY:Shared}{vs:List Value}{ns:List Int}
  (KX:K.In aY.heap) (uM:uW K=true) (tX:∀r∈gR K,aY.heap.get? r.2.1=some (PySem.W.tabObj #[])) (pS:aY.heap.Ns mainGlobals mg) (hb:aY.heap.Ns builtinsNs mb) (Ox:∀x:Str,x≠"__name__"->mb x=bootBuiltins x) (UW:aY.heap.NoLimit)
  (QZ:∃bm ob,mg "__builtins__"=some (.ref bm)/\bm≠builtinsNs/\aY.heap.get? bm=some ob/\ob.cls=.type "module"/\ob.dict=some builtinsNs/\ob.data=.plain) (hg:aY.gens=#[])
  (ha:aY.heap.get? a=some { cls:=.type "list",data:=.seq vs.toArray }) (hi:IntsAre vs ns) (hl:ns.length<=sizeLine) (hr:bh k callerA)
  (F:∀base:Heap,K.In base->base.Ns mainGlobals mg->bT P w K mg base CX k fa fd [x] sp) (Sz:∀(s:Shared) (u:Value),BindsTo s fd ⟨[u],[]⟩ [(x,u)])
  (ny:∀H:Hp,Ev.nA K H a (ns.map V.int)->sp [.ref a] H (λv _=>v=.bl true) λ_ _ _=>False) (Ef:∀H e s',CX [] H aY (λ_ _ _=>False) e s'->False) :
  codeAny (model P w) callerA (.call (.ref fa) ⟨[.ref a],[]⟩) (λr s'=>r=.ok (.ret (.bool true))/\OldK aY.heap s'.heap/\s'.os=aY.os/\AllBare s'.gens) aY:=by
 have rv:=Ad hi;have Ti:=hi.length;have tab_of:∀{b:Addr}{u:HO},qL K b=some u->∃r∈gR K,b=r.2.1/\u=.gH r.2.2.1 r.2.2.2:=λ{b u} e=>by
  unfold qL at e
  split at e
  .rename_i r er;obtain⟨h,e⟩:=ci e;cases e;exact⟨r,by rw[er];exact List.mem_singleton_self r,h,rfl⟩
  .cases e
 have Nf:∀r∈gR K,qL K r.2.1=some (.gH r.2.2.1 r.2.2.2):=λr m=>by
  unfold qL;rw[(Cf uM r m).1];exact if_pos rfl
 have na:∀r∈gR K,r.2.1≠a:=λr m z=>by
  have:=tX r m;rw[z,ha] at this;cases this
 have core:∀H:Hp,Ev.nA K H a (ns.map V.int)->(∀b u,H b=some u->(b=a/\K.lookup a=none/\u=.c_ { cls:=.type "list",data:=.seq vs.toArray } (.lst (ns.map V.int)))\/∃r∈gR K,b=r.2.1/\u=.gH r.2.2.1 r.2.2.2)->(∀r∈gR K,H r.2.1=some (.gH r.2.2.1 r.2.2.2))->
   codeAny (model P w) callerA (.call (.ref fa) ⟨[.ref a],[]⟩) (λr s'=>r=.ok (.ret (.bool true))/\OldK aY.heap s'.heap/\s'.os=aY.os/\AllBare s'.gens) aY:=by
  intro H hS hA hL;have aC:cL P w H aY.heap:=λb u e=>by
   rcases hA b u e with⟨rfl,_,rfl⟩|⟨r,m,rfl,rfl⟩
   .exact⟨ha,by rw[List.length_map];exact hl,vs,_,rv,ha⟩
   .exact⟨#[],tX r m,.inl rfl⟩
  have free:∀{b:Addr}{o:Obj},aY.heap.get? b=some o->(∀xs n,o.data≠.seq xs n)->(∀xs,o.data≠.fields xs)->H b=none:=λ{b o} e d1 d2=>by
   cases q:H b with
   |none=>rfl
   |some u=>
    rcases hA b u q with⟨rfl,_,_⟩|⟨r,m,rfl,_⟩
    .rw[ha] at e;cases e;exact absurd rfl (d1 _ _)
    .rw[tX r m] at e;cases e;exact absurd rfl (d2 _)
  have zq:∀{b:Addr}{m:Str->Option Value},aY.heap.Ns b m->(oO aY.heap H).Ns b m:=λ{b m} ⟨o,es,ep,e,d,r⟩=>⟨o,es,ep,DR e (free e (λ_ _ z=>by rw[d] at z;cases z) λ_ z=>by rw[d] at z;cases z),d,r⟩
  have GK:K.In (oO aY.heap H):=λb o e=>DR (KX b o e) (by
   cases q:H b with
   |none=>rfl
   |some u=>
    rcases hA b u q with⟨rfl,z,_⟩|⟨r,m,rfl,_⟩
    .rw[z] at e;cases e
    .rw[(Cf uM r m).2.2] at e;cases e)
  obtain⟨bm,ob,b1,b2,b3,b4,b5,b6⟩:=QZ;have hM:Mod K mg (oO aY.heap H):=⟨GK,zq pS,⟨mb,zq hb,Ox⟩,let⟨mc,h1,h2⟩:=UW;⟨mc,zq h1,h2⟩,bm,ob,b1,b2,DR b3 (free b3 (λ_ _ z=>by rw[b6] at z;cases z) λ_ z=>by rw[b6] at z;cases z),b4,b5,b6⟩
  have e0:pq P w K mg (oO aY.heap H) callerA [] aY H:=⟨rfl,hM,λb o e=>RX e,Nat.le_of_eq (To _ _),trivial,λb hb=>absurd (show b∈([]:List Addr) from hb) (by simp),aC,.of_eq hg,⟨.inl rfl,uM,hL⟩⟩
  refine aei ((F _ GK (zq pS)).run callerA [] aY H ⟨[.ref a],[]⟩ [.ref a] [.ref a] _ _ hr e0 (Sz aY (.ref a)) (.cons rfl .nil) (ny H hS)) λr s' h=>?_
  cases r with
  |error e=>exact(Ef H e s' h).elim
  |ok fl=>
   cases fl with
   |next=>exact False.elim h
   |brk=>exact False.elim h
   |cont=>exact False.elim h
   |ret u=>
    obtain⟨v,H',os,bare,un,G6,r',q⟩:=h;have q':=q;subst q';obtain rfl:u=Value.bool true:=r';refine⟨rfl,⟨λb o e=>?_,λb o e=>un.there b o e (by simp)⟩,os,bare⟩;cases q:H b with
    |none=>exact .inl (un.keep b o e q (by intro z;exact absurd (show b∈([]:List Addr) from z) (by simp)) (by simp))
    |some u=>
     rcases hA b u q with⟨rfl,_,rfl⟩|⟨r,m,rfl,rfl⟩
     .have z2:=un.jF b _ _ q;obtain⟨e1,_⟩:=aC b _ q;obtain⟨e2,_⟩:=G6 b _ z2;rw[e] at e1;cases e1;exact .inl e2
     .have z2:=un.jE r.2.1 (.gH _ _) q;obtain⟨ps,e2,_⟩:=G6 _ _ z2;rw[tX r m] at e;cases e;exact .inr (.inl ⟨((PySem.W.codeHd_of_K KX (Cf uM r m).2.1).tab (tX r m)).isCodeTable,rfl,#[],ps,rfl,by simpa using e2⟩)
 cases hk:K.lookup a with
 |some o=>
  have e:=KX a o hk;rw[ha] at e;cases e;refine core (qL K) (.inr ⟨_,vs.toArray,_,hk,rfl,rfl,rfl,by rw[abQ,Ti];exact hl,by simpa using rv⟩) (λb u z=>.inr (tab_of z)) Nf
 |none=>
  refine core (λb=>if b=a then some (.c_ { cls:=.type "list",data:=.seq vs.toArray } (.lst (ns.map V.int))) else qL K b) (.inl ⟨{ cls:=.type "list",data:=.seq vs.toArray },if_pos rfl⟩) (λb u z=>?_) λr m=>(aa7 (na r m)).trans (Nf r m)
  by_cases hb:b=a
  .have z':=(if_pos hb).symm.trans z;cases z';exact .inl ⟨hb,hk,rfl⟩
  .exact .inr (tab_of ((aa7 hb).symm.trans z))
theorem aaJ{l:PySem.W.OpenLaw}{XP:(Str->Option Value)->Heap->Prop}{YP:World->Heap->Prop}{K:Params->PySem.W.Frag}{CX:World->iX}{sp:World->Sp}
  (hn:l.most=some n) (Ae:n<=sizeLine) (vt:d.params.defaults=[]) (hr:bh k callerA) (hY:∀(w:World) (h:Heap),YP w h->(K w.params).In h) (hT:∀(w:World) (h:Heap),YP w h->∀r∈gR (K w.params),h.get? r.2.1=some (PySem.W.tabObj #[])) (hL:∀w:World,uW (K w.params)=true)
  (F:∀(w:World) (mg:Str->Option Value) (fa:Addr) (h:Heap),(K w.params).In h->h.Ns mainGlobals mg->mg d.name=some (.ref fa)->
   ∃fd:FuncData,(∀(s:Shared) (u:Value),BindsTo s fd ⟨[u],[]⟩ [(x,u)])/\∀base:Heap,(K w.params).In base->base.Ns mainGlobals mg->bT l.prog w (K w.params) mg base (CX w) k fa fd [x] (sp w))
  (ny:∀(w:World) (H:Hp) (a:Addr) (ns:List Int),ns.length<=n->Ev.nA (K w.params) H a (ns.map V.int)->sp w [.ref a] H (λv _=>v=.bl true) λ_ _ _=>False)
  (Ef:∀(w:World) (H:Hp) (s:Shared) (e:Value) (s':Shared),CX w [] H s (λ_ _ _=>False) e s'->False) :
  PySem.W.WalkO q loose XP YP l.row.toRowW d [] (λf vs=>PySem.call f vs):=by
 refine Gk.Wu hn vt λw cY aY mg mb fa o pm cd doc a vs ns G Y ho hd nq ua AX hints hlen hg=>?_
 obtain⟨fd,hb,hF⟩:=F w mg fa _ (hY w _ Y) G.T.g ua;exact Rg (hY w _ Y) (hL w) (hT w _ Y) G.T.g G.T.b G.T.builtins G.T.nolimit G.T.bmain hg AX hints (ac9 hlen Ae) hr hF hb (λH hS=>ny w H a ns hlen hS) λH e s'=>Ef w H aY e s'
end L2
namespace L2.Ev
open PySem PySem.Spec PySem.W PyProof.Rows
structure Z where
 P:Program
 w:World
 K:Frag
 mg:Str->Option Value
 base:Heap
structure En(L:Ls)(z:Z):Prop where
 b:∀{x:Str},L.bt.contains x=true->z.mg x=none
 i:∀{x:Str}{n:Int},L.gi.lookup x=some n->∃t,z.mg x=some (.int n t)
 t:∀{x:Str}{l:List Str},L.tp.lookup x=some l->∃a,z.mg x=some (.ref a)/\LU z.K a l
 c:∀c:Str,L.cl.contains c=true->ClsAt z.K c (cA z.K c)
 m:∀{c:Str},L.cl.contains c=true->z.mg c=some (.ref (cA z.K c))
 n:∀{c a:Str},L.na.contains (c,a)=true->kQ z.K (cA z.K c) a
 ni:L.ni=true->B4 z.K=true
 g:∀{c:Str},L.ex.contains c=true->nsIn z.K mainGlobals c=some (some (.ref (cA z.K c)))
 e:∀{c:Str},L.ex.contains c=true->z.mg c=some (.ref (cA z.K c))
 x:∀{c:Str},L.xc.contains c=true->Mx z.K (cA z.K c)
 ct:∀{c:Str}{ns:List Str},L.ct.lookup c=some ns->ZL z.K ns (cA z.K c)
 kt:∀{c:Str}{tb:List (Str×Bool)},L.kt.lookup c=some tb->aag z.K tb (kv z.K c)
 ki:∀{c:Str}{p:List Str×List (Str×Bool)},L.ki.lookup c=some p->S4 z.K p.2 (p.1.map (cA z.K))
def iW(s:Stmt):List Str:=(jS s).args.map (·.arg)
theorem HE:∀{l:List Str}{us:List Value},us.map strOf=l.map some->aK (l.map V.str) us
 |[],[],_=>.nil
 |[],_::_,e=>nomatch e
 |_::_,[],e=>nomatch e
 |a::l,u::us,e=>by
  obtain⟨e1,e2⟩:=List.cons.inj e;refine .cons ?_ (HE e2);cases u<;>cases e1
  exact⟨_,rfl⟩
theorem Ss{K:Frag}(q:EO K x l=true):∃a,nsIn K mainGlobals x=some (some (.ref a))/\LU K a l:=by
 unfold EO at q
 split at q
 .rename_i a h;refine⟨a,h,?_⟩
  split at q
  .rename_i c ak n sl h1;simp only[aaF,adI,ad5] at q;exact⟨_,ak,_,h1,q.1.1,rfl,rfl,q.1.2,HE q.2⟩
  .cases q
 .cases q
theorem oi{β:Type}{y:β}:∀{l:List (Str×β)},l.lookup x=some y->(x,y)∈l
 |[],e=>nomatch e
 |(a,b)::l,e=>by
  rw[acQ] at e
  by_cases h:(x==a)=true
  .rw[h] at e;cases e;rw[eq_of_beq h];exact .head _
  .rw[show(x==a)=false by simpa using h] at e;exact .tail _ (oi e)
theorem K7{K:Frag}(h:ek K r=true):EZ K (cA K r):=by
 unfold ek at h;simp only[aaF,adI] at h;obtain⟨⟨⟨⟨⟨⟨h1,h2⟩,h3⟩,h4⟩,h5⟩,h6⟩,h7⟩:=h;exact⟨h1,h2,h3,h4,h5,h6,h7,Xg h6⟩
theorem Zm{L:Ls}{K:Frag}(X:K.In h)(G:h.Ns mainGlobals mg)(q:pH L K=true):En L ⟨P,w,K,mg,base⟩:=by
 unfold pH at q;simp only[aaF,acX,adI] at q;obtain⟨⟨⟨⟨⟨⟨qi,qx⟩,q1⟩,q2⟩,q3⟩,q4⟩,q5⟩:=q;unfold Oc at qx;simp only[aaF,acX,adI,acU] at qx;obtain⟨⟨⟨⟨x1,x2⟩,x3⟩,x4⟩,x5⟩:=qx;have cx:∀{r:Str}{C:Addr},r∈L.ex->nsIn K mainGlobals r=some (some (.ref C))->C=cA K r:=λm e=>by
  rw[x1 _ m] at e;cases e;rfl
 have cl:∀c:Str,L.cl.contains c=true->uT K c=true:=λc h=>q4 c (acU.mp h)
 refine⟨λh=>mg_none_of X G (q1 _ (acU.mp h)),λ{x n} h=>?_,λh=>?_,λc h=>?_,λ{c} h=>?_,λh=>q5 _ (acU.mp h),λh=>?_,λh=>x1 _ (acU.mp h),λh=>mg_of X G (x1 _ (acU.mp h)),λh=>OS (x2 _ (acU.mp h)),λh cn C h1 hn=>?_,λh cn b C h1 hn=>?_,λh cn b C h1 hn=>?_⟩
 .have:=q2 _ (oi h);unfold KN at this
  split at this
  .rename_i m t e;cases eq_of_beq this;exact⟨t,mg_of X G e⟩
  .cases this
 .obtain⟨a,e,t⟩:=Ss (q3 _ (oi h));exact⟨a,mg_of X G e,t⟩
 .have:=cl c h;unfold uT at this;simp only[aaF,adI] at this;obtain⟨⟨⟨⟨⟨⟨h1,h2⟩,h3⟩,h4⟩,h5⟩,_⟩,_⟩:=this;exact⟨h1,⟨h2,h3,h4,h5⟩⟩
 .have:=cl c h;unfold uT at this;simp only[aaF,adI] at this;exact mg_of X G this.1.1.1.1.1.1
 .rw[h] at qi;exact qi
 .obtain⟨⟨a1,a2⟩,a3⟩:=x3 _ (oi h);obtain⟨⟨b1,b2⟩,b3⟩:=a3 cn (acU.mp h1);cases cx b2 hn;exact QD (LO (x2 _ b1)) (LO (x2 _ a1)) b3 a2
 .obtain⟨⟨a1,a2⟩,a3⟩:=x4 _ (oi h) _ (oi h1);cases cx a1 hn;exact⟨K7 a2,a3⟩
 .obtain⟨⟨a1,a2⟩,a3⟩:=x5 _ (oi h) _ (oi h1);cases cx a1 hn;exact⟨K7 a2,a3⟩
theorem Vm{L:Ls}{K:Frag}(q:pH L K=true)(h:L.cl.contains c=true):makesIn K (cA K c)=true/\keepIn K (.ref (cA K c))=true:=by
 unfold pH at q;simp only[aaF,acX] at q;have:=q.1.2 c (acU.mp h);unfold uT at this;simp only[aaF] at this;exact⟨this.1.2,this.2⟩
theorem N_{K:Frag}{v:Option (Option Value)}(e:Aq K q v=some (fnOf x q (jS s) (f7 s) (cC s) .none .none .none .none none .none .none)):∃f,v=some (some (.ref f))/\isFn K (.ref f)=true/\GL K x q s f:=by
 unfold Aq at e
 split at e
 .rename_i a
  split at e
  .rename_i oc od fd sl h;obtain⟨hc,e⟩:=ci e;simp only[aaF] at hc;refine⟨a,rfl,hc.2,?_⟩;obtain⟨n,qn,pa,bo,sc,gl,cl,df,kw,dc,pm,an,cd,ct,bi⟩:=fd;unfold Nu at e;injection e with e;injection e with e1 e2 e3 e4 e5 e6 e7 e8 e9 GO MN e12 e13 e14 e15;subst e1 e2 e3 e4 e5 e6 e7 e8 e15;exact⟨_,_,_,_,_,_,_,_,_,h,hc.1.1,hc.1.2⟩
  .cases e
 .cases e
theorem HC{K:Frag}{tab:List (Str×Stmt)}{i:Nat}{p:Str×Stmt}(t:tab.map (look K)=tab.map want)(e:tab[i]? = some p):look K p=want p:=by
 have:=congrArg (·[i]?) t;simp only[acg,e,Option.map_some] at this;exact ab8 this
theorem BR{K:Frag}{tab:List (Str×Stmt)}(i:Nat){s:Stmt}(t:tab.map (look K)=tab.map want)(e:tab[i]? = some (Str.empty,s)):Af K (fY s) s:=by
 obtain⟨f,h,_,g⟩:=N_ (HC t e);exact⟨f,h,g⟩
theorem Of{K:Frag}{tab:List (Str×Stmt)}(i:Nat){c:Str}{s:Stmt}(t:tab.map (look K)=tab.map want)(e:tab[i]? = some (c,s))(n:(c==Str.empty)=false):GM K (cA K c) (fY s) (iI c s) s:=by
 obtain⟨f,h,i,g⟩:=N_ (HC t e);refine⟨f,?_,i,g⟩;rw[n] at h;exact h
section
variable(z:Z)(k:Nat)(c:Str)(s:Stmt)(sp:Frag->Sp)(cm:Bool:=true)
def Z.D:Prop:=∀(f:Addr) (fd:FuncData),gQ z.K (fY s) (iI c s) s f fd->bT z.P z.w z.K z.mg z.base cJ k f fd (iW s) (sp z.K) cm
def Z.N:Prop:=FN z.P z.w z.K z.mg z.base cJ k (fY s) (iW s) (sp z.K) cm
def Z.M:Prop:=MT z.P z.w z.K z.mg z.base cJ k (cA z.K c) (fY s) (iW s) (sp z.K) cm
def Z.I:Prop:=MI z.P z.w z.K z.mg z.base cJ k (cA z.K c) (iW s) (sp z.K) cm
end
section
variable{P:Program}{w:World}{K:Frag}{mg:Str->Option Value}{base:Heap}{CX:iX}{k:Nat}{C:Addr}{x:Str}{ps:List Str}{sp:Sp}{cm:Bool}
theorem FN.G(W:FN P w K mg base CX k x ps sp cm):bT P w K mg base CX k W.choose W.choose_spec.choose ps sp cm:=W.choose_spec.choose_spec.1
theorem FN.m(W:FN P w K mg base CX k x ps sp cm):mg x=some (.ref W.choose):=W.choose_spec.choose_spec.2.1
theorem FN.kp(W:FN P w K mg base CX k x ps sp cm):keepIn K (.ref W.choose)=true:=W.choose_spec.choose_spec.2.2.1
theorem FN.b(W:FN P w K mg base CX k x ps sp cm):Binds K W.choose_spec.choose ps []:=W.choose_spec.choose_spec.2.2.2
theorem MT.G(W:MT P w K mg base CX k C x ps sp cm):bT P w K mg base CX k W.choose W.choose_spec.choose ps sp cm:=W.choose_spec.choose_spec.1
theorem MT.b(W:MT P w K mg base CX k C x ps sp cm):Binds K W.choose_spec.choose ps []:=W.choose_spec.choose_spec.2.1
theorem MT.t(W:MT P w K mg base CX k C x ps sp cm):nK K C x W.choose:=W.choose_spec.choose_spec.2.2
theorem MI.G(W:MI P w K mg base CX k C ps sp cm):bT P w K mg base CX k W.choose W.choose_spec.choose ps sp cm:=W.choose_spec.choose_spec.1
theorem MI.b(W:MI P w K mg base CX k C ps sp cm):Binds K W.choose_spec.choose ps []:=W.choose_spec.choose_spec.2.1
theorem MI.M(W:MI P w K mg base CX k C ps sp cm):Mk K C W.choose:=W.choose_spec.choose_spec.2.2
end
def je(s:Stmt):List Str:=(cC s).names.filterMap λy=>if y.2 == .local||y.2 == .cell then some y.1 else none
def yw(n m:Nat)(s:Stmt):Prop:=m9 (je s) (iW s) (cC s)/\(iW s).length=n/\(je s).length=m/\n<=m
section
variable{z:Z}{k n m:Nat}{c:Str}{s:Stmt}{b:SF}{x0 x1:Str}
theorem Z.oF(S:yw n m s)(h:∀(f:Addr) (fd:FuncData) (aV:{c:Value // c=fd.code}) (A:Around) (o:List Env) (t:Shared) (H:Hp) (E:XK),bh k (A.deeper (envOfC (iI c s) (cC s) t.heap.objs.size f aV)) cm->(je s).Nodup->FS (iO cJ z.P z.w z.K z.mg z.base (je s) (iI c s) (cC s) f aV A o t H E cm).d8 (f7 s) b):
  z.D (k+1) c s (bq · (bM n m b)) cm:=by
 obtain⟨S,rfl,rfl,_⟩:=S;exact λ_ _ F=>Ao F S λaV A o t H E hr=>h _ _ aV A o t H E hr S.nd
theorem Z.oQ(S:yw n m s)(h0:(je s)[0]? = some x0)(h:∀(f:Addr) (aV:Value) (A:Around) (o:List Env) (t:Shared) (H:Hp) (E:XK),bh k (A.deeper (envOfC (iI c s) (cC s) t.heap.objs.size f aV))->(je s).Nodup->k8 im ((iO cJ z.P z.w z.K z.mg z.base (je s) (iI c s) (cC s) f aV A o t H E).d8.lF [x0]) (f7 s) b):
  z.D (k+1) c s (yi im · (runM n m b)):=by
 obtain⟨S,rfl,rfl,l⟩:=S;exact λ_ _ F=>QC F S h0 λaV A o t H E hr=>h _ aV A o t H E hr S.nd
theorem Z.oM(S:yw n m s)(h0:(je s)[0]? = some x0)(h:∀(f:Addr) (aV:Value) (A:Around) (o:List Env) (t:Shared) (H:Hp) (E:XK),bh k (A.deeper (envOfC (iI c s) (cC s) t.heap.objs.size f aV))->(je s).Nodup->k8 true ((iO cJ z.P z.w z.K z.mg z.base (je s) (iI c s) (cC s) f aV A o t H E).d8.lF [x0]) (f7 s) b):
  z.D (k+1) c s (iK · (runM n m b)):=λ_ _ F=>(Z.oQ S h0 h _ _ F).imp Z8
theorem Z.oP(S:yw n m s)(h0:(je s)[0]? = some x0)(h:∀(f:Addr) (aV:Value) (A:Around) (o:List Env) (t:Shared) (H:Hp) (E:XK),bh k (A.deeper (envOfC (iI c s) (cC s) t.heap.objs.size f aV))->(je s).Nodup->k8 false ((iO cJ z.P z.w z.K z.mg z.base (je s) (iI c s) (cC s) f aV A o t H E).d8.lF [x0]) (f7 s) b):
  z.D (k+1) c s (lJ · (runM n m b)):=λ_ _ F=>(Z.oQ S h0 h _ _ F).imp S9
end
section
variable{P:Program}{w:World}{K:Frag}{h:Heap}{mg:Str->Option Value}{base:Heap}{k:Nat}{c:Str}{s:Stmt}{sp:Frag->Sp}{cm:Bool}{tab:List (Str×Stmt)}{L:Ls}
theorem c9(X:K.In h)(G:h.Ns mainGlobals mg)(t:tab.map (look K)=tab.map want)(i:Nat)(o:Z.D ⟨P,w,K,mg,base⟩ k Str.empty s sp cm)(b:BA (fY s) (fY s) s (iW s):=by walk_at "ba")(e:tab[i]? = some (Str.empty,s):=by rfl):Z.N ⟨P,w,K,mg,base⟩ k s sp cm:=U6 X G (BR i t e) (λF=>o _ _ F) b
theorem n9(t:tab.map (look K)=tab.map want)(i:Nat)(o:Z.D ⟨P,w,K,mg,base⟩ k c s sp cm)(b:BA (fY s) (iI c s) s (iW s):=by walk_at "ba")(e:tab[i]? = some (c,s):=by rfl)(n:(c==Str.empty)=false:=by rfl):Z.M ⟨P,w,K,mg,base⟩ k c s sp cm:=Ur (Of i t e n) (λF=>o _ _ F) b
theorem SN(t:tab.map (look K)=tab.map want)(q:pH L K=true)(i:Nat)(o:Z.D ⟨P,w,K,mg,base⟩ k c s sp cm)(b:BA (fY s) (iI c s) s (iW s):=by walk_at "ba")(e:tab[i]? = some (c,s):=by rfl)(n:(c==Str.empty)=false:=by rfl)(y:fY s="__init__":=by rfl)(v:L.cl.contains c=true:=by rfl):Z.I ⟨P,w,K,mg,base⟩ k c s sp cm:=by
 have l:=Of i t e n;obtain⟨a,b'⟩:=Vm q v;obtain⟨f,e1,i,l⟩:=l;obtain⟨kp,fd,F⟩:=yg l;rw[y] at e1;exact⟨f,fd,o _ _ F,F.binds b,⟨a,e1,i,b'⟩⟩
end
section
variable{x q:Str}{st:Stmt}{ps:List Str}
theorem ba_n(n:Nat)(h:ps.length=n)(e:∀(kV doc pm:Value) (an:Option Addr) (aV ct:Value) (f:Fin n->Value),bindArgs (fnOf x q (jS st) (f7 st) (cC st) .none kV doc pm an aV ct) ⟨List.ofFn f,[]⟩=pure (ps.zip (List.ofFn f))):BA x q st ps:=λkV doc pm an aV ct us hl=>by
 obtain rfl:=hl.trans h;have:=e kV doc pm an aV ct λi=>us[(i:Nat)]
 rwa [List.ofFn_getElem] at this
end
section
variable{X:Cx}{pos:Pos}
theorem rY{x:Str}{n:Int}(h:∃t,X.mg x=some (.int n t))(hg:GD X x:=by exact⟨rfl,by decide⟩):FP X (.Name x pos) (eC (.int n)):=let⟨_,h⟩:=h;U4 h hg
end
theorem gK{X:Cx}{sc:Scope}{M:List Str}{js:List (Option Nat)}(h3:X.env.kindOf=λx=>X.env.scope.names.lookup x)(h:vK X.N X.env.scope sc M js=true):m7 X M js sc:=Yv rfl rfl h3 h
section
variable{A:Z->Prop}{k:Nat}{c:Str}{s:Stmt}{cm:Bool}
noncomputable abbrev wF{F:List D->Option D}(_:∀z,A z->z.D k c s (bq · F) cm)(z:Z):Prop:=z.N k s (bq · F) cm
noncomputable abbrev wP{F:MF}(_:∀z,A z->z.D k c s (lJ · F) cm)(z:Z):Prop:=z.N k s (lJ · F) cm
noncomputable abbrev wG{F:List D->Option D}(_:∀z,A z->z.D k c s (bq · F) cm)(z:Z):Prop:=z.M k c s (bq · F) cm
noncomputable abbrev wO{F:MF}(_:∀z,A z->z.D k c s (iK · F) cm)(z:Z):Prop:=z.M k c s (iK · F) cm
noncomputable abbrev wI{F:MF}(_:∀z,A z->z.D k c s (iK · F) cm)(z:Z):Prop:=z.I k c s (iK · F) cm
noncomputable abbrev fF{F:List D->Option D}(_:∀z,A z->z.D k c s (bq · F) cm):List D->Option D:=F
noncomputable abbrev fO{F:MF}(_:∀z,A z->z.D k c s (iK · F) cm):MF:=F
noncomputable abbrev fP{F:MF}(_:∀z,A z->z.D k c s (lJ · F) cm):MF:=F
end
end L2.Ev
namespace L2.Ev
open PySem PySem.Spec PyProof.Rows
theorem ay.setM{K:PySem.W.Frag}(rd:Rep K H d v []):∀{ds:List D}{vs:List V}{fp:List Addr} (j:Nat),ay K H ds vs fp->fp.Nodup->∃eX,ay K H (ds.set j d) (vs.set j v) eX/\eX.Nodup/\∀a∈eX,a∈fp
 |_,_,_,_,.nil,n=>⟨[],.nil,n,λ_ m=>m⟩
 |_,_,_,0,.cons r t,n=>⟨_,.cons rd t,(acv.mp n).2.1,λ_ m=>aaQ _ m⟩
 |_,_,_,j+1,.cons (f1:=f1) r t,n=>by
  obtain⟨n1,n2,n3⟩:=acv.mp n;obtain⟨f,h1,h2,h3⟩:=t.setM rd j n2;exact⟨f1++f,.cons r h1,acv.mpr ⟨n1,h2,λa m b m'=>n3 a m b (h3 b m')⟩,λa m=>ab3.mpr ((ab3.mp m).imp id (h3 a))⟩
def tL(i:Nat)(fk fv:EF):SF:=λρ=>match fv ρ,ρ[i]?,fk ρ with
 | some (d,_),some (some (.lst ds,.own)),some (.int k,_)=>(match h_ ds.length k with
  |some j=>if aI d=true then some (.nx (cz ρ i (.lst (ds.set j d)))) else none
  |none=>none)
 |_,_,_=>none
section
variable{X:Cx}{pos:Pos}
theorem OB(i:Nat){x:Str}{k v:Expr}(hk:FP X k fk)(hv:FP X v fv)(va:VA X i x:=by walk_at "va")
  (ha:∀w,assign (.Subscript (.Name x p1) k pos') X.env w=(do
   let ov <- holding [w] (eval (.Name x p1) X.env)
   let iv <- holding [w,ov] (eval k X.env)
   standAt pos'
   holding [w,ov,iv] (setItem ov iv w)
   release [w,ov,iv] []):=by intro _;rfl)
  (hs:swapsWithSole [.Subscript (.Name x p1) k pos'] v pos.line X.env=pure false:=by rfl) (hw:swappedStores [.Subscript (.Name x p1) k pos'] v X.env=pure none:=by rfl) (h1:(assignEach [.Subscript (.Name x p1) k pos'] X.env).map (·.2)=[assign (.Subscript (.Name x p1) k pos') X.env]:=by rfl) :
  dO X (.Assign [.Subscript (.Name x p1) k pos'] v pos) (tL i fk fv):=by
 obtain⟨tk,pk,sk⟩:=hk;obtain⟨tv,mJ,sv⟩:=hv;exists 25,PK mJ (Qx va.pe pk set_list ha) hs hw h1;unfold tL at e
 split at e
 .rename_i d td ds kk tkk g1 g2 g3
  split at e
  .rename_i j hj
   split at e
   .rename_i c1;cases e;refine sv ok g1 λH1 v Ip s1 rv _=>?_
    obtain rfl:=rv.aI c1;obtain⟨xv,fp,bu,r,zz⟩:=(ok.same s1).sl i _ _ g2;refine⟨xv,bu,sk (ok.same s1) g3 λH2 y R6 s2 rk _=>?_⟩;cases rk;have r':=r.same s2;have dH:=(ok.same s1).same s2;cases r' with
    | @lst a xs _ f h rs=>
     refine⟨a,xs,kk,j,rfl,rfl,h,by rw[<- rs.length];exact hj,?_⟩;have im:bH H2 (upd H2 a (.lst (xs.set j v))):=bH.upd h rfl;obtain⟨n1,n2⟩:=acd.mp zz.1;obtain⟨f',a1,a2,a3⟩:=(rs.frame (λb m=>aN λq:b=a=>n1 (q ▸ m)) im).setM ((rv.same s2).frame (λa m=>nomatch m) im) j n2;obtain⟨z',a_⟩:=dH.put g2 bu zz im (λb o n e=>by rw[aN λq:b=a=>n (q ▸ aah)];exact e) (.lst bL a1) (acd.mpr ⟨λm=>n1 (a3 a m),a2⟩) λb m=>.inl (aaG.mpr ((aaG.mp m).imp id (a3 b)))
     exact q z' σ _ a_ (.refl _ _)
   .cases e
  .cases e
 .cases e
noncomputable def IL(fa:EF):EF:=λρ=>match fa ρ with
 |some (.lst ds,.sh o)=>some (.lst ds,.sh o)
 |_=>none
theorem V3{a:Expr}{fa:EF}{p:Pos}(hm:X.mg "list"=none)(ha:FP X a fa)(hg:Gl X "list":=by rfl)(hs:starEach [a] X.env=[(false,eval a X.env)]:=by rfl):FP X (.Call (.Name "list" p) [a] [] pos) (IL fa):=by
 obtain⟨t,pa,q⟩:=ha;exists 21,pR JT hg hm (by rfl) (cH pa dU hs) (he:=hs) (hpl:=rfl);unfold IL at e
 split at e
 .rename_i ds o h;cases e;refine q ok h λH1 x f1 s1 r1 g1=>?_
  cases r1 with
  | @lst a xs _ f hq rs=>
   refine⟨a,xs,rfl,.inl (bG.of hq),λl hl=>?_⟩;have s2:aG H1 (upd H1 l (.lst xs)):=λb o e=>by rw[aN (cD e hl)];exact e
   refine k _ _ (l::f) (s1.trans s2) (.lst bL (rs.same s2)) λb m j e=>?_
   rcases aaG.mp m with q|m
   .obtain⟨⟨o,w⟩,_⟩:=ok.zd b j e;rw[q,s1.free hl] at w;cases w
   .exact g1 b (aas _ m) j e
 .cases e
end
end L2.Ev
namespace K33
open PySem L2 L2.Ev
local macro_rules | `(tactic| walk_at "s")=>`(tactic| exact ⟨⟨rfl,rfl,rfl,by decide +kernel,rfl,by decide +kernel,by decide +kernel⟩,rfl,rfl,by decide⟩)
set_option hygiene false
local macro_rules | `(tactic| exists 1,$a)=>`(tactic| exact Z.oF (by walk_at "s") fun _ _ _ _ _ _ _ _ hr nd=>by exact $a)
local macro_rules | `(tactic| exists 2,$a)=>`(tactic| exact Z.oM (by walk_at "s") rfl fun _ _ _ _ _ _ _ hr nd=>by exact $a)
local macro_rules | `(tactic| exists 3,$a)=>`(tactic| exact Z.oP (by walk_at "s") rfl fun _ _ _ _ _ _ _ hr nd=>by exact $a)
set_option hygiene true
theorem eZ{z:Z}(E:En L z):ClsAt z.K "Changes" (cA z.K "Changes"):=E.c _ rfl
theorem Pd(z:Z)(E:En L z):z.D 1 Str.empty (top 30) (uE · oj):=λ_ _ F=>F.ok ⟨rfl,rfl,rfl,by decide +kernel,rfl,by decide +kernel,by decide +kernel⟩ (λvs H Q E h=>Je h) λaV A outer s H vs Q E' hr h=>Ry (N:=["_law_left","_law_many"]) rfl (oz (eE (E.b rfl) (ah 0)) aF) AZ (xw Oj (NH PySem.F.plainAttrs_list PySem.F.slot_list_pop PySem.F.type_list_pop Uj (pQ rfl (Or.inl rfl))) (pQ rfl (Or.inl rfl))) h
def zG(z:Z):Prop:=z.N 1 (top 30) (uE · oj)
def AR:=λ(z:Z) (E:En L z)=>(by exists 1,(aM (bN 3 (xT (gp (Cj (ah 0) aF) aF) (gp aF (xT (xT aF (ah 1)) (ah 1)))) nd) (aO (bW (Cj (Cj (ah 3) aF) (ah 2))))):z.D 1 Str.empty (top 31) (bq · (bM 3 4 _)))
abbrev vg:=fF AR
def uC:=wF AR
def CJ:=λ(z:Z) (E:En L z/\uC z)=>(by obtain⟨E,p⟩:=E;exists 1,(aM (bN 1 (ko (jV (au aF (au aF (au aF (au aF (au aF (au aF (au aF (au aF aJ))))))))) (bf p.G hr.m p.m p.kp p.b (au (ah 0) (au aF (au aF aJ))))) nd) (aM (bN 2 (ko (jV (au aF (au aF (au aF aJ)))) (bf p.G hr.m p.m p.kp p.b (au (ah 0) (au aF (au aF aJ))))) nd) (aM (BG 3 (hN:=nd) (M:=["_law_k","_law_cell","_law_most"]) (js:=[none,some 0,some 2]) (gK rfl (by kernel_rfl)) rfl (rq (E.b rfl) (ah 1)) (by decide) λs3 H3 fp=>⟨(bx 0 (aaR rfl)),jL,(bf p.G hr.m p.m p.kp p.b (au (ah 1) (au (gp aF (ah 0)) (au (ah 2) aJ))))⟩) (aO (bW (WB rfl (E.b rfl) (E.b rfl) (ah 3))))))):z.D 2 Str.empty (top 32) (bq · (bM 1 4 _)))
abbrev VM:=fF CJ
def aaA:=wF CJ
def CB:=λ(z:Z) (E:En L z/\aaA z/\uC z)=>(by obtain⟨E,p,q⟩:=E;exists 1,(aM (bN 2 (jV aJ) nd) (aM (gP rfl (dM (bf p.G hr.m p.m p.kp p.b (au (ah 0) aJ))) (bx 3 nd) (aM (bN 4 (BF (jD hr) (ah 1) (ah 3) aF) nd) (aM (cU (oz (bf q.G hr.m q.m q.kp q.b (au (ah 0) (au (gp aF (ah 3)) (au aF aJ)))) aF) (aO (bN 4 (bf q.G hr.m q.m q.kp q.b (au (ah 0) (au aF (au aF aJ)))) nd)) cT) (aM (bN 5 (jV (au aF (au aF (au (bf q.G hr.m q.m q.kp q.b (au (ah 0) (au (gp aF (ah 3)) (au aF aJ)))) (au (bf q.G hr.m q.m q.kp q.b (au (ah 0) (au (gp aF (ah 3)) (au (gp (tW aF aF) aF) aJ)))) aJ))))) nd) (aM (bN 6 (ko (ah 5) (bf q.G hr.m q.m q.kp q.b (au (ah 0) (au (gp aF (ah 3)) (au aF aJ))))) nd) (aM (cU (oz (ah 6) (ah 4)) (aO (bN 6 (JJ (jV (au (gp (ah 4) aF) (au (m5 (ah 4) aF) aJ))) (QI (E.b rfl) (Fc (ah 4) (tW aF aF)))) nd)) cT) (aO (wm 2 (vQ (au (ah 3) (au (ah 4) (au (ah 6) aJ)))))))))))) (aO (nO 2)))):z.D 3 Str.empty (top 33) (bq · (bM 2 7 _)))
abbrev Xm:=fF CB
def YA:=wF CB
def Ax:=λ(z:Z) (E:En L z/\uC z/\YA z)=>(by obtain⟨E,p,q⟩:=E;exists 1,(aM (bN 2 (gp (eE (E.b rfl) (ah 1)) aF) nd) (aM (bN 3 (bf p.G hr.m p.m p.kp p.b (au (ah 0) (au aF (au (ah 2) aJ)))) nd) (aM (bN 4 Bs nd) (aM (bN 5 Bs nd) (aM (cU (uL (ah 3) aF) (aM (bN 4 (ya rfl (E.b rfl) (lS (g9 (ah 1) (m5 (ah 3) aF)) aF)) nd) (aO (cU (oz (bf p.G hr.m p.m p.kp p.b (au (ah 0) (au aF (au aF aJ)))) aF) (aO (sL 5 (jD hr) (ah 3) iY)) cT))) cT) (aM (cU (FW.ft (xZ (uL (ah 2) aF) (yd (oz (bf p.G hr.m p.m p.kp p.b (au (ah 0) (au aF (au aF aJ)))) aF)))) (aO (sL 5 (jD hr) (gp aF (bf p.G hr.m p.m p.kp p.b (au (ah 0) (au aF (au (m5 (ah 2) aF) aJ))))) iY)) cT) (aM (bN 6 (bf q.G hr.m q.m q.kp q.b (au (ah 0) (au (ah 4) aJ))) nd) (aM (gP rfl (dM (ah 6)) (oE rfl (d9 (bx 7 nd) (d9 (bx 8 nd) (d9 (bx 9 nd) nL)))) (aO (sL 4 (jD hr) (ah 7) (ah 9)))) (aM (bN 10 (JJ (jV (au (bf p.G hr.m p.m p.kp p.b (au (ah 0) (au aF (au aF aJ)))) (au (bf p.G hr.m p.m p.kp p.b (au (ah 0) (au aF (au aF aJ)))) aJ))) (bf p.G hr.m p.m p.kp p.b (au (ah 0) (au aF (au aF aJ))))) nd) (aO (X_ 6 4 (ah 10) (Ni rfl (E.b rfl) (ah 5))))))))))))):z.D 4 Str.empty (top 34) (bq · (bM 2 11 _)))
abbrev M5:=fF Ax
def RI:=wF Ax
def Dy:=λ(z:Z) (E:En L z/\zG z/\RI z)=>(by obtain⟨E,p,q⟩:=E;exists 3,(i_ (jo (bN 1 (jV aJ) nd)) (i_ (jo (XH rfl (E.b rfl) (kJ 0 p.G hr.m p.m p.kp p.b (iU (iA aF) jW)) (bx 2 nd) (aO (U7 1 (XW q.G hr.m q.m q.kp q.b (Ia (kJ 0 p.G hr.m p.m p.kp p.b (iU (iA (tW aF aF)) jW)) (iA (xT aF (ah 2)))) (au (ah 1) aJ)))))) (p8 (KJ 1)))):z.D 5 Str.empty (top 40) (lJ · (runM 1 3 _)))
abbrev abG:=fP Dy
def UU:=wP Dy
def A8:=λ(z:Z) (E:En L z)=>(by exists 1,(aM (bN 2 Bs nd) (aM (gP rfl (dM (ah 1)) (bx 3 nd) (aO (gP rfl (dM (lS (g9 (ah 0) (m5 (ah 3) aF)) aF)) (oE rfl (d9 (bx 4 nd) (d9 (bx 5 nd) (d9 (bx 6 nd) nL)))) (aO (sL 2 (jD hr) (ah 4) (ah 6)))))) (aO (nO 2)))):z.D 1 Str.empty (top 35) (bq · (bM 2 7 _)))
abbrev Ld:=fF A8
def N5:=wF A8
def Cc:=λ(z:Z) (E:En L z)=>(by exists 1,(aM (gP rfl (dM (lS (g9 (ah 0) (m5 (ah 2) aF)) aF)) (oE rfl (d9 (bx 3 nd) (d9 (bx 4 nd) (d9 (bx 5 nd) nL)))) (aO (cU (uR (BF (jD hr) (ah 1) (ah 3) aF) (ah 4)) (aO (nO 3)) cT))) (aO (bW iP))):z.D 1 Str.empty (top 36) (bq · (bM 3 6 _)))
abbrev Ai:=fF Cc
def N6:=wF Cc
def Ff:=λ(z:Z) (E:En L z)=>(by exists 1,(aO (bW (sO rfl (E.b rfl) (iV (M:=["_law_lean","_law_there"]) (js:=[none,some 1]) (gK rfl (by kernel_rfl)) rfl (dM (lS (g9 (ah 0) (m5 (ah 2) aF)) aF)) (by decide) λs3 H3 fp=>⟨(bx 0 (aaR rfl)),jL,(Qo (ah 0) (ah 1))⟩)))):z.D 1 Str.empty (top 37) (bq · (bM 3 3 _)))
abbrev za:=fF Ff
def GR:=wF Ff
def Et:=λ(z:Z) (E:En L z/\zG z/\N5 z/\N6 z/\GR z/\uC z)=>(by obtain⟨E,p,q,u,v,y⟩:=E;exists 3,(i_ (jo (bN 2 (jV aJ) nd)) (i_ (jo (bN 3 (aaV rfl (E.b rfl) (E.b rfl) (au aF (au (gp (eE (E.b rfl) (ah 1)) aF) aJ))) nd)) (i_ (jo (pX 4 (kJ 0 p.G hr.m p.m p.kp p.b (iU (iA aF) jW)) nd)) (i_ (jo (pX 5 (kJ 0 p.G hr.m p.m p.kp p.b (iU (iA (tW aF aF)) jW)) nd)) (i_ (jo (gP rfl (rq (E.b rfl) (ah 4)) (bx 6 nd) (aM (bN 7 (bf q.G hr.m q.m q.kp q.b (au (ah 1) (au (ah 2) aJ))) nd) (aM (BG 8 (hN:=nd) (M:=["_law_one","_law_specs_here","_law_row_here","_law_sheet_here"]) (js:=[none,some 1,some 2,some 7]) (gK rfl (by kernel_rfl)) rfl (dM (ah 3)) (by decide) λs3 H3 fp=>⟨(bx 0 (aaR rfl)),(qF (FW.ft (xZ (dQ (bf v.G hr.m v.m v.kp v.b (au (ah 1) (au (ah 2) (au (ah 0) aJ))))) (yd (qR (bf u.G hr.m u.m u.kp u.b (au (ah 1) (au (ah 3) (au (ah 0) aJ)))) iP))))),(ah 0)⟩) (aO (cU (uL (eE (E.b rfl) (ah 8)) aF) (aM (bN 9 (ko (ah 8) (bf y.G hr.m y.m y.kp y.b (au (ah 5) (au (gp aF (ah 6)) (au (eE (E.b rfl) (ah 8)) aJ))))) nd) (aM (wm 2 (ah 9)) (aO (AB 3 (ah 9))))) cT)))))) (p8 (KJ 2))))))):z.D 2 Str.empty (top 41) (lJ · (runM 2 10 _)))
abbrev Z6:=fP Et
def Xr:=wP Et
def Ca:=λ(z:Z) (E:En L z/\zG z/\uC z)=>(by obtain⟨E,p,q⟩:=E;exists 3,(i_ (jo (pX 3 (kJ 0 p.G hr.m p.m p.kp p.b (iU (iA (tW aF aF)) jW)) nd)) (i_ (jo (pX 4 (Ia (iA aF) (kJ 0 p.G hr.m p.m p.kp p.b (iU (iA aF) jW))) nd)) (i_ (jo (BG 5 (hN:=nd) (M:=["_law_number","_law_row_here"]) (js:=[none,some 2]) (gK rfl (by kernel_rfl)) rfl (XQ (E.b rfl) aF (gp (eE (E.b rfl) (ah 1)) aF)) (by decide) λs3 H3 fp=>⟨(bx 0 (aaR rfl)),(qF (Vg (ah 0) (ah 1))),(ah 0)⟩)) (p8 (SJ (iV (M:=["_law_number","_law_share","_law_cell"]) (js:=[none,some 4,some 3]) (gK rfl (by kernel_rfl)) rfl (dM (ah 5)) (by decide) λs3 H3 fp=>⟨(bx 0 (aaR rfl)),(qF (FW.ft (lC (uL (ah 1) aF) (mY (oz (bf q.G hr.m q.m q.kp q.b (au (ah 2) (au (gp aF (ah 0)) (au aF aJ)))) aF))))),(ah 0)⟩)))))):z.D 2 Str.empty (top 42) (lJ · (runM 3 6 _)))
abbrev V6:=fP Ca
def abF:=wP Ca
def GS:=λ(z:Z) (E:En L z)=>(by exists 2,(p8 (jo (Yh 0 (eZ E) (E.n rfl) (jV aJ)))):z.D 1 "Changes" (inClass (top 20) 0) (iK · (runM 1 1 _)))
def V_:=wI GS
def DA:=λ(z:Z) (E:En L z)=>(by exists 1,(aO (bW (rZ (lO Ky (E.b rfl) (E.b rfl) (ah 0)) (rZ (Ig (lO Ji (E.b rfl) (E.b rfl) (ah 0))) (uS (Ov (ah 1) (ah 0) (ah 2))))))):z.D 1 Str.empty (top 7) (bq · (bM 3 3 _)))
abbrev mR:=fF DA
def AJ:=wF DA
def AK:=λ(z:Z) (E:En L z)=>(by exists 1,(aO (bW (sO rfl (E.b rfl) (iV (M:=["low","high"]) (js:=[none,none]) (gK rfl (by kernel_rfl)) rfl (abO (E.b rfl) (ah 0) (HQ JR MX (ah 0))) (by decide) λs3 H3 fp=>⟨(oE rfl (d9 (bx 0 (aaR rfl)) (d9 (bx 1 (aaR rfl)) nL))),jL,(abW (ah 0) (ah 1))⟩)))):z.D 1 Str.empty (top 8) (bq · (bM 1 1 _)))
abbrev abJ:=fF AK
def NC:=wF AK
def D4:=λ(z:Z) (E:En L z)=>(by exists 1,(aO (bW (eE (E.b rfl) (MU (eZ E) (E.n rfl) (ah 0))))):z.D 1 "Changes" (inClass (top 20) 2) (bq · (bM 1 1 _)))
abbrev LR:=fF D4
def N3:=wG D4
def E3:=λ(z:Z) (E:En L z/\AJ z/\N3 z)=>(by obtain⟨E,p,q⟩:=E;exists 1,(aO (bW (bf p.G hr.m p.m p.kp p.b (au (ah 1) (au aF (au (C6 (eZ E) q.t q.G hr.m q.b (ah 0)) aJ)))))):z.D 2 "Changes" (inClass (top 20) 9) (bq · (bM 2 2 _)))
abbrev K0:=fF E3
def JU:=wG E3
def Av:=λ(z:Z) (E:En L z/\AJ z/\NC z)=>(by obtain⟨E,p,q⟩:=E;exists 1,(aM (gP rfl (dM (ah 0)) (oE rfl (d9 (bx 1 nd) (d9 (bx 2 nd) (d9 (bx 3 nd) nL)))) (aM (cU (gA (FW.ft (xZ (dQ (bf p.G hr.m p.m p.kp p.b (au (ah 1) (au aF (au (rY (E.i rfl)) aJ))))) (yd (dQ (bf p.G hr.m p.m p.kp p.b (au (ah 2) (au aF (au (rY (E.i rfl)) aJ))))))))) (aO (bW iY)) cT) (aO (cU (FW.ft (lC (gA (dQ (bf p.G hr.m p.m p.kp p.b (au (ah 3) (au aF (au (rY (E.i rfl)) aJ)))))) (mY (oz (ah 2) (ah 3))))) (aO (bW iY)) cT)))) (aO (bW (bf q.G hr.m q.m q.kp q.b (au (iV (M:=["edit"]) (js:=[none]) (gK rfl (by kernel_rfl)) rfl (dM (ah 0)) (by decide) λs3 H3 fp=>⟨(bx 0 (aaR rfl)),jL,(ko (ah 0) aF)⟩) aJ))))):z.D 2 Str.empty (top 13) (bq · (bM 1 4 _)))
abbrev OP:=fF Av
def Wz:=wF Av
def Ci:=λ(z:Z) (E:En L z/\AJ z/\NC z/\JU z/\Wz z)=>(by obtain⟨E,p,q,u,v⟩:=E;exists 1,(aM (cU (gA (dQ (bf p.G hr.m p.m p.kp p.b (au (ah 1) (au aF (au (rY (E.i rfl)) aJ)))))) (aO (bW iY)) cT) (aM (cU (FW.ft (lC (gA (dQ (sO rfl (E.b rfl) (iV (M:=["lean","self"]) (js:=[none,some 0]) (gK rfl (by kernel_rfl)) rfl (dM (ah 2)) (by decide) λs3 H3 fp=>⟨(bx 0 (aaR rfl)),jL,(kD (eZ E) u.t u.G hr.m u.b (ah 1) (au (ah 0) aJ))⟩)))) (mY (gA (dQ (bf q.G hr.m q.m q.kp q.b (au (ah 2) aJ))))))) (aO (bW iY)) cT) (aO (bW (rZ (Zr (eE (E.b rfl) (ah 3)) (rY (E.i rfl))) (uS (bf v.G hr.m v.m v.kp v.b (au (ah 3) aJ)))))))):z.D 3 "Changes" (inClass (top 20) 11) (bq · (bM 4 4 _)))
abbrev WD:=fF Ci
def Vh:=wG Ci
def An:=λ(z:Z) (E:En L z/\Vh z/\N3 z)=>(by obtain⟨E,p,q⟩:=E;exists 2,(i_ (rM (gA (dQ (kD (eZ E) p.t p.G hr.m p.b (ah 0) (au (ah 1) (au (ah 2) (au (ah 3) aJ)))))) (p8 J9) HF) (i_ (rM (NK (C6 (eZ E) q.t q.G hr.m q.b (ah 0)) (rY (E.i rfl))) (p8 J9) HF) (i_ (jo (Xa 0 (eZ E) (E.n rfl) (vQ (au (ah 1) (au (z_ (E.b rfl) (ah 2)) (au (z_ (E.b rfl) (iV (M:=["edit"]) (js:=[none]) (gK rfl (by kernel_rfl)) rfl (dM (ah 3)) (by decide) λs3 H3 fp=>⟨(bx 0 (aaR rfl)),jL,(z_ (E.b rfl) (ah 0))⟩)) aJ)))))) (p8 (Q9 (C6 (eZ E) q.t q.G hr.m q.b (ah 0))))))):z.D 4 "Changes" (inClass (top 20) 1) (iK · (runM 4 4 _)))
abbrev C4:=fO An
def Qm:=wO An
def C9:=λ(z:Z) (E:En L z/\V_ z/\Qm z)=>(by obtain⟨E,p,q⟩:=E;exists 1,(aM (bN 1 (QN (eZ E).ns p.M p.G hr.m (E.m rfl) p.b) nd) (aM (gP rfl (dM (ah 0)) (bx 2 nd) (aO (YT (Wt 1 (eZ E) q.t q.G hr.m q.b (au (lS (ah 2) aF) (au (lS (ah 2) aF) (au (lS (ah 2) aF) aJ))))))) (aO (nO 1)))):z.D 5 Str.empty (top 39) (bq · (bM 1 3 _)))
abbrev Ju:=fF C9
def UE:=wF C9
def Bb:=λ(z:Z) (E:En L z)=>(by exists 1,(aO (bW (Ud rfl (E.b rfl) (iV (M:=["slot","old","new","values"]) (js:=[none,none,none,some 0]) (gK rfl (by kernel_rfl)) rfl (dM (ah 1)) (by decide) λs3 H3 fp=>⟨(oE rfl (d9 (bx 0 (aaR rfl)) (d9 (bx 1 (aaR rfl)) (d9 (bx 2 (aaR rfl)) nL)))),(qF (uR (BF (jD hr) (ah 3) (ah 0) aF) (ah 1))),(ah 0)⟩) iP))):z.D 1 Str.empty (top 14) (bq · (bM 2 2 _)))
abbrev Ex:=fF Bb
def HK:=wF Bb
def EY:=λ(z:Z) (E:En L z)=>(by exists 1,(aO (bW (iV (M:=["slot","values"]) (js:=[none,some 0]) (gK rfl (by kernel_rfl)) rfl (dM (Ni rfl (E.b rfl) (ah 0))) (by decide) λs3 H3 fp=>⟨(bx 0 (aaR rfl)),(qF (uR (HR (jD hr) (ah 1) (ah 0)) aF)),(vQ (au (ah 0) (au (HR (jD hr) (ah 1) (ah 0)) aJ)))⟩))):z.D 1 Str.empty (top 15) (bq · (bM 1 1 _)))
abbrev Q0:=fF EY
def R8:=wF EY
def CQ:=λ(z:Z) (E:En L z/\HK z/\R8 z)=>(by obtain⟨E,p,q⟩:=E;exists 1,(aM (bN 2 (ya rfl (E.b rfl) (ah 0)) nd) (aM (gP rfl (dM (ah 1)) (bx 3 nd) (aM (bN 4 (bf p.G hr.m p.m p.kp p.b (au (ah 2) (au (ah 3) aJ))) nd) (aM (cU (VR (ah 4) iP) (aO Lz) cT) (aO (gP rfl (dM (ah 3)) (oE rfl (d9 (bx 5 nd) (d9 (bx 6 nd) (d9 (bx 7 nd) nL)))) (aO (sL 2 (jD hr) (ah 5) (ah 7)))))))) (aO (bW (bf q.G hr.m q.m q.kp q.b (au (ah 2) aJ)))))):z.D 2 Str.empty (top 12) (bq · (bM 2 8 _)))
abbrev Ww:=fF CQ
def O9:=wF CQ
def DI:=λ(z:Z) (E:En L z/\JU z)=>(by obtain⟨E,p⟩:=E;exists 1,(aM (cU (gA (dQ (kD (eZ E) p.t p.G hr.m p.b (ah 0) (au (ah 1) aJ)))) (aO Lz) cT) (aO (bW (ko (MU (eZ E) (E.n rfl) (ah 0)) (m5 (ah 1) aF))))):z.D 3 "Changes" (inClass (top 20) 10) (bq · (bM 2 2 _)))
abbrev SR:=fF DI
def Fl:=wG DI
def A7:=λ(z:Z) (E:En L z/\Fl z)=>(by obtain⟨E,p⟩:=E;exists 1,(aO (bW (gI (E.b rfl) (ko (kD (eZ E) p.t p.G hr.m p.b (ah 0) (au (ah 1) aJ)) aF)))):z.D 4 "Changes" (inClass (top 20) 5) (bq · (bM 2 2 _)))
abbrev wM:=fF A7
def Bj:=wG A7
def B3:=λ(z:Z) (E:En L z/\O9 z/\Bj z)=>(by obtain⟨E,p,q⟩:=E;exists 1,(aO (bW (bf p.G hr.m p.m p.kp p.b (au (jV aJ) (au (iV (M:=["number","changes"]) (js:=[none,some 0]) (gK rfl (by kernel_rfl)) rfl (dM (ah 1)) (by decide) λs3 H3 fp=>⟨(bx 0 (aaR rfl)),jL,(kD (eZ E) q.t q.G hr.m q.b (ah 1) (au (ah 0) aJ))⟩) aJ))))):z.D 5 Str.empty (top 21) (bq · (bM 2 2 _)))
abbrev WH:=fF B3
def Tp:=wF B3
def Fb:=λ(z:Z) (E:En L z/\Tp z)=>(by obtain⟨E,p⟩:=E;exists 1,(aO (bW (ya rfl (E.b rfl) (bf p.G hr.m p.m p.kp p.b (au (ah 0) (au (Eu (gI (E.b rfl) (ah 1)) (gI (E.b rfl) (ah 2))) aJ)))))):z.D 6 Str.empty (top 27) (bq · (bM 3 3 _)))
abbrev ZQ:=fF Fb
def Z0:=wF Fb
def B7:=λ(z:Z) (E:En L z/\Fl z)=>(by obtain⟨E,p⟩:=E;exists 1,(aO (bW (ko (kD (eZ E) p.t p.G hr.m p.b (ah 0) (au (ah 1) aJ)) aF))):z.D 4 "Changes" (inClass (top 20) 3) (bq · (bM 2 2 _)))
abbrev wC:=fF B7
def RS:=wG B7
def R1:SF:=(fQ (AY 0 (ai 1) (p6 (aA (e1 zT (gO "Changes" "rank_of" wC (ai 1) (aA (ai 0) aX))) (aA (ai 0) aX)))))
def F7:=λ(z:Z) (E:En L z/\RS z)=>(by obtain⟨E,p⟩:=E;intro f fd F;obtain⟨oc,od,kV,doc,pm,an,cd0,ct,mC,rfl,lk,_⟩:=id F.ex;exact Ao (N:=["changes","numbers"]) F ⟨rfl,rfl,rfl,by decide +kernel,rfl,by decide +kernel,by decide +kernel⟩ λaV A outer s H E' hr=>by exact(aO (bW (YZ (x:="number") (y:="changes") 0 (E.b rfl) (ah 1) ⟨rfl,rfl,rfl,by decide +kernel,rfl,rfl,by decide +kernel,λ_ _ _ _ _ _ _=>rfl⟩ lk (congrArg (λc=>some (c,_,_)) aV.2.symm) (bh.depth (k:=0) (bh.in1 (bh.in1 hr.m))) (λf c' s H=>(vQ (au (Za (kD (eZ E) p.t p.G (bh.deeper (bh.in1 (bh.in1 hr.m)) _) p.b (ah 1) (au (ah 0) aJ))) (au (ah 0) aJ))))))):z.D 8 Str.empty (top 26) (bq · (bM 2 2 R1)))
abbrev Hu:=fF F7
def Zb:=wF F7
def FJ:=λ(z:Z) (E:En L z/\HK z/\Bj z)=>(by obtain⟨E,p,q⟩:=E;exists 1,(aO (bW (FD (bf p.G hr.m p.m p.kp p.b (au (ah 1) (au (kD (eZ E) q.t q.G hr.m q.b (ah 0) (au (ah 2) aJ)) aJ))) iP))):z.D 5 Str.empty (top 28) (bq · (bM 3 3 _)))
abbrev CM:=fF FJ
def QH:=wF FJ
def Dp:=λ(z:Z) (E:En L z/\Zb z/\QH z)=>(by obtain⟨E,p,q⟩:=E;exists 1,(aM (gP rfl (dM (bf p.G hr.m p.m p.kp p.b (au (ah 0) (au (ah 2) aJ)))) (bx 3 nd) (aO (cU (dQ (bf q.G hr.m q.m q.kp q.b (au (ah 0) (au (ah 1) (au (ah 3) aJ))))) (aO (nO 3)) cT))) (aO (bW iP))):z.D 9 Str.empty (top 25) (bq · (bM 3 4 _)))
abbrev zv:=fF Dp
def W_:=wF Dp
def EA:=λ(z:Z) (E:En L z/\Fl z)=>(by obtain⟨E,p⟩:=E;exists 1,(aO (bW (gI (E.b rfl) (ko (kD (eZ E) p.t p.G hr.m p.b (ah 0) (au (ah 1) aJ)) aF)))):z.D 4 "Changes" (inClass (top 20) 4) (bq · (bM 2 2 _)))
abbrev So:=fF EA
def RQ:=wG EA
def F3:=λ(z:Z) (E:En L z/\RQ z)=>(by obtain⟨E,p⟩:=E;exists 1,(aM (bN 4 (ya rfl (E.b rfl) (iV (M:=["number"]) (js:=[none]) (gK rfl (by kernel_rfl)) rfl (dM (Eu (gI (E.b rfl) (ah 1)) (gI (E.b rfl) (ah 2)))) (by decide) λs3 H3 fp=>⟨(bx 0 (aaR rfl)),jL,(vQ (au (ah 0) (au iY aJ)))⟩)) nd) (aO (bW (iV (M:=["number","changes","here"]) (js:=[none,some 0,some 4]) (gK rfl (by kernel_rfl)) rfl (dM (ah 3)) (by decide) λs3 H3 fp=>⟨(bx 0 (aaR rfl)),(qF (dQ (sO rfl (E.b rfl) (iV (M:=["lean","here"]) (js:=[none,some 2]) (abB (by decide +kernel)) rfl (dM (kD (eZ E) p.t p.G hr.m p.b (ah 1) (au (ah 0) aJ))) (by decide) λs3 H3 fp=>⟨(bx 0 (aaR rfl)),jL,(Yp (jD hr) (ah 0) (ah 1))⟩)))),(ah 0)⟩)))):z.D 5 Str.empty (top 23) (bq · (bM 4 5 _)))
abbrev DJ:=fF F3
def SO:=wF F3
def DV:=λ(z:Z) (E:En L z/\Z0 z/\W_ z/\SO z/\Bj z)=>(by obtain⟨E,p,q,u,v⟩:=E;exists 1,(aM (bN 5 (gI (E.b rfl) (ah 2)) nd) (aM (bN 6 (gI (E.b rfl) (ah 3)) nd) (aM (bN 7 (bf p.G hr.m p.m p.kp p.b (au (ah 0) (au (ah 1) (au (ah 2) aJ)))) nd) (aM (X6 4000 (Pf (eE (E.b rfl) (ah 5)) (ah 4)) (aM (bN 8 (bf q.G hr.m q.m q.kp q.b (au (ah 0) (au (ah 7) (au (bf u.G hr.m u.m u.kp u.b (au (ah 0) (au (ah 1) (au (ah 5) (au (ah 6) aJ))))) aJ)))) nd) (aM (cU (qR (ah 8) iP) (aO (nO 5)) cT) (aM (wm 5 (ah 8)) (aM (AB 6 (ah 8)) (aO (gP rfl (dM (kD (eZ E) v.t v.G hr.m v.b (ah 0) (au (ah 8) aJ))) (oE rfl (d9 (bx 9 nd) (d9 (bx 10 nd) (d9 (bx 11 nd) nL)))) (aO (sL 7 (jD hr) (ah 9) (ah 11)))))))))) (aO (nO 5)))))):z.D 10 Str.empty (top 24) (bq · (bM 5 12 _)))
abbrev LW:=fF DV
def Vc:=wF DV
def jd(G:List D->Option D):SF:=(bO (cQ (tV (e1 (qZ "tuple") (ai 1))) (bO (cQ (jr (gU (tV (e1 (qZ "tuple") (ai 0)))) (tV (e2 iB (e1 dZ (ai 0)) (e1 dZ (ai 1))))) (fQ (eC (.bl false))) cP) (fQ (e1 qv (iE [none,some 0,some 1] (n_ (e1 dZ (ai 1))) (gN 0) lE (bP G (aA (e2 mV (ai 1) (ai 0)) (aA (e2 mV (ai 2) (ai 0)) aX))))))) cP) (bO (cQ (tV (e1 (gW "list") (ai 1))) (bO (cQ (jr (gU (tV (e1 (gW "list") (ai 0)))) (tV (e2 iB (e1 dZ (ai 0)) (e1 dZ (ai 1))))) (fQ (eC (.bl false))) cP) (fQ (e1 qv (iE [none,some 0,some 1] (n_ (e1 dZ (ai 1))) (gN 0) lE (bP G (aA (c8 (ai 1) (ai 0)) (aA (c8 (ai 2) (ai 0)) aX))))))) cP) (bO (cQ (tV (e2 iD (ai 1) (eC .aH))) (fQ (e2 iD (ai 0) (eC .aH))) cP) (bO (cQ (tV (e1 (gW "str") (ai 1))) (fQ (nQ (e1 (gW "str") (ai 0)) (e2 oEq (ai 0) (ai 1)))) cP) (fQ (nQ (e1 (gW "int") (ai 0)) (nQ (e1 ET (e1 (gW "bool") (ai 0))) (e2 oEq (ai 0) (ai 1)))))))))
def VZ:List D->Option D:=bM 2 2 (jd λ_=>none)
def MK:List D->Option D:=bM 2 2 (jd VZ)
def Fw:List D->Option D:=bM 2 2 (jd MK)
def B6:List D->Option D:=bM 2 2 (jd Fw)
abbrev mL:List D->Option D:=B6
theorem Zd{z:Z}(E:En L z)(Iz:z.mg (fY (top 43))=some (.ref f))(GN:PySem.W.keepIn z.K (.ref f)=true)(Ka:Binds z.K fd (iW (top 43)) [])(F:gQ z.K (fY (top 43)) (fY (top 43)) (top 43) f fd):bT z.P z.w z.K z.mg z.base cJ 5 f fd (iW (top 43)) (bq z.K mL):=by
 have sc:m9 ["_law_found","_law_due"] (iW (top 43)) (cC (top 43)):=⟨rfl,rfl,rfl,by decide +kernel,rfl,by decide +kernel,by decide +kernel⟩
 have st:∀(k:Nat) G,bT z.P z.w z.K z.mg z.base cJ (k+1) f fd (iW (top 43)) (bq z.K G)->bT z.P z.w z.K z.mg z.base cJ (k+1+1) f fd (iW (top 43)) (bq z.K (bM 2 2 (jd G))):=λk G Km=>Ao F sc λaV A outer s H E' hr=>(aM (cU (dQ (Ol Gn NX (E.b rfl) (E.b rfl) (ah 1))) (aM (cU (FW.ft (lC (gA (dQ (Ol Gn NX (E.b rfl) (E.b rfl) (ah 0)))) (mY (uR (eE (E.b rfl) (ah 0)) (eE (E.b rfl) (ah 1)))))) (aO (bW iY)) cT) (aO (bW (sO rfl (E.b rfl) (iV (M:=["_law_k","_law_found","_law_due"]) (gK rfl (by kernel_rfl)) rfl (rq (E.b rfl) (eE (E.b rfl) (ah 1))) (by decide) λs3 H3 fp=>⟨(bx 0 (aaR rfl)),jL,(bf Km (hr.mono (by lia)) Iz GN Ka (au (ko (ah 1) (ah 0)) (au (ko (ah 2) (ah 0)) aJ)))⟩))))) cT) (aM (cU (dQ (lO Cy (E.b rfl) (E.b rfl) (ah 1))) (aM (cU (FW.ft (lC (gA (dQ (lO Cy (E.b rfl) (E.b rfl) (ah 0)))) (mY (uR (eE (E.b rfl) (ah 0)) (eE (E.b rfl) (ah 1)))))) (aO (bW iY)) cT) (aO (bW (sO rfl (E.b rfl) (iV (M:=["_law_k","_law_found","_law_due"]) (js:=[none,some 0,some 1]) (gK rfl (by kernel_rfl)) rfl (rq (E.b rfl) (eE (E.b rfl) (ah 1))) (by decide) λs3 H3 fp=>⟨(bx 0 (aaR rfl)),jL,(bf Km (hr.mono (by lia)) Iz GN Ka (au (g9 (ah 1) (ah 0)) (au (g9 (ah 2) (ah 0)) aJ)))⟩))))) cT) (aM (cU (qR (ah 1) iP) (aO (bW (FD (ah 0) iP))) cT) (aM (cU (dQ (lO Kv (E.b rfl) (E.b rfl) (ah 1))) (aO (bW (rZ (lO Kv (E.b rfl) (E.b rfl) (ah 0)) (uS (Fc (ah 0) (ah 1)))))) cT) (aO (bW (rZ (lO Ky (E.b rfl) (E.b rfl) (ah 0)) (rZ (Ig (lO Ji (E.b rfl) (E.b rfl) (ah 0))) (uS (Fc (ah 0) (ah 1)))))))))))
 exact(st 3 _ (st 2 _ (st 1 _ (st 0 _ (S8 F sc)))))
def Dl(z:Z):Prop:=z.N 5 (top 43) (bq · mL)
def F6:=λ(z:Z) (E:En L z/\N5 z/\N6 z/\GR z)=>(by obtain⟨E,p,q,u⟩:=E;exists 1,(aM (bN 4 (Eu (ah 1) (ah 2)) nd) (aM (bN 5 (bf p.G hr.m p.m p.kp p.b (au (ah 0) (au (ah 4) aJ))) nd) (aM (bN 6 iP nd) (aM (gP rfl (dM (ah 3)) (bx 7 nd) (aO (cU (FW.ft (xZ (dQ (bf u.G hr.m u.m u.kp u.b (au (ah 0) (au (ah 4) (au (ah 7) aJ))))) (yd (qR (bf q.G hr.m q.m q.kp q.b (au (ah 0) (au (ah 5) (au (ah 7) aJ)))) iP)))) (aO (cU (FW.ft (lC (qR (ah 6) iP) (mY (uL (lS (g9 (ah 0) (m5 (ah 7) aF)) aF) (lS (g9 (ah 0) (m5 (ah 6) aF)) aF))))) (aO (bN 6 (ah 7) nd)) cT)) cT))) (aO (nO 6)))))):z.D 2 Str.empty (top 38) (bq · (bM 4 8 _)))
abbrev DO:=fF F6
def Tu:=wF F6
def Dm:=λ(z:Z) (E:En L z/\Dl z/\Tu z)=>(by obtain⟨E,p,q⟩:=E;exists 1,(aM (cU (FW.ft (lC (gA (dQ (lO Cy (E.b rfl) (E.b rfl) (ah 5)))) (mY (gA (dQ (bf p.G hr.m p.m p.kp p.b (au (GW (ah 5) (eE (E.b rfl) (ah 2))) (au (ah 2) aJ)))))))) (aO (bW iY)) cT) (aM (bN 6 (gI (E.b rfl) (ah 2)) nd) (aM (bN 7 (gI (E.b rfl) (ah 3)) nd) (aM (gP rfl (dM (IP (ah 5) (eE (E.b rfl) (ah 2)))) (bx 8 nd) (aM (bN 9 (bf q.G hr.m q.m q.kp q.b (au (ah 0) (au (ah 1) (au (ah 6) (au (ah 7) aJ))))) nd) (aM (cU (FW.ft (lC (NK (eE (E.b rfl) (ah 6)) (ah 4)) (lC (qR (ah 9) iP) (mY (gA (dQ (bf p.G hr.m p.m p.kp p.b (au (ah 8) (au (ah 9) aJ))))))))) (aO (bW iY)) cT) (aM (wm 6 (ah 9)) (aO (AB 7 (ah 9))))))) (aO (bW (Zy (R_ (eE (E.b rfl) (ah 6)) (ah 4)) (uS (FD (bf q.G hr.m q.m q.kp q.b (au (ah 0) (au (ah 1) (au (ah 6) (au (ah 7) aJ))))) iP))))))))):z.D 6 Str.empty (top 44) (bq · (bM 6 10 _)))
abbrev K2:=fF Dm
def Y5:=wF Dm
def o_law:=λ(z:Z) (E:En L z/\UU z/\Xr z/\zG z/\abF z/\UE z/\Vc z/\Y5 z/\Dl z)=>(by obtain⟨E,p,q,u,v,y,g,h,j⟩:=E;exists 1,(aM (bN 1 (aaB rfl (E.b rfl) (E.b rfl) (HQ MX JR (ah 0))) nd) (aM (BI 2 (CC 1 p.G hr.m p.m p.kp p.b aJ) nd) (aM (BI 3 (CC 1 q.G hr.m q.m q.kp q.b (au (ah 2) aJ)) nd) (aM (pX 4 (kJ 1 u.G hr.m u.m u.kp u.b (iU (iA (gp (eE (E.b rfl) (ah 3)) aF)) jW)) nd) (aM (BI 5 (CC 1 v.G hr.m v.m v.kp v.b (au (ah 2) (au (ah 3) aJ))) nd) (aM (bN 6 (GW (ah 3) (ah 4)) nd) (aM (bN 7 (IP (ah 3) (ah 4)) nd) (aM (pX 8 (R0 (iU (kJ 1 u.G hr.m u.m u.kp u.b (iU (iA aF) jW)) (iU (iA (eE (E.b rfl) (ah 7))) (iU (iA (gp (eE (E.b rfl) (ah 7)) aF)) (iU (iA aF) jW)))) (kJ 1 u.G hr.m u.m u.kp u.b (iU (iA aF) jW))) nd) (aM (bN 9 (bf y.G hr.m y.m y.kp y.b (au (ah 2) aJ)) nd) (aM (bN 10 (jV (au (gI (E.b rfl) (ah 6)) (au (gI (E.b rfl) (ah 7)) (au (gI (E.b rfl) (ah 5)) aJ)))) nd) (aM (pX 11 (kJ 1 u.G hr.m u.m u.kp u.b (iU (iA aF) jW)) nd) (aM (gP rfl (rq (E.b rfl) aF) (bx 12 nd) (aO (cU (oz (aao (RD (ah 11) (ah 12)) aF) aF) (aO (OB 10 (ah 12) (z_ (E.b rfl) (g9 (ah 10) (ah 12))))) cT))) (aM (bN 13 (V3 (E.b rfl) (ah 10)) nd) (aM (gP rfl (rq (E.b rfl) aF) (bx 14 nd) (aM (bN 15 (bf g.G hr.m g.m g.kp g.b (au (ah 9) (au (g9 (ah 10) aF) (au (g9 (ah 10) aF) (au (g9 (ah 10) aF) (au (ah 8) aJ)))))) nd) (aM (cU (gA (dQ (bf h.G hr.m h.m h.kp h.b (au (ah 2) (au (ah 6) (au (ah 7) (au (ah 5) (au (ah 8) (au (ah 15) aJ))))))))) (aO (bW iY)) cT) (aM (SS 15) (aM (cU (FW.ft (lC (gA (dQ (bf j.G hr.m j.m j.kp j.b (au (gI (E.b rfl) (g9 (ah 10) aF)) (au (ah 6) aJ))))) (mY (gA (dQ (bf j.G hr.m j.m j.kp j.b (au (gI (E.b rfl) (g9 (ah 10) aF)) (au (ah 7) aJ)))))))) (aO (bW iY)) cT) (aO (cU (gA (dQ (bf j.G hr.m j.m j.kp j.b (au (gI (E.b rfl) (g9 (ah 10) aF)) (au (ah 5) aJ))))) (aO (bW iY)) cT))))))) (aO (bW (aaj hr.units (ah 13) (ah 10)))))))))))))))))):z.D 11 Str.empty (top 45) (bq · (bM 1 16 _)))
abbrev zh:=fF o_law
end K33
namespace K33
open PySem L2 L2.Ev
theorem d7(h:f ρ=some (d,.own)):fQ f ρ=some (.rt d):=by rw[BE,h];rfl
theorem L5:mR [.int v,.int a,.int b]=some (.bl (decide (a<=v)&&decide (v<=b))):=by
 refine cX rfl (d7 ?_);show(match some (D.bl (decide (a<=v))) with|some (.bl true)=>some (D.bl (decide (v<=b)),Tag.own)|some (.bl false)=>some (.bl false,.own)|_=>none)=_;cases decide (a<=v)<;>rfl
noncomputable def iL(l:List Int):D:=.lst (l.map D.int)
noncomputable abbrev Ed:=Int×Int×Int
noncomputable def dT(p:Ed):D:=.tup [.int p.1,.int p.2.1,.int p.2.2]
def eL(E:List Ed):D:=.lst (E.map dT)
theorem sP:∀E:List Ed,aU (E.map dT)=true
 |[]=>rfl
 |p::r=>by rw[aaz];unfold aU;rw[sP r];rfl
theorem MO:∀bs:List Bool,lu (bs.map D.bl)=some bs
 |[]=>rfl
 |b::r=>by rw[aaz];unfold lu;rw[MO r];rfl
theorem Jc{bs:List Bool}:qv (.lst (bs.map D.bl))=some (.bl (bs.all id)):=by
 show(lu (bs.map D.bl)).map (λbs=>D.bl (bs.all id))=_;rw[MO];rfl
theorem pI{α β:Type}(f:α->β):∀l:List α,l.filterMap (λx=>some (f x))=l.map f
 |[]=>rfl
 |a::l=>by rw[adf,aaz];show _::_=_;rw[pI f l]
abbrev g2:GF:=gT (cW (gN 0) (cW (gN 1) k7))
theorem size_le(h:n<=10000):n<sizeLine:=by unfold sizeLine;lia
theorem La{k:Nat}(hk:k<=ds.length):cutD ds (some (k:Int)) none=ds.drop k:=by
 unfold cutD;rw[HT.BD,HT.Fx,adQ hk,adA (by rw[List.length_drop];exact aa2 _)]
theorem PU{k:Nat}(hk:k<=ds.length):cutD ds none (some (k:Int))=ds.take k:=by
 unfold cutD;rw[HT.BD,HT.Fx,adQ hk];rfl
theorem SI:cutD ds (some 1) none=ds.drop 1:=by
 cases ds with
 |nil=>rfl
 |cons a r=>exact La (by simp)
noncomputable def oJ:List Int->Bool
 |x::y::r=>decide (x<y)&&oJ (y::r)
 |_=>true
theorem Nd:∀l:List Int,((l.zip (l.drop 1)).map λp=>decide (p.1<p.2)).all id=oJ l
 |[]=>rfl
 |[_]=>rfl
 |x::y::r=>by
  have ih:=Nd (y::r);show(decide (x<y)&&(((y::r).zip ((y::r).drop 1)).map λp=>decide (p.1<p.2)).all id)=_;rw[ih];rfl
theorem EM:∀{l:List Int},l.Pairwise (· < ·)->oJ l=true
 |[],_=>rfl
 |[_],_=>rfl
 |x::y::r,h=>by
  obtain⟨h1,h2⟩:=ac1.mp h;show(decide (x<y)&&oJ (y::r))=true;rw[EM h2,abU (h1 y aah)];rfl
theorem Gq(hl:l.length<=100):abJ [iL l]=some (.bl (oJ l)):=by
 have q1:e1 (wz (some 1) none) (ai 0) [some (iL l,.sh [])]=some (iL (l.drop 1),.own):=bZ (d:=iL l) (t:=.sh []) rfl (by
  show(if aU (l.map D.int)=true then some (D.lst (cutD (l.map D.int) (some 1) none)) else none)=_;rw[if_pos (f9 l),SI,<- List.map_drop];rfl)
 have hz:yz (ai 0) (e1 (wz (some 1) none) (ai 0)) [some (iL l,.sh [])]=some (((l.zip (l.drop 1)).map λp=>D.tup [.int p.1,.int p.2]),iw [(iL l,.sh []),(iL (l.drop 1),.own)]):=by
  unfold yz;rw[q1];show(if(aU (l.map D.int)&&aU ((l.drop 1).map D.int))=true then some (((l.map D.int).zip ((l.drop 1).map D.int)).map λp=>D.tup [p.1,p.2],iw [(iL l,.sh []),(iL (l.drop 1),.own)]) else none)=_;rw[if_pos (by rw[f9,f9];rfl),List.zip_map,ac8];rfl
 refine cX rfl (d7 (bZ (mK (k:=λd=>match d with | .tup [.int a,.int b]=>some (.bl (decide (a < b))) | _=>none) hz (by rw[List.length_map,List.length_zip];exact size_le (by lia)) (λd m=>by
  obtain⟨⟨a,b⟩,mi,rfl⟩:=acu.mp m;exact nh (aD:=[some (.int a,.own),some (.int b,.own)]) rfl rfl (aZ rfl rfl OJ))) ?_))
 rw[adY,<- Nd,<- Jc,ac8];exact congrArg (λz=>qv (.lst z)) (pI (λp:Int×Int=>D.bl (decide (p.1<p.2))) _)
theorem pZ(hi:it ρ=some (ds,.sh []))(h:cg g (.sh []) f ds ρ=some (.nx ρ')):gz it g f ρ=some (.nx ρ'):=Dt hi h
theorem IW(hi:it ρ=some (ds,.sh []))(h:cg g (.sh []) f ds ρ=some (.rt r)):gz it g f ρ=some (.rt r):=HB hi h
noncomputable def inR(v a b:Int):Bool:=decide (a<=v)&&decide (v<=b)
def jP(p:Ed):Bool:=inR p.1 0 999&&inR p.2.1 0 1000000000&&inR p.2.2 0 1000000000&&!(p.2.1==p.2.2)
def tN(E:List Ed):Bool:=E.all jP&&oJ (E.map (·.1))
abbrev gE:GF:=gT (cW (gN 1) (cW (gN 2) (cW (gN 3) k7)))
def bE:SF:=(bO (cQ (gU (pY (tV (bP mR (aA (ai 1) (aA (eC (.int 0)) (aA (eC (.int 999)) aX))))) (tV (bP mR (aA (ai 2) (aA (eC (.int 0)) (aA (eC (.int 1000000000)) aX))))))) (fQ (eC (.bl false))) cP) (cQ (jr (gU (tV (bP mR (aA (ai 3) (aA (eC (.int 0)) (aA (eC (.int 1000000000)) aX)))))) (tV (e2 oEq (ai 2) (ai 3)))) (fQ (eC (.bl false))) cP))
theorem yY(h:ai i ρ=some (.int v,t)):tV (bP mR (aA (ai i) (aA (eC (.int a)) (aA (eC (.int b)) aX)))) ρ=some (inR v a b):=
 cV (cN (ps:=[(.int v,t),(.int a,.own),(.int b,.own)]) (by rw[bA,h];rfl) L5)
def rE(L:D)(a b c:Int):aE:=[some (L,.sh []),some (.int a,.own),some (.int b,.own),some (.int c,.own)]
theorem b_E{L:D}:bE (rE L a b c)=some (if jP (a,b,c)=true then .nx (rE L a b c) else .rt (.bl false)):=by
 have w1:tV (bP mR (aA (ai 1) (aA (eC (.int 0)) (aA (eC (.int 999)) aX)))) (rE L a b c)=some (inR a 0 999):=yY rfl;have w2:tV (bP mR (aA (ai 2) (aA (eC (.int 0)) (aA (eC (.int 1000000000)) aX)))) (rE L a b c)=some (inR b 0 1000000000):=yY rfl;have w3:tV (bP mR (aA (ai 3) (aA (eC (.int 0)) (aA (eC (.int 1000000000)) aX)))) (rE L a b c)=some (inR c 0 1000000000):=yY rfl;have w4:tV (e2 oEq (ai 2) (ai 3)) (rE L a b c)=some (b==c):=rfl;have c1:=wA w1 w2;have c2:=mH (show gU (tV (bP mR (aA (ai 3) (aA (eC (.int 0)) (aA (eC (.int 1000000000)) aX))))) (rE L a b c)=some (!inR c 0 1000000000) by rw[CP,w3];rfl) w4;unfold bE jP;rw[jx,fN,CP,c1];cases inR a 0 999<;>cases inR b 0 1000000000<;>try rfl
 show qJ _ (cP _)=_;rw[qg,oY,fN,c2];cases inR c 0 1000000000<;>cases(b==c)<;>rfl
theorem Nb{L:D}:∀{E:List Ed}{s1 s2 s3:Slot},∃xA SW RJ,cg gE (.sh []) bE (E.map dT) [some (L,.sh []),s1,s2,s3]=some (if E.all jP=true then .nx [some (L,.sh []),xA,SW,RJ] else .rt (.bl false))
 |[],s1,s2,s3=>⟨s1,s2,s3,rfl⟩
 |(a,b,c)::E,s1,s2,s3=>by
  obtain⟨t1,t2,t3,ih⟩:=Nb;refine⟨t1,t2,t3,?_⟩;rw[aaz];show(match bE (rE L a b c) with|some (.nx aR)=>cg gE (.sh []) bE (E.map dT) aR|some (.ct aR)=>cg gE (.sh []) bE (E.map dT) aR|some (.bk aR)=>some (.nx aR)|some (.rt r)=>some (.rt r)|some (.er raw cn aR)=>some (.er raw cn aR)|none=>none)=_;rw[b_E,List.all_cons];cases jP (a,b,c) with
  |true=>rw[if_pos rfl,Bool.true_and];exact ih
  |false=>rfl
theorem nv(h:sf ρ=some (.rt d)):bO sf sg ρ=some (.rt d):=by rw[jx,h];rfl
theorem zV{js:List (Option Nat)}{it:IF}{g:GF}{te:EF}{ρ:aE}{t:Tag}{l:List Int}{p:Int->Bool}(hi:it ρ=some (l.map D.int,t))(hl:l.length<=10000)(h:∀x∈l,ie g lE te (iR js ρ) (.int x)=some (some (.bl (p x)))):
  e1 qv (iE js it g lE te) ρ=some (.bl (l.all p),.own):=by
 have hc:=mK (js:=js) (g:=g) (tt:=lE) (te:=te) (k:=λd=>match d with | .int x=>some (.bl (p x)) | _=>none) hi (by rw[List.length_map];exact size_le hl) (λd m=>by
  obtain⟨x,mx,rfl⟩:=acu.mp m;exact h x mx)
 rw[v9,hc,zD,adY];have e:l.filterMap ((λd=>match d with|D.int x=>some (D.bl (p x))|_=>none) ∘ D.int)=(l.map p).map D.bl:=by
  rw[ac8];exact pI (λx=>D.bl (p x)) _
 rw[e,Jc,List.all_map];rfl
theorem f_are(hl:E.length<=100):OP [eL E]=some (.bl (tN E)):=by
 obtain⟨t1,t2,t3,rC⟩:=Nb (L:=eL E) (E:=E) (s1:=none) (s2:=none) (s3:=none);refine cX rfl ?_;unfold tN;cases ha:E.all jP with
 |false=>
  rw[ha] at rC;exact nv (IW rfl rC)
 |true=>
  rw[ha] at rC;refine sq (pZ rfl rC) (d7 (cN (ps:=[(iL (E.map λp:Ed=>p.1),.own)]) ?_ (Gq (l:=E.map λp:Ed=>p.1) (by rw[List.length_map];exact hl))));rw[bA,mK (js:=[none]) (g:=gN 0) (tt:=lE) (te:=e2 mV (ai 0) (eC (.int 0))) (k:=λd=>match d with | .tup [.int a,.int _,.int _]=>some (.int a) | _=>none) (it:=gj (ai 0)) (ds:=E.map dT) (t:=.sh []) rfl (by rw[List.length_map];exact size_le (by lia)) (λd m=>by
   obtain⟨⟨a,b,c⟩,mi,rfl⟩:=acu.mp m;exact nh (aD:=[some (dT (a,b,c),.sh [])]) rfl rfl rfl),adY]
  unfold iL;rw[ac8,show E.filterMap ((λd=>match d with|D.tup [.int a,.int _,.int _]=>some (D.int a)|_=>none) ∘ dT)=E.map (D.int ∘ (·.1)) from pI (λp:Ed=>D.int p.1) _];rfl
abbrev Ch:=Int×List Int×List Ed
def ent(c:Ch):D:=.tup [.int c.1,.tup (c.2.1.map D.int),.tup (c.2.2.map dT)]
def obj(C:List Ch):D:=.ins "Changes" [("entries",.lst (C.map ent))]
theorem AG(c:Ch):aI (ent c)=true:=by
 unfold ent;show aU [.int c.1,.tup (c.2.1.map D.int),.tup (c.2.2.map dT)]=true;unfold aU;unfold aU;unfold aU;unfold aU;show(aI (.int c.1)&&(aU (c.2.1.map D.int)&&(aU (c.2.2.map dT)&&true)))=true;rw[f9,sP];rfl
theorem Gw:∀C:List Ch,aU (C.map ent)=true
 |[]=>rfl
 |c::r=>by rw[aaz];unfold aU;rw[Gw r,AG];rfl
theorem Cb{F:List D->Option D}{ps:List (D×Tag)}(h:fo ρ=some (.ins cn es,t))(hm:es.lookup m=none)(hg:g ρ=some ps)(hF:F (.ins cn es::ps.map (·.1))=some d):
  gO cn m F fo g ρ=some (d,.own):=by
 unfold gO;rw[h];dsimp only;rw[if_pos ⟨rfl,hm⟩,hg,acq,hF];rfl
theorem zU(h:(mm==("entries":Str))=false):([("entries",d)]:List (Str×D)).lookup mm=none:=by simp only[List.lookup,h]
theorem aaa(C:List Ch):LR [obj C]=some (.int C.length):=cX rfl (d7 (bZ (d:=.lst (C.map ent)) rfl (by rw[sQ,List.length_map])))
theorem E6(h:ai i ρ=some (obj C,t)):gO "Changes" "many" LR (ai i) aX ρ=some (.int C.length,.own):=
 Cb h (zU (by decide)) Fe (aaa C)
theorem kL{F:List D->Option D}(h:ai i ρ=some (obj C,t))(ha:fa ρ=some (x,t2))(hF:F [obj C,x]=some d)(hm:(mm==("entries":Str))=false:=by decide):
  gO "Changes" mm F (ai i) (aA fa aX) ρ=some (d,.own):=
 Cb (ps:=[(x,t2)]) h (zU hm) (by rw[bA,ha,Fe,EB]) hF
theorem Ms(C:List Ch)(m:Int):K0 [obj C,.int m]=some (.bl (inR m 1 C.length)):=
 cX rfl (d7 (cN (ps:=[(.int m,.sh []),(.int 1,.own),(.int C.length,.own)]) (by rw[bA,bA,bA,E6 (C:=C) (t:=.sh []) rfl];rfl) L5))
def u_(n:Nat)(r:Int)(l:List Int)(E:List Ed):Bool:=inR r 0 9&&(l.all (λx=>inR x 1 n)&&oJ l)&&(decide ((E.length:Int)<=20)&&tN E)
theorem Ro(h1:fa ρ=some (.bl b,t))(h2:fb ρ=some (.bl c,.own)):nQ fa fb ρ=some (.bl (b&&c),.own):=by
 rw[F8,h1];cases b
 .rfl
 .exact h2
theorem QW{C:List Ch}{r:Int}{l:List Int}{E:List Ed}(hl:l.length<=100)(hE:E.length<=100):WD [obj C,.int r,iL l,eL E]=some (.bl (u_ C.length r l E)):=by
 have q1:=kN (yY (ρ:=[some (obj C,.sh []),some (.int r,.sh []),some (iL l,.sh []),some (eL E,.sh [])]) (i:=1) (v:=r) (a:=0) (b:=9) (t:=.sh []) rfl);have q2:=mH (kN (cV (zV (js:=[none,some 0]) (it:=gj (ai 2)) (g:=gN 0) (te:=gO "Changes" "has" K0 (ai 1) (aA (ai 0) aX)) (ρ:=[some (obj C,.sh []),some (.int r,.sh []),some (iL l,.sh []),some (eL E,.sh [])]) (t:=.sh []) (p:=λx=>inR x 1 C.length) (k_ rfl) (by lia) (λx mx=>nh (aD:=[some (.int x,.sh []),some (obj C,.sh [])]) rfl rfl (kL (C:=C) (t:=.sh []) (t2:=.sh []) rfl rfl (Ms C x)))))) (kN (cV (cN (g:=aA (ai 2) aX) (ps:=[(iL l,.sh [])]) rfl (Gq hl))));refine cX rfl ?_;unfold u_;cases h0:inR r 0 9 with
 |false=>rw[h0] at q1;exact E7 q1 (nv rfl)
 |true=>
  rw[h0] at q1;refine kF q1 ?_;cases h1:l.all λx=>inR x 1 C.length with
  |false=>rw[h1] at q2;exact E7 q2 (nv rfl)
  |true=>
   cases h2:oJ l with
   |false=>rw[h1,h2] at q2;exact E7 q2 (nv rfl)
   |true=>
    rw[h1,h2] at q2;exact kF q2 (d7 (Ro (b:=decide ((E.length:Int)<=20)) (c:=tN E) (aZ (bZ (d:=eL E) (d1:=.int E.length) (t:=.sh []) rfl (by unfold eL;rw[sQ,List.length_map])) rfl aak) (cN (ps:=[(eL E,.sh [])]) rfl (f_are hE))))
theorem P5(h1:fv ρ=some (d,t))(h2:ρ[i]? = some (some (.ins cn es,.own)))(hl:es.lookup f=some (.lst ds))(hc:(aI d&&aU ds&&decide (ds.length<sizeLine))=true):
  wD i cn f fv ρ=some (.nx (cz ρ i (.ins cn (gr f (.lst (ds++[d])) es)))):=by
 unfold wD;rw[h1,h2];dsimp only;rw[if_pos rfl,hl];dsimp only;rw[if_pos hc]
theorem JI(h:f ρ=some (.nx ρ')):lT f ρ=some (.nx ρ'):=by unfold lT;rw[h]
theorem Jl(hl:ds.length+1=n)(h:b (yN N d0 ds)=some (.rt (.tup [r,d1]))):runM n N b d0 ds=some (r,d1):=by unfold runM;rw[if_pos hl,h]
theorem Vj(hl:l.length<=100)(hE:E.length<=100)(hm:u_ C.length r l E=true)(hC:C.length<60):C4 (obj C) [.int r,iL l,eL E]=some (.int (C.length+1),obj (C++[(r,l,E)])):=by
 refine Jl rfl ?_;refine kF (kN (b:=true) (cV (Cb (ps:=[(.int r,.sh []),(iL l,.sh []),(eL E,.sh [])]) (t:=.sh [0]) rfl (zU (by decide)) rfl ((QW hl hE).trans (by rw[hm]))))) ?_;refine kF (cV (aZ (E6 (C:=C) (t:=.sh [0]) rfl) rfl (by rw[abc,aco (by lia)]))) ?_;refine sq (ρ':=[some (obj (C++[(r,l,E)]),.own),some (.int r,.sh []),some (iL l,.sh []),some (eL E,.sh [])]) ((JI (P5 (d:=ent (r,l,E)) (t:=.sh []) (es:=[("entries",.lst (C.map ent))]) (ds:=C.map ent) ?_ rfl rfl (by rw[AG,Gw,abU (by rw[List.length_map];exact size_le (by lia))];rfl))).trans ?_) ?_
 .rw[EE,bA,bA,bA,bZ (d:=iL l) (t:=.sh []) rfl G8,bZ (d:=eL E) (t:=.own) (d1:=.tup (E.map dT)) ?_ (if_pos (sP E))]
  .rfl
  .refine(mK (js:=[none]) (g:=gN 0) (tt:=lE) (te:=e1 sr (ai 0)) (k:=λd=>some d) (k_ (ds:=E.map dT) (t:=.sh []) rfl) (by rw[List.length_map];exact size_le (by lia)) (λd m=>by
    obtain⟨⟨a,b,c⟩,mx,rfl⟩:=acu.mp m;exact nh (aD:=[some (dT (a,b,c),.sh [])]) rfl rfl rfl)).trans ?_
   rw[pI (λd:D=>d),List.map_id'];rfl
 .unfold obj;rw[acF];rfl
 .show zO _ _=_;unfold zO;rw[E6 (C:=C++[(r,l,E)]) (t:=.sh [0]) rfl,ack];rfl
theorem A3(h1:-1000<=i)(h2:i<=1000):small i=true:=by
 unfold small;rw[abU (show -(2 ^ 62)<=i by lia),abU (show i<2 ^ 62 by lia)];rfl
noncomputable def cR(a:Int)(n:Nat):List Int:=(List.range n).map λi:Nat=>a+(i:Int)
theorem vO:x∈cR a n↔a<=x/\x<a+n:=by
 unfold cR;rw[acu];constructor
 .rintro⟨i,m,rfl⟩
  have:=aeQ.mp m
  lia
 .intro h;exact⟨(x-a).toNat,aeQ.mpr (by lia),by lia⟩
theorem Vy(a:Int)(n:Nat):(cR a n).Pairwise (· < ·):=by
 unfold cR;rw[aeP];exact List.pairwise_lt_range.imp (λh=>by lia)
theorem VD(h:f ρ=some (.int i,t))(h2:g ρ=some (.int j,t2))(hi:small i=true)(hj:small j=true):yM f g ρ=some ((cR i (j-i).toNat).map D.int,.own):=by
 unfold yM;rw[h,h2];dsimp only;rw[if_pos (by rw[hi,hj];rfl)];unfold cR;rw[ac8];rfl
theorem rM(p:Int->Bool)(f:Int->Int):∀l:List Int,l.filterMap (λx=>if p x=true then some (D.int (f x)) else none)=((l.filter p).map f).map D.int
 |[]=>rfl
 |a::r=>by
  rw[adf]
  by_cases hp:p a=true
  .rw[List.filter_cons_of_pos hp,if_pos hp,rM p f r];rfl
  .rw[List.filter_cons_of_neg hp,aa7 hp,rM p f r]
theorem Gs{l:List Int}{p:Int->Bool}{f:Int->Int}(hi:it ρ=some (l.map D.int,t))(hl:l.length<=10000)(h:∀x∈l,ie g tt te (iR js ρ) (.int x)=some (if p x=true then some (.int (f x)) else none)):
  iE js it g tt te ρ=some (iL ((l.filter p).map f),.own):=by
 have hc:=mK (k:=λd=>match d with | .int x=>if p x=true then some (.int (f x)) else none | _=>none) hi (by rw[List.length_map];exact size_le hl) (λd m=>by
  obtain⟨x,mx,rfl⟩:=acu.mp m;exact h x mx)
 rw[hc]
 congr 3
 clear hc h hi hl;rw[adY];exact rM p f l
def lean(L:List (List Int))(m:Int):List Int:=if 1<=m then(L[(m-1).toNat]?).getD [] else[]
structure Good(L:List (List Int)):Prop where
 ln:L.length<=60
 inc:∀m,(lean L m).Pairwise (· < ·)
 bd:∀m x,x∈lean L m->1<=x/\x<m/\m<=L.length
 few:∀m,(lean L m).length<=60
noncomputable abbrev sec(C:List Ch):List (List Int):=C.map (·.2.1)
theorem Ob{α:Type}{f:α->D}{L:List α}{m:Int}{l:α}(h1:1<=m)(h2:m<=L.length)(h:L[(m-1).toNat]? = some l):bV (L.map f) (m-1)=some (f l):=by
 unfold bV h_;rw[List.length_map];rw[if_pos (by omega),if_pos (by omega),acq,acg,h];rfl
def ch(L:List Ch)(m:Int):Ch:=(L[(m-1).toNat]?).getD (0,[],[])
theorem O4{L:List Ch}{m:Int}(h1:1<=m)(h2:m<=L.length):L[(m-1).toNat]? = some (ch L m):=by
 unfold ch;rw[aau (by omega)];rfl
theorem Nq{L:List Ch}{m:Int}(h1:1<=m)(h2:m<=L.length):(ch L m).2.1=lean (sec L) m:=by
 unfold ch lean sec;rw[if_pos h1,acg,aau (by lia)];rfl
theorem A4{L:List Ch}{m:Int}(h1:1<=m)(h2:m<=L.length):SR [obj L,.int m]=some (ent (ch L m)):=
 cX rfl (kF (kN (b:=true) (cV (kL (C:=L) (t:=.sh []) (t2:=.sh []) rfl rfl ((Ms L m).trans (by unfold inR;rw[abU h1,abU h2];rfl))))) (d7 (aZ (d1:=.lst (L.map ent)) (t1:=.sh []) (d2:=.int (m-1)) (t2:=.own) rfl rfl (MJ (Ob h1 h2 (O4 h1 h2)) (AG _)))))
theorem Te{L:List Ch}{m:Int}(h1:1<=m)(h2:m<=L.length):So [obj L,.int m]=some (iL (lean (sec L) m)):=
 cX rfl (d7 (bZ (aZ (d1:=ent (ch L m)) (kL rfl rfl (A4 h1 h2)) rfl (d:=.tup ((ch L m).2.1.map D.int)) (if_pos (show aI (D.tup _)=true by simp only[aI,f9]))) (by rw[Nk,Nq h1 h2];rfl)))
def br(L:List Ch)(m:Int):List Ed:=(ch L m).2.2
theorem CI{L:List Ch}{m:Int}(h1:1<=m)(h2:m<=L.length):wM [obj L,.int m]=some (eL (br L m)):=
 cX rfl (d7 (bZ (aZ (d1:=ent (ch L m)) (kL rfl rfl (A4 h1 h2)) rfl (d:=.tup ((ch L m).2.2.map dT)) (if_pos (show aI (D.tup _)=true from sP _))) (if_pos (sP _))))
theorem u9(h:e ρ=some (.int n,t))(hs:n<=1000):n_ e ρ=some ((cR 0 n).map D.int,.own):=by
 rw[RP h (A3 (by lia) (by lia)),ad3];unfold cR;rw[ac8];rfl
theorem Jq{l:List Int}:l.any (· == m)=decide (m∈l):=by
 by_cases h:m∈l
 .rw[abU h];exact adU.mpr ⟨m,h,by simp⟩
 .rw[aco h,aew];intro e;obtain⟨y,my,ey⟩:=adU.mp e;exact h (by rw[<- (adI.mp ey)];exact my)
theorem aaT(hx:ai 0 aD=some (.int x,.sh []))(hh:fh aD=some (iL l,t)):e2 (sV false) (ai 0) fh aD=some (.bl (decide (x∈l)),.own):=
 aZ hx hh (by unfold iL;rw[Mr,aa7 abI,Jq])
theorem yC:x∈dD l↔x∈l:=(sy l).mem_iff
structure sJ(E:List Ed)(n:Nat):Prop where
 so:(E.map (·.1)).Pairwise (·<=·)
 ln:E.length<=n
theorem Fk(h:n<4096):n<sizeLine:=by unfold sizeLine;lia
def jl(es:List (Int×Int))(p:Int×Int×Int):Bool:=!((bC es p.1).getD 0==p.2.1)
def bad(es:List (Int×Int))(E:List (Int×Int×Int)):List Int:=(E.filter (jl es)).map (·.1)
noncomputable def A_:List Int->D
 |[]=>.aH
 |x::_=>.int x
theorem YL:∀{x:Int}{l:List Int},(x::l).Pairwise (·<=·)->jb (x::l)=x
 |x,l,h=>by
  obtain⟨h1,h2⟩:=C5 (l:=x::l) (by simp);have h3:=h2 x aah;rcases aaG.mp h1 with e|m
  .exact e
  .have:=(ac1.mp h).1 _ m;lia
def kW(es:List (Int×Int)):D->Option D
 |.tup [.int a,.int b,.int c]=>if jl es (a,b,c)=true then some (.int a) else none
 |_=>none
theorem SV:∀p,kW es (dT p)=if jl es p=true then some (D.int p.1) else none
 |(_,_,_)=>rfl
theorem KP{E:List (Int×Int×Int)}(hE:sJ E n)(hn:n<64)(w:List D->D)(hw:gj (ai 1) [some (aS es,.sh []),some (w (E.map dT),.sh [])]=some (E.map dT,.sh [])):Ex [aS es,w (E.map dT)]=some (A_ (bad es E)):=by
 have hc:=mK (js:=[none,none,none,some 0]) (g:=gT (cW (gN 0) (cW (gN 1) (cW (gN 2) k7)))) (tt:=tV (e2 iB (e3 lA (ai 3) (ai 0) (eC (.int 0))) (ai 1))) (te:=ai 0) (k:=kW es) hw (by rw[List.length_map];exact Fk (by have:=hE.ln;lia)) (λd m=>by
  obtain⟨⟨a,b,c⟩,mi,rfl⟩:=acu.mp m;show _=some (if jl es (a,b,c)=true then some (D.int a) else none);have ht:(tV (e2 iB (e3 lA (ai 3) (ai 0) (eC (.int 0))) (ai 1))) [some (.int a,.own),some (.int b,.own),some (.int c,.own),some (aS es,.sh [])]=some (jl es (a,b,c)):=by
   rw[uJ,nR,Ds];show Ev.kV (k2 iB ((lA (aS es) (.int a) (.int 0)).map _) _)=_;rw[Ay];rfl
  by_cases h:jl es (a,b,c)=true
  .rw[if_pos h];exact xV (aD:=[some (.int a,.own),some (.int b,.own),some (.int c,.own),some (aS es,.sh [])]) (tg:=.sh [0]) rfl (by rw[ht,h]) rfl rfl
  .rw[aa7 h];exact DG (aD:=[some (.int a,.own),some (.int b,.own),some (.int c,.own),some (aS es,.sh [])]) rfl (by rw[ht,aew.mpr h]))
 have hb:(E.map dT).filterMap (kW es)=(bad es E).map D.int:=by
  clear hc hw hE;unfold bad
  induction E with
  |nil=>rfl
  |cons p r ih=>
   rw[aaz,adf,List.filter_cons,SV]
   by_cases h:jl es p=true
   .rw[if_pos h,if_pos h];dsimp only;rw[ih];rfl
   .rw[aa7 h,aa7 h];exact ih
 rw[hb] at hc;have hs:(bad es E).Pairwise (·<=·):=by
  unfold bad;have:=hE.so;rw[aeP] at this ⊢;exact this.filter _
 refine cX rfl (d7 (aZ (d2:=.aH) hc rfl ?_));show(match cM ((bad es E).map D.int) with|some []=>if aI .aH=true then some D.aH else none|some (n::r)=>some (D.int (jb (n::r)))|none=>none)=_;rw[rG];cases e:bad es E with
 |nil=>rfl
 |cons x l=>
  dsimp only;rw[YL (by rw[<- e];exact hs)];rfl
def nJ(es:List (Int×Int)):List Int:=(dD (es.map (·.1))).filter λk=>!((bC es k).getD 0==0)
def nz(es:List (Int×Int)):List (Int×Int):=(nJ es).map λk=>(k,(bC es k).getD 0)
def kS(es:List (Int×Int)):D->Option D
 |.int i=>if(!((bC es i).getD 0==0))=true then some (dP (i,(bC es i).getD 0)) else none
 |_=>none
theorem QB(hl:es.length<4096):Q0 [aS es]=some (.lst ((nz es).map dP)):=by
 have hs:(e1 q_ (ai 0)) [some (aS es,.sh [])]=some (.lst ((dD (es.map (·.1))).map D.int),.own):=by
  rw[v9];show(q_ (aS es)).map _=_;rw[Zx (by omega)];rfl
 have hc:=mK (js:=[none,some 0]) (g:=gN 0) (tt:=tV (e2 iB (e2 oA (ai 1) (ai 0)) (eC (.int 0)))) (te:=p6 (aA (ai 0) (aA (e2 oA (ai 1) (ai 0)) aX))) (k:=kS es)
   (k_ hs) (by rw[List.length_map,yo,List.length_map];exact Fk (by omega)) (λd m=>by
  obtain⟨i,mi,rfl⟩:=acu.mp m;obtain⟨w,hw⟩:=FL.mpr (yC.mp mi);have hg:=P_ hw;show _=some (if(!((bC es i).getD 0==0))=true then some (dP (i,(bC es i).getD 0)) else none);have ht:(tV (e2 iB (e2 oA (ai 1) (ai 0)) (eC (.int 0)))) [some (.int i,.sh []),some (aS es,.sh [])]=some (!((bC es i).getD 0==0)):=by
   rw[uJ,nR,nR];show Ev.kV (k2 iB ((oA (aS es) (.int i)).map _) _)=_;rw[hg,hw];rfl
  by_cases h:(!((bC es i).getD 0==0))=true
  .rw[if_pos h];refine xV (aD:=[some (.int i,.sh []),some (aS es,.sh [])]) (tg:=.sh []) rfl (by rw[ht,h]) ?_ rfl;rw[EE,bA,bA,nR];show Option.map _ (jZ _ (jZ ((oA (aS es) (.int i)).map _) _))=_;rw[hg,hw];rfl
  .rw[aa7 h];exact DG (aD:=[some (.int i,.sh []),some (aS es,.sh [])]) rfl (by rw[ht,aew.mpr h]))
 refine(cX rfl (d7 hc)).trans ?_
 congr 2
 unfold nz nJ;generalize dD (es.map (·.1))=l;clear hs hc
 induction l with
 |nil=>rfl
 |cons x r ih=>
  rw[aaz,adf,List.filter_cons]
  by_cases h:(!((bC es x).getD 0==0))=true
  .rw[if_pos h,show kS es (.int x)=some (dP (x,(bC es x).getD 0)) from if_pos h];dsimp only;rw[ih];rfl
  .rw[aa7 h,show kS es (.int x)=none from aa7 h];exact ih
def cK(es:List (Int×Int))(E:List (Int×Int×Int)):List (Int×Int):=E.foldl (λm p=>dX m p.1 p.2.2) es
theorem sD:∀(E:List (Int×Int×Int)) (es:List (Int×Int)),(cK es E).length<=es.length+E.length
 |[],es=>aa2 _
 |p::r,es=>by
  have h:=sD r (dX es p.1 p.2.2);have h2:=DW (es:=es) (k:=p.1) (v:=p.2.2);show(cK (dX es p.1 p.2.2) r).length<=es.length+(r.length+1)
  lia
theorem B8:∀(E:List (Int×Int×Int)) (es:List (Int×Int)),(es.map (·.1)).Nodup->((cK es E).map (·.1)).Nodup
 |[],_,h=>h
 |p::r,es,h=>B8 r _ (TU h)
theorem xo:∀(E:List (Int×Int×Int)) (es:List (Int×Int)) (k:Int),(E.map (·.1)).Nodup->(∀p∈E,p.1=k->bC (cK es E) k=some p.2.2)/\(k∉E.map (·.1)->bC (cK es E) k=bC es k)
 |[],es,k,_=>⟨λp m=>(nomatch m),λ_=>rfl⟩
 |q::r,es,k,h=>by
  obtain⟨h1,h2⟩:=acd.mp h;obtain⟨a,b⟩:=xo r (dX es q.1 q.2.2) k h2;refine⟨λp m e=>?_,λm=>?_⟩
  .rcases aaG.mp m with rfl|m
   .show bC (cK (dX es p.1 p.2.2) r) k=_;rw[b (by rw[<- e];exact h1),Ba,if_pos e.symm]
   .exact a p m e
  .show bC (cK (dX es q.1 q.2.2) r) k=_;rw[aaz] at m;rw[b λx=>m (aas _ x),Ba,aa7 λx=>m (by rw[x];exact aah)]
noncomputable abbrev bQ:=List (Int×Int)
theorem tY(S:bQ->Slot->Slot->Slot->aE)(hg:∀v x y z (p:Ed),g (dT p) t (S v x y z)=some (S v (some (.int p.1,.own)) (some (.int p.2.1,.own)) (some (.int p.2.2,.own))))(hf:∀v (p:Ed),v.length<sizeLine->f (S v (some (.int p.1,.own)) (some (.int p.2.1,.own)) (some (.int p.2.2,.own)))=some (.nx (S (dX v p.1 p.2.2) (some (.int p.1,.own)) (some (.int p.2.1,.own)) (some (.int p.2.2,.own))))):
  ∀{E:List Ed}{v:bQ}{x y z:Slot},v.length+E.length<4096->∃x' y' z',cg g t f (E.map dT) (S v x y z)=some (.nx (S (cK v E) x' y' z'))
 |[],_,x,y,z,_=>⟨x,y,z,rfl⟩
 |p::E,v,x,y,z,hl=>by
  rw[acj] at hl;obtain⟨x',y',z',ih⟩:=tY S hg hf (E:=E) (v:=dX v p.1 p.2.2) (x:=some (.int p.1,.own)) (y:=some (.int p.2.1,.own)) (z:=some (.int p.2.2,.own)) (by have:=DW (es:=v) (k:=p.1) (v:=p.2.2);lia);exact⟨x',y',z',(kc (hg ..) (hf _ _ (Fk (by lia)))).trans ih⟩
def tG(S L:D)(es:List (Int×Int))(s3 s4 s5 s6 s7:Slot):aE:=[some (S,.sh []),some (L,.sh []),some (aS es,.own),s3,s4,s5,s6,s7]
abbrev Gp:GF:=gT (cW (gN 5) (cW (gN 6) (cW (gN 7) k7)))
abbrev NS:SF:=j9 2 (ai 5) (ai 7)
theorem aar:k∈nJ es↔(bC es k).getD 0≠0:=by
 unfold nJ;rw[ac2];refine⟨λh=>by simpa using h.2,λh=>⟨yC.mpr (FL.mp ?_),by simpa using h⟩⟩;cases e:bC es k with
 |none=>rw[e] at h;exact absurd rfl h
 |some v=>exact⟨v,rfl⟩
theorem Yr(h:(es.map (·.1)).Nodup):(nJ es).Nodup:=((sy _).nodup_iff.mpr h).sublist aeb
theorem Vl:(nz es).map (·.1)=nJ es:=by
 unfold nz;rw[ac8];exact List.map_id' _
theorem L8(f:Int->Int)(k:Int):∀l:List Int,bC (l.map λk=>(k,f k)) k=if k∈l then some (f k) else none
 |[]=>rfl
 |x::r=>by
  have ih:=L8 f k r;rw[aaz];unfold bC at ih ⊢;rw[acN]
  by_cases hx:x=k
  .rw[abU hx,if_pos (by rw[hx];exact aah),hx];rfl
  .rw[aco hx];dsimp only;rw[ih];have:(k∈x::r)↔k∈r:=⟨λm=>(aaG.mp m).elim (λe=>absurd e.symm hx) id,aas _⟩
   simp only[this]
theorem Sd(k:Int):(bC (nz es) k).getD 0=(bC es k).getD 0:=by
 unfold nz;rw[L8]
 by_cases h:k∈nJ es
 .rw[if_pos h];rfl
 .rw[aa7 h];have:=mt aar.mpr h;simp only[ne_eq,Decidable.not_not] at this;rw[this];rfl
theorem YC(h:(es.map (·.1)).Nodup)(k:Int):(bC (mQ (nz es)) k).getD 0=(bC es k).getD 0:=by
 rw[aae (by rw[Vl];exact Yr h),Sd]
theorem Ux(ps:List (Int×Int)):(mQ ps).length<=ps.length:=by
 have go:∀(ps m:List (Int×Int)),(ps.foldl (λm p=>dX m p.1 p.2) m).length<=m.length+ps.length:=by
  intro ps
  induction ps with
  |nil=>intro m;exact aa2 _
  |cons p r ih=>
   intro m;have h:=ih (dX m p.1 p.2);have h2:=DW (es:=m) (k:=p.1) (v:=p.2);rw[acj];show(r.foldl _ (dX m p.1 p.2)).length<=_
   lia
 have:=go ps [];rw[aek,adX] at this;exact this
theorem Zp(es:List (Int×Int)):(nz es).length<=es.length:=by
 unfold nz nJ;rw[List.length_map];exact ac9 (aeq _ _) (by rw[yo,List.length_map];exact aa2 _)
def gG:bQ->List (List Ed)->Option bQ
 |v,[]=>some v
 |v,E::r=>if bad v E=[] then gG (cK v E) r else none
abbrev Hi(Z:SF):SF:=bO (gD 4 (bP Ex (aA (ai 2) (aA (ai 3) aX)))) (bO (cQ (tV (e2 xq (ai 4) (eC .aH))) Z cP) (gz (gj (ai 3)) Gp NS))
theorem Wl{Z:SF}{S L:D}{v:bQ}{E:List Ed}{n:Nat}{s4 s5 s6 s7:Slot}(hE:sJ E n)(hn:n<64)(hb:bad v E=[])(hl:v.length<=3000):∃t5 t6 t7,Hi Z (tG S L v (some (eL E,.sh [])) s4 s5 s6 s7)=some (.nx (tG S L (cK v E) (some (eL E,.sh [])) (some (.aH,.own)) t5 t6 t7)):=by
 have hle:=hE.ln;obtain⟨t5,t6,t7,lp⟩:=tY (g:=Gp) (t:=.sh []) (f:=NS) (λv x y z=>tG S L v (some (eL E,.sh [])) (some (.aH,.own)) x y z) (λ_ _ _ _ _=>rfl) (λv p h=>yc (es:=v) (k:=p.1) (v:=p.2.2) (t1:=.sh [7]) (t2:=.sh [5]) rfl rfl rfl h) (E:=E) (v:=v) (x:=s5) (y:=s6) (z:=s7) (by lia);exact⟨t5,t6,t7,eB (d:=.aH) (cN (ps:=[(aS v,.sh [2]),(eL E,.sh [])]) rfl (by show Ex [aS v,.lst (E.map dT)]=_;rw[KP (es:=v) hE hn D.lst rfl,hb];rfl)) (sq rfl (pZ rfl lp))⟩
theorem NP{Z:SF}{S L:D}:∀{Es:List (List Ed)}{v v':bQ}{s3 s4 s5 s6 s7:Slot},(∀E∈Es,sJ E 20)->gG v Es=some v'->v.length+20*Es.length<=3000->
  ∃t3 t4 t5 t6 t7,cg (gN 3) (.sh []) (Hi Z) (Es.map eL) (tG S L v s3 s4 s5 s6 s7)=some (.nx (tG S L v' t3 t4 t5 t6 t7))/\v'.length<=v.length+20*Es.length
 |[],v,v',s3,s4,s5,s6,s7,_,h,_=>by
  cases h;exact⟨s3,s4,s5,s6,s7,rfl,by simp⟩
 |E::Es,v,v',s3,s4,s5,s6,s7,hE,h,hl=>by
  unfold gG at h;rw[acj] at hl
  by_cases hb:bad v E=[]
  .rw[if_pos hb] at h;have Kr:=hE E aah;obtain⟨t5,t6,t7,hs⟩:=Wl (Z:=Z) Kr (by lia) hb (by lia);have hp:=sD E v;have kj:=Kr.ln;obtain⟨u3,u4,u5,u6,u7,ih,ihl⟩:=NP (Z:=Z) (λE' m=>hE E' (aas _ m)) h (by lia);refine⟨u3,u4,u5,u6,u7,?_,by rw[acj];lia⟩;rw[aaz,kc rfl hs];exact ih
  .rw[aa7 hb] at h;cases h
def dS(ps:bQ):D:=.lst (ps.map dP)
theorem Y9{Es:List (List Ed)}(hE:∀E∈Es,sJ E 20)(h:gG [] Es=some v)(hl:Es.length<=100):Ww [.lst [],.lst (Es.map eL)]=some (dS (nz v)):=by
 obtain⟨t3,t4,t5,t6,t7,rC,mq⟩:=NP (Z:=EV) (S:=.lst []) (L:=.lst (Es.map eL)) (s3:=none) (s4:=none) (s5:=none) (s6:=none) (s7:=none) hE h (by simp;lia);exact cX rfl (eB (d:=aS []) (t:=.own) rfl (sq (pZ (ds:=Es.map eL) rfl rC) (d7 (cN (ps:=[(aS v,.sh [2])]) rfl (QB (by simp at mq;lia))))))
structure uG(w:List D->D):Prop where
 it:∀{ρ:aE}{i:Nat}{ds:List D}{o:List Nat},ai i ρ=some (w ds,.sh o)->gj (ai i) ρ=some (ds,.sh o)
theorem wL:uG D.lst:=⟨λ{ρ i ds o} h=>by unfold gj;rw[h]⟩
theorem wT:uG D.tup:=⟨λ{ρ i ds o} h=>by unfold gj;rw[h]⟩
noncomputable def dR(w:List D->D)(row:List Int):D:=w (row.map D.int)
def gw(C:List Ch)(row:List Int):List (List Ed):=row.map (br C)
theorem Q5{C:List Ch}{w:List D->D}(W:uG w){row:List Int}(hb:∀x∈row,1<=x/\x<=C.length)(hl:row.length<=100):(iE [none,some 0] (gj (ai 1)) (gN 0) lE (gO "Changes" "edits_of" wM (ai 1) (aA (ai 0) aX))) [some (obj C,.sh []),some (dR w row,.sh [])]=some (.lst ((gw C row).map eL),.own):=by
 have hc:=mK (js:=[none,some 0]) (it:=gj (ai 1)) (ρ:=[some (obj C,.sh []),some (dR w row,.sh [])]) (g:=gN 0) (tt:=lE) (te:=gO "Changes" "edits_of" wM (ai 1) (aA (ai 0) aX)) (k:=λd=>match d with | .int x=>some (eL (br C x)) | _=>none) (W.it (o:=[]) rfl) (by rw[List.length_map];exact size_le (by lia)) (λd m=>by
  obtain⟨x,mx,rfl⟩:=acu.mp m;obtain⟨h1,h2⟩:=hb x mx;exact nh (aD:=[some (.int x,.sh []),some (obj C,.sh [])]) rfl rfl (kL rfl rfl (CI h1 h2)))
 rw[hc,adY];unfold gw;rw[ac8];rw[show(row.filterMap ((λd=>match d with|D.int x=>some (eL (br C x))|_=>none) ∘ D.int))=row.map (λx=>eL (br C x)) from pI _ _];rfl
structure GoodC(C:List Ch):Prop where
 ld:Good (sec C)
 ed:∀m,sJ (br C m) 20
 sl:∀m,∀p∈br C m,0<=p.1/\p.1<=999
 nd:∀m,((br C m).map (·.1)).Nodup
 nb:∀m,∀p∈br C m,0<=p.2.2/\p.2.2<=1000000000
theorem R9(g:GoodC C)(row:List Int):∀E∈gw C row,sJ E 20:=λE m=>by
 obtain⟨x,_,rfl⟩:=acu.mp m;exact g.ed x
theorem YW{C:List Ch}{w:List D->D}(W:uG w){row:List Int}{v:bQ}(g:GoodC C)(hb:∀x∈row,1<=x/\x<=C.length)(hl:row.length<=100)(h:gG [] (gw C row)=some v):WH [obj C,dR w row]=some (dS (nz v)):=
 cX rfl (d7 (cN (ps:=[(.lst [],.own),(.lst ((gw C row).map eL),.own)]) (by rw[bA,bA];show jZ _ (jZ (iE _ _ _ _ _ [some (obj C,.sh []),some (dR w row,.sh [])]) _)=_;rw[Q5 W hb hl];rfl) (Y9 (R9 g row) h (by unfold gw;rw[List.length_map];exact hl))))
theorem qj(h:ρ[i]? = some (some (iL ls,.own)))(hm:fm ρ=some (.int m,t))(h0:0<m):
  ∃(v:Int) (dz:List Int),0<=v/\v<m/\xM i oj (oB (xP fm) ur) ρ=some (.int v,cz ρ i (iL dz)):=by
 obtain⟨v,dz,h1,h2,h3⟩:=Qg ls h0;exact⟨v,dz,h1,h2,abS h (vI (vC hm rfl) LK) h h3⟩
def Wq(Q:Out->Prop)(o:Option Out):Prop:=∃r,o=some r/\Q r
section
variable{Q:Out->Prop}{ρ ρ':aE}{f:EF}{tf:TF}{sf sg:SF}{d:D}{t:Tag}{i j:Nat}{b:Bool}
theorem p_(h:sf ρ=some (.nx ρ'))(k:Wq Q (sg ρ')):Wq Q (bO sf sg ρ):=let⟨x,e,p⟩:=k;⟨x,sq h e,p⟩
theorem wn(h:sf ρ=some (.nx ρ'))(k:Wq Q (sg ρ')):Wq Q (bO (lT sf) sg ρ):=p_ (JI h) k
theorem fU(h:f ρ=some (d,t))(k:Wq Q (sg (jI ρ i d t))):Wq Q (bO (gD i f) sg ρ):=p_ (by rw[yP,h];rfl) k
theorem x8(h:f ρ=some (d,t))(k:Wq Q (sg (jI ρ i d t))):Wq Q (bO (lT (gD i f)) sg ρ):=wn (by rw[yP,h];rfl) k
theorem CL(h:ρ[i]? = some (some (iL ls,.own)))(hm:fm ρ=some (.int m,t))(h0:0<m)(k:∀(v:Int) (dz:List Int),0<=v->v<m->Wq Q (sg ((cz ρ i (iL dz)).set j (some (.int v,.own))))):Wq Q (bO (lT (su j (xM i oj (oB (xP fm) ur)))) sg ρ):=
 let⟨v,dz,a,b,x⟩:=qj h hm h0;wn (wo x) (k v dz a b)
theorem dg(ρ':aE)(k:Wq Q (sg ρ'))(e:ρ=ρ':=by rfl):Wq Q (sg ρ):=e ▸ k
theorem qQ(h:tf ρ=some b)(h1:b=true->Wq Q (sf ρ))(h2:b=false->Wq Q (sg ρ)):Wq Q (cQ tf sf sg ρ):=by
 rw[fN,h];cases b with
 |true=>exact h1 rfl
 |false=>exact h2 rfl
theorem zE(I:Nat->aE->Prop)(h0:I 0 ρ)(st:∀j ρ d,ds[j]? = some d->I j ρ->∃aD,g d (.sh []) ρ=some aD/\Wq (λr=>∃aR,r=.nx aR/\I (j+1) aR) (sf aD)):∃ρ',cg g (.sh []) sf ds ρ=some (.nx ρ')/\I ds.length ρ':=by
 obtain⟨ρ',lp,h⟩:=Gr I h0 (λj ρ d hd h=>by
  rw[adX] at h ⊢;obtain⟨aD,e1,_,e2,aR,rfl,h2⟩:=st j ρ d hd h;exact⟨aD,aR,e1,.inl e2,h2⟩)
 rw[adX] at h;exact⟨ρ',lp,h⟩
theorem P7(I:Nat->aE->Prop)(hi:it ρ=some (ds,.own))(h0:I 0 ρ)(st:∀j ρ d,ds[j]? = some d->I j ρ->∃aD,g d (.sh []) ρ=some aD/\Wq (λr=>∃aR,r=.nx aR/\I (j+1) aR) (sf aD))(k:∀ρ',I ds.length ρ'->Wq Q (sg ρ')):Wq Q (bO (gz it g sf) sg ρ):=let⟨ρ',e,h⟩:=zE (sf:=sf) I h0 st;p_ (pW hi e) (k ρ' h)
theorem SD(I:Nat->aE->Prop)(hi:it ρ=some (ds,.own))(h0:I 0 ρ)(st:∀j ρ d,ds[j]? = some d->I j ρ->∃aD,g d (.sh []) ρ=some aD/\Wq (λr=>∃aR,r=.nx aR/\I (j+1) aR) (sf aD))(k:∀ρ',I ds.length ρ'->Wq Q (sg ρ')):Wq Q (bO (lT (gz it g sf)) sg ρ):=let⟨ρ',e,h⟩:=zE (sf:=sf) I h0 st;wn (pW hi e) (k ρ' h)
theorem NJ(I:Nat->aE->Prop)(hi:it ρ=some (ds,.sh []))(h0:I 0 ρ)(st:∀j ρ d,ds[j]? = some d->I j ρ->∃aD,g d (.sh []) ρ=some aD/\Wq (λr=>∃aR,r=.nx aR/\I (j+1) aR) (sf aD))(k:∀ρ',I ds.length ρ'->Wq Q (sg ρ')):Wq Q (bO (gz it g sf) sg ρ):=let⟨ρ',e,h⟩:=zE (sf:=sf) I h0 st;p_ (pZ hi e) (k ρ' h)
theorem VB(hx:fx ρ=some (.int n,aD))(hn:n<=1000)(I:Nat->aE->Prop)(h0:I 0 aD)(st:∀j ρ,j<n->I j ρ->∃aD,g (.int j) (.sh []) ρ=some aD/\Wq (λr=>∃aR,r=.nx aR/\I (j+1) aR) (sf aD))(k:∀ρ',I n ρ'->Wq Q (sg ρ')):Wq Q (bO (lT (ym fx g sf)) sg ρ):=by
 obtain⟨ρ',e,h⟩:=zE (sf:=sf) I h0 (λj ρ d hd h=>by
  obtain⟨rfl,hj⟩:=UQ hd;exact st j ρ hj h)
 rw[List.length_map,acZ] at h;refine wn ?_ (k ρ' h);unfold ym;rw[hx];dsimp only;rw[if_pos (A3 (by lia) (by lia))];show(match cg g (.sh []) sf ((List.range n).map λi:Nat=>D.int (0+(i:Int))) aD with|some (.nx ρ')=>_|some (.rt d)=>_|some (.er raw cn ρ')=>_|_=>none)=_;rw[e]
theorem wJ{I:aE->Prop}(h:Wq (λr=>∃ρ',r=.nx ρ'/\I ρ') (sf ρ))(k:∀ρ',I ρ'->Wq Q (sg ρ')):Wq Q (bO sf sg ρ):=let⟨_,e,ρ',e2,p⟩:=h;p_ (e.trans (by rw[e2])) (k ρ' p)
theorem uA{P:D->Prop}(hl:ds.length=n)(h:Wq (λr=>∃d,r=.rt d/\P d) (B (F5 N ds))):∃d,bM n N B ds=some d/\P d:=let⟨_,e,d,h,p⟩:=h;⟨d,cX hl (e.trans (by rw[h])),p⟩
theorem BZ{P:D->D->Prop}(hl:ds.length+1=n)(h:Wq (λr=>∃a e,r=.rt (.tup [a,e])/\P a e) (B (yN N d0 ds))):∃a e,runM n N B d0 ds=some (a,e)/\P a e:=
 let⟨_,e1,a,e,h,p⟩:=h;⟨a,e,Jl hl (e1.trans (by rw[h])),p⟩
end
theorem MZ(h:0<=i/\i<l.length):∃x∈l,mV (iL l) (.int i)=some (.int x):=by
 have bI:i.toNat<l.length:=by omega
 refine⟨l[i.toNat],adM bI,MJ ?_ rfl⟩;unfold bV h_;rw[List.length_map,if_pos (by omega),if_pos (by omega),acq,acg,aau bI];rfl
theorem oq:dZ (iL l)=some (.int l.length):=by unfold iL;rw[sQ,List.length_map]
theorem o9:(cR a n).length=n:=by unfold cR;rw[List.length_map,acZ]
noncomputable def mix(c t m:Int):Int:=((c % 2147483629+11)*(982451653+57885161*t*t)) % 2147483629 % m
theorem i6(hm:0<m):0<=mix c t m/\mix c t m<m:=⟨Int.emod_nonneg _ (by lia),Int.emod_lt_of_pos _ hm⟩
theorem LY(h:-(2 ^ 64)<i/\i<2 ^ 64):lQ i j=true:=by unfold lQ;rw[abU h.1,abU h.2];rfl
theorem Qv(ht:0<=t/\t<=10000)(hm:0<m):vg [.int c,.int t,.int m]=some (.int (mix c t m)):=by
 have h0:=Int.emod_nonneg c (show(2147483629:Int)≠0 by lia);have h1:=Int.emod_lt_of_pos c (show(0:Int)<2147483629 by lia);exact cX rfl (eB (aZ (aZ (aZ (d1:=.int c) (t1:=.sh []) (d2:=.int 2147483629) (t2:=.own) rfl rfl (AE (by lia))) rfl Eh) (aZ (d1:=.int 982451653) (t1:=.own) rfl (aZ (aZ (d1:=.int 57885161) (t1:=.own) (d2:=.int t) (t2:=.sh []) rfl rfl (xm (LY (by lia)))) rfl (xm (by unfold lQ;rw[abU (show -(2 ^ 64)<t by lia),abU (show t<2 ^ 64 by lia)];simp))) Eh) (xm (LY (by lia)))) (d7 (aZ (aZ rfl rfl (AE (by lia))) rfl (AE hm))))
theorem mx(h1:fc ρ=some (.int c,t1))(h2:ft ρ=some (.int t,t2))(h3:fm ρ=some (.int m,t3))(ht:0<=t/\t<=10000)(hm:0<m):bP vg (aA fc (aA ft (aA fm aX))) ρ=some (.int (mix c t m),.own):=
 cN (ps:=[(.int c,t1),(.int t,t2),(.int m,t3)]) (by rw[bA,bA,bA,h1,h2,h3];rfl) (Qv ht hm)
theorem oV(h:f ρ=some (.int x,t)):e2 pG (eC (.int a)) f ρ=some (.int (a+x),.own):=aZ rfl h Eh
structure Slots(S:List Int):Prop where
 inc:S.Pairwise (· < ·)
 bd:∀x∈S,0<=x/\x<=999
 ln:S.length<=20
theorem Bq{P:Int->Prop}(h:0<=i/\i<l.length)(p:∀x∈l,P x):∃x,mV (iL l) (.int i)=some (.int x)/\P x:=let⟨x,m,e⟩:=MZ h;⟨x,e,p x m⟩
theorem Qq:∃d,VM [.int c]=some d/\∃S,d=iL S/\Slots S:=by
 refine uA rfl ?_;obtain⟨n',hx,hn⟩:=Bq (P:=λx=>0<=x/\x<=20) (l:=[0,1,1,1,2,3,4,20]) (i6 (c:=c) (t:=1) (m:=8) (by lia)) (by decide);obtain⟨n,rfl⟩:∃n:Nat,n'=n:=⟨n'.toNat,by lia⟩
 refine fU (aZ (d1:=iL [0,1,1,1,2,3,4,20]) (t1:=.own) rfl (mx (t1:=.sh []) (t2:=.own) (t3:=.own) rfl rfl rfl (by lia) (by lia)) hx) (dg [some (.int c,.sh []),some (.int n,.own),none,none] ?_);obtain⟨m,hx,hm⟩:=Bq (P:=λx=>1<=x/\x<=1000) (l:=[3,5,1000]) (i6 (c:=c) (t:=2) (m:=3) (by lia)) (by decide);refine fU (aZ (d1:=iL [3,5,1000]) (t1:=.own) rfl (mx (t1:=.sh []) (t2:=.own) (t3:=.own) rfl rfl rfl (by lia) (by lia)) hx) (dg [some (.int c,.sh []),some (.int n,.own),some (.int m,.own),none] ?_);refine fU (Gs (p:=λ_=>true) (u9 rfl (by lia)) (by rw[o9];lia) (λx gu=>by
  obtain⟨h1,h2⟩:=vO.mp gu;rw[if_pos rfl];exact nh rfl rfl (mx (t2:=.own) (t3:=.sh []) rfl (oV (t:=.sh []) rfl) rfl (by lia) (by lia)))) ?_
 have kj:(((cR 0 n).filter λ_=>true).map (λx=>mix c (100+x) m)).length=n:=by rw[List.length_map,List.filter_eq_self.mpr (λ_ _=>rfl),o9]
 have JC:∀x∈((cR 0 n).filter λ_=>true).map (λx=>mix c (100+x) m),0<=x/\x<=999:=λx gu=>by
  obtain⟨y,_,rfl⟩:=acu.mp gu;have:=i6 (c:=c) (t:=100+y) (m:=m) (by lia)
  lia
 generalize((cR 0 n).filter λ_=>true).map (λx=>mix c (100+x) m)=L at kj JC;have os:w_ (iL L)=some (iL (dD (nk L []))):=by
  unfold iL w_;dsimp only;rw[rG];dsimp only;rw[if_pos (by lia)]
 refine⟨_,d7 (bZ (d:=iL L) (t:=.sh [3]) rfl os),_,rfl,_,rfl,G2 Jv,λx gu=>?_,?_⟩
 .have:=yC.mp gu;rw[Nc] at this;rcases this with h|h
  .exact JC x h
  .cases h
 .rw[yo];have:=UT (a:=L) (b:=[]);simp at this
  lia
abbrev gV(es:bQ)(k:Int):Int:=(bC es k).getD 0
structure Sh(es:bQ):Prop where
 nd:(es.map (·.1)).Nodup
 bd:∀k,0<=gV es k/\gV es k<=1000000000
theorem Sh.nil:Sh []:=⟨aci,λk=>by show(0:Int)<=0/\(0:Int)<=1000000000;lia⟩
def jv(c:Int)(es:bQ)(E:List Ed)(s3 s4 s5 s6:Slot):aE:=[some (.int c,.sh []),some (aS es,.sh []),some (eL E,.own),s3,s4,s5,s6]
structure sI(E:List Ed):Prop where
 inc:(E.map (·.1)).Pairwise (· < ·)
 ok:∀p∈E,jP p=true
 few:E.length<=20
theorem VP(hs:Sh es):∃d,Xm [.int c,aS es]=some d/\∃E,d=eL E/\sI E:=by
 obtain⟨_,fS,S,rfl,gS⟩:=Qq (c:=c);have kj:=gS.ln;refine uA rfl (fU (d:=eL []) (t:=.own) rfl (dg (jv c es [] none none none none) ?_));refine P7 (λj ρ=>∃E s3 s4 s5 s6,ρ=jv c es E s3 s4 s5 s6/\E.map (·.1)=S.take j/\∀p∈E,jP p=true) (k_ (cN (ps:=[(.int c,.sh [])]) rfl fS)) ⟨[],_,_,_,_,rfl,rfl,λp m=>nomatch m⟩ (λj ρ d hd ⟨E,s3,s4,s5,s6,e,hk,aC⟩=>?_) λρ ⟨E,s3,s4,s5,s6,e,hk,aC⟩=>?_
 .subst e;rw[acg] at hd;obtain⟨x,hj,rfl⟩:=acO.mp hd;obtain⟨bI,jw⟩:=ace.mp hj;have hx:=gS.bd x (ad1 hj);have hlen:E.length=j:=by
   have:=congrArg List.length hk;rw[List.length_map,adK] at this;lia
  refine⟨jv c es E (some (.int x,.sh [])) s4 s5 s6,rfl,?_⟩;refine fU (d:=.int (gV es x)) (t:=.own) (by rw[Ds];show(lA (aS es) (.int x) (.int 0)).map _=_;rw[Ay];rfl) (dg (jv c es E (some (.int x,.sh [])) (some (.int (gV es x),.own)) s5 s6) ?_);refine wJ (I:=λρ=>∃o,ρ=jv c es E (some (.int x,.sh [])) (some (.int o,.own)) s5 s6/\0<=o/\o<=1000000000) ?_ λρ ⟨o,e,ho⟩=>?_
  .have h3:=i6 (c:=c) (t:=3) (m:=3) (by lia);exact qQ (b:=mix c (130+x) 8==0) (cV (aZ (mx (t1:=.sh []) (t2:=.own) (t3:=.own) rfl (oV (t:=.sh []) rfl) rfl (by lia) (by lia)) rfl rfl)) (λ_=>⟨_,by rw[yP,mx (c:=c) (t:=3) (m:=3) (t1:=.sh []) (t2:=.own) (t3:=.own) rfl rfl rfl (by lia) (by lia)];rfl,_,rfl,_,rfl,h3.1,by lia⟩) λ_=>⟨_,rfl,_,rfl,_,rfl,hs.bd x⟩
  subst e;have m1:=i6 (c:=c) (t:=140+x) (m:=3) (by lia);have m2:=i6 (c:=c) (t:=150+x) (m:=1000000001) (by lia);refine fU (d:=iL [0,1,mix c (140+x) 3,mix c (150+x) 1000000001]) (t:=.own) (by rw[KG,bA,bA,bA,bA,mx (c:=c) (t:=140+x) (m:=3) (t1:=.sh []) (t2:=.own) (t3:=.own) rfl (oV (t:=.sh []) rfl) rfl (by lia) (by lia),mx (c:=c) (t:=150+x) (m:=1000000001) (t1:=.sh []) (t2:=.own) (t3:=.own) rfl (oV (t:=.sh []) rfl) (by kernel_rfl) (by lia) (by lia)];rfl) ?_;generalize mix c (140+x) 3=a at m1 ⊢;generalize mix c (150+x) 1000000001=b at m2 ⊢;refine dg (jv c es E (some (.int x,.sh [])) (some (.int o,.own)) (some (iL [0,1,a,b],.own)) s6) ?_;obtain⟨n0,hx4,Yg⟩:=Bq (P:=λx=>0<=x/\x<=1000000000) (l:=[0,1,a,b]) (i6 (c:=c) (t:=160+x) (m:=4) (by lia)) (by simp only[aaG,acH,ad9,forall_eq_or_imp,forall_eq];lia);refine fU (aZ (d1:=iL [0,1,a,b]) (t1:=.sh [5]) rfl (mx (t1:=.sh []) (t2:=.own) (t3:=.own) rfl (oV (t:=.sh []) rfl) rfl (by lia) (by lia)) hx4) (dg (jv c es E (some (.int x,.sh [])) (some (.int o,.own)) (some (iL [0,1,a,b],.own)) (some (.int n0,.own))) ?_);refine wJ (I:=λρ=>∃n,ρ=jv c es E (some (.int x,.sh [])) (some (.int o,.own)) (some (iL [0,1,a,b],.own)) (some (.int n,.own))/\(0<=n/\n<=1000000000)/\n≠o) ?_ λρ ⟨n,e,hn,gq⟩=>?_
  .refine qQ (b:=n0==o) rfl (λh=>?_) λh=>⟨_,rfl,_,rfl,n0,rfl,Yg,by simpa using h⟩
   obtain rfl:=eq_of_beq h;have ep:e2 xj (eC (.int 10)) (eC (.int 9)) (jv c es E (some (.int x,.sh [])) (some (.int n0,.own)) (some (iL [0,1,a,b],.own)) (some (.int n0,.own)))=some (.int 1000000000,.own):=by kernel_rfl
   have q:∃n,sG (qN (aA (e2 pG (ai 4) (eC (.int 1))) (aA (e2 mF (ai 4) (eC (.int 1))) aX))) (e1 xJ (e2 oEq (ai 4) (e2 xj (eC (.int 10)) (eC (.int 9))))) (jv c es E (some (.int x,.sh [])) (some (.int n0,.own)) (some (iL [0,1,a,b],.own)) (some (.int n0,.own)))=some (.int n,.own)/\(0<=n/\n<=1000000000)/\n≠n0:=by
    unfold sG;rw[bZ (op:=xJ) (d1:=.int (if(n0==1000000000)=true then 1 else 0)) (aZ (op:=oEq) (f:=ai 4) (d1:=.int n0) (t1:=.sh [4]) (d:=.bl (n0==1000000000)) rfl ep rfl) rfl]
    by_cases hz:n0=1000000000
    .subst hz;exact⟨999999999,rfl,by lia,by lia⟩
    .rw[aa7 (by simpa using hz)];exact⟨n0+1,rfl,by lia,by lia⟩
   obtain⟨n,q,hn⟩:=q;exact⟨_,by rw[yP,q];rfl,_,rfl,n,rfl,hn⟩
  subst e;refine⟨.nx (jv c es (E++[(x,o,n)]) (some (.int x,.sh [])) (some (.int o,.own)) (some (iL [0,1,a,b],.own)) (some (.int n,.own))),?_,_,rfl,_,_,_,_,_,rfl,?_,λp m=>?_⟩
  .show(if(aI (.tup [.int x,.int o,.int n])&&aU (E.map dT)&&decide ((E.map dT).length<sizeLine))=true then some (Out.nx (cz _ 2 (.lst (E.map dT++[.tup [.int x,.int o,.int n]])))) else none)=_;rw[if_pos (by rw[sP,List.length_map,abU (size_le (by lia))];rfl)];unfold jv eL;rw[acF];rfl
  .rw[acF,hk,ad0 bI,jw];rfl
  .rcases ab3.mp m with m|m
   .exact aC p m
   .cases aat.mp m;unfold jP inR;rw[abU hx.1,abU hx.2,abU ho.1,abU ho.2,abU hn.1,abU hn.2,show(o==n)=false from by simpa using λh=>gq h.symm];rfl
 .subst e;rw[List.length_map,aeD] at hk;have:=congrArg List.length hk;rw[List.length_map] at this;exact⟨_,rfl,_,rfl,E,rfl,by rw[hk];exact gS.inc,aC,by lia⟩
noncomputable def kB(k:Int):Key×D:=(Sum.inl k,.bl true)
def dB(ks:List Int):D:=.bS (ks.map kB)
noncomputable def add(ks:List Int)(k:Int):List Int:=if k∈ks then ks else ks++[k]
theorem ML:x∈add ks k↔x∈ks\/x=k:=by
 unfold add
 by_cases h:k∈ks
 .rw[if_pos h];exact⟨.inl,λe=>e.elim id λe=>by rw[e];exact h⟩
 .rw[aa7 h,ab3,aat]
theorem Yq:(add ks k).length<=ks.length+1:=by
 unfold add
 split
 .lia
 .rw[ack];exact aa2 _
theorem qy(a:Int):[a].Nodup:=by simp
theorem PM(h:ks.Nodup):(add ks k).Nodup:=by
 unfold add
 split
 .exact h
 .rename_i hk;rw[acv];exact⟨h,qy _,λa ma b mb e=>by cases aat.mp mb;rw[e] at ma;exact hk ma⟩
theorem Jf{ks:List Int}:((ks.map kB).any λkv=>decide (kv.1=(Sum.inl k:Key)))=decide (k∈ks):=by
 induction ks with
 |nil=>simp
 |cons a r ih=>
  rw[aaz,aet,ih];have:decide ((kB a).1=(Sum.inl k:Key))=decide (a=k):=by
   exact decide_eq_decide.mpr rH
  rw[this]
  by_cases h:a=k
  .subst h;simp
  .simp[h,adx h]
theorem X5:FO false (.int x) (dB ks)=some (.bl (decide (x∈ks))):=by
 show some (D.bl (if false=true then _ else(dW (ks.map kB) (Sum.inl x:Key)).isSome))=_;rw[aa7 abI,<- Jf];unfold dW;rw[Option.isSome_map]
 congr 2
 rw[aeg,List.find?_isSome,adU]
theorem Jw:∀ks:List Int,aU ((ks.map kB).map (·.2))=true
 |[]=>rfl
 |k::r=>by rw[aaz,aaz];unfold aU;rw[Jw r];rfl
theorem M7:putD (ks.map kB) (Sum.inl k:Key) (.bl true)=(add ks k).map kB:=by
 unfold putD add;rw[Jf]
 by_cases h:k∈ks
 .rw[if_pos (abU h),if_pos h,ac8];refine List.map_congr_left λa _=>?_
  show(if(Sum.inl a:Key)=Sum.inl k then((Sum.inl a:Key),D.bl true) else kB a)=kB a
  split<;>rfl
 .rw[aa7 (by simpa using h),aa7 h,acF];rfl
theorem GX(h1:fv ρ=some (.bl true,t1))(h2:ρ[i]? = some (some (dB ks,.own)))(h3:fk ρ=some (.int k,t2))(hl:ks.length<=10000):j9 i fk fv ρ=some (.nx (cz ρ i (dB (add ks k)))):=by
 unfold j9;rw[h1,h2,h3];show(if(aI (.bl true)&&aU ((ks.map kB).map (·.2))&&decide ((ks.map kB).length<sizeLine))=true then some (Out.nx (cz ρ i (.bS (putD (ks.map kB) (Sum.inl k:Key) (.bl true))))) else none)=_;rw[if_pos (by rw[Jw,abU (by rw[List.length_map];exact size_le hl)];rfl),M7];rfl
theorem NN:∀ks:List Int,i7 (ks.map kB)=some ks
 |[]=>rfl
 |k::r=>by rw[aaz];show(i7 (r.map kB)).map _=_;rw[NN r];rfl
theorem SK(h:ks.length<4096):q_ (dB ks)=some (iL (dD ks)):=by
 show(match i7 (ks.map kB) with|some ns=>if ns.length<4096 then some (D.lst ((dD ns).map D.int)) else none|none=>none)=_;rw[NN];dsimp only;rw[if_pos h];rfl
abbrev Sp:=Ch×bQ
def jK(p:Sp):D:=.tup [.int p.1.1,iL p.1.2.1,eL p.1.2.2,aS p.2]
def aQ(L:List Sp):D:=.lst (L.map jK)
structure sM(n:Nat)(p:Sp):Prop where
 rk:0<=p.1.1/\p.1.1<=9
 inc:p.1.2.1.Pairwise (· < ·)
 bd:∀x∈p.1.2.1,1<=x/\x<=n
 few:p.1.2.1.length<=2
 ge:sI p.1.2.2
 sh:Sh p.2
 ln:p.2.length<=20*(n+1)
def sp(L:List Sp)(m:Int):Sp:=(L[(m-1).toNat]?).getD ((0,[],[]),[])
theorem As{L:List Sp}{m:Int}(h1:1<=m)(h2:m<=L.length):L[(m-1).toNat]? = some (sp L m):=by
 unfold sp;rw[aau (by lia)];rfl
theorem zR{L:List Sp}{ρ:aE}{i:Nat}{fk:EF}{m:Int}{t:Tag}{o:List Nat}(h:ai i ρ=some (aQ L,.sh o))(hk:fk ρ=some (.int (m-1),t))(h1:1<=m)(h2:m<=L.length):c8 (ai i) fk ρ=some (jK (sp L m),.sh o):=by
 unfold c8;rw[h,hk];unfold aQ;dsimp only;rw[Ob h1 h2 (As h1 h2)];rfl
theorem uh{p:Sp}{o:List Nat}(h:fa ρ=some (jK p,.sh o)):iC fa (eC (.int 0)) ρ=some (.int p.1.1,.sh o)/\iC fa (eC (.int 1)) ρ=some (iL p.1.2.1,.sh o)/\iC fa (eC (.int 2)) ρ=some (eL p.1.2.2,.sh o)/\iC fa (eC (.int 3)) ρ=some (aS p.2,.sh o):=by
 unfold iC;rw[h];exact⟨rfl,rfl,rfl,rfl⟩
theorem Cp{p:Ed}(h:jP p=true):(0<=p.1/\p.1<=999)/\(0<=p.2.1/\p.2.1<=1000000000)/\(0<=p.2.2/\p.2.2<=1000000000):=by
 unfold jP inR at h;simp only[aaF,ad5] at h;exact⟨h.1.1.1,h.1.1.2,h.1.2⟩
theorem sI.nd(g:sI E):(E.map (·.1)).Nodup:=g.inc.imp λh e=>by lia
theorem Sh.cK(s:Sh es)(g:sI E):Sh (cK es E):=by
 refine⟨B8 _ _ s.nd,λk=>?_⟩;obtain⟨g1,g2⟩:=xo E es k g.nd
 by_cases mj:k∈E.map (·.1)
 .obtain⟨p,mp,rfl⟩:=acu.mp mj;unfold gV;rw[g1 p mp rfl];exact(Cp (g.ok p mp)).2.2
 .unfold gV;rw[g2 mj];exact s.bd k
def rS(c:Int)(S:D)(n b:Int)(v:bQ)(d5:D)(s6 s7 s8 s9 f6:Slot):aE:=[some (.int c,.sh []),some (S,.sh []),some (.int n,.own),some (.int b,.own),some (aS v,.own),some (d5,.own),s6,s7,s8,s9,f6]
theorem BY{L:List Sp}:dZ (aQ L)=some (.int L.length):=by unfold aQ;rw[sQ,List.length_map]
theorem f_spec{c:Int}{L:List Sp}(hn:L.length<=25)(hL:∀i p,L[i]? = some p->sM i p):∃d,M5 [.int c,aQ L]=some d/\∃p,d=jK p/\sM L.length p:=by
 refine uA rfl ?_;refine fU (d:=.int ((L.length:Int)+1)) (aZ (bZ (d:=aQ L) (t:=.sh []) rfl BY) rfl rfl) (dg [some (.int c,.sh []),some (aQ L,.sh []),some (.int ((L.length:Int)+1),.own),none,none,none,none,none,none,none,none] ?_);have hb:=i6 (c:=c) (t:=4) (m:=(L.length:Int)+1) (by lia);refine fU (mx (m:=(L.length:Int)+1) (t1:=.sh []) (t2:=.own) (t3:=.sh [2]) rfl rfl rfl (by lia) (by lia)) ?_;generalize mix c 4 ((L.length:Int)+1)=b at hb ⊢;generalize hN:((L.length:Int)+1)=N at hb ⊢;refine fU (d:=aS []) (t:=.own) rfl (fU (d:=dB []) (t:=.own) rfl (dg (rS c (aQ L) N b [] (dB []) none none none none none) ?_));have z:([]:List Int).Nodup/\([]:List Int).length<=1/\∀x∈([]:List Int),1<=x/\x<=(L.length:Int):=⟨aci,acD _,λx m=>nomatch m⟩
 refine wJ (I:=λρ=>∃v ks,ρ=rS c (aQ L) N b v (dB ks) none none none none none/\(Sh v/\v.length<=20*L.length)/\ks.Nodup/\ks.length<=1/\∀x∈ks,1<=x/\x<=(L.length:Int)) ?_ λρ ⟨v,Bo,e,⟨hv,mq⟩,vA,hk2,GY⟩=>?_
 .refine qQ (b:=decide (0<b)) rfl (λh0=>?_) λ_=>⟨_,rfl,_,rfl,[],[],rfl,⟨Sh.nil,acD _⟩,z⟩
  have h0:=aaR h0;have h1:1<=b:=by lia
  have h2:b<=(L.length:Int):=by lia
  have hp:=hL _ _ (As h1 h2);refine fU (d:=aS (sp L b).2) (bZ (uh (zR (i:=1) (o:=[]) (t:=.own) rfl rfl h1 h2)).2.2.2 abi) (dg (rS c (aQ L) N b (sp L b).2 (dB []) none none none none none) ?_);have hs:Sh (sp L b).2/\(sp L b).2.length<=20*L.length:=⟨hp.sh,by have:=hp.ln;lia⟩
  exact qQ (b:=mix c 5 2==0) (cV (aZ (mx (t1:=.sh []) (t2:=.own) (t3:=.own) rfl rfl rfl (by lia) (by lia)) rfl rfl)) (λ_=>⟨_,GX (ks:=[]) (k:=b) (t1:=.own) (t2:=.sh [3]) rfl rfl rfl (acD _),_,rfl,_,[b],rfl,hs,qy _,aa2 _,λx m=>by cases aat.mp m;exact⟨h1,h2⟩⟩) λ_=>⟨_,rfl,_,rfl,_,[],rfl,hs,z⟩
 subst e;refine wJ (I:=λρ=>∃ks,ρ=rS c (aQ L) N b v (dB ks) none none none none none/\ks.Nodup/\ks.length<=2/\∀x∈ks,1<=x/\x<=(L.length:Int)) ?_ λρ ⟨ks,e,ZR,TZ,abH⟩=>?_
 .refine qQ (wA (a:=decide (1<N)) (b:=mix c 6 4==0) rfl (cV (aZ (mx (t1:=.sh []) (t2:=.own) (t3:=.own) rfl rfl rfl (by lia) (by lia)) rfl rfl))) (λh=>?_) λ_=>⟨_,rfl,_,rfl,Bo,rfl,vA,by lia,GY⟩
  have h0:=aaR ((aaF _ _).mp h).1;have hm:=i6 (c:=c) (t:=7) (m:=N-1) (by lia);refine⟨_,GX (ks:=Bo) (k:=1+mix c 7 (N-1)) (t1:=.own) (t2:=.own) rfl rfl (oV (mx (t1:=.sh []) (t2:=.own) (t3:=.own) rfl rfl rfl (by lia) (by lia))) (by lia),_,rfl,_,rfl,PM vA,by have:=Yq (ks:=Bo) (k:=1+mix c 7 (N-1));lia,λx m=>?_⟩;rcases ML.mp m with m|rfl
  .exact GY x m
  .lia
 subst e;obtain⟨_,fE,E,rfl,gE⟩:=VP (c:=c) hv;have hEl:=gE.few;refine fU (cN (ps:=[(.int c,.sh []),(aS v,.sh [4])]) rfl fE) (dg (rS c (aQ L) N b v (dB ks) (some (eL E,.own)) none none none none) ?_);obtain⟨t7,t8,t9,lp⟩:=tY (g:=gT (cW (gN 7) (cW (gN 8) (cW (gN 9) k7)))) (t:=.sh [6]) (f:=j9 4 (ai 7) (ai 9)) (λv x y z=>rS c (aQ L) N b v (dB ks) (some (eL E,.lk)) x y z none) (λ_ _ _ _ _=>rfl) (λv p h=>yc (es:=v) (k:=p.1) (v:=p.2.2) (t1:=.sh [9]) (t2:=.sh [7]) rfl rfl rfl h) (E:=E) (v:=v) (x:=none) (y:=none) (z:=none) (by lia);refine p_ (Dt (t:=.sh [6]) rfl lp) (dg (rS c (aQ L) N b (cK v E) (dB ks) (some (eL E,.own)) t7 t8 t9 none) ?_);have h8:=i6 (c:=c) (t:=8) (m:=10) (by lia);have h9:=i6 (c:=c) (t:=9) (m:=2) (by lia);have Br:=i6 (c:=c) (t:=10) (m:=2) (by lia);have q9:∃r,(0<=r/\r<=9)/\sG (qN (aA (bP vg (aA (ai 0) (aA (eC (.int 8)) (aA (eC (.int 10)) aX)))) (aA (bP vg (aA (ai 0) (aA (eC (.int 9)) (aA (eC (.int 2)) aX)))) aX))) (bP vg (aA (ai 0) (aA (eC (.int 10)) (aA (eC (.int 2)) aX)))) (rS c (aQ L) N b (cK v E) (dB ks) (some (eL E,.own)) t7 t8 t9 none)=some (.int r,.own):=by
  unfold sG;rw[KG,bA,bA,mx (c:=c) (t:=8) (m:=10) (t1:=.sh []) (t2:=.own) (t3:=.own) rfl rfl rfl (by lia) (by lia),mx (c:=c) (t:=9) (m:=2) (t1:=.sh []) (t2:=.own) (t3:=.own) rfl rfl rfl (by lia) (by lia),mx (c:=c) (t:=10) (m:=2) (t1:=.sh []) (t2:=.own) (t3:=.own) rfl rfl rfl (by lia) (by lia)];rcases(show mix c 10 2=0\/mix c 10 2=1 by lia) with e|e
  .rw[e];exact⟨mix c 8 10,by lia,rfl⟩
  .rw[e];exact⟨mix c 9 2,by lia,rfl⟩
 obtain⟨r,hr,q9⟩:=q9;refine fU q9 (dg (rS c (aQ L) N b (cK v E) (dB ks) (some (eL E,.own)) t7 t8 t9 (some (.int r,.own))) ?_);refine⟨.rt (jK ((r,dD ks,E),cK v E)),?_,_,rfl,_,rfl,hr,G2 ZR,λx m=>abH x (yC.mp m),by rw[yo];exact TZ,gE,hv.cK gE,?_⟩
 .show wg _ _ _ _ _=_;unfold wg;rw[bZ (d:=dB ks) (t:=.sh [5]) rfl (SK (by lia))];rfl
 .have:=sD E v;show(cK v E).length<=_
  lia
structure dN(L:List Sp):Prop where
 ln:L.length<=24
 ok:∀i p,L[i]? = some p->sM i p
def rP(ls:List Int)(L:List Sp)(s2:Slot):aE:=[some (iL ls,.own),some (aQ L,.own),s2]
theorem abg(h:f ρ=some (.ok d ρ'))(h0:ρ[i]? = some (some (.lst Ny,.own)))(h1:ρ'[i]? = some (some (.lst ds,.own)))(hl:ds.length<sizeLine):xH i f ρ=some (.nx (cz ρ' i (.lst (ds++[d])))):=by
 unfold xH;rw[h];dsimp only;rw[h0,h1];dsimp only;rw[if_pos (abU hl)]
theorem X3(ls:List Int):∃a e,abG (iL ls) []=some (a,e)/\∃L dz,a=aQ L/\e=iL dz/\dN L:=by
 refine BZ rfl (x8 (d:=aQ []) (t:=.own) rfl (dg (rP ls [] none) ?_));obtain⟨n',l1,h1,h2,h3⟩:=qj (ρ:=rP ls [] none) (i:=0) (ls:=ls) (fm:=eC (.int 25)) (m:=25) (t:=.own) rfl rfl (by lia);obtain⟨n,rfl⟩:∃n:Nat,n'=n:=⟨n'.toNat,by lia⟩
 refine VB h3 (by lia) (λj ρ=>∃ls L s2,ρ=rP ls L s2/\L.length=j/\∀i p,L[i]? = some p->sM i p) ⟨l1,[],none,rfl,rfl,λi p h=>by rw[List.getElem?_nil] at h;cases h⟩ (λj ρ hj ⟨ls,L,s2,e,kj,aC⟩=>?_) λρ ⟨ls,L,s2,e,kj,aC⟩=>?_
 .subst e;obtain⟨v,dz,h1,h2,h3⟩:=qj (ρ:=rP ls L (some (.int j,.sh []))) (i:=0) (ls:=ls) (fm:=e2 xj (eC (.int 10)) (eC (.int 12))) (m:=1000000000000) (t:=.own) rfl (by kernel_rfl) (by lia);obtain⟨_,fp,p,rfl,RE⟩:=f_spec (c:=v+31*j) (L:=L) (by lia) aC;have h4:xP (e2 Ez (eC (.int 31)) (ai 2)) (rP dz L (some (.int j,.sh [])))=some (.int (31*j),rP dz L (some (.int j,.sh []))):=vC (aZ (d1:=.int 31) (d2:=.int j) rfl rfl (xm (by unfold lQ;simp))) rfl;refine⟨rP ls L (some (.int j,.sh [])),rfl,_,(abg (ρ':=rP dz L (some (.int j,.sh []))) (d:=jK p) ?_ rfl rfl (by rw[List.length_map];exact size_le (by lia))),_,rfl,dz,L++[p],some (.int j,.sh []),?_,by rw[ack,kj];rfl,λi q h=>?_⟩
  .unfold Df;rw[JZ (op:=pG) (d:=.int (v+31*j)) h3 h4 rfl];show((M5 [.int (v+31*j),aQ L]).map _)=_;rw[fp];rfl
  .unfold rP aQ;rw[acF];rfl
  .rw[List.getElem?_append] at h
   split at h
   .exact aC i q h
   .have:=(ace.mp h).1;obtain rfl:i=L.length:=by simp at this;lia
    rw[Nat.sub_self] at h;cases h;exact RE
 .subst e;exact⟨_,rfl,_,_,rfl,L,ls,rfl,rfl,by lia,aC⟩
abbrev cs(L:List Sp):List Ch:=L.map (·.1)
theorem BB{L:List Sp}{m:Int}(h1:1<=m)(h2:m<=L.length):(sp L m).1=ch (cs L) m:=by
 unfold sp ch cs;rw[acg,aau (by lia)];rfl
theorem Z5{L:List Sp}{m:Int}(h1:1<=m)(h2:m<=L.length):(sp L m).1.2.2=br (cs L) m:=by unfold br;rw[BB h1 h2]
theorem IM{L:List Sp}{m:Int}(h1:1<=m)(h2:m<=L.length):(sp L m).1.2.1=lean (sec (cs L)) m:=by rw[BB h1 h2,Nq h1 (by rw[List.length_map];exact h2)]
theorem UG{L:List (List Int)}{m:Int}(h:¬(1<=m/\m<=L.length)):lean L m=[]:=by
 unfold lean
 split
 .rw[adw (by lia)];rfl
 .rfl
theorem DX{L:List Sp}(g:dN L)(m:Int):lean (sec (cs L)) m=[]\/(1<=m/\m<=L.length/\sM (m-1).toNat (sp L m)/\lean (sec (cs L)) m=(sp L m).1.2.1):=by
 by_cases h:1<=m/\m<=L.length
 .exact .inr ⟨h.1,h.2,g.ok _ _ (As h.1 h.2),(IM h.1 h.2).symm⟩
 .exact .inl (UG (by rw[List.length_map,List.length_map];exact h))
theorem oH{L:List Sp}(g:dN L)(m:Int):sI (br (cs L) m):=by
 unfold br ch cs;rw[acg];cases e:L[(m-1).toNat]? with
 |none=>exact⟨List.Pairwise.nil,λp h=>(nomatch h),by simp⟩
 |some p=>exact(g.ok _ _ e).ge
theorem rN{L:List Sp}(g:dN L):GoodC (cs L):=by
 refine⟨⟨by rw[List.length_map,List.length_map];have:=g.ln;omega,λm=>?_,λm x mx=>?_,λm=>?_⟩,λm=>⟨(oH g m).inc.imp λh=>by omega,(oH g m).few⟩,λm p mp=>(Cp ((oH g m).ok p mp)).1,λm=>(oH g m).nd,λm p mp=>(Cp ((oH g m).ok p mp)).2.2⟩
 .rcases DX g m with e|⟨_,_,o,e⟩
  .rw[e];exact List.Pairwise.nil
  .rw[e];exact o.inc
 .rcases DX g m with e|⟨h1,h2,o,e⟩
  .rw[e] at mx;cases mx
  .rw[e] at mx;have:=o.bd x mx;refine⟨this.1,by omega,by rw[List.length_map,List.length_map];exact h2⟩
 .rcases DX g m with e|⟨_,_,o,e⟩
  .rw[e];simp
  .rw[e];have:=o.few;omega
theorem WN{p:Sp}(o:sM n p):u_ n p.1.1 p.1.2.1 p.1.2.2=true:=by
 unfold u_ tN inR;rw[abU o.rk.1,abU o.rk.2,EM o.inc,EM o.ge.inc,acX.mpr o.ge.ok,abU (show(p.1.2.2.length:Int)<=20 by have:=o.ge.few;lia)];rw[acX.mpr (λx mx=>by rw[abU (o.bd x mx).1,abU (o.bd x mx).2];rfl)];rfl
def rA(S:D)(C:List Ch)(s2:Slot):aE:=[some (S,.sh []),some (obj C,.own),s2]
theorem Um{L:List Sp}(g:dN L):Ju [aQ L]=some (obj (cs L)):=by
 have kj:=g.ln;obtain⟨d,e,rfl⟩:∃d,Ju [aQ L]=some d/\d=obj (cs L):=by
  refine uA rfl (fU (d:=obj []) rfl (dg (rA (aQ L) [] none) ?_));refine NJ (λj ρ=>∃s2,ρ=rA (aQ L) (cs (L.take j)) s2) rfl ⟨none,rfl⟩ (λj ρ d hd ⟨s2,e⟩=>?_) λρ ⟨s2,e⟩=>?_
  .subst e;rw[acg] at hd;obtain⟨p,hj,rfl⟩:=acO.mp hd;obtain⟨bI,hx⟩:=ace.mp hj;have hlen:(cs (L.take j)).length=j:=by rw[List.length_map,adK];lia
   have o:=g.ok j p hj;obtain⟨f0,f1,f2,_⟩:=uh (fa:=ai 2) (ρ:=rA (aQ L) (cs (L.take j)) (some (jK p,.sh []))) rfl;have jw:xO 1 "Changes" "added" C4 (aA (iC (ai 2) (eC (.int 0))) (aA (iC (ai 2) (eC (.int 1))) (aA (iC (ai 2) (eC (.int 2))) aX))) (rA (aQ L) (cs (L.take j)) (some (jK p,.sh [])))=some (.int ((cs (L.take j)).length+1),rA (aQ L) (cs (L.take j)++[p.1]) (some (jK p,.sh []))):=by
    unfold xO;rw[bA,bA,bA,f0,f1,f2];show(if("Changes":Str)="Changes"/\([("entries",.lst ((cs (L.take j)).map ent))]:List (Str×D)).lookup ("added":Str)=none/\apart 1 [(.int p.1.1,.sh []),(iL p.1.2.1,.sh []),(eL p.1.2.2,.sh [])]=true then(C4 (obj (cs (L.take j))) [.int p.1.1,iL p.1.2.1,eL p.1.2.2]).map _ else none)=_;rw[if_pos ⟨rfl,zU (by decide),rfl⟩,Vj (by have:=o.few;lia) (by have:=o.ge.few;lia) (by rw[hlen];exact WN o) (by lia)];rfl
   refine⟨rA (aQ L) (cs (L.take j)) (some (jK p,.sh [])),rfl,.nx (rA (aQ L) (cs (L.take j)++[p.1]) (some (jK p,.sh []))),?_,_,rfl,some (jK p,.sh []),?_⟩
   .show sZ _ _=_;unfold sZ;rw[jw];rfl
   .rw[ad0 bI,hx];unfold cs;rw[acF];rfl
  .subst e;rw[List.length_map,aeD];exact⟨_,rfl,_,rfl,rfl⟩
 exact e
def m8(C:List Ch)(v:bQ)(row:List Int):bQ:=row.foldl (λv m=>cK v (br C m)) v
theorem tS:∀{row:List Int}{v v':bQ},gG v (gw C row)=some v'->v'=m8 C v row
 |[],v,v',h=>by cases h;rfl
 |m::r,v,v',h=>by
  have h:(if bad v (br C m)=[] then gG (cK v (br C m)) (gw C r) else none)=some v':=h
  by_cases hb:bad v (br C m)=[]
  .rw[if_pos hb] at h;exact tS (row:=r) h
  .rw[aa7 hb] at h;cases h
theorem CW:∀{row:List Int}{v v':bQ}{m:Int},gG v (gw C row)=some v'->bad v' (br C m)=[]->gG v (gw C (row++[m]))=some (cK v' (br C m))
 |[],v,v',m,h,hb=>by
  cases h;show(if bad v (br C m)=[] then gG (cK v (br C m)) [] else none)=_;rw[if_pos hb];rfl
 |x::r,v,v',m,h,hb=>by
  have h:(if bad v (br C x)=[] then gG (cK v (br C x)) (gw C r) else none)=some v':=h;show(if bad v (br C x)=[] then gG (cK v (br C x)) (gw C (r++[m])) else none)=_
  by_cases z5:bad v (br C x)=[]
  .rw[if_pos z5] at h ⊢;exact CW h hb
  .rw[aa7 z5] at h;cases h
def Di(S R:D)(v:bQ)(s3 s4 s5 s6:Slot):aE:=[some (S,.sh []),some (R,.sh []),some (aS v,.own),s3,s4,s5,s6]
theorem Og{L:List Sp}{ρ:aE}{i j:Nat}{m:Int}{t:Tag}(v0:ai i ρ=some (aQ L,.sh []))(v3:ai j ρ=some (.int m,t))(h1:1<=m)(h2:m<=L.length):gj (iC (c8 (ai i) (e2 mF (ai j) (eC (.int 1)))) (eC (.int 2))) ρ=some ((br (cs L) m).map dT,.sh []):=by
 have hk:e2 mF (ai j) (eC (.int 1)) ρ=some (.int (m-1),.own):=by rw[nR,v3,KE,AD];rfl
 have:=(uh (zR v0 hk h1 h2)).2.2.1;unfold gj;rw[this,Z5 h1 h2];rfl
theorem GJ{L:List Sp}(g:dN L){row:List Int}(hb:∀x∈row,1<=x/\x<=(L.length:Int))(hl:row.length<=100):Ld [aQ L,iL row]=some (aS (m8 (cs L) [] row)):=by
 obtain⟨d,e,rfl⟩:∃d,Ld [aQ L,iL row]=some d/\d=aS (m8 (cs L) [] row):=by
  refine uA rfl (fU (d:=aS []) (t:=.own) rfl (dg (Di (aQ L) (iL row) [] none none none none) ?_));refine NJ (λj ρ=>∃v s3 s4 s5 s6,ρ=Di (aQ L) (iL row) v s3 s4 s5 s6/\v=m8 (cs L) [] (row.take j)/\v.length<=20*j) (ds:=row.map D.int) rfl ⟨[],_,_,_,_,rfl,rfl,acD _⟩ (λj ρ d hd ⟨v,s3,s4,s5,s6,e,hv,mq⟩=>?_) λρ ⟨v,s3,s4,s5,s6,e,hv,_⟩=>?_
  .subst e;rw[acg] at hd;obtain⟨m,hj,rfl⟩:=acO.mp hd;obtain⟨bI,hx⟩:=ace.mp hj;obtain⟨h1,h2⟩:=hb m (ad1 hj);have hf:=(oH g m).few;obtain⟨t4,t5,t6,lp⟩:=tY (g:=gT (cW (gN 4) (cW (gN 5) (cW (gN 6) k7)))) (t:=.sh []) (f:=j9 2 (ai 4) (ai 6)) (λv x y z=>Di (aQ L) (iL row) v (some (.int m,.sh [])) x y z) (λ_ _ _ _ _=>rfl) (λv p h=>yc rfl rfl rfl h) (E:=br (cs L) m) (v:=v) (x:=s4) (y:=s5) (z:=s6) (by lia);refine⟨_,rfl,_,pZ (Og (L:=L) (i:=0) (j:=3) (m:=m) (t:=.sh []) rfl rfl h1 h2) lp,_,rfl,_,_,_,_,_,rfl,?_,?_⟩
   .rw[hv,ad0 bI,hx];unfold m8;rw[List.foldl_append];rfl
   .have:=sD (br (cs L) m) v
    lia
  .subst e;rw[List.length_map,aeD] at hv;exact⟨_,rfl,_,rfl,by rw[hv]⟩
 exact e
def rU(S:D)(v:bQ)(m:Int)(s3 s4 s5:Slot):aE:=[some (S,.sh []),some (aS v,.sh []),some (.int m,.sh []),s3,s4,s5]
abbrev Xc:GF:=gT (cW (gN 3) (cW (gN 4) (cW (gN 5) k7)))
def bU:SF:=cQ (tV (e2 iB (e3 lA (ai 1) (ai 3) (eC (.int 0))) (ai 4))) (nS 3) cP
theorem Yi:bU (rU S v m (some (.int a,.own)) (some (.int b,.own)) (some (.int c,.own)))=some (if jl v (a,b,c)=true then .rt (.int a) else .nx (rU S v m (some (.int a,.own)) (some (.int b,.own)) (some (.int c,.own)))):=by
 have ht:tV (e2 iB (e3 lA (ai 1) (ai 3) (eC (.int 0))) (ai 4)) (rU S v m (some (.int a,.own)) (some (.int b,.own)) (some (.int c,.own)))=some (jl v (a,b,c)):=by
  rw[uJ,nR,Ds];show Ev.kV (k2 iB ((lA (aS v) (.int a) (.int 0)).map _) _)=_;rw[Ay];rfl
 unfold bU;rw[fN,ht];cases jl v (a,b,c)<;>rfl
theorem Gb:∀{E:List Ed}{s3 s4 s5:Slot},∃t3 t4 t5,cg Xc (.sh []) bU (E.map dT) (rU S v m s3 s4 s5)=some (match bad v E with|[]=>.nx (rU S v m t3 t4 t5)|x::_=>.rt (.int x))
 |[],s3,s4,s5=>⟨s3,s4,s5,rfl⟩
 |(a,b,c)::E,s3,s4,s5=>by
  obtain⟨t3,t4,t5,ih⟩:=Gb (s5:=some (.int c,.own));refine⟨t3,t4,t5,?_⟩;have st:=Yi (S:=S) (v:=v) (m:=m) (a:=a) (b:=b) (c:=c);rw[aaz]
  by_cases hw:jl v (a,b,c)=true
  .rw[if_pos hw] at st;rw[Kl rfl st];unfold bad;rw[List.filter_cons_of_pos hw];rfl
  .rw[aa7 hw] at st;rw[kc rfl st,ih];unfold bad;rw[List.filter_cons_of_neg hw]
theorem Hr{L:List Sp}{v:bQ}{m:Int}(h1:1<=m)(h2:m<=(L.length:Int)):Ai [aQ L,aS v,.int m]=some (A_ (bad v (br (cs L) m))):=by
 obtain⟨t3,t4,t5,lp⟩:=Gb (s5:=none);have hi:=Og (L:=L) (ρ:=rU (aQ L) v m none none none) (i:=0) (j:=2) (t:=.sh []) rfl rfl h1 h2;refine cX rfl ?_;cases hb:bad v (br (cs L) m) with
 |nil=>
  rw[hb] at lp;exact sq (pZ hi lp) rfl
 |cons x l=>
  rw[hb] at lp;exact nv (IW hi lp)
def gM(C:List Ch)(there:List Int)(m:Int):Bool:=(lean (sec C) m).all λx=>decide (x∈there)
theorem Ge{L:List Sp}(g:dN L){there:List Int}{m:Int}(h1:1<=m)(h2:m<=(L.length:Int)):za [aQ L,iL there,.int m]=some (.bl (gM (cs L) there m)):=by
 refine cX rfl (d7 (zV (t:=.sh []) (p:=λx=>decide (x∈there)) ?_ (by have:=(rN g).ld.few m;lia) (λx mx=>nh rfl rfl (aaT rfl rfl))));have:=(uh (zR (L:=L) (ρ:=[some (aQ L,.sh []),some (iL there,.sh []),some (.int m,.sh [])]) (i:=0) (fk:=e2 mF (ai 2) (eC (.int 1))) (m:=m) (t:=.own) (o:=[]) rfl rfl h1 h2)).2.1;rw[IM h1 h2] at this;exact k_ this
def dG(C:List Ch)(v:bQ)(m:Int):Bool:=(bad v (br C m)).isEmpty
theorem Me:dG C v m=true↔bad v (br C m)=[]:=List.isEmpty_iff
theorem D7:iD (A_ l) .aH=some (.bl l.isEmpty):=by cases l<;>rfl
section
variable{L:List Sp}{ρ:aE}{v:bQ}{there:List Int}{m:Int}{i j k:Nat}{t1 t2 t3:Tag}
theorem Zf(v1:ai i ρ=some (aQ L,t1))(v3:ai j ρ=some (aS v,t2))(v0:ai k ρ=some (.int m,t3))(h:1<=m/\m<=(L.length:Int)):tV (e2 iD (bP Ai (aA (ai i) (aA (ai j) (aA (ai k) aX)))) (eC .aH)) ρ=some (dG (cs L) v m):=
 cV (aZ (cN (ps:=[(aQ L,t1),(aS v,t2),(.int m,t3)]) (by rw[bA,bA,bA,v1,v3,v0];rfl) (Hr h.1 h.2)) rfl D7)
theorem OZ(g:dN L)(v1:ai i ρ=some (aQ L,t1))(v3:ai j ρ=some (iL there,t2))(v0:ai k ρ=some (.int m,t3))(h:1<=m/\m<=(L.length:Int)):tV (bP za (aA (ai i) (aA (ai j) (aA (ai k) aX)))) ρ=some (gM (cs L) there m):=
 cV (cN (ps:=[(aQ L,t1),(iL there,t2),(.int m,t3)]) (by rw[bA,bA,bA,v1,v3,v0];rfl) (Ge g h.1 h.2))
end
theorem yH{ρ:aE}{t:Tag}{l:List Int}{p:Int->Bool}{r:aE}(hi:it ρ=some (l.map D.int,t))(hl:l.length<=10000)(hr:∀x,gN 0 (.int x) (.sh []) (iR js ρ)=some (some (.int x,.sh [])::r))(h:∀x∈l,tt (some (.int x,.sh [])::r)=some (p x)):
  iE js it (gN 0) tt (ai 0) ρ=some (iL (l.filter p),.own):=by
 have:=Gs (js:=js) (it:=it) (g:=gN 0) (tt:=tt) (te:=ai 0) hi hl (λx mx=>by
  by_cases hp:p x=true
  .rw[if_pos hp];exact xV (hr x) (by rw[h x mx,hp]) rfl rfl
  .rw[aa7 hp];exact DG (hr x) (by rw[h x mx,aew.mpr hp]))
 rw[List.map_id'] at this;exact this
theorem F9(h1:fv ρ=some (.int n,t))(h2:ρ[i]? = some (some (iL ns,.own)))(hm:n∈ns):r9 i fv ρ=some (.nx (cz ρ i (iL (ns.erase n)))):=by
 unfold r9;rw[h1,h2];unfold iL;dsimp only;rw[rG];dsimp only;rw[if_pos hm]
def rR(ls:List Int)(L:List Sp)(row eO:List Int)(n c:Int)(s6 s7 s8 s9:Slot):aE:=[some (iL ls,.own),some (aQ L,.sh []),some (iL row,.own),some (iL eO,.own),some (.int n,.own),some (.int c,.own),s6,s7,s8,s9]
structure RC(L:List Sp)(row eO:List Int)(j:Nat):Prop where
 bd:∀x∈row,1<=x/\x<=(L.length:Int)
 pl:∀x∈eO,1<=x/\x<=(L.length:Int)
 ln:row.length<=j
 pn:eO.length<=24
 run:∃v,gG [] (gw (cs L) row)=some v
theorem U1{L:List Sp}(g:dN L)(ls:List Int):∃a e,Z6 (iL ls) [aQ L]=some (a,e)/\∃row dz,a=iL row/\e=iL dz/\(∀x∈row,1<=x/\x<=(L.length:Int))/\row.length<=30/\∃v,gG [] (gw (cs L) row)=some v:=by
 have kj:=g.ln;refine BZ rfl ?_;refine x8 (d:=iL []) (t:=.own) rfl (dg [some (iL ls,.own),some (aQ L,.sh []),some (iL [],.own),none,none,none,none,none,none,none] ?_);refine x8 (d:=iL (cR 1 L.length)) (t:=.own) ?_ (dg [some (iL ls,.own),some (aQ L,.sh []),some (iL [],.own),some (iL (cR 1 L.length),.own),none,none,none,none,none,none] ?_)
 .unfold A9;rw[bA,bA,aZ (d:=.int ((L.length:Int)+1)) (bZ (d:=aQ L) (t:=.sh []) rfl BY) rfl rfl];show(if _ then _ else none)=_;rw[if_pos (by lia),show((L.length:Int)+1-1).toNat=L.length by lia];unfold iL cR;rw[ac8];rfl
 refine CL (ls:=ls) (m:=30) (t:=.own) rfl rfl (by lia) λn l1 n1 n2=>dg [some (iL l1,.own),some (aQ L,.sh []),some (iL [],.own),some (iL (cR 1 L.length),.own),some (.int n,.own),none,none,none,none,none] ?_
 refine CL (ls:=l1) (m:=1000000000000) (t:=.own) rfl (by kernel_rfl) (by lia) λc l2 _ _=>dg (rR l2 L [] (cR 1 L.length) n c none none none none) ?_
 obtain⟨m,rfl⟩:∃m:Nat,n=m:=⟨n.toNat,by lia⟩
 refine SD (λj ρ=>∃row eO s6 s7 s8 s9,ρ=rR l2 L row eO m c s6 s7 s8 s9/\RC L row eO j) (u9 rfl (by lia)) ⟨[],_,_,_,_,_,rfl,(λx mx=>nomatch mx),(λx mx=>by have:=vO.mp mx;lia),acD _,(by rw[o9];exact kj),[],rfl⟩ (λj ρ d hd ⟨row,eO,s6,s7,s8,s9,e,I⟩=>?_) λρ' ⟨row,eO,s6,s7,s8,s9,e,I⟩=>?_
 .subst e;rw[acg] at hd;obtain⟨x,jw,rfl⟩:=acO.mp hd;have hx:0<=x/\x<0+m:=vO.mp (ad1 jw);have hj:j<m:=by have:=(ace.mp jw).1;rwa [o9] at this
  obtain⟨v,hv⟩:=I.run;have NT:=I.ln;have uD:=I.pn;refine⟨rR l2 L row eO m c (some (.int x,.sh [])) s7 s8 s9,rfl,?_⟩;refine fU (d:=aS v) (cN rfl (by rw[tS hv];exact GJ g I.bd (by lia))) (dg (rR l2 L row eO m c (some (.int x,.sh [])) (some (aS v,.own)) s8 s9) ?_);refine fU (yH (r:=[some (aQ L,.sh []),some (iL row,.sh []),some (aS v,.sh [])]) rfl (by lia) (λx=>rfl) (λx mx=>wA (OZ g rfl rfl rfl (I.pl x mx)) (Zf rfl rfl rfl (I.pl x mx)))) ?_;have l8:∀x∈eO.filter (λx=>gM (cs L) row x&&dG (cs L) v x),x∈eO/\bad v (br (cs L) x)=[]:=λx mx=>by
   obtain⟨a,b⟩:=ac2.mp mx;exact⟨a,Me.mp (Bool.and_eq_true_iff.mp b).2⟩
  generalize eO.filter (λx=>gM (cs L) row x&&dG (cs L) v x)=sm at l8;refine dg (rR l2 L row eO m c (some (.int x,.sh [])) (some (aS v,.own)) (some (iL sm,.own)) s9) ?_;have hl:e1 dZ (ai 8) (rR l2 L row eO m c (some (.int x,.sh [])) (some (aS v,.own)) (some (iL sm,.own)) s9)=some (.int sm.length,.own):=bZ (d:=iL sm) rfl oq;refine qQ (cV (aZ hl rfl Lj)) (λh0=>?_) λ_=>⟨_,rfl,_,rfl,row,eO,_,_,_,_,rfl,I.bd,I.pl,by lia,uD,I.run⟩
  have h0:=aaR h0;obtain⟨y,my,hy⟩:=MZ (i6 h0);obtain⟨mp,hbx⟩:=l8 y my;refine fU (d:=.int y) (aZ (d1:=iL sm) rfl (mx (fc:=ai 5) rfl (oV rfl) hl (by lia) h0) hy) (dg (rR l2 L row eO m c (some (.int x,.sh [])) (some (aS v,.own)) (some (iL sm,.own)) (some (.int y,.own))) ?_);refine p_ (Dh rfl rfl (size_le (by lia))) (dg (rR l2 L (row++[y]) eO m c (some (.int x,.sh [])) (some (aS v,.own)) (some (iL sm,.own)) (some (.int y,.own))) ?_ (by unfold rR iL;rw[acF];rfl));refine⟨_,F9 rfl rfl mp,_,rfl,row++[y],eO.erase y,_,_,_,_,rfl,λz mz=>?_,λz mz=>I.pl z (List.mem_of_mem_erase mz),by rw[ack];exact Nat.succ_le_succ NT,ac9 List.length_erase_le uD,_,CW hv hbx⟩;rcases ab3.mp mz with mz|mz
  .exact I.bd z mz
  .cases aat.mp mz;exact I.pl _ mp
 .subst e;rw[List.length_map,o9] at I;exact⟨_,rfl,_,_,rfl,row,l2,rfl,rfl,I.bd,by have:=I.ln;lia,I.run⟩
theorem Zi(h:f ρ=some (d,.own))(h0:ρ[0]? = some (some (d0,.own))):yt f ρ=some (.rt (.tup [d,d0])):=by unfold yt;rw[h,h0]
theorem ON(hf:f ρ=some (.int m,t))(hh:h ρ=some (iL l,t2)):tV (e2 (sV true) f h) ρ=some (!decide (m∈l)):=
 cV (aZ hf hh (by unfold iL;rw[Mr,if_pos rfl,Jq]))
theorem Wf{L:List Sp}(g:dN L)(ls row:List Int):∃a e,V6 (iL ls) [aQ L,iL row]=some (a,e)/\∃wt dz,a=iL wt/\e=iL dz/\(∀x∈wt,1<=x/\x<=(L.length:Int))/\wt.length<=24/\wt.Pairwise (· < ·):=by
 have kj:=g.ln;refine BZ rfl ?_;refine CL (ls:=ls) (m:=1000000000000) (t:=.own) rfl (by kernel_rfl) (by lia) λc l1 _ _=>dg [some (iL l1,.own),some (aQ L,.sh []),some (iL row,.sh []),some (.int c,.own),none,none] ?_
 obtain⟨s,l2,s1,s2,x4⟩:=qj (ρ:=[some (iL l1,.own),some (aQ L,.sh []),some (iL row,.sh []),some (.int c,.own),none,none]) (i:=0) (ls:=l1) (fm:=eC (.int 6)) (m:=6) (t:=.own) rfl rfl (by lia);refine wn (wo (JZ (op:=pG) (d:=.int (1+s)) rfl x4 rfl)) (dg [some (iL l2,.own),some (aQ L,.sh []),some (iL row,.sh []),some (.int c,.own),some (.int (1+s),.own),none] ?_);refine x8 (yH (js:=[none,some 2]) (p:=λx=>!decide (x∈row)) (r:=[some (iL row,.sh [])]) (VD (f:=eC (.int 1)) (i:=1) (j:=(L.length:Int)+1) (t:=.own) (t2:=.own) rfl (aZ (bZ (d:=aQ L) (t:=.sh []) rfl BY) rfl rfl) rfl (A3 (by lia) (by lia))) (by rw[o9];lia) (λx=>rfl) (λx mx=>ON (l:=row) (t:=.sh []) (t2:=.sh []) rfl rfl)) ?_;rw[show((L.length:Int)+1-1).toNat=L.length by lia];have hi:=(Vy 1 L.length).sublist (aeb (p:=λx=>!decide (x∈row)));have A2:∀x∈(cR 1 L.length).filter (λx=>!decide (x∈row)),1<=x/\x<=(L.length:Int):=λx mx=>by have:=vO.mp (ac2.mp mx).1;lia
 have uD:((cR 1 L.length).filter (λx=>!decide (x∈row))).length<=24:=ac9 (aeq _ _) (by rw[o9];exact kj);generalize(cR 1 L.length).filter (λx=>!decide (x∈row))=eO at hi A2 uD;refine dg [some (iL l2,.own),some (aQ L,.sh []),some (iL row,.sh []),some (.int c,.own),some (.int (1+s),.own),some (iL eO,.own)] ?_;exact⟨_,Zi (yH (r:=[some (.int (1+s),.sh []),some (.int c,.sh [])]) rfl (by lia) (λx=>rfl) (λx gu=>mH rfl (cV (aZ (mx rfl (oV rfl) rfl (by have:=A2 x gu;lia) (by lia)) rfl rfl)))) rfl,_,_,rfl,_,l2,rfl,rfl,λx gu=>A2 x (ac2.mp gu).1,ac9 (aeq _ _) uD,hi.sublist aeb⟩
structure WL(w:List D->D):Prop extends uG w where
 ls:∀l:List Int,jY (dR w l)=some (iL l)
 lt:w=D.lst\/w=D.tup
theorem Cr:WL D.lst:=⟨wL,λl=>qY,.inl rfl⟩
theorem Xk:WL D.tup:=⟨wT,λl=>Nk,.inr rfl⟩
theorem Nv{w1 w2:List D->D}(W1:WL w1)(W2:WL w2)(v1:ai 1 ρ=some (dR w1 a,t1))(v2:ai 2 ρ=some (dR w2 b,t2))(hl:a.length+b.length<=100):e2 uP (e1 jY (ai 1)) (e1 jY (ai 2)) ρ=some (iL (a++b),.own):=
 aZ (bZ v1 (W1.ls a)) (bZ v2 (W2.ls b)) (Ic (by unfold PySem.sizeLine;lia))
theorem tw{g:SF}{r:Option Out}(ρ':aE)(h:g ρ'=r)(e:ρ=ρ':=by rfl):g ρ=r:=by rw[e,h]
def adds(m l:List Int):List Int:=l.foldl add m
theorem MV:∀{l m:List Int}{x:Int},x∈adds m l↔x∈m\/x∈l
 |[],m,x=>by simp[adds]
 |a::l,m,x=>by
  have:=MV (l:=l) (m:=add m a) (x:=x);show x∈adds (add m a) l↔_;rw[this,ML,aaG,or_assoc]
noncomputable def lV(x:Int):D:=.tup [.int x,.bl true]
theorem GC:∀l:List Int,iQ (l.map lV)=some (l.map kB)
 |[]=>rfl
 |p::r=>by
  rw[aaz];show(match gJ (.int p),iQ (r.map lV) with|some k,some ps=>if aI (.bl true)=true then some ((k,D.bl true)::ps) else none|_,_=>none)=_;rw[GC r];rfl
theorem LD:∀(l m:List Int),(l.map kB).foldl (λm p=>putD m p.1 p.2) (m.map kB)=(adds m l).map kB
 |[],_=>rfl
 |p::r,m=>by rw[aaz,adj];show(r.map kB).foldl _ (putD (m.map kB) (Sum.inl p:Key) (.bl true))=_;rw[M7];exact LD r _
theorem YX:uK (.lst (l.map lV))=some (dB (adds [] l)):=by
 show(iQ (l.map lV)).map _=_;rw[GC];show some (D.bS ((l.map kB).foldl (λm p=>putD m p.1 p.2) []))=_;rw[show([]:List (Key×D))=([]:List Int).map kB from rfl,LD];rfl
theorem aaf{L:List Sp}(g:dN L){w1 w2 w3:List D->D}(W1:WL w1)(W2:WL w2)(W3:WL w3){a b wt:List Int}(hl:a.length+b.length<=100)(hw:∀x∈wt,1<=x/\x<=(L.length:Int))(jk:wt.length<=100):DJ [obj (cs L),dR w1 a,dR w2 b,dR w3 wt]=some (iL (wt.filter (gM (cs L) (a++b)))):=by
 refine cX rfl (eB (d:=dB (adds [] (a++b))) (bZ (d:=.lst ((a++b).map lV)) (t:=.own) ?_ YX) (tw [some (obj (cs L),.sh []),some (dR w1 a,.sh []),some (dR w2 b,.sh []),some (dR w3 wt,.sh []),some (dB (adds [] (a++b)),.own)] (d7 (yH (t:=.sh []) (r:=[some (obj (cs L),.sh []),some (dB (adds [] (a++b)),.sh [])]) (W3.it (o:=[]) rfl) (by lia) (λx=>rfl) (λx gu=>?_)))))
 .refine(mK (js:=[none]) (g:=gN 0) (k:=λd=>match d with | .int x=>some (lV x) | _=>none) (k_ (Nv W1 W2 (t1:=.sh []) (t2:=.sh []) rfl rfl hl)) (by rw[List.length_map,ack];exact size_le (by lia)) (λd m=>by
   obtain⟨x,gu,rfl⟩:=acu.mp m;exact xV (aD:=[some (.int x,.sh [])]) (tg:=.sh []) rfl rfl rfl rfl)).trans ?_
  rw[adY,show((a++b).filterMap ((λd=>match d with|D.int x=>some (lV x)|_=>none) ∘ D.int))=(a++b).map lV from pI lV _]
 .obtain⟨h1,h2⟩:=hw x gu;refine cV (zV (t:=.own) (p:=λy=>decide (y∈a++b)) (k_ (kL (C:=cs L) (t:=.sh []) (t2:=.sh []) rfl rfl (Te h1 (by rw[List.length_map];exact h2)))) (by have:=(rN g).ld.few x;lia) (λy my=>nh (aD:=[some (.int y,.sh []),some (dB (adds [] (a++b)),.sh [])]) rfl rfl (aZ (d1:=.int y) (t1:=.sh []) (d2:=dB (adds [] (a++b))) (t2:=.sh []) rfl rfl ?_)));rw[X5,show decide (y∈adds [] (a++b))=decide (y∈a++b) from decide_eq_decide.mpr (by rw[MV];simp)]
theorem Vk{L:List Sp}(g:dN L){w1 w2:List D->D}(W1:WL w1)(W2:WL w2){a b:List Int}{v:bQ}(hl:a.length+b.length<=100)(hb:∀x∈a++b,1<=x/\x<=(L.length:Int))(h:gG [] (gw (cs L) (a++b))=some v):ZQ [obj (cs L),dR w1 a,dR w2 b]=some (aS (mQ (nz v))):=
 cX rfl (d7 (bZ (cN (ps:=[(obj (cs L),.sh []),(iL (a++b),.own)]) (by rw[bA,bA];show jZ _ (jZ (e2 uP _ _ [some (obj (cs L),.sh []),some (dR w1 a,.sh []),some (dR w2 b,.sh [])]) _)=_;rw[Nv W1 W2 (t1:=.sh []) (t2:=.sh []) rfl rfl hl];rfl) (YW (C:=cs L) wL (row:=a++b) (rN g) (λx gu=>by rw[List.length_map];exact hb x gu) (by rw[ack];omega) h)) WE))
theorem QG(h:∀k,gV u k=gV v k)(E:List Ed):bad u E=bad v E:=by
 unfold bad
 congr 1
 refine List.filter_congr λp _=>?_
 unfold jl;have:=h p.1;unfold gV at this;rw[this]
theorem Xu{L:List Sp}(g:dN L){v:bQ}{m:Int}(h1:1<=m)(h2:m<=(L.length:Int)):CM [obj (cs L),aS v,.int m]=some (.bl (dG (cs L) v m)):=
 cX rfl (d7 (aZ (cN (ps:=[(aS v,.sh []),(eL (br (cs L) m),.own)]) (by rw[bA,bA];show jZ _ (jZ (gO _ _ _ _ _ [some (obj (cs L),.sh []),some (aS v,.sh []),some (.int m,.sh [])]) _)=_;rw[kL rfl rfl (CI h1 (by rw[List.length_map];exact h2))];rfl) (KP ((rN g).ed m) (by lia) D.lst rfl)) rfl D7))
theorem Tc:Fw=bM 2 2 (jd MK):=rfl
theorem OX:B6=bM 2 2 (jd Fw):=rfl
theorem same_int{G:List D->Option D}(a:Int):bM 2 2 (jd G) [.int a,.int a]=some (.bl true):=by
 refine cX rfl ?_;show jd G [some (.int a,.sh []),some (.int a,.sh [])]=_;have c1:tV (e1 (qZ "tuple") (ai 1)) [some (.int a,.sh []),some (.int a,.sh [])]=some false:=rfl;have c2:tV (e1 (gW "list") (ai 1)) [some (.int a,.sh []),some (.int a,.sh [])]=some false:=rfl;have c3:tV (e2 iD (ai 1) (eC .aH)) [some (.int a,.sh []),some (.int a,.sh [])]=some false:=rfl;have c4:tV (e1 (gW "str") (ai 1)) [some (.int a,.sh []),some (.int a,.sh [])]=some false:=rfl;have c5:e1 (gW "int") (ai 0) [some (.int a,.sh []),some (.int a,.sh [])]=some (.bl true,.own):=rfl;have c6:e1 ET (e1 (gW "bool") (ai 0)) [some (.int a,.sh []),some (.int a,.sh [])]=some (.bl true,.own):=rfl;have c7:e2 oEq (ai 0) (ai 1) [some (.int a,.sh []),some (.int a,.sh [])]=some (.bl (a==a),.own):=rfl;unfold jd;rw[jx,fN,c1,uu,qg,oY,jx,fN,c2,uu,qg,oY,jx,fN,c3,uu,qg,oY,jx,fN,c4,uu,qg,oY,BE,F8,c5,HU,F8,c6,HU,c7,aec];rfl
theorem all_true{l:List Int}:l.all (λ_=>true)=true:=by simp
theorem R4{ds:List D}{x:Int}(h1:0<=x)(h2:x<ds.length):∃d∈ds,bV ds x=some d:=by
 have bI:x.toNat<ds.length:=by omega
 refine⟨ds[x.toNat],adM bI,?_⟩;unfold bV h_;rw[if_pos (by omega),if_pos (by omega),acq,aau bI]
theorem X8{G:List D->Option D}{ds:List D}(hl:ds.length<=1000)(h:∀d∈ds,G [d,d]=some (.bl true)):bM 2 2 (jd G) [.lst ds,.lst ds]=some (.bl true):=by
 refine cX rfl ?_;show jd G [some (.lst ds,.sh []),some (.lst ds,.sh [])]=_;have c1:tV (e1 (qZ "tuple") (ai 1)) [some (.lst ds,.sh []),some (.lst ds,.sh [])]=some false:=rfl;have c2:tV (e1 (gW "list") (ai 1)) [some (.lst ds,.sh []),some (.lst ds,.sh [])]=some true:=rfl;have l0:e1 dZ (ai 0) [some (.lst ds,.sh []),some (.lst ds,.sh [])]=some (.int ds.length,.own):=by
  have v:ai 0 [some (.lst ds,.sh []),some (.lst ds,.sh [])]=some (.lst ds,.sh []):=rfl;rw[v9,v,zD,sQ];rfl
 have l1:e1 dZ (ai 1) [some (.lst ds,.sh []),some (.lst ds,.sh [])]=some (.int ds.length,.own):=by
  have v:ai 1 [some (.lst ds,.sh []),some (.lst ds,.sh [])]=some (.lst ds,.sh []):=rfl;rw[v9,v,zD,sQ];rfl
 have c3:jr (gU (tV (e1 (gW "list") (ai 0)))) (tV (e2 iB (e1 dZ (ai 0)) (e1 dZ (ai 1)))) [some (.lst ds,.sh []),some (.lst ds,.sh [])]=some (false||!((ds.length:Int)==ds.length)):=by
  refine mH rfl ?_;rw[uJ,nR,l0,l1,AD];rfl
 have hc:=zV (js:=[none,some 0,some 1]) (g:=gN 0) (te:=bP G (aA (c8 (ai 1) (ai 0)) (aA (c8 (ai 2) (ai 0)) aX))) (p:=λ_=>true) (u9 l1 hl) (by unfold cR;rw[List.length_map,acZ];lia) (λx gu=>by
  obtain⟨h1,h2⟩:=vO.mp gu;obtain⟨d,md,hd⟩:=R4 (ds:=ds) h1 (by lia);refine nh (aD:=[some (.int x,.sh []),some (.lst ds,.sh []),some (.lst ds,.sh [])]) rfl rfl ?_;have i1:c8 (ai 1) (ai 0) [some (.int x,.sh []),some (.lst ds,.sh []),some (.lst ds,.sh [])]=some (d,.sh []):=by
   show(bV ds x).map _=_;rw[hd];rfl
  have i2:c8 (ai 2) (ai 0) [some (.int x,.sh []),some (.lst ds,.sh []),some (.lst ds,.sh [])]=some (d,.sh []):=by
   show(bV ds x).map _=_;rw[hd];rfl
  rw[s_call,bA,bA,i1,i2,Fe,EB,EB,Im];simp only[aaz,List.map_nil];rw[h d md];rfl)
 unfold jd;rw[jx,fN,c1,uu,qg,oY,jx,fN,c2,Ue,jx,fN,c3,aec];show qJ _ (qJ _ (cP _))=_;rw[qg,oY,BE,hc,all_true];rfl
theorem same_ints{l:List Int}(hl:l.length<=1000):mL [iL l,iL l]=some (.bl true):=by
 show B6 _=_;rw[OX];refine X8 (by rw[List.length_map];exact hl) λd m=>?_
 obtain⟨x,_,rfl⟩:=acu.mp m;rw[Tc];exact same_int x
theorem Xq{L:List Ch}{m:Int}(h1:1<=m)(h2:m<=L.length):wC [obj L,.int m]=some (.int (ch L m).1):=
 cX rfl (d7 (aZ (d1:=ent (ch L m)) (kL rfl rfl (A4 h1 h2)) rfl rfl))
abbrev kf:EF:=p6 (aA (e1 zT (gO "Changes" "rank_of" wC (ai 1) (aA (ai 0) aX))) (aA (ai 0) aX))
abbrev pr(C:List Ch):Int->Int×Int:=sA kf (obj C)
abbrev rk(C:List Ch)(x:Int):Int:=(ch C x).1
theorem J7{C:List Ch}{x:Int}(h1:1<=x)(h2:x<=C.length):qk kf (obj C) x=some (-(rk C x),x):=by
 unfold qk;have e:e1 zT (gO "Changes" "rank_of" wC (ai 1) (aA (ai 0) aX)) [some (.int x,.own),some (obj C,.sh [])]=some (.int (-(rk C x)),.own):=bZ (kL rfl rfl (Xq h1 h2)) rfl;show(match p6 _ _ with|some (.tup [.int a,.int b],_)=>some (a,b)|_=>none)=_;rw[EE,bA,e];rfl
theorem wW(h1:1<=x)(h2:x<=C.length):pr C x=(-(rk C x),x):=by
 show(qk kf (obj C) x).getD _=_;rw[J7 h1 h2];rfl
noncomputable abbrev Row(C:List Ch)(ns:List Int):Prop:=∀x∈ns,1<=x/\x<=(C.length:Int)
theorem LN(h:Row C ns)(hn:ns.Nodup):(ns.map (pr C)).Nodup:=by
 unfold List.Nodup;rw[aeP];refine hn.imp_of_mem λ{a b} ma mb ne e=>ne ?_
 rw[wW (h a ma).1 (h a ma).2,wW (h b mb).1 (h b mb).2] at e;exact(Prod.mk.injEq .. ▸ e).2
theorem UL(h:Row C ns)(hn:ns.Nodup)(hl:ns.length<64):Hu [obj C,iL ns]=some (iL (gF (pr C) ns)):=by
 refine cX rfl (d7 ?_);show(match cM (ns.map D.int) with|some ns=>if ns.length<64/\(ns.map (pr C)).Nodup/\∀n∈ns,(qk kf (obj C) n).isSome=true then some (D.lst ((gF (pr C) ns).map D.int),Tag.own) else none|none=>none)=_;rw[rG];dsimp only;rw[if_pos ⟨hl,LN h hn,λx m=>by rw[J7 (h x m).1 (h x m).2];rfl⟩];rfl
noncomputable def yS:Option Int->D
 |none=>.aH
 |some x=>.int x
def vU:SF:=cQ (tV (bP CM (aA (ai 0) (aA (ai 1) (aA (ai 3) aX))))) (nS 3) cP
theorem Lp{L:List Sp}(g:dN L){v:bQ}{N:D}:∀{l:List Int}{s3:Slot},(∀x∈l,1<=x/\x<=(L.length:Int))->match l.find? (dG (cs L) v) with
  |some x=>cg (gN 3) (.sh []) vU (l.map D.int) [some (obj (cs L),.sh []),some (aS v,.sh []),some (N,.sh []),s3]=some (.rt (.int x))
  |none=>∃t3,cg (gN 3) (.sh []) vU (l.map D.int) [some (obj (cs L),.sh []),some (aS v,.sh []),some (N,.sh []),s3]=some (.nx [some (obj (cs L),.sh []),some (aS v,.sh []),some (N,.sh []),t3])
 |[],s3,_=>⟨s3,rfl⟩
 |x::l,s3,h=>by
  obtain⟨h1,h2⟩:=h x aah;have q:tV (bP CM (aA (ai 0) (aA (ai 1) (aA (ai 3) aX)))) [some (obj (cs L),.sh []),some (aS v,.sh []),some (N,.sh []),some (.int x,.sh [])]=some (dG (cs L) v x):=cV (cN (ps:=[(obj (cs L),.sh []),(aS v,.sh []),(.int x,.sh [])]) rfl (Xu g h1 h2));have ih:=Lp g (v:=v) (N:=N) (l:=l) (s3:=some (.int x,.sh [])) λy m=>h y (aas _ m)
  rw[acN];cases hf:dG (cs L) v x with
  |true=>
   rw[hf] at q;exact Kl (aD:=[some (obj (cs L),.sh []),some (aS v,.sh []),some (N,.sh []),some (.int x,.sh [])]) rfl (by unfold vU;rw[fN,q];rfl)
  |false=>
   rw[hf] at q;have e:=kc (g:=gN 3) (t:=.sh []) (f:=vU) (d:=.int x) (ds:=l.map D.int) (ρ:=[some (obj (cs L),.sh []),some (aS v,.sh []),some (N,.sh []),s3]) (aD:=[some (obj (cs L),.sh []),some (aS v,.sh []),some (N,.sh []),some (.int x,.sh [])]) rfl (by unfold vU;rw[fN,q];rfl);dsimp only;rw[aaz,e];exact ih
theorem YI{L:List Sp}(g:dN L){v:bQ}{ns:List Int}(h:∀x∈ns,1<=x/\x<=(L.length:Int))(hn:ns.Nodup)(hl:ns.length<64):zv [obj (cs L),aS v,iL ns]=some (yS ((gF (pr (cs L)) ns).find? (dG (cs L) v))):=by
 have hR:Row (cs L) ns:=λx m=>by rw[List.length_map];exact h x m
 have hi:gj (bP Hu (aA (ai 0) (aA (ai 2) aX))) [some (obj (cs L),.sh []),some (aS v,.sh []),some (iL ns,.sh []),none]=some ((gF (pr (cs L)) ns).map D.int,.own):=k_ (cN rfl (UL hR hn hl));have lp:=Lp g (v:=v) (N:=iL ns) (l:=gF (pr (cs L)) ns) (s3:=none) λx m=>h x ((ug ns).mem_iff.mp m)
 refine cX rfl ?_;cases e:(gF (pr (cs L)) ns).find? (dG (cs L) v) with
 |none=>
  rw[e] at lp;obtain⟨t3,lp⟩:=lp;exact sq (pW hi lp) rfl
 |some x=>
  rw[e] at lp;exact nv (We hi lp)
noncomputable def mZ(r:Int->Int)(p:Int->Bool)(acc:Option Int)(x:Int):Option Int:=if p x=true then(match acc with
 |none=>some x
 |some y=>if r x > r y then some x else some y) else acc
def nM(r:Int->Int)(p:Int->Bool)(l:List Int):Option Int->Prop
 |none=>∀z∈l,p z=false
 |some y=>y∈l/\p y=true/\∀z∈l,p z=true->z=y\/r z<r y\/(r z=r y/\y<z)
theorem PY{r:Int->Int}{p:Int->Bool}:∀{a b:Option Int},nM r p l a->nM r p l b->a=b
 |none,none,_,_=>rfl
 |none,some y,h,⟨m,q,_⟩=>by rw[h y m] at q;cases q
 |some y,none,⟨m,q,_⟩,h=>by rw[h y m] at q;cases q
 |some y,some z,⟨m,q,h⟩,⟨m',q',h'⟩=>by
  have a:=h z m' q';have b:=h' y m q;rw[show y=z by lia]
theorem Va{r:Int->Int}{p:Int->Bool}(hx:∀y∈l,y<x):∀{a:Option Int},nM r p l a->nM r p (l++[x]) (mZ r p a x):=by
 intro a h;unfold mZ
 by_cases hp:p x=true
 .rw[if_pos hp];cases a with
  |none=>
   refine⟨aaQ _ aah,hp,λz m q=>?_⟩;rcases ab3.mp m with m|m
   .rw[h z m] at q;cases q
   .exact .inl (aat.mp m)
  |some y=>
   obtain⟨m,q,h⟩:=h;have lt:=hx y m;dsimp only
   by_cases hr:r x > r y
   .rw[if_pos hr];refine⟨aaQ _ aah,hp,λz mz qz=>?_⟩;rcases ab3.mp mz with mz|mz
    .rcases h z mz qz with e|e|e
     .rw[e];exact .inr (.inl hr)
     .exact .inr (.inl (by lia))
     .exact .inr (.inl (by lia))
    .exact .inl (aat.mp mz)
   .rw[aa7 hr];refine⟨acf _ m,q,λz mz qz=>?_⟩;rcases ab3.mp mz with mz|mz
    .exact h z mz qz
    .rw[aat.mp mz]
     by_cases e:r x=r y
     .exact .inr (.inr ⟨e,lt⟩)
     .exact .inr (.inl (by lia))
 .rw[aa7 hp];have Lu:p x=false:=by simpa using hp
  cases a with
  |none=>exact λz m=>(ab3.mp m).elim (h z) λm=>by rw[aat.mp m];exact Lu
  |some y=>
   obtain⟨m,q,h⟩:=h;refine⟨acf _ m,q,λz mz qz=>?_⟩;rcases ab3.mp mz with mz|mz
   .exact h z mz qz
   .rw[aat.mp mz,Lu] at qz;cases qz
theorem Ar{r:Int->Int}{p:Int->Bool}:∀(l pre:List Int) {a:Option Int},(pre++l).Pairwise (· < ·)->nM r p pre a->nM r p (pre++l) (l.foldl (mZ r p) a)
 |[],pre,a,_,h=>by rw[acB];exact h
 |x::l,pre,a,hw,h=>by
  have hx:∀y∈pre,y<x:=λy m=>(acP.mp hw).2.2 y m x aah
  have e:pre++x::l=(pre++[x])++l:=by rw[acw];rfl
  rw[e] at hw ⊢;exact Ar l (pre++[x]) hw (Va hx h)
theorem WQ{q f:Int->Bool}(h:Row C wt)(hn:wt.Nodup):nM (rk C) (λx=>q x&&f x) wt ((gF (pr C) (wt.filter q)).find? f):=by
 have hs:=AU (pr:=pr C) (LN (ns:=wt.filter q) (λx m=>h x (ac2.mp m).1) (hn.sublist aeb));have hp:=ug (pr:=pr C) (wt.filter q);generalize gF (pr C) (wt.filter q)=s at hs hp;have hm:∀{z},z∈s↔z∈wt/\q z=true:=λ{z}=>hp.mem_iff.trans ac2
 cases e:s.find? f with
 |none=>
  intro z m;have:=aeH.mp e;show(q z&&f z)=false;cases hq:q z with
  |false=>rfl
  |true=>have:=this z (hm.mpr ⟨m,hq⟩);simpa using this
 |some x=>
  obtain⟨fx,as,bs,rfl,nx⟩:=List.find?_eq_some_iff_append.mp e;obtain⟨mx,qx⟩:=hm.mp (aaQ as aah);refine⟨mx,(aaF _ _).mpr ⟨qx,fx⟩,λz mz pz=>?_⟩;obtain⟨qz,fz⟩:=(aaF _ _).mp pz;rcases ab3.mp (hm.mpr ⟨mz,qz⟩) with m|m
  .have:=nx z m;rw[fz] at this;cases this
  .rcases aaG.mp m with m|m
   .exact .inl m
   .have:=(ac1.mp (acP.mp hs).2.1).1 z m;rw[wW (h x mx).1 (h x mx).2,wW (h z mz).1 (h z mz).2] at this;have:=aaR this;dsimp only at this;exact .inr (by lia)
def best(C:List Ch)(v:bQ)(there wt:List Int):Option Int:=wt.foldl (mZ (rk C) λx=>gM C there x&&dG C v x) none
theorem ab0(h:Row C wt)(hi:wt.Pairwise (· < ·)):(gF (pr C) (wt.filter (gM C there))).find? (dG C v)=best C v there wt:=
 PY (WQ h (hi.imp λh e=>by omega)) (Ar wt [] hi λ_ m=>nomatch m)
theorem abt(h:Row C wt)(hi:wt.Pairwise (· < ·))(e:best C v there wt=some x):x∈wt/\dG C v x=true:=by
 have:nM (rk C) (λx=>gM C there x&&dG C v x) wt (best C v there wt):=Ar wt [] hi λ_ m=>nomatch m
 rw[e] at this;exact⟨this.1,((aaF _ _).mp this.2.1).2⟩
noncomputable def sB:Option Int->Slot
 |none=>some (.aH,.own)
 |some x=>some (.int x,.sh [])
def rB(L:List Sp)(a b wt there:List Int)(v:bQ)(bo:Option Int)(s7:Slot):aE:=[some (aQ L,.sh []),some (iL a,.sh []),some (iL b,.sh []),some (iL wt,.sh []),some (iL there,.own),some (aS v,.own),sB bo,s7]
def tB:TF:=(jr (tV (e2 iD (ai 6) (eC .aH))) (tV (e2 Bf (iC (c8 (ai 0) (e2 mF (ai 7) (eC (.int 1)))) (eC (.int 0))) (iC (c8 (ai 0) (e2 mF (ai 6) (eC (.int 1)))) (eC (.int 0))))))
def bB:SF:=(cQ (pY (tV (bP za (aA (ai 0) (aA (ai 4) (aA (ai 7) aX))))) (tV (e2 iD (bP Ai (aA (ai 0) (aA (ai 5) (aA (ai 7) aX)))) (eC .aH)))) (cQ tB (gD 6 (ai 7)) cP) cP)
theorem Zq{L:List Sp}(g:dN L){a b wt there:List Int}{v:bQ}{bo:Option Int}{x:Int}(h:1<=x/\x<=(L.length:Int))(hb:∀y,bo=some y->1<=y/\y<=(L.length:Int)):
  bB (rB L a b wt there v bo (some (.int x,.sh [])))=some (.nx (rB L a b wt there v (mZ (rk (cs L)) (λx=>gM (cs L) there x&&dG (cs L) v x) bo x) (some (.int x,.sh [])))):=by
 have q:pY (tV (bP za (aA (ai 0) (aA (ai 4) (aA (ai 7) aX))))) (tV (e2 iD (bP Ai (aA (ai 0) (aA (ai 5) (aA (ai 7) aX)))) (eC .aH))) (rB L a b wt there v bo (some (.int x,.sh [])))=some (gM (cs L) there x&&dG (cs L) v x):=
  wA (cV (cN rfl (Ge g h.1 h.2))) (cV (aZ (cN rfl (Hr h.1 h.2)) rfl D7))
 unfold bB;rw[fN,q];unfold mZ;cases hp:(gM (cs L) there x&&dG (cs L) v x) with
 |false=>rw[aa7 (show ¬(gM (cs L) there x&&dG (cs L) v x)=true by rw[hp];exact abI)];rfl
 |true=>
  rw[if_pos (show(gM (cs L) there x&&dG (cs L) v x)=true from hp)];show cQ tB (gD 6 (ai 7)) cP _=_;cases bo with
  |none=>rfl
  |some y=>
   obtain⟨h1,h2⟩:=hb y rfl;have Lf:∀{i:Nat}{z:Int}{t:Tag},1<=z->z<=(L.length:Int)->ai i (rB L a b wt there v (some y) (some (.int x,.sh [])))=some (.int z,t)->iC (c8 (ai 0) (e2 mF (ai i) (eC (.int 1)))) (eC (.int 0)) (rB L a b wt there v (some y) (some (.int x,.sh [])))=some (.int (rk (cs L) z),.sh []):=λ{i z t} a1 a2 e=>by
    have:=(uh (zR (i:=0) (o:=[]) (t:=.own) rfl (aZ (op:=mF) (g:=eC (.int 1)) (d2:=.int 1) (t2:=.own) (d:=.int (z-1)) e rfl rfl) a1 a2)).1;rw[BB a1 a2] at this;exact this
   have q2:tB (rB L a b wt there v (some y) (some (.int x,.sh [])))=some (decide (rk (cs L) y<rk (cs L) x)):=mH (a:=false) (cV (aZ (d1:=.int y) (t1:=.sh []) (d2:=.aH) (t2:=.own) rfl rfl rfl)) (cV (aZ (Lf (t:=.sh []) h.1 h.2 rfl) (Lf (t:=.sh []) h1 h2 rfl) Lj));rw[fN,q2]
   by_cases hr:rk (cs L) x > rk (cs L) y
   .rw[abU (show rk (cs L) y<rk (cs L) x from hr)];dsimp only;rw[if_pos hr];rfl
   .rw[aco (show ¬rk (cs L) y<rk (cs L) x from hr)];dsimp only;rw[aa7 hr];rfl
theorem Nh{L:List Sp}(g:dN L){a b wt there:List Int}{v:bQ}:∀{l:List Int}{bo:Option Int}{s7:Slot},(∀x∈l,1<=x/\x<=(L.length:Int))->(∀y,bo=some y->1<=y/\y<=(L.length:Int))->
  ∃t7,cg (gN 7) (.sh []) bB (l.map D.int) (rB L a b wt there v bo s7)=some (.nx (rB L a b wt there v (l.foldl (mZ (rk (cs L)) λx=>gM (cs L) there x&&dG (cs L) v x) bo) t7))
 |[],bo,s7,_,_=>⟨s7,rfl⟩
 |x::l,bo,s7,h,hb=>by
  have hx:=h x aah;obtain⟨t7,e⟩:=Nh g (wt:=wt) (there:=there) (bo:=mZ (rk (cs L)) (λx=>gM (cs L) there x&&dG (cs L) v x) bo x) (λy m=>h y (aas _ m)) (λy e=>by
   unfold mZ at e
   split at e
   .split at e
    .cases e;exact hx
    .split at e
     .cases e;exact hx
     .cases e;exact hb _ rfl
   .exact hb y e)
  exact⟨t7,(kc rfl (Zq g hx hb)).trans e⟩
theorem TJ{L:List Sp}(g:dN L){a b wt:List Int}{v:bQ}(hl:a.length+b.length<=100)(hb:∀x∈a++b,1<=x/\x<=(L.length:Int))(hv:v=m8 (cs L) [] (a++b))(hw:∀x∈wt,1<=x/\x<=(L.length:Int)):DO [aQ L,iL a,iL b,iL wt]=some (yS (best (cs L) v (a++b) wt)):=by
 obtain⟨t7,e⟩:=Nh g (wt:=wt) (there:=a++b) (bo:=none) hw (λy e=>nomatch e);refine cX rfl ?_;refine eB (d:=iL (a++b)) (aZ (d1:=iL a) (d2:=iL b) rfl rfl (Ic (by unfold PySem.sizeLine;lia))) ?_;refine eB (d:=aS v) (cN rfl (by rw[hv];exact GJ g hb (by rw[ack];lia))) ?_;refine eB (d:=.aH) rfl ?_;refine sq (ρ':=rB L a b wt (a++b) v (best (cs L) v (a++b) wt) t7) (pZ rfl e) ?_;cases best (cs L) v (a++b) wt<;>rfl
theorem YB{c:TF}{b:SF}{n:Nat}{ρ ρ':aE}(h1:c ρ=some true)(h2:b ρ=some (.nx ρ')):iz c b (n+1) ρ=iz c b n ρ':=by rw[iz,h1];dsimp only;rw[h2]
theorem ZK{c:TF}{b:SF}{n:Nat}{ρ:aE}(h1:c ρ=some false):iz c b (n+1) ρ=some (.nx ρ):=by rw[iz,h1]
theorem abA{c:TF}{b:SF}{n:Nat}{ρ:aE}{d:D}(h1:c ρ=some true)(h2:b ρ=some (.rt d)):iz c b (n+1) ρ=some (.rt d):=by rw[iz,h1];dsimp only;rw[h2]
def ext(C:List Ch)(ln:List Int)(w:Int):Nat->List Int->List Int->bQ->List Int
 |0,_,_,_=>[]
 | k + 1,told,left,v=>if(told.length:Int) < w then(match best C v (ln++told) left with
  |none=>[]
  |some x=>x::ext C ln w k (told++[x]) (left.erase x) (cK v (br C x))) else[]
structure Fv(L:List Sp)(ln told left:List Int)(v:bQ):Prop where
 wb:∀x∈left,1<=x/\x<=(L.length:Int)
 wi:left.Pairwise (· < ·)
 lb:∀x∈ln++told,1<=x/\x<=(L.length:Int)
 run:gG [] (gw (cs L) (ln++told))=some v
section
variable{L:List Sp}{ln told left:List Int}{v:bQ}{x:Int}
theorem Fv.row(F:Fv L ln told left v):Row (cs L) left:=λx m=>by rw[List.length_map];exact F.wb x m
theorem Fv.mem(F:Fv L ln told left v)(e:best (cs L) v (ln++told) left=some x):x∈left/\dG (cs L) v x=true:=abt F.row F.wi e
theorem Fv.step(F:Fv L ln told left v)(e:best (cs L) v (ln++told) left=some x):Fv L ln (told++[x]) (left.erase x) (cK v (br (cs L) x)):=by
 obtain⟨m,f⟩:=F.mem e;refine⟨λy my=>F.wb y (List.mem_of_mem_erase my),F.wi.sublist List.erase_sublist,λy my=>?_,?_⟩
 .rw[<- acw] at my;rcases ab3.mp my with my|my
  .exact F.lb y my
  .rw[aat.mp my];exact F.wb x m
 .rw[<- acw];exact CW F.run (Me.mp f)
end
def rF(L:List Sp)(w1 w2 w3:List D->D)(ln ld wt:List Int)(w:Int)(told left:List Int)(u:bQ)(s8 s9 f6 g7:Slot):aE:=[some (obj (cs L),.sh []),some (dR w1 ln,.sh []),some (dR w2 ld,.sh []),some (dR w3 wt,.sh []),some (.int w,.sh []),some (iL told,.own),some (iL left,.own),some (aS u,.own),s8,s9,f6,g7]
def tF:TF:=tV (e2 oLt (e1 dZ (ai 5)) (ai 4))
def bF:SF:=(bO (gD 8 (bP zv (aA (ai 0) (aA (ai 7) (aA (bP DJ (aA (ai 0) (aA (ai 1) (aA (ai 5) (aA (ai 6) aX))))) aX))))) (bO (cQ (tV (e2 iD (ai 8) (eC .aH))) (nS 5) cP) (bO (qC 5 (ai 8)) (bO (r9 6 (ai 8)) (gz (gj (gO "Changes" "edits_of" wM (ai 0) (aA (ai 8) aX))) (gT (cW (gN 9) (cW (gN 10) (cW (gN 11) k7)))) (j9 7 (ai 9) (ai 11)))))))
theorem Mz{L:List Sp}(g:dN L){w1 w2 w3:List D->D}(W1:WL w1){ln ld wt:List Int}{w:Int}:∀{n:Nat}{told left:List Int}{v u:bQ}{s8 s9 f6 g7:Slot},Fv L ln told left v->(∀k,gV u k=gV v k)->left.length<n->left.length<64->ln.length+told.length+left.length<=90->u.length+20*left.length<=3000->
  ∃r,iz tF bF n (rF L w1 w2 w3 ln ld wt w told left u s8 s9 f6 g7)=some r/\(r=.rt (iL (told++ext (cs L) ln w n told left v))\/∃ρ,r=.nx ρ/\ρ[5]? = some (some (iL (told++ext (cs L) ln w n told left v),.own)))
 |0,_,_,_,_,_,_,_,_,_,_,h,_,_,_=>by lia
 |n+1,told,left,v,u,s8,s9,f6,g7,F,hu,h,hl6,hl,hul=>by
  have c1:tF (rF L w1 w2 w3 ln ld wt w told left u s8 s9 f6 g7)=some (decide ((told.length:Int)<w)):=cV (aZ (bZ (d:=iL told) (t:=.sh [5]) rfl oq) rfl rfl);unfold ext
  by_cases hw:(told.length:Int)<w
  .rw[abU hw] at c1;rw[if_pos hw];have VN:left.Nodup:=F.wi.imp λh e=>by lia
   have ef:dG (cs L) u=dG (cs L) v:=funext λx=>by
    unfold dG;rw[QG hu]
   have q1:bP zv (aA (ai 0) (aA (ai 7) (aA (bP DJ (aA (ai 0) (aA (ai 1) (aA (ai 5) (aA (ai 6) aX))))) aX))) (rF L w1 w2 w3 ln ld wt w told left u s8 s9 f6 g7)=some (yS (best (cs L) v (ln++told) left),.own):=by
    refine cN (ps:=[(obj (cs L),.sh []),(aS u,.sh [7]),(iL (left.filter (gM (cs L) (ln++told))),.own)]) ?_ ?_
    .rw[bA,bA,bA,cN (ps:=[(obj (cs L),.sh []),(dR w1 ln,.sh []),(iL told,.sh [5]),(iL left,.sh [6])]) rfl (aaf g W1 Cr Cr (a:=ln) (b:=told) (wt:=left) (by lia) F.wb (by lia))];rfl
    .show zv [obj (cs L),aS u,_]=_;rw[YI g (λx m=>F.wb x (ac2.mp m).1) (VN.sublist aeb) (aef (aeq _ _) hl6),ef,ab0 F.row F.wi]
   cases hb:best (cs L) v (ln++told) left with
   |none=>
    rw[hb] at q1;refine⟨_,abA c1 (eB q1 (nv rfl)),.inl ?_⟩;show _=Out.rt (iL (told++[]));rw[acB]
   |some x=>
    rw[hb] at q1;obtain⟨m,f⟩:=F.mem hb;obtain⟨h1,h2⟩:=F.wb x m;have hE:=(oH g x).few;have kK:=aeG m;have hp:=List.length_pos_of_mem m;obtain⟨t9,Mp,JB,lp⟩:=tY (g:=gT (cW (gN 9) (cW (gN 10) (cW (gN 11) k7)))) (t:=.sh []) (f:=j9 7 (ai 9) (ai 11)) (λv x' y z=>rF L w1 w2 w3 ln ld wt w (told++[x]) (left.erase x) v (some (.int x,.own)) x' y z) (λ_ _ _ _ _=>rfl) (λv p h=>yc (es:=v) (k:=p.1) (v:=p.2.2) (t1:=.sh [11]) (t2:=.sh [9]) rfl rfl rfl h) (E:=br (cs L) x) (v:=u) (x:=gk 6 (gk 5 s9)) (y:=gk 6 (gk 5 f6)) (z:=gk 6 (gk 5 g7)) (by lia);have st:bF (rF L w1 w2 w3 ln ld wt w told left u s8 s9 f6 g7)=some (.nx (rF L w1 w2 w3 ln ld wt w (told++[x]) (left.erase x) (cK u (br (cs L) x)) (some (.int x,.own)) t9 Mp JB)):=by
     refine eB q1 (kF rfl ?_);refine sq (ρ':=rF L w1 w2 w3 ln ld wt w (told++[x]) left u (some (.int x,.own)) (gk 5 s9) (gk 5 f6) (gk 5 g7)) ((Dh (ns:=told) (n:=x) (t1:=.sh [8]) rfl rfl (size_le (by lia))).trans rfl) ?_;refine sq (ρ':=rF L w1 w2 w3 ln ld wt w (told++[x]) (left.erase x) u (some (.int x,.own)) (gk 6 (gk 5 s9)) (gk 6 (gk 5 f6)) (gk 6 (gk 5 g7))) ((F9 (ns:=left) (t:=.sh [8]) rfl rfl m).trans rfl) ?_;exact pW (k_ (kL (C:=cs L) (t:=.sh []) (t2:=.sh [8]) rfl rfl (CI h1 (by rw[List.length_map];exact h2)))) lp
    have hpu:=sD (br (cs L) x) u;obtain⟨r,e,h⟩:=Mz g (w2:=w2) (w3:=w3) W1 (ld:=ld) (wt:=wt) (w:=w) (n:=n) (s8:=some (.int x,.own)) (s9:=t9) (f6:=Mp) (g7:=JB) (u:=cK u (br (cs L) x)) (F.step hb) (λk=>by
     obtain⟨a1,a2⟩:=xo (br (cs L) x) u k ((rN g).nd x);obtain⟨b1,b2⟩:=xo (br (cs L) x) v k ((rN g).nd x);unfold gV
     by_cases mk:k∈(br (cs L) x).map (·.1)
     .obtain⟨p,mp,rfl⟩:=acu.mp mk;rw[a1 p mp rfl,b1 p mp rfl]
     .rw[a2 mk,b2 mk];exact hu k) (by lia) (by lia) (by rw[ack];simp only[aej];lia) (by lia)
    rw[acw] at h;exact⟨r,(YB c1 st).trans e,h⟩
  .rw[aco hw] at c1;rw[aa7 hw];exact⟨_,ZK c1,.inr ⟨_,rfl,by rw[acB];rfl⟩⟩
theorem Yn{L:List Sp}(g:dN L){w1 w2 w3:List D->D}(W1:WL w1)(W2:WL w2)(W3:WL w3){ln ld wt:List Int}{w:Int}{v:bQ}(F:Fv L ln ld wt v)(hv:(v.map (·.1)).Nodup)(mq:v.length<=2000)(hl:ln.length+ld.length<=60)(jk:wt.length<=24):
  LW [obj (cs L),dR w1 ln,dR w2 ld,dR w3 wt,.int w]=some (iL (ld++ext (cs L) ln w 4000 ld wt v)):=by
 have hd:=Ux (nz v);have hn:=Zp v;obtain⟨r,e,h⟩:=Mz g (w2:=w2) (w3:=w3) W1 (ld:=ld) (wt:=wt) (w:=w) (n:=4000) (u:=mQ (nz v)) (s8:=none) (s9:=none) (f6:=none) (g7:=none) F (λk=>YC hv k) (by lia) (by lia) (by lia) (by lia);refine cX rfl ?_;refine eB (d:=iL ld) (bZ (d:=dR w2 ld) (t:=.sh []) rfl (W2.ls ld)) ?_;refine eB (d:=iL wt) (bZ (d:=dR w3 wt) (t:=.sh []) rfl (W3.ls wt)) ?_;refine eB (d:=aS (mQ (nz v))) (cN (ps:=[(obj (cs L),.sh []),(dR w1 ln,.sh []),(dR w2 ld,.sh [])]) rfl (Vk g W1 W2 (by lia) F.lb F.run)) ?_;show bO (iz tF bF 4000) (nS 5) (rF L w1 w2 w3 ln ld wt w ld wt (mQ (nz v)) none none none none)=_;rcases h with rfl|⟨ρ,rfl,h⟩
 .exact nv e
 .refine sq e ?_;rw[UZ,h];rfl
theorem Wb{x:Int}:mL [.int x,.int x]=some (.bl true):=same_int x
def rK(L:List Sp)(ln ld wt:List Int)(w:Int)(fo here rest:List Int)(s8 s9:Slot):aE:=[some (aQ L,.sh []),some (iL ln,.sh []),some (iL ld,.sh []),some (iL wt,.sh []),some (.int w,.sh []),some (iL fo,.sh []),some (iL here,.own),some (iL rest,.own),s8,s9]
def bK:SF:=(bO (gD 9 (bP DO (aA (ai 0) (aA (ai 1) (aA (ai 6) (aA (ai 7) aX)))))) (bO (cQ (jr (tV (e2 p9 (e1 dZ (ai 6)) (ai 4))) (jr (tV (e2 iD (ai 9) (eC .aH))) (gU (tV (bP mL (aA (ai 8) (aA (ai 9) aX))))))) (fQ (eC (.bl false))) cP) (bO (qC 6 (ai 9)) (r9 7 (ai 9)))))
section
variable{L:List Sp}{ln ld wt fo:List Int}{w:Int}
theorem N8(g:dN L){here rest:List Int}{v:bQ}{s8 s9:Slot}(F:Fv L ln here rest v)(hl:ln.length+here.length<=100):bP DO (aA (ai 0) (aA (ai 1) (aA (ai 6) (aA (ai 7) aX)))) (rK L ln ld wt w fo here rest s8 s9)=some (yS (best (cs L) v (ln++here) rest),.own):=
 cN (ps:=[(aQ L,.sh []),(iL ln,.sh []),(iL here,.sh [6]),(iL rest,.sh [7])]) rfl (TJ g hl F.lb (tS F.run) F.wb)
theorem KO(g:dN L):∀{n:Nat}{here rest:List Int}{v:bQ}{s8 s9:Slot},Fv L ln here rest v->rest.length<n->ln.length+here.length+rest.length<=90->
  ∃qA uN v' t8 t9,cg (gN 8) (.sh []) bK ((ext (cs L) ln w n here rest v).map D.int) (rK L ln ld wt w fo here rest s8 s9)=some (.nx (rK L ln ld wt w fo qA uN t8 t9))/\Fv L ln qA uN v'/\ln.length+qA.length<=90/\((qA.length:Int)<w->best (cs L) v' (ln++qA) uN=none)
 |0,_,_,_,_,_,_,h,_=>by lia
 |n+1,here,rest,v,s8,s9,F,h,hl=>by
  unfold ext
  by_cases hw:(here.length:Int)<w
  .rw[if_pos hw];cases hb:best (cs L) v (ln++here) rest with
   |none=>exact⟨here,rest,v,s8,s9,rfl,F,by lia,λ_=>hb⟩
   |some x=>
    obtain⟨m,_⟩:=F.mem hb;have kK:=aeG m;have hp:=List.length_pos_of_mem m;have q:=N8 g (ld:=ld) (wt:=wt) (w:=w) (fo:=fo) (s8:=some (.int x,.sh [])) (s9:=s9) F (by lia);rw[hb] at q;have c1:tV (e2 p9 (e1 dZ (ai 6)) (ai 4)) (rK L ln ld wt w fo here rest (some (.int x,.sh [])) (some (.int x,.own)))=some false:=cV (aZ (bZ (d:=iL here) (t:=.sh [6]) rfl oq) rfl (by rw[show p9 (.int here.length) (.int w)=some (.bl (decide (w<=(here.length:Int)))) from rfl,aco (by lia)]));have st:bK (rK L ln ld wt w fo here rest (some (.int x,.sh [])) s9)=some (.nx (rK L ln ld wt w fo (here++[x]) (rest.erase x) (some (.int x,.sh [])) (some (.int x,.own)))):=by
     refine eB q (kF (ρ:=rK L ln ld wt w fo here rest (some (.int x,.sh [])) (some (.int x,.own))) (mH (b:=false) c1 (mH (a:=false) rfl (kN (b:=true) (cV (cN (ps:=[(.int x,.sh []),(.int x,.sh [9])]) rfl Wb))))) ?_);refine sq (ρ':=rK L ln ld wt w fo (here++[x]) rest (some (.int x,.sh [])) (some (.int x,.own))) ((Dh (ns:=here) (n:=x) (t1:=.sh [9]) rfl rfl (size_le (by lia))).trans rfl) ?_;exact(F9 (ns:=rest) (t:=.sh [9]) rfl rfl m).trans rfl
    obtain⟨qA,uN,v',t8,t9,e,h⟩:=KO g (n:=n) (s8:=some (.int x,.sh [])) (s9:=some (.int x,.own)) (F.step hb) (by lia) (by rw[ack];simp only[aej];lia);exact⟨qA,uN,v',t8,t9,(kc rfl st).trans e,h⟩
  .rw[aa7 hw];exact⟨here,rest,v,s8,s9,rfl,F,by lia,λz=>absurd z hw⟩
theorem Gx(h1:fa ρ=some (iL row,t1))(h2:fb ρ=some (.int cut,t2))(h:cut<=row.length):yq fa fb ρ=some (iL (row.take cut),.own):=by
 unfold yq;rw[h1,h2];show(if aU (row.map D.int)=true then some (D.lst (cutD (row.map D.int) none (some (cut:Int))),Tag.own) else none)=_;rw[if_pos (f9 row),PU (by rw[List.length_map];exact h),<- List.map_take];rfl
theorem Ks(h1:fa ρ=some (iL row,t1))(h2:fb ρ=some (.int cut,t2))(h:cut<=row.length):xy fa fb ρ=some (iL (row.drop cut),.own):=by
 unfold xy;rw[h1,h2];show(if aU (row.map D.int)=true then some (D.lst (cutD (row.map D.int) (some (cut:Int)) none),Tag.own) else none)=_;rw[if_pos (f9 row),La (by rw[List.length_map];exact h),<- List.map_drop];rfl
theorem OV(g:dN L){v:bQ}(F:Fv L ln ld wt v)(hl:ln.length+ld.length<=60)(jk:wt.length<=24):K2 [aQ L,iL ln,iL ld,iL wt,.int w,iL (ld++ext (cs L) ln w 4000 ld wt v)]=some (.bl true):=by
 obtain⟨here,rest,v',t8,t9,e,F',vd,hz⟩:=KO g (ld:=ld) (wt:=wt) (w:=w) (fo:=ld++ext (cs L) ln w 4000 ld wt v) (s8:=none) (s9:=none) F (n:=4000) (by lia) (by lia);refine cX rfl ?_;have len:ld.length<=(ld++ext (cs L) ln w 4000 ld wt v).length:=by rw[ack];lia
 refine kF (mH (a:=false) (b:=false) rfl (kN (b:=true) (cV (cN (ps:=[(iL ld,.own),(iL ld,.sh [])]) ?_ (same_ints (by lia)))))) ?_
 .rw[bA,Gx (t1:=.sh []) (t2:=.own) rfl (bZ (d:=iL ld) (t:=.sh []) rfl oq) len,List.take_left];rfl
 refine eB (d:=iL ld) (bZ (d:=iL ld) (t:=.sh []) rfl qY) (eB (d:=iL wt) (bZ (d:=iL wt) (t:=.sh []) rfl qY) ?_);refine sq (ρ:=rK L ln ld wt w (ld++ext (cs L) ln w 4000 ld wt v) ld wt none none) (pW (k_ (Ks (t1:=.sh []) (t2:=.own) rfl (bZ (d:=iL ld) (t:=.sh []) rfl oq) len)) (by rw[List.drop_left];exact e)) (d7 ?_);have q:=N8 g (ld:=ld) (wt:=wt) (w:=w) (fo:=ld++ext (cs L) ln w 4000 ld wt v) (s8:=t8) (s9:=t9) F' (by lia);have c1:e2 p9 (e1 dZ (ai 6)) (ai 4) (rK L ln ld wt w (ld++ext (cs L) ln w 4000 ld wt v) here rest t8 t9)=some (.bl (decide (w<=(here.length:Int))),.own):=aZ (bZ (d:=iL here) (t:=.sh [6]) rfl oq) rfl rfl;unfold AI;rw[c1]
 by_cases hw:(here.length:Int)<w
 .rw[aco (by lia)];dsimp only;rw[hz hw] at q;rw[aZ q rfl rfl];rfl
 .rw[abU (by lia)]
end
theorem OR{ρ:aE}(hi:ρ[i]? = some s):ρ.set i s=ρ:=aeO λn=>by
 by_cases e:i=n
 .subst e;rw[adz (ace.mp hi).1,hi]
 .rw[ads e]
noncomputable abbrev o(d:D):Slot:=some (d,.own)
def tK:TF:=tV (e2 oEq (e2 Kq (e2 NV (ai 11) (ai 12)) (eC (.int 1))) (eC (.int 1)))
def bJ:SF:=cQ tK (tL 10 (ai 12) (e1 sr (c8 (ai 10) (ai 12)))) cP
theorem Ek{ρ:aE}{ds:List D}{j:Int}{n:Nat}{l:List Int}{b:Bool}{t:Tag}(Br:ρ[10]? = some (o (.lst ds)))(GO:ai 10 ρ=some (.lst ds,.sh [10]))(MQ:ai 12 ρ=some (.int j,t))(ha:bV ds j=some (iL l))(hx:h_ ds.length j=some n)(he:ds.set n (iL l)=ds)(hm:∀d,cz ρ 10 d=ρ.set 10 (o d))(ht:tK ρ=some b):
  ∃w,WL w/\bJ ρ=some (.nx (ρ.set 10 (o (.lst (ds.set n (dR w l)))))):=by
 unfold bJ;rw[fN,ht];cases b with
 |false=>
  refine⟨D.lst,Cr,?_⟩;show some (Out.nx ρ)=some (.nx (ρ.set 10 (o (.lst (ds.set n (iL l))))));rw[he,OR Br]
 |true=>
  refine⟨D.tup,Xk,?_⟩;have e:c8 (ai 10) (ai 12) ρ=some (iL l,.sh [10]):=by
   unfold c8;rw[GO,MQ];dsimp only;rw[ha];rfl
  show tL 10 (ai 12) (e1 sr (c8 (ai 10) (ai 12))) ρ=_;unfold tL;rw[bZ (d1:=.tup (l.map D.int)) e G8,Br,MQ];dsimp only;rw[hx];dsimp only;rw[if_pos (show aI (D.tup (l.map D.int))=true by simp only[aI,f9]),hm];rfl
def rL(ns l:List Int)(L:List Sp)(row:List Int)(cut:Int)(wt ln ld:List Int)(w:Int)(f6 g7 Zt s13 vV tH:Slot):aE:=[some (dI ns,.sh []),o (iL l),o (aQ L),o (iL row),o (.int cut),o (iL wt),o (iL ln),o (iL ld),o (.int w),o (obj (cs L)),f6,g7,Zt,s13,vV,tH]
theorem Qt{ns l:List Int}{L:List Sp}{row:List Int}{cut:Int}{wt ln ld:List Int}{w k:Int}:∃w1 w2 w3,WL w1/\WL w2/\WL w3/\
  gz (n_ (eC (.int 3))) (gN 12) bJ (rL ns l L row cut wt ln ld w (o (.lst [iL ln,iL ld,iL wt])) (o (.int k)) none none none none)=some (.nx (rL ns l L row cut wt ln ld w (o (.lst [dR w1 ln,dR w2 ld,dR w3 wt])) (o (.int k)) (some (.int 2,.sh [])) none none none)):=by
 obtain⟨w1,W1,e1⟩:=Ek (ρ:=rL ns l L row cut wt ln ld w (o (.lst [iL ln,iL ld,iL wt])) (o (.int k)) (some (.int 0,.sh [])) none none none) (l:=ln) (j:=0) (n:=0) (t:=.sh []) rfl rfl rfl rfl rfl rfl (λd=>rfl) (cV (aZ (aZ (aZ (d1:=.int k) (d2:=.int 0) rfl rfl rfl) rfl rfl) rfl rfl));obtain⟨w2,W2,e2⟩:=Ek (ρ:=rL ns l L row cut wt ln ld w (o (.lst [dR w1 ln,iL ld,iL wt])) (o (.int k)) (some (.int 1,.sh [])) none none none) (l:=ld) (j:=1) (n:=1) (t:=.sh []) rfl rfl rfl rfl rfl rfl (λd=>rfl) (cV (aZ (aZ (aZ (d1:=.int k) (d2:=.int 1) rfl rfl rfl) rfl rfl) rfl rfl));obtain⟨w3,W3,e3⟩:=Ek (ρ:=rL ns l L row cut wt ln ld w (o (.lst [dR w1 ln,dR w2 ld,iL wt])) (o (.int k)) (some (.int 2,.sh [])) none none none) (l:=wt) (j:=2) (n:=2) (t:=.sh []) rfl rfl rfl rfl rfl rfl (λd=>rfl) (cV (aZ (aZ (aZ (d1:=.int k) (d2:=.int 2) rfl rfl rfl) rfl rfl) rfl rfl));refine⟨w1,w2,w3,W1,W2,W3,pW (ds:=[.int 0,.int 1,.int 2]) (u9 (n:=3) rfl (by lia)) ?_⟩;exact(kc rfl e1).trans ((kc rfl e2).trans ((kc rfl e3).trans rfl))
def b0:SF:=(bO (gD 15 (bP LW (aA (ai 9) (aA (c8 (ai 10) (eC (.int 0))) (aA (c8 (ai 10) (eC (.int 1))) (aA (c8 (ai 10) (eC (.int 2))) (aA (ai 8) aX))))))) (bO (cQ (gU (tV (bP K2 (aA (ai 2) (aA (ai 6) (aA (ai 7) (aA (ai 5) (aA (ai 8) (aA (ai 15) aX))))))))) (fQ (eC (.bl false))) cP) (bO (vH 15) (bO (cQ (jr (gU (tV (bP mL (aA (e1 jY (c8 (ai 10) (eC (.int 0)))) (aA (ai 6) aX))))) (gU (tV (bP mL (aA (e1 jY (c8 (ai 10) (eC (.int 1)))) (aA (ai 7) aX)))))) (fQ (eC (.bl false))) cP) (cQ (gU (tV (bP mL (aA (e1 jY (c8 (ai 10) (eC (.int 2)))) (aA (ai 5) aX))))) (fQ (eC (.bl false))) cP)))))
theorem D0{ρ:aE}{i j:Nat}{k:Int}{ds:List D}{w:List D->D}{l:List Int}(W:WL w)(h:ai i ρ=some (.lst ds,.sh [i]))(ha:bV ds k=some (dR w l))(hj:ai j ρ=some (iL l,.sh [j]))(hl:l.length<=1000):gU (tV (bP mL (aA (e1 jY (c8 (ai i) (eC (.int k)))) (aA (ai j) aX)))) ρ=some false:=by
 refine kN (b:=true) (cV (cN (ps:=[(iL l,.own),(iL l,.sh [j])]) ?_ (same_ints hl)));have e:c8 (ai i) (eC (.int k)) ρ=some (dR w l,.sh [i]):=by
  unfold c8;rw[h,KE];dsimp only;rw[ha];rfl
 rw[bA,bA,bZ e (W.ls l),hj];rfl
section
variable{ns l:List Int}{L:List Sp}{row:List Int}{cut:Int}{wt ln ld:List Int}{w k:Int}{w1 w2 w3:List D->D}
theorem b_0{t:Int}{tH:Slot}(g:dN L)(W1:WL w1)(W2:WL w2)(W3:WL w3){v:bQ}(F:Fv L ln ld wt v)(hv:(v.map (·.1)).Nodup)(mq:v.length<=2000)(hl:ln.length+ld.length<=60)(jk:wt.length<=24):
  b0 (rL ns l L row cut wt ln ld w (o (.lst [dR w1 ln,dR w2 ld,dR w3 wt])) (o (.int k)) (some (.int 2,.sh [])) (some (.lst [dR w1 ln,dR w2 ld,dR w3 wt],.sh [10])) (some (.int t,.sh [])) tH)=some (.nx (rL ns l L row cut wt ln ld w (o (.lst [dR w1 ln,dR w2 ld,dR w3 wt])) (o (.int k)) (some (.int 2,.sh [])) (some (.lst [dR w1 ln,dR w2 ld,dR w3 wt],.sh [10])) (some (.int t,.sh [])) (o (iL [])))):=by
 refine eB (cN (ps:=[(obj (cs L),.sh [9]),(dR w1 ln,.sh [10]),(dR w2 ld,.sh [10]),(dR w3 wt,.sh [10]),(.int w,.sh [8])]) rfl (Yn g W1 W2 W3 F hv mq hl jk)) ?_;refine kF (kN (b:=true) (cV (cN (ps:=[(aQ L,.sh [2]),(iL ln,.sh [6]),(iL ld,.sh [7]),(iL wt,.sh [5]),(.int w,.sh [8]),(iL (ld++ext (cs L) ln w 4000 ld wt v),.sh [15])]) rfl (OV g F hl jk)))) ?_;refine sq (ρ':=rL ns l L row cut wt ln ld w (o (.lst [dR w1 ln,dR w2 ld,dR w3 wt])) (o (.int k)) (some (.int 2,.sh [])) (some (.lst [dR w1 ln,dR w2 ld,dR w3 wt],.sh [10])) (some (.int t,.sh [])) (o (iL []))) ((aaD (ns:=ld++ext (cs L) ln w 4000 ld wt v) rfl).trans rfl) ?_;refine kF (mH (a:=false) (b:=false) (D0 W1 rfl rfl rfl (by lia)) (D0 W2 rfl rfl rfl (by lia))) ?_;rw[fN,D0 W3 rfl rfl rfl (by lia)];rfl
end
theorem JS:∀{row:List Int}{v:bQ},(v.map (·.1)).Nodup->((m8 C v row).map (·.1)).Nodup
 |[],v,h=>h
 |m::r,v,h=>JS (v:=cK v (br C m)) (B8 _ _ h)
theorem CN{w:List D->D}(W:WL w)(l:List Int):fq (dR w l)=true/\(py (dR w l)).canLay0=true/\(py (dR w l)).depth<=10:=by
 rcases W.lt with rfl|rfl
 .have e:py (dR D.lst l)=.list (l.map PyData.int):=by unfold dR py;rw[C3]
  rw[e];exact⟨by unfold dR fq;exact EJ l,by simp only[PyData.canLay0];exact DL l,by simp only[PyData.depth,depthAll_ints];lia⟩
 .have e:py (dR D.tup l)=.tuple (l.map PyData.int):=by unfold dR py;rw[C3]
  rw[e];exact⟨by unfold dR fq;exact EJ l,by simp only[PyData.canLay0];exact DL l,by simp only[PyData.depth,depthAll_ints];lia⟩
theorem lay_3{x y z:D}(a:fq x=true/\(py x).canLay0=true/\(py x).depth<=10)(b:fq y=true/\(py y).canLay0=true/\(py y).depth<=10)(c:fq z=true/\(py z).canLay0=true/\(py z).depth<=10):mw (.lst [x,y,z])=true:=by
 have e:py (.lst [x,y,z])=.list [py x,py y,py z]:=by
  conv=>lhs;unfold py
  unfold i8 i8 i8 i8;rfl
 unfold mw;rw[e];have h1:fq (.lst [x,y,z])=true:=by
  conv=>lhs;unfold fq
  unfold kX kX kX kX;rw[a.1,b.1,c.1];rfl
 have h2:(PyData.list [py x,py y,py z]).canLay0=true:=by simp only[PyData.canLay0,PyData.canLayAll0,a.2.1,b.2.1,c.2.1,Bool.and_self]
 have h3:(PyData.list [py x,py y,py z]).depth<=40:=by simp only[PyData.depth,PyData.depthAll];lia
 rw[h1,h2,abU h3];rfl
theorem JQ{L:List Sp}(g:dN L):∀{row:List Int}{v:bQ},(m8 (cs L) v row).length<=v.length+20*row.length
 |[],_=>aa2 _
 |m::r,v=>by
  have h:=JQ g (row:=r) (v:=cK v (br (cs L) m));have h2:=sD (br (cs L) m) v;have h3:=(oH g m).few;show(m8 (cs L) (cK v (br (cs L) m)) r).length<=v.length+20*(r.length+1)
  lia
theorem Po{ps:List (D×Tag)}(h:ρ[i]? = some (some (d0,.own)))(hg:g ρ=some ps)(ha:apart i ps=true)(hG:G d0 (ps.map (·.1))=some (r,d1)):uU i G g ρ=some (.ok r (cz ρ i d1)):=by
 unfold uU;rw[h,hg];dsimp only;rw[if_pos ha,hG];rfl
theorem BK{ps:List (D×Tag)}(h:ρ[i]? = some (some (d0,.own)))(hg:g ρ=some ps)(ha:apart i ps=true)(hG:G d0 (ps.map (·.1))=some (r,d1)):zS j (uU i G g) ρ=some (.nx (jI (cz ρ i d1) j r .own)):=by
 unfold zS;rw[Po h hg ha hG]
theorem II{r:Option Out}(h:ρ[i]? = some (some (iL ls,.own)))(hm:fm ρ=some (.int m,t))(h0:0<m)(k:∀(v:Int) (dz:List Int),0<=v->v<m->g ((cz ρ i (iL dz)).set j (some (.int v,.own)))=r):bO (su j (xM i oj (oB (xP fm) ur))) g ρ=r:=by
 obtain⟨v,dz,a,b,x⟩:=qj h hm h0;exact sq (wo x) (k v dz a b)
def rV(ns l:List Int)(s:List Slot):aE:=some (dI ns,.sh [])::some (iL l,.own)::(s++List.replicate (14-s.length) none)
theorem S7{ns:List Int}(hl:ns.length<=63):zh [dI ns]=some (.bl true):=by
 refine cX rfl ?_;obtain⟨_,_,fL,L,l1,rfl,rfl,g⟩:=X3 ns.reverse;have hLn:=g.ln;obtain⟨_,_,fR,row,l2,rfl,rfl,P0,NT,v,hv⟩:=U1 g l1;refine eB (bZ (bZ (d:=dI ns) (t:=.sh []) rfl (SA hl)) Ys) ?_;refine tw (rV ns ns.reverse []) ?_;refine sq (BK (d0:=iL ns.reverse) (ps:=[]) rfl rfl rfl fL) ?_;refine tw (rV ns l1 [o (aQ L)]) ?_;refine sq (BK (d0:=iL l1) (ps:=[(aQ L,.sh [2])]) rfl rfl rfl fR) ?_;refine tw (rV ns l2 [o (aQ L),o (iL row)]) ?_;refine II (ls:=l2) (m:=(row.length:Int)+1) rfl (aZ (bZ (d:=iL row) (t:=.sh [3]) rfl oq) rfl rfl) (by lia) λcu l3 cu1 cu2=>?_
 obtain⟨cut,rfl⟩:∃cut:Nat,cu=cut:=⟨cu.toNat,by lia⟩
 obtain⟨_,_,fW,wt,l4,rfl,rfl,Y0,jk,XZ⟩:=Wf g l3 row;refine tw (rV ns l3 [o (aQ L),o (iL row),o (.int cut)]) ?_;refine sq (BK (d0:=iL l3) (ps:=[(aQ L,.sh [2]),(iL row,.sh [3])]) rfl rfl rfl fW) ?_;refine tw (rV ns l4 [o (aQ L),o (iL row),o (.int cut),o (iL wt)]) ?_;refine eB (Gx (row:=row) (cut:=cut) (t1:=.sh [3]) (t2:=.sh [4]) rfl rfl (by lia)) ?_;refine eB (Ks (row:=row) (cut:=cut) (t1:=.sh [3]) (t2:=.sh [4]) rfl rfl (by lia)) ?_;have o8:row.take cut++row.drop cut=row:=adv cut row;have M4:(row.take cut).length+(row.drop cut).length<=30:=by rw[<- ack,o8];lia
 have F:Fv L (row.take cut) (row.drop cut) wt v:=⟨Y0,XZ,by rw[o8];exact P0,by rw[o8];exact hv⟩
 have M3:(v.map (·.1)).Nodup:=by rw[tS hv];exact JS aci
 have mq:v.length<=2000:=by rw[tS hv];have:=JQ g (row:=row) (v:=[]);simp only[aek] at this;lia
 generalize row.take cut=a at F M4;generalize row.drop cut=b at F M4;refine tw (rV ns l4 [o (aQ L),o (iL row),o (.int cut),o (iL wt),o (iL a),o (iL b)]) ?_;obtain⟨x7,l5,_,_,e5⟩:=qj (ρ:=rV ns l4 [o (aQ L),o (iL row),o (.int cut),o (iL wt),o (iL a),o (iL b)]) (i:=1) (ls:=l4) (fm:=eC (.int 17)) (m:=17) (t:=.own) rfl rfl (by lia);obtain⟨i4,l6,i40,i41,e6⟩:=qj (ρ:=rV ns l5 [o (aQ L),o (iL row),o (.int cut),o (iL wt),o (iL a),o (iL b)]) (i:=1) (ls:=l5) (fm:=eC (.int 4)) (m:=4) (t:=.own) rfl rfl (by lia);have ew:∃w,bV [D.int x7,.int b.length,.int (b.length+1),.int 16] i4=some (D.int w):=by
  rcases(show i4=0\/i4=1\/i4=2\/i4=3 by lia) with rfl|rfl|rfl|rfl<;>exact⟨_,rfl⟩
 obtain⟨w,ew⟩:=ew;have lb:=bZ (op:=dZ) (f:=ai 7) (ρ:=rV ns l5 [o (aQ L),o (iL row),o (.int cut),o (iL wt),o (iL a),o (iL b)]) (d:=iL b) (t:=.sh [7]) rfl oq;refine sq (wo (Wm (ds:=[.int x7,.int b.length,.int (b.length+1),.int 16]) (vI e5 (vI (vC lb rfl) (vI (vC (aZ (g:=eC (.int 1)) lb rfl rfl) rfl) (vI (vC (f:=eC (.int 16)) (t:=.own) rfl rfl) LK)))) e6 ew)) ?_;refine tw (rV ns l6 [o (aQ L),o (iL row),o (.int cut),o (iL wt),o (iL a),o (iL b),o (.int w)]) ?_;refine eB (cN (ps:=[(aQ L,.sh [2])]) rfl (Um g)) ?_;refine tw (rV ns l6 [o (aQ L),o (iL row),o (.int cut),o (iL wt),o (iL a),o (iL b),o (.int w),o (obj (cs L))]) ?_;refine eB (d:=.lst [iL a,iL b,iL wt]) (t:=.own) ?_ ?_
 .unfold qN;rw[bA,bA,bA,bZ (d:=iL a) (d1:=iL a) (t:=.sh [6]) rfl qY,bZ (d:=iL b) (d1:=iL b) (t:=.sh [7]) rfl qY,bZ (d:=iL wt) (d1:=iL wt) (t:=.sh [5]) rfl qY];rfl
 refine tw (rV ns l6 [o (aQ L),o (iL row),o (.int cut),o (iL wt),o (iL a),o (iL b),o (.int w),o (obj (cs L)),o (.lst [iL a,iL b,iL wt])]) ?_;refine II (ls:=l6) (m:=8) (t:=.own) rfl rfl (by lia) λk l7 _ _=>?_
 obtain⟨w1,w2,w3,W1,W2,W3,eH⟩:=Qt (ns:=ns) (l:=l7) (L:=L) (row:=row) (cut:=cut) (wt:=wt) (ln:=a) (ld:=b) (w:=w) (k:=k);refine sq (ρ:=rL ns l7 L row cut wt a b w (o (.lst [iL a,iL b,iL wt])) (o (.int k)) none none none none) eH ?_;refine eB (d:=.lst [dR w1 a,dR w2 b,dR w3 wt]) (t:=.sh [10]) rfl ?_;refine sq (ρ:=rL ns l7 L row cut wt a b w (o (.lst [dR w1 a,dR w2 b,dR w3 wt])) (o (.int k)) (some (.int 2,.sh [])) (some (.lst [dR w1 a,dR w2 b,dR w3 wt],.sh [10])) none none) (pW (ds:=[.int 0,.int 1]) (u9 (n:=2) rfl (by lia)) ((kc rfl (b_0 (t:=0) (tH:=none) g W1 W2 W3 F M3 mq (by lia) jk)).trans ((kc rfl (b_0 (t:=1) (tH:=o (iL [])) g W1 W2 W3 F M3 mq (by lia) jk)).trans rfl))) ?_;exact d7 (aZ (d1:=.lst [dR w1 a,dR w2 b,dR w3 wt]) (d2:=.lst [dR w1 a,dR w2 b,dR w3 wt]) rfl rfl (aa1 (lay_3 (CN W1 a) (CN W2 b) (CN W3 wt))))
end K33
namespace HT
open PySem PySem.W PyProof.Rows
section
variable{p q:Program}{loose:List Str}{Xt:Shared->Bool}{N:Nat}{ann:Option Value}{K:Params->Frag}{as ts:List Addr}{e:∀P,as=(K P).map (·.1)}
end
end HT
namespace K33
open PySem L2 L2.Ev
local macro_rules | `(tactic| walk_at "ba")=>`(tactic| first | exact ba_n 1 rfl fun _ _ _ _ _ _ _=>rfl | exact ba_n 2 rfl fun _ _ _ _ _ _ _=>rfl | exact ba_n 3 rfl fun _ _ _ _ _ _ _=>rfl | exact ba_n 4 rfl fun _ _ _ _ _ _ _=>rfl | exact ba_n 5 rfl fun _ _ _ _ _ _ _=>rfl | exact ba_n 6 rfl fun _ _ _ _ _ _ _=>rfl)
set_option maxHeartbeats 0 in
theorem all_mk{l:PySem.W.OpenLaw}{w:World}{K:PySem.W.Frag}{h:Heap}{mg:Str->Option Value}{fa:Addr}(X:K.In h)(G:h.Ns mainGlobals mg)(EI:mg "law"=some (.ref fa))(q:pH L K=true)(t:tab.map (look K)=tab.map want):
  ∃fd:FuncData,(∀(s:Shared) (v:Value),BindsTo s fd ⟨[v],[]⟩ [("_law_script",v)])/\∀base:Heap,K.In base->base.Ns mainGlobals mg->bT l.prog w K mg base cJ 11 fa fd ["_law_script"] (bq K zh):=by
 refine ZE (sp:=λ_=>bq K zh) X G EI (BR (s:=top 45) 28 t rfl) (λ_ _ _ _ _ _ _ _=>.of_eq rfl) λbase _ _ _ _ F=>?_
 have E:En L ⟨l.prog,w,K,mg,base⟩:=Zm X G q;have W0:=c9 X G t 0 (Pd _ E);have W1:=c9 X G t 1 (AR _ E);have W2:=c9 X G t 2 (CJ _ ⟨E,W1⟩);have W3:=c9 X G t 3 (CB _ ⟨E,W2,W1⟩);have W4:=c9 X G t 4 (Ax _ ⟨E,W1,W3⟩);have W5:=c9 X G t 5 (Dy _ ⟨E,W0,W4⟩);have W6:=c9 X G t 6 (A8 _ E);have W7:=c9 X G t 7 (Cc _ E);have W8:=c9 X G t 8 (Ff _ E);have W9:=c9 X G t 9 (Et _ ⟨E,W0,W6,W7,W8,W1⟩);have W10:=c9 X G t 10 (Ca _ ⟨E,W0,W1⟩);have ZJ:=SN t q 29 (GS _ E);have EH:=c9 X G t 11 (DA _ E);have Kc:=c9 X G t 12 (AK _ E);have NR:=n9 t 30 (D4 _ E);have Jg:=n9 t 31 (E3 _ ⟨E,EH,NR⟩);have ZM:=c9 X G t 13 (Av _ ⟨E,EH,Kc⟩);have Pj:=n9 t 32 (Ci _ ⟨E,EH,Kc,Jg,ZM⟩);have Sk:=n9 t 33 (An _ ⟨E,Pj,NR⟩);have W14:=c9 X G t 14 (C9 _ ⟨E,ZJ,Sk⟩);have MR:=c9 X G t 15 (Bb _ E);have W16:=c9 X G t 16 (EY _ E);have Z3:=c9 X G t 17 (CQ _ ⟨E,MR,W16⟩);have AW:=n9 t 34 (DI _ ⟨E,Jg⟩);have Dz:=n9 t 35 (A7 _ ⟨E,AW⟩);have Xi:=c9 X G t 18 (B3 _ ⟨E,Z3,Dz⟩);have Qk:=c9 X G t 19 (Fb _ ⟨E,Xi⟩);have Z2:=n9 t 36 (B7 _ ⟨E,AW⟩);have T3:=c9 X G t 20 (F7 _ ⟨E,Z2⟩);have Yx:=c9 X G t 21 (FJ _ ⟨E,MR,Dz⟩);have Rp:=c9 X G t 22 (Dp _ ⟨E,T3,Yx⟩);have W37:=n9 t 37 (EA _ ⟨E,AW⟩);have W23:=c9 X G t 23 (F3 _ ⟨E,W37⟩);have Ws:=c9 X G t 24 (DV _ ⟨E,Qk,Rp,W23,Dz⟩);have Kz:Dl _:=Rn X G (BR 25 t rfl) (λm k b F=>Zd E m k b F) (by walk_at "ba");have Qd:=c9 X G t 26 (F6 _ ⟨E,W6,W7,W8⟩);have Q3:=c9 X G t 27 (Dm _ ⟨E,Kz,Qd⟩);exact o_law _ ⟨E,W5,W9,W0,W10,W14,Ws,Q3,Kz⟩ _ _ F
theorem wk:Wk:=λhY hT hL hq ht vt Qj=>
 L2.aaJ (n:=63) (k:=11) (x:="_law_script") (CX:=λ_=>cJ) (sp:=λw=>bq (_:PySem.W.Frag) zh) rfl (by decide) vt ⟨λ_=>rfl,by decide,by decide,rfl⟩ hY hT hL (λw mg fa h KX G ua=>all_mk KX G (Qj ▸ ua) (hq w) (ht w)) (λw H a ns hl hz=>by
  refine⟨[dI ns],[]++[],.bl true,.cons (.yE hz (nH ns)) .nil,S7 hl,λH' v eX _ r _ _=>?_⟩;cases r;rfl) λ_ _ _ _ _ z=>z
open PySem PySem.W PyProof.Rows L2 L2.Ev
end K33
theorem PySem.Challenge.cw_linegate_k33_filled_walked_holds : PySem.Challenge.rw_linegate_k33_filled_walked.Holds := by
 exact K33.early K33.wk
